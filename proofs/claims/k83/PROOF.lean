import PyProof.Rows.All
import Wide.All
import OpenK.AllK
import Wide.FinOn
import PyProof.EqAt
import PyProof.EqKinds
import PyProof.TupleCall
import Lean
import PySem.Challenge.RW_bitrail_k83_a_desk_refuses
set_option Elab.async false
def Ya:=@List.length_map
def Yb:=@List.getElem?_eq_some_iff
def Yc:=@Nat.le_refl
def Yd:=@List.getElem?_eq_getElem
def Ye:=@Nat.le_trans
def Yf:=@List.mem_cons_of_mem
def Yg:=@List.mem_singleton
def Yh:=@PySem.Heap.get?_push_of_some
def Yi:=@List.map_append
def Yj:=@List.length_append
def Yk:=@List.getElem?_map
def Yl:=@List.take_of_length_le
def Ym:=@Bool.false_ne_true
def Yn:=@PySem.wpAny_bind
def Yo:=@List.mem_cons_self
def Yp:=@List.take_succ_eq_append_getElem
def Yq:=@List.mem_of_getElem?
def Yr:=@List.mem_cons
def Ys:=@decide_eq_false
def Yt:=@PySem.Heap.lt_size
def Yu:=@List.all_eq_true
def Yv:=@Nat.lt_of_lt_of_le
def Yw:=@decide_eq_true
def Yx:=@PySem.Str.length_append
def Yy:=@List.map_cons
def Yz:=@List.size_toArray
def YA:=@Nat.add_le_add
def YB:=@PySem.Heap.get?_push_size
def YC:=@List.length_take
def YD:=@List.mem_append_right
def YE:=@congrArg
def YF:=@Option.some.inj
def YG:=@List.mem_append
def YH:=@Nat.lt_irrefl
def YI:=@List.mem_map
def YJ:=@List.getD_eq_getElem?_getD
def YK:=@PySem.F.excBase_ValueError
def YL:=@PySem.wpAny_mono
def YM:=@Nat.ne_of_lt
def YN:=@List.mem_filterMap
def YO:=@Nat.zero_le
def YQ:=@List.getElem?_append_left
def YR:=@Option.map_eq_some_iff
def YS:=@PySem.wpAny_pure
def YT:=@Bool.and_eq_true
def YU:=@List.getElem_mem
def YV:=@List.getElem?_append_right
def YW:=@Array.getElem?_eq_some_iff
def YX:=@List.length_cons
def YY:=@PySem.Heap.FunFrames.mem
def YZ:=@List.append_nil
def Y0:=@List.nodup_cons
def Y1:=@Nat.min_eq_right
def Y2:=@PyProof.Rows.callWith_type1
def Y3:=@of_decide_eq_true
def Y4:=@PySem.Heap.get?_update_other
def Y5:=@Nat.lt_of_le_of_lt
def Y6:=@List.lookup_cons
def Y7:=@List.append_assoc
def Y8:=@beq_eq_false_iff_ne
def Y9:=@List.length_drop
def Xa:=@List.getElem?_eq_none
def Xb:=@Nat.min_eq_left
def Xc:=@List.getElem?_set_ne
def Xd:=@PySem.wpAny_Call_Name_kw
def Xe:=@List.length_range
def Xf:=@List.all_cons
def Xg:=@PySem.PassesOwn.never
def Xh:=@PySem.wpAny_truthy_bool
def Xi:=@decide_eq_true_iff
def Xj:=@List.drop_of_length_le
def Xk:=@List.getElem?_zipWith
def Xl:=@Int.toNat_natCast
def Xm:=@List.getElem?_set
def Xn:=@PySem.Calls.spliced_cons
def Xo:=@beq_iff_eq
def Xp:=@List.map_map
def Xq:=@Nat.lt_succ_self
def Xr:=@List.map_nil
def Xs:=@Decidable.byContradiction
def Xu:=@PySem.mem_of_lookup
def Xv:=@List.find?_cons
def Xw:=@Int.natCast_nonneg
def Xx:=@Nat.le_succ
def Xy:=@List.getLast?_cons_cons
def Xz:=@Nat.le_of_lt
def XA:=@PySem.F.plainAttrs_str
def XB:=@PySem.Obj.data_mapFields
def XC:=@List.length_replicate
def XD:=@PySem.wpAny_field
def XE:=@Nat.log2_le_self
def XF:=@List.any_cons
def XG:=@List.mem_append_left
def XH:=@Bool.eq_iff_iff
def XI:=@List.length_set
def XJ:=@List.mem_map_of_mem
def XM:=@Nat.lt_trans
def XN:=@Array.append_assoc
def XO:=@PySem.Calls.evalArgs_plain
def XQ:=@PySem.wpAny_passesOwn
def XR:=@PySem.codeAny_mono
def XS:=@PySem.Calls.Constant_str
def XT:=@PySem.wpAny_setField
namespace Hd
open PySem PyProof.Rows
open PySem.W PySem.Calls
theorem end0 (t:Thread):(endAt 0 t).isSome=through t:=by
  obtain⟨cur,code,pos,st⟩:=t
  cases st with
  | nil=>cases cur with
    |pure f=>cases f <;> rfl
    |_=>rfl
  |cons a l=>cases cur <;> rfl
theorem top_of_seg {tb:String->Option Builtin}{p:Program}{w:World}{m:Nat}{ann:Option Value}:∀{n:Nat}{s s':Shared}{t:Thread}{f:Flow}{c:Code}{x:Pos},
    segRun tb p w m ann 0 n s t=some (f,s',c,x)->topRun tb p w m ann n s t=some s'
  |0,_,_,_,_,_,_,h=>by simp[segRun]at h
  | n + 1,s,s',t,f,c,x,h=>by
    unfold segRun at h
    unfold topRun
    rw[<-end0 t]
    cases he:endAt 0 t with
    |some g=>rw[he]at h;cases h;rfl
    | none=>
      rw[he]at h
      dsimp only[Option.isSome]at h ⊢
      cases k:stepOk m ann t with
      |false=>rw[k]at h;cases h
      | true=>
        rw[k]at h
        dsimp only at h ⊢
        cases g:step (denote tb) p w s t with
        |halt o z=>rw[g]at h;cases h
        |go z t'=>rw[g]at h;exact top_of_seg h
def lookT (T:BT)(n a:Nat):Option Obj:=match Nat.blt a n with
  |true=>(match T.get a with | some o=>alive o | none=>none)
  |false=>none
theorem lookT_get {T:BT}{n a:Nat}{life:Life}{o:Obj}(h:lookT T n a=some o):(absHeap T n life).get? a=some o:=by
  unfold lookT at h
  cases c:Nat.blt a n with
  |false=>rw[c]at h;cases h
  | true=>
    rw[c]at h
    dsimp only at h
    cases g:T.get a with
    |none=>rw[g]at h;cases h
    | some x=>
      rw[g]at h
      rw[abs_get (Nat.le_of_ble_eq_true c) g]
      exact h
theorem looks_get {T:BT}{n:Nat}{life:Life}:∀{as:List Addr}{os:List Obj},as.map (lookT T n)=os.map some->as.map (absHeap T n life).get? =os.map some
  |[], [],_=>rfl
  |[],_::_,h=>by cases h
  |_::_, [],h=>by cases h
  | a::as,o::os,h=>by
    rw[Yy,Yy]at h
    injection h with h1 h2
    rw[Yy,Yy,looks_get h2]
    exact YE (·::os.map some) (lookT_get h1)
abbrev look (p q:Program)(loose:List Str)(Xt:Shared->Bool)(as:List Addr)(h:Heap)(s:SharedT):=
  (staticsOk (importedModules p.main.body) h s.abs.heap && namesBound p s.abs.heap && gensDone s.abs && laidKept h s.abs.heap,openSeen q loose (importedModules p.main.body) Xt true s.abs,as.map (lookT s.tree s.n))
theorem left_whole {p q:Program}{loose:List Str}{Xt:Shared->Bool}{as:List Addr}{os_:World->List Obj}{N m:Nat}{ann:Option Value}(S:World->OsState->SharedT)
    (op:∀w:World,(fencedOpening treeTable p w N).map (fun s=>(s.heap,s.gens,s.drawn,s.toks))=some (boot_heap w.params,Array.mk [],boot_drawn,boot_toks))
    (size : ∀ w : World, ((boot_heap w.params).isNs mainGlobals, (boot_heap w.params).objs.size, (boot_heap w.params).nsMap mainGlobals "__annotations__") = (true, m, ann))
    (abs:∀w os,(S w os).abs=⟨boot_heap w.params,Array.mk [],boot_drawn,boot_toks,os⟩)
    (whole:∀w:World,(fun os=>(segRunT treeTable p w m ann 0 N (S w os) (topStub p)).map fun r=>look p q loose Xt as (boot_heap w.params) r.2.1)=fun _=>some (true,openGood q loose,(os_ w).map some)):LeftO p q loose Xt (fun s=>as.map s.heap.get?) (fun w=>(os_ w).map some) N:=fun w=>by
  obtain⟨⟨h,gs,d,k,os⟩,e,e'⟩:=YR.mp (op w)
  obtain⟨rfl,rfl,rfl,rfl⟩:h=boot_heap w.params/\gs=Array.mk []/\d=boot_drawn/\k=boot_toks:=by simpa using e'
  obtain⟨y1,y2,y3⟩:_/\_/\_:=by simpa only[Prod.mk.injEq] using size w
  obtain⟨⟨f,s',c,x⟩,r1,r2⟩:=YR.mp (congrFun (whole w) os)
  obtain⟨l1,l2,l3⟩:_/\_/\_:=by simpa only[look,Prod.mk.injEq] using r2
  have l4:as.map s'.abs.heap.get? =(os_ w).map some:=looks_get l3
  have r:=top_of_seg (segRun_of r1)
  rw[abs]at r
  have t:topFrom treeTable p w N ⟨boot_heap w.params,Array.mk [],boot_drawn,boot_toks,os⟩=some s'.abs:=by
    unfold topFrom
    dsimp only
    rw[y1,y2,y3,r]
    show (match staticsOk (importedModules p.main.body) (boot_heap w.params) s'.abs.heap && namesBound p s'.abs.heap && gensDone s'.abs && laidKept (boot_heap w.params) s'.abs.heap with | true=>_ | false=>_)=_
    rw[l1]
  unfold openEnds
  rw[e]
  refine(YE (Option.map _) t).trans ?_
  exact YE some (by show (_,as.map s'.abs.heap.get?)=(_,(os_ w).map some);rw[l2,l4])
abbrev r (a:Addr):Value:= .ref a
abbrev s (x:Str)(t:Tok):Value:= .str x t
abbrev i (x:Int)(t:Tok):Value:= .int x t
abbrev t (x:String):Value:= .type x
abbrev b (x:String):Value:= .builtin x
abbrev tp (l:List Value):Obj:=⟨.type "tuple",none,.seq l.toArray 0, #[]⟩
abbrev co (l:List Value):Obj:=⟨.type "code",none,.fields l.toArray, #[]⟩
abbrev di (c:Value)(l:List DictEntry)(n:Nat):Obj:=⟨c,none,.dict l.toArray n, #[]⟩
abbrev e (P:Params)(x:Str)(t:Tok)(v:Value):DictEntry:=⟨PyData.keyHash P x,.str x t,v⟩
abbrev cl (c:ClassData)(l:List (Option Value)):Obj:=⟨.type "type",none,.cls c,l.toArray⟩
abbrev o (v:Value):Option Value:=some v
abbrev sf (p:Program)(k:Nat):Stmt:=p.main.body.getD k default
def sub (k:Nat):Stmt->Stmt
  |.ClassDef _ _ _ b _ _ _ _ _ _ _=>b.getD k default
  |x=>x
def fn (q:Str)(d kw doc md:Value)(c bl:Addr):Stmt->Obj
  |.FunctionDef n a b _ _ _ sc _ _ _=>⟨.type "function",none,.func { name:=n,qualname:=q,params:=a,body:= .stmts b,scope:=sc,globals:=3,closure:=[],defaults:=d,kwdefaults:=kw,doc:=doc,pyModule:=md,code:= .ref c,builtins:=bl }, #[]⟩
  |_=>default
def dr:Stmt->DefRec
  |.FunctionDef n a b _ _ _ sc _ _ x=>⟨n,a,b,sc,x⟩
  |_=>⟨"",⟨[], [],none, [], [],none, []⟩, [],default,default⟩
abbrev cc (nm qn:Str)(t l a fl x tb:Nat)(d v f:Value)(z n t':Nat):Obj:=co [s nm t,s qn (t+1),s "/claim/cut.py" (t+2),i l 0,i a 0,i 0 0,i 0 0,i fl 0,r x,.bool true,i 181 0,r tb,d,v,f,r z,i n 0,i l 0,s "/claim/cut.py" t']
abbrev fo (q md:Str)(t:Tok)(c:Addr)(x:Stmt):Obj:=fn q .none .none .none (s md t) c 0 x
noncomputable def tree (P:Params):BT:=(.node (boot_o_0 P) (.node (boot_o_1 P) (.node (boot_o_3 P) (.node (boot_o_7 P) .nil .nil) .nil) (.node (boot_o_5 P) (.node (boot_o_9 P) .nil .nil) .nil)) (.node (boot_o_2 P) (.node (boot_o_4 P) (.node (boot_o_8 P) .nil .nil) .nil) (.node (boot_o_6 P) (.node (boot_o_10 P) .nil .nil) .nil)))
noncomputable def S (w:World)(os:OsState):SharedT:=⟨tree w.params,11,(boot_heap w.params).life,Array.mk [],boot_drawn,boot_toks,os⟩
theorem S_abs (w:World)(os:OsState):(S w os).abs=⟨boot_heap w.params,Array.mk [],boot_drawn,boot_toks,os⟩:=by kernel_rfl
end Hd
namespace Hd
open PySem PyProof.Rows
open PySem.W PySem.Calls
set_option maxRecDepth 100000
noncomputable section
abbrev p:Program:=PySem.Challenge.pw_bitrail_k83_a_desk_refuses
noncomputable def K (P : Params) : Frag := (nat_lit 2, di .none [] 0) :: (nat_lit 3, di (t "dict") [e P "__name__" 165 (s "law_bitrail_k83_a_desk_refuses" 2130), e P "__doc__" 166 .none, e P "__package__" 167 .none, e P "__loader__" 168 (b "__main__.__loader__#opaque"), e P "__spec__" 169 .none, e P "__annotations__" 170 (r 6), e P "__builtins__" 171 (r 4), e P "__file__" 173 (s "/claim/cut.py" 172), e P "__cached__" 174 .none, e P "_wall" 193 (r 21), e P "RailError" 213 (r 31), e P "NoBits" 229 (r 44), e P "NoName" 245 (r 56), e P "NoKey" 261 (r 68), e P "NoFrame" 277 (r 80), e P "NoPost" 293 (r 92), e P "NoThing" 309 (r 104), e P "NoRail" 325 (r 116), e P "NoRow" 350 (r 135), e P "HIGHEST_BYTE" 354 (i 255 353), e P "bits_of" 360 (r 142), e P "number_of" 369 (r 149), e P "drawn" 375 (r 154), e P "are_bytes" 381 (r 159), e P "ear" 393 (r 166), e P "PIECE_BYTES" 397 (i 5 396), e P "MOST_BYTES_things" 399 (i 75 398), e P "cut" 405 (r 171), e P "check_thing" 413 (r 178), e P "piece_of" 424 (r 185), e P "check_piece" 435 (r 192), e P "is_size" 444 (r 199), e P "Joiner" 534 (r 265), e P "divided" 547 (r 276), e P "KEY" 551 (i 64647 550), e P "CHECK_BITS" 553 (i 15 552), e P "rest_of" 560 (r 283), e P "check_of" 567 (r 290), e P "NAME_BITS" 571 (i 8 570), e P "HIGHEST_NAME" 573 (i 255 572), e P "is_name" 580 (r 297), e P "is_wanted" 588 (r 304), e P "MOST_ALIKE" 592 (i 5 591), e P "Streak" 643 (r 342), e P "put_in" 653 (r 353), e P "SIZE_AT" 657 (i 9 656), e P "SIZE_BITS" 659 (i 3 658), e P "DATA_AT" 661 (i 12 660), e P "BYTE_BITS" 663 (i 8 662), e P "MOST_BYTES_frames" 665 (i 7 664), e P "check_frame" 673 (r 360), e P "frame_bits" 683 (r 367), e P "is_complete" 690 (r 374), e P "told_size" 697 (r 381), e P "read_frame" 703 (r 386), e P "wire_of" 711 (r 393), e P "GREAT_FAULT" 715 (i 8 714), e P "SMALL_FAULT" 717 (i 1 716), e P "QUIET_FROM" 719 (i 12 718), e P "OFF_FROM" 721 (i 18 720), e P "Count" 800 (r 459), e P "Reader" 862 (r 508), e P "ANSWER_AT" 866 (i 1 865), e P "VOTES_AT" 868 (i 9 867), e P "Tail" 941 (r 564), e P "ReadTail" 965 (r 585), e P "SpeakTail" 989 (r 604), e P "FLAG_BITS" 993 (i 6 992), e P "REST_TURNS" 995 (i 3 994), e P "QUIET_TURNS" 997 (i 8 996), e P "DUEL_BITS" 999 (i 9 998), e P "begun_reader" 1006 (r 613), e P "unless_off" 1015 (r 620), e P "fault_of" 1023 (r 627), e P "refusal_of" 1031 (r 634), e P "blame_of" 1038 (r 641), e P "Free" 1092 (r 679), e P "Speaks" 1151 (r 721), e P "Reads" 1207 (r 763), e P "InTail" 1263 (r 805), e P "Flagging" 1318 (r 847), e P "Settles" 1371 (r 889), e P "Rests" 1424 (r 931), e P "Off" 1468 (r 966), e P "VOTES" 1474 (r 971), e P "check_votes" 1481 (r 978), e P "check_choice" 1488 (r 985), e P "copies" 1494 (r 990), e P "Post" 1625 (r 1098), e P "MOST_POSTS" 1629 (i 5 1628), e P "Rail" 1787 (r 1225), e P "heard_well" 1796 (r 1236), e P "STRIP_BITS" 1800 (i 40 1799), e P "FIGURES" 1802 (i 6 1801), e P "SIGNS" 1804 (s "_-" 1803), e P "strips" 1810 (r 1241), e P "strip_of" 1816 (r 1246), e P "MOST_FIGURES" 1820 (i 6 1819), e P "MOST_TURNS" 1822 (i 2000 1821), e P "MOST_BITS" 1824 (i 400 1823), e P "FORMS" 1882 (r 1247), e P "read_row" 1894 (r 1278), e P "value_of" 1904 (r 1285), e P "number_in" 1910 (r 1290), e P "choice_of" 1920 (r 1297), e P "dotted" 1926 (r 1302), e P "frames_text" 1932 (r 1307), e P "thing_text" 1940 (r 1314), e P "told_of" 1948 (r 1321), e P "things_of" 1959 (r 1328), e P "part_of" 1968 (r 1335), e P "say_hand" 1976 (r 1342), e P "say_thing" 1986 (r 1349), e P "say_wrong" 1994 (r 1356), e P "say_run" 2002 (r 1363), e P "say_bits" 2010 (r 1370), e P "say_draw" 2019 (r 1377), e P "say_got" 2027 (r 1384), e P "say_waits" 2035 (r 1391), e P "say_things" 2041 (r 1396), e P "say_stance" 2050 (r 1403), e P "say_faults" 2058 (r 1410), e P "ANSWERS" 2081 (r 1411), e P "Desk" 2129 (r 1442), e P "_law_mix" 2141 (r 1453), e P "_law_byte" 2149 (r 1460), e P "_law_rail" 2160 (r 1467), e P "_law_name" 2168 (r 1474), e P "_law_data" 2174 (r 1479), e P "_law_is_good" 2182 (r 1486), e P "_law_pieces" 2188 (r 1491), e P "_law_handed" 2194 (r 1496), e P "_law_asked" 2207 (r 1503), e P "_law_rail_step" 2213 (r 1508), e P "_law_hand_step" 2219 (r 1513), e P "_law_step" 2235 (r 1520), e P "law" 2241 (r 1525)] 137) :: (nat_lit 30, di (t "dict") [e P "__module__" 203 (s "bitrail.errors" 194), e P "__firstlineno__" 207 (i 5 206), e P "__static_attributes__" 208 (r 29), e P "__weakref__" 210 (r 32), e P "__doc__" 211 .none] 3) :: (nat_lit 31, cl { name := "RailError", bases := [t "ValueError"], mro := [r 31, t "ValueError", t "Exception", t "BaseException", t "object"], ns := 30, qualname := "RailError", hasDict := true, subclasses := [r 44, r 56, r 68, r 80, r 92, r 104, r 116, r 135] } [o (r 22), .none, o (s "RailError" 196), o (s "RailError" 204), o (b "ValueError.__new__"), o (.bool true)]) :: (nat_lit 43, di (t "dict") [e P "__module__" 221 (s "bitrail.errors" 194), e P "__firstlineno__" 225 (i 7 224), e P "__static_attributes__" 226 (r 42), e P "__doc__" 227 .none] 2) :: (nat_lit 44, cl { name := "NoBits", bases := [r 31], mro := [r 44, r 31, t "ValueError", t "Exception", t "BaseException", t "object"], ns := 43, qualname := "NoBits", hasDict := true, subclasses := [] } [o (r 35), .none, o (s "NoBits" 214), o (s "NoBits" 222), o (b "ValueError.__new__"), o (.bool true)]) :: (nat_lit 55, di (t "dict") [e P "__module__" 237 (s "bitrail.errors" 194), e P "__firstlineno__" 241 (i 9 240), e P "__static_attributes__" 242 (r 54), e P "__doc__" 243 .none] 2) :: (nat_lit 56, cl { name := "NoName", bases := [r 31], mro := [r 56, r 31, t "ValueError", t "Exception", t "BaseException", t "object"], ns := 55, qualname := "NoName", hasDict := true, subclasses := [] } [o (r 47), .none, o (s "NoName" 230), o (s "NoName" 238), o (b "ValueError.__new__"), o (.bool true)]) :: (nat_lit 67, di (t "dict") [e P "__module__" 253 (s "bitrail.errors" 194), e P "__firstlineno__" 257 (i 11 256), e P "__static_attributes__" 258 (r 66), e P "__doc__" 259 .none] 2) :: (nat_lit 68, cl { name := "NoKey", bases := [r 31], mro := [r 68, r 31, t "ValueError", t "Exception", t "BaseException", t "object"], ns := 67, qualname := "NoKey", hasDict := true, subclasses := [] } [o (r 59), .none, o (s "NoKey" 246), o (s "NoKey" 254), o (b "ValueError.__new__"), o (.bool true)]) :: (nat_lit 79, di (t "dict") [e P "__module__" 269 (s "bitrail.errors" 194), e P "__firstlineno__" 273 (i 13 272), e P "__static_attributes__" 274 (r 78), e P "__doc__" 275 .none] 2) :: (nat_lit 80, cl { name := "NoFrame", bases := [r 31], mro := [r 80, r 31, t "ValueError", t "Exception", t "BaseException", t "object"], ns := 79, qualname := "NoFrame", hasDict := true, subclasses := [] } [o (r 71), .none, o (s "NoFrame" 262), o (s "NoFrame" 270), o (b "ValueError.__new__"), o (.bool true)]) :: (nat_lit 91, di (t "dict") [e P "__module__" 285 (s "bitrail.errors" 194), e P "__firstlineno__" 289 (i 15 288), e P "__static_attributes__" 290 (r 90), e P "__doc__" 291 .none] 2) :: (nat_lit 92, cl { name := "NoPost", bases := [r 31], mro := [r 92, r 31, t "ValueError", t "Exception", t "BaseException", t "object"], ns := 91, qualname := "NoPost", hasDict := true, subclasses := [] } [o (r 83), .none, o (s "NoPost" 278), o (s "NoPost" 286), o (b "ValueError.__new__"), o (.bool true)]) :: (nat_lit 103, di (t "dict") [e P "__module__" 301 (s "bitrail.errors" 194), e P "__firstlineno__" 305 (i 17 304), e P "__static_attributes__" 306 (r 102), e P "__doc__" 307 .none] 2) :: (nat_lit 104, cl { name := "NoThing", bases := [r 31], mro := [r 104, r 31, t "ValueError", t "Exception", t "BaseException", t "object"], ns := 103, qualname := "NoThing", hasDict := true, subclasses := [] } [o (r 95), .none, o (s "NoThing" 294), o (s "NoThing" 302), o (b "ValueError.__new__"), o (.bool true)]) :: (nat_lit 115, di (t "dict") [e P "__module__" 317 (s "bitrail.errors" 194), e P "__firstlineno__" 321 (i 19 320), e P "__static_attributes__" 322 (r 114), e P "__doc__" 323 .none] 2) :: (nat_lit 116, cl { name := "NoRail", bases := [r 31], mro := [r 116, r 31, t "ValueError", t "Exception", t "BaseException", t "object"], ns := 115, qualname := "NoRail", hasDict := true, subclasses := [] } [o (r 107), .none, o (s "NoRail" 310), o (s "NoRail" 318), o (b "ValueError.__new__"), o (.bool true)]) :: (nat_lit 134, di (t "dict") [e P "__module__" 333 (s "bitrail.errors" 194), e P "__firstlineno__" 337 (i 21 336), e P "__init__" 345 (r 132), e P "__static_attributes__" 347 (r 133), e P "__doc__" 348 .none] 2) :: (nat_lit 135, cl { name := "NoRow", bases := [r 31], mro := [r 135, r 31, t "ValueError", t "Exception", t "BaseException", t "object"], ns := 134, qualname := "NoRow", hasDict := true, subclasses := [] } [o (r 119), .none, o (s "NoRow" 326), o (s "NoRow" 334), o (b "ValueError.__new__"), o (.bool true)]) :: (nat_lit 158, cc "are_bytes" "are_bytes" 376 38 1 3 155 156 .none .none .none 157 379 380) :: (nat_lit 159, fo "are_bytes" "bitrail.bits" 351 158 (sf p 16)) :: (nat_lit 170, cc "cut" "cut" 400 52 2 3 167 168 .none .none .none 169 403 404) :: (nat_lit 171, fo "cut" "bitrail.things" 394 170 (sf p 22)) :: (nat_lit 177, cc "check_thing" "check_thing" 406 57 2 3 172 173 .none (r 174) (r 175) 176 411 412) :: (nat_lit 178, fo "check_thing" "bitrail.things" 394 177 (sf p 23)) :: (nat_lit 184, cc "piece_of" "piece_of" 414 64 4 3 179 180 .none (r 181) (r 182) 183 422 423) :: (nat_lit 185, fo "piece_of" "bitrail.things" 394 184 (sf p 24)) :: (nat_lit 212, cc "__init__" "Joiner.__init__" 457 83 1 3 207 208 .none (r 209) (r 210) 211 461 462) :: (nat_lit 213, fo "Joiner.__init__" "bitrail.joiners" 425 212 (sub 0 (sf p 28))) :: (nat_lit 254, cc "end" "Joiner.end" 507 128 1 3 249 250 .none (r 251) (r 252) 253 511 512) :: (nat_lit 255, fo "Joiner.end" "bitrail.joiners" 425 254 (sub 6 (sf p 28))) :: (nat_lit 264, di (t "dict") [e P "__module__" 452 (s "bitrail.joiners" 425), e P "__firstlineno__" 456 (i 81 455), e P "__init__" 463 (r 213), e P "take" 472 (r 220), e P "begin_thing" 481 (r 227), e P "goes_on" 489 (r 234), e P "add_piece" 497 (r 241), e P "break_off" 506 (r 248), e P "end" 513 (r 255), e P "is_open" 520 (r 262), e P "__static_attributes__" 527 (r 263), e P "__dict__" 529 (r 266), e P "__weakref__" 531 (r 267), e P "__doc__" 532 .none] 4) :: (nat_lit 265, cl { name := "Joiner", bases := [t "object"], mro := [r 265, t "object"], ns := 264, qualname := "Joiner", hasDict := true, subclasses := [] } [.none, .none, o (s "Joiner" 445), o (s "Joiner" 453), o (b "object.__new__"), o (.bool true)]) :: (nat_lit 296, cc "is_name" "is_name" 574 158 1 3 291 292 .none (r 293) (r 294) 295 578 579) :: (nat_lit 297, fo "is_name" "bitrail.names" 568 296 (sf p 39)) :: (nat_lit 341, di (t "dict") [e P "__module__" 600 (s "bitrail.putting" 589), e P "__firstlineno__" 604 (i 164 603), e P "__init__" 611 (r 318), e P "lengthen" 619 (r 325), e P "is_full" 626 (r 332), e P "is_too_long" 633 (r 339), e P "__static_attributes__" 636 (r 340), e P "__dict__" 638 (r 343), e P "__weakref__" 640 (r 344), e P "__doc__" 641 .none] 4) :: (nat_lit 342, cl { name := "Streak", bases := [t "object"], mro := [r 342, t "object"], ns := 341, qualname := "Streak", hasDict := true, subclasses := [] } [.none, .none, o (s "Streak" 593), o (s "Streak" 601), o (b "object.__new__"), o (.bool true)]) :: (nat_lit 359, cc "check_frame" "check_frame" 666 195 2 3 354 355 .none (r 356) (r 357) 358 671 672) :: (nat_lit 360, fo "check_frame" "bitrail.frames" 654 359 (sf p 51)) :: (nat_lit 406, cc "__init__" "Count.__init__" 734 230 1 3 401 402 .none (r 403) (r 404) 405 738 739) :: (nat_lit 407, fo "Count.__init__" "bitrail.counts" 712 406 (sub 0 (sf p 62))) :: (nat_lit 441, cc "number" "Count.number" 771 246 1 3 436 437 .none (r 438) (r 439) 440 775 776) :: (nat_lit 442, fo "Count.number" "bitrail.counts" 712 441 (sub 5 (sf p 62))) :: (nat_lit 455, cc "is_off" "Count.is_off" 785 252 1 3 450 451 .none (r 452) (r 453) 454 789 790) :: (nat_lit 456, fo "Count.is_off" "bitrail.counts" 712 455 (sub 7 (sf p 62))) :: (nat_lit 458, di (t "dict") [e P "__module__" 729 (s "bitrail.counts" 712), e P "__firstlineno__" 733 (i 228 732), e P "__init__" 740 (r 407), e P "fault" 748 (r 414), e P "blame" 755 (r 421), e P "good" 762 (r 428), e P "move" 770 (r 435), e P "number" 777 (r 442), e P "is_quiet" 784 (r 449), e P "is_off" 791 (r 456), e P "__static_attributes__" 793 (r 457), e P "__dict__" 795 (r 460), e P "__weakref__" 797 (r 461), e P "__doc__" 798 .none] 4) :: (nat_lit 459, cl { name := "Count", bases := [t "object"], mro := [r 459, t "object"], ns := 458, qualname := "Count", hasDict := true, subclasses := [] } [.none, .none, o (s "Count" 722), o (s "Count" 730), o (b "object.__new__"), o (.bool true)]) :: (nat_lit 507, di (t "dict") [e P "__module__" 810 (s "bitrail.readers" 801), e P "__firstlineno__" 814 (i 255 813), e P "__init__" 821 (r 477), e P "hear" 830 (r 484), e P "judged" 837 (r 491), e P "plain" 844 (r 498), e P "frame" 851 (r 505), e P "__static_attributes__" 855 (r 506), e P "__dict__" 857 (r 509), e P "__weakref__" 859 (r 510), e P "__doc__" 860 .none] 4) :: (nat_lit 508, cl { name := "Reader", bases := [t "object"], mro := [r 508, t "object"], ns := 507, qualname := "Reader", hasDict := true, subclasses := [] } [.none, .none, o (s "Reader" 803), o (s "Reader" 811), o (b "object.__new__"), o (.bool true)]) :: (nat_lit 563, di (t "dict") [e P "__module__" 876 (s "bitrail.tails" 863), e P "__firstlineno__" 880 (i 285 879), e P "__init__" 889 (r 526), e P "says" 896 (r 533), e P "hear" 905 (r 540), e P "is_fault" 914 (r 547), e P "judged_vote" 922 (r 554), e P "place" 929 (r 561), e P "__static_attributes__" 934 (r 562), e P "__dict__" 936 (r 565), e P "__weakref__" 938 (r 566), e P "__doc__" 939 .none] 4) :: (nat_lit 564, cl { name := "Tail", bases := [t "object"], mro := [r 564, t "object"], ns := 563, qualname := "Tail", hasDict := true, subclasses := [r 585, r 604] } [.none, .none, o (s "Tail" 869), o (s "Tail" 877), o (b "object.__new__"), o (.bool true)]) :: (nat_lit 584, di (t "dict") [e P "__module__" 949 (s "bitrail.tails" 863), e P "__firstlineno__" 953 (i 317 952), e P "__init__" 961 (r 582), e P "__static_attributes__" 962 (r 583), e P "__doc__" 963 .none] 2) :: (nat_lit 585, cl { name := "ReadTail", bases := [r 564], mro := [r 585, r 564, t "object"], ns := 584, qualname := "ReadTail", hasDict := true, subclasses := [] } [o (r 569), .none, o (s "ReadTail" 942), o (s "ReadTail" 950), o (b "object.__new__"), o (.bool true)]) :: (nat_lit 603, di (t "dict") [e P "__module__" 973 (s "bitrail.tails" 863), e P "__firstlineno__" 977 (i 321 976), e P "__init__" 985 (r 601), e P "__static_attributes__" 986 (r 602), e P "__doc__" 987 .none] 2) :: (nat_lit 604, cl { name := "SpeakTail", bases := [r 564], mro := [r 604, r 564, t "object"], ns := 603, qualname := "SpeakTail", hasDict := true, subclasses := [] } [o (r 588), .none, o (s "SpeakTail" 966), o (s "SpeakTail" 974), o (b "object.__new__"), o (.bool true)]) :: (nat_lit 654, cc "__init__" "Free.__init__" 1051 347 2 3 649 650 .none (r 651) (r 652) 653 1056 1057) :: (nat_lit 655, fo "Free.__init__" "bitrail.stances" 990 654 (sub 0 (sf p 81))) :: (nat_lit 661, cc "shown" "Free.shown" 1059 350 1 3 656 657 .none (r 658) (r 659) 660 1063 1064) :: (nat_lit 662, fo "Free.shown" "bitrail.stances" 990 661 (sub 1 (sf p 81))) :: (nat_lit 678, di (t "dict") [e P "__module__" 1046 (s "bitrail.stances" 990), e P "__firstlineno__" 1050 (i 345 1049), e P "__init__" 1058 (r 655), e P "shown" 1065 (r 662), e P "says" 1073 (r 669), e P "step" 1083 (r 676), e P "__static_attributes__" 1085 (r 677), e P "__dict__" 1087 (r 680), e P "__weakref__" 1089 (r 681), e P "__doc__" 1090 .none] 4) :: (nat_lit 679, cl { name := "Free", bases := [t "object"], mro := [r 679, t "object"], ns := 678, qualname := "Free", hasDict := true, subclasses := [] } [.none, .none, o (s "Free" 1039), o (s "Free" 1047), o (b "object.__new__"), o (.bool true)]) :: (nat_lit 720, di (t "dict") [e P "__module__" 1100 (s "bitrail.stances" 990), e P "__firstlineno__" 1104 (i 367 1103), e P "__init__" 1114 (r 697), e P "shown" 1121 (r 704), e P "says" 1129 (r 711), e P "step" 1140 (r 718), e P "__static_attributes__" 1144 (r 719), e P "__dict__" 1146 (r 722), e P "__weakref__" 1148 (r 723), e P "__doc__" 1149 .none] 4) :: (nat_lit 721, cl { name := "Speaks", bases := [t "object"], mro := [r 721, t "object"], ns := 720, qualname := "Speaks", hasDict := true, subclasses := [] } [.none, .none, o (s "Speaks" 1093), o (s "Speaks" 1101), o (b "object.__new__"), o (.bool true)]) :: (nat_lit 762, di (t "dict") [e P "__module__" 1159 (s "bitrail.stances" 990), e P "__firstlineno__" 1163 (i 392 1162), e P "__init__" 1172 (r 739), e P "shown" 1179 (r 746), e P "says" 1187 (r 753), e P "step" 1197 (r 760), e P "__static_attributes__" 1200 (r 761), e P "__dict__" 1202 (r 764), e P "__weakref__" 1204 (r 765), e P "__doc__" 1205 .none] 4) :: (nat_lit 763, cl { name := "Reads", bases := [t "object"], mro := [r 763, t "object"], ns := 762, qualname := "Reads", hasDict := true, subclasses := [] } [.none, .none, o (s "Reads" 1152), o (s "Reads" 1160), o (b "object.__new__"), o (.bool true)]) :: (nat_lit 804, di (t "dict") [e P "__module__" 1215 (s "bitrail.stances" 990), e P "__firstlineno__" 1219 (i 411 1218), e P "__init__" 1228 (r 781), e P "shown" 1235 (r 788), e P "says" 1243 (r 795), e P "step" 1253 (r 802), e P "__static_attributes__" 1256 (r 803), e P "__dict__" 1258 (r 806), e P "__weakref__" 1260 (r 807), e P "__doc__" 1261 .none] 4) :: (nat_lit 805, cl { name := "InTail", bases := [t "object"], mro := [r 805, t "object"], ns := 804, qualname := "InTail", hasDict := true, subclasses := [] } [.none, .none, o (s "InTail" 1208), o (s "InTail" 1216), o (b "object.__new__"), o (.bool true)]) :: (nat_lit 846, di (t "dict") [e P "__module__" 1271 (s "bitrail.stances" 990), e P "__firstlineno__" 1275 (i 437 1274), e P "__init__" 1284 (r 823), e P "shown" 1291 (r 830), e P "says" 1299 (r 837), e P "step" 1308 (r 844), e P "__static_attributes__" 1311 (r 845), e P "__dict__" 1313 (r 848), e P "__weakref__" 1315 (r 849), e P "__doc__" 1316 .none] 4) :: (nat_lit 847, cl { name := "Flagging", bases := [t "object"], mro := [r 847, t "object"], ns := 846, qualname := "Flagging", hasDict := true, subclasses := [] } [.none, .none, o (s "Flagging" 1264), o (s "Flagging" 1272), o (b "object.__new__"), o (.bool true)]) :: (nat_lit 888, di (t "dict") [e P "__module__" 1326 (s "bitrail.stances" 990), e P "__firstlineno__" 1330 (i 453 1329), e P "__init__" 1338 (r 865), e P "shown" 1345 (r 872), e P "says" 1353 (r 879), e P "step" 1362 (r 886), e P "__static_attributes__" 1364 (r 887), e P "__dict__" 1366 (r 890), e P "__weakref__" 1368 (r 891), e P "__doc__" 1369 .none] 4) :: (nat_lit 889, cl { name := "Settles", bases := [t "object"], mro := [r 889, t "object"], ns := 888, qualname := "Settles", hasDict := true, subclasses := [] } [.none, .none, o (s "Settles" 1319), o (s "Settles" 1327), o (b "object.__new__"), o (.bool true)]) :: (nat_lit 930, di (t "dict") [e P "__module__" 1379 (s "bitrail.stances" 990), e P "__firstlineno__" 1383 (i 470 1382), e P "__init__" 1391 (r 907), e P "shown" 1398 (r 914), e P "says" 1406 (r 921), e P "step" 1415 (r 928), e P "__static_attributes__" 1417 (r 929), e P "__dict__" 1419 (r 932), e P "__weakref__" 1421 (r 933), e P "__doc__" 1422 .none] 4) :: (nat_lit 931, cl { name := "Rests", bases := [t "object"], mro := [r 931, t "object"], ns := 930, qualname := "Rests", hasDict := true, subclasses := [] } [.none, .none, o (s "Rests" 1372), o (s "Rests" 1380), o (b "object.__new__"), o (.bool true)]) :: (nat_lit 965, di (t "dict") [e P "__module__" 1432 (s "bitrail.stances" 990), e P "__firstlineno__" 1436 (i 485 1435), e P "shown" 1443 (r 949), e P "says" 1451 (r 956), e P "step" 1460 (r 963), e P "__static_attributes__" 1461 (r 964), e P "__dict__" 1463 (r 967), e P "__weakref__" 1465 (r 968), e P "__doc__" 1466 .none] 4) :: (nat_lit 966, cl { name := "Off", bases := [t "object"], mro := [r 966, t "object"], ns := 965, qualname := "Off", hasDict := true, subclasses := [] } [.none, .none, o (s "Off" 1425), o (s "Off" 1433), o (b "object.__new__"), o (.bool true)]) :: (nat_lit 971, tp [i 1 1471, i 3 1472, i 5 1473]) :: (nat_lit 977, cc "check_votes" "check_votes" 1475 497 1 3 972 973 .none (r 974) (r 975) 976 1479 1480) :: (nat_lit 978, fo "check_votes" "bitrail.posts" 1469 977 (sf p 91)) :: (nat_lit 984, cc "check_choice" "check_choice" 1482 500 1 3 979 980 .none (r 981) (r 982) 983 1486 1487) :: (nat_lit 985, fo "check_choice" "bitrail.posts" 1469 984 (sf p 92)) :: (nat_lit 989, cc "copies" "copies" 1489 503 1 3 986 987 .none .none .none 988 1492 1493) :: (nat_lit 990, fo "copies" "bitrail.posts" 1469 989 (sf p 93)) :: (nat_lit 1003, cc "__init__" "Post.__init__" 1507 507 3 3 998 999 .none (r 1000) (r 1001) 1002 1513 1514) :: (nat_lit 1004, fo "Post.__init__" "bitrail.posts" 1469 1003 (sub 0 (sf p 94))) :: (nat_lit 1010, cc "hand" "Post.hand" 1516 517 3 3 1005 1006 .none (r 1007) (r 1008) 1009 1522 1523) :: (nat_lit 1011, fo "Post.hand" "bitrail.posts" 1469 1010 (sub 1 (sf p 94))) :: (nat_lit 1031, cc "stance" "Post.stance" 1541 529 1 3 1026 1027 .none (r 1028) (r 1029) 1030 1545 1546) :: (nat_lit 1032, fo "Post.stance" "bitrail.posts" 1469 1031 (sub 4 (sf p 94))) :: (nat_lit 1038, cc "waits" "Post.waits" 1548 532 1 3 1033 1034 .none (r 1035) (r 1036) 1037 1552 1553) :: (nat_lit 1039, fo "Post.waits" "bitrail.posts" 1469 1038 (sub 5 (sf p 94))) :: (nat_lit 1045, cc "got" "Post.got" 1555 535 1 3 1040 1041 .none (r 1042) (r 1043) 1044 1559 1560) :: (nat_lit 1046, fo "Post.got" "bitrail.posts" 1469 1045 (sub 6 (sf p 94))) :: (nat_lit 1052, cc "faults" "Post.faults" 1562 538 1 3 1047 1048 .none (r 1049) (r 1050) 1051 1566 1567) :: (nat_lit 1053, fo "Post.faults" "bitrail.posts" 1469 1052 (sub 7 (sf p 94))) :: (nat_lit 1066, cc "is_off" "Post.is_off" 1576 544 1 3 1061 1062 .none (r 1063) (r 1064) 1065 1580 1581) :: (nat_lit 1067, fo "Post.is_off" "bitrail.posts" 1469 1066 (sub 9 (sf p 94))) :: (nat_lit 1097, di (t "dict") [e P "__module__" 1502 (s "bitrail.posts" 1469), e P "__firstlineno__" 1506 (i 505 1505), e P "__init__" 1515 (r 1004), e P "hand" 1524 (r 1011), e P "says" 1531 (r 1018), e P "hear" 1540 (r 1025), e P "stance" 1547 (r 1032), e P "waits" 1554 (r 1039), e P "got" 1561 (r 1046), e P "faults" 1568 (r 1053), e P "is_quiet" 1575 (r 1060), e P "is_off" 1582 (r 1067), e P "has_frame" 1589 (r 1074), e P "foremost_wire" 1596 (r 1081), e P "drop_foremost" 1603 (r 1088), e P "hand_up" 1611 (r 1095), e P "__static_attributes__" 1618 (r 1096), e P "__dict__" 1620 (r 1099), e P "__weakref__" 1622 (r 1100), e P "__doc__" 1623 .none] 4) :: (nat_lit 1098, cl { name := "Post", bases := [t "object"], mro := [r 1098, t "object"], ns := 1097, qualname := "Post", hasDict := true, subclasses := [] } [.none, .none, o (s "Post" 1495), o (s "Post" 1503), o (b "object.__new__"), o (.bool true)]) :: (nat_lit 1113, cc "__init__" "Rail.__init__" 1642 563 3 3 1110 1111 .none .none .none 1112 1645 1646) :: (nat_lit 1114, fo "Rail.__init__" "bitrail.rails" 1626 1113 (sub 0 (sf p 97))) :: (nat_lit 1120, cc "hand" "Rail.hand" 1648 573 4 3 1115 1116 .none (r 1117) (r 1118) 1119 1656 1657) :: (nat_lit 1121, fo "Rail.hand" "bitrail.rails" 1626 1120 (sub 1 (sf p 97))) :: (nat_lit 1144, cc "post_at" "Rail.post_at" 1681 604 2 3 1139 1140 .none (r 1141) (r 1142) 1143 1686 1687) :: (nat_lit 1145, fo "Rail.post_at" "bitrail.rails" 1626 1144 (sub 5 (sf p 97))) :: (nat_lit 1172, cc "heard" "Rail.heard" 1711 619 2 3 1167 1168 .none (r 1169) (r 1170) 1171 1716 1717) :: (nat_lit 1173, fo "Rail.heard" "bitrail.rails" 1626 1172 (sub 9 (sf p 97))) :: (nat_lit 1186, cc "stance" "Rail.stance" 1726 626 2 3 1181 1182 .none (r 1183) (r 1184) 1185 1731 1732) :: (nat_lit 1187, fo "Rail.stance" "bitrail.rails" 1626 1186 (sub 11 (sf p 97))) :: (nat_lit 1193, cc "waits" "Rail.waits" 1734 629 2 3 1188 1189 .none (r 1190) (r 1191) 1192 1739 1740) :: (nat_lit 1194, fo "Rail.waits" "bitrail.rails" 1626 1193 (sub 12 (sf p 97))) :: (nat_lit 1200, cc "got" "Rail.got" 1742 632 2 3 1195 1196 .none (r 1197) (r 1198) 1199 1747 1748) :: (nat_lit 1201, fo "Rail.got" "bitrail.rails" 1626 1200 (sub 13 (sf p 97))) :: (nat_lit 1207, cc "faults" "Rail.faults" 1750 635 2 3 1202 1203 .none (r 1204) (r 1205) 1206 1755 1756) :: (nat_lit 1208, fo "Rail.faults" "bitrail.rails" 1626 1207 (sub 14 (sf p 97))) :: (nat_lit 1221, cc "is_off" "Rail.is_off" 1766 641 2 3 1216 1217 .none (r 1218) (r 1219) 1220 1771 1772) :: (nat_lit 1222, fo "Rail.is_off" "bitrail.rails" 1626 1221 (sub 16 (sf p 97))) :: (nat_lit 1224, di (t "dict") [e P "__module__" 1637 (s "bitrail.rails" 1626), e P "__firstlineno__" 1641 (i 561 1640), e P "__init__" 1647 (r 1114), e P "hand" 1658 (r 1121), e P "turn" 1668 (r 1128), e P "run" 1674 (r 1133), e P "make_turn" 1680 (r 1138), e P "post_at" 1688 (r 1145), e P "turns" 1695 (r 1152), e P "bits" 1702 (r 1159), e P "said" 1710 (r 1166), e P "heard" 1718 (r 1173), e P "events" 1725 (r 1180), e P "stance" 1733 (r 1187), e P "waits" 1741 (r 1194), e P "got" 1749 (r 1201), e P "faults" 1757 (r 1208), e P "is_quiet" 1765 (r 1215), e P "is_off" 1773 (r 1222), e P "__static_attributes__" 1780 (r 1223), e P "__dict__" 1782 (r 1226), e P "__weakref__" 1784 (r 1227), e P "__doc__" 1785 .none] 4) :: (nat_lit 1225, cl { name := "Rail", bases := [t "object"], mro := [r 1225, t "object"], ns := 1224, qualname := "Rail", hasDict := true, subclasses := [] } [.none, .none, o (s "Rail" 1630), o (s "Rail" 1638), o (b "object.__new__"), o (.bool true)]) :: (nat_lit 1240, cc "strips" "strips" 1805 649 2 3 1237 1238 .none .none .none 1239 1808 1809) :: (nat_lit 1241, fo "strips" "bitrail.strips" 1797 1240 (sf p 103)) :: (nat_lit 1245, cc "strip_of" "strip_of" 1811 651 2 3 1242 1243 .none .none .none 1244 1814 1815) :: (nat_lit 1246, fo "strip_of" "bitrail.strips" 1797 1245 (sf p 104)) :: (nat_lit 1247, di (t "dict") [e P "rail" 1825 (r 1249), e P "hand" 1829 (r 1251), e P "thing" 1833 (r 1253), e P "wrong" 1838 (r 1255), e P "run" 1842 (r 1257), e P "bits" 1845 (r 1259), e P "draw" 1849 (r 1261), e P "got" 1854 (r 1263), e P "waits" 1857 (r 1265), e P "things" 1860 (r 1267), e P "stance" 1864 (r 1269), e P "faults" 1867 (r 1271)] 12) :: (nat_lit 1248, tp [s "number" 1826, s "choice" 1827]) :: (nat_lit 1249, tp [r 1248, s "choice" 1828]) :: (nat_lit 1250, tp [s "number" 1830, s "number" 1831]) :: (nat_lit 1251, tp [r 1250, s "number" 1832]) :: (nat_lit 1252, tp [s "number" 1834, s "number" 1835, s "number" 1836]) :: (nat_lit 1253, tp [r 1252, s "number" 1837]) :: (nat_lit 1254, tp [s "number" 1839, s "number" 1840]) :: (nat_lit 1255, tp [r 1254, s "" 1841]) :: (nat_lit 1256, tp [s "turns" 1843]) :: (nat_lit 1257, tp [r 1256, s "" 1844]) :: (nat_lit 1258, tp [s "number" 1846, s "end" 1847]) :: (nat_lit 1259, tp [r 1258, s "" 1848]) :: (nat_lit 1260, tp [s "number" 1850, s "number" 1851, s "end" 1852]) :: (nat_lit 1261, tp [r 1260, s "" 1853]) :: (nat_lit 1262, tp [s "number" 1855]) :: (nat_lit 1263, tp [r 1262, s "" 1856]) :: (nat_lit 1264, tp [s "number" 1858]) :: (nat_lit 1265, tp [r 1264, s "" 1859]) :: (nat_lit 1266, tp [s "number" 1861, s "number" 1862]) :: (nat_lit 1267, tp [r 1266, s "" 1863]) :: (nat_lit 1268, tp [s "number" 1865]) :: (nat_lit 1269, tp [r 1268, s "" 1866]) :: (nat_lit 1270, tp [s "number" 1868]) :: (nat_lit 1271, tp [r 1270, s "" 1869]) :: (nat_lit 1277, cc "read_row" "read_row" 1883 658 1 3 1272 1273 .none (r 1274) (r 1275) 1276 1892 1893) :: (nat_lit 1278, fo "read_row" "bitrail.desk" 1817 1277 (sf p 110)) :: (nat_lit 1284, cc "value_of" "value_of" 1895 672 3 3 1279 1280 .none (r 1281) (r 1282) 1283 1902 1903) :: (nat_lit 1285, fo "value_of" "bitrail.desk" 1817 1284 (sf p 111)) :: (nat_lit 1289, cc "number_in" "number_in" 1905 685 1 3 1286 1287 .none .none .none 1288 1908 1909) :: (nat_lit 1290, fo "number_in" "bitrail.desk" 1817 1289 (sf p 112)) :: (nat_lit 1296, cc "choice_of" "choice_of" 1911 693 1 3 1291 1292 .none (r 1293) (r 1294) 1295 1918 1919) :: (nat_lit 1297, fo "choice_of" "bitrail.desk" 1817 1296 (sf p 113)) :: (nat_lit 1301, cc "dotted" "dotted" 1921 702 1 3 1298 1299 .none .none .none 1300 1924 1925) :: (nat_lit 1302, fo "dotted" "bitrail.desk" 1817 1301 (sf p 114)) :: (nat_lit 1306, cc "frames_text" "frames_text" 1927 704 1 3 1303 1304 .none .none .none 1305 1930 1931) :: (nat_lit 1307, fo "frames_text" "bitrail.desk" 1817 1306 (sf p 115)) :: (nat_lit 1327, cc "things_of" "things_of" 1949 716 2 3 1322 1323 .none (r 1324) (r 1325) 1326 1957 1958) :: (nat_lit 1328, fo "things_of" "bitrail.desk" 1817 1327 (sf p 118)) :: (nat_lit 1334, cc "part_of" "part_of" 1960 723 3 3 1329 1330 .none (r 1331) (r 1332) 1333 1966 1967) :: (nat_lit 1335, fo "part_of" "bitrail.desk" 1817 1334 (sf p 119)) :: (nat_lit 1341, cc "say_hand" "say_hand" 1969 725 2 3 1336 1337 .none (r 1338) (r 1339) 1340 1974 1975) :: (nat_lit 1342, fo "say_hand" "bitrail.desk" 1817 1341 (sf p 120)) :: (nat_lit 1348, cc "say_thing" "say_thing" 1977 728 2 3 1343 1344 .none (r 1345) (r 1346) 1347 1984 1985) :: (nat_lit 1349, fo "say_thing" "bitrail.desk" 1817 1348 (sf p 121)) :: (nat_lit 1355, cc "say_wrong" "say_wrong" 1987 733 2 3 1350 1351 .none (r 1352) (r 1353) 1354 1992 1993) :: (nat_lit 1356, fo "say_wrong" "bitrail.desk" 1817 1355 (sf p 122)) :: (nat_lit 1376, cc "say_draw" "say_draw" 2011 742 2 3 1371 1372 .none (r 1373) (r 1374) 1375 2017 2018) :: (nat_lit 1377, fo "say_draw" "bitrail.desk" 1817 1376 (sf p 125)) :: (nat_lit 1383, cc "say_got" "say_got" 2020 745 2 3 1378 1379 .none (r 1380) (r 1381) 1382 2025 2026) :: (nat_lit 1384, fo "say_got" "bitrail.desk" 1817 1383 (sf p 126)) :: (nat_lit 1390, cc "say_waits" "say_waits" 2028 747 2 3 1385 1386 .none (r 1387) (r 1388) 1389 2033 2034) :: (nat_lit 1391, fo "say_waits" "bitrail.desk" 1817 1390 (sf p 127)) :: (nat_lit 1395, cc "say_things" "say_things" 2036 749 2 3 1392 1393 .none .none .none 1394 2039 2040) :: (nat_lit 1396, fo "say_things" "bitrail.desk" 1817 1395 (sf p 128)) :: (nat_lit 1402, cc "say_stance" "say_stance" 2042 751 2 3 1397 1398 .none (r 1399) (r 1400) 1401 2048 2049) :: (nat_lit 1403, fo "say_stance" "bitrail.desk" 1817 1402 (sf p 129)) :: (nat_lit 1409, cc "say_faults" "say_faults" 2051 754 2 3 1404 1405 .none (r 1406) (r 1407) 1408 2056 2057) :: (nat_lit 1410, fo "say_faults" "bitrail.desk" 1817 1409 (sf p 130)) :: (nat_lit 1411, di (t "dict") [e P "hand" 2059 (r 1342), e P "thing" 2060 (r 1349), e P "wrong" 2061 (r 1356), e P "run" 2062 (r 1363), e P "bits" 2063 (r 1370), e P "draw" 2064 (r 1377), e P "got" 2065 (r 1384), e P "waits" 2066 (r 1391), e P "things" 2067 (r 1396), e P "stance" 2068 (r 1403), e P "faults" 2069 (r 1410)] 11) :: (nat_lit 1424, cc "__init__" "Desk.__init__" 2094 759 1 3 1419 1420 .none (r 1421) (r 1422) 1423 2098 2099) :: (nat_lit 1425, fo "Desk.__init__" "bitrail.desk" 1817 1424 (sub 0 (sf p 132))) :: (nat_lit 1431, cc "say" "Desk.say" 2101 763 2 3 1426 1427 .none (r 1428) (r 1429) 1430 2109 2110) :: (nat_lit 1432, fo "Desk.say" "bitrail.desk" 1817 1431 (sub 1 (sf p 132))) :: (nat_lit 1438, cc "put_up" "Desk.put_up" 2112 773 2 3 1433 1434 .none (r 1435) (r 1436) 1437 2117 2118) :: (nat_lit 1439, fo "Desk.put_up" "bitrail.desk" 1817 1438 (sub 2 (sf p 132))) :: (nat_lit 1441, di (t "dict") [e P "__module__" 2089 (s "bitrail.desk" 1817), e P "__firstlineno__" 2093 (i 757 2092), e P "__init__" 2100 (r 1425), e P "say" 2111 (r 1432), e P "put_up" 2119 (r 1439), e P "__static_attributes__" 2122 (r 1440), e P "__dict__" 2124 (r 1443), e P "__weakref__" 2126 (r 1444), e P "__doc__" 2127 .none] 4) :: (nat_lit 1442, cl { name := "Desk", bases := [t "object"], mro := [r 1442, t "object"], ns := 1441, qualname := "Desk", hasDict := true, subclasses := [] } [.none, .none, o (s "Desk" 2082), o (s "Desk" 2090), o (b "object.__new__"), o (.bool true)]) :: (nat_lit 1452, cc "_law_mix" "_law_mix" 2132 778 3 3 1447 1448 .none (r 1449) (r 1450) 1451 2139 2140) :: (nat_lit 1453, fo "_law_mix" "law_bitrail_k83_a_desk_refuses" 2130 1452 (sf p 134)) :: (nat_lit 1459, cc "_law_byte" "_law_byte" 2142 781 2 3 1454 1455 .none (r 1456) (r 1457) 1458 2147 2148) :: (nat_lit 1460, fo "_law_byte" "law_bitrail_k83_a_desk_refuses" 2130 1459 (sf p 135)) :: (nat_lit 1466, cc "_law_rail" "_law_rail" 2150 785 1 3 1461 1462 .none (r 1463) (r 1464) 1465 2158 2159) :: (nat_lit 1467, fo "_law_rail" "law_bitrail_k83_a_desk_refuses" 2130 1466 (sf p 136)) :: (nat_lit 1473, cc "_law_name" "_law_name" 2161 794 2 3 1468 1469 .none (r 1470) (r 1471) 1472 2166 2167) :: (nat_lit 1474, fo "_law_name" "law_bitrail_k83_a_desk_refuses" 2130 1473 (sf p 137)) :: (nat_lit 1478, cc "_law_data" "_law_data" 2169 798 2 3 1475 1476 .none .none .none 1477 2172 2173) :: (nat_lit 1479, fo "_law_data" "law_bitrail_k83_a_desk_refuses" 2130 1478 (sf p 138)) :: (nat_lit 1485, cc "_law_is_good" "_law_is_good" 2175 803 1 3 1480 1481 .none (r 1482) (r 1483) 1484 2180 2181) :: (nat_lit 1486, fo "_law_is_good" "law_bitrail_k83_a_desk_refuses" 2130 1485 (sf p 139)) :: (nat_lit 1490, cc "_law_pieces" "_law_pieces" 2183 808 2 3 1487 1488 .none .none .none 1489 2186 2187) :: (nat_lit 1491, fo "_law_pieces" "law_bitrail_k83_a_desk_refuses" 2130 1490 (sf p 140)) :: (nat_lit 1495, cc "_law_handed" "_law_handed" 2189 811 4 3 1492 1493 .none .none .none 1494 2192 2193) :: (nat_lit 1496, fo "_law_handed" "law_bitrail_k83_a_desk_refuses" 2130 1495 (sf p 141)) :: (nat_lit 1502, cc "_law_asked" "_law_asked" 2195 822 2 3 1497 1498 .none (r 1499) (r 1500) 1501 2205 2206) :: (nat_lit 1503, fo "_law_asked" "law_bitrail_k83_a_desk_refuses" 2130 1502 (sf p 142)) :: (nat_lit 1507, cc "_law_rail_step" "_law_rail_step" 2208 836 3 3 1504 1505 .none .none .none 1506 2211 2212) :: (nat_lit 1508, fo "_law_rail_step" "law_bitrail_k83_a_desk_refuses" 2130 1507 (sf p 143)) :: (nat_lit 1512, cc "_law_hand_step" "_law_hand_step" 2214 843 5 3 1509 1510 .none .none .none 1511 2217 2218) :: (nat_lit 1513, fo "_law_hand_step" "law_bitrail_k83_a_desk_refuses" 2130 1512 (sf p 144)) :: (nat_lit 1519, cc "_law_step" "_law_step" 2220 859 4 3 1514 1515 .none (r 1516) (r 1517) 1518 2233 2234) :: (nat_lit 1520, fo "_law_step" "law_bitrail_k83_a_desk_refuses" 2130 1519 (sf p 145)) :: (nat_lit 1524, cc "law" "law" 2236 876 1 3 1521 1522 .none .none .none 1523 2239 2240) :: (nat_lit 1525, fo "law" "law_bitrail_k83_a_desk_refuses" 2130 1524 (sf p 146)) :: []
noncomputable def as:List Addr:=2::3::30::31::43::44::55::56::67::68::79::80::91::92::103::104::115::116::134::135::158::159::170::171::177::178::184::185::212::213::254::255::264::265::296::297::341::342::359::360::406::407::441::442::455::456::458::459::507::508::563::564::584::585::603::604::654::655::661::662::678::679::720::721::762::763::804::805::846::847::888::889::930::931::965::966::971::977::978::984::985::989::990::1003::1004::1010::1011::1031::1032::1038::1039::1045::1046::1052::1053::1066::1067::1097::1098::1113::1114::1120::1121::1144::1145::1172::1173::1186::1187::1193::1194::1200::1201::1207::1208::1221::1222::1224::1225::1240::1241::1245::1246::1247::1248::1249::1250::1251::1252::1253::1254::1255::1256::1257::1258::1259::1260::1261::1262::1263::1264::1265::1266::1267::1268::1269::1270::1271::1277::1278::1284::1285::1289::1290::1296::1297::1301::1302::1306::1307::1327::1328::1334::1335::1341::1342::1348::1349::1355::1356::1376::1377::1383::1384::1390::1391::1395::1396::1402::1403::1409::1410::1411::1424::1425::1431::1432::1438::1439::1441::1442::1452::1453::1459::1460::1466::1467::1473::1474::1478::1479::1485::1486::1490::1491::1495::1496::1502::1503::1507::1508::1512::1513::1519::1520::1524::1525::[]
noncomputable def L (P:Params):List (Nat×Obj):=K P
theorem K_L (P:Params):K P=L P:=rfl
theorem K_as (P:Params):as=(K P).map (·.1):=by kernel_rfl
def qv:Program:=view p [146]
def loose:List Str:="_wall"::"RailError"::"NoBits"::"NoName"::"NoKey"::"NoFrame"::"NoPost"::"NoThing"::"NoRail"::"NoRow"::"HIGHEST_BYTE"::"bits_of"::"number_of"::"drawn"::"are_bytes"::"ear"::"PIECE_BYTES"::"MOST_BYTES_things"::"cut"::"check_thing"::"piece_of"::"check_piece"::"is_size"::"Joiner"::"divided"::"KEY"::"CHECK_BITS"::"rest_of"::"check_of"::"NAME_BITS"::"HIGHEST_NAME"::"is_name"::"is_wanted"::"MOST_ALIKE"::"Streak"::"put_in"::"SIZE_AT"::"SIZE_BITS"::"DATA_AT"::"BYTE_BITS"::"MOST_BYTES_frames"::"check_frame"::"frame_bits"::"is_complete"::"told_size"::"read_frame"::"wire_of"::"GREAT_FAULT"::"SMALL_FAULT"::"QUIET_FROM"::"OFF_FROM"::"Count"::"Reader"::"ANSWER_AT"::"VOTES_AT"::"Tail"::"ReadTail"::"SpeakTail"::"FLAG_BITS"::"REST_TURNS"::"QUIET_TURNS"::"DUEL_BITS"::"begun_reader"::"unless_off"::"fault_of"::"refusal_of"::"blame_of"::"Free"::"Speaks"::"Reads"::"InTail"::"Flagging"::"Settles"::"Rests"::"Off"::"VOTES"::"check_votes"::"check_choice"::"copies"::"Post"::"MOST_POSTS"::"Rail"::"heard_well"::"STRIP_BITS"::"FIGURES"::"SIGNS"::"strips"::"strip_of"::"MOST_FIGURES"::"MOST_TURNS"::"MOST_BITS"::"FORMS"::"read_row"::"value_of"::"number_in"::"choice_of"::"dotted"::"frames_text"::"thing_text"::"told_of"::"things_of"::"part_of"::"say_hand"::"say_thing"::"say_wrong"::"say_run"::"say_bits"::"say_draw"::"say_got"::"say_waits"::"say_things"::"say_stance"::"say_faults"::"ANSWERS"::"Desk"::"_law_mix"::"_law_byte"::"_law_rail"::"_law_name"::"_law_data"::"_law_is_good"::"_law_pieces"::"_law_handed"::"_law_asked"::"_law_rail_step"::"_law_hand_step"::"_law_step"::[]
abbrev N:Nat:=11473
theorem open_p:∀w:World,(fencedOpening treeTable p w N).map (fun s=>(s.heap,s.gens,s.drawn,s.toks))=some (boot_heap w.params,Array.mk [],boot_drawn,boot_toks):=boot_open (by kernel_rfl) (by decide) (fun s=>by kernel_rfl)
def ann:Option Value:=some (.ref 6)
def whole (w:World)(os:OsState):=(segRunT treeTable p w 11 ann 0 N (S w os) (topStub p)).map fun r=>look p qv loose (xlAt qv []) as (boot_heap w.params) r.2.1
def good (w:World)(_:OsState):=some (true,openGood qv loose,((L w.params).map fun p=>p.2).map some)
def sz (w : World) := ((boot_heap w.params).isNs mainGlobals, (boot_heap w.params).objs.size, (boot_heap w.params).nsMap mainGlobals "__annotations__")
def sg (_:World):=(true,11,ann)
theorem whole_r:whole=whole:=rfl
theorem good_r:good=good:=rfl
theorem sz_r:sz=sz:=rfl
noncomputable def _root_.PySem.W.Fast.tw1479830485736635999:Program:=PySem.Challenge.pw_bitrail_k83_a_desk_refuses
theorem _root_.PySem.W.Fast.te1479830485736635999:PySem.Challenge.pw_bitrail_k83_a_desk_refuses=PySem.W.Fast.tw1479830485736635999:=rfl
noncomputable def _root_.PySem.W.Fast.tw9140266817696972190:Params->List (Nat×Obj):=Hd.L
theorem _root_.PySem.W.Fast.te9140266817696972190:Hd.L=PySem.W.Fast.tw9140266817696972190:=rfl
noncomputable def _root_.PySem.W.Fast.tw7625976266985363445:List Str:=Hd.loose
theorem _root_.PySem.W.Fast.te7625976266985363445:Hd.loose=PySem.W.Fast.tw7625976266985363445:=rfl
name_quick wq for whole by whole_r
name_quick gq for good by good_r
name_quick zq for sz by sz_r
theorem z_g (w:World):PySem.W.Fast.zq w=sg w:=by kernel_rfl
theorem w_f (w:World):PySem.W.Fast.wq (w.withFollow "special-get-raises" false)=PySem.W.Fast.gq (w.withFollow "special-get-raises" false):=by kernel_rfl
theorem w_t (w:World):PySem.W.Fast.wq (w.withFollow "special-get-raises" true)=PySem.W.Fast.gq (w.withFollow "special-get-raises" true):=by kernel_rfl
theorem w_g (w:World):PySem.W.Fast.wq w=PySem.W.Fast.gq w:=by
  have e:=World.withFollow_self w "special-get-raises"
  cases hb:w.params.followText "special-get-raises" <;> rw[hb]at e
  · exact e▸w_f w
  · exact e▸w_t w
theorem left0:LeftO p qv loose (xlAt qv []) (fun s=>as.map s.heap.get?) (fun w=>((L w.params).map fun p=>p.2).map some) N:=left_whole S open_p (fun w=>(congrFun PySem.W.Fast.zq_eq w).trans (z_g w)) S_abs fun w=>((congrFun PySem.W.Fast.wq_eq w).trans (w_g w)).trans (congrFun PySem.W.Fast.gq_eq w).symm
theorem left:LeftO p qv loose (xlAt qv []) (fun s=>as.map s.heap.get?) (fun w=>(K w.params).map fun p=>some p.2) N:=fun w=>(left0 w).trans (by show some (_,((L w.params).map _).map _)=some (_,(K w.params).map _);rw[K_L,Xp];rfl)
def dl:DefRec:=dr (sf p 146)
def da:=(defOf qv "law",p.theDef "law")
def db:=(some (dl,([]:List (Str×PySem.Expr))),some (dl.params,dl.body,dl.scope))
theorem da_r:da=da:=rfl
theorem db_r:db=db:=rfl
name_quick daq for da by da_r
name_quick dbq for db by db_r
theorem d_q:PySem.W.Fast.daq=PySem.W.Fast.dbq:=by kernel_rfl
theorem d_e:da=db:=PySem.W.Fast.daq_eq.trans (d_q.trans PySem.W.Fast.dbq_eq.symm)
theorem dl_1:defOf qv "law"=some (dl, []):=YE Prod.fst d_e
theorem dl_2:p.theDef "law"=some (dl.params,dl.body,dl.scope):=YE Prod.snd d_e
end
end Hd
set_option Elab.async false
set_option linter.all false
set_option maxRecDepth 100000
/-! THE HAND LAYER,for ints,bools,texts,own classes,LISTS and tuples (index,slices,in,append,pop ..),calls,loops. Paste it whole ahead of your own text;what your proof does not reach may be deleted. -/
namespace L2
open PySem PySem.Spec PyProof.Rows

/-- a key:an int or a str -/
abbrev Key:=Sum Int Str
def keyIs:Key->Value->Bool
  |.inl k,v=>Value.isInt k v
  |.inr x,v=>Value.isStrOf x v
def keyH (w:World):Key->Int
  |.inl k=>hashInt k
  |.inr x=>hashStr w x
theorem keyIs_shape:∀{k:Key}{v:Value},keyIs k v=true->(∃i t,k=Sum.inl i/\v=Value.int i t)\/(∃x t,k=Sum.inr x/\v=Value.str x t)
  | .inl i,v,h=>by
    obtain⟨t,e⟩:=Value.isInt_shape (k:=i) (v:=v) h
    exact .inl ⟨i,t,rfl,e⟩
  | .inr x,v,h=>by
    obtain⟨t,e⟩:=Value.isStrOf_shape (x:=x) (v:=v) h
    exact .inr ⟨x,t,rfl,e⟩
theorem keyIs_int (i:Int)(t:Tok):keyIs (.inl i) (.int i t)=true:=by simp[keyIs,Value.isInt]
theorem keyIs_str (x:Str)(t:Tok):keyIs (.inr x) (.str x t)=true:=by simp[keyIs,Value.isStrOf]
theorem key_ll (a b:Int):decide ((Sum.inl a:Key)=Sum.inl b)=(a == b):=by
  by_cases e:a=b
  · subst e;simp
  · have h:¬ (Sum.inl a:Key)=Sum.inl b:=fun q=>e (Sum.inl.inj q)
    rw[Ys h]
    exact(Y8.mpr e).symm
theorem key_rr (a b:Str):decide ((Sum.inr a:Key)=Sum.inr b)=decide (a=b):=by
  by_cases e:a=b
  · subst e;simp
  · have h:¬ (Sum.inr a:Key)=Sum.inr b:=fun q=>e (Sum.inr.inj q)
    rw[Ys h,Ys e]
theorem key_lr (a:Int)(b:Str):decide ((Sum.inl a:Key)=Sum.inr b)=false:=Ys (fun q=>nomatch q)
theorem key_rl (a:Str)(b:Int):decide ((Sum.inr a:Key)=Sum.inl b)=false:=Ys (fun q=>nomatch q)

def mixKind (prog:Program)(w:World):PySem.KeyKind prog w Key where
  is:=keyIs
  hash:=keyH w
  inj :=fun v a b ha hb=>by
    rcases keyIs_shape ha with ⟨i,t,rfl,rfl⟩ | ⟨x,t,rfl,rfl⟩
    · rcases keyIs_shape hb with ⟨j,u,rfl,e⟩ | ⟨y,u,rfl,e⟩
      · injection e with e1 _;rw[e1]
      · exact nomatch e
    · rcases keyIs_shape hb with ⟨j,u,rfl,e⟩ | ⟨y,u,rfl,e⟩
      · exact nomatch e
      · injection e with e1 _;rw[e1]
  byValue:=fun k v h=>by
    rcases keyIs_shape h with ⟨i,t,rfl,rfl⟩ | ⟨x,t,rfl,rfl⟩ <;> rfl
  pyHash:=fun hv h=>by
    rcases keyIs_shape hv with ⟨i,t,rfl,rfl⟩ | ⟨x,t,rfl,rfl⟩
    · exact wpAny_pyHash_int h
    · exact wpAny_pyHash_str h
  eqBool:=fun hu hv h=>by
    rcases keyIs_shape hu with ⟨i,t,rfl,rfl⟩ | ⟨x,t,rfl,rfl⟩
    · rcases keyIs_shape hv with ⟨j,u,rfl,rfl⟩ | ⟨y,u,rfl,rfl⟩
      · rw[key_ll]at h;exact wpAny_eqBool_int h
      · rw[key_lr]at h;exact SeqAt.EqAt.int_str i t y u _ _ _ _ h
    · rcases keyIs_shape hv with ⟨j,u,rfl,rfl⟩ | ⟨y,u,rfl,rfl⟩
      · rw[key_rl]at h;exact SeqAt.EqAt.str_int x t j u _ _ _ _ h
      · rw[key_rr]at h;exact wpAny_eqBool_str h
  «strs»:=fun k x t v h=>by
    rcases keyIs_shape h with ⟨i,u,rfl,e⟩ | ⟨y,u,rfl,e⟩
    · exact nomatch e
    · injection e with e1 _
      subst e1
      cases v <;> rfl

theorem mixKind_int (prog:Program)(w:World)(i:Int)(t:Tok):(mixKind prog w).is (.inl i) (.int i t)=true:=keyIs_int i t
theorem mixKind_str (prog:Program)(w:World)(x:Str)(t:Tok):(mixKind prog w).is (.inr x) (.str x t)=true:=keyIs_str x t
end L2

namespace L2
open PySem PySem.Spec PyProof.Rows

/-- a value,without the heap -/
inductive V where
  |non | bl (b:Bool) | int (i:Int) | str (x:Str) | byt (b:Array UInt8) | flt (b:UInt64) | ref (a:Addr) | ty (n:String)
  deriving DecidableEq

def RelV:V->Value->Prop
  |.non,u=>u=Value.none
  |.bl b,u=>u=Value.bool b
  |.int i,u=>∃t,u=Value.int i t
  |.str x,u=>∃t,u=Value.str x t
  |.byt b,u=>∃t,u=Value.bytes b t
  |.flt b,u=>∃t,u=Value.float b t
  |.ref a,u=>u=Value.ref a
  |.ty n,u=>u=Value.type n

abbrev Vals:List V->List Value->Prop:=Paired RelV
theorem Vals.length {xs:List V}{us:List Value}(r:Vals xs us):xs.length=us.length:=Paired.length r
theorem Vals.get:∀{xs:List V}{us:List Value}{i:Nat}{x:V},Vals xs us->xs[i]? =some x->∃u,us[i]? =some u/\RelV x u
  |_,_,_,_,.nil,e=>by simp at e
  |_,_,0,_,.cons r _,e=>by simp at e;subst e;exact⟨_,rfl,r⟩
  | _,_,i+1,x,.cons _ t,e=>by
    obtain⟨u,h1,h2⟩:=Vals.get (i:=i) (x:=x) t (by simpa using e)
    exact⟨u,by simpa using h1,h2⟩
theorem Vals.append:∀{xs ys:List V}{us ws:List Value},Vals xs us->Vals ys ws->Vals (xs++ys) (us++ws)
  |_,_,_,_,.nil,s=>s
  |_,_,_,_,.cons r t,s=> .cons r (Vals.append t s)
theorem Vals.take:∀{xs:List V}{us:List Value}(n:Nat),Vals xs us->Vals (xs.take n) (us.take n)
  |_,_,0,_=> .nil
  |_,_,_+1,.nil=> .nil
  |_,_,n+1,.cons r t=> .cons r (Vals.take n t)
theorem Vals.drop:∀{xs:List V}{us:List Value}(n:Nat),Vals xs us->Vals (xs.drop n) (us.drop n)
  |_,_,0,r=>r
  |_,_,_+1,.nil=> .nil
  |_,_,n+1,.cons _ t=>Vals.drop n t
def RelO:Option V->Option Value->Prop
  |some v,some u=>RelV v u
  |none,none=>True
  |_,_=>False
def KV {κ:Type}:List (κ×V)->List (κ×Value)->Prop:=Paired fun (p:κ×V) (q:κ×Value)=>p.1=q.1/\RelV p.2 q.2

/-- a key of a dict (00_mix):an int or a text -/
def kV:Key->V
  |.inl i=> .int i
  |.inr x=> .str x

/-- what stands at a tracked address -/
inductive HO where
  /-- a list -/
  |lst (xs:List V)
  /-- a tuple (never changes) -/
  |tup (xs:List V)
  /-- a dict whose keys are ints and texts;one whose keys are tuples of ints and texts (the empty one is both) -/
  |dK (kvs:List (Key×V)) | dT (kvs:List (List Key×V))
  /-- a set of ints:its members,its size -/
  |set (S:Int->Bool) (n:Nat)
  /-- an instance of the class at C,its dict at dx,its attributes -/
  |ins (C dx:Addr) (fs:List (Str×V))
  /-- the dict of the instance at x -/
  |own (x:Addr)
  /-- the dict of an exception -/
  |xd (fs:List (Str×V))
  /-- a bound method,f of x -/
  |met (f x:Addr)
  /-- a range object lo,lo+1, .. below hi -/
  |rng (lo hi:Int)
  /-- a thing that is known to the object (the script;a dict while a loop walks it):read,never written while it is so -/
  |frz (o:Obj) (u:HO)
  /-- a code object's table -/
  |tbl (ps:Array Value)
  /-- any other thing,by what is true of its one object (a def of one's own:SetO a S n:=HO.ext fun h=> ..) -/
  |ext (φ:Heap->Prop)

abbrev Hp:=Addr->Option HO
def upd (H:Hp)(a:Addr)(o:HO):Hp:=fun b=>if b=a then some o else H b
theorem upd_same {H:Hp}{a:Addr}{o:HO}:upd H a o a=some o:=by unfold upd;rw[if_pos rfl]
theorem upd_ne {H:Hp}{a b:Addr}{o:HO}(h:b≠a):upd H a o b=H b:=by unfold upd;rw[if_neg h]
/-- two objects of different content stand apart -/
theorem ne_of {H:Hp}{a b:Addr}{o u:HO}(h:H a=some o)(h':H b=some u)(d:o≠u):a≠b:=by
  intro e;subst e;rw[h]at h';exact d (YF h')
theorem ne_of_none {H:Hp}{a b:Addr}{o:HO}(h:H a=some o)(h':H b=none):a≠b:=by
  intro e;subst e;rw[h]at h';cases h'

section
variable (P:Program)(w:World)
def ObjOk (H:Hp)(h:Heap)(a:Addr):HO->Prop
  |.lst xs=>xs.length<=sizeLine/\∃(its:List Value)(n:Nat),Vals xs its/\h.get? a=some { cls:= .type "list",data:= .seq its.toArray n }
  |.tup xs=>xs.length<=sizeLine/\∃its:List Value,Vals xs its/\IsTup h a its.toArray
  |.dK kvs=>kvs.length<=sizeLine/\(a == sysModules)=false/\∃vs,KV kvs vs/\h.DictOf (mixKind P w) a vs
  | .dT kvs=>kvs.length<=sizeLine/\(a == sysModules)=false/\∃xs:List (List Key×Addr×Value),
      Paired (fun (p:List Key×V) (q:List Key×Addr×Value)=>p.1=q.1/\H q.2.1=some (.tup (p.1.map kV))/\RelV p.2 q.2.2) kvs xs/\
      ∃o es ep,h.get? a=some o/\o.ExactDict/\o.data= .dict es ep/\es.toList=xs.map (entryOfKey (tupleKind (mixKind P w)))/\(xs.map (·.1)).Nodup
  |.set S n=>h.SetOf (intKind P w) a S n
  | .ins C dx fs=>H dx=some (.own a)/\fs.length<=1000/\dx≠a/\h.get? a=some (W.instObj C dx)/\
      ∃mA,h.Ns1 dx mA/\(∀f,RelO (fs.lookup f) (mA f))/\PySem.Within mA (fs.map (·.1))
  |.own _=>∃o,h.get? a=some o
  |.xd fs=>∃mA,h.Ns1 a mA/\∀f,RelO (fs.lookup f) (mA f)
  |.rng lo hi=>∃t u v,h.get? a=some { cls:= .type "range",data:= .fields #[.int lo t,.int hi u,.int 1 v] }
  |.frz o u=>h.get? a=some o/\ObjOk H h a u
  |.tbl ps=>h.get? a=some { cls:= .none,data:= .fields ps }
  |.met f x=>h.get? a=some (W.methodObj (.ref f) (.ref x))
  |.ext φ=>φ h/\(∃o,h.get? a=some o)/\∀h1 h2:Heap,φ h1->(∀o,h1.get? a=some o->h2.get? a=some o)->φ h2
/-- the abstract heap is held -/
def HOk (H:Hp)(h:Heap):Prop:=∀a o,H a=some o->ObjOk P w H h a o
end

section
variable {P:Program}{w:World}{H H':Hp}{h h':Heap}{a:Addr}{o:HO}
theorem ObjOk.lt (x:ObjOk P w H h a o):a<h.objs.size:=by
  cases o with
  |lst xs=>obtain⟨_,_,_,_,e⟩:=x;exact Yt e
  |tup xs=>obtain⟨_,_,_,p⟩:=x;exact p.lt
  |dK kvs=>obtain⟨_,_,_,_,o,_,_,e,_⟩:=x;exact Yt e
  |dT kvs=>obtain⟨_,_,_,_,o,_,_,e,_⟩:=x;exact Yt e
  |set S n=>obtain⟨o,_,_,_,e,_⟩:=x;exact Yt e
  |ins C dx fs=>obtain⟨_,_,_,e,_⟩:=x;exact Yt e
  |own y=>obtain⟨_,e⟩:=x;exact Yt e
  |xd fs=>obtain⟨_,⟨_,_,_,e,_⟩,_⟩:=x;exact Yt e
  |rng lo hi=>obtain⟨_,_,_,e⟩:=x;exact Yt e
  |frz ob u=>obtain⟨e,_⟩:=x;exact Yt e
  |tbl ps=>exact Yt (show h.get? a=some _ from x)
  |met f y=>exact Yt (show h.get? a=some _ from x)
  |ext φ=>obtain⟨_,⟨_,e⟩,_⟩:=x;exact Yt e
theorem Paired.mapP {α β:Type}{F G:α->β->Prop}:∀{l₁:List α}{l₂:List β},Paired F l₁ l₂->(∀a b,F a b->G a b)->Paired G l₁ l₂
  |_,_,.nil,_=> .nil
  |_,_,.cons r t,f=> .cons (f _ _ r) (Paired.mapP t f)
/-- what an object's description leans on:its own object,its own dict,the tuples -/
theorem ObjOk.stay (x:ObjOk P w H h a o)(k:∀b u,(b=a\/H b=some (.own a))->h.get? b=some u->h'.get? b=some u)
    (ho:∀b,H b=some (.own a)->H' b=some (.own a)) (ht:∀b xs,H b=some (.tup xs)->H' b=some (.tup xs)):ObjOk P w H' h' a o:=by
  induction o with
  |lst xs=>obtain⟨z,its,n,r,e⟩:=x;exact⟨z,its,n,r,k _ _ (.inl rfl) e⟩
  |tup xs=>obtain⟨z,its,r,ob,e,c⟩:=x;exact⟨z,its,r,ob,k _ _ (.inl rfl) e,c⟩
  |dK kvs=>obtain⟨z,y,vs,r,ob,es,ep,e,c⟩:=x;exact⟨z,y,vs,r,ob,es,ep,k _ _ (.inl rfl) e,c⟩
  | dT kvs=>
    obtain⟨z,y,xs,r,ob,es,ep,e,c⟩:=x
    exact⟨z,y,xs,Paired.mapP r fun p q z=>⟨z.1,ht _ _ z.2.1,z.2.2⟩,ob,es,ep,k _ _ (.inl rfl) e,c⟩
  |set S n=>obtain⟨ob,es,ep,t,e,c⟩:=x;exact⟨ob,es,ep,t,k _ _ (.inl rfl) e,c⟩
  | ins C dx fs=>
    obtain⟨d,z,ne,e,mA,⟨od,es,ep,e2,c⟩,r⟩:=x
    exact⟨ho _ d,z,ne,k _ _ (.inl rfl) e,mA,⟨od,es,ep,k _ _ (.inr d) e2,c⟩,r⟩
  |own y=>obtain⟨ob,e⟩:=x;exact⟨ob,k _ _ (.inl rfl) e⟩
  |xd fs=>obtain⟨mA,⟨od,es,ep,e,c⟩,r⟩:=x;exact⟨mA,⟨od,es,ep,k _ _ (.inl rfl) e,c⟩,r⟩
  |rng lo hi=>obtain⟨t,u,v,e⟩:=x;exact⟨t,u,v,k _ _ (.inl rfl) e⟩
  |frz ob u ih=>obtain⟨e,q⟩:=x;exact⟨k _ _ (.inl rfl) e,ih q⟩
  | tbl ps=>
    have e:h.get? a=some { cls:= .none,data:= .fields ps }:=x
    show h'.get? a=some { cls:= .none,data:= .fields ps }
    exact k a _ (.inl rfl) e
  | met f y=>
    have e:h.get? a=some (W.methodObj (.ref f) (.ref y)):=x
    show h'.get? a=some (W.methodObj (.ref f) (.ref y))
    exact k a _ (.inl rfl) e
  |ext φ=>obtain⟨p,⟨o,e⟩,st⟩:=x;exact⟨st _ _ p fun o q=>k _ _ (.inl rfl) q,⟨o,k _ _ (.inl rfl) e⟩,st⟩
theorem HOk.lt (x:HOk P w H h)(e:H a=some o):a<h.objs.size:=(x a o e).lt
theorem HOk.fresh (x:HOk P w H h)(e:h.objs.size<=a):H a=none:=by
  cases q:H a with
  |none=>rfl
  |some u=>exact absurd (Yv (x.lt q) e) (YH _)
/-- every object of the heap is kept -/
theorem HOk.kept (x:HOk P w H h)(k:∀b u,h.get? b=some u->h'.get? b=some u):HOk P w H h':=fun a o e=>
  (x a o e).stay (fun b u _ q=>k b u q) (fun _ q=>q) fun _ _ q=>q
/-- a new object is laid and tracked -/
theorem HOk.laid (x:HOk P w H h)(k:∀b u,h.get? b=some u->h'.get? b=some u)(hp:h.objs.size<=a)(new:ObjOk P w (upd H a o) h' a o):HOk P w (upd H a o) h':=fun b u e=>by
  have hn:=x.fresh hp
  by_cases hb:b=a
  · subst hb;rw[upd_same]at e;cases e;exact new
  · rw[upd_ne hb]at e
    exact(x b u e).stay (fun c v _ q=>k c v q) (fun c q=>by rw[upd_ne (ne_of_none q hn)];exact q) fun c xs q=>by rw[upd_ne (ne_of_none q hn)];exact q
end

/-- what may be read as u:it is u,or a known u -/
def Rd (H:Hp)(a:Addr)(u:HO):Prop:=H a=some u\/∃o,H a=some (.frz o u)
theorem Rd.ok {P:Program}{w:World}{H:Hp}{h:Heap}{a:Addr}{u:HO}(r:Rd H a u)(x:HOk P w H h):ObjOk P w H h a u:=by
  rcases r with r | ⟨o,r⟩
  · exact x a u r
  · obtain⟨_,q⟩:=x a _ r
    exact q
/-- what may be written -/
def Mut:Option HO->Prop
  |some (.lst _)=>True
  |some (.dK _)=>True
  |some (.dT _)=>True
  |some (.set _ _)=>True
  |some (.ins _ _ _)=>True
  |some (.ext _)=>True
  |_=>False
section
variable {P:Program}{w:World}{H:Hp}{h h':Heap}{x e:Addr}{o':HO}
/-- the object at e is changed:x itself,or the dict of the instance x -/
theorem HOk.write (ok:HOk P w H h)(mu:Mut (H x))(he:e=x\/H e=some (.own x))(k:∀b u,b≠e->h.get? b=some u->h'.get? b=some u)(heo:∃u,h'.get? e=some u)
    (new:ObjOk P w (upd H x o') h' x o'):HOk P w (upd H x o') h':=fun b u q=>by
  have nown:∀c y,H c=some (.own y)->c≠x:=fun c y r z=>by subst z;rw[r]at mu;exact mu
  have ntup:∀c xs,H c=some (.tup xs)->c≠x:=fun c xs r z=>by subst z;rw[r]at mu;exact mu
  by_cases hb:b=x
  · subst hb;rw[upd_same]at q;cases q;exact new
  · rw [upd_ne hb]at q
    by_cases hbe:b=e
    · have q':H b=some (.own x):=by
        rcases he with z | z
        · exact absurd (hbe.trans z) hb
        · rw[hbe];exact z
      rw[q]at q';cases q'
      obtain⟨v,hv⟩:=heo
      exact⟨v,by rw[hbe];exact hv⟩
    · refine(ok b u q).stay (fun c v hc r=>k c v ?_ r) (fun c r=>by rw[upd_ne (nown c b r)];exact r) fun c xs r=>by rw[upd_ne (ntup c xs r)];exact r
      rcases hc with rfl | hc
      · exact hbe
      · rintro rfl
        rcases he with z | z
        · exact nown c b hc z
        · rw[hc]at z;cases z;exact hb rfl
end

/-! ### kept unless tracked;of the frames at fs (the callers') the slots may change (an exception that passes writes there);of the records at ex (iterators) nothing is said -/
structure Un (fs ex:List Addr)(H H':Hp)(h h':Heap):Prop where
  keep:∀b o,h.get? b=some o->H b=none->b∉fs->b∉ex->h'.get? b=some o
  slot:∀b o,h.get? b=some o->H b=none->b∈fs->b∉ex->∃sl,h'.get? b=some { o with slots:=sl }
  free:∀b o,h.get? b=some o->H b=none->b∉ex->H' b=none
  there:∀b o,h.get? b=some o->b∉ex->∃o',h'.get? b=some o'
  tups:∀b xs,H b=some (.tup xs)->H' b=some (.tup xs)
  frzs:∀b o u,H b=some (.frz o u)->H' b=some (.frz o u)
  tbls:∀b ps,H b=some (.tbl ps)->∃more,H' b=some (.tbl (ps++more))
section
variable {fs fs' ex ex':List Addr}{H H1 H2:Hp}{h h1 h2 h':Heap}{a x e:Addr}{o:HO}
theorem Un.any (u:Un fs ex H H1 h h1){b:Addr}{ob:Obj}(q:h.get? b=some ob)(n:H b=none)(hx:b∉ex):∃sl,h1.get? b=some { ob with slots:=sl }:=by
  by_cases hb:b∈fs
  · exact u.slot b ob q n hb hx
  · exact⟨ob.slots,u.keep b ob q n hb hx⟩
theorem Un.kept (k:∀b u,h.get? b=some u->h'.get? b=some u):Un fs ex H H h h':=
  ⟨fun b ob q _ _ _=>k b ob q,fun b ob q _ _ _=>⟨ob.slots,k b ob q⟩,fun _ _ _ n _=>n,fun b ob q _=>⟨ob,k b ob q⟩,fun _ _ q=>q,fun _ _ _ q=>q,fun _ ps q=>⟨#[],by rw[q];simp⟩⟩
theorem Un.refl:Un fs ex H H h h:=Un.kept fun _ _ q=>q
theorem Un.laid (k:∀b u,h.get? b=some u->h'.get? b=some u)(hp:h.objs.size<=a)(hn:H a=none):Un fs ex H (upd H a o) h h' where
  keep:=fun b u q _ _ _=>k b u q
  slot:=fun b u q _ _ _=>⟨u.slots,k b u q⟩
  free:=fun b u q n _=>by rw[upd_ne (YM (Yv (Yt q) hp))];exact n
  there:=fun b u q _=>⟨u,k b u q⟩
  tups:=fun b xs q=>by rw[upd_ne (ne_of_none q hn)];exact q
  frzs:=fun b u xs q=>by rw[upd_ne (ne_of_none q hn)];exact q
  tbls:=fun b ps q=>⟨#[],by rw[upd_ne (ne_of_none q hn),q];simp⟩
theorem Un.write (mu:Mut (H x))(he:e=x\/H e=some (.own x))(k:∀b u,b≠e->h.get? b=some u->h'.get? b=some u)(heo:∃u,h'.get? e=some u):Un fs ex H (upd H x o) h h':=by
  have hx:∀b,H b=none->b≠x:=fun b n z=>by subst z;rw[n]at mu;exact mu
  have hb:∀b,H b=none->b≠e:=fun b n z=>by
    subst z
    rcases he with r | r
    · exact hx b n r
    · rw[n]at r;cases r
  have hm:∀b u,H b=some u->¬ Mut (some u)->b≠x:=fun b u q nm z=>by subst z;rw[q]at mu;exact nm mu
  refine⟨fun b u q n _ _=>k b u (hb b n) q,fun b u q n _ _=>⟨u.slots,k b u (hb b n) q⟩,fun b u q n _=>by rw[upd_ne (hx b n)];exact n,fun b u q _=>?_,
    fun b xs q=>by rw[upd_ne (hm b _ q fun z=>z)];exact q,fun b u xs q=>by rw[upd_ne (hm b _ q fun z=>z)];exact q,fun b ps q=>⟨#[],by rw[upd_ne (hm b _ q fun z=>z),q];simp⟩⟩
  by_cases hbe:b=e
  · subst hbe;exact heo
  · exact⟨u,k b u hbe q⟩
end

/-! ### the heap without what is tracked -/
def trk (h:Heap)(H:Hp):List Addr:=(List.range h.objs.size).filter fun a=>(H a).isSome
def hidT (h:Heap)(H:Hp):Heap:=W.hideAll h (trk h H)
theorem hidT_size (h:Heap)(H:Hp):(hidT h H).objs.size=h.objs.size:=W.hideAll_size _ _
theorem hidT_get {h:Heap}{H:Hp}{b:Addr}{o:Obj}(e:h.get? b=some o)(n:H b=none):(hidT h H).get? b=some o:=
  W.hideAll_get _ e fun hm=>by
    have q:(H b).isSome=true:=(List.mem_filter.mp hm).2
    rw[n]at q;simp at q
theorem of_hidT {h:Heap}{H:Hp}{b:Addr}{o:Obj}(e:(hidT h H).get? b=some o):h.get? b=some o/\H b=none:=by
  have e':h.get? b=some o:=W.of_hideAll (trk h H) e
  refine⟨e',?_⟩
  cases q:H b with
  |none=>rfl
  | some x=>
    have hm:b∈trk h H:=List.mem_filter.mpr ⟨List.mem_range.mpr (Yt e'),by simp[q]⟩
    have z:(hidT h H).get? b=none:=W.hideAll_none (trk h H) hm
    rw[z]at e;cases e

/-! ### OpenK's ledger,filled with every new object but one -/
end L2

namespace L2
open PySem PySem.Spec PyProof.Rows

/-- the module's facts,over the base:the heap at the law's entry without what is tracked there -/
structure Mod (K:W.Frag)(mg:Str->Option Value)(base:Heap):Prop where
  kin:K.In base
  glob:base.Ns mainGlobals mg
  blt:∃mb,base.Ns builtinsNs mb/\∀x:Str,x≠"__name__"->mb x=bootBuiltins x
  nolimit:base.NoLimit

/-- the context:a def's body (or a comprehension's block) running. base:fixed through the whole law;s₀,H₀:the entry;outer:the frames whose slots others may change (a def's callers);stack:all frames that run;
   ex:iterators that were made ahead of the entry and are walked here (a comprehension's);fn:the names whose cells were made at the entry (a def:all;a comprehension's block:its own);calm:not within an except suite;pn:pins that every state bears;xe:what is wanted of an exception that leaves the code -/
structure Cx where
  prog:Program
  w:World
  K:W.Frag
  mg:Str->Option Value
  base:Heap
  A:Around
  N:List Str
  s₀:Shared
  H₀:Hp
  env:Env
  outer:List Env
  stack:List Env
  ex:List Addr
  fn:Str->Bool
  calm:Bool
  pn:List (Addr×Obj)
  xe:Value->Shared->Prop
/-- the callers' frames -/
def frs (l:List Env):List Addr:=l.filterMap (·.frame)
abbrev Cx.fs (X:Cx):List Addr:=frs X.outer

def Vis (sc:Scope)(x:Str):Prop:=sc.names.lookup x=some .local\/sc.names.lookup x=some .cell\/sc.names.lookup x=some .free
def Loc (sc:Scope)(x:Str):Prop:=sc.names.lookup x=some .local\/sc.names.lookup x=some .cell
def Look (env:Env)(h:Heap)(m:Str->Option Value)(x:Str)(u:Value):Prop:=
  (env.kindOf x=some .local/\m x=some u)\/((env.kindOf x=some .cell\/env.kindOf x=some .free)/\∃c,env.cells.lookup x=some c/\h.IsCell c (some u))

structure Cx.Ok (X:Cx):Prop where
  mod:Mod X.K X.mg X.base
  kind:X.env.scope.kind= .function
  glob:X.env.globals=mainGlobals
  blt:X.env.builtins=builtinsNs
  above:X.s₀.heap.objs.size<=X.env.locals
  inj:∀x y c,X.env.cells.lookup x=some c->X.env.cells.lookup y=some c->x=y
  has:∀x,(X.env.kindOf x=some .cell\/X.env.kindOf x=some .free)->∃c,X.env.cells.lookup x=some c
  cab:∀x c,X.fn x=true->X.env.cells.lookup x=some c->X.s₀.heap.objs.size<=c
  hd:X.calm=true->X.A.handled=none
  frames:X.A.frames=some X.stack
  stk:X.stack=X.outer\/(X.stack=X.env::X.outer/\X.env.frame=some X.env.locals)
  exf:∀b∈X.ex,b≠X.env.locals/\∀x c,X.env.cells.lookup x=some c->c≠b
  bs:∀b o,X.base.get? b=some o->X.s₀.heap.get? b=some o/\X.H₀ b=none
  bsz:X.base.objs.size<=X.s₀.heap.objs.size
  noex:∀b o,X.base.get? b=some o->b∉X.ex
  exfs:∀b∈X.ex,b∉X.fs
  funs:X.s₀.heap.FunFrames X.base X.outer
  frf:∀b∈X.fs,X.H₀ b=none

structure Inv (X:Cx)(pins:List (Addr×Obj))(σ:List (Option V))(H:Hp)(s:Shared):Prop where
  ok:X.Ok
  os:s.os=X.s₀.os
  bare:AllBare s.gens
  base:Un X.fs X.ex X.H₀ H X.s₀.heap s.heap
  loc:∃m,s.heap.Ns X.env.locals m/\∀(i:Nat)(x:Str)(v:V),X.N[i]? =some x->σ[i]? =some (some v)->Vis X.env.scope x->∃u,RelV v u/\Look X.env s.heap m x u
  cell:∀x c,X.env.cells.lookup x=some c->∃v,s.heap.IsCell c v
  free:H X.env.locals=none
  freeC:∀x c,X.env.cells.lookup x=some c->H c=none
  pin:∀p∈X.pn++pins,s.heap.get? p.1=some p.2/\H p.1=none/\p.1≠X.env.locals/\p.1∉X.fs/\∀v,p.2.data≠ .cell v
  hok:HOk X.prog X.w H s.heap
  len:σ.length=X.N.length

section
variable {X:Cx}{pins:List (Addr×Obj)}{σ:List (Option V)}{H H':Hp}{s:Shared}{h':Heap}

theorem Cx.Ok.nofr (ok:X.Ok){b:Addr}{o:Obj}(e:X.base.get? b=some o):b∉X.fs:=fun hb=>by
  have:=(ok.funs.mem hb).1
  rw[e]at this;cases this
theorem Inv.bs (I:Inv X pins σ H s):∀b o,X.base.get? b=some o->s.heap.get? b=some o/\H b=none:=fun b o e=>
  ⟨I.base.keep b o (I.ok.bs b o e).1 (I.ok.bs b o e).2 (I.ok.nofr e) (I.ok.noex b o e),I.base.free b o (I.ok.bs b o e).1 (I.ok.bs b o e).2 (I.ok.noex b o e)⟩
theorem Inv.bk (I:Inv X pins σ H s):∀b o,X.base.get? b=some o->s.heap.get? b=some o:=fun b o e=>(I.bs b o e).1
theorem Inv.mod (I:Inv X pins σ H s):Mod X.K X.mg X.base:=I.ok.mod
theorem Inv.kIn (I:Inv X pins σ H s):X.K.In s.heap:=I.ok.mod.kin.keeps I.bk
/-- the frame over the base:for OpenK's rules (K.In X.base is I.mod.kin) -/
theorem Inv.fr (I:Inv X pins σ H s):∃m,Fr X.base X.env.locals s.heap m:=
  let ⟨m,hn,_⟩:=I.loc
  ⟨m,hn,I.bk,Ye I.ok.bsz I.ok.above⟩
theorem Inv.lt (I:Inv X pins σ H s):X.env.locals<s.heap.objs.size:=let ⟨_,hn,_⟩:=I.loc;hn.lt
theorem Inv.sz (I:Inv X pins σ H s):X.s₀.heap.objs.size<=s.heap.objs.size:=Ye I.ok.above (Xz I.lt)
theorem Inv.nofs (I:Inv X pins σ H s){a:Addr}(h:s.heap.objs.size<=a):a∉X.fs:=fun hb=>by
  obtain⟨_,o,ho,_⟩:=I.ok.funs.mem hb
  exact absurd (Yv (Yt ho) (Ye I.sz h)) (YH _)
theorem Inv.cne (I:Inv X pins σ H s):∀x c,X.env.cells.lookup x=some c->c≠X.env.locals:=fun x c e z=>by
  obtain⟨v,o,ho,hd⟩:=I.cell x c e
  obtain⟨m,⟨o',es,ep,ho',hd',_⟩,_⟩:=I.loc
  rw[z,ho']at ho;cases ho;rw[hd']at hd;cases hd
theorem Inv.funs (I:Inv X pins σ H s):s.heap.FunFrames X.base X.outer:=by
  have all:∀(l:List Env),(∀b∈frs l,b∈X.fs)->X.s₀.heap.FunFrames X.base l->s.heap.FunFrames X.base l:=by
    intro l
    induction l with
    |nil=>intro _ _;trivial
    | cons env r ih=>
      intro hs hl
      obtain⟨hk,⟨L,o,hf,hn,ho,hd⟩,hr⟩:=hl
      have hL:L∈X.fs:=hs L (by unfold frs;rw[List.filterMap_cons,hf];exact Yo)
      obtain⟨sl,e⟩:=I.base.slot L o ho (I.ok.frf L hL) hL fun z=>I.ok.exfs L z hL
      exact⟨hk,⟨L,_,hf,hn,e,hd⟩,ih (fun b hb=>hs b (by unfold frs;rw[List.filterMap_cons,hf];exact Yf _ hb)) hr⟩
  exact all X.outer (fun _ hb=>hb) I.ok.funs

/-- the frames that run,for a call -/
theorem Inv.stack (I:Inv X pins σ H s):s.heap.FunFrames X.base X.stack:=by
  rcases I.ok.stk with e | ⟨e,hf⟩
  · rw[e];exact I.funs
  · rw[e]
    obtain⟨m,hn,_⟩:=I.loc
    refine .cons (by rw[I.ok.kind];decide) hf hn ?_ I.funs
    exact Heap.get?_none_of_le (Ye I.ok.bsz I.ok.above)
theorem Inv.stkSub (I:Inv X pins σ H s):∀b∈frs X.stack,b∈X.env.locals::X.fs:=fun b hb=>by
  rcases I.ok.stk with e | ⟨e,hf⟩
  · rw[e]at hb;exact Yf _ hb
  · rw[e]at hb
    unfold frs at hb
    rw[List.filterMap_cons,hf]at hb
    exact hb
theorem Inv.stkFree (I:Inv X pins σ H s):∀b∈frs X.stack,H b=none:=fun b hb=>by
  rcases Yr.mp (I.stkSub b hb) with e | hb
  · rw[e];exact I.free
  · obtain⟨_,o,ho,_⟩:=I.ok.funs.mem hb
    exact I.base.free b o ho (I.ok.frf b hb) fun z=>I.ok.exfs b z hb

/-- THE STEP:the untracked objects but the frame and the records at ch are kept (the callers' frames up to slots),the frame's map is kept,the new abstract heap is held -/
theorem Inv.step {g':Array GenState}{t':Nat}{d':Drawn}{ch:List Addr}(I:Inv X pins σ H s)
    (hch:∀b∈ch,(b∈X.ex\/X.s₀.heap.objs.size<=b)/\b≠X.env.locals/\(∀x c,X.env.cells.lookup x=some c->c≠b)/\∀p∈X.pn++pins,p.1≠b)
    (keep:∀b o,b≠X.env.locals->b∉X.fs->b∉ch->s.heap.get? b=some o->H b=none->h'.get? b=some o)
    (slot:∀b o,b≠X.env.locals->b∈X.fs->b∉ch->s.heap.get? b=some o->H b=none->∃sl,h'.get? b=some { o with slots:=sl }) (free:∀b o,b∉ch->s.heap.get? b=some o->H b=none->H' b=none)
    (there:∀b o,b∉ch->s.heap.get? b=some o->∃o',h'.get? b=some o')
    (tups:∀b xs,H b=some (.tup xs)->H' b=some (.tup xs)) (frzs:∀b o u,H b=some (.frz o u)->H' b=some (.frz o u)) (tbls:∀b ps,H b=some (.tbl ps)->∃more,H' b=some (.tbl (ps++more)))
    (ns:∀m,s.heap.Ns X.env.locals m->h'.Ns X.env.locals m) (hok:HOk X.prog X.w H' h') (hg:AllBare g') :
    Inv X pins σ H' { s with heap:=h',gens:=g',drawn:=d',toks:=t' }:=by
  have neL:∀b o,X.s₀.heap.get? b=some o->b≠X.env.locals:=fun b o e=>YM (Yv (Yt e) I.ok.above)
  have neC:∀b o,X.s₀.heap.get? b=some o->b∉X.ex->b∉ch:=fun b o e hx hb=>by
    rcases (hch b hb).1 with z | z
    · exact hx z
    · exact absurd (Yv (Yt e) z) (YH _)
  have cellK:∀x c,X.env.cells.lookup x=some c->∀v,s.heap.IsCell c v->h'.IsCell c v:=fun x c e v ⟨o,ho,hd⟩=>by
    have nch:c∉ch:=fun z=>(hch c z).2.2.1 x c e rfl
    by_cases hc:c∈X.fs
    · obtain⟨sl,q⟩:=slot c o (I.cne x c e) hc nch ho (I.freeC x c e)
      exact⟨_,q,hd⟩
    · exact⟨o,keep c o (I.cne x c e) hc nch ho (I.freeC x c e),hd⟩
  refine⟨I.ok,I.os,hg,⟨fun b o e n hb hx=>?_,fun b o e n hb hx=>?_,fun b o e n hx=>?_,fun b o e hx=>?_,fun b xs e=>tups b xs (I.base.tups b xs e),fun b o xs e=>frzs b o xs (I.base.frzs b o xs e),fun b ps e=>?_⟩,?_,fun x c e=>?_,?_,fun x c e=>?_,fun p hp=>?_,hok,I.len⟩
  · exact keep b o (neL b o e) hb (neC b o e hx) (I.base.keep b o e n hb hx) (I.base.free b o e n hx)
  · obtain⟨sl,e1⟩:=I.base.slot b o e n hb hx
    obtain⟨sl',e2⟩:=slot b _ (neL b o e) hb (neC b o e hx) e1 (I.base.free b o e n hx)
    exact⟨sl',e2⟩
  · obtain⟨o',e1⟩:=I.base.there b o e hx
    exact free b o' (neC b o e hx) e1 (I.base.free b o e n hx)
  · obtain⟨o',e1⟩:=I.base.there b o e hx
    exact there b o' (neC b o e hx) e1
  · obtain⟨m1,e1⟩:=I.base.tbls b ps e
    obtain⟨m2,e2⟩:=tbls b _ e1
    exact⟨m1++m2,by rw[e2,XN]⟩
  · obtain⟨m,hn,hl⟩:=I.loc
    refine⟨m,ns m hn,fun i x v e1 e2 e3=>?_⟩
    obtain⟨u,r,l⟩:=hl i x v e1 e2 e3
    refine⟨u,r,?_⟩
    rcases l with l | ⟨k,c,e,z⟩
    · exact .inl l
    · exact .inr ⟨k,c,e,cellK x c e _ z⟩
  · obtain⟨v,z⟩:=I.cell x c e
    exact⟨v,cellK x c e v z⟩
  · obtain⟨m,⟨o,_,_,ho,_⟩,_⟩:=I.loc
    exact free _ o (fun z=>(hch _ z).2.1 rfl) ho I.free
  · obtain⟨v,o,ho,hd⟩:=I.cell x c e
    exact free c o (fun z=>(hch c z).2.2.1 x c e rfl) ho (I.freeC x c e)
  · obtain⟨e,n,ne,nf,d⟩:=I.pin p hp
    have nch:p.1∉ch:=fun z=>(hch p.1 z).2.2.2 p hp rfl
    exact⟨keep p.1 p.2 ne nf nch e n,free p.1 p.2 nch e n,ne,nf,d⟩
/-- .. where the frame's own object is kept too -/
theorem Inv.un {t':Nat}(I:Inv X pins σ H s)(u:Un X.fs [] H H' s.heap h')(hok:HOk X.prog X.w H' h'):Inv X pins σ H' { s with heap:=h',toks:=t' }:=by
  obtain⟨m,⟨o,es,ep,ho,r⟩,_⟩:=id I.loc
  obtain⟨sl,hL⟩:=u.any ho I.free (by simp)
  exact I.step (g':=s.gens) (d':=s.drawn) (ch:=[]) (fun _ z=>nomatch z) (fun b o _ hb _ e n=>u.keep b o e n hb (by simp)) (fun b o _ hb _ e n=>u.slot b o e n hb (by simp)) (fun b o _ e n=>u.free b o e n (by simp)) (fun b o _ e=>u.there b o e (by simp)) u.tups u.frzs u.tbls (fun m' hm=>by
    obtain⟨o',es',ep',ho',r'⟩:=hm
    rw[ho]at ho';cases ho'
    exact⟨_,es',ep',hL,r'⟩) hok I.bare
/-- behind a call (or a comprehension's block):the slots of this frame may have changed too,the records at ch may have turned -/
theorem Inv.call {g':Array GenState}{t':Nat}{d':Drawn}{ch:List Addr}(I:Inv X pins σ H s)(u:Un (frs X.stack) ch H H' s.heap h')(hok:HOk X.prog X.w H' h')(hg:AllBare g')
    (hch:∀b∈ch,(b∈X.ex\/X.s₀.heap.objs.size<=b)/\b≠X.env.locals/\(∀x c,X.env.cells.lookup x=some c->c≠b)/\∀p∈X.pn++pins,p.1≠b) :
    Inv X pins σ H' { s with heap:=h',gens:=g',drawn:=d',toks:=t' }:=by
  obtain⟨m,⟨o,es,ep,ho,r⟩,_⟩:=id I.loc
  obtain⟨sl,hL⟩:=u.any ho I.free fun z=>(hch _ z).2.1 rfl
  exact I.step (ch:=ch) hch (fun b o hL hb hc e n=>u.keep b o e n (fun z=>(Yr.mp (I.stkSub b z)).elim hL hb) hc) (fun b o _ _ hc e n=>u.any e n hc) (fun b o hc e n=>u.free b o e n hc) (fun b o hc e=>u.there b o e hc) u.tups u.frzs u.tbls (fun m' hm=>by
    obtain⟨o',es',ep',ho',r'⟩:=hm
    rw[ho]at ho';cases ho'
    exact⟨_,es',ep',hL,r'⟩) hok hg
/-- an untracked record of ours (an iterator) has turned -/
theorem Inv.turned {t':Nat}{it:Addr}(I:Inv X pins σ H s)(k:∀b o,b≠it->s.heap.get? b=some o->h'.get? b=some o)(hn:H it=none)(hL:it≠X.env.locals)
    (h1:it∈X.ex\/X.s₀.heap.objs.size<=it) (h2:∀x c,X.env.cells.lookup x=some c->c≠it) (h3:∀p∈X.pn++pins,p.1≠it):Inv X pins σ H { s with heap:=h',toks:=t' }:=by
  have nit:∀b u,H b=some u->b≠it:=fun b u e z=>by rw[z,hn]at e;cases e
  refine I.step (g':=s.gens) (d':=s.drawn) (ch:=[it]) (fun b hb=>?_) (fun b o _ _ hc e _=>k b o (fun z=>hc (by simp[z])) e) (fun b o _ _ hc e _=>⟨o.slots,k b o (fun z=>hc (by simp[z])) e⟩) (fun _ _ _ _ n=>n)
    (fun b o hc e=>⟨o,k b o (fun z=>hc (by simp[z])) e⟩) (fun _ _ e=>e) (fun _ _ _ e=>e) (fun b ps e=>⟨#[],by rw[e];simp⟩) (fun m hm=>?_) (fun b u e=>?_) I.bare
  · have e:b=it:=by simpa using hb
    subst e
    exact⟨h1,hL,h2,h3⟩
  · obtain⟨o,es,ep,ho,r⟩:=hm
    exact⟨o,es,ep,k _ o (Ne.symm hL) ho,r⟩
  · refine(I.hok b u e).stay (fun c v hc q=>k c v ?_ q) (fun _ q=>q) fun _ _ q=>q
    rcases hc with z | z
    · rw[z];exact nit b u e
    · exact nit c _ z
theorem Inv.tok (I:Inv X pins σ H s)(t:Nat):Inv X pins σ H { s with toks:=t }:=I.un (h':=s.heap) (t':=t) Un.refl I.hok
/-- all objects kept -/
theorem Inv.kept {t':Nat}(I:Inv X pins σ H s)(k:∀b u,s.heap.get? b=some u->h'.get? b=some u):Inv X pins σ H { s with heap:=h',toks:=t' }:=I.un (Un.kept k) (I.hok.kept k)
/-- a new object laid and tracked -/
theorem Inv.laid {a:Addr}{o:HO}{t':Nat}(I:Inv X pins σ H s)(k:∀b u,s.heap.get? b=some u->h'.get? b=some u)(hp:s.heap.objs.size<=a)(new:ObjOk X.prog X.w (upd H a o) h' a o) :
    Inv X pins σ (upd H a o) { s with heap:=h',toks:=t' }:=I.un (Un.laid k hp (I.hok.fresh hp)) (I.hok.laid k hp new)
/-- an object written -/
theorem Inv.write {x e:Addr}{o:HO}{t':Nat}(I:Inv X pins σ H s)(mu:Mut (H x))(he:e=x\/H e=some (.own x))(k:∀b u,b≠e->s.heap.get? b=some u->h'.get? b=some u)(heo:∃u,h'.get? e=some u)
    (new:ObjOk X.prog X.w (upd H x o) h' x o):Inv X pins σ (upd H x o) { s with heap:=h',toks:=t' }:=I.un (Un.write mu he k heo) (I.hok.write mu he k heo new)
/-- forgetting slots,pins -/
theorem Inv.weak {σ':List (Option V)}(I:Inv X pins σ H s)(hl:σ'.length=σ.length)(w:∀(i:Nat) v,σ'[i]? =some (some v)->σ[i]? =some (some v)):Inv X pins σ' H s:=
  ⟨I.ok,I.os,I.bare,I.base,let ⟨m,hn,hl'⟩:=I.loc;⟨m,hn,fun i x v e1 e2 e3=>hl' i x v e1 (w i v e2) e3⟩,I.cell,I.free,I.freeC,I.pin,I.hok,hl.trans I.len⟩
theorem Inv.pins_of {pins':List (Addr×Obj)}(I:Inv X pins σ H s)(h:∀p∈pins',s.heap.get? p.1=some p.2/\H p.1=none/\p.1≠X.env.locals/\p.1∉X.fs/\∀v,p.2.data≠ .cell v):Inv X pins' σ H s:=
  ⟨I.ok,I.os,I.bare,I.base,I.loc,I.cell,I.free,I.freeC,fun p hp=>(YG.mp hp).elim (fun z=>I.pin p (XG _ z)) (h p),I.hok,I.len⟩

theorem nodup_ix {N:List Str}(hN:N.Nodup){i j:Nat}{x:Str}(a:N[i]? =some x)(b:N[j]? =some x):i=j:=by
  obtain⟨h1,e1⟩:=Yb.mp a
  obtain⟨h2,e2⟩:=Yb.mp b
  exact(List.getElem_inj hN).mp (e1.trans e2.symm)

/-- a name is stored;what changed -/
theorem store_ok2 {M:Model}{A:Around}{E:Value->Shared->Prop}{i:Nat}{x:Str}{v:V}{u:Value}{Q:Unit->Shared->Prop}(I:Inv X pins σ H s)(hN:X.N.Nodup)(hi:X.N[i]? =some x)(hx:Loc X.env.scope x)(r:RelV v u)
    (h:∀s',Inv X pins (σ.set i (some v)) H s'->(∃a,Heap.SameBut a s.heap s'.heap/\(a=X.env.locals\/X.env.cells.lookup x=some a))->Q () s') (hf:X.fn x=true\/X.env.scope.names.lookup x=some .local:=by first | exact .inl rfl | exact .inr rfl | assumption):wpAny M A (storeName X.env x u) Q E s:=by
  obtain⟨m,hn,hl⟩:=id I.loc
  have hcls:(X.env.scope.kind == .class || (X.env.scope.kind == .module && X.env.locals != X.env.globals))=false:=by rw[I.ok.kind];rfl
  have hiσ:i<σ.length:=by rw[I.len];exact(Yb.mp hi).1
  have cne:=I.cne
  have tracked:∀{a:Addr}{h':Heap},(∃o,s.heap.get? a=some o/\H a=none)->Heap.SameBut a s.heap h'->HOk X.prog X.w H h':=fun {a h'} ha hs b ob e=>by
    obtain⟨_,_,hfree⟩:=ha
    refine(I.hok b ob e).stay (fun c w' hc q=>(hs.2 c ?_).trans q) (fun _ q=>q) fun _ _ q=>q
    rintro rfl
    rcases hc with rfl | hc
    · rw[hfree]at e;cases e
    · rw[hfree]at hc;cases hc
  rcases hx with hk | hk
  · refine wpAny_storeName_local hk hn (fun h' hn' hs=>?_) hcls
    obtain⟨oL,_,_,hoL,_⟩:=id hn
    refine h _ ⟨I.ok,I.os,I.bare,⟨fun b o e n hb hx=>?_,fun b o e n hb hx=>?_,I.base.free,fun b o e hx=>?_,I.base.tups,I.base.frzs,I.base.tbls⟩,⟨_,hn',fun j y v' e1 e2 e3=>?_⟩,fun y c e=>?_,I.free,I.freeC,fun p hp=>?_,tracked ⟨oL,hoL,I.free⟩ hs,by simpa using I.len⟩ ⟨_,hs,.inl rfl⟩
    · exact(hs.2 b (YM (Yv (Yt e) I.ok.above))).trans (I.base.keep b o e n hb hx)
    · obtain⟨sl,e1⟩:=I.base.slot b o e n hb hx
      exact⟨sl,(hs.2 b (YM (Yv (Yt e) I.ok.above))).trans e1⟩
    · obtain⟨o',e1⟩:=I.base.there b o e hx
      exact⟨o',(hs.2 b (YM (Yv (Yt e) I.ok.above))).trans e1⟩
    · by_cases hj:j=i
      · subst hj
        rw[hi]at e1;cases e1
        rw[List.getElem?_set_self hiσ]at e2
        cases e2
        exact⟨u,r,.inl ⟨hk,by simp⟩⟩
      · rw [Xc (Ne.symm hj)]at e2
        obtain⟨u',r',q⟩:=hl j y v' e1 e2 e3
        refine⟨u',r',?_⟩
        rcases q with ⟨k,e⟩ | ⟨k,c,e,z⟩
        · refine .inl ⟨k,?_⟩
          have:y≠x:=fun e=>hj (nodup_ix hN e1 (e▸hi))
          simp[this,e]
        · exact .inr ⟨k,c,e,z.sameBut hs (cne y c e)⟩
    · obtain⟨w',z⟩:=I.cell y c e
      exact⟨w',z.sameBut hs (cne y c e)⟩
    · obtain⟨e,n,ne,nf,d⟩:=I.pin p hp
      exact⟨(hs.2 p.1 ne).trans e,n,ne,nf,d⟩
  · have hfn:X.fn x=true:=by
      rcases hf with z | z
      · exact z
      · rw[z]at hk;cases hk
    obtain⟨c,hc⟩:=I.ok.has x (.inl hk)
    obtain⟨w',z⟩:=I.cell x c hc
    refine wpAny_storeName_cell I.ok.kind hk hc z (fun h' hc' hs=>?_)
    obtain⟨oc,hoc,hocd⟩:=id z
    refine h { s with heap:=h' } ⟨I.ok,I.os,I.bare,⟨fun b o e n hb hx=>?_,fun b o e n hb hx=>?_,I.base.free,fun b o e hx=>?_,I.base.tups,I.base.frzs,I.base.tbls⟩,⟨m,hn.sameBut hs (Ne.symm (cne x c hc)),fun j y v' e1 e2 e3=>?_⟩,fun y c' e=>?_,I.free,I.freeC,fun p hp=>?_,tracked ⟨oc,hoc,I.freeC x c hc⟩ hs,by simpa using I.len⟩ ⟨c,hs,.inr hc⟩
    · exact(hs.2 b (YM (Yv (Yt e) (I.ok.cab x c hfn hc)))).trans (I.base.keep b o e n hb hx)
    · obtain⟨sl,e1⟩:=I.base.slot b o e n hb hx
      exact⟨sl,(hs.2 b (YM (Yv (Yt e) (I.ok.cab x c hfn hc)))).trans e1⟩
    · obtain⟨o',e1⟩:=I.base.there b o e hx
      exact⟨o',(hs.2 b (YM (Yv (Yt e) (I.ok.cab x c hfn hc)))).trans e1⟩
    · by_cases hj:j=i
      · subst hj
        rw[hi]at e1;cases e1
        rw[List.getElem?_set_self hiσ]at e2
        cases e2
        exact⟨u,r,.inr ⟨.inl hk,c,hc,hc'⟩⟩
      · rw [Xc (Ne.symm hj)]at e2
        obtain⟨u',r',q⟩:=hl j y v' e1 e2 e3
        refine⟨u',r',?_⟩
        rcases q with q | ⟨k,c',e,z'⟩
        · exact .inl q
        · refine .inr ⟨k,c',e,z'.sameBut hs ?_⟩
          rintro rfl
          exact hj (nodup_ix hN e1 (I.ok.inj _ _ _ e hc▸hi))
    · by_cases hcc:c'=c
      · subst hcc;exact⟨_,hc'⟩
      · obtain⟨w2,z2⟩:=I.cell y c' e
        exact⟨w2,z2.sameBut hs hcc⟩
    · obtain⟨e,n,ne,nf,d⟩:=I.pin p hp
      refine⟨(hs.2 p.1 ?_).trans e,n,ne,nf,d⟩
      intro q
      rw[q,hoc]at e
      have q':oc=p.2:=YF e
      exact d w' (by rw[<-q'];exact hocd)
theorem store_ok {M:Model}{A:Around}{E:Value->Shared->Prop}{i:Nat}{x:Str}{v:V}{u:Value}{Q:Unit->Shared->Prop}(I:Inv X pins σ H s)(hN:X.N.Nodup)(hi:X.N[i]? =some x)(hx:Loc X.env.scope x)(r:RelV v u)
    (h:∀s',Inv X pins (σ.set i (some v)) H s'->Q () s') (hf:X.fn x=true\/X.env.scope.names.lookup x=some .local:=by first | exact .inl rfl | exact .inr rfl | assumption):wpAny M A (storeName X.env x u) Q E s:=
  store_ok2 I hN hi hx r (fun s' I' _=>h s' I') hf
/-- behind a call or a block,the state as it is -/
theorem Inv.call' {s':Shared}{ch:List Addr}(I:Inv X pins σ H s)(ho:s'.os=s.os)(u:Un (frs X.stack) ch H H' s.heap s'.heap)(hok:HOk X.prog X.w H' s'.heap)(hg:AllBare s'.gens)
    (hch:∀b∈ch,(b∈X.ex\/X.s₀.heap.objs.size<=b)/\b≠X.env.locals/\(∀x c,X.env.cells.lookup x=some c->c≠b)/\∀p∈X.pn++pins,p.1≠b):Inv X pins σ H' s':=by
  obtain⟨h',g',d',t',o'⟩:=s'
  have e:o'=s.os:=ho
  subst e
  exact I.call (g':=g') (t':=t') (d':=d') u hok hg hch
end

/-! ### the judgements -/
/-- an exception:its class,its own dict's address (where it has one),the abstract heap behind it -/
abbrev XK:=Value->Option Addr->Hp->Prop
abbrev St:=List (Option V)
abbrev VK:=V->Hp->Prop
/-- an expression's reading;a test's;an argument list's -/
abbrev TE:=St->Hp->VK->Prop
abbrev TT:=St->Hp->(Bool->Hp->Prop)->Prop
abbrev TA:=St->Hp->(List V->Hp->Prop)->Prop
/-- what is wanted behind a statement -/
structure Ends where
  nx:St->Hp->Prop
  rt:VK
  bk:St->Hp->Prop:=fun _ _=>False
  ct:St->Hp->Prop:=fun _ _=>False
abbrev TS:=Ends->St->Hp->Prop

def EP (X:Cx)(pins:List (Addr×Obj))(σ:St)(Q:VK)(u:Value)(s':Shared):Prop:=∃v H',Inv X pins σ H' s'/\RelV v u/\Q v H'
def TP (X:Cx)(pins:List (Addr×Obj))(σ:St)(Q:Bool->Hp->Prop)(b:Bool)(s':Shared):Prop:=∃H',Inv X pins σ H' s'/\Q b H'
def AP (X:Cx)(pins:List (Addr×Obj))(σ:St)(Q:List V->Hp->Prop)(us:List Value)(s':Shared):Prop:=∃vs H',Inv X pins σ H' s'/\Vals vs us/\Q vs H'
def SP (X:Cx)(pins:List (Addr×Obj))(D:Ends)(f:Flow)(s':Shared):Prop:=
  match f with
  |.next=>∃σ' H',Inv X pins σ' H' s'/\D.nx σ' H'
  |.brk=>∃σ' H',Inv X pins σ' H' s'/\D.bk σ' H'
  |.cont=>∃σ' H',Inv X pins σ' H' s'/\D.ct σ' H'
  |.ret u=>∃v σ' H',Inv X pins σ' H' s'/\RelV v u/\D.rt v H'

def PE (X:Cx)(e:Expr)(t:TE):Prop:=
  ∀(pins:List (Addr×Obj))(s:Shared)(σ:St)(H:Hp)(Q:VK),Inv X pins σ H s->t σ H Q->wpAny (model X.prog X.w) X.A (eval e X.env) (EP X pins σ Q) X.xe s
def PT (X:Cx)(e:Expr)(t:TT):Prop:=
  ∀(pins:List (Addr×Obj))(s:Shared)(σ:St)(H:Hp)(Q:Bool->Hp->Prop),Inv X pins σ H s->t σ H Q->wpAny (model X.prog X.w) X.A (isTrue e X.env (eval e X.env)) (TP X pins σ Q) X.xe s
/-- a test whatever its 'whole' is (and,or) -/
def PW (X:Cx)(e:Expr)(t:TT):Prop:=
  ∀(whole:Sem Value)(pins:List (Addr×Obj))(s:Shared)(σ:St)(H:Hp)(Q:Bool->Hp->Prop),Inv X pins σ H s->t σ H Q->wpAny (model X.prog X.w) X.A (isTrue e X.env whole) (TP X pins σ Q) X.xe s
theorem PW.pt {X:Cx}{e:Expr}{t:TT}(h:PW X e t):PT X e t:=h _
/-- an argument list (no star),from the left -/
def PA (X:Cx)(es:List Expr)(t:TA):Prop:=
  ∀(pos:Pos)(pins:List (Addr×Obj))(s:Shared)(σ:St)(H:Hp)(Q:List V->Hp->Prop),Inv X pins σ H s->t σ H Q->wpAny (model X.prog X.w) X.A (spliced (backTo pos (starEach es X.env))) (AP X pins σ Q) X.xe s
def PS (X:Cx)(st:Stmt)(t:TS):Prop:=
  ∀(pins:List (Addr×Obj))(s:Shared)(σ:St)(H:Hp)(D:Ends),Inv X pins σ H s->t D σ H->wpAny (model X.prog X.w) X.A (exec st X.env) (SP X pins D) X.xe s
def PSs (X:Cx)(st:List Stmt)(t:TS):Prop:=
  ∀(pins:List (Addr×Obj))(s:Shared)(σ:St)(H:Hp)(D:Ends),Inv X pins σ H s->t D σ H->wpAny (model X.prog X.w) X.A (execs st X.env) (SP X pins D) X.xe s
/-- weaken the end -/
theorem thn {α:Type}{t:Sem α}{Q Q':α->Shared->Prop}{M:Model}{A:Around}{E:Value->Shared->Prop}{s:Shared}(h:wpAny M A t Q E s)(hQ:∀a s,Q a s->Q' a s):wpAny M A t Q' E s:=YL h hQ fun _ _ x=>x
end L2

namespace L2
open PySem PySem.Spec PyProof.Rows
section
variable {X:Cx}

/-- two expressions in a row -/
theorem bin {a b:Expr}{ta tb:TE}(ha:PE X a ta)(hb:PE X b tb){pins:List (Addr×Obj)}{s:Shared}{σ:St}{H:Hp}{R:V->V->Hp->Prop}(I:Inv X pins σ H s)(h:ta σ H fun x H1=>tb σ H1 fun y H2=>R x y H2)
    {α:Type} {Q:α->Shared->Prop} {f:Value->Value->Sem α}
    (hf:∀v u s2 x y H2,Inv X pins σ H2 s2->RelV x v->RelV y u->R x y H2->wpAny (model X.prog X.w) X.A (f v u) Q X.xe s2) :
    wpAny (model X.prog X.w) X.A (eval a X.env) (fun v s₁=>wpAny (model X.prog X.w) X.A (eval b X.env) (fun u s₂=>wpAny (model X.prog X.w) X.A (f v u) Q X.xe s₂) X.xe s₁) X.xe s:=by
  refine thn (ha pins s σ H _ I h) fun v s1 hz9=>?_
  obtain⟨x,H1,I1,r1,q1⟩:=hz9
  refine thn (hb pins s1 σ H1 _ I1 q1) fun u s2 hz9=>?_
  obtain⟨y,H2,I2,r2,q2⟩:=hz9
  exact hf v u s2 x y H2 I2 r1 r2 q2

/-! ### names and constants -/
def tVar (i:Nat):TE:=fun σ H Q=>∃v,σ[i]? =some (some v)/\Q v H
def tC (v:V):TE:=fun _ H Q=>Q v H
theorem pe_var {i:Nat}{x:Str}{pos:Pos}(hN:X.N[i]? =some x)(hv:Vis X.env.scope x)(hd:(x == ("__debug__":Str))=false:=by decide)(hcd:(x == ("__classdict__":Str))=false:=by decide):PE X (.Name x pos) (tVar i):=by
  intro pins s σ H Q I h
  obtain⟨v,e,h⟩:=h
  obtain⟨m,hn,hl⟩:=I.loc
  obtain⟨u,r,l⟩:=hl i x v hN e hv
  have fin:EP X pins σ Q u s:=⟨v,H,I,r,h⟩
  rcases l with ⟨hk,hm⟩ | ⟨hk,c,hc,hcell⟩
  · exact wpAny_Name (wpAny_loadName_local I.ok.kind hk hn hm fin) hd
  · rcases hk with hk | hk
    · exact wpAny_Name (wpAny_loadName_cell I.ok.kind hk hc hcell fin) hd
    · exact wpAny_Name (wpAny_loadName_free I.ok.kind hk hc hcell fin hcd) hd
theorem pe_int {i j pos}:PE X (.Constant (.int i) j pos) (tC (.int i)):=fun _ _ _ H _ I h=>wpAny_Constant_int ⟨.int i,H,I.tok _,⟨_,rfl⟩,h⟩
theorem pe_bl {b j pos}:PE X (.Constant (.bool b) j pos) (tC (.bl b)):=fun _ _ _ H _ I h=>Constant_bool ⟨.bl b,H,I,rfl,h⟩
theorem pe_non {j pos}:PE X (.Constant .none j pos) (tC .non):=fun _ _ _ H _ I h=>Constant_none ⟨.non,H,I,rfl,h⟩
theorem pe_str {x j pos}:PE X (.Constant (.str x) j pos) (tC (.str x)):=fun _ _ _ H _ I h=>XS ⟨.str x,H,I.tok _,⟨_,rfl⟩,h⟩

/-- a global name of the def -/
def Gl (X:Cx)(x:Str):Prop:=X.env.kindOf x=some .globalImplicit
theorem ld_glob {E:Value->Shared->Prop}{pins:List (Addr×Obj)}{s:Shared}{σ:St}{H:Hp}{x:Str}{u:Value}{pos:Pos}{Q:Value->Shared->Prop}(I:Inv X pins σ H s)(hg:Gl X x)(hm:X.mg x=some u)(h:Q u s)
    (hd:(x == ("__debug__":Str))=false:=by decide):wpAny (model X.prog X.w) X.A (eval (.Name x pos) X.env) Q E s:=
  Calls.Name_function_global I.ok.kind hg (Calls.loadGlobal_global (by rw[I.ok.glob];exact I.mod.glob.keeps I.bk) hm h) hd
theorem ld_blt {E:Value->Shared->Prop}{pins:List (Addr×Obj)}{s:Shared}{σ:St}{H:Hp}{x:Str}{u:Value}{pos:Pos}{Q:Value->Shared->Prop}(I:Inv X pins σ H s)(hg:Gl X x)(hm:X.mg x=none)(hv:bootBuiltins x=some u)(h:Q u s)
    (hn:x≠"__name__":=by decide) (hd:(x == ("__debug__":Str))=false:=by decide):wpAny (model X.prog X.w) X.A (eval (.Name x pos) X.env) Q E s:=by
  obtain⟨mb,h1,h2⟩:=I.mod.blt
  exact Calls.Name_function_global I.ok.kind hg (Calls.loadGlobal_builtin (by rw[I.ok.glob];exact I.mod.glob.keeps I.bk) hm (by rw[I.ok.blt];exact h1.keeps I.bk) ((h2 x hn).trans hv) h) hd
/-- a module's constant,a class,a function,as a value -/
theorem pe_glob {x:Str}{v:V}{u:Value}{pos:Pos}(hg:Gl X x)(hm:X.mg x=some u)(r:RelV v u)(hd:(x == ("__debug__":Str))=false:=by decide):PE X (.Name x pos) (tC v):=
  fun _ _ _ H _ I h=>ld_glob I hg hm ⟨v,H,I,r,h⟩ hd
/-! ### arithmetic -/
variable {a b:Expr}{ta tb:TE}{pos:Pos}
/-! ### comparisons -/
def PC (X:Cx)(op:CmpOp)(a b:Expr)(t:TE):Prop:=
  ∀ (pins:List (Addr×Obj))(s:Shared)(σ:St)(H:Hp)(Q:VK),Inv X pins σ H s->t σ H Q->
    wpAny (model X.prog X.w) X.A (eval a X.env) (fun v s₁=>wpAny (model X.prog X.w) X.A (eval b X.env) (fun u s₂=>wpAny (model X.prog X.w) X.A (compareOp op v u) (EP X pins σ Q) X.xe s₂) X.xe s₁) X.xe s
/-- a comparison as a value,as a test -/
def tB (t:TE):TT:=fun σ H Q=>t σ H fun x H1=>∃c,x= .bl c/\Q c H1
theorem pt_cmp {op:CmpOp}{t:TE}(h:PC X op a b t)(h1:behindInMarks op b=false:=by first | exact nobehind _ (by decide) (by decide) | rfl):PT X (.Compare a [op] [b] pos) (tB t):=by
  intro pins s σ H Q I hw
  refine wpAny_isTrue_Compare1 (thn (h pins s σ H _ I hw) fun v s1 h1=>thn h1 fun u s2 h2=>thn h2 fun c s3 hz9=>?_) h1
  obtain⟨x,H1,I1,r1,q1⟩:=hz9
  obtain⟨d,rfl,q⟩:=q1
  cases r1
  exact Xh ⟨H1,I1,q⟩
/-- an expression whose value is a bool,as a test -/
theorem pt_val {e:Expr}{t:TE}(h:PE X e t)(he:∀whole,isTrue e X.env whole=(do let v<-whole;standAt e.pos;holding [v] (truthy v)):=by intro _;rfl):PT X e (tB t):=by
  intro pins s σ H Q I hw
  refine isTrue_plain (thn (h pins s σ H _ I hw) fun v s1 hz9=>?_) (he _)
  obtain⟨x,H1,I1,r1,q1⟩:=hz9
  obtain⟨d,rfl,q⟩:=q1
  cases r1
  exact Xh ⟨H1,I1,q⟩

/-! ### and,or,not -/
variable {tA tB':TT}{rest:List Expr}
def tAnd (t u:TT):TT:=fun σ H Q=>t σ H fun c H1=>if c=true then u σ H1 Q else Q false H1
def tOr (t u:TT):TT:=fun σ H Q=>t σ H fun c H1=>if c=true then Q true H1 else u σ H1 Q
def tNot (t:TT):TT:=fun σ H Q=>t σ H fun c H1=>Q (!c) H1
theorem pw_and1 (ha:PT X a tA):PW X (.BoolOp .And [a] pos) tA:=by
  intro wh pins s σ H Q I h
  refine isTrue_and (thn (ha pins s σ H Q I h) fun c s1 e=>?_)
  cases c with
  |true=>exact isTrue_and_nil e
  |false=>exact e
theorem pw_or1 (ha:PT X a tA):PW X (.BoolOp .Or [a] pos) tA:=by
  intro wh pins s σ H Q I h
  refine isTrue_or (thn (ha pins s σ H Q I h) fun c s1 e=>?_)
  cases c with
  |false=>exact isTrue_or_nil e
  |true=>exact e
theorem pw_and (ha:PT X a tA)(hb:PW X (.BoolOp .And (b::rest) pos) tB'):PW X (.BoolOp .And (a::b::rest) pos) (tAnd tA tB'):=by
  intro wh pins s σ H Q I h
  refine isTrue_and (thn (ha pins s σ H _ I h) fun c s1 hz9=>?_)
  obtain⟨H1,I1,q1⟩:=hz9
  cases c with
  |true=>exact hb wh pins s1 σ H1 Q I1 q1
  |false=>exact⟨H1,I1,q1⟩
theorem pw_or (ha:PT X a tA)(hb:PW X (.BoolOp .Or (b::rest) pos) tB'):PW X (.BoolOp .Or (a::b::rest) pos) (tOr tA tB'):=by
  intro wh pins s σ H Q I h
  refine isTrue_or (thn (ha pins s σ H _ I h) fun c s1 hz9=>?_)
  obtain⟨H1,I1,q1⟩:=hz9
  cases c with
  |true=>exact⟨H1,I1,q1⟩
  |false=>exact hb wh pins s1 σ H1 Q I1 q1
theorem pt_not (ha:PT X a tA):PT X (.UnaryOp .Not a pos) (tNot tA):=by
  intro pins s σ H Q I h
  exact isTrue_not (ha pins s σ H (fun c H1=>Q (!c) H1) I h)
/-- a if t else b -/
def tIf (t:TT)(ta tb:TE):TE:=fun σ H Q=>t σ H fun c H1=>if c=true then ta σ H1 Q else tb σ H1 Q
theorem pe_ifExp {c:Expr}(hc:PT X c tA)(ha:PE X a ta)(hb:PE X b tb):PE X (.IfExp c a b pos) (tIf tA ta tb):=by
  intro pins s σ H Q I h
  refine wpAny_IfExp (thn (hc pins s σ H _ I h) fun d s1 hz9=>?_)
  obtain⟨H1,I1,q1⟩:=hz9
  cases d with
  |true=>exact ha pins s1 σ H1 Q I1 q1
  |false=>exact hb pins s1 σ H1 Q I1 q1
end
end L2

namespace L2
open PySem PySem.Spec PyProof.Rows

/-! ### a list,a tuple that is read:tracked,frozen,or an object of the module -/
def SqL (K:W.Frag)(H:Hp)(a:Addr)(xs:List V):Prop:=
  Rd H a (.lst xs)\/
    ∃(o:Obj)(its:Array Value)(n:Nat),K.lookup a=some o/\o.cls= .type "list"/\o.dict=none/\o.data= .seq its n/\its.size<=sizeLine/\Vals xs its.toList
def SqT (K:W.Frag)(H:Hp)(a:Addr)(xs:List V):Prop:=
  Rd H a (.tup xs)\/
    ∃(o:Obj)(its:Array Value)(n:Nat),K.lookup a=some o/\o.cls= .type "tuple"/\o.data= .seq its n/\its.size<=sizeLine/\Vals xs its.toList
def absV:Value->Option V
  |.none=>some .non
  |.bool b=>some (.bl b)
  |.int i _=>some (.int i)
  |.str x _=>some (.str x)
  |.bytes b _=>some (.byt b)
  |.float b _=>some (.flt b)
  |.ref a=>some (.ref a)
  |.type n=>some (.ty n)
  |_=>none
theorem RelV.abs {x:V}{u:Value}(r:RelV x u):absV u=some x:=by
  cases x with
  |non=>cases r;rfl
  |bl _=>cases r;rfl
  |int _=>obtain⟨t,rfl⟩:=r;rfl
  |str _=>obtain⟨t,rfl⟩:=r;rfl
  |byt _=>obtain⟨t,rfl⟩:=r;rfl
  |flt _=>obtain⟨t,rfl⟩:=r;rfl
  |ref _=>cases r;rfl
  |ty _=>cases r;rfl
theorem RelV.inj {x y:V}{u:Value}(r:RelV x u)(q:RelV y u):x=y:=YF (r.abs.symm.trans q.abs)
theorem Vals.inj:∀{xs ys:List V}{us:List Value},Vals xs us->Vals ys us->xs=ys
  |_,_,_,.nil,.nil=>rfl
  |_,_,_,.cons r t,.cons r' t'=>by rw[r.inj r',Vals.inj t t']
section
variable {X:Cx}{pins:List (Addr×Obj)}{σ:St}{H:Hp}{s:Shared}{a:Addr}{xs ys:List V}
theorem SqL.of {K:W.Frag}(h:H a=some (.lst xs)):SqL K H a xs:= .inl (.inl h)
theorem SqT.of {K:W.Frag}(h:H a=some (.tup xs)):SqT K H a xs:= .inl (.inl h)
theorem Inv.list (I:Inv X pins σ H s)(h:SqL X.K H a xs):∃its:List Value,Vals xs its/\PlainL s.heap a its.toArray/\xs.length<=sizeLine:=by
  rcases h with h | ⟨o,its,n,hk,hc,hd,hs,hz,r⟩
  · obtain⟨z,its,n,r,e⟩:=h.ok I.hok
    exact⟨its,r,⟨_,n,e,rfl,rfl,rfl⟩,z⟩
  · refine⟨its.toList,r,⟨o,n,I.kIn a o hk,hc,hd,by simpa using hs⟩,?_⟩
    have e:=r.length
    simp only[Array.length_toList]at e
    omega
theorem Inv.tuple (I:Inv X pins σ H s)(h:SqT X.K H a xs):∃its:List Value,Vals xs its/\IsTup s.heap a its.toArray/\xs.length<=sizeLine:=by
  rcases h with h | ⟨o,its,n,hk,hc,hs,hz,r⟩
  · obtain⟨z,its,r,p⟩:=h.ok I.hok
    exact⟨its,r,p,z⟩
  · refine⟨its.toList,r,⟨o,I.kIn a o hk,hc,n,by simpa using hs⟩,?_⟩
    have e:=r.length
    simp only[Array.length_toList]at e
    omega
theorem Inv.list_inj (I:Inv X pins σ H s)(h:SqL X.K H a xs)(h':SqL X.K H a ys):xs=ys:=by
  obtain⟨its,r,⟨o,n,e,_,_,d⟩,_⟩:=I.list h
  obtain⟨its',r',⟨o',n',e',_,_,d'⟩,_⟩:=I.list h'
  rw[e]at e';cases e'
  rw[d]at d'
  injection d' with d1 _
  have:its=its':=by simpa using YE Array.toList d1
  subst this
  exact r.inj r'
theorem Inv.tuple_inj (I:Inv X pins σ H s)(h:SqT X.K H a xs)(h':SqT X.K H a ys):xs=ys:=by
  obtain⟨its,r,⟨o,e,_,n,d⟩,_⟩:=I.tuple h
  obtain⟨its',r',⟨o',e',_,n',d'⟩,_⟩:=I.tuple h'
  rw[e]at e';cases e'
  rw[d]at d'
  injection d' with d1 _
  have:its=its':=by simpa using YE Array.toList d1
  subst this
  exact r.inj r'
end

/-! ### another wish about exceptions -/
abbrev Cx.wish (X:Cx)(E:Value->Shared->Prop):Cx:={ X with xe:=E }
/-- no exception leaves -/
abbrev Cx.nox (X:Cx):Cx:=X.wish fun _ _=>False
theorem Cx.Ok.wish {X:Cx}(ok:X.Ok)(E:Value->Shared->Prop):(X.wish E).Ok:=
  ⟨ok.mod,ok.kind,ok.glob,ok.blt,ok.above,ok.inj,ok.has,ok.cab,ok.hd,ok.frames,ok.stk,ok.exf,ok.bs,ok.bsz,ok.noex,ok.exfs,ok.funs,ok.frf⟩
theorem Cx.Ok.unwish {X:Cx}{E:Value->Shared->Prop}(ok:(X.wish E).Ok):X.Ok:=
  ⟨ok.mod,ok.kind,ok.glob,ok.blt,ok.above,ok.inj,ok.has,ok.cab,ok.hd,ok.frames,ok.stk,ok.exf,ok.bs,ok.bsz,ok.noex,ok.exfs,ok.funs,ok.frf⟩
section
variable {X:Cx}{pins:List (Addr×Obj)}{σ:St}{H:Hp}{s:Shared}{E:Value->Shared->Prop}
theorem Inv.wish (I:Inv X pins σ H s)(E:Value->Shared->Prop):Inv (X.wish E) pins σ H s:=⟨I.ok.wish E,I.os,I.bare,I.base,I.loc,I.cell,I.free,I.freeC,I.pin,I.hok,I.len⟩
theorem Inv.unwish (I:Inv (X.wish E) pins σ H s):Inv X pins σ H s:=⟨I.ok.unwish,I.os,I.bare,I.base,I.loc,I.cell,I.free,I.freeC,I.pin,I.hok,I.len⟩
theorem SP.unwish {D:Ends}{f:Flow}{s':Shared}(h:SP (X.wish E) pins D f s'):SP X pins D f s':=by
  cases f with
  |next=>obtain⟨σ',H',I,q⟩:=h;exact⟨σ',H',I.unwish,q⟩
  |brk=>obtain⟨σ',H',I,q⟩:=h;exact⟨σ',H',I.unwish,q⟩
  |cont=>obtain⟨σ',H',I,q⟩:=h;exact⟨σ',H',I.unwish,q⟩
  |ret u=>obtain⟨v,σ',H',I,r,q⟩:=h;exact⟨v,σ',H',I.unwish,r,q⟩
theorem PSs.nox {st:List Stmt}{t:TS}(h:PSs X.nox st t):PSs X st t:=fun pins s σ H D I hw=>
  YL (h pins s σ H D (I.wish _) hw) (fun _ _ q=>q.unwish) fun _ _ z=>False.elim z
end

/-! ### blocks and small statements -/
section
variable {X:Cx}{st:Stmt}{rest:List Stmt}{t u:TS}{e:Expr}{te:TE}{pos:Pos}
def tNext:TS:=fun D σ H=>D.nx σ H
def tSeq (t u:TS):TS:=fun D σ H=>t { D with nx:=u D } σ H
theorem pss_nil:PSs X [] tNext:=fun _ _ σ H _ I h=>wpAny_execs_nil ⟨σ,H,I,h⟩
theorem pss_cons (h1:PS X st t)(h2:PSs X rest u):PSs X (st::rest) (tSeq t u):=by
  intro pins s σ H D I h
  refine wpAny_execs_cons (thn (h1 pins s σ H { D with nx:=u D } I h) fun f s1 q=>?_)
  cases f with
  | next=>
    obtain⟨σ',H',I',q⟩:=q
    exact h2 pins s1 σ' H' D I' q
  |ret v=>exact q
  |brk=>exact q
  |cont=>exact q
theorem pss_one (h1:PS X st t):PSs X [st] t:=by
  intro pins s σ H D I h
  refine wpAny_execs_cons (thn (h1 pins s σ H D I h) fun f s1 q=>?_)
  cases f with
  |next=>exact wpAny_execs_nil q
  |ret v=>exact q
  |brk=>exact q
  |cont=>exact q
/-- in a def's body nothing is shown -/
theorem Inv.quiet {pins:List (Addr×Obj)}{σ:St}{H:Hp}{s:Shared}(I:Inv X pins σ H s):interactive X.env=false:=by simp[interactive,I.ok.kind]
/-- an expression whose value is dropped -/
def tDrop (te:TE):TS:=fun D σ H=>te σ H fun _ H1=>D.nx σ H1
theorem ps_expr (he:PE X e te)(hs:swapsWith e none pos.line X.env=pure false:=by rfl):PS X (.Expr e pos) (tDrop te):=by
  intro pins s σ H D I h
  exact wpAny_Expr_any (thn (he pins s σ H _ I h) fun v s1 ⟨x,H1,I1,r1,q1⟩=>⟨σ,H1,I1,q1⟩) I.quiet hs
def tRet (te:TE):TS:=fun D σ H=>te σ H D.rt
theorem ps_ret (he:PE X e te):PS X (.Return (some e) pos) (tRet te):=by
  intro pins s σ H D I h
  exact wpAny_Return_some (thn (he pins s σ H _ I h) fun v s1 ⟨x,H1,I1,r1,q1⟩=>⟨x,σ,H1,I1,r1,q1⟩)
def tIfS (c:TT)(t u:TS):TS:=fun D σ H=>c σ H fun b H1=>if b=true then t D σ H1 else u D σ H1
theorem ps_if {c:Expr}{a b:List Stmt}{tc:TT}(hc:PT X c tc)(ha:PSs X a t)(hb:PSs X b u):PS X (.If c a b pos) (tIfS tc t u):=by
  intro pins s σ H D I h
  refine wpAny_If (thn (hc pins s σ H _ I h) fun d s1 hz9=>?_)
  obtain⟨H1,I1,q1⟩:=hz9
  cases d with
  |true=>exact ha pins s1 σ H1 D I1 q1
  |false=>exact hb pins s1 σ H1 D I1 q1
end

/-! ### targets -/
abbrev TG:=V->St->Hp->(St->Hp->Prop)->Prop
def PG (X:Cx)(target:Expr)(t:TG):Prop:=
  ∀ (pins:List (Addr×Obj))(s:Shared)(σ:St)(H:Hp)(v:V)(u:Value)(Q:St->Hp->Prop),Inv X pins σ H s->RelV v u->t v σ H Q->
    wpAny (model X.prog X.w) X.A (assign target X.env u) (fun _ s'=>∃σ' H',Inv X pins σ' H' s'/\Q σ' H') X.xe s
section
variable {X:Cx}{pos:Pos}
def gName (i:Nat):TG:=fun v σ H Q=>Q (σ.set i (some v)) H
theorem pg_name {i:Nat}{x:Str}(hN:X.N.Nodup)(hi:X.N[i]? =some x)(hx:Loc X.env.scope x)(hf:X.fn x=true\/X.env.scope.names.lookup x=some .local:=by first | exact .inl rfl | exact .inr rfl | assumption):PG X (.Name x pos) (gName i):=by
  intro pins s σ H v u Q I r h
  exact wpAny_assign_Name (store_ok I hN hi hx r (fun s' I'=>⟨_,H,I',h⟩) hf)
/-- target=value -/
def tAsg (te:TE)(g:TG):TS:=fun D σ H=>te σ H fun x H1=>g x σ H1 D.nx
/-- name=value -/
theorem ps_set {i:Nat}{x:Str}{e:Expr}{te:TE}{pos':Pos}(hN:X.N.Nodup)(hi:X.N[i]? =some x)(hx:Loc X.env.scope x)(he:PE X e te)(hs:swapsWith e (some (.Name x pos')) pos.line X.env=pure false:=by rfl)(hf:X.fn x=true\/X.env.scope.names.lookup x=some .local:=by first | exact .inl rfl | exact .inr rfl | assumption) :
    PS X (.Assign [.Name x pos'] e pos) (tAsg te (gName i)):=by
  intro pins s σ H D I h
  refine wpAny_Assign_Name (thn (he pins s σ H _ I h) fun v s1 hz9=>?_) hs
  obtain⟨y,H1,I1,r1,q1⟩:=hz9
  exact store_ok I1 hN hi hx r1 (fun s2 I2=>⟨_,H1,I2,q1⟩) hf
end

/-! ### while -/
section
variable {X:Cx}{pos:Pos}
end

/-! ### what a loop or a comprehension walks -/
/-- at turn i:it yields x (the heap may grow),or it stops -/
structure It where
  go:Nat->Hp->Prop
  yld:Nat->Hp->V->Hp->Prop
  stop:Nat->Hp->Prop
/-- the iterator's own objects may turn:they are not the frame's,not pinned,younger than the entry (or a comprehension's own) -/
def FpOk (X:Cx)(pins:List (Addr×Obj))(H:Hp)(b:Addr):Prop:=
  H b=none/\b≠X.env.locals/\b∉X.fs/\(b∈X.ex\/X.s₀.heap.objs.size<=b)/\(∀x c,X.env.cells.lookup x=some c->c≠b)/\∀p∈X.pn++pins,p.1≠b
theorem Inv.fpOk {X:Cx}{pins:List (Addr×Obj)}{σ:St}{H H':Hp}{s:Shared}{b:Addr}(I:Inv X pins σ H s)(hb:s.heap.objs.size<=b)(hn:H' b=none):FpOk X pins H' b:=by
  refine⟨hn,Nat.ne_of_gt (Yv I.lt hb),I.nofs hb,.inr (Ye I.sz hb),fun x c e z=>?_,fun p hp z=>?_⟩
  · obtain⟨v,q⟩:=I.cell x c e
    exact absurd (Yv q.lt (by rw[z];exact hb)) (YH _)
  · exact absurd (Yv (Yt (I.pin p hp).1) (by rw[z];exact hb)) (YH _)
structure Turn (P:Program)(w:World)(K:W.Frag)(tg:Expr)(J:It)(fp:List Addr)(it:Addr)(tn:Nat->Heap->Prop):Prop where
  mem:it∈fp
  obj:∀i h,tn i h->∀b∈fp,∃o,h.get? b=some o/\∀v,o.data≠ .cell v
  keep:∀i h h',tn i h->(∀b∈fp,∀o,h.get? b=some o->h'.get? b=some o)->tn i h'
  item :∀(X:Cx),X.prog=P->X.w=w->X.K=K->X.calm=true->∀(i:Nat)(pins:List (Addr×Obj))(s:Shared)(σ:St)(H:Hp)(E:Value->Shared->Prop),Inv X pins σ H s->(∀b∈fp,FpOk X pins H b)->tn i s.heap->J.go i H->
    wpAny (model P w) X.A (pyNext (.ref it)) (fun r s1=>∃u,r=some u/\
      wpAny (model P w) X.A (letOwnedTupleGo tg (.ref it) u) (fun _ s2=>∃x H',Inv X pins σ H' s2/\RelV x u/\J.yld i H x H'/\tn (i+1) s2.heap/\∀b∈fp,H' b=none) E s1) E s
  done:∀(X:Cx),X.prog=P->X.w=w->X.K=K->X.calm=true->∀(i:Nat)(pins:List (Addr×Obj))(s:Shared)(σ:St)(H:Hp)(E:Value->Shared->Prop),Inv X pins σ H s->(∀b∈fp,FpOk X pins H b)->tn i s.heap->J.stop i H->
    wpAny (model P w) X.A (pyNext (.ref it)) (fun r s1=>r=none/\Inv X pins σ H s1) E s
  self:∀(A:Around)(i:Nat)(s:Shared)(Q:Value->Shared->Prop)(E:Value->Shared->Prop),tn i s.heap->Q (.ref it) s->wpAny (model P w) A (pyIter (.ref it)) Q E s
abbrev TI:=St->Hp->(It->Hp->Prop)->Prop
/-- an iterator has come -/
def PIE (X:Cx)(pins:List (Addr×Obj))(σ:St)(tg:Expr)(R:It->Hp->Prop)(itv:Value)(s2:Shared):Prop:=
  ∃(it:Addr)(fp:List Addr)(tn:Nat->Heap->Prop)(J:It)(H':Hp),itv= .ref it/\Inv X pins σ H' s2/\Turn X.prog X.w X.K tg J fp it tn/\tn 0 s2.heap/\(∀b∈fp,FpOk X pins H' b)/\R J H'
def PI (X:Cx)(tg iter:Expr)(wi:TI):Prop:=
  ∀ (pins:List (Addr×Obj))(s:Shared)(σ:St)(H:Hp)(R:It->Hp->Prop),Inv X pins σ H s->wi σ H R->
    wpAny (model X.prog X.w) X.A (eval iter X.env) (fun v s1=>wpAny (model X.prog X.w) X.A (pyIter v) (PIE X pins σ tg R) X.xe s1) X.xe s

/-- the step ahead of the store is nothing for an iterator that keeps no tuple -/
theorem go_of {M:Model}{A:Around}{E:Value->Shared->Prop}{s:Shared}{tg:Expr}{it:Addr}{u:Value}{o:Obj}{n:String}{vs:Array Value}{Q:Unit->Shared->Prop}(ho:s.heap.get? it=some o)(hc:o.cls= .type n)(hd:o.data= .fields vs)
    (hn:["enumerate","zip","dict_itemiterator","dict_reverseitemiterator","odict_iterator","itertools.zip_longest","itertools.pairwise"].contains n=false) (hQ:Q () s):wpAny M A (letOwnedTupleGo tg (.ref it) u) Q E s:=by
  unfold letOwnedTupleGo
  cases tg <;> first
    |exact YS hQ
    | (cases u <;> first
        |exact YS hQ
        | (refine Yn (wpAny_load ho ?_)
           rw[hc,hd]
           show wpAny M A (if (["enumerate","zip","dict_itemiterator","dict_reverseitemiterator","odict_iterator","itertools.zip_longest","itertools.pairwise"].contains n && vs[0]? == some (rawInt _))=true then _ else _) Q E s
           rw[if_neg (by intro h;rw[hn,Bool.false_and]at h;cases h)]
           exact YS hQ))

/-- the list at a,as it stands at each turn (a loop may append to it) -/
def Itl (K:W.Frag)(a:Addr):It:=
  ⟨fun i H=>∃xs x,SqL K H a xs/\xs[i]? =some x,fun i H x H'=>H'=H/\∀xs,SqL K H a xs->xs[i]? =some x,fun i H=>∃xs,SqL K H a xs/\xs.length<=i⟩
def Itt (K:W.Frag)(a:Addr):It:=
  ⟨fun i H=>∃xs x,SqT K H a xs/\xs[i]? =some x,fun i H x H'=>H'=H/\∀xs,SqT K H a xs->xs[i]? =some x,fun i H=>∃xs,SqT K H a xs/\xs.length<=i⟩
/-- lo,lo+1, .. (n of them) -/
def Itr (lo:Int)(n:Nat):It:=⟨fun i _=>i<n,fun i H x H'=>H'=H/\x= .int (lo+i),fun i _=>n<=i⟩
theorem turn_list {P:Program}{w:World}{K:W.Frag}{tg:Expr}(a it:Addr):Turn P w K tg (Itl K a) [it] it (fun i h=>h.IsListIter it a i) where
  mem:=by simp
  obj:=fun i h st b hb=>by
    have e:b=it:=by simpa using hb
    subst e
    obtain⟨o,e,c,d⟩:=st
    exact⟨o,e,fun v z=>by rw[d]at z;cases z⟩
  keep:=fun i h h' st k=>st.at fun o e=>k it (by simp) o e
  item:=by
    intro X hP hw hK hc i pins s σ H E I hf st hg
    subst hP hw hK
    obtain⟨xs,x,hq,hx⟩:=hg
    obtain⟨its,rv,p,hz⟩:=I.list hq
    obtain⟨u,hu,ru⟩:=rv.get hx
    obtain⟨f0,f1,f2,f3,f4,f5⟩:=hf it (by simp)
    refine wpAny_pyNext_list_item st p.isList (x:=u) (by simpa using hu) fun h' st' sb=>?_
    have I1:Inv X pins σ H { s with heap:=h' }:=I.turned (t':=s.toks) (fun b o hb e=>(sb.2 b hb).trans e) f0 f1 f3 f4 f5
    obtain⟨o,e,c,d⟩:=id st'
    exact⟨u,rfl,go_of (s:={ s with heap:=h' }) e c d (by decide) ⟨x,H,I1,ru,⟨rfl,fun ys hy=>by rw[I.list_inj hy hq];exact hx⟩,st',fun b hb=>(hf b hb).1⟩⟩
  done:=by
    intro X hP hw hK hc i pins s σ H E I hf st hg
    subst hP hw hK
    obtain⟨xs,hq,hx⟩:=hg
    obtain⟨its,rv,p,hz⟩:=I.list hq
    obtain⟨f0,f1,f2,f3,f4,f5⟩:=hf it (by simp)
    have hl:=rv.length
    exact wpAny_pyNext_list_end (I.ok.hd hc) st p.isList (by simp;omega) fun h' eb=>⟨rfl,I.turned (t':=s.toks) (fun b o hb e=>eb b o hb e) f0 f1 f3 f4 f5⟩
  self:=fun _ _ _ _ _ st h=>wpAny_pyIter_listiter st h
theorem turn_tuple {P:Program}{w:World}{K:W.Frag}{tg:Expr}(a it:Addr):Turn P w K tg (Itt K a) [it] it (fun i h=>h.IsTupleIter it a i) where
  mem:=by simp
  obj:=fun i h st b hb=>by
    have e:b=it:=by simpa using hb
    subst e
    obtain⟨o,e,c,d⟩:=st
    exact⟨o,e,fun v z=>by rw[d]at z;cases z⟩
  keep:=fun i h h' st k=>st.at fun o e=>k it (by simp) o e
  item:=by
    intro X hP hw hK hc i pins s σ H E I hf st hg
    subst hP hw hK
    obtain⟨xs,x,hq,hx⟩:=hg
    obtain⟨its,rv,p,hz⟩:=I.tuple hq
    obtain⟨u,hu,ru⟩:=rv.get hx
    obtain⟨f0,f1,f2,f3,f4,f5⟩:=hf it (by simp)
    refine wpAny_pyNext_tuple_item st (show s.heap.IsTuple a its.toArray from p) (x:=u) (by simpa using hu) fun h' st' sb=>?_
    have I1:Inv X pins σ H { s with heap:=h' }:=I.turned (t':=s.toks) (fun b o hb e=>(sb.2 b hb).trans e) f0 f1 f3 f4 f5
    obtain⟨o,e,c,d⟩:=id st'
    exact⟨u,rfl,go_of (s:={ s with heap:=h' }) e c d (by decide) ⟨x,H,I1,ru,⟨rfl,fun ys hy=>by rw[I.tuple_inj hy hq];exact hx⟩,st',fun b hb=>(hf b hb).1⟩⟩
  done:=by
    intro X hP hw hK hc i pins s σ H E I hf st hg
    subst hP hw hK
    obtain⟨xs,hq,hx⟩:=hg
    obtain⟨its,rv,p,hz⟩:=I.tuple hq
    obtain⟨f0,f1,f2,f3,f4,f5⟩:=hf it (by simp)
    have hl:=rv.length
    exact wpAny_pyNext_tuple_end (I.ok.hd hc) st (show s.heap.IsTuple a its.toArray from p) (by simp;omega) fun h' eb=>⟨rfl,I.turned (t':=s.toks) (fun b o hb e=>eb b o hb e) f0 f1 f3 f4 f5⟩
  self:=fun _ _ _ _ _ st h=>wpAny_pyIter_tupleiter st h
theorem turn_range {P:Program}{w:World}{K:W.Frag}{tg:Expr}(it:Addr)(lo:Int)(n:Nat):Turn P w K tg (Itr lo n) [it] it (fun i h=>IsRangeIter h it (lo+(i:Nat)*1) ((n:Int)-(i:Nat)) 1) where
  mem:=by simp
  obj :=fun i h st b hb=>by
    have e:b=it:=by simpa using hb
    subst e
    exact⟨_,st,fun v z=>by
      have z':Data.fields _=Data.cell v:=z
      cases z'⟩
  keep:=fun i h h' st k=>k it (by simp) _ st
  item:=by
    intro X hP hw hK hc i pins s σ H E I hf st hg
    subst hP hw hK
    obtain⟨f0,f1,f2,f3,f4,f5⟩:=hf it (by simp)
    have W:=Walks.range (prog:=X.prog) (w:=X.w) (I.ok.hd hc) it lo 1 n
    refine W.item i s _ _ hg st fun v h' tk hv st' kk=>?_
    obtain⟨t,rfl⟩:=hv
    have I1:Inv X pins σ H { s with heap:=h',toks:=tk }:=I.turned (fun b o hb e=>kk b o (by simpa using hb) e) f0 f1 f3 f4 f5
    refine⟨_,rfl,go_of (s:={ s with heap:=h',toks:=tk }) (n:="range_iterator") st' rfl rfl (by decide) ⟨.int (lo+i),H,I1,⟨t,?_⟩,⟨rfl,rfl⟩,st',fun b hb=>(hf b hb).1⟩⟩
    rw[Int.mul_one]
  done:=by
    intro X hP hw hK hc i pins s σ H E I hf st hg
    subst hP hw hK
    obtain⟨f0,f1,f2,f3,f4,f5⟩:=hf it (by simp)
    exact wpAny_pyNext_range_end (I.ok.hd hc) st (by have:n<=i:=hg;omega) fun h' eb=>⟨rfl,I.turned (t':=s.toks) (fun b o hb e=>eb b o hb e) f0 f1 f3 f4 f5⟩
  self:=fun _ _ _ _ _ st h=>wpAny_pyIter_rangeiter st h
end L2

namespace L2
open PySem PySem.Spec PyProof.Rows
section
variable {X:Cx}{tg:Expr}
def iList (K:W.Frag)(tl:TE):TI:=fun σ H R=>tl σ H fun x H1=>∃a,x= .ref a/\(∃xs,SqL K H1 a xs)/\R (Itl K a) H1
theorem pi_list {l:Expr}{tl:TE}(hl:PE X l tl):PI X tg l (iList X.K tl):=by
  intro pins s σ H R I h
  refine thn (hl pins s σ H _ I h) fun v s1 hz9=>?_
  obtain⟨x,H1,I1,r1,q1⟩:=hz9
  obtain⟨a,e,⟨xs,hq⟩,q⟩:=q1
  subst e
  cases r1
  obtain⟨its,rv,p,hz⟩:=I1.list hq
  refine wpAny_pyIter_list p.isList ?_
  refine⟨s1.heap.objs.size, [s1.heap.objs.size],_,_,H1,rfl,I1.kept (t':=s1.toks) fun b o e=>Yh _ e,turn_list a _,⟨_,YB _ rfl,rfl,rfl⟩,fun b hb=>?_,q⟩
  have e:b=s1.heap.objs.size:=by simpa using hb
  subst e
  exact I1.fpOk (Yc _) (I1.hok.fresh (Yc _))
/-- a range object just made,walked -/
theorem range_it {pins:List (Addr×Obj)}{σ:St}{H:Hp}{s:Shared}{R:It->Hp->Prop}{E:Value->Shared->Prop}{lo hi:Int}{t u v:Tok}{tk:Nat}(I:Inv X pins σ H s)(h1: -(2 ^ 62)<=lo)(h2:lo<2 ^ 62)(h3: -(2 ^ 62)<=hi)(h4:hi<2 ^ 62)
    (q:R (Itr lo (hi-lo).toNat) H):wpAny (model X.prog X.w) X.A (pyIter (.ref s.heap.objs.size)) (PIE X pins σ tg R) E { s with heap:=s.heap.push { cls:= .type "range",data:= .fields #[.int lo t,.int hi u,.int 1 v] },toks:=tk }:=by
  refine wpAny_pyIter_range (IsRange.new ..) (small_one h1 h2 h3 h4) ?_
  have I1:Inv X pins σ H { s with heap:=s.heap.push { cls:= .type "range",data:= .fields #[.int lo t,.int hi u,.int 1 v] },toks:=tk }:=I.kept fun b o e=>Yh _ e
  refine⟨(s.heap.push { cls:= .type "range",data:= .fields #[.int lo t,.int hi u,.int 1 v] }).objs.size, [(s.heap.push { cls:= .type "range",data:= .fields #[.int lo t,.int hi u,.int 1 v] }).objs.size],_,_,H,rfl,
    I1.kept (t':=tk) fun b o e=>Yh _ e,turn_range _ lo (hi-lo).toNat,?_,fun b hb=>?_,q⟩
  · have e1:lo+((0:Nat):Int)*1=lo:=by simp
    have e2:(((hi-lo).toNat:Nat):Int)-((0:Nat):Int)=Builtin.Range.rangeSize lo hi 1:=by rw[rangeSize_one];split <;> omega
    show IsRangeIter _ _ (lo+((0:Nat):Int)*1) ((((hi-lo).toNat:Nat):Int)-((0:Nat):Int)) 1
    rw[e1,e2]
    exact YB _ rfl
  · have e:b=(s.heap.push { cls:= .type "range",data:= .fields #[.int lo t,.int hi u,.int 1 v] }).objs.size:=by simpa using hb
    subst e
    exact I1.fpOk (Yc _) (I1.hok.fresh (Yc _))
def iRng1 (ta:TA):TI:=fun σ H R=>ta σ H fun vs H1=>∃j:Int,vs= [.int j]/\ -(2 ^ 62)<=j/\j<2 ^ 62/\R (Itr 0 j.toNat) H1
def iRng2 (ta:TA):TI:=fun σ H R=>ta σ H fun vs H1=>∃i j:Int,vs= [.int i,.int j]/\(-(2 ^ 62)<=i/\i<2 ^ 62/\ -(2 ^ 62)<=j/\j<2 ^ 62)/\R (Itr i (j-i).toNat) H1
theorem pi_range1 {a:Expr}{ta:TA}{p pos:Pos}(hg:Gl X "range")(hm:X.mg "range"=none)(ha:PA X [a] ta)(hs:starEach [a] X.env= [(false,eval a X.env)]:=by rfl):PI X tg (.Call (.Name "range" p) [a] [] pos) (iRng1 ta):=by
  intro pins s σ H R I h
  refine Call_ (ld_blt I hg hm boot_range (Y2 (thn (ha pos pins s σ H _ I h) fun us s1 hz9=>?_) hs rfl))
  obtain⟨vs,H1,I1,r1,q1⟩:=hz9
  obtain⟨j,e,q1,q2,q⟩:=q1
  subst e
  cases r1 with
  | cons r rr=>
    cases rr
    obtain⟨t,rfl⟩:=r
    exact call_range_1 (range_it I1 (by omega) (by omega) q1 q2 (by simpa using q))
theorem pi_range2 {a b:Expr}{ta:TA}{p pos:Pos}(hg:Gl X "range")(hm:X.mg "range"=none)(ha:PA X [a,b] ta)(hs:starEach [a,b] X.env= [(false,eval a X.env),(false,eval b X.env)]:=by rfl)(hs2:starEach [b] X.env= [(false,eval b X.env)]:=by rfl) :
    PI X tg (.Call (.Name "range" p) [a,b] [] pos) (iRng2 ta):=by
  intro pins s σ H R I h
  refine Call_ (ld_blt I hg hm boot_range (Y2 (thn (ha pos pins s σ H _ I h) fun us s1 hz9=>?_) (by rw[hs,hs2]) (by rw[hs2];rfl)))
  obtain⟨vs,H1,I1,r1,q1⟩:=hz9
  obtain⟨i,j,e,⟨q1,q2,q3,q4⟩,q⟩:=q1
  subst e
  cases r1 with
  | cons r rr=>
    cases rr with
    | cons r' rr=>
      cases rr
      obtain⟨t,rfl⟩:=r
      obtain⟨t',rfl⟩:=r'
      exact call_range_2 (range_it I1 q1 q2 q3 q4 q)

/-! ### for -/
/-- W:the invariant by the turn and a measure;N:what the body is to reach -/
def tFor (wi:TI)(g:TG)(tb:TS):TS:=fun D σ H=>wi σ H fun J H1=>∃W:Nat->Nat->St->Hp->Prop,(∃m,W 0 m σ H1)/\∀i m σ H,W i m σ H->
  (J.stop i H/\D.nx σ H)\/(J.go i H/\∃N:St->Hp->Prop,(∀σ' H',N σ' H'->∃m',m'<m/\W (i+1) m' σ' H')/\∀x H',J.yld i H x H'->g x σ H' fun σ2 H2=>tb { D with nx:=N,ct:=N,bk:=D.nx } σ2 H2)
/-- the records at fp as they stand -/
def pinsAt (fp:List Addr)(h:Heap):List (Addr×Obj):=fp.filterMap fun b=>(h.get? b).map fun o=>(b,o)
theorem mem_pinsAt {fp:List Addr}{h:Heap}{b:Addr}{o:Obj}(hb:b∈fp)(e:h.get? b=some o):(b,o)∈pinsAt fp h:=YN.mpr ⟨b,hb,by rw[e];rfl⟩
theorem of_pinsAt {fp:List Addr}{h:Heap}{p:Addr×Obj}(hp:p∈pinsAt fp h):p.1∈fp/\h.get? p.1=some p.2:=by
  obtain⟨b,hb,e⟩:=YN.mp hp
  cases q:h.get? b with
  |none=>rw[q]at e;cases e
  | some o=>
    rw[q]at e
    have e':(b,o)=p:=YF e
    subst e'
    exact⟨hb,q⟩
theorem Inv.pinned {pins:List (Addr×Obj)}{σ:St}{H:Hp}{s:Shared}{fp:List Addr}(I:Inv X pins σ H s)(hf:∀b∈fp,FpOk X pins H b)(ho:∀b∈fp,∃o,s.heap.get? b=some o/\∀v,o.data≠ .cell v):Inv X (pins++pinsAt fp s.heap) σ H s:=
  I.pins_of fun p hp=>(YG.mp hp).elim (fun z=>I.pin p (YD _ z)) fun z=>by
    obtain⟨hb,e⟩:=of_pinsAt z
    obtain⟨f0,f1,f2,_⟩:=hf p.1 hb
    obtain⟨o,e',d⟩:=ho p.1 hb
    rw[e]at e';cases e'
    exact⟨e,f0,f1,f2,d⟩
theorem Inv.unpinned {pins pl:List (Addr×Obj)}{σ:St}{H:Hp}{s:Shared}(I:Inv X (pins++pl) σ H s):Inv X pins σ H s:=I.pins_of fun p hp=>I.pin p (YD _ (XG _ hp))
theorem ps_for {iter:Expr}{body:List Stmt}{wi:TI}{g:TG}{tb:TS}{pos:Pos}(hp:PassesOwn (model X.prog X.w) X.A X.env X.xe)(hc:X.calm=true)(hi:PI X tg iter wi)(hg:PG X tg g)(hb:PSs X body tb)
    (hs:∀x,foldedSetIterable iter X.env x=pure x:=by intro _;rfl):PS X (.For tg iter body [] pos) (tFor wi g tb):=by
  intro pins s σ H D I h
  refine wpAny_For (thn (hi pins s σ H _ I h) fun v s1 h1=>thn h1 fun itv s2 h2=>?_) hs
  obtain⟨it,fp,tn,J,H2,e,I2,T,st2,f2,W,⟨m0,w0⟩,turn⟩:=h2
  subst e
  -- what stays true of the iterator's objects through the loop
  have stat:∀{H':Hp},(∀b∈fp,H' b=none)->∀b∈fp,FpOk X pins H' b:=fun hn b hb=>⟨hn b hb,(f2 b hb).2⟩
  refine codeAny_forLoop_any (fun n s'=>∃i σ' H',Inv X pins σ' H' s'/\tn i s'.heap/\(∀b∈fp,H' b=none)/\W i n σ' H') ?_ m0 ⟨0,σ,H2,I2,st2,fun b hb=>(f2 b hb).1,w0⟩
  rintro n s3 ⟨i,σ3,H3,I3,st3,fr3,w3⟩
  rcases turn i n σ3 H3 w3 with ⟨stop,qn⟩ | ⟨go,N,hN,step⟩
  · refine XQ hp (thn (T.done X rfl rfl rfl hc i pins s3 σ3 H3 X.xe I3 (stat fr3) st3 stop) fun r s4 ⟨hr,I4⟩=>?_)
    subst hr
    exact wpAny_execs_nil ⟨σ3,H3,I4,qn⟩
  · refine XQ hp (thn (T.item X rfl rfl rfl hc i pins s3 σ3 H3 X.xe I3 (stat fr3) st3 go) fun r s4 hz9=>?_)
    obtain⟨u,hr,h4⟩:=hz9
    subst hr
    refine XQ hp (thn h4 fun _ s5 hz9=>?_)
    obtain⟨x,H5,I5,r5,y5,st5,fr5⟩:=hz9
    have I5':=I5.pinned (stat fr5) (T.obj _ _ st5)
    refine XQ hp (thn (hg _ s5 σ3 H5 x u _ I5' r5 (step x H5 y5)) fun _ s6 hz9=>?_)
    obtain⟨σ6,H6,I6,q6⟩:=hz9
    refine XQ hp (thn (hb _ s6 σ6 H6 _ I6 q6) fun f s7 q7=>?_)
    have again:∀{σ7:St}{H7:Hp},Inv X (pins++pinsAt fp s5.heap) σ7 H7 s7->N σ7 H7->∃m,m<n/\∃i σ' H',Inv X pins σ' H' s7/\tn i s7.heap/\(∀b∈fp,H' b=none)/\W i m σ' H':=fun {σ7 H7} I7 n7=>by
      obtain⟨m',hm,w7⟩:=hN σ7 H7 n7
      refine⟨m',hm,i+1,σ7,H7,I7.unpinned,T.keep _ _ _ st5 fun b hb o e=>(I7.pin (b,o) (YD _ (YD _ (mem_pinsAt hb e)))).1,fun b hb=>?_,w7⟩
      obtain⟨o,e,d⟩:=T.obj _ _ st5 b hb
      exact(I7.pin (b,o) (YD _ (YD _ (mem_pinsAt hb e)))).2.1
    cases f with
    |next=>obtain⟨σ7,H7,I7,n7⟩:=q7;exact again I7 n7
    |cont=>obtain⟨σ7,H7,I7,n7⟩:=q7;exact again I7 n7
    |brk=>obtain⟨σ7,H7,I7,q7⟩:=q7;exact⟨σ7,H7,I7.unpinned,q7⟩
    |ret v=>obtain⟨x7,σ7,H7,I7,r7,q7⟩:=q7;exact⟨x7,σ7,H7,I7.unpinned,r7,q7⟩
end

/-! ### the forms one uses -/
/-- over a list that the body leaves as it is -/
theorem for_list {K:W.Frag}{a:Addr}{xs:List V}{g:TG}{tb:TS}{D:Ends}{σ:St}{H:Hp}(Pv:Nat->St->Hp->Prop)(h0:Pv 0 σ H)(hl:∀i σ H,i<=xs.length->Pv i σ H->SqL K H a xs)
    (hs:∀i x σ H,xs[i]? =some x->Pv i σ H->g x σ H fun σ2 H2=>tb { D with nx:=Pv (i+1),ct:=Pv (i+1),bk:=D.nx } σ2 H2) (hd:∀σ H,Pv xs.length σ H->D.nx σ H) :
    ∃ W:Nat->Nat->St->Hp->Prop,(∃m,W 0 m σ H)/\∀i m σ H,W i m σ H->
      ((Itl K a).stop i H/\D.nx σ H)\/((Itl K a).go i H/\∃N:St->Hp->Prop,(∀σ' H',N σ' H'->∃m',m'<m/\W (i+1) m' σ' H')/\∀x H',(Itl K a).yld i H x H'->g x σ H' fun σ2 H2=>tb { D with nx:=N,ct:=N,bk:=D.nx } σ2 H2):=by
  refine⟨fun i m σ H=>m=xs.length-i/\i<=xs.length/\Pv i σ H,⟨xs.length,by simp,YO _,h0⟩,?_⟩
  rintro i m σ H ⟨rfl,hi,p⟩
  have q:=hl i σ H hi p
  by_cases hlt:i<xs.length
  · refine .inr ⟨⟨xs,xs[i],q,by simp[hlt]⟩,Pv (i+1),fun σ' H' p'=>⟨xs.length-(i+1),by omega,rfl,hlt,p'⟩,fun x H' y=>?_⟩
    obtain⟨e,y⟩:=y
    subst e
    exact hs i x σ _ (y xs q) p
  · have e:i=xs.length:=by omega
    subst e
    exact .inl ⟨⟨xs,q,Yc _⟩,hd σ H p⟩
theorem for_range {lo:Int}{n:Nat}{g:TG}{tb:TS}{D:Ends}{σ:St}{H:Hp}(Pv:Nat->St->Hp->Prop)(h0:Pv 0 σ H)
    (hs:∀i σ H,i<n->Pv i σ H->g (.int (lo+i)) σ H fun σ2 H2=>tb { D with nx:=Pv (i+1),ct:=Pv (i+1),bk:=D.nx } σ2 H2) (hd:∀σ H,Pv n σ H->D.nx σ H) :
    ∃ W:Nat->Nat->St->Hp->Prop,(∃m,W 0 m σ H)/\∀i m σ H,W i m σ H->
      ((Itr lo n).stop i H/\D.nx σ H)\/((Itr lo n).go i H/\∃N:St->Hp->Prop,(∀σ' H',N σ' H'->∃m',m'<m/\W (i+1) m' σ' H')/\∀x H',(Itr lo n).yld i H x H'->g x σ H' fun σ2 H2=>tb { D with nx:=N,ct:=N,bk:=D.nx } σ2 H2):=by
  refine⟨fun i m σ H=>m=n-i/\i<=n/\Pv i σ H,⟨n,by simp,YO _,h0⟩,?_⟩
  rintro i m σ H ⟨rfl,hi,p⟩
  by_cases hlt:i<n
  · refine .inr ⟨hlt,Pv (i+1),fun σ' H' p'=>⟨n-(i+1),by omega,rfl,hlt,p'⟩,fun x H' y=>?_⟩
    obtain⟨e,y⟩:=y
    subst e y
    exact hs i σ _ hlt p
  · have e:i=n:=by omega
    subst e
    exact .inl ⟨Yc _,hd σ H p⟩
end L2

namespace L2
open PySem PySem.Spec PyProof.Rows

abbrev R2:=V->V->Hp->VK->Prop
/-- a two-place operation on values:f is binaryOp op,inplaceOp op or compareOp op -/
def OpR (X:Cx)(f:Value->Value->Sem Value)(r:R2):Prop:=
  ∀ (pins:List (Addr×Obj))(s:Shared)(σ:St)(H:Hp)(x y:V)(v u:Value)(Q:VK),Inv X pins σ H s->RelV x v->RelV y u->r x y H Q->
    wpAny (model X.prog X.w) X.A (f v u) (EP X pins σ Q) X.xe s
/-- a one-place operation -/
def UnR (X:Cx)(f:Value->Sem Value)(r:V->Hp->VK->Prop):Prop:=
  ∀ (pins:List (Addr×Obj))(s:Shared)(σ:St)(H:Hp)(x:V)(v:Value)(Q:VK),Inv X pins σ H s->RelV x v->r x H Q->
    wpAny (model X.prog X.w) X.A (f v) (EP X pins σ Q) X.xe s
/-- a call of a value that is known (a builtin,a type) with values -/
def CallR (X:Cx)(f:Value)(r:List V->Hp->VK->Prop):Prop:=
  ∀ (pins:List (Addr×Obj))(s:Shared)(σ:St)(H:Hp)(xs:List V)(us:List Value)(Q:VK),Inv X pins σ H s->Vals xs us->r xs H Q->
    wpAny (model X.prog X.w) X.A (call f us) (EP X pins σ Q) X.xe s
def tOp (r:R2)(ta tb:TE):TE:=fun σ H Q=>ta σ H fun x H1=>tb σ H1 fun y H2=>r x y H2 Q
def tUn (r:V->Hp->VK->Prop)(ta:TE):TE:=fun σ H Q=>ta σ H fun x H1=>r x H1 Q
/-- ints in,under C,and a value out -/
def rI (C:Int->Int->Prop)(g:Int->Int->V):R2:=fun x y H Q=>∃i j,x= .int i/\y= .int j/\C i j/\Q (g i j) H
def rI0 (g:Int->Int->V):R2:=fun x y H Q=>∃i j,x= .int i/\y= .int j/\Q (g i j) H
def rU (g:Int->V):V->Hp->VK->Prop:=fun x H Q=>∃i,x= .int i/\Q (g i) H

section
variable {X:Cx}{a b c:Expr}{ta tb tc:TE}{pos:Pos}

theorem binT (ha:PE X a ta)(hb:PE X b tb){pins:List (Addr×Obj)}{s:Shared}{σ:St}{H:Hp}{R:V->V->Hp->Prop}(I:Inv X pins σ H s)
    (h:ta σ H fun x H1=>tb σ H1 fun y H2=>R x y H2) {Q:Value->Shared->Prop} {f:Value->Value->Sem Value}
    (hf:∀v u s2 x y H2,Inv X pins σ H2 s2->RelV x v->RelV y u->R x y H2->wpAny (model X.prog X.w) X.A (f v u) Q X.xe s2) :
    wpAny (model X.prog X.w) X.A (eval a X.env) (fun v s₁=>wpAny (model X.prog X.w) X.A (eval b X.env) (fun u s₂=>wpAny (model X.prog X.w) X.A (f v u) Q X.xe s₂) X.xe s₁) X.xe s:=by
  refine thn (ha pins s σ H _ I h) fun v s1 hz9=>?_
  obtain⟨x,H1,I1,r1,q1⟩:=hz9
  refine thn (hb pins s1 σ H1 _ I1 q1) fun u s2 hz9=>?_
  obtain⟨y,H2,I2,r2,q2⟩:=hz9
  exact hf v u s2 x y H2 I2 r1 r2 q2

theorem pe_op {op:Operator}{r:R2}(ho:OpR X (binaryOp op) r)(ha:PE X a ta)(hb:PE X b tb):PE X (.BinOp a op b pos) (tOp r ta tb):=by
  intro pins s σ H Q I h
  exact wpAny_BinOp (binT ha hb I h fun v u s2 x y H2 I2 rx ry q=>ho pins s2 σ H2 x y v u Q I2 rx ry q)
theorem pe_un {op:UnaryOp}{r:V->Hp->VK->Prop}(ho:UnR X (unaryOp op) r)(ha:PE X a ta):PE X (.UnaryOp op a pos) (tUn r ta):=by
  intro pins s σ H Q I h
  exact UnaryOp_ (thn (ha pins s σ H _ I h) fun v s1 ⟨x,H1,I1,r1,q1⟩=>ho pins s1 σ H1 x v Q I1 r1 q1)
/-! ### ints -/
theorem opI {f:Value->Value->Sem Value}{C:Int->Int->Prop}{g:Int->Int->Int}
    (rule:∀(i j:Int)(t u:Tok)(s:Shared)(Q:Value->Shared->Prop)(E:Value->Shared->Prop),C i j->Q (.int (g i j) s.toks) { s with toks:=s.toks+1 }->wpAny (model X.prog X.w) X.A (f (.int i t) (.int j u)) Q E s) :
    OpR X f (rI C fun i j=> .int (g i j)):=by
  intro pins s σ H x y v u Q I rx ry h
  obtain⟨i,j,rfl,rfl,hc,q⟩:=h
  obtain⟨t,rfl⟩:=rx
  obtain⟨t',rfl⟩:=ry
  exact rule i j t t' s _ _ hc ⟨.int (g i j),H,I.tok _,⟨_,rfl⟩,q⟩
theorem opI0 {f:Value->Value->Sem Value}{g:Int->Int->Int}
    (rule:∀(i j:Int)(t u:Tok)(s:Shared)(Q:Value->Shared->Prop)(E:Value->Shared->Prop),Q (.int (g i j) s.toks) { s with toks:=s.toks+1 }->wpAny (model X.prog X.w) X.A (f (.int i t) (.int j u)) Q E s) :
    OpR X f (rI0 fun i j=> .int (g i j)):=by
  intro pins s σ H x y v u Q I rx ry h
  obtain⟨i,j,rfl,rfl,q⟩:=h
  obtain⟨t,rfl⟩:=rx
  obtain⟨t',rfl⟩:=ry
  exact rule i j t t' s _ _ ⟨.int (g i j),H,I.tok _,⟨_,rfl⟩,q⟩
theorem opB0 {f:Value->Value->Sem Value}{g:Int->Int->Bool}
    (rule:∀(i j:Int)(t u:Tok)(s:Shared)(Q:Value->Shared->Prop)(E:Value->Shared->Prop),Q (.bool (g i j)) s->wpAny (model X.prog X.w) X.A (f (.int i t) (.int j u)) Q E s) :
    OpR X f (rI0 fun i j=> .bl (g i j)):=by
  intro pins s σ H x y v u Q I rx ry h
  obtain⟨i,j,rfl,rfl,q⟩:=h
  obtain⟨t,rfl⟩:=rx
  obtain⟨t',rfl⟩:=ry
  exact rule i j t t' s _ _ ⟨.bl (g i j),H,I,rfl,q⟩

def CDiv (i j:Int):Prop:=0<j/\j<1073741824
theorem op_add:OpR X (binaryOp .Add) (rI0 fun i j=> .int (i+j)):=opI0 fun _ _ _ _ _ _ _ q=>add_int q
theorem op_sub:OpR X (binaryOp .Sub) (rI0 fun i j=> .int (i-j)):=opI0 fun _ _ _ _ _ _ _ q=>sub_int q
/-- // by a positive divisor -/
theorem op_fdiv:OpR X (binaryOp .FloorDiv) (rI CDiv fun i j=> .int (i / j)):=opI fun i j _ _ _ _ _ hc q=>by
  have h1:(0:Int)<j:=hc.1
  have h2:j<1073741824:=hc.2
  exact floordiv_int (by omega) (by rw[Int.fdiv_eq_ediv_of_nonneg i (by omega)];exact q) (.inl (PyProof.noPylong_small (by omega)))
/-- % by a positive divisor of any size -/
theorem op_mod:OpR X (binaryOp .Mod) (rI (fun _ j=>0<j) fun i j=> .int (i % j)):=opI fun i j _ _ _ _ _ hc q=>by
  have h1:(0:Int)<j:=hc
  exact mod_int' (by omega) (by rw[Int.fmod_eq_emod_of_nonneg i (by omega)];exact q)
theorem unI {f:Value->Sem Value}{g:Int->Int}
    (rule:∀(i:Int)(t:Tok)(s:Shared)(Q:Value->Shared->Prop)(E:Value->Shared->Prop),Q (.int (g i) s.toks) { s with toks:=s.toks+1 }->wpAny (model X.prog X.w) X.A (f (.int i t)) Q E s) :
    UnR X f (rU fun i=> .int (g i)):=by
  intro pins s σ H x v Q I rx h
  obtain⟨i,rfl,q⟩:=h
  obtain⟨t,rfl⟩:=rx
  exact rule i t s _ _ ⟨.int (g i),H,I.tok _,⟨_,rfl⟩,q⟩
theorem un_neg:UnR X (unaryOp .USub) (rU fun i=> .int (-i)):=unI fun _ _ _ _ _ q=>neg_int q
/-! ### bools among ints:n += (a<b) -/
end

/-! ### comparisons -/
/-- the scalars that == tells apart as data does -/
def scal:V->V->Bool
  |.non,.non=>true | .non,.int _=>true | .int _,.non=>true | .non,.bl _=>true | .bl _,.non=>true | .non,.str _=>true | .str _,.non=>true
  |.int _,.int _=>true | .bl _,.bl _=>true | .str _,.str _=>true | .byt _,.byt _=>true
  |.int _,.str _=>true | .str _,.int _=>true | .bl _,.str _=>true | .str _,.bl _=>true
  |_,_=>false
def rEq:R2:=fun x y H Q=>scal x y=true/\Q (.bl (decide (x=y))) H
def rNe:R2:=fun x y H Q=>scal x y=true/\Q (.bl (!decide (x=y))) H

theorem dec_int {i j:Int}:decide (V.int i=V.int j)=(i == j):=by
  rw[XH]
  simp
theorem dec_bl {i j:Bool}:decide (V.bl i=V.bl j)=(i == j):=by
  rw[XH]
  simp
theorem dec_str {i j:Str}:decide (V.str i=V.str j)=(i == j):=by
  rw[XH]
  simp
theorem dec_byt {i j:Array UInt8}:decide (V.byt i=V.byt j)=(i.toList == j.toList):=by
  rw[XH]
  cases i
  cases j
  simp

section
variable {X:Cx}{a b c:Expr}{ta tb tc:TE}{pos:Pos}
theorem fin_bl {pins:List (Addr×Obj)}{σ:St}{H:Hp}{s:Shared}{Q:VK}{k k':Bool}(I:Inv X pins σ H s)(q:Q (.bl k) H)(e:k=k'):EP X pins σ Q (.bool k') s:=by
  subst e
  exact⟨.bl k,H,I,rfl,q⟩
theorem op_eq:OpR X (compareOp .Eq) rEq:=by
  intro pins s σ H x y v u Q I rx ry h
  obtain⟨hs,q⟩:=h
  cases x with
  | non=>
    cases rx
    cases y with
    |non=>cases ry;exact PySem.EqNone.eq_none_none (fin_bl I q (by simp))
    |bl j=>cases ry;exact PySem.EqNone.eq_none_bool (fin_bl I q (by simp))
    |int j=>obtain⟨t',rfl⟩:=ry;exact PySem.EqNone.eq_none_int (fin_bl I q (by simp))
    |str j=>obtain⟨t',rfl⟩:=ry;exact PySem.EqNone.eq_none_str (fin_bl I q (by simp))
    |_=>exact absurd (show false=true from hs) Ym
  | bl i=>
    cases rx
    cases y with
    |non=>cases ry;exact PySem.EqNone.eq_bool_none (fin_bl I q (by simp))
    |bl j=>cases ry;exact eq_bool (fin_bl I q dec_bl)
    |str j=>obtain⟨t',rfl⟩:=ry;exact PySem.EqMixed.eq_bool_str (fin_bl I q (by simp))
    |_=>exact absurd (show false=true from hs) Ym
  | int i=>
    obtain⟨t,rfl⟩:=rx
    cases y with
    |non=>cases ry;exact PySem.EqNone.eq_int_none (fin_bl I q (by simp))
    |int j=>obtain⟨t',rfl⟩:=ry;exact eq_int (fin_bl I q dec_int)
    |str j=>obtain⟨t',rfl⟩:=ry;exact PySem.EqMixed.eq_int_str (fin_bl I q (by simp))
    |_=>exact absurd (show false=true from hs) Ym
  | str i=>
    obtain⟨t,rfl⟩:=rx
    cases y with
    |non=>cases ry;exact PySem.EqNone.eq_str_none (fin_bl I q (by simp))
    |bl j=>cases ry;exact PySem.EqMixed.eq_str_bool (fin_bl I q (by simp))
    |int j=>obtain⟨t',rfl⟩:=ry;exact PySem.EqMixed.eq_str_int (fin_bl I q (by simp))
    |str j=>obtain⟨t',rfl⟩:=ry;exact eq_str (fin_bl I q dec_str)
    |_=>exact absurd (show false=true from hs) Ym
  | byt i=>
    obtain⟨t,rfl⟩:=rx
    cases y with
    |byt j=>obtain⟨t',rfl⟩:=ry;exact W.eq_bytes (fin_bl I q dec_byt)
    |_=>exact absurd (show false=true from hs) Ym
  |_=>cases y <;> exact absurd (show false=true from hs) Ym
theorem op_ne:OpR X (compareOp .NotEq) rNe:=by
  intro pins s σ H x y v u Q I rx ry h
  obtain⟨hs,q⟩:=h
  cases x with
  | non=>
    cases rx
    cases y with
    |non=>cases ry;exact PySem.EqNone.ne_none_none (fin_bl I q (by simp))
    |bl j=>cases ry;exact PySem.EqNone.ne_none_bool (fin_bl I q (by simp))
    |int j=>obtain⟨t',rfl⟩:=ry;exact PySem.EqNone.ne_none_int (fin_bl I q (by simp))
    |str j=>obtain⟨t',rfl⟩:=ry;exact PySem.EqNone.ne_none_str (fin_bl I q (by simp))
    |_=>exact absurd (show false=true from hs) Ym
  | bl i=>
    cases rx
    cases y with
    |non=>cases ry;exact PySem.EqNone.ne_bool_none (fin_bl I q (by simp))
    |bl j=>cases ry;exact ne_bool (fin_bl I q (YE not dec_bl))
    |str j=>obtain⟨t',rfl⟩:=ry;exact PySem.EqMixed.ne_bool_str (fin_bl I q (by simp))
    |_=>exact absurd (show false=true from hs) Ym
  | int i=>
    obtain⟨t,rfl⟩:=rx
    cases y with
    |non=>cases ry;exact PySem.EqNone.ne_int_none (fin_bl I q (by simp))
    |int j=>obtain⟨t',rfl⟩:=ry;exact ne_int (fin_bl I q (YE not dec_int))
    |str j=>obtain⟨t',rfl⟩:=ry;exact PySem.EqMixed.ne_int_str (fin_bl I q (by simp))
    |_=>exact absurd (show false=true from hs) Ym
  | str i=>
    obtain⟨t,rfl⟩:=rx
    cases y with
    |non=>cases ry;exact PySem.EqNone.ne_str_none (fin_bl I q (by simp))
    |bl j=>cases ry;exact PySem.EqMixed.ne_str_bool (fin_bl I q (by simp))
    |int j=>obtain⟨t',rfl⟩:=ry;exact PySem.EqMixed.ne_str_int (fin_bl I q (by simp))
    |str j=>obtain⟨t',rfl⟩:=ry;exact ne_str (fin_bl I q (YE not dec_str))
    |_=>exact absurd (show false=true from hs) Ym
  | byt i=>
    obtain⟨t,rfl⟩:=rx
    cases y with
    |byt j=>obtain⟨t',rfl⟩:=ry;exact W.ne_bytes (fin_bl I q (YE not dec_byt))
    |_=>exact absurd (show false=true from hs) Ym
  |_=>cases y <;> exact absurd (show false=true from hs) Ym

theorem op_lt:OpR X (compareOp .Lt) (rI0 fun i j=> .bl (decide (i<j))):=opB0 fun _ _ _ _ _ _ _ q=>lt_int q
theorem op_le:OpR X (compareOp .LtE) (rI0 fun i j=> .bl (decide (i<=j))):=opB0 fun _ _ _ _ _ _ _ q=>le_int q
theorem op_gt:OpR X (compareOp .Gt) (rI0 fun i j=> .bl (decide (j<i))):=opB0 fun _ _ _ _ _ _ _ q=>gt_int q
theorem op_ge:OpR X (compareOp .GtE) (rI0 fun i j=> .bl (decide (j<=i))):=opB0 fun _ _ _ _ _ _ _ q=>ge_int q
/-- the one string within the other -/
theorem op_in_str:OpR X (compareOp .In) (fun x y H Q=>∃i j,x= .str i/\y= .str j/\Q (.bl (!(Builtin.Str.occurrences j i 0 j.length 1).isEmpty)) H):=by
  intro pins s σ H x y v u Q I rx ry h
  obtain⟨i,j,rfl,rfl,q⟩:=h
  obtain⟨t,rfl⟩:=rx
  obtain⟨t',rfl⟩:=ry
  exact in_str (fin_bl I q rfl)

/-- is None,is not None:the right side a value none -/
theorem op_isN:OpR X (compareOp .Is) (fun x y H Q=>y= .non/\Q (.bl (decide (x= .non))) H):=by
  intro pins s σ H x y v u Q I rx ry h
  obtain⟨rfl,q⟩:=h
  cases ry
  refine is_none_gen (fin_bl I q ?_)
  cases x <;> first
    |(cases rx;rfl)
    |(obtain⟨t,rfl⟩:=rx;rfl)
theorem nomark (b:Expr){op:CmpOp}(h:op≠ .In:=by decide)(h2:op≠ .NotIn:=by decide):behindInMarks op b=false:=by
  have e1:(op == CmpOp.In)=false:=by cases op <;> first | rfl | exact absurd rfl h
  have e2:(op == CmpOp.NotIn)=false:=by cases op <;> first | rfl | exact absurd rfl h2
  cases b <;> simp[behindInMarks,e1,e2]
/-- a comparison as a value;hm:nomark b,or (for in,not in) by with_unfolding_all rfl -/
theorem pe_cmpR {op:CmpOp}{r:R2}(ho:OpR X (compareOp op) r)(ha:PE X a ta)(hb:PE X b tb)(hm:behindInMarks op b=false):PE X (.Compare a [op] [b] pos) (tOp r ta tb):=by
  intro pins s σ H Q I h
  exact wpAny_Compare1 (binT ha hb I h fun v u s2 x y H2 I2 rx ry q=>ho pins s2 σ H2 x y v u Q I2 rx ry q) hm
/-- a reading of a value as a test -/
def tTest (t:TE):TT:=fun σ H Q=>t σ H fun x H'=>∃k,x= .bl k/\Q k H'
theorem pt_cmpR {op:CmpOp}{r:R2}(ho:OpR X (compareOp op) r)(ha:PE X a ta)(hb:PE X b tb)(hm:behindInMarks op b=false):PT X (.Compare a [op] [b] pos) (tTest (tOp r ta tb)):=by
  intro pins s σ H Q I h
  refine wpAny_isTrue_Compare1 (thn (ha pins s σ H _ I h) fun v s1 ⟨x,H1,I1,r1,q1⟩=>thn (hb pins s1 σ H1 _ I1 q1) fun u s2 ⟨y,H2,I2,r2,q2⟩=>
    thn (ho pins s2 σ H2 x y v u _ I2 r1 r2 q2) fun c s3 ⟨z,H3,I3,r3,k,e,q3⟩=>?_) hm
  subst e
  cases r3
  exact Xh ⟨H3,I3,q3⟩
/-- a op1 b op2 c -/
def tChain (r r':R2)(ta tb tc:TE):TE:=fun σ H Q=>ta σ H fun x H1=>tb σ H1 fun y H2=>r x y H2 fun z H3=>∃k,z= .bl k/\
  (if k=true then tc σ H3 fun w' H4=>r' y w' H4 Q else Q (.bl false) H3)
theorem pe_chain {op op':CmpOp}{r r':R2}(ho:OpR X (compareOp op) r)(ho':OpR X (compareOp op') r')(ha:PE X a ta)(hb:PE X b tb)(hc:PE X c tc)
    (hm:lastMarks [op,op'] [b,c]=false:=by with_unfolding_all rfl):PE X (.Compare a [op,op'] [b,c] pos) (tChain r r' ta tb tc):=by
  intro pins s σ H Q I h
  refine Compare_chain (thn (ha pins s σ H _ I h) fun v s1 ⟨x,H1,I1,r1,q1⟩=>chain_link (thn (hb pins s1 σ H1 _ I1 q1) fun u s2 ⟨y,H2,I2,r2,q2⟩=>
    thn (ho pins s2 σ H2 x y v u _ I2 r1 r2 q2) fun d s3 ⟨z,H3,I3,r3,k,e,q3⟩=>?_)) hm
  subst e
  cases r3
  refine Xh ?_
  cases k with
  |false=>exact ite_ff ⟨.bl false,H3,I3,rfl,q3⟩
  |true=>exact ite_tt (chain_last (thn (hc pins s3 σ H3 _ I3 q3) fun w' s4 ⟨z',H4,I4,r4,q4⟩=>ho' pins s4 σ H4 y z' u w' Q I4 r2 r4 q4))
theorem pt_chain {op op':CmpOp}{r r':R2}(ho:OpR X (compareOp op) r)(ho':OpR X (compareOp op') r')(ha:PE X a ta)(hb:PE X b tb)(hc:PE X c tc)
    (hm:lastMarks [op,op'] [b,c]=false:=by with_unfolding_all rfl):PT X (.Compare a [op,op'] [b,c] pos) (tTest (tChain r r' ta tb tc)):=by
  intro pins s σ H Q I h
  refine isTrue_chain (thn (ha pins s σ H _ I h) fun v s1 ⟨x,H1,I1,r1,q1⟩=>test_link (thn (hb pins s1 σ H1 _ I1 q1) fun u s2 ⟨y,H2,I2,r2,q2⟩=>
    thn (ho pins s2 σ H2 x y v u _ I2 r1 r2 q2) fun d s3 ⟨z,H3,I3,r3,k,e,q3⟩=>?_)) hm
  subst e
  cases r3
  refine Xh ?_
  cases k with
  | false=>
    obtain⟨k',e',q'⟩:=q3
    cases e'
    exact ite_ff ⟨H3,I3,q'⟩
  | true=>
    refine ite_tt (test_last (thn (hc pins s3 σ H3 _ I3 q3) fun w' s4 ⟨z',H4,I4,r4,q4⟩=>thn (ho' pins s4 σ H4 y z' u w' _ I4 r2 r4 q4) fun d' s5 ⟨z2,H5,I5,r5,k2,e2,q5⟩=>?_))
    subst e2
    cases r5
    exact Xh ⟨H5,I5,q5⟩

/-! ### truth -/
theorem line63:(sizeLine:Nat)<2 ^ 63:=by rw[sizeLine_eq];decide
/-! ### strs and bytes -/
theorem op_add_str:OpR X (binaryOp .Add) (fun x y H Q=>∃i j,x= .str i/\y= .str j/\i.length+j.length<=sizeLine/\Q (.str (i++j)) H):=by
  intro pins s σ H x y v u Q I rx ry h
  obtain⟨i,j,rfl,rfl,hz,q⟩:=h
  obtain⟨t,rfl⟩:=rx
  obtain⟨t',rfl⟩:=ry
  exact add_str (fun t' tk=>⟨.str (i++j),H,I.tok _,⟨_,rfl⟩,q⟩) hz
/-! ### scalar builtins,by CallR -/
theorem vals1 {x:V}{us:List Value}(r:Vals [x] us):∃u,us= [u]/\RelV x u:=by
  cases r with
  |cons r1 r2=>cases r2;exact⟨_,rfl,r1⟩
theorem vals2 {x y:V}{us:List Value}(r:Vals [x,y] us):∃u w',us= [u,w']/\RelV x u/\RelV y w':=by
  cases r with
  | cons r1 r2=>
    cases r2 with
    |cons r3 r4=>cases r4;exact⟨_,_,rfl,r1,r3⟩
theorem call_max2 (hc:X.calm=true):CallR X (.builtin "max") (fun xs H Q=>∃i j,xs= [.int i,.int j]/\Q (.int (if j > i then j else i)) H):=by
  intro pins s σ H xs us Q I r h
  obtain⟨i,j,rfl,q⟩:=h
  obtain⟨u,w',rfl,⟨t,rfl⟩,⟨t',rfl⟩⟩:=vals2 r
  refine max_two_ints (I.ok.hd hc) fun h' tk k=>⟨_,H,I.kept k,?_,q⟩
  by_cases hj:j > i
  · rw[if_pos hj,if_pos hj];exact⟨_,rfl⟩
  · rw[if_neg hj,if_neg hj];exact⟨_,rfl⟩
theorem call_str_int:CallR X (.type "str") (fun xs H Q=>∃i,xs= [.int i]/\i.natAbs.log2<1920/\Q (.str (toString i)) H):=by
  intro pins s σ H xs us Q I r h
  obtain⟨i,rfl,hz,q⟩:=h
  obtain⟨u,rfl,t,rfl⟩:=vals1 r
  exact PySem.P.str_of_int hz ⟨.str _,H,I.tok _,⟨_,rfl⟩,q⟩
end
end L2

namespace L2
open PySem PySem.Spec PyProof.Rows

/-! ### an instance,its attributes a map -/
structure ObjM (h:Heap)(x dx C:Addr)(mA:Str->Option Value):Prop where
  obj:h.get? x=some (W.instObj C dx)
  ns:h.Ns1 dx mA
  ne:dx≠x

theorem lookIn_ns {h:Heap}{dx:Addr}{mA:Str->Option Value}(n:h.Ns1 dx mA):∃od,h.get? dx=some od/\∀name,W.lookIn name od=some (mA name):=by
  obtain⟨o,es,ep,ho,hd,hk,_,hm⟩:=n
  refine⟨o,ho,fun name=>?_⟩
  have e:=hm name
  unfold nsFind findBy at e
  rw[<-Array.find?_toList]at e
  unfold W.lookIn
  rw[hd]
  dsimp only
  split
  · rename_i y q
    rw[q]at e
    exact YE some e
  · rename_i q
    rw[q]at e
    have a:es.toList.any (·.refKey)=false:=by
      rw[List.any_eq_false]
      intro y hy
      obtain⟨z,t,hkey⟩:=hk y (Array.mem_toList_iff.mp hy)
      simp[DictEntry.refKey,hkey]
    have a':¬ es.toList.any (·.refKey)=true:=by rw[a];exact Ym
    rw[if_neg a']
    exact YE some e

theorem ObjM.look {h:Heap}{x dx C:Addr}{mA:Str->Option Value}(I:ObjM h x dx C mA):∃od,W.InstAt h x (W.instObj C dx) C (some od)/\∀name,W.lookIn name od=some (mA name):=
  let ⟨od,ho,hl⟩:=lookIn_ns I.ns
  ⟨od,⟨I.obj,rfl,rfl,ho⟩,hl⟩

section
variable {prog:Program}{w:World}{A:Around}{E:Value->Shared->Prop}{s:Shared}{K:W.Frag}{x dx C f:Addr}{mA:Str->Option Value}{name:Str}{v:Value}

theorem get_map {expr:Bool}{Q:Value->Shared->Prop}(X:K.In s.heap)(I:ObjM s.heap x dx C mA)(hg:W.plainGet K C name=true)(hh:W.hasDictIn K C=true)
    (ha:W.findIn K (.ref C) name=some none) (hv:mA name=some v) (hv':W.handedIn v=true) (h:Q v { s with toks:=s.toks+1 }) :
    wpAny (model prog w) A (getAttr (.ref x) name expr) Q E s:=by
  obtain⟨od,J,hl⟩:=I.look
  exact W.get_value X J (W.plainGet_of hg).1 (W.findObj_own hh ha rfl (by rw[hl,hv])) hv' h

theorem get_meth {pl:Sem Bool}{Q:Value×List Value->Shared->Prop}(X:K.In s.heap)(I:ObjM s.heap x dx C mA)(hg:W.plainGet K C name=true)
    (hf:W.findIn K (.ref C) name=some (some (.ref f))) (ht:W.isFn K (.ref f)=true) (hv:mA name=none) (h:Q (.ref f, [.ref x]) s) :
    wpAny (model prog w) A (getMethod (.ref x) name pl) Q E s:=by
  obtain⟨od,J,hl⟩:=I.look
  exact W.method_fn X J (W.plainGet_of hg).1 (W.plainGet_of hg).2 hf (Xo.mp ht) (by show (W.lookIn name od).map (·.isSome)=some false;rw[hl,hv];rfl) h

theorem set_map {ns:List Str}{Q:Unit->Shared->Prop}(X:K.In s.heap)(I:ObjM s.heap x dx C mA)
    (hs:W.findIn K (.ref C) "__setattr__"=some (some (.builtin "object.__setattr__"))) (hp:W.plainOver K C=true) (ht:W.takerIn K C name=some none) (hh:W.hasDictIn K C=true)
    (hw:PySem.Within mA ns) (hsz:ns.length<=sizeLine)
    (h:∀h',ObjM h' x dx C (fun y=>if y=name then some v else mA y)->Heap.SameBut dx s.heap h'->Q () { s with heap:=h',toks:=s.toks+2 }) :
    wpAny (model prog w) A (setAttr (.ref x) name v) Q E s:=by
  obtain⟨od,J,hl⟩:=I.look
  refine W.set_plain X J hs (W.osa_open (s:={ s with toks:=s.toks+1 }) (r:=none) X J hp ht fun b=>?_)
  obtain⟨cd,hc,hd'⟩:=W.any_some hh
  have hx:s.heap.get? x=some ⟨.ref C,some dx,.plain, #[]⟩:=I.obj
  refine Yn (YS (Yn (Yn (wpAny_loadPart hx (Yn (W.Looks.here (s:={ s with toks:=s.toks+1 }) (W.looks_clsIn X hc) ?_))))))
  rw[hd']
  refine YS (a:=some dx) (Yn (YS (Yn ?_)))
  refine wpAny_nsSet1 (s:={ s with toks:=s.toks+1 }) I.ns fun h' hn2 hs2=>?_
  obtain⟨oD,esD,epD,hoD,hdD,hcD⟩:=hn2.count (PySem.Within.cons name v hw)
  refine Yn (wpAny_lookBehind hoD (by rw[hdD];exact pastItsLine_dict (Ye hcD (by rw[YX];omega))) ?_)
  exact YS (h _ ⟨(hs2.2 _ (Ne.symm I.ne)).trans I.obj,hn2,I.ne⟩ hs2)

/-- C(..):the dict at the heap's end,the instance behind it;then its __init__ -/
theorem make_map {R:Result->Shared->Prop}{vs:List Value}{kw:List (Str×Value)}(X:K.In s.heap)(hm:W.makesIn K C=true)
    (hi:W.findIn K (.ref C) "__init__"=some (some (.ref f))) (hf:W.typeIn K (.ref f)=some (.type "function"))
    (h :codeAny (model prog w) (A.under (.builtin "type.__call__" ⟨.ref C::vs,kw⟩)) (.call (.ref f) ⟨.ref (s.heap.objs.size+1)::vs,kw⟩) (W.InitBack (s.heap.objs.size+1) R)
      { s with heap:=(s.heap.push W.emptyDict).push (W.instObj C s.heap.objs.size) }) :
    codeAny (model prog w) A (.call (.ref C) ⟨vs,kw⟩) R s:=by
  obtain⟨hh,g,d,t,os⟩:=s
  exact W.make_core (W.makes_of X hm) (W.looks_findIn X hi) (fun self=>W.bind_fn X self hf) (.inl rfl) h
end

/-! ### the attributes as a list of pairs -/
def putF (f:Str)(v:V):List (Str×V)->List (Str×V)
  |[]=>[(f,v)]
  |(g,x)::r=>if g=f then (g,v)::r else (g,x)::putF f v r
theorem lookup_putF (f g:Str)(v:V):∀fs:List (Str×V),(putF f v fs).lookup g=if g=f then some v else fs.lookup g
  | [] =>by
    show List.lookup g [(f,v)]=_
    by_cases h:g=f
    · have hb:(g == f)=true:=Xo.mpr h
      simp only[List.lookup,hb,if_pos h]
    · have hb:(g == f)=false:=Y8.mpr h
      simp only[List.lookup,hb,if_neg h]
  | (k, x)::r=>by
    have ih:=lookup_putF f g v r
    rw[show putF f v ((k,x)::r)=(if k=f then (k,v)::r else (k,x)::putF f v r) from rfl]
    by_cases hk:k=f
    · rw [if_pos hk]
      by_cases h:g=k
      · have hb:(g == k)=true:=Xo.mpr h
        simp only[List.lookup,hb,if_pos (h.trans hk)]
      · have hb:(g == k)=false:=Y8.mpr h
        simp only[List.lookup,hb,if_neg (fun e:g=f=>h (e.trans hk.symm))]
    · rw [if_neg hk]
      by_cases h:g=k
      · have hb:(g == k)=true:=Xo.mpr h
        simp only[List.lookup,hb,if_neg (fun e:g=f=>hk (h.symm.trans e))]
      · have hb:(g == k)=false:=Y8.mpr h
        simp only[List.lookup,hb]
        exact ih
theorem keys_putF (f:Str)(v:V):∀fs:List (Str×V),f∈(putF f v fs).map (·.1)/\∀g,g∈fs.map (·.1)->g∈(putF f v fs).map (·.1)
  |[]=>⟨by simp[putF],fun g h=>by simp at h⟩
  | (k, x)::r=>by
    obtain⟨i1,i2⟩:=keys_putF f v r
    rw[show putF f v ((k,x)::r)=(if k=f then (k,v)::r else (k,x)::putF f v r) from rfl]
    by_cases hk:k=f
    · rw[if_pos hk]
      subst hk
      exact⟨by simp,fun g h=>by simpa using h⟩
    · rw [if_neg hk]
      refine⟨?_,fun g h=>?_⟩
      · rw[Yy]
        exact Yf _ i1
      · rw[Yy]at h ⊢
        rcases Yr.mp h with e | e
        · exact Yr.mpr (.inl e)
        · exact Yf _ (i2 g e)
theorem length_putF (f:Str)(v:V):∀fs:List (Str×V),(putF f v fs).length<=fs.length+1
  |[]=>by simp[putF]
  | (k,x)::r=>by
    have ih:=length_putF f v r
    rw[show putF f v ((k,x)::r)=(if k=f then (k,v)::r else (k,x)::putF f v r) from rfl]
    by_cases hk:k=f
    · rw[if_pos hk,YX,YX];omega
    · rw[if_neg hk,YX,YX];omega

theorem RelO.some_of {v:V}{o:Option Value}(r:RelO (some v) o):∃u,o=some u/\RelV v u:=by
  cases o with
  |none=>exact(show False from r).elim
  |some u=>exact⟨u,rfl,r⟩
theorem RelO.none_of {o:Option Value}(r:RelO none o):o=none:=by
  cases o with
  |none=>rfl
  |some u=>exact(show False from r).elim
theorem handed_of {v:V}{u:Value}(r:RelV v u):W.handedIn u=true:=by
  cases v with
  |non=>cases (show u=Value.none from r);rfl
  |bl b=>cases (show u=Value.bool b from r);rfl
  |int i=>obtain⟨t,e⟩:=(show ∃t,u=Value.int i t from r);cases e;rfl
  |str x=>obtain⟨t,e⟩:=(show ∃t,u=Value.str x t from r);cases e;rfl
  |byt b=>obtain⟨t,e⟩:=(show ∃t,u=Value.bytes b t from r);cases e;rfl
  |flt b=>obtain⟨t,e⟩:=(show ∃t,u=Value.float b t from r);cases e;rfl
  |ref a=>cases (show u=Value.ref a from r);rfl
  |ty n=>cases (show u=Value.type n from r);rfl

section
variable {P:Program}{w:World}{H H':Hp}{h h':Heap}{a C dx:Addr}{fs fs':List (Str×V)}
theorem ins_get (hok:HOk P w H h)(e:H a=some (.ins C dx fs)):∃mA,ObjM h a dx C mA/\(∀f,RelO (fs.lookup f) (mA f))/\PySem.Within mA (fs.map (·.1))/\fs.length<=1000/\H dx=some (.own a):=by
  obtain⟨d,z,ne,ob,mA,n,r,q⟩:=(show ObjOk P w H h a (.ins C dx fs) from hok a _ e)
  exact⟨mA,⟨ob,n,ne⟩,r,q,z,d⟩
end

/-! ### what of the text a class must have -/
structure Cls (K:W.Frag)(C:Addr):Prop where
  pg:W.plainGet K C Str.empty=true
  hd:W.hasDictIn K C=true
  po:W.plainOver K C=true
  sa:W.findIn K (.ref C) "__setattr__"=some (some (.builtin "object.__setattr__"))
theorem Cls.get {K:W.Frag}{C:Addr}(c:Cls K C)(f:Str):W.plainGet K C f=true:=c.pg
/-- no class of it has the name -/
def NoAttr (K:W.Frag)(C:Addr)(f:Str):Prop:=W.findIn K (.ref C) f=some none
theorem NoAttr.taker {K:W.Frag}{C:Addr}{f:Str}(n:NoAttr K C f):W.takerIn K C f=some none:=by
  unfold W.takerIn
  rw[show W.findIn K (.ref C) f=some none from n]
  rfl
/-- a method:a plain def of the class or of one above it -/
structure Meth (K:W.Frag)(C:Addr)(m:Str)(f:Addr):Prop where
  at_:W.findIn K (.ref C) m=some (some (.ref f))
  fn:W.isFn K (.ref f)=true
  kp:W.keepIn K (.ref f)=true

section
variable {X:Cx}{pins:List (Addr×Obj)}{σ:St}{H:Hp}{s:Shared}{a C dx:Addr}{fs:List (Str×V)}{f:Str}{v:V}{A:Around}{E:Value->Shared->Prop}

theorem getattr_ok {b:Bool}{Q:Value->Shared->Prop}(I:Inv X pins σ H s)(e:H a=some (.ins C dx fs))(c:Cls X.K C)(n:NoAttr X.K C f)(l:fs.lookup f=some v)
    (h:∀u s',Inv X pins σ H s'->RelV v u->Q u s'):wpAny (model X.prog X.w) A (getAttr (.ref a) f b) Q E s:=by
  obtain⟨mA,O,r,_,_,_⟩:=ins_get I.hok e
  obtain⟨u,hu,ru⟩:=RelO.some_of (v:=v) (o:=mA f) (by rw[<-l];exact r f)
  exact get_map I.kIn O (c.get f) c.hd n hu (handed_of ru) (h u _ (I.tok _) ru)

theorem getmeth_ok {m:Str}{g:Addr}{pl:Sem Bool}{Q:Value×List Value->Shared->Prop}(I:Inv X pins σ H s)(e:H a=some (.ins C dx fs))(c:Cls X.K C)(k:Meth X.K C m g)(l:fs.lookup m=none)
    (h:Q (.ref g, [.ref a]) s):wpAny (model X.prog X.w) A (getMethod (.ref a) m pl) Q E s:=by
  obtain⟨mA,O,r,_,_,_⟩:=ins_get I.hok e
  have hn:mA m=none:=RelO.none_of (by rw[<-l];exact r m)
  exact get_meth I.kIn O (c.get m) k.at_ k.fn hn h

theorem setattr_ok {y:V}{u:Value}{Q:Unit->Shared->Prop}(I:Inv X pins σ H s)(e:H a=some (.ins C dx fs))(c:Cls X.K C)(n:NoAttr X.K C f)(hl:fs.length<1000)(ry:RelV y u)
    (h:∀s',Inv X pins σ (upd H a (.ins C dx (putF f y fs))) s'->Q () s'):wpAny (model X.prog X.w) A (setAttr (.ref a) f u) Q E s:=by
  obtain⟨mA,O,r,wi,_,ho⟩:=ins_get I.hok e
  have hz:(fs.map (·.1)).length<=sizeLine:=by rw[Ya,sizeLine_eq];omega
  refine set_map I.kIn O c.sa c.po n.taker c.hd wi hz fun h' O' sb=>h _ ?_
  have hd:∃o,h'.get? dx=some o:=let ⟨o,_,_,e',_⟩:=O'.ns;⟨o,e'⟩
  refine I.write (x:=a) (e:=dx) (by rw[e];exact True.intro) (.inr ho) (fun b q hb z=>(sb.2 b hb).trans z) hd ?_
  refine⟨by rw[upd_ne O.ne];exact ho,?_,O.ne,O'.obj,_,O'.ns,fun g=>?_,fun g hg=>?_⟩
  · have:=length_putF f y fs;omega
  · show RelO ((putF f y fs).lookup g) (if g=f then some u else mA g)
    rw[lookup_putF]
    by_cases q:g=f
    · rw[if_pos q,if_pos q];exact ry
    · rw[if_neg q,if_neg q];exact r g
  · by_cases q:g=f
    · rw[q];exact(keys_putF f y fs).1
    · refine(keys_putF f y fs).2 g (wi g fun z=>hg ?_)
      show (if g=f then some u else mA g)=none
      rw[if_neg q];exact z

/-- a new instance,tracked,without attributes -/
theorem Inv.made (I:Inv X pins σ H s):Inv X pins σ (upd (upd H s.heap.objs.size (.own (s.heap.objs.size+1))) (s.heap.objs.size+1) (.ins C s.heap.objs.size []))
    { s with heap:=(s.heap.push W.emptyDict).push (W.instObj C s.heap.objs.size) }:=by
  have e1:(s.heap.push W.emptyDict).get? s.heap.objs.size=some W.emptyDict:=YB s.heap rfl
  have e2:((s.heap.push W.emptyDict).push (W.instObj C s.heap.objs.size)).get? (s.heap.objs.size+1)=some (W.instObj C s.heap.objs.size):=by
    have:=YB (s.heap.push W.emptyDict) (o:=W.instObj C s.heap.objs.size) rfl
    rwa [Heap.size_push]at this
  have e3:(s.heap.push W.emptyDict).Ns s.heap.objs.size (fun _=>none):=⟨W.emptyDict, #[],_,e1,rfl,(fun e he=>absurd he (by simp)),fun _=>rfl⟩
  have I1:=I.laid (a:=s.heap.objs.size) (o:= .own (s.heap.objs.size+1)) (h':=s.heap.push W.emptyDict) (t':=s.toks) (fun b u q=>Yh _ q) (Yc _) ⟨_,e1⟩
  refine I1.laid (a:=s.heap.objs.size+1) (o:= .ins C s.heap.objs.size []) (t':=s.toks) (fun b u q=>Yh _ q) (Nat.le_of_eq (Heap.size_push _ _)) ?_
  have ne:s.heap.objs.size≠s.heap.objs.size+1:=YM (Xq _)
  refine⟨by rw[upd_ne ne,upd_same],YO _,ne,e2,fun _=>none,(Heap.Ns1.of_empty e3).at fun o q=>Yh _ q,fun _=>True.intro,fun y hy=>absurd rfl hy⟩

/-- e.f where nothing but the object is asked:through attributeBase (super) and the last hold -/
theorem attr_of {prog:Program}{w:World}{env:Env}{e:Expr}{f:Str}{pos:Pos}{s:Shared}{Q:Value->Shared->Prop}(hb:attributeBase e f env (eval e env)=eval e env)
    (h:wpAny (model prog w) A (eval e env) (fun o s₁=>wpAny (model prog w) A (getAttr o f true) Q E s₁) E s):wpAny (model prog w) A (eval (.Attribute e f pos) env) Q E s:=
  Attribute_any_ h (by rw[arm_eval_Attribute,hb])
end

/-! ### readings and rules -/
/-- e.f,an attribute of the instance -/
def tFld (K:W.Frag)(ta:TE)(f:Str):TE:=fun σ H Q=>ta σ H fun x H1=>∃a C dx fs v,x= .ref a/\H1 a=some (.ins C dx fs)/\Cls K C/\NoAttr K C f/\fs.lookup f=some v/\Q v H1
/-- e.f=value -/
def sFld (K:W.Frag)(ta tv:TE)(f:Str):TS:=fun D σ H=>tv σ H fun y H1=>ta σ H1 fun x H2=>∃a C dx fs,x= .ref a/\H2 a=some (.ins C dx fs)/\Cls K C/\NoAttr K C f/\fs.length<1000/\
  D.nx σ (upd H2 a (.ins C dx (putF f y fs)))
section
variable {X:Cx}{o e value:Expr}{f:Str}{pos pos' tpos:Pos}{ta tv:TE}
theorem pe_fld (he:PE X e ta)(hb:attributeBase e f X.env (eval e X.env)=eval e X.env):PE X (.Attribute e f pos) (tFld X.K ta f):=by
  intro pins s σ H Q I h
  refine attr_of hb (thn (he pins s σ H _ I h) fun u s1 hz9=>?_)
  obtain⟨x,H1,I1,rx,a,C,dx,fs,v,ex,ea,c,n,l,q⟩:=hz9
  subst ex
  obtain rfl:u=Value.ref a:=rx
  exact getattr_ok I1 ea c n l fun u' s2 I2 ru=>⟨v,H1,I2,ru,q⟩
theorem ps_fld (ha:PE X o ta)(hv:PE X value tv)(hs:swapsWith value (some (.Attribute o f pos')) pos.line X.env=pure false):PS X (.Assign [.Attribute o f pos'] value pos) (sFld X.K ta tv f):=by
  intro pins s σ H D I h
  refine plainObj_wpAny_Assign_Attribute (thn (hv pins s σ H _ I h) fun u s1 ⟨y,H1,I1,ry,q⟩=>thn (ha pins s1 σ H1 _ I1 q) fun ov s2 ⟨x,H2,I2,rx,a,C,dx,fs,ex,ea,c,n,l,q2⟩=>?_) hs
  subst ex
  obtain rfl:ov=Value.ref a:=rx
  exact setattr_ok I2 ea c n l ry fun s3 I3=>⟨σ,_,I3,q2⟩
/-- what is between an instance and its method:the tree of a method call -/
theorem methcall_of {pl:Sem Bool}{m:Str}{apos:Pos}{args:List Expr}{pins:List (Addr×Obj)}{s:Shared}{σ:St}{H:Hp}{Q:Value->Shared->Prop}{te:TE}(he:PE X e te)(I:Inv X pins σ H s)
    (h :te σ H fun x H1=>∃a C dx fs g,x= .ref a/\H1 a=some (.ins C dx fs)/\Cls X.K C/\Meth X.K C m g/\fs.lookup m=none/\
      ∀s1,Inv X pins σ H1 s1->wpAny (model X.prog X.w) X.A (callWith pos (.ref g) [.ref a] (backTo pos (starEach args X.env)) (backToKw pos (keywordEach [] X.env))) Q X.xe s1)
    (ht:eval (.Call (.Attribute e m apos) args [] pos) X.env=(do
      let ov<-eval e X.env
      standAt apos.atName
      let (f,first)<-holding [ov] (getMethod ov m pl)
      callWith pos f first (backTo pos (starEach args X.env)) (backToKw pos (keywordEach [] X.env)))) :
    wpAny (model X.prog X.w) X.A (eval (.Call (.Attribute e m apos) args [] pos) X.env) Q X.xe s:=by
  refine W.methodCall_KW (pl:=pl) (thn (he pins s σ H _ I h) fun u s1 hz9=>?_) ht
  obtain⟨x,H1,I1,rx,a,C,dx,fs,g,ex,ea,c,k,l,q⟩:=hz9
  subst ex
  obtain rfl:u=Value.ref a:=rx
  exact getmeth_ok I1 ea c k l (q s1 I1)
end

/-! ### isinstance -/
section
variable {X:Cx}{pins:List (Addr×Obj)}{σ:St}{H:Hp}{s:Shared}{A:Around}{E:Value->Shared->Prop}{Q:Value->Shared->Prop}{c:Value}{b:Bool}
end
end L2

namespace L2
open PySem PySem.Spec PyProof.Rows

/-! ### room -/
structure Room (k:Nat)(A:Around):Prop where
  hd:A.handled=none
  dp:A.depth+3*k+5<recursionLimit
  un:A.units+16*k+200<cLine
theorem Room.mono {j k:Nat}{A:Around}(r:Room k A)(h:j<=k):Room j A:=⟨r.hd,by have:=r.dp;omega,by have:=r.un;omega⟩
theorem Room.deeper {k:Nat}{A:Around}(r:Room (k+1) A)(env:Env):Room k (A.deeper env):=
  ⟨r.hd,by have:=r.dp;show A.depth+1+3*k+5<_;omega,by have:=r.un;show A.units+3+16*k+200<_;omega⟩
theorem make_depth {A:Around}{C:Addr}{us:List Value}{kw:List (Str×Value)}:(A.under (.builtin "type.__call__" ⟨.ref C::us,kw⟩)).depth=A.depth+1:=by
  first | rfl | simp[Around.under,Code.weight,Code.isCreation,Code.isGuard,Code.isCaller,Code.frames,Code.isFrame,guardIds]
theorem make_units {A:Around}{C:Addr}{us:List Value}{kw:List (Str×Value)}:(A.under (.builtin "type.__call__" ⟨.ref C::us,kw⟩)).units=A.units+1:=by
  first | rfl | simp[Around.under,Code.cUnits,Code.frames,Code.isFrame]
theorem Room.make {k:Nat}{A:Around}(r:Room (k+1) A)(C:Addr)(us:List Value)(kw:List (Str×Value)):Room k (A.under (.builtin "type.__call__" ⟨.ref C::us,kw⟩)):=
  ⟨r.hd,by have:=r.dp;rw[make_depth];omega,by have:=r.un;rw[make_units];omega⟩
theorem Room.depth {k:Nat}{A:Around}(r:Room k A):A.depth<recursionLimit:=by have:=r.dp;omega
theorem Room.units {k:Nat}{A:Around}(r:Room k A):A.units+64<cLine:=by have:=r.un;omega
/-! ### argument lists and displays -/
def tNil:TA:=fun _ H Q=>Q [] H
def tCons (ta:TE)(tr:TA):TA:=fun σ H Q=>ta σ H fun x H1=>tr σ H1 fun xs H2=>Q (x::xs) H2
section
variable {X:Cx}{e:Expr}{es:List Expr}{te:TE}{t:TA}{pos:Pos}
theorem pa_nil:PA X [] tNil:=fun _ _ _ _ H Q I h=>Calls.spliced_nil ⟨[],H,I,.nil,h⟩
theorem pa_cons (ha:PE X e te)(hr:PA X es t)(hs:starEach (e::es) X.env=(false,eval e X.env)::starEach es X.env:=by rfl):PA X (e::es) (tCons te t):=by
  intro pos pins s σ H Q I h
  rw[hs]
  show wpAny _ _ (spliced ((false,eval e X.env)::backTo pos (starEach es X.env))) _ _ s
  refine Xn (thn (ha pins s σ H _ I h) fun u s1 hz9=>?_)
  obtain⟨x,H1,I1,r1,q1⟩:=hz9
  exact thn (hr pos pins s1 σ H1 _ I1 q1) fun us s2 ⟨xs,H2,I2,r2,q2⟩=>⟨x::xs,H2,I2,.cons r1 r2,q2⟩

/-- a tuple,a list of written items -/
def tTup (t:TA):TE:=fun σ H Q=>t σ H fun xs H1=>xs.length<=sizeLine/\∀p,H1 p=none->Q (.ref p) (upd H1 p (.tup xs))
def tLst (t:TA):TE:=fun σ H Q=>t σ H fun xs H1=>xs.length<=sizeLine/\∀p,H1 p=none->Q (.ref p) (upd H1 p (.lst xs))
theorem pe_tup {x1}(h:PA X es t):PE X (.Tuple es x1 pos) (tTup t):=by
  intro pins s σ H Q I hq
  refine wpAny_Tuple_spliced (thn (h pos pins s σ H _ I hq) fun us s1 ⟨xs,H1,I1,r,z,q⟩=>⟨by rw[<-r.length];exact z,?_⟩)
  have hf:H1 s1.heap.objs.size=none:=I1.hok.fresh (Yc _)
  refine⟨.ref s1.heap.objs.size,upd H1 s1.heap.objs.size (.tup xs),I1.laid (t':=s1.toks) (fun b u e=>Yh _ e) (Yc _) ?_,rfl,q _ hf⟩
  exact⟨z,us,r,⟨_,YB _ rfl,rfl,_,rfl⟩⟩
theorem pe_lst (h:PA X es t):PE X (.List es pos) (tLst t):=by
  intro pins s σ H Q I hq
  refine wpAny_List_spliced (thn (h pos pins s σ H _ I hq) fun us s1 ⟨xs,H1,I1,r,z,q⟩=>⟨by rw[<-r.length];exact z,?_⟩)
  have hf:H1 s1.heap.objs.size=none:=I1.hok.fresh (Yc _)
  refine⟨.ref s1.heap.objs.size,upd H1 s1.heap.objs.size (.lst xs),I1.laid (t':=s1.toks) (fun b u e=>Yh _ e) (Yc _) ?_,rfl,q _ hf⟩
  exact⟨z,us,0,r,YB _ rfl⟩
end

/-! ### what a def promises -/
/-- a def's promise:the bound arguments in the parameters' order,the heap,the wanted end,the wanted exception -/
abbrev Sp:=List V->Hp->VK->XK->Prop
/-- how an exception lies behind a call (file 08 gives it):the callers' frames,abstract heap and state ahead of the call,the wish,the exception,the state -/
abbrev CXT:=List Env->Hp->Shared->XK->Value->Shared->Prop

/-- the state at a call -/
structure Env0 (P:Program)(w:World)(K:W.Frag)(mg:Str->Option Value)(base:Heap)(A:Around)(outer:List Env)(s:Shared)(H:Hp):Prop where
  frames:A.frames=some outer
  mod:Mod K mg base
  bs:∀b o,base.get? b=some o->s.heap.get? b=some o/\H b=none
  bsz:base.objs.size<=s.heap.objs.size
  funs:s.heap.FunFrames base outer
  frf:∀b∈frs outer,H b=none
  hok:HOk P w H s.heap
  bare:AllBare s.gens
/-- a call's end -/
def CE (outer:List Env)(P:Program)(w:World)(H:Hp)(s:Shared)(Q:VK)(u:Value)(s':Shared):Prop:=
  ∃v H',s'.os=s.os/\AllBare s'.gens/\Un (frs outer) [] H H' s.heap s'.heap/\HOk P w H' s'.heap/\RelV v u/\Q v H'
def CR (CX:CXT)(outer:List Env)(P:Program)(w:World)(H:Hp)(s:Shared)(Q:VK)(E:XK)(r:Result)(s':Shared):Prop:=
  match r with
  |.ok (.ret u)=>CE outer P w H s Q u s'
  |.ok _=>False
  |.error e=>CX outer H s E e s'
structure FnOk (P:Program)(w:World)(K:W.Frag)(mg:Str->Option Value)(base:Heap)(CX:CXT)(k:Nat)(f:Addr)(fd:FuncData)(ps:List Str)(sp:Sp):Prop where
  len:∀vs H Q E,sp vs H Q E->vs.length=ps.length
  run:∀(A:Around)(outer:List Env)(s:Shared)(H:Hp)(args:Args)(us:List Value)(vs:List V)(Q:VK)(E:XK),Room k A->Env0 P w K mg base A outer s H->BindsTo s fd args (ps.zip us)->Vals vs us->sp vs H Q E->
    codeAny (model P w) A (.call (.ref f) args) (CR CX outer P w H s Q E) s
theorem Env0.make {P:Program}{w:World}{K:W.Frag}{mg:Str->Option Value}{base:Heap}{A:Around}{outer:List Env}{s:Shared}{H:Hp}(e:Env0 P w K mg base A outer s H)(C:Addr)(us:List Value)(kw:List (Str×Value)) :
    Env0 P w K mg base (A.under (.builtin "type.__call__" ⟨.ref C::us,kw⟩)) outer s H:=⟨by first | exact e.frames | (simpa [Around.under,Code.envs,Code.isFrame,pushEnvs] using e.frames),e.mod,e.bs,e.bsz,e.funs,e.frf,e.hok,e.bare⟩
section
variable {X:Cx}{pins:List (Addr×Obj)}{σ:St}{H:Hp}{s s':Shared}
/-- from a body:what a callee wants -/
theorem Inv.env0 (I:Inv X pins σ H s):Env0 X.prog X.w X.K X.mg X.base X.A X.stack s H:=
  ⟨I.ok.frames,I.ok.mod,I.bs,Ye I.ok.bsz I.sz,I.stack,I.stkFree,I.hok,I.bare⟩
/-- behind a call -/
theorem Inv.after {Q:VK}{u:Value}(I:Inv X pins σ H s)(h:CE X.stack X.prog X.w H s Q u s'):EP X pins σ Q u s':=by
  obtain⟨v,H',os,bare,un,hok,r,q⟩:=h
  obtain⟨hh,g,d,t,os'⟩:=s'
  obtain rfl:os'=s.os:=os
  exact⟨v,H',I.call (h':=hh) (g':=g) (d':=d) (t':=t) (ch:=[]) un hok bare (fun b z=>absurd z (by simp)),r,q⟩
end

/-! ### calls -/
/-- f(..):the written arguments,then the defaults dvs;E:what is wanted of an exception -/
def tCall (sp:Sp)(dvs:List V)(E:XK)(t:TA):TE:=fun σ H Q=>t σ H fun vs H1=>sp (vs++dvs) H1 Q E
/-- o.m(..) of an instance of the class at C -/
def tMeth (C:Addr)(m:Str)(sp:Sp)(dvs:List V)(E:XK)(ta:TE)(t:TA):TE:=fun σ H Q=>ta σ H fun x H1=>∃a dx fs,x= .ref a/\H1 a=some (.ins C dx fs)/\fs.lookup m=none/\
  t σ H1 fun vs H2=>sp (x::(vs++dvs)) H2 Q E
/-- C(..):a new instance and its dict,then __init__ -/
def tMake (C:Addr)(sp:Sp)(dvs:List V)(E:XK)(t:TA):TE:=fun σ H Q=>t σ H fun vs H1=>∀x dx,H1 x=none->H1 dx=none->dx≠x->
  sp (.ref x::(vs++dvs)) (upd (upd H1 dx (.own x)) x (.ins C dx [])) (fun v H2=>v= .non/\Q (.ref x) H2) E

/-- how the parameters are bound:us the positional arguments,kw the keywords' values by name,ds the defaults that fill up -/
def Binds (K:W.Frag)(fd:FuncData)(ps:List Str)(ds:List Value):Prop:=
  ∀(s:Shared)(us:List Value),K.In s.heap->(us++ds).length=ps.length->BindsTo s fd ⟨us, []⟩ (ps.zip (us++ds))
/-- every parameter is given -/
theorem Binds.all {K:W.Frag}{fd:FuncData}{ps:List Str}(h:∀us:List Value,us.length=ps.length->bindArgs fd ⟨us, []⟩=pure (ps.zip us)):Binds K fd ps []:=fun s us _ hl=>by
  rw[YZ]at hl ⊢
  exact .of_eq (h us hl)

/-- an exception of a callee reaches what this body wants of exceptions -/
def Passes (CX:CXT)(X:Cx)(E:XK):Prop:=∀(pins:List (Addr×Obj))(σ:St)(H:Hp)(s:Shared)(e:Value)(s':Shared),Inv X pins σ H s->CX X.stack H s E e s'->X.xe e s'

section
variable {X:Cx}{CX:CXT}{k:Nat}{f C:Addr}{fd:FuncData}{ps:List Str}{sp:Sp}{dvs:List V}{ds:List Value}{E:XK}{x m:Str}{p pos apos:Pos}{e o:Expr}{es:List Expr}{ta:TE}{t:TA}

/-- the callee runs -/
theorem run_fn {pins:List (Addr×Obj)}{σ:St}{H:Hp}{s:Shared}{Q:VK}{us:List Value}{vs:List V}(F:FnOk X.prog X.w X.K X.mg X.base CX k f fd ps sp)(hr:Room k X.A)(hb:Binds X.K fd ps ds)(hd:Vals dvs ds)(hx:Passes CX X E)
    (I:Inv X pins σ H s) (r:Vals vs us) (h:sp (vs++dvs) H Q E):wpAny (model X.prog X.w) X.A (call (.ref f) us) (EP X pins σ Q) X.xe s:=by
  have r2:Vals (vs++dvs) (us++ds):=r.append hd
  have hl:(us++ds).length=ps.length:=by rw[<-r2.length];exact F.len _ _ _ _ h
  refine wpAny_call (XR (F.run X.A X.stack s H ⟨us, []⟩ (us++ds) (vs++dvs) Q E hr I.env0 (hb s us I.kIn hl) r2 h) fun r s' hq=>?_)
  cases r with
  |error e=>exact hx pins σ H s e s' I hq
  | ok fl=>
    cases fl with
    |ret u=>exact I.after hq
    |next=>exact False.elim hq
    |brk=>exact False.elim hq
    |cont=>exact False.elim hq

theorem pe_call (F:FnOk X.prog X.w X.K X.mg X.base CX k f fd ps sp)(hr:Room k X.A)(hg:Gl X x)(hm:X.mg x=some (.ref f))(hk:W.keepIn X.K (.ref f)=true)(hb:Binds X.K fd ps ds)(hd:Vals dvs ds)(hx:Passes CX X E)
    (ha:PA X (e::es) t) (hdb:(x == ("__debug__":Str))=false:=by decide) (he:starEach (e::es) X.env=(false,eval e X.env)::starEach es X.env:=by rfl) (hpl:(backTo pos (starEach es X.env)).any (·.1)=false:=by rfl) :
    PE X (.Call (.Name x p) (e::es) [] pos) (tCall sp dvs E t):=by
  intro pins s σ H Q I h
  refine Xd (ld_glob I hg hm ?_ hdb)
  refine W.callWith_K (h₀:=X.base) I.ok.mod.kin hk (thn (ha pos pins s σ H _ I h) fun us s1 ⟨vs,H1,I1,r,q⟩=>⟨I1.kIn,?_⟩) he hpl
  exact run_fn F hr hb hd hx I1 r q
/-- o.m(e, ..) -/
theorem pe_meth {pl:Sem Bool}(he:PE X o ta)(c:Cls X.K C)(hm:Meth X.K C m f)(F:FnOk X.prog X.w X.K X.mg X.base CX k f fd ps sp)(hr:Room k X.A)(hb:Binds X.K fd ps ds)(hd:Vals dvs ds)(hx:Passes CX X E)(ha:PA X (e::es) t)
    (hst:starEach (e::es) X.env=(false,eval e X.env)::starEach es X.env:=by rfl) (hpl:(backTo pos (starEach es X.env)).any (·.1)=false:=by rfl)
    (ht:eval (.Call (.Attribute o m apos) (e::es) [] pos) X.env=(do
      let ov<-eval o X.env
      standAt apos.atName
      let (f,first)<-holding [ov] (getMethod ov m pl)
      callWith pos f first (backTo pos (starEach (e::es) X.env)) (backToKw pos (keywordEach [] X.env))):=by rfl) :
    PE X (.Call (.Attribute o m apos) (e::es) [] pos) (tMeth C m sp dvs E ta t):=by
  intro pins s σ H Q I h
  refine W.methodCall_KW (pl:=pl) (thn (he pins s σ H _ I h) fun u s1 hz9=>?_) ht
  obtain⟨x,H1,I1,rx,a,dx,fs,ex,ea,l,q⟩:=hz9
  subst ex
  obtain rfl:u=Value.ref a:=rx
  refine getmeth_ok I1 ea c hm l ?_
  refine W.callWith_K (first:=[.ref a]) (h₀:=X.base) I.ok.mod.kin hm.kp (thn (ha pos pins s1 σ H1 _ I1 q) fun us s2 ⟨vs,H2,I2,r,q2⟩=>⟨I2.kIn,?_⟩) hst hpl
  exact run_fn (us:= .ref a::us) (vs:= .ref a::vs) F hr hb hd hx I2 (.cons rfl r) q2
/-- o.m() -/
theorem pe_meth0 {pl:Sem Bool}(he:PE X o ta)(c:Cls X.K C)(hm:Meth X.K C m f)(F:FnOk X.prog X.w X.K X.mg X.base CX k f fd ps sp)(hr:Room k X.A)(hb:Binds X.K fd ps ds)(hd:Vals dvs ds)(hx:Passes CX X E)
    (ht:eval (.Call (.Attribute o m apos) [] [] pos) X.env=(do
      let ov<-eval o X.env
      standAt apos.atName
      let (f,first)<-holding [ov] (getMethod ov m pl)
      callWith pos f first (backTo pos (starEach [] X.env)) (backToKw pos (keywordEach [] X.env))):=by rfl) :
    PE X (.Call (.Attribute o m apos) [] [] pos) (tMeth C m sp dvs E ta tNil):=by
  intro pins s σ H Q I h
  refine W.methodCall_KW (pl:=pl) (thn (he pins s σ H _ I h) fun u s1 hz9=>?_) ht
  obtain⟨x,H1,I1,rx,a,dx,fs,ex,ea,l,q⟩:=hz9
  subst ex
  obtain rfl:u=Value.ref a:=rx
  refine getmeth_ok I1 ea c hm l ?_
  exact W.callWith_K0 (first:=[.ref a]) I1.kIn hm.kp (run_fn (us:=[.ref a]) (vs:=[.ref a]) F hr hb hd hx I1 (.cons rfl .nil) q)

/-- what a class must have to be made -/
structure Mk (K:W.Frag)(C f:Addr):Prop where
  makes:W.makesIn K C=true
  init:W.findIn K (.ref C) "__init__"=some (some (.ref f))
  fn:W.isFn K (.ref f)=true
  kp:W.keepIn K (.ref C)=true

theorem run_make {pins:List (Addr×Obj)}{σ:St}{H:Hp}{s:Shared}{Q:VK}{us:List Value}{vs:List V}(M:Mk X.K C f)(F:FnOk X.prog X.w X.K X.mg X.base CX k f fd ps sp)(hr:Room (k+1) X.A)(hb:Binds X.K fd ps ds)(hd:Vals dvs ds)
    (hx:Passes CX X E) (I:Inv X pins σ H s) (r:Vals vs us)
    (h:∀x dx,H x=none->H dx=none->dx≠x->sp (.ref x::(vs++dvs)) (upd (upd H dx (.own x)) x (.ins C dx [])) (fun v H2=>v= .non/\Q (.ref x) H2) E) :
    wpAny (model X.prog X.w) X.A (call (.ref C) us) (EP X pins σ Q) X.xe s:=by
  have hq:=h (s.heap.objs.size+1) s.heap.objs.size (I.hok.fresh (Xx _)) (I.hok.fresh (Yc _)) (YM (Xq _))
  have I2:=Inv.made (C:=C) I
  have r2:Vals (V.ref (s.heap.objs.size+1)::(vs++dvs)) (Value.ref (s.heap.objs.size+1)::(us++ds)):= .cons rfl (r.append hd)
  have hl:(Value.ref (s.heap.objs.size+1)::us++ds).length=ps.length:=by
    have e:=r2.length
    rw[F.len _ _ _ _ hq]at e
    exact e.symm
  refine wpAny_call (make_map (f:=f) I.kIn M.makes M.init (Xo.mp M.fn) (XR (F.run _ X.stack _ _ ⟨Value.ref (s.heap.objs.size+1)::us, []⟩ (Value.ref (s.heap.objs.size+1)::(us++ds)) _ _ E (hr.make C us [])
    (I2.env0.make C us []) (hb _ (Value.ref (s.heap.objs.size+1)::us) I2.kIn hl) r2 hq) fun r s' hq'=>?_))
  cases r with
  |error e=>exact hx pins σ _ _ e s' I2 hq'
  | ok fl=>
    cases fl with
    | ret u=>
      obtain⟨v,H',I3,rv,ev,q3⟩:=I2.after hq'
      subst ev
      exact⟨rv,⟨V.ref (s.heap.objs.size+1),H',I3,rfl,q3⟩⟩
    |next=>exact False.elim hq'
    |brk=>exact False.elim hq'
    |cont=>exact False.elim hq'
theorem pe_make (M:Mk X.K C f)(F:FnOk X.prog X.w X.K X.mg X.base CX k f fd ps sp)(hr:Room (k+1) X.A)(hg:Gl X x)(hm:X.mg x=some (.ref C))(hb:Binds X.K fd ps ds)(hd:Vals dvs ds)(hx:Passes CX X E)
    (ha:PA X (e::es) t) (hdb:(x == ("__debug__":Str))=false:=by decide) (he:starEach (e::es) X.env=(false,eval e X.env)::starEach es X.env:=by rfl) (hpl:(backTo pos (starEach es X.env)).any (·.1)=false:=by rfl) :
    PE X (.Call (.Name x p) (e::es) [] pos) (tMake C sp dvs E t):=by
  intro pins s σ H Q I h
  refine Xd (ld_glob I hg hm ?_ hdb)
  refine W.callWith_K (h₀:=X.base) I.ok.mod.kin M.kp (thn (ha pos pins s σ H _ I h) fun us s1 ⟨vs,H1,I1,r,q⟩=>⟨I1.kIn,?_⟩) he hpl
  exact run_make M F hr hb hd hx I1 r q
theorem pe_make0 (M:Mk X.K C f)(F:FnOk X.prog X.w X.K X.mg X.base CX k f fd ps sp)(hr:Room (k+1) X.A)(hg:Gl X x)(hm:X.mg x=some (.ref C))(hb:Binds X.K fd ps ds)(hd:Vals dvs ds)(hx:Passes CX X E)
    (hdb:(x == ("__debug__":Str))=false:=by decide):PE X (.Call (.Name x p) [] [] pos) (tMake C sp dvs E tNil):=by
  intro pins s σ H Q I h
  refine Xd (ld_glob I hg hm ?_ hdb)
  exact W.callWith_K0 I.kIn M.kp (run_make (us:=[]) M F hr hb hd hx I .nil h)
end

/-! ### keywords -/
section
variable {X:Cx}{CX:CXT}{k:Nat}{f C:Addr}{fd:FuncData}{ps ks:List Str}{sp:Sp}{E:XK}{x m:Str}{p pos apos kpos:Pos}{e o:Expr}{es:List Expr}{kws:List Keyword}{te ta:TE}{t tk:TA}{nm:Option Str}
variable {g:List Value->List Value->List Value}{gV:List V->List V->List V}
end

/-! ### a def's body keeps its promise -/
/-- names:the parameters first -/
structure FnScope (N P:List Str)(sc:Scope):Prop where
  kind:sc.kind= .function
  co:sc.isCoroutine=false
  gen:sc.isGenerator=false
  nd:N.Nodup
  pre:N.take P.length=P
  par:∀x∈P,sc.names.lookup x=some .local\/sc.names.lookup x=some .cell
  nofree:∀y∈sc.names,y.2≠ .free

theorem bindL_out {kindOf:Str->Option NameKind}{x:Str}:∀{binds:List (Str×Value)}{m:Str->Option Value},(∀v,(x,v)∉binds)->bindL kindOf binds m x=m x
  |[],_,_=>rfl
  | (n,v)::r,m,h=>by
    unfold bindL
    rw[bindL_out fun w hw=>h w (Yf _ hw)]
    split
    · have:x≠n:=by rintro rfl;exact h v Yo
      simp[this]
    · rfl
theorem bindC_out {kindOf:Str->Option NameKind}{x:Str}:∀{binds:List (Str×Value)}{m:Str->Option Value},(∀v,(x,v)∉binds)->bindC kindOf binds m x=m x
  |[],_,_=>rfl
  | (n,v)::r,m,h=>by
    unfold bindC
    rw[bindC_out fun w hw=>h w (Yf _ hw)]
    split
    · rfl
    · have:x≠n:=by rintro rfl;exact h v Yo
      simp[this]
theorem bindL_get {kindOf:Str->Option NameKind}{x:Str}{v:Value}:∀{P:List Str}{vs:List Value}{i:Nat}{m:Str->Option Value},P.Nodup->P[i]? =some x->vs[i]? =some v->kindOf x=some .local->
    bindL kindOf (P.zip vs) m x=some v
  |[],_,_,_,_,h,_,_=>by simp at h
  |_::_, [],_,_,_,_,h,_=>by simp at h
  | p::P,w::vs,0,m,nd,h1,h2,hk=>by
    simp at h1 h2;subst h1;subst h2
    show bindL kindOf ((p,w)::P.zip vs) m p=_
    unfold bindL
    rw[bindL_out fun v hv=>(Y0.mp nd).1 (List.of_mem_zip hv).1,if_pos hk]
    simp
  | p::P,w::vs,i+1,m,nd,h1,h2,hk=>by
    show bindL kindOf ((p,w)::P.zip vs) m x=_
    unfold bindL
    exact bindL_get (i:=i) (Y0.mp nd).2 (by simpa using h1) (by simpa using h2) hk
theorem bindC_get {kindOf:Str->Option NameKind}{x:Str}{v:Value}:∀{P:List Str}{vs:List Value}{i:Nat}{m:Str->Option Value},P.Nodup->P[i]? =some x->vs[i]? =some v->kindOf x≠some .local->
    bindC kindOf (P.zip vs) m x=some v
  |[],_,_,_,_,h,_,_=>by simp at h
  |_::_, [],_,_,_,_,h,_=>by simp at h
  | p::P,w::vs,0,m,nd,h1,h2,hk=>by
    simp at h1 h2;subst h1;subst h2
    show bindC kindOf ((p,w)::P.zip vs) m p=_
    unfold bindC
    rw[bindC_out fun v hv=>(Y0.mp nd).1 (List.of_mem_zip hv).1,if_neg hk]
    simp
  | p::P,w::vs,i+1,m,nd,h1,h2,hk=>by
    show bindC kindOf ((p,w)::P.zip vs) m x=_
    unfold bindC
    exact bindC_get (i:=i) (Y0.mp nd).2 (by simpa using h1) (by simpa using h2) hk

/-- the names' values at the entry -/
def start (N:List Str)(vs:List V):St:=vs.map some++List.replicate (N.length-vs.length) none

/-- the context of a def's body,at its entry;an exception leaves the frame,then lies as CX says -/
def cxOf (CX:CXT)(P:Program)(w:World)(K:W.Frag)(mg:Str->Option Value)(base:Heap)(N:List Str)(qual:Str)(scope:Scope)(f:Addr)(cd:Value)(A:Around)(outer:List Env)(s:Shared)(H:Hp)(E:XK):Cx where
  prog:=P
  w:=w
  K:=K
  mg:=mg
  base:=base
  A:=A.deeper (envOfC qual scope s.heap.objs.size f cd)
  N:=N
  s₀:=s
  H₀:=H
  env:=envOfC qual scope s.heap.objs.size f cd
  outer:=outer
  stack:=envOfC qual scope s.heap.objs.size f cd::outer
  ex:=[]
  calm:=true
  fn:=fun _=>true
  pn:=[]
  xe:=fun e s'=>wpAny (model P w) (A.deeper (envOfC qual scope s.heap.objs.size f cd)) (leaving (envOfC qual scope s.heap.objs.size f cd) e) (fun _ s''=>CX outer H s E e s'') (fun e' s''=>CX outer H s E e' s'') s'

theorem cell_has {sc:Scope}{n:Nat}{x:Str}(h:sc.names.lookup x=some .cell):∃c,(cellsFrom n sc.names []).lookup x=some c:=by
  have q:=W.cellsFrom_some sc.names n [] (.inl h)
  exact Option.isSome_iff_exists.mp q

theorem inv_start {CX:CXT}{P:Program}{w:World}{K:W.Frag}{mg:Str->Option Value}{base:Heap}{N ps:List Str}{qual:Str}{scope:Scope}{f:Addr}{cd:Value}{A:Around}{outer:List Env}{s s1:Shared}{H:Hp}{E:XK}{us:List Value}{vs:List V}
    (S:FnScope N ps scope) (hd:A.handled=none) (e0:Env0 P w K mg base A outer s H) (hl:vs.length=ps.length) (r:Vals vs us)
    (x:InCallC s s.heap.objs.size (bindL (envOfC qual scope s.heap.objs.size f cd).kindOf (ps.zip us) fun _=>none) (cellsFrom (s.heap.objs.size+1) scope.names []) (bindC (envOfC qual scope s.heap.objs.size f cd).kindOf (ps.zip us) fun _=>none) s1) :
    Inv (cxOf CX P w K mg base N qual scope f cd A outer s H E) [] (start N vs) H s1:=by
  have hpl:ps.length<=N.length:=by have:=YE List.length S.pre;rw[YC]at this;omega
  obtain⟨h1,tk,rfl,hk⟩:=x.done
  have noA:∀b:Addr,b∉(cxOf CX P w K mg base N qual scope f cd A outer s H E).ex:=fun b z=>absurd (show b∈([]:List Addr) from z) (by simp)
  refine⟨⟨e0.mod,S.kind,rfl,rfl,Yc _,fun y z c h1 h2=>?_,fun y hy=>?_,fun y c _ h=>?_,fun _=>hd,Around.frames_deeper e0.frames,.inr ⟨rfl,rfl⟩,fun b z=>absurd z (noA b),e0.bs,e0.bsz,fun b _ _=>noA b,fun b z=>absurd z (noA b),e0.funs,e0.frf⟩,
    rfl,e0.bare,Un.kept hk,⟨_,x.toInCall.ns,fun i y v h1 h2 h3=>?_⟩,fun y c h=>⟨_,x.cell y c h⟩,e0.hok.fresh (Yc _),fun y c h=>?_,fun p hp=>absurd (show p∈([]:List (Addr×Obj)) from hp) (by simp),e0.hok.kept hk,?_⟩
  · exact name_of_addr x.apart (Xu h1) (Xu h2)
  · have hy:scope.names.lookup y=some .cell\/scope.names.lookup y=some .free:=hy
    rcases hy with hy | hy
    · exact cell_has hy
    · exact absurd rfl (S.nofree _ (Xu hy))
  · exact Xz (x.above y c (Xu h))
  · have hi:i<vs.length:=by
      unfold start at h2
      by_cases hi:i<vs.length
      · exact hi
      · rw[YV (by simpa using hi)]at h2
        rw[List.getElem?_replicate]at h2
        split at h2 <;> cases h2
    have ha:vs[i]? =some v:=by
      unfold start at h2
      rw[YQ (by simpa using hi),Yk]at h2
      cases e:vs[i]? with
      |none=>rw[e]at h2;cases h2
      |some a=>rw[e]at h2;cases h2;rfl
    obtain⟨u,hu,rv⟩:=r.get ha
    have hp:ps[i]? =some y:=by
      rw[<-S.pre,List.getElem?_take_of_lt (by omega)];exact h1
    have ndP:ps.Nodup:=by rw[<-S.pre];exact S.nd.sublist (List.take_sublist _ _)
    refine⟨u,rv,?_⟩
    rcases S.par y (Yq hp) with k | k
    · exact .inl ⟨k,bindL_get ndP hp hu k⟩
    · obtain⟨c,e⟩:=cell_has (n:=s.heap.objs.size+1) k
      refine .inr ⟨.inl k,c,e,?_⟩
      have q:=x.cell y c e
      rw[bindC_get ndP hp hu (by show scope.names.lookup y≠_;rw[k];decide)]at q
      exact q
  · exact e0.hok.fresh (Xz (x.above y c (Xu h)))
  · unfold start
    show _=N.length
    rw[Yj,Ya,XC]
    omega

/-- THE RULE:a def (or a method) of the text,by its body. The body's reading t is chosen for each entry;it is run at the parameters' values -/
theorem fn_of {CX:CXT}{P:Program}{w:World}{K:W.Frag}{mg:Str->Option Value}{base:Heap}{k:Nat}{f:Addr}{name qual:Str}{params:Arguments}{body:List Stmt}{scope:Scope}{dV kV doc pm cdv ct oc:Value}{an od:Option Addr}
    {osl:Array (Option Value)} {N ps:List Str} {sp:Sp} (lk:K.lookup f=some ⟨oc,od,.func (W.fnOf name qual params body scope dV kV doc pm an cdv ct),osl⟩) (hcd:W.codeIn K cdv qual=true) (S:FnScope N ps scope)
    (len:∀vs H Q E,sp vs H Q E->vs.length=ps.length)
    (hbody:∀(A:Around)(outer:List Env)(s:Shared)(H:Hp)(vs:List V)(Q:VK)(E:XK),Room k (A.deeper (envOfC qual scope s.heap.objs.size f cdv))->sp vs H Q E->
      ∃t,PSs (cxOf CX P w K mg base N qual scope f cdv A outer s H E) body t/\t { nx:=fun _ H'=>Q .non H',rt:=Q } (start N vs) H) :
    FnOk P w K mg base CX (k+1) f (W.fnOf name qual params body scope dV kV doc pm an cdv ct) ps sp:=by
  refine⟨len,fun A outer s H args us vs Q E hr e0 hb r hsp=>?_⟩
  have hl:=len _ _ _ _ hsp
  have KX:K.In s.heap:=e0.mod.kin.keeps fun b o e=>(e0.bs b o e).1
  have lim:s.heap.NoLimit:=e0.mod.nolimit.keeps fun b o e=>(e0.bs b o e).1
  have hkind:∀y∈ps.zip us,scope.names.lookup y.1=some .local\/(scope.names.lookup y.1=some .cell/\((cellsFrom (s.heap.objs.size+1) scope.names []).lookup y.1).isSome=true):=fun ⟨n,v⟩ hy=>by
    rcases S.par n (List.of_mem_zip hy).1 with q | q
    · exact .inl q
    · exact .inr ⟨q,W.cellsFrom_some _ _ _ (.inl q)⟩
  refine codeAny_call_function hr.depth (KX _ _ lk) rfl S.co S.gen rfl (W.codeRec_of KX hcd) (hb _ _ _ _ ?_)
  refine wpAny_newFunctionEnv_cells S.kind hkind fun env he s1 x=>?_
  subst he
  refine⟨lim.keeps x.toInCall.keep,codeAny_func ?_⟩
  obtain⟨t,ht,hq⟩:=hbody A outer s H vs Q E (hr.deeper _) hsp
  have I:Inv (cxOf CX P w K mg base N qual scope f cdv A outer s H E) [] (start N vs) H s1:=inv_start S hr.hd e0 hl r x
  refine YL (ht [] s1 (start N vs) H _ I hq) (fun fl s' hs=>?_) fun e s' hs=>hs
  have fin:∀{σ':St}{H':Hp}{v:V}{u:Value},Inv (cxOf CX P w K mg base N qual scope f cdv A outer s H E) [] σ' H' s'->RelV v u->Q v H'->CE outer P w H s Q u s':=
    fun {σ' H' v u} J rv q=>⟨v,H',J.os,J.bare,J.base,J.hok,rv,q⟩
  cases fl with
  | ret u=>
    obtain⟨v,σ',H',J,rv,q⟩:=hs
    exact fin J rv q
  | next=>
    obtain⟨σ',H',J,q⟩:=hs
    exact fin (v:=V.non) (u:=Value.none) J rfl q
  | brk=>
    obtain⟨_,_,_,q⟩:=hs
    exact False.elim q
  | cont=>
    obtain⟨_,_,_,q⟩:=hs
    exact False.elim q
end L2

namespace L2
open PySem PySem.Spec PyProof.Rows
section
variable {X:Cx}{x:Str}{p pos:Pos}{e:Expr}{es:List Expr}{t:TA}{id T:String}{r:List V->Hp->VK->Prop}

def tCB (r:List V->Hp->VK->Prop)(t:TA):TE:=fun σ H Q=>t σ H fun vs H1=>r vs H1 Q
/-- f(e, ..),f a built-in function -/
theorem pe_callB (hc:CallR X (.builtin id) r)(hg:Gl X x)(hm:X.mg x=none)(hv:bootBuiltins x=some (.builtin id))(ha:PA X (e::es) t)(hn:x≠"__name__":=by decide)(hdb:(x == ("__debug__":Str))=false:=by decide)
    (he:starEach (e::es) X.env=(false,eval e X.env)::starEach es X.env:=by rfl) (hpl:(backTo pos (starEach es X.env)).any (·.1)=false:=by rfl):PE X (.Call (.Name x p) (e::es) [] pos) (tCB r t):=by
  intro pins s σ H Q I h
  refine Xd (ld_blt I hg hm hv ?_ hn hdb)
  exact PyProof.Rows.callWith_builtin1 (thn (ha pos pins s σ H _ I h) fun us s1 ⟨vs,H1,I1,r1,q1⟩=>hc pins s1 σ H1 vs us Q I1 r1 q1) he hpl
/-- T(e, ..),T a built-in type -/
theorem pe_callTy (hc:CallR X (.type T) r)(hg:Gl X x)(hm:X.mg x=none)(hv:bootBuiltins x=some (.type T))(ha:PA X (e::es) t)(hn:x≠"__name__":=by decide)(hdb:(x == ("__debug__":Str))=false:=by decide)
    (he:starEach (e::es) X.env=(false,eval e X.env)::starEach es X.env:=by rfl) (hpl:(backTo pos (starEach es X.env)).any (·.1)=false:=by rfl):PE X (.Call (.Name x p) (e::es) [] pos) (tCB r t):=by
  intro pins s σ H Q I h
  refine Xd (ld_blt I hg hm hv ?_ hn hdb)
  exact Y2 (thn (ha pos pins s σ H _ I h) fun us s1 ⟨vs,H1,I1,r1,q1⟩=>hc pins s1 σ H1 vs us Q I1 r1 q1) he hpl
end
end L2

namespace HT
open PySem PyProof.Rows

section
open PySem.SeqAt
open PySem.AutoSeq1 (wpAny_loadPart')
open PySem.MeetsSeq PySem.MeetsSeq2 PySem.MeetsSeq3

end

section
variable {prog:Program}{w:World}{A:Around}{E:Value->Shared->Prop}{s:Shared}

/-! ### t[a:b],not the whole -/
/-- a slice's bound as a place among n (d where it is left out) -/
def sIx (n d:Nat):Option Int->Nat
  |none=>d
  |some v=>if v<0 then (v+(n:Int)).toNat else min v.toNat n
theorem sIx_none (n d:Nat):sIx n d none=d:=rfl
theorem sIx_nat (n d k:Nat):sIx n d (some (k:Int))=min k n:=by
  show (if (k:Int)<0 then ((k:Int)+(n:Int)).toNat else min (k:Int).toNat n)=min k n
  rw[if_neg (by omega),Xl]
end
end HT

namespace L2
open PySem PySem.Spec PyProof.Rows

/-! ### the parts of a slice -/
abbrev TO:=St->Hp->(Option Int->Hp->Prop)->Prop
/-- a slice's part (left out,or an int) -/
def PO (X:Cx)(e:Option Expr)(t:TO):Prop:=
  ∀ (pins:List (Addr×Obj))(s:Shared)(σ:St)(H:Hp)(Q:Option Int->Hp->Prop),Inv X pins σ H s->t σ H Q->
    wpAny (model X.prog X.w) X.A (evalPart e X.env) (fun u s'=>∃o H',Inv X pins σ H' s'/\IsPart u o/\Q o H') X.xe s
def tNoPart:TO:=fun _ H Q=>Q none H
def tPart (t:TE):TO:=fun σ H Q=>t σ H fun x H1=>∃i,x= .int i/\Q (some i) H1

section
variable {X:Cx}{e:Expr}{te:TE}{lo hi:Option Expr}{tl th:TO}{pos p2:Pos}

theorem po_none:PO X none tNoPart:=by
  intro pins s σ H Q I h
  rw[evalPart_none]
  exact YS ⟨none,H,I,.none,h⟩
theorem po_some (h:PE X e te):PO X (some e) (tPart te):=by
  intro pins s σ H Q I hw
  rw[evalPart_some]
  refine thn (h pins s σ H _ I hw) fun u s1 hz9=>?_
  obtain⟨x,H1,I1,r1,q1⟩:=hz9
  obtain⟨i,rfl,q⟩:=q1
  obtain⟨t,rfl⟩:=r1
  exact⟨some i,H1,I1,.int i t,q⟩

/-- what a slice of a value is,by values:the slice object stands at sl -/
def SlR (X:Cx)(r:V->Option Int->Option Int->Hp->VK->Prop):Prop:=
  ∀ (pins:List (Addr×Obj))(s:Shared)(σ:St)(H:Hp)(x:V)(v vl vu:Value)(lo hi:Option Int)(sl:Addr)(Q:VK),Inv X pins σ H s->RelV x v->s.heap.IsSliceOf sl vl vu .none->IsPart vl lo->IsPart vu hi->r x lo hi H Q->
    ∃T id,typeLookup (.type T) "__getitem__"=pure (some (.builtin id))/\s.TypeIs v T/\wpAny (model X.prog X.w) X.A (getItem v (.ref sl)) (EP X pins σ Q) X.xe s
def tSl (r:V->Option Int->Option Int->Hp->VK->Prop)(te:TE)(tl th:TO):TE:=fun σ H Q=>te σ H fun x H1=>tl σ H1 fun l H2=>th σ H2 fun u H3=>r x l u H3 Q
/-- a[lo:hi],any a -/
theorem pe_slice {r:V->Option Int->Option Int->Hp->VK->Prop}(hr:SlR X r)(he:PE X e te)(hl:PO X lo tl)(hu:PO X hi th):PE X (.Subscript e (.Slice lo hi none p2) pos) (tSl r te tl th):=by
  intro pins s σ H Q I h
  refine Subscript_ (thn (he pins s σ H _ I h) fun v s1 hz9=>?_)
  obtain⟨x,H1,I1,r1,q1⟩:=hz9
  refine wpAny_Slice (thn (hl pins s1 σ H1 _ I1 q1) fun vl s2 ⟨l,H2,I2,pl,q2⟩=>thn (hu pins s2 σ H2 _ I2 q2) fun vu s3 ⟨u,H3,I3,pu,q3⟩=>?_)
  rw[evalPart_none]
  refine YS ?_
  have I4:Inv X pins σ H3 { s3 with heap:=s3.heap.push { cls:= .type "slice",data:= .fields #[vl,vu,.none] } }:=I3.kept (t':=s3.toks) fun b ob q=>Yh _ q
  obtain⟨T,id,hT,ht,hg⟩:=hr pins { s3 with heap:=s3.heap.push { cls:= .type "slice",data:= .fields #[vl,vu,.none] } } σ H3 x v vl vu l u s3.heap.objs.size Q I4 r1 (Heap.IsSliceOf.new ..) pl pu q3
  show wpAny (model X.prog X.w) X.A (subscriptTail e (.Slice lo hi none p2) v (.ref s3.heap.objs.size)) (EP X pins σ Q) X.xe { s3 with heap:=s3.heap.push { cls:= .type "slice",data:= .fields #[vl,vu,.none] } }
  exact tail_any (ops:=[.ref s3.heap.objs.size,v]) ht hT hg (by with_unfolding_all rfl)

/-- the items of xs[lo:hi] -/
def cutV (xs:List V)(lo hi:Option Int):List V:=(xs.drop (HT.sIx xs.length 0 lo)).take (HT.sIx xs.length xs.length hi-HT.sIx xs.length 0 lo)
theorem cutV_length (xs:List V)(lo hi:Option Int):(cutV xs lo hi).length<=xs.length:=by
  unfold cutV
  rw[YC,Y9]
  omega
/-! ### t<u,t+u -/
end
end L2

namespace L2
open PySem PySem.Spec PyProof.Rows

/-! ### places -/
/-- the place that an index of any sign means -/
def ixN (n:Nat)(i:Int):Option Nat:=if 0<=i then (if i<n then some i.toNat else none) else if -(n:Int)<=i then some (i+n).toNat else none
def atI {α:Type}(xs:List α)(i:Int):Option α:=(ixN xs.length i).bind fun j=>xs[j]?
theorem ixN_seq {n:Nat}{i:Int}{j:Nat}(h:ixN n i=some j):seqIndex? i n=some j/\j<n/\ -(n:Int)<=i/\i<n:=by
  unfold ixN at h
  by_cases h0:0<=i
  · rw [if_pos h0]at h
    by_cases h1:i<n
    · rw[if_pos h1]at h
      have e:i.toNat=j:=YF h
      exact⟨by rw[seqIndex_of h0 h1,e],by omega,by omega,h1⟩
    · rw[if_neg h1]at h;cases h
  · rw [if_neg h0]at h
    by_cases h1: -(n:Int)<=i
    · rw[if_pos h1]at h
      have e:(i+n).toNat=j:=YF h
      exact⟨by rw[seqIndex_neg (by omega) h1,e],by omega,h1,by omega⟩
    · rw[if_neg h1]at h;cases h
theorem atI_get {α:Type}{xs:List α}{i:Int}{v:α}(h:atI xs i=some v):∃j,seqIndex? i xs.length=some j/\xs[j]? =some v/\j<xs.length/\ -(xs.length:Int)<=i/\i<xs.length:=by
  unfold atI at h
  cases e:ixN xs.length i with
  |none=>rw[e]at h;cases h
  | some j=>
    rw[e]at h
    obtain⟨h1,h2,h3,h4⟩:=ixN_seq e
    exact⟨j,h1,h,h2,h3,h4⟩
theorem atI_nat {α:Type}{xs:List α}{j:Nat}{v:α}(h:xs[j]? =some v):atI xs (j:Int)=some v:=by
  have hj:j<xs.length:=(Yb.mp h).1
  have e:ixN xs.length (j:Int)=some j:=by
    unfold ixN
    rw[if_pos (by omega),if_pos (by omega)];simp
  unfold atI;rw[e];exact h
/-! ### what may be subscripted -/
/-- what stands as an index of a plain subscript -/
def PlainIx (b:Expr):Prop:=∀o i,subscripted b false o i=operate [o,i] (getItem o i)
/-- a subscript by values -/
def IxR (X:Cx)(r:R2):Prop:=
  ∀ (value slice:Expr)(pins:List (Addr×Obj))(s:Shared)(σ:St)(H:Hp)(x y:V)(v u:Value)(Q:VK),Inv X pins σ H s->RelV x v->RelV y u->r x y H Q->
    subscripted slice false v u=operate [v,u] (getItem v u)->wpAny (model X.prog X.w) X.A (subscriptTail value slice v u) (EP X pins σ Q) X.xe s
/-- a call of a builtin's method by values:the receiver,the arguments -/
def MtR (X:Cx)(id:String)(r:V->List V->Hp->VK->Prop):Prop:=
  ∀ (pins:List (Addr×Obj))(s:Shared)(σ:St)(H:Hp)(x:V)(xs:List V)(v:Value)(us:List Value)(Q:VK),Inv X pins σ H s->RelV x v->Vals xs us->r x xs H Q->
    wpAny (model X.prog X.w) X.A (call (.builtin id) (v::us)) (EP X pins σ Q) X.xe s
section
variable {X:Cx}{a b:Expr}{ta tb:TE}{pos:Pos}
/-- a[b] -/
theorem pe_ix {r:R2}(hr:IxR X r)(ha:PE X a ta)(hb:PE X b tb)(hs:PlainIx b):PE X (.Subscript a b pos) (tOp r ta tb):=by
  intro pins s σ H Q I h
  exact Subscript_ (binT ha hb I h fun v u s2 x y H2 I2 rx ry q=>hr a b pins s2 σ H2 x y v u Q I2 rx ry q (hs _ _))

def rIxL (K:W.Frag):R2:=fun x y H Q=>∃p xs i v,x= .ref p/\y= .int i/\SqL K H p xs/\atI xs i=some v/\Q v H
def rIxT (K:W.Frag):R2:=fun x y H Q=>∃p xs i v,x= .ref p/\y= .int i/\SqT K H p xs/\atI xs i=some v/\Q v H
def rIxS:R2:=fun x y H Q=>∃z i c,x= .str z/\y= .int i/\z.length<=sizeLine/\atI z.cps.toList i=some c/\Q (.str ⟨#[c]⟩) H
theorem ix_list:IxR X (rIxL X.K):=by
  intro value slice pins s σ H x y v u Q I rx ry h hs
  obtain⟨p,xs,i,z,rfl,rfl,hq,he,q⟩:=h
  cases rx
  obtain⟨t,rfl⟩:=ry
  obtain⟨its,r,pl,hz⟩:=I.list hq
  obtain⟨j,h1,h2,h3,h4,h5⟩:=atI_get he
  obtain⟨w,ew,rw'⟩:=r.get h2
  have hl:=r.length
  have hn:=line63
  have fin:EP X pins σ Q w s:=⟨z,H,I,rw',q⟩
  by_cases h0:0<=i
  · have hj:i.toNat=j:=by
      rw[seqIndex_of h0 h5]at h1
      exact YF h1
    exact item_listR pl.isList h0 (by omega) (by rw[hj];simpa using ew) fin hs
  · have hj:(i+(its.toArray.size:Int)).toNat=j:=by
      rw[seqIndex_neg (by omega) h4]at h1
      rw[Yz,<-hl]
      exact YF h1
    exact subscriptTail_builtinR (x:=w) pl.isList.typeIs slot_list_getitem.lookup
      (wpAny_getItem_list_neg (Q:=fun r s'=>r=w/\EP X pins σ Q r s') pl.isList (by omega) (by rw[Yz] <;> omega) (by omega) (by rw[hj];simpa using ew) ⟨rfl,fin⟩) hs
theorem ix_tup:IxR X (rIxT X.K):=by
  intro value slice pins s σ H x y v u Q I rx ry h hs
  obtain⟨p,xs,i,z,rfl,rfl,hq,he,q⟩:=h
  cases rx
  obtain⟨t,rfl⟩:=ry
  obtain⟨its,r,pl,hz⟩:=I.tuple hq
  obtain⟨j,h1,h2,h3,h4,h5⟩:=atI_get he
  obtain⟨w,ew,rw'⟩:=r.get h2
  have hl:=r.length
  have hn:=line63
  have fin:EP X pins σ Q w s:=⟨z,H,I,rw',q⟩
  exact subscriptTail_builtinR (x:=w) pl.typeIs slot_tuple_getitem.lookup
    (getItem_tuple (j:=j) (Q:=fun r s'=>r=w/\EP X pins σ Q r s') pl (by omega) (by omega) (by rw[Yz,<-hl];exact h1) (by simpa using ew) ⟨rfl,fin⟩) hs
theorem ix_str:IxR X rIxS:=by
  intro value slice pins s σ H x y v u Q I rx ry h hs
  obtain⟨z,i,c,rfl,rfl,hz,he,q⟩:=h
  obtain⟨t,rfl⟩:=rx
  obtain⟨t',rfl⟩:=ry
  obtain⟨j,h1,h2,h3,h4,h5⟩:=atI_get he
  have hl:z.cps.toList.length=z.length:=by simp[Str.length]
  rw[hl]at h1 h4 h5
  have hn:=line63
  exact tail_any (typeIs_str s z t) slot_str_getitem.lookup (getItem_str (c:=c) (by
    have e1:decide (i< -(2 ^ 63:Int))=false:=Ys (by omega)
    have e2:decide (i>=2 ^ 63)=false:=Ys (by omega)
    rw[e1,e2,Bool.or_false]) (by rw[h1];simpa using h2) ⟨.str ⟨#[c]⟩,H,I.tok _,⟨_,rfl⟩,q⟩) hs
/-! ### xs[i]=v,any sign -/
/-! ### slices -/
theorem slice_bounds (lo hi:Option Int)(n:Nat):(sliceBounds lo hi none n).1=((HT.sIx n 0 lo:Nat):Int)/\(sliceBounds lo hi none n).2.1=((HT.sIx n n hi:Nat):Int)/\(sliceBounds lo hi none n).2.2=1:=by
  refine⟨?_,?_,rfl⟩
  · cases lo with
    |none=>simp[sliceBounds,HT.sIx]
    | some i=>
      simp only[sliceBounds,HT.sIx,Option.getD_none,show (1:Int) > 0 by decide,if_true]
      by_cases h:i<0
      · simp only[h,if_true] <;> omega
      · simp only[h,if_false] <;> omega
  · cases hi with
    |none=>simp[sliceBounds,HT.sIx]
    | some i=>
      simp only[sliceBounds,HT.sIx,Option.getD_none,show (1:Int) > 0 by decide,if_true]
      by_cases h:i<0
      · simp only[h,if_true] <;> omega
      · simp only[h,if_false] <;> omega
theorem slicePick_cut (its:List Value)(lo hi:Option Int):slicePick its.toArray lo hi none=((its.drop (HT.sIx its.length 0 lo)).take (HT.sIx its.length its.length hi-HT.sIx its.length 0 lo)).toArray:=by
  obtain⟨h1,h2,h3⟩:=slice_bounds lo hi its.toArray.size
  unfold slicePick
  rw[h1,h2,h3]
  simp only[sliceRange_one,pick_run,Yz] <;> rfl
/-- xs[lo:hi] of a list:a new list -/
def rSlL (K:W.Frag):V->Option Int->Option Int->Hp->VK->Prop:=fun x lo hi H Q=>∃a xs,x= .ref a/\SqL K H a xs/\∀p,H p=none->Q (.ref p) (upd H p (.lst (cutV xs lo hi)))
theorem sl_list:SlR X (rSlL X.K):=by
  intro pins s σ H x v vl vu lo hi sl Q I rx hs pl pu h
  obtain⟨a,xs,rfl,hx,q⟩:=h
  cases rx
  obtain⟨its,r,ht,hz⟩:=I.list hx
  have hlen:=r.length
  refine⟨"list",_,slot_list_getitem.lookup,ht.isList.typeIs,?_⟩
  refine wpAny_getItem_list_slice ht.isList hs pl pu .none (by simp) ?_ (by rw[Yz] <;> omega)
  rw[slicePick_cut,<-hlen]
  refine⟨.ref s.heap.objs.size,_,I.laid (t':=s.toks) (o:= .lst (cutV xs lo hi)) (fun b ob q=>Yh _ q) (Yc _) ?_,rfl,q _ (I.hok.fresh (Yc _))⟩
  exact⟨Ye (cutV_length xs lo hi) hz,_,0,(r.drop (HT.sIx xs.length 0 lo)).take (HT.sIx xs.length xs.length hi-HT.sIx xs.length 0 lo),YB _ rfl⟩

/-! ### in,not in:flat items -/
def flatV:V->Bool
  |.non=>true
  |.bl _=>true
  |.int _=>true
  |.str _=>true
  |_=>false
/-- == of flat values -/
def eqV:V->V->Bool
  |.non,.non=>true
  |.bl a,.bl b=>a == b
  |.bl a,.int b=>(if a then 1 else 0) == b
  |.int a,.bl b=>a == (if b then 1 else 0)
  |.int a,.int b=>a == b
  |.str a,.str b=>a == b
  |_,_=>false
theorem eqAt_V {A:Around}{s:Shared}{y x:V}{u v:Value}(ry:RelV y u)(rx:RelV x v)(fy:flatV y=true)(fx:flatV x=true):SeqAt.EqAt A s u v (eqV y x):=by
  cases y with
  | non=>
    cases ry
    cases x with
    |non=>cases rx;exact SeqAt.EqAt.same _
    |bl b=>cases rx;exact SeqAt.EqAt.none_bool b
    |int b=>obtain⟨t,rfl⟩:=rx;exact SeqAt.EqAt.none_int b t
    |str b=>obtain⟨t,rfl⟩:=rx;exact SeqAt.EqAt.none_str b t
    |_=>exact absurd (show false=true from fx) Ym
  | bl a=>
    cases ry
    cases x with
    |non=>cases rx;exact SeqAt.EqAt.bool_none a
    |bl b=>cases rx;exact SeqAt.EqAt.bool_bool a b
    |int b=>obtain⟨t,rfl⟩:=rx;exact SeqAt.EqAt.bool_int a b t
    |str b=>obtain⟨t,rfl⟩:=rx;exact SeqAt.EqAt.bool_str a b t
    |_=>exact absurd (show false=true from fx) Ym
  | int a=>
    obtain⟨t',rfl⟩:=ry
    cases x with
    |non=>cases rx;exact SeqAt.EqAt.int_none a t'
    |bl b=>cases rx;exact SeqAt.EqAt.int_bool a t' b
    |int b=>obtain⟨t,rfl⟩:=rx;exact SeqAt.EqAt.int_int a t' b t
    |str b=>obtain⟨t,rfl⟩:=rx;exact SeqAt.EqAt.int_str a t' b t
    |_=>exact absurd (show false=true from fx) Ym
  | str a=>
    obtain⟨t',rfl⟩:=ry
    cases x with
    |non=>cases rx;exact SeqAt.EqAt.str_none a t'
    |bl b=>cases rx;exact SeqAt.EqAt.str_bool a t' b
    |int b=>obtain⟨t,rfl⟩:=rx;exact SeqAt.EqAt.str_int a t' b t
    |str b=>obtain⟨t,rfl⟩:=rx;exact SeqAt.EqAt.str_str a t' b t
    |_=>exact absurd (show false=true from fx) Ym
  |_=>exact absurd (show false=true from fy) Ym
/-- the items' answers,read off the values (a value's own answer does not lean on its token) -/
def eqU (x:V)(u:Value):Bool:=match u with
  |.none=>eqV .non x
  |.bool b=>eqV (.bl b) x
  |.int i _=>eqV (.int i) x
  |.str z _=>eqV (.str z) x
  |_=>false
theorem eqU_of {x y:V}{u:Value}(r:RelV y u)(f:flatV y=true):eqU x u=eqV y x:=by
  cases y with
  |non=>cases r;rfl
  |bl b=>cases r;rfl
  |int i=>obtain⟨t,rfl⟩:=r;rfl
  |str z=>obtain⟨t,rfl⟩:=r;rfl
  |_=>exact absurd (show false=true from f) Ym
theorem any_eqU {x:V}:∀{xs:List V}{us:List Value},Vals xs us->xs.all flatV=true->us.any (eqU x)=xs.any fun y=>eqV y x
  |_,_,.nil,_=>rfl
  | y::xs,u::us,.cons r t,f=>by
    rw[Xf,YT]at f
    rw[XF,XF,eqU_of r f.1,any_eqU t f.2]
theorem mem_eqAt {A:Around}{s:Shared}{x:V}{v:Value}(rx:RelV x v)(fx:flatV x=true):∀{xs:List V}{us:List Value},Vals xs us->xs.all flatV=true->∀u∈us,SeqAt.EqAt A s u v (eqU x u)
  |_,_,.nil,_=>fun u hu=>by cases hu
  | y::xs,u::us,.cons r t,f=>fun u' hu=>by
    rw[Xf,YT]at f
    rcases Yr.mp hu with rfl | hu
    · rw[eqU_of r f.1];exact eqAt_V r rx f.1 fx
    · exact mem_eqAt rx fx t f.2 u' hu
def inV (x:V)(xs:List V):Bool:=xs.any fun y=>eqV y x
/-- x in a list or tuple of flat items -/
def rIn (K:W.Frag)(neg:Bool):R2:=fun x y H Q=>∃p xs,y= .ref p/\(SqL K H p xs\/SqT K H p xs)/\flatV x=true/\xs.all flatV=true/\Q (.bl (if neg then !inV x xs else inV x xs)) H
theorem op_notIn_seq:OpR X (compareOp .NotIn) (rIn X.K true):=by
  intro pins s σ H x y v u Q I rx ry h
  obtain⟨p,xs,rfl,hq,fx,fs,q⟩:=h
  cases ry
  rcases hq with hq | hq
  · obtain⟨its,r,pl,hz⟩:=I.list hq
    refine SeqAt.notIn_listAt (eqU x) pl.isList (fun w hw=>mem_eqAt rx fx r fs w (by simpa using hw)) ⟨.bl _,H,I,rfl,?_⟩
    rw[show its.toArray.any (eqU x)=its.any (eqU x) by simp,any_eqU r fs]
    exact q
  · obtain⟨its,r,pl,hz⟩:=I.tuple hq
    refine SeqAt.notIn_tupleAt (eqU x) pl (fun w hw=>mem_eqAt rx fx r fs w (by simpa using hw)) ⟨.bl _,H,I,rfl,?_⟩
    rw[show its.toArray.any (eqU x)=its.any (eqU x) by simp,any_eqU r fs]
    exact q
/-! ### len,list(x),tuple(x) of any list or tuple that is read -/
theorem call_len_seq:CallR X (.builtin "len") (fun xs H Q=>∃p ys,xs= [.ref p]/\(SqL X.K H p ys\/SqT X.K H p ys)/\Q (.int ys.length) H):=by
  intro pins s σ H xs us Q I r h
  obtain⟨p,ys,rfl,hq,q⟩:=h
  obtain⟨u,rfl,rx⟩:=vals1 r
  cases rx
  have hn:=line63
  rcases hq with hq | hq
  · obtain⟨its,r',pl,hz⟩:=I.list hq
    have hlen:=r'.length
    exact Calls.call_len_list pl.isList (by simp only[Yz] <;> omega) ⟨.int ys.length,H,I.tok _,⟨s.toks+1,by rw[Yz,hlen]⟩,q⟩
  · obtain⟨its,r',pl,hz⟩:=I.tuple hq
    have hlen:=r'.length
    exact len_tuple pl (by simp only[Yz] <;> omega) ⟨.int ys.length,H,I.tok _,⟨s.toks+1,by rw[Yz,hlen]⟩,q⟩
theorem call_len_str:CallR X (.builtin "len") (fun xs H Q=>∃z,xs= [.str z]/\z.length<=sizeLine/\Q (.int z.length) H):=by
  intro pins s σ H xs us Q I r h
  obtain⟨z,rfl,hz,q⟩:=h
  obtain⟨u,rfl,t,rfl⟩:=vals1 r
  have hn:=line63
  exact len_str (by omega) ⟨.int z.length,H,I.tok _,⟨_,rfl⟩,q⟩
theorem call_list_of:CallR X (.type "list") (fun xs H Q=>∃p ys,xs= [.ref p]/\(SqL X.K H p ys\/SqT X.K H p ys)/\∀l,H l=none->Q (.ref l) (upd H l (.lst ys))):=by
  intro pins s σ H xs us Q I r h
  obtain⟨p,ys,rfl,hq,q⟩:=h
  obtain⟨u,rfl,rx⟩:=vals1 r
  cases rx
  have fin:∀(its:List Value),Vals ys its->ys.length<=sizeLine->∀(h':Heap)(c':Nat),(∀b o',s.heap.get? b=some o'->h'.get? b=some o')->
      h'.get? s.heap.objs.size=some { cls:= .type "list",dict:=none,data:= .seq its.toArray c',slots:=#[] }->EP X pins σ Q (.ref s.heap.objs.size) { s with heap:=h' }:=fun its r' hz h' c' kp e=>
    ⟨.ref s.heap.objs.size,_,I.laid (t':=s.toks) kp (Yc _) (show ObjOk X.prog X.w _ h' _ (.lst ys) from ⟨hz,its,c',r',e⟩),rfl,q _ (I.hok.fresh (Yc _))⟩
  rcases hq with hq | hq
  · obtain⟨its,r',pl,hz⟩:=I.list hq
    have hlen:=r'.length
    obtain⟨o,ho,hc,n,hd⟩:=pl.isList
    exact call_list_seq p (.inl rfl) ho hc hd (fun h' c' kp e=>fin its r' hz h' c' kp e) (by simp only[Yz] <;> omega)
  · obtain⟨its,r',pl,hz⟩:=I.tuple hq
    have hlen:=r'.length
    obtain⟨o,ho,hc,n,hd⟩:=pl
    exact call_list_seq p (.inr rfl) ho hc hd (fun h' c' kp e=>fin its r' hz h' c' kp e) (by simp only[Yz] <;> omega)
/-! ### the call of a builtin's method:o.m(..) -/
/-- the value is of that builtin type -/
def tyV (K:W.Frag)(T:String)(x:V)(H:Hp):Prop:=match x with
  |.str _=>T="str"
  |.int _=>T="int"
  | .ref p=>(T="list"/\∃xs,SqL K H p xs)\/(T="tuple"/\∃o,K.lookup p=some o/\o.cls= .type "tuple"/\o.dict=none)\/
      (T="dict"/\((∃kvs,H p=some (.dK kvs))\/∃kvs,H p=some (.dT kvs)))\/(T="set"/\∃S n,H p=some (.set S n))
  |_=>False
theorem tyV_is {pins:List (Addr×Obj)}{σ:St}{H:Hp}{s:Shared}{T:String}{x:V}{v:Value}(I:Inv X pins σ H s)(r:RelV x v)(ty:tyV X.K T x H) :
    s.TypeIs v T/\∀a,v= .ref a->∃ob,s.heap.get? a=some ob/\ob.dict=none:=by
  cases x with
  | str z=>
    obtain⟨t,rfl⟩:=r
    cases (show T="str" from ty)
    exact⟨typeIs_str s z t,fun _ e=>nomatch e⟩
  | int i=>
    obtain⟨t,rfl⟩:=r
    cases (show T="int" from ty)
    exact⟨typeIs_int s i t,fun _ e=>nomatch e⟩
  | ref p =>
    cases r
    rcases ty with ⟨rfl,xs,hq⟩ | ⟨rfl,o,hk,hc,hd⟩ | ⟨rfl,hk⟩ | ⟨rfl,S,n,hk⟩
    · obtain⟨its,_,pl,_⟩:=I.list hq
      refine⟨pl.isList.typeIs,fun a e=>?_⟩
      cases e
      obtain⟨o,n,e,c,hd,_⟩:=pl
      exact⟨o,e,hd⟩
    · refine⟨⟨o,I.kIn p o hk,hc⟩,fun a e=>?_⟩
      cases e
      exact⟨o,I.kIn _ o hk,hd⟩
    · have z:∃o,s.heap.get? p=some o/\o.ExactDict:=by
        rcases hk with ⟨kvs,hk⟩ | ⟨kvs,hk⟩
        · obtain⟨_,_,_,_,o,_,_,e,ex,_⟩:=I.hok p _ hk
          exact⟨o,e,ex⟩
        · obtain⟨_,_,_,_,o,_,_,e,ex,_⟩:=I.hok p _ hk
          exact⟨o,e,ex⟩
      obtain⟨o,e,ex⟩:=z
      refine⟨⟨o,e,ex.1⟩,fun a e2=>?_⟩
      cases e2
      exact⟨o,e,ex.2.1⟩
    · obtain⟨o,_,_,_,e,ex,_⟩:=I.hok p _ hk
      refine⟨⟨o,e,ex.1⟩,fun a e2=>?_⟩
      cases e2
      exact⟨o,e,ex.2.1⟩
  |_=>exact False.elim ty
def tBM (K:W.Frag)(T:String)(r:V->List V->Hp->VK->Prop)(to:TE)(t:TA):TE:=fun σ H Q=>to σ H fun x H1=>tyV K T x H1/\t σ H1 fun xs H2=>r x xs H2 Q
variable {o e:Expr}{es:List Expr}{to:TE}{t:TA}{name:Str}{apos cpos:Pos}{T id:String}{r:V->List V->Hp->VK->Prop}
theorem pe_bm (pa:PlainAttrs T)(slot:Slot T name id)(hty:typeOf (.builtin id)=pure (.type "method_descriptor"))(hm:MtR X id r)(ho:PE X o to)(ha:PA X (e::es) t)
    (hbase:attributeBase o name X.env (eval o X.env)=eval o X.env:=by rfl)
    (hfew:((backTo cpos (starEach (e::es) X.env)).all (fun x=>!x.1) && (backToKw cpos (keywordEach [] X.env)).all (fun x=>x.1.isSome)
      && decide ((e::es).length+([]:List Keyword).length+(if ([]:List Keyword).isEmpty then 0 else 1)<30))=true:=by rfl)
    (hline:(apos.endLine == cpos.line)=true:=by rfl) (hs:starEach (e::es) X.env=(false,eval e X.env)::starEach es X.env:=by rfl) (hplain:(backTo cpos (starEach es X.env)).any (·.1)=false:=by rfl) :
    PE X (.Call (.Attribute o name apos) (e::es) [] cpos) (tBM X.K T r to t):=by
  intro pins s σ H Q I h
  refine wpAny_Call_method_late hbase hfew hline rfl (thn (ho pins s σ H _ I h) fun v s1 hz9=>?_)
  obtain⟨x,H1,I1,r1,ty,q1⟩:=hz9
  obtain⟨h1,h2⟩:=tyV_is I1 r1 ty
  refine⟨T,id,pa,slot,hty,h1,h2,?_⟩
  have hA:=ha cpos pins s1 σ H1 _ I1 q1
  rw[hs]at hA ⊢
  refine Calls.callWith_builtin (by show (false || (backTo cpos (starEach es X.env)).any (·.1))=false;rw[hplain] <;> rfl) (XO ?_)
  exact thn hA fun us s2 ⟨vs,H2,I2,r2,q2⟩=>hm pins s2 σ H2 x vs v us Q I2 r1 r2 q2
/- xs.append(e),list.index on a module's tuple .. are MtR facts of 06m -/
end
end L2

namespace L2
open PySem PySem.Spec PyProof.Rows

def MtM (X:Cx)(id:String)(r:V->List V->Hp->VK->Prop):Prop:=
  ∀ (pins:List (Addr×Obj))(s:Shared)(σ:St)(H:Hp)(x:V)(xs:List V)(v:Value)(us:List Value)(Q:VK),Inv X pins σ H s->RelV x v->Vals xs us->r x xs H Q->
    wpAny (model X.prog X.w) X.A (call (.builtin id) (v::us)) (EP X pins σ Q) X.xe s

/-! ### lists of values -/
theorem Vals.one:∀{x:V}{us:List Value},Vals [x] us->∃u,us= [u]/\RelV x u
  |_,_,.cons r .nil=>⟨_,rfl,r⟩
theorem Vals.two:∀{x y:V}{us:List Value},Vals [x,y] us->∃u v,us= [u,v]/\RelV x u/\RelV y v
  |_,_,_,.cons r (.cons q .nil)=>⟨_,_,rfl,r,q⟩
section
variable {X:Cx}{pins:List (Addr×Obj)}{σ:St}{H:Hp}{s:Shared}{l b:Addr}{xs ys zs:List V}

/-! ### the two steps:a tracked list is rewritten,a new list is laid -/
theorem Inv.lset {its its':List Value}{n:Nat}{f:Array Value->Array Value}{t':Nat}(I:Inv X pins σ H s)(hH:H l=some (.lst xs))
    (e:s.heap.get? l=some { cls:= .type "list",data:= .seq its.toArray n }) (hf:f its.toArray=its'.toArray) (hv:Vals ys its') (hz:ys.length<=sizeLine) :
    Inv X pins σ (upd H l (.lst ys)) { s with heap:=s.heap.update l (Obj.mapSeq f),toks:=t' }:=by
  have q:=PySem.IsL.update e f
  rw[hf]at q
  refine I.write (x:=l) (e:=l) (by rw[hH];exact trivial) (.inl rfl) (fun b' u hb hu=>(Y4 s.heap (Obj.mapSeq f) (Ne.symm hb)).trans hu) ⟨_,q⟩ ?_
  exact⟨hz,its',_,hv,q⟩
theorem Inv.lnew {its:List Value}{t':Nat}(I:Inv X pins σ H s)(hv:Vals ys its)(hz:ys.length<=sizeLine) :
    Inv X pins σ (upd H s.heap.objs.size (.lst ys)) { s with heap:=s.heap.push { cls:= .type "list",data:= .seq its.toArray },toks:=t' }:=
  I.laid (fun _ _ q=>Yh _ q) (Yc _) ⟨hz,its,0,hv,YB _ rfl⟩
theorem Inv.fresh (I:Inv X pins σ H s):H s.heap.objs.size=none:=I.hok.fresh (Yc _)
theorem Inv.lstM (I:Inv X pins σ H s)(hH:H l=some (.lst xs)):xs.length<=sizeLine/\∃(its:List Value)(n:Nat),Vals xs its/\xs.length=its.length/\s.heap.get? l=some { cls:= .type "list",data:= .seq its.toArray n }:=by
  obtain⟨z,its,n,r,e⟩:=I.hok l _ hH
  exact⟨z,its,n,r,r.length,e⟩

theorem notLongL {n:Nat}(h:n<=sizeLine):Builtin.List.listTooLong n=false:=by
  unfold Builtin.List.listTooLong
  exact Ys (by omega)
end

section
variable {X:Cx}

/-! ### methods -/
def rAppend:V->List V->Hp->VK->Prop:=fun x vs H Q=>∃l xs y,x= .ref l/\vs= [y]/\H l=some (.lst xs)/\xs.length<sizeLine/\Q .non (upd H l (.lst (xs++[y])))
theorem mt_append:MtM X "list.append" rAppend:=by
  intro pins s σ H x vs v us Q I rx rv h
  obtain⟨l,xs,y,rfl,rfl,hH,hz,q⟩:=h
  cases rx
  obtain⟨u,rfl,ru⟩:=rv.one
  obtain⟨z,its,n,r,hl,e⟩:=I.lstM hH
  refine call_meets F.slot_list_append ⟨_,e,rfl⟩ F.entry_list_append (F.args_list_append_2 _ _) (PySem.list_append l its.toArray n u (by rw[Yz];omega)) ⟨e,?_⟩
  refine⟨.non,_,I.lset (its':=its++[u]) hH e (by simp) (r.append (.cons ru .nil)) ?_,rfl,q⟩
  rw[Yj,List.length_singleton]
  omega

def rExtend:V->List V->Hp->VK->Prop:=fun x vs H Q=>∃l b xs zs,x= .ref l/\vs= [.ref b]/\H l=some (.lst xs)/\H b=some (.lst zs)/\xs.length+zs.length<=sizeLine/\Q .non (upd H l (.lst (xs++zs)))
theorem mt_extend:MtM X "list.extend" rExtend:=by
  intro pins s σ H x vs v us Q I rx rv h
  obtain⟨l,b,xs,zs,rfl,rfl,hH,hB,hz,q⟩:=h
  cases rx
  obtain⟨u,rfl,ru⟩:=rv.one
  cases ru
  obtain⟨z,its,n,r,hl,e⟩:=I.lstM hH
  obtain⟨z2,its2,n2,r2,hl2,e2⟩:=I.lstM hB
  have hsz:its.toArray.size+its2.toArray.size<=sizeLine:=by rw[Yz,Yz];omega
  have hlong:¬ (!its.toArray.isEmpty && Builtin.List.listTooLong (its.toArray.size+its2.toArray.size))=true:=by
    rw[notLongL hsz,Bool.and_false]
    exact Ym
  refine call_meets F.slot_list_extend ⟨_,e,rfl⟩ F.entry_list_extend (F.args_list_extend_2 _ _)
    (AutoSeq1.list_extend_list_list_0 l its.toArray n b its2.toArray n2 hlong (by rw[Yz];omega) (by omega)) ⟨e,e2,?_⟩
  refine⟨.non,_,I.lset (its':=its++its2) hH e (by simp) (r.append r2) ?_,rfl,q⟩
  rw[Yj]
  omega

/-! ### list+list,list += list,list*int -/
def rCat:R2:=fun x y H Q=>∃l b xs zs,x= .ref l/\y= .ref b/\H l=some (.lst xs)/\H b=some (.lst zs)/\xs.length+zs.length<=sizeLine/\∀p,H p=none->Q (.ref p) (upd H p (.lst (xs++zs)))
theorem op_cat:OpR X (binaryOp .Add) rCat:=by
  intro pins s σ H x y v u Q I rx ry h
  obtain⟨l,b,xs,zs,rfl,rfl,hH,hB,hz,q⟩:=h
  cases rx
  cases ry
  obtain⟨z,its,n,r,hl,e⟩:=I.lstM hH
  obtain⟨z2,its2,n2,r2,hl2,e2⟩:=I.lstM hB
  refine PySem.P.add_list e e2 ?_ (by rw[Yz,Yz];omega)
  have ea:its.toArray++its2.toArray=(its++its2).toArray:=by simp
  rw[ea]
  exact⟨.ref _,_,I.lnew (t':=s.toks) (r.append r2) (by rw[Yj];omega),rfl,q _ I.fresh⟩
/-! ### del xs[i] -/
end

/-! ### xs[a:b]=ys -/
section
variable {prog:Program}{w:World}{A:Around}{E:Value->Shared->Prop}{s:Shared}
end

section
variable {X:Cx}
end
end L2

namespace Att
open PySem PySem.W PySem.Calls PyProof.Rows

/-! ### the script -/
theorem ints_of_wellAll {P:Params}{h:Heap}:∀(ns:List Int)(vs:List Value),WellAll P h vs (ns.map WData.int)->IntsAre vs ns:=by
  intro ns
  induction ns with
  | nil=>
    intro vs w
    rw[Xr]at w
    cases w
    exact .nil
  | cons n ns ih=>
    intro vs w
    rw[Yy]at w
    cases w with
    | cons a b=>
      cases a
      exact .cons _ _ (ih _ b)

theorem script_of {l:OpenLaw}{n:Nat}(hn:l.most=some n){P:Params}{h:Heap}{args:List WData}{vals:List Value}
    (hpre:l.row.toRowW.claim.pre args=true) (hwl:WellAll P h vals args) :
    ∃a vs ns,vals= [Value.ref a]/\args= [WData.list (ns.map WData.int)]/\h.get? a=some { cls:= .type "list",data:= .seq vs.toArray }/\IntsAre vs ns/\ns.length<=n:=by
  have hsh:WShape.hasAll [] args [.list .int]=true:=(pre_splitW hpre).1
  have hc:l.pre.holds [] { args:=args }=true:=(pre_splitW hpre).2
  obtain⟨d,r,rfl,h1,h2⟩:=hasAllW_cons hsh
  obtain rfl:=hasAllW_nil h2
  obtain⟨xs,rfl,h3⟩:=hasW_list h1
  obtain⟨ns,rfl⟩:=items_int h3
  have hlen:ns.length<=n:=by
    unfold OpenLaw.pre at hc
    have h4:(WTm.not (.lt (.lit (.int (n:Int))) (.len (.arg 0)))).holds [] { args:=[.list (ns.map .int)] }=true:=by
      have h4:=(holds_andW hc).1
      rw[hn]at h4
      exact h4
    have h5:=condW_of h4 (w_not (w_lt w_lit (w_len_list (w_arg rfl))))
    rw[Ya]at h5
    refine Nat.le_of_not_lt fun q=>?_
    have q':(n:Int)<((ns.length:Nat):Int):=by omega
    first
      |(rw[Yw q']at h5;exact absurd h5 (by decide))
      |(simp at h5;omega)
  cases hwl with
  | cons w1 w2=>
    cases w2
    cases w1 with
    |list ho hall=>exact⟨_,_,ns,rfl,rfl,ho,ints_of_wellAll ns _ hall,hlen⟩

theorem post_true (l:OpenLaw)(args:List WData):l.row.toRowW.claim.post args (.bool true) args=true:=
  postW_of (r:=l.row.toRowW) (X:=(true == true))
    (show WShape.has [] (.bool true) .bool=true by first | rfl | decide | simp[WShape.has,WShape.arms,WShape.armsAll])
    (show (WTm.eq .res (.lit (.bool true))).value [] { args:=args,res:=some (.bool true),after:=args }=some (.bool (true == true)) from w_eq_bool (w_res rfl) w_lit) rfl

/-! ### the attachment:holds_open's last premise (the goal 'hc' behind k_head) from a wpAny of the law's body -/
/-- the same from a codeAny of the CALL (for a layer whose function contracts speak of calls) -/
theorem attach_call {l:OpenLaw}{n:Nat}{q:Program}{loose:List Str}{XP:(Str->Option Value)->Heap->Prop}{YP:World->Heap->Prop}{d:DefRec}
    (hn:l.most=some n) (hdf:d.params.defaults= [])
    (call:∀(w:World)(s₀ s₁:Shared)(mg mb:Str->Option Value)(fa:Addr)(o:Obj)(pm cd doc:Value)(a:Addr)(vs:List Value)(ns:List Int),
      Ground q loose [] XP w s₀ mg mb s₁.heap->YP w s₁.heap->
      s₁.heap.get? fa=some o->o.data= .func (docDef d.name d.params d.body d.scope pm cd doc)->s₁.heap.CodeRec cd d.name->mg d.name=some (.ref fa)->
      s₁.heap.get? a=some { cls:= .type "list",data:= .seq vs.toArray }->IntsAre vs ns->ns.length<=n->s₁.gens=#[]->
      codeAny (model l.prog w) callerA (.call (.ref fa) ⟨[.ref a], []⟩) (fun r s'=>r= .ok (.ret (.bool true))/\OldK s₁.heap s'.heap/\s'.os=s₁.os/\AllBare s'.gens) s₁) :
    WalkO q loose XP YP l.row.toRowW d [] (fun f vs=>PySem.call f vs):=by
  intro w s₀ s₁ mg mb G Y fa o pm cd doc dV kV ho hd hcd hD hmg hg args vals as hpre hlay hrd hwl hlo
  obtain rfl:dV= .none:=Dflts.none hD hdf
  obtain rfl:kV= .none:=Dflts.noKw hD
  obtain⟨a,vs,ns,rfl,rfl,hobj,hints,hlen⟩:=script_of hn hpre hwl
  refine enter_call (XR (call w s₀ s₁ mg mb fa o pm cd doc a vs ns G Y ho (fd_plain hd) hcd hmg hobj hints hlen hg) fun r s' hq=>?_)
  obtain⟨rfl,h2,h3,h4⟩:=hq
  exact⟨.inl ⟨.bool true,.bool true, [],rfl,fun _=>rfl,.bool true,post_true l _,fun _=>⟨List.Pairwise.nil,fun _ hm=>(nomatch hm)⟩⟩,h2,h3,h4⟩

/-! ### rules over ANY heap (no ledger) from facts about the written part K:the library's own take a ledger (News) for what they write -/
section
variable {prog:Program}{w:World}{A:Around}{E:Value->Shared->Prop}{s:Shared}{K:Frag}

/-! the whole heap as the ledger:makes every rule that writes through a ledger a rule over any heap -/
end
end Att

namespace L2
open PySem PySem.Spec PyProof.Rows

theorem vals_ints:∀{vs:List Value}{ns:List Int},IntsAre vs ns->Vals (ns.map V.int) vs
  |_,_,.nil=> .nil
  |_,_,.cons n t h=> .cons ⟨t,rfl⟩ (vals_ints h)

/-- nothing is tracked but the script,known to the object (or it is an object of the module) -/
def Only (H:Hp):Prop:=∀b,H b=none\/∃o xs,H b=some (.frz o (.lst xs))

/-- THE HEAD:the law's promise,at the heap behind the top. F,the promise of the law's def,may use that base is part of the heap (so K.In base,base.Ns mainGlobals mg stand in Mod) -/
theorem law_call {P:Program}{w:World}{K:W.Frag}{mg mb:Str->Option Value}{CX:CXT}{k:Nat}{fa a:Addr}{fd:FuncData}{x:Str}{sp:Sp}{s₁:Shared}{vs:List Value}{ns:List Int}
    (KX:K.In s₁.heap) (hns:s₁.heap.Ns mainGlobals mg) (hb:s₁.heap.Ns builtinsNs mb) (hbb:∀x:Str,x≠"__name__"->mb x=bootBuiltins x) (hlim:s₁.heap.NoLimit) (hg:s₁.gens=#[])
    (ha:s₁.heap.get? a=some { cls:= .type "list",data:= .seq vs.toArray }) (hi:IntsAre vs ns) (hl:ns.length<=sizeLine) (hr:Room k callerA)
    (F:∀base:Heap,K.In base->base.Ns mainGlobals mg->FnOk P w K mg base CX k fa fd [x] sp) (hbind:∀(s:Shared)(u:Value),BindsTo s fd ⟨[u], []⟩ [(x,u)])
    (hsp:∀H:Hp,Only H->SqL K H a (ns.map V.int)->sp [.ref a] H (fun v _=>v= .bl true) fun _ _ _=>False)
    (hCX:∀H e s',CX [] H s₁ (fun _ _ _=>False) e s'->False) :
    codeAny (model P w) callerA (.call (.ref fa) ⟨[.ref a], []⟩) (fun r s'=>r= .ok (.ret (.bool true))/\OldK s₁.heap s'.heap/\s'.os=s₁.os/\AllBare s'.gens) s₁:=by
  have rv:=vals_ints hi
  have lenV:=hi.length
  -- from an abstract heap in which nothing but the script may be tracked
  have core :∀H:Hp,Only H->SqL K H a (ns.map V.int)->HOk P w H s₁.heap->(∀b,H b≠none->b=a)->(H a≠none->K.lookup a=none)->
      codeAny (model P w) callerA (.call (.ref fa) ⟨[.ref a], []⟩) (fun r s'=>r= .ok (.ret (.bool true))/\OldK s₁.heap s'.heap/\s'.os=s₁.os/\AllBare s'.gens) s₁:=by
    intro H hO hS hok hA hK
    have base_of:∀{b:Addr}{o:Obj},s₁.heap.get? b=some o->H b=none->(hidT s₁.heap H).get? b=some o:=fun e n=>hidT_get e n
    have noA:∀{b:Addr}{o:Obj}{es:Array DictEntry}{ep:Nat},s₁.heap.get? b=some o->o.data= .dict es ep->H b=none:=fun {b o es ep} e d=>by
      cases q:H b with
      |none=>rfl
      | some u=>
        have e':b=a:=hA b (by rw[q];simp)
        subst e'
        rw[ha]at e;cases e
        have d':Data.seq vs.toArray _=Data.dict es ep:=d
        cases d'
    have nsK:∀{b:Addr}{m:Str->Option Value},s₁.heap.Ns b m->(hidT s₁.heap H).Ns b m:=fun {b m} ⟨o,es,ep,e,d,r⟩=>⟨o,es,ep,base_of e (noA e d),d,r⟩
    have hKb:K.In (hidT s₁.heap H):=fun b o e=>base_of (KX b o e) (by
      cases q:H b with
      |none=>rfl
      | some u=>
        have e':b=a:=hA b (by rw[q];simp)
        subst e'
        rw[hK (by rw[q];simp)]at e;cases e)
    have hM:Mod K mg (hidT s₁.heap H):=⟨hKb,nsK hns,⟨mb,nsK hb,hbb⟩,let ⟨mc,h1,h2⟩:=hlim;⟨mc,nsK h1,h2⟩⟩
    have e0:Env0 P w K mg (hidT s₁.heap H) callerA [] s₁ H:=⟨rfl,hM,fun b o e=>of_hidT e,Nat.le_of_eq (hidT_size _ _),trivial,fun b hb=>absurd (show b∈([]:List Addr) from hb) (by simp),hok,.of_eq hg⟩
    refine XR ((F _ hKb (nsK hns)).run callerA [] s₁ H ⟨[.ref a], []⟩ [.ref a] [.ref a] _ _ hr e0 (hbind s₁ (.ref a)) (.cons rfl .nil) (hsp H hO hS)) fun r s' h=>?_
    cases r with
    |error e=>exact(hCX H e s' h).elim
    | ok fl =>
      cases fl with
      |next=>exact False.elim h
      |brk=>exact False.elim h
      |cont=>exact False.elim h
      | ret u=>
        obtain⟨v,H',os,bare,un,hok',r',q⟩:=h
        have q':v= .bl true:=q
        subst q'
        obtain rfl:u=Value.bool true:=r'
        refine⟨rfl,OldK.of_keep fun b o e=>?_,os,bare⟩
        cases q:H b with
        |none=>exact un.keep b o e q (by intro z;exact absurd (show b∈([]:List Addr) from z) (by simp)) (by simp)
        | some u=>
          rcases hO b with z | ⟨ob,xs,z⟩
          · rw[q]at z;cases z
          · have z2:=un.frzs b ob _ z
            obtain⟨e1,_⟩:=hok b _ z
            obtain⟨e2,_⟩:=hok' b _ z2
            rw[e]at e1;cases e1
            exact e2
  cases hk:K.lookup a with
  | some o=>
    -- the script is one of the module's own objects
    have e:=KX a o hk
    rw[ha]at e
    cases e
    refine core (fun _=>none) (fun _=> .inl rfl) (.inr ⟨_,vs.toArray,_,hk,rfl,rfl,rfl,by rw[Yz,lenV];exact hl,by simpa using rv⟩) (fun b u z=>by have z':(none:Option HO)=some u:=z;cases z') (fun b z=>absurd rfl z) fun z=>absurd rfl z
  | none =>
    refine core (fun b=>if b=a then some (.frz { cls:= .type "list",data:= .seq vs.toArray } (.lst (ns.map V.int))) else none) (fun b=>?_) (.inl (.inr ⟨{ cls:= .type "list",data:= .seq vs.toArray },if_pos rfl⟩)) (fun b u z=>?_) (fun b z=>?_) fun _=>hk
    · by_cases hb:b=a
      · exact .inr ⟨_,_,if_pos hb⟩
      · exact .inl (if_neg hb)
    · by_cases hb:b=a
      · have z':=(if_pos hb).symm.trans z
        cases z'
        subst hb
        exact⟨ha,by rw[Ya];exact hl,vs,_,rv,ha⟩
      · have z':=(if_neg hb).symm.trans z
        cases z'
    · by_cases hb:b=a
      · exact hb
      · exact absurd (if_neg hb) z
end L2

namespace L2
open PySem PySem.Spec PyProof.Rows

/-- the goal that k_head leaves (case hc),from the law's promise. F gives the function object fd (K's own) once,then the promise over every base -/
theorem walk_of {l:W.OpenLaw}{n k:Nat}{q:Program}{loose:List Str}{XP:(Str->Option Value)->Heap->Prop}{YP:World->Heap->Prop}{d:DefRec}{K:Params->W.Frag}{CX:World->CXT}{sp:World->Sp}{x:Str}
    (hn:l.most=some n) (hn2:n<=sizeLine) (hdf:d.params.defaults= []) (hr:Room k callerA)
    (hY:∀(w:World)(h:Heap),YP w h->(K w.params).In h)
    (F : ∀(w:World)(mg:Str->Option Value)(fa:Addr)(h:Heap),(K w.params).In h->h.Ns mainGlobals mg->mg d.name=some (.ref fa)->
      ∃ fd:FuncData,(∀(s:Shared)(u:Value),BindsTo s fd ⟨[u], []⟩ [(x,u)])/\
        ∀base:Heap,(K w.params).In base->base.Ns mainGlobals mg->FnOk l.prog w (K w.params) mg base (CX w) k fa fd [x] (sp w))
    (hsp:∀(w:World)(H:Hp)(a:Addr)(ns:List Int),ns.length<=n->Only H->SqL (K w.params) H a (ns.map V.int)->sp w [.ref a] H (fun v _=>v= .bl true) fun _ _ _=>False)
    (hCX:∀(w:World)(H:Hp)(s:Shared)(e:Value)(s':Shared),CX w [] H s (fun _ _ _=>False) e s'->False) :
    W.WalkO q loose XP YP l.row.toRowW d [] (fun f vs=>PySem.call f vs):=by
  refine Att.attach_call hn hdf fun w s₀ s₁ mg mb fa o pm cd doc a vs ns G Y ho hd hcd hmg hobj hints hlen hg=>?_
  have KX:=hY w _ Y
  obtain⟨fd,hb,hF⟩:=F w mg fa _ KX G.T.g hmg
  exact law_call KX G.T.g G.T.b G.T.builtins G.T.nolimit hg hobj hints (Ye hlen hn2) hr hF hb (fun H hO hS=>hsp w H a ns hlen hO hS) fun H e s'=>hCX w H s₁ e s'
end L2

/- THE LAST THEOREM (shape;LID,My.* are yours):
   My.Adr:a structure of the addresses that your layer names (classes,functions);My.Txt K t:a structure (Prop) of the equations over K;
   My.txt_mk:{K} {implicit addresses ..} (e1:nsIn K mainGlobals "law"=some (some (.ref f))) (e2:K.lookup f=some ⟨oc,od,.func (fnOf "law" "law" params body scope dV kV doc pm an cdv ct),sl⟩) (e3:codeIn K cdv "law"=true) .. :∃t,My.Txt K t

set_option maxRecDepth 100000 in
set_option maxHeartbeats 0 in
theorem PySem.Challenge.cw_LID_holds : PySem.Challenge.rw_LID.Holds := by
  w_on;o_law;k_head;(case hw=>w_witness2)
  k_fill
  refine L2.walk_of (l:=PySem.Challenge.rw_LID) (n:=63) (k:=40) (x:="script") (CX:=fun w=> ..) (sp:=fun _=>My.sp_law) rfl (by decide) rfl ⟨rfl,by decide,by decide⟩ (fun w h Y=>W.kIn_of Y) ?F ?S ?C
  case F=>
    intro w mg fa h KX G hmg
    have T:∃t,My.Txt (L2.KOf KX) t:=by
      dsimp only[L2.KOf]                          -- K must stand as «<heap const> w.params» for k_is
      refine' My.txt_mk ?e1 ?e2 ?e3 ..
      (case e1=>W.k_is)                    -- in the order:a name -> its address -> its object -> its parts
      (case e2=>W.k_is)
      ..
    obtain⟨t,T⟩:=T
    have e0:=hmg.symm.trans (W.mg_of KX G T.law)
    cases e0                                       -- fa is the law's own address
    exact⟨_,fun s u=> .of_eq rfl,fun base kb nb=>My.law_fn T kb nb⟩     -- if «.of_eq rfl» comes too early:refine' ⟨_,?b,fun base kb nb=>My.law_fn T kb nb⟩;exact fun s u=> .of_eq rfl
  case S=>exact fun w H a ns hl hO hS=> ..
  case C=>exact ..
(the tactic k_is has no namespace:write k_is) -/

/-! SHORT WORDS over the layer:a def of the text,its body,what a loop and a test want. -/
namespace L2
open PySem PySem.Spec PyProof.Rows

/-! ### the text by places -/
def defArgs (s:Stmt):Arguments:=match s with
  |.FunctionDef _ a _ _ _ _ _ _ _ _=>a
  |_=>{ posonlyargs:=[],args:=[],vararg:=none,kwonlyargs:=[],kw_defaults:=[],kwarg:=none,defaults:=[] }
def defBody (s:Stmt):List Stmt:=match s with
  |.FunctionDef _ _ b _ _ _ _ _ _ _=>b
  |_=>[]
def defScope (s:Stmt):Scope:=match s with
  |.FunctionDef _ _ _ _ _ _ sc _ _ _=>sc
  |_=>{ kind:= .function,names:=[],isGenerator:=false,isCoroutine:=false }

/-! ### no exception leaves a def -/
abbrev CX0:CXT:=fun _ _ _ _ _ _=>False
abbrev E0:XK:=fun _ _ _=>False
theorem pass0 {X:Cx}:Passes CX0 X E0:=fun _ _ _ _ _ _ _ h=>h.elim

/-! ### a def (or method) of the text as it stands behind the top -/
structure Fun (K:W.Frag)(x qual:Str)(st:Stmt)(f:Addr)(fd:FuncData):Prop where
  ex :∃(oc:Value)(od:Option Addr)(kV doc pm:Value)(an:Option Addr)(cdv ct:Value)(osl:Array (Option Value)),
    fd=W.fnOf x qual (defArgs st) (defBody st) (defScope st) .none kV doc pm an cdv ct/\K.lookup f=some ⟨oc,od,.func fd,osl⟩/\W.codeIn K cdv qual=true
  kp:W.keepIn K (.ref f)=true
section
variable {P:Program}{w:World}{K:W.Frag}{mg:Str->Option Value}{base:Heap}
/-- THE RULE for a def:its body as a term of rules,and the reading of that term -/
theorem Fun.ok {x qual:Str}{st:Stmt}{f:Addr}{fd:FuncData}{N ps:List Str}{k:Nat}{sp:Sp}(F:Fun K x qual st f fd)(S:FnScope N ps (defScope st))(len:∀vs H Q E,sp vs H Q E->vs.length=ps.length)
    (hbody:∀(cdv:Value)(A:Around)(outer:List Env)(s:Shared)(H:Hp)(vs:List V)(Q:VK)(E:XK),Room k (A.deeper (envOfC qual (defScope st) s.heap.objs.size f cdv))->sp vs H Q E->
      ∃t,PSs (cxOf CX0 P w K mg base N qual (defScope st) f cdv A outer s H E).nox (defBody st) t/\t { nx:=fun _ H'=>Q .non H',rt:=Q } (start N vs) H):FnOk P w K mg base CX0 (k+1) f fd ps sp:=by
  obtain⟨oc,od,kV,doc,pm,an,cdv,ct,osl,rfl,lk,hcd⟩:=F.ex
  refine fn_of lk hcd S len fun A outer s H vs Q E hr hsp=>?_
  obtain⟨t,h,q⟩:=hbody cdv A outer s H vs Q E hr hsp
  exact⟨t,h.nox,q⟩
/-- how its arguments bind (no defaults):h is «fun _ _ _ _ _ _ us hl=>match us,hl with | [_,_],_=>rfl»,one _ a parameter -/
theorem Fun.binds {x qual:Str}{st:Stmt}{f:Addr}{fd:FuncData}{ps:List Str}(F:Fun K x qual st f fd)
    (h:∀(kV doc pm:Value)(an:Option Addr)(cdv ct:Value)(us:List Value),us.length=ps.length->bindArgs (W.fnOf x qual (defArgs st) (defBody st) (defScope st) .none kV doc pm an cdv ct) ⟨us, []⟩=pure (ps.zip us)):Binds K fd ps []:=by
  obtain⟨oc,od,kV,doc,pm,an,cdv,ct,osl,rfl,lk,hcd⟩:=F.ex
  exact .all (h kV doc pm an cdv ct)
theorem fun_mk {x qual:Str}{st:Stmt}{f:Addr}{oc:Value}{od an:Option Addr}{osl:Array (Option Value)}{kV doc pm cdv ct:Value}(l:K.lookup f=some ⟨oc,od,.func (W.fnOf x qual (defArgs st) (defBody st) (defScope st) .none kV doc pm an cdv ct),osl⟩)
    (c:W.codeIn K cdv qual=true) (k:W.keepIn K (.ref f)=true):Fun K x qual st f (W.fnOf x qual (defArgs st) (defBody st) (defScope st) .none kV doc pm an cdv ct):=⟨⟨oc,od,kV,doc,pm,an,cdv,ct,osl,rfl,l,c⟩,k⟩
end
theorem hu_of {A:Around}{k:Nat}(hr:Room k A):A.units+1<cLine:=Y5 (Nat.add_le_add_left (by decide:1<=64) _) hr.units
theorem small1000 {n:Nat}(h:n<=1000):n<sizeLine:=Y5 h (by decide)

/-! ### expressions in short:the name that stands in the i-th slot -/
section
variable {X:Cx}
theorem pv (i:Nat){x:Str}{pos:Pos}(hN:X.N[i]? =some x:=by rfl)(hv:Vis X.env.scope x:=by first | exact Or.inl rfl | exact Or.inr (Or.inl rfl) | exact Or.inr (Or.inr rfl))(hd:(x == ("__debug__":Str))=false:=by decide)
    (hcd:(x == ("__classdict__":Str))=false:=by decide):PE X (.Name x pos) (tVar i):=pe_var hN hv hd hcd
end

/-! ### tests -/
theorem iteF {A B:Prop}(h:B):if false=true then A else B:=by
  rw[if_neg Ym]
  exact h
theorem iteT {A B:Prop}(h:A):if true=true then A else B:=by
  rw[if_pos rfl]
  exact h
theorem ite2 {c A B:Prop}[Decidable c](h1:c->A)(h2:¬ c->B):if c then A else B:=by
  by_cases h:c
  · rw[if_pos h]
    exact h1 h
  · rw[if_neg h]
    exact h2 h
/-! ### heaps -/
/-- all that was tracked is as it was -/
def Same (H H':Hp):Prop:=∀b o,H b=some o->H' b=some o
theorem Same.refl (H:Hp):Same H H:=fun _ _ h=>h
theorem Same.trans {H H1 H2:Hp}(a:Same H H1)(b:Same H1 H2):Same H H2:=fun c o h=>b c o (a c o h)
theorem Same.seq {K:W.Frag}{H H':Hp}{a:Addr}{xs:List V}(e:Same H H')(h:SqL K H a xs):SqL K H' a xs:=by
  rcases h with (h | ⟨o,h⟩) | h
  · exact .inl (.inl (e _ _ h))
  · exact .inl (.inr ⟨o,e _ _ h⟩)
  · exact .inr h

end L2

/-! MORE RULES over the layer:great ints,bit_length,isinstance,min,max .. -/
namespace L2
open PySem PySem.Spec PyProof.Rows
theorem bt_len:bootBuiltins "len"=some (.builtin "len"):=by decide +kernel
theorem bt_max:bootBuiltins "max"=some (.builtin "max"):=by decide +kernel
theorem bt_isinstance:bootBuiltins "isinstance"=some (.builtin "isinstance"):=by decide +kernel
theorem bt_list:bootBuiltins "list"=some (.type "list"):=by decide +kernel
theorem bt_str:bootBuiltins "str"=some (.type "str"):=by decide +kernel
theorem bt_int:bootBuiltins "int"=some (.type "int"):=by decide +kernel
/-! ### bits of a natural number -/
theorem bits_leI {i:Int}{n:Nat}(h:i.natAbs<2 ^ n):Builtin.Int.intBits i<=n:=by
  unfold Builtin.Int.intBits
  split
  · exact YO _
  · rename_i h0
    have h1:i.natAbs≠0:=by
      intro q
      apply h0
      have:i=0:=by omega
      subst this;rfl
    exact(Nat.log2_lt h1).mpr h
section
variable {X:Cx}
def CMulB (i j:Int):Prop:=i.natAbs<2 ^ 4000/\j.natAbs<2 ^ 4000
theorem CMulB.ok {i j:Int}(h:CMulB i j):IntMulOk i j:=by
  unfold IntMulOk
  have h1:=bits_leI h.1
  have h2:=bits_leI h.2
  have h3:Builtin.Int.intTooBig ((Builtin.Int.intBits i:Int)+(Builtin.Int.intBits j:Int))=false:=by
    unfold Builtin.Int.intTooBig
    apply Ys
    have:(8000:Int)<=bitsLine:=by decide
    omega
  simp only[h3,Bool.and_false]
  decide
theorem op_mulB:OpR X (binaryOp .Mult) (rI CMulB fun i j=> .int (i*j)):=opI fun _ _ _ _ _ _ _ hc q=>mul_int q hc.ok
/-- isinstance(x,C),C one class -/
def clsV:V->Option Value
  |.ref a=>some (.ref a)
  |.ty n=>some (.type n)
  |_=>none
theorem clsV_is {c:V}{cv u:Value}(e:clsV c=some cv)(r:RelV c u):u=cv:=by
  cases c <;> simp only[clsV]at e <;> first | (cases e;exact r) | cases e
end
section
variable {K:W.Frag}
end
/-! ### cuts:what is known in between -/
section
variable {X:Cx}{e:Expr}{te:TE}{st:Stmt}{ts:TS}
def tCut (t:TE):TE:=fun σ H Q=>∃P:VK,t σ H P/\∀x H',P x H'->Q x H'
theorem pe_cut (h:PE X e te):PE X e (tCut te):=by
  intro pins s σ H Q I hw
  obtain⟨P,h1,h2⟩:=hw
  exact thn (h pins s σ H P I h1) fun v s1 ⟨x,H1,I1,r,q⟩=>⟨x,H1,I1,r,h2 x H1 q⟩
def tCutS (t:TS):TS:=fun D σ H=>∃N:St->Hp->Prop,t { D with nx:=N } σ H/\∀σ' H',N σ' H'->D.nx σ' H'
theorem ps_cut (h:PS X st ts):PS X st (tCutS ts):=by
  intro pins s σ H D I hw
  obtain⟨N,h1,h2⟩:=hw
  refine thn (h pins s σ H { D with nx:=N } I h1) fun f s1 q=>?_
  cases f with
  |next=>obtain⟨σ',H',I',q⟩:=q;exact⟨σ',H',I',h2 σ' H' q⟩
  |ret v=>exact q
  |brk=>exact q
  |cont=>exact q
end
theorem dec_true {p:Prop}[Decidable p](h:decide p=true):p:=Y3 h
theorem dec_false {p:Prop}[Decidable p](h:¬ decide p=true):¬ p:=fun q=>h (Yw q)
theorem big_of {z:Int}{n:Nat}(h:z.natAbs<2 ^ n)(hn:n<=4000:=by decide):z.natAbs<2 ^ 4000:=Yv h (Nat.pow_le_pow_right (by decide) hn)
theorem big64 {z:Int}(h0: -18446744073709551616<z)(h1:z<18446744073709551616):z.natAbs<2 ^ 4000:=big_of (n:=64) (by omega)
/-! ### the script's draw -/
end L2

/-! AN EXCEPTION ON ITS WAY,ITS DICT KEPT:the stations of a flight,with what the object's own dict is. -/
namespace L2
open PySem PySem.Spec PyProof.Rows
theorem dict_mapF (g:Array Value->Array Value)(o:Obj):(Obj.mapFields g o).dict=o.dict:=by
  obtain⟨c,d,x,sl⟩:=o
  cases x <;> rfl
/-- e is in flight:its class,its args,its dict,the frame that its last entry names -/
def TrD (h B:Heap)(e:Addr)(k a0:Value)(od:Option Addr)(fl:Value):Prop:=
  ∃oe vs T oT ts,(h.get? e=some oe/\oe.cls=k/\oe.dict=od/\oe.data= .fields vs)/\(vs[0]? =some a0/\vs[1]? =some (.ref T))/\(B.get? T=none/\T≠e)/\h.get? T=some oT/\oT.data= .fields ts/\ts[3]? =some fl
def FlyD (B:Heap)(l:List Env)(e:Addr)(k a0:Value)(od:Option Addr)(h:Heap):Prop:=(B.StaysIn h/\B.get? e=none)/\h.FunFrames B l/\TrD h B e k a0 od .none
def HeldD (B:Heap)(l:List Env)(e:Addr)(k a0:Value)(od:Option Addr)(L:Addr)(h:Heap):Prop:=(B.StaysIn h/\B.get? e=none)/\h.FunFrames B l/\TrD h B e k a0 od (rawInt L)
theorem FlyD.obj {B h:Heap}{l:List Env}{e:Addr}{k a0:Value}{od:Option Addr}(x:FlyD B l e k a0 od h):∃oe vs,h.get? e=some oe/\oe.cls=k/\oe.dict=od/\oe.data= .fields vs:=by
  obtain⟨_,_,oe,vs,_,_,_,⟨q1,q2,q3,q4⟩,_⟩:=x
  exact⟨oe,vs,q1,q2,q3,q4⟩
theorem FlyD.tail {B h:Heap}{env:Env}{l:List Env}{e:Addr}{k a0:Value}{od:Option Addr}(x:FlyD B (env::l) e k a0 od h):FlyD B l e k a0 od h:=
  let ⟨a,⟨_,_,b⟩,c⟩:=x;⟨a,b,c⟩
section
variable {M:Model}{A:Around}{E:Value->Shared->Prop}{s:Shared}{B:Heap}{env:Env}{outer l:List Env}{L e:Addr}{k a0:Value}{od:Option Addr}
/-- one more entry is put at the head of the exception's traceback -/
theorem entryD {oe:Obj}{vs:Array Value}{hd0:Value}{nxt:Bool}{Q:Unit->Shared->Prop}(fr:A.frames=some (env::outer))(ff:s.heap.FunFrames B (env::outer))(fL:env.frame=some L)(st:B.StaysIn s.heap/\B.get? e=none)
    (at_:s.heap.get? e=some oe) (dat:oe.data= .fields vs) (sz:1<vs.size) (arg:vs[0]? =some a0)
    (next:∀h',HeldD B (env::outer) e oe.cls a0 oe.dict L h'->s.heap.UpToSlots h'->Q () { s with heap:=h' }) :
    wpAny M A (do let a<-frameOf env;let pl<-entryPlaceOf L nxt;let b<-EntryCells.newEntry hd0 a .none (rawInt L) .none pl;setField (.ref e) 1 b) Q E s:=by
  have eF:e∉frs (env::outer):=fun z=>by
    obtain⟨_,o,q,n⟩:=ff.mem z
    cases at_.symm.trans q
    exact n vs dat
  refine Yn (wpAny_frameOf_fun fr ff fL fun h1 so=>Yn (wpAny_entryPlaceOf fun pl isp=>?_))
  unfold EntryCells.newEntry newFields
  refine Yn (wpAny_newObj_type ?_ (isp.sizeOk5 _ _ _ _ _))
  generalize htb:([hd0,Value.ref L,Value.none,rawInt L,Value.none]++(if pl.isEmpty then List.replicate 6 Value.none else pl)).toArray=tb
  have tb3:tb[3]? =some (rawInt L):=by
    subst htb
    rcases isp with rfl | ⟨_,_,_,_,_,_,_,rfl⟩ <;> simp
  clear htb isp
  have e1:h1.get? e=some oe:=(so.2.1 e eF).trans at_
  have B1:B.StaysIn h1:=fun b o q=>(so.2.1 b fun z=>by have:=(ff.mem z).1;rw[q]at this;cases this).trans (st.1 b o q)
  have tE:h1.objs.size≠e:=Nat.ne_of_gt (Yt e1)
  have e2:=Yh (h:=h1) { cls:= .type "traceback",dict:=none,data:= .fields tb } e1
  refine XT e2 dat sz (next _ ?_ ?_)
  all_goals
    have keep:∀b o,b≠e->h1.get? b=some o->((h1.push { cls:= .type "traceback",dict:=none,data:= .fields tb }).update e (Obj.mapFields (·.setIfInBounds 1 (Value.ref h1.objs.size)))).get? b=some o:=fun b o n q=>by
      rw[Y4 _ _ (Ne.symm n)]
      exact Yh _ q
    have apart:∀b o,s.heap.get? b=some o->(∀ws,o.data≠ .fields ws)->b≠e:=fun b o q n z=>by
      subst z
      cases at_.symm.trans q
      exact n vs dat
  · have d3:=XB dat (·.setIfInBounds 1 (Value.ref h1.objs.size))
    have e3:=Heap.get?_update_self (Obj.mapFields (·.setIfInBounds 1 (Value.ref h1.objs.size))) e2 (Obj.isFreed_of_fields d3)
    have t3:=(Y4 (h1.push { cls:= .type "traceback",dict:=none,data:= .fields tb }) (Obj.mapFields (·.setIfInBounds 1 (Value.ref h1.objs.size))) (Ne.symm tE)).trans (YB h1 rfl)
    refine⟨⟨fun b o q=>keep b o (fun z=>by rw[z,st.2]at q;cases q) (B1 b o q),st.2⟩,ff.of_keeps fun b o q n=>?_,_,_,h1.objs.size,_,_,⟨e3,Obj.cls_mapFields _ _,dict_mapF _ _,d3⟩,⟨?_,by simp[sz]⟩,⟨B1.fresh,tE⟩,t3,rfl,tb3⟩
    · obtain⟨sl,q1⟩:=so.2.2 b o q
      exact⟨_,keep b _ (apart b o q n) q1,rfl⟩
    · rw[Array.getElem?_setIfInBounds_ne (by decide)]
      exact arg
  · intro b o q n
    obtain⟨sl,q1⟩:=so.2.2 b o q
    exact⟨sl,keep b _ (apart b o q n) q1⟩
/-- the last entry lets its frame go -/
theorem landAnyD {fl:Value}{Q:Unit->Shared->Prop}(st:B.StaysIn s.heap/\B.get? e=none)(ff:s.heap.FunFrames B l)(tr:TrD s.heap B e k a0 od fl)
    (next:∀h',FlyD B l e k a0 od h'->s.heap.UpToSlots h'->Q () { s with heap:=h' }):wpAny M A (setFlight (.ref e) none) Q E s:=by
  obtain⟨oe,vs,T,oT,ts,⟨q1,q2,q3,q4⟩,⟨q5,q6⟩,⟨q7,q8⟩,q9,q10,q11⟩:=tr
  have sz:3<ts.size:=(YW.mp q11).1
  have off:∀b,b≠T->(s.heap.update T (Obj.mapFields (·.setIfInBounds 3 ((none:Option Addr).elim Value.none fun f=>rawInt f)))).get? b=s.heap.get? b:=fun b n=>Y4 _ _ (Ne.symm n)
  have apart:∀b o,s.heap.get? b=some o->(∀ws,o.data≠ .fields ws)->b≠T:=fun b o q n z=>by
    subst z
    cases q9.symm.trans q
    exact n ts q10
  unfold setFlight
  refine Yn (XD q1 q4 q6 ?_)
  rw[if_pos (show (Value.ref T != Value.none)=true by simp)]
  refine XT q9 q10 sz (next _ ⟨⟨fun b o q=>(off b fun z=>by rw[z,q7]at q;cases q).trans (st.1 b o q),st.2⟩,ff.of_keeps fun b o q n=>⟨o,(off b (apart b o q n)).trans q,rfl⟩,?_⟩ fun b o q n=>⟨o.slots,(off b (apart b o q n)).trans q⟩)
  exact⟨oe,vs,T,_,_,⟨(off e (Ne.symm q8)).trans q1,q2,q3,q4⟩,⟨q5,q6⟩,⟨q7,q8⟩,Heap.get?_update_self _ q9 (Obj.isFreed_of_fields (XB q10 _)),XB q10 _,by simp[sz]⟩
theorem landD {Q:Unit->Shared->Prop}(x:HeldD B l e k a0 od L s.heap)(next:∀h',FlyD B l e k a0 od h'->s.heap.UpToSlots h'->Q () { s with heap:=h' }):wpAny M A (setFlight (.ref e) none) Q E s:=
  landAnyD x.1 x.2.1 x.2.2 next
theorem landAgainD {Q:Unit->Shared->Prop}(x:FlyD B l e k a0 od s.heap)(next:∀h',FlyD B l e k a0 od h'->s.heap.UpToSlots h'->Q () { s with heap:=h' }):wpAny M A (setFlight (.ref e) none) Q E s:=
  landAnyD x.1 x.2.1 x.2.2 next
/-- the frame is noted,a second time or later -/
theorem lookOnD {Q:Unit->Shared->Prop}(fr:A.frames=some (env::outer))(fL:env.frame=some L)(x:FlyD B (env::outer) e k a0 od s.heap)
    (next:∀h',HeldD B (env::outer) e k a0 od L h'->s.heap.UpToSlots h'->Q () { s with heap:=h' }):wpAny M A (noteFrame (.ref e) env) Q E s:=by
  obtain⟨st,ff,oe,vs,T,oT,ts,⟨q1,q2,q3,q4⟩,⟨q5,q6⟩,⟨q7,q8⟩,q9,q10,q11⟩:=x
  subst q2 q3
  have off:∀b,b≠T->(s.heap.update T (Obj.mapFields (·.setIfInBounds 3 Value.none))).get? b=s.heap.get? b:=fun b n=>Y4 _ _ (Ne.symm n)
  have apart:∀b o,s.heap.get? b=some o->(∀ws,o.data≠ .fields ws)->b≠T:=fun b o q n z=>by
    subst z
    cases q9.symm.trans q
    exact n ts q10
  unfold noteFrame
  simp only[fL]
  refine Yn (XD q1 q4 q6 ?_)
  rw[if_pos (show (Value.ref T != Value.none)=true by simp)]
  refine Yn (XD q9 q10 q11 ?_)
  rw[if_neg (show ¬ ((Value.none == rawInt L)=true) by simp[rawInt])]
  refine Yn (XT q9 q10 (YW.mp q11).1 ?_)
  refine entryD (B:=B) fr (ff.of_keeps fun b o q n=>⟨o,(off b (apart b o q n)).trans q,rfl⟩) fL ⟨fun b o q=>(off b fun z=>by rw[z,q7]at q;cases q).trans (st.1 b o q),st.2⟩ ((off e (Ne.symm q8)).trans q1) q4 (YW.mp q6).1 q5 fun h' x1 x2=>?_
  exact next h' x1 fun b o q n=>x2 b o ((off b (apart b o q n)).trans q) n
/-- it leaves the frame in which it was raised -/
theorem leaveFirstD {oe:Obj}{vs:Array Value}{Q:Unit->Shared->Prop}(fr:A.frames=some (env::outer))(fL:env.frame=some L)(st:B.StaysIn s.heap/\B.get? e=none)(ff:s.heap.FunFrames B (env::outer))
    (at_:s.heap.get? e=some oe) (dat:oe.data= .fields vs) (arg:vs[0]? =some a0) (bare:vs[1]? =some .none) (next:∀h',FlyD B outer e oe.cls a0 oe.dict h'->s.heap.UpToSlots h'->Q () { s with heap:=h' }) :
    wpAny M A (leaving env (.ref e)) Q E s:=by
  unfold leaving noteFrame
  simp only[fL]
  refine Yn (Yn (XD at_ dat bare ?_))
  rw[if_neg (by decide)]
  refine entryD (B:=B) fr ff fL st at_ dat (YW.mp bare).1 arg fun h1 x1 x2=>?_
  exact landD x1 fun h2 x3 x4=>next h2 x3.tail (x2.trans x4)
/-- it leaves another one -/
theorem leaveOnD {Q:Unit->Shared->Prop}(fr:A.frames=some (env::outer))(fL:env.frame=some L)(x:FlyD B (env::outer) e k a0 od s.heap)
    (next:∀h',FlyD B outer e k a0 od h'->s.heap.UpToSlots h'->Q () { s with heap:=h' }):wpAny M A (leaving env (.ref e)) Q E s:=by
  unfold leaving
  exact Yn (lookOnD fr fL x fun h1 x1 x2=>landD x1 fun h2 x3 x4=>next h2 x3.tail (x2.trans x4))
end
end L2

/-! EXCEPTIONS over the layer:raised by a def of the text (own classes without __init__),handed on,caught by a try. -/
namespace L2
open PySem PySem.Spec PyProof.Rows
/-- what a class of the text that stands under ValueError is,read off the written part -/
theorem excObj {K:W.Frag}{h:Heap}{C:Addr}{bmB:List Value}{newId:String}(kin:K.In h)(hq:W.excIn K C bmB newId=true) :
    ∃bm N nm qn bs hdct sn sub ab col dd k0 k1 k2 k3 k5 mN,h.get? C=some (excClassObj nm qn C N bs bm hdct sn sub ab col dd k0 k1 k2 k3 k5 newId)/\h.Ns N mN/\mN "__init__"=none/\OwnTail h bmB bm:=by
  unfold W.excIn at hq
  split at hq
  · rename_i dd cdt slots look
    split at hq
    · rename_i C1 bm j0 j1 j2 j3 nid j5 em es
      simp only[YT,Xo,Bool.not_eq_true']at hq
      obtain⟨⟨⟨⟨⟨e1,e2⟩,e3⟩,e4⟩,e5⟩,e6⟩:=hq
      subst e1 e2
      obtain⟨c1,c2,c3,c4,c5,c6,c7,c8,c9,c10,c11⟩:=cdt
      dsimp only at em e3 e5 e6
      subst em e3
      have esl:slots=#[j0,j1,j2,j3,some (.builtin nid),j5]:=by
        cases slots with
        | mk l=>
          have:l=_:=es
          rw[this]
      subst esl
      exact⟨bm,c4,c1,c5,c2,c6,c7,c8,c9,c10,dd,j0,j1,j2,j3,j5,_,kin _ _ look,.of_isNs (W.isNs_of_in kin e5),W.nsMap_none_of_in kin e5 e6,W.tail_of_in kin e4⟩
    · cases hq
  · cases hq
/-- a tracked object is there -/
theorem ObjOk.there {P:Program}{w:World}{H:Hp}{h:Heap}{a:Addr}{o:HO}(x:ObjOk P w H h a o):∃ob,h.get? a=some ob:=by
  cases o with
  |lst xs=>obtain⟨_,_,_,_,e⟩:=x;exact⟨_,e⟩
  |tup xs=>obtain⟨_,_,_,ob,e,_⟩:=x;exact⟨_,e⟩
  |dK kvs=>obtain⟨_,_,_,_,o,_,_,e,_⟩:=x;exact⟨_,e⟩
  |dT kvs=>obtain⟨_,_,_,_,o,_,_,e,_⟩:=x;exact⟨_,e⟩
  |set S n=>obtain⟨o,_,_,_,e,_⟩:=x;exact⟨_,e⟩
  |ins C dx fs=>obtain⟨_,_,_,e,_⟩:=x;exact⟨_,e⟩
  |own y=>exact x
  |xd fs=>obtain⟨_,⟨_,_,_,e,_⟩,_⟩:=x;exact⟨_,e⟩
  |rng lo hi=>obtain⟨_,_,_,e⟩:=x;exact⟨_,e⟩
  |frz ob u=>obtain⟨e,_⟩:=x;exact⟨_,e⟩
  |tbl ps=>exact⟨_,(show h.get? a=some _ from x)⟩
  |met f y=>exact⟨_,(show h.get? a=some _ from x)⟩
  |ext φ=>obtain⟨_,e,_⟩:=x;exact e
/-- an exception flies:a its object,B all else that stands still -/
structure Fly (P:Program)(w:World)(outer:List Env)(H H':Hp)(s s':Shared)(a t:Addr)(cls:Value)(od:Option Addr)(B:Heap):Prop where
  os:s'.os=s.os
  bare:AllBare s'.gens
  un:Un (frs outer) [] H H' s.heap s'.heap
  hok:HOk P w H' s'.heap
  new:H' a=none
  fly:FlyD B outer a cls (.ref t) od s'.heap
  old:∀b o,s.heap.get? b=some o->H b=none->b∉frs outer->B.get? b=some o
  trk:∀b u,H' b=some u->∃o,s'.heap.get? b=some o/\B.get? b=some o
  all:∀b o,s.heap.get? b=some o->b∉frs outer->∃o',B.get? b=some o'
def CXR (P:Program)(w:World):CXT:=fun outer H s E e s'=>∃(a t:Addr)(cls:Value)(od:Option Addr)(H':Hp)(B:Heap),e= .ref a/\Fly P w outer H H' s s' a t cls od B/\E cls od H'
/-- how the tracked objects and the old ones come over from B -/
theorem HOk.fromB {P:Program}{w:World}{H:Hp}{h h' B:Heap}(ok:HOk P w H h)(trk:∀b u,H b=some u->∃o,h.get? b=some o/\B.get? b=some o)(st:B.StaysIn h'):HOk P w H h':=fun a u q=>
  (ok a u q).stay (fun b o hb e=>by
    have:∃v,H b=some v:=by
      rcases hb with rfl | hb
      · exact⟨u,q⟩
      · exact⟨_,hb⟩
    obtain⟨v,hv⟩:=this
    obtain⟨o',e1,e2⟩:=trk b v hv
    rw[e]at e1;cases e1
    exact st b o e2) (fun _ z=>z) fun _ _ z=>z
section
variable {P:Program}{w:World}{K:W.Frag}{mg:Str->Option Value}{base:Heap}{N:List Str}{qual:Str}{scope:Scope}{f:Addr}{cd:Value}{A:Around}{outer:List Env}{s:Shared}{H:Hp}{E:XK}
/-- the frames of the callers lie below this one -/
theorem notFrame {pins:List (Addr×Obj)}{σ:St}{H1:Hp}{s1:Shared}{CX:CXT}(I:Inv (cxOf CX P w K mg base N qual scope f cd A outer s H E) pins σ H1 s1){b:Addr}{o:Obj}(e:s.heap.get? b=some o)(n:b∉frs outer) :
    b∉frs (cxOf CX P w K mg base N qual scope f cd A outer s H E).stack:=fun hb=>by
  have hb':=I.stkSub b hb
  rcases Yr.mp hb' with z | z
  · have lt:=Yt e
    have z':b=s.heap.objs.size:=z
    rw[z']at lt
    exact YH _ lt
  · exact n z
/-- an exception e,made and not tracked,leaves the def -/
theorem raise_leavesD {pins:List (Addr×Obj)}{σ:St}{H1:Hp}{s1:Shared}{e t:Addr}{oe:Obj}{vs:Array Value}(I:Inv (cxOf (CXR P w) P w K mg base N qual scope f cd A outer s H E) pins σ H1 s1)
    (he:s1.heap.get? e=some oe) (hd:oe.data= .fields vs) (h0:vs[0]? =some (.ref t)) (h1:vs[1]? =some .none) (new:s.heap.get? e=none) (free:H1 e=none) (hE:E oe.cls oe.dict H1) :
    (cxOf (CXR P w) P w K mg base N qual scope f cd A outer s H E).xe (.ref e) s1:=by
  have fr:=I.ok.frames
  have ff:=I.stack
  generalize hst:(cxOf (CXR P w) P w K mg base N qual scope f cd A outer s H E).stack=stk at fr ff
  have hst':stk=(cxOf (CXR P w) P w K mg base N qual scope f cd A outer s H E).env::outer:=hst.symm
  have nfr:e∉frs stk:=fun z=>by
    obtain⟨_,o,q,n⟩:=YY ff z
    cases he.symm.trans q
    exact n vs hd
  have hin:∀env∈stk,∀a,env.frame=some a->a∈e::frs stk:=fun env h a ha=>Yf _ (YN.mpr ⟨env,h,ha⟩)
  have mk:∀b o,s1.heap.get? b=some o->b∉frs stk->b≠e->(W.hideAll s1.heap (e::frs stk)).get? b=some o:=fun b o q n z=>W.hideAll_get _ q fun m=>by
    rcases Yr.mp m with m | m
    · exact z m
    · exact n m
  have nf0:∀b o,s.heap.get? b=some o->b∉frs outer->b∉frs stk:=fun b o q n=>by rw[<-hst];exact notFrame I q n
  have ne0:∀b o,s.heap.get? b=some o->b≠e:=fun b o q z=>by rw[z,new]at q;cases q
  refine leaveFirstD (B:=W.hideAll s1.heap (e::frs stk)) (show _=some ((cxOf (CXR P w) P w K mg base N qual scope f cd A outer s H E).stack) from hst▸fr) rfl ⟨fun b o q=>W.of_hideAll _ q,W.hideAll_none _ (Yo ..)⟩ (show Heap.FunFrames _ _ (cxOf (CXR P w) P w K mg base N qual scope f cd A outer s H E).stack from by rw[hst];exact W.funFrames_hide ff hin) he hd h0 h1 fun h2 x1 x4=>?_
  have old:∀b o,s.heap.get? b=some o->H b=none->b∉frs outer->(W.hideAll s1.heap (e::frs stk)).get? b=some o:=fun b o q n nf=>
    mk b o (I.base.keep b o q n nf (fun z=>by cases z)) (nf0 b o q nf) (ne0 b o q)
  have trk0:∀b u,H1 b=some u->∃o,s1.heap.get? b=some o/\(W.hideAll s1.heap (e::frs stk)).get? b=some o:=fun b u q=>by
    obtain⟨o,eo⟩:=(I.hok b u q).there
    refine⟨o,eo,mk b o eo (fun z=>?_) fun z=>by rw[z,free]at q;cases q⟩
    rw[I.stkFree b (by rw[hst];exact z)]at q
    cases q
  have slots:∀b o,s1.heap.get? b=some o->b∈frs outer->∃sl,h2.get? b=some { o with slots:=sl }:=fun b o q hb=>by
    have hm:b∈frs stk:=by
      obtain⟨env,h,hf⟩:=YN.mp hb
      rw[hst']
      exact YN.mpr ⟨env,Yf _ h,hf⟩
    obtain⟨_,o',ho',nf⟩:=YY ff hm
    rw[q]at ho';cases ho'
    exact x4 b o q nf
  refine⟨e,t,oe.cls,oe.dict,H1,_,rfl,⟨I.os,I.bare,⟨?_,?_,?_,?_,?_,?_,?_⟩,HOk.fromB I.hok trk0 x1.1.1,free,x1,old,?_,?_⟩,hE⟩
  · exact fun b o q n nf _=>x1.1.1 b o (old b o q n nf)
  · intro b o q n hb nx
    obtain⟨sl,q1⟩:=I.base.slot b o q n hb nx
    obtain⟨sl',q2⟩:=slots b _ q1 hb
    exact⟨sl',q2⟩
  · exact fun b o q n nx=>I.base.free b o q n nx
  · intro b o q nx
    obtain⟨o',q1⟩:=I.base.there b o q nx
    by_cases hb:b∈frs outer
    · obtain⟨sl',q2⟩:=slots b _ q1 hb
      exact⟨_,q2⟩
    · exact⟨o',x1.1.1 b o' (mk b o' q1 (nf0 b o q hb) (ne0 b o q))⟩
  · exact I.base.tups
  · exact I.base.frzs
  · exact I.base.tbls
  · intro b u q
    obtain⟨o,_,e2⟩:=trk0 b u q
    exact⟨o,x1.1.1 b o e2,e2⟩
  · intro b o q nf
    obtain⟨o',q1⟩:=I.base.there b o q (fun z=>by cases z)
    exact⟨o',mk b o' q1 (nf0 b o q nf) (ne0 b o q)⟩
theorem raise_leaves {pins:List (Addr×Obj)}{σ:St}{H1:Hp}{s1:Shared}{h':Heap}{e:Addr}{cls:Value}{vs:List Value}(I:Inv (cxOf (CXR P w) P w K mg base N qual scope f cd A outer s H E) pins σ H1 s1)
    (hx:Heap.MadeExcOf s1.heap h' e cls vs) (hE:E cls none H1):(cxOf (CXR P w) P w K mg base N qual scope f cd A outer s H E).xe (.ref e) { s1 with heap:=h' }:=by
  obtain⟨t,he,_,_⟩:=hx.there
  have J:Inv (cxOf (CXR P w) P w K mg base N qual scope f cd A outer s H E) pins σ H1 { s1 with heap:=h' }:=I.kept hx.keeps
  refine raise_leavesD J (t:=t) he rfl rfl rfl ?_ ?_ hE
  · cases q:s.heap.get? e with
    |none=>rfl
    | some o=>
      obtain⟨o',q1⟩:=I.base.there e o q (fun z=>by cases z)
      rw[hx.new]at q1;cases q1
  · cases q:H1 e with
    |none=>rfl
    | some u=>
      obtain⟨o,eo⟩:=(I.hok e u q).there
      rw[hx.new]at eo;cases eo
/-- an exception of a callee is handed on -/
theorem passR {E1:XK}(hE:∀cls od H',E1 cls od H'->E cls od H'):Passes (CXR P w) (cxOf (CXR P w) P w K mg base N qual scope f cd A outer s H E) E1:=by
  intro pins σ H1 s1 ev s2 I h
  obtain⟨a,t,cls,od,H',B,rfl,F,q⟩:=h
  have fr:=I.ok.frames
  refine leaveOnD fr rfl F.fly fun h2 x1 x2=>?_
  have old:∀b o,s.heap.get? b=some o->H b=none->b∉frs outer->B.get? b=some o:=fun b o e n nf=>
    F.old b o (I.base.keep b o e n nf (fun z=>by cases z)) (I.base.free b o e n (fun z=>by cases z)) (notFrame I e nf)
  have slots:∀b o,s2.heap.get? b=some o->b∈frs outer->∃sl,h2.get? b=some { o with slots:=sl }:=fun b o e hb=>by
    have hm:b∈frs (cxOf (CXR P w) P w K mg base N qual scope f cd A outer s H E).stack:=YN.mpr (by
      obtain⟨env,he,hf⟩:=YN.mp hb
      exact⟨env,Yf _ he,hf⟩)
    obtain⟨_,o',ho',nf⟩:=YY F.fly.2.1 hm
    rw[e]at ho';cases ho'
    exact x2 b o e nf
  have hst:∀b,b∈frs outer->b∈frs (cxOf (CXR P w) P w K mg base N qual scope f cd A outer s H E).stack:=fun b hb=>YN.mpr (by
      obtain⟨env,he,hf⟩:=YN.mp hb
      exact⟨env,Yf _ he,hf⟩)
  refine⟨a,t,cls,od,H',B,rfl,⟨F.os.trans I.os,F.bare,⟨?_,?_,?_,?_,?_,?_,?_⟩,HOk.fromB F.hok F.trk x1.1.1,F.new,x1,old,?_,?_⟩,hE _ _ _ q⟩
  · exact fun b o e n nf _=>x1.1.1 b o (old b o e n nf)
  · intro b o e n hb nx
    obtain⟨sl,q1⟩:=I.base.slot b o e n hb nx
    obtain⟨sl1,q2⟩:=F.un.slot b _ q1 (I.base.free b o e n nx) (hst b hb) (fun z=>by cases z)
    obtain⟨sl2,q3⟩:=slots b _ q2 hb
    exact⟨sl2,q3⟩
  · exact fun b o e n nx=>by
      obtain⟨o1,q1⟩:=I.base.there b o e nx
      exact F.un.free b o1 q1 (I.base.free b o e n nx) (fun z=>by cases z)
  · intro b o e nx
    obtain⟨o1,q1⟩:=I.base.there b o e nx
    obtain⟨o2,q2⟩:=F.un.there b o1 q1 (fun z=>by cases z)
    by_cases hb:b∈frs outer
    · obtain⟨sl',q3⟩:=slots b _ q2 hb
      exact⟨_,q3⟩
    · obtain⟨o3,q3⟩:=F.all b o1 q1 (notFrame I e hb)
      exact⟨o3,x1.1.1 b o3 q3⟩
  · exact fun b xs z=>F.un.tups b xs (I.base.tups b xs z)
  · exact fun b o u z=>F.un.frzs b o u (I.base.frzs b o u z)
  · intro b ps z
    obtain⟨m1,z1⟩:=I.base.tbls b ps z
    obtain⟨m2,z2⟩:=F.un.tbls b _ z1
    exact⟨m1++m2,by rw[<-XN];exact z2⟩
  · intro b u z
    obtain⟨o,_,e2⟩:=F.trk b u z
    exact⟨o,x1.1.1 b o e2,e2⟩
  · intro b o e nf
    obtain⟨o1,q1⟩:=I.base.there b o e (fun z=>by cases z)
    exact F.all b o1 q1 (notFrame I e nf)
end
end L2

/-! raise,try,isinstance of an exception -/
namespace L2
open PySem PySem.Spec PyProof.Rows
section
variable {P:Program}{w:World}{K:W.Frag}{mg:Str->Option Value}{base:Heap}{N:List Str}{qual:Str}{scope:Scope}{f:Addr}{cd:Value}{A:Around}{outer:List Env}{s:Shared}{H:Hp}{E:XK}
def tRaise (C:Addr)(E:XK)(t:TA):TS:=fun _ σ H=>t σ H fun vs H1=>vs.length<=sizeLine/\E (.ref C) none H1
theorem ps_raise {x:Str}{C:Addr}{np cpos pos:Pos}{e₀:Expr}{rest:List Expr}{t:TA}{B newId initId:String}{bmB:List Value}(FB:ExcBaseFacts B newId initId bmB)(hm:mg x=some (.ref C))
    (hq:W.excIn K C bmB newId=true) (ha:PA (cxOf (CXR P w) P w K mg base N qual scope f cd A outer s H E) (e₀::rest) t)
    (hx:Gl (cxOf (CXR P w) P w K mg base N qual scope f cd A outer s H E) x:=by rfl) (hd:(x == ("__debug__":Str))=false:=by decide)
    (he:starEach (e₀::rest) (cxOf (CXR P w) P w K mg base N qual scope f cd A outer s H E).env=(false,eval e₀ (cxOf (CXR P w) P w K mg base N qual scope f cd A outer s H E).env)::starEach rest (cxOf (CXR P w) P w K mg base N qual scope f cd A outer s H E).env:=by rfl)
    (hpl:(backTo cpos (starEach rest (cxOf (CXR P w) P w K mg base N qual scope f cd A outer s H E).env)).any (·.1)=false:=by rfl) :
    PS (cxOf (CXR P w) P w K mg base N qual scope f cd A outer s H E) (.Raise (some (.Call (.Name x np) (e₀::rest) [] cpos)) none pos) (tRaise C E t):=by
  intro pins s1 σ H1 D I hw
  obtain⟨bm,N',nm,qn,bs,hdct,sn,sub,ab,col,dd,k0,k1,k2,k3,k5,mN,hC,hN,hni,T⟩:=excObj I.ok.mod.kin hq
  refine wpAny_Raise_call_subT (C:=C) (nm:=nm) (q:=qn) (N:=N') (bs:=bs) (bm:=bm) (hdct:=hdct) (sn:=sn) (sub:=sub) (ab:=ab) (col:=col) (dd:=dd) (k0:=k0) (k1:=k1) (k2:=k2) (k3:=k3) (k5:=k5) FB (mN:=mN)
    (T.hasType FB.hasBase) (I.ok.hd rfl) (by rw[he];exact hpl) hni (ld_glob I hx hm ⟨rfl,?_⟩ hd)
  have h:=ha cpos pins s1 σ H1 _ I hw
  rw[he]at h ⊢
  exact XO (YL h (fun us s2 ⟨vs,H2,I2,rv,z,q⟩=>⟨rfl,by rw[<-rv.length];exact z,I2.bk _ _ hC,hN.keeps I2.bk,T.keeps I2.bk,fun h' e hx=>raise_leaves I2 hx q⟩) fun _ _ y=>y)
/-- THE RULE for a def that may raise -/
theorem Fun.okR {x qual:Str}{st:Stmt}{f:Addr}{fd:FuncData}{N ps:List Str}{k:Nat}{sp:Sp}(F:Fun K x qual st f fd)(S:FnScope N ps (defScope st))(len:∀vs H Q E,sp vs H Q E->vs.length=ps.length)
    (hbody:∀(cdv:Value)(A:Around)(outer:List Env)(s:Shared)(H:Hp)(vs:List V)(Q:VK)(E:XK),Room k (A.deeper (envOfC qual (defScope st) s.heap.objs.size f cdv))->sp vs H Q E->
      ∃t,PSs (cxOf (CXR P w) P w K mg base N qual (defScope st) f cdv A outer s H E) (defBody st) t/\t { nx:=fun _ H'=>Q .non H',rt:=Q } (start N vs) H):FnOk P w K mg base (CXR P w) (k+1) f fd ps sp:=by
  obtain⟨oc,od,kV,doc,pm,an,cdv,ct,osl,rfl,lk,hcd⟩:=F.ex
  exact fn_of lk hcd S len fun A outer s H vs Q E hr hsp=>hbody cdv A outer s H vs Q E hr hsp
end
/-! ### try -/
section
variable {X:Cx}
/-- a caught exception,as it is tracked in the suite -/
def excO (cls:Value)(a:Addr)(od:Option Addr):HO:= .ext fun h=>∃o vs,h.get? a=some o/\(o.cls=cls/\o.dict=od)/\o.data= .fields vs
theorem land {pins:List (Addr×Obj)}{σ:St}{H1 H':Hp}{s1 s':Shared}{a t:Addr}{cls:Value}{od:Option Addr}{B h6:Heap}(I:Inv X pins σ H1 s1)(F:Fly X.prog X.w X.stack H1 H' s1 s' a t cls od B)
    (fl:FlyD B X.stack a cls (.ref t) od h6) (sm:s'.heap.UpToSlots h6):Inv X pins σ (upd H' a (excO cls a od)) { s' with heap:=h6 }:=by
  obtain⟨oe,vs,ee,ec,eo,ed⟩:=fl.obj
  have neB:∀b o,B.get? b=some o->b≠a:=fun b o e z=>by rw[z,fl.1.2]at e;cases e
  have neF:∀b,b∈frs X.stack->b≠a:=fun b hb z=>by
    obtain⟨_,o,ho,nf⟩:=YY fl.2.1 hb
    rw[z,ee]at ho;cases ho
    exact nf _ ed
  have slots:∀b o,s'.heap.get? b=some o->b∈frs X.stack->∃sl,h6.get? b=some { o with slots:=sl }:=fun b o e hb=>by
    obtain⟨_,o',ho',nf⟩:=YY F.fly.2.1 hb
    rw[e]at ho';cases ho'
    exact sm b o e nf
  have neT:∀b u,H' b=some u->b≠a:=fun b u e z=>by rw[z,F.new]at e;cases e
  have up:∀b u,H' b=some u->upd H' a (excO cls a od) b=some u:=fun b u e=>by rw[upd_ne (neT b u e)];exact e
  refine I.call' (ch:=[]) F.os ⟨?_,?_,?_,?_,?_,?_,?_⟩ ?_ F.bare (fun _ z=>nomatch z)
  · exact fun b o e n nf _=>fl.1.1 b o (F.old b o e n nf)
  · intro b o e n hb nx
    obtain⟨sl,q1⟩:=F.un.slot b o e n hb nx
    obtain⟨sl2,q2⟩:=slots b _ q1 hb
    exact⟨sl2,q2⟩
  · intro b o e n nx
    have z:b≠a:=by
      by_cases hb:b∈frs X.stack
      · exact neF b hb
      · exact neB b o (F.old b o e n hb)
    rw[upd_ne z]
    exact F.un.free b o e n nx
  · intro b o e nx
    by_cases hb:b∈frs X.stack
    · obtain⟨o1,q1⟩:=F.un.there b o e nx
      obtain⟨sl2,q2⟩:=slots b _ q1 hb
      exact⟨_,q2⟩
    · obtain⟨o3,q3⟩:=F.all b o e hb
      exact⟨o3,fl.1.1 b o3 q3⟩
  · exact fun b xs z=>up b _ (F.un.tups b xs z)
  · exact fun b o u z=>up b _ (F.un.frzs b o u z)
  · intro b ps z
    obtain⟨m,z1⟩:=F.un.tbls b ps z
    exact⟨m,up b _ z1⟩
  · intro b u e
    by_cases hb:b=a
    · subst hb
      rw[upd_same]at e
      cases e
      exact⟨⟨oe,vs,ee,⟨ec,eo⟩,ed⟩,⟨oe,ee⟩,fun h1 h2 ⟨o,v,q1,q2,q3⟩ k=>⟨o,v,k o q1,q2,q3⟩⟩
    · rw[upd_ne hb]at e
      refine(HOk.fromB F.hok F.trk fl.1.1 b u e).stay (fun c v _ q=>q) (fun c q=>up c _ q) fun c xs q=>up c _ q
/-- the context of an except suite -/
abbrev Cx.marked (X:Cx)(e:Value):Cx:={ X with A:=X.A.mark (some e),calm:=false,xe:=fun _ _=>False }
theorem Inv.marked {pins:List (Addr×Obj)}{σ:St}{H:Hp}{s:Shared}(I:Inv X pins σ H s)(e:Value):Inv (X.marked e) pins σ H s:=
  ⟨⟨I.ok.mod,I.ok.kind,I.ok.glob,I.ok.blt,I.ok.above,I.ok.inj,I.ok.has,I.ok.cab,(fun z=>nomatch z),I.ok.frames,I.ok.stk,I.ok.exf,I.ok.bs,I.ok.bsz,I.ok.noex,I.ok.exfs,I.ok.funs,I.ok.frf⟩,I.os,I.bare,I.base,I.loc,I.cell,I.free,I.freeC,I.pin,I.hok,I.len⟩
theorem Inv.unmarked {pins:List (Addr×Obj)}{σ:St}{H:Hp}{s:Shared}{e:Value}(ok:X.Ok)(I:Inv (X.marked e) pins σ H s):Inv X pins σ H s:=
  ⟨ok,I.os,I.bare,I.base,I.loc,I.cell,I.free,I.freeC,I.pin,I.hok,I.len⟩
/-- a local name is unbound -/
theorem unbound {M:Model}{A:Around}{E:Value->Shared->Prop}{pins:List (Addr×Obj)}{σ:St}{H:Hp}{s:Shared}{i:Nat}{n:Str}{pos:Pos}{Q:Unit->Shared->Prop}(I:Inv X pins σ H s)(hN:X.N.Nodup)(hi:X.N[i]? =some n)(hk:X.env.scope.names.lookup n=some .local)
    (h:∀s',Inv X pins (σ.set i none) H s'->Q () s'):wpAny M A (do bindName X.env n .none;unbindBehindTheSuite X.env n pos) Q E s:=by
  obtain⟨m,hn,hl⟩:=id I.loc
  have hcls:(X.env.scope.kind == .class || (X.env.scope.kind == .module && X.env.locals != X.env.globals))=false:=by rw[I.ok.kind];rfl
  have hiσ:i<σ.length:=by rw[I.len];exact(Yb.mp hi).1
  refine wpAny_nameGoes_keeps hk hn hcls fun h' v hn' hs=>h _ ?_
  have low:∀b o,X.s₀.heap.get? b=some o->h'.get? b=s.heap.get? b:=fun b o e=>hs.2 b (YM (Yv (Yt e) I.ok.above))
  have other:∀b,b≠X.env.locals->h'.get? b=s.heap.get? b:=fun b hb=>hs.2 b hb
  refine⟨I.ok,I.os,I.bare,⟨fun b o e n hb hx=>(low b o e).trans (I.base.keep b o e n hb hx),fun b o e n hb hx=>?_,I.base.free,fun b o e hx=>?_,I.base.tups,I.base.frzs,I.base.tbls⟩,⟨_,hn',fun j y v' e1 e2 e3=>?_⟩,fun y c e=>?_,I.free,I.freeC,fun p hp=>?_,fun b ob e=>?_,by simpa using I.len⟩
  · obtain⟨sl,e1⟩:=I.base.slot b o e n hb hx
    exact⟨sl,(low b o e).trans e1⟩
  · obtain⟨o',e1⟩:=I.base.there b o e hx
    exact⟨o',(low b o e).trans e1⟩
  · by_cases hj:j=i
    · subst hj
      rw[List.getElem?_set_self hiσ]at e2
      cases e2
    · rw [Xc (Ne.symm hj)]at e2
      obtain⟨u',r',q⟩:=hl j y v' e1 e2 e3
      refine⟨u',r',?_⟩
      rcases q with ⟨k,e⟩ | ⟨k,c,e,z⟩
      · have hy:y≠n:=fun e=>hj (nodup_ix hN e1 (e▸hi))
        exact .inl ⟨k,(if_neg hy).trans e⟩
      · exact .inr ⟨k,c,e,z.sameBut hs (I.cne y c e)⟩
  · obtain⟨w',z⟩:=I.cell y c e
    exact⟨w',z.sameBut hs (I.cne y c e)⟩
  · obtain⟨e,n,ne,nf,d⟩:=I.pin p hp
    exact⟨(other p.1 ne).trans e,n,ne,nf,d⟩
  · refine(I.hok b ob e).stay (fun c w' hc q=>(other c ?_).trans q) (fun _ q=>q) fun _ _ q=>q
    rintro rfl
    rcases hc with rfl | hc
    · rw[I.free]at e;cases e
    · rw[I.free]at hc;cases hc
/-- try:CALL / except C as n:suite -/
def sufE (D:Ends)(i:Nat):Ends:={ nx:=fun σ' H'=>D.nx (σ'.set i none) H',rt:=D.rt,bk:=fun σ' H'=>D.bk (σ'.set i none) H',ct:=fun σ' H'=>D.ct (σ'.set i none) H' }
variable {e:Expr}{tx:St->Hp->VK->XK->Prop}{p1 np hpos pos:Pos}{y n:Str}{C:Addr}{i:Nat}{b₀:Stmt}{suite:List Stmt}{ts:TS}
end
end L2

/-! calls within an except suite -/
namespace L2
open PySem PySem.Spec PyProof.Rows
section
variable {X:Cx}{CX:CXT}{k:Nat}{f C:Addr}{fd:FuncData}{ps:List Str}{sp:Sp}{dvs:List V}{ds:List Value}{E:XK}{x m:Str}{p pos apos:Pos}{e o:Expr}{es:List Expr}{ta:TE}{t:TA}
end
section
variable {P:Program}{w:World}{K:W.Frag}{mg:Str->Option Value}{base:Heap}
end
end L2

/-! READINGS THAT COMPUTE:the same rules,their readings by cases of the values (no witnesses asked where the values are known) -/
namespace L2
open PySem PySem.Spec PyProof.Rows
theorem PE.imp {X:Cx}{e:Expr}{t t':TE}(h:PE X e t)(i:∀σ H Q,t' σ H Q->t σ H Q):PE X e t':=fun pins s σ H Q I q=>h pins s σ H Q I (i σ H Q q)
theorem PS.imp {X:Cx}{e:Stmt}{t t':TS}(h:PS X e t)(i:∀D σ H,t' D σ H->t D σ H):PS X e t':=fun pins s σ H D I q=>h pins s σ H D I (i D σ H q)
theorem OpR.imp {X:Cx}{f:Value->Value->Sem Value}{r r':R2}(h:OpR X f r)(i:∀x y H Q,r' x y H Q->r x y H Q):OpR X f r':=fun pins s σ H x y v u Q I rx ry q=>h pins s σ H x y v u Q I rx ry (i x y H Q q)
theorem UnR.imp {X:Cx}{f:Value->Sem Value}{r r':V->Hp->VK->Prop}(h:UnR X f r)(i:∀x H Q,r' x H Q->r x H Q):UnR X f r':=fun pins s σ H x v Q I rx q=>h pins s σ H x v Q I rx (i x H Q q)
theorem CallR.imp {X:Cx}{f:Value}{r r':List V->Hp->VK->Prop}(h:CallR X f r)(i:∀xs H Q,r' xs H Q->r xs H Q):CallR X f r':=fun pins s σ H xs us Q I rv q=>h pins s σ H xs us Q I rv (i xs H Q q)
theorem IxR.imp {X:Cx}{r r':R2}(h:IxR X r)(i:∀x y H Q,r' x y H Q->r x y H Q):IxR X r':=fun va sl pins s σ H x y v u Q I rx ry q hs=>h va sl pins s σ H x y v u Q I rx ry (i x y H Q q) hs
/-! ### by cases (recursors:they compute whatever their value is written like) -/
def oV (o:Option (Option V))(k:V->Prop):Prop:=@Option.rec (Option V) (fun _=>Prop) False (fun o=>@Option.rec V (fun _=>Prop) False k o) o
def vI (x:V)(k:Int->Prop):Prop:=@V.rec (fun _=>Prop) False (fun _=>False) k (fun _=>False) (fun _=>False) (fun _=>False) (fun _=>False) (fun _=>False) x
def vB (x:V)(k:Bool->Prop):Prop:=@V.rec (fun _=>Prop) False k (fun _=>False) (fun _=>False) (fun _=>False) (fun _=>False) (fun _=>False) (fun _=>False) x
def vS (x:V)(k:Str->Prop):Prop:=@V.rec (fun _=>Prop) False (fun _=>False) (fun _=>False) k (fun _=>False) (fun _=>False) (fun _=>False) (fun _=>False) x
def vR (x:V)(k:Addr->Prop):Prop:=@V.rec (fun _=>Prop) False (fun _=>False) (fun _=>False) (fun _=>False) (fun _=>False) (fun _=>False) k (fun _=>False) x
def l1 (vs:List V)(k:V->Prop):Prop:=@List.rec V (fun _=>Prop) False (fun x r _=>@List.rec V (fun _=>Prop) (k x) (fun _ _ _=>False) r) vs
def l2 (vs:List V)(k:V->V->Prop):Prop:=@List.rec V (fun _=>Prop) False (fun x r _=>l1 r fun y=>k x y) vs
theorem oV.ex {o:Option (Option V)}{k:V->Prop}(h:oV o k):∃v,o=some (some v)/\k v:=by
  cases o with
  |none=>exact h.elim
  | some o=>cases o with
    |none=>exact h.elim
    |some v=>exact⟨v,rfl,h⟩
theorem vI.ex {x:V}{k:Int->Prop}(h:vI x k):∃i,x= .int i/\k i:=by
  cases x with
  |int i=>exact⟨i,rfl,h⟩
  |_=>exact h.elim
theorem vB.ex {x:V}{k:Bool->Prop}(h:vB x k):∃i,x= .bl i/\k i:=by
  cases x with
  |bl i=>exact⟨i,rfl,h⟩
  |_=>exact h.elim
theorem vS.ex {x:V}{k:Str->Prop}(h:vS x k):∃i,x= .str i/\k i:=by
  cases x with
  |str i=>exact⟨i,rfl,h⟩
  |_=>exact h.elim
theorem vR.ex {x:V}{k:Addr->Prop}(h:vR x k):∃i,x= .ref i/\k i:=by
  cases x with
  |ref i=>exact⟨i,rfl,h⟩
  |_=>exact h.elim
theorem l1.ex {vs:List V}{k:V->Prop}(h:l1 vs k):∃x,vs= [x]/\k x:=by
  match vs,h with
  |[x],h=>exact⟨x,rfl,h⟩
theorem l2.ex {vs:List V}{k:V->V->Prop}(h:l2 vs k):∃x y,vs= [x,y]/\k x y:=by
  match vs,h with
  |[x,y],h=>exact⟨x,y,rfl,h⟩
/-! ### names -/
def dVar (i:Nat):TE:=fun σ H Q=>oV σ[i]? fun v=>Q v H
section
variable {X:Cx}
theorem dv (i:Nat){x:Str}{pos:Pos}(hN:X.N[i]? =some x:=by rfl)(hv:Vis X.env.scope x:=by first | exact Or.inl rfl | exact Or.inr (Or.inl rfl) | exact Or.inr (Or.inr rfl))(hd:(x == ("__debug__":Str))=false:=by decide)
    (hcd:(x == ("__classdict__":Str))=false:=by decide):PE X (.Name x pos) (dVar i):=(pe_var hN hv hd hcd).imp fun σ H Q h=>h.ex
/-! ### operations -/
def mI (C:Int->Int->Prop)(g:Int->Int->V):R2:=fun x y H Q=>vI x fun i=>vI y fun j=>C i j/\Q (g i j) H
def mI0 (g:Int->Int->V):R2:=fun x y H Q=>vI x fun i=>vI y fun j=>Q (g i j) H
theorem mI.to {C:Int->Int->Prop}{g:Int->Int->V}:∀x y H Q,mI C g x y H Q->rI C g x y H Q:=fun x y H Q h=>by
  obtain⟨i,rfl,h1⟩:=vI.ex h
  clear h
  obtain⟨j,rfl,h⟩:=vI.ex h1
  exact⟨_,_,rfl,rfl,h.1,h.2⟩
theorem mI0.to {g:Int->Int->V}:∀x y H Q,mI0 g x y H Q->rI0 g x y H Q:=fun x y H Q h=>by
  obtain⟨i,rfl,h1⟩:=vI.ex h
  clear h
  obtain⟨j,rfl,h⟩:=vI.ex h1
  exact⟨_,_,rfl,rfl,h⟩
def mU (g:Int->V):V->Hp->VK->Prop:=fun x H Q=>vI x fun i=>Q (g i) H
theorem mU.to {g:Int->V}:∀x H Q,mU g x H Q->rU g x H Q:=fun x H Q h=>vI.ex h
theorem z_add:OpR X (binaryOp .Add) (mI0 fun i j=> .int (i+j)):=op_add.imp mI0.to
theorem z_sub:OpR X (binaryOp .Sub) (mI0 fun i j=> .int (i-j)):=op_sub.imp mI0.to
theorem z_mul:OpR X (binaryOp .Mult) (mI CMulB fun i j=> .int (i*j)):=op_mulB.imp mI.to
theorem z_fdiv:OpR X (binaryOp .FloorDiv) (mI CDiv fun i j=> .int (i / j)):=op_fdiv.imp mI.to
theorem z_mod:OpR X (binaryOp .Mod) (mI (fun _ j=>0<j) fun i j=> .int (i % j)):=op_mod.imp mI.to
theorem z_neg:UnR X (unaryOp .USub) (mU fun i=> .int (-i)):=un_neg.imp mU.to
theorem z_lt:OpR X (compareOp .Lt) (mI0 fun i j=> .bl (decide (i<j))):=op_lt.imp mI0.to
theorem z_le:OpR X (compareOp .LtE) (mI0 fun i j=> .bl (decide (i<=j))):=op_le.imp mI0.to
theorem z_gt:OpR X (compareOp .Gt) (mI0 fun i j=> .bl (decide (j<i))):=op_gt.imp mI0.to
theorem z_ge:OpR X (compareOp .GtE) (mI0 fun i j=> .bl (decide (j<=i))):=op_ge.imp mI0.to
theorem dI {i j:Int}:decide (V.int i=V.int j)=decide (i=j):=by
  by_cases h:i=j
  · rw[Yw h,Yw (YE V.int h)]
  · rw[Ys h,Ys fun z=>h (V.int.inj z)]
theorem dS {i j:Str}:decide (V.str i=V.str j)=decide (i=j):=by
  by_cases h:i=j
  · rw[Yw h,Yw (YE V.str h)]
  · rw[Ys h,Ys fun z=>h (V.str.inj z)]
theorem dB {i j:Bool}:decide (V.bl i=V.bl j)=decide (i=j):=by
  by_cases h:i=j
  · rw[Yw h,Yw (YE V.bl h)]
  · rw[Ys h,Ys fun z=>h (V.bl.inj z)]
/-- == of two scalars -/
def eqW (f:Bool->Prop)(x y:V):Prop:=@V.rec (fun _=>Prop)
  (@V.rec (fun _=>Prop) (f true) (fun _=>False) (fun _=>f false) (fun _=>f false) (fun _=>False) (fun _=>False) (fun _=>False) (fun _=>False) y)
  (fun i=>@V.rec (fun _=>Prop) False (fun j=>f (decide (i=j))) (fun _=>False) (fun _=>False) (fun _=>False) (fun _=>False) (fun _=>False) (fun _=>False) y)
  (fun i=>@V.rec (fun _=>Prop) (f false) (fun _=>False) (fun j=>f (decide (i=j))) (fun _=>f false) (fun _=>False) (fun _=>False) (fun _=>False) (fun _=>False) y)
  (fun i=>@V.rec (fun _=>Prop) (f false) (fun _=>False) (fun _=>f false) (fun j=>f (decide (i=j))) (fun _=>False) (fun _=>False) (fun _=>False) (fun _=>False) y)
  (fun _=>False) (fun _=>False) (fun _=>False) (fun _=>False) x
theorem eqW.ex {f:Bool->Prop}{x y:V}(h:eqW f x y):scal x y=true/\f (decide (x=y)):=by
  cases x with
  |non=>cases y <;> first | exact h.elim | exact⟨rfl,h⟩
  |bl i=>cases y <;> first | exact h.elim | (exact⟨rfl,by rw[dB];exact h⟩)
  |int i=>cases y <;> first | exact h.elim | exact⟨rfl,h⟩ | (exact⟨rfl,by rw[dI];exact h⟩)
  |str i=>cases y <;> first | exact h.elim | exact⟨rfl,h⟩ | (exact⟨rfl,by rw[dS];exact h⟩)
  |_=>exact h.elim
def mEq:R2:=fun x y H Q=>eqW (fun b=>Q (.bl b) H) x y
def mNe:R2:=fun x y H Q=>eqW (fun b=>Q (.bl (!b)) H) x y
theorem z_eq:OpR X (compareOp .Eq) mEq:=op_eq.imp fun x y H Q h=>eqW.ex (f:=fun b=>Q (.bl b) H) h
theorem z_ne:OpR X (compareOp .NotEq) mNe:=op_ne.imp fun x y H Q h=>eqW.ex (f:=fun b=>Q (.bl (!b)) H) h
def vN (x:V)(k:Prop):Prop:=@V.rec (fun _=>Prop) k (fun _=>False) (fun _=>False) (fun _=>False) (fun _=>False) (fun _=>False) (fun _=>False) (fun _=>False) x
theorem vN.ex {x:V}{k:Prop}(h:vN x k):x= .non/\k:=by
  cases x with
  |non=>exact⟨rfl,h⟩
  |_=>exact h.elim
def mIsN:R2:=fun x y H Q=>vN y (Q (.bl (decide (x= .non))) H)
theorem z_isN:OpR X (compareOp .Is) mIsN:=op_isN.imp fun x y H Q h=>vN.ex h
/-! ### tests -/
section
variable {a b c:Expr}{ta tb tc:TE}{pos:Pos}{rest:List Expr}
theorem vB_iff {x:V}{k:Bool->Prop}:vB x k=∃i,x= .bl i/\k i:=propext ⟨vB.ex,fun ⟨i,e,h⟩=>by subst e;exact h⟩
def dTest (t:TE):TT:=fun σ H Q=>t σ H fun x H'=>vB x fun k=>Q k H'
theorem dTest_eq (t:TE):dTest t=tTest t:=by
  funext σ H Q
  unfold dTest tTest
  simp only[vB_iff]
theorem dTest_eqB (t:TE):dTest t=tB t:=by
  funext σ H Q
  unfold dTest tB
  simp only[vB_iff]
theorem md_cmp {op:CmpOp}{r:R2}(ho:OpR X (compareOp op) r)(ha:PE X a ta)(hb:PE X b tb)(hm:behindInMarks op b=false):PT X (.Compare a [op] [b] pos) (dTest (tOp r ta tb)):=by
  rw[dTest_eq];exact pt_cmpR ho ha hb hm
theorem md_val {e:Expr}{t:TE}(h:PE X e t)(he:∀whole,isTrue e X.env whole=(do let v<-whole;standAt e.pos;holding [v] (truthy v)):=by intro _;rfl):PT X e (dTest t):=by
  rw[dTest_eqB];exact pt_val h he
end
/-! ### lists and tuples that are read -/
def SqA (K:W.Frag)(H:Hp)(a:Addr)(xs:List V):Prop:=SqL K H a xs\/SqT K H a xs
def mIxL (K:W.Frag):R2:=fun x y H Q=>vR x fun p=>vI y fun i=>∃xs v,SqL K H p xs/\atI xs i=some v/\Q v H
def mIxT (K:W.Frag):R2:=fun x y H Q=>vR x fun p=>vI y fun i=>∃xs v,SqT K H p xs/\atI xs i=some v/\Q v H
def mIxS:R2:=fun x y H Q=>vS x fun z=>vI y fun i=>∃c,z.length<=sizeLine/\atI z.cps.toList i=some c/\Q (.str ⟨#[c]⟩) H
theorem z_ixL:IxR X (mIxL X.K):=ix_list.imp fun x y H Q h=>by
  obtain⟨p,rfl,h⟩:=vR.ex h
  obtain⟨i,rfl,xs,v,h1,h2,h3⟩:=vI.ex h
  exact⟨_,xs,_,v,rfl,rfl,h1,h2,h3⟩
theorem z_ixT:IxR X (mIxT X.K):=ix_tup.imp fun x y H Q h=>by
  obtain⟨p,rfl,h⟩:=vR.ex h
  obtain⟨i,rfl,xs,v,h1,h2,h3⟩:=vI.ex h
  exact⟨_,xs,_,v,rfl,rfl,h1,h2,h3⟩
theorem z_ixS:IxR X mIxS:=ix_str.imp fun x y H Q h=>by
  obtain⟨p,rfl,h⟩:=vS.ex h
  obtain⟨i,rfl,c,h1,h2,h3⟩:=vI.ex h
  exact⟨_,_,c,rfl,rfl,h1,h2,h3⟩
def mLen (K:W.Frag):List V->Hp->VK->Prop:=fun xs H Q=>l1 xs fun x=>vR x fun p=>∃ys,SqA K H p ys/\Q (.int ys.length) H
theorem z_len:CallR X (.builtin "len") (mLen X.K):=call_len_seq.imp fun xs H Q h=>by
  obtain⟨x,rfl,h⟩:=l1.ex h
  obtain⟨p,rfl,ys,h1,h2⟩:=vR.ex h
  exact⟨_,ys,rfl,h1,h2⟩
def mLenS:List V->Hp->VK->Prop:=fun xs H Q=>l1 xs fun x=>vS x fun z=>z.length<=sizeLine/\Q (.int z.length) H
theorem z_lenS:CallR X (.builtin "len") mLenS:=call_len_str.imp fun xs H Q h=>by
  obtain⟨x,rfl,h⟩:=l1.ex h
  obtain⟨p,rfl,h1,h2⟩:=vS.ex h
  exact⟨_,rfl,h1,h2⟩
def mListOf (K:W.Frag):List V->Hp->VK->Prop:=fun xs H Q=>l1 xs fun x=>vR x fun p=>∃ys,SqA K H p ys/\∀l,H l=none->Q (.ref l) (upd H l (.lst ys))
theorem z_listOf:CallR X (.type "list") (mListOf X.K):=call_list_of.imp fun xs H Q h=>by
  obtain⟨x,rfl,h⟩:=l1.ex h
  obtain⟨p,rfl,ys,h1,h2⟩:=vR.ex h
  exact⟨_,ys,rfl,h1,h2⟩
def mMax2:List V->Hp->VK->Prop:=fun xs H Q=>l2 xs fun x y=>vI x fun i=>vI y fun j=>Q (.int (max i j)) H
theorem z_max2 (hc:X.calm=true):CallR X (.builtin "max") mMax2:=(call_max2 hc).imp fun xs H Q h=>by
  obtain⟨x,y,rfl,h⟩:=l2.ex h
  obtain⟨i,rfl,h⟩:=vI.ex h
  obtain⟨j,rfl,h⟩:=vI.ex h
  refine⟨_,_,rfl,?_⟩
  have e:(if j > i then j else i)=max i j:=by omega
  rw[e];exact h
end
section
variable {K:W.Frag}
end
section
variable {X:Cx}
/-! ### n.bit_length(),xs.append(x),xs.pop() -/
def tCutA (t:TA):TA:=fun σ H Q=>∃P:List V->Hp->Prop,t σ H P/\∀x H',P x H'->Q x H'
theorem pa_cut {es:List Expr}{t:TA}(h:PA X es t):PA X es (tCutA t):=by
  intro pos pins s σ H Q I hw
  obtain⟨P,h1,h2⟩:=hw
  exact thn (h pos pins s σ H P I h1) fun v s1 ⟨x,H1,I1,r,q⟩=>⟨x,H1,I1,r,h2 x H1 q⟩
section
variable {o e:Expr}{es:List Expr}{to:TE}{t:TA}{apos cpos:Pos}
def dAppend (K:W.Frag)(to:TE)(t:TA):TE:=fun σ H Q=>to σ H fun x H1=>vR x fun l=>(∃xs,SqL K H1 l xs)/\t σ H1 fun vs H2=>l1 vs fun y=>∃xs,H2 l=some (.lst xs)/\xs.length<sizeLine/\Q .non (upd H2 l (.lst (xs++[y])))
theorem md_append (ho:PE X o to)(ha:PA X [e] t)(hbase:attributeBase o "append" X.env (eval o X.env)=eval o X.env:=by rfl)
    (hfew:((backTo cpos (starEach [e] X.env)).all (fun x=>!x.1) && (backToKw cpos (keywordEach [] X.env)).all (fun x=>x.1.isSome)
      && decide (([e]:List Expr).length+([]:List Keyword).length+(if ([]:List Keyword).isEmpty then 0 else 1)<30))=true:=by rfl)
    (hline:(apos.endLine == cpos.line)=true:=by rfl) (hs:starEach [e] X.env=(false,eval e X.env)::starEach [] X.env:=by rfl) (hplain:(backTo cpos (starEach [] X.env)).any (·.1)=false:=by rfl) :
    PE X (.Call (.Attribute o "append" apos) [e] [] cpos) (dAppend X.K to t):=
  (pe_bm PySem.F.plainAttrs_list PySem.F.slot_list_append PySem.F.type_list_append mt_append (pe_cut ho) (pa_cut ha) hbase hfew hline hs hplain).imp fun σ H Q h=>⟨_,h,fun x H1 q=>by
    obtain⟨l,rfl,q1,q2⟩:=vR.ex q
    refine⟨.inl ⟨rfl,q1⟩,_,q2,fun vs H2 q3=>?_⟩
    obtain⟨y,rfl,xs,h1,h2,h3⟩:=l1.ex q3
    exact⟨l,xs,y,rfl,rfl,h1,h2,h3⟩⟩
/-! ### slices -/
def dPart (t:TE):TO:=fun σ H Q=>t σ H fun x H1=>vI x fun i=>Q (some i) H1
theorem PO.imp {e:Option Expr}{t t':TO}(h:PO X e t)(i:∀σ H Q,t' σ H Q->t σ H Q):PO X e t':=fun pins s σ H Q I q=>h pins s σ H Q I (i σ H Q q)
theorem md_part (h:PE X e to):PO X (some e) (dPart to):=(po_some (pe_cut h)).imp fun σ H Q q=>⟨_,q,fun x H1 z=>vI.ex z⟩
def mSlL (K:W.Frag):V->Option Int->Option Int->Hp->VK->Prop:=fun x lo hi H Q=>vR x fun a=>∃xs,SqL K H a xs/\∀p,H p=none->Q (.ref p) (upd H p (.lst (cutV xs lo hi)))
theorem SlR.imp {r r':V->Option Int->Option Int->Hp->VK->Prop}(h:SlR X r)(i:∀x lo hi H Q,r' x lo hi H Q->r x lo hi H Q):SlR X r':=by
  intro pins s σ H x v vl vu lo hi sl Q I rx hs pl pu q
  exact h pins s σ H x v vl vu lo hi sl Q I rx hs pl pu (i _ _ _ _ _ q)
theorem z_slL:SlR X (mSlL X.K):=sl_list.imp fun x lo hi H Q h=>by
  obtain⟨a,rfl,xs,h1,h2⟩:=vR.ex h
  exact⟨_,xs,rfl,h1,h2⟩
/-! ### what a loop walks -/
variable {tg:Expr}
theorem PI.imp {iter:Expr}{w w':TI}(h:PI X tg iter w)(i:∀σ H R,w' σ H R->w σ H R):PI X tg iter w':=fun pins s σ H R I q=>h pins s σ H R I (i σ H R q)
def dList (K:W.Frag)(tl:TE):TI:=fun σ H R=>tl σ H fun x H1=>vR x fun a=>(∃xs,SqL K H1 a xs)/\R (Itl K a) H1
theorem mi_list {l:Expr}{tl:TE}(hl:PE X l tl):PI X tg l (dList X.K tl):=(pi_list (pe_cut hl)).imp fun σ H R h=>⟨_,h,fun x H1 q=>vR.ex q⟩
def dRng1 (ta:TA):TI:=fun σ H R=>ta σ H fun vs H1=>l1 vs fun x=>vI x fun j=>(-(2 ^ 62)<=j/\j<2 ^ 62)/\R (Itr 0 j.toNat) H1
def dRng2 (ta:TA):TI:=fun σ H R=>ta σ H fun vs H1=>l2 vs fun x y=>vI x fun i=>vI y fun j=>(-(2 ^ 62)<=i/\i<2 ^ 62/\ -(2 ^ 62)<=j/\j<2 ^ 62)/\R (Itr i (j-i).toNat) H1
theorem mi_range1 {a:Expr}{ta:TA}{p pos:Pos}(hg:Gl X "range")(hm:X.mg "range"=none)(ha:PA X [a] ta)(hs:starEach [a] X.env= [(false,eval a X.env)]:=by rfl):PI X tg (.Call (.Name "range" p) [a] [] pos) (dRng1 ta):=
  (pi_range1 hg hm (pa_cut ha) hs).imp fun σ H R h=>⟨_,h,fun vs H1 q=>by
    obtain⟨x,rfl,q⟩:=l1.ex q
    obtain⟨j,rfl,q⟩:=vI.ex q
    exact⟨j,rfl,q.1.1,q.1.2,q.2⟩⟩
theorem mi_range2 {a b:Expr}{ta:TA}{p pos:Pos}(hg:Gl X "range")(hm:X.mg "range"=none)(ha:PA X [a,b] ta)(hs:starEach [a,b] X.env= [(false,eval a X.env),(false,eval b X.env)]:=by rfl)(hs2:starEach [b] X.env= [(false,eval b X.env)]:=by rfl) :
    PI X tg (.Call (.Name "range" p) [a,b] [] pos) (dRng2 ta):=
  (pi_range2 hg hm (pa_cut ha) hs hs2).imp fun σ H R h=>⟨_,h,fun vs H1 q=>by
    obtain⟨x,y,rfl,q⟩:=l2.ex q
    obtain⟨i,rfl,q⟩:=vI.ex q
    obtain⟨j,rfl,q⟩:=vI.ex q
    exact⟨i,j,rfl,q.1,q.2⟩⟩
/-! ### xs[i]=v -/
end
end
end L2

/-! an exception that passes a comprehension -/
namespace L2
open PySem PySem.Spec PyProof.Rows
section
variable {M:Model}{A:Around}{E:Value->Shared->Prop}{s:Shared}{B:Heap}{env:Env}{outer l:List Env}{L e:Addr}{k a0 fl:Value}{od:Option Addr}
/-- the frame is noted,whatever frame the last entry names -/
theorem lookAnyD {Q:Unit->Shared->Prop}(fr:A.frames=some (env::outer))(fL:env.frame=some L)(st:B.StaysIn s.heap/\B.get? e=none)(ff:s.heap.FunFrames B (env::outer))(tr:TrD s.heap B e k a0 od fl)
    (next:∀h',HeldD B (env::outer) e k a0 od L h'->s.heap.UpToSlots h'->Q () { s with heap:=h' }):wpAny M A (noteFrame (.ref e) env) Q E s:=by
  have tr0:=tr
  obtain⟨oe,vs,T,oT,ts,⟨q1,q2,q3,q4⟩,⟨q5,q6⟩,⟨q7,q8⟩,q9,q10,q11⟩:=tr
  subst q2 q3
  have off:∀b,b≠T->(s.heap.update T (Obj.mapFields (·.setIfInBounds 3 Value.none))).get? b=s.heap.get? b:=fun b n=>Y4 _ _ (Ne.symm n)
  have apart:∀b o,s.heap.get? b=some o->(∀ws,o.data≠ .fields ws)->b≠T:=fun b o q n z=>by
    subst z
    cases q9.symm.trans q
    exact n ts q10
  unfold noteFrame
  simp only[fL]
  refine Yn (XD q1 q4 q6 ?_)
  rw[if_pos (show (Value.ref T != Value.none)=true by simp)]
  refine Yn (XD q9 q10 q11 ?_)
  by_cases hfl:(fl == rawInt L)=true
  · rw[if_pos hfl]
    obtain rfl:=eq_of_beq hfl
    exact YS (next s.heap ⟨st,ff,tr0⟩ (Heap.UpToSlots.refl _))
  · rw[if_neg hfl]
    refine Yn (XT q9 q10 (YW.mp q11).1 ?_)
    refine entryD (B:=B) fr (ff.of_keeps fun b o q n=>⟨o,(off b (apart b o q n)).trans q,rfl⟩) fL ⟨fun b o q=>(off b fun z=>by rw[z,q7]at q;cases q).trans (st.1 b o q),st.2⟩ ((off e (Ne.symm q8)).trans q1) q4 (YW.mp q6).1 q5 fun h' x1 x2=>?_
    exact next h' x1 fun b o q n=>x2 b o ((off b (apart b o q n)).trans q) n
theorem leaveAnyD {Q:Unit->Shared->Prop}(fr:A.frames=some (env::outer))(fL:env.frame=some L)(st:B.StaysIn s.heap/\B.get? e=none)(ff:s.heap.FunFrames B (env::outer))(tr:TrD s.heap B e k a0 od fl)
    (next:∀h',FlyD B outer e k a0 od h'->s.heap.UpToSlots h'->Q () { s with heap:=h' }):wpAny M A (leaving env (.ref e)) Q E s:=by
  unfold leaving
  exact Yn (lookAnyD fr fL st ff tr fun h1 x1 x2=>landD x1 fun h2 x3 x4=>next h2 x3.tail (x2.trans x4))
/-- it is handed on,with some frame or none -/
theorem passOnD {α:Type}{w:String}{cenv:Env}{Q:α->Shared->Prop}(st:B.StaysIn s.heap/\B.get? e=none)(ff:s.heap.FunFrames B l)(tr:TrD s.heap B e k a0 od fl)
    (next:∀h' fl',B.StaysIn h'->h'.FunFrames B l->TrD h' B e k a0 od fl'->s.heap.UpToSlots h'->E (.ref e) { s with heap:=h' }):wpAny M A (PySem.passOn w (.ref e) cenv:Sem α) Q E s:=by
  obtain⟨oe,vs,T,oT,ts,⟨q1,q2,q3,q4⟩,⟨q5,q6⟩,⟨q7,q8⟩,q9,q10,q11⟩:=tr
  have sz:3<ts.size:=(YW.mp q11).1
  have off:∀(v:Value) b,b≠T->(s.heap.update T (Obj.mapFields (·.setIfInBounds 3 v))).get? b=s.heap.get? b:=fun v b n=>Y4 _ _ (Ne.symm n)
  have apart:∀b o,s.heap.get? b=some o->(∀ws,o.data≠ .fields ws)->b≠T:=fun b o q n z=>by
    subst z
    cases q9.symm.trans q
    exact n ts q10
  unfold PySem.passOn setFlight
  refine Yn (XD q1 q4 q6 ?_)
  rw[if_neg (show ¬ ((Value.ref T == Value.none)=true) by simp)]
  refine Yn (Yn (XD q1 q4 q6 ?_))
  rw[if_pos (show (Value.ref T != Value.none)=true by simp)]
  refine XT q9 q10 sz (wpAny_throw ?_)
  refine next _ (cenv.frame.elim Value.none fun f=>rawInt f) (fun b o q=>(off _ b fun z=>by rw[z,q7]at q;cases q).trans (st.1 b o q)) (ff.of_keeps fun b o q n=>⟨o,(off _ b (apart b o q n)).trans q,rfl⟩) ?_ fun b o q n=>⟨o.slots,(off _ b (apart b o q n)).trans q⟩
  exact⟨oe,vs,T,_,_,⟨(off _ e (Ne.symm q8)).trans q1,q2,q3,q4⟩,⟨q5,q6⟩,⟨q7,q8⟩,Heap.get?_update_self _ q9 (Obj.isFreed_of_fields (XB q10 _)),XB q10 _,by simp only[Array.getElem?_setIfInBounds_self_of_lt sz]⟩
end
end L2

/-! COMPREHENSIONS over the layer:[e for x in it], [e for x in it if c],as a value and as name= .. -/
namespace L2
open PySem PySem.Spec PyProof.Rows
/-- the names and values of the def that a comprehension sees,by their places -/
def subN (N:List Str)(ix:List Nat):List Str:=ix.map fun i=>N.getD i ""
def subS (σ:St)(ix:List Nat):St:=ix.map fun i=>σ.getD i none
/-- an exception that leaves a comprehension's block:the frame is noted,the block's names go,it is handed on -/
def compXe (X:Cx)(scope:Scope)(cl:List (Str×Addr))(C:Addr):Value->Shared->Prop:=notedBy (model X.prog X.w) X.A (compEnvC scope cl C X.env) fun e s'=>
  ∃m,s'.heap.Ns C m/\∀h',Heap.SameBut C s'.heap h'->∀cenv:Env,cenv.locals=C->wpAny (model X.prog X.w) X.A (PySem.passOn "comprehension.variables-let-go" e cenv:Sem Value) (fun _ _=>False) X.xe { s' with heap:=h' }
/-- the context of a comprehension's block -/
def cxComp (X:Cx)(scope:Scope)(cl:List (Str×Addr))(x:Str)(ix:List Nat)(C:Addr)(fp:List Addr)(s₀:Shared)(H₀:Hp):Cx:=
  { X with N:=x::subN X.N ix,s₀:=s₀,H₀:=H₀,env:=compEnvC scope cl C X.env,outer:=X.stack,ex:=fp,fn:=fun _=>false,pn:=[],xe:=compXe X scope cl C }
/-- what the text says of a comprehension's scope -/
structure CompScope (X:Cx)(scope:Scope)(cl:List (Str×Addr))(x:Str)(ix:List Nat):Prop where
  clos:closureFor scope X.env=pure cl
  kind:scope.kind= .function
  loc:scope.names.lookup x=some .local
  one:∀y∈scope.names,y.2= .local->y.1=x\/y.1=".0"
  locs:∀y∈scope.names,y.2= .local->scope.names.lookup y.1=some .local
  nocell:∀y∈scope.names,y.2≠ .cell
  free:∀y∈scope.names,y.2= .free->(X.env.kindOf y.1=some .cell\/X.env.kindOf y.1=some .free)
  cells:∀y∈scope.names,y.2= .free->∃c,cl.lookup y.1=some c
  same:∀y∈cl,X.env.cells.lookup y.1=some y.2
  nd:((".0":Str)::x::subN X.N ix).Nodup
theorem lookup_mem {α β:Type}[BEq α][LawfulBEq α]{a:α}{b:β}:∀{l:List (α×β)},l.lookup a=some b->(a,b)∈l
  |[],h=>by simp at h
  | (c,d)::r,h=>by
    rw[Y6]at h
    cases e:a == c with
    | true=>
      rw[e]at h
      cases h
      rw[eq_of_beq e];exact Yo
    | false=>
      rw[e]at h
      exact Yf _ (lookup_mem h)
theorem kind_relabel {scope:Scope}{env:Env}{y:Str}{k:NameKind}(h:(relabel scope env).names.lookup y=some k):∃k0,scope.names.lookup y=some k0/\(k=k0\/(k0= .free/\k= .cell)):=by
  have gen :∀(names:List (Str×NameKind)),(names.map fun (n,k)=>if (k == NameKind.free && env.scope.kind == .function && env.kindOf n == some .cell) then (n,NameKind.cell) else (n,k)).lookup y=some k->
      ∃k0,names.lookup y=some k0/\(k=k0\/(k0= .free/\k= .cell)):=by
    intro names
    induction names with
    |nil=>intro h;simp at h
    | cons p r ih=>
      obtain⟨n,k1⟩:=p
      intro h
      rw[Yy]at h
      dsimp only at h
      cases hc:(k1 == NameKind.free && env.scope.kind == .function && env.kindOf n == some .cell) with
      | true=>
        rw[hc,if_pos rfl,Y6]at h
        rw[Y6]
        cases e:y == n with
        | true=>
          rw[e]at h
          cases h
          simp only[YT]at hc
          exact⟨k1,rfl,.inr ⟨eq_of_beq hc.1.1,rfl⟩⟩
        | false=>
          rw[e]at h
          exact ih h
      | false=>
        rw[hc,if_neg Ym,Y6]at h
        rw[Y6]
        cases e:y == n with
        | true=>
          rw[e]at h
          cases h
          exact⟨k,rfl,.inl rfl⟩
        | false=>
          rw[e]at h
          exact ih h
  exact gen scope.names h
section
variable {X:Cx}{scope:Scope}{cl:List (Str×Addr)}{x:Str}{ix:List Nat}{C:Addr}{fp:List Addr}
theorem CompScope.look (S:CompScope X scope cl x ix){y:Str}{c:Addr}(h:cl.lookup y=some c):X.env.cells.lookup y=some c:=S.same _ (lookup_mem h)
theorem CompScope.ok (S:CompScope X scope cl x ix){pins:List (Addr×Obj)}{σ:St}{H:Hp}{s:Shared}(I:Inv X pins σ H s)(hf:∀b∈fp,FpOk X pins H b)(hfl:∀b∈fp,b<s.heap.objs.size)(hC:s.heap.objs.size<=C) :
    (cxComp X scope cl x ix C fp s H).Ok where
  mod:=I.ok.mod
  kind:=S.kind
  glob:=I.ok.glob
  blt:=I.ok.blt
  above:=hC
  inj:=fun y z c h1 h2=>I.ok.inj y z c (S.look h1) (S.look h2)
  has := fun y h=>by
    have h':(relabel scope X.env).names.lookup y=some .cell\/(relabel scope X.env).names.lookup y=some .free:=h
    have fr:scope.names.lookup y=some .free:=by
      rcases h' with h' | h'
      · obtain⟨k0,e,q | q⟩:=kind_relabel h'
        · exact absurd rfl (q▸S.nocell _ (lookup_mem e))
        · rw[e,q.1]
      · obtain⟨k0,e,q | q⟩:=kind_relabel h'
        · rw[e,<-q]
        · cases q.2
    exact S.cells _ (lookup_mem fr) rfl
  cab:=fun y c h=>absurd h Ym
  hd:=I.ok.hd
  frames:=I.ok.frames
  stk:= .inl rfl
  exf:=fun b hb=>⟨YM (Yv (hfl b hb) hC),fun y c e=>(hf b hb).2.2.2.2.1 y c (S.look e)⟩
  bs:=I.bs
  bsz:=Ye I.ok.bsz I.sz
  noex:=fun b o e hb=>by
    rcases (hf b hb).2.2.2.1 with z | z
    · exact I.ok.noex b o e z
    · exact absurd (Yv (Yt e) (Ye I.ok.bsz z)) (YH _)
  exfs:=fun b hb z=>by
    rcases Yr.mp (I.stkSub b z) with e | e
    · exact(hf b hb).2.1 e
    · exact(hf b hb).2.2.1 e
  funs:=I.stack
  frf:=I.stkFree
theorem subN_get {N:List Str}{ix:List Nat}{j:Nat}{y:Str}(h:(subN N ix)[j]? =some y):∃i,ix[j]? =some i/\y=N.getD i "":=by
  unfold subN at h
  rw[Yk]at h
  cases e:ix[j]? with
  |none=>rw[e]at h;cases h
  |some i=>rw[e]at h;cases h;exact⟨i,rfl,rfl⟩
theorem subS_get {σ:St}{ix:List Nat}{j:Nat}{v:V}(h:(subS σ ix)[j]? =some (some v)):∃i,ix[j]? =some i/\σ[i]? =some (some v):=by
  unfold subS at h
  rw[Yk]at h
  cases e:ix[j]? with
  |none=>rw[e]at h;cases h
  | some i=>
    rw[e]at h
    have h':σ.getD i none=some v:=by simpa using h
    refine⟨i,rfl,?_⟩
    rw[YJ]at h'
    cases e2:σ[i]? with
    |none=>rw[e2]at h';cases h'
    |some u=>rw[e2]at h';exact YE some h'
/-- the block begins -/
theorem CompScope.inv (S:CompScope X scope cl x ix){pins:List (Addr×Obj)}{σ:St}{H:Hp}{s s1:Shared}{m:Str->Option Value}(I:Inv X pins σ H s)(hf:∀b∈fp,FpOk X pins H b)(hfl:∀b∈fp,b<s.heap.objs.size)
    (hC:s.heap.objs.size<=C) (os:s1.os=s.os) (bare:AllBare s1.gens) (k:∀b o,s.heap.get? b=some o->s1.heap.get? b=some o) (hn:s1.heap.Ns C m) :
    Inv (cxComp X scope cl x ix C fp s H) [] (none::subS σ ix) H s1 where
  ok:=S.ok I hf hfl hC
  os:=os
  bare:=bare
  base:=Un.kept k
  loc := ⟨m, hn,fun i y v h1 h2 h3=>by
    cases i with
    |zero=>cases (show none=some v from YF h2)
    | succ j =>
      obtain⟨i,e1,e2⟩:=subN_get (N:=X.N) (show (subN X.N ix)[j]? =some y from h1)
      obtain⟨i',e1',e3⟩:=subS_get (σ:=σ) (show (subS σ ix)[j]? =some (some v) from h2)
      rw[e1]at e1';cases e1'
      have hi:i<X.N.length:=by rw[<-I.len];exact(Yb.mp e3).1
      have hy:X.N[i]? =some y:=by rw[e2,YJ,Yd hi];rfl
      have ne:y≠x:=by
        rintro rfl
        have nd:=(Y0.mp S.nd).2
        exact(Y0.mp nd).1 (Yq (show (subN X.N ix)[j]? =some y from h1))
      have h3':(relabel scope X.env).names.lookup y=some .local\/(relabel scope X.env).names.lookup y=some .cell\/(relabel scope X.env).names.lookup y=some .free:=h3
      have fr :scope.names.lookup y=some .free/\((relabel scope X.env).names.lookup y=some .cell\/(relabel scope X.env).names.lookup y=some .free):=by
        rcases h3' with z | z | z
        · obtain⟨k0,e,q | q⟩:=kind_relabel z
          · rcases S.one _ (lookup_mem e) q.symm with z | z
            · exact absurd z ne
            · have z':y=".0":=z
              exact absurd (Yf _ (Yq (show (subN X.N ix)[j]? =some y from h1))) (z'▸(Y0.mp S.nd).1)
          · cases q.2
        · obtain⟨k0,e,q | q⟩:=kind_relabel z
          · exact absurd rfl (q▸S.nocell _ (lookup_mem e))
          · exact⟨by rw[e,q.1],.inl z⟩
        · obtain⟨k0,e,q | q⟩:=kind_relabel z
          · exact⟨by rw[e,<-q],.inr z⟩
          · cases q.2
      have vis:=S.free _ (lookup_mem fr.1) rfl
      obtain⟨m0,_,l0⟩:=I.loc
      obtain⟨u,r,l⟩:=l0 i y v hy e3 (vis.elim (fun z=> .inr (.inl z)) fun z=> .inr (.inr z))
      refine⟨u,r,.inr ⟨fr.2,?_⟩⟩
      rcases l with ⟨k1,_⟩ | ⟨_,c,ec,oc,hoc,hd⟩
      · rcases vis with z | z
        · have:=k1.symm.trans z;cases this
        · have:=k1.symm.trans z;cases this
      · obtain⟨c',e'⟩:=S.cells _ (lookup_mem fr.1) rfl
        have:some c'=some c:=(S.look e').symm.trans ec
        cases this
        exact⟨c,e',oc,k _ _ hoc,hd⟩⟩
  cell:=fun y c e=>by
    obtain⟨v,oc,hoc,hd⟩:=I.cell y c (S.look e)
    exact⟨v,oc,k _ _ hoc,hd⟩
  free:=I.hok.fresh hC
  freeC:=fun y c e=>I.freeC y c (S.look e)
  pin:=fun p hp=>absurd (show p∈([]:List (Addr×Obj)) from hp) (by simp)
  hok:=I.hok.kept k
  len:=by show (none::subS σ ix).length=(x::subN X.N ix).length;simp[subS,subN]
end
/-! ### tests of a clause -/
def PTs (X:Cx)(ifs:List Expr)(t:TT):Prop:=
  ∀ (pins:List (Addr×Obj))(s:Shared)(σ:St)(H:Hp)(Q:Bool->Hp->Prop),Inv X pins σ H s->t σ H Q->
    wpAny (model X.prog X.w) X.A (forIn ifs true fun c r=>if r=true then do let ok<-isTrue c X.env (eval c X.env);pure (ForInStep.yield ok) else pure (ForInStep.yield r)) (TP X pins σ Q) X.xe s
def tYes:TT:=fun _ H Q=>Q true H
theorem pts_nil {X:Cx}:PTs X [] tYes:=fun _ _ _ H _ I h=>wpAny_tests_nil ⟨H,I,h⟩
/-! ### the loop -/
section
variable {prog:Program}{w:World}{A:Around}{R:Result->Shared->Prop}{s:Shared}
theorem compLoop_any {elt target iter:Expr}{ifs:List Expr}{scope:Scope}{pos:Pos}{it acc:Value}{env:Env}(I:Nat->Shared->Prop)
    (turn : ∀ n s,I n s->wpAny (model prog w) A (pyNext it) (fun r s₁=>match r with
      |none=>R (.ok .next) s₁
      | some v =>wpAny (model prog w) A (letOwnedTupleGo target it v) (fun _ s₀=>wpAny (model prog w) A (assign target env v) (fun _ s₂=>
          wpAny (model prog w) A (forIn ifs true fun c r=>if r=true then do let ok<-isTrue c env (eval c env);pure (ForInStep.yield ok) else pure (ForInStep.yield r)) (fun ok s₃=>
            if ok=true then wpAny (model prog w) A (eval elt env) (fun x s₄=>
              wpAny (model prog w) A (call (.builtin "list.append") [acc,x]) (fun _ s₅=>∃m,m<n/\I m s₅) (notedBy (model prog w) A env fun e s'=>R (.error e) s') s₄) (notedBy (model prog w) A env fun e s'=>R (.error e) s') s₃
            else ∃m,m<n/\I m s₃) (notedBy (model prog w) A env fun e s'=>R (.error e) s') s₂) (notedBy (model prog w) A env fun e s'=>R (.error e) s') s₀) (notedBy (model prog w) A env fun e s'=>R (.error e) s') s₁) (notedBy (model prog w) A env fun e s'=>R (.error e) s') s)
    (n:Nat) (h:I n s) :
    codeAny (model prog w) A (.compLoop (.ListComp elt [⟨target,iter,ifs,0⟩] scope pos) 0 it acc env) R s:=by
  refine codeAny_loop rfl I (fun n s hI=>?_) n h
  show wpAny _ A ((compTurn (.ListComp elt [⟨target,iter,ifs,0⟩] scope pos) 0 it acc env).onRaise (fun x=>do noteFrame x env;theTreesLotGoes x)) _ _ s
  refine wpAny_noted ?_
  rw[compTurn_list]
  refine Yn (wpAny_standAt (Yn (YL (turn n s hI) (fun r s₁ h₁=>?_) fun _ _ h'=>h')))
  cases r with
  |none=>exact YS h₁
  | some v=>
    refine Yn (YL h₁ (fun _ s₀ h₀=>?_) fun _ _ h'=>h')
    refine Yn (YL h₀ (fun _ s₂ h₂=>Yn (YL h₂ (fun ok s₃ h₃=>?_) fun _ _ h'=>h')) fun _ _ h'=>h')
    cases ok with
    |false=>exact YS ⟨rfl,h₃⟩
    | true=>
      exact Yn (Yn (YL h₃ (fun x s₄ h₄=>Yn (YL h₄ (fun _ s₅ h₅=>YS (YS ⟨rfl,h₅⟩)) fun _ _ h'=>h')) fun _ _ h'=>h'))
end
/-! ### the readings -/
/-- what a comprehension asks:W the word by the turn,a measure,the items so far -/
def cWord (J:It)(tt:TT)(te:TE)(σc:V->St)(H1:Hp)(Q:VK):Prop:=∃W:Nat->Nat->List V->Hp->Prop,(∃m,W 0 m [] H1)/\∀i m ys H,W i m ys H->ys.length<sizeLine/\
  ((J.stop i H/\∀p,H p=none->Q (.ref p) (upd H p (.lst ys)))\/
   (J.go i H/\∃N:List V->Hp->Prop,(∀ys' H',N ys' H'->∃m',m'<m/\W (i+1) m' ys' H')/\∀x H',J.yld i H x H'->tt (σc x) H' fun b H3=>if b=true then te (σc x) H3 fun y H4=>N (ys++[y]) H4 else N ys H3))
/-- where a block begins:the def's state then -/
structure CompAt (X:Cx)(C:Addr)(fp:List Addr)(s:Shared)(H:Hp):Prop where
  inv:∃pins σ,Inv X pins σ H s/\∀b∈fp,FpOk X pins H b
  low:∀b∈fp,b<s.heap.objs.size
  up:s.heap.objs.size<=C
def tComp (ix:List Nat)(wi:TI)(tt:TT)(te:TE):TE:=fun σ H Q=>wi σ H fun J H1=>cWord J tt te (fun x=>some x::subS σ ix) H1 Q
section
variable {X:Cx}{scope:Scope}{cl:List (Str×Addr)}{x:Str}{ix:List Nat}{elt iter:Expr}{ifs:List Expr}{pos px:Pos}{wi:TI}{tt:TT}{te:TE}
/-- the block,from the iterator on:behind it the list stands at D,the block's own names at C -/
theorem comp_block (S:CompScope X scope cl x ix)(hc:X.calm=true)
    (ht:∀C fp s H,CompAt X C fp s H->PTs (cxComp X scope cl x ix C fp s H) ifs tt) (he:∀C fp s H,CompAt X C fp s H->PE (cxComp X scope cl x ix C fp s H) elt te)
    {pins:List (Addr×Obj)} {σ:St} {Q:VK} {itv:Value} {s2:Shared} {E:Value->Shared->Prop} {RR:Value->Addr->Result->Shared->Prop} (h2:PIE X pins σ (.Name x px) (fun J H1=>cWord J tt te (fun x=>some x::subS σ ix) H1 Q) itv s2)
    (fin:∀(D C:Addr)(H:Hp)(s':Shared)(m:Str->Option Value),Inv X pins σ H s'->s'.heap.Ns C m->H C=none->s2.heap.objs.size<=C->(∀p∈X.pn++pins,p.1≠C)->X.env.locals≠C->(∀y c,X.env.cells.lookup y=some c->c≠C)->X.s₀.heap.objs.size<=C->Q (.ref D) H->RR (.ref D) C (.ok .next) s')
    (fex:∀(D C:Addr)(e:Value)(s':Shared),compXe X scope cl C e s'->notedBy (model X.prog X.w) X.A (compEnvC scope cl C X.env) (fun e s'=>RR (.ref D) C (.error e) s') e s') :
    wpAny (model X.prog X.w) X.A (newList []) (fun acc s₃=>wpAny (model X.prog X.w) X.A (newFunctionEnv scope X.env.globals cl [] X.env.qual none .none (some X.env)) (fun cenv s₄=>
      codeAny (model X.prog X.w) X.A (.compStart (.ListComp elt [⟨.Name x px,iter,ifs,0⟩] scope pos) 0 itv acc { cenv with scope:=relabel scope X.env }) (RR acc cenv.locals) s₄) E s₃) E s2:=by
  obtain⟨it,fp,tn,J,H2,rfl,I2,T,st2,f2,W,⟨m0,w0⟩,turn⟩:=h2
  have hfl:∀b∈fp,b<s2.heap.objs.size:=fun b hb=>by
    obtain⟨o,e,_⟩:=T.obj _ _ st2 b hb
    exact Yt e
  refine wpAny_newObj_type (wpAny_newFunctionEnv S.nocell (by intro y hy;simp at hy) (fun h₁ hns₁ hsb₁=>?_) S.kind)
  dsimp only at hns₁ hsb₁ ⊢
  generalize hH2:s2.heap.push { cls:= .type "list",dict:=none,data:= .seq ([]:List Value).toArray }=G2 at hns₁ hsb₁ ⊢
  have hC:G2.objs.size=s2.heap.objs.size+1:=by rw[<-hH2,Heap.size_push]
  have hDC:s2.heap.objs.size≠G2.objs.size:=by rw[hC];exact YM (Xq _)
  have hCle:s2.heap.objs.size<=G2.objs.size:=by rw[hC];exact Xx _
  have below:∀b,b<s2.heap.objs.size->b≠G2.objs.size/\b≠s2.heap.objs.size:=fun b hb=>⟨by rw[hC];exact YM (Nat.lt_succ_of_lt hb),YM hb⟩
  have at0:CompAt X G2.objs.size fp s2 H2:=⟨⟨pins,σ,I2,f2⟩,hfl,hCle⟩
  have old:∀b o,s2.heap.get? b=some o->h₁.get? b=some o:=fun b o e=>hsb₁.extBut b o (below b (Yt e)).1 (Yh _ (hH2▸Yh _ e))
  have hacc:h₁.get? s2.heap.objs.size=some { cls:= .type "list",data:= .seq ([]:List Value).toArray 0 }:=hsb₁.extBut _ _ hDC (Yh _ (hH2▸YB _ rfl))
  have st1:tn 0 h₁:=T.keep _ _ _ st2 fun b _ o e=>old b o e
  -- the block's own context
  have stat:∀{H':Hp},(∀b∈fp,H' b=none)->∀b∈fp,FpOk (cxComp X scope cl x ix G2.objs.size fp s2 H2) [] H' b:=fun hn b hb=>
    ⟨hn b hb,(below b (hfl b hb)).1,fun z=>by
      rcases Yr.mp (I2.stkSub b z) with e | e
      · exact(f2 b hb).2.1 e
      · exact(f2 b hb).2.2.1 e,.inl hb,fun y c e=>(f2 b hb).2.2.2.2.1 y c (S.look e),fun p hp=>absurd (show p∈([]:List (Addr×Obj)) from hp) (by simp)⟩
  have I3:∀s₃:Shared,s₃={ s2 with heap:=h₁,toks:=s2.toks+([]:List (Str×Value)).length }->Inv (cxComp X scope cl x ix G2.objs.size fp s2 H2) [] (none::subS σ ix) H2 s₃:=fun s₃ e=>by
    subst e
    exact S.inv I2 f2 hfl hCle rfl I2.bare old hns₁
  -- the list that is being made
  let Acc:List V->Heap->Prop:=fun ys h=>∃its n,Vals ys its/\h.get? s2.heap.objs.size=some { cls:= .type "list",data:= .seq its.toArray n }
  have loop :∀s₃:Shared,s₃={ s2 with heap:=h₁,toks:=s2.toks+([]:List (Str×Value)).length }->
      codeAny (model X.prog X.w) X.A (.compLoop (.ListComp elt [⟨.Name x px,iter,ifs,0⟩] scope pos) 0 (.ref it) (.ref s2.heap.objs.size) (compEnvC scope cl G2.objs.size X.env)) (RR (.ref s2.heap.objs.size) G2.objs.size) s₃:=by
    intro s₃ e₃
    refine compLoop_any (fun n s'=>∃i ys H',Inv (cxComp X scope cl x ix G2.objs.size fp s2 H2) [] (none::subS σ ix) H' s'/\H' s2.heap.objs.size=none/\Acc ys s'.heap/\tn i s'.heap/\(∀b∈fp,H' b=none)/\W i n ys H') ?_ m0
      ⟨0, [],H2,I3 s₃ e₃,I2.hok.fresh (Yc _),⟨[],0,.nil,by rw[e₃];exact hacc⟩,by rw[e₃];exact st1,fun b hb=>(f2 b hb).1,w0⟩
    rintro n s4 ⟨i,ys,H4,I4,hD4,⟨its,kk,rv,eD⟩,st4,fr4,w4⟩
    obtain⟨hsz,q4⟩:=turn i n ys H4 w4
    have hlen:=rv.length
    rcases q4 with ⟨stop,qn⟩ | ⟨go,N,hN,step⟩
    · refine YL (T.done (cxComp X scope cl x ix G2.objs.size fp s2 H2) rfl rfl rfl hc i [(s2.heap.objs.size,{ cls:= .type "list",data:= .seq its.toArray kk })] s4 (none::subS σ ix) H4 (fun _ _=>False) ?_ ?_ st4 stop) (fun r s5 ⟨hr,I5⟩=>?_) fun _ _ z=>z.elim
      · refine I4.pins_of fun p hp=>?_
        rw[Yg.mp hp]
        exact⟨eD,hD4,hDC,fun z=>by
          have:=YY I2.stack z
          obtain⟨_,o,ho,_⟩:=this
          exact YH _ (Yt ho),fun v z=>by cases z⟩
      · intro b hb
        obtain⟨a1,a2,a3,a4,a5,_⟩:=stat fr4 b hb
        exact⟨a1,a2,a3,a4,a5,fun p hp=>by
          rw[Yg.mp hp]
          exact fun z=>(below b (hfl b hb)).2 z.symm⟩
      subst hr
      have eD5:=(I5.pin _ (by simp:(s2.heap.objs.size,({ cls:= .type "list",data:= .seq its.toArray kk }:Obj))∈(cxComp X scope cl x ix G2.objs.size fp s2 H2).pn++[(s2.heap.objs.size,{ cls:= .type "list",data:= .seq its.toArray kk })])).1
      have neD:∀b u,H4 b=some u->b≠s2.heap.objs.size:=fun b u e z=>by rw[z,hD4]at e;cases e
      have new:HOk X.prog X.w (upd H4 s2.heap.objs.size (.lst ys)) s5.heap:=by
        intro b u e
        by_cases hb:b=s2.heap.objs.size
        · subst hb
          rw[upd_same]at e
          cases e
          exact⟨Xz hsz,its,kk,rv,eD5⟩
        · rw[upd_ne hb]at e
          exact(I5.hok b u e).stay (fun c v _ q=>q) (fun c q=>by rw[upd_ne (neD c _ q)];exact q) fun c xs q=>by rw[upd_ne (neD c _ q)];exact q
      have un:Un (frs X.stack) fp H2 (upd H4 s2.heap.objs.size (.lst ys)) s2.heap s5.heap:=by
        have B:=I5.base
        exact⟨B.keep,B.slot,fun b o e n hx=>by rw[upd_ne (below b (Yt e)).2];exact B.free b o e n hx,B.there,
          fun b xs e=>by rw[upd_ne (neD b _ (B.tups b xs e))];exact B.tups b xs e,fun b o u e=>by rw[upd_ne (neD b _ (B.frzs b o u e))];exact B.frzs b o u e,
          fun b ps e=>by
            obtain⟨mm,z⟩:=B.tbls b ps e
            exact⟨mm,by rw[upd_ne (neD b _ z)];exact z⟩⟩
      have J5:Inv X pins σ (upd H4 s2.heap.objs.size (.lst ys)) s5:=I2.call' (ch:=fp) I5.os un new I5.bare fun b hb=>⟨(f2 b hb).2.2.2.1,(f2 b hb).2.1,(f2 b hb).2.2.2.2.1,(f2 b hb).2.2.2.2.2⟩
      obtain⟨mC,hnC,_⟩:=I5.loc
      refine fin _ _ _ _ mC J5 hnC (by rw[upd_ne (Ne.symm hDC)];exact I5.free) hCle (fun p hp z=>?_) (YM (Yv I2.lt hCle)) (fun y c e z=>?_) (Ye I2.sz hCle) (qn _ hD4)
      · exact absurd (Yv (Yt (I2.pin p hp).1) hCle) (by rw[z];exact YH _)
      · obtain⟨v,oc,hoc,_⟩:=I2.cell y c e
        exact absurd (Yv (Yt hoc) hCle) (by rw[z];exact YH _)
    · have pinD:∀{pl:List (Addr×Obj)}{σ':St}{H':Hp}{s':Shared}{its':List Value}{k':Nat},Inv (cxComp X scope cl x ix G2.objs.size fp s2 H2) pl σ' H' s'->s'.heap.get? s2.heap.objs.size=some { cls:= .type "list",data:= .seq its'.toArray k' }->H' s2.heap.objs.size=none->
          Inv (cxComp X scope cl x ix G2.objs.size fp s2 H2) [(s2.heap.objs.size,{ cls:= .type "list",data:= .seq its'.toArray k' })] σ' H' s':=fun I' e' n'=>I'.pins_of fun p hp=>by
        rw[Yg.mp hp]
        exact⟨e',n',hDC,fun z=>by
          obtain⟨_,o,ho,_⟩:=YY I2.stack z
          exact YH _ (Yt ho),fun v z=>by cases z⟩
      have stat2:∀{H':Hp},(∀b∈fp,H' b=none)->∀b∈fp,FpOk (cxComp X scope cl x ix G2.objs.size fp s2 H2) [(s2.heap.objs.size,{ cls:= .type "list",data:= .seq its.toArray kk })] H' b:=fun hn b hb=>by
        obtain⟨a1,a2,a3,a4,a5,_⟩:=stat hn b hb
        exact⟨a1,a2,a3,a4,a5,fun p hp=>by
          rw[Yg.mp hp]
          exact fun z=>(below b (hfl b hb)).2 z.symm⟩
      refine YL (T.item (cxComp X scope cl x ix G2.objs.size fp s2 H2) rfl rfl rfl hc i _ s4 _ H4 (fun _ _=>False) (pinD I4 eD hD4) (stat2 fr4) st4 go) (fun r s5 hz9=>?_) fun _ _ z=>z.elim
      obtain⟨u,hr,h5⟩:=hz9
      subst hr
      refine YL h5 (fun _ s6 hz9=>?_) fun _ _ z=>z.elim
      obtain⟨y,H6,I6,r6,y6,st6,fr6⟩:=hz9
      have I6':=I6.pinned (stat2 fr6) (T.obj _ _ st6)
      have hxl:(relabel scope X.env).names.lookup x=some .local:=lookup_relabel_local S.loc
      refine wpAny_assign_Name (store_ok (X:=cxComp X scope cl x ix G2.objs.size fp s2 H2) (i:=0) I6' (Y0.mp S.nd).2 rfl (.inl hxl) r6 (fun s7 I7=>?_) (.inr hxl))
      have q7:=step y H6 y6
      refine YL (ht _ _ _ _ at0 _ s7 (some y::subS σ ix) H6 _ I7 q7) (fun ok s8 hz9=>?_) fun _ _ z=>fex _ _ _ _ z
      obtain⟨H8,I8,q8⟩:=hz9
      -- what is kept of the iterator and of the list
      have kept:∀{σ9:St}{H9:Hp}{s9:Shared},Inv (cxComp X scope cl x ix G2.objs.size fp s2 H2) ([(s2.heap.objs.size,{ cls:= .type "list",data:= .seq its.toArray kk })]++pinsAt fp s6.heap) σ9 H9 s9->
          s9.heap.get? s2.heap.objs.size=some { cls:= .type "list",data:= .seq its.toArray kk }/\H9 s2.heap.objs.size=none/\tn (i+1) s9.heap/\∀b∈fp,H9 b=none:=fun {σ9 H9 s9} I9=>by
        have p0:=I9.pin (s2.heap.objs.size,{ cls:= .type "list",data:= .seq its.toArray kk }) (YD _ (XG _ (Yg.mpr rfl)))
        refine⟨p0.1,p0.2.1,T.keep _ _ _ st6 fun b hb o e=>(I9.pin (b,o) (YD _ (YD _ (mem_pinsAt hb e)))).1,fun b hb=>?_⟩
        obtain⟨o,e,d⟩:=T.obj _ _ st6 b hb
        exact(I9.pin (b,o) (YD _ (YD _ (mem_pinsAt hb e)))).2.1
      have back:∀{pl:List (Addr×Obj)}{H9:Hp}{s9:Shared},Inv (cxComp X scope cl x ix G2.objs.size fp s2 H2) pl (some y::subS σ ix) H9 s9->Inv (cxComp X scope cl x ix G2.objs.size fp s2 H2) [] (none::subS σ ix) H9 s9:=fun {pl H9 s9} I9=>
        (I9.weak (σ':=none::subS σ ix) rfl fun j v e=>by
          cases j with
          |zero=>cases (show none=some v from YF e)
          |succ j=>exact e).pins_of fun p hp=>nomatch hp
      cases ok with
      | true=>
        rw[if_pos rfl]at q8 ⊢
        refine YL (he _ _ _ _ at0 _ s8 (some y::subS σ ix) H8 _ I8 q8) (fun yv s9 hz9=>?_) fun _ _ z=>fex _ _ _ _ z
        obtain⟨yy,H9,I9,r9,n9⟩:=hz9
        obtain⟨m',hm',w9⟩:=hN _ _ n9
        obtain⟨kD,kn,kt,kf⟩:=kept I9
        refine append_at (hsz:=by rw[Yz];omega) kD fun h10 hs10 hD10=>?_
        have neD:∀b u,H9 b=some u->b≠s2.heap.objs.size:=fun b u e z=>by rw[z,kn]at e;cases e
        have I9':=back I9
        have cellne:∀y c,cl.lookup y=some c->c≠s2.heap.objs.size:=fun y c e z=>by
          obtain⟨v,oc,hoc,_⟩:=I2.cell y c (S.look e)
          exact absurd (Yt hoc) (by rw[z];exact YH _)
        have I10:Inv (cxComp X scope cl x ix G2.objs.size fp s2 H2) [] (none::subS σ ix) H9 { s9 with heap:=h10 }:=I9'.turned (t':=s9.toks) (it:=s2.heap.objs.size) (fun b o hb e=>hs10.extBut b o hb e) kn hDC (.inr (Yc _)) cellne fun p hp=>absurd (show p∈([]:List (Addr×Obj)) from hp) (by simp)
        refine⟨m',hm',i+1,ys++[yy],H9,I10,kn,⟨its++[yv],kk+1,rv.append (.cons r9 .nil),?_⟩,T.keep _ _ _ kt fun b hb o e=>hs10.extBut b o (below b (hfl b hb)).2 e,kf,w9⟩
        refine hD10.trans (YE some ?_)
        simp
      | false=>
        rw[if_neg Ym]at q8 ⊢
        obtain⟨m',hm',w9⟩:=hN _ _ q8
        obtain⟨kD,kn,kt,kf⟩:=kept I8
        exact⟨m',hm',i+1,ys,H8,back I8,kn,⟨its,kk,rv,kD⟩,kt,kf,w9⟩
  exact codeAny_compStart_list (loop _ rfl) (T.self _ 0 _ _ _ st1 (loop _ rfl))
/-! the cells that a comprehension takes along -/
def closFrom (env:Env):List (Str×NameKind)->List (Str×Addr)->List (Str×Addr)
  |[],cs=>cs
  |(n,k)::r,cs=>closFrom env r (if k == .free then (n,(env.cells.lookup n).getD 0)::cs else cs)
theorem clos_eq {env:Env}:∀(names:List (Str×NameKind))(cs:List (Str×Addr)),(∀y∈names,y.2= .free->∃c,env.cells.lookup y.1=some c)->
    (forIn names cs fun (p:Str×NameKind) (r:List (Str×Addr))=>match p with | (name,kind)=>if (kind == .free)=true then do let c<-cellOf env name;pure (ForInStep.yield ((name,c)::r)) else pure (ForInStep.yield r):Sem (List (Str×Addr)))=pure (closFrom env names cs)
  |[],cs,_=>rfl
  | (n, k)::r,cs,h=>by
    rw[List.forIn_cons]
    cases hk:k == NameKind.free with
    | true=>
      obtain⟨c,hc⟩:=h (n,k) Yo (eq_of_beq hk)
      have e1:cellOf env n=pure c:=by unfold cellOf;rw[hc]
      have e2:closFrom env ((n,k)::r) cs=closFrom env r ((n,c)::cs):=by
        show closFrom env r (if (k == .free)=true then (n,(env.cells.lookup n).getD 0)::cs else cs)=_
        rw[hk,if_pos rfl,hc];rfl
      rw[e2,<-clos_eq r ((n,c)::cs) fun y hy=>h y (Yf _ hy)]
      dsimp only
      rw[if_pos hk,e1]
      rfl
    | false=>
      have e2:closFrom env ((n,k)::r) cs=closFrom env r cs:=by
        show closFrom env r (if (k == .free)=true then (n,(env.cells.lookup n).getD 0)::cs else cs)=_
        rw[hk,if_neg Ym]
      rw[e2,<-clos_eq r cs fun y hy=>h y (Yf _ hy)]
      dsimp only
      rw[if_neg (by rw[hk];exact Ym)]
      rfl
theorem closFrom_mem {env:Env}{y:Str×Addr}:∀(names:List (Str×NameKind))(cs:List (Str×Addr)),y∈closFrom env names cs->y∈cs\/∃k∈names,k.2= .free/\k.1=y.1/\y.2=(env.cells.lookup y.1).getD 0
  |[],cs,h=> .inl h
  | (n, k)::r,cs,h=>by
    rcases closFrom_mem r _ h with z | ⟨p,hp,e⟩
    · cases hk:k == NameKind.free with
      | true=>
        rw[hk,if_pos rfl]at z
        rcases Yr.mp z with z | z
        · exact .inr ⟨(n,k),Yo,eq_of_beq hk,by rw[z],by rw[z]⟩
        · exact .inl z
      | false=>
        rw[hk,if_neg Ym]at z
        exact .inl z
    · exact .inr ⟨p,Yf _ hp,e⟩
theorem lookup_some_of_mem {y:Str}{c:Addr}:∀{l:List (Str×Addr)},(y,c)∈l->∃d,l.lookup y=some d
  |[],h=>by simp at h
  | (n, d)::r,h=>by
    rw[Y6]
    cases e:y == n with
    |true=>exact⟨d,rfl⟩
    | false=>
      rcases Yr.mp h with z | z
      · have:y=n:=(Prod.mk.inj z).1
        rw[this,beq_self_eq_true]at e;cases e
      · exact lookup_some_of_mem z
theorem mem_closFrom {env:Env}{y:Str}:∀(names:List (Str×NameKind))(cs:List (Str×Addr)),((y,NameKind.free)∈names\/∃c,(y,c)∈cs)->∃c,(y,c)∈closFrom env names cs
  | [],cs,h=>by
    rcases h with h | h
    · simp at h
    · exact h
  | (n, k)::r,cs,h=>by
    refine mem_closFrom r _ ?_
    rcases h with h | ⟨c,h⟩
    · rcases Yr.mp h with z | z
      · obtain⟨e1,e2⟩:=Prod.mk.inj z
        subst e1 e2
        exact .inr ⟨(env.cells.lookup y).getD 0,by rw[if_pos (beq_self_eq_true _)];exact Yo⟩
      · exact .inl z
    · refine .inr ⟨c,?_⟩
      split
      · exact Yf _ h
      · exact h
/-- what is asked of the text,by a look -/
def compOk (scope:Scope)(env:Env)(x:Str):Bool:=scope.names.all fun y=>(y.2 != .local || ((y.1 == x || y.1 == ".0") && scope.names.lookup y.1 == some .local)) && y.2 != .cell && (y.2 != .free || env.kindOf y.1 == some .cell || env.kindOf y.1 == some .free)
theorem compScope_of (ok:X.Ok)(hk:scope.kind= .function)(hx:scope.names.lookup x=some .local)(hall:compOk scope X.env x=true)(nd:((".0":Str)::x::subN X.N ix).Nodup):CompScope X scope (closFrom X.env scope.names []) x ix:=by
  have all:∀y∈scope.names,(y.2= .local->(y.1=x\/y.1=".0")/\scope.names.lookup y.1=some .local)/\y.2≠ .cell/\(y.2= .free->(X.env.kindOf y.1=some .cell\/X.env.kindOf y.1=some .free)):=fun y hy=>by
    have z:=Yu.mp hall y hy
    simp only[YT,Bool.or_eq_true,bne_iff_ne,Xo,ne_eq]at z
    refine⟨fun e=>z.1.1.resolve_left fun q=>q e,z.1.2,fun e=>?_⟩
    rcases z.2 with (q | q) | q
    · exact absurd e q
    · exact .inl q
    · exact .inr q
  have cells:∀y∈scope.names,y.2= .free->∃c,X.env.cells.lookup y.1=some c:=fun y hy e=>ok.has y.1 ((all y hy).2.2 e)
  refine⟨?_,hk,hx,fun y hy e=>((all y hy).1 e).1,fun y hy e=>((all y hy).1 e).2,fun y hy=>(all y hy).2.1,fun y hy=>(all y hy).2.2,fun y hy e=>?_,fun y hy=>?_,nd⟩
  · have q:=clos_eq scope.names [] cells
    unfold closureFor
    have q2:(forIn scope.names [] fun (p:Str×NameKind) (r:List (Str×Addr))=>match p with | (name,kind)=>if (kind == .free)=true then do let c<-cellOf X.env name;pure (ForInStep.yield ((name,c)::r)) else pure (ForInStep.yield r):Sem (List (Str×Addr))) >>= (fun cs=>pure cs)=pure (closFrom X.env scope.names []):=by
      rw[q];rfl
    exact q2
  · obtain⟨n,k⟩:=y
    have e':k= .free:=e
    subst e'
    obtain⟨c,hc⟩:=mem_closFrom (env:=X.env) scope.names [] (.inl hy)
    exact lookup_some_of_mem hc
  · rcases closFrom_mem scope.names [] hy with z | ⟨p,hp,e1,e2,e3⟩
    · simp at z
    · obtain⟨c,hc⟩:=cells p hp e1
      rw[e2]at hc
      rw[e3,hc];rfl
/-- [e for x in it if ..] -/
theorem pe_comp (hc:X.calm=true)(hi:PI X (.Name x px) iter wi)(ht:∀C fp s H,CompAt X C fp s H->PTs (cxComp X scope (closFrom X.env scope.names []) x ix C fp s H) ifs tt)(he:∀C fp s H,CompAt X C fp s H->PE (cxComp X scope (closFrom X.env scope.names []) x ix C fp s H) elt te)
    (hk:scope.kind= .function) (hx:scope.names.lookup x=some .local) (hall:compOk scope X.env x=true) (nd:((".0":Str)::x::subN X.N ix).Nodup)
    (hs:∀x,foldedSetIterable iter X.env x=pure x:=by intro _;rfl):PE X (.ListComp elt [⟨.Name x px,iter,ifs,0⟩] scope pos) (tComp ix wi tt te):=by
  intro pins s σ H Q I h
  have S:CompScope X scope (closFrom X.env scope.names []) x ix:=compScope_of I.ok hk hx hall nd
  rw[eval_ListComp]
  refine wpAny_comprehension_free (use:=none) rfl hs S.clos S.kind S.locs (thn (hi pins s σ H _ I h) fun v s1 h1=>thn h1 fun itv s2 h2=>?_)
  refine comp_block S hc ht he h2 (fun D C H' s' m J hn hCn hCle hp hL hcl hs0 q=>?_) fun D C e s' z=>z
  exact⟨m,hn,fun h' sb=>⟨.ref D,H',J.turned (t':=s'.toks) (fun b o hb e=>sb.extBut b o hb e) hCn (Ne.symm hL) (.inr hs0) hcl hp,rfl,q⟩⟩
/-- y= [e for x in it if ..],y a plain local of the def,on one row -/
theorem ps_setComp {j:Nat}{y:Str}{py spos:Pos}(hN:X.N.Nodup)(hj:X.N[j]? =some y)(hy:X.env.scope.names.lookup y=some .local)(hc:X.calm=true)(hi:PI X (.Name x px) iter wi)
    (ht:∀C fp s H,CompAt X C fp s H->PTs (cxComp X scope (closFrom X.env scope.names []) x ix C fp s H) ifs tt) (he:∀C fp s H,CompAt X C fp s H->PE (cxComp X scope (closFrom X.env scope.names []) x ix C fp s H) elt te)
    (hk:scope.kind= .function) (hx:scope.names.lookup x=some .local) (hall:compOk scope X.env x=true) (nd:((".0":Str)::x::subN X.N ix).Nodup)
    (hsw:swapsWith (.ListComp elt [⟨.Name x px,iter,ifs,0⟩] scope pos) (some (.Name y py)) spos.line X.env=pure true:=by rfl) (hs:∀x,foldedSetIterable iter X.env x=pure x:=by intro _;rfl) :
    PS X (.Assign [.Name y py] (.ListComp elt [⟨.Name x px,iter,ifs,0⟩] scope pos) spos) (tAsg (tComp ix wi tt te) (gName j)):=by
  intro pins s σ H D I h
  have S:CompScope X scope (closFrom X.env scope.names []) x ix:=compScope_of I.ok hk hx hall nd
  rw[exec_Assign_Name_used _ _ _ _ hsw]
  refine Yn (wpAny_standAt (Yn ?_))
  show wpAny _ _ (do let _<-comprehension (.ListComp elt [⟨.Name x px,iter,ifs,0⟩] scope pos) scope X.env _ (newList []) false (eval iter X.env) (some (assign (.Name y py) X.env))) _ _ s
  refine Yn (YL (wpAny_comprehension_free (use:=some (assign (.Name y py) X.env)) (Q:=fun _ s'=>SP X pins D .next s') rfl hs S.clos S.kind S.locs
    (thn (hi pins s σ H _ I h) fun v s1 h1=>thn h1 fun itv s2 h2=>?_)) (fun _ s' hq=>YS (YS hq)) fun _ _ e=>e)
  refine comp_block (Q:=fun v H1=>D.nx (σ.set j (some v)) H1) S hc ht he h2 (fun D' C H' s' m J hn hCn hCle hp hL hcl hs0 q=>?_) fun D' C e s' z=>z
  show wpAny _ _ (assign (.Name y py) X.env (.ref D')) _ _ _
  refine wpAny_assign_Name (store_ok2 J hN hj (.inl hy) (v:= .ref D') rfl (fun s'' J' hz9=>?_) (.inr hy))
  obtain⟨a,sb,ha⟩:=hz9
  have hCa:C≠a:=by
    rcases ha with e | e
    · rw[e];exact Ne.symm hL
    · exact Ne.symm (hcl y a e)
  exact⟨m,hn.sameBut sb hCa,fun h' sb'=>⟨σ.set j (some (.ref D')),H',J'.turned (t':=s''.toks) (fun b o hb e=>sb'.extBut b o hb e) hCn (Ne.symm hL) (.inr hs0) hcl hp,q⟩⟩
end
/-! ### the forms one uses:a word by the turn and the items so far -/
theorem comp_range {lo:Int}{n:Nat}{tt:TT}{te:TE}{σc:V->St}{H:Hp}{Q:VK}(Pv:Nat->List V->Hp->Prop)(hn:∀i ys H,i<=n->Pv i ys H->ys.length<sizeLine)(h0:Pv 0 [] H)
    (hs:∀i ys H,i<n->Pv i ys H->tt (σc (.int (lo+i))) H fun b H3=>if b=true then te (σc (.int (lo+i))) H3 fun y H4=>Pv (i+1) (ys++[y]) H4 else Pv (i+1) ys H3)
    (hd:∀ys H,Pv n ys H->∀p,H p=none->Q (.ref p) (upd H p (.lst ys))):cWord (Itr lo n) tt te σc H Q:=by
  refine⟨fun i m ys H=>m=n-i/\i<=n/\Pv i ys H,⟨n,by simp,YO _,h0⟩,?_⟩
  rintro i m ys H ⟨rfl,hi,p⟩
  refine⟨hn i ys H hi p,?_⟩
  by_cases hlt:i<n
  · refine .inr ⟨hlt,Pv (i+1),fun ys' H' q=>⟨n-(i+1),by omega,rfl,hlt,q⟩,fun x H' y=>?_⟩
    obtain⟨e,y⟩:=y
    subst e y
    exact hs i ys _ hlt p
  · have e:i=n:=by omega
    subst e
    exact .inl ⟨Yc _,hd ys H p⟩
theorem comp_list {K:W.Frag}{a:Addr}{xs:List V}{tt:TT}{te:TE}{σc:V->St}{H:Hp}{Q:VK}(Pv:Nat->List V->Hp->Prop)(hn:∀i ys H,i<=xs.length->Pv i ys H->ys.length<sizeLine)(h0:Pv 0 [] H)
    (hl:∀i ys H,i<=xs.length->Pv i ys H->SqL K H a xs)
    (hs:∀i x ys H,xs[i]? =some x->Pv i ys H->tt (σc x) H fun b H3=>if b=true then te (σc x) H3 fun y H4=>Pv (i+1) (ys++[y]) H4 else Pv (i+1) ys H3)
    (hd:∀ys H,Pv xs.length ys H->∀p,H p=none->Q (.ref p) (upd H p (.lst ys))):cWord (Itl K a) tt te σc H Q:=by
  refine⟨fun i m ys H=>m=xs.length-i/\i<=xs.length/\Pv i ys H,⟨xs.length,by simp,YO _,h0⟩,?_⟩
  rintro i m ys H ⟨rfl,hi,p⟩
  have q:=hl i ys H hi p
  refine⟨hn i ys H hi p,?_⟩
  by_cases hlt:i<xs.length
  · refine .inr ⟨⟨xs,xs[i],q,by simp[hlt]⟩,Pv (i+1),fun ys' H' q=>⟨xs.length-(i+1),by omega,rfl,hlt,q⟩,fun x H' y=>?_⟩
    obtain⟨e,y⟩:=y
    subst e
    exact hs i x ys _ (y xs q) p
  · have e:i=xs.length:=by omega
    subst e
    exact .inl ⟨⟨xs,q,Yc _⟩,hd ys H p⟩
end L2

/-! isinstance of a caught exception;of a value against a tuple of classes -/
namespace L2
open PySem PySem.Spec PyProof.Rows PySem.W PySem.Builtin PySem.Builtin.ObjectAttr PySem.Builtin.Getset_descriptor
section
variable {prog:Program}{w:World}{A:Around}{E:Value->Shared->Prop}{K:W.Frag}{a C:Addr}
/-- what is read off the written part for an exception's class -/
structure ExcC (K:W.Frag)(C:Addr):Prop where
  cd:(W.clsIn K C).isSome=true
  ga:W.findIn K (.ref C) "__getattribute__"=some (some (.builtin "BaseException.__getattribute__"))
  hk:W.findIn K (.ref C) "__getattr__"=some none
  cl:W.findIn K (.ref C) "__class__"=some (some (.builtin "object.__class__"))
  gt:W.specialIn K (.builtin "object.__class__") "__get__"=some (some (.builtin "getset_descriptor.__get__"))
  tk:W.takesIn K (.builtin "object.__class__")=some true
  ob:W.mroIn K C (.type "object")=some true
  ba:W.mroIn K C (.type "BaseException")=some true
theorem exc_ty {h:Heap}{o:Obj}(hx:h.get? a=some o)(hc:o.cls= .ref C)(M:Model):W.Looks M h (typeOf (.ref a)) (.ref C):=hc▸(W.Looks.ld hx).andThen .now
theorem exc_getter {R:Result->Shared->Prop}{tp:Value}{s:Shared}{o:Obj}(X:K.In s.heap)(hx:s.heap.get? a=some o)(hc:o.cls= .ref C)(hm:W.mroIn K C (.type "object")=some true)
    (hR:R (.ok (.ret (.ref C))) s):codeAny (model prog w) A (.call (.builtin "getset_descriptor.__get__") ⟨[.builtin "object.__class__",.ref a,tp], []⟩) R s:=by
  obtain⟨hh,gs,dr,tt,oo⟩:=s
  have L0:=exc_ty hx hc (model prog w)
  have L1:=W.looks_mroIn (M:=model prog w) X hm
  refine codeAny_call_builtin W.KF.slot_gs.plain W.KF.entry_gs (W.KF.slot_gs.check _ _ _ _ _ _ _ _ W.KF.type_class (W.KF.args_gs _ _ _) ?_)
  unfold Builtin.«getset_descriptor.__get__» descrGet
  rw[W.dga_obj]
  apply Yn
  apply YS
  unfold descrGetter descrCheckInstance descrNameAndClass isInstance
  simp only[W.KF.owner_class]
  repeat lk
  refine⟨Code.quiet_builtin _ (by decide +kernel),codeAny_builtin W.KF.entry_class ?_⟩
  unfold Builtin.«object.__class__» shownTypeOf
  repeat lk
  exact hR
theorem exc_find {h:Heap}(T:ExcC K C)(X:K.In h)(M:Model):W.Looks M h (find (.ref a) (.ref C) "__class__") (.bind (.builtin "getset_descriptor.__get__") (.builtin "object.__class__")):=by
  have L1:=W.looks_findIn (M:=M) X T.cl
  have L2:W.Looks M h (getOf (some (.builtin "object.__class__"))) (some (.builtin "getset_descriptor.__get__")):=W.looks_specialIn X T.gt
  have L3:=W.looks_takesIn (M:=M) X T.tk
  have L4:W.Looks M h (dataDescriptor? (some (.builtin "object.__class__")) (some (.builtin "getset_descriptor.__get__"))) (some (.builtin "getset_descriptor.__get__",.builtin "object.__class__")):=L3.andThen .now
  exact L1.andThen (L2.andThen (L4.andThen (W.Looks.tag .now)))
theorem exc_class {s:Shared}{o:Obj}{Q:Option Value->Shared->Prop}(T:ExcC K C)(X:K.In s.heap)(hx:s.heap.get? a=some o)(hc:o.cls= .ref C)(hq:Q (some (.ref C)) { s with toks:=s.toks+1 }) :
    wpAny (model prog w) A (getAttr? (.ref a) "__class__") Q E s:=by
  obtain⟨hh,gs,dr,tt,oo⟩:=s
  have L0:=exc_ty hx hc (model prog w)
  have L1:=W.looks_findIn (M:=model prog w) X T.ga
  have L2:=W.looks_findIn (M:=model prog w) X T.hk
  have L3:=exc_find (a:=a) T X (model prog w)
  have LB:=W.looks_mroIn (M:=model prog w) X T.ba
  unfold getAttr? getAttrBy? getAttrBy
  refine Yn (wpAny_mkText (Yn (wpAny_attempt (wpAny_holding (Yn (L0.at (Yn (L1.at ?_))))))))
  have ne:(onTheHeap (Value.ref C) && (Value.builtin "BaseException.__getattribute__" == Value.builtin "object.__getattribute__"))=false:=by
    have:(Value.builtin "BaseException.__getattribute__" == Value.builtin "object.__getattribute__")=false:=by decide +kernel
    rw[this];exact Bool.and_false _
  dsimp only
  rw[ne,if_neg Ym]
  unfold getAttrByItsOwn hookBefore
  rw[if_pos (show onTheHeap (Value.ref C)=true from rfl)]
  refine Yn (L2.at ?_)
  refine Yn (wpAny_attempt (wpAny_holding ?_))
  show wpAny _ _ (boundAndCalled _ _ _) _ _ _
  unfold boundAndCalled
  refine Yn (wpAny_of_eq (F.attr_ValueError.ga.bind (.ref a)) ?_)
  refine wpAny_call ?_
  refine codeAny_call_builtin F.attr_ValueError.ga.plain F.entry_bexc_ga ?_
  have hk:builtinKind "BaseException.__getattribute__"=some .slot:=by decide +kernel
  have hsplit:splitId "BaseException.__getattribute__"=some ("BaseException","__getattribute__"):=by decide +kernel
  have hargs:=F.args_bexc_ga (.ref a) (.str (Str.ofString "__class__") tt)
  simp only[checkBuiltinCall,hk,hsplit]
  refine Yn ?_
  unfold isInstance
  repeat lk
  refine wpAny_run (exc_getter (K:=K) (C:=C) X hx hc T.ob ?_)
  repeat lk
  exact hq
theorem kitx_exc (T:ExcC K C):W.KitX K (.ref a) (.ref C) (fun h=>∃o vs,h.get? a=some o/\o.cls= .ref C/\o.data= .fields vs) where
  ty :=fun M h _ p=>by
    obtain⟨o,_,e,c,_⟩:=p
    exact exc_ty e c M
  it :=fun _ _ X _=>by
    have hcd:=T.cd
    unfold W.clsIn at hcd
    split at hcd
    · rename_i look
      intro A' Q' E' s' k q
      unfold isType loadHead
      exact Yn (wpAny_loadPart (k _ _ (X _ _ look)) (YS q))
    · cases hcd
  ne :=fun h tp dd its n sl X htp=>by
    have hcd:=T.cd
    refine Bool.eq_false_iff.mpr fun q=>?_
    have e:C=tp:=Value.ref.inj (Xo.mp q)
    subst e
    unfold W.clsIn at hcd
    split at hcd
    · rename_i look
      have z:=(X _ _ look).symm.trans htp
      cases z
    · cases hcd
  ca :=fun X p k=>by
    obtain⟨o,_,e,c,_⟩:=p
    exact exc_class T X e c k
end
section
variable {X:Cx}
/-- isinstance(e,C),e a caught exception -/
theorem call_isiX:CallR X (.builtin "isinstance") (fun xs H Q=>∃a c cv C b,xs= [.ref a,c]/\clsV c=some cv/\(∃od,H a=some (excO (.ref C) a od))/\ExcC X.K C/\W.kitOne X.K (.ref C) cv=some b/\Q (.bl b) H):=by
  intro pins s σ H xs us Q I rv h
  obtain⟨a,c,cv,C,b,rfl,ec,ha,T,e,q⟩:=h
  obtain⟨u,v,rfl,rx,rc⟩:=rv.two
  cases clsV_is ec rc
  cases (show u=Value.ref a from rx)
  obtain⟨od,ha⟩:=ha
  obtain⟨oe,vs,q1,⟨q2,_⟩,q3⟩:=(show ObjOk X.prog X.w H s.heap a (excO (.ref C) a od) from I.hok a _ ha).1
  have p:∃o vs,s.heap.get? a=some o/\o.cls= .ref C/\o.data= .fields vs:=⟨oe,vs,q1,q2,q3⟩
  exact W.kia_one (kitx_exc T) I.kIn p e (fun z=>nomatch z) fun tk=>⟨.bl b,H,I.tok _,rfl,q⟩
theorem call_isiXK {K:W.Frag}(hK:X.K=K:=by rfl):CallR X (.builtin "isinstance") (fun xs H Q=>∃a c cv C b,xs= [.ref a,c]/\clsV c=some cv/\(∃od,H a=some (excO (.ref C) a od))/\ExcC K C/\W.kitOne K (.ref C) cv=some b/\Q (.bl b) H):=by
  subst hK
  exact call_isiX
end
end L2

/-! DEEP EQUALITY:lists and tuples of ints,bools,texts,None,lists,tuples -/
namespace L2
open PySem PySem.Spec PyProof.Rows
mutual
inductive DV (K:W.Frag)(H:Hp):V->PyData->Prop
  |non:DV K H .non .none
  |bl (b:Bool):DV K H (.bl b) (.bool b)
  |int (i:Int):DV K H (.int i) (.int i)
  |str (x:Str):DV K H (.str x) (.str x)
  |lst {a:Addr} {xs:List V} {ds:List PyData}:SqL K H a xs->DVs K H xs ds->DV K H (.ref a) (.list ds)
  |tup {a:Addr} {xs:List V} {ds:List PyData}:SqT K H a xs->DVs K H xs ds->DV K H (.ref a) (.tuple ds)
inductive DVs (K:W.Frag)(H:Hp):List V->List PyData->Prop
  |nil:DVs K H [] []
  |cons {x:V} {xs:List V} {d:PyData} {ds:List PyData}:DV K H x d->DVs K H xs ds->DVs K H (x::xs) (d::ds)
end
section
variable {X:Cx}{pins:List (Addr×Obj)}{σ:St}{H:Hp}{s:Shared}
mutual
theorem Inv.reads (I:Inv X pins σ H s):∀{x:V}{d:PyData}{u:Value},DV X.K H x d->RelV x u->∃as,Reads s.heap u d as
  |_,_,_,.non,r=>by cases r;exact⟨_,Reads.none⟩
  |_,_,_,.bl b,r=>by cases r;exact⟨_,Reads.bool b⟩
  |_,_,_,.int i,r=>by obtain⟨t,rfl⟩:=r;exact⟨_,Reads.int i t⟩
  |_,_,_,.str x,r=>by obtain⟨t,rfl⟩:=r;exact⟨_,Reads.str x t⟩
  | _,_,_,.lst h r,rr=>by
    cases rr
    obtain⟨its,rv,⟨o,n,e,c,_,dt⟩,_⟩:=I.list h
    obtain⟨as,q⟩:=Inv.readsAll I r rv
    exact⟨_,reads_list_at e c dt (by simpa using q)⟩
  | _,_,_,.tup h r,rr=>by
    cases rr
    obtain⟨its,rv,⟨o,e,c,n,dt⟩,_⟩:=I.tuple h
    obtain⟨as,q⟩:=Inv.readsAll I r rv
    exact⟨_,reads_tuple_at e c dt (by simpa using q)⟩
theorem Inv.readsAll (I:Inv X pins σ H s):∀{xs:List V}{ds:List PyData}{us:List Value},DVs X.K H xs ds->Vals xs us->∃as,ReadsAll s.heap us ds as
  |_,_,_,.nil,.nil=>⟨_,ReadsAll.nil⟩
  | _,_,_,.cons h r,.cons q p=>by
    obtain⟨as,q1⟩:=Inv.reads I h q
    obtain⟨bs,q2⟩:=Inv.readsAll I r p
    exact⟨_,ReadsAll.cons q1 q2⟩
end
end
section
variable {X:Cx}
theorem z_eqD (hu:X.A.units+64<cLine):OpR X (compareOp .Eq) (fun x y H Q=>∃d e,DV X.K H x d/\DV X.K H y e/\SeqAt.shaped d=true/\SeqAt.shaped e=true/\Q (.bl (PyData.eqv d e)) H):=by
  intro pins s σ H x y v u Q I rx ry h
  obtain⟨d,e,hd,he,sd,se,q⟩:=h
  obtain⟨as,ra⟩:=I.reads hd rx
  obtain⟨bs,rb⟩:=I.reads he ry
  exact eq_dataH ra rb sd se hu ⟨.bl _,H,I,rfl,q⟩
theorem z_neD (hu:X.A.units+64<cLine):OpR X (compareOp .NotEq) (fun x y H Q=>∃d e,DV X.K H x d/\DV X.K H y e/\SeqAt.shaped d=true/\SeqAt.shaped e=true/\Q (.bl (!PyData.eqv d e)) H):=by
  intro pins s σ H x y v u Q I rx ry h
  obtain⟨d,e,hd,he,sd,se,q⟩:=h
  obtain⟨as,ra⟩:=I.reads hd rx
  obtain⟨bs,rb⟩:=I.reads he ry
  exact ne_dataH ra rb sd se hu ⟨.bl _,H,I,rfl,q⟩
/-- two that are the same data -/
theorem z_eqS (hu:X.A.units+64<cLine):OpR X (compareOp .Eq) (fun x y H Q=>∃d,DV X.K H x d/\DV X.K H y d/\SeqAt.shaped d=true/\Q (.bl true) H):=(z_eqD hu).imp fun x y H Q ⟨d,h1,h2,h3,q⟩=>⟨d,d,h1,h2,h3,h3,by rw[SeqAt.eqv_refl d (SeqAt.canLay_of_shaped h3)];exact q⟩
theorem z_neS (hu:X.A.units+64<cLine):OpR X (compareOp .NotEq) (fun x y H Q=>∃d,DV X.K H x d/\DV X.K H y d/\SeqAt.shaped d=true/\Q (.bl false) H):=(z_neD hu).imp fun x y H Q ⟨d,h1,h2,h3,q⟩=>⟨d,d,h1,h2,h3,h3,by rw[SeqAt.eqv_refl d (SeqAt.canLay_of_shaped h3)];exact q⟩
end
end L2

/-! sum,min,max of a list of ints -/
namespace L2
open PySem PySem.Spec PyProof.Rows
section
variable {X:Cx}
def mCat:R2:=fun x y H Q=>vR x fun l=>vR y fun b=>∃xs zs,H l=some (.lst xs)/\H b=some (.lst zs)/\xs.length+zs.length<=sizeLine/\∀p,H p=none->Q (.ref p) (upd H p (.lst (xs++zs)))
theorem z_cat:OpR X (binaryOp .Add) mCat:=op_cat.imp fun x y H Q h=>by
  obtain⟨l,rfl,hh⟩:=vR.ex h
  clear h
  obtain⟨b,rfl,xs,zs,h1,h2,h3,h4⟩:=vR.ex hh
  exact⟨l,b,xs,zs,rfl,rfl,h1,h2,h3,h4⟩
end
end L2

/-! range with a step;set(xs) of ints,its length -/
namespace L2
open PySem PySem.Spec PyProof.Rows
def l3 (vs:List V)(k:V->V->V->Prop):Prop:=@List.rec V (fun _=>Prop) False (fun x r _=>l2 r fun y z=>k x y z) vs
theorem l3.ex {vs:List V}{k:V->V->V->Prop}(h:l3 vs k):∃x y z,vs= [x,y,z]/\k x y z:=by
  match vs,h with
  |[x,y,z],h=>exact⟨x,y,z,rfl,h⟩
/-- lo,lo+c, .. (n of them) -/
def Itrc (lo c:Int)(n:Nat):It:=⟨fun i _=>i<n,fun i H x H'=>H'=H/\x= .int (lo+i*c),fun i _=>n<=i⟩
theorem turn_rangec {P:Program}{w:World}{K:W.Frag}{tg:Expr}(it:Addr)(lo c:Int)(n:Nat):Turn P w K tg (Itrc lo c n) [it] it (fun i h=>IsRangeIter h it (lo+(i:Nat)*c) ((n:Int)-(i:Nat)) c) where
  mem:=by simp
  obj :=fun i h st b hb=>by
    have e:b=it:=by simpa using hb
    subst e
    exact⟨_,st,fun v z=>by
      have z':Data.fields _=Data.cell v:=z
      cases z'⟩
  keep:=fun i h h' st k=>k it (by simp) _ st
  item:=by
    intro X hP hw hK hc i pins s σ H E I hf st hg
    subst hP hw hK
    obtain⟨f0,f1,f2,f3,f4,f5⟩:=hf it (by simp)
    have W:=Walks.range (prog:=X.prog) (w:=X.w) (I.ok.hd hc) it lo c n
    refine W.item i s _ _ hg st fun v h' tk hv st' kk=>?_
    obtain⟨t,rfl⟩:=hv
    have I1:Inv X pins σ H { s with heap:=h',toks:=tk }:=I.turned (fun b o hb e=>kk b o (by simpa using hb) e) f0 f1 f3 f4 f5
    exact⟨_,rfl,go_of (s:={ s with heap:=h',toks:=tk }) (n:="range_iterator") st' rfl rfl (by decide) ⟨.int (lo+i*c),H,I1,⟨t,rfl⟩,⟨rfl,rfl⟩,st',fun b hb=>(hf b hb).1⟩⟩
  done:=by
    intro X hP hw hK hc i pins s σ H E I hf st hg
    subst hP hw hK
    obtain⟨f0,f1,f2,f3,f4,f5⟩:=hf it (by simp)
    exact wpAny_pyNext_range_end (I.ok.hd hc) st (by have:n<=i:=hg;omega) fun h' eb=>⟨rfl,I.turned (t':=s.toks) (fun b o hb e=>eb b o hb e) f0 f1 f3 f4 f5⟩
  self:=fun _ _ _ _ _ st h=>wpAny_pyIter_rangeiter st h
section
variable {X:Cx}{tg:Expr}
def dRng3 (ta:TA):TI:=fun σ H R=>ta σ H fun vs H1=>l3 vs fun x y z=>vI x fun i=>vI y fun j=>vI z fun c=>c≠0/\Builtin.divisionGoesByPylong (j-i) c=false/\∃n:Nat,Builtin.Range.small i j c=true/\Builtin.Range.rangeSize i j c=(n:Int)/\R (Itrc i c n) H1
theorem mi_range3 {a b c:Expr}{ta:TA}{p pos:Pos}(hg:Gl X "range")(hm:X.mg "range"=none)(ha:PA X [a,b,c] ta)(hs:starEach [a,b,c] X.env=(false,eval a X.env)::starEach [b,c] X.env:=by rfl)(hs2:(backTo pos (starEach [b,c] X.env)).any (·.1)=false:=by rfl) :
    PI X tg (.Call (.Name "range" p) [a,b,c] [] pos) (dRng3 ta):=by
  intro pins s σ H R I h
  refine Call_ (ld_blt I hg hm boot_range (Y2 (thn (ha pos pins s σ H _ I h) fun us s1 hz9=>?_) hs hs2))
  obtain⟨vs,H1,I1,r1,q1⟩:=hz9
  obtain⟨x,y,z,rfl,q2⟩:=l3.ex q1
  obtain⟨i,rfl,q3⟩:=vI.ex q2
  obtain⟨j,rfl,q4⟩:=vI.ex q3
  obtain⟨c,rfl,hc,hp,n,hsm,hn,q⟩:=vI.ex q4
  cases r1 with
  | cons r rr=>
    cases rr with
    | cons r' rr=>
      cases rr with
      | cons r'' rr=>
        cases rr
        obtain⟨t,rfl⟩:=r
        obtain⟨t',rfl⟩:=r'
        obtain⟨t'',rfl⟩:=r''
        refine call_range_3 hc ?_ (.inl hp)
        refine wpAny_pyIter_range (IsRange.new ..) hsm ?_
        have I2:Inv X pins σ H1 { s1 with heap:=s1.heap.push { cls:= .type "range",data:= .fields #[.int i t,.int j t',.int c t''] },toks:=s1.toks }:=I1.kept fun b o e=>Yh _ e
        refine⟨(s1.heap.push { cls:= .type "range",data:= .fields #[.int i t,.int j t',.int c t''] }).objs.size, [(s1.heap.push { cls:= .type "range",data:= .fields #[.int i t,.int j t',.int c t''] }).objs.size],_,_,H1,rfl,
          I2.kept (t':=s1.toks) fun b o e=>Yh _ e,turn_rangec _ i c n,?_,fun b hb=>?_,q⟩
        · show IsRangeIter _ _ (i+((0:Nat):Int)*c) ((n:Int)-((0:Nat):Int)) c
          have e1:i+((0:Nat):Int)*c=i:=by simp
          have e2:(n:Int)-((0:Nat):Int)=Builtin.Range.rangeSize i j c:=by rw[hn];simp
          rw[e1,e2]
          exact YB _ rfl
        · have e:b=(s1.heap.push { cls:= .type "range",data:= .fields #[.int i t,.int j t',.int c t''] }).objs.size:=by simpa using hb
          subst e
          exact I2.fpOk (Yc _) (I2.hok.fresh (Yc _))
end
/-! ### set(xs) -/
section
variable {X:Cx}
end
end L2

/-! chains of comparisons,data by places -/
namespace L2
open PySem PySem.Spec PyProof.Rows
section
variable {X:Cx}{a b c:Expr}{ta tb tc:TE}{pos:Pos}
def dChain (r r':R2)(ta tb tc:TE):TE:=fun σ H Q=>ta σ H fun x H1=>tb σ H1 fun y H2=>r x y H2 fun z H3=>vB z fun k=>if k=true then tc σ H3 fun u H4=>r' y u H4 Q else Q (.bl false) H3
theorem dChain_eq (r r':R2)(ta tb tc:TE):dChain r r' ta tb tc=tChain r r' ta tb tc:=by
  funext σ H Q
  unfold dChain tChain
  simp only[vB_iff]
theorem md_chain {op op':CmpOp}{r r':R2}(ho:OpR X (compareOp op) r)(ho':OpR X (compareOp op') r')(ha:PE X a ta)(hb:PE X b tb)(hc:PE X c tc)
    (hm:lastMarks [op,op'] [b,c]=false:=by with_unfolding_all rfl):PE X (.Compare a [op,op'] [b,c] pos) (dChain r r' ta tb tc):=by
  rw[dChain_eq];exact pe_chain ho ho' ha hb hc hm
theorem mt_chain {op op':CmpOp}{r r':R2}(ho:OpR X (compareOp op) r)(ho':OpR X (compareOp op') r')(ha:PE X a ta)(hb:PE X b tb)(hc:PE X c tc)
    (hm:lastMarks [op,op'] [b,c]=false:=by with_unfolding_all rfl):PT X (.Compare a [op,op'] [b,c] pos) (dTest (dChain r r' ta tb tc)):=by
  rw[dChain_eq,dTest_eq];exact pt_chain ho ho' ha hb hc hm
theorem inV_ints (z:Int):∀ns:List Int,inV (.int z) (ns.map V.int)=decide (z∈ns)/\(ns.map V.int).all flatV=true
  |[]=>⟨rfl,rfl⟩
  | n ::r=>by
    have ih:=inV_ints z r
    refine⟨?_,?_⟩
    · unfold inV at ih ⊢
      rw[Yy,XF,ih.1]
      show ((n == z) || decide (z∈r))=decide (z∈n::r)
      rw[XH]
      simp only[Bool.or_eq_true,Xo,Xi,Yr]
      exact⟨fun h=>h.imp Eq.symm id,fun h=>h.imp Eq.symm id⟩
    · rw[Yy,Xf,ih.2];rfl
def mInI (K:W.Frag)(f:Bool->Bool):R2:=fun x y H Q=>vI x fun z=>vR y fun p=>∃ns:List Int,SqA K H p (ns.map V.int)/\Q (.bl (f (decide (z∈ns)))) H
theorem z_notInI:OpR X (compareOp .NotIn) (mInI X.K not):=op_notIn_seq.imp fun x y H Q h=>by
  obtain⟨z,rfl,hh⟩:=vI.ex h
  clear h
  obtain⟨p,rfl,ns,h1,q⟩:=vR.ex hh
  have e:=inV_ints z ns
  exact⟨p,_,rfl,h1,rfl,e.2,by show Q (.bl (!inV (.int z) (ns.map V.int))) H;rw[e.1];exact q⟩
end
end L2

/-! the same rules with the written part named:for a comprehension's block -/
namespace L2
open PySem PySem.Spec PyProof.Rows
section
variable {X:Cx}{K:W.Frag}
theorem z_ixTK (hK:X.K=K:=by rfl):IxR X (mIxT K):=by subst hK;exact z_ixT
theorem z_listOfK (hK:X.K=K:=by rfl):CallR X (.type "list") (mListOf K):=by subst hK;exact z_listOf
theorem z_slLK (hK:X.K=K:=by rfl):SlR X (mSlL K):=by subst hK;exact z_slL
end
end L2

/-! more rules that compute:list*n,extend,pop(i),int(x),x is False,all(xs) -/
namespace L2
open PySem PySem.Spec PyProof.Rows
theorem bt_all:bootBuiltins "all"=some (.builtin "all"):=by decide +kernel
section
variable {X:Cx}
section
variable {o e:Expr}{es:List Expr}{to:TE}{t:TA}{apos cpos:Pos}
end
/-! ### all(xs),xs a list of truths -/
theorem vals_bools:∀{bs:List Bool}{us:List Value},Vals (bs.map V.bl) us->us=bs.map Value.bool
  |[],_,.nil=>rfl
  | b::r,_,.cons h t=>by
    cases (show _=Value.bool b from h)
    rw[vals_bools t];rfl
def mAll (K:W.Frag):List V->Hp->VK->Prop:=fun xs H Q=>l1 xs fun x=>vR x fun p=>∃bs:List Bool,SqL K H p (bs.map V.bl)/\Q (.bl (bs.all id)) H
theorem all_range (bs:List Bool):(List.range bs.length).all (fun i=>bs.getD i false)=bs.all id:=by
  have e:(List.range bs.length).map (fun i=>bs.getD i false)=bs:=by
    apply List.ext_getElem
    · simp
    · intro i h1 h2
      simp[YJ,h2]
  conv=>rhs;rw[<-e,List.all_map]
  rfl
theorem z_all (hc:X.calm=true):CallR X (.builtin "all") (mAll X.K):=by
  intro pins s σ H xs us Q I r h
  obtain⟨x,rfl,h⟩:=l1.ex h
  obtain⟨p,rfl,bs,hS,q⟩:=vR.ex h
  obtain⟨u,rfl,ru⟩:=vals1 r
  cases ru
  obtain⟨its,rv,pl,_⟩:=I.list hS
  have ei:=vals_bools rv
  subst ei
  have hl:=pl.isList
  have hlt:p<s.heap.objs.size:=by obtain⟨_,e,_⟩:=hl;exact Yt e
  refine call_all_walk (wpAny_pyIter_list hl ?_)
  refine⟨_,_,_,_,_,_,fun i=>bs.getD i false,rfl,Walks.list (A:=X.A.in1) (I.ok.hd hc) _ p (YM hlt) _,⟨⟨_,YB _ rfl,rfl,rfl⟩,hl.push _⟩,?_,fun h' tk hk=>?_⟩
  · intro i v s' Q' E' hP hq
    have hv:(bs.map Value.bool)[i]? =some v:=by simpa using hP
    rw[Yk]at hv
    obtain⟨b,hb,rfl⟩:=YR.mp hv
    have:bs.getD i false=b:=by rw[YJ,hb];rfl
    simp only[this]at hq
    exact Xh hq
  · have e:(bs.map Value.bool).toArray.size=bs.length:=by simp
    rw[e,all_range]
    exact⟨.bl _,H,I.kept (old_kept hk),rfl,q⟩
end
end L2

/-! a callee within a comprehension raises:it is handed on through the comprehension to the def -/
namespace L2
open PySem PySem.Spec PyProof.Rows
section
variable {P:Program}{w:World}{K:W.Frag}{mg:Str->Option Value}{base:Heap}{N:List Str}{qual:Str}{scope:Scope}{f:Addr}{cd:Value}{A:Around}{outer:List Env}{s:Shared}{H:Hp}{E:XK}
theorem passAny {pins:List (Addr×Obj)}{σ:St}{H1 H':Hp}{s1 s3:Shared}{h5 B:Heap}{a t C:Addr}{cls fl:Value}{od:Option Addr}(I:Inv (cxOf (CXR P w) P w K mg base N qual scope f cd A outer s H E) pins σ H1 s1)
    (F:Fly P w (cxOf (CXR P w) P w K mg base N qual scope f cd A outer s H E).stack H1 H' s1 s3 a t cls od B) (hC:s.heap.get? C=none) (hCf:H' C=none)
    (st:(W.hideAll B [C]).StaysIn h5) (ff:h5.FunFrames (W.hideAll B [C]) (cxOf (CXR P w) P w K mg base N qual scope f cd A outer s H E).stack) (tr:TrD h5 (W.hideAll B [C]) a cls (.ref t) od fl)
    (slt:∀b o,s3.heap.get? b=some o->b∈frs (cxOf (CXR P w) P w K mg base N qual scope f cd A outer s H E).stack->∃sl,h5.get? b=some { o with slots:=sl }) (hE:E cls od H') :
    (cxOf (CXR P w) P w K mg base N qual scope f cd A outer s H E).xe (.ref a) { s3 with heap:=h5 }:=by
  have fr:=I.ok.frames
  have nB:(W.hideAll B [C]).get? a=none:=by
    cases q:(W.hideAll B [C]).get? a with
    |none=>rfl
    |some o=>have z:=W.of_hideAll _ q;rw[F.fly.1.2]at z;cases z
  refine leaveAnyD (s:={ s3 with heap:=h5 }) fr rfl ⟨st,nB⟩ ff tr fun h2 x1 x2=>?_
  have inB:∀b o,b≠C->B.get? b=some o->(W.hideAll B [C]).get? b=some o:=fun b o n e=>W.hideAll_get _ e fun z=>n (Yg.mp z)
  have neC:∀b o,s.heap.get? b=some o->b≠C:=fun b o e z=>by rw[z,hC]at e;cases e
  have old:∀b o,s.heap.get? b=some o->H b=none->b∉frs outer->(W.hideAll B [C]).get? b=some o:=fun b o e n nf=>
    inB b o (neC b o e) (F.old b o (I.base.keep b o e n nf (fun z=>by cases z)) (I.base.free b o e n (fun z=>by cases z)) (notFrame I e nf))
  have hst:∀b,b∈frs outer->b∈frs (cxOf (CXR P w) P w K mg base N qual scope f cd A outer s H E).stack:=fun b hb=>by
    obtain⟨env,h,hf⟩:=YN.mp hb
    exact YN.mpr ⟨env,Yf _ h,hf⟩
  have slots:∀b o,s3.heap.get? b=some o->b∈frs outer->∃sl,h2.get? b=some { o with slots:=sl }:=fun b o e hb=>by
    obtain⟨_,o',ho',nf⟩:=YY F.fly.2.1 (hst b hb)
    rw[e]at ho';cases ho'
    obtain⟨sl,e1⟩:=slt b o e (hst b hb)
    obtain⟨sl2,e2⟩:=x2 b _ e1 nf
    exact⟨sl2,e2⟩
  have trk:∀b u,H' b=some u->∃o,s3.heap.get? b=some o/\(W.hideAll B [C]).get? b=some o:=fun b u z=>by
    obtain⟨o,e1,e2⟩:=F.trk b u z
    exact⟨o,e1,inB b o (fun q=>by rw[q,hCf]at z;cases z) e2⟩
  refine⟨a,t,cls,od,H',_,rfl,⟨F.os.trans I.os,F.bare,⟨?_,?_,?_,?_,?_,?_,?_⟩,HOk.fromB F.hok trk x1.1.1,F.new,x1,old,?_,?_⟩,hE⟩
  · exact fun b o e n nf _=>x1.1.1 b o (old b o e n nf)
  · intro b o e n hb nx
    obtain⟨sl,q1⟩:=I.base.slot b o e n hb nx
    obtain⟨sl1,q2⟩:=F.un.slot b _ q1 (I.base.free b o e n nx) (hst b hb) (fun z=>by cases z)
    obtain⟨sl2,q3⟩:=slots b _ q2 hb
    exact⟨sl2,q3⟩
  · exact fun b o e n nx=>by
      obtain⟨o1,q1⟩:=I.base.there b o e nx
      exact F.un.free b o1 q1 (I.base.free b o e n nx) (fun z=>by cases z)
  · intro b o e nx
    obtain⟨o1,q1⟩:=I.base.there b o e nx
    obtain⟨o2,q2⟩:=F.un.there b o1 q1 (fun z=>by cases z)
    by_cases hb:b∈frs outer
    · obtain⟨sl',q3⟩:=slots b _ q2 hb
      exact⟨_,q3⟩
    · obtain⟨o3,q3⟩:=F.all b o1 q1 (notFrame I e hb)
      exact⟨o3,x1.1.1 b o3 (inB b o3 (neC b o e) q3)⟩
  · exact fun b xs z=>F.un.tups b xs (I.base.tups b xs z)
  · exact fun b o u z=>F.un.frzs b o u (I.base.frzs b o u z)
  · intro b ps z
    obtain⟨m1,z1⟩:=I.base.tbls b ps z
    obtain⟨m2,z2⟩:=F.un.tbls b _ z1
    exact⟨m1++m2,by rw[<-XN];exact z2⟩
  · intro b u z
    obtain⟨o,_,e2⟩:=trk b u z
    exact⟨o,x1.1.1 b o e2,e2⟩
  · intro b o e nf
    obtain⟨o1,q1⟩:=I.base.there b o e (fun z=>by cases z)
    obtain⟨o3,q3⟩:=F.all b o1 q1 (notFrame I e nf)
    exact⟨o3,inB b o3 (neC b o e) q3⟩
theorem passC {E1:XK}{sc:Scope}{cl:List (Str×Addr)}{x:Str}{ix:List Nat}{C:Addr}{fp:List Addr}{s2:Shared}{H2:Hp}(hE:∀cls od H',E1 cls od H'->E cls od H')(at0:CompAt (cxOf (CXR P w) P w K mg base N qual scope f cd A outer s H E) C fp s2 H2) :
    Passes (CXR P w) (cxComp (cxOf (CXR P w) P w K mg base N qual scope f cd A outer s H E) sc cl x ix C fp s2 H2) E1:=by
  intro pins' σ' H1 s1 ev s3 J hq
  obtain⟨⟨pins,σ,I2,f2⟩,hfl,hCle⟩:=at0
  obtain⟨a,t,cls,od,H',B,rfl,F,q⟩:=hq
  have I:Inv (cxOf (CXR P w) P w K mg base N qual scope f cd A outer s H E) pins σ H1 s1:=I2.call' (ch:=fp) J.os J.base J.hok J.bare fun b hb=>⟨(f2 b hb).2.2.2.1,(f2 b hb).2.1,(f2 b hb).2.2.2.2.1,(f2 b hb).2.2.2.2.2⟩
  obtain⟨m,hn,_⟩:=J.loc
  have hnC:s1.heap.Ns C m:=hn
  have freeC:H1 C=none:=J.free
  have nfC:C∉frs (cxOf (CXR P w) P w K mg base N qual scope f cd A outer s H E).stack:=fun z=>by
    obtain⟨_,o,ho,_⟩:=YY I2.stack z
    exact absurd (Yv (Yt ho) hCle) (YH _)
  have hC0:s.heap.get? C=none:=Heap.get?_none_of_le (Ye I2.sz hCle)
  obtain⟨oC,es,ep,eC,rC⟩:=hnC
  have BC:B.get? C=some oC:=F.old C oC eC freeC nfC
  have n3:s3.heap.Ns C m:=⟨oC,es,ep,F.fly.1.1 C oC BC,rC⟩
  have H'C:H' C=none:=F.un.free C oC eC freeC (fun z=>by cases z)
  have aC:a≠C:=fun z=>by have:=F.fly.1.2;rw[z,BC]at this;cases this
  show wpAny (model P w) _ (noteFrame (.ref a) (cxOf (CXR P w) P w K mg base N qual scope f cd A outer s H E).env) _ _ s3
  refine lookOnD I.ok.frames rfl F.fly fun h4 held sm=>?_
  refine⟨m,sm.ns n3,fun h' sb cenv hl=>?_⟩
  have sub:∀b o,(W.hideAll B [C]).get? b=some o->B.get? b=some o/\b≠C:=fun b o e=>⟨W.of_hideAll _ e,fun z=>by
    rw[z,W.hideAll_none [C] (Yg.mpr rfl)]at e;cases e⟩
  have st':(W.hideAll B [C]).StaysIn h':=fun b o e=>by
    obtain⟨e1,n⟩:=sub b o e
    exact(sb.2 b n).trans (held.1.1 b o e1)
  have nn:∀b,B.get? b=none->(W.hideAll B [C]).get? b=none:=fun b e=>by
    cases z:(W.hideAll B [C]).get? b with
    |none=>rfl
    |some o=>rw[(sub b o z).1]at e;cases e
  have ff':h'.FunFrames (W.hideAll B [C]) (cxOf (CXR P w) P w K mg base N qual scope f cd A outer s H E).stack:=by
    have go:∀l:List Env,(∀env∈l,env∈(cxOf (CXR P w) P w K mg base N qual scope f cd A outer s H E).stack)->h4.FunFrames B l->h'.FunFrames (W.hideAll B [C]) l:=by
      intro l
      induction l with
      |nil=>intro _ _;trivial
      | cons env r ih=>
        rintro hm ⟨z1,⟨L,o,z2,z3,z4,z5⟩,z6⟩
        refine⟨z1,⟨L,o,z2,nn L z3,(sb.2 L fun q=>nfC ?_).trans z4,z5⟩,ih (fun v hv=>hm v (Yf _ hv)) z6⟩
        rw[<-q]
        exact YN.mpr ⟨env,hm env Yo,z2⟩
    exact go _ (fun _ z=>z) held.2.1
  have tr':TrD h' (W.hideAll B [C]) a cls (.ref t) od (rawInt (cxOf (CXR P w) P w K mg base N qual scope f cd A outer s H E).env.locals):=by
    obtain⟨oe,vs,T,oT,ts,⟨q1,q2,q3,q4⟩,q5,⟨q7,q8⟩,q9,q10⟩:=held.2.2
    refine⟨oe,vs,T,oT,ts,⟨(sb.2 a aC).trans q1,q2,q3,q4⟩,q5,⟨nn T q7,q8⟩,(sb.2 T fun z=>?_).trans q9,q10⟩
    rw[z,BC]at q7;cases q7
  refine passOnD (s:={ s3 with heap:=h' }) ⟨st',nn a F.fly.1.2⟩ ff' tr' fun h5 fl' y1 y2 y3 y4=>?_
  have sl5:∀b o,s3.heap.get? b=some o->b∈frs (cxOf (CXR P w) P w K mg base N qual scope f cd A outer s H E).stack->∃sl,h5.get? b=some { o with slots:=sl }:=fun b o e hb=>by
    obtain⟨_,o',ho',nf⟩:=YY F.fly.2.1 hb
    rw[e]at ho';cases ho'
    obtain⟨sl,e1⟩:=sm b o e nf
    have e2:h'.get? b=some { o with slots:=sl }:=(sb.2 b fun z=>nfC (z▸hb)).trans e1
    obtain⟨sl2,e3⟩:=y4 b _ e2 nf
    exact⟨sl2,e3⟩
  exact passAny (s3:=s3) I F hC0 H'C y1 y2 y3 sl5 (hE _ _ _ q)
end
end L2

/-! the signs of a text,one by one -/
namespace L2
open PySem PySem.Spec PyProof.Rows
def Its (z:Str):It:=⟨fun i _=>i<z.cps.size,fun i H x H'=>H'=H/\∃c,z.cps[i]? =some c/\x= .str ⟨#[c]⟩,fun i _=>z.cps.size<=i⟩
section
variable {prog:Program}{w:World}{A:Around}{E:Value->Shared->Prop}{s:Shared}{it:Addr}{z:Str}{t:Tok}{i:Nat}
theorem next_text {c:Nat}{Q:Option Value->Shared->Prop}(hit:s.heap.IsStrIter it (strIterType z) z t i)(hx:z.cps[i]? =some c)
    (hQ:∀h',h'.IsStrIter it (strIterType z) z t (i+1)->Heap.SameBut it s.heap h'->Q (some (.str ⟨#[c]⟩ s.toks)) { s with heap:=h',toks:=s.toks+1 }):wpAny (model prog w) A (pyNext (.ref it)) Q E s:=by
  unfold strIterType at hit hQ
  split at hit
  · rename_i h;simp only[h]at hQ;exact wpAny_pyNext_ascii_item hit hx hQ
  · rename_i h;simp only[h]at hQ;exact wpAny_pyNext_wide_item hit hx hQ
theorem end_text {Q:Option Value->Shared->Prop}(hh:A.handled=none)(hit:s.heap.IsStrIter it (strIterType z) z t i)(hx:z.cps[i]? =none)(hQ:∀h',Heap.ExtBut it s.heap h'->Q none { s with heap:=h' }) :
    wpAny (model prog w) A (pyNext (.ref it)) Q E s:=by
  unfold strIterType at hit
  split at hit
  · exact wpAny_pyNext_ascii_end hh hit hx hQ
  · exact wpAny_pyNext_wide_end hh hit hx hQ
theorem self_text {Q:Value->Shared->Prop}(hit:s.heap.IsStrIter it (strIterType z) z t i)(h:Q (.ref it) s):wpAny (model prog w) A (pyIter (.ref it)) Q E s:=by
  unfold strIterType at hit
  split at hit
  · exact wpAny_pyIter_striter_ascii hit h
  · exact wpAny_pyIter_striter_wide hit h
end
theorem turn_text {P:Program}{w:World}{K:W.Frag}{tg:Expr}(z:Str)(t:Tok)(it:Addr):Turn P w K tg (Its z) [it] it (fun i h=>h.IsStrIter it (strIterType z) z t i) where
  mem:=by simp
  obj:=fun i h st b hb=>by
    have e:b=it:=by simpa using hb
    subst e
    obtain⟨o,e,_,d⟩:=st
    exact⟨o,e,fun v y=>by rw[d]at y;cases y⟩
  keep:=fun i h h' ⟨o,e,r⟩ k=>⟨o,k it (by simp) o e,r⟩
  item:=by
    intro X hP hw hK hc i pins s σ H E I hf st hg
    subst hP hw hK
    have hg':i<z.cps.size:=hg
    have hx:z.cps[i]? =some z.cps[i]:=Array.getElem?_eq_getElem hg'
    obtain⟨f0,f1,f2,f3,f4,f5⟩:=hf it (by simp)
    refine next_text st hx fun h' st' sb=>?_
    have I1:Inv X pins σ H { s with heap:=h',toks:=s.toks+1 }:=I.turned (fun b o hb e=>(sb.2 b hb).trans e) f0 f1 f3 f4 f5
    obtain⟨o,e,c,d⟩:=id st'
    refine⟨_,rfl,go_of (s:={ s with heap:=h',toks:=s.toks+1 }) (n:=strIterType z) e c d ?_ ⟨.str ⟨#[z.cps[i]]⟩,H,I1,⟨_,rfl⟩,⟨rfl,_,hx,rfl⟩,st',fun b hb=>(hf b hb).1⟩⟩
    unfold strIterType
    split <;> decide
  done:=by
    intro X hP hw hK hc i pins s σ H E I hf st hg
    subst hP hw hK
    have hg':z.cps.size<=i:=hg
    obtain⟨f0,f1,f2,f3,f4,f5⟩:=hf it (by simp)
    exact end_text (I.ok.hd hc) st (Array.getElem?_eq_none hg') fun h' eb=>⟨rfl,I.turned (t':=s.toks) (fun b o hb e=>eb b o hb e) f0 f1 f3 f4 f5⟩
  self:=fun _ _ _ _ _ st h=>self_text st h
section
variable {X:Cx}{tg:Expr}
def iText (tl:TE):TI:=fun σ H R=>tl σ H fun x H1=>vS x fun z=>R (Its z) H1
theorem mi_text {l:Expr}{tl:TE}(hl:PE X l tl):PI X tg l (iText tl):=by
  intro pins s σ H R I h
  refine thn (hl pins s σ H _ I h) fun v s1 hz9=>?_
  obtain⟨x,H1,I1,r1,q1⟩:=hz9
  obtain⟨z,rfl,q⟩:=vS.ex q1
  obtain⟨t,rfl⟩:=(show ∃t,v=Value.str z t from r1)
  refine wpAny_pyIter_strU ?_
  refine⟨s1.heap.objs.size, [s1.heap.objs.size],_,_,H1,rfl,I1.kept (t':=s1.toks) fun b o e=>Yh _ e,turn_text z t _,⟨_,YB _ rfl,rfl,rfl⟩,fun b hb=>?_,q⟩
  have e:b=s1.heap.objs.size:=by simpa using hb
  subst e
  exact I1.fpOk (Yc _) (I1.hok.fresh (Yc _))
end
/-- a comprehension over a text:a word by the turn and the items so far -/
theorem comp_text {z:Str}{tt:TT}{te:TE}{σc:V->St}{H:Hp}{Q:VK}(Pv:Nat->List V->Hp->Prop)(hn:∀i ys H,i<=z.cps.size->Pv i ys H->ys.length<sizeLine)(h0:Pv 0 [] H)
    (hs:∀i c ys H,z.cps[i]? =some c->Pv i ys H->tt (σc (.str ⟨#[c]⟩)) H fun b H3=>if b=true then te (σc (.str ⟨#[c]⟩)) H3 fun y H4=>Pv (i+1) (ys++[y]) H4 else Pv (i+1) ys H3)
    (hd:∀ys H,Pv z.cps.size ys H->∀p,H p=none->Q (.ref p) (upd H p (.lst ys))):cWord (Its z) tt te σc H Q:=by
  refine⟨fun i m ys H=>m=z.cps.size-i/\i<=z.cps.size/\Pv i ys H,⟨z.cps.size,by simp,YO _,h0⟩,?_⟩
  rintro i m ys H ⟨rfl,hi,p⟩
  refine⟨hn i ys H hi p,?_⟩
  by_cases hlt:i<z.cps.size
  · refine .inr ⟨hlt,fun ys' H'=>Pv (i+1) ys' H',fun ys' H' q=>⟨_,by omega,rfl,hlt,q⟩,?_⟩
    rintro x H' ⟨rfl,c,hc,rfl⟩
    exact hs i c ys _ hc p
  · have e:i=z.cps.size:=by omega
    subst e
    exact .inl ⟨Yc _,hd ys H p⟩
end L2

/-! texts:slices,sums,join -/
namespace L2
open PySem PySem.Spec PyProof.Rows Builtin Builtin.Str
/-- the text of these signs -/
def txt (l:List Nat):PySem.Str:=⟨l.toArray⟩
theorem txt_len (l:List Nat):(txt l).length=l.length:=by simp[txt,PySem.Str.length]
theorem txt_cps (l:List Nat):(txt l).cps.toList=l:=by simp[txt]
theorem txt_of (z:PySem.Str):txt z.cps.toList=z:=by cases z;simp[txt]
theorem txt_add (l m:List Nat):txt l++txt m=txt (l++m):=by
  show (⟨l.toArray++m.toArray⟩:PySem.Str)=⟨(l++m).toArray⟩
  simp
section
variable {X:Cx}
def mAddS:R2:=fun x y H Q=>vS x fun i=>vS y fun j=>i.length+j.length<=sizeLine/\Q (.str (i++j)) H
theorem z_addS:OpR X (binaryOp .Add) mAddS:=op_add_str.imp fun x y H Q h=>by
  obtain⟨i,rfl,h1⟩:=vS.ex h
  obtain⟨j,rfl,h2,q⟩:=vS.ex h1
  exact⟨i,j,rfl,rfl,h2,q⟩
theorem strs_of:∀{ts:List PySem.Str}{us:List Value},Vals (ts.map V.str) us->∃l:List (PySem.Str×Tok),us=strValues l/\l.map (·.1)=ts
  |[],_,h=>by cases h;exact⟨[],rfl,rfl⟩
  | z ::r,_,h=>by
    cases h with
    | cons a b=>
      obtain⟨t,rfl⟩:=(show ∃t,_=Value.str z t from a)
      obtain⟨l,rfl,e⟩:=strs_of b
      exact⟨(z,t)::l,rfl,by rw[Yy,e]⟩
def rJoin:V->List V->Hp->VK->Prop:=fun x vs H Q=>∃z l ts,x= .str z/\vs= [.ref l]/\H l=some (.lst (ts.map V.str))/\JoinOk z ts=true/\Q (.str (Txt.join z ts)) H
theorem mt_join:MtM X "str.join" rJoin:=by
  intro pins s σ H x vs v us Q I rx rv h
  obtain⟨z,l,ts,rfl,rfl,hH,hok,q⟩:=h
  obtain⟨t,rfl⟩:=(show ∃t,v=Value.str z t from rx)
  obtain⟨u,rfl,ru⟩:=rv.one
  cases ru
  obtain⟨hz,its,n,r,hl,e⟩:=I.lstM hH
  obtain⟨ps,rfl,e2⟩:=strs_of r
  exact SC.join ⟨_,e,rfl,_,rfl⟩ e2 hok fun t' k=>⟨.str _,H,I.tok k,⟨_,rfl⟩,q⟩
end
section
variable {X:Cx}{o e:Expr}{to:TE}{t:TA}{apos cpos:Pos}
def dJoin (to:TE)(t:TA):TE:=fun σ H Q=>to σ H fun x H1=>vS x fun z=>t σ H1 fun vs H2=>l1 vs fun y=>vR y fun l=>∃ts,H2 l=some (.lst (ts.map V.str))/\JoinOk z ts=true/\Q (.str (Txt.join z ts)) H2
theorem md_join (ho:PE X o to)(ha:PA X [e] t)(hbase:attributeBase o "join" X.env (eval o X.env)=eval o X.env:=by rfl)
    (hfew:((backTo cpos (starEach [e] X.env)).all (fun x=>!x.1) && (backToKw cpos (keywordEach [] X.env)).all (fun x=>x.1.isSome)
      && decide (([e]:List Expr).length+([]:List Keyword).length+(if ([]:List Keyword).isEmpty then 0 else 1)<30))=true:=by rfl)
    (hline:(apos.endLine == cpos.line)=true:=by rfl) (hs:starEach [e] X.env=(false,eval e X.env)::starEach [] X.env:=by rfl) (hplain:(backTo cpos (starEach [] X.env)).any (·.1)=false:=by rfl) :
    PE X (.Call (.Attribute o "join" apos) [e] [] cpos) (dJoin to t):=
  (pe_bm XA PySem.F.slot_str_join PySem.F.type_str_join mt_join (pe_cut ho) (pa_cut ha) hbase hfew hline hs hplain).imp fun σ H Q h=>⟨_,h,fun x H1 q=>by
    obtain⟨z,rfl,q2⟩:=vS.ex q
    refine⟨rfl,_,q2,fun vs H2 q3=>?_⟩
    obtain⟨y,rfl,q4⟩:=l1.ex q3
    obtain⟨l,rfl,ts,h1,h2,h3⟩:=vR.ex q4
    exact⟨z,l,ts,rfl,rfl,h1,h2,h3⟩⟩
end
theorem glue_empty:∀(ls:List (List Nat))(acc:Array Nat),(ls.map txt).foldl (fun acc p=>acc++(txt []).cps++p.cps) acc=acc++ls.flatten.toArray
  |[],acc=>by simp
  | l::r,acc=>by
    rw[Yy,List.foldl_cons,glue_empty r]
    simp[txt,XN]
theorem join_empty (ls:List (List Nat)):Txt.join (txt []) (ls.map txt)=txt ls.flatten:=by
  unfold Txt.join glued
  cases ls with
  |nil=>rfl
  | cons l r=>
    show (⟨_⟩:PySem.Str)=_
    rw[Yy,List.drop_one,List.tail_cons,List.headD_cons,glue_empty r]
    simp[txt]
end L2

/-! try with any body and several handlers -/
namespace L2
open PySem PySem.Spec PyProof.Rows
section
variable {X:Cx}
abbrev Cx.pinned (X:Cx)(pins0:List (Addr×Obj)):Cx:={ X with pn:=X.pn++pins0 }
/-- the context of a try's body:what is raised is caught here -/
abbrev Cx.tried (X:Cx)(pins0:List (Addr×Obj))(σ0:St)(EX:XK):Cx:=(X.pinned pins0).wish fun ev s'=>∃pins H1 s1,Inv (X.pinned pins0) pins σ0 H1 s1/\CXR X.prog X.w X.stack H1 s1 EX ev s'
theorem Inv.pinUp {pins0:List (Addr×Obj)}{σ:St}{H:Hp}{s:Shared}(I:Inv X pins0 σ H s):Inv (X.pinned pins0) [] σ H s:=
  ⟨⟨I.ok.mod,I.ok.kind,I.ok.glob,I.ok.blt,I.ok.above,I.ok.inj,I.ok.has,I.ok.cab,I.ok.hd,I.ok.frames,I.ok.stk,I.ok.exf,I.ok.bs,I.ok.bsz,I.ok.noex,I.ok.exfs,I.ok.funs,I.ok.frf⟩,I.os,I.bare,I.base,I.loc,I.cell,I.free,I.freeC,
    fun p hp=>I.pin p (by simpa using hp),I.hok,I.len⟩
theorem Inv.pinDown {pins0 pins:List (Addr×Obj)}{σ:St}{H:Hp}{s:Shared}(I:Inv (X.pinned pins0) pins σ H s):Inv X pins0 σ H s:=
  ⟨⟨I.ok.mod,I.ok.kind,I.ok.glob,I.ok.blt,I.ok.above,I.ok.inj,I.ok.has,I.ok.cab,I.ok.hd,I.ok.frames,I.ok.stk,I.ok.exf,I.ok.bs,I.ok.bsz,I.ok.noex,I.ok.exfs,I.ok.funs,I.ok.frf⟩,I.os,I.bare,I.base,I.loc,I.cell,I.free,I.freeC,
    fun p hp=>I.pin p (XG _ hp),I.hok,I.len⟩
abbrev TH:=Ends->St->Value->Option Addr->Hp->Prop
/-- handlers:what stands behind the catch -/
def PH (X:Cx)(hs:List ExceptHandler)(th:TH):Prop:=∀(pins:List (Addr×Obj))(σ:St)(H':Hp)(s5:Shared)(a t:Addr)(cls:Value)(od:Option Addr)(B:Heap)(D:Ends),
  (∀h6,FlyD B X.stack a cls (.ref t) od h6->s5.heap.UpToSlots h6->Inv X pins σ (upd H' a (excO cls a od)) { s5 with heap:=h6 })->FlyD B X.stack a cls (.ref t) od s5.heap->H' a=none->th D σ cls od H'->
  wpAny (model X.prog X.w) X.A (handleBy (.ref a) X.env hs) (SP X pins D) X.xe s5
variable {np hpos pos:Pos}{y n:Str}{C:Addr}{i:Nat}{b₀:Stmt}{suite:List Stmt}{ts:TS}{hs:List ExceptHandler}{th:TH}
def hAs (K:W.Frag)(C:Addr)(i:Nat)(ts:TS)(th:TH):TH:=fun D σ cls od H'=>(W.exmOne K cls (.ref C)=some true/\∀a,H' a=none->ts (sufE D i) (σ.set i (some (.ref a))) (upd H' a (excO cls a od)))\/(W.exmOne K cls (.ref C)=some false/\th D σ cls od H')
def hNil:TH:=fun _ _ _ _ _=>False
theorem ph_nil:PH X [] hNil:=fun _ _ _ _ _ _ _ _ _ _ _ _ _ z=>z.elim
theorem ph_as (hg:Gl X y)(hm:X.mg y=some (.ref C))(nd:X.N.Nodup)(hi:X.N[i]? =some n)(hl:X.env.scope.names.lookup n=some .local)(hs':∀ev,PSs (X.marked ev) (b₀::suite) ts)(hr:PH X hs th)
    (hd:(y == ("__debug__":Str))=false:=by decide):PH X (.ExceptHandler (some (.Name y np)) (some n) (b₀::suite) hpos::hs) (hAs X.K C i ts th):=by
  intro pins σ H' s5 a t cls od B D land fl5 new q
  have J5:=land _ fl5 (Heap.UpToSlots.refl _)
  obtain⟨oe,_,he,hc,_⟩:=fl5.obj
  have LT:∀M,W.Looks M s5.heap (typeOf (.ref a)) cls:=fun M=>hc▸(W.Looks.ld he).andThen .now
  refine wpAny_handleBy_cons (codeAny_handlers_test (ld_glob (X:=X.marked (.ref a)) (J5.marked _) hg hm ?_ hd)) (by intro z;cases z)
  rcases q with ⟨hexm,q⟩ | ⟨hexm,q⟩
  · refine W.exm_one (K:=X.K) J5.kIn (LT _) hexm _ _ _ _ (fun _ _ z=>z) ?_
    refine codeAny_handlers_suite_as ?_
    refine landAgainD fl5 fun h6 fl6 sm6=>?_
    have J6:=land _ fl6 sm6
    refine store_ok (X:=X.marked (.ref a)) (J6.marked _) nd hi (.inl hl) (v:= .ref a) rfl (fun s7 J7=>?_) (.inr hl)
    refine YL (hs' (.ref a) pins s7 _ _ (sufE D i) J7 (q a new)) (fun f s8 hf=>?_) (fun _ _ z=>False.elim z)
    cases f with
    |next=>obtain⟨σ',H8,J8,q8⟩:=hf;exact unbound (J8.unmarked J5.ok) nd hi hl fun s9 J9=>⟨_,H8,J9,q8⟩
    |brk=>obtain⟨σ',H8,J8,q8⟩:=hf;exact unbound (J8.unmarked J5.ok) nd hi hl fun s9 J9=>⟨_,H8,J9,q8⟩
    |cont=>obtain⟨σ',H8,J8,q8⟩:=hf;exact unbound (J8.unmarked J5.ok) nd hi hl fun s9 J9=>⟨_,H8,J9,q8⟩
    |ret u=>obtain⟨v,σ',H8,J8,r8,q8⟩:=hf;exact unbound (J8.unmarked J5.ok) nd hi hl fun s9 J9=>⟨v,_,H8,J9,r8,q8⟩
  · refine W.exm_one (K:=X.K) J5.kIn (LT _) hexm _ _ _ _ (fun _ _ z=>z) ?_
    exact hr pins σ H' s5 a t cls od B D land fl5 new q
def tTryH (tb:St->XK->TS)(th:TH):TS:=fun D σ H=>tb σ (fun cls od H1=>th D σ cls od H1) D σ H
theorem ps_tryH {body:List Stmt}{h₀:ExceptHandler}{tb:St->XK->TS}(hb:∀pins0 σ0 EX,PSs (X.tried pins0 σ0 EX) body (tb σ0 EX))(hh:PH X (h₀::hs) th)(hstk:X.stack=X.env::X.outer)(hfr:X.env.frame=some X.env.locals) :
    PS X (.Try body (h₀::hs) [] [] pos) (tTryH tb th):=by
  intro pins s σ H D I hw
  refine wpAny_Try_except ?_
  refine YL (hb pins σ _ [] s σ H D (I.pinUp.wish _) hw) (fun f s1 hf=>?_) (fun ev s2 hq=>?_)
  · cases f with
    |next=>obtain⟨σ',H8,J8,q8⟩:=hf;exact wpAny_execs_nil ⟨σ',H8,J8.unwish.pinDown,q8⟩
    |brk=>obtain⟨σ',H8,J8,q8⟩:=hf;exact⟨σ',H8,J8.unwish.pinDown,q8⟩
    |cont=>obtain⟨σ',H8,J8,q8⟩:=hf;exact⟨σ',H8,J8.unwish.pinDown,q8⟩
    |ret u=>obtain⟨v,σ',H8,J8,r8,q8⟩:=hf;exact⟨v,σ',H8,J8.unwish.pinDown,r8,q8⟩
  · obtain⟨pins1,H1,s1,I1,a,t,cls,od,H',B,rfl,F,q⟩:=hq
    have I1':=I1.pinDown
    have fr:X.A.frames=some (X.env::X.outer):=by rw[I1'.ok.frames,hstk]
    refine lookOnD fr hfr (hstk▸F.fly) fun h4 held4 sm4=>?_
    refine landD held4 fun h5 fl5 sm5=>?_
    have fl5':FlyD B X.stack a cls (.ref t) od h5:=hstk▸fl5
    exact hh pins σ H' _ a t cls od B D (fun h6 fl6 sm6=>land (s':=s2) I1' F fl6 ((sm4.trans sm5).trans sm6)) fl5' F.new q
end
end L2

/-! own classes and some list methods,as readings that compute -/
namespace L2
open PySem PySem.Spec PyProof.Rows
section
variable {X:Cx}{o e value:Expr}{es:List Expr}{to ta tv:TE}{t:TA}{apos cpos pos pos':Pos}{C:Addr}{f m:Str}
/-! ### xs.clear(),xs.pop(i) -/
/-! ### fields of an instance of the class at C -/
def dFld (C:Addr)(ta:TE)(f:Str):TE:=fun σ H Q=>ta σ H fun x H1=>vR x fun a=>∃dx fs v,H1 a=some (.ins C dx fs)/\fs.lookup f=some v/\Q v H1
theorem md_fld (c:Cls X.K C)(n:NoAttr X.K C f)(he:PE X e ta)(hb:attributeBase e f X.env (eval e X.env)=eval e X.env:=by rfl):PE X (.Attribute e f pos) (dFld C ta f):=
  (pe_fld (pe_cut he) hb).imp fun σ H Q h=>⟨_,h,fun x H1 q=>by
    obtain⟨a,rfl,dx,fs,v,h1,h2,h3⟩:=vR.ex q
    exact⟨a,C,dx,fs,v,rfl,h1,c,n,h2,h3⟩⟩
def dSet (C:Addr)(ta tv:TE)(f:Str):TS:=fun D σ H=>tv σ H fun y H1=>ta σ H1 fun x H2=>vR x fun a=>∃dx fs,H2 a=some (.ins C dx fs)/\fs.length<1000/\D.nx σ (upd H2 a (.ins C dx (putF f y fs)))
theorem md_set (c:Cls X.K C)(n:NoAttr X.K C f)(ha:PE X o ta)(hv:PE X value tv)(hs:swapsWith value (some (.Attribute o f pos')) pos.line X.env=pure false:=by rfl) :
    PS X (.Assign [.Attribute o f pos'] value pos) (dSet C ta tv f):=
  (ps_fld (pe_cut ha) (pe_cut hv) hs).imp fun D σ H h=>⟨_,h,fun y H1 q=>⟨_,q,fun x H2 q2=>by
    obtain⟨a,rfl,dx,fs,h1,h2,h3⟩:=vR.ex q2
    exact⟨a,C,dx,fs,rfl,h1,c,n,h2,h3⟩⟩⟩
/-! ### o.m(..) -/
variable {CX:CXT}{k:Nat}{fa:Addr}{fd:FuncData}{ps:List Str}{sp:Sp}{dvs:List V}{ds:List Value}{E:XK}
def dMeth (C:Addr)(m:Str)(sp:Sp)(dvs:List V)(E:XK)(ta:TE)(t:TA):TE:=fun σ H Q=>ta σ H fun x H1=>vR x fun a=>(∃dx fs,H1 a=some (.ins C dx fs)/\fs.lookup m=none)/\t σ H1 fun vs H2=>sp (.ref a::(vs++dvs)) H2 Q E
theorem md_meth {pl:Sem Bool}(c:Cls X.K C)(hm:Meth X.K C m fa)(F:FnOk X.prog X.w X.K X.mg X.base CX k fa fd ps sp)(hr:Room k X.A)(hb:Binds X.K fd ps ds)(hd:Vals dvs ds)(hx:Passes CX X E)(he:PE X o ta)(ha:PA X (e::es) t)
    (hst:starEach (e::es) X.env=(false,eval e X.env)::starEach es X.env:=by rfl) (hpl:(backTo pos (starEach es X.env)).any (·.1)=false:=by rfl)
    (ht:eval (.Call (.Attribute o m apos) (e::es) [] pos) X.env=(do
      let ov<-eval o X.env
      standAt apos.atName
      let (f,first)<-holding [ov] (getMethod ov m pl)
      callWith pos f first (backTo pos (starEach (e::es) X.env)) (backToKw pos (keywordEach [] X.env))):=by rfl) :
    PE X (.Call (.Attribute o m apos) (e::es) [] pos) (dMeth C m sp dvs E ta t):=
  (pe_meth (pl:=pl) (pe_cut he) c hm F hr hb hd hx (pa_cut ha) hst hpl ht).imp fun σ H Q h=>⟨_,h,fun x H1 q=>by
    obtain⟨a,rfl,⟨dx,fs,h1,h2⟩,h3⟩:=vR.ex q
    exact⟨a,dx,fs,rfl,h1,h2,_,h3,fun vs H2 z=>z⟩⟩
theorem md_meth0 {pl:Sem Bool}(c:Cls X.K C)(hm:Meth X.K C m fa)(F:FnOk X.prog X.w X.K X.mg X.base CX k fa fd ps sp)(hr:Room k X.A)(hb:Binds X.K fd ps ds)(hd:Vals dvs ds)(hx:Passes CX X E)(he:PE X o ta)
    (ht:eval (.Call (.Attribute o m apos) [] [] pos) X.env=(do
      let ov<-eval o X.env
      standAt apos.atName
      let (f,first)<-holding [ov] (getMethod ov m pl)
      callWith pos f first (backTo pos (starEach [] X.env)) (backToKw pos (keywordEach [] X.env))):=by rfl) :
    PE X (.Call (.Attribute o m apos) [] [] pos) (dMeth C m sp dvs E ta tNil):=
  (pe_meth0 (pl:=pl) (pe_cut he) c hm F hr hb hd hx ht).imp fun σ H Q h=>⟨_,h,fun x H1 q=>by
    obtain⟨a,rfl,⟨dx,fs,h1,h2⟩,h3⟩:=vR.ex q
    exact⟨a,dx,fs,rfl,h1,h2,h3⟩⟩
end
end L2

/-! x in xs,x not in xs,xs.index(x),by data;xs.count(t) of a list of texts -/
namespace L2
open PySem PySem.Spec PyProof.Rows
section
variable {X:Cx}
end
/-! ### pairs of whole numbers -/
section
variable {X:Cx}
end
end L2
namespace L2
open PySem
end L2

namespace L2
open PySem
/-- a tuple of whole numbers that the module holds -/
def TupK (K:W.Frag)(a:Addr)(ns:List Int):Prop:=∃(o:Obj)(its:Array Value)(n:Nat),K.lookup a=some o/\o.cls= .type "tuple"/\o.data= .seq its n/\its.size<=sizeLine/\Vals (ns.map V.int) its.toList
theorem TupK.of {K:W.Frag}{a:Addr}{od:Option Addr}{sl:Array (Option Value)}{n:Nat}{its:Array Value}{ns:List Int}(h:K.lookup a=some ⟨.type "tuple",od,.seq its n,sl⟩)(hs:its.size<=sizeLine)(hv:Vals (ns.map V.int) its.toList):TupK K a ns:=⟨_,its,n,h,rfl,rfl,hs,hv⟩
theorem TupK.sq {K:W.Frag}{a:Addr}{ns:List Int}(h:TupK K a ns)(H:Hp):SqT K H a (ns.map V.int):= .inr h
end L2

/-! rows that are never reached;slices of any list -/
namespace L2
open PySem PySem.Spec PyProof.Rows
theorem ps_dead {X:Cx}{s:Stmt}:PS X s (fun _ _ _=>False):=fun _ _ _ _ _ _ h=>h.elim
theorem cutV_take (xs:List V)(a:Nat):cutV xs none (some (a:Int))=xs.take a:=by
  unfold cutV
  rw[HT.sIx_nat,HT.sIx_none,List.drop_zero,Nat.sub_zero]
  by_cases h:a<=xs.length
  · rw[Xb h]
  · rw[Y1 (by omega),Yl (Yc _),Yl (by omega)]
theorem cutV_from {xs:List V}{a:Nat}(h:a<=xs.length):cutV xs (some (a:Int)) none=xs.drop a:=by
  unfold cutV
  rw[HT.sIx_nat,HT.sIx_none,Xb h,Yl (by rw[Y9];omega)]
end L2
namespace L2
open PySem PySem.Spec PyProof.Rows
end L2

/-! xs.count(k),xs a list of whole numbers -/
namespace L2
open PySem PySem.Spec PyProof.Rows
section
variable {X:Cx}{o e:Expr}{to:TE}{t:TA}{apos cpos:Pos}
end
end L2
namespace L2
open PySem PySem.Spec PyProof.Rows
section
variable {X:Cx}{o e:Expr}{to:TE}{t:TA}{apos cpos:Pos}
end
end L2

/-! xs.index(k),xs a list of whole numbers -/
namespace L2
open PySem PySem.Spec PyProof.Rows
section
variable {X:Cx}{o e:Expr}{to:TE}{t:TA}{apos cpos:Pos}
end
end L2

/-! xs.count(True),xs.index(True),xs a list of truths -/
namespace L2
open PySem PySem.Spec PyProof.Rows PySem.MeetsSeq PySem.SeqAt
section
variable {X:Cx}{o e:Expr}{to:TE}{t:TA}{apos cpos:Pos}
end
end L2

/-! max(xs,default=d),xs a list of ints -/
namespace L2
open PySem PySem.Spec PyProof.Rows
set_option maxRecDepth 100000
section
variable {prog:Program}{w:World}{A:Around}{I:Addr}{fp wr:List Addr}{n:Nat}{P:Nat->Value->Prop}{St:Nat->Heap->Prop}{d:Value}
end
section
variable {prog:Program}{w:World}{A:Around}{E:Value->Shared->Prop}{s:Shared}
end
section
variable {X:Cx}
end
end L2

/-! for a,b in enumerate(xs) -/
namespace L2
open PySem PySem.Spec PyProof.Rows
section
variable {X:Cx}{pins:List (Addr×Obj)}{σ:St}{H:Hp}{s:Shared}
end
section
variable {X:Cx}
end
end L2

/-! list(range(a,b,c)) -/
namespace L2
open PySem PySem.Spec PyProof.Rows
section
variable {X:Cx}
def dListR (t:TA):TE:=fun σ H Q=>t σ H fun vs H1=>l3 vs fun x y z=>vI x fun i=>vI y fun j=>vI z fun c=>c≠0/\Builtin.divisionGoesByPylong (j-i) c=false/\∃n:Nat,Builtin.Range.small i j c=true/\Builtin.Range.rangeSize i j c=(n:Int)/\n<=1000/\
  ∀p,H1 p=none->Q (.ref p) (upd H1 p (.lst ((List.range n).map fun k=>V.int (i+((k:Nat):Int)*c))))
theorem vals_of_items {i c:Int}{acc:Array Value}{n:Nat}(h:ItemsOf (fun k v=>∃t,v=Value.int (i+((k:Nat):Int)*c) t) acc n):Vals ((List.range n).map fun k=>V.int (i+((k:Nat):Int)*c)) acc.toList:=by
  have key:∀(us:List Value)(f:Nat->Int),(∀j v,us[j]? =some v->∃t,v=Value.int (f j) t)->Vals ((List.range us.length).map fun k=>V.int (f k)) us:=by
    intro us
    induction us with
    |nil=>intro f _;exact .nil
    | cons u r ih=>
      intro f hf
      have h0:=hf 0 u rfl
      have hr:=ih (fun k=>f (k+1)) fun j v hv=>hf (j+1) v (by simpa using hv)
      rw[YX,List.range_succ_eq_map,Yy,Xp]
      exact .cons h0 hr
  have hs:acc.toList.length=n:=by rw[Array.length_toList];exact h.1
  have:=key acc.toList (fun k=>i+((k:Nat):Int)*c) fun j v hv=>h.2 j v (by rwa [Array.getElem?_toList]at hv)
  rwa [hs]at this
theorem md_listRng {a b c:Expr}{ta:TA}{p p2 pos pos2:Pos}(hcalm:X.calm=true)(hgl:Gl X "list")(hml:X.mg "list"=none)(hg:Gl X "range")(hm:X.mg "range"=none)(ha:PA X [a,b,c] ta)
    (hs:starEach [a,b,c] X.env=(false,eval a X.env)::starEach [b,c] X.env:=by rfl) (hs2:(backTo pos2 (starEach [b,c] X.env)).any (·.1)=false:=by rfl)
    (ho:starEach [.Call (.Name "range" p2) [a,b,c] [] pos2] X.env= [(false,eval (.Call (.Name "range" p2) [a,b,c] [] pos2) X.env)]:=by rfl) :
    PE X (.Call (.Name "list" p) [.Call (.Name "range" p2) [a,b,c] [] pos2] [] pos) (dListR ta):=by
  intro pins s σ H Q I h
  refine Xd (ld_blt I hgl hml bt_list ?_)
  refine Y2 ?_ ho rfl
  rw[ho]
  refine Xn (Call_ (ld_blt I hg hm boot_range (Y2 (thn (ha pos2 pins s σ H _ I h) fun us s1 hz9=>?_) hs hs2)))
  obtain⟨vs,H1,I1,r1,q1⟩:=hz9
  obtain⟨x,y,z,rfl,q2⟩:=l3.ex q1
  obtain⟨i,rfl,q3⟩:=vI.ex q2
  obtain⟨j,rfl,q4⟩:=vI.ex q3
  obtain⟨k,rfl,hc,hp,n,hsm,hn,hle,q⟩:=vI.ex q4
  cases r1 with
  | cons r rr=>
    cases rr with
    | cons r' rr=>
      cases rr with
      | cons r'' rr=>
        cases rr
        obtain⟨t,rfl⟩:=r
        obtain⟨t',rfl⟩:=r'
        obtain⟨t'',rfl⟩:=r''
        refine call_range_3 hc ?_ (.inl hp)
        refine Calls.spliced_nil ?_
        refine call_list_range (I.ok.hd hcalm) (IsRange.new ..) hsm hn (Ye hle (by decide)) fun h' tk acc c' kept hl items=>?_
        have I2:Inv X pins σ H1 { s1 with heap:=s1.heap.push { cls:= .type "range",data:= .fields #[.int i t,.int j t',.int k t''] } }:=I1.kept (t':=s1.toks) fun b o e=>Yh _ e
        refine⟨.ref _,_,I2.laid (t':=tk) (a:=(s1.heap.push { cls:= .type "range",data:= .fields #[.int i t,.int j t',.int k t''] }).objs.size) (o:= .lst ((List.range n).map fun k'=>V.int (i+((k':Nat):Int)*k))) kept (Yc _) ?_,rfl,q _ ?_⟩
        · refine⟨?_,acc.toList,c',vals_of_items items,?_⟩
          · rw[Ya,Xe];exact Xz (small1000 hle)
          · simpa using hl
        · exact I2.hok.fresh (Yc _)
end
end L2

/-! a long list of written numbers -/
namespace L2
open PySem PySem.Spec PyProof.Rows
section
variable {X:Cx}{es:List Expr}{t:TA}
theorem star_int {i j pos}{env:Env}:starEach (.Constant (.int i) j pos::es) env=(false,eval (.Constant (.int i) j pos) env)::starEach es env:=by rfl
theorem pa_int {i j pos}(h:PA X es t):PA X (.Constant (.int i) j pos::es) (tCons (tC (.int i)) t):=pa_cons pe_int h star_int
def mkC (k:Int×Nat×Pos):Expr:= .Constant (.int k.1) k.2.1 k.2.2
def tInts (ks:List (Int×Nat×Pos)):TA:=fun _ H Q=>Q (ks.map fun k=>V.int k.1) H
theorem pa_ints:∀ks:List (Int×Nat×Pos),PA X (ks.map mkC) (tInts ks)
  |[]=>pa_nil
  | k::r=>by
    have h:PA X (mkC k::r.map mkC) (tCons (tC (.int k.1)) (tInts r)):=pa_int (pa_ints r)
    exact h
end
end L2

/-! C.m(x, ..) of a class,and fields and methods of an object of a class that is not fixed -/
namespace L2
open PySem PySem.Spec PyProof.Rows
section
variable {X:Cx}{o e value:Expr}{es:List Expr}{to ta tv:TE}{t:TA}{apos cpos pos pos':Pos}{C:Addr}{f m:Str}
variable {CX:CXT}{k:Nat}{fa:Addr}{fd:FuncData}{ps:List Str}{sp:Sp}{dvs:List V}{ds:List Value}{E:XK}
/-! ### a class that is not fixed -/
end
end L2

/-! o.m(..) in a try's body,where m may raise -/
namespace L2
open PySem PySem.Spec PyProof.Rows
section
variable {X:Cx}{o e:Expr}{es:List Expr}{ta:TE}{t:TA}{apos pos:Pos}{C:Addr}{m:Str}
variable {k:Nat}{fa:Addr}{fd:FuncData}{ps:List Str}{sp:Sp}{dvs:List V}{ds:List Value}
def dMethT (C:Addr)(m:Str)(sp:Sp)(dvs:List V)(σ0:St)(EX:XK)(ta:TE)(t:TA):TE:=fun σ H Q=>ta σ H fun x H1=>vR x fun a=>(∃dx fs,H1 a=some (.ins C dx fs)/\fs.lookup m=none)/\t σ H1 fun vs H2=>σ=σ0/\sp (.ref a::(vs++dvs)) H2 Q EX
theorem md_methT {pins0:List (Addr×Obj)}{σ0:St}{EX:XK}{pl:Sem Bool}(c:Cls X.K C)(hm:Meth X.K C m fa)(F:FnOk X.prog X.w X.K X.mg X.base (CXR X.prog X.w) k fa fd ps sp)(hr:Room k X.A)(hb:Binds X.K fd ps ds)(hd:Vals dvs ds)(he:PE (X.tried pins0 σ0 EX) o ta)(ha:PA (X.tried pins0 σ0 EX) (e::es) t)
    (hst:starEach (e::es) X.env=(false,eval e X.env)::starEach es X.env:=by rfl) (hpl:(backTo pos (starEach es X.env)).any (·.1)=false:=by rfl)
    (ht:eval (.Call (.Attribute o m apos) (e::es) [] pos) X.env=(do
      let ov<-eval o X.env
      standAt apos.atName
      let (f,first)<-holding [ov] (getMethod ov m pl)
      callWith pos f first (backTo pos (starEach (e::es) X.env)) (backToKw pos (keywordEach [] X.env))):=by rfl) :
    PE (X.tried pins0 σ0 EX) (.Call (.Attribute o m apos) (e::es) [] pos) (dMethT C m sp dvs σ0 EX ta t):=by
  intro pins s σ H Q I h
  refine W.methodCall_KW (pl:=pl) (thn (he pins s σ H _ I h) fun u s1 hz9=>?_) ht
  obtain⟨x,H1,I1,rx,q⟩:=hz9
  obtain⟨a,rfl,⟨dx,fs,ea,l⟩,q⟩:=vR.ex q
  obtain rfl:u=Value.ref a:=rx
  refine getmeth_ok (X:=X.tried pins0 σ0 EX) I1 ea c hm l ?_
  refine W.callWith_K (first:=[.ref a]) (h₀:=X.base) I.ok.mod.kin hm.kp (thn (ha pos pins s1 σ H1 _ I1 q) fun us s2 ⟨vs,H2,I2,r,eσ,q2⟩=>⟨I2.kIn,?_⟩) hst hpl
  subst eσ
  have r2:Vals (.ref a::(vs++dvs)) (.ref a::(us++ds)):= .cons rfl (r.append hd)
  have hl:(Value.ref a::us++ds).length=ps.length:=by rw[List.cons_append,<-r2.length];exact F.len _ _ _ _ q2
  refine wpAny_call (XR (F.run X.A X.stack s2 H2 ⟨.ref a::us, []⟩ (.ref a::(us++ds)) (.ref a::(vs++dvs)) Q EX hr I2.env0 (hb s2 (.ref a::us) I2.kIn hl) r2 q2) fun r s' hq=>?_)
  cases r with
  |error ev=>exact⟨pins,H2,s2,I2.unwish,hq⟩
  | ok fl=>
    cases fl with
    |ret u=>exact I2.after hq
    |next=>exact False.elim hq
    |brk=>exact False.elim hq
    |cont=>exact False.elim hq
end
end L2

/-! posts:methods by the object's class,a class with no __init__,a list or a tuple walked,a constructor that may raise in a try's body -/
namespace L2
open PySem PySem.Spec PyProof.Rows
/-! ### a list or a tuple -/
section
variable {X:Cx}{tg:Expr}
def dSeq (K:W.Frag)(tl:TE):TI:=fun σ H R=>tl σ H fun x H1=>vR x fun a=>((∃xs,SqL K H1 a xs)/\R (Itl K a) H1)\/((∃xs,SqT K H1 a xs)/\R (Itt K a) H1)
theorem mi_seq {l:Expr}{tl:TE}(hl:PE X l tl):PI X tg l (dSeq X.K tl):=by
  intro pins s σ H R I h
  refine thn (hl pins s σ H _ I h) fun v s1 hz9=>?_
  obtain⟨x,H1,I1,r1,q1⟩:=hz9
  obtain⟨a,e,q⟩:=vR.ex q1
  subst e
  cases r1
  rcases q with ⟨⟨xs,hq⟩,q⟩ | ⟨⟨xs,hq⟩,q⟩
  · obtain⟨its,rv,p,hz⟩:=I1.list hq
    refine wpAny_pyIter_list p.isList ?_
    refine⟨s1.heap.objs.size, [s1.heap.objs.size],_,_,H1,rfl,I1.kept (t':=s1.toks) fun b o e=>Yh _ e,turn_list a _,⟨_,YB _ rfl,rfl,rfl⟩,fun b hb=>?_,q⟩
    have e:b=s1.heap.objs.size:=by simpa using hb
    subst e
    exact I1.fpOk (Yc _) (I1.hok.fresh (Yc _))
  · obtain⟨its,rv,p,hz⟩:=I1.tuple hq
    refine wpAny_pyIter_tuple (show s1.heap.IsTuple a its.toArray from p) ?_
    refine⟨s1.heap.objs.size, [s1.heap.objs.size],_,_,H1,rfl,I1.kept (t':=s1.toks) fun b o e=>Yh _ e,turn_tuple a _,⟨_,YB _ rfl,rfl,rfl⟩,fun b hb=>?_,q⟩
    have e:b=s1.heap.objs.size:=by simpa using hb
    subst e
    exact I1.fpOk (Yc _) (I1.hok.fresh (Yc _))
end
theorem comp_tup {K:W.Frag}{a:Addr}{xs:List V}{tt:TT}{te:TE}{σc:V->St}{H:Hp}{Q:VK}(Pv:Nat->List V->Hp->Prop)(hn:∀i ys H,i<=xs.length->Pv i ys H->ys.length<sizeLine)(h0:Pv 0 [] H)
    (hl:∀i ys H,i<=xs.length->Pv i ys H->SqT K H a xs)
    (hs:∀i x ys H,xs[i]? =some x->Pv i ys H->tt (σc x) H fun b H3=>if b=true then te (σc x) H3 fun y H4=>Pv (i+1) (ys++[y]) H4 else Pv (i+1) ys H3)
    (hd:∀ys H,Pv xs.length ys H->∀p,H p=none->Q (.ref p) (upd H p (.lst ys))):cWord (Itt K a) tt te σc H Q:=by
  refine⟨fun i m ys H=>m=xs.length-i/\i<=xs.length/\Pv i ys H,⟨xs.length,by simp,YO _,h0⟩,?_⟩
  rintro i m ys H ⟨rfl,hi,p⟩
  have q:=hl i ys H hi p
  refine⟨hn i ys H hi p,?_⟩
  by_cases hlt:i<xs.length
  · refine .inr ⟨⟨xs,xs[i],q,by simp[hlt]⟩,Pv (i+1),fun ys' H' q=>⟨xs.length-(i+1),by omega,rfl,hlt,q⟩,fun x H' y=>?_⟩
    obtain⟨e,y⟩:=y
    subst e
    exact hs i x ys _ (y xs q) p
  · have e:i=xs.length:=by omega
    subst e
    exact .inl ⟨⟨xs,q,Yc _⟩,hd ys H p⟩
/-- by either -/
theorem comp_seq {K:W.Frag}{a:Addr}{xs:List V}{tt:TT}{te:TE}{σc:V->St}{H:Hp}{Q:VK}(h:SqA K H a xs)(Pv:Nat->List V->Prop)(hn:∀i ys,i<=xs.length->Pv i ys->ys.length<sizeLine)(h0:Pv 0 [])
    (hs:∀i x ys,xs[i]? =some x->Pv i ys->tt (σc x) H fun b H3=>if b=true then te (σc x) H3 fun y H4=>Pv (i+1) (ys++[y])/\H4=H else Pv (i+1) ys/\H3=H)
    (hd:∀ys,Pv xs.length ys->∀p,H p=none->Q (.ref p) (upd H p (.lst ys))):((∃xs,SqL K H a xs)/\cWord (Itl K a) tt te σc H Q)\/((∃xs,SqT K H a xs)/\cWord (Itt K a) tt te σc H Q):=by
  rcases h with h | h
  · refine .inl ⟨⟨_,h⟩,comp_list (xs:=xs) (fun i ys H'=>Pv i ys/\H'=H) (fun i ys H' hi z=>hn i ys hi z.1) ⟨h0,rfl⟩ (fun i ys H' hi z=>by rw[z.2];exact h) ?_ ?_⟩
    · rintro i x ys H' hx ⟨z,rfl⟩
      exact hs i x ys hx z
    · rintro ys H' ⟨z,rfl⟩
      exact hd ys z
  · refine .inr ⟨⟨_,h⟩,comp_tup (xs:=xs) (fun i ys H'=>Pv i ys/\H'=H) (fun i ys H' hi z=>hn i ys hi z.1) ⟨h0,rfl⟩ (fun i ys H' hi z=>by rw[z.2];exact h) ?_ ?_⟩
    · rintro i x ys H' hx ⟨z,rfl⟩
      exact hs i x ys hx z
    · rintro ys H' ⟨z,rfl⟩
      exact hd ys z
/-! ### o.m(..),m by the class of o -/
section
variable {X:Cx}{o e value:Expr}{es:List Expr}{to ta tv:TE}{t:TA}{apos cpos pos pos' p:Pos}{C:Addr}{f m x:Str}
variable {CX:CXT}{k:Nat}{fa:Addr}{fd:FuncData}{ps:List Str}{sp:Sp}{dvs:List V}{ds:List Value}{E:XK}{R:Addr->Sp->Prop}
/-! ### C() where there is no __init__ -/
/-! ### C(..) in a try's body,where __init__ may raise -/
end
end L2
namespace L2
open PySem
theorem Room.mo {j k:Nat}{A:Around}(r:Room k A)(h:j<=k:=by decide):Room j A:=r.mono h
end L2

/-! xs.insert(i,x) -/
namespace L2
open PySem PySem.Spec PyProof.Rows
section
variable {X:Cx}{o e e2:Expr}{to:TE}{t:TA}{apos cpos:Pos}
end
end L2

/-! texts:x.zfill(n),x.index(y),x in y,int(x) -/
namespace L2
open PySem PySem.Spec PyProof.Rows
section
variable {X:Cx}{o e:Expr}{to:TE}{t:TA}{apos cpos:Pos}
def rZfill:V->List V->Hp->VK->Prop:=fun x vs H Q=>∃z i,x= .str z/\vs= [.int i]/\PadOk i=true/\Q (.str (Txt.zfill z i)) H
theorem mt_zfill:MtM X "str.zfill" rZfill:=by
  intro pins s σ H x vs v us Q I rx rv h
  obtain⟨z,i,rfl,rfl,hok,q⟩:=h
  obtain⟨t,rfl⟩:=(show ∃t,v=Value.str z t from rx)
  obtain⟨u,rfl,ru⟩:=rv.one
  obtain⟨t2,rfl⟩:=(show ∃t,u=Value.int i t from ru)
  exact SC.zfill hok fun t' k=>⟨.str _,H,I.tok k,⟨_,rfl⟩,q⟩
def dZfill (to:TE)(t:TA):TE:=fun σ H Q=>to σ H fun x H1=>vS x fun z=>t σ H1 fun vs H2=>l1 vs fun y=>vI y fun i=>PadOk i=true/\Q (.str (Txt.zfill z i)) H2
theorem md_zfill (ho:PE X o to)(ha:PA X [e] t)(hbase:attributeBase o "zfill" X.env (eval o X.env)=eval o X.env:=by rfl)
    (hfew:((backTo cpos (starEach [e] X.env)).all (fun x=>!x.1) && (backToKw cpos (keywordEach [] X.env)).all (fun x=>x.1.isSome)
      && decide (([e]:List Expr).length+([]:List Keyword).length+(if ([]:List Keyword).isEmpty then 0 else 1)<30))=true:=by rfl)
    (hline:(apos.endLine == cpos.line)=true:=by rfl) (hs:starEach [e] X.env=(false,eval e X.env)::starEach [] X.env:=by rfl) (hplain:(backTo cpos (starEach [] X.env)).any (·.1)=false:=by rfl) :
    PE X (.Call (.Attribute o "zfill" apos) [e] [] cpos) (dZfill to t):=
  (pe_bm XA PySem.F.slot_str_zfill PySem.F.type_str_zfill mt_zfill (pe_cut ho) (pa_cut ha) hbase hfew hline hs hplain).imp fun σ H Q h=>⟨_,h,fun x H1 q=>by
    obtain⟨z,rfl,q2⟩:=vS.ex q
    refine⟨rfl,_,q2,fun vs H2 q3=>?_⟩
    obtain⟨y,rfl,q4⟩:=l1.ex q3
    obtain⟨i,rfl,h1,h2⟩:=vI.ex q4
    exact⟨z,i,rfl,rfl,h1,h2⟩⟩
def mInS:R2:=fun x y H Q=>vS x fun i=>vS y fun j=>Q (.bl (!(Builtin.Str.occurrences j i 0 j.length 1).isEmpty)) H
theorem z_inS:OpR X (compareOp .In) mInS:=op_in_str.imp fun x y H Q h=>by
  obtain⟨i,rfl,h1⟩:=vS.ex h
  obtain⟨j,rfl,q⟩:=vS.ex h1
  exact⟨i,j,rfl,rfl,q⟩
def mIntS:List V->Hp->VK->Prop:=fun xs H Q=>l1 xs fun x=>vS x fun z=>∃n,PySem.intText? z=some n/\z.length<=640/\Q (.int n) H
theorem z_intS:CallR X (.type "int") mIntS:=by
  intro pins s σ H xs us Q I r h
  obtain⟨x,rfl,h⟩:=l1.ex h
  obtain⟨z,rfl,n,h1,h2,q⟩:=vS.ex h
  obtain⟨u,rfl,t,rfl⟩:=vals1 r
  exact W.KIN.call_text h1 h2 ⟨.int _,H,I.tok _,⟨_,rfl⟩,q⟩
def mStrI:List V->Hp->VK->Prop:=fun xs H Q=>l1 xs fun x=>vI x fun i=>i.natAbs.log2<1920/\Q (.str (toString i)) H
theorem z_strI:CallR X (.type "str") mStrI:=call_str_int.imp fun xs H Q h=>by
  obtain⟨x,rfl,h⟩:=l1.ex h
  obtain⟨i,rfl,h1,h2⟩:=vI.ex h
  exact⟨i,rfl,h1,h2⟩
end
/-- the signs of a text,with a row to hang a word on -/
def iTextA (tl:TE):TI:=fun σ H R=>tl σ H fun x H1=>vS x fun z=>True/\R (Its z) H1
theorem mi_textA {X:Cx}{tg l:Expr}{tl:TE}(hl:PE X l tl):PI X tg l (iTextA tl):=(mi_text (pe_cut hl)).imp fun σ H R h=>⟨_,h,fun x H1 q=>by
  obtain⟨z,rfl,_,q2⟩:=vS.ex q
  exact q2⟩
theorem comp_rangec {lo c:Int}{n:Nat}{tt:TT}{te:TE}{σc:V->St}{H:Hp}{Q:VK}(Pv:Nat->List V->Hp->Prop)(hn:∀i ys H,i<=n->Pv i ys H->ys.length<sizeLine)(h0:Pv 0 [] H)
    (hs:∀i ys H,i<n->Pv i ys H->tt (σc (.int (lo+i*c))) H fun b H3=>if b=true then te (σc (.int (lo+i*c))) H3 fun y H4=>Pv (i+1) (ys++[y]) H4 else Pv (i+1) ys H3)
    (hd:∀ys H,Pv n ys H->∀p,H p=none->Q (.ref p) (upd H p (.lst ys))):cWord (Itrc lo c n) tt te σc H Q:=by
  refine⟨fun i m ys H=>m=n-i/\i<=n/\Pv i ys H,⟨n,by simp,YO _,h0⟩,?_⟩
  rintro i m ys H ⟨rfl,hi,p⟩
  refine⟨hn i ys H hi p,?_⟩
  by_cases hlt:i<n
  · refine .inr ⟨hlt,Pv (i+1),fun ys' H' q=>⟨n-(i+1),by omega,rfl,hlt,q⟩,fun x H' y=>?_⟩
    obtain⟨e,y⟩:=y
    subst e y
    exact hs i ys _ hlt p
  · have e:i=n:=by omega
    subst e
    exact .inl ⟨Yc _,hd ys H p⟩
end L2

/-! texts:slices beyond the end,x*n,not in -/
namespace L2
open PySem PySem.Spec PyProof.Rows PySem.Builtin PySem.Builtin.Str
section
variable {X:Cx}
end
end L2

/-! text.replace(old,new) with written old,new:they are two objects once the counter of made objects has begun (a written text was met ahead in the same body) -/
namespace L2
open PySem PySem.Spec PyProof.Rows
open PySem.Builtin PySem.Builtin.Str
section
variable {X:Cx}{st:Stmt}{rest:List Stmt}{t u:TS}
def PST (X:Cx)(st:Stmt)(t:TS):Prop:=
  ∀(pins:List (Addr×Obj))(s:Shared)(σ:St)(H:Hp)(D:Ends),1<=s.toks->Inv X pins σ H s->t D σ H->wpAny (model X.prog X.w) X.A (exec st X.env) (SP X pins D) X.xe s
def PSsT (X:Cx)(st:List Stmt)(t:TS):Prop:=
  ∀(pins:List (Addr×Obj))(s:Shared)(σ:St)(H:Hp)(D:Ends),1<=s.toks->Inv X pins σ H s->t D σ H->wpAny (model X.prog X.w) X.A (execs st X.env) (SP X pins D) X.xe s
def PSP (X:Cx)(st:Stmt)(t:TS):Prop:=
  ∀(pins:List (Addr×Obj))(s:Shared)(σ:St)(H:Hp)(D:Ends),Inv X pins σ H s->t D σ H->wpAny (model X.prog X.w) X.A (exec st X.env) (fun f s'=>1<=s'.toks/\SP X pins D f s') X.xe s
theorem pst_of (h:PS X st t):PST X st t:=fun pins s σ H D _ I q=>h pins s σ H D I q
theorem psst_of (h:PSs X rest t):PSsT X rest t:=fun pins s σ H D _ I q=>h pins s σ H D I q
theorem psst_cons (h1:PST X st t)(h2:PSsT X rest u):PSsT X (st::rest) (tSeq t u):=by
  intro pins s σ H D ht I h
  refine wpAny_execs_cons (YL (wpAny_toks_of ht (h1 pins s σ H { D with nx:=u D } ht I h)) (fun f s1 q=>?_) fun _ _ x=>x.2)
  obtain⟨ht1,q⟩:=q
  cases f with
  | next=>
    obtain⟨σ',H',I',q⟩:=q
    exact h2 pins s1 σ' H' D ht1 I' q
  |ret v=>exact q
  |brk=>exact q
  |cont=>exact q
theorem pss_tok (h1:PSP X st t)(h2:PSsT X rest u):PSs X (st::rest) (tSeq t u):=by
  intro pins s σ H D I h
  refine wpAny_execs_cons (thn (h1 pins s σ H { D with nx:=u D } I h) fun f s1 q=>?_)
  obtain⟨ht1,q⟩:=q
  cases f with
  | next=>
    obtain⟨σ',H',I',q⟩:=q
    exact h2 pins s1 σ' H' D ht1 I' q
  |ret v=>exact q
  |brk=>exact q
  |cont=>exact q
variable {i:Nat}{x y z:Str}{a o:Expr}{ta to:TE}{pos pos' bp cp cp2 apos cpos:Pos}{j j2:Nat}
/-- x=a op "text" -/
theorem psp_setB {op:Operator}{r:R2}(hN:X.N.Nodup)(hi:X.N[i]? =some x)(hx:Loc X.env.scope x)(ho:OpR X (binaryOp op) r)(ha:PE X a ta)(hs:swapsWith (.BinOp a op (.Constant (.str y) j cp) bp) (some (.Name x pos')) pos.line X.env=pure false:=by rfl)(hf:X.fn x=true\/X.env.scope.names.lookup x=some .local:=by first | exact .inl rfl | exact .inr rfl | assumption) :
    PSP X (.Assign [.Name x pos'] (.BinOp a op (.Constant (.str y) j cp) bp) pos) (tAsg (tOp r ta (tC (.str y))) (gName i)):=by
  intro pins s σ H D I h
  refine wpAny_Assign_Name (wpAny_BinOp ?_) hs
  refine thn (ha pins s σ H _ I h) fun v s1 hz9=>?_
  obtain⟨x',H1,I1,r1,q1⟩:=hz9
  refine XS ?_
  refine YL (wpAny_toks_of (n:=1) (Nat.le_add_left 1 s1.toks) (ho pins _ σ H1 x' (.str y) v _ _ (I1.tok _) r1 ⟨_,rfl⟩ q1)) (fun v2 s3 q3=>?_) (fun _ _ z=>z.2)
  obtain⟨ht,y2,H3,I3,r3,q3⟩:=q3
  exact YL (wpAny_toks_of ht (store_ok I3 hN hi hx r3 (fun s4 I4=>(⟨_,H3,I4,q3⟩:SP X pins D .next s4)) hf)) (fun _ _ z=>z) (fun _ _ z=>z.2)
def dRepl (to:TE)(y z:Str):TE:=fun σ H Q=>to σ H fun v H1=>vS v fun w=>(y == z)=false/\w.length+(w.length+1)*z.length<=16777216/\Q (.str (Txt.replace w y z)) H1
theorem pst_repl (hN:X.N.Nodup)(hi:X.N[i]? =some x)(hx:Loc X.env.scope x)(ho:PE X o to)(hs:swapsWith (.Call (.Attribute o "replace" apos) [.Constant (.str y) j cp,.Constant (.str z) j2 cp2] [] cpos) (some (.Name x pos')) pos.line X.env=pure false:=by rfl)(hf:X.fn x=true\/X.env.scope.names.lookup x=some .local:=by first | exact .inl rfl | exact .inr rfl | assumption)
    (hbase:attributeBase o "replace" X.env (eval o X.env)=eval o X.env:=by rfl)
    (hfew:((backTo cpos (starEach [.Constant (.str y) j cp,.Constant (.str z) j2 cp2] X.env)).all (fun x=>!x.1) && (backToKw cpos (keywordEach [] X.env)).all (fun x=>x.1.isSome)
      && decide (([.Constant (.str y) j cp,.Constant (.str z) j2 cp2]:List Expr).length+([]:List Keyword).length+(if ([]:List Keyword).isEmpty then 0 else 1)<30))=true:=by rfl)
    (hline:(apos.endLine == cpos.line)=true:=by rfl) :
    PST X (.Assign [.Name x pos'] (.Call (.Attribute o "replace" apos) [.Constant (.str y) j cp,.Constant (.str z) j2 cp2] [] cpos) pos) (tAsg (dRepl to y z) (gName i)):=by
  intro pins s σ H D ht I h
  refine wpAny_Assign_Name ?_ hs
  refine wpAny_Call_method_late hbase hfew hline rfl (YL (wpAny_toks_of ht (ho pins s σ H _ I h)) (fun v s1 q=>?_) fun _ _ z=>z.2)
  obtain⟨ht1,x',H1,I1,r1,q1⟩:=q
  obtain⟨w,rfl,hyz,hb,q⟩:=vS.ex q1
  obtain⟨tk,rfl⟩:=(show ∃t,v=Value.str w t from r1)
  obtain⟨h1,h2⟩:=tyV_is (T:="str") I1 r1 rfl
  refine⟨"str","str.replace",XA,PySem.F.slot_str_replace,PySem.F.type_str_replace,h1,h2,?_⟩
  refine Calls.callWith_builtin rfl (XO ?_)
  refine Xn (XS (k:=j) (pos:=cp) ?_)
  refine Xn (XS (k:=j2) (pos:=cp2) (Calls.spliced_nil ?_))
  refine SC.replace (Nat.ne_of_gt ht1) (Nat.succ_ne_zero _) (YM (Xq _)) hyz hb fun t' k=>?_
  exact store_ok (v:= .str (Txt.replace w y z)) ((I1.tok _).tok _) hN hi hx ⟨_,rfl⟩ (fun s4 I4=>⟨_,H1,I4,q⟩) hf
end
end L2

/-! text.split(sep) -/
namespace L2
open PySem PySem.Spec PyProof.Rows
open PySem.Builtin PySem.Builtin.Str
section
variable {X:Cx}{o e:Expr}{to:TE}{t:TA}{apos cpos:Pos}
theorem vals_strs:∀(k:Tok)(xs:List Str),Vals (xs.map V.str) (strsFrom k xs)
  |_, []=> .nil
  |k,x::xs=> .cons ⟨_,rfl⟩ (vals_strs _ xs)
def rSplit:V->List V->Hp->VK->Prop:=fun x vs H Q=>∃z y:Str,x= .str z/\vs= [.str y]/\(y.length == 0)=false/\z.length<=sizeLine/\(Txt.split z y).length<=sizeLine/\∀p,H p=none->Q (.ref p) (upd H p (.lst ((Txt.split z y).map V.str)))
theorem mt_split:MtM X "str.split" rSplit:=by
  intro pins s σ H x vs v us Q I rx rv h
  obtain⟨z,y,rfl,rfl,hy,hz,hn,q⟩:=h
  obtain⟨t,rfl⟩:=(show ∃t,v=Value.str z t from rx)
  obtain⟨u,rfl,ru⟩:=rv.one
  obtain⟨t2,rfl⟩:=(show ∃t,u=Value.str y t from ru)
  have one:∀{k:Tok},Txt.split z y= [z]->EP X pins σ Q (.ref s.heap.objs.size) { s with toks:=k,heap:=s.heap.push { cls:= .type "list",data:= .seq [Value.str z t].toArray } }:=fun {k} e=>by
    have q':=q _ (I.hok.fresh (Yc _))
    rw[e]at q' hn
    exact⟨.ref s.heap.objs.size,upd H s.heap.objs.size (.lst ([z].map V.str)),I.laid (t':=k) (fun b u e=>Yh _ e) (Yc _) (show _/\_ from ⟨hn, [.str z t],0,.cons ⟨_,rfl⟩ .nil,YB _ rfl⟩),rfl,q'⟩
  cases h1:(decide (z.length<y.length) || decide (strKind z<strKind y))
  · cases hf:(occurrences z y 0 z.length (z.length+1)).isEmpty
    · have e:Txt.split z y=partsBetween z (occurrences z y 0 z.length (z.length+1)) y.length:=(if_neg (ne_true_of_eq_false h1)).trans (if_neg (ne_true_of_eq_false hf))
      have q':=q _ (I.hok.fresh (Yc _))
      rw[e]at q' hn
      refine call_meets F.slot_str_split (typeIs_str _ _ _) F.entry_str_split (F.args_str_split_2 _ _) (meets_str_split_sep z y t t2 h1 hy hf hz hn) ?_
      exact⟨.ref s.heap.objs.size,upd H s.heap.objs.size (.lst ((partsBetween z (occurrences z y 0 z.length (z.length+1)) y.length).map V.str)),I.laid (t':=s.toks+_) (fun b u e=>Yh _ e) (Yc _) (show _/\_ from ⟨by rw[Ya];exact hn,_,0,vals_strs _ _,YB _ rfl⟩),rfl,q'⟩
    · exact call_meets F.slot_str_split (typeIs_str _ _ _) F.entry_str_split (F.args_str_split_2 _ _) (meets_str_split_not_found z y t t2 h1 hy hf) (one ((if_neg (ne_true_of_eq_false h1)).trans (if_pos hf)))
  · exact call_meets F.slot_str_split (typeIs_str _ _ _) F.entry_str_split (F.args_str_split_2 _ _) (meets_str_split_cannot_occur z y t t2 h1) (one (if_pos h1))
def dSplit (to:TE)(t:TA):TE:=fun σ H Q=>to σ H fun x H1=>vS x fun z=>t σ H1 fun vs H2=>l1 vs fun y=>vS y fun y=>(y.length == 0)=false/\z.length<=sizeLine/\(Txt.split z y).length<=sizeLine/\∀p,H2 p=none->Q (.ref p) (upd H2 p (.lst ((Txt.split z y).map V.str)))
theorem md_split (ho:PE X o to)(ha:PA X [e] t)(hbase:attributeBase o "split" X.env (eval o X.env)=eval o X.env:=by rfl)
    (hfew:((backTo cpos (starEach [e] X.env)).all (fun x=>!x.1) && (backToKw cpos (keywordEach [] X.env)).all (fun x=>x.1.isSome)
      && decide (([e]:List Expr).length+([]:List Keyword).length+(if ([]:List Keyword).isEmpty then 0 else 1)<30))=true:=by rfl)
    (hline:(apos.endLine == cpos.line)=true:=by rfl) (hs:starEach [e] X.env=(false,eval e X.env)::starEach [] X.env:=by rfl) (hplain:(backTo cpos (starEach [] X.env)).any (·.1)=false:=by rfl) :
    PE X (.Call (.Attribute o "split" apos) [e] [] cpos) (dSplit to t):=
  (pe_bm XA PySem.F.slot_str_split PySem.F.type_str_split mt_split (pe_cut ho) (pa_cut ha) hbase hfew hline hs hplain).imp fun σ H Q h=>⟨_,h,fun x H1 q=>by
    obtain⟨z,rfl,q2⟩:=vS.ex q
    refine⟨rfl,_,q2,fun vs H2 q3=>?_⟩
    obtain⟨y,rfl,q4⟩:=l1.ex q3
    obtain⟨y,rfl,h1⟩:=vS.ex q4
    exact⟨z,y,rfl,rfl,h1⟩⟩
end
end L2

/-! a text that was joined falls apart into the same pieces -/
namespace L2
open PySem PySem.Builtin PySem.Builtin.Str
theorem cut_uniq {c:Nat}:∀{l1 l2 r1 r2:List Nat},c∉l1->c∉l2->l1++c::r1=l2++c::r2->l1=l2/\r1=r2
  |[], [],_,_,_,_,h=>⟨rfl,(List.cons.inj h).2⟩
  |[],y::l2,_,_,_,h2,h=>absurd (Yo) ((List.cons.inj h).1▸h2)
  |x::l1, [],_,_,h1,_,h=>absurd (Yo) ((List.cons.inj h).1.symm▸h1)
  | x::l1,y::l2,r1,r2,h1,h2,h=>by
    obtain⟨a,b⟩:=List.cons.inj h
    obtain⟨p,q⟩:=cut_uniq (fun z=>h1 (Yf _ z)) (fun z=>h2 (Yf _ z)) b
    exact⟨by rw[a,p],q⟩
theorem str_ext {x y:Str}(h:x.cps.toList=y.cps.toList):x=y:=by
  obtain⟨⟨a⟩⟩:=x
  obtain⟨⟨b⟩⟩:=y
  have:a=b:=h
  rw[this]
theorem app_cps (x y:Str):(x++y).cps.toList=x.cps.toList++y.cps.toList:=by
  show (x.cps++y.cps).toList=_
  rw[Array.toList_append]
def sepC (c:Nat):Str:=⟨#[c]⟩
theorem join_inj {c:Nat}:∀{A B:List Str},A≠ []->B≠ []->(∀x∈A,c∉x.cps.toList)->(∀x∈B,c∉x.cps.toList)->Str.join (sepC c) A=Str.join (sepC c) B->A=B
  |[],_,h,_,_,_,_=>absurd rfl h
  |_::_, [],_,h,_,_,_=>absurd rfl h
  |[x], [y],_,_,_,_,h=>by rw[show x=y from h]
  | [x],y::z::B,_,_,h1,_,h=>by
    have h':x=y++sepC c++Str.join (sepC c) (z::B):=h
    have:=YE (fun s:Str=>s.cps.toList) h'
    simp only[app_cps]at this
    exact absurd (by rw[this];simp[sepC]) (h1 x Yo)
  | x::w::A, [y],_,_,_,h2,h=>by
    have h':x++sepC c++Str.join (sepC c) (w::A)=y:=h
    have:=YE (fun s:Str=>s.cps.toList) h'
    simp only[app_cps]at this
    exact absurd (by rw[<-this];simp[sepC]) (h2 y Yo)
  | x::w::A,y::z::B,_,_,h1,h2,h=>by
    have h':x++sepC c++Str.join (sepC c) (w::A)=y++sepC c++Str.join (sepC c) (z::B):=h
    have:=YE (fun s:Str=>s.cps.toList) h'
    simp only[app_cps,sepC,Y7]at this
    obtain⟨p,q⟩:=cut_uniq (c:=c) (h1 x Yo) (h2 y Yo) this
    rw[str_ext p,join_inj (A:=w::A) (B:=z::B) (by simp) (by simp) (fun u hu=>h1 u (Yf _ hu)) (fun u hu=>h2 u (Yf _ hu)) (str_ext q)]
theorem split_ne (x y:Str):Txt.split x y≠ []:=by
  unfold Txt.split
  split
  · simp
  · split
    · simp
    · intro h
      have:=YE List.length h
      rw[length_partsBetween]at this
      cases this
theorem join_split (x y:Str):Str.join y (Txt.split x y)=x:=by
  unfold Txt.split
  split
  · rfl
  · split
    · rfl
    · rw[<-StrLaws.glued_eq_join]
      exact StrLaws.glued_between_self x y _
theorem split_join {c:Nat}{ws:List Str}(h:ws≠ [])(hc:∀x∈ws,c∉x.cps.toList):Txt.split (Txt.join (sepC c) ws) (sepC c)=ws:=by
  refine join_inj (split_ne _ _) h (StrLaws.split_free _ c) hc ?_
  rw[join_split]
  show glued (sepC c) ws=_
  rw[StrLaws.glued_eq_join]
end L2

namespace L2
open PySem PySem.Spec PyProof.Rows

/-! ### lists of pairs as tables -/
section
variable {κ:Type}[DecidableEq κ]
def valV (kvs:List (κ×V))(k:κ):Option V:=(kvs.find? fun kv=>decide (kv.1=k)).map (·.2)
/-- in its place,or at the end -/
def putK (kvs:List (κ×V))(k:κ)(v:V):List (κ×V):=
  if (kvs.any fun kv=>decide (kv.1=k))=true then kvs.map (fun kv=>if kv.1=k then (kv.1,v) else kv) else kvs++[(k,v)]
theorem valV_pos {p:κ×V}{r:List (κ×V)}{k:κ}(e:p.1=k):valV (p::r) k=some p.2:=by simp[valV,Xv,e]
theorem valV_neg {p:κ×V}{r:List (κ×V)}{k:κ}(e:¬ p.1=k):valV (p::r) k=valV r k:=by simp[valV,Xv,e]
theorem valV_any (k:κ):∀kvs:List (κ×V),(kvs.any fun kv=>decide (kv.1=k))=(valV kvs k).isSome
  |[]=>rfl
  | p::r=>by
    rw[XF]
    by_cases e:p.1=k
    · simp only[valV_pos e,Yw e,Bool.true_or,Option.isSome_some]
    · rw[valV_neg e,Ys e,Bool.false_or];exact valV_any k r
theorem valV_map (k j:κ)(y:V):∀kvs:List (κ×V),valV (kvs.map fun kv=>if kv.1=k then (kv.1,y) else kv) j=(valV kvs j).map fun x=>if j=k then y else x
  |[]=>rfl
  | p ::r=>by
    have ih:=valV_map k j y r
    rw[Yy]
    by_cases h:p.1=k
    · rw[if_pos h]
      by_cases e:p.1=j
      · rw[valV_pos (p:=(p.1,y)) e,valV_pos e,Option.map_some,if_pos (e.symm.trans h)]
      · rw[valV_neg (p:=(p.1,y)) e,valV_neg e,ih]
    · rw[if_neg h]
      by_cases e:p.1=j
      · rw[valV_pos (p:=p) e,valV_pos e,Option.map_some,if_neg (fun z=>h (e.trans z))]
      · rw[valV_neg (p:=p) e,valV_neg e,ih]
theorem valV_snoc (k j:κ)(y:V):∀kvs:List (κ×V),valV kvs k=none->valV (kvs++[(k,y)]) j=if j=k then some y else valV kvs j
  | [],_=>by
    by_cases e:k=j
    · rw[if_pos e.symm];exact valV_pos (p:=(k,y)) e
    · rw[if_neg (fun z=>e z.symm)];exact valV_neg (p:=(k,y)) e
  | p::r,hn=>by
    rw[List.cons_append]
    have hk:¬ p.1=k:=fun z=>by rw[valV_pos z]at hn;cases hn
    rw[valV_neg hk]at hn
    have ih:=valV_snoc k j y r hn
    by_cases e:p.1=j
    · rw[valV_pos e,valV_pos e,if_neg (fun z=>hk (e.trans z))]
    · rw[valV_neg e,valV_neg e,ih]
theorem valV_put (kvs:List (κ×V))(k j:κ)(y:V):valV (putK kvs k y) j=if j=k then some y else valV kvs j:=by
  unfold putK
  by_cases a:(kvs.any fun kv=>decide (kv.1=k))=true
  · rw [if_pos a,valV_map]
    rw[valV_any]at a
    by_cases e:j=k
    · obtain⟨x,hx⟩:=Option.isSome_iff_exists.mp a
      rw[if_pos e,e,hx,Option.map_some,if_pos rfl]
    · rw[if_neg e]
      cases valV kvs j with
      |none=>rfl
      |some x=>rw[Option.map_some,if_neg e]
  · rw[if_neg a]
    refine valV_snoc k j y kvs ?_
    rw[valV_any]at a
    cases q:valV kvs k with
    |none=>rfl
    |some x=>rw[q]at a;exact(a rfl).elim
theorem length_putK (kvs:List (κ×V))(k:κ)(v:V):(putK kvs k v).length<=kvs.length+1:=by
  unfold putK
  split
  · rw[Ya];omega
  · rw[Yj,YX,List.length_nil];omega
theorem RelO.isSome_eq {o:Option V}{u:Option Value}(r:RelO o u):o.isSome=u.isSome:=by
  cases o with
  | none=>cases u with
    |none=>rfl
    |some _=>exact(show False from r).elim
  | some _=>cases u with
    |none=>exact(show False from r).elim
    |some _=>rfl
theorem RelO.getD {o:Option V}{u:Option Value}{d:V}{d':Value}(r:RelO o u)(rd:RelV d d'):RelV (o.getD d) (u.getD d'):=by
  cases o with
  | none=>cases u with
    |none=>exact rd
    |some _=>exact(show False from r).elim
  | some _=>cases u with
    |none=>exact(show False from r).elim
    |some _=>exact r

/-- raw tables of the same keys -/
theorem KV.val {kvs:List (κ×V)}{vs:List (κ×Value)}(r:KV kvs vs)(k:κ):RelO (valV kvs k) (valueAt vs k):=by
  unfold KV at r
  induction r with
  |nil=>exact True.intro
  | @cons p q ps qs h t ih=>
    obtain⟨h1,h2⟩:=h
    by_cases e:p.1=k
    · have e':q.1=k:=h1.symm.trans e
      have b:valueAt (q::qs) k=some q.2:=by simp[valueAt,Xv,e']
      rw[valV_pos e,b];exact h2
    · have e':¬ q.1=k:=fun z=>e (h1.trans z)
      have b:valueAt (q::qs) k=valueAt qs k:=by simp[valueAt,Xv,e']
      rw[valV_neg e,b];exact ih
theorem KV.any {kvs:List (κ×V)}{vs:List (κ×Value)}(r:KV kvs vs)(k:κ):(kvs.any fun kv=>decide (kv.1=k))=vs.any fun kv=>decide (kv.1=k):=by
  unfold KV at r
  induction r with
  |nil=>rfl
  |cons h t ih=>rw[XF,XF,ih,h.1]
theorem KV.repl {kvs:List (κ×V)}{vs:List (κ×Value)}(r:KV kvs vs)(k:κ){y:V}{u:Value}(ry:RelV y u) :
    KV (kvs.map fun kv=>if kv.1=k then (kv.1,y) else kv) (vs.map fun kv=>if kv.1=k then (kv.1,u) else kv):=by
  unfold KV at r ⊢
  induction r with
  |nil=>exact .nil
  | @cons p q ps qs h t ih=>
    rw[Yy,Yy]
    refine .cons ?_ ih
    obtain⟨h1,h2⟩:=h
    by_cases e:p.1=k
    · rw[if_pos e,if_pos (h1.symm.trans e)];exact⟨h1,ry⟩
    · rw[if_neg e,if_neg (fun z=>e (h1.trans z))];exact⟨h1,h2⟩
theorem KV.put {kvs:List (κ×V)}{vs:List (κ×Value)}(r:KV kvs vs)(k:κ){y:V}{u:Value}(ry:RelV y u):KV (putK kvs k y) (stored vs k u):=by
  unfold putK stored
  rw[r.any k]
  by_cases e:(vs.any fun kv=>decide (kv.1=k))=true
  · rw[if_pos e,if_pos e];exact r.repl k ry
  · rw[if_neg e,if_neg e];exact Paired.snoc r ⟨rfl,ry⟩
theorem KV.length {kvs:List (κ×V)}{vs:List (κ×Value)}(r:KV kvs vs):kvs.length=vs.length:=Paired.length r
end


/-! ### a tracked dict,its keys ints and texts or tuples of these -/
theorem kV_is {P:Program}{w:World}{k:Key}{u:Value}(r:RelV (kV k) u):(mixKind P w).is k u=true:=by
  cases k with
  |inl i=>obtain⟨t,e⟩:=(show ∃t,u=Value.int i t from r);subst e;exact mixKind_int P w i t
  |inr x=>obtain⟨t,e⟩:=(show ∃t,u=Value.str x t from r);subst e;exact mixKind_str P w x t
theorem items_are {P:Program}{w:World}:∀{ks:List Key}{us:List Value},Vals (ks.map kV) us->ItemsAre (mixKind P w) ks us
  |[],_,r=>by rw[Xr]at r;cases r;exact .nil
  | k::ks,_,r=>by
    rw[Yy]at r
    cases r with
    |cons h t=>exact .cons (kV_is h) (items_are t)

/-- raw entries of a dict with tuple keys -/
abbrev KT (H:Hp):List (List Key×V)->List (List Key×Addr×Value)->Prop:=Paired fun p q=>p.1=q.1/\H q.2.1=some (.tup (p.1.map kV))/\RelV p.2 q.2.2
theorem KT.val {H:Hp}{kvs:List (List Key×V)}{xs:List (List Key×Addr×Value)}(r:KT H kvs xs)(k:List Key):RelO (valV kvs k) ((atKey xs k).map (·.2)):=by
  induction r with
  |nil=>exact True.intro
  | @cons p q ps qs h t ih=>
    obtain⟨h1,_,h2⟩:=h
    by_cases e:p.1=k
    · have e':q.1=k:=h1.symm.trans e
      have b:atKey (q::qs) k=some q.2:=by simp[atKey,Xv,e']
      rw[valV_pos e,b];exact h2
    · have e':¬ q.1=k:=fun z=>e (h1.trans z)
      have b:atKey (q::qs) k=atKey qs k:=by simp[atKey,Xv,e']
      rw[valV_neg e,b];exact ih
theorem KT.repl {H:Hp}{kvs:List (List Key×V)}{xs:List (List Key×Addr×Value)}(r:KT H kvs xs)(k:List Key){y:V}{u:Value}(ry:RelV y u) :
    KT H (kvs.map fun kv=>if kv.1=k then (kv.1,y) else kv) (xs.map (putAt k u)):=by
  induction r with
  |nil=>exact .nil
  | @cons p q ps qs h t ih=>
    rw[Yy,Yy]
    refine .cons ?_ ih
    obtain⟨h1,h2,h3⟩:=h
    unfold putAt
    by_cases e:p.1=k
    · rw[if_pos e,if_pos (h1.symm.trans e)];exact⟨h1,h2,ry⟩
    · rw[if_neg e,if_neg (fun z=>e (h1.trans z))];exact⟨h1,h2,h3⟩
theorem KT.put {H:Hp}{kvs:List (List Key×V)}{xs:List (List Key×Addr×Value)}(r:KT H kvs xs)(k:List Key){b:Addr}{y:V}{u:Value}(hb:H b=some (.tup (k.map kV)))(ry:RelV y u) :
    KT H (putK kvs k y) (storedH xs k b u):=by
  have e:(kvs.any fun kv=>decide (kv.1=k))=(atKey xs k).isSome:=by
    rw[valV_any,(r.val k).isSome_eq,Option.isSome_map]
  unfold putK storedH
  rw[e]
  by_cases q:(atKey xs k).isSome=true
  · rw[if_pos q,if_pos q];exact r.repl k ry
  · rw[if_neg q,if_neg q];exact Paired.snoc r ⟨rfl,hb,ry⟩
theorem KT.keeps {H H':Hp}{kvs:List (List Key×V)}{xs:List (List Key×Addr×Value)}(r:KT H kvs xs)(ht:∀b ys,H b=some (.tup ys)->H' b=some (.tup ys)):KT H' kvs xs:=
  Paired.mapP r fun _ _ z=>⟨z.1,ht _ _ z.2.1,z.2.2⟩

section
variable {P:Program}{w:World}{H:Hp}{h:Heap}{a:Addr}
theorem rd_of {u:HO}(ok:HOk P w H h)(e:Rd H a u):ObjOk P w H h a u:=e.ok ok
theorem dk_rd {kvs:List (Key×V)}(ok:HOk P w H h)(e:Rd H a (.dK kvs)):kvs.length<=sizeLine/\(a == sysModules)=false/\∃vs,KV kvs vs/\h.DictOf (mixKind P w) a vs:=
  show ObjOk P w H h a (.dK kvs) from rd_of ok e
theorem dk_of {kvs:List (Key×V)}(ok:HOk P w H h)(e:H a=some (.dK kvs)):kvs.length<=sizeLine/\(a == sysModules)=false/\∃vs,KV kvs vs/\h.DictOf (mixKind P w) a vs:=dk_rd ok (.inl e)
/-- a tracked tuple of ints and texts is a key -/
theorem key_of {ks:List Key}(ok:HOk P w H h)(e:H a=some (.tup (ks.map kV))):(tupleKind (mixKind P w)).is h ks a:=by
  obtain⟨_,its,r,o,h1,h2,n,h3⟩:=(show ObjOk P w H h a (.tup (ks.map kV)) from ok a _ e)
  exact⟨o,its.toArray,n,h1,h2,h3,by simpa using items_are r⟩
theorem dt_rd {kvs:List (List Key×V)}(ok:HOk P w H h)(e:Rd H a (.dT kvs)):kvs.length<=sizeLine/\(a == sysModules)=false/\
    ∃xs,KT H kvs xs/\h.DictOfH (tupleKind (mixKind P w)) a xs:=by
  obtain⟨z,y,xs,r,o,es,ep,h1,h2,h3,h4,h5⟩:=(show ObjOk P w H h a (.dT kvs) from rd_of ok e)
  refine⟨z,y,xs,r,o,es,ep,h1,h2,h3,h4,fun x hx=>?_,h5⟩
  have all:∀{l:List (List Key×V)}{m:List (List Key×Addr×Value)},KT H l m->∀x∈m,(tupleKind (mixKind P w)).is h x.1 x.2.1:=by
    intro l m q
    induction q with
    |nil=>intro x hx;exact nomatch hx
    | @cons p q ps qs hq t ih=>
      intro x hx
      rcases Yr.mp hx with e | hx
      · subst e
        exact key_of ok (by rw[<-hq.1];exact hq.2.1)
      · exact ih x hx
  exact all r x hx
theorem dt_of {kvs:List (List Key×V)}(ok:HOk P w H h)(e:H a=some (.dT kvs)):kvs.length<=sizeLine/\(a == sysModules)=false/\
    ∃xs,KT H kvs xs/\h.DictOfH (tupleKind (mixKind P w)) a xs:=dt_rd ok (.inl e)
end

/-- what the dict at a holds at the key y -/
def DGet (H:Hp)(a:Addr)(y:V)(r:Option V):Prop:=
  (∃kvs k,Rd H a (.dK kvs)/\y=kV k/\r=valV kvs k)\/∃kvs k b,Rd H a (.dT kvs)/\y= .ref b/\H b=some (.tup (k.map kV))/\r=valV kvs k
/-- the heap behind a[y]=v -/
def DPut (H:Hp)(a:Addr)(y v:V)(H':Hp):Prop:=
  (∃kvs k,H a=some (.dK kvs)/\y=kV k/\kvs.length<sizeLine/\H'=upd H a (.dK (putK kvs k v)))\/
  ∃kvs k b,H a=some (.dT kvs)/\y= .ref b/\H b=some (.tup (k.map kV))/\kvs.length<sizeLine/\H'=upd H a (.dT (putK kvs k v))
section
variable {X:Cx}{pins:List (Addr×Obj)}{σ:St}{H:Hp}{s:Shared}{a:Addr}{y v:V}{u r:Value}{o:Option V}{A:Around}{E:Value->Shared->Prop}

theorem Inv.big (I:Inv X pins σ H s):sysModules<s.heap.objs.size:=by
  have h:mainGlobals<s.heap.objs.size:=(I.mod.glob.keeps I.bk).lt
  exact XM (by decide) h

/-- a dict's object is replaced -/
theorem d_write {h':Heap}{t':Nat}{ob:HO}(I:Inv X pins σ H s)(mu:Mut (H a))(hs:Heap.SameBut a s.heap h')(he:∃q,h'.get? a=some q)(new:ObjOk X.prog X.w (upd H a ob) h' a ob) :
    Inv X pins σ (upd H a ob) { s with heap:=h',toks:=t' }:=
  I.write (x:=a) (e:=a) mu (.inl rfl) (fun b q hb z=>(hs.2 b hb).trans z) he new
theorem dk_new {P:Program}{w:World}{H':Hp}{h':Heap}{kvs:List (Key×V)}{vs:List (Key×Value)}(z:kvs.length<=sizeLine)(hd:(a == sysModules)=false)(rel:KV kvs vs)(dd:h'.DictOf (mixKind P w) a vs) :
    ObjOk P w H' h' a (.dK kvs):=⟨z,hd,vs,rel,dd⟩
/-- d[y]=v -/
theorem d_setItem {H':Hp}{Q:Unit->Shared->Prop}(hu:A.units+1<cLine)(I:Inv X pins σ H s)(g:DPut H a y v H')(ry:RelV y u)(rv:RelV v r)(h:∀s',Inv X pins σ H' s'->Q () s') :
    wpAny (model X.prog X.w) A (setItem (.ref a) u r) Q E s:=by
  rcases g with ⟨kvs,k,e,ey,l,eH⟩ | ⟨kvs,k,b,e,ey,eb,l,eH⟩
  · subst ey eH
    obtain⟨z,hd,vs,rel,dd⟩:=dk_of I.hok e
    have hz:vs.length<=sizeLine:=by rw[<-rel.length];exact z
    have hl:(putK kvs k v).length<=sizeLine:=by have:=length_putK kvs k v;omega
    refine wpAny_setItem_pairs (hsz:=hz) (kV_is ry) dd fun h' dd' hs=>h _ ?_
    have he:∃q,h'.get? a=some q:=let ⟨q,_,_,hq,_⟩:=dd';⟨q,hq⟩
    exact d_write I (by rw[e];exact True.intro) hs he (dk_new hl hd (rel.put k rv) dd')
  · subst ey eH
    cases (show u=Value.ref b from ry)
    obtain⟨z,hd,xs,rel,dd⟩:=dt_of I.hok e
    have hz:xs.length<=sizeLine:=by rw[<-Paired.length rel];exact z
    have hl:(putK kvs k v).length<=sizeLine:=by have:=length_putK kvs k v;omega
    refine wpAny_setItem_heap (hsz:=hz) (tupleKind_room_in1 hu) (key_of I.hok eb) dd fun h' dd' hs=>h _ ?_
    obtain⟨q,es,ep,hq,h2,h3,h4,_,h5⟩:=dd'
    refine d_write I (by rw[e];exact True.intro) hs ⟨q,hq⟩ ⟨hl,hd,_,(rel.put k eb rv).keeps fun c ys ec=>?_,q,es,ep,hq,h2,h3,h4,h5⟩
    rw[upd_ne (ne_of ec e (fun z=>nomatch z))]
    exact ec
end

section
variable {X:Cx}{pins:List (Addr×Obj)}{σ:St}{H:Hp}{s:Shared}{a:Addr}{kvs:List (Key×V)}{k:Key}{u:Value}{A:Around}{E:Value->Shared->Prop}
end


/-! ### readings and rules -/
/-- the element of a subscription,not a slice -/
def NoSl (i:Expr):Prop:=∀ov iv,subscripted i false ov iv=operate [ov,iv] (getItem ov iv)
theorem subD_of {prog:Program}{w:World}{A:Around}{E:Value->Shared->Prop}{s:Shared}{env:Env}{value slice:Expr}{pos:Pos}{T id:String}{Q:Value->Shared->Prop}
    (hl:typeLookup (.type T) "__getitem__"=pure (some (.builtin id))) (hs:NoSl slice)
    (h:wpAny (model prog w) A (eval value env) (fun o s₁=>wpAny (model prog w) A (eval slice env) (fun i s₂=>s₂.TypeIs o T/\wpAny (model prog w) A (getItem o i) Q E s₂) E s₁) E s) :
    wpAny (model prog w) A (eval (.Subscript value slice pos) env) Q E s:=by
  refine Subscript_ (YL h (fun o s₁ h₁=>YL h₁ (fun i s₂ h₂=>?_) fun _ _ x=>x) fun _ _ x=>x)
  obtain⟨hT,h₂⟩:=h₂
  unfold subscriptTail
  refine Yn ?_
  rw[getitemInPython_of_ne hT.not_modules]
  refine Yn (wpAny_specialOf hT hl ?_)
  have fin:wpAny (model prog w) A (subscripted slice false o i) (fun r s₃=>wpAny (model prog w) A (letTemporaryGo value o r >>= fun _=>pure r) Q E s₃) E s₂:=by
    rw[hs o i]
    exact wpAny_operating (YL h₂ (fun r s₃ h₃=>Yn (wpAny_letTemporaryGo (YS h₃))) fun _ _ x=>x)
  first
    |exact YS (Yn fin)
    |exact Yn (YS (Yn fin))
    |exact Yn fin

/-- d[y]=v -/
def sDPut (td ty tv:TE):TS:=fun D σ H=>tv σ H fun v H1=>td σ H1 fun x H2=>ty σ H2 fun y H3=>∃a H4,x= .ref a/\DPut H3 a y v H4/\D.nx σ H4
section
variable {X:Cx}{o i e value:Expr}{pos pos' tpos:Pos}{td ty tv:TE}
theorem ps_dput (hu:X.A.units+1<cLine)(ho:PE X o td)(hi:PE X i ty)(hv:PE X value tv)(hs:swapsWith value (some (.Subscript o i pos')) pos.line X.env=pure false) :
    PS X (.Assign [.Subscript o i pos'] value pos) (sDPut td ty tv):=by
  intro pins s σ H D I h
  refine wpAny_Assign_Subscript (thn (hv pins s σ H _ I h) fun r s1 ⟨v,H1,I1,rv,q1⟩=>thn (ho pins s1 σ H1 _ I1 q1) fun u s2 ⟨x,H2,I2,rx,q2⟩=>thn (hi pins s2 σ H2 _ I2 q2) fun iv s3 ⟨y,H3,I3,ry,a,H4,ex,g,q3⟩=>?_) hs
  subst ex
  obtain rfl:u=Value.ref a:=rx
  exact d_setItem hu I3 g ry rv fun s4 I4=>⟨σ,H4,I4,q3⟩
end


/-! ### displays -/
theorem dk_empty {P:Program}{w:World}{H:Hp}(h:Heap)(hb:sysModules<h.objs.size):ObjOk P w H (h.push { cls:= .type "dict",data:= .dict #[] }) h.objs.size (.dK []):=
  ⟨YO _,Y8.mpr (Ne.symm (YM hb)), [],.nil,Heap.DictOf.new h⟩
/-- {},to be a dict of the kind that is wanted -/
def tDNewK:TE:=fun _ H Q=>∀p,H p=none->Q (.ref p) (upd H p (.dK []))
section
variable {X:Cx}{pos:Pos}
theorem pe_dnewK:PE X (.Dict [] [] pos) tDNewK:=fun pins s σ H Q I h=>
  wpAny_Dict_empty ⟨.ref s.heap.objs.size,_,I.laid (a:=s.heap.objs.size) (o:= .dK []) (t':=s.toks) (fun _ _ q=>Yh _ q) (Yc _) (dk_empty s.heap I.big),rfl,h _ (I.hok.fresh (Yc _))⟩
end

/-! ### methods -/
structure M2 (X:Cx)(o:Expr)(m:Str)(apos:Pos)(e f:Expr)(cpos:Pos):Prop where
  base:attributeBase o m X.env (eval o X.env)=eval o X.env
  few:((backTo cpos (starEach [e,f] X.env)).all (fun x=>!x.1) && (backToKw cpos (keywordEach [] X.env)).all (fun x=>x.1.isSome)
    && decide (([e,f]:List Expr).length+([]:List Keyword).length+(if ([]:List Keyword).isEmpty then 0 else 1)<30))=true
  line:(apos.endLine == cpos.line)=true
  trees:backTo cpos (starEach [e,f] X.env)= [(false,eval e X.env),(false,eval f X.env)]

/-- a is a dict,whatever its keys -/
def IsD (H:Hp)(a:Addr):Prop:=(∃kvs,Rd H a (.dK kvs))\/∃kvs,Rd H a (.dT kvs)
theorem isD_at {X:Cx}{pins:List (Addr×Obj)}{σ:St}{H:Hp}{s:Shared}{a:Addr}(I:Inv X pins σ H s)(d:IsD H a) :
    s.TypeIs (.ref a) "dict"/\(∀b,Value.ref a= .ref b->∃ob,s.heap.get? b=some ob/\ob.dict=none)/\(a == sysModules)=false:=by
  rcases d with ⟨kvs,e⟩ | ⟨kvs,e⟩
  · obtain⟨_,hd,vs,_,dd⟩:=dk_rd I.hok e
    refine⟨dd.typeIs,fun b q=>?_,hd⟩
    cases q
    obtain⟨ob,_,_,h1,h2,_⟩:=dd
    exact⟨ob,h1,h2.2.1⟩
  · obtain⟨_,hd,xs,_,dd⟩:=dt_rd I.hok e
    refine⟨dd.typeIs,fun b q=>?_,hd⟩
    cases q
    obtain⟨ob,_,_,h1,h2,_⟩:=dd
    exact⟨ob,h1,h2.2.1⟩

section
variable {X:Cx}{pins:List (Addr×Obj)}{σ:St}{H:Hp}{s:Shared}{a:Addr}{y d:V}{u r:Value}{o:Option V}{A:Around}{E:Value->Shared->Prop}
/-- d.get(y,x) -/
theorem d_get2 {Q:Value->Shared->Prop}(hu:A.units+1<cLine)(I:Inv X pins σ H s)(g:DGet H a y o)(ry:RelV y u)(rd:RelV d r)(h:∀w' s',Inv X pins σ H s'->RelV (o.getD d) w'->Q w' s') :
    wpAny (model X.prog X.w) A (call (.builtin "dict.get") [.ref a,u,r]) Q E s:=by
  rcases g with ⟨kvs,k,e,ey,l⟩ | ⟨kvs,k,b,e,ey,eb,l⟩
  · subst ey
    obtain⟨z,hd,vs,rel,dd⟩:=dk_rd I.hok e
    refine call_meetsIn PySem.F.slot_dict_get dd.typeIs PySem.F.entry_dict_get (PySem.F.args_dict_get_3 _ _ _) (meets_dict_get_default (mixKind X.prog X.w) a (kV_is ry) hd r) ⟨_,dd.mapOf,h _ _ (I.tok _) ?_⟩
    rw[l]
    exact(rel.val k).getD rd
  · subst ey
    cases (show u=Value.ref b from ry)
    obtain⟨z,hd,xs,rel,dd⟩:=dt_rd I.hok e
    refine call_meetsIn PySem.F.slot_dict_get dd.typeIs PySem.F.entry_dict_get (PySem.F.args_dict_get_3 _ _ _) (meetsH_dict_get_default (tupleKind (mixKind X.prog X.w)) a b hd r) ⟨tupleKind_room_in1 hu,k,xs,key_of I.hok eb,dd,h _ _ (I.tok _) ?_⟩
    rw[l]
    exact(rel.val k).getD rd
end

def tDGet2 (td ty tx:TE):TE:=fun σ H Q=>td σ H fun x H1=>∃a,x= .ref a/\IsD H1 a/\ty σ H1 fun y H2=>tx σ H2 fun z H3=>∃o,DGet H3 a y o/\Q (o.getD z) H3
section
variable {X:Cx}{o e f:Expr}{apos cpos:Pos}{td ty tx:TE}
theorem pe_dget2 (hu:X.A.units+1<cLine)(ho:PE X o td)(he:PE X e ty)(hf:PE X f tx)(m:M2 X o "get" apos e f cpos):PE X (.Call (.Attribute o "get" apos) [e,f] [] cpos) (tDGet2 td ty tx):=by
  intro pins s σ H Q I h
  refine wpAny_Call_method m.base m.few m.line PySem.F.plainAttrs_dict PySem.F.slot_dict_get PySem.F.type_dict_get (thn (ho pins s σ H _ I h) fun u s1 hz9=>?_)
  obtain⟨x,H1,I1,rx,a,ex,d,q1⟩:=hz9
  subst ex
  obtain rfl:u=Value.ref a:=rx
  obtain⟨t1,t2,_⟩:=isD_at I1 d
  refine⟨t1,t2,?_⟩
  rw[m.trees]
  refine Calls.callWith_builtin rfl (XO (Xn (thn (he pins s1 σ H1 _ I1 q1) fun iv s2 ⟨y,H2,I2,ry,q2⟩=>
    Xn (thn (hf pins s2 σ H2 _ I2 q2) fun fv s3 ⟨z,H3,I3,rz,ov,g,q3⟩=>Calls.spliced_nil ?_))))
  exact d_get2 hu I3 g ry rz fun w' s4 I4 rw'=>⟨_,H3,I4,rw',q3⟩
end

/-! ### dict(d):a copy -/
section
variable {X:Cx}{pins:List (Addr×Obj)}{σ:St}{H:Hp}{s:Shared}{a:Addr}{kvs:List (Key×V)}{A:Around}{E:Value->Shared->Prop}
end


section
variable {X:Cx}{pins:List (Addr×Obj)}{σ:St}{H:Hp}{s:Shared}{a:Addr}{y:V}{u:Value}{A:Around}{E:Value->Shared->Prop}
end
end L2
namespace L2
open PySem PySem.Spec PyProof.Rows
/-! ### a dict's pairs:keys that differ -/
section
variable {κ:Type}[DecidableEq κ]
end
end L2

/-! a dict that the module holds for good:its keys whole numbers or texts -/
namespace L2
open PySem PySem.Spec PyProof.Rows
inductive Ents (w:World):List DictEntry->List (Key×V)->Prop
  |nil:Ents w [] []
  |cons {x:Str} {t:Tok} {v:V} {u:Value} {es:List DictEntry} {kvs:List (Key×V)}:RelV v u->Ents w es kvs->Ents w (⟨hashStr w x,.str x t,u⟩::es) ((.inr x,v)::kvs)
def CDict (K:W.Frag)(w:World)(a:Addr)(kvs:List (Key×V)):Prop:=(a == sysModules)=false/\(kvs.map (·.1)).Nodup/\∃es n,K.lookup a=some ⟨.type "dict",none,.dict es.toArray n, #[]⟩/\Ents w es kvs
theorem Ents.ex {P:Program}{w:World}:∀{es:List DictEntry}{kvs:List (Key×V)},Ents w es kvs->∃vs:List (Key×Value),KV kvs vs/\Pairs (mixKind P w) es vs/\(∀e∈es,∃k,(mixKind P w).is k e.key=true/\e.hash=(mixKind P w).hash k)/\vs.map (·.1)=kvs.map (·.1)
  |_,_,.nil=>⟨[],.nil,.nil,fun e he=>(by cases he),rfl⟩
  | _,_,.cons (x:=x) (t:=t) (u:=u) r h=>by
    obtain⟨vs,a,b,c,d⟩:=h.ex (P:=P)
    refine⟨(.inr x,u)::vs,.cons ⟨rfl,r⟩ a,.cons (keyIs_str x t) rfl b,fun e he=>?_,by rw[Yy,Yy,d]⟩
    rcases Yr.mp he with rfl | he
    · exact⟨.inr x,keyIs_str x t,rfl⟩
    · exact c e he
section
variable {X:Cx}{pins:List (Addr×Obj)}{σ:St}{H:Hp}{s:Shared}{a:Addr}{kvs:List (Key×V)}
theorem CDict.at (I:Inv X pins σ H s)(h:CDict X.K X.w a kvs):∃vs,KV kvs vs/\s.heap.DictOf (mixKind X.prog X.w) a vs:=by
  obtain⟨_,nd,es,n,e,en⟩:=h
  obtain⟨vs,a1,a2,a3,a4⟩:=en.ex (P:=X.prog)
  exact⟨vs,a1,_,es.toArray,n,I.kIn _ _ e,⟨rfl,rfl,rfl⟩,rfl,fun x hx=>a3 x (by simpa using hx),by simpa using a2,by rw[a4];exact nd⟩
variable {o i:Expr}{pos:Pos}{td ty:TE}
def tCGet (a:Addr)(kvs:List (Key×V))(td ty:TE):TE:=fun σ H Q=>td σ H fun x H1=>ty σ H1 fun y H2=>∃k v,x= .ref a/\y=kV k/\valV kvs k=some v/\Q v H2
def tCIn (f:Bool->Bool)(a:Addr)(kvs:List (Key×V))(ty td:TE):TE:=fun σ H Q=>ty σ H fun y H1=>td σ H1 fun x H2=>∃k,x= .ref a/\y=kV k/\Q (.bl (f (valV kvs k).isSome)) H2
theorem pe_cget (hD:CDict X.K X.w a kvs)(ho:PE X o td)(hi:PE X i ty)(hs:NoSl i):PE X (.Subscript o i pos) (tCGet a kvs td ty):=by
  intro pins s σ H Q I h
  refine subD_of PySem.F.slot_dict_getitem.lookup hs (thn (ho pins s σ H _ I h) fun u s1 ⟨x,H1,I1,rx,q1⟩=>thn (hi pins s1 σ H1 _ I1 q1) fun iv s2 ⟨y,H2,I2,ry,k,v,ex,ey,g,q2⟩=>?_)
  subst ex
  subst ey
  obtain rfl:u=Value.ref a:=rx
  obtain⟨vs,rel,dd⟩:=hD.at I2
  obtain⟨w',hw,rw'⟩:=RelO.some_of (v:=v) (o:=valueAt vs k) (by rw[<-g];exact rel.val k)
  exact⟨dd.typeIs,wpAny_getItem_of (kV_is ry) dd.mapOf hw ⟨v,H2,I2.tok _,rw',q2⟩⟩
theorem pc_cnotin (hD:CDict X.K X.w a kvs)(hi:PE X i ty)(ho:PE X o td):PC X .NotIn i o (tCIn not a kvs ty td):=by
  intro pins s σ H Q I h
  refine thn (hi pins s σ H _ I h) fun iv s1 ⟨y,H1,I1,ry,q1⟩=>thn (ho pins s1 σ H1 _ I1 q1) fun u s2 ⟨x,H2,I2,rx,k,ex,ey,q2⟩=>?_
  subst ex
  subst ey
  obtain rfl:u=Value.ref a:=rx
  obtain⟨vs,rel,dd⟩:=hD.at I2
  refine wpAny_notIn_of (kV_is ry) hD.1 dd.mapOf ?_
  rw[<-(rel.val k).isSome_eq]
  exact⟨.bl _,H2,I2.tok _,rfl,q2⟩
end
end L2

/-! functions made in a body:how they stand in the heap,how they are called -/
namespace L2
open PySem PySem.Spec PyProof.Rows
end L2

/-! a def within a def:the function is made -/
namespace L2
open PySem PySem.Spec PyProof.Rows
section
variable {X:Cx}{pins:List (Addr×Obj)}{σ:St}{H:Hp}{s:Shared}{A:Around}{E:Value->Shared->Prop}{c0 P bm:Addr}{nm qual:Str}{params:Arguments}{body:List Stmt}{scope:Scope}{pos:Pos}{cl:List (Str×Addr)}{Q:Value->Shared->Prop}
end
end L2

/-! a def that makes a function over a cell of its own and hands it back -/
namespace L2
open PySem PySem.Spec PyProof.Rows
section
variable {X:Cx}{st:Stmt}{rest:List Stmt}{t:TS}{u:St->Hp->Prop}{Φ:Flow->Shared->Prop}
end
end L2

/-! f(..),f a name that holds a function;the law where tables of code are tracked -/
namespace L2
open PySem PySem.Spec PyProof.Rows
section
variable {X:Cx}{k i:Nat}{x:Str}{p pos:Pos}{e:Expr}{es:List Expr}{t:TA}{spc:Addr->List V->Hp->VK->Prop}{K:W.Frag}
end
end L2

/-! a lambda over a cell:how it is made,how it is called -/
namespace L2
open PySem PySem.Spec PyProof.Rows
section
variable {X:Cx}{pins:List (Addr×Obj)}{σ:St}{H:Hp}{s:Shared}{A:Around}{E:Value->Shared->Prop}{c0 P bm:Addr}{qual:Str}{params:Arguments}{body:Expr}{scope:Scope}{pos:Pos}{cl:List (Str×Addr)}{Q:Value->Shared->Prop}
end
section
variable {X:Cx}{k i:Nat}{x:Str}{p pos:Pos}{e:Expr}{es:List Expr}{t:TA}{spc:Addr->List V->Hp->VK->Prop}{K:W.Frag}
end
section
variable {X:Cx}
end
end L2

/-! f(..),f a name that holds one of some functions,any of which may raise -/
namespace L2
open PySem PySem.Spec PyProof.Rows
/-- a place that is never reached -/
theorem pe_dead {X:Cx}{e:Expr}:PE X e (fun _ _ _=>False):=fun _ _ _ _ _ _ h=>h.elim
def RunsG (P:Program)(w:World)(K:W.Frag)(mg:Str->Option Value)(base:Heap)(k:Nat)(spc:Addr->Sp):Prop:=
  ∀(f:Addr)(A:Around)(outer:List Env)(s:Shared)(H:Hp)(us:List Value)(vs:List V)(Q:VK)(E:XK),Room k A->Env0 P w K mg base A outer s H->Vals vs us->spc f vs H Q E->codeAny (model P w) A (.call (.ref f) ⟨us, []⟩) (CR (CXR P w) outer P w H s Q E) s
def tCallG (K:W.Frag)(spc:Addr->Sp)(E:XK)(i:Nat)(t:TA):TE:=fun σ H Q=>∃f,σ[i]? =some (some (.ref f))/\W.keepIn K (.ref f)=true/\t σ H fun vs H1=>spc f vs H1 Q E
section
variable {X:Cx}{k i:Nat}{x:Str}{p pos:Pos}{e:Expr}{es:List Expr}{t:TA}{spc:Addr->Sp}{K:W.Frag}{E:XK}
theorem pe_callG (F:RunsG X.prog X.w X.K X.mg X.base k spc)(hr:Room k X.A)(hx:Passes (CXR X.prog X.w) X E)(hv:PE X (.Name x p) (tVar i))(ha:PA X (e::es) t)(hK:X.K=K:=by rfl)(he:starEach (e::es) X.env=(false,eval e X.env)::starEach es X.env:=by rfl)(hpl:(backTo pos (starEach es X.env)).any (·.1)=false:=by rfl) :
    PE X (.Call (.Name x p) (e::es) [] pos) (tCallG K spc E i t):=by
  subst hK
  intro pins s σ H Q I ⟨f,h1,h2,h3⟩
  refine Xd (thn (hv pins s σ H (fun v H'=>v= .ref f/\H'=H) I ⟨_,h1,rfl,rfl⟩) fun u s1 hz9=>?_)
  obtain⟨v,H1,I1,rv,e1,e2⟩:=hz9
  subst e1 e2
  obtain rfl:u=Value.ref f:=rv
  refine W.callWith_K (h₀:=X.base) I.ok.mod.kin h2 (thn (ha pos pins s1 σ H1 _ I1 h3) fun us s2 ⟨vs,H2,I2,r,h5⟩=>⟨I2.kIn,?_⟩) he hpl
  refine wpAny_call (XR (F f X.A X.stack s2 H2 us vs Q E hr I2.env0 r h5) fun r s' hq=>?_)
  cases r with
  |error e=>exact hx pins σ H2 s2 e s' I2 hq
  | ok fl=>
    cases fl with
    |ret u=>exact I2.after hq
    |next=>exact False.elim hq
    |brk=>exact False.elim hq
    |cont=>exact False.elim hq
end
section
variable {P:Program}{w:World}{K:W.Frag}{mg:Str->Option Value}{base:Heap}{k n:Nat}{a:Addr}{d:FuncData}{ps:List Str}{sp:Sp}{spc spd:Addr->Sp}
theorem RunsG.one (G:FnOk P w K mg base (CXR P w) k a d ps sp)(B:Binds K d ps [])(hk:k<=n):RunsG P w K mg base n fun f vs H Q E=>f=a/\sp vs H Q E:=by
  rintro f A outer s H us vs Q E hr e0 r ⟨rfl,h⟩
  have hl:us.length=ps.length:=by rw[<-r.length];exact G.len _ _ _ _ h
  have KX:K.In s.heap:=e0.mod.kin.keeps fun b o e=>(e0.bs b o e).1
  have hb:=B s us KX (by rw[YZ];exact hl)
  rw[YZ]at hb
  exact G.run A outer s H ⟨us, []⟩ us vs Q E (hr.mono hk) e0 hb r h
theorem RunsG.or (F:RunsG P w K mg base n spc)(G:RunsG P w K mg base n spd):RunsG P w K mg base n fun f vs H Q E=>spc f vs H Q E\/spd f vs H Q E:=fun f A outer s H us vs Q E hr e0 r h=>
  h.elim (F f A outer s H us vs Q E hr e0 r) (G f A outer s H us vs Q E hr e0 r)
end
end L2

/-! BITS AND NUMBERS,plain -/
namespace Bm
def bitI (n j:Nat):Int:=if n.testBit j then 1 else 0
def bitsI (n m:Nat):List Int:=(List.range m).map fun i=>bitI n (m-1-i)
def numI (bs:List Int):Int:=bs.foldl (fun x b=>x*2+b) 0
def Bits (bs:List Int):Prop:=∀b∈bs,b=0\/b=1
end Bm

/-! RUNS AND CHANGES,plain -/
namespace Rn
open Bm
end Rn

namespace Cl
/-- the sum without carries of f 0 .. f (n-1) -/
def xs:Nat->(Nat->Nat)->Nat
  |0,_=>0
  |n+1,f=>xs n f ^^^ f n
end Cl

/-! RESTS by the check's key,plain:R is the sum of the rests of a number's powers -/
namespace Rm
open Bm
def nx (r:Nat):Nat:=if 32768<=2*r then (2*r) ^^^ 64647 else 2*r
def rr:Nat->Nat
  |0=>1
  |k+1=>nx (rr k)
/-- a power's rest where n has it -/
def tm (n k:Nat):Nat:=if n.testBit k then rr k else 0
def R (n:Nat):Nat:=Cl.xs 600 (tm n)
/-! ### of lists of bits -/
/-- the number that bits write -/
def nm (bs:List Int):Nat:=(numI bs).toNat
/-- the rest of bits -/
def rst (bs:List Int):Nat:=R (nm bs)
end Rm

/-! FEW PLACES:no row of one to five unlike places below 127 has the sum 0;bursts -/
namespace Rm
open Bm
/-! ### changed bits -/
end Rm

/-! WIRES,plain:runs at the end,bits put in and left out -/
namespace Wm
open Bm Rn
abbrev S:=Option Int×Nat
def skp (s:S)(b:Int):S:=(some b,if s.1=some b then s.2+1 else 1)
def sk (w:List Int):S:=w.foldl skp (none,0)
def run (w:List Int):Nat:=(sk w).2
/-! ### put in -/
def pst (w:List Int)(b:Int):List Int:=if run (w++[b])=5 then w++[b]++[1-b] else w++[b]
def put (l:List Int):List Int:=l.foldl pst []
/-! ### left out -/
def kst (s:S×List Int)(b:Int):S×List Int:=(skp s.1 b,if s.1.2=5 then s.2 else s.2++[b])
def kp (w:List Int):List Int:=(w.foldl kst ((none,0), [])).2
/-- never six alike ones -/
def Good (w:List Int):Prop:=∀k,k<=w.length->run (w.take k)<=5
end Wm

/-! THE CHECK,plain -/
namespace Rm
open Bm
def zs (n:Nat):List Int:=List.replicate n 0
/-- what noughts in the check's place leave -/
def ckn (bs:List Int):Nat:=rst (bs++zs 15)
def ck (bs:List Int):List Int:=bitsI (ckn bs) 15
end Rm

/-! alike ones as the laws ask them;heads -/
namespace Wm
open L2 Bm Rn
end Wm

-- names:F_Count_init F_Count_is_off F_Count_number F_Desk_init F_Desk_put_up F_Desk_say F_Free_init F_Free_shown F_Joiner_end F_Joiner_init F_Post_faults F_Post_got F_Post_hand F_Post_init F_Post_is_off F_Post_stance F_Post_waits F_Rail_faults F_Rail_got F_Rail_hand F_Rail_heard F_Rail_init F_Rail_is_off F_Rail_post_at F_Rail_stance F_Rail_waits F__law_asked F__law_byte F__law_data F__law_hand_step F__law_handed F__law_is_good F__law_mix F__law_name F__law_pieces F__law_rail F__law_rail_step F__law_step F_are_bytes F_check_choice F_check_frame F_check_thing F_check_votes F_choice_of F_copies F_cut F_dotted F_frames_text F_is_name F_law F_number_in F_part_of F_piece_of F_read_row F_say_draw F_say_faults F_say_got F_say_hand F_say_stance F_say_thing F_say_things F_say_waits F_say_wrong F_strip_of F_strips F_things_of F_value_of G_Count_init G_Count_is_off G_Count_number G_Desk_init G_Desk_put_up G_Desk_say G_Free_init G_Free_shown G_Joiner_end G_Joiner_init G_Post_faults G_Post_got G_Post_hand G_Post_init G_Post_is_off G_Post_stance G_Post_waits G_Rail_faults G_Rail_got G_Rail_hand G_Rail_heard G_Rail_init G_Rail_is_off G_Rail_post_at G_Rail_stance G_Rail_waits G__law_asked G__law_byte G__law_data G__law_hand_step G__law_handed G__law_is_good G__law_mix G__law_name G__law_pieces G__law_rail G__law_rail_step G__law_step G_are_bytes G_check_choice G_check_frame G_check_thing G_check_votes G_choice_of G_copies G_cut G_dotted G_frames_text G_is_name G_law G_number_in G_part_of G_piece_of G_read_row G_say_draw G_say_faults G_say_got G_say_hand G_say_stance G_say_thing G_say_things G_say_waits G_say_wrong G_strip_of G_strips G_things_of G_value_of a_ANSWERS a_Count a_Count_init a_Count_is_off a_Count_number a_Desk a_Desk_init a_Desk_put_up a_Desk_say a_FORMS a_Flagging a_Free a_Free_init a_Free_shown a_InTail a_Joiner a_Joiner_end a_Joiner_init a_NoBits a_NoFrame a_NoKey a_NoName a_NoPost a_NoRail a_NoRow a_NoThing a_Off a_Post a_Post_faults a_Post_got a_Post_hand a_Post_init a_Post_is_off a_Post_stance a_Post_waits a_Rail a_RailError a_Rail_faults a_Rail_got a_Rail_hand a_Rail_heard a_Rail_init a_Rail_is_off a_Rail_post_at a_Rail_stance a_Rail_waits a_ReadTail a_Reader a_Reads a_Rests a_Settles a_SpeakTail a_Speaks a_Streak a_Tail a_VOTES a__law_asked a__law_byte a__law_data a__law_hand_step a__law_handed a__law_is_good a__law_mix a__law_name a__law_pieces a__law_rail a__law_rail_step a__law_step a_are_bytes a_check_choice a_check_frame a_check_thing a_check_votes a_choice_of a_copies a_cut a_dotted a_frames_text a_is_name a_law a_number_in a_part_of a_piece_of a_read_row a_say_draw a_say_faults a_say_got a_say_hand a_say_stance a_say_thing a_say_things a_say_waits a_say_wrong a_strip_of a_strips a_things_of a_value_of d_Count_init d_Count_is_off d_Count_number d_Desk_init d_Desk_put_up d_Desk_say d_Free_init d_Free_shown d_Joiner_end d_Joiner_init d_Post_faults d_Post_got d_Post_hand d_Post_init d_Post_is_off d_Post_stance d_Post_waits d_Rail_faults d_Rail_got d_Rail_hand d_Rail_heard d_Rail_init d_Rail_is_off d_Rail_post_at d_Rail_stance d_Rail_waits d__law_asked d__law_byte d__law_data d__law_hand_step d__law_handed d__law_is_good d__law_mix d__law_name d__law_pieces d__law_rail d__law_rail_step d__law_step d_are_bytes d_check_choice d_check_frame d_check_thing d_check_votes d_choice_of d_copies d_cut d_dotted d_frames_text d_is_name d_law d_number_in d_part_of d_piece_of d_read_row d_say_draw d_say_faults d_say_got d_say_hand d_say_stance d_say_thing d_say_things d_say_waits d_say_wrong d_strip_of d_strips d_things_of d_value_of fact_answers fact_cls_Count fact_cls_Desk fact_cls_Free fact_cls_Joiner fact_cls_Post fact_cls_Rail fact_e_NoFrame fact_e_NoName fact_e_NoPost fact_e_NoRail fact_e_NoThing fact_exc_NoFrame fact_exc_NoName fact_exc_NoPost fact_exc_NoRail fact_exc_NoThing fact_forms fact_m_NoFrame fact_m_NoName fact_m_NoPost fact_m_NoRail fact_m_NoThing fact_meth_Count_is_off fact_meth_Count_number fact_meth_Desk_put_up fact_meth_Desk_say fact_meth_Free_shown fact_meth_Joiner_end fact_meth_Post_faults fact_meth_Post_got fact_meth_Post_hand fact_meth_Post_is_off fact_meth_Post_stance fact_meth_Post_waits fact_meth_Rail_faults fact_meth_Rail_got fact_meth_Rail_hand fact_meth_Rail_heard fact_meth_Rail_is_off fact_meth_Rail_post_at fact_meth_Rail_stance fact_meth_Rail_waits fact_mk_Count fact_mk_Desk fact_mk_Free fact_mk_Joiner fact_mk_Post fact_mk_Rail fact_n_NoFrame_NoName fact_n_NoFrame_NoPost fact_n_NoFrame_NoRail fact_n_NoFrame_NoThing fact_n_NoName_NoFrame fact_n_NoName_NoPost fact_n_NoName_NoRail fact_n_NoName_NoThing fact_n_NoPost_NoFrame fact_n_NoPost_NoName fact_n_NoPost_NoRail fact_n_NoPost_NoThing fact_n_NoRail_NoFrame fact_n_NoRail_NoName fact_n_NoRail_NoPost fact_n_NoRail_NoThing fact_n_NoThing_NoFrame fact_n_NoThing_NoName fact_n_NoThing_NoPost fact_n_NoThing_NoRail fact_na_Count_total fact_na_Desk_rail fact_na_Desk_wrong fact_na_Free_since fact_na_Joiner_broken_tag fact_na_Joiner_had fact_na_Joiner_joined fact_na_Joiner_many fact_na_Joiner_opened fact_na_Joiner_tag fact_na_Post_choice fact_na_Post_handed_up fact_na_Post_now fact_na_Post_tally fact_na_Post_votes fact_na_Post_waiting fact_na_Rail_borne fact_na_Rail_happened fact_na_Rail_hearings fact_na_Rail_owners fact_na_Rail_posts fact_na_Rail_sayings fact_tup_VOTES m_ANSWERS m_Count m_Desk m_FIGURES m_FORMS m_Flagging m_Free m_HIGHEST_BYTE m_HIGHEST_NAME m_InTail m_Joiner m_MOST_BITS m_MOST_BYTES_frames m_MOST_BYTES_things m_MOST_FIGURES m_MOST_POSTS m_MOST_TURNS m_NoFrame m_NoName m_NoPost m_NoRail m_NoThing m_OFF_FROM m_Off m_PIECE_BYTES m_Post m_Rail m_RailError m_ReadTail m_Reader m_Reads m_Rests m_SIGNS m_STRIP_BITS m_Settles m_SpeakTail m_Speaks m_Streak m_VOTES m_all m_int m_isinstance m_len m_list m_max m_range m_str ok_Count_init ok_Count_is_off ok_Count_number ok_Desk_init ok_Desk_put_up ok_Desk_say ok_Free_init ok_Free_shown ok_Joiner_end ok_Joiner_init ok_Post_faults ok_Post_got ok_Post_hand ok_Post_init ok_Post_is_off ok_Post_stance ok_Post_waits ok_Rail_faults ok_Rail_got ok_Rail_hand ok_Rail_heard ok_Rail_init ok_Rail_is_off ok_Rail_post_at ok_Rail_stance ok_Rail_waits ok__law_asked ok__law_byte ok__law_data ok__law_hand_step ok__law_handed ok__law_is_good ok__law_mix ok__law_name ok__law_pieces ok__law_rail ok__law_rail_step ok__law_step ok_are_bytes ok_check_choice ok_check_frame ok_check_thing ok_check_votes ok_choice_of ok_copies ok_cut ok_dotted ok_frames_text ok_is_name ok_law ok_number_in ok_part_of ok_piece_of ok_read_row ok_say_draw ok_say_faults ok_say_got ok_say_hand ok_say_stance ok_say_thing ok_say_things ok_say_waits ok_say_wrong ok_strip_of ok_strips ok_things_of ok_value_of s_Count_init s_Count_is_off s_Count_number s_Desk_init s_Desk_put_up s_Desk_say s_Free_init s_Free_shown s_Joiner_end s_Joiner_init s_Post_faults s_Post_got s_Post_hand s_Post_init s_Post_is_off s_Post_stance s_Post_waits s_Rail_faults s_Rail_got s_Rail_hand s_Rail_heard s_Rail_init s_Rail_is_off s_Rail_post_at s_Rail_stance s_Rail_waits s__law_asked s__law_byte s__law_data s__law_hand_step s__law_handed s__law_is_good s__law_mix s__law_name s__law_pieces s__law_rail s__law_rail_step s__law_step s_are_bytes s_check_choice s_check_frame s_check_thing s_check_votes s_choice_of s_copies s_cut s_dotted s_frames_text s_is_name s_law s_number_in s_part_of s_piece_of s_read_row s_say_draw s_say_faults s_say_got s_say_hand s_say_stance s_say_thing s_say_things s_say_waits s_say_wrong s_strip_of s_strips s_things_of s_value_of t_ANSWER_AT t_BYTE_BITS t_CHECK_BITS t_DATA_AT t_DUEL_BITS t_FIGURES t_FLAG_BITS t_GREAT_FAULT t_HIGHEST_BYTE t_HIGHEST_NAME t_KEY t_MOST_ALIKE t_MOST_BITS t_MOST_BYTES_frames t_MOST_BYTES_things t_MOST_FIGURES t_MOST_POSTS t_MOST_TURNS t_NAME_BITS t_OFF_FROM t_PIECE_BYTES t_QUIET_FROM t_QUIET_TURNS t_REST_TURNS t_SIGNS t_SIZE_AT t_SIZE_BITS t_SMALL_FAULT t_STRIP_BITS t_VOTES_AT
namespace My
open PySem L2
def top (i:Nat):Stmt:=PySem.Challenge.pw_bitrail_k83_a_desk_refuses.main.body.getD i (.Pass ⟨0,0,0,0⟩)
def clsBody (s:Stmt):List Stmt:=match s with | .ClassDef _ _ _ b _ _ _ _ _ _ _=>b | _=>[]
abbrev s_are_bytes:Stmt:=top 16
abbrev s_is_name:Stmt:=top 39
abbrev s_check_frame:Stmt:=top 51
abbrev s_Count_init:Stmt:=(clsBody (top 62)).getD 0 (.Pass ⟨0,0,0,0⟩)
abbrev s_Count_is_off:Stmt:=(clsBody (top 62)).getD 7 (.Pass ⟨0,0,0,0⟩)
abbrev s_Count_number:Stmt:=(clsBody (top 62)).getD 5 (.Pass ⟨0,0,0,0⟩)
abbrev s_Free_init:Stmt:=(clsBody (top 81)).getD 0 (.Pass ⟨0,0,0,0⟩)
abbrev s_Free_shown:Stmt:=(clsBody (top 81)).getD 1 (.Pass ⟨0,0,0,0⟩)
abbrev s_Post_is_off:Stmt:=(clsBody (top 94)).getD 9 (.Pass ⟨0,0,0,0⟩)
abbrev s_Post_faults:Stmt:=(clsBody (top 94)).getD 7 (.Pass ⟨0,0,0,0⟩)
abbrev s_Post_hand:Stmt:=(clsBody (top 94)).getD 1 (.Pass ⟨0,0,0,0⟩)
abbrev s_copies:Stmt:=top 93
abbrev s_Post_waits:Stmt:=(clsBody (top 94)).getD 5 (.Pass ⟨0,0,0,0⟩)
abbrev s_Post_got:Stmt:=(clsBody (top 94)).getD 6 (.Pass ⟨0,0,0,0⟩)
abbrev s_check_votes:Stmt:=top 91
abbrev s_check_choice:Stmt:=top 92
abbrev s_Post_init:Stmt:=(clsBody (top 94)).getD 0 (.Pass ⟨0,0,0,0⟩)
abbrev s_Post_stance:Stmt:=(clsBody (top 94)).getD 4 (.Pass ⟨0,0,0,0⟩)
abbrev s_Rail_init:Stmt:=(clsBody (top 97)).getD 0 (.Pass ⟨0,0,0,0⟩)
abbrev s_Rail_post_at:Stmt:=(clsBody (top 97)).getD 5 (.Pass ⟨0,0,0,0⟩)
abbrev s_Rail_hand:Stmt:=(clsBody (top 97)).getD 1 (.Pass ⟨0,0,0,0⟩)
abbrev s_Rail_stance:Stmt:=(clsBody (top 97)).getD 11 (.Pass ⟨0,0,0,0⟩)
abbrev s_Rail_waits:Stmt:=(clsBody (top 97)).getD 12 (.Pass ⟨0,0,0,0⟩)
abbrev s_Rail_got:Stmt:=(clsBody (top 97)).getD 13 (.Pass ⟨0,0,0,0⟩)
abbrev s_Rail_faults:Stmt:=(clsBody (top 97)).getD 14 (.Pass ⟨0,0,0,0⟩)
abbrev s_Rail_is_off:Stmt:=(clsBody (top 97)).getD 16 (.Pass ⟨0,0,0,0⟩)
abbrev s_Rail_heard:Stmt:=(clsBody (top 97)).getD 9 (.Pass ⟨0,0,0,0⟩)
abbrev s_piece_of:Stmt:=top 24
abbrev s_check_thing:Stmt:=top 23
abbrev s_cut:Stmt:=top 22
abbrev s_number_in:Stmt:=top 112
abbrev s_choice_of:Stmt:=top 113
abbrev s_value_of:Stmt:=top 111
abbrev s_strip_of:Stmt:=top 104
abbrev s_strips:Stmt:=top 103
abbrev s_read_row:Stmt:=top 110
abbrev s_dotted:Stmt:=top 114
abbrev s_frames_text:Stmt:=top 115
abbrev s_part_of:Stmt:=top 119
abbrev s_Joiner_init:Stmt:=(clsBody (top 28)).getD 0 (.Pass ⟨0,0,0,0⟩)
abbrev s_Joiner_end:Stmt:=(clsBody (top 28)).getD 6 (.Pass ⟨0,0,0,0⟩)
abbrev s_things_of:Stmt:=top 118
abbrev s_say_hand:Stmt:=top 120
abbrev s_say_got:Stmt:=top 126
abbrev s_say_waits:Stmt:=top 127
abbrev s_say_faults:Stmt:=top 130
abbrev s_say_stance:Stmt:=top 129
abbrev s_say_wrong:Stmt:=top 122
abbrev s_say_things:Stmt:=top 128
abbrev s_say_draw:Stmt:=top 125
abbrev s_say_thing:Stmt:=top 121
abbrev s_Desk_init:Stmt:=(clsBody (top 132)).getD 0 (.Pass ⟨0,0,0,0⟩)
abbrev s_Desk_put_up:Stmt:=(clsBody (top 132)).getD 2 (.Pass ⟨0,0,0,0⟩)
abbrev s_Desk_say:Stmt:=(clsBody (top 132)).getD 1 (.Pass ⟨0,0,0,0⟩)
abbrev s__law_mix:Stmt:=top 134
abbrev s__law_byte:Stmt:=top 135
abbrev s__law_rail:Stmt:=top 136
abbrev s__law_name:Stmt:=top 137
abbrev s__law_data:Stmt:=top 138
abbrev s__law_is_good:Stmt:=top 139
abbrev s__law_pieces:Stmt:=top 140
abbrev s__law_asked:Stmt:=top 142
abbrev s__law_handed:Stmt:=top 141
abbrev s__law_hand_step:Stmt:=top 144
abbrev s__law_rail_step:Stmt:=top 143
abbrev s__law_step:Stmt:=top 145
abbrev s_law:Stmt:=top 146

theorem same_new {H:Hp}{p:Addr}(h:H p=none)(o:HO):Same H (upd H p o):=fun b u q=>by rw[upd_ne (ne_of_none q h)];exact q
theorem nS {H H':Hp}{a:Addr}{v:HO}(h:H a=none)(e:upd H a v=H'):Same H H':=e▸same_new h v
theorem nE {H H':Hp}{a:Addr}{v:HO}(e:upd H a v=H'):H' a=some v:=e▸upd_same
theorem small {n:Nat}(h:n<=1000):n<=sizeLine:=Xz (small1000 h)
theorem small_lit {n:Nat}(h:decide (n<=1000)=true):n<=sizeLine:=small (Y3 h)
theorem kit_self {K:W.Frag}{t:Value}:W.kitOne K t t=some true:=by
  unfold W.kitOne
  rw[if_pos (beq_self_eq_true t)]
theorem small1 {n:Nat}(h:n<=1000):n<sizeLine:=small1000 h
theorem _root_.L2.Same.put {H H':Hp}{p:Addr}{o:HO}(g:Same H H')(h:H p=none):Same H (upd H' p o):=fun b u q=>by rw[upd_ne (ne_of_none q h)];exact g b u q
theorem _root_.L2.Same.none {H H':Hp}{x:Addr}(g:Same H H')(h:H' x=none):H x=none:=by
  cases e:H x with
  |none=>rfl
  |some o=>rw[g x o e]at h;cases h
theorem same_made {H:Hp}{C x dx:Addr}{fs:List (Str×V)}(hx:H x=none)(hd:H dx=none):Same H (upd (upd (upd H dx (.own x)) x (.ins C dx [])) x (.ins C dx fs)):=fun b u q=>by
  rw[upd_ne (ne_of_none q hx),upd_ne (ne_of_none q hx),upd_ne (ne_of_none q hd)];exact q
theorem iteTd {c A B:Prop}[Decidable c](hc:c)(h:A):if decide c=true then A else B:=by rw[Yw hc];exact iteT h
theorem iteFd {c A B:Prop}[Decidable c](hc:¬ c)(h:B):if decide c=true then A else B:=by rw[Ys hc];exact iteF h
open Bm Rm
theorem get_int {bs:List Int}{i:Nat}{x:V}(hx:(bs.map V.int)[i]? =some x):∃h:i<bs.length,x= .int bs[i]:=by
  have hi:i<bs.length:=by
    have:=(Yb.mp hx).1
    rwa [Ya]at this
  refine⟨hi,?_⟩
  rw[Yk,Yd hi]at hx
  exact(YF hx).symm
def szB (bs:List Int):Nat:=nm ((bs.drop 9).take 3)
def nmB (bs:List Int):Nat:=nm ((bs.drop 1).take 8)
def dtB (bs:List Int)(k:Nat):Int:=((nm ((bs.drop (12+8*k)).take 8):Nat):Int)
def daB (bs:List Int):List Int:=(List.range (szB bs)).map (dtB bs)
def CmpB (bs:List Int):Prop:=12<=bs.length/\bs.length=27+8*szB bs
open Bm Rn Wm
def lastV:Option Int->V
  |none=> .non
  |some b=> .int b
abbrev skF (s:S):List (Str×V):=[("last",lastV s.1),("alike",.int ((s.2:Nat):Int))]
def SkAt (C:Addr)(H:Hp)(a:Addr)(s:S):Prop:=∃dx,H a=some (.ins C dx (skF s))
theorem SkAt.same {C:Addr}{H H':Hp}{a:Addr}{n:S}(h:SkAt C H a n)(g:Same H H'):SkAt C H' a n:=by
  obtain⟨dx,e⟩:=h
  exact⟨dx,g _ _ e⟩
instance decCmp (bs:List Int):Decidable (CmpB bs):=by unfold CmpB;infer_instance
def ans (w:List Int):Str:=if 5<run w then "six" else if run w=5\/¬ CmpB (kp w) then "more" else if rst (kp w)=0 then "whole" else "bad"
abbrev rdF (st ks:Addr)(t:Str):List (Str×V):=[("streak",.ref st),("kept",.ref ks),("answer",.str t)]
structure RdAt (C CK:Addr)(H:Hp)(r st ks:Addr)(w:List Int)(t:Str):Prop where
  rd:∃dx,H r=some (.ins C dx (rdF st ks t))
  sk:SkAt CK H st (sk w)
  kp:H ks=some (.lst ((kp w).map V.int))
theorem RdAt.same {C CK:Addr}{H H':Hp}{r st ks:Addr}{w:List Int}{t:Str}(h:RdAt C CK H r st ks w t)(g:Same H H'):RdAt C CK H' r st ks w t:=⟨let ⟨dx,e⟩:=h.rd;⟨dx,g _ _ e⟩,h.sk.same g,g _ _ h.kp⟩
def byt (n:Int):Bool:=decide (0<=n) && decide (n<=255)
theorem byt_iff {n:Int}:byt n=true↔0<=n/\n<=255:=by unfold byt;simp
theorem byt_nat {n:Int}(h:byt n=true):∃m:Nat,n=m/\m<256:=by
  obtain⟨h0,h1⟩:=byt_iff.mp h
  exact⟨n.toNat,by omega,by omega⟩
def spByt:Sp:=fun vs H Q _=>∃n,vs= [.int n]/\Q (.bl (byt n)) H
def spBytes (K:W.Frag):Sp:=fun vs H Q _=>∃(a:Addr)(ns:List Int),vs= [.ref a]/\SqA K H a (ns.map V.int)/\ns.length<=500/\∀H',Same H H'->Q (.bl (ns.all byt)) H'
def FrOk (n:Int)(ds:List Int):Prop:=byt n=true/\ds.length<=7/\ds.all byt=true
def spChkF (K:W.Frag)(C:Addr):Sp:=fun vs H Q E=>∃(n:Int)(a:Addr)(ds:List Int),vs= [.int n,.ref a]/\SqL K H a (ds.map V.int)/\ds.length<=500/\(FrOk n ds->∀H',Same H H'->Q .non H')/\(¬ FrOk n ds->∀H',Same H H'->E (.ref C) none H')
/-- the bits of a frame ahead of the check -/
def b8 (d:Int):List Int:=bitsI d.toNat 8
def hdD (n:Int)(k:Nat)(ds:List Int):List Int:=[0]++b8 n++bitsI k 3++(ds.map b8).flatten
def hd (n:Int)(ds:List Int):List Int:=hdD n ds.length ds
def fb (n:Int)(ds:List Int):List Int:=hd n ds++ck (hd n ds)
theorem not_fr {n:Int}{ds:List Int}(h:¬ byt n=true\/7<ds.length\/∃d∈ds,¬ byt d=true):¬ FrOk n ds:=fun ⟨h1,h2,h3⟩=>by
  rcases h with h | h | ⟨d,hd,h⟩
  · exact h h1
  · omega
  · exact h (Yu.mp h3 d hd)
/-! a frame's bits are read as it -/
/-! what is kept of a front is a front of what is kept -/
/-- what holds ahead of a bit that is heard -/
structure On (w:List Int):Prop where
  good:Good w
  le:12<=(kp w).length->(kp w).length<=27+8*szB (kp w)
  five:CmpB (kp w)->run w=5
def spVotes (C:Addr):Sp:=fun vs H Q E=>∃v:Int,vs= [.int v]/\((v=1\/v=3\/v=5)->Q .non H)/\(¬ (v=1\/v=3\/v=5)->E (.ref C) none H)
theorem mem_votes (v:Int):decide (v∈ [(1:Int),3,5])=true↔(v=1\/v=3\/v=5):=by
  rw[Xi]
  simp
abbrev tlF (v:Nat)(s:Bool)(o n:Nat):List (Str×V):=[("votes",.int v),("spoke",.bl s),("over",.int o),("noughts",.int n)]
def TlAt (C1 C2:Addr)(H:Hp)(t:Addr)(v:Nat)(s:Bool)(o n:Nat):Prop:=∃C dx,(C=C1\/C=C2)/\H t=some (.ins C dx (tlF v s o n))
def tlSays (s:Bool)(o:Nat):Int:=if o=1/\s=false then 0 else 1
def tlFault (s:Bool)(o:Nat)(b:Int):Bool:=if o=1 then s && decide (b=1) else decide (b=0)
def tlN (o:Nat)(b:Int)(n:Nat):Nat:=if 9<=o/\b=0 then n+1 else n
def tlVote (v o n:Nat):Str:=if o<9+v then ("more":Str) else if v / 2<n then ("refused":Str) else ("taken":Str)
def tlWord (v:Nat)(s:Bool)(o n:Nat)(b:Int):Str:=if 9<=o then tlVote v (o+1) (tlN o b n) else if tlFault s o b=true then ("fault":Str) else ("more":Str)
abbrev ctF (n:Int):List (Str×V):=[("total",.int n)]
def CtAt (C:Addr)(H:Hp)(a:Addr)(n:Int):Prop:=∃dx,H a=some (.ins C dx (ctF n))
/-- the same but for the object at a -/
def spCtInit (C:Addr):Sp:=fun vs H Q _=>∃a dx,vs= [.ref a]/\H a=some (.ins C dx [])/\Q .non (upd H a (.ins C dx (ctF 0)))
def spCtB (C:Addr)(lim:Int):Sp:=fun vs H Q _=>∃a n,vs= [.ref a]/\CtAt C H a n/\Q (.bl (decide (lim<=n))) H
def spCtN (C:Addr):Sp:=fun vs H Q _=>∃a n,vs= [.ref a]/\CtAt C H a n/\Q (.int n) H
def mvd (n st:Int):Int:=if 18<=n then n else max 0 (n+st)
abbrev Own:=Addr->Prop
def isT (o:HO):Prop:=∃vs,o= .tup vs
/-- all that is not own stays,and tuples stay -/
def Keep (o:Own)(H H':Hp):Prop:=∀x v,H x=some v->(¬ o x\/isT v)->H' x=some v
def Mv (o:Own)(H:Hp)(o':Own)(H':Hp):Prop:=Keep o H H'/\∀x,o' x->o x\/H x=none
abbrev Or2 (a b:Own):Own:=fun x=>a x\/b x
theorem Keep.of {o:Own}{H H':Hp}(g:Same H H'):Keep o H H':=fun x v e _=>g x v e
theorem Keep.refl {o:Own}{H:Hp}:Keep o H H:=fun _ _ e _=>e
theorem Keep.tup {o:Own}{H H':Hp}{x:Addr}{vs:List V}(k:Keep o H H')(e:H x=some (.tup vs)):H' x=some (.tup vs):=k x _ e (.inr ⟨vs,rfl⟩)
theorem Keep.le {o o':Own}{H H':Hp}(k:Keep o H H')(h:∀x,o x->o' x):Keep o' H H':=fun x v e z=>k x v e (z.elim (fun y=> .inl fun w=>y (h x w)) .inr)
theorem Mv.refl {o:Own}{H:Hp}:Mv o H o H:=⟨Keep.refl,fun _=> .inl⟩
theorem Mv.of {o:Own}{H H':Hp}(g:Same H H'):Mv o H o H':=⟨Keep.of g,fun _=> .inl⟩
theorem Mv.trans {o o1 o2:Own}{H H1 H2:Hp}(a:Mv o H o1 H1)(b:Mv o1 H1 o2 H2):Mv o H o2 H2:=by
  refine⟨fun x v e z=>b.1 x v (a.1 x v e z) ?_,fun x hx=>?_⟩
  · rcases z with z | z
    · exact .inl fun w=>(a.2 x w).elim z fun n=>by rw[n]at e;cases e
    · exact .inr z
  · rcases b.2 x hx with h | h
    · exact a.2 x h
    · rcases Classical.em (o x) with c | c
      · exact .inl c
      · right
        cases e:H x with
        |none=>rfl
        |some v=>rw[a.1 x v e (.inl c)]at h;cases h
/-- what is not own stays not own -/
theorem Mv.out {o o1:Own}{H H1:Hp}(a:Mv o H o1 H1){x:Addr}{v:HO}(e:H x=some v)(h:¬ o x):¬ o1 x:=fun w=>(a.2 x w).elim h fun n=>by rw[n]at e;cases e
structure Cs where
  (post count free speaks reads intail flag settles rests off reader streak rtail stail:Addr)
inductive Stc where
  |free (k:Nat) | speaks (n:Nat) (ds:List Int) (k:Nat) | reads (h:List Int) | tlS (v c:Nat) | tlR (n:Nat) (ds:List Int) (v c:Nat) | flag (l:Nat) (m:Bool) | settles (m:Bool) | rests (l:Nat) | off
abbrev Fr:=Nat×List Int
structure PS where
  (m1 m2 vt:Nat) (wt up:List Fr) (tot:Int) (now:Stc)
abbrev wr (n:Nat)(ds:List Int):List Int:=put (fb (n:Int) ds)
def Stc.shown:Stc->Str×Nat
  |.free k=>("free",k)
  |.speaks _ _ k=>("speaks",k)
  |.reads h=>("reads",h.length)
  |.tlS v _=>("tail speaks",v)
  |.tlR _ _ v _=>("tail reads",v)
  |.flag l _=>("flag",l)
  |.settles _=>("settles",0)
  |.rests l=>("rests",l)
  |.off=>("off",0)
def saysP (S:PS):Int:=match S.now with
  |.free k=>if S.wt= [] then 1 else if 12<=S.tot/\k<8 then 1 else 0
  |.speaks n ds k=>(wr n ds).getD k 0
  |.tlS v _=>tlSays true v
  |.tlR _ _ v _=>tlSays false v
  |.flag _ _=>0
  |_=>1
/-- a count that goes on:off,or the word and the stance -/
def goneP (S:PS)(st:Int)(w:Str)(nx:Stc):Str×PS:=if 18<=mvd S.tot st then ("off",{ S with tot:=mvd S.tot st,now:= .off }) else (w,{ S with tot:=mvd S.tot st,now:=nx })
def faultP (S:PS)(sp:Bool):Str×PS:=goneP S (if sp=true then 8 else 1) "fault" (.flag 6 (!sp))
def refuseP (S:PS)(sp:Bool):Str×PS:=goneP S (if sp=true then 8 else 1) "refuses" (.settles false)
def blameP (S:PS):Str×PS:=goneP S 8 "" (.settles false)
def wantP (S:PS)(n:Nat):Bool:=decide (Builtin.bitAnd ((n:Nat):Int) ((S.m1:Nat):Int)=((S.m2:Nat):Int))
def hearP (S:PS)(b:Int):Str×PS:=match S.now with
  |.free k=>if saysP S=0 then (if b=0 then ("begins",{ S with now:= .speaks (S.wt.headD (0, [])).1 (S.wt.headD (0, [])).2 1 }) else faultP S true) else if b=0 then ("",{ S with now:= .reads [0] }) else ("",{ S with now:= .free (k+1) })
  |.speaks n ds k=>if ans ((wr n ds).take k++[b])="six" then faultP S true else if (wr n ds).getD k 0=1/\b=0/\(kp ((wr n ds).take k)).length<9 then ("loses",{ S with now:= .reads ((wr n ds).take k++[b]) }) else if b=(wr n ds).getD k 0 then (if k+1=(wr n ds).length then ("",{ S with now:= .tlS 0 0 }) else ("",{ S with now:= .speaks n ds (k+1) })) else faultP S true
  |.reads h=>if ans (h++[b])="more" then ("",{ S with now:= .reads (h++[b]) }) else if ans (h++[b])="whole" then ("",{ S with now:= .tlR (nmB (kp (h++[b]))) (daB (kp (h++[b]))) 0 0 }) else faultP S false
  |.tlS v c=>if tlWord S.vt true v c b="more" then ("",{ S with now:= .tlS (v+1) (tlN v b c) }) else if tlWord S.vt true v c b="fault" then faultP S true else if tlWord S.vt true v c b="refused" then refuseP S true else ("done",{ S with tot:=mvd S.tot (-1),wt:=S.wt.tail,now:= .rests 3 })
  |.tlR n ds v c=>if tlWord S.vt false v c b="more" then ("",{ S with now:= .tlR n ds (v+1) (tlN v b c) }) else if tlWord S.vt false v c b="fault" then faultP S false else if tlWord S.vt false v c b="refused" then refuseP S false else ("takes",{ S with tot:=mvd S.tot (-1),up:=if wantP S n=true then S.up++[(n,ds)] else S.up,now:= .rests 3 })
  |.flag l m=>if l=1 then ("",{ S with now:= .settles m }) else ("",{ S with now:= .flag (l-1) m })
  |.settles m=>if b=1 then ("",{ S with now:= .rests 3 }) else if m=true then blameP S else ("",S)
  |.rests l=>if b=0 then faultP S false else ("",{ S with now:=if l=1 then .free 0 else .rests (l-1) })
  |.off=>("",S)
def FrN (f:Fr):Prop:=f.1<256/\f.2.length<=7/\f.2.all byt=true
def Stc.Wf (wt:List Fr):Stc->Prop
  |.speaks n ds k=>FrN (n,ds)/\1<=k/\k<(wr n ds).length/\wt≠ []
  |.reads h=>Bits h/\On h/\h.head? =some 0
  |.tlS _ _=>wt≠ []
  |.flag l _=>1<=l
  |.rests l=>1<=l
  |_=>True
structure Wf (S:PS):Prop where
  vt:S.vt<=5
  wt:∀f∈S.wt,FrN f
  now:S.now.Wf S.wt
/-! ### on the heap -/
def FrAt (H:Hp)(o:Own)(t:Addr)(f:Fr):Prop:=∃d,H t=some (.tup [.int ((f.1:Nat):Int),.ref d])/\H d=some (.lst (f.2.map V.int))/\o d
inductive FrsAt (H:Hp)(o:Own):List V->List Fr->Prop
  |nil:FrsAt H o [] []
  |cons {t:Addr} {f:Fr} {ts:List V} {fs:List Fr}:FrAt H o t f->FrsAt H o ts fs->FrsAt H o (.ref t::ts) (f::fs)
theorem FrsAt.len {H:Hp}{o:Own}:∀{ts:List V}{fs:List Fr},FrsAt H o ts fs->ts.length=fs.length
  |_,_,.nil=>rfl
  |_,_,.cons _ r=>YE (·+1) r.len
theorem FrsAt.snoc {H:Hp}{o:Own}{t:Addr}{f:Fr}:∀{ts:List V}{fs:List Fr},FrsAt H o ts fs->FrAt H o t f->FrsAt H o (ts++[.ref t]) (fs++[f])
  |_,_,.nil,h=> .cons h .nil
  |_,_,.cons a r,h=> .cons a (r.snoc h)
theorem FrAt.imp {H H':Hp}{o o':Own}{t:Addr}{f:Fr}(h:FrAt H o t f)(g:∀x v,H x=some v->(o x\/isT v)->H' x=some v)(w:∀x,o x->o' x):FrAt H' o' t f:=by
  obtain⟨d,e1,e2,e3⟩:=h
  exact⟨d,g _ _ e1 (.inr ⟨_,rfl⟩),g _ _ e2 (.inl e3),w d e3⟩
theorem FrsAt.imp {H H':Hp}{o o':Own}(g:∀x v,H x=some v->(o x\/isT v)->H' x=some v)(w:∀x,o x->o' x):∀{ts:List V}{fs:List Fr},FrsAt H o ts fs->FrsAt H' o' ts fs
  |_,_,.nil=> .nil
  |_,_,.cons a r=> .cons (a.imp g w) (r.imp g w)
theorem FrsAt.get {H:Hp}{o:Own}:∀{ts:List V}{fs:List Fr},FrsAt H o ts fs->∀{i:Nat}{v:V},ts[i]? =some v->∃t f,v= .ref t/\fs[i]? =some f/\FrAt H o t f
  |_,_,.cons a _,0,_,rfl=>⟨_,_,rfl,rfl,a⟩
  |_,_,.cons _ r,i+1,_,h=>r.get (i:=i) h
abbrev pF (ch:Addr)(vt:Nat)(wl ul ct nw:Addr):List (Str×V):=[("choice",.ref ch),("votes",.int vt),("waiting",.ref wl),("handed_up",.ref ul),("tally",.ref ct),("now",.ref nw)]
/-- the data lists:own,and neither of the two lists -/
abbrev Dl (o:Own)(wl ul:Addr):Own:=fun x=>o x/\x≠wl/\x≠ul
structure BAt (A:Cs)(H:Hp)(p nwf:Addr)(S:PS)(o:Own)(dx ch wl ul ct:Addr)(ws us:List V):Prop where
  e:H p=some (.ins A.post dx (pF ch S.vt wl ul ct nwf))
  ec:H ch=some (.tup [.int S.m1,.int S.m2])
  ew:H wl=some (.lst ws)
  fw:FrsAt H (Dl o wl ul) ws S.wt
  eu:H ul=some (.lst us)
  fu:FrsAt H (Dl o wl ul) us S.up
  et:CtAt A.count H ct S.tot
  op:o p
  ow:o wl
  ou:o ul
  ot:o ct
  ne:wl≠ul
  al:∀x,o x->H x≠none
def Bd (A:Cs)(H:Hp)(p nwf:Addr)(S:PS)(o:Own):Prop:=∃dx ch wl ul ct ws us,BAt A H p nwf S o dx ch wl ul ct ws us
theorem BAt.move {A:Cs}{H H':Hp}{p nwf:Addr}{S:PS}{o:Own}{dx ch wl ul ct:Addr}{ws us:List V}(h:BAt A H p nwf S o dx ch wl ul ct ws us)(g:∀x v,H x=some v->(o x\/isT v)->H' x=some v):BAt A H' p nwf S o dx ch wl ul ct ws us:=
  ⟨g _ _ h.e (.inl h.op),g _ _ h.ec (.inr ⟨_,rfl⟩),g _ _ h.ew (.inl h.ow),h.fw.imp (fun x v e z=>g x v e (z.imp_left And.left)) fun _ z=>z,g _ _ h.eu (.inl h.ou),h.fu.imp (fun x v e z=>g x v e (z.imp_left And.left)) fun _ z=>z,
    let ⟨d,e⟩:=h.et;⟨d,g _ _ e (.inl h.ot)⟩,h.op,h.ow,h.ou,h.ot,h.ne,fun x hx=>by
      have:=h.al x hx
      cases e:H x with
      |none=>exact absurd e this
      |some v=>rw[g x v e (.inl hx)];simp⟩
theorem Bd.move {A:Cs}{H H':Hp}{p nwf:Addr}{S:PS}{o:Own}(h:Bd A H p nwf S o)(g:∀x v,H x=some v->(o x\/isT v)->H' x=some v):Bd A H' p nwf S o:=
  let ⟨dx,ch,wl,ul,ct,ws,us,b⟩:=h;⟨dx,ch,wl,ul,ct,ws,us,b.move g⟩
theorem Bd.al {A:Cs}{H:Hp}{p nwf:Addr}{S:PS}{o:Own}(h:Bd A H p nwf S o):∀x,o x->H x≠none:=let ⟨_,_,_,_,_,_,_,b⟩:=h;b.al
def StAt (A:Cs)(H:Hp)(nw:Addr)(vt:Nat)(o:Own):Stc->Prop
  |.free k=>∃dx,H nw=some (.ins A.free dx [("since",.int ((k:Nat):Int))])
  |.speaks n ds k=>∃dx wa r st ks t,H nw=some (.ins A.speaks dx [("wire",.ref wa),("reader",.ref r),("many",.int ((k:Nat):Int))])/\H wa=some (.lst ((wr n ds).map V.int))/\RdAt A.reader A.streak H r st ks ((wr n ds).take k) t/\wa≠ks/\o wa/\o r/\o st/\o ks
  |.reads h=>∃dx r st ks t,H nw=some (.ins A.reads dx [("reader",.ref r),("many",.int ((h.length:Nat):Int))])/\RdAt A.reader A.streak H r st ks h t/\o r/\o st/\o ks
  |.tlS v c=>∃dx tl,H nw=some (.ins A.intail dx [("tail",.ref tl),("found",.non)])/\TlAt A.rtail A.stail H tl vt true v c/\o tl
  |.tlR n ds v c=>∃dx tl t d,H nw=some (.ins A.intail dx [("tail",.ref tl),("found",.ref t)])/\TlAt A.rtail A.stail H tl vt false v c/\H t=some (.tup [.int ((n:Nat):Int),.ref d])/\H d=some (.lst (ds.map V.int))/\o tl/\o d
  |.flag l m=>∃dx,H nw=some (.ins A.flag dx [("left",.int ((l:Nat):Int)),("may_blame",.bl m)])
  |.settles m=>∃dx,H nw=some (.ins A.settles dx [("may_blame",.bl m)])
  |.rests l=>∃dx,H nw=some (.ins A.rests dx [("left",.int ((l:Nat):Int))])
  |.off=>∃dx,H nw=some (.ins A.off dx [])
structure StW (A:Cs)(H:Hp)(nw:Addr)(S:PS)(o:Own):Prop where
  at_:StAt A H nw S.vt o S.now
  on:o nw
  al:∀x,o x->H x≠none
theorem rd_move {C CK:Addr}{H H':Hp}{r st ks:Addr}{w:List Int}{t:Str}(h:RdAt C CK H r st ks w t)(g1:∀v,H r=some v->H' r=some v)(g2:∀v,H st=some v->H' st=some v)(g3:∀v,H ks=some v->H' ks=some v):RdAt C CK H' r st ks w t:=
  ⟨let ⟨d,e⟩:=h.rd;⟨d,g1 _ e⟩,let ⟨d,e⟩:=h.sk;⟨d,g2 _ e⟩,g3 _ h.kp⟩
theorem StW.move {A:Cs}{H H':Hp}{nw:Addr}{S:PS}{o:Own}(h:StW A H nw S o)(g:∀x v,H x=some v->(o x\/isT v)->H' x=some v):StW A H' nw S o:=by
  obtain⟨a,on,al⟩:=h
  have gn:∀v,H nw=some v->H' nw=some v:=fun v e=>g _ _ e (.inl on)
  refine⟨?_,on,fun x hx=>?_⟩
  · revert a
    generalize S.now=s
    cases s with
    |free k=>intro hh;obtain⟨dx,e⟩:=hh;exact⟨dx,gn _ e⟩
    |speaks n ds k=>intro hh;obtain⟨dx,wa,r,st,ks,t,e,e1,e2,e3,o1,o2,o3,o4⟩:=hh;exact⟨dx,wa,r,st,ks,t,gn _ e,g _ _ e1 (.inl o1),rd_move e2 (fun v z=>g _ _ z (.inl o2)) (fun v z=>g _ _ z (.inl o3)) (fun v z=>g _ _ z (.inl o4)),e3,o1,o2,o3,o4⟩
    |reads w=>intro hh;obtain⟨dx,r,st,ks,t,e,e2,o2,o3,o4⟩:=hh;exact⟨dx,r,st,ks,t,gn _ e,rd_move e2 (fun v z=>g _ _ z (.inl o2)) (fun v z=>g _ _ z (.inl o3)) (fun v z=>g _ _ z (.inl o4)),o2,o3,o4⟩
    |tlS v c=>intro hh;obtain⟨dx,tl,e,⟨C,d,hC,e1⟩,o1⟩:=hh;exact⟨dx,tl,gn _ e,⟨C,d,hC,g _ _ e1 (.inl o1)⟩,o1⟩
    |tlR n ds v c=>intro hh;obtain⟨dx,tl,t,d,e,⟨C,d',hC,e1⟩,e2,e3,o1,o2⟩:=hh;exact⟨dx,tl,t,d,gn _ e,⟨C,d',hC,g _ _ e1 (.inl o1)⟩,g _ _ e2 (.inr ⟨_,rfl⟩),g _ _ e3 (.inl o2),o1,o2⟩
    |flag l m=>intro hh;obtain⟨dx,e⟩:=hh;exact⟨dx,gn _ e⟩
    |settles m=>intro hh;obtain⟨dx,e⟩:=hh;exact⟨dx,gn _ e⟩
    |rests l=>intro hh;obtain⟨dx,e⟩:=hh;exact⟨dx,gn _ e⟩
    |off=>intro hh;obtain⟨dx,e⟩:=hh;exact⟨dx,gn _ e⟩
  · have:=al x hx
    cases e:H x with
    |none=>exact absurd e this
    |some v=>rw[g x v e (.inl hx)];simp
/-- a post -/
def PostAt (A:Cs)(H:Hp)(p:Addr)(S:PS)(o:Own):Prop:=∃nw ob os,Bd A H p nw S ob/\StW A H nw S os/\(∀x,ob x->os x->False)/\Wf S/\(∀x,ob x\/os x->o x)/\∀x,o x->H x≠none
theorem PostAt.move {A:Cs}{H H':Hp}{p:Addr}{S:PS}{o:Own}(h:PostAt A H p S o)(g:∀x v,H x=some v->(o x\/isT v)->H' x=some v):PostAt A H' p S o:=by
  obtain⟨nw,ob,os,b,s,d,w,i,al⟩:=h
  refine⟨nw,ob,os,b.move fun x v e z=>g x v e (z.imp_left fun y=>i x (.inl y)),s.move fun x v e z=>g x v e (z.imp_left fun y=>i x (.inr y)),d,w,i,fun x hx=>?_⟩
  have:=al x hx
  cases e:H x with
  |none=>exact absurd e this
  |some v=>rw[g x v e (.inl hx)];simp
theorem PostAt.same {A:Cs}{H H':Hp}{p:Addr}{S:PS}{o:Own}(h:PostAt A H p S o)(g:Same H H'):PostAt A H' p S o:=h.move fun x v e _=>g x v e
theorem PostAt.wf {A:Cs}{H:Hp}{p:Addr}{S:PS}{o:Own}(h:PostAt A H p S o):Wf S:=let ⟨_,_,_,_,_,_,w,_,_⟩:=h;w
theorem PostAt.al {A:Cs}{H:Hp}{p:Addr}{S:PS}{o:Own}(h:PostAt A H p S o):∀x,o x->H x≠none:=let ⟨_,_,_,_,_,_,_,_,a⟩:=h;a
theorem upd_upd (H:Hp)(a:Addr)(x y:HO):upd (upd H a x) a y=upd H a y:=by
  funext z
  by_cases h:z=a
  · rw[h,upd_same,upd_same]
  · rw[upd_ne h,upd_ne h,upd_ne h]
def spIni1 (C:Addr)(f:Str):Sp:=fun vs H Q _=>∃a dx v,vs= [.ref a,v]/\H a=some (.ins C dx [])/\∀H',H'=upd H a (.ins C dx [(f,v)])->Q .non H'
def spBdB (A:Cs)(lim:Int):Sp:=fun vs H Q _=>∃p nwf S o,vs= [.ref p]/\Bd A H p nwf S o/\Q (.bl (decide (lim<=S.tot))) H
def spBdN (A:Cs):Sp:=fun vs H Q _=>∃p nwf S o,vs= [.ref p]/\Bd A H p nwf S o/\Q (.int S.tot) H
def spHand (K:W.Frag)(A:Cs)(C:Addr):Sp:=fun vs H Q E=>∃p nwf S o n a ds,vs= [.ref p,.int n,.ref a]/\Bd A H p nwf S o/\SqL K H a (ds.map V.int)/\ds.length<=500/\S.wt.length<900/\
  (FrOk n ds->∀H' d,H d=none->Bd A H' p nwf { S with wt:=S.wt++[(n.toNat,ds)] } (Or2 o fun x=>x=d)->Keep o H H'->Q .non H')/\(¬ FrOk n ds->∀H',Same H H'->E (.ref C) none H')
/-- fresh copies -/
inductive FrsNew (H H':Hp):List V->List Fr->Prop
  |nil:FrsNew H H' [] []
  |cons {t d:Addr} {f:Fr} {ts:List V} {fs:List Fr}:H t=none->H d=none->H' t=some (.tup [.int ((f.1:Nat):Int),.ref d])->H' d=some (.lst (f.2.map V.int))->FrsNew H H' ts fs->FrsNew H H' (.ref t::ts) (f::fs)
theorem FrsNew.snoc {H H':Hp}{t d:Addr}{f:Fr}(h1:H t=none)(h2:H d=none)(e1:H' t=some (.tup [.int ((f.1:Nat):Int),.ref d]))(e2:H' d=some (.lst (f.2.map V.int))):∀{ts:List V}{fs:List Fr},FrsNew H H' ts fs->FrsNew H H' (ts++[.ref t]) (fs++[f])
  |_,_,.nil=> .cons h1 h2 e1 e2 .nil
  |_,_,.cons a1 a2 a3 a4 r=> .cons a1 a2 a3 a4 (r.snoc h1 h2 e1 e2)
theorem FrsNew.same {H H' H2:Hp}(g:Same H' H2):∀{ts:List V}{fs:List Fr},FrsNew H H' ts fs->FrsNew H H2 ts fs
  |_,_,.nil=> .nil
  |_,_,.cons a1 a2 a3 a4 r=> .cons a1 a2 (g _ _ a3) (g _ _ a4) (r.same g)
theorem FrsNew.len {H H':Hp}:∀{ts:List V}{fs:List Fr},FrsNew H H' ts fs->ts.length=fs.length
  |_,_,.nil=>rfl
  |_,_,.cons _ _ _ _ r=>YE (·+1) r.len
def spCopies (K:W.Frag):Sp:=fun vs H Q _=>∃(a:Addr)(ts:List V)(fs:List Fr)(o:Own),vs= [.ref a]/\H a=some (.lst ts)/\FrsAt H o ts fs/\fs.length<=900/\∀l xs H',H l=none->Same H H'->H' l=some (.lst xs)->FrsNew H H' xs fs->Q (.ref l) H'
def spWaits (A:Cs):Sp:=fun vs H Q _=>∃p nwf S o,vs= [.ref p]/\Bd A H p nwf S o/\S.wt.length<=900/\∀l xs H',H l=none->Same H H'->H' l=some (.lst xs)->FrsNew H H' xs S.wt->Q (.ref l) H'
def spGot (A:Cs):Sp:=fun vs H Q _=>∃p nwf S o,vs= [.ref p]/\Bd A H p nwf S o/\S.up.length<=900/\∀l xs H',H l=none->Same H H'->H' l=some (.lst xs)->FrsNew H H' xs S.up->Q (.ref l) H'
def spChoice (K:W.Frag)(C:Addr):Sp:=fun vs H Q E=>∃(a:Addr)(ns:List Int),vs= [.ref a]/\SqT K H a (ns.map V.int)/\ns.length<=500/\(ns.all byt=true->∀H',Same H H'->Q .non H')/\(¬ ns.all byt=true->∀H',Same H H'->E (.ref C) none H')
def S0 (m1 m2 v:Nat):PS:=⟨m1,m2,v, [], [],0,.free 0⟩
def PoOk (m1 m2 v:Int):Prop:=byt m1=true/\byt m2=true/\(v=1\/v=3\/v=5)
def spPostInit (K:W.Frag)(A:Cs)(C:Addr):Sp:=fun vs H Q E=>∃(a dx ch:Addr)(m1 m2 v:Int),vs= [.ref a,.ref ch,.int v]/\H a=some (.ins A.post dx [])/\H ch=some (.tup [.int m1,.int m2])/\
  (PoOk m1 m2 v->∀H' o,PostAt A H' a (S0 m1.toNat m2.toNat v.toNat) o->(∀x,o x->x=a\/H x=none)->(∀x u,x≠a->H x=some u->H' x=some u)->Q .non H')/\(¬ PoOk m1 m2 v->∀H',(∀x u,x≠a->H x=some u->H' x=some u)->E (.ref C) none H')
theorem list_put {A:Cs}{H:Hp}{p nwf:Addr}{S:PS}{o:Own}{dx ch wl ul ct a:Addr}{ws us ys:List V}(b:BAt A H p nwf S o dx ch wl ul ct ws us)(ha:a=wl\/a=ul) :
    Keep o H (upd H a (.lst ys))/\upd H a (.lst ys) p=H p/\upd H a (.lst ys) ch=H ch/\upd H a (.lst ys) ct=H ct/\(∀{ts:List V}{fs:List Fr},FrsAt H (Dl o wl ul) ts fs->FrsAt (upd H a (.lst ys)) (Dl o wl ul) ts fs)/\∀x,o x->upd H a (.lst ys) x≠none:=by
  have ea:∃l,H a=some (.lst l):=ha.elim (fun z=>⟨_,z▸b.ew⟩) fun z=>⟨_,z▸b.eu⟩
  obtain⟨l,ea⟩:=ea
  have oa:o a:=ha.elim (fun z=>z▸b.ow) fun z=>z▸b.ou
  have kk:Keep o H (upd H a (.lst ys)):=fun x v e z=>by
    rw[upd_ne]
    · exact e
    · rintro rfl
      rcases z with z | ⟨vs,rfl⟩
      · exact z oa
      · rw[ea]at e;cases e
  have nl:∀{x:Addr}{v:HO},H x=some v->(∀l,v≠ .lst l)->upd H a (.lst ys) x=H x:=fun {x v} e h=>by
    rw[upd_ne]
    rintro rfl
    rw[ea]at e
    exact h _ (YF e).symm
  refine⟨kk,nl b.e (fun l z=>nomatch z),nl b.ec (fun l z=>nomatch z),(let ⟨d,e⟩:=b.et;nl e fun l z=>nomatch z),fun {ts fs} h=>?_,fun x hx=>?_⟩
  · induction h with
    |nil=>exact .nil
    | cons a' _ ih=>
      obtain⟨d,e1,e2,e3⟩:=a'
      refine .cons ⟨d,kk.tup e1,?_,e3⟩ ih
      rw[upd_ne (ha.elim (fun z=>z▸e3.2.1) fun z=>z▸e3.2.2)]
      exact e2
  · by_cases h:x=a
    · rw[h,upd_same];simp
    · rw[upd_ne h];exact b.al x hx
def Stc.tag:Stc->Nat
  |.free _=>0
  |.speaks _ _ _=>1
  |.reads _=>2
  |.tlS _ _=>3
  |.tlR _ _ _ _=>3
  |.flag _ _=>4
  |.settles _=>5
  |.rests _=>6
  |.off=>7
def spShown (A:Cs)(i:Nat):Sp:=fun vs H Q _=>∃nw S o,vs= [.ref nw]/\S.now.tag=i/\StW A H nw S o/\∀t H',H t=none->Same H H'->H' t=some (.tup [.str S.now.shown.1,.int ((S.now.shown.2:Nat):Int)])->Q (.ref t) H'
/-- a new stance that has nothing but itself -/
theorem stw_one {A:Cs}{H:Hp}{nw:Addr}{S:PS}{v:HO}(e:H nw=some v)(h:StAt A H nw S.vt (fun x=>x=nw) S.now):StW A H nw S (fun x=>x=nw):=⟨h,rfl,fun x hx=>by
  have hx':x=nw:=hx
  rw[hx',e];simp⟩
/-- a new object and what is made for it -/
structure Mid (H:Hp)(a:Addr)(v:HO)(cs:List (Addr×HO))(Hx:Hp):Prop where
  ea:Hx a=some v
  kp:∀x u,x≠a->H x=some u->Hx x=some u
  nw:∀c∈cs,H c.1=none/\c.1≠a/\Hx c.1=some c.2
  nd:(cs.map Prod.fst).Nodup
theorem Mid.set {H:Hp}{a:Addr}{v:HO}{cs:List (Addr×HO)}{Hx:Hp}(m:Mid H a v cs Hx)(v':HO):Mid H a v' cs (upd Hx a v'):=
  ⟨upd_same,fun x u hx h=>by rw[upd_ne hx];exact m.kp x u hx h,fun c hc=>⟨(m.nw c hc).1,(m.nw c hc).2.1,by rw[upd_ne (m.nw c hc).2.1];exact(m.nw c hc).2.2⟩,m.nd⟩
theorem Mid.add {H:Hp}{a y:Addr}{v o:HO}{cs:List (Addr×HO)}{Hx Hy:Hp}(m:Mid H a v cs Hx)(hn:Hx y=none)(g:Same Hx Hy)(e:Hy y=some o):Mid H a v ((y,o)::cs) Hy:=by
  have ya:y≠a:=fun z=>by rw[z,m.ea]at hn;cases hn
  refine⟨g _ _ m.ea,fun x u hx h=>g _ _ (m.kp x u hx h),fun c hc=>?_,Y0.mpr ⟨fun h=>?_,m.nd⟩⟩
  · rcases Yr.mp hc with rfl | hc
    · refine⟨?_,ya,e⟩
      cases eh:H y with
      |none=>rfl
      |some u=>rw[m.kp y u ya eh]at hn;cases hn
    · exact⟨(m.nw c hc).1,(m.nw c hc).2.1,g _ _ (m.nw c hc).2.2⟩
  · obtain⟨c,hc,ec⟩:=YI.mp h
    have:=(m.nw c hc).2.2
    rw[ec,hn]at this
    cases this
/-- a post since H0 -/
structure Lw (A:Cs)(H0 H:Hp)(p:Addr)(S:PS)(o:Own):Prop where
  same:Same H0 H
  fr:∀x,o x->H0 x=none
  po:PostAt A H p S o
theorem Wf.hand {S:PS}{f:Fr}(h:Wf S)(hf:FrN f):Wf { S with wt:=S.wt++[f] }:=by
  refine⟨h.vt,fun g hg=>?_,?_⟩
  · rcases YG.mp hg with z | z
    · exact h.wt g z
    · rw[Yg.mp z];exact hf
  · have hn:=h.now
    have hne:S.wt++[f]≠ []:=by intro z;have:=(List.append_eq_nil_iff.mp z).2;cases this
    show Stc.Wf (S.wt++[f]) S.now
    revert hn
    cases S.now with
    |speaks n ds k=>exact fun ⟨a,b,c,d⟩=>⟨a,b,c,hne⟩
    |tlS v c=>exact fun _=>hne
    |free k=>exact fun z=>z
    |reads h=>exact fun z=>z
    |tlR n ds v c=>exact fun z=>z
    |flag l m=>exact fun z=>z
    |settles m=>exact fun z=>z
    |rests l=>exact fun z=>z
    |off=>exact fun z=>z
/-- a frame is handed -/
theorem PostAt.hand {A:Cs}{H:Hp}{p:Addr}{S:PS}{o:Own}(h:PostAt A H p S o):∃nw ob,Bd A H p nw S ob/\∀{n:Int}{ds:List Int},FrOk n ds->∀H' d,H d=none->Bd A H' p nw { S with wt:=S.wt++[(n.toNat,ds)] } (Or2 ob fun x=>x=d)->Keep ob H H'->∃o',PostAt A H' p { S with wt:=S.wt++[(n.toNat,ds)] } o'/\Mv o H o' H':=by
  obtain⟨nw,ob,os,bd,st,dj,wf,inc,al⟩:=h
  refine⟨nw,ob,bd,fun {n ds} ok H' d hd b' k=>?_⟩
  have hb:=byt_iff.mp ok.1
  have hf:FrN (n.toNat,ds):=⟨by show n.toNat<256;omega,ok.2.1,ok.2.2⟩
  have s':StW A H' nw S os:=st.move fun x v e z=>k x v e (z.imp_left fun y w=>dj x w y)
  refine⟨Or2 o fun x=>x=d,⟨nw,Or2 ob fun x=>x=d,os,b',⟨s'.at_,s'.on,s'.al⟩,?_,wf.hand hf,?_,?_⟩,k.le fun x hx=>inc x (.inl hx),fun x hx=>?_⟩
  · rintro x (hx | hx) hy
    · exact dj x hx hy
    · have hx':x=d:=hx
      rw[hx']at hy
      exact al d (inc d (.inr hy)) hd
  · rintro x ((hx | hx) | hx)
    · exact .inl (inc x (.inl hx))
    · exact .inr hx
    · exact .inl (inc x (.inr hx))
  · rintro x (hx | hx)
    · rcases Classical.em (ob x) with c | c
      · exact b'.al x (.inl c)
      · cases e:H x with
        |none=>exact absurd e (al x hx)
        |some v=>rw[k x v e (.inl c)];simp
    · exact b'.al x (.inr hx)
  · rcases hx with hx | hx
    · exact .inl hx
    · have hx':x=d:=hx
      rw[hx'];exact .inr hd
theorem post_lw {A:Cs}{H H1 H':Hp}{p dp:Addr}{v:HO}{S:PS}{o:Own}(g:Same H H1)(hp:H1 p=none)(hdp:H1 dp=none)(hP:PostAt A H' p S o)(hin:∀x,o x->x=p\/upd (upd H1 dp (.own p)) p v x=none)(hk:∀x u,x≠p->upd (upd H1 dp (.own p)) p v x=some u->H' x=some u):Lw A H H' p S o/\Same H1 H':=by
  have s1:Same H1 H':=fun x u e=>hk x u (ne_of_none e hp) (by rw[upd_ne (ne_of_none e hp),upd_ne (ne_of_none e hdp)];exact e)
  refine⟨⟨g.trans s1,fun x hx=>?_,hP⟩,s1⟩
  rcases hin x hx with h | h
  · rw[h];exact g.none hp
  · refine g.none ?_
    by_cases c:x=p
    · rw[c,upd_same]at h;cases h
    · rw[upd_ne c]at h
      by_cases d:x=dp
      · rw[d,upd_same]at h;cases h
      · rw[upd_ne d]at h;exact h
theorem PostAt.bd {A:Cs}{H:Hp}{p:Addr}{S:PS}{o:Own}(h:PostAt A H p S o):∃nw ob,Bd A H p nw S ob:=let ⟨nw,ob,_,bd,_⟩:=h;⟨nw,ob,bd⟩
theorem PostAt.cell {A:Cs}{H:Hp}{p:Addr}{S:PS}{o:Own}(h:PostAt A H p S o):∃dx ch vt wl ul ct nw,H p=some (.ins A.post dx (pF ch vt wl ul ct nw)):=let ⟨nw,_,_,⟨dx,ch,wl,ul,ct,_,_,b⟩,_⟩:=h;⟨dx,ch,_,wl,ul,ct,nw,b.e⟩

theorem FrsNew.at_ {H H':Hp}:∀{ts:List V}{fs:List Fr},FrsNew H H' ts fs->FrsAt H' (fun _=>True) ts fs
  |_,_,.nil=> .nil
  |_,_,.cons _ _ a3 a4 r=> .cons ⟨_,a3,a4,trivial⟩ r.at_
theorem mv_put {lo:Own}{H:Hp}{a:Addr}{o u:HO}(e:H a=some o)(h:lo a)(n:¬ isT o):Mv lo H lo (upd H a u):=⟨fun x v ex z=>by
  rw[upd_ne]
  · exact ex
  · rintro rfl
    rcases z with z | z
    · exact z h
    · rw[e]at ex;cases ex;exact n z,fun _=> .inl⟩
/-- posts beside each other,each with its own -/
def PsAt (A:Cs)(H:Hp):List Addr->List PS->Own->Prop
  |[], [],o=>∀x,o x->H x≠none
  |p::ps,S::Ss,o=>∃o1 o2,PostAt A H p S o1/\PsAt A H ps Ss o2/\(∀x,o1 x->o2 x->False)/\(∀x,o1 x\/o2 x->o x)/\∀x,o x->H x≠none
  |_,_,_=>False
theorem PsAt.al {A:Cs}{H:Hp}:∀{ps:List Addr}{Ss:List PS}{o:Own},PsAt A H ps Ss o->∀x,o x->H x≠none
  |[], [],_,h=>h
  |_::_,_::_,_,⟨_,_,_,_,_,_,h⟩=>h
theorem PsAt.len {A:Cs}{H:Hp}:∀{ps:List Addr}{Ss:List PS}{o:Own},PsAt A H ps Ss o->ps.length=Ss.length
  |[], [],_,_=>rfl
  |_::_,_::_,_,⟨_,_,_,h,_⟩=>YE (·+1) h.len
theorem PsAt.move {A:Cs}{H H':Hp}:∀{ps:List Addr}{Ss:List PS}{o:Own},PsAt A H ps Ss o->(∀x v,H x=some v->(o x\/isT v)->H' x=some v)->PsAt A H' ps Ss o
  | [], [],o,h,g=>fun x hx=>by
    cases e:H x with
    |none=>exact absurd e (h x hx)
    |some v=>rw[g x v e (.inl hx)];simp
  | _::_,_::_,o,⟨o1,o2,h1,h2,dj,inc,al⟩,g=>⟨o1,o2,h1.move fun x v e z=>g x v e (z.imp_left fun y=>inc x (.inl y)),h2.move fun x v e z=>g x v e (z.imp_left fun y=>inc x (.inr y)),dj,inc,fun x hx=>by
    cases e:H x with
    |none=>exact absurd e (al x hx)
    |some v=>rw[g x v e (.inl hx)];simp⟩
theorem PsAt.same {A:Cs}{H H':Hp}{ps:List Addr}{Ss:List PS}{o:Own}(h:PsAt A H ps Ss o)(g:Same H H'):PsAt A H' ps Ss o:=h.move fun x v e _=>g x v e
/-- one of them,and the way back -/
theorem PsAt.get {A:Cs}{H:Hp}:∀{ps:List Addr}{Ss:List PS}{o:Own},PsAt A H ps Ss o->∀{i:Nat}{p:Addr},ps[i]? =some p->∃S oi,Ss[i]? =some S/\PostAt A H p S oi/\(∀x,oi x->o x)/\∀H' oi' S',Mv oi H oi' H'->PostAt A H' p S' oi'->∃o',PsAt A H' ps (Ss.set i S') o'/\Mv o H o' H'
  | q ::ps,S::Ss,o,⟨o1,o2,h1,h2,dj,inc,al⟩,0,p,hp=>by
    cases hp
    refine⟨S,o1,rfl,h1,fun x hx=>inc x (.inl hx),fun H' oi' S' m hP=>?_⟩
    have h2':PsAt A H' ps Ss o2:=h2.move fun x v e z=>m.1 x v e (z.imp_left fun y w=>dj x w y)
    refine⟨Or2 oi' o2,⟨oi',o2,hP,h2',fun x hx hy=>?_,fun x hx=>hx,fun x hx=>?_⟩,⟨fun x v e z=>m.1 x v e (z.imp_left fun y w=>y (inc x (.inl w))),fun x hx=>?_⟩⟩
    · exact(m.2 x hx).elim (fun z=>dj x z hy) fun z=>h2.al x hy z
    · rcases hx with hx | hx
      · exact hP.al x hx
      · exact h2'.al x hx
    · rcases hx with hx | hx
      · exact(m.2 x hx).imp (fun z=>inc x (.inl z)) id
      · exact .inl (inc x (.inr hx))
  | q ::ps,S::Ss,o,⟨o1,o2,h1,h2,dj,inc,al⟩,i+1,p,hp=>by
    obtain⟨S1,oi,e1,hP1,le,back⟩:=PsAt.get h2 (i:=i) hp
    refine⟨S1,oi,e1,hP1,fun x hx=>inc x (.inr (le x hx)),fun H' oi' S' m hP=>?_⟩
    obtain⟨o2',h2',m'⟩:=back H' oi' S' m hP
    have h1':PostAt A H' q S o1:=h1.move fun x v e z=>m'.1 x v e (z.imp_left fun y w=>dj x y w)
    refine⟨Or2 o1 o2',⟨o1,o2',h1',h2',fun x hx hy=>?_,fun x hx=>hx,fun x hx=>?_⟩,⟨fun x v e z=>m'.1 x v e (z.imp_left fun y w=>y (inc x (.inr w))),fun x hx=>?_⟩⟩
    · exact(m'.2 x hy).elim (fun z=>dj x hx z) fun z=>h1.al x hx z
    · rcases hx with hx | hx
      · exact h1'.al x hx
      · exact h2'.al x hx
    · rcases hx with hx | hx
      · exact .inl (inc x (.inl hx))
      · exact(m'.2 x hx).imp (fun z=>inc x (.inr z)) id
/-- one more -/
theorem PsAt.snoc {A:Cs}{H H':Hp}{p:Addr}{S:PS}{o1:Own}(hP:PostAt A H' p S o1)(g:Same H H')(n:∀x,o1 x->H x=none):∀{ps:List Addr}{Ss:List PS}{o:Own},PsAt A H ps Ss o->PsAt A H' (ps++[p]) (Ss++[S]) (Or2 o o1)
  | [], [],o,h=>⟨o1,o,hP,fun x hx=>by
      cases e:H x with
      |none=>exact absurd e (h x hx)
      |some v=>rw[g x v e];simp,fun x hx hy=>h x hy (n x hx),fun x hx=>hx.symm,fun x hx=>by
      rcases hx with hx | hx
      · cases e:H x with
        |none=>exact absurd e (h x hx)
        |some v=>rw[g x v e];simp
      · exact hP.al x hx⟩
  | q :: ps,T::Ss,o,⟨oa,ob,h1,h2,dj,inc,al⟩=>⟨oa,Or2 ob o1,h1.same g,PsAt.snoc hP g n h2,fun x hx hy=>by
      rcases hy with hy | hy
      · exact dj x hx hy
      · exact h1.al x hx (n x hy),fun x hx=>by
      rcases hx with hx | hx | hx
      · exact .inl (inc x (.inl hx))
      · exact .inl (inc x (.inr hx))
      · exact .inr hx,fun x hx=>by
      rcases hx with hx | hx
      · cases e:H x with
        |none=>exact absurd e (al x hx)
        |some v=>rw[g x v e];simp
      · exact hP.al x hx⟩
/-- cells that are apart -/
structure CellsAt (H:Hp)(L:List (Addr×HO)):Prop where
  at_:∀(j:Nat)(c:Addr×HO),L[j]? =some c->H c.1=some c.2
  ap:∀(i j:Nat)(c d:Addr×HO),L[i]? =some c->L[j]? =some d->c.1=d.1->i=j
theorem CellsAt.put {H:Hp}{L:List (Addr×HO)}{i:Nat}{a:Addr}{h:HO}(hc:CellsAt H L)(e:L[i]? =some (a,h))(h':HO):CellsAt (upd H a h') (L.set i (a,h')):=by
  have hi:i<L.length:=(Yb.mp e).1
  have old:∀(j:Nat)(c:Addr×HO),(L.set i (a,h'))[j]? =some c->(j=i/\c=(a,h'))\/(j≠i/\L[j]? =some c):=fun j c z=>by
    rw[Xm]at z
    by_cases k:i=j
    · rw[if_pos k,if_pos hi]at z
      exact .inl ⟨k.symm,(YF z).symm⟩
    · rw[if_neg k]at z
      exact .inr ⟨fun y=>k y.symm,z⟩
  refine⟨fun j c z=>?_,fun j k c d z y q=>?_⟩
  · rcases old j c z with ⟨_,rfl⟩ | ⟨n,z⟩
    · exact upd_same
    · rw[upd_ne fun q=>n (hc.ap j i c (a,h) z e q)]
      exact hc.at_ j c z
  · rcases old j c z with ⟨n1,rfl⟩ | ⟨n1,z⟩ <;> rcases old k d y with ⟨n2,rfl⟩ | ⟨n2,y⟩
    · rw[n1,n2]
    · exact absurd (hc.ap k i d (a,h) y e q.symm) n2
    · exact absurd (hc.ap j i c (a,h) z e q) n1
    · exact hc.ap j k c d z y q
theorem CellsAt.keep {H H':Hp}{L:List (Addr×HO)}(hc:CellsAt H L)(g:∀(j:Nat)(c:Addr×HO),L[j]? =some c->H' c.1=some c.2):CellsAt H' L:=⟨g,hc.ap⟩
theorem CellsAt.same {H H':Hp}{L:List (Addr×HO)}(hc:CellsAt H L)(g:Same H H'):CellsAt H' L:=hc.keep fun j c z=>g _ _ (hc.at_ j c z)
/-- a new cell behind them -/
theorem CellsAt.snoc {H:Hp}{L:List (Addr×HO)}{a:Addr}{h:HO}(hc:CellsAt H L)(n:H a=none):CellsAt (upd H a h) (L++[(a,h)]):=by
  have old:∀(j:Nat)(c:Addr×HO),(L++[(a,h)])[j]? =some c->(j=L.length/\c=(a,h))\/L[j]? =some c:=fun j c z=>by
    by_cases k:j<L.length
    · rw[YQ k]at z
      exact .inr z
    · rw [YV (by omega)]at z
      have hj:j-L.length=0:=by
        cases e:j-L.length with
        |zero=>rfl
        |succ m=>rw[e]at z;cases z
      rw[hj]at z
      exact .inl ⟨by omega,(YF z).symm⟩
  have ne:∀(j:Nat)(c:Addr×HO),L[j]? =some c->c.1≠a:=fun j c z q=>by have:=hc.at_ j c z;rw[q,n]at this;cases this
  refine⟨fun j c z=>?_,fun j k c d z y q=>?_⟩
  · rcases old j c z with ⟨_,rfl⟩ | z
    · exact upd_same
    · rw[upd_ne (ne j c z)];exact hc.at_ j c z
  · rcases old j c z with ⟨n1,rfl⟩ | z <;> rcases old k d y with ⟨n2,rfl⟩ | y
    · rw[n1,n2]
    · exact absurd q.symm (ne k d y)
    · exact absurd q (ne j c z)
    · exact hc.ap j k c d z y q
open PyProof.Rows in
structure RS where
  (ps:List PS) (ow:List (Key×V)) (bo:List Int) (sa he:List (List Int)) (ev:List (Nat×Nat×Str))
/-- what happened:tuples of a turn,a post,a word -/
inductive EvsAt (H:Hp):List V->List (Nat×Nat×Str)->Prop
  |nil:EvsAt H [] []
  |cons {t:Addr} {e:Nat×Nat×Str} {vs:List V} {es:List (Nat×Nat×Str)}:H t=some (.tup [.int ((e.1:Nat):Int),.int ((e.2.1:Nat):Int),.str e.2.2])->EvsAt H vs es->EvsAt H (.ref t::vs) (e::es)
theorem EvsAt.imp {H H':Hp}(g:∀x xs,H x=some (.tup xs)->H' x=some (.tup xs)):∀{vs:List V}{es:List (Nat×Nat×Str)},EvsAt H vs es->EvsAt H' vs es
  |_,_,.nil=> .nil
  |_,_,.cons a r=> .cons (g _ _ a) (r.imp g)
abbrev rF (PL OW BO SA HE EV:Addr):List (Str×V):=[("posts",.ref PL),("owners",.ref OW),("borne",.ref BO),("sayings",.ref SA),("hearings",.ref HE),("happened",.ref EV)]
def lsC (as:List Addr)(xs:List (List Int)):List (Addr×HO):=List.zipWith (fun a x=>(a,HO.lst (x.map V.int))) as xs
/-- where a rail's things stand -/
structure Rw where
  (dx PL OW BO SA HE EV:Addr) (ps sas hes:List Addr) (evs:List V) (op:Own)
abbrev railL (C r:Addr)(w:Rw)(R:RS):List (Addr×HO):=(r,.ins C w.dx (rF w.PL w.OW w.BO w.SA w.HE w.EV))::(w.PL,.lst (w.ps.map V.ref))::(w.OW,.dK R.ow)::(w.BO,.lst (R.bo.map V.int))::(w.SA,.lst (w.sas.map V.ref))::(w.HE,.lst (w.hes.map V.ref))::(w.EV,.lst w.evs)::(lsC w.sas R.sa++lsC w.hes R.he)
structure RlAt (C:Addr)(A:Cs)(H:Hp)(r:Addr)(R:RS)(o:Own)(w:Rw):Prop where
  cs:CellsAt H (railL C r w R)
  po:PsAt A H w.ps R.ps w.op
  ev:EvsAt H w.evs R.ev
  l1:w.sas.length=R.ps.length
  l2:R.sa.length=R.ps.length
  l3:w.hes.length=R.ps.length
  l4:R.he.length=R.ps.length
  lp:R.ps.length<=5
  dj:∀x,w.op x->∀(j:Nat)(c:Addr×HO),(railL C r w R)[j]? =some c->c.1≠x
  inc:∀x,(w.op x\/∃(j:Nat)(c:Addr×HO),(railL C r w R)[j]? =some c/\c.1=x)->o x
  al:∀x,o x->H x≠none
def RailAt (C:Addr)(A:Cs)(H:Hp)(r:Addr)(R:RS)(o:Own):Prop:=∃w,RlAt C A H r R o w
section
variable {C:Addr}{A:Cs}{H H':Hp}{r:Addr}{R:RS}{o:Own}{w:Rw}
theorem RlAt.move (h:RlAt C A H r R o w)(g:∀x v,H x=some v->(o x\/isT v)->H' x=some v):RlAt C A H' r R o w:=
  ⟨h.cs.keep fun j c z=>g _ _ (h.cs.at_ j c z) (.inl (h.inc _ (.inr ⟨j,c,z,rfl⟩))),h.po.move fun x v e z=>g x v e (z.imp_left fun y=>h.inc x (.inl y)),h.ev.imp fun x xs e=>g x _ e (.inr ⟨_,rfl⟩),h.l1,h.l2,h.l3,h.l4,h.lp,h.dj,h.inc,fun x hx=>by
    cases e:H x with
    |none=>exact absurd e (h.al x hx)
    |some v=>rw[g x v e (.inl hx)];simp⟩
theorem RlAt.same (h:RlAt C A H r R o w)(g:Same H H'):RlAt C A H' r R o w:=h.move fun x v e _=>g x v e
theorem RlAt.er (h:RlAt C A H r R o w):H r=some (.ins C w.dx (rF w.PL w.OW w.BO w.SA w.HE w.EV)):=h.cs.at_ 0 _ rfl
theorem RlAt.ePL (h:RlAt C A H r R o w):H w.PL=some (.lst (w.ps.map V.ref)):=h.cs.at_ 1 _ rfl
theorem RlAt.eOW (h:RlAt C A H r R o w):H w.OW=some (.dK R.ow):=h.cs.at_ 2 _ rfl
theorem RlAt.eHE (h:RlAt C A H r R o w):H w.HE=some (.lst (w.hes.map V.ref)):=h.cs.at_ 5 _ rfl
theorem RlAt.pl (h:RlAt C A H r R o w):w.ps.length=R.ps.length:=h.po.len
theorem RlAt.at (h:RlAt C A H r R o w){i:Nat}{S:PS}(hi:R.ps[i]? =some S):∃p oi,w.ps[i]? =some p/\PostAt A H p S oi:=by
  have hl:i<w.ps.length:=by rw[h.pl];exact(Yb.mp hi).1
  have hp:w.ps[i]? =some w.ps[i]:=Yd hl
  obtain⟨S',oi,e,hP,_⟩:=h.po.get hp
  rw[hi]at e
  cases e
  exact⟨_,oi,hp,hP⟩
end
theorem set_adr {L:List (Addr×HO)}{k j:Nat}{a:Addr}{v v':HO}{c:Addr×HO}(e:L[k]? =some (a,v))(h:(L.set k (a,v'))[j]? =some c):∃c',L[j]? =some c'/\c'.1=c.1:=by
  have hk:k<L.length:=(Yb.mp e).1
  rw[Xm]at h
  by_cases q:k=j
  · rw[if_pos q,if_pos hk]at h
    cases h
    exact⟨(a,v),q▸e,rfl⟩
  · rw[if_neg q]at h
    exact⟨c,h,rfl⟩
/-- one of a rail's cells is written -/
theorem RlAt.put {C:Addr}{A:Cs}{H:Hp}{r:Addr}{R R':RS}{o:Own}{w w':Rw}{k:Nat}{a:Addr}{v v':HO}(h:RlAt C A H r R o w)(e:(railL C r w R)[k]? =some (a,v))(nT:¬ isT v)(eL:railL C r w' R'=(railL C r w R).set k (a,v'))(ep:R'.ps=R.ps)(e1:w'.ps=w.ps)(e2:w'.op=w.op)(e3:w'.sas.length=w.sas.length)(e4:R'.sa.length=R.sa.length)(e5:w'.hes.length=w.hes.length)(e6:R'.he.length=R.he.length)(ev:EvsAt H w'.evs R'.ev):RlAt C A (upd H a v') r R' o w'/\Mv o H o (upd H a v'):=by
  have ea:=h.cs.at_ k _ e
  have oa:o a:=h.inc a (.inr ⟨k,_,e,rfl⟩)
  have kT:∀x u,H x=some u->isT u->upd H a v' x=some u:=fun x u eu t=>by
    rw[upd_ne]
    · exact eu
    · rintro rfl
      rw[ea]at eu
      cases eu
      exact nT t
  refine⟨⟨eL▸h.cs.put e v',?_,ev.imp fun x xs ex=>kT x _ ex ⟨_,rfl⟩,by rw[e3,ep];exact h.l1,by rw[e4,ep];exact h.l2,by rw[e5,ep];exact h.l3,by rw[e6,ep];exact h.l4,by rw[ep];exact h.lp,?_,?_,?_⟩,mv_put ea oa nT⟩
  · rw[e1,e2,ep]
    refine h.po.move fun x u eu z=>?_
    rcases z with z | z
    · rw[upd_ne fun q=>h.dj x z k _ e q.symm];exact eu
    · exact kT x u eu z
  · rw[e2,eL]
    intro x hx j c hc q
    obtain⟨c',h1,h2⟩:=set_adr e hc
    exact h.dj x hx j c' h1 (h2.trans q)
  · rw [e2,eL]
    rintro x (hx | ⟨j,c,hc,q⟩)
    · exact h.inc x (.inl hx)
    · obtain⟨c',h1,h2⟩:=set_adr e hc
      exact h.inc x (.inr ⟨j,c',h1,h2.trans q⟩)
  · intro x hx
    by_cases q:x=a
    · rw[q,upd_same];simp
    · rw[upd_ne q];exact h.al x hx
/-- one of a rail's posts moves -/
theorem RlAt.step {C:Addr}{A:Cs}{H:Hp}{r:Addr}{R:RS}{o:Own}{w:Rw}{i:Nat}{p:Addr}(h:RlAt C A H r R o w)(hp:w.ps[i]? =some p):∃S oi,R.ps[i]? =some S/\PostAt A H p S oi/\(∀x,oi x->o x)/\∀H' oi' S',Mv oi H oi' H'->PostAt A H' p S' oi'->∃o' op',RlAt C A H' r { R with ps:=R.ps.set i S' } o' { w with op:=op' }/\Mv o H o' H':=by
  obtain⟨S,oi,eS,hP,le,back⟩:=h.po.get hp
  refine⟨S,oi,eS,hP,fun x hx=>h.inc x (.inl (le x hx)),fun H' oi' S' m hP'=>?_⟩
  obtain⟨op',po',m'⟩:=back H' oi' S' m hP'
  have nop:∀(j:Nat)(c:Addr×HO),(railL C r w R)[j]? =some c->¬ w.op c.1:=fun j c hc z=>h.dj _ z j c hc rfl
  have len:(R.ps.set i S').length=R.ps.length:=XI
  have ko:Keep o H H':=fun x v e z=>m'.1 x v e (z.imp_left fun y q=>y (h.inc x (.inl q)))
  refine⟨Or2 (fun x=>o x/\¬ w.op x) op',op',⟨h.cs.keep fun j c hc=>m'.1 _ _ (h.cs.at_ j c hc) (.inl (nop j c hc)),po',h.ev.imp fun x xs e=>m'.1 x _ e (.inr ⟨_,rfl⟩),h.l1.trans len.symm,h.l2.trans len.symm,h.l3.trans len.symm,h.l4.trans len.symm,by show (R.ps.set i S').length<=5;rw[len];exact h.lp,?_,?_,?_⟩,ko,?_⟩
  · intro x hx j c hc q
    rcases m'.2 x hx with z | z
    · exact h.dj x z j c hc q
    · have:=h.cs.at_ j c hc
      rw[q,z]at this
      cases this
  · rintro x (hx | ⟨j,c,hc,q⟩)
    · exact .inr hx
    · exact .inl ⟨h.inc x (.inr ⟨j,c,hc,q⟩),q▸nop j c hc⟩
  · rintro x (hx | hx)
    · cases e:H x with
      |none=>exact absurd e (h.al x hx.1)
      |some v=>rw[m'.1 x v e (.inl hx.2)];simp
    · exact po'.al x hx
  · rintro x (hx | hx)
    · exact .inl hx.1
    · exact(m'.2 x hx).imp (fun z=>h.inc x (.inl z)) id
theorem sq_updD {K:W.Frag}{H:Hp}{a b:Addr}{xs:List V}{m:List ((Int ⊕ Str)×V)}{v:HO}(h:SqL K H a xs)(e:H b=some (.dK m)):SqL K (upd H b v) a xs:=by
  rcases h with (h | ⟨o,h⟩) | h
  · exact .inl (.inl ((upd_ne fun q=>by rw[q,e]at h;cases h).trans h))
  · exact .inl (.inr ⟨o,(upd_ne fun q=>by rw[q,e]at h;cases h).trans h⟩)
  · exact .inr h
theorem notTD {m:List ((Int ⊕ Str)×V)}:¬ isT (.dK m):=fun ⟨_,z⟩=>by cases z
theorem lsC_at {as:List Addr}{xs:List (List Int)}{i:Nat}{a:Addr}{x:List Int}(ha:as[i]? =some a)(hx:xs[i]? =some x):(lsC as xs)[i]? =some (a,HO.lst (x.map V.int)):=by
  unfold lsC
  rw[Xk,ha,hx]
theorem lsC_len {as:List Addr}{xs:List (List Int)}(h:as.length=xs.length):(lsC as xs).length=xs.length:=by
  unfold lsC
  rw[List.length_zipWith,h,Nat.min_self]
theorem RlAt.sa_at {C:Addr}{A:Cs}{H:Hp}{r:Addr}{R:RS}{o:Own}{w:Rw}{i:Nat}{xs:List Int}(h:RlAt C A H r R o w)(hi:R.sa[i]? =some xs):∃a,w.sas[i]? =some a/\(railL C r w R)[i+7]? =some (a,.lst (xs.map V.int)):=by
  have hl:i<R.sa.length:=(Yb.mp hi).1
  have e1:=h.l1
  have e2:=h.l2
  have ha:w.sas[i]? =some (w.sas[i]'(by omega)):=Yd (by omega)
  refine⟨_,ha,?_⟩
  show (lsC w.sas R.sa++lsC w.hes R.he)[i]? =_
  rw[YQ (by rw[lsC_len (by omega)];exact hl)]
  exact lsC_at ha hi
theorem RlAt.he_at {C:Addr}{A:Cs}{H:Hp}{r:Addr}{R:RS}{o:Own}{w:Rw}{i:Nat}{xs:List Int}(h:RlAt C A H r R o w)(hi:R.he[i]? =some xs):∃a,w.hes[i]? =some a/\(railL C r w R)[R.ps.length+i+7]? =some (a,.lst (xs.map V.int)):=by
  have hl:i<R.he.length:=(Yb.mp hi).1
  have e1:=h.l1
  have e2:=h.l2
  have e3:=h.l3
  have e4:=h.l4
  have ha:w.hes[i]? =some (w.hes[i]'(by omega)):=Yd (by omega)
  refine⟨_,ha,?_⟩
  show (lsC w.sas R.sa++lsC w.hes R.he)[R.ps.length+i]? =_
  have ll:=lsC_len (as:=w.sas) (xs:=R.sa) (by omega)
  rw[YV (by omega),show R.ps.length+i-(lsC w.sas R.sa).length=i by omega]
  exact lsC_at ha hi
def spRlPost (C:Addr)(A:Cs)(NP:Addr):Sp:=fun vs H Q E=>∃r R o w k,vs= [.ref r,.int k]/\RlAt C A H r R o w/\(∀(i:Nat) p,k=((i:Nat):Int)->w.ps[i]? =some p->Q (.ref p) H)/\(¬ (0<=k/\k<((R.ps.length:Nat):Int))->∀H',Same H H'->E (.ref NP) none H')
def spRlHand (K:W.Frag)(C:Addr)(A:Cs)(NP NF NN:Addr):Sp:=fun vs H Q E=>∃r R o w k n a ds,vs= [.ref r,.int k,.int n,.ref a]/\RlAt C A H r R o w/\SqL K H a (ds.map V.int)/\ds.length<=500/\R.ow.length<=900/\(∀S∈R.ps,S.wt.length<900)/\
  (¬ (0<=k/\k<((R.ps.length:Nat):Int))->∀H',Same H H'->E (.ref NP) none H')/\((0<=k/\k<((R.ps.length:Nat):Int))->¬ FrOk n ds->∀H',Same H H'->E (.ref NF) none H')/\
  (∀ (i:Nat) S,k=((i:Nat):Int)->R.ps[i]? =some S->FrOk n ds->∃j:Int,(valV R.ow (.inl n)).getD (.int ((i:Nat):Int))= .int j/\(j≠((i:Nat):Int)->∀H',Same H H'->E (.ref NN) none H')/\
    (j=((i:Nat):Int)->∀H' o',RailAt C A H' r { R with ps:=R.ps.set i { S with wt:=S.wt++[(n.toNat,ds)] },ow:=putK R.ow (.inl n) (.int ((i:Nat):Int)) } o'->Mv o H o' H'->Q .non H'))
/-! ### a turn of a rail -/
def evt (t n:Nat)(w:Str):List (Nat×Nat×Str):=if w="" then [] else [(t,n,w)]
/-- a post heard b -/
def oneP (R R':RS)(n:Nat)(S:PS)(b:Int)(x y:List Int):RS:=
  { R' with ps:=R'.ps.set n (hearP S b).2,sa:=R'.sa.set n (x++[saysP S]),he:=R'.he.set n (y++[b]),ev:=R'.ev++evt R.bo.length n (hearP S b).1 }
/-- a turn's first n posts have heard -/
def halfP (R:RS)(hs:List Int):Nat->RS
  |0=>R
  | n+1=>match R.ps[n]?,hs[n]?,R.sa[n]?,R.he[n]? with
    |some S,some b,some x,some y=>oneP R (halfP R hs n) n S b x y
    |_,_,_,_=>halfP R hs n
theorem halfP_succ {R:RS}{hs:List Int}{n:Nat}{S:PS}{b:Int}{x y:List Int}(e1:R.ps[n]? =some S)(e2:hs[n]? =some b)(e3:R.sa[n]? =some x)(e4:R.he[n]? =some y):halfP R hs (n+1)=oneP R (halfP R hs n) n S b x y:=by
  show (match R.ps[n]?,hs[n]?,R.sa[n]?,R.he[n]? with
    |some S,some b,some x,some y=>oneP R (halfP R hs n) n S b x y
    |_,_,_,_=>halfP R hs n)=_
  rw[e1,e2,e3,e4]
theorem halfP_go (R:RS)(hs:List Int):∀n:Nat,(halfP R hs n).bo=R.bo/\(halfP R hs n).ow=R.ow/\(halfP R hs n).ps.length=R.ps.length/\(halfP R hs n).sa.length=R.sa.length/\(halfP R hs n).he.length=R.he.length/\(∀j,n<=j->(halfP R hs n).ps[j]? =R.ps[j]?/\(halfP R hs n).sa[j]? =R.sa[j]?/\(halfP R hs n).he[j]? =R.he[j]?)/\(halfP R hs n).ev.length<=R.ev.length+n
  |0=>⟨rfl,rfl,rfl,rfl,rfl,fun _ _=>⟨rfl,rfl,rfl⟩,Yc _⟩
  | n + 1 => by
    obtain⟨h1,h2,h3,h4,h5,h6,h7⟩:=halfP_go R hs n
    have go :(halfP R hs (n+1)=halfP R hs n)\/∃S b x y,halfP R hs (n+1)=oneP R (halfP R hs n) n S b x y:=by
      cases e1:R.ps[n]? with
      |none=>left;show (match R.ps[n]?,hs[n]?,R.sa[n]?,R.he[n]? with | some S,some b,some x,some y=>oneP R (halfP R hs n) n S b x y | _,_,_,_=>halfP R hs n)=_;rw[e1]
      | some S=>
        cases e2:hs[n]? with
        |none=>left;show (match R.ps[n]?,hs[n]?,R.sa[n]?,R.he[n]? with | some S,some b,some x,some y=>oneP R (halfP R hs n) n S b x y | _,_,_,_=>halfP R hs n)=_;rw[e1,e2]
        | some b=>
          cases e3:R.sa[n]? with
          |none=>left;show (match R.ps[n]?,hs[n]?,R.sa[n]?,R.he[n]? with | some S,some b,some x,some y=>oneP R (halfP R hs n) n S b x y | _,_,_,_=>halfP R hs n)=_;rw[e1,e2,e3]
          | some x=>
            cases e4:R.he[n]? with
            |none=>left;show (match R.ps[n]?,hs[n]?,R.sa[n]?,R.he[n]? with | some S,some b,some x,some y=>oneP R (halfP R hs n) n S b x y | _,_,_,_=>halfP R hs n)=_;rw[e1,e2,e3,e4]
            |some y=>exact .inr ⟨S,b,x,y,halfP_succ e1 e2 e3 e4⟩
    rcases go with e | ⟨S,b,x,y,e⟩
    · rw[e];exact⟨h1,h2,h3,h4,h5,fun j hj=>h6 j (by omega),by omega⟩
    · rw [e]
      refine⟨h1,h2,?_,?_,?_,fun j hj=>⟨?_,?_,?_⟩,?_⟩
      · show ((halfP R hs n).ps.set n _).length=_;rw[XI];exact h3
      · show ((halfP R hs n).sa.set n _).length=_;rw[XI];exact h4
      · show ((halfP R hs n).he.set n _).length=_;rw[XI];exact h5
      · show ((halfP R hs n).ps.set n _)[j]? =_;rw[Xc (by omega)];exact(h6 j (by omega)).1
      · show ((halfP R hs n).sa.set n _)[j]? =_;rw[Xc (by omega)];exact(h6 j (by omega)).2.1
      · show ((halfP R hs n).he.set n _)[j]? =_;rw[Xc (by omega)];exact(h6 j (by omega)).2.2
      · show ((halfP R hs n).ev++evt _ _ _).length<=_
        rw[Yj]
        have:(evt R.bo.length n (hearP S b).1).length<=1:=by unfold evt;split <;> simp
        omega
/-! ### a rail is made -/
theorem ins_old {L1 L2:List (Addr×HO)}{c0 c:Addr×HO}{j:Nat}(z:(L1++c0::L2)[j]? =some c):(j=L1.length/\c=c0)\/(j<L1.length/\(L1++L2)[j]? =some c)\/(L1.length<j/\(L1++L2)[j-1]? =some c):=by
  by_cases k:j<L1.length
  · rw[YQ k]at z
    exact .inr (.inl ⟨k,by rw[YQ k];exact z⟩)
  · rw[YV (by omega)]at z
    cases e:j-L1.length with
    |zero=>rw[e]at z;exact .inl ⟨by omega,(YF z).symm⟩
    |succ m=>rw[e]at z;exact .inr (.inr ⟨by omega,by rw[YV (by omega),show j-1-L1.length=m by omega];exact z⟩)
theorem CellsAt.ins {H:Hp}{L1 L2:List (Addr×HO)}{a:Addr}{h:HO}(hc:CellsAt H (L1++L2))(n:H a=none):CellsAt (upd H a h) (L1++(a,h)::L2):=by
  have ne:∀(j:Nat)(c:Addr×HO),(L1++L2)[j]? =some c->c.1≠a:=fun j c z q=>by have:=hc.at_ j c z;rw[q,n]at this;cases this
  refine⟨fun j c z=>?_,fun j k c d z y q=>?_⟩
  · rcases ins_old z with ⟨_,rfl⟩ | ⟨_,z⟩ | ⟨_,z⟩
    · exact upd_same
    · rw[upd_ne (ne _ c z)];exact hc.at_ _ c z
    · rw[upd_ne (ne _ c z)];exact hc.at_ _ c z
  · rcases ins_old z with ⟨n1,rfl⟩ | ⟨n1,z⟩ | ⟨n1,z⟩ <;> rcases ins_old y with ⟨n2,rfl⟩ | ⟨n2,y⟩ | ⟨n2,y⟩
    · omega
    · exact absurd q.symm (ne _ d y)
    · exact absurd q.symm (ne _ d y)
    · exact absurd q (ne _ c z)
    · exact hc.ap _ _ c d z y q
    · have:=hc.ap _ _ c d z y q;omega
    · exact absurd q (ne _ c z)
    · have:=hc.ap _ _ c d z y q;omega
    · have:=hc.ap _ _ c d z y q;omega
/-- a rail that is being made at a since H0:its cells L,its posts -/
structure Mk0 (A:Cs)(H0:Hp)(a:Addr)(H:Hp)(L:List (Addr×HO))(ps:List Addr)(Ss:List PS)(op:Own):Prop where
  cs:CellsAt H L
  po:PsAt A H ps Ss op
  dj:∀x,op x->∀(j:Nat)(c:Addr×HO),L[j]? =some c->c.1≠x
  nw:∀(j:Nat)(c:Addr×HO),L[j]? =some c->c.1=a\/H0 c.1=none
  npo:∀x,op x->H0 x=none
  kp:∀x u,x≠a->H0 x=some u->H x=some u
  ha:H a≠none
theorem one_at {c0 c:Addr×HO}{j:Nat}(z:[c0][j]? =some c):j=0/\c=c0:=by
  cases j with
  |zero=>exact⟨rfl,(YF z).symm⟩
  |succ j=>cases z
theorem Mk0.base {A:Cs}{H:Hp}{a:Addr}{v:HO}(e:H a=some v):Mk0 A H a H [(a,v)] [] [] (fun _=>False):=by
  refine⟨⟨fun j c z=>?_,fun i j c d z y q=>?_⟩,fun x hx=>hx.elim,fun x hx=>hx.elim,fun j c z=>?_,fun x hx=>hx.elim,fun x u _ q=>q,by rw[e];simp⟩
  · obtain⟨_,rfl⟩:=one_at z
    exact e
  · rw[(one_at z).1,(one_at y).1]
  · obtain⟨_,rfl⟩:=one_at z
    exact .inl rfl
section
variable {A:Cs}{H0 H H':Hp}{a q:Addr}{L L1 L2:List (Addr×HO)}{ps:List Addr}{Ss:List PS}{op:Own}{v v':HO}
theorem Mk0.non0 (h:Mk0 A H0 a H L ps Ss op)(n:H q=none):H0 q=none:=by
  cases e:H0 q with
  |none=>rfl
  | some u=>
    by_cases z:q=a
    · exact absurd (z▸n) h.ha
    · rw[h.kp q u z e]at n;cases n
theorem Mk0.ins (h:Mk0 A H0 a H (L1++L2) ps Ss op)(n:H q=none):Mk0 A H0 a (upd H q v) (L1++(q,v)::L2) ps Ss op:=by
  have nq:=h.non0 n
  refine⟨h.cs.ins n,h.po.same (same_new n v),fun x hx j c z y=>?_,fun j c z=>?_,h.npo,fun x u hx e=>?_,?_⟩
  · rcases ins_old z with ⟨_,rfl⟩ | ⟨_,z⟩ | ⟨_,z⟩
    · exact h.po.al x hx (y▸n)
    · exact h.dj x hx _ c z y
    · exact h.dj x hx _ c z y
  · rcases ins_old z with ⟨_,rfl⟩ | ⟨_,z⟩ | ⟨_,z⟩
    · exact .inr nq
    · exact h.nw _ c z
    · exact h.nw _ c z
  · exact same_new n v _ _ (h.kp x u hx e)
  · have:=h.ha
    cases e:H a with
    |none=>exact absurd e this
    |some u=>rw[same_new n v _ _ e];simp
theorem Mk0.put (h:Mk0 A H0 a H ((a,v)::L) ps Ss op)(nT:¬ isT v):Mk0 A H0 a (upd H a v') ((a,v')::L) ps Ss op:=by
  have e:H a=some v:=h.cs.at_ 0 _ rfl
  have old:∀(j:Nat)(c:Addr×HO),((a,v')::L)[j]? =some c->∃c',((a,v)::L)[j]? =some c'/\c'.1=c.1:=fun j c z=>by
    cases j with
    |zero=>cases z;exact⟨_,rfl,rfl⟩
    |succ j=>exact⟨c,z,rfl⟩
  refine⟨h.cs.put (i:=0) rfl v',h.po.move fun x u eu z=>?_,fun x hx j c z y=>?_,fun j c z=>?_,h.npo,fun x u hx eu=>?_,by rw[upd_same];simp⟩
  · rw [upd_ne fun y=>?_]
    · exact eu
    · rcases z with z | z
      · exact h.dj x z 0 _ rfl y.symm
      · rw[y,e]at eu;cases eu;exact nT z
  · obtain⟨c',z1,z2⟩:=old j c z
    exact h.dj x hx j c' z1 (z2.trans y)
  · obtain⟨c',z1,z2⟩:=old j c z
    rw[<-z2]
    exact h.nw j c' z1
  · rw[upd_ne hx];exact h.kp x u hx eu
/-- one more post -/
theorem Mk0.post {p dp:Addr}{w:HO}{S:PS}{o:Own}(h:Mk0 A H0 a H L ps Ss op)(hp:H p=none)(hdp:H dp=none)(hP:PostAt A H' p S o)(hin:∀x,o x->x=p\/upd (upd H dp (.own p)) p w x=none)(hk:∀x u,x≠p->upd (upd H dp (.own p)) p w x=some u->H' x=some u):Mk0 A H0 a H' L (ps++[p]) (Ss++[S]) (Or2 op o):=by
  obtain⟨lw,g⟩:=post_lw (Same.refl H) hp hdp hP hin hk
  have no:∀x,o x->H x=none:=fun x hx=>lw.fr x hx
  refine⟨h.cs.same g,h.po.snoc hP g no,fun x hx j c z y=>?_,h.nw,fun x hx=>?_,fun x u hx e=>g _ _ (h.kp x u hx e),?_⟩
  · rcases hx with hx | hx
    · exact h.dj x hx j c z y
    · have:=h.cs.at_ j c z
      rw[y,no x hx]at this;cases this
  · rcases hx with hx | hx
    · exact h.npo x hx
    · exact h.non0 (no x hx)
  · have:=h.ha
    cases e:H a with
    |none=>exact absurd e this
    |some u=>rw[g _ _ e];simp
end
theorem lsC_snoc {as:List Addr}{q:Addr}(n:Nat)(h:as.length=n):lsC (as++[q]) (List.replicate (n+1) [])=lsC as (List.replicate n [])++[(q,.lst [])]:=by
  unfold lsC
  rw[List.replicate_succ',List.zipWith_append (by rw[XC];exact h)]
  rfl
def R0 (ms:List (Int×Int))(v:Int):RS:={ ps:=ms.map fun m=>S0 m.1.toNat m.2.toNat v.toNat,ow:=[],bo:=[],sa:=List.replicate ms.length [],he:=List.replicate ms.length [],ev:=[] }
theorem Mk0.fin {C:Addr}{A:Cs}{H0 H:Hp}{a dx PL OW BO SA HE EV:Addr}{ps sas hes:List Addr}{op:Own}{ms:List (Int×Int)}{v:Int}(h:Mk0 A H0 a H (railL C a ⟨dx,PL,OW,BO,SA,HE,EV,ps,sas,hes, [],op⟩ (R0 ms v)) ps (R0 ms v).ps op)(l1:sas.length=ms.length)(l2:hes.length=ms.length)(l5:ms.length<=5):∃o,RailAt C A H a (R0 ms v) o/\∀x,o x->x=a\/H0 x=none:=by
  have lp:(R0 ms v).ps.length=ms.length:=Ya ..
  refine⟨fun x=>op x\/∃(j:Nat)(c:Addr×HO),(railL C a ⟨dx,PL,OW,BO,SA,HE,EV,ps,sas,hes, [],op⟩ (R0 ms v))[j]? =some c/\c.1=x,⟨_,h.cs,h.po,.nil,by rw[lp];exact l1,by rw[lp];exact XC ..,by rw[lp];exact l2,by rw[lp];exact XC ..,by rw[lp];exact l5,h.dj,fun x hx=>hx,fun x hx=>?_⟩,fun x hx=>?_⟩
  · rcases hx with hx | ⟨j,c,z,rfl⟩
    · exact h.po.al x hx
    · rw[h.cs.at_ j c z];simp
  · rcases hx with hx | ⟨j,c,z,rfl⟩
    · exact .inr (h.npo x hx)
    · exact h.nw j c z
/-- choices:tuples of two numbers -/
def ChsAt (H:Hp)(cl:Addr)(ms:List (Int×Int)):Prop:=∃ts:List Addr,H cl=some (.lst (ts.map V.ref))/\ts.length=ms.length/\∀(i:Nat)(t:Addr)(m:Int×Int),ts[i]? =some t->ms[i]? =some m->H t=some (.tup [.int m.1,.int m.2])
def spRlInit (C:Addr)(A:Cs)(NP:Addr):Sp:=fun vs H Q E=>∃a dx cl v ms,vs= [.ref a,.ref cl,.int v]/\H a=some (.ins C dx [])/\ChsAt H cl ms/\ms.length<=500/\
  (((1<=ms.length/\ms.length<=5)/\∀m∈ms,PoOk m.1 m.2 v)->∀H' o,RailAt C A H' a (R0 ms v) o->(∀x,o x->x=a\/H x=none)->(∀x u,x≠a->H x=some u->H' x=some u)->Q .non H')/\
  (¬ ((1<=ms.length/\ms.length<=5)/\∀m∈ms,PoOk m.1 m.2 v)->∀H',(∀x u,x≠a->H x=some u->H' x=some u)->E (.ref NP) none H')
/-! queries of a rail,of any number -/
def spAskE (C:Addr)(A:Cs)(NP:Addr)(g:PS->Hp->VK->Prop):Sp:=fun vs H Q E=>∃r R o w k,vs= [.ref r,.int k]/\RlAt C A H r R o w/\(∀(i:Nat) S,k=((i:Nat):Int)->R.ps[i]? =some S->g S H Q)/\(¬ (0<=k/\k<((R.ps.length:Nat):Int))->∀H',Same H H'->E (.ref NP) none H')
def spAskL (C:Addr)(A:Cs)(NP:Addr)(g:RS->List (List Int)):Sp:=fun vs H Q E=>∃r R o w k,vs= [.ref r,.int k]/\RlAt C A H r R o w/\(∀(i:Nat) xs,k=((i:Nat):Int)->(g R)[i]? =some xs->∀l,H l=none->Q (.ref l) (upd H l (.lst (xs.map V.int))))/\(¬ (0<=k/\k<((R.ps.length:Nat):Int))->∀H',Same H H'->E (.ref NP) none H')
def gStance:PS->Hp->VK->Prop:=fun S H Q=>∃k,S.now= .free k/\∀t H',H t=none->Same H H'->H' t=some (.tup [.str "free",.int ((k:Nat):Int)])->Q (.ref t) H'
def gN:PS->Hp->VK->Prop:=fun S H Q=>Q (.int S.tot) H
def gB (lim:Int):PS->Hp->VK->Prop:=fun S H Q=>Q (.bl (decide (lim<=S.tot))) H
def gWaits:PS->Hp->VK->Prop:=fun S H Q=>S.wt.length<=900/\∀l xs H',H l=none->Same H H'->H' l=some (.lst xs)->FrsNew H H' xs S.wt->Q (.ref l) H'
def gGot:PS->Hp->VK->Prop:=fun S H Q=>S.up.length<=900/\∀l xs H',H l=none->Same H H'->H' l=some (.lst xs)->FrsNew H H' xs S.up->Q (.ref l) H'
open Bm
def TgOk (g:Int)(th:List Int):Prop:=byt g=true/\th.length<=75/\th.all byt=true
def nP (th:List Int):Nat:=max 1 ((th.length+4) / 5)
def pc (g:Int)(n k:Nat)(th:List Int):List Int:=[g,16*((n:Nat):Int)+((k:Nat):Int)]++(th.drop (5*k)).take 5
theorem pc_len (g:Int)(n k:Nat)(th:List Int):(pc g n k th).length<=7:=by
  unfold pc
  rw[Yj,YC]
  show 2+_<=7
  omega
def spChkT (K:W.Frag)(C:Addr):Sp:=fun vs H Q E=>∃(g:Int)(a:Addr)(th:List Int),vs= [.int g,.ref a]/\SqL K H a (th.map V.int)/\th.length<=500/\(TgOk g th->∀H',Same H H'->Q .non H')/\(¬ TgOk g th->∀H',Same H H'->E (.ref C) none H')
def spPiece (K:W.Frag):Sp:=fun vs H Q _=>∃(g:Int)(n k:Nat)(a:Addr)(th:List Int),vs= [.int g,.int n,.int k,.ref a]/\SqL K H a (th.map V.int)/\th.length<=500/\n<=500/\k<=500/\∀p H',H p=none->Same H H'->H' p=some (.lst ((pc g n k th).map V.int))->Q (.ref p) H'
/-- the pieces stand at qs -/
def Pcs (H:Hp)(g:Int)(n:Nat)(th:List Int)(qs:List Addr):Prop:=∀(k:Nat)(q:Addr),qs[k]? =some q->H q=some (.lst ((pc g n k th).map V.int))
theorem Pcs.same {H H':Hp}{g:Int}{n:Nat}{th:List Int}{qs:List Addr}(h:Pcs H g n th qs)(s:Same H H'):Pcs H' g n th qs:=fun k q e=>s _ _ (h k q e)
def spCut (K:W.Frag)(C:Addr):Sp:=fun vs H Q E=>∃(g:Int)(a:Addr)(th:List Int),vs= [.int g,.ref a]/\SqL K H a (th.map V.int)/\th.length<=500/\
  (TgOk g th->∀p qs H',H p=none->(∀q∈qs,H q=none)->qs.Nodup->p∉qs->Same H H'->H' p=some (.lst (qs.map V.ref))->qs.length=nP th->Pcs H' g (nP th) th qs->Q (.ref p) H')/\(¬ TgOk g th->∀H',Same H H'->E (.ref C) none H')
theorem not_tg {g:Int}{th:List Int}(h:¬ byt g=true\/75<th.length\/∃d∈th,¬ byt d=true):¬ TgOk g th:=fun ⟨h1,h2,h3⟩=>by
  rcases h with h | h | ⟨d,hd,h⟩
  · exact h h1
  · omega
  · exact h (Yu.mp h3 d hd)
theorem size5 (n:Nat):Builtin.Range.rangeSize 0 ((n:Nat):Int) 5=(((n+4) / 5:Nat):Int):=by
  unfold Builtin.Range.rangeSize
  rw[if_pos (by decide)]
  split
  · omega
  · omega
theorem nP_le {th:List Int}(h:th.length<=500):nP th<=101:=by unfold nP;omega

open Bm
/-- the last k figures of n -/
def fg:Nat->Nat->List Nat
  |0,_=>[]
  |k+1,n=>fg k (n / 10)++[48+n % 10]
theorem fg_len:∀k n,(fg k n).length=k
  |0,_=>rfl
  |k+1,n=>by show (fg k (n / 10)++[_]).length=_;rw[Yj,fg_len k];rfl
theorem fg_dig:∀k n,∀c∈fg k n,48<=c/\c<=57
  |0,_,_,h=>by cases h
  | k+1,n,c,h=>by
    rcases YG.mp h with z | z
    · exact fg_dig k _ c z
    · rw[Yg.mp z];omega
theorem fg_zero:∀k,fg k 0=List.replicate k 48
  |0=>rfl
  |k+1=>by show fg k (0 / 10)++[48+0 % 10]=_;rw[Nat.zero_div,fg_zero k,List.replicate_succ']
abbrev dgs (m:Nat):List Nat:=(Nat.toDigits 10 m).map Char.toNat
theorem digit_48:∀d:Nat,d<10->(Nat.digitChar d).toNat=48+d:=by decide
theorem dgs_lo {m:Nat}(h:m<10):dgs m= [48+m]:=by
  unfold dgs
  rw[Nat.toDigits_of_lt_base h]
  show [(Nat.digitChar m).toNat]=_
  rw[digit_48 m h]
theorem dgs_hi {m:Nat}(h:¬ m<10):dgs m=dgs (m / 10)++[48+m % 10]:=by
  have hm:m % 10<10:=Nat.mod_lt m (by decide)
  have t:Nat.toDigits 10 (m / 10)++Nat.toDigits 10 (m % 10)=Nat.toDigits 10 (10*(m / 10)+m % 10):=Nat.toDigits_append_toDigits (by decide) (by omega) hm
  rw[Nat.div_add_mod]at t
  unfold dgs
  rw[<-t,Yi,Nat.toDigits_of_lt_base hm]
  show _++[(Nat.digitChar (m % 10)).toNat]=_
  rw[digit_48 _ hm]
theorem dgs_fg:∀k m,1<=k->m<10 ^ k->(dgs m).length<=k/\1<=(dgs m).length/\List.replicate (k-(dgs m).length) 48++dgs m=fg k m:=by
  intro k
  induction k with
  |zero=>intro m h _;cases h
  | succ k ih=>
    intro m _ hm
    by_cases c:m<10
    · rw[dgs_lo c]
      refine⟨by show 1<=k+1;omega,Yc _,?_⟩
      show List.replicate (k+1-1) 48++[48+m]=fg k (m / 10)++[48+m % 10]
      rw[Nat.add_sub_cancel,Nat.div_eq_of_lt c,Nat.mod_eq_of_lt c,fg_zero]
    · have hk:1<=k:=by
        cases k with
        |zero=>omega
        |succ k=>omega
      have h1:m / 10<10 ^ k:=by
        rw[Nat.pow_succ]at hm
        exact Nat.div_lt_of_lt_mul (by rw[Nat.mul_comm];exact hm)
      obtain⟨i1,i2,i3⟩:=ih (m / 10) hk h1
      rw[dgs_hi c,Yj]
      refine⟨by show _+1<=k+1;omega,by show 1<=_+1;omega,?_⟩
      show List.replicate (k+1-(_+1)) 48++(dgs (m / 10)++[48+m % 10])=fg k (m / 10)++[48+m % 10]
      rw[Nat.add_sub_add_right,<-Y7,i3]
theorem num_txt (m:Nat):(PySem.Str.ofString (toString ((m:Nat):Int)))=txt (dgs m):=by
  rw[<-txt_of (PySem.Str.ofString (toString ((m:Nat):Int))),W.KIN.signs_num]
theorem zfill_fg {m:Nat}(h:m<10 ^ 6):Txt.zfill (PySem.Str.ofString (toString ((m:Nat):Int))) 6=txt (fg 6 m):=by
  obtain⟨h1,h2,h3⟩:=dgs_fg 6 m (by decide) h
  rw[num_txt]
  unfold Txt.zfill
  rw[txt_len]
  by_cases c:(6:Int)<=(((dgs m).length:Nat):Int)
  · rw[if_pos c]
    have:6-(dgs m).length=0:=by omega
    rw[this,List.replicate_zero,List.nil_append]at h3
    rw[h3]
  · rw [if_neg c]
    have hd:∀x∈dgs m,48<=x/\x<=57:=fun x hx=>fg_dig 6 m x (by rw[<-h3];exact YD _ hx)
    obtain⟨x,r,e⟩:∃x r,dgs m=x::r:=by
      cases hq:dgs m with
      |nil=>rw[hq]at h2;cases h2
      |cons x r=>exact⟨x,r,rfl⟩
    have hx:=hd x (by rw[e];exact Yo)
    have hz:zfilled (txt (dgs m)) ((6:Int).toNat-(dgs m).length)=Builtin.Str.padded (txt (dgs m)) ((6:Int).toNat-(dgs m).length) 0 48:=by
      unfold zfilled
      have e0:(txt (dgs m)).cps[0]? =some x:=by rw[e];rfl
      rw[e0]
      split
      · rename_i heq;injection heq with heq;omega
      · rename_i heq;injection heq with heq;omega
      · rfl
    rw[hz,<-h3]
    unfold Builtin.Str.padded
    simp[txt]
def sgn (b:Int):Nat:=if b=0 then 95 else 45
/-- one strip,and all of them -/
def stl (n:Nat)(bs:List Int):List Nat:=fg 6 n++[32]++bs.map sgn
abbrev pcs (bs:List Int)(i:Nat):List Int:=(bs.drop (40*i)).take 40
def nStp (bs:List Int):Nat:=(bs.length+39) / 40
def stps (f:Nat)(bs:List Int):List Str:=(List.range (nStp bs)).map fun i=>txt (stl (f+40*i) (pcs bs i))
theorem size40 (n:Nat):Builtin.Range.rangeSize 0 ((n:Nat):Int) 40=(((n+39) / 40:Nat):Int):=by
  unfold Builtin.Range.rangeSize
  rw[if_pos (by decide)]
  split
  · omega
  · omega
theorem join1 {ls:List (List Nat)}(h:∀l∈ls,l.length=1)(hl:ls.length<=450):JoinOk (txt []) (ls.map txt)=true:=by
  unfold JoinOk
  rw[StrLaws.joinFits (B:=1)]
  · rfl
  · intro y hy
    obtain⟨l,hl2,rfl⟩:=YI.mp hy
    rw[txt_len,h l hl2];exact Yc _
  · rw[Ya,txt_len]
    simp only[List.length_nil,Nat.mul_zero,Nat.add_zero,Nat.mul_one]
    omega
theorem flat_sgn (bs:List Int):(bs.map fun b=>[sgn b]).flatten=bs.map sgn:=by
  induction bs with
  |nil=>rfl
  |cons a r ih=>rw[Yy,List.flatten_cons,ih];rfl
theorem log_lt {i:Int}(h0:0<=i)(h:i<2 ^ 40):i.natAbs.log2<1920:=by
  have:i.natAbs.log2<40:=by
    by_cases c:i.natAbs=0
    · rw[c];decide
    · exact(Nat.log2_lt c).mpr (by omega)
  omega
def spStripOf (K:W.Frag):Sp:=fun vs H Q _=>∃(a:Addr)(bs:List Int)(n:Nat),vs= [.ref a,.int ((n:Nat):Int)]/\SqL K H a (bs.map V.int)/\Bits bs/\bs.length<=40/\n<10 ^ 6/\∀H',Same H H'->Q (.str (txt (stl n bs))) H'
def spStrips (K:W.Frag):Sp:=fun vs H Q _=>∃(a:Addr)(bs:List Int)(f:Nat),vs= [.ref a,.int ((f:Nat):Int)]/\SqL K H a (bs.map V.int)/\Bits bs/\bs.length<=2000/\f<=20000/\∀p H',H p=none->Same H H'->H' p=some (.lst ((stps f bs).map V.str))->Q (.ref p) H'
theorem fits {z:Int}(h0:0<=z)(h:z<=100000):Builtin.Range.rangeFitsLong z=true:=by
  unfold Builtin.Range.rangeFitsLong
  rw[YT]
  exact⟨Yw (by omega),Yw (by omega)⟩
theorem small40 {n:Nat}(h:n<=3000):Builtin.Range.small 0 ((n:Nat):Int) 40=true:=by
  unfold Builtin.Range.small
  rw[size40,if_pos (by decide),fits (by decide) (by decide),fits (by omega) (by omega),fits (by decide) (by decide),fits (by omega) (by omega),fits (by omega) (by omega),Bool.or_true]
  rfl
theorem szl {n:Nat}(h:n<=9000):n<=sizeLine:=Ye h (by decide)
theorem szl1 {n:Nat}(h:n<=9000):n<sizeLine:=Y5 h (by decide)
theorem cut_ab {bs:List Int}{a b:Nat}(h:a<=b):cutV (bs.map V.int) (some (a:Int)) (some (b:Int))=((bs.drop a).take (b-a)).map V.int:=by
  unfold cutV
  have e1:HT.sIx (bs.map V.int).length 0 (some (a:Int))=min a bs.length:=by
    show (if (a:Int)<0 then ((a:Int)+((bs.map V.int).length:Int)).toNat else min (a:Int).toNat (bs.map V.int).length)=_
    rw[if_neg (by omega),Ya,Xl]
  have e2:HT.sIx (bs.map V.int).length (bs.map V.int).length (some (b:Int))=min b bs.length:=by
    show (if (b:Int)<0 then ((b:Int)+((bs.map V.int).length:Int)).toNat else min (b:Int).toNat (bs.map V.int).length)=_
    rw[if_neg (by omega),Ya,Xl]
  rw[e1,e2,List.map_take,List.map_drop]
  by_cases c:a<=bs.length
  · rw[Xb c]
    by_cases d:b<=bs.length
    · rw[Xb d]
    · rw[Y1 (by omega),Yl (by rw[Y9,Ya];exact Yc _),Yl (by rw[Y9,Ya];omega)]
  · rw[Y1 (by omega),Y1 (by omega),Nat.sub_self,List.take_zero,Xj (by rw[Ya];omega),List.take_nil]
theorem pcs_len (bs:List Int)(i:Nat):(pcs bs i).length<=40:=by unfold pcs;rw[YC];omega
theorem pcs_bits {bs:List Int}(h:Bits bs)(i:Nat):Bits (pcs bs i):=fun z hz=>h z (List.mem_of_mem_drop (List.mem_of_mem_take hz))
theorem dig_in {c:Nat}(h:48<=c/\c<=57):(!(Builtin.Str.occurrences ("0123456789":Str) (⟨#[c]⟩:Str) 0 ("0123456789":Str).length 1).isEmpty)=true:=by
  have:c=48\/c=49\/c=50\/c=51\/c=52\/c=53\/c=54\/c=55\/c=56\/c=57:=by omega
  rcases this with rfl | rfl | rfl | rfl | rfl | rfl | rfl | rfl | rfl | rfl <;> decide +kernel
def isDg (c:Nat):Bool:=decide (48<=c/\c<=57)
theorem dg_in (c:Nat):(!(Builtin.Str.occurrences ("0123456789":Str) (⟨#[c]⟩:Str) 0 ("0123456789":Str).length 1).isEmpty)=isDg c:=by
  rw[StrLaws.found_one]
  unfold isDg
  have e:("0123456789":Str).cps.toList= [48,49,50,51,52,53,54,55,56,57]:=by decide +kernel
  rw[e]
  by_cases h:48<=c/\c<=57
  · rw[Yw h,Xi]
    have:c=48\/c=49\/c=50\/c=51\/c=52\/c=53\/c=54\/c=55\/c=56\/c=57:=by omega
    simpa using this
  · rw[Ys h,decide_eq_false_iff_not]
    intro z
    simp at z
    omega
/-- the number that a word is -/
def numIn (l:List Nat):Option Nat:=if (1<=l.length/\l.length<=6)/\l.all isDg=true/\¬ (l.headD 0=48/\1<l.length) then some (PySem.NumText.digitsVal l) else none
def numV (l:List Nat):V:=(numIn l).elim .non fun n=> .int ((n:Nat):Int)
def spNumIn:Sp:=fun vs H Q _=>∃l:List Nat,vs= [.str (txt l)]/\l.length<=900/\∀H',Same H H'->Q (numV l) H'
theorem str_txt (x:Str):x=txt x.cps.toList:=by
  obtain⟨⟨a⟩⟩:=x
  rfl
theorem join_len1 (c:Nat):∀ws:List Str,ws.length<=(Str.join (sepC c) ws).length+1
  |[]=>YO _
  |[x]=>Nat.succ_le_succ (YO _)
  | x::y::r=>by
    have h:=join_len1 c (y::r)
    show r.length+1+1<=(x++sepC c++Str.join (sepC c) (y::r)).length+1
    rw[Yx,Yx]
    have e:(sepC c).length=1:=rfl
    have h':r.length+1<=(Str.join (sepC c) (y::r)).length+1:=h
    omega
theorem split_len (x:Str)(c:Nat):(Txt.split x (sepC c)).length<=x.length+1:=by
  have:=join_len1 c (Txt.split x (sepC c))
  rw[join_split]at this
  exact this
theorem join_mem (c:Nat):∀(ws:List Str),∀w∈ws,w.length<=(Str.join (sepC c) ws).length
  |[x],w,h=>by rw[Yg.mp h];exact Yc _
  | x ::y::r,w,h=>by
    show _<=(x++sepC c++Str.join (sepC c) (y::r)).length
    rw[Yx,Yx]
    rcases Yr.mp h with rfl | h
    · omega
    · have:=join_mem c (y::r) w h
      omega
theorem split_mem {x:Str}{c:Nat}{w:Str}(h:w∈Txt.split x (sepC c)):w.length<=x.length:=by
  have:=join_mem c _ w h
  rw[join_split]at this
  exact this
/-- the choice that a word is -/
def choIn (l:List Nat):Option (Nat×Nat):=match Txt.split (txt l) (sepC 47) with
  |[x,y]=>(numIn x.cps.toList).bind fun a=>(numIn y.cps.toList).map fun b=>(a,b)
  |_=>none
def spCho83:Sp:=fun vs H Q _=>∃l:List Nat,vs= [.str (txt l)]/\l.length<=900/\(choIn l=none->∀H',Same H H'->Q .non H')/\∀a b,choIn l=some (a,b)->∀t H',H t=none->Same H H'->H' t=some (.tup [.int ((a:Nat):Int),.int ((b:Nat):Int)])->Q (.ref t) H'
def capV (l:List Nat)(m:Int):V:=(numIn l).elim .non fun n=>if ((n:Nat):Int)<=m then .int ((n:Nat):Int) else .non
def spVal83 (K:W.Frag):Sp:=fun vs H Q _=>∃(l:List Nat)(k:Str)(al:Addr)(xs:List V),vs= [.str (txt l),.str k,.ref al]/\l.length<=900/\SqL K H al xs/\
  ((k=""/\∀H',Same H H'->Q .non H')\/(k="choice"/\(choIn l=none->∀H',Same H H'->Q .non H')/\∀a b,choIn l=some (a,b)->∀t H',H t=none->Same H H'->H' t=some (.tup [.int ((a:Nat):Int),.int ((b:Nat):Int)])->Q (.ref t) H')\/
   (k="number"/\∀H',Same H H'->Q (numV l) H')\/(k="turns"/\∀H',Same H H'->Q (capV l 2000) H')\/(k="end"/\∃m:Int,atI xs (-1)=some (.int m)/\∀H',Same H H'->Q (capV l (m+400)) H'))
/-! rows of the desk:what their words are -/
inductive Vl
  |num (n:Nat)
  |cho (a b:Nat)
def formsL:List (Str×List Str×Str):=[("rail", ["number","choice"],"choice"),("hand", ["number","number"],"number"),("thing", ["number","number","number"],"number"),("wrong", ["number","number"],""),("run", ["turns"],""),("bits", ["number","end"],""),("draw", ["number","number","end"],""),("got", ["number"],""),("waits", ["number"],""),("things", ["number","number"],""),("stance", ["number"],""),("faults", ["number"],"")]
def lastN (xs:List Vl):Nat:=match xs.getLast? with
  |some (.num n)=>n
  |_=>0
def capN (l:List Nat)(m:Nat):Option Nat:=(numIn l).bind fun n=>if n<=m then some n else none
def valIn (l:List Nat)(k:Str)(vs:List Vl):Option Vl:=
  if k="" then none else if k="choice" then (choIn l).map fun p=> .cho p.1 p.2 else if k="number" then (numIn l).map .num else if k="turns" then (capN l 2000).map .num else (capN l (lastN vs+400)).map .num
def rowGo (nd:List Str)(m:Str):List Str->List Vl->Except Nat (List Vl)
  |[],vs=>if vs.length<nd.length then .error (vs.length+1) else .ok vs
  | x::ws,vs=>match valIn x.cps.toList (nd.getD vs.length m) vs with
    |none=> .error (vs.length+1)
    |some v=>rowGo nd m ws (vs++[v])
def rowIn:List Str->Except Nat (List Vl)
  |[]=> .error 0
  | x::r=>match formsL.lookup x with
    |none=> .error 0
    |some f=>rowGo f.1 f.2 r []
inductive VlsAt (H:Hp):List V->List Vl->Prop
  |nil:VlsAt H [] []
  |num {n:Nat} {vs:List V} {ls:List Vl}:VlsAt H vs ls->VlsAt H (.int ((n:Nat):Int)::vs) (.num n::ls)
  |cho {t:Addr} {a b:Nat} {vs:List V} {ls:List Vl}:H t=some (.tup [.int ((a:Nat):Int),.int ((b:Nat):Int)])->VlsAt H vs ls->VlsAt H (.ref t::vs) (.cho a b::ls)
theorem VlsAt.imp {H H':Hp}(g:∀x xs,H x=some (.tup xs)->H' x=some (.tup xs)):∀{vs:List V}{ls:List Vl},VlsAt H vs ls->VlsAt H' vs ls
  |_,_,.nil=> .nil
  |_,_,.num r=> .num (r.imp g)
  |_,_,.cho a r=> .cho (g _ _ a) (r.imp g)
theorem VlsAt.append {H:Hp}{us:List V}{ks:List Vl}(h:VlsAt H us ks):∀{vs:List V}{ls:List Vl},VlsAt H vs ls->VlsAt H (vs++us) (ls++ks)
  |_,_,.nil=>h
  |_,_,.num r=> .num (VlsAt.append h r)
  |_,_,.cho a r=> .cho a (VlsAt.append h r)
theorem VlsAt.len {H:Hp}:∀{vs:List V}{ls:List Vl},VlsAt H vs ls->vs.length=ls.length
  |_,_,.nil=>rfl
  |_,_,.num r=>YE (·+1) r.len
  |_,_,.cho _ r=>YE (·+1) r.len
theorem VlsAt.last {H:Hp}:∀{vs:List V}{ls:List Vl},VlsAt H vs ls->∀{n:Nat},ls.getLast? =some (.num n)->vs.getLast? =some (.int ((n:Nat):Int))
  |_,_,.nil,n,h=>by cases h
  | _, _,.num (ls:=ls) r,n,h=>by
    cases ls with
    |nil=>cases r;cases h;rfl
    | cons y ls=>
      rw[Xy]at h
      have:=r.last h
      cases r <;> (rw[Xy];exact this)
  | _, _,.cho (ls:=ls) a r,n,h=>by
    cases ls with
    |nil=>cases r;cases h
    | cons y ls=>
      rw[Xy]at h
      have:=r.last h
      cases r <;> (rw[Xy];exact this)
/-- a tuple that the module holds -/
def TupV (K:W.Frag)(a:Addr)(xs:List V):Prop:=∃(o:Obj)(its:Array Value)(n:Nat),K.lookup a=some o/\o.cls= .type "tuple"/\o.data= .seq its n/\its.size<=sizeLine/\Vals xs its.toList
theorem tpR {K:W.Frag}{a u:Addr}{m:Str}{od:Option Addr}{sl:Array (Option Value)}{n:Nat}{t:Tok}(h:K.lookup a=some ⟨.type "tuple",od,.seq #[.ref u,.str m t] n,sl⟩):TupV K a [.ref u,.str m]:=⟨_,_,_,h,rfl,rfl,small_lit rfl,.cons rfl (.cons ⟨_,rfl⟩ .nil)⟩
theorem tpS1 {K:W.Frag}{a:Addr}{m0:Str}{od:Option Addr}{sl:Array (Option Value)}{n:Nat}{t0:Tok}(h:K.lookup a=some ⟨.type "tuple",od,.seq #[.str m0 t0] n,sl⟩):TupV K a ([m0].map V.str):=⟨_,_,_,h,rfl,rfl,small_lit rfl,.cons ⟨_,rfl⟩ .nil⟩
theorem tpS2 {K:W.Frag}{a:Addr}{m0 m1:Str}{od:Option Addr}{sl:Array (Option Value)}{n:Nat}{t0 t1:Tok}(h:K.lookup a=some ⟨.type "tuple",od,.seq #[.str m0 t0,.str m1 t1] n,sl⟩):TupV K a ([m0,m1].map V.str):=⟨_,_,_,h,rfl,rfl,small_lit rfl,.cons ⟨_,rfl⟩ (.cons ⟨_,rfl⟩ .nil)⟩
theorem tpS3 {K:W.Frag}{a:Addr}{m0 m1 m2:Str}{od:Option Addr}{sl:Array (Option Value)}{n:Nat}{t0 t1 t2:Tok}(h:K.lookup a=some ⟨.type "tuple",od,.seq #[.str m0 t0,.str m1 t1,.str m2 t2] n,sl⟩):TupV K a ([m0,m1,m2].map V.str):=⟨_,_,_,h,rfl,rfl,small_lit rfl,.cons ⟨_,rfl⟩ (.cons ⟨_,rfl⟩ (.cons ⟨_,rfl⟩ .nil))⟩
theorem TupV.sq {K:W.Frag}{a:Addr}{xs:List V}(h:TupV K a xs)(H:Hp):SqT K H a xs:= .inr h
open PyProof.Rows in
inductive FormEnts (K:W.Frag):List (Key×V)->List (Str×List Str×Str)->Prop
  |nil:FormEnts K [] []
  |cons {k m:Str} {ns:List Str} {t u:Addr} {kvs:List (Key×V)} {fs:List (Str×List Str×Str)}:TupV K t [.ref u,.str m]->TupV K u (ns.map V.str)->FormEnts K kvs fs->FormEnts K ((.inr k,.ref t)::kvs) ((k,ns,m)::fs)
open PyProof.Rows in
theorem FormEnts.get {K:W.Frag}{x:Str}:∀{kvs:List (Key×V)}{fs:List (Str×List Str×Str)},FormEnts K kvs fs->(fs.lookup x=none/\valV kvs (.inr x)=none)\/∃ns m t u,fs.lookup x=some (ns,m)/\valV kvs (.inr x)=some (.ref t)/\TupV K t [.ref u,.str m]/\TupV K u (ns.map V.str)
  |_,_,.nil=> .inl ⟨rfl,rfl⟩
  | _, _,.cons (k:=k) (m:=m) (ns:=ns) (t:=t) (u:=u) (kvs:=kvs) (fs:=fs) a b r=>by
    by_cases c:x=k
    · subst c
      exact .inr ⟨ns,m,t,u,by rw[List.lookup_cons_self],by simp[valV],a,b⟩
    · have e1:((k,ns,m)::fs).lookup x=fs.lookup x:=by rw[Y6,show (x == k)=false from Y8.mpr c]
      have e2:valV ((Sum.inr k,V.ref t)::kvs) (.inr x)=valV kvs (.inr x):=by
        have:(Sum.inr k:Key)≠ .inr x:=fun z=>c (by cases z;rfl)
        simp[valV,this]
      rw[e1,e2]
      exact r.get
def kindOk (k:Str):Bool:=decide (k=""\/k="choice"\/k="number"\/k="turns")
/-- each kind is one of these,or the end of a part,behind a number -/
def formOk (nd:List Str)(m:Str):Bool:=kindOk m && (List.range nd.length).all fun i=>kindOk (nd.getD i "") || (decide (nd.getD i ""="end") && decide (0<i) && decide (nd.getD (i-1) ""="number"))
theorem forms_ok:(formsL.all fun f=>formOk f.2.1 f.2.2)=true:=by decide +kernel
theorem lookup_mem {x:Str}{v:List Str×Str}:∀{fs:List (Str×List Str×Str)},fs.lookup x=some v->(x,v)∈fs
  | (k,u)::fs,h=>by
    rw[Y6]at h
    by_cases c:x=k
    · rw[show (x == k)=true from Xo.mpr c]at h
      cases h
      rw[c]
      exact Yo ..
    · rw[show (x == k)=false from Y8.mpr c]at h
      exact Yf _ (lookup_mem h)
theorem form_kind {x:Str}{nd:List Str}{m:Str}(h:formsL.lookup x=some (nd,m))(i:Nat):kindOk (nd.getD i m)=true\/(nd.getD i m="end"/\0<i/\nd.getD (i-1) m="number"):=by
  have h1:=Yu.mp forms_ok _ (lookup_mem h)
  unfold formOk at h1
  rw[YT]at h1
  by_cases c:i<nd.length
  · have h2:=Yu.mp h1.2 i (List.mem_range.mpr c)
    have e:∀j,j<nd.length->nd.getD j ""=nd.getD j m:=fun j hj=>by rw[YJ,YJ,Yd hj];rfl
    rw[e i c,e (i-1) (by omega),Bool.or_eq_true,YT,YT,Xi,Xi,Xi]at h2
    rcases h2 with h2 | ⟨⟨h2,h3⟩,h4⟩
    · exact .inl h2
    · exact .inr ⟨h2,h3,h4⟩
  · rw[YJ,Xa (by omega)]
    exact .inl h1.1
/-- where a number is asked for,a number stands -/
def NumsOk (nd:List Str)(m:Str)(vs:List Vl):Prop:=∀i,i<vs.length->nd.getD i m="number"->∃n,vs[i]? =some (.num n)
theorem NumsOk.snoc {nd:List Str}{m:Str}{vs:List Vl}{l:List Nat}{v:Vl}(h:NumsOk nd m vs)(e:valIn l (nd.getD vs.length m) vs=some v):NumsOk nd m (vs++[v]):=fun i hi hk=>by
  by_cases c:i<vs.length
  · rw[YQ c];exact h i c hk
  · have ei:i=vs.length:=by rw[Yj]at hi;simp at hi;omega
    rw[ei]at hk ⊢
    rw[hk]at e
    unfold valIn at e
    rw[if_neg (by decide),if_neg (by decide),if_pos rfl]at e
    obtain⟨n,_,rfl⟩:=YR.mp e
    exact⟨n,List.getElem?_concat_length⟩
theorem NumsOk.last {nd:List Str}{m:Str}{vs:List Vl}(h:NumsOk nd m vs)(p:0<vs.length)(e:nd.getD (vs.length-1) m="number"):∃n,vs.getLast? =some (.num n)/\lastN vs=n:=by
  obtain⟨n,hn⟩:=h (vs.length-1) (by omega) e
  have hl:vs.getLast? =some (.num n):=by rw[List.getLast?_eq_getElem?];exact hn
  exact⟨n,hl,by unfold lastN;rw[hl]⟩
theorem rowIn_none {x:Str}{r:List Str}(h:formsL.lookup x=none):rowIn (x::r)= .error 0:=by
  show (match formsL.lookup x with | none=>Except.error 0 | some f=>rowGo f.1 f.2 r [])=_
  rw[h]
theorem rowIn_some {x:Str}{r nf:List Str}{m:Str}(h:formsL.lookup x=some (nf,m)):rowIn (x::r)=rowGo nf m r []:=by
  show (match formsL.lookup x with | none=>Except.error 0 | some f=>rowGo f.1 f.2 r [])=_
  rw[h]
theorem rowGo_none {nf:List Str}{m x:Str}{ws:List Str}{vs:List Vl}(h:valIn x.cps.toList (nf.getD vs.length m) vs=none):rowGo nf m (x::ws) vs= .error (vs.length+1):=by
  show (match valIn x.cps.toList (nf.getD vs.length m) vs with | none=>Except.error (vs.length+1) | some v=>rowGo nf m ws (vs++[v]))=_
  rw[h]
theorem rowGo_some {nf:List Str}{m x:Str}{ws:List Str}{vs:List Vl}{v:Vl}(h:valIn x.cps.toList (nf.getD vs.length m) vs=some v):rowGo nf m (x::ws) vs=rowGo nf m ws (vs++[v]):=by
  show (match valIn x.cps.toList (nf.getD vs.length m) vs with | none=>Except.error (vs.length+1) | some v=>rowGo nf m ws (vs++[v]))=_
  rw[h]
theorem atI_lastQ {ys:List V}{y:V}(h:ys.getLast? =some y):atI ys (-1)=some y:=by
  rw[List.getLast?_eq_getElem?]at h
  have hn:=(Yb.mp h).1
  unfold atI ixN
  rw[if_neg (by decide),if_pos (by omega)]
  show ys[(((ys.length:Nat):Int)+ -1).toNat]? =_
  rw[show (((ys.length:Nat):Int)+ -1).toNat=ys.length-1 from by omega]
  exact h
theorem capV_some {l:List Nat}{c n:Nat}(h:capN l c=some n):capV l ((c:Nat):Int)= .int ((n:Nat):Int):=by
  unfold capN at h
  unfold capV
  cases e:numIn l with
  |none=>rw[e]at h;cases h
  | some k=>
    rw[e]at h
    show (if ((k:Nat):Int)<=((c:Nat):Int) then V.int ((k:Nat):Int) else .non)=_
    by_cases z:k<=c
    · rw[if_pos (by omega)]
      have h':(if k<=c then some k else none)=some n:=h
      rw[if_pos z]at h'
      cases h'
      rfl
    · have h':(if k<=c then some k else none)=some n:=h
      rw[if_neg z]at h'
      cases h'
theorem capV_none {l:List Nat}{c:Nat}(h:capN l c=none):capV l ((c:Nat):Int)= .non:=by
  unfold capN at h
  unfold capV
  cases e:numIn l with
  |none=>rfl
  | some k=>
    rw[e]at h
    show (if ((k:Nat):Int)<=((c:Nat):Int) then V.int ((k:Nat):Int) else .non)=_
    have h':(if k<=c then some k else none)=none:=h
    by_cases z:k<=c
    · rw[if_pos z]at h';cases h'
    · rw[if_neg (by omega)]
theorem val_ok {K:W.Frag}{H:Hp}{al:Addr}{xs:List V}{vs:List Vl}{l:List Nat}{k:Str}{Q:VK}{E:XK}(hv:VlsAt H xs vs)(hS:SqL K H al xs)(hl:l.length<=900)(hk:kindOk k=true\/(k="end"/\∃n,vs.getLast? =some (.num n)/\lastN vs=n))
    (q1:∀v,valIn l k vs=some v->∀y H',Same H H'->VlsAt H' [y] [v]->((∃i,y= .int i)\/∃t,y= .ref t)->Q y H') (q2:valIn l k vs=none->∀H',Same H H'->Q .non H'):spVal83 K [.str (txt l),.str k,.ref al] H Q E:=by
  have num:∀(o:Option Nat)(u:V),o.map Vl.num=valIn l k vs->(∀n,o=some n->u= .int ((n:Nat):Int))->(o=none->u= .non)->∀H',Same H H'->Q u H':=fun o u e e1 e2 H' g=>by
    cases o with
    |none=>rw[e2 rfl];exact q2 e.symm H' g
    |some n=>rw[e1 n rfl];exact q1 _ e.symm _ H' g (.num .nil) (.inl ⟨_,rfl⟩)
  refine⟨l,k,al,xs,rfl,hl,hS,?_⟩
  rcases hk with hk | ⟨rfl,n,h1,h2⟩
  · rcases Y3 hk with rfl | rfl | rfl | rfl
    · exact .inl ⟨rfl,q2 rfl⟩
    · refine .inr (.inl ⟨rfl,fun e=>q2 ?_,fun a b e t H' ht g et=>q1 (.cho a b) ?_ _ H' g (.cho et .nil) (.inr ⟨t,rfl⟩)⟩)
      · unfold valIn;rw[if_neg (by decide),if_pos rfl,e];rfl
      · unfold valIn;rw[if_neg (by decide),if_pos rfl,e];rfl
    · refine .inr (.inr (.inl ⟨rfl,num (numIn l) (numV l) ?_ (fun n e=>?_) fun e=>?_⟩))
      · unfold valIn;rw[if_neg (by decide),if_neg (by decide),if_pos rfl]
      · unfold numV;rw[e];rfl
      · unfold numV;rw[e];rfl
    · refine .inr (.inr (.inr (.inl ⟨rfl,num (capN l 2000) _ ?_ (fun n e=>capV_some e) fun e=>capV_none e⟩)))
      unfold valIn;rw[if_neg (by decide),if_neg (by decide),if_neg (by decide),if_pos rfl]
  · refine .inr (.inr (.inr (.inr ⟨rfl,((n:Nat):Int),atI_lastQ (hv.last h1),num (capN l (n+400)) _ ?_ (fun j e=>capV_some e) fun e=>capV_none e⟩)))
    unfold valIn;rw[if_neg (by decide),if_neg (by decide),if_neg (by decide),if_neg (by decide),h2]

open PyProof.Rows in
def kvF:List (Key×V):=[(.inr "rail",.ref 1249),(.inr "hand",.ref 1251),(.inr "thing",.ref 1253),(.inr "wrong",.ref 1255),(.inr "run",.ref 1257),(.inr "bits",.ref 1259),(.inr "draw",.ref 1261),(.inr "got",.ref 1263),(.inr "waits",.ref 1265),(.inr "things",.ref 1267),(.inr "stance",.ref 1269),(.inr "faults",.ref 1271)]
def spRead83 (K:W.Frag):Sp:=fun vs H Q _=>∃(a:Addr)(ws:List Str)(vl:List Vl),vs= [.ref a]/\SqL K H a (ws.map V.str)/\ws.length<=900/\(∀x∈ws,x.length<=900)/\rowIn ws= .ok vl/\∀l xs H',H l=none->Same H H'->H' l=some (.lst xs)->VlsAt H' xs vl->Q (.ref l) H'
/-! the desk:its rows,what it answers -/
inductive Rf
  |post | frame | name | thing | rail
  deriving DecidableEq
structure Ex5 where
  (post frame name thing rail:Addr)
def Ex5.at (X:Ex5):Rf->Addr
  |.post=>X.post
  |.frame=>X.frame
  |.name=>X.name
  |.thing=>X.thing
  |.rail=>X.rail
abbrev itg (ns:List Nat):List Int:=ns.map fun n=>((n:Nat):Int)
abbrev num (n:Nat):Str:=PySem.Str.ofString (toString ((n:Nat):Int))
inductive Row8
  |rail (v:Nat) (cs:List (Nat×Nat))
  |hand (k n:Nat) (ds:List Nat)
  |thing (k n g:Nat) (ds:List Nat)
  |wrong (k t:Nat)
  |got (k:Nat)
  |waits (k:Nat)
  |things (k n:Nat)
  |stance (k:Nat)
  |faults (k:Nat)
  |draw (k s e:Nat)
def Row8.key:Row8->Str
  |.rail .. =>"rail"
  |.hand .. =>"hand"
  |.thing .. =>"thing"
  |.wrong .. =>"wrong"
  |.got .. =>"got"
  |.waits .. =>"waits"
  |.things .. =>"things"
  |.stance .. =>"stance"
  |.faults .. =>"faults"
  |.draw .. =>"draw"
def Row8.vals:Row8->List Vl
  |.rail v cs=> .num v::cs.map fun c=> .cho c.1 c.2
  |.hand k n ds=>(k::n::ds).map .num
  |.thing k n g ds=>(k::n::g::ds).map .num
  |.wrong k t=>[.num k,.num t]
  |.got k=>[.num k]
  |.waits k=>[.num k]
  |.things k n=>[.num k,.num n]
  |.stance k=>[.num k]
  |.faults k=>[.num k]
  |.draw k s e=>[.num k,.num s,.num e]
def vlT:Vl->Str
  |.num n=>num n
  |.cho a b=>num a++"/"++num b
def Row8.words (r:Row8):List Str:=r.key::r.vals.map vlT
def frT (f:Fr):Str:=num f.1++":"++Txt.join "." (f.2.map fun d=>PySem.Str.ofString (toString d))
def frsT (fs:List Fr):Str:=Txt.join " " (fs.map frT)
open Classical in
noncomputable def handR (R:RS)(k n:Nat)(ds:List Int):Except Rf RS:=
  match R.ps[k]? with
  |none=> .error .post
  |some S=>if FrOk ((n:Nat):Int) ds then (if (valV R.ow (.inl ((n:Nat):Int))).getD (.int ((k:Nat):Int))= .int ((k:Nat):Int) then .ok { R with ps:=R.ps.set k { S with wt:=S.wt++[(n,ds)] },ow:=putK R.ow (.inl ((n:Nat):Int)) (.int ((k:Nat):Int)) } else .error .name) else .error .frame
noncomputable def handL (k n:Nat):List (List Int)->RS->Except Rf RS
  |[],R=> .ok R
  | p::ps,R=>match handR R k n p with
    |.error e=> .error e
    |.ok R'=>handL k n ps R'
def pieces (g:Int)(th:List Int):List (List Int):=(List.range (nP th)).map fun j=>pc g (nP th) j th
abbrev Wp:=List (Nat×Nat)
def RlOk (v:Nat)(cs:List (Nat×Nat)):Prop:=(1<=cs.length/\cs.length<=5)/\∀c∈cs,PoOk ((c.1:Nat):Int) ((c.2:Nat):Int) ((v:Nat):Int)
abbrev chI (cs:List (Nat×Nat)):List (Int×Int):=cs.map fun c=>(((c.1:Nat):Int),((c.2:Nat):Int))
def askP (R:RS)(wp:Wp)(k:Nat)(f:PS->Str):Except Rf (Str×Option RS×Wp):=match R.ps[k]? with
  |none=> .error .post
  |some S=> .ok (f S,some R,wp)
open Classical in
noncomputable def ansP (R:RS)(wp:Wp):Row8->Except Rf (Str×Option RS×Wp)
  |.rail v cs=>if RlOk v cs then .ok ("ok",some (R0 (chI cs) ((v:Nat):Int)), []) else .error .post
  | .hand k n ds=>match handR R k n (itg ds) with
    |.error e=> .error e
    |.ok R'=> .ok ("ok",some R',wp)
  | .thing k n g ds=>if TgOk ((g:Nat):Int) (itg ds) then (match handL k n (pieces ((g:Nat):Int) (itg ds)) R with
    |.error e=> .error e
    |.ok R'=> .ok ("ok "++num (nP (itg ds)),some R',wp)) else .error .thing
  |.wrong k t=>if k<R.ps.length then .ok ("ok",some R,wp++[(k,t)]) else .error .post
  |.got k=>askP R wp k fun S=>frsT S.up
  |.waits k=>askP R wp k fun S=>frsT S.wt
  |.things k _=>askP R wp k fun _=>""
  |.stance k=>askP R wp k fun S=>S.now.shown.1++" "++num S.now.shown.2
  |.faults k=>askP R wp k fun S=>PySem.Str.ofString (toString S.tot)
  |.draw k _ _=>askP R wp k fun _=>""
open Classical in
noncomputable def deskP:Option RS->Wp->Row8->Except Rf (Str×Option RS×Wp)
  |st,wp,.rail v cs=>if RlOk v cs then .ok ("ok",some (R0 (chI cs) ((v:Nat):Int)), []) else .error .post
  |none,_,_=> .error .rail
  |some R,wp,r=>ansP R wp r
/-- no turn was made on this rail -/
structure Z83 (R:RS)(n:Nat):Prop where
  ps:∀S∈R.ps,S.now= .free 0/\S.tot=0/\S.up= []/\S.wt.length<=n
  ow:R.ow.length<=n
  owI:∀(m:Int) v,valV R.ow (.inl m)=some v->∃j:Int,v= .int j
  he:∀x∈R.he,x= []
def Row8.small:Row8->Prop
  |.hand _ _ ds=>ds.length<=90
  |.thing _ _ _ ds=>ds.length<=90
  |.rail _ cs=>cs.length<=90
  |.wrong .. =>True
  |.got _=>True
  |.waits _=>True
  |.things .. =>True
  |.stance _=>True
  |.faults _=>True
  |.draw _ s e=>s<=20000/\e<=1000000
/-- a desk on the heap -/
structure DeskW where
  (dx wl:Addr) (rv:V) (ws:List V) (orl:Own)
abbrev dF (rv:V)(wl:Addr):List (Str×V):=[("rail",rv),("wrong",.ref wl)]
def RvAt (CR:Addr)(A:Cs)(H:Hp)(rv:V)(ol:Own):Option RS->Prop
  |none=>rv= .non
  |some R=>∃r,rv= .ref r/\RailAt CR A H r R ol
structure DeskAt (C CR:Addr)(A:Cs)(H:Hp)(d:Addr)(st:Option RS)(wp:Wp)(o:Own)(w:DeskW):Prop where
  ed:H d=some (.ins C w.dx (dF w.rv w.wl))
  ew:H w.wl=some (.lst w.ws)
  ww:VlsAt H w.ws (wp.map fun p=> .cho p.1 p.2)
  rl:RvAt CR A H w.rv w.orl st
  dj:∀x,w.orl x->x≠d/\x≠w.wl
  od:o d
  ow:o w.wl
  inc:∀x,w.orl x->o x
  al:∀x,o x->H x≠none
section
variable {C CR:Addr}{A:Cs}{H H':Hp}{d:Addr}{st:Option RS}{wp:Wp}{o:Own}{w:DeskW}
theorem RvAt.move {rv:V}{ol:Own}(h:RvAt CR A H rv ol st)(g:∀x v,H x=some v->(ol x\/isT v)->H' x=some v):RvAt CR A H' rv ol st:=by
  cases st with
  |none=>exact h
  | some R=>
    obtain⟨r,e,w,hR⟩:=h
    exact⟨r,e,w,hR.move g⟩
theorem DeskAt.move (h:DeskAt C CR A H d st wp o w)(g:∀x v,H x=some v->(o x\/isT v)->H' x=some v):DeskAt C CR A H' d st wp o w:=
  ⟨g _ _ h.ed (.inl h.od),g _ _ h.ew (.inl h.ow),h.ww.imp fun x xs e=>g _ _ e (.inr ⟨_,rfl⟩),h.rl.move fun x v e z=>g x v e (z.imp_left (h.inc x)),h.dj,h.od,h.ow,h.inc,fun x hx=>by
    cases e:H x with
    |none=>exact absurd e (h.al x hx)
    |some v=>rw[g x v e (.inl hx)];simp⟩
theorem DeskAt.same (h:DeskAt C CR A H d st wp o w)(g:Same H H'):DeskAt C CR A H' d st wp o w:=h.move fun x v e _=>g x v e
theorem DeskAt.ne (h:DeskAt C CR A H d st wp o w):d≠w.wl:=fun z=>by have:=h.ed;rw[z,h.ew]at this;cases this
/-- the rail of a desk moves -/
theorem DeskAt.rail {R:RS}(h:DeskAt C CR A H d (some R) wp o w):∃r,w.rv= .ref r/\RailAt CR A H r R w.orl/\∀H' R' ol,RailAt CR A H' r R' ol->Mv w.orl H ol H'->∃o',DeskAt C CR A H' d (some R') wp o' { w with orl:=ol }/\Mv o H o' H':=by
  obtain⟨r,er,hR⟩:=h.rl
  refine⟨r,er,hR,fun H' R' ol hR' m=>⟨fun x=>ol x\/x=d\/x=w.wl,⟨?_,?_,?_,⟨r,er,hR'⟩,?_,.inr (.inl rfl),.inr (.inr rfl),fun x hx=> .inl hx,?_⟩,fun x v e z=>?_,fun x hx=>?_⟩⟩
  · exact m.1 _ _ h.ed (.inl fun z=>(h.dj _ z).1 rfl)
  · exact m.1 _ _ h.ew (.inl fun z=>(h.dj _ z).2 rfl)
  · exact h.ww.imp fun x xs e=>m.1 _ _ e (.inr ⟨_,rfl⟩)
  · intro x hx
    rcases m.2 x hx with z | z
    · exact h.dj x z
    · exact⟨fun y=>(by rw[y,h.ed]at z;cases z),fun y=>(by rw[y,h.ew]at z;cases z)⟩
  · rintro x (hx | rfl | rfl)
    · obtain⟨w',hR''⟩:=hR'
      exact hR''.al x hx
    · rw[m.1 _ _ h.ed (.inl fun z=>(h.dj _ z).1 rfl)];simp
    · rw[m.1 _ _ h.ew (.inl fun z=>(h.dj _ z).2 rfl)];simp
  · exact m.1 x v e (z.imp_left fun y q=>y (h.inc x q))
  · rcases hx with hx | rfl | rfl
    · exact(m.2 x hx).imp (h.inc x) id
    · exact .inl h.od
    · exact .inl h.ow
/-- one more wrong pair is told -/
theorem DeskAt.mark {k t:Nat}{q:Addr}(h:DeskAt C CR A H d st wp o w)(eq:H q=some (.tup [.int ((k:Nat):Int),.int ((t:Nat):Int)])):DeskAt C CR A (upd H w.wl (.lst (w.ws++[.ref q]))) d st (wp++[(k,t)]) o { w with ws:=w.ws++[.ref q] }/\Mv o H o (upd H w.wl (.lst (w.ws++[.ref q]))):=by
  have kT:∀x xs,H x=some (.tup xs)->upd H w.wl (.lst (w.ws++[.ref q])) x=some (.tup xs):=fun x xs e=>by
    rw[upd_ne fun z=>by rw[z,h.ew]at e;cases e];exact e
  refine⟨⟨by rw[upd_ne h.ne];exact h.ed,upd_same,?_,h.rl.move fun x v e z=>?_,h.dj,h.od,h.ow,h.inc,fun x hx=>?_⟩,?_⟩
  · rw[Yi]
    exact((VlsAt.cho eq .nil).append h.ww).imp kT
  · rcases z with z | ⟨xs,rfl⟩
    · rw[upd_ne (h.dj x z).2];exact e
    · exact kT x xs e
  · by_cases c:x=w.wl
    · rw[c,upd_same];simp
    · rw[upd_ne c];exact h.al x hx
  · exact mv_put h.ew h.ow fun ⟨_,z⟩=>by cases z
end
def spSay (K:W.Frag)(p:Row8->Prop)(C CR:Addr)(A:Cs)(X:Ex5):Sp:=fun vs H Q E=>∃d R wp o w l xs row n,vs= [.ref d,.ref l]/\DeskAt C CR A H d (some R) wp o w/\H l=some (.lst xs)/\¬ o l/\VlsAt H xs row.vals/\p row/\row.small/\Z83 R n/\n<=800/\wp.length<=800/\
  (∀e,ansP R wp row= .error e->∀H',Same H H'->E (.ref (X.at e)) none H')/\∀s st' wp',ansP R wp row= .ok (s,st',wp')->∀H' o' w',DeskAt C CR A H' d st' wp' o' w'->Mv o H o' H'->Q (.str s) H'
def spAsk8 (K:W.Frag)(C CR:Addr)(A:Cs)(X:Ex5):Sp:=fun vs H Q E=>∃d st wp o w row n,vs= [.ref d,.str (Txt.join " " row.words)]/\DeskAt C CR A H d st wp o w/\row.small/\rowIn row.words= .ok row.vals/\(Txt.join " " row.words).length<=899/\(∀x∈row.words,32∉x.cps.toList)/\(∀R,st=some R->Z83 R n)/\n<=800/\wp.length<=800/\
  (∀e,deskP st wp row= .error e->∀H',Same H H'->E (.ref (X.at e)) none H')/\∀s st' wp',deskP st wp row= .ok (s,st',wp')->∀H' o' w',DeskAt C CR A H' d st' wp' o' w'->Mv o H o' H'->Q (.str s) H'
theorem vls_nums {H:Hp}:∀{ns:List Nat}{xs:List V},VlsAt H xs (ns.map .num)->xs=(itg ns).map V.int
  |[],_,.nil=>rfl
  |n::ns,_,.num r=>YE (V.int ((n:Nat):Int)::·) (vls_nums (ns:=ns) r)
theorem num_len {n:Nat}(h:n<10 ^ 6):(num n).length<=6:=by
  show (PySem.Str.ofString (toString ((n:Nat):Int))).length<=6
  rw[num_txt,txt_len]
  exact(dgs_fg 6 n (by decide) h).1
theorem join_ok {z:Str}{ts:List Str}{B:Nat}(hB:∀y∈ts,y.length<=B)(h:ts.length*B+ts.length*z.length<=16777216):JoinOk z ts=true:=by
  unfold JoinOk
  rw[StrLaws.joinFits hB h]
  rfl
theorem join_glue (z:Str)(ts:List Str):Txt.join z ts=Str.join z ts:=by
  unfold Txt.join
  rw[StrLaws.glued_eq_join]
theorem sum_le {ts:List Str}{B:Nat}(hB:∀y∈ts,y.length<=B):(ts.map (·.length)).sum<=ts.length*B:=by
  induction ts with
  |nil=>simp
  | cons x r ih=>
    have h1:=hB x (Yo ..)
    have h2:=ih fun y hy=>hB y (Yf _ hy)
    rw[Yy,List.sum_cons,YX,Nat.succ_mul]
    omega
theorem dotT_len {ds:List Int}(h:ds.all byt=true):∀y∈ds.map (fun d=>PySem.Str.ofString (toString d)),y.length<=6:=fun y hy=>by
  obtain⟨d,hd,rfl⟩:=YI.mp hy
  obtain⟨n,rfl,hn⟩:=byt_nat (Yu.mp h d hd)
  exact num_len (by omega)
theorem frT_len {f:Fr}(h:FrN f):(frT f).length<=100:=by
  unfold frT
  rw[Yx,Yx]
  have h1:=num_len (n:=f.1) (by have:=h.1;omega)
  have h2:=StrLaws.join_length_le "." (f.2.map fun d=>PySem.Str.ofString (toString d))
  have h3:=sum_le (dotT_len h.2.2)
  have h4:=h.2.1
  rw[Ya]at h2 h3
  have e1:(":":Str).length=1:=by decide +kernel
  have e2:(".":Str).length=1:=by decide +kernel
  rw[e2]at h2
  have h5:(Txt.join "." (f.2.map fun d=>PySem.Str.ofString (toString d))).length<=(List.map (fun x=>x.length) (List.map (fun d=>PySem.Str.ofString (toString d)) f.2)).sum+f.2.length*1:=by rw[join_glue];exact h2
  rw[e1]
  omega
theorem frsT_ok {fs:List Fr}(h:∀f∈fs,FrN f)(hl:fs.length<=900):JoinOk " " (fs.map frT)=true:=by
  refine join_ok (B:=100) (fun y hy=>?_) ?_
  · obtain⟨f,hf,rfl⟩:=YI.mp hy
    exact frT_len (h f hf)
  · have e1:(" ":Str).length=1:=by decide +kernel
    rw[Ya,e1]
    omega
open Classical in
theorem handR_post {R:RS}{k n:Nat}{ds:List Int}(h:R.ps[k]? =none):handR R k n ds= .error .post:=by
  unfold handR
  rw[h]
open Classical in
theorem handR_frame {R:RS}{k n:Nat}{ds:List Int}{S:PS}(h:R.ps[k]? =some S)(f:¬ FrOk ((n:Nat):Int) ds):handR R k n ds= .error .frame:=by
  unfold handR
  rw[h]
  exact if_neg f
open Classical in
theorem handR_name {R:RS}{k n:Nat}{ds:List Int}{S:PS}{j:Int}(h:R.ps[k]? =some S)(f:FrOk ((n:Nat):Int) ds)(e:(valV R.ow (.inl ((n:Nat):Int))).getD (.int ((k:Nat):Int))= .int j)(c:j≠((k:Nat):Int)):handR R k n ds= .error .name:=by
  unfold handR
  rw[h]
  show (if FrOk ((n:Nat):Int) ds then _ else _)=_
  rw[if_pos f,if_neg]
  rw[e]
  intro z
  cases z
  exact c rfl
open Classical in
theorem handR_ok {R:RS}{k n:Nat}{ds:List Int}{S:PS}(h:R.ps[k]? =some S)(f:FrOk ((n:Nat):Int) ds)(e:(valV R.ow (.inl ((n:Nat):Int))).getD (.int ((k:Nat):Int))= .int ((k:Nat):Int)):handR R k n ds= .ok { R with ps:=R.ps.set k { S with wt:=S.wt++[(n,ds)] },ow:=putK R.ow (.inl ((n:Nat):Int)) (.int ((k:Nat):Int)) }:=by
  unfold handR
  rw[h]
  show (if FrOk ((n:Nat):Int) ds then _ else _)=_
  rw[if_pos f,if_pos e]
theorem Z83.owner {R:RS}{m:Nat}(h:Z83 R m)(k n:Nat):∃j:Int,(valV R.ow (.inl ((n:Nat):Int))).getD (.int ((k:Nat):Int))= .int j:=by
  cases e:valV R.ow (.inl ((n:Nat):Int)) with
  |none=>exact⟨_,rfl⟩
  | some v=>
    obtain⟨j,rfl⟩:=h.owI _ v e
    exact⟨j,rfl⟩
theorem putK_len {κ:Type}[DecidableEq κ](kvs:List (κ×V))(k:κ)(v:V):(putK kvs k v).length<=kvs.length+1:=by
  unfold putK
  split
  · rw[Ya];omega
  · rw[Yj];exact Yc _
open Classical in
/-- behind a frame handed -/
theorem handR_cases {R R':RS}{k n:Nat}{ds:List Int}(h:handR R k n ds= .ok R'):∃S,R.ps[k]? =some S/\FrOk ((n:Nat):Int) ds/\(valV R.ow (.inl ((n:Nat):Int))).getD (.int ((k:Nat):Int))= .int ((k:Nat):Int)/\R'={ R with ps:=R.ps.set k { S with wt:=S.wt++[(n,ds)] },ow:=putK R.ow (.inl ((n:Nat):Int)) (.int ((k:Nat):Int)) }:=by
  cases e:R.ps[k]? with
  |none=>cases (handR_post e).symm.trans h
  | some S=>
    by_cases f:FrOk ((n:Nat):Int) ds
    · by_cases c:(valV R.ow (.inl ((n:Nat):Int))).getD (.int ((k:Nat):Int))= .int ((k:Nat):Int)
      · exact⟨S,rfl,f,c,by cases (handR_ok e f c).symm.trans h;rfl⟩
      · unfold handR at h
        rw[e]at h
        have h':(if FrOk ((n:Nat):Int) ds then (if (valV R.ow (.inl ((n:Nat):Int))).getD (.int ((k:Nat):Int))= .int ((k:Nat):Int) then Except.ok { R with ps:=R.ps.set k { S with wt:=S.wt++[(n,ds)] },ow:=putK R.ow (.inl ((n:Nat):Int)) (.int ((k:Nat):Int)) } else Except.error Rf.name) else Except.error Rf.frame)=Except.ok R':=h
        rw[if_pos f,if_neg c]at h'
        cases h'
    · cases (handR_frame e f).symm.trans h
theorem Z83.hand {R R':RS}{m k n:Nat}{ds:List Int}(h:Z83 R m)(e:handR R k n ds= .ok R'):Z83 R' (m+1):=by
  obtain⟨S,eS,f,c,rfl⟩:=handR_cases e
  refine⟨fun T hT=>?_,?_,fun i v hv=>?_,h.he⟩
  · rcases List.mem_or_eq_of_mem_set hT with z | rfl
    · obtain⟨a,b,c,d⟩:=h.ps T z
      exact⟨a,b,c,by omega⟩
    · obtain⟨a,b,c,d⟩:=h.ps S (Yq eS)
      exact⟨a,b,c,by show (S.wt++[_]).length<=_;rw[Yj];show _+1<=_;omega⟩
  · have:=putK_len R.ow (.inl ((n:Nat):Int)) (.int ((k:Nat):Int))
    have:=h.ow
    show (putK R.ow _ _).length<=_
    omega
  · have hv':valV (putK R.ow (.inl ((n:Nat):Int)) (.int ((k:Nat):Int))) (.inl i)=some v:=hv
    rw[valV_put]at hv'
    split at hv'
    · cases hv';exact⟨_,rfl⟩
    · exact h.owI i v hv'
/-- the name is this post's own already -/
structure Owns (R:RS)(k n:Nat):Prop where
  at_:∃S,R.ps[k]? =some S
  by_:byt ((n:Nat):Int)=true
  ow:valV R.ow (.inl ((n:Nat):Int))=some (.int ((k:Nat):Int))
theorem Owns.of {R R':RS}{k n:Nat}{ds:List Int}(e:handR R k n ds= .ok R'):Owns R' k n:=by
  obtain⟨S,eS,f,c,rfl⟩:=handR_cases e
  refine⟨⟨_,by show (R.ps.set k _)[k]? =_;rw[Xm,if_pos rfl,if_pos (Yb.mp eS).1]⟩,f.1,?_⟩
  show valV (putK R.ow _ _) _=_
  rw[valV_put,if_pos rfl]
theorem Owns.hand {R:RS}{k n:Nat}{ds:List Int}(h:Owns R k n)(l:ds.length<=7)(b:ds.all byt=true):∃R',handR R k n ds= .ok R':=by
  obtain⟨S,eS⟩:=h.at_
  exact⟨_,handR_ok eS ⟨h.by_,l,b⟩ (by rw[h.ow];rfl)⟩
theorem handL_snoc {k n:Nat}{p:List Int}:∀{ps:List (List Int)}{R R1:RS},handL k n ps R= .ok R1->handL k n (ps++[p]) R=handR R1 k n p
  | [],R,R1,h=>by
    cases h
    show (match handR R k n p with | .error e=>Except.error e | .ok R'=>handL k n [] R')=_
    cases handR R k n p <;> rfl
  | q ::ps,R,R1,h=>by
    have h':(match handR R k n q with | .error e=>Except.error e | .ok R'=>handL k n ps R')= .ok R1:=h
    show (match handR R k n q with | .error e=>Except.error e | .ok R'=>handL k n (ps++[p]) R')=_
    cases e:handR R k n q with
    |error x=>rw[e]at h';cases h'
    | ok R'=>
      rw[e]at h'
      exact handL_snoc (ps:=ps) h'
theorem handL_err {k n:Nat}{p:List Int}{ps:List (List Int)}{R:RS}{e:Rf}(h:handR R k n p= .error e):handL k n (p::ps) R= .error e:=by
  show (match handR R k n p with | .error e=>Except.error e | .ok R'=>handL k n ps R')=_
  rw[h]
open Classical in
theorem ans_hand {R:RS}{wp:Wp}{k n:Nat}{ds:List Nat}:(∀e,handR R k n (itg ds)= .error e->ansP R wp (.hand k n ds)= .error e)/\∀R',handR R k n (itg ds)= .ok R'->ansP R wp (.hand k n ds)= .ok ("ok",some R',wp):=by
  refine⟨fun e h=>?_,fun R' h=>?_⟩
  · show (match handR R k n (itg ds) with | .error e=>Except.error e | .ok R'=>(.ok (("ok":Str),some R',wp):Except Rf (Str×Option RS×Wp)))=_
    rw[h]
  · show (match handR R k n (itg ds) with | .error e=>Except.error e | .ok R'=>(.ok (("ok":Str),some R',wp):Except Rf (Str×Option RS×Wp)))=_
    rw[h]
open Classical in
theorem ans_tg {R:RS}{wp:Wp}{k n g:Nat}{ds:List Nat}(h:¬ TgOk ((g:Nat):Int) (itg ds)):ansP R wp (.thing k n g ds)= .error .thing:=if_neg h
open Classical in
theorem ans_thing {R:RS}{wp:Wp}{k n g:Nat}{ds:List Nat}(t:TgOk ((g:Nat):Int) (itg ds)):(∀e,handL k n (pieces ((g:Nat):Int) (itg ds)) R= .error e->ansP R wp (.thing k n g ds)= .error e)/\∀R',handL k n (pieces ((g:Nat):Int) (itg ds)) R= .ok R'->ansP R wp (.thing k n g ds)= .ok ("ok "++num (nP (itg ds)),some R',wp):=by
  have e0:ansP R wp (.thing k n g ds)=(match handL k n (pieces ((g:Nat):Int) (itg ds)) R with | .error e=>Except.error e | .ok R'=>(.ok (("ok ":Str)++num (nP (itg ds)),some R',wp):Except Rf (Str×Option RS×Wp))):=if_pos t
  rw[e0]
  refine⟨fun e h=>?_,fun R' h=>?_⟩
  · rw[h]
  · rw[h]
theorem ask_none {R:RS}{wp:Wp}{k:Nat}{f:PS->Str}(h:R.ps[k]? =none):askP R wp k f= .error .post:=by unfold askP;rw[h]
theorem ask_some {R:RS}{wp:Wp}{k:Nat}{f:PS->Str}{S:PS}(h:R.ps[k]? =some S):askP R wp k f= .ok (f S,some R,wp):=by unfold askP;rw[h]
theorem none_of {R:RS}{k:Nat}(h:¬ (0<=((k:Nat):Int)/\((k:Nat):Int)<((R.ps.length:Nat):Int))):R.ps[k]? =none:=Xa (by omega)
theorem pc_byt {g:Int}{th:List Int}(t:TgOk g th){j:Nat}(hj:j<nP th):(pc g (nP th) j th).all byt=true:=by
  unfold pc
  rw[List.all_append,YT]
  have hn:nP th<=15:=by have:=t.2.1;unfold nP;omega
  refine⟨?_,Yu.mpr fun x hx=>Yu.mp t.2.2 x (List.mem_of_mem_drop (List.mem_of_mem_take hx))⟩
  show (byt g && (byt _ && true))=true
  rw[t.1,byt_iff.mpr ⟨by omega,by omega⟩]
  rfl
theorem cutV_nil (a b:Option Int):cutV ([]:List V) a b= []:=by
  unfold cutV
  simp
def spDot (K:W.Frag):Sp:=fun vs H Q _=>∃(a:Addr)(ds:List Int),vs= [.ref a]/\SqL K H a (ds.map V.int)/\ds.length<=900/\ds.all byt=true/\∀H',Same H H'->Q (.str (Txt.join "." (ds.map fun d=>PySem.Str.ofString (toString d)))) H'
def spFrsT (K:W.Frag):Sp:=fun vs H Q _=>∃(a:Addr)(xs:List V)(fs:List Fr),vs= [.ref a]/\H a=some (.lst xs)/\FrsAt H (fun _=>True) xs fs/\fs.length<=900/\(∀f∈fs,FrN f)/\∀H',Same H H'->Q (.str (frsT fs)) H'
def spPart0 (K:W.Frag):Sp:=fun vs H Q _=>∃(a:Addr)(s e:Int),vs= [.ref a,.int s,.int e]/\H a=some (.lst [])/\∀l,H l=none->Q (.ref l) (upd H l (.lst []))
def spJoI0 (C:Addr):Sp:=fun vs H Q _=>∃j dx,vs= [.ref j]/\H j=some (.ins C dx [])/\∀H' (fs:List (Str×V)),fs.lookup ("end":Str)=none->H' j=some (.ins C dx (("opened",.bl false)::fs))->(∀x o,x≠j->H x=some o->H' x=some o)->Q .non H'
def spJoE0 (C:Addr):Sp:=fun vs H Q _=>∃j dx fs,vs= [.ref j]/\H j=some (.ins C dx (("opened",.bl false)::fs))/\∀p,H p=none->Q (.ref p) (upd H p (.lst []))
def spThs0 (K:W.Frag):Sp:=fun vs H Q _=>∃(a:Addr)(n:Int),vs= [.ref a,.int n]/\H a=some (.lst [])/\∀p H',H p=none->Same H H'->H' p=some (.lst [])->Q (.ref p) H'

def spDkInit (C:Addr):Sp:=fun vs H Q _=>∃d dx,vs= [.ref d]/\H d=some (.ins C dx [])/\∀H' wl,H wl=none->H' d=some (.ins C dx (dF .non wl))->H' wl=some (.lst [])->(∀x u,x≠d->H x=some u->H' x=some u)->Q .non H'
def spPutUp (C CR:Addr)(A:Cs)(NP:Addr):Sp:=fun vs H Q E=>∃d st wp o w l xs v cs,vs= [.ref d,.ref l]/\DeskAt C CR A H d st wp o w/\H l=some (.lst xs)/\VlsAt H xs (Row8.rail v cs).vals/\cs.length<=90/\(¬ RlOk v cs->∀H',Same H H'->E (.ref NP) none H')/\(RlOk v cs->∀H' o' w',DeskAt C CR A H' d (some (R0 (chI cs) ((v:Nat):Int))) [] o' w'->Mv o H o' H'->Q (.str "ok") H')
theorem vls_chs {H:Hp}{cl:Addr}:∀{cs:List (Nat×Nat)}{xs:List V},VlsAt H xs (cs.map fun c=> .cho c.1 c.2)->∃ts:List Addr,xs=ts.map V.ref/\ts.length=(chI cs).length/\∀(i:Nat)(t:Addr)(m:Int×Int),ts[i]? =some t->(chI cs)[i]? =some m->H t=some (.tup [.int m.1,.int m.2])
  |[],_,.nil=>⟨[],rfl,rfl,fun i t m h=>by cases h⟩
  | c::cs,_,.cho (t:=t) e r=>by
    obtain⟨ts,rfl,h1,h2⟩:=vls_chs (cl:=cl) (cs:=cs) r
    refine⟨t::ts,rfl,YE (·+1) h1,fun i u m hu hm=>?_⟩
    cases i with
    |zero=>cases hu;cases hm;exact e
    |succ i=>exact h2 i u m hu hm
theorem rl_ok {v:Nat}{cs:List (Nat×Nat)}:((1<=(chI cs).length/\(chI cs).length<=5)/\∀m∈chI cs,PoOk m.1 m.2 ((v:Nat):Int))↔RlOk v cs:=by
  unfold RlOk
  rw[Ya]
  refine and_congr Iff.rfl ⟨fun h c hc=>h _ (XJ hc),fun h m hm=>?_⟩
  obtain⟨c,hc,rfl⟩:=YI.mp hm
  exact h c hc
theorem small5 {n:Nat}(h:n<=1000):Builtin.Range.small 0 ((n:Nat):Int) 5=true:=by
  unfold Builtin.Range.small
  rw[size5,if_pos (by decide),fits (by decide) (by decide),fits (by omega) (by omega),fits (by decide) (by decide),fits (by omega) (by omega),fits (by omega) (by omega),Bool.or_true]
  rfl
def spPoShown0 (A:Cs):Sp:=fun vs H Q _=>∃p S o k,vs= [.ref p]/\S.now= .free k/\PostAt A H p S o/\∀t H',H t=none->Same H H'->H' t=some (.tup [.str "free",.int ((k:Nat):Int)])->Q (.ref t) H'
theorem num_cps (n:Nat):(num n).cps.toList=dgs n:=by
  show (PySem.Str.ofString (toString ((n:Nat):Int))).cps.toList=_
  exact W.KIN.signs_num n
theorem dgs_dig {n:Nat}(h:n<10 ^ 6):∀c∈dgs n,48<=c/\c<=57:=fun c hc=>fg_dig 6 n c (by rw[<-(dgs_fg 6 n (by decide) h).2.2];exact YD _ hc)
theorem dgs_head (n:Nat):0<n->(dgs n).headD 0≠48:=by
  induction n using Nat.strongRecOn with
  | ind n ih=>
    intro h0
    by_cases c:n<10
    · rw[dgs_lo c]
      show 48+n≠48
      omega
    · rw[dgs_hi c]
      have i:=ih (n / 10) (by omega) (by omega)
      cases e:dgs (n / 10) with
      |nil=>rw[e]at i;simp at i;have:=(dgs_fg (n / 10+1) (n / 10) (by omega) (XM (Xq _) (Nat.lt_pow_self (by decide)))).2.1;rw[e]at this;cases this
      |cons x r=>rw[e]at i;exact i
theorem num_in {n:Nat}(h:n<10 ^ 6):numIn (num n).cps.toList=some n:=by
  rw[num_cps]
  obtain⟨h1,h2,h3⟩:=dgs_fg 6 n (by decide) h
  have hz:¬ ((dgs n).headD 0=48/\1<(dgs n).length):=fun ⟨z1,z2⟩=>by
    rcases Nat.eq_zero_or_pos n with rfl | p
    · rw[dgs_lo (by decide)]at z2
      exact absurd z2 (by decide)
    · exact dgs_head n p z1
  unfold numIn
  rw[if_pos ⟨⟨h2,h1⟩,Yu.mpr fun c hc=>Yw (dgs_dig h c hc),hz⟩]
  exact YE some (W.KIN.val_back n)
theorem free_num {n c:Nat}(h:n<10 ^ 6)(hc:c<48):c∉(num n).cps.toList:=fun z=>by
  rw[num_cps]at z
  have:=dgs_dig h c z
  omega
theorem cho_in {a b:Nat}(ha:a<10 ^ 6)(hb:b<10 ^ 6):choIn (vlT (.cho a b)).cps.toList=some (a,b):=by
  have e47:("/":Str)=sepC 47:=by decide +kernel
  have e:vlT (.cho a b)=Txt.join (sepC 47) [num a,num b]:=by
    rw[join_glue,<-e47]
    rfl
  unfold choIn
  rw [<-str_txt,e,split_join (by simp) (by
    intro x hx
    rcases Yr.mp hx with rfl | hx
    · exact free_num ha (by decide)
    · rw[Yg.mp hx]
      exact free_num hb (by decide))]
  show ((numIn (num a).cps.toList).bind fun a=>(numIn (num b).cps.toList).map fun b=>(a,b))=_
  rw[num_in ha,num_in hb]
  rfl
def Vl.lt:Vl->Prop
  |.num n=>n<10 ^ 6
  |.cho a b=>a<10 ^ 6/\b<10 ^ 6
theorem vlT_free {v:Vl}(h:v.lt):32∉(vlT v).cps.toList:=by
  cases v with
  |num n=>exact free_num h (by decide)
  | cho a b=>
    show 32∉(num a++"/"++num b).cps.toList
    rw[app_cps,app_cps]
    intro z
    rcases YG.mp z with z | z
    · rcases YG.mp z with z | z
      · exact free_num h.1 (by decide) z
      · exact absurd z (by decide +kernel)
    · exact free_num h.2 (by decide) z
theorem rowGo_num {nf:List Str}{m:Str}{n:Nat}{ws:List Str}{vs:List Vl}(h:n<10 ^ 6)(k:nf.getD vs.length m="number"):rowGo nf m (vlT (.num n)::ws) vs=rowGo nf m ws (vs++[.num n]):=rowGo_some (by
  rw[k]
  unfold valIn
  rw[if_neg (by decide),if_neg (by decide),if_pos rfl]
  show (numIn (num n).cps.toList).map Vl.num=_
  rw[num_in h]
  rfl)
theorem rowGo_cho {nf:List Str}{m:Str}{a b:Nat}{ws:List Str}{vs:List Vl}(ha:a<10 ^ 6)(hb:b<10 ^ 6)(k:nf.getD vs.length m="choice"):rowGo nf m (vlT (.cho a b)::ws) vs=rowGo nf m ws (vs++[.cho a b]):=rowGo_some (by
  rw[k]
  unfold valIn
  rw[if_neg (by decide),if_pos rfl,cho_in ha hb]
  rfl)
theorem rowGo_nums {nf:List Str}{m:Str}(k:∀i,nf.getD i m="number"):∀(ns:List Nat)(vs:List Vl),(∀n∈ns,n<10 ^ 6)->rowGo nf m ((ns.map Vl.num).map vlT) vs=rowGo nf m [] (vs++ns.map Vl.num)
  |[],vs,_=>by rw[Xr,Xr,YZ]
  | n::ns,vs,h=>by
    rw[Yy,Yy,rowGo_num (h n (Yo ..)) (k _),rowGo_nums k ns _ fun x hx=>h x (Yf _ hx),Y7]
    rfl
theorem rowGo_chos {nf:List Str}{m:Str}:∀(cs:List (Nat×Nat))(vs:List Vl),(∀i,nf.getD (vs.length+i) m="choice")->(∀c∈cs,c.1<10 ^ 6/\c.2<10 ^ 6)->rowGo nf m ((cs.map fun c=>Vl.cho c.1 c.2).map vlT) vs=rowGo nf m [] (vs++cs.map fun c=>Vl.cho c.1 c.2)
  |[],vs,_,_=>by rw[Xr,Xr,YZ]
  | c ::cs,vs,k,h=>by
    have hc:=h c (Yo ..)
    rw[Yy,Yy,rowGo_cho hc.1 hc.2 (k 0),rowGo_chos cs _ (fun i=>?_) fun x hx=>h x (Yf _ hx),Y7]
    · rfl
    · rw[Yj,Nat.add_assoc,Nat.add_comm _ i]
      exact k (i+1)
theorem rowGo_end {nf:List Str}{m:Str}{vs:List Vl}(h:¬ vs.length<nf.length):rowGo nf m [] vs= .ok vs:=if_neg h
def Row8.fine:Row8->Prop
  |.rail v cs=>v<10 ^ 6/\(1<=cs.length/\cs.length<=7)/\∀c∈cs,c.1<10 ^ 6/\c.2<10 ^ 6
  |.hand k n ds=>k<10 ^ 6/\n<10 ^ 6/\ds.length<=81/\∀d∈ds,d<10 ^ 6
  |.thing k n g ds=>k<10 ^ 6/\n<10 ^ 6/\g<10 ^ 6/\ds.length<=81/\∀d∈ds,d<10 ^ 6
  |.wrong k t=>k<10 ^ 6/\t<10 ^ 6
  |.got k=>k<10 ^ 6
  |.waits k=>k<10 ^ 6
  |.things k n=>k<10 ^ 6/\n<10 ^ 6
  |.stance k=>k<10 ^ 6
  |.faults k=>k<10 ^ 6
  |.draw k s e=>k<10 ^ 6/\s<=20000/\e<=s+400
theorem Row8.fine.small {r:Row8}(h:r.fine):r.small:=by
  cases r with
  |rail v cs=>exact Ye h.2.1.2 (by decide)
  |hand k n ds=>exact Ye h.2.2.1 (by decide)
  |thing k n g ds=>exact Ye h.2.2.2.1 (by decide)
  |draw k s e=>exact⟨h.2.1,by have:=h.2.1;have:=h.2.2;omega⟩
  |_=>trivial
theorem Row8.fine.lt {r:Row8}(h:r.fine):∀v∈r.vals,v.lt:=by
  have nums:∀ns:List Nat,(∀n∈ns,n<10 ^ 6)->∀v∈ns.map Vl.num,v.lt:=fun ns hn v hv=>by
    obtain⟨n,hn',rfl⟩:=YI.mp hv
    exact hn n hn'
  cases r with
  | rail v cs=>
    intro x hx
    rcases Yr.mp hx with rfl | hx
    · exact h.1
    · obtain⟨c,hc,rfl⟩:=YI.mp hx
      exact h.2.2 c hc
  |hand k n ds=>exact nums (k::n::ds) (by simpa using ⟨h.1,h.2.1,h.2.2.2⟩)
  |thing k n g ds=>exact nums (k::n::g::ds) (by simpa using ⟨h.1,h.2.1,h.2.2.1,h.2.2.2.2⟩)
  |wrong k t=>exact nums [k,t] (by simpa using ⟨h.1,h.2⟩)
  |got k=>exact nums [k] (by simpa using (show k<10 ^ 6 from h))
  |waits k=>exact nums [k] (by simpa using (show k<10 ^ 6 from h))
  |things k t=>exact nums [k,t] (by simpa using ⟨h.1,h.2⟩)
  |stance k=>exact nums [k] (by simpa using (show k<10 ^ 6 from h))
  |faults k=>exact nums [k] (by simpa using (show k<10 ^ 6 from h))
  |draw k s e=>exact nums [k,s,e] (by simpa using ⟨h.1,by have:=h.2.1;omega,by have:=h.2.1;have:=h.2.2;omega⟩)
theorem Row8.fine.row {r:Row8}(h:r.fine):rowIn r.words= .ok r.vals:=by
  have nums2:∀ns:List Nat,(∀n∈ns,n<10 ^ 6)->∀{nf:List Str}{m:Str},(∀i,nf.getD i m="number")->nf.length<=ns.length->rowGo nf m ((ns.map Vl.num).map vlT) []= .ok (ns.map Vl.num):=fun ns hn nf m k hl=>by
    rw[rowGo_nums k ns [] hn,List.nil_append]
    exact rowGo_end (by rw[Ya];omega)
  have lt:=h.lt
  unfold Row8.words
  cases r with
  | rail v cs=>
    refine(rowIn_some (x:="rail") (nf:=["number","choice"]) (m:="choice") (by decide +kernel)).trans ?_
    show rowGo _ _ (vlT (.num v)::(cs.map fun c=>Vl.cho c.1 c.2).map vlT) []=_
    rw[rowGo_num h.1 rfl,rowGo_chos cs _ (fun i=>by cases i with | zero=>rfl | succ i=>show (["number","choice"]:List Str).getD (1+(i+1)) "choice"=_;rw[show 1+(i+1)=i+2 from by omega];rfl) h.2.2]
    exact rowGo_end (by have:=h.2.1.1;show ¬ ([Vl.num v]++cs.map _).length<2;rw[Yj,Ya];show ¬ 1+_<2;omega)
  | hand k n ds=>
    refine(rowIn_some (x:="hand") (nf:=["number","number"]) (m:="number") (by decide +kernel)).trans ?_
    exact nums2 (k::n::ds) (by simpa using ⟨h.1,h.2.1,h.2.2.2⟩) (fun i=>by match i with | 0=>rfl | 1=>rfl | i+2=>rfl) (by simp)
  | thing k n g ds=>
    refine(rowIn_some (x:="thing") (nf:=["number","number","number"]) (m:="number") (by decide +kernel)).trans ?_
    exact nums2 (k::n::g::ds) (by simpa using ⟨h.1,h.2.1,h.2.2.1,h.2.2.2.2⟩) (fun i=>by match i with | 0=>rfl | 1=>rfl | 2=>rfl | i+3=>rfl) (by simp)
  | wrong k t=>
    refine(rowIn_some (x:="wrong") (nf:=["number","number"]) (m:="") (by decide +kernel)).trans ?_
    exact(rowGo_num h.1 rfl).trans ((rowGo_num h.2 rfl).trans (rowGo_end (YH _)))
  |got k=>exact(rowIn_some (x:="got") (nf:=["number"]) (m:="") (by decide +kernel)).trans ((rowGo_num h rfl).trans (rowGo_end (YH _)))
  |waits k=>exact(rowIn_some (x:="waits") (nf:=["number"]) (m:="") (by decide +kernel)).trans ((rowGo_num h rfl).trans (rowGo_end (YH _)))
  | things k t=>
    refine(rowIn_some (x:="things") (nf:=["number","number"]) (m:="") (by decide +kernel)).trans ?_
    exact(rowGo_num h.1 rfl).trans ((rowGo_num h.2 rfl).trans (rowGo_end (YH _)))
  |stance k=>exact(rowIn_some (x:="stance") (nf:=["number"]) (m:="") (by decide +kernel)).trans ((rowGo_num h rfl).trans (rowGo_end (YH _)))
  |faults k=>exact(rowIn_some (x:="faults") (nf:=["number"]) (m:="") (by decide +kernel)).trans ((rowGo_num h rfl).trans (rowGo_end (YH _)))
  | draw k s e=>
    refine(rowIn_some (x:="draw") (nf:=["number","number","end"]) (m:="") (by decide +kernel)).trans ?_
    have hs:s<10 ^ 6:=by have:=h.2.1;omega
    have he:e<10 ^ 6:=by have:=h.2.1;have:=h.2.2;omega
    refine(rowGo_num h.1 rfl).trans ((rowGo_num hs rfl).trans ((rowGo_some (v:= .num e) ?_).trans (rowGo_end (YH _))))
    show (capN (num e).cps.toList (s+400)).map Vl.num=_
    unfold capN
    rw[num_in he]
    show (if e<=s+400 then some e else none).map Vl.num=_
    rw[if_pos h.2.2]
    rfl
theorem Row8.key_in (r:Row8):r.key∈(["rail","hand","thing","wrong","got","waits","things","stance","faults","draw"]:List Str):=by
  cases r <;> simp[Row8.key]
theorem Row8.fine.free {r:Row8}(h:r.fine):∀x∈r.words,32∉x.cps.toList:=fun x hx=>by
  rcases Yr.mp hx with rfl | hx
  · have:∀k∈(["rail","hand","thing","wrong","got","waits","things","stance","faults","draw"]:List Str),32∉k.cps.toList:=by decide +kernel
    exact this _ (Row8.key_in r)
  · obtain⟨v,hv,rfl⟩:=YI.mp hx
    exact vlT_free (h.lt v hv)
theorem join_le {ws:List Str}{B:Nat}(h:∀x∈ws,x.length<=B):(Txt.join " " ws).length<=ws.length*(B+1):=by
  have h1:=StrLaws.join_length_le " " ws
  have h2:=sum_le h
  have e1:(" ":Str).length=1:=by decide +kernel
  rw[e1]at h1
  rw[join_glue,Nat.mul_succ]
  omega
theorem Row8.key_len (r:Row8):r.key.length<=6:=by
  have:∀k∈(["rail","hand","thing","wrong","got","waits","things","stance","faults","draw"]:List Str),k.length<=6:=by decide +kernel
  exact this _ (Row8.key_in r)
theorem vlT_len {v:Vl}(h:v.lt):(vlT v).length<=13/\(∀n,v= .num n->(vlT v).length<=6):=by
  cases v with
  |num n=>exact⟨Ye (num_len h) (by decide),fun _ _=>num_len h⟩
  | cho a b=>
    refine⟨?_,fun _ z=>by cases z⟩
    show (num a++"/"++num b).length<=13
    have h1:=num_len h.1
    have h2:=num_len h.2
    have e1:("/":Str).length=1:=by decide +kernel
    rw[Yx,Yx,e1]
    omega
theorem Row8.fine.len {r:Row8}(h:r.fine):(Txt.join " " r.words).length<=899:=by
  have big:∀B N:Nat,r.vals.length<=N->(∀v∈r.vals,(vlT v).length<=B)->6<=B->(N+1)*(B+1)<=899->(Txt.join " " r.words).length<=899:=fun B N h1 h2 h3 h4=>by
    refine Ye (join_le (B:=B) fun x hx=>?_) (Ye (Nat.mul_le_mul_right _ (?_:_<=N+1)) h4)
    · rcases Yr.mp hx with rfl | hx
      · exact Ye (Row8.key_len r) h3
      · obtain⟨v,hv,rfl⟩:=YI.mp hx
        exact h2 v hv
    · show (r.vals.map vlT).length+1<=_
      rw[Ya]
      omega
  have lt:=h.lt
  have nums:r.vals.length<=84->(∀v∈r.vals,∃n,v= .num n)->(Txt.join " " r.words).length<=899:=fun h1 h2=>big 6 84 h1 (fun v hv=>by
    obtain⟨n,e⟩:=h2 v hv
    exact(vlT_len (lt v hv)).2 n e) (by decide) (by decide)
  cases r with
  |rail v cs=>exact big 13 8 (by show (cs.map _).length+1<=8;rw[Ya];have:=h.2.1.2;omega) (fun v hv=>(vlT_len (lt v hv)).1) (by decide) (by decide)
  |hand k n ds=>exact nums (by show ((k::n::ds).map Vl.num).length<=84;rw[Ya];have:=h.2.2.1;show ds.length+1+1<=84;omega) fun v hv=>by obtain⟨n,_,rfl⟩:=YI.mp (show v∈(k::n::ds).map Vl.num from hv);exact⟨n,rfl⟩
  |thing k n g ds=>exact nums (by show ((k::n::g::ds).map Vl.num).length<=84;rw[Ya];have:=h.2.2.2.1;show ds.length+1+1+1<=84;omega) fun v hv=>by obtain⟨n,_,rfl⟩:=YI.mp (show v∈(k::n::g::ds).map Vl.num from hv);exact⟨n,rfl⟩
  |wrong k t=>exact nums (by decide:2<=84) fun v hv=>by rcases Yr.mp hv with rfl | hv;exact⟨_,rfl⟩;exact⟨_,Yg.mp hv⟩
  |got k=>exact nums (by decide:1<=84) fun v hv=>⟨_,Yg.mp hv⟩
  |waits k=>exact nums (by decide:1<=84) fun v hv=>⟨_,Yg.mp hv⟩
  |things k t=>exact nums (by decide:2<=84) fun v hv=>by rcases Yr.mp hv with rfl | hv;exact⟨_,rfl⟩;exact⟨_,Yg.mp hv⟩
  |stance k=>exact nums (by decide:1<=84) fun v hv=>⟨_,Yg.mp hv⟩
  |faults k=>exact nums (by decide:1<=84) fun v hv=>⟨_,Yg.mp hv⟩
  | draw k s e=>
    refine nums (by decide:3<=84) fun v hv=>?_
    rcases Yr.mp hv with rfl | hv
    · exact⟨_,rfl⟩
    · rcases Yr.mp hv with rfl | hv
      · exact⟨_,rfl⟩
      · exact⟨_,Yg.mp hv⟩
def slB:Stmt->Expr
  |.Assign _ (.Subscript _ i _) _=>i
  |_=> .Constant .none 0 ⟨0,0,0,0⟩
def vtL:List Nat:=[1,3,5,1,3,5,1,3,5,0,2,4,6,7]
def stB (s:Stmt)(i:Nat):Stmt:=(defBody s).getD i (.Pass ⟨0,0,0,0⟩)
def rfW:Rf->Str
  |.post=>"post"
  |.frame=>"frame"
  |.name=>"name"
  |.thing=>"thing"
  |.rail=>"rail"
/-- texts of low signs -/
def Low (x:Str):Prop:=∀c∈x.cps.toList,c<1000
theorem Low.ok {x:Str}(h:Low x):PyData.strOk x=true:=by
  unfold PyData.strOk
  rw[<-Array.all_toList,Yu]
  exact fun c hc=>Yw (XM (h c hc) (by decide))
theorem Low.app {x y:Str}(h:Low x)(g:Low y):Low (x++y):=fun c hc=>by
  rw[app_cps]at hc
  exact(YG.mp hc).elim (h c) (g c)
theorem Low.num (n:Nat):Low (num n):=fun c hc=>by
  rw[num_cps]at hc
  have h:=dgs_fg (n+1) n (by omega) (XM (Xq _) (Nat.lt_pow_self (by decide)))
  have:=fg_dig (n+1) n c (by rw[<-h.2.2];exact YD _ hc)
  omega
theorem Low.join {z:Str}(hz:Low z):∀{ts:List Str},(∀t∈ts,Low t)->Low (Txt.join z ts)
  |[],_=>by rw[join_glue];exact fun c hc=>by cases hc
  |[x],h=>by rw[join_glue];exact h x (Yo ..)
  | x::y::r,h=>by
    have i:=Low.join hz (ts:=y::r) fun t ht=>h t (Yf _ ht)
    rw[join_glue]at i ⊢
    exact(Low.app (Low.app (h x (Yo ..)) hz) i:Low (x++z++Str.join z (y::r)))
theorem low_lit {x:Str}(h:(x.cps.toList.all fun c=>decide (c<1000))=true):Low x:=fun c hc=>Y3 (Yu.mp h c hc)
theorem frT_low {f:Fr}(h:FrN f):Low (frT f):=by
  refine((Low.num f.1).app (low_lit (by decide +kernel))).app (Low.join (low_lit (by decide +kernel)) fun t ht=>?_)
  obtain⟨d,hd,rfl⟩:=YI.mp ht
  obtain⟨n,rfl,_⟩:=byt_nat (Yu.mp h.2.2 d hd)
  exact Low.num n
theorem frsT_low {fs:List Fr}(h:∀f∈fs,FrN f):Low (frsT fs):=Low.join (low_lit (by decide +kernel)) fun t ht=>by
  obtain⟨f,hf,rfl⟩:=YI.mp ht
  exact frT_low (h f hf)
theorem dv_ss {K:W.Frag}{H:Hp}{t:Addr}{a b:Str}(e:H t=some (.tup [.str a,.str b])):DV K H (.ref t) (.tuple [.str a,.str b]):= .tup (SqT.of e) (.cons (.str _) (.cons (.str _) .nil))
theorem shaped_ss {a b:Str}(h1:Low a)(h2:Low b):SeqAt.shaped (.tuple [.str a,.str b])=true:=by
  unfold SeqAt.shaped
  rw[YT]
  refine⟨by simp only[PyData.canLay0,PyData.canLayAll0,h1.ok,h2.ok,Bool.and_self],Yw ?_⟩
  simp only[PyData.depth,PyData.depthAll]
  decide
theorem rfW_low (e:Rf):Low (rfW e):=by cases e <;> exact low_lit (by decide +kernel)
/-! the rows' own state of the law -/
def lawC (L D:Addr)(ls:List Addr)(R:RS):List (Addr×HO):=(L,.lst (ls.map V.ref))::(D,.dK R.ow)::List.zipWith (fun a S=>(a,HO.lst ((S.wt.map frT).map V.str))) ls R.ps
def LawV (H:Hp)(lc:Own)(sv:V):Option RS->Prop
  |none=>sv= .non
  |some R=>∃t L D ls,sv= .ref t/\H t=some (.tup [.ref L,.ref D])/\CellsAt H (lawC L D ls R)/\ls.length=R.ps.length/\∀(j:Nat)(c:Addr×HO),(lawC L D ls R)[j]? =some c->lc c.1
structure JJ (C CR:Addr)(A:Cs)(H:Hp)(d:Addr)(sv:V)(st sl:Option RS)(wp:Wp)(o:Own)(w:DeskW)(lc:Own):Prop where
  dk:DeskAt C CR A H d st wp o w
  lw:LawV H lc sv sl
  dj:∀x,lc x->¬ o x
  al:∀x,lc x->H x≠none
section
variable {C CR:Addr}{A:Cs}{H H':Hp}{d:Addr}{sv sv':V}{st st' sl sl':Option RS}{wp wp':Wp}{o o':Own}{w w':DeskW}{lc lc':Own}
theorem LawV.keep (h:LawV H lc sv sl)(g:∀x v,H x=some v->(lc x\/isT v)->H' x=some v):LawV H' lc sv sl:=by
  cases sl with
  |none=>exact h
  | some R=>
    obtain⟨t,L,D,ls,h1,h2,h3,h4,h5⟩:=h
    exact⟨t,L,D,ls,h1,g _ _ h2 (.inr ⟨_,rfl⟩),h3.keep fun j c hc=>g _ _ (h3.at_ j c hc) (.inl (h5 j c hc)),h4,h5⟩
/-- the desk was asked -/
theorem JJ.asked (h:JJ C CR A H d sv st sl wp o w lc)(hD:DeskAt C CR A H' d st' wp' o' w')(m:Mv o H o' H'):JJ C CR A H' d sv st' sl wp' o' w' lc/\Mv (Or2 o lc) H (Or2 o' lc) H':=by
  have kl:∀x,lc x->∃v,H x=some v/\H' x=some v:=fun x hx=>by
    cases e:H x with
    |none=>exact absurd e (h.al x hx)
    |some v=>exact⟨v,rfl,m.1 x v e (.inl (h.dj x hx))⟩
  refine⟨⟨hD,h.lw.keep fun x v e z=>m.1 x v e (z.imp_left (h.dj x)),fun x hx z=>?_,fun x hx=>?_⟩,fun x v e z=>m.1 x v e (z.imp_left fun y q=>y (.inl q)),fun x hx=>?_⟩
  · obtain⟨v,e,_⟩:=kl x hx
    exact m.out e (h.dj x hx) z
  · obtain⟨v,_,e⟩:=kl x hx
    rw[e];simp
  · rcases hx with hx | hx
    · exact(m.2 x hx).imp .inl id
    · exact .inl (.inr hx)
/-- the law's own state moves -/
theorem JJ.moved (h:JJ C CR A H d sv st sl wp o w lc)(hl:LawV H' lc' sv' sl')(al:∀x,lc' x->H' x≠none)(m:Mv lc H lc' H'):JJ C CR A H' d sv' st sl' wp o w lc'/\Mv (Or2 o lc) H (Or2 o lc') H':=by
  refine⟨⟨h.dk.move fun x v e z=>m.1 x v e (z.imp_left fun y q=>h.dj x q y),hl,fun x hx z=>?_,al⟩,fun x v e z=>m.1 x v e (z.imp_left fun y q=>y (.inr q)),fun x hx=>?_⟩
  · rcases m.2 x hx with y | y
    · exact h.dj x y z
    · exact h.dk.al x z y
  · rcases hx with hx | hx
    · exact .inl (.inl hx)
    · exact(m.2 x hx).imp .inr id
theorem JJ.same (h:JJ C CR A H d sv st sl wp o w lc)(g:Same H H'):JJ C CR A H' d sv st sl wp o w lc:=(h.asked (h.dk.same g) (Mv.of g)).1
end
def spMix:Sp:=fun vs H Q _=>∃v k m:Int,vs= [.int v,.int k,.int m]/\0<=k/\k<=100000/\0<m/\∀r:Nat,((r:Nat):Int)<m->Q (.int ((r:Nat):Int)) H
def spByte8:Sp:=fun vs H Q _=>∃v k:Int,vs= [.int v,.int k]/\0<=k/\k<=1000/\∀r:Nat,r<10 ^ 6->Q (.int ((r:Nat):Int)) H
def spRail8:Sp:=fun vs H Q _=>∃v:Int,vs= [.int v]/\∀t cl xs (vt:Nat)(cs:List (Nat×Nat)) H',H t=none->H' t=some (.tup [.int ((vt:Nat):Int),.ref cl])->H' cl=some (.lst xs)->VlsAt H' xs (cs.map fun c:Nat×Nat=> .cho c.1 c.2)->vt<=7->(1<=cs.length/\cs.length<=6)->(∀c∈cs,c.1<=260/\c.2<256)->Same H H'->H cl=none->Q (.ref t) H'
def spName8 (K:W.Frag):Sp:=fun vs H Q _=>∃(v:Int)(nl:Addr)(ns:List Nat),vs= [.int v,.ref nl]/\H nl=some (.lst ((itg ns).map V.int))/\ns.length=4/\(∀n∈ns,n<256)/\∀r:Nat,r<=300->Q (.int ((r:Nat):Int)) H
def spData8:Sp:=fun vs H Q _=>∃(v:Int)(b:Bool),vs= [.int v,.bl b]/\∀(p:Addr)(ds:List Nat) H',H p=none->Same H H'->H' p=some (.lst ((itg ds).map V.int))->ds.length<=80->(∀d∈ds,d<10 ^ 6)->Q (.ref p) H'
def goodB (ds:List Int):Bool:=ds.all fun d=>decide (d<=255)
def spGood8 (K:W.Frag):Sp:=fun vs H Q _=>∃(a:Addr)(ds:List Int),vs= [.ref a]/\SqL K H a (ds.map V.int)/\Q (.bl (goodB ds)) H
def spPcs8 (K:W.Frag):Sp:=fun vs H Q _=>∃(g:Int)(a:Addr)(th:List Int),vs= [.int g,.ref a]/\SqL K H a (th.map V.int)/\th.length<=500/\∀p qs H',H p=none->Same H H'->H' p=some (.lst (qs.map V.ref))->qs.length=nP th->Pcs H' g (nP th) th qs->(∀q∈qs,H q=none)->Q (.ref p) H'
/-- what the law is told by the desk -/
inductive AnsF (st:Option RS)(wp:Wp):Except Rf (Str×Option RS×Wp)->Option RS->Wp->Str->Str->Prop
  |err (e:Rf):AnsF st wp (.error e) st wp "refused" (rfW e)
  |ok (s:Str) (st':Option RS) (wp':Wp):AnsF st wp (.ok (s,st',wp')) st' wp' "told" s
def spAsked8 (K:W.Frag)(C CR:Addr)(A:Cs):Sp:=fun vs H Q _=>∃d st wp o w row n tx,vs= [.ref d,.str tx]/\tx=Txt.join " " row.words/\DeskAt C CR A H d st wp o w/\row.fine/\(∀R,st=some R->Z83 R n)/\n<=800/\wp.length<=800/\
  ∀t H' st2 wp2 o2 dw2 w1 w2,DeskAt C CR A H' d st2 wp2 o2 dw2->Mv o H o2 H'->H' t=some (.tup [.str w1,.str w2])->AnsF st wp (deskP st wp row) st2 wp2 w1 w2->Q (.ref t) H'
def ordR:List Rf:=[.rail,.thing,.post,.frame,.name]
def wordsR (e:Rf)(i:Nat):List Str:=((ordR.take i).filter fun x=>decide (e=x)).map rfW
theorem wordsR_5 (e:Rf):wordsR e 5= [rfW e]:=by cases e <;> rfl
theorem wordsR_succ (e:Rf){i:Nat}{x:Rf}(h:ordR[i]? =some x):wordsR e (i+1)=if e=x then wordsR e i++[rfW x] else wordsR e i:=by
  unfold wordsR
  rw[List.take_succ,h,List.filter_append,Yi]
  by_cases c:e=x
  · rw[if_pos c,show List.filter (fun y=>decide (e=y)) (some x).toList= [x] from by simp[c]]
    rfl
  · rw[if_neg c,show List.filter (fun y=>decide (e=y)) (some x).toList= [] from by simp[c],Xr,YZ]
theorem putK_idem (kvs:List (Key×V))(k:Key)(v:V):putK (putK kvs k v) k v=putK kvs k v:=by
  have h1:((putK kvs k v).any fun kv=>decide (kv.1=k))=true:=by rw[valV_any,valV_put,if_pos rfl];rfl
  show (if ((putK kvs k v).any fun kv=>decide (kv.1=k))=true then (putK kvs k v).map (fun kv=>if kv.1=k then (kv.1,v) else kv) else _)=_
  rw[if_pos h1]
  have h2:∀x∈putK kvs k v,x.1=k->x.2=v:=by
    unfold putK
    split
    · intro x hx e
      obtain⟨y,_,rfl⟩:=YI.mp hx
      by_cases c:y.1=k
      · rw[if_pos c]
      · rw[if_neg c]at e;exact absurd e c
    · rename_i z
      intro x hx e
      rcases YG.mp hx with hx | hx
      · exact absurd (List.any_eq_true.mpr ⟨x,hx,Yw e⟩) z
      · rw[Yg.mp hx]
  refine(List.map_congr_left fun x hx=>?_).trans (List.map_id _)
  by_cases c:x.1=k
  · rw[if_pos c]
    show (x.1,v)=x
    rw[<-h2 x hx c]
  · rw[if_neg c];rfl
/-- all the frames of one name,handed one by one -/
theorem handL_all {k n:Nat}:∀{rs:List (List Int)}{R:RS}{S:PS},rs≠ []->R.ps[k]? =some S->(∀r∈rs,FrOk ((n:Nat):Int) r)->(valV R.ow (.inl ((n:Nat):Int))).getD (.int ((k:Nat):Int))= .int ((k:Nat):Int)->
    handL k n rs R= .ok { R with ps:=R.ps.set k { S with wt:=S.wt++rs.map fun r=>(n,r) },ow:=putK R.ow (.inl ((n:Nat):Int)) (.int ((k:Nat):Int)) }
  |[],_,_,h,_,_,_=>absurd rfl h
  | [r],R,S,_,eS,f,c=>by
    show (match handR R k n r with | .error e=>Except.error e | .ok R'=>handL k n [] R')=_
    rw[handR_ok eS (f r (Yo ..)) c]
    rfl
  | r::s::rs,R,S,_,eS,f,c=>by
    show (match handR R k n r with | .error e=>Except.error e | .ok R'=>handL k n (s::rs) R')=_
    rw[handR_ok eS (f r (Yo ..)) c]
    show handL k n (s::rs) _=_
    have hk:k<R.ps.length:=(Yb.mp eS).1
    rw[handL_all (S:={ S with wt:=S.wt++[(n,r)] }) (by simp) (by show (R.ps.set k _)[k]? =_;rw[Xm,if_pos rfl,if_pos hk]) (fun x hx=>f x (Yf _ hx)) (by show (valV (putK R.ow _ _) _).getD _=_;rw[valV_put,if_pos rfl];rfl)]
    refine YE Except.ok ?_
    show ({ ps:=(R.ps.set k _).set k _,ow:=putK (putK R.ow _ _) _ _,bo:=R.bo,sa:=R.sa,he:=R.he,ev:=R.ev }:RS)=_
    rw[putK_idem,List.set_set]
    congr 2
    show ({ S with wt:=(S.wt++[(n,r)])++_ }:PS)=_
    rw[Y7]
    rfl
theorem Z83.le {R:RS}{m m':Nat}(h:Z83 R m)(l:m<=m'):Z83 R m':=⟨fun S hS=>let ⟨a,b,c,d⟩:=h.ps S hS;⟨a,b,c,Ye d l⟩,Ye h.ow l,h.owI,h.he⟩
theorem Z83.handL {k n:Nat}:∀{rs:List (List Int)}{R R':RS}{m:Nat},Z83 R m->handL k n rs R= .ok R'->Z83 R' (m+rs.length)
  |[],_,_,_,h,e=>by cases e;exact h
  | r ::rs,R,R',m,h,e=>by
    have e':(match handR R k n r with | .error e=>Except.error e | .ok R'=>My.handL k n rs R')= .ok R':=e
    cases e1:handR R k n r with
    |error x=>rw[e1]at e';cases e'
    | ok R1=>
      rw[e1]at e'
      have:=Z83.handL (h.hand e1) (show My.handL k n rs R1= .ok R' from e')
      rw[YX,show m+(rs.length+1)=m+1+rs.length from by omega]
      exact this
theorem zip_set {α β γ:Type}{f:α->β->γ}:∀{ls:List α}{ps:List β}{k:Nat}{a:α}{b:β},ls[k]? =some a->List.zipWith f ls (ps.set k b)=(List.zipWith f ls ps).set k (f a b)
  |[],_,_,_,_,h=>by cases h
  |_::_, [],_,_,_,_=>by simp
  |x::ls,p::ps,0,a,b,h=>by cases h;rfl
  | x::ls,p::ps,k+1,a,b,h=>by
    show f x p::List.zipWith f ls (ps.set k b)=f x p::(List.zipWith f ls ps).set k (f a b)
    rw[zip_set (k:=k) h]
theorem join_cons {x y:Str}{r:List Str}:Txt.join " " (x::y::r)=x++" "++Txt.join " " (y::r):=by
  rw[join_glue,join_glue]
  rfl
/-- the rows that the law hands on -/
structure RwAt (H:Hp)(lc:Own)(rl:Addr)(rs:List (List Int))(qs:List Addr):Prop where
  el:H rl=some (.lst (qs.map V.ref))
  ln:qs.length=rs.length
  at_:∀(i:Nat) q r,qs[i]? =some q->rs[i]? =some r->H q=some (.lst (r.map V.int))
  nl:¬ lc rl
  nq:∀q∈qs,¬ lc q
def AlH (H H':Hp):Prop:=∀x,H x≠none->H' x≠none
theorem AlH.put {H:Hp}{a:Addr}{o:HO}:AlH H (upd H a o):=fun x hx=>by
  by_cases c:x=a
  · rw[c,upd_same];simp
  · rw[upd_ne c];exact hx
theorem AlH.of {H H':Hp}(g:Same H H'):AlH H H':=fun x hx=>by
  cases e:H x with
  |none=>exact absurd e hx
  |some v=>rw[g x v e];simp
theorem AlH.trans {H H1 H2:Hp}(a:AlH H H1)(b:AlH H1 H2):AlH H H2:=fun x hx=>b x (a x hx)
def spHanded8 (K:W.Frag):Sp:=fun vs H Q _=>∃t L D ls R lc k n rl rs qs nb,vs= [.ref t,.int ((k:Nat):Int),.int ((n:Nat):Int),.ref rl]/\H t=some (.tup [.ref L,.ref D])/\CellsAt H (lawC L D ls R)/\ls.length=R.ps.length/\(∀(j:Nat)(c:Addr×HO),(lawC L D ls R)[j]? =some c->lc c.1)/\RwAt H lc rl rs qs/\rs≠ []/\rs.length<=20/\(1<rs.length->∀r∈rs,r.length<=7/\r.all byt=true)/\(∀r∈rs,∀x∈r,0<=x)/\n<10 ^ 6/\Z83 R nb/\nb<=700/\
  (∀e,handL k n rs R= .error e->Q (.str (rfW e)) H)/\(∀R',handL k n rs R= .ok R'->∀H',LawV H' lc (.ref t) (some R')->Mv lc H lc H'->AlH H H'->Q (.str "") H')

theorem set_self {α:Type}{l:List α}{k:Nat}{x:α}(h:l[k]? =some x):l.set k x=l:=by
  obtain⟨hk,rfl⟩:=Yb.mp h
  exact List.set_getElem_self hk

structure J8 (C CR:Addr)(A:Cs)(H:Hp)(d:Addr)(sv:V)(st:Option RS)(nb:Nat)(oo:Own):Prop where
  ex:∃wp o w lc,JJ C CR A H d sv st st wp o w lc/\(∀R,st=some R->Z83 R nb)/\wp.length<=nb/\oo=Or2 o lc
theorem J8.same {C CR:Addr}{A:Cs}{H H':Hp}{d:Addr}{sv:V}{st:Option RS}{nb:Nat}{oo:Own}(h:J8 C CR A H d sv st nb oo)(g:Same H H'):J8 C CR A H' d sv st nb oo:=
  let ⟨wp,o,w,lc,j,z,l,e⟩:=h.ex;⟨wp,o,w,lc,j.same g,z,l,e⟩
theorem J8.le {C CR:Addr}{A:Cs}{H:Hp}{d:Addr}{sv:V}{st:Option RS}{nb nb':Nat}{oo:Own}(h:J8 C CR A H d sv st nb oo)(g:nb<=nb'):J8 C CR A H d sv st nb' oo:=
  let ⟨wp,o,w,lc,j,z,l,e⟩:=h.ex;⟨wp,o,w,lc,j,fun R hR=>(z R hR).le g,Ye l g,e⟩
def spHandStep8 (K:W.Frag)(C CR:Addr)(A:Cs):Sp:=fun vs H Q _=>∃d sv st nb oo c nl ns k,vs= [.ref d,sv,.int c,.ref nl,.int ((k:Nat):Int)]/\J8 C CR A H d sv st nb oo/\nb<=700/\k<=10/\H nl=some (.lst ((itg ns).map V.int))/\ns.length=4/\(∀n∈ns,n<256)/\∀H' st' oo',J8 C CR A H' d sv st' (nb+16) oo'->Mv oo H oo' H'->Q (.bl true) H'
def spRailStep8 (K:W.Frag)(C CR:Addr)(A:Cs):Sp:=fun vs H Q _=>∃d sv st nb oo c,vs= [.ref d,sv,.int c]/\J8 C CR A H d sv st nb oo/\nb<=700/\∀t sv' st' H' oo',H' t=some (.tup [sv',.bl true])->J8 C CR A H' d sv' st' (nb+16) oo'->Mv oo H oo' H'->Q (.ref t) H'
def spStep8 (K:W.Frag)(C CR:Addr)(A:Cs):Sp:=fun vs H Q _=>∃d sv st nb oo c nl ns,vs= [.ref d,sv,.int c,.ref nl]/\J8 C CR A H d sv st nb oo/\nb<=700/\H nl=some (.lst ((itg ns).map V.int))/\ns.length=4/\(∀n∈ns,n<256)/\∀t sv' st' H' oo',H' t=some (.tup [sv',.bl true])->J8 C CR A H' d sv' st' (nb+16) oo'->Mv oo H oo' H'->Q (.ref t) H'
/-- the row of a hand or a thing -/
def hRow (b:Bool)(k n g:Nat)(ds:List Nat):Row8:=if b then .thing k n g ds else .hand k n ds
def hNum (b:Bool)(k n g:Nat)(ds:List Nat):List Nat:=k::n::((if b then [g] else [])++ds)
def hRows (b:Bool)(g:Nat)(ds:List Nat):List (List Int):=if b then pieces ((g:Nat):Int) (itg ds) else [itg ds]
theorem hRow_words (b:Bool)(k n g:Nat)(ds:List Nat):Txt.join " " (hRow b k n g ds).words=(if b then ("thing ":Str) else "hand ")++Txt.join " " ((hNum b k n g ds).map num):=by
  have e1:("thing ":Str)="thing"++" ":=by decide +kernel
  have e2:("hand ":Str)="hand"++" ":=by decide +kernel
  cases b with
  | true=>
    show Txt.join " " ("thing"::((k::n::g::ds).map Vl.num).map vlT)=("thing ":Str)++Txt.join " " ((k::n::g::ds).map num)
    rw[e1,Xp]
    exact join_cons
  | false=>
    show Txt.join " " ("hand"::((k::n::ds).map Vl.num).map vlT)=("hand ":Str)++Txt.join " " ((k::n::ds).map num)
    rw[e2,Xp]
    exact join_cons
theorem hRow_fine {b:Bool}{k n g:Nat}{ds:List Nat}(hk:k<=10)(hn:n<=300)(hg:g<10 ^ 6)(hl:ds.length<=80)(hd:∀d∈ds,d<10 ^ 6):(hRow b k n g ds).fine:=by
  cases b with
  |true=>exact⟨by omega,by omega,hg,by omega,hd⟩
  |false=>exact⟨by omega,by omega,by omega,hd⟩
theorem hRow_ans {b:Bool}{R:RS}{wp:Wp}{k n g:Nat}{ds:List Nat}(t:b=true->TgOk ((g:Nat):Int) (itg ds)):(∀e,handL k n (hRows b g ds) R= .error e->deskP (some R) wp (hRow b k n g ds)= .error e)/\∀R',handL k n (hRows b g ds) R= .ok R'->deskP (some R) wp (hRow b k n g ds)= .ok (if b then "ok "++num (nP (itg ds)) else "ok",some R',wp):=by
  cases b with
  |true=>exact ans_thing (t rfl)
  | false=>
    have h1:handL k n [itg ds] R=handR R k n (itg ds):=by
      show (match handR R k n (itg ds) with | .error e=>Except.error e | .ok R'=>handL k n [] R')=_
      cases handR R k n (itg ds) <;> rfl
    exact⟨fun e h=>ans_hand.1 e (h1.symm.trans h),fun R' h=>ans_hand.2 R' (h1.symm.trans h)⟩
theorem hRows_ok {b:Bool}{g:Nat}{ds:List Nat}(t:b=true->TgOk ((g:Nat):Int) (itg ds)):hRows b g ds≠ []/\(hRows b g ds).length<=20/\(hRows b g ds).length<=15+1/\(1<(hRows b g ds).length->∀r∈hRows b g ds,r.length<=7/\r.all byt=true)/\∀r∈hRows b g ds,∀x∈r,0<=x:=by
  cases b with
  | false=>
    refine⟨by unfold hRows;simp,by unfold hRows;simp,by unfold hRows;simp,fun h=>absurd h (by unfold hRows;simp),fun r hr x hx=>?_⟩
    rw[Yg.mp (show r∈ [itg ds] from hr)]at hx
    obtain⟨n,_,rfl⟩:=YI.mp hx
    exact Xw n
  | true=>
    have tg:=t rfl
    have n15:nP (itg ds)<=15:=by have:=tg.2.1;unfold nP;omega
    have n1:1<=nP (itg ds):=by unfold nP;omega
    have hl:(hRows true g ds).length=nP (itg ds):=by show ((List.range _).map _).length=_;rw[Ya,Xe]
    have all:∀r∈hRows true g ds,r.length<=7/\r.all byt=true:=fun r hr=>by
      obtain⟨j,hj,rfl⟩:=YI.mp (show r∈(List.range (nP (itg ds))).map _ from hr)
      exact⟨pc_len _ _ _ _,pc_byt tg (List.mem_range.mp hj)⟩
    refine⟨fun z=>by rw[z]at hl;exact absurd hl (by show ¬ 0=_;omega),by omega,by omega,fun _=>all,fun r hr x hx=>(byt_iff.mp (Yu.mp (all r hr).2 x hx)).1⟩

theorem log2_small {n:Nat}(h:n<10 ^ 6):n.log2<1920:=by
  rcases Nat.eq_zero_or_pos n with rfl | p
  · decide
  · exact(Nat.log2_lt (by omega)).mpr (XM h (Yv (by decide:10 ^ 6<2 ^ 20) (Nat.pow_le_pow_right (by decide) (by decide))))
theorem nums_len {ns:List Nat}(h:∀n∈ns,n<10 ^ 6):∀y∈ns.map num,y.length<=6:=fun y hy=>by
  obtain⟨n,hn,rfl⟩:=YI.mp hy
  exact num_len (h n hn)
theorem tg_iff {g:Nat}{ds:List Nat}:TgOk ((g:Nat):Int) (itg ds)↔ds.length<=75/\goodB ([((g:Nat):Int)]++itg ds)=true:=by
  have nn:∀x∈itg ds,0<=x:=fun x hx=>by
    obtain⟨n,_,rfl⟩:=YI.mp hx
    exact Xw n
  refine⟨fun ⟨h1,h2,h3⟩=>⟨by rw[Ya]at h2;exact h2,Yu.mpr fun x hx=>Yw ?_⟩,fun ⟨h1,h2⟩=>?_⟩
  · rcases Yr.mp hx with rfl | hx
    · exact(byt_iff.mp h1).2
    · exact(byt_iff.mp (Yu.mp h3 x hx)).2
  · have h3:=fun x hx=>Y3 (Yu.mp h2 x hx)
    exact⟨byt_iff.mpr ⟨Xw g,h3 _ (Yo ..)⟩,by rw[Ya];exact h1,Yu.mpr fun x hx=>byt_iff.mpr ⟨nn x hx,h3 x (Yf _ hx)⟩⟩
theorem repl_free {x:Str}(h:120∉x.cps.toList):Txt.replace x " x" ""=x:=by
  unfold Txt.replace
  rw[if_pos]
  rw[Bool.or_eq_true]
  left
  rw[List.isEmpty_iff]
  refine List.eq_nil_iff_forall_not_mem.mpr fun i hi=>h ?_
  have hs:=(StrLaws.occ_spec x " x" 0 x.length (x.length+1) i hi).2
  unfold Builtin.Str.subAt at hs
  have e:x.cps.extract i (i+(" x":Str).length)=(" x":Str).cps:=eq_of_beq hs
  have m:120∈(x.cps.extract i (i+(" x":Str).length)).toList:=by
    rw[e]
    decide +kernel
  rw[Array.toList_extract]at m
  exact List.mem_of_mem_drop (List.mem_of_mem_take m)
theorem join3 (a b:Str):Txt.join " " [a,b]=a++" "++b:=by rw[join_glue];rfl
theorem str_assoc (x y z:Str):x++y++z=x++(y++z):=str_ext (by rw[app_cps,app_cps,app_cps,app_cps,Y7])
/-- the rows of questions -/
def askRow (k t n s e:Nat):List Row8:=[.wrong k t,.got k,.waits k,.things k n,.faults k,.stance k,.draw k s e]
def askTx (k t n s e:Nat):List Str:=[("wrong ":Str)++(num k++" ")++num t,("got ":Str)++(num k++" ")++"x",("waits ":Str)++(num k++" ")++"x",("things ":Str)++(num k++" ")++num n,("faults ":Str)++(num k++" ")++"x",("stance ":Str)++(num k++" ")++"x",("draw ":Str)++(num k++" ")++num s++" "++num e]
theorem num_free {n:Nat}(h:n<10 ^ 6):120∉(num n).cps.toList:=fun z=>by
  rw[num_cps]at z
  have:=dgs_dig h 120 z
  omega
theorem free_app {x y:Str}(h:120∉x.cps.toList)(g:120∉y.cps.toList):120∉(x++y).cps.toList:=fun z=>by
  rw[app_cps]at z
  exact(YG.mp z).elim h g
theorem askX {w v:Str}(h:∀k,k<6->Txt.replace (w++(txt (dgs k)++" ")++"x") " x" ""=Txt.join " " [v,txt (dgs k)]){k:Nat}(hk:k<=5):Txt.replace (w++(num k++" ")++"x") " x" ""=Txt.join " " [v,num k]:=by
  have e:num k=txt (dgs k):=num_txt k
  rw[e]
  exact h k (by omega)
theorem ask3 {w v:Str}(e:w=v++" ")(a b:Str):w++(a++" ")++b=Txt.join " " [v,a,b]:=by
  rw[join_cons,join3,e]
  simp only[str_assoc]
set_option maxHeartbeats 2000000 in
theorem askTx_ok {k t n s e j:Nat}{tx:Str}(hk:k<=5)(ht:t<10 ^ 6)(hn:n<10 ^ 6)(hs:s<=900)(he:e<=400)(h:(askTx k t n s e)[j]? =some tx):tx.length<=900/\∃r,(askRow k t n s e)[j]? =some r/\r.fine/\Txt.replace tx " x" ""=Txt.join " " r.words:=by
  have k6:k<10 ^ 6:=by omega
  have s6:s<10 ^ 6:=by omega
  have e6:e<10 ^ 6:=by omega
  have hb:120∉(" ":Str).cps.toList:=by decide +kernel
  have l1:(" ":Str).length=1:=by decide +kernel
  have lx:("x":Str).length=1:=by decide +kernel
  have lk:=num_len k6
  have lt:=num_len ht
  have ln:=num_len hn
  have ls:=num_len s6
  have le:=num_len e6
  have l3:∀w b:Str,w.length<=7->b.length<=6->(w++(num k++" ")++b).length<=900:=fun w b h1 h2=>by rw[Yx,Yx,Yx,l1];omega
  match j,h with
  | 0,h=>
    cases h
    refine⟨l3 _ _ (by decide +kernel) lt,_,rfl,⟨k6,ht⟩,?_⟩
    rw[repl_free (free_app (free_app (by decide +kernel) (free_app (num_free k6) hb)) (num_free ht))]
    exact ask3 (v:="wrong") (by decide +kernel) _ _
  | 1,h=>
    cases h
    exact⟨l3 _ _ (by decide +kernel) (by rw[lx];decide),_,rfl,k6,askX (v:="got") (by decide +kernel) hk⟩
  | 2,h=>
    cases h
    exact⟨l3 _ _ (by decide +kernel) (by rw[lx];decide),_,rfl,k6,askX (v:="waits") (by decide +kernel) hk⟩
  | 3,h=>
    cases h
    refine⟨l3 _ _ (by decide +kernel) ln,_,rfl,⟨k6,hn⟩,?_⟩
    rw[repl_free (free_app (free_app (by decide +kernel) (free_app (num_free k6) hb)) (num_free hn))]
    exact ask3 (v:="things") (by decide +kernel) _ _
  | 4,h=>
    cases h
    exact⟨l3 _ _ (by decide +kernel) (by rw[lx];decide),_,rfl,k6,askX (v:="faults") (by decide +kernel) hk⟩
  | 5,h=>
    cases h
    exact⟨l3 _ _ (by decide +kernel) (by rw[lx];decide),_,rfl,k6,askX (v:="stance") (by decide +kernel) hk⟩
  | 6, h=>
    cases h
    refine⟨?_,_,rfl,⟨k6,by omega,by omega⟩,?_⟩
    · have:=l3 "draw " (num s) (by decide +kernel) ls
      have e4:("draw ":Str).length=5:=by decide +kernel
      rw[Yx,Yx,Yx,Yx,Yx,l1,e4]
      omega
    rw[repl_free (free_app (free_app (free_app (free_app (by decide +kernel) (free_app (num_free k6) hb)) (num_free s6)) hb) (num_free e6))]
    show _=Txt.join " " ["draw",num k,num s,num e]
    rw[join_cons,join_cons,join3,show ("draw ":Str)="draw"++" " from by decide +kernel]
    simp only[str_assoc]

theorem CellsAt.of_nodup {H:Hp}{L:List (Addr×HO)}(at_:∀(j:Nat)(c:Addr×HO),L[j]? =some c->H c.1=some c.2)(nd:(L.map (·.1)).Nodup):CellsAt H L:=
  ⟨at_,fun i j c d hi hj e=>by
    have h1:(L.map (·.1))[i]? =some c.1:=by rw[Yk,hi];rfl
    have h2:(L.map (·.1))[j]? =some c.1:=by rw[Yk,hj,e];rfl
    have hl:=(Yb.mp h1).1
    exact(List.getElem?_inj hl nd).mp (h1.trans h2.symm)⟩
theorem Z83.new {cs:List (Nat×Nat)}{v:Nat}(m:Nat):Z83 (R0 (chI cs) ((v:Nat):Int)) m:=by
  refine⟨fun S hS=>?_,YO _,fun i u hu=>?_,fun x hx=>List.eq_of_mem_replicate (show x∈List.replicate _ _ from hx)⟩
  · obtain⟨c,_,rfl⟩:=YI.mp (show S∈(chI cs).map _ from hS)
    exact⟨rfl,rfl,rfl,YO _⟩
  · cases hu
/-- the law's state of a new rail -/
theorem LawV.new {H:Hp}{t L D:Addr}{ls:List Addr}{cs:List (Nat×Nat)}{v:Nat}(et:H t=some (.tup [.ref L,.ref D]))(eL:H L=some (.lst (ls.map V.ref)))(eD:H D=some (.dK []))(hl:ls.length=cs.length)(hs:∀a∈ls,H a=some (.lst []))(nd:(L::D::ls).Nodup):LawV H (fun x=>x∈L::D::ls) (.ref t) (some (R0 (chI cs) ((v:Nat):Int))):=by
  have e1:lawC L D ls (R0 (chI cs) ((v:Nat):Int))=(L,.lst (ls.map V.ref))::(D,.dK [])::ls.map fun a=>(a,HO.lst []):=by
    show _::_::List.zipWith _ ls ((chI cs).map _)=_::_::_
    congr 2
    have hl2:ls.length=(chI cs).length:=by rw[Ya];exact hl
    generalize chI cs=ms at hl2
    clear hl nd hs eL
    induction ls generalizing ms with
    |nil=>rfl
    | cons a ls ih=>
      cases ms with
      |nil=>cases hl2
      |cons m ms=>exact YE _ (ih ms (Nat.succ.inj hl2))
  have mm:(lawC L D ls (R0 (chI cs) ((v:Nat):Int))).map (·.1)=L::D::ls:=by
    rw[e1,Yy,Yy,Xp]
    show L::D::ls.map id=_
    rw[List.map_id]
  refine⟨t,L,D,ls,rfl,et,CellsAt.of_nodup (fun j c hc=>?_) (by rw[mm];exact nd),by rw[hl];show cs.length=((chI cs).map _).length;rw[Ya,Ya],fun j c hc=>?_⟩
  · rw [e1]at hc
    match j,hc with
    |0,hc=>cases hc;exact eL
    |1,hc=>cases hc;exact eD
    | j+2,hc=>
      have hc':(ls.map fun a=>(a,HO.lst []))[j]? =some c:=hc
      rw[Yk]at hc'
      obtain⟨a,ha,rfl⟩:=YR.mp hc'
      exact hs a (Yq ha)
  · show c.1∈L::D::ls
    rw[<-mm]
    exact XJ (Yq hc)
theorem rl_iff {v:Nat}{cs:List (Nat×Nat)}(h1:1<=cs.length)(h2:∀c∈cs,c.2<256):RlOk v cs↔(v=1\/v=3\/v=5)/\cs.length<=5/\goodB (itg (cs.map (·.1)))=true:=by
  unfold RlOk PoOk
  refine⟨fun ⟨⟨_,b⟩,c⟩=>⟨?_,b,Yu.mpr fun x hx=>Yw ?_⟩,fun ⟨a,b,c⟩=>⟨⟨h1,b⟩,fun d hd=>⟨byt_iff.mpr ⟨Xw _,?_⟩,byt_iff.mpr ⟨Xw _,by have:=h2 d hd;omega⟩,by omega⟩⟩⟩
  · obtain⟨d,hd⟩:∃d,d∈cs:=⟨cs[0],YU h1⟩
    have:=(c d hd).2.2
    omega
  · obtain⟨y,hy,rfl⟩:=YI.mp hx
    obtain⟨d,hd,rfl⟩:=YI.mp hy
    exact(byt_iff.mp (c d hd).1).2
  · exact Y3 (Yu.mp c _ (XJ (XJ hd)))
theorem rail_words (v:Nat)(cs:List (Nat×Nat)):(Row8.rail v cs).words= [("rail":Str),num v]++cs.map fun c=>num c.1++"/"++num c.2:=by
  show ("rail":Str)::num v::(cs.map fun c=>Vl.cho c.1 c.2).map vlT=_
  rw[Xp]
  rfl

theorem desk_rail (st:Option RS)(wp:Wp){v:Nat}{cs:List (Nat×Nat)}:(RlOk v cs->deskP st wp (.rail v cs)= .ok ("ok",some (R0 (chI cs) ((v:Nat):Int)), []))/\(¬ RlOk v cs->deskP st wp (.rail v cs)= .error .post):=by
  cases st <;> exact⟨fun h=>if_pos h,fun h=>if_neg h⟩
def dueL (S:PS):List Str:=["ok","",frsT S.wt,"","0","free 0",""]
theorem ask_all {R:RS}{wp:Wp}{k t n s e j:Nat}{r:Row8}(h:(askRow k t n s e)[j]? =some r):deskP none wp r= .error .rail/\(R.ps.length<=k->deskP (some R) wp r= .error .post)/\∀S m,R.ps[k]? =some S->Z83 R m->∃wp' du,(dueL S)[j]? =some du/\deskP (some R) wp r= .ok (du,some R,wp')/\wp'.length<=wp.length+1:=by
  have np:R.ps.length<=k->∀f,askP R wp k f= .error .post:=fun hl f=>ask_none (Xa hl)
  match j,h with
  | 0,h=>
    cases h
    exact⟨rfl,fun hl=>if_neg (by omega),fun S m eS hz=>⟨wp++[(k,t)],"ok",rfl,if_pos (Yb.mp eS).1,by rw[Yj];exact Yc _⟩⟩
  | 1,h=>
    cases h
    refine⟨rfl,fun hl=>np hl _,fun S m eS hz=>⟨wp,_,rfl,(ask_some eS).trans ?_,Xx _⟩⟩
    rw[(hz.ps S (Yq eS)).2.2.1]
    rfl
  | 2,h=>
    cases h
    exact⟨rfl,fun hl=>np hl _,fun S m eS hz=>⟨wp,_,rfl,ask_some eS,Xx _⟩⟩
  | 3,h=>
    cases h
    exact⟨rfl,fun hl=>np hl _,fun S m eS hz=>⟨wp,_,rfl,ask_some eS,Xx _⟩⟩
  | 4, h=>
    cases h
    refine⟨rfl,fun hl=>np hl _,fun S m eS hz=>⟨wp,_,rfl,(ask_some eS).trans ?_,Xx _⟩⟩
    rw[(hz.ps S (Yq eS)).2.1]
    have:PySem.Str.ofString (toString (0:Int))="0":=by
      have e:num 0=txt (dgs 0):=num_txt 0
      exact e.trans (by decide +kernel)
    rw[this]
  | 5, h=>
    cases h
    refine⟨rfl,fun hl=>np hl _,fun S m eS hz=>⟨wp,_,rfl,(ask_some eS).trans ?_,Xx _⟩⟩
    rw[(hz.ps S (Yq eS)).1]
    have:("free":Str)++" "++num 0="free 0":=by
      have e:num 0=txt (dgs 0):=num_txt 0
      rw[e]
      decide +kernel
    exact YE (fun z=>Except.ok (z,some R,wp)) this
  | 6,h=>
    cases h
    exact⟨rfl,fun hl=>np hl _,fun S m eS hz=>⟨wp,_,rfl,ask_some eS,Xx _⟩⟩
theorem due_low {S:PS}{j:Nat}{du:Str}(hw:∀f∈S.wt,FrN f)(h:(dueL S)[j]? =some du):Low du:=by
  match j,h with
  |0,h=>cases h;exact low_lit (by decide +kernel)
  |1,h=>cases h;exact low_lit (by decide +kernel)
  |2,h=>cases h;exact frsT_low hw
  |3,h=>cases h;exact low_lit (by decide +kernel)
  |4,h=>cases h;exact low_lit (by decide +kernel)
  |5,h=>cases h;exact low_lit (by decide +kernel)
  |6,h=>cases h;exact low_lit (by decide +kernel)

def spLaw (K:W.Frag):Sp:=fun vs H Q _=>∃(a:Addr)(ns:List Int),vs= [.ref a]/\SqL K H a (ns.map V.int)/\ns.length<=63/\∀H',Q (.bl true) H'

abbrev FB (P:Program)(w:World)(K:W.Frag)(mg:Str->Option Value)(base:Heap)(CX:CXT)(k:Nat)(nm:Str)(a:Addr)(d:FuncData)(ps:List Str)(sp:Sp):Prop:=FnOk P w K mg base CX k a d ps sp/\Binds K d ps []/\W.keepIn K (.ref a)=true/\mg nm=some (.ref a)
abbrev MB (P:Program)(w:World)(K:W.Frag)(mg:Str->Option Value)(base:Heap)(CX:CXT)(k:Nat)(a:Addr)(d:FuncData)(ps:List Str)(sp:Sp):Prop:=FnOk P w K mg base CX k a d ps sp/\Binds K d ps []
abbrev FL (K:W.Frag)(f:Addr)(n q:Str)(st:Stmt)(oc:Value)(od:Option Addr)(kV dc pm:Value)(an:Option Addr)(cd ct:Value)(sl:Array (Option Value)):Prop:=K.lookup f=some ⟨oc,od,.func (W.fnOf n q (defArgs st) (defBody st) (defScope st) .none kV dc pm an cd ct),sl⟩
structure GFm (K:W.Frag)(mg:Str->Option Value)(nm:Str)(st:Stmt)(f:Addr)(d:FuncData):Prop where
  F:Fun K nm nm st f d
  m:mg nm=some (.ref f)
def GF (K:W.Frag)(mg:Str->Option Value)(nm:Str)(st:Stmt)(f:Addr):Prop:=∃d,GFm K mg nm st f d
def MF (K:W.Frag)(C:Addr)(x q:Str)(st:Stmt)(f:Addr):Prop:=W.findIn K (.ref C) x=some (some (.ref f))/\∃d,Fun K x q st f d
theorem gf_mk {K:W.Frag}{h:Heap}{mg:Str->Option Value}{nm:Str}{st:Stmt}{f:Addr}{oc kV dc pm cd ct:Value}{od an:Option Addr}{sl:Array (Option Value)}(X:K.In h)(G:h.Ns mainGlobals mg)(a:W.nsIn K mainGlobals nm=some (some (.ref f)))(l:FL K f nm nm st oc od kV dc pm an cd ct sl)(c:W.codeIn K cd nm=true)(k:W.keepIn K (.ref f)=true):GF K mg nm st f:=⟨_,fun_mk l c k,W.mg_of X G a⟩
theorem mf_mk {K:W.Frag}{C:Addr}{x q:Str}{st:Stmt}{f:Addr}{oc kV dc pm cd ct:Value}{od an:Option Addr}{sl:Array (Option Value)}(a:W.findIn K (.ref C) x=some (some (.ref f)))(l:FL K f x q st oc od kV dc pm an cd ct sl)(c:W.codeIn K cd q=true)(k:W.keepIn K (.ref f)=true):MF K C x q st f:=⟨a,_,fun_mk l c k⟩
abbrev HB (x q:Str)(st:Stmt)(ps:List Str):Prop:=∀(kV doc pm:Value)(an:Option Addr)(cdv ct:Value)(us:List Value),us.length=ps.length->bindArgs (W.fnOf x q (defArgs st) (defBody st) (defScope st) .none kV doc pm an cdv ct) ⟨us, []⟩=pure (ps.zip us)
theorem bi1 {d:FuncData}{a:Str}(h:∀u,bindArgs d ⟨[u], []⟩=pure [(a,u)]):∀us:List Value,us.length= [a].length->bindArgs d ⟨us, []⟩=pure ([a].zip us):=by
  intro us hl
  rcases us with _ | ⟨u,_ | ⟨w_,l_⟩⟩
  · simp at hl
  · exact h u
  · simp at hl
theorem bi2 {d:FuncData}{a b:Str}(h:∀u v,bindArgs d ⟨[u,v], []⟩=pure [(a,u),(b,v)]):∀us:List Value,us.length= [a,b].length->bindArgs d ⟨us, []⟩=pure ([a,b].zip us):=by
  intro us hl
  rcases us with _ | ⟨u,_ | ⟨v,_ | ⟨w_,l_⟩⟩⟩
  · simp at hl
  · simp at hl
  · exact h u v
  · simp at hl
theorem bi3 {d:FuncData}{a b c:Str}(h:∀u v x,bindArgs d ⟨[u,v,x], []⟩=pure [(a,u),(b,v),(c,x)]):∀us:List Value,us.length= [a,b,c].length->bindArgs d ⟨us, []⟩=pure ([a,b,c].zip us):=by
  intro us hl
  rcases us with _ | ⟨u,_ | ⟨v,_ | ⟨x,_ | ⟨w_,l_⟩⟩⟩⟩
  · simp at hl
  · simp at hl
  · simp at hl
  · exact h u v x
  · simp at hl
theorem bi4 {d:FuncData}{a b c e:Str}(h:∀u v x y,bindArgs d ⟨[u,v,x,y], []⟩=pure [(a,u),(b,v),(c,x),(e,y)]):∀us:List Value,us.length= [a,b,c,e].length->bindArgs d ⟨us, []⟩=pure ([a,b,c,e].zip us):=by
  intro us hl
  rcases us with _ | ⟨u,_ | ⟨v,_ | ⟨x,_ | ⟨y,_ | ⟨w_,l_⟩⟩⟩⟩⟩
  · simp at hl
  · simp at hl
  · simp at hl
  · simp at hl
  · exact h u v x y
  · simp at hl
theorem bi5 {d:FuncData}{a b c e f:Str}(h:∀u v x y z,bindArgs d ⟨[u,v,x,y,z], []⟩=pure [(a,u),(b,v),(c,x),(e,y),(f,z)]):∀us:List Value,us.length= [a,b,c,e,f].length->bindArgs d ⟨us, []⟩=pure ([a,b,c,e,f].zip us):=by
  intro us hl
  rcases us with _ | ⟨u,_ | ⟨v,_ | ⟨x,_ | ⟨y,_ | ⟨z,_ | ⟨w_,l_⟩⟩⟩⟩⟩⟩
  · simp at hl
  · simp at hl
  · simp at hl
  · simp at hl
  · simp at hl
  · exact h u v x y z
  · simp at hl
theorem sco {N ps:List Str}{sc:Scope}(h1:sc.kind= .function/\sc.isCoroutine=false/\sc.isGenerator=false)(h2:N.Nodup/\N.take ps.length=ps/\(∀x∈ps,sc.names.lookup x=some .local\/sc.names.lookup x=some .cell)/\∀y∈sc.names,y.2≠ .free):FnScope N ps sc:=⟨h1.1,h1.2.1,h1.2.2,h2.1,h2.2.1,h2.2.2.1,h2.2.2.2⟩
section
variable {P:Program}{w:World}{K:W.Frag}{mg:Str->Option Value}{base:Heap}{CX:CXT}{x q:Str}{st:Stmt}{f:Addr}{fd:FuncData}{ps:List Str}{k:Nat}{sp:Sp}
theorem mbM (N:List Str)(F:Fun K x q st f fd)(g:FnScope N ps (defScope st)->FnOk P w K mg base CX k f fd ps sp)(S:FnScope N ps (defScope st):=by exact sco ⟨rfl,rfl,rfl⟩ (by decide +kernel))
    (hb:HB x q st ps:=by first | exact fun _ _ _ _ _ _=>bi1 fun _=>rfl | exact fun _ _ _ _ _ _=>bi2 fun _ _=>rfl | exact fun _ _ _ _ _ _=>bi3 fun _ _ _=>rfl | exact fun _ _ _ _ _ _=>bi4 fun _ _ _ _=>rfl | exact fun _ _ _ _ _ _=>bi5 fun _ _ _ _ _=>rfl | exact fun _ _ _ _ _ _=>bi6 fun _ _ _ _ _ _=>rfl | exact fun _ _ _ _ _ _=>bi7 fun _ _ _ _ _ _ _=>rfl | exact fun _ _ _ _ _ _=>bi0 rfl):MB P w K mg base CX k f fd ps sp:=⟨g S,F.binds hb⟩
theorem fbM (N:List Str)(F:GFm K mg x st f fd)(g:FnScope N ps (defScope st)->FnOk P w K mg base CX k f fd ps sp)(S:FnScope N ps (defScope st):=by exact sco ⟨rfl,rfl,rfl⟩ (by decide +kernel))
    (hb:HB x x st ps:=by first | exact fun _ _ _ _ _ _=>bi1 fun _=>rfl | exact fun _ _ _ _ _ _=>bi2 fun _ _=>rfl | exact fun _ _ _ _ _ _=>bi3 fun _ _ _=>rfl | exact fun _ _ _ _ _ _=>bi4 fun _ _ _ _=>rfl | exact fun _ _ _ _ _ _=>bi5 fun _ _ _ _ _=>rfl | exact fun _ _ _ _ _ _=>bi6 fun _ _ _ _ _ _=>rfl | exact fun _ _ _ _ _ _=>bi7 fun _ _ _ _ _ _ _=>rfl | exact fun _ _ _ _ _ _=>bi0 rfl):FB P w K mg base CX k x f fd ps sp:=⟨g S,F.F.binds hb,F.F.kp,F.m⟩
theorem mbK (N:List Str)(F:Fun K x q st f fd)(hbody:∀{cdv:Value}{A:Around}{outer:List Env}{s:Shared}{vs:List V}{E:XK}(H:Hp)(Q:VK),N.Nodup->Room k (A.deeper (PyProof.Rows.envOfC q (defScope st) s.heap.objs.size f cdv))->sp vs H Q E->∃t,PSs (cxOf CX0 P w K mg base N q (defScope st) f cdv A outer s H E).nox (defBody st) t/\t { nx:=fun _ H'=>Q .non H',rt:=Q } (start N vs) H)(len:∀(vs:List V)(H:Hp)(Q:VK)(E:XK),sp vs H Q E->vs.length=ps.length:=by intro _ _ _ _ h;repeat (first | (obtain⟨rfl,_⟩:=h;exact rfl) | obtain⟨_,h⟩:=h))(S:FnScope N ps (defScope st):=by exact sco ⟨rfl,rfl,rfl⟩ (by decide +kernel))
    (hb:HB x q st ps:=by first | exact fun _ _ _ _ _ _=>bi1 fun _=>rfl | exact fun _ _ _ _ _ _=>bi2 fun _ _=>rfl | exact fun _ _ _ _ _ _=>bi3 fun _ _ _=>rfl | exact fun _ _ _ _ _ _=>bi4 fun _ _ _ _=>rfl | exact fun _ _ _ _ _ _=>bi5 fun _ _ _ _ _=>rfl | exact fun _ _ _ _ _ _=>bi6 fun _ _ _ _ _ _=>rfl | exact fun _ _ _ _ _ _=>bi7 fun _ _ _ _ _ _ _=>rfl | exact fun _ _ _ _ _ _=>bi0 rfl):MB P w K mg base CX0 (k+1) f fd ps sp:=⟨F.ok S len fun _ _ _ _ _ _ _ _ hr=>hbody _ _ S.nd hr,F.binds hb⟩
theorem fbK (N:List Str)(F:GFm K mg x st f fd)(hbody:∀{cdv:Value}{A:Around}{outer:List Env}{s:Shared}{vs:List V}{E:XK}(H:Hp)(Q:VK),N.Nodup->Room k (A.deeper (PyProof.Rows.envOfC x (defScope st) s.heap.objs.size f cdv))->sp vs H Q E->∃t,PSs (cxOf CX0 P w K mg base N x (defScope st) f cdv A outer s H E).nox (defBody st) t/\t { nx:=fun _ H'=>Q .non H',rt:=Q } (start N vs) H)(len:∀(vs:List V)(H:Hp)(Q:VK)(E:XK),sp vs H Q E->vs.length=ps.length:=by intro _ _ _ _ h;repeat (first | (obtain⟨rfl,_⟩:=h;exact rfl) | obtain⟨_,h⟩:=h))(S:FnScope N ps (defScope st):=by exact sco ⟨rfl,rfl,rfl⟩ (by decide +kernel))
    (hb:HB x x st ps:=by first | exact fun _ _ _ _ _ _=>bi1 fun _=>rfl | exact fun _ _ _ _ _ _=>bi2 fun _ _=>rfl | exact fun _ _ _ _ _ _=>bi3 fun _ _ _=>rfl | exact fun _ _ _ _ _ _=>bi4 fun _ _ _ _=>rfl | exact fun _ _ _ _ _ _=>bi5 fun _ _ _ _ _=>rfl | exact fun _ _ _ _ _ _=>bi6 fun _ _ _ _ _ _=>rfl | exact fun _ _ _ _ _ _=>bi7 fun _ _ _ _ _ _ _=>rfl | exact fun _ _ _ _ _ _=>bi0 rfl):FB P w K mg base CX0 (k+1) x f fd ps sp:=⟨F.F.ok S len fun _ _ _ _ _ _ _ _ hr=>hbody _ _ S.nd hr,F.F.binds hb,F.F.kp,F.m⟩
end
section
variable (P:Program)(w:World){K:W.Frag}(mg:Str->Option Value)(base:Heap)(CA:Cs)
variable {a_are_bytes a_is_name a_check_frame a_Count_init a_Count_is_off a_Count_number a_Free_init a_Free_shown a_Post_is_off a_Post_faults a_Post_hand a_copies a_Post_waits a_Post_got a_check_votes a_check_choice a_Post_init a_Post_stance a_Rail_init a_Rail_post_at a_Rail_hand a_Rail_stance a_Rail_waits a_Rail_got a_Rail_faults a_Rail_is_off a_Rail_heard a_piece_of a_check_thing a_cut a_number_in a_choice_of a_value_of a_strip_of a_strips a_read_row a_dotted a_frames_text a_part_of a_Joiner_init a_Joiner_end a_things_of a_say_hand a_say_got a_say_waits a_say_faults a_say_stance a_say_wrong a_say_things a_say_draw a_say_thing a_Desk_init a_Desk_put_up a_Desk_say a__law_mix a__law_byte a__law_rail a__law_name a__law_data a__law_is_good a__law_pieces a__law_asked a__law_handed a__law_hand_step a__law_rail_step a__law_step a_law a_RailError a_NoBits a_NoName a_NoKey a_NoFrame a_NoPost a_NoThing a_NoRail a_NoRow a_Joiner a_Tail a_VOTES a_Rail a_FORMS a_ANSWERS a_Desk:Addr}
variable {d_are_bytes d_is_name d_check_frame d_Count_init d_Count_is_off d_Count_number d_Free_init d_Free_shown d_Post_is_off d_Post_faults d_Post_hand d_copies d_Post_waits d_Post_got d_check_votes d_check_choice d_Post_init d_Post_stance d_Rail_init d_Rail_post_at d_Rail_hand d_Rail_stance d_Rail_waits d_Rail_got d_Rail_faults d_Rail_is_off d_Rail_heard d_piece_of d_check_thing d_cut d_number_in d_choice_of d_value_of d_strip_of d_strips d_read_row d_dotted d_frames_text d_part_of d_Joiner_init d_Joiner_end d_things_of d_say_hand d_say_got d_say_waits d_say_faults d_say_stance d_say_wrong d_say_things d_say_draw d_say_thing d_Desk_init d_Desk_put_up d_Desk_say d__law_mix d__law_byte d__law_rail d__law_name d__law_data d__law_is_good d__law_pieces d__law_asked d__law_handed d__law_hand_step d__law_rail_step d__law_step d_law:FuncData}
variable {t_HIGHEST_BYTE t_PIECE_BYTES t_MOST_BYTES_things t_KEY t_CHECK_BITS t_NAME_BITS t_HIGHEST_NAME t_MOST_ALIKE t_SIZE_AT t_SIZE_BITS t_DATA_AT t_BYTE_BITS t_MOST_BYTES_frames t_GREAT_FAULT t_SMALL_FAULT t_QUIET_FROM t_OFF_FROM t_ANSWER_AT t_VOTES_AT t_FLAG_BITS t_REST_TURNS t_QUIET_TURNS t_DUEL_BITS t_MOST_POSTS t_STRIP_BITS t_FIGURES t_SIGNS t_MOST_FIGURES t_MOST_TURNS t_MOST_BITS:Tok}
variable (m_HIGHEST_BYTE:mg "HIGHEST_BYTE"=some (.int 255 t_HIGHEST_BYTE))
variable (m_HIGHEST_NAME:mg "HIGHEST_NAME"=some (.int 255 t_HIGHEST_NAME))
variable (m_NoFrame:mg "NoFrame"=some (.ref a_NoFrame))
variable (m_MOST_BYTES_frames:mg "MOST_BYTES_frames"=some (.int 7 t_MOST_BYTES_frames))
variable (m_OFF_FROM:mg "OFF_FROM"=some (.int 18 t_OFF_FROM))
variable (m_VOTES:mg "VOTES"=some (.ref a_VOTES))
variable (m_NoPost:mg "NoPost"=some (.ref a_NoPost))
variable (m_Count:mg "Count"=some (.ref CA.count))
variable (m_Free:mg "Free"=some (.ref CA.free))
variable (m_MOST_POSTS:mg "MOST_POSTS"=some (.int 5 t_MOST_POSTS))
variable (m_Post:mg "Post"=some (.ref CA.post))
variable (m_Rail:mg "Rail"=some (.ref a_Rail))
variable (m_NoName:mg "NoName"=some (.ref a_NoName))
variable (m_PIECE_BYTES:mg "PIECE_BYTES"=some (.int 5 t_PIECE_BYTES))
variable (m_NoThing:mg "NoThing"=some (.ref a_NoThing))
variable (m_MOST_BYTES_things:mg "MOST_BYTES_things"=some (.int 75 t_MOST_BYTES_things))
variable (m_MOST_FIGURES:mg "MOST_FIGURES"=some (.int 6 t_MOST_FIGURES))
variable (m_MOST_TURNS:mg "MOST_TURNS"=some (.int 2000 t_MOST_TURNS))
variable (m_MOST_BITS:mg "MOST_BITS"=some (.int 400 t_MOST_BITS))
variable (m_SIGNS:mg "SIGNS"=some (.str "_-" t_SIGNS))
variable (m_FIGURES:mg "FIGURES"=some (.int 6 t_FIGURES))
variable (m_STRIP_BITS:mg "STRIP_BITS"=some (.int 40 t_STRIP_BITS))
variable (m_FORMS:mg "FORMS"=some (.ref a_FORMS))
variable (m_Joiner:mg "Joiner"=some (.ref a_Joiner))
variable (m_Desk:mg "Desk"=some (.ref a_Desk))
variable (m_NoRail:mg "NoRail"=some (.ref a_NoRail))
variable (m_ANSWERS:mg "ANSWERS"=some (.ref a_ANSWERS))
variable (m_RailError:mg "RailError"=some (.ref a_RailError))
variable (m_Speaks:mg "Speaks"=some (.ref CA.speaks))
variable (m_Reads:mg "Reads"=some (.ref CA.reads))
variable (m_InTail:mg "InTail"=some (.ref CA.intail))
variable (m_Flagging:mg "Flagging"=some (.ref CA.flag))
variable (m_Settles:mg "Settles"=some (.ref CA.settles))
variable (m_Rests:mg "Rests"=some (.ref CA.rests))
variable (m_Off:mg "Off"=some (.ref CA.off))
variable (m_Reader:mg "Reader"=some (.ref CA.reader))
variable (m_Streak:mg "Streak"=some (.ref CA.streak))
variable (m_ReadTail:mg "ReadTail"=some (.ref CA.rtail))
variable (m_SpeakTail:mg "SpeakTail"=some (.ref CA.stail))
variable (m_all:mg "all"=none)
variable (m_len:mg "len"=none)
variable (m_list:mg "list"=none)
variable (m_max:mg "max"=none)
variable (m_range:mg "range"=none)
variable (m_int:mg "int"=none)
variable (m_str:mg "str"=none)
variable (m_isinstance:mg "isinstance"=none)
variable (fact_tup_VOTES:TupK K a_VOTES [1,3,5])
variable (fact_e_NoPost:ExcC K a_NoPost)
variable (fact_e_NoFrame:ExcC K a_NoFrame)
variable (fact_e_NoName:ExcC K a_NoName)
variable (fact_e_NoThing:ExcC K a_NoThing)
variable (fact_e_NoRail:ExcC K a_NoRail)
variable (fact_cls_Count:Cls K CA.count)
variable (fact_cls_Free:Cls K CA.free)
variable (fact_cls_Post:Cls K CA.post)
variable (fact_mk_Count:Mk K CA.count a_Count_init)
variable (fact_mk_Free:Mk K CA.free a_Free_init)
variable (fact_cls_Rail:Cls K a_Rail)
variable (fact_mk_Post:Mk K CA.post a_Post_init)
variable (fact_cls_Joiner:Cls K a_Joiner)
variable (fact_mk_Joiner:Mk K a_Joiner a_Joiner_init)
variable (fact_cls_Desk:Cls K a_Desk)
variable (fact_mk_Rail:Mk K a_Rail a_Rail_init)
variable (fact_mk_Desk:Mk K a_Desk a_Desk_init)
variable (fact_meth_Count_is_off:Meth K CA.count "is_off" a_Count_is_off)
variable (fact_meth_Count_number:Meth K CA.count "number" a_Count_number)
variable (fact_meth_Free_shown:Meth K CA.free "shown" a_Free_shown)
variable (fact_meth_Rail_post_at:Meth K a_Rail "post_at" a_Rail_post_at)
variable (fact_meth_Post_hand:Meth K CA.post "hand" a_Post_hand)
variable (fact_meth_Post_stance:Meth K CA.post "stance" a_Post_stance)
variable (fact_meth_Post_waits:Meth K CA.post "waits" a_Post_waits)
variable (fact_meth_Post_got:Meth K CA.post "got" a_Post_got)
variable (fact_meth_Post_faults:Meth K CA.post "faults" a_Post_faults)
variable (fact_meth_Post_is_off:Meth K CA.post "is_off" a_Post_is_off)
variable (fact_meth_Joiner_end:Meth K a_Joiner "end" a_Joiner_end)
variable (fact_meth_Rail_hand:Meth K a_Rail "hand" a_Rail_hand)
variable (fact_meth_Rail_got:Meth K a_Rail "got" a_Rail_got)
variable (fact_meth_Rail_waits:Meth K a_Rail "waits" a_Rail_waits)
variable (fact_meth_Rail_faults:Meth K a_Rail "faults" a_Rail_faults)
variable (fact_meth_Rail_stance:Meth K a_Rail "stance" a_Rail_stance)
variable (fact_meth_Rail_is_off:Meth K a_Rail "is_off" a_Rail_is_off)
variable (fact_meth_Rail_heard:Meth K a_Rail "heard" a_Rail_heard)
variable (fact_meth_Desk_put_up:Meth K a_Desk "put_up" a_Desk_put_up)
variable (fact_meth_Desk_say:Meth K a_Desk "say" a_Desk_say)
variable (fact_forms:CDict K w a_FORMS kvF/\FormEnts K kvF formsL)
variable (fact_answers:CDict K w a_ANSWERS [(.inr "hand",.ref a_say_hand),(.inr "thing",.ref a_say_thing),(.inr "wrong",.ref a_say_wrong),(.inr "run",.ref 1363),(.inr "bits",.ref 1370),(.inr "draw",.ref a_say_draw),(.inr "got",.ref a_say_got),(.inr "waits",.ref a_say_waits),(.inr "things",.ref a_say_things),(.inr "stance",.ref a_say_stance),(.inr "faults",.ref a_say_faults)])
variable (fact_na_Count_total:NoAttr K CA.count "total")
variable (fact_na_Free_since:NoAttr K CA.free "since")
variable (fact_na_Post_tally:NoAttr K CA.post "tally")
variable (fact_na_Post_waiting:NoAttr K CA.post "waiting")
variable (fact_na_Post_handed_up:NoAttr K CA.post "handed_up")
variable (fact_na_Post_choice:NoAttr K CA.post "choice")
variable (fact_na_Post_votes:NoAttr K CA.post "votes")
variable (fact_na_Post_now:NoAttr K CA.post "now")
variable (fact_na_Rail_posts:NoAttr K a_Rail "posts")
variable (fact_na_Rail_owners:NoAttr K a_Rail "owners")
variable (fact_na_Rail_borne:NoAttr K a_Rail "borne")
variable (fact_na_Rail_sayings:NoAttr K a_Rail "sayings")
variable (fact_na_Rail_hearings:NoAttr K a_Rail "hearings")
variable (fact_na_Rail_happened:NoAttr K a_Rail "happened")
variable (fact_na_Joiner_opened:NoAttr K a_Joiner "opened")
variable (fact_na_Joiner_tag:NoAttr K a_Joiner "tag")
variable (fact_na_Joiner_many:NoAttr K a_Joiner "many")
variable (fact_na_Joiner_had:NoAttr K a_Joiner "had")
variable (fact_na_Joiner_joined:NoAttr K a_Joiner "joined")
variable (fact_na_Joiner_broken_tag:NoAttr K a_Joiner "broken_tag")
variable (fact_na_Desk_rail:NoAttr K a_Desk "rail")
variable (fact_na_Desk_wrong:NoAttr K a_Desk "wrong")
variable (fact_exc_NoFrame:W.excIn K a_NoFrame [.type "ValueError",.type "Exception",.type "BaseException",.type "object"] "ValueError.__new__"=true)
variable (fact_exc_NoPost:W.excIn K a_NoPost [.type "ValueError",.type "Exception",.type "BaseException",.type "object"] "ValueError.__new__"=true)
variable (fact_exc_NoName:W.excIn K a_NoName [.type "ValueError",.type "Exception",.type "BaseException",.type "object"] "ValueError.__new__"=true)
variable (fact_exc_NoThing:W.excIn K a_NoThing [.type "ValueError",.type "Exception",.type "BaseException",.type "object"] "ValueError.__new__"=true)
variable (fact_exc_NoRail:W.excIn K a_NoRail [.type "ValueError",.type "Exception",.type "BaseException",.type "object"] "ValueError.__new__"=true)
variable (fact_n_NoPost_NoFrame:W.kitOne K (.ref a_NoPost) (.ref a_NoFrame)=some false)
variable (fact_n_NoPost_NoName:W.kitOne K (.ref a_NoPost) (.ref a_NoName)=some false)
variable (fact_n_NoPost_NoThing:W.kitOne K (.ref a_NoPost) (.ref a_NoThing)=some false)
variable (fact_n_NoPost_NoRail:W.kitOne K (.ref a_NoPost) (.ref a_NoRail)=some false)
variable (fact_n_NoFrame_NoPost:W.kitOne K (.ref a_NoFrame) (.ref a_NoPost)=some false)
variable (fact_n_NoFrame_NoName:W.kitOne K (.ref a_NoFrame) (.ref a_NoName)=some false)
variable (fact_n_NoFrame_NoThing:W.kitOne K (.ref a_NoFrame) (.ref a_NoThing)=some false)
variable (fact_n_NoFrame_NoRail:W.kitOne K (.ref a_NoFrame) (.ref a_NoRail)=some false)
variable (fact_n_NoName_NoPost:W.kitOne K (.ref a_NoName) (.ref a_NoPost)=some false)
variable (fact_n_NoName_NoFrame:W.kitOne K (.ref a_NoName) (.ref a_NoFrame)=some false)
variable (fact_n_NoName_NoThing:W.kitOne K (.ref a_NoName) (.ref a_NoThing)=some false)
variable (fact_n_NoName_NoRail:W.kitOne K (.ref a_NoName) (.ref a_NoRail)=some false)
variable (fact_n_NoThing_NoPost:W.kitOne K (.ref a_NoThing) (.ref a_NoPost)=some false)
variable (fact_n_NoThing_NoFrame:W.kitOne K (.ref a_NoThing) (.ref a_NoFrame)=some false)
variable (fact_n_NoThing_NoName:W.kitOne K (.ref a_NoThing) (.ref a_NoName)=some false)
variable (fact_n_NoThing_NoRail:W.kitOne K (.ref a_NoThing) (.ref a_NoRail)=some false)
variable (fact_n_NoRail_NoPost:W.kitOne K (.ref a_NoRail) (.ref a_NoPost)=some false)
variable (fact_n_NoRail_NoFrame:W.kitOne K (.ref a_NoRail) (.ref a_NoFrame)=some false)
variable (fact_n_NoRail_NoName:W.kitOne K (.ref a_NoRail) (.ref a_NoName)=some false)
variable (fact_n_NoRail_NoThing:W.kitOne K (.ref a_NoRail) (.ref a_NoThing)=some false)
variable (fact_m_NoPost:W.exmOne K (.ref a_NoPost) (.ref a_RailError)=some true)
variable (fact_m_NoFrame:W.exmOne K (.ref a_NoFrame) (.ref a_RailError)=some true)
variable (fact_m_NoName:W.exmOne K (.ref a_NoName) (.ref a_RailError)=some true)
variable (fact_m_NoThing:W.exmOne K (.ref a_NoThing) (.ref a_RailError)=some true)
variable (fact_m_NoRail:W.exmOne K (.ref a_NoRail) (.ref a_RailError)=some true)
set_option maxHeartbeats 4000000
-- vars end
-- def are_bytes
variable (G_are_bytes:FB P w K mg base (CX0) 1 "are_bytes" a_are_bytes d_are_bytes ["numbers"] (spBytes K))
include m_HIGHEST_BYTE m_all in
theorem ok_are_bytes (F0:GFm K mg "are_bytes" s_are_bytes a_are_bytes d_are_bytes):type_of% G_are_bytes:=by
  refine fbK ["numbers"] F0 fun H Q nd hr h=>?_
  obtain⟨a,ns,rfl,hS,hl,q⟩:=h
  refine⟨_,(pss_one (ps_ret (pe_callB (z_all rfl) rfl m_all bt_all (pa_cons (pe_comp rfl (ix:=[]) (mi_seq (dv 0)) (fun C fp s0 H0 at0=>pts_nil) (fun C fp s0 H0 at0=>(md_chain z_le z_le pe_int (dv 0) (pe_glob (v:= .int 255) rfl m_HIGHEST_BYTE ⟨_,rfl⟩))) rfl rfl (by rfl) (show ([".0","number"]:List Str).Nodup by decide +kernel)) pa_nil)))),?_⟩
  refine comp_seq hS (fun i ys=>ys=((ns.take i).map byt).map V.bl) ?_ rfl ?_ ?_
  · rintro i ys hi rfl
    refine small1 ?_
    rw[Ya,Ya,YC]
    omega
  · rintro i x ys hx rfl
    obtain⟨hi,rfl⟩:=get_int hx
    conv=>whnf
    refine ite2 (fun c=>⟨?_,rfl⟩) (fun c=>⟨?_,rfl⟩)
    · have c1:(0:Int)<=ns[i]:=dec_true c
      rw[Yp hi,Yi,Yi]
      show _++[V.bl (decide (ns[i]<=255))]=_++[V.bl (byt ns[i])]
      unfold byt
      rw[Yw c1,Bool.true_and]
    · have c1:¬ (0:Int)<=ns[i]:=dec_false c
      rw[Yp hi,Yi,Yi]
      show _++[V.bl false]=_++[V.bl (byt ns[i])]
      unfold byt
      rw[Ys c1,Bool.false_and]
  rintro ys rfl p hp
  rw[Ya,Yl (Yc _)]
  refine⟨ns.map byt,SqL.of upd_same,?_⟩
  have e:(ns.map byt).all id=ns.all byt:=by rw[List.all_map];rfl
  rw[e]
  exact q _ (same_new hp _)
-- def is_name
variable (G_is_name:FB P w K mg base (CX0) 1 "is_name" a_is_name d_is_name ["number"] (spByt))
include m_HIGHEST_NAME in
theorem ok_is_name (F0:GFm K mg "is_name" s_is_name a_is_name d_is_name):type_of% G_is_name:=by
  refine fbK ["number"] F0 fun H Q nd hr h=>?_
  obtain⟨n,rfl,q⟩:=h
  refine⟨_,(pss_one (ps_ret (md_chain z_le z_le pe_int (dv 0) (pe_glob (v:= .int 255) rfl m_HIGHEST_NAME ⟨_,rfl⟩)))),?_⟩
  conv=>whnf
  refine ite2 (fun c=>?_) (fun c=>?_)
  · have c1:(0:Int)<=n:=dec_true c
    show Q (.bl (decide (n<=255))) H
    have e:decide (n<=255)=byt n:=by unfold byt;rw[Yw c1,Bool.true_and]
    rw[e];exact q
  · have c1:¬ (0:Int)<=n:=dec_false c
    show Q (.bl false) H
    have e:false=byt n:=by unfold byt;rw[Ys c1,Bool.false_and]
    rw[e];exact q
-- def check_frame
variable (G_check_frame:FB P w K mg base (CXR P w) 2 "check_frame" a_check_frame d_check_frame ["name","data"] (spChkF K a_NoFrame))
include m_NoFrame m_MOST_BYTES_frames m_len fact_exc_NoFrame G_are_bytes G_is_name in
theorem ok_check_frame (F0:GFm K mg "check_frame" s_check_frame a_check_frame d_check_frame):type_of% G_check_frame:=by
  refine fbM ["name","data"] F0 fun Sc0=>F0.F.okR Sc0 (fun vs H Q E h=>?_) fun cdv A outer s H vs Q E hr h=>?_
  · obtain⟨n,a,ds,rfl,_⟩:=h
    rfl
  obtain⟨n,a,ds,rfl,hS,hl,q1,q2⟩:=h
  have nd:=Sc0.nd
  refine⟨_,(pss_cons (ps_if (pt_not (md_val (pe_call G_is_name.1 hr.mo rfl G_is_name.2.2.2 G_is_name.2.2.1 G_is_name.2.1 .nil pass0 (pa_cons (dv 0) pa_nil)))) (pss_one (ps_raise YK m_NoFrame fact_exc_NoFrame (pa_cons pe_str pa_nil))) pss_nil) (pss_cons (ps_if (md_cmp z_gt (pe_callB z_len rfl m_len bt_len (pa_cons (dv 1) pa_nil)) (pe_glob (v:= .int 7) rfl m_MOST_BYTES_frames ⟨_,rfl⟩) (nomark _)) (pss_one (ps_raise YK m_NoFrame fact_exc_NoFrame (pa_cons pe_str pa_nil))) pss_nil) (pss_one (ps_if (pt_not (md_val (pe_call G_are_bytes.1 hr.mo rfl G_are_bytes.2.2.2 G_are_bytes.2.2.1 G_are_bytes.2.1 .nil pass0 (pa_cons (dv 1) pa_nil)))) (pss_one (ps_raise YK m_NoFrame fact_exc_NoFrame (pa_cons pe_str pa_nil))) pss_nil)))),?_⟩
  refine⟨n,rfl,?_⟩
  conv=>whnf
  refine ite2 (fun c=>?_) (fun c=>?_)
  · have c1:¬ byt n=true:=fun z=>by
      have:(!byt n)=true:=c
      rw[z]at this;cases this
    exact⟨small_lit rfl,q2 (not_fr (.inl c1)) _ (Same.refl _)⟩
  have c1:byt n=true:=by
    cases e:byt n with
    |true=>rfl
    |false=>exact absurd (show (!byt n)=true by rw[e];rfl) c
  refine⟨_,.inl hS,?_⟩
  rw[Ya]
  conv=>whnf
  refine ite2 (fun z=>?_) (fun z=>?_)
  · have z1:(7:Int)<((ds.length:Nat):Int):=dec_true z
    exact⟨small_lit rfl,q2 (not_fr (.inr (.inl (by omega)))) _ (Same.refl _)⟩
  have z1:¬ (7:Int)<((ds.length:Nat):Int):=dec_false z
  refine⟨a,ds,rfl,.inl hS,hl,fun H1 g1=>?_⟩
  conv=>whnf
  refine ite2 (fun y=>?_) (fun y=>?_)
  · have y1:¬ ds.all byt=true:=fun z=>by
      have:(!ds.all byt)=true:=y
      rw[z]at this;cases this
    exact⟨small_lit rfl,q2 (fun h=>y1 h.2.2) _ g1⟩
  · have y1:ds.all byt=true:=by
      cases e:ds.all byt with
      |true=>rfl
      |false=>exact absurd (show (!ds.all byt)=true by rw[e];rfl) y
    exact q1 ⟨c1,by omega,y1⟩ _ g1
-- def Count_init
variable (G_Count_init:MB P w K mg base (CX0) 1 a_Count_init d_Count_init ["self"] (spCtInit CA.count))
include fact_cls_Count fact_na_Count_total in
theorem ok_Count_init (F0:Fun K "__init__" "Count.__init__" s_Count_init a_Count_init d_Count_init):type_of% G_Count_init:=by
  refine mbK ["self"] F0 fun H Q nd hr h=>?_
  obtain⟨a,dx,rfl,ha,q⟩:=h
  refine⟨_,(pss_one (md_set fact_cls_Count fact_na_Count_total (dv 0) pe_int)),?_⟩
  exact⟨dx, [],ha,by decide,q⟩
-- def Count_is_off
variable (G_Count_is_off:MB P w K mg base (CX0) 1 a_Count_is_off d_Count_is_off ["self"] (spCtB CA.count 18))
include m_OFF_FROM fact_cls_Count fact_na_Count_total in
theorem ok_Count_is_off (F0:Fun K "is_off" "Count.is_off" s_Count_is_off a_Count_is_off d_Count_is_off):type_of% G_Count_is_off:=by
  refine mbK ["self"] F0 fun H Q nd hr h=>?_
  obtain⟨a,n,rfl,⟨dx,ha⟩,q⟩:=h
  refine⟨_,(pss_one (ps_ret (pe_cmpR z_ge (md_fld fact_cls_Count fact_na_Count_total (dv 0)) (pe_glob (v:= .int 18) rfl m_OFF_FROM ⟨_,rfl⟩) (nomark _)))),?_⟩
  exact⟨dx,_,.int n,ha,rfl,q⟩
-- def Count_number
variable (G_Count_number:MB P w K mg base (CX0) 1 a_Count_number d_Count_number ["self"] (spCtN CA.count))
include fact_cls_Count fact_na_Count_total in
theorem ok_Count_number (F0:Fun K "number" "Count.number" s_Count_number a_Count_number d_Count_number):type_of% G_Count_number:=by
  refine mbK ["self"] F0 fun H Q nd hr h=>?_
  obtain⟨a,n,rfl,⟨dx,ha⟩,q⟩:=h
  refine⟨_,(pss_one (ps_ret (md_fld fact_cls_Count fact_na_Count_total (dv 0)))),?_⟩
  exact⟨dx,_,.int n,ha,rfl,q⟩
-- def Free_init
variable (G_Free_init:MB P w K mg base (CX0) 1 a_Free_init d_Free_init ["self","since"] (spIni1 CA.free "since"))
include fact_cls_Free fact_na_Free_since in
theorem ok_Free_init (F0:Fun K "__init__" "Free.__init__" s_Free_init a_Free_init d_Free_init):type_of% G_Free_init:=by
  refine mbK ["self","since"] F0 fun H Q nd hr h=>?_
  obtain⟨a,dx,v,rfl,e,q⟩:=h
  refine⟨_,(pss_one (md_set fact_cls_Free fact_na_Free_since (dv 0) (dv 1))),?_⟩
  exact⟨dx, [],e,by decide,q _ rfl⟩
-- def Free_shown
variable (G_Free_shown:MB P w K mg base (CX0) 1 a_Free_shown d_Free_shown ["self"] (spShown CA 0))
include fact_cls_Free fact_na_Free_since in
theorem ok_Free_shown (F0:Fun K "shown" "Free.shown" s_Free_shown a_Free_shown d_Free_shown):type_of% G_Free_shown:=by
  refine mbK ["self"] F0 fun H Q nd hr h=>?_
  obtain⟨nw,S,o,rfl,tg,st,q⟩:=h
  refine⟨_,(pss_one (ps_ret (pe_tup (pa_cons pe_str (pa_cons (md_fld fact_cls_Free fact_na_Free_since (dv 0)) pa_nil))))),?_⟩
  obtain⟨sa,on,al⟩:=id st
  cases en:S.now with
  | free k=>
    rw[en]at sa
    obtain⟨dx,e⟩:=sa
    refine⟨dx,_,_,e,rfl,small_lit rfl,fun t ht=>q t _ ht (same_new ht _) ?_⟩
    rw[upd_same,en]
    rfl
  |speaks n ds k=>rw[en]at tg;cases tg
  |reads h=>rw[en]at tg;cases tg
  |tlS v c=>rw[en]at tg;cases tg
  |tlR n ds v c=>rw[en]at tg;cases tg
  |flag l m=>rw[en]at tg;cases tg
  |settles m=>rw[en]at tg;cases tg
  |rests l=>rw[en]at tg;cases tg
  |off  =>rw[en]at tg;cases tg
-- def Post_is_off
variable (G_Post_is_off:MB P w K mg base (CX0) 2 a_Post_is_off d_Post_is_off ["self"] (spBdB CA 18))
include fact_cls_Count fact_cls_Post fact_meth_Count_is_off fact_na_Post_tally G_Count_is_off in
theorem ok_Post_is_off (F0:Fun K "is_off" "Post.is_off" s_Post_is_off a_Post_is_off d_Post_is_off):type_of% G_Post_is_off:=by
  refine mbK ["self"] F0 fun H Q nd hr h=>?_
  obtain⟨p,nwf,S,o,rfl,⟨dx,ch,wl,ul,ct,ws,us,b⟩,q⟩:=h
  refine⟨_,(pss_one (ps_ret (md_meth0 fact_cls_Count fact_meth_Count_is_off G_Count_is_off.1 hr.mo G_Count_is_off.2 .nil pass0 (md_fld fact_cls_Post fact_na_Post_tally (dv 0))))),?_⟩
  obtain⟨dc,ec⟩:=b.et
  exact⟨dx,_,.ref ct,b.e,rfl,⟨dc,_,ec,rfl⟩,ct,S.tot,rfl,⟨dc,ec⟩,q⟩
-- def Post_faults
variable (G_Post_faults:MB P w K mg base (CX0) 2 a_Post_faults d_Post_faults ["self"] (spBdN CA))
include fact_cls_Count fact_cls_Post fact_meth_Count_number fact_na_Post_tally G_Count_number in
theorem ok_Post_faults (F0:Fun K "faults" "Post.faults" s_Post_faults a_Post_faults d_Post_faults):type_of% G_Post_faults:=by
  refine mbK ["self"] F0 fun H Q nd hr h=>?_
  obtain⟨p,nwf,S,o,rfl,⟨dx,ch,wl,ul,ct,ws,us,b⟩,q⟩:=h
  refine⟨_,(pss_one (ps_ret (md_meth0 fact_cls_Count fact_meth_Count_number G_Count_number.1 hr.mo G_Count_number.2 .nil pass0 (md_fld fact_cls_Post fact_na_Post_tally (dv 0))))),?_⟩
  obtain⟨dc,ec⟩:=b.et
  exact⟨dx,_,.ref ct,b.e,rfl,⟨dc,_,ec,rfl⟩,ct,S.tot,rfl,⟨dc,ec⟩,q⟩
-- def Post_hand
variable (G_Post_hand:MB P w K mg base (CXR P w) 3 a_Post_hand d_Post_hand ["self","name","data"] (spHand K CA a_NoFrame))
include m_NoFrame m_list fact_cls_Post fact_na_Post_waiting G_check_frame in
theorem ok_Post_hand (F0:Fun K "hand" "Post.hand" s_Post_hand a_Post_hand d_Post_hand):type_of% G_Post_hand:=by
  refine mbM ["self","name","data"] F0 fun Sc0=>F0.okR Sc0 (fun vs H Q E h=>?_) fun cdv A outer s H vs Q E hr h=>?_
  · obtain⟨p,nwf,S,o,n,a,ds,rfl,_⟩:=h
    rfl
  obtain⟨p,nwf,S,o,n,a,ds,rfl,bd,hS,hl,hw,q1,q2⟩:=h
  have nd:=Sc0.nd
  refine⟨_,(pss_cons (ps_expr (pe_call G_check_frame.1 hr.mo rfl G_check_frame.2.2.2 G_check_frame.2.2.1 G_check_frame.2.1 .nil (passR fun _ _ _ z=>z) (pa_cons (dv 1) (pa_cons (dv 2) pa_nil)))) (pss_one (ps_expr (md_append (md_fld fact_cls_Post fact_na_Post_waiting (dv 0)) (pa_cons (pe_tup (pa_cons (dv 1) (pa_cons (pe_callTy z_listOf rfl m_list bt_list (pa_cons (dv 2) pa_nil)) pa_nil))) pa_nil))))),?_⟩
  refine⟨n,a,ds,rfl,hS,hl,fun ok H1 g1=>?_,fun no H1 g1=>q2 no H1 g1⟩
  obtain⟨dx,ch,wl,ul,ct,ws,us,b⟩:=bd.move (H':=H1) fun x v e _=>g1 x v e
  refine⟨dx,_,.ref wl,b.e,rfl,⟨_,SqL.of b.ew⟩,_,.inl (g1.seq hS),fun d hd=>?_⟩
  have g2:=same_new hd (.lst (ds.map V.int))
  have e2:=upd_same (H:=H1) (a:=d) (o:= .lst (ds.map V.int))
  generalize upd H1 d (.lst (ds.map V.int))=H2 at g2 e2
  refine⟨small_lit rfl,fun t ht=>?_⟩
  have g3:=same_new ht (.tup [.int n,.ref d])
  have e3:=upd_same (H:=H2) (a:=t) (o:= .tup [.int n,.ref d])
  generalize upd H2 t (.tup [.int n,.ref d])=H3 at g3 e3
  have g13:=g2.trans g3
  have nd_:¬ o d:=fun z=>b.al d z hd
  have b3:=b.move (H':=H3) fun x v e _=>g13 x v e
  have hwl:=b.fw.len
  refine⟨_,b3.ew,small1 (by omega),?_⟩
  obtain⟨k1,k2,k3,k4,k5,k6⟩:=list_put (ys:=ws++[.ref t]) b3 (.inl rfl)
  have nwl:d≠wl:=fun z=>nd_ (z▸b.ow)
  have nul:d≠ul:=fun z=>nd_ (z▸b.ou)
  have en:((n.toNat:Nat):Int)=n:=by
    have:=byt_iff.mp ok.1
    omega
  refine q1 ok _ d (g1.none hd) ⟨dx,ch,wl,ul,ct,ws++[.ref t],us,k2.trans b3.e,k3.trans b3.ec,upd_same,?_,by rw[upd_ne (Ne.symm b.ne)];exact b3.eu,(k5 b3.fu).imp (fun x v e _=>e) (fun x z=>⟨.inl z.1,z.2⟩),(let ⟨d,e⟩:=b3.et;⟨d,k4.trans e⟩),.inl b.op,.inl b.ow,.inl b.ou,.inl b.ot,b.ne,fun x hx=>?_⟩ (fun x v e z=>k1 x v (g13 x v (g1 x v e)) z)
  · refine((k5 b3.fw).imp (fun x v e _=>e) (fun x z=>⟨.inl z.1,z.2⟩)).snoc ⟨d,?_,by rw[upd_ne nwl];exact g3 _ _ e2,.inr rfl,nwl,nul⟩
    show _=some (HO.tup [.int ((n.toNat:Nat):Int),.ref d])
    rw[en]
    exact k1.tup e3
  · rcases hx with hx | hx
    · exact k6 x hx
    · have hx':x=d:=hx
      rw[hx',upd_ne nwl,g3 _ _ e2];simp
-- def copies
variable (G_copies:FB P w K mg base (CX0) 1 "copies" a_copies d_copies ["frames"] (spCopies K))
include m_list in
theorem ok_copies (F0:GFm K mg "copies" s_copies a_copies d_copies):type_of% G_copies:=by
  refine fbK ["frames"] F0 fun H Q nd hr h=>?_
  obtain⟨a,ts,fs,o,rfl,e,hF,hl,q⟩:=h
  refine⟨_,(pss_one (ps_ret (pe_comp rfl (ix:=[]) (mi_list (dv 0)) (fun C fp s0 H0 at0=>pts_nil) (fun C fp s0 H0 at0=>(pe_tup (pa_cons (pe_ix (z_ixTK (K:=K)) (dv 0) pe_int (fun _ _=>rfl)) (pa_cons (pe_callTy (z_listOfK (K:=K)) rfl m_list bt_list (pa_cons (pe_ix (z_ixTK (K:=K)) (dv 0) pe_int (fun _ _=>rfl)) pa_nil)) pa_nil)))) rfl rfl (by rfl) (show ([".0","frame"]:List Str).Nodup by decide +kernel)))),?_⟩
  have tl:=hF.len
  refine⟨⟨_,SqL.of e⟩,comp_list (xs:=ts) (fun i ys H'=>Same H H'/\FrsNew H H' ys (fs.take i)) ?_ ⟨Same.refl _,.nil⟩ (fun i ys H' _ z=>SqL.of (z.1 _ _ e)) ?_ ?_⟩
  · rintro i ys H' hi ⟨_,n⟩
    refine small1 ?_
    rw[n.len,YC]
    omega
  · rintro i x ys H' hx ⟨g,n⟩
    obtain⟨t,f,rfl,hf,d,e1,e2,e3⟩:=hF.get hx
    refine⟨_,_,SqT.of (g _ _ e1),rfl,_,_,SqT.of (g _ _ e1),rfl,_,.inl (SqL.of (g _ _ e2)),fun d' hd'=>?_⟩
    have g2:=same_new hd' (.lst (f.2.map V.int))
    have e5:=upd_same (H:=H') (a:=d') (o:= .lst (f.2.map V.int))
    generalize upd H' d' (.lst (f.2.map V.int))=H2 at g2 e5
    refine⟨small_lit rfl,fun t' ht'=>?_⟩
    have g3:=same_new ht' (.tup [.int ((f.1:Nat):Int),.ref d'])
    refine⟨g.trans (g2.trans g3),?_⟩
    have hi:i<fs.length:=(Yb.mp hf).1
    have ef:fs[i]=f:=(Yb.mp hf).2
    rw[Yp hi,ef]
    exact FrsNew.snoc ((g.trans g2).none ht') (g.none hd') upd_same (g3 _ _ e5) (n.same (g2.trans g3))
  rintro ys H' ⟨g,n⟩ l hl'
  have g2:=same_new hl' (.lst ys)
  rw[tl,Yl (Yc _)]at n
  exact q l ys _ (g.none hl') (g.trans g2) upd_same (n.same g2)
-- def Post_waits
variable (G_Post_waits:MB P w K mg base (CX0) 2 a_Post_waits d_Post_waits ["self"] (spWaits CA))
include fact_cls_Post fact_na_Post_waiting G_copies in
theorem ok_Post_waits (F0:Fun K "waits" "Post.waits" s_Post_waits a_Post_waits d_Post_waits):type_of% G_Post_waits:=by
  refine mbK ["self"] F0 fun H Q nd hr h=>?_
  obtain⟨p,nwf,S,o,rfl,⟨dx,ch,wl,ul,ct,ws,us,b⟩,hl,q⟩:=h
  refine⟨_,(pss_one (ps_ret (pe_call G_copies.1 hr.mo rfl G_copies.2.2.2 G_copies.2.2.1 G_copies.2.1 .nil pass0 (pa_cons (md_fld fact_cls_Post fact_na_Post_waiting (dv 0)) pa_nil)))),?_⟩
  exact⟨dx,_,.ref wl,b.e,rfl,wl,ws,S.wt,_,rfl,b.ew,b.fw,hl,q⟩
-- def Post_got
variable (G_Post_got:MB P w K mg base (CX0) 2 a_Post_got d_Post_got ["self"] (spGot CA))
include fact_cls_Post fact_na_Post_handed_up G_copies in
theorem ok_Post_got (F0:Fun K "got" "Post.got" s_Post_got a_Post_got d_Post_got):type_of% G_Post_got:=by
  refine mbK ["self"] F0 fun H Q nd hr h=>?_
  obtain⟨p,nwf,S,o,rfl,⟨dx,ch,wl,ul,ct,ws,us,b⟩,hl,q⟩:=h
  refine⟨_,(pss_one (ps_ret (pe_call G_copies.1 hr.mo rfl G_copies.2.2.2 G_copies.2.2.1 G_copies.2.1 .nil pass0 (pa_cons (md_fld fact_cls_Post fact_na_Post_handed_up (dv 0)) pa_nil)))),?_⟩
  exact⟨dx,_,.ref ul,b.e,rfl,ul,us,S.up,_,rfl,b.eu,b.fu,hl,q⟩
-- def check_votes
variable (G_check_votes:FB P w K mg base (CXR P w) 1 "check_votes" a_check_votes d_check_votes ["votes"] (spVotes a_NoPost))
include m_VOTES m_NoPost fact_tup_VOTES fact_exc_NoPost in
theorem ok_check_votes (F0:GFm K mg "check_votes" s_check_votes a_check_votes d_check_votes):type_of% G_check_votes:=by
  refine fbM ["votes"] F0 fun Sc0=>F0.F.okR Sc0 (fun vs H Q E h=>?_) fun cdv A outer s H vs Q E hr h=>?_
  · obtain⟨v,rfl,_⟩:=h
    rfl
  obtain⟨v,rfl,q1,q2⟩:=h
  have nd:=Sc0.nd
  refine⟨_,(pss_one (ps_if (md_cmp z_notInI (dv 0) (pe_glob (v:= .ref a_VOTES) rfl m_VOTES rfl) rfl) (pss_one (ps_raise YK m_NoPost fact_exc_NoPost (pa_cons pe_str pa_nil))) pss_nil)),?_⟩
  refine⟨[1,3,5],.inr (fact_tup_VOTES.sq H),?_⟩
  conv=>whnf
  refine ite2 (fun c=>?_) (fun c=>?_)
  · refine⟨small_lit rfl,q2 fun z=>?_⟩
    have c1:(!decide (v∈ [(1:Int),3,5]))=true:=c
    rw[(mem_votes v).mpr z]at c1
    cases c1
  · refine q1 ((mem_votes v).mp ?_)
    cases e:decide (v∈ [(1:Int),3,5]) with
    |true=>rfl
    |false=>exact absurd (show (!decide (v∈ [(1:Int),3,5]))=true by rw[e];rfl) c
-- def check_choice
variable (G_check_choice:FB P w K mg base (CXR P w) 2 "check_choice" a_check_choice d_check_choice ["choice"] (spChoice K a_NoPost))
include m_NoPost fact_exc_NoPost G_are_bytes in
theorem ok_check_choice (F0:GFm K mg "check_choice" s_check_choice a_check_choice d_check_choice):type_of% G_check_choice:=by
  refine fbM ["choice"] F0 fun Sc0=>F0.F.okR Sc0 (fun vs H Q E h=>?_) fun cdv A outer s H vs Q E hr h=>?_
  · obtain⟨a,ns,rfl,_⟩:=h
    rfl
  obtain⟨a,ns,rfl,hS,hl,q1,q2⟩:=h
  have nd:=Sc0.nd
  refine⟨_,(pss_one (ps_if (pt_not (md_val (pe_call G_are_bytes.1 hr.mo rfl G_are_bytes.2.2.2 G_are_bytes.2.2.1 G_are_bytes.2.1 .nil pass0 (pa_cons (dv 0) pa_nil)))) (pss_one (ps_raise YK m_NoPost fact_exc_NoPost (pa_cons pe_str pa_nil))) pss_nil)),?_⟩
  refine⟨a,ns,rfl,.inr hS,hl,fun H1 g1=>?_⟩
  conv=>whnf
  refine ite2 (fun c=>?_) (fun c=>?_)
  · have c1:¬ ns.all byt=true:=fun z=>by
      have:(!ns.all byt)=true:=c
      rw[z]at this;cases this
    exact⟨small_lit rfl,q2 c1 _ g1⟩
  · have c1:ns.all byt=true:=by
      cases e:ns.all byt with
      |true=>rfl
      |false=>exact absurd (show (!ns.all byt)=true by rw[e];rfl) c
    exact q1 c1 _ g1
-- def Post_init
variable (G_Post_init:MB P w K mg base (CXR P w) 4 a_Post_init d_Post_init ["self","choice","votes"] (spPostInit K CA a_NoPost))
include m_VOTES m_NoPost m_Count m_Free fact_cls_Post fact_mk_Count fact_mk_Free fact_na_Post_tally fact_na_Post_waiting fact_na_Post_handed_up fact_na_Post_choice fact_na_Post_votes fact_na_Post_now G_Count_init G_Free_init G_check_votes G_check_choice in
theorem ok_Post_init (F0:Fun K "__init__" "Post.__init__" s_Post_init a_Post_init d_Post_init):type_of% G_Post_init:=by
  refine mbM ["self","choice","votes"] F0 fun Sc0=>F0.okR Sc0 (fun vs H Q E h=>?_) fun cdv A outer s H vs Q E hr h=>?_
  · obtain⟨a,dx,ch,m1,m2,v,rfl,_⟩:=h
    rfl
  obtain⟨a,dx,ch,m1,m2,v,rfl,e,ec,q1,q2⟩:=h
  have nd:=Sc0.nd
  refine⟨_,(pss_cons (ps_expr (pe_call G_check_choice.1 hr.mo rfl G_check_choice.2.2.2 G_check_choice.2.2.1 G_check_choice.2.1 .nil (passR fun _ _ _ z=>z) (pa_cons (dv 1) pa_nil))) (pss_cons (ps_expr (pe_call G_check_votes.1 hr.mo rfl G_check_votes.2.2.2 G_check_votes.2.2.1 G_check_votes.2.1 .nil (passR fun _ _ _ z=>z) (pa_cons (dv 2) pa_nil))) (pss_cons (md_set fact_cls_Post fact_na_Post_choice (dv 0) (dv 1)) (pss_cons (md_set fact_cls_Post fact_na_Post_votes (dv 0) (dv 2)) (pss_cons (md_set fact_cls_Post fact_na_Post_waiting (dv 0) (pe_lst pa_nil)) (pss_cons (md_set fact_cls_Post fact_na_Post_handed_up (dv 0) (pe_lst pa_nil)) (pss_cons (md_set fact_cls_Post fact_na_Post_tally (dv 0) (pe_make0 fact_mk_Count G_Count_init.1 hr.mo rfl m_Count G_Count_init.2 .nil pass0)) (pss_one (md_set fact_cls_Post fact_na_Post_now (dv 0) (pe_make fact_mk_Free G_Free_init.1 hr.mo rfl m_Free G_Free_init.2 .nil pass0 (pa_cons pe_int pa_nil))))))))))),?_⟩
  refine⟨ch, [m1,m2],rfl,SqT.of ec,(show 2<=500 by decide),fun hm H1 g1=>?_,fun no H1 g1=>?_⟩
  rotate_left
  · refine q2 (fun ok=>no ?_) H1 fun x u _ h=>g1 x u h
    rw[Xf,Xf,List.all_nil,ok.1,ok.2.1];rfl
  rw[Xf,Xf,List.all_nil,Bool.and_true,YT]at hm
  refine⟨v,rfl,fun hv=>?_,fun no=>q2 (fun ok=>no ok.2.2) H1 fun x u _ h=>g1 x u h⟩
  have ea:=g1 _ _ e
  refine⟨dx, [],ea,by decide,?_⟩
  refine⟨dx,_,upd_same,(show 1<1000 by decide),?_⟩
  rw[upd_upd]
  have m1_:Mid H a (.ins CA.post dx [("choice",.ref ch),("votes",.int v)]) [] (upd H1 a (.ins CA.post dx (putF "votes" (.int v) (putF "choice" (.ref ch) [])))):=⟨upd_same,fun x u hx h=>by rw[upd_ne hx];exact g1 x u h,(fun _ z=>nomatch z),List.nodup_nil⟩
  generalize upd H1 a _=Ha at m1_
  refine⟨small_lit rfl,fun wl hwl=>?_⟩
  have m2_:=m1_.add hwl (same_new hwl (.lst [])) upd_same
  generalize upd Ha wl (.lst [])=Hb at m2_
  refine⟨dx,_,m2_.ea,(show 2<1000 by decide),?_⟩
  have m3_:Mid H a (.ins CA.post dx [("choice",.ref ch),("votes",.int v),("waiting",.ref wl)]) _ (upd Hb a (.ins CA.post dx (putF "waiting" (.ref wl) [("choice",.ref ch),("votes",.int v)]))):=m2_.set _
  generalize upd Hb a _=Hb2 at m3_
  refine⟨small_lit rfl,fun ul hul=>?_⟩
  have m4_:=m3_.add hul (same_new hul (.lst [])) upd_same
  generalize upd Hb2 ul (.lst [])=Hc at m4_
  refine⟨dx,_,m4_.ea,(show 3<1000 by decide),?_⟩
  have m5_:Mid H a (.ins CA.post dx [("choice",.ref ch),("votes",.int v),("waiting",.ref wl),("handed_up",.ref ul)]) _ (upd Hc a (.ins CA.post dx (putF "handed_up" (.ref ul) [("choice",.ref ch),("votes",.int v),("waiting",.ref wl)]))):=m4_.set _
  generalize upd Hc a _=Hc2 at m5_
  refine fun ct dc hct hdc hne=>⟨ct,dc,rfl,upd_same,rfl,?_⟩
  have m6_:=m5_.add hct (same_made (C:=CA.count) (fs:=ctF 0) hct hdc) upd_same
  generalize upd (upd (upd Hc2 dc (.own ct)) ct (.ins CA.count dc [])) ct (.ins CA.count dc (ctF 0))=Hd at m6_
  refine⟨dx,_,m6_.ea,(show 4<1000 by decide),?_⟩
  have m7_:Mid H a (.ins CA.post dx [("choice",.ref ch),("votes",.int v),("waiting",.ref wl),("handed_up",.ref ul),("tally",.ref ct)]) _ (upd Hd a (.ins CA.post dx (putF "tally" (.ref ct) [("choice",.ref ch),("votes",.int v),("waiting",.ref wl),("handed_up",.ref ul)]))):=m6_.set _
  generalize upd Hd a _=Hd2 at m7_
  refine fun nw dn hnw hdn hne2=>⟨nw,dn,_,rfl,upd_same,fun H2 eH=>⟨rfl,?_⟩⟩
  have m8_:=m7_.add (Hy:=H2) hnw (by rw[eH];exact same_made hnw hdn) (by rw[eH];exact upd_same)
  clear eH
  refine⟨dx,_,m8_.ea,(show 5<1000 by decide),?_⟩
  have m9_:=m8_.set (.ins CA.post dx (pF ch v.toNat wl ul ct nw))
  have ev:v=((v.toNat:Nat):Int):=by omega
  have eF:(HO.ins CA.post dx (putF "now" (.ref nw) [("choice",.ref ch),("votes",.int v),("waiting",.ref wl),("handed_up",.ref ul),("tally",.ref ct)]))= .ins CA.post dx (pF ch v.toNat wl ul ct nw):=by
    show HO.ins CA.post dx [("choice",.ref ch),("votes",.int v),("waiting",.ref wl),("handed_up",.ref ul),("tally",.ref ct),("now",.ref nw)]=_
    rw[ev,Xl]
  rw[eF]
  generalize upd H2 a _=Hz at m9_
  have hnw':=m9_.nw (nw,_) (.head _)
  have hct':=m9_.nw (ct,_) (.tail _ (.head _))
  have hul':=m9_.nw (ul,_) (.tail _ (.tail _ (.head _)))
  have hwl':=m9_.nw (wl,_) (.tail _ (.tail _ (.tail _ (.head _))))
  have nd9:=m9_.nd
  have nwu:wl≠ul:=fun z=>by
    rw[z]at nd9
    exact absurd nd9 (by simp)
  have nch:ch≠a:=fun z=>by rw[z,e]at ec;cases ec
  have hb1:=byt_iff.mp hm.1
  have hb2:=byt_iff.mp hm.2
  have ec1:((m1.toNat:Nat):Int)=m1:=by omega
  have ec2:((m2.toNat:Nat):Int)=m2:=by omega
  refine q1 ⟨hm.1,hm.2,hv⟩ Hz (fun x=>(x=a\/x=wl\/x=ul\/x=ct)\/x=nw) ⟨nw,fun x=>x=a\/x=wl\/x=ul\/x=ct,fun x=>x=nw,⟨dx,ch,wl,ul,ct, [], [],m9_.ea,?_,hwl'.2.2,.nil,hul'.2.2,.nil,⟨dc,hct'.2.2⟩,.inl rfl,.inr (.inl rfl),.inr (.inr (.inl rfl)),.inr (.inr (.inr rfl)),nwu,?_⟩,stw_one hnw'.2.2 ⟨dn,hnw'.2.2⟩,?_,⟨?_,(fun _ z=>nomatch z),trivial⟩,fun x hx=>hx,?_⟩ ?_ ?_
  · show Hz ch=some (.tup [.int ((m1.toNat:Nat):Int),.int ((m2.toNat:Nat):Int)])
    rw[ec1,ec2]
    exact m9_.kp ch _ nch ec
  · rintro x (rfl | rfl | rfl | rfl)
    · rw[m9_.ea];simp
    · rw[hwl'.2.2];simp
    · rw[hul'.2.2];simp
    · rw[hct'.2.2];simp
  · rintro x hx hy
    have hy':x=nw:=hy
    rcases hx with rfl | rfl | rfl | rfl
    · exact hnw'.2.1 hy'.symm
    · rw[hy']at nd9;exact absurd nd9 (by simp)
    · rw[hy']at nd9;exact absurd nd9 (by simp)
    · rw[hy']at nd9;exact absurd nd9 (by simp)
  · show v.toNat<=5
    omega
  · rintro x ((rfl | rfl | rfl | rfl) | rfl)
    · rw[m9_.ea];simp
    · rw[hwl'.2.2];simp
    · rw[hul'.2.2];simp
    · rw[hct'.2.2];simp
    · rw[hnw'.2.2];simp
  · rintro x ((rfl | rfl | rfl | rfl) | rfl)
    · exact .inl rfl
    · exact .inr hwl'.1
    · exact .inr hul'.1
    · exact .inr hct'.1
    · exact .inr hnw'.1
  · exact m9_.kp
-- def Post_stance
variable (G_Post_stance:MB P w K mg base (CX0) 3 a_Post_stance d_Post_stance ["self"] (spPoShown0 CA))
include fact_cls_Free fact_cls_Post fact_meth_Free_shown fact_na_Post_now G_Free_shown in
theorem ok_Post_stance (F0:Fun K "stance" "Post.stance" s_Post_stance a_Post_stance d_Post_stance):type_of% G_Post_stance:=by
  refine mbK ["self"] F0 fun H Q nd hr h=>?_
  obtain⟨p,S,o,k,rfl,en,⟨nw,ob,os,bd,st,dj,wf,inc,al⟩,q⟩:=h
  refine⟨_,(pss_one (ps_ret (md_meth0 fact_cls_Free fact_meth_Free_shown G_Free_shown.1 hr.mo G_Free_shown.2 .nil pass0 (md_fld fact_cls_Post fact_na_Post_now (dv 0))))),?_⟩
  obtain⟨dp,ch,wl,ul,ct,ws,us,b⟩:=id bd
  have sa:=st.at_
  rw[en]at sa
  obtain⟨dd,hS⟩:=sa
  exact⟨dp,_,.ref nw,b.e,rfl,⟨dd,_,hS,rfl⟩,nw,S,os,rfl,(by rw[en];rfl),st,fun t H' h1 h2 h3=>q t H' h1 h2 (by rw[en]at h3;exact h3)⟩
-- def Rail_init
variable (G_Rail_init:MB P w K mg base (CXR P w) 9 a_Rail_init d_Rail_init ["self","choices","votes"] (spRlInit a_Rail CA a_NoPost))
include m_VOTES m_NoPost m_MOST_POSTS m_Post m_Rail m_len fact_cls_Rail fact_mk_Post fact_na_Rail_posts fact_na_Rail_owners fact_na_Rail_borne fact_na_Rail_sayings fact_na_Rail_hearings fact_na_Rail_happened fact_exc_NoPost G_Post_init in
theorem ok_Rail_init (F0:Fun K "__init__" "Rail.__init__" s_Rail_init a_Rail_init d_Rail_init):type_of% G_Rail_init:=by
  refine mbM ["self","choices","votes"] F0 fun Sc0=>F0.okR Sc0 (fun vs H Q E h=>?_) fun cdv A outer s H vs Q E hr h=>?_
  · obtain⟨a,dx,cl,v,ms,rfl,_⟩:=h
    rfl
  obtain⟨a,dx,cl,v,ms,rfl,ea,hC,hl,q1,q2⟩:=h
  have nd:=Sc0.nd
  refine⟨_,(pss_cons (ps_if (pt_not (mt_chain z_le z_le pe_int (pe_callB z_len rfl m_len bt_len (pa_cons (dv 1) pa_nil)) (pe_glob (v:= .int 5) rfl m_MOST_POSTS ⟨_,rfl⟩))) (pss_one (ps_raise YK m_NoPost fact_exc_NoPost (pa_cons pe_str pa_nil))) pss_nil) (pss_cons (md_set fact_cls_Rail fact_na_Rail_posts (dv 0) (pe_comp rfl (ix:=[2]) (mi_list (dv 1)) (fun C fp s0 H0 at0=>pts_nil) (fun C fp s0 H0 at0=>(pe_make fact_mk_Post G_Post_init.1 hr.mo rfl m_Post G_Post_init.2 .nil (passC (fun _ _ _ z=>z) at0) (pa_cons (dv 0) (pa_cons (dv 1) pa_nil)))) rfl rfl (by rfl) (show ([".0","choice","votes"]:List Str).Nodup by decide +kernel))) (pss_cons (md_set fact_cls_Rail fact_na_Rail_owners (dv 0) pe_dnewK) (pss_cons (md_set fact_cls_Rail fact_na_Rail_borne (dv 0) (pe_lst pa_nil)) (pss_cons (md_set fact_cls_Rail fact_na_Rail_sayings (dv 0) (pe_comp rfl (ix:=[]) (mi_list (dv 1)) (fun C fp s0 H0 at0=>pts_nil) (fun C fp s0 H0 at0=>(pe_lst pa_nil)) rfl rfl (by rfl) (show ([".0","choice"]:List Str).Nodup by decide +kernel))) (pss_cons (md_set fact_cls_Rail fact_na_Rail_hearings (dv 0) (pe_comp rfl (ix:=[]) (mi_list (dv 1)) (fun C fp s0 H0 at0=>pts_nil) (fun C fp s0 H0 at0=>(pe_lst pa_nil)) rfl rfl (by rfl) (show ([".0","choice"]:List Str).Nodup by decide +kernel))) (pss_one (md_set fact_cls_Rail fact_na_Rail_happened (dv 0) (pe_lst pa_nil))))))))),?_⟩
  obtain⟨ts,ecl,tl,tt⟩:=hC
  have hcla:cl≠a:=fun z=>by rw[z,ea]at ecl;cases ecl
  have hta:∀(i:Nat)(t:Addr)(m:Int×Int),ts[i]? =some t->ms[i]? =some m->t≠a:=fun i t m h1 h2 z=>by have:=tt i t m h1 h2;rw[z,ea]at this;cases this
  refine⟨_,.inl (SqL.of ecl),?_⟩
  rw[Ya,tl]
  conv=>whnf
  refine ite2 (fun c=>?_) (fun c=>?_)
  rotate_left
  · have c1:¬ (1:Int)<=((ms.length:Nat):Int):=dec_false c
    exact⟨small_lit rfl,q2 (fun z=>c1 (by have:=z.1.1;omega)) _ fun x u _ h=>h⟩
  have c1:(1:Int)<=((ms.length:Nat):Int):=dec_true c
  conv=>whnf
  refine ite2 (fun d=>?_) (fun d=>?_)
  · have d1:¬ ((ms.length:Nat):Int)<=5:=fun z=>by
      have d2:(!decide (((ms.length:Nat):Int)<=5))=true:=d
      rw[Yw z]at d2
      cases d2
    exact⟨small_lit rfl,q2 (fun z=>d1 (by have:=z.1.2;omega)) _ fun x u _ h=>h⟩
  have d1:((ms.length:Nat):Int)<=5:=Xs fun z=>d (by
    show (!decide (((ms.length:Nat):Int)<=5))=true
    rw[Ys z];rfl)
  have l5:ms.length<=5:=by omega
  refine⟨⟨_,SqL.of ecl⟩,comp_list (xs:=ts.map V.ref) (fun i ys H'=>∃(ps:List Addr)(op:Own),ys=ps.map V.ref/\ps.length=i/\Mk0 CA H a H' [(a,.ins a_Rail dx [])] ps ((ms.take i).map fun m=>S0 m.1.toNat m.2.toNat v.toNat) op/\∀m∈ms.take i,PoOk m.1 m.2 v) ?_ ?_ ?_ ?_ ?_⟩
  · rintro i ys H' hi ⟨ps,op,rfl,hp,_⟩
    rw[Ya]at hi ⊢
    exact small1 (by omega)
  · exact⟨[],_,rfl,rfl,Mk0.base ea,fun m hm=>by simp at hm⟩
  · rintro i ys H' hi ⟨ps,op,rfl,hp,mk,_⟩
    exact SqL.of (mk.kp _ _ hcla ecl)
  · rintro i x ys H' hx ⟨ps,op,rfl,hp_,mk,hok⟩
    rw[Yk]at hx
    obtain⟨t,ht,rfl⟩:=YR.mp hx
    have hil:i<ms.length:=by rw[<-tl];exact(Yb.mp ht).1
    have hm:ms[i]? =some ms[i]:=Yd hil
    have et:=mk.kp _ _ (hta i t _ ht hm) (tt i t _ ht hm)
    have tk:ms.take (i+1)=ms.take i++[ms[i]]:=Yp hil
    conv=>whnf
    refine fun p dp hp hdp hne=>⟨p,dp,t,_,_,v,rfl,upd_same,(by rw[upd_ne (ne_of_none et hp),upd_ne (ne_of_none et hdp)];exact et),fun ok H5 o hP hin hk=>⟨rfl,ps++[p],Or2 op o,by rw[Yi];rfl,by rw[Yj,hp_];rfl,?_,?_⟩,fun no H5 hk=>?_⟩
    · rw[tk,Yi]
      exact mk.post hp hdp hP hin hk
    · rw [tk]
      intro m hm'
      rcases YG.mp hm' with z | z
      · exact hok m z
      · rw[Yg]at z
        rw[z];exact ok
    · refine q2 (fun z=>no (z.2 _ (YU hil))) H5 fun x u hx h=>?_
      have h':=mk.kp x u hx h
      exact hk x u (ne_of_none h' hp) (by rw[upd_ne (ne_of_none h' hp),upd_ne (ne_of_none h' hdp)];exact h')
  rintro ys H1 ⟨ps,op,rfl,hp_,mk,hok⟩ PL hPL
  rw[Ya,tl,Yl (Yc _)]at mk hok
  have mk1:=Mk0.ins (L1:=[(a,.ins a_Rail dx [])]) (L2:=[]) (v:= .lst (ps.map V.ref)) (by simpa using mk) hPL
  refine⟨dx,_,mk1.cs.at_ 0 _ rfl,by decide,?_⟩
  have nI:∀{C d:Addr}{fs:List (Str×V)},¬ isT (.ins C d fs):=fun ⟨_,z⟩=>by cases z
  have mk2:=mk1.put (v':= .ins a_Rail dx (putF "posts" (.ref PL) [])) nI
  generalize upd (upd H1 PL _) a _=H2 at mk2
  intro OW hOW
  have mk3:=Mk0.ins (L1:=(a,.ins a_Rail dx [("posts",.ref PL)])::(PL,.lst (ps.map V.ref))::[]) (L2:=[]) (v:= .dK []) mk2 hOW
  refine⟨dx,_,mk3.cs.at_ 0 _ rfl,(show 1<1000 by decide),?_⟩
  have mk4:=mk3.put (v':= .ins a_Rail dx (putF "owners" (.ref OW) [("posts",.ref PL)])) nI
  generalize upd (upd H2 OW _) a _=H3 at mk4
  refine⟨small_lit rfl,fun BO hBO=>?_⟩
  have mk5:=Mk0.ins (L1:=(a,.ins a_Rail dx [("posts",.ref PL),("owners",.ref OW)])::(PL,.lst (ps.map V.ref))::(OW,.dK [])::[]) (L2:=[]) (v:= .lst []) mk4 hBO
  refine⟨dx,_,mk5.cs.at_ 0 _ rfl,(show 2<1000 by decide),?_⟩
  have mk6:=mk5.put (v':= .ins a_Rail dx (putF "borne" (.ref BO) [("posts",.ref PL),("owners",.ref OW)])) nI
  generalize upd (upd H3 BO _) a _=H4 at mk6
  obtain⟨o3,ho3⟩:∃o3:HO,o3= .ins a_Rail dx [("posts",.ref PL),("owners",.ref OW),("borne",.ref BO)]:=⟨_,rfl⟩
  have mk6':Mk0 CA H a H4 ((a,o3)::(PL,.lst (ps.map V.ref))::(OW,.dK [])::(BO,.lst [])::[]) ps (ms.map fun m=>S0 m.1.toNat m.2.toNat v.toNat) op:=by rw[ho3];exact mk6
  clear mk mk1 mk2 mk3 mk4 mk5 mk6
  refine⟨⟨_,SqL.of (mk6'.kp _ _ hcla ecl)⟩,comp_list (xs:=ts.map V.ref) (fun i ys H'=>∃sas:List Addr,ys=sas.map V.ref/\sas.length=i/\Mk0 CA H a H' ((a,o3)::(PL,.lst (ps.map V.ref))::(OW,.dK [])::(BO,.lst [])::lsC sas (List.replicate i [])) ps (ms.map fun m=>S0 m.1.toNat m.2.toNat v.toNat) op) ?_ ?_ ?_ ?_ ?_⟩
  · rintro i ys H' hi ⟨sas,rfl,hp,_⟩
    rw[Ya]at hi ⊢
    exact small1 (by omega)
  · exact⟨[],rfl,rfl,mk6'⟩
  · rintro i ys H' hi ⟨sas,rfl,hp,mk⟩
    exact SqL.of (mk.kp _ _ hcla ecl)
  · rintro i x ys H' hx ⟨sas,rfl,hp,mk⟩
    conv=>whnf
    refine⟨small_lit rfl,fun s1 hs1=>⟨sas++[s1],by rw[Yi];rfl,by rw[Yj,hp];rfl,?_⟩⟩
    rw[lsC_snoc i hp]
    exact Mk0.ins (L1:=(a,o3)::(PL,.lst (ps.map V.ref))::(OW,.dK [])::(BO,.lst [])::lsC sas (List.replicate i [])) (L2:=[]) (by rw[YZ];exact mk) hs1
  rintro ys H5 ⟨sas,rfl,hsl,mk7⟩ SA hSA
  rw[Ya,tl]at hsl mk7
  have mk8:=Mk0.ins (L1:=(a,o3)::(PL,.lst (ps.map V.ref))::(OW,.dK [])::(BO,.lst [])::[]) (L2:=lsC sas (List.replicate ms.length [])) (v:= .lst (sas.map V.ref)) mk7 hSA
  subst ho3
  refine⟨dx,_,mk8.cs.at_ 0 _ rfl,(show 3<1000 by decide),?_⟩
  have mk9:=mk8.put (v':= .ins a_Rail dx (putF "sayings" (.ref SA) [("posts",.ref PL),("owners",.ref OW),("borne",.ref BO)])) nI
  generalize upd (upd H5 SA _) a _=H6 at mk9
  obtain⟨o4,ho4⟩:∃o4:HO,o4= .ins a_Rail dx [("posts",.ref PL),("owners",.ref OW),("borne",.ref BO),("sayings",.ref SA)]:=⟨_,rfl⟩
  have mk9':Mk0 CA H a H6 ((a,o4)::(PL,.lst (ps.map V.ref))::(OW,.dK [])::(BO,.lst [])::(SA,.lst (sas.map V.ref))::lsC sas (List.replicate ms.length [])) ps (ms.map fun m=>S0 m.1.toNat m.2.toNat v.toNat) op:=by rw[ho4];exact mk9
  clear mk6' mk7 mk8 mk9
  refine⟨⟨_,SqL.of (mk9'.kp _ _ hcla ecl)⟩,comp_list (xs:=ts.map V.ref) (fun i ys H'=>∃hes:List Addr,ys=hes.map V.ref/\hes.length=i/\Mk0 CA H a H' ((a,o4)::(PL,.lst (ps.map V.ref))::(OW,.dK [])::(BO,.lst [])::(SA,.lst (sas.map V.ref))::(lsC sas (List.replicate ms.length [])++lsC hes (List.replicate i []))) ps (ms.map fun m=>S0 m.1.toNat m.2.toNat v.toNat) op) ?_ ?_ ?_ ?_ ?_⟩
  · rintro i ys H' hi ⟨hes,rfl,hp,_⟩
    rw[Ya]at hi ⊢
    exact small1 (by omega)
  · exact⟨[],rfl,rfl,by rw[show lsC [] (List.replicate 0 [])= [] from rfl,YZ];exact mk9'⟩
  · rintro i ys H' hi ⟨hes,rfl,hp,mk⟩
    exact SqL.of (mk.kp _ _ hcla ecl)
  · rintro i x ys H' hx ⟨hes,rfl,hp,mk⟩
    conv=>whnf
    refine⟨small_lit rfl,fun s1 hs1=>⟨hes++[s1],by rw[Yi];rfl,by rw[Yj,hp];rfl,?_⟩⟩
    rw[lsC_snoc i hp,<-Y7]
    exact Mk0.ins (L1:=(a,o4)::(PL,.lst (ps.map V.ref))::(OW,.dK [])::(BO,.lst [])::(SA,.lst (sas.map V.ref))::(lsC sas (List.replicate ms.length [])++lsC hes (List.replicate i []))) (L2:=[]) (by rw[YZ];exact mk) hs1
  rintro ys H7 ⟨hes,rfl,hhl,mk10⟩ HE hHE
  rw[Ya,tl]at hhl mk10
  have mk11:=Mk0.ins (L1:=(a,o4)::(PL,.lst (ps.map V.ref))::(OW,.dK [])::(BO,.lst [])::(SA,.lst (sas.map V.ref))::[]) (L2:=lsC sas (List.replicate ms.length [])++lsC hes (List.replicate ms.length [])) (v:= .lst (hes.map V.ref)) mk10 hHE
  subst ho4
  refine⟨dx,_,mk11.cs.at_ 0 _ rfl,(show 4<1000 by decide),?_⟩
  have mk12:=mk11.put (v':= .ins a_Rail dx (putF "hearings" (.ref HE) [("posts",.ref PL),("owners",.ref OW),("borne",.ref BO),("sayings",.ref SA)])) nI
  generalize upd (upd H7 HE _) a _=H8 at mk12
  refine⟨small_lit rfl,fun EV hEV=>?_⟩
  have mk13:=Mk0.ins (L1:=(a,.ins a_Rail dx [("posts",.ref PL),("owners",.ref OW),("borne",.ref BO),("sayings",.ref SA),("hearings",.ref HE)])::(PL,.lst (ps.map V.ref))::(OW,.dK [])::(BO,.lst [])::(SA,.lst (sas.map V.ref))::(HE,.lst (hes.map V.ref))::[]) (L2:=lsC sas (List.replicate ms.length [])++lsC hes (List.replicate ms.length [])) (v:= .lst []) mk12 hEV
  refine⟨dx,_,mk13.cs.at_ 0 _ rfl,(show 5<1000 by decide),?_⟩
  have mk14:=mk13.put (v':= .ins a_Rail dx (putF "happened" (.ref EV) [("posts",.ref PL),("owners",.ref OW),("borne",.ref BO),("sayings",.ref SA),("hearings",.ref HE)])) nI
  generalize upd (upd H8 EV _) a _=H9 at mk14
  have mk15:Mk0 CA H a H9 (railL a_Rail a ⟨dx,PL,OW,BO,SA,HE,EV,ps,sas,hes, [],op⟩ (R0 ms v)) ps (R0 ms v).ps op:=mk14
  obtain⟨o,hR,hn⟩:=mk15.fin hsl hhl l5
  exact q1 ⟨⟨by omega,l5⟩,hok⟩ H9 o hR hn mk15.kp
-- def Rail_post_at
variable (G_Rail_post_at:MB P w K mg base (CXR P w) 1 a_Rail_post_at d_Rail_post_at ["self","post"] (spRlPost a_Rail CA a_NoPost))
include m_NoPost m_Rail m_len fact_cls_Rail fact_na_Rail_posts fact_exc_NoPost in
theorem ok_Rail_post_at (F0:Fun K "post_at" "Rail.post_at" s_Rail_post_at a_Rail_post_at d_Rail_post_at):type_of% G_Rail_post_at:=by
  refine mbM ["self","post"] F0 fun Sc0=>F0.okR Sc0 (fun vs H Q E h=>?_) fun cdv A outer s H vs Q E hr h=>?_
  · obtain⟨r,R,o,w,k,rfl,_⟩:=h
    rfl
  obtain⟨r,R,o,w,k,rfl,hR,q1,q2⟩:=h
  have nd:=Sc0.nd
  refine⟨_,(pss_cons (ps_if (pt_not (mt_chain z_le z_lt pe_int (dv 1) (pe_callB z_len rfl m_len bt_len (pa_cons (md_fld fact_cls_Rail fact_na_Rail_posts (dv 0)) pa_nil)))) (pss_one (ps_raise YK m_NoPost fact_exc_NoPost (pa_cons pe_str pa_nil))) pss_nil) (pss_one (ps_ret (pe_ix z_ixL (md_fld fact_cls_Rail fact_na_Rail_posts (dv 0)) (dv 1) (fun _ _=>rfl))))),?_⟩
  conv=>whnf
  refine ite2 (fun c=>?_) (fun c=>?_)
  · have c1:0<=k:=dec_true c
    refine⟨w.dx,_,.ref w.PL,hR.er,rfl,_,.inl (SqL.of hR.ePL),?_⟩
    rw[Ya,hR.pl]
    conv=>whnf
    refine ite2 (fun d=>?_) (fun d=>?_)
    · have d1:¬ k<((R.ps.length:Nat):Int):=fun z=>by
        have d2:(!decide (k<((R.ps.length:Nat):Int)))=true:=d
        rw[Yw z]at d2
        cases d2
      exact⟨small_lit rfl,q2 (fun z=>d1 z.2) _ (Same.refl _)⟩
    · have d1:k<((R.ps.length:Nat):Int):=Xs fun z=>d (by
        show (!decide (k<((R.ps.length:Nat):Int)))=true
        rw[Ys z];rfl)
      obtain⟨i,rfl⟩:=Int.eq_ofNat_of_zero_le c1
      have hl:i<w.ps.length:=by rw[hR.pl];omega
      have hp:w.ps[i]? =some w.ps[i]:=Yd hl
      exact⟨w.dx,_,.ref w.PL,hR.er,rfl,_,_,SqL.of hR.ePL,atI_nat (j:=i) (by rw[Yk,hp];rfl),q1 i _ rfl hp⟩
  · have c1:¬ 0<=k:=dec_false c
    exact⟨small_lit rfl,q2 (fun z=>c1 z.1) _ (Same.refl _)⟩
-- def Rail_hand
variable (G_Rail_hand:MB P w K mg base (CXR P w) 9 a_Rail_hand d_Rail_hand ["self","post","name","data"] (spRlHand K a_Rail CA a_NoPost a_NoFrame a_NoName))
include m_NoFrame m_NoPost m_Rail m_NoName fact_cls_Post fact_cls_Rail fact_meth_Rail_post_at fact_meth_Post_hand fact_na_Rail_owners fact_exc_NoName G_check_frame G_Post_hand G_Rail_post_at in
theorem ok_Rail_hand (F0:Fun K "hand" "Rail.hand" s_Rail_hand a_Rail_hand d_Rail_hand):type_of% G_Rail_hand:=by
  refine mbM ["self","post","name","data","taker"] F0 fun Sc0=>F0.okR Sc0 (fun vs H Q E h=>?_) fun cdv A outer s H vs Q E hr h=>?_
  · obtain⟨r,R,o,w,k,n,a,ds,rfl,_⟩:=h
    rfl
  obtain⟨r,R,o,w,k,n,a,ds,rfl,hR,hS,hl,how,hwt,q1,q2,q3⟩:=h
  have nd:=Sc0.nd
  refine⟨_,(pss_cons (ps_set (i:=4) nd rfl (Or.inl rfl) (md_meth fact_cls_Rail fact_meth_Rail_post_at G_Rail_post_at.1 hr.mo G_Rail_post_at.2 .nil (passR fun _ _ _ z=>z) (dv 0) (pa_cons (dv 1) pa_nil))) (pss_cons (ps_expr (pe_call G_check_frame.1 hr.mo rfl G_check_frame.2.2.2 G_check_frame.2.2.1 G_check_frame.2.1 .nil (passR fun _ _ _ z=>z) (pa_cons (dv 2) (pa_cons (dv 3) pa_nil)))) (pss_cons (ps_if (md_cmp z_ne (pe_dget2 (hu_of hr) (md_fld fact_cls_Rail fact_na_Rail_owners (dv 0)) (dv 2) (dv 1) ⟨rfl,rfl,rfl,rfl⟩) (dv 1) (nomark _)) (pss_one (ps_raise YK m_NoName fact_exc_NoName (pa_cons pe_str pa_nil))) pss_nil) (pss_cons (ps_dput (hu_of hr) (md_fld fact_cls_Rail fact_na_Rail_owners (dv 0)) (dv 2) (dv 1) rfl) (pss_one (ps_expr (md_meth fact_cls_Post fact_meth_Post_hand G_Post_hand.1 hr.mo G_Post_hand.2 .nil (passR fun _ _ _ z=>z) (dv 4) (pa_cons (dv 2) (pa_cons (dv 3) pa_nil))))))))),?_⟩
  refine⟨⟨w.dx,_,hR.er,rfl⟩,r,R,o,w,k,rfl,hR,fun i p e hp=>?_,fun no H1 g1=>q1 no H1 g1⟩
  subst e
  obtain⟨S,oi,eS,hP,le,back⟩:=hR.step hp
  have hil:i<R.ps.length:=(Yb.mp eS).1
  refine⟨n,a,ds,rfl,hS,hl,fun ok H1 g1=>?_,fun no H1 g1=>q2 ⟨by omega,by omega⟩ no H1 g1⟩
  obtain⟨j,ej,q4,q5⟩:=q3 i S rfl eS ok
  have hR1:=hR.same g1
  refine⟨w.dx,_,.ref w.OW,hR1.er,rfl,w.OW,rfl,.inl ⟨_,.inl hR1.eOW⟩,_,.inl ⟨_,.inl n,.inl hR1.eOW,rfl,rfl⟩,?_⟩
  rw[ej]
  conv=>whnf
  refine ite2 (fun c=>?_) (fun c=>?_)
  · have c1:¬ j=((i:Nat):Int):=fun z=>by
      have c2:(!decide (j=((i:Nat):Int)))=true:=c
      rw[Yw z]at c2
      cases c2
    exact⟨small_lit rfl,q4 c1 _ g1⟩
  have c1:j=((i:Nat):Int):=Xs fun z=>c (by
    show (!decide (j=((i:Nat):Int)))=true
    rw[Ys z];rfl)
  refine⟨w.dx,_,.ref w.OW,hR1.er,rfl,w.OW,_,rfl,.inl ⟨_,.inl n,hR1.eOW,rfl,small1 (by omega),rfl⟩,?_⟩
  obtain⟨hR2,m2⟩:=hR1.put (k:=2) (R':={ R with ow:=putK R.ow (.inl n) (.int ((i:Nat):Int)) }) (w':=w) rfl notTD rfl rfl rfl rfl rfl rfl rfl rfl hR1.ev
  have hS2:=sq_updD (v:= .dK (putK R.ow (.inl n) (.int ((i:Nat):Int)))) (g1.seq hS) hR1.eOW
  generalize upd H1 w.OW _=H2 at hR2 m2 hS2
  obtain⟨S2,oi2,eS2,hP2,le2,back2⟩:=hR2.step hp
  have ee:S2=S:=YF (eS2.symm.trans eS)
  subst ee
  obtain⟨dq,ch,vt',wl_,ul,cc,nw,ep⟩:=hP2.cell
  obtain⟨nw5,ob5,bd5,fin5⟩:=hP2.hand
  refine⟨⟨dq,_,ep,rfl⟩,p,nw5,S2,ob5,n,a,ds,rfl,bd5,hS2,hl,hwt _ (Yq eS),fun _ H3 d hd b k=>?_,fun no=>absurd ok no⟩
  obtain⟨o3,hP3,mv3⟩:=fin5 ok H3 d hd b k
  obtain⟨o',op',hR3,m3⟩:=back2 H3 o3 _ mv3 hP3
  exact q5 c1 H3 o' ⟨_,hR3⟩ ((Mv.of g1).trans (m2.trans m3))
-- def Rail_stance
variable (G_Rail_stance:MB P w K mg base (CXR P w) 9 a_Rail_stance d_Rail_stance ["self","post"] (spAskE a_Rail CA a_NoPost gStance))
include m_NoPost m_Rail fact_cls_Post fact_cls_Rail fact_meth_Rail_post_at fact_meth_Post_stance G_Post_stance G_Rail_post_at in
theorem ok_Rail_stance (F0:Fun K "stance" "Rail.stance" s_Rail_stance a_Rail_stance d_Rail_stance):type_of% G_Rail_stance:=by
  refine mbM ["self","post"] F0 fun Sc0=>F0.okR Sc0 (fun vs H Q E h=>?_) fun cdv A outer s H vs Q E hr h=>?_
  · obtain⟨r,R,o,w,k,rfl,_⟩:=h
    rfl
  obtain⟨r,R,o,w,k,rfl,hR,q1,q2⟩:=h
  have nd:=Sc0.nd
  refine⟨_,(pss_one (ps_ret (md_meth0 fact_cls_Post fact_meth_Post_stance G_Post_stance.1 hr.mo G_Post_stance.2 .nil pass0 (md_meth fact_cls_Rail fact_meth_Rail_post_at G_Rail_post_at.1 hr.mo G_Rail_post_at.2 .nil (passR fun _ _ _ z=>z) (dv 0) (pa_cons (dv 1) pa_nil))))),?_⟩
  refine⟨⟨w.dx,_,hR.er,rfl⟩,r,R,o,w,k,rfl,hR,fun i p e hp=>?_,fun no H1 g1=>q2 no H1 g1⟩
  obtain⟨S,oi,eS,hP,_⟩:=hR.step hp
  have q:=q1 i S e eS
  obtain⟨dq,ch,vt',wl_,ul,cc,nw,ep⟩:=hP.cell
  obtain⟨nwb,ob,bd⟩:=hP.bd
  
  obtain⟨k0,en0,q0⟩:=q
  exact⟨⟨dq,_,ep,rfl⟩,p,S,oi,k0,rfl,en0,hP,q0⟩
-- def Rail_waits
variable (G_Rail_waits:MB P w K mg base (CXR P w) 9 a_Rail_waits d_Rail_waits ["self","post"] (spAskE a_Rail CA a_NoPost gWaits))
include m_NoPost m_Rail fact_cls_Post fact_cls_Rail fact_meth_Rail_post_at fact_meth_Post_waits G_Post_waits G_Rail_post_at in
theorem ok_Rail_waits (F0:Fun K "waits" "Rail.waits" s_Rail_waits a_Rail_waits d_Rail_waits):type_of% G_Rail_waits:=by
  refine mbM ["self","post"] F0 fun Sc0=>F0.okR Sc0 (fun vs H Q E h=>?_) fun cdv A outer s H vs Q E hr h=>?_
  · obtain⟨r,R,o,w,k,rfl,_⟩:=h
    rfl
  obtain⟨r,R,o,w,k,rfl,hR,q1,q2⟩:=h
  have nd:=Sc0.nd
  refine⟨_,(pss_one (ps_ret (md_meth0 fact_cls_Post fact_meth_Post_waits G_Post_waits.1 hr.mo G_Post_waits.2 .nil pass0 (md_meth fact_cls_Rail fact_meth_Rail_post_at G_Rail_post_at.1 hr.mo G_Rail_post_at.2 .nil (passR fun _ _ _ z=>z) (dv 0) (pa_cons (dv 1) pa_nil))))),?_⟩
  refine⟨⟨w.dx,_,hR.er,rfl⟩,r,R,o,w,k,rfl,hR,fun i p e hp=>?_,fun no H1 g1=>q2 no H1 g1⟩
  obtain⟨S,oi,eS,hP,_⟩:=hR.step hp
  have q:=q1 i S e eS
  obtain⟨dq,ch,vt',wl_,ul,cc,nw,ep⟩:=hP.cell
  obtain⟨nwb,ob,bd⟩:=hP.bd
  
  exact⟨⟨dq,_,ep,rfl⟩,p,nwb,S,ob,rfl,bd,q⟩
-- def Rail_got
variable (G_Rail_got:MB P w K mg base (CXR P w) 9 a_Rail_got d_Rail_got ["self","post"] (spAskE a_Rail CA a_NoPost gGot))
include m_NoPost m_Rail fact_cls_Post fact_cls_Rail fact_meth_Rail_post_at fact_meth_Post_got G_Post_got G_Rail_post_at in
theorem ok_Rail_got (F0:Fun K "got" "Rail.got" s_Rail_got a_Rail_got d_Rail_got):type_of% G_Rail_got:=by
  refine mbM ["self","post"] F0 fun Sc0=>F0.okR Sc0 (fun vs H Q E h=>?_) fun cdv A outer s H vs Q E hr h=>?_
  · obtain⟨r,R,o,w,k,rfl,_⟩:=h
    rfl
  obtain⟨r,R,o,w,k,rfl,hR,q1,q2⟩:=h
  have nd:=Sc0.nd
  refine⟨_,(pss_one (ps_ret (md_meth0 fact_cls_Post fact_meth_Post_got G_Post_got.1 hr.mo G_Post_got.2 .nil pass0 (md_meth fact_cls_Rail fact_meth_Rail_post_at G_Rail_post_at.1 hr.mo G_Rail_post_at.2 .nil (passR fun _ _ _ z=>z) (dv 0) (pa_cons (dv 1) pa_nil))))),?_⟩
  refine⟨⟨w.dx,_,hR.er,rfl⟩,r,R,o,w,k,rfl,hR,fun i p e hp=>?_,fun no H1 g1=>q2 no H1 g1⟩
  obtain⟨S,oi,eS,hP,_⟩:=hR.step hp
  have q:=q1 i S e eS
  obtain⟨dq,ch,vt',wl_,ul,cc,nw,ep⟩:=hP.cell
  obtain⟨nwb,ob,bd⟩:=hP.bd
  
  exact⟨⟨dq,_,ep,rfl⟩,p,nwb,S,ob,rfl,bd,q⟩
-- def Rail_faults
variable (G_Rail_faults:MB P w K mg base (CXR P w) 9 a_Rail_faults d_Rail_faults ["self","post"] (spAskE a_Rail CA a_NoPost gN))
include m_NoPost m_Rail fact_cls_Post fact_cls_Rail fact_meth_Rail_post_at fact_meth_Post_faults G_Post_faults G_Rail_post_at in
theorem ok_Rail_faults (F0:Fun K "faults" "Rail.faults" s_Rail_faults a_Rail_faults d_Rail_faults):type_of% G_Rail_faults:=by
  refine mbM ["self","post"] F0 fun Sc0=>F0.okR Sc0 (fun vs H Q E h=>?_) fun cdv A outer s H vs Q E hr h=>?_
  · obtain⟨r,R,o,w,k,rfl,_⟩:=h
    rfl
  obtain⟨r,R,o,w,k,rfl,hR,q1,q2⟩:=h
  have nd:=Sc0.nd
  refine⟨_,(pss_one (ps_ret (md_meth0 fact_cls_Post fact_meth_Post_faults G_Post_faults.1 hr.mo G_Post_faults.2 .nil pass0 (md_meth fact_cls_Rail fact_meth_Rail_post_at G_Rail_post_at.1 hr.mo G_Rail_post_at.2 .nil (passR fun _ _ _ z=>z) (dv 0) (pa_cons (dv 1) pa_nil))))),?_⟩
  refine⟨⟨w.dx,_,hR.er,rfl⟩,r,R,o,w,k,rfl,hR,fun i p e hp=>?_,fun no H1 g1=>q2 no H1 g1⟩
  obtain⟨S,oi,eS,hP,_⟩:=hR.step hp
  have q:=q1 i S e eS
  obtain⟨dq,ch,vt',wl_,ul,cc,nw,ep⟩:=hP.cell
  obtain⟨nwb,ob,bd⟩:=hP.bd
  
  exact⟨⟨dq,_,ep,rfl⟩,p,nwb,S,ob,rfl,bd,q⟩
-- def Rail_is_off
variable (G_Rail_is_off:MB P w K mg base (CXR P w) 9 a_Rail_is_off d_Rail_is_off ["self","post"] (spAskE a_Rail CA a_NoPost (gB 18)))
include m_NoPost m_Rail fact_cls_Post fact_cls_Rail fact_meth_Rail_post_at fact_meth_Post_is_off G_Post_is_off G_Rail_post_at in
theorem ok_Rail_is_off (F0:Fun K "is_off" "Rail.is_off" s_Rail_is_off a_Rail_is_off d_Rail_is_off):type_of% G_Rail_is_off:=by
  refine mbM ["self","post"] F0 fun Sc0=>F0.okR Sc0 (fun vs H Q E h=>?_) fun cdv A outer s H vs Q E hr h=>?_
  · obtain⟨r,R,o,w,k,rfl,_⟩:=h
    rfl
  obtain⟨r,R,o,w,k,rfl,hR,q1,q2⟩:=h
  have nd:=Sc0.nd
  refine⟨_,(pss_one (ps_ret (md_meth0 fact_cls_Post fact_meth_Post_is_off G_Post_is_off.1 hr.mo G_Post_is_off.2 .nil pass0 (md_meth fact_cls_Rail fact_meth_Rail_post_at G_Rail_post_at.1 hr.mo G_Rail_post_at.2 .nil (passR fun _ _ _ z=>z) (dv 0) (pa_cons (dv 1) pa_nil))))),?_⟩
  refine⟨⟨w.dx,_,hR.er,rfl⟩,r,R,o,w,k,rfl,hR,fun i p e hp=>?_,fun no H1 g1=>q2 no H1 g1⟩
  obtain⟨S,oi,eS,hP,_⟩:=hR.step hp
  have q:=q1 i S e eS
  obtain⟨dq,ch,vt',wl_,ul,cc,nw,ep⟩:=hP.cell
  obtain⟨nwb,ob,bd⟩:=hP.bd
  
  exact⟨⟨dq,_,ep,rfl⟩,p,nwb,S,ob,rfl,bd,q⟩
-- def Rail_heard
variable (G_Rail_heard:MB P w K mg base (CXR P w) 9 a_Rail_heard d_Rail_heard ["self","post"] (spAskL a_Rail CA a_NoPost (fun R=>R.he)))
include m_NoPost m_Rail m_list fact_cls_Rail fact_meth_Rail_post_at fact_na_Rail_hearings G_Rail_post_at in
theorem ok_Rail_heard (F0:Fun K "heard" "Rail.heard" s_Rail_heard a_Rail_heard d_Rail_heard):type_of% G_Rail_heard:=by
  refine mbM ["self","post"] F0 fun Sc0=>F0.okR Sc0 (fun vs H Q E h=>?_) fun cdv A outer s H vs Q E hr h=>?_
  · obtain⟨r,R,o,w,k,rfl,_⟩:=h
    rfl
  obtain⟨r,R,o,w,k,rfl,hR,q1,q2⟩:=h
  have nd:=Sc0.nd
  refine⟨_,(pss_cons (ps_expr (md_meth fact_cls_Rail fact_meth_Rail_post_at G_Rail_post_at.1 hr.mo G_Rail_post_at.2 .nil (passR fun _ _ _ z=>z) (dv 0) (pa_cons (dv 1) pa_nil))) (pss_one (ps_ret (pe_callTy z_listOf rfl m_list bt_list (pa_cons (pe_ix z_ixL (md_fld fact_cls_Rail fact_na_Rail_hearings (dv 0)) (dv 1) (fun _ _=>rfl)) pa_nil))))),?_⟩
  refine⟨⟨w.dx,_,hR.er,rfl⟩,r,R,o,w,k,rfl,hR,fun i p e hp=>?_,fun no H1 g1=>q2 no H1 g1⟩
  have hil:i<R.ps.length:=by rw[<-hR.pl];exact(Yb.mp hp).1
  have l2:=hR.l2
  have l4:=hR.l4
  have eX:R.he[i]? =some (R.he[i]'(by omega)):=Yd (by omega)
  generalize R.he[i]'(by omega)=X at eX
  obtain⟨a1,ha1,ka1⟩:=hR.he_at eX
  subst e
  exact⟨w.dx,_,.ref w.HE,hR.er,rfl,_,.ref a1,SqL.of hR.eHE,atI_nat (by rw[Yk,ha1];rfl),_,.inl (SqL.of (hR.cs.at_ _ _ ka1)),q1 i X rfl eX⟩
-- def piece_of
variable (G_piece_of:FB P w K mg base (CX0) 1 "piece_of" a_piece_of d_piece_of ["tag","many","number","thing"] (spPiece K))
include m_PIECE_BYTES in
theorem ok_piece_of (F0:GFm K mg "piece_of" s_piece_of a_piece_of d_piece_of):type_of% G_piece_of:=by
  refine fbK ["tag","many","number","thing","start"] F0 fun H Q nd hr h=>?_
  obtain⟨g,n,k,a,th,rfl,hS,hl,hn,hk,q⟩:=h
  refine⟨_,(pss_cons (ps_set (i:=4) nd rfl (Or.inl rfl) (pe_op z_mul (pe_glob (v:= .int 5) rfl m_PIECE_BYTES ⟨_,rfl⟩) (dv 2))) (pss_one (ps_ret (pe_op z_cat (pe_lst (pa_cons (dv 0) (pa_cons (pe_op z_add (pe_op z_mul pe_int (dv 1)) (dv 2)) pa_nil))) (pe_slice z_slL (dv 3) (md_part (dv 4)) (md_part (pe_op z_add (dv 4) (pe_glob (v:= .int 5) rfl m_PIECE_BYTES ⟨_,rfl⟩)))))))),?_⟩
  refine⟨⟨by decide,big64 (by omega) (by omega)⟩,⟨by decide,big64 (by omega) (by omega)⟩,small_lit rfl,fun p1 hp1=>?_⟩
  generalize eU:upd H p1 _=H1
  have g1:=nS hp1 eU
  have e1:=nE eU
  clear eU
  refine⟨_,g1.seq hS,fun p2 hp2=>?_⟩
  have ec:cutV (th.map V.int) (some ((5:Int)*((k:Nat):Int))) (some ((5:Int)*((k:Nat):Int)+5))=((th.drop (5*k)).take 5).map V.int:=by
    have h1:(5:Int)*((k:Nat):Int)=((5*k:Nat):Int):=by omega
    have h2:(5:Int)*((k:Nat):Int)+5=((5*k+5:Nat):Int):=by omega
    rw[h2,h1]
    unfold cutV
    rw[HT.sIx_nat,HT.sIx_nat,Ya,List.map_take,List.map_drop]
    by_cases z:5*k<=th.length
    · rw[Xb z]
      by_cases y:5*k+5<=th.length
      · rw[Xb y];congr 1;omega
      · rw[Y1 (by omega),Yl (by rw[Y9,Ya];exact Yc _),Yl (by rw[Y9,Ya];omega)]
    · rw[Y1 (by omega:th.length<=5*k),Y1 (by omega),Xj (by rw[Ya];exact Yc _),Xj (by rw[Ya];omega)]
      simp
  have g2:=same_new hp2 (.lst (((th.drop (5*k)).take 5).map V.int))
  have e2:upd H1 p2 (.lst (cutV (th.map V.int) (some ((5:Int)*((k:Nat):Int))) (some ((5:Int)*((k:Nat):Int)+5)))) p2=some (.lst (((th.drop (5*k)).take 5).map V.int)):=by rw[upd_same,ec]
  have g2':=same_new hp2 (.lst (cutV (th.map V.int) (some ((5:Int)*((k:Nat):Int))) (some ((5:Int)*((k:Nat):Int)+5))))
  generalize upd H1 p2 (.lst (cutV (th.map V.int) (some ((5:Int)*((k:Nat):Int))) (some ((5:Int)*((k:Nat):Int)+5))))=H2 at e2 g2'
  refine⟨_,_,g2' _ _ e1,e2,(by rw[Ya,YC];exact small (by show 2+_<=1000;omega)),fun p3 hp3=>?_⟩
  have gs:=g1.trans g2'
  refine q p3 _ (gs.none hp3) (gs.trans (same_new hp3 _)) ?_
  rw[upd_same]
  unfold pc
  rw[Yi]
  rfl
-- def check_thing
variable (G_check_thing:FB P w K mg base (CXR P w) 2 "check_thing" a_check_thing d_check_thing ["tag","thing"] (spChkT K a_NoThing))
include m_NoThing m_MOST_BYTES_things m_len fact_exc_NoThing G_are_bytes in
theorem ok_check_thing (F0:GFm K mg "check_thing" s_check_thing a_check_thing d_check_thing):type_of% G_check_thing:=by
  refine fbM ["tag","thing"] F0 fun Sc0=>F0.F.okR Sc0 (fun vs H Q E h=>?_) fun cdv A outer s H vs Q E hr h=>?_
  · obtain⟨g,a,th,rfl,_⟩:=h
    rfl
  obtain⟨g,a,th,rfl,hS,hl,q1,q2⟩:=h
  have nd:=Sc0.nd
  refine⟨_,(pss_cons (ps_if (pt_not (md_val (pe_call G_are_bytes.1 hr.mo rfl G_are_bytes.2.2.2 G_are_bytes.2.2.1 G_are_bytes.2.1 .nil pass0 (pa_cons (pe_lst (pa_cons (dv 0) pa_nil)) pa_nil)))) (pss_one (ps_raise YK m_NoThing fact_exc_NoThing (pa_cons pe_str pa_nil))) pss_nil) (pss_cons (ps_if (md_cmp z_gt (pe_callB z_len rfl m_len bt_len (pa_cons (dv 1) pa_nil)) (pe_glob (v:= .int 75) rfl m_MOST_BYTES_things ⟨_,rfl⟩) (nomark _)) (pss_one (ps_raise YK m_NoThing fact_exc_NoThing (pa_cons pe_str pa_nil))) pss_nil) (pss_one (ps_if (pt_not (md_val (pe_call G_are_bytes.1 hr.mo rfl G_are_bytes.2.2.2 G_are_bytes.2.2.1 G_are_bytes.2.1 .nil pass0 (pa_cons (dv 1) pa_nil)))) (pss_one (ps_raise YK m_NoThing fact_exc_NoThing (pa_cons pe_str pa_nil))) pss_nil)))),?_⟩
  refine⟨small_lit rfl,fun p0 hp0=>?_⟩
  have g0:=same_new hp0 (.lst [.int g])
  have e0:upd H p0 (.lst [.int g]) p0=some (.lst ([g].map V.int)):=upd_same
  generalize upd H p0 (.lst [.int g])=H1 at g0 e0
  refine⟨p0, [g],rfl,.inl (SqL.of e0),(show 1<=500 by decide),fun H2 g2=>?_⟩
  have ea:[g].all byt=byt g:=by rw[Xf,List.all_nil,Bool.and_true]
  rw[ea]
  have gs:=g0.trans g2
  conv=>whnf
  refine ite2 (fun c=>?_) (fun c=>?_)
  · have c1:¬ byt g=true:=fun z=>by
      have:(!byt g)=true:=c
      rw[z]at this;cases this
    exact⟨small_lit rfl,q2 (not_tg (.inl c1)) _ gs⟩
  have c1:byt g=true:=by
    cases e:byt g with
    |true=>rfl
    |false=>exact absurd (show (!byt g)=true by rw[e];rfl) c
  refine⟨_,.inl (gs.seq hS),?_⟩
  rw[Ya]
  conv=>whnf
  refine ite2 (fun z=>?_) (fun z=>?_)
  · have z1:(75:Int)<((th.length:Nat):Int):=dec_true z
    exact⟨small_lit rfl,q2 (not_tg (.inr (.inl (by omega)))) _ gs⟩
  have z1:¬ (75:Int)<((th.length:Nat):Int):=dec_false z
  refine⟨a,th,rfl,.inl (gs.seq hS),hl,fun H3 g3=>?_⟩
  conv=>whnf
  refine ite2 (fun y=>?_) (fun y=>?_)
  · have y1:¬ th.all byt=true:=fun z=>by
      have:(!th.all byt)=true:=y
      rw[z]at this;cases this
    exact⟨small_lit rfl,q2 (fun h=>y1 h.2.2) _ (gs.trans g3)⟩
  · have y1:th.all byt=true:=by
      cases e:th.all byt with
      |true=>rfl
      |false=>exact absurd (show (!th.all byt)=true by rw[e];rfl) y
    exact q1 ⟨c1,by omega,y1⟩ _ (gs.trans g3)
-- def cut
variable (G_cut:FB P w K mg base (CXR P w) 3 "cut" a_cut d_cut ["tag","thing"] (spCut K a_NoThing))
include m_PIECE_BYTES m_NoThing m_len m_list m_max m_range G_piece_of G_check_thing in
theorem ok_cut (F0:GFm K mg "cut" s_cut a_cut d_cut):type_of% G_cut:=by
  refine fbM ["tag","thing","starts","many"] F0 fun Sc0=>F0.F.okR Sc0 (fun vs H Q E h=>?_) fun cdv A outer s H vs Q E hr h=>?_
  · obtain⟨g,a,th,rfl,_⟩:=h
    rfl
  obtain⟨g,a,th,rfl,hS,hl,q1,q2⟩:=h
  have nd:=Sc0.nd
  refine⟨_,(pss_cons (ps_expr (pe_call G_check_thing.1 hr.mo rfl G_check_thing.2.2.2 G_check_thing.2.2.1 G_check_thing.2.1 .nil (passR fun _ _ _ z=>z) (pa_cons (dv 0) (pa_cons (dv 1) pa_nil)))) (pss_cons (ps_set (i:=2) nd rfl (Or.inl rfl) (md_listRng rfl rfl m_list rfl m_range (pa_cons pe_int (pa_cons (pe_callB z_len rfl m_len bt_len (pa_cons (dv 1) pa_nil)) (pa_cons (pe_glob (v:= .int 5) rfl m_PIECE_BYTES ⟨_,rfl⟩) pa_nil))))) (pss_cons (ps_set (i:=3) nd rfl (Or.inr rfl) (pe_callB (z_max2 rfl) rfl m_max bt_max (pa_cons pe_int (pa_cons (pe_callB z_len rfl m_len bt_len (pa_cons (dv 2) pa_nil)) pa_nil)))) (pss_one (ps_ret (pe_comp rfl (ix:=[0,3,1]) (mi_range1 rfl m_range (pa_cons (dv 3) pa_nil)) (fun C fp s0 H0 at0=>pts_nil) (fun C fp s0 H0 at0=>(pe_call G_piece_of.1 hr.mo rfl G_piece_of.2.2.2 G_piece_of.2.2.1 G_piece_of.2.1 .nil pass0 (pa_cons (dv 1) (pa_cons (dv 2) (pa_cons (dv 0) (pa_cons (dv 3) pa_nil)))))) rfl rfl (by rfl) (show ([".0","number","tag","many","thing"]:List Str).Nodup by decide +kernel))))))),?_⟩
  refine⟨g,a,th,rfl,hS,hl,fun ok H1 g1=>?_,q2⟩
  refine⟨_,.inl (g1.seq hS),?_⟩
  rw[Ya]
  refine⟨by decide,PyProof.noPylong_small (by decide),(th.length+4) / 5,small5 (by omega),size5 th.length,by omega,fun ps hps=>?_⟩
  generalize eU:upd H1 ps _=H2
  have g2:=nS hps eU
  have e2:=nE eU
  clear eU
  have gs:=g1.trans g2
  refine⟨_,.inl (SqL.of e2),?_⟩
  rw[Ya,Xe]
  have hnp:=nP_le hl
  have em:max (1:Int) ((((th.length+4) / 5:Nat):Int))=((nP th:Nat):Int):=by unfold nP;omega
  have en:(max (1:Int) ((((th.length+4) / 5:Nat):Int))).toNat=nP th:=by omega
  refine⟨⟨by omega,by omega⟩,comp_range (fun i ys H'=>∃qs:List Addr,ys=qs.map V.ref/\qs.length=i/\(∀q∈qs,H q=none/\H' q≠none)/\qs.Nodup/\Same H H'/\Pcs H' g (nP th) th qs) ?_ ⟨[],rfl,rfl,(fun _ z=>nomatch z),List.nodup_nil,gs,fun k q z=>nomatch z⟩ ?_ ?_⟩
  · rintro i ys H' hi ⟨qs,rfl,hql,_⟩
    refine small1 ?_
    rw[Ya]
    omega
  · rintro i ys H' hi ⟨qs,rfl,hql,hq0,hqn,gq,hp⟩
    rw[en]at hi
    have ez:(0:Int)+(i:Int)=((i:Nat):Int):=Int.zero_add _
    refine⟨g,nP th,i,a,th,?_,gq.seq hS,hl,by omega,by omega,fun p3 H3 hp3 g3 e3=>⟨qs++[p3],?_,?_,?_,?_,gq.trans g3,?_⟩⟩
    · show [V.int g,V.int (max 1 ((((th.length+4) / 5:Nat):Int))),V.int (0+(i:Int)),V.ref a]=_
      rw[em,ez]
    · rw[Yi];rfl
    · rw[Yj,List.length_singleton,hql]
    · intro q hq
      rcases YG.mp hq with z | z
      · refine⟨(hq0 q z).1,fun y=>(hq0 q z).2 (g3.none y)⟩
      · rw[Yg.mp z]
        exact⟨gq.none hp3,by rw[e3];simp⟩
    · exact List.nodup_append.mpr ⟨hqn,by simp,fun x hx y hy=>by rw[Yg.mp hy];exact fun e=>(hq0 x hx).2 (e▸hp3)⟩
    · intro k q hk
      by_cases z:k<qs.length
      · rw[YQ z]at hk
        exact g3 _ _ (hp k q hk)
      · rw [YV (by omega)]at hk
        have hk0:k-qs.length=0:=by
          have:=(Yb.mp hk).1
          simpa using this
        rw[hk0]at hk
        have eq:p3=q:=YF hk
        subst eq
        have ek:k=i:=by omega
        subst ek
        exact e3
  rintro ys H5 ⟨qs,rfl,hql,hq0,hqn,gq,hp⟩ p hp5
  rw[en]at hql
  have gp:=same_new hp5 (.lst (qs.map V.ref))
  exact q1 ok p qs _ (gq.none hp5) (fun q hq=>(hq0 q hq).1) hqn (fun z=>(hq0 p z).2 hp5) (gq.trans gp) upd_same hql (hp.same gp)
-- def number_in
variable (G_number_in:FB P w K mg base (CX0) 1 "number_in" a_number_in d_number_in ["word"] (spNumIn))
include m_MOST_FIGURES m_all m_len m_int in
theorem ok_number_in (F0:GFm K mg "number_in" s_number_in a_number_in d_number_in):type_of% G_number_in:=by
  refine fbK ["word"] F0 fun H Q nd hr h=>?_
  obtain⟨l,rfl,hl,q⟩:=h
  refine⟨_,(pss_cons (ps_if (pt_not (mt_chain z_le z_le pe_int (pe_callB z_lenS rfl m_len bt_len (pa_cons (dv 0) pa_nil)) (pe_glob (v:= .int 6) rfl m_MOST_FIGURES ⟨_,rfl⟩))) (pss_one (ps_ret pe_non)) pss_nil) (pss_cons (ps_if (pt_not (md_val (pe_callB (z_all rfl) rfl m_all bt_all (pa_cons (pe_comp rfl (ix:=[]) (mi_textA (dv 0)) (fun C fp s0 H0 at0=>pts_nil) (fun C fp s0 H0 at0=>(pe_cmpR z_inS (dv 0) pe_str rfl)) rfl rfl (by rfl) (show ([".0","sign"]:List Str).Nodup by decide +kernel)) pa_nil)))) (pss_one (ps_ret pe_non)) pss_nil) (pss_cons (ps_if (PW.pt (pw_and (md_cmp z_eq (pe_ix z_ixS (dv 0) pe_int (fun _ _=>rfl)) pe_str (nomark _)) (pw_and1 (md_cmp z_gt (pe_callB z_lenS rfl m_len bt_len (pa_cons (dv 0) pa_nil)) pe_int (nomark _))))) (pss_one (ps_ret pe_non)) pss_nil) (pss_one (ps_ret (pe_callTy z_intS rfl m_int bt_int (pa_cons (dv 0) pa_nil))))))),?_⟩
  have sl:(txt l).length<=sizeLine:=by rw[txt_len];exact szl (by omega)
  have no:¬ ((1<=l.length/\l.length<=6)/\l.all isDg=true/\¬ (l.headD 0=48/\1<l.length))->∀H',Same H H'->Q .non H':=fun n H' g=>by
    have:=q H' g
    unfold numV numIn at this
    rw[if_neg n]at this
    exact this
  refine⟨sl,?_⟩
  obtain⟨L,hL⟩:∃L,L=(txt l).length:=⟨_,rfl⟩
  have hL6:L=l.length:=by rw[hL,txt_len]
  rw[<-hL]at sl ⊢
  conv=>whnf
  refine ite2 (fun c=>?_) (fun c=>no (fun z=>by have c1:¬ (1:Int)<=((L:Nat):Int):=dec_false c;omega) _ (Same.refl _))
  have c1:(1:Int)<=((L:Nat):Int):=dec_true c
  conv=>whnf
  refine ite2 (fun c2=>no (fun z=>?_) _ (Same.refl _)) (fun c2=>?_)
  · have c3:(!decide (((L:Nat):Int)<=6))=true:=c2
    rw[Yw (by omega)]at c3
    cases c3
  have c3:((L:Nat):Int)<=6:=by
    by_cases y:((L:Nat):Int)<=6
    · exact y
    · exact absurd (show (!decide (((L:Nat):Int)<=6))=true by rw[Ys y];rfl) c2
  refine⟨trivial,comp_text (z:=txt l) (fun i ys H'=>ys=((l.take i).map isDg).map V.bl/\H'=H) ?_ ⟨rfl,rfl⟩ ?_ ?_⟩
  · rintro i ys H' hi ⟨rfl,_⟩
    rw[Ya,Ya,YC]
    exact szl1 (by omega)
  · rintro i c ys H' hc ⟨rfl,rfl⟩
    have hc':l[i]? =some c:=by
      have:(l.toArray)[i]? =some c:=hc
      rwa [List.getElem?_toArray]at this
    obtain⟨hi,hci⟩:=Yb.mp hc'
    refine⟨?_,rfl⟩
    have e:=dg_in c
    rw[e,Yp hi,hci,Yi,Yi]
    rfl
  rintro ys H' ⟨rfl,rfl⟩ pz hpz
  have esz:(txt l).cps.size=l.length:=by show (l.toArray).size=_;rw[Yz]
  rw[esz,Yl (Yc _)]
  refine⟨l.map isDg,SqL.of upd_same,?_⟩
  have gz:=same_new hpz (.lst ((l.map isDg).map V.bl))
  rw[List.all_map]
  generalize upd H' pz _=H2 at gz
  by_cases z:l.all isDg=true
  · rw [show (l.all (id ∘ isDg))=true from z]
    conv=>whnf
    obtain⟨c0,lr,el⟩:∃c0 lr,l=c0::lr:=by
      cases l with
      |nil=>exact absurd hL6 (by show ¬ L=0;omega)
      |cons c0 lr=>exact⟨c0,lr,rfl⟩
    have fin:¬ (l.headD 0=48/\1<l.length)->∃n,PySem.intText? (txt l)=some n/\(txt l).length<=640/\Q (.int n) H2:=fun n=>by
      have e:=PySem.intText_digits (x:=txt l) (by rw[txt_cps];exact fun c hc=>Y3 (Yu.mp z c hc)) (by rw[txt_cps,el];simp) (by rw[txt_len];omega)
      rw[txt_cps]at e
      refine⟨_,e,by rw[txt_len];omega,?_⟩
      have:=q H2 gz
      unfold numV numIn at this
      rw[if_pos ⟨⟨by omega,by omega⟩,z,n⟩]at this
      exact this
    have hd0:l.headD 0=c0:=by rw[el];rfl
    refine⟨c0,by rw[<-hL];exact sl,by rw[txt_cps,el];exact atI_nat (j:=0) (xs:=c0::lr) rfl,?_⟩
    have e48:(⟨#[c0]⟩:Str)=("0":Str)->c0=48:=fun w'=>by
      have:[c0]= [48]:=YE (fun x:Str=>x.cps.toList) w'
      exact(List.cons.inj this).1
    have e48':c0=48->(⟨#[c0]⟩:Str)=("0":Str):=fun y=>by subst y;decide +kernel
    generalize (⟨#[c0]⟩:Str)=w0 at e48 e48' ⊢
    conv=>whnf
    refine ite2 (fun c=>?_) (fun c=>fin fun n=>dec_false c (e48' (hd0▸n.1)))
    have y48:=e48 (dec_true c)
    refine⟨by rw[<-hL];exact sl,?_⟩
    rw[<-hL]
    conv=>whnf
    refine ite2 (fun c4=>no (fun y=>?_) _ gz) (fun c4=>fin fun n=>?_)
    · have c5:(1:Int)<((L:Nat):Int):=dec_true c4
      exact y.2.2 ⟨hd0.trans y48,by omega⟩
    · have c5:¬ (1:Int)<((L:Nat):Int):=dec_false c4
      exact c5 (by have:=n.2;omega)
  · rw[show (l.all (id ∘ isDg))=false from by rw[<-Bool.not_eq_true];exact z]
    conv=>whnf
    exact no (fun y=>z y.2.1) _ gz
-- def choice_of
variable (G_choice_of:FB P w K mg base (CX0) 2 "choice_of" a_choice_of d_choice_of ["word"] (spCho83))
include m_len G_number_in in
theorem ok_choice_of (F0:GFm K mg "choice_of" s_choice_of a_choice_of d_choice_of):type_of% G_choice_of:=by
  refine fbK ["word","parts","mask","match_bits"] F0 fun H Q nd hr h=>?_
  obtain⟨l,rfl,hl,q1,q2⟩:=h
  refine⟨_,(pss_cons (ps_set (i:=1) nd rfl (Or.inl rfl) (md_split (dv 0) (pa_cons pe_str pa_nil))) (pss_cons (ps_if (md_cmp z_ne (pe_callB z_len rfl m_len bt_len (pa_cons (dv 1) pa_nil)) pe_int (nomark _)) (pss_one (ps_ret pe_non)) pss_nil) (pss_cons (ps_set (i:=2) nd rfl (Or.inl rfl) (pe_call G_number_in.1 hr.mo rfl G_number_in.2.2.2 G_number_in.2.2.1 G_number_in.2.1 .nil pass0 (pa_cons (pe_ix z_ixL (dv 1) pe_int (fun _ _=>rfl)) pa_nil))) (pss_cons (ps_set (i:=3) nd rfl (Or.inl rfl) (pe_call G_number_in.1 hr.mo rfl G_number_in.2.2.2 G_number_in.2.2.1 G_number_in.2.1 .nil pass0 (pa_cons (pe_ix z_ixL (dv 1) pe_int (fun _ _=>rfl)) pa_nil))) (pss_cons (ps_if (PW.pt (pw_or (md_cmp z_isN (dv 2) pe_non (nomark _)) (pw_or1 (md_cmp z_isN (dv 3) pe_non (nomark _))))) (pss_one (ps_ret pe_non)) pss_nil) (pss_one (ps_ret (pe_tup (pa_cons (dv 2) (pa_cons (dv 3) pa_nil)))))))))),?_⟩
  have e47:("/":Str)=sepC 47:=by decide +kernel
  have sl:(txt l).length<=900:=by rw[txt_len];exact hl
  refine⟨by decide +kernel,szl (by omega),by rw[e47];have:=split_len (txt l) 47;exact szl (by omega),fun pl hpl=>?_⟩
  rw[e47]
  generalize eU:upd H pl _=H1
  have g1:=nS hpl eU
  have e1:=nE eU
  clear eU
  have hm:=fun w=>split_mem (x:=txt l) (c:=47) (w:=w)
  unfold choIn at q1 q2
  generalize Txt.split (txt l) (sepC 47)=ws at e1 hm q1 q2
  refine⟨_,.inl (SqL.of e1),?_⟩
  rw[Ya]
  obtain⟨n,en⟩:∃n,n=ws.length:=⟨_,rfl⟩
  rw[<-en]
  conv=>whnf
  refine ite2 (fun c=>q1 ?_ _ g1) (fun c=>?_)
  · have c1:(!decide (((n:Nat):Int)=2))=true:=c
    match ws,en with
    |[],_=>rfl
    |[_],_=>rfl
    |[_,_],en=>rw[en]at c1;cases c1
    |_::_::_::_,_=>rfl
  have c1:n=2:=by
    by_cases y:((n:Nat):Int)=2
    · omega
    · exact absurd (show (!decide (((n:Nat):Int)=2))=true by rw[Ys y];rfl) c
  obtain⟨x,y,rfl⟩:∃x y,ws= [x,y]:=by
    match ws,en with
    |[],en=>cases en.symm.trans c1
    |[_],en=>cases en.symm.trans c1
    |[x,y],_=>exact⟨x,y,rfl⟩
    |_::_::_::_,en=>cases en.symm.trans c1
  have lx:x.cps.toList.length<=900:=Ye (hm x (by simp)) sl
  have ly:y.cps.toList.length<=900:=Ye (hm y (by simp)) sl
  refine⟨_,V.str x,SqL.of e1,rfl,x.cps.toList,YE (fun z=>[V.str z]) (str_txt x),lx,fun H2 g2=>?_⟩
  refine⟨_,V.str y,SqL.of (g2 _ _ e1),rfl,y.cps.toList,YE (fun z=>[V.str z]) (str_txt y),ly,fun H3 g3=>?_⟩
  have g13:=g1.trans (g2.trans g3)
  dsimp only at q1 q2
  unfold numV
  cases ex:numIn x.cps.toList with
  | none=>
    rw[ex]at q1
    exact q1 rfl _ g13
  | some a=>
    cases ey:numIn y.cps.toList with
    | none=>
      rw[ex,ey]at q1
      exact q1 rfl _ g13
    | some b=>
      rw[ex,ey]at q2
      refine⟨small_lit rfl,fun t ht=>?_⟩
      exact q2 a b rfl t _ (g13.none ht) (g13.trans (same_new ht _)) upd_same
-- def value_of
variable (G_value_of:FB P w K mg base (CX0) 3 "value_of" a_value_of d_value_of ["word","kind","ahead"] (spVal83 K))
include m_MOST_TURNS m_MOST_BITS G_number_in G_choice_of in
theorem ok_value_of (F0:GFm K mg "value_of" s_value_of a_value_of d_value_of):type_of% G_value_of:=by
  refine fbK ["word","kind","ahead","number"] F0 fun H Q nd hr h=>?_
  obtain⟨l,k,al,xs,rfl,hl,hS,hk⟩:=h
  refine⟨_,(pss_cons (ps_if (md_cmp z_eq (dv 1) pe_str (nomark _)) (pss_one (ps_ret pe_non)) pss_nil) (pss_cons (ps_if (md_cmp z_eq (dv 1) pe_str (nomark _)) (pss_one (ps_ret (pe_call G_choice_of.1 hr.mo rfl G_choice_of.2.2.2 G_choice_of.2.2.1 G_choice_of.2.1 .nil pass0 (pa_cons (dv 0) pa_nil)))) pss_nil) (pss_cons (ps_set (i:=3) nd rfl (Or.inl rfl) (pe_call G_number_in.1 hr.mo rfl G_number_in.2.2.2 G_number_in.2.2.1 G_number_in.2.1 .nil pass0 (pa_cons (dv 0) pa_nil))) (pss_cons (ps_if (md_cmp z_isN (dv 3) pe_non (nomark _)) (pss_one (ps_ret pe_non)) pss_nil) (pss_cons (ps_if (PW.pt (pw_and (md_cmp z_eq (dv 1) pe_str (nomark _)) (pw_and1 (md_cmp z_gt (dv 3) (pe_glob (v:= .int 2000) rfl m_MOST_TURNS ⟨_,rfl⟩) (nomark _))))) (pss_one (ps_ret pe_non)) pss_nil) (pss_cons (ps_if (PW.pt (pw_and (md_cmp z_eq (dv 1) pe_str (nomark _)) (pw_and1 (md_cmp z_gt (dv 3) (pe_op z_add (pe_ix z_ixL (dv 2) (pe_un z_neg pe_int) (fun _ _=>rfl)) (pe_glob (v:= .int 400) rfl m_MOST_BITS ⟨_,rfl⟩)) (nomark _))))) (pss_one (ps_ret pe_non)) pss_nil) (pss_one (ps_ret (dv 3))))))))),?_⟩
  rcases hk with ⟨rfl,q⟩ | ⟨rfl,q1,q2⟩ | ⟨rfl,q⟩ | ⟨rfl,q⟩ | ⟨rfl,m,hm,q⟩
  · exact q _ (Same.refl _)
  · exact⟨l,rfl,hl,q1,q2⟩
  · refine⟨l,rfl,hl,fun H' g=>?_⟩
    have q':=q H' g
    unfold numV at q' ⊢
    cases en:numIn l with
    |none=>rw[en]at q';exact q'
    |some n=>rw[en]at q';exact q'
  · refine⟨l,rfl,hl,fun H' g=>?_⟩
    have q':=q H' g
    unfold capV at q'
    unfold numV
    cases en:numIn l with
    |none=>rw[en]at q';exact q'
    | some n=>
      rw[en]at q'
      have q2:Q (if ((n:Nat):Int)<=2000 then .int ((n:Nat):Int) else .non) H':=q'
      show gName 3 (.int ((n:Nat):Int)) _ _ _
      generalize ((n:Nat):Int)=i at q2 ⊢
      conv=>whnf
      refine ite2 (fun c=>?_) (fun c=>?_)
      · rw[if_neg (by have:=dec_true c;omega)]at q2
        exact q2
      · rw[if_pos (by have:=dec_false c;omega)]at q2
        exact q2
  · refine⟨l,rfl,hl,fun H' g=>?_⟩
    have q':=q H' g
    unfold capV at q'
    unfold numV
    cases en:numIn l with
    |none=>rw[en]at q';exact q'
    | some n=>
      rw[en]at q'
      have q2:Q (if ((n:Nat):Int)<=m+400 then .int ((n:Nat):Int) else .non) H':=q'
      show gName 3 (.int ((n:Nat):Int)) _ _ _
      generalize ((n:Nat):Int)=i at q2 ⊢
      conv=>whnf
      refine⟨xs,.int m,g.seq hS,hm,?_⟩
      conv=>whnf
      refine ite2 (fun c=>?_) (fun c=>?_)
      · rw[if_neg (by have:=dec_true c;omega)]at q2
        exact q2
      · rw[if_pos (by have:=dec_false c;omega)]at q2
        exact q2
-- def strip_of
variable (G_strip_of:FB P w K mg base (CX0) 1 "strip_of" a_strip_of d_strip_of ["bits","turn"] (spStripOf K))
include m_SIGNS m_FIGURES m_str in
theorem ok_strip_of (F0:GFm K mg "strip_of" s_strip_of a_strip_of d_strip_of):type_of% G_strip_of:=by
  refine fbK ["bits","turn"] F0 fun H Q nd hr h=>?_
  obtain⟨a,bs,n,rfl,hS,hb,hl,hn,q⟩:=h
  refine⟨_,(pss_one (ps_ret (pe_op z_addS (pe_op z_addS (md_zfill (pe_callTy z_strI rfl m_str bt_str (pa_cons (dv 1) pa_nil)) (pa_cons (pe_glob (v:= .int 6) rfl m_FIGURES ⟨_,rfl⟩) pa_nil)) pe_str) (md_join pe_str (pa_cons (pe_comp rfl (ix:=[]) (mi_list (dv 0)) (fun C fp s0 H0 at0=>pts_nil) (fun C fp s0 H0 at0=>(pe_ix z_ixS (pe_glob (v:= .str "_-") rfl m_SIGNS ⟨_,rfl⟩) (dv 0) (fun _ _=>rfl))) rfl rfl (by rfl) (show ([".0","bit"]:List Str).Nodup by decide +kernel)) pa_nil))))),?_⟩
  refine⟨log_lt (by omega) (by omega),by decide +kernel,?_⟩
  have ez:Txt.zfill (PySem.Str.ofString (toString ((n:Nat):Int))) 6=txt (fg 6 n):=zfill_fg hn
  rw[ez]
  refine⟨by show (txt (fg 6 n)).length+1<=sizeLine;rw[txt_len,fg_len];exact szl (by decide),?_⟩
  refine⟨⟨_,hS⟩,comp_list (xs:=bs.map V.int) (fun i ys H'=>ys=((bs.take i).map fun b=>V.str (txt [sgn b]))/\H'=H) ?_ ⟨rfl,rfl⟩ (fun i ys H' _ z=>by rw[z.2];exact hS) ?_ ?_⟩
  · rintro i ys H' hi ⟨rfl,_⟩
    refine szl1 ?_
    rw[Ya,YC]
    omega
  · rintro i x ys H' hx ⟨rfl,rfl⟩
    obtain⟨hi,rfl⟩:=get_int hx
    refine⟨sgn bs[i],szl (by decide),?_,?_,rfl⟩
    · rcases hb _ (YU hi) with e | e <;> rw[e] <;> rfl
    · rw[Yp hi,Yi]
      rfl
  rintro ys H' ⟨rfl,rfl⟩ p hp
  rw[Ya,Yl (Yc _)]
  refine⟨(bs.map fun b=>[sgn b]).map txt,?_,join1 ?_ (by rw[Ya];omega),?_⟩
  · rw[upd_same,Xp,Xp];rfl
  · intro l hl2
    obtain⟨b,_,rfl⟩:=YI.mp hl2
    rfl
  have ej:Txt.join (txt []) ((bs.map fun b=>[sgn b]).map txt)=txt (bs.map sgn):=by rw[join_empty,flat_sgn]
  have eb:txt (fg 6 n)++(" ":Str)=txt (fg 6 n++[32]):=txt_add _ [32]
  show (_:Prop)/\_
  have el:(txt (fg 6 n)++(" ":Str)).length+(Txt.join (txt []) ((bs.map fun b=>[sgn b]).map txt)).length<=sizeLine:=by
    rw[eb,ej,txt_len,txt_len,Yj,fg_len,Ya]
    exact szl (by show 6+1+_<=9000;omega)
  refine⟨el,?_⟩
  have ef:txt (fg 6 n)++(" ":Str)++Txt.join (txt []) ((bs.map fun b=>[sgn b]).map txt)=txt (stl n bs):=by rw[eb,ej,txt_add];rfl
  have qq:=q _ (same_new hp (.lst (bs.map fun b=>V.str (txt [sgn b]))))
  rw[<-ef]at qq
  exact qq
-- def strips
variable (G_strips:FB P w K mg base (CX0) 2 "strips" a_strips d_strips ["bits","first"] (spStrips K))
include m_STRIP_BITS m_len m_range G_strip_of in
theorem ok_strips (F0:GFm K mg "strips" s_strips a_strips d_strips):type_of% G_strips:=by
  refine fbK ["bits","first"] F0 fun H Q nd hr h=>?_
  obtain⟨a,bs,f,rfl,hS,hb,hl,hf,q⟩:=h
  refine⟨_,(pss_one (ps_ret (pe_comp rfl (ix:=[0,1]) (mi_range3 rfl m_range (pa_cons pe_int (pa_cons (pe_callB z_len rfl m_len bt_len (pa_cons (dv 0) pa_nil)) (pa_cons (pe_glob (v:= .int 40) rfl m_STRIP_BITS ⟨_,rfl⟩) pa_nil)))) (fun C fp s0 H0 at0=>pts_nil) (fun C fp s0 H0 at0=>(pe_call G_strip_of.1 hr.mo rfl G_strip_of.2.2.2 G_strip_of.2.2.1 G_strip_of.2.1 .nil pass0 (pa_cons (pe_slice (z_slLK (K:=K)) (dv 1) (md_part (dv 0)) (md_part (pe_op z_add (dv 0) (pe_glob (v:= .int 40) rfl m_STRIP_BITS ⟨_,rfl⟩)))) (pa_cons (pe_op z_add (dv 2) (dv 0)) pa_nil)))) rfl rfl (by rfl) (show ([".0","start","bits","first"]:List Str).Nodup by decide +kernel)))),?_⟩
  refine⟨_,.inl hS,?_⟩
  rw[Ya]
  refine⟨by decide,PyProof.noPylong_small (by decide),nStp bs,small40 (by omega),size40 bs.length,comp_rangec (fun i ys H'=>ys=(((List.range i).map fun i=>txt (stl (f+40*i) (pcs bs i))).map V.str)/\Same H H') ?_ ⟨rfl,Same.refl _⟩ ?_ ?_⟩
  · rintro i ys H' hi ⟨rfl,_⟩
    refine szl1 ?_
    rw[Ya,Ya,Xe]
    unfold nStp at hi
    omega
  · rintro i ys H' hi ⟨rfl,g⟩
    refine⟨_,g.seq hS,fun p hp=>?_⟩
    have e1:(0:Int)+(i:Int)*40=((40*i:Nat):Int):=by omega
    have e2:(0:Int)+(i:Int)*40+40=((40*i+40:Nat):Int):=by omega
    rw[e2,e1,cut_ab (by omega),show 40*i+40-40*i=40 by omega]
    generalize eU:upd H' p _=H1
    have k1:=nS hp eU
    have e3:=nE eU
    clear eU
    have hi':i<nStp bs:=hi
    unfold nStp at hi'
    refine⟨p,pcs bs i,f+40*i,by show [V.ref p,V.int (((f:Nat):Int)+((40*i:Nat):Int))]=_;rw[<-Int.natCast_add],SqL.of e3,pcs_bits hb i,pcs_len bs i,by omega,fun H2 g2=>?_⟩
    refine⟨?_,g.trans (k1.trans g2)⟩
    rw[List.range_succ,Yi,Yi]
    rfl
  rintro ys H' ⟨rfl,g⟩ p hp
  exact q p _ (g.none hp) (g.trans (same_new hp _)) upd_same
-- def read_row
variable (G_read_row:FB P w K mg base (CX0) 4 "read_row" a_read_row d_read_row ["words"] (spRead83 K))
include m_FORMS m_len m_range fact_forms G_value_of in
theorem ok_read_row (F0:GFm K mg "read_row" s_read_row a_read_row d_read_row):type_of% G_read_row:=by
  refine fbK ["words","needed","values","place","kind","value"] F0 fun H Q nd hr h=>?_
  obtain⟨a,ws,vl,rfl,hS,hl,hw,he,q⟩:=h
  refine⟨_,(pss_cons (ps_if (pt_cmp (pc_cnotin fact_forms.1 (pe_ix z_ixL (dv 0) pe_int (fun _ _=>rfl)) (pe_glob (v:= .ref a_FORMS) rfl m_FORMS rfl)) rfl) (pss_one ps_dead) pss_nil) (pss_cons (ps_set (i:=1) nd rfl (Or.inl rfl) (pe_ix z_ixT (pe_cget fact_forms.1 (pe_glob (v:= .ref a_FORMS) rfl m_FORMS rfl) (pe_ix z_ixL (dv 0) pe_int (fun _ _=>rfl)) (fun _ _=>rfl)) pe_int (fun _ _=>rfl))) (pss_cons (ps_set (i:=2) nd rfl (Or.inl rfl) (pe_lst pa_nil)) (pss_cons (ps_for Xg rfl (mi_range2 rfl m_range (pa_cons pe_int (pa_cons (pe_callB z_len rfl m_len bt_len (pa_cons (dv 0) pa_nil)) pa_nil))) (pg_name (i:=3) nd rfl (Or.inl rfl)) (pss_cons (ps_set (i:=4) nd rfl (Or.inl rfl) (pe_cut (pe_ifExp (md_cmp z_le (dv 3) (pe_callB z_len rfl m_len bt_len (pa_cons (dv 1) pa_nil)) (nomark _)) (pe_ix z_ixT (dv 1) (pe_op z_sub (dv 3) pe_int) (fun _ _=>rfl)) (pe_ix z_ixT (pe_cget fact_forms.1 (pe_glob (v:= .ref a_FORMS) rfl m_FORMS rfl) (pe_ix z_ixL (dv 0) pe_int (fun _ _=>rfl)) (fun _ _=>rfl)) pe_int (fun _ _=>rfl))))) (pss_cons (ps_set (i:=5) nd rfl (Or.inl rfl) (pe_call G_value_of.1 hr.mo rfl G_value_of.2.2.2 G_value_of.2.2.1 G_value_of.2.1 .nil pass0 (pa_cons (pe_ix z_ixL (dv 0) (dv 3) (fun _ _=>rfl)) (pa_cons (dv 4) (pa_cons (dv 2) pa_nil))))) (pss_cons (ps_if (md_cmp z_isN (dv 5) pe_non (nomark _)) (pss_one ps_dead) pss_nil) (pss_one (ps_expr (md_append (dv 2) (pa_cons (dv 5) pa_nil)))))))) (pss_cons (ps_if (md_cmp z_lt (pe_callB z_len rfl m_len bt_len (pa_cons (dv 2) pa_nil)) (pe_callB z_len rfl m_len bt_len (pa_cons (dv 1) pa_nil)) (nomark _)) (pss_one ps_dead) pss_nil) (pss_one (ps_ret (dv 2)))))))),?_⟩
  obtain⟨x,r,rfl⟩:∃x r,ws=x::r:=by
    cases ws with
    |nil=>cases he
    |cons x r=>exact⟨x,r,rfl⟩
  have h0:atI ((x::r).map V.str) 0=some (.str x):=atI_nat (j:=0) rfl
  conv=>whnf
  refine⟨_,_,hS,h0,.inr x,rfl,rfl,_,rfl,?_⟩
  rcases fact_forms.2.get (x:=x) with ⟨e1,e2⟩ | ⟨nf,m,t,u,e1,e2,t1,t2⟩
  · cases (rowIn_none e1).symm.trans he
  rw[rowIn_some e1]at he
  rw[e2]
  conv=>whnf
  refine⟨_,_,hS,h0,.inr x,_,rfl,rfl,e2,?_⟩
  conv=>whnf
  refine⟨_,_,t1.sq H,atI_nat (j:=0) rfl,small_lit rfl,fun l hl'=>?_⟩
  generalize eU:upd H l _=H1
  have g0:=nS hl' eU
  have el:=nE eU
  clear eU
  refine⟨_,.inl (g0.seq hS),⟨by decide,by decide,by omega,?_⟩,?_⟩
  · rw[Ya]
    omega
  rw[show ((((((x::r).map V.str).length:Nat):Int)-1).toNat)=r.length from by rw[Ya];show ((((r.length+1:Nat):Int))-1).toNat=_;omega]
  refine for_range (lo:=1) (n:=r.length) (fun i σ H'=>(∃x1 x2 x3,σ= [some (.ref a),some (.ref u),some (.ref l),x1,x2,x3])/\Same H H'/\∃xs vs,H' l=some (.lst xs)/\VlsAt H' xs vs/\vs.length=i/\rowGo nf m (r.drop i) vs= .ok vl/\NumsOk nf m vs) ⟨⟨_,_,_,rfl⟩,g0, [], [],el,.nil,rfl,he,fun i hi=>absurd hi (Nat.not_lt_zero _)⟩ ?_ ?_
  · rintro i σ H' hi ⟨⟨x1,x2,x3,rfl⟩,g,xs,vs,el',hv,lv,eg,no⟩
    subst lv
    refine⟨fun v H2=>v= .str (nf.getD vs.length m)/\H2=H',?_,?_⟩
    · conv=>whnf
      refine⟨_,.inr (t2.sq H'),?_⟩
      rw[Ya]
      obtain⟨n,en⟩:∃n,n=nf.length:=⟨_,rfl⟩
      rw[<-en]
      obtain⟨i,lv⟩:∃i,i=vs.length:=⟨_,rfl⟩
      rw[<-lv]
      conv=>whnf
      refine ite2 (fun c=>?_) (fun c=>?_)
      · have c1:(1:Int)+((i:Nat):Int)<=((n:Nat):Int):=dec_true c
        have hi':i<nf.length:=by omega
        refine⟨_,_,t2.sq H',?_,rfl,rfl⟩
        rw[show (1:Int)+((i:Nat):Int)-1=((i:Nat):Int) from by omega]
        exact atI_nat (by rw[Yk,Yd hi',YJ,Yd hi'];rfl)
      · have c1:¬ (1:Int)+((i:Nat):Int)<=((n:Nat):Int):=dec_false c
        refine⟨_,_,g.seq hS,h0,.inr x,_,rfl,rfl,e2,_,_,t1.sq H',atI_nat (j:=1) rfl,?_,rfl⟩
        rw[YJ,Xa (by omega)]
        rfl
    rintro v H2 ⟨rfl,rfl⟩
    have hri:r[vs.length]? =some r[vs.length]:=Yd hi
    refine⟨_,.str r[vs.length],g.seq hS,?_,?_⟩
    · rw[show (1:Int)+((vs.length:Nat):Int)=(((vs.length+1:Nat)):Int) from by omega]
      exact atI_nat (by rw[Yk,List.getElem?_cons_succ,hri];rfl)
    have hl1:(r[vs.length]).cps.toList.length<=900:=hw _ (Yf _ (YU hi))
    rw[List.drop_eq_getElem_cons hi]at eg
    have hk:=form_kind e1 vs.length
    generalize r[vs.length]=wd at hl1 eg
    rw[str_txt wd]
    dsimp only[tCons,dVar,tNil,List.set,oV,List.getElem?_cons_succ,List.getElem?_cons_zero,YZ]
    refine val_ok hv (SqL.of el') hl1 (hk.imp id fun ⟨k1,k2,k3⟩=>⟨k1,no.last k2 k3⟩) (fun v ev y H3 g3 hy hyk=>?_) (fun ev=>?_)
    · rw [rowGo_some ev]at eg
      have el3:=g3 _ _ el'
      have hxl:xs.length<sizeLine:=small1 (by rw[hv.len];have:(x::r).length=r.length+1:=rfl;omega)
      have nl:∀z u,H z=some u->z≠l:=fun z u e c=>by rw[c,hl']at e;cases e
      have fin:∀H4,H4=upd H3 l (.lst (xs++[y]))->(∃x1 x2 x3, [some (V.ref a),some (.ref u),some (.ref l),some (.int (1+((vs.length:Nat):Int))),some (.str (nf.getD vs.length m)),some y]= [some (V.ref a),some (.ref u),some (.ref l),x1,x2,x3])/\Same H H4/\∃xs vs',H4 l=some (.lst xs)/\VlsAt H4 xs vs'/\vs'.length=vs.length+1/\rowGo nf m (r.drop (vs.length+1)) vs'= .ok vl/\NumsOk nf m vs':=fun H4 e4=>by
        subst e4
        refine⟨⟨_,_,_,rfl⟩,fun z o e=>by rw[upd_ne (nl z o e)];exact g3 _ _ (g _ _ e),xs++[y],vs++[v],upd_same,?_,by rw[Yj];rfl,eg,no.snoc ev⟩
        exact(hy.append (hv.imp fun z zs e=>g3 _ _ e)).imp fun z zs e=>by rw[upd_ne fun c=>by rw[c,el3]at e;cases e];exact e
      rcases hyk with ⟨z,rfl⟩ | ⟨z,rfl⟩
      · exact⟨⟨_,SqL.of el3⟩,_,el3,hxl,fin _ rfl⟩
      · exact⟨⟨_,SqL.of el3⟩,_,el3,hxl,fin _ rfl⟩
    · cases (rowGo_none ev).symm.trans eg
  rintro σ H' ⟨⟨x1,x2,x3,rfl⟩,g,xs,vs,el',hv,lv,eg,no⟩
  rw[List.drop_length]at eg
  refine⟨_,.inl (SqL.of el'),_,.inr (t2.sq H'),?_⟩
  have eg':(if vs.length<nf.length then Except.error (vs.length+1) else .ok vs)= .ok vl:=eg
  by_cases c:vs.length<nf.length
  · rw[if_pos c]at eg';cases eg'
  rw[if_neg c]at eg'
  cases eg'
  rw[Ya,hv.len]
  refine iteFd (by omega) ?_
  exact q l _ _ hl' g el' hv
-- def dotted
variable (G_dotted:FB P w K mg base (CX0) 1 "dotted" a_dotted d_dotted ["numbers"] (spDot K))
include m_str in
theorem ok_dotted (F0:GFm K mg "dotted" s_dotted a_dotted d_dotted):type_of% G_dotted:=by
  refine fbK ["numbers"] F0 fun H Q nd hr h=>?_
  obtain⟨a,ds,rfl,hS,hl,hb,q⟩:=h
  refine⟨_,(pss_one (ps_ret (md_join pe_str (pa_cons (pe_comp rfl (ix:=[]) (mi_list (dv 0)) (fun C fp s0 H0 at0=>pts_nil) (fun C fp s0 H0 at0=>(pe_callTy z_strI rfl m_str bt_str (pa_cons (dv 0) pa_nil))) rfl rfl (by rfl) (show ([".0","number"]:List Str).Nodup by decide +kernel)) pa_nil)))),?_⟩
  refine⟨⟨_,hS⟩,comp_list (xs:=ds.map V.int) (fun i ys H'=>ys=(((ds.take i).map fun d=>PySem.Str.ofString (toString d)).map V.str)/\H'=H) ?_ ⟨rfl,rfl⟩ ?_ ?_ ?_⟩
  · rintro i ys H' hi ⟨rfl,_⟩
    rw[Ya,Ya,YC]
    exact small1 (by omega)
  · rintro i ys H' hi ⟨_,rfl⟩
    exact hS
  · rintro i x ys H' hx ⟨rfl,rfl⟩
    obtain⟨hi,rfl⟩:=get_int hx
    obtain⟨n,en,hn⟩:=byt_nat (Yu.mp hb _ (YU hi))
    refine⟨?_,?_,rfl⟩
    · rw[en]
      exact Y5 (XE _) (by show n<1920;omega)
    · rw[Yp hi,Yi,Yi]
      rfl
  rintro ys H' ⟨rfl,rfl⟩ p hp
  rw[Ya,Yl (Yc _)]
  refine⟨_,upd_same,join_ok (B:=6) (dotT_len hb) ?_,q _ (same_new hp _)⟩
  have e1:(".":Str).length=1:=by decide +kernel
  rw[Ya,e1]
  omega
-- def frames_text
variable (G_frames_text:FB P w K mg base (CX0) 2 "frames_text" a_frames_text d_frames_text ["frames"] (spFrsT K))
include m_str G_dotted in
theorem ok_frames_text (F0:GFm K mg "frames_text" s_frames_text a_frames_text d_frames_text):type_of% G_frames_text:=by
  refine fbK ["frames"] F0 fun H Q nd hr h=>?_
  obtain⟨a,xs,fs,rfl,ea,hF,hl,hn,q⟩:=h
  refine⟨_,(pss_one (ps_ret (md_join pe_str (pa_cons (pe_comp rfl (ix:=[]) (mi_list (dv 0)) (fun C fp s0 H0 at0=>pts_nil) (fun C fp s0 H0 at0=>(pe_op z_addS (pe_op z_addS (pe_callTy z_strI rfl m_str bt_str (pa_cons (pe_ix (z_ixTK (K:=K)) (dv 0) pe_int (fun _ _=>rfl)) pa_nil)) pe_str) (pe_call G_dotted.1 hr.mo rfl G_dotted.2.2.2 G_dotted.2.2.1 G_dotted.2.1 .nil pass0 (pa_cons (pe_ix (z_ixTK (K:=K)) (dv 0) pe_int (fun _ _=>rfl)) pa_nil)))) rfl rfl (by rfl) (show ([".0","frame"]:List Str).Nodup by decide +kernel)) pa_nil)))),?_⟩
  refine⟨⟨_,SqL.of ea⟩,comp_list (xs:=xs) (fun i ys H'=>ys=((fs.take i).map frT).map V.str/\Same H H') ?_ ⟨rfl,Same.refl _⟩ ?_ ?_ ?_⟩
  · rintro i ys H' hi ⟨rfl,_⟩
    rw[Ya,Ya,YC]
    exact small1 (by omega)
  · rintro i ys H' hi ⟨_,g⟩
    exact SqL.of (g _ _ ea)
  · rintro i x ys H' hx ⟨rfl,g⟩
    obtain⟨t,f,rfl,hf,dd,e1,e2,_⟩:=hF.get hx
    have hi:i<fs.length:=(Yb.mp hf).1
    have fn:=hn f (Yq hf)
    have n1:=fn.1
    have n2:=fn.2.1
    refine⟨_,_,SqT.of (g _ _ e1),atI_nat (j:=0) rfl,?_,?_⟩
    · exact Y5 (XE _) (by show f.1<1920;omega)
    refine⟨?_,_,_,SqT.of (g _ _ e1),atI_nat (j:=1) rfl,dd,f.2,rfl,SqL.of (g _ _ e2),by omega,fn.2.2,fun H2 g2=>⟨?_,?_,g.trans g2⟩⟩
    · exact szl (Ye (YA (num_len (n:=f.1) (by omega)) (show (":":Str).length<=1 by decide +kernel)) (by decide))
    · have h1:=frT_len fn
      unfold frT at h1
      rw[Yx]at h1
      exact szl (Ye h1 (by decide))
    · rw[Yp hi,Yi,Yi]
      have:fs[i]=f:=(Yb.mp hf).2
      rw[this]
      rfl
  rintro ys H' ⟨rfl,g⟩ p hp
  rw[hF.len,Yl (Yc _)]
  exact⟨_,upd_same,frsT_ok hn hl,q _ (g.trans (same_new hp _))⟩
-- def part_of
variable (G_part_of:FB P w K mg base (CX0) 1 "part_of" a_part_of d_part_of ["bits","start","end"] (spPart0 K))
theorem ok_part_of (F0:GFm K mg "part_of" s_part_of a_part_of d_part_of):type_of% G_part_of:=by
  refine fbK ["bits","start","end"] F0 fun H Q nd hr h=>?_
  obtain⟨a,s,e,rfl,ea,q⟩:=h
  refine⟨_,(pss_one (ps_ret (pe_cut (pe_ifExp (md_cmp z_lt (dv 1) (dv 2) (nomark _)) (pe_slice z_slL (dv 0) (md_part (dv 1)) (md_part (dv 2))) (pe_lst pa_nil))))),?_⟩
  refine⟨fun v H'=>∃l,v= .ref l/\H l=none/\H'=upd H l (.lst []),?_,?_⟩
  · conv=>whnf
    refine ite2 (fun c=>?_) (fun c=>?_)
    · refine⟨_,SqL.of ea,fun l hl=>⟨l,rfl,hl,?_⟩⟩
      rw[cutV_nil]
    · exact⟨small_lit rfl,fun l hl=>⟨l,rfl,hl,rfl⟩⟩
  rintro v H' ⟨l,rfl,hl,rfl⟩
  exact q l hl
-- def Joiner_init
variable (G_Joiner_init:MB P w K mg base (CX0) 1 a_Joiner_init d_Joiner_init ["self"] (spJoI0 a_Joiner))
include m_Joiner fact_cls_Joiner fact_na_Joiner_opened fact_na_Joiner_tag fact_na_Joiner_many fact_na_Joiner_had fact_na_Joiner_joined fact_na_Joiner_broken_tag in
theorem ok_Joiner_init (F0:Fun K "__init__" "Joiner.__init__" s_Joiner_init a_Joiner_init d_Joiner_init):type_of% G_Joiner_init:=by
  refine mbK ["self"] F0 fun H Q nd hr h=>?_
  obtain⟨j,dx,rfl,e,q⟩:=h
  refine⟨_,(pss_cons (md_set fact_cls_Joiner fact_na_Joiner_opened (dv 0) pe_bl) (pss_cons (md_set fact_cls_Joiner fact_na_Joiner_tag (dv 0) pe_non) (pss_cons (md_set fact_cls_Joiner fact_na_Joiner_many (dv 0) pe_int) (pss_cons (md_set fact_cls_Joiner fact_na_Joiner_had (dv 0) pe_int) (pss_cons (md_set fact_cls_Joiner fact_na_Joiner_joined (dv 0) (pe_lst pa_nil)) (pss_one (md_set fact_cls_Joiner fact_na_Joiner_broken_tag (dv 0) pe_non))))))),?_⟩
  refine⟨dx,_,e,by decide,?_⟩
  refine⟨dx,_,upd_same,(show 1<1000 by decide),?_⟩
  refine⟨dx,_,upd_same,(show 2<1000 by decide),?_⟩
  refine⟨dx,_,upd_same,(show 3<1000 by decide),?_⟩
  refine⟨small_lit rfl,fun jl hjl=>?_⟩
  have nj:j≠jl:=fun z=>by rw[z,upd_same]at hjl;cases hjl
  refine⟨dx,_,(upd_ne nj).trans upd_same,(show 4<1000 by decide),?_⟩
  refine⟨dx,_,upd_same,(show 5<1000 by decide),?_⟩
  refine q _ _ rfl upd_same fun x o hx ex=>?_
  have hxl:x≠jl:=fun z=>by
    rw[upd_ne (Ne.symm nj),upd_ne (Ne.symm nj),upd_ne (Ne.symm nj),upd_ne (Ne.symm nj)]at hjl
    rw[z,hjl]at ex;cases ex
  rw[upd_ne hx,upd_ne hx,upd_ne hxl,upd_ne hx,upd_ne hx,upd_ne hx,upd_ne hx]
  exact ex
-- def Joiner_end
variable (G_Joiner_end:MB P w K mg base (CX0) 1 a_Joiner_end d_Joiner_end ["self"] (spJoE0 a_Joiner))
include m_Joiner fact_cls_Joiner fact_na_Joiner_opened in
theorem ok_Joiner_end (F0:Fun K "end" "Joiner.end" s_Joiner_end a_Joiner_end d_Joiner_end):type_of% G_Joiner_end:=by
  refine mbK ["self"] F0 fun H Q nd hr h=>?_
  obtain⟨j,dx,fs,rfl,e,q⟩:=h
  refine⟨_,(pss_cons (ps_if (pt_not (md_val (md_fld fact_cls_Joiner fact_na_Joiner_opened (dv 0)))) (pss_one (ps_ret (pe_lst pa_nil))) pss_nil) (pss_cons ps_dead (pss_cons ps_dead (pss_one ps_dead)))),?_⟩
  refine⟨dx,_,.bl false,e,rfl,?_⟩
  exact⟨small_lit rfl,fun p hp=>q p hp⟩
-- def things_of
variable (G_things_of:FB P w K mg base (CX0) 3 "things_of" a_things_of d_things_of ["frames","name"] (spThs0 K))
include m_Joiner fact_cls_Joiner fact_mk_Joiner fact_meth_Joiner_end G_Joiner_init G_Joiner_end in
theorem ok_things_of (F0:GFm K mg "things_of" s_things_of a_things_of d_things_of):type_of% G_things_of:=by
  refine fbK ["frames","name","joiner","told","frame"] F0 fun H Q nd hr h=>?_
  obtain⟨a,n,rfl,ea,q⟩:=h
  refine⟨_,(pss_cons (ps_set (i:=2) nd rfl (Or.inl rfl) (pe_make0 fact_mk_Joiner G_Joiner_init.1 hr.mo rfl m_Joiner G_Joiner_init.2 .nil pass0)) (pss_cons (ps_set (i:=3) nd rfl (Or.inl rfl) (pe_lst pa_nil)) (pss_cons (ps_for Xg rfl (mi_list (dv 0)) (pg_name (i:=4) nd rfl (Or.inl rfl)) (pss_one ps_dead)) (pss_one (ps_ret (pe_op z_cat (dv 3) (md_meth0 fact_cls_Joiner fact_meth_Joiner_end G_Joiner_end.1 hr.mo G_Joiner_end.2 .nil pass0 (dv 2)))))))),?_⟩
  refine fun j dx hj hdx hne=>⟨j,dx,rfl,upd_same,fun H1 fs hfs ej k1=>?_⟩
  have g1:Same H H1:=fun z u e=>k1 z u (ne_of_none e hj) (by rw[upd_ne (ne_of_none e hj),upd_ne (ne_of_none e hdx)];exact e)
  refine⟨rfl,small_lit rfl,fun t ht=>?_⟩
  generalize eU:upd H1 t _=H2
  have g2:=nS ht eU
  have et:=nE eU
  have ej2:=g2 _ _ ej
  clear eU
  refine⟨⟨_,SqL.of (g2 _ _ (g1 _ _ ea))⟩,for_list (xs:=[]) (tb:=fun _ _ _=>False) (fun i σ H'=>(∃x,σ= [some (.ref a),some (.int n),some (.ref j),some (.ref t),x])/\H'=H2) ⟨⟨_,rfl⟩,rfl⟩ ?_ ?_ ?_⟩
  · rintro i σ H' hi ⟨_,rfl⟩
    exact SqL.of (g2 _ _ (g1 _ _ ea))
  · rintro i x σ H' hx _
    cases hx
  rintro σ H' ⟨⟨x,rfl⟩,rfl⟩
  refine⟨⟨dx,_,ej2,by rw[Y6,hfs];rfl⟩,j,dx,fs,rfl,ej2,fun p hp=>?_⟩
  have g3:=same_new hp (.lst [])
  refine⟨[], [],g3 _ _ et,upd_same,by decide,fun p2 hp2=>?_⟩
  have g4:=g1.trans (g2.trans (g3.trans (same_new hp2 (.lst []))))
  exact q p2 _ ((g1.trans (g2.trans g3)).none hp2) g4 upd_same
-- def say_hand
variable (G_say_hand:FB P w K mg base (CXR P w) 12 "say_hand" a_say_hand d_say_hand ["desk","values"] (spSay K (fun r=>∃k n ds,r= .hand k n ds) a_Desk a_Rail CA ⟨a_NoPost,a_NoFrame,a_NoName,a_NoThing,a_NoRail⟩))
include m_NoFrame m_NoPost m_Rail m_NoName m_NoThing m_Desk m_NoRail fact_cls_Rail fact_cls_Desk fact_meth_Rail_hand fact_na_Desk_rail G_Rail_hand in
theorem ok_say_hand (F0:GFm K mg "say_hand" s_say_hand a_say_hand d_say_hand):type_of% G_say_hand:=by
  refine fbM ["desk","values"] F0 fun Sc0=>F0.F.okR Sc0 (fun vs H Q E h=>?_) fun cdv A outer s H vs Q E hr h=>?_
  · obtain⟨d,R,wp,o,dw,l,xs,row,n,rfl,_⟩:=h
    rfl
  obtain⟨d,R,wp,o,dw,l,xs,row,n,rfl,hD,el,nol,hv,hrow,hsm,hz,n8,wp8,q1,q2⟩:=h
  have nd:=Sc0.nd
  refine⟨_,(pss_cons (ps_expr (md_meth fact_cls_Rail fact_meth_Rail_hand G_Rail_hand.1 hr.mo G_Rail_hand.2 .nil (passR fun _ _ _ z=>z) (md_fld fact_cls_Desk fact_na_Desk_rail (dv 0)) (pa_cons (pe_ix z_ixL (dv 1) pe_int (fun _ _=>rfl)) (pa_cons (pe_ix z_ixL (dv 1) pe_int (fun _ _=>rfl)) (pa_cons (pe_slice z_slL (dv 1) (md_part pe_int) po_none) pa_nil))))) (pss_one (ps_ret pe_str))),?_⟩
  obtain⟨k,nm,ds,rfl⟩:=hrow
  have hx:=vls_nums (ns:=k::nm::ds) hv
  subst hx
  obtain⟨r,er,⟨wR,hR⟩,back⟩:=hD.rail
  refine⟨dw.dx,_,dw.rv,hD.ed,rfl,?_⟩
  rw[er]
  have ec:cutV ((itg (k::nm::ds)).map V.int) (some 2) none=(itg ds).map V.int:=(cutV_from (a:=2) (by simp)).trans rfl
  refine⟨⟨wR.dx,_,hR.er,rfl⟩,_,_,SqL.of el,atI_nat (j:=0) rfl,_,_,SqL.of el,atI_nat (j:=1) rfl,_,SqL.of el,fun p hp=>?_⟩
  rw[ec]
  generalize eU:upd H p _=H1
  have g1:=nS hp eU
  have ep:=nE eU
  clear eU
  have hsm':ds.length<=90:=hsm
  refine⟨r,R,dw.orl,wR,((k:Nat):Int),((nm:Nat):Int),p,itg ds,rfl,hR.same g1,SqL.of ep,by rw[Ya];omega,by have:=hz.ow;omega,fun S hS=>by have:=(hz.ps S hS).2.2.2;omega,fun no H' g=>?_,fun yes no H' g=>?_,fun i S ei eS ok=>?_⟩
  · exact q1 .post (ans_hand.1 _ (handR_post (none_of no))) H' (g1.trans g)
  · obtain⟨S,eS⟩:∃S,R.ps[k]? =some S:=⟨_,Yd (by omega)⟩
    exact q1 .frame (ans_hand.1 _ (handR_frame eS no)) H' (g1.trans g)
  · have ek:i=k:=by omega
    subst ek
    obtain⟨j,ej⟩:=hz.owner i nm
    refine⟨j,ej,fun ne H' g=>q1 .name (ans_hand.1 _ (handR_name eS ok ej ne)) H' (g1.trans g),fun e H' o' hR' m=>?_⟩
    subst e
    obtain⟨o2,hD2,m2⟩:=back H' _ o' hR' ((Mv.of g1).trans m)
    exact q2 _ _ _ (ans_hand.2 _ (handR_ok eS ok ej)) H' o2 _ hD2 m2
-- def say_got
variable (G_say_got:FB P w K mg base (CXR P w) 12 "say_got" a_say_got d_say_got ["desk","values"] (spSay K (fun r=>∃k,r= .got k) a_Desk a_Rail CA ⟨a_NoPost,a_NoFrame,a_NoName,a_NoThing,a_NoRail⟩))
include m_NoFrame m_NoPost m_Rail m_NoName m_NoThing m_Desk m_NoRail fact_cls_Rail fact_cls_Desk fact_meth_Rail_got fact_na_Desk_rail G_Rail_got G_frames_text in
theorem ok_say_got (F0:GFm K mg "say_got" s_say_got a_say_got d_say_got):type_of% G_say_got:=by
  refine fbM ["desk","values"] F0 fun Sc0=>F0.F.okR Sc0 (fun vs H Q E h=>?_) fun cdv A outer s H vs Q E hr h=>?_
  · obtain⟨d,R,wp,o,dw,l,xs,row,n,rfl,_⟩:=h
    rfl
  obtain⟨d,R,wp,o,dw,l,xs,row,n,rfl,hD,el,nol,hv,hrow,hsm,hz,n8,wp8,q1,q2⟩:=h
  have nd:=Sc0.nd
  refine⟨_,(pss_one (ps_ret (pe_call G_frames_text.1 hr.mo rfl G_frames_text.2.2.2 G_frames_text.2.2.1 G_frames_text.2.1 .nil pass0 (pa_cons (md_meth fact_cls_Rail fact_meth_Rail_got G_Rail_got.1 hr.mo G_Rail_got.2 .nil (passR fun _ _ _ z=>z) (md_fld fact_cls_Desk fact_na_Desk_rail (dv 0)) (pa_cons (pe_ix z_ixL (dv 1) pe_int (fun _ _=>rfl)) pa_nil)) pa_nil)))),?_⟩
  obtain⟨k,rfl⟩:=hrow
  have hx:=vls_nums (ns:=[k]) hv
  subst hx
  obtain⟨r,er,⟨wR,hR⟩,back⟩:=hD.rail
  refine⟨dw.dx,_,dw.rv,hD.ed,rfl,?_⟩
  rw[er]
  refine⟨⟨wR.dx,_,hR.er,rfl⟩,_,_,SqL.of el,atI_nat (j:=0) rfl,r,R,dw.orl,wR,((k:Nat):Int),rfl,hR,fun i S ei eS=>?_,fun no H' g=>q1 .post (ask_none (none_of no)) H' g⟩
  have ek:i=k:=by omega
  subst ek
  obtain⟨z1,z2,z3,z4⟩:=hz.ps S (Yq eS)
  refine⟨by rw[z3];exact YO _,fun l2 xs2 H1 hl2 g1 el2 hF=>⟨l2,xs2,S.up,rfl,el2,hF.at_,by rw[z3];exact YO _,by rw[z3];exact fun f hf=>(by cases hf),fun H2 g2=>?_⟩⟩
  exact q2 _ _ _ (ask_some eS) H2 o dw (hD.same (g1.trans g2)) (Mv.of (g1.trans g2))
-- def say_waits
variable (G_say_waits:FB P w K mg base (CXR P w) 12 "say_waits" a_say_waits d_say_waits ["desk","values"] (spSay K (fun r=>∃k,r= .waits k) a_Desk a_Rail CA ⟨a_NoPost,a_NoFrame,a_NoName,a_NoThing,a_NoRail⟩))
include m_NoFrame m_NoPost m_Rail m_NoName m_NoThing m_Desk m_NoRail fact_cls_Rail fact_cls_Desk fact_meth_Rail_waits fact_na_Desk_rail G_Rail_waits G_frames_text in
theorem ok_say_waits (F0:GFm K mg "say_waits" s_say_waits a_say_waits d_say_waits):type_of% G_say_waits:=by
  refine fbM ["desk","values"] F0 fun Sc0=>F0.F.okR Sc0 (fun vs H Q E h=>?_) fun cdv A outer s H vs Q E hr h=>?_
  · obtain⟨d,R,wp,o,dw,l,xs,row,n,rfl,_⟩:=h
    rfl
  obtain⟨d,R,wp,o,dw,l,xs,row,n,rfl,hD,el,nol,hv,hrow,hsm,hz,n8,wp8,q1,q2⟩:=h
  have nd:=Sc0.nd
  refine⟨_,(pss_one (ps_ret (pe_call G_frames_text.1 hr.mo rfl G_frames_text.2.2.2 G_frames_text.2.2.1 G_frames_text.2.1 .nil pass0 (pa_cons (md_meth fact_cls_Rail fact_meth_Rail_waits G_Rail_waits.1 hr.mo G_Rail_waits.2 .nil (passR fun _ _ _ z=>z) (md_fld fact_cls_Desk fact_na_Desk_rail (dv 0)) (pa_cons (pe_ix z_ixL (dv 1) pe_int (fun _ _=>rfl)) pa_nil)) pa_nil)))),?_⟩
  obtain⟨k,rfl⟩:=hrow
  have hx:=vls_nums (ns:=[k]) hv
  subst hx
  obtain⟨r,er,⟨wR,hR⟩,back⟩:=hD.rail
  refine⟨dw.dx,_,dw.rv,hD.ed,rfl,?_⟩
  rw[er]
  refine⟨⟨wR.dx,_,hR.er,rfl⟩,_,_,SqL.of el,atI_nat (j:=0) rfl,r,R,dw.orl,wR,((k:Nat):Int),rfl,hR,fun i S ei eS=>?_,fun no H' g=>q1 .post (ask_none (none_of no)) H' g⟩
  have ek:i=k:=by omega
  subst ek
  obtain⟨z1,z2,z3,z4⟩:=hz.ps S (Yq eS)
  obtain⟨p,oi,_,hP⟩:=hR.at eS
  refine⟨by omega,fun l2 xs2 H1 hl2 g1 el2 hF=>⟨l2,xs2,S.wt,rfl,el2,hF.at_,by omega,hP.wf.wt,fun H2 g2=>?_⟩⟩
  exact q2 _ _ _ (ask_some eS) H2 o dw (hD.same (g1.trans g2)) (Mv.of (g1.trans g2))
-- def say_faults
variable (G_say_faults:FB P w K mg base (CXR P w) 12 "say_faults" a_say_faults d_say_faults ["desk","values"] (spSay K (fun r=>∃k,r= .faults k) a_Desk a_Rail CA ⟨a_NoPost,a_NoFrame,a_NoName,a_NoThing,a_NoRail⟩))
include m_NoFrame m_NoPost m_Rail m_NoName m_NoThing m_Desk m_NoRail m_str fact_cls_Rail fact_cls_Desk fact_meth_Rail_faults fact_na_Desk_rail G_Rail_faults in
theorem ok_say_faults (F0:GFm K mg "say_faults" s_say_faults a_say_faults d_say_faults):type_of% G_say_faults:=by
  refine fbM ["desk","values"] F0 fun Sc0=>F0.F.okR Sc0 (fun vs H Q E h=>?_) fun cdv A outer s H vs Q E hr h=>?_
  · obtain⟨d,R,wp,o,dw,l,xs,row,n,rfl,_⟩:=h
    rfl
  obtain⟨d,R,wp,o,dw,l,xs,row,n,rfl,hD,el,nol,hv,hrow,hsm,hz,n8,wp8,q1,q2⟩:=h
  have nd:=Sc0.nd
  refine⟨_,(pss_one (ps_ret (pe_callTy z_strI rfl m_str bt_str (pa_cons (md_meth fact_cls_Rail fact_meth_Rail_faults G_Rail_faults.1 hr.mo G_Rail_faults.2 .nil (passR fun _ _ _ z=>z) (md_fld fact_cls_Desk fact_na_Desk_rail (dv 0)) (pa_cons (pe_ix z_ixL (dv 1) pe_int (fun _ _=>rfl)) pa_nil)) pa_nil)))),?_⟩
  obtain⟨k,rfl⟩:=hrow
  have hx:=vls_nums (ns:=[k]) hv
  subst hx
  obtain⟨r,er,⟨wR,hR⟩,back⟩:=hD.rail
  refine⟨dw.dx,_,dw.rv,hD.ed,rfl,?_⟩
  rw[er]
  refine⟨⟨wR.dx,_,hR.er,rfl⟩,_,_,SqL.of el,atI_nat (j:=0) rfl,r,R,dw.orl,wR,((k:Nat):Int),rfl,hR,fun i S ei eS=>?_,fun no H' g=>q1 .post (ask_none (none_of no)) H' g⟩
  have ek:i=k:=by omega
  subst ek
  obtain⟨z1,z2,z3,z4⟩:=hz.ps S (Yq eS)
  refine⟨by rw[z2];decide,?_⟩
  exact q2 _ _ _ (ask_some eS) H o dw hD (Mv.refl)
-- def say_stance
variable (G_say_stance:FB P w K mg base (CXR P w) 12 "say_stance" a_say_stance d_say_stance ["desk","values"] (spSay K (fun r=>∃k,r= .stance k) a_Desk a_Rail CA ⟨a_NoPost,a_NoFrame,a_NoName,a_NoThing,a_NoRail⟩))
include m_NoFrame m_NoPost m_Rail m_NoName m_NoThing m_Desk m_NoRail m_str fact_cls_Rail fact_cls_Desk fact_meth_Rail_stance fact_na_Desk_rail G_Rail_stance in
theorem ok_say_stance (F0:GFm K mg "say_stance" s_say_stance a_say_stance d_say_stance):type_of% G_say_stance:=by
  refine fbM ["desk","values","stance"] F0 fun Sc0=>F0.F.okR Sc0 (fun vs H Q E h=>?_) fun cdv A outer s H vs Q E hr h=>?_
  · obtain⟨d,R,wp,o,dw,l,xs,row,n,rfl,_⟩:=h
    rfl
  obtain⟨d,R,wp,o,dw,l,xs,row,n,rfl,hD,el,nol,hv,hrow,hsm,hz,n8,wp8,q1,q2⟩:=h
  have nd:=Sc0.nd
  refine⟨_,(pss_cons (ps_set (i:=2) nd rfl (Or.inl rfl) (md_meth fact_cls_Rail fact_meth_Rail_stance G_Rail_stance.1 hr.mo G_Rail_stance.2 .nil (passR fun _ _ _ z=>z) (md_fld fact_cls_Desk fact_na_Desk_rail (dv 0)) (pa_cons (pe_ix z_ixL (dv 1) pe_int (fun _ _=>rfl)) pa_nil))) (pss_one (ps_ret (pe_op z_addS (pe_op z_addS (pe_ix z_ixT (dv 2) pe_int (fun _ _=>rfl)) pe_str) (pe_callTy z_strI rfl m_str bt_str (pa_cons (pe_ix z_ixT (dv 2) pe_int (fun _ _=>rfl)) pa_nil)))))),?_⟩
  obtain⟨k,rfl⟩:=hrow
  have hx:=vls_nums (ns:=[k]) hv
  subst hx
  obtain⟨r,er,⟨wR,hR⟩,back⟩:=hD.rail
  refine⟨dw.dx,_,dw.rv,hD.ed,rfl,?_⟩
  rw[er]
  refine⟨⟨wR.dx,_,hR.er,rfl⟩,_,_,SqL.of el,atI_nat (j:=0) rfl,r,R,dw.orl,wR,((k:Nat):Int),rfl,hR,fun i S ei eS=>?_,fun no H' g=>q1 .post (ask_none (none_of no)) H' g⟩
  have ek:i=k:=by omega
  subst ek
  obtain⟨z1,z2,z3,z4⟩:=hz.ps S (Yq eS)
  refine⟨0,z1,fun t H1 ht g1 et=>?_⟩
  refine⟨_,_,SqT.of et,atI_nat (j:=0) rfl,?_⟩
  refine⟨by decide +kernel,_,_,SqT.of et,atI_nat (j:=1) rfl,by decide,by decide +kernel,?_⟩
  refine q2 _ _ _ ((ask_some eS).trans ?_) H1 o dw (hD.same g1) (Mv.of g1)
  rw[z1]
  rfl
-- def say_wrong
variable (G_say_wrong:FB P w K mg base (CXR P w) 12 "say_wrong" a_say_wrong d_say_wrong ["desk","values"] (spSay K (fun r=>∃k t,r= .wrong k t) a_Desk a_Rail CA ⟨a_NoPost,a_NoFrame,a_NoName,a_NoThing,a_NoRail⟩))
include m_NoFrame m_NoPost m_Rail m_NoName m_NoThing m_Desk m_NoRail fact_cls_Rail fact_cls_Desk fact_meth_Rail_is_off fact_na_Desk_rail fact_na_Desk_wrong G_Rail_is_off in
theorem ok_say_wrong (F0:GFm K mg "say_wrong" s_say_wrong a_say_wrong d_say_wrong):type_of% G_say_wrong:=by
  refine fbM ["desk","values"] F0 fun Sc0=>F0.F.okR Sc0 (fun vs H Q E h=>?_) fun cdv A outer s H vs Q E hr h=>?_
  · obtain⟨d,R,wp,o,dw,l,xs,row,n,rfl,_⟩:=h
    rfl
  obtain⟨d,R,wp,o,dw,l,xs,row,n,rfl,hD,el,nol,hv,hrow,hsm,hz,n8,wp8,q1,q2⟩:=h
  have nd:=Sc0.nd
  refine⟨_,(pss_cons (ps_expr (md_meth fact_cls_Rail fact_meth_Rail_is_off G_Rail_is_off.1 hr.mo G_Rail_is_off.2 .nil (passR fun _ _ _ z=>z) (md_fld fact_cls_Desk fact_na_Desk_rail (dv 0)) (pa_cons (pe_ix z_ixL (dv 1) pe_int (fun _ _=>rfl)) pa_nil))) (pss_cons (ps_expr (md_append (md_fld fact_cls_Desk fact_na_Desk_wrong (dv 0)) (pa_cons (pe_tup (pa_cons (pe_ix z_ixL (dv 1) pe_int (fun _ _=>rfl)) (pa_cons (pe_ix z_ixL (dv 1) pe_int (fun _ _=>rfl)) pa_nil))) pa_nil))) (pss_one (ps_ret pe_str)))),?_⟩
  obtain⟨k,t,rfl⟩:=hrow
  have hx:=vls_nums (ns:=[k,t]) hv
  subst hx
  obtain⟨r,er,⟨wR,hR⟩,back⟩:=hD.rail
  refine⟨dw.dx,_,dw.rv,hD.ed,rfl,?_⟩
  rw[er]
  refine⟨⟨wR.dx,_,hR.er,rfl⟩,_,_,SqL.of el,atI_nat (j:=0) rfl,r,R,dw.orl,wR,((k:Nat):Int),rfl,hR,fun i S ei eS=>?_,fun no H' g=>q1 .post (if_neg (by omega)) H' g⟩
  have ek:i=k:=by omega
  subst ek
  refine⟨dw.dx,_,.ref dw.wl,hD.ed,rfl,⟨_,SqL.of hD.ew⟩,_,_,SqL.of el,atI_nat (j:=0) rfl,_,_,SqL.of el,atI_nat (j:=1) rfl,small_lit rfl,fun q hq=>?_⟩
  generalize eU:upd H q _=H1
  have g1:=nS hq eU
  have eq:=nE eU
  clear eU
  have hD1:=hD.same g1
  have hl:=hD1.ww.len
  rw[Ya]at hl
  refine⟨_,hD1.ew,small1 (by omega),?_⟩
  obtain⟨hD2,m2⟩:=hD1.mark eq
  exact q2 _ _ _ (if_pos (Yb.mp eS).1) _ o _ hD2 ((Mv.of g1).trans m2)
-- def say_things
variable (G_say_things:FB P w K mg base (CXR P w) 12 "say_things" a_say_things d_say_things ["desk","values"] (spSay K (fun r=>∃k n,r= .things k n) a_Desk a_Rail CA ⟨a_NoPost,a_NoFrame,a_NoName,a_NoThing,a_NoRail⟩))
include m_NoFrame m_NoPost m_Rail m_NoName m_NoThing m_Joiner m_Desk m_NoRail fact_cls_Rail fact_cls_Desk fact_meth_Rail_got fact_na_Desk_rail G_Rail_got G_things_of in
theorem ok_say_things (F0:GFm K mg "say_things" s_say_things a_say_things d_say_things):type_of% G_say_things:=by
  refine fbM ["desk","values"] F0 fun Sc0=>F0.F.okR Sc0 (fun vs H Q E h=>?_) fun cdv A outer s H vs Q E hr h=>?_
  · obtain⟨d,R,wp,o,dw,l,xs,row,n,rfl,_⟩:=h
    rfl
  obtain⟨d,R,wp,o,dw,l,xs,row,n,rfl,hD,el,nol,hv,hrow,hsm,hz,n8,wp8,q1,q2⟩:=h
  have nd:=Sc0.nd
  refine⟨_,(pss_one (ps_ret (md_join pe_str (pa_cons (pe_comp rfl (ix:=[]) (mi_list (pe_call G_things_of.1 hr.mo rfl G_things_of.2.2.2 G_things_of.2.2.1 G_things_of.2.1 .nil pass0 (pa_cons (md_meth fact_cls_Rail fact_meth_Rail_got G_Rail_got.1 hr.mo G_Rail_got.2 .nil (passR fun _ _ _ z=>z) (md_fld fact_cls_Desk fact_na_Desk_rail (dv 0)) (pa_cons (pe_ix z_ixL (dv 1) pe_int (fun _ _=>rfl)) pa_nil)) (pa_cons (pe_ix z_ixL (dv 1) pe_int (fun _ _=>rfl)) pa_nil)))) (fun C fp s0 H0 at0=>pts_nil) (fun C fp s0 H0 at0=>pe_dead) rfl rfl (by rfl) (show ([".0","told"]:List Str).Nodup by decide +kernel)) pa_nil)))),?_⟩
  obtain⟨k,nm,rfl⟩:=hrow
  have hx:=vls_nums (ns:=[k,nm]) hv
  subst hx
  obtain⟨r,er,⟨wR,hR⟩,back⟩:=hD.rail
  refine⟨dw.dx,_,dw.rv,hD.ed,rfl,?_⟩
  rw[er]
  refine⟨⟨wR.dx,_,hR.er,rfl⟩,_,_,SqL.of el,atI_nat (j:=0) rfl,r,R,dw.orl,wR,((k:Nat):Int),rfl,hR,fun i S ei eS=>?_,fun no H' g=>q1 .post (ask_none (none_of no)) H' g⟩
  have ek:i=k:=by omega
  subst ek
  obtain⟨z1,z2,z3,z4⟩:=hz.ps S (Yq eS)
  refine⟨by rw[z3];exact YO _,fun l2 xs2 H1 hl2 g1 el2 hF=>?_⟩
  rw[z3]at hF
  cases hF
  refine⟨_,_,SqL.of (g1 _ _ el),atI_nat (j:=1) rfl,l2,((nm:Nat):Int),rfl,el2,fun p H2 hp g2 ep=>?_⟩
  have g12:=g1.trans g2
  refine⟨⟨_,SqL.of ep⟩,comp_list (xs:=[]) (fun i ys H'=>ys= []/\H'=H2) ?_ ⟨rfl,rfl⟩ ?_ ?_ ?_⟩
  · rintro i ys H' hi ⟨rfl,_⟩
    exact small_lit rfl
  · rintro i ys H' hi ⟨_,rfl⟩
    exact SqL.of ep
  · rintro i x ys H' hx _
    cases hx
  rintro ys H' ⟨rfl,rfl⟩ p2 hp2
  have g3:=g12.trans (same_new hp2 (.lst []))
  refine⟨[],upd_same,by decide +kernel,?_⟩
  exact q2 _ _ _ (ask_some eS) _ o dw (hD.same g3) (Mv.of g3)
-- def say_draw
variable (G_say_draw:FB P w K mg base (CXR P w) 12 "say_draw" a_say_draw d_say_draw ["desk","values"] (spSay K (fun r=>∃k s e,r= .draw k s e) a_Desk a_Rail CA ⟨a_NoPost,a_NoFrame,a_NoName,a_NoThing,a_NoRail⟩))
include m_NoFrame m_NoPost m_Rail m_NoName m_NoThing m_Desk m_NoRail fact_cls_Rail fact_cls_Desk fact_meth_Rail_heard fact_na_Desk_rail G_Rail_heard G_strips G_part_of in
theorem ok_say_draw (F0:GFm K mg "say_draw" s_say_draw a_say_draw d_say_draw):type_of% G_say_draw:=by
  refine fbM ["desk","values","heard"] F0 fun Sc0=>F0.F.okR Sc0 (fun vs H Q E h=>?_) fun cdv A outer s H vs Q E hr h=>?_
  · obtain⟨d,R,wp,o,dw,l,xs,row,n,rfl,_⟩:=h
    rfl
  obtain⟨d,R,wp,o,dw,l,xs,row,n,rfl,hD,el,nol,hv,hrow,hsm,hz,n8,wp8,q1,q2⟩:=h
  have nd:=Sc0.nd
  refine⟨_,(pss_cons (ps_set (i:=2) nd rfl (Or.inl rfl) (pe_call G_part_of.1 hr.mo rfl G_part_of.2.2.2 G_part_of.2.2.1 G_part_of.2.1 .nil pass0 (pa_cons (md_meth fact_cls_Rail fact_meth_Rail_heard G_Rail_heard.1 hr.mo G_Rail_heard.2 .nil (passR fun _ _ _ z=>z) (md_fld fact_cls_Desk fact_na_Desk_rail (dv 0)) (pa_cons (pe_ix z_ixL (dv 1) pe_int (fun _ _=>rfl)) pa_nil)) (pa_cons (pe_ix z_ixL (dv 1) pe_int (fun _ _=>rfl)) (pa_cons (pe_ix z_ixL (dv 1) pe_int (fun _ _=>rfl)) pa_nil))))) (pss_one (ps_ret (md_join pe_str (pa_cons (pe_call G_strips.1 hr.mo rfl G_strips.2.2.2 G_strips.2.2.1 G_strips.2.1 .nil pass0 (pa_cons (dv 2) (pa_cons (pe_ix z_ixL (dv 1) pe_int (fun _ _=>rfl)) pa_nil))) pa_nil))))),?_⟩
  obtain⟨k,s,e,rfl⟩:=hrow
  have hx:=vls_nums (ns:=[k,s,e]) hv
  subst hx
  obtain⟨r,er,⟨wR,hR⟩,back⟩:=hD.rail
  refine⟨dw.dx,_,dw.rv,hD.ed,rfl,?_⟩
  rw[er]
  refine⟨⟨wR.dx,_,hR.er,rfl⟩,_,_,SqL.of el,atI_nat (j:=0) rfl,r,R,dw.orl,wR,((k:Nat):Int),rfl,hR,fun i xs ei ex l1 hl1=>?_,fun no H' g=>q1 .post (ask_none (none_of no)) H' g⟩
  have ek:i=k:=by omega
  subst ek
  have x0:=hz.he xs (Yq ex)
  subst x0
  generalize eU:upd H l1 _=H1
  have g1:=nS hl1 eU
  have e1:=nE eU
  clear eU
  refine⟨_,_,SqL.of (g1 _ _ el),atI_nat (j:=1) rfl,_,_,SqL.of (g1 _ _ el),atI_nat (j:=2) rfl,l1,((s:Nat):Int),((e:Nat):Int),rfl,e1,fun l2 hl2=>?_⟩
  have g2:=g1.trans (same_new hl2 (.lst []))
  have e2:=upd_same (H:=H1) (a:=l2) (o:= .lst [])
  generalize upd H1 l2 _=H2 at g2 e2
  have hsm':s<=20000/\e<=1000000:=hsm
  refine⟨_,_,SqL.of (g2 _ _ el),atI_nat (j:=1) rfl,l2, [],s,rfl,SqL.of e2,fun b hb=>(by cases hb),YO _,hsm'.1,fun p H3 hp g3 ep=>?_⟩
  refine⟨[],ep,by decide +kernel,?_⟩
  exact q2 _ _ _ (ask_some (S:=R.ps[i]'(by have:=hR.l4;have ex':R.he[i]? =some []:=ex;have:=(Yb.mp ex').1;omega)) (Yd _)) H3 o dw (hD.same (g2.trans g3)) (Mv.of (g2.trans g3))
-- def say_thing
variable (G_say_thing:FB P w K mg base (CXR P w) 12 "say_thing" a_say_thing d_say_thing ["desk","values"] (spSay K (fun r=>∃k n g ds,r= .thing k n g ds) a_Desk a_Rail CA ⟨a_NoPost,a_NoFrame,a_NoName,a_NoThing,a_NoRail⟩))
include m_NoFrame m_NoPost m_Rail m_NoName m_NoThing m_Desk m_NoRail m_len m_str fact_cls_Rail fact_cls_Desk fact_meth_Rail_hand fact_na_Desk_rail G_Rail_hand G_cut in
theorem ok_say_thing (F0:GFm K mg "say_thing" s_say_thing a_say_thing d_say_thing):type_of% G_say_thing:=by
  refine fbM ["desk","values","pieces","piece"] F0 fun Sc0=>F0.F.okR Sc0 (fun vs H Q E h=>?_) fun cdv A outer s H vs Q E hr h=>?_
  · obtain⟨d,R,wp,o,dw,l,xs,row,n,rfl,_⟩:=h
    rfl
  obtain⟨d,R,wp,o,dw,l,xs,row,n,rfl,hD,el,nol,hv,hrow,hsm,hz,n8,wp8,q1,q2⟩:=h
  have nd:=Sc0.nd
  refine⟨_,(pss_cons (ps_set (i:=2) nd rfl (Or.inl rfl) (pe_call G_cut.1 hr.mo rfl G_cut.2.2.2 G_cut.2.2.1 G_cut.2.1 .nil (passR fun _ _ _ z=>z) (pa_cons (pe_ix z_ixL (dv 1) pe_int (fun _ _=>rfl)) (pa_cons (pe_slice z_slL (dv 1) (md_part pe_int) po_none) pa_nil)))) (pss_cons (ps_for PassesOwn.leaving rfl (mi_list (dv 2)) (pg_name (i:=3) nd rfl (Or.inl rfl)) (pss_one (ps_expr (md_meth fact_cls_Rail fact_meth_Rail_hand G_Rail_hand.1 hr.mo G_Rail_hand.2 .nil (passR fun _ _ _ z=>z) (md_fld fact_cls_Desk fact_na_Desk_rail (dv 0)) (pa_cons (pe_ix z_ixL (dv 1) pe_int (fun _ _=>rfl)) (pa_cons (pe_ix z_ixL (dv 1) pe_int (fun _ _=>rfl)) (pa_cons (dv 3) pa_nil))))))) (pss_one (ps_ret (pe_op z_addS pe_str (pe_callTy z_strI rfl m_str bt_str (pa_cons (pe_callB z_len rfl m_len bt_len (pa_cons (dv 2) pa_nil)) pa_nil))))))),?_⟩
  obtain⟨k,nm,g,ds,rfl⟩:=hrow
  have hx:=vls_nums (ns:=k::nm::g::ds) hv
  subst hx
  have hsm':ds.length<=90:=hsm
  have ec:cutV ((itg (k::nm::g::ds)).map V.int) (some 3) none=(itg ds).map V.int:=(cutV_from (a:=3) (by simp)).trans rfl
  refine⟨_,_,SqL.of el,atI_nat (j:=2) rfl,_,SqL.of el,fun p hp=>?_⟩
  rw[ec]
  generalize eU:upd H p _=H1
  have g1:=nS hp eU
  have ep:=nE eU
  clear eU
  refine⟨((g:Nat):Int),p,itg ds,rfl,SqL.of ep,by rw[Ya];omega,fun tg pl qs H2 hpl hqs hnd hpq g2 epl lq hpc=>?_,fun no H' g'=>q1 .thing (ans_tg no) H' (g1.trans g')⟩
  have g12:=g1.trans g2
  have npl:¬ o pl:=fun z=>hD.al pl z (g1.none hpl)
  have nq:∀q∈qs,¬ o q:=fun q hq z=>hD.al q z (g1.none (hqs q hq))
  have hps:pieces ((g:Nat):Int) (itg ds)=(List.range (nP (itg ds))).map fun j=>pc ((g:Nat):Int) (nP (itg ds)) j (itg ds):=rfl
  have pl_:(pieces ((g:Nat):Int) (itg ds)).length=nP (itg ds):=by rw[hps,Ya,Xe]
  have n15:nP (itg ds)<=15:=by have:=tg.2.1;unfold nP;omega
  have n1:1<=nP (itg ds):=by unfold nP;omega
  refine⟨⟨_,SqL.of epl⟩,for_list (xs:=qs.map V.ref) (fun i σ H'=>(∃x,σ= [some (.ref d),some (.ref l),some (.ref pl),x])/\∃Ri oi wi,handL k nm ((pieces ((g:Nat):Int) (itg ds)).take i) R= .ok Ri/\DeskAt a_Desk a_Rail CA H' d (some Ri) wp oi wi/\Mv o H2 oi H'/\Z83 Ri (n+i)/\(0<i->Owns Ri k nm)/\(i=0->H'=H2/\Ri=R)) ⟨⟨_,rfl⟩,R,o,dw,rfl,hD.same g12,Mv.refl,hz,fun z=>absurd z (YH _),fun _=>⟨rfl,rfl⟩⟩ ?_ ?_ ?_⟩
  · rintro i σ H' hi ⟨_,Ri,oi,wi,_,_,m,_⟩
    exact SqL.of (m.1 _ _ epl (.inl npl))
  · rintro i v σ H' hv' ⟨⟨x,rfl⟩,Ri,oi,wi,eL,hDi,m,zi,own,zero⟩
    rw[Yk]at hv'
    obtain⟨q,hq,rfl⟩:=YR.mp hv'
    have hi:i<nP (itg ds):=by rw[<-lq];exact(Yb.mp hq).1
    have eq:=m.1 _ _ (hpc i q hq) (.inl (nq q (Yq hq)))
    have el':=m.1 _ _ (g12 _ _ el) (.inl nol)
    obtain⟨r,er,⟨wR,hR⟩,back⟩:=hDi.rail
    refine⟨wi.dx,_,wi.rv,hDi.ed,rfl,?_⟩
    rw[er]
    have pk:(pieces ((g:Nat):Int) (itg ds))[i]? =some (pc ((g:Nat):Int) (nP (itg ds)) i (itg ds)):=by rw[hps,Yk,List.getElem?_range hi];rfl
    have eT:(pieces ((g:Nat):Int) (itg ds)).take (i+1)=(pieces ((g:Nat):Int) (itg ds)).take i++[pc ((g:Nat):Int) (nP (itg ds)) i (itg ds)]:=by
      rw[List.take_succ,pk]
      rfl
    have pl7:=pc_len ((g:Nat):Int) (nP (itg ds)) i (itg ds)
    have pby:=pc_byt tg hi
    generalize pc ((g:Nat):Int) (nP (itg ds)) i (itg ds)=P0 at eq pk eT pl7 pby
    have eL':handL k nm ((pieces ((g:Nat):Int) (itg ds)).take (i+1)) R=handR Ri k nm P0:=by rw[eT];exact handL_snoc eL
    have bad:∀e,handR Ri k nm P0= .error e->∀H3,Same H' H3->E (.ref (Ex5.at ⟨a_NoPost,a_NoFrame,a_NoName,a_NoThing,a_NoRail⟩ e)) none H3:=fun e he H3 g3=>by
      have i0:i=0:=by
        rcases Nat.eq_zero_or_pos i with z | z
        · exact z
        · obtain⟨R',e'⟩:=(own z).hand pl7 pby
          cases e'.symm.trans he
      subst i0
      obtain⟨rfl,rfl⟩:=zero rfl
      refine q1 e ((ans_thing tg).1 e ?_) H3 (g12.trans g3)
      obtain⟨y,ys,ey⟩:∃y ys,pieces ((g:Nat):Int) (itg ds)=y::ys:=by
        cases ez:pieces ((g:Nat):Int) (itg ds) with
        |nil=>rw[ez]at pk;cases pk
        |cons y ys=>exact⟨y,ys,rfl⟩
      rw[ey]at pk ⊢
      cases pk
      exact handL_err he
    have z83:=zi.ow
    refine⟨⟨wR.dx,_,hR.er,rfl⟩,_,_,SqL.of el',atI_nat (j:=0) rfl,_,_,SqL.of el',atI_nat (j:=1) rfl,r,Ri,wi.orl,wR,((k:Nat):Int),((nm:Nat):Int),q,P0,rfl,hR,SqL.of eq,by omega,by omega,fun S hS=>by have:=(zi.ps S hS).2.2.2;omega,fun no H3 g3=>?_,fun yes no H3 g3=>?_,fun i' S ei eS ok=>?_⟩
    · exact bad .post (handR_post (none_of no)) H3 g3
    · obtain⟨S,eS⟩:∃S,Ri.ps[k]? =some S:=⟨_,Yd (by omega)⟩
      exact bad .frame (handR_frame eS no) H3 g3
    · have ek:i'=k:=by omega
      subst ek
      obtain⟨j,ej⟩:=zi.owner i' nm
      refine⟨j,ej,fun ne H3 g3=>bad .name (handR_name eS ok ej ne) H3 g3,fun e H3 o3 hR3 m3=>?_⟩
      subst e
      have eR:=handR_ok eS ok ej
      obtain⟨o4,hD4,m4⟩:=back H3 _ o3 hR3 m3
      exact⟨⟨_,rfl⟩,_,o4,_,eL'.trans eR,hD4,m.trans m4,zi.hand eR,fun _=>Owns.of eR,fun z=>by cases z⟩
  rintro σ H' ⟨⟨x,rfl⟩,Ri,oi,wi,eL,hDi,m,zi,own,zero⟩
  rw[Ya,lq,Yl (by rw[pl_];exact Yc _)]at eL
  refine⟨_,.inl (SqL.of (m.1 _ _ epl (.inl npl))),?_⟩
  rw[Ya,lq]
  refine⟨?_,?_,?_⟩
  · exact Y5 (XE _) (by show nP (itg ds)<1920;omega)
  · exact szl (Ye (YA (show ("ok ":Str).length<=3 by decide +kernel) (num_len (n:=nP (itg ds)) (by omega))) (by decide))
  exact q2 _ _ _ ((ans_thing tg).2 _ eL) H' oi wi hDi ((Mv.of g12).trans m)
-- def Desk_init
variable (G_Desk_init:MB P w K mg base (CX0) 1 a_Desk_init d_Desk_init ["self"] (spDkInit a_Desk))
include m_Desk fact_cls_Desk fact_na_Desk_rail fact_na_Desk_wrong in
theorem ok_Desk_init (F0:Fun K "__init__" "Desk.__init__" s_Desk_init a_Desk_init d_Desk_init):type_of% G_Desk_init:=by
  refine mbK ["self"] F0 fun H Q nd hr h=>?_
  obtain⟨d,dx,rfl,e,q⟩:=h
  refine⟨_,(pss_cons (md_set fact_cls_Desk fact_na_Desk_rail (dv 0) pe_non) (pss_one (md_set fact_cls_Desk fact_na_Desk_wrong (dv 0) (pe_lst pa_nil)))),?_⟩
  refine⟨dx,_,e,by decide,?_⟩
  refine⟨small_lit rfl,fun wl hwl=>?_⟩
  have nj:d≠wl:=fun z=>by rw[z,upd_same]at hwl;cases hwl
  refine⟨dx,_,(upd_ne nj).trans upd_same,(show 1<1000 by decide),?_⟩
  have hwl':H wl=none:=by rw[upd_ne (Ne.symm nj)]at hwl;exact hwl
  refine q _ wl hwl' upd_same (by rw[upd_ne (Ne.symm nj),upd_same]) fun x u hx ex=>?_
  rw[upd_ne hx,upd_ne (fun z=>by rw[z,hwl']at ex;cases ex),upd_ne hx]
  exact ex
-- def Desk_put_up
variable (G_Desk_put_up:MB P w K mg base (CXR P w) 11 a_Desk_put_up d_Desk_put_up ["self","values"] (spPutUp a_Desk a_Rail CA a_NoPost))
include m_NoPost m_Rail m_Desk fact_cls_Desk fact_mk_Rail fact_na_Desk_rail fact_na_Desk_wrong G_Rail_init in
theorem ok_Desk_put_up (F0:Fun K "put_up" "Desk.put_up" s_Desk_put_up a_Desk_put_up d_Desk_put_up):type_of% G_Desk_put_up:=by
  refine mbM ["self","values"] F0 fun Sc0=>F0.okR Sc0 (fun vs H Q E h=>?_) fun cdv A outer s H vs Q E hr h=>?_
  · obtain⟨d,st,wp,o,w,l,xs,v,cs,rfl,_⟩:=h
    rfl
  obtain⟨d,st,wp,o,dw,l,xs,v,cs,rfl,hD,el,hv,hcs,q1,q2⟩:=h
  have nd:=Sc0.nd
  refine⟨_,(pss_cons (md_set fact_cls_Desk fact_na_Desk_rail (dv 0) (pe_make fact_mk_Rail G_Rail_init.1 hr.mo rfl m_Rail G_Rail_init.2 .nil (passR fun _ _ _ z=>z) (pa_cons (pe_slice z_slL (dv 1) (md_part pe_int) po_none) (pa_cons (pe_ix z_ixL (dv 1) pe_int (fun _ _=>rfl)) pa_nil)))) (pss_cons (md_set fact_cls_Desk fact_na_Desk_wrong (dv 0) (pe_lst pa_nil)) (pss_one (ps_ret pe_str)))),?_⟩
  have hv':VlsAt H xs (.num v::cs.map fun c=> .cho c.1 c.2):=hv
  cases hv' with
  |num hv2=>
  rename_i xs
  obtain⟨ts,ets,tl,tt⟩:=vls_chs (cl:=l) hv2
  subst ets
  have ec:cutV (V.int ((v:Nat):Int)::ts.map V.ref) (some 1) none=ts.map V.ref:=(cutV_from (a:=1) (by simp)).trans rfl
  refine⟨_,SqL.of el,fun p hp=>?_⟩
  rw[ec]
  generalize eU:upd H p _=H1
  have g1:=nS hp eU
  have ep:=nE eU
  clear eU
  refine⟨_,_,SqL.of (g1 _ _ el),atI_nat (j:=0) rfl,fun y dx hy hdx hne=>?_⟩
  have gm:Same H1 (upd (upd H1 dx (.own y)) y (.ins a_Rail dx [])):=fun z u e=>by rw[upd_ne (ne_of_none e hy),upd_ne (ne_of_none e hdx)];exact e
  have ey:=upd_same (H:=upd H1 dx (.own y)) (a:=y) (o:= .ins a_Rail dx [])
  generalize upd (upd H1 dx (.own y)) y _=Hm at gm ey
  have g1m:=g1.trans gm
  refine⟨y,dx,p,((v:Nat):Int),chI cs,rfl,ey,⟨ts,gm _ _ ep,tl,fun i t m h1 h2=>g1m _ _ (tt i t m h1 h2)⟩,by rw[Ya];omega,fun ok H2 ol hR ho k2=>?_,fun no H2 k2=>q1 (fun z=>no (rl_ok.mpr z)) H2 fun x u e=>k2 x u (ne_of_none (g1 _ _ e) hy) (g1m _ _ e)⟩
  have keep:∀x u,H x=some u->H2 x=some u:=fun x u e=>k2 x u (ne_of_none (g1 _ _ e) hy) (g1m _ _ e)
  have ed2:=keep _ _ hD.ed
  refine⟨rfl,dw.dx,_,ed2,(show 2<1000 by decide),?_⟩
  have hy0:H y=none:=g1.none hy
  have fresh:∀x,ol x->H x=none:=fun x hx=>(ho x hx).elim (fun z=>z▸hy0) fun z=>g1m.none z
  have nd:¬ ol d:=fun z=>by have:=fresh d z;rw[hD.ed]at this;cases this
  refine⟨small_lit rfl,fun wl hwl=>?_⟩
  have hwd:wl≠d:=fun z=>by rw[z,upd_same]at hwl;cases hwl
  have hwl2:H2 wl=none:=by rw[upd_ne hwd]at hwl;exact hwl
  have hwl0:H wl=none:=by
    cases e:H wl with
    |none=>rfl
    |some u=>rw[keep _ _ e]at hwl2;cases hwl2
  refine⟨dw.dx,_,(upd_ne (Ne.symm hwd)).trans upd_same,(show 2<1000 by decide),?_⟩
  obtain⟨wR,hR⟩:=hR
  have nwl:¬ ol wl:=fun z=>hR.al wl z hwl2
  refine q2 (rl_ok.mp ok) _ (fun x=>ol x\/x=d\/x=wl) ⟨dw.dx,wl,.ref y, [],ol⟩ ⟨upd_same,by rw[upd_ne hwd,upd_same],.nil,⟨y,rfl,wR,hR.move fun x u e z=>?_⟩,fun x hx=>⟨fun z=>nd (z▸hx),fun z=>nwl ((show x=wl from z)▸hx)⟩,.inr (.inl rfl),.inr (.inr rfl),fun x hx=> .inl hx,fun x hx=>?_⟩ ⟨fun x u e z=>?_,fun x hx=>?_⟩
  · have xd:x≠d:=fun c=>by
      rcases z with z | ⟨_,rfl⟩
      · exact nd (c▸z)
      · rw[c,ed2]at e;cases e
    rw[upd_ne xd,upd_ne (ne_of_none e hwl2),upd_ne xd]
    exact e
  · rcases hx with hx | rfl | rfl
    · have xd:x≠d:=fun c=>nd (c▸hx)
      have xw:x≠wl:=fun c=>nwl (c▸hx)
      rw[upd_ne xd,upd_ne xw,upd_ne xd]
      exact hR.al x hx
    · rw[upd_same];simp
    · rw[upd_ne hwd,upd_same];simp
  · have xd:x≠d:=fun c=>by
      rcases z with z | ⟨_,rfl⟩
      · exact z (c▸hD.od)
      · rw[c,hD.ed]at e;cases e
    rw[upd_ne xd,upd_ne (ne_of_none e hwl0),upd_ne xd]
    exact keep _ _ e
  · rcases hx with hx | rfl | rfl
    · exact .inr (fresh x hx)
    · exact .inl hD.od
    · exact .inr hwl0
-- def Desk_say
variable (G_Desk_say:MB P w K mg base (CXR P w) 13 a_Desk_say d_Desk_say ["self","row"] (spAsk8 K a_Desk a_Rail CA ⟨a_NoPost,a_NoFrame,a_NoName,a_NoThing,a_NoRail⟩))
include m_NoFrame m_NoPost m_Rail m_NoName m_NoThing m_FORMS m_Desk m_NoRail m_ANSWERS fact_cls_Desk fact_meth_Desk_put_up fact_answers fact_na_Desk_rail fact_exc_NoRail G_read_row G_say_hand G_say_got G_say_waits G_say_faults G_say_stance G_say_wrong G_say_things G_say_draw G_say_thing G_Desk_put_up in
theorem ok_Desk_say (F0:Fun K "say" "Desk.say" s_Desk_say a_Desk_say d_Desk_say):type_of% G_Desk_say:=by
  refine mbM ["self","row","words","values","answer"] F0 fun Sc0=>F0.okR Sc0 (fun vs H Q E h=>?_) fun cdv A outer s H vs Q E hr h=>?_
  · obtain⟨d,st,wp,o,w,row,n,rfl,_⟩:=h
    rfl
  obtain⟨d,st,wp,o,dw,row,nb,rfl,hD,hsm,hrow,hln,hbl,hz,n8,wp8,q1,q2⟩:=h
  have nd:=Sc0.nd
  refine⟨_,(pss_cons (ps_set (i:=2) nd rfl (Or.inl rfl) (md_split (dv 1) (pa_cons pe_str pa_nil))) (pss_cons (ps_set (i:=3) nd rfl (Or.inl rfl) (pe_call G_read_row.1 hr.mo rfl G_read_row.2.2.2 G_read_row.2.2.1 G_read_row.2.1 .nil pass0 (pa_cons (dv 2) pa_nil))) (pss_cons (ps_if (md_cmp z_eq (pe_ix z_ixL (dv 2) pe_int (fun _ _=>rfl)) pe_str (nomark _)) (pss_one (ps_ret (md_meth fact_cls_Desk fact_meth_Desk_put_up G_Desk_put_up.1 hr.mo G_Desk_put_up.2 .nil (passR fun _ _ _ z=>z) (dv 0) (pa_cons (dv 3) pa_nil)))) pss_nil) (pss_cons (ps_if (md_cmp z_isN (md_fld fact_cls_Desk fact_na_Desk_rail (dv 0)) pe_non (nomark _)) (pss_one (ps_raise YK m_NoRail fact_exc_NoRail (pa_cons pe_str pa_nil))) pss_nil) (pss_cons (ps_set (i:=4) nd rfl (Or.inl rfl) (pe_cget fact_answers (pe_glob (v:= .ref a_ANSWERS) rfl m_ANSWERS rfl) (pe_ix z_ixL (dv 2) pe_int (fun _ _=>rfl)) (fun _ _=>rfl))) (pss_one (ps_ret (pe_callG (RunsG.or (RunsG.one (n:=12) G_say_hand.1 G_say_hand.2.1 (by decide)) (RunsG.or (RunsG.one (n:=12) G_say_thing.1 G_say_thing.2.1 (by decide)) (RunsG.or (RunsG.one (n:=12) G_say_wrong.1 G_say_wrong.2.1 (by decide)) (RunsG.or (RunsG.one (n:=12) G_say_draw.1 G_say_draw.2.1 (by decide)) (RunsG.or (RunsG.one (n:=12) G_say_got.1 G_say_got.2.1 (by decide)) (RunsG.or (RunsG.one (n:=12) G_say_waits.1 G_say_waits.2.1 (by decide)) (RunsG.or (RunsG.one (n:=12) G_say_things.1 G_say_things.2.1 (by decide)) (RunsG.or (RunsG.one (n:=12) G_say_stance.1 G_say_stance.2.1 (by decide)) (RunsG.one (n:=12) G_say_faults.1 G_say_faults.2.1 (by decide)))))))))) hr.mo (passR fun _ _ _ z=>z) (pv 4) (pa_cons (dv 0) (pa_cons (dv 3) pa_nil)))))))))),?_⟩
  have e32:(" ":Str)=sepC 32:=by decide +kernel
  have hsp:Txt.split (Txt.join " " row.words) " "=row.words:=by
    rw[e32]
    exact split_join (by unfold Row8.words;simp) hbl
  have spl:(Txt.split (Txt.join " " row.words) " ").length<=(Txt.join " " row.words).length+1:=by rw[e32];exact split_len _ _
  have spm:∀x∈Txt.split (Txt.join " " row.words) " ",x.length<=(Txt.join " " row.words).length:=by rw[e32];exact fun x hx=>split_mem hx
  generalize Txt.join " " row.words=tx at hln hsp spl spm
  refine⟨by decide +kernel,szl (by omega),szl (by omega),fun p hp=>?_⟩
  rw[hsp]at spl spm ⊢
  generalize eU:upd H p _=H1
  have g1:=nS hp eU
  have ep:=nE eU
  clear eU
  refine⟨p,row.words,row.vals,rfl,SqL.of ep,by omega,fun x hx=>Ye (spm x hx) (by omega),hrow,fun l xs H2 hl g2 el hv=>?_⟩
  have g12:=g1.trans g2
  have hD2:=hD.same g12
  have nol:¬ o l:=fun z=>hD.al l z (g1.none hl)
  have h0:atI (row.words.map V.str) 0=some (.str row.key):=atI_nat (j:=0) rfl
  refine⟨_,_,SqL.of (g2 _ _ ep),h0,?_⟩
  have sayN:∀(R:RS),st=some R->∀(fa:Addr)(pr:Row8->Prop)(Q':VK),pr row->(∀x H',Q x H'->Q' x H')->(∀s,deskP st wp row=ansP R wp row)->spSay K pr a_Desk a_Rail CA ⟨a_NoPost,a_NoFrame,a_NoName,a_NoThing,a_NoRail⟩ [.ref d,.ref l] H2 Q E:=fun R hs fa pr Q' hp _ hq=>by
    subst hs
    refine⟨d,R,wp,o,dw,l,xs,row,nb,rfl,hD2,el,nol,hv,hp,hsm,hz R rfl,n8,wp8,fun e he H' g=>q1 e ((hq "").trans he) H' (g12.trans g),fun s st' wp' he H' o' w' hD' m=>q2 s st' wp' ((hq "").trans he) H' o' w' hD' ((Mv.of g12).trans m)⟩
  cases row with
  | rail v cs=>
    refine⟨⟨dw.dx,_,hD2.ed,rfl⟩,d,st,wp,o,dw,l,xs,v,cs,rfl,hD2,el,hv,hsm,fun no H' g=>q1 .post ?_ H' (g12.trans g),fun ok H' o' w' hD' m=>q2 _ _ _ ?_ H' o' w' hD' ((Mv.of g12).trans m)⟩
    · cases st <;> exact if_neg no
    · cases st <;> exact if_pos ok
  | hand k n ds=>
    refine⟨dw.dx,_,dw.rv,hD2.ed,rfl,?_⟩
    cases st with
    | none=>
      have er:dw.rv= .non:=hD2.rl
      rw[er]
      exact⟨small_lit rfl,q1 .rail rfl _ g12⟩
    | some R=>
      obtain⟨r,er,_⟩:=hD2.rl
      rw[er]
      exact⟨_,_,SqL.of (g2 _ _ ep),h0,.inr "hand",_,rfl,rfl,rfl,a_say_hand,rfl,G_say_hand.2.2.1,.inl ⟨rfl,sayN R rfl a_say_hand _ Q ⟨_,_,_,rfl⟩ (fun _ _ z=>z) fun _=>rfl⟩⟩
  | thing k n g ds=>
    refine⟨dw.dx,_,dw.rv,hD2.ed,rfl,?_⟩
    cases st with
    | none=>
      have er:dw.rv= .non:=hD2.rl
      rw[er]
      exact⟨small_lit rfl,q1 .rail rfl _ g12⟩
    | some R=>
      obtain⟨r,er,_⟩:=hD2.rl
      rw[er]
      exact⟨_,_,SqL.of (g2 _ _ ep),h0,.inr "thing",_,rfl,rfl,rfl,a_say_thing,rfl,G_say_thing.2.2.1,.inr (.inl ⟨rfl,sayN R rfl a_say_thing _ Q ⟨_,_,_,_,rfl⟩ (fun _ _ z=>z) fun _=>rfl⟩)⟩
  | wrong k t=>
    refine⟨dw.dx,_,dw.rv,hD2.ed,rfl,?_⟩
    cases st with
    | none=>
      have er:dw.rv= .non:=hD2.rl
      rw[er]
      exact⟨small_lit rfl,q1 .rail rfl _ g12⟩
    | some R=>
      obtain⟨r,er,_⟩:=hD2.rl
      rw[er]
      exact⟨_,_,SqL.of (g2 _ _ ep),h0,.inr "wrong",_,rfl,rfl,rfl,a_say_wrong,rfl,G_say_wrong.2.2.1,.inr (.inr (.inl ⟨rfl,sayN R rfl a_say_wrong _ Q ⟨_,_,rfl⟩ (fun _ _ z=>z) fun _=>rfl⟩))⟩
  | draw k s e=>
    refine⟨dw.dx,_,dw.rv,hD2.ed,rfl,?_⟩
    cases st with
    | none=>
      have er:dw.rv= .non:=hD2.rl
      rw[er]
      exact⟨small_lit rfl,q1 .rail rfl _ g12⟩
    | some R=>
      obtain⟨r,er,_⟩:=hD2.rl
      rw[er]
      exact⟨_,_,SqL.of (g2 _ _ ep),h0,.inr "draw",_,rfl,rfl,rfl,a_say_draw,rfl,G_say_draw.2.2.1,.inr (.inr (.inr (.inl ⟨rfl,sayN R rfl a_say_draw _ Q ⟨_,_,_,rfl⟩ (fun _ _ z=>z) fun _=>rfl⟩)))⟩
  | got k=>
    refine⟨dw.dx,_,dw.rv,hD2.ed,rfl,?_⟩
    cases st with
    | none=>
      have er:dw.rv= .non:=hD2.rl
      rw[er]
      exact⟨small_lit rfl,q1 .rail rfl _ g12⟩
    | some R=>
      obtain⟨r,er,_⟩:=hD2.rl
      rw[er]
      exact⟨_,_,SqL.of (g2 _ _ ep),h0,.inr "got",_,rfl,rfl,rfl,a_say_got,rfl,G_say_got.2.2.1,.inr (.inr (.inr (.inr (.inl ⟨rfl,sayN R rfl a_say_got _ Q ⟨_,rfl⟩ (fun _ _ z=>z) fun _=>rfl⟩))))⟩
  | waits k=>
    refine⟨dw.dx,_,dw.rv,hD2.ed,rfl,?_⟩
    cases st with
    | none=>
      have er:dw.rv= .non:=hD2.rl
      rw[er]
      exact⟨small_lit rfl,q1 .rail rfl _ g12⟩
    | some R=>
      obtain⟨r,er,_⟩:=hD2.rl
      rw[er]
      exact⟨_,_,SqL.of (g2 _ _ ep),h0,.inr "waits",_,rfl,rfl,rfl,a_say_waits,rfl,G_say_waits.2.2.1,.inr (.inr (.inr (.inr (.inr (.inl ⟨rfl,sayN R rfl a_say_waits _ Q ⟨_,rfl⟩ (fun _ _ z=>z) fun _=>rfl⟩)))))⟩
  | things k n=>
    refine⟨dw.dx,_,dw.rv,hD2.ed,rfl,?_⟩
    cases st with
    | none=>
      have er:dw.rv= .non:=hD2.rl
      rw[er]
      exact⟨small_lit rfl,q1 .rail rfl _ g12⟩
    | some R=>
      obtain⟨r,er,_⟩:=hD2.rl
      rw[er]
      exact⟨_,_,SqL.of (g2 _ _ ep),h0,.inr "things",_,rfl,rfl,rfl,a_say_things,rfl,G_say_things.2.2.1,.inr (.inr (.inr (.inr (.inr (.inr (.inl ⟨rfl,sayN R rfl a_say_things _ Q ⟨_,_,rfl⟩ (fun _ _ z=>z) fun _=>rfl⟩))))))⟩
  | stance k=>
    refine⟨dw.dx,_,dw.rv,hD2.ed,rfl,?_⟩
    cases st with
    | none=>
      have er:dw.rv= .non:=hD2.rl
      rw[er]
      exact⟨small_lit rfl,q1 .rail rfl _ g12⟩
    | some R=>
      obtain⟨r,er,_⟩:=hD2.rl
      rw[er]
      exact⟨_,_,SqL.of (g2 _ _ ep),h0,.inr "stance",_,rfl,rfl,rfl,a_say_stance,rfl,G_say_stance.2.2.1,.inr (.inr (.inr (.inr (.inr (.inr (.inr (.inl ⟨rfl,sayN R rfl a_say_stance _ Q ⟨_,rfl⟩ (fun _ _ z=>z) fun _=>rfl⟩)))))))⟩
  | faults k=>
    refine⟨dw.dx,_,dw.rv,hD2.ed,rfl,?_⟩
    cases st with
    | none=>
      have er:dw.rv= .non:=hD2.rl
      rw[er]
      exact⟨small_lit rfl,q1 .rail rfl _ g12⟩
    | some R=>
      obtain⟨r,er,_⟩:=hD2.rl
      rw[er]
      exact⟨_,_,SqL.of (g2 _ _ ep),h0,.inr "faults",_,rfl,rfl,rfl,a_say_faults,rfl,G_say_faults.2.2.1,.inr (.inr (.inr (.inr (.inr (.inr (.inr (.inr (⟨rfl,sayN R rfl a_say_faults _ Q ⟨_,rfl⟩ (fun _ _ z=>z) fun _=>rfl⟩))))))))⟩
-- def _law_mix
variable (G__law_mix:FB P w K mg base (CX0) 1 "_law_mix" a__law_mix d__law_mix ["_law_cell","_law_k","_law_many"] (spMix))
theorem ok__law_mix (F0:GFm K mg "_law_mix" s__law_mix a__law_mix d__law_mix):type_of% G__law_mix:=by
  refine fbK ["_law_cell","_law_k","_law_many","_law_seed"] F0 fun H Q nd hr h=>?_
  obtain⟨v,k,m,rfl,k0,k1,m0,q⟩:=h
  refine⟨_,(pss_cons (ps_set (i:=3) nd rfl (Or.inl rfl) (pe_op z_add (pe_op z_add (pe_op z_mod (dv 0) pe_int) (pe_op z_mul (pe_op z_mul pe_int (dv 1)) (dv 1))) pe_int)) (pss_one (ps_ret (pe_op z_mod (pe_op z_mod (pe_op z_mul (pe_op z_mod (pe_op z_mul (dv 3) pe_int) pe_int) pe_int) pe_int) (dv 2))))),?_⟩
  have k2:31*k*k<=31*100000*100000:=Int.mul_le_mul (by omega) k1 k0 (by decide)
  have k3:0<=31*k*k:=Int.mul_nonneg (by omega) k0
  refine⟨(by show (0:Int)<_;decide),⟨big64 (by decide) (by decide),big64 (by omega) (by omega)⟩,⟨big64 (by omega) (by omega),big64 (by omega) (by omega)⟩,?_⟩
  have s0:0<=v % 1000003:=Int.emod_nonneg _ (by decide)
  have s1:v % 1000003<1000003:=Int.emod_lt_of_pos _ (by decide)
  refine⟨⟨big64 (by omega) (by omega),big64 (by decide) (by decide)⟩,(by show (0:Int)<_;decide),?_⟩
  have t0:0<=(v % 1000003+31*k*k+1)*48271 % 999983:=Int.emod_nonneg _ (by decide)
  have t1:(v % 1000003+31*k*k+1)*48271 % 999983<999983:=Int.emod_lt_of_pos _ (by decide)
  refine⟨⟨big64 (by omega) (by omega),big64 (by decide) (by decide)⟩,(by show (0:Int)<_;decide),m0,?_⟩
  have r0:=Int.emod_nonneg ((v % 1000003+31*k*k+1)*48271 % 999983*7919 % 524287) (b:=m) (by omega)
  have r1:=Int.emod_lt_of_pos ((v % 1000003+31*k*k+1)*48271 % 999983*7919 % 524287) m0
  obtain⟨n,en⟩:=Int.eq_ofNat_of_zero_le r0
  rw[en]at r1
  have qn:=q n r1
  rw[<-en]at qn
  exact qn
-- def _law_byte
variable (G__law_byte:FB P w K mg base (CX0) 2 "_law_byte" a__law_byte d__law_byte ["_law_cell","_law_k"] (spByte8))
include G__law_mix in
theorem ok__law_byte (F0:GFm K mg "_law_byte" s__law_byte a__law_byte d__law_byte):type_of% G__law_byte:=by
  refine fbK ["_law_cell","_law_k"] F0 fun H Q nd hr h=>?_
  obtain⟨v,k,rfl,k0,k1,q⟩:=h
  refine⟨_,(pss_cons (ps_if (md_cmp z_eq (pe_call G__law_mix.1 hr.mo rfl G__law_mix.2.2.2 G__law_mix.2.2.1 G__law_mix.2.1 .nil pass0 (pa_cons (dv 0) (pa_cons (dv 1) (pa_cons pe_int pa_nil)))) pe_int (nomark _)) (pss_one (ps_ret (pe_op z_add pe_int (pe_call G__law_mix.1 hr.mo rfl G__law_mix.2.2.2 G__law_mix.2.2.1 G__law_mix.2.1 .nil pass0 (pa_cons (dv 0) (pa_cons (pe_op z_add (dv 1) pe_int) (pa_cons pe_int pa_nil))))))) pss_nil) (pss_one (ps_ret (pe_call G__law_mix.1 hr.mo rfl G__law_mix.2.2.2 G__law_mix.2.2.1 G__law_mix.2.1 .nil pass0 (pa_cons (dv 0) (pa_cons (pe_op z_add (dv 1) pe_int) (pa_cons pe_int pa_nil))))))),?_⟩
  refine⟨v,k,40,rfl,k0,by omega,by decide,fun r hr=>?_⟩
  conv=>whnf
  refine ite2 (fun c=>?_) (fun c=>?_)
  · refine⟨v,k+1,500000,rfl,by omega,by omega,by decide,fun s hs=>?_⟩
    have:=q (256+s) (by omega)
    rw[show ((256+s:Nat):Int)=(256:Int)+((s:Nat):Int) from by omega]at this
    exact this
  · exact⟨v,k+1,256,rfl,by omega,by omega,by decide,fun s hs=>q s (by omega)⟩
-- def _law_rail
variable (G__law_rail:FB P w K mg base (CX0) 2 "_law_rail" a__law_rail d__law_rail ["_law_cell"] (spRail8))
include m_range G__law_mix in
theorem ok__law_rail (F0:GFm K mg "_law_rail" s__law_rail a__law_rail d__law_rail):type_of% G__law_rail:=by
  refine fbK ["_law_cell","_law_votes","_law_choices","_law_k","_law_mask"] F0 fun H Q nd hr h=>?_
  obtain⟨v,rfl,q⟩:=h
  obtain⟨ks,p1,p2,p3,p4,hb,hk⟩:∃(ks:List (Int×Nat×Pos))(p1 p2 p3 p4:Pos),defBody s__law_rail= [.Assign [.Name "_law_votes" p1] (.Subscript (.List (ks.map mkC) p2) (slB (stB s__law_rail 0)) p4) p3,stB s__law_rail 1,stB s__law_rail 2,stB s__law_rail 3]/\ks.map (fun k=>V.int k.1)=(itg vtL).map V.int:=⟨[(1,_,_),(3,_,_),(5,_,_),(1,_,_),(3,_,_),(5,_,_),(1,_,_),(3,_,_),(5,_,_),(0,_,_),(2,_,_),(4,_,_),(6,_,_),(7,_,_)],_,_,_,_,rfl,rfl⟩
  rw[hb]
  refine⟨_,(pss_cons (ps_set (i:=1) nd rfl (Or.inl rfl) (pe_ix z_ixL (pe_lst (pa_ints ks)) (pe_call G__law_mix.1 hr.mo rfl G__law_mix.2.2.2 G__law_mix.2.2.1 G__law_mix.2.1 .nil pass0 (pa_cons (dv 0) (pa_cons pe_int (pa_cons pe_int pa_nil)))) (fun _ _=>rfl))) (pss_cons (ps_set (i:=2) nd rfl (Or.inl rfl) (pe_lst pa_nil)) (pss_cons (ps_for Xg rfl (mi_range1 rfl m_range (pa_cons (pe_op z_add pe_int (pe_call G__law_mix.1 hr.mo rfl G__law_mix.2.2.2 G__law_mix.2.2.1 G__law_mix.2.1 .nil pass0 (pa_cons (dv 0) (pa_cons pe_int (pa_cons pe_int pa_nil))))) pa_nil)) (pg_name (i:=3) nd rfl (Or.inl rfl)) (pss_cons (ps_set (i:=4) nd rfl (Or.inl rfl) (pe_call G__law_mix.1 hr.mo rfl G__law_mix.2.2.2 G__law_mix.2.2.1 G__law_mix.2.1 .nil pass0 (pa_cons (dv 0) (pa_cons (pe_op z_add pe_int (pe_op z_mul pe_int (dv 3))) (pa_cons pe_int pa_nil))))) (pss_cons (ps_cut (ps_if (md_cmp z_gt (pe_call G__law_mix.1 hr.mo rfl G__law_mix.2.2.2 G__law_mix.2.2.1 G__law_mix.2.1 .nil pass0 (pa_cons (dv 0) (pa_cons pe_int (pa_cons pe_int pa_nil)))) pe_int (nomark _)) (pss_one (ps_set (i:=4) nd rfl (Or.inl rfl) (pe_op z_mod (dv 4) pe_int))) pss_nil)) (pss_one (ps_expr (md_append (dv 2) (pa_cons (pe_tup (pa_cons (dv 4) (pa_cons (pe_call G__law_mix.1 hr.mo rfl G__law_mix.2.2.2 G__law_mix.2.2.1 G__law_mix.2.1 .nil pass0 (pa_cons (dv 0) (pa_cons (pe_op z_add pe_int (pe_op z_mul pe_int (dv 3))) (pa_cons pe_int pa_nil)))) pa_nil))) pa_nil))))))) (pss_one (ps_ret (pe_tup (pa_cons (dv 1) (pa_cons (dv 2) pa_nil)))))))),?_⟩
  have hkl:(ks.map fun k=>V.int k.1).length<=sizeLine:=by rw[hk];exact small_lit rfl
  refine⟨hkl,fun l0 hl0=>⟨v,2,14,rfl,by decide,by decide,by decide,fun r hr=>?_⟩⟩
  rw[hk]
  obtain⟨vt,ev,hv7⟩:∃vt:Nat,vtL[r]? =some vt/\vt<=7:=by
    have h7:∀x∈vtL,x<=7:=by decide
    have hr':r<vtL.length:=by show r<14;omega
    exact⟨_,Yd hr',h7 _ (YU hr')⟩
  generalize eU:upd H l0 _=H0
  have g0:=nS hl0 eU
  have e0:=nE eU
  clear eU
  refine⟨_,.int ((vt:Nat):Int),SqL.of e0,atI_nat (j:=r) (by rw[Yk,Yk,ev];rfl),small_lit rfl,fun cl hcl=>?_⟩
  have g1:=g0.trans (same_new hcl (.lst []))
  have e1:=upd_same (H:=H0) (a:=cl) (o:= .lst [])
  have hcl0:H cl=none:=g0.none hcl
  generalize upd H0 cl _=H1 at g1 e1
  clear g0 e0 hcl
  refine⟨v,3,6,rfl,by decide,by decide,by decide,fun m hm=>?_⟩
  have em:((1:Int)+((m:Nat):Int)).toNat=m+1:=by omega
  refine⟨⟨by omega,by omega⟩,?_⟩
  rw[em]
  refine for_range (lo:=0) (n:=m+1) (fun i σ H'=>(∃x1 x2,σ= [some (.int v),some (.int ((vt:Nat):Int)),some (.ref cl),x1,x2])/\Same H H'/\∃xs cs,H' cl=some (.lst xs)/\VlsAt H' xs (cs.map fun c:Nat×Nat=>Vl.cho c.1 c.2)/\cs.length=i/\∀c∈cs,c.1<=260/\c.2<256) ⟨⟨_,_,rfl⟩,g1, [], [],e1,.nil,rfl,fun c hc=>(by cases hc)⟩ ?_ ?_
  · rintro i σ H' hi ⟨⟨x1,x2,rfl⟩,g,xs,cs,ec,hv,lc,hc⟩
    refine⟨⟨big64 (by decide) (by decide),big64 (by omega) (by omega)⟩,v,10+2*(0+((i:Nat):Int)),261,rfl,by omega,by omega,by decide,fun a ha=>?_⟩
    refine⟨fun σ H2=>(∃n:Nat,n<=260/\σ= [some (.int v),some (.int ((vt:Nat):Int)),some (.ref cl),some (.int (0+((i:Nat):Int))),some (.int ((n:Nat):Int))])/\H2=H',?_,?_⟩
    · refine⟨v,4,4,rfl,by decide,by decide,by decide,fun b hb=>?_⟩
      conv=>whnf
      refine ite2 (fun c=>?_) (fun c=>⟨⟨a,by omega,rfl⟩,rfl⟩)
      refine⟨(by show (0:Int)<_;decide),⟨a % 256,by omega,?_⟩,rfl⟩
      rfl
    rintro σ H2 ⟨⟨n,hn,rfl⟩,rfl⟩
    refine⟨⟨_,SqL.of ec⟩,⟨big64 (by decide) (by decide),big64 (by omega) (by omega)⟩,v,11+2*(0+((i:Nat):Int)),256,rfl,by omega,by omega,by decide,fun b hb=>⟨small_lit rfl,fun t ht=>?_⟩⟩
    generalize eU:upd H2 t _=H3
    have g2:=nS ht eU
    have et:=nE eU
    clear eU
    have ec3:=g2 _ _ ec
    have hxl:=hv.len
    rw[Ya]at hxl
    refine⟨_,ec3,small1 (by omega),⟨_,_,rfl⟩,(g.trans g2).put hcl0,xs++[.ref t],cs++[(n,b)],upd_same,?_,by rw[Yj,lc];rfl,fun c hcm=>?_⟩
    · rw[Yi]
      refine((VlsAt.cho et .nil).append (hv.imp fun x y e=>g2 _ _ e)).imp fun x y e=>?_
      rw[upd_ne fun z=>by rw[z,ec3]at e;cases e]
      exact e
    · rcases YG.mp hcm with z | z
      · exact hc c z
      · rw[Yg.mp z];exact⟨hn,by show b<256;omega⟩
  rintro σ H' ⟨⟨x1,x2,rfl⟩,g,xs,cs,ec,hv,lc,hc⟩
  refine⟨small_lit rfl,fun t ht=>?_⟩
  have g2:=same_new ht (.tup [.int ((vt:Nat):Int),.ref cl])
  exact q t cl xs vt cs _ (g.none ht) upd_same (g2 _ _ ec) (hv.imp fun x y e=>g2 _ _ e) hv7 ⟨by omega,by omega⟩ hc (g.trans g2) hcl0
-- def _law_name
variable (G__law_name:FB P w K mg base (CX0) 2 "_law_name" a__law_name d__law_name ["_law_cell","_law_names"] (spName8 K))
include G__law_mix in
theorem ok__law_name (F0:GFm K mg "_law_name" s__law_name a__law_name d__law_name):type_of% G__law_name:=by
  refine fbK ["_law_cell","_law_names"] F0 fun H Q nd hr h=>?_
  obtain⟨v,nl,ns,rfl,en,ln,hn,q⟩:=h
  refine⟨_,(pss_cons (ps_if (md_cmp z_eq (pe_call G__law_mix.1 hr.mo rfl G__law_mix.2.2.2 G__law_mix.2.2.1 G__law_mix.2.1 .nil pass0 (pa_cons (dv 0) (pa_cons pe_int (pa_cons pe_int pa_nil)))) pe_int (nomark _)) (pss_one (ps_ret (pe_call G__law_mix.1 hr.mo rfl G__law_mix.2.2.2 G__law_mix.2.2.1 G__law_mix.2.1 .nil pass0 (pa_cons (dv 0) (pa_cons pe_int (pa_cons pe_int pa_nil)))))) pss_nil) (pss_one (ps_ret (pe_ix z_ixL (dv 1) (pe_call G__law_mix.1 hr.mo rfl G__law_mix.2.2.2 G__law_mix.2.2.1 G__law_mix.2.1 .nil pass0 (pa_cons (dv 0) (pa_cons pe_int (pa_cons pe_int pa_nil)))) (fun _ _=>rfl))))),?_⟩
  refine⟨v,6,6,rfl,by decide,by decide,by decide,fun r hr=>?_⟩
  conv=>whnf
  refine ite2 (fun c=>?_) (fun c=>?_)
  · exact⟨v,7,301,rfl,by decide,by decide,by decide,fun s hs=>q s (by omega)⟩
  · refine⟨v,7,4,rfl,by decide,by decide,by decide,fun s hs=>?_⟩
    have hsl:s<ns.length:=by omega
    exact⟨_,_,SqL.of en,atI_nat (j:=s) (by rw[Yk,Yk,Yd hsl];rfl),q _ (Xz (XM (hn _ (YU hsl)) (by decide)))⟩
-- def _law_data
variable (G__law_data:FB P w K mg base (CX0) 3 "_law_data" a__law_data d__law_data ["_law_cell","_law_is_thing"] (spData8))
include m_range G__law_mix G__law_byte in
theorem ok__law_data (F0:GFm K mg "_law_data" s__law_data a__law_data d__law_data):type_of% G__law_data:=by
  refine fbK ["_law_cell","_law_is_thing","_law_size"] F0 fun H Q nd hr h=>?_
  obtain⟨v,b,rfl,q⟩:=h
  refine⟨_,(pss_cons (ps_set (i:=2) nd rfl (Or.inl rfl) (pe_call G__law_mix.1 hr.mo rfl G__law_mix.2.2.2 G__law_mix.2.2.1 G__law_mix.2.1 .nil pass0 (pa_cons (dv 0) (pa_cons pe_int (pa_cons pe_int pa_nil))))) (pss_cons (ps_cut (ps_if (PW.pt (pw_and (md_val (dv 1)) (pw_and1 (md_cmp z_eq (pe_call G__law_mix.1 hr.mo rfl G__law_mix.2.2.2 G__law_mix.2.2.1 G__law_mix.2.1 .nil pass0 (pa_cons (dv 0) (pa_cons pe_int (pa_cons pe_int pa_nil)))) pe_int (nomark _))))) (pss_one (ps_set (i:=2) nd rfl (Or.inl rfl) (pe_call G__law_mix.1 hr.mo rfl G__law_mix.2.2.2 G__law_mix.2.2.1 G__law_mix.2.1 .nil pass0 (pa_cons (dv 0) (pa_cons pe_int (pa_cons pe_int pa_nil)))))) pss_nil)) (pss_one (ps_ret (pe_comp rfl (ix:=[0]) (mi_range1 rfl m_range (pa_cons (dv 2) pa_nil)) (fun C fp s0 H0 at0=>pts_nil) (fun C fp s0 H0 at0=>(pe_call G__law_byte.1 hr.mo rfl G__law_byte.2.2.2 G__law_byte.2.2.1 G__law_byte.2.1 .nil pass0 (pa_cons (dv 1) (pa_cons (pe_op z_add pe_int (pe_op z_mul pe_int (dv 0))) pa_nil)))) rfl rfl (by rfl) (show ([".0","_law_k","_law_cell"]:List Str).Nodup by decide +kernel)))))),?_⟩
  refine⟨v,8,10,rfl,by decide,by decide,by decide,fun r hr=>?_⟩
  refine⟨fun σ H'=>(∃n:Nat,n<=80/\σ= [some (.int v),some (.bl b),some (.int ((n:Nat):Int))])/\H'=H,?_,?_⟩
  · cases b with
    |false=>exact⟨⟨r,by omega,rfl⟩,rfl⟩
    | true=>
      refine⟨v,9,6,rfl,by decide,by decide,by decide,fun s hs=>?_⟩
      conv=>whnf
      refine ite2 (fun c=>?_) (fun c=>⟨⟨r,by omega,rfl⟩,rfl⟩)
      exact⟨v,8,81,rfl,by decide,by decide,by decide,fun t ht=>⟨⟨t,by omega,rfl⟩,rfl⟩⟩
  rintro σ H' ⟨⟨n,hn,rfl⟩,rfl⟩
  have em:((n:Nat):Int).toNat=n:=Xl n
  refine⟨⟨by omega,by omega⟩,comp_range (fun i ys H2=>(∃ds:List Nat,ds.length=i/\(∀d∈ds,d<10 ^ 6)/\ys=(itg ds).map V.int)/\H2=H') ?_ ⟨⟨[],rfl,fun _ h=>(by cases h),rfl⟩,rfl⟩ ?_ ?_⟩
  · rintro i ys H2 hi ⟨⟨ds,hdl,_,rfl⟩,_⟩
    refine small1 ?_
    rw[Ya,Ya]
    omega
  · rintro i ys H2 hi ⟨⟨ds,hdl,hd,rfl⟩,rfl⟩
    rw[em]at hi
    refine⟨⟨big64 (by decide) (by decide),big64 (by omega) (by omega)⟩,v,_,rfl,by omega,by omega,fun d hdd=>⟨⟨ds++[d],by rw[Yj,hdl];rfl,fun x hx=>?_,by simp[itg]⟩,rfl⟩⟩
    rcases YG.mp hx with hx | hx
    · exact hd x hx
    · rw[Yg.mp hx];exact hdd
  rintro ys H2 ⟨⟨ds,hdl,hd,rfl⟩,rfl⟩ p hp
  rw[em]at hdl
  exact q p ds _ hp (same_new hp _) upd_same (by omega) hd
-- def _law_is_good
variable (G__law_is_good:FB P w K mg base (CX0) 1 "_law_is_good" a__law_is_good d__law_is_good ["_law_some"] (spGood8 K))
theorem ok__law_is_good (F0:GFm K mg "_law_is_good" s__law_is_good a__law_is_good d__law_is_good):type_of% G__law_is_good:=by
  refine fbK ["_law_some","_law_byte_here"] F0 fun H Q nd hr h=>?_
  obtain⟨a,ds,rfl,hS,q⟩:=h
  refine⟨_,(pss_cons (ps_for Xg rfl (mi_list (dv 0)) (pg_name (i:=1) nd rfl (Or.inl rfl)) (pss_one (ps_if (md_cmp z_gt (dv 1) pe_int (nomark _)) (pss_one (ps_ret pe_bl)) pss_nil))) (pss_one (ps_ret pe_bl))),?_⟩
  refine⟨⟨_,hS⟩,for_list (xs:=ds.map V.int) (fun i σ H'=>(∃x,σ= [some (.ref a),x])/\H'=H/\goodB (ds.take i)=true) ⟨⟨_,rfl⟩,rfl,rfl⟩ ?_ ?_ ?_⟩
  · rintro i σ H' hi ⟨_,rfl,_⟩
    exact hS
  · rintro i x σ H' hx ⟨⟨y,rfl⟩,rfl,hg⟩
    obtain⟨hi,rfl⟩:=get_int hx
    obtain⟨d,ed⟩:∃d,d=ds[i]:=⟨_,rfl⟩
    rw[<-ed]
    conv=>whnf
    refine ite2 (fun c=>?_) (fun c=>?_)
    · have c1:(255:Int)<d:=dec_true c
      have:goodB ds=false:=by
        rw[<-Bool.not_eq_true]
        intro z
        have:=Y3 (Yu.mp z d (ed▸YU hi))
        omega
      rw[this]at q
      exact q
    · have c1:¬ (255:Int)<d:=dec_false c
      refine⟨⟨_,rfl⟩,rfl,?_⟩
      unfold goodB at hg ⊢
      rw[Yp hi,List.all_append,hg,<-ed,Xf,List.all_nil,Bool.and_true,Bool.true_and]
      exact Yw (by omega)
  rintro σ H' ⟨⟨y,rfl⟩,rfl,hg⟩
  rw[Ya,Yl (Yc _)]at hg
  rw[hg]at q
  exact q
-- def _law_pieces
variable (G__law_pieces:FB P w K mg base (CX0) 1 "_law_pieces" a__law_pieces d__law_pieces ["_law_tag","_law_some"] (spPcs8 K))
include m_len m_max m_range in
theorem ok__law_pieces (F0:GFm K mg "_law_pieces" s__law_pieces a__law_pieces d__law_pieces):type_of% G__law_pieces:=by
  refine fbK ["_law_tag","_law_some","_law_many"] F0 fun H Q nd hr h=>?_
  obtain⟨g,a,th,rfl,hS,hl,q⟩:=h
  refine⟨_,(pss_cons (ps_set (i:=2) nd rfl (Or.inr rfl) (pe_callB (z_max2 rfl) rfl m_max bt_max (pa_cons pe_int (pa_cons (pe_op z_fdiv (pe_op z_add (pe_callB z_len rfl m_len bt_len (pa_cons (dv 1) pa_nil)) pe_int) pe_int) pa_nil)))) (pss_one (ps_ret (pe_comp rfl (ix:=[0,2,1]) (mi_range1 rfl m_range (pa_cons (dv 2) pa_nil)) (fun C fp s0 H0 at0=>pts_nil) (fun C fp s0 H0 at0=>(pe_op z_cat (pe_lst (pa_cons (dv 1) (pa_cons (pe_op z_add (pe_op z_mul pe_int (dv 2)) (dv 0)) pa_nil))) (pe_slice (z_slLK (K:=K)) (dv 3) (md_part (pe_op z_mul pe_int (dv 0))) (md_part (pe_op z_add (pe_op z_mul pe_int (dv 0)) pe_int))))) rfl rfl (by rfl) (show ([".0","_law_k","_law_tag","_law_many","_law_some"]:List Str).Nodup by decide +kernel))))),?_⟩
  refine⟨_,.inl hS,?_⟩
  rw[Ya]
  have hnp:=nP_le hl
  have em:max (1:Int) ((((th.length:Nat):Int)+4) / 5)=((nP th:Nat):Int):=by unfold nP;omega
  have en:(max (1:Int) ((((th.length:Nat):Int)+4) / 5)).toNat=nP th:=by omega
  refine⟨⟨by decide,by decide⟩,⟨by omega,by omega⟩,comp_range (fun i ys H'=>∃qs:List Addr,ys=qs.map V.ref/\qs.length=i/\Same H H'/\Pcs H' g (nP th) th qs/\∀q∈qs,H q=none) ?_ ⟨[],rfl,rfl,Same.refl _,(fun k q z=>nomatch z),fun q z=>nomatch z⟩ ?_ ?_⟩
  · rintro i ys H' hi ⟨qs,rfl,hql,_⟩
    refine small1 ?_
    rw[Ya]
    omega
  · rintro i ys H' hi ⟨qs,rfl,hql,gq,hp,hqn⟩
    rw[en]at hi
    have ez:(0:Int)+(i:Int)=((i:Nat):Int):=Int.zero_add _
    rw[em,ez]
    refine⟨⟨big64 (by decide) (by decide),big64 (by omega) (by omega)⟩,small_lit rfl,fun p1 hp1=>?_⟩
    generalize eU:upd H' p1 _=H1
    have g1:=nS hp1 eU
    have e1:=nE eU
    clear eU
    refine⟨⟨big64 (by decide) (by decide),big64 (by omega) (by omega)⟩,⟨big64 (by decide) (by decide),big64 (by omega) (by omega)⟩,_,(gq.trans g1).seq hS,fun p2 hp2=>?_⟩
    have ec:cutV (th.map V.int) (some ((5:Int)*((i:Nat):Int))) (some ((5:Int)*((i:Nat):Int)+5))=((th.drop (5*i)).take 5).map V.int:=by
      have h1:(5:Int)*((i:Nat):Int)=((5*i:Nat):Int):=by omega
      have h2:(5:Int)*((i:Nat):Int)+5=((5*i+5:Nat):Int):=by omega
      rw[h2,h1]
      unfold cutV
      rw[HT.sIx_nat,HT.sIx_nat,Ya,List.map_take,List.map_drop]
      by_cases z:5*i<=th.length
      · rw[Xb z]
        by_cases y:5*i+5<=th.length
        · rw[Xb y];congr 1;omega
        · rw[Y1 (by omega),Yl (by rw[Y9,Ya];exact Yc _),Yl (by rw[Y9,Ya];omega)]
      · rw[Y1 (by omega:th.length<=5*i),Y1 (by omega),Xj (by rw[Ya];exact Yc _),Xj (by rw[Ya];omega)]
        simp
    have e2:upd H1 p2 (.lst (cutV (th.map V.int) (some ((5:Int)*((i:Nat):Int))) (some ((5:Int)*((i:Nat):Int)+5)))) p2=some (.lst (((th.drop (5*i)).take 5).map V.int)):=by rw[upd_same,ec]
    have g2:=same_new hp2 (.lst (cutV (th.map V.int) (some ((5:Int)*((i:Nat):Int))) (some ((5:Int)*((i:Nat):Int)+5))))
    generalize upd H1 p2 (.lst (cutV (th.map V.int) (some ((5:Int)*((i:Nat):Int))) (some ((5:Int)*((i:Nat):Int)+5))))=H2 at e2 g2
    refine⟨_,_,g2 _ _ e1,e2,(by rw[Ya,YC];exact small (by show 2+_<=1000;omega)),fun p3 hp3=>?_⟩
    have gs:=g1.trans (g2.trans (same_new hp3 (.lst ([.int g,.int (16*((nP th:Nat):Int)+((i:Nat):Int))]++((th.drop (5*i)).take 5).map V.int))))
    refine⟨qs++[p3],by rw[Yi];rfl,by rw[Yj,hql];rfl,gq.trans gs,fun k q hk=>?_,fun q hq=>(YG.mp hq).elim (hqn q) fun z=>by rw[Yg.mp z];exact(gq.trans (g1.trans g2)).none hp3⟩
    by_cases z:k<qs.length
    · rw[YQ z]at hk
      exact gs _ _ (hp k q hk)
    · rw [YV (by omega)]at hk
      have hk0:k-qs.length=0:=by
        have:=(Yb.mp hk).1
        simpa using this
      rw[hk0]at hk
      cases hk
      have ek:k=i:=by omega
      subst ek
      rw[upd_same]
      unfold pc
      rw[Yi]
      rfl
  rintro ys H' ⟨qs,rfl,hql,gq,hp,hqn⟩ p hp2
  rw[en]at hql
  exact q p qs _ (gq.none hp2) (gq.trans (same_new hp2 _)) upd_same hql (hp.same (same_new hp2 _)) hqn
-- def _law_asked
variable (G__law_asked:FB P w K mg base (CX0) 14 "_law_asked" a__law_asked d__law_asked ["_law_desk","_law_row"] (spAsked8 K a_Desk a_Rail CA))
include m_NoFrame m_NoPost m_Rail m_NoName m_NoThing m_Desk m_NoRail m_ANSWERS m_RailError m_len m_isinstance fact_e_NoPost fact_e_NoFrame fact_e_NoName fact_e_NoThing fact_e_NoRail fact_cls_Desk fact_meth_Desk_say fact_n_NoPost_NoFrame fact_n_NoPost_NoName fact_n_NoPost_NoThing fact_n_NoPost_NoRail fact_n_NoFrame_NoPost fact_n_NoFrame_NoName fact_n_NoFrame_NoThing fact_n_NoFrame_NoRail fact_n_NoName_NoPost fact_n_NoName_NoFrame fact_n_NoName_NoThing fact_n_NoName_NoRail fact_n_NoThing_NoPost fact_n_NoThing_NoFrame fact_n_NoThing_NoName fact_n_NoThing_NoRail fact_n_NoRail_NoPost fact_n_NoRail_NoFrame fact_n_NoRail_NoName fact_n_NoRail_NoThing fact_m_NoPost fact_m_NoFrame fact_m_NoName fact_m_NoThing fact_m_NoRail G_Desk_say in
theorem ok__law_asked (F0:GFm K mg "_law_asked" s__law_asked a__law_asked d__law_asked):type_of% G__law_asked:=by
  refine fbK ["_law_desk","_law_row","_law_told","_law_caught","e","_law_words","_law_pair"] F0 fun H Q nd hr h=>?_
  obtain⟨d,st,wp,o,dw,row,nb,tx,rfl,etx,hD,hf,hz,n8,wp8,q⟩:=h
  refine⟨_,(pss_cons (ps_set (i:=2) nd rfl (Or.inl rfl) (pe_tup (pa_cons pe_str (pa_cons pe_str pa_nil)))) (pss_cons (ps_set (i:=3) nd rfl (Or.inl rfl) pe_non) (pss_cons (ps_tryH (fun pins0 σ0 EX=>(pss_one (ps_set (i:=2) nd rfl (Or.inl rfl) (pe_tup (pa_cons pe_str (pa_cons (md_methT fact_cls_Desk fact_meth_Desk_say G_Desk_say.1 hr.mo G_Desk_say.2 .nil (dv 0) (pa_cons (dv 1) pa_nil)) pa_nil)))))) (ph_as (i:=4) rfl m_RailError nd rfl rfl (fun ev=>(pss_one (ps_set (i:=3) nd rfl (Or.inl rfl) (dv 4)))) ph_nil) rfl rfl) (pss_cons (ps_if (md_cmp z_isN (dv 3) pe_non (nomark _)) (pss_one (ps_ret (dv 2))) pss_nil) (pss_cons (ps_set (i:=5) nd rfl (Or.inl rfl) (pe_lst pa_nil)) (pss_cons (ps_for Xg rfl (mi_list (pe_lst (pa_cons (pe_tup (pa_cons pe_str (pa_cons (pe_callB (call_isiXK (K:=K)) rfl m_isinstance bt_isinstance (pa_cons (dv 3) (pa_cons (pe_glob (v:= .ref a_NoRail) rfl m_NoRail rfl) pa_nil))) pa_nil))) (pa_cons (pe_tup (pa_cons pe_str (pa_cons (pe_callB (call_isiXK (K:=K)) rfl m_isinstance bt_isinstance (pa_cons (dv 3) (pa_cons (pe_glob (v:= .ref a_NoThing) rfl m_NoThing rfl) pa_nil))) pa_nil))) (pa_cons (pe_tup (pa_cons pe_str (pa_cons (pe_callB (call_isiXK (K:=K)) rfl m_isinstance bt_isinstance (pa_cons (dv 3) (pa_cons (pe_glob (v:= .ref a_NoPost) rfl m_NoPost rfl) pa_nil))) pa_nil))) (pa_cons (pe_tup (pa_cons pe_str (pa_cons (pe_callB (call_isiXK (K:=K)) rfl m_isinstance bt_isinstance (pa_cons (dv 3) (pa_cons (pe_glob (v:= .ref a_NoFrame) rfl m_NoFrame rfl) pa_nil))) pa_nil))) (pa_cons (pe_tup (pa_cons pe_str (pa_cons (pe_callB (call_isiXK (K:=K)) rfl m_isinstance bt_isinstance (pa_cons (dv 3) (pa_cons (pe_glob (v:= .ref a_NoName) rfl m_NoName rfl) pa_nil))) pa_nil))) pa_nil))))))) (pg_name (i:=6) nd rfl (Or.inl rfl)) (pss_one (ps_if (md_val (pe_ix z_ixT (dv 6) pe_int (fun _ _=>rfl))) (pss_one (ps_expr (md_append (dv 5) (pa_cons (pe_ix z_ixT (dv 6) pe_int (fun _ _=>rfl)) pa_nil)))) pss_nil))) (pss_one (ps_ret (pe_cut (pe_ifExp (md_cmp z_eq (pe_callB z_len rfl m_len bt_len (pa_cons (dv 5) pa_nil)) pe_int (nomark _)) (pe_tup (pa_cons pe_str (pa_cons (pe_ix z_ixL (dv 5) pe_int (fun _ _=>rfl)) pa_nil))) (pe_tup (pa_cons pe_str (pa_cons pe_str pa_nil))))))))))))),?_⟩
  have q1:∀e,deskP st wp row= .error e->∀t H',H t=none->Same H H'->H' t=some (.tup [.str "refused",.str (rfW e)])->Q (.ref t) H':=fun e he t H' ht g et=>q t H' st wp o dw _ _ (hD.same g) (Mv.of g) et (by rw[he];exact .err e)
  have q2:∀s st' wp',deskP st wp row= .ok (s,st',wp')->∀t H' o' w',DeskAt a_Desk a_Rail CA H' d st' wp' o' w'->Mv o H o' H'->H' t=some (.tup [.str "told",.str s])->Q (.ref t) H':=fun s st' wp' he t H' o' w' hD' m et=>q t H' st' wp' o' w' _ _ hD' m et (by rw[he];exact .ok s st' wp')
  refine⟨small_lit rfl,fun t0 ht0=>?_⟩
  have g0:=same_new ht0 (.tup [.str "none",.str ""])
  generalize upd H t0 _=H0 at g0
  have hD0:=hD.same g0
  subst etx
  refine⟨⟨dw.dx,_,hD0.ed,rfl⟩,rfl,d,st,wp,o,dw,row,nb,rfl,hD0,hf.small,hf.row,hf.len,hf.free,hz,n8,wp8,fun e he H1 g1=>?_,fun s st' wp' he H1 o1 w1 hD1 m1=>?_⟩
  · have hm:W.exmOne K (.ref ((⟨a_NoPost,a_NoFrame,a_NoName,a_NoThing,a_NoRail⟩:Ex5).at e)) (.ref a_RailError)=some true:=by
      cases e
      · exact fact_m_NoPost
      · exact fact_m_NoFrame
      · exact fact_m_NoName
      · exact fact_m_NoThing
      · exact fact_m_NoRail
    have hx:ExcC K ((⟨a_NoPost,a_NoFrame,a_NoName,a_NoThing,a_NoRail⟩:Ex5).at e):=by
      cases e
      · exact fact_e_NoPost
      · exact fact_e_NoFrame
      · exact fact_e_NoName
      · exact fact_e_NoThing
      · exact fact_e_NoRail
    have hk:∀e':Rf,W.kitOne K (.ref ((⟨a_NoPost,a_NoFrame,a_NoName,a_NoThing,a_NoRail⟩:Ex5).at e)) (.ref ((⟨a_NoPost,a_NoFrame,a_NoName,a_NoThing,a_NoRail⟩:Ex5).at e'))=some (decide (e=e')):=fun e'=>by
      cases e <;> cases e'
      · exact kit_self
      · exact fact_n_NoPost_NoFrame
      · exact fact_n_NoPost_NoName
      · exact fact_n_NoPost_NoThing
      · exact fact_n_NoPost_NoRail
      · exact fact_n_NoFrame_NoPost
      · exact kit_self
      · exact fact_n_NoFrame_NoName
      · exact fact_n_NoFrame_NoThing
      · exact fact_n_NoFrame_NoRail
      · exact fact_n_NoName_NoPost
      · exact fact_n_NoName_NoFrame
      · exact kit_self
      · exact fact_n_NoName_NoThing
      · exact fact_n_NoName_NoRail
      · exact fact_n_NoThing_NoPost
      · exact fact_n_NoThing_NoFrame
      · exact fact_n_NoThing_NoName
      · exact kit_self
      · exact fact_n_NoThing_NoRail
      · exact fact_n_NoRail_NoPost
      · exact fact_n_NoRail_NoFrame
      · exact fact_n_NoRail_NoName
      · exact fact_n_NoRail_NoThing
      · exact kit_self
    refine .inl ⟨hm,fun x hxn=>?_⟩
    have g2:=same_new hxn (excO (.ref ((⟨a_NoPost,a_NoFrame,a_NoName,a_NoThing,a_NoRail⟩:Ex5).at e)) x none)
    have ex:=upd_same (H:=H1) (a:=x) (o:=excO (.ref ((⟨a_NoPost,a_NoFrame,a_NoName,a_NoThing,a_NoRail⟩:Ex5).at e)) x none)
    generalize upd H1 x (excO (.ref ((⟨a_NoPost,a_NoFrame,a_NoName,a_NoThing,a_NoRail⟩:Ex5).at e)) x none)=H2 at g2 ex
    refine⟨small_lit rfl,fun wl hwl=>?_⟩
    generalize eU:upd H2 wl _=J0
    have k0:=nS hwl eU
    have ew:=nE eU
    have ex0:=k0 _ _ ex
    have gA:=g0.trans (g1.trans g2)
    have hwl0:H wl=none:=gA.none hwl
    have gB:=gA.trans k0
    clear eU
    refine⟨x,_,_,(⟨a_NoPost,a_NoFrame,a_NoName,a_NoThing,a_NoRail⟩:Ex5).at e,_,rfl,rfl,⟨_,ex0⟩,hx,hk .rail,small_lit rfl,fun t1 ht1=>?_⟩
    generalize eU:upd J0 t1 _=J1
    have k1:=nS ht1 eU
    have et1:=nE eU
    clear eU
    have ex1:=k1 _ _ ex0
    refine⟨x,_,_,(⟨a_NoPost,a_NoFrame,a_NoName,a_NoThing,a_NoRail⟩:Ex5).at e,_,rfl,rfl,⟨_,ex1⟩,hx,hk .thing,small_lit rfl,fun t2 ht2=>?_⟩
    generalize eU:upd J1 t2 _=J2
    have k2:=nS ht2 eU
    have et2:=nE eU
    clear eU
    have ex2:=k2 _ _ ex1
    refine⟨x,_,_,(⟨a_NoPost,a_NoFrame,a_NoName,a_NoThing,a_NoRail⟩:Ex5).at e,_,rfl,rfl,⟨_,ex2⟩,hx,hk .post,small_lit rfl,fun t3 ht3=>?_⟩
    generalize eU:upd J2 t3 _=J3
    have k3:=nS ht3 eU
    have et3:=nE eU
    clear eU
    have ex3:=k3 _ _ ex2
    refine⟨x,_,_,(⟨a_NoPost,a_NoFrame,a_NoName,a_NoThing,a_NoRail⟩:Ex5).at e,_,rfl,rfl,⟨_,ex3⟩,hx,hk .frame,small_lit rfl,fun t4 ht4=>?_⟩
    generalize eU:upd J3 t4 _=J4
    have k4:=nS ht4 eU
    have et4:=nE eU
    clear eU
    have ex4:=k4 _ _ ex3
    refine⟨x,_,_,(⟨a_NoPost,a_NoFrame,a_NoName,a_NoThing,a_NoRail⟩:Ex5).at e,_,rfl,rfl,⟨_,ex4⟩,hx,hk .name,small_lit rfl,fun t5 ht5=>?_⟩
    generalize eU:upd J4 t5 _=J5
    have k5:=nS ht5 eU
    have et5:=nE eU
    clear eU
    have ex5:=k5 _ _ ex4
    refine⟨small_lit rfl,fun pl hpl=>?_⟩
    generalize eU:upd J5 pl _=J6
    have k6:=nS hpl eU
    have ep:=nE eU
    clear eU
    have kk:=k1.trans (k2.trans (k3.trans (k4.trans (k5.trans k6))))
    have ew6:=kk _ _ ew
    have gC:=gB.trans kk
    have tps:∀(i:Nat)(v:V), [V.ref t1,.ref t2,.ref t3,.ref t4,.ref t5][i]? =some v->∃t y,v= .ref t/\ordR[i]? =some y/\J6 t=some (.tup [.str (rfW y),.bl (decide (e=y))]):=fun i v hv=>by
      match i,hv with
      |0,hv=>cases hv;exact⟨t1,.rail,rfl,rfl,(k2.trans (k3.trans (k4.trans (k5.trans k6)))) _ _ et1⟩
      |1,hv=>cases hv;exact⟨t2,.thing,rfl,rfl,(k3.trans (k4.trans (k5.trans k6))) _ _ et2⟩
      |2,hv=>cases hv;exact⟨t3,.post,rfl,rfl,(k4.trans (k5.trans k6)) _ _ et3⟩
      |3,hv=>cases hv;exact⟨t4,.frame,rfl,rfl,(k5.trans k6) _ _ et4⟩
      |4,hv=>cases hv;exact⟨t5,.name,rfl,rfl,k6 _ _ et5⟩
    have npl:pl≠wl:=fun z=>by rw[z,ew6]at ep;cases ep
    refine⟨⟨_,SqL.of ep⟩,for_list (xs:=[V.ref t1,.ref t2,.ref t3,.ref t4,.ref t5]) (fun i σ H'=>(∃x6,σ= [some (.ref d),some (.str (Txt.join " " row.words)),some (.ref t0),some (.ref x),none,some (.ref wl),x6])/\H' wl=some (.lst ((wordsR e i).map V.str))/\(∀z u,z≠wl->J6 z=some u->H' z=some u)) ⟨⟨_,rfl⟩,ew6,fun z u _ h=>h⟩ ?_ ?_ ?_⟩
    · rintro i σ H' hi ⟨_,_,kp⟩
      exact SqL.of (kp _ _ npl ep)
    · rintro i v σ H' hv ⟨⟨x6,rfl⟩,ew',kp⟩
      obtain⟨t,y,rfl,hy,et⟩:=tps i v hv
      have hi:i<5:=(Yb.mp hv).1
      have ntw:t≠wl:=fun z=>by rw[z,ew6]at et;cases et
      have et':=kp _ _ ntw et
      have es:=wordsR_succ e hy
      refine⟨_,_,SqT.of et',atI_nat (j:=1) rfl,?_⟩
      by_cases c:e=y
      · rw[Yw c]
        rw[if_pos c]at es
        have hwl':(wordsR e i).length<=5:=by unfold wordsR;rw[Ya];exact Ye (List.length_filter_le _ _) (by rw[YC];show min i 5<=5;omega)
        refine⟨⟨_,SqL.of ew'⟩,_,_,SqT.of et',atI_nat (j:=0) rfl,_,ew',small1 (by rw[Ya];omega),⟨_,rfl⟩,?_,fun z u hz h=>by rw[upd_ne hz];exact kp z u hz h⟩
        rw[upd_same,es,Yi]
        rfl
      · rw[Ys c]
        rw[if_neg c]at es
        exact⟨⟨_,rfl⟩,by rw[es];exact ew',kp⟩
    rintro σ H' ⟨⟨x6,rfl⟩,ew',kp⟩
    have ew2:H' wl=some (.lst [.str (rfW e)]):=by rw[ew'];exact YE (fun z=>some (HO.lst (z.map V.str))) (wordsR_5 e)
    have gD:Same H H':=fun z u h=>kp z u (fun q=>by rw[q,hwl0]at h;cases h) (gC _ _ h)
    refine⟨fun v H3=>∃t,v= .ref t/\H' t=none/\H3=upd H' t (.tup [.str "refused",.str (rfW e)]),?_,?_⟩
    · exact⟨_,.inl (SqL.of ew2),_,_,SqL.of ew2,atI_nat (j:=0) rfl,small_lit rfl,fun t ht=>⟨t,rfl,ht,rfl⟩⟩
    rintro v H3 ⟨t,rfl,ht,rfl⟩
    exact q1 e he t _ (gD.none ht) (gD.trans (same_new ht _)) upd_same
  · refine⟨small_lit rfl,fun t ht=>?_⟩
    have g2:=same_new ht (.tup [.str "told",.str s])
    exact q2 s st' wp' he t _ o1 w1 (hD1.same g2) (((Mv.of g0).trans m1).trans (Mv.of g2)) upd_same
-- def _law_handed
variable (G__law_handed:FB P w K mg base (CX0) 3 "_law_handed" a__law_handed d__law_handed ["_law_state","_law_post","_law_name_here","_law_rows"] (spHanded8 K))
include m_len m_str G__law_is_good in
theorem ok__law_handed (F0:GFm K mg "_law_handed" s__law_handed a__law_handed d__law_handed):type_of% G__law_handed:=by
  refine fbK ["_law_state","_law_post","_law_name_here","_law_rows","_law_data_here"] F0 fun H Q nd hr h=>?_
  obtain⟨t,L,D,ls,R,lc,k,n,rl,rs,qs,nb,rfl,et,hC,hll,hlc,hrw,hne,hrl,hgood,hpos,hn6,hz,nb7,q1,q2⟩:=h
  refine⟨_,(pss_cons (ps_if (md_cmp z_ge (dv 1) (pe_callB z_len rfl m_len bt_len (pa_cons (pe_ix z_ixT (dv 0) pe_int (fun _ _=>rfl)) pa_nil)) (nomark _)) (pss_one (ps_ret pe_str)) pss_nil) (pss_cons (ps_if (PW.pt (pw_or (md_cmp z_gt (dv 2) pe_int (nomark _)) (pw_or (md_cmp z_gt (pe_callB z_len rfl m_len bt_len (pa_cons (pe_ix z_ixL (dv 3) pe_int (fun _ _=>rfl)) pa_nil)) pe_int (nomark _)) (pw_or1 (pt_not (md_val (pe_call G__law_is_good.1 hr.mo rfl G__law_is_good.2.2.2 G__law_is_good.2.2.1 G__law_is_good.2.1 .nil pass0 (pa_cons (pe_ix z_ixL (dv 3) pe_int (fun _ _=>rfl)) pa_nil)))))))) (pss_one (ps_ret pe_str)) pss_nil) (pss_cons (ps_if (md_cmp z_ne (pe_dget2 (hu_of hr) (pe_ix z_ixT (dv 0) pe_int (fun _ _=>rfl)) (dv 2) (dv 1) ⟨rfl,rfl,rfl,rfl⟩) (dv 1) (nomark _)) (pss_one (ps_ret pe_str)) pss_nil) (pss_cons (ps_dput (hu_of hr) (pe_ix z_ixT (dv 0) pe_int (fun _ _=>rfl)) (dv 2) (dv 1) rfl) (pss_cons (ps_for Xg rfl (mi_list (dv 3)) (pg_name (i:=4) nd rfl (Or.inl rfl)) (pss_one (ps_expr (md_append (pe_ix z_ixL (pe_ix z_ixT (dv 0) pe_int (fun _ _=>rfl)) (dv 1) (fun _ _=>rfl)) (pa_cons (pe_op z_addS (pe_op z_addS (pe_callTy z_strI rfl m_str bt_str (pa_cons (dv 2) pa_nil)) pe_str) (md_join pe_str (pa_cons (pe_comp rfl (ix:=[]) (mi_list (dv 4)) (fun C fp s0 H0 at0=>pts_nil) (fun C fp s0 H0 at0=>(pe_callTy z_strI rfl m_str bt_str (pa_cons (dv 0) pa_nil))) rfl rfl (by rfl) (show ([".0","_law_byte_here"]:List Str).Nodup by decide +kernel)) pa_nil))) pa_nil))))) (pss_one (ps_ret pe_str))))))),?_⟩
  obtain⟨r0,rr,ers⟩:∃r0 rr,rs=r0::rr:=by
    cases rs with
    |nil=>exact absurd rfl hne
    |cons a b=>exact⟨a,b,rfl⟩
  obtain⟨q0,hq0⟩:∃q0,qs[0]? =some q0:=⟨_,Yd (by rw[hrw.ln,ers];exact Nat.succ_pos _)⟩
  have eq0:=hrw.at_ 0 q0 r0 hq0 (by rw[ers];rfl)
  have eL:H L=some (.lst (ls.map V.ref)):=hC.at_ 0 _ rfl
  have eD:H D=some (.dK R.ow):=hC.at_ 1 _ rfl
  have bad:∀e,handR R k n r0= .error e->Q (.str (rfW e)) H:=fun e he=>q1 e (by rw[ers];exact handL_err he)
  refine⟨_,_,SqT.of et,atI_nat (j:=0) rfl,_,.inl (SqL.of eL),?_⟩
  rw[Ya,hll]
  obtain⟨pn,epn⟩:∃pn,pn=R.ps.length:=⟨_,rfl⟩
  rw[<-epn]
  conv=>whnf
  refine ite2 (fun c=>?_) (fun c=>?_)
  · have c1:((pn:Nat):Int)<=((k:Nat):Int):=dec_true c
    exact bad .post (handR_post (Xa (by omega)))
  have c1:¬ ((pn:Nat):Int)<=((k:Nat):Int):=dec_false c
  have hk:k<R.ps.length:=by omega
  obtain⟨S,eS⟩:∃S,R.ps[k]? =some S:=⟨_,Yd hk⟩
  have notF:¬ FrOk ((n:Nat):Int) r0->Q (.str "frame") H:=fun z=>bad .frame (handR_frame eS z)
  conv=>whnf
  refine ite2 (fun c2=>notF fun z=>?_) (fun c2=>?_)
  · have c3:(255:Int)<((n:Nat):Int):=dec_true c2
    have:=(byt_iff.mp z.1).2
    omega
  have c3:¬ (255:Int)<((n:Nat):Int):=dec_false c2
  refine⟨_,.ref q0,SqL.of hrw.el,atI_nat (j:=0) (by rw[Yk,hq0];rfl),_,.inl (SqL.of eq0),?_⟩
  rw[Ya]
  obtain⟨rn,ern⟩:∃rn,rn=r0.length:=⟨_,rfl⟩
  rw[<-ern]
  conv=>whnf
  refine ite2 (fun c4=>notF fun z=>?_) (fun c4=>?_)
  · have c5:(7:Int)<((rn:Nat):Int):=dec_true c4
    have:=z.2.1
    omega
  have c5:¬ (7:Int)<((rn:Nat):Int):=dec_false c4
  refine⟨_,.ref q0,SqL.of hrw.el,atI_nat (j:=0) (by rw[Yk,hq0];rfl),q0,r0,rfl,SqL.of eq0,?_⟩
  cases hgb:goodB r0 with
  | false=>
    exact notF fun z=>by
      have:goodB r0=true:=Yu.mpr fun x hx=>Yw (byt_iff.mp (Yu.mp z.2.2 x hx)).2
      rw[this]at hgb;cases hgb
  |true=>
  have fr0:FrOk ((n:Nat):Int) r0:=⟨byt_iff.mpr ⟨by omega,by omega⟩,by omega,Yu.mpr fun x hx=>byt_iff.mpr ⟨hpos r0 (by rw[ers];exact Yo ..) x hx,Y3 (Yu.mp hgb x hx)⟩⟩
  have frA:∀r∈rs,FrOk ((n:Nat):Int) r:=fun r hr=>by
    by_cases z:1<rs.length
    · exact⟨fr0.1,hgood z r hr⟩
    · rw [ers]at hr z
      have:rr= []:=by
        cases rr with
        |nil=>rfl
        |cons a b=>exact absurd (show 1<b.length+1+1 by omega) z
      subst this
      rw[Yg.mp hr]
      exact fr0
  obtain⟨j,ej⟩:=hz.owner k n
  refine⟨_,_,SqT.of et,atI_nat (j:=1) rfl,D,rfl,.inl ⟨_,.inl eD⟩,_,.inl ⟨_,.inl ((n:Nat):Int),.inl eD,rfl,rfl⟩,?_⟩
  rw[ej]
  conv=>whnf
  refine ite2 (fun c6=>?_) (fun c6=>?_)
  · have c7:¬ j=((k:Nat):Int):=fun z=>by
      have c8:(!decide (j=((k:Nat):Int)))=true:=c6
      rw[Yw z]at c8
      cases c8
    exact bad .name (handR_name eS fr0 ej c7)
  have c7:j=((k:Nat):Int):=Xs fun z=>c6 (by
    show (!decide (j=((k:Nat):Int)))=true
    rw[Ys z];rfl)
  subst c7
  have all:=handL_all hne eS frA ej
  refine⟨_,_,SqT.of et,atI_nat (j:=1) rfl,D,_,rfl,.inl ⟨_,.inl ((n:Nat):Int),eD,rfl,small1 (by have:=hz.ow;omega),rfl⟩,?_⟩
  have hC1:=hC.put (i:=1) rfl (.dK (putK R.ow (.inl ((n:Nat):Int)) (.int ((k:Nat):Int))))
  have nD:∀x u,H x=some u->¬ lc x\/isT u->x≠D:=fun x u e z q=>by
    rcases z with z | ⟨_,rfl⟩
    · exact z (q▸hlc 1 _ rfl)
    · rw[q,eD]at e;cases e
  have m1:Mv lc H lc (upd H D (.dK (putK R.ow (.inl ((n:Nat):Int)) (.int ((k:Nat):Int))))):=⟨fun x u e z=>by rw[upd_ne (nD x u e z)];exact e,fun x hx=> .inl hx⟩
  have a1:AlH H (upd H D (.dK (putK R.ow (.inl ((n:Nat):Int)) (.int ((k:Nat):Int))))):=AlH.put
  generalize upd H D _=H1 at hC1 m1 a1
  obtain⟨la,hla⟩:∃la,ls[k]? =some la:=⟨_,Yd (by omega)⟩
  have eRi:∀i:Nat,(lawC L D ls { R with ps:=R.ps.set k { S with wt:=S.wt++(rs.take i).map fun r=>(n,r) },ow:=putK R.ow (.inl ((n:Nat):Int)) (.int ((k:Nat):Int)) })[2+k]? =some (la,.lst (((S.wt++(rs.take i).map fun r=>(n,r)).map frT).map V.str)):=fun i=>by
    rw[show 2+k=k+1+1 from by omega]
    show (List.zipWith _ ls (R.ps.set k _))[k]? =_
    rw[zip_set hla,Xm,if_pos rfl,if_pos (by rw[List.length_zipWith];omega)]
  have eR0:lawC L D ls { R with ps:=R.ps.set k { S with wt:=S.wt++(rs.take 0).map fun r=>(n,r) },ow:=putK R.ow (.inl ((n:Nat):Int)) (.int ((k:Nat):Int)) }=(lawC L D ls R).set 1 (D,.dK (putK R.ow (.inl ((n:Nat):Int)) (.int ((k:Nat):Int)))):=by
    show _::_::List.zipWith _ ls (R.ps.set k _)=_::_::List.zipWith _ ls R.ps
    have:R.ps.set k { S with wt:=S.wt++(rs.take 0).map fun r=>(n,r) }=R.ps:=by
      rw[List.take_zero,Xr,YZ]
      exact set_self eS
    rw[this]
  have hlc':∀(i j:Nat)(c:Addr×HO),(lawC L D ls { R with ps:=R.ps.set k { S with wt:=S.wt++(rs.take i).map fun r=>(n,r) },ow:=putK R.ow (.inl ((n:Nat):Int)) (.int ((k:Nat):Int)) })[j]? =some c->lc c.1:=fun i j c hc=>by
    match j,hc with
    |0,hc=>cases hc;exact hlc 0 _ rfl
    |1,hc=>cases hc;exact hlc 1 (D,HO.dK R.ow) rfl
    | j +2,hc=>
      have hc':(List.zipWith (fun a S=>(a,HO.lst ((S.wt.map frT).map V.str))) ls (R.ps.set k { S with wt:=S.wt++(rs.take i).map fun r=>(n,r) }))[j]? =some c:=hc
      rw[zip_set hla,Xm]at hc'
      by_cases z:k=j
      · rw[if_pos z,if_pos (by rw[List.length_zipWith];omega)]at hc'
        cases hc'
        refine hlc (k+2) (la,HO.lst ((S.wt.map frT).map V.str)) ?_
        show (List.zipWith _ ls R.ps)[k]? =_
        rw[Xk,hla,eS]
      · rw[if_neg z]at hc'
        exact hlc (j+2) c hc'
  refine⟨⟨_,SqL.of (m1.1 _ _ hrw.el (.inl hrw.nl))⟩,for_list (xs:=qs.map V.ref) (fun i σ H'=>(∃x,σ= [some (.ref t),some (.int ((k:Nat):Int)),some (.int ((n:Nat):Int)),some (.ref rl),x])/\Mv lc H lc H'/\CellsAt H' (lawC L D ls { R with ps:=R.ps.set k { S with wt:=S.wt++(rs.take i).map fun r=>(n,r) },ow:=putK R.ow (.inl ((n:Nat):Int)) (.int ((k:Nat):Int)) })/\AlH H H') ⟨⟨_,rfl⟩,m1,by rw[eR0];exact hC1,a1⟩ ?_ ?_ ?_⟩
  · rintro i σ H' hi ⟨_,m,_⟩
    exact SqL.of (m.1 _ _ hrw.el (.inl hrw.nl))
  · rintro i v σ H' hv ⟨⟨x,rfl⟩,m,hCi,ai⟩
    rw[Yk]at hv
    obtain⟨q,hq,rfl⟩:=YR.mp hv
    have hi:i<rs.length:=by rw[<-hrw.ln];exact(Yb.mp hq).1
    have hri:rs[i]? =some rs[i]:=Yd hi
    have eq:=m.1 _ _ (hrw.at_ i q _ hq hri) (.inl (hrw.nq q (Yq hq)))
    have fr:=frA _ (YU hi)
    have eT:(rs.take (i+1)).map (fun r=>(n,r))=(rs.take i).map (fun r=>(n,r))++[(n,rs[i])]:=by rw[Yp hi,Yi];rfl
    have ela:=hCi.at_ _ _ (eRi i)
    have eLi:=hCi.at_ 0 _ rfl
    have eti:=m.1 _ _ et (.inr ⟨_,rfl⟩)
    have hwt:=(hz.ps S (Yq eS)).2.2.2
    have eRS:=eRi (i+1)
    have hlS:=hlc' (i+1)
    have nxt:∀J o,J la=some (.lst (((S.wt++(rs.take i).map fun r=>(n,r)).map frT).map V.str))->CellsAt J (lawC L D ls { R with ps:=R.ps.set k { S with wt:=S.wt++(rs.take i).map fun r=>(n,r) },ow:=putK R.ow (.inl ((n:Nat):Int)) (.int ((k:Nat):Int)) })->o=HO.lst (((S.wt++(rs.take i).map fun r=>(n,r)).map frT).map V.str++[.str (frT (n,rs[i]))])->CellsAt (upd J la o) (lawC L D ls { R with ps:=R.ps.set k { S with wt:=S.wt++(rs.take (i+1)).map fun r=>(n,r) },ow:=putK R.ow (.inl ((n:Nat):Int)) (.int ((k:Nat):Int)) }):=fun J o _ hJ eo=>by
      subst eo
      have:=hJ.put (eRi i) (.lst (((S.wt++(rs.take i).map fun r=>(n,r)).map frT).map V.str++[.str (frT (n,rs[i]))]))
      have ee:(lawC L D ls { R with ps:=R.ps.set k { S with wt:=S.wt++(rs.take i).map fun r=>(n,r) },ow:=putK R.ow (.inl ((n:Nat):Int)) (.int ((k:Nat):Int)) }).set (2+k) (la,.lst (((S.wt++(rs.take i).map fun r=>(n,r)).map frT).map V.str++[.str (frT (n,rs[i]))]))=lawC L D ls { R with ps:=R.ps.set k { S with wt:=S.wt++(rs.take (i+1)).map fun r=>(n,r) },ow:=putK R.ow (.inl ((n:Nat):Int)) (.int ((k:Nat):Int)) }:=by
        rw[show 2+k=k+1+1 from by omega]
        show _::_::(List.zipWith _ ls (R.ps.set k _)).set k _=_::_::List.zipWith _ ls (R.ps.set k _)
        rw[zip_set hla,zip_set hla,List.set_set]
        congr 4
        rw[eT]
        simp[Yi,Y7]
      rw[ee]at this
      exact this
    have r7:=fr.2.1
    have rby:=fr.2.2
    generalize rs[i]=ri at eq fr nxt r7 rby
    have n255:n<256:=by omega
    refine⟨_,_,SqT.of eti,atI_nat (j:=0) rfl,_,.ref la,SqL.of eLi,atI_nat (j:=k) (by rw[Yk,hla];rfl),⟨_,SqL.of ela⟩,?_,?_,?_⟩
    · exact Y5 (XE _) (by show n<1920;omega)
    · exact szl (Ye (YA (num_len (n:=n) (by omega)) (show (":":Str).length<=1 by decide +kernel)) (by decide))
    refine⟨⟨_,SqL.of eq⟩,comp_list (xs:=ri.map V.int) (fun i ys H2=>ys=(((ri.take i).map fun d=>PySem.Str.ofString (toString d)).map V.str)/\H2=H') ?_ ⟨rfl,rfl⟩ ?_ ?_ ?_⟩
    · rintro i ys H2 hi ⟨rfl,_⟩
      rw[Ya,Ya,YC]
      exact small1 (by omega)
    · rintro i ys H2 hi ⟨_,rfl⟩
      exact SqL.of eq
    · rintro i x ys H2 hx ⟨rfl,rfl⟩
      obtain⟨hi,rfl⟩:=get_int hx
      obtain⟨m,en,hn⟩:=byt_nat (Yu.mp rby _ (YU hi))
      refine⟨?_,?_,rfl⟩
      · rw[en]
        exact Y5 (XE _) (by show m<1920;omega)
      · rw[Yp hi,Yi,Yi]
        rfl
    rintro ys H2 ⟨rfl,rfl⟩ p hp
    rw[Ya,Yl (Yc _)]
    generalize eU:upd H2 p _=H3
    have g2:=nS hp eU
    have ep:=nE eU
    clear eU
    have fl:=frT_len (f:=(n,ri)) ⟨n255,r7,rby⟩
    have fl':=fl
    unfold frT at fl'
    rw[Yx]at fl'
    refine⟨_,ep,join_ok (B:=6) (dotT_len rby) ?_,szl (Ye fl' (by decide)),_,g2 _ _ ela,small1 ?_,⟨_,rfl⟩,?_,nxt H3 _ (g2 _ _ ela) (hCi.same g2) rfl,ai.trans ((AlH.of g2).trans AlH.put)⟩
    · have e1:(".":Str).length=1:=by decide +kernel
      rw[Ya,e1]
      omega
    · rw[Ya,Ya,Yj,Ya,YC]
      omega
    · refine m.trans ((Mv.of g2).trans ⟨fun x u e z=>?_,fun x hx=> .inl hx⟩)
      rw[upd_ne]
      · exact e
      · rintro rfl
        rcases z with z | ⟨_,rfl⟩
        · exact z (hlc' i _ _ (eRi i))
        · rw[g2 _ _ ela]at e;cases e
  rintro σ H' ⟨⟨x,rfl⟩,m,hCi,ai⟩
  have hl5:=hlc' qs.length
  rw[Ya]at hCi
  rw[hrw.ln,Yl (Yc _)]at hCi hl5
  exact q2 _ all H' ⟨t,L,D,ls,rfl,m.1 _ _ et (.inr ⟨_,rfl⟩),hCi,by show ls.length=(R.ps.set k _).length;rw[XI];exact hll,hl5⟩ m ai
-- def _law_hand_step
variable (G__law_hand_step:FB P w K mg base (CX0) 15 "_law_hand_step" a__law_hand_step d__law_hand_step ["_law_desk","_law_state","_law_cell","_law_names","_law_post"] (spHandStep8 K a_Desk a_Rail CA))
include m_NoFrame m_NoPost m_Rail m_NoName m_NoThing m_Desk m_NoRail m_RailError m_len m_str G__law_mix G__law_byte G__law_name G__law_data G__law_is_good G__law_pieces G__law_asked G__law_handed in
theorem ok__law_hand_step (F0:GFm K mg "_law_hand_step" s__law_hand_step a__law_hand_step d__law_hand_step):type_of% G__law_hand_step:=by
  refine fbK ["_law_desk","_law_state","_law_cell","_law_names","_law_post","_law_is_thing","_law_name_here","_law_some","_law_tag","_law_numbers","_law_found","_law_rows","_law_word"] F0 fun H Q nd hr h=>?_
  obtain⟨d,sv,st,nb,oo,c,nl,ns,k,rfl,⟨wp,o,dw,lc,hJ,hz,hwl,rfl⟩,nb7,k10,en,ln,hn,q⟩:=h
  refine⟨_,(pss_cons (ps_set (i:=5) nd rfl (Or.inl rfl) (pe_cmpR z_gt (pe_call G__law_mix.1 hr.mo rfl G__law_mix.2.2.2 G__law_mix.2.2.1 G__law_mix.2.1 .nil pass0 (pa_cons (dv 2) (pa_cons pe_int (pa_cons pe_int pa_nil)))) pe_int (nomark _))) (pss_cons (ps_set (i:=6) nd rfl (Or.inl rfl) (pe_call G__law_name.1 hr.mo rfl G__law_name.2.2.2 G__law_name.2.2.1 G__law_name.2.1 .nil pass0 (pa_cons (dv 2) (pa_cons (dv 3) pa_nil)))) (pss_cons (ps_set (i:=7) nd rfl (Or.inl rfl) (pe_call G__law_data.1 hr.mo rfl G__law_data.2.2.2 G__law_data.2.2.1 G__law_data.2.1 .nil pass0 (pa_cons (dv 2) (pa_cons (dv 5) pa_nil)))) (pss_cons (ps_set (i:=8) nd rfl (Or.inl rfl) (pe_call G__law_byte.1 hr.mo rfl G__law_byte.2.2.2 G__law_byte.2.2.1 G__law_byte.2.1 .nil pass0 (pa_cons (dv 2) (pa_cons pe_int pa_nil)))) (pss_cons (ps_set (i:=9) nd rfl (Or.inl rfl) (pe_op z_cat (pe_op z_cat (pe_lst (pa_cons (dv 4) (pa_cons (dv 6) pa_nil))) (pe_cut (pe_ifExp (md_val (dv 5)) (pe_lst (pa_cons (dv 8) pa_nil)) (pe_lst pa_nil)))) (dv 7))) (pss_cons (ps_set (i:=10) nd rfl (Or.inl rfl) (pe_call G__law_asked.1 hr.mo rfl G__law_asked.2.2.2 G__law_asked.2.2.1 G__law_asked.2.1 .nil pass0 (pa_cons (dv 0) (pa_cons (pe_op z_addS (pe_cut (pe_ifExp (md_val (dv 5)) pe_str pe_str)) (md_join pe_str (pa_cons (pe_comp rfl (ix:=[]) (mi_list (dv 9)) (fun C fp s0 H0 at0=>pts_nil) (fun C fp s0 H0 at0=>(pe_callTy z_strI rfl m_str bt_str (pa_cons (dv 0) pa_nil))) rfl rfl (by rfl) (show ([".0","_law_one"]:List Str).Nodup by decide +kernel)) pa_nil))) pa_nil)))) (pss_cons (ps_if (md_cmp z_isN (dv 1) pe_non (nomark _)) (pss_one (ps_ret (pe_cmpR (z_eqS hr.units) (dv 10) (pe_tup (pa_cons pe_str (pa_cons pe_str pa_nil))) (nomark _)))) pss_nil) (pss_cons (ps_cut (ps_if (PW.pt (pw_and (md_val (dv 5)) (pw_and1 (PW.pt (pw_or (md_cmp z_gt (pe_callB z_len rfl m_len bt_len (pa_cons (dv 7) pa_nil)) pe_int (nomark _)) (pw_or1 (pt_not (md_val (pe_call G__law_is_good.1 hr.mo rfl G__law_is_good.2.2.2 G__law_is_good.2.2.1 G__law_is_good.2.1 .nil pass0 (pa_cons (pe_op z_cat (pe_lst (pa_cons (dv 8) pa_nil)) (dv 7)) pa_nil)))))))))) (pss_one (ps_ret (pe_cmpR (z_eqS hr.units) (dv 10) (pe_tup (pa_cons pe_str (pa_cons pe_str pa_nil))) (nomark _)))) pss_nil)) (pss_cons (ps_set (i:=11) nd rfl (Or.inl rfl) (pe_cut (pe_ifExp (md_val (dv 5)) (pe_call G__law_pieces.1 hr.mo rfl G__law_pieces.2.2.2 G__law_pieces.2.2.1 G__law_pieces.2.1 .nil pass0 (pa_cons (dv 8) (pa_cons (dv 7) pa_nil))) (pe_lst (pa_cons (dv 7) pa_nil))))) (pss_cons (ps_set (i:=12) nd rfl (Or.inl rfl) (pe_call G__law_handed.1 hr.mo rfl G__law_handed.2.2.2 G__law_handed.2.2.1 G__law_handed.2.1 .nil pass0 (pa_cons (dv 1) (pa_cons (dv 4) (pa_cons (dv 6) (pa_cons (dv 11) pa_nil)))))) (pss_cons (ps_if (md_cmp z_ne (dv 12) pe_str (nomark _)) (pss_one (ps_ret (pe_cmpR (z_eqS hr.units) (dv 10) (pe_tup (pa_cons pe_str (pa_cons (dv 12) pa_nil))) (nomark _)))) pss_nil) (pss_one (ps_ret (pe_cmpR (z_eqS hr.units) (dv 10) (pe_tup (pa_cons pe_str (pa_cons (pe_cut (pe_ifExp (md_val (dv 5)) (pe_op z_addS pe_str (pe_callTy z_strI rfl m_str bt_str (pa_cons (pe_callB z_len rfl m_len bt_len (pa_cons (dv 11) pa_nil)) pa_nil))) pe_str)) pa_nil))) (nomark _))))))))))))))),?_⟩
  refine⟨c,1,16,rfl,by decide,by decide,by decide,fun r0 hr0=>?_⟩
  obtain⟨b,hb⟩:∃b:Bool,b=decide ((5:Int)<((r0:Nat):Int)):=⟨_,rfl⟩
  refine⟨c,nl,ns,rfl,en,ln,hn,fun n hn3=>?_⟩
  rw[show ((fun i j:Int=>V.bl (decide (j<i))) ((r0:Nat):Int) 5)=V.bl b from by rw[hb]]
  clear hb
  refine⟨c,b,rfl,fun p ds H1 hp g1 ep hdl hd=>?_⟩
  refine⟨c,12,rfl,by decide,by decide,fun g hg=>?_⟩
  refine⟨small_lit rfl,fun l1 hl1=>?_⟩
  have g2:=g1.trans (same_new hl1 (.lst [.int ((k:Nat):Int),.int ((n:Nat):Int)]))
  have k2:=same_new hl1 (.lst [.int ((k:Nat):Int),.int ((n:Nat):Int)])
  have e1:=upd_same (H:=H1) (a:=l1) (o:= .lst [.int ((k:Nat):Int),.int ((n:Nat):Int)])
  generalize upd H1 l1 _=H2 at g2 e1 k2
  refine⟨fun v H'=>∃l2,v= .ref l2/\H' l2=some (.lst ((itg (if b then [g] else [])).map V.int))/\Same H2 H',?_,?_⟩
  · cases b with
    |true=>exact⟨small_lit rfl,fun l2 hl2=>⟨l2,rfl,upd_same,same_new hl2 _⟩⟩
    |false=>exact⟨small_lit rfl,fun l2 hl2=>⟨l2,rfl,upd_same,same_new hl2 _⟩⟩
  rintro v H3 ⟨l2,rfl,e2,k3⟩
  have bl:(if b then [g] else []).length<=1:=by cases b <;> simp
  refine⟨_,_,k3 _ _ e1,e2,small ?_,fun l3 hl3=>?_⟩
  · rw[Ya,Ya]
    show 2+_<=1000
    omega
  generalize eU:upd H3 l3 _=H4
  have k4:=nS hl3 eU
  have e3:=nE eU
  clear eU
  have g4:=g2.trans (k3.trans k4)
  have kp:=k2.trans (k3.trans k4)
  refine⟨_,_,e3,kp _ _ ep,small ?_,fun l4 hl4=>?_⟩
  · rw[Yj,Ya,Ya,Ya,Ya]
    show 2+_+_<=1000
    omega
  have eN:[V.int ((k:Nat):Int),.int ((n:Nat):Int)]++(itg (if b then [g] else [])).map V.int++(itg ds).map V.int=(itg (hNum b k n g ds)).map V.int:=by
    unfold hNum itg
    simp[Yi]
  rw[eN]
  generalize eU:upd H4 l4 _=H5
  have k5:=nS hl4 eU
  have e4:=nE eU
  clear eU
  have g5:=g4.trans k5
  have kp5:=kp.trans k5
  have hnl:(hNum b k n g ds).length<=83:=by unfold hNum;rw[YX,YX,Yj];omega
  have hnlt:∀x∈hNum b k n g ds,x<10 ^ 6:=fun x hx=>by
    unfold hNum at hx
    rcases Yr.mp hx with rfl | hx
    · omega
    rcases Yr.mp hx with rfl | hx
    · omega
    rcases YG.mp hx with hx | hx
    · cases b with
      |true=>rw[Yg.mp hx];exact hg
      |false=>cases hx
    · exact hd x hx
  refine⟨fun v H'=>v= .str (if b then "thing " else "hand ")/\H'=H5,?_,?_⟩
  · cases b <;> exact⟨rfl,rfl⟩
  rintro v H6 ⟨rfl,rfl⟩
  have fine:=hRow_fine (b:=b) (k:=k) (n:=n) (g:=g) (ds:=ds) k10 hn3 hg hdl hd
  have hwd:=hRow_words b k n g ds
  generalize hNum b k n g ds=N at e4 hnl hnlt hwd
  refine⟨⟨_,SqL.of e4⟩,comp_list (xs:=(itg N).map V.int) (fun i ys H'=>ys=((N.take i).map num).map V.str/\H'=H6) ?_ ⟨rfl,rfl⟩ ?_ ?_ ?_⟩
  · rintro i ys H' hi ⟨rfl,_⟩
    rw[Ya,Ya,YC]
    exact small1 (by omega)
  · rintro i ys H' hi ⟨_,rfl⟩
    exact SqL.of e4
  · rintro i x ys H' hx ⟨rfl,rfl⟩
    obtain⟨hi,rfl⟩:=get_int hx
    have hi':i<N.length:=by rw[Ya]at hi;exact hi
    have en':(itg N)[i]=((N[i]:Nat):Int):=List.getElem_map ..
    rw[en']
    refine⟨log2_small (hnlt _ (YU hi')),?_,rfl⟩
    rw[Yp hi',Yi,Yi]
    rfl
  rintro ys H' ⟨rfl,rfl⟩ p2 hp2
  rw[Ya,Ya,Yl (Yc _)]
  generalize eU:upd H' p2 _=H7
  have k6:=nS hp2 eU
  have ep2:=nE eU
  clear eU
  have g7:=g5.trans k6
  have e32:(" ":Str).length=1:=by decide +kernel
  refine⟨_,ep2,join_ok (B:=6) (nums_len hnlt) (by rw[Ya,e32];omega),?_,?_⟩
  · rw[<-Yx,<-hwd]
    exact szl (Ye fine.len (by decide))
  have ep7:=(kp5.trans k6) _ _ ep
  refine⟨d,st,wp,o,dw,hRow b k n g ds,nb,_,rfl,hwd.symm,hJ.dk.same g7,fine,hz,by omega,by omega,fun t H8 st2 wp2 o2 dw2 w1 w2 hD8 m8 et8 ans=>?_⟩
  obtain⟨hJ8,mm⟩:=(hJ.same g7).asked hD8 m8
  have M8:=(Mv.of g7).trans mm
  have nop:¬ o p:=fun z=>hJ.dk.al p z hp
  have nlp:¬ lc p:=fun z=>hJ.al p z hp
  have ep8:=m8.1 _ _ ep7 (.inl nop)
  clear ep7 ep2 k6 e4 k5 e3 kp5 kp k4 k3 k2 e2 e1
  cases st with
  | none=>
    have esv:sv= .non:=hJ.lw
    subst esv
    have ed:deskP none wp (hRow b k n g ds)= .error .rail:=by cases b <;> rfl
    rw[ed]at ans
    cases ans
    refine⟨small_lit rfl,fun t2 ht2=>⟨_,dv_ss (same_new ht2 _ _ _ et8),dv_ss upd_same,shaped_ss (low_lit (by decide +kernel)) (rfW_low .rail),?_⟩⟩
    exact q _ none (Or2 o2 lc) ⟨wp,o2,dw2,lc,hJ8.same (same_new ht2 _),fun R z=>(by cases z),by omega,rfl⟩ (M8.trans (Mv.of (same_new ht2 _)))
  |some R=>
  obtain⟨ts,L,D,ls,esv,ets,hC,hll,hlc⟩:=hJ8.lw
  subst esv
  have hzR:=hz R rfl
  have eq8:∀(e:Rf)(H9:Hp),deskP (some R) wp (hRow b k n g ds)= .error e->Same H8 H9->w1="refused"/\w2=rfW e/\J8 a_Desk a_Rail CA H9 d (.ref ts) st2 (nb+16) (Or2 o2 lc)/\Mv (Or2 o lc) H (Or2 o2 lc) H9:=fun e H9 ed g9=>by
    rw[ed]at ans
    cases ans
    exact⟨rfl,rfl,⟨wp,o2,dw2,lc,hJ8.same g9,fun R' z=>(hz R' z).le (by omega),by omega,rfl⟩,M8.trans (Mv.of g9)⟩
  have cmp:∀(e:Rf)(H9:Hp),deskP (some R) wp (hRow b k n g ds)= .error e->Same H8 H9->∀t2,H9 t2=none->∀o',o'=HO.tup [.str "refused",.str (rfW e)]->∃dd,DV K (upd H9 t2 o') (.ref t) dd/\DV K (upd H9 t2 o') (.ref t2) dd/\SeqAt.shaped dd=true/\Q (.bl true) (upd H9 t2 o'):=fun e H9 ed g9 t2 ht2 o' eo=>by
    subst eo
    obtain⟨rfl,rfl,j8,m9⟩:=eq8 e _ ed (g9.trans (same_new ht2 (.tup [.str "refused",.str (rfW e)])))
    exact⟨_,dv_ss ((g9.trans (same_new ht2 _)) _ _ et8),dv_ss upd_same,shaped_ss (low_lit (by decide +kernel)) (rfW_low e),q _ st2 _ j8 m9⟩
  refine⟨fun σ H'=>σ= [some (.ref d),some (.ref ts),some (.int c),some (.ref nl),some (.int ((k:Nat):Int)),some (.bl b),some (.int ((n:Nat):Int)),some (.ref p),some (.int ((g:Nat):Int)),some (.ref l4),some (.ref t),none,none]/\(b=true->TgOk ((g:Nat):Int) (itg ds))/\Same H8 H',?_,?_⟩
  · cases b with
    |false=>exact⟨rfl,fun z=>(by cases z),Same.refl _⟩
    | true=>
      have bad:¬ TgOk ((g:Nat):Int) (itg ds)->deskP (some R) wp (hRow true k n g ds)= .error .thing:=fun z=>ans_tg z
      refine⟨_,.inl (SqL.of ep8),?_⟩
      rw[Ya,Ya]
      obtain⟨dn,edn⟩:∃dn,dn=ds.length:=⟨_,rfl⟩
      rw[<-edn]
      conv=>whnf
      refine ite2 (fun c1=>?_) (fun c1=>?_)
      · have c2:(75:Int)<((dn:Nat):Int):=dec_true c1
        exact⟨small_lit rfl,fun t2 ht2=>cmp .thing H8 (bad fun z=>by have:=(tg_iff.mp z).1;omega) (Same.refl _) t2 ht2 _ rfl⟩
      have c2:¬ (75:Int)<((dn:Nat):Int):=dec_false c1
      refine⟨small_lit rfl,fun l5 hl5=>?_⟩
      generalize eU:upd H8 l5 _=H9
      have k7:=nS hl5 eU
      have e5:=nE eU
      clear eU
      refine⟨_,_,e5,k7 _ _ ep8,small (by rw[Ya,Ya];show 1+_<=1000;omega),fun l6 hl6=>?_⟩
      have k8:=k7.trans (same_new hl6 (.lst ([V.int ((g:Nat):Int)]++(itg ds).map V.int)))
      have e6:=upd_same (H:=H9) (a:=l6) (o:= .lst ([V.int ((g:Nat):Int)]++(itg ds).map V.int))
      generalize upd H9 l6 _=H10 at k8 e6
      refine⟨l6, [((g:Nat):Int)]++itg ds,rfl,SqL.of (by rw[e6];rfl),?_⟩
      cases hgb:goodB ([((g:Nat):Int)]++itg ds) with
      |false=>exact⟨small_lit rfl,fun t2 ht2=>cmp .thing H10 (bad fun z=>by have:=(tg_iff.mp z).2;rw[hgb]at this;cases this) k8 t2 ht2 _ rfl⟩
      |true=>exact⟨rfl,fun _=>tg_iff.mpr ⟨by omega,hgb⟩,k8⟩
  rintro σ H9 ⟨rfl,tg,k9⟩
  obtain⟨rn1,rn2,rn3,rn4,rn5⟩:=hRows_ok tg
  refine⟨fun v H'=>∃rl qs,v= .ref rl/\RwAt H' lc rl (hRows b g ds) qs/\Same H9 H',?_,?_⟩
  · have fr:∀(x:Addr),H9 x=none->¬ lc x:=fun x hx z=>hJ8.al x z (k9.none hx)
    cases b with
    | true=>
      refine⟨((g:Nat):Int),p,itg ds,rfl,SqL.of (k9 _ _ ep8),by rw[Ya];omega,fun p3 qs H10 hp3 g10 e10 lq hpc hqn=>⟨p3,qs,rfl,⟨e10,?_,fun i q r hq hr=>?_,fr p3 hp3,fun q hq=>fr q (hqn q hq)⟩,g10⟩⟩
      · show qs.length=((List.range _).map _).length
        rw[Ya,Xe];exact lq
      · have hi:i<nP (itg ds):=by rw[<-lq];exact(Yb.mp hq).1
        have hr':((List.range (nP (itg ds))).map fun j=>pc ((g:Nat):Int) (nP (itg ds)) j (itg ds))[i]? =some r:=hr
        rw[Yk,List.getElem?_range hi]at hr'
        cases hr'
        exact hpc i q hq
    | false=>
      refine⟨small_lit rfl,fun l7 hl7=>⟨l7, [p],rfl,⟨upd_same,rfl,fun i q r hq hr=>?_,fr l7 hl7,fun q hq=>?_⟩,same_new hl7 _⟩⟩
      · match i,hq,hr with
        |0,hq,hr=>cases hq;cases hr;exact same_new hl7 _ _ _ (k9 _ _ ep8)
      · rw[Yg.mp hq];exact nlp
  rintro v H10 ⟨rl,qs,rfl,hrw,k10'⟩
  have g810:=k9.trans k10'
  have hJ10:=hJ8.same g810
  refine⟨ts,L,D,ls,R,lc,k,n,rl,hRows b g ds,qs,nb,rfl,g810 _ _ ets,hC.same g810,hll,hlc,hrw,rn1,rn2,rn4,rn5,by omega,hzR,nb7,fun e he=>?_,fun R' he H11 lv m11 a11=>?_⟩
  · have ne:rfW e≠"":=by cases e <;> decide +kernel
    have c6:=cmp e H10 ((hRow_ans tg).1 e he) g810
    generalize rfW e=we at ne c6
    conv=>whnf
    refine ite2 (fun _=>⟨small_lit rfl,fun t2 ht2=>c6 t2 ht2 _ rfl⟩) (fun c7=>absurd (by
      show (!decide (we=""))=true
      rw[Ys ne];rfl) c7)
  · obtain⟨hJ11,m11'⟩:=hJ10.moved lv (fun x hx=>a11 x (hJ10.al x hx)) m11
    have ed:=(hRow_ans (R:=R) (wp:=wp) (k:=k) (n:=n) tg).2 R' he
    rw[ed]at ans
    cases ans
    have z':Z83 R' (nb+16):=(hzR.handL he).le (by omega)
    have n15:(hRows b g ds).length<=16:=rn3
    have et11:H11 t=some (.tup [.str "told",.str (if b then "ok "++num (nP (itg ds)) else "ok")]):=m11.1 _ _ (g810 _ _ et8) (.inr ⟨_,rfl⟩)
    have ers:b=true->qs.length=nP (itg ds):=fun hb=>by
      subst hb
      rw[hrw.ln]
      show ((List.range _).map _).length=_
      rw[Ya,Xe]
    have nrl:¬ lc rl:=hrw.nl
    have erl:=m11.1 _ _ hrw.el (.inl nrl)
    have nle:nP (itg ds)<=101:=nP_le (by rw[Ya];omega)
    refine⟨fun v H'=>v= .str (if b then "ok "++num (nP (itg ds)) else "ok")/\H'=H11,?_,?_⟩
    · cases b with
      | true=>
        refine⟨_,.inl (SqL.of erl),?_⟩
        rw[Ya,ers rfl]
        exact⟨log2_small (by omega),szl (Ye (YA (show ("ok ":Str).length<=3 by decide +kernel) (num_len (n:=nP (itg ds)) (by omega))) (by decide)),rfl,rfl⟩
      |false=>exact⟨rfl,rfl⟩
    rintro v H12 ⟨rfl,rfl⟩
    refine⟨small_lit rfl,fun t2 ht2=>⟨_,dv_ss (same_new ht2 _ _ _ et11),dv_ss upd_same,shaped_ss (low_lit (by decide +kernel)) ?_,?_⟩⟩
    · cases b with
      |true=>exact(low_lit (by decide +kernel)).app (Low.num _)
      |false=>exact(low_lit (x:="ok") (by decide +kernel):Low "ok")
    exact q _ (some R') (Or2 o2 lc) ⟨wp,o2,dw2,lc,hJ11.same (same_new ht2 _),fun R2 z=>(by cases z;exact z'),by omega,rfl⟩ (M8.trans ((Mv.of g810).trans (m11'.trans (Mv.of (same_new ht2 _)))))
-- def _law_rail_step
variable (G__law_rail_step:FB P w K mg base (CX0) 15 "_law_rail_step" a__law_rail_step d__law_rail_step ["_law_desk","_law_state","_law_cell"] (spRailStep8 K a_Desk a_Rail CA))
include m_NoFrame m_NoPost m_Rail m_NoName m_NoThing m_Desk m_NoRail m_RailError m_len m_str G__law_rail G__law_is_good G__law_asked in
theorem ok__law_rail_step (F0:GFm K mg "_law_rail_step" s__law_rail_step a__law_rail_step d__law_rail_step):type_of% G__law_rail_step:=by
  refine fbK ["_law_desk","_law_state","_law_cell","_law_pair","_law_row","_law_found"] F0 fun H Q nd hr h=>?_
  obtain⟨d,sv,st,nb,oo,c,rfl,⟨wp,o,dw,lc,hJ,hz,hwl,rfl⟩,nb7,q⟩:=h
  refine⟨_,(pss_cons (ps_set (i:=3) nd rfl (Or.inl rfl) (pe_call G__law_rail.1 hr.mo rfl G__law_rail.2.2.2 G__law_rail.2.2.1 G__law_rail.2.1 .nil pass0 (pa_cons (dv 2) pa_nil))) (pss_cons (ps_set (i:=4) nd rfl (Or.inl rfl) (md_join pe_str (pa_cons (pe_op z_cat (pe_lst (pa_cons pe_str (pa_cons (pe_callTy z_strI rfl m_str bt_str (pa_cons (pe_ix z_ixT (dv 3) pe_int (fun _ _=>rfl)) pa_nil)) pa_nil))) (pe_comp rfl (ix:=[]) (mi_list (pe_ix z_ixT (dv 3) pe_int (fun _ _=>rfl))) (fun C fp s0 H0 at0=>pts_nil) (fun C fp s0 H0 at0=>(pe_op z_addS (pe_op z_addS (pe_callTy z_strI rfl m_str bt_str (pa_cons (pe_ix (z_ixTK (K:=K)) (dv 0) pe_int (fun _ _=>rfl)) pa_nil)) pe_str) (pe_callTy z_strI rfl m_str bt_str (pa_cons (pe_ix (z_ixTK (K:=K)) (dv 0) pe_int (fun _ _=>rfl)) pa_nil)))) rfl rfl (by rfl) (show ([".0","_law_one"]:List Str).Nodup by decide +kernel))) pa_nil))) (pss_cons (ps_set (i:=5) nd rfl (Or.inl rfl) (pe_call G__law_asked.1 hr.mo rfl G__law_asked.2.2.2 G__law_asked.2.2.1 G__law_asked.2.1 .nil pass0 (pa_cons (dv 0) (pa_cons (dv 4) pa_nil)))) (pss_cons (ps_if (PW.pt (pw_or (md_cmp z_notInI (pe_ix z_ixT (dv 3) pe_int (fun _ _=>rfl)) (pe_tup (pa_cons pe_int (pa_cons pe_int (pa_cons pe_int pa_nil)))) rfl) (pw_or (md_cmp z_gt (pe_callB z_len rfl m_len bt_len (pa_cons (pe_ix z_ixT (dv 3) pe_int (fun _ _=>rfl)) pa_nil)) pe_int (nomark _)) (pw_or1 (pt_not (md_val (pe_call G__law_is_good.1 hr.mo rfl G__law_is_good.2.2.2 G__law_is_good.2.2.1 G__law_is_good.2.1 .nil pass0 (pa_cons (pe_comp rfl (ix:=[]) (mi_list (pe_ix z_ixT (dv 3) pe_int (fun _ _=>rfl))) (fun C fp s0 H0 at0=>pts_nil) (fun C fp s0 H0 at0=>(pe_ix (z_ixTK (K:=K)) (dv 0) pe_int (fun _ _=>rfl))) rfl rfl (by rfl) (show ([".0","_law_one"]:List Str).Nodup by decide +kernel)) pa_nil)))))))) (pss_one (ps_ret (pe_tup (pa_cons (dv 1) (pa_cons (pe_cmpR (z_eqS hr.units) (dv 5) (pe_tup (pa_cons pe_str (pa_cons pe_str pa_nil))) (nomark _)) pa_nil))))) pss_nil) (pss_one (ps_ret (pe_tup (pa_cons (pe_tup (pa_cons (pe_comp rfl (ix:=[]) (mi_list (pe_ix z_ixT (dv 3) pe_int (fun _ _=>rfl))) (fun C fp s0 H0 at0=>pts_nil) (fun C fp s0 H0 at0=>(pe_lst pa_nil)) rfl rfl (by rfl) (show ([".0","_law_one"]:List Str).Nodup by decide +kernel)) (pa_cons pe_dnewK pa_nil))) (pa_cons (pe_cmpR (z_eqS hr.units) (dv 5) (pe_tup (pa_cons pe_str (pa_cons pe_str pa_nil))) (nomark _)) pa_nil))))))))),?_⟩
  refine⟨c,rfl,fun t0 cl xs vt cs H1 ht0 et0 ecl hv hv7 hc16 hcs g1 ncl0=>?_⟩
  obtain⟨ts,ets,tl,tt⟩:=vls_chs (cl:=cl) hv
  subst ets
  rw[Ya]at tl
  refine⟨_,_,SqT.of et0,atI_nat (j:=0) rfl,log2_small (by omega),small_lit rfl,fun l1 hl1=>?_⟩
  generalize eU:upd H1 l1 _=H2
  have k1:=nS hl1 eU
  have e1:=nE eU
  clear eU
  have g2:=g1.trans k1
  have ecl2:=k1 _ _ ecl
  have tt2:∀(i:Nat)(t:Addr)(m:Nat×Nat),ts[i]? =some t->cs[i]? =some m->H2 t=some (.tup [.int ((m.1:Nat):Int),.int ((m.2:Nat):Int)]):=fun i t m h1 h2=>k1 _ _ (tt i t (((m.1:Nat):Int),((m.2:Nat):Int)) h1 (by rw[Yk,h2];rfl))
  have gcs:∀(i:Nat)(x:V),(ts.map V.ref)[i]? =some x->∃t m,x= .ref t/\cs[i]? =some m/\H2 t=some (.tup [.int ((m.1:Nat):Int),.int ((m.2:Nat):Int)])/\m∈cs:=fun i x hx=>by
    rw[Yk]at hx
    obtain⟨t,ht,rfl⟩:=YR.mp hx
    have hi:i<cs.length:=by rw[<-tl];exact(Yb.mp ht).1
    exact⟨t,cs[i],rfl,Yd hi,tt2 i t _ ht (Yd hi),YU hi⟩
  have chl:∀m∈cs,(num m.1++"/"++num m.2).length<=13:=fun m hm=>(vlT_len (v:= .cho m.1 m.2) ⟨by have:=(hcs m hm).1;omega,by have:=(hcs m hm).2;omega⟩).1
  refine⟨_,.ref cl,SqT.of (k1 _ _ et0),atI_nat (j:=1) rfl,⟨_,SqL.of ecl2⟩,comp_list (xs:=ts.map V.ref) (fun i ys H'=>ys=((cs.take i).map fun c:Nat×Nat=>num c.1++"/"++num c.2).map V.str/\H'=H2) ?_ ⟨rfl,rfl⟩ ?_ ?_ ?_⟩
  · rintro i ys H' hi ⟨rfl,_⟩
    rw[Ya,Ya,YC]
    exact small1 (by omega)
  · rintro i ys H' hi ⟨_,rfl⟩
    exact SqL.of ecl2
  · rintro i x ys H' hx ⟨rfl,rfl⟩
    obtain⟨t,m,rfl,hm,et,mm⟩:=gcs i x hx
    have hi:i<cs.length:=(Yb.mp hm).1
    have m1:=(hcs m mm).1
    have m2:=(hcs m mm).2
    have em:cs[i]=m:=(Yb.mp hm).2
    have hl13:=chl m mm
    refine⟨_,_,SqT.of et,atI_nat (j:=0) rfl,log2_small (by omega),?_,_,_,SqT.of et,atI_nat (j:=1) rfl,log2_small (by omega),?_,?_,rfl⟩
    · exact szl (Ye (YA (num_len (n:=m.1) (by omega)) (show ("/":Str).length<=1 by decide +kernel)) (by decide))
    · rw[Yx]at hl13
      exact szl (Ye hl13 (by decide))
    · rw[Yp hi,Yi,Yi,em]
      rfl
  rintro ys H' ⟨rfl,rfl⟩ p hp
  rw[Ya,tl,Yl (Yc _)]
  generalize eU:upd H' p _=H3
  have k2:=nS hp eU
  have ep:=nE eU
  clear eU
  refine⟨_,_,k2 _ _ e1,ep,small (by rw[Ya,Ya];show 2+_<=1000;omega),fun l2 hl2=>?_⟩
  have ew:[V.str "rail",V.str (num vt)]++(cs.map fun c:Nat×Nat=>num c.1++"/"++num c.2).map V.str=(Row8.rail vt cs).words.map V.str:=by
    rw[rail_words,Yi]
    rfl
  rw[ew]
  generalize eU:upd H3 l2 _=H4
  have k3:=nS hl2 eU
  have e3:=nE eU
  clear eU
  have g4:=g2.trans (k2.trans k3)
  have fine:(Row8.rail vt cs).fine:=⟨by omega,⟨hc16.1,by omega⟩,fun m hm=>⟨by have:=(hcs m hm).1;omega,by have:=(hcs m hm).2;omega⟩⟩
  have et04:=(k1.trans (k2.trans k3)) _ _ et0
  have ecl4:=(k2.trans k3) _ _ ecl2
  have gcs4:∀(i:Nat)(x:V),(ts.map V.ref)[i]? =some x->∃t m,x= .ref t/\cs[i]? =some m/\H4 t=some (.tup [.int ((m.1:Nat):Int),.int ((m.2:Nat):Int)]):=fun i x hx=>by
    obtain⟨t,m,a,b,e,_⟩:=gcs i x hx
    exact⟨t,m,a,b,(k2.trans k3) _ _ e⟩
  have jok:JoinOk " " (Row8.rail vt cs).words=true:=by
    refine join_ok (B:=13) (fun y hy=>?_) ?_
    · rw [rail_words]at hy
      rcases YG.mp hy with hy | hy
      · rcases Yr.mp hy with rfl | hy
        · decide +kernel
        · rw[Yg.mp hy];exact Ye (num_len (by omega)) (by decide)
      · obtain⟨m,hm,rfl⟩:=YI.mp hy
        exact chl m hm
    · have e32:(" ":Str).length=1:=by decide +kernel
      rw[rail_words,Yj,Ya,e32]
      show (2+_)*13+(2+_)*1<=_
      omega
  refine⟨_,e3,jok,d,st,wp,o,dw,.rail vt cs,nb,_,rfl,rfl,hJ.dk.same g4,fine,hz,by omega,by omega,fun t H8 st2 wp2 o2 dw2 w1 w2 hD8 m8 et8 ans=>?_⟩
  obtain⟨hJ8,mm⟩:=(hJ.same g4).asked hD8 m8
  have M8:=(Mv.of g4).trans mm
  have et0':=m8.1 _ _ et04 (.inr ⟨_,rfl⟩)
  have ncl:¬ o cl:=fun z=>hJ.dk.al cl z ncl0
  have ecl8:=m8.1 _ _ ecl4 (.inl ncl)
  have gcs8:∀(i:Nat)(x:V),(ts.map V.ref)[i]? =some x->∃t m,x= .ref t/\cs[i]? =some m/\H8 t=some (.tup [.int ((m.1:Nat):Int),.int ((m.2:Nat):Int)]):=fun i x hx=>by
    obtain⟨t,m,a,b,e⟩:=gcs4 i x hx
    exact⟨t,m,a,b,m8.1 _ _ e (.inr ⟨_,rfl⟩)⟩
  clear gcs4 gcs tt2 tt ecl4 et04 k3 k2 k1 ep e1 e3 ecl2
  have bad:∀H9 t2,¬ RlOk vt cs->Same H8 H9->H9 t2=none->∀o',o'=HO.tup [.str "refused",.str "post"]->∃dd,DV K (upd H9 t2 o') (.ref t) dd/\DV K (upd H9 t2 o') (.ref t2) dd/\SeqAt.shaped dd=true/\ [sv,V.bl true].length<=sizeLine/\∀t3,upd H9 t2 o' t3=none->Q (.ref t3) (upd (upd H9 t2 o') t3 (.tup [sv,.bl true])):=fun H9 t2 no g9 ht2 o' eo=>by
    subst eo
    rw[(desk_rail st wp).2 no]at ans
    cases ans
    have g10:=g9.trans (same_new ht2 (.tup [.str "refused",.str "post"]))
    refine⟨_,dv_ss (g10 _ _ et8),dv_ss upd_same,shaped_ss (low_lit (by decide +kernel)) (rfW_low .post),small_lit rfl,fun t3 ht3=>?_⟩
    have g11:=g10.trans (same_new ht3 (.tup [sv,.bl true]))
    exact q t3 sv st _ (Or2 o2 lc) upd_same ⟨wp,o2,dw2,lc,hJ8.same g11,fun R hR=>(hz R hR).le (by omega),by omega,rfl⟩ (M8.trans (Mv.of g11))
  have rli:=rl_iff (v:=vt) hc16.1 fun m hm=>(hcs m hm).2
  refine⟨_,_,SqT.of et0',atI_nat (j:=0) rfl,small_lit rfl,fun t1 ht1=>?_⟩
  generalize eU:upd H8 t1 _=H9
  have k4:=nS ht1 eU
  have e4:=nE eU
  clear eU
  refine⟨[1,3,5],.inr (SqT.of e4),?_⟩
  have hin:decide (((vt:Nat):Int)∈([1,3,5]:List Int))=decide (vt=1\/vt=3\/vt=5):=decide_eq_decide.mpr (by
    simp only[Yr,List.not_mem_nil,or_false]
    omega)
  rw[hin]
  by_cases cv:vt=1\/vt=3\/vt=5
  rotate_left
  · rw[Ys cv]
    exact⟨small_lit rfl,fun t2 ht2=>bad H9 t2 (fun z=>cv (rli.mp z).1) k4 ht2 _ rfl⟩
  rw[Yw cv]
  refine⟨_,.ref cl,SqT.of (k4 _ _ et0'),atI_nat (j:=1) rfl,_,.inl (SqL.of (k4 _ _ ecl8)),?_⟩
  rw[Ya,tl]
  obtain⟨cn,ecn⟩:∃cn,cn=cs.length:=⟨_,rfl⟩
  rw[<-ecn]
  conv=>whnf
  refine ite2 (fun c1=>?_) (fun c1=>?_)
  · have c2:(5:Int)<((cn:Nat):Int):=dec_true c1
    exact⟨small_lit rfl,fun t2 ht2=>bad H9 t2 (fun z=>by have:=(rli.mp z).2.1;omega) k4 ht2 _ rfl⟩
  have c2:¬ (5:Int)<((cn:Nat):Int):=dec_false c1
  refine⟨_,.ref cl,SqT.of (k4 _ _ et0'),atI_nat (j:=1) rfl,⟨_,SqL.of (k4 _ _ ecl8)⟩,comp_list (xs:=ts.map V.ref) (fun i ys H'=>ys=(itg ((cs.take i).map (·.1))).map V.int/\H'=H9) ?_ ⟨rfl,rfl⟩ ?_ ?_ ?_⟩
  · rintro i ys H' hi ⟨rfl,_⟩
    rw[Ya,Ya,Ya,YC]
    exact small1 (by omega)
  · rintro i ys H' hi ⟨_,rfl⟩
    exact SqL.of (k4 _ _ ecl8)
  · rintro i x ys H' hx ⟨rfl,rfl⟩
    obtain⟨t',m,rfl,hm,et⟩:=gcs8 i x hx
    have hi:i<cs.length:=(Yb.mp hm).1
    have em:cs[i]=m:=(Yb.mp hm).2
    refine⟨_,_,SqT.of (k4 _ _ et),atI_nat (j:=0) rfl,?_,rfl⟩
    rw[Yp hi,em]
    simp[itg]
  rintro ys H' ⟨rfl,rfl⟩ p9 hp9
  rw[Ya,tl,Yl (Yc _)]
  have k5:=k4.trans (same_new hp9 (.lst ((itg (cs.map (·.1))).map V.int)))
  have e5:=upd_same (H:=H') (a:=p9) (o:= .lst ((itg (cs.map (·.1))).map V.int))
  generalize upd H' p9 _=H10 at k5 e5
  refine⟨p9,_,rfl,SqL.of e5,?_⟩
  cases hgb:goodB (itg (cs.map (·.1))) with
  |false=>exact⟨small_lit rfl,fun t2 ht2=>bad H10 t2 (fun z=>by have:=(rli.mp z).2.2;rw[hgb]at this;cases this) k5 ht2 _ rfl⟩
  |true=>
  have ok:RlOk vt cs:=rli.mpr ⟨cv,by omega,hgb⟩
  rw[(desk_rail st wp).1 ok]at ans
  cases ans
  refine⟨_,.ref cl,SqT.of (k5 _ _ et0'),atI_nat (j:=1) rfl,⟨_,SqL.of (k5 _ _ ecl8)⟩,comp_list (xs:=ts.map V.ref) (fun i ys H'=>∃ls:List Addr,ys=ls.map V.ref/\ls.length=i/\Same H10 H'/\ls.Nodup/\∀a∈ls,H10 a=none/\H' a=some (.lst [])) ?_ ⟨[],rfl,rfl,Same.refl _,List.nodup_nil,fun a z=>nomatch z⟩ ?_ ?_ ?_⟩
  · rintro i ys H' hi ⟨ls,rfl,hl,_⟩
    rw[Ya]
    rw[Ya]at hi
    exact small1 (by omega)
  · rintro i ys H' hi ⟨_,_,_,g',_⟩
    exact SqL.of (g' _ _ (k5 _ _ ecl8))
  · rintro i x ys H' hx ⟨ls,rfl,hl,g',nd',ha⟩
    refine⟨small_lit rfl,fun a1 ha1=>⟨ls++[a1],by rw[Yi];rfl,by rw[Yj,hl];rfl,g'.trans (same_new ha1 _),?_,fun a hm=>?_⟩⟩
    · exact List.nodup_append.mpr ⟨nd',by simp,fun x hx y hy=>by rw[Yg.mp hy];exact fun e=>by rw[<-e,(ha x hx).2]at ha1;cases ha1⟩
    · rcases YG.mp hm with hm | hm
      · exact⟨(ha a hm).1,same_new ha1 _ _ _ (ha a hm).2⟩
      · rw[Yg.mp hm]
        exact⟨g'.none ha1,upd_same⟩
  rintro ys H' ⟨ls,rfl,hl,g',nd',ha⟩ L hL
  rw[Ya,tl]at hl
  have k6:=same_new hL (.lst (ls.map V.ref))
  have eL:=upd_same (H:=H') (a:=L) (o:= .lst (ls.map V.ref))
  have hL10:=g'.none hL
  have nLs:L∉ls:=fun z=>by rw[(ha L z).2]at hL;cases hL
  have ha6:∀a∈ls,upd H' L (.lst (ls.map V.ref)) a=some (.lst []):=fun a hm=>k6 _ _ (ha a hm).2
  generalize upd H' L _=H11 at k6 eL ha6
  refine fun D hD=>⟨small_lit rfl,fun t5 ht5=>⟨small_lit rfl,fun t6 ht6=>?_⟩⟩
  have k7:=same_new hD (.dK [])
  have eD:=upd_same (H:=H11) (a:=D) (o:= .dK [])
  generalize upd H11 D _=H12 at k7 eD ht5 ht6 ⊢
  have k8:=same_new ht5 (.tup [.ref L,.ref D])
  have e5':=upd_same (H:=H12) (a:=t5) (o:= .tup [.ref L,.ref D])
  generalize upd H12 t5 _=H13 at k8 e5' ht6 ⊢
  have k9:=same_new ht6 (.tup [.str "told",.str "ok"])
  have e6:=upd_same (H:=H13) (a:=t6) (o:= .tup [.str "told",.str "ok"])
  generalize upd H13 t6 _=H14 at k9 e6 ⊢
  have gA:=k5.trans (g'.trans (k6.trans (k7.trans (k8.trans k9))))
  refine⟨_,dv_ss (gA _ _ et8),dv_ss e6,shaped_ss (low_lit (by decide +kernel)) (low_lit (by decide +kernel)),small_lit rfl,fun t7 ht7=>?_⟩
  have k10:=same_new ht7 (.tup [.ref t5,.bl true])
  have k7a:=k7.trans (k8.trans (k9.trans k10))
  have k6a:=k6.trans k7a
  have gB:=gA.trans k10
  have e7:=upd_same (H:=H14) (a:=t7) (o:= .tup [.ref t5,.bl true])
  generalize upd H14 t7 _=H15 at k10 k7a k6a gB e7 ⊢
  have lv:LawV H15 (fun x=>x∈L::D::ls) (.ref t5) (some (R0 (chI cs) ((vt:Nat):Int))):=by
    refine LawV.new ((k9.trans k10) _ _ e5') (k7a _ _ eL) ((k8.trans (k9.trans k10)) _ _ eD) hl (fun a hm=>k6a _ _ (ha a hm).2) (Y0.mpr ⟨fun z=>?_,Y0.mpr ⟨fun z=>?_,nd'⟩⟩)
    · rcases Yr.mp z with z | z
      · rw[<-z,eL]at hD;cases hD
      · exact nLs z
    · rw[k6 _ _ (ha D z).2]at hD;cases hD
  have frs:∀x,x∈L::D::ls->H8 x=none:=fun x hx=>by
    rcases Yr.mp hx with rfl | hx
    · exact(k5.trans g').none hL
    · rcases Yr.mp hx with rfl | hx
      · exact(k5.trans (g'.trans k6)).none hD
      · exact k5.none (ha x hx).1
  have all:∀x,x∈L::D::ls->H15 x≠none:=fun x hx=>by
    rcases Yr.mp hx with rfl | hx
    · rw[k7a _ _ eL];simp
    · rcases Yr.mp hx with rfl | hx
      · rw[(k8.trans (k9.trans k10)) _ _ eD];simp
      · rw[k6a _ _ (ha x hx).2];simp
  obtain⟨hJ9,m9⟩:=hJ8.moved lv all ⟨Keep.of gB,fun x hx=> .inr (frs x hx)⟩
  exact q t7 (.ref t5) _ H15 _ e7 ⟨[],o2,dw2,_,hJ9,fun R hR=>(by cases hR;exact Z83.new _),YO _,rfl⟩ (M8.trans m9)
-- def _law_step
variable (G__law_step:FB P w K mg base (CX0) 16 "_law_step" a__law_step d__law_step ["_law_desk","_law_state","_law_cell","_law_names"] (spStep8 K a_Desk a_Rail CA))
include m_NoFrame m_NoPost m_Rail m_NoName m_NoThing m_Desk m_NoRail m_RailError m_len m_str G__law_mix G__law_name G__law_asked G__law_hand_step G__law_rail_step in
theorem ok__law_step (F0:GFm K mg "_law_step" s__law_step a__law_step d__law_step):type_of% G__law_step:=by
  refine fbK ["_law_desk","_law_state","_law_cell","_law_names","_law_way","_law_post","_law_head","_law_row","_law_waiting","_law_due"] F0 fun H Q nd hr h=>?_
  obtain⟨d,sv,st,nb,oo,c,nl,ns,rfl,hj,nb7,en,ln,hn,q⟩:=h
  refine⟨_,(pss_cons (ps_set (i:=4) nd rfl (Or.inl rfl) (pe_call G__law_mix.1 hr.mo rfl G__law_mix.2.2.2 G__law_mix.2.2.1 G__law_mix.2.1 .nil pass0 (pa_cons (dv 2) (pa_cons pe_int (pa_cons pe_int pa_nil))))) (pss_cons (ps_set (i:=5) nd rfl (Or.inl rfl) (pe_op z_mod (pe_call G__law_mix.1 hr.mo rfl G__law_mix.2.2.2 G__law_mix.2.2.1 G__law_mix.2.1 .nil pass0 (pa_cons (dv 2) (pa_cons pe_int (pa_cons pe_int pa_nil)))) (pe_op z_add pe_int (pe_call G__law_mix.1 hr.mo rfl G__law_mix.2.2.2 G__law_mix.2.2.1 G__law_mix.2.1 .nil pass0 (pa_cons (dv 2) (pa_cons pe_int (pa_cons pe_int pa_nil))))))) (pss_tok (psp_setB (i:=6) nd rfl (Or.inl rfl) z_addS (pe_callTy z_strI rfl m_str bt_str (pa_cons (dv 5) pa_nil))) (psst_cons (pst_of (ps_if (PW.pt (pw_or (md_cmp z_eq (dv 4) pe_int (nomark _)) (pw_or1 (PW.pt (pw_and (md_cmp z_isN (dv 1) pe_non (nomark _)) (pw_and1 (md_cmp z_gt (dv 4) pe_int (nomark _)))))))) (pss_one (ps_ret (pe_call G__law_rail_step.1 hr.mo rfl G__law_rail_step.2.2.2 G__law_rail_step.2.2.1 G__law_rail_step.2.1 .nil pass0 (pa_cons (dv 0) (pa_cons (dv 1) (pa_cons (dv 2) pa_nil)))))) pss_nil)) (psst_cons (pst_of (ps_if (md_cmp z_lt (dv 4) pe_int (nomark _)) (pss_one (ps_ret (pe_tup (pa_cons (dv 1) (pa_cons (pe_call G__law_hand_step.1 hr.mo rfl G__law_hand_step.2.2.2 G__law_hand_step.2.2.1 G__law_hand_step.2.1 .nil pass0 (pa_cons (dv 0) (pa_cons (dv 1) (pa_cons (dv 2) (pa_cons (dv 3) (pa_cons (dv 5) pa_nil)))))) pa_nil))))) pss_nil)) (psst_cons (pst_of (ps_set (i:=7) nd rfl (Or.inl rfl) (pe_ix z_ixL (pe_lst (pa_cons (pe_op z_addS (pe_op z_addS pe_str (dv 6)) (pe_callTy z_strI rfl m_str bt_str (pa_cons (pe_call G__law_mix.1 hr.mo rfl G__law_mix.2.2.2 G__law_mix.2.2.1 G__law_mix.2.1 .nil pass0 (pa_cons (dv 2) (pa_cons pe_int (pa_cons pe_int pa_nil)))) pa_nil))) (pa_cons (pe_op z_addS (pe_op z_addS pe_str (dv 6)) pe_str) (pa_cons (pe_op z_addS (pe_op z_addS pe_str (dv 6)) pe_str) (pa_cons (pe_op z_addS (pe_op z_addS pe_str (dv 6)) (pe_callTy z_strI rfl m_str bt_str (pa_cons (pe_call G__law_name.1 hr.mo rfl G__law_name.2.2.2 G__law_name.2.2.1 G__law_name.2.1 .nil pass0 (pa_cons (dv 2) (pa_cons (dv 3) pa_nil))) pa_nil))) (pa_cons (pe_op z_addS (pe_op z_addS pe_str (dv 6)) pe_str) (pa_cons (pe_op z_addS (pe_op z_addS pe_str (dv 6)) pe_str) (pa_cons (pe_op z_addS (pe_op z_addS (pe_op z_addS (pe_op z_addS pe_str (dv 6)) (pe_callTy z_strI rfl m_str bt_str (pa_cons (pe_call G__law_mix.1 hr.mo rfl G__law_mix.2.2.2 G__law_mix.2.2.1 G__law_mix.2.1 .nil pass0 (pa_cons (dv 2) (pa_cons pe_int (pa_cons pe_int pa_nil)))) pa_nil))) pe_str) (pe_callTy z_strI rfl m_str bt_str (pa_cons (pe_call G__law_mix.1 hr.mo rfl G__law_mix.2.2.2 G__law_mix.2.2.1 G__law_mix.2.1 .nil pass0 (pa_cons (dv 2) (pa_cons pe_int (pa_cons pe_int pa_nil)))) pa_nil))) pa_nil)))))))) (pe_op z_sub (dv 4) pe_int) (fun _ _=>rfl)))) (psst_cons (pst_repl (i:=7) nd rfl (Or.inl rfl) (dv 7)) (psst_of (pss_cons (ps_if (md_cmp z_isN (dv 1) pe_non (nomark _)) (pss_one (ps_ret (pe_tup (pa_cons (dv 1) (pa_cons (pe_cmpR (z_eqS hr.units) (pe_call G__law_asked.1 hr.mo rfl G__law_asked.2.2.2 G__law_asked.2.2.1 G__law_asked.2.1 .nil pass0 (pa_cons (dv 0) (pa_cons (dv 7) pa_nil))) (pe_tup (pa_cons pe_str (pa_cons pe_str pa_nil))) (nomark _)) pa_nil))))) pss_nil) (pss_cons (ps_if (md_cmp z_ge (dv 5) (pe_callB z_len rfl m_len bt_len (pa_cons (pe_ix z_ixT (dv 1) pe_int (fun _ _=>rfl)) pa_nil)) (nomark _)) (pss_one (ps_ret (pe_tup (pa_cons (dv 1) (pa_cons (pe_cmpR (z_eqS hr.units) (pe_call G__law_asked.1 hr.mo rfl G__law_asked.2.2.2 G__law_asked.2.2.1 G__law_asked.2.1 .nil pass0 (pa_cons (dv 0) (pa_cons (dv 7) pa_nil))) (pe_tup (pa_cons pe_str (pa_cons pe_str pa_nil))) (nomark _)) pa_nil))))) pss_nil) (pss_cons (ps_set (i:=8) nd rfl (Or.inl rfl) (md_join pe_str (pa_cons (pe_ix z_ixL (pe_ix z_ixT (dv 1) pe_int (fun _ _=>rfl)) (dv 5) (fun _ _=>rfl)) pa_nil))) (pss_cons (ps_set (i:=9) nd rfl (Or.inl rfl) (pe_ix z_ixL (pe_lst (pa_cons pe_str (pa_cons pe_str (pa_cons (dv 8) (pa_cons pe_str (pa_cons pe_str (pa_cons pe_str (pa_cons pe_str pa_nil)))))))) (pe_op z_sub (dv 4) pe_int) (fun _ _=>rfl))) (pss_one (ps_ret (pe_tup (pa_cons (dv 1) (pa_cons (pe_cmpR (z_eqS hr.units) (pe_call G__law_asked.1 hr.mo rfl G__law_asked.2.2.2 G__law_asked.2.2.1 G__law_asked.2.1 .nil pass0 (pa_cons (dv 0) (pa_cons (dv 7) pa_nil))) (pe_tup (pa_cons pe_str (pa_cons (dv 9) pa_nil))) (nomark _)) pa_nil))))))))))))))))),?_⟩
  refine⟨c,1,16,rfl,by decide,by decide,by decide,fun wy hwy=>?_⟩
  refine⟨c,5,6,rfl,by decide,by decide,by decide,fun p1 hp1=>?_⟩
  refine⟨c,14,6,rfl,by decide,by decide,by decide,fun p2 hp2=>?_⟩
  obtain⟨k,ek⟩:∃k:Nat,k=p1 % (1+p2):=⟨_,rfl⟩
  have hk5:k<=5:=by
    have:=Nat.mod_le p1 (1+p2)
    omega
  refine⟨(by show (0:Int)<1+((p2:Nat):Int);omega),?_⟩
  rw[show ((fun i j:Int=>V.int (i % j)) ((p1:Nat):Int) (1+((p2:Nat):Int)))=V.int ((k:Nat):Int) from by rw[ek];exact YE V.int (by rw[show (1:Int)+((p2:Nat):Int)=((1+p2:Nat):Int) from by omega];rfl)]
  have hk6:k<10 ^ 6:=by omega
  have e1:(" ":Str).length=1:=by decide +kernel
  have nk:=num_len hk6
  refine⟨log2_small hk6,szl (Ye (YA nk (Nat.le_of_eq e1)) (by decide)),?_⟩
  have hh8:(num k++" ").length<=8:=by rw[Yx,e1];omega
  have railQ:spRailStep8 K a_Desk a_Rail CA [.ref d,sv,.int c] H Q E0:=⟨d,sv,st,nb,oo,c,rfl,hj,nb7,q⟩
  obtain⟨wp,o,dw,lc,hJ,hz,hwl,eoo⟩:=hj.ex
  have l15:∀w:Str,w.length<=7->(w++(num k++" ")).length<=15:=fun w h=>by rw[Yx];omega
  conv=>whnf
  refine ite2 (fun c0=>railQ) (fun c0=>?_)
  cases st with
  | none=>
    have esv:sv= .non:=hJ.lw
    subst esv
    conv=>whnf
    refine ite2 (fun c1=>railQ) (fun c1=>?_)
    have c2:¬ (3:Int)<((wy:Nat):Int):=dec_false c1
    refine iteTd (by omega) ?_
    refine⟨d,.non,none,nb,oo,c,nl,ns,k,rfl,hj,nb7,by omega,en,ln,hn,fun H' st' oo' j8 m=>⟨small_lit rfl,fun t ht=>?_⟩⟩
    exact q t .non st' _ oo' upd_same (j8.same (same_new ht _)) (m.trans (Mv.of (same_new ht _)))
  |some R=>
  obtain⟨ts,L,D,ls,esv,ets,hC,hll,hlc⟩:=hJ.lw
  subst esv
  conv=>whnf
  refine ite2 (fun c1=>?_) (fun c1=>?_)
  · refine⟨d,.ref ts,some R,nb,oo,c,nl,ns,k,rfl,hj,nb7,by omega,en,ln,hn,fun H' st' oo' j8 m=>⟨small_lit rfl,fun t ht=>?_⟩⟩
    exact q t (.ref ts) st' _ oo' upd_same (j8.same (same_new ht _)) (m.trans (Mv.of (same_new ht _)))
  have c2:¬ ((wy:Nat):Int)<9:=dec_false c1
  refine⟨szl (Ye (YA (show ("wrong ":Str).length<=7 by decide +kernel) hh8) (by decide)),c,7,400,rfl,by decide,by decide,by decide,fun tt htt=>⟨log2_small (by omega),szl (Ye (YA (l15 "wrong " (by decide +kernel)) (num_len (n:=tt) (by omega))) (by decide)),?_⟩⟩
  refine⟨szl (Ye (YA (show ("got ":Str).length<=7 by decide +kernel) hh8) (by decide)),szl (Ye (YA (l15 "got " (by decide +kernel)) (show ("x":Str).length<=1 by decide +kernel)) (by decide)),szl (Ye (YA (show ("waits ":Str).length<=7 by decide +kernel) hh8) (by decide)),szl (Ye (YA (l15 "waits " (by decide +kernel)) (show ("x":Str).length<=1 by decide +kernel)) (by decide)),szl (Ye (YA (show ("things ":Str).length<=7 by decide +kernel) hh8) (by decide)),c,nl,ns,rfl,en,ln,hn,fun n hn3=>⟨log2_small (by omega),szl (Ye (YA (l15 "things " (by decide +kernel)) (num_len (n:=n) (by omega))) (by decide)),?_⟩⟩
  refine⟨szl (Ye (YA (show ("faults ":Str).length<=7 by decide +kernel) hh8) (by decide)),szl (Ye (YA (l15 "faults " (by decide +kernel)) (show ("x":Str).length<=1 by decide +kernel)) (by decide)),szl (Ye (YA (show ("stance ":Str).length<=7 by decide +kernel) hh8) (by decide)),szl (Ye (YA (l15 "stance " (by decide +kernel)) (show ("x":Str).length<=1 by decide +kernel)) (by decide)),szl (Ye (YA (show ("draw ":Str).length<=7 by decide +kernel) hh8) (by decide)),c,8,900,rfl,by decide,by decide,by decide,fun s hs=>⟨log2_small (by omega),szl (Ye (YA (l15 "draw " (by decide +kernel)) (num_len (n:=s) (by omega))) (by decide)),?_⟩⟩
  have l22:(("draw ":Str)++(num k++" ")++num s).length<=21:=by
    have:=l15 "draw " (by decide +kernel)
    have:=num_len (n:=s) (by omega)
    rw[Yx]
    omega
  refine⟨szl (Ye (YA l22 (Nat.le_of_eq e1)) (by decide)),c,9,401,rfl,by decide,by decide,by decide,fun e he=>⟨log2_small (by omega),szl (Ye (YA (show (("draw ":Str)++(num k++" ")++num s++" ").length<=22 by rw[Yx,e1];omega) (num_len (n:=e) (by omega))) (by decide)),small_lit rfl,fun l hl=>?_⟩⟩
  have g1:=same_new hl (.lst ((askTx k tt n s e).map V.str))
  have el:=upd_same (H:=H) (a:=l) (o:= .lst ((askTx k tt n s e).map V.str))
  obtain⟨j,ej,hj7⟩:∃j:Nat,((wy:Nat):Int)-9=((j:Nat):Int)/\j<7:=⟨wy-9,by omega,by omega⟩
  obtain⟨tx,htx⟩:∃tx,(askTx k tt n s e)[j]? =some tx:=⟨_,Yd (show j<7 from hj7)⟩
  refine⟨(askTx k tt n s e).map V.str,.str tx,SqL.of el,?_,?_⟩
  · show atI _ (((wy:Nat):Int)-9)=_
    rw[ej]
    exact atI_nat (by rw[Yk,htx];rfl)
  change (fun H1=>_) (upd H l (.lst ((askTx k tt n s e).map V.str)))
  generalize upd H l (.lst ((askTx k tt n s e).map V.str))=H1 at g1 el
  obtain⟨tl9,r,hr,fine,erp⟩:=askTx_ok hk5 (by omega) (by omega) (by omega) (by omega) htx
  have e0:("":Str).length=0:=by decide +kernel
  refine⟨by decide +kernel,by rw[e0];omega,?_⟩
  rw[erp]
  obtain⟨_,aP,aO⟩:=ask_all (R:=R) (wp:=wp) hr
  have hJ1:=hJ.same g1
  have hzR:=hz R rfl
  have fin:∀(H8:Hp)(st2:Option RS)(wp2:Wp)(o2:Own)(dw2:DeskW),DeskAt a_Desk a_Rail CA H8 d st2 wp2 o2 dw2->∀Ha,Same H Ha->Mv o Ha o2 H8->st2=some R->wp2.length<=nb+16->∀H9,Same H8 H9->∀t9,H9 t9=none->Q (.ref t9) (upd H9 t9 (.tup [.ref ts,.bl true])):=fun H8 st2 wp2 o2 dw2 hD8 Ha ga m8 es hw H9 g9 t9 ht9=>by
    subst es
    obtain⟨hJ8,mm⟩:=(hJ.same ga).asked hD8 m8
    have g10:=g9.trans (same_new ht9 (.tup [.ref ts,.bl true]))
    refine q t9 (.ref ts) (some R) _ (Or2 o2 lc) upd_same ⟨wp2,o2,dw2,lc,hJ8.same g10,fun R' z=>(hz R' z).le (by omega),hw,rfl⟩ ?_
    rw[eoo]
    exact(Mv.of ga).trans (mm.trans (Mv.of g10))
  refine⟨_,_,SqT.of (g1 _ _ ets),atI_nat (j:=0) rfl,_,.inl (SqL.of (g1 _ _ (hC.at_ 0 _ rfl))),?_⟩
  rw[Ya,hll]
  obtain⟨pn,epn⟩:∃pn,pn=R.ps.length:=⟨_,rfl⟩
  rw[<-epn]
  conv=>whnf
  refine ite2 (fun c3=>?_) (fun c3=>?_)
  · have c4:((pn:Nat):Int)<=((k:Nat):Int):=dec_true c3
    refine⟨d,some R,wp,o,dw,r,nb,_,rfl,rfl,hJ1.dk,fine,hz,by omega,by omega,fun t H8 st2 wp2 o2 dw2 w1 w2 hD8 m8 et8 ans=>?_⟩
    rw[aP (by omega)]at ans
    cases ans
    refine⟨small_lit rfl,fun t2 ht2=>⟨_,dv_ss (same_new ht2 _ _ _ et8),dv_ss upd_same,shaped_ss (low_lit (by decide +kernel)) (rfW_low .post),small_lit rfl,fun t9 ht9=>?_⟩⟩
    exact fin H8 _ _ o2 dw2 hD8 H1 g1 m8 rfl (by omega) _ (same_new ht2 _) t9 ht9
  have c4:¬ ((pn:Nat):Int)<=((k:Nat):Int):=dec_false c3
  have hk:k<R.ps.length:=by omega
  obtain⟨S,eS⟩:∃S,R.ps[k]? =some S:=⟨_,Yd hk⟩
  obtain⟨la,hla⟩:∃la,ls[k]? =some la:=⟨_,Yd (by omega)⟩
  obtain⟨wp',du,hdu,edu,hwp'⟩:=aO S nb eS hzR
  have ela:H la=some (.lst ((S.wt.map frT).map V.str)):=hC.at_ (k+2) (la,.lst ((S.wt.map frT).map V.str)) (by
    show (List.zipWith _ ls R.ps)[k]? =_
    rw[Xk,hla,eS])
  have hwf:∀f∈S.wt,FrN f:=by
    obtain⟨r0,_,wR,hR⟩:=hJ.dk.rl
    obtain⟨p0,oi,_,hP⟩:=hR.at eS
    exact hP.wf.wt
  have hwt:=(hzR.ps S (Yq eS)).2.2.2
  refine⟨_,_,SqT.of (g1 _ _ ets),atI_nat (j:=0) rfl,_,.ref la,SqL.of (g1 _ _ (hC.at_ 0 _ rfl)),atI_nat (j:=k) (by rw[Yk,hla];rfl),_,g1 _ _ ela,frsT_ok hwf (by omega),small_lit rfl,fun l2 hl2=>?_⟩
  have g2:=g1.trans (same_new hl2 (.lst ((dueL S).map V.str)))
  have el2:=upd_same (H:=H1) (a:=l2) (o:= .lst ((dueL S).map V.str))
  refine⟨(dueL S).map V.str,.str du,SqL.of el2,?_,?_⟩
  · show atI _ (((wy:Nat):Int)-9)=_
    rw[ej]
    exact atI_nat (by rw[Yk,hdu];rfl)
  change (fun H2=>_) (upd H1 l2 (.lst ((dueL S).map V.str)))
  generalize upd H1 l2 (.lst ((dueL S).map V.str))=H2 at g2 el2
  refine⟨d,some R,wp,o,dw,r,nb,_,rfl,rfl,hJ.dk.same g2,fine,hz,by omega,by omega,fun t H8 st2 wp2 o2 dw2 w1 w2 hD8 m8 et8 ans=>?_⟩
  rw[edu]at ans
  cases ans
  refine⟨small_lit rfl,fun t2 ht2=>⟨_,dv_ss (same_new ht2 _ _ _ et8),dv_ss upd_same,shaped_ss (low_lit (by decide +kernel)) (due_low hwf hdu),small_lit rfl,fun t9 ht9=>?_⟩⟩
  exact fin H8 _ _ o2 dw2 hD8 H2 g2 m8 rfl (by omega) _ (same_new ht2 _) t9 ht9
-- def law
variable (G_law:FB P w K mg base (CX0) 17 "law" a_law d_law ["_law_script"] (spLaw K))
include m_NoFrame m_NoPost m_Rail m_NoName m_NoThing m_Desk m_NoRail m_RailError m_len m_range m_str fact_mk_Desk G_Desk_init G__law_mix G__law_asked G__law_step in
theorem ok_law (F0:GFm K mg "law" s_law a_law d_law):type_of% G_law:=by
  refine fbK ["_law_script","_law_desk","_law_state","_law_head","_law_names","_law_cell","_law_step_here","_law_post"] F0 fun H Q nd hr h=>?_
  obtain⟨a,ns,rfl,hS,h63,q⟩:=h
  refine⟨_,(pss_cons (ps_set (i:=1) nd rfl (Or.inl rfl) (pe_make0 fact_mk_Desk G_Desk_init.1 hr.mo rfl m_Desk G_Desk_init.2 .nil pass0)) (pss_cons (ps_set (i:=2) nd rfl (Or.inl rfl) pe_non) (pss_cons (ps_set (i:=3) nd rfl (Or.inr rfl) (pe_cut (pe_ifExp (md_cmp z_gt (pe_callB z_len rfl m_len bt_len (pa_cons (dv 0) pa_nil)) pe_int (nomark _)) (pe_ix z_ixL (dv 0) pe_int (fun _ _=>rfl)) pe_int))) (pss_cons (ps_setComp (j:=4) nd rfl rfl rfl (ix:=[3]) (mi_range1 rfl m_range (pa_cons pe_int pa_nil)) (fun C fp s0 H0 at0=>pts_nil) (fun C fp s0 H0 at0=>(pe_call G__law_mix.1 hr.mo rfl G__law_mix.2.2.2 G__law_mix.2.2.1 G__law_mix.2.1 .nil pass0 (pa_cons (dv 1) (pa_cons (pe_op z_add pe_int (dv 0)) (pa_cons pe_int pa_nil))))) rfl rfl (by rfl) (show ([".0","_law_k","_law_head"]:List Str).Nodup by decide +kernel)) (pss_cons (ps_for Xg rfl (mi_list (pe_slice z_slL (dv 0) po_none (md_part pe_int))) (pg_name (i:=5) nd rfl (Or.inl rfl)) (pss_cons (ps_set (i:=6) nd rfl (Or.inl rfl) (pe_call G__law_step.1 hr.mo rfl G__law_step.2.2.2 G__law_step.2.2.1 G__law_step.2.1 .nil pass0 (pa_cons (dv 1) (pa_cons (dv 2) (pa_cons (dv 5) (pa_cons (dv 4) pa_nil)))))) (pss_cons (ps_set (i:=2) nd rfl (Or.inl rfl) (pe_ix z_ixT (dv 6) pe_int (fun _ _=>rfl))) (pss_one (ps_if (pt_not (md_val (pe_ix z_ixT (dv 6) pe_int (fun _ _=>rfl)))) (pss_one (ps_ret pe_bl)) pss_nil))))) (pss_cons (ps_if (md_cmp z_isN (dv 2) pe_non (nomark _)) (pss_one (ps_ret (pe_cmpR (z_eqS hr.units) (pe_call G__law_asked.1 hr.mo rfl G__law_asked.2.2.2 G__law_asked.2.2.1 G__law_asked.2.1 .nil pass0 (pa_cons (dv 1) (pa_cons pe_str pa_nil))) (pe_tup (pa_cons pe_str (pa_cons pe_str pa_nil))) (nomark _)))) pss_nil) (pss_cons (ps_for Xg rfl (mi_range1 rfl m_range (pa_cons (pe_callB z_len rfl m_len bt_len (pa_cons (pe_ix z_ixT (dv 2) pe_int (fun _ _=>rfl)) pa_nil)) pa_nil)) (pg_name (i:=7) nd rfl (Or.inl rfl)) (pss_one (ps_if (md_cmp (z_neS hr.units) (pe_call G__law_asked.1 hr.mo rfl G__law_asked.2.2.2 G__law_asked.2.2.1 G__law_asked.2.1 .nil pass0 (pa_cons (dv 1) (pa_cons (pe_op z_addS pe_str (pe_callTy z_strI rfl m_str bt_str (pa_cons (dv 7) pa_nil))) pa_nil))) (pe_tup (pa_cons pe_str (pa_cons (md_join pe_str (pa_cons (pe_ix z_ixL (pe_ix z_ixT (dv 2) pe_int (fun _ _=>rfl)) (dv 7) (fun _ _=>rfl)) pa_nil)) pa_nil))) (nomark _)) (pss_one (ps_ret pe_bl)) pss_nil))) (pss_one (ps_ret (pe_cmpR (z_eqS hr.units) (pe_call G__law_asked.1 hr.mo rfl G__law_asked.2.2.2 G__law_asked.2.2.1 G__law_asked.2.1 .nil pass0 (pa_cons (dv 1) (pa_cons (pe_op z_addS pe_str (pe_callTy z_strI rfl m_str bt_str (pa_cons (pe_callB z_len rfl m_len bt_len (pa_cons (pe_ix z_ixT (dv 2) pe_int (fun _ _=>rfl)) pa_nil)) pa_nil))) pa_nil))) (pe_tup (pa_cons pe_str (pa_cons pe_str pa_nil))) (nomark _))))))))))),?_⟩
  refine fun d dx hd hdx hne=>⟨d,dx,rfl,upd_same,fun H1 wl hwl ed ew k1=>⟨rfl,?_⟩⟩
  have gm:Same H (upd (upd H dx (.own d)) d (.ins a_Desk dx [])):=fun z u e=>by rw[upd_ne (ne_of_none e hd),upd_ne (ne_of_none e hdx)];exact e
  have g1:Same H H1:=fun z u e=>k1 z u (ne_of_none e hd) (gm z u e)
  have hwl0:H wl=none:=gm.none hwl
  have hD1:DeskAt a_Desk a_Rail CA H1 d none [] (fun x=>x=d\/x=wl) ⟨dx,wl,.non, [],fun _=>False⟩:=⟨ed,ew,.nil,rfl,fun x hx=>hx.elim,.inl rfl,.inr rfl,fun x hx=>hx.elim,fun x hx=>by
    rcases hx with rfl | rfl
    · rw[ed];simp
    · rw[ew];simp⟩
  have hJ1:J8 a_Desk a_Rail CA H1 d .non none 0 (Or2 (fun x=>x=d\/x=wl) fun _=>False):=⟨[],_,_,_,⟨hD1,rfl,fun x hx=>hx.elim,fun x hx=>hx.elim⟩,fun R z=>(by cases z),Yc _,rfl⟩
  have hS1:=g1.seq hS
  refine⟨fun v H'=>(∃z,v= .int z)/\H'=H1,?_,?_⟩
  · refine⟨_,.inl hS1,?_⟩
    rw[Ya]
    obtain⟨nn,enn⟩:∃nn,nn=ns.length:=⟨_,rfl⟩
    rw[<-enn]
    conv=>whnf
    refine ite2 (fun c=>?_) (fun c=>⟨⟨_,rfl⟩,rfl⟩)
    have c1:(0:Int)<((nn:Nat):Int):=dec_true c
    exact⟨_,_,hS1,atI_nat (j:=0) (by rw[Yk,Yd (show 0<ns.length by omega)];rfl),⟨_,rfl⟩,rfl⟩
  rintro v H2 ⟨⟨hz0,rfl⟩,rfl⟩
  have em4:((4:Int)).toNat=4:=rfl
  refine⟨⟨by decide,by decide⟩,comp_range (fun i ys H'=>(∃ds:List Nat,ds.length=i/\(∀x∈ds,x<256)/\ys=(itg ds).map V.int)/\H'=H2) ?_ ⟨⟨[],rfl,fun _ h=>(by cases h),rfl⟩,rfl⟩ ?_ ?_⟩
  · rintro i ys H' hi ⟨⟨ds,hdl,_,rfl⟩,_⟩
    rw[em4]at hi
    refine small1 ?_
    rw[Ya,Ya]
    omega
  · rintro i ys H' hi ⟨⟨ds,hdl,hd',rfl⟩,rfl⟩
    rw[em4]at hi
    refine⟨hz0,_,256,rfl,by omega,by omega,by decide,fun x hx=>⟨⟨ds++[x],by rw[Yj,hdl];rfl,fun y hy=>?_,by simp[itg]⟩,rfl⟩⟩
    rcases YG.mp hy with hy | hy
    · exact hd' y hy
    · rw[Yg.mp hy];omega
  rintro ys H' ⟨⟨nm,hnl,hn2,rfl⟩,rfl⟩ nl hnl0
  have hnl4:nm.length=4:=hnl
  generalize eU:upd H' nl _=H3
  have k3:=nS hnl0 eU
  have en:=nE eU
  have hJ3:=hJ1.same k3
  have g3:=g1.trans k3
  have nnl:nl≠d/\nl≠wl:=⟨fun z=>(by rw[z,ed]at hnl0;cases hnl0),fun z=>(by rw[z,ew]at hnl0;cases hnl0)⟩
  clear eU
  refine⟨_,g3.seq hS,fun sl hsl=>?_⟩
  rw[show cutV (ns.map V.int) none (some 24)=(ns.take 24).map V.int from (cutV_take _ 24).trans (List.map_take ..).symm]
  generalize eU:upd H3 sl _=H4
  have k4:=nS hsl eU
  have es:=nE eU
  have hJ4:=hJ3.same k4
  have en4:=k4 _ _ en
  have nsl:sl≠d/\sl≠wl:=⟨fun z=>(by rw[z,k3 _ _ ed]at hsl;cases hsl),fun z=>(by rw[z,k3 _ _ ew]at hsl;cases hsl)⟩
  clear eU
  refine⟨⟨_,SqL.of es⟩,for_list (xs:=(ns.take 24).map V.int) (fun i σ H5=>∃sv st oo x5 x6,σ= [some (.ref a),some (.ref d),some sv,some (.int hz0),some (.ref nl),x5,x6,none]/\J8 a_Desk a_Rail CA H5 d sv st (16*i) oo/\(¬ oo nl/\H5 nl=some (.lst ((itg nm).map V.int)))/\¬ oo sl/\H5 sl=some (.lst ((ns.take 24).map V.int))) ⟨.non,none,_,_,_,rfl,hJ4,⟨fun z=>z.elim (fun z=>z.elim nnl.1 nnl.2) id,en4⟩,fun z=>z.elim (fun z=>z.elim nsl.1 nsl.2) id,es⟩ ?_ ?_ ?_⟩
  · rintro i σ H5 hi ⟨sv,st,oo,x5,x6,_,_,_,_,e5⟩
    exact SqL.of e5
  · rintro i v σ H5 hv ⟨sv,st,oo,x5,x6,rfl,hJ5,⟨no1,en5⟩,no2,es5⟩
    obtain⟨hi,rfl⟩:=get_int hv
    have hi24:i<24:=by rw[YC]at hi;omega
    refine⟨d,sv,st,16*i,oo,_,nl,nm,rfl,hJ5,by omega,en5,hnl4,hn2,fun t sv' st' H6 oo' et hJ6 m6=>?_⟩
    refine⟨_,_,SqT.of et,atI_nat (j:=0) rfl,_,_,SqT.of et,atI_nat (j:=1) rfl,?_⟩
    exact⟨sv',st',oo',_,_,rfl,hJ6.le (by omega),⟨m6.out en5 no1,m6.1 _ _ en5 (.inl no1)⟩,m6.out es5 no2,m6.1 _ _ es5 (.inl no2)⟩
  rintro σ H5 ⟨sv,st,oo,x5,x6,rfl,hJ5,_,_⟩
  have l24:((ns.take 24).map V.int).length<=24:=by rw[Ya,YC];omega
  obtain⟨wp,o,dw,lc,hJ,hz,hwl5,eoo⟩:=hJ5.ex
  obtain⟨nb,enb⟩:∃nb,nb=16*((ns.take 24).map V.int).length:=⟨_,rfl⟩
  rw[<-enb]at hz hwl5
  have nb8:nb<=400:=by omega
  have w0:∀k:Nat,("waits ":Str)++num k=Txt.join " " (Row8.waits k).words:=fun k=>by
    show _=Txt.join " " ["waits",num k]
    rw[join3,show ("waits ":Str)="waits"++" " from by decide +kernel]
  cases st with
  | none=>
    have esv:sv= .non:=hJ.lw
    subst esv
    have e0:("waits 0":Str)=Txt.join " " (Row8.waits 0).words:=by
      rw[<-w0 0]
      have e:num 0=txt (dgs 0):=num_txt 0
      rw[e]
      decide +kernel
    refine⟨d,none,wp,o,dw,.waits 0,nb,_,rfl,e0,hJ.dk,(by decide:0<10 ^ 6),hz,by omega,by omega,fun t H8 st2 wp2 o2 dw2 w1 w2 hD8 m8 et8 ans=>?_⟩
    rw[show deskP none wp (.waits 0)= .error .rail from rfl]at ans
    cases ans
    exact⟨small_lit rfl,fun t2 ht2=>⟨_,dv_ss (same_new ht2 _ _ _ et8),dv_ss upd_same,shaped_ss (low_lit (by decide +kernel)) (rfW_low .rail),q _⟩⟩
  |some R=>
  obtain⟨ts,L,D,ls,esv,ets,hC,hll,hlc⟩:=hJ.lw
  subst esv
  have hzR:=hz R rfl
  have hR5:R.ps.length<=5:=by
    obtain⟨r0,_,wR,hR⟩:=hJ.dk.rl
    exact hR.lp
  have hwf:∀(k:Nat)(S:PS),R.ps[k]? =some S->∀f∈S.wt,FrN f:=fun k S eS=>by
    obtain⟨r0,_,wR,hR⟩:=hJ.dk.rl
    obtain⟨p0,oi,_,hP⟩:=hR.at eS
    exact hP.wf.wt
  have e7:("waits ":Str).length<=6:=by decide +kernel
  refine⟨_,_,SqT.of ets,atI_nat (j:=0) rfl,_,.inl (SqL.of (hC.at_ 0 _ rfl)),⟨by rw[Ya];omega,by rw[Ya];omega⟩,?_⟩
  rw[Ya,hll,Xl]
  refine for_range (lo:=0) (n:=R.ps.length) (fun i σ H6=>(∃x7,σ= [some (.ref a),some (.ref d),some (.ref ts),some (.int hz0),some (.ref nl),x5,x6,x7])/\∃wp o dw,JJ a_Desk a_Rail CA H6 d (.ref ts) (some R) (some R) wp o dw lc/\wp.length<=400) ⟨⟨_,rfl⟩,wp,o,dw,hJ,by omega⟩ ?_ ?_
  · rintro i σ H6 hi ⟨⟨x7,rfl⟩,wp6,o6,dw6,hJ6,hw6⟩
    obtain⟨ts',L,D,ls,esv',ets,hC,hll,hlc⟩:=hJ6.lw
    cases esv'
    obtain⟨S,eS⟩:∃S,R.ps[i]? =some S:=⟨_,Yd hi⟩
    obtain⟨la,hla⟩:∃la,ls[i]? =some la:=⟨_,Yd (by omega)⟩
    have ela:H6 la=some (.lst ((S.wt.map frT).map V.str)):=hC.at_ (i+2) (la,.lst ((S.wt.map frT).map V.str)) (by
      show (List.zipWith _ ls R.ps)[i]? =_
      rw[Xk,hla,eS])
    have nla:lc la:=hlc (i+2) (la,.lst ((S.wt.map frT).map V.str)) (by
      show (List.zipWith _ ls R.ps)[i]? =_
      rw[Xk,hla,eS])
    have i6:i<10 ^ 6:=by omega
    have ez:(0:Int)+((i:Nat):Int)=((i:Nat):Int):=Int.zero_add _
    rw[ez]
    refine⟨log2_small i6,szl (Ye (YA e7 (num_len i6)) (by decide)),d,some R,wp6,o6,dw6,.waits i,nb,_,rfl,w0 i,hJ6.dk,i6,hz,by omega,by omega,fun t H8 st2 wp2 o2 dw2 w1 w2 hD8 m8 et8 ans=>?_⟩
    rw[show deskP (some R) wp6 (.waits i)= .ok (frsT S.wt,some R,wp6) from ask_some eS]at ans
    cases ans
    obtain⟨hJ8,_⟩:=hJ6.asked hD8 m8
    have ets8:=m8.1 _ _ ets (.inr ⟨_,rfl⟩)
    have eL8:=m8.1 _ _ (hC.at_ 0 _ rfl) (.inl (hJ6.dj _ (hlc 0 _ rfl)))
    have ela8:=m8.1 _ _ ela (.inl (hJ6.dj _ nla))
    have hwt:=(hzR.ps S (Yq eS)).2.2.2
    refine⟨_,_,SqT.of ets8,atI_nat (j:=0) rfl,_,.ref la,SqL.of eL8,?_,?_⟩
    · exact atI_nat (j:=i) (by rw[Yk,hla];rfl)
    refine⟨_,ela8,frsT_ok (hwf i S eS) (by omega),small_lit rfl,fun t2 ht2=>⟨_,dv_ss (same_new ht2 _ _ _ et8),dv_ss upd_same,shaped_ss (low_lit (by decide +kernel)) (frsT_low (hwf i S eS)),?_⟩⟩
    exact⟨⟨_,rfl⟩,wp6,o2,dw2,hJ8.same (same_new ht2 _),hw6⟩
  rintro σ H6 ⟨⟨x7,rfl⟩,wp6,o6,dw6,hJ6,hw6⟩
  obtain⟨ts',L,D,ls,esv',ets,hC,hll,hlc⟩:=hJ6.lw
  cases esv'
  refine⟨_,_,SqT.of ets,atI_nat (j:=0) rfl,_,.inl (SqL.of (hC.at_ 0 _ rfl)),?_⟩
  rw[Ya,hll]
  have i6:R.ps.length<10 ^ 6:=by omega
  refine⟨log2_small i6,szl (Ye (YA e7 (num_len i6)) (by decide)),d,some R,wp6,o6,dw6,.waits R.ps.length,nb,_,rfl,w0 _,hJ6.dk,i6,hz,by omega,by omega,fun t H8 st2 wp2 o2 dw2 w1 w2 hD8 m8 et8 ans=>?_⟩
  rw[show deskP (some R) wp6 (.waits R.ps.length)= .error .post from ask_none (Xa (Yc _))]at ans
  cases ans
  exact⟨small_lit rfl,fun t2 ht2=>⟨_,dv_ss (same_new ht2 _ _ _ et8),dv_ss upd_same,shaped_ss (low_lit (by decide +kernel)) (rfW_low .post),q _⟩⟩
-- def all_mk
set_option maxHeartbeats 0 in
include m_HIGHEST_BYTE m_HIGHEST_NAME m_NoFrame m_MOST_BYTES_frames m_OFF_FROM m_VOTES m_NoPost m_Count m_Free m_MOST_POSTS m_Post m_Rail m_NoName m_PIECE_BYTES m_NoThing m_MOST_BYTES_things m_MOST_FIGURES m_MOST_TURNS m_MOST_BITS m_SIGNS m_FIGURES m_STRIP_BITS m_FORMS m_Joiner m_Desk m_NoRail m_ANSWERS m_RailError m_Speaks m_Reads m_InTail m_Flagging m_Settles m_Rests m_Off m_Reader m_Streak m_ReadTail m_SpeakTail m_all m_len m_list m_max m_range m_int m_str m_isinstance fact_tup_VOTES fact_e_NoPost fact_e_NoFrame fact_e_NoName fact_e_NoThing fact_e_NoRail fact_cls_Count fact_cls_Free fact_cls_Post fact_mk_Count fact_mk_Free fact_cls_Rail fact_mk_Post fact_cls_Joiner fact_mk_Joiner fact_cls_Desk fact_mk_Rail fact_mk_Desk fact_meth_Count_is_off fact_meth_Count_number fact_meth_Free_shown fact_meth_Rail_post_at fact_meth_Post_hand fact_meth_Post_stance fact_meth_Post_waits fact_meth_Post_got fact_meth_Post_faults fact_meth_Post_is_off fact_meth_Joiner_end fact_meth_Rail_hand fact_meth_Rail_got fact_meth_Rail_waits fact_meth_Rail_faults fact_meth_Rail_stance fact_meth_Rail_is_off fact_meth_Rail_heard fact_meth_Desk_put_up fact_meth_Desk_say fact_forms fact_answers fact_na_Count_total fact_na_Free_since fact_na_Post_tally fact_na_Post_waiting fact_na_Post_handed_up fact_na_Post_choice fact_na_Post_votes fact_na_Post_now fact_na_Rail_posts fact_na_Rail_owners fact_na_Rail_borne fact_na_Rail_sayings fact_na_Rail_hearings fact_na_Rail_happened fact_na_Joiner_opened fact_na_Joiner_tag fact_na_Joiner_many fact_na_Joiner_had fact_na_Joiner_joined fact_na_Joiner_broken_tag fact_na_Desk_rail fact_na_Desk_wrong fact_exc_NoFrame fact_exc_NoPost fact_exc_NoName fact_exc_NoThing fact_exc_NoRail fact_n_NoPost_NoFrame fact_n_NoPost_NoName fact_n_NoPost_NoThing fact_n_NoPost_NoRail fact_n_NoFrame_NoPost fact_n_NoFrame_NoName fact_n_NoFrame_NoThing fact_n_NoFrame_NoRail fact_n_NoName_NoPost fact_n_NoName_NoFrame fact_n_NoName_NoThing fact_n_NoName_NoRail fact_n_NoThing_NoPost fact_n_NoThing_NoFrame fact_n_NoThing_NoName fact_n_NoThing_NoRail fact_n_NoRail_NoPost fact_n_NoRail_NoFrame fact_n_NoRail_NoName fact_n_NoRail_NoThing fact_m_NoPost fact_m_NoFrame fact_m_NoName fact_m_NoThing fact_m_NoRail in
theorem all_mk {l:W.OpenLaw}{fa:Addr}(hfa:mg "law"=some (.ref fa))
  :GF K mg "are_bytes" s_are_bytes a_are_bytes->GF K mg "is_name" s_is_name a_is_name->GF K mg "check_frame" s_check_frame a_check_frame->GF K mg "copies" s_copies a_copies->GF K mg "check_votes" s_check_votes a_check_votes->GF K mg "check_choice" s_check_choice a_check_choice->GF K mg "piece_of" s_piece_of a_piece_of->GF K mg "check_thing" s_check_thing a_check_thing->GF K mg "cut" s_cut a_cut->GF K mg "number_in" s_number_in a_number_in->GF K mg "choice_of" s_choice_of a_choice_of->GF K mg "value_of" s_value_of a_value_of->GF K mg "strip_of" s_strip_of a_strip_of->GF K mg "strips" s_strips a_strips->GF K mg "read_row" s_read_row a_read_row->GF K mg "dotted" s_dotted a_dotted->GF K mg "frames_text" s_frames_text a_frames_text->GF K mg "part_of" s_part_of a_part_of->GF K mg "things_of" s_things_of a_things_of->GF K mg "say_hand" s_say_hand a_say_hand->GF K mg "say_got" s_say_got a_say_got->GF K mg "say_waits" s_say_waits a_say_waits->GF K mg "say_faults" s_say_faults a_say_faults->GF K mg "say_stance" s_say_stance a_say_stance->GF K mg "say_wrong" s_say_wrong a_say_wrong->GF K mg "say_things" s_say_things a_say_things->GF K mg "say_draw" s_say_draw a_say_draw->GF K mg "say_thing" s_say_thing a_say_thing->GF K mg "_law_mix" s__law_mix a__law_mix->GF K mg "_law_byte" s__law_byte a__law_byte->GF K mg "_law_rail" s__law_rail a__law_rail->GF K mg "_law_name" s__law_name a__law_name->GF K mg "_law_data" s__law_data a__law_data->GF K mg "_law_is_good" s__law_is_good a__law_is_good->GF K mg "_law_pieces" s__law_pieces a__law_pieces->GF K mg "_law_asked" s__law_asked a__law_asked->GF K mg "_law_handed" s__law_handed a__law_handed->GF K mg "_law_hand_step" s__law_hand_step a__law_hand_step->GF K mg "_law_rail_step" s__law_rail_step a__law_rail_step->GF K mg "_law_step" s__law_step a__law_step->GF K mg "law" s_law a_law->MF K CA.count "__init__" "Count.__init__" s_Count_init a_Count_init->MF K CA.count "is_off" "Count.is_off" s_Count_is_off a_Count_is_off->MF K CA.count "number" "Count.number" s_Count_number a_Count_number->MF K CA.free "__init__" "Free.__init__" s_Free_init a_Free_init->MF K CA.free "shown" "Free.shown" s_Free_shown a_Free_shown->MF K CA.post "is_off" "Post.is_off" s_Post_is_off a_Post_is_off->MF K CA.post "faults" "Post.faults" s_Post_faults a_Post_faults->MF K CA.post "hand" "Post.hand" s_Post_hand a_Post_hand->MF K CA.post "waits" "Post.waits" s_Post_waits a_Post_waits->MF K CA.post "got" "Post.got" s_Post_got a_Post_got->MF K CA.post "__init__" "Post.__init__" s_Post_init a_Post_init->MF K CA.post "stance" "Post.stance" s_Post_stance a_Post_stance->MF K a_Rail "__init__" "Rail.__init__" s_Rail_init a_Rail_init->MF K a_Rail "post_at" "Rail.post_at" s_Rail_post_at a_Rail_post_at->MF K a_Rail "hand" "Rail.hand" s_Rail_hand a_Rail_hand->MF K a_Rail "stance" "Rail.stance" s_Rail_stance a_Rail_stance->MF K a_Rail "waits" "Rail.waits" s_Rail_waits a_Rail_waits->MF K a_Rail "got" "Rail.got" s_Rail_got a_Rail_got->MF K a_Rail "faults" "Rail.faults" s_Rail_faults a_Rail_faults->MF K a_Rail "is_off" "Rail.is_off" s_Rail_is_off a_Rail_is_off->MF K a_Rail "heard" "Rail.heard" s_Rail_heard a_Rail_heard->MF K a_Joiner "__init__" "Joiner.__init__" s_Joiner_init a_Joiner_init->MF K a_Joiner "end" "Joiner.end" s_Joiner_end a_Joiner_end->MF K a_Desk "__init__" "Desk.__init__" s_Desk_init a_Desk_init->MF K a_Desk "put_up" "Desk.put_up" s_Desk_put_up a_Desk_put_up->MF K a_Desk "say" "Desk.say" s_Desk_say a_Desk_say->
  ∃fd:FuncData,(∀(s:Shared)(v:Value),BindsTo s fd ⟨[v], []⟩ [("_law_script",v)])/\∀base:Heap,K.In base->base.Ns mainGlobals mg->FnOk l.prog w K mg base CX0 17 fa fd ["_law_script"] (spLaw K):=by
  rintro ⟨_,F_are_bytes⟩ ⟨_,F_is_name⟩ ⟨_,F_check_frame⟩ ⟨_,F_copies⟩ ⟨_,F_check_votes⟩ ⟨_,F_check_choice⟩ ⟨_,F_piece_of⟩ ⟨_,F_check_thing⟩ ⟨_,F_cut⟩ ⟨_,F_number_in⟩ ⟨_,F_choice_of⟩ ⟨_,F_value_of⟩ ⟨_,F_strip_of⟩ ⟨_,F_strips⟩ ⟨_,F_read_row⟩ ⟨_,F_dotted⟩ ⟨_,F_frames_text⟩ ⟨_,F_part_of⟩ ⟨_,F_things_of⟩ ⟨_,F_say_hand⟩ ⟨_,F_say_got⟩ ⟨_,F_say_waits⟩ ⟨_,F_say_faults⟩ ⟨_,F_say_stance⟩ ⟨_,F_say_wrong⟩ ⟨_,F_say_things⟩ ⟨_,F_say_draw⟩ ⟨_,F_say_thing⟩ ⟨_,F__law_mix⟩ ⟨_,F__law_byte⟩ ⟨_,F__law_rail⟩ ⟨_,F__law_name⟩ ⟨_,F__law_data⟩ ⟨_,F__law_is_good⟩ ⟨_,F__law_pieces⟩ ⟨_,F__law_asked⟩ ⟨_,F__law_handed⟩ ⟨_,F__law_hand_step⟩ ⟨_,F__law_rail_step⟩ ⟨_,F__law_step⟩ ⟨d0,F_law⟩ ⟨_,_,F_Count_init⟩ ⟨_,_,F_Count_is_off⟩ ⟨_,_,F_Count_number⟩ ⟨_,_,F_Free_init⟩ ⟨_,_,F_Free_shown⟩ ⟨_,_,F_Post_is_off⟩ ⟨_,_,F_Post_faults⟩ ⟨_,_,F_Post_hand⟩ ⟨_,_,F_Post_waits⟩ ⟨_,_,F_Post_got⟩ ⟨_,_,F_Post_init⟩ ⟨_,_,F_Post_stance⟩ ⟨_,_,F_Rail_init⟩ ⟨_,_,F_Rail_post_at⟩ ⟨_,_,F_Rail_hand⟩ ⟨_,_,F_Rail_stance⟩ ⟨_,_,F_Rail_waits⟩ ⟨_,_,F_Rail_got⟩ ⟨_,_,F_Rail_faults⟩ ⟨_,_,F_Rail_is_off⟩ ⟨_,_,F_Rail_heard⟩ ⟨_,_,F_Joiner_init⟩ ⟨_,_,F_Joiner_end⟩ ⟨_,_,F_Desk_init⟩ ⟨_,_,F_Desk_put_up⟩ ⟨_,_,F_Desk_say⟩
  cases hfa.symm.trans F_law.m
  refine⟨d0,fun s v=>?_,fun base _ _=>?_⟩
  · obtain⟨_,_,_,_,_,_,_,_,_,rfl,_⟩:=F_law.F.ex
    exact .of_eq rfl
  have G_are_bytes:=ok_are_bytes l.prog w mg base m_HIGHEST_BYTE m_all F_are_bytes
  have G_is_name:=ok_is_name l.prog w mg base m_HIGHEST_NAME F_is_name
  have G_check_frame:=ok_check_frame _ w mg base m_NoFrame m_MOST_BYTES_frames m_len fact_exc_NoFrame G_are_bytes G_is_name F_check_frame
  have G_Count_init:=ok_Count_init l.prog w mg base CA fact_cls_Count fact_na_Count_total F_Count_init
  have G_Count_is_off:=ok_Count_is_off l.prog w mg base CA m_OFF_FROM fact_cls_Count fact_na_Count_total F_Count_is_off
  have G_Count_number:=ok_Count_number l.prog w mg base CA fact_cls_Count fact_na_Count_total F_Count_number
  have G_Free_init:=ok_Free_init l.prog w mg base CA fact_cls_Free fact_na_Free_since F_Free_init
  have G_Free_shown:=ok_Free_shown l.prog w mg base CA fact_cls_Free fact_na_Free_since F_Free_shown
  have G_Post_is_off:=ok_Post_is_off _ w mg base CA fact_cls_Count fact_cls_Post fact_meth_Count_is_off fact_na_Post_tally G_Count_is_off F_Post_is_off
  have G_Post_faults:=ok_Post_faults _ w mg base CA fact_cls_Count fact_cls_Post fact_meth_Count_number fact_na_Post_tally G_Count_number F_Post_faults
  have G_Post_hand:=ok_Post_hand _ w mg base CA m_NoFrame m_list fact_cls_Post fact_na_Post_waiting G_check_frame F_Post_hand
  have G_copies:=ok_copies l.prog w mg base m_list F_copies
  have G_Post_waits:=ok_Post_waits _ w mg base CA fact_cls_Post fact_na_Post_waiting G_copies F_Post_waits
  have G_Post_got:=ok_Post_got _ w mg base CA fact_cls_Post fact_na_Post_handed_up G_copies F_Post_got
  have G_check_votes:=ok_check_votes l.prog w mg base m_VOTES m_NoPost fact_tup_VOTES fact_exc_NoPost F_check_votes
  have G_check_choice:=ok_check_choice _ w mg base m_NoPost fact_exc_NoPost G_are_bytes F_check_choice
  have G_Post_init:=ok_Post_init _ w mg base CA m_VOTES m_NoPost m_Count m_Free fact_cls_Post fact_mk_Count fact_mk_Free fact_na_Post_tally fact_na_Post_waiting fact_na_Post_handed_up fact_na_Post_choice fact_na_Post_votes fact_na_Post_now G_Count_init G_Free_init G_check_votes G_check_choice F_Post_init
  have G_Post_stance:=ok_Post_stance _ w mg base CA fact_cls_Free fact_cls_Post fact_meth_Free_shown fact_na_Post_now G_Free_shown F_Post_stance
  have G_Rail_init:=ok_Rail_init _ w mg base CA m_VOTES m_NoPost m_MOST_POSTS m_Post m_Rail m_len fact_cls_Rail fact_mk_Post fact_na_Rail_posts fact_na_Rail_owners fact_na_Rail_borne fact_na_Rail_sayings fact_na_Rail_hearings fact_na_Rail_happened fact_exc_NoPost G_Post_init F_Rail_init
  have G_Rail_post_at:=ok_Rail_post_at l.prog w mg base CA m_NoPost m_Rail m_len fact_cls_Rail fact_na_Rail_posts fact_exc_NoPost F_Rail_post_at
  have G_Rail_hand:=ok_Rail_hand _ w mg base CA m_NoFrame m_NoPost m_Rail m_NoName fact_cls_Post fact_cls_Rail fact_meth_Rail_post_at fact_meth_Post_hand fact_na_Rail_owners fact_exc_NoName G_check_frame G_Post_hand G_Rail_post_at F_Rail_hand
  have G_Rail_stance:=ok_Rail_stance _ w mg base CA m_NoPost m_Rail fact_cls_Post fact_cls_Rail fact_meth_Rail_post_at fact_meth_Post_stance G_Post_stance G_Rail_post_at F_Rail_stance
  have G_Rail_waits:=ok_Rail_waits _ w mg base CA m_NoPost m_Rail fact_cls_Post fact_cls_Rail fact_meth_Rail_post_at fact_meth_Post_waits G_Post_waits G_Rail_post_at F_Rail_waits
  have G_Rail_got:=ok_Rail_got _ w mg base CA m_NoPost m_Rail fact_cls_Post fact_cls_Rail fact_meth_Rail_post_at fact_meth_Post_got G_Post_got G_Rail_post_at F_Rail_got
  have G_Rail_faults:=ok_Rail_faults _ w mg base CA m_NoPost m_Rail fact_cls_Post fact_cls_Rail fact_meth_Rail_post_at fact_meth_Post_faults G_Post_faults G_Rail_post_at F_Rail_faults
  have G_Rail_is_off:=ok_Rail_is_off _ w mg base CA m_NoPost m_Rail fact_cls_Post fact_cls_Rail fact_meth_Rail_post_at fact_meth_Post_is_off G_Post_is_off G_Rail_post_at F_Rail_is_off
  have G_Rail_heard:=ok_Rail_heard _ w mg base CA m_NoPost m_Rail m_list fact_cls_Rail fact_meth_Rail_post_at fact_na_Rail_hearings G_Rail_post_at F_Rail_heard
  have G_piece_of:=ok_piece_of l.prog w mg base m_PIECE_BYTES F_piece_of
  have G_check_thing:=ok_check_thing _ w mg base m_NoThing m_MOST_BYTES_things m_len fact_exc_NoThing G_are_bytes F_check_thing
  have G_cut:=ok_cut _ w mg base m_PIECE_BYTES m_NoThing m_len m_list m_max m_range G_piece_of G_check_thing F_cut
  have G_number_in:=ok_number_in l.prog w mg base m_MOST_FIGURES m_all m_len m_int F_number_in
  have G_choice_of:=ok_choice_of _ w mg base m_len G_number_in F_choice_of
  have G_value_of:=ok_value_of _ w mg base m_MOST_TURNS m_MOST_BITS G_number_in G_choice_of F_value_of
  have G_strip_of:=ok_strip_of l.prog w mg base m_SIGNS m_FIGURES m_str F_strip_of
  have G_strips:=ok_strips _ w mg base m_STRIP_BITS m_len m_range G_strip_of F_strips
  have G_read_row:=ok_read_row _ w mg base m_FORMS m_len m_range fact_forms G_value_of F_read_row
  have G_dotted:=ok_dotted l.prog w mg base m_str F_dotted
  have G_frames_text:=ok_frames_text _ w mg base m_str G_dotted F_frames_text
  have G_part_of:=ok_part_of l.prog w mg base  F_part_of
  have G_Joiner_init:=ok_Joiner_init l.prog w mg base m_Joiner fact_cls_Joiner fact_na_Joiner_opened fact_na_Joiner_tag fact_na_Joiner_many fact_na_Joiner_had fact_na_Joiner_joined fact_na_Joiner_broken_tag F_Joiner_init
  have G_Joiner_end:=ok_Joiner_end l.prog w mg base m_Joiner fact_cls_Joiner fact_na_Joiner_opened F_Joiner_end
  have G_things_of:=ok_things_of _ w mg base m_Joiner fact_cls_Joiner fact_mk_Joiner fact_meth_Joiner_end G_Joiner_init G_Joiner_end F_things_of
  have G_say_hand:=ok_say_hand _ w mg base CA m_NoFrame m_NoPost m_Rail m_NoName m_NoThing m_Desk m_NoRail fact_cls_Rail fact_cls_Desk fact_meth_Rail_hand fact_na_Desk_rail G_Rail_hand F_say_hand
  have G_say_got:=ok_say_got _ w mg base CA m_NoFrame m_NoPost m_Rail m_NoName m_NoThing m_Desk m_NoRail fact_cls_Rail fact_cls_Desk fact_meth_Rail_got fact_na_Desk_rail G_Rail_got G_frames_text F_say_got
  have G_say_waits:=ok_say_waits _ w mg base CA m_NoFrame m_NoPost m_Rail m_NoName m_NoThing m_Desk m_NoRail fact_cls_Rail fact_cls_Desk fact_meth_Rail_waits fact_na_Desk_rail G_Rail_waits G_frames_text F_say_waits
  have G_say_faults:=ok_say_faults _ w mg base CA m_NoFrame m_NoPost m_Rail m_NoName m_NoThing m_Desk m_NoRail m_str fact_cls_Rail fact_cls_Desk fact_meth_Rail_faults fact_na_Desk_rail G_Rail_faults F_say_faults
  have G_say_stance:=ok_say_stance _ w mg base CA m_NoFrame m_NoPost m_Rail m_NoName m_NoThing m_Desk m_NoRail m_str fact_cls_Rail fact_cls_Desk fact_meth_Rail_stance fact_na_Desk_rail G_Rail_stance F_say_stance
  have G_say_wrong:=ok_say_wrong _ w mg base CA m_NoFrame m_NoPost m_Rail m_NoName m_NoThing m_Desk m_NoRail fact_cls_Rail fact_cls_Desk fact_meth_Rail_is_off fact_na_Desk_rail fact_na_Desk_wrong G_Rail_is_off F_say_wrong
  have G_say_things:=ok_say_things _ w mg base CA m_NoFrame m_NoPost m_Rail m_NoName m_NoThing m_Joiner m_Desk m_NoRail fact_cls_Rail fact_cls_Desk fact_meth_Rail_got fact_na_Desk_rail G_Rail_got G_things_of F_say_things
  have G_say_draw:=ok_say_draw _ w mg base CA m_NoFrame m_NoPost m_Rail m_NoName m_NoThing m_Desk m_NoRail fact_cls_Rail fact_cls_Desk fact_meth_Rail_heard fact_na_Desk_rail G_Rail_heard G_strips G_part_of F_say_draw
  have G_say_thing:=ok_say_thing _ w mg base CA m_NoFrame m_NoPost m_Rail m_NoName m_NoThing m_Desk m_NoRail m_len m_str fact_cls_Rail fact_cls_Desk fact_meth_Rail_hand fact_na_Desk_rail G_Rail_hand G_cut F_say_thing
  have G_Desk_init:=ok_Desk_init l.prog w mg base m_Desk fact_cls_Desk fact_na_Desk_rail fact_na_Desk_wrong F_Desk_init
  have G_Desk_put_up:=ok_Desk_put_up _ w mg base CA m_NoPost m_Rail m_Desk fact_cls_Desk fact_mk_Rail fact_na_Desk_rail fact_na_Desk_wrong G_Rail_init F_Desk_put_up
  have G_Desk_say:=ok_Desk_say _ w mg base CA m_NoFrame m_NoPost m_Rail m_NoName m_NoThing m_FORMS m_Desk m_NoRail m_ANSWERS fact_cls_Desk fact_meth_Desk_put_up fact_answers fact_na_Desk_rail fact_exc_NoRail G_read_row G_say_hand G_say_got G_say_waits G_say_faults G_say_stance G_say_wrong G_say_things G_say_draw G_say_thing G_Desk_put_up F_Desk_say
  have G__law_mix:=ok__law_mix l.prog w mg base  F__law_mix
  have G__law_byte:=ok__law_byte _ w mg base G__law_mix F__law_byte
  have G__law_rail:=ok__law_rail _ w mg base m_range G__law_mix F__law_rail
  have G__law_name:=ok__law_name _ w mg base G__law_mix F__law_name
  have G__law_data:=ok__law_data _ w mg base m_range G__law_mix G__law_byte F__law_data
  have G__law_is_good:=ok__law_is_good l.prog w mg base  F__law_is_good
  have G__law_pieces:=ok__law_pieces l.prog w mg base m_len m_max m_range F__law_pieces
  have G__law_asked:=ok__law_asked _ w mg base CA m_NoFrame m_NoPost m_Rail m_NoName m_NoThing m_Desk m_NoRail m_ANSWERS m_RailError m_len m_isinstance fact_e_NoPost fact_e_NoFrame fact_e_NoName fact_e_NoThing fact_e_NoRail fact_cls_Desk fact_meth_Desk_say fact_n_NoPost_NoFrame fact_n_NoPost_NoName fact_n_NoPost_NoThing fact_n_NoPost_NoRail fact_n_NoFrame_NoPost fact_n_NoFrame_NoName fact_n_NoFrame_NoThing fact_n_NoFrame_NoRail fact_n_NoName_NoPost fact_n_NoName_NoFrame fact_n_NoName_NoThing fact_n_NoName_NoRail fact_n_NoThing_NoPost fact_n_NoThing_NoFrame fact_n_NoThing_NoName fact_n_NoThing_NoRail fact_n_NoRail_NoPost fact_n_NoRail_NoFrame fact_n_NoRail_NoName fact_n_NoRail_NoThing fact_m_NoPost fact_m_NoFrame fact_m_NoName fact_m_NoThing fact_m_NoRail G_Desk_say F__law_asked
  have G__law_handed:=ok__law_handed _ w mg base m_len m_str G__law_is_good F__law_handed
  have G__law_hand_step:=ok__law_hand_step _ w mg base CA m_NoFrame m_NoPost m_Rail m_NoName m_NoThing m_Desk m_NoRail m_RailError m_len m_str G__law_mix G__law_byte G__law_name G__law_data G__law_is_good G__law_pieces G__law_asked G__law_handed F__law_hand_step
  have G__law_rail_step:=ok__law_rail_step _ w mg base CA m_NoFrame m_NoPost m_Rail m_NoName m_NoThing m_Desk m_NoRail m_RailError m_len m_str G__law_rail G__law_is_good G__law_asked F__law_rail_step
  have G__law_step:=ok__law_step _ w mg base CA m_NoFrame m_NoPost m_Rail m_NoName m_NoThing m_Desk m_NoRail m_RailError m_len m_str G__law_mix G__law_name G__law_asked G__law_hand_step G__law_rail_step F__law_step
  exact(ok_law _ w mg base CA m_NoFrame m_NoPost m_Rail m_NoName m_NoThing m_Desk m_NoRail m_RailError m_len m_range m_str fact_mk_Desk G_Desk_init G__law_mix G__law_asked G__law_step F_law).1
end
theorem tupI_VOTES {K:W.Frag}{a:Addr}{od:Option Addr}{sl:Array (Option Value)}{n:Nat}{t0 t1 t2:Tok}(h:K.lookup a=some ⟨.type "tuple",od,.seq #[.int 1 t0,.int 3 t1,.int 5 t2] n,sl⟩):TupK K a [1,3,5]:=TupK.of h (small_lit rfl) (.cons ⟨_,rfl⟩ (.cons ⟨_,rfl⟩ (.cons ⟨_,rfl⟩ .nil)))
abbrev csI {x_post x_count x_free x_speaks x_reads x_intail x_flag x_settles x_rests x_off x_reader x_streak x_rtail x_stail:Addr}:Cs:=⟨x_post,x_count,x_free,x_speaks,x_reads,x_intail,x_flag,x_settles,x_rests,x_off,x_reader,x_streak,x_rtail,x_stail⟩
theorem walk {l:W.OpenLaw}{q:Program}{loose:List Str}{XP:(Str->Option Value)->Heap->Prop}{YP:World->Heap->Prop}{d:DefRec}{K:Params->W.Frag}(hn:l.most=some 63)(hdf:d.params.defaults= [])
    (hY:∀(w:World)(h:Heap),YP w h->(K w.params).In h)
    (F :∀(w:World)(mg:Str->Option Value)(fa:Addr)(h:Heap),(K w.params).In h->h.Ns mainGlobals mg->mg d.name=some (.ref fa)->
      ∃fd:FuncData,(∀(s:Shared)(u:Value),BindsTo s fd ⟨[u], []⟩ [("_law_script",u)])/\∀base:Heap,(K w.params).In base->base.Ns mainGlobals mg->FnOk l.prog w (K w.params) mg base CX0 17 fa fd ["_law_script"] (spLaw (K w.params))) :
    W.WalkO q loose XP YP l.row.toRowW d [] (fun f vs=>PySem.call f vs):=
  L2.walk_of (n:=63) (k:=17) (x:="_law_script") (CX:=fun _=>CX0) (sp:=fun w=>spLaw (K w.params)) hn (by decide) hdf ⟨rfl,by decide,by decide⟩ hY F (fun _ _ a ns hl _ hS=>⟨a,ns,rfl,hS,hl,fun _=>rfl⟩) fun _ _ _ _ _ z=>z
end My
open PySem PySem.W PyProof.Rows
set_option maxRecDepth 100000 in
set_option maxHeartbeats 0 in
theorem PySem.Challenge.cw_bitrail_k83_a_desk_refuses_holds : PySem.Challenge.rw_bitrail_k83_a_desk_refuses.Holds := by
  w_on;o_law
  refine holds_open (q:=Hd.qv) (loose:=Hd.loose) (XP:=XL Hd.qv []) (YP:=InK Hd.K) (d:=Hd.dl) (kwd:=[]) Hd.left (InK.of Hd.K_as) InK.keeps (fun s e=>xl_of s e) XL.keeps Hd.dl_1 Hd.dl_2 rfl (fun s _=>recFacts_nil rfl) rfl
    (by assumption) (by decide +kernel) ⟨rfl,rfl,rfl,rfl,rfl,by decide +kernel⟩ ?hw ?hc
  case hw=>w_witness2
  k_fill
  refine My.walk (l:=PySem.Challenge.rw_bitrail_k83_a_desk_refuses) rfl rfl (fun w h Y=>Y) ?F
  case F=>
    intro w mg fa h KX G hmg
    refine' My.all_mk w mg (CA:=My.csI) ?Aa ?Ab ?Ac ?Ad ?Ae ?Af ?Ag ?Ah ?Ai ?Aj ?Ak ?Al ?Am ?An ?Ao ?Ap ?Aq ?Ar ?As ?At ?Au ?Av ?Aw ?Ax ?Ay ?Az ?AA ?AB ?AC ?AD ?AE ?AF ?AG ?AH ?AI ?AJ ?AK ?AL ?AM ?AN ?AO ?AP ?AQ ?AR ?AS ?AT ?AU ?AV ?AW ?AX ?AY ?AZ ?A0 ?A1 ?A2 ?A3 ?A4 ?A5 ?A6 ?A7 ?A8 ?A9 ?Ba ?Bb ?Bc ?Bd ?Be ?Bf ?Bg ?Bh ?Bi ?Bj ?Bk ?Bl ?Bm ?Bn ?Bo ?Bp ?Bq ?Br ?Bs ?Bt ?Bu ?Bv ?Bw ?Bx ?By ?Bz ?BA ?BB ?BC ?BD ?BE ?BF ?BG ?BH ?BI ?BJ ?BK ?BL ?BM ?BN ?BO ?BP ?BQ ?BR ?BS ?BT ?BU ?BV ?BW ?BX ?BY ?BZ ?B0 ?B1 ?B2 ?B3 ?B4 ?B5 ?B6 ?B7 ?B8 ?B9 ?Ca ?Cb ?Cc ?Cd ?Ce ?Cf ?Cg ?Ch ?Ci ?Cj ?Ck ?Cl ?Cm ?Cn ?Co hmg ?La ?Lb ?Lc ?Ll ?Lo ?Lp ?LB ?LC ?LD ?LE ?LF ?LG ?LH ?LI ?LJ ?LK ?LL ?LM ?LP ?LQ ?LR ?LS ?LT ?LU ?LV ?LW ?LX ?LY ?L2 ?L3 ?L4 ?L5 ?L6 ?L7 ?L8 ?L9 ?Ma ?Mb ?Mc ?Md ?Me ?Ld ?Le ?Lf ?Lg ?Lh ?Li ?Lj ?Lk ?Lm ?Ln ?Lq ?Lr ?Ls ?Lt ?Lu ?Lv ?Lw ?Lx ?Ly ?Lz ?LA ?LN ?LO ?LZ ?L0 ?L1
    all_goals try dsimp only[My.csI]
    case Aa | Ab | Ac | Ad | Ae | Af | Ag | Ah | Ai | Aj | Ak | Al | Am | An | Ao | Ap | Aq | Ar | As | At | Au | Av | Aw | Ax | Ay | Az | AA | AB | AC | AD | AE | AF | AG | AH | AI | AJ | AK | AL | AM=>refine' PySem.W.mg_of KX G ?_;k_is
    case AN | AO | AP | AQ | AR | AS | AT | AU=>refine' PySem.W.mg_none_of KX G ?_;k_is
    case La | Lb | Lc | Ll | Lo | Lp | LB | LC | LD | LE | LF | LG | LH | LI | LJ | LK | LL | LM | LP | LQ | LR | LS | LT | LU | LV | LW | LX | LY | L2 | L3 | L4 | L5 | L6 | L7 | L8 | L9 | Ma | Mb | Mc | Md | Me=>(refine' My.gf_mk KX G ?a ?l ?c ?k;(case a=>show _=_;k_is);(case l=>show _=_;k_is);(case c=>show _=_;k_is);(case k=>show _=_;k_is))
    case Ld | Le | Lf | Lg | Lh | Li | Lj | Lk | Lm | Ln | Lq | Lr | Ls | Lt | Lu | Lv | Lw | Lx | Ly | Lz | LA | LN | LO | LZ | L0 | L1=>(refine' My.mf_mk ?a ?l ?c ?k;(case a=>show _=_;k_is);(case l=>show _=_;k_is);(case c=>show _=_;k_is);(case k=>show _=_;k_is))
    case AV=>(refine' My.tupI_VOTES ?a;(case a=>k_is))
    case AW | AX | AY | AZ | A0=>(refine⟨?_,?_,?_,?_,?_,?_,?_,?_⟩;(show PySem.W.isClsIn _ _=true;k_is);all_goals k_is)
    case A1 | A2 | A3 | A4 | A5 | A6 | A7 | A8 | A9 | Ba | Bb | Bc=>(refine⟨?_,?_,?_,?_⟩ <;> k_is)
    case Bd | Be | Bf | Bg | Bh | Bi | Bj | Bk | Bl | Bm | Bn | Bo | Bp | Bq | Br | Bs | Bt | Bu | Bv | Bw=>(refine⟨?_,?_,?_⟩ <;> k_is)
    case Bx=>(refine' ⟨?x,?y⟩;(case x=>(refine' ⟨by decide,by decide +kernel,_,_,(by kernel_rfl:(Hd.K w.params).lookup 1247=some (Hd.di (Hd.t "dict") [Hd.e w.params "rail" 1825 (Hd.r 1249),Hd.e w.params "hand" 1829 (Hd.r 1251),Hd.e w.params "thing" 1833 (Hd.r 1253),Hd.e w.params "wrong" 1838 (Hd.r 1255),Hd.e w.params "run" 1842 (Hd.r 1257),Hd.e w.params "bits" 1845 (Hd.r 1259),Hd.e w.params "draw" 1849 (Hd.r 1261),Hd.e w.params "got" 1854 (Hd.r 1263),Hd.e w.params "waits" 1857 (Hd.r 1265),Hd.e w.params "things" 1860 (Hd.r 1267),Hd.e w.params "stance" 1864 (Hd.r 1269),Hd.e w.params "faults" 1867 (Hd.r 1271)] 12)),?e⟩;(case e=>(repeat (first | exact .nil | refine .cons rfl ?_)))));(case y=>(refine' (.cons (My.tpR ?q0) (My.tpS2 ?u0) (.cons (My.tpR ?q1) (My.tpS2 ?u1) (.cons (My.tpR ?q2) (My.tpS3 ?u2) (.cons (My.tpR ?q3) (My.tpS2 ?u3) (.cons (My.tpR ?q4) (My.tpS1 ?u4) (.cons (My.tpR ?q5) (My.tpS2 ?u5) (.cons (My.tpR ?q6) (My.tpS3 ?u6) (.cons (My.tpR ?q7) (My.tpS1 ?u7) (.cons (My.tpR ?q8) (My.tpS1 ?u8) (.cons (My.tpR ?q9) (My.tpS2 ?u9) (.cons (My.tpR ?q10) (My.tpS1 ?u10) (.cons (My.tpR ?q11) (My.tpS1 ?u11) .nil))))))))))));(case q11 | u11 | q10 | u10 | q9 | u9 | q8 | u8 | q7 | u7 | q6 | u6 | q5 | u5 | q4 | u4 | q3 | u3 | q2 | u2 | q1 | u1 | q0 | u0=>k_is))))
    case By=>(refine' ⟨by decide,by decide +kernel,_,_,(by kernel_rfl:(Hd.K w.params).lookup 1411=some (Hd.di (Hd.t "dict") [Hd.e w.params "hand" 2059 (Hd.r 1342),Hd.e w.params "thing" 2060 (Hd.r 1349),Hd.e w.params "wrong" 2061 (Hd.r 1356),Hd.e w.params "run" 2062 (Hd.r 1363),Hd.e w.params "bits" 2063 (Hd.r 1370),Hd.e w.params "draw" 2064 (Hd.r 1377),Hd.e w.params "got" 2065 (Hd.r 1384),Hd.e w.params "waits" 2066 (Hd.r 1391),Hd.e w.params "things" 2067 (Hd.r 1396),Hd.e w.params "stance" 2068 (Hd.r 1403),Hd.e w.params "faults" 2069 (Hd.r 1410)] 11)),?e⟩;(case e=>(repeat (first | exact .nil | refine .cons rfl ?_))))
    case Bz | BA | BB | BC | BD | BE | BF | BG | BH | BI | BJ | BK | BL | BM | BN | BO | BP | BQ | BR | BS | BT | BU=>(show PySem.W.findIn _ _ _=_;k_is)
    case BV | BW | BX | BY | BZ=>k_exc
    case B0 | B1 | B2 | B3 | B4 | B5 | B6 | B7 | B8 | B9 | Ca | Cb | Cc | Cd | Ce | Cf | Cg | Ch | Ci | Cj=>kit_is
    case Ck | Cl | Cm | Cn | Co=>kts_exm
#print axioms PySem.Challenge.cw_bitrail_k83_a_desk_refuses_holds
