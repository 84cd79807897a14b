import PyProof.Rows.All
import Wide.All
import OpenK.AllK
import Wide.FinOn
import PyProof.EqAt
import PyProof.EqKinds
import PyProof.TupleCall
import Lean
import PySem.Challenge.RW_bitrail_k92_whole_row_of_the_rail
set_option Elab.async false
def Ya:=@List.length_map
def Yb:=@List.length_append
def Yc:=@List.getElem?_eq_getElem
def Yd:=@Nat.le_refl
def Ye:=@List.getD_eq_getElem?_getD
def Yf:=@Nat.lt_of_lt_of_le
def Yg:=@List.getElem?_eq_some_iff
def Yh:=@List.take_succ_eq_append_getElem
def Yi:=@List.mem_singleton
def Yj:=@List.map_append
def Yk:=@List.getElem?_map
def Yl:=@List.take_of_length_le
def Ym:=@PySem.Heap.get?_push_of_some
def Yn:=@decide_eq_true
def Yo:=@PySem.Heap.lt_size
def Yp:=@Option.some.inj
def Yq:=@List.mem_cons_self
def Yr:=@decide_eq_false
def Ys:=@Bool.false_ne_true
def Yt:=@List.size_toArray
def Yu:=@List.length_take
def Yv:=@List.length_singleton
def Yw:=@List.mem_cons_of_mem
def Yx:=@List.mem_of_getElem?
def Yy:=@List.mem_append
def Yz:=@List.length_replicate
def YA:=@Nat.pow_le_pow_right
def YB:=@List.append_assoc
def YC:=@List.length_range
def YD:=@Nat.ne_of_lt
def YE:=@List.length_cons
def YF:=@List.getElem?_append_right
def YG:=@Int.toNat_natCast
def YH:=@List.mem_cons
def YI:=@PySem.Heap.get?_push_size
def YJ:=@PySem.wpAny_bind
def YK:=@Option.map_eq_some_iff
def YL:=@List.getElem?_append_left
def YM:=@Decidable.byContradiction
def YN:=@List.getElem_mem
def YO:=@List.mem_append_right
def YQ:=@List.append_nil
def YR:=@List.map_cons
def YS:=@Nat.lt_irrefl
def YT:=@congrArg
def YU:=@PySem.PassesOwn.never
def YV:=@Nat.le_of_lt
def YW:=@List.nodup_cons
def YX:=@Int.eq_ofNat_of_zero_le
def YY:=@Nat.zero_le
def YZ:=@of_decide_eq_true
def Y0:=@Nat.not_lt_zero
def Y1:=@Nat.le_trans
def Y2:=@List.mem_map
def Y3:=@List.lookup_cons
def Y4:=@Nat.testBit_eq_decide_div_mod_eq
def Y5:=@PySem.wpAny_mono
def Y6:=@PySem.wpAny_pure
def Y7:=@List.getElem_of_mem
def Y8:=@List.take_append_of_le_length
def Y9:=@beq_eq_false_iff_ne
def Xa:=@PySem.mem_of_lookup
def Xb:=@List.replicate_succ
def Xc:=@Array.getD_eq_getD_getElem?
def Xd:=@Nat.testBit_lt_two_pow
def Xe:=@List.flatten_cons
def Xf:=@List.head?_append
def Xg:=@List.getElem?_set
def Xh:=@List.getElem?_set_ne
def Xi:=@Nat.lt_succ_self
def Xj:=@Array.length_toList
def Xk:=@PySem.wpAny_truthy_bool
def Xl:=@Nat.shiftLeft_eq
def Xm:=@beq_self_eq_true
def Xn:=@List.eq_of_mem_replicate
def Xo:=@List.mem_range
def Xp:=@List.mem_append_left
def Xq:=@PySem.wpAny_Call_Name_kw
def Xr:=@List.foldl_append
def Xs:=@List.length_set
def Xu:=@List.range_succ
def Xv:=@List.getElem?_range
def Xw:=@Int.zero_add
def Xx:=@Nat.le_succ
def Xy:=@Nat.lt_succ_of_lt
def Xz:=@List.mem_of_mem_take
def XA:=@List.getElem?_take_of_lt
def XB:=@PySem.W.methodCall_KW
def XC:=@List.map_congr_left
def XD:=@List.not_mem_nil
def XE:=@List.length_drop
def XF:=@Bool.and_eq_true
def XG:=@Nat.testBit_succ
def XH:=@List.filter_cons_of_neg
def XI:=@List.drop_append_of_le_length
def XJ:=@Nat.pow_succ
def XM:=@Nat.sub_self
def XN:=@Nat.lt_or_ge
def XO:=@PyProof.Rows.callWith_type1
def XQ:=@PySem.wpAny_passesOwn
def XR:=@beq_iff_eq
def XS:=@Nat.mod_two_eq_zero_or_one
def XT:=@PySem.Heap.get?_push_ne
def XU:=@PySem.Heap.size_push
def XV:=@List.all_cons
def XW:=@Nat.xor_assoc
def XX:=@List.foldl_cons
def XY:=@Nat.testBit_xor
def XZ:=@List.find?_cons
def X0:=@Nat.two_pow_pos
def X1:=@PySem.W.kia_one
def X2:=@Nat.lt_of_le_of_lt
def X3:=@Nat.xor_lt_two_pow
def X4:=@List.getElem?_replicate
def X5:=@PySem.F.plainAttrs_list
def X6:=@Nat.add_sub_cancel_left
def X7:=@List.length_eq_zero_iff
def X8:=@List.filter_cons_of_pos
def X9:=@Nat.le_succ_of_le
def Ja:=@List.nodup_append
def Jb:=@List.take_zero
def Jc:=@Nat.testBit_shiftLeft
def Jd:=@Nat.succ_le_succ
def Je:=@List.all_eq_true
def Jf:=@List.any_cons
def Jg:=@PySem.wpAny_assign_Name
def Jh:=@PySem.W.callWith_K
def Ji:=@List.mem_filter
def Jj:=@Bool.eq_iff_iff
def Jk:=@List.of_mem_zip
def Jl:=@Nat.min_eq_left
def Jm:=@Option.map_some
def Jn:=@List.length_nil
def Jo:=@Nat.div_eq_of_lt_le
def Jp:=@Nat.ne_of_gt
def Jq:=@PySem.Heap.size_update
def Jr:=@Nat.xor_zero
def Js:=@Int.emod_lt_of_pos
def Jt:=@PySem.codeAny_mono
def Ju:=@PySem.W.KasT.kasWp_bind
def Jv:=@PySem.Heap.FunFrames.mem
namespace Hd
open PySem PyProof.Rows
open PySem.W PySem.Calls
def c2B (t:Thread):(endAt 0 t).isSome=through t:=by
 obtain⟨cur,code,pos,st⟩:=t
 cases st with
 | nil=>cases cur with
  |pure f=>cases f <;> rfl
  |_=>rfl
 |cons a l=>cases cur <;> rfl
theorem pR {tb:String->Option Builtin}{p:Program}{w:World}{m:Nat}{ann:Option Value}:∀{n:Nat}{s s':Shared}{t:Thread}{f:Flow}{c:Code}{x:Pos},
  segRun tb p w m ann 0 n s t=some (f,s',c,x)->topRun tb p w m ann n s t=some s'
 |0,_,_,_,_,_,_,h=>by simp[segRun]at h
 | n + 1,s,s',t,f,c,x,h=>by
  unfold segRun at h
  unfold topRun
  rw[<-c2B t]
  cases he:endAt 0 t with
  |some g=>rw[he]at h;cases h;rfl
  | none=>
   rw[he]at h
   dsimp only[Option.isSome]at h ⊢
   cases k:stepOk m ann t with
   |false=>rw[k]at h;cases h
   | true=>
    rw[k]at h
    dsimp only at h ⊢
    cases g:step (denote tb) p w s t with
    |halt o z=>rw[g]at h;cases h
    |go z t'=>rw[g]at h;exact pR h
def a1D (T:BT)(n a:Nat):Option Obj:=match Nat.blt a n with
 |true=>(match T.get a with | some o=>alive o | none=>none)
 |false=>none
def a3F {T:BT}{n a:Nat}{life:Life}{o:Obj}(h:a1D T n a=some o):(absHeap T n life).get? a=some o:=by
 unfold a1D at h
 cases c:Nat.blt a n with
 |false=>rw[c]at h;cases h
 | true=>
  rw[c]at h
  dsimp only at h
  cases g:T.get a with
  |none=>rw[g]at h;cases h
  | some x=>
   rw[g]at h
   rw[abs_get (Nat.le_of_ble_eq_true c) g]
   exact h
theorem sE {T:BT}{n:Nat}{life:Life}:∀{as:List Addr}{os:List Obj},as.map (a1D T n)=os.map some->as.map (absHeap T n life).get? =os.map some
 |[], [],_=>rfl
 |[],_::_,h=>by cases h
 |_::_, [],h=>by cases h
 | a::as,o::os,h=>by
  rw[YR,YR]at h
  injection h with h1 h2
  rw[YR,YR,sE h2]
  exact YT (·::os.map some) (a3F h1)
abbrev look (p q:Program)(loose:List Str)(Xt:Shared->Bool)(as:List Addr)(h:Heap)(s:SharedT):=
 (staticsOk (importedModules p.main.body) h s.abs.heap && namesBound p s.abs.heap && gensDone s.abs && laidKept h s.abs.heap,openSeen q loose (importedModules p.main.body) Xt true s.abs,as.map (a1D s.tree s.n))
theorem yS {p q:Program}{loose:List Str}{Xt:Shared->Bool}{as:List Addr}{os_:World->List Obj}{N m:Nat}{ann:Option Value}(S:World->OsState->SharedT)
  (op:∀w:World,(fencedOpening treeTable p w N).map (fun s=>(s.heap,s.gens,s.drawn,s.toks))=some (boot_heap w.params,Array.mk [],boot_drawn,boot_toks))
  (size : ∀ w : World, ((boot_heap w.params).isNs mainGlobals, (boot_heap w.params).objs.size, (boot_heap w.params).nsMap mainGlobals "__annotations__") = (true, m, ann))
  (abs:∀w os,(S w os).abs=⟨boot_heap w.params,Array.mk [],boot_drawn,boot_toks,os⟩)
  (whole:∀w:World,(fun os=>(segRunT treeTable p w m ann 0 N (S w os) (topStub p)).map fun r=>look p q loose Xt as (boot_heap w.params) r.2.1)=fun _=>some (true,openGood q loose,(os_ w).map some)):LeftO p q loose Xt (fun s=>as.map s.heap.get?) (fun w=>(os_ w).map some) N:=fun w=>by
 obtain⟨⟨h,gs,d,k,os⟩,e,e'⟩:=YK.mp (op w)
 obtain⟨rfl,rfl,rfl,rfl⟩:h=boot_heap w.params/\gs=Array.mk []/\d=boot_drawn/\k=boot_toks:=by simpa using e'
 obtain⟨y1,y2,y3⟩:_/\_/\_:=by simpa only[Prod.mk.injEq] using size w
 obtain⟨⟨f,s',c,x⟩,r1,r2⟩:=YK.mp (congrFun (whole w) os)
 obtain⟨l1,l2,l3⟩:_/\_/\_:=by simpa only[look,Prod.mk.injEq] using r2
 have l4:as.map s'.abs.heap.get? =(os_ w).map some:=sE l3
 have r:=pR (segRun_of r1)
 rw[abs]at r
 have t:topFrom treeTable p w N ⟨boot_heap w.params,Array.mk [],boot_drawn,boot_toks,os⟩=some s'.abs:=by
  unfold topFrom
  dsimp only
  rw[y1,y2,y3,r]
  show (match staticsOk (importedModules p.main.body) (boot_heap w.params) s'.abs.heap && namesBound p s'.abs.heap && gensDone s'.abs && laidKept (boot_heap w.params) s'.abs.heap with | true=>_ | false=>_)=_
  rw[l1]
 unfold openEnds
 rw[e]
 refine(YT (Option.map _) t).trans ?_
 exact YT some (by show (_,as.map s'.abs.heap.get?)=(_,(os_ w).map some);rw[l2,l4])
abbrev r (a:Addr):Value:= .ref a
abbrev s (x:Str)(t:Tok):Value:= .str x t
abbrev i (x:Int)(t:Tok):Value:= .int x t
abbrev t (x:String):Value:= .type x
abbrev b (x:String):Value:= .builtin x
abbrev tp (l:List Value):Obj:=⟨.type "tuple",none,.seq l.toArray 0, #[]⟩
abbrev co (l:List Value):Obj:=⟨.type "code",none,.fields l.toArray, #[]⟩
abbrev fi (c:Value)(l:List Value):Obj:=⟨c,none,.fields l.toArray, #[]⟩
abbrev di (c:Value)(l:List DictEntry)(n:Nat):Obj:=⟨c,none,.dict l.toArray n, #[]⟩
abbrev e (P:Params)(x:Str)(t:Tok)(v:Value):DictEntry:=⟨PyData.keyHash P x,.str x t,v⟩
abbrev cl (c:ClassData)(l:List (Option Value)):Obj:=⟨.type "type",none,.cls c,l.toArray⟩
abbrev o (v:Value):Option Value:=some v
abbrev sf (p:Program)(k:Nat):Stmt:=p.main.body.getD k default
def sub (k:Nat):Stmt->Stmt
 |.ClassDef _ _ _ b _ _ _ _ _ _ _=>b.getD k default
 |x=>x
def fn (q:Str)(d kw doc md:Value)(c bl:Addr):Stmt->Obj
 |.FunctionDef n a b _ _ _ sc _ _ _=>⟨.type "function",none,.func { name:=n,qualname:=q,params:=a,body:= .stmts b,scope:=sc,globals:=3,closure:=[],defaults:=d,kwdefaults:=kw,doc:=doc,pyModule:=md,code:= .ref c,builtins:=bl }, #[]⟩
 |_=>default
def dr:Stmt->DefRec
 |.FunctionDef n a b _ _ _ sc _ _ x=>⟨n,a,b,sc,x⟩
 |_=>⟨"",⟨[], [],none, [], [],none, []⟩, [],default,default⟩
abbrev cc (nm qn:Str)(t l a fl x tb:Nat)(d v f:Value)(z n t':Nat):Obj:=co [s nm t,s qn (t+1),s "/claim/cut.py" (t+2),i l 0,i a 0,i 0 0,i 0 0,i fl 0,r x,.bool true,i 181 0,r tb,d,v,f,r z,i n 0,i l 0,s "/claim/cut.py" t']
abbrev fo (q md:Str)(t:Tok)(c:Addr)(x:Stmt):Obj:=fn q .none .none .none (s md t) c 0 x
noncomputable def tree (P:Params):BT:=(.node (boot_o_0 P) (.node (boot_o_1 P) (.node (boot_o_3 P) (.node (boot_o_7 P) .nil .nil) .nil) (.node (boot_o_5 P) (.node (boot_o_9 P) .nil .nil) .nil)) (.node (boot_o_2 P) (.node (boot_o_4 P) (.node (boot_o_8 P) .nil .nil) .nil) (.node (boot_o_6 P) (.node (boot_o_10 P) .nil .nil) .nil)))
noncomputable def S (w:World)(os:OsState):SharedT:=⟨tree w.params,11,(boot_heap w.params).life,Array.mk [],boot_drawn,boot_toks,os⟩
def c0H (w:World)(os:OsState):(S w os).abs=⟨boot_heap w.params,Array.mk [],boot_drawn,boot_toks,os⟩:=by kernel_rfl
set_option maxRecDepth 100000
noncomputable section
abbrev p:Program:=PySem.Challenge.pw_bitrail_k92_whole_row_of_the_rail
noncomputable def K (P : Params) : Frag := (nat_lit 2, di .none [] 0) :: (nat_lit 3, di (t "dict") [e P "__name__" 165 (s "law_bitrail_k92_whole_row_of_the_rail" 1581), e P "__doc__" 166 .none, e P "__package__" 167 .none, e P "__loader__" 168 (b "__main__.__loader__#opaque"), e P "__spec__" 169 .none, e P "__annotations__" 170 (r 6), e P "__builtins__" 171 (r 4), e P "__file__" 173 (s "/claim/cut.py" 172), e P "__cached__" 174 .none, e P "_wall" 193 (r 21), e P "RailError" 213 (r 31), e P "NoBits" 229 (r 44), e P "NoName" 245 (r 56), e P "NoKey" 261 (r 68), e P "NoFrame" 277 (r 80), e P "NoPost" 293 (r 92), e P "HIGHEST_BYTE" 297 (i 255 296), e P "bits_of" 303 (r 99), e P "number_of" 312 (r 106), e P "are_bytes" 318 (r 111), e P "divided" 331 (r 118), e P "KEY" 335 (i 64647 334), e P "CHECK_BITS" 337 (i 15 336), e P "rest_of" 344 (r 125), e P "check_of" 351 (r 132), e P "NAME_BITS" 355 (i 8 354), e P "HIGHEST_NAME" 357 (i 255 356), e P "is_name" 364 (r 139), e P "is_wanted" 372 (r 146), e P "MOST_ALIKE" 376 (i 5 375), e P "Streak" 427 (r 184), e P "put_in" 437 (r 195), e P "SIZE_AT" 441 (i 9 440), e P "SIZE_BITS" 443 (i 3 442), e P "DATA_AT" 445 (i 12 444), e P "BYTE_BITS" 447 (i 8 446), e P "MOST_BYTES" 449 (i 7 448), e P "check_frame" 457 (r 202), e P "frame_bits" 467 (r 209), e P "is_complete" 474 (r 216), e P "told_size" 481 (r 223), e P "read_frame" 487 (r 228), e P "wire_of" 495 (r 235), e P "GREAT_FAULT" 499 (i 8 498), e P "SMALL_FAULT" 501 (i 1 500), e P "QUIET_FROM" 503 (i 12 502), e P "OFF_FROM" 505 (i 18 504), e P "Count" 584 (r 301), e P "Reader" 646 (r 350), e P "ANSWER_AT" 650 (i 1 649), e P "VOTES_AT" 652 (i 9 651), e P "Tail" 725 (r 406), e P "ReadTail" 749 (r 427), e P "SpeakTail" 773 (r 446), e P "FLAG_BITS" 777 (i 6 776), e P "REST_TURNS" 779 (i 3 778), e P "QUIET_TURNS" 781 (i 8 780), e P "DUEL_BITS" 783 (i 9 782), e P "begun_reader" 790 (r 455), e P "unless_off" 799 (r 462), e P "fault_of" 807 (r 469), e P "refusal_of" 815 (r 476), e P "blame_of" 822 (r 483), e P "Free" 876 (r 521), e P "Speaks" 935 (r 563), e P "Reads" 991 (r 605), e P "InTail" 1047 (r 647), e P "Flagging" 1102 (r 689), e P "Settles" 1155 (r 731), e P "Rests" 1208 (r 773), e P "Off" 1252 (r 808), e P "VOTES" 1258 (r 813), e P "check_votes" 1265 (r 820), e P "check_choice" 1272 (r 827), e P "copies" 1278 (r 832), e P "Post" 1409 (r 940), e P "MOST_POSTS" 1413 (i 5 1412), e P "Rail" 1571 (r 1067), e P "heard_well" 1580 (r 1078), e P "_law_draw" 1593 (r 1085), e P "_law_wire" 1607 (r 1092), e P "_law_frames" 1613 (r 1097), e P "_law_winner" 1619 (r 1102), e P "_law_lost" 1628 (r 1109), e P "_law_due" 1634 (r 1114), e P "_law_made" 1647 (r 1121), e P "_law_said" 1653 (r 1126), e P "law" 1670 (r 1133)] 88) :: (nat_lit 4, ⟨.type "module", some builtinsNs, .plain, #[]⟩) :: (nat_lit 30, di (t "dict") [e P "__module__" 203 (s "bitrail.errors" 194), e P "__firstlineno__" 207 (i 5 206), e P "__static_attributes__" 208 (r 29), e P "__weakref__" 210 (r 32), e P "__doc__" 211 .none] 3) :: (nat_lit 31, cl { name := "RailError", bases := [t "ValueError"], mro := [r 31, t "ValueError", t "Exception", t "BaseException", t "object"], ns := 30, qualname := "RailError", hasDict := true, subclasses := [r 44, r 56, r 68, r 80, r 92] } [o (r 22), .none, o (s "RailError" 196), o (s "RailError" 204), o (b "ValueError.__new__"), o (.bool true)]) :: (nat_lit 43, di (t "dict") [e P "__module__" 221 (s "bitrail.errors" 194), e P "__firstlineno__" 225 (i 7 224), e P "__static_attributes__" 226 (r 42), e P "__doc__" 227 .none] 2) :: (nat_lit 44, cl { name := "NoBits", bases := [r 31], mro := [r 44, r 31, t "ValueError", t "Exception", t "BaseException", t "object"], ns := 43, qualname := "NoBits", hasDict := true, subclasses := [] } [o (r 35), .none, o (s "NoBits" 214), o (s "NoBits" 222), o (b "ValueError.__new__"), o (.bool true)]) :: (nat_lit 55, di (t "dict") [e P "__module__" 237 (s "bitrail.errors" 194), e P "__firstlineno__" 241 (i 9 240), e P "__static_attributes__" 242 (r 54), e P "__doc__" 243 .none] 2) :: (nat_lit 56, cl { name := "NoName", bases := [r 31], mro := [r 56, r 31, t "ValueError", t "Exception", t "BaseException", t "object"], ns := 55, qualname := "NoName", hasDict := true, subclasses := [] } [o (r 47), .none, o (s "NoName" 230), o (s "NoName" 238), o (b "ValueError.__new__"), o (.bool true)]) :: (nat_lit 67, di (t "dict") [e P "__module__" 253 (s "bitrail.errors" 194), e P "__firstlineno__" 257 (i 11 256), e P "__static_attributes__" 258 (r 66), e P "__doc__" 259 .none] 2) :: (nat_lit 68, cl { name := "NoKey", bases := [r 31], mro := [r 68, r 31, t "ValueError", t "Exception", t "BaseException", t "object"], ns := 67, qualname := "NoKey", hasDict := true, subclasses := [] } [o (r 59), .none, o (s "NoKey" 246), o (s "NoKey" 254), o (b "ValueError.__new__"), o (.bool true)]) :: (nat_lit 79, di (t "dict") [e P "__module__" 269 (s "bitrail.errors" 194), e P "__firstlineno__" 273 (i 13 272), e P "__static_attributes__" 274 (r 78), e P "__doc__" 275 .none] 2) :: (nat_lit 80, cl { name := "NoFrame", bases := [r 31], mro := [r 80, r 31, t "ValueError", t "Exception", t "BaseException", t "object"], ns := 79, qualname := "NoFrame", hasDict := true, subclasses := [] } [o (r 71), .none, o (s "NoFrame" 262), o (s "NoFrame" 270), o (b "ValueError.__new__"), o (.bool true)]) :: (nat_lit 91, di (t "dict") [e P "__module__" 285 (s "bitrail.errors" 194), e P "__firstlineno__" 289 (i 15 288), e P "__static_attributes__" 290 (r 90), e P "__doc__" 291 .none] 2) :: (nat_lit 92, cl { name := "NoPost", bases := [r 31], mro := [r 92, r 31, t "ValueError", t "Exception", t "BaseException", t "object"], ns := 91, qualname := "NoPost", hasDict := true, subclasses := [] } [o (r 83), .none, o (s "NoPost" 278), o (s "NoPost" 286), o (b "ValueError.__new__"), o (.bool true)]) :: (nat_lit 98, cc "bits_of" "bits_of" 298 19 2 3 95 96 .none .none .none 97 301 302) :: (nat_lit 99, fo "bits_of" "bitrail.bits" 294 98 (sf p 10)) :: (nat_lit 105, cc "number_of" "number_of" 304 23 1 3 100 101 .none (r 102) (r 103) 104 310 311) :: (nat_lit 106, fo "number_of" "bitrail.bits" 294 105 (sf p 11)) :: (nat_lit 110, cc "are_bytes" "are_bytes" 313 28 1 3 107 108 .none .none .none 109 316 317) :: (nat_lit 111, fo "are_bytes" "bitrail.bits" 294 110 (sf p 12)) :: (nat_lit 117, cc "divided" "divided" 321 31 2 3 112 113 .none (r 114) (r 115) 116 329 330) :: (nat_lit 118, fo "divided" "bitrail.keys" 319 117 (sf p 14)) :: (nat_lit 124, cc "rest_of" "rest_of" 338 44 1 3 119 120 .none (r 121) (r 122) 123 342 343) :: (nat_lit 125, fo "rest_of" "bitrail.checks" 332 124 (sf p 18)) :: (nat_lit 131, cc "check_of" "check_of" 345 46 1 3 126 127 .none (r 128) (r 129) 130 349 350) :: (nat_lit 132, fo "check_of" "bitrail.checks" 332 131 (sf p 19)) :: (nat_lit 138, cc "is_name" "is_name" 358 51 1 3 133 134 .none (r 135) (r 136) 137 362 363) :: (nat_lit 139, fo "is_name" "bitrail.names" 352 138 (sf p 23)) :: (nat_lit 145, cc "is_wanted" "is_wanted" 365 53 2 3 140 141 .none (r 142) (r 143) 144 370 371) :: (nat_lit 146, fo "is_wanted" "bitrail.names" 352 145 (sf p 24)) :: (nat_lit 159, cc "__init__" "Streak.__init__" 389 59 1 3 154 155 .none (r 156) (r 157) 158 393 394) :: (nat_lit 160, fo "Streak.__init__" "bitrail.putting" 373 159 (sub 0 (sf p 27))) :: (nat_lit 166, cc "lengthen" "Streak.lengthen" 396 63 2 3 161 162 .none (r 163) (r 164) 165 401 402) :: (nat_lit 167, fo "Streak.lengthen" "bitrail.putting" 373 166 (sub 1 (sf p 27))) :: (nat_lit 173, cc "is_full" "Streak.is_full" 404 67 1 3 168 169 .none (r 170) (r 171) 172 408 409) :: (nat_lit 174, fo "Streak.is_full" "bitrail.putting" 373 173 (sub 2 (sf p 27))) :: (nat_lit 180, cc "is_too_long" "Streak.is_too_long" 411 70 1 3 175 176 .none (r 177) (r 178) 179 415 416) :: (nat_lit 181, fo "Streak.is_too_long" "bitrail.putting" 373 180 (sub 3 (sf p 27))) :: (nat_lit 183, di (t "dict") [e P "__module__" 384 (s "bitrail.putting" 373), e P "__firstlineno__" 388 (i 57 387), e P "__init__" 395 (r 160), e P "lengthen" 403 (r 167), e P "is_full" 410 (r 174), e P "is_too_long" 417 (r 181), e P "__static_attributes__" 420 (r 182), e P "__dict__" 422 (r 185), e P "__weakref__" 424 (r 186), e P "__doc__" 425 .none] 4) :: (nat_lit 184, cl { name := "Streak", bases := [t "object"], mro := [r 184, t "object"], ns := 183, qualname := "Streak", hasDict := true, subclasses := [] } [.none, .none, o (s "Streak" 377), o (s "Streak" 385), o (b "object.__new__"), o (.bool true)]) :: (nat_lit 194, cc "put_in" "put_in" 428 72 1 3 189 190 .none (r 191) (r 192) 193 435 436) :: (nat_lit 195, fo "put_in" "bitrail.putting" 373 194 (sf p 28)) :: (nat_lit 201, cc "check_frame" "check_frame" 450 88 2 3 196 197 .none (r 198) (r 199) 200 455 456) :: (nat_lit 202, fo "check_frame" "bitrail.frames" 438 201 (sf p 35)) :: (nat_lit 208, cc "frame_bits" "frame_bits" 458 95 2 3 203 204 .none (r 205) (r 206) 207 465 466) :: (nat_lit 209, fo "frame_bits" "bitrail.frames" 438 208 (sf p 36)) :: (nat_lit 215, cc "is_complete" "is_complete" 468 101 1 3 210 211 .none (r 212) (r 213) 214 472 473) :: (nat_lit 216, fo "is_complete" "bitrail.frames" 438 215 (sf p 37)) :: (nat_lit 222, cc "told_size" "told_size" 475 103 1 3 217 218 .none (r 219) (r 220) 221 479 480) :: (nat_lit 223, fo "told_size" "bitrail.frames" 438 222 (sf p 38)) :: (nat_lit 227, cc "read_frame" "read_frame" 482 105 1 3 224 225 .none .none .none 226 485 486) :: (nat_lit 228, fo "read_frame" "bitrail.frames" 438 227 (sf p 39)) :: (nat_lit 234, cc "wire_of" "wire_of" 488 114 2 3 229 230 .none (r 231) (r 232) 233 493 494) :: (nat_lit 235, fo "wire_of" "bitrail.frames" 438 234 (sf p 40)) :: (nat_lit 248, cc "__init__" "Count.__init__" 518 123 1 3 243 244 .none (r 245) (r 246) 247 522 523) :: (nat_lit 249, fo "Count.__init__" "bitrail.counts" 496 248 (sub 0 (sf p 46))) :: (nat_lit 255, cc "fault" "Count.fault" 525 126 2 3 250 251 .none (r 252) (r 253) 254 530 531) :: (nat_lit 256, fo "Count.fault" "bitrail.counts" 496 255 (sub 1 (sf p 46))) :: (nat_lit 262, cc "blame" "Count.blame" 533 129 1 3 257 258 .none (r 259) (r 260) 261 537 538) :: (nat_lit 263, fo "Count.blame" "bitrail.counts" 496 262 (sub 2 (sf p 46))) :: (nat_lit 269, cc "good" "Count.good" 540 132 1 3 264 265 .none (r 266) (r 267) 268 544 545) :: (nat_lit 270, fo "Count.good" "bitrail.counts" 496 269 (sub 3 (sf p 46))) :: (nat_lit 276, cc "move" "Count.move" 547 135 2 3 271 272 .none (r 273) (r 274) 275 552 553) :: (nat_lit 277, fo "Count.move" "bitrail.counts" 496 276 (sub 4 (sf p 46))) :: (nat_lit 283, cc "number" "Count.number" 555 139 1 3 278 279 .none (r 280) (r 281) 282 559 560) :: (nat_lit 284, fo "Count.number" "bitrail.counts" 496 283 (sub 5 (sf p 46))) :: (nat_lit 290, cc "is_quiet" "Count.is_quiet" 562 142 1 3 285 286 .none (r 287) (r 288) 289 566 567) :: (nat_lit 291, fo "Count.is_quiet" "bitrail.counts" 496 290 (sub 6 (sf p 46))) :: (nat_lit 297, cc "is_off" "Count.is_off" 569 145 1 3 292 293 .none (r 294) (r 295) 296 573 574) :: (nat_lit 298, fo "Count.is_off" "bitrail.counts" 496 297 (sub 7 (sf p 46))) :: (nat_lit 300, di (t "dict") [e P "__module__" 513 (s "bitrail.counts" 496), e P "__firstlineno__" 517 (i 121 516), e P "__init__" 524 (r 249), e P "fault" 532 (r 256), e P "blame" 539 (r 263), e P "good" 546 (r 270), e P "move" 554 (r 277), e P "number" 561 (r 284), e P "is_quiet" 568 (r 291), e P "is_off" 575 (r 298), e P "__static_attributes__" 577 (r 299), e P "__dict__" 579 (r 302), e P "__weakref__" 581 (r 303), e P "__doc__" 582 .none] 4) :: (nat_lit 301, cl { name := "Count", bases := [t "object"], mro := [r 301, t "object"], ns := 300, qualname := "Count", hasDict := true, subclasses := [] } [.none, .none, o (s "Count" 506), o (s "Count" 514), o (b "object.__new__"), o (.bool true)]) :: (nat_lit 318, cc "__init__" "Reader.__init__" 599 150 1 3 313 314 .none (r 315) (r 316) 317 603 604) :: (nat_lit 319, fo "Reader.__init__" "bitrail.readers" 585 318 (sub 0 (sf p 48))) :: (nat_lit 325, cc "hear" "Reader.hear" 606 155 2 3 320 321 .none (r 322) (r 323) 324 612 613) :: (nat_lit 326, fo "Reader.hear" "bitrail.readers" 585 325 (sub 1 (sf p 48))) :: (nat_lit 332, cc "judged" "Reader.judged" 615 163 1 3 327 328 .none (r 329) (r 330) 331 619 620) :: (nat_lit 333, fo "Reader.judged" "bitrail.readers" 585 332 (sub 2 (sf p 48))) :: (nat_lit 339, cc "plain" "Reader.plain" 622 170 1 3 334 335 .none (r 336) (r 337) 338 626 627) :: (nat_lit 340, fo "Reader.plain" "bitrail.readers" 585 339 (sub 3 (sf p 48))) :: (nat_lit 346, cc "frame" "Reader.frame" 629 173 1 3 341 342 .none (r 343) (r 344) 345 633 634) :: (nat_lit 347, fo "Reader.frame" "bitrail.readers" 585 346 (sub 4 (sf p 48))) :: (nat_lit 349, di (t "dict") [e P "__module__" 594 (s "bitrail.readers" 585), e P "__firstlineno__" 598 (i 148 597), e P "__init__" 605 (r 319), e P "hear" 614 (r 326), e P "judged" 621 (r 333), e P "plain" 628 (r 340), e P "frame" 635 (r 347), e P "__static_attributes__" 639 (r 348), e P "__dict__" 641 (r 351), e P "__weakref__" 643 (r 352), e P "__doc__" 644 .none] 4) :: (nat_lit 350, cl { name := "Reader", bases := [t "object"], mro := [r 350, t "object"], ns := 349, qualname := "Reader", hasDict := true, subclasses := [] } [.none, .none, o (s "Reader" 587), o (s "Reader" 595), o (b "object.__new__"), o (.bool true)]) :: (nat_lit 367, cc "__init__" "Tail.__init__" 665 180 3 3 362 363 .none (r 364) (r 365) 366 671 672) :: (nat_lit 368, fo "Tail.__init__" "bitrail.tails" 647 367 (sub 0 (sf p 52))) :: (nat_lit 374, cc "says" "Tail.says" 674 186 1 3 369 370 .none (r 371) (r 372) 373 678 679) :: (nat_lit 375, fo "Tail.says" "bitrail.tails" 647 374 (sub 1 (sf p 52))) :: (nat_lit 381, cc "hear" "Tail.hear" 681 189 2 3 376 377 .none (r 378) (r 379) 380 687 688) :: (nat_lit 382, fo "Tail.hear" "bitrail.tails" 647 381 (sub 2 (sf p 52))) :: (nat_lit 388, cc "is_fault" "Tail.is_fault" 690 196 3 3 383 384 .none (r 385) (r 386) 387 696 697) :: (nat_lit 389, fo "Tail.is_fault" "bitrail.tails" 647 388 (sub 3 (sf p 52))) :: (nat_lit 395, cc "judged_vote" "Tail.judged_vote" 699 201 2 3 390 391 .none (r 392) (r 393) 394 704 705) :: (nat_lit 396, fo "Tail.judged_vote" "bitrail.tails" 647 395 (sub 4 (sf p 52))) :: (nat_lit 405, di (t "dict") [e P "__module__" 660 (s "bitrail.tails" 647), e P "__firstlineno__" 664 (i 178 663), e P "__init__" 673 (r 368), e P "says" 680 (r 375), e P "hear" 689 (r 382), e P "is_fault" 698 (r 389), e P "judged_vote" 706 (r 396), e P "place" 713 (r 403), e P "__static_attributes__" 718 (r 404), e P "__dict__" 720 (r 407), e P "__weakref__" 722 (r 408), e P "__doc__" 723 .none] 4) :: (nat_lit 406, cl { name := "Tail", bases := [t "object"], mro := [r 406, t "object"], ns := 405, qualname := "Tail", hasDict := true, subclasses := [r 427, r 446] } [.none, .none, o (s "Tail" 653), o (s "Tail" 661), o (b "object.__new__"), o (.bool true)]) :: (nat_lit 423, cc "__init__" "ReadTail.__init__" 738 212 2 3 418 419 .none (r 420) (r 421) 422 743 744) :: (nat_lit 424, fo "ReadTail.__init__" "bitrail.tails" 647 423 (sub 0 (sf p 53))) :: (nat_lit 426, di (t "dict") [e P "__module__" 733 (s "bitrail.tails" 647), e P "__firstlineno__" 737 (i 210 736), e P "__init__" 745 (r 424), e P "__static_attributes__" 746 (r 425), e P "__doc__" 747 .none] 2) :: (nat_lit 427, cl { name := "ReadTail", bases := [r 406], mro := [r 427, r 406, t "object"], ns := 426, qualname := "ReadTail", hasDict := true, subclasses := [] } [o (r 411), .none, o (s "ReadTail" 726), o (s "ReadTail" 734), o (b "object.__new__"), o (.bool true)]) :: (nat_lit 442, cc "__init__" "SpeakTail.__init__" 762 216 2 3 437 438 .none (r 439) (r 440) 441 767 768) :: (nat_lit 443, fo "SpeakTail.__init__" "bitrail.tails" 647 442 (sub 0 (sf p 54))) :: (nat_lit 445, di (t "dict") [e P "__module__" 757 (s "bitrail.tails" 647), e P "__firstlineno__" 761 (i 214 760), e P "__init__" 769 (r 443), e P "__static_attributes__" 770 (r 444), e P "__doc__" 771 .none] 2) :: (nat_lit 446, cl { name := "SpeakTail", bases := [r 406], mro := [r 446, r 406, t "object"], ns := 445, qualname := "SpeakTail", hasDict := true, subclasses := [] } [o (r 430), .none, o (s "SpeakTail" 750), o (s "SpeakTail" 758), o (b "object.__new__"), o (.bool true)]) :: (nat_lit 454, cc "begun_reader" "begun_reader" 784 223 0 3 449 450 .none (r 451) (r 452) 453 788 789) :: (nat_lit 455, fo "begun_reader" "bitrail.stances" 774 454 (sf p 60)) :: (nat_lit 461, cc "unless_off" "unless_off" 791 227 3 3 456 457 .none (r 458) (r 459) 460 797 798) :: (nat_lit 462, fo "unless_off" "bitrail.stances" 774 461 (sf p 61)) :: (nat_lit 468, cc "fault_of" "fault_of" 800 229 2 3 463 464 .none (r 465) (r 466) 467 805 806) :: (nat_lit 469, fo "fault_of" "bitrail.stances" 774 468 (sf p 62)) :: (nat_lit 475, cc "refusal_of" "refusal_of" 808 232 2 3 470 471 .none (r 472) (r 473) 474 813 814) :: (nat_lit 476, fo "refusal_of" "bitrail.stances" 774 475 (sf p 63)) :: (nat_lit 482, cc "blame_of" "blame_of" 816 235 1 3 477 478 .none (r 479) (r 480) 481 820 821) :: (nat_lit 483, fo "blame_of" "bitrail.stances" 774 482 (sf p 64)) :: (nat_lit 496, cc "__init__" "Free.__init__" 835 240 2 3 491 492 .none (r 493) (r 494) 495 840 841) :: (nat_lit 497, fo "Free.__init__" "bitrail.stances" 774 496 (sub 0 (sf p 65))) :: (nat_lit 510, cc "says" "Free.says" 850 246 2 3 505 506 .none (r 507) (r 508) 509 855 856) :: (nat_lit 511, fo "Free.says" "bitrail.stances" 774 510 (sub 2 (sf p 65))) :: (nat_lit 517, cc "step" "Free.step" 858 251 3 3 512 513 .none (r 514) (r 515) 516 865 866) :: (nat_lit 518, fo "Free.step" "bitrail.stances" 774 517 (sub 3 (sf p 65))) :: (nat_lit 520, di (t "dict") [e P "__module__" 830 (s "bitrail.stances" 774), e P "__firstlineno__" 834 (i 238 833), e P "__init__" 842 (r 497), e P "shown" 849 (r 504), e P "says" 857 (r 511), e P "step" 867 (r 518), e P "__static_attributes__" 869 (r 519), e P "__dict__" 871 (r 522), e P "__weakref__" 873 (r 523), e P "__doc__" 874 .none] 4) :: (nat_lit 521, cl { name := "Free", bases := [t "object"], mro := [r 521, t "object"], ns := 520, qualname := "Free", hasDict := true, subclasses := [] } [.none, .none, o (s "Free" 823), o (s "Free" 831), o (b "object.__new__"), o (.bool true)]) :: (nat_lit 538, cc "__init__" "Speaks.__init__" 889 262 4 3 533 534 .none (r 535) (r 536) 537 896 897) :: (nat_lit 539, fo "Speaks.__init__" "bitrail.stances" 774 538 (sub 0 (sf p 66))) :: (nat_lit 552, cc "says" "Speaks.says" 906 270 2 3 547 548 .none (r 549) (r 550) 551 911 912) :: (nat_lit 553, fo "Speaks.says" "bitrail.stances" 774 552 (sub 2 (sf p 66))) :: (nat_lit 559, cc "step" "Speaks.step" 914 273 3 3 554 555 .none (r 556) (r 557) 558 922 923) :: (nat_lit 560, fo "Speaks.step" "bitrail.stances" 774 559 (sub 3 (sf p 66))) :: (nat_lit 562, di (t "dict") [e P "__module__" 884 (s "bitrail.stances" 774), e P "__firstlineno__" 888 (i 260 887), e P "__init__" 898 (r 539), e P "shown" 905 (r 546), e P "says" 913 (r 553), e P "step" 924 (r 560), e P "__static_attributes__" 928 (r 561), e P "__dict__" 930 (r 564), e P "__weakref__" 932 (r 565), e P "__doc__" 933 .none] 4) :: (nat_lit 563, cl { name := "Speaks", bases := [t "object"], mro := [r 563, t "object"], ns := 562, qualname := "Speaks", hasDict := true, subclasses := [] } [.none, .none, o (s "Speaks" 877), o (s "Speaks" 885), o (b "object.__new__"), o (.bool true)]) :: (nat_lit 580, cc "__init__" "Reads.__init__" 948 287 3 3 575 576 .none (r 577) (r 578) 579 954 955) :: (nat_lit 581, fo "Reads.__init__" "bitrail.stances" 774 580 (sub 0 (sf p 67))) :: (nat_lit 594, cc "says" "Reads.says" 964 294 2 3 589 590 .none (r 591) (r 592) 593 969 970) :: (nat_lit 595, fo "Reads.says" "bitrail.stances" 774 594 (sub 2 (sf p 67))) :: (nat_lit 601, cc "step" "Reads.step" 972 297 3 3 596 597 .none (r 598) (r 599) 600 979 980) :: (nat_lit 602, fo "Reads.step" "bitrail.stances" 774 601 (sub 3 (sf p 67))) :: (nat_lit 604, di (t "dict") [e P "__module__" 943 (s "bitrail.stances" 774), e P "__firstlineno__" 947 (i 285 946), e P "__init__" 956 (r 581), e P "shown" 963 (r 588), e P "says" 971 (r 595), e P "step" 981 (r 602), e P "__static_attributes__" 984 (r 603), e P "__dict__" 986 (r 606), e P "__weakref__" 988 (r 607), e P "__doc__" 989 .none] 4) :: (nat_lit 605, cl { name := "Reads", bases := [t "object"], mro := [r 605, t "object"], ns := 604, qualname := "Reads", hasDict := true, subclasses := [] } [.none, .none, o (s "Reads" 936), o (s "Reads" 944), o (b "object.__new__"), o (.bool true)]) :: (nat_lit 622, cc "__init__" "InTail.__init__" 1004 306 3 3 617 618 .none (r 619) (r 620) 621 1010 1011) :: (nat_lit 623, fo "InTail.__init__" "bitrail.stances" 774 622 (sub 0 (sf p 68))) :: (nat_lit 636, cc "says" "InTail.says" 1020 313 2 3 631 632 .none (r 633) (r 634) 635 1025 1026) :: (nat_lit 637, fo "InTail.says" "bitrail.stances" 774 636 (sub 2 (sf p 68))) :: (nat_lit 643, cc "step" "InTail.step" 1028 316 3 3 638 639 .none (r 640) (r 641) 642 1035 1036) :: (nat_lit 644, fo "InTail.step" "bitrail.stances" 774 643 (sub 3 (sf p 68))) :: (nat_lit 646, di (t "dict") [e P "__module__" 999 (s "bitrail.stances" 774), e P "__firstlineno__" 1003 (i 304 1002), e P "__init__" 1012 (r 623), e P "shown" 1019 (r 630), e P "says" 1027 (r 637), e P "step" 1037 (r 644), e P "__static_attributes__" 1040 (r 645), e P "__dict__" 1042 (r 648), e P "__weakref__" 1044 (r 649), e P "__doc__" 1045 .none] 4) :: (nat_lit 647, cl { name := "InTail", bases := [t "object"], mro := [r 647, t "object"], ns := 646, qualname := "InTail", hasDict := true, subclasses := [] } [.none, .none, o (s "InTail" 992), o (s "InTail" 1000), o (b "object.__new__"), o (.bool true)]) :: (nat_lit 664, cc "__init__" "Flagging.__init__" 1060 332 3 3 659 660 .none (r 661) (r 662) 663 1066 1067) :: (nat_lit 665, fo "Flagging.__init__" "bitrail.stances" 774 664 (sub 0 (sf p 69))) :: (nat_lit 678, cc "says" "Flagging.says" 1076 339 2 3 673 674 .none (r 675) (r 676) 677 1081 1082) :: (nat_lit 679, fo "Flagging.says" "bitrail.stances" 774 678 (sub 2 (sf p 69))) :: (nat_lit 685, cc "step" "Flagging.step" 1084 342 3 3 680 681 .none (r 682) (r 683) 684 1090 1091) :: (nat_lit 686, fo "Flagging.step" "bitrail.stances" 774 685 (sub 3 (sf p 69))) :: (nat_lit 688, di (t "dict") [e P "__module__" 1055 (s "bitrail.stances" 774), e P "__firstlineno__" 1059 (i 330 1058), e P "__init__" 1068 (r 665), e P "shown" 1075 (r 672), e P "says" 1083 (r 679), e P "step" 1092 (r 686), e P "__static_attributes__" 1095 (r 687), e P "__dict__" 1097 (r 690), e P "__weakref__" 1099 (r 691), e P "__doc__" 1100 .none] 4) :: (nat_lit 689, cl { name := "Flagging", bases := [t "object"], mro := [r 689, t "object"], ns := 688, qualname := "Flagging", hasDict := true, subclasses := [] } [.none, .none, o (s "Flagging" 1048), o (s "Flagging" 1056), o (b "object.__new__"), o (.bool true)]) :: (nat_lit 706, cc "__init__" "Settles.__init__" 1115 348 2 3 701 702 .none (r 703) (r 704) 705 1120 1121) :: (nat_lit 707, fo "Settles.__init__" "bitrail.stances" 774 706 (sub 0 (sf p 70))) :: (nat_lit 720, cc "says" "Settles.says" 1130 354 2 3 715 716 .none (r 717) (r 718) 719 1135 1136) :: (nat_lit 721, fo "Settles.says" "bitrail.stances" 774 720 (sub 2 (sf p 70))) :: (nat_lit 727, cc "step" "Settles.step" 1138 357 3 3 722 723 .none (r 724) (r 725) 726 1144 1145) :: (nat_lit 728, fo "Settles.step" "bitrail.stances" 774 727 (sub 3 (sf p 70))) :: (nat_lit 730, di (t "dict") [e P "__module__" 1110 (s "bitrail.stances" 774), e P "__firstlineno__" 1114 (i 346 1113), e P "__init__" 1122 (r 707), e P "shown" 1129 (r 714), e P "says" 1137 (r 721), e P "step" 1146 (r 728), e P "__static_attributes__" 1148 (r 729), e P "__dict__" 1150 (r 732), e P "__weakref__" 1152 (r 733), e P "__doc__" 1153 .none] 4) :: (nat_lit 731, cl { name := "Settles", bases := [t "object"], mro := [r 731, t "object"], ns := 730, qualname := "Settles", hasDict := true, subclasses := [] } [.none, .none, o (s "Settles" 1103), o (s "Settles" 1111), o (b "object.__new__"), o (.bool true)]) :: (nat_lit 748, cc "__init__" "Rests.__init__" 1168 365 2 3 743 744 .none (r 745) (r 746) 747 1173 1174) :: (nat_lit 749, fo "Rests.__init__" "bitrail.stances" 774 748 (sub 0 (sf p 71))) :: (nat_lit 762, cc "says" "Rests.says" 1183 371 2 3 757 758 .none (r 759) (r 760) 761 1188 1189) :: (nat_lit 763, fo "Rests.says" "bitrail.stances" 774 762 (sub 2 (sf p 71))) :: (nat_lit 769, cc "step" "Rests.step" 1191 374 3 3 764 765 .none (r 766) (r 767) 768 1197 1198) :: (nat_lit 770, fo "Rests.step" "bitrail.stances" 774 769 (sub 3 (sf p 71))) :: (nat_lit 772, di (t "dict") [e P "__module__" 1163 (s "bitrail.stances" 774), e P "__firstlineno__" 1167 (i 363 1166), e P "__init__" 1175 (r 749), e P "shown" 1182 (r 756), e P "says" 1190 (r 763), e P "step" 1199 (r 770), e P "__static_attributes__" 1201 (r 771), e P "__dict__" 1203 (r 774), e P "__weakref__" 1205 (r 775), e P "__doc__" 1206 .none] 4) :: (nat_lit 773, cl { name := "Rests", bases := [t "object"], mro := [r 773, t "object"], ns := 772, qualname := "Rests", hasDict := true, subclasses := [] } [.none, .none, o (s "Rests" 1156), o (s "Rests" 1164), o (b "object.__new__"), o (.bool true)]) :: (nat_lit 797, cc "says" "Off.says" 1228 383 2 3 792 793 .none (r 794) (r 795) 796 1233 1234) :: (nat_lit 798, fo "Off.says" "bitrail.stances" 774 797 (sub 1 (sf p 72))) :: (nat_lit 804, cc "step" "Off.step" 1236 386 3 3 799 800 .none (r 801) (r 802) 803 1242 1243) :: (nat_lit 805, fo "Off.step" "bitrail.stances" 774 804 (sub 2 (sf p 72))) :: (nat_lit 807, di (t "dict") [e P "__module__" 1216 (s "bitrail.stances" 774), e P "__firstlineno__" 1220 (i 378 1219), e P "shown" 1227 (r 791), e P "says" 1235 (r 798), e P "step" 1244 (r 805), e P "__static_attributes__" 1245 (r 806), e P "__dict__" 1247 (r 809), e P "__weakref__" 1249 (r 810), e P "__doc__" 1250 .none] 4) :: (nat_lit 808, cl { name := "Off", bases := [t "object"], mro := [r 808, t "object"], ns := 807, qualname := "Off", hasDict := true, subclasses := [] } [.none, .none, o (s "Off" 1209), o (s "Off" 1217), o (b "object.__new__"), o (.bool true)]) :: (nat_lit 813, tp [i 1 1255, i 3 1256, i 5 1257]) :: (nat_lit 819, cc "check_votes" "check_votes" 1259 390 1 3 814 815 .none (r 816) (r 817) 818 1263 1264) :: (nat_lit 820, fo "check_votes" "bitrail.posts" 1253 819 (sf p 75)) :: (nat_lit 826, cc "check_choice" "check_choice" 1266 393 1 3 821 822 .none (r 823) (r 824) 825 1270 1271) :: (nat_lit 827, fo "check_choice" "bitrail.posts" 1253 826 (sf p 76)) :: (nat_lit 831, cc "copies" "copies" 1273 396 1 3 828 829 .none .none .none 830 1276 1277) :: (nat_lit 832, fo "copies" "bitrail.posts" 1253 831 (sf p 77)) :: (nat_lit 845, cc "__init__" "Post.__init__" 1291 400 3 3 840 841 .none (r 842) (r 843) 844 1297 1298) :: (nat_lit 846, fo "Post.__init__" "bitrail.posts" 1253 845 (sub 0 (sf p 78))) :: (nat_lit 852, cc "hand" "Post.hand" 1300 410 3 3 847 848 .none (r 849) (r 850) 851 1306 1307) :: (nat_lit 853, fo "Post.hand" "bitrail.posts" 1253 852 (sub 1 (sf p 78))) :: (nat_lit 859, cc "says" "Post.says" 1309 414 1 3 854 855 .none (r 856) (r 857) 858 1313 1314) :: (nat_lit 860, fo "Post.says" "bitrail.posts" 1253 859 (sub 2 (sf p 78))) :: (nat_lit 866, cc "hear" "Post.hear" 1316 417 2 3 861 862 .none (r 863) (r 864) 865 1322 1323) :: (nat_lit 867, fo "Post.hear" "bitrail.posts" 1253 866 (sub 3 (sf p 78))) :: (nat_lit 880, cc "waits" "Post.waits" 1332 425 1 3 875 876 .none (r 877) (r 878) 879 1336 1337) :: (nat_lit 881, fo "Post.waits" "bitrail.posts" 1253 880 (sub 5 (sf p 78))) :: (nat_lit 894, cc "faults" "Post.faults" 1346 431 1 3 889 890 .none (r 891) (r 892) 893 1350 1351) :: (nat_lit 895, fo "Post.faults" "bitrail.posts" 1253 894 (sub 7 (sf p 78))) :: (nat_lit 901, cc "is_quiet" "Post.is_quiet" 1353 434 1 3 896 897 .none (r 898) (r 899) 900 1357 1358) :: (nat_lit 902, fo "Post.is_quiet" "bitrail.posts" 1253 901 (sub 8 (sf p 78))) :: (nat_lit 908, cc "is_off" "Post.is_off" 1360 437 1 3 903 904 .none (r 905) (r 906) 907 1364 1365) :: (nat_lit 909, fo "Post.is_off" "bitrail.posts" 1253 908 (sub 9 (sf p 78))) :: (nat_lit 915, cc "has_frame" "Post.has_frame" 1367 440 1 3 910 911 .none (r 912) (r 913) 914 1371 1372) :: (nat_lit 916, fo "Post.has_frame" "bitrail.posts" 1253 915 (sub 10 (sf p 78))) :: (nat_lit 922, cc "foremost_wire" "Post.foremost_wire" 1374 443 1 3 917 918 .none (r 919) (r 920) 921 1378 1379) :: (nat_lit 923, fo "Post.foremost_wire" "bitrail.posts" 1253 922 (sub 11 (sf p 78))) :: (nat_lit 929, cc "drop_foremost" "Post.drop_foremost" 1381 446 1 3 924 925 .none (r 926) (r 927) 928 1385 1386) :: (nat_lit 930, fo "Post.drop_foremost" "bitrail.posts" 1253 929 (sub 12 (sf p 78))) :: (nat_lit 936, cc "hand_up" "Post.hand_up" 1388 449 2 3 931 932 .none (r 933) (r 934) 935 1393 1394) :: (nat_lit 937, fo "Post.hand_up" "bitrail.posts" 1253 936 (sub 13 (sf p 78))) :: (nat_lit 939, di (t "dict") [e P "__module__" 1286 (s "bitrail.posts" 1253), e P "__firstlineno__" 1290 (i 398 1289), e P "__init__" 1299 (r 846), e P "hand" 1308 (r 853), e P "says" 1315 (r 860), e P "hear" 1324 (r 867), e P "stance" 1331 (r 874), e P "waits" 1338 (r 881), e P "got" 1345 (r 888), e P "faults" 1352 (r 895), e P "is_quiet" 1359 (r 902), e P "is_off" 1366 (r 909), e P "has_frame" 1373 (r 916), e P "foremost_wire" 1380 (r 923), e P "drop_foremost" 1387 (r 930), e P "hand_up" 1395 (r 937), e P "__static_attributes__" 1402 (r 938), e P "__dict__" 1404 (r 941), e P "__weakref__" 1406 (r 942), e P "__doc__" 1407 .none] 4) :: (nat_lit 940, cl { name := "Post", bases := [t "object"], mro := [r 940, t "object"], ns := 939, qualname := "Post", hasDict := true, subclasses := [] } [.none, .none, o (s "Post" 1279), o (s "Post" 1287), o (b "object.__new__"), o (.bool true)]) :: (nat_lit 955, cc "__init__" "Rail.__init__" 1426 456 3 3 952 953 .none .none .none 954 1429 1430) :: (nat_lit 956, fo "Rail.__init__" "bitrail.rails" 1410 955 (sub 0 (sf p 81))) :: (nat_lit 962, cc "hand" "Rail.hand" 1432 466 4 3 957 958 .none (r 959) (r 960) 961 1440 1441) :: (nat_lit 963, fo "Rail.hand" "bitrail.rails" 1410 962 (sub 1 (sf p 81))) :: (nat_lit 969, cc "turn" "Rail.turn" 1443 474 2 3 964 965 .none (r 966) (r 967) 968 1450 1451) :: (nat_lit 970, fo "Rail.turn" "bitrail.rails" 1410 969 (sub 2 (sf p 81))) :: (nat_lit 974, cc "run" "Rail.run" 1453 480 3 3 971 972 .none .none .none 973 1456 1457) :: (nat_lit 975, fo "Rail.run" "bitrail.rails" 1410 974 (sub 3 (sf p 81))) :: (nat_lit 979, cc "make_turn" "Rail.make_turn" 1459 484 2 3 976 977 .none .none .none 978 1462 1463) :: (nat_lit 980, fo "Rail.make_turn" "bitrail.rails" 1410 979 (sub 4 (sf p 81))) :: (nat_lit 986, cc "post_at" "Rail.post_at" 1465 497 2 3 981 982 .none (r 983) (r 984) 985 1470 1471) :: (nat_lit 987, fo "Rail.post_at" "bitrail.rails" 1410 986 (sub 5 (sf p 81))) :: (nat_lit 993, cc "turns" "Rail.turns" 1473 502 1 3 988 989 .none (r 990) (r 991) 992 1477 1478) :: (nat_lit 994, fo "Rail.turns" "bitrail.rails" 1410 993 (sub 6 (sf p 81))) :: (nat_lit 1000, cc "bits" "Rail.bits" 1480 505 1 3 995 996 .none (r 997) (r 998) 999 1484 1485) :: (nat_lit 1001, fo "Rail.bits" "bitrail.rails" 1410 1000 (sub 7 (sf p 81))) :: (nat_lit 1007, cc "said" "Rail.said" 1487 508 2 3 1002 1003 .none (r 1004) (r 1005) 1006 1492 1493) :: (nat_lit 1008, fo "Rail.said" "bitrail.rails" 1410 1007 (sub 8 (sf p 81))) :: (nat_lit 1014, cc "heard" "Rail.heard" 1495 512 2 3 1009 1010 .none (r 1011) (r 1012) 1013 1500 1501) :: (nat_lit 1015, fo "Rail.heard" "bitrail.rails" 1410 1014 (sub 9 (sf p 81))) :: (nat_lit 1021, cc "events" "Rail.events" 1503 516 1 3 1016 1017 .none (r 1018) (r 1019) 1020 1507 1508) :: (nat_lit 1022, fo "Rail.events" "bitrail.rails" 1410 1021 (sub 10 (sf p 81))) :: (nat_lit 1035, cc "waits" "Rail.waits" 1518 522 2 3 1030 1031 .none (r 1032) (r 1033) 1034 1523 1524) :: (nat_lit 1036, fo "Rail.waits" "bitrail.rails" 1410 1035 (sub 12 (sf p 81))) :: (nat_lit 1049, cc "faults" "Rail.faults" 1534 528 2 3 1044 1045 .none (r 1046) (r 1047) 1048 1539 1540) :: (nat_lit 1050, fo "Rail.faults" "bitrail.rails" 1410 1049 (sub 14 (sf p 81))) :: (nat_lit 1066, di (t "dict") [e P "__module__" 1421 (s "bitrail.rails" 1410), e P "__firstlineno__" 1425 (i 454 1424), e P "__init__" 1431 (r 956), e P "hand" 1442 (r 963), e P "turn" 1452 (r 970), e P "run" 1458 (r 975), e P "make_turn" 1464 (r 980), e P "post_at" 1472 (r 987), e P "turns" 1479 (r 994), e P "bits" 1486 (r 1001), e P "said" 1494 (r 1008), e P "heard" 1502 (r 1015), e P "events" 1509 (r 1022), e P "stance" 1517 (r 1029), e P "waits" 1525 (r 1036), e P "got" 1533 (r 1043), e P "faults" 1541 (r 1050), e P "is_quiet" 1549 (r 1057), e P "is_off" 1557 (r 1064), e P "__static_attributes__" 1564 (r 1065), e P "__dict__" 1566 (r 1068), e P "__weakref__" 1568 (r 1069), e P "__doc__" 1569 .none] 4) :: (nat_lit 1067, cl { name := "Rail", bases := [t "object"], mro := [r 1067, t "object"], ns := 1066, qualname := "Rail", hasDict := true, subclasses := [] } [.none, .none, o (s "Rail" 1414), o (s "Rail" 1422), o (b "object.__new__"), o (.bool true)]) :: (nat_lit 1077, cc "heard_well" "heard_well" 1572 536 3 3 1072 1073 .none (r 1074) (r 1075) 1076 1578 1579) :: (nat_lit 1078, fo "heard_well" "bitrail.rails" 1410 1077 (sf p 82)) :: (nat_lit 1084, cc "_law_draw" "_law_draw" 1583 539 3 3 1079 1080 .none (r 1081) (r 1082) 1083 1591 1592) :: (nat_lit 1085, fo "_law_draw" "law_bitrail_k92_whole_row_of_the_rail" 1581 1084 (sf p 84)) :: (nat_lit 1091, cc "_law_wire" "_law_wire" 1594 543 2 3 1086 1087 .none (r 1088) (r 1089) 1090 1605 1606) :: (nat_lit 1092, fo "_law_wire" "law_bitrail_k92_whole_row_of_the_rail" 1581 1091 (sf p 85)) :: (nat_lit 1096, cc "_law_frames" "_law_frames" 1608 558 2 3 1093 1094 .none .none .none 1095 1611 1612) :: (nat_lit 1097, fo "_law_frames" "law_bitrail_k92_whole_row_of_the_rail" 1581 1096 (sf p 86)) :: (nat_lit 1101, cc "_law_winner" "_law_winner" 1614 578 1 3 1098 1099 .none .none .none 1100 1617 1618) :: (nat_lit 1102, fo "_law_winner" "law_bitrail_k92_whole_row_of_the_rail" 1581 1101 (sf p 87)) :: (nat_lit 1108, cc "_law_lost" "_law_lost" 1620 584 2 3 1103 1104 .none (r 1105) (r 1106) 1107 1626 1627) :: (nat_lit 1109, fo "_law_lost" "law_bitrail_k92_whole_row_of_the_rail" 1581 1108 (sf p 88)) :: (nat_lit 1113, cc "_law_due" "_law_due" 1629 589 3 3 1110 1111 .none .none .none 1112 1632 1633) :: (nat_lit 1114, fo "_law_due" "law_bitrail_k92_whole_row_of_the_rail" 1581 1113 (sf p 89)) :: (nat_lit 1120, cc "_law_made" "_law_made" 1635 608 3 3 1115 1116 .none (r 1117) (r 1118) 1119 1645 1646) :: (nat_lit 1121, fo "_law_made" "law_bitrail_k92_whole_row_of_the_rail" 1581 1120 (sf p 90)) :: (nat_lit 1125, cc "_law_said" "_law_said" 1648 619 3 3 1122 1123 .none .none .none 1124 1651 1652) :: (nat_lit 1126, fo "_law_said" "law_bitrail_k92_whole_row_of_the_rail" 1581 1125 (sf p 91)) :: (nat_lit 1132, cc "law" "law" 1654 628 1 3 1127 1128 .none (r 1129) (r 1130) 1131 1668 1669) :: (nat_lit 1133, fo "law" "law_bitrail_k92_whole_row_of_the_rail" 1581 1132 (sf p 92)) :: []
noncomputable def KA (P:Params):Frag:=(nat_lit 965,fi .none [])::K P
noncomputable def as:List Addr:=965::2::3::4::30::31::43::44::55::56::67::68::79::80::91::92::98::99::105::106::110::111::117::118::124::125::131::132::138::139::145::146::159::160::166::167::173::174::180::181::183::184::194::195::201::202::208::209::215::216::222::223::227::228::234::235::248::249::255::256::262::263::269::270::276::277::283::284::290::291::297::298::300::301::318::319::325::326::332::333::339::340::346::347::349::350::367::368::374::375::381::382::388::389::395::396::405::406::423::424::426::427::442::443::445::446::454::455::461::462::468::469::475::476::482::483::496::497::510::511::517::518::520::521::538::539::552::553::559::560::562::563::580::581::594::595::601::602::604::605::622::623::636::637::643::644::646::647::664::665::678::679::685::686::688::689::706::707::720::721::727::728::730::731::748::749::762::763::769::770::772::773::797::798::804::805::807::808::813::819::820::826::827::831::832::845::846::852::853::859::860::866::867::880::881::894::895::901::902::908::909::915::916::922::923::929::930::936::937::939::940::955::956::962::963::969::970::974::975::979::980::986::987::993::994::1000::1001::1007::1008::1014::1015::1021::1022::1035::1036::1049::1050::1066::1067::1077::1078::1084::1085::1091::1092::1096::1097::1101::1102::1108::1109::1113::1114::1120::1121::1125::1126::1132::1133::[]
noncomputable def L (P:Params):List (Nat×Obj):=KA P
def K_L (P:Params):KA P=L P:=rfl
def K_as (P:Params):as=(KA P).map (·.1):=by kernel_rfl
def qv:Program:=view p [92]
def loose:List Str:="_wall"::"RailError"::"NoBits"::"NoName"::"NoKey"::"NoFrame"::"NoPost"::"HIGHEST_BYTE"::"bits_of"::"number_of"::"are_bytes"::"divided"::"KEY"::"CHECK_BITS"::"rest_of"::"check_of"::"NAME_BITS"::"HIGHEST_NAME"::"is_name"::"is_wanted"::"MOST_ALIKE"::"Streak"::"put_in"::"SIZE_AT"::"SIZE_BITS"::"DATA_AT"::"BYTE_BITS"::"MOST_BYTES"::"check_frame"::"frame_bits"::"is_complete"::"told_size"::"read_frame"::"wire_of"::"GREAT_FAULT"::"SMALL_FAULT"::"QUIET_FROM"::"OFF_FROM"::"Count"::"Reader"::"ANSWER_AT"::"VOTES_AT"::"Tail"::"ReadTail"::"SpeakTail"::"FLAG_BITS"::"REST_TURNS"::"QUIET_TURNS"::"DUEL_BITS"::"begun_reader"::"unless_off"::"fault_of"::"refusal_of"::"blame_of"::"Free"::"Speaks"::"Reads"::"InTail"::"Flagging"::"Settles"::"Rests"::"Off"::"VOTES"::"check_votes"::"check_choice"::"copies"::"Post"::"MOST_POSTS"::"Rail"::"heard_well"::"_law_draw"::"_law_wire"::"_law_frames"::"_law_winner"::"_law_lost"::"_law_due"::"_law_made"::"_law_said"::[]
abbrev N:Nat:=8503
def b5G:∀w:World,(fencedOpening treeTable p w N).map (fun s=>(s.heap,s.gens,s.drawn,s.toks))=some (boot_heap w.params,Array.mk [],boot_drawn,boot_toks):=boot_open (by kernel_rfl) (by decide) (fun s=>by kernel_rfl)
def ann:Option Value:=some (.ref 6)
def whole (w:World)(os:OsState):=(segRunT treeTable p w 11 ann 0 N (S w os) (topStub p)).map fun r=>look p qv loose (xlAt qv []) as (boot_heap w.params) r.2.1
def good (w:World)(_:OsState):=some (true,openGood qv loose,((L w.params).map fun p=>p.2).map some)
def sz (w : World) := ((boot_heap w.params).isNs mainGlobals, (boot_heap w.params).objs.size, (boot_heap w.params).nsMap mainGlobals "__annotations__")
def sg (_:World):=(true,11,ann)
def a9P:whole=whole:=rfl
def b6L:good=good:=rfl
def c1F:sz=sz:=rfl
noncomputable def _root_.PySem.W.Fast.tw10840020026190418073:Program:=PySem.Challenge.pw_bitrail_k92_whole_row_of_the_rail
theorem _root_.PySem.W.Fast.te10840020026190418073:PySem.Challenge.pw_bitrail_k92_whole_row_of_the_rail=PySem.W.Fast.tw10840020026190418073:=rfl
noncomputable def _root_.PySem.W.Fast.tw9140266817696972190:Params->List (Nat×Obj):=Hd.L
def _root_.PySem.W.Fast.te9140266817696972190:Hd.L=PySem.W.Fast.tw9140266817696972190:=rfl
noncomputable def _root_.PySem.W.Fast.tw7625976266985363445:List Str:=Hd.loose
def _root_.PySem.W.Fast.te7625976266985363445:Hd.loose=PySem.W.Fast.tw7625976266985363445:=rfl
name_quick wq for whole by a9P
name_quick gq for good by b6L
name_quick zq for sz by c1F
def z_g (w:World):PySem.W.Fast.zq w=sg w:=by kernel_rfl
def w_g (w:World):PySem.W.Fast.wq w=PySem.W.Fast.gq w:=by kernel_rfl
def b9M:LeftO p qv loose (xlAt qv []) (fun s=>as.map s.heap.get?) (fun w=>((L w.params).map fun p=>p.2).map some) N:=yS S b5G (fun w=>(congrFun PySem.W.Fast.zq_eq w).trans (z_g w)) c0H fun w=>((congrFun PySem.W.Fast.wq_eq w).trans (w_g w)).trans (congrFun PySem.W.Fast.gq_eq w).symm
def left:LeftO p qv loose (xlAt qv []) (fun s=>as.map s.heap.get?) (fun w=>(KA w.params).map fun p=>some p.2) N:=fun w=>(b9M w).trans (by show some (_,((L w.params).map _).map _)=some (_,(KA w.params).map _);rw[K_L,List.map_map];rfl)
def tc:List (Addr×Addr):=[(969,965)]
def tabs (w:World)(h:Heap)(Y:InK KA w h):(K w.params).In h/\∀q∈tc,(K w.params).lookup q.2=none/\h.get? q.2=some (tabObj #[])/\codeHdIn (K w.params) q.1 q.2=true:=by
 have n965:(K w.params).lookup 965=none:=by kernel_rfl
 have t965:h.get? 965=some (tabObj #[]):=Y 965 _ (by kernel_rfl)
 have c965:codeHdIn (K w.params) 969 965=true:=by kernel_rfl
 refine⟨fun a o e=>Y a o ?_,fun q hq=>?_⟩
 ·show List.lookup a (((965:Nat),fi .none [])::K w.params)=some o
  rw[Y3]
  have e965:(a == 965)=false:=Y9.mpr fun z=>by rw[z,n965]at e;cases e
  rw[e965]
  exact e
 ·have hq:q∈([(969,965)]:List (Addr×Addr)):=hq
  simp only[YH,XD,or_false]at hq
  subst hq
  exact⟨n965,t965,c965⟩
def dl:DefRec:=dr (sf p 92)
def da:=(defOf qv "law",p.theDef "law")
def db:=(some (dl,([]:List (Str×PySem.Expr))),some (dl.params,dl.body,dl.scope))
def c2D:da=da:=rfl
def c2C:db=db:=rfl
name_quick daq for da by c2D
name_quick dbq for db by c2C
def d_q:PySem.W.Fast.daq=PySem.W.Fast.dbq:=by kernel_rfl
def d_e:da=db:=PySem.W.Fast.daq_eq.trans (d_q.trans PySem.W.Fast.dbq_eq.symm)
def dl_1:defOf qv "law"=some (dl, []):=YT Prod.fst d_e
def dl_2:p.theDef "law"=some (dl.params,dl.body,dl.scope):=YT Prod.snd d_e
end
end Hd
set_option Elab.async false
set_option linter.all false
set_option maxRecDepth 100000
namespace L2
open PySem PySem.Spec PyProof.Rows
variable {us:List Value}{x:Str}{u:Value}{a:Addr}{b:Addr}{P:Program}{w:World}{h:Heap}{t':Nat}{i:Nat}{j:Nat}{e:Expr}{A:Around}{E:Value->Shared->Prop}{s:Shared}{pos:Pos}{v:Value}{op:CmpOp}{c:Expr}{K:W.Frag}{pins:List (Addr×Obj)}{tg:Expr}{p:Pos}{fp:List Addr}{dx:Addr}{mA:Str->Option Value}{C:Addr}{f:Addr}{k:Nat}{fd:FuncData}{ps:List Str}{kindOf:Str->Option NameKind}{h':Heap}{es:List Expr}
abbrev Key:=Sum Int Str
def sI:Key->Value->Bool
 |.inl k,v=>Value.isInt k v
 |.inr x,v=>Value.isStrOf x v
def c1W (w:World):Key->Int
 |.inl k=>hashInt k
 |.inr x=>hashStr w x
theorem dC:∀{k:Key}{v:Value},sI k v=true->(∃i t,k=Sum.inl i/\v=Value.int i t)\/(∃x t,k=Sum.inr x/\v=Value.str x t)
 | .inl i,v,h=>by
  obtain⟨t,e⟩:=Value.isInt_shape (k:=i) (v:=v) h
  exact .inl ⟨i,t,rfl,e⟩
 | .inr x,v,h=>by
  obtain⟨t,e⟩:=Value.isStrOf_shape (x:=x) (v:=v) h
  exact .inr ⟨x,t,rfl,e⟩
def a3J (i:Int)(t:Tok):sI (.inl i) (.int i t)=true:=by simp[sI,Value.isInt]
def a3I (x:Str)(t:Tok):sI (.inr x) (.str x t)=true:=by simp[sI,Value.isStrOf]
def b6G (a b:Int):decide ((Sum.inl a:Key)=Sum.inl b)=(a == b):=by
 by_cases e:a=b
 ·subst e;simp
 ·have h:¬ (Sum.inl a:Key)=Sum.inl b:=fun q=>e (Sum.inl.inj q)
  rw[Yr h]
  exact(Y9.mpr e).symm
def b6D (a b:Str):decide ((Sum.inr a:Key)=Sum.inr b)=decide (a=b):=by
 by_cases e:a=b
 ·subst e;simp
 ·have h:¬ (Sum.inr a:Key)=Sum.inr b:=fun q=>e (Sum.inr.inj q)
  rw[Yr h,Yr e]
def b6F (a:Int)(b:Str):decide ((Sum.inl a:Key)=Sum.inr b)=false:=Yr (fun q=>nomatch q)
def b6E (a:Str)(b:Int):decide ((Sum.inr a:Key)=Sum.inl b)=false:=Yr (fun q=>nomatch q)
def dW (prog:Program)(w:World):PySem.KeyKind prog w Key where
 is:=sI
 hash:=c1W w
 inj :=fun v a b ha hb=>by
  rcases dC ha with ⟨i,t,rfl,rfl⟩ | ⟨x,t,rfl,rfl⟩
  ·rcases dC hb with ⟨j,u,rfl,e⟩ | ⟨y,u,rfl,e⟩
   ·injection e with e1 _;rw[e1]
   ·exact nomatch e
  ·rcases dC hb with ⟨j,u,rfl,e⟩ | ⟨y,u,rfl,e⟩
   ·exact nomatch e
   ·injection e with e1 _;rw[e1]
 byValue:=fun k v h=>by
  rcases dC h with ⟨i,t,rfl,rfl⟩ | ⟨x,t,rfl,rfl⟩ <;> rfl
 pyHash:=fun hv h=>by
  rcases dC hv with ⟨i,t,rfl,rfl⟩ | ⟨x,t,rfl,rfl⟩
  ·exact wpAny_pyHash_int h
  ·exact wpAny_pyHash_str h
 eqBool:=fun hu hv h=>by
  rcases dC hu with ⟨i,t,rfl,rfl⟩ | ⟨x,t,rfl,rfl⟩
  ·rcases dC hv with ⟨j,u,rfl,rfl⟩ | ⟨y,u,rfl,rfl⟩
   ·rw[b6G]at h;exact wpAny_eqBool_int h
   ·rw[b6F]at h;exact SeqAt.EqAt.int_str i t y u _ _ _ _ h
  ·rcases dC hv with ⟨j,u,rfl,rfl⟩ | ⟨y,u,rfl,rfl⟩
   ·rw[b6E]at h;exact SeqAt.EqAt.str_int x t j u _ _ _ _ h
   ·rw[b6D]at h;exact wpAny_eqBool_str h
 «strs»:=fun k x t v h=>by
  rcases dC h with ⟨i,u,rfl,e⟩ | ⟨y,u,rfl,e⟩
  ·exact nomatch e
  ·injection e with e1 _
   subst e1
   cases v <;> rfl
def wH (prog:Program)(w:World)(i:Int)(t:Tok):(dW prog w).is (.inl i) (.int i t)=true:=a3J i t
def wG (prog:Program)(w:World)(x:Str)(t:Tok):(dW prog w).is (.inr x) (.str x t)=true:=a3I x t
inductive V where
 |non | bl (b:Bool) | int (i:Int) | str (x:Str) | byt (b:Array UInt8) | flt (b:UInt64) | ref (a:Addr) | ty (n:String)
 deriving DecidableEq
def RelV:V->Value->Prop
 |.non,u=>u=Value.none
 |.bl b,u=>u=Value.bool b
 |.int i,u=>∃t,u=Value.int i t
 |.str x,u=>∃t,u=Value.str x t
 |.byt b,u=>∃t,u=Value.bytes b t
 |.flt b,u=>∃t,u=Value.float b t
 |.ref a,u=>u=Value.ref a
 |.ty n,u=>u=Value.type n
abbrev Vals:List V->List Value->Prop:=Paired RelV
def Vals.length {xs:List V}(r:Vals xs us):xs.length=us.length:=Paired.length r
theorem Vals.get:∀{xs:List V}{us:List Value}{i:Nat}{x:V},Vals xs us->xs[i]? =some x->∃u,us[i]? =some u/\RelV x u
 |_,_,_,_,.nil,e=>by simp at e
 |_,_,0,_,.cons r _,e=>by simp at e;subst e;exact⟨_,rfl,r⟩
 | _,_,i+1,x,.cons _ t,e=>by
  obtain⟨u,h1,h2⟩:=Vals.get (i:=i) (x:=x) t (by simpa using e)
  exact⟨u,by simpa using h1,h2⟩
theorem Vals.set {x:V}(r:RelV x u):∀{xs:List V}{us:List Value}(i:Nat),Vals xs us->Vals (xs.set i x) (us.set i u)
 |_,_,_,.nil=> .nil
 |_,_,0,.cons _ t=> .cons r t
 |_,_,i+1,.cons q t=> .cons q (Vals.set r i t)
theorem Vals.append:∀{xs ys:List V}{us ws:List Value},Vals xs us->Vals ys ws->Vals (xs++ys) (us++ws)
 |_,_,_,_,.nil,s=>s
 |_,_,_,_,.cons r t,s=> .cons r (Vals.append t s)
theorem Vals.take:∀{xs:List V}{us:List Value}(n:Nat),Vals xs us->Vals (xs.take n) (us.take n)
 |_,_,0,_=> .nil
 |_,_,_+1,.nil=> .nil
 |_,_,n+1,.cons r t=> .cons r (Vals.take n t)
theorem Vals.drop:∀{xs:List V}{us:List Value}(n:Nat),Vals xs us->Vals (xs.drop n) (us.drop n)
 |_,_,0,r=>r
 |_,_,_+1,.nil=> .nil
 |_,_,n+1,.cons _ t=>Vals.drop n t
def lF:Option V->Option Value->Prop
 |some v,some u=>RelV v u
 |none,none=>True
 |_,_=>False
def KV {κ:Type}:List (κ×V)->List (κ×Value)->Prop:=Paired fun (p:κ×V) (q:κ×Value)=>p.1=q.1/\RelV p.2 q.2
def kV:Key->V
 |.inl i=> .int i
 |.inr x=> .str x
inductive HO where
  |lst (xs:List V)
  |tup (xs:List V)
  |dK (kvs:List (Key×V)) | dT (kvs:List (List Key×V))
  |set (S:Int->Bool) (n:Nat)
  |ins (C dx:Addr) (fs:List (Str×V))
  |own (x:Addr)
  |xd (fs:List (Str×V))
  |met (f x:Addr)
  |rng (lo hi:Int)
  |frz (o:Obj) (u:HO)
  |tbl (ps:Array Value)
  |ext (φ:Heap->Prop)
variable {o:HO}
abbrev Hp:=Addr->Option HO
variable {H:Hp}{H':Hp}
def upd (H:Hp)(a:Addr)(o:HO):Hp:=fun b=>if b=a then some o else H b
def aC:upd H a o a=some o:=by unfold upd;rw[if_pos rfl]
def aH (h:b≠a):upd H a o b=H b:=by unfold upd;rw[if_neg h]
def b9A {u:HO}(h:H a=some o)(h':H b=some u)(d:o≠u):a≠b:=by
 intro e;subst e;rw[h]at h';exact d (Yp h')
def aO (h:H a=some o)(h':H b=none):a≠b:=by
 intro e;subst e;rw[h]at h';cases h'
section
variable (P:Program)(w:World)
def dN (H:Hp)(h:Heap)(a:Addr):HO->Prop
  |.lst xs=>xs.length<=sizeLine/\∃(its:List Value)(n:Nat),Vals xs its/\h.get? a=some { cls:= .type "list",data:= .seq its.toArray n }
  |.tup xs=>xs.length<=sizeLine/\∃its:List Value,Vals xs its/\IsTup h a its.toArray
  |.dK kvs=>kvs.length<=sizeLine/\(a == sysModules)=false/\∃vs,KV kvs vs/\h.DictOf (dW P w) a vs
  | .dT kvs=>kvs.length<=sizeLine/\(a == sysModules)=false/\∃xs:List (List Key×Addr×Value),
      Paired (fun (p:List Key×V) (q:List Key×Addr×Value)=>p.1=q.1/\H q.2.1=some (.tup (p.1.map kV))/\RelV p.2 q.2.2) kvs xs/\
      ∃o es ep,h.get? a=some o/\o.ExactDict/\o.data= .dict es ep/\es.toList=xs.map (entryOfKey (tupleKind (dW P w)))/\(xs.map (·.1)).Nodup
  |.set S n=>h.SetOf (intKind P w) a S n
  | .ins C dx fs=>H dx=some (.own a)/\fs.length<=1000/\dx≠a/\h.get? a=some (W.instObj C dx)/\
      ∃mA,h.Ns1 dx mA/\(∀f,lF (fs.lookup f) (mA f))/\PySem.Within mA (fs.map (·.1))
  |.own _=>∃o,h.get? a=some o
  |.xd fs=>∃mA,h.Ns1 a mA/\∀f,lF (fs.lookup f) (mA f)
  |.rng lo hi=>∃t u v,h.get? a=some { cls:= .type "range",data:= .fields #[.int lo t,.int hi u,.int 1 v] }
  |.frz o u=>h.get? a=some o/\dN H h a u
  |.tbl ps=>h.get? a=some { cls:= .none,data:= .fields ps }
  |.met f x=>h.get? a=some (W.methodObj (.ref f) (.ref x))
  |.ext φ=>φ h/\(∃o,h.get? a=some o)/\∀h1 h2:Heap,φ h1->(∀o,h1.get? a=some o->h2.get? a=some o)->φ h2
def HOk (H:Hp)(h:Heap):Prop:=∀a o,H a=some o->dN P w H h a o
end
section
def dN.lt (x:dN P w H h a o):a<h.objs.size:=by
 cases o with
 |lst xs=>obtain⟨_,_,_,_,e⟩:=x;exact Yo e
 |tup xs=>obtain⟨_,_,_,p⟩:=x;exact p.lt
 |dK kvs=>obtain⟨_,_,_,_,o,_,_,e,_⟩:=x;exact Yo e
 |dT kvs=>obtain⟨_,_,_,_,o,_,_,e,_⟩:=x;exact Yo e
 |set S n=>obtain⟨o,_,_,_,e,_⟩:=x;exact Yo e
 |ins C dx fs=>obtain⟨_,_,_,e,_⟩:=x;exact Yo e
 |own y=>obtain⟨_,e⟩:=x;exact Yo e
 |xd fs=>obtain⟨_,⟨_,_,_,e,_⟩,_⟩:=x;exact Yo e
 |rng lo hi=>obtain⟨_,_,_,e⟩:=x;exact Yo e
 |frz ob u=>obtain⟨e,_⟩:=x;exact Yo e
 |tbl ps=>exact Yo (show h.get? a=some _ from x)
 |met f y=>exact Yo (show h.get? a=some _ from x)
 |ext φ=>obtain⟨_,⟨_,e⟩,_⟩:=x;exact Yo e
theorem Paired.mapP {α β:Type}{F G:α->β->Prop}:∀{l₁:List α}{l₂:List β},Paired F l₁ l₂->(∀a b,F a b->G a b)->Paired G l₁ l₂
 |_,_,.nil,_=> .nil
 |_,_,.cons r t,f=> .cons (f _ _ r) (Paired.mapP t f)
theorem dN.stay (x:dN P w H h a o)(k:∀b u,(b=a\/H b=some (.own a))->h.get? b=some u->h'.get? b=some u)
  (ho:∀b,H b=some (.own a)->H' b=some (.own a)) (ht:∀b xs,H b=some (.tup xs)->H' b=some (.tup xs)):dN P w H' h' a o:=by
 induction o with
 |lst xs=>obtain⟨z,its,n,r,e⟩:=x;exact⟨z,its,n,r,k _ _ (.inl rfl) e⟩
 |tup xs=>obtain⟨z,its,r,ob,e,c⟩:=x;exact⟨z,its,r,ob,k _ _ (.inl rfl) e,c⟩
 |dK kvs=>obtain⟨z,y,vs,r,ob,es,ep,e,c⟩:=x;exact⟨z,y,vs,r,ob,es,ep,k _ _ (.inl rfl) e,c⟩
 | dT kvs=>
  obtain⟨z,y,xs,r,ob,es,ep,e,c⟩:=x
  exact⟨z,y,xs,Paired.mapP r fun p q z=>⟨z.1,ht _ _ z.2.1,z.2.2⟩,ob,es,ep,k _ _ (.inl rfl) e,c⟩
 |set S n=>obtain⟨ob,es,ep,t,e,c⟩:=x;exact⟨ob,es,ep,t,k _ _ (.inl rfl) e,c⟩
 | ins C dx fs=>
  obtain⟨d,z,ne,e,mA,⟨od,es,ep,e2,c⟩,r⟩:=x
  exact⟨ho _ d,z,ne,k _ _ (.inl rfl) e,mA,⟨od,es,ep,k _ _ (.inr d) e2,c⟩,r⟩
 |own y=>obtain⟨ob,e⟩:=x;exact⟨ob,k _ _ (.inl rfl) e⟩
 |xd fs=>obtain⟨mA,⟨od,es,ep,e,c⟩,r⟩:=x;exact⟨mA,⟨od,es,ep,k _ _ (.inl rfl) e,c⟩,r⟩
 |rng lo hi=>obtain⟨t,u,v,e⟩:=x;exact⟨t,u,v,k _ _ (.inl rfl) e⟩
 |frz ob u ih=>obtain⟨e,q⟩:=x;exact⟨k _ _ (.inl rfl) e,ih q⟩
 | tbl ps=>
  have e:h.get? a=some { cls:= .none,data:= .fields ps }:=x
  show h'.get? a=some { cls:= .none,data:= .fields ps }
  exact k a _ (.inl rfl) e
 | met f y=>
  have e:h.get? a=some (W.methodObj (.ref f) (.ref y)):=x
  show h'.get? a=some (W.methodObj (.ref f) (.ref y))
  exact k a _ (.inl rfl) e
 |ext φ=>obtain⟨p,⟨o,e⟩,st⟩:=x;exact⟨st _ _ p fun o q=>k _ _ (.inl rfl) q,⟨o,k _ _ (.inl rfl) e⟩,st⟩
def HOk.lt (x:HOk P w H h)(e:H a=some o):a<h.objs.size:=(x a o e).lt
def HOk.fresh (x:HOk P w H h)(e:h.objs.size<=a):H a=none:=by
 cases q:H a with
 |none=>rfl
 |some u=>exact absurd (Yf (x.lt q) e) (YS _)
def HOk.kept (x:HOk P w H h)(k:∀b u,h.get? b=some u->h'.get? b=some u):HOk P w H h':=fun a o e=>
 (x a o e).stay (fun b u _ q=>k b u q) (fun _ q=>q) fun _ _ q=>q
def HOk.laid (x:HOk P w H h)(k:∀b u,h.get? b=some u->h'.get? b=some u)(hp:h.objs.size<=a)(new:dN P w (upd H a o) h' a o):HOk P w (upd H a o) h':=fun b u e=>by
 have hn:=x.fresh hp
 by_cases hb:b=a
 ·subst hb;rw[aC]at e;cases e;exact new
 ·rw[aH hb]at e
  exact(x b u e).stay (fun c v _ q=>k c v q) (fun c q=>by rw[aH (aO q hn)];exact q) fun c xs q=>by rw[aH (aO q hn)];exact q
end
def Rd (H:Hp)(a:Addr)(u:HO):Prop:=H a=some u\/∃o,H a=some (.frz o u)
def Rd.ok {u:HO}(r:Rd H a u)(x:HOk P w H h):dN P w H h a u:=by
 rcases r with r | ⟨o,r⟩
 ·exact x a u r
 ·obtain⟨_,q⟩:=x a _ r
  exact q
def Mut:Option HO->Prop
 |some (.lst _)=>True
 |some (.dK _)=>True
 |some (.dT _)=>True
 |some (.set _ _)=>True
 |some (.ins _ _ _)=>True
 |some (.ext _)=>True
 |_=>False
section
variable {x e:Addr}{o':HO}
theorem HOk.write (ok:HOk P w H h)(mu:Mut (H x))(he:e=x\/H e=some (.own x))(k:∀b u,b≠e->h.get? b=some u->h'.get? b=some u)(heo:∃u,h'.get? e=some u)
  (new:dN P w (upd H x o') h' x o'):HOk P w (upd H x o') h':=fun b u q=>by
 have nown:∀c y,H c=some (.own y)->c≠x:=fun c y r z=>by subst z;rw[r]at mu;exact mu
 have ntup:∀c xs,H c=some (.tup xs)->c≠x:=fun c xs r z=>by subst z;rw[r]at mu;exact mu
 by_cases hb:b=x
 ·subst hb;rw[aC]at q;cases q;exact new
 ·rw [aH hb]at q
  by_cases hbe:b=e
  ·have q':H b=some (.own x):=by
    rcases he with z | z
    ·exact absurd (hbe.trans z) hb
    ·rw[hbe];exact z
   rw[q]at q';cases q'
   obtain⟨v,hv⟩:=heo
   exact⟨v,by rw[hbe];exact hv⟩
  ·refine(ok b u q).stay (fun c v hc r=>k c v ?_ r) (fun c r=>by rw[aH (nown c b r)];exact r) fun c xs r=>by rw[aH (ntup c xs r)];exact r
   rcases hc with rfl | hc
   ·exact hbe
   ·rintro rfl
    rcases he with z | z
    ·exact nown c b hc z
    ·rw[hc]at z;cases z;exact hb rfl
end
structure Un (fs ex:List Addr)(H H':Hp)(h h':Heap):Prop where
 keep:∀b o,h.get? b=some o->H b=none->b∉fs->b∉ex->h'.get? b=some o
 slot:∀b o,h.get? b=some o->H b=none->b∈fs->b∉ex->∃sl,h'.get? b=some { o with slots:=sl }
 free:∀b o,h.get? b=some o->H b=none->b∉ex->H' b=none
 there:∀b o,h.get? b=some o->b∉ex->∃o',h'.get? b=some o'
 tups:∀b xs,H b=some (.tup xs)->H' b=some (.tup xs)
 frzs:∀b o u,H b=some (.frz o u)->H' b=some (.frz o u)
 tbls:∀b ps,H b=some (.tbl ps)->∃more,H' b=some (.tbl (ps++more))
section
variable {fs fs' ex ex':List Addr}{H1 H2:Hp}{h1 h2:Heap}{x e:Addr}
def Un.any (u:Un fs ex H H1 h h1){ob:Obj}(q:h.get? b=some ob)(n:H b=none)(hx:b∉ex):∃sl,h1.get? b=some { ob with slots:=sl }:=by
 by_cases hb:b∈fs
 ·exact u.slot b ob q n hb hx
 ·exact⟨ob.slots,u.keep b ob q n hb hx⟩
def Un.kept (k:∀b u,h.get? b=some u->h'.get? b=some u):Un fs ex H H h h':=
 ⟨fun b ob q _ _ _=>k b ob q,fun b ob q _ _ _=>⟨ob.slots,k b ob q⟩,fun _ _ _ n _=>n,fun b ob q _=>⟨ob,k b ob q⟩,fun _ _ q=>q,fun _ _ _ q=>q,fun _ ps q=>⟨#[],by rw[q];simp⟩⟩
def Un.refl:Un fs ex H H h h:=Un.kept fun _ _ q=>q
theorem Un.laid (k:∀b u,h.get? b=some u->h'.get? b=some u)(hp:h.objs.size<=a)(hn:H a=none):Un fs ex H (upd H a o) h h' where
 keep:=fun b u q _ _ _=>k b u q
 slot:=fun b u q _ _ _=>⟨u.slots,k b u q⟩
 free:=fun b u q n _=>by rw[aH (YD (Yf (Yo q) hp))];exact n
 there:=fun b u q _=>⟨u,k b u q⟩
 tups:=fun b xs q=>by rw[aH (aO q hn)];exact q
 frzs:=fun b u xs q=>by rw[aH (aO q hn)];exact q
 tbls:=fun b ps q=>⟨#[],by rw[aH (aO q hn),q];simp⟩
def Un.write (mu:Mut (H x))(he:e=x\/H e=some (.own x))(k:∀b u,b≠e->h.get? b=some u->h'.get? b=some u)(heo:∃u,h'.get? e=some u):Un fs ex H (upd H x o) h h':=by
 have hx:∀b,H b=none->b≠x:=fun b n z=>by subst z;rw[n]at mu;exact mu
 have hb:∀b,H b=none->b≠e:=fun b n z=>by
  subst z
  rcases he with r | r
  ·exact hx b n r
  ·rw[n]at r;cases r
 have hm:∀b u,H b=some u->¬ Mut (some u)->b≠x:=fun b u q nm z=>by subst z;rw[q]at mu;exact nm mu
 refine⟨fun b u q n _ _=>k b u (hb b n) q,fun b u q n _ _=>⟨u.slots,k b u (hb b n) q⟩,fun b u q n _=>by rw[aH (hx b n)];exact n,fun b u q _=>?_,
  fun b xs q=>by rw[aH (hm b _ q fun z=>z)];exact q,fun b u xs q=>by rw[aH (hm b _ q fun z=>z)];exact q,fun b ps q=>⟨#[],by rw[aH (hm b _ q fun z=>z),q];simp⟩⟩
 by_cases hbe:b=e
 ·subst hbe;exact heo
 ·exact⟨u,k b u hbe q⟩
end
def trk (h:Heap)(H:Hp):List Addr:=(List.range h.objs.size).filter fun a=>(H a).isSome
def uF (h:Heap)(H:Hp):Heap:=W.hideAll h (trk h H)
def a3L (h:Heap)(H:Hp):(uF h H).objs.size=h.objs.size:=W.hideAll_size _ _
def a8A {o:Obj}(e:h.get? b=some o)(n:H b=none):(uF h H).get? b=some o:=
 W.hideAll_get _ e fun hm=>by
  have q:(H b).isSome=true:=(Ji.mp hm).2
  rw[n]at q;simp at q
def b1O {o:Obj}(e:(uF h H).get? b=some o):h.get? b=some o/\H b=none:=by
 have e':h.get? b=some o:=W.of_hideAll (trk h H) e
 refine⟨e',?_⟩
 cases q:H b with
 |none=>rfl
 | some x=>
  have hm:b∈trk h H:=Ji.mpr ⟨Xo.mpr (Yo e'),by simp[q]⟩
  have z:(uF h H).get? b=none:=W.hideAll_none (trk h H) hm
  rw[z]at e;cases e
structure Mod (K:W.Frag)(mg:Str->Option Value)(base:Heap):Prop where
 kin:K.In base
 glob:base.Ns mainGlobals mg
 blt:∃mb,base.Ns builtinsNs mb/\∀x:Str,x≠"__name__"->mb x=bootBuiltins x
 nolimit:base.NoLimit
structure Cx where
 prog:Program
 w:World
 K:W.Frag
 mg:Str->Option Value
 base:Heap
 A:Around
 N:List Str
 s₀:Shared
 H₀:Hp
 env:Env
 outer:List Env
 stack:List Env
 ex:List Addr
 fn:Str->Bool
 calm:Bool
 pn:List (Addr×Obj)
 xe:Value->Shared->Prop
variable {X:Cx}
def frs (l:List Env):List Addr:=l.filterMap (·.frame)
abbrev Cx.fs (X:Cx):List Addr:=frs X.outer
def Vis (sc:Scope)(x:Str):Prop:=sc.names.lookup x=some .local\/sc.names.lookup x=some .cell\/sc.names.lookup x=some .free
def Loc (sc:Scope)(x:Str):Prop:=sc.names.lookup x=some .local\/sc.names.lookup x=some .cell
def Look (env:Env)(h:Heap)(m:Str->Option Value)(x:Str)(u:Value):Prop:=
 (env.kindOf x=some .local/\m x=some u)\/((env.kindOf x=some .cell\/env.kindOf x=some .free)/\∃c,env.cells.lookup x=some c/\h.IsCell c (some u))
structure Cx.Ok (X:Cx):Prop where
 mod:Mod X.K X.mg X.base
 kind:X.env.scope.kind= .function
 glob:X.env.globals=mainGlobals
 blt:X.env.builtins=builtinsNs
 above:X.s₀.heap.objs.size<=X.env.locals
 inj:∀x y c,X.env.cells.lookup x=some c->X.env.cells.lookup y=some c->x=y
 has:∀x,(X.env.kindOf x=some .cell\/X.env.kindOf x=some .free)->∃c,X.env.cells.lookup x=some c
 cab:∀x c,X.fn x=true->X.env.cells.lookup x=some c->X.s₀.heap.objs.size<=c
 hd:X.calm=true->X.A.handled=none
 frames:X.A.frames=some X.stack
 stk:X.stack=X.outer\/(X.stack=X.env::X.outer/\X.env.frame=some X.env.locals)
 exf:∀b∈X.ex,b≠X.env.locals/\∀x c,X.env.cells.lookup x=some c->c≠b
 bs:∀b o,X.base.get? b=some o->X.s₀.heap.get? b=some o/\X.H₀ b=none
 bsz:X.base.objs.size<=X.s₀.heap.objs.size
 noex:∀b o,X.base.get? b=some o->b∉X.ex
 exfs:∀b∈X.ex,b∉X.fs
 funs:X.s₀.heap.FunFrames X.base X.outer
 frf:∀b∈X.fs,X.H₀ b=none
structure Inv (X:Cx)(pins:List (Addr×Obj))(σ:List (Option V))(H:Hp)(s:Shared):Prop where
 ok:X.Ok
 os:s.os=X.s₀.os
 bare:AllBare s.gens
 base:Un X.fs X.ex X.H₀ H X.s₀.heap s.heap
 loc:∃m,s.heap.Ns X.env.locals m/\∀(i:Nat)(x:Str)(v:V),X.N[i]? =some x->σ[i]? =some (some v)->Vis X.env.scope x->∃u,RelV v u/\Look X.env s.heap m x u
 cell:∀x c,X.env.cells.lookup x=some c->∃v,s.heap.IsCell c v
 free:H X.env.locals=none
 freeC:∀x c,X.env.cells.lookup x=some c->H c=none
 pin:∀p∈X.pn++pins,s.heap.get? p.1=some p.2/\H p.1=none/\p.1≠X.env.locals/\p.1∉X.fs/\∀v,p.2.data≠ .cell v
 hok:HOk X.prog X.w H s.heap
 len:σ.length=X.N.length
section
variable {σ:List (Option V)}
def Cx.Ok.nofr (ok:X.Ok){o:Obj}(e:X.base.get? b=some o):b∉X.fs:=fun hb=>by
 have:=(ok.funs.mem hb).1
 rw[e]at this;cases this
def Inv.bs (I:Inv X pins σ H s):∀b o,X.base.get? b=some o->s.heap.get? b=some o/\H b=none:=fun b o e=>
 ⟨I.base.keep b o (I.ok.bs b o e).1 (I.ok.bs b o e).2 (I.ok.nofr e) (I.ok.noex b o e),I.base.free b o (I.ok.bs b o e).1 (I.ok.bs b o e).2 (I.ok.noex b o e)⟩
def Inv.bk (I:Inv X pins σ H s):∀b o,X.base.get? b=some o->s.heap.get? b=some o:=fun b o e=>(I.bs b o e).1
def Inv.mod (I:Inv X pins σ H s):Mod X.K X.mg X.base:=I.ok.mod
def Inv.kIn (I:Inv X pins σ H s):X.K.In s.heap:=I.ok.mod.kin.keeps I.bk
def Inv.fr (I:Inv X pins σ H s):∃m,Fr X.base X.env.locals s.heap m:=
 let ⟨m,hn,_⟩:=I.loc
 ⟨m,hn,I.bk,Y1 I.ok.bsz I.ok.above⟩
def Inv.lt (I:Inv X pins σ H s):X.env.locals<s.heap.objs.size:=let ⟨_,hn,_⟩:=I.loc;hn.lt
def Inv.sz (I:Inv X pins σ H s):X.s₀.heap.objs.size<=s.heap.objs.size:=Y1 I.ok.above (YV I.lt)
def Inv.nofs (I:Inv X pins σ H s)(h:s.heap.objs.size<=a):a∉X.fs:=fun hb=>by
 obtain⟨_,o,ho,_⟩:=I.ok.funs.mem hb
 exact absurd (Yf (Yo ho) (Y1 I.sz h)) (YS _)
def Inv.cne (I:Inv X pins σ H s):∀x c,X.env.cells.lookup x=some c->c≠X.env.locals:=fun x c e z=>by
 obtain⟨v,o,ho,hd⟩:=I.cell x c e
 obtain⟨m,⟨o',es,ep,ho',hd',_⟩,_⟩:=I.loc
 rw[z,ho']at ho;cases ho;rw[hd']at hd;cases hd
def Inv.funs (I:Inv X pins σ H s):s.heap.FunFrames X.base X.outer:=by
 have all:∀(l:List Env),(∀b∈frs l,b∈X.fs)->X.s₀.heap.FunFrames X.base l->s.heap.FunFrames X.base l:=by
  intro l
  induction l with
  |nil=>intro _ _;trivial
  | cons env r ih=>
   intro hs hl
   obtain⟨hk,⟨L,o,hf,hn,ho,hd⟩,hr⟩:=hl
   have hL:L∈X.fs:=hs L (by unfold frs;rw[List.filterMap_cons,hf];exact Yq)
   obtain⟨sl,e⟩:=I.base.slot L o ho (I.ok.frf L hL) hL fun z=>I.ok.exfs L z hL
   exact⟨hk,⟨L,_,hf,hn,e,hd⟩,ih (fun b hb=>hs b (by unfold frs;rw[List.filterMap_cons,hf];exact Yw _ hb)) hr⟩
 exact all X.outer (fun _ hb=>hb) I.ok.funs
def Inv.stack (I:Inv X pins σ H s):s.heap.FunFrames X.base X.stack:=by
 rcases I.ok.stk with e | ⟨e,hf⟩
 ·rw[e];exact I.funs
 ·rw[e]
  obtain⟨m,hn,_⟩:=I.loc
  refine .cons (by rw[I.ok.kind];decide) hf hn ?_ I.funs
  exact Heap.get?_none_of_le (Y1 I.ok.bsz I.ok.above)
def Inv.stkSub (I:Inv X pins σ H s):∀b∈frs X.stack,b∈X.env.locals::X.fs:=fun b hb=>by
 rcases I.ok.stk with e | ⟨e,hf⟩
 ·rw[e]at hb;exact Yw _ hb
 ·rw[e]at hb
  unfold frs at hb
  rw[List.filterMap_cons,hf]at hb
  exact hb
def Inv.stkFree (I:Inv X pins σ H s):∀b∈frs X.stack,H b=none:=fun b hb=>by
 rcases YH.mp (I.stkSub b hb) with e | hb
 ·rw[e];exact I.free
 ·obtain⟨_,o,ho,_⟩:=I.ok.funs.mem hb
  exact I.base.free b o ho (I.ok.frf b hb) fun z=>I.ok.exfs b z hb
theorem Inv.step {g':Array GenState}{t':Nat}{d':Drawn}{ch:List Addr}(I:Inv X pins σ H s)
  (hch:∀b∈ch,(b∈X.ex\/X.s₀.heap.objs.size<=b)/\b≠X.env.locals/\(∀x c,X.env.cells.lookup x=some c->c≠b)/\∀p∈X.pn++pins,p.1≠b)
  (keep:∀b o,b≠X.env.locals->b∉X.fs->b∉ch->s.heap.get? b=some o->H b=none->h'.get? b=some o)
  (slot:∀b o,b≠X.env.locals->b∈X.fs->b∉ch->s.heap.get? b=some o->H b=none->∃sl,h'.get? b=some { o with slots:=sl }) (free:∀b o,b∉ch->s.heap.get? b=some o->H b=none->H' b=none)
  (there:∀b o,b∉ch->s.heap.get? b=some o->∃o',h'.get? b=some o')
  (tups:∀b xs,H b=some (.tup xs)->H' b=some (.tup xs)) (frzs:∀b o u,H b=some (.frz o u)->H' b=some (.frz o u)) (tbls:∀b ps,H b=some (.tbl ps)->∃more,H' b=some (.tbl (ps++more)))
  (ns:∀m,s.heap.Ns X.env.locals m->h'.Ns X.env.locals m) (hok:HOk X.prog X.w H' h') (hg:AllBare g') :
  Inv X pins σ H' { s with heap:=h',gens:=g',drawn:=d',toks:=t' }:=by
 have neL:∀b o,X.s₀.heap.get? b=some o->b≠X.env.locals:=fun b o e=>YD (Yf (Yo e) I.ok.above)
 have neC:∀b o,X.s₀.heap.get? b=some o->b∉X.ex->b∉ch:=fun b o e hx hb=>by
  rcases (hch b hb).1 with z | z
  ·exact hx z
  ·exact absurd (Yf (Yo e) z) (YS _)
 have cellK:∀x c,X.env.cells.lookup x=some c->∀v,s.heap.IsCell c v->h'.IsCell c v:=fun x c e v ⟨o,ho,hd⟩=>by
  have nch:c∉ch:=fun z=>(hch c z).2.2.1 x c e rfl
  by_cases hc:c∈X.fs
  ·obtain⟨sl,q⟩:=slot c o (I.cne x c e) hc nch ho (I.freeC x c e)
   exact⟨_,q,hd⟩
  ·exact⟨o,keep c o (I.cne x c e) hc nch ho (I.freeC x c e),hd⟩
 refine⟨I.ok,I.os,hg,⟨fun b o e n hb hx=>?_,fun b o e n hb hx=>?_,fun b o e n hx=>?_,fun b o e hx=>?_,fun b xs e=>tups b xs (I.base.tups b xs e),fun b o xs e=>frzs b o xs (I.base.frzs b o xs e),fun b ps e=>?_⟩,?_,fun x c e=>?_,?_,fun x c e=>?_,fun p hp=>?_,hok,I.len⟩
 ·exact keep b o (neL b o e) hb (neC b o e hx) (I.base.keep b o e n hb hx) (I.base.free b o e n hx)
 ·obtain⟨sl,e1⟩:=I.base.slot b o e n hb hx
  obtain⟨sl',e2⟩:=slot b _ (neL b o e) hb (neC b o e hx) e1 (I.base.free b o e n hx)
  exact⟨sl',e2⟩
 ·obtain⟨o',e1⟩:=I.base.there b o e hx
  exact free b o' (neC b o e hx) e1 (I.base.free b o e n hx)
 ·obtain⟨o',e1⟩:=I.base.there b o e hx
  exact there b o' (neC b o e hx) e1
 ·obtain⟨m1,e1⟩:=I.base.tbls b ps e
  obtain⟨m2,e2⟩:=tbls b _ e1
  exact⟨m1++m2,by rw[e2,Array.append_assoc]⟩
 ·obtain⟨m,hn,hl⟩:=I.loc
  refine⟨m,ns m hn,fun i x v e1 e2 e3=>?_⟩
  obtain⟨u,r,l⟩:=hl i x v e1 e2 e3
  refine⟨u,r,?_⟩
  rcases l with l | ⟨k,c,e,z⟩
  ·exact .inl l
  ·exact .inr ⟨k,c,e,cellK x c e _ z⟩
 ·obtain⟨v,z⟩:=I.cell x c e
  exact⟨v,cellK x c e v z⟩
 ·obtain⟨m,⟨o,_,_,ho,_⟩,_⟩:=I.loc
  exact free _ o (fun z=>(hch _ z).2.1 rfl) ho I.free
 ·obtain⟨v,o,ho,hd⟩:=I.cell x c e
  exact free c o (fun z=>(hch c z).2.2.1 x c e rfl) ho (I.freeC x c e)
 ·obtain⟨e,n,ne,nf,d⟩:=I.pin p hp
  have nch:p.1∉ch:=fun z=>(hch p.1 z).2.2.2 p hp rfl
  exact⟨keep p.1 p.2 ne nf nch e n,free p.1 p.2 nch e n,ne,nf,d⟩
def Inv.un {t':Nat}(I:Inv X pins σ H s)(u:Un X.fs [] H H' s.heap h')(hok:HOk X.prog X.w H' h'):Inv X pins σ H' { s with heap:=h',toks:=t' }:=by
 obtain⟨m,⟨o,es,ep,ho,r⟩,_⟩:=id I.loc
 obtain⟨sl,hL⟩:=u.any ho I.free (by simp)
 exact I.step (g':=s.gens) (d':=s.drawn) (ch:=[]) (fun _ z=>nomatch z) (fun b o _ hb _ e n=>u.keep b o e n hb (by simp)) (fun b o _ hb _ e n=>u.slot b o e n hb (by simp)) (fun b o _ e n=>u.free b o e n (by simp)) (fun b o _ e=>u.there b o e (by simp)) u.tups u.frzs u.tbls (fun m' hm=>by
  obtain⟨o',es',ep',ho',r'⟩:=hm
  rw[ho]at ho';cases ho'
  exact⟨_,es',ep',hL,r'⟩) hok I.bare
theorem Inv.call {g':Array GenState}{t':Nat}{d':Drawn}{ch:List Addr}(I:Inv X pins σ H s)(u:Un (frs X.stack) ch H H' s.heap h')(hok:HOk X.prog X.w H' h')(hg:AllBare g')
  (hch:∀b∈ch,(b∈X.ex\/X.s₀.heap.objs.size<=b)/\b≠X.env.locals/\(∀x c,X.env.cells.lookup x=some c->c≠b)/\∀p∈X.pn++pins,p.1≠b) :
  Inv X pins σ H' { s with heap:=h',gens:=g',drawn:=d',toks:=t' }:=by
 obtain⟨m,⟨o,es,ep,ho,r⟩,_⟩:=id I.loc
 obtain⟨sl,hL⟩:=u.any ho I.free fun z=>(hch _ z).2.1 rfl
 exact I.step (ch:=ch) hch (fun b o hL hb hc e n=>u.keep b o e n (fun z=>(YH.mp (I.stkSub b z)).elim hL hb) hc) (fun b o _ _ hc e n=>u.any e n hc) (fun b o hc e n=>u.free b o e n hc) (fun b o hc e=>u.there b o e hc) u.tups u.frzs u.tbls (fun m' hm=>by
  obtain⟨o',es',ep',ho',r'⟩:=hm
  rw[ho]at ho';cases ho'
  exact⟨_,es',ep',hL,r'⟩) hok hg
theorem Inv.turned {t':Nat}{it:Addr}(I:Inv X pins σ H s)(k:∀b o,b≠it->s.heap.get? b=some o->h'.get? b=some o)(hn:H it=none)(hL:it≠X.env.locals)
  (h1:it∈X.ex\/X.s₀.heap.objs.size<=it) (h2:∀x c,X.env.cells.lookup x=some c->c≠it) (h3:∀p∈X.pn++pins,p.1≠it):Inv X pins σ H { s with heap:=h',toks:=t' }:=by
 have nit:∀b u,H b=some u->b≠it:=fun b u e z=>by rw[z,hn]at e;cases e
 refine I.step (g':=s.gens) (d':=s.drawn) (ch:=[it]) (fun b hb=>?_) (fun b o _ _ hc e _=>k b o (fun z=>hc (by simp[z])) e) (fun b o _ _ hc e _=>⟨o.slots,k b o (fun z=>hc (by simp[z])) e⟩) (fun _ _ _ _ n=>n)
  (fun b o hc e=>⟨o,k b o (fun z=>hc (by simp[z])) e⟩) (fun _ _ e=>e) (fun _ _ _ e=>e) (fun b ps e=>⟨#[],by rw[e];simp⟩) (fun m hm=>?_) (fun b u e=>?_) I.bare
 ·have e:b=it:=by simpa using hb
  subst e
  exact⟨h1,hL,h2,h3⟩
 ·obtain⟨o,es,ep,ho,r⟩:=hm
  exact⟨o,es,ep,k _ o (Ne.symm hL) ho,r⟩
 ·refine(I.hok b u e).stay (fun c v hc q=>k c v ?_ q) (fun _ q=>q) fun _ _ q=>q
  rcases hc with z | z
  ·rw[z];exact nit b u e
  ·exact nit c _ z
def Inv.tok (I:Inv X pins σ H s)(t:Nat):Inv X pins σ H { s with toks:=t }:=I.un (h':=s.heap) (t':=t) Un.refl I.hok
def Inv.kept {t':Nat}(I:Inv X pins σ H s)(k:∀b u,s.heap.get? b=some u->h'.get? b=some u):Inv X pins σ H { s with heap:=h',toks:=t' }:=I.un (Un.kept k) (I.hok.kept k)
theorem Inv.laid {t':Nat}(I:Inv X pins σ H s)(k:∀b u,s.heap.get? b=some u->h'.get? b=some u)(hp:s.heap.objs.size<=a)(new:dN X.prog X.w (upd H a o) h' a o):
  Inv X pins σ (upd H a o) { s with heap:=h',toks:=t' }:=I.un (Un.laid k hp (I.hok.fresh hp)) (I.hok.laid k hp new)
theorem Inv.write {x e:Addr}{o:HO}{t':Nat}(I:Inv X pins σ H s)(mu:Mut (H x))(he:e=x\/H e=some (.own x))(k:∀b u,b≠e->s.heap.get? b=some u->h'.get? b=some u)(heo:∃u,h'.get? e=some u)
  (new:dN X.prog X.w (upd H x o) h' x o):Inv X pins σ (upd H x o) { s with heap:=h',toks:=t' }:=I.un (Un.write mu he k heo) (I.hok.write mu he k heo new)
def Inv.weak {σ':List (Option V)}(I:Inv X pins σ H s)(hl:σ'.length=σ.length)(w:∀(i:Nat) v,σ'[i]? =some (some v)->σ[i]? =some (some v)):Inv X pins σ' H s:=
 ⟨I.ok,I.os,I.bare,I.base,let ⟨m,hn,hl'⟩:=I.loc;⟨m,hn,fun i x v e1 e2 e3=>hl' i x v e1 (w i v e2) e3⟩,I.cell,I.free,I.freeC,I.pin,I.hok,hl.trans I.len⟩
def Inv.pins_of {pins':List (Addr×Obj)}(I:Inv X pins σ H s)(h:∀p∈pins',s.heap.get? p.1=some p.2/\H p.1=none/\p.1≠X.env.locals/\p.1∉X.fs/\∀v,p.2.data≠ .cell v):Inv X pins' σ H s:=
 ⟨I.ok,I.os,I.bare,I.base,I.loc,I.cell,I.free,I.freeC,fun p hp=>(Yy.mp hp).elim (fun z=>I.pin p (Xp _ z)) (h p),I.hok,I.len⟩
def wD {N:List Str}(hN:N.Nodup)(a:N[i]? =some x)(b:N[j]? =some x):i=j:=by
 obtain⟨h1,e1⟩:=Yg.mp a
 obtain⟨h2,e2⟩:=Yg.mp b
 exact(List.getElem_inj hN).mp (e1.trans e2.symm)
theorem nZ {M:Model}{A:Around}{E:Value->Shared->Prop}{i:Nat}{x:Str}{v:V}{u:Value}{Q:Unit->Shared->Prop}(I:Inv X pins σ H s)(hN:X.N.Nodup)(hi:X.N[i]? =some x)(hx:Loc X.env.scope x)(r:RelV v u)
  (h:∀s',Inv X pins (σ.set i (some v)) H s'->(∃a,Heap.SameBut a s.heap s'.heap/\(a=X.env.locals\/X.env.cells.lookup x=some a))->Q () s') (hf:X.fn x=true\/X.env.scope.names.lookup x=some .local:=by first | exact .inl rfl | exact .inr rfl | assumption):wpAny M A (storeName X.env x u) Q E s:=by
 obtain⟨m,hn,hl⟩:=id I.loc
 have hcls:(X.env.scope.kind == .class || (X.env.scope.kind == .module && X.env.locals != X.env.globals))=false:=by rw[I.ok.kind];rfl
 have hiσ:i<σ.length:=by rw[I.len];exact(Yg.mp hi).1
 have cne:=I.cne
 have tracked:∀{a:Addr}{h':Heap},(∃o,s.heap.get? a=some o/\H a=none)->Heap.SameBut a s.heap h'->HOk X.prog X.w H h':=fun {a h'} ha hs b ob e=>by
  obtain⟨_,_,hfree⟩:=ha
  refine(I.hok b ob e).stay (fun c w' hc q=>(hs.2 c ?_).trans q) (fun _ q=>q) fun _ _ q=>q
  rintro rfl
  rcases hc with rfl | hc
  ·rw[hfree]at e;cases e
  ·rw[hfree]at hc;cases hc
 rcases hx with hk | hk
 ·refine wpAny_storeName_local hk hn (fun h' hn' hs=>?_) hcls
  obtain⟨oL,_,_,hoL,_⟩:=id hn
  refine h _ ⟨I.ok,I.os,I.bare,⟨fun b o e n hb hx=>?_,fun b o e n hb hx=>?_,I.base.free,fun b o e hx=>?_,I.base.tups,I.base.frzs,I.base.tbls⟩,⟨_,hn',fun j y v' e1 e2 e3=>?_⟩,fun y c e=>?_,I.free,I.freeC,fun p hp=>?_,tracked ⟨oL,hoL,I.free⟩ hs,by simpa using I.len⟩ ⟨_,hs,.inl rfl⟩
  ·exact(hs.2 b (YD (Yf (Yo e) I.ok.above))).trans (I.base.keep b o e n hb hx)
  ·obtain⟨sl,e1⟩:=I.base.slot b o e n hb hx
   exact⟨sl,(hs.2 b (YD (Yf (Yo e) I.ok.above))).trans e1⟩
  ·obtain⟨o',e1⟩:=I.base.there b o e hx
   exact⟨o',(hs.2 b (YD (Yf (Yo e) I.ok.above))).trans e1⟩
  ·by_cases hj:j=i
   ·subst hj
    rw[hi]at e1;cases e1
    rw[List.getElem?_set_self hiσ]at e2
    cases e2
    exact⟨u,r,.inl ⟨hk,by simp⟩⟩
   ·rw [Xh (Ne.symm hj)]at e2
    obtain⟨u',r',q⟩:=hl j y v' e1 e2 e3
    refine⟨u',r',?_⟩
    rcases q with ⟨k,e⟩ | ⟨k,c,e,z⟩
    ·refine .inl ⟨k,?_⟩
     have:y≠x:=fun e=>hj (wD hN e1 (e▸hi))
     simp[this,e]
    ·exact .inr ⟨k,c,e,z.sameBut hs (cne y c e)⟩
  ·obtain⟨w',z⟩:=I.cell y c e
   exact⟨w',z.sameBut hs (cne y c e)⟩
  ·obtain⟨e,n,ne,nf,d⟩:=I.pin p hp
   exact⟨(hs.2 p.1 ne).trans e,n,ne,nf,d⟩
 ·have hfn:X.fn x=true:=by
   rcases hf with z | z
   ·exact z
   ·rw[z]at hk;cases hk
  obtain⟨c,hc⟩:=I.ok.has x (.inl hk)
  obtain⟨w',z⟩:=I.cell x c hc
  refine wpAny_storeName_cell I.ok.kind hk hc z (fun h' hc' hs=>?_)
  obtain⟨oc,hoc,hocd⟩:=id z
  refine h { s with heap:=h' } ⟨I.ok,I.os,I.bare,⟨fun b o e n hb hx=>?_,fun b o e n hb hx=>?_,I.base.free,fun b o e hx=>?_,I.base.tups,I.base.frzs,I.base.tbls⟩,⟨m,hn.sameBut hs (Ne.symm (cne x c hc)),fun j y v' e1 e2 e3=>?_⟩,fun y c' e=>?_,I.free,I.freeC,fun p hp=>?_,tracked ⟨oc,hoc,I.freeC x c hc⟩ hs,by simpa using I.len⟩ ⟨c,hs,.inr hc⟩
  ·exact(hs.2 b (YD (Yf (Yo e) (I.ok.cab x c hfn hc)))).trans (I.base.keep b o e n hb hx)
  ·obtain⟨sl,e1⟩:=I.base.slot b o e n hb hx
   exact⟨sl,(hs.2 b (YD (Yf (Yo e) (I.ok.cab x c hfn hc)))).trans e1⟩
  ·obtain⟨o',e1⟩:=I.base.there b o e hx
   exact⟨o',(hs.2 b (YD (Yf (Yo e) (I.ok.cab x c hfn hc)))).trans e1⟩
  ·by_cases hj:j=i
   ·subst hj
    rw[hi]at e1;cases e1
    rw[List.getElem?_set_self hiσ]at e2
    cases e2
    exact⟨u,r,.inr ⟨.inl hk,c,hc,hc'⟩⟩
   ·rw [Xh (Ne.symm hj)]at e2
    obtain⟨u',r',q⟩:=hl j y v' e1 e2 e3
    refine⟨u',r',?_⟩
    rcases q with q | ⟨k,c',e,z'⟩
    ·exact .inl q
    ·refine .inr ⟨k,c',e,z'.sameBut hs ?_⟩
     rintro rfl
     exact hj (wD hN e1 (I.ok.inj _ _ _ e hc▸hi))
  ·by_cases hcc:c'=c
   ·subst hcc;exact⟨_,hc'⟩
   ·obtain⟨w2,z2⟩:=I.cell y c' e
    exact⟨w2,z2.sameBut hs hcc⟩
  ·obtain⟨e,n,ne,nf,d⟩:=I.pin p hp
   refine⟨(hs.2 p.1 ?_).trans e,n,ne,nf,d⟩
   intro q
   rw[q,hoc]at e
   have q':oc=p.2:=Yp e
   exact d w' (by rw[<-q'];exact hocd)
theorem lY {M:Model}{A:Around}{E:Value->Shared->Prop}{i:Nat}{x:Str}{v:V}{u:Value}{Q:Unit->Shared->Prop}(I:Inv X pins σ H s)(hN:X.N.Nodup)(hi:X.N[i]? =some x)(hx:Loc X.env.scope x)(r:RelV v u)
  (h:∀s',Inv X pins (σ.set i (some v)) H s'->Q () s') (hf:X.fn x=true\/X.env.scope.names.lookup x=some .local:=by first | exact .inl rfl | exact .inr rfl | assumption):wpAny M A (storeName X.env x u) Q E s:=
 nZ I hN hi hx r (fun s' I' _=>h s' I') hf
theorem Inv.call' {s':Shared}{ch:List Addr}(I:Inv X pins σ H s)(ho:s'.os=s.os)(u:Un (frs X.stack) ch H H' s.heap s'.heap)(hok:HOk X.prog X.w H' s'.heap)(hg:AllBare s'.gens)
  (hch:∀b∈ch,(b∈X.ex\/X.s₀.heap.objs.size<=b)/\b≠X.env.locals/\(∀x c,X.env.cells.lookup x=some c->c≠b)/\∀p∈X.pn++pins,p.1≠b):Inv X pins σ H' s':=by
 obtain⟨h',g',d',t',o'⟩:=s'
 have e:o'=s.os:=ho
 subst e
 exact I.call (g':=g') (t':=t') (d':=d') u hok hg hch
end
abbrev XK:=Value->Option Addr->Hp->Prop
abbrev St:=List (Option V)
variable {σ:St}
abbrev VK:=V->Hp->Prop
abbrev TE:=St->Hp->VK->Prop
variable {te:TE}{ta:TE}{tb:TE}
abbrev TT:=St->Hp->(Bool->Hp->Prop)->Prop
abbrev TA:=St->Hp->(List V->Hp->Prop)->Prop
variable {t:TA}
structure Ends where
 nx:St->Hp->Prop
 rt:VK
 bk:St->Hp->Prop:=fun _ _=>False
 ct:St->Hp->Prop:=fun _ _=>False
abbrev TS:=Ends->St->Hp->Prop
def EP (X:Cx)(pins:List (Addr×Obj))(σ:St)(Q:VK)(u:Value)(s':Shared):Prop:=∃v H',Inv X pins σ H' s'/\RelV v u/\Q v H'
def TP (X:Cx)(pins:List (Addr×Obj))(σ:St)(Q:Bool->Hp->Prop)(b:Bool)(s':Shared):Prop:=∃H',Inv X pins σ H' s'/\Q b H'
def AP (X:Cx)(pins:List (Addr×Obj))(σ:St)(Q:List V->Hp->Prop)(us:List Value)(s':Shared):Prop:=∃vs H',Inv X pins σ H' s'/\Vals vs us/\Q vs H'
def SP (X:Cx)(pins:List (Addr×Obj))(D:Ends)(f:Flow)(s':Shared):Prop:=
 match f with
 |.next=>∃σ' H',Inv X pins σ' H' s'/\D.nx σ' H'
 |.brk=>∃σ' H',Inv X pins σ' H' s'/\D.bk σ' H'
 |.cont=>∃σ' H',Inv X pins σ' H' s'/\D.ct σ' H'
 |.ret u=>∃v σ' H',Inv X pins σ' H' s'/\RelV v u/\D.rt v H'
def PE (X:Cx)(e:Expr)(t:TE):Prop:=
 ∀(pins:List (Addr×Obj))(s:Shared)(σ:St)(H:Hp)(Q:VK),Inv X pins σ H s->t σ H Q->wpAny (model X.prog X.w) X.A (eval e X.env) (EP X pins σ Q) X.xe s
def PT (X:Cx)(e:Expr)(t:TT):Prop:=
 ∀(pins:List (Addr×Obj))(s:Shared)(σ:St)(H:Hp)(Q:Bool->Hp->Prop),Inv X pins σ H s->t σ H Q->wpAny (model X.prog X.w) X.A (isTrue e X.env (eval e X.env)) (TP X pins σ Q) X.xe s
def PW (X:Cx)(e:Expr)(t:TT):Prop:=
 ∀(whole:Sem Value)(pins:List (Addr×Obj))(s:Shared)(σ:St)(H:Hp)(Q:Bool->Hp->Prop),Inv X pins σ H s->t σ H Q->wpAny (model X.prog X.w) X.A (isTrue e X.env whole) (TP X pins σ Q) X.xe s
def PW.pt {t:TT}(h:PW X e t):PT X e t:=h _
def PA (X:Cx)(es:List Expr)(t:TA):Prop:=
 ∀(pos:Pos)(pins:List (Addr×Obj))(s:Shared)(σ:St)(H:Hp)(Q:List V->Hp->Prop),Inv X pins σ H s->t σ H Q->wpAny (model X.prog X.w) X.A (spliced (backTo pos (starEach es X.env))) (AP X pins σ Q) X.xe s
def PS (X:Cx)(st:Stmt)(t:TS):Prop:=
 ∀(pins:List (Addr×Obj))(s:Shared)(σ:St)(H:Hp)(D:Ends),Inv X pins σ H s->t D σ H->wpAny (model X.prog X.w) X.A (exec st X.env) (SP X pins D) X.xe s
def PSs (X:Cx)(st:List Stmt)(t:TS):Prop:=
 ∀(pins:List (Addr×Obj))(s:Shared)(σ:St)(H:Hp)(D:Ends),Inv X pins σ H s->t D σ H->wpAny (model X.prog X.w) X.A (execs st X.env) (SP X pins D) X.xe s
def thn {α:Type}{t:Sem α}{Q Q':α->Shared->Prop}{M:Model}(h:wpAny M A t Q E s)(hQ:∀a s,Q a s->Q' a s):wpAny M A t Q' E s:=Y5 h hQ fun _ _ x=>x
section
theorem bin {a b:Expr}{ta tb:TE}(ha:PE X a ta)(hb:PE X b tb){pins:List (Addr×Obj)}{s:Shared}{σ:St}{H:Hp}{R:V->V->Hp->Prop}(I:Inv X pins σ H s)(h:ta σ H fun x H1=>tb σ H1 fun y H2=>R x y H2)
  {α:Type} {Q:α->Shared->Prop} {f:Value->Value->Sem α}
  (hf:∀v u s2 x y H2,Inv X pins σ H2 s2->RelV x v->RelV y u->R x y H2->wpAny (model X.prog X.w) X.A (f v u) Q X.xe s2) :
  wpAny (model X.prog X.w) X.A (eval a X.env) (fun v s₁=>wpAny (model X.prog X.w) X.A (eval b X.env) (fun u s₂=>wpAny (model X.prog X.w) X.A (f v u) Q X.xe s₂) X.xe s₁) X.xe s:=by
 refine thn (ha pins s σ H _ I h) fun v s1 hz9=>?_
 obtain⟨x,H1,I1,r1,q1⟩:=hz9
 refine thn (hb pins s1 σ H1 _ I1 q1) fun u s2 hz9=>?_
 obtain⟨y,H2,I2,r2,q2⟩:=hz9
 exact hf v u s2 x y H2 I2 r1 r2 q2
def b4D (i:Nat):TE:=fun σ H Q=>∃v,σ[i]? =some (some v)/\Q v H
def tC (v:V):TE:=fun _ H Q=>Q v H
def a6Q (hN:X.N[i]? =some x)(hv:Vis X.env.scope x)(hd:(x == ("__debug__":Str))=false:=by decide)(hcd:(x == ("__classdict__":Str))=false:=by decide):PE X (.Name x pos) (b4D i):=by
 intro pins s σ H Q I h
 obtain⟨v,e,h⟩:=h
 obtain⟨m,hn,hl⟩:=I.loc
 obtain⟨u,r,l⟩:=hl i x v hN e hv
 have fin:EP X pins σ Q u s:=⟨v,H,I,r,h⟩
 rcases l with ⟨hk,hm⟩ | ⟨hk,c,hc,hcell⟩
 ·exact wpAny_Name (wpAny_loadName_local I.ok.kind hk hn hm fin) hd
 ·rcases hk with hk | hk
  ·exact wpAny_Name (wpAny_loadName_cell I.ok.kind hk hc hcell fin) hd
  ·exact wpAny_Name (wpAny_loadName_free I.ok.kind hk hc hcell fin hcd) hd
def aG {i j pos}:PE X (.Constant (.int i) j pos) (tC (.int i)):=fun _ _ _ H _ I h=>wpAny_Constant_int ⟨.int i,H,I.tok _,⟨_,rfl⟩,h⟩
def iQ {b j pos}:PE X (.Constant (.bool b) j pos) (tC (.bl b)):=fun _ _ _ H _ I h=>Constant_bool ⟨.bl b,H,I,rfl,h⟩
def jH {j pos}:PE X (.Constant .none j pos) (tC .non):=fun _ _ _ H _ I h=>Constant_none ⟨.non,H,I,rfl,h⟩
def bI {x j pos}:PE X (.Constant (.str x) j pos) (tC (.str x)):=fun _ _ _ H _ I h=>Calls.Constant_str ⟨.str x,H,I.tok _,⟨_,rfl⟩,h⟩
def Gl (X:Cx)(x:Str):Prop:=X.env.kindOf x=some .globalImplicit
theorem kY {E:Value->Shared->Prop}{pins:List (Addr×Obj)}{s:Shared}{σ:St}{H:Hp}{x:Str}{u:Value}{pos:Pos}{Q:Value->Shared->Prop}(I:Inv X pins σ H s)(hg:Gl X x)(hm:X.mg x=some u)(h:Q u s)
  (hd:(x == ("__debug__":Str))=false:=by decide):wpAny (model X.prog X.w) X.A (eval (.Name x pos) X.env) Q E s:=
 Calls.Name_function_global I.ok.kind hg (Calls.loadGlobal_global (by rw[I.ok.glob];exact I.mod.glob.keeps I.bk) hm h) hd
theorem oG {E:Value->Shared->Prop}{pins:List (Addr×Obj)}{s:Shared}{σ:St}{H:Hp}{x:Str}{u:Value}{pos:Pos}{Q:Value->Shared->Prop}(I:Inv X pins σ H s)(hg:Gl X x)(hm:X.mg x=none)(hv:bootBuiltins x=some u)(h:Q u s)
  (hn:x≠"__name__":=by decide) (hd:(x == ("__debug__":Str))=false:=by decide):wpAny (model X.prog X.w) X.A (eval (.Name x pos) X.env) Q E s:=by
 obtain⟨mb,h1,h2⟩:=I.mod.blt
 exact Calls.Name_function_global I.ok.kind hg (Calls.loadGlobal_builtin (by rw[I.ok.glob];exact I.mod.glob.keeps I.bk) hm (by rw[I.ok.blt];exact h1.keeps I.bk) ((h2 x hn).trans hv) h) hd
def bB {v:V}(hg:Gl X x)(hm:X.mg x=some u)(r:RelV v u)(hd:(x == ("__debug__":Str))=false:=by decide):PE X (.Name x pos) (tC v):=
 fun _ _ _ H _ I h=>kY I hg hm ⟨v,H,I,r,h⟩ hd
def b1I {v:V}(hg:Gl X x)(hm:X.mg x=none)(hv:bootBuiltins x=some u)(r:RelV v u)(hn:x≠"__name__":=by decide)(hd:(x == ("__debug__":Str))=false:=by decide):PE X (.Name x pos) (tC v):=
 fun _ _ _ H _ I h=>oG I hg hm hv ⟨v,H,I,r,h⟩ hn hd
variable {a b:Expr}
def PC (X:Cx)(op:CmpOp)(a b:Expr)(t:TE):Prop:=
 ∀ (pins:List (Addr×Obj))(s:Shared)(σ:St)(H:Hp)(Q:VK),Inv X pins σ H s->t σ H Q->
  wpAny (model X.prog X.w) X.A (eval a X.env) (fun v s₁=>wpAny (model X.prog X.w) X.A (eval b X.env) (fun u s₂=>wpAny (model X.prog X.w) X.A (compareOp op v u) (EP X pins σ Q) X.xe s₂) X.xe s₁) X.xe s
def tB (t:TE):TT:=fun σ H Q=>t σ H fun x H1=>∃c,x= .bl c/\Q c H1
def c1N {t:TE}(h:PC X op a b t)(h1:behindInMarks op b=false:=by first | exact nobehind _ (by decide) (by decide) | rfl):PT X (.Compare a [op] [b] pos) (tB t):=by
 intro pins s σ H Q I hw
 refine wpAny_isTrue_Compare1 (thn (h pins s σ H _ I hw) fun v s1 h1=>thn h1 fun u s2 h2=>thn h2 fun c s3 hz9=>?_) h1
 obtain⟨x,H1,I1,r1,q1⟩:=hz9
 obtain⟨d,rfl,q⟩:=q1
 cases r1
 exact Xk ⟨H1,I1,q⟩
def b4Z {t:TE}(h:PE X e t)(he:∀whole,isTrue e X.env whole=(do let v<-whole;standAt e.pos;holding [v] (truthy v)):=by intro _;rfl):PT X e (tB t):=by
 intro pins s σ H Q I hw
 refine isTrue_plain (thn (h pins s σ H _ I hw) fun v s1 hz9=>?_) (he _)
 obtain⟨x,H1,I1,r1,q1⟩:=hz9
 obtain⟨d,rfl,q⟩:=q1
 cases r1
 exact Xk ⟨H1,I1,q⟩
variable {tA tB':TT}{rest:List Expr}
def c1E (t u:TT):TT:=fun σ H Q=>t σ H fun c H1=>if c=true then u σ H1 Q else Q false H1
def tOr (t u:TT):TT:=fun σ H Q=>t σ H fun c H1=>if c=true then Q true H1 else u σ H1 Q
def c0X (t:TT):TT:=fun σ H Q=>t σ H fun c H1=>Q (!c) H1
def kO (ha:PT X a tA):PW X (.BoolOp .And [a] pos) tA:=by
 intro wh pins s σ H Q I h
 refine isTrue_and (thn (ha pins s σ H Q I h) fun c s1 e=>?_)
 cases c with
 |true=>exact isTrue_and_nil e
 |false=>exact e
def pZ (ha:PT X a tA):PW X (.BoolOp .Or [a] pos) tA:=by
 intro wh pins s σ H Q I h
 refine isTrue_or (thn (ha pins s σ H Q I h) fun c s1 e=>?_)
 cases c with
 |false=>exact isTrue_or_nil e
 |true=>exact e
def lN (ha:PT X a tA)(hb:PW X (.BoolOp .And (b::rest) pos) tB'):PW X (.BoolOp .And (a::b::rest) pos) (c1E tA tB'):=by
 intro wh pins s σ H Q I h
 refine isTrue_and (thn (ha pins s σ H _ I h) fun c s1 hz9=>?_)
 obtain⟨H1,I1,q1⟩:=hz9
 cases c with
 |true=>exact hb wh pins s1 σ H1 Q I1 q1
 |false=>exact⟨H1,I1,q1⟩
def oM (ha:PT X a tA)(hb:PW X (.BoolOp .Or (b::rest) pos) tB'):PW X (.BoolOp .Or (a::b::rest) pos) (tOr tA tB'):=by
 intro wh pins s σ H Q I h
 refine isTrue_or (thn (ha pins s σ H _ I h) fun c s1 hz9=>?_)
 obtain⟨H1,I1,q1⟩:=hz9
 cases c with
 |true=>exact⟨H1,I1,q1⟩
 |false=>exact hb wh pins s1 σ H1 Q I1 q1
def gW (ha:PT X a tA):PT X (.UnaryOp .Not a pos) (c0X tA):=by
 intro pins s σ H Q I h
 exact isTrue_not (ha pins s σ H (fun c H1=>Q (!c) H1) I h)
def a4T (ta tb:TE):TE:=fun σ H Q=>ta σ H fun x H1=>∃c,x= .bl c/\if c=true then tb σ H1 Q else Q (.bl false) H1
def a4R (ta:TE):TE:=fun σ H Q=>ta σ H fun x H1=>∃c,x= .bl c/\Q (.bl (!c)) H1
def a6R {op}{t:TE}(h:PE X a t):PE X (.BoolOp op [a] pos) t:=fun pins s σ H Q I hw=>BoolOp_one (h pins s σ H Q I hw)
def b5F (ha:PE X a ta)(hb:PE X (.BoolOp .And (b::rest) pos) tb):PE X (.BoolOp .And (a::b::rest) pos) (a4T ta tb):=by
 intro pins s σ H Q I h
 refine BoolOp_and (thn (ha pins s σ H _ I h) fun v s1 hz9=>?_)
 obtain⟨x,H1,I1,r1,q1⟩:=hz9
 obtain⟨c,rfl,q1⟩:=q1
 cases r1
 refine Xk ?_
 cases c with
 |true=>exact hb pins s1 σ H1 Q I1 q1
 |false=>exact⟨.bl false,H1,I1,rfl,q1⟩
def b5E (ha:PE X a ta):PE X (.UnaryOp .Not a pos) (a4R ta):=by
 intro pins s σ H Q I h
 refine UnaryOp_ (thn (ha pins s σ H _ I h) fun v s1 hz9=>?_)
 obtain⟨x,H1,I1,r1,q1⟩:=hz9
 obtain⟨c,rfl,q1⟩:=q1
 cases r1
 exact not_of (Xk ⟨.bl (!c),H1,I1,rfl,q1⟩)
def tIf (t:TT)(ta tb:TE):TE:=fun σ H Q=>t σ H fun c H1=>if c=true then ta σ H1 Q else tb σ H1 Q
def cV (hc:PT X c tA)(ha:PE X a ta)(hb:PE X b tb):PE X (.IfExp c a b pos) (tIf tA ta tb):=by
 intro pins s σ H Q I h
 refine wpAny_IfExp (thn (hc pins s σ H _ I h) fun d s1 hz9=>?_)
 obtain⟨H1,I1,q1⟩:=hz9
 cases d with
 |true=>exact ha pins s1 σ H1 Q I1 q1
 |false=>exact hb pins s1 σ H1 Q I1 q1
end
def SqL (K:W.Frag)(H:Hp)(a:Addr)(xs:List V):Prop:=
 Rd H a (.lst xs)\/
  ∃(o:Obj)(its:Array Value)(n:Nat),K.lookup a=some o/\o.cls= .type "list"/\o.dict=none/\o.data= .seq its n/\its.size<=sizeLine/\Vals xs its.toList
def SqT (K:W.Frag)(H:Hp)(a:Addr)(xs:List V):Prop:=
 Rd H a (.tup xs)\/
  ∃(o:Obj)(its:Array Value)(n:Nat),K.lookup a=some o/\o.cls= .type "tuple"/\o.data= .seq its n/\its.size<=sizeLine/\Vals xs its.toList
def c2I:Value->Option V
 |.none=>some .non
 |.bool b=>some (.bl b)
 |.int i _=>some (.int i)
 |.str x _=>some (.str x)
 |.bytes b _=>some (.byt b)
 |.float b _=>some (.flt b)
 |.ref a=>some (.ref a)
 |.type n=>some (.ty n)
 |_=>none
def RelV.abs {x:V}(r:RelV x u):c2I u=some x:=by
 cases x with
 |non=>cases r;rfl
 |bl _=>cases r;rfl
 |int _=>obtain⟨t,rfl⟩:=r;rfl
 |str _=>obtain⟨t,rfl⟩:=r;rfl
 |byt _=>obtain⟨t,rfl⟩:=r;rfl
 |flt _=>obtain⟨t,rfl⟩:=r;rfl
 |ref _=>cases r;rfl
 |ty _=>cases r;rfl
def RelV.inj {x y:V}(r:RelV x u)(q:RelV y u):x=y:=Yp (r.abs.symm.trans q.abs)
theorem Vals.inj:∀{xs ys:List V}{us:List Value},Vals xs us->Vals ys us->xs=ys
 |_,_,_,.nil,.nil=>rfl
 |_,_,_,.cons r t,.cons r' t'=>by rw[r.inj r',Vals.inj t t']
section
variable {xs ys:List V}
def SqL.of (h:H a=some (.lst xs)):SqL K H a xs:= .inl (.inl h)
def SqT.of (h:H a=some (.tup xs)):SqT K H a xs:= .inl (.inl h)
def Inv.list (I:Inv X pins σ H s)(h:SqL X.K H a xs):∃its:List Value,Vals xs its/\PlainL s.heap a its.toArray/\xs.length<=sizeLine:=by
 rcases h with h | ⟨o,its,n,hk,hc,hd,hs,hz,r⟩
 ·obtain⟨z,its,n,r,e⟩:=h.ok I.hok
  exact⟨its,r,⟨_,n,e,rfl,rfl,rfl⟩,z⟩
 ·refine⟨its.toList,r,⟨o,n,I.kIn a o hk,hc,hd,by simpa using hs⟩,?_⟩
  have e:=r.length
  simp only[Xj]at e
  omega
def Inv.tuple (I:Inv X pins σ H s)(h:SqT X.K H a xs):∃its:List Value,Vals xs its/\IsTup s.heap a its.toArray/\xs.length<=sizeLine:=by
 rcases h with h | ⟨o,its,n,hk,hc,hs,hz,r⟩
 ·obtain⟨z,its,r,p⟩:=h.ok I.hok
  exact⟨its,r,p,z⟩
 ·refine⟨its.toList,r,⟨o,I.kIn a o hk,hc,n,by simpa using hs⟩,?_⟩
  have e:=r.length
  simp only[Xj]at e
  omega
def Inv.list_inj (I:Inv X pins σ H s)(h:SqL X.K H a xs)(h':SqL X.K H a ys):xs=ys:=by
 obtain⟨its,r,⟨o,n,e,_,_,d⟩,_⟩:=I.list h
 obtain⟨its',r',⟨o',n',e',_,_,d'⟩,_⟩:=I.list h'
 rw[e]at e';cases e'
 rw[d]at d'
 injection d' with d1 _
 have:its=its':=by simpa using YT Array.toList d1
 subst this
 exact r.inj r'
def Inv.tuple_inj (I:Inv X pins σ H s)(h:SqT X.K H a xs)(h':SqT X.K H a ys):xs=ys:=by
 obtain⟨its,r,⟨o,e,_,n,d⟩,_⟩:=I.tuple h
 obtain⟨its',r',⟨o',e',_,n',d'⟩,_⟩:=I.tuple h'
 rw[e]at e';cases e'
 rw[d]at d'
 injection d' with d1 _
 have:its=its':=by simpa using YT Array.toList d1
 subst this
 exact r.inj r'
end
abbrev Cx.wish (X:Cx)(E:Value->Shared->Prop):Cx:={ X with xe:=E }
abbrev Cx.nox (X:Cx):Cx:=X.wish fun _ _=>False
def Cx.Ok.wish (ok:X.Ok)(E:Value->Shared->Prop):(X.wish E).Ok:=
 ⟨ok.mod,ok.kind,ok.glob,ok.blt,ok.above,ok.inj,ok.has,ok.cab,ok.hd,ok.frames,ok.stk,ok.exf,ok.bs,ok.bsz,ok.noex,ok.exfs,ok.funs,ok.frf⟩
def Cx.Ok.unwish (ok:(X.wish E).Ok):X.Ok:=
 ⟨ok.mod,ok.kind,ok.glob,ok.blt,ok.above,ok.inj,ok.has,ok.cab,ok.hd,ok.frames,ok.stk,ok.exf,ok.bs,ok.bsz,ok.noex,ok.exfs,ok.funs,ok.frf⟩
section
def Inv.wish (I:Inv X pins σ H s)(E:Value->Shared->Prop):Inv (X.wish E) pins σ H s:=⟨I.ok.wish E,I.os,I.bare,I.base,I.loc,I.cell,I.free,I.freeC,I.pin,I.hok,I.len⟩
def Inv.unwish (I:Inv (X.wish E) pins σ H s):Inv X pins σ H s:=⟨I.ok.unwish,I.os,I.bare,I.base,I.loc,I.cell,I.free,I.freeC,I.pin,I.hok,I.len⟩
def SP.unwish {D:Ends}{f:Flow}{s':Shared}(h:SP (X.wish E) pins D f s'):SP X pins D f s':=by
 cases f with
 |next=>obtain⟨σ',H',I,q⟩:=h;exact⟨σ',H',I.unwish,q⟩
 |brk=>obtain⟨σ',H',I,q⟩:=h;exact⟨σ',H',I.unwish,q⟩
 |cont=>obtain⟨σ',H',I,q⟩:=h;exact⟨σ',H',I.unwish,q⟩
 |ret u=>obtain⟨v,σ',H',I,r,q⟩:=h;exact⟨v,σ',H',I.unwish,r,q⟩
def PSs.nox {st:List Stmt}{t:TS}(h:PSs X.nox st t):PSs X st t:=fun pins s σ H D I hw=>
 Y5 (h pins s σ H D (I.wish _) hw) (fun _ _ q=>q.unwish) fun _ _ z=>False.elim z
end
section
variable {st:Stmt}{rest:List Stmt}{t u:TS}
def b7X:TS:=fun D σ H=>D.nx σ H
def c0V (t u:TS):TS:=fun D σ H=>t { D with nx:=u D } σ H
def aV:PSs X [] b7X:=fun _ _ σ H _ I h=>wpAny_execs_nil ⟨σ,H,I,h⟩
def aD (h1:PS X st t)(h2:PSs X rest u):PSs X (st::rest) (c0V t u):=by
 intro pins s σ H D I h
 refine wpAny_execs_cons (thn (h1 pins s σ H { D with nx:=u D } I h) fun f s1 q=>?_)
 cases f with
 | next=>
  obtain⟨σ',H',I',q⟩:=q
  exact h2 pins s1 σ' H' D I' q
 |ret v=>exact q
 |brk=>exact q
 |cont=>exact q
def aF (h1:PS X st t):PSs X [st] t:=by
 intro pins s σ H D I h
 refine wpAny_execs_cons (thn (h1 pins s σ H D I h) fun f s1 q=>?_)
 cases f with
 |next=>exact wpAny_execs_nil q
 |ret v=>exact q
 |brk=>exact q
 |cont=>exact q
def Inv.quiet (I:Inv X pins σ H s):interactive X.env=false:=by simp[interactive,I.ok.kind]
def b7Y (te:TE):TS:=fun D σ H=>te σ H fun _ H1=>D.nx σ H1
def bA (he:PE X e te)(hs:swapsWith e none pos.line X.env=pure false:=by rfl):PS X (.Expr e pos) (b7Y te):=by
 intro pins s σ H D I h
 exact wpAny_Expr_any (thn (he pins s σ H _ I h) fun v s1 ⟨x,H1,I1,r1,q1⟩=>⟨σ,H1,I1,q1⟩) I.quiet hs
def c0W (te:TE):TS:=fun D σ H=>te σ H D.rt
def aL (he:PE X e te):PS X (.Return (some e) pos) (c0W te):=by
 intro pins s σ H D I h
 exact wpAny_Return_some (thn (he pins s σ H _ I h) fun v s1 ⟨x,H1,I1,r1,q1⟩=>⟨x,σ,H1,I1,r1,q1⟩)
def c0Z (c:TT)(t u:TS):TS:=fun D σ H=>c σ H fun b H1=>if b=true then t D σ H1 else u D σ H1
def bF {a b:List Stmt}{tc:TT}(hc:PT X c tc)(ha:PSs X a t)(hb:PSs X b u):PS X (.If c a b pos) (c0Z tc t u):=by
 intro pins s σ H D I h
 refine wpAny_If (thn (hc pins s σ H _ I h) fun d s1 hz9=>?_)
 obtain⟨H1,I1,q1⟩:=hz9
 cases d with
 |true=>exact ha pins s1 σ H1 D I1 q1
 |false=>exact hb pins s1 σ H1 D I1 q1
end
abbrev TG:=V->St->Hp->(St->Hp->Prop)->Prop
abbrev TGs:=List V->St->Hp->(St->Hp->Prop)->Prop
def PG (X:Cx)(target:Expr)(t:TG):Prop:=
 ∀ (pins:List (Addr×Obj))(s:Shared)(σ:St)(H:Hp)(v:V)(u:Value)(Q:St->Hp->Prop),Inv X pins σ H s->RelV v u->t v σ H Q->
  wpAny (model X.prog X.w) X.A (assign target X.env u) (fun _ s'=>∃σ' H',Inv X pins σ' H' s'/\Q σ' H') X.xe s
def PGs (X:Cx)(ts:List Expr)(t:TGs):Prop:=
 ∀ (pins:List (Addr×Obj))(s:Shared)(σ:St)(H:Hp)(vs:List V)(us:List Value)(Q:St->Hp->Prop),Inv X pins σ H s->Vals vs us->t vs σ H Q->
  wpAny (model X.prog X.w) X.A (assignInOrder ((assignEach ts X.env).map (·.2)) us) (fun _ s'=>∃σ' H',Inv X pins σ' H' s'/\Q σ' H') X.xe s
abbrev b7L:=V->V->V->Hp->(Hp->Prop)->Prop
def b7O (X:Cx)(t:b7L):Prop:=
 ∀ (pins:List (Addr×Obj))(s:Shared)(σ:St)(H:Hp)(o i v:V)(ov iv u:Value)(Q:Hp->Prop),Inv X pins σ H s->RelV o ov->RelV i iv->RelV v u->t o i v H Q->
  wpAny (model X.prog X.w) X.A (setItem ov iv u) (fun _ s'=>∃H',Inv X pins σ H' s'/\Q H') X.xe s
section
def sV (i:Nat):TG:=fun v σ H Q=>Q (σ.set i (some v)) H
def cM (hN:X.N.Nodup)(hi:X.N[i]? =some x)(hx:Loc X.env.scope x)(hf:X.fn x=true\/X.env.scope.names.lookup x=some .local:=by first | exact .inl rfl | exact .inr rfl | assumption):PG X (.Name x pos) (sV i):=by
 intro pins s σ H v u Q I r h
 exact Jg (lY I hN hi hx r (fun s' I'=>⟨_,H,I',h⟩) hf)
def b9T:TGs:=fun vs σ H Q=>vs= []/\Q σ H
def a8H (t:TG)(u:TGs):TGs:=fun vs σ H Q=>∃v r,vs=v::r/\t v σ H fun σ' H'=>u r σ' H' Q
def b1G:PGs X [] b9T:=by
 intro pins s σ H vs us Q I r h
 obtain⟨e,h⟩:=h
 subst e
 cases r
 exact assignInOrder_nil ⟨σ,H,I,h⟩
theorem vZ {e:Expr}{es:List Expr}{t:TG}{u:TGs}(h1:PG X e t)(h2:PGs X es u)
  (hs:(assignEach (e::es) X.env).map (·.2)=assign e X.env::(assignEach es X.env).map (·.2):=by rfl):PGs X (e::es) (a8H t u):=by
 intro pins s σ H vs us Q I r h
 obtain⟨v,vr,e1,h⟩:=h
 subst e1
 cases r with
 | cons r rr=>
  rw[hs]
  refine assignInOrder_cons (thn (h1 pins s σ H _ _ _ I r h) fun _ s1 hz9=>?_)
  obtain⟨σ1,H1,I1,q1⟩:=hz9
  exact h2 pins s1 σ1 H1 _ _ Q I1 rr q1
def b9S (K:W.Frag)(n:Nat)(t:TGs):TG:=fun v σ H Q=>∃a xs,v= .ref a/\SqT K H a xs/\xs.length=n/\t xs σ H Q
theorem b5B {es:List Expr}{k:Nat}{t:TGs}{n:Nat}(hc:X.calm=true)(h:PGs X es t)
  (hn:(assignEach es X.env).length=n:=by rfl) (hst:(assignEach es X.env).findIdx? (·.1)=none:=by rfl):PG X (.Tuple es k pos) (b9S X.K n t):=by
 intro pins s σ H v u Q I r hw
 obtain⟨a,xs,e1,hq,hl,hw⟩:=hw
 subst e1
 cases r
 obtain⟨its,rv,ht,hz⟩:=I.tuple hq
 refine assign_Tuple_tuple (I.ok.hd hc) ht (by simp[hn,<-hl,rv.length]) hst fun h' hx=>?_
 have I1:Inv X pins σ H { s with heap:=h' }:=I.kept (t':=s.toks) fun b o e=>hx b o (YD (Yo e)) e
 exact h pins _ σ H xs _ Q I1 (by simpa using rv) hw
def c2A (to ti:TE)(t:b7L):TG:=fun v σ H Q=>to σ H fun o H1=>ti σ H1 fun i H2=>t o i v H2 fun H3=>Q σ H3
theorem b5C {o i:Expr}{to ti:TE}{t:b7L}(ho:PE X o to)(hi:PE X i ti)(hs:b7O X t)
  (ha:∀v,assign (.Subscript o i pos) X.env v=(do
   let ov<-holding [v] (eval o X.env)
   let iv<-holding [v,ov] (eval i X.env)
   standAt pos
   holding [v,ov,iv] (setItem ov iv v)
   release [v,ov,iv] []):=by intro _;rfl):PG X (.Subscript o i pos) (c2A to ti t):=by
 intro pins s σ H v u Q I r h
 rw[ha]
 refine YJ (wpAny_holding (thn (ho pins s σ H _ I h) fun ov s1 hz9=>?_))
 obtain⟨x,H1,I1,r1,q1⟩:=hz9
 refine YJ (wpAny_holding (thn (hi pins s1 σ H1 _ I1 q1) fun iv s2 hz9=>?_))
 obtain⟨y,H2,I2,r2,q2⟩:=hz9
 refine YJ (wpAny_standAt (YJ (wpAny_holding (thn (hs pins s2 σ H2 x y v ov iv u _ I2 r1 r2 r q2) fun _ s3 hz9=>?_))))
 obtain⟨H3,I3,q3⟩:=hz9
 exact wpAny_release ⟨σ,H3,I3,q3⟩
def a9W (te:TE)(g:TG):TS:=fun D σ H=>te σ H fun x H1=>g x σ H1 D.nx
theorem b5A {tg e:Expr}{te:TE}{g:TG}(he:PE X e te)(hg:PG X tg g)(hs:swapsWithSole [tg] e pos.line X.env=pure false:=by rfl)(hw:swappedStores [tg] e X.env=pure none:=by rfl)
  (h1:(assignEach [tg] X.env).map (·.2)= [assign tg X.env]:=by rfl):PS X (.Assign [tg] e pos) (a9W te g):=by
 intro pins s σ H D I h
 refine wpAny_Assign_stores (thn (he pins s σ H _ I h) fun v s1 hz9=>?_) hs hw
 obtain⟨x,H1,I1,r1,q1⟩:=hz9
 rw[h1]
 exact thn (hg pins s1 σ H1 x v _ I1 r1 q1) fun _ s2 q=>q
theorem aX {pos':Pos}(hN:X.N.Nodup)(hi:X.N[i]? =some x)(hx:Loc X.env.scope x)(he:PE X e te)(hs:swapsWith e (some (.Name x pos')) pos.line X.env=pure false:=by rfl)(hf:X.fn x=true\/X.env.scope.names.lookup x=some .local:=by first | exact .inl rfl | exact .inr rfl | assumption):
  PS X (.Assign [.Name x pos'] e pos) (a9W te (sV i)):=by
 intro pins s σ H D I h
 refine wpAny_Assign_Name (thn (he pins s σ H _ I h) fun v s1 hz9=>?_) hs
 obtain⟨y,H1,I1,r1,q1⟩:=hz9
 exact lY I1 hN hi hx r1 (fun s2 I2=>⟨_,H1,I2,q1⟩) hf
end
section
def b4C (c:TT)(tb:TS):TS:=fun D σ H=>∃W:Nat->St->Hp->Prop,(∃m,W m σ H)/\∀m σ H,W m σ H->
 c σ H fun b H1=>if b=true then ∃N:St->Hp->Prop,(∀σ' H',N σ' H'->∃m',m'<m/\W m' σ' H')/\tb { D with nx:=N,ct:=N,bk:=D.nx } σ H1 else D.nx σ H1
def a6N {body:List Stmt}{tc:TT}{tb:TS}(hp:PassesOwn (model X.prog X.w) X.A X.env X.xe)(hc:PT X c tc)(hb:PSs X body tb):PS X (.While c body [] pos) (b4C tc tb):=by
 intro pins s σ H D I h
 obtain⟨W,⟨m0,w0⟩,turn⟩:=h
 refine wpAny_While (codeAny_whileLoop (fun n s'=>∃σ' H',Inv X pins σ' H' s'/\W n σ' H') ?_ m0 ⟨σ,H,I,w0⟩)
 rintro n s1 ⟨σ1,H1,I1,w1⟩
 refine XQ hp (thn (hc pins s1 σ1 H1 _ I1 (turn n σ1 H1 w1)) fun b s2 hz9=>?_)
 obtain⟨H2,I2,q2⟩:=hz9
 cases b with
 | true=>
  obtain⟨N,hN,q2⟩:=q2
  rw[if_pos rfl]
  refine XQ hp (thn (hb pins s2 σ1 H2 _ I2 q2) fun f s3 q3=>?_)
  cases f with
  | next=>
   obtain⟨σ3,H3,I3,n3⟩:=q3
   obtain⟨m',hm,w3⟩:=hN σ3 H3 n3
   exact⟨m',hm,σ3,H3,I3,w3⟩
  | cont=>
   obtain⟨σ3,H3,I3,n3⟩:=q3
   obtain⟨m',hm,w3⟩:=hN σ3 H3 n3
   exact⟨m',hm,σ3,H3,I3,w3⟩
  |brk=>exact q3
  |ret v=>exact q3
 | false=>
  rw[if_neg Ys]
  exact wpAny_execs_nil ⟨σ1,H2,I2,q2⟩
end
structure It where
 go:Nat->Hp->Prop
 yld:Nat->Hp->V->Hp->Prop
 stop:Nat->Hp->Prop
def lG (X:Cx)(pins:List (Addr×Obj))(H:Hp)(b:Addr):Prop:=
 H b=none/\b≠X.env.locals/\b∉X.fs/\(b∈X.ex\/X.s₀.heap.objs.size<=b)/\(∀x c,X.env.cells.lookup x=some c->c≠b)/\∀p∈X.pn++pins,p.1≠b
def Inv.fpOk (I:Inv X pins σ H s)(hb:s.heap.objs.size<=b)(hn:H' b=none):lG X pins H' b:=by
 refine⟨hn,Jp (Yf I.lt hb),I.nofs hb,.inr (Y1 I.sz hb),fun x c e z=>?_,fun p hp z=>?_⟩
 ·obtain⟨v,q⟩:=I.cell x c e
  exact absurd (Yf q.lt (by rw[z];exact hb)) (YS _)
 ·exact absurd (Yf (Yo (I.pin p hp).1) (by rw[z];exact hb)) (YS _)
structure Turn (P:Program)(w:World)(K:W.Frag)(tg:Expr)(J:It)(fp:List Addr)(it:Addr)(tn:Nat->Heap->Prop):Prop where
 mem:it∈fp
 obj:∀i h,tn i h->∀b∈fp,∃o,h.get? b=some o/\∀v,o.data≠ .cell v
 keep:∀i h h',tn i h->(∀b∈fp,∀o,h.get? b=some o->h'.get? b=some o)->tn i h'
 item :∀(X:Cx),X.prog=P->X.w=w->X.K=K->X.calm=true->∀(i:Nat)(pins:List (Addr×Obj))(s:Shared)(σ:St)(H:Hp)(E:Value->Shared->Prop),Inv X pins σ H s->(∀b∈fp,lG X pins H b)->tn i s.heap->J.go i H->
  wpAny (model P w) X.A (pyNext (.ref it)) (fun r s1=>∃u,r=some u/\
   wpAny (model P w) X.A (letOwnedTupleGo tg (.ref it) u) (fun _ s2=>∃x H',Inv X pins σ H' s2/\RelV x u/\J.yld i H x H'/\tn (i+1) s2.heap/\∀b∈fp,H' b=none) E s1) E s
 done:∀(X:Cx),X.prog=P->X.w=w->X.K=K->X.calm=true->∀(i:Nat)(pins:List (Addr×Obj))(s:Shared)(σ:St)(H:Hp)(E:Value->Shared->Prop),Inv X pins σ H s->(∀b∈fp,lG X pins H b)->tn i s.heap->J.stop i H->
  wpAny (model P w) X.A (pyNext (.ref it)) (fun r s1=>r=none/\Inv X pins σ H s1) E s
 self:∀(A:Around)(i:Nat)(s:Shared)(Q:Value->Shared->Prop)(E:Value->Shared->Prop),tn i s.heap->Q (.ref it) s->wpAny (model P w) A (pyIter (.ref it)) Q E s
abbrev TI:=St->Hp->(It->Hp->Prop)->Prop
def PIE (X:Cx)(pins:List (Addr×Obj))(σ:St)(tg:Expr)(R:It->Hp->Prop)(itv:Value)(s2:Shared):Prop:=
 ∃(it:Addr)(fp:List Addr)(tn:Nat->Heap->Prop)(J:It)(H':Hp),itv= .ref it/\Inv X pins σ H' s2/\Turn X.prog X.w X.K tg J fp it tn/\tn 0 s2.heap/\(∀b∈fp,lG X pins H' b)/\R J H'
def PI (X:Cx)(tg iter:Expr)(wi:TI):Prop:=
 ∀ (pins:List (Addr×Obj))(s:Shared)(σ:St)(H:Hp)(R:It->Hp->Prop),Inv X pins σ H s->wi σ H R->
  wpAny (model X.prog X.w) X.A (eval iter X.env) (fun v s1=>wpAny (model X.prog X.w) X.A (pyIter v) (PIE X pins σ tg R) X.xe s1) X.xe s
theorem a1I {M:Model}{A:Around}{E:Value->Shared->Prop}{s:Shared}{tg:Expr}{it:Addr}{u:Value}{o:Obj}{n:String}{vs:Array Value}{Q:Unit->Shared->Prop}(ho:s.heap.get? it=some o)(hc:o.cls= .type n)(hd:o.data= .fields vs)
    (hn:["enumerate","zip","dict_itemiterator","dict_reverseitemiterator","odict_iterator","itertools.zip_longest","itertools.pairwise"].contains n=false) (hQ:Q () s):wpAny M A (letOwnedTupleGo tg (.ref it) u) Q E s:=by
  unfold letOwnedTupleGo
  cases tg <;> first
    |exact Y6 hQ
    | (cases u <;> first
        |exact Y6 hQ
        | (refine YJ (wpAny_load ho ?_)
           rw[hc,hd]
           show wpAny M A (if (["enumerate","zip","dict_itemiterator","dict_reverseitemiterator","odict_iterator","itertools.zip_longest","itertools.pairwise"].contains n && vs[0]? == some (rawInt _))=true then _ else _) Q E s
           rw[if_neg (by intro h;rw[hn,Bool.false_and]at h;cases h)]
           exact Y6 hQ))
def Itl (K:W.Frag)(a:Addr):It:=
 ⟨fun i H=>∃xs x,SqL K H a xs/\xs[i]? =some x,fun i H x H'=>H'=H/\∀xs,SqL K H a xs->xs[i]? =some x,fun i H=>∃xs,SqL K H a xs/\xs.length<=i⟩
def Itt (K:W.Frag)(a:Addr):It:=
 ⟨fun i H=>∃xs x,SqT K H a xs/\xs[i]? =some x,fun i H x H'=>H'=H/\∀xs,SqT K H a xs->xs[i]? =some x,fun i H=>∃xs,SqT K H a xs/\xs.length<=i⟩
def Itr (lo:Int)(n:Nat):It:=⟨fun i _=>i<n,fun i H x H'=>H'=H/\x= .int (lo+i),fun i _=>n<=i⟩
theorem rP (a it:Addr):Turn P w K tg (Itl K a) [it] it (fun i h=>h.IsListIter it a i) where
 mem:=by simp
 obj:=fun i h st b hb=>by
  have e:b=it:=by simpa using hb
  subst e
  obtain⟨o,e,c,d⟩:=st
  exact⟨o,e,fun v z=>by rw[d]at z;cases z⟩
 keep:=fun i h h' st k=>st.at fun o e=>k it (by simp) o e
 item:=by
  intro X hP hw hK hc i pins s σ H E I hf st hg
  subst hP hw hK
  obtain⟨xs,x,hq,hx⟩:=hg
  obtain⟨its,rv,p,hz⟩:=I.list hq
  obtain⟨u,hu,ru⟩:=rv.get hx
  obtain⟨f0,f1,f2,f3,f4,f5⟩:=hf it (by simp)
  refine wpAny_pyNext_list_item st p.isList (x:=u) (by simpa using hu) fun h' st' sb=>?_
  have I1:Inv X pins σ H { s with heap:=h' }:=I.turned (t':=s.toks) (fun b o hb e=>(sb.2 b hb).trans e) f0 f1 f3 f4 f5
  obtain⟨o,e,c,d⟩:=id st'
  exact⟨u,rfl,a1I (s:={ s with heap:=h' }) e c d (by decide) ⟨x,H,I1,ru,⟨rfl,fun ys hy=>by rw[I.list_inj hy hq];exact hx⟩,st',fun b hb=>(hf b hb).1⟩⟩
 done:=by
  intro X hP hw hK hc i pins s σ H E I hf st hg
  subst hP hw hK
  obtain⟨xs,hq,hx⟩:=hg
  obtain⟨its,rv,p,hz⟩:=I.list hq
  obtain⟨f0,f1,f2,f3,f4,f5⟩:=hf it (by simp)
  have hl:=rv.length
  exact wpAny_pyNext_list_end (I.ok.hd hc) st p.isList (by simp;omega) fun h' eb=>⟨rfl,I.turned (t':=s.toks) (fun b o hb e=>eb b o hb e) f0 f1 f3 f4 f5⟩
 self:=fun _ _ _ _ _ st h=>wpAny_pyIter_listiter st h
theorem yC (a it:Addr):Turn P w K tg (Itt K a) [it] it (fun i h=>h.IsTupleIter it a i) where
 mem:=by simp
 obj:=fun i h st b hb=>by
  have e:b=it:=by simpa using hb
  subst e
  obtain⟨o,e,c,d⟩:=st
  exact⟨o,e,fun v z=>by rw[d]at z;cases z⟩
 keep:=fun i h h' st k=>st.at fun o e=>k it (by simp) o e
 item:=by
  intro X hP hw hK hc i pins s σ H E I hf st hg
  subst hP hw hK
  obtain⟨xs,x,hq,hx⟩:=hg
  obtain⟨its,rv,p,hz⟩:=I.tuple hq
  obtain⟨u,hu,ru⟩:=rv.get hx
  obtain⟨f0,f1,f2,f3,f4,f5⟩:=hf it (by simp)
  refine wpAny_pyNext_tuple_item st (show s.heap.IsTuple a its.toArray from p) (x:=u) (by simpa using hu) fun h' st' sb=>?_
  have I1:Inv X pins σ H { s with heap:=h' }:=I.turned (t':=s.toks) (fun b o hb e=>(sb.2 b hb).trans e) f0 f1 f3 f4 f5
  obtain⟨o,e,c,d⟩:=id st'
  exact⟨u,rfl,a1I (s:={ s with heap:=h' }) e c d (by decide) ⟨x,H,I1,ru,⟨rfl,fun ys hy=>by rw[I.tuple_inj hy hq];exact hx⟩,st',fun b hb=>(hf b hb).1⟩⟩
 done:=by
  intro X hP hw hK hc i pins s σ H E I hf st hg
  subst hP hw hK
  obtain⟨xs,hq,hx⟩:=hg
  obtain⟨its,rv,p,hz⟩:=I.tuple hq
  obtain⟨f0,f1,f2,f3,f4,f5⟩:=hf it (by simp)
  have hl:=rv.length
  exact wpAny_pyNext_tuple_end (I.ok.hd hc) st (show s.heap.IsTuple a its.toArray from p) (by simp;omega) fun h' eb=>⟨rfl,I.turned (t':=s.toks) (fun b o hb e=>eb b o hb e) f0 f1 f3 f4 f5⟩
 self:=fun _ _ _ _ _ st h=>wpAny_pyIter_tupleiter st h
theorem yD (it:Addr)(lo:Int)(n:Nat):Turn P w K tg (Itr lo n) [it] it (fun i h=>IsRangeIter h it (lo+(i:Nat)*1) ((n:Int)-(i:Nat)) 1) where
 mem:=by simp
 obj :=fun i h st b hb=>by
  have e:b=it:=by simpa using hb
  subst e
  exact⟨_,st,fun v z=>by
   have z':Data.fields _=Data.cell v:=z
   cases z'⟩
 keep:=fun i h h' st k=>k it (by simp) _ st
 item:=by
  intro X hP hw hK hc i pins s σ H E I hf st hg
  subst hP hw hK
  obtain⟨f0,f1,f2,f3,f4,f5⟩:=hf it (by simp)
  have W:=Walks.range (prog:=X.prog) (w:=X.w) (I.ok.hd hc) it lo 1 n
  refine W.item i s _ _ hg st fun v h' tk hv st' kk=>?_
  obtain⟨t,rfl⟩:=hv
  have I1:Inv X pins σ H { s with heap:=h',toks:=tk }:=I.turned (fun b o hb e=>kk b o (by simpa using hb) e) f0 f1 f3 f4 f5
  refine⟨_,rfl,a1I (s:={ s with heap:=h',toks:=tk }) (n:="range_iterator") st' rfl rfl (by decide) ⟨.int (lo+i),H,I1,⟨t,?_⟩,⟨rfl,rfl⟩,st',fun b hb=>(hf b hb).1⟩⟩
  rw[Int.mul_one]
 done:=by
  intro X hP hw hK hc i pins s σ H E I hf st hg
  subst hP hw hK
  obtain⟨f0,f1,f2,f3,f4,f5⟩:=hf it (by simp)
  exact wpAny_pyNext_range_end (I.ok.hd hc) st (by have:n<=i:=hg;omega) fun h' eb=>⟨rfl,I.turned (t':=s.toks) (fun b o hb e=>eb b o hb e) f0 f1 f3 f4 f5⟩
 self:=fun _ _ _ _ _ st h=>wpAny_pyIter_rangeiter st h
section
def b9Q (K:W.Frag)(tl:TE):TI:=fun σ H R=>tl σ H fun x H1=>∃a,x= .ref a/\(∃xs,SqL K H1 a xs)/\R (Itl K a) H1
def b1F {l:Expr}{tl:TE}(hl:PE X l tl):PI X tg l (b9Q X.K tl):=by
 intro pins s σ H R I h
 refine thn (hl pins s σ H _ I h) fun v s1 hz9=>?_
 obtain⟨x,H1,I1,r1,q1⟩:=hz9
 obtain⟨a,e,⟨xs,hq⟩,q⟩:=q1
 subst e
 cases r1
 obtain⟨its,rv,p,hz⟩:=I1.list hq
 refine wpAny_pyIter_list p.isList ?_
 refine⟨s1.heap.objs.size, [s1.heap.objs.size],_,_,H1,rfl,I1.kept (t':=s1.toks) fun b o e=>Ym _ e,rP a _,⟨_,YI _ rfl,rfl,rfl⟩,fun b hb=>?_,q⟩
 have e:b=s1.heap.objs.size:=by simpa using hb
 subst e
 exact I1.fpOk (Yd _) (I1.hok.fresh (Yd _))
theorem a6I {pins:List (Addr×Obj)}{σ:St}{H:Hp}{s:Shared}{R:It->Hp->Prop}{E:Value->Shared->Prop}{lo hi:Int}{t u v:Tok}{tk:Nat}(I:Inv X pins σ H s)(h1: -(2 ^ 62)<=lo)(h2:lo<2 ^ 62)(h3: -(2 ^ 62)<=hi)(h4:hi<2 ^ 62)
  (q:R (Itr lo (hi-lo).toNat) H):wpAny (model X.prog X.w) X.A (pyIter (.ref s.heap.objs.size)) (PIE X pins σ tg R) E { s with heap:=s.heap.push { cls:= .type "range",data:= .fields #[.int lo t,.int hi u,.int 1 v] },toks:=tk }:=by
 refine wpAny_pyIter_range (IsRange.new ..) (small_one h1 h2 h3 h4) ?_
 have I1:Inv X pins σ H { s with heap:=s.heap.push { cls:= .type "range",data:= .fields #[.int lo t,.int hi u,.int 1 v] },toks:=tk }:=I.kept fun b o e=>Ym _ e
 refine⟨(s.heap.push { cls:= .type "range",data:= .fields #[.int lo t,.int hi u,.int 1 v] }).objs.size, [(s.heap.push { cls:= .type "range",data:= .fields #[.int lo t,.int hi u,.int 1 v] }).objs.size],_,_,H,rfl,
  I1.kept (t':=tk) fun b o e=>Ym _ e,yD _ lo (hi-lo).toNat,?_,fun b hb=>?_,q⟩
 ·have e1:lo+((0:Nat):Int)*1=lo:=by simp
  have e2:(((hi-lo).toNat:Nat):Int)-((0:Nat):Int)=Builtin.Range.rangeSize lo hi 1:=by rw[rangeSize_one];split <;> omega
  show IsRangeIter _ _ (lo+((0:Nat):Int)*1) ((((hi-lo).toNat:Nat):Int)-((0:Nat):Int)) 1
  rw[e1,e2]
  exact YI _ rfl
 ·have e:b=(s.heap.push { cls:= .type "range",data:= .fields #[.int lo t,.int hi u,.int 1 v] }).objs.size:=by simpa using hb
  subst e
  exact I1.fpOk (Yd _) (I1.hok.fresh (Yd _))
def b9P (ta:TA):TI:=fun σ H R=>ta σ H fun vs H1=>∃j:Int,vs= [.int j]/\ -(2 ^ 62)<=j/\j<2 ^ 62/\R (Itr 0 j.toNat) H1
def a2U {a:Expr}{ta:TA}(hg:Gl X "range")(hm:X.mg "range"=none)(ha:PA X [a] ta)(hs:starEach [a] X.env= [(false,eval a X.env)]:=by rfl):PI X tg (.Call (.Name "range" p) [a] [] pos) (b9P ta):=by
 intro pins s σ H R I h
 refine Call_ (oG I hg hm boot_range (XO (thn (ha pos pins s σ H _ I h) fun us s1 hz9=>?_) hs rfl))
 obtain⟨vs,H1,I1,r1,q1⟩:=hz9
 obtain⟨j,e,q1,q2,q⟩:=q1
 subst e
 cases r1 with
 | cons r rr=>
  cases rr
  obtain⟨t,rfl⟩:=r
  exact call_range_1 (a6I I1 (by omega) (by omega) q1 q2 (by simpa using q))
def c1A (wi:TI)(g:TG)(tb:TS):TS:=fun D σ H=>wi σ H fun J H1=>∃W:Nat->Nat->St->Hp->Prop,(∃m,W 0 m σ H1)/\∀i m σ H,W i m σ H->
 (J.stop i H/\D.nx σ H)\/(J.go i H/\∃N:St->Hp->Prop,(∀σ' H',N σ' H'->∃m',m'<m/\W (i+1) m' σ' H')/\∀x H',J.yld i H x H'->g x σ H' fun σ2 H2=>tb { D with nx:=N,ct:=N,bk:=D.nx } σ2 H2)
def oA (fp:List Addr)(h:Heap):List (Addr×Obj):=fp.filterMap fun b=>(h.get? b).map fun o=>(b,o)
def gJ {o:Obj}(hb:b∈fp)(e:h.get? b=some o):(b,o)∈oA fp h:=List.mem_filterMap.mpr ⟨b,hb,by rw[e];rfl⟩
def a2W {p:Addr×Obj}(hp:p∈oA fp h):p.1∈fp/\h.get? p.1=some p.2:=by
 obtain⟨b,hb,e⟩:=List.mem_filterMap.mp hp
 cases q:h.get? b with
 |none=>rw[q]at e;cases e
 | some o=>
  rw[q]at e
  have e':(b,o)=p:=Yp e
  subst e'
  exact⟨hb,q⟩
def Inv.pinned (I:Inv X pins σ H s)(hf:∀b∈fp,lG X pins H b)(ho:∀b∈fp,∃o,s.heap.get? b=some o/\∀v,o.data≠ .cell v):Inv X (pins++oA fp s.heap) σ H s:=
 I.pins_of fun p hp=>(Yy.mp hp).elim (fun z=>I.pin p (YO _ z)) fun z=>by
  obtain⟨hb,e⟩:=a2W z
  obtain⟨f0,f1,f2,_⟩:=hf p.1 hb
  obtain⟨o,e',d⟩:=ho p.1 hb
  rw[e]at e';cases e'
  exact⟨e,f0,f1,f2,d⟩
def Inv.unpinned {pl:List (Addr×Obj)}(I:Inv X (pins++pl) σ H s):Inv X pins σ H s:=I.pins_of fun p hp=>I.pin p (YO _ (Xp _ hp))
theorem dM {iter:Expr}{body:List Stmt}{wi:TI}{g:TG}{tb:TS}{pos:Pos}(hp:PassesOwn (model X.prog X.w) X.A X.env X.xe)(hc:X.calm=true)(hi:PI X tg iter wi)(hg:PG X tg g)(hb:PSs X body tb)
  (hs:∀x,foldedSetIterable iter X.env x=pure x:=by intro _;rfl):PS X (.For tg iter body [] pos) (c1A wi g tb):=by
 intro pins s σ H D I h
 refine wpAny_For (thn (hi pins s σ H _ I h) fun v s1 h1=>thn h1 fun itv s2 h2=>?_) hs
 obtain⟨it,fp,tn,J,H2,e,I2,T,st2,f2,W,⟨m0,w0⟩,turn⟩:=h2
 subst e
 have stat:∀{H':Hp},(∀b∈fp,H' b=none)->∀b∈fp,lG X pins H' b:=fun hn b hb=>⟨hn b hb,(f2 b hb).2⟩
 refine codeAny_forLoop_any (fun n s'=>∃i σ' H',Inv X pins σ' H' s'/\tn i s'.heap/\(∀b∈fp,H' b=none)/\W i n σ' H') ?_ m0 ⟨0,σ,H2,I2,st2,fun b hb=>(f2 b hb).1,w0⟩
 rintro n s3 ⟨i,σ3,H3,I3,st3,fr3,w3⟩
 rcases turn i n σ3 H3 w3 with ⟨stop,qn⟩ | ⟨go,N,hN,step⟩
 ·refine XQ hp (thn (T.done X rfl rfl rfl hc i pins s3 σ3 H3 X.xe I3 (stat fr3) st3 stop) fun r s4 ⟨hr,I4⟩=>?_)
  subst hr
  exact wpAny_execs_nil ⟨σ3,H3,I4,qn⟩
 ·refine XQ hp (thn (T.item X rfl rfl rfl hc i pins s3 σ3 H3 X.xe I3 (stat fr3) st3 go) fun r s4 hz9=>?_)
  obtain⟨u,hr,h4⟩:=hz9
  subst hr
  refine XQ hp (thn h4 fun _ s5 hz9=>?_)
  obtain⟨x,H5,I5,r5,y5,st5,fr5⟩:=hz9
  have I5':=I5.pinned (stat fr5) (T.obj _ _ st5)
  refine XQ hp (thn (hg _ s5 σ3 H5 x u _ I5' r5 (step x H5 y5)) fun _ s6 hz9=>?_)
  obtain⟨σ6,H6,I6,q6⟩:=hz9
  refine XQ hp (thn (hb _ s6 σ6 H6 _ I6 q6) fun f s7 q7=>?_)
  have again:∀{σ7:St}{H7:Hp},Inv X (pins++oA fp s5.heap) σ7 H7 s7->N σ7 H7->∃m,m<n/\∃i σ' H',Inv X pins σ' H' s7/\tn i s7.heap/\(∀b∈fp,H' b=none)/\W i m σ' H':=fun {σ7 H7} I7 n7=>by
   obtain⟨m',hm,w7⟩:=hN σ7 H7 n7
   refine⟨m',hm,i+1,σ7,H7,I7.unpinned,T.keep _ _ _ st5 fun b hb o e=>(I7.pin (b,o) (YO _ (YO _ (gJ hb e)))).1,fun b hb=>?_,w7⟩
   obtain⟨o,e,d⟩:=T.obj _ _ st5 b hb
   exact(I7.pin (b,o) (YO _ (YO _ (gJ hb e)))).2.1
  cases f with
  |next=>obtain⟨σ7,H7,I7,n7⟩:=q7;exact again I7 n7
  |cont=>obtain⟨σ7,H7,I7,n7⟩:=q7;exact again I7 n7
  |brk=>obtain⟨σ7,H7,I7,q7⟩:=q7;exact⟨σ7,H7,I7.unpinned,q7⟩
  |ret v=>obtain⟨x7,σ7,H7,I7,r7,q7⟩:=q7;exact⟨x7,σ7,H7,I7.unpinned,r7,q7⟩
end
theorem gC {K:W.Frag}{a:Addr}{xs:List V}{g:TG}{tb:TS}{D:Ends}{σ:St}{H:Hp}(Pv:Nat->St->Hp->Prop)(h0:Pv 0 σ H)(hl:∀i σ H,i<=xs.length->Pv i σ H->SqL K H a xs)
  (hs:∀i x σ H,xs[i]? =some x->Pv i σ H->g x σ H fun σ2 H2=>tb { D with nx:=Pv (i+1),ct:=Pv (i+1),bk:=D.nx } σ2 H2) (hd:∀σ H,Pv xs.length σ H->D.nx σ H) :
  ∃ W:Nat->Nat->St->Hp->Prop,(∃m,W 0 m σ H)/\∀i m σ H,W i m σ H->
   ((Itl K a).stop i H/\D.nx σ H)\/((Itl K a).go i H/\∃N:St->Hp->Prop,(∀σ' H',N σ' H'->∃m',m'<m/\W (i+1) m' σ' H')/\∀x H',(Itl K a).yld i H x H'->g x σ H' fun σ2 H2=>tb { D with nx:=N,ct:=N,bk:=D.nx } σ2 H2):=by
 refine⟨fun i m σ H=>m=xs.length-i/\i<=xs.length/\Pv i σ H,⟨xs.length,by simp,YY _,h0⟩,?_⟩
 rintro i m σ H ⟨rfl,hi,p⟩
 have q:=hl i σ H hi p
 by_cases hlt:i<xs.length
 ·refine .inr ⟨⟨xs,xs[i],q,by simp[hlt]⟩,Pv (i+1),fun σ' H' p'=>⟨xs.length-(i+1),by omega,rfl,hlt,p'⟩,fun x H' y=>?_⟩
  obtain⟨e,y⟩:=y
  subst e
  exact hs i x σ _ (y xs q) p
 ·have e:i=xs.length:=by omega
  subst e
  exact .inl ⟨⟨xs,q,Yd _⟩,hd σ H p⟩
theorem fW {lo:Int}{n:Nat}{g:TG}{tb:TS}{D:Ends}{σ:St}{H:Hp}(Pv:Nat->St->Hp->Prop)(h0:Pv 0 σ H)
  (hs:∀i σ H,i<n->Pv i σ H->g (.int (lo+i)) σ H fun σ2 H2=>tb { D with nx:=Pv (i+1),ct:=Pv (i+1),bk:=D.nx } σ2 H2) (hd:∀σ H,Pv n σ H->D.nx σ H) :
  ∃ W:Nat->Nat->St->Hp->Prop,(∃m,W 0 m σ H)/\∀i m σ H,W i m σ H->
   ((Itr lo n).stop i H/\D.nx σ H)\/((Itr lo n).go i H/\∃N:St->Hp->Prop,(∀σ' H',N σ' H'->∃m',m'<m/\W (i+1) m' σ' H')/\∀x H',(Itr lo n).yld i H x H'->g x σ H' fun σ2 H2=>tb { D with nx:=N,ct:=N,bk:=D.nx } σ2 H2):=by
 refine⟨fun i m σ H=>m=n-i/\i<=n/\Pv i σ H,⟨n,by simp,YY _,h0⟩,?_⟩
 rintro i m σ H ⟨rfl,hi,p⟩
 by_cases hlt:i<n
 ·refine .inr ⟨hlt,Pv (i+1),fun σ' H' p'=>⟨n-(i+1),by omega,rfl,hlt,p'⟩,fun x H' y=>?_⟩
  obtain⟨e,y⟩:=y
  subst e y
  exact hs i σ _ hlt p
 ·have e:i=n:=by omega
  subst e
  exact .inl ⟨Yd _,hd σ H p⟩
abbrev R2:=V->V->Hp->VK->Prop
variable {r:R2}
def OpR (X:Cx)(f:Value->Value->Sem Value)(r:R2):Prop:=
 ∀ (pins:List (Addr×Obj))(s:Shared)(σ:St)(H:Hp)(x y:V)(v u:Value)(Q:VK),Inv X pins σ H s->RelV x v->RelV y u->r x y H Q->
  wpAny (model X.prog X.w) X.A (f v u) (EP X pins σ Q) X.xe s
def UnR (X:Cx)(f:Value->Sem Value)(r:V->Hp->VK->Prop):Prop:=
 ∀ (pins:List (Addr×Obj))(s:Shared)(σ:St)(H:Hp)(x:V)(v:Value)(Q:VK),Inv X pins σ H s->RelV x v->r x H Q->
  wpAny (model X.prog X.w) X.A (f v) (EP X pins σ Q) X.xe s
def fD (X:Cx)(f:Value)(r:List V->Hp->VK->Prop):Prop:=
 ∀ (pins:List (Addr×Obj))(s:Shared)(σ:St)(H:Hp)(xs:List V)(us:List Value)(Q:VK),Inv X pins σ H s->Vals xs us->r xs H Q->
  wpAny (model X.prog X.w) X.A (call f us) (EP X pins σ Q) X.xe s
def tOp (r:R2)(ta tb:TE):TE:=fun σ H Q=>ta σ H fun x H1=>tb σ H1 fun y H2=>r x y H2 Q
def tUn (r:V->Hp->VK->Prop)(ta:TE):TE:=fun σ H Q=>ta σ H fun x H1=>r x H1 Q
def rI (C:Int->Int->Prop)(g:Int->Int->V):R2:=fun x y H Q=>∃i j,x= .int i/\y= .int j/\C i j/\Q (g i j) H
def rI0 (g:Int->Int->V):R2:=fun x y H Q=>∃i j,x= .int i/\y= .int j/\Q (g i j) H
def rU (g:Int->V):V->Hp->VK->Prop:=fun x H Q=>∃i,x= .int i/\Q (g i) H
section
variable {a b:Expr}{tc:TE}
theorem b7I (ha:PE X a ta)(hb:PE X b tb){pins:List (Addr×Obj)}{s:Shared}{σ:St}{H:Hp}{R:V->V->Hp->Prop}(I:Inv X pins σ H s)
  (h:ta σ H fun x H1=>tb σ H1 fun y H2=>R x y H2) {Q:Value->Shared->Prop} {f:Value->Value->Sem Value}
  (hf:∀v u s2 x y H2,Inv X pins σ H2 s2->RelV x v->RelV y u->R x y H2->wpAny (model X.prog X.w) X.A (f v u) Q X.xe s2) :
  wpAny (model X.prog X.w) X.A (eval a X.env) (fun v s₁=>wpAny (model X.prog X.w) X.A (eval b X.env) (fun u s₂=>wpAny (model X.prog X.w) X.A (f v u) Q X.xe s₂) X.xe s₁) X.xe s:=by
 refine thn (ha pins s σ H _ I h) fun v s1 hz9=>?_
 obtain⟨x,H1,I1,r1,q1⟩:=hz9
 refine thn (hb pins s1 σ H1 _ I1 q1) fun u s2 hz9=>?_
 obtain⟨y,H2,I2,r2,q2⟩:=hz9
 exact hf v u s2 x y H2 I2 r1 r2 q2
def aU {op:Operator}(ho:OpR X (binaryOp op) r)(ha:PE X a ta)(hb:PE X b tb):PE X (.BinOp a op b pos) (tOp r ta tb):=by
 intro pins s σ H Q I h
 exact wpAny_BinOp (b7I ha hb I h fun v u s2 x y H2 I2 rx ry q=>ho pins s2 σ H2 x y v u Q I2 rx ry q)
def a0U {op:UnaryOp}{r:V->Hp->VK->Prop}(ho:UnR X (unaryOp op) r)(ha:PE X a ta):PE X (.UnaryOp op a pos) (tUn r ta):=by
 intro pins s σ H Q I h
 exact UnaryOp_ (thn (ha pins s σ H _ I h) fun v s1 ⟨x,H1,I1,r1,q1⟩=>ho pins s1 σ H1 x v Q I1 r1 q1)
theorem opI {f:Value->Value->Sem Value}{C:Int->Int->Prop}{g:Int->Int->Int}
  (rule:∀(i j:Int)(t u:Tok)(s:Shared)(Q:Value->Shared->Prop)(E:Value->Shared->Prop),C i j->Q (.int (g i j) s.toks) { s with toks:=s.toks+1 }->wpAny (model X.prog X.w) X.A (f (.int i t) (.int j u)) Q E s) :
  OpR X f (rI C fun i j=> .int (g i j)):=by
 intro pins s σ H x y v u Q I rx ry h
 obtain⟨i,j,rfl,rfl,hc,q⟩:=h
 obtain⟨t,rfl⟩:=rx
 obtain⟨t',rfl⟩:=ry
 exact rule i j t t' s _ _ hc ⟨.int (g i j),H,I.tok _,⟨_,rfl⟩,q⟩
theorem b1M {f:Value->Value->Sem Value}{g:Int->Int->Int}
  (rule:∀(i j:Int)(t u:Tok)(s:Shared)(Q:Value->Shared->Prop)(E:Value->Shared->Prop),Q (.int (g i j) s.toks) { s with toks:=s.toks+1 }->wpAny (model X.prog X.w) X.A (f (.int i t) (.int j u)) Q E s) :
  OpR X f (rI0 fun i j=> .int (g i j)):=by
 intro pins s σ H x y v u Q I rx ry h
 obtain⟨i,j,rfl,rfl,q⟩:=h
 obtain⟨t,rfl⟩:=rx
 obtain⟨t',rfl⟩:=ry
 exact rule i j t t' s _ _ ⟨.int (g i j),H,I.tok _,⟨_,rfl⟩,q⟩
theorem b1N {f:Value->Value->Sem Value}{g:Int->Int->Bool}
  (rule:∀(i j:Int)(t u:Tok)(s:Shared)(Q:Value->Shared->Prop)(E:Value->Shared->Prop),Q (.bool (g i j)) s->wpAny (model X.prog X.w) X.A (f (.int i t) (.int j u)) Q E s) :
  OpR X f (rI0 fun i j=> .bl (g i j)):=by
 intro pins s σ H x y v u Q I rx ry h
 obtain⟨i,j,rfl,rfl,q⟩:=h
 obtain⟨t,rfl⟩:=rx
 obtain⟨t',rfl⟩:=ry
 exact rule i j t t' s _ _ ⟨.bl (g i j),H,I,rfl,q⟩
def c0P (i j:Int):Prop:=0<j/\j<1073741824
def xY (k:Nat):(0:Int)<=2 ^ k:=by
 rw[two_pow_cast]
 exact Int.natCast_nonneg _
def b5P:OpR X (binaryOp .Add) (rI0 fun i j=> .int (i+j)):=b1M fun _ _ _ _ _ _ _ q=>add_int q
def b5I:OpR X (binaryOp .Sub) (rI0 fun i j=> .int (i-j)):=b1M fun _ _ _ _ _ _ _ q=>sub_int q
def b1L:OpR X (binaryOp .FloorDiv) (rI c0P fun i j=> .int (i / j)):=opI fun i j _ _ _ _ _ hc q=>by
 have h1:(0:Int)<j:=hc.1
 have h2:j<1073741824:=hc.2
 exact floordiv_int (by omega) (by rw[Int.fdiv_eq_ediv_of_nonneg i (by omega)];exact q) (.inl (PyProof.noPylong_small (by omega)))
def b5L:OpR X (binaryOp .Mod) (rI (fun _ j=>0<j) fun i j=> .int (i % j)):=opI fun i j _ _ _ _ _ hc q=>by
 have h1:(0:Int)<j:=hc
 exact mod_int' (by omega) (by rw[Int.fmod_eq_emod_of_nonneg i (by omega)];exact q)
def b5J:OpR X (binaryOp .RShift) (rI (fun _ j=>0<=j) fun i j=> .int (i / 2 ^ j.toNat)):=opI fun i j _ _ _ _ _ hc q=>
 rshift_int hc (by rw[Int.fdiv_eq_ediv_of_nonneg i (xY _)];exact q)
def b5O:OpR X (binaryOp .BitAnd) (rI0 fun i j=> .int (Builtin.bitAnd i j)):=b1M fun _ _ _ _ _ _ _ q=>and_int q
def b5H:OpR X (binaryOp .BitXor) (rI0 fun i j=> .int (Builtin.bitXor i j)):=b1M fun _ _ _ _ _ _ _ q=>xor_int q
theorem unI {f:Value->Sem Value}{g:Int->Int}
  (rule:∀(i:Int)(t:Tok)(s:Shared)(Q:Value->Shared->Prop)(E:Value->Shared->Prop),Q (.int (g i) s.toks) { s with toks:=s.toks+1 }->wpAny (model X.prog X.w) X.A (f (.int i t)) Q E s) :
  UnR X f (rU fun i=> .int (g i)):=by
 intro pins s σ H x v Q I rx h
 obtain⟨i,rfl,q⟩:=h
 obtain⟨t,rfl⟩:=rx
 exact rule i t s _ _ ⟨.int (g i),H,I.tok _,⟨_,rfl⟩,q⟩
def b4B:UnR X (unaryOp .USub) (rU fun i=> .int (-i)):=unI fun _ _ _ _ _ q=>neg_int q
end
def b4T:V->V->Bool
 |.non,.non=>true | .non,.int _=>true | .int _,.non=>true | .non,.bl _=>true | .bl _,.non=>true | .non,.str _=>true | .str _,.non=>true
 |.int _,.int _=>true | .bl _,.bl _=>true | .str _,.str _=>true | .byt _,.byt _=>true
 |.int _,.str _=>true | .str _,.int _=>true | .bl _,.str _=>true | .str _,.bl _=>true
 |_,_=>false
def rEq:R2:=fun x y H Q=>b4T x y=true/\Q (.bl (decide (x=y))) H
def rNe:R2:=fun x y H Q=>b4T x y=true/\Q (.bl (!decide (x=y))) H
def a1M {i j:Int}:decide (V.int i=V.int j)=(i == j):=by
 rw[Jj]
 simp
def a8T {i j:Bool}:decide (V.bl i=V.bl j)=(i == j):=by
 rw[Jj]
 simp
def a1L {i j:Str}:decide (V.str i=V.str j)=(i == j):=by
 rw[Jj]
 simp
def a1N {i j:Array UInt8}:decide (V.byt i=V.byt j)=(i.toList == j.toList):=by
 rw[Jj]
 cases i
 cases j
 simp
section
variable {a b:Expr}{tc:TE}
def cC {Q:VK}{k k':Bool}(I:Inv X pins σ H s)(q:Q (.bl k) H)(e:k=k'):EP X pins σ Q (.bool k') s:=by
 subst e
 exact⟨.bl k,H,I,rfl,q⟩
def b8V:OpR X (compareOp .Eq) rEq:=by
 intro pins s σ H x y v u Q I rx ry h
 obtain⟨hs,q⟩:=h
 cases x with
 | non=>
  cases rx
  cases y with
  |non=>cases ry;exact PySem.EqNone.eq_none_none (cC I q (by simp))
  |bl j=>cases ry;exact PySem.EqNone.eq_none_bool (cC I q (by simp))
  |int j=>obtain⟨t',rfl⟩:=ry;exact PySem.EqNone.eq_none_int (cC I q (by simp))
  |str j=>obtain⟨t',rfl⟩:=ry;exact PySem.EqNone.eq_none_str (cC I q (by simp))
  |_=>exact absurd (show false=true from hs) Ys
 | bl i=>
  cases rx
  cases y with
  |non=>cases ry;exact PySem.EqNone.eq_bool_none (cC I q (by simp))
  |bl j=>cases ry;exact eq_bool (cC I q a8T)
  |str j=>obtain⟨t',rfl⟩:=ry;exact PySem.EqMixed.eq_bool_str (cC I q (by simp))
  |_=>exact absurd (show false=true from hs) Ys
 | int i=>
  obtain⟨t,rfl⟩:=rx
  cases y with
  |non=>cases ry;exact PySem.EqNone.eq_int_none (cC I q (by simp))
  |int j=>obtain⟨t',rfl⟩:=ry;exact eq_int (cC I q a1M)
  |str j=>obtain⟨t',rfl⟩:=ry;exact PySem.EqMixed.eq_int_str (cC I q (by simp))
  |_=>exact absurd (show false=true from hs) Ys
 | str i=>
  obtain⟨t,rfl⟩:=rx
  cases y with
  |non=>cases ry;exact PySem.EqNone.eq_str_none (cC I q (by simp))
  |bl j=>cases ry;exact PySem.EqMixed.eq_str_bool (cC I q (by simp))
  |int j=>obtain⟨t',rfl⟩:=ry;exact PySem.EqMixed.eq_str_int (cC I q (by simp))
  |str j=>obtain⟨t',rfl⟩:=ry;exact eq_str (cC I q a1L)
  |_=>exact absurd (show false=true from hs) Ys
 | byt i=>
  obtain⟨t,rfl⟩:=rx
  cases y with
  |byt j=>obtain⟨t',rfl⟩:=ry;exact W.eq_bytes (cC I q a1N)
  |_=>exact absurd (show false=true from hs) Ys
 |_=>cases y <;> exact absurd (show false=true from hs) Ys
def b8Q:OpR X (compareOp .NotEq) rNe:=by
 intro pins s σ H x y v u Q I rx ry h
 obtain⟨hs,q⟩:=h
 cases x with
 | non=>
  cases rx
  cases y with
  |non=>cases ry;exact PySem.EqNone.ne_none_none (cC I q (by simp))
  |bl j=>cases ry;exact PySem.EqNone.ne_none_bool (cC I q (by simp))
  |int j=>obtain⟨t',rfl⟩:=ry;exact PySem.EqNone.ne_none_int (cC I q (by simp))
  |str j=>obtain⟨t',rfl⟩:=ry;exact PySem.EqNone.ne_none_str (cC I q (by simp))
  |_=>exact absurd (show false=true from hs) Ys
 | bl i=>
  cases rx
  cases y with
  |non=>cases ry;exact PySem.EqNone.ne_bool_none (cC I q (by simp))
  |bl j=>cases ry;exact ne_bool (cC I q (YT not a8T))
  |str j=>obtain⟨t',rfl⟩:=ry;exact PySem.EqMixed.ne_bool_str (cC I q (by simp))
  |_=>exact absurd (show false=true from hs) Ys
 | int i=>
  obtain⟨t,rfl⟩:=rx
  cases y with
  |non=>cases ry;exact PySem.EqNone.ne_int_none (cC I q (by simp))
  |int j=>obtain⟨t',rfl⟩:=ry;exact ne_int (cC I q (YT not a1M))
  |str j=>obtain⟨t',rfl⟩:=ry;exact PySem.EqMixed.ne_int_str (cC I q (by simp))
  |_=>exact absurd (show false=true from hs) Ys
 | str i=>
  obtain⟨t,rfl⟩:=rx
  cases y with
  |non=>cases ry;exact PySem.EqNone.ne_str_none (cC I q (by simp))
  |bl j=>cases ry;exact PySem.EqMixed.ne_str_bool (cC I q (by simp))
  |int j=>obtain⟨t',rfl⟩:=ry;exact PySem.EqMixed.ne_str_int (cC I q (by simp))
  |str j=>obtain⟨t',rfl⟩:=ry;exact ne_str (cC I q (YT not a1L))
  |_=>exact absurd (show false=true from hs) Ys
 | byt i=>
  obtain⟨t,rfl⟩:=rx
  cases y with
  |byt j=>obtain⟨t',rfl⟩:=ry;exact W.ne_bytes (cC I q (YT not a1N))
  |_=>exact absurd (show false=true from hs) Ys
 |_=>cases y <;> exact absurd (show false=true from hs) Ys
def b8R:OpR X (compareOp .Lt) (rI0 fun i j=> .bl (decide (i<j))):=b1N fun _ _ _ _ _ _ _ q=>lt_int q
def b8S:OpR X (compareOp .LtE) (rI0 fun i j=> .bl (decide (i<=j))):=b1N fun _ _ _ _ _ _ _ q=>le_int q
def b8T:OpR X (compareOp .Gt) (rI0 fun i j=> .bl (decide (j<i))):=b1N fun _ _ _ _ _ _ _ q=>gt_int q
def b8U:OpR X (compareOp .GtE) (rI0 fun i j=> .bl (decide (j<=i))):=b1N fun _ _ _ _ _ _ _ q=>ge_int q
def b5M:OpR X (compareOp .Is) (fun x y H Q=>y= .non/\Q (.bl (decide (x= .non))) H):=by
 intro pins s σ H x y v u Q I rx ry h
 obtain⟨rfl,q⟩:=h
 cases ry
 refine is_none_gen (cC I q ?_)
 cases x <;> first
  |(cases rx;rfl)
  |(obtain⟨t,rfl⟩:=rx;rfl)
def aR (b:Expr)(h:op≠ .In:=by decide)(h2:op≠ .NotIn:=by decide):behindInMarks op b=false:=by
 have e1:(op == CmpOp.In)=false:=by cases op <;> first | rfl | exact absurd rfl h
 have e2:(op == CmpOp.NotIn)=false:=by cases op <;> first | rfl | exact absurd rfl h2
 cases b <;> simp[behindInMarks,e1,e2]
def fC (ho:OpR X (compareOp op) r)(ha:PE X a ta)(hb:PE X b tb)(hm:behindInMarks op b=false):PE X (.Compare a [op] [b] pos) (tOp r ta tb):=by
 intro pins s σ H Q I h
 exact wpAny_Compare1 (b7I ha hb I h fun v u s2 x y H2 I2 rx ry q=>ho pins s2 σ H2 x y v u Q I2 rx ry q) hm
def a0J (t:TE):TT:=fun σ H Q=>t σ H fun x H'=>∃k,x= .bl k/\Q k H'
def b0Z (ho:OpR X (compareOp op) r)(ha:PE X a ta)(hb:PE X b tb)(hm:behindInMarks op b=false):PT X (.Compare a [op] [b] pos) (a0J (tOp r ta tb)):=by
 intro pins s σ H Q I h
 refine wpAny_isTrue_Compare1 (thn (ha pins s σ H _ I h) fun v s1 ⟨x,H1,I1,r1,q1⟩=>thn (hb pins s1 σ H1 _ I1 q1) fun u s2 ⟨y,H2,I2,r2,q2⟩=>
  thn (ho pins s2 σ H2 x y v u _ I2 r1 r2 q2) fun c s3 ⟨z,H3,I3,r3,k,e,q3⟩=>?_) hm
 subst e
 cases r3
 exact Xk ⟨H3,I3,q3⟩
def tQ (r r':R2)(ta tb tc:TE):TE:=fun σ H Q=>ta σ H fun x H1=>tb σ H1 fun y H2=>r x y H2 fun z H3=>∃k,z= .bl k/\
 (if k=true then tc σ H3 fun w' H4=>r' y w' H4 Q else Q (.bl false) H3)
theorem a6X {op op':CmpOp}{r r':R2}(ho:OpR X (compareOp op) r)(ho':OpR X (compareOp op') r')(ha:PE X a ta)(hb:PE X b tb)(hc:PE X c tc)
  (hm:lastMarks [op,op'] [b,c]=false:=by with_unfolding_all rfl):PE X (.Compare a [op,op'] [b,c] pos) (tQ r r' ta tb tc):=by
 intro pins s σ H Q I h
 refine Compare_chain (thn (ha pins s σ H _ I h) fun v s1 ⟨x,H1,I1,r1,q1⟩=>chain_link (thn (hb pins s1 σ H1 _ I1 q1) fun u s2 ⟨y,H2,I2,r2,q2⟩=>
  thn (ho pins s2 σ H2 x y v u _ I2 r1 r2 q2) fun d s3 ⟨z,H3,I3,r3,k,e,q3⟩=>?_)) hm
 subst e
 cases r3
 refine Xk ?_
 cases k with
 |false=>exact ite_ff ⟨.bl false,H3,I3,rfl,q3⟩
 |true=>exact ite_tt (chain_last (thn (hc pins s3 σ H3 _ I3 q3) fun w' s4 ⟨z',H4,I4,r4,q4⟩=>ho' pins s4 σ H4 y z' u w' Q I4 r2 r4 q4))
theorem a6M {op op':CmpOp}{r r':R2}(ho:OpR X (compareOp op) r)(ho':OpR X (compareOp op') r')(ha:PE X a ta)(hb:PE X b tb)(hc:PE X c tc)
  (hm:lastMarks [op,op'] [b,c]=false:=by with_unfolding_all rfl):PT X (.Compare a [op,op'] [b,c] pos) (a0J (tQ r r' ta tb tc)):=by
 intro pins s σ H Q I h
 refine isTrue_chain (thn (ha pins s σ H _ I h) fun v s1 ⟨x,H1,I1,r1,q1⟩=>test_link (thn (hb pins s1 σ H1 _ I1 q1) fun u s2 ⟨y,H2,I2,r2,q2⟩=>
  thn (ho pins s2 σ H2 x y v u _ I2 r1 r2 q2) fun d s3 ⟨z,H3,I3,r3,k,e,q3⟩=>?_)) hm
 subst e
 cases r3
 refine Xk ?_
 cases k with
 | false=>
  obtain⟨k',e',q'⟩:=q3
  cases e'
  exact ite_ff ⟨H3,I3,q'⟩
 | true=>
  refine ite_tt (test_last (thn (hc pins s3 σ H3 _ I3 q3) fun w' s4 ⟨z',H4,I4,r4,q4⟩=>thn (ho' pins s4 σ H4 y z' u w' _ I4 r2 r4 q4) fun d' s5 ⟨z2,H5,I5,r5,k2,e2,q5⟩=>?_))
  subst e2
  cases r5
  exact Xk ⟨H5,I5,q5⟩
def uB:(sizeLine:Nat)<2 ^ 63:=by rw[sizeLine_eq];decide
def vals1 {x:V}(r:Vals [x] us):∃u,us= [u]/\RelV x u:=by
 cases r with
 |cons r1 r2=>cases r2;exact⟨_,rfl,r1⟩
def vals2 {x y:V}(r:Vals [x,y] us):∃u w',us= [u,w']/\RelV x u/\RelV y w':=by
 cases r with
 | cons r1 r2=>
  cases r2 with
  |cons r3 r4=>cases r4;exact⟨_,_,rfl,r1,r3⟩
def a3W (hc:X.calm=true):fD X (.builtin "max") (fun xs H Q=>∃i j,xs= [.int i,.int j]/\Q (.int (if j > i then j else i)) H):=by
 intro pins s σ H xs us Q I r h
 obtain⟨i,j,rfl,q⟩:=h
 obtain⟨u,w',rfl,⟨t,rfl⟩,⟨t',rfl⟩⟩:=vals2 r
 refine max_two_ints (I.ok.hd hc) fun h' tk k=>⟨_,H,I.kept k,?_,q⟩
 by_cases hj:j > i
 ·rw[if_pos hj,if_pos hj];exact⟨_,rfl⟩
 ·rw[if_neg hj,if_neg hj];exact⟨_,rfl⟩
def a3V (hc:X.calm=true):fD X (.builtin "min") (fun xs H Q=>∃i j,xs= [.int i,.int j]/\Q (.int (if j<i then j else i)) H):=by
 intro pins s σ H xs us Q I r h
 obtain⟨i,j,rfl,q⟩:=h
 obtain⟨u,w',rfl,⟨t,rfl⟩,⟨t',rfl⟩⟩:=vals2 r
 refine min_two_ints (I.ok.hd hc) fun h' tk k=>⟨_,H,I.kept k,?_,q⟩
 by_cases hj:j<i
 ·rw[if_pos hj,if_pos hj];exact⟨_,rfl⟩
 ·rw[if_neg hj,if_neg hj];exact⟨_,rfl⟩
end
structure a0B (h:Heap)(x dx C:Addr)(mA:Str->Option Value):Prop where
 obj:h.get? x=some (W.instObj C dx)
 ns:h.Ns1 dx mA
 ne:dx≠x
def a3G (n:h.Ns1 dx mA):∃od,h.get? dx=some od/\∀name,W.lookIn name od=some (mA name):=by
 obtain⟨o,es,ep,ho,hd,hk,_,hm⟩:=n
 refine⟨o,ho,fun name=>?_⟩
 have e:=hm name
 unfold nsFind findBy at e
 rw[<-Array.find?_toList]at e
 unfold W.lookIn
 rw[hd]
 dsimp only
 split
 ·rename_i y q
  rw[q]at e
  exact YT some e
 ·rename_i q
  rw[q]at e
  have a:es.toList.any (·.refKey)=false:=by
   rw[List.any_eq_false]
   intro y hy
   obtain⟨z,t,hkey⟩:=hk y (Array.mem_toList_iff.mp hy)
   simp[DictEntry.refKey,hkey]
  have a':¬ es.toList.any (·.refKey)=true:=by rw[a];exact Ys
  rw[if_neg a']
  exact YT some e
def a0B.look {x:Addr}(I:a0B h x dx C mA):∃od,W.InstAt h x (W.instObj C dx) C (some od)/\∀name,W.lookIn name od=some (mA name):=
 let ⟨od,ho,hl⟩:=a3G I.ns
 ⟨od,⟨I.obj,rfl,rfl,ho⟩,hl⟩
section
variable {prog:Program}{x:Addr}{name:Str}
theorem b2A {expr:Bool}{Q:Value->Shared->Prop}(X:K.In s.heap)(I:a0B s.heap x dx C mA)(hg:W.plainGet K C name=true)(hh:W.hasDictIn K C=true)
  (ha:W.findIn K (.ref C) name=some none) (hv:mA name=some v) (hv':W.handedIn v=true) (h:Q v { s with toks:=s.toks+1 }) :
  wpAny (model prog w) A (getAttr (.ref x) name expr) Q E s:=by
 obtain⟨od,J,hl⟩:=I.look
 exact W.get_value X J (W.plainGet_of hg).1 (W.findObj_own hh ha rfl (by rw[hl,hv])) hv' h
theorem a8F {pl:Sem Bool}{Q:Value×List Value->Shared->Prop}(X:K.In s.heap)(I:a0B s.heap x dx C mA)(hg:W.plainGet K C name=true)
  (hf:W.findIn K (.ref C) name=some (some (.ref f))) (ht:W.isFn K (.ref f)=true) (hv:mA name=none) (h:Q (.ref f, [.ref x]) s) :
  wpAny (model prog w) A (getMethod (.ref x) name pl) Q E s:=by
 obtain⟨od,J,hl⟩:=I.look
 exact W.method_fn X J (W.plainGet_of hg).1 (W.plainGet_of hg).2 hf (XR.mp ht) (by show (W.lookIn name od).map (·.isSome)=some false;rw[hl,hv];rfl) h
theorem b0R {ns:List Str}{Q:Unit->Shared->Prop}(X:K.In s.heap)(I:a0B s.heap x dx C mA)
  (hs:W.findIn K (.ref C) "__setattr__"=some (some (.builtin "object.__setattr__"))) (hp:W.plainOver K C=true) (ht:W.takerIn K C name=some none) (hh:W.hasDictIn K C=true)
  (hw:PySem.Within mA ns) (hsz:ns.length<=sizeLine)
  (h:∀h',a0B h' x dx C (fun y=>if y=name then some v else mA y)->Heap.SameBut dx s.heap h'->Q () { s with heap:=h',toks:=s.toks+2 }) :
  wpAny (model prog w) A (setAttr (.ref x) name v) Q E s:=by
 obtain⟨od,J,hl⟩:=I.look
 refine W.set_plain X J hs (W.osa_open (s:={ s with toks:=s.toks+1 }) (r:=none) X J hp ht fun b=>?_)
 obtain⟨cd,hc,hd'⟩:=W.any_some hh
 have hx:s.heap.get? x=some ⟨.ref C,some dx,.plain, #[]⟩:=I.obj
 refine YJ (Y6 (YJ (YJ (wpAny_loadPart hx (YJ (W.Looks.here (s:={ s with toks:=s.toks+1 }) (W.looks_clsIn X hc) ?_))))))
 rw[hd']
 refine Y6 (a:=some dx) (YJ (Y6 (YJ ?_)))
 refine wpAny_nsSet1 (s:={ s with toks:=s.toks+1 }) I.ns fun h' hn2 hs2=>?_
 obtain⟨oD,esD,epD,hoD,hdD,hcD⟩:=hn2.count (PySem.Within.cons name v hw)
 refine YJ (wpAny_lookBehind hoD (by rw[hdD];exact pastItsLine_dict (Y1 hcD (by rw[YE];omega))) ?_)
 exact Y6 (h _ ⟨(hs2.2 _ (Ne.symm I.ne)).trans I.obj,hn2,I.ne⟩ hs2)
theorem a7Q {R:Result->Shared->Prop}{vs:List Value}{kw:List (Str×Value)}(X:K.In s.heap)(hm:W.makesIn K C=true)
  (hi:W.findIn K (.ref C) "__init__"=some (some (.ref f))) (hf:W.typeIn K (.ref f)=some (.type "function"))
  (h :codeAny (model prog w) (A.under (.builtin "type.__call__" ⟨.ref C::vs,kw⟩)) (.call (.ref f) ⟨.ref (s.heap.objs.size+1)::vs,kw⟩) (W.InitBack (s.heap.objs.size+1) R)
   { s with heap:=(s.heap.push W.emptyDict).push (W.instObj C s.heap.objs.size) }) :
  codeAny (model prog w) A (.call (.ref C) ⟨vs,kw⟩) R s:=by
 obtain⟨hh,g,d,t,os⟩:=s
 exact W.make_core (W.makes_of X hm) (W.looks_findIn X hi) (fun self=>W.bind_fn X self hf) (.inl rfl) h
theorem a3D {R:Result->Shared->Prop}(X:K.In s.heap)(hm:W.makesIn K C=true)
  (hi:W.findIn K (.ref C) "__init__"=some (some (.builtin "object.__init__")))
  (hb:∀self,W.Looks (model prog w) s.heap (bindSpecial (.builtin "object.__init__") self) (.builtin "object.__init__", [self]))
  (h :codeAny (model prog w) (A.under (.builtin "type.__call__" ⟨[.ref C], []⟩)) (.call (.builtin "object.__init__") ⟨[.ref (s.heap.objs.size+1)], []⟩) (W.InitBack (s.heap.objs.size+1) R)
   { s with heap:=(s.heap.push W.emptyDict).push (W.instObj C s.heap.objs.size) }) :
  codeAny (model prog w) A (.call (.ref C) ⟨[], []⟩) R s:=by
 obtain⟨hh,g,d,t,os⟩:=s
 exact W.make_core (W.makes_of X hm) (W.looks_findIn X hi) hb (.inr ⟨rfl,rfl⟩) h
end
def fG (f:Str)(v:V):List (Str×V)->List (Str×V)
 |[]=>[(f,v)]
 |(g,x)::r=>if g=f then (g,v)::r else (g,x)::fG f v r
theorem oN (f g:Str)(v:V):∀fs:List (Str×V),(fG f v fs).lookup g=if g=f then some v else fs.lookup g
 | [] =>by
  show List.lookup g [(f,v)]=_
  by_cases h:g=f
  ·have hb:(g == f)=true:=XR.mpr h
   simp only[List.lookup,hb,if_pos h]
  ·have hb:(g == f)=false:=Y9.mpr h
   simp only[List.lookup,hb,if_neg h]
 | (k, x)::r=>by
  have ih:=oN f g v r
  rw[show fG f v ((k,x)::r)=(if k=f then (k,v)::r else (k,x)::fG f v r) from rfl]
  by_cases hk:k=f
  ·rw [if_pos hk]
   by_cases h:g=k
   ·have hb:(g == k)=true:=XR.mpr h
    simp only[List.lookup,hb,if_pos (h.trans hk)]
   ·have hb:(g == k)=false:=Y9.mpr h
    simp only[List.lookup,hb,if_neg (fun e:g=f=>h (e.trans hk.symm))]
  ·rw [if_neg hk]
   by_cases h:g=k
   ·have hb:(g == k)=true:=XR.mpr h
    simp only[List.lookup,hb,if_neg (fun e:g=f=>hk (h.symm.trans e))]
   ·have hb:(g == k)=false:=Y9.mpr h
    simp only[List.lookup,hb]
    exact ih
theorem oH (f:Str)(v:V):∀fs:List (Str×V),f∈(fG f v fs).map (·.1)/\∀g,g∈fs.map (·.1)->g∈(fG f v fs).map (·.1)
 |[]=>⟨by simp[fG],fun g h=>by simp at h⟩
 | (k, x)::r=>by
  obtain⟨i1,i2⟩:=oH f v r
  rw[show fG f v ((k,x)::r)=(if k=f then (k,v)::r else (k,x)::fG f v r) from rfl]
  by_cases hk:k=f
  ·rw[if_pos hk]
   subst hk
   exact⟨by simp,fun g h=>by simpa using h⟩
  ·rw [if_neg hk]
   refine⟨?_,fun g h=>?_⟩
   ·rw[YR]
    exact Yw _ i1
   ·rw[YR]at h ⊢
    rcases YH.mp h with e | e
    ·exact YH.mpr (.inl e)
    ·exact Yw _ (i2 g e)
theorem oR (f:Str)(v:V):∀fs:List (Str×V),(fG f v fs).length<=fs.length+1
 |[]=>by simp[fG]
 | (k,x)::r=>by
  have ih:=oR f v r
  rw[show fG f v ((k,x)::r)=(if k=f then (k,v)::r else (k,x)::fG f v r) from rfl]
  by_cases hk:k=f
  ·rw[if_pos hk,YE,YE];omega
  ·rw[if_neg hk,YE,YE];omega
def lF.some_of {v:V}{o:Option Value}(r:lF (some v) o):∃u,o=some u/\RelV v u:=by
 cases o with
 |none=>exact(show False from r).elim
 |some u=>exact⟨u,rfl,r⟩
def lF.none_of {o:Option Value}(r:lF none o):o=none:=by
 cases o with
 |none=>rfl
 |some u=>exact(show False from r).elim
def a3O {v:V}(r:RelV v u):W.handedIn u=true:=by
 cases v with
 |non=>cases (show u=Value.none from r);rfl
 |bl b=>cases (show u=Value.bool b from r);rfl
 |int i=>obtain⟨t,e⟩:=(show ∃t,u=Value.int i t from r);cases e;rfl
 |str x=>obtain⟨t,e⟩:=(show ∃t,u=Value.str x t from r);cases e;rfl
 |byt b=>obtain⟨t,e⟩:=(show ∃t,u=Value.bytes b t from r);cases e;rfl
 |flt b=>obtain⟨t,e⟩:=(show ∃t,u=Value.float b t from r);cases e;rfl
 |ref a=>cases (show u=Value.ref a from r);rfl
 |ty n=>cases (show u=Value.type n from r);rfl
section
variable {fs fs':List (Str×V)}
def pH (hok:HOk P w H h)(e:H a=some (.ins C dx fs)):∃mA,a0B h a dx C mA/\(∀f,lF (fs.lookup f) (mA f))/\PySem.Within mA (fs.map (·.1))/\fs.length<=1000/\H dx=some (.own a):=by
 obtain⟨d,z,ne,ob,mA,n,r,q⟩:=(show dN P w H h a (.ins C dx fs) from hok a _ e)
 exact⟨mA,⟨ob,n,ne⟩,r,q,z,d⟩
end
structure Cls (K:W.Frag)(C:Addr):Prop where
 pg:W.plainGet K C Str.empty=true
 hd:W.hasDictIn K C=true
 po:W.plainOver K C=true
 sa:W.findIn K (.ref C) "__setattr__"=some (some (.builtin "object.__setattr__"))
def Cls.get (c:Cls K C)(f:Str):W.plainGet K C f=true:=c.pg
def bG (K:W.Frag)(C:Addr)(f:Str):Prop:=W.findIn K (.ref C) f=some none
def bG.taker {f:Str}(n:bG K C f):W.takerIn K C f=some none:=by
 unfold W.takerIn
 rw[show W.findIn K (.ref C) f=some none from n]
 rfl
structure Meth (K:W.Frag)(C:Addr)(m:Str)(f:Addr):Prop where
 at_:W.findIn K (.ref C) m=some (some (.ref f))
 fn:W.isFn K (.ref f)=true
 kp:W.keepIn K (.ref f)=true
section
variable {fs:List (Str×V)}{f:Str}{v:V}
theorem zF {b:Bool}{Q:Value->Shared->Prop}(I:Inv X pins σ H s)(e:H a=some (.ins C dx fs))(c:Cls X.K C)(n:bG X.K C f)(l:fs.lookup f=some v)
  (h:∀u s',Inv X pins σ H s'->RelV v u->Q u s'):wpAny (model X.prog X.w) A (getAttr (.ref a) f b) Q E s:=by
 obtain⟨mA,O,r,_,_,_⟩:=pH I.hok e
 obtain⟨u,hu,ru⟩:=lF.some_of (v:=v) (o:=mA f) (by rw[<-l];exact r f)
 exact b2A I.kIn O (c.get f) c.hd n hu (a3O ru) (h u _ (I.tok _) ru)
theorem fQ {m:Str}{g:Addr}{pl:Sem Bool}{Q:Value×List Value->Shared->Prop}(I:Inv X pins σ H s)(e:H a=some (.ins C dx fs))(c:Cls X.K C)(k:Meth X.K C m g)(l:fs.lookup m=none)
  (h:Q (.ref g, [.ref a]) s):wpAny (model X.prog X.w) A (getMethod (.ref a) m pl) Q E s:=by
 obtain⟨mA,O,r,_,_,_⟩:=pH I.hok e
 have hn:mA m=none:=lF.none_of (by rw[<-l];exact r m)
 exact a8F I.kIn O (c.get m) k.at_ k.fn hn h
theorem yM {y:V}{u:Value}{Q:Unit->Shared->Prop}(I:Inv X pins σ H s)(e:H a=some (.ins C dx fs))(c:Cls X.K C)(n:bG X.K C f)(hl:fs.length<1000)(ry:RelV y u)
  (h:∀s',Inv X pins σ (upd H a (.ins C dx (fG f y fs))) s'->Q () s'):wpAny (model X.prog X.w) A (setAttr (.ref a) f u) Q E s:=by
 obtain⟨mA,O,r,wi,_,ho⟩:=pH I.hok e
 have hz:(fs.map (·.1)).length<=sizeLine:=by rw[Ya,sizeLine_eq];omega
 refine b0R I.kIn O c.sa c.po n.taker c.hd wi hz fun h' O' sb=>h _ ?_
 have hd:∃o,h'.get? dx=some o:=let ⟨o,_,_,e',_⟩:=O'.ns;⟨o,e'⟩
 refine I.write (x:=a) (e:=dx) (by rw[e];exact True.intro) (.inr ho) (fun b q hb z=>(sb.2 b hb).trans z) hd ?_
 refine⟨by rw[aH O.ne];exact ho,?_,O.ne,O'.obj,_,O'.ns,fun g=>?_,fun g hg=>?_⟩
 ·have:=oR f y fs;omega
 ·show lF ((fG f y fs).lookup g) (if g=f then some u else mA g)
  rw[oN]
  by_cases q:g=f
  ·rw[if_pos q,if_pos q];exact ry
  ·rw[if_neg q,if_neg q];exact r g
 ·by_cases q:g=f
  ·rw[q];exact(oH f y fs).1
  ·refine(oH f y fs).2 g (wi g fun z=>hg ?_)
   show (if g=f then some u else mA g)=none
   rw[if_neg q];exact z
theorem Inv.made (I:Inv X pins σ H s):Inv X pins σ (upd (upd H s.heap.objs.size (.own (s.heap.objs.size+1))) (s.heap.objs.size+1) (.ins C s.heap.objs.size []))
  { s with heap:=(s.heap.push W.emptyDict).push (W.instObj C s.heap.objs.size) }:=by
 have e1:(s.heap.push W.emptyDict).get? s.heap.objs.size=some W.emptyDict:=YI s.heap rfl
 have e2:((s.heap.push W.emptyDict).push (W.instObj C s.heap.objs.size)).get? (s.heap.objs.size+1)=some (W.instObj C s.heap.objs.size):=by
  have:=YI (s.heap.push W.emptyDict) (o:=W.instObj C s.heap.objs.size) rfl
  rwa [XU]at this
 have e3:(s.heap.push W.emptyDict).Ns s.heap.objs.size (fun _=>none):=⟨W.emptyDict, #[],_,e1,rfl,(fun e he=>absurd he (by simp)),fun _=>rfl⟩
 have I1:=I.laid (a:=s.heap.objs.size) (o:= .own (s.heap.objs.size+1)) (h':=s.heap.push W.emptyDict) (t':=s.toks) (fun b u q=>Ym _ q) (Yd _) ⟨_,e1⟩
 refine I1.laid (a:=s.heap.objs.size+1) (o:= .ins C s.heap.objs.size []) (t':=s.toks) (fun b u q=>Ym _ q) (Nat.le_of_eq (XU _ _)) ?_
 have ne:s.heap.objs.size≠s.heap.objs.size+1:=YD (Xi _)
 refine⟨by rw[aH ne,aC],YY _,ne,e2,fun _=>none,(Heap.Ns1.of_empty e3).at fun o q=>Ym _ q,fun _=>True.intro,fun y hy=>absurd rfl hy⟩
theorem b2O {prog:Program}{w:World}{env:Env}{e:Expr}{f:Str}{pos:Pos}{s:Shared}{Q:Value->Shared->Prop}(hb:attributeBase e f env (eval e env)=eval e env)
  (h:wpAny (model prog w) A (eval e env) (fun o s₁=>wpAny (model prog w) A (getAttr o f true) Q E s₁) E s):wpAny (model prog w) A (eval (.Attribute e f pos) env) Q E s:=
 Attribute_any_ h (by rw[arm_eval_Attribute,hb])
end
def c1B (K:W.Frag)(ta:TE)(f:Str):TE:=fun σ H Q=>ta σ H fun x H1=>∃a C dx fs v,x= .ref a/\H1 a=some (.ins C dx fs)/\Cls K C/\bG K C f/\fs.lookup f=some v/\Q v H1
def c1G (K:W.Frag)(ta tv:TE)(f:Str):TS:=fun D σ H=>tv σ H fun y H1=>ta σ H1 fun x H2=>∃a C dx fs,x= .ref a/\H2 a=some (.ins C dx fs)/\Cls K C/\bG K C f/\fs.length<1000/\
 D.nx σ (upd H2 a (.ins C dx (fG f y fs)))
section
variable {o value:Expr}{f:Str}{pos' tpos:Pos}{tv:TE}
def a6U (he:PE X e ta)(hb:attributeBase e f X.env (eval e X.env)=eval e X.env):PE X (.Attribute e f pos) (c1B X.K ta f):=by
 intro pins s σ H Q I h
 refine b2O hb (thn (he pins s σ H _ I h) fun u s1 hz9=>?_)
 obtain⟨x,H1,I1,rx,a,C,dx,fs,v,ex,ea,c,n,l,q⟩:=hz9
 subst ex
 obtain rfl:u=Value.ref a:=rx
 exact zF I1 ea c n l fun u' s2 I2 ru=>⟨v,H1,I2,ru,q⟩
def a6O (ha:PE X o ta)(hv:PE X value tv)(hs:swapsWith value (some (.Attribute o f pos')) pos.line X.env=pure false):PS X (.Assign [.Attribute o f pos'] value pos) (c1G X.K ta tv f):=by
 intro pins s σ H D I h
 refine plainObj_wpAny_Assign_Attribute (thn (hv pins s σ H _ I h) fun u s1 ⟨y,H1,I1,ry,q⟩=>thn (ha pins s1 σ H1 _ I1 q) fun ov s2 ⟨x,H2,I2,rx,a,C,dx,fs,ex,ea,c,n,l,q2⟩=>?_) hs
 subst ex
 obtain rfl:ov=Value.ref a:=rx
 exact yM I2 ea c n l ry fun s3 I3=>⟨σ,_,I3,q2⟩
theorem b3N {pl:Sem Bool}{m:Str}{apos:Pos}{args:List Expr}{pins:List (Addr×Obj)}{s:Shared}{σ:St}{H:Hp}{Q:Value->Shared->Prop}{te:TE}(he:PE X e te)(I:Inv X pins σ H s)
  (h :te σ H fun x H1=>∃a C dx fs g,x= .ref a/\H1 a=some (.ins C dx fs)/\Cls X.K C/\Meth X.K C m g/\fs.lookup m=none/\
   ∀s1,Inv X pins σ H1 s1->wpAny (model X.prog X.w) X.A (callWith pos (.ref g) [.ref a] (backTo pos (starEach args X.env)) (backToKw pos (keywordEach [] X.env))) Q X.xe s1)
  (ht:eval (.Call (.Attribute e m apos) args [] pos) X.env=(do
   let ov<-eval e X.env
   standAt apos.atName
   let (f,first)<-holding [ov] (getMethod ov m pl)
   callWith pos f first (backTo pos (starEach args X.env)) (backToKw pos (keywordEach [] X.env)))) :
  wpAny (model X.prog X.w) X.A (eval (.Call (.Attribute e m apos) args [] pos) X.env) Q X.xe s:=by
 refine XB (pl:=pl) (thn (he pins s σ H _ I h) fun u s1 hz9=>?_) ht
 obtain⟨x,H1,I1,rx,a,C,dx,fs,g,ex,ea,c,k,l,q⟩:=hz9
 subst ex
 obtain rfl:u=Value.ref a:=rx
 exact fQ I1 ea c k l (q s1 I1)
end
section
variable {Q:Value->Shared->Prop}{c:Value}{b:Bool}
inductive nU (K:W.Frag)(H:Hp):V->Value->Prop where
  |non:nU K H .non (.type "NoneType")
  |bl (x:Bool):nU K H (.bl x) (.type "bool")
  |int (i:Int):nU K H (.int i) (.type "int")
  |str (x:Str):nU K H (.str x) (.type "str")
  |flt (x:UInt64):nU K H (.flt x) (.type "float")
  |lst {a:Addr} {xs:List V} (e:H a=some (.lst xs)):nU K H (.ref a) (.type "list")
  |frz {a:Addr} {o:Obj} {xs:List V} (e:H a=some (.frz o (.lst xs))):nU K H (.ref a) (.type "list")
  |tup {a:Addr} {xs:List V} (e:H a=some (.tup xs)):nU K H (.ref a) (.type "tuple")
  |dK {a:Addr} {kvs:List (Key×V)} (e:H a=some (.dK kvs)):nU K H (.ref a) (.type "dict")
  |dT {a:Addr} {kvs:List (List Key×V)} (e:H a=some (.dT kvs)):nU K H (.ref a) (.type "dict")
  | ins {a C dx:Addr} {fs:List (Str×V)} (e:H a=some (.ins C dx fs)) (cl:Cls K C) (ha:W.findIn K (.ref C) "__class__"=some (some (.builtin "object.__class__")))
      (hn:W.specialIn K (.builtin "object.__class__") "__get__"=some (some (.builtin "getset_descriptor.__get__"))) (htk:W.takesIn K (.builtin "object.__class__")=some true)
      (hm:W.mroIn K C (.type "object")=some true):nU K H (.ref a) (.ref C)
theorem a3K {x:V}{t:Value}(I:Inv X pins σ H s)(rx:RelV x u)(ty:nU X.K H x t)(e:W.kitOne X.K t c=some b)(h:∀tk,Q (.bool b) { s with toks:=tk }):
  wpAny (model X.prog X.w) A (call (.builtin "isinstance") [u,c]) Q E s:=by
 cases ty with
 |non=>cases (show u=Value.none from rx);exact X1 W.kitx_none I.kIn True.intro e (fun z=>nomatch z) h
 |bl y=>cases (show u=Value.bool y from rx);exact X1 W.kitx_bool I.kIn True.intro e (fun z=>nomatch z) h
 |int i=>obtain⟨t,q⟩:=(show ∃t,u=Value.int i t from rx);cases q;exact X1 W.kitx_int I.kIn True.intro e (fun z=>nomatch z) h
 |str y=>obtain⟨t,q⟩:=(show ∃t,u=Value.str y t from rx);cases q;exact X1 W.kitx_str I.kIn True.intro e (fun z=>nomatch z) h
 |flt y=>obtain⟨t,q⟩:=(show ∃t,u=Value.float y t from rx);cases q;exact X1 W.kitx_float I.kIn True.intro e (fun z=>nomatch z) h
 | @lst a xs ea=>
  cases (show u=Value.ref a from rx)
  obtain⟨_,_,n,_,h1⟩:=(show dN X.prog X.w H s.heap a (.lst xs) from I.hok a _ ea)
  exact X1 W.kitx_list I.kIn ⟨_,h1,rfl⟩ e (fun z=>nomatch z) h
 | @frz a ob xs ea=>
  cases (show u=Value.ref a from rx)
  obtain⟨_,_,_,n,_,h1⟩:=(show dN X.prog X.w H s.heap a (.frz ob (.lst xs)) from I.hok a _ ea)
  exact X1 W.kitx_list I.kIn ⟨_,h1,rfl⟩ e (fun z=>nomatch z) h
 | @tup a xs ea=>
  cases (show u=Value.ref a from rx)
  obtain⟨_,_,_,p⟩:=(show dN X.prog X.w H s.heap a (.tup xs) from I.hok a _ ea)
  obtain⟨o,h1,h2,_⟩:=p
  exact X1 W.kitx_tuple I.kIn ⟨o,h1,h2⟩ e (fun z=>nomatch z) h
 | @dK a kvs ea=>
  cases (show u=Value.ref a from rx)
  obtain⟨_,_,vs,_,p⟩:=(show dN X.prog X.w H s.heap a (.dK kvs) from I.hok a _ ea)
  obtain⟨o,es,ep,h1,h2,_⟩:=p
  exact X1 W.kitx_dict I.kIn ⟨o,h1,h2.1⟩ e (fun z=>nomatch z) h
 | @dT a kvs ea=>
  cases (show u=Value.ref a from rx)
  obtain⟨_,_,xs,_,o,es,ep,h1,h2,_⟩:=(show dN X.prog X.w H s.heap a (.dT kvs) from I.hok a _ ea)
  exact X1 W.kitx_dict I.kIn ⟨o,h1,h2.1⟩ e (fun z=>nomatch z) h
 | @ins a C dx fs ea cl ha hn htk hm=>
  cases (show u=Value.ref a from rx)
  obtain⟨mA,O,_⟩:=pH I.hok ea
  obtain⟨od,J,_⟩:=O.look
  exact X1 (W.kitx_own (cl.get _) cl.hd ha hn htk hm) I.kIn J e (fun z=>nomatch z) h
end
structure dF (k:Nat)(A:Around):Prop where
 hd:A.handled=none
 dp:A.depth+3*k+5<recursionLimit
 un:A.units+16*k+200<cLine
def dF.mono (r:dF k A)(h:j<=k):dF j A:=⟨r.hd,by have:=r.dp;omega,by have:=r.un;omega⟩
def dF.deeper (r:dF (k+1) A)(env:Env):dF k (A.deeper env):=
 ⟨r.hd,by have:=r.dp;show A.depth+1+3*k+5<_;omega,by have:=r.un;show A.units+3+16*k+200<_;omega⟩
def yR {kw:List (Str×Value)}:(A.under (.builtin "type.__call__" ⟨.ref C::us,kw⟩)).depth=A.depth+1:=by
 first | rfl | simp[Around.under,Code.weight,Code.isCreation,Code.isGuard,Code.isCaller,Code.frames,Code.isFrame,guardIds]
def yQ {kw:List (Str×Value)}:(A.under (.builtin "type.__call__" ⟨.ref C::us,kw⟩)).units=A.units+1:=by
 first | rfl | simp[Around.under,Code.cUnits,Code.frames,Code.isFrame]
def dF.make (r:dF (k+1) A)(C:Addr)(us:List Value)(kw:List (Str×Value)):dF k (A.under (.builtin "type.__call__" ⟨.ref C::us,kw⟩)):=
 ⟨r.hd,by have:=r.dp;rw[yR];omega,by have:=r.un;rw[yQ];omega⟩
def dF.depth (r:dF k A):A.depth<recursionLimit:=by have:=r.dp;omega
def dF.units (r:dF k A):A.units+64<cLine:=by have:=r.un;omega
def a2E:TA:=fun _ H Q=>Q [] H
def b8B (ta:TE)(tr:TA):TA:=fun σ H Q=>ta σ H fun x H1=>tr σ H1 fun xs H2=>Q (x::xs) H2
section
def aB:PA X [] a2E:=fun _ _ _ _ H Q I h=>Calls.spliced_nil ⟨[],H,I,.nil,h⟩
def aA (ha:PE X e te)(hr:PA X es t)(hs:starEach (e::es) X.env=(false,eval e X.env)::starEach es X.env:=by rfl):PA X (e::es) (b8B te t):=by
 intro pos pins s σ H Q I h
 rw[hs]
 show wpAny _ _ (spliced ((false,eval e X.env)::backTo pos (starEach es X.env))) _ _ s
 refine Calls.spliced_cons (thn (ha pins s σ H _ I h) fun u s1 hz9=>?_)
 obtain⟨x,H1,I1,r1,q1⟩:=hz9
 exact thn (hr pos pins s1 σ H1 _ I1 q1) fun us s2 ⟨xs,H2,I2,r2,q2⟩=>⟨x::xs,H2,I2,.cons r1 r2,q2⟩
def c0U (t:TA):TE:=fun σ H Q=>t σ H fun xs H1=>xs.length<=sizeLine/\∀p,H1 p=none->Q (.ref p) (upd H1 p (.tup xs))
def c0Y (t:TA):TE:=fun σ H Q=>t σ H fun xs H1=>xs.length<=sizeLine/\∀p,H1 p=none->Q (.ref p) (upd H1 p (.lst xs))
def cD {x1}(h:PA X es t):PE X (.Tuple es x1 pos) (c0U t):=by
 intro pins s σ H Q I hq
 refine wpAny_Tuple_spliced (thn (h pos pins s σ H _ I hq) fun us s1 ⟨xs,H1,I1,r,z,q⟩=>⟨by rw[<-r.length];exact z,?_⟩)
 have hf:H1 s1.heap.objs.size=none:=I1.hok.fresh (Yd _)
 refine⟨.ref s1.heap.objs.size,upd H1 s1.heap.objs.size (.tup xs),I1.laid (t':=s1.toks) (fun b u e=>Ym _ e) (Yd _) ?_,rfl,q _ hf⟩
 exact⟨z,us,r,⟨_,YI _ rfl,rfl,_,rfl⟩⟩
def cZ (h:PA X es t):PE X (.List es pos) (c0Y t):=by
 intro pins s σ H Q I hq
 refine wpAny_List_spliced (thn (h pos pins s σ H _ I hq) fun us s1 ⟨xs,H1,I1,r,z,q⟩=>⟨by rw[<-r.length];exact z,?_⟩)
 have hf:H1 s1.heap.objs.size=none:=I1.hok.fresh (Yd _)
 refine⟨.ref s1.heap.objs.size,upd H1 s1.heap.objs.size (.lst xs),I1.laid (t':=s1.toks) (fun b u e=>Ym _ e) (Yd _) ?_,rfl,q _ hf⟩
 exact⟨z,us,0,r,YI _ rfl⟩
end
abbrev Sp:=List V->Hp->VK->XK->Prop
variable {sp:Sp}
abbrev CXT:=List Env->Hp->Shared->XK->Value->Shared->Prop
variable {CX:CXT}
structure rC (P:Program)(w:World)(K:W.Frag)(mg:Str->Option Value)(base:Heap)(A:Around)(outer:List Env)(s:Shared)(H:Hp):Prop where
 frames:A.frames=some outer
 mod:Mod K mg base
 bs:∀b o,base.get? b=some o->s.heap.get? b=some o/\H b=none
 bsz:base.objs.size<=s.heap.objs.size
 funs:s.heap.FunFrames base outer
 frf:∀b∈frs outer,H b=none
 hok:HOk P w H s.heap
 bare:AllBare s.gens
def CE (outer:List Env)(P:Program)(w:World)(H:Hp)(s:Shared)(Q:VK)(u:Value)(s':Shared):Prop:=
 ∃v H',s'.os=s.os/\AllBare s'.gens/\Un (frs outer) [] H H' s.heap s'.heap/\HOk P w H' s'.heap/\RelV v u/\Q v H'
def CR (CX:CXT)(outer:List Env)(P:Program)(w:World)(H:Hp)(s:Shared)(Q:VK)(E:XK)(r:Result)(s':Shared):Prop:=
 match r with
 |.ok (.ret u)=>CE outer P w H s Q u s'
 |.ok _=>False
 |.error e=>CX outer H s E e s'
structure fX (P:Program)(w:World)(K:W.Frag)(mg:Str->Option Value)(base:Heap)(CX:CXT)(k:Nat)(f:Addr)(fd:FuncData)(ps:List Str)(sp:Sp):Prop where
 len:∀vs H Q E,sp vs H Q E->vs.length=ps.length
 run:∀(A:Around)(outer:List Env)(s:Shared)(H:Hp)(args:Args)(us:List Value)(vs:List V)(Q:VK)(E:XK),dF k A->rC P w K mg base A outer s H->BindsTo s fd args (ps.zip us)->Vals vs us->sp vs H Q E->
  codeAny (model P w) A (.call (.ref f) args) (CR CX outer P w H s Q E) s
theorem fX.mono {mg:Str->Option Value}{base:Heap}(F:fX P w K mg base CX j f fd ps sp)(h:j<=k):
  fX P w K mg base CX k f fd ps sp:=⟨F.len,fun A outer s H args us vs Q E hr=>F.run A outer s H args us vs Q E (hr.mono h)⟩
theorem rC.make {mg:Str->Option Value}{base:Heap}{outer:List Env}(e:rC P w K mg base A outer s H)(C:Addr)(us:List Value)(kw:List (Str×Value)):
  rC P w K mg base (A.under (.builtin "type.__call__" ⟨.ref C::us,kw⟩)) outer s H:=⟨by first | exact e.frames | (simpa [Around.under,Code.envs,Code.isFrame,pushEnvs] using e.frames),e.mod,e.bs,e.bsz,e.funs,e.frf,e.hok,e.bare⟩
section
variable {s':Shared}
def Inv.env0 (I:Inv X pins σ H s):rC X.prog X.w X.K X.mg X.base X.A X.stack s H:=
 ⟨I.ok.frames,I.ok.mod,I.bs,Y1 I.ok.bsz I.sz,I.stack,I.stkFree,I.hok,I.bare⟩
def Inv.after {Q:VK}(I:Inv X pins σ H s)(h:CE X.stack X.prog X.w H s Q u s'):EP X pins σ Q u s':=by
 obtain⟨v,H',os,bare,un,hok,r,q⟩:=h
 obtain⟨hh,g,d,t,os'⟩:=s'
 obtain rfl:os'=s.os:=os
 exact⟨v,H',I.call (h':=hh) (g':=g) (d':=d) (t':=t) (ch:=[]) un hok bare (fun b z=>absurd z (by simp)),r,q⟩
end
def b3C (sp:Sp)(dvs:List V)(E:XK)(t:TA):TE:=fun σ H Q=>t σ H fun vs H1=>sp (vs++dvs) H1 Q E
def b3A (C:Addr)(m:Str)(sp:Sp)(dvs:List V)(E:XK)(ta:TE)(t:TA):TE:=fun σ H Q=>ta σ H fun x H1=>∃a dx fs,x= .ref a/\H1 a=some (.ins C dx fs)/\fs.lookup m=none/\
 t σ H1 fun vs H2=>sp (x::(vs++dvs)) H2 Q E
def b3B (C:Addr)(sp:Sp)(dvs:List V)(E:XK)(t:TA):TE:=fun σ H Q=>t σ H fun vs H1=>∀x dx,H1 x=none->H1 dx=none->dx≠x->
 sp (.ref x::(vs++dvs)) (upd (upd H1 dx (.own x)) x (.ins C dx [])) (fun v H2=>v= .non/\Q (.ref x) H2) E
def Binds (K:W.Frag)(fd:FuncData)(ps:List Str)(ds:List Value):Prop:=
 ∀(s:Shared)(us:List Value),K.In s.heap->(us++ds).length=ps.length->BindsTo s fd ⟨us, []⟩ (ps.zip (us++ds))
def Binds.all (h:∀us:List Value,us.length=ps.length->bindArgs fd ⟨us, []⟩=pure (ps.zip us)):Binds K fd ps []:=fun s us _ hl=>by
 rw[YQ]at hl ⊢
 exact .of_eq (h us hl)
def fV (CX:CXT)(X:Cx)(E:XK):Prop:=∀(pins:List (Addr×Obj))(σ:St)(H:Hp)(s:Shared)(e:Value)(s':Shared),Inv X pins σ H s->CX X.stack H s E e s'->X.xe e s'
section
variable {dvs:List V}{ds:List Value}{E:XK}{m:Str}{apos:Pos}{o:Expr}
theorem jT {pins:List (Addr×Obj)}{σ:St}{H:Hp}{s:Shared}{Q:VK}{us:List Value}{vs:List V}(F:fX X.prog X.w X.K X.mg X.base CX k f fd ps sp)(hr:dF k X.A)(hb:Binds X.K fd ps ds)(hd:Vals dvs ds)(hx:fV CX X E)
  (I:Inv X pins σ H s) (r:Vals vs us) (h:sp (vs++dvs) H Q E):wpAny (model X.prog X.w) X.A (call (.ref f) us) (EP X pins σ Q) X.xe s:=by
 have r2:Vals (vs++dvs) (us++ds):=r.append hd
 have hl:(us++ds).length=ps.length:=by rw[<-r2.length];exact F.len _ _ _ _ h
 refine wpAny_call (Jt (F.run X.A X.stack s H ⟨us, []⟩ (us++ds) (vs++dvs) Q E hr I.env0 (hb s us I.kIn hl) r2 h) fun r s' hq=>?_)
 cases r with
 |error e=>exact hx pins σ H s e s' I hq
 | ok fl=>
  cases fl with
  |ret u=>exact I.after hq
  |next=>exact False.elim hq
  |brk=>exact False.elim hq
  |cont=>exact False.elim hq
theorem aQ (F:fX X.prog X.w X.K X.mg X.base CX k f fd ps sp)(hr:dF k X.A)(hg:Gl X x)(hm:X.mg x=some (.ref f))(hk:W.keepIn X.K (.ref f)=true)(hb:Binds X.K fd ps ds)(hd:Vals dvs ds)(hx:fV CX X E)
  (ha:PA X (e::es) t) (hdb:(x == ("__debug__":Str))=false:=by decide) (he:starEach (e::es) X.env=(false,eval e X.env)::starEach es X.env:=by rfl) (hpl:(backTo pos (starEach es X.env)).any (·.1)=false:=by rfl) :
  PE X (.Call (.Name x p) (e::es) [] pos) (b3C sp dvs E t):=by
 intro pins s σ H Q I h
 refine Xq (kY I hg hm ?_ hdb)
 refine Jh (h₀:=X.base) I.ok.mod.kin hk (thn (ha pos pins s σ H _ I h) fun us s1 ⟨vs,H1,I1,r,q⟩=>⟨I1.kIn,?_⟩) he hpl
 exact jT F hr hb hd hx I1 r q
theorem wA (F:fX X.prog X.w X.K X.mg X.base CX k f fd ps sp)(hr:dF k X.A)(hg:Gl X x)(hm:X.mg x=some (.ref f))(hk:W.keepIn X.K (.ref f)=true)(hb:Binds X.K fd ps ds)(hd:Vals dvs ds)(hx:fV CX X E)
  (hdb:(x == ("__debug__":Str))=false:=by decide):PE X (.Call (.Name x p) [] [] pos) (b3C sp dvs E a2E):=by
 intro pins s σ H Q I h
 refine Xq (kY I hg hm ?_ hdb)
 exact W.callWith_K0 I.kIn hk (jT (us:=[]) F hr hb hd hx I .nil h)
theorem b1H {pl:Sem Bool}(he:PE X o ta)(c:Cls X.K C)(hm:Meth X.K C m f)(F:fX X.prog X.w X.K X.mg X.base CX k f fd ps sp)(hr:dF k X.A)(hb:Binds X.K fd ps ds)(hd:Vals dvs ds)(hx:fV CX X E)(ha:PA X (e::es) t)
  (hst:starEach (e::es) X.env=(false,eval e X.env)::starEach es X.env:=by rfl) (hpl:(backTo pos (starEach es X.env)).any (·.1)=false:=by rfl)
  (ht:eval (.Call (.Attribute o m apos) (e::es) [] pos) X.env=(do
   let ov<-eval o X.env
   standAt apos.atName
   let (f,first)<-holding [ov] (getMethod ov m pl)
   callWith pos f first (backTo pos (starEach (e::es) X.env)) (backToKw pos (keywordEach [] X.env))):=by rfl) :
  PE X (.Call (.Attribute o m apos) (e::es) [] pos) (b3A C m sp dvs E ta t):=by
 intro pins s σ H Q I h
 refine XB (pl:=pl) (thn (he pins s σ H _ I h) fun u s1 hz9=>?_) ht
 obtain⟨x,H1,I1,rx,a,dx,fs,ex,ea,l,q⟩:=hz9
 subst ex
 obtain rfl:u=Value.ref a:=rx
 refine fQ I1 ea c hm l ?_
 refine Jh (first:=[.ref a]) (h₀:=X.base) I.ok.mod.kin hm.kp (thn (ha pos pins s1 σ H1 _ I1 q) fun us s2 ⟨vs,H2,I2,r,q2⟩=>⟨I2.kIn,?_⟩) hst hpl
 exact jT (us:= .ref a::us) (vs:= .ref a::vs) F hr hb hd hx I2 (.cons rfl r) q2
theorem a6S {pl:Sem Bool}(he:PE X o ta)(c:Cls X.K C)(hm:Meth X.K C m f)(F:fX X.prog X.w X.K X.mg X.base CX k f fd ps sp)(hr:dF k X.A)(hb:Binds X.K fd ps ds)(hd:Vals dvs ds)(hx:fV CX X E)
  (ht:eval (.Call (.Attribute o m apos) [] [] pos) X.env=(do
   let ov<-eval o X.env
   standAt apos.atName
   let (f,first)<-holding [ov] (getMethod ov m pl)
   callWith pos f first (backTo pos (starEach [] X.env)) (backToKw pos (keywordEach [] X.env))):=by rfl) :
  PE X (.Call (.Attribute o m apos) [] [] pos) (b3A C m sp dvs E ta a2E):=by
 intro pins s σ H Q I h
 refine XB (pl:=pl) (thn (he pins s σ H _ I h) fun u s1 hz9=>?_) ht
 obtain⟨x,H1,I1,rx,a,dx,fs,ex,ea,l,q⟩:=hz9
 subst ex
 obtain rfl:u=Value.ref a:=rx
 refine fQ I1 ea c hm l ?_
 exact W.callWith_K0 (first:=[.ref a]) I1.kIn hm.kp (jT (us:=[.ref a]) (vs:=[.ref a]) F hr hb hd hx I1 (.cons rfl .nil) q)
structure Mk (K:W.Frag)(C f:Addr):Prop where
 makes:W.makesIn K C=true
 init:W.findIn K (.ref C) "__init__"=some (some (.ref f))
 fn:W.isFn K (.ref f)=true
 kp:W.keepIn K (.ref C)=true
theorem vU {pins:List (Addr×Obj)}{σ:St}{H:Hp}{s:Shared}{Q:VK}{us:List Value}{vs:List V}(M:Mk X.K C f)(F:fX X.prog X.w X.K X.mg X.base CX k f fd ps sp)(hr:dF (k+1) X.A)(hb:Binds X.K fd ps ds)(hd:Vals dvs ds)
  (hx:fV CX X E) (I:Inv X pins σ H s) (r:Vals vs us)
  (h:∀x dx,H x=none->H dx=none->dx≠x->sp (.ref x::(vs++dvs)) (upd (upd H dx (.own x)) x (.ins C dx [])) (fun v H2=>v= .non/\Q (.ref x) H2) E) :
  wpAny (model X.prog X.w) X.A (call (.ref C) us) (EP X pins σ Q) X.xe s:=by
 have hq:=h (s.heap.objs.size+1) s.heap.objs.size (I.hok.fresh (Xx _)) (I.hok.fresh (Yd _)) (YD (Xi _))
 have I2:=Inv.made (C:=C) I
 have r2:Vals (V.ref (s.heap.objs.size+1)::(vs++dvs)) (Value.ref (s.heap.objs.size+1)::(us++ds)):= .cons rfl (r.append hd)
 have hl:(Value.ref (s.heap.objs.size+1)::us++ds).length=ps.length:=by
  have e:=r2.length
  rw[F.len _ _ _ _ hq]at e
  exact e.symm
 refine wpAny_call (a7Q (f:=f) I.kIn M.makes M.init (XR.mp M.fn) (Jt (F.run _ X.stack _ _ ⟨Value.ref (s.heap.objs.size+1)::us, []⟩ (Value.ref (s.heap.objs.size+1)::(us++ds)) _ _ E (hr.make C us [])
  (I2.env0.make C us []) (hb _ (Value.ref (s.heap.objs.size+1)::us) I2.kIn hl) r2 hq) fun r s' hq'=>?_))
 cases r with
 |error e=>exact hx pins σ _ _ e s' I2 hq'
 | ok fl=>
  cases fl with
  | ret u=>
   obtain⟨v,H',I3,rv,ev,q3⟩:=I2.after hq'
   subst ev
   exact⟨rv,⟨V.ref (s.heap.objs.size+1),H',I3,rfl,q3⟩⟩
  |next=>exact False.elim hq'
  |brk=>exact False.elim hq'
  |cont=>exact False.elim hq'
theorem cG (M:Mk X.K C f)(F:fX X.prog X.w X.K X.mg X.base CX k f fd ps sp)(hr:dF (k+1) X.A)(hg:Gl X x)(hm:X.mg x=some (.ref C))(hb:Binds X.K fd ps ds)(hd:Vals dvs ds)(hx:fV CX X E)
  (ha:PA X (e::es) t) (hdb:(x == ("__debug__":Str))=false:=by decide) (he:starEach (e::es) X.env=(false,eval e X.env)::starEach es X.env:=by rfl) (hpl:(backTo pos (starEach es X.env)).any (·.1)=false:=by rfl) :
  PE X (.Call (.Name x p) (e::es) [] pos) (b3B C sp dvs E t):=by
 intro pins s σ H Q I h
 refine Xq (kY I hg hm ?_ hdb)
 refine Jh (h₀:=X.base) I.ok.mod.kin M.kp (thn (ha pos pins s σ H _ I h) fun us s1 ⟨vs,H1,I1,r,q⟩=>⟨I1.kIn,?_⟩) he hpl
 exact vU M F hr hb hd hx I1 r q
theorem mH (M:Mk X.K C f)(F:fX X.prog X.w X.K X.mg X.base CX k f fd ps sp)(hr:dF (k+1) X.A)(hg:Gl X x)(hm:X.mg x=some (.ref C))(hb:Binds X.K fd ps ds)(hd:Vals dvs ds)(hx:fV CX X E)
  (hdb:(x == ("__debug__":Str))=false:=by decide):PE X (.Call (.Name x p) [] [] pos) (b3B C sp dvs E a2E):=by
 intro pins s σ H Q I h
 refine Xq (kY I hg hm ?_ hdb)
 exact W.callWith_K0 I.kIn M.kp (vU (us:=[]) M F hr hb hd hx I .nil h)
end
section
variable {ks:List Str}{E:XK}{m:Str}{apos kpos:Pos}{o:Expr}{kws:List Keyword}{tk:TA}{nm:Option Str}
variable {g:List Value->List Value->List Value}{gV:List V->List V->List V}
end
structure iD (N P:List Str)(sc:Scope):Prop where
 kind:sc.kind= .function
 co:sc.isCoroutine=false
 gen:sc.isGenerator=false
 nd:N.Nodup
 pre:N.take P.length=P
 par:∀x∈P,sc.names.lookup x=some .local\/sc.names.lookup x=some .cell
 nofree:∀y∈sc.names,y.2≠ .free
theorem sZ:∀{binds:List (Str×Value)}{m:Str->Option Value},(∀v,(x,v)∉binds)->bindL kindOf binds m x=m x
 |[],_,_=>rfl
 | (n,v)::r,m,h=>by
  unfold bindL
  rw[sZ fun w hw=>h w (Yw _ hw)]
  split
  ·have:x≠n:=by rintro rfl;exact h v Yq
   simp[this]
  ·rfl
theorem tE:∀{binds:List (Str×Value)}{m:Str->Option Value},(∀v,(x,v)∉binds)->bindC kindOf binds m x=m x
 |[],_,_=>rfl
 | (n,v)::r,m,h=>by
  unfold bindC
  rw[tE fun w hw=>h w (Yw _ hw)]
  split
  ·rfl
  ·have:x≠n:=by rintro rfl;exact h v Yq
   simp[this]
theorem tD:∀{P:List Str}{vs:List Value}{i:Nat}{m:Str->Option Value},P.Nodup->P[i]? =some x->vs[i]? =some v->kindOf x=some .local->
  bindL kindOf (P.zip vs) m x=some v
 |[],_,_,_,_,h,_,_=>by simp at h
 |_::_, [],_,_,_,_,h,_=>by simp at h
 | p::P,w::vs,0,m,nd,h1,h2,hk=>by
  simp at h1 h2;subst h1;subst h2
  show bindL kindOf ((p,w)::P.zip vs) m p=_
  unfold bindL
  rw[sZ fun v hv=>(YW.mp nd).1 (Jk hv).1,if_pos hk]
  simp
 | p::P,w::vs,i+1,m,nd,h1,h2,hk=>by
  show bindL kindOf ((p,w)::P.zip vs) m x=_
  unfold bindL
  exact tD (i:=i) (YW.mp nd).2 (by simpa using h1) (by simpa using h2) hk
theorem tG:∀{P:List Str}{vs:List Value}{i:Nat}{m:Str->Option Value},P.Nodup->P[i]? =some x->vs[i]? =some v->kindOf x≠some .local->
  bindC kindOf (P.zip vs) m x=some v
 |[],_,_,_,_,h,_,_=>by simp at h
 |_::_, [],_,_,_,_,h,_=>by simp at h
 | p::P,w::vs,0,m,nd,h1,h2,hk=>by
  simp at h1 h2;subst h1;subst h2
  show bindC kindOf ((p,w)::P.zip vs) m p=_
  unfold bindC
  rw[tE fun v hv=>(YW.mp nd).1 (Jk hv).1,if_neg hk]
  simp
 | p::P,w::vs,i+1,m,nd,h1,h2,hk=>by
  show bindC kindOf ((p,w)::P.zip vs) m x=_
  unfold bindC
  exact tG (i:=i) (YW.mp nd).2 (by simpa using h1) (by simpa using h2) hk
def start (N:List Str)(vs:List V):St:=vs.map some++List.replicate (N.length-vs.length) none
def qT (CX:CXT)(P:Program)(w:World)(K:W.Frag)(mg:Str->Option Value)(base:Heap)(N:List Str)(qual:Str)(scope:Scope)(f:Addr)(cd:Value)(A:Around)(outer:List Env)(s:Shared)(H:Hp)(E:XK):Cx where
 prog:=P
 w:=w
 K:=K
 mg:=mg
 base:=base
 A:=A.deeper (envOfC qual scope s.heap.objs.size f cd)
 N:=N
 s₀:=s
 H₀:=H
 env:=envOfC qual scope s.heap.objs.size f cd
 outer:=outer
 stack:=envOfC qual scope s.heap.objs.size f cd::outer
 ex:=[]
 calm:=true
 fn:=fun _=>true
 pn:=[]
 xe:=fun e s'=>wpAny (model P w) (A.deeper (envOfC qual scope s.heap.objs.size f cd)) (leaving (envOfC qual scope s.heap.objs.size f cd) e) (fun _ s''=>CX outer H s E e s'') (fun e' s''=>CX outer H s E e' s'') s'
def xK {sc:Scope}{n:Nat}(h:sc.names.lookup x=some .cell):∃c,(cellsFrom n sc.names []).lookup x=some c:=by
 have q:=W.cellsFrom_some sc.names n [] (.inl h)
 exact Option.isSome_iff_exists.mp q
theorem sO {CX:CXT}{P:Program}{w:World}{K:W.Frag}{mg:Str->Option Value}{base:Heap}{N ps:List Str}{qual:Str}{scope:Scope}{f:Addr}{cd:Value}{A:Around}{outer:List Env}{s s1:Shared}{H:Hp}{E:XK}{us:List Value}{vs:List V}
  (S:iD N ps scope) (hd:A.handled=none) (e0:rC P w K mg base A outer s H) (hl:vs.length=ps.length) (r:Vals vs us)
  (x:InCallC s s.heap.objs.size (bindL (envOfC qual scope s.heap.objs.size f cd).kindOf (ps.zip us) fun _=>none) (cellsFrom (s.heap.objs.size+1) scope.names []) (bindC (envOfC qual scope s.heap.objs.size f cd).kindOf (ps.zip us) fun _=>none) s1) :
  Inv (qT CX P w K mg base N qual scope f cd A outer s H E) [] (start N vs) H s1:=by
 have hpl:ps.length<=N.length:=by have:=YT List.length S.pre;rw[Yu]at this;omega
 obtain⟨h1,tk,rfl,hk⟩:=x.done
 have noA:∀b:Addr,b∉(qT CX P w K mg base N qual scope f cd A outer s H E).ex:=fun b z=>absurd (show b∈([]:List Addr) from z) (by simp)
 refine⟨⟨e0.mod,S.kind,rfl,rfl,Yd _,fun y z c h1 h2=>?_,fun y hy=>?_,fun y c _ h=>?_,fun _=>hd,Around.frames_deeper e0.frames,.inr ⟨rfl,rfl⟩,fun b z=>absurd z (noA b),e0.bs,e0.bsz,fun b _ _=>noA b,fun b z=>absurd z (noA b),e0.funs,e0.frf⟩,
  rfl,e0.bare,Un.kept hk,⟨_,x.toInCall.ns,fun i y v h1 h2 h3=>?_⟩,fun y c h=>⟨_,x.cell y c h⟩,e0.hok.fresh (Yd _),fun y c h=>?_,fun p hp=>absurd (show p∈([]:List (Addr×Obj)) from hp) (by simp),e0.hok.kept hk,?_⟩
 ·exact name_of_addr x.apart (Xa h1) (Xa h2)
 ·have hy:scope.names.lookup y=some .cell\/scope.names.lookup y=some .free:=hy
  rcases hy with hy | hy
  ·exact xK hy
  ·exact absurd rfl (S.nofree _ (Xa hy))
 ·exact YV (x.above y c (Xa h))
 ·have hi:i<vs.length:=by
   unfold start at h2
   by_cases hi:i<vs.length
   ·exact hi
   ·rw[YF (by simpa using hi)]at h2
    rw[X4]at h2
    split at h2 <;> cases h2
  have ha:vs[i]? =some v:=by
   unfold start at h2
   rw[YL (by simpa using hi),Yk]at h2
   cases e:vs[i]? with
   |none=>rw[e]at h2;cases h2
   |some a=>rw[e]at h2;cases h2;rfl
  obtain⟨u,hu,rv⟩:=r.get ha
  have hp:ps[i]? =some y:=by
   rw[<-S.pre,XA (by omega)];exact h1
  have ndP:ps.Nodup:=by rw[<-S.pre];exact S.nd.sublist (List.take_sublist _ _)
  refine⟨u,rv,?_⟩
  rcases S.par y (Yx hp) with k | k
  ·exact .inl ⟨k,tD ndP hp hu k⟩
  ·obtain⟨c,e⟩:=xK (n:=s.heap.objs.size+1) k
   refine .inr ⟨.inl k,c,e,?_⟩
   have q:=x.cell y c e
   rw[tG ndP hp hu (by show scope.names.lookup y≠_;rw[k];decide)]at q
   exact q
 ·exact e0.hok.fresh (YV (x.above y c (Xa h)))
 ·unfold start
  show _=N.length
  rw[Yb,Ya,Yz]
  omega
theorem b9U {CX:CXT}{P:Program}{w:World}{K:W.Frag}{mg:Str->Option Value}{base:Heap}{k:Nat}{f:Addr}{name qual:Str}{params:Arguments}{body:List Stmt}{scope:Scope}{dV kV doc pm cdv ct oc:Value}{an od:Option Addr}
  {osl:Array (Option Value)} {N ps:List Str} {sp:Sp} (lk:K.lookup f=some ⟨oc,od,.func (W.fnOf name qual params body scope dV kV doc pm an cdv ct),osl⟩) (hcd:W.codeIn K cdv qual=true) (S:iD N ps scope)
  (len:∀vs H Q E,sp vs H Q E->vs.length=ps.length)
  (hbody:∀(A:Around)(outer:List Env)(s:Shared)(H:Hp)(vs:List V)(Q:VK)(E:XK),dF k (A.deeper (envOfC qual scope s.heap.objs.size f cdv))->sp vs H Q E->
   ∃t,PSs (qT CX P w K mg base N qual scope f cdv A outer s H E) body t/\t { nx:=fun _ H'=>Q .non H',rt:=Q } (start N vs) H) :
  fX P w K mg base CX (k+1) f (W.fnOf name qual params body scope dV kV doc pm an cdv ct) ps sp:=by
 refine⟨len,fun A outer s H args us vs Q E hr e0 hb r hsp=>?_⟩
 have hl:=len _ _ _ _ hsp
 have KX:K.In s.heap:=e0.mod.kin.keeps fun b o e=>(e0.bs b o e).1
 have lim:s.heap.NoLimit:=e0.mod.nolimit.keeps fun b o e=>(e0.bs b o e).1
 have hkind:∀y∈ps.zip us,scope.names.lookup y.1=some .local\/(scope.names.lookup y.1=some .cell/\((cellsFrom (s.heap.objs.size+1) scope.names []).lookup y.1).isSome=true):=fun ⟨n,v⟩ hy=>by
  rcases S.par n (Jk hy).1 with q | q
  ·exact .inl q
  ·exact .inr ⟨q,W.cellsFrom_some _ _ _ (.inl q)⟩
 refine codeAny_call_function hr.depth (KX _ _ lk) rfl S.co S.gen rfl (W.codeRec_of KX hcd) (hb _ _ _ _ ?_)
 refine wpAny_newFunctionEnv_cells S.kind hkind fun env he s1 x=>?_
 subst he
 refine⟨lim.keeps x.toInCall.keep,codeAny_func ?_⟩
 obtain⟨t,ht,hq⟩:=hbody A outer s H vs Q E (hr.deeper _) hsp
 have I:Inv (qT CX P w K mg base N qual scope f cdv A outer s H E) [] (start N vs) H s1:=sO S hr.hd e0 hl r x
 refine Y5 (ht [] s1 (start N vs) H _ I hq) (fun fl s' hs=>?_) fun e s' hs=>hs
 have fin:∀{σ':St}{H':Hp}{v:V}{u:Value},Inv (qT CX P w K mg base N qual scope f cdv A outer s H E) [] σ' H' s'->RelV v u->Q v H'->CE outer P w H s Q u s':=
  fun {σ' H' v u} J rv q=>⟨v,H',J.os,J.bare,J.base,J.hok,rv,q⟩
 cases fl with
 | ret u=>
  obtain⟨v,σ',H',J,rv,q⟩:=hs
  exact fin J rv q
 | next=>
  obtain⟨σ',H',J,q⟩:=hs
  exact fin (v:=V.non) (u:=Value.none) J rfl q
 | brk=>
  obtain⟨_,_,_,q⟩:=hs
  exact False.elim q
 | cont=>
  obtain⟨_,_,_,q⟩:=hs
  exact False.elim q
section
variable {id T:String}{r:List V->Hp->VK->Prop}
def tCB (r:List V->Hp->VK->Prop)(t:TA):TE:=fun σ H Q=>t σ H fun vs H1=>r vs H1 Q
theorem aY (hc:fD X (.builtin id) r)(hg:Gl X x)(hm:X.mg x=none)(hv:bootBuiltins x=some (.builtin id))(ha:PA X (e::es) t)(hn:x≠"__name__":=by decide)(hdb:(x == ("__debug__":Str))=false:=by decide)
  (he:starEach (e::es) X.env=(false,eval e X.env)::starEach es X.env:=by rfl) (hpl:(backTo pos (starEach es X.env)).any (·.1)=false:=by rfl):PE X (.Call (.Name x p) (e::es) [] pos) (tCB r t):=by
 intro pins s σ H Q I h
 refine Xq (oG I hg hm hv ?_ hn hdb)
 exact PyProof.Rows.callWith_builtin1 (thn (ha pos pins s σ H _ I h) fun us s1 ⟨vs,H1,I1,r1,q1⟩=>hc pins s1 σ H1 vs us Q I1 r1 q1) he hpl
theorem dZ (hc:fD X (.type T) r)(hg:Gl X x)(hm:X.mg x=none)(hv:bootBuiltins x=some (.type T))(ha:PA X (e::es) t)(hn:x≠"__name__":=by decide)(hdb:(x == ("__debug__":Str))=false:=by decide)
  (he:starEach (e::es) X.env=(false,eval e X.env)::starEach es X.env:=by rfl) (hpl:(backTo pos (starEach es X.env)).any (·.1)=false:=by rfl):PE X (.Call (.Name x p) (e::es) [] pos) (tCB r t):=by
 intro pins s σ H Q I h
 refine Xq (oG I hg hm hv ?_ hn hdb)
 exact XO (thn (ha pos pins s σ H _ I h) fun us s1 ⟨vs,H1,I1,r1,q1⟩=>hc pins s1 σ H1 vs us Q I1 r1 q1) he hpl
end
end L2
namespace HT
open PySem PyProof.Rows
section
open PySem.SeqAt
open PySem.AutoSeq1 (wpAny_loadPart')
open PySem.MeetsSeq PySem.MeetsSeq2 PySem.MeetsSeq3
end
section
variable {prog:Program}{w:World}{A:Around}{E:Value->Shared->Prop}{s:Shared}
def sIx (n d:Nat):Option Int->Nat
 |none=>d
 |some v=>if v<0 then (v+(n:Int)).toNat else min v.toNat n
def sIx_none (n d:Nat):sIx n d none=d:=rfl
def sIx_nat (n d k:Nat):sIx n d (some (k:Int))=min k n:=by
 show (if (k:Int)<0 then ((k:Int)+(n:Int)).toNat else min (k:Int).toNat n)=min k n
 rw[if_neg (by omega),YG]
end
end HT
namespace L2
open PySem PySem.Spec PyProof.Rows
variable {α:Type}{pins:List (Addr×Obj)}{σ:St}{H:Hp}{s:Shared}{xs:List V}{A:Around}{x:V}{v:Value}{X:Cx}
abbrev TO:=St->Hp->(Option Int->Hp->Prop)->Prop
def PO (X:Cx)(e:Option Expr)(t:TO):Prop:=
 ∀ (pins:List (Addr×Obj))(s:Shared)(σ:St)(H:Hp)(Q:Option Int->Hp->Prop),Inv X pins σ H s->t σ H Q->
  wpAny (model X.prog X.w) X.A (evalPart e X.env) (fun u s'=>∃o H',Inv X pins σ H' s'/\IsPart u o/\Q o H') X.xe s
def a9V:TO:=fun _ H Q=>Q none H
def b7W (t:TE):TO:=fun σ H Q=>t σ H fun x H1=>∃i,x= .int i/\Q (some i) H1
def intsAre_of {ns:List Int}:∀{us:List Value},Vals (ns.map V.int) us->IntsAre us ns:=by
 induction ns with
 |nil=>intro us r;rw[List.map_nil]at r;cases r;exact .nil
 | cons n ns ih=>
  intro us r
  rw[YR]at r
  cases r with
  | cons r1 r2=>
   obtain⟨t,e⟩:=r1
   subst e
   exact .cons n t (ih r2)
section
variable {e:Expr}{te:TE}{lo hi:Option Expr}{tl th:TO}{pos p2:Pos}
def a0S:PO X none a9V:=by
 intro pins s σ H Q I h
 rw[evalPart_none]
 exact Y6 ⟨none,H,I,.none,h⟩
def b1E (h:PE X e te):PO X (some e) (b7W te):=by
 intro pins s σ H Q I hw
 rw[evalPart_some]
 refine thn (h pins s σ H _ I hw) fun u s1 hz9=>?_
 obtain⟨x,H1,I1,r1,q1⟩:=hz9
 obtain⟨i,rfl,q⟩:=q1
 obtain⟨t,rfl⟩:=r1
 exact⟨some i,H1,I1,.int i t,q⟩
def SlR (X:Cx)(r:V->Option Int->Option Int->Hp->VK->Prop):Prop:=
 ∀ (pins:List (Addr×Obj))(s:Shared)(σ:St)(H:Hp)(x:V)(v vl vu:Value)(lo hi:Option Int)(sl:Addr)(Q:VK),Inv X pins σ H s->RelV x v->s.heap.IsSliceOf sl vl vu .none->IsPart vl lo->IsPart vu hi->r x lo hi H Q->
  ∃T id,typeLookup (.type T) "__getitem__"=pure (some (.builtin id))/\s.TypeIs v T/\wpAny (model X.prog X.w) X.A (getItem v (.ref sl)) (EP X pins σ Q) X.xe s
def tSl (r:V->Option Int->Option Int->Hp->VK->Prop)(te:TE)(tl th:TO):TE:=fun σ H Q=>te σ H fun x H1=>tl σ H1 fun l H2=>th σ H2 fun u H3=>r x l u H3 Q
def jU {r:V->Option Int->Option Int->Hp->VK->Prop}(hr:SlR X r)(he:PE X e te)(hl:PO X lo tl)(hu:PO X hi th):PE X (.Subscript e (.Slice lo hi none p2) pos) (tSl r te tl th):=by
 intro pins s σ H Q I h
 refine Subscript_ (thn (he pins s σ H _ I h) fun v s1 hz9=>?_)
 obtain⟨x,H1,I1,r1,q1⟩:=hz9
 refine wpAny_Slice (thn (hl pins s1 σ H1 _ I1 q1) fun vl s2 ⟨l,H2,I2,pl,q2⟩=>thn (hu pins s2 σ H2 _ I2 q2) fun vu s3 ⟨u,H3,I3,pu,q3⟩=>?_)
 rw[evalPart_none]
 refine Y6 ?_
 have I4:Inv X pins σ H3 { s3 with heap:=s3.heap.push { cls:= .type "slice",data:= .fields #[vl,vu,.none] } }:=I3.kept (t':=s3.toks) fun b ob q=>Ym _ q
 obtain⟨T,id,hT,ht,hg⟩:=hr pins { s3 with heap:=s3.heap.push { cls:= .type "slice",data:= .fields #[vl,vu,.none] } } σ H3 x v vl vu l u s3.heap.objs.size Q I4 r1 (Heap.IsSliceOf.new ..) pl pu q3
 show wpAny (model X.prog X.w) X.A (subscriptTail e (.Slice lo hi none p2) v (.ref s3.heap.objs.size)) (EP X pins σ Q) X.xe { s3 with heap:=s3.heap.push { cls:= .type "slice",data:= .fields #[vl,vu,.none] } }
 exact tail_any (ops:=[.ref s3.heap.objs.size,v]) ht hT hg (by with_unfolding_all rfl)
def jM (xs:List V)(lo hi:Option Int):List V:=(xs.drop (HT.sIx xs.length 0 lo)).take (HT.sIx xs.length xs.length hi-HT.sIx xs.length 0 lo)
def xH (xs:List V)(lo hi:Option Int):(jM xs lo hi).length<=xs.length:=by
 unfold jM
 rw[Yu,XE]
 omega
end
def ixN (n:Nat)(i:Int):Option Nat:=if 0<=i then (if i<n then some i.toNat else none) else if -(n:Int)<=i then some (i+n).toNat else none
def atI {α:Type}(xs:List α)(i:Int):Option α:=(ixN xs.length i).bind fun j=>xs[j]?
def a1G {n:Nat}{i:Int}{j:Nat}(h:ixN n i=some j):seqIndex? i n=some j/\j<n/\ -(n:Int)<=i/\i<n:=by
 unfold ixN at h
 by_cases h0:0<=i
 ·rw [if_pos h0]at h
  by_cases h1:i<n
  ·rw[if_pos h1]at h
   have e:i.toNat=j:=Yp h
   exact⟨by rw[seqIndex_of h0 h1,e],by omega,by omega,h1⟩
  ·rw[if_neg h1]at h;cases h
 ·rw [if_neg h0]at h
  by_cases h1: -(n:Int)<=i
  ·rw[if_pos h1]at h
   have e:(i+n).toNat=j:=Yp h
   exact⟨by rw[seqIndex_neg (by omega) h1,e],by omega,h1,by omega⟩
  ·rw[if_neg h1]at h;cases h
def a1V {xs:List α}{i:Int}{v:α}(h:atI xs i=some v):∃j,seqIndex? i xs.length=some j/\xs[j]? =some v/\j<xs.length/\ -(xs.length:Int)<=i/\i<xs.length:=by
 unfold atI at h
 cases e:ixN xs.length i with
 |none=>rw[e]at h;cases h
 | some j=>
  rw[e]at h
  obtain⟨h1,h2,h3,h4⟩:=a1G e
  exact⟨j,h1,h,h2,h3,h4⟩
def cO {xs:List α}{j:Nat}{v:α}(h:xs[j]? =some v):atI xs (j:Int)=some v:=by
 have hj:j<xs.length:=(Yg.mp h).1
 have e:ixN xs.length (j:Int)=some j:=by
  unfold ixN
  rw[if_pos (by omega),if_pos (by omega)];simp
 unfold atI;rw[e];exact h
def b2Q (b:Expr):Prop:=∀o i,subscripted b false o i=operate [o,i] (getItem o i)
def IxR (X:Cx)(r:R2):Prop:=
 ∀ (value slice:Expr)(pins:List (Addr×Obj))(s:Shared)(σ:St)(H:Hp)(x y:V)(v u:Value)(Q:VK),Inv X pins σ H s->RelV x v->RelV y u->r x y H Q->
  subscripted slice false v u=operate [v,u] (getItem v u)->wpAny (model X.prog X.w) X.A (subscriptTail value slice v u) (EP X pins σ Q) X.xe s
def MtR (X:Cx)(id:String)(r:V->List V->Hp->VK->Prop):Prop:=
 ∀ (pins:List (Addr×Obj))(s:Shared)(σ:St)(H:Hp)(x:V)(xs:List V)(v:Value)(us:List Value)(Q:VK),Inv X pins σ H s->RelV x v->Vals xs us->r x xs H Q->
  wpAny (model X.prog X.w) X.A (call (.builtin id) (v::us)) (EP X pins σ Q) X.xe s
section
variable {a b:Expr}{ta tb:TE}{pos:Pos}
def bK {r:R2}(hr:IxR X r)(ha:PE X a ta)(hb:PE X b tb)(hs:b2Q b):PE X (.Subscript a b pos) (tOp r ta tb):=by
 intro pins s σ H Q I h
 exact Subscript_ (b7I ha hb I h fun v u s2 x y H2 I2 rx ry q=>hr a b pins s2 σ H2 x y v u Q I2 rx ry q (hs _ _))
def c1L (K:W.Frag):R2:=fun x y H Q=>∃p xs i v,x= .ref p/\y= .int i/\SqL K H p xs/\atI xs i=some v/\Q v H
def c1K (K:W.Frag):R2:=fun x y H Q=>∃p xs i v,x= .ref p/\y= .int i/\SqT K H p xs/\atI xs i=some v/\Q v H
def b1X:IxR X (c1L X.K):=by
 intro value slice pins s σ H x y v u Q I rx ry h hs
 obtain⟨p,xs,i,z,rfl,rfl,hq,he,q⟩:=h
 cases rx
 obtain⟨t,rfl⟩:=ry
 obtain⟨its,r,pl,hz⟩:=I.list hq
 obtain⟨j,h1,h2,h3,h4,h5⟩:=a1V he
 obtain⟨w,ew,rw'⟩:=r.get h2
 have hl:=r.length
 have hn:=uB
 have fin:EP X pins σ Q w s:=⟨z,H,I,rw',q⟩
 by_cases h0:0<=i
 ·have hj:i.toNat=j:=by
   rw[seqIndex_of h0 h5]at h1
   exact Yp h1
  exact item_listR pl.isList h0 (by omega) (by rw[hj];simpa using ew) fin hs
 ·have hj:(i+(its.toArray.size:Int)).toNat=j:=by
   rw[seqIndex_neg (by omega) h4]at h1
   rw[Yt,<-hl]
   exact Yp h1
  exact subscriptTail_builtinR (x:=w) pl.isList.typeIs slot_list_getitem.lookup
   (wpAny_getItem_list_neg (Q:=fun r s'=>r=w/\EP X pins σ Q r s') pl.isList (by omega) (by rw[Yt] <;> omega) (by omega) (by rw[hj];simpa using ew) ⟨rfl,fin⟩) hs
def b6H:IxR X (c1K X.K):=by
 intro value slice pins s σ H x y v u Q I rx ry h hs
 obtain⟨p,xs,i,z,rfl,rfl,hq,he,q⟩:=h
 cases rx
 obtain⟨t,rfl⟩:=ry
 obtain⟨its,r,pl,hz⟩:=I.tuple hq
 obtain⟨j,h1,h2,h3,h4,h5⟩:=a1V he
 obtain⟨w,ew,rw'⟩:=r.get h2
 have hl:=r.length
 have hn:=uB
 have fin:EP X pins σ Q w s:=⟨z,H,I,rw',q⟩
 exact subscriptTail_builtinR (x:=w) pl.typeIs slot_tuple_getitem.lookup
  (getItem_tuple (j:=j) (Q:=fun r s'=>r=w/\EP X pins σ Q r s') pl (by omega) (by omega) (by rw[Yt,<-hl];exact h1) (by simpa using ew) ⟨rfl,fin⟩) hs
def yP (its:List Value)(n j:Nat)(u:Value):Obj.mapSeq (·.setIfInBounds j u) { cls:= .type "list",data:= .seq its.toArray n }={ cls:= .type "list",data:= .seq (its.set j u).toArray n }:=by
 simp[Obj.mapSeq]
theorem Inv.lst {p:Addr}(I:Inv X pins σ H s)(h:H p=some (.lst xs)):
  ∃(its:List Value)(n:Nat),Vals xs its/\s.heap.get? p=some { cls:= .type "list",data:= .seq its.toArray n }/\xs.length<=sizeLine:=by
 obtain⟨z,its,n,r,e⟩:=I.hok p _ h
 exact⟨its,n,r,e,z⟩
theorem Inv.lstUpd {pins:List (Addr×Obj)}{σ:St}{H:Hp}{s:Shared}{p:Addr}{xs ys:List V}{its its':List Value}{n n':Nat}{f:Obj->Obj}(I:Inv X pins σ H s)(h:H p=some (.lst xs))
  (ho:s.heap.get? p=some { cls:= .type "list",data:= .seq its.toArray n }) (hf:f { cls:= .type "list",data:= .seq its.toArray n }={ cls:= .type "list",data:= .seq its'.toArray n' }) (r:Vals ys its') (hz:ys.length<=sizeLine) (t:Nat) :
  Inv X pins σ (upd H p (.lst ys)) { s with heap:=s.heap.update p f,toks:=t }:=by
 have e:(s.heap.update p f).get? p=some { cls:= .type "list",data:= .seq its'.toArray n' }:=by
  rw[Heap.get?_update_self f ho (by rw[hf] <;> rfl),hf]
 refine I.write (x:=p) (e:=p) (by rw[h];trivial) (.inl rfl) (fun b u hb q=>(Heap.get?_update_other _ _ (Ne.symm hb)).trans q) ⟨_,e⟩ ?_
 exact⟨hz,its',n',r,e⟩
def b8O:V->V->V->Hp->(Hp->Prop)->Prop:=fun o i v H Q=>∃p xs k j,o= .ref p/\i= .int k/\H p=some (.lst xs)/\ixN xs.length k=some j/\Q (upd H p (.lst (xs.set j v)))
def set_list:b7O X b8O:=by
 intro pins s σ H o i v ov iv u Q I ro ri rv h
 obtain⟨p,xs,k,j,rfl,rfl,hp,hj,q⟩:=h
 cases ro
 obtain⟨t,rfl⟩:=ri
 obtain⟨its,n,r,ho,hz⟩:=I.lst hp
 obtain⟨h1,h2,h3,h4⟩:=a1G hj
 have hl:=r.length
 have hn:=uB
 have I':Inv X pins σ (upd H p (.lst (xs.set j v))) { s with heap:=s.heap.update p (Obj.mapSeq (·.setIfInBounds j u)) }:=
  I.lstUpd hp ho (yP its n j u) (r.set rv j) (by rw[Xs];exact hz) s.toks
 by_cases h0:0<=k
 ·have hk:k.toNat=j:=by
   rw[seqIndex_of h0 h4]at h1
   exact Yp h1
  exact W.ki_setAt ho h0 (by omega) (by rw[Yt,<-hl];exact h4) (by rw[hk];exact⟨_,I',q⟩)
 ·have hk:(k+(its.toArray.size:Int)).toNat=j:=by
   rw[seqIndex_neg (by omega) h3]at h1
   rw[Yt,<-hl]
   exact Yp h1
  exact W.ki_setBack ho (by omega) (by rw[Yt,<-hl];exact h3) (by omega) (by rw[hk];exact⟨_,I',q⟩)
def tU (lo hi:Option Int)(n:Nat):(sliceBounds lo hi none n).1=((HT.sIx n 0 lo:Nat):Int)/\(sliceBounds lo hi none n).2.1=((HT.sIx n n hi:Nat):Int)/\(sliceBounds lo hi none n).2.2=1:=by
 refine⟨?_,?_,rfl⟩
 ·cases lo with
  |none=>simp[sliceBounds,HT.sIx]
  | some i=>
   simp only[sliceBounds,HT.sIx,Option.getD_none,show (1:Int) > 0 by decide,if_true]
   by_cases h:i<0
   ·simp only[h,if_true] <;> omega
   ·simp only[h,if_false] <;> omega
 ·cases hi with
  |none=>simp[sliceBounds,HT.sIx]
  | some i=>
   simp only[sliceBounds,HT.sIx,Option.getD_none,show (1:Int) > 0 by decide,if_true]
   by_cases h:i<0
   ·simp only[h,if_true] <;> omega
   ·simp only[h,if_false] <;> omega
def rD (its:List Value)(lo hi:Option Int):slicePick its.toArray lo hi none=((its.drop (HT.sIx its.length 0 lo)).take (HT.sIx its.length its.length hi-HT.sIx its.length 0 lo)).toArray:=by
 obtain⟨h1,h2,h3⟩:=tU lo hi its.toArray.size
 unfold slicePick
 rw[h1,h2,h3]
 simp only[sliceRange_one,pick_run,Yt] <;> rfl
def c1H (K:W.Frag):V->Option Int->Option Int->Hp->VK->Prop:=fun x lo hi H Q=>∃a xs,x= .ref a/\SqL K H a xs/\∀p,H p=none->Q (.ref p) (upd H p (.lst (jM xs lo hi)))
def b0P:SlR X (c1H X.K):=by
 intro pins s σ H x v vl vu lo hi sl Q I rx hs pl pu h
 obtain⟨a,xs,rfl,hx,q⟩:=h
 cases rx
 obtain⟨its,r,ht,hz⟩:=I.list hx
 have hlen:=r.length
 refine⟨"list",_,slot_list_getitem.lookup,ht.isList.typeIs,?_⟩
 refine wpAny_getItem_list_slice ht.isList hs pl pu .none (by simp) ?_ (by rw[Yt] <;> omega)
 rw[rD,<-hlen]
 refine⟨.ref s.heap.objs.size,_,I.laid (t':=s.toks) (o:= .lst (jM xs lo hi)) (fun b ob q=>Ym _ q) (Yd _) ?_,rfl,q _ (I.hok.fresh (Yd _))⟩
 exact⟨Y1 (xH xs lo hi) hz,_,0,(r.drop (HT.sIx xs.length 0 lo)).take (HT.sIx xs.length xs.length hi-HT.sIx xs.length 0 lo),YI _ rfl⟩
def nG:V->Bool
 |.non=>true
 |.bl _=>true
 |.int _=>true
 |.str _=>true
 |_=>false
def eqV:V->V->Bool
 |.non,.non=>true
 |.bl a,.bl b=>a == b
 |.bl a,.int b=>(if a then 1 else 0) == b
 |.int a,.bl b=>a == (if b then 1 else 0)
 |.int a,.int b=>a == b
 |.str a,.str b=>a == b
 |_,_=>false
def b6P {y:V}{u:Value}(ry:RelV y u)(rx:RelV x v)(fy:nG y=true)(fx:nG x=true):SeqAt.EqAt A s u v (eqV y x):=by
 cases y with
 | non=>
  cases ry
  cases x with
  |non=>cases rx;exact SeqAt.EqAt.same _
  |bl b=>cases rx;exact SeqAt.EqAt.none_bool b
  |int b=>obtain⟨t,rfl⟩:=rx;exact SeqAt.EqAt.none_int b t
  |str b=>obtain⟨t,rfl⟩:=rx;exact SeqAt.EqAt.none_str b t
  |_=>exact absurd (show false=true from fx) Ys
 | bl a=>
  cases ry
  cases x with
  |non=>cases rx;exact SeqAt.EqAt.bool_none a
  |bl b=>cases rx;exact SeqAt.EqAt.bool_bool a b
  |int b=>obtain⟨t,rfl⟩:=rx;exact SeqAt.EqAt.bool_int a b t
  |str b=>obtain⟨t,rfl⟩:=rx;exact SeqAt.EqAt.bool_str a b t
  |_=>exact absurd (show false=true from fx) Ys
 | int a=>
  obtain⟨t',rfl⟩:=ry
  cases x with
  |non=>cases rx;exact SeqAt.EqAt.int_none a t'
  |bl b=>cases rx;exact SeqAt.EqAt.int_bool a t' b
  |int b=>obtain⟨t,rfl⟩:=rx;exact SeqAt.EqAt.int_int a t' b t
  |str b=>obtain⟨t,rfl⟩:=rx;exact SeqAt.EqAt.int_str a t' b t
  |_=>exact absurd (show false=true from fx) Ys
 | str a=>
  obtain⟨t',rfl⟩:=ry
  cases x with
  |non=>cases rx;exact SeqAt.EqAt.str_none a t'
  |bl b=>cases rx;exact SeqAt.EqAt.str_bool a t' b
  |int b=>obtain⟨t,rfl⟩:=rx;exact SeqAt.EqAt.str_int a t' b t
  |str b=>obtain⟨t,rfl⟩:=rx;exact SeqAt.EqAt.str_str a t' b t
  |_=>exact absurd (show false=true from fx) Ys
 |_=>exact absurd (show false=true from fy) Ys
def eqU (x:V)(u:Value):Bool:=match u with
 |.none=>eqV .non x
 |.bool b=>eqV (.bl b) x
 |.int i _=>eqV (.int i) x
 |.str z _=>eqV (.str z) x
 |_=>false
def a8M {y:V}{u:Value}(r:RelV y u)(f:nG y=true):eqU x u=eqV y x:=by
 cases y with
 |non=>cases r;rfl
 |bl b=>cases r;rfl
 |int i=>obtain⟨t,rfl⟩:=r;rfl
 |str z=>obtain⟨t,rfl⟩:=r;rfl
 |_=>exact absurd (show false=true from f) Ys
theorem nR:∀{xs:List V}{us:List Value},Vals xs us->xs.all nG=true->us.any (eqU x)=xs.any fun y=>eqV y x
 |_,_,.nil,_=>rfl
 | y::xs,u::us,.cons r t,f=>by
  rw[XV,XF]at f
  rw[Jf,Jf,a8M r f.1,nR t f.2]
theorem jV (rx:RelV x v)(fx:nG x=true):∀{xs:List V}{us:List Value},Vals xs us->xs.all nG=true->∀u∈us,SeqAt.EqAt A s u v (eqU x u)
 |_,_,.nil,_=>fun u hu=>by cases hu
 | y::xs,u::us,.cons r t,f=>fun u' hu=>by
  rw[XV,XF]at f
  rcases YH.mp hu with rfl | hu
  ·rw[a8M r f.1];exact b6P r rx f.1 fx
  ·exact jV rx fx t f.2 u' hu
def inV (x:V)(xs:List V):Bool:=xs.any fun y=>eqV y x
def rIn (K:W.Frag)(neg:Bool):R2:=fun x y H Q=>∃p xs,y= .ref p/\(SqL K H p xs\/SqT K H p xs)/\nG x=true/\xs.all nG=true/\Q (.bl (if neg then !inV x xs else inV x xs)) H
def a2V:OpR X (compareOp .In) (rIn X.K false):=by
 intro pins s σ H x y v u Q I rx ry h
 obtain⟨p,xs,rfl,hq,fx,fs,q⟩:=h
 cases ry
 rcases hq with hq | hq
 ·obtain⟨its,r,pl,hz⟩:=I.list hq
  refine SeqAt.in_listAt (eqU x) pl.isList (fun w hw=>jV rx fx r fs w (by simpa using hw)) ⟨.bl _,H,I,rfl,?_⟩
  rw[show its.toArray.any (eqU x)=its.any (eqU x) by simp,nR r fs]
  exact q
 ·obtain⟨its,r,pl,hz⟩:=I.tuple hq
  refine SeqAt.in_tupleAt (eqU x) pl (fun w hw=>jV rx fx r fs w (by simpa using hw)) ⟨.bl _,H,I,rfl,?_⟩
  rw[show its.toArray.any (eqU x)=its.any (eqU x) by simp,nR r fs]
  exact q
def tW:OpR X (compareOp .NotIn) (rIn X.K true):=by
 intro pins s σ H x y v u Q I rx ry h
 obtain⟨p,xs,rfl,hq,fx,fs,q⟩:=h
 cases ry
 rcases hq with hq | hq
 ·obtain⟨its,r,pl,hz⟩:=I.list hq
  refine SeqAt.notIn_listAt (eqU x) pl.isList (fun w hw=>jV rx fx r fs w (by simpa using hw)) ⟨.bl _,H,I,rfl,?_⟩
  rw[show its.toArray.any (eqU x)=its.any (eqU x) by simp,nR r fs]
  exact q
 ·obtain⟨its,r,pl,hz⟩:=I.tuple hq
  refine SeqAt.notIn_tupleAt (eqU x) pl (fun w hw=>jV rx fx r fs w (by simpa using hw)) ⟨.bl _,H,I,rfl,?_⟩
  rw[show its.toArray.any (eqU x)=its.any (eqU x) by simp,nR r fs]
  exact q
def uL:fD X (.builtin "len") (fun xs H Q=>∃p ys,xs= [.ref p]/\(SqL X.K H p ys\/SqT X.K H p ys)/\Q (.int ys.length) H):=by
 intro pins s σ H xs us Q I r h
 obtain⟨p,ys,rfl,hq,q⟩:=h
 obtain⟨u,rfl,rx⟩:=vals1 r
 cases rx
 have hn:=uB
 rcases hq with hq | hq
 ·obtain⟨its,r',pl,hz⟩:=I.list hq
  have hlen:=r'.length
  exact Calls.call_len_list pl.isList (by simp only[Yt] <;> omega) ⟨.int ys.length,H,I.tok _,⟨s.toks+1,by rw[Yt,hlen]⟩,q⟩
 ·obtain⟨its,r',pl,hz⟩:=I.tuple hq
  have hlen:=r'.length
  exact len_tuple pl (by simp only[Yt] <;> omega) ⟨.int ys.length,H,I.tok _,⟨s.toks+1,by rw[Yt,hlen]⟩,q⟩
def uK:fD X (.type "list") (fun xs H Q=>∃p ys,xs= [.ref p]/\(SqL X.K H p ys\/SqT X.K H p ys)/\∀l,H l=none->Q (.ref l) (upd H l (.lst ys))):=by
  intro pins s σ H xs us Q I r h
  obtain⟨p,ys,rfl,hq,q⟩:=h
  obtain⟨u,rfl,rx⟩:=vals1 r
  cases rx
  have fin:∀(its:List Value),Vals ys its->ys.length<=sizeLine->∀(h':Heap)(c':Nat),(∀b o',s.heap.get? b=some o'->h'.get? b=some o')->
      h'.get? s.heap.objs.size=some { cls:= .type "list",dict:=none,data:= .seq its.toArray c',slots:=#[] }->EP X pins σ Q (.ref s.heap.objs.size) { s with heap:=h' }:=fun its r' hz h' c' kp e=>
    ⟨.ref s.heap.objs.size,_,I.laid (t':=s.toks) kp (Yd _) (show dN X.prog X.w _ h' _ (.lst ys) from ⟨hz,its,c',r',e⟩),rfl,q _ (I.hok.fresh (Yd _))⟩
  rcases hq with hq | hq
  · obtain⟨its,r',pl,hz⟩:=I.list hq
    have hlen:=r'.length
    obtain⟨o,ho,hc,n,hd⟩:=pl.isList
    exact call_list_seq p (.inl rfl) ho hc hd (fun h' c' kp e=>fin its r' hz h' c' kp e) (by simp only[Yt] <;> omega)
  · obtain⟨its,r',pl,hz⟩:=I.tuple hq
    have hlen:=r'.length
    obtain⟨o,ho,hc,n,hd⟩:=pl
    exact call_list_seq p (.inr rfl) ho hc hd (fun h' c' kp e=>fin its r' hz h' c' kp e) (by simp only[Yt] <;> omega)
def tyV (K:W.Frag)(T:String)(x:V)(H:Hp):Prop:=match x with
  |.str _=>T="str"
  |.int _=>T="int"
  | .ref p=>(T="list"/\∃xs,SqL K H p xs)\/(T="tuple"/\∃o,K.lookup p=some o/\o.cls= .type "tuple"/\o.dict=none)\/
      (T="dict"/\((∃kvs,H p=some (.dK kvs))\/∃kvs,H p=some (.dT kvs)))\/(T="set"/\∃S n,H p=some (.set S n))
  |_=>False
theorem a4O {T:String}(I:Inv X pins σ H s)(r:RelV x v)(ty:tyV X.K T x H):
  s.TypeIs v T/\∀a,v= .ref a->∃ob,s.heap.get? a=some ob/\ob.dict=none:=by
 cases x with
 | str z=>
  obtain⟨t,rfl⟩:=r
  cases (show T="str" from ty)
  exact⟨typeIs_str s z t,fun _ e=>nomatch e⟩
 | int i=>
  obtain⟨t,rfl⟩:=r
  cases (show T="int" from ty)
  exact⟨typeIs_int s i t,fun _ e=>nomatch e⟩
 | ref p =>
  cases r
  rcases ty with ⟨rfl,xs,hq⟩ | ⟨rfl,o,hk,hc,hd⟩ | ⟨rfl,hk⟩ | ⟨rfl,S,n,hk⟩
  ·obtain⟨its,_,pl,_⟩:=I.list hq
   refine⟨pl.isList.typeIs,fun a e=>?_⟩
   cases e
   obtain⟨o,n,e,c,hd,_⟩:=pl
   exact⟨o,e,hd⟩
  ·refine⟨⟨o,I.kIn p o hk,hc⟩,fun a e=>?_⟩
   cases e
   exact⟨o,I.kIn _ o hk,hd⟩
  ·have z:∃o,s.heap.get? p=some o/\o.ExactDict:=by
    rcases hk with ⟨kvs,hk⟩ | ⟨kvs,hk⟩
    ·obtain⟨_,_,_,_,o,_,_,e,ex,_⟩:=I.hok p _ hk
     exact⟨o,e,ex⟩
    ·obtain⟨_,_,_,_,o,_,_,e,ex,_⟩:=I.hok p _ hk
     exact⟨o,e,ex⟩
   obtain⟨o,e,ex⟩:=z
   refine⟨⟨o,e,ex.1⟩,fun a e2=>?_⟩
   cases e2
   exact⟨o,e,ex.2.1⟩
  ·obtain⟨o,_,_,_,e,ex,_⟩:=I.hok p _ hk
   refine⟨⟨o,e,ex.1⟩,fun a e2=>?_⟩
   cases e2
   exact⟨o,e,ex.2.1⟩
 |_=>exact False.elim ty
def c1D (K:W.Frag)(T:String)(r:V->List V->Hp->VK->Prop)(to:TE):TE:=fun σ H Q=>to σ H fun x H1=>tyV K T x H1/\r x [] H1 Q
def tBM (K:W.Frag)(T:String)(r:V->List V->Hp->VK->Prop)(to:TE)(t:TA):TE:=fun σ H Q=>to σ H fun x H1=>tyV K T x H1/\t σ H1 fun xs H2=>r x xs H2 Q
variable {o e:Expr}{es:List Expr}{to:TE}{t:TA}{name:Str}{apos cpos:Pos}{T id:String}{r:V->List V->Hp->VK->Prop}
theorem a6Z (pa:PlainAttrs T)(slot:Slot T name id)(hty:typeOf (.builtin id)=pure (.type "method_descriptor"))(hm:MtR X id r)(ho:PE X o to)
  (hbase:attributeBase o name X.env (eval o X.env)=eval o X.env:=by rfl) (hline:(apos.endLine == cpos.line)=true:=by rfl):PE X (.Call (.Attribute o name apos) [] [] cpos) (c1D X.K T r to):=by
 intro pins s σ H Q I h
 refine wpAny_Call_method0_late hbase hline (thn (ho pins s σ H _ I h) fun v s1 hz9=>?_)
 obtain⟨x,H1,I1,r1,ty,q1⟩:=hz9
 obtain⟨h1,h2⟩:=a4O I1 r1 ty
 exact⟨T,id,pa,slot,hty,h1,h2,Calls.callWith_builtin rfl (PySem.evalArgs_none (hm pins s1 σ H1 x [] v [] Q I1 r1 .nil q1))⟩
theorem a7A (pa:PlainAttrs T)(slot:Slot T name id)(hty:typeOf (.builtin id)=pure (.type "method_descriptor"))(hm:MtR X id r)(ho:PE X o to)(ha:PA X (e::es) t)
  (hbase:attributeBase o name X.env (eval o X.env)=eval o X.env:=by rfl)
  (hfew:((backTo cpos (starEach (e::es) X.env)).all (fun x=>!x.1) && (backToKw cpos (keywordEach [] X.env)).all (fun x=>x.1.isSome)
   && decide ((e::es).length+([]:List Keyword).length+(if ([]:List Keyword).isEmpty then 0 else 1)<30))=true:=by rfl)
  (hline:(apos.endLine == cpos.line)=true:=by rfl) (hs:starEach (e::es) X.env=(false,eval e X.env)::starEach es X.env:=by rfl) (hplain:(backTo cpos (starEach es X.env)).any (·.1)=false:=by rfl) :
  PE X (.Call (.Attribute o name apos) (e::es) [] cpos) (tBM X.K T r to t):=by
 intro pins s σ H Q I h
 refine wpAny_Call_method_late hbase hfew hline rfl (thn (ho pins s σ H _ I h) fun v s1 hz9=>?_)
 obtain⟨x,H1,I1,r1,ty,q1⟩:=hz9
 obtain⟨h1,h2⟩:=a4O I1 r1 ty
 refine⟨T,id,pa,slot,hty,h1,h2,?_⟩
 have hA:=ha cpos pins s1 σ H1 _ I1 q1
 rw[hs]at hA ⊢
 refine Calls.callWith_builtin (by show (false || (backTo cpos (starEach es X.env)).any (·.1))=false;rw[hplain] <;> rfl) (Calls.evalArgs_plain ?_)
 exact thn hA fun us s2 ⟨vs,H2,I2,r2,q2⟩=>hm pins s2 σ H2 x vs v us Q I2 r1 r2 q2
end
def MtM (X:Cx)(id:String)(r:V->List V->Hp->VK->Prop):Prop:=
 ∀ (pins:List (Addr×Obj))(s:Shared)(σ:St)(H:Hp)(x:V)(xs:List V)(v:Value)(us:List Value)(Q:VK),Inv X pins σ H s->RelV x v->Vals xs us->r x xs H Q->
  wpAny (model X.prog X.w) X.A (call (.builtin id) (v::us)) (EP X pins σ Q) X.xe s
theorem Vals.one:∀{x:V}{us:List Value},Vals [x] us->∃u,us= [u]/\RelV x u
 |_,_,.cons r .nil=>⟨_,rfl,r⟩
theorem Vals.two:∀{x y:V}{us:List Value},Vals [x,y] us->∃u v,us= [u,v]/\RelV x u/\RelV y v
 |_,_,_,.cons r (.cons q .nil)=>⟨_,_,rfl,r,q⟩
theorem Vals.zero:∀{us:List Value},Vals [] us->us= []
 |_,.nil=>rfl
def Vals.dropLast {us:List Value}(h:Vals xs us):Vals xs.dropLast us.dropLast:=by
 induction h with
 |nil=>exact .nil
 | cons r t ih=>
  cases t with
  |nil=>exact .nil
  |cons q t'=>exact .cons r ih
theorem Vals.eraseIdx:∀{xs:List V}{us:List Value}(i:Nat),Vals xs us->Vals (xs.eraseIdx i) (us.eraseIdx i)
 |_,_,_,.nil=> .nil
 |_,_,0,.cons _ t=>t
 |_,_,i+1,.cons r t=> .cons r (Vals.eraseIdx i t)
theorem Vals.rep {us:List Value}(h:Vals xs us):∀k:Nat,Vals (List.replicate k xs).flatten (List.replicate k us).flatten
 |0=> .nil
 | k+1=>by
  rw[Xb,Xb,Xe,Xe]
  exact Vals.append h (Vals.rep h k)
def zL (l:List α):l.eraseIdx (l.length-1)=l.dropLast:=by
 induction l with
 |nil=>rfl
 | cons a r ih=>
  cases r with
  |nil=>rfl
  | cons b r=>
   have e:(a::b::r).length-1=((b::r).length-1)+1:=by
    have h1:(a::b::r).length=r.length+2:=rfl
    have h2:(b::r).length=r.length+1:=rfl
    omega
   rw[e,List.eraseIdx_cons_succ,ih]
   all_goals rfl
theorem sG:∀(l:List α)(i:Nat),(l.eraseIdx i).length<=l.length
 |[],_=>Yd _
 |_::_,0=>Xx _
 |_::r,i+1=>Jd (sG r i)
theorem foldl_rep (its:List Value):∀(k:Nat)(acc:List Value),
  List.foldl (fun x1 x2=>x1++x2) acc.toArray (List.replicate k its.toArray)=(acc++(List.replicate k its).flatten).toArray
 |0,acc=>by simp
 | k +1,acc=>by
  have e:acc.toArray++its.toArray=(acc++its).toArray:=by simp
  have e2:(acc++its)++(List.replicate k its).flatten=acc++(List.replicate (k+1) its).flatten:=by
   rw[Xb,Xe,YB]
  rw[<-e2,<-foldl_rep its k (acc++its),<-e,Xb,XX]
section
variable {l b:Addr}{ys zs:List V}
theorem Inv.lset {its its':List Value}{n:Nat}{f:Array Value->Array Value}{t':Nat}(I:Inv X pins σ H s)(hH:H l=some (.lst xs))
  (e:s.heap.get? l=some { cls:= .type "list",data:= .seq its.toArray n }) (hf:f its.toArray=its'.toArray) (hv:Vals ys its') (hz:ys.length<=sizeLine) :
  Inv X pins σ (upd H l (.lst ys)) { s with heap:=s.heap.update l (Obj.mapSeq f),toks:=t' }:=by
 have q:=PySem.IsL.update e f
 rw[hf]at q
 refine I.write (x:=l) (e:=l) (by rw[hH];exact trivial) (.inl rfl) (fun b' u hb hu=>(Heap.get?_update_other s.heap (Obj.mapSeq f) (Ne.symm hb)).trans hu) ⟨_,q⟩ ?_
 exact⟨hz,its',_,hv,q⟩
theorem Inv.lnew {its:List Value}{t':Nat}(I:Inv X pins σ H s)(hv:Vals ys its)(hz:ys.length<=sizeLine):
  Inv X pins σ (upd H s.heap.objs.size (.lst ys)) { s with heap:=s.heap.push { cls:= .type "list",data:= .seq its.toArray },toks:=t' }:=
 I.laid (fun _ _ q=>Ym _ q) (Yd _) ⟨hz,its,0,hv,YI _ rfl⟩
def Inv.fresh (I:Inv X pins σ H s):H s.heap.objs.size=none:=I.hok.fresh (Yd _)
def Inv.lstM (I:Inv X pins σ H s)(hH:H l=some (.lst xs)):xs.length<=sizeLine/\∃(its:List Value)(n:Nat),Vals xs its/\xs.length=its.length/\s.heap.get? l=some { cls:= .type "list",data:= .seq its.toArray n }:=by
 obtain⟨z,its,n,r,e⟩:=I.hok l _ hH
 exact⟨z,its,n,r,r.length,e⟩
def wC {n:Nat}(h:n<=sizeLine):Builtin.List.listTooLong n=false:=by
 unfold Builtin.List.listTooLong
 exact Yr (by omega)
end
section
def b0X:V->List V->Hp->VK->Prop:=fun x vs H Q=>∃l xs y,x= .ref l/\vs= [y]/\H l=some (.lst xs)/\xs.length<sizeLine/\Q .non (upd H l (.lst (xs++[y])))
def a3A:MtM X "list.append" b0X:=by
 intro pins s σ H x vs v us Q I rx rv h
 obtain⟨l,xs,y,rfl,rfl,hH,hz,q⟩:=h
 cases rx
 obtain⟨u,rfl,ru⟩:=rv.one
 obtain⟨z,its,n,r,hl,e⟩:=I.lstM hH
 refine call_meets F.slot_list_append ⟨_,e,rfl⟩ F.entry_list_append (F.args_list_append_2 _ _) (PySem.list_append l its.toArray n u (by rw[Yt];omega)) ⟨e,?_⟩
 refine⟨.non,_,I.lset (its':=its++[u]) hH e (by simp) (r.append (.cons ru .nil)) ?_,rfl,q⟩
 rw[Yb,Yv]
 omega
def b0W:V->List V->Hp->VK->Prop:=fun x vs H Q=>∃l b xs zs,x= .ref l/\vs= [.ref b]/\H l=some (.lst xs)/\H b=some (.lst zs)/\xs.length+zs.length<=sizeLine/\Q .non (upd H l (.lst (xs++zs)))
def a2Z:MtM X "list.extend" b0W:=by
 intro pins s σ H x vs v us Q I rx rv h
 obtain⟨l,b,xs,zs,rfl,rfl,hH,hB,hz,q⟩:=h
 cases rx
 obtain⟨u,rfl,ru⟩:=rv.one
 cases ru
 obtain⟨z,its,n,r,hl,e⟩:=I.lstM hH
 obtain⟨z2,its2,n2,r2,hl2,e2⟩:=I.lstM hB
 have hsz:its.toArray.size+its2.toArray.size<=sizeLine:=by rw[Yt,Yt];omega
 have hlong:¬ (!its.toArray.isEmpty && Builtin.List.listTooLong (its.toArray.size+its2.toArray.size))=true:=by
  rw[wC hsz,Bool.and_false]
  exact Ys
 refine call_meets F.slot_list_extend ⟨_,e,rfl⟩ F.entry_list_extend (F.args_list_extend_2 _ _)
  (AutoSeq1.list_extend_list_list_0 l its.toArray n b its2.toArray n2 hlong (by rw[Yt];omega) (by omega)) ⟨e,e2,?_⟩
 refine⟨.non,_,I.lset (its':=its++its2) hH e (by simp) (r.append r2) ?_,rfl,q⟩
 rw[Yb]
 omega
def c1J:V->List V->Hp->VK->Prop:=fun x vs H Q=>∃l xs y,x= .ref l/\vs= []/\H l=some (.lst xs)/\xs[xs.length-1]? =some y/\Q y (upd H l (.lst xs.dropLast))
def c1O:MtM X "list.pop" c1J:=by
 intro pins s σ H x vs v us Q I rx rv h
 obtain⟨l,xs,y,rfl,rfl,hH,hy,q⟩:=h
 cases rx
 have hus:=rv.zero
 subst hus
 obtain⟨z,its,n,r,hl,e⟩:=I.lstM hH
 obtain⟨u,hu,ru⟩:=r.get hy
 have hy':its.toArray[its.toArray.size-1]? =some u:=by
  show its.toArray[its.length-1]? =some u
  rw[<-Array.getElem?_toList,<-hl]
  exact hu
 refine call_meets F.slot_list_pop ⟨_,e,rfl⟩ F.entry_list_pop (F.args_list_pop_1 _) (MeetsSeq.list_pop_last l its.toArray n u hy' (by rw[Yt];omega)) ⟨e,?_⟩
 refine⟨y,_,I.lset (its':=its.dropLast) hH e ?_ r.dropLast ?_,ru,q⟩
 ·show its.toArray.eraseIdxIfInBounds (its.toArray.size-1)=its.dropLast.toArray
  rw[Yt,List.eraseIdxIfInBounds_toArray,zL]
 ·rw[List.length_dropLast]
  omega
def b4V:V->List V->Hp->VK->Prop:=fun x vs H Q=>∃l xs i k y,x= .ref l/\vs= [.int i]/\H l=some (.lst xs)/\ -(2 ^ 63)<=i/\i<2 ^ 63/\seqIndex? i xs.length=some k/\xs[k]? =some y/\Q y (upd H l (.lst (xs.eraseIdx k)))
def a7K:MtM X "list.pop" b4V:=by
 intro pins s σ H x vs v us Q I rx rv h
 obtain⟨l,xs,i,k,y,rfl,rfl,hH,h1,h2,hk,hy,q⟩:=h
 cases rx
 obtain⟨u,rfl,ru⟩:=rv.one
 obtain⟨t,rfl⟩:=ru
 obtain⟨z,its,n,r,hl,e⟩:=I.lstM hH
 obtain⟨w,hw,rw'⟩:=r.get hy
 refine call_meets F.slot_list_pop ⟨_,e,rfl⟩ F.entry_list_pop (F.args_list_pop_2 _ _)
  (MeetsSeq.list_pop_at l its.toArray n i t k w (fitsIndex_both h1 h2) (by rw[Yt,<-hl];exact hk) (by rw[<-Array.getElem?_toList];exact hw) (by rw[Yt];omega)) ⟨e,?_⟩
 refine⟨y,_,I.lset (its':=its.eraseIdx k) hH e ?_ (r.eraseIdx k) ?_,rw',q⟩
 ·show its.toArray.eraseIdxIfInBounds k=(its.eraseIdx k).toArray
  rw[List.eraseIdxIfInBounds_toArray]
 ·have:=sG xs k
  omega
def b4W:V->List V->Hp->VK->Prop:=fun x vs H Q=>∃l xs,x= .ref l/\vs= []/\H l=some (.lst xs)/\Q .non (upd H l (.lst []))
def a7L:MtM X "list.clear" b4W:=by
 intro pins s σ H x vs v us Q I rx rv h
 obtain⟨l,xs,rfl,rfl,hH,q⟩:=h
 cases rx
 have hus:=rv.zero
 subst hus
 obtain⟨z,its,n,r,hl,e⟩:=I.lstM hH
 refine call_meets F.slot_list_clear ⟨_,e,rfl⟩ F.entry_list_clear (F.args_list_clear_1 _) (AutoSeq1.list_clear_list_0 l its.toArray n (by rw[Yt];omega)) ⟨e,?_⟩
 exact⟨.non,_,I.lset (its':=[]) (ys:=[]) hH e rfl .nil (YY _),rfl,q⟩
def c1M:R2:=fun x y H Q=>∃l b xs zs,x= .ref l/\y= .ref b/\H l=some (.lst xs)/\H b=some (.lst zs)/\xs.length+zs.length<=sizeLine/\∀p,H p=none->Q (.ref p) (upd H p (.lst (xs++zs)))
def b5N:OpR X (binaryOp .Add) c1M:=by
 intro pins s σ H x y v u Q I rx ry h
 obtain⟨l,b,xs,zs,rfl,rfl,hH,hB,hz,q⟩:=h
 cases rx
 cases ry
 obtain⟨z,its,n,r,hl,e⟩:=I.lstM hH
 obtain⟨z2,its2,n2,r2,hl2,e2⟩:=I.lstM hB
 refine PySem.P.add_list e e2 ?_ (by rw[Yt,Yt];omega)
 have ea:its.toArray++its2.toArray=(its++its2).toArray:=by simp
 rw[ea]
 exact⟨.ref _,_,I.lnew (t':=s.toks) (r.append r2) (by rw[Yb];omega),rfl,q _ I.fresh⟩
def c1I:R2:=fun x y H Q=>∃l k xs,x= .ref l/\y= .int k/\H l=some (.lst xs)/\ -(2 ^ 63)<=k/\k<2 ^ 63/\xs.length*k.toNat<=sizeLine/\
 ∀p,H p=none->Q (.ref p) (upd H p (.lst (List.replicate k.toNat xs).flatten))
def len_rep (xs:List α)(k:Nat):(List.replicate k xs).flatten.length=k*xs.length:=by
 induction k with
 |zero=>simp
 |succ k ih=>rw[Xb,Xe,Yb,ih,Nat.succ_mul,Nat.add_comm]
def b5K:OpR X (binaryOp .Mult) c1I:=by
 intro pins s σ H x y v u Q I rx ry h
 obtain⟨l,k,xs,rfl,rfl,hH,h1,h2,hz,q⟩:=h
 cases rx
 obtain⟨t,rfl⟩:=ry
 obtain⟨z,its,n,r,hl,e⟩:=I.lstM hH
 have hlen:its.toArray.size*k.toNat<=sizeLine:=by rw[Yt,<-hl];exact hz
 have hcap:¬ its.toArray.size*k.toNat > (2 ^ 63-1) / 8:=by
  have:(sizeLine:Nat)<=(2 ^ 63-1) / 8:=by decide
  omega
 have hfit:¬ (!Builtin.List.listFitsIndex k)=true:=by
  rw[fitsIndex_both h1 h2]
  exact Ys
 have hlong:¬ Builtin.List.listTooLong (its.toArray.size*k.toNat)=true:=by
  rw[wC hlen]
  exact Ys
 have hnew:List.foldl (fun x1 x2=>x1++x2) #[] (List.replicate (if its.toArray.isEmpty=true then 0 else k.toNat) its.toArray)=(List.replicate k.toNat its).flatten.toArray:=by
  have f0:∀m:Nat,List.foldl (fun x1 x2=>x1++x2) #[] (List.replicate m its.toArray)=(List.replicate m its).flatten.toArray:=fun m=>by
   have:=foldl_rep its m []
   rw[List.nil_append]at this
   exact this
  rw[f0]
  cases its with
  |nil=>simp
  |cons a r'=>rw[if_neg (by simp)]
 refine wpAny_binaryOp_repeat_ref (T:="list") (U:="int") (by decide) ⟨_,e,rfl⟩ (fun s'=>typeIs_int s' k t) noFill_list_mul F.fills_int_mul F.slot_int_rmul repeat_list F.slot_int_index.lookup
  (call_meets F.slot_int_rmul (typeIs_int s k t) F.entry_int_rmul (F.args_int_rmul_2 _ _) (int___rmul___int_list k t l its.toArray n)
   ⟨e,rfl,⟨_,e,rfl⟩,call_meets F.slot_list_mul ⟨_,e,rfl⟩ F.entry_list_mul (F.args_list_mul_2 _ _) (AutoListH.list___mul___list_int_3 l its.toArray n k t hfit hcap hlong) ⟨e,?_⟩⟩)
 rw[hnew]
 exact⟨.ref _,_,I.lnew (t':=s.toks) (r.rep k.toNat) (by rw[len_rep,Nat.mul_comm];exact hz),rfl,q _ I.fresh⟩
end
section
variable {prog:Program}{w:World}{E:Value->Shared->Prop}
end
section
end
end L2
namespace Att
open PySem PySem.W PySem.Calls PyProof.Rows
def oZ {P:Params}{h:Heap}:∀(ns:List Int)(vs:List Value),WellAll P h vs (ns.map WData.int)->IntsAre vs ns:=by
 intro ns
 induction ns with
 | nil=>
  intro vs w
  rw[List.map_nil]at w
  cases w
  exact .nil
 | cons n ns ih=>
  intro vs w
  rw[YR]at w
  cases w with
  | cons a b=>
   cases a
   exact .cons _ _ (ih _ b)
theorem a2Q {l:OpenLaw}{n:Nat}(hn:l.most=some n){P:Params}{h:Heap}{args:List WData}{vals:List Value}
  (hpre:l.row.toRowW.claim.pre args=true) (hwl:WellAll P h vals args) :
  ∃a vs ns,vals= [Value.ref a]/\args= [WData.list (ns.map WData.int)]/\h.get? a=some { cls:= .type "list",data:= .seq vs.toArray }/\IntsAre vs ns/\ns.length<=n:=by
 have hsh:WShape.hasAll [] args [.list .int]=true:=(pre_splitW hpre).1
 have hc:l.pre.holds [] { args:=args }=true:=(pre_splitW hpre).2
 obtain⟨d,r,rfl,h1,h2⟩:=hasAllW_cons hsh
 obtain rfl:=hasAllW_nil h2
 obtain⟨xs,rfl,h3⟩:=hasW_list h1
 obtain⟨ns,rfl⟩:=items_int h3
 have hlen:ns.length<=n:=by
  unfold OpenLaw.pre at hc
  have h4:(WTm.not (.lt (.lit (.int (n:Int))) (.len (.arg 0)))).holds [] { args:=[.list (ns.map .int)] }=true:=by
   have h4:=(holds_andW hc).1
   rw[hn]at h4
   exact h4
  have h5:=condW_of h4 (w_not (w_lt w_lit (w_len_list (w_arg rfl))))
  rw[Ya]at h5
  refine Nat.le_of_not_lt fun q=>?_
  have q':(n:Int)<((ns.length:Nat):Int):=by omega
  first
   |(rw[Yn q']at h5;exact absurd h5 (by decide))
   |(simp at h5;omega)
 cases hwl with
 | cons w1 w2=>
  cases w2
  cases w1 with
  |list ho hall=>exact⟨_,_,ns,rfl,rfl,ho,oZ ns _ hall,hlen⟩
def a2T (l:OpenLaw)(args:List WData):l.row.toRowW.claim.post args (.bool true) args=true:=
 postW_of (r:=l.row.toRowW) (X:=(true == true))
  (show WShape.has [] (.bool true) .bool=true by first | rfl | decide | simp[WShape.has,WShape.arms,WShape.armsAll])
  (show (WTm.eq .res (.lit (.bool true))).value [] { args:=args,res:=some (.bool true),after:=args }=some (.bool (true == true)) from w_eq_bool (w_res rfl) w_lit) rfl
theorem attach_call {l:OpenLaw}{n:Nat}{q:Program}{loose:List Str}{XP:(Str->Option Value)->Heap->Prop}{YP:World->Heap->Prop}{d:DefRec}
  (hn:l.most=some n) (hdf:d.params.defaults= [])
  (call:∀(w:World)(s₀ s₁:Shared)(mg mb:Str->Option Value)(fa:Addr)(o:Obj)(pm cd doc:Value)(a:Addr)(vs:List Value)(ns:List Int),
   Ground q loose [] XP w s₀ mg mb s₁.heap->YP w s₁.heap->
   s₁.heap.get? fa=some o->o.data= .func (docDef d.name d.params d.body d.scope pm cd doc)->s₁.heap.CodeRec cd d.name->mg d.name=some (.ref fa)->
   s₁.heap.get? a=some { cls:= .type "list",data:= .seq vs.toArray }->IntsAre vs ns->ns.length<=n->s₁.gens=#[]->
   codeAny (model l.prog w) callerA (.call (.ref fa) ⟨[.ref a], []⟩) (fun r s'=>r= .ok (.ret (.bool true))/\OldK s₁.heap s'.heap/\s'.os=s₁.os/\AllBare s'.gens) s₁) :
  WalkO q loose XP YP l.row.toRowW d [] (fun f vs=>PySem.call f vs):=by
 intro w s₀ s₁ mg mb G Y fa o pm cd doc dV kV ho hd hcd hD hmg hg args vals as hpre hlay hrd hwl hlo
 obtain rfl:dV= .none:=Dflts.none hD hdf
 obtain rfl:kV= .none:=Dflts.noKw hD
 obtain⟨a,vs,ns,rfl,rfl,hobj,hints,hlen⟩:=a2Q hn hpre hwl
 refine enter_call (Jt (call w s₀ s₁ mg mb fa o pm cd doc a vs ns G Y ho (fd_plain hd) hcd hmg hobj hints hlen hg) fun r s' hq=>?_)
 obtain⟨rfl,h2,h3,h4⟩:=hq
 exact⟨.inl ⟨.bool true,.bool true, [],rfl,fun _=>rfl,.bool true,a2T l _,fun _=>⟨List.Pairwise.nil,fun _ hm=>(nomatch hm)⟩⟩,h2,h3,h4⟩
section
variable {prog:Program}{w:World}{A:Around}{E:Value->Shared->Prop}{s:Shared}{K:Frag}
end
end Att
namespace L2
open PySem PySem.Spec PyProof.Rows
variable {X:Cx}{A:Around}{n:Nat}{B:Prop}{H:Hp}{K:W.Frag}{a:Nat}{i:Int}{z:Int}{e:Expr}{r:R2}{x:V}{es:List Expr}{t:TA}{pos:Pos}{scope:Scope}{env:Env}{y:Str}{s:Shared}{N:List Str}{ix:List Nat}{P:Program}{w:World}{mg:Str->Option Value}{base:Heap}{outer:List Env}{f:Addr}{E:XK}{C:Addr}
theorem rM:∀{vs:List Value}{ns:List Int},IntsAre vs ns->Vals (ns.map V.int) vs
 |_,_,.nil=> .nil
 |_,_,.cons n t h=> .cons ⟨t,rfl⟩ (rM h)
def lA (s:Stmt):Arguments:=match s with
 |.FunctionDef _ a _ _ _ _ _ _ _ _=>a
 |_=>{ posonlyargs:=[],args:=[],vararg:=none,kwonlyargs:=[],kw_defaults:=[],kwarg:=none,defaults:=[] }
def gD (s:Stmt):List Stmt:=match s with
 |.FunctionDef _ _ b _ _ _ _ _ _ _=>b
 |_=>[]
def bO (s:Stmt):Scope:=match s with
 |.FunctionDef _ _ _ _ _ _ sc _ _ _=>sc
 |_=>{ kind:= .function,names:=[],isGenerator:=false,isCoroutine:=false }
abbrev CX0:CXT:=fun _ _ _ _ _ _=>False
abbrev E0:XK:=fun _ _ _=>False
def aJ:fV CX0 X E0:=fun _ _ _ _ _ _ _ h=>h.elim
structure Fun (K:W.Frag)(x qual:Str)(st:Stmt)(f:Addr)(fd:FuncData):Prop where
 ex :∃(oc:Value)(od:Option Addr)(kV doc pm:Value)(an:Option Addr)(cdv ct:Value)(osl:Array (Option Value)),
  fd=W.fnOf x qual (lA st) (gD st) (bO st) .none kV doc pm an cdv ct/\K.lookup f=some ⟨oc,od,.func fd,osl⟩/\W.codeIn K cdv qual=true
 kp:W.keepIn K (.ref f)=true
section
theorem Fun.ok {x qual:Str}{st:Stmt}{f:Addr}{fd:FuncData}{N ps:List Str}{k:Nat}{sp:Sp}(F:Fun K x qual st f fd)(S:iD N ps (bO st))(len:∀vs H Q E,sp vs H Q E->vs.length=ps.length)
  (hbody:∀(cdv:Value)(A:Around)(outer:List Env)(s:Shared)(H:Hp)(vs:List V)(Q:VK)(E:XK),dF k (A.deeper (envOfC qual (bO st) s.heap.objs.size f cdv))->sp vs H Q E->
   ∃t,PSs (qT CX0 P w K mg base N qual (bO st) f cdv A outer s H E).nox (gD st) t/\t { nx:=fun _ H'=>Q .non H',rt:=Q } (start N vs) H):fX P w K mg base CX0 (k+1) f fd ps sp:=by
 obtain⟨oc,od,kV,doc,pm,an,cdv,ct,osl,rfl,lk,hcd⟩:=F.ex
 refine b9U lk hcd S len fun A outer s H vs Q E hr hsp=>?_
 obtain⟨t,h,q⟩:=hbody cdv A outer s H vs Q E hr hsp
 exact⟨t,h.nox,q⟩
theorem Fun.binds {x qual:Str}{st:Stmt}{f:Addr}{fd:FuncData}{ps:List Str}(F:Fun K x qual st f fd)
  (h:∀(kV doc pm:Value)(an:Option Addr)(cdv ct:Value)(us:List Value),us.length=ps.length->bindArgs (W.fnOf x qual (lA st) (gD st) (bO st) .none kV doc pm an cdv ct) ⟨us, []⟩=pure (ps.zip us)):Binds K fd ps []:=by
 obtain⟨oc,od,kV,doc,pm,an,cdv,ct,osl,rfl,lk,hcd⟩:=F.ex
 exact .all (h kV doc pm an cdv ct)
theorem zG {x qual:Str}{st:Stmt}{f:Addr}{oc:Value}{od an:Option Addr}{osl:Array (Option Value)}{kV doc pm cdv ct:Value}(l:K.lookup f=some ⟨oc,od,.func (W.fnOf x qual (lA st) (gD st) (bO st) .none kV doc pm an cdv ct),osl⟩)
  (c:W.codeIn K cdv qual=true) (k:W.keepIn K (.ref f)=true):Fun K x qual st f (W.fnOf x qual (lA st) (gD st) (bO st) .none kV doc pm an cdv ct):=⟨⟨oc,od,kV,doc,pm,an,cdv,ct,osl,rfl,l,c⟩,k⟩
end
def b3P {k:Nat}(hr:dF k A):A.units+1<cLine:=X2 (Nat.add_le_add_left (by decide:1<=64) _) hr.units
def rT (h:n<=1000):n<sizeLine:=X2 h (by decide)
section
theorem pv (i:Nat){x:Str}{pos:Pos}(hN:X.N[i]? =some x:=by rfl)(hv:Vis X.env.scope x:=by first | exact Or.inl rfl | exact Or.inr (Or.inl rfl) | exact Or.inr (Or.inr rfl))(hd:(x == ("__debug__":Str))=false:=by decide)
  (hcd:(x == ("__classdict__":Str))=false:=by decide):PE X (.Name x pos) (b4D i):=a6Q hN hv hd hcd
end
def yW {A:Prop}(h:B):if false=true then A else B:=by
 rw[if_neg Ys]
 exact h
def bR {c A:Prop}[Decidable c](h1:c->A)(h2:¬ c->B):if c then A else B:=by
 by_cases h:c
 ·rw[if_pos h]
  exact h1 h
 ·rw[if_neg h]
  exact h2 h
def wO {c A:Prop}[Decidable c](hc:c)(h:B):if (!decide c)=true then A else B:=by
 rw[Yn hc]
 exact yW h
def Same (H H':Hp):Prop:=∀b o,H b=some o->H' b=some o
def Same.refl (H:Hp):Same H H:=fun _ _ h=>h
def Same.trans {H1 H2:Hp}(a:Same H H1)(b:Same H1 H2):Same H H2:=fun c o h=>b c o (a c o h)
def Same.seq {H':Hp}{a:Addr}{xs:List V}(e:Same H H')(h:SqL K H a xs):SqL K H' a xs:=by
 rcases h with (h | ⟨o,h⟩) | h
 ·exact .inl (.inl (e _ _ h))
 ·exact .inl (.inr ⟨o,e _ _ h⟩)
 ·exact .inr h
def bV:bootBuiltins "len"=some (.builtin "len"):=by decide +kernel
def uN:bootBuiltins "min"=some (.builtin "min"):=by decide +kernel
def b7E:bootBuiltins "max"=some (.builtin "max"):=by decide +kernel
def b7D:bootBuiltins "sum"=some (.builtin "sum"):=by decide +kernel
def rH:bootBuiltins "isinstance"=some (.builtin "isinstance"):=by decide +kernel
def gF:bootBuiltins "list"=some (.type "list"):=by decide +kernel
def qW (a:Nat):Builtin.Int.intBits (a:Int)=if a=0 then 0 else a.log2+1:=by
 unfold Builtin.Int.intBits
 by_cases h:a=0
 ·subst h;rfl
 ·have h':¬ ((a:Int) == 0)=true:=by
   intro q
   have:=XR.mp q
   omega
  rw[if_neg h',if_neg h]
  rfl
def bits_le (h:a<2 ^ n):Builtin.Int.intBits (a:Int)<=n:=by
 rw[qW]
 split
 ·exact YY _
 ·rename_i h0
  exact(Nat.log2_lt h0).mpr h
def b2M (a:Nat):a<2 ^ Builtin.Int.intBits (a:Int):=by
 rw[qW]
 split
 ·rename_i h;subst h;exact Nat.one_pos
 ·exact Nat.lt_log2_self
def qX (h:i.natAbs<2 ^ n):Builtin.Int.intBits i<=n:=by
 unfold Builtin.Int.intBits
 split
 ·exact YY _
 ·rename_i h0
  have h1:i.natAbs≠0:=by
   intro q
   apply h0
   have:i=0:=by omega
   subst this;rfl
  exact(Nat.log2_lt h1).mpr h
def zV:∀(n a b:Nat),a<2 ^ n->b<2 ^ n->a+b=(a ^^^ b)+2*(a &&& b):=by
  intro n
  induction n with
  | zero => intro a b ha hb;have:a=0:=by simpa using ha
            have:b=0:=by simpa using hb
            subst_vars;rfl
  | succ n ih=>
    intro a b ha hb
    have e:=ih (a / 2) (b / 2) (by omega) (by omega)
    have x1:(a ^^^ b) / 2=a / 2 ^^^ b / 2:=Nat.xor_div_two
    have x2:(a &&& b) / 2=a / 2 &&& b / 2:=Nat.and_div_two
    rw[<-x1,<-x2]at e
    have y1:(a ^^^ b) % 2=(a % 2+b % 2) % 2:=by
      have:=Nat.xor_mod_two_eq_one (a:=a) (b:=b)
      omega
    have y2:(a &&& b) % 2=(a % 2)*(b % 2):=by
      have:=Nat.and_mod_two_pow (a:=a) (b:=b) (n:=1)
      rcases XS a with h | h <;> rcases XS b with h' | h' <;> simp[h,h']at this ⊢ <;> omega
    have z1:=Nat.div_add_mod (a ^^^ b) 2
    have z2:=Nat.div_add_mod (a &&& b) 2
    rcases XS a with h | h <;> rcases XS b with h' | h' <;> rw[h,h']at y1 y2 <;> omega
def a9M {b:Nat}(ha:a<2 ^ (n+1))(hb:b<2 ^ (n+1))(ha':2 ^ n<=a)(hb':2 ^ n<=b):a ^^^ b<2 ^ n:=by
 apply Nat.lt_pow_two_of_testBit
 intro i hi
 rw[XY]
 by_cases e:i=n
 ·subst e
  have h1:a.testBit i=true:=by
   rw[Y4]
   have:a / 2 ^ i=1:=by
    apply Jo
    ·simpa using ha'
    ·rw[XJ]at ha;omega
   rw[this];rfl
  have h2:b.testBit i=true:=by
   rw[Y4]
   have:b / 2 ^ i=1:=by
    apply Jo
    ·simpa using hb'
    ·rw[XJ]at hb;omega
   rw[this];rfl
  rw[h1,h2];rfl
 ·have h1:a.testBit i=false:=Xd (Yf ha (YA (by decide) (by omega)))
  have h2:b.testBit i=false:=Xd (Yf hb (YA (by decide) (by omega)))
  rw[h1,h2];rfl
def band (a b:Nat):Builtin.bitAnd (a:Int) (b:Int)=((a &&& b:Nat):Int):=by
 rw[PyProof.Rows.bitAnd_pp (by omega) (by omega)];rfl
def bxor (a b:Nat):Builtin.bitXor (a:Int) (b:Int)=((a ^^^ b:Nat):Int):=by
 have h:=zV (a+b) a b (X2 (Nat.le_add_right a b) Nat.lt_two_pow_self) (X2 (Nat.le_add_left b a) Nat.lt_two_pow_self)
 unfold Builtin.bitXor
 rw[PyProof.Rows.bitOr_and,band]
 omega
def qC (k:Nat):(2:Int) ^ ((k:Int)).toNat=((2 ^ k:Nat):Int):=by
 rw[YG];simp
def c1Y (a k:Nat):(a:Int)*2 ^ ((k:Int)).toNat=((a <<< k:Nat):Int):=by
 rw[qC,Xl];simp
def c1X (a k:Nat):(a:Int) / 2 ^ ((k:Int)).toNat=((a >>> k:Nat):Int):=by
 rw[qC,Nat.shiftRight_eq_div_pow];rfl
def bit_at (b k:Nat):(((b >>> k:Nat) &&& 1:Nat):Int)=1↔b.testBit k=true:=by
 unfold Nat.testBit
 rw[Nat.and_comm]
 have h:1 &&& b >>> k=(b >>> k) % 2:=by rw[Nat.and_comm];exact Nat.and_one_is_mod _
 rw[h]
 have:(b >>> k) % 2=0\/(b >>> k) % 2=1:=by omega
 rcases this with h | h <;> rw[h] <;> decide
section
def rN (C:Nat->Nat->Prop)(g:Nat->Nat->Nat):R2:=fun x y H Q=>∃a b:Nat,x= .int a/\y= .int b/\C a b/\Q (.int ((g a b:Nat):Int)) H
theorem opN {f:Value->Value->Sem Value}{C:Nat->Nat->Prop}{g:Nat->Nat->Nat}
  (rule:∀(i j:Nat)(t u:Tok)(s:Shared)(Q:Value->Shared->Prop)(E:Value->Shared->Prop),C i j->Q (.int ((g i j:Nat):Int) s.toks) { s with toks:=s.toks+1 }->wpAny (model X.prog X.w) X.A (f (.int i t) (.int j u)) Q E s) :
  OpR X f (rN C g):=by
 intro pins s σ H x y v u Q I rx ry h
 obtain⟨i,j,rfl,rfl,hc,q⟩:=h
 obtain⟨t,rfl⟩:=rx
 obtain⟨t',rfl⟩:=ry
 exact rule i j t t' s _ _ hc ⟨.int ((g i j:Nat):Int),H,I.tok _,⟨_,rfl⟩,q⟩
def a0V:OpR X (binaryOp .BitXor) (rN (fun _ _=>True) fun a b=>a ^^^ b):=opN fun i j _ _ _ _ _ _ q=>by
 refine xor_int ?_
 rw[bxor];exact q
def a0W:OpR X (binaryOp .LShift) (rN (fun a k=>a<2 ^ 4000/\k<=4000) fun a k=>a <<< k):=opN fun a k _ _ _ _ _ hc q=>by
 refine lshift_int (by omega) ?_ ?_
 ·have:=bits_le hc.1
  omega
 ·rw[c1Y];exact q
def c0O (i j:Int):Prop:=0<=j/\j<=4000/\i.natAbs<2 ^ 4000
def b1J:OpR X (binaryOp .LShift) (rI c0O fun i j=> .int (i*2 ^ j.toNat)):=opI fun i j _ _ _ _ _ hc q=>by
 refine lshift_int hc.1 ?_ q
 have:=qX hc.2.2
 have:=hc.2.1
 omega
def a1Z (i j:Int):Prop:=i.natAbs<2 ^ 4000/\j.natAbs<2 ^ 4000
def a1Z.ok {j:Int}(h:a1Z i j):IntMulOk i j:=by
 unfold IntMulOk
 have h1:=qX h.1
 have h2:=qX h.2
 have h3:Builtin.Int.intTooBig ((Builtin.Int.intBits i:Int)+(Builtin.Int.intBits j:Int))=false:=by
  unfold Builtin.Int.intTooBig
  apply Yr
  have:(8000:Int)<=bitsLine:=by decide
  omega
 simp only[h3,Bool.and_false]
 decide
def b1K:OpR X (binaryOp .Mult) (rI a1Z fun i j=> .int (i*j)):=opI fun _ _ _ _ _ _ _ hc q=>mul_int q hc.ok
def b9B:MtR X "int.bit_length" (fun x vs H Q=>∃i,x= .int i/\vs= []/\Q (.int ((Builtin.Int.intBits i:Nat):Int)) H):=by
 intro pins s σ H x xs v us Q I rx rv h
 obtain⟨i,rfl,rfl,q⟩:=h
 obtain⟨t,rfl⟩:=rx
 cases rv
 exact call_int_bit_length ⟨.int _,H,I.tok _,⟨_,rfl⟩,q⟩
def b7C:V->Option Value
 |.ref a=>some (.ref a)
 |.ty n=>some (.type n)
 |_=>none
def b2K {c:V}{cv u:Value}(e:b7C c=some cv)(r:RelV c u):u=cv:=by
 cases c <;> simp only[b7C]at e <;> first | (cases e;exact r) | cases e
def a9C:fD X (.builtin "isinstance") (fun xs H Q=>∃x c cv t b,xs= [x,c]/\b7C c=some cv/\nU X.K H x t/\W.kitOne X.K t cv=some b/\Q (.bl b) H):=by
 intro pins s σ H xs us Q I rv h
 obtain⟨x,c,cv,t,b,rfl,ec,ty,e,q⟩:=h
 obtain⟨u,v,rfl,rx,rc⟩:=rv.two
 cases b2K ec rc
 exact a3K I rx ty e fun tk=>⟨.bl b,H,I.tok _,rfl,q⟩
end
section
def rG:W.kitOne K (.type "list") (.type "list")=some true:=by rfl
end
section
variable {te:TE}{st:Stmt}{ts:TS}
def c1C (t:TE):TE:=fun σ H Q=>∃P:VK,t σ H P/\∀x H',P x H'->Q x H'
def cB (h:PE X e te):PE X e (c1C te):=by
 intro pins s σ H Q I hw
 obtain⟨P,h1,h2⟩:=hw
 exact thn (h pins s σ H P I h1) fun v s1 ⟨x,H1,I1,r,q⟩=>⟨x,H1,I1,r,h2 x H1 q⟩
def b7Z (t:TS):TS:=fun D σ H=>∃N:St->Hp->Prop,t { D with nx:=N } σ H/\∀σ' H',N σ' H'->D.nx σ' H'
def iV (h:PS X st ts):PS X st (b7Z ts):=by
 intro pins s σ H D I hw
 obtain⟨N,h1,h2⟩:=hw
 refine thn (h pins s σ H { D with nx:=N } I h1) fun f s1 q=>?_
 cases f with
 |next=>obtain⟨σ',H',I',q⟩:=q;exact⟨σ',H',I',h2 σ' H' q⟩
 |ret v=>exact q
 |brk=>exact q
 |cont=>exact q
end
def dec_true {p:Prop}[Decidable p](h:decide p=true):p:=YZ h
def dec_false {p:Prop}[Decidable p](h:¬ decide p=true):¬ p:=fun q=>h (Yn q)
def a2Y (h0:0<=z)(h1:z<2 ^ n):z.natAbs<2 ^ n:=by
 obtain⟨k,rfl⟩:=YX h0
 have:(k:Int)<((2 ^ n:Nat):Int):=by simpa using h1
 omega
def qZ (h:z.natAbs<2 ^ n)(hn:n<=4000:=by decide):z.natAbs<2 ^ 4000:=Yf h (YA (by decide) hn)
def iH (h0: -18446744073709551616<z)(h1:z<18446744073709551616):z.natAbs<2 ^ 4000:=qZ (n:=64) (by omega)
def xZ {b:Nat}(h:a<=b):(2:Int) ^ a<=2 ^ b:=by
 have:=YA (n:=2) (by decide) h
 exact_mod_cast this
def a7U (h:a<2 ^ n)(hn:n<=4000:=by decide):a<2 ^ 4000:=Yf h (YA (by decide) hn)
def b7J {ns:List Int}{k:Int}(h:0<ns.length):∃v:Int,atI (ns.map V.int) (k % (((ns.map V.int).length:Nat):Int))=some (.int v):=by
 rw[Ya]
 have h0:0<=k % ((ns.length:Nat):Int):=Int.emod_nonneg _ (by omega)
 have h1:k % ((ns.length:Nat):Int)<((ns.length:Nat):Int):=Js _ (by omega)
 generalize k % ((ns.length:Nat):Int)=j at h0 h1
 have hk:j.toNat<ns.length:=by omega
 refine⟨ns[j.toNat],?_⟩
 have q:atI (ns.map V.int) ((j.toNat:Nat):Int)=some (.int ns[j.toNat]):=cO (by rw[Yk,Yc hk] <;> rfl)
 have e:((j.toNat:Nat):Int)=j:=by omega
 rw[e]at q
 exact q
def b4R (K:W.Frag):Sp:=fun vs H Q _=>∃(a:Addr)(ns:List Int)(k m:Int),vs= [.ref a,.int k,.int m]/\SqL K H a (ns.map V.int)/\ns.length<=63/\0<=k/\k<=100000/\0<m/\∀d:Int,0<=d->d<m->Q (.int d) H
section
variable {M:Model}{E:Value->Shared->Prop}{B:Heap}{l:List Env}{L e:Addr}{k a0:Value}{od:Option Addr}
end
section
variable {qual:Str}{cd:Value}
end
section
variable {qual:Str}{cd:Value}
end
section
variable {tx:St->Hp->VK->XK->Prop}{p1 np hpos:Pos}{n:Str}{i:Nat}{b₀:Stmt}{suite:List Stmt}{ts:TS}
end
section
variable {CX:CXT}{k:Nat}{fd:FuncData}{ps:List Str}{sp:Sp}{dvs:List V}{ds:List Value}{x m:Str}{p apos:Pos}{o:Expr}{ta:TE}
end
section
end
def PE.imp {t t':TE}(h:PE X e t)(i:∀σ H Q,t' σ H Q->t σ H Q):PE X e t':=fun pins s σ H Q I q=>h pins s σ H Q I (i σ H Q q)
def PS.imp {e:Stmt}{t t':TS}(h:PS X e t)(i:∀D σ H,t' D σ H->t D σ H):PS X e t':=fun pins s σ H D I q=>h pins s σ H D I (i D σ H q)
def OpR.imp {f:Value->Value->Sem Value}{r':R2}(h:OpR X f r)(i:∀x y H Q,r' x y H Q->r x y H Q):OpR X f r':=fun pins s σ H x y v u Q I rx ry q=>h pins s σ H x y v u Q I rx ry (i x y H Q q)
def UnR.imp {f:Value->Sem Value}{r r':V->Hp->VK->Prop}(h:UnR X f r)(i:∀x H Q,r' x H Q->r x H Q):UnR X f r':=fun pins s σ H x v Q I rx q=>h pins s σ H x v Q I rx (i x H Q q)
def fD.imp {f:Value}{r r':List V->Hp->VK->Prop}(h:fD X f r)(i:∀xs H Q,r' xs H Q->r xs H Q):fD X f r':=fun pins s σ H xs us Q I rv q=>h pins s σ H xs us Q I rv (i xs H Q q)
def IxR.imp {r':R2}(h:IxR X r)(i:∀x y H Q,r' x y H Q->r x y H Q):IxR X r':=fun va sl pins s σ H x y v u Q I rx ry q hs=>h va sl pins s σ H x y v u Q I rx ry (i x y H Q q) hs
def oV (o:Option (Option V))(k:V->Prop):Prop:=@Option.rec (Option V) (fun _=>Prop) False (fun o=>@Option.rec V (fun _=>Prop) False k o) o
def vI (x:V)(k:Int->Prop):Prop:=@V.rec (fun _=>Prop) False (fun _=>False) k (fun _=>False) (fun _=>False) (fun _=>False) (fun _=>False) (fun _=>False) x
def vB (x:V)(k:Bool->Prop):Prop:=@V.rec (fun _=>Prop) False k (fun _=>False) (fun _=>False) (fun _=>False) (fun _=>False) (fun _=>False) (fun _=>False) x
def vR (x:V)(k:Addr->Prop):Prop:=@V.rec (fun _=>Prop) False (fun _=>False) (fun _=>False) (fun _=>False) (fun _=>False) (fun _=>False) k (fun _=>False) x
def l1 (vs:List V)(k:V->Prop):Prop:=@List.rec V (fun _=>Prop) False (fun x r _=>@List.rec V (fun _=>Prop) (k x) (fun _ _ _=>False) r) vs
def l2 (vs:List V)(k:V->V->Prop):Prop:=@List.rec V (fun _=>Prop) False (fun x r _=>l1 r fun y=>k x y) vs
def oV.ex {o:Option (Option V)}{k:V->Prop}(h:oV o k):∃v,o=some (some v)/\k v:=by
 cases o with
 |none=>exact h.elim
 | some o=>cases o with
  |none=>exact h.elim
  |some v=>exact⟨v,rfl,h⟩
def vI.ex {k:Int->Prop}(h:vI x k):∃i,x= .int i/\k i:=by
 cases x with
 |int i=>exact⟨i,rfl,h⟩
 |_=>exact h.elim
def vB.ex {k:Bool->Prop}(h:vB x k):∃i,x= .bl i/\k i:=by
 cases x with
 |bl i=>exact⟨i,rfl,h⟩
 |_=>exact h.elim
def vR.ex {k:Addr->Prop}(h:vR x k):∃i,x= .ref i/\k i:=by
 cases x with
 |ref i=>exact⟨i,rfl,h⟩
 |_=>exact h.elim
def l1.ex {vs:List V}{k:V->Prop}(h:l1 vs k):∃x,vs= [x]/\k x:=by
 match vs,h with
 |[x],h=>exact⟨x,rfl,h⟩
def l2.ex {vs:List V}{k:V->V->Prop}(h:l2 vs k):∃x y,vs= [x,y]/\k x y:=by
 match vs,h with
 |[x,y],h=>exact⟨x,y,rfl,h⟩
def c2E (i:Nat):TE:=fun σ H Q=>oV σ[i]? fun v=>Q v H
section
theorem dv (i:Nat){x:Str}{pos:Pos}(hN:X.N[i]? =some x:=by rfl)(hv:Vis X.env.scope x:=by first | exact Or.inl rfl | exact Or.inr (Or.inl rfl) | exact Or.inr (Or.inr rfl))(hd:(x == ("__debug__":Str))=false:=by decide)
  (hcd:(x == ("__classdict__":Str))=false:=by decide):PE X (.Name x pos) (c2E i):=(a6Q hN hv hd hcd).imp fun σ H Q h=>h.ex
def mI (C:Int->Int->Prop)(g:Int->Int->V):R2:=fun x y H Q=>vI x fun i=>vI y fun j=>C i j/\Q (g i j) H
def mI0 (g:Int->Int->V):R2:=fun x y H Q=>vI x fun i=>vI y fun j=>Q (g i j) H
def mI.to {C:Int->Int->Prop}{g:Int->Int->V}:∀x y H Q,mI C g x y H Q->rI C g x y H Q:=fun x y H Q h=>by
 obtain⟨i,rfl,h1⟩:=vI.ex h
 clear h
 obtain⟨j,rfl,h⟩:=vI.ex h1
 exact⟨_,_,rfl,rfl,h.1,h.2⟩
def mI0.to {g:Int->Int->V}:∀x y H Q,mI0 g x y H Q->rI0 g x y H Q:=fun x y H Q h=>by
 obtain⟨i,rfl,h1⟩:=vI.ex h
 clear h
 obtain⟨j,rfl,h⟩:=vI.ex h1
 exact⟨_,_,rfl,rfl,h⟩
def mU (g:Int->V):V->Hp->VK->Prop:=fun x H Q=>vI x fun i=>Q (g i) H
def mU.to {g:Int->V}:∀x H Q,mU g x H Q->rU g x H Q:=fun x H Q h=>vI.ex h
def cH:OpR X (binaryOp .Add) (mI0 fun i j=> .int (i+j)):=b5P.imp mI0.to
def iZ:OpR X (binaryOp .Sub) (mI0 fun i j=> .int (i-j)):=b5I.imp mI0.to
def iK:OpR X (binaryOp .Mult) (mI a1Z fun i j=> .int (i*j)):=b1K.imp mI.to
def b3Z:OpR X (binaryOp .FloorDiv) (mI c0P fun i j=> .int (i / j)):=b1L.imp mI.to
def pO:OpR X (binaryOp .Mod) (mI (fun _ j=>0<j) fun i j=> .int (i % j)):=b5L.imp mI.to
def b2U:OpR X (binaryOp .LShift) (mI c0O fun i j=> .int (i*2 ^ j.toNat)):=b1J.imp mI.to
def a0C:OpR X (binaryOp .RShift) (mI (fun _ j=>0<=j) fun i j=> .int (i / 2 ^ j.toNat)):=b5J.imp mI.to
def a0F:OpR X (binaryOp .BitAnd) (mI0 fun i j=> .int (Builtin.bitAnd i j)):=b5O.imp mI0.to
def b2T:OpR X (binaryOp .BitXor) (mI0 fun i j=> .int (Builtin.bitXor i j)):=b5H.imp mI0.to
def a0E:UnR X (unaryOp .USub) (mU fun i=> .int (-i)):=b4B.imp mU.to
def a4D:OpR X (compareOp .Lt) (mI0 fun i j=> .bl (decide (i<j))):=b8R.imp mI0.to
def xV:OpR X (compareOp .LtE) (mI0 fun i j=> .bl (decide (i<=j))):=b8S.imp mI0.to
def tL:OpR X (compareOp .Gt) (mI0 fun i j=> .bl (decide (j<i))):=b8T.imp mI0.to
def a4G:OpR X (compareOp .GtE) (mI0 fun i j=> .bl (decide (j<=i))):=b8U.imp mI0.to
def dI {j:Int}:decide (V.int i=V.int j)=decide (i=j):=by
 by_cases h:i=j
 ·rw[Yn h,Yn (YT V.int h)]
 ·rw[Yr h,Yr fun z=>h (V.int.inj z)]
def dS {i j:Str}:decide (V.str i=V.str j)=decide (i=j):=by
 by_cases h:i=j
 ·rw[Yn h,Yn (YT V.str h)]
 ·rw[Yr h,Yr fun z=>h (V.str.inj z)]
def dB {i j:Bool}:decide (V.bl i=V.bl j)=decide (i=j):=by
 by_cases h:i=j
 ·rw[Yn h,Yn (YT V.bl h)]
 ·rw[Yr h,Yr fun z=>h (V.bl.inj z)]
def eqW (f:Bool->Prop)(x y:V):Prop:=@V.rec (fun _=>Prop)
 (@V.rec (fun _=>Prop) (f true) (fun _=>False) (fun _=>f false) (fun _=>f false) (fun _=>False) (fun _=>False) (fun _=>False) (fun _=>False) y)
 (fun i=>@V.rec (fun _=>Prop) False (fun j=>f (decide (i=j))) (fun _=>False) (fun _=>False) (fun _=>False) (fun _=>False) (fun _=>False) (fun _=>False) y)
 (fun i=>@V.rec (fun _=>Prop) (f false) (fun _=>False) (fun j=>f (decide (i=j))) (fun _=>f false) (fun _=>False) (fun _=>False) (fun _=>False) (fun _=>False) y)
 (fun i=>@V.rec (fun _=>Prop) (f false) (fun _=>False) (fun _=>f false) (fun j=>f (decide (i=j))) (fun _=>False) (fun _=>False) (fun _=>False) (fun _=>False) y)
 (fun _=>False) (fun _=>False) (fun _=>False) (fun _=>False) x
def eqW.ex {f:Bool->Prop}{y:V}(h:eqW f x y):b4T x y=true/\f (decide (x=y)):=by
 cases x with
 |non=>cases y <;> first | exact h.elim | exact⟨rfl,h⟩
 |bl i=>cases y <;> first | exact h.elim | (exact⟨rfl,by rw[dB];exact h⟩)
 |int i=>cases y <;> first | exact h.elim | exact⟨rfl,h⟩ | (exact⟨rfl,by rw[dI];exact h⟩)
 |str i=>cases y <;> first | exact h.elim | exact⟨rfl,h⟩ | (exact⟨rfl,by rw[dS];exact h⟩)
 |_=>exact h.elim
def mEq:R2:=fun x y H Q=>eqW (fun b=>Q (.bl b) H) x y
def mNe:R2:=fun x y H Q=>eqW (fun b=>Q (.bl (!b)) H) x y
def dO:OpR X (compareOp .Eq) mEq:=b8V.imp fun x y H Q h=>eqW.ex (f:=fun b=>Q (.bl b) H) h
def oX:OpR X (compareOp .NotEq) mNe:=b8Q.imp fun x y H Q h=>eqW.ex (f:=fun b=>Q (.bl (!b)) H) h
def vN (x:V)(k:Prop):Prop:=@V.rec (fun _=>Prop) k (fun _=>False) (fun _=>False) (fun _=>False) (fun _=>False) (fun _=>False) (fun _=>False) (fun _=>False) x
def vN.ex {k:Prop}(h:vN x k):x= .non/\k:=by
 cases x with
 |non=>exact⟨rfl,h⟩
 |_=>exact h.elim
def c1S:R2:=fun x y H Q=>vN y (Q (.bl (decide (x= .non))) H)
def b2W:OpR X (compareOp .Is) c1S:=b5M.imp fun x y H Q h=>vN.ex h
section
variable {a b c:Expr}{ta tb tc:TE}{rest:List Expr}
def pQ {k:Bool->Prop}:vB x k=∃i,x= .bl i/\k i:=propext ⟨vB.ex,fun ⟨i,e,h⟩=>by subst e;exact h⟩
def qR (t:TE):TT:=fun σ H Q=>t σ H fun x H'=>vB x fun k=>Q k H'
def xG (t:TE):qR t=a0J t:=by
 funext σ H Q
 unfold qR a0J
 simp only[pQ]
def a3T (t:TE):qR t=tB t:=by
 funext σ H Q
 unfold qR tB
 simp only[pQ]
def aW {op:CmpOp}(ho:OpR X (compareOp op) r)(ha:PE X a ta)(hb:PE X b tb)(hm:behindInMarks op b=false):PT X (.Compare a [op] [b] pos) (qR (tOp r ta tb)):=by
 rw[xG];exact b0Z ho ha hb hm
def cR {t:TE}(h:PE X e t)(he:∀whole,isTrue e X.env whole=(do let v<-whole;standAt e.pos;holding [v] (truthy v)):=by intro _;rfl):PT X e (qR t):=by
 rw[a3T];exact b4Z h he
def b7A (ta tb:TE):TE:=fun σ H Q=>ta σ H fun x H1=>vB x fun c=>if c=true then tb σ H1 Q else Q (.bl false) H1
def b6W (ta:TE):TE:=fun σ H Q=>ta σ H fun x H1=>vB x fun c=>Q (.bl (!c)) H1
def b2I:b7A ta tb=a4T ta tb:=by
 funext σ H Q
 unfold b7A a4T
 simp only[pQ]
def b2F:b6W ta=a4R ta:=by
 funext σ H Q
 unfold b6W a4R
 simp only[pQ]
def a7P (ha:PE X a ta)(hb:PE X (.BoolOp .And (b::rest) pos) tb):PE X (.BoolOp .And (a::b::rest) pos) (b7A ta tb):=by
 rw[b2I];exact b5F ha hb
def b6A (ha:PE X a ta):PE X (.UnaryOp .Not a pos) (b6W ta):=by
 rw[b2F];exact b5E ha
end
def SqA (K:W.Frag)(H:Hp)(a:Addr)(xs:List V):Prop:=SqL K H a xs\/SqT K H a xs
def b9I (K:W.Frag):R2:=fun x y H Q=>vR x fun p=>vI y fun i=>∃xs v,SqL K H p xs/\atI xs i=some v/\Q v H
def b9H (K:W.Frag):R2:=fun x y H Q=>vR x fun p=>vI y fun i=>∃xs v,SqT K H p xs/\atI xs i=some v/\Q v H
def dJ:IxR X (b9I X.K):=b1X.imp fun x y H Q h=>by
 obtain⟨p,rfl,h⟩:=vR.ex h
 obtain⟨i,rfl,xs,v,h1,h2,h3⟩:=vI.ex h
 exact⟨_,xs,_,v,rfl,rfl,h1,h2,h3⟩
def dX:IxR X (b9H X.K):=b6H.imp fun x y H Q h=>by
 obtain⟨p,rfl,h⟩:=vR.ex h
 obtain⟨i,rfl,xs,v,h1,h2,h3⟩:=vI.ex h
 exact⟨_,xs,_,v,rfl,rfl,h1,h2,h3⟩
def b9G (K:W.Frag):List V->Hp->VK->Prop:=fun xs H Q=>l1 xs fun x=>vR x fun p=>∃ys,SqA K H p ys/\Q (.int ys.length) H
def cU:fD X (.builtin "len") (b9G X.K):=uL.imp fun xs H Q h=>by
 obtain⟨x,rfl,h⟩:=l1.ex h
 obtain⟨p,rfl,ys,h1,h2⟩:=vR.ex h
 exact⟨_,ys,rfl,h1,h2⟩
def a1B (K:W.Frag):List V->Hp->VK->Prop:=fun xs H Q=>l1 xs fun x=>vR x fun p=>∃ys,SqA K H p ys/\∀l,H l=none->Q (.ref l) (upd H l (.lst ys))
def fH:fD X (.type "list") (a1B X.K):=uK.imp fun xs H Q h=>by
 obtain⟨x,rfl,h⟩:=l1.ex h
 obtain⟨p,rfl,ys,h1,h2⟩:=vR.ex h
 exact⟨_,ys,rfl,h1,h2⟩
def b9E:List V->Hp->VK->Prop:=fun xs H Q=>l2 xs fun x y=>vI x fun i=>vI y fun j=>Q (.int (min i j)) H
def b9F:List V->Hp->VK->Prop:=fun xs H Q=>l2 xs fun x y=>vI x fun i=>vI y fun j=>Q (.int (max i j)) H
def b3X (hc:X.calm=true):fD X (.builtin "min") b9E:=(a3V hc).imp fun xs H Q h=>by
 obtain⟨x,y,rfl,h⟩:=l2.ex h
 obtain⟨i,rfl,h⟩:=vI.ex h
 obtain⟨j,rfl,h⟩:=vI.ex h
 refine⟨_,_,rfl,?_⟩
 have e:(if j<i then j else i)=min i j:=by omega
 rw[e];exact h
def b3Y (hc:X.calm=true):fD X (.builtin "max") b9F:=(a3W hc).imp fun xs H Q h=>by
 obtain⟨x,y,rfl,h⟩:=l2.ex h
 obtain⟨i,rfl,h⟩:=vI.ex h
 obtain⟨j,rfl,h⟩:=vI.ex h
 refine⟨_,_,rfl,?_⟩
 have e:(if j > i then j else i)=max i j:=by omega
 rw[e];exact h
def b9O (T:String)(f:V->Hp->VK->Prop):List V->Hp->VK->Prop:=fun xs H Q=>l2 xs fun x c=>c= .ty T/\f x H Q
def a7S:V->Hp->VK->Prop:=fun x H Q=>@V.rec (fun _=>Prop) False (fun _=>False) (fun _=>Q (.bl false) H) (fun _=>Q (.bl false) H) (fun _=>False) (fun _=>False) (fun p=>(∃xs,H p=some (.lst xs))/\Q (.bl true) H) (fun _=>False) x
end
section
def uE:W.kitOne K (.type "int") (.type "list")=some false:=by first | rfl | decide +kernel
def uD:W.kitOne K (.type "str") (.type "list")=some false:=by first | rfl | decide +kernel
end
section
def b6I {T:String}{f:V->Hp->VK->Prop}(h:∀x H Q,f x H Q->∃t b,nU X.K H x t/\W.kitOne X.K t (.type T)=some b/\Q (.bl b) H):fD X (.builtin "isinstance") (b9O T f):=a9C.imp fun xs H Q q=>by
 obtain⟨x,c,rfl,q⟩:=l2.ex q
 obtain⟨ec,q2⟩:=q
 subst ec
 obtain⟨t,b,h1,h2,h3⟩:=h x H Q q2
 exact⟨_,_,_,t,b,rfl,rfl,h1,h2,h3⟩
def xW:fD X (.builtin "isinstance") (b9O "list" a7S):=b6I fun x H Q q=>by
 cases x with
 |int i=>exact⟨_,_,.int _,uE,q⟩
 |str i=>exact⟨_,_,.str _,uD,q⟩
 | ref p=>
  obtain⟨⟨xs,hp⟩,q⟩:=q
  exact⟨_,_,.lst hp,rG,q⟩
 |_=>exact q.elim
def b8A (t:TA):TA:=fun σ H Q=>∃P:List V->Hp->Prop,t σ H P/\∀x H',P x H'->Q x H'
def qF (h:PA X es t):PA X es (b8A t):=by
 intro pos pins s σ H Q I hw
 obtain⟨P,h1,h2⟩:=hw
 exact thn (h pos pins s σ H P I h1) fun v s1 ⟨x,H1,I1,r,q⟩=>⟨x,H1,I1,r,h2 x H1 q⟩
section
variable {o:Expr}{to:TE}{apos cpos:Pos}
def dBl (to:TE):TE:=fun σ H Q=>to σ H fun x H1=>vI x fun i=>Q (.int ((Builtin.Int.intBits i:Nat):Int)) H1
theorem a1A (ho:PE X o to)(hbase:attributeBase o "bit_length" X.env (eval o X.env)=eval o X.env:=by rfl)(hline:(apos.endLine == cpos.line)=true:=by rfl):
  PE X (.Call (.Attribute o "bit_length" apos) [] [] cpos) (dBl to):=
 (a6Z PySem.F.plainAttrs_int PySem.F.slot_int_bit_length PySem.F.type_int_bit_length b9B (cB ho) hbase hline).imp fun σ H Q h=>⟨_,h,fun x H1 q=>by
  obtain⟨i,rfl,q⟩:=vI.ex q
  exact⟨rfl,i,rfl,rfl,q⟩⟩
def b2H (K:W.Frag)(to:TE)(t:TA):TE:=fun σ H Q=>to σ H fun x H1=>vR x fun l=>(∃xs,SqL K H1 l xs)/\t σ H1 fun vs H2=>l1 vs fun y=>∃xs,H2 l=some (.lst xs)/\xs.length<sizeLine/\Q .non (upd H2 l (.lst (xs++[y])))
theorem bY (ho:PE X o to)(ha:PA X [e] t)(hbase:attributeBase o "append" X.env (eval o X.env)=eval o X.env:=by rfl)
  (hfew:((backTo cpos (starEach [e] X.env)).all (fun x=>!x.1) && (backToKw cpos (keywordEach [] X.env)).all (fun x=>x.1.isSome)
   && decide (([e]:List Expr).length+([]:List Keyword).length+(if ([]:List Keyword).isEmpty then 0 else 1)<30))=true:=by rfl)
  (hline:(apos.endLine == cpos.line)=true:=by rfl) (hs:starEach [e] X.env=(false,eval e X.env)::starEach [] X.env:=by rfl) (hplain:(backTo cpos (starEach [] X.env)).any (·.1)=false:=by rfl) :
  PE X (.Call (.Attribute o "append" apos) [e] [] cpos) (b2H X.K to t):=
 (a7A X5 PySem.F.slot_list_append PySem.F.type_list_append a3A (cB ho) (qF ha) hbase hfew hline hs hplain).imp fun σ H Q h=>⟨_,h,fun x H1 q=>by
  obtain⟨l,rfl,q1,q2⟩:=vR.ex q
  refine⟨.inl ⟨rfl,q1⟩,_,q2,fun vs H2 q3=>?_⟩
  obtain⟨y,rfl,xs,h1,h2,h3⟩:=l1.ex q3
  exact⟨l,xs,y,rfl,rfl,h1,h2,h3⟩⟩
def c0C (t:TE):TO:=fun σ H Q=>t σ H fun x H1=>vI x fun i=>Q (some i) H1
def PO.imp {e:Option Expr}{t t':TO}(h:PO X e t)(i:∀σ H Q,t' σ H Q->t σ H Q):PO X e t':=fun pins s σ H Q I q=>h pins s σ H Q I (i σ H Q q)
def iR (h:PE X e to):PO X (some e) (c0C to):=(b1E (cB h)).imp fun σ H Q q=>⟨_,q,fun x H1 z=>vI.ex z⟩
def b9C (K:W.Frag):V->Option Int->Option Int->Hp->VK->Prop:=fun x lo hi H Q=>vR x fun a=>∃xs,SqL K H a xs/\∀p,H p=none->Q (.ref p) (upd H p (.lst (jM xs lo hi)))
def SlR.imp {r r':V->Option Int->Option Int->Hp->VK->Prop}(h:SlR X r)(i:∀x lo hi H Q,r' x lo hi H Q->r x lo hi H Q):SlR X r':=by
 intro pins s σ H x v vl vu lo hi sl Q I rx hs pl pu q
 exact h pins s σ H x v vl vu lo hi sl Q I rx hs pl pu (i _ _ _ _ _ q)
def uW:SlR X (b9C X.K):=b0P.imp fun x lo hi H Q h=>by
 obtain⟨a,rfl,xs,h1,h2⟩:=vR.ex h
 exact⟨_,xs,rfl,h1,h2⟩
variable {tg:Expr}
def PI.imp {iter:Expr}{w w':TI}(h:PI X tg iter w)(i:∀σ H R,w' σ H R->w σ H R):PI X tg iter w':=fun pins s σ H R I q=>h pins s σ H R I (i σ H R q)
def b3S (K:W.Frag)(tl:TE):TI:=fun σ H R=>tl σ H fun x H1=>vR x fun a=>(∃xs,SqL K H1 a xs)/\R (Itl K a) H1
def cY {l:Expr}{tl:TE}(hl:PE X l tl):PI X tg l (b3S X.K tl):=(b1F (cB hl)).imp fun σ H R h=>⟨_,h,fun x H1 q=>vR.ex q⟩
def c0B (ta:TA):TI:=fun σ H R=>ta σ H fun vs H1=>l1 vs fun x=>vI x fun j=>(-(2 ^ 62)<=j/\j<2 ^ 62)/\R (Itr 0 j.toNat) H1
def cJ {a:Expr}{ta:TA}{p:Pos}(hg:Gl X "range")(hm:X.mg "range"=none)(ha:PA X [a] ta)(hs:starEach [a] X.env= [(false,eval a X.env)]:=by rfl):PI X tg (.Call (.Name "range" p) [a] [] pos) (c0B ta):=
 (a2U hg hm (qF ha) hs).imp fun σ H R h=>⟨_,h,fun vs H1 q=>by
  obtain⟨x,rfl,q⟩:=l1.ex q
  obtain⟨j,rfl,q⟩:=vI.ex q
  exact⟨j,rfl,q.1.1,q.1.2,q.2⟩⟩
def b9D:V->V->V->Hp->(Hp->Prop)->Prop:=fun o i v H Q=>vR o fun p=>vI i fun k=>∃xs j,H p=some (.lst xs)/\ixN xs.length k=some j/\Q (upd H p (.lst (xs.set j v)))
def b3W:b7O X b9D:=fun pins s σ H o i v vo vi vv Q I ro ri rv h=>set_list pins s σ H o i v vo vi vv Q I ro ri rv (by
 obtain⟨p,rfl,h⟩:=vR.ex h
 obtain⟨k,rfl,xs,j,h1,h2,h3⟩:=vI.ex h
 exact⟨_,xs,_,j,rfl,rfl,h1,h2,h3⟩)
end
end
section
variable {M:Model}{E:Value->Shared->Prop}{B:Heap}{l:List Env}{L e:Addr}{k a0 fl:Value}{od:Option Addr}
end
def jA (N:List Str)(ix:List Nat):List Str:=ix.map fun i=>N.getD i ""
def fM (σ:St)(ix:List Nat):St:=ix.map fun i=>σ.getD i none
def zO (X:Cx)(scope:Scope)(cl:List (Str×Addr))(C:Addr):Value->Shared->Prop:=notedBy (model X.prog X.w) X.A (compEnvC scope cl C X.env) fun e s'=>
 ∃m,s'.heap.Ns C m/\∀h',Heap.SameBut C s'.heap h'->∀cenv:Env,cenv.locals=C->wpAny (model X.prog X.w) X.A (PySem.passOn "comprehension.variables-let-go" e cenv:Sem Value) (fun _ _=>False) X.xe { s' with heap:=h' }
def cX (X:Cx)(scope:Scope)(cl:List (Str×Addr))(x:Str)(ix:List Nat)(C:Addr)(fp:List Addr)(s₀:Shared)(H₀:Hp):Cx:=
 { X with N:=x::jA X.N ix,s₀:=s₀,H₀:=H₀,env:=compEnvC scope cl C X.env,outer:=X.stack,ex:=fp,fn:=fun _=>false,pn:=[],xe:=zO X scope cl C }
structure eG (X:Cx)(scope:Scope)(cl:List (Str×Addr))(x:Str)(ix:List Nat):Prop where
 clos:closureFor scope X.env=pure cl
 kind:scope.kind= .function
 loc:scope.names.lookup x=some .local
 one:∀y∈scope.names,y.2= .local->y.1=x\/y.1=".0"
 locs:∀y∈scope.names,y.2= .local->scope.names.lookup y.1=some .local
 nocell:∀y∈scope.names,y.2≠ .cell
 free:∀y∈scope.names,y.2= .free->(X.env.kindOf y.1=some .cell\/X.env.kindOf y.1=some .free)
 cells:∀y∈scope.names,y.2= .free->∃c,cl.lookup y.1=some c
 same:∀y∈cl,X.env.cells.lookup y.1=some y.2
 nd:((".0":Str)::x::jA X.N ix).Nodup
theorem lookup_mem {α β:Type}[BEq α][LawfulBEq α]{a:α}{b:β}:∀{l:List (α×β)},l.lookup a=some b->(a,b)∈l
 |[],h=>by simp at h
 | (c,d)::r,h=>by
  rw[Y3]at h
  cases e:a == c with
  | true=>
   rw[e]at h
   cases h
   rw[eq_of_beq e];exact Yq
  | false=>
   rw[e]at h
   exact Yw _ (lookup_mem h)
def cN {k:NameKind}(h:(relabel scope env).names.lookup y=some k):∃k0,scope.names.lookup y=some k0/\(k=k0\/(k0= .free/\k= .cell)):=by
  have gen :∀(names:List (Str×NameKind)),(names.map fun (n,k)=>if (k == NameKind.free && env.scope.kind == .function && env.kindOf n == some .cell) then (n,NameKind.cell) else (n,k)).lookup y=some k->
      ∃k0,names.lookup y=some k0/\(k=k0\/(k0= .free/\k= .cell)):=by
    intro names
    induction names with
    |nil=>intro h;simp at h
    | cons p r ih=>
      obtain⟨n,k1⟩:=p
      intro h
      rw[YR]at h
      dsimp only at h
      cases hc:(k1 == NameKind.free && env.scope.kind == .function && env.kindOf n == some .cell) with
      | true=>
        rw[hc,if_pos rfl,Y3]at h
        rw[Y3]
        cases e:y == n with
        | true=>
          rw[e]at h
          cases h
          simp only[XF]at hc
          exact⟨k1,rfl,.inr ⟨eq_of_beq hc.1.1,rfl⟩⟩
        | false=>
          rw[e]at h
          exact ih h
      | false=>
        rw[hc,if_neg Ys,Y3]at h
        rw[Y3]
        cases e:y == n with
        | true=>
          rw[e]at h
          cases h
          exact⟨k,rfl,.inl rfl⟩
        | false=>
          rw[e]at h
          exact ih h
  exact gen scope.names h
section
variable {cl:List (Str×Addr)}{x:Str}{fp:List Addr}
def eG.look (S:eG X scope cl x ix){c:Addr}(h:cl.lookup y=some c):X.env.cells.lookup y=some c:=S.same _ (lookup_mem h)
theorem eG.ok (S:eG X scope cl x ix){pins:List (Addr×Obj)}{σ:St}(I:Inv X pins σ H s)(hf:∀b∈fp,lG X pins H b)(hfl:∀b∈fp,b<s.heap.objs.size)(hC:s.heap.objs.size<=C):
  (cX X scope cl x ix C fp s H).Ok where
 mod:=I.ok.mod
 kind:=S.kind
 glob:=I.ok.glob
 blt:=I.ok.blt
 above:=hC
 inj:=fun y z c h1 h2=>I.ok.inj y z c (S.look h1) (S.look h2)
 has := fun y h=>by
  have h':(relabel scope X.env).names.lookup y=some .cell\/(relabel scope X.env).names.lookup y=some .free:=h
  have fr:scope.names.lookup y=some .free:=by
   rcases h' with h' | h'
   ·obtain⟨k0,e,q | q⟩:=cN h'
    ·exact absurd rfl (q▸S.nocell _ (lookup_mem e))
    ·rw[e,q.1]
   ·obtain⟨k0,e,q | q⟩:=cN h'
    ·rw[e,<-q]
    ·cases q.2
  exact S.cells _ (lookup_mem fr) rfl
 cab:=fun y c h=>absurd h Ys
 hd:=I.ok.hd
 frames:=I.ok.frames
 stk:= .inl rfl
 exf:=fun b hb=>⟨YD (Yf (hfl b hb) hC),fun y c e=>(hf b hb).2.2.2.2.1 y c (S.look e)⟩
 bs:=I.bs
 bsz:=Y1 I.ok.bsz I.sz
 noex:=fun b o e hb=>by
  rcases (hf b hb).2.2.2.1 with z | z
  ·exact I.ok.noex b o e z
  ·exact absurd (Yf (Yo e) (Y1 I.ok.bsz z)) (YS _)
 exfs:=fun b hb z=>by
  rcases YH.mp (I.stkSub b z) with e | e
  ·exact(hf b hb).2.1 e
  ·exact(hf b hb).2.2.1 e
 funs:=I.stack
 frf:=I.stkFree
def vM {j:Nat}(h:(jA N ix)[j]? =some y):∃i,ix[j]? =some i/\y=N.getD i "":=by
 unfold jA at h
 rw[Yk]at h
 cases e:ix[j]? with
 |none=>rw[e]at h;cases h
 |some i=>rw[e]at h;cases h;exact⟨i,rfl,rfl⟩
def vL {σ:St}{j:Nat}{v:V}(h:(fM σ ix)[j]? =some (some v)):∃i,ix[j]? =some i/\σ[i]? =some (some v):=by
 unfold fM at h
 rw[Yk]at h
 cases e:ix[j]? with
 |none=>rw[e]at h;cases h
 | some i=>
  rw[e]at h
  have h':σ.getD i none=some v:=by simpa using h
  refine⟨i,rfl,?_⟩
  rw[Ye]at h'
  cases e2:σ[i]? with
  |none=>rw[e2]at h';cases h'
  |some u=>rw[e2]at h';exact YT some h'
theorem eG.inv (S:eG X scope cl x ix){pins:List (Addr×Obj)}{σ:St}{H:Hp}{s s1:Shared}{m:Str->Option Value}(I:Inv X pins σ H s)(hf:∀b∈fp,lG X pins H b)(hfl:∀b∈fp,b<s.heap.objs.size)
  (hC:s.heap.objs.size<=C) (os:s1.os=s.os) (bare:AllBare s1.gens) (k:∀b o,s.heap.get? b=some o->s1.heap.get? b=some o) (hn:s1.heap.Ns C m) :
  Inv (cX X scope cl x ix C fp s H) [] (none::fM σ ix) H s1 where
 ok:=S.ok I hf hfl hC
 os:=os
 bare:=bare
 base:=Un.kept k
 loc := ⟨m, hn,fun i y v h1 h2 h3=>by
  cases i with
  |zero=>cases (show none=some v from Yp h2)
  | succ j =>
   obtain⟨i,e1,e2⟩:=vM (N:=X.N) (show (jA X.N ix)[j]? =some y from h1)
   obtain⟨i',e1',e3⟩:=vL (σ:=σ) (show (fM σ ix)[j]? =some (some v) from h2)
   rw[e1]at e1';cases e1'
   have hi:i<X.N.length:=by rw[<-I.len];exact(Yg.mp e3).1
   have hy:X.N[i]? =some y:=by rw[e2,Ye,Yc hi];rfl
   have ne:y≠x:=by
    rintro rfl
    have nd:=(YW.mp S.nd).2
    exact(YW.mp nd).1 (Yx (show (jA X.N ix)[j]? =some y from h1))
   have h3':(relabel scope X.env).names.lookup y=some .local\/(relabel scope X.env).names.lookup y=some .cell\/(relabel scope X.env).names.lookup y=some .free:=h3
   have fr :scope.names.lookup y=some .free/\((relabel scope X.env).names.lookup y=some .cell\/(relabel scope X.env).names.lookup y=some .free):=by
    rcases h3' with z | z | z
    ·obtain⟨k0,e,q | q⟩:=cN z
     ·rcases S.one _ (lookup_mem e) q.symm with z | z
      ·exact absurd z ne
      ·have z':y=".0":=z
       exact absurd (Yw _ (Yx (show (jA X.N ix)[j]? =some y from h1))) (z'▸(YW.mp S.nd).1)
     ·cases q.2
    ·obtain⟨k0,e,q | q⟩:=cN z
     ·exact absurd rfl (q▸S.nocell _ (lookup_mem e))
     ·exact⟨by rw[e,q.1],.inl z⟩
    ·obtain⟨k0,e,q | q⟩:=cN z
     ·exact⟨by rw[e,<-q],.inr z⟩
     ·cases q.2
   have vis:=S.free _ (lookup_mem fr.1) rfl
   obtain⟨m0,_,l0⟩:=I.loc
   obtain⟨u,r,l⟩:=l0 i y v hy e3 (vis.elim (fun z=> .inr (.inl z)) fun z=> .inr (.inr z))
   refine⟨u,r,.inr ⟨fr.2,?_⟩⟩
   rcases l with ⟨k1,_⟩ | ⟨_,c,ec,oc,hoc,hd⟩
   ·rcases vis with z | z
    ·have:=k1.symm.trans z;cases this
    ·have:=k1.symm.trans z;cases this
   ·obtain⟨c',e'⟩:=S.cells _ (lookup_mem fr.1) rfl
    have:some c'=some c:=(S.look e').symm.trans ec
    cases this
    exact⟨c,e',oc,k _ _ hoc,hd⟩⟩
 cell:=fun y c e=>by
  obtain⟨v,oc,hoc,hd⟩:=I.cell y c (S.look e)
  exact⟨v,oc,k _ _ hoc,hd⟩
 free:=I.hok.fresh hC
 freeC:=fun y c e=>I.freeC y c (S.look e)
 pin:=fun p hp=>absurd (show p∈([]:List (Addr×Obj)) from hp) (by simp)
 hok:=I.hok.kept k
 len:=by show (none::fM σ ix).length=(x::jA X.N ix).length;simp[fM,jA]
end
def PTs (X:Cx)(ifs:List Expr)(t:TT):Prop:=
 ∀ (pins:List (Addr×Obj))(s:Shared)(σ:St)(H:Hp)(Q:Bool->Hp->Prop),Inv X pins σ H s->t σ H Q->
  wpAny (model X.prog X.w) X.A (forIn ifs true fun c r=>if r=true then do let ok<-isTrue c X.env (eval c X.env);pure (ForInStep.yield ok) else pure (ForInStep.yield r)) (TP X pins σ Q) X.xe s
def c0T:TT:=fun _ H Q=>Q true H
def dU:PTs X [] c0T:=fun _ _ _ H _ I h=>wpAny_tests_nil ⟨H,I,h⟩
def a0Q {c:Expr}{t:TT}(h:PT X c t):PTs X [c] t:=fun pins s σ H Q I hw=>wpAny_tests_one (h pins s σ H Q I hw)
section
variable {prog:Program}{R:Result->Shared->Prop}
theorem nO {elt target iter:Expr}{ifs:List Expr}{scope:Scope}{pos:Pos}{it acc:Value}{env:Env}(I:Nat->Shared->Prop)
    (turn : ∀ n s,I n s->wpAny (model prog w) A (pyNext it) (fun r s₁=>match r with
      |none=>R (.ok .next) s₁
      | some v =>wpAny (model prog w) A (letOwnedTupleGo target it v) (fun _ s₀=>wpAny (model prog w) A (assign target env v) (fun _ s₂=>
          wpAny (model prog w) A (forIn ifs true fun c r=>if r=true then do let ok<-isTrue c env (eval c env);pure (ForInStep.yield ok) else pure (ForInStep.yield r)) (fun ok s₃=>
            if ok=true then wpAny (model prog w) A (eval elt env) (fun x s₄=>
              wpAny (model prog w) A (call (.builtin "list.append") [acc,x]) (fun _ s₅=>∃m,m<n/\I m s₅) (notedBy (model prog w) A env fun e s'=>R (.error e) s') s₄) (notedBy (model prog w) A env fun e s'=>R (.error e) s') s₃
            else ∃m,m<n/\I m s₃) (notedBy (model prog w) A env fun e s'=>R (.error e) s') s₂) (notedBy (model prog w) A env fun e s'=>R (.error e) s') s₀) (notedBy (model prog w) A env fun e s'=>R (.error e) s') s₁) (notedBy (model prog w) A env fun e s'=>R (.error e) s') s)
    (n:Nat) (h:I n s) :
    codeAny (model prog w) A (.compLoop (.ListComp elt [⟨target,iter,ifs,0⟩] scope pos) 0 it acc env) R s:=by
  refine codeAny_loop rfl I (fun n s hI=>?_) n h
  show wpAny _ A ((compTurn (.ListComp elt [⟨target,iter,ifs,0⟩] scope pos) 0 it acc env).onRaise (fun x=>do noteFrame x env;theTreesLotGoes x)) _ _ s
  refine wpAny_noted ?_
  rw[compTurn_list]
  refine YJ (wpAny_standAt (YJ (Y5 (turn n s hI) (fun r s₁ h₁=>?_) fun _ _ h'=>h')))
  cases r with
  |none=>exact Y6 h₁
  | some v=>
    refine YJ (Y5 h₁ (fun _ s₀ h₀=>?_) fun _ _ h'=>h')
    refine YJ (Y5 h₀ (fun _ s₂ h₂=>YJ (Y5 h₂ (fun ok s₃ h₃=>?_) fun _ _ h'=>h')) fun _ _ h'=>h')
    cases ok with
    |false=>exact Y6 ⟨rfl,h₃⟩
    | true=>
      exact YJ (YJ (Y5 h₃ (fun x s₄ h₄=>YJ (Y5 h₄ (fun _ s₅ h₅=>Y6 (Y6 ⟨rfl,h₅⟩)) fun _ _ h'=>h')) fun _ _ h'=>h'))
end
def oU (J:It)(tt:TT)(te:TE)(σc:V->St)(H1:Hp)(Q:VK):Prop:=∃W:Nat->Nat->List V->Hp->Prop,(∃m,W 0 m [] H1)/\∀i m ys H,W i m ys H->ys.length<sizeLine/\
  ((J.stop i H/\∀p,H p=none->Q (.ref p) (upd H p (.lst ys)))\/
   (J.go i H/\∃N:List V->Hp->Prop,(∀ys' H',N ys' H'->∃m',m'<m/\W (i+1) m' ys' H')/\∀x H',J.yld i H x H'->tt (σc x) H' fun b H3=>if b=true then te (σc x) H3 fun y H4=>N (ys++[y]) H4 else N ys H3))
structure gY (X:Cx)(C:Addr)(fp:List Addr)(s:Shared)(H:Hp):Prop where
 inv:∃pins σ,Inv X pins σ H s/\∀b∈fp,lG X pins H b
 low:∀b∈fp,b<s.heap.objs.size
 up:s.heap.objs.size<=C
def a4S (ix:List Nat)(wi:TI)(tt:TT)(te:TE):TE:=fun σ H Q=>wi σ H fun J H1=>oU J tt te (fun x=>some x::fM σ ix) H1 Q
section
variable {cl:List (Str×Addr)}{x:Str}{elt iter:Expr}{ifs:List Expr}{px:Pos}{wi:TI}{tt:TT}{te:TE}
theorem qU (S:eG X scope cl x ix)(hc:X.calm=true)
    (ht:∀C fp s H,gY X C fp s H->PTs (cX X scope cl x ix C fp s H) ifs tt) (he:∀C fp s H,gY X C fp s H->PE (cX X scope cl x ix C fp s H) elt te)
    {pins:List (Addr×Obj)} {σ:St} {Q:VK} {itv:Value} {s2:Shared} {E:Value->Shared->Prop} {RR:Value->Addr->Result->Shared->Prop} (h2:PIE X pins σ (.Name x px) (fun J H1=>oU J tt te (fun x=>some x::fM σ ix) H1 Q) itv s2)
    (fin:∀(D C:Addr)(H:Hp)(s':Shared)(m:Str->Option Value),Inv X pins σ H s'->s'.heap.Ns C m->H C=none->s2.heap.objs.size<=C->(∀p∈X.pn++pins,p.1≠C)->X.env.locals≠C->(∀y c,X.env.cells.lookup y=some c->c≠C)->X.s₀.heap.objs.size<=C->Q (.ref D) H->RR (.ref D) C (.ok .next) s')
    (fex:∀(D C:Addr)(e:Value)(s':Shared),zO X scope cl C e s'->notedBy (model X.prog X.w) X.A (compEnvC scope cl C X.env) (fun e s'=>RR (.ref D) C (.error e) s') e s') :
    wpAny (model X.prog X.w) X.A (newList []) (fun acc s₃=>wpAny (model X.prog X.w) X.A (newFunctionEnv scope X.env.globals cl [] X.env.qual none .none (some X.env)) (fun cenv s₄=>
      codeAny (model X.prog X.w) X.A (.compStart (.ListComp elt [⟨.Name x px,iter,ifs,0⟩] scope pos) 0 itv acc { cenv with scope:=relabel scope X.env }) (RR acc cenv.locals) s₄) E s₃) E s2:=by
  obtain⟨it,fp,tn,J,H2,rfl,I2,T,st2,f2,W,⟨m0,w0⟩,turn⟩:=h2
  have hfl:∀b∈fp,b<s2.heap.objs.size:=fun b hb=>by
    obtain⟨o,e,_⟩:=T.obj _ _ st2 b hb
    exact Yo e
  refine wpAny_newObj_type (wpAny_newFunctionEnv S.nocell (by intro y hy;simp at hy) (fun h₁ hns₁ hsb₁=>?_) S.kind)
  dsimp only at hns₁ hsb₁ ⊢
  generalize hH2:s2.heap.push { cls:= .type "list",dict:=none,data:= .seq ([]:List Value).toArray }=G2 at hns₁ hsb₁ ⊢
  have hC:G2.objs.size=s2.heap.objs.size+1:=by rw[<-hH2,XU]
  have hDC:s2.heap.objs.size≠G2.objs.size:=by rw[hC];exact YD (Xi _)
  have hCle:s2.heap.objs.size<=G2.objs.size:=by rw[hC];exact Xx _
  have below:∀b,b<s2.heap.objs.size->b≠G2.objs.size/\b≠s2.heap.objs.size:=fun b hb=>⟨by rw[hC];exact YD (Xy hb),YD hb⟩
  have at0:gY X G2.objs.size fp s2 H2:=⟨⟨pins,σ,I2,f2⟩,hfl,hCle⟩
  have old:∀b o,s2.heap.get? b=some o->h₁.get? b=some o:=fun b o e=>hsb₁.extBut b o (below b (Yo e)).1 (Ym _ (hH2▸Ym _ e))
  have hacc:h₁.get? s2.heap.objs.size=some { cls:= .type "list",data:= .seq ([]:List Value).toArray 0 }:=hsb₁.extBut _ _ hDC (Ym _ (hH2▸YI _ rfl))
  have st1:tn 0 h₁:=T.keep _ _ _ st2 fun b _ o e=>old b o e
  have stat:∀{H':Hp},(∀b∈fp,H' b=none)->∀b∈fp,lG (cX X scope cl x ix G2.objs.size fp s2 H2) [] H' b:=fun hn b hb=>
    ⟨hn b hb,(below b (hfl b hb)).1,fun z=>by
      rcases YH.mp (I2.stkSub b z) with e | e
      · exact(f2 b hb).2.1 e
      · exact(f2 b hb).2.2.1 e,.inl hb,fun y c e=>(f2 b hb).2.2.2.2.1 y c (S.look e),fun p hp=>absurd (show p∈([]:List (Addr×Obj)) from hp) (by simp)⟩
  have I3:∀s₃:Shared,s₃={ s2 with heap:=h₁,toks:=s2.toks+([]:List (Str×Value)).length }->Inv (cX X scope cl x ix G2.objs.size fp s2 H2) [] (none::fM σ ix) H2 s₃:=fun s₃ e=>by
    subst e
    exact S.inv I2 f2 hfl hCle rfl I2.bare old hns₁
  let Acc:List V->Heap->Prop:=fun ys h=>∃its n,Vals ys its/\h.get? s2.heap.objs.size=some { cls:= .type "list",data:= .seq its.toArray n }
  have loop :∀s₃:Shared,s₃={ s2 with heap:=h₁,toks:=s2.toks+([]:List (Str×Value)).length }->
      codeAny (model X.prog X.w) X.A (.compLoop (.ListComp elt [⟨.Name x px,iter,ifs,0⟩] scope pos) 0 (.ref it) (.ref s2.heap.objs.size) (compEnvC scope cl G2.objs.size X.env)) (RR (.ref s2.heap.objs.size) G2.objs.size) s₃:=by
    intro s₃ e₃
    refine nO (fun n s'=>∃i ys H',Inv (cX X scope cl x ix G2.objs.size fp s2 H2) [] (none::fM σ ix) H' s'/\H' s2.heap.objs.size=none/\Acc ys s'.heap/\tn i s'.heap/\(∀b∈fp,H' b=none)/\W i n ys H') ?_ m0
      ⟨0, [],H2,I3 s₃ e₃,I2.hok.fresh (Yd _),⟨[],0,.nil,by rw[e₃];exact hacc⟩,by rw[e₃];exact st1,fun b hb=>(f2 b hb).1,w0⟩
    rintro n s4 ⟨i,ys,H4,I4,hD4,⟨its,kk,rv,eD⟩,st4,fr4,w4⟩
    obtain⟨hsz,q4⟩:=turn i n ys H4 w4
    have hlen:=rv.length
    rcases q4 with ⟨stop,qn⟩ | ⟨go,N,hN,step⟩
    · refine Y5 (T.done (cX X scope cl x ix G2.objs.size fp s2 H2) rfl rfl rfl hc i [(s2.heap.objs.size,{ cls:= .type "list",data:= .seq its.toArray kk })] s4 (none::fM σ ix) H4 (fun _ _=>False) ?_ ?_ st4 stop) (fun r s5 ⟨hr,I5⟩=>?_) fun _ _ z=>z.elim
      · refine I4.pins_of fun p hp=>?_
        rw[Yi.mp hp]
        exact⟨eD,hD4,hDC,fun z=>by
          have:=Jv I2.stack z
          obtain⟨_,o,ho,_⟩:=this
          exact YS _ (Yo ho),fun v z=>by cases z⟩
      · intro b hb
        obtain⟨a1,a2,a3,a4,a5,_⟩:=stat fr4 b hb
        exact⟨a1,a2,a3,a4,a5,fun p hp=>by
          rw[Yi.mp hp]
          exact fun z=>(below b (hfl b hb)).2 z.symm⟩
      subst hr
      have eD5:=(I5.pin _ (by simp:(s2.heap.objs.size,({ cls:= .type "list",data:= .seq its.toArray kk }:Obj))∈(cX X scope cl x ix G2.objs.size fp s2 H2).pn++[(s2.heap.objs.size,{ cls:= .type "list",data:= .seq its.toArray kk })])).1
      have neD:∀b u,H4 b=some u->b≠s2.heap.objs.size:=fun b u e z=>by rw[z,hD4]at e;cases e
      have new:HOk X.prog X.w (upd H4 s2.heap.objs.size (.lst ys)) s5.heap:=by
        intro b u e
        by_cases hb:b=s2.heap.objs.size
        · subst hb
          rw[aC]at e
          cases e
          exact⟨YV hsz,its,kk,rv,eD5⟩
        · rw[aH hb]at e
          exact(I5.hok b u e).stay (fun c v _ q=>q) (fun c q=>by rw[aH (neD c _ q)];exact q) fun c xs q=>by rw[aH (neD c _ q)];exact q
      have un:Un (frs X.stack) fp H2 (upd H4 s2.heap.objs.size (.lst ys)) s2.heap s5.heap:=by
        have B:=I5.base
        exact⟨B.keep,B.slot,fun b o e n hx=>by rw[aH (below b (Yo e)).2];exact B.free b o e n hx,B.there,
          fun b xs e=>by rw[aH (neD b _ (B.tups b xs e))];exact B.tups b xs e,fun b o u e=>by rw[aH (neD b _ (B.frzs b o u e))];exact B.frzs b o u e,
          fun b ps e=>by
            obtain⟨mm,z⟩:=B.tbls b ps e
            exact⟨mm,by rw[aH (neD b _ z)];exact z⟩⟩
      have J5:Inv X pins σ (upd H4 s2.heap.objs.size (.lst ys)) s5:=I2.call' (ch:=fp) I5.os un new I5.bare fun b hb=>⟨(f2 b hb).2.2.2.1,(f2 b hb).2.1,(f2 b hb).2.2.2.2.1,(f2 b hb).2.2.2.2.2⟩
      obtain⟨mC,hnC,_⟩:=I5.loc
      refine fin _ _ _ _ mC J5 hnC (by rw[aH (Ne.symm hDC)];exact I5.free) hCle (fun p hp z=>?_) (YD (Yf I2.lt hCle)) (fun y c e z=>?_) (Y1 I2.sz hCle) (qn _ hD4)
      · exact absurd (Yf (Yo (I2.pin p hp).1) hCle) (by rw[z];exact YS _)
      · obtain⟨v,oc,hoc,_⟩:=I2.cell y c e
        exact absurd (Yf (Yo hoc) hCle) (by rw[z];exact YS _)
    · have pinD:∀{pl:List (Addr×Obj)}{σ':St}{H':Hp}{s':Shared}{its':List Value}{k':Nat},Inv (cX X scope cl x ix G2.objs.size fp s2 H2) pl σ' H' s'->s'.heap.get? s2.heap.objs.size=some { cls:= .type "list",data:= .seq its'.toArray k' }->H' s2.heap.objs.size=none->
          Inv (cX X scope cl x ix G2.objs.size fp s2 H2) [(s2.heap.objs.size,{ cls:= .type "list",data:= .seq its'.toArray k' })] σ' H' s':=fun I' e' n'=>I'.pins_of fun p hp=>by
        rw[Yi.mp hp]
        exact⟨e',n',hDC,fun z=>by
          obtain⟨_,o,ho,_⟩:=Jv I2.stack z
          exact YS _ (Yo ho),fun v z=>by cases z⟩
      have stat2:∀{H':Hp},(∀b∈fp,H' b=none)->∀b∈fp,lG (cX X scope cl x ix G2.objs.size fp s2 H2) [(s2.heap.objs.size,{ cls:= .type "list",data:= .seq its.toArray kk })] H' b:=fun hn b hb=>by
        obtain⟨a1,a2,a3,a4,a5,_⟩:=stat hn b hb
        exact⟨a1,a2,a3,a4,a5,fun p hp=>by
          rw[Yi.mp hp]
          exact fun z=>(below b (hfl b hb)).2 z.symm⟩
      refine Y5 (T.item (cX X scope cl x ix G2.objs.size fp s2 H2) rfl rfl rfl hc i _ s4 _ H4 (fun _ _=>False) (pinD I4 eD hD4) (stat2 fr4) st4 go) (fun r s5 hz9=>?_) fun _ _ z=>z.elim
      obtain⟨u,hr,h5⟩:=hz9
      subst hr
      refine Y5 h5 (fun _ s6 hz9=>?_) fun _ _ z=>z.elim
      obtain⟨y,H6,I6,r6,y6,st6,fr6⟩:=hz9
      have I6':=I6.pinned (stat2 fr6) (T.obj _ _ st6)
      have hxl:(relabel scope X.env).names.lookup x=some .local:=lookup_relabel_local S.loc
      refine Jg (lY (X:=cX X scope cl x ix G2.objs.size fp s2 H2) (i:=0) I6' (YW.mp S.nd).2 rfl (.inl hxl) r6 (fun s7 I7=>?_) (.inr hxl))
      have q7:=step y H6 y6
      refine Y5 (ht _ _ _ _ at0 _ s7 (some y::fM σ ix) H6 _ I7 q7) (fun ok s8 hz9=>?_) fun _ _ z=>fex _ _ _ _ z
      obtain⟨H8,I8,q8⟩:=hz9
      have kept:∀{σ9:St}{H9:Hp}{s9:Shared},Inv (cX X scope cl x ix G2.objs.size fp s2 H2) ([(s2.heap.objs.size,{ cls:= .type "list",data:= .seq its.toArray kk })]++oA fp s6.heap) σ9 H9 s9->
          s9.heap.get? s2.heap.objs.size=some { cls:= .type "list",data:= .seq its.toArray kk }/\H9 s2.heap.objs.size=none/\tn (i+1) s9.heap/\∀b∈fp,H9 b=none:=fun {σ9 H9 s9} I9=>by
        have p0:=I9.pin (s2.heap.objs.size,{ cls:= .type "list",data:= .seq its.toArray kk }) (YO _ (Xp _ (Yi.mpr rfl)))
        refine⟨p0.1,p0.2.1,T.keep _ _ _ st6 fun b hb o e=>(I9.pin (b,o) (YO _ (YO _ (gJ hb e)))).1,fun b hb=>?_⟩
        obtain⟨o,e,d⟩:=T.obj _ _ st6 b hb
        exact(I9.pin (b,o) (YO _ (YO _ (gJ hb e)))).2.1
      have back:∀{pl:List (Addr×Obj)}{H9:Hp}{s9:Shared},Inv (cX X scope cl x ix G2.objs.size fp s2 H2) pl (some y::fM σ ix) H9 s9->Inv (cX X scope cl x ix G2.objs.size fp s2 H2) [] (none::fM σ ix) H9 s9:=fun {pl H9 s9} I9=>
        (I9.weak (σ':=none::fM σ ix) rfl fun j v e=>by
          cases j with
          |zero=>cases (show none=some v from Yp e)
          |succ j=>exact e).pins_of fun p hp=>nomatch hp
      cases ok with
      | true=>
        rw[if_pos rfl]at q8 ⊢
        refine Y5 (he _ _ _ _ at0 _ s8 (some y::fM σ ix) H8 _ I8 q8) (fun yv s9 hz9=>?_) fun _ _ z=>fex _ _ _ _ z
        obtain⟨yy,H9,I9,r9,n9⟩:=hz9
        obtain⟨m',hm',w9⟩:=hN _ _ n9
        obtain⟨kD,kn,kt,kf⟩:=kept I9
        refine append_at (hsz:=by rw[Yt];omega) kD fun h10 hs10 hD10=>?_
        have neD:∀b u,H9 b=some u->b≠s2.heap.objs.size:=fun b u e z=>by rw[z,kn]at e;cases e
        have I9':=back I9
        have cellne:∀y c,cl.lookup y=some c->c≠s2.heap.objs.size:=fun y c e z=>by
          obtain⟨v,oc,hoc,_⟩:=I2.cell y c (S.look e)
          exact absurd (Yo hoc) (by rw[z];exact YS _)
        have I10:Inv (cX X scope cl x ix G2.objs.size fp s2 H2) [] (none::fM σ ix) H9 { s9 with heap:=h10 }:=I9'.turned (t':=s9.toks) (it:=s2.heap.objs.size) (fun b o hb e=>hs10.extBut b o hb e) kn hDC (.inr (Yd _)) cellne fun p hp=>absurd (show p∈([]:List (Addr×Obj)) from hp) (by simp)
        refine⟨m',hm',i+1,ys++[yy],H9,I10,kn,⟨its++[yv],kk+1,rv.append (.cons r9 .nil),?_⟩,T.keep _ _ _ kt fun b hb o e=>hs10.extBut b o (below b (hfl b hb)).2 e,kf,w9⟩
        refine hD10.trans (YT some ?_)
        simp
      | false=>
        rw[if_neg Ys]at q8 ⊢
        obtain⟨m',hm',w9⟩:=hN _ _ q8
        obtain⟨kD,kn,kt,kf⟩:=kept I8
        exact⟨m',hm',i+1,ys,H8,back I8,kn,⟨its,kk,rv,kD⟩,kt,kf,w9⟩
  exact codeAny_compStart_list (loop _ rfl) (T.self _ 0 _ _ _ st1 (loop _ rfl))
def bU (env:Env):List (Str×NameKind)->List (Str×Addr)->List (Str×Addr)
 |[],cs=>cs
 |(n,k)::r,cs=>bU env r (if k == .free then (n,(env.cells.lookup n).getD 0)::cs else cs)
theorem pL:∀(names:List (Str×NameKind))(cs:List (Str×Addr)),(∀y∈names,y.2= .free->∃c,env.cells.lookup y.1=some c)->
  (forIn names cs fun (p:Str×NameKind) (r:List (Str×Addr))=>match p with | (name,kind)=>if (kind == .free)=true then do let c<-cellOf env name;pure (ForInStep.yield ((name,c)::r)) else pure (ForInStep.yield r):Sem (List (Str×Addr)))=pure (bU env names cs)
 |[],cs,_=>rfl
 | (n, k)::r,cs,h=>by
  rw[List.forIn_cons]
  cases hk:k == NameKind.free with
  | true=>
   obtain⟨c,hc⟩:=h (n,k) Yq (eq_of_beq hk)
   have e1:cellOf env n=pure c:=by unfold cellOf;rw[hc]
   have e2:bU env ((n,k)::r) cs=bU env r ((n,c)::cs):=by
    show bU env r (if (k == .free)=true then (n,(env.cells.lookup n).getD 0)::cs else cs)=_
    rw[hk,if_pos rfl,hc];rfl
   rw[e2,<-pL r ((n,c)::cs) fun y hy=>h y (Yw _ hy)]
   dsimp only
   rw[if_pos hk,e1]
   rfl
  | false=>
   have e2:bU env ((n,k)::r) cs=bU env r cs:=by
    show bU env r (if (k == .free)=true then (n,(env.cells.lookup n).getD 0)::cs else cs)=_
    rw[hk,if_neg Ys]
   rw[e2,<-pL r cs fun y hy=>h y (Yw _ hy)]
   dsimp only
   rw[if_neg (by rw[hk];exact Ys)]
   rfl
theorem jN {y:Str×Addr}:∀(names:List (Str×NameKind))(cs:List (Str×Addr)),y∈bU env names cs->y∈cs\/∃k∈names,k.2= .free/\k.1=y.1/\y.2=(env.cells.lookup y.1).getD 0
 |[],cs,h=> .inl h
 | (n, k)::r,cs,h=>by
  rcases jN r _ h with z | ⟨p,hp,e⟩
  ·cases hk:k == NameKind.free with
   | true=>
    rw[hk,if_pos rfl]at z
    rcases YH.mp z with z | z
    ·exact .inr ⟨(n,k),Yq,eq_of_beq hk,by rw[z],by rw[z]⟩
    ·exact .inl z
   | false=>
    rw[hk,if_neg Ys]at z
    exact .inl z
  ·exact .inr ⟨p,Yw _ hp,e⟩
theorem fP {c:Addr}:∀{l:List (Str×Addr)},(y,c)∈l->∃d,l.lookup y=some d
 |[],h=>by simp at h
 | (n, d)::r,h=>by
  rw[Y3]
  cases e:y == n with
  |true=>exact⟨d,rfl⟩
  | false=>
   rcases YH.mp h with z | z
   ·have:y=n:=(Prod.mk.inj z).1
    rw[this,Xm]at e;cases e
   ·exact fP z
theorem jK:∀(names:List (Str×NameKind))(cs:List (Str×Addr)),((y,NameKind.free)∈names\/∃c,(y,c)∈cs)->∃c,(y,c)∈bU env names cs
 | [],cs,h=>by
  rcases h with h | h
  ·simp at h
  ·exact h
 | (n, k)::r,cs,h=>by
  refine jK r _ ?_
  rcases h with h | ⟨c,h⟩
  ·rcases YH.mp h with z | z
   ·obtain⟨e1,e2⟩:=Prod.mk.inj z
    subst e1 e2
    exact .inr ⟨(env.cells.lookup y).getD 0,by rw[if_pos (Xm _)];exact Yq⟩
   ·exact .inl z
  ·refine .inr ⟨c,?_⟩
   split
   ·exact Yw _ h
   ·exact h
def zP (scope:Scope)(env:Env)(x:Str):Bool:=scope.names.all fun y=>(y.2 != .local || ((y.1 == x || y.1 == ".0") && scope.names.lookup y.1 == some .local)) && y.2 != .cell && (y.2 != .free || env.kindOf y.1 == some .cell || env.kindOf y.1 == some .free)
def nM (ok:X.Ok)(hk:scope.kind= .function)(hx:scope.names.lookup x=some .local)(hall:zP scope X.env x=true)(nd:((".0":Str)::x::jA X.N ix).Nodup):eG X scope (bU X.env scope.names []) x ix:=by
 have all:∀y∈scope.names,(y.2= .local->(y.1=x\/y.1=".0")/\scope.names.lookup y.1=some .local)/\y.2≠ .cell/\(y.2= .free->(X.env.kindOf y.1=some .cell\/X.env.kindOf y.1=some .free)):=fun y hy=>by
  have z:=Je.mp hall y hy
  simp only[XF,Bool.or_eq_true,bne_iff_ne,XR,ne_eq]at z
  refine⟨fun e=>z.1.1.resolve_left fun q=>q e,z.1.2,fun e=>?_⟩
  rcases z.2 with (q | q) | q
  ·exact absurd e q
  ·exact .inl q
  ·exact .inr q
 have cells:∀y∈scope.names,y.2= .free->∃c,X.env.cells.lookup y.1=some c:=fun y hy e=>ok.has y.1 ((all y hy).2.2 e)
 refine⟨?_,hk,hx,fun y hy e=>((all y hy).1 e).1,fun y hy e=>((all y hy).1 e).2,fun y hy=>(all y hy).2.1,fun y hy=>(all y hy).2.2,fun y hy e=>?_,fun y hy=>?_,nd⟩
 ·have q:=pL scope.names [] cells
  unfold closureFor
  have q2:(forIn scope.names [] fun (p:Str×NameKind) (r:List (Str×Addr))=>match p with | (name,kind)=>if (kind == .free)=true then do let c<-cellOf X.env name;pure (ForInStep.yield ((name,c)::r)) else pure (ForInStep.yield r):Sem (List (Str×Addr))) >>= (fun cs=>pure cs)=pure (bU X.env scope.names []):=by
   rw[q];rfl
  exact q2
 ·obtain⟨n,k⟩:=y
  have e':k= .free:=e
  subst e'
  obtain⟨c,hc⟩:=jK (env:=X.env) scope.names [] (.inl hy)
  exact fP hc
 ·rcases jN scope.names [] hy with z | ⟨p,hp,e1,e2,e3⟩
  ·simp at z
  ·obtain⟨c,hc⟩:=cells p hp e1
   rw[e2]at hc
   rw[e3,hc];rfl
theorem fK (hc:X.calm=true)(hi:PI X (.Name x px) iter wi)(ht:∀C fp s H,gY X C fp s H->PTs (cX X scope (bU X.env scope.names []) x ix C fp s H) ifs tt)(he:∀C fp s H,gY X C fp s H->PE (cX X scope (bU X.env scope.names []) x ix C fp s H) elt te)
  (hk:scope.kind= .function) (hx:scope.names.lookup x=some .local) (hall:zP scope X.env x=true) (nd:((".0":Str)::x::jA X.N ix).Nodup)
  (hs:∀x,foldedSetIterable iter X.env x=pure x:=by intro _;rfl):PE X (.ListComp elt [⟨.Name x px,iter,ifs,0⟩] scope pos) (a4S ix wi tt te):=by
 intro pins s σ H Q I h
 have S:eG X scope (bU X.env scope.names []) x ix:=nM I.ok hk hx hall nd
 rw[eval_ListComp]
 refine wpAny_comprehension_free (use:=none) rfl hs S.clos S.kind S.locs (thn (hi pins s σ H _ I h) fun v s1 h1=>thn h1 fun itv s2 h2=>?_)
 refine qU S hc ht he h2 (fun D C H' s' m J hn hCn hCle hp hL hcl hs0 q=>?_) fun D C e s' z=>z
 exact⟨m,hn,fun h' sb=>⟨.ref D,H',J.turned (t':=s'.toks) (fun b o hb e=>sb.extBut b o hb e) hCn (Ne.symm hL) (.inr hs0) hcl hp,rfl,q⟩⟩
theorem jG {j:Nat}{y:Str}{py spos:Pos}(hN:X.N.Nodup)(hj:X.N[j]? =some y)(hy:X.env.scope.names.lookup y=some .local)(hc:X.calm=true)(hi:PI X (.Name x px) iter wi)
  (ht:∀C fp s H,gY X C fp s H->PTs (cX X scope (bU X.env scope.names []) x ix C fp s H) ifs tt) (he:∀C fp s H,gY X C fp s H->PE (cX X scope (bU X.env scope.names []) x ix C fp s H) elt te)
  (hk:scope.kind= .function) (hx:scope.names.lookup x=some .local) (hall:zP scope X.env x=true) (nd:((".0":Str)::x::jA X.N ix).Nodup)
  (hsw:swapsWith (.ListComp elt [⟨.Name x px,iter,ifs,0⟩] scope pos) (some (.Name y py)) spos.line X.env=pure true:=by rfl) (hs:∀x,foldedSetIterable iter X.env x=pure x:=by intro _;rfl) :
  PS X (.Assign [.Name y py] (.ListComp elt [⟨.Name x px,iter,ifs,0⟩] scope pos) spos) (a9W (a4S ix wi tt te) (sV j)):=by
 intro pins s σ H D I h
 have S:eG X scope (bU X.env scope.names []) x ix:=nM I.ok hk hx hall nd
 rw[exec_Assign_Name_used _ _ _ _ hsw]
 refine YJ (wpAny_standAt (YJ ?_))
 show wpAny _ _ (do let _<-comprehension (.ListComp elt [⟨.Name x px,iter,ifs,0⟩] scope pos) scope X.env _ (newList []) false (eval iter X.env) (some (assign (.Name y py) X.env))) _ _ s
 refine YJ (Y5 (wpAny_comprehension_free (use:=some (assign (.Name y py) X.env)) (Q:=fun _ s'=>SP X pins D .next s') rfl hs S.clos S.kind S.locs
  (thn (hi pins s σ H _ I h) fun v s1 h1=>thn h1 fun itv s2 h2=>?_)) (fun _ s' hq=>Y6 (Y6 hq)) fun _ _ e=>e)
 refine qU (Q:=fun v H1=>D.nx (σ.set j (some v)) H1) S hc ht he h2 (fun D' C H' s' m J hn hCn hCle hp hL hcl hs0 q=>?_) fun D' C e s' z=>z
 show wpAny _ _ (assign (.Name y py) X.env (.ref D')) _ _ _
 refine Jg (nZ J hN hj (.inl hy) (v:= .ref D') rfl (fun s'' J' hz9=>?_) (.inr hy))
 obtain⟨a,sb,ha⟩:=hz9
 have hCa:C≠a:=by
  rcases ha with e | e
  ·rw[e];exact Ne.symm hL
  ·exact Ne.symm (hcl y a e)
 exact⟨m,hn.sameBut sb hCa,fun h' sb'=>⟨σ.set j (some (.ref D')),H',J'.turned (t':=s''.toks) (fun b o hb e=>sb'.extBut b o hb e) hCn (Ne.symm hL) (.inr hs0) hcl hp,q⟩⟩
end
theorem fU {lo:Int}{n:Nat}{tt:TT}{te:TE}{σc:V->St}{H:Hp}{Q:VK}(Pv:Nat->List V->Hp->Prop)(hn:∀i ys H,i<=n->Pv i ys H->ys.length<sizeLine)(h0:Pv 0 [] H)
  (hs:∀i ys H,i<n->Pv i ys H->tt (σc (.int (lo+i))) H fun b H3=>if b=true then te (σc (.int (lo+i))) H3 fun y H4=>Pv (i+1) (ys++[y]) H4 else Pv (i+1) ys H3)
  (hd:∀ys H,Pv n ys H->∀p,H p=none->Q (.ref p) (upd H p (.lst ys))):oU (Itr lo n) tt te σc H Q:=by
 refine⟨fun i m ys H=>m=n-i/\i<=n/\Pv i ys H,⟨n,by simp,YY _,h0⟩,?_⟩
 rintro i m ys H ⟨rfl,hi,p⟩
 refine⟨hn i ys H hi p,?_⟩
 by_cases hlt:i<n
 ·refine .inr ⟨hlt,Pv (i+1),fun ys' H' q=>⟨n-(i+1),by omega,rfl,hlt,q⟩,fun x H' y=>?_⟩
  obtain⟨e,y⟩:=y
  subst e y
  exact hs i ys _ hlt p
 ·have e:i=n:=by omega
  subst e
  exact .inl ⟨Yd _,hd ys H p⟩
theorem eE {K:W.Frag}{a:Addr}{xs:List V}{tt:TT}{te:TE}{σc:V->St}{H:Hp}{Q:VK}(Pv:Nat->List V->Hp->Prop)(hn:∀i ys H,i<=xs.length->Pv i ys H->ys.length<sizeLine)(h0:Pv 0 [] H)
  (hl:∀i ys H,i<=xs.length->Pv i ys H->SqL K H a xs)
  (hs:∀i x ys H,xs[i]? =some x->Pv i ys H->tt (σc x) H fun b H3=>if b=true then te (σc x) H3 fun y H4=>Pv (i+1) (ys++[y]) H4 else Pv (i+1) ys H3)
  (hd:∀ys H,Pv xs.length ys H->∀p,H p=none->Q (.ref p) (upd H p (.lst ys))):oU (Itl K a) tt te σc H Q:=by
 refine⟨fun i m ys H=>m=xs.length-i/\i<=xs.length/\Pv i ys H,⟨xs.length,by simp,YY _,h0⟩,?_⟩
 rintro i m ys H ⟨rfl,hi,p⟩
 have q:=hl i ys H hi p
 refine⟨hn i ys H hi p,?_⟩
 by_cases hlt:i<xs.length
 ·refine .inr ⟨⟨xs,xs[i],q,by simp[hlt]⟩,Pv (i+1),fun ys' H' q=>⟨xs.length-(i+1),by omega,rfl,hlt,q⟩,fun x H' y=>?_⟩
  obtain⟨e,y⟩:=y
  subst e
  exact hs i x ys _ (y xs q) p
 ·have e:i=xs.length:=by omega
  subst e
  exact .inl ⟨⟨xs,q,Yd _⟩,hd ys H p⟩
end L2
namespace L2
open PySem PySem.Spec PyProof.Rows PySem.W PySem.Builtin PySem.Builtin.ObjectAttr PySem.Builtin.Getset_descriptor
section
variable {prog:Program}{w:World}{A:Around}{E:Value->Shared->Prop}{K:W.Frag}{a C:Addr}
end
section
variable {X:Cx}
end
end L2
namespace L2
open PySem PySem.Spec PyProof.Rows
mutual
inductive DV (K:W.Frag)(H:Hp):V->PyData->Prop
 |non:DV K H .non .none
 |bl (b:Bool):DV K H (.bl b) (.bool b)
 |int (i:Int):DV K H (.int i) (.int i)
 |str (x:Str):DV K H (.str x) (.str x)
 |lst {a:Addr} {xs:List V} {ds:List PyData}:SqL K H a xs->DVs K H xs ds->DV K H (.ref a) (.list ds)
 |tup {a:Addr} {xs:List V} {ds:List PyData}:SqT K H a xs->DVs K H xs ds->DV K H (.ref a) (.tuple ds)
inductive DVs (K:W.Frag)(H:Hp):List V->List PyData->Prop
 |nil:DVs K H [] []
 |cons {x:V} {xs:List V} {d:PyData} {ds:List PyData}:DV K H x d->DVs K H xs ds->DVs K H (x::xs) (d::ds)
end
variable {K:W.Frag}{H:Hp}{pos:Pos}{X:Cx}
theorem DVs.ints:∀ns:List Int,DVs K H (ns.map V.int) (ns.map PyData.int)
 |[]=> .nil
 |n::r=> .cons (.int n) (DVs.ints r)
def DV.ints {a:Addr}{ns:List Int}(h:SqL K H a (ns.map V.int)):DV K H (.ref a) (.list (ns.map .int)):= .lst h (DVs.ints ns)
section
variable {pins:List (Addr×Obj)}{σ:St}{s:Shared}
mutual
theorem Inv.reads (I:Inv X pins σ H s):∀{x:V}{d:PyData}{u:Value},DV X.K H x d->RelV x u->∃as,Reads s.heap u d as
 |_,_,_,.non,r=>by cases r;exact⟨_,Reads.none⟩
 |_,_,_,.bl b,r=>by cases r;exact⟨_,Reads.bool b⟩
 |_,_,_,.int i,r=>by obtain⟨t,rfl⟩:=r;exact⟨_,Reads.int i t⟩
 |_,_,_,.str x,r=>by obtain⟨t,rfl⟩:=r;exact⟨_,Reads.str x t⟩
 | _,_,_,.lst h r,rr=>by
  cases rr
  obtain⟨its,rv,⟨o,n,e,c,_,dt⟩,_⟩:=I.list h
  obtain⟨as,q⟩:=Inv.readsAll I r rv
  exact⟨_,reads_list_at e c dt (by simpa using q)⟩
 | _,_,_,.tup h r,rr=>by
  cases rr
  obtain⟨its,rv,⟨o,e,c,n,dt⟩,_⟩:=I.tuple h
  obtain⟨as,q⟩:=Inv.readsAll I r rv
  exact⟨_,reads_tuple_at e c dt (by simpa using q)⟩
theorem Inv.readsAll (I:Inv X pins σ H s):∀{xs:List V}{ds:List PyData}{us:List Value},DVs X.K H xs ds->Vals xs us->∃as,ReadsAll s.heap us ds as
 |_,_,_,.nil,.nil=>⟨_,ReadsAll.nil⟩
 | _,_,_,.cons h r,.cons q p=>by
  obtain⟨as,q1⟩:=Inv.reads I h q
  obtain⟨bs,q2⟩:=Inv.readsAll I r p
  exact⟨_,ReadsAll.cons q1 q2⟩
end
end
section
def b7R (hu:X.A.units+64<cLine):OpR X (compareOp .NotEq) (fun x y H Q=>∃d e,DV X.K H x d/\DV X.K H y e/\SeqAt.shaped d=true/\SeqAt.shaped e=true/\Q (.bl (!PyData.eqv d e)) H):=by
 intro pins s σ H x y v u Q I rx ry h
 obtain⟨d,e,hd,he,sd,se,q⟩:=h
 obtain⟨as,ra⟩:=I.reads hd rx
 obtain⟨bs,rb⟩:=I.reads he ry
 exact ne_dataH ra rb sd se hu ⟨.bl _,H,I,rfl,q⟩
def b2V (hu:X.A.units+64<cLine):OpR X (compareOp .NotEq) (fun x y H Q=>∃d,DV X.K H x d/\DV X.K H y d/\SeqAt.shaped d=true/\Q (.bl false) H):=(b7R hu).imp fun x y H Q ⟨d,h1,h2,h3,q⟩=>⟨d,d,h1,h2,h3,h3,by rw[SeqAt.eqv_refl d (SeqAt.canLay_of_shaped h3)];exact q⟩
def c1R (K:W.Frag):R2:=fun x y H Q=>vR x fun a=>vR y fun b=>∃ns ms:List Int,SqL K H a (ns.map V.int)/\SqL K H b (ms.map V.int)/\Q (.bl (!decide (ns=ms))) H
def a4C (hu:X.A.units+64<cLine):OpR X (compareOp .NotEq) (c1R X.K):=by
 intro pins s σ H x y v u Q I rx ry h
 obtain⟨a,rfl,hh⟩:=vR.ex h
 clear h
 obtain⟨b,rfl,ns,ms,h1,h2,q⟩:=vR.ex hh
 cases rx;cases ry
 obtain⟨its,rv,pl,_⟩:=I.list h1
 obtain⟨jts,rw',pl',_⟩:=I.list h2
 exact W.ne_intsK pl.isList (intsAre_of rv) pl'.isList (intsAre_of rw') hu ⟨.bl _,H,I,rfl,q⟩
end
def a0L {ds:List PyData}(h:∀d∈ds,d.canLay0=true/\d.depth<=60):SeqAt.shaped (.list ds)=true:=by
 have all:∀ds:List PyData,(∀d∈ds,d.canLay0=true/\d.depth<=60)->PyData.canLayAll0 ds=true/\PyData.depthAll ds<=60:=by
  intro ds
  induction ds with
  |nil=>intro _;simp[PyData.canLayAll0,PyData.depthAll]
  | cons d r ih=>
   intro h
   have h1:=h d Yq
   have h2:=ih fun z hz=>h z (Yw _ hz)
   simp only[PyData.canLayAll0,PyData.depthAll,h1.1,h2.1,Bool.and_self,true_and]
   have:=h1.2;have:=h2.2;omega
 have z:=all ds h
 unfold SeqAt.shaped
 rw[XF]
 refine⟨by simp only[PyData.canLay0];exact z.1,Yn ?_⟩
 simp only[PyData.depth]
 have:=z.2;omega
def lay_ints (ns:List Int):(PyData.list (ns.map .int)).canLay0=true/\(PyData.list (ns.map .int)).depth<=60:=by
 refine⟨by simp only[PyData.canLay0];exact W.canLayAll0_ints ns,?_⟩
 have:=W.depthAll_ints ns
 simp only[PyData.depth];omega
section
def qK {its:List Value}{ns:List Int}(hi:IntsAre its ns):∃xs:Array (Int×Tok),its.toArray=intItems xs/\ns=xs.toList.map (·.1):=by
 obtain⟨xs,hx⟩:=hi.allInts.items
 refine⟨xs,hx,?_⟩
 rw[<-nums_intItems,<-hx]
 exact(show numsOf its.toArray.toList=ns from hi.numsOf).symm
def c1P (K:W.Frag):List V->Hp->VK->Prop:=fun xs H Q=>l1 xs fun x=>vR x fun p=>∃ns:List Int,SqL K H p (ns.map V.int)/\Q (.int ns.sum) H
def b7Q (hc:X.calm=true):fD X (.builtin "sum") (c1P X.K):=by
 intro pins s σ H xs us Q I r h
 obtain⟨x,rfl,h⟩:=l1.ex h
 obtain⟨p,rfl,ns,hS,q⟩:=vR.ex h
 obtain⟨u,rfl,ru⟩:=vals1 r
 cases ru
 obtain⟨its,rv,pl,_⟩:=I.list hS
 obtain⟨zs,e1,e2⟩:=qK (intsAre_of rv)
 have hl:s.heap.IsList p (intItems zs):=e1▸pl.isList
 refine sum_intListG (I.ok.hd hc) hl fun h' tk t' hk=>?_
 have e3:preSum (numAt zs) zs.size=ns.sum:=by rw[preSum_eq,Yl (by simp),e2]
 rw[e3]
 exact⟨.int ns.sum,H,I.kept hk,⟨_,rfl⟩,q⟩
def b9K (K:W.Frag)(lt:Int->Int->Prop):List V->Hp->VK->Prop:=fun xs H Q=>l1 xs fun x=>vR x fun p=>∃ns:List Int,SqL K H p (ns.map V.int)/\ns≠ []/\∀m,m∈ns->(∀z∈ns,lt m z)->Q (.int m) H
def xU (hc:X.calm=true):fD X (.builtin "min") (b9K X.K (·<= ·)):=by
 intro pins s σ H xs us Q I r h
 obtain⟨x,rfl,h⟩:=l1.ex h
 obtain⟨p,rfl,ns,hS,hne,q⟩:=vR.ex h
 obtain⟨u,rfl,ru⟩:=vals1 r
 cases ru
 obtain⟨its,rv,pl,_⟩:=I.list hS
 obtain⟨zs,e1,e2⟩:=qK (intsAre_of rv)
 have hl:s.heap.IsList p (intItems zs):=e1▸pl.isList
 have hsz:0<zs.size:=by
  have h3:0<ns.length:=List.length_pos_iff.mpr hne
  rw[e2,Ya,Xj]at h3;exact h3
 refine min_intList (I.ok.hd hc) hl hsz fun v h' tk hv hk=>?_
 obtain⟨t,rfl⟩:=intItems_at hv
 obtain⟨h1,h2⟩:=argBest_lt (numAt zs) (zs.size-1)
 refine⟨.int _,H,I.kept hk,⟨_,rfl⟩,q _ ?_ fun a ha=>?_⟩
 ·rw[e2,numAt_eq];exact getD_mem (by rw[Ya,Xj];omega)
 ·rw[e2]at ha
  obtain⟨j,hj,rfl⟩:=mem_getD ha
  rw[Ya,Xj]at hj
  rw[<-numAt_eq];exact h2 j (by omega)
def c1T:R2:=fun x y H Q=>vR x fun l=>vR y fun b=>∃xs zs,H l=some (.lst xs)/\H b=some (.lst zs)/\xs.length+zs.length<=sizeLine/\∀p,H p=none->Q (.ref p) (upd H p (.lst (xs++zs)))
def lV:OpR X (binaryOp .Add) c1T:=b5N.imp fun x y H Q h=>by
 obtain⟨l,rfl,hh⟩:=vR.ex h
 clear h
 obtain⟨b,rfl,xs,zs,h1,h2,h3,h4⟩:=vR.ex hh
 exact⟨l,b,xs,zs,rfl,rfl,h1,h2,h3,h4⟩
end
def b2J {bs:List Int}{a n:Nat}(h:a+n<=bs.length):jM (bs.map V.int) (some (a:Int)) (some ((a+n:Nat):Int))=((bs.drop a).take n).map V.int:=by
 unfold jM
 rw[HT.sIx_nat,HT.sIx_nat,Ya,Jl (by omega),Jl (by omega),X6,List.map_take,List.map_drop]
def a8W {bs:List Int}{a:Nat}(h:a<=bs.length):jM (bs.map V.int) (some (a:Int)) none=(bs.drop a).map V.int:=by
 unfold jM
 rw[HT.sIx_nat,HT.sIx_none,Ya,Jl h,List.map_drop,Yl]
 rw[XE,Ya];exact Yd _
def l3 (vs:List V)(k:V->V->V->Prop):Prop:=@List.rec V (fun _=>Prop) False (fun x r _=>l2 r fun y z=>k x y z) vs
def l3.ex {vs:List V}{k:V->V->V->Prop}(h:l3 vs k):∃x y z,vs= [x,y,z]/\k x y z:=by
 match vs,h with
 |[x,y,z],h=>exact⟨x,y,z,rfl,h⟩
def a9I (lo c:Int)(n:Nat):It:=⟨fun i _=>i<n,fun i H x H'=>H'=H/\x= .int (lo+i*c),fun i _=>n<=i⟩
theorem vA {P:Program}{w:World}{tg:Expr}(it:Addr)(lo c:Int)(n:Nat):Turn P w K tg (a9I lo c n) [it] it (fun i h=>IsRangeIter h it (lo+(i:Nat)*c) ((n:Int)-(i:Nat)) c) where
 mem:=by simp
 obj :=fun i h st b hb=>by
  have e:b=it:=by simpa using hb
  subst e
  exact⟨_,st,fun v z=>by
   have z':Data.fields _=Data.cell v:=z
   cases z'⟩
 keep:=fun i h h' st k=>k it (by simp) _ st
 item:=by
  intro X hP hw hK hc i pins s σ H E I hf st hg
  subst hP hw hK
  obtain⟨f0,f1,f2,f3,f4,f5⟩:=hf it (by simp)
  have W:=Walks.range (prog:=X.prog) (w:=X.w) (I.ok.hd hc) it lo c n
  refine W.item i s _ _ hg st fun v h' tk hv st' kk=>?_
  obtain⟨t,rfl⟩:=hv
  have I1:Inv X pins σ H { s with heap:=h',toks:=tk }:=I.turned (fun b o hb e=>kk b o (by simpa using hb) e) f0 f1 f3 f4 f5
  exact⟨_,rfl,a1I (s:={ s with heap:=h',toks:=tk }) (n:="range_iterator") st' rfl rfl (by decide) ⟨.int (lo+i*c),H,I1,⟨t,rfl⟩,⟨rfl,rfl⟩,st',fun b hb=>(hf b hb).1⟩⟩
 done:=by
  intro X hP hw hK hc i pins s σ H E I hf st hg
  subst hP hw hK
  obtain⟨f0,f1,f2,f3,f4,f5⟩:=hf it (by simp)
  exact wpAny_pyNext_range_end (I.ok.hd hc) st (by have:n<=i:=hg;omega) fun h' eb=>⟨rfl,I.turned (t':=s.toks) (fun b o hb e=>eb b o hb e) f0 f1 f3 f4 f5⟩
 self:=fun _ _ _ _ _ st h=>wpAny_pyIter_rangeiter st h
section
variable {tg:Expr}
def c0A (ta:TA):TI:=fun σ H R=>ta σ H fun vs H1=>l3 vs fun x y z=>vI x fun i=>vI y fun j=>vI z fun c=>c≠0/\Builtin.divisionGoesByPylong (j-i) c=false/\∃n:Nat,Builtin.Range.small i j c=true/\Builtin.Range.rangeSize i j c=(n:Int)/\R (a9I i c n) H1
theorem rY {a b c:Expr}{ta:TA}{p:Pos}(hg:Gl X "range")(hm:X.mg "range"=none)(ha:PA X [a,b,c] ta)(hs:starEach [a,b,c] X.env=(false,eval a X.env)::starEach [b,c] X.env:=by rfl)(hs2:(backTo pos (starEach [b,c] X.env)).any (·.1)=false:=by rfl):
  PI X tg (.Call (.Name "range" p) [a,b,c] [] pos) (c0A ta):=by
 intro pins s σ H R I h
 refine Call_ (oG I hg hm boot_range (XO (thn (ha pos pins s σ H _ I h) fun us s1 hz9=>?_) hs hs2))
 obtain⟨vs,H1,I1,r1,q1⟩:=hz9
 obtain⟨x,y,z,rfl,q2⟩:=l3.ex q1
 obtain⟨i,rfl,q3⟩:=vI.ex q2
 obtain⟨j,rfl,q4⟩:=vI.ex q3
 obtain⟨c,rfl,hc,hp,n,hsm,hn,q⟩:=vI.ex q4
 cases r1 with
 | cons r rr=>
  cases rr with
  | cons r' rr=>
   cases rr with
   | cons r'' rr=>
    cases rr
    obtain⟨t,rfl⟩:=r
    obtain⟨t',rfl⟩:=r'
    obtain⟨t'',rfl⟩:=r''
    refine call_range_3 hc ?_ (.inl hp)
    refine wpAny_pyIter_range (IsRange.new ..) hsm ?_
    have I2:Inv X pins σ H1 { s1 with heap:=s1.heap.push { cls:= .type "range",data:= .fields #[.int i t,.int j t',.int c t''] },toks:=s1.toks }:=I1.kept fun b o e=>Ym _ e
    refine⟨(s1.heap.push { cls:= .type "range",data:= .fields #[.int i t,.int j t',.int c t''] }).objs.size, [(s1.heap.push { cls:= .type "range",data:= .fields #[.int i t,.int j t',.int c t''] }).objs.size],_,_,H1,rfl,
     I2.kept (t':=s1.toks) fun b o e=>Ym _ e,vA _ i c n,?_,fun b hb=>?_,q⟩
    ·show IsRangeIter _ _ (i+((0:Nat):Int)*c) ((n:Int)-((0:Nat):Int)) c
     have e1:i+((0:Nat):Int)*c=i:=by simp
     have e2:(n:Int)-((0:Nat):Int)=Builtin.Range.rangeSize i j c:=by rw[hn];simp
     rw[e1,e2]
     exact YI _ rfl
    ·have e:b=(s1.heap.push { cls:= .type "range",data:= .fields #[.int i t,.int j t',.int c t''] }).objs.size:=by simpa using hb
     subst e
     exact I2.fpOk (Yd _) (I2.hok.fresh (Yd _))
end
theorem qO {lo c:Int}{n:Nat}{g:TG}{tb:TS}{D:Ends}{σ:St}{H:Hp}(Pv:Nat->St->Hp->Prop)(h0:Pv 0 σ H)
  (hs:∀i σ H,i<n->Pv i σ H->g (.int (lo+i*c)) σ H fun σ2 H2=>tb { D with nx:=Pv (i+1),ct:=Pv (i+1),bk:=D.nx } σ2 H2) (hd:∀σ H,Pv n σ H->D.nx σ H) :
  ∃ W:Nat->Nat->St->Hp->Prop,(∃m,W 0 m σ H)/\∀i m σ H,W i m σ H->
   ((a9I lo c n).stop i H/\D.nx σ H)\/((a9I lo c n).go i H/\∃N:St->Hp->Prop,(∀σ' H',N σ' H'->∃m',m'<m/\W (i+1) m' σ' H')/\∀x H',(a9I lo c n).yld i H x H'->g x σ H' fun σ2 H2=>tb { D with nx:=N,ct:=N,bk:=D.nx } σ2 H2):=by
 refine⟨fun i m σ H=>m=n-i/\i<=n/\Pv i σ H,⟨n,by simp,YY _,h0⟩,?_⟩
 rintro i m σ H ⟨rfl,hi,p⟩
 by_cases hlt:i<n
 ·refine .inr ⟨hlt,Pv (i+1),fun σ' H' p'=>⟨n-(i+1),by omega,rfl,hlt,p'⟩,fun x H' y=>?_⟩
  obtain⟨e,y⟩:=y
  subst e y
  exact hs i σ _ hlt p
 ·have e:i=n:=by omega
  subst e
  exact .inl ⟨Yd _,hd σ H p⟩
section
end
section
variable {a b c:Expr}{ta tb tc:TE}
def uJ (r r':R2)(ta tb tc:TE):TE:=fun σ H Q=>ta σ H fun x H1=>tb σ H1 fun y H2=>r x y H2 fun z H3=>vB z fun k=>if k=true then tc σ H3 fun u H4=>r' y u H4 Q else Q (.bl false) H3
def sX (r r':R2)(ta tb tc:TE):uJ r r' ta tb tc=tQ r r' ta tb tc:=by
 funext σ H Q
 unfold uJ tQ
 simp only[pQ]
theorem wK {op op':CmpOp}{r r':R2}(ho:OpR X (compareOp op) r)(ho':OpR X (compareOp op') r')(ha:PE X a ta)(hb:PE X b tb)(hc:PE X c tc)
  (hm:lastMarks [op,op'] [b,c]=false:=by with_unfolding_all rfl):PE X (.Compare a [op,op'] [b,c] pos) (uJ r r' ta tb tc):=by
 rw[sX];exact a6X ho ho' ha hb hc hm
theorem wF {op op':CmpOp}{r r':R2}(ho:OpR X (compareOp op) r)(ho':OpR X (compareOp op') r')(ha:PE X a ta)(hb:PE X b tb)(hc:PE X c tc)
  (hm:lastMarks [op,op'] [b,c]=false:=by with_unfolding_all rfl):PT X (.Compare a [op,op'] [b,c] pos) (qR (uJ r r' ta tb tc)):=by
 rw[sX,xG];exact a6M ho ho' ha hb hc hm
theorem qL (z:Int):∀ns:List Int,inV (.int z) (ns.map V.int)=decide (z∈ns)/\(ns.map V.int).all nG=true
 |[]=>⟨rfl,rfl⟩
 | n ::r=>by
  have ih:=qL z r
  refine⟨?_,?_⟩
  ·unfold inV at ih ⊢
   rw[YR,Jf,ih.1]
   show ((n == z) || decide (z∈r))=decide (z∈n::r)
   rw[Jj]
   simp only[Bool.or_eq_true,XR,decide_eq_true_iff,YH]
   exact⟨fun h=>h.imp Eq.symm id,fun h=>h.imp Eq.symm id⟩
  ·rw[YR,XV,ih.2];rfl
def b9J (K:W.Frag)(f:Bool->Bool):R2:=fun x y H Q=>vI x fun z=>vR y fun p=>∃ns:List Int,SqA K H p (ns.map V.int)/\Q (.bl (f (decide (z∈ns)))) H
def b7S:OpR X (compareOp .In) (b9J X.K id):=a2V.imp fun x y H Q h=>by
 obtain⟨z,rfl,hh⟩:=vI.ex h
 clear h
 obtain⟨p,rfl,ns,h1,q⟩:=vR.ex hh
 have e:=qL z ns
 exact⟨p,_,rfl,h1,rfl,e.2,by show Q (.bl (inV (.int z) (ns.map V.int))) H;rw[e.1];exact q⟩
def a4B:OpR X (compareOp .NotIn) (b9J X.K not):=tW.imp fun x y H Q h=>by
 obtain⟨z,rfl,hh⟩:=vI.ex h
 clear h
 obtain⟨p,rfl,ns,h1,q⟩:=vR.ex hh
 have e:=qL z ns
 exact⟨p,_,rfl,h1,rfl,e.2,by show Q (.bl (!inV (.int z) (ns.map V.int))) H;rw[e.1];exact q⟩
end
section
def a4F (hK:X.K=K:=by rfl):IxR X (b9I K):=by subst hK;exact dJ
def tK (hK:X.K=K:=by rfl):IxR X (b9H K):=by subst hK;exact dX
def a4E (hK:X.K=K:=by rfl):fD X (.builtin "len") (b9G K):=by subst hK;exact cU
def a2A (hK:X.K=K:=by rfl):fD X (.type "list") (a1B K):=by subst hK;exact fH
def b3V (hK:X.K=K:=by rfl):SlR X (b9C K):=by subst hK;exact uW
end
def b7F:bootBuiltins "all"=some (.builtin "all"):=by decide +kernel
section
def c1Q:R2:=fun x y H Q=>vR x fun l=>vI y fun k=>∃xs,H l=some (.lst xs)/\(-(2 ^ 63)<=k/\k<2 ^ 63)/\xs.length*k.toNat<=sizeLine/\∀p,H p=none->Q (.ref p) (upd H p (.lst (List.replicate k.toNat xs).flatten))
def a0D:OpR X (binaryOp .Mult) c1Q:=b5K.imp fun x y H Q h=>by
 obtain⟨l,rfl,h⟩:=vR.ex h
 obtain⟨k,rfl,xs,h1,h2,h3,h4⟩:=vI.ex h
 exact⟨l,k,xs,rfl,rfl,h1,h2.1,h2.2,h3,h4⟩
section
variable {o e:Expr}{es:List Expr}{to:TE}{t:TA}{apos cpos:Pos}
def b2G (to:TE)(t:TA):TE:=fun σ H Q=>to σ H fun x H1=>vR x fun l=>(∃xs,H1 l=some (.lst xs))/\t σ H1 fun vs H2=>l1 vs fun y=>vR y fun b=>∃xs zs,H2 l=some (.lst xs)/\H2 b=some (.lst zs)/\xs.length+zs.length<=sizeLine/\Q .non (upd H2 l (.lst (xs++zs)))
theorem a3C (ho:PE X o to)(ha:PA X [e] t)(hbase:attributeBase o "extend" X.env (eval o X.env)=eval o X.env:=by rfl)
  (hfew:((backTo cpos (starEach [e] X.env)).all (fun x=>!x.1) && (backToKw cpos (keywordEach [] X.env)).all (fun x=>x.1.isSome)
   && decide (([e]:List Expr).length+([]:List Keyword).length+(if ([]:List Keyword).isEmpty then 0 else 1)<30))=true:=by rfl)
  (hline:(apos.endLine == cpos.line)=true:=by rfl) (hs:starEach [e] X.env=(false,eval e X.env)::starEach [] X.env:=by rfl) (hplain:(backTo cpos (starEach [] X.env)).any (·.1)=false:=by rfl) :
  PE X (.Call (.Attribute o "extend" apos) [e] [] cpos) (b2G to t):=
 (a7A X5 PySem.F.slot_list_extend PySem.F.type_list_extend a2Z (cB ho) (qF ha) hbase hfew hline hs hplain).imp fun σ H Q h=>⟨_,h,fun x H1 q=>by
  obtain⟨l,rfl,⟨xs,q1⟩,q2⟩:=vR.ex q
  refine⟨.inl ⟨rfl,xs,SqL.of q1⟩,_,q2,fun vs H2 q3=>?_⟩
  obtain⟨y,rfl,q3⟩:=l1.ex q3
  obtain⟨b,rfl,xs,zs,h1,h2,h3,h4⟩:=vR.ex q3
  exact⟨l,b,xs,zs,rfl,rfl,h1,h2,h3,h4⟩⟩
def b6V (to:TE)(t:TA):TE:=fun σ H Q=>to σ H fun x H1=>vR x fun l=>(∃xs,H1 l=some (.lst xs))/\t σ H1 fun vs H2=>l1 vs fun y=>vI y fun i=>∃xs k y,H2 l=some (.lst xs)/\(-(2 ^ 63)<=i/\i<2 ^ 63)/\seqIndex? i xs.length=some k/\xs[k]? =some y/\Q y (upd H2 l (.lst (xs.eraseIdx k)))
theorem a7N (ho:PE X o to)(ha:PA X [e] t)(hbase:attributeBase o "pop" X.env (eval o X.env)=eval o X.env:=by rfl)
  (hfew:((backTo cpos (starEach [e] X.env)).all (fun x=>!x.1) && (backToKw cpos (keywordEach [] X.env)).all (fun x=>x.1.isSome)
   && decide (([e]:List Expr).length+([]:List Keyword).length+(if ([]:List Keyword).isEmpty then 0 else 1)<30))=true:=by rfl)
  (hline:(apos.endLine == cpos.line)=true:=by rfl) (hs:starEach [e] X.env=(false,eval e X.env)::starEach [] X.env:=by rfl) (hplain:(backTo cpos (starEach [] X.env)).any (·.1)=false:=by rfl) :
  PE X (.Call (.Attribute o "pop" apos) [e] [] cpos) (b6V to t):=
 (a7A X5 PySem.F.slot_list_pop PySem.F.type_list_pop a7K (cB ho) (qF ha) hbase hfew hline hs hplain).imp fun σ H Q h=>⟨_,h,fun x H1 q=>by
  obtain⟨l,rfl,⟨xs,q1⟩,q2⟩:=vR.ex q
  refine⟨.inl ⟨rfl,xs,SqL.of q1⟩,_,q2,fun vs H2 q3=>?_⟩
  obtain⟨y,rfl,q3⟩:=l1.ex q3
  obtain⟨i,rfl,xs,k,y,h1,h2,h3,h4,h5⟩:=vI.ex q3
  exact⟨l,xs,i,k,y,rfl,rfl,h1,h2.1,h2.2,h3,h4,h5⟩⟩
end
theorem pP:∀{bs:List Bool}{us:List Value},Vals (bs.map V.bl) us->us=bs.map Value.bool
 |[],_,.nil=>rfl
 | b::r,_,.cons h t=>by
  cases (show _=Value.bool b from h)
  rw[pP t];rfl
def c1U (K:W.Frag):List V->Hp->VK->Prop:=fun xs H Q=>l1 xs fun x=>vR x fun p=>∃bs:List Bool,SqL K H p (bs.map V.bl)/\Q (.bl (bs.all id)) H
def all_range (bs:List Bool):(List.range bs.length).all (fun i=>bs.getD i false)=bs.all id:=by
 have e:(List.range bs.length).map (fun i=>bs.getD i false)=bs:=by
  apply List.ext_getElem
  ·simp
  ·intro i h1 h2
   simp[Ye,h2]
 conv=>rhs;rw[<-e,List.all_map]
 rfl
def b7T (hc:X.calm=true):fD X (.builtin "all") (c1U X.K):=by
 intro pins s σ H xs us Q I r h
 obtain⟨x,rfl,h⟩:=l1.ex h
 obtain⟨p,rfl,bs,hS,q⟩:=vR.ex h
 obtain⟨u,rfl,ru⟩:=vals1 r
 cases ru
 obtain⟨its,rv,pl,_⟩:=I.list hS
 have ei:=pP rv
 subst ei
 have hl:=pl.isList
 have hlt:p<s.heap.objs.size:=by obtain⟨_,e,_⟩:=hl;exact Yo e
 refine call_all_walk (wpAny_pyIter_list hl ?_)
 refine⟨_,_,_,_,_,_,fun i=>bs.getD i false,rfl,Walks.list (A:=X.A.in1) (I.ok.hd hc) _ p (YD hlt) _,⟨⟨_,YI _ rfl,rfl,rfl⟩,hl.push _⟩,?_,fun h' tk hk=>?_⟩
 ·intro i v s' Q' E' hP hq
  have hv:(bs.map Value.bool)[i]? =some v:=by simpa using hP
  rw[Yk]at hv
  obtain⟨b,hb,rfl⟩:=YK.mp hv
  have:bs.getD i false=b:=by rw[Ye,hb];rfl
  simp only[this]at hq
  exact Xk hq
 ·have e:(bs.map Value.bool).toArray.size=bs.length:=by simp
  rw[e,all_range]
  exact⟨.bl _,H,I.kept (old_kept hk),rfl,q⟩
end
section
variable {P:Program}{w:World}{mg:Str->Option Value}{base:Heap}{N:List Str}{qual:Str}{scope:Scope}{f:Addr}{cd:Value}{A:Around}{outer:List Env}{s:Shared}{E:XK}
end
section
variable {np hpos:Pos}{y n:Str}{C:Addr}{i:Nat}{b₀:Stmt}{suite:List Stmt}{ts:TS}{hs:List ExceptHandler}{th:TH}
end
section
variable {o e value:Expr}{es:List Expr}{to ta tv:TE}{t:TA}{apos cpos pos':Pos}{C:Addr}{f m:Str}
def b6Z (to:TE):TE:=fun σ H Q=>to σ H fun x H1=>vR x fun l=>∃xs,H1 l=some (.lst xs)/\Q .non (upd H1 l (.lst []))
def a7O (ho:PE X o to)(hbase:attributeBase o "clear" X.env (eval o X.env)=eval o X.env:=by rfl)(hline:(apos.endLine == cpos.line)=true:=by rfl):PE X (.Call (.Attribute o "clear" apos) [] [] cpos) (b6Z to):=
 (a6Z X5 PySem.F.slot_list_clear PySem.F.type_list_clear a7L (cB ho) hbase hline).imp fun σ H Q h=>⟨_,h,fun x H1 q=>by
  obtain⟨l,rfl,xs,h1,h2⟩:=vR.ex q
  exact⟨.inl ⟨rfl,xs,SqL.of h1⟩,l,xs,rfl,rfl,h1,h2⟩⟩
def c2H (C:Addr)(ta:TE)(f:Str):TE:=fun σ H Q=>ta σ H fun x H1=>vR x fun a=>∃dx fs v,H1 a=some (.ins C dx fs)/\fs.lookup f=some v/\Q v H1
def aP (c:Cls X.K C)(n:bG X.K C f)(he:PE X e ta)(hb:attributeBase e f X.env (eval e X.env)=eval e X.env:=by rfl):PE X (.Attribute e f pos) (c2H C ta f):=
 (a6U (cB he) hb).imp fun σ H Q h=>⟨_,h,fun x H1 q=>by
  obtain⟨a,rfl,dx,fs,v,h1,h2,h3⟩:=vR.ex q
  exact⟨a,C,dx,fs,v,rfl,h1,c,n,h2,h3⟩⟩
def c2F (C:Addr)(ta tv:TE)(f:Str):TS:=fun D σ H=>tv σ H fun y H1=>ta σ H1 fun x H2=>vR x fun a=>∃dx fs,H2 a=some (.ins C dx fs)/\fs.length<1000/\D.nx σ (upd H2 a (.ins C dx (fG f y fs)))
theorem bT (c:Cls X.K C)(n:bG X.K C f)(ha:PE X o ta)(hv:PE X value tv)(hs:swapsWith value (some (.Attribute o f pos')) pos.line X.env=pure false:=by rfl):
  PS X (.Assign [.Attribute o f pos'] value pos) (c2F C ta tv f):=
 (a6O (cB ha) (cB hv) hs).imp fun D σ H h=>⟨_,h,fun y H1 q=>⟨_,q,fun x H2 q2=>by
  obtain⟨a,rfl,dx,fs,h1,h2,h3⟩:=vR.ex q2
  exact⟨a,C,dx,fs,rfl,h1,c,n,h2,h3⟩⟩⟩
variable {CX:CXT}{k:Nat}{fa:Addr}{fd:FuncData}{ps:List Str}{sp:Sp}{dvs:List V}{ds:List Value}{E:XK}
def b3R (C:Addr)(m:Str)(sp:Sp)(dvs:List V)(E:XK)(ta:TE)(t:TA):TE:=fun σ H Q=>ta σ H fun x H1=>vR x fun a=>(∃dx fs,H1 a=some (.ins C dx fs)/\fs.lookup m=none)/\t σ H1 fun vs H2=>sp (.ref a::(vs++dvs)) H2 Q E
theorem bQ {pl:Sem Bool}(c:Cls X.K C)(hm:Meth X.K C m fa)(F:fX X.prog X.w X.K X.mg X.base CX k fa fd ps sp)(hr:dF k X.A)(hb:Binds X.K fd ps ds)(hd:Vals dvs ds)(hx:fV CX X E)(he:PE X o ta)(ha:PA X (e::es) t)
  (hst:starEach (e::es) X.env=(false,eval e X.env)::starEach es X.env:=by rfl) (hpl:(backTo pos (starEach es X.env)).any (·.1)=false:=by rfl)
  (ht:eval (.Call (.Attribute o m apos) (e::es) [] pos) X.env=(do
   let ov<-eval o X.env
   standAt apos.atName
   let (f,first)<-holding [ov] (getMethod ov m pl)
   callWith pos f first (backTo pos (starEach (e::es) X.env)) (backToKw pos (keywordEach [] X.env))):=by rfl) :
  PE X (.Call (.Attribute o m apos) (e::es) [] pos) (b3R C m sp dvs E ta t):=
 (b1H (pl:=pl) (cB he) c hm F hr hb hd hx (qF ha) hst hpl ht).imp fun σ H Q h=>⟨_,h,fun x H1 q=>by
  obtain⟨a,rfl,⟨dx,fs,h1,h2⟩,h3⟩:=vR.ex q
  exact⟨a,dx,fs,rfl,h1,h2,_,h3,fun vs H2 z=>z⟩⟩
theorem bL {pl:Sem Bool}(c:Cls X.K C)(hm:Meth X.K C m fa)(F:fX X.prog X.w X.K X.mg X.base CX k fa fd ps sp)(hr:dF k X.A)(hb:Binds X.K fd ps ds)(hd:Vals dvs ds)(hx:fV CX X E)(he:PE X o ta)
  (ht:eval (.Call (.Attribute o m apos) [] [] pos) X.env=(do
   let ov<-eval o X.env
   standAt apos.atName
   let (f,first)<-holding [ov] (getMethod ov m pl)
   callWith pos f first (backTo pos (starEach [] X.env)) (backToKw pos (keywordEach [] X.env))):=by rfl) :
  PE X (.Call (.Attribute o m apos) [] [] pos) (b3R C m sp dvs E ta a2E):=
 (a6S (pl:=pl) (cB he) c hm F hr hb hd hx ht).imp fun σ H Q h=>⟨_,h,fun x H1 q=>by
  obtain⟨a,rfl,⟨dx,fs,h1,h2⟩,h3⟩:=vR.ex q
  exact⟨a,dx,fs,rfl,h1,h2,h3⟩⟩
end
section
end
section
end
end L2
namespace L2
open PySem
def zW (K:W.Frag)(a:Addr)(ns:List Int):Prop:=∃(o:Obj)(its:Array Value)(n:Nat),K.lookup a=some o/\o.cls= .type "tuple"/\o.data= .seq its n/\its.size<=sizeLine/\Vals (ns.map V.int) its.toList
def zW.of {K:W.Frag}{a:Addr}{od:Option Addr}{sl:Array (Option Value)}{n:Nat}{its:Array Value}{ns:List Int}(h:K.lookup a=some ⟨.type "tuple",od,.seq its n,sl⟩)(hs:its.size<=sizeLine)(hv:Vals (ns.map V.int) its.toList):zW K a ns:=⟨_,its,n,h,rfl,rfl,hs,hv⟩
def zW.sq {K:W.Frag}{a:Addr}{ns:List Int}(h:zW K a ns)(H:Hp):SqT K H a (ns.map V.int):= .inr h
end L2
namespace L2
open PySem PySem.Spec PyProof.Rows
variable {X:Cx}{o:Expr}{e:Expr}{to:TE}{t:TA}{apos:Pos}{cpos:Pos}
def fB {s:Stmt}:PS X s (fun _ _ _=>False):=fun _ _ _ _ _ _ h=>h.elim
def a3U {xs:List V}{a:Nat}(h:a<=xs.length):jM xs (some (a:Int)) none=xs.drop a:=by
 unfold jM
 rw[HT.sIx_nat,HT.sIx_none,Jl h,Yl (by rw[XE];omega)]
section
end
section
end
section
end
end L2
namespace L2
open PySem PySem.Spec PyProof.Rows PySem.MeetsSeq PySem.SeqAt
section
variable {X:Cx}{o e:Expr}{to:TE}{t:TA}{apos cpos:Pos}
end
end L2
namespace L2
open PySem PySem.Spec PyProof.Rows
variable {w:World}{X:Cx}
set_option maxRecDepth 100000
section
variable {prog:Program}{A:Around}{I:Addr}{fp wr:List Addr}{n:Nat}{P:Nat->Value->Prop}{St:Nat->Heap->Prop}{d:Value}
end
section
variable {prog:Program}{A:Around}{E:Value->Shared->Prop}{s:Shared}
end
section
end
def uO:bootBuiltins "enumerate"=some (.type "enumerate"):=by decide +kernel
section
variable {pins:List (Addr×Obj)}{σ:St}{H:Hp}{s:Shared}
theorem Inv.turnedT {h':Heap}{t':Nat}{fp:List Addr}{T:Addr}{xs:List V}(I:Inv X pins σ H s)(hf:∀b∈fp,lG X pins H b)(k:∀b o,b∉fp->s.heap.get? b=some o->h'.get? b=some o)(hT:s.heap.objs.size<=T)
  (new:dN X.prog X.w (upd H T (.tup xs)) h' T (.tup xs)):Inv X pins σ (upd H T (.tup xs)) { s with heap:=h',toks:=t' }:=by
 have hN:H T=none:=I.hok.fresh hT
 have neT:∀b o,s.heap.get? b=some o->b≠T:=fun b o e z=>by
  have:=Yo e
  rw[z]at this
  exact absurd (Yf this hT) (YS _)
 have up:∀b u,H b=some u->upd H T (.tup xs) b=some u:=fun b u e=>by rw[aH (aO e hN)];exact e
 have nit:∀b u,H b=some u->b∉fp:=fun b u e z=>by rw[(hf b z).1]at e;cases e
 refine I.step (g':=s.gens) (d':=s.drawn) (ch:=fp) (fun b hb=>?_) (fun b o _ _ hc e _=>k b o hc e) (fun b o _ _ hc e _=>⟨o.slots,k b o hc e⟩) (fun b o _ e n=>by rw[aH (neT b o e)];exact n)
  (fun b o hc e=>⟨o,k b o hc e⟩) (fun b _ e=>up b _ e) (fun b _ _ e=>up b _ e) (fun b ps e=>⟨#[],by rw[up b _ e];simp⟩) (fun m hm=>?_) (fun b u e=>?_) I.bare
 ·obtain⟨f0,f1,f2,f3,f4,f5⟩:=hf b hb
  exact⟨f3,f1,f4,f5⟩
 ·obtain⟨o,es,ep,ho,r⟩:=hm
  exact⟨o,es,ep,k _ o (fun z=>(hf _ z).2.1 rfl) ho,r⟩
 ·by_cases hb:b=T
  ·subst hb
   rw[aC]at e
   cases e
   exact new
  ·rw[aH hb]at e
   refine(I.hok b u e).stay (fun c v hc q=>k c v ?_ q) (fun _ q=>up _ _ q) fun _ _ q=>up _ _ q
   rcases hc with z | z
   ·rw[z];exact nit b u e
   ·exact nit c _ z
end
def Ite (K:W.Frag)(a:Addr):It:=
 ⟨fun i H=>∃xs x,SqL K H a xs/\xs[i]? =some x,fun i H v H'=>∃p x,H p=none/\v= .ref p/\(∀xs,SqL K H a xs->xs[i]? =some x)/\H'=upd H p (.tup [.int ((i:Nat):Int),x]),fun i H=>∃xs,SqL K H a xs/\xs.length<=i⟩
theorem a2B {P:Program}{K:W.Frag}{elts:List Expr}{k':Nat}{pos:Pos}(a e it:Addr)(hei:e≠it):
  Turn P w K (.Tuple elts k' pos) (Ite K a) [e,it] e (fun i h=>(∃old,IsEnum h e it ((i:Nat):Int) old)/\h.IsListIter it a i) where
 mem:=by simp
 obj := fun i h st b hb=>by
  obtain⟨⟨old,he⟩,o,e1,c,d⟩:=st
  simp only[YH,XD,or_false]at hb
  rcases hb with rfl | rfl
  ·exact⟨_,he,fun v z=>by
    have z':Data.fields _=Data.cell v:=z
    cases z'⟩
  ·exact⟨o,e1,fun v z=>by rw[d]at z;cases z⟩
 keep:=fun i h h' st k=>by
  obtain⟨⟨old,he⟩,hit⟩:=st
  exact⟨⟨old,k e (by simp) _ he⟩,hit.at fun o x=>k it (by simp) o x⟩
 item :=by
  intro X hP hw hK hc i pins s σ H E I hf st hg
  subst hP hw hK
  obtain⟨⟨old,he⟩,hit⟩:=st
  obtain⟨xs,x,hq,hx⟩:=hg
  obtain⟨its,rv,p,hz⟩:=I.list hq
  obtain⟨u,hu,ru⟩:=rv.get hx
  refine wpAny_pyNext_enum_item he hit p.isList (x:=u) (by simpa using hu) hei fun h1 ho hit1 hT hsz hk=>?_
  refine⟨_,rfl,wpAny_letOwnedTupleGo_enum (s:={ s with heap:=h1,toks:=s.toks+1 }) ho fun h2 he2 hs2=>?_⟩
  have hs2':Heap.SameBut e h1 h2:=hs2
  have eT:e≠s.heap.objs.size:=YD (Yo he)
  have iT:it≠s.heap.objs.size:=by obtain⟨o,e1,_⟩:=hit;exact YD (Yo e1)
  have hN:H s.heap.objs.size=none:=I.hok.fresh (Yd _)
  refine⟨.ref s.heap.objs.size,upd H s.heap.objs.size (.tup [.int ((i:Nat):Int),x]),I.turnedT hf (fun b o hb q=>?_) (Yd _) ?_,rfl,⟨_,x,hN,rfl,fun ys hy=>by rw[I.list_inj hy hq];exact hx,rfl⟩,⟨⟨u,?_⟩,?_⟩,fun b hb=>?_⟩
  ·have b1:b≠e:=fun z=>hb (by simp[z])
   have b2:b≠it:=fun z=>hb (by simp[z])
   exact(hs2'.2 b b1).trans (hk b o b1 b2 q)
  ·exact⟨(by show 2<=sizeLine;decide), [.int ((i:Nat):Int) s.toks,u],.cons ⟨_,rfl⟩ (.cons ru .nil),⟨_,(hs2'.2 _ (Ne.symm eT)).trans hT,rfl,_,rfl⟩⟩
  ·have:((i+1:Nat):Int)=((i:Nat):Int)+1:=by push_cast;rfl
   rw[this];exact he2
  ·exact hit1.at fun o y=>(hs2'.2 it (Ne.symm hei)).trans y
  ·have h1:=(hf b hb).1
   have:b≠s.heap.objs.size:=by
    simp only[YH,XD,or_false]at hb
    rcases hb with rfl | rfl
    ·exact eT
    ·exact iT
   rw[aH this];exact h1
 done:=by
  intro X hP hw hK hc i pins s σ H E I hf st hg
  subst hP hw hK
  obtain⟨⟨old,he⟩,hit⟩:=st
  obtain⟨xs,hq,hx⟩:=hg
  obtain⟨its,rv,p,hz⟩:=I.list hq
  obtain⟨f0,f1,f2,f3,f4,f5⟩:=hf it (by simp)
  have hl:=rv.length
  exact wpAny_pyNext_enum_end (I.ok.hd hc) he hit p.isList (Array.getElem?_eq_none (by simp;omega)) fun h' eb=>⟨rfl,I.turned (t':=s.toks) (fun b o hb e=>eb b o hb e) f0 f1 f3 f4 f5⟩
 self:=fun _ _ _ _ _ st h=>by
  obtain⟨⟨old,he⟩,_⟩:=st
  exact wpAny_pyIter_enum he h
section
def c0E (K:W.Frag)(ta:TA):TI:=fun σ H R=>ta σ H fun vs H1=>l1 vs fun x=>vR x fun a=>(∃xs,SqL K H1 a xs)/\R (Ite K a) H1
theorem b1S {a:Expr}{ta:TA}{p pos tpos:Pos}{elts:List Expr}{k':Nat}(hg:Gl X "enumerate")(hm:X.mg "enumerate"=none)(ha:PA X [a] ta)(hs:starEach [a] X.env= [(false,eval a X.env)]:=by rfl):
  PI X (.Tuple elts k' tpos) (.Call (.Name "enumerate" p) [a] [] pos) (c0E X.K ta):=by
 intro pins s σ H R I h
 refine Call_ (oG I hg hm uO (XO (thn (ha pos pins s σ H _ I h) fun us s1 hz9=>?_) hs rfl))
 obtain⟨vs,H1,I1,r1,q1⟩:=hz9
 obtain⟨x,rfl,q1⟩:=l1.ex q1
 obtain⟨l,rfl,⟨xs,hq⟩,q⟩:=vR.ex q1
 obtain⟨u,rfl,ru⟩:=vals1 r1
 cases ru
 obtain⟨its,rv,pl,hz⟩:=I1.list hq
 refine call_enumerate_list pl.isList fun h' he hit hsz hk=>?_
 refine wpAny_pyIter_enum (s:={ s1 with heap:=h' }) he ?_
 have I2:Inv X pins σ H1 { s1 with heap:=h' }:=I1.kept (t':=s1.toks) hk
 refine⟨s1.heap.objs.size+1, [s1.heap.objs.size+1,s1.heap.objs.size],_,_,H1,rfl,I2,a2B l _ _ (Nat.succ_ne_self _),⟨⟨_,he⟩,hit⟩,fun b hb=>?_,q⟩
 simp only[YH,XD,or_false]at hb
 rcases hb with rfl | rfl
 ·exact I1.fpOk (Xx _) (I1.hok.fresh (Xx _))
 ·exact I1.fpOk (Yd _) (I1.hok.fresh (Yd _))
end
def gT2 (K:W.Frag)(i j:Nat):TG:=fun v σ H Q=>vR v fun a=>∃x y,SqT K H a [x,y]/\Q ((σ.set i (some x)).set j (some y)) H
def mg2 {tg:Expr}{i j:Nat}(h:PG X tg (b9S X.K 2 (a8H (sV i) (a8H (sV j) b9T)))):PG X tg (gT2 X.K i j):=by
 intro pins s σ H v u Q I r q
 obtain⟨a,rfl,x,y,h1,h2⟩:=vR.ex q
 exact h pins s σ H _ u Q I r ⟨a,_,rfl,h1,rfl,_,_,rfl,_,_,rfl,rfl,h2⟩
theorem a8I {K:W.Frag}{a:Addr}{xs:List V}{g:TG}{tb:TS}{D:Ends}{σ:St}{H:Hp}(Pv:Nat->St->Hp->Prop)(h0:Pv 0 σ H)(hl:∀i σ H,i<=xs.length->Pv i σ H->SqL K H a xs)
  (hs:∀i x σ H p,xs[i]? =some x->Pv i σ H->H p=none->g (.ref p) σ (upd H p (.tup [.int ((i:Nat):Int),x])) fun σ2 H2=>tb { D with nx:=Pv (i+1),ct:=Pv (i+1),bk:=D.nx } σ2 H2) (hd:∀σ H,Pv xs.length σ H->D.nx σ H) :
  ∃ W:Nat->Nat->St->Hp->Prop,(∃m,W 0 m σ H)/\∀i m σ H,W i m σ H->
   ((Ite K a).stop i H/\D.nx σ H)\/((Ite K a).go i H/\∃N:St->Hp->Prop,(∀σ' H',N σ' H'->∃m',m'<m/\W (i+1) m' σ' H')/\∀x H',(Ite K a).yld i H x H'->g x σ H' fun σ2 H2=>tb { D with nx:=N,ct:=N,bk:=D.nx } σ2 H2):=by
 refine⟨fun i m σ H=>m=xs.length-i/\i<=xs.length/\Pv i σ H,⟨xs.length,by simp,YY _,h0⟩,?_⟩
 rintro i m σ H ⟨rfl,hi,p⟩
 have q:=hl i σ H hi p
 by_cases hlt:i<xs.length
 ·refine .inr ⟨⟨xs,xs[i],q,by simp[hlt]⟩,Pv (i+1),fun σ' H' p'=>⟨xs.length-(i+1),by omega,rfl,hlt,p'⟩,?_⟩
  rintro v H' ⟨t,x,ht,rfl,hx,rfl⟩
  exact hs i x σ H t (hx xs q) p ht
 ·have e:i=xs.length:=by omega
  subst e
  exact .inl ⟨⟨xs,q,Yd _⟩,hd σ H p⟩
section
def a3X:bootBuiltins "sorted"=some (.builtin "sorted"):=boot_sorted
end
end L2
namespace L2
open PySem PySem.W PyProof.Rows
section
def Pm (N:Nat)(p:Array Nat):Prop:=p.toList.Perm (List.range N)
def getD_at {p:Array Nat}{i:Nat}:p.getD i 0=p.toList.getD i 0:=by
 rw[Xc,Ye,Array.getElem?_toList]
def Pm.sz {N:Nat}{p:Array Nat}(h:Pm N p):p.size=N:=by
 have:=h.length_eq
 rw[YC,Xj]at this
 exact this
def Pm.get {N:Nat}{p:Array Nat}(h:Pm N p){i:Nat}(hi:i<N):∃hl:i<p.toList.length,p.getD i 0=p.toList[i]:=by
 have hl:i<p.toList.length:=by rw[Xj,h.sz];exact hi
 exact⟨hl,by rw[getD_at,Ye,Yc hl];rfl⟩
def Pm.lt {N:Nat}{p:Array Nat}(h:Pm N p){i:Nat}(hi:i<N):p.getD i 0<N:=by
 obtain⟨hl,e⟩:=h.get hi
 rw[e]
 exact Xo.mp (h.mem_iff.mp (YN hl))
def Pm.nj {N:Nat}{p:Array Nat}(h:Pm N p){i j:Nat}(hi:i<N)(hj:j<N)(e:p.getD i 0=p.getD j 0):i=j:=by
 obtain⟨h1,e1⟩:=h.get hi
 obtain⟨h2,e2⟩:=h.get hj
 rw[e1,e2]at e
 have w:=List.pairwise_iff_getElem.mp ((h.nodup_iff).mpr List.nodup_range)
 rcases Nat.lt_trichotomy i j with z | z | z
 ·exact absurd e (w i j h1 h2 z)
 ·exact z
 ·exact absurd e.symm (w j i h2 h1 z)
def Pm.of {N:Nat}{p q:Array Nat}(h:Pm N p)(k:q.Perm p):Pm N q:=(Array.perm_iff_toList_perm.mp k).trans h
variable {N:Nat}{K:Nat->Nat}{cmp:Nat->Nat->(Bool->Shared->Prop)->Shared->Prop}{s:Shared}
def Cmp (N:Nat)(K:Nat->Nat)(cmp:Nat->Nat->(Bool->Shared->Prop)->Shared->Prop)(s:Shared):Prop:=∀(i j:Nat)(C:Bool->Shared->Prop),i<N->j<N->C (decide (K i<K j)) s->cmp i j C s
def Inj (N:Nat)(K:Nat->Nat):Prop:=∀i j,i<N->j<N->K i=K j->i=j
def Asc (K:Nat->Nat)(p:Array Nat)(n:Nat):Prop:=∀i j,i<j->j<n->K (p.getD i 0)<K (p.getD j 0)
def Dsc (K:Nat->Nat)(p:Array Nat)(n:Nat):Prop:=∀i j,i<j->j<n->K (p.getD j 0)<K (p.getD i 0)
def b5V {p:Array Nat}(hK:Inj N K)(hp:Pm N p){i j:Nat}(hi:i<N)(hj:j<N)(ne:i≠j):K (p.getD i 0)≠K (p.getD j 0):=fun e=>ne (hp.nj hi hj (hK _ _ (hp.lt hi) (hp.lt hj) e))
def Asc.snoc {p:Array Nat}{n:Nat}(h:Asc K p n)(h1:1<=n)(k:K (p.getD (n-1) 0)<K (p.getD n 0)):Asc K p (n+1):=fun i j hij hj=>by
 by_cases c:j=n
 ·subst c
  by_cases d:i=j-1
  ·rw[d];exact k
  ·exact Nat.lt_trans (h i (j-1) (by omega) (by omega)) k
 ·exact h i j hij (by omega)
def Dsc.snoc {p:Array Nat}{n:Nat}(h:Dsc K p n)(h1:1<=n)(k:K (p.getD n 0)<K (p.getD (n-1) 0)):Dsc K p (n+1):=fun i j hij hj=>by
 by_cases c:j=n
 ·subst c
  by_cases d:i=j-1
  ·rw[d];exact k
  ·exact Nat.lt_trans k (h i (j-1) (by omega) (by omega))
 ·exact h i j hij (by omega)
theorem zT (hc:Cmp N K cmp s)(hK:Inj N K){p:Array Nat}(hp:Pm N p){Q:Nat->Shared->Prop}:∀f n,1<=n->n+f<=N->Asc K p n->(∀m,n<=m->m<=n+f->Asc K p m->(m=n+f\/K (p.getD m 0)<K (p.getD (m-1) 0))->Q m s)->(kas_asc p f n).kasWp cmp Q s
 |0,n,_,_,ha,h=>h n (Yd _) (Yd _) ha (.inl rfl)
 | f +1,n,h1,h2,ha,h=>by
  show cmp (p.getD n 0) (p.getD (n-1) 0) (fun b s'=>(if b=true then KasT.ret n else kas_asc p f (n+1)).kasWp cmp Q s') s
  refine hc _ _ _ (hp.lt (by omega)) (hp.lt (by omega)) ?_
  by_cases c:K (p.getD n 0)<K (p.getD (n-1) 0)
  ·rw[Yn c]
   exact h n (Yd _) (by omega) ha (.inr c)
  ·rw[Yr c]
   have:=b5V hK hp (show n<N by omega) (show n-1<N by omega) (by omega)
   exact zT hc hK hp f (n+1) (by omega) (by omega) (ha.snoc h1 (by omega)) fun m a1 a2 a3 a4=>h m (by omega) (by omega) a3 (a4.imp (fun z=>by omega) id)
theorem a8P (hc:Cmp N K cmp s)(hK:Inj N K){p:Array Nat}(hp:Pm N p){Q:Array Nat×Nat×Nat->Shared->Prop}:∀f n,1<=n->n+f<=N->Dsc K p n->(∀m,n<=m->m<=N->Dsc K p m->Q (p,m,0) s)->(kas_desc f p n 0).kasWp cmp Q s
 |0,n,_,h2,ha,h=>h n (Yd _) (by omega) ha
 | f +1,n,h1,h2,ha,h=>by
  show cmp (p.getD n 0) (p.getD (n-1) 0) (fun b s'=>(if b=true then (if 0 > 0 then kas_desc f (kas_rev p (n-(0+1)) n) (n+1) 0 else kas_desc f p (n+1) 0) else KasT.ask (p.getD (n-1) 0) (p.getD n 0) fun d=>if d=true then KasT.ret (p,n,0) else kas_desc f p (n+1) (0+1)).kasWp cmp Q s') s
  refine hc _ _ _ (hp.lt (by omega)) (hp.lt (by omega)) ?_
  by_cases c:K (p.getD n 0)<K (p.getD (n-1) 0)
  ·rw[Yn c]
   exact a8P hc hK hp f (n+1) (by omega) (by omega) (ha.snoc h1 c) fun m a1 a2 a3=>h m (by omega) a2 a3
  ·rw[Yr c]
   have:=b5V hK hp (show n<N by omega) (show n-1<N by omega) (by omega)
   show cmp (p.getD (n-1) 0) (p.getD n 0) (fun b s'=>(if b=true then KasT.ret (p,n,0) else kas_desc f p (n+1) (0+1)).kasWp cmp Q s') s
   refine hc _ _ _ (hp.lt (by omega)) (hp.lt (by omega)) ?_
   rw[Yn (by omega)]
   exact h n (Yd _) (by omega) ha
def wV {p:Array Nat}{n k:Nat}(hn:n<=p.size)(hk:k<n):(kas_rev p 0 n).getD k 0=p.getD (n-1-k) 0:=by
 unfold kas_rev
 rw[Xc,Xc,getElem?_mirror_all hn,if_pos ⟨YY _,hk⟩,Nat.zero_add]
def a9U (hc:Cmp N K cmp s)(hK:Inj N K){p:Array Nat}(hp:Pm N p){n:Nat}(h1:1<=n)(hn:n<=N)(hd:Dsc K p n){Q:Nat×Array Nat->Shared->Prop}(h:∀m p',Pm N p'->1<=m->m<=N->Asc K p' m->Q (m,p') s):(kas_tail3 n N p).kasWp cmp Q s:=by
 unfold kas_tail3
 rw[Ju]
 have hp':Pm N (kas_rev p 0 n):=hp.of (mirror_perm _ _ _ _)
 have ha:Asc K (kas_rev p 0 n) n:=fun i j hij hj=>by
  rw[wV (by rw[hp.sz];exact hn) (by omega),wV (by rw[hp.sz];exact hn) hj]
  exact hd _ _ (by omega) (by omega)
 exact zT hc hK hp' (N-n) n h1 (by omega) ha fun m a1 a2 a3 _=>h m _ hp' (by omega) (by omega) a3
def a8X (hc:Cmp N K cmp s)(hK:Inj N K)(hN:2<=N){p:Array Nat}(hp:Pm N p){Q:Nat×Array Nat->Shared->Prop}(h:∀m p',Pm N p'->1<=m->m<=N->Asc K p' m->Q (m,p') s):(kas_count N p).kasWp cmp Q s:=by
 unfold kas_count
 rw[Ju]
 refine zT hc hK hp (N-1) 1 (Yd _) (by omega) (fun i j h1 h2=>by omega) fun m a1 a2 a3 a4=>?_
 by_cases c:m=N
 ·rw[if_pos (by rw[c];exact Xm N)]
  exact h m p hp a1 (by omega) a3
 ·rw [if_neg (by simpa using c)]
  by_cases d:m > 1
  ·rw[if_pos d]
   show cmp (p.getD 0 0) (p.getD (m-1) 0) (fun b s'=>(if b=true then KasT.ret (m,p) else kas_descPart m N (kas_rev p 0 m)).kasWp cmp Q s') s
   refine hc _ _ _ (hp.lt (by omega)) (hp.lt (by omega)) ?_
   rw[Yn (a3 0 (m-1) (by omega) (by omega))]
   exact h m p hp a1 (by omega) a3
  ·have m1:m=1:=by omega
   subst m1
   rw[if_neg d]
   unfold kas_descPart
   rw[Ju]
   have k:=a4.resolve_left (by omega)
   refine a8P hc hK hp _ 2 (by omega) (by omega) (fun i j h1 h2=>?_) fun n b1 b2 b3=>?_
   ·have:i=0/\j=1:=by omega
    rw[this.1,this.2];exact k
   ·show (if (0:Nat) > 0 then _ else kas_tail3 n N p).kasWp cmp Q s
    rw[if_neg (by omega)]
    exact a9U hc hK hp (by omega) b2 b3 h
theorem qD (hc:Cmp N K cmp s)(hK:Inj N K){p:Array Nat}(hp:Pm N p){k:Nat}(hk:k<N)(ha:Asc K p k){Q:Nat->Shared->Prop}:∀f l r,l<=r->r<=k->r-l<=f->(∀i,i<l->K (p.getD i 0)<K (p.getD k 0))->(∀i,r<=i->i<k->K (p.getD k 0)<K (p.getD i 0))->(∀l',l'<=k->(∀i,i<l'->K (p.getD i 0)<K (p.getD k 0))->(∀i,l'<=i->i<k->K (p.getD k 0)<K (p.getD i 0))->Q l' s)->(kas_place p k f l r).kasWp cmp Q s
 | 0,l,r,h1,h2,h3,b1,b2,h=>by
  have:r=l:=by omega
  subst this
  exact h r h2 b1 b2
 | f + 1,l,r,h1,h2,h3,b1,b2,h=>by
  show (if l>=r then KasT.ret l else KasT.ask (p.getD k 0) (p.getD ((l+r) / 2) 0) fun c=>if c=true then kas_place p k f l ((l+r) / 2) else kas_place p k f ((l+r) / 2+1) r).kasWp cmp Q s
  by_cases c:l>=r
  ·rw[if_pos c]
   have:r=l:=by omega
   subst this
   exact h r h2 b1 b2
  ·rw [if_neg c]
   show cmp (p.getD k 0) (p.getD ((l+r) / 2) 0) (fun b s'=>(if b=true then kas_place p k f l ((l+r) / 2) else kas_place p k f ((l+r) / 2+1) r).kasWp cmp Q s') s
   refine hc _ _ _ (hp.lt hk) (hp.lt (by omega)) ?_
   have asc':∀i j,i<=j->j<k->K (p.getD i 0)<=K (p.getD j 0):=fun i j hij hj=>by
    by_cases e:i=j
    ·rw[e];exact Yd _
    ·exact YV (ha i j (by omega) hj)
   by_cases d:K (p.getD k 0)<K (p.getD ((l+r) / 2) 0)
   ·rw[Yn d]
    exact qD hc hK hp hk ha f l _ (by omega) (by omega) (by omega) b1 (fun i h4 h5=>Yf d (asc' _ i h4 h5)) h
   ·rw[Yr d]
    have:=b5V hK hp hk (show (l+r) / 2<N by omega) (by omega)
    exact qD hc hK hp hk ha f _ r (by omega) h2 (by omega) (fun i hi=>X2 (asc' i ((l+r) / 2) (by omega) (by omega)) (by omega)) b2 h
def wW {p:Array Nat}{k d i:Nat}(hk:k<p.size)(hd:d<=k):(bubble p k d).getD i 0=if i=k-d then p.getD k 0 else if k-d<i/\i<=k then p.getD (i-1) 0 else p.getD i 0:=by
 rw[Xc,getElem?_bubble hk d hd i]
 by_cases c:i=k-d
 ·rw[if_pos c,if_pos c];exact(Xc ..).symm
 ·rw[if_neg c,if_neg c]
  by_cases e:k-d<i/\i<=k
  ·rw[if_pos e,if_pos e];exact(Xc ..).symm
  ·rw[if_neg e,if_neg e];exact(Xc ..).symm
theorem a9F (hc:Cmp N K cmp s)(hK:Inj N K){Q:Array Nat->Shared->Prop}(h:∀p',Pm N p'->Asc K p' N->Q p' s):∀f (p:Array Nat) k,Pm N p->k+f=N->Asc K p k->(kas_bin f p k).kasWp cmp Q s
 |0,p,k,hp,e,ha=>h p hp (by rw[<-e];exact ha)
 | f + 1, p,k,hp,e,ha=>by
  show ((kas_place p k k 0 k).bind fun l=>kas_bin f (bubble p k (k-l)) (k+1)).kasWp cmp Q s
  rw[Ju]
  refine qD hc hK hp (by omega) ha k 0 k (YY _) (Yd _) (by omega) (fun i hi=>absurd hi (Y0 _)) (fun i h1 h2=>by omega) fun l h1 h2 h3=>?_
  refine a9F hc hK h f _ (k+1) (hp.of (bubble_perm _ _ _)) (by omega) fun i j hij hj=>?_
  have hs:k<p.size:=by rw[hp.sz];omega
  rw[wW hs (by omega),wW hs (by omega),show k-(k-l)=l by omega]
  by_cases c1:i=l
  ·rw[if_pos c1,if_neg (by omega),if_pos (by omega)]
   exact h3 _ (by omega) (by omega)
  ·rw [if_neg c1]
   by_cases c2:l<i/\i<=k
   ·rw[if_pos c2,if_neg (by omega),if_pos (by omega)]
    exact ha _ _ (by omega) (by omega)
   ·rw [if_neg c2]
    by_cases c3:j=l
    ·rw[if_pos c3];exact h2 i (by omega)
    ·rw [if_neg c3]
     by_cases c4:l<j/\j<=k
     ·rw[if_pos c4]
      by_cases c5:i=j-1
      ·omega
      ·exact ha _ _ (by omega) (by omega)
     ·rw[if_neg c4];exact ha _ _ hij (by omega)
def b0O (hc:Cmp N K cmp s)(hK:Inj N K)(hN:2<=N){Q:Array Nat->Shared->Prop}(h:∀p',Pm N p'->Asc K p' N->Q p' s):(kas_sort N).kasWp cmp Q s:=by
 unfold kas_sort
 rw[Ju]
 refine a8X hc hK hN (show Pm N (List.toArray (List.range N)) from List.Perm.refl _) fun m p hp h1 h2 ha=>?_
 show (if m<N then kas_bin (N-max m 1) p (max m 1) else KasT.ret p).kasWp cmp Q s
 by_cases c:m<N
 ·rw[if_pos c,show max m 1=m by omega]
  exact a9F hc hK h _ p m hp (by omega) ha
 ·rw[if_neg c]
  have:m=N:=by omega
  exact h p hp (this▸ha)
end
section
variable {prog:Program}{w:World}{A:Around}{E:Value->Shared->Prop}{s:Shared}
abbrev Tri:=Nat×Nat×Str
def mL (e:Tri):Nat:=e.1*8+e.2.1
def b7K (h:Heap)(v:Value)(e:Tri):Prop:=∃(a:Addr)(t1 t2 t3:Tok),v= .ref a/\IsTup h a #[.int ((e.1:Nat):Int) t1,.int ((e.2.1:Nat):Int) t2,.str e.2.2 t3]
def a9S {v1 v2:Value}{e1 e2:Tri}(h1:b7K s.heap v1 e1)(h2:b7K s.heap v2 e2)(p1:e1.2.1<8)(p2:e2.2.1<8)(inj:mL e1=mL e2->e1=e2){C:Bool->Shared->Prop}(hC:C (decide (mL e1<mL e2)) s):wpAny (model prog w) A (keyLt' (tuples' true) v1 v2) C E s:=by
 obtain⟨a,t1,t2,t3,rfl,o,ho,_,n,hd⟩:=h1
 obtain⟨b,u1,u2,u3,rfl,o',ho',_,n',hd'⟩:=h2
 refine kat_lt ho hd ho' hd' ?_
 show KatLex prog w A true (decide (3<3)) C [(.int ((e1.1:Nat):Int) t1,.int ((e2.1:Nat):Int) u1),(.int ((e1.2.1:Nat):Int) t2,.int ((e2.2.1:Nat):Int) u2),(.str e1.2.2 t3,.str e2.2.2 u3)] 0 s
 unfold mL at hC inj
 refine kat_cons (SeqAt.EqAt.int_int _ _ _ _ prog w _ _ ?_)
 by_cases c:e1.1=e2.1
 ·rw [show (((e1.1:Nat):Int) == ((e2.1:Nat):Int))=true by rw[c];exact Xm _]
  refine kat_yes (kat_cons (SeqAt.EqAt.int_int _ _ _ _ prog w _ _ ?_))
  by_cases d:e1.2.1=e2.2.1
  ·have ee:=inj (by rw[c,d])
   subst ee
   rw[show (((e1.2.1:Nat):Int) == ((e1.2.1:Nat):Int))=true from Xm _]
   refine kat_yes (kat_cons (SeqAt.EqAt.str_str _ _ _ _ prog w _ _ ?_))
   rw[show (e1.2.2 == e1.2.2)=true from Xm _]
   refine kat_yes (kat_nil ?_)
   rw[Yr (by omega)]at hC
   exact hC
  ·rw[show (((e1.2.1:Nat):Int) == ((e2.2.1:Nat):Int))=false by rw[Y9];omega]
   refine kat_no (kat_one _ _ (lt_int ?_))
   show C (decide (((e1.2.1:Nat):Int)<((e2.2.1:Nat):Int))) s
   rw[show decide (((e1.2.1:Nat):Int)<((e2.2.1:Nat):Int))=decide (e1.1*8+e1.2.1<e2.1*8+e2.2.1) from decide_eq_decide.mpr ⟨fun z=>by omega,fun z=>by omega⟩]
   exact hC
 ·rw[show (((e1.1:Nat):Int) == ((e2.1:Nat):Int))=false by rw[Y9];omega]
  refine kat_no ?_
  show wpAny (model prog w) A (keyLt' oneType' _ _) C _ s
  refine kat_lt_int ?_
  rw[show decide (((e1.1:Nat):Int)<((e2.1:Nat):Int))=decide (e1.1*8+e1.2.1<e2.1*8+e2.2.1) from decide_eq_decide.mpr ⟨fun z=>by omega,fun z=>by omega⟩]
  exact hC
structure Trs (h:Heap)(vs:List Value)(es:List Tri):Prop where
 len:vs.length=es.length
 at_:∀(i:Nat)(v:Value)(e:Tri),vs[i]? =some v->es[i]? =some e->b7K h v e
def Trs.keeps {h h':Heap}{vs:List Value}{es:List Tri}(t:Trs h vs es)(k:∀b o,h.get? b=some o->h'.get? b=some o):Trs h' vs es:=⟨t.len,fun i v e a b=>let ⟨x,t1,t2,t3,p,o,ho,r⟩:=t.at_ i v e a b;⟨x,t1,t2,t3,p,o,k _ _ ho,r⟩⟩
theorem Trs.tups {h:Heap}:∀{vs:List Value}{es:List Tri},Trs h vs es->∃fs,KatTups h vs fs/\fs.length=vs.length/\∀v∈fs,∃i t,v=Value.int i t
 |[], [],_=>⟨[],.nil,rfl,fun v hv=>by cases hv⟩
 | v::vs,e::es,t=>by
  obtain⟨fs,k,l,a⟩:=Trs.tups (vs:=vs) (es:=es) ⟨by simpa using t.len,fun i v e h1 h2=>t.at_ (i+1) v e h1 h2⟩
  obtain⟨x,t1,t2,t3,rfl,o,ho,hc,n,hd⟩:=t.at_ 0 v e rfl rfl
  exact⟨.int _ t1::fs,KatTups.cons ho hc hd rfl k,by rw[YE,YE,l],fun v hv=>(YH.mp hv).elim (fun z=>⟨_,_,z⟩) (a v)⟩
 |[],_::_,t=>by have:=t.len;simp at this
 |_::_, [],t=>by have:=t.len;simp at this
def UnT (es:List Tri):Prop:=(∀e∈es,e.2.1<8)/\∀(i j:Nat)(x y:Tri),es[i]? =some x->es[j]? =some y->mL x=mL y->i=j
abbrev kyT (es:List Tri)(i:Nat):Nat:=mL (es.getD i (0,0,""))
theorem wM {a:Addr}{vs:List Value}{es:List Tri}{n:Nat}{P:Fin->Shared->Prop}(ho:s.heap.get? a=some (seqObj "list" vs.toArray n))(ht:∀h':Heap,(∀b o,b≠a->s.heap.get? b=some o->h'.get? b=some o)->Trs h' vs es)(hu:UnT es)(h2:2<=vs.length)(h64:vs.length<64)
  (h:∀p:Array Nat,Pm vs.length p->Asc (kyT es) p vs.length->P (.done (.ret .none)) { s with heap:=sortedHeap s.heap a vs (List.toArray (p.toList.map fun i=>vs.getD i Value.none)) }) :
  wpAny (model prog w) A (Builtin.«list.sort» ⟨[.ref a], []⟩) P E s:=by
 rw[list_sort_plain]
 have ha:a<s.heap.objs.size:=Yo ho
 refine YJ (listItems_at ho rfl ?_)
 refine YJ (listUpdate_at ho rfl ?_)
 obtain⟨e1,ho1⟩:∃e1,(s.heap.update a (Obj.mapSeq fun _=>#[])).get? a=some (seqObj "list" #[] e1):=⟨_,get?_update_seq ho (fun _=>#[])⟩
 refine YJ (seqEpoch_at ho1 rfl ?_)
 refine YJ (wpAny_newTuple ?_)
 refine YJ (wpAny_newList ?_)
 refine wpAny_holding ?_
 have ho6:(((s.heap.update a (Obj.mapSeq fun _=>#[])).push (seqObj "tuple" vs.toArray 0)).push (seqObj "list" #[] 0)).get? a=some (seqObj "list" #[] e1):=by
  rw[XT _ _ _ (by rw[size_push',Jq];exact YD (Xy ha)),XT _ _ _ (by rw[Jq];exact YD ha)]
  exact ho1
 have tr:=ht (((s.heap.update a (Obj.mapSeq fun _=>#[])).push (seqObj "tuple" vs.toArray 0)).push (seqObj "list" #[] 0)) fun b o hb e=>by
  have hlt:b<s.heap.objs.size:=Yo e
  rw[XT _ _ _ (by rw[size_push',Jq];exact YD (Xy hlt)),XT _ _ _ (by rw[Jq];exact YD hlt),Heap.get?_update_ne _ _ _ _ hb]
  exact e
 show wpAny (model prog w) A _ P E { s with heap:=((s.heap.update a (Obj.mapSeq fun _=>#[])).push (seqObj "tuple" vs.toArray 0)).push (seqObj "list" #[] 0) }
 dsimp only
 have hn2:¬ vs.toArray.size<2:=by rw[Yt];omega
 rw[if_neg hn2,if_neg hn2]
 obtain⟨fs,kt,fl,fi⟩:=tr.tups
 have gI:∀i,i<vs.length->∃v e,vs[i]? =some v/\es[i]? =some e/\vs.getD i Value.none=v/\es.getD i (0,0,"")=e:=fun i hi=>by
  have hi':i<es.length:=by rw[<-tr.len];exact hi
  exact⟨_,_,Yc hi,Yc hi',by simp[hi],by simp[hi']⟩
 refine YJ (kat_kind (T:= .type "int") kt (by omega) (fun v hv=>by obtain⟨i,t,rfl⟩:=fi v hv;exact Looks.of_pure rfl) rfl ?_)
 refine YJ (Y5 (kat_run (κ:=tuples' true) (ks:=vs) (vs:=vs) (Q:=fun st' s'=>∃p:Array Nat,arrOf st'=p.map (kas_item (vs.toArray.zip vs.toArray))/\failedOf st'=none/\p.size=vs.length/\Pm vs.length p/\Asc (kyT es) p vs.length/\s'={ s with heap:=((s.heap.update a (Obj.mapSeq fun _=>#[])).push (seqObj "tuple" vs.toArray 0)).push (seqObj "list" #[] 0) })
  (G:=fun p s'=>Pm vs.length p/\Asc (kyT es) p vs.length/\s'={ s with heap:=((s.heap.update a (Obj.mapSeq fun _=>#[])).push (seqObj "tuple" vs.toArray 0)).push (seqObj "list" #[] 0) }) rfl h2 h64 (fun p st' s' a1 a2 a3 a4=>⟨p,a2,a3,a1,a4⟩)
  (b0O (N:=vs.length) (K:=kyT es) (fun i j C hi hj hC=>?_) (fun i j hi hj e=>?_) h2 fun p hp ha=>⟨hp,ha,rfl⟩)) ?_ fun _ _ e=>e)
 ·obtain⟨v1,x1,b1,b2,b3,b4⟩:=gI i hi
  obtain⟨v2,x2,c1,c2,c3,c4⟩:=gI j hj
  show wpAny (model prog w) A (keyLt' (tuples' true) (vs.getD i Value.none) (vs.getD j Value.none)) C _ _
  rw[b3,c3]
  unfold kyT at hC
  rw[b4,c4]at hC
  exact a9S (tr.at_ i v1 x1 b1 b2) (tr.at_ j v2 x2 c1 c2) (hu.1 _ (Yx b2)) (hu.1 _ (Yx c2)) (fun z=>by have:=hu.2 i j x1 x2 b2 c2 z;subst this;rw[b2]at c2;exact Yp c2) hC
 ·obtain⟨v1,x1,b1,b2,b3,b4⟩:=gI i hi
  obtain⟨v2,x2,c1,c2,c3,c4⟩:=gI j hj
  unfold kyT at e
  rw[b4,c4]at e
  exact hu.2 i j x1 x2 b2 c2 e
 rintro ⟨⟨⟩,st'⟩ s' ⟨p,har,hf,hsz,hp,hs,rfl⟩
 dsimp only
 have hout:=kat_snds (ks:=vs) (vs:=vs) rfl har
 have hl:(List.toArray (p.toList.map fun i=>vs.getD i Value.none)).size=vs.length:=by rw[Yt,Ya,Xj,hsz]
 rw[hout]
 refine YJ (seqEpoch_at ho6 rfl ?_)
 refine YJ (listUpdate_at ho6 rfl ?_ (hsz2:=by rw[hl,sizeLine_eq];omega))
 rw[hf]
 simp only[bne_self_eq_false,Bool.false_eq_true,if_false]
 exact Y6 (h p hp hs)
theorem a6B {l:Addr}{vs:List Value}{es:List Tri}{Q:Value->Shared->Prop}(hl:s.heap.IsList l vs.toArray)(ht:Trs s.heap vs es)(hu:UnT es)(h2:2<=vs.length)(h64:vs.length<64)
  (h:∀p:Array Nat,Pm vs.length p->Asc (kyT es) p vs.length->Q (.ref (s.heap.objs.size+1)) { s with heap:=sortedAll s.heap vs (List.toArray (p.toList.map fun i=>vs.getD i Value.none)) }) :
  wpAny (model prog w) A (call (.builtin "sorted") [.ref l]) Q E s:=by
 refine Calls.call_function_entry kind_sorted plain_sorted entry_sorted (args_sorted1 _) ?_
 unfold Builtin.«sorted»
 refine YJ (m:=checkCount "sorted" 1 1 _) (Y6 ?_)
 refine YJ (collect_list hl ?_ (by rw[sizeLine_eq];omega))
 refine YJ (wpAny_newList ?_ (by rw[sizeLine_eq];omega))
 have hsz:((s.heap.push (seqObj "list" #[] 0)).update s.heap.objs.size (Obj.mapSeq (·++vs.toArray))).objs.size=s.heap.objs.size+1:=by
  rw[Jq,size_push']
 have hoL:(((s.heap.push (seqObj "list" #[] 0)).update s.heap.objs.size (Obj.mapSeq (·++vs.toArray))).push (seqObj "list" vs.toArray 0)).get? (s.heap.objs.size+1)=some (seqObj "list" vs.toArray 0):=by
  rw[<-hsz];exact YI _ rfl
 have keep:∀b o,s.heap.get? b=some o->(((s.heap.push (seqObj "list" #[] 0)).update s.heap.objs.size (Obj.mapSeq (·++vs.toArray))).push (seqObj "list" vs.toArray 0)).get? b=some o:=fun b o q=>by
  have hlt:b<s.heap.objs.size:=Yo q
  rw[XT _ _ _ (by rw[hsz];exact YD (Xy hlt)),Heap.get?_update_ne _ _ _ _ (YD hlt),XT _ _ _ (YD hlt)]
  exact q
 show wpAny _ _ _ _ _ { s with heap:=((s.heap.push (seqObj "list" #[] 0)).update s.heap.objs.size (Obj.mapSeq (·++vs.toArray))).push (seqObj "list" vs.toArray 0) }
 rw[hsz]
 refine YJ (wpAny_holding (wpAny_call_entry slot_list_sort ⟨_,hoL,rfl⟩ entry_list_sort (wM hoL (fun h' k=>ht.keeps fun b o e=>k b o (fun z=>absurd (Yo e) (by rw[z];exact Nat.not_lt.mpr (Xx _))) (keep b o e)) hu h2 h64 fun p a1 a2=>⟨_,rfl,?_⟩) (args_list_sort _)))
 exact Y6 ⟨_,rfl,h p a1 a2⟩
end
section
variable {X:Cx}
structure c0G (K:W.Frag)(H:Hp)(xs:List V)(es:List Tri):Prop where
 len:xs.length=es.length
 at_:∀(i:Nat)(x:V)(e:Tri),xs[i]? =some x->es[i]? =some e->∃t,x= .ref t/\SqT K H t [.int ((e.1:Nat):Int),.int ((e.2.1:Nat):Int),.str e.2.2]
def b6B (K:W.Frag):List V->Hp->VK->Prop:=fun xs H Q=>l1 xs fun x=>vR x fun p=>∃(ys:List V)(es:List Tri),SqL K H p ys/\c0G K H ys es/\UnT es/\2<=es.length/\es.length<64/\∀(l:Addr)(zs:List V)(ds:List Tri),H l=none->(zs.length=ds.length/\∀(i:Nat)(z:V)(d:Tri),zs[i]? =some z->ds[i]? =some d->∃j:Nat,ys[j]? =some z/\es[j]? =some d)->(∀x,x∈ds↔x∈es)->(ds.Pairwise fun a b=>mL a<mL b)->Q (.ref l) (upd H l (.lst zs))
def a6H {ys:List V}{its:List Value}(r:Vals ys its){i:Nat}(hi:i<ys.length)(hi':i<its.length):RelV ys[i] its[i]:=by
 obtain⟨u,h1,h2⟩:=r.get (Yc hi)
 rw[Yc hi']at h1
 rw[Yp h1]
 exact h2
theorem uY {ys:List V}{its:List Value}(r:Vals ys its):∀(is:List Nat),(∀i∈is,i<ys.length)->Vals (is.map fun i=>ys.getD i .non) (is.map fun i=>its.getD i Value.none)
 |[],_=> .nil
 | i::is,h=>by
  have hi:=h i Yq
  have hi':i<its.length:=by rw[<-r.length];exact hi
  refine .cons ?_ (uY r is fun j hj=>h j (Yw _ hj))
  have e1:ys.getD i .non=ys[i]:=by simp[hi]
  have e2:its.getD i Value.none=its[i]:=by simp[hi']
  show RelV (ys.getD i .non) (its.getD i Value.none)
  rw[e1,e2]
  exact a6H r hi hi'
def a9L:fD X (.builtin "sorted") (b6B X.K):=by
 intro pins s σ H xs us Q I r h
 obtain⟨x,rfl,h⟩:=l1.ex h
 obtain⟨p,rfl,ys,es,hS,hT,hu,h2,h64,q⟩:=vR.ex h
 obtain⟨u,rfl,ru⟩:=vals1 r
 cases ru
 obtain⟨its,rv,pl,_⟩:=I.list hS
 have hlen:its.length=es.length:=by rw[<-rv.length];exact hT.len
 have trs:Trs s.heap its es:=⟨hlen,fun i v e h1 h2=>by
  have hi:=(Yg.mp h1).1
  have hy:i<ys.length:=by rw[rv.length];exact hi
  obtain⟨t,ex,hq⟩:=hT.at_ i _ e (Yc hy) h2
  have rx:=a6H rv hy hi
  rw[ex]at rx
  obtain⟨tits,rt,it,_⟩:=I.tuple hq
  have ev:v=its[i]:=(Yp ((Yc hi).symm.trans h1)).symm
  rw[ev]
  cases rx':its[i] <;> rw[rx']at rx <;> first | cases rx | skip
  rcases rt with _ | ⟨r1,rt⟩
  rcases rt with _ | ⟨r2,rt⟩
  rcases rt with _ | ⟨r3,rt⟩
  cases rt
  obtain⟨k1,rfl⟩:=r1
  obtain⟨k2,rfl⟩:=r2
  obtain⟨k3,rfl⟩:=r3
  exact⟨_,k1,k2,k3,rfl,it⟩⟩
 refine a6B (vs:=its) pl.isList trs hu (by omega) (by omega) fun pm hp ha=>?_
 obtain⟨e,he⟩:=sortedAll_at s.heap its (List.toArray (pm.toList.map fun i=>its.getD i Value.none))
 have hf:H (s.heap.objs.size+1)=none:=I.hok.fresh (Xx _)
 have ip:∀i∈pm.toList,i<ys.length:=fun i hi=>by rw[rv.length];exact Xo.mp (hp.mem_iff.mp hi)
 have pl':pm.toList.length=its.length:=by rw[hp.length_eq,YC]
 refine⟨.ref (s.heap.objs.size+1),_,I.laid (o:= .lst (pm.toList.map fun i=>ys.getD i .non)) (t':=s.toks) (fun _ _=>sortedAll_old) (Xx _) ?_,rfl,q _ _ (pm.toList.map fun i=>es.getD i (0,0,"")) hf ⟨by rw[Ya,Ya],fun i x d h1 h2=>?_⟩ (fun x=>?_) ?_⟩
 ·refine⟨?_,pm.toList.map (fun i=>its.getD i Value.none),e,uY rv _ ip,?_⟩
  ·rw[Ya,pl'];exact Y1 (by omega:its.length<=64) (by decide)
  ·rw[he]
 ·rw[Yk]at h1 h2
  obtain⟨k,hk,rfl⟩:=YK.mp h1
  rw[hk]at h2
  have hk':=ip k (Yx hk)
  have hk2:k<es.length:=by rw[<-hT.len];exact hk'
  have e2:es.getD k (0,0,"")=d:=Yp h2
  exact⟨k,(by rw[Yc hk'];simp[hk']),(by rw[Yc hk2,<-e2];simp[hk2])⟩
 ·constructor
  ·intro hx
   obtain⟨k,hk,rfl⟩:=Y2.mp hx
   have hk2:k<es.length:=by rw[<-hT.len];exact ip k hk
   rw[show es.getD k (0,0,"")=es[k] by simp[hk2]]
   exact YN _
  ·intro hx
   obtain⟨k,hk,rfl⟩:=Y7 hx
   exact Y2.mpr ⟨k,hp.mem_iff.mpr (Xo.mpr (by omega)),by simp[hk]⟩
 ·rw[List.pairwise_iff_getElem]
  intro i j hi hj hij
  rw[Ya]at hi hj
  rw[List.getElem_map,List.getElem_map]
  have:=ha i j hij (by omega)
  obtain⟨_,g1⟩:=hp.get (show i<its.length by omega)
  obtain⟨_,g2⟩:=hp.get (show j<its.length by omega)
  rw[g1,g2]at this
  exact this
end
end L2
namespace L2
open PySem PySem.Spec PyProof.Rows
variable {x:Str}{y:Str}{c0:Addr}{cl:List (Str×Addr)}{scope:Scope}{X:Cx}{C:Addr}{pos:Pos}{o:Expr}{e:Expr}{es:List Expr}{ta:TE}{t:TA}{apos:Pos}{m:Str}{k:Nat}{fa:Addr}{fd:FuncData}{ps:List Str}{sp:Sp}{dvs:List V}{ds:List Value}
abbrev sY (scope:Scope)(cl:List (Str×Addr))(x:Str)(C:Addr)(env:Env):Env:=compEnvC scope ((x,C+1)::cl) C env
def jC (X:Cx)(scope:Scope)(cl:List (Str×Addr))(x:Str)(ix:List Nat)(C:Addr)(fp:List Addr)(s₀:Shared)(H₀:Hp):Cx:={ cX X scope ((x,C+1)::cl) x ix C fp s₀ H₀ with fn:=fun y=>y == x }
structure CsC (X:Cx)(scope:Scope)(cl:List (Str×Addr))(x:Str)(ix:List Nat):Prop where
 clos:closureFor scope X.env=pure cl
 kind:scope.kind= .function
 loc:scope.names.lookup x=some .cell
 one:∀y∈scope.names,y.2= .local->y.1=".0"
 locs:∀y∈scope.names,y.2= .local->scope.names.lookup y.1=some .local
 onec:∀y∈scope.names,y.2= .cell->y.1=x
 free:∀y∈scope.names,y.2= .free->(X.env.kindOf y.1=some .cell\/X.env.kindOf y.1=some .free)
 cells:∀y∈scope.names,y.2= .free->∃c,cl.lookup y.1=some c
 same:∀y∈cl,X.env.cells.lookup y.1=some y.2
 nd:((".0":Str)::x::jA X.N ix).Nodup
 ce:∀n acc,cellsFrom n scope.names acc=(x,n)::acc
 pc:∀h,pushCells h scope.names=h.push { cls:= .type "cell",data:= .cell none }
def lkC {c:Addr}(h:((x,c0)::cl).lookup y=some c):(y=x/\c=c0)\/(y≠x/\cl.lookup y=some c):=by
 rw[Y3]at h
 cases e:y == x with
 |true=>rw[e]at h;cases h;exact .inl ⟨eq_of_beq e,rfl⟩
 |false=>rw[e]at h;exact .inr ⟨(fun z=>by rw[z,Xm]at e;cases e),h⟩
def c1V (h:y=x):((x,c0)::cl).lookup y=some c0:=by
 rw[Y3,h,Xm]
def b9L (h:y≠x):((x,c0)::cl).lookup y=cl.lookup y:=by
 rw[Y3,Y9.mpr h]
def lC {env:Env}(h:scope.names.lookup x=some .cell):(relabel scope env).names.lookup x=some .cell:=by
 show (scope.names.map fun (n,k)=>if (k == NameKind.free && env.scope.kind == .function && env.kindOf n == some .cell) then (n,NameKind.cell) else (n,k)).lookup x=some .cell
 revert h
 induction scope.names with
 |nil=>intro h;cases h
 | cons p r ih=>
  obtain⟨n,k⟩:=p
  intro h
  rw[Y3]at h
  rw[YR]
  cases e:x == n with
  | true=>
   rw[e]at h
   cases h
   show List.lookup x ((n,NameKind.cell)::_)=_
   rw[Y3,e]
  | false=>
   rw[e]at h
   have hz:∀k',List.lookup x ((n,k')::(r.map fun (n,k)=>if (k == NameKind.free && env.scope.kind == .function && env.kindOf n == some .cell) then (n,NameKind.cell) else (n,k)))=some .cell:=fun k'=>by
    rw[Y3,e]
    exact ih h
   cases c:(k == NameKind.free && env.scope.kind == .function && env.kindOf n == some .cell) with
   |true=>simp only[c,if_true];exact hz _
   |false=>simp only[c,Bool.false_eq_true,if_false];exact hz _
theorem b1R {M:Model}{A:Around}{E:Value->Shared->Prop}{s:Shared}{scope:Scope}{globals:Addr}{closure:List (Str×Addr)}{qual:Str}{func:Option Addr}{code:Value}{outer:Env}{builtins:Addr}{x:Str}{Q:Env->Shared->Prop}
  (hc1:∀n acc,cellsFrom n scope.names acc=(x,n)::acc) (hc2:∀h,pushCells h scope.names=h.push { cls:= .type "cell",data:= .cell none })
  (hQ:Q { scope,locals:=s.heap.objs.size,globals,cells:=(x,s.heap.objs.size+1)::closure,qual,func,code:=outer.code,frame:=outer.frame,builtins:=outer.builtins } { s with heap:=(s.heap.push { cls:= .type "dict",data:= .dict #[] }).push { cls:= .type "cell",data:= .cell none } }) :
  wpAny M A (newFunctionEnv scope globals closure [] qual func code (some outer) builtins) Q E s:=by
 simp only[newFunctionEnv,Option.isSome_some,if_true]
 refine YJ (wpAny_alloc ?_)
 refine YJ (wpAny_layCells _ (fun name kind cells=>by cases hkc:kind == NameKind.cell <;> simp[hkc]) _ _ _ _ ?_)
 rw[hc1,hc2]
 rw[show ({ s with heap:=s.heap.push { cls:= .type "dict",data:= .dict #[] } }:Shared).heap.objs.size=s.heap.objs.size+1 from XU ..]
 refine YJ ?_
 rw[List.forIn_nil]
 exact Y6 (Y6 hQ)
section
variable {ix:List Nat}{fp:List Addr}
def CsC.look (S:CsC X scope cl x ix){c:Addr}(h:cl.lookup y=some c):X.env.cells.lookup y=some c:=S.same _ (lookup_mem h)
theorem CsC.ok (S:CsC X scope cl x ix){pins:List (Addr×Obj)}{σ:St}{H:Hp}{s:Shared}(I:Inv X pins σ H s)(hf:∀b∈fp,lG X pins H b)(hfl:∀b∈fp,b<s.heap.objs.size)(hC:s.heap.objs.size<=C):
  (jC X scope cl x ix C fp s H).Ok where
 mod:=I.ok.mod
 kind:=S.kind
 glob:=I.ok.glob
 blt:=I.ok.blt
 above:=hC
 inj :=fun y z c h1 h2=>by
  have low:∀{y:Str},cl.lookup y=some (C+1)->False:=fun {y} e=>by
   obtain⟨v,oc,hoc,_⟩:=I.cell y _ (S.look e)
   exact absurd (Yf (Yo hoc) hC) (by omega)
  rcases lkC h1 with ⟨rfl,rfl⟩ | ⟨n1,e1⟩ <;> rcases lkC h2 with ⟨e3,e4⟩ | ⟨n2,e2⟩
  ·exact e3.symm
  ·exact(low e2).elim
  ·exact(low (e4▸e1)).elim
  ·exact I.ok.inj y z c (S.look e1) (S.look e2)
 has := fun y h=>by
  have h':(relabel scope X.env).names.lookup y=some .cell\/(relabel scope X.env).names.lookup y=some .free:=h
  have fr:y=x\/scope.names.lookup y=some .free:=by
   rcases h' with h' | h'
   ·obtain⟨k0,e,q | q⟩:=cN h'
    ·exact .inl (S.onec _ (lookup_mem e) q.symm)
    ·exact .inr (by rw[e,q.1])
   ·obtain⟨k0,e,q | q⟩:=cN h'
    ·exact .inr (by rw[e,<-q])
    ·cases q.2
  by_cases c:y=x
  ·exact⟨C+1,c1V c⟩
  ·obtain⟨d,e⟩:=S.cells _ (lookup_mem (fr.resolve_left c)) rfl
   exact⟨d,(b9L c).trans e⟩
 cab:=fun y c h e=>by
  rcases lkC e with ⟨_,rfl⟩ | ⟨n,_⟩
  ·exact X9 hC
  ·exact absurd (eq_of_beq h) n
 hd:=I.ok.hd
 frames:=I.ok.frames
 stk:= .inl rfl
 exf:=fun b hb=>⟨YD (Yf (hfl b hb) hC),fun y c e=>by
  rcases lkC e with ⟨_,rfl⟩ | ⟨_,e⟩
  ·exact Jp (Xy (Yf (hfl b hb) hC))
  ·exact(hf b hb).2.2.2.2.1 y c (S.look e)⟩
 bs:=I.bs
 bsz:=Y1 I.ok.bsz I.sz
 noex:=fun b o e hb=>by
  rcases (hf b hb).2.2.2.1 with z | z
  ·exact I.ok.noex b o e z
  ·exact absurd (Yf (Yo e) (Y1 I.ok.bsz z)) (YS _)
 exfs:=fun b hb z=>by
  rcases YH.mp (I.stkSub b z) with e | e
  ·exact(hf b hb).2.1 e
  ·exact(hf b hb).2.2.1 e
 funs:=I.stack
 frf:=I.stkFree
theorem CsC.inv (S:CsC X scope cl x ix){pins:List (Addr×Obj)}{σ:St}{H:Hp}{s s1:Shared}{m:Str->Option Value}(I:Inv X pins σ H s)(hf:∀b∈fp,lG X pins H b)(hfl:∀b∈fp,b<s.heap.objs.size)
  (hC:s.heap.objs.size<=C) (os:s1.os=s.os) (bare:AllBare s1.gens) (k:∀b o,s.heap.get? b=some o->s1.heap.get? b=some o) (hn:s1.heap.Ns C m) (hcl:s1.heap.IsCell (C+1) none) :
  Inv (jC X scope cl x ix C fp s H) [] (none::fM σ ix) H s1 where
 ok:=S.ok I hf hfl hC
 os:=os
 bare:=bare
 base:=Un.kept k
 loc := ⟨m, hn,fun i y v h1 h2 h3=>by
  cases i with
  |zero=>cases (show none=some v from Yp h2)
  | succ j =>
   obtain⟨i,e1,e2⟩:=vM (N:=X.N) (show (jA X.N ix)[j]? =some y from h1)
   obtain⟨i',e1',e3⟩:=vL (σ:=σ) (show (fM σ ix)[j]? =some (some v) from h2)
   rw[e1]at e1';cases e1'
   have hi:i<X.N.length:=by rw[<-I.len];exact(Yg.mp e3).1
   have hy:X.N[i]? =some y:=by rw[e2,Ye,Yc hi];rfl
   have ne:y≠x:=by
    rintro rfl
    have nd:=(YW.mp S.nd).2
    exact(YW.mp nd).1 (Yx (show (jA X.N ix)[j]? =some y from h1))
   have h3':(relabel scope X.env).names.lookup y=some .local\/(relabel scope X.env).names.lookup y=some .cell\/(relabel scope X.env).names.lookup y=some .free:=h3
   have fr:scope.names.lookup y=some .free/\((relabel scope X.env).names.lookup y=some .cell\/(relabel scope X.env).names.lookup y=some .free):=by
    rcases h3' with z | z | z
    ·obtain⟨k0,e,q | q⟩:=cN z
     ·have z':y=".0":=S.one _ (lookup_mem e) q.symm
      exact absurd (Yw _ (Yx (show (jA X.N ix)[j]? =some y from h1))) (z'▸(YW.mp S.nd).1)
     ·cases q.2
    ·obtain⟨k0,e,q | q⟩:=cN z
     ·exact absurd (S.onec _ (lookup_mem e) q.symm) ne
     ·exact⟨by rw[e,q.1],.inl z⟩
    ·obtain⟨k0,e,q | q⟩:=cN z
     ·exact⟨by rw[e,<-q],.inr z⟩
     ·cases q.2
   have vis:=S.free _ (lookup_mem fr.1) rfl
   obtain⟨m0,_,l0⟩:=I.loc
   obtain⟨u,r,l⟩:=l0 i y v hy e3 (vis.elim (fun z=> .inr (.inl z)) fun z=> .inr (.inr z))
   refine⟨u,r,.inr ⟨fr.2,?_⟩⟩
   rcases l with ⟨k1,_⟩ | ⟨_,c,ec,oc,hoc,hd⟩
   ·rcases vis with z | z
    ·have:=k1.symm.trans z;cases this
    ·have:=k1.symm.trans z;cases this
   ·obtain⟨c',e'⟩:=S.cells _ (lookup_mem fr.1) rfl
    have:some c'=some c:=(S.look e').symm.trans ec
    cases this
    exact⟨c,(b9L ne).trans e',oc,k _ _ hoc,hd⟩⟩
 cell :=fun y c e=>by
  rcases lkC e with ⟨_,rfl⟩ | ⟨_,e⟩
  ·exact⟨none,hcl⟩
  ·obtain⟨v,oc,hoc,hd⟩:=I.cell y c (S.look e)
   exact⟨v,oc,k _ _ hoc,hd⟩
 free:=I.hok.fresh hC
 freeC:=fun y c e=>by
  rcases lkC e with ⟨_,rfl⟩ | ⟨_,e⟩
  ·exact I.hok.fresh (X9 hC)
  ·exact I.freeC y c (S.look e)
 pin:=fun p hp=>absurd (show p∈([]:List (Addr×Obj)) from hp) (by simp)
 hok:=I.hok.kept k
 len:=by show (none::fM σ ix).length=(x::jA X.N ix).length;simp[fM,jA]
end
section
variable {ix:List Nat}{elt iter:Expr}{ifs:List Expr}{px:Pos}{wi:TI}{tt:TT}{te:TE}
theorem xJ (S:CsC X scope cl x ix)(hc:X.calm=true)
    (ht:∀C fp s H,gY X C fp s H->PTs (jC X scope cl x ix C fp s H) ifs tt) (he:∀C fp s H,gY X C fp s H->PE (jC X scope cl x ix C fp s H) elt te)
    {pins:List (Addr×Obj)} {σ:St} {Q:VK} {itv:Value} {s2:Shared} {E:Value->Shared->Prop} {RR:Value->Addr->Result->Shared->Prop} (h2:PIE X pins σ (.Name x px) (fun J H1=>oU J tt te (fun x=>some x::fM σ ix) H1 Q) itv s2)
    (fin:∀(D C:Addr)(H:Hp)(s':Shared)(m:Str->Option Value),Inv X pins σ H s'->s'.heap.Ns C m->H C=none->s2.heap.objs.size<=C->(∀p∈X.pn++pins,p.1≠C)->X.env.locals≠C->(∀y c,X.env.cells.lookup y=some c->c≠C)->X.s₀.heap.objs.size<=C->Q (.ref D) H->RR (.ref D) C (.ok .next) s')
    (fex:∀(D C:Addr)(e:Value)(s':Shared),zO X scope ((x,C+1)::cl) C e s'->notedBy (model X.prog X.w) X.A (sY scope cl x C X.env) (fun e s'=>RR (.ref D) C (.error e) s') e s') :
    wpAny (model X.prog X.w) X.A (newList []) (fun acc s₃=>wpAny (model X.prog X.w) X.A (newFunctionEnv scope X.env.globals cl [] X.env.qual none .none (some X.env)) (fun cenv s₄=>
      codeAny (model X.prog X.w) X.A (.compStart (.ListComp elt [⟨.Name x px,iter,ifs,0⟩] scope pos) 0 itv acc { cenv with scope:=relabel scope X.env }) (RR acc cenv.locals) s₄) E s₃) E s2:=by
  obtain⟨it,fp,tn,J,H2,rfl,I2,T,st2,f2,W,⟨m0,w0⟩,turn⟩:=h2
  have hfl:∀b∈fp,b<s2.heap.objs.size:=fun b hb=>by
    obtain⟨o,e,_⟩:=T.obj _ _ st2 b hb
    exact Yo e
  refine wpAny_newObj_type (b1R S.ce S.pc ?_)
  dsimp only
  generalize hH2:s2.heap.push { cls:= .type "list",dict:=none,data:= .seq ([]:List Value).toArray }=G2
  have hC:G2.objs.size=s2.heap.objs.size+1:=by rw[<-hH2,XU]
  have hDC:s2.heap.objs.size≠G2.objs.size:=by rw[hC];exact YD (Xi _)
  have hCle:s2.heap.objs.size<=G2.objs.size:=by rw[hC];exact Xx _
  generalize hh1:(G2.push { cls:= .type "dict",data:= .dict #[] }).push { cls:= .type "cell",data:= .cell none }=h₁
  have hns₁:h₁.Ns G2.objs.size (fun _=>none):=by
    rw[<-hh1]
    exact(Heap.Ns.new G2 (.type "dict")).keeps fun b o e=>Ym _ e
  have hcl₁:h₁.IsCell (G2.objs.size+1) none:=by
    rw[<-hh1]
    exact⟨_,by rw[show G2.objs.size+1=(G2.push { cls:= .type "dict",data:= .dict #[] }).objs.size from (XU ..).symm];exact YI _ rfl,rfl⟩
  have below:∀b,b<s2.heap.objs.size->b≠G2.objs.size/\b≠s2.heap.objs.size:=fun b hb=>⟨by rw[hC];exact YD (Xy hb),YD hb⟩
  have at0:gY X G2.objs.size fp s2 H2:=⟨⟨pins,σ,I2,f2⟩,hfl,hCle⟩
  have old:∀b o,s2.heap.get? b=some o->h₁.get? b=some o:=fun b o e=>hh1▸Ym _ (Ym _ (hH2▸Ym _ e))
  have hacc:h₁.get? s2.heap.objs.size=some { cls:= .type "list",data:= .seq ([]:List Value).toArray 0 }:=hh1▸Ym _ (Ym _ (hH2▸YI _ rfl))
  have st1:tn 0 h₁:=T.keep _ _ _ st2 fun b _ o e=>old b o e
  have stat:∀{H':Hp},(∀b∈fp,H' b=none)->∀b∈fp,lG (jC X scope cl x ix G2.objs.size fp s2 H2) [] H' b:=fun hn b hb=>
    ⟨hn b hb,(below b (hfl b hb)).1,fun z=>by
      rcases YH.mp (I2.stkSub b z) with e | e
      · exact(f2 b hb).2.1 e
      · exact(f2 b hb).2.2.1 e,.inl hb,fun y c e=>(by
      rcases lkC e with ⟨_,rfl⟩ | ⟨_,e⟩
      · exact Jp (Xy (Yf (hfl b hb) hCle))
      · exact(f2 b hb).2.2.2.2.1 y c (S.look e)),fun p hp=>absurd (show p∈([]:List (Addr×Obj)) from hp) (by simp)⟩
  have I3:∀s₃:Shared,s₃={ s2 with heap:=h₁ }->Inv (jC X scope cl x ix G2.objs.size fp s2 H2) [] (none::fM σ ix) H2 s₃:=fun s₃ e=>by
    subst e
    exact S.inv I2 f2 hfl hCle rfl I2.bare old hns₁ hcl₁
  let Acc:List V->Heap->Prop:=fun ys h=>∃its n,Vals ys its/\h.get? s2.heap.objs.size=some { cls:= .type "list",data:= .seq its.toArray n }
  have loop :∀s₃:Shared,s₃={ s2 with heap:=h₁ }->
      codeAny (model X.prog X.w) X.A (.compLoop (.ListComp elt [⟨.Name x px,iter,ifs,0⟩] scope pos) 0 (.ref it) (.ref s2.heap.objs.size) (sY scope cl x G2.objs.size X.env)) (RR (.ref s2.heap.objs.size) G2.objs.size) s₃:=by
    intro s₃ e₃
    refine nO (fun n s'=>∃i ys H',Inv (jC X scope cl x ix G2.objs.size fp s2 H2) [] (none::fM σ ix) H' s'/\H' s2.heap.objs.size=none/\Acc ys s'.heap/\tn i s'.heap/\(∀b∈fp,H' b=none)/\W i n ys H') ?_ m0
      ⟨0, [],H2,I3 s₃ e₃,I2.hok.fresh (Yd _),⟨[],0,.nil,by rw[e₃];exact hacc⟩,by rw[e₃];exact st1,fun b hb=>(f2 b hb).1,w0⟩
    rintro n s4 ⟨i,ys,H4,I4,hD4,⟨its,kk,rv,eD⟩,st4,fr4,w4⟩
    obtain⟨hsz,q4⟩:=turn i n ys H4 w4
    have hlen:=rv.length
    rcases q4 with ⟨stop,qn⟩ | ⟨go,N,hN,step⟩
    · refine Y5 (T.done (jC X scope cl x ix G2.objs.size fp s2 H2) rfl rfl rfl hc i [(s2.heap.objs.size,{ cls:= .type "list",data:= .seq its.toArray kk })] s4 (none::fM σ ix) H4 (fun _ _=>False) ?_ ?_ st4 stop) (fun r s5 ⟨hr,I5⟩=>?_) fun _ _ z=>z.elim
      · refine I4.pins_of fun p hp=>?_
        rw[Yi.mp hp]
        exact⟨eD,hD4,hDC,fun z=>by
          have:=Jv I2.stack z
          obtain⟨_,o,ho,_⟩:=this
          exact YS _ (Yo ho),fun v z=>by cases z⟩
      · intro b hb
        obtain⟨a1,a2,a3,a4,a5,_⟩:=stat fr4 b hb
        exact⟨a1,a2,a3,a4,a5,fun p hp=>by
          rw[Yi.mp hp]
          exact fun z=>(below b (hfl b hb)).2 z.symm⟩
      subst hr
      have eD5:=(I5.pin _ (by simp:(s2.heap.objs.size,({ cls:= .type "list",data:= .seq its.toArray kk }:Obj))∈(jC X scope cl x ix G2.objs.size fp s2 H2).pn++[(s2.heap.objs.size,{ cls:= .type "list",data:= .seq its.toArray kk })])).1
      have neD:∀b u,H4 b=some u->b≠s2.heap.objs.size:=fun b u e z=>by rw[z,hD4]at e;cases e
      have new:HOk X.prog X.w (upd H4 s2.heap.objs.size (.lst ys)) s5.heap:=by
        intro b u e
        by_cases hb:b=s2.heap.objs.size
        · subst hb
          rw[aC]at e
          cases e
          exact⟨YV hsz,its,kk,rv,eD5⟩
        · rw[aH hb]at e
          exact(I5.hok b u e).stay (fun c v _ q=>q) (fun c q=>by rw[aH (neD c _ q)];exact q) fun c xs q=>by rw[aH (neD c _ q)];exact q
      have un:Un (frs X.stack) fp H2 (upd H4 s2.heap.objs.size (.lst ys)) s2.heap s5.heap:=by
        have B:=I5.base
        exact⟨B.keep,B.slot,fun b o e n hx=>by rw[aH (below b (Yo e)).2];exact B.free b o e n hx,B.there,
          fun b xs e=>by rw[aH (neD b _ (B.tups b xs e))];exact B.tups b xs e,fun b o u e=>by rw[aH (neD b _ (B.frzs b o u e))];exact B.frzs b o u e,
          fun b ps e=>by
            obtain⟨mm,z⟩:=B.tbls b ps e
            exact⟨mm,by rw[aH (neD b _ z)];exact z⟩⟩
      have J5:Inv X pins σ (upd H4 s2.heap.objs.size (.lst ys)) s5:=I2.call' (ch:=fp) I5.os un new I5.bare fun b hb=>⟨(f2 b hb).2.2.2.1,(f2 b hb).2.1,(f2 b hb).2.2.2.2.1,(f2 b hb).2.2.2.2.2⟩
      obtain⟨mC,hnC,_⟩:=I5.loc
      refine fin _ _ _ _ mC J5 hnC (by rw[aH (Ne.symm hDC)];exact I5.free) hCle (fun p hp z=>?_) (YD (Yf I2.lt hCle)) (fun y c e z=>?_) (Y1 I2.sz hCle) (qn _ hD4)
      · exact absurd (Yf (Yo (I2.pin p hp).1) hCle) (by rw[z];exact YS _)
      · obtain⟨v,oc,hoc,_⟩:=I2.cell y c e
        exact absurd (Yf (Yo hoc) hCle) (by rw[z];exact YS _)
    · have pinD:∀{pl:List (Addr×Obj)}{σ':St}{H':Hp}{s':Shared}{its':List Value}{k':Nat},Inv (jC X scope cl x ix G2.objs.size fp s2 H2) pl σ' H' s'->s'.heap.get? s2.heap.objs.size=some { cls:= .type "list",data:= .seq its'.toArray k' }->H' s2.heap.objs.size=none->
          Inv (jC X scope cl x ix G2.objs.size fp s2 H2) [(s2.heap.objs.size,{ cls:= .type "list",data:= .seq its'.toArray k' })] σ' H' s':=fun I' e' n'=>I'.pins_of fun p hp=>by
        rw[Yi.mp hp]
        exact⟨e',n',hDC,fun z=>by
          obtain⟨_,o,ho,_⟩:=Jv I2.stack z
          exact YS _ (Yo ho),fun v z=>by cases z⟩
      have stat2:∀{H':Hp},(∀b∈fp,H' b=none)->∀b∈fp,lG (jC X scope cl x ix G2.objs.size fp s2 H2) [(s2.heap.objs.size,{ cls:= .type "list",data:= .seq its.toArray kk })] H' b:=fun hn b hb=>by
        obtain⟨a1,a2,a3,a4,a5,_⟩:=stat hn b hb
        exact⟨a1,a2,a3,a4,a5,fun p hp=>by
          rw[Yi.mp hp]
          exact fun z=>(below b (hfl b hb)).2 z.symm⟩
      refine Y5 (T.item (jC X scope cl x ix G2.objs.size fp s2 H2) rfl rfl rfl hc i _ s4 _ H4 (fun _ _=>False) (pinD I4 eD hD4) (stat2 fr4) st4 go) (fun r s5 hz9=>?_) fun _ _ z=>z.elim
      obtain⟨u,hr,h5⟩:=hz9
      subst hr
      refine Y5 h5 (fun _ s6 hz9=>?_) fun _ _ z=>z.elim
      obtain⟨y,H6,I6,r6,y6,st6,fr6⟩:=hz9
      have I6':=I6.pinned (stat2 fr6) (T.obj _ _ st6)
      have hxl:(relabel scope X.env).names.lookup x=some .cell:=lC S.loc
      refine Jg (lY (X:=jC X scope cl x ix G2.objs.size fp s2 H2) (i:=0) I6' (YW.mp S.nd).2 rfl (.inr hxl) r6 (fun s7 I7=>?_) (.inl (Xm x)))
      have q7:=step y H6 y6
      refine Y5 (ht _ _ _ _ at0 _ s7 (some y::fM σ ix) H6 _ I7 q7) (fun ok s8 hz9=>?_) fun _ _ z=>fex _ _ _ _ z
      obtain⟨H8,I8,q8⟩:=hz9
      have kept:∀{σ9:St}{H9:Hp}{s9:Shared},Inv (jC X scope cl x ix G2.objs.size fp s2 H2) ([(s2.heap.objs.size,{ cls:= .type "list",data:= .seq its.toArray kk })]++oA fp s6.heap) σ9 H9 s9->
          s9.heap.get? s2.heap.objs.size=some { cls:= .type "list",data:= .seq its.toArray kk }/\H9 s2.heap.objs.size=none/\tn (i+1) s9.heap/\∀b∈fp,H9 b=none:=fun {σ9 H9 s9} I9=>by
        have p0:=I9.pin (s2.heap.objs.size,{ cls:= .type "list",data:= .seq its.toArray kk }) (YO _ (Xp _ (Yi.mpr rfl)))
        refine⟨p0.1,p0.2.1,T.keep _ _ _ st6 fun b hb o e=>(I9.pin (b,o) (YO _ (YO _ (gJ hb e)))).1,fun b hb=>?_⟩
        obtain⟨o,e,d⟩:=T.obj _ _ st6 b hb
        exact(I9.pin (b,o) (YO _ (YO _ (gJ hb e)))).2.1
      have back:∀{pl:List (Addr×Obj)}{H9:Hp}{s9:Shared},Inv (jC X scope cl x ix G2.objs.size fp s2 H2) pl (some y::fM σ ix) H9 s9->Inv (jC X scope cl x ix G2.objs.size fp s2 H2) [] (none::fM σ ix) H9 s9:=fun {pl H9 s9} I9=>
        (I9.weak (σ':=none::fM σ ix) rfl fun j v e=>by
          cases j with
          |zero=>cases (show none=some v from Yp e)
          |succ j=>exact e).pins_of fun p hp=>nomatch hp
      cases ok with
      | true=>
        rw[if_pos rfl]at q8 ⊢
        refine Y5 (he _ _ _ _ at0 _ s8 (some y::fM σ ix) H8 _ I8 q8) (fun yv s9 hz9=>?_) fun _ _ z=>fex _ _ _ _ z
        obtain⟨yy,H9,I9,r9,n9⟩:=hz9
        obtain⟨m',hm',w9⟩:=hN _ _ n9
        obtain⟨kD,kn,kt,kf⟩:=kept I9
        refine append_at (hsz:=by rw[Yt];omega) kD fun h10 hs10 hD10=>?_
        have neD:∀b u,H9 b=some u->b≠s2.heap.objs.size:=fun b u e z=>by rw[z,kn]at e;cases e
        have I9':=back I9
        have cellne:∀y c,((x,G2.objs.size+1)::cl).lookup y=some c->c≠s2.heap.objs.size:=fun y c e z=>by
          rcases lkC e with ⟨_,rfl⟩ | ⟨_,e⟩
          · omega
          obtain⟨v,oc,hoc,_⟩:=I2.cell y c (S.look e)
          exact absurd (Yo hoc) (by rw[z];exact YS _)
        have I10:Inv (jC X scope cl x ix G2.objs.size fp s2 H2) [] (none::fM σ ix) H9 { s9 with heap:=h10 }:=I9'.turned (t':=s9.toks) (it:=s2.heap.objs.size) (fun b o hb e=>hs10.extBut b o hb e) kn hDC (.inr (Yd _)) cellne fun p hp=>absurd (show p∈([]:List (Addr×Obj)) from hp) (by simp)
        refine⟨m',hm',i+1,ys++[yy],H9,I10,kn,⟨its++[yv],kk+1,rv.append (.cons r9 .nil),?_⟩,T.keep _ _ _ kt fun b hb o e=>hs10.extBut b o (below b (hfl b hb)).2 e,kf,w9⟩
        refine hD10.trans (YT some ?_)
        simp
      | false=>
        rw[if_neg Ys]at q8 ⊢
        obtain⟨m',hm',w9⟩:=hN _ _ q8
        obtain⟨kD,kn,kt,kf⟩:=kept I8
        exact⟨m',hm',i+1,ys,H8,back I8,kn,⟨its,kk,rv,kD⟩,kt,kf,w9⟩
  exact codeAny_compStart_list (loop _ rfl) (T.self _ 0 _ _ _ st1 (loop _ rfl))
def a1R (scope:Scope)(env:Env)(x:Str):Bool:=scope.names.all fun y=>(y.2 != .local || (y.1 == ".0" && scope.names.lookup y.1 == some .local)) && (y.2 != .cell || y.1 == x) && (y.2 != .free || env.kindOf y.1 == some .cell || env.kindOf y.1 == some .free)
def b7B (ok:X.Ok)(hk:scope.kind= .function)(hx:scope.names.lookup x=some .cell)(hc1:∀n acc,cellsFrom n scope.names acc=(x,n)::acc)(hc2:∀h,pushCells h scope.names=h.push { cls:= .type "cell",data:= .cell none })(hall:a1R scope X.env x=true)(nd:((".0":Str)::x::jA X.N ix).Nodup):CsC X scope (bU X.env scope.names []) x ix:=by
 have all:∀y∈scope.names,(y.2= .local->y.1=".0"/\scope.names.lookup y.1=some .local)/\(y.2= .cell->y.1=x)/\(y.2= .free->(X.env.kindOf y.1=some .cell\/X.env.kindOf y.1=some .free)):=fun y hy=>by
  have z:=Je.mp hall y hy
  simp only[XF,Bool.or_eq_true,bne_iff_ne,XR,ne_eq]at z
  refine⟨fun e=>z.1.1.resolve_left fun q=>q e,fun e=>z.1.2.resolve_left fun q=>q e,fun e=>?_⟩
  rcases z.2 with (q | q) | q
  ·exact absurd e q
  ·exact .inl q
  ·exact .inr q
 have cells:∀y∈scope.names,y.2= .free->∃c,X.env.cells.lookup y.1=some c:=fun y hy e=>ok.has y.1 ((all y hy).2.2 e)
 refine⟨?_,hk,hx,fun y hy e=>((all y hy).1 e).1,fun y hy e=>((all y hy).1 e).2,fun y hy=>(all y hy).2.1,fun y hy=>(all y hy).2.2,fun y hy e=>?_,fun y hy=>?_,nd,hc1,hc2⟩
 ·have q:=pL scope.names [] cells
  unfold closureFor
  have q2:(forIn scope.names [] fun (p:Str×NameKind) (r:List (Str×Addr))=>match p with | (name,kind)=>if (kind == .free)=true then do let c<-cellOf X.env name;pure (ForInStep.yield ((name,c)::r)) else pure (ForInStep.yield r):Sem (List (Str×Addr))) >>= (fun cs=>pure cs)=pure (bU X.env scope.names []):=by
   rw[q];rfl
  exact q2
 ·obtain⟨n,k⟩:=y
  have e':k= .free:=e
  subst e'
  obtain⟨c,hc⟩:=jK (env:=X.env) scope.names [] (.inl hy)
  exact fP hc
 ·rcases jN scope.names [] hy with z | ⟨p,hp,e1,e2,e3⟩
  ·simp at z
  ·obtain⟨c,hc⟩:=cells p hp e1
   rw[e2]at hc
   rw[e3,hc];rfl
theorem vY {j:Nat}{y:Str}{py spos:Pos}(hN:X.N.Nodup)(hj:X.N[j]? =some y)(hy:X.env.scope.names.lookup y=some .local)(hc:X.calm=true)(hi:PI X (.Name x px) iter wi)
  (ht:∀C fp s H,gY X C fp s H->PTs (jC X scope (bU X.env scope.names []) x ix C fp s H) ifs tt) (he:∀C fp s H,gY X C fp s H->PE (jC X scope (bU X.env scope.names []) x ix C fp s H) elt te)
  (hk:scope.kind= .function) (hx:scope.names.lookup x=some .cell) (hc1:∀n acc,cellsFrom n scope.names acc=(x,n)::acc) (hc2:∀h,pushCells h scope.names=h.push { cls:= .type "cell",data:= .cell none }) (hall:a1R scope X.env x=true) (nd:((".0":Str)::x::jA X.N ix).Nodup)
  (hsw:swapsWith (.ListComp elt [⟨.Name x px,iter,ifs,0⟩] scope pos) (some (.Name y py)) spos.line X.env=pure true:=by rfl) (hs:∀x,foldedSetIterable iter X.env x=pure x:=by intro _;rfl) :
  PS X (.Assign [.Name y py] (.ListComp elt [⟨.Name x px,iter,ifs,0⟩] scope pos) spos) (a9W (a4S ix wi tt te) (sV j)):=by
 intro pins s σ H D I h
 have S:CsC X scope (bU X.env scope.names []) x ix:=b7B I.ok hk hx hc1 hc2 hall nd
 rw[exec_Assign_Name_used _ _ _ _ hsw]
 refine YJ (wpAny_standAt (YJ ?_))
 show wpAny _ _ (do let _<-comprehension (.ListComp elt [⟨.Name x px,iter,ifs,0⟩] scope pos) scope X.env _ (newList []) false (eval iter X.env) (some (assign (.Name y py) X.env))) _ _ s
 refine YJ (Y5 (wpAny_comprehension_free (use:=some (assign (.Name y py) X.env)) (Q:=fun _ s'=>SP X pins D .next s') rfl hs S.clos S.kind S.locs
  (thn (hi pins s σ H _ I h) fun v s1 h1=>thn h1 fun itv s2 h2=>?_)) (fun _ s' hq=>Y6 (Y6 hq)) fun _ _ e=>e)
 refine xJ (Q:=fun v H1=>D.nx (σ.set j (some v)) H1) S hc ht he h2 (fun D' C H' s' m J hn hCn hCle hp hL hcl hs0 q=>?_) fun D' C e s' z=>z
 show wpAny _ _ (assign (.Name y py) X.env (.ref D')) _ _ _
 refine Jg (nZ J hN hj (.inl hy) (v:= .ref D') rfl (fun s'' J' hz9=>?_) (.inr hy))
 obtain⟨a,sb,ha⟩:=hz9
 have hCa:C≠a:=by
  rcases ha with e | e
  ·rw[e];exact Ne.symm hL
  ·exact Ne.symm (hcl y a e)
 exact⟨m,hn.sameBut sb hCa,fun h' sb'=>⟨σ.set j (some (.ref D')),H',J'.turned (t':=s''.toks) (fun b o hb e=>sb'.extBut b o hb e) hCn (Ne.symm hL) (.inr hs0) hcl hp,q⟩⟩
def a7M {K:W.Frag}{tg l:Expr}{tl:TE}(hl:PE X l tl)(hK:X.K=K:=by rfl):PI X tg l (b3S K tl):=hK▸cY hl
end
structure b3U (K:W.Frag)(C:Addr)(m:Str)(f:Addr):Prop where
 ga:W.specialIn K (.ref C) "__getattribute__"=some (some (.builtin "type.__getattribute__"))
 rd:W.readsIn K C (.type "type")=true
 at_:W.findCls K (.ref C) (.type "type") m=some (.val (.ref f))
 kp:W.keepIn K (.ref f)=true
section
variable {value:Expr}{to tv:TE}{cpos pos':Pos}{f:Str}
variable {CX:CXT}{E:XK}
def b6Y (C:Addr)(sp:Sp)(dvs:List V)(E:XK)(ta:TE)(t:TA):TE:=fun σ H Q=>ta σ H fun x H1=>x= .ref C/\t σ H1 fun vs H2=>sp (vs++dvs) H2 Q E
theorem wJ {pl:Sem Bool}(hm:b3U X.K C m fa)(F:fX X.prog X.w X.K X.mg X.base CX k fa fd ps sp)(hr:dF k X.A)(hb:Binds X.K fd ps ds)(hd:Vals dvs ds)(hx:fV CX X E)(he:PE X o ta)(ha:PA X (e::es) t)
  (hst:starEach (e::es) X.env=(false,eval e X.env)::starEach es X.env:=by rfl) (hpl:(backTo pos (starEach es X.env)).any (·.1)=false:=by rfl)
  (ht:eval (.Call (.Attribute o m apos) (e::es) [] pos) X.env=(do
   let ov<-eval o X.env
   standAt apos.atName
   let (f,first)<-holding [ov] (getMethod ov m pl)
   callWith pos f first (backTo pos (starEach (e::es) X.env)) (backToKw pos (keywordEach [] X.env))):=by rfl) :
  PE X (.Call (.Attribute o m apos) (e::es) [] pos) (b6Y C sp dvs E ta t):=by
 intro pins s σ H Q I h
 refine XB (pl:=pl) (thn (he pins s σ H _ I h) fun u s1 hz9=>?_) ht
 obtain⟨x,H1,I1,rx,ex,q⟩:=hz9
 subst ex
 obtain rfl:u=Value.ref C:=rx
 refine W.method_cls I1.kIn hm.ga (W.cls_value I1.kIn hm.rd hm.at_ rfl ?_)
 refine Jh (first:=[]) (h₀:=X.base) I.ok.mod.kin hm.kp (thn (ha pos pins _ σ H1 _ (I1.tok _) q) fun us s2 ⟨vs,H2,I2,r,q2⟩=>⟨I2.kIn,?_⟩) hst hpl
 exact jT F hr hb hd hx I2 r q2
def c0D (K:W.Frag)(ta:TE)(f:Str):TE:=fun σ H Q=>ta σ H fun x H1=>vR x fun a=>∃C dx fs v,H1 a=some (.ins C dx fs)/\Cls K C/\bG K C f/\fs.lookup f=some v/\Q v H1
def fL (he:PE X e ta)(hb:attributeBase e f X.env (eval e X.env)=eval e X.env:=by rfl):PE X (.Attribute e f pos) (c0D X.K ta f):=
 (a6U (cB he) hb).imp fun σ H Q h=>⟨_,h,fun x H1 q=>by
  obtain⟨a,rfl,C,dx,fs,v,h1,c,n,h2,h3⟩:=vR.ex q
  exact⟨a,C,dx,fs,v,rfl,h1,c,n,h2,h3⟩⟩
def b9Z (K:W.Frag)(ta tv:TE)(f:Str):TS:=fun D σ H=>tv σ H fun y H1=>ta σ H1 fun x H2=>vR x fun a=>∃C dx fs,H2 a=some (.ins C dx fs)/\Cls K C/\bG K C f/\fs.length<1000/\D.nx σ (upd H2 a (.ins C dx (fG f y fs)))
theorem kW (ha:PE X o ta)(hv:PE X value tv)(hs:swapsWith value (some (.Attribute o f pos')) pos.line X.env=pure false:=by rfl):
  PS X (.Assign [.Attribute o f pos'] value pos) (b9Z X.K ta tv f):=
 (a6O (cB ha) (cB hv) hs).imp fun D σ H h=>⟨_,h,fun y H1 q=>⟨_,q,fun x H2 q2=>by
  obtain⟨a,rfl,C,dx,fs,h1,c,n,h2,h3⟩:=vR.ex q2
  exact⟨a,C,dx,fs,rfl,h1,c,n,h2,h3⟩⟩⟩
def a8V (K:W.Frag)(m:Str)(fa:Addr)(sp:Sp)(dvs:List V)(E:XK)(ta:TE)(t:TA):TE:=fun σ H Q=>ta σ H fun x H1=>vR x fun a=>(∃C dx fs,H1 a=some (.ins C dx fs)/\Cls K C/\Meth K C m fa/\fs.lookup m=none)/\t σ H1 fun vs H2=>sp (.ref a::(vs++dvs)) H2 Q E
theorem qJ {pl:Sem Bool}(F:fX X.prog X.w X.K X.mg X.base CX k fa fd ps sp)(hr:dF k X.A)(hb:Binds X.K fd ps ds)(hd:Vals dvs ds)(hx:fV CX X E)(he:PE X o ta)(ha:PA X (e::es) t)
  (hst:starEach (e::es) X.env=(false,eval e X.env)::starEach es X.env:=by rfl) (hpl:(backTo pos (starEach es X.env)).any (·.1)=false:=by rfl)
  (ht:eval (.Call (.Attribute o m apos) (e::es) [] pos) X.env=(do
   let ov<-eval o X.env
   standAt apos.atName
   let (f,first)<-holding [ov] (getMethod ov m pl)
   callWith pos f first (backTo pos (starEach (e::es) X.env)) (backToKw pos (keywordEach [] X.env))):=by rfl) :
  PE X (.Call (.Attribute o m apos) (e::es) [] pos) (a8V X.K m fa sp dvs E ta t):=by
 intro pins s σ H Q I h
 refine XB (pl:=pl) (thn (he pins s σ H _ I h) fun u s1 hz9=>?_) ht
 obtain⟨x,H1,I1,rx,q⟩:=hz9
 obtain⟨a,rfl,⟨C,dx,fs,ea,c,hm,l⟩,q⟩:=vR.ex q
 obtain rfl:u=Value.ref a:=rx
 refine fQ I1 ea c hm l ?_
 refine Jh (first:=[.ref a]) (h₀:=X.base) I.ok.mod.kin hm.kp (thn (ha pos pins s1 σ H1 _ I1 q) fun us s2 ⟨vs,H2,I2,r,q2⟩=>⟨I2.kIn,?_⟩) hst hpl
 exact jT (us:= .ref a::us) (vs:= .ref a::vs) F hr hb hd hx I2 (.cons rfl r) q2
theorem a3B {pl:Sem Bool}(F:fX X.prog X.w X.K X.mg X.base CX k fa fd ps sp)(hr:dF k X.A)(hb:Binds X.K fd ps ds)(hd:Vals dvs ds)(hx:fV CX X E)(he:PE X o ta)
  (ht:eval (.Call (.Attribute o m apos) [] [] pos) X.env=(do
   let ov<-eval o X.env
   standAt apos.atName
   let (f,first)<-holding [ov] (getMethod ov m pl)
   callWith pos f first (backTo pos (starEach [] X.env)) (backToKw pos (keywordEach [] X.env))):=by rfl) :
  PE X (.Call (.Attribute o m apos) [] [] pos) (a8V X.K m fa sp dvs E ta a2E):=by
 intro pins s σ H Q I h
 refine XB (pl:=pl) (thn (he pins s σ H _ I h) fun u s1 hz9=>?_) ht
 obtain⟨x,H1,I1,rx,q⟩:=hz9
 obtain⟨a,rfl,⟨C,dx,fs,ea,c,hm,l⟩,q⟩:=vR.ex q
 obtain rfl:u=Value.ref a:=rx
 refine fQ I1 ea c hm l ?_
 exact W.callWith_K0 (first:=[.ref a]) I1.kIn hm.kp (jT (us:=[.ref a]) (vs:=[.ref a]) F hr hb hd hx I1 (.cons rfl .nil) q)
end
section
end
section
variable {tg:Expr}
def c2G (K:W.Frag)(tl:TE):TI:=fun σ H R=>tl σ H fun x H1=>vR x fun a=>((∃xs,SqL K H1 a xs)/\R (Itl K a) H1)\/((∃xs,SqT K H1 a xs)/\R (Itt K a) H1)
def b5Z {l:Expr}{tl:TE}(hl:PE X l tl):PI X tg l (c2G X.K tl):=by
 intro pins s σ H R I h
 refine thn (hl pins s σ H _ I h) fun v s1 hz9=>?_
 obtain⟨x,H1,I1,r1,q1⟩:=hz9
 obtain⟨a,e,q⟩:=vR.ex q1
 subst e
 cases r1
 rcases q with ⟨⟨xs,hq⟩,q⟩ | ⟨⟨xs,hq⟩,q⟩
 ·obtain⟨its,rv,p,hz⟩:=I1.list hq
  refine wpAny_pyIter_list p.isList ?_
  refine⟨s1.heap.objs.size, [s1.heap.objs.size],_,_,H1,rfl,I1.kept (t':=s1.toks) fun b o e=>Ym _ e,rP a _,⟨_,YI _ rfl,rfl,rfl⟩,fun b hb=>?_,q⟩
  have e:b=s1.heap.objs.size:=by simpa using hb
  subst e
  exact I1.fpOk (Yd _) (I1.hok.fresh (Yd _))
 ·obtain⟨its,rv,p,hz⟩:=I1.tuple hq
  refine wpAny_pyIter_tuple (show s1.heap.IsTuple a its.toArray from p) ?_
  refine⟨s1.heap.objs.size, [s1.heap.objs.size],_,_,H1,rfl,I1.kept (t':=s1.toks) fun b o e=>Ym _ e,yC a _,⟨_,YI _ rfl,rfl,rfl⟩,fun b hb=>?_,q⟩
  have e:b=s1.heap.objs.size:=by simpa using hb
  subst e
  exact I1.fpOk (Yd _) (I1.hok.fresh (Yd _))
end
theorem a8Y {K:W.Frag}{a:Addr}{xs:List V}{tt:TT}{te:TE}{σc:V->St}{H:Hp}{Q:VK}(Pv:Nat->List V->Hp->Prop)(hn:∀i ys H,i<=xs.length->Pv i ys H->ys.length<sizeLine)(h0:Pv 0 [] H)
  (hl:∀i ys H,i<=xs.length->Pv i ys H->SqT K H a xs)
  (hs:∀i x ys H,xs[i]? =some x->Pv i ys H->tt (σc x) H fun b H3=>if b=true then te (σc x) H3 fun y H4=>Pv (i+1) (ys++[y]) H4 else Pv (i+1) ys H3)
  (hd:∀ys H,Pv xs.length ys H->∀p,H p=none->Q (.ref p) (upd H p (.lst ys))):oU (Itt K a) tt te σc H Q:=by
 refine⟨fun i m ys H=>m=xs.length-i/\i<=xs.length/\Pv i ys H,⟨xs.length,by simp,YY _,h0⟩,?_⟩
 rintro i m ys H ⟨rfl,hi,p⟩
 have q:=hl i ys H hi p
 refine⟨hn i ys H hi p,?_⟩
 by_cases hlt:i<xs.length
 ·refine .inr ⟨⟨xs,xs[i],q,by simp[hlt]⟩,Pv (i+1),fun ys' H' q=>⟨xs.length-(i+1),by omega,rfl,hlt,q⟩,fun x H' y=>?_⟩
  obtain⟨e,y⟩:=y
  subst e
  exact hs i x ys _ (y xs q) p
 ·have e:i=xs.length:=by omega
  subst e
  exact .inl ⟨⟨xs,q,Yd _⟩,hd ys H p⟩
theorem a8Z {K:W.Frag}{a:Addr}{xs:List V}{tt:TT}{te:TE}{σc:V->St}{H:Hp}{Q:VK}(h:SqA K H a xs)(Pv:Nat->List V->Prop)(hn:∀i ys,i<=xs.length->Pv i ys->ys.length<sizeLine)(h0:Pv 0 [])
  (hs:∀i x ys,xs[i]? =some x->Pv i ys->tt (σc x) H fun b H3=>if b=true then te (σc x) H3 fun y H4=>Pv (i+1) (ys++[y])/\H4=H else Pv (i+1) ys/\H3=H)
  (hd:∀ys,Pv xs.length ys->∀p,H p=none->Q (.ref p) (upd H p (.lst ys))):((∃xs,SqL K H a xs)/\oU (Itl K a) tt te σc H Q)\/((∃xs,SqT K H a xs)/\oU (Itt K a) tt te σc H Q):=by
 rcases h with h | h
 ·refine .inl ⟨⟨_,h⟩,eE (xs:=xs) (fun i ys H'=>Pv i ys/\H'=H) (fun i ys H' hi z=>hn i ys hi z.1) ⟨h0,rfl⟩ (fun i ys H' hi z=>by rw[z.2];exact h) ?_ ?_⟩
  ·rintro i x ys H' hx ⟨z,rfl⟩
   exact hs i x ys hx z
  ·rintro ys H' ⟨z,rfl⟩
   exact hd ys z
 ·refine .inr ⟨⟨_,h⟩,a8Y (xs:=xs) (fun i ys H'=>Pv i ys/\H'=H) (fun i ys H' hi z=>hn i ys hi z.1) ⟨h0,rfl⟩ (fun i ys H' hi z=>by rw[z.2];exact h) ?_ ?_⟩
  ·rintro i x ys H' hx ⟨z,rfl⟩
   exact hs i x ys hx z
  ·rintro ys H' ⟨z,rfl⟩
   exact hd ys z
def MOk (P:Program)(w:World)(K:W.Frag)(mg:Str->Option Value)(base:Heap)(CX:CXT)(k:Nat)(C:Addr)(m:Str)(sp:Sp):Prop:=
 ∃fa fd ps,Cls K C/\Meth K C m fa/\fX P w K mg base CX k fa fd ps sp/\Binds K fd ps []
section
variable {value:Expr}{to tv:TE}{cpos pos' p:Pos}{f:Str}
variable {CX:CXT}{E:XK}{R:Addr->Sp->Prop}
def b6X (R:Addr->Sp->Prop)(m:Str)(E:XK)(ta:TE)(t:TA):TE:=fun σ H Q=>ta σ H fun x H1=>vR x fun a=>∃C dx fs sp,H1 a=some (.ins C dx fs)/\fs.lookup m=none/\R C sp/\t σ H1 fun vs H2=>sp (.ref a::vs) H2 Q E
theorem wI {pl:Sem Bool}(hR:∀C sp,R C sp->MOk X.prog X.w X.K X.mg X.base CX k C m sp)(hr:dF k X.A)(hx:fV CX X E)(he:PE X o ta)(ha:PA X (e::es) t)
  (hst:starEach (e::es) X.env=(false,eval e X.env)::starEach es X.env:=by rfl) (hpl:(backTo pos (starEach es X.env)).any (·.1)=false:=by rfl)
  (ht:eval (.Call (.Attribute o m apos) (e::es) [] pos) X.env=(do
   let ov<-eval o X.env
   standAt apos.atName
   let (f,first)<-holding [ov] (getMethod ov m pl)
   callWith pos f first (backTo pos (starEach (e::es) X.env)) (backToKw pos (keywordEach [] X.env))):=by rfl) :
  PE X (.Call (.Attribute o m apos) (e::es) [] pos) (b6X R m E ta t):=by
 intro pins s σ H Q I h
 refine XB (pl:=pl) (thn (he pins s σ H _ I h) fun u s1 hz9=>?_) ht
 obtain⟨x,H1,I1,rx,q⟩:=hz9
 obtain⟨a,rfl,C,dx,fs,sp,ea,l,hC,q⟩:=vR.ex q
 obtain⟨fa,fd,ps,c,hm,F,hb⟩:=hR C sp hC
 obtain rfl:u=Value.ref a:=rx
 refine fQ I1 ea c hm l ?_
 refine Jh (first:=[.ref a]) (h₀:=X.base) I.ok.mod.kin hm.kp (thn (ha pos pins s1 σ H1 _ I1 q) fun us s2 ⟨vs,H2,I2,r,q2⟩=>⟨I2.kIn,?_⟩) hst hpl
 exact jT (dvs:=[]) (us:= .ref a::us) (vs:= .ref a::vs) F hr hb .nil hx I2 (.cons rfl r) (by rw[YQ];exact q2)
structure MkB (K:W.Frag)(C:Addr):Prop where
 makes:W.makesIn K C=true
 init:W.findIn K (.ref C) "__init__"=some (some (.builtin "object.__init__"))
 kp:W.keepIn K (.ref C)=true
def b4E (C:Addr):TE:=fun _ H Q=>∀x dx,H x=none->H dx=none->dx≠x->Q (.ref x) (upd (upd H dx (.own x)) x (.ins C dx []))
def a6T (M:MkB X.K C)(hg:Gl X x)(hm:X.mg x=some (.ref C))(hdb:(x == ("__debug__":Str))=false:=by decide):PE X (.Call (.Name x p) [] [] pos) (b4E C):=by
 intro pins s σ H Q I h
 refine Xq (kY I hg hm ?_ hdb)
 refine W.callWith_K0 I.kIn M.kp ?_
 have hq:=h (s.heap.objs.size+1) s.heap.objs.size (I.hok.fresh (Xx _)) (I.hok.fresh (Yd _)) (YD (Xi _))
 have I2:=Inv.made (C:=C) I
 refine wpAny_call (a3D I.kIn M.makes M.init (fun self=>W.Looks.of_pure (W.oi_bind self)) ?_)
 have Y:=W.makes_of (M:=model X.prog X.w) I.kIn M.makes
 have hx:((s.heap.push W.emptyDict).push (W.instObj C s.heap.objs.size)).get? (s.heap.objs.size+1)=some (W.instObj C s.heap.objs.size):=by
  have:=YI (s.heap.push W.emptyDict) (o:=W.instObj C s.heap.objs.size) rfl
  rwa [XU]at this
 have t1:W.Looks (model X.prog X.w) ((s.heap.push W.emptyDict).push (W.instObj C s.heap.objs.size)) (typeOf (.ref (s.heap.objs.size+1))) (.ref C):=(W.Looks.ld hx).andThen .now
 have t2:W.Looks (model X.prog X.w) ((s.heap.push W.emptyDict).push (W.instObj C s.heap.objs.size)) (isInstance (.ref (s.heap.objs.size+1)) (.type "object")) true:=t1.andThen (Y.top.keeps fun b o e=>Ym _ (Ym _ e))
 refine codeAny_call_builtin W.oi_plain W.entry_oi (@W.check_slot (model X.prog X.w) _ _ _ "object.__init__" "object" "__init__" (.ref (s.heap.objs.size+1)) [] [] _ W.oi_kind W.oi_split t2 (W.oi_args (.ref (s.heap.objs.size+1))) ?_)
 rw[W.oi_run]
 exact Y6 (And.intro rfl ⟨V.ref (s.heap.objs.size+1),_,I2,rfl,hq⟩)
end
end L2
namespace L2
open PySem
def dF.mo {j k:Nat}{A:Around}(r:dF k A)(h:j<=k:=by decide):dF j A:=r.mono h
end L2
namespace L2
open PySem PySem.Spec PyProof.Rows
section
variable {X:Cx}{o e e2:Expr}{to:TE}{t:TA}{apos cpos:Pos}
end
section
variable {κ:Type}[DecidableEq κ]
def gZ (kvs:List (κ×V))(k:κ):Option V:=(kvs.find? fun kv=>decide (kv.1=k)).map (·.2)
def putK (kvs:List (κ×V))(k:κ)(v:V):List (κ×V):=
 if (kvs.any fun kv=>decide (kv.1=k))=true then kvs.map (fun kv=>if kv.1=k then (kv.1,v) else kv) else kvs++[(k,v)]
def eV {p:κ×V}{r:List (κ×V)}{k:κ}(e:p.1=k):gZ (p::r) k=some p.2:=by simp[gZ,XZ,e]
def eZ {p:κ×V}{r:List (κ×V)}{k:κ}(e:¬ p.1=k):gZ (p::r) k=gZ r k:=by simp[gZ,XZ,e]
theorem lX (k:κ):∀kvs:List (κ×V),(kvs.any fun kv=>decide (kv.1=k))=(gZ kvs k).isSome
 |[]=>rfl
 | p::r=>by
  rw[Jf]
  by_cases e:p.1=k
  ·simp only[eV e,Yn e,Bool.true_or,Option.isSome_some]
  ·rw[eZ e,Yr e,Bool.false_or];exact lX k r
theorem uZ (k j:κ)(y:V):∀kvs:List (κ×V),gZ (kvs.map fun kv=>if kv.1=k then (kv.1,y) else kv) j=(gZ kvs j).map fun x=>if j=k then y else x
 |[]=>rfl
 | p ::r=>by
  have ih:=uZ k j y r
  rw[YR]
  by_cases h:p.1=k
  ·rw[if_pos h]
   by_cases e:p.1=j
   ·rw[eV (p:=(p.1,y)) e,eV e,Jm,if_pos (e.symm.trans h)]
   ·rw[eZ (p:=(p.1,y)) e,eZ e,ih]
  ·rw[if_neg h]
   by_cases e:p.1=j
   ·rw[eV (p:=p) e,eV e,Jm,if_neg (fun z=>h (e.trans z))]
   ·rw[eZ (p:=p) e,eZ e,ih]
theorem rO (k j:κ)(y:V):∀kvs:List (κ×V),gZ kvs k=none->gZ (kvs++[(k,y)]) j=if j=k then some y else gZ kvs j
 | [],_=>by
  by_cases e:k=j
  ·rw[if_pos e.symm];exact eV (p:=(k,y)) e
  ·rw[if_neg (fun z=>e z.symm)];exact eZ (p:=(k,y)) e
 | p::r,hn=>by
  rw[List.cons_append]
  have hk:¬ p.1=k:=fun z=>by rw[eV z]at hn;cases hn
  rw[eZ hk]at hn
  have ih:=rO k j y r hn
  by_cases e:p.1=j
  ·rw[eV e,eV e,if_neg (fun z=>hk (e.trans z))]
  ·rw[eZ e,eZ e,ih]
def a4N (kvs:List (κ×V))(k j:κ)(y:V):gZ (putK kvs k y) j=if j=k then some y else gZ kvs j:=by
 unfold putK
 by_cases a:(kvs.any fun kv=>decide (kv.1=k))=true
 ·rw [if_pos a,uZ]
  rw[lX]at a
  by_cases e:j=k
  ·obtain⟨x,hx⟩:=Option.isSome_iff_exists.mp a
   rw[if_pos e,e,hx,Jm,if_pos rfl]
  ·rw[if_neg e]
   cases gZ kvs j with
   |none=>rfl
   |some x=>rw[Jm,if_neg e]
 ·rw[if_neg a]
  refine rO k j y kvs ?_
  rw[lX]at a
  cases q:gZ kvs k with
  |none=>rfl
  |some x=>rw[q]at a;exact(a rfl).elim
def oO (kvs:List (κ×V))(k:κ)(v:V):(putK kvs k v).length<=kvs.length+1:=by
 unfold putK
 split
 ·rw[Ya];omega
 ·rw[Yb,YE,Jn];omega
def lF.isSome_eq {o:Option V}{u:Option Value}(r:lF o u):o.isSome=u.isSome:=by
 cases o with
 | none=>cases u with
  |none=>rfl
  |some _=>exact(show False from r).elim
 | some _=>cases u with
  |none=>exact(show False from r).elim
  |some _=>rfl
def lF.getD {o:Option V}{u:Option Value}{d:V}{d':Value}(r:lF o u)(rd:RelV d d'):RelV (o.getD d) (u.getD d'):=by
 cases o with
 | none=>cases u with
  |none=>exact rd
  |some _=>exact(show False from r).elim
 | some _=>cases u with
  |none=>exact(show False from r).elim
  |some _=>exact r
def KV.val {kvs:List (κ×V)}{vs:List (κ×Value)}(r:KV kvs vs)(k:κ):lF (gZ kvs k) (valueAt vs k):=by
 unfold KV at r
 induction r with
 |nil=>exact True.intro
 | @cons p q ps qs h t ih=>
  obtain⟨h1,h2⟩:=h
  by_cases e:p.1=k
  ·have e':q.1=k:=h1.symm.trans e
   have b:valueAt (q::qs) k=some q.2:=by simp[valueAt,XZ,e']
   rw[eV e,b];exact h2
  ·have e':¬ q.1=k:=fun z=>e (h1.trans z)
   have b:valueAt (q::qs) k=valueAt qs k:=by simp[valueAt,XZ,e']
   rw[eZ e,b];exact ih
def KV.any {kvs:List (κ×V)}{vs:List (κ×Value)}(r:KV kvs vs)(k:κ):(kvs.any fun kv=>decide (kv.1=k))=vs.any fun kv=>decide (kv.1=k):=by
 unfold KV at r
 induction r with
 |nil=>rfl
 |cons h t ih=>rw[Jf,Jf,ih,h.1]
theorem KV.repl {kvs:List (κ×V)}{vs:List (κ×Value)}(r:KV kvs vs)(k:κ){y:V}{u:Value}(ry:RelV y u):
  KV (kvs.map fun kv=>if kv.1=k then (kv.1,y) else kv) (vs.map fun kv=>if kv.1=k then (kv.1,u) else kv):=by
 unfold KV at r ⊢
 induction r with
 |nil=>exact .nil
 | @cons p q ps qs h t ih=>
  rw[YR,YR]
  refine .cons ?_ ih
  obtain⟨h1,h2⟩:=h
  by_cases e:p.1=k
  ·rw[if_pos e,if_pos (h1.symm.trans e)];exact⟨h1,ry⟩
  ·rw[if_neg e,if_neg (fun z=>e (h1.trans z))];exact⟨h1,h2⟩
def KV.put {kvs:List (κ×V)}{vs:List (κ×Value)}(r:KV kvs vs)(k:κ){y:V}{u:Value}(ry:RelV y u):KV (putK kvs k y) (stored vs k u):=by
 unfold putK stored
 rw[r.any k]
 by_cases e:(vs.any fun kv=>decide (kv.1=k))=true
 ·rw[if_pos e,if_pos e];exact r.repl k ry
 ·rw[if_neg e,if_neg e];exact Paired.snoc r ⟨rfl,ry⟩
def KV.length {kvs:List (κ×V)}{vs:List (κ×Value)}(r:KV kvs vs):kvs.length=vs.length:=Paired.length r
end
variable {o:Option V}{kvs:List (List Key×V)}{y:V}{u:Value}{P:Program}{w:World}{H:Hp}{xs:List (List Key×Addr×Value)}{b:Addr}{H':Hp}{h':Heap}{X:Cx}{pins:List (Addr×Obj)}{σ:St}{s:Shared}{a:Addr}{Q:Value->Shared->Prop}{cs:List Addr}{cl:List (Str×Addr)}{qual:Str}{params:Arguments}{body:Expr}{scope:Scope}{f:Addr}{K:W.Frag}{e:Expr}{t:TA}{A:Around}{E:Value->Shared->Prop}{pos:Pos}
def a7Z {k:Key}(r:RelV (kV k) u):(dW P w).is k u=true:=by
 cases k with
 |inl i=>obtain⟨t,e⟩:=(show ∃t,u=Value.int i t from r);subst e;exact wH P w i t
 |inr x=>obtain⟨t,e⟩:=(show ∃t,u=Value.str x t from r);subst e;exact wG P w x t
theorem sJ:∀{ks:List Key}{us:List Value},Vals (ks.map kV) us->ItemsAre (dW P w) ks us
 |[],_,r=>by rw[List.map_nil]at r;cases r;exact .nil
 | k::ks,_,r=>by
  rw[YR]at r
  cases r with
  |cons h t=>exact .cons (a7Z h) (sJ t)
abbrev KT (H:Hp):List (List Key×V)->List (List Key×Addr×Value)->Prop:=Paired fun p q=>p.1=q.1/\H q.2.1=some (.tup (p.1.map kV))/\RelV p.2 q.2.2
def KT.val (r:KT H kvs xs)(k:List Key):lF (gZ kvs k) ((atKey xs k).map (·.2)):=by
 induction r with
 |nil=>exact True.intro
 | @cons p q ps qs h t ih=>
  obtain⟨h1,_,h2⟩:=h
  by_cases e:p.1=k
  ·have e':q.1=k:=h1.symm.trans e
   have b:atKey (q::qs) k=some q.2:=by simp[atKey,XZ,e']
   rw[eV e,b];exact h2
  ·have e':¬ q.1=k:=fun z=>e (h1.trans z)
   have b:atKey (q::qs) k=atKey qs k:=by simp[atKey,XZ,e']
   rw[eZ e,b];exact ih
theorem KT.repl (r:KT H kvs xs)(k:List Key)(ry:RelV y u):
  KT H (kvs.map fun kv=>if kv.1=k then (kv.1,y) else kv) (xs.map (putAt k u)):=by
 induction r with
 |nil=>exact .nil
 | @cons p q ps qs h t ih=>
  rw[YR,YR]
  refine .cons ?_ ih
  obtain⟨h1,h2,h3⟩:=h
  unfold putAt
  by_cases e:p.1=k
  ·rw[if_pos e,if_pos (h1.symm.trans e)];exact⟨h1,h2,ry⟩
  ·rw[if_neg e,if_neg (fun z=>e (h1.trans z))];exact⟨h1,h2,h3⟩
theorem KT.put (r:KT H kvs xs)(k:List Key)(hb:H b=some (.tup (k.map kV)))(ry:RelV y u):
  KT H (putK kvs k y) (storedH xs k b u):=by
 have e:(kvs.any fun kv=>decide (kv.1=k))=(atKey xs k).isSome:=by
  rw[lX,(r.val k).isSome_eq,Option.isSome_map]
 unfold putK storedH
 rw[e]
 by_cases q:(atKey xs k).isSome=true
 ·rw[if_pos q,if_pos q];exact r.repl k ry
 ·rw[if_neg q,if_neg q];exact Paired.snoc r ⟨rfl,hb,ry⟩
def KT.keeps (r:KT H kvs xs)(ht:∀b ys,H b=some (.tup ys)->H' b=some (.tup ys)):KT H' kvs xs:=
 Paired.mapP r fun _ _ z=>⟨z.1,ht _ _ z.2.1,z.2.2⟩
section
variable {h:Heap}
def b3I {u:HO}(ok:HOk P w H h)(e:Rd H a u):dN P w H h a u:=e.ok ok
def a8Q {kvs:List (Key×V)}(ok:HOk P w H h)(e:Rd H a (.dK kvs)):kvs.length<=sizeLine/\(a == sysModules)=false/\∃vs,KV kvs vs/\h.DictOf (dW P w) a vs:=
 show dN P w H h a (.dK kvs) from b3I ok e
def b9Y {kvs:List (Key×V)}(ok:HOk P w H h)(e:H a=some (.dK kvs)):kvs.length<=sizeLine/\(a == sysModules)=false/\∃vs,KV kvs vs/\h.DictOf (dW P w) a vs:=a8Q ok (.inl e)
def yV {ks:List Key}(ok:HOk P w H h)(e:H a=some (.tup (ks.map kV))):(tupleKind (dW P w)).is h ks a:=by
 obtain⟨_,its,r,o,h1,h2,n,h3⟩:=(show dN P w H h a (.tup (ks.map kV)) from ok a _ e)
 exact⟨o,its.toArray,n,h1,h2,h3,by simpa using sJ r⟩
theorem a8O (ok:HOk P w H h)(e:Rd H a (.dT kvs)):kvs.length<=sizeLine/\(a == sysModules)=false/\
  ∃xs,KT H kvs xs/\h.DictOfH (tupleKind (dW P w)) a xs:=by
 obtain⟨z,y,xs,r,o,es,ep,h1,h2,h3,h4,h5⟩:=(show dN P w H h a (.dT kvs) from b3I ok e)
 refine⟨z,y,xs,r,o,es,ep,h1,h2,h3,h4,fun x hx=>?_,h5⟩
 have all:∀{l:List (List Key×V)}{m:List (List Key×Addr×Value)},KT H l m->∀x∈m,(tupleKind (dW P w)).is h x.1 x.2.1:=by
  intro l m q
  induction q with
  |nil=>intro x hx;exact nomatch hx
  | @cons p q ps qs hq t ih=>
   intro x hx
   rcases YH.mp hx with e | hx
   ·subst e
    exact yV ok (by rw[<-hq.1];exact hq.2.1)
   ·exact ih x hx
 exact all r x hx
theorem b9X (ok:HOk P w H h)(e:H a=some (.dT kvs)):kvs.length<=sizeLine/\(a == sysModules)=false/\
  ∃xs,KT H kvs xs/\h.DictOfH (tupleKind (dW P w)) a xs:=a8O ok (.inl e)
end
def c0N (H:Hp)(a:Addr)(y:V)(r:Option V):Prop:=
 (∃kvs k,Rd H a (.dK kvs)/\y=kV k/\r=gZ kvs k)\/∃kvs k b,Rd H a (.dT kvs)/\y= .ref b/\H b=some (.tup (k.map kV))/\r=gZ kvs k
def c0M (H:Hp)(a:Addr)(y v:V)(H':Hp):Prop:=
 (∃kvs k,H a=some (.dK kvs)/\y=kV k/\kvs.length<sizeLine/\H'=upd H a (.dK (putK kvs k v)))\/
 ∃kvs k b,H a=some (.dT kvs)/\y= .ref b/\H b=some (.tup (k.map kV))/\kvs.length<sizeLine/\H'=upd H a (.dT (putK kvs k v))
section
variable {v:V}{r:Value}
def Inv.big (I:Inv X pins σ H s):sysModules<s.heap.objs.size:=by
 have h:mainGlobals<s.heap.objs.size:=(I.mod.glob.keeps I.bk).lt
 exact Nat.lt_trans (by decide) h
theorem a1P {t':Nat}{ob:HO}(I:Inv X pins σ H s)(mu:Mut (H a))(hs:Heap.SameBut a s.heap h')(he:∃q,h'.get? a=some q)(new:dN X.prog X.w (upd H a ob) h' a ob):
  Inv X pins σ (upd H a ob) { s with heap:=h',toks:=t' }:=
 I.write (x:=a) (e:=a) mu (.inl rfl) (fun b q hb z=>(hs.2 b hb).trans z) he new
theorem b6T {kvs:List (Key×V)}{vs:List (Key×Value)}(z:kvs.length<=sizeLine)(hd:(a == sysModules)=false)(rel:KV kvs vs)(dd:h'.DictOf (dW P w) a vs):
  dN P w H' h' a (.dK kvs):=⟨z,hd,vs,rel,dd⟩
theorem a3S {Q:Unit->Shared->Prop}(hu:A.units+1<cLine)(I:Inv X pins σ H s)(g:c0M H a y v H')(ry:RelV y u)(rv:RelV v r)(h:∀s',Inv X pins σ H' s'->Q () s'):
  wpAny (model X.prog X.w) A (setItem (.ref a) u r) Q E s:=by
 rcases g with ⟨kvs,k,e,ey,l,eH⟩ | ⟨kvs,k,b,e,ey,eb,l,eH⟩
 ·subst ey eH
  obtain⟨z,hd,vs,rel,dd⟩:=b9Y I.hok e
  have hz:vs.length<=sizeLine:=by rw[<-rel.length];exact z
  have hl:(putK kvs k v).length<=sizeLine:=by have:=oO kvs k v;omega
  refine wpAny_setItem_pairs (hsz:=hz) (a7Z ry) dd fun h' dd' hs=>h _ ?_
  have he:∃q,h'.get? a=some q:=let ⟨q,_,_,hq,_⟩:=dd';⟨q,hq⟩
  exact a1P I (by rw[e];exact True.intro) hs he (b6T hl hd (rel.put k rv) dd')
 ·subst ey eH
  cases (show u=Value.ref b from ry)
  obtain⟨z,hd,xs,rel,dd⟩:=b9X I.hok e
  have hz:xs.length<=sizeLine:=by rw[<-Paired.length rel];exact z
  have hl:(putK kvs k v).length<=sizeLine:=by have:=oO kvs k v;omega
  refine wpAny_setItem_heap (hsz:=hz) (tupleKind_room_in1 hu) (yV I.hok eb) dd fun h' dd' hs=>h _ ?_
  obtain⟨q,es,ep,hq,h2,h3,h4,_,h5⟩:=dd'
  refine a1P I (by rw[e];exact True.intro) hs ⟨q,hq⟩ ⟨hl,hd,_,(rel.put k eb rv).keeps fun c ys ec=>?_,q,es,ep,hq,h2,h3,h4,h5⟩
  rw[aH (b9A ec e (fun z=>nomatch z))]
  exact ec
end
section
variable {kvs:List (Key×V)}{k:Key}
end
def b8K (td ty tv:TE):TS:=fun D σ H=>tv σ H fun v H1=>td σ H1 fun x H2=>ty σ H2 fun y H3=>∃a H4,x= .ref a/\c0M H3 a y v H4/\D.nx σ H4
section
variable {o i value:Expr}{pos' tpos:Pos}{td ty tv:TE}
theorem b1C (hu:X.A.units+1<cLine)(ho:PE X o td)(hi:PE X i ty)(hv:PE X value tv)(hs:swapsWith value (some (.Subscript o i pos')) pos.line X.env=pure false):
  PS X (.Assign [.Subscript o i pos'] value pos) (b8K td ty tv):=by
 intro pins s σ H D I h
 refine wpAny_Assign_Subscript (thn (hv pins s σ H _ I h) fun r s1 ⟨v,H1,I1,rv,q1⟩=>thn (ho pins s1 σ H1 _ I1 q1) fun u s2 ⟨x,H2,I2,rx,q2⟩=>thn (hi pins s2 σ H2 _ I2 q2) fun iv s3 ⟨y,H3,I3,ry,a,H4,ex,g,q3⟩=>?_) hs
 subst ex
 obtain rfl:u=Value.ref a:=rx
 exact a3S hu I3 g ry rv fun s4 I4=>⟨σ,H4,I4,q3⟩
end
def a8R (h:Heap)(hb:sysModules<h.objs.size):dN P w H (h.push { cls:= .type "dict",data:= .dict #[] }) h.objs.size (.dK []):=
 ⟨YY _,Y9.mpr (Ne.symm (YD hb)), [],.nil,Heap.DictOf.new h⟩
def b4F:TE:=fun _ H Q=>∀p,H p=none->Q (.ref p) (upd H p (.dK []))
section
def a6V:PE X (.Dict [] [] pos) b4F:=fun pins s σ H Q I h=>
 wpAny_Dict_empty ⟨.ref s.heap.objs.size,_,I.laid (a:=s.heap.objs.size) (o:= .dK []) (t':=s.toks) (fun _ _ q=>Ym _ q) (Yd _) (a8R s.heap I.big),rfl,h _ (I.hok.fresh (Yd _))⟩
end
structure M2 (X:Cx)(o:Expr)(m:Str)(apos:Pos)(e f:Expr)(cpos:Pos):Prop where
 base:attributeBase o m X.env (eval o X.env)=eval o X.env
 few:((backTo cpos (starEach [e,f] X.env)).all (fun x=>!x.1) && (backToKw cpos (keywordEach [] X.env)).all (fun x=>x.1.isSome)
  && decide (([e,f]:List Expr).length+([]:List Keyword).length+(if ([]:List Keyword).isEmpty then 0 else 1)<30))=true
 line:(apos.endLine == cpos.line)=true
 trees:backTo cpos (starEach [e,f] X.env)= [(false,eval e X.env),(false,eval f X.env)]
def IsD (H:Hp)(a:Addr):Prop:=(∃kvs,Rd H a (.dK kvs))\/∃kvs,Rd H a (.dT kvs)
theorem b6K (I:Inv X pins σ H s)(d:IsD H a):
  s.TypeIs (.ref a) "dict"/\(∀b,Value.ref a= .ref b->∃ob,s.heap.get? b=some ob/\ob.dict=none)/\(a == sysModules)=false:=by
 rcases d with ⟨kvs,e⟩ | ⟨kvs,e⟩
 ·obtain⟨_,hd,vs,_,dd⟩:=a8Q I.hok e
  refine⟨dd.typeIs,fun b q=>?_,hd⟩
  cases q
  obtain⟨ob,_,_,h1,h2,_⟩:=dd
  exact⟨ob,h1,h2.2.1⟩
 ·obtain⟨_,hd,xs,_,dd⟩:=a8O I.hok e
  refine⟨dd.typeIs,fun b q=>?_,hd⟩
  cases q
  obtain⟨ob,_,_,h1,h2,_⟩:=dd
  exact⟨ob,h1,h2.2.1⟩
section
variable {d:V}{r:Value}
theorem b6U (hu:A.units+1<cLine)(I:Inv X pins σ H s)(g:c0N H a y o)(ry:RelV y u)(rd:RelV d r)(h:∀w' s',Inv X pins σ H s'->RelV (o.getD d) w'->Q w' s'):
  wpAny (model X.prog X.w) A (call (.builtin "dict.get") [.ref a,u,r]) Q E s:=by
 rcases g with ⟨kvs,k,e,ey,l⟩ | ⟨kvs,k,b,e,ey,eb,l⟩
 ·subst ey
  obtain⟨z,hd,vs,rel,dd⟩:=a8Q I.hok e
  refine call_meetsIn PySem.F.slot_dict_get dd.typeIs PySem.F.entry_dict_get (PySem.F.args_dict_get_3 _ _ _) (meets_dict_get_default (dW X.prog X.w) a (a7Z ry) hd r) ⟨_,dd.mapOf,h _ _ (I.tok _) ?_⟩
  rw[l]
  exact(rel.val k).getD rd
 ·subst ey
  cases (show u=Value.ref b from ry)
  obtain⟨z,hd,xs,rel,dd⟩:=a8O I.hok e
  refine call_meetsIn PySem.F.slot_dict_get dd.typeIs PySem.F.entry_dict_get (PySem.F.args_dict_get_3 _ _ _) (meetsH_dict_get_default (tupleKind (dW X.prog X.w)) a b hd r) ⟨tupleKind_room_in1 hu,k,xs,yV I.hok eb,dd,h _ _ (I.tok _) ?_⟩
  rw[l]
  exact(rel.val k).getD rd
end
def b4G (td ty tx:TE):TE:=fun σ H Q=>td σ H fun x H1=>∃a,x= .ref a/\IsD H1 a/\ty σ H1 fun y H2=>tx σ H2 fun z H3=>∃o,c0N H3 a y o/\Q (o.getD z) H3
section
variable {o f:Expr}{apos cpos:Pos}{td ty tx:TE}
def a6W (hu:X.A.units+1<cLine)(ho:PE X o td)(he:PE X e ty)(hf:PE X f tx)(m:M2 X o "get" apos e f cpos):PE X (.Call (.Attribute o "get" apos) [e,f] [] cpos) (b4G td ty tx):=by
 intro pins s σ H Q I h
 refine wpAny_Call_method m.base m.few m.line PySem.F.plainAttrs_dict PySem.F.slot_dict_get PySem.F.type_dict_get (thn (ho pins s σ H _ I h) fun u s1 hz9=>?_)
 obtain⟨x,H1,I1,rx,a,ex,d,q1⟩:=hz9
 subst ex
 obtain rfl:u=Value.ref a:=rx
 obtain⟨t1,t2,_⟩:=b6K I1 d
 refine⟨t1,t2,?_⟩
 rw[m.trees]
 refine Calls.callWith_builtin rfl (Calls.evalArgs_plain (Calls.spliced_cons (thn (he pins s1 σ H1 _ I1 q1) fun iv s2 ⟨y,H2,I2,ry,q2⟩=>
  Calls.spliced_cons (thn (hf pins s2 σ H2 _ I2 q2) fun fv s3 ⟨z,H3,I3,rz,ov,g,q3⟩=>Calls.spliced_nil ?_))))
 exact b6U hu I3 g ry rz fun w' s4 I4 rw'=>⟨_,H3,I4,rw',q3⟩
end
section
variable {kvs:List (Key×V)}
end
section
end
section
variable {κ:Type}[DecidableEq κ]
end
def kE (c:Addr)(v:V):HO:= .ext fun h=>∃u,RelV v u/\h.IsCell c (some u)
def jE (c:Addr)(qual:Str):HO:= .ext fun h=>h.CodeRec (.ref c) qual
def lD (H:Hp)(cs:List Addr):Hp:=fun b=>if b∈cs then none else H b
def xN (H H':Hp)(cs:List Addr):Hp:=fun b=>if b∈cs then H b else H' b
def mR (h:b∈cs):lD H cs b=none:=by unfold lD;rw[if_pos h]
def dD (h:b∉cs):lD H cs b=H b:=by unfold lD;rw[if_neg h]
def a1T (h:b∈cs):xN H H' cs b=H b:=by unfold xN;rw[if_pos h]
def gU (h:b∉cs):xN H H' cs b=H' b:=by unfold xN;rw[if_neg h]
def Cells (H:Hp)(cl:List (Str×Addr))(ys:List Str)(ws:List V):Prop:=
 cl.map (·.1)=ys/\(cl.map (·.2)).Nodup/\Paired (fun (p:Str×Addr) (v:V)=>H p.2=some (kE p.2 v)) cl ws
theorem Cells.at:∀{cl:List (Str×Addr)}{ws:List V},Paired (fun (p:Str×Addr) (v:V)=>H p.2=some (kE p.2 v)) cl ws->∀{i:Nat}{p:Str×Addr},cl[i]? =some p->∃v,ws[i]? =some v/\H p.2=some (kE p.2 v)
 |_,_,.nil,i,p,h=>by simp at h
 |_,_,.cons r t,0,p,h=>by simp at h;subst h;exact⟨_,rfl,r⟩
 |_,_,.cons r t,i+1,p,h=>Cells.at t (i:=i) (by simpa using h)
def Cells.is {ws:List V}(r:Paired (fun (p:Str×Addr) (v:V)=>H p.2=some (kE p.2 v)) cl ws){c:Addr}(h:c∈cl.map (·.2)):∃v,H c=some (kE c v):=by
 obtain⟨p,hp,rfl⟩:=Y2.mp h
 obtain⟨i,hi,e⟩:=Y7 hp
 obtain⟨v,_,q⟩:=Cells.at r (i:=i) (p:=p) (by rw[Yc hi,e])
 exact⟨v,q⟩
structure uT (N ps ys:List Str)(sc:Scope):Prop where
 kind:sc.kind= .function
 co:sc.isCoroutine=false
 gen:sc.isGenerator=false
 nd:N.Nodup
 pre:N.take (ps.length+ys.length)=ps++ys
 par:∀x∈ps,sc.names.lookup x=some .local
 fre:∀x∈ys,sc.names.lookup x=some .free
 only:∀y∈sc.names,y.2≠ .cell/\(y.2= .free->y.1∈ys)
def pW (N:List Str)(vs ws:List V):St:=(vs++ws).map some++List.replicate (N.length-(vs++ws).length) none
def cxC (P:Program)(w:World)(K:W.Frag)(mg:Str->Option Value)(base:Heap)(N:List Str)(qual:Str)(scope:Scope)(f:Addr)(cd:Value)(cl:List (Str×Addr))(A:Around)(outer:List Env)(s:Shared)(H:Hp):Cx where
 prog:=P
 w:=w
 K:=K
 mg:=mg
 base:=base
 A:=A.deeper (W.envX qual scope s.heap.objs.size f cd cl)
 N:=N
 s₀:=s
 H₀:=H
 env:=W.envX qual scope s.heap.objs.size f cd cl
 outer:=outer
 stack:=W.envX qual scope s.heap.objs.size f cd cl::outer
 ex:=[]
 calm:=true
 fn:=fun _=>false
 pn:=[]
 xe:=fun _ _=>False
theorem mK {α:Type}:∀{l:List (Str×α)}{x:Str}{u:α},(l.map (·.1)).Nodup->(x,u)∈l->l.lookup x=some u
 |[],_,_,_,h=>nomatch h
 | (y, v)::r,x,u,nd,h=>by
  rw[YR,YW]at nd
  rcases YH.mp h with e | h'
  ·cases e
   rw[List.lookup_cons_self]
  ·have hne:(x == y)=false:=by
    rw[Y9]
    intro z
    exact nd.1 (by rw[<-z];exact Y2.mpr ⟨(x,u),h',rfl⟩)
   rw[Y3,hne]
   exact mK nd.2 h'
def a8B {h:Heap}(x:HOk P w H h)(hc:∀c∈cs,∃v,H c=some (kE c v))(k:∀b u,h.get? b=some u->h'.get? b=some u):HOk P w (lD H cs) h':=fun a o e=>by
 have ha:a∉cs:=fun z=>by rw[mR z]at e;cases e
 rw[dD ha]at e
 have nx:∀b u,H b=some u->(∀φ,u≠ .ext φ)->b∉cs:=fun b u q hn z=>by
  obtain⟨v,e2⟩:=hc b z
  rw[q]at e2
  exact hn _ (Yp e2)
 refine(x a o e).stay (fun b u _ q=>k b u q) (fun b q=>?_) fun b xs q=>?_
 ·rw[dD (nx b _ q fun φ z=>by cases z)];exact q
 ·rw[dD (nx b _ q fun φ z=>by cases z)];exact q
theorem yX {P:Program}{w:World}{K:W.Frag}{mg:Str->Option Value}{base:Heap}{N ps ys:List Str}{qual:Str}{scope:Scope}{f:Addr}{cd:Value}{cl:List (Str×Addr)}{A:Around}{outer:List Env}{s:Shared}{h':Heap}{tk:Nat}{H:Hp}{us:List Value}{vs ws:List V}
  (S:uT N ps ys scope) (hd:A.handled=none) (e0:rC P w K mg base A outer s H) (hl:vs.length=ps.length) (r:Vals vs us) (hc:Cells H cl ys ws)
  (hn:h'.Ns s.heap.objs.size (fun x=>(ps.zip us).reverse.lookup x)) (hk:∀b o,s.heap.get? b=some o->h'.get? b=some o) :
  Inv (cxC P w K mg base N qual scope f cd cl A outer s (lD H (cl.map (·.2)))) [] (pW N vs ws) (lD H (cl.map (·.2))) { s with heap:=h',toks:=tk }:=by
 obtain⟨c1,c2,c3⟩:=hc
 have his:∀c∈cl.map (·.2),∃v,H c=some (kE c v):=fun c h=>Cells.is c3 h
 have cwl:cl.length=ws.length:=Paired.length c3
 have cyl:cl.length=ys.length:=by rw[<-c1,Ya]
 have hpl:ps.length+ys.length<=N.length:=by have:=YT List.length S.pre;rw[Yu,Yb]at this;omega
 have ndPY:(ps++ys).Nodup:=by rw[<-S.pre];exact S.nd.sublist (List.take_sublist _ _)
 have ndP:=(Ja.mp ndPY).1
 have ndY:=(Ja.mp ndPY).2.1
 have lk:∀x c,cl.lookup x=some c->c∈cl.map (·.2):=fun x c h=>Y2.mpr ⟨(x,c),Xa h,rfl⟩
 have old:∀c∈cl.map (·.2),c<s.heap.objs.size:=fun c h=>by
  obtain⟨v,e⟩:=his c h
  exact(e0.hok c _ e).lt
 refine⟨⟨e0.mod,S.kind,rfl,rfl,Yd _,fun y z c h1 h2=>?_,fun y hy=>?_,(fun y c h _=>by cases h),(fun _=>hd),Around.frames_deeper e0.frames,.inr ⟨rfl,rfl⟩,fun b z=>absurd (show b∈([]:List Addr) from z) (by simp),fun b o e=>⟨(e0.bs b o e).1,?_⟩,e0.bsz,fun b _ _ z=>absurd (show b∈([]:List Addr) from z) (by simp),fun b z=>absurd (show b∈([]:List Addr) from z) (by simp),e0.funs,fun b hb=>?_⟩,
  rfl,e0.bare,Un.kept hk,⟨_,hn,fun i y v h1 h2 h3=>?_⟩,fun y c h=>?_,?_,fun y c h=>mR (lk y c h),fun p hp=>absurd (show p∈([]:List (Addr×Obj)) from hp) (by simp),a8B e0.hok his hk,?_⟩
 ·have m1:(y,c)∈cl:=Xa h1
  have m2:(z,c)∈cl:=Xa h2
  obtain⟨i,hi,e1⟩:=Y7 m1
  obtain⟨j,hj,e2⟩:=Y7 m2
  have:(cl.map (·.2))[i]? =(cl.map (·.2))[j]?:=by
   rw[Yk,Yk,Yc hi,Yc hj,e1,e2];rfl
  have:=(List.getElem?_inj (by rw[Ya];exact hi) c2).mp this
  subst this
  rw[e1]at e2
  exact YT Prod.fst e2
 ·have hy:scope.names.lookup y=some .cell\/scope.names.lookup y=some .free:=hy
  have hf:y∈ys:=by
   rcases hy with hy | hy
   ·exact absurd rfl (S.only _ (Xa hy)).1
   ·exact(S.only _ (Xa hy)).2 rfl
  rw[<-c1]at hf
  obtain⟨p,hp,rfl⟩:=Y2.mp hf
  have q:cl.lookup p.1=some p.2:=mK (by rw[c1];exact ndY) hp
  exact⟨p.2,q⟩
 ·by_cases hb:b∈cl.map (·.2)
  ·exact mR hb
  ·exact(dD hb).trans (e0.bs b o e).2
 ·by_cases hb':b∈cl.map (·.2)
  ·exact mR hb'
  ·exact(dD hb').trans (e0.frf b hb)
 ·have hiv:i<(vs++ws).length:=by
   unfold pW at h2
   by_cases hi:i<(vs++ws).length
   ·exact hi
   ·rw[YF (by simpa using hi),X4]at h2
    split at h2 <;> cases h2
  have ha:(vs++ws)[i]? =some v:=by
   unfold pW at h2
   rw[YL (by simpa using hiv),Yk]at h2
   cases e:(vs++ws)[i]? with
   |none=>rw[e]at h2;cases h2
   |some a=>rw[e]at h2;cases h2;rfl
  rw[Yb]at hiv
  have hp:(ps++ys)[i]? =some y:=by
   rw[<-S.pre,XA (by omega)];exact h1
  by_cases hi:i<ps.length
  ·rw[YL hi]at hp
   rw[YL (by omega)]at ha
   obtain⟨u,hu,rv⟩:=r.get ha
   refine⟨u,rv,.inl ⟨S.par y (Yx hp),?_⟩⟩
   have hm:(y,u)∈ps.zip us:=Yx (i:=i) (by rw[List.getElem?_zip_eq_some];exact⟨hp,hu⟩)
   have ul:us.length=ps.length:=by rw[<-r.length];exact hl
   refine mK ?_ (List.mem_reverse.mpr hm)
   unfold List.Nodup
   rw[List.map_reverse,List.pairwise_reverse,List.map_fst_zip (by omega)]
   exact ndP.imp fun h=>h.symm
  ·rw [YF (by omega)]at hp
   rw[YF (by omega),hl]at ha
   obtain⟨p,hp2,e⟩:∃p,cl[i-ps.length]? =some p/\p.1=y:=by
    rw[<-c1,Yk]at hp
    exact YK.mp hp
   obtain⟨v',ev,q⟩:=Cells.at c3 hp2
   rw[ha]at ev;cases ev
   obtain⟨⟨u,ru,hcell⟩,_,st⟩:=e0.hok _ _ q
   refine⟨u,ru,.inr ⟨.inr (S.fre y (Yx hp)),p.2,?_,?_⟩⟩
   ·subst e
    have q:cl.lookup p.1=some p.2:=mK (by rw[c1];exact ndY) (Yx hp2)
    exact q
   ·obtain⟨o,ho,hd⟩:=hcell
    exact⟨o,hk _ _ ho,hd⟩
 ·obtain⟨v,e⟩:=his c (lk y c h)
  obtain⟨⟨u,ru,o,ho,hd⟩,_,st⟩:=e0.hok _ _ e
  exact⟨_,o,hk _ _ ho,hd⟩
 ·show lD H _ s.heap.objs.size=none
  rw[dD fun z=>absurd (old _ z) (YS _)]
  exact e0.hok.fresh (Yd _)
 ·unfold pW
  show _=N.length
  rw[Yb,Ya,Yz,Yb]
  omega
def Bm (K:W.Frag)(mg:Str->Option Value)(bm:Addr):Prop:=mg "__builtins__"=some (.ref bm)/\bm≠builtinsNs/\bm≠mainGlobals/\∃o,K.lookup bm=some o/\o.cls= .type "module"/\o.dict=some builtinsNs/\o.data= .plain
def a3Y (P:Addr)(pos:Pos)(qual:Str)(H:Hp):Prop:=∃ps,H P=some (.tbl ps)/\TriplesOk ps.toList/\(codeAmong pos ps.toList=none\/∃c',codeAmong pos ps.toList=some (.ref c')/\H c'=some (jE c' qual))
def jE.stb {c:Addr}:∀h1 h2:Heap,h1.CodeRec (.ref c) qual->(∀o,h1.get? c=some o->h2.get? c=some o)->h2.CodeRec (.ref c) qual:=fun h1 h2 x k=>by
 obtain⟨c2,oc,vs,t,e,ho,hd,hv⟩:=x
 cases e
 exact⟨_,oc,vs,t,rfl,k _ ho,hd,hv⟩
section
variable {c0 P bm:Addr}{nm:Str}{body:List Stmt}
end
def PF (X:Cx)(sts:List Stmt)(u:St->Hp->Prop)(Φ:Flow->Shared->Prop):Prop:=∀(pins:List (Addr×Obj))(s:Shared)(σ:St)(H:Hp),Inv X pins σ H s->u σ H->wpAny (model X.prog X.w) X.A (execs sts X.env) Φ X.xe s
def c0Q (t:TS)(u:St->Hp->Prop):St->Hp->Prop:=fun σ H=>t { nx:=u,rt:=fun _ _=>False } σ H
section
variable {st:Stmt}{rest:List Stmt}{t:TS}{u:St->Hp->Prop}{Φ:Flow->Shared->Prop}
def a0T (h1:PS X st t)(h2:PF X rest u Φ):PF X (st::rest) (c0Q t u) Φ:=by
 intro pins s σ H I h
 refine wpAny_execs_cons (thn (h1 pins s σ H _ I h) fun f s1 q=>?_)
 cases f with
 | next=>
  obtain⟨σ',H',I',q⟩:=q
  exact h2 pins s1 σ' H' I' q
 |ret v=>obtain⟨_,_,_,_,_,q⟩:=q;exact q.elim
 |brk=>obtain⟨_,_,_,q⟩:=q;exact q.elim
 |cont=>obtain⟨_,_,_,q⟩:=q;exact q.elim
end
def a1W (P:Program)(w:World)(K:W.Frag)(mg:Str->Option Value)(base:Heap)(k:Nat)(spc:Addr->List V->Hp->VK->Prop):Prop:=
 ∀(f:Addr)(A:Around)(outer:List Env)(s:Shared)(H:Hp)(us:List Value)(vs:List V)(Q:VK),dF k A->rC P w K mg base A outer s H->Vals vs us->spc f vs H Q->codeAny (model P w) A (.call (.ref f) ⟨us, []⟩) (CR CX0 outer P w H s Q E0) s
section
variable {k i:Nat}{x:Str}{p:Pos}{es:List Expr}{spc:Addr->List V->Hp->VK->Prop}
end
def a9H (ts:List Addr)(H:Hp):Prop:=(∀P∈ts,H P=some (.tbl #[]))/\∀b,b∈ts\/H b=none\/∃o xs,H b=some (.frz o (.lst xs))
theorem a3H {P:Program}{w:World}{K:W.Frag}{mg mb:Str->Option Value}{CX:CXT}{k:Nat}{fa a:Addr}{fd:FuncData}{x:Str}{sp:Sp}{s₁:Shared}{vs:List Value}{ns:List Int}{ts:List Addr}
    (hts:∀T∈ts,K.lookup T=none/\s₁.heap.get? T=some (W.tabObj #[])/\isCodeTable s₁.heap T)
    (KX:K.In s₁.heap) (hns:s₁.heap.Ns mainGlobals mg) (hb:s₁.heap.Ns builtinsNs mb) (hbb:∀x:Str,x≠"__name__"->mb x=bootBuiltins x) (hlim:s₁.heap.NoLimit) (hg:s₁.gens=#[])
    (ha:s₁.heap.get? a=some { cls:= .type "list",data:= .seq vs.toArray }) (hi:IntsAre vs ns) (hl:ns.length<=sizeLine) (hr:dF k callerA)
    (F:∀base:Heap,K.In base->base.Ns mainGlobals mg->fX P w K mg base CX k fa fd [x] sp) (hbind:∀(s:Shared)(u:Value),BindsTo s fd ⟨[u], []⟩ [(x,u)])
    (hsp:∀H:Hp,a9H ts H->SqL K H a (ns.map V.int)->sp [.ref a] H (fun v _=>v= .bl true) fun _ _ _=>False)
    (hCX:∀H e s',CX [] H s₁ (fun _ _ _=>False) e s'->False) :
    codeAny (model P w) callerA (.call (.ref fa) ⟨[.ref a], []⟩) (fun r s'=>r= .ok (.ret (.bool true))/\OldK s₁.heap s'.heap/\s'.os=s₁.os/\AllBare s'.gens) s₁:=by
  have rv:=rM hi
  have lenV:=hi.length
  have aT:a∉ts:=fun z=>by
    have:=(hts a z).2.1
    rw[ha]at this;cases this
  have core : ∀H0:Hp,(∀b,H0 b=none\/∃o xs,H0 b=some (.frz o (.lst xs)))->SqL K H0 a (ns.map V.int)->HOk P w H0 s₁.heap->(∀b,H0 b≠none->b=a)->(H0 a≠none->K.lookup a=none)->
      codeAny (model P w) callerA (.call (.ref fa) ⟨[.ref a], []⟩) (fun r s'=>r= .ok (.ret (.bool true))/\OldK s₁.heap s'.heap/\s'.os=s₁.os/\AllBare s'.gens) s₁:=by
    intro H0 hO0 hS0 hok0 hA0 hK0
    obtain⟨H,hH⟩:∃H:Hp,H=fun b=>if b∈ts then some (.tbl #[]) else H0 b:=⟨_,rfl⟩
    have hin:∀b,b∈ts->H b=some (.tbl #[]):=fun b z=>by rw[hH];exact if_pos z
    have hout:∀b,b∉ts->H b=H0 b:=fun b z=>by rw[hH];exact if_neg z
    have h0T:∀b,b∈ts->H0 b=none:=fun b z=>by
      cases q:H0 b with
      |none=>rfl
      |some u=>exact absurd (by rw[<-hA0 b (by rw[q];simp)];exact z) aT
    have sub:∀b u,H0 b=some u->H b=some u:=fun b u q=>by
      rw[hout b fun z=>by rw[h0T b z]at q;cases q];exact q
    have hO:a9H ts H:=⟨hin,fun b=>by
      by_cases z:b∈ts
      · exact .inl z
      · rw[hout b z];exact .inr (hO0 b)⟩
    have hS:SqL K H a (ns.map V.int):=by
      rcases hS0 with (h | ⟨o,h⟩) | h
      · exact .inl (.inl (sub _ _ h))
      · exact .inl (.inr ⟨o,sub _ _ h⟩)
      · exact .inr h
    have hok:HOk P w H s₁.heap:=fun b u e=>by
      by_cases z:b∈ts
      · rw[hin b z]at e
        cases e
        exact(hts b z).2.1
      · rw[hout b z]at e
        exact(hok0 b u e).stay (fun _ _ _ q=>q) (fun d q=>sub d _ q) fun d xs q=>sub d _ q
    have fr:∀{b:Addr}{o:Obj},s₁.heap.get? b=some o->o.cls≠ .none->b≠a->H b=none:=fun {b o} e hc hb'=>by
      have z:b∉ts:=fun z=>by
        have:=(hts b z).2.1
        rw[e]at this
        cases this
        exact hc rfl
      rw[hout b z]
      cases q:H0 b with
      |none=>rfl
      |some u=>exact absurd (hA0 b (by rw[q];simp)) hb'
    have base_of:∀{b:Addr}{o:Obj},s₁.heap.get? b=some o->H b=none->(uF s₁.heap H).get? b=some o:=fun e n=>a8A e n
    have noD:∀{b:Addr}{o:Obj}{es:Array DictEntry}{ep:Nat},s₁.heap.get? b=some o->o.data= .dict es ep->H b=none:=fun {b o es ep} e d=>by
      have z:b∉ts:=fun z=>by
        have:=(hts b z).2.1
        rw[e]at this
        cases this
        cases d
      rw[hout b z]
      cases q:H0 b with
      |none=>rfl
      | some u=>
        have e':b=a:=hA0 b (by rw[q];simp)
        subst e'
        rw[ha]at e;cases e
        cases d
    have nsK:∀{b:Addr}{m:Str->Option Value},s₁.heap.Ns b m->(uF s₁.heap H).Ns b m:=fun {b m} ⟨o,es,ep,e,d,r⟩=>⟨o,es,ep,base_of e (noD e d),d,r⟩
    have hKb:K.In (uF s₁.heap H):=fun b o e=>base_of (KX b o e) (by
      have z:b∉ts:=fun z=>by rw[(hts b z).1]at e;cases e
      rw[hout b z]
      cases q:H0 b with
      |none=>rfl
      | some u=>
        have e':b=a:=hA0 b (by rw[q];simp)
        subst e'
        rw[hK0 (by rw[q];simp)]at e;cases e)
    have hM:Mod K mg (uF s₁.heap H):=⟨hKb,nsK hns,⟨mb,nsK hb,hbb⟩,let ⟨mc,h1,h2⟩:=hlim;⟨mc,nsK h1,h2⟩⟩
    have e0:rC P w K mg (uF s₁.heap H) callerA [] s₁ H:=⟨rfl,hM,fun b o e=>b1O e,Nat.le_of_eq (a3L _ _),trivial,fun b hb=>absurd (show b∈([]:List Addr) from hb) (by simp),hok,.of_eq hg⟩
    refine Jt ((F _ hKb (nsK hns)).run callerA [] s₁ H ⟨[.ref a], []⟩ [.ref a] [.ref a] _ _ hr e0 (hbind s₁ (.ref a)) (.cons rfl .nil) (hsp H hO hS)) fun r s' h=>?_
    cases r with
    |error e=>exact(hCX H e s' h).elim
    | ok fl =>
      cases fl with
      |next=>exact False.elim h
      |brk=>exact False.elim h
      |cont=>exact False.elim h
      | ret u =>
        obtain⟨v,H',os,bare,un,hok',r',q⟩:=h
        have q':v= .bl true:=q
        subst q'
        obtain rfl:u=Value.bool true:=r'
        refine⟨rfl,⟨fun b o e=>?_,fun b o e=>un.there b o e (by simp)⟩,os,bare⟩
        by_cases z:b∈ts
        · obtain⟨t1,t2,t3⟩:=hts b z
          rw[e]at t2
          cases t2
          obtain⟨more,e2⟩:=un.tbls b #[] (hin b z)
          have e3:s'.heap.get? b=some { cls:= .none,data:= .fields (#[]++more) }:=hok' b _ e2
          exact .inr (.inl ⟨t3,rfl, #[],more,rfl,e3⟩)
        · refine .inl ?_
          cases q:H0 b with
          |none=>exact un.keep b o e (by rw[hout b z];exact q) (fun z=>absurd (show b∈([]:List Addr) from z) (by simp)) (by simp)
          | some u=>
            rcases hO0 b with z1 | ⟨ob,xs,z1⟩
            · rw[q]at z1;cases z1
            · have z2:=un.frzs b ob _ (sub _ _ z1)
              obtain⟨e1,_⟩:=hok0 b _ z1
              obtain⟨e2,_⟩:=hok' b _ z2
              rw[e]at e1;cases e1
              exact e2
  cases hk:K.lookup a with
  | some o=>
    have e:=KX a o hk
    rw[ha]at e
    cases e
    refine core (fun _=>none) (fun _=> .inl rfl) (.inr ⟨_,vs.toArray,_,hk,rfl,rfl,rfl,by rw[Yt,lenV];exact hl,by simpa using rv⟩) (fun b u z=>by cases (show (none:Option HO)=some u from z)) (fun b z=>absurd rfl z) fun z=>absurd rfl z
  | none =>
    refine core (fun b=>if b=a then some (.frz { cls:= .type "list",data:= .seq vs.toArray } (.lst (ns.map V.int))) else none) (fun b=>?_) (.inl (.inr ⟨{ cls:= .type "list",data:= .seq vs.toArray },if_pos rfl⟩)) (fun b u z=>?_) (fun b z=>?_) fun _=>hk
    · by_cases hb:b=a
      · exact .inr ⟨_,_,if_pos hb⟩
      · exact .inl (if_neg hb)
    · by_cases hb:b=a
      · cases (if_pos hb).symm.trans z
        subst hb
        exact⟨ha,by rw[Ya];exact hl,vs,_,rv,ha⟩
      · cases (if_neg hb).symm.trans z
    · by_cases hb:b=a
      · exact hb
      · exact absurd (if_neg hb) z
theorem walk_ofT {l:W.OpenLaw}{n k:Nat}{q:Program}{loose:List Str}{XP:(Str->Option Value)->Heap->Prop}{YP:World->Heap->Prop}{d:DefRec}{K:Params->W.Frag}{CX:World->CXT}{sp:World->Sp}{x:Str}{tc:List (Addr×Addr)}
  (hn:l.most=some n) (hn2:n<=sizeLine) (hdf:d.params.defaults= []) (hr:dF k callerA)
  (hY:∀(w:World)(h:Heap),YP w h->(K w.params).In h/\∀q∈tc,(K w.params).lookup q.2=none/\h.get? q.2=some (W.tabObj #[])/\W.codeHdIn (K w.params) q.1 q.2=true)
  (F : ∀(w:World)(mg:Str->Option Value)(fa:Addr)(h:Heap),(K w.params).In h->h.Ns mainGlobals mg->mg d.name=some (.ref fa)->
   ∃ fd:FuncData,(∀(s:Shared)(u:Value),BindsTo s fd ⟨[u], []⟩ [(x,u)])/\
    ∀base:Heap,(K w.params).In base->base.Ns mainGlobals mg->fX l.prog w (K w.params) mg base (CX w) k fa fd [x] (sp w))
  (hsp:∀(w:World)(H:Hp)(a:Addr)(ns:List Int),ns.length<=n->a9H (tc.map (·.2)) H->SqL (K w.params) H a (ns.map V.int)->sp w [.ref a] H (fun v _=>v= .bl true) fun _ _ _=>False)
  (hCX:∀(w:World)(H:Hp)(s:Shared)(e:Value)(s':Shared),CX w [] H s (fun _ _ _=>False) e s'->False) :
  W.WalkO q loose XP YP l.row.toRowW d [] (fun f vs=>PySem.call f vs):=by
 refine Att.attach_call hn hdf fun w s₀ s₁ mg mb fa o pm cd doc a vs ns G Y ho hd hcd hmg hobj hints hlen hg=>?_
 obtain⟨KX,T⟩:=hY w _ Y
 obtain⟨fd,hb,hF⟩:=F w mg fa _ KX G.T.g hmg
 refine a3H (ts:=tc.map (·.2)) (fun t ht=>?_) KX G.T.g G.T.b G.T.builtins G.T.nolimit hg hobj hints (Y1 hlen hn2) hr hF hb (fun H hO hS=>hsp w H a ns hlen hO hS) fun H e s'=>hCX w H s₁ e s'
 obtain⟨q,hq,rfl⟩:=Y2.mp ht
 obtain⟨t1,t2,t3⟩:=T q hq
 exact⟨t1,t2,((W.codeHd_of_K KX t3).tab t2).isCodeTable⟩
def nW (f:Addr)(qual:Str)(params:Arguments)(body:Expr)(scope:Scope)(cl:List (Str×Addr))(c':Addr):HO:=
 .ext fun h=>∃pm ctv,h.get? f=some (W.kla_obj "<lambda>" qual params body scope cl pm c' ctv)
theorem nW.stb {c':Addr}:∀h1 h2:Heap,(∃pm ctv,h1.get? f=some (W.kla_obj "<lambda>" qual params body scope cl pm c' ctv))->(∀o,h1.get? f=some o->h2.get? f=some o)->
  ∃pm ctv,h2.get? f=some (W.kla_obj "<lambda>" qual params body scope cl pm c' ctv):=fun h1 h2 ⟨pm,ctv,e⟩ k=>⟨pm,ctv,k _ e⟩
def xP (P:Addr)(pos:Pos)(c':Addr)(H:Hp):Prop:=∃ps,H P=some (.tbl ps)/\TriplesOk ps.toList/\codeAmong pos ps.toList=some (.ref c')
section
variable {c0 P bm:Addr}
theorem b5Y (I:Inv X pins σ H s)(hcode:X.env.code= .ref c0)(C:W.codeHdIn X.K c0 P=true)(hb:Bm X.K X.mg bm)(hT:a3Y P pos qual H)(hcl:closureFor scope X.env=pure cl)
  (h:∀f c' H' s',H f=none->(∀b o,b≠P->H b=some o->H' b=some o)->xP P pos c' H'->(H c'=none\/xP P pos c' H)->H' c'=some (jE c' qual)->H' f=some (nW f qual params body scope cl c')->Inv X pins σ H' s'->Q (.ref f) s') :
  wpAny (model X.prog X.w) A (makeFunction "<lambda>" qual params (.expr body) scope X.env [] [] [] pos pos.line) Q E s:=by
 obtain⟨ps,hP,ht,hh⟩:=hT
 have hPo:s.heap.get? P=some (W.tabObj ps):=I.hok _ _ hP
 have hPl:=Yo hPo
 have hg:=I.mod.glob.keeps I.bk
 have CH:W.CodeHd s.heap c0 P:=W.codeHd_of_K I.kIn C
 obtain⟨b1,b2,b3,ob,b4,b5,b6,b7⟩:=hb
 have bob:=I.kIn _ _ b4
 have hgP:mainGlobals≠P:=fun q=>by
  obtain⟨o,es,ep,e,hd,_⟩:=hg
  rw[q,hPo]at e;cases e;cases hd
 have hbP:bm≠P:=fun q=>by
  rw[q,hPo]at bob;cases bob;cases b5
 have hB:s.heap.BuiltinsAt X.mg P:=⟨bm,ob,b1,b2,b3,hbP,bob,b5,b6,b7⟩
 have nP:∀d u,H d=some u->(∀qs,u≠ .tbl qs)->d≠P:=fun d u q hn z=>by
  rw[z,hP]at q
  exact hn _ (Yp q).symm
 rcases hh with hnf | ⟨c',hf,hc'⟩
 ·refine W.kla_makeFunction (mg:=X.mg) hcl I.ok.glob hg hcode CH hPo ht hnf hgP hB fun c' ctv h' tk hx hge hlt hrec htb=>?_
  obtain⟨fO,hfO⟩:∃fO,fO=W.kla_obj "<lambda>" qual params body scope cl ((X.mg "__name__").getD .none) c' ctv:=⟨_,rfl⟩
  rw[<-hfO]
  have fne:h'.objs.size≠P:=Jp (Yo htb)
  have cne:c'≠P:=Jp (Yf hPl hge)
  have fc:h'.objs.size≠c':=Jp hlt
  have hsz:s.heap.objs.size<=h'.objs.size:=Y1 hge (YV hlt)
  have hfn:H h'.objs.size=none:=I.hok.fresh hsz
  have hcn:H c'=none:=I.hok.fresh hge
  obtain⟨H',hH'⟩:∃H',H'=upd (upd (upd H P (.tbl (ps++#[rawInt pos.line,rawInt pos.col,.ref c']))) c' (jE c' qual)) h'.objs.size (nW h'.objs.size qual params body scope cl c'):=⟨_,rfl⟩
  have h1:H' h'.objs.size=some (nW h'.objs.size qual params body scope cl c'):=by rw[hH',aC]
  have h2:H' c'=some (jE c' qual):=by rw[hH',aH fc.symm,aC]
  have h3:H' P=some (.tbl (ps++#[rawInt pos.line,rawInt pos.col,.ref c'])):=by rw[hH',aH fne.symm,aH cne.symm,aC]
  have h4:∀b,b≠P->b≠c'->b≠h'.objs.size->H' b=H b:=fun b n1 n2 n3=>by rw[hH',aH n3,aH n2,aH n1]
  have h5:∀b o,b≠P->H b=some o->H' b=some o:=fun b o n q=>by
   have l:=(I.hok b o q).lt
   rw[h4 b n (YD (Yf l hge)) (YD (Yf l hsz))];exact q
  have hk:∀b o,b≠P->s.heap.get? b=some o->(h'.push fO).get? b=some o:=fun b o n q=>Ym _ (hx b o n q)
  refine h h'.objs.size c' H' _ hfn h5 ⟨_,h3,?_,?_⟩ (.inl hcn) h2 h1 (I.call' (ch:=[]) rfl ⟨fun b o e n _ _=>hk b o (fun z=>by rw[z,hP]at n;cases n) e,fun b o e n _ _=>⟨o.slots,hk b o (fun z=>by rw[z,hP]at n;cases n) e⟩,fun b o e n _=>?_,fun b o e _=>?_,fun b xs q=>h5 b _ (nP b _ q fun _ z=>by cases z) q,fun b o u q=>h5 b _ (nP b _ q fun _ z=>by cases z) q,fun b qs q=>?_⟩ (fun b o e=>?_) I.bare (fun b z=>absurd z (by simp)))
  ·rw[Array.toList_append];exact TriplesOk_snoc _ _ _ _ ht
  ·rw[Array.toList_append];exact codeAmong_snoc _ ht hnf
  ·have l:=Yo e
   rw[h4 b (fun z=>by rw[z,hP]at n;cases n) (YD (Yf l hge)) (YD (Yf l hsz))];exact n
  ·by_cases z:b=P
   ·rw[z];exact⟨_,Ym _ htb⟩
   ·exact⟨o,hk b o z e⟩
  ·by_cases z:b=P
   ·rw[z,hP]at q
    cases q
    exact⟨_,by rw[z];exact h3⟩
   ·exact⟨#[],by rw[h5 b _ z q];simp⟩
  ·by_cases z1:b=h'.objs.size
   ·subst z1
    rw[h1]at e
    cases e
    refine⟨⟨(X.mg "__name__").getD .none,ctv,?_⟩,⟨fO,YI _ (by rw[hfO];rfl)⟩,nW.stb⟩
    rw[hfO]
    exact YI _ rfl
   ·by_cases z2:b=c'
    ·subst z2
     rw[h2]at e
     cases e
     have hr:(h'.push fO).CodeRec (.ref b) qual:=jE.stb _ _ hrec fun o q=>Ym _ q
     obtain⟨c2,oc,vs,t,e2,ho,_⟩:=id hr
     cases e2
     exact⟨hr,⟨oc,ho⟩,jE.stb⟩
    ·by_cases z3:b=P
     ·subst z3
      rw[h3]at e
      cases e
      exact Ym _ htb
     ·rw[h4 b z3 z2 z1]at e
      refine(I.hok b o e).stay (fun d u hd q=>hk d u ?_ q) (fun d q=>h5 d _ (nP d _ q fun _ z=>by cases z) q) fun d xs q=>h5 d _ (nP d _ q fun _ z=>by cases z) q
      rcases hd with rfl | hd
      ·exact z3
      ·exact nP d _ hd fun _ z=>by cases z
 ·refine W.kla_makeFunctionHit (mg:=X.mg) hcl I.ok.glob hg hcode CH hPo ht hf hB fun ctv h' tk hx hsz=>?_
  obtain⟨fO,hfO⟩:∃fO,fO=W.kla_obj "<lambda>" qual params body scope cl ((X.mg "__name__").getD .none) c' ctv:=⟨_,rfl⟩
  have hk:∀b o,s.heap.get? b=some o->(h'.push fO).get? b=some o:=fun b o q=>Ym _ (hx b o q)
  have hfn:H h'.objs.size=none:=I.hok.fresh hsz
  have h5:∀b o,H b=some o->upd H h'.objs.size (nW h'.objs.size qual params body scope cl c') b=some o:=fun b o q=>by
   rw[aH (aO q hfn)];exact q
  rw[show (⟨.type "function",none,.func (W.kla_fn "<lambda>" qual params body scope cl ((X.mg "__name__").getD .none) (.ref c') ctv), #[]⟩:Obj)=fO from hfO.symm]
  refine h h'.objs.size c' (upd H h'.objs.size (nW h'.objs.size qual params body scope cl c')) _ hfn (fun b o _ q=>h5 b o q) ⟨ps,h5 _ _ hP,ht,hf⟩ (.inr ⟨ps,hP,ht,hf⟩) (h5 _ _ hc') aC (I.call' (ch:=[]) rfl (Un.laid hk hsz hfn) (I.hok.laid hk hsz ?_) I.bare (fun b z=>absurd z (by simp)))
  refine⟨⟨(X.mg "__name__").getD .none,ctv,?_⟩,⟨fO,YI _ (by rw[hfO];rfl)⟩,nW.stb⟩
  rw[hfO]
  exact YI _ rfl
end
theorem b1U {P:Program}{w:World}{K:W.Frag}{mg:Str->Option Value}{base:Heap}{k:Nat}{f c':Addr}{params:Arguments}{body:Expr}{scope:Scope}{qual:Str}{cl:List (Str×Addr)}{N ps ys:List Str}{A:Around}{outer:List Env}{s:Shared}{H:Hp}{args:Args}{us:List Value}{vs ws:List V}{Q:VK}{E:XK}
  (S:uT N ps ys scope) (hr:dF (k+1) A) (e0:rC P w K mg base A outer s H) (hf:H f=some (nW f qual params body scope cl c')) (hcd:H c'=some (jE c' qual)) (hc:Cells H cl ys ws) (hl:vs.length=ps.length) (r:Vals vs us)
  (hb:∀pm ctv,BindsTo s (W.kla_fn "<lambda>" qual params body scope cl pm (.ref c') ctv) args (ps.zip us))
  (hbody:dF k (A.deeper (W.envX qual scope s.heap.objs.size f (.ref c') cl))->∃t,PE (cxC P w K mg base N qual scope f (.ref c') cl A outer s (lD H (cl.map (·.2)))) body t/\
   t (pW N vs ws) (lD H (cl.map (·.2))) fun v H'=>Q v (xN H H' (cl.map (·.2)))) :
  codeAny (model P w) A (.call (.ref f) args) (CR CX0 outer P w H s Q E) s:=by
 obtain⟨⟨pm,ctv,ho⟩,_,_⟩:=e0.hok _ _ hf
 obtain⟨hrec,_,_⟩:=e0.hok _ _ hcd
 have his:∀c∈cl.map (·.2),∃v,H c=some (kE c v):=fun c h=>Cells.is hc.2.2 h
 have lim:s.heap.NoLimit:=e0.mod.nolimit.keeps fun b o e=>(e0.bs b o e).1
 have hloc:∀y∈ps.zip us,scope.names.lookup y.1=some .local:=fun ⟨n,v⟩ hy=>S.par n (Jk hy).1
 refine W.kla_callFunE hr.depth ho rfl S.co S.gen rfl hrec (hb pm ctv _ _ _ _ ?_)
 refine wpAny_newFunctionEnv (fun y hy=>(S.only y hy).1) hloc (fun h' hn hsb=>?_) S.kind
 have hk:∀b o,s.heap.get? b=some o->h'.get? b=some o:=fun b o e=>by
  have hne:b≠s.heap.objs.size:=YD (Yo e)
  rw[hsb.2 b hne]
  exact Ym _ e
 refine⟨lim.keeps hk,W.kla_codeExpr ?_⟩
 obtain⟨t,ht,hq⟩:=hbody (hr.deeper _)
 have I:=yX (qual:=qual) (f:=f) (cd:= .ref c') (tk:=s.toks+(ps.zip us).length) S hr.hd e0 hl r hc hn hk
 refine Y5 (ht [] _ _ _ _ I hq) (fun u0 s' hs=>?_) fun e s' hs=>hs.elim
 have fin :∀{σ':St}{H':Hp}{v:V}{u:Value},Inv (cxC P w K mg base N qual scope f (.ref c') cl A outer s (lD H (cl.map (·.2)))) [] σ' H' s'->RelV v u->Q v (xN H H' (cl.map (·.2)))->CE outer P w H s Q u s':=by
  intro σ' H' v u J rv q
  have nx:∀b u,H b=some u->(∀φ,u≠ .ext φ)->b∉cl.map (·.2):=fun b u q hn z=>by
   obtain⟨v,e2⟩:=his b z
   rw[q]at e2
   exact hn _ (Yp e2)
  have nn:∀b,H b=none->b∉cl.map (·.2):=fun b q z=>by
   obtain⟨v,e2⟩:=his b z
   rw[q]at e2;cases e2
  have hJ:∀c∈cl.map (·.2),H' c=none:=fun c hm=>by
   obtain⟨p,hp,rfl⟩:=Y2.mp hm
   have q:cl.lookup p.1=some p.2:=mK (by rw[hc.1];exact(Ja.mp (show (ps++ys).Nodup by rw[<-S.pre];exact S.nd.sublist (List.take_sublist _ _))).2.1) hp
   exact J.freeC p.1 p.2 q
  have un:=J.base
  have un':Un (frs outer) [] (lD H (cl.map (·.2))) H' s.heap s'.heap:=un
  refine⟨v,xN H H' (cl.map (·.2)),J.os,J.bare,⟨fun b o e n hb he=>un'.keep b o e (by rw[dD (nn b n)];exact n) hb he,fun b o e n hb he=>un'.slot b o e (by rw[dD (nn b n)];exact n) hb he,fun b o e n he=>?_,un'.there,fun b xs q=>?_,fun b o u q=>?_,fun b ps' q=>?_⟩,fun b o e=>?_,rv,q⟩
  ·rw[gU (nn b n)]
   exact un'.free b o e (by rw[dD (nn b n)];exact n) he
  ·have hb:=nx b _ q fun φ z=>by cases z
   rw[gU hb]
   exact un'.tups b xs (by rw[dD hb];exact q)
  ·have hb:=nx b _ q fun φ z=>by cases z
   rw[gU hb]
   exact un'.frzs b o u (by rw[dD hb];exact q)
  ·have hb:=nx b _ q fun φ z=>by cases z
   obtain⟨more,e⟩:=un'.tbls b ps' (by rw[dD hb];exact q)
   exact⟨more,by rw[gU hb];exact e⟩
  ·by_cases hb:b∈cl.map (·.2)
   ·rw [a1T hb]at e
    obtain⟨v2,e2⟩:=his b hb
    have hbf:b∉frs outer:=fun z=>by
     have:=e0.frf b z
     rw[e2]at this;cases this
    rw[e2]at e
    cases e
    obtain⟨p,⟨ob,eo⟩,stb⟩:=e0.hok b _ e2
    have kk:∀u,s.heap.get? b=some u->s'.heap.get? b=some u:=fun u q=>un'.keep b u q (mR hb) hbf (by simp)
    exact⟨stb _ _ p kk,⟨ob,kk _ eo⟩,stb⟩
   ·rw [gU hb]at e
    refine(J.hok b o e).stay (fun d u _ q=>q) (fun d q=>?_) fun d xs q=>?_
    ·have hd:d∉cl.map (·.2):=fun z=>by rw[hJ d z]at q;cases q
     rw[gU hd];exact q
    ·have hd:d∉cl.map (·.2):=fun z=>by rw[hJ d z]at q;cases q
     rw[gU hd];exact q
 obtain⟨v,H',J,rv,q⟩:=hs
 exact fin J rv q
def FnE (K:W.Frag)(H:Hp)(f:Addr):Prop:=(∃oc od fd sl,K.lookup f=some ⟨oc,od,.func fd,sl⟩)\/∃φ,H f=some (.ext φ)/\∀h,φ h->W.FnAt f h
def FnE.lam {c':Addr}(h:H f=some (nW f qual params body scope cl c')):FnE K H f:=
 .inr ⟨_,h,fun _ ⟨_,_,e⟩=>⟨_,_,_,_,e⟩⟩
def b4H (K:W.Frag)(spc:Addr->List V->Hp->VK->Prop)(i:Nat)(t:TA):TE:=fun σ H Q=>∃f,σ[i]? =some (some (.ref f))/\FnE K H f/\t σ H fun vs H1=>FnE K H1 f/\spc f vs H1 Q
section
variable {k i:Nat}{x:Str}{p:Pos}{es:List Expr}{spc:Addr->List V->Hp->VK->Prop}
def FnE.at (I:Inv X pins σ H s)(h:FnE X.K H f):W.FnAt f s.heap:=by
 rcases h with ⟨oc,od,fd,sl,e⟩ | ⟨φ,e,z⟩
 ·exact⟨oc,od,fd,sl,I.kIn _ _ e⟩
 ·exact z _ (I.hok _ _ e).1
theorem a6Y (F:a1W X.prog X.w X.K X.mg X.base k spc)(hr:dF k X.A)(hv:PE X (.Name x p) (b4D i))(ha:PA X (e::es) t)(hK:X.K=K:=by rfl)(he:starEach (e::es) X.env=(false,eval e X.env)::starEach es X.env:=by rfl)(hpl:(backTo pos (starEach es X.env)).any (·.1)=false:=by rfl):
  PE X (.Call (.Name x p) (e::es) [] pos) (b4H K spc i t):=by
 subst hK
 intro pins s σ H Q I ⟨f,h1,h2,h3⟩
 refine Xq (thn (hv pins s σ H (fun v H'=>v= .ref f/\H'=H) I ⟨_,h1,rfl,rfl⟩) fun u s1 hz9=>?_)
 obtain⟨v,H1,I1,rv,e1,e2⟩:=hz9
 subst e1 e2
 obtain rfl:u=Value.ref f:=rv
 refine W.callWith_F (h2.at I1) (thn (ha pos pins s1 σ H1 _ I1 h3) fun us s2 ⟨vs,H2,I2,r,h4,h5⟩=>⟨h4.at I2,?_⟩) he hpl
 refine wpAny_call (Jt (F f X.A X.stack s2 H2 us vs Q hr I2.env0 r h5) fun r s' hq=>?_)
 cases r with
 |error e=>exact hq.elim
 | ok fl=>
  cases fl with
  |ret u=>exact I2.after hq
  |next=>exact False.elim hq
  |brk=>exact False.elim hq
  |cont=>exact False.elim hq
end
section
def c0L (X:Cx)(Q:VK)(fl:Flow)(s':Shared):Prop:=∃u,fl= .ret u/\∃v H',s'.os=X.s₀.os/\AllBare s'.gens/\Un X.fs X.ex X.H₀ H' X.s₀.heap s'.heap/\HOk X.prog X.w H' s'.heap/\RelV v u/\Q v H'
def c0R (C P:Addr)(m iq y:Str)(ip:Arguments)(ib:Expr)(isc:Scope)(pos:Pos)(iy:Nat)(sp:Sp)(ta:TE)(Q:VK):St->Hp->Prop:=fun σ H=>ta σ H fun x H1=>∃a dx fs w,x= .ref a/\H1 a=some (.ins C dx fs)/\fs.lookup m=none/\σ[iy]? =some (some w)/\a3Y P pos iq H1/\
 ∀f c c' H2,H1 f=none->H1 c=none->(∀b o,b≠P->H1 b=some o->H2 b=some o)->xP P pos c' H2->(H1 c'=none\/xP P pos c' H1)->H2 c'=some (jE c' iq)->H2 c=some (kE c w)->H2 f=some (nW f iq ip ib isc [(y,c)] c')->sp [.ref a,.ref f] H2 Q fun _ _ _=>False
theorem b5D {C c0 P bm fa:Addr}{fd:FuncData}{ps:List Str}{k iy:Nat}{sp:Sp}{m iq y:Str}{ip:Arguments}{ib:Expr}{isc:Scope}{lpos pos apos p2:Pos}{o:Expr}{ta:TE}{Q:VK}{pl:Sem Bool}(he:PE X o ta)(c:Cls X.K C)(hm:Meth X.K C m fa)(F:fX X.prog X.w X.K X.mg X.base CX0 k fa fd ps sp)(hr:dF k X.A)(hb:Binds X.K fd ps [])
    (hcode:X.env.code= .ref c0) (Cd:W.codeHdIn X.K c0 P=true) (hbm:Bm X.K X.mg bm) (hcl:∀c,X.env.cells.lookup y=some c->closureFor isc X.env=pure [(y,c)]) (hy:X.N[iy]? =some y) (hyc:X.env.scope.names.lookup y=some .cell) (hfn:X.fn y=true) (hdef:defaultsOf ip X.env=([], [])) (hq:X.env.qual++"<lambda>"=iq)
    (hst:starEach [.Lambda ip ib isc lpos] X.env=(false,eval (.Lambda ip ib isc lpos) X.env)::starEach [] X.env:=by rfl)
    (ht:eval (.Call (.Attribute o m apos) [.Lambda ip ib isc lpos] [] pos) X.env=(do
      let ov<-eval o X.env
      standAt apos.atName
      let (f,first)<-holding [ov] (getMethod ov m pl)
      callWith pos f first (backTo pos (starEach [.Lambda ip ib isc lpos] X.env)) (backToKw pos (keywordEach [] X.env))):=by rfl) :
    PF X [.Return (some (.Call (.Attribute o m apos) [.Lambda ip ib isc lpos] [] pos)) p2] (c0R C P m iq y ip ib isc lpos iy sp ta Q) (c0L X Q):=by
  intro pins s σ H I h
  obtain⟨cc,hc⟩:=I.ok.has y (.inl hyc)
  refine wpAny_execs_cons (wpAny_Return_some ?_)
  have lam:PE X (.Lambda ip ib isc lpos) (fun σ H Q=>a3Y P lpos iq H/\∀f c' H',H f=none->(∀b o,b≠P->H b=some o->H' b=some o)->xP P lpos c' H'->(H c'=none\/xP P lpos c' H)->H' c'=some (jE c' iq)->H' f=some (nW f iq ip ib isc [(y,cc)] c')->Q (.ref f) H'):=by
    intro pins s σ H Q I ⟨hT,kk⟩
    refine W.kla_eval hdef ?_
    rw[hq]
    exact b5Y I hcode Cd hbm hT (hcl cc hc) fun f c' H' s' hf hsm hT' hor hc' hf' J=>⟨.ref f,H',J,rfl,kk f c' H' hf hsm hT' hor hc' hf'⟩
  refine XB (pl:=pl) (thn (he pins s σ H _ I h) fun u s1 hz1=>?_) ht
  obtain⟨x,H1,I1,rx,a,dx,fs,w,ex,ea,l,hw,hT,q⟩:=hz1
  subst ex
  obtain rfl:u=Value.ref a:=rx
  refine fQ I1 ea c hm l ?_
  have hn1:=I1.freeC y cc hc
  refine Jh (first:=[.ref a]) (h₀:=X.base) I.ok.mod.kin hm.kp (thn ((aA lam aB hst) pos pins s1 σ H1 (fun vs H2=>∃f c',vs= [.ref f]/\H1 f=none/\(∀b o,b≠P->H1 b=some o->H2 b=some o)/\xP P lpos c' H2/\(H1 c'=none\/xP P lpos c' H1)/\H2 c'=some (jE c' iq)/\H2 f=some (nW f iq ip ib isc [(y,cc)] c')) I1 ⟨hT,fun f c' H' h1 h2 h3 h3' h4 h5=>⟨f,c',rfl,h1,h2,h3,h3',h4,h5⟩⟩) fun us s2 hz2=>?_) hst rfl
  obtain⟨vs,H2,I2,r,f,c',e1,h1,h2,h3,h3',h4,h5⟩:=hz2
  refine⟨I2.kIn,?_⟩
  subst e1
  have hn2:=I2.freeC y cc hc
  obtain⟨mm,_,hl⟩:=I2.loc
  obtain⟨uv,ru,lk⟩:=hl iy y w hy hw (.inr (.inl hyc))
  have hcell:s2.heap.IsCell cc (some uv):=by
    rcases lk with ⟨hk,_⟩ | ⟨_,c2,hc2,hcell⟩
    · have hk':X.env.scope.names.lookup y=some .local:=hk
      rw[hyc]at hk';cases hk'
    · rw[hc]at hc2
      cases hc2
      exact hcell
  have hco:∃o,s2.heap.get? cc=some o:=by obtain⟨o,ho,_⟩:=hcell;exact⟨o,ho⟩
  have hcs:X.s₀.heap.objs.size<=cc:=I2.ok.cab y cc hfn hc
  obtain⟨H3,hH3⟩:∃H3,H3=upd H2 cc (kE cc w):=⟨_,rfl⟩
  have up:∀b o,H2 b=some o->H3 b=some o:=fun b o z=>by rw[hH3,aH (aO z hn2)];exact z
  have hok3:HOk X.prog X.w H3 s2.heap:=fun b o z=>by
    by_cases hbc:b=cc
    · subst hbc
      rw[hH3,aC]at z
      cases z
      exact⟨⟨uv,ru,hcell⟩,hco,fun k1 k2 ⟨v1,r1,o1,ho1,hd1⟩ kk=>⟨v1,r1,o1,kk _ ho1,hd1⟩⟩
    · rw[hH3,aH hbc]at z
      exact(I2.hok b o z).stay (fun d u' _ zz=>zz) (fun d zz=>up d _ zz) fun d xs zz=>up d _ zz
  have e0:=I2.env0
  have ltc:∀b,b<X.s₀.heap.objs.size->b≠cc:=fun b z=>YD (Yf z hcs)
  have e3 :rC X.prog X.w X.K X.mg X.base X.A X.stack s2 H3:=⟨e0.frames,e0.mod,fun b o z=>⟨(e0.bs b o z).1,by
      rw[hH3,aH (ltc b (Yf (Yo z) I2.ok.bsz))];exact(e0.bs b o z).2⟩,e0.bsz,e0.funs,fun b z=>by
      rw[hH3,aH fun q=>?_]
      · exact e0.frf b z
      · rcases YH.mp (I2.stkSub b z) with e | hb'
        · exact I2.cne y cc hc (q.symm.trans e)
        · obtain⟨_,o,ho,_⟩:=I2.ok.funs.mem hb'
          exact ltc b (Yo ho) q,hok3,e0.bare⟩
  have hspec:=q f cc c' H3 h1 hn1 (fun b o n z=>up b o (h2 b o n z)) (by
    obtain⟨qs,a1,a2,a3⟩:=h3
    exact⟨qs,up _ _ a1,a2,a3⟩) h3' (up _ _ h4) (by rw[hH3,aC]) (up _ _ h5)
  have hl2:((Value.ref a::us)++[]).length=ps.length:=by
    rw[YQ,<-(show Vals (.ref a::[.ref f]) (Value.ref a::us) from .cons rfl r).length];exact F.len _ _ _ _ hspec
  have hbd:=hb s2 (.ref a::us) I2.kIn hl2
  rw[YQ]at hbd
  refine wpAny_call (Jt (F.run X.A X.stack s2 H3 ⟨.ref a::us, []⟩ (.ref a::us) [.ref a,.ref f] Q _ hr e3 hbd (.cons rfl r) hspec) fun r s' hq'=>?_)
  cases r with
  |error e=>exact hq'.elim
  | ok fl =>
    cases fl with
    |next=>exact False.elim hq'
    |brk=>exact False.elim hq'
    |cont=>exact False.elim hq'
    | ret u=>
      obtain⟨v,H',os,bare,un,hok,rv,qq⟩:=hq'
      have b0:=I2.base
      have h30:∀b ob,X.s₀.heap.get? b=some ob->H2 b=none->H3 b=none:=fun b ob z n=>by
        rw[hH3,aH (ltc b (Yo z))];exact n
      have nst:∀b ob,X.s₀.heap.get? b=some ob->b∉X.fs->b∉frs X.stack:=fun b ob z n hb'=>by
        rcases YH.mp (I2.stkSub b hb') with e | hb''
        · have:=I2.ok.above
          rw[<-e]at this
          exact absurd (Yo z) (Nat.not_lt.mpr this)
        · exact n hb''
      refine⟨u,rfl,v,H',os.trans I2.os,bare,⟨fun b ob z n hb' hx=>?_,fun b ob z n hb' hx=>?_,fun b ob z n hx=>?_,fun b ob z hx=>?_,fun b xs z=>?_,fun b ob uu z=>?_,fun b qs z=>?_⟩,hok,rv,qq⟩
      · exact un.keep b ob (b0.keep b ob z n hb' hx) (h30 b ob z (b0.free b ob z n hx)) (nst b ob z hb') (by simp)
      · obtain⟨sl,e1⟩:=b0.slot b ob z n hb' hx
        obtain⟨sl',e2⟩:=un.any e1 (h30 b ob z (b0.free b ob z n hx)) (by simp)
        exact⟨sl',e2⟩
      · obtain⟨o',e1⟩:=b0.there b ob z hx
        exact un.free b o' e1 (h30 b ob z (b0.free b ob z n hx)) (by simp)
      · obtain⟨o',e1⟩:=b0.there b ob z hx
        exact un.there b o' e1 (by simp)
      · exact un.tups b xs (up _ _ (b0.tups b xs z))
      · exact un.frzs b ob uu (up _ _ (b0.frzs b ob uu z))
      · obtain⟨m1,z1⟩:=b0.tbls b qs z
        obtain⟨m2,z2⟩:=un.tbls b _ (up _ _ z1)
        exact⟨m1++m2,by rw[z2,Array.append_assoc]⟩
end
theorem Fun.okL {CX:CXT}{P:Program}{w:World}{K:W.Frag}{mg:Str->Option Value}{base:Heap}{x qual:Str}{st:Stmt}{f c0:Addr}{fd:FuncData}{N ps:List Str}{k:Nat}{sp:Sp}(F:Fun K x qual st f fd)(hcode:fd.code= .ref c0)(S:iD N ps (bO st))(len:∀vs H Q E,sp vs H Q E->vs.length=ps.length)
  (hbody:∀(A:Around)(outer:List Env)(s:Shared)(H:Hp)(vs:List V)(Q:VK)(E:XK),dF k (A.deeper (envOfC qual (bO st) s.heap.objs.size f (.ref c0)))->sp vs H Q E->
   ∃u,PF (qT CX P w K mg base N qual (bO st) f (.ref c0) A outer s H E) (gD st) u (c0L (qT CX P w K mg base N qual (bO st) f (.ref c0) A outer s H E) Q)/\u (start N vs) H):fX P w K mg base CX (k+1) f fd ps sp:=by
 obtain⟨oc,od,kV,doc,pm,an,cdv,ct,osl,rfl,lk,hcd⟩:=F.ex
 have hcv:cdv= .ref c0:=hcode
 subst hcv
 refine⟨len,fun A outer s H args us vs Q E hr e0 hb r hsp=>?_⟩
 have hl:=len _ _ _ _ hsp
 have KX:K.In s.heap:=e0.mod.kin.keeps fun b o e=>(e0.bs b o e).1
 have lim:s.heap.NoLimit:=e0.mod.nolimit.keeps fun b o e=>(e0.bs b o e).1
 refine codeAny_call_function hr.depth (KX _ _ lk) rfl S.co S.gen rfl (W.codeRec_of KX hcd) (hb _ _ _ _ ?_)
 refine wpAny_newFunctionEnv_cells S.kind (fun ⟨n,v⟩ hy=>by
  rcases S.par n (Jk hy).1 with q | q
  ·exact .inl q
  ·exact .inr ⟨q,W.cellsFrom_some _ _ _ (.inl q)⟩) fun env he s1 xx=>?_
 subst he
 refine⟨lim.keeps xx.toInCall.keep,codeAny_func ?_⟩
 obtain⟨u,hu,hq⟩:=hbody A outer s H vs Q E (hr.deeper _) hsp
 have I:Inv (qT CX P w K mg base N qual (bO st) f (.ref c0) A outer s H E) [] (start N vs) H s1:=sO S hr.hd e0 hl r xx
 refine Y5 (hu [] s1 (start N vs) H I hq) (fun fl s' hs=>?_) fun e s' hs=>hs
 obtain⟨v,rfl,v',H',os,bare,un,hok,rv,q⟩:=hs
 exact⟨v',H',os,bare,un,hok,rv,q⟩
end L2
namespace Bm
def fJ (n j:Nat):Int:=if n.testBit j then 1 else 0
def bM (n m:Nat):List Int:=(List.range m).map fun i=>fJ n (m-1-i)
def jJ (bs:List Int):Int:=bs.foldl (fun x b=>x*2+b) 0
def bN (bs:List Int):Prop:=∀b∈bs,b=0\/b=1
def b2N (n j:Nat):fJ n j=0\/fJ n j=1:=by unfold fJ;split <;> simp
def gK (n m:Nat):bN (bM n m):=fun b hb=>by
 obtain⟨i,_,rfl⟩:=Y2.mp hb
 exact b2N _ _
def bZ (n m:Nat):(bM n m).length=m:=by unfold bM;rw[Ya,YC]
def sU {n m k:Nat}(h:k<(bM n m).length):(bM n m)[k]=fJ n (m-1-k):=by simp[bM]
def a8S (n j:Nat):((n / 2 ^ j:Nat):Int)=((n / 2 ^ (j+1):Nat):Int)*2+fJ n j:=by
 have e:n / 2 ^ (j+1)=n / 2 ^ j / 2:=by rw[XJ,Nat.div_div_eq_div_mul]
 unfold fJ
 rw[Y4,e]
 generalize n / 2 ^ j=q
 by_cases h:q % 2=1
 ·rw[Yn h,if_pos rfl];omega
 ·rw[Yr h,if_neg (by decide)];omega
def a7H:jJ []=0:=rfl
def oE (l:List Int)(b:Int):jJ (l++[b])=jJ l*2+b:=by
 unfold jJ;rw[Xr];rfl
def a2X (l:List Int):∀x:Int,l.foldl (fun x b=>x*2+b) x=x*2 ^ l.length+jJ l:=by
 induction l with
 |nil=>intro x;simp[jJ]
 | cons b r ih=>
  intro x
  unfold jJ
  rw[XX,XX,ih,ih,YE,Int.pow_succ]
  have:(x*2+b)*2 ^ r.length=x*(2 ^ r.length*2)+b*2 ^ r.length:=by
   rw[Int.add_mul,Int.mul_assoc,Int.mul_comm 2 (2 ^ r.length)]
  rw[this]
  simp only[Int.zero_mul,Xw]
  omega
def rW (b:Int)(l:List Int):jJ (b::l)=b*2 ^ l.length+jJ l:=by
 show (b::l).foldl _ 0=_
 rw[XX,a2X];simp
def tZ {l:List Int}(h:bN l):0<=jJ l/\jJ l<2 ^ l.length:=by
 induction l with
 |nil=>exact⟨Int.le_refl _,by decide⟩
 | cons b r ih=>
  have:=ih fun z hz=>h z (Yw _ hz)
  rw[rW,YE,Int.pow_succ]
  have p:(0:Int)<2 ^ r.length:=Int.pow_pos (by decide)
  rcases h b Yq with rfl | rfl
  ·omega
  ·omega
def a7F (n m:Nat)(hn:n<2 ^ m):∀k,k<=m->jJ ((bM n m).take k)=((n / 2 ^ (m-k):Nat):Int):=by
 intro k
 induction k with
 | zero=>
  intro _
  rw[Jb,a7H,Nat.sub_zero,Nat.div_eq_of_lt hn];rfl
 | succ k ih=>
  intro hk
  have hl:k<(bM n m).length:=by rw[bZ];omega
  rw[Yh hl,oE,ih (by omega)]
  have e1:(bM n m)[k]=fJ n (m-1-k):=sU hl
  rw[e1]
  have e2:m-k=(m-1-k)+1:=by omega
  have e3:m-(k+1)=m-1-k:=by omega
  rw[e2,e3,a8S n (m-1-k)]
def a7G {n m:Nat}(hn:n<2 ^ m):jJ (bM n m)=(n:Int):=by
 have h:=a7F n m hn m (Yd _)
 rw[Yl (by rw[bZ];exact Yd _),XM,Nat.pow_zero,Nat.div_one]at h
 exact h
end Bm
namespace Rn
open Bm
def Win (l:List Int)(a n:Nat):Prop:=a+n<=l.length/\∀i j,a<=i->i<a+n->a<=j->j<a+n->l.getD i 0=l.getD j 0
def pU {l:List Int}(h:bN l):0<=l.sum/\l.sum<=l.length:=by
 induction l with
 |nil=>exact⟨Int.le_refl _,Int.le_refl _⟩
 | cons b r ih=>
  have:=ih fun z hz=>h z (Yw _ hz)
  rw[List.sum_cons,YE]
  rcases h b Yq with rfl | rfl <;> omega
def vJ {l:List Int}(h:bN l)(e:l.sum=0):∀b∈l,b=0:=by
 induction l with
 |nil=>intro b hb;cases hb
 | cons c r ih=>
  have hr:bN r:=fun z hz=>h z (Yw _ hz)
  have s:=pU hr
  rw[List.sum_cons]at e
  intro b hb
  rcases h c Yq with rfl | rfl
  ·rcases YH.mp hb with rfl | hb
   ·rfl
   ·exact ih hr (by omega) b hb
  ·omega
def vK {l:List Int}(h:bN l)(e:l.sum=l.length):∀b∈l,b=1:=by
 induction l with
 |nil=>intro b hb;cases hb
 | cons c r ih=>
  have hr:bN r:=fun z hz=>h z (Yw _ hz)
  have s:=pU hr
  rw[List.sum_cons,YE]at e
  intro b hb
  rcases h c Yq with rfl | rfl
  ·omega
  ·rcases YH.mp hb with rfl | hb
   ·rfl
   ·exact ih hr (by omega) b hb
def a2G {c:Int}{l:List Int}(h:∀b∈l,b=c):l.sum=c*l.length:=by
 induction l with
 |nil=>simp
 | cons b r ih=>
  rw[List.sum_cons,ih fun z hz=>h z (Yw _ hz),h b Yq,YE]
  have:((r.length+1:Nat):Int)=(r.length:Int)+1:=by omega
  rw[this,Int.mul_add,Int.mul_one];omega
def a1Q {l:List Int}{a n i:Nat}(h:i<n)(ha:a+n<=l.length):((l.drop a).take n).getD i 0=l.getD (a+i) 0:=by
 rw[Ye,Ye,XA h,List.getElem?_drop]
def nJ {l:List Int}{a n:Nat}(ha:a+n<=l.length):((l.drop a).take n).length=n:=by
 rw[Yu,XE];omega
def b1T {l:List Int}{a n:Nat}{b:Int}(ha:a+n<=l.length)(h:b∈(l.drop a).take n):∃i,i<n/\b=l.getD (a+i) 0:=by
 obtain⟨i,hi,e⟩:=List.mem_iff_getElem.mp h
 have hi':i<n:=by rw[nJ ha]at hi;exact hi
 refine⟨i,hi',?_⟩
 rw[<-a1Q hi' ha,Ye,Yc hi,<-e];rfl
def a9O {l:List Int}(hb:bN l){a n:Nat}(hn:0<n)(ha:a+n<=l.length):((l.drop a).take n).sum % (n:Int)=0↔Win l a n:=by
 have hc:bN ((l.drop a).take n):=fun b h=>hb b (List.mem_of_mem_drop (Xz h))
 have s:=pU hc
 rw[nJ ha]at s
 constructor
 ·intro h
  have:((l.drop a).take n).sum=0\/((l.drop a).take n).sum=n:=by
   by_cases z:((l.drop a).take n).sum=n
   ·exact .inr z
   ·rw[Int.emod_eq_of_lt s.1 (by omega)]at h;exact .inl h
  refine⟨ha,fun i j i1 i2 j1 j2=>?_⟩
  have gi:∀k,a<=k->k<a+n->l.getD k 0∈(l.drop a).take n:=fun k k1 k2=>by
   have h1:k-a<((l.drop a).take n).length:=by rw[nJ ha];omega
   have e:=a1Q (l:=l) (a:=a) (n:=n) (i:=k-a) (by omega) ha
   have e2:a+(k-a)=k:=by omega
   rw[e2,Ye,Yc h1]at e
   rw[<-e];exact YN h1
  rcases this with e | e
  ·rw[vJ hc e _ (gi i i1 i2),vJ hc e _ (gi j j1 j2)]
  ·have e':((l.drop a).take n).sum=((l.drop a).take n).length:=by rw[nJ ha];exact e
   rw[vK hc e' _ (gi i i1 i2),vK hc e' _ (gi j j1 j2)]
 ·intro h
  have:∀b∈(l.drop a).take n,b=l.getD a 0:=fun b hm=>by
   obtain⟨i,hi,rfl⟩:=b1T ha hm
   exact h.2 (a+i) a (by omega) (by omega) (by omega) (by omega)
  rw[a2G this,nJ ha]
  exact Int.mul_emod_left _ _
end Rn
namespace Cl
def xs:Nat->(Nat->Nat)->Nat
 |0,_=>0
 |n+1,f=>xs n f ^^^ f n
def xs_congr {n:Nat}{f g:Nat->Nat}(h:∀k,k<n->f k=g k):xs n f=xs n g:=by
 induction n with
 |zero=>rfl
 | succ n ih=>
  show xs n f ^^^ f n=xs n g ^^^ g n
  rw[ih (fun k hk=>h k (by omega)),h n (by omega)]
def xs_zero {n:Nat}{f:Nat->Nat}(h:∀k,k<n->f k=0):xs n f=0:=by
 induction n with
 |zero=>rfl
 | succ n ih=>
  show xs n f ^^^ f n=0
  rw[ih (fun k hk=>h k (by omega)),h n (by omega)];rfl
def xor4 (a b c d:Nat):(a ^^^ b) ^^^ (c ^^^ d)=(a ^^^ c) ^^^ (b ^^^ d):=by
 rw[XW,<-XW b c d,Nat.xor_comm b c,XW c b d,<-XW]
def xs_xor {n:Nat}{f g:Nat->Nat}:xs n (fun k=>f k ^^^ g k)=xs n f ^^^ xs n g:=by
 induction n with
 |zero=>exact(Jr 0).symm
 | succ n ih=>
  show xs n (fun k=>f k ^^^ g k) ^^^ (f n ^^^ g n)=(xs n f ^^^ f n) ^^^ (xs n g ^^^ g n)
  rw[ih,xor4]
def xs_more {n m:Nat}{f:Nat->Nat}(hnm:n<=m)(h:∀k,n<=k->k<m->f k=0):xs m f=xs n f:=by
  induction m with
  | zero => have:n=0:=by omega
            subst this;rfl
  | succ m ih=>
    by_cases e:n=m+1
    · subst e;rfl
    · show xs m f ^^^ f m=xs n f
      rw[ih (by omega) (fun k h1 h2=>h k h1 (by omega)),h m (by omega) (by omega)]
      exact Jr _
def self {n:Nat}:∀{a:Nat},a<2 ^ n->a=xs n (fun j=>if a.testBit j then 1 <<< j else 0):=by
  induction n with
  | zero => intro a h;have:a=0:=by simpa using h
            subst this;rfl
  | succ n ih=>
    intro a h
    show a=xs n (fun j=>if a.testBit j then 1 <<< j else 0) ^^^ (if a.testBit n then 1 <<< n else 0)
    have hlow:a % 2 ^ n<2 ^ n:=Nat.mod_lt _ (X0 n)
    have e1:xs n (fun j=>if a.testBit j then 1 <<< j else 0)=xs n (fun j=>if (a % 2 ^ n).testBit j then 1 <<< j else 0):=by
      refine xs_congr fun k hk=>?_
      rw[Nat.testBit_mod_two_pow]
      simp[hk]
    rw[e1,<-ih hlow]
    apply Nat.eq_of_testBit_eq
    intro i
    rw[XY,Nat.testBit_mod_two_pow]
    by_cases hi:i<n
    · have e2:(if a.testBit n=true then 1 <<< n else 0).testBit i=false:=by
        split
        · rw[Jc];simp;omega
        · simp
      rw[e2];simp[hi]
    · by_cases hin:i=n
      · subst hin
        cases hb:a.testBit i with
        |true=>simp[Jc]
        |false=>simp
      · have hgt:a.testBit i=false:=Xd (Yf h (YA (by decide) (by omega)))
        have e2:(if a.testBit n=true then 1 <<< n else 0).testBit i=false:=by
          split
          · rw[Jc]
            have h1:(1:Nat).testBit (i-n)=false:=Xd (Yf (by decide:1<2 ^ 1) (YA (by decide) (by omega)))
            rw[h1,Bool.and_false]
          · simp
        rw[e2,hgt];simp[hi]
def xs_lt {n m:Nat}{f:Nat->Nat}(h:∀k,k<n->f k<2 ^ m):xs n f<2 ^ m:=by
 induction n with
 |zero=>exact X0 m
 |succ n ih=>exact X3 (ih fun k hk=>h k (by omega)) (h n (by omega))
end Cl
namespace Rm
open Bm
def b4A {a b n:Nat}(ha:a<2 ^ (n+1))(hb:b<2 ^ (n+1))(ha':2 ^ n<=a)(hb':2 ^ n<=b):a ^^^ b<2 ^ n:=by
 apply Nat.lt_pow_two_of_testBit
 intro i hi
 rw[XY]
 by_cases e:i=n
 ·subst e
  have h1:a.testBit i=true:=by
   rw[Y4]
   have:a / 2 ^ i=1:=by
    apply Jo
    ·simpa using ha'
    ·rw[XJ]at ha;omega
   rw[this];rfl
  have h2:b.testBit i=true:=by
   rw[Y4]
   have:b / 2 ^ i=1:=by
    apply Jo
    ·simpa using hb'
    ·rw[XJ]at hb;omega
   rw[this];rfl
  rw[h1,h2];rfl
 ·have h1:a.testBit i=false:=Xd (Yf ha (YA (by decide) (by omega)))
  have h2:b.testBit i=false:=Xd (Yf hb (YA (by decide) (by omega)))
  rw[h1,h2];rfl
def nx (r:Nat):Nat:=if 32768<=2*r then (2*r) ^^^ 64647 else 2*r
def rr:Nat->Nat
 |0=>1
 |k+1=>nx (rr k)
def a7D {r:Nat}(h:r<32768):nx r<32768:=by
 unfold nx
 split
 ·exact b4A (n:=15) (by omega) (by decide) (by omega) (by decide)
 ·omega
theorem b3H:∀k,rr k<32768
 |0=>by decide
 |k+1=>a7D (b3H k)
def tY:nx 0=0:=by decide
def a9R (a b:Nat):2*(a ^^^ b)=2*a ^^^ 2*b:=by
 have h:(a ^^^ b) <<< 1=a <<< 1 ^^^ b <<< 1:=Nat.shiftLeft_xor_distrib
 have e:∀z:Nat,z <<< 1=2*z:=fun z=>by rw[Xl];omega
 rw[e,e,e]at h
 exact h
def b2Y {a:Nat}(h:a<32768):32768<=2*a↔a.testBit 14=true:=by
 rw[Y4,decide_eq_true_iff]
 show _↔a / 16384 % 2=1
 omega
def a7E {a:Nat}(h:a<32768):nx a=2*a ^^^ (if a.testBit 14=true then 64647 else 0):=by
 unfold nx
 by_cases c:a.testBit 14=true
 ·rw[if_pos c,if_pos ((b2Y h).mpr c)]
 ·rw[if_neg c,if_neg fun z=>c ((b2Y h).mp z),Jr]
def a7C {a b:Nat}(ha:a<32768)(hb:b<32768):nx (a ^^^ b)=nx a ^^^ nx b:=by
 have hab:a ^^^ b<32768:=X3 (n:=15) ha hb
 rw[a7E ha,a7E hb,a7E hab,Cl.xor4,a9R,XY]
 cases a.testBit 14 <;> cases b.testBit 14 <;> rfl
def tm (n k:Nat):Nat:=if n.testBit k then rr k else 0
def R (n:Nat):Nat:=Cl.xs 600 (tm n)
def b2Z (n k:Nat):tm n k<32768:=by unfold tm;split;exact b3H k;decide
def c2J (n:Nat):R n<32768:=Cl.xs_lt (m:=15) fun k _=>b2Z n k
def c0I (a b:Nat):R (a ^^^ b)=R a ^^^ R b:=by
 unfold R
 rw[<-Cl.xs_xor]
 refine Cl.xs_congr fun k _=>?_
 unfold tm
 rw[XY]
 cases a.testBit k <;> cases b.testBit k <;> simp
def b7N:R 0=0:=Cl.xs_zero fun k _=>by unfold tm;rw[Nat.zero_testBit];rfl
def a6G:∀k,k<15->rr k=1 <<< k:=by decide
def pN {r:Nat}(h:r<32768):R r=r:=by
 unfold R
 have e:Cl.xs 600 (tm r)=Cl.xs 15 (tm r):=Cl.xs_more (by decide) fun k h1 _=>by
  unfold tm
  rw[Xd (Yf h (YA (n:=2) (i:=15) (by decide) h1))];rfl
 rw[e]
 have s:=Cl.self (n:=15) h
 conv=>rhs;rw[s]
 refine Cl.xs_congr fun k hk=>?_
 unfold tm
 rw[a6G k hk]
def b8X {n:Nat}{f:Nat->Nat}(h:∀k,f k<32768):nx (Cl.xs n f)=Cl.xs n fun k=>nx (f k):=by
 induction n with
 |zero=>exact tY
 | succ n ih=>
  show nx (Cl.xs n f ^^^ f n)=_ ^^^ _
  rw[a7C (Cl.xs_lt (m:=15) fun k _=>h k) (h n),ih]
def a4H {n:Nat}{f:Nat->Nat}:Cl.xs (n+1) f=f 0 ^^^ Cl.xs n fun k=>f (k+1):=by
 induction n with
 |zero=>show 0 ^^^ f 0=f 0 ^^^ 0;rw[Nat.zero_xor,Jr]
 | succ n ih=>
  show Cl.xs (n+1) f ^^^ f (n+1)=f 0 ^^^ (Cl.xs n (fun k=>f (k+1)) ^^^ f (n+1))
  rw[ih,XW]
def tb2 (n b k:Nat)(hb:b<2):(2*n+b).testBit (k+1)=n.testBit k:=by
 rw[XG]
 congr 1;omega
def c0S (n b:Nat)(hb:b<2):(2*n+b).testBit 0=decide (b=1):=by
 rw[Nat.testBit_zero]
 congr 1
 have:(2*n+b) % 2=b:=by omega
 rw[this]
def a0A {n b:Nat}(hn:n<2 ^ 599)(hb:b<2):R (2*n+b)=nx (R n) ^^^ b:=by
 unfold R
 have e:Cl.xs 600 (tm n)=Cl.xs 599 (tm n):=Cl.xs_more (by decide) fun k h1 _=>by
  unfold tm
  rw[Xd (Yf hn (YA (by decide) h1))];rfl
 rw[e,b8X (b2Z n),a4H,Nat.xor_comm]
 congr 1
 ·refine Cl.xs_congr fun k _=>?_
  unfold tm
  rw[tb2 n b k hb]
  cases n.testBit k
  ·exact tY.symm
  ·rfl
 ·unfold tm
  rw[c0S n b hb]
  have:b=0\/b=1:=by omega
  rcases this with rfl | rfl <;> rfl
def c0J {n:Nat}(hn:n<2 ^ 599):R (2*n)=nx (R n):=by
 have:=a0A hn (b:=0) (by decide)
 rwa [Nat.add_zero,Jr]at this
def c0K:∀p,p<=500->R (64647 <<< p)=0:=by
 intro p
 induction p with
 | zero=>
  intro _
  have e:(64647:Nat) <<< 0=2*32323+1:=by decide
  rw[e,a0A (Yf (m:=2 ^ 15) (by decide) (YA (by decide) (by decide))) (by decide),pN (by decide)]
  decide
 | succ p ih=>
  intro hp
  have e:(64647:Nat) <<< (p+1)=2*64647 <<< p:=by rw[Xl,Xl,XJ];omega
  rw[e,c0J,ih (by omega)]
  ·exact tY
  ·rw[Xl]
   have:(64647:Nat)*2 ^ p<2 ^ 16*2 ^ p:=Nat.mul_lt_mul_of_pos_right (by decide) (X0 p)
   rw[<-Nat.pow_add]at this
   exact Yf this (YA (by decide) (by omega))
def a9G {r p:Nat}(hp:p<=500):R (r ^^^ 64647 <<< p)=R r:=by
 rw[c0I,c0K p hp,Jr]
def nm (bs:List Int):Nat:=(jJ bs).toNat
def pC {bs:List Int}(h:bN bs):((nm bs:Nat):Int)=jJ bs:=Int.toNat_of_nonneg (tZ h).1
def lK {bs:List Int}(h:bN bs):nm bs<2 ^ bs.length:=by
 have h1:=(tZ h).2
 have h2:=pC h
 have:((nm bs:Nat):Int)<((2 ^ bs.length:Nat):Int):=by rw[h2];simpa using h1
 exact_mod_cast this
def mJ {bs:List Int}{b:Int}(h:bN bs)(hb:b=0\/b=1):nm (bs++[b])=2*nm bs+b.toNat:=by
 have h1:=pC h
 have h2:bN (bs++[b]):=fun z hz=>by
  rcases Yy.mp hz with q | q
  ·exact h z q
  ·rw[Yi.mp q];exact hb
 have h3:=pC h2
 rw[oE]at h3
 rcases hb with rfl | rfl <;> (simp only[Int.toNat_zero,Int.toNat_one];omega)
def rst (bs:List Int):Nat:=R (nm bs)
def yN (bs:List Int):rst bs<32768:=c2J _
def b0U:rst []=0:=b7N
def a6F {bs:List Int}{b:Int}(h:bN bs)(hl:bs.length<=500)(hb:b=0\/b=1):rst (bs++[b])=nx (rst bs) ^^^ b.toNat:=by
 unfold rst
 rw[mJ h hb]
 refine a0A (Yf (lK h) (YA (by decide) (by omega))) ?_
 rcases hb with rfl | rfl <;> decide
def stp (r:Nat)(b:Int):Nat:=nx r ^^^ b.toNat
def nxn:Nat->Nat->Nat
 |0,d=>d
 |n+1,d=>nxn n (nx d)
def b7H {b:Int}(h:b=0\/b=1):b.toNat<32768:=by rcases h with rfl | rfl <;> decide
def b4I {r:Nat}{b:Int}(hr:r<32768)(hb:b=0\/b=1):stp r b<32768:=X3 (n:=15) (a7D hr) (b7H hb)
def pY {bs:List Int}(h:bN bs)(hl:bs.length<=500):rst bs=bs.foldl stp 0:=by
 have key:∀k,k<=bs.length->rst (bs.take k)=(bs.take k).foldl stp 0:=by
  intro k
  induction k with
  |zero=>intro _;exact b0U
  | succ k ih=>
   intro hk
   have ht:bN (bs.take k):=fun b hb=>h b (Xz hb)
   rw[Yh (by omega),Xr,<-ih (by omega),a6F ht (by rw[Yu];omega) (h _ (YN _))]
   rfl
 have:=key bs.length (Yd _)
 rwa [Yl (Yd _)]at this
theorem wX:∀(suf:List Int),bN suf->∀r d,r<32768->d<32768->suf.foldl stp (r ^^^ d)=suf.foldl stp r ^^^ nxn suf.length d
 |[],_,_,_,_,_=>rfl
 | b ::s,h,r,d,hr,hd=>by
  have hb:=h b Yq
  rw[XX,XX]
  have e:stp (r ^^^ d) b=stp r b ^^^ nx d:=by
   unfold stp
   rw[a7C hr hd,XW,Nat.xor_comm (nx d),<-XW]
  rw[e,wX s (fun z hz=>h z (Yw _ hz)) _ _ (b4I hr hb) (a7D hd)]
  rfl
end Rm
namespace Wm
open Bm Rn
abbrev S:=Option Int×Nat
def skp (s:S)(b:Int):S:=(some b,if s.1=some b then s.2+1 else 1)
def sk (w:List Int):S:=w.foldl skp (none,0)
def run (w:List Int):Nat:=(sk w).2
def kJ (w:List Int)(b:Int):sk (w++[b])=skp (sk w) b:=by unfold sk;rw[Xr];rfl
def fY (w:List Int)(b:Int):run (w++[b])=if (sk w).1=some b then run w+1 else 1:=by unfold run;rw[kJ];rfl
def kZ (w:List Int)(b:Int):(sk (w++[b])).1=some b:=by rw[kJ];rfl
def snoc_ind {P:List Int->Prop}(h0:P [])(hs:∀w b,P w->P (w++[b]))(w:List Int):P w:=by
 have :∀n,∀w:List Int,w.length=n->P w:=by
  intro n
  induction n with
  |zero=>intro w hw;rw[List.eq_nil_of_length_eq_zero hw];exact h0
  | succ n ih=>
   intro w hw
   have hne:w≠ []:=fun z=>by rw[z]at hw;cases hw
   rw[<-List.dropLast_concat_getLast hne]
   exact hs _ _ (ih _ (by rw[List.length_dropLast,hw];rfl))
 exact this _ w rfl
def a6E (w:List Int):run w<=w.length:=by
 refine snoc_ind (P:=fun w=>run w<=w.length) (Yd _) (fun w b ih=>?_) w
 rw[fY,Yb,Yv]
 split <;> omega
def last_eq (w:List Int)(h:0<w.length):(sk w).1=some (w.getD (w.length-1) 0):=by
 have hne:w≠ []:=fun z=>by rw[z]at h;cases h
 conv=>lhs;rw[<-List.dropLast_concat_getLast hne]
 rw[kZ,Ye,Yc (by omega),List.getLast_eq_getElem];rfl
def b0T (w:List Int):∀n,1<=n->n<=w.length->(n<=run w↔Win w (w.length-n) n):=by
 refine snoc_ind (P:=fun w=>∀n,1<=n->n<=w.length->(n<=run w↔Win w (w.length-n) n)) (fun n h1 h2=>absurd h2 (by simp;omega)) (fun w b ih n h1 h2=>?_) w
 rw[Yb,Yv]at h2 ⊢
 have gl:∀i,i<w.length->(w++[b]).getD i 0=w.getD i 0:=fun i hi=>by
  rw[Ye,Ye,YL hi]
 have gr:(w++[b]).getD w.length 0=b:=by
  rw[Ye,YF (Yd _),XM];rfl
 rw[fY]
 by_cases hn:n=1
 ·subst hn
  refine iff_of_true (by split <;> omega) ⟨by rw[Yb,Yv];omega,fun i j a1 a2 a3 a4=>?_⟩
  have:i=j:=by omega
  rw[this]
 have hw:0<w.length:=by omega
 have ih':=ih (n-1) (by omega) (by omega)
 have hl:=last_eq w hw
 constructor
 ·intro h
  by_cases c:(sk w).1=some b
  ·rw [if_pos c]at h
   have hb:w.getD (w.length-1) 0=b:=by rw[hl]at c;exact Yp c
   have W:=ih'.mp (by omega)
   refine⟨by rw[Yb,Yv];omega,?_⟩
   have key:∀i,w.length+1-n<=i->i<w.length+1-n+n->(w++[b]).getD i 0=b:=fun i a1 a2=>by
    by_cases hi:i<w.length
    ·rw[gl i hi,<-hb]
     exact W.2 i (w.length-1) (by omega) (by omega) (by omega) (by omega)
    ·have:i=w.length:=by omega
     rw[this,gr]
   intro i j a1 a2 a3 a4
   rw[key i a1 a2,key j a3 a4]
  ·rw[if_neg c]at h;omega
 ·intro W
  have e1:=W.2 (w.length-1) w.length (by omega) (by omega) (by omega) (by omega)
  rw[gl _ (by omega),gr]at e1
  have c:(sk w).1=some b:=by rw[hl,e1]
  rw[if_pos c]
  have:=ih'.mpr ⟨by omega,fun i j a1 a2 a3 a4=>by
   have:=W.2 i j (by omega) (by omega) (by omega) (by omega)
   rwa [gl i (by omega),gl j (by omega)]at this⟩
  omega
def a4I {w:List Int}{k a n:Nat}(h:a+n<=k)(hk:k<=w.length):Win (w.take k) a n↔Win w a n:=by
 have e:∀i,i<k->(w.take k).getD i 0=w.getD i 0:=fun i hi=>by
  rw[Ye,Ye,XA hi]
 constructor
 ·intro W
  exact⟨by omega,fun i j a1 a2 a3 a4=>by rw[<-e i (by omega),<-e j (by omega)];exact W.2 i j a1 a2 a3 a4⟩
 ·intro W
  exact⟨by rw[Yu];omega,fun i j a1 a2 a3 a4=>by rw[e i (by omega),e j (by omega)];exact W.2 i j a1 a2 a3 a4⟩
def a9X {w:List Int}(hb:bN w){n k:Nat}(hn:0<n)(h1:n<=k)(hk:k<=w.length):((w.drop (k-n)).take n).sum % (n:Int)=0↔n<=run (w.take k):=by
 have hl:(w.take k).length=k:=by rw[Yu];omega
 rw[a9O hb hn (by omega),b0T (w.take k) n hn (by omega),hl]
 exact(a4I (by omega) hk).symm
def pst (w:List Int)(b:Int):List Int:=if run (w++[b])=5 then w++[b]++[1-b] else w++[b]
def put (l:List Int):List Int:=l.foldl pst []
def fZ (l:List Int)(b:Int):put (l++[b])=pst (put l) b:=by unfold put;rw[Xr];rfl
def uA (b:Int):¬ (some b:Option Int)=some (1-b):=fun z=>by have:=Yp z;omega
def b1A {w:List Int}{b:Int}(h:run w<=4):run (pst w b)<=4:=by
 unfold pst
 by_cases c:run (w++[b])=5
 ·rw[if_pos c,fY,kZ,if_neg (uA b)];omega
 ·rw[if_neg c]
  rw[fY]at c ⊢
  split at c <;> rename_i z
  ·rw[if_pos z];omega
  ·rw[if_neg z];omega
def mF (l:List Int):run (put l)<=4:=snoc_ind (P:=fun l=>run (put l)<=4) (by decide) (fun w b ih=>by rw[fZ];exact b1A ih) l
def vX {l:List Int}(h:bN l):bN (put l):=by
 have : ∀ k,k<=l.length->bN (put (l.take k)):=by
  intro k
  induction k with
  |zero=>intro _ z hz;rw[Jb]at hz;cases hz
  | succ k ih=>
   intro hk
   have hb:=h _ (YN (show k<l.length by omega))
   have hi:=ih (by omega)
   rw[Yh (by omega),fZ]
   intro z hz
   unfold pst at hz
   split at hz
   ·rcases Yy.mp hz with q | q
    ·rcases Yy.mp q with q | q
     ·exact hi z q
     ·rw[Yi.mp q];exact hb
    ·rw[Yi.mp q];omega
   ·rcases Yy.mp hz with q | q
    ·exact hi z q
    ·rw[Yi.mp q];exact hb
 have:=this l.length (Yd _)
 rwa [Yl (Yd _)]at this
def b1B (w:List Int)(b:Int):w.length+1<=(pst w b).length/\(pst w b).length<=w.length+2:=by
 unfold pst
 split <;> simp
def mG (l:List Int):l.length<=(put l).length/\(put l).length<=2*l.length:=by
 refine snoc_ind (P:=fun l=>l.length<=(put l).length/\(put l).length<=2*l.length) ⟨Yd _,Yd _⟩ (fun w b ih=>?_) l
 have:=b1B (put w) b
 rw[fZ,Yb,Yv]
 omega
def kst (s:S×List Int)(b:Int):S×List Int:=(skp s.1 b,if s.1.2=5 then s.2 else s.2++[b])
def kp (w:List Int):List Int:=(w.foldl kst ((none,0), [])).2
def b1V (w:List Int):(w.foldl kst ((none,0), [])).1=sk w:=by
 refine snoc_ind (P:=fun w=>(w.foldl kst ((none,0), [])).1=sk w) rfl (fun w b ih=>?_) w
 rw[Xr,kJ,<-ih];rfl
def gB (w:List Int)(b:Int):kp (w++[b])=if run w=5 then kp w else kp w++[b]:=by
 unfold kp run
 rw[Xr,<-b1V];rfl
def b6C:kp []= []:=rfl
def Good (w:List Int):Prop:=∀k,k<=w.length->run (w.take k)<=5
def Good.snoc {w:List Int}{b:Int}(h:Good w)(h5:run (w++[b])<=5):Good (w++[b]):=fun k hk=>by
 rw[Yb,Yv]at hk
 by_cases c:k<=w.length
 ·rw[Y8 c];exact h k c
 ·rw[Yl (by rw[Yb,Yv];omega)];exact h5
def pX {w:List Int}{b:Int}:run (w++[b])<=run w+1:=by rw[fY];split <;> omega
def a6L (l:List Int):Good (put l):=by
 refine snoc_ind (P:=fun l=>Good (put l)) (fun k hk=>?_) (fun w b ih=>?_) l
 ·have:k=0:=Nat.le_zero.mp hk
  subst this;decide
 ·rw [fZ]
  have h4:=mF w
  have h1:run (put w++[b])<=5:=Y1 pX (by omega)
  unfold pst
  split
  ·rename_i c
   refine(ih.snoc h1).snoc ?_
   rw[fY,kZ,if_neg (uA b)];omega
  ·exact ih.snoc h1
def a7W (l:List Int):kp (put l)=l:=by
 refine snoc_ind (P:=fun l=>kp (put l)=l) rfl (fun w b ih=>?_) l
 rw[fZ]
 have h4:=mF w
 have e1:kp (put w++[b])=w++[b]:=by rw[gB,if_neg (by omega),ih]
 unfold pst
 split
 ·rename_i c
  rw[gB,if_pos c,e1]
 ·exact e1
def a6J {w:List Int}(hb:bN w)(hg:Good w):put (kp w)=if run w=5 then w++[1-w.getD (w.length-1) 0] else w:=by
 have : ∀ k,k<=w.length->put (kp (w.take k))=if run (w.take k)=5 then w.take k++[1-w.getD (k-1) 0] else w.take k:=by
  intro k
  induction k with
  |zero=>intro _;rfl
  | succ k ih=>
   intro hk
   have hlt:k<w.length:=by omega
   have hbk:=hb _ (YN hlt)
   have gk:w.getD (k+1-1) 0=w[k]:=by rw[Nat.add_sub_cancel,Ye,Yc hlt];rfl
   have ih':=ih (by omega)
   have h5:=hg (k+1) hk
   rw[Yh hlt]at h5 ⊢
   rw[gB,gk]
   by_cases c:run (w.take k)=5
   ·rw [if_pos c,ih',if_pos c]
    have hk0:0<k:=by
     have:=a6E (w.take k)
     rw[Yu]at this
     omega
    have hl:(w.take k).length=k:=by rw[Yu];omega
    have l1:=last_eq (w.take k) (by omega)
    have e2:(w.take k).getD (k-1) 0=w.getD (k-1) 0:=by
     rw[Ye,Ye,XA (by omega)]
    rw[hl,e2]at l1
    have hne:¬ (sk (w.take k)).1=some w[k]:=fun z=>by
     rw[fY,if_pos z,c]at h5;omega
    have hlb:w.getD (k-1) 0=0\/w.getD (k-1) 0=1:=by
     rw[Ye,Yc (show k-1<w.length by omega)]
     exact hb _ (YN _)
    have e3:1-w.getD (k-1) 0=w[k]:=by
     have:¬ w.getD (k-1) 0=w[k]:=fun z=>hne (by rw[l1,z])
     omega
    rw[e3,if_neg]
    rw[fY,if_neg hne];decide
   ·rw[if_neg c,fZ,ih',if_neg c]
    unfold pst
    split <;> rfl
 have h:=this w.length (Yd _)
 rwa [Yl (Yd _)]at h
def uC {w:List Int}(hb:bN w):bN (kp w):=by
 have : ∀k,k<=w.length->bN (kp (w.take k)):=by
  intro k
  induction k with
  |zero=>intro _ z hz;rw[Jb,b6C]at hz;cases hz
  | succ k ih=>
   intro hk z hz
   have hi:=ih (by omega)
   rw[Yh (show k<w.length by omega),gB]at hz
   split at hz
   ·exact hi z hz
   ·rcases Yy.mp hz with q | q
    ·exact hi z q
    ·rw[Yi.mp q];exact hb _ (YN _)
 have h:=this w.length (Yd _)
 rwa [Yl (Yd _)]at h
def yU (w:List Int):(kp w).length<=w.length:=by
 refine snoc_ind (P:=fun w=>(kp w).length<=w.length) (Yd _) (fun w b ih=>?_) w
 rw[gB,Yb,Yv]
 split
 ·omega
 ·rw[Yb,Yv];omega
end Wm
namespace Rm
open Bm
def a7J {cs:List Int}(h:bN cs)(hl:cs.length<=15):nm cs<32768:=Yf (lK h) (YA (n:=2) (j:=15) (by decide) hl)
def a2S {cs:List Int}(h:bN cs)(hl:cs.length<=15):rst cs=nm cs:=pN (a7J h hl)
def gG {as bs:List Int}(ha:bN as)(hb:bN bs):bN (as++bs):=fun z hz=>(Yy.mp hz).elim (ha z) (hb z)
def a0N {bs cs:List Int}(h:bN bs)(hc:bN cs)(hl:bs.length+cs.length<=500)(h15:cs.length<=15):rst (bs++cs)=nm cs ^^^ nxn cs.length (rst bs):=by
 rw[pY (gG h hc) (by rw[Yb];exact hl),Xr,<-pY h (by omega)]
 have:=wX cs hc 0 (rst bs) (by decide) (yN bs)
 rw[Nat.zero_xor,<-pY hc (by omega),a2S hc h15]at this
 exact this
def zs (n:Nat):List Int:=List.replicate n 0
def tH (n:Nat):bN (zs n):=fun b hb=> .inl (Xn hb)
def b3K:∀n,nm (zs n)=0:=by
 intro n
 have:∀n,jJ (zs n)=0:=fun n=>by
  induction n with
  |zero=>rfl
  |succ n ih=>unfold zs;rw[Xb,rW];show 0*_+jJ (zs n)=0;rw[ih];simp
 unfold nm;rw[this];rfl
def ckn (bs:List Int):Nat:=rst (bs++zs 15)
def a9B (bs:List Int):ckn bs<32768:=yN _
def ck (bs:List Int):List Int:=bM (ckn bs) 15
def gA {n m:Nat}(h:n<2 ^ m):nm (bM n m)=n:=by unfold nm;rw[a7G h];rfl
def yO {bs cs:List Int}(h:bN bs)(hc:bN cs)(hl:bs.length<=400)(h15:cs.length=15):rst (bs++cs)=nm cs ^^^ ckn bs:=by
 rw[a0N h hc (by omega) (by omega)]
 unfold ckn
 rw[a0N h (tH 15) (by unfold zs;rw[Yz];omega) (by unfold zs;rw[Yz];exact Yd _),b3K,Nat.zero_xor,h15]
 unfold zs
 rw[Yz]
def b4U {bs:List Int}(h:bN bs)(hl:bs.length<=400):rst (bs++ck bs)=0:=by
 unfold ck
 rw[yO h (gK _ _) hl (bZ _ _),gA (m:=15) (a9B bs),Nat.xor_self]
end Rm
namespace Wm
open L2 Bm Rn
def a6K (l:List Int):(put l).head? =l.head?:=snoc_ind (P:=fun l=>(put l).head? =l.head?) rfl (fun w b ih=>by
 rw[fZ]
 unfold pst
 split
 ·rw[Xf,Xf,Xf,ih]
  cases w.head? <;> rfl
 ·rw[Xf,Xf,ih]) l
def b1W (w:List Int):(kp w).head? =w.head?:=snoc_ind (P:=fun w=>(kp w).head? =w.head?) rfl (fun w b ih=>by
 rw[gB]
 split
 ·rename_i h
  rw[ih,Xf]
  cases w with
  |nil=>exact absurd h (by decide)
  |cons x r=>rfl
 ·rw[Xf,Xf,ih]) w
def a3N {l:List Int}{x:Int}(h:l.head? =some x):l.getD 0 0=x:=by
 cases l with
 |nil=>cases h
 |cons y r=>exact Yp h
end Wm
namespace Wm
open Bm Rn Rm
end Wm
namespace Wm
open Bm
def a0R (w:List Int)(b:Int):∃s,pst w b=w++b::s:=by
 unfold pst
 split
 ·exact⟨[1-b],by rw[YB];rfl⟩
 ·exact⟨[],rfl⟩
theorem wY:∀(r w:List Int),∃s,r.foldl pst w=w++s
 |[],w=>⟨[],by rw[YQ];rfl⟩
 | b::r,w=>by
  obtain⟨s,hs⟩:=a0R w b
  obtain⟨t,ht⟩:=wY r (pst w b)
  refine⟨b::s++t,?_⟩
  show r.foldl pst (pst w b)=_
  rw[ht,hs,YB]
def put_pre (l:List Int)(b:Int)(r:List Int):∃s,put (l++b::r)=put l++b::s:=by
 obtain⟨s,hs⟩:=a0R (put l) b
 obtain⟨t,ht⟩:=wY r (pst (put l) b)
 refine⟨s++t,?_⟩
 unfold put at hs ht ⊢
 rw[Xr]
 show r.foldl pst (pst (l.foldl pst []) b)=_
 rw[ht,hs,YB]
 rfl
def bitsI_split {n1 n2 s:Nat}(hs:s<8)(h:∀j,s<j->n1.testBit j=n2.testBit j)(h1:n1.testBit s=true)(h2:n2.testBit s=false):∃c t1 t2:List Int,bM n1 8=c++1::t1/\bM n2 8=c++0::t2/\c.length=7-s:=by
 have e:∀n:Nat,bM n 8=((List.range (7-s)).map fun i=>fJ n (7-i))++fJ n s::((List.range s).map fun i=>fJ n (s-1-i)):=by
  intro n
  unfold bM
  have e8:List.range 8=List.range (7-s)++(7-s)::((List.range s).map fun i=>8-s+i):=by
   have:∀s,s<8->List.range 8=List.range (7-s)++(7-s)::((List.range s).map fun i=>8-s+i):=by decide
   exact this s hs
  rw[e8,Yj,YR,List.map_map]
  refine congr (YT _ rfl) (congr (YT _ ?_) (XC fun i hi=>?_))
  ·show fJ n (8-1-(7-s))=fJ n s
   rw[show 8-1-(7-s)=s by omega]
  ·show fJ n (8-1-(8-s+i))=fJ n (s-1-i)
   have:=Xo.mp hi
   rw[show 8-1-(8-s+i)=s-1-i by omega]
 have b1:fJ n1 s=1:=by unfold fJ;rw[h1];rfl
 have b2:fJ n2 s=0:=by unfold fJ;rw[h2];rfl
 refine⟨(List.range (7-s)).map fun i=>fJ n1 (7-i),(List.range s).map fun i=>fJ n1 (s-1-i),(List.range s).map fun i=>fJ n2 (s-1-i),(e n1).trans (by rw[b1]),(e n2).trans ?_,by rw[Ya,YC]⟩
 rw[b2]
 refine YT (·++_) (XC fun i hi=>?_)
 have hi':=Xo.mp hi
 unfold fJ
 rw[h (7-i) (by omega)]
end Wm
namespace Wm
open Bm Rn Rm
def qG {a:List Int}(ha:bN a):∀{b:List Int},bN b->nm (a++b)=2 ^ b.length*nm a+nm b:=by
 intro b
 refine snoc_ind (P:=fun b=>bN b->nm (a++b)=2 ^ b.length*nm a+nm b) (fun _=>by rw[YQ];show nm a=1*nm a+0;omega) (fun l x ih h=>?_) b
 have hl:bN l:=fun z hz=>h z (Xp _ hz)
 have hx:x=0\/x=1:=h x (by simp)
 rw[<-YB,mJ (gG ha hl) hx,mJ hl hx,ih hl,Yb,Yv,XJ,Nat.mul_add,Nat.mul_comm (2 ^ l.length) 2,Nat.mul_assoc]
 omega
def b5S:∀{a b:List Int},bN a->bN b->a.length=b.length->nm a=nm b->a=b:=by
 intro a
 refine snoc_ind (P:=fun a=>∀{b:List Int},bN a->bN b->a.length=b.length->nm a=nm b->a=b) (fun {b} _ _ hl _=>(List.eq_nil_of_length_eq_zero hl.symm).symm) (fun l x ih {b} ha hb hl e=>?_) a
 have hne:b≠ []:=fun z=>by rw[z,Yb]at hl;simp at hl
 obtain⟨m,y,rfl⟩:∃m y,b=m++[y]:=⟨b.dropLast,b.getLast hne,(List.dropLast_concat_getLast hne).symm⟩
 have h1:bN l:=fun z hz=>ha z (Xp _ hz)
 have h2:bN m:=fun z hz=>hb z (Xp _ hz)
 have hx:x=0\/x=1:=ha x (by simp)
 have hy:y=0\/y=1:=hb y (by simp)
 rw[mJ h1 hx,mJ h2 hy]at e
 rw[Yb,Yb]at hl
 have e2:x=y/\nm l=nm m:=by rcases hx with rfl | rfl <;> rcases hy with rfl | rfl <;> simp at e <;> omega
 rw[e2.1,ih h1 h2 (by simpa using hl) e2.2]
def a9E {c:List Int}(h:bN c):bM (nm c) c.length=c:=b5S (gK _ _) h (bZ _ _) (gA (lK h))
end Wm
namespace My
open PySem L2
variable {H:Hp}{p:Addr}{H':Hp}{a:Addr}{v:Nat}{n:Nat}{x:Addr}{C:Addr}{dx:Addr}{fs:List (Nat×Nat×List Int)}{m:Nat}{i:Nat}{bs:List Int}{xs:List (List Int)}{ys:List V}{w:List Int}{CK:Addr}{r:Addr}{st:Addr}{ks:Addr}{t:Addr}{ds:List Int}{l:List Int}{j:Nat}{k:Nat}{b:Int}{C1:Addr}{C2:Addr}{s:Nat}{K:W.Frag}{vs:List V}{H1:Hp}{f:Nat×Nat×List Int}{h:List Int}{nwf:Addr}{wl:Addr}{ul:Addr}{ct:Value}{ws:List V}{us:List V}{nw:Addr}{H0:Hp}{nw':Addr}{y:List Int}{c:Addr×HO}{dp:Addr}{ps:List Str}{L:List (Addr×HO)}{e:Nat}{v':HO}{as:List Addr}{L1:List (Addr×HO)}{mg:Str->Option Value}{cd:Value}{P:Addr}{d:FuncData}{oc:Value}{kV:Value}{dc:Value}{pm:Value}{od:Option Addr}{an:Option Addr}{sl:Array (Option Value)}{q:Nat}{vt:Nat}{n1:Nat}{ds1:List Int}{wd:Nat->Nat->Str}{N:Nat}{α:Type}{kk:Nat->Nat}{es:List (Nat×Nat×Str)}{rl:Addr}{ev:Addr}{ras:List Addr}{ts:Nat->List Addr}
def top (i:Nat):Stmt:=PySem.Challenge.pw_bitrail_k92_whole_row_of_the_rail.main.body.getD i (.Pass ⟨0,0,0,0⟩)
def aN (s:Stmt):List Stmt:=match s with | .ClassDef _ _ _ b _ _ _ _ _ _ _=>b | _=>[]
abbrev Zja:Stmt:=top 82
abbrev Zim:Stmt:=(aN (top 27)).getD 0 (.Pass ⟨0,0,0,0⟩)
abbrev ZfN:Stmt:=(aN (top 27)).getD 1 (.Pass ⟨0,0,0,0⟩)
abbrev Zgp:Stmt:=(aN (top 27)).getD 2 (.Pass ⟨0,0,0,0⟩)
abbrev ZeO:Stmt:=(aN (top 27)).getD 3 (.Pass ⟨0,0,0,0⟩)
abbrev Zk8:Stmt:=top 10
abbrev Zj2:Stmt:=top 11
abbrev Zj0:Stmt:=top 12
abbrev Zk9:Stmt:=top 14
abbrev Zlb:Stmt:=top 18
abbrev ZkE:Stmt:=top 19
abbrev Zla:Stmt:=top 23
abbrev Zl5:Stmt:=top 28
abbrev Zip:Stmt:=top 35
abbrev Zi9:Stmt:=top 36
abbrev Zlc:Stmt:=top 40
abbrev Zj3:Stmt:=top 38
abbrev Zir:Stmt:=top 37
abbrev Zjb:Stmt:=top 39
abbrev Zii:Stmt:=(aN (top 48)).getD 0 (.Pass ⟨0,0,0,0⟩)
abbrev ZgC:Stmt:=(aN (top 48)).getD 2 (.Pass ⟨0,0,0,0⟩)
abbrev Zih:Stmt:=(aN (top 48)).getD 1 (.Pass ⟨0,0,0,0⟩)
abbrev Zhv:Stmt:=(aN (top 48)).getD 3 (.Pass ⟨0,0,0,0⟩)
abbrev Zhu:Stmt:=(aN (top 48)).getD 4 (.Pass ⟨0,0,0,0⟩)
abbrev ZjT:Stmt:=(aN (top 52)).getD 0 (.Pass ⟨0,0,0,0⟩)
abbrev ZjU:Stmt:=(aN (top 52)).getD 1 (.Pass ⟨0,0,0,0⟩)
abbrev ZgD:Stmt:=(aN (top 52)).getD 3 (.Pass ⟨0,0,0,0⟩)
abbrev Zfm:Stmt:=(aN (top 52)).getD 4 (.Pass ⟨0,0,0,0⟩)
abbrev ZjS:Stmt:=(aN (top 52)).getD 2 (.Pass ⟨0,0,0,0⟩)
abbrev ZgB:Stmt:=(aN (top 53)).getD 0 (.Pass ⟨0,0,0,0⟩)
abbrev Zgo:Stmt:=(aN (top 54)).getD 0 (.Pass ⟨0,0,0,0⟩)
abbrev ZiX:Stmt:=(aN (top 46)).getD 0 (.Pass ⟨0,0,0,0⟩)
abbrev Zgl:Stmt:=(aN (top 46)).getD 6 (.Pass ⟨0,0,0,0⟩)
abbrev Zhq:Stmt:=(aN (top 46)).getD 7 (.Pass ⟨0,0,0,0⟩)
abbrev Zhr:Stmt:=(aN (top 46)).getD 5 (.Pass ⟨0,0,0,0⟩)
abbrev ZiY:Stmt:=(aN (top 46)).getD 4 (.Pass ⟨0,0,0,0⟩)
abbrev Zh9:Stmt:=(aN (top 46)).getD 1 (.Pass ⟨0,0,0,0⟩)
abbrev Zh8:Stmt:=(aN (top 46)).getD 2 (.Pass ⟨0,0,0,0⟩)
abbrev ZiW:Stmt:=(aN (top 46)).getD 3 (.Pass ⟨0,0,0,0⟩)
abbrev Zhz:Stmt:=top 60
abbrev ZjH:Stmt:=(aN (top 65)).getD 0 (.Pass ⟨0,0,0,0⟩)
abbrev Zij:Stmt:=(aN (top 66)).getD 0 (.Pass ⟨0,0,0,0⟩)
abbrev Zi3:Stmt:=(aN (top 67)).getD 0 (.Pass ⟨0,0,0,0⟩)
abbrev Zia:Stmt:=(aN (top 68)).getD 0 (.Pass ⟨0,0,0,0⟩)
abbrev Zgx:Stmt:=(aN (top 69)).getD 0 (.Pass ⟨0,0,0,0⟩)
abbrev Zhw:Stmt:=(aN (top 70)).getD 0 (.Pass ⟨0,0,0,0⟩)
abbrev Zi6:Stmt:=(aN (top 71)).getD 0 (.Pass ⟨0,0,0,0⟩)
abbrev ZgA:Stmt:=(aN (top 78)).getD 8 (.Pass ⟨0,0,0,0⟩)
abbrev Zie:Stmt:=(aN (top 78)).getD 9 (.Pass ⟨0,0,0,0⟩)
abbrev Zid:Stmt:=(aN (top 78)).getD 7 (.Pass ⟨0,0,0,0⟩)
abbrev Zgm:Stmt:=(aN (top 78)).getD 10 (.Pass ⟨0,0,0,0⟩)
abbrev ZeN:Stmt:=(aN (top 78)).getD 11 (.Pass ⟨0,0,0,0⟩)
abbrev ZeM:Stmt:=(aN (top 78)).getD 12 (.Pass ⟨0,0,0,0⟩)
abbrev Zj1:Stmt:=top 24
abbrev Zhs:Stmt:=(aN (top 78)).getD 13 (.Pass ⟨0,0,0,0⟩)
abbrev ZjK:Stmt:=(aN (top 78)).getD 1 (.Pass ⟨0,0,0,0⟩)
abbrev Zl4:Stmt:=top 77
abbrev ZiZ:Stmt:=(aN (top 78)).getD 5 (.Pass ⟨0,0,0,0⟩)
abbrev Zjd:Stmt:=top 61
abbrev ZkF:Stmt:=top 62
abbrev Zjc:Stmt:=top 63
abbrev ZkD:Stmt:=top 64
abbrev Ziq:Stmt:=top 75
abbrev ZhA:Stmt:=top 76
abbrev ZjM:Stmt:=(aN (top 78)).getD 0 (.Pass ⟨0,0,0,0⟩)
abbrev ZjI:Stmt:=(aN (top 65)).getD 2 (.Pass ⟨0,0,0,0⟩)
abbrev Zik:Stmt:=(aN (top 66)).getD 2 (.Pass ⟨0,0,0,0⟩)
abbrev Zi4:Stmt:=(aN (top 67)).getD 2 (.Pass ⟨0,0,0,0⟩)
abbrev Zib:Stmt:=(aN (top 68)).getD 2 (.Pass ⟨0,0,0,0⟩)
abbrev Zgy:Stmt:=(aN (top 69)).getD 2 (.Pass ⟨0,0,0,0⟩)
abbrev Zhx:Stmt:=(aN (top 70)).getD 2 (.Pass ⟨0,0,0,0⟩)
abbrev Zi7:Stmt:=(aN (top 71)).getD 2 (.Pass ⟨0,0,0,0⟩)
abbrev Zkz:Stmt:=(aN (top 72)).getD 1 (.Pass ⟨0,0,0,0⟩)
abbrev ZkA:Stmt:=(aN (top 72)).getD 2 (.Pass ⟨0,0,0,0⟩)
abbrev Zgz:Stmt:=(aN (top 69)).getD 3 (.Pass ⟨0,0,0,0⟩)
abbrev Zhy:Stmt:=(aN (top 70)).getD 3 (.Pass ⟨0,0,0,0⟩)
abbrev Zi8:Stmt:=(aN (top 71)).getD 3 (.Pass ⟨0,0,0,0⟩)
abbrev ZjJ:Stmt:=(aN (top 65)).getD 3 (.Pass ⟨0,0,0,0⟩)
abbrev Zi5:Stmt:=(aN (top 67)).getD 3 (.Pass ⟨0,0,0,0⟩)
abbrev Zil:Stmt:=(aN (top 66)).getD 3 (.Pass ⟨0,0,0,0⟩)
abbrev Zic:Stmt:=(aN (top 68)).getD 3 (.Pass ⟨0,0,0,0⟩)
abbrev ZjN:Stmt:=(aN (top 78)).getD 2 (.Pass ⟨0,0,0,0⟩)
abbrev ZjL:Stmt:=(aN (top 78)).getD 3 (.Pass ⟨0,0,0,0⟩)
abbrev Zht:Stmt:=(aN (top 81)).getD 5 (.Pass ⟨0,0,0,0⟩)
abbrev ZjQ:Stmt:=(aN (top 81)).getD 0 (.Pass ⟨0,0,0,0⟩)
abbrev ZjP:Stmt:=(aN (top 81)).getD 1 (.Pass ⟨0,0,0,0⟩)
abbrev Zgn:Stmt:=(aN (top 81)).getD 4 (.Pass ⟨0,0,0,0⟩)
abbrev Zdh:Stmt:=(aN (top 81)).getD 2 (.Pass ⟨0,0,0,0⟩)
abbrev ZkB:Stmt:=(aN (top 81)).getD 3 (.Pass ⟨0,0,0,0⟩)
abbrev Zif:Stmt:=(aN (top 81)).getD 10 (.Pass ⟨0,0,0,0⟩)
abbrev Zi2:Stmt:=(aN (top 81)).getD 12 (.Pass ⟨0,0,0,0⟩)
abbrev ZjR:Stmt:=(aN (top 81)).getD 8 (.Pass ⟨0,0,0,0⟩)
abbrev Zi0:Stmt:=(aN (top 81)).getD 9 (.Pass ⟨0,0,0,0⟩)
abbrev ZjO:Stmt:=(aN (top 81)).getD 7 (.Pass ⟨0,0,0,0⟩)
abbrev Zi1:Stmt:=(aN (top 81)).getD 6 (.Pass ⟨0,0,0,0⟩)
abbrev Zig:Stmt:=(aN (top 81)).getD 14 (.Pass ⟨0,0,0,0⟩)
abbrev ZjV:Stmt:=top 84
abbrev ZjZ:Stmt:=top 85
abbrev Zin:Stmt:=top 86
abbrev Zio:Stmt:=top 87
abbrev ZjW:Stmt:=top 88
abbrev ZkC:Stmt:=top 89
abbrev ZjX:Stmt:=top 90
abbrev ZjY:Stmt:=top 91
abbrev ZmD:Stmt:=top 92
def aK (h:H p=none)(o:HO):Same H (upd H p o):=fun b u q=>by rw[aH (aO q h)];exact q
def nS {v:HO}(h:H a=none)(e:upd H a v=H'):Same H H':=e▸aK h v
def nE {v:HO}(e:upd H a v=H'):H' a=some v:=e▸aC
def small (h:n<=1000):n<=sizeLine:=YV (rT h)
def aM (h:decide (n<=1000)=true):n<=sizeLine:=small (YZ h)
def bD (h:n<=1000):n<sizeLine:=rT h
def _root_.L2.Same.put {o:HO}(g:Same H H')(h:H p=none):Same H (upd H' p o):=fun b u q=>by rw[aH (aO q h)];exact g b u q
def _root_.L2.Same.none (g:Same H H')(h:H' x=none):H x=none:=by
 cases e:H x with
 |none=>rfl
 |some o=>rw[g x o e]at h;cases h
def bJ {fs:List (Str×V)}(hx:H x=none)(hd:H dx=none):Same H (upd (upd (upd H dx (.own x)) x (.ins C dx [])) x (.ins C dx fs)):=fun b u q=>by
 rw[aH (aO q hx),aH (aO q hx),aH (aO q hd)];exact q
open Bm Rm
def b3T (n k:Nat):Builtin.bitAnd ((n:Int) / 2 ^ ((k:Int)).toNat) 1=fJ n k:=by
 rw[c1X]
 have h:Builtin.bitAnd ((n >>> k:Nat):Int) 1=(((n >>> k:Nat) &&& 1:Nat):Int):=band (n >>> k) 1
 rw[h]
 unfold fJ
 have h1:=bit_at n k
 have h2:((n >>> k:Nat) &&& 1)=(n >>> k) % 2:=Nat.and_one_is_mod _
 split
 ·rename_i c;exact h1.mpr c
 ·rename_i c
  have:¬ (((n >>> k:Nat) &&& 1:Nat):Int)=1:=fun z=>c (h1.mp z)
  omega
def a5Y:Sp:=fun vs H Q _=>∃n m:Nat,vs= [.int n,.int m]/\n<2 ^ m/\m<=128/\∀p,H p=none->Q (.ref p) (upd H p (.lst ((bM n m).map V.int)))
def yH (K:W.Frag):Sp:=fun vs H Q _=>∃(a:Addr)(bs:List Int),vs= [.ref a]/\SqL K H a (bs.map V.int)/\bN bs/\bs.length<=450/\Q (.int ((nm bs:Nat):Int)) H
def a3Q (h:n<2 ^ m):(n:Int) / 2 ^ ((m:Int)).toNat=0:=by
 rw[qC]
 exact Int.ediv_eq_zero_of_lt (Int.natCast_nonneg n) (by exact_mod_cast h)
def a2D (h:i<m):(bM n m).take (i+1)=(bM n m).take i++[fJ n (m-1-i)]:=by
 have hl:i<(bM n m).length:=by rw[bZ];exact h
 rw[Yh hl,sU hl]
def uP (h:i<bs.length):atI (bs.map V.int) ((i:Nat):Int)=some (.int bs[i]):=cO (by rw[Yk,Yc h];rfl)
def nC {x:V}(hx:(bs.map V.int)[i]? =some x):∃h:i<bs.length,x= .int bs[i]:=by
 have hi:i<bs.length:=by
  have:=(Yg.mp hx).1
  rwa [Ya]at this
 refine⟨hi,?_⟩
 rw[Yk,Yc hi]at hx
 exact(Yp hx).symm
abbrev bl (a:Nat):Nat:=Builtin.Int.intBits (a:Int)
def c0F {a:Nat}(h:a≠0):2 ^ (bl a-1)<=a:=by
 show 2 ^ (Builtin.Int.intBits (a:Int)-1)<=a
 rw[qW,if_neg h]
 exact Nat.log2_self_le h
def a9D {a:Nat}(h:a<2 ^ n):bl a<=n:=bits_le h
def b3O (a:Nat):a<2 ^ bl a:=b2M a
def zR:bl 64647=16:=by decide
def a7Y {r:Nat}(hr:r<2 ^ 450)(h:16<=bl r):(r ^^^ 64647 <<< (bl r-16))<2 ^ 450/\R (r ^^^ 64647 <<< (bl r-16))=R r/\bl (r ^^^ 64647 <<< (bl r-16))<bl r:=by
 have r3:=a9D hr
 have hr0:r≠0:=by
  intro z
  subst z
  have:bl 0=0:=by decide
  omega
 have l1:64647 <<< (bl r-16)<2 ^ (bl r-1+1):=by
  rw[Xl]
  have e1:bl r-1+1=16+(bl r-16):=by omega
  rw[e1,Nat.pow_add]
  exact Nat.mul_lt_mul_of_lt_of_le (by decide) (Yd _) (X0 _)
 have l2:2 ^ (bl r-1)<=64647 <<< (bl r-16):=by
  rw[Xl]
  have e1:bl r-1=15+(bl r-16):=by omega
  rw[e1,Nat.pow_add]
  exact Nat.mul_le_mul_right _ (by decide)
 have l3:r<2 ^ (bl r-1+1):=by
  have e1:bl r-1+1=bl r:=by omega
  rw[e1];exact b3O r
 have l4:=a9M l3 l1 (c0F hr0) l2
 have l5:bl (r ^^^ 64647 <<< (bl r-16))<=bl r-1:=a9D l4
 exact⟨Yf l4 (YA (by decide) (by omega)),a9G (by omega),by omega⟩
def a2N:Sp:=fun vs H Q _=>∃a:Nat,vs= [.int a,.int 64647]/\a<2 ^ 450/\∀(w:Nat)(p:Addr),H p=none->Q (.ref p) (upd H p (.tup [.int ((w:Nat):Int),.int ((R a:Nat):Int)]))
def b4M (K:W.Frag):Sp:=fun vs H Q _=>∃(a:Addr)(bs:List Int),vs= [.ref a]/\SqL K H a (bs.map V.int)/\bN bs/\bs.length<=450/\∀H',Same H H'->Q (.int ((rst bs:Nat):Int)) H'
def b0K (K:W.Frag):Sp:=fun vs H Q _=>∃(a:Addr)(bs:List Int),vs= [.ref a]/\SqL K H a (bs.map V.int)/\bN bs/\bs.length<=400/\∀p H',H p=none->Same H H'->H' p=some (.lst ((ck bs).map V.int))->Q (.ref p) H'
def b1P (h:bN bs):jJ bs=((nm bs:Nat):Int):=(pC h).symm
def szB (bs:List Int):Nat:=nm ((bs.drop 9).take 3)
def nmB (bs:List Int):Nat:=nm ((bs.drop 1).take 8)
def dtB (bs:List Int)(k:Nat):Int:=((nm ((bs.drop (12+8*k)).take 8):Nat):Int)
def daB (bs:List Int):List Int:=(List.range (szB bs)).map (dtB bs)
def jZ (bs:List Int):Prop:=12<=bs.length/\bs.length=27+8*szB bs
def zZ (bs:List Int):Prop:=jZ bs/\bs.getD 0 0=0/\rst bs=0
def jW (h:bN bs)(a n:Nat):bN ((bs.drop a).take n):=fun b hb=>h b (List.mem_of_mem_drop (Xz hb))
def a4V (h:bN bs):szB bs<8:=by
 have:=lK (jW h 9 3)
 refine Yf this (YA (n:=2) (j:=3) (by decide) ?_)
 rw[Yu];omega
def b4L (K:W.Frag):Sp:=fun vs H Q _=>∃(a:Addr)(bs:List Int),vs= [.ref a]/\SqL K H a (bs.map V.int)/\bN bs/\12<=bs.length/\bs.length<=450/\∀H',Same H H'->Q (.int ((szB bs:Nat):Int)) H'
def b8G (K:W.Frag):Sp:=fun vs H Q _=>∃(a:Addr)(bs:List Int),vs= [.ref a]/\SqL K H a (bs.map V.int)/\bN bs/\bs.length<=450/\(jZ bs->∀H',Same H H'->Q (.bl true) H')/\(¬ jZ bs->∀H',Same H H'->Q (.bl false) H')
def b4N (K:W.Frag)(C:Addr):Sp:=fun vs H Q E=>∃(a:Addr)(bs:List Int),vs= [.ref a]/\SqL K H a (bs.map V.int)/\bN bs/\bs.length<=450/\
 (zZ bs->∀t p H',H p=none->Same H H'->H' p=some (.lst ((daB bs).map V.int))->H' t=some (.tup [.int ((nmB bs:Nat):Int),.ref p])->Q (.ref t) H')/\(¬ zZ bs->∀H',Same H H'->False)
def a1O (bs:List Int):(daB bs).length=szB bs:=by unfold daB;rw[Ya,YC]
def a8U (h:i<szB bs):(daB bs).take (i+1)=(daB bs).take i++[dtB bs i]:=by
 have hl:i<(daB bs).length:=by rw[a1O];exact h
 have e:(daB bs)[i]=dtB bs i:=by simp[daB]
 rw[Yh hl,e]
def c1Z (h:0<bs.length):bs[0]=bs.getD 0 0:=by rw[Ye,Yc h];rfl
def zN {a n:Nat}{x y:Int}(hx:x=((a:Nat):Int))(hy:y=((a+n:Nat):Int))(h:a+n<=bs.length):jM (bs.map V.int) (some x) (some y)=((bs.drop a).take n).map V.int:=by
 rw[hx,hy];exact b2J h
open Bm Rn Wm
def b9N:Option Int->V
 |none=> .non
 |some b=> .int b
abbrev skF (s:S):List (Str×V):=[("last",b9N s.1),("alike",.int ((s.2:Nat):Int))]
def jD (C:Addr)(H:Hp)(a:Addr)(s:S):Prop:=∃dx,H a=some (.ins C dx (skF s))
def jD.same {n:S}(h:jD C H a n)(g:Same H H'):jD C H' a n:=by
 obtain⟨dx,e⟩:=h
 exact⟨dx,g _ _ e⟩
def jD.at_ {n:S}(h:jD C H a n)(g:H' a=H a):jD C H' a n:=by
 obtain⟨dx,e⟩:=h
 exact⟨dx,g.trans e⟩
def jD.ne {n:S}{xs:List V}(h:jD C H a n)(e:H p=some (.lst xs)):p≠a:=fun z=>by
 obtain⟨dx,q⟩:=h
 rw[z,q]at e;cases e
def jD.set {n:S}{xs:List V}(h:jD C H a n)(e:H p=some (.lst xs)):jD C (upd H p (.lst ys)) a n:=by
 obtain⟨dx,q⟩:=h
 exact⟨dx,by rw[aH (fun z=>by rw[z,e]at q;cases q)];exact q⟩
def a5E (C:Addr):Sp:=fun vs H Q _=>∃a dx,vs= [.ref a]/\H a=some (.ins C dx [])/\∀H',H'=upd H a (.ins C dx (skF (none,0)))->Q .non H'
def b0D (C:Addr):Sp:=fun vs H Q _=>∃a s b,vs= [.ref a,.int b]/\jD C H a s/\∀H',jD C H' a (skp s b)->(∀x,x≠a->H' x=H x)->Q .non H'
def a5F (C:Addr):Sp:=fun vs H Q _=>∃a s,vs= [.ref a]/\jD C H a s/\Q (.bl (decide (s.2=5))) H
def a5D (C:Addr):Sp:=fun vs H Q _=>∃a s,vs= [.ref a]/\jD C H a s/\Q (.bl (decide (5<s.2))) H
def a3R (n:Nat):decide (((n:Nat):Int)=5)=decide (n=5):=by
 by_cases h:n=5
 ·subst h;rfl
 ·rw[Yr h,Yr (by omega)]
def b2E (n:Nat):decide ((5:Int)<((n:Nat):Int))=decide (5<n):=by
 by_cases h:5<n
 ·rw[Yn h,Yn (by omega)]
 ·rw[Yr h,Yr (by omega)]
def a8E:Good []:=fun k hk=>by
 have:k=0:=Nat.le_zero.mp hk
 subst this;decide
def b0F (K:W.Frag):Sp:=fun vs H Q _=>∃(a:Addr)(bs:List Int),vs= [.ref a]/\SqL K H a (bs.map V.int)/\bs.length<=400/\∀p H',H p=none->Same H H'->H' p=some (.lst ((put bs).map V.int))->Q (.ref p) H'
def vW (h:i<bs.length):put (bs.take (i+1))=pst (put (bs.take i)) bs[i]:=by rw[Yh h,fZ]
instance decCmp (bs:List Int):Decidable (jZ bs):=by unfold jZ;infer_instance
def ans (w:List Int):Str:=if 5<run w then "six" else if run w=5\/¬ jZ (kp w) then "more" else if rst (kp w)=0 then "whole" else "bad"
def pM (h:5<run w):ans w="six":=if_pos h
def jY (h:¬ 5<run w)(g:run w=5\/¬ jZ (kp w)):ans w="more":=(if_neg h).trans (if_pos g)
def oJ (h:¬ 5<run w)(g:¬ (run w=5\/¬ jZ (kp w)))(r:rst (kp w)=0):ans w="whole":=(if_neg h).trans ((if_neg g).trans (if_pos r))
def uR (h:¬ 5<run w)(g:¬ (run w=5\/¬ jZ (kp w)))(r:¬ rst (kp w)=0):ans w="bad":=(if_neg h).trans ((if_neg g).trans (if_neg r))
abbrev rdF (st ks:Addr)(t:Str):List (Str×V):=[("streak",.ref st),("kept",.ref ks),("answer",.str t)]
structure iC (C CK:Addr)(H:Hp)(r st ks:Addr)(w:List Int)(t:Str):Prop where
 rd:∃dx,H r=some (.ins C dx (rdF st ks t))
 sk:jD CK H st (sk w)
 kp:H ks=some (.lst ((kp w).map V.int))
def iC.same {t:Str}(h:iC C CK H r st ks w t)(g:Same H H'):iC C CK H' r st ks w t:=⟨let ⟨dx,e⟩:=h.rd;⟨dx,g _ _ e⟩,h.sk.same g,g _ _ h.kp⟩
def iC.ne1 {t:Str}(h:iC C CK H r st ks w t):r≠st:=fun z=>by
 obtain⟨dx,e⟩:=h.rd
 obtain⟨dy,f⟩:=h.sk
 rw[z,f]at e
 cases e
def iC.ne2 {t:Str}(h:iC C CK H r st ks w t):r≠ks:=fun z=>by
 obtain⟨dx,e⟩:=h.rd
 rw[z,h.kp]at e
 cases e
def iC.ne3 {t:Str}(h:iC C CK H r st ks w t):ks≠st:=fun z=>by
 obtain⟨dy,f⟩:=h.sk
 rw[<-z,h.kp]at f
 cases f
def b2S (H H':Hp)(r st ks:Addr):Prop:=∀x o,x≠r->x≠st->x≠ks->H x=some o->H' x=some o
def a5N (C CK:Addr):Sp:=fun vs H Q _=>∃a dx,vs= [.ref a]/\H a=some (.ins C dx [])/\∀H' st ks,iC C CK H' a st ks [] "more"->H st=none->H ks=none->(∀x o,x≠a->H x=some o->H' x=some o)->Q .non H'
def yF (C CK:Addr):Sp:=fun vs H Q _=>∃r st ks w t,vs= [.ref r]/\iC C CK H r st ks w t/\bN w/\w.length<=450/\∀H',Same H H'->Q (.str (ans w)) H'
def a5O (C CK:Addr):Sp:=fun vs H Q _=>∃r st ks w t b,vs= [.ref r,.int b]/\iC C CK H r st ks w t/\bN (w++[b])/\w.length<450/\∀H',iC C CK H' r st ks (w++[b]) (ans (w++[b]))->b2S H H' r st ks->Q (.str (ans (w++[b]))) H'
def a2L (C CK:Addr):Sp:=fun vs H Q _=>∃r st ks w t,vs= [.ref r]/\iC C CK H r st ks w t/\∀p H',H p=none->Same H H'->H' p=some (.lst ((kp w).map V.int))->Q (.ref p) H'
def a2M (C CK:Addr):Sp:=fun vs H Q _=>∃r st ks w,vs= [.ref r]/\iC C CK H r st ks w (ans w)/\bN w/\w.length<=450/\(ans w="whole"->(kp w).getD 0 0=0)/\
 (ans w="whole"->zZ (kp w)->∀t p H',H p=none->Same H H'->H' p=some (.lst ((daB (kp w)).map V.int))->H' t=some (.tup [.int ((nmB (kp w):Nat):Int),.ref p])->Q (.ref t) H')/\(ans w≠"whole"->Q .non H)
def uQ (h:ans w="whole"):jZ (kp w)/\rst (kp w)=0:=by
 by_cases h1:5<run w
 ·rw[pM h1]at h;exact absurd h (by decide +kernel)
 by_cases h2:run w=5\/¬ jZ (kp w)
 ·rw[jY h1 h2]at h;exact absurd h (by decide +kernel)
 by_cases h3:rst (kp w)=0
 ·exact⟨YM fun z=>h2 (.inr z),h3⟩
 ·rw[uR h1 h2 h3]at h;exact absurd h (by decide +kernel)
def byt (n:Int):Bool:=decide (0<=n) && decide (n<=255)
def gP {n:Int}:byt n=true↔0<=n/\n<=255:=by unfold byt;simp
def uM {n:Int}(h:byt n=true):∃m:Nat,n=m/\m<256:=by
 obtain⟨h0,h1⟩:=gP.mp h
 exact⟨n.toNat,by omega,by omega⟩
def b8H:Sp:=fun vs H Q _=>∃n,vs= [.int n]/\Q (.bl (byt n)) H
def b0L (K:W.Frag):Sp:=fun vs H Q _=>∃(a:Addr)(ns:List Int),vs= [.ref a]/\SqA K H a (ns.map V.int)/\ns.length<=500/\∀H',Same H H'->Q (.bl (ns.all byt)) H'
def oK (n:Int)(ds:List Int):Prop:=byt n=true/\ds.length<=7/\ds.all byt=true
def b4S (K:W.Frag)(C:Addr):Sp:=fun vs H Q E=>∃(n:Int)(a:Addr)(ds:List Int),vs= [.int n,.ref a]/\SqL K H a (ds.map V.int)/\ds.length<=500/\(oK n ds->∀H',Same H H'->Q .non H')/\(¬ oK n ds->∀H',Same H H'->False)
def b8 (d:Int):List Int:=bM d.toNat 8
def hdD (n:Int)(k:Nat)(ds:List Int):List Int:=[0]++b8 n++bM k 3++(ds.map b8).flatten
def hd (n:Int)(ds:List Int):List Int:=hdD n ds.length ds
def fb (n:Int)(ds:List Int):List Int:=hd n ds++ck (hd n ds)
def iW (d:Int):(b8 d).length=8:=bZ _ _
def nQ (d:Int):bN (b8 d):=gK _ _
theorem wZ:∀ds:List Int,(ds.map b8).flatten.length=8*ds.length
 |[]=>rfl
 |d::r=>by rw[YR,Xe,Yb,wZ r,iW,YE];omega
theorem sW:∀ds:List Int,bN (ds.map b8).flatten
 |[]=>fun _ z=>nomatch z
 |d::r=>by rw[YR,Xe];exact gG (nQ d) (sW r)
def pI (n:Int)(k:Nat)(ds:List Int):(hdD n k ds).length=12+8*ds.length:=by
 unfold hdD
 rw[Yb,Yb,Yb,wZ,iW,bZ,Yv]
def mZ (n:Int)(k:Nat)(ds:List Int):bN (hdD n k ds):=by
 unfold hdD
 refine gG (gG (gG ?_ (nQ n)) (gK _ _)) (sW ds)
 intro b hb
 exact .inl (Yi.mp hb)
def wR (n:Int)(k:Nat)(ds:List Int)(d:Int):hdD n k (ds++[d])=hdD n k ds++b8 d:=by
 unfold hdD
 rw[Yj,List.flatten_append,<-YB]
 simp
def yZ (n:Int)(ds:List Int):(hd n ds).length=12+8*ds.length:=pI n _ ds
def mY (n:Int)(ds:List Int):bN (hd n ds):=mZ n _ ds
def zQ (bs:List Int):(ck bs).length=15:=bZ _ _
def a1S (bs:List Int):bN (ck bs):=gK _ _
def lU (n:Int)(ds:List Int):(fb n ds).length=27+8*ds.length:=by unfold fb;rw[Yb,yZ,zQ];omega
def pJ (n:Int)(ds:List Int):bN (fb n ds):=gG (mY n ds) (a1S _)
def b6N (n:Int)(ds:List Int)(h:ds.length<=40):rst (fb n ds)=0:=b4U (mY n ds) (by rw[yZ];omega)
def b0H (K:W.Frag)(C:Addr):Sp:=fun vs H Q E=>∃(n:Int)(a:Addr)(ds:List Int),vs= [.int n,.ref a]/\SqL K H a (ds.map V.int)/\ds.length<=500/\(oK n ds->∀p H',H p=none->Same H H'->H' p=some (.lst ((fb n ds).map V.int))->Q (.ref p) H')/\(¬ oK n ds->∀H',Same H H'->False)
def a7I {n:Int}(h:¬ byt n=true\/7<ds.length\/∃d∈ds,¬ byt d=true):¬ oK n ds:=fun ⟨h1,h2,h3⟩=>by
 rcases h with h | h | ⟨d,hd,h⟩
 ·exact h h1
 ·omega
 ·exact h (Je.mp h3 d hd)
def xO (h:ds.all byt=true)(hi:i<ds.length):byt ds[i]=true:=Je.mp h _ (YN hi)
def a1J (hn:n<256)(hl:ds.length<=7):szB (fb (n:Int) ds)=ds.length:=by
 unfold szB fb hd hdD
 have e:(([0]++b8 (n:Int)++bM ds.length 3++(ds.map b8).flatten++ck ([0]++b8 (n:Int)++bM ds.length 3++(ds.map b8).flatten)).drop 9).take 3=bM ds.length 3:=by
  have h9:([0]++b8 (n:Int)).length=9:=by rw[Yb,iW];rfl
  rw[YB,YB ([0]++b8 (n:Int)),XI (by omega),List.drop_of_length_le (by omega),List.nil_append,Y8 (by rw[bZ];exact Yd _),Yl (by rw[bZ];exact Yd _)]
 rw[e]
 exact gA (by show ds.length<2 ^ 3;omega)
def b2B (hn:n<256):nmB (fb (n:Int) ds)=n:=by
 unfold nmB fb hd hdD
 have e:(([0]++b8 (n:Int)++bM ds.length 3++(ds.map b8).flatten++ck ([0]++b8 (n:Int)++bM ds.length 3++(ds.map b8).flatten)).drop 1).take 8=b8 (n:Int):=by
  rw[YB,YB,YB [0]]
  show (b8 (n:Int)++_).take 8=_
  rw[Y8 (by rw[iW];exact Yd _),Yl (by rw[iW];exact Yd _)]
 rw[e]
 exact gA (by show n<2 ^ 8;omega)
theorem xF:∀(ds:List Int)(k:Nat)(h:k<ds.length)(r:List Int),(((ds.map b8).flatten++r).drop (8*k)).take 8=b8 ds[k]
 | d::ds,0,_,r=>by
  rw[YR,Xe,Nat.mul_zero,List.drop_zero,YB,Y8 (by rw[iW];exact Yd _),Yl (by rw[iW];exact Yd _)];rfl
 | d::ds,k+1,h,r=>by
  rw[YR,Xe,YB]
  have e:8*(k+1)=(b8 d).length+8*k:=by rw[iW];omega
  rw[e,<-List.drop_drop,List.drop_left,xF ds k (by simpa using h) r];rfl
def b2C (hn:n<256)(hl:ds.length<=7)(hall:ds.all byt=true):daB (fb (n:Int) ds)=ds:=by
 unfold daB
 rw[a1J hn hl]
 apply List.ext_getElem
 ·rw[Ya,YC]
 ·intro k h1 h2
  rw[List.getElem_map,List.getElem_range]
  unfold dtB fb hd hdD
  have h12:([0]++b8 (n:Int)++bM ds.length 3).length=12:=by rw[Yb,Yb,iW,bZ];rfl
  rw[YB,<-List.drop_drop]
  have e:([0]++b8 (n:Int)++bM ds.length 3++((ds.map b8).flatten++ck ([0]++b8 (n:Int)++bM ds.length 3++(ds.map b8).flatten))).drop 12=(ds.map b8).flatten++ck ([0]++b8 (n:Int)++bM ds.length 3++(ds.map b8).flatten):=by
   rw[XI (by omega),List.drop_of_length_le (by omega),List.nil_append]
  rw[e,xF ds k h2]
  obtain⟨m,em,hm⟩:=uM (xO hall h2)
  rw[em]
  show ((nm (bM m 8):Nat):Int)=_
  rw[gA (by show m<2 ^ 8;omega)]
def b9V (hn:n<256)(hl:ds.length<=7):zZ (fb (n:Int) ds):=by
 refine⟨⟨by rw[lU];omega,by rw[lU,a1J hn hl]⟩,?_,b6N _ _ (by omega)⟩
 unfold fb hd hdD
 rfl
def jX {as:List Int}(ha:bN as)(hb:bN bs):bN (as++bs):=fun z hz=>(Yy.mp hz).elim (ha z) (hb z)
def tO {as:List Int}(ha:bN as):bN (as.take n):=fun z hz=>ha z (Xz hz)
def a7X (u:List Int):∀v:List Int,∃x,kp (u++v)=kp u++x:=by
 refine snoc_ind (P:=fun v=>∃x,kp (u++v)=kp u++x) ⟨[],by rw[YQ,YQ]⟩ (fun v b ih=>?_)
 obtain⟨x,e⟩:=ih
 rw[<-YB,gB]
 split
 ·exact⟨x,e⟩
 ·exact⟨x++[b],by rw[e,YB]⟩
def a2F {x:List Int}(h:12<=l.length):szB (l++x)=szB l:=by
 unfold szB
 rw[XI (by omega),Y8 (by rw[XE];omega)]
structure Wr (w:List Int)(bs:List Int):Prop where
 w:w=put bs
 bits:bN bs
 ok:zZ bs
def Wr.take_run (h:Wr w bs)(hj:j<=w.length):run (w.take j)<=5:=by
 have:=a6L bs
 rw[<-h.w]at this
 exact this j hj
def Wr.wbits (h:Wr w bs):bN w:=by rw[h.w];exact vX h.bits
def Wr.kp (h:Wr w bs):kp w=bs:=by rw[h.w];exact a7W bs
def Wr.more (h:Wr w bs)(hj:j<w.length):ans (w.take j)="more":=by
 have r5:=h.take_run (YV hj)
 refine jY (by omega) (YM fun z=>?_)
 have n5:¬ run (w.take j)=5:=fun y=>z (.inl y)
 have hc:jZ (Wm.kp (w.take j)):=YM fun y=>z (.inr y)
 obtain⟨x,e⟩:=a7X (w.take j) (w.drop j)
 rw[List.take_append_drop,h.kp]at e
 have hc':jZ (Wm.kp (w.take j)):=hc
 have h12:=hc.1
 have h27:=hc.2
 have hs:=a2F (l:=Wm.kp (w.take j)) (x:=x) h12
 have hb:=h.ok.1.2
 rw[e]at hb
 have hb':(Wm.kp (w.take j)++x).length=27+8*szB (Wm.kp (w.take j)++x):=hb
 rw[hs,Yb]at hb'
 have hx:x= []:=List.eq_nil_of_length_eq_zero (by omega)
 rw[hx,YQ]at e
 have good:Good (w.take j):=fun k hk=>by
  rw[List.take_take]
  exact h.take_run (by rw[Yu]at hk;omega)
 have hp:=a6J (tO (n:=j) h.wbits) good
 rw[if_neg n5,<-e,<-h.w]at hp
 have:=YT List.length hp
 rw[Yu]at this
 omega
def Wr.whole (h:Wr w bs):ans w="whole":=by
 have r4:=mF bs
 rw[<-h.w]at r4
 refine oJ (by omega) (fun z=>?_) ?_
 ·rcases z with z | z
  ·omega
  ·rw[h.kp]at z;exact z h.ok.1
 ·rw[h.kp];exact h.ok.2.2
def b1Y (h:k<n):ixN n ((k:Nat):Int)=some k:=by
 unfold ixN
 rw[if_pos (by omega),if_pos (by omega),YG]
structure On (w:List Int):Prop where
 good:Good w
 le:12<=(kp w).length->(kp w).length<=27+8*szB (kp w)
 five:jZ (kp w)->run w=5
def On.nil:On []:=⟨a8E,fun z=>absurd z (by decide),fun z=>absurd z.1 (by decide)⟩
def a4U (h:12<=l.length):szB (l++[b])=szB l:=by
 unfold szB
 rw[XI (by omega),Y8 (by rw[XE];omega)]
def On.le' (h:On w):12<=(kp (w++[b])).length->(kp (w++[b])).length<=27+8*szB (kp (w++[b])):=by
 rw[gB]
 by_cases c:run w=5
 ·rw[if_pos c];exact h.le
 ·rw [if_neg c]
  intro h12
  rw[Yb,Yv]at h12 ⊢
  by_cases z:12<=(kp w).length
  ·rw[a4U z]
   have h1:=h.le z
   have h2:¬ (kp w).length=27+8*szB (kp w):=fun y=>c (h.five ⟨z,y⟩)
   omega
  ·omega
def On.next (h:On w)(hm:ans (w++[b])="more"):On (w++[b]):=by
 have h1:¬ 5<run (w++[b]):=fun z=>by
  rw[pM z]at hm;exact absurd hm (by decide +kernel)
 refine⟨h.good.snoc (by omega),h.le',fun hc=>YM fun z=>?_⟩
 have h2:¬ (run (w++[b])=5\/¬ jZ (kp (w++[b]))):=fun y=>y.elim z fun x=>x hc
 by_cases r:rst (kp (w++[b]))=0
 ·rw[oJ h1 h2 r]at hm;exact absurd hm (by decide +kernel)
 ·rw[uR h1 h2 r]at hm;exact absurd hm (by decide +kernel)
def a4X (K:W.Frag)(C:Addr):Sp:=fun vs H Q E=>∃(n:Int)(a:Addr)(ds:List Int),vs= [.int n,.ref a]/\SqL K H a (ds.map V.int)/\ds.length<=500/\(oK n ds->∀p H',H p=none->Same H H'->H' p=some (.lst ((put (fb n ds)).map V.int))->Q (.ref p) H')/\(¬ oK n ds->∀H',Same H H'->False)
def b0C (C:Addr):Sp:=fun vs H Q E=>∃v:Int,vs= [.int v]/\((v=1\/v=3\/v=5)->Q .non H)/\(¬ (v=1\/v=3\/v=5)->False)
def rZ (v:Int):decide (v∈ [(1:Int),3,5])=true↔(v=1\/v=3\/v=5):=by
 rw[decide_eq_true_iff]
 simp
structure TCl (K:W.Frag)(C:Addr):Prop where
 cls:Cls K C
 n1:bG K C "votes"
 n2:bG K C "spoke"
 n3:bG K C "over"
 n4:bG K C "noughts"
abbrev tlF (v:Nat)(s:Bool)(o n:Nat):List (Str×V):=[("votes",.int v),("spoke",.bl s),("over",.int o),("noughts",.int n)]
def pA (C1 C2:Addr)(H:Hp)(t:Addr)(v:Nat)(s:Bool)(o n:Nat):Prop:=∃C dx,(C=C1\/C=C2)/\H t=some (.ins C dx (tlF v s o n))
def pA.same {s:Bool}{o:Nat}(h:pA C1 C2 H t v s o n)(g:Same H H'):pA C1 C2 H' t v s o n:=let ⟨C,dx,c,e⟩:=h;⟨C,dx,c,g _ _ e⟩
def gH (s:Bool)(o:Nat):Int:=if o=1/\s=false then 0 else 1
def iM (s:Bool)(o:Nat)(b:Int):Bool:=if o=1 then s && decide (b=1) else decide (b=0)
def tlN (o:Nat)(b:Int)(n:Nat):Nat:=if 9<=o/\b=0 then n+1 else n
def lM (v o n:Nat):Str:=if o<9+v then ("more":Str) else if v / 2<n then ("refused":Str) else ("taken":Str)
def cF (v:Nat)(s:Bool)(o n:Nat)(b:Int):Str:=if 9<=o then lM v (o+1) (tlN o b n) else if iM s o b=true then ("fault":Str) else ("more":Str)
def a9J (H H':Hp)(t:Addr):Prop:=∀x o,x≠t->H x=some o->H' x=some o
def a5B (K:W.Frag)(C1 C2:Addr):Sp:=fun vs H Q _=>∃(t C dx:Addr)(v:Nat)(s:Bool),vs= [.ref t,.int v,.bl s]/\(C=C1\/C=C2)/\H t=some (.ins C dx [])/\Q .non (upd H t (.ins C dx (tlF v s 0 0)))
def vP (C:Addr)(s:Bool):Sp:=fun vs H Q _=>∃(t dx:Addr)(v:Nat),vs= [.ref t,.int v]/\H t=some (.ins C dx [])/\∀H',H'=upd H t (.ins C dx (tlF v s 0 0))->Q .non H'
def a5A (C1 C2:Addr):Sp:=fun vs H Q _=>∃t v s o n,vs= [.ref t]/\pA C1 C2 H t v s o n/\Q (.int (gH s o)) H
def a2I (C1 C2:Addr):Sp:=fun vs H Q _=>∃t v s o n,∃(a:Nat)(b:Int),vs= [.ref t,.int ((a:Nat):Int),.int b]/\pA C1 C2 H t v s o n/\Q (.bl (iM s a b)) H
def a2H (C1 C2:Addr):Sp:=fun vs H Q _=>∃t v s o n,∃b:Int,vs= [.ref t,.int b]/\pA C1 C2 H t v s o n/\∀H',pA C1 C2 H' t v s o (if b=0 then n+1 else n)->a9J H H' t->Q (.str (lM v o (if b=0 then n+1 else n))) H'
def a5C (C1 C2:Addr):Sp:=fun vs H Q _=>∃t v s o n,∃b:Int,vs= [.ref t,.int b]/\pA C1 C2 H t v s o n/\∀H',pA C1 C2 H' t v s (o+1) (tlN o b n)->a9J H H' t->Q (.str (cF v s o n b)) H'
def jR (h1:TCl K C1)(h2:TCl K C2)(h:C=C1\/C=C2):TCl K C:=h.elim (fun z=>z▸h1) (fun z=>z▸h2)
def rQ {fa:Addr}{m:Str}(h1:Meth K C1 m fa)(h2:Meth K C2 m fa)(h:C=C1\/C=C2):Meth K C m fa:=h.elim (fun z=>z▸h1) (fun z=>z▸h2)
abbrev ctF (n:Int):List (Str×V):=[("total",.int n)]
def rK (C:Addr)(H:Hp)(a:Addr)(n:Int):Prop:=∃dx,H a=some (.ins C dx (ctF n))
def a5V (C:Addr):Sp:=fun vs H Q _=>∃a dx,vs= [.ref a]/\H a=some (.ins C dx [])/\Q .non (upd H a (.ins C dx (ctF 0)))
def b3E (C:Addr)(lim:Int):Sp:=fun vs H Q _=>∃a n,vs= [.ref a]/\rK C H a n/\Q (.bl (decide (lim<=n))) H
def b8F (C:Addr):Sp:=fun vs H Q _=>∃a n,vs= [.ref a]/\rK C H a n/\Q (.int n) H
def mvd (n st:Int):Int:=if 18<=n then n else max 0 (n+st)
def a5U (C:Addr):Sp:=fun vs H Q _=>∃a n st,vs= [.ref a,.int st]/\rK C H a n/\∀H',rK C H' a (mvd n st)->(∀b,b≠a->H' b=H b)->Q .non H'
def a2O (C:Addr):Sp:=fun vs H Q _=>∃a n b,vs= [.ref a,.bl b]/\rK C H a n/\∀H',rK C H' a (mvd n (if b=true then 8 else 1))->(∀b,b≠a->H' b=H b)->Q .non H'
def vQ (C:Addr)(st:Int):Sp:=fun vs H Q _=>∃a n,vs= [.ref a]/\rK C H a n/\∀H',rK C H' a (mvd n st)->(∀b,b≠a->H' b=H b)->Q .non H'
abbrev Own:=Addr->Prop
variable {o:Own}{o':Own}{o1:Own}{ob:Own}{os:Own}
def isT (o:HO):Prop:=∃vs,o= .tup vs
def cL (o:Own)(H H':Hp):Prop:=∀x v,H x=some v->(¬ o x\/isT v)->H' x=some v
def Mv (o:Own)(H:Hp)(o':Own)(H':Hp):Prop:=cL o H H'/\∀x,o' x->o x\/H x=none
abbrev Or2 (a b:Own):Own:=fun x=>a x\/b x
def cL.of (g:Same H H'):cL o H H':=fun x v e _=>g x v e
def cL.refl:cL o H H:=fun _ _ e _=>e
def cL.tup (k:cL o H H')(e:H x=some (.tup vs)):H' x=some (.tup vs):=k x _ e (.inr ⟨vs,rfl⟩)
def cL.le (k:cL o H H')(h:∀x,o x->o' x):cL o' H H':=fun x v e z=>k x v e (z.elim (fun y=> .inl fun w=>y (h x w)) .inr)
def Mv.refl:Mv o H o H:=⟨cL.refl,fun _=> .inl⟩
def Mv.of (g:Same H H'):Mv o H o H':=⟨cL.of g,fun _=> .inl⟩
def Mv.trans {o2:Own}{H2:Hp}(a:Mv o H o1 H1)(b:Mv o1 H1 o2 H2):Mv o H o2 H2:=by
 refine⟨fun x v e z=>b.1 x v (a.1 x v e z) ?_,fun x hx=>?_⟩
 ·rcases z with z | z
  ·exact .inl fun w=>(a.2 x w).elim z fun n=>by rw[n]at e;cases e
  ·exact .inr z
 ·rcases b.2 x hx with h | h
  ·exact a.2 x h
  ·rcases Classical.em (o x) with c | c
   ·exact .inl c
   ·right
    cases e:H x with
    |none=>rfl
    |some v=>rw[a.1 x v e (.inl c)]at h;cases h
def Mv.out (a:Mv o H o1 H1){v:HO}(e:H x=some v)(h:¬ o x):¬ o1 x:=fun w=>(a.2 x w).elim h fun n=>by rw[n]at e;cases e
structure Cs where
 (post count free speaks reads intail flag settles rests off reader streak rtail stail:Addr)
variable {A:Cs}
inductive Stc where
 |free (k:Nat) | speaks (n:Nat) (ds:List Int) (k:Nat) | reads (h:List Int) | tlS (v c:Nat) | tlR (n:Nat) (ds:List Int) (v c:Nat) | flag (l:Nat) (m:Bool) | settles (m:Bool) | rests (l:Nat) | off
abbrev Fr:=Nat×List Int
variable {g:Nat->List Fr}{u:Nat->List Fr}{g0:Nat->List Fr}
structure PS where
 (m1 m2 vt:Nat) (wt up:List Fr) (tot:Int) (now:Stc)
variable {S:PS}{S1:PS}{tr:Nat->Nat->PS}{s0:Nat->PS}{s1:Nat->PS}
abbrev wr (n:Nat)(ds:List Int):List Int:=put (fb (n:Int) ds)
def Stc.shown:Stc->Str×Nat
 |.free k=>("free",k)
 |.speaks _ _ k=>("speaks",k)
 |.reads h=>("reads",h.length)
 |.tlS v _=>("tail speaks",v)
 |.tlR _ _ v _=>("tail reads",v)
 |.flag l _=>("flag",l)
 |.settles _=>("settles",0)
 |.rests l=>("rests",l)
 |.off=>("off",0)
def aZ (S:PS):Int:=match S.now with
 |.free k=>if S.wt= [] then 1 else if 12<=S.tot/\k<8 then 1 else 0
 |.speaks n ds k=>(wr n ds).getD k 0
 |.tlS v _=>gH true v
 |.tlR _ _ v _=>gH false v
 |.flag _ _=>0
 |_=>1
def dY (S:PS)(st:Int)(w:Str)(nx:Stc):Str×PS:=if 18<=mvd S.tot st then ("off",{ S with tot:=mvd S.tot st,now:= .off }) else (w,{ S with tot:=mvd S.tot st,now:=nx })
def cT (S:PS)(sp:Bool):Str×PS:=dY S (if sp=true then 8 else 1) "fault" (.flag 6 (!sp))
def eQ (S:PS)(sp:Bool):Str×PS:=dY S (if sp=true then 8 else 1) "refuses" (.settles false)
def iG (S:PS):Str×PS:=dY S 8 "" (.settles false)
def lH (S:PS)(n:Nat):Bool:=decide (Builtin.bitAnd ((n:Nat):Int) ((S.m1:Nat):Int)=((S.m2:Nat):Int))
def bH (S:PS)(b:Int):Str×PS:=match S.now with
 |.free k=>if aZ S=0 then (if b=0 then ("begins",{ S with now:= .speaks (S.wt.headD (0, [])).1 (S.wt.headD (0, [])).2 1 }) else cT S true) else if b=0 then ("",{ S with now:= .reads [0] }) else ("",{ S with now:= .free (k+1) })
 |.speaks n ds k=>if ans ((wr n ds).take k++[b])="six" then cT S true else if (wr n ds).getD k 0=1/\b=0/\(kp ((wr n ds).take k)).length<9 then ("loses",{ S with now:= .reads ((wr n ds).take k++[b]) }) else if b=(wr n ds).getD k 0 then (if k+1=(wr n ds).length then ("",{ S with now:= .tlS 0 0 }) else ("",{ S with now:= .speaks n ds (k+1) })) else cT S true
 |.reads h=>if ans (h++[b])="more" then ("",{ S with now:= .reads (h++[b]) }) else if ans (h++[b])="whole" then ("",{ S with now:= .tlR (nmB (kp (h++[b]))) (daB (kp (h++[b]))) 0 0 }) else cT S false
 |.tlS v c=>if cF S.vt true v c b="more" then ("",{ S with now:= .tlS (v+1) (tlN v b c) }) else if cF S.vt true v c b="fault" then cT S true else if cF S.vt true v c b="refused" then eQ S true else ("done",{ S with tot:=mvd S.tot (-1),wt:=S.wt.tail,now:= .rests 3 })
 |.tlR n ds v c=>if cF S.vt false v c b="more" then ("",{ S with now:= .tlR n ds (v+1) (tlN v b c) }) else if cF S.vt false v c b="fault" then cT S false else if cF S.vt false v c b="refused" then eQ S false else ("takes",{ S with tot:=mvd S.tot (-1),up:=if lH S n=true then S.up++[(n,ds)] else S.up,now:= .rests 3 })
 |.flag l m=>if l=1 then ("",{ S with now:= .settles m }) else ("",{ S with now:= .flag (l-1) m })
 |.settles m=>if b=1 then ("",{ S with now:= .rests 3 }) else if m=true then iG S else ("",S)
 |.rests l=>if b=0 then cT S false else ("",{ S with now:=if l=1 then .free 0 else .rests (l-1) })
 |.off=>("",S)
def FrN (f:Fr):Prop:=f.1<256/\f.2.length<=7/\f.2.all byt=true
def FrN.ok {f:Fr}(h:FrN f):oK (f.1:Int) f.2:=⟨gP.mpr ⟨by omega,by have:=h.1;omega⟩,h.2.1,h.2.2⟩
def Stc.Wf (wt:List Fr):Stc->Prop
 |.speaks n ds k=>FrN (n,ds)/\1<=k/\k<(wr n ds).length/\wt≠ []
 |.reads h=>bN h/\On h/\h.head? =some 0
 |.tlS _ _=>wt≠ []
 |.flag l _=>1<=l
 |.rests l=>1<=l
 |_=>True
structure Wf (S:PS):Prop where
 vt:S.vt<=5
 wt:∀f∈S.wt,FrN f
 now:S.now.Wf S.wt
def nm3 (hb:bN l):szB l<=7:=by
 unfold szB
 have h:=lK (jW hb 9 3)
 have h2:((l.drop 9).take 3).length<=3:=by rw[Yu];omega
 have h3:=YA (n:=2) (by decide) h2
 have:(2:Nat) ^ 3=8:=rfl
 omega
def b5Q (hb:bN h)(ho:On h):h.length<=170:=by
 have e:=a6J hb ho.good
 have l:=(mG (kp h)).2
 have s:=nm3 (uC hb)
 have k83:(kp h).length<=83:=by
  by_cases c:12<=(kp h).length
  ·have:=ho.le c;omega
  ·omega
 have:h.length<=(put (kp h)).length:=by
  rw[e]
  split
  ·rw[Yb];omega
  ·exact Yd _
 omega
def lW (h:FrN (n,ds)):Wr (wr n ds) (fb (n:Int) ds):=⟨rfl,pJ _ _,b9V h.1 h.2.1⟩
def lL (h:FrN (n,ds)):27<=(wr n ds).length/\(wr n ds).length<=166:=by
 have a:=lU (n:Int) ds
 have b:=mG (fb (n:Int) ds)
 have c:=h.2.1
 have c':ds.length<=7:=c
 show 27<=(put (fb (n:Int) ds)).length/\(put (fb (n:Int) ds)).length<=166
 omega
def a0G (n:Nat)(ds:List Int):(wr n ds).head? =some 0:=by
 show (put (fb (n:Int) ds)).head? =some 0
 rw[a6K]
 unfold fb hd hdD
 rfl
def tM:(wr n ds).take 1= [0]:=by
 have:=a0G n ds
 generalize wr n ds=w at this
 cases w with
 |nil=>cases this
 |cons a b=>exact YT (fun y=>[y]) (Yp this)
theorem b2X (h:FrN (n,ds)):∀k,k<(wr n ds).length->On ((wr n ds).take k)
 |0,_=>On.nil
 | k+1,hk=>by
  have ih:=b2X h k (by omega)
  have e:(wr n ds).take (k+1)=(wr n ds).take k++[(wr n ds)[k]]:=Yh (by omega)
  have m:=(lW h).more hk
  rw[e]at m ⊢
  exact ih.next m
def a3E (h6:¬ ans (w++[b])="six")(h9:(kp w).length<9):ans (w++[b])="more":=by
 have h1:¬ 5<run (w++[b]):=fun z=>h6 (pM z)
 refine jY h1 (.inr fun c=>?_)
 have:=c.1
 rw[gB]at this
 split at this
 ·omega
 ·rw[Yb,Yv]at this;omega
def qM {st:Int}{w:Str}{nx:Stc}(h:Wf S)(hn:nx.Wf S.wt):Wf (dY S st w nx).2:=by
 unfold dY
 split
 ·exact⟨h.vt,h.wt,trivial⟩
 ·exact⟨h.vt,h.wt,hn⟩
def Wf.hear (h:Wf S)(hb:b=0\/b=1):Wf (bH S b).2:=by
 have hf:∀sp,Wf (cT S sp).2:=fun sp=>qM h (by show 1<=6;decide)
 have hr:∀sp,Wf (eQ S sp).2:=fun sp=>qM h trivial
 have hn:=h.now
 unfold bH
 cases e:S.now with
 | free k =>
  dsimp only
  split
  ·rename_i c
   split
   ·refine⟨h.vt,h.wt,?_⟩
    have hw:S.wt≠ []:=fun z=>by
     unfold aZ at c
     rw[e]at c
     dsimp only at c
     rw[if_pos z]at c
     cases c
    cases ew:S.wt with
    |nil=>exact absurd ew hw
    | cons f r=>
     have hfn:=h.wt f (by rw[ew];exact Yq)
     have:=lL (n:=f.1) (ds:=f.2) hfn
     exact⟨hfn,Yd _,by show 1<(wr f.1 f.2).length;omega,by intro z;cases z⟩
   ·exact hf true
  ·split
   ·refine⟨h.vt,h.wt,⟨fun z hz=> .inl (Yi.mp hz),?_,rfl⟩⟩
    exact On.nil.next (b:=0) (by decide +kernel)
   ·exact⟨h.vt,h.wt,trivial⟩
 | speaks n ds k=>
  rw[e]at hn
  obtain⟨f1,f2,f3,f4⟩:=hn
  dsimp only
  split
  ·exact hf true
  rename_i c6
  split
  ·rename_i c
   have ho:=b2X f1 k f3
   refine⟨h.vt,h.wt,⟨?_,ho.next (a3E c6 c.2.2),?_⟩⟩
   ·exact jX (tO (lW f1).wbits) (fun z hz=>by rw[Yi.mp hz];exact hb)
   ·have hh:=a0G n ds
    generalize wr n ds=w at hh f3
    cases w with
    |nil=>cases hh
    | cons x y=>
     cases k with
     |zero=>cases f2
     |succ k=>exact hh
  split
  ·split
   ·exact⟨h.vt,h.wt,f4⟩
   ·exact⟨h.vt,h.wt,⟨f1,by omega,by omega,f4⟩⟩
  ·exact hf true
 | reads r=>
  rw[e]at hn
  obtain⟨f1,f2,f3⟩:=hn
  dsimp only
  split
  ·rename_i c
   refine⟨h.vt,h.wt,⟨jX f1 (fun z hz=>by rw[Yi.mp hz];exact hb),f2.next c,?_⟩⟩
   rw[Xf,f3];rfl
  split
  ·exact⟨h.vt,h.wt,trivial⟩
  ·exact hf false
 | tlS v c=>
  rw[e]at hn
  dsimp only
  split
  ·exact⟨h.vt,h.wt,hn⟩
  split
  ·exact hf true
  split
  ·exact hr true
  ·exact⟨h.vt,fun f hf=>h.wt f (List.mem_of_mem_tail hf),by show 1<=3;decide⟩
 | tlR n ds v c=>
  dsimp only
  split
  ·exact⟨h.vt,h.wt,trivial⟩
  split
  ·exact hf false
  split
  ·exact hr false
  ·exact⟨h.vt,h.wt,by show 1<=3;decide⟩
 | flag l m=>
  rw[e]at hn
  have hl:1<=l:=hn
  dsimp only
  split
  ·exact⟨h.vt,h.wt,trivial⟩
  ·exact⟨h.vt,h.wt,by show 1<=l-1;omega⟩
 | settles m=>
  dsimp only
  split
  ·exact⟨h.vt,h.wt,by show 1<=3;decide⟩
  split
  ·exact qM h trivial
  ·exact h
 | rests l=>
  rw[e]at hn
  have hl:1<=l:=hn
  dsimp only
  split
  ·exact hf false
  ·refine⟨h.vt,h.wt,?_⟩
   show Stc.Wf S.wt (if l=1 then .free 0 else .rests (l-1))
   split
   ·trivial
   ·show 1<=l-1;omega
 |off=>exact h
def a4A (H:Hp)(o:Own)(t:Addr)(f:Fr):Prop:=∃d,H t=some (.tup [.int ((f.1:Nat):Int),.ref d])/\H d=some (.lst (f.2.map V.int))/\o d
inductive dG (H:Hp)(o:Own):List V->List Fr->Prop
 |nil:dG H o [] []
 |cons {t:Addr} {f:Fr} {ts:List V} {fs:List Fr}:a4A H o t f->dG H o ts fs->dG H o (.ref t::ts) (f::fs)
theorem dG.len:∀{ts:List V}{fs:List Fr},dG H o ts fs->ts.length=fs.length
 |_,_,.nil=>rfl
 |_,_,.cons _ r=>YT (·+1) r.len
theorem dG.snoc {f:Fr}:∀{ts:List V}{fs:List Fr},dG H o ts fs->a4A H o t f->dG H o (ts++[.ref t]) (fs++[f])
 |_,_,.nil,h=> .cons h .nil
 |_,_,.cons a r,h=> .cons a (r.snoc h)
def a4A.imp {f:Fr}(h:a4A H o t f)(g:∀x v,H x=some v->(o x\/isT v)->H' x=some v)(w:∀x,o x->o' x):a4A H' o' t f:=by
 obtain⟨d,e1,e2,e3⟩:=h
 exact⟨d,g _ _ e1 (.inr ⟨_,rfl⟩),g _ _ e2 (.inl e3),w d e3⟩
theorem dG.imp (g:∀x v,H x=some v->(o x\/isT v)->H' x=some v)(w:∀x,o x->o' x):∀{ts:List V}{fs:List Fr},dG H o ts fs->dG H' o' ts fs
 |_,_,.nil=> .nil
 |_,_,.cons a r=> .cons (a.imp g w) (r.imp g w)
theorem dG.get:∀{ts:List V}{fs:List Fr},dG H o ts fs->∀{i:Nat}{v:V},ts[i]? =some v->∃t f,v= .ref t/\fs[i]? =some f/\a4A H o t f
 |_,_,.cons a _,0,_,rfl=>⟨_,_,rfl,rfl,a⟩
 |_,_,.cons _ r,i+1,_,h=>r.get (i:=i) h
abbrev pF (ch:Addr)(vt:Nat)(wl ul ct nw:Addr):List (Str×V):=[("choice",.ref ch),("votes",.int vt),("waiting",.ref wl),("handed_up",.ref ul),("tally",.ref ct),("now",.ref nw)]
abbrev Dl (o:Own)(wl ul:Addr):Own:=fun x=>o x/\x≠wl/\x≠ul
structure BAt (A:Cs)(H:Hp)(p nwf:Addr)(S:PS)(o:Own)(dx ch wl ul ct:Addr)(ws us:List V):Prop where
 e:H p=some (.ins A.post dx (pF ch S.vt wl ul ct nwf))
 ec:H ch=some (.tup [.int S.m1,.int S.m2])
 ew:H wl=some (.lst ws)
 fw:dG H (Dl o wl ul) ws S.wt
 eu:H ul=some (.lst us)
 fu:dG H (Dl o wl ul) us S.up
 et:rK A.count H ct S.tot
 op:o p
 ow:o wl
 ou:o ul
 ot:o ct
 ne:wl≠ul
 al:∀x,o x->H x≠none
def Bd (A:Cs)(H:Hp)(p nwf:Addr)(S:PS)(o:Own):Prop:=∃dx ch wl ul ct ws us,BAt A H p nwf S o dx ch wl ul ct ws us
def BAt.move {ch ct:Addr}(h:BAt A H p nwf S o dx ch wl ul ct ws us)(g:∀x v,H x=some v->(o x\/isT v)->H' x=some v):BAt A H' p nwf S o dx ch wl ul ct ws us:=
 ⟨g _ _ h.e (.inl h.op),g _ _ h.ec (.inr ⟨_,rfl⟩),g _ _ h.ew (.inl h.ow),h.fw.imp (fun x v e z=>g x v e (z.imp_left And.left)) fun _ z=>z,g _ _ h.eu (.inl h.ou),h.fu.imp (fun x v e z=>g x v e (z.imp_left And.left)) fun _ z=>z,
  let ⟨d,e⟩:=h.et;⟨d,g _ _ e (.inl h.ot)⟩,h.op,h.ow,h.ou,h.ot,h.ne,fun x hx=>by
   have:=h.al x hx
   cases e:H x with
   |none=>exact absurd e this
   |some v=>rw[g x v e (.inl hx)];simp⟩
def Bd.move (h:Bd A H p nwf S o)(g:∀x v,H x=some v->(o x\/isT v)->H' x=some v):Bd A H' p nwf S o:=
 let ⟨dx,ch,wl,ul,ct,ws,us,b⟩:=h;⟨dx,ch,wl,ul,ct,ws,us,b.move g⟩
def Bd.al (h:Bd A H p nwf S o):∀x,o x->H x≠none:=let ⟨_,_,_,_,_,_,_,b⟩:=h;b.al
def Bd.op (h:Bd A H p nwf S o):o p:=let ⟨_,_,_,_,_,_,_,b⟩:=h;b.op
def Bd.now {S':PS}(h:Bd A H p nwf S o)(e1:S'.m1=S.m1)(e2:S'.m2=S.m2)(e3:S'.vt=S.vt)(e4:S'.wt=S.wt)(e5:S'.up=S.up)(e6:S'.tot=S.tot):Bd A H p nwf S' o:=by
 obtain⟨dx,ch,wl,ul,ct,ws,us,b⟩:=h
 exact⟨dx,ch,wl,ul,ct,ws,us,by rw[e3];exact b.e,by rw[e1,e2];exact b.ec,b.ew,by rw[e4];exact b.fw,b.eu,by rw[e5];exact b.fu,by rw[e6];exact b.et,b.op,b.ow,b.ou,b.ot,b.ne,b.al⟩
def b7M (A:Cs)(H:Hp)(nw:Addr)(vt:Nat)(o:Own):Stc->Prop
 |.free k=>∃dx,H nw=some (.ins A.free dx [("since",.int ((k:Nat):Int))])
 |.speaks n ds k=>∃dx wa r st ks t,H nw=some (.ins A.speaks dx [("wire",.ref wa),("reader",.ref r),("many",.int ((k:Nat):Int))])/\H wa=some (.lst ((wr n ds).map V.int))/\iC A.reader A.streak H r st ks ((wr n ds).take k) t/\wa≠ks/\o wa/\o r/\o st/\o ks
 |.reads h=>∃dx r st ks t,H nw=some (.ins A.reads dx [("reader",.ref r),("many",.int ((h.length:Nat):Int))])/\iC A.reader A.streak H r st ks h t/\o r/\o st/\o ks
 |.tlS v c=>∃dx tl,H nw=some (.ins A.intail dx [("tail",.ref tl),("found",.non)])/\pA A.rtail A.stail H tl vt true v c/\o tl
 |.tlR n ds v c=>∃dx tl t d,H nw=some (.ins A.intail dx [("tail",.ref tl),("found",.ref t)])/\pA A.rtail A.stail H tl vt false v c/\H t=some (.tup [.int ((n:Nat):Int),.ref d])/\H d=some (.lst (ds.map V.int))/\o tl/\o d
 |.flag l m=>∃dx,H nw=some (.ins A.flag dx [("left",.int ((l:Nat):Int)),("may_blame",.bl m)])
 |.settles m=>∃dx,H nw=some (.ins A.settles dx [("may_blame",.bl m)])
 |.rests l=>∃dx,H nw=some (.ins A.rests dx [("left",.int ((l:Nat):Int))])
 |.off=>∃dx,H nw=some (.ins A.off dx [])
structure StW (A:Cs)(H:Hp)(nw:Addr)(S:PS)(o:Own):Prop where
 at_:b7M A H nw S.vt o S.now
 on:o nw
 al:∀x,o x->H x≠none
def a0P {t:Str}(h:iC C CK H r st ks w t)(g1:∀v,H r=some v->H' r=some v)(g2:∀v,H st=some v->H' st=some v)(g3:∀v,H ks=some v->H' ks=some v):iC C CK H' r st ks w t:=
 ⟨let ⟨d,e⟩:=h.rd;⟨d,g1 _ e⟩,let ⟨d,e⟩:=h.sk;⟨d,g2 _ e⟩,g3 _ h.kp⟩
def StW.move (h:StW A H nw S o)(g:∀x v,H x=some v->(o x\/isT v)->H' x=some v):StW A H' nw S o:=by
 obtain⟨a,on,al⟩:=h
 have gn:∀v,H nw=some v->H' nw=some v:=fun v e=>g _ _ e (.inl on)
 refine⟨?_,on,fun x hx=>?_⟩
 ·revert a
  generalize S.now=s
  cases s with
  |free k=>intro hh;obtain⟨dx,e⟩:=hh;exact⟨dx,gn _ e⟩
  |speaks n ds k=>intro hh;obtain⟨dx,wa,r,st,ks,t,e,e1,e2,e3,o1,o2,o3,o4⟩:=hh;exact⟨dx,wa,r,st,ks,t,gn _ e,g _ _ e1 (.inl o1),a0P e2 (fun v z=>g _ _ z (.inl o2)) (fun v z=>g _ _ z (.inl o3)) (fun v z=>g _ _ z (.inl o4)),e3,o1,o2,o3,o4⟩
  |reads w=>intro hh;obtain⟨dx,r,st,ks,t,e,e2,o2,o3,o4⟩:=hh;exact⟨dx,r,st,ks,t,gn _ e,a0P e2 (fun v z=>g _ _ z (.inl o2)) (fun v z=>g _ _ z (.inl o3)) (fun v z=>g _ _ z (.inl o4)),o2,o3,o4⟩
  |tlS v c=>intro hh;obtain⟨dx,tl,e,⟨C,d,hC,e1⟩,o1⟩:=hh;exact⟨dx,tl,gn _ e,⟨C,d,hC,g _ _ e1 (.inl o1)⟩,o1⟩
  |tlR n ds v c=>intro hh;obtain⟨dx,tl,t,d,e,⟨C,d',hC,e1⟩,e2,e3,o1,o2⟩:=hh;exact⟨dx,tl,t,d,gn _ e,⟨C,d',hC,g _ _ e1 (.inl o1)⟩,g _ _ e2 (.inr ⟨_,rfl⟩),g _ _ e3 (.inl o2),o1,o2⟩
  |flag l m=>intro hh;obtain⟨dx,e⟩:=hh;exact⟨dx,gn _ e⟩
  |settles m=>intro hh;obtain⟨dx,e⟩:=hh;exact⟨dx,gn _ e⟩
  |rests l=>intro hh;obtain⟨dx,e⟩:=hh;exact⟨dx,gn _ e⟩
  |off=>intro hh;obtain⟨dx,e⟩:=hh;exact⟨dx,gn _ e⟩
 ·have:=al x hx
  cases e:H x with
  |none=>exact absurd e this
  |some v=>rw[g x v e (.inl hx)];simp
def bW (A:Cs)(H:Hp)(p:Addr)(S:PS)(o:Own):Prop:=∃nw ob os,Bd A H p nw S ob/\StW A H nw S os/\(∀x,ob x->os x->False)/\Wf S/\(∀x,ob x\/os x->o x)/\∀x,o x->H x≠none
def bW.move (h:bW A H p S o)(g:∀x v,H x=some v->(o x\/isT v)->H' x=some v):bW A H' p S o:=by
 obtain⟨nw,ob,os,b,s,d,w,i,al⟩:=h
 refine⟨nw,ob,os,b.move fun x v e z=>g x v e (z.imp_left fun y=>i x (.inl y)),s.move fun x v e z=>g x v e (z.imp_left fun y=>i x (.inr y)),d,w,i,fun x hx=>?_⟩
 have:=al x hx
 cases e:H x with
 |none=>exact absurd e this
 |some v=>rw[g x v e (.inl hx)];simp
def bW.same (h:bW A H p S o)(g:Same H H'):bW A H' p S o:=h.move fun x v e _=>g x v e
def bW.wf (h:bW A H p S o):Wf S:=let ⟨_,_,_,_,_,_,w,_,_⟩:=h;w
def bW.al (h:bW A H p S o):∀x,o x->H x≠none:=let ⟨_,_,_,_,_,_,_,_,a⟩:=h;a
def at0 {v:V}:atI (v::vs) (0:Int)=some v:=cO (j:=0) rfl
def sq0 {v:V}:seqIndex? (0:Int) (v::vs).length=some 0:=by
 unfold seqIndex?
 rw[YE]
 simp
def jF (H:Hp)(a:Addr)(x y:HO):upd (upd H a x) a y=upd H a y:=by
 funext z
 by_cases h:z=a
 ·rw[h,aC,aC]
 ·rw[aH h,aH h,aH h]
def yJ (C:Addr)(f:Str):Sp:=fun vs H Q _=>∃a dx v,vs= [.ref a,v]/\H a=some (.ins C dx [])/\∀H',H'=upd H a (.ins C dx [(f,v)])->Q .non H'
def yI (C:Addr)(f g:Str):Sp:=fun vs H Q _=>∃a dx v w,vs= [.ref a,v,w]/\H a=some (.ins C dx [])/\∀H',H'=upd H a (.ins C dx [(f,v),(g,w)])->Q .non H'
def b4O (C:Addr)(f g h:Str):Sp:=fun vs H Q _=>∃a dx v w z,vs= [.ref a,v,w,z]/\H a=some (.ins C dx [])/\∀H',H'=upd H a (.ins C dx [(f,v),(g,w),(h,z)])->Q .non H'
def b0N (A:Cs):Sp:=fun vs H Q _=>vs= []/\∀r st ks H' t,iC A.reader A.streak H' r st ks [0] t->Same H H'->H r=none->H st=none->H ks=none->Q (.ref r) H'
def b3F (A:Cs)(lim:Int):Sp:=fun vs H Q _=>∃p nwf S o,vs= [.ref p]/\Bd A H p nwf S o/\Q (.bl (decide (lim<=S.tot))) H
def b8I (A:Cs):Sp:=fun vs H Q _=>∃p nwf S o,vs= [.ref p]/\Bd A H p nwf S o/\Q (.int S.tot) H
def b8E (A:Cs):Sp:=fun vs H Q _=>∃p nwf S o,vs= [.ref p]/\Bd A H p nwf S o/\Q (.bl (decide (0<(S.wt.length:Int)))) H
def yK (A:Cs):Sp:=fun vs H Q _=>∃p nwf S o f r,vs= [.ref p]/\Bd A H p nwf S o/\S.wt=f::r/\FrN f/\∀pw H',H pw=none->Same H H'->H' pw=some (.lst ((wr f.1 f.2).map V.int))->Q (.ref pw) H'
def b4Q (A:Cs):Sp:=fun vs H Q _=>∃p nwf S o,vs= [.ref p]/\Bd A H p nwf S o/\S.wt≠ []/\∀H',Bd A H' p nwf { S with wt:=S.wt.tail } o->cL o H H'->Q .non H'
def a5T (A:Cs):Sp:=fun vs H Q _=>∃p nwf S o t d n ds,vs= [.ref p,.ref t]/\Bd A H p nwf S o/\H t=some (.tup [.int ((n:Nat):Int),.ref d])/\H d=some (.lst (ds.map V.int))/\¬ o d/\S.up.length<900/\
 ∀H',Bd A H' p nwf { S with up:=if lH S n=true then S.up++[(n,ds)] else S.up } (Or2 o fun x=>x=d)->cL o H H'->Q .non H'
def b4P (K:W.Frag)(A:Cs)(C:Addr):Sp:=fun vs H Q E=>∃p nwf S o n a ds,vs= [.ref p,.int n,.ref a]/\Bd A H p nwf S o/\SqL K H a (ds.map V.int)/\ds.length<=500/\S.wt.length<900/\
 (oK n ds->∀H' d,H d=none->Bd A H' p nwf { S with wt:=S.wt++[(n.toNat,ds)] } (Or2 o fun x=>x=d)->cL o H H'->Q .non H')/\(¬ oK n ds->∀H',Same H H'->False)
inductive eO (H H':Hp):List V->List Fr->Prop
 |nil:eO H H' [] []
 |cons {t d:Addr} {f:Fr} {ts:List V} {fs:List Fr}:H t=none->H d=none->H' t=some (.tup [.int ((f.1:Nat):Int),.ref d])->H' d=some (.lst (f.2.map V.int))->eO H H' ts fs->eO H H' (.ref t::ts) (f::fs)
theorem eO.snoc {d:Addr}{f:Fr}(h1:H t=none)(h2:H d=none)(e1:H' t=some (.tup [.int ((f.1:Nat):Int),.ref d]))(e2:H' d=some (.lst (f.2.map V.int))):∀{ts:List V}{fs:List Fr},eO H H' ts fs->eO H H' (ts++[.ref t]) (fs++[f])
 |_,_,.nil=> .cons h1 h2 e1 e2 .nil
 |_,_,.cons a1 a2 a3 a4 r=> .cons a1 a2 a3 a4 (r.snoc h1 h2 e1 e2)
theorem eO.same {H2:Hp}(g:Same H' H2):∀{ts:List V}{fs:List Fr},eO H H' ts fs->eO H H2 ts fs
 |_,_,.nil=> .nil
 |_,_,.cons a1 a2 a3 a4 r=> .cons a1 a2 (g _ _ a3) (g _ _ a4) (r.same g)
theorem eO.len:∀{ts:List V}{fs:List Fr},eO H H' ts fs->ts.length=fs.length
 |_,_,.nil=>rfl
 |_,_,.cons _ _ _ _ r=>YT (·+1) r.len
def a5W (K:W.Frag):Sp:=fun vs H Q _=>∃(a:Addr)(ts:List V)(fs:List Fr)(o:Own),vs= [.ref a]/\H a=some (.lst ts)/\dG H o ts fs/\fs.length<=900/\∀l xs H',H l=none->Same H H'->H' l=some (.lst xs)->eO H H' xs fs->Q (.ref l) H'
def b0B (A:Cs):Sp:=fun vs H Q _=>∃p nwf S o,vs= [.ref p]/\Bd A H p nwf S o/\S.wt.length<=900/\∀l xs H',H l=none->Same H H'->H' l=some (.lst xs)->eO H H' xs S.wt->Q (.ref l) H'
def a4Z (A:Cs):Sp:=fun vs H Q _=>∃p nwf S o w nx,vs= [.ref p,.str w,.ref nx]/\Bd A H p nwf S o/\(¬ 18<=S.tot->∀t H',Same H H'->H' t=some (.tup [.str w,.ref nx])->Q (.ref t) H')/\
 (18<=S.tot->∀t nw dx H',Same H H'->H nw=none->H' nw=some (.ins A.off dx [])->H' t=some (.tup [.str "off",.ref nw])->Q (.ref t) H')
def Aft (A:Cs)(H:Hp)(p nwf:Addr)(o:Own)(r:Str×PS)(t:Addr)(H':Hp):Prop:=∃nw' os',H' t=some (.tup [.str r.1,.ref nw'])/\Bd A H' p nwf r.2 o/\StW A H' nw' r.2 os'/\(∀x,os' x->H x=none)/\cL o H H'
def Stp (A:Cs)(H:Hp)(p nwf:Addr)(ob os:Own)(r:Str×PS)(t:Addr)(H':Hp):Prop:=∃nw' ob' os',H' t=some (.tup [.str r.1,.ref nw'])/\Bd A H' p nwf r.2 ob'/\StW A H' nw' r.2 os'/\(∀x,ob' x->os' x->False)/\Mv (Or2 ob os) H (Or2 ob' os') H'
def b0I (A:Cs):Sp:=fun vs H Q _=>∃p nwf S o sp,vs= [.ref p,.bl sp]/\Bd A H p nwf S o/\∀t H',Aft A H p nwf o (cT S sp) t H'->Q (.ref t) H'
def a2K (A:Cs):Sp:=fun vs H Q _=>∃p nwf S o sp,vs= [.ref p,.bl sp]/\Bd A H p nwf S o/\∀t H',Aft A H p nwf o (eQ S sp) t H'->Q (.ref t) H'
def b0M (A:Cs):Sp:=fun vs H Q _=>∃p nwf S o,vs= [.ref p]/\Bd A H p nwf S o/\∀t H',Aft A H p nwf o (iG S) t H'->Q (.ref t) H'
def mO {o o':Own}(k:cL o H H')(n:H' x=none):o x\/H x=none:=by
 rcases Classical.em (o x) with c | c
 ·exact .inl c
 ·right
  cases e:H x with
  |none=>rfl
  |some v=>rw[k x v e (.inl c)]at n;cases n
def Aft.stp {r:Str×PS}(h:Aft A H p nwf ob r t H')(k:cL (Or2 ob os) H0 H)(b:Bd A H p nwf S ob):Stp A H0 p nwf ob os r t H':=by
 obtain⟨nw',os',e,bd,st,fr,kp⟩:=h
 refine⟨nw',ob,os',e,bd,st,fun x hx hy=>b.al x hx (fr x hy),fun x v ex z=>?_,fun x hx=>?_⟩
 ·exact kp x v (k x v ex z) (z.imp_left fun y w=>y (.inl w))
 ·rcases hx with hx | hx
  ·exact .inl (.inl hx)
  ·exact mO (o':=ob) k (fr x hx)
def Bd.count {ct:Addr}{ch:Addr}{n:Int}(b:BAt A H p nwf S o dx ch wl ul ct ws us)(c:rK A.count H' ct n)(k:∀x,x≠ct->H' x=H x):Bd A H' p nwf { S with tot:=n } o/\cL o H H':=by
 have ne:∀{x:Addr}{v:HO},H x=some v->(∀C d,v≠ .ins C d (ctF S.tot))->x≠ct:=fun {x v} e h z=>by
  obtain⟨d,q⟩:=b.et
  rw[z,q]at e
  exact h _ _ (Yp e).symm
 have kk:cL o H H':=fun x v e z=>by
  rw[k x]
  ·exact e
  ·rintro rfl
   rcases z with z | ⟨vs,rfl⟩
   ·exact z b.ot
   ·obtain⟨d,q⟩:=b.et
    rw[q]at e;cases e
 have lk:∀{x:Addr}{l:List V},H x=some (.lst l)->H' x=some (.lst l):=fun {x l} e=>by rw[k x (ne e fun C d z=>nomatch z)];exact e
 have fk:∀{ts:List V}{fs:List Fr},dG H (Dl o wl ul) ts fs->dG H' (Dl o wl ul) ts fs:=fun {ts fs} h=>by
  induction h with
  |nil=>exact .nil
  | cons a _ ih=>
   obtain⟨d,e1,e2,e3⟩:=a
   exact .cons ⟨d,kk.tup e1,lk e2,e3⟩ ih
 refine⟨⟨dx,ch,wl,ul,ct,ws,us,?_,kk.tup b.ec,lk b.ew,fk b.fw,lk b.eu,fk b.fu,c,b.op,b.ow,b.ou,b.ot,b.ne,fun x hx=>?_⟩,kk⟩
 ·rw[k p (ne b.e fun C d z=>by cases z)];exact b.e
 ·by_cases h:x=ct
  ·obtain⟨d,q⟩:=c
   rw[h,q];simp
  ·rw[k x h];exact b.al x hx
def a4Y (K:W.Frag):Sp:=fun vs H Q _=>∃(c:Addr)(m t n:Int),vs= [.ref c,.int n]/\H c=some (.tup [.int m,.int t])/\Q (.bl (decide (Builtin.bitAnd n m=t))) H
def a5X (K:W.Frag)(C:Addr):Sp:=fun vs H Q E=>∃(a:Addr)(ns:List Int),vs= [.ref a]/\SqT K H a (ns.map V.int)/\ns.length<=500/\(ns.all byt=true->∀H',Same H H'->Q .non H')/\(¬ ns.all byt=true->∀H',Same H H'->False)
def S0 (m1 m2 v:Nat):PS:=⟨m1,m2,v, [], [],0,.free 0⟩
def a3Z (m1 m2 v:Int):Prop:=byt m1=true/\byt m2=true/\(v=1\/v=3\/v=5)
def yG (K:W.Frag)(A:Cs)(C:Addr):Sp:=fun vs H Q E=>∃(a dx ch:Addr)(m1 m2 v:Int),vs= [.ref a,.ref ch,.int v]/\H a=some (.ins A.post dx [])/\H ch=some (.tup [.int m1,.int m2])/\
 (a3Z m1 m2 v->∀H' o,bW A H' a (S0 m1.toNat m2.toNat v.toNat) o->(∀x,o x->x=a\/H x=none)->(∀x u,x≠a->H x=some u->H' x=some u)->Q .non H')/\(¬ a3Z m1 m2 v->∀H':Hp,(∀x u,x≠a->H x=some u->H' x=some u)->False)
def Bd.grow {d:Addr}{v:HO}(h:Bd A H p nwf S o)(e:H d=some v):Bd A H p nwf S (Or2 o fun x=>x=d):=by
 obtain⟨dx,ch,wl,ul,ct,ws,us,b⟩:=h
 refine⟨dx,ch,wl,ul,ct,ws,us,b.e,b.ec,b.ew,b.fw.imp (fun x v e _=>e) (fun x z=>⟨.inl z.1,z.2⟩),b.eu,b.fu.imp (fun x v e _=>e) (fun x z=>⟨.inl z.1,z.2⟩),b.et,.inl b.op,.inl b.ow,.inl b.ou,.inl b.ot,b.ne,fun x hx=>?_⟩
 rcases hx with hx | hx
 ·exact b.al x hx
 ·have hx':x=d:=hx
  rw[hx',e];simp
theorem wN {ch ct:Addr}(b:BAt A H p nwf S o dx ch wl ul ct ws us)(ha:a=wl\/a=ul):
  cL o H (upd H a (.lst ys))/\upd H a (.lst ys) p=H p/\upd H a (.lst ys) ch=H ch/\upd H a (.lst ys) ct=H ct/\(∀{ts:List V}{fs:List Fr},dG H (Dl o wl ul) ts fs->dG (upd H a (.lst ys)) (Dl o wl ul) ts fs)/\∀x,o x->upd H a (.lst ys) x≠none:=by
 have ea:∃l,H a=some (.lst l):=ha.elim (fun z=>⟨_,z▸b.ew⟩) fun z=>⟨_,z▸b.eu⟩
 obtain⟨l,ea⟩:=ea
 have oa:o a:=ha.elim (fun z=>z▸b.ow) fun z=>z▸b.ou
 have kk:cL o H (upd H a (.lst ys)):=fun x v e z=>by
  rw[aH]
  ·exact e
  ·rintro rfl
   rcases z with z | ⟨vs,rfl⟩
   ·exact z oa
   ·rw[ea]at e;cases e
 have nl:∀{x:Addr}{v:HO},H x=some v->(∀l,v≠ .lst l)->upd H a (.lst ys) x=H x:=fun {x v} e h=>by
  rw[aH]
  rintro rfl
  rw[ea]at e
  exact h _ (Yp e).symm
 refine⟨kk,nl b.e (fun l z=>nomatch z),nl b.ec (fun l z=>nomatch z),(let ⟨d,e⟩:=b.et;nl e fun l z=>nomatch z),fun {ts fs} h=>?_,fun x hx=>?_⟩
 ·induction h with
  |nil=>exact .nil
  | cons a' _ ih=>
   obtain⟨d,e1,e2,e3⟩:=a'
   refine .cons ⟨d,kk.tup e1,?_,e3⟩ ih
   rw[aH (ha.elim (fun z=>z▸e3.2.1) fun z=>z▸e3.2.2)]
   exact e2
 ·by_cases h:x=a
  ·rw[h,aC];simp
  ·rw[aH h];exact b.al x hx
def Stc.tag:Stc->Nat
 |.free _=>0
 |.speaks _ _ _=>1
 |.reads _=>2
 |.tlS _ _=>3
 |.tlR _ _ _ _=>3
 |.flag _ _=>4
 |.settles _=>5
 |.rests _=>6
 |.off=>7
def cQ (A:Cs)(i:Nat):Sp:=fun vs H Q _=>∃nw p nwf S ob os,vs= [.ref nw,.ref p]/\S.now.tag=i/\Bd A H p nwf S ob/\StW A H nw S os/\Wf S/\Q (.int (aZ S)) H
def cP (A:Cs)(i:Nat):Sp:=fun vs H Q _=>∃nw p nwf S ob os b,vs= [.ref nw,.int b,.ref p]/\S.now.tag=i/\Bd A H p nwf S ob/\StW A H nw S os/\(∀x,ob x->os x->False)/\Wf S/\(b=0\/b=1)/\S.up.length<900/\∀t H',Stp A H p nwf ob os (bH S b) t H'->Q (.ref t) H'
structure Bef (S S':PS):Prop where
 e1:S'.m1=S.m1
 e2:S'.m2=S.m2
 e3:S'.vt=S.vt
 e4:S'.wt=S.wt
 e5:S'.up=S.up
 e6:S'.tot=S.tot
def Stp.go {os':Own}{r:Str×PS}(b:Bd A H0 p nwf S ob)(dj:∀x,ob x->os x->False)(k:cL os H0 H1)(g:Same H1 H')(e:H' t=some (.tup [.str r.1,.ref nw']))(f:Bef S r.2)(st:StW A H' nw' r.2 os')(fr:∀x,os' x->os x\/H1 x=none):Stp A H0 p nwf ob os r t H':=by
 have b1:Bd A H1 p nwf S ob:=b.move fun x v e z=>k x v e (z.imp_left fun y w=>dj x y w)
 refine⟨nw',ob,os',e,(b1.move fun x v e _=>g x v e).now f.e1 f.e2 f.e3 f.e4 f.e5 f.e6,st,fun x hx hy=>?_,fun x v ex z=>g x v (k x v ex (z.imp_left fun y w=>y (.inr w))),fun x hx=>?_⟩
 ·exact(fr x hy).elim (dj x hx) (b1.al x hx)
 ·rcases hx with hx | hx
  ·exact .inl (.inl hx)
  ·rcases fr x hx with h | h
   ·exact .inl (.inr h)
   ·exact(mO (o':=ob) k h).imp_left .inr
def Stp.go2 {ob' os':Own}{r:Str×PS}(b:Bd A H1 p nwf r.2 ob')(k:cL (Or2 ob os) H0 H1)(g:Same H1 H')(e:H' t=some (.tup [.str r.1,.ref nw']))(st:StW A H' nw' r.2 os')(fr:∀x,os' x->H1 x=none)(fo:∀x,ob' x->Or2 ob os x\/H0 x=none):Stp A H0 p nwf ob os r t H':=by
 refine⟨nw',ob',os',e,b.move fun x v e _=>g x v e,st,fun x hx hy=>b.al x hx (fr x hy),fun x v ex z=>g x v (k x v ex z),fun x hx=>?_⟩
 rcases hx with hx | hx
 ·exact fo x hx
 ·exact mO (o':=ob) k (fr x hx)
def gM {v:HO}(e:H nw=some v)(h:b7M A H nw S.vt (fun x=>x=nw) S.now):StW A H nw S (fun x=>x=nw):=⟨h,rfl,fun x hx=>by
 have hx':x=nw:=hx
 rw[hx',e];simp⟩
def lZ (e:S.now= .free k):aZ S=if S.wt= [] then 1 else if 12<=S.tot/\k<8 then 1 else 0:=by unfold aZ;rw[e]
def a5P (A:Cs):Sp:=fun vs H Q _=>∃p S o,vs= [.ref p]/\bW A H p S o/\Q (.int (aZ S)) H
def a5Q (A:Cs):Sp:=fun vs H Q _=>∃p S o b,vs= [.ref p,.int b]/\bW A H p S o/\(b=0\/b=1)/\S.up.length<900/\∀H' o',bW A H' p (bH S b).2 o'->Mv o H o' H'->Q (.str (bH S b).1) H'
def qH {y D dy:Addr}{fs gs:List (Str×V)}{v:V}(f:Str)(e1:H x=some (.ins C dx fs))(e2:H y=some (.ins D dy gs))(h1:fs.lookup f=some v)(h2:gs.lookup f=none):x≠y:=fun z=>by
 rw[z,e2]at e1
 have:=Yp e1
 injection this with _ _ h
 rw[<-h,h2]at h1
 cases h1
def a0Z {y:Addr}{fs:List (Str×V)}{l:List V}(e1:H x=some (.ins C dx fs))(e2:H y=some (.lst l)):x≠y:=fun z=>by
 rw[z,e2]at e1
 cases e1
def a1F {t:Str}(h:iC C CK H r st ks w t)(b:b2S H H1 r st ks)(o1:o r)(o2:o st)(o3:o ks):cL o H H1:=fun x v e z=>by
 refine b x v ?_ ?_ ?_ e
 ·rintro rfl
  rcases z with z | ⟨vs,rfl⟩
  ·exact z o1
  ·obtain⟨d,q⟩:=h.rd;rw[q]at e;cases e
 ·rintro rfl
  rcases z with z | ⟨vs,rfl⟩
  ·exact z o2
  ·obtain⟨d,q⟩:=h.sk;rw[q]at e;cases e
 ·rintro rfl
  rcases z with z | ⟨vs,rfl⟩
  ·exact z o3
  ·rw[h.kp]at e;cases e
def a1E {tl:Addr}{c:Nat}{s:Bool}(h:pA C1 C2 H tl v s n c)(b:a9J H H1 tl)(o1:o tl):cL o H H1:=fun x u e z=>by
 refine b x u ?_ e
 rintro rfl
 rcases z with z | ⟨vs,rfl⟩
 ·exact z o1
 ·obtain⟨C,d,_,q⟩:=h;rw[q]at e;cases e
def pG (bd:Bd A H p nwf S ob)(dj:∀x,ob x->os x->False)(k:cL os H H1):Bd A H1 p nwf S ob:=bd.move fun x v e z=>k x v e (z.imp_left fun y w=>dj x y w)
def getD_get (h:k<w.length):w.getD k 0=w[k]:=by rw[Ye,Yc h];rfl
def kI {r:Str×PS}{v:HO}(b:Bd A H0 p nwf S ob)(dj:∀x,ob x->os x->False)(k:cL os H0 H1)(g:Same H1 H')(e:H' t=some (.tup [.str r.1,.ref nw']))(f:Bef S r.2)(hn:H1 nw'=none)(en:H' nw'=some v)(sa:b7M A H' nw' r.2.vt (fun x=>x=nw') r.2.now):Stp A H0 p nwf ob os r t H':=
 Stp.go b dj k g e f (gM en sa) fun x hx=> .inr (by have hx':x=nw':=hx;rw[hx'];exact hn)
def jB (e:S.now= .free k):bH S b=(if aZ S=0 then (if b=0 then ("begins",{ S with now:= .speaks (S.wt.headD (0, [])).1 (S.wt.headD (0, [])).2 1 }) else cT S true) else if b=0 then ("",{ S with now:= .reads [0] }) else ("",{ S with now:= .free (k+1) }):Str×PS):=by unfold bH;rw[e]
def sS {l:Nat}{m:Bool}(e:S.now= .flag l m):bH S b=(if l=1 then ("",{ S with now:= .settles m }) else ("",{ S with now:= .flag (l-1) m }):Str×PS):=by unfold bH;rw[e]
def mX {m:Bool}(e:S.now= .settles m):bH S b=(if b=1 then ("",{ S with now:= .rests 3 }) else if m=true then iG S else ("",S):Str×PS):=by unfold bH;rw[e]
def lO {l:Nat}(e:S.now= .rests l):bH S b=(if b=0 then cT S false else ("",{ S with now:=if l=1 then .free 0 else .rests (l-1) }):Str×PS):=by unfold bH;rw[e]
def wQ (e:S.now= .off):bH S b=(("",S):Str×PS):=by unfold bH;rw[e]
def lQ (e:S.now= .reads h):bH S b=(if ans (h++[b])="more" then ("",{ S with now:= .reads (h++[b]) }) else if ans (h++[b])="whole" then ("",{ S with now:= .tlR (nmB (kp (h++[b]))) (daB (kp (h++[b]))) 0 0 }) else cT S false:Str×PS):=by unfold bH;rw[e]
def iU (e:S.now= .speaks n ds k):bH S b=(if ans ((wr n ds).take k++[b])="six" then cT S true else if (wr n ds).getD k 0=1/\b=0/\(kp ((wr n ds).take k)).length<9 then ("loses",{ S with now:= .reads ((wr n ds).take k++[b]) }) else if b=(wr n ds).getD k 0 then (if k+1=(wr n ds).length then ("",{ S with now:= .tlS 0 0 }) else ("",{ S with now:= .speaks n ds (k+1) })) else cT S true:Str×PS):=by unfold bH;rw[e]
def mV {c:Nat}(e:S.now= .tlS v c):bH S b=(if cF S.vt true v c b="more" then ("",{ S with now:= .tlS (v+1) (tlN v b c) }) else if cF S.vt true v c b="fault" then cT S true else if cF S.vt true v c b="refused" then eQ S true else ("done",{ S with tot:=mvd S.tot (-1),wt:=S.wt.tail,now:= .rests 3 }):Str×PS):=by unfold bH;rw[e]
def mW {c:Nat}(e:S.now= .tlR n ds v c):bH S b=(if cF S.vt false v c b="more" then ("",{ S with now:= .tlR n ds (v+1) (tlN v b c) }) else if cF S.vt false v c b="fault" then cT S false else if cF S.vt false v c b="refused" then eQ S false else ("takes",{ S with tot:=mvd S.tot (-1),up:=if lH S n=true then S.up++[(n,ds)] else S.up,now:= .rests 3 }):Str×PS):=by unfold bH;rw[e]
structure Mid (H:Hp)(a:Addr)(v:HO)(cs:List (Addr×HO))(Hx:Hp):Prop where
 ea:Hx a=some v
 kp:∀x u,x≠a->H x=some u->Hx x=some u
 nw:∀c∈cs,H c.1=none/\c.1≠a/\Hx c.1=some c.2
 nd:(cs.map Prod.fst).Nodup
def Mid.set {v:HO}{cs:List (Addr×HO)}{Hx:Hp}(m:Mid H a v cs Hx)(v':HO):Mid H a v' cs (upd Hx a v'):=
 ⟨aC,fun x u hx h=>by rw[aH hx];exact m.kp x u hx h,fun c hc=>⟨(m.nw c hc).1,(m.nw c hc).2.1,by rw[aH (m.nw c hc).2.1];exact(m.nw c hc).2.2⟩,m.nd⟩
def Mid.add {y:Addr}{v o:HO}{cs:List (Addr×HO)}{Hx Hy:Hp}(m:Mid H a v cs Hx)(hn:Hx y=none)(g:Same Hx Hy)(e:Hy y=some o):Mid H a v ((y,o)::cs) Hy:=by
 have ya:y≠a:=fun z=>by rw[z,m.ea]at hn;cases hn
 refine⟨g _ _ m.ea,fun x u hx h=>g _ _ (m.kp x u hx h),fun c hc=>?_,YW.mpr ⟨fun h=>?_,m.nd⟩⟩
 ·rcases YH.mp hc with rfl | hc
  ·refine⟨?_,ya,e⟩
   cases eh:H y with
   |none=>rfl
   |some u=>rw[m.kp y u ya eh]at hn;cases hn
  ·exact⟨(m.nw c hc).1,(m.nw c hc).2.1,g _ _ (m.nw c hc).2.2⟩
 ·obtain⟨c,hc,ec⟩:=Y2.mp h
  have:=(m.nw c hc).2.2
  rw[ec,hn]at this
  cases this
def oF (b:Bd A H1 p nwf S o)(k:cL o H H1)(n:H1 x=none):H x=none:=by
 rcases mO (o':=o) k n with h | h
 ·exact absurd n (b.al x h)
 ·exact h
theorem a3M {A:Cs}{H':Hp}{p nwf nw':Addr}{S:PS}{ob' os':Own}{b:Int}(wf:Wf S)(hb:b=0\/b=1)(b':Bd A H' p nwf (bH S b).2 ob')(s':StW A H' nw' (bH S b).2 os')(dj':∀x,ob' x->os' x->False)
  {dp ch wl ul ct:Addr} {ws us:List V} (bb:BAt A H' p nwf (bH S b).2 ob' dp ch wl ul ct ws us) :
  bW A (upd H' p (.ins A.post dp (pF ch (bH S b).2.vt wl ul ct nw'))) p (bH S b).2 (Or2 ob' os')/\cL (fun x=>x=p) H' (upd H' p (.ins A.post dp (pF ch (bH S b).2.vt wl ul ct nw'))):=by
 have kk:cL (fun x=>x=p) H' (upd H' p (.ins A.post dp (pF ch (bH S b).2.vt wl ul ct nw'))):=fun x v e z=>by
  rw[aH]
  ·exact e
  ·rintro rfl
   rcases z with z | ⟨vs,rfl⟩
   ·exact z rfl
   ·rw[bb.e]at e;cases e
 have ne:∀{x:Addr}{v:HO},H' x=some v->x≠p->upd H' p (.ins A.post dp (pF ch (bH S b).2.vt wl ul ct nw')) x=some v:=fun e h=>by rw[aH h];exact e
 have nl:∀{x:Addr}{l:List V},H' x=some (.lst l)->x≠p:=fun e z=>by rw[z,bb.e]at e;cases e
 have fk:∀{ts:List V}{fs:List Fr},dG H' (Dl ob' wl ul) ts fs->dG (upd H' p (.ins A.post dp (pF ch (bH S b).2.vt wl ul ct nw'))) (Dl ob' wl ul) ts fs:=fun {ts fs} h=>by
  induction h with
  |nil=>exact .nil
  | cons a _ ih=>
   obtain⟨d,e1,e2,e3⟩:=a
   exact .cons ⟨d,kk.tup e1,ne e2 (nl e2),e3⟩ ih
 have al:∀x,Or2 ob' os' x->upd H' p (.ins A.post dp (pF ch (bH S b).2.vt wl ul ct nw')) x≠none:=fun x hx=>by
  by_cases h:x=p
  ·rw[h,aC];simp
  ·rw[aH h];exact hx.elim (bb.al x) (s'.al x)
 obtain⟨dc,ec⟩:=id bb.et
 have ncp:ct≠p:=qH "total" ec bb.e rfl rfl
 refine⟨⟨nw',ob',os',⟨dp,ch,wl,ul,ct,ws,us,aC,kk.tup bb.ec,ne bb.ew (nl bb.ew),fk bb.fw,ne bb.eu (nl bb.eu),fk bb.fu,⟨dc,ne ec ncp⟩,bb.op,bb.ow,bb.ou,bb.ot,bb.ne,fun x hx=>al x (.inl hx)⟩,s'.move fun x v e z=>kk x v e (z.imp_left fun y w=>dj' x (by have w':x=p:=w;rw[w'];exact bb.op) y),dj',wf.hear hb,fun x hx=>hx,al⟩,kk⟩
structure Lw (A:Cs)(H0 H:Hp)(p:Addr)(S:PS)(o:Own):Prop where
 same:Same H0 H
 fr:∀x,o x->H0 x=none
 po:bW A H p S o
def Wf.hand {f:Fr}(h:Wf S)(hf:FrN f):Wf { S with wt:=S.wt++[f] }:=by
 refine⟨h.vt,fun g hg=>?_,?_⟩
 ·rcases Yy.mp hg with z | z
  ·exact h.wt g z
  ·rw[Yi.mp z];exact hf
 ·have hn:=h.now
  have hne:S.wt++[f]≠ []:=by intro z;have:=(List.append_eq_nil_iff.mp z).2;cases this
  show Stc.Wf (S.wt++[f]) S.now
  revert hn
  cases S.now with
  |speaks n ds k=>exact fun ⟨a,b,c,d⟩=>⟨a,b,c,hne⟩
  |tlS v c=>exact fun _=>hne
  |free k=>exact fun z=>z
  |reads h=>exact fun z=>z
  |tlR n ds v c=>exact fun z=>z
  |flag l m=>exact fun z=>z
  |settles m=>exact fun z=>z
  |rests l=>exact fun z=>z
  |off=>exact fun z=>z
def bW.hand (h:bW A H p S o):∃nw ob,Bd A H p nw S ob/\∀{n:Int}{ds:List Int},oK n ds->∀H' d,H d=none->Bd A H' p nw { S with wt:=S.wt++[(n.toNat,ds)] } (Or2 ob fun x=>x=d)->cL ob H H'->∃o',bW A H' p { S with wt:=S.wt++[(n.toNat,ds)] } o'/\Mv o H o' H':=by
 obtain⟨nw,ob,os,bd,st,dj,wf,inc,al⟩:=h
 refine⟨nw,ob,bd,fun {n ds} ok H' d hd b' k=>?_⟩
 have hb:=gP.mp ok.1
 have hf:FrN (n.toNat,ds):=⟨by show n.toNat<256;omega,ok.2.1,ok.2.2⟩
 have s':StW A H' nw S os:=st.move fun x v e z=>k x v e (z.imp_left fun y w=>dj x w y)
 refine⟨Or2 o fun x=>x=d,⟨nw,Or2 ob fun x=>x=d,os,b',⟨s'.at_,s'.on,s'.al⟩,?_,wf.hand hf,?_,?_⟩,k.le fun x hx=>inc x (.inl hx),fun x hx=>?_⟩
 ·rintro x (hx | hx) hy
  ·exact dj x hx hy
  ·have hx':x=d:=hx
   rw[hx']at hy
   exact al d (inc d (.inr hy)) hd
 ·rintro x ((hx | hx) | hx)
  ·exact .inl (inc x (.inl hx))
  ·exact .inr hx
  ·exact .inl (inc x (.inr hx))
 ·rintro x (hx | hx)
  ·rcases Classical.em (ob x) with c | c
   ·exact b'.al x (.inl c)
   ·cases e:H x with
    |none=>exact absurd e (al x hx)
    |some v=>rw[k x v e (.inl c)];simp
  ·exact b'.al x (.inr hx)
 ·rcases hx with hx | hx
  ·exact .inl hx
  ·have hx':x=d:=hx
   rw[hx'];exact .inr hd
def b1D {v:HO}(g:Same H H1)(hp:H1 p=none)(hdp:H1 dp=none)(hP:bW A H' p S o)(hin:∀x,o x->x=p\/upd (upd H1 dp (.own p)) p v x=none)(hk:∀x u,x≠p->upd (upd H1 dp (.own p)) p v x=some u->H' x=some u):Lw A H H' p S o/\Same H1 H':=by
 have s1:Same H1 H':=fun x u e=>hk x u (aO e hp) (by rw[aH (aO e hp),aH (aO e hdp)];exact e)
 refine⟨⟨g.trans s1,fun x hx=>?_,hP⟩,s1⟩
 rcases hin x hx with h | h
 ·rw[h];exact g.none hp
 ·refine g.none ?_
  by_cases c:x=p
  ·rw[c,aC]at h;cases h
  ·rw[aH c]at h
   by_cases d:x=dp
   ·rw[d,aC]at h;cases h
   ·rw[aH d]at h;exact h
def bW.bd (h:bW A H p S o):∃nw ob,Bd A H p nw S ob:=let ⟨nw,ob,_,bd,_⟩:=h;⟨nw,ob,bd⟩
def bW.cell (h:bW A H p S o):∃dx ch vt wl ul ct nw,H p=some (.ins A.post dx (pF ch vt wl ul ct nw)):=let ⟨nw,_,_,⟨dx,ch,wl,ul,ct,_,_,b⟩,_⟩:=h;⟨dx,ch,_,wl,ul,ct,nw,b.e⟩
theorem eO.at_:∀{ts:List V}{fs:List Fr},eO H H' ts fs->dG H' (fun _=>True) ts fs
 |_,_,.nil=> .nil
 |_,_,.cons _ _ a3 a4 r=> .cons ⟨_,a3,a4,trivial⟩ r.at_
def frD (f:Fr):PyData:= .tuple [.int ((f.1:Nat):Int),.list (f.2.map .int)]
theorem dG.dvs:∀{ts:List V}{fs:List Fr},dG H o ts fs->DVs K H ts (fs.map frD)
 |_,_,.nil=> .nil
 |_,_,.cons ⟨_,e1,e2,_⟩ r=> .cons (.tup (SqT.of e1) (.cons (.int _) (.cons (DV.ints (SqL.of e2)) .nil))) r.dvs
def zH (fs:List Fr):SeqAt.shaped (.list (fs.map frD))=true:=a0L fun d hd=>by
 obtain⟨f,_,rfl⟩:=Y2.mp hd
 have h:=lay_ints f.2
 have h2:=h.2
 unfold frD
 refine⟨?_,?_⟩
 ·simp only[PyData.canLay0,PyData.canLayAll0,Bool.true_and,Bool.and_true]
  have:=h.1
  simp only[PyData.canLay0]at this
  exact this
 ·have h3:=W.depthAll_ints f.2
  simp only[PyData.depth,PyData.depthAll]
  omega
def b5X {lo:Own}{o u:HO}(e:H a=some o)(h:lo a)(n:¬ isT o):Mv lo H lo (upd H a u):=⟨fun x v ex z=>by
 rw[aH]
 ·exact ex
 ·rintro rfl
  rcases z with z | z
  ·exact z h
  ·rw[e]at ex;cases ex;exact n z,fun _=> .inl⟩
def b1Q {xs:List V}:¬ isT (.lst xs):=fun ⟨_,z⟩=>by cases z
def StW.disp (st:StW A H nw S os):∃C dd fs,H nw=some (.ins C dd fs)/\(fs.lookup ("says":Str)=none/\fs.lookup ("step":Str)=none/\fs.lookup ("shown":Str)=none)/\∀f:Nat->Sp,(C=A.free/\f S.now.tag=f 0)\/(C=A.speaks/\f S.now.tag=f 1)\/(C=A.reads/\f S.now.tag=f 2)\/(C=A.intail/\f S.now.tag=f 3)\/(C=A.flag/\f S.now.tag=f 4)\/(C=A.settles/\f S.now.tag=f 5)\/(C=A.rests/\f S.now.tag=f 6)\/(C=A.off/\f S.now.tag=f 7):=by
 have sa:=st.at_
 cases en:S.now
 case free k=>
  rw[en]at sa
  obtain⟨dd,hS⟩:=sa
  exact⟨_,dd,_,hS,⟨rfl,rfl,rfl⟩,fun f=> .inl ⟨rfl,rfl⟩⟩
 case speaks n ds k=>
  rw[en]at sa
  obtain⟨dd,wa,r,st2,ks,t0,hS,_⟩:=sa
  exact⟨_,dd,_,hS,⟨rfl,rfl,rfl⟩,fun f=> .inr (.inl ⟨rfl,rfl⟩)⟩
 case reads h=>
  rw[en]at sa
  obtain⟨dd,r,st2,ks,t0,hS,_⟩:=sa
  exact⟨_,dd,_,hS,⟨rfl,rfl,rfl⟩,fun f=> .inr (.inr (.inl ⟨rfl,rfl⟩))⟩
 case tlS v c=>
  rw[en]at sa
  obtain⟨dd,tl,hS,_⟩:=sa
  exact⟨_,dd,_,hS,⟨rfl,rfl,rfl⟩,fun f=> .inr (.inr (.inr (.inl ⟨rfl,rfl⟩)))⟩
 case tlR n ds v c=>
  rw[en]at sa
  obtain⟨dd,tl,tf,df,hS,_⟩:=sa
  exact⟨_,dd,_,hS,⟨rfl,rfl,rfl⟩,fun f=> .inr (.inr (.inr (.inl ⟨rfl,rfl⟩)))⟩
 case flag l m=>
  rw[en]at sa
  obtain⟨dd,hS⟩:=sa
  exact⟨_,dd,_,hS,⟨rfl,rfl,rfl⟩,fun f=> .inr (.inr (.inr (.inr (.inl ⟨rfl,rfl⟩))))⟩
 case settles m=>
  rw[en]at sa
  obtain⟨dd,hS⟩:=sa
  exact⟨_,dd,_,hS,⟨rfl,rfl,rfl⟩,fun f=> .inr (.inr (.inr (.inr (.inr (.inl ⟨rfl,rfl⟩)))))⟩
 case rests l=>
  rw[en]at sa
  obtain⟨dd,hS⟩:=sa
  exact⟨_,dd,_,hS,⟨rfl,rfl,rfl⟩,fun f=> .inr (.inr (.inr (.inr (.inr (.inr (.inl ⟨rfl,rfl⟩))))))⟩
 case off=>
  rw[en]at sa
  obtain⟨dd,hS⟩:=sa
  exact⟨_,dd,_,hS,⟨rfl,rfl,rfl⟩,fun f=> .inr (.inr (.inr (.inr (.inr (.inr (.inr (⟨rfl,rfl⟩)))))))⟩
def iJ (A:Cs)(H:Hp):List Addr->List PS->Own->Prop
 |[], [],o=>∀x,o x->H x≠none
 |p::ps,S::Ss,o=>∃o1 o2,bW A H p S o1/\iJ A H ps Ss o2/\(∀x,o1 x->o2 x->False)/\(∀x,o1 x\/o2 x->o x)/\∀x,o x->H x≠none
 |_,_,_=>False
theorem iJ.al:∀{ps:List Addr}{Ss:List PS}{o:Own},iJ A H ps Ss o->∀x,o x->H x≠none
 |[], [],_,h=>h
 |_::_,_::_,_,⟨_,_,_,_,_,_,h⟩=>h
theorem iJ.len:∀{ps:List Addr}{Ss:List PS}{o:Own},iJ A H ps Ss o->ps.length=Ss.length
 |[], [],_,_=>rfl
 |_::_,_::_,_,⟨_,_,_,h,_⟩=>YT (·+1) h.len
theorem iJ.move:∀{ps:List Addr}{Ss:List PS}{o:Own},iJ A H ps Ss o->(∀x v,H x=some v->(o x\/isT v)->H' x=some v)->iJ A H' ps Ss o
 | [], [],o,h,g=>fun x hx=>by
  cases e:H x with
  |none=>exact absurd e (h x hx)
  |some v=>rw[g x v e (.inl hx)];simp
 | _::_,_::_,o,⟨o1,o2,h1,h2,dj,inc,al⟩,g=>⟨o1,o2,h1.move fun x v e z=>g x v e (z.imp_left fun y=>inc x (.inl y)),h2.move fun x v e z=>g x v e (z.imp_left fun y=>inc x (.inr y)),dj,inc,fun x hx=>by
  cases e:H x with
  |none=>exact absurd e (al x hx)
  |some v=>rw[g x v e (.inl hx)];simp⟩
def iJ.same {ps:List Addr}{Ss:List PS}(h:iJ A H ps Ss o)(g:Same H H'):iJ A H' ps Ss o:=h.move fun x v e _=>g x v e
theorem iJ.get:∀{ps:List Addr}{Ss:List PS}{o:Own},iJ A H ps Ss o->∀{i:Nat}{p:Addr},ps[i]? =some p->∃S oi,Ss[i]? =some S/\bW A H p S oi/\(∀x,oi x->o x)/\∀H' oi' S',Mv oi H oi' H'->bW A H' p S' oi'->∃o',iJ A H' ps (Ss.set i S') o'/\Mv o H o' H'
 | q ::ps,S::Ss,o,⟨o1,o2,h1,h2,dj,inc,al⟩,0,p,hp=>by
  cases hp
  refine⟨S,o1,rfl,h1,fun x hx=>inc x (.inl hx),fun H' oi' S' m hP=>?_⟩
  have h2':iJ A H' ps Ss o2:=h2.move fun x v e z=>m.1 x v e (z.imp_left fun y w=>dj x w y)
  refine⟨Or2 oi' o2,⟨oi',o2,hP,h2',fun x hx hy=>?_,fun x hx=>hx,fun x hx=>?_⟩,⟨fun x v e z=>m.1 x v e (z.imp_left fun y w=>y (inc x (.inl w))),fun x hx=>?_⟩⟩
  ·exact(m.2 x hx).elim (fun z=>dj x z hy) fun z=>h2.al x hy z
  ·rcases hx with hx | hx
   ·exact hP.al x hx
   ·exact h2'.al x hx
  ·rcases hx with hx | hx
   ·exact(m.2 x hx).imp (fun z=>inc x (.inl z)) id
   ·exact .inl (inc x (.inr hx))
 | q ::ps,S::Ss,o,⟨o1,o2,h1,h2,dj,inc,al⟩,i+1,p,hp=>by
  obtain⟨S1,oi,e1,hP1,le,back⟩:=iJ.get h2 (i:=i) hp
  refine⟨S1,oi,e1,hP1,fun x hx=>inc x (.inr (le x hx)),fun H' oi' S' m hP=>?_⟩
  obtain⟨o2',h2',m'⟩:=back H' oi' S' m hP
  have h1':bW A H' q S o1:=h1.move fun x v e z=>m'.1 x v e (z.imp_left fun y w=>dj x y w)
  refine⟨Or2 o1 o2',⟨o1,o2',h1',h2',fun x hx hy=>?_,fun x hx=>hx,fun x hx=>?_⟩,⟨fun x v e z=>m'.1 x v e (z.imp_left fun y w=>y (inc x (.inr w))),fun x hx=>?_⟩⟩
  ·exact(m'.2 x hy).elim (fun z=>dj x hx z) fun z=>h1.al x hx z
  ·rcases hx with hx | hx
   ·exact h1'.al x hx
   ·exact h2'.al x hx
  ·rcases hx with hx | hx
   ·exact .inl (inc x (.inl hx))
   ·exact(m'.2 x hx).imp (fun z=>inc x (.inr z)) id
theorem iJ.snoc (hP:bW A H' p S o1)(g:Same H H')(n:∀x,o1 x->H x=none):∀{ps:List Addr}{Ss:List PS}{o:Own},iJ A H ps Ss o->iJ A H' (ps++[p]) (Ss++[S]) (Or2 o o1)
  | [], [],o,h=>⟨o1,o,hP,fun x hx=>by
      cases e:H x with
      |none=>exact absurd e (h x hx)
      |some v=>rw[g x v e];simp,fun x hx hy=>h x hy (n x hx),fun x hx=>hx.symm,fun x hx=>by
      rcases hx with hx | hx
      · cases e:H x with
        |none=>exact absurd e (h x hx)
        |some v=>rw[g x v e];simp
      · exact hP.al x hx⟩
  | q :: ps,T::Ss,o,⟨oa,ob,h1,h2,dj,inc,al⟩=>⟨oa,Or2 ob o1,h1.same g,iJ.snoc hP g n h2,fun x hx hy=>by
      rcases hy with hy | hy
      · exact dj x hx hy
      · exact h1.al x hx (n x hy),fun x hx=>by
      rcases hx with hx | hx | hx
      · exact .inl (inc x (.inl hx))
      · exact .inl (inc x (.inr hx))
      · exact .inr hx,fun x hx=>by
      rcases hx with hx | hx
      · cases e:H x with
        |none=>exact absurd e (al x hx)
        |some v=>rw[g x v e];simp
      · exact hP.al x hx⟩
structure dH (H:Hp)(L:List (Addr×HO)):Prop where
 at_:∀(j:Nat)(c:Addr×HO),L[j]? =some c->H c.1=some c.2
 ap:∀(i j:Nat)(c d:Addr×HO),L[i]? =some c->L[j]? =some d->c.1=d.1->i=j
def dH.put {h:HO}(hc:dH H L)(e:L[i]? =some (a,h))(h':HO):dH (upd H a h') (L.set i (a,h')):=by
 have hi:i<L.length:=(Yg.mp e).1
 have old:∀(j:Nat)(c:Addr×HO),(L.set i (a,h'))[j]? =some c->(j=i/\c=(a,h'))\/(j≠i/\L[j]? =some c):=fun j c z=>by
  rw[Xg]at z
  by_cases k:i=j
  ·rw[if_pos k,if_pos hi]at z
   exact .inl ⟨k.symm,(Yp z).symm⟩
  ·rw[if_neg k]at z
   exact .inr ⟨fun y=>k y.symm,z⟩
 refine⟨fun j c z=>?_,fun j k c d z y q=>?_⟩
 ·rcases old j c z with ⟨_,rfl⟩ | ⟨n,z⟩
  ·exact aC
  ·rw[aH fun q=>n (hc.ap j i c (a,h) z e q)]
   exact hc.at_ j c z
 ·rcases old j c z with ⟨n1,rfl⟩ | ⟨n1,z⟩ <;> rcases old k d y with ⟨n2,rfl⟩ | ⟨n2,y⟩
  ·rw[n1,n2]
  ·exact absurd (hc.ap k i d (a,h) y e q.symm) n2
  ·exact absurd (hc.ap j i c (a,h) z e q) n1
  ·exact hc.ap j k c d z y q
def dH.keep (hc:dH H L)(g:∀(j:Nat)(c:Addr×HO),L[j]? =some c->H' c.1=some c.2):dH H' L:=⟨g,hc.ap⟩
def dH.same (hc:dH H L)(g:Same H H'):dH H' L:=hc.keep fun j c z=>g _ _ (hc.at_ j c z)
def dH.snoc {h:HO}(hc:dH H L)(n:H a=none):dH (upd H a h) (L++[(a,h)]):=by
 have old:∀(j:Nat)(c:Addr×HO),(L++[(a,h)])[j]? =some c->(j=L.length/\c=(a,h))\/L[j]? =some c:=fun j c z=>by
  by_cases k:j<L.length
  ·rw[YL k]at z
   exact .inr z
  ·rw [YF (by omega)]at z
   have hj:j-L.length=0:=by
    cases e:j-L.length with
    |zero=>rfl
    |succ m=>rw[e]at z;cases z
   rw[hj]at z
   exact .inl ⟨by omega,(Yp z).symm⟩
 have ne:∀(j:Nat)(c:Addr×HO),L[j]? =some c->c.1≠a:=fun j c z q=>by have:=hc.at_ j c z;rw[q,n]at this;cases this
 refine⟨fun j c z=>?_,fun j k c d z y q=>?_⟩
 ·rcases old j c z with ⟨_,rfl⟩ | z
  ·exact aC
  ·rw[aH (ne j c z)];exact hc.at_ j c z
 ·rcases old j c z with ⟨n1,rfl⟩ | z <;> rcases old k d y with ⟨n2,rfl⟩ | y
  ·rw[n1,n2]
  ·exact absurd q.symm (ne k d y)
  ·exact absurd q (ne j c z)
  ·exact hc.ap j k c d z y q
open PyProof.Rows in
structure RS where
 (ps:List PS) (ow:List (Key×V)) (bo:List Int) (sa he:List (List Int)) (ev:List (Nat×Nat×Str))
inductive dR (H:Hp):List V->List (Nat×Nat×Str)->Prop
 |nil:dR H [] []
 |cons {t:Addr} {e:Nat×Nat×Str} {vs:List V} {es:List (Nat×Nat×Str)}:H t=some (.tup [.int ((e.1:Nat):Int),.int ((e.2.1:Nat):Int),.str e.2.2])->dR H vs es->dR H (.ref t::vs) (e::es)
theorem dR.imp (g:∀x xs,H x=some (.tup xs)->H' x=some (.tup xs)):∀{vs:List V}{es:List (Nat×Nat×Str)},dR H vs es->dR H' vs es
 |_,_,.nil=> .nil
 |_,_,.cons a r=> .cons (g _ _ a) (r.imp g)
theorem dR.snoc {e:Nat×Nat×Str}(a:H t=some (.tup [.int ((e.1:Nat):Int),.int ((e.2.1:Nat):Int),.str e.2.2])):∀{vs:List V}{es:List (Nat×Nat×Str)},dR H vs es->dR H (vs++[.ref t]) (es++[e])
 |_,_,.nil=> .cons a .nil
 |_,_,.cons b r=> .cons b (r.snoc a)
theorem dR.len:∀{vs:List V}{es:List (Nat×Nat×Str)},dR H vs es->vs.length=es.length
 |_,_,.nil=>rfl
 |_,_,.cons _ r=>YT (·+1) r.len
abbrev rF (PL OW BO SA HE EV:Addr):List (Str×V):=[("posts",.ref PL),("owners",.ref OW),("borne",.ref BO),("sayings",.ref SA),("hearings",.ref HE),("happened",.ref EV)]
def lsC (as:List Addr)(xs:List (List Int)):List (Addr×HO):=List.zipWith (fun a x=>(a,HO.lst (x.map V.int))) as xs
structure Rw where
 (dx PL OW BO SA HE EV:Addr) (ps sas hes:List Addr) (evs:List V) (op:Own)
abbrev jQ (C r:Addr)(w:Rw)(R:RS):List (Addr×HO):=(r,.ins C w.dx (rF w.PL w.OW w.BO w.SA w.HE w.EV))::(w.PL,.lst (w.ps.map V.ref))::(w.OW,.dK R.ow)::(w.BO,.lst (R.bo.map V.int))::(w.SA,.lst (w.sas.map V.ref))::(w.HE,.lst (w.hes.map V.ref))::(w.EV,.lst w.evs)::(lsC w.sas R.sa++lsC w.hes R.he)
structure cA (C:Addr)(A:Cs)(H:Hp)(r:Addr)(R:RS)(o:Own)(w:Rw):Prop where
 cs:dH H (jQ C r w R)
 po:iJ A H w.ps R.ps w.op
 ev:dR H w.evs R.ev
 l1:w.sas.length=R.ps.length
 l2:R.sa.length=R.ps.length
 l3:w.hes.length=R.ps.length
 l4:R.he.length=R.ps.length
 lp:R.ps.length<=5
 dj:∀x,w.op x->∀(j:Nat)(c:Addr×HO),(jQ C r w R)[j]? =some c->c.1≠x
 inc:∀x,(w.op x\/∃(j:Nat)(c:Addr×HO),(jQ C r w R)[j]? =some c/\c.1=x)->o x
 al:∀x,o x->H x≠none
def iY (C:Addr)(A:Cs)(H:Hp)(r:Addr)(R:RS)(o:Own):Prop:=∃w,cA C A H r R o w
section
variable {R:RS}{w:Rw}
def cA.move (h:cA C A H r R o w)(g:∀x v,H x=some v->(o x\/isT v)->H' x=some v):cA C A H' r R o w:=
 ⟨h.cs.keep fun j c z=>g _ _ (h.cs.at_ j c z) (.inl (h.inc _ (.inr ⟨j,c,z,rfl⟩))),h.po.move fun x v e z=>g x v e (z.imp_left fun y=>h.inc x (.inl y)),h.ev.imp fun x xs e=>g x _ e (.inr ⟨_,rfl⟩),h.l1,h.l2,h.l3,h.l4,h.lp,h.dj,h.inc,fun x hx=>by
  cases e:H x with
  |none=>exact absurd e (h.al x hx)
  |some v=>rw[g x v e (.inl hx)];simp⟩
def cA.same (h:cA C A H r R o w)(g:Same H H'):cA C A H' r R o w:=h.move fun x v e _=>g x v e
def cA.er (h:cA C A H r R o w):H r=some (.ins C w.dx (rF w.PL w.OW w.BO w.SA w.HE w.EV)):=h.cs.at_ 0 _ rfl
def cA.ePL (h:cA C A H r R o w):H w.PL=some (.lst (w.ps.map V.ref)):=h.cs.at_ 1 _ rfl
def cA.eOW (h:cA C A H r R o w):H w.OW=some (.dK R.ow):=h.cs.at_ 2 _ rfl
def cA.eBO (h:cA C A H r R o w):H w.BO=some (.lst (R.bo.map V.int)):=h.cs.at_ 3 _ rfl
def cA.eSA (h:cA C A H r R o w):H w.SA=some (.lst (w.sas.map V.ref)):=h.cs.at_ 4 _ rfl
def cA.eHE (h:cA C A H r R o w):H w.HE=some (.lst (w.hes.map V.ref)):=h.cs.at_ 5 _ rfl
def cA.eEV (h:cA C A H r R o w):H w.EV=some (.lst w.evs):=h.cs.at_ 6 _ rfl
def cA.pl (h:cA C A H r R o w):w.ps.length=R.ps.length:=h.po.len
def cA.at (h:cA C A H r R o w)(hi:R.ps[i]? =some S):∃p oi,w.ps[i]? =some p/\bW A H p S oi:=by
 have hl:i<w.ps.length:=by rw[h.pl];exact(Yg.mp hi).1
 have hp:w.ps[i]? =some w.ps[i]:=Yc hl
 obtain⟨S',oi,e,hP,_⟩:=h.po.get hp
 rw[hi]at e
 cases e
 exact⟨_,oi,hp,hP⟩
end
def a0M {v:HO}(e:L[k]? =some (a,v))(h:(L.set k (a,v'))[j]? =some c):∃c',L[j]? =some c'/\c'.1=c.1:=by
 have hk:k<L.length:=(Yg.mp e).1
 rw[Xg]at h
 by_cases q:k=j
 ·rw[if_pos q,if_pos hk]at h
  cases h
  exact⟨(a,v),q▸e,rfl⟩
 ·rw[if_neg q]at h
  exact⟨c,h,rfl⟩
def cA.put {R R':RS}{w w':Rw}{v:HO}(h:cA C A H r R o w)(e:(jQ C r w R)[k]? =some (a,v))(nT:¬ isT v)(eL:jQ C r w' R'=(jQ C r w R).set k (a,v'))(ep:R'.ps=R.ps)(e1:w'.ps=w.ps)(e2:w'.op=w.op)(e3:w'.sas.length=w.sas.length)(e4:R'.sa.length=R.sa.length)(e5:w'.hes.length=w.hes.length)(e6:R'.he.length=R.he.length)(ev:dR H w'.evs R'.ev):cA C A (upd H a v') r R' o w'/\Mv o H o (upd H a v'):=by
 have ea:=h.cs.at_ k _ e
 have oa:o a:=h.inc a (.inr ⟨k,_,e,rfl⟩)
 have kT:∀x u,H x=some u->isT u->upd H a v' x=some u:=fun x u eu t=>by
  rw[aH]
  ·exact eu
  ·rintro rfl
   rw[ea]at eu
   cases eu
   exact nT t
 refine⟨⟨eL▸h.cs.put e v',?_,ev.imp fun x xs ex=>kT x _ ex ⟨_,rfl⟩,by rw[e3,ep];exact h.l1,by rw[e4,ep];exact h.l2,by rw[e5,ep];exact h.l3,by rw[e6,ep];exact h.l4,by rw[ep];exact h.lp,?_,?_,?_⟩,b5X ea oa nT⟩
 ·rw[e1,e2,ep]
  refine h.po.move fun x u eu z=>?_
  rcases z with z | z
  ·rw[aH fun q=>h.dj x z k _ e q.symm];exact eu
  ·exact kT x u eu z
 ·rw[e2,eL]
  intro x hx j c hc q
  obtain⟨c',h1,h2⟩:=a0M e hc
  exact h.dj x hx j c' h1 (h2.trans q)
 ·rw [e2,eL]
  rintro x (hx | ⟨j,c,hc,q⟩)
  ·exact h.inc x (.inl hx)
  ·obtain⟨c',h1,h2⟩:=a0M e hc
   exact h.inc x (.inr ⟨j,c',h1,h2.trans q⟩)
 ·intro x hx
  by_cases q:x=a
  ·rw[q,aC];simp
  ·rw[aH q];exact h.al x hx
def cA.step {R:RS}{w:Rw}(h:cA C A H r R o w)(hp:w.ps[i]? =some p):∃S oi,R.ps[i]? =some S/\bW A H p S oi/\(∀x,oi x->o x)/\∀H' oi' S',Mv oi H oi' H'->bW A H' p S' oi'->∃o' op',cA C A H' r { R with ps:=R.ps.set i S' } o' { w with op:=op' }/\Mv o H o' H':=by
 obtain⟨S,oi,eS,hP,le,back⟩:=h.po.get hp
 refine⟨S,oi,eS,hP,fun x hx=>h.inc x (.inl (le x hx)),fun H' oi' S' m hP'=>?_⟩
 obtain⟨op',po',m'⟩:=back H' oi' S' m hP'
 have nop:∀(j:Nat)(c:Addr×HO),(jQ C r w R)[j]? =some c->¬ w.op c.1:=fun j c hc z=>h.dj _ z j c hc rfl
 have len:(R.ps.set i S').length=R.ps.length:=Xs
 have ko:cL o H H':=fun x v e z=>m'.1 x v e (z.imp_left fun y q=>y (h.inc x (.inl q)))
 refine⟨Or2 (fun x=>o x/\¬ w.op x) op',op',⟨h.cs.keep fun j c hc=>m'.1 _ _ (h.cs.at_ j c hc) (.inl (nop j c hc)),po',h.ev.imp fun x xs e=>m'.1 x _ e (.inr ⟨_,rfl⟩),h.l1.trans len.symm,h.l2.trans len.symm,h.l3.trans len.symm,h.l4.trans len.symm,by show (R.ps.set i S').length<=5;rw[len];exact h.lp,?_,?_,?_⟩,ko,?_⟩
 ·intro x hx j c hc q
  rcases m'.2 x hx with z | z
  ·exact h.dj x z j c hc q
  ·have:=h.cs.at_ j c hc
   rw[q,z]at this
   cases this
 ·rintro x (hx | ⟨j,c,hc,q⟩)
  ·exact .inr hx
  ·exact .inl ⟨h.inc x (.inr ⟨j,c,hc,q⟩),q▸nop j c hc⟩
 ·rintro x (hx | hx)
  ·cases e:H x with
   |none=>exact absurd e (h.al x hx.1)
   |some v=>rw[m'.1 x v e (.inl hx.2)];simp
  ·exact po'.al x hx
 ·rintro x (hx | hx)
  ·exact .inl hx.1
  ·exact(m'.2 x hx).imp (fun z=>h.inc x (.inl z)) id
def a9Y {b:Addr}{xs:List V}{m:List ((Int ⊕ Str)×V)}{v:HO}(h:SqL K H a xs)(e:H b=some (.dK m)):SqL K (upd H b v) a xs:=by
 rcases h with (h | ⟨o,h⟩) | h
 ·exact .inl (.inl ((aH fun q=>by rw[q,e]at h;cases h).trans h))
 ·exact .inl (.inr ⟨o,(aH fun q=>by rw[q,e]at h;cases h).trans h⟩)
 ·exact .inr h
def b8Y {m:List ((Int ⊕ Str)×V)}:¬ isT (.dK m):=fun ⟨_,z⟩=>by cases z
def a7V {x:List Int}(ha:as[i]? =some a)(hx:xs[i]? =some x):(lsC as xs)[i]? =some (a,HO.lst (x.map V.int)):=by
 unfold lsC
 rw[List.getElem?_zipWith,ha,hx]
def pD (h:as.length=xs.length):(lsC as xs).length=xs.length:=by
 unfold lsC
 rw[List.length_zipWith,h,Nat.min_self]
def cA.sa_at {R:RS}{w:Rw}{xs:List Int}(h:cA C A H r R o w)(hi:R.sa[i]? =some xs):∃a,w.sas[i]? =some a/\(jQ C r w R)[i+7]? =some (a,.lst (xs.map V.int)):=by
 have hl:i<R.sa.length:=(Yg.mp hi).1
 have e1:=h.l1
 have e2:=h.l2
 have ha:w.sas[i]? =some (w.sas[i]'(by omega)):=Yc (by omega)
 refine⟨_,ha,?_⟩
 show (lsC w.sas R.sa++lsC w.hes R.he)[i]? =_
 rw[YL (by rw[pD (by omega)];exact hl)]
 exact a7V ha hi
def cA.he_at {R:RS}{w:Rw}{xs:List Int}(h:cA C A H r R o w)(hi:R.he[i]? =some xs):∃a,w.hes[i]? =some a/\(jQ C r w R)[R.ps.length+i+7]? =some (a,.lst (xs.map V.int)):=by
 have hl:i<R.he.length:=(Yg.mp hi).1
 have e1:=h.l1
 have e2:=h.l2
 have e3:=h.l3
 have e4:=h.l4
 have ha:w.hes[i]? =some (w.hes[i]'(by omega)):=Yc (by omega)
 refine⟨_,ha,?_⟩
 show (lsC w.sas R.sa++lsC w.hes R.he)[R.ps.length+i]? =_
 have ll:=pD (as:=w.sas) (xs:=R.sa) (by omega)
 rw[YF (by omega),show R.ps.length+i-(lsC w.sas R.sa).length=i by omega]
 exact a7V ha hi
def a2J (C:Addr)(A:Cs):Sp:=fun vs H Q _=>∃r R o w,vs= [.ref r]/\cA C A H r R o w/\Q (.int ((R.bo.length:Nat):Int)) H
def a5M (C:Addr)(A:Cs):Sp:=fun vs H Q _=>∃r R o w,vs= [.ref r]/\cA C A H r R o w/\∀l,H l=none->Q (.ref l) (upd H l (.lst (R.bo.map V.int)))
def a1C (ha:as[i]? =some a):lsC as (xs.set i y)=(lsC as xs).set i (a,HO.lst (y.map V.int)):=by
 unfold lsC
 apply List.ext_getElem?
 intro j
 rw[List.getElem?_zipWith,Xg,Xg,List.getElem?_zipWith]
 by_cases q:i=j
 ·subst q
  have hl:i<as.length:=(Yg.mp ha).1
  rw[if_pos rfl,if_pos rfl,ha,List.length_zipWith]
  by_cases z:i<xs.length
  ·rw[if_pos z,if_pos (by omega)]
  ·rw[if_neg z,if_neg (by omega)]
 ·rw[if_neg q,if_neg q]
def cA.say {R:RS}{w:Rw}{xs:List Int}(h:cA C A H r R o w)(hi:R.sa[i]? =some xs)(ha:w.sas[i]? =some a):cA C A (upd H a (.lst (xs.map V.int++[.int b]))) r { R with sa:=R.sa.set i (xs++[b]) } o w/\Mv o H o (upd H a (.lst (xs.map V.int++[.int b]))):=by
 obtain⟨a',ha',e⟩:=h.sa_at hi
 rw[ha]at ha'
 cases ha'
 have hl:i<R.sa.length:=(Yg.mp hi).1
 have e1:=h.l1
 have e2:=h.l2
 have em:xs.map V.int++[V.int b]=(xs++[b]).map V.int:=by rw[Yj];rfl
 have eL:lsC w.sas (R.sa.set i (xs++[b]))++lsC w.hes R.he=(lsC w.sas R.sa++lsC w.hes R.he).set i (a,.lst ((xs++[b]).map V.int)):=by
  rw[List.set_append_left _ _ (by rw[pD (by omega)];exact hl),a1C ha]
 rw[em]
 refine h.put (k:=i+7) (w':=w) e b1Q ?_ rfl rfl rfl rfl Xs rfl rfl h.ev
 show (r,_)::(w.PL,_)::(w.OW,_)::(w.BO,_)::(w.SA,_)::(w.HE,_)::(w.EV,_)::(lsC w.sas (R.sa.set i (xs++[b]))++lsC w.hes R.he)=_
 rw[eL]
 rfl
def cA.hrd {R:RS}{w:Rw}{xs:List Int}(h:cA C A H r R o w)(hi:R.he[i]? =some xs)(ha:w.hes[i]? =some a):cA C A (upd H a (.lst (xs.map V.int++[.int b]))) r { R with he:=R.he.set i (xs++[b]) } o w/\Mv o H o (upd H a (.lst (xs.map V.int++[.int b]))):=by
 obtain⟨a',ha',e⟩:=h.he_at hi
 rw[ha]at ha'
 cases ha'
 have hl:i<R.he.length:=(Yg.mp hi).1
 have e1:=h.l1
 have e2:=h.l2
 have em:xs.map V.int++[V.int b]=(xs++[b]).map V.int:=by rw[Yj];rfl
 have ll:=pD (as:=w.sas) (xs:=R.sa) (by omega)
 have eL:lsC w.sas R.sa++lsC w.hes (R.he.set i (xs++[b]))=(lsC w.sas R.sa++lsC w.hes R.he).set (R.ps.length+i) (a,.lst ((xs++[b]).map V.int)):=by
  rw[List.set_append_right _ _ (by omega),show R.ps.length+i-(lsC w.sas R.sa).length=i by omega,a1C ha]
 rw[em]
 refine h.put (k:=R.ps.length+i+7) (w':=w) e b1Q ?_ rfl rfl rfl rfl rfl rfl Xs h.ev
 show (r,_)::(w.PL,_)::(w.OW,_)::(w.BO,_)::(w.SA,_)::(w.HE,_)::(w.EV,_)::(lsC w.sas R.sa++lsC w.hes (R.he.set i (xs++[b])))=_
 rw[eL]
 rfl
def cA.bear {R:RS}{w:Rw}(h:cA C A H r R o w):cA C A (upd H w.BO (.lst (R.bo.map V.int++[.int b]))) r { R with bo:=R.bo++[b] } o w/\Mv o H o (upd H w.BO (.lst (R.bo.map V.int++[.int b]))):=by
 have em:R.bo.map V.int++[V.int b]=(R.bo++[b]).map V.int:=by rw[Yj];rfl
 rw[em]
 exact h.put (k:=3) (w':=w) rfl b1Q rfl rfl rfl rfl rfl rfl rfl rfl h.ev
def cA.happen {R:RS}{w:Rw}{e:Nat×Nat×Str}(h:cA C A H r R o w)(et:H t=some (.tup [.int ((e.1:Nat):Int),.int ((e.2.1:Nat):Int),.str e.2.2])):cA C A (upd H w.EV (.lst (w.evs++[.ref t]))) r { R with ev:=R.ev++[e] } o { w with evs:=w.evs++[.ref t] }/\Mv o H o (upd H w.EV (.lst (w.evs++[.ref t]))):=
 h.put (k:=6) (w':={ w with evs:=w.evs++[.ref t] }) rfl b1Q rfl rfl rfl rfl rfl rfl rfl rfl (h.ev.snoc et)
def a5I (C:Addr)(A:Cs)(NP:Addr):Sp:=fun vs H Q E=>∃r R o w k,vs= [.ref r,.int k]/\cA C A H r R o w/\(∀(i:Nat) p,k=((i:Nat):Int)->w.ps[i]? =some p->Q (.ref p) H)/\(¬ (0<=k/\k<((R.ps.length:Nat):Int))->∀H',Same H H'->False)
def yE (C:Addr)(A:Cs):Sp:=fun vs H Q _=>∃r R o w,vs= [.ref r]/\cA C A H r R o w/\∀l,H l=none->Q (.ref l) (upd H l (.lst w.evs))
def a5L (K:W.Frag)(C:Addr)(A:Cs)(NP NF NN:Addr):Sp:=fun vs H Q E=>∃r R o w k n a ds,vs= [.ref r,.int k,.int n,.ref a]/\cA C A H r R o w/\SqL K H a (ds.map V.int)/\ds.length<=500/\R.ow.length<=900/\(∀S∈R.ps,S.wt.length<900)/\
 (¬ (0<=k/\k<((R.ps.length:Nat):Int))->∀H',Same H H'->False)/\((0<=k/\k<((R.ps.length:Nat):Int))->¬ oK n ds->∀H',Same H H'->False)/\
 (∀ (i:Nat) S,k=((i:Nat):Int)->R.ps[i]? =some S->oK n ds->∃j:Int,(gZ R.ow (.inl n)).getD (.int ((i:Nat):Int))= .int j/\(j≠((i:Nat):Int)->∀H',Same H H'->False)/\
  (j=((i:Nat):Int)->∀H' o',iY C A H' r { R with ps:=R.ps.set i { S with wt:=S.wt++[(n.toNat,ds)] },ow:=putK R.ow (.inl n) (.int ((i:Nat):Int)) } o'->Mv o H o' H'->Q .non H'))
def evt (t n:Nat)(w:Str):List (Nat×Nat×Str):=if w="" then [] else [(t,n,w)]
def rE (R R':RS)(n:Nat)(S:PS)(b:Int)(x y:List Int):RS:=
 { R' with ps:=R'.ps.set n (bH S b).2,sa:=R'.sa.set n (x++[aZ S]),he:=R'.he.set n (y++[b]),ev:=R'.ev++evt R.bo.length n (bH S b).1 }
def bC (R:RS)(hs:List Int):Nat->RS
 |0=>R
 | n+1=>match R.ps[n]?,hs[n]?,R.sa[n]?,R.he[n]? with
  |some S,some b,some x,some y=>rE R (bC R hs n) n S b x y
  |_,_,_,_=>bC R hs n
def lJ (R:RS)(hs:List Int)(b:Int):RS:={ bC R hs R.ps.length with bo:=R.bo++[b] }
def jL {R:RS}{hs:List Int}{x:List Int}(e1:R.ps[n]? =some S)(e2:hs[n]? =some b)(e3:R.sa[n]? =some x)(e4:R.he[n]? =some y):bC R hs (n+1)=rE R (bC R hs n) n S b x y:=by
 show (match R.ps[n]?,hs[n]?,R.sa[n]?,R.he[n]? with
  |some S,some b,some x,some y=>rE R (bC R hs n) n S b x y
  |_,_,_,_=>bC R hs n)=_
 rw[e1,e2,e3,e4]
theorem gQ (R:RS)(hs:List Int):∀n:Nat,(bC R hs n).bo=R.bo/\(bC R hs n).ow=R.ow/\(bC R hs n).ps.length=R.ps.length/\(bC R hs n).sa.length=R.sa.length/\(bC R hs n).he.length=R.he.length/\(∀j,n<=j->(bC R hs n).ps[j]? =R.ps[j]?/\(bC R hs n).sa[j]? =R.sa[j]?/\(bC R hs n).he[j]? =R.he[j]?)/\(bC R hs n).ev.length<=R.ev.length+n
 |0=>⟨rfl,rfl,rfl,rfl,rfl,fun _ _=>⟨rfl,rfl,rfl⟩,Yd _⟩
 | n + 1 => by
  obtain⟨h1,h2,h3,h4,h5,h6,h7⟩:=gQ R hs n
  have go :(bC R hs (n+1)=bC R hs n)\/∃S b x y,bC R hs (n+1)=rE R (bC R hs n) n S b x y:=by
   cases e1:R.ps[n]? with
   |none=>left;show (match R.ps[n]?,hs[n]?,R.sa[n]?,R.he[n]? with | some S,some b,some x,some y=>rE R (bC R hs n) n S b x y | _,_,_,_=>bC R hs n)=_;rw[e1]
   | some S=>
    cases e2:hs[n]? with
    |none=>left;show (match R.ps[n]?,hs[n]?,R.sa[n]?,R.he[n]? with | some S,some b,some x,some y=>rE R (bC R hs n) n S b x y | _,_,_,_=>bC R hs n)=_;rw[e1,e2]
    | some b=>
     cases e3:R.sa[n]? with
     |none=>left;show (match R.ps[n]?,hs[n]?,R.sa[n]?,R.he[n]? with | some S,some b,some x,some y=>rE R (bC R hs n) n S b x y | _,_,_,_=>bC R hs n)=_;rw[e1,e2,e3]
     | some x=>
      cases e4:R.he[n]? with
      |none=>left;show (match R.ps[n]?,hs[n]?,R.sa[n]?,R.he[n]? with | some S,some b,some x,some y=>rE R (bC R hs n) n S b x y | _,_,_,_=>bC R hs n)=_;rw[e1,e2,e3,e4]
      |some y=>exact .inr ⟨S,b,x,y,jL e1 e2 e3 e4⟩
  rcases go with e | ⟨S,b,x,y,e⟩
  ·rw[e];exact⟨h1,h2,h3,h4,h5,fun j hj=>h6 j (by omega),by omega⟩
  ·rw [e]
   refine⟨h1,h2,?_,?_,?_,fun j hj=>⟨?_,?_,?_⟩,?_⟩
   ·show ((bC R hs n).ps.set n _).length=_;rw[Xs];exact h3
   ·show ((bC R hs n).sa.set n _).length=_;rw[Xs];exact h4
   ·show ((bC R hs n).he.set n _).length=_;rw[Xs];exact h5
   ·show ((bC R hs n).ps.set n _)[j]? =_;rw[Xh (by omega)];exact(h6 j (by omega)).1
   ·show ((bC R hs n).sa.set n _)[j]? =_;rw[Xh (by omega)];exact(h6 j (by omega)).2.1
   ·show ((bC R hs n).he.set n _)[j]? =_;rw[Xh (by omega)];exact(h6 j (by omega)).2.2
   ·show ((bC R hs n).ev++evt _ _ _).length<=_
    rw[Yb]
    have:(evt R.bo.length n (bH S b).1).length<=1:=by unfold evt;split <;> simp
    omega
def a1X (ns:List Int)(b:Int):Prop:=b∈ns/\∀z∈ns,b<=z
structure SzR (R:RS):Prop where
 bo:R.bo.length<900
 sa:∀x∈R.sa,x.length<900
 he:∀x∈R.he,x.length<900
 ev:R.ev.length<900
 up:∀S∈R.ps,S.up.length<900
def a5J (K:W.Frag)(C:Addr)(A:Cs)(spc:Addr->List V->Hp->VK->Prop):Sp:=fun vs H Q _=>∃r R o w f,∃hs:Int->Nat->Int,vs= [.ref r,.ref f]/\cA C A H r R o w/\R.ps≠ []/\SzR R/\(∀b,a1X (R.ps.map aZ) b->(∀i,i<R.ps.length->∀H1,Same H H1->FnE K H1 f/\∀Q1:VK,(∀H2,Same H1 H2->Q1 (.int (hs b i)) H2)->spc f [.int ((i:Nat):Int),.int ((R.bo.length:Nat):Int),.int b] H1 Q1)/\(∀i,hs b i=0\/hs b i=1)/\
 ∀H' o',iY C A H' r (lJ R ((List.range R.ps.length).map (hs b)) b) o'->Mv o H o' H'->Q (.int b) H')
def mQ {L2:List (Addr×HO)}{c0:Addr×HO}(z:(L1++c0::L2)[j]? =some c):(j=L1.length/\c=c0)\/(j<L1.length/\(L1++L2)[j]? =some c)\/(L1.length<j/\(L1++L2)[j-1]? =some c):=by
 by_cases k:j<L1.length
 ·rw[YL k]at z
  exact .inr (.inl ⟨k,by rw[YL k];exact z⟩)
 ·rw[YF (by omega)]at z
  cases e:j-L1.length with
  |zero=>rw[e]at z;exact .inl ⟨by omega,(Yp z).symm⟩
  |succ m=>rw[e]at z;exact .inr (.inr ⟨by omega,by rw[YF (by omega),show j-1-L1.length=m by omega];exact z⟩)
def dH.ins {L2:List (Addr×HO)}{h:HO}(hc:dH H (L1++L2))(n:H a=none):dH (upd H a h) (L1++(a,h)::L2):=by
 have ne:∀(j:Nat)(c:Addr×HO),(L1++L2)[j]? =some c->c.1≠a:=fun j c z q=>by have:=hc.at_ j c z;rw[q,n]at this;cases this
 refine⟨fun j c z=>?_,fun j k c d z y q=>?_⟩
 ·rcases mQ z with ⟨_,rfl⟩ | ⟨_,z⟩ | ⟨_,z⟩
  ·exact aC
  ·rw[aH (ne _ c z)];exact hc.at_ _ c z
  ·rw[aH (ne _ c z)];exact hc.at_ _ c z
 ·rcases mQ z with ⟨n1,rfl⟩ | ⟨n1,z⟩ | ⟨n1,z⟩ <;> rcases mQ y with ⟨n2,rfl⟩ | ⟨n2,y⟩ | ⟨n2,y⟩
  ·omega
  ·exact absurd q.symm (ne _ d y)
  ·exact absurd q.symm (ne _ d y)
  ·exact absurd q (ne _ c z)
  ·exact hc.ap _ _ c d z y q
  ·have:=hc.ap _ _ c d z y q;omega
  ·exact absurd q (ne _ c z)
  ·have:=hc.ap _ _ c d z y q;omega
  ·have:=hc.ap _ _ c d z y q;omega
structure Mk0 (A:Cs)(H0:Hp)(a:Addr)(H:Hp)(L:List (Addr×HO))(ps:List Addr)(Ss:List PS)(op:Own):Prop where
 cs:dH H L
 po:iJ A H ps Ss op
 dj:∀x,op x->∀(j:Nat)(c:Addr×HO),L[j]? =some c->c.1≠x
 nw:∀(j:Nat)(c:Addr×HO),L[j]? =some c->c.1=a\/H0 c.1=none
 npo:∀x,op x->H0 x=none
 kp:∀x u,x≠a->H0 x=some u->H x=some u
 ha:H a≠none
def tX {c0:Addr×HO}(z:[c0][j]? =some c):j=0/\c=c0:=by
 cases j with
 |zero=>exact⟨rfl,(Yp z).symm⟩
 |succ j=>cases z
def Mk0.base {v:HO}(e:H a=some v):Mk0 A H a H [(a,v)] [] [] (fun _=>False):=by
 refine⟨⟨fun j c z=>?_,fun i j c d z y q=>?_⟩,fun x hx=>hx.elim,fun x hx=>hx.elim,fun j c z=>?_,fun x hx=>hx.elim,fun x u _ q=>q,by rw[e];simp⟩
 ·obtain⟨_,rfl⟩:=tX z
  exact e
 ·rw[(tX z).1,(tX y).1]
 ·obtain⟨_,rfl⟩:=tX z
  exact .inl rfl
section
variable {q:Addr}{L2:List (Addr×HO)}{ps:List Addr}{Ss:List PS}{op:Own}{v:HO}
def Mk0.non0 (h:Mk0 A H0 a H L ps Ss op)(n:H q=none):H0 q=none:=by
 cases e:H0 q with
 |none=>rfl
 | some u=>
  by_cases z:q=a
  ·exact absurd (z▸n) h.ha
  ·rw[h.kp q u z e]at n;cases n
def Mk0.ins (h:Mk0 A H0 a H (L1++L2) ps Ss op)(n:H q=none):Mk0 A H0 a (upd H q v) (L1++(q,v)::L2) ps Ss op:=by
 have nq:=h.non0 n
 refine⟨h.cs.ins n,h.po.same (aK n v),fun x hx j c z y=>?_,fun j c z=>?_,h.npo,fun x u hx e=>?_,?_⟩
 ·rcases mQ z with ⟨_,rfl⟩ | ⟨_,z⟩ | ⟨_,z⟩
  ·exact h.po.al x hx (y▸n)
  ·exact h.dj x hx _ c z y
  ·exact h.dj x hx _ c z y
 ·rcases mQ z with ⟨_,rfl⟩ | ⟨_,z⟩ | ⟨_,z⟩
  ·exact .inr nq
  ·exact h.nw _ c z
  ·exact h.nw _ c z
 ·exact aK n v _ _ (h.kp x u hx e)
 ·have:=h.ha
  cases e:H a with
  |none=>exact absurd e this
  |some u=>rw[aK n v _ _ e];simp
def Mk0.put (h:Mk0 A H0 a H ((a,v)::L) ps Ss op)(nT:¬ isT v):Mk0 A H0 a (upd H a v') ((a,v')::L) ps Ss op:=by
 have e:H a=some v:=h.cs.at_ 0 _ rfl
 have old:∀(j:Nat)(c:Addr×HO),((a,v')::L)[j]? =some c->∃c',((a,v)::L)[j]? =some c'/\c'.1=c.1:=fun j c z=>by
  cases j with
  |zero=>cases z;exact⟨_,rfl,rfl⟩
  |succ j=>exact⟨c,z,rfl⟩
 refine⟨h.cs.put (i:=0) rfl v',h.po.move fun x u eu z=>?_,fun x hx j c z y=>?_,fun j c z=>?_,h.npo,fun x u hx eu=>?_,by rw[aC];simp⟩
 ·rw [aH fun y=>?_]
  ·exact eu
  ·rcases z with z | z
   ·exact h.dj x z 0 _ rfl y.symm
   ·rw[y,e]at eu;cases eu;exact nT z
 ·obtain⟨c',z1,z2⟩:=old j c z
  exact h.dj x hx j c' z1 (z2.trans y)
 ·obtain⟨c',z1,z2⟩:=old j c z
  rw[<-z2]
  exact h.nw j c' z1
 ·rw[aH hx];exact h.kp x u hx eu
def Mk0.post {w:HO}(h:Mk0 A H0 a H L ps Ss op)(hp:H p=none)(hdp:H dp=none)(hP:bW A H' p S o)(hin:∀x,o x->x=p\/upd (upd H dp (.own p)) p w x=none)(hk:∀x u,x≠p->upd (upd H dp (.own p)) p w x=some u->H' x=some u):Mk0 A H0 a H' L (ps++[p]) (Ss++[S]) (Or2 op o):=by
 obtain⟨lw,g⟩:=b1D (Same.refl H) hp hdp hP hin hk
 have no:∀x,o x->H x=none:=fun x hx=>lw.fr x hx
 refine⟨h.cs.same g,h.po.snoc hP g no,fun x hx j c z y=>?_,h.nw,fun x hx=>?_,fun x u hx e=>g _ _ (h.kp x u hx e),?_⟩
 ·rcases hx with hx | hx
  ·exact h.dj x hx j c z y
  ·have:=h.cs.at_ j c z
   rw[y,no x hx]at this;cases this
 ·rcases hx with hx | hx
  ·exact h.npo x hx
  ·exact h.non0 (no x hx)
 ·have:=h.ha
  cases e:H a with
  |none=>exact absurd e this
  |some u=>rw[g _ _ e];simp
end
def wL {q:Addr}(n:Nat)(h:as.length=n):lsC (as++[q]) (List.replicate (n+1) [])=lsC as (List.replicate n [])++[(q,.lst [])]:=by
 unfold lsC
 rw[List.replicate_succ',List.zipWith_append (by rw[Yz];exact h)]
 rfl
def R0 (ms:List (Int×Int))(v:Int):RS:={ ps:=ms.map fun m=>S0 m.1.toNat m.2.toNat v.toNat,ow:=[],bo:=[],sa:=List.replicate ms.length [],he:=List.replicate ms.length [],ev:=[] }
def Mk0.fin {PL OW BO SA HE EV:Addr}{ps sas hes:List Addr}{op:Own}{ms:List (Int×Int)}{v:Int}(h:Mk0 A H0 a H (jQ C a ⟨dx,PL,OW,BO,SA,HE,EV,ps,sas,hes, [],op⟩ (R0 ms v)) ps (R0 ms v).ps op)(l1:sas.length=ms.length)(l2:hes.length=ms.length)(l5:ms.length<=5):∃o,iY C A H a (R0 ms v) o/\∀x,o x->x=a\/H0 x=none:=by
 have lp:(R0 ms v).ps.length=ms.length:=Ya ..
 refine⟨fun x=>op x\/∃(j:Nat)(c:Addr×HO),(jQ C a ⟨dx,PL,OW,BO,SA,HE,EV,ps,sas,hes, [],op⟩ (R0 ms v))[j]? =some c/\c.1=x,⟨_,h.cs,h.po,.nil,by rw[lp];exact l1,by rw[lp];exact Yz ..,by rw[lp];exact l2,by rw[lp];exact Yz ..,by rw[lp];exact l5,h.dj,fun x hx=>hx,fun x hx=>?_⟩,fun x hx=>?_⟩
 ·rcases hx with hx | ⟨j,c,z,rfl⟩
  ·exact h.po.al x hx
  ·rw[h.cs.at_ j c z];simp
 ·rcases hx with hx | ⟨j,c,z,rfl⟩
  ·exact .inr (h.npo x hx)
  ·exact h.nw j c z
def xT (H:Hp)(cl:Addr)(ms:List (Int×Int)):Prop:=∃ts:List Addr,H cl=some (.lst (ts.map V.ref))/\ts.length=ms.length/\∀(i:Nat)(t:Addr)(m:Int×Int),ts[i]? =some t->ms[i]? =some m->H t=some (.tup [.int m.1,.int m.2])
def xT.keep {cl:Addr}{ms:List (Int×Int)}(h:xT H cl ms)(g:∀x u,(x=cl\/isT u)->H x=some u->H' x=some u):xT H' cl ms:=by
 obtain⟨ts,h1,h2,h3⟩:=h
 exact⟨ts,g _ _ (.inl rfl) h1,h2,fun i t m z y=>g _ _ (.inr ⟨_,rfl⟩) (h3 i t m z y)⟩
def a5K (C:Addr)(A:Cs)(NP:Addr):Sp:=fun vs H Q E=>∃a dx cl v ms,vs= [.ref a,.ref cl,.int v]/\H a=some (.ins C dx [])/\xT H cl ms/\ms.length<=500/\
 (((1<=ms.length/\ms.length<=5)/\∀m∈ms,a3Z m.1 m.2 v)->∀H' o,iY C A H' a (R0 ms v) o->(∀x,o x->x=a\/H x=none)->(∀x u,x≠a->H x=some u->H' x=some u)->Q .non H')/\
 (¬ ((1<=ms.length/\ms.length<=5)/\∀m∈ms,a3Z m.1 m.2 v)->∀H':Hp,(∀x u,x≠a->H x=some u->H' x=some u)->False)
def BmK (K:W.Frag)(bm:Addr):Prop:=W.nsIn K mainGlobals "__builtins__"=some (some (.ref bm))/\bm≠builtinsNs/\bm≠mainGlobals/\∃sl,K.lookup bm=some ⟨.type "module",some builtinsNs,.plain,sl⟩
def BmK.bm {h:Heap}{bm:Addr}(X:K.In h)(G:h.Ns mainGlobals mg)(z:BmK K bm):Bm K mg bm:=by
 obtain⟨a,b,c,sl,d⟩:=z
 exact⟨W.mg_of X G a,b,c,_,d,rfl,rfl,rfl⟩
def a6C (wf:Wf S):aZ S=0\/aZ S=1:=by
 have hw:=wf.now
 have sy:aZ S=aZ S:=rfl
 conv at sy=>rhs;unfold aZ
 rw[sy]
 cases en:S.now with
 | speaks n ds k=>
  rw[en]at hw
  dsimp only
  rw[Ye,Yc hw.2.2.1]
  exact(lW hw.1).wbits _ (YN _)
 |tlR n ds v c=>dsimp only;unfold gH;split <;> first | exact .inl rfl | exact .inr rfl
 |tlS v c=>dsimp only;unfold gH;split <;> first | exact .inl rfl | exact .inr rfl
 |free k=>dsimp only;(repeat' split) <;> first | exact .inl rfl | exact .inr rfl
 |flag l m=>exact .inl rfl
 |reads h=>exact .inr rfl
 |settles m=>exact .inr rfl
 |rests l=>exact .inr rfl
 |off=>exact .inr rfl
abbrev b8M:Stmt:=(gD Zdh).getD 2 (.Pass ⟨0,0,0,0⟩)
abbrev lamT:Expr:=match b8M with
 |.Return (some (.Call _ (l::_) _ _)) _=>l
 |_=> .Name "" ⟨0,0,0,0⟩
abbrev ipT:Arguments:=match lamT with
 |.Lambda a _ _ _=>a
 |_=>⟨[], [],none, [], [],none, []⟩
abbrev ibT:Expr:=match lamT with
 |.Lambda _ b _ _=>b
 |e=>e
abbrev b6J:Scope:=match lamT with
 |.Lambda _ _ s _=>s
 |_=>bO b8M
abbrev a6P:Pos:=match lamT with
 |.Lambda _ _ _ p=>p
 |_=>⟨0,0,0,0⟩
abbrev iqT:Str:=("Rail.turn":Str)++".<locals>."++"<lambda>"
def clT {L c:Addr}{f:Addr}(h:(PyProof.Rows.envOfC "Rail.turn" (bO Zdh) L f cd).cells.lookup (Str.ofString "wrong")=some c):closureFor b6J (PyProof.Rows.envOfC "Rail.turn" (bO Zdh) L f cd)=pure [(Str.ofString "wrong",c)]:=by
 have e:(PyProof.Rows.envOfC "Rail.turn" (bO Zdh) L f cd).cells.lookup (Str.ofString "wrong")=some (L+1):=rfl
 rw[e]at h
 cases h
 rfl
def scT:uT ["post","turn","bit","wrong"] ["post","turn","bit"] ["wrong"] b6J:=⟨rfl,rfl,rfl,by decide +kernel,rfl,by decide +kernel,by decide +kernel,by decide +kernel⟩
def xR (H:Hp)(f:Addr)(ws:List Int):Prop:=∃c c' wl,H f=some (nW f iqT ipT ibT b6J [("wrong",c)] c')/\H c'=some (jE c' iqT)/\H c=some (kE c (.ref wl))/\H wl=some (.lst (ws.map V.int))
def wrB (ws:List Int)(i b:Int):Int:=if i∈ws then 1-b else b
def b8D:Addr->List V->Hp->VK->Prop:=fun f vs H Q=>∃(ws:List Int)(i t b:Int),vs= [.int i,.int t,.int b]/\xR H f ws/\∀H',Same H H'->Q (.int (wrB ws i b)) H'
def xR.same {f:Addr}{ws:List Int}(h:xR H f ws)(g:Same H H'):xR H' f ws:=by
 obtain⟨c,c',wl,h1,h2,h3,h4⟩:=h
 exact⟨c,c',wl,g _ _ h1,g _ _ h2,g _ _ h3,g _ _ h4⟩
def a6D {P:Program}{w:World}{base:Heap}:a1W P w K mg base 2 b8D:=by
 rintro f A outer s H us vs Q hr e0 r ⟨ws,i,t,b,rfl,⟨c,c',wl,h1,h2,h3,h4⟩,q⟩
 refine b1U (k:=1) (N:=["post","turn","bit","wrong"]) (ws:=[.ref wl]) scT hr e0 h1 h2 ⟨rfl,by simp,.cons h3 .nil⟩ rfl r (fun pm ctv=> .of_eq ?_) fun hr'=>⟨_,(cB (cV (aW b7S (dv 0) (dv 3) rfl) (aU iZ aG (dv 2)) (dv 2))),?_⟩
 ·rcases r with _ | ⟨r1,r⟩
  rcases r with _ | ⟨r2,r⟩
  rcases r with _ | ⟨r3,r⟩
  cases r
  rfl
 have dc:wl≠c:=fun z=>by rw[z,h3]at h4;cases h4
 have hd:lD H [c] wl=some (.lst (ws.map V.int)):=by rw[dD (by simpa using dc)];exact h4
 refine⟨fun v H'=>v= .int (wrB ws i b)/\H'=lD H [c],?_,?_⟩
 ·refine⟨ws,(show SqA K (lD H [c]) wl (ws.map V.int) from .inl (SqL.of hd)),?_⟩
  unfold wrB
  by_cases hm:i∈ws
  ·rw[Yn hm,if_pos hm]
   exact⟨rfl,rfl⟩
  ·rw[Yr hm,if_neg hm]
   exact⟨rfl,rfl⟩
 ·rintro v H' ⟨rfl,rfl⟩
  refine q _ fun z o e=>?_
  show xN H (lD H [c]) [c] z=some o
  by_cases hz:z∈ [c]
  ·rw[a1T hz];exact e
  ·rw[gU hz,dD hz];exact e
def MvP (P:Addr)(o:Own)(H:Hp)(o':Own)(H':Hp):Prop:=Mv (Or2 o fun x=>x=P) H (Or2 o' fun x=>x=P) H'
def jP (P:Addr)(o:Own)(H:Hp):Prop:=¬ o P/\∃ps,H P=some (.tbl ps)/\TriplesOk ps.toList/\(codeAmong a6P ps.toList=none\/∃c',codeAmong a6P ps.toList=some (.ref c')/\H c'=some (jE c' iqT)/\¬ o c')
def jP.tabP (h:jP P o H):a3Y P a6P iqT H:=by
 obtain⟨_,ps,h1,h2,h3⟩:=h
 exact⟨ps,h1,h2,h3.imp id fun ⟨c',a,b,_⟩=>⟨c',a,b⟩⟩
def jP.same (h:jP P o H)(g:Same H H'):jP P o H':=by
 obtain⟨n,ps,h1,h2,h3⟩:=h
 exact⟨n,ps,g _ _ h1,h2,h3.imp id fun ⟨c',a,b,c⟩=>⟨c',a,g _ _ b,c⟩⟩
def jP.mv (h:jP P o H)(m:Mv o H o' H'):jP P o' H':=by
 obtain⟨n,ps,h1,h2,h3⟩:=h
 refine⟨fun z=>(m.2 _ z).elim n fun y=>(by rw[h1]at y;cases y),ps,m.1 _ _ h1 (.inl n),h2,h3.imp id fun ⟨c',a,b,c⟩=>⟨c',a,m.1 _ _ b (.inl c),fun z=>(m.2 _ z).elim c fun y=>by rw[b]at y;cases y⟩⟩
def jP.mv2 {ox:Own}(h:jP P (Or2 o ox) H)(m:Mv o H o' H'):jP P (Or2 o' ox) H':=by
 obtain⟨n,ps,h1,h2,h3⟩:=h
 refine⟨fun z=>?_,ps,m.1 _ _ h1 (.inl fun z=>n (.inl z)),h2,h3.imp id fun ⟨c',a,b,c⟩=>⟨c',a,m.1 _ _ b (.inl fun z=>c (.inl z)),fun z=>?_⟩⟩
 ·rcases z with z | z
  ·rcases m.2 _ z with y | y
   ·exact n (.inl y)
   ·rw[h1]at y;cases y
  ·exact n (.inr z)
 ·rcases z with z | z
  ·rcases m.2 _ z with y | y
   ·exact c (.inl y)
   ·rw[b]at y;cases y
  ·exact c (.inr z)
def jP.own {o2:Own}(h:jP P o H)(g:∀x,o2 x->o x):jP P o2 H:=by
 obtain⟨n,ps,h1,h2,h3⟩:=h
 exact⟨fun z=>n (g _ z),ps,h1,h2,h3.imp id fun ⟨c',a,b,c⟩=>⟨c',a,b,fun z=>c (g _ z)⟩⟩
def b3J {qs:Array Value}:¬ isT (.tbl qs):=fun ⟨_,z⟩=>by cases z
def wrL (ws:List Int)(n:Nat)(b:Int):List Int:=(List.range n).map fun i=>wrB ws ((i:Nat):Int) b
def a5H (C:Addr)(A:Cs)(NP P:Addr):Sp:=fun vs H Q E=>∃r R o w wl ws ox,vs= [.ref r,.ref wl]/\H wl=some (.lst (ws.map V.int))/\ws.length<=500/\cA C A H r R o w/\R.ps≠ []/\SzR R/\jP P (Or2 o ox) H/\(∀x,ox x->H x≠none)/\
 ((∀x∈ws,0<=x/\x<((R.ps.length:Nat):Int))->∀b H' o',a1X (R.ps.map aZ) b->iY C A H' r (lJ R (wrL ws R.ps.length b) b) o'->jP P (Or2 o' ox) H'->MvP P o H o' H'->Q (.int b) H')/\
 (¬ (∀x∈ws,0<=x/\x<((R.ps.length:Nat):Int))->∀H',Same H H'->False)
def b7U {ws:List Int}{i:Int}(h:b=0\/b=1):wrB ws i b=0\/wrB ws i b=1:=by
 unfold wrB
 by_cases z:i∈ws
 ·rw[if_pos z];omega
 ·rw[if_neg z];exact h
def cA.says {R:RS}{w:Rw}(h:cA C A H r R o w)(hb:b∈R.ps.map aZ):b=0\/b=1:=by
 obtain⟨S,hS,rfl⟩:=Y2.mp hb
 obtain⟨i,hi,e⟩:=Y7 hS
 obtain⟨p,oi,_,hP⟩:=h.at (i:=i) (S:=S) (by rw[Yc hi,e])
 exact a6C hP.wf
def tR:Sp:=fun vs H Q _=>∃a b c,vs= [.int a,.int b,.int c]/\Q (.int c) H
def b8C (a:Addr):Addr->List V->Hp->VK->Prop:=fun f vs H Q=>f=a/\∃x y z:Int,vs= [.int x,.int y,.int z]/\Q (.int z) H
def a2R {P:Program}{w:World}{base:Heap}(G:fX P w K mg base CX0 k a d ps tR)(B:Binds K d ps []):a1W P w K mg base k (b8C a):=by
 rintro f A outer s H us vs Q hr e0 r ⟨rfl,x,y,z,rfl,q⟩
 have hsp:tR [.int x,.int y,.int z] H Q E0:=⟨x,y,z,rfl,q⟩
 have KX:K.In s.heap:=e0.mod.kin.keeps fun b o e=>(e0.bs b o e).1
 have hb:=B s us KX (by rw[YQ,<-r.length];exact G.len _ _ _ _ hsp)
 rw[YQ]at hb
 exact G.run A outer s H ⟨us, []⟩ us _ Q E0 hr e0 hb r hsp
def jO (R:RS):Int:=if (0:Int)∈R.ps.map aZ then 0 else 1
def sH {ns:List Int}(h:∀z∈ns,z=0\/z=1)(l:a1X ns b):b=if (0:Int)∈ns then 0 else 1:=by
 by_cases c:(0:Int)∈ns
 ·rw[if_pos c]
  have:=l.2 0 c
  rcases h b l.1 with z | z <;> omega
 ·rw[if_neg c]
  rcases h b l.1 with z | z
  ·exact absurd (z▸l.1) c
  ·exact z
def vO (R:RS):RS:=lJ R ((List.range R.ps.length).map fun _=>jO R) (jO R)
def cI (R:RS):Nat->RS
 |0=>R
 |n+1=>vO (cI R n)
theorem vV (R:RS):∀n:Nat,(cI R n).ps.length=R.ps.length
 |0=>rfl
 |n+1=>((gQ (cI R n) _ _).2.2.1).trans (vV R n)
def b0E (C:Addr)(A:Cs):Sp:=fun vs H Q _=>∃(r:Addr)(R:RS)(o:Own)(w:Rw)(n:Nat),vs= [.ref r,.int ((n:Nat):Int),.non]/\cA C A H r R o w/\R.ps≠ []/\n<=900/\(∀k,k<=n->SzR (cI R k))/\
 ∀l H1 o',iY C A H1 r (cI R n) o'->Mv o H o' H1->H1 l=none->Q (.ref l) (upd H1 l (.lst (((List.range n).map fun k=>jO (cI R k)).map V.int)))
def cA.says54 {R:RS}{w:Rw}(h:cA C A H r R o w)(hb:b∈R.ps.map aZ):b=0\/b=1:=by
 obtain⟨S,hS,rfl⟩:=Y2.mp hb
 obtain⟨i,hi,e⟩:=Y7 hS
 obtain⟨p,oi,_,hP⟩:=h.at (i:=i) (S:=S) (by rw[Yc hi,e])
 exact a6C hP.wf
def b3D (a:Addr):Addr->List V->Hp->VK->Prop:=fun f vs H Q=>b8D f vs H Q\/b8C a f vs H Q
def b0S {P:Program}{w:World}{base:Heap}(G:fX P w K mg base CX0 2 a d ps tR)(B:Binds K d ps []):a1W P w K mg base 2 (b3D a):=by
 rintro f A outer s H us vs Q hr e0 r (h | h)
 ·exact a6D f A outer s H us vs Q hr e0 r h
 ·exact a2R G B f A outer s H us vs Q hr e0 r h
def a6A (C:Addr)(A:Cs)(NP:Addr)(g:PS->Hp->VK->Prop):Sp:=fun vs H Q E=>∃r R o w k,vs= [.ref r,.int k]/\cA C A H r R o w/\(∀(i:Nat) S,k=((i:Nat):Int)->R.ps[i]? =some S->g S H Q)/\(¬ (0<=k/\k<((R.ps.length:Nat):Int))->∀H',Same H H'->False)
def a5Z (C:Addr)(A:Cs)(NP:Addr)(g:RS->List (List Int)):Sp:=fun vs H Q E=>∃r R o w k,vs= [.ref r,.int k]/\cA C A H r R o w/\(∀(i:Nat) xs,k=((i:Nat):Int)->(g R)[i]? =some xs->∀l,H l=none->Q (.ref l) (upd H l (.lst (xs.map V.int))))/\(¬ (0<=k/\k<((R.ps.length:Nat):Int))->∀H',Same H H'->False)
def gN:PS->Hp->VK->Prop:=fun S H Q=>Q (.int S.tot) H
def b6M:PS->Hp->VK->Prop:=fun S H Q=>S.wt.length<=900/\∀l xs H',H l=none->Same H H'->H' l=some (.lst xs)->eO H H' xs S.wt->Q (.ref l) H'
abbrev FB (P:Program)(w:World)(K:W.Frag)(mg:Str->Option Value)(base:Heap)(CX:CXT)(k:Nat)(nm:Str)(a:Addr)(d:FuncData)(ps:List Str)(sp:Sp):Prop:=fX P w K mg base CX k a d ps sp/\Binds K d ps []/\W.keepIn K (.ref a)=true/\mg nm=some (.ref a)
abbrev MB (P:Program)(w:World)(K:W.Frag)(mg:Str->Option Value)(base:Heap)(CX:CXT)(k:Nat)(a:Addr)(d:FuncData)(ps:List Str)(sp:Sp):Prop:=fX P w K mg base CX k a d ps sp/\Binds K d ps []
abbrev FL (K:W.Frag)(f:Addr)(n q:Str)(st:Stmt)(oc:Value)(od:Option Addr)(kV dc pm:Value)(an:Option Addr)(cd ct:Value)(sl:Array (Option Value)):Prop:=K.lookup f=some ⟨oc,od,.func (W.fnOf n q (lA st) (gD st) (bO st) .none kV dc pm an cd ct),sl⟩
structure GFm (K:W.Frag)(mg:Str->Option Value)(nm:Str)(st:Stmt)(f:Addr)(d:FuncData):Prop where
 F:Fun K nm nm st f d
 m:mg nm=some (.ref f)
def GF (K:W.Frag)(mg:Str->Option Value)(nm:Str)(st:Stmt)(f:Addr):Prop:=∃d,GFm K mg nm st f d
def MF (K:W.Frag)(C:Addr)(x q:Str)(st:Stmt)(f:Addr):Prop:=W.findIn K (.ref C) x=some (some (.ref f))/\∃d,Fun K x q st f d
def gf_mk {h:Heap}{nm:Str}{st:Stmt}{f:Addr}(X:K.In h)(G:h.Ns mainGlobals mg)(a:W.nsIn K mainGlobals nm=some (some (.ref f)))(l:FL K f nm nm st oc od kV dc pm an cd ct sl)(c:W.codeIn K cd nm=true)(k:W.keepIn K (.ref f)=true):GF K mg nm st f:=⟨_,zG l c k,W.mg_of X G a⟩
def mf_mk {x q:Str}{st:Stmt}{f:Addr}(a:W.findIn K (.ref C) x=some (some (.ref f)))(l:FL K f x q st oc od kV dc pm an cd ct sl)(c:W.codeIn K cd q=true)(k:W.keepIn K (.ref f)=true):MF K C x q st f:=⟨a,_,zG l c k⟩
def MFc (K:W.Frag)(C:Addr)(x q:Str)(st:Stmt)(f c0:Addr):Prop:=W.findIn K (.ref C) x=some (some (.ref f))/\∃d,Fun K x q st f d/\d.code= .ref c0
def mfc_mk {c0:Addr}{x q:Str}{st:Stmt}{f:Addr}(a:W.findIn K (.ref C) x=some (some (.ref f)))(l:FL K f x q st oc od kV dc pm an (.ref c0) ct sl)(c:W.codeIn K (.ref c0) q=true)(k:W.keepIn K (.ref f)=true):MFc K C x q st f c0:=⟨a,_,zG l c k,rfl⟩
abbrev HB (x q:Str)(st:Stmt)(ps:List Str):Prop:=∀(kV doc pm:Value)(an:Option Addr)(cdv ct:Value)(us:List Value),us.length=ps.length->bindArgs (W.fnOf x q (lA st) (gD st) (bO st) .none kV doc pm an cdv ct) ⟨us, []⟩=pure (ps.zip us)
theorem bi0 (h:bindArgs d ⟨[], []⟩=pure []):∀us:List Value,us.length=([]:List Str).length->bindArgs d ⟨us, []⟩=pure (([]:List Str).zip us) | [],_=>h
def bi1 {a:Str}(h:∀u,bindArgs d ⟨[u], []⟩=pure [(a,u)]):∀us:List Value,us.length= [a].length->bindArgs d ⟨us, []⟩=pure ([a].zip us):=by
 intro us hl
 rcases us with _ | ⟨u,_ | ⟨w_,l_⟩⟩
 ·simp at hl
 ·exact h u
 ·simp at hl
def bi2 {a b:Str}(h:∀u v,bindArgs d ⟨[u,v], []⟩=pure [(a,u),(b,v)]):∀us:List Value,us.length= [a,b].length->bindArgs d ⟨us, []⟩=pure ([a,b].zip us):=by
 intro us hl
 rcases us with _ | ⟨u,_ | ⟨v,_ | ⟨w_,l_⟩⟩⟩
 ·simp at hl
 ·simp at hl
 ·exact h u v
 ·simp at hl
def bi3 {a b c:Str}(h:∀u v x,bindArgs d ⟨[u,v,x], []⟩=pure [(a,u),(b,v),(c,x)]):∀us:List Value,us.length= [a,b,c].length->bindArgs d ⟨us, []⟩=pure ([a,b,c].zip us):=by
 intro us hl
 rcases us with _ | ⟨u,_ | ⟨v,_ | ⟨x,_ | ⟨w_,l_⟩⟩⟩⟩
 ·simp at hl
 ·simp at hl
 ·simp at hl
 ·exact h u v x
 ·simp at hl
def bi4 {a b c e:Str}(h:∀u v x y,bindArgs d ⟨[u,v,x,y], []⟩=pure [(a,u),(b,v),(c,x),(e,y)]):∀us:List Value,us.length= [a,b,c,e].length->bindArgs d ⟨us, []⟩=pure ([a,b,c,e].zip us):=by
 intro us hl
 rcases us with _ | ⟨u,_ | ⟨v,_ | ⟨x,_ | ⟨y,_ | ⟨w_,l_⟩⟩⟩⟩⟩
 ·simp at hl
 ·simp at hl
 ·simp at hl
 ·simp at hl
 ·exact h u v x y
 ·simp at hl
def sco {N:List Str}{sc:Scope}(h1:sc.kind= .function/\sc.isCoroutine=false/\sc.isGenerator=false)(h2:N.Nodup/\N.take ps.length=ps/\(∀x∈ps,sc.names.lookup x=some .local\/sc.names.lookup x=some .cell)/\∀y∈sc.names,y.2≠ .free):iD N ps sc:=⟨h1.1,h1.2.1,h1.2.2,h2.1,h2.2.1,h2.2.2.1,h2.2.2.2⟩
section
variable {P:Program}{w:World}{base:Heap}{CX:CXT}{x q:Str}{st:Stmt}{f:Addr}{fd:FuncData}{sp:Sp}
theorem mbM (N:List Str)(F:Fun K x q st f fd)(g:iD N ps (bO st)->fX P w K mg base CX k f fd ps sp)(S:iD N ps (bO st):=by exact sco ⟨rfl,rfl,rfl⟩ (by decide +kernel))
  (hb:HB x q st ps:=by first | exact fun _ _ _ _ _ _=>bi1 fun _=>rfl | exact fun _ _ _ _ _ _=>bi2 fun _ _=>rfl | exact fun _ _ _ _ _ _=>bi3 fun _ _ _=>rfl | exact fun _ _ _ _ _ _=>bi4 fun _ _ _ _=>rfl | exact fun _ _ _ _ _ _=>bi5 fun _ _ _ _ _=>rfl | exact fun _ _ _ _ _ _=>bi6 fun _ _ _ _ _ _=>rfl | exact fun _ _ _ _ _ _=>bi7 fun _ _ _ _ _ _ _=>rfl | exact fun _ _ _ _ _ _=>bi0 rfl):MB P w K mg base CX k f fd ps sp:=⟨g S,F.binds hb⟩
theorem mbK (N:List Str)(F:Fun K x q st f fd)(hbody:∀{cdv:Value}{A:Around}{outer:List Env}{s:Shared}{vs:List V}{E:XK}(H:Hp)(Q:VK),N.Nodup->dF k (A.deeper (PyProof.Rows.envOfC q (bO st) s.heap.objs.size f cdv))->sp vs H Q E->∃t,PSs (qT CX0 P w K mg base N q (bO st) f cdv A outer s H E).nox (gD st) t/\t { nx:=fun _ H'=>Q .non H',rt:=Q } (start N vs) H)(len:∀(vs:List V)(H:Hp)(Q:VK)(E:XK),sp vs H Q E->vs.length=ps.length:=by intro _ _ _ _ h;repeat (first | (obtain⟨rfl,_⟩:=h;exact rfl) | obtain⟨_,h⟩:=h))(S:iD N ps (bO st):=by exact sco ⟨rfl,rfl,rfl⟩ (by decide +kernel))
  (hb:HB x q st ps:=by first | exact fun _ _ _ _ _ _=>bi1 fun _=>rfl | exact fun _ _ _ _ _ _=>bi2 fun _ _=>rfl | exact fun _ _ _ _ _ _=>bi3 fun _ _ _=>rfl | exact fun _ _ _ _ _ _=>bi4 fun _ _ _ _=>rfl | exact fun _ _ _ _ _ _=>bi5 fun _ _ _ _ _=>rfl | exact fun _ _ _ _ _ _=>bi6 fun _ _ _ _ _ _=>rfl | exact fun _ _ _ _ _ _=>bi7 fun _ _ _ _ _ _ _=>rfl | exact fun _ _ _ _ _ _=>bi0 rfl):MB P w K mg base CX0 (k+1) f fd ps sp:=⟨F.ok S len fun _ _ _ _ _ _ _ _ hr=>hbody _ _ S.nd hr,F.binds hb⟩
theorem fbK (N:List Str)(F:GFm K mg x st f fd)(hbody:∀{cdv:Value}{A:Around}{outer:List Env}{s:Shared}{vs:List V}{E:XK}(H:Hp)(Q:VK),N.Nodup->dF k (A.deeper (PyProof.Rows.envOfC x (bO st) s.heap.objs.size f cdv))->sp vs H Q E->∃t,PSs (qT CX0 P w K mg base N x (bO st) f cdv A outer s H E).nox (gD st) t/\t { nx:=fun _ H'=>Q .non H',rt:=Q } (start N vs) H)(len:∀(vs:List V)(H:Hp)(Q:VK)(E:XK),sp vs H Q E->vs.length=ps.length:=by intro _ _ _ _ h;repeat (first | (obtain⟨rfl,_⟩:=h;exact rfl) | obtain⟨_,h⟩:=h))(S:iD N ps (bO st):=by exact sco ⟨rfl,rfl,rfl⟩ (by decide +kernel))
  (hb:HB x x st ps:=by first | exact fun _ _ _ _ _ _=>bi1 fun _=>rfl | exact fun _ _ _ _ _ _=>bi2 fun _ _=>rfl | exact fun _ _ _ _ _ _=>bi3 fun _ _ _=>rfl | exact fun _ _ _ _ _ _=>bi4 fun _ _ _ _=>rfl | exact fun _ _ _ _ _ _=>bi5 fun _ _ _ _ _=>rfl | exact fun _ _ _ _ _ _=>bi6 fun _ _ _ _ _ _=>rfl | exact fun _ _ _ _ _ _=>bi7 fun _ _ _ _ _ _ _=>rfl | exact fun _ _ _ _ _ _=>bi0 rfl):FB P w K mg base CX0 (k+1) x f fd ps sp:=⟨F.F.ok S len fun _ _ _ _ _ _ _ _ hr=>hbody _ _ S.nd hr,F.F.binds hb,F.F.kp,F.m⟩
end
section
variable (P:Program)(w:World)(mg:Str->Option Value)(base:Heap)(CA:Cs)
variable {Zbx Zd2 ZcE Zc1 ZbT Ziy Zg9 Zg7 Ziz ZiB ZhK ZiA Zj7 ZfJ Zgb ZiC Zha ZfL Zgc ZdY Zdn ZdX ZdB ZdA Zfe ZdM ZcA Zbw ZdL Zdm Zc0 Zeo ZcX Zdw Zdx Zep ZdP ZdO Zen Ze0 Ze2 ZdZ Zeu ZdQ Zdi ZdC Zex Zdl ZdU ZdT ZcY ZbS ZbR Zg8 Zdy Ze5 Zj6 Zeq Zge ZhL Zgd ZhJ ZfK Ze1 Ze7 Ze3 Zd0 Zev ZdR Zdj ZdD Zey ZfO ZfP Zdk ZdE Zez Ze4 Zew Zd1 ZdS Ze8 Ze6 Zdz Zfb Zfa ZcZ Zfd ZfQ ZdV Zet Zfc Zer Ze9 Zes ZdW Zg2 Zg6 ZfH ZfI Zg3 ZhI Zg4 Zg5 Zmp ZmG ZmB ZlD ZmE Zdr ZbP ZeA ZkG Zl:Addr}
variable {ZiR Zh2 ZfM Zgj ZeD Zk3 ZjF ZjD Zk4 Zk6 Zkl Zk5 ZlF Zh5 ZiQ Zk7 ZjG Zh7 ZiS ZhY Zgv ZhX Zhh Zhg Zjw Zjx Zgw Zfl Zjv Zgu Zgi ZiE Zgf Zhc Zhd ZiF ZhP ZhO ZiD Zhl Zjk ZhZ ZiK ZhQ Zgq Zhi ZiN Zgt ZhU ZhT Zgg ZeC ZeB ZjE Zhe Zjn ZlE ZiG ZiU Zkm ZiT Zkk Zh6 Zhm Zjp Zjl Zh0 ZiL ZhR Zgr Zhj ZiO Zkg Zkh Zgs Zhk ZiP Zjm ZiM Zh1 ZhS Zjq Zjo Zhf Zjt Zjs Zgh Zhb Zki ZhV ZiJ Zju ZiH Zjr ZiI ZhW Zjy ZjC Zh3 Zh4 Zjz Zkj ZjA ZjB ZmC:FuncData}
variable {Zk1 ZmI Zl6 Zmn Zk2 Zl7 ZmA Zmo Zmz Zmk Zl8 Zlv Zlx Zma Zmv Zmj Zmw Zmm Zmb Zlw Zml Zl9:Tok}
variable (Zcf:mg "MOST_ALIKE"=some (.int 5 Zl7))
variable (ZaA:mg "NoBits"=some (.ref ZmB))
variable (ZdH:mg "HIGHEST_BYTE"=some (.int 255 Zk1))
variable (ZL:mg "NoKey"=some (.ref ZmE))
variable (Zly:mg "KEY"=some (.int 64647 ZmI))
variable (Zby:mg "CHECK_BITS"=some (.int 15 Zl6))
variable (ZdI:mg "HIGHEST_NAME"=some (.int 255 Zk2))
variable (Zed:mg "Streak"=some (.ref CA.streak))
variable (ZeI:mg "MOST_BYTES"=some (.int 7 Zl8))
variable (Zw:mg "NoFrame"=some (.ref Zdr))
variable (Zfh:mg "NAME_BITS"=some (.int 8 Zmn))
variable (Zfi:mg "SIZE_BITS"=some (.int 3 Zmo))
variable (ZaS:mg "BYTE_BITS"=some (.int 8 Zmk))
variable (Zds:mg "SIZE_AT"=some (.int 9 ZmA))
variable (Zbz:mg "DATA_AT"=some (.int 12 Zmz))
variable (ZcD:mg "ANSWER_AT"=some (.int 1 Zmj))
variable (Zc4:mg "VOTES_AT"=some (.int 9 Zmw))
variable (Zdt:mg "Tail"=some (.ref ZeA))
variable (ZeK:mg "QUIET_FROM"=some (.int 12 Zma))
variable (ZfR:mg "OFF_FROM"=some (.int 18 Zmv))
variable (ZbQ:mg "GREAT_FAULT"=some (.int 8 Zlv))
variable (Zd5:mg "SMALL_FAULT"=some (.int 1 Zlx))
variable (ZhM:mg "Reader"=some (.ref CA.reader))
variable (Zlz:mg "Off"=some (.ref CA.off))
variable (Zc3:mg "Flagging"=some (.ref CA.flag))
variable (Zfg:mg "FLAG_BITS"=some (.int 6 Zmm))
variable (Zb7:mg "Settles"=some (.ref CA.settles))
variable (Zcw:mg "VOTES"=some (.ref ZkG))
variable (ZK:mg "NoPost"=some (.ref ZbP))
variable (Zje:mg "Count"=some (.ref CA.count))
variable (ZdN:mg "Free"=some (.ref CA.free))
variable (Zd4:mg "QUIET_TURNS"=some (.int 8 Zlw))
variable (ZcQ:mg "Rests"=some (.ref CA.rests))
variable (ZbA:mg "REST_TURNS"=some (.int 3 Zmb))
variable (Zec:mg "Speaks"=some (.ref CA.speaks))
variable (Zdg:mg "Reads"=some (.ref CA.reads))
variable (Zeb:mg "InTail"=some (.ref CA.intail))
variable (ZfS:mg "ReadTail"=some (.ref CA.rtail))
variable (Zff:mg "DUEL_BITS"=some (.int 9 Zml))
variable (Zfj:mg "SpeakTail"=some (.ref CA.stail))
variable (ZZ:mg "Rail"=some (.ref Zl))
variable (ZeJ:mg "MOST_POSTS"=some (.int 5 Zl9))
variable (Zkn:mg "Post"=some (.ref CA.post))
variable (Zgk:mg "NoName"=some (.ref ZlD))
variable (Zx:mg "range"=none)
variable (ZlA:mg "all"=none)
variable (Z0:mg "list"=none)
variable (Zr:mg "len"=none)
variable (ZlB:mg "max"=none)
variable (ZdJ:mg "min"=none)
variable (Zfk:mg "enumerate"=none)
variable (ZlC:mg "sum"=none)
variable (ZhN:mg "sorted"=none)
variable (ZeL:mg "isinstance"=none)
variable (ZdG:zW K ZkG [1,3,5])
variable (ZeE:∃oc od fd sl,K.lookup Zbx=some ⟨oc,od,.func fd,sl⟩)
variable (Zg:TCl K CA.rtail)
variable (Zf:TCl K CA.stail)
variable (Zi:Cls K CA.streak)
variable (Zbl:Mk K CA.streak Zd2)
variable (Ze:Cls K CA.reader)
variable (Zal:b3U K ZeA "__init__" Zfe)
variable (Zd:Cls K CA.count)
variable (ZdF:Mk K CA.reader ZdY)
variable (ZM:Cls K CA.free)
variable (Zj:Cls K CA.speaks)
variable (ZF:Cls K CA.reads)
variable (Zs:Cls K CA.intail)
variable (Zt:Cls K CA.flag)
variable (ZT:Cls K CA.settles)
variable (ZY:Cls K CA.rests)
variable (Za:Cls K CA.post)
variable (ZaU:Mk K CA.flag Zdi)
variable (Zar:Mk K CA.settles ZdC)
variable (Zd3:Mk K CA.count Zeo)
variable (ZaP:Mk K CA.free Ze2)
variable (Zau:Mk K CA.rests Zex)
variable (Zbk:Mk K CA.speaks ZdZ)
variable (ZaG:Mk K CA.reads Zeu)
variable (Zbj:Mk K CA.intail ZdQ)
variable (Zc2:Mk K CA.rtail Zdm)
variable (ZcF:Mk K CA.stail Zc0)
variable (Zce:Cls K CA.off)
variable (Zb:Cls K Zl)
variable (ZeF:Mk K CA.post Ze7)
variable (ZeG:Mk K Zl Zfb)
variable (ZS:Meth K CA.streak "lengthen" ZcE)
variable (ZD:Meth K CA.streak "is_full" Zc1)
variable (ZaM:Meth K CA.streak "is_too_long" ZbT)
variable (Zbf:Meth K CA.reader "judged" Zdn)
variable (Za1:Meth K CA.rtail "is_fault" ZcA)
variable (ZaT:Meth K CA.stail "is_fault" ZcA)
variable (ZaN:Meth K CA.rtail "judged_vote" Zbw)
variable (Zay:Meth K CA.stail "judged_vote" Zbw)
variable (Zah:Meth K CA.count "is_off" Zdw)
variable (ZV:Meth K CA.count "move" Zep)
variable (ZO:Meth K CA.reader "hear" ZdX)
variable (Za6:Meth K CA.count "is_quiet" ZcX)
variable (Zbn:Meth K CA.count "number" Zdx)
variable (ZbL:Meth K CA.post "is_off" ZdU)
variable (ZeH:MkB K CA.off)
variable (Zam:Meth K CA.count "fault" ZdP)
variable (ZbH:Meth K CA.count "blame" ZdO)
variable (Za7:Meth K CA.post "has_frame" ZcY)
variable (Zbe:Meth K CA.post "is_quiet" Zdl)
variable (Za0:Meth K CA.rtail "says" ZdM)
variable (ZaR:Meth K CA.stail "says" ZdM)
variable (Zaw:Meth K CA.free "says" Ze3)
variable (ZaL:Meth K CA.post "foremost_wire" ZbS)
variable (Zbp:Meth K CA.reader "frame" ZdA)
variable (Zbq:Meth K CA.reader "plain" ZdB)
variable (ZbU:Meth K CA.count "good" Zen)
variable (ZaK:Meth K CA.post "drop_foremost" ZbR)
variable (Zbo:Meth K CA.post "hand_up" Zdy)
variable (ZaZ:Meth K CA.rtail "hear" ZdL)
variable (ZaQ:Meth K CA.stail "hear" ZdL)
variable (ZbN:Meth K CA.speaks "says" Zd0)
variable (ZbZ:Meth K CA.reads "says" Zev)
variable (ZbI:Meth K CA.intail "says" ZdR)
variable (Zbc:Meth K CA.flag "says" Zdj)
variable (Zbr:Meth K CA.settles "says" ZdD)
variable (Zb1:Meth K CA.rests "says" Zey)
variable (ZcB:Meth K CA.off "says" ZfO)
variable (Zcg:Meth K CA.free "step" Ze4)
variable (ZbO:Meth K CA.speaks "step" Zd1)
variable (Zb0:Meth K CA.reads "step" Zew)
variable (ZbJ:Meth K CA.intail "step" ZdS)
variable (Zbd:Meth K CA.flag "step" Zdk)
variable (Zbs:Meth K CA.settles "step" ZdE)
variable (Zb2:Meth K CA.rests "step" Zez)
variable (ZcC:Meth K CA.off "step" ZfP)
variable (Zk:Meth K Zl "post_at" Zdz)
variable (Zch:Meth K CA.post "hand" Ze5)
variable (Zcj:Meth K CA.post "says" Ze8)
variable (Zci:Meth K CA.post "hear" Ze6)
variable (Z9:Meth K Zl "make_turn" ZcZ)
variable (ZbV:Meth K CA.post "waits" Zeq)
variable (ZbK:Meth K CA.post "faults" ZdT)
variable (ZaY:Meth K Zl "run" ZfQ)
variable (Zcm:Meth K Zl "turn" Zfd)
variable (Zcl:Meth K Zl "said" Zfc)
variable (Zck:Meth K Zl "hand" Zfa)
variable (ZbX:Meth K Zl "turns" Zes)
variable (ZaX:Meth K Zl "events" ZdV)
variable (ZaO:Meth K Zl "bits" Ze9)
variable (ZbY:Meth K Zl "waits" Zet)
variable (ZbM:Meth K Zl "faults" ZdW)
variable (ZbW:Meth K Zl "heard" Zer)
variable (Zee:Bm K mg 4)
variable (Zak:bG K CA.streak "last")
variable (Zu:bG K CA.streak "alike")
variable (ZA:bG K CA.reader "streak")
variable (Zq:bG K CA.reader "kept")
variable (ZH:bG K CA.reader "answer")
variable (Zp:bG K CA.count "total")
variable (Z5:bG K CA.free "since")
variable (ZI:bG K CA.speaks "wire")
variable (ZR:bG K CA.speaks "reader")
variable (ZC:bG K CA.speaks "many")
variable (Z3:bG K CA.reads "reader")
variable (Zaz:bG K CA.reads "many")
variable (ZB:bG K CA.intail "tail")
variable (Zat:bG K CA.intail "found")
variable (Zac:bG K CA.flag "left")
variable (ZN:bG K CA.flag "may_blame")
variable (Z4:bG K CA.settles "may_blame")
variable (Zas:bG K CA.rests "left")
variable (Zh:bG K CA.post "tally")
variable (Zm:bG K CA.post "waiting")
variable (Zax:bG K CA.post "choice")
variable (Zai:bG K CA.post "handed_up")
variable (Z6:bG K CA.post "votes")
variable (Zaa:bG K CA.post "now")
variable (ZG:bG K Zl "posts")
variable (Zaj:bG K Zl "owners")
variable (Zv:bG K Zl "borne")
variable (ZW:bG K Zl "sayings")
variable (ZQ:bG K Zl "hearings")
variable (ZP:bG K Zl "happened")
variable (Zef:W.codeHdIn K 969 965=true)
variable (hc_Rail_turn:Zhb.code= .ref 969)
set_option maxHeartbeats 4000000
variable (Za5:FB P w K mg base (CX0) 2 "heard_well" Zbx ZiR ["post","turn","bit"] (tR))
def Zlr (F0:GFm K mg "heard_well" Zja Zbx ZiR):type_of% Za5:=by
 refine fbK ["post","turn","bit"] F0 fun H Q nd hr h=>?_
 obtain⟨a,b,c,rfl,q⟩:=h
 refine⟨_,(aF (aL (dv 2))),?_⟩
 exact q
variable (ZaE:MB P w K mg base (CX0) 1 Zd2 Zh2 ["self"] (a5E CA.streak))
include Zi Zak Zu in
theorem ZkV (F0:Fun K "__init__" "Streak.__init__" Zim Zd2 Zh2):type_of% ZaE:=by
 refine mbK ["self"] F0 fun H Q nd hr h=>?_
 obtain⟨a,dx,rfl,ha,q⟩:=h
 refine⟨_,(aD (bT Zi Zak (dv 0) jH) (aF (bT Zi Zu (dv 0) aG))),?_⟩
 refine⟨dx, [],ha,by decide,?_⟩
 refine⟨dx,_,aC,by decide,?_⟩
 exact q _ (by rw[jF];rfl)
variable (ZU:MB P w K mg base (CX0) 1 ZcE ZfM ["self","bit"] (b0D CA.streak))
include Zi Zak Zu in
theorem ZiV (F0:Fun K "lengthen" "Streak.lengthen" ZfN ZcE ZfM):type_of% ZU:=by
 refine mbK ["self","bit"] F0 fun H Q nd hr h=>?_
 obtain⟨a,s,b,rfl,⟨dx,ha⟩,q⟩:=h
 refine⟨_,(aD (bT Zi Zu (dv 0) (cB (cV (aW dO (dv 1) (aP Zi Zak (dv 0)) (aR _)) (aU cH (aP Zi Zu (dv 0)) aG) aG))) (aF (bT Zi Zak (dv 0) (dv 1)))),?_⟩
 refine⟨fun x H'=>x= .int (((skp s b).2:Nat):Int)/\H'=H,?_,?_⟩
 ·obtain⟨l,n⟩:=s
  cases l with
  |none=>exact⟨dx,_,.non,ha,rfl,rfl,rfl⟩
  | some c=>
   refine⟨dx,_,.int c,ha,rfl,?_⟩
   conv=>whnf
   refine bR (fun z=>?_) (fun z=>?_)
   ·have e:b=c:=dec_true z
    subst e
    refine⟨dx,_,.int n,ha,rfl,?_,rfl⟩
    have e2:(skp (some b,n) b).2=n+1:=if_pos rfl
    rw[e2];rfl
   ·have e:¬ b=c:=dec_false z
    refine⟨?_,rfl⟩
    have e2:(skp (some c,n) b).2=1:=if_neg fun y=>e (Yp y).symm
    rw[e2];rfl
 rintro x H' ⟨rfl,rfl⟩
 refine⟨dx,_,ha,(show 2<1000 by decide),?_⟩
 refine⟨dx,_,aC,(show 2<1000 by decide),?_⟩
 refine q _ ⟨dx,?_⟩ fun x hx=>by rw[aH hx,aH hx]
 rw[aC]
 rfl
variable (ZJ:MB P w K mg base (CX0) 1 Zc1 Zgj ["self"] (a5F CA.streak))
include Zcf Zi Zu in
theorem Zjj (F0:Fun K "is_full" "Streak.is_full" Zgp Zc1 Zgj):type_of% ZJ:=by
 refine mbK ["self"] F0 fun H Q nd hr h=>?_
 obtain⟨a,s,rfl,⟨dx,ha⟩,q⟩:=h
 refine⟨_,(aF (aL (fC dO (aP Zi Zu (dv 0)) (bB (v:= .int 5) rfl Zcf ⟨_,rfl⟩) (aR _)))),?_⟩
 refine⟨dx,_,.int s.2,ha,rfl,?_⟩
 conv=>whnf
 rw[a3R]
 exact q
variable (ZaJ:MB P w K mg base (CX0) 1 ZbT ZeD ["self"] (a5D CA.streak))
include Zcf Zi Zu in
theorem Zhp (F0:Fun K "is_too_long" "Streak.is_too_long" ZeO ZbT ZeD):type_of% ZaJ:=by
 refine mbK ["self"] F0 fun H Q nd hr h=>?_
 obtain⟨a,s,rfl,⟨dx,ha⟩,q⟩:=h
 refine⟨_,(aF (aL (fC tL (aP Zi Zu (dv 0)) (bB (v:= .int 5) rfl Zcf ⟨_,rfl⟩) (aR _)))),?_⟩
 refine⟨dx,_,.int s.2,ha,rfl,?_⟩
 show Q (.bl (decide ((5:Int)<((s.2:Nat):Int)))) H
 rw[b2E]
 exact q
variable (Z1:FB P w K mg base (CX0) 1 "bits_of" Ziy Zk3 ["number","many"] (a5Y))
include ZaA Zx in
theorem Zmq (F0:GFm K mg "bits_of" Zk8 Ziy Zk3):type_of% Z1:=by
 refine fbK ["number","many"] F0 fun H Q nd hr h=>?_
 obtain⟨n,m,rfl,hn,hm,q⟩:=h
 refine⟨_,(aD (bF (PW.pt (oM (aW a4D (dv 0) aG (aR _)) (pZ (aW oX (aU a0C (dv 0) (dv 1)) aG (aR _))))) (aF fB) aV) (aF (aL (fK rfl (ix:=[0,1]) (cJ rfl Zx (aA (dv 1) aB)) (fun C fp s0 H0 at0=>dU) (fun C fp s0 H0 at0=>(aU a0F (aU a0C (dv 1) (aU iZ (aU iZ (dv 2) aG) (dv 0))) aG)) rfl rfl (by rfl) (show ([".0","place","number","many"]:List Str).Nodup by decide +kernel))))),?_⟩
 refine⟨by omega,?_⟩
 conv=>whnf
 refine wO (a3Q hn) ?_
 have em:((m:Nat):Int).toNat=m:=YG m
 refine⟨⟨by omega,by omega⟩,fU (fun i ys H'=>ys=((bM n m).take i).map V.int/\H'=H) ?_ ⟨rfl,rfl⟩ ?_ ?_⟩
 ·rintro i ys H' hi ⟨rfl,_⟩
  refine bD ?_
  rw[Ya,Yu,bZ]
  omega
 ·rintro i ys H' hi ⟨rfl,rfl⟩
  rw[em]at hi
  refine⟨(by show (0:Int)<=(m:Int)-1-(0+(i:Int));omega),?_,rfl⟩
  have e:(m:Int)-1-(0+(i:Int))=((m-1-i:Nat):Int):=by omega
  show _++[V.int (Builtin.bitAnd ((n:Int) / 2 ^ ((m:Int)-1-(0+(i:Int))).toNat) 1)]=_
  rw[e,b3T,a2D hi,Yj]
  rfl
 ·rintro ys H' ⟨rfl,rfl⟩ p hp
  rw[em,Yl (by rw[bZ];exact Yd _)]
  exact q p hp
variable (Zy:FB P w K mg base (CX0) 1 "number_of" Zg9 ZjF ["bits"] (yH K))
def Zl2 (F0:GFm K mg "number_of" Zj2 Zg9 ZjF):type_of% Zy:=by
 refine fbK ["bits","number","bit"] F0 fun H Q nd hr h=>?_
 obtain⟨a,bs,rfl,hS,hb,hl,q⟩:=h
 refine⟨_,(aD (aX (i:=1) nd rfl (Or.inl rfl) aG) (aD (dM YU rfl (cY (dv 0)) (cM (i:=2) nd rfl (Or.inl rfl)) (aF (aX (i:=1) nd rfl (Or.inl rfl) (aU cH (aU iK (dv 1) aG) (dv 2))))) (aF (aL (dv 1))))),?_⟩
 refine⟨⟨_,hS⟩,gC (xs:=bs.map V.int) (fun i σ H'=>(∃x,σ= [some (.ref a),some (.int (jJ (bs.take i))),x])/\H'=H) ⟨⟨_,rfl⟩,rfl⟩ (fun i σ H' _ z=>by rw[z.2];exact hS) ?_ ?_⟩
 ·rintro i x σ H' hx ⟨⟨y,rfl⟩,rfl⟩
  obtain⟨hi,rfl⟩:=nC hx
  have hb':bN (bs.take i):=fun b h=>hb b (Xz h)
  have b1:=tZ hb'
  have b2:(2:Int) ^ (bs.take i).length<=2 ^ 450:=xZ (by rw[Yu];omega)
  refine⟨⟨qZ (n:=450) (a2Y b1.1 (by omega)),iH (by decide) (by decide)⟩,⟨some (.int bs[i]),?_⟩,rfl⟩
  rw[Yh hi,oE]
  rfl
 ·rintro σ H' ⟨⟨y,rfl⟩,rfl⟩
  rw[Ya,Yl (Yd _),b1P hb]
  exact q
variable (Zap:FB P w K mg base (CX0) 1 "are_bytes" Zg7 ZjD ["numbers"] (b0L K))
include ZdH ZlA in
theorem Zl0 (F0:GFm K mg "are_bytes" Zj0 Zg7 ZjD):type_of% Zap:=by
 refine fbK ["numbers"] F0 fun H Q nd hr h=>?_
 obtain⟨a,ns,rfl,hS,hl,q⟩:=h
 refine⟨_,(aF (aL (aY (b7T rfl) rfl ZlA b7F (aA (fK rfl (ix:=[]) (b5Z (dv 0)) (fun C fp s0 H0 at0=>dU) (fun C fp s0 H0 at0=>(wK xV xV aG (dv 0) (bB (v:= .int 255) rfl ZdH ⟨_,rfl⟩))) rfl rfl (by rfl) (show ([".0","number"]:List Str).Nodup by decide +kernel)) aB)))),?_⟩
 refine a8Z hS (fun i ys=>ys=((ns.take i).map byt).map V.bl) ?_ rfl ?_ ?_
 ·rintro i ys hi rfl
  refine bD ?_
  rw[Ya,Ya,Yu]
  omega
 ·rintro i x ys hx rfl
  obtain⟨hi,rfl⟩:=nC hx
  conv=>whnf
  refine bR (fun c=>⟨?_,rfl⟩) (fun c=>⟨?_,rfl⟩)
  ·have c1:(0:Int)<=ns[i]:=dec_true c
   rw[Yh hi,Yj,Yj]
   show _++[V.bl (decide (ns[i]<=255))]=_++[V.bl (byt ns[i])]
   unfold byt
   rw[Yn c1,Bool.true_and]
  ·have c1:¬ (0:Int)<=ns[i]:=dec_false c
   rw[Yh hi,Yj,Yj]
   show _++[V.bl false]=_++[V.bl (byt ns[i])]
   unfold byt
   rw[Yr c1,Bool.false_and]
 rintro ys rfl p hp
 rw[Ya,Yl (Yd _)]
 refine⟨ns.map byt,SqL.of aC,?_⟩
 have e:(ns.map byt).all id=ns.all byt:=by rw[List.all_map];rfl
 rw[e]
 exact q _ (aK hp _)
variable (ZcR:FB P w K mg base (CX0) 1 "divided" Ziz Zk4 ["number","key"] (a2N))
include ZL in
theorem Zmr (F0:GFm K mg "divided" Zk9 Ziz Zk4):type_of% ZcR:=by
 refine fbK ["number","key","whole","rest","power"] F0 fun H Q nd hr h=>?_
 obtain⟨a,rfl,ha,q⟩:=h
 refine⟨_,(aD (bF (aW dO (dv 1) aG (aR _)) (aF fB) aV) (aD (aX (i:=2) nd rfl (Or.inl rfl) aG) (aD (aX (i:=3) nd rfl (Or.inl rfl) (dv 0)) (aD (a6N YU (aW a4G (a1A (dv 3)) (a1A (dv 1)) (aR _)) (aD (aX (i:=4) nd rfl (Or.inl rfl) (aU iZ (a1A (dv 3)) (a1A (dv 1)))) (aD (aX (i:=2) nd rfl (Or.inl rfl) (aU a0V (dv 2) (aU a0W aG (dv 4)))) (aF (aX (i:=3) nd rfl (Or.inl rfl) (aU a0V (dv 3) (aU a0W (dv 1) (dv 4)))))))) (aF (aL (cD (aA (dv 2) (aA (dv 3) aB))))))))),?_⟩
 refine⟨fun mm σ H'=>∃(w r:Nat)(p:Option V),mm=bl r/\σ= [some (.int a),some (.int 64647),some (.int w),some (.int r),p]/\H'=H/\r<2 ^ 450/\R r=R a,⟨_,0,a,_,rfl,rfl,rfl,ha,rfl⟩,?_⟩
 rintro mm σ H' ⟨w,r,p,rfl,rfl,rfl,hr,e⟩
 conv=>whnf
 refine bR (fun c=>?_) (fun c=>?_)
 ·have c1:16<=bl r:=by
   have:((Builtin.Int.intBits (64647:Int):Nat):Int)<=((Builtin.Int.intBits (r:Int):Nat):Int):=dec_true c
   have k:=zR
   show 16<=Builtin.Int.intBits (r:Int)
   have k':Builtin.Int.intBits (64647:Int)=16:=k
   omega
  obtain⟨t1,t2,t3⟩:=a7Y hr c1
  have r3:=a9D hr
  refine⟨fun σ' H2=>∃(w:Nat)(p:Option V),σ'= [some (.int a),some (.int 64647),some (.int w),some (.int ((r ^^^ 64647 <<< (bl r-16):Nat):Int)),p]/\H2=H',?_,?_⟩
  ·rintro σ' H2 ⟨w',p',rfl,rfl⟩
   exact⟨bl (r ^^^ 64647 <<< (bl r-16)),t3,w',_,p',rfl,rfl,rfl,t1,t2.trans e⟩
  have ep:((Builtin.Int.intBits (r:Int):Nat):Int)-((Builtin.Int.intBits (64647:Int):Nat):Int)=((bl r-16:Nat):Int):=by
   have k':Builtin.Int.intBits (64647:Int)=16:=zR
   rw[k']
   show ((bl r:Nat):Int)-_=_
   omega
  refine⟨1,(bl r-16),rfl,YT V.int ep,⟨a7U (n:=1) (by decide),by omega⟩,w,_,rfl,rfl,trivial,?_⟩
  refine⟨64647,(bl r-16),rfl,YT V.int ep,⟨a7U (n:=16) (by decide),by omega⟩,r,_,rfl,rfl,trivial,?_⟩
  exact⟨_,_,rfl,rfl⟩
 ·have c1:bl r<16:=by
   have:¬ ((Builtin.Int.intBits (64647:Int):Nat):Int)<=((Builtin.Int.intBits (r:Int):Nat):Int):=dec_false c
   have k':Builtin.Int.intBits (64647:Int)=16:=zR
   show Builtin.Int.intBits (r:Int)<16
   omega
  have hs:r<32768:=Yf (b3O r) (YA (n:=2) (j:=15) (by decide) (by omega))
  rw[pN hs]at e
  rw[e]
  exact⟨aM rfl,fun p hp=>q w p hp⟩
variable (Zab:FB P w K mg base (CX0) 2 "rest_of" ZiB Zk6 ["bits"] (b4M K))
include ZL Zly Zy ZcR in
theorem Zmt (F0:GFm K mg "rest_of" Zlb ZiB Zk6):type_of% Zab:=by
 refine fbK ["bits"] F0 fun H Q nd hr h=>?_
 obtain⟨a,bs,rfl,hS,hb,hl,q⟩:=h
 refine⟨_,(aF (aL (bK dX (aQ ZcR.1 hr.mo rfl ZcR.2.2.2 ZcR.2.2.1 ZcR.2.1 .nil aJ (aA (aQ Zy.1 hr.mo rfl Zy.2.2.2 Zy.2.2.1 Zy.2.1 .nil aJ (aA (dv 0) aB)) (aA (bB (v:= .int 64647) rfl Zly ⟨_,rfl⟩) aB))) aG (fun _ _=>rfl)))),?_⟩
 refine⟨a,bs,rfl,hS,hb,hl,?_⟩
 refine⟨nm bs,rfl,Yf (lK hb) (YA (by decide) hl),fun w p hp=>?_⟩
 exact⟨_,_,SqT.of aC,rfl,q _ (aK hp _)⟩
variable (Zcz:FB P w K mg base (CX0) 3 "check_of" ZhK Zkl ["bits"] (b0K K))
include ZaA ZL Zby Z0 Z1 Zab in
theorem Zmh (F0:GFm K mg "check_of" ZkE ZhK Zkl):type_of% Zcz:=by
 refine fbK ["bits"] F0 fun H Q nd hr h=>?_
 obtain⟨a,bs,rfl,hS,hb,hl,q⟩:=h
 refine⟨_,(aF (aL (aQ Z1.1 hr.mo rfl Z1.2.2.2 Z1.2.2.1 Z1.2.1 .nil aJ (aA (aQ Zab.1 hr.mo rfl Zab.2.2.2 Zab.2.2.1 Zab.2.1 .nil aJ (aA (aU lV (dZ fH rfl Z0 gF (aA (dv 0) aB)) (aU a0D (cZ (aA aG aB)) (bB (v:= .int 15) rfl Zby ⟨_,rfl⟩))) aB)) (aA (bB (v:= .int 15) rfl Zby ⟨_,rfl⟩) aB))))),?_⟩
 refine⟨_,.inl hS,fun l hl1=>?_⟩
 have g1:=aK hl1 (.lst (bs.map V.int))
 have e1:=aC (H:=H) (a:=l) (o:= .lst (bs.map V.int))
 generalize upd H l (.lst (bs.map V.int))=H1 at g1 e1
 refine⟨aM rfl,fun o ho=>?_⟩
 have g2:=aK ho (.lst [.int 0])
 have e2:=aC (H:=H1) (a:=o) (o:= .lst [.int 0])
 generalize upd H1 o (.lst [.int 0])=H2 at g2 e2
 refine⟨_,e2,⟨by decide,by decide⟩,(by show 1*15<=sizeLine;exact small (by decide)),fun z hz=>?_⟩
 have g3:=aK hz (.lst (List.replicate (15:Int).toNat [V.int 0]).flatten)
 have e3:upd H2 z (.lst (List.replicate (15:Int).toNat [V.int 0]).flatten) z=some (.lst ((zs 15).map V.int)):=by rw[aC];rfl
 generalize upd H2 z (.lst (List.replicate (15:Int).toNat [V.int 0]).flatten)=H3 at g3 e3
 refine⟨_,_,g3 _ _ (g2 _ _ e1),e3,(by rw[Ya];exact small (by show bs.length+15<=1000;omega)),fun c hc=>?_⟩
 have g4:=aK hc (.lst (bs.map V.int++(zs 15).map V.int))
 have e4:upd H3 c (.lst (bs.map V.int++(zs 15).map V.int)) c=some (.lst ((bs++zs 15).map V.int)):=by rw[aC,Yj]
 generalize upd H3 c (.lst (bs.map V.int++(zs 15).map V.int))=H4 at g4 e4
 refine⟨c,bs++zs 15,rfl,SqL.of e4,gG hb (tH 15),(by rw[Yb];show bs.length+15<=450;omega),fun H5 g5=>?_⟩
 refine⟨ckn bs,15,rfl,a9B bs,by decide,fun p hp=>?_⟩
 have gs:=g1.trans (g2.trans (g3.trans (g4.trans g5)))
 exact q p _ (gs.none hp) (gs.trans (aK hp _)) aC
variable (ZcS:FB P w K mg base (CX0) 1 "is_name" ZiA Zk5 ["number"] (b8H))
include ZdI in
theorem Zms (F0:GFm K mg "is_name" Zla ZiA Zk5):type_of% ZcS:=by
 refine fbK ["number"] F0 fun H Q nd hr h=>?_
 obtain⟨n,rfl,q⟩:=h
 refine⟨_,(aF (aL (wK xV xV aG (dv 0) (bB (v:= .int 255) rfl ZdI ⟨_,rfl⟩)))),?_⟩
 conv=>whnf
 refine bR (fun c=>?_) (fun c=>?_)
 ·have c1:(0:Int)<=n:=dec_true c
  show Q (.bl (decide (n<=255))) H
  have e:decide (n<=255)=byt n:=by unfold byt;rw[Yn c1,Bool.true_and]
  rw[e];exact q
 ·have c1:¬ (0:Int)<=n:=dec_false c
  show Q (.bl false) H
  have e:false=byt n:=by unfold byt;rw[Yr c1,Bool.false_and]
  rw[e];exact q
variable (Zdq:FB P w K mg base (CX0) 3 "put_in" Zj7 ZlF ["bits"] (b0F K))
include Zed Zi Zbl ZS ZD ZaE ZU ZJ in
theorem Zmy (F0:GFm K mg "put_in" Zl5 Zj7 ZlF):type_of% Zdq:=by
 refine fbK ["bits","wire","streak","bit"] F0 fun H Q nd hr h=>?_
 obtain⟨a,bs,rfl,hS,hl,q⟩:=h
 refine⟨_,(aD (aX (i:=1) nd rfl (Or.inl rfl) (cZ aB)) (aD (aX (i:=2) nd rfl (Or.inl rfl) (mH Zbl ZaE.1 hr.mo rfl Zed ZaE.2 .nil aJ)) (aD (dM YU rfl (cY (dv 0)) (cM (i:=3) nd rfl (Or.inl rfl)) (aD (bA (bY (dv 1) (aA (dv 3) aB))) (aD (bA (bQ Zi ZS ZU.1 hr.mo ZU.2 .nil aJ (dv 2) (aA (dv 3) aB))) (aF (bF (cR (bL Zi ZD ZJ.1 hr.mo ZJ.2 .nil aJ (dv 2))) (aD (bA (bY (dv 1) (aA (aU iZ aG (dv 3)) aB))) (aF (bA (bQ Zi ZS ZU.1 hr.mo ZU.2 .nil aJ (dv 2) (aA (aU iZ aG (dv 3)) aB))))) aV))))) (aF (aL (dv 1)))))),?_⟩
 refine⟨aM rfl,fun p hp=>?_⟩
 have g0:=aK hp (.lst [])
 have e0:=aC (H:=H) (a:=p) (o:= .lst [])
 generalize upd H p (.lst [])=H1 at g0 e0
 refine fun st dx hst hdx hne=>⟨st,dx,rfl,aC,fun H2 eH=>⟨rfl,?_⟩⟩
 have g1:Same H1 H2:=by rw[eH];exact bJ hst hdx
 have s2:jD CA.streak H2 st (sk []):=⟨dx,by rw[eH];exact aC⟩
 clear eH
 have nst:=g0.none hst
 refine⟨⟨_,(g0.trans g1).seq hS⟩,gC (xs:=bs.map V.int) (fun i σ H'=>(∃x,σ= [some (.ref a),some (.ref p),some (.ref st),x])/\H' p=some (.lst ((put (bs.take i)).map V.int))/\jD CA.streak H' st (sk (put (bs.take i)))/\Same H H')
  ⟨⟨_,rfl⟩,g1 _ _ e0,s2,g0.trans g1⟩ (fun i σ H' _ z=>z.2.2.2.seq hS) ?_ ?_⟩
 ·rintro i x σ H' hx ⟨⟨y,rfl⟩,h1,h2,h3⟩
  obtain⟨hi,rfl⟩:=nC hx
  have pl:=mG (bs.take i)
  rw[Yu]at pl
  have h4:=mF (bs.take i)
  generalize vW hi=ept
  generalize bs[i]=b at ept
  generalize put (bs.take i)=w at h1 h2 pl h4 ept
  refine⟨⟨_,SqL.of h1⟩,_,h1,bD (by rw[Ya];omega),?_⟩
  have h1':upd H' p (.lst (w.map V.int++[.int b])) p=some (.lst ((w++[b]).map V.int)):=by rw[aC,Yj];rfl
  have h2':jD CA.streak (upd H' p (.lst (w.map V.int++[.int b]))) st (sk w):=h2.set h1
  have h3':Same H (upd H' p (.lst (w.map V.int++[.int b]))):=h3.put hp
  generalize upd H' p (.lst (w.map V.int++[.int b]))=H3 at h1' h2' h3'
  obtain⟨d3,k3⟩:=id h2'
  refine⟨⟨d3,_,k3,rfl⟩,st,sk w,b,rfl,h2',fun H4 s4 k4=>?_⟩
  rw[<-kJ]at s4
  have h1'':=(k4 p (h2'.ne h1')).trans h1'
  have h3'':Same H H4:=fun c o e=>(k4 c (aO e nst)).trans (h3' c o e)
  obtain⟨d4,k5⟩:=id s4
  refine⟨⟨d4,_,k5,rfl⟩,st,sk (w++[b]),rfl,s4,?_⟩
  conv=>whnf
  refine bR (fun c=>?_) (fun c=>?_)
  ·have c1:run (w++[b])=5:=dec_true c
   have ep:put (bs.take (i+1))=w++[b]++[1-b]:=by rw[ept];unfold pst;rw[if_pos c1]
   refine⟨⟨_,SqL.of h1''⟩,_,h1'',bD (by rw[Ya,Yb,Yv];omega),?_⟩
   have q1:upd H4 p (.lst ((w++[b]).map V.int++[.int (1-b)])) p=some (.lst ((w++[b]++[1-b]).map V.int)):=by rw[aC,Yj (l₁:=w++[b])];rfl
   have q2:=s4.set (ys:=(w++[b]).map V.int++[.int (1-b)]) h1''
   have q3:Same H (upd H4 p (.lst ((w++[b]).map V.int++[.int (1-b)]))):=h3''.put hp
   generalize upd H4 p (.lst ((w++[b]).map V.int++[.int (1-b)]))=H5 at q1 q2 q3
   obtain⟨d6,k6⟩:=id q2
   refine⟨⟨d6,_,k6,rfl⟩,st,sk (w++[b]),1-b,rfl,q2,fun H6 s6 k7=>?_⟩
   rw[<-kJ]at s6
   refine⟨⟨_,rfl⟩,?_,?_,fun c o e=>(k7 c (aO e nst)).trans (q3 c o e)⟩
   ·rw[ep];exact(k7 p (q2.ne q1)).trans q1
   ·rw[ep];exact s6
  ·have c1:¬ run (w++[b])=5:=dec_false c
   have ep:put (bs.take (i+1))=w++[b]:=by rw[ept];unfold pst;rw[if_neg c1]
   exact⟨⟨_,rfl⟩,by rw[ep];exact h1'',by rw[ep];exact s4,h3''⟩
 rintro σ H' ⟨⟨y,rfl⟩,h1,h2,h3⟩
 rw[Ya,Yl (Yd _)]at h1
 exact q p H' hp h3 h1
variable (Zz:FB P w K mg base (CX0) 2 "check_frame" ZfJ Zh5 ["name","data"] (b4S K Zdr))
include ZeI Zw Zr Zap ZcS in
theorem ZkY (F0:GFm K mg "check_frame" Zip ZfJ Zh5):type_of% Zz:=by
 refine fbK ["name","data"] F0 fun H Q nd hr h=>?_
 obtain⟨n,a,ds,rfl,hS,hl,q1,q2⟩:=h
 refine⟨_,(aD (bF (gW (cR (aQ ZcS.1 hr.mo rfl ZcS.2.2.2 ZcS.2.2.1 ZcS.2.1 .nil aJ (aA (dv 0) aB)))) (aF fB) aV) (aD (bF (aW tL (aY cU rfl Zr bV (aA (dv 1) aB)) (bB (v:= .int 7) rfl ZeI ⟨_,rfl⟩) (aR _)) (aF fB) aV) (aF (bF (gW (cR (aQ Zap.1 hr.mo rfl Zap.2.2.2 Zap.2.2.1 Zap.2.1 .nil aJ (aA (dv 1) aB)))) (aF fB) aV)))),?_⟩
 refine⟨n,rfl,?_⟩
 conv=>whnf
 refine bR (fun c=>?_) (fun c=>?_)
 ·have c1:¬ byt n=true:=fun z=>by
   have:(!byt n)=true:=c
   rw[z]at this;cases this
  exact(q2 (a7I (.inl c1)) _ (Same.refl _))
 have c1:byt n=true:=by
  cases e:byt n with
  |true=>rfl
  |false=>exact absurd (show (!byt n)=true by rw[e];rfl) c
 refine⟨_,.inl hS,?_⟩
 rw[Ya]
 conv=>whnf
 refine bR (fun z=>?_) (fun z=>?_)
 ·have z1:(7:Int)<((ds.length:Nat):Int):=dec_true z
  exact(q2 (a7I (.inr (.inl (by omega)))) _ (Same.refl _))
 have z1:¬ (7:Int)<((ds.length:Nat):Int):=dec_false z
 refine⟨a,ds,rfl,.inl hS,hl,fun H1 g1=>?_⟩
 conv=>whnf
 refine bR (fun y=>?_) (fun y=>?_)
 ·have y1:¬ ds.all byt=true:=fun z=>by
   have:(!ds.all byt)=true:=y
   rw[z]at this;cases this
  exact(q2 (fun h=>y1 h.2.2) _ g1)
 ·have y1:ds.all byt=true:=by
   cases e:ds.all byt with
   |true=>rfl
   |false=>exact absurd (show (!ds.all byt)=true by rw[e];rfl) y
  exact q1 ⟨c1,by omega,y1⟩ _ g1
variable (Zbt:FB P w K mg base (CX0) 5 "frame_bits" Zgb ZiQ ["name","data"] (b0H K Zdr))
include ZaA ZL Zw Zfh Zfi ZaS Zr Z1 Zcz Zz in
theorem Zlq (F0:GFm K mg "frame_bits" Zi9 Zgb ZiQ):type_of% Zbt:=by
 refine fbK ["name","data","bits","byte"] F0 fun H Q nd hr h=>?_
 obtain⟨n,a,ds,rfl,hS,hl,q1,q2⟩:=h
 refine⟨_,(aD (bA (aQ Zz.1 hr.mo rfl Zz.2.2.2 Zz.2.2.1 Zz.2.1 .nil aJ (aA (dv 0) (aA (dv 1) aB)))) (aD (aX (i:=2) nd rfl (Or.inl rfl) (aU lV (aU lV (cZ (aA aG aB)) (aQ Z1.1 hr.mo rfl Z1.2.2.2 Z1.2.2.1 Z1.2.1 .nil aJ (aA (dv 0) (aA (bB (v:= .int 8) rfl Zfh ⟨_,rfl⟩) aB)))) (aQ Z1.1 hr.mo rfl Z1.2.2.2 Z1.2.2.1 Z1.2.1 .nil aJ (aA (aY cU rfl Zr bV (aA (dv 1) aB)) (aA (bB (v:= .int 3) rfl Zfi ⟨_,rfl⟩) aB))))) (aD (dM YU rfl (cY (dv 1)) (cM (i:=3) nd rfl (Or.inl rfl)) (aF (bA (a3C (dv 2) (aA (aQ Z1.1 hr.mo rfl Z1.2.2.2 Z1.2.2.1 Z1.2.1 .nil aJ (aA (dv 3) (aA (bB (v:= .int 8) rfl ZaS ⟨_,rfl⟩) aB))) aB))))) (aF (aL (aU lV (dv 2) (aQ Zcz.1 hr.mo rfl Zcz.2.2.2 Zcz.2.2.1 Zcz.2.1 .nil aJ (aA (dv 2) aB)))))))),?_⟩
 refine⟨n,a,ds,rfl,hS,hl,fun hf H1 g1=>?_,q2⟩
 obtain⟨m,rfl,hm⟩:=uM hf.1
 refine⟨aM rfl,fun p2 hp2=>?_⟩
 have g2:=aK hp2 (.lst [.int 0])
 have e2:=aC (H:=H1) (a:=p2) (o:= .lst [.int 0])
 generalize upd H1 p2 (.lst [.int 0])=H2 at g2 e2
 refine⟨m,8,rfl,by show m<2 ^ 8;omega,by decide,fun p3 hp3=>?_⟩
 have g3:=aK hp3 (.lst ((bM m 8).map V.int))
 have e3:=aC (H:=H2) (a:=p3) (o:= .lst ((bM m 8).map V.int))
 generalize upd H2 p3 (.lst ((bM m 8).map V.int))=H3 at g3 e3
 refine⟨_,_,g3 _ _ e2,e3,(by rw[Ya,bZ];exact aM rfl),fun p4 hp4=>?_⟩
 have g4:=aK hp4 (.lst ([.int 0]++(bM m 8).map V.int))
 have e4:=aC (H:=H3) (a:=p4) (o:= .lst ([.int 0]++(bM m 8).map V.int))
 generalize upd H3 p4 (.lst ([.int 0]++(bM m 8).map V.int))=H4 at g4 e4
 have gs4:=g1.trans (g2.trans (g3.trans g4))
 refine⟨_,.inl (gs4.seq hS),?_⟩
 rw[Ya]
 have h7:=hf.2.1
 refine⟨ds.length,3,rfl,by show ds.length<2 ^ 3;omega,by decide,fun p5 hp5=>?_⟩
 have g5:=aK hp5 (.lst ((bM ds.length 3).map V.int))
 have e5:=aC (H:=H4) (a:=p5) (o:= .lst ((bM ds.length 3).map V.int))
 generalize upd H4 p5 (.lst ((bM ds.length 3).map V.int))=H5 at g5 e5
 refine⟨_,_,g5 _ _ e4,e5,(by rw[Yb,Ya,Ya,bZ,bZ];exact aM rfl),fun p6 hp6=>?_⟩
 have g6:=aK hp6 (.lst ([.int 0]++(bM m 8).map V.int++(bM ds.length 3).map V.int))
 have e6:upd H5 p6 (.lst ([.int 0]++(bM m 8).map V.int++(bM ds.length 3).map V.int)) p6=some (.lst ((hdD (m:Int) ds.length []).map V.int)):=by
  rw[aC];unfold hdD b8;simp
 generalize upd H5 p6 (.lst ([.int 0]++(bM m 8).map V.int++(bM ds.length 3).map V.int))=H6 at g6 e6
 have gs6:=gs4.trans (g5.trans g6)
 have np6:H p6=none:=(gs4.trans g5).none hp6
 refine⟨⟨_,gs6.seq hS⟩,gC (xs:=ds.map V.int) (fun i σ H'=>(∃x,σ= [some (.int m),some (.ref a),some (.ref p6),x])/\Same H H'/\H' p6=some (.lst ((hdD (m:Int) ds.length (ds.take i)).map V.int))) ⟨⟨_,rfl⟩,gs6,e6⟩ (fun i σ H' _ z=>z.2.1.seq hS) ?_ ?_⟩
 ·rintro i x σ H' hx ⟨⟨y,rfl⟩,g,e⟩
  obtain⟨hi,rfl⟩:=nC hx
  obtain⟨d,ed,hd256⟩:=uM (xO hf.2.2 hi)
  have hlen:=pI (m:Int) ds.length (ds.take i)
  rw[Yu]at hlen
  refine⟨⟨_,e⟩,d,8,by rw[ed];rfl,by show d<2 ^ 8;omega,by decide,fun p7 hp7=>?_⟩
  have g7:=aK hp7 (.lst ((bM d 8).map V.int))
  refine⟨_,_,g7 _ _ e,aC,(by rw[Ya,Ya,bZ,hlen];exact small (by omega)),⟨_,rfl⟩,(g.trans g7).put np6,?_⟩
  have eb:b8 ds[i]=bM d 8:=by rw[ed];rfl
  rw[aC,Yh hi,wR,eb,Yj]
 rintro σ H7 ⟨⟨y,rfl⟩,g7,e7⟩
 rw[Ya,Yl (Yd _)]at e7
 have hlen:=yZ (m:Int) ds
 refine⟨p6,hd (m:Int) ds,rfl,SqL.of e7,mY _ _,by omega,fun p8 H8 hp8 g8 e8=>?_⟩
 refine⟨_,_,g8 _ _ e7,e8,(by rw[Ya,Ya,zQ];show (hd (m:Int) ds).length+15<=sizeLine;exact small (by omega)),fun p9 hp9=>?_⟩
 have g9:=aK hp9 (.lst ((hd (m:Int) ds).map V.int++(ck (hd (m:Int) ds)).map V.int))
 refine q1 hf p9 _ ((g7.trans g8).none hp9) (g7.trans (g8.trans g9)) ?_
 rw[aC]
 unfold fb
 rw[Yj]
 rfl
variable (ZcT:FB P w K mg base (CX0) 6 "wire_of" ZiC Zk7 ["name","data"] (a4X K Zdr))
include ZaA ZL Zw Zdq Zbt in
theorem Zmu (F0:GFm K mg "wire_of" Zlc ZiC Zk7):type_of% ZcT:=by
 refine fbK ["name","data"] F0 fun H Q nd hr h=>?_
 obtain⟨n,a,ds,rfl,hS,hl,q1,q2⟩:=h
 refine⟨_,(aF (aL (aQ Zdq.1 hr.mo rfl Zdq.2.2.2 Zdq.2.2.1 Zdq.2.1 .nil aJ (aA (aQ Zbt.1 hr.mo rfl Zbt.2.2.2 Zbt.2.2.1 Zbt.2.1 .nil aJ (aA (dv 0) (aA (dv 1) aB))) aB)))),?_⟩
 refine⟨n,a,ds,rfl,hS,hl,fun hf p H1 hp g1 e1=>?_,q2⟩
 have:=lU n ds
 have:=hf.2.1
 exact⟨p,fb n ds,rfl,SqL.of e1,by omega,fun p2 H2 hp2 g2 e2=>q1 hf p2 H2 (g1.none hp2) (g1.trans g2) e2⟩
variable (Zaq:FB P w K mg base (CX0) 2 "told_size" Zha ZjG ["bits"] (b4L K))
include Zds Zbz Zy in
theorem Zl3 (F0:GFm K mg "told_size" Zj3 Zha ZjG):type_of% Zaq:=by
 refine fbK ["bits"] F0 fun H Q nd hr h=>?_
 obtain⟨a,bs,rfl,hS,hb,h12,hl,q⟩:=h
 refine⟨_,(aF (aL (aQ Zy.1 hr.mo rfl Zy.2.2.2 Zy.2.2.1 Zy.2.1 .nil aJ (aA (jU uW (dv 0) (iR (bB (v:= .int 9) rfl Zds ⟨_,rfl⟩)) (iR (bB (v:= .int 12) rfl Zbz ⟨_,rfl⟩))) aB)))),?_⟩
 refine⟨_,hS,fun p hp=>?_⟩
 have ec:jM (bs.map V.int) (some (9:Int)) (some (12:Int))=((bs.drop 9).take 3).map V.int:=zN rfl rfl (by omega)
 rw[ec]
 refine⟨p,_,rfl,SqL.of aC,jW hb 9 3,?_,q _ (aK hp _)⟩
 rw[Yu];omega
variable (Z8:FB P w K mg base (CX0) 3 "is_complete" ZfL Zh7 ["bits"] (b8G K))
include Zby ZaS Zbz Zr Zaq in
theorem Zk0 (F0:GFm K mg "is_complete" Zir ZfL Zh7):type_of% Z8:=by
 refine fbK ["bits"] F0 fun H Q nd hr h=>?_
 obtain⟨a,bs,rfl,hS,hb,hl,q1,q2⟩:=h
 refine⟨_,(aF (aL (a7P (fC a4G (aY cU rfl Zr bV (aA (dv 0) aB)) (bB (v:= .int 12) rfl Zbz ⟨_,rfl⟩) (aR _)) (a6R (fC dO (aY cU rfl Zr bV (aA (dv 0) aB)) (aU cH (aU cH (bB (v:= .int 12) rfl Zbz ⟨_,rfl⟩) (aU iK (bB (v:= .int 8) rfl ZaS ⟨_,rfl⟩) (aQ Zaq.1 hr.mo rfl Zaq.2.2.2 Zaq.2.2.1 Zaq.2.1 .nil aJ (aA (dv 0) aB)))) (bB (v:= .int 15) rfl Zby ⟨_,rfl⟩)) (aR _)))))),?_⟩
 refine⟨_,.inl hS,?_⟩
 rw[Ya]
 conv=>whnf
 refine bR (fun c=>?_) (fun c=>?_)
 ·have c1:(12:Int)<=((bs.length:Nat):Int):=dec_true c
  refine⟨_,.inl hS,?_⟩
  rw[Ya]
  refine⟨a,bs,rfl,hS,hb,by omega,hl,fun H1 g1=>?_⟩
  have:=a4V hb
  refine⟨⟨by decide,iH (by omega) (by omega)⟩,?_⟩
  by_cases z:jZ bs
  ·have e:decide (((bs.length:Nat):Int)=12+8*((szB bs:Nat):Int)+15)=true:=Yn (by have:=z.2;omega)
   show Q (.bl (decide (((bs.length:Nat):Int)=12+8*((szB bs:Nat):Int)+15))) H1
   rw[e];exact q1 z _ g1
  ·have e:decide (((bs.length:Nat):Int)=12+8*((szB bs:Nat):Int)+15)=false:=Yr (fun y=>z ⟨by omega,by omega⟩)
   show Q (.bl (decide (((bs.length:Nat):Int)=12+8*((szB bs:Nat):Int)+15))) H1
   rw[e];exact q2 z _ g1
 ·have c1:¬ (12:Int)<=((bs.length:Nat):Int):=dec_false c
  exact q2 (fun z=>by have:=z.1;omega) _ (Same.refl _)
variable (Zbu:FB P w K mg base (CX0) 4 "read_frame" Zgc ZiS ["bits"] (b4N K Zdr))
include ZL Zw ZaS Zds Zbz Zx Zy Zab Zaq Z8 in
theorem Zls (F0:GFm K mg "read_frame" Zjb Zgc ZiS):type_of% Zbu:=by
 refine fbK ["bits","starts"] F0 fun H Q nd hr h=>?_
 obtain⟨a,bs,rfl,hS,hb,hl,q1,q2⟩:=h
 refine⟨_,(aD (bF (gW (cR (aQ Z8.1 hr.mo rfl Z8.2.2.2 Z8.2.2.1 Z8.2.1 .nil aJ (aA (dv 0) aB)))) (aF fB) aV) (aD (bF (aW oX (bK dJ (dv 0) aG (fun _ _=>rfl)) aG (aR _)) (aF fB) aV) (aD (bF (aW oX (aQ Zab.1 hr.mo rfl Zab.2.2.2 Zab.2.2.1 Zab.2.1 .nil aJ (aA (dv 0) aB)) aG (aR _)) (aF fB) aV) (aD (jG (j:=1) nd rfl rfl rfl (ix:=[]) (cJ rfl Zx (aA (aQ Zaq.1 hr.mo rfl Zaq.2.2.2 Zaq.2.2.1 Zaq.2.1 .nil aJ (aA (dv 0) aB)) aB)) (fun C fp s0 H0 at0=>dU) (fun C fp s0 H0 at0=>(aU cH (bB (v:= .int 12) rfl Zbz ⟨_,rfl⟩) (aU iK (bB (v:= .int 8) rfl ZaS ⟨_,rfl⟩) (dv 0)))) rfl rfl (by rfl) (show ([".0","number"]:List Str).Nodup by decide +kernel)) (aF (aL (cD (aA (aQ Zy.1 hr.mo rfl Zy.2.2.2 Zy.2.2.1 Zy.2.1 .nil aJ (aA (jU uW (dv 0) (iR aG) (iR (bB (v:= .int 9) rfl Zds ⟨_,rfl⟩))) aB)) (aA (fK rfl (ix:=[0]) (cY (dv 1)) (fun C fp s0 H0 at0=>dU) (fun C fp s0 H0 at0=>(aQ Zy.1 hr.mo rfl Zy.2.2.2 Zy.2.2.1 Zy.2.1 .nil aJ (aA (jU (b3V (K:=K)) (dv 1) (iR (dv 0)) (iR (aU cH (dv 0) (bB (v:= .int 8) rfl ZaS ⟨_,rfl⟩)))) aB))) rfl rfl (by rfl) (show ([".0","start","bits"]:List Str).Nodup by decide +kernel)) aB))))))))),?_⟩
 refine⟨a,bs,rfl,hS,hb,hl,fun hc H1 g1=>?_,fun hc H1 g1=>(q2 (fun z=>hc z.1) _ g1)⟩
 have h12:=hc.1
 have e0:atI (bs.map V.int) (0:Int)=some (.int (bs.getD 0 0)):=by rw[<-c1Z (by omega)];exact uP (i:=0) (by omega)
 refine⟨_,_,g1.seq hS,e0,?_⟩
 conv=>whnf
 refine bR (fun c=>?_) (fun c=>?_)
 ·refine(q2 (fun z=>?_) _ g1)
  have:(!decide (bs.getD 0 0=0))=true:=c
  rw[Yn z.2.1]at this;cases this
 have c1:bs.getD 0 0=0:=YM fun y=>c (by
  show (!decide (bs.getD 0 0=0))=true
  rw[Yr y];rfl)
 refine⟨a,bs,rfl,g1.seq hS,hb,hl,fun H2 g2=>?_⟩
 conv=>whnf
 refine bR (fun z=>?_) (fun z=>?_)
 ·refine(q2 (fun y=>?_) _ (g1.trans g2))
  have:(!decide (((rst bs:Nat):Int)=0))=true:=z
  rw[Yn (by have:=y.2.2;omega)]at this;cases this
 have z1:rst bs=0:=YM fun y=>z (by
  show (!decide (((rst bs:Nat):Int)=0))=true
  rw[Yr (by omega)];rfl)
 have ok:zZ bs:=⟨hc,c1,z1⟩
 have gs2:=g1.trans g2
 have s8:=a4V hb
 refine⟨a,bs,rfl,gs2.seq hS,hb,h12,hl,fun H3 g3=>?_⟩
 have gs3:=gs2.trans g3
 have em:((szB bs:Nat):Int).toNat=szB bs:=YG _
 refine⟨⟨by omega,by omega⟩,fU (fun i ys H'=>ys=((List.range i).map fun k=>V.int (12+8*((k:Nat):Int)))/\H'=H3) ?_ ⟨rfl,rfl⟩ ?_ ?_⟩
 ·rintro i ys H' hi ⟨rfl,_⟩
  refine bD ?_
  rw[Ya,YC];omega
 ·rintro i ys H' hi ⟨rfl,rfl⟩
  rw[em]at hi
  refine⟨⟨by decide,iH (by omega) (by omega)⟩,?_,rfl⟩
  rw[Xu,Yj]
  show _++[V.int (12+8*(0+(i:Int)))]=_++[V.int (12+8*((i:Nat):Int))]
  rw[Xw]
 rintro ys H4 ⟨rfl,rfl⟩ ps hps
 rw[em]
 generalize eU:upd H4 ps _=H5
 have g4:=nS hps eU
 have e4:=nE eU
 clear eU
 have gs5:=gs3.trans g4
 refine⟨_,gs5.seq hS,fun p6 hp6=>?_⟩
 have ec:jM (bs.map V.int) (some (1:Int)) (some (9:Int))=((bs.drop 1).take 8).map V.int:=zN rfl rfl (by omega)
 rw[ec]
 generalize eU:upd H5 p6 _=H6
 have g6:=nS hp6 eU
 have e6:=nE eU
 clear eU
 refine⟨p6,_,rfl,SqL.of e6,jW hb 1 8,(by rw[Yu];omega),?_⟩
 have gs6:=gs5.trans g6
 have e46:=g6 _ _ e4
 refine⟨⟨_,SqL.of e46⟩,eE (xs:=(List.range (szB bs)).map fun k=>V.int (12+8*((k:Nat):Int))) (fun i ys H'=>ys=((daB bs).take i).map V.int/\Same H6 H') ?_ ⟨rfl,Same.refl _⟩ (fun i ys H' _ z=>SqL.of (z.2 _ _ e46)) ?_ ?_⟩
 ·rintro i ys H' hi ⟨rfl,_⟩
  refine bD ?_
  rw[Ya,Yu]
  rw[Ya,YC]at hi
  omega
 ·rintro i x ys H' hx ⟨rfl,g⟩
  have hi:i<szB bs:=by
   have:=(Yg.mp hx).1
   rwa [Ya,YC]at this
  have ex:x=V.int (12+8*((i:Nat):Int)):=by
   rw[Yk,Xv hi]at hx
   exact(Yp hx).symm
  subst ex
  have hc2:=hc.2
  refine⟨_,(gs6.trans g).seq hS,fun p7 hp7=>?_⟩
  have ec2:jM (bs.map V.int) (some ((12:Int)+8*((i:Nat):Int))) (some ((12:Int)+8*((i:Nat):Int)+8))=((bs.drop (12+8*i)).take 8).map V.int:=zN (by omega) (by omega) (by omega)
  rw[ec2]
  refine⟨p7,_,rfl,SqL.of aC,jW hb _ 8,(by rw[Yu];omega),?_,g.trans (aK hp7 _)⟩
  rw[a8U hi,Yj]
  rfl
 rintro ys H7 ⟨rfl,g7⟩ p8 hp8
 have e8:upd H7 p8 (.lst (((daB bs).take ((List.range (szB bs)).map fun k=>V.int (12+8*((k:Nat):Int))).length).map V.int)) p8=some (.lst ((daB bs).map V.int)):=by
  rw[aC,Ya,YC,Yl (by rw[a1O];exact Yd _)]
 have g8:=aK hp8 (.lst (((daB bs).take ((List.range (szB bs)).map fun k=>V.int (12+8*((k:Nat):Int))).length).map V.int))
 generalize upd H7 p8 _=H8 at e8 g8
 refine⟨aM rfl,fun t ht=>?_⟩
 have g9:=aK ht (.tup [.int ((nm ((bs.drop 1).take 8):Nat):Int),.ref p8])
 exact q1 ok t p8 _ ((gs6.trans g7).none hp8) (gs6.trans (g7.trans (g8.trans g9))) (g9 _ _ e8) aC
variable (Zct:MB P w K mg base (CX0) 3 ZdY ZhY ["self"] (a5N CA.reader CA.streak))
include Zed Zbl Ze ZA Zq ZH ZaE in
theorem ZkR (F0:Fun K "__init__" "Reader.__init__" Zii ZdY ZhY):type_of% Zct:=by
 refine mbK ["self"] F0 fun H Q nd hr h=>?_
 obtain⟨a,dx,rfl,ha,q⟩:=h
 refine⟨_,(aD (bT Ze ZA (dv 0) (mH Zbl ZaE.1 hr.mo rfl Zed ZaE.2 .nil aJ)) (aD (bT Ze Zq (dv 0) (cZ aB)) (aF (bT Ze ZH (dv 0) bI)))),?_⟩
 refine fun st ds hst hds hne=>⟨st,ds,rfl,aC,fun H2 eH=>⟨rfl,?_⟩⟩
 have g1:Same H H2:=by rw[eH];exact bJ hst hds
 have s2:jD CA.streak H2 st (sk []):=⟨ds,by rw[eH];exact aC⟩
 clear eH
 refine⟨dx, [],g1 _ _ ha,by decide,?_⟩
 have nas:a≠st:=fun z=>by rw[z,hst]at ha;cases ha
 refine⟨aM rfl,fun ks hks=>?_⟩
 have nak:a≠ks:=fun z=>by rw[z]at hks;rw[aC]at hks;cases hks
 have hks2:H2 ks=none:=by rw[aH (Ne.symm nak)]at hks;exact hks
 have nsk:st≠ks:=fun z=>by
  obtain⟨d,e⟩:=s2
  rw[z,hks2]at e;cases e
 refine⟨dx, [("streak",.ref st)],(by rw[aH nak,aC];rfl),(show 1<1000 by decide),?_⟩
 refine⟨dx,_,aC,(show 2<1000 by decide),?_⟩
 refine q _ st ks ⟨⟨dx,aC⟩,?_,?_⟩ hst (g1.none hks2) ?_
 ·refine s2.at_ ?_
  rw[aH (Ne.symm nas),aH (Ne.symm nas),aH nsk,aH (Ne.symm nas)]
 ·rw[aH (Ne.symm nak),aH (Ne.symm nak),aC]
  rfl
 ·intro x o hx e
  have hxk:x≠ks:=fun z=>by rw[z,g1.none hks2]at e;cases e
  rw[aH hx,aH hx,aH hxk,aH hx]
  exact g1 _ _ e
variable (ZbF:MB P w K mg base (CX0) 4 Zdn Zgv ["self"] (yF CA.reader CA.streak))
include ZL Zi Ze ZD ZaM ZA Zq ZJ ZaJ Zab Z8 in
theorem Zkd (F0:Fun K "judged" "Reader.judged" ZgC Zdn Zgv):type_of% ZbF:=by
 refine mbK ["self"] F0 fun H Q nd hr h=>?_
 obtain⟨r,st,ks,w,t,rfl,hR,hb,hl,q⟩:=h
 refine⟨_,(aD (bF (cR (bL Zi ZaM ZaJ.1 hr.mo ZaJ.2 .nil aJ (aP Ze ZA (dv 0)))) (aF (aL bI)) aV) (aD (bF (PW.pt (oM (cR (bL Zi ZD ZJ.1 hr.mo ZJ.2 .nil aJ (aP Ze ZA (dv 0)))) (pZ (gW (cR (aQ Z8.1 hr.mo rfl Z8.2.2.2 Z8.2.2.1 Z8.2.1 .nil aJ (aA (aP Ze Zq (dv 0)) aB))))))) (aF (aL bI)) aV) (aF (aL (cB (cV (aW dO (aQ Zab.1 hr.mo rfl Zab.2.2.2 Zab.2.2.1 Zab.2.1 .nil aJ (aA (aP Ze Zq (dv 0)) aB)) aG (aR _)) bI bI)))))),?_⟩
 obtain⟨dx,er⟩:=hR.rd
 have hs:=hR.sk
 obtain⟨ds,es⟩:=id hs
 refine⟨dx,_,.ref st,er,rfl,⟨ds,_,es,rfl⟩,st,sk w,rfl,hs,?_⟩
 conv=>whnf
 refine bR (fun c=>?_) (fun c=>?_)
 ·have c1:5<run w:=dec_true c
  have:=q H (Same.refl _)
  rw[pM c1]at this
  exact this
 have c1:¬ 5<run w:=dec_false c
 refine⟨dx,_,.ref st,er,rfl,⟨ds,_,es,rfl⟩,st,sk w,rfl,hs,?_⟩
 conv=>whnf
 refine bR (fun z=>?_) (fun z=>?_)
 ·have z1:run w=5:=dec_true z
  have:=q H (Same.refl _)
  rw[jY c1 (.inl z1)]at this
  exact this
 have z1:¬ run w=5:=dec_false z
 have kb:=uC hb
 have kl:=yU w
 refine⟨dx,_,.ref ks,er,rfl,ks,kp w,rfl,SqL.of hR.kp,kb,by omega,fun hc H1 g1=>?_,fun hc H1 g1=>?_⟩
 ·have hc2:¬ (run w=5\/¬ jZ (kp w)):=fun y=>y.elim z1 fun x=>x hc
  refine⟨fun x H'=>x= .str (ans w)/\Same H H',?_,?_⟩
  ·refine⟨dx,_,.ref ks,g1 _ _ er,rfl,ks,kp w,rfl,SqL.of (g1 _ _ hR.kp),kb,by omega,fun H2 g2=>?_⟩
   conv=>whnf
   refine bR (fun y=>?_) (fun y=>?_)
   ·have y1:((rst (kp w):Nat):Int)=0:=dec_true y
    rw[oJ c1 hc2 (by omega)]
    exact⟨rfl,g1.trans g2⟩
   ·have y1:¬ ((rst (kp w):Nat):Int)=0:=dec_false y
    rw[uR c1 hc2 (by omega)]
    exact⟨rfl,g1.trans g2⟩
  ·rintro x H2 ⟨rfl,g2⟩
   exact q _ g2
 ·have:=q H1 g1
  rw[jY c1 (.inr hc)]at this
  exact this
variable (Z7:MB P w K mg base (CX0) 5 ZdX ZhX ["self","bit"] (a5O CA.reader CA.streak))
include ZL Zi Ze ZS ZD Zbf ZA Zq ZH ZU ZJ ZbF in
theorem ZkQ (F0:Fun K "hear" "Reader.hear" Zih ZdX ZhX):type_of% Z7:=by
 refine mbK ["self","bit","is_put_in"] F0 fun H Q nd hr h=>?_
 obtain⟨r,st,ks,w,t,b,rfl,hR,hb,hl,q⟩:=h
 refine⟨_,(aD (aX (i:=2) nd rfl (Or.inl rfl) (bL Zi ZD ZJ.1 hr.mo ZJ.2 .nil aJ (aP Ze ZA (dv 0)))) (aD (bA (bQ Zi ZS ZU.1 hr.mo ZU.2 .nil aJ (aP Ze ZA (dv 0)) (aA (dv 1) aB))) (aD (iV (bF (gW (cR (dv 2))) (aF (bA (bY (aP Ze Zq (dv 0)) (aA (dv 1) aB)))) aV)) (aD (bT Ze ZH (dv 0) (bL Ze Zbf ZbF.1 hr.mo ZbF.2 .nil aJ (dv 0))) (aF (aL (aP Ze ZH (dv 0)))))))),?_⟩
 obtain⟨dx,er⟩:=hR.rd
 have hs:=hR.sk
 obtain⟨ds,es⟩:=id hs
 refine⟨dx,_,.ref st,er,rfl,⟨ds,_,es,rfl⟩,st,sk w,rfl,hs,?_⟩
 refine⟨dx,_,.ref st,er,rfl,⟨ds,_,es,rfl⟩,st,sk w,b,rfl,hs,fun H2 s2 k2=>?_⟩
 rw[<-kJ]at s2
 have er2:=(k2 r hR.ne1).trans er
 have ek2:=(k2 ks hR.ne3).trans hR.kp
 have kl:=yU w
 refine⟨fun σ' H'=>σ'= [some (.ref r),some (.int b),some (.bl (decide (run w=5)))]/\iC CA.reader CA.streak H' r st ks (w++[b]) t/\b2S H H' r st ks,?_,?_⟩
 ·conv =>whnf
  refine bR (fun c=>?_) (fun c=>?_)
  ·have c1:¬ run w=5:=fun y=>by
    have:(!decide (run w=5))=true:=c
    rw[Yn y]at this;cases this
   refine⟨dx,_,.ref ks,er2,rfl,⟨_,SqL.of ek2⟩,_,ek2,bD (by rw[Ya];omega),rfl,⟨⟨dx,(by rw[aH hR.ne2];exact er2)⟩,s2.set ek2,?_⟩,?_⟩
   ·rw[aC,gB,if_neg c1,Yj];rfl
   ·intro x o h1 h2 h3 e
    rw[aH h3,k2 x h2]
    exact e
  ·have c1:run w=5:=YM fun y=>c (by
    show (!decide (run w=5))=true
    rw[Yr y];rfl)
   refine⟨rfl,⟨⟨dx,er2⟩,s2,?_⟩,?_⟩
   ·rw[gB,if_pos c1];exact ek2
   ·intro x o h1 h2 h3 e
    rw[k2 x h2]
    exact e
 rintro σ' H3 ⟨rfl,hR3,b3⟩
 have h450:(w++[b]).length<=450:=by rw[Yb,Yv];omega
 obtain⟨dy,er3⟩:=hR3.rd
 refine⟨⟨dy,_,er3,rfl⟩,r,st,ks,w++[b],t,rfl,hR3,hb,h450,fun H4 g4=>?_⟩
 have hR4:=hR3.same g4
 obtain⟨dz,er4⟩:=hR4.rd
 refine⟨dz,_,er4,(show 3<1000 by decide),?_⟩
 have hR5:iC CA.reader CA.streak (upd H4 r (.ins CA.reader dz (rdF st ks (ans (w++[b]))))) r st ks (w++[b]) (ans (w++[b])):=⟨⟨dz,aC⟩,hR4.sk.at_ (aH (Ne.symm hR4.ne1)),by rw[aH (Ne.symm hR4.ne2)];exact hR4.kp⟩
 have b5:b2S H (upd H4 r (.ins CA.reader dz (rdF st ks (ans (w++[b]))))) r st ks:=fun x o h1 h2 h3 e=>by
  rw[aH h1]
  exact g4 _ _ (b3 x o h1 h2 h3 e)
 exact⟨dz,_,.str (ans (w++[b])),aC,rfl,q _ hR5 b5⟩
variable (Zcb:MB P w K mg base (CX0) 1 ZdB Zhh ["self"] (a2L CA.reader CA.streak))
include Z0 Ze Zq in
theorem Zkt (F0:Fun K "plain" "Reader.plain" Zhv ZdB Zhh):type_of% Zcb:=by
 refine mbK ["self"] F0 fun H Q nd hr h=>?_
 obtain⟨r,st,ks,w,t,rfl,hR,q⟩:=h
 refine⟨_,(aF (aL (dZ fH rfl Z0 gF (aA (aP Ze Zq (dv 0)) aB)))),?_⟩
 obtain⟨dx,er⟩:=hR.rd
 exact⟨dx,_,.ref ks,er,rfl,_,.inl (SqL.of hR.kp),fun p hp=>q p _ hp (aK hp _) aC⟩
variable (Zca:MB P w K mg base (CX0) 5 ZdA Zhg ["self"] (a2M CA.reader CA.streak))
include ZL Zw Ze Zq ZH Zbu in
theorem Zks (F0:Fun K "frame" "Reader.frame" Zhu ZdA Zhg):type_of% Zca:=by
 refine mbK ["self"] F0 fun H Q nd hr h=>?_
 obtain⟨r,st,ks,w,rfl,hR,hb,hl,h0,q1,q2⟩:=h
 refine⟨_,(aF (aL (cB (cV (aW dO (aP Ze ZH (dv 0)) bI (aR _)) (aQ Zbu.1 hr.mo rfl Zbu.2.2.2 Zbu.2.2.1 Zbu.2.1 .nil aJ (aA (aP Ze Zq (dv 0)) aB)) jH)))),?_⟩
 obtain⟨dx,er⟩:=hR.rd
 have kb:=uC hb
 have kl:=yU w
 refine⟨fun x H'=>Q x H',?_,fun x H' z=>z⟩
 refine⟨dx,_,.str (ans w),er,rfl,?_⟩
 conv=>whnf
 refine bR (fun c=>?_) (fun c=>?_)
 ·have c1:ans w="whole":=YZ c
  have c2:=uQ c1
  have ok:zZ (kp w):=⟨c2.1,h0 c1,c2.2⟩
  refine⟨dx,_,.ref ks,er,rfl,ks,kp w,rfl,SqL.of hR.kp,kb,by omega,fun _ t p H' hp g e1 e2=>q1 c1 ok t p H' hp g e1 e2,fun no=>absurd ok no⟩
 ·exact q2 fun z=>c (Yn z)
variable (Za4:MB P w K mg base (CX0) 1 Zfe Zjw ["self","votes","spoke"] (a5B K CA.rtail CA.stail))
include Zg Zf in
theorem ZlT (F0:Fun K "__init__" "Tail.__init__" ZjT Zfe Zjw):type_of% Za4:=by
 refine mbK ["self","votes","spoke"] F0 fun H Q nd hr h=>?_
 obtain⟨t,C,dx,v,s,rfl,hC,e,q⟩:=h
 refine⟨_,(aD (kW (dv 0) (dv 1)) (aD (kW (dv 0) (dv 2)) (aD (kW (dv 0) aG) (aF (kW (dv 0) aG))))),?_⟩
 have hc:=jR Zg Zf hC
 refine⟨C,dx,_,e,hc.cls,hc.n1,by decide,?_⟩
 refine⟨C,dx,_,aC,hc.cls,hc.n2,(show 1<1000 by decide),?_⟩
 refine⟨C,dx,_,aC,hc.cls,hc.n3,(show 2<1000 by decide),?_⟩
 refine⟨C,dx,_,aC,hc.cls,hc.n4,(show 3<1000 by decide),?_⟩
 have eu:∀(H:Hp)(a:Addr)(x y:HO),upd (upd H a x) a y=upd H a y:=fun H a x y=>by
  funext z
  by_cases h:z=a
  ·rw[h,aC,aC]
  ·rw[aH h,aH h,aH h]
 rw[eu,eu,eu]
 exact q
variable (Zdf:MB P w K mg base (CX0) 1 ZdM Zjx ["self"] (a5A CA.rtail CA.stail))
include ZcD Zg Zf in
theorem ZlU (F0:Fun K "says" "Tail.says" ZjU ZdM Zjx):type_of% Zdf:=by
 refine mbK ["self"] F0 fun H Q nd hr h=>?_
 obtain⟨t,v,s,o,n,rfl,⟨C,dx,hC,e⟩,q⟩:=h
 refine⟨_,(aF (aL (cB (cV (PW.pt (lN (aW dO (fL (dv 0)) (bB (v:= .int 1) rfl ZcD ⟨_,rfl⟩) (aR _)) (kO (gW (cR (fL (dv 0))))))) aG aG)))),?_⟩
 have hc:=jR Zg Zf hC
 refine⟨fun x H'=>x= .int (gH s o)/\H'=H,?_,?_⟩
 ·refine⟨C,dx,_,_,e,hc.cls,hc.n3,rfl,?_⟩
  conv=>whnf
  refine bR (fun c=>?_) (fun c=>yW ?_)
  ·have c1:((o:Nat):Int)=1:=dec_true c
   refine⟨C,dx,_,_,e,hc.cls,hc.n2,rfl,?_⟩
   cases s
   ·refine⟨?_,rfl⟩
    unfold gH
    rw[if_pos ⟨by omega,rfl⟩]
   ·refine⟨?_,rfl⟩
    unfold gH
    rw[if_neg fun z=>nomatch z.2]
  ·have c1:¬ ((o:Nat):Int)=1:=dec_false c
   refine⟨?_,rfl⟩
   unfold gH
   rw[if_neg fun z=>c1 (by omega)]
 rintro x H' ⟨rfl,rfl⟩
 exact q
variable (ZbG:MB P w K mg base (CX0) 1 ZcA Zgw ["self","at","bit"] (a2I CA.rtail CA.stail))
include ZcD Zg Zf in
theorem Zke (F0:Fun K "is_fault" "Tail.is_fault" ZgD ZcA Zgw):type_of% ZbG:=by
 refine mbK ["self","at","bit"] F0 fun H Q nd hr h=>?_
 obtain⟨t,v,s,o,n,a,b,rfl,⟨C,dx,hC,e⟩,q⟩:=h
 refine⟨_,(aD (bF (aW dO (dv 1) (bB (v:= .int 1) rfl ZcD ⟨_,rfl⟩) (aR _)) (aF (aL (a7P (fL (dv 0)) (a6R (fC dO (dv 2) aG (aR _)))))) aV) (aF (aL (fC dO (dv 2) aG (aR _))))),?_⟩
 have hc:=jR Zg Zf hC
 conv=>whnf
 refine bR (fun c=>?_) (fun c=>?_)
 ·have c1:((a:Nat):Int)=1:=dec_true c
  have ef:iM s a b=(s && decide (b=1)):=if_pos (by omega)
  rw[ef]at q
  refine⟨C,dx,_,_,e,hc.cls,hc.n2,rfl,?_⟩
  cases s
  ·exact q
  ·exact q
 ·have c1:¬ ((a:Nat):Int)=1:=dec_false c
  have ef:iM s a b=decide (b=0):=if_neg (by omega)
  rw[ef]at q
  exact q
variable (ZaV:MB P w K mg base (CX0) 1 Zbw Zfl ["self","bit"] (a2H CA.rtail CA.stail))
include Zc4 Zg Zf in
theorem Zis (F0:Fun K "judged_vote" "Tail.judged_vote" Zfm Zbw Zfl):type_of% ZaV:=by
 refine mbK ["self","bit"] F0 fun H Q nd hr h=>?_
 obtain⟨t,v,s,o,n,b,rfl,⟨C,dx,hC,e⟩,q⟩:=h
 refine⟨_,(aD (iV (bF (aW dO (dv 1) aG (aR _)) (aF (kW (dv 0) (aU cH (fL (dv 0)) aG))) aV)) (aD (bF (aW a4D (fL (dv 0)) (aU cH (bB (v:= .int 9) rfl Zc4 ⟨_,rfl⟩) (fL (dv 0))) (aR _)) (aF (aL bI)) aV) (aF (aL (cB (cV (aW tL (fL (dv 0)) (aU b3Z (fL (dv 0)) aG) (aR _)) bI bI)))))),?_⟩
 have hc:=jR Zg Zf hC
 refine⟨fun σ' H'=>σ'= [some (.ref t),some (.int b)]/\H' t=some (.ins C dx (tlF v s o (if b=0 then n+1 else n)))/\a9J H H' t,?_,?_⟩
 ·conv=>whnf
  refine bR (fun c=>?_) (fun c=>?_)
  ·have c1:b=0:=dec_true c
   refine⟨C,dx,_,_,e,hc.cls,hc.n4,rfl,C,dx,_,e,hc.cls,hc.n4,(show 4<1000 by decide),rfl,?_,fun x u hx ex=>by rw[aH hx];exact ex⟩
   rw[aC,if_pos c1]
   rfl
  ·have c1:¬ b=0:=dec_false c
   refine⟨rfl,?_,fun x u hx ex=>ex⟩
   rw[if_neg c1]
   exact e
 rintro σ' H' ⟨rfl,e',b'⟩
 have q':=q H' ⟨C,dx,hC,e'⟩ b'
 generalize (if b=0 then n+1 else n)=m at e' q'
 refine⟨C,dx,_,_,e',hc.cls,hc.n3,rfl,C,dx,_,_,e',hc.cls,hc.n1,rfl,?_⟩
 conv=>whnf
 refine bR (fun c=>?_) (fun c=>?_)
 ·have c1:((o:Nat):Int)<9+((v:Nat):Int):=dec_true c
  have ev:lM v o m="more":=if_pos (by omega)
  rw[ev]at q'
  exact q'
 have c1:¬ ((o:Nat):Int)<9+((v:Nat):Int):=dec_false c
 have ev:lM v o m=(if v / 2<m then ("refused":Str) else ("taken":Str)):=if_neg (by omega)
 rw[ev]at q'
 refine⟨fun x H2=>x= .str (if v / 2<m then ("refused":Str) else ("taken":Str))/\H2=H',?_,?_⟩
 ·refine⟨C,dx,_,_,e',hc.cls,hc.n4,rfl,C,dx,_,_,e',hc.cls,hc.n1,rfl,?_⟩
  refine⟨⟨by decide,by decide⟩,?_⟩
  conv=>whnf
  refine bR (fun z=>?_) (fun z=>?_)
  ·have z1:((v:Nat):Int) / 2<((m:Nat):Int):=dec_true z
   rw[if_pos (by omega)]
   exact⟨rfl,rfl⟩
  ·have z1:¬ ((v:Nat):Int) / 2<((m:Nat):Int):=dec_false z
   rw[if_neg (by omega)]
   exact⟨rfl,rfl⟩
 rintro x H2 ⟨rfl,rfl⟩
 exact q'
variable (Zde:MB P w K mg base (CX0) 2 ZdL Zjv ["self","bit"] (a5C CA.rtail CA.stail))
include Zc4 Zg Zf Za1 ZaT ZaN Zay ZbG ZaV in
theorem ZlS (F0:Fun K "hear" "Tail.hear" ZjS ZdL Zjv):type_of% Zde:=by
 refine mbK ["self","bit","at"] F0 fun H Q nd hr h=>?_
 obtain⟨t,v,s,o,n,b,rfl,⟨C,dx,hC,e⟩,q⟩:=h
 refine⟨_,(aD (aX (i:=2) nd rfl (Or.inl rfl) (fL (dv 0))) (aD (kW (dv 0) (aU cH (dv 2) aG)) (aD (bF (aW a4G (dv 2) (bB (v:= .int 9) rfl Zc4 ⟨_,rfl⟩) (aR _)) (aF (aL (qJ ZaV.1 hr.mo ZaV.2 .nil aJ (dv 0) (aA (dv 1) aB)))) aV) (aF (aL (cB (cV (cR (qJ ZbG.1 hr.mo ZbG.2 .nil aJ (dv 0) (aA (dv 2) (aA (dv 1) aB)))) bI bI))))))),?_⟩
 have hc:=jR Zg Zf hC
 have hmj:=rQ ZaN Zay hC
 have hmf:=rQ Za1 ZaT hC
 refine⟨C,dx,_,_,e,hc.cls,hc.n3,rfl,C,dx,_,e,hc.cls,hc.n3,(show 4<1000 by decide),?_⟩
 have e1:upd H t (.ins C dx (fG "over" (.int (((o:Nat):Int)+1)) (tlF v s o n))) t=some (.ins C dx (tlF v s (o+1) n)):=aC
 have b1:a9J H (upd H t (.ins C dx (fG "over" (.int (((o:Nat):Int)+1)) (tlF v s o n)))) t:=fun x u hx ex=>by rw[aH hx];exact ex
 generalize upd H t (.ins C dx (fG "over" (.int (((o:Nat):Int)+1)) (tlF v s o n)))=H1 at e1 b1
 conv=>whnf
 refine bR (fun c=>?_) (fun c=>?_)
 ·have c1:(9:Int)<=((o:Nat):Int):=dec_true c
  have c2:9<=o:=by omega
  refine⟨⟨C,dx,_,e1,hc.cls,hmj,rfl⟩,t,v,s,o+1,n,b,rfl,⟨C,dx,hC,e1⟩,fun H2 h2 b2=>?_⟩
  have en:tlN o b n=(if b=0 then n+1 else n):=by
   unfold tlN
   by_cases z:b=0
   ·rw[if_pos ⟨c2,z⟩,if_pos z]
   ·rw[if_neg fun y=>z y.2,if_neg z]
  have ew:cF v s o n b=lM v (o+1) (tlN o b n):=if_pos c2
  rw[<-en]at h2 ⊢
  have:=q H2 h2 fun x u hx ex=>b2 x u hx (b1 x u hx ex)
  rw[ew]at this
  exact this
 have c1:¬ (9:Int)<=((o:Nat):Int):=dec_false c
 have c2:¬ 9<=o:=by omega
 have en:tlN o b n=n:=if_neg fun z=>c2 z.1
 have ew:cF v s o n b=(if iM s o b=true then ("fault":Str) else ("more":Str)):=if_neg c2
 rw[ew,en]at q
 have q':=q H1 ⟨C,dx,hC,e1⟩ b1
 refine⟨fun x H2=>x= .str (if iM s o b=true then ("fault":Str) else ("more":Str))/\H2=H1,?_,?_⟩
 ·refine⟨⟨C,dx,_,e1,hc.cls,hmf,rfl⟩,t,v,s,o+1,n,o,b,rfl,⟨C,dx,hC,e1⟩,?_⟩
  generalize iM s o b=f
  cases f
  ·exact⟨rfl,rfl⟩
  ·exact⟨rfl,rfl⟩
 rintro x H2 ⟨rfl,rfl⟩
 exact q'
variable (ZbE:MB P w K mg base (CX0) 2 Zdm Zgu ["self","votes"] (vP CA.rtail false))
include Zdt Zg Zf Zal Za4 in
theorem Zkc (F0:Fun K "__init__" "ReadTail.__init__" ZgB Zdm Zgu):type_of% ZbE:=by
 refine mbK ["self","votes"] F0 fun H Q nd hr h=>?_
 obtain⟨t,dx,v,rfl,e,q⟩:=h
 refine⟨_,(aF (bA (wJ Zal Za4.1 hr.mo Za4.2 .nil aJ (bB (v:= .ref ZeA) rfl Zdt rfl) (aA (dv 0) (aA (dv 1) (aA iQ aB)))))),?_⟩
 exact⟨rfl,t,CA.rtail,dx,v,false,rfl,.inl rfl,e,q _ rfl⟩
variable (Zbi:MB P w K mg base (CX0) 2 Zc0 Zgi ["self","votes"] (vP CA.stail true))
include Zdt Zg Zf Zal Za4 in
theorem Zji (F0:Fun K "__init__" "SpeakTail.__init__" Zgo Zc0 Zgi):type_of% Zbi:=by
 refine mbK ["self","votes"] F0 fun H Q nd hr h=>?_
 obtain⟨t,dx,v,rfl,e,q⟩:=h
 refine⟨_,(aF (bA (wJ Zal Za4.1 hr.mo Za4.2 .nil aJ (bB (v:= .ref ZeA) rfl Zdt rfl) (aA (dv 0) (aA (dv 1) (aA iQ aB)))))),?_⟩
 exact⟨rfl,t,CA.stail,dx,v,true,rfl,.inr rfl,e,q _ rfl⟩
variable (ZcH:MB P w K mg base (CX0) 1 Zeo ZiE ["self"] (a5V CA.count))
include Zd Zp in
theorem Zle (F0:Fun K "__init__" "Count.__init__" ZiX Zeo ZiE):type_of% ZcH:=by
 refine mbK ["self"] F0 fun H Q nd hr h=>?_
 obtain⟨a,dx,rfl,ha,q⟩:=h
 refine⟨_,(aF (bT Zd Zp (dv 0) aG)),?_⟩
 exact⟨dx, [],ha,by decide,q⟩
variable (Zbg:MB P w K mg base (CX0) 1 ZcX Zgf ["self"] (b3E CA.count 12))
include ZeK Zd Zp in
theorem Zjf (F0:Fun K "is_quiet" "Count.is_quiet" Zgl ZcX Zgf):type_of% Zbg:=by
 refine mbK ["self"] F0 fun H Q nd hr h=>?_
 obtain⟨a,n,rfl,⟨dx,ha⟩,q⟩:=h
 refine⟨_,(aF (aL (fC a4G (aP Zd Zp (dv 0)) (bB (v:= .int 12) rfl ZeK ⟨_,rfl⟩) (aR _)))),?_⟩
 exact⟨dx,_,.int n,ha,rfl,q⟩
variable (Zav:MB P w K mg base (CX0) 1 Zdw Zhc ["self"] (b3E CA.count 18))
include ZfR Zd Zp in
theorem Zko (F0:Fun K "is_off" "Count.is_off" Zhq Zdw Zhc):type_of% Zav:=by
 refine mbK ["self"] F0 fun H Q nd hr h=>?_
 obtain⟨a,n,rfl,⟨dx,ha⟩,q⟩:=h
 refine⟨_,(aF (aL (fC a4G (aP Zd Zp (dv 0)) (bB (v:= .int 18) rfl ZfR ⟨_,rfl⟩) (aR _)))),?_⟩
 exact⟨dx,_,.int n,ha,rfl,q⟩
variable (Zb8:MB P w K mg base (CX0) 1 Zdx Zhd ["self"] (b8F CA.count))
include Zd Zp in
theorem Zkp (F0:Fun K "number" "Count.number" Zhr Zdx Zhd):type_of% Zb8:=by
 refine mbK ["self"] F0 fun H Q nd hr h=>?_
 obtain⟨a,n,rfl,⟨dx,ha⟩,q⟩:=h
 refine⟨_,(aF (aL (aP Zd Zp (dv 0)))),?_⟩
 exact⟨dx,_,.int n,ha,rfl,q⟩
variable (Zae:MB P w K mg base (CX0) 2 Zep ZiF ["self","step"] (a5U CA.count))
include ZlB Zd Zah Zp Zav in
theorem Zlf (F0:Fun K "move" "Count.move" ZiY Zep ZiF):type_of% Zae:=by
 refine mbK ["self","step"] F0 fun H Q nd hr h=>?_
 obtain⟨a,n,st,rfl,⟨dx,ha⟩,q⟩:=h
 refine⟨_,(aF (bF (gW (cR (bL Zd Zah Zav.1 hr.mo Zav.2 .nil aJ (dv 0)))) (aF (bT Zd Zp (dv 0) (aY (b3Y rfl) rfl ZlB b7E (aA aG (aA (aU cH (aP Zd Zp (dv 0)) (dv 1)) aB))))) aV)),?_⟩
 refine⟨⟨dx,_,ha,rfl⟩,a,n,rfl,⟨dx,ha⟩,?_⟩
 conv=>whnf
 refine bR (fun c=>?_) (fun c=>?_)
 ·have c1:¬ (18:Int)<=n:=fun z=>by
   have:(!decide ((18:Int)<=n))=true:=c
   rw[Yn z]at this
   cases this
  refine⟨dx,_,.int n,ha,rfl,dx,_,ha,(show 1<1000 by decide),q _ ?_ fun b hb=>aH hb⟩
  refine⟨dx,?_⟩
  unfold mvd
  rw[if_neg c1]
  exact aC
 ·have c1:(18:Int)<=n:=YM fun z=>c (by
   show (!decide ((18:Int)<=n))=true
   rw[Yr z];rfl)
  refine q _ ?_ fun b hb=>rfl
  unfold mvd
  rw[if_pos c1]
  exact⟨dx,ha⟩
variable (ZaB:MB P w K mg base (CX0) 3 ZdP ZhP ["self","spoke"] (a2O CA.count))
include ZbQ Zd5 Zd ZV Zae in
theorem ZkI (F0:Fun K "fault" "Count.fault" Zh9 ZdP ZhP):type_of% ZaB:=by
 refine mbK ["self","spoke"] F0 fun H Q nd hr h=>?_
 obtain⟨a,n,b,rfl,⟨dx,ha⟩,q⟩:=h
 refine⟨_,(aF (bA (bQ Zd ZV Zae.1 hr.mo Zae.2 .nil aJ (dv 0) (aA (cB (cV (cR (dv 1)) (bB (v:= .int 8) rfl ZbQ ⟨_,rfl⟩) (bB (v:= .int 1) rfl Zd5 ⟨_,rfl⟩))) aB)))),?_⟩
 refine⟨⟨dx,_,ha,rfl⟩,fun x H'=>x= .int (if b=true then 8 else 1)/\H'=H,?_,?_⟩
 ·cases b with
  |true=>exact⟨rfl,rfl⟩
  |false=>exact⟨rfl,rfl⟩
 rintro x H' ⟨rfl,rfl⟩
 exact⟨a,n,_,rfl,⟨dx,ha⟩,q⟩
variable (Zcn:MB P w K mg base (CX0) 3 ZdO ZhO ["self"] (vQ CA.count 8))
include ZbQ Zd ZV Zae in
theorem ZkH (F0:Fun K "blame" "Count.blame" Zh8 ZdO ZhO):type_of% Zcn:=by
 refine mbK ["self"] F0 fun H Q nd hr h=>?_
 obtain⟨a,n,rfl,⟨dx,ha⟩,q⟩:=h
 refine⟨_,(aF (bA (bQ Zd ZV Zae.1 hr.mo Zae.2 .nil aJ (dv 0) (aA (bB (v:= .int 8) rfl ZbQ ⟨_,rfl⟩) aB)))),?_⟩
 exact⟨⟨dx,_,ha,rfl⟩,a,n,8,rfl,⟨dx,ha⟩,q⟩
variable (ZcG:MB P w K mg base (CX0) 3 Zen ZiD ["self"] (vQ CA.count (-1)))
include Zd ZV Zae in
theorem Zld (F0:Fun K "good" "Count.good" ZiW Zen ZiD):type_of% ZcG:=by
 refine mbK ["self"] F0 fun H Q nd hr h=>?_
 obtain⟨a,n,rfl,⟨dx,ha⟩,q⟩:=h
 refine⟨_,(aF (bA (bQ Zd ZV Zae.1 hr.mo Zae.2 .nil aJ (dv 0) (aA (a0U a0E aG) aB)))),?_⟩
 exact⟨⟨dx,_,ha,rfl⟩,a,n, -1,rfl,⟨dx,ha⟩,q⟩
variable (Zad:FB P w K mg base (CX0) 7 "begun_reader" Ze0 Zhl [] (b0N CA))
include ZL Zw ZhM Ze ZdF ZO Zct Z7 in
theorem Zkx (F0:GFm K mg "begun_reader" Zhz Ze0 Zhl):type_of% Zad:=by
 refine fbK ["reader"] F0 fun H Q nd hr h=>?_
 obtain⟨rfl,q⟩:=h
 refine⟨_,(aD (aX (i:=0) nd rfl (Or.inl rfl) (mH ZdF Zct.1 hr.mo rfl ZhM Zct.2 .nil aJ)) (aD (bA (bQ Ze ZO Z7.1 hr.mo Z7.2 .nil aJ (dv 0) (aA aG aB))) (aF (aL (dv 0))))),?_⟩
 refine fun r dr hr0 hdr hne=>⟨r,dr,rfl,aC,fun H2 st ks hR hst hks k2=>⟨rfl,?_⟩⟩
 have s12:Same H H2:=fun x o e=>k2 x o (aO e hr0) (by rw[aH (aO e hr0),aH (aO e hdr)];exact e)
 have nst:H st=none:=Same.none (fun x o e=>(by rw[aH (aO e hr0),aH (aO e hdr)];exact e):Same H _) hst
 have nks:H ks=none:=Same.none (fun x o e=>(by rw[aH (aO e hr0),aH (aO e hdr)];exact e):Same H _) hks
 obtain⟨dx,exr⟩:=hR.rd
 refine⟨⟨dx,_,exr,rfl⟩,r,st,ks, [],_,0,rfl,hR,(fun z hz=> .inl (Yi.mp hz)),by decide,fun H3 hR3 b3=>?_⟩
 exact q r st ks H3 _ hR3 (fun x o e=>b3 x o (aO e hr0) (aO e nst) (aO e nks) (s12 x o e)) hr0 nst nks
variable (Zao:MB P w K mg base (CX0) 1 Ze2 Zjk ["self","since"] (yJ CA.free "since"))
include ZM Z5 in
theorem ZlG (F0:Fun K "__init__" "Free.__init__" ZjH Ze2 Zjk):type_of% Zao:=by
 refine mbK ["self","since"] F0 fun H Q nd hr h=>?_
 obtain⟨a,dx,v,rfl,e,q⟩:=h
 refine⟨_,(aF (bT ZM Z5 (dv 0) (dv 1))),?_⟩
 exact⟨dx, [],e,by decide,q _ rfl⟩
variable (ZaD:MB P w K mg base (CX0) 1 ZdZ ZhZ ["self","wire","reader","many"] (b4O CA.speaks "wire" "reader" "many"))
include Zj ZI ZR ZC in
theorem ZkS (F0:Fun K "__init__" "Speaks.__init__" Zij ZdZ ZhZ):type_of% ZaD:=by
 refine mbK ["self","wire","reader","many"] F0 fun H Q nd hr h=>?_
 obtain⟨a,dx,v,w,z,rfl,e,q⟩:=h
 refine⟨_,(aD (bT Zj ZI (dv 0) (dv 1)) (aD (bT Zj ZR (dv 0) (dv 2)) (aF (bT Zj ZC (dv 0) (dv 3))))),?_⟩
 refine⟨dx, [],e,by decide,dx,_,aC,(show 1<1000 by decide),dx,_,aC,(show 2<1000 by decide),?_⟩
 refine q _ ?_
 rw[jF,jF]
 rfl
variable (Zaf:MB P w K mg base (CX0) 1 Zeu ZiK ["self","reader","many"] (yI CA.reads "reader" "many"))
include ZF Z3 Zaz in
theorem Zlk (F0:Fun K "__init__" "Reads.__init__" Zi3 Zeu ZiK):type_of% Zaf:=by
 refine mbK ["self","reader","many"] F0 fun H Q nd hr h=>?_
 obtain⟨a,dx,v,w,rfl,e,q⟩:=h
 refine⟨_,(aD (bT ZF Z3 (dv 0) (dv 1)) (aF (bT ZF Zaz (dv 0) (dv 2)))),?_⟩
 refine⟨dx, [],e,by decide,dx,_,aC,(show 1<1000 by decide),?_⟩
 refine q _ ?_
 rw[jF]
 rfl
variable (ZaC:MB P w K mg base (CX0) 1 ZdQ ZhQ ["self","tail","found"] (yI CA.intail "tail" "found"))
include Zs ZB Zat in
theorem ZkJ (F0:Fun K "__init__" "InTail.__init__" Zia ZdQ ZhQ):type_of% ZaC:=by
 refine mbK ["self","tail","found"] F0 fun H Q nd hr h=>?_
 obtain⟨a,dx,v,w,rfl,e,q⟩:=h
 refine⟨_,(aD (bT Zs ZB (dv 0) (dv 1)) (aF (bT Zs Zat (dv 0) (dv 2)))),?_⟩
 refine⟨dx, [],e,by decide,dx,_,aC,(show 1<1000 by decide),?_⟩
 refine q _ ?_
 rw[jF]
 rfl
variable (Zan:MB P w K mg base (CX0) 1 Zdi Zgq ["self","left","may_blame"] (yI CA.flag "left" "may_blame"))
include Zt Zac ZN in
theorem Zj8 (F0:Fun K "__init__" "Flagging.__init__" Zgx Zdi Zgq):type_of% Zan:=by
 refine mbK ["self","left","may_blame"] F0 fun H Q nd hr h=>?_
 obtain⟨a,dx,v,w,rfl,e,q⟩:=h
 refine⟨_,(aD (bT Zt Zac (dv 0) (dv 1)) (aF (bT Zt ZN (dv 0) (dv 2)))),?_⟩
 refine⟨dx, [],e,by decide,dx,_,aC,(show 1<1000 by decide),?_⟩
 refine q _ ?_
 rw[jF]
 rfl
variable (ZX:MB P w K mg base (CX0) 1 ZdC Zhi ["self","may_blame"] (yJ CA.settles "may_blame"))
include ZT Z4 in
theorem Zku (F0:Fun K "__init__" "Settles.__init__" Zhw ZdC Zhi):type_of% ZX:=by
 refine mbK ["self","may_blame"] F0 fun H Q nd hr h=>?_
 obtain⟨a,dx,v,rfl,e,q⟩:=h
 refine⟨_,(aF (bT ZT Z4 (dv 0) (dv 1))),?_⟩
 exact⟨dx, [],e,by decide,q _ rfl⟩
variable (Z2:MB P w K mg base (CX0) 1 Zex ZiN ["self","left"] (yJ CA.rests "left"))
include ZY Zas in
theorem Zln (F0:Fun K "__init__" "Rests.__init__" Zi6 Zex ZiN):type_of% Z2:=by
 refine mbK ["self","left"] F0 fun H Q nd hr h=>?_
 obtain⟨a,dx,v,rfl,e,q⟩:=h
 refine⟨_,(aF (bT ZY Zas (dv 0) (dv 1))),?_⟩
 exact⟨dx, [],e,by decide,q _ rfl⟩
variable (ZbD:MB P w K mg base (CX0) 2 Zdl Zgt ["self"] (b3F CA 12))
include Zd Za Za6 Zh Zbg in
theorem Zkb (F0:Fun K "is_quiet" "Post.is_quiet" ZgA Zdl Zgt):type_of% ZbD:=by
 refine mbK ["self"] F0 fun H Q nd hr h=>?_
 obtain⟨p,nwf,S,o,rfl,⟨dx,ch,wl,ul,ct,ws,us,b⟩,q⟩:=h
 refine⟨_,(aF (aL (bL Zd Za6 Zbg.1 hr.mo Zbg.2 .nil aJ (aP Za Zh (dv 0))))),?_⟩
 obtain⟨dc,ec⟩:=b.et
 exact⟨dx,_,.ref ct,b.e,rfl,⟨dc,_,ec,rfl⟩,ct,S.tot,rfl,⟨dc,ec⟩,q⟩
variable (Zcr:MB P w K mg base (CX0) 2 ZdU ZhU ["self"] (b3F CA 18))
include Zd Za Zah Zh Zav in
theorem ZkN (F0:Fun K "is_off" "Post.is_off" Zie ZdU ZhU):type_of% Zcr:=by
 refine mbK ["self"] F0 fun H Q nd hr h=>?_
 obtain⟨p,nwf,S,o,rfl,⟨dx,ch,wl,ul,ct,ws,us,b⟩,q⟩:=h
 refine⟨_,(aF (aL (bL Zd Zah Zav.1 hr.mo Zav.2 .nil aJ (aP Za Zh (dv 0))))),?_⟩
 obtain⟨dc,ec⟩:=b.et
 exact⟨dx,_,.ref ct,b.e,rfl,⟨dc,_,ec,rfl⟩,ct,S.tot,rfl,⟨dc,ec⟩,q⟩
variable (Zcq:MB P w K mg base (CX0) 2 ZdT ZhT ["self"] (b8I CA))
include Zd Za Zbn Zh Zb8 in
theorem ZkM (F0:Fun K "faults" "Post.faults" Zid ZdT ZhT):type_of% Zcq:=by
 refine mbK ["self"] F0 fun H Q nd hr h=>?_
 obtain⟨p,nwf,S,o,rfl,⟨dx,ch,wl,ul,ct,ws,us,b⟩,q⟩:=h
 refine⟨_,(aF (aL (bL Zd Zbn Zb8.1 hr.mo Zb8.2 .nil aJ (aP Za Zh (dv 0))))),?_⟩
 obtain⟨dc,ec⟩:=b.et
 exact⟨dx,_,.ref ct,b.e,rfl,⟨dc,_,ec,rfl⟩,ct,S.tot,rfl,⟨dc,ec⟩,q⟩
variable (Zbh:MB P w K mg base (CX0) 1 ZcY Zgg ["self"] (b8E CA))
include Zr Za Zm in
theorem Zjg (F0:Fun K "has_frame" "Post.has_frame" Zgm ZcY Zgg):type_of% Zbh:=by
 refine mbK ["self"] F0 fun H Q nd hr h=>?_
 obtain⟨p,nwf,S,o,rfl,⟨dx,ch,wl,ul,ct,ws,us,b⟩,q⟩:=h
 refine⟨_,(aF (aL (fC tL (aY cU rfl Zr bV (aA (aP Za Zm (dv 0)) aB)) aG (aR _)))),?_⟩
 refine⟨dx,_,.ref wl,b.e,rfl,_,.inl (SqL.of b.ew),?_⟩
 rw[b.fw.len]
 exact q
variable (ZaI:MB P w K mg base (CX0) 7 ZbS ZeC ["self"] (yK CA))
include ZaA ZL Zw Za Zm ZcT in
theorem Zho (F0:Fun K "foremost_wire" "Post.foremost_wire" ZeN ZbS ZeC):type_of% ZaI:=by
 refine mbK ["self"] F0 fun H Q nd hr h=>?_
 obtain⟨p,nwf,S,o,f,r,rfl,⟨dx,ch,wl,ul,ct,ws,us,b⟩,ewt,hf,q⟩:=h
 refine⟨_,(aF (aL (aQ ZcT.1 hr.mo rfl ZcT.2.2.2 ZcT.2.2.1 ZcT.2.1 .nil aJ (aA (bK dX (bK dJ (aP Za Zm (dv 0)) aG (fun _ _=>rfl)) aG (fun _ _=>rfl)) (aA (bK dX (bK dJ (aP Za Zm (dv 0)) aG (fun _ _=>rfl)) aG (fun _ _=>rfl)) aB))))),?_⟩
 have fw:=b.fw
 rw[ewt]at fw
 generalize hws:ws=ws' at fw
 cases fw with
 | cons a rr=>
  rename_i t ts
  obtain⟨d,e1,e2,e3⟩:=a
  have ew:=b.ew
  rw[hws]at ew
  refine⟨dx,_,.ref wl,b.e,rfl,_,.ref t,SqL.of ew,at0,_,_,SqT.of e1,rfl,dx,_,.ref wl,b.e,rfl,_,.ref t,SqL.of ew,at0,_,_,SqT.of e1,rfl,?_⟩
  have h7:=hf.2.1
  refine⟨(f.1:Int),d,f.2,rfl,SqL.of e2,by omega,fun _ pw H' hpw g e=>q pw H' hpw g e,fun no=>absurd hf.ok no⟩
variable (ZaH:MB P w K mg base (CX0) 1 ZbR ZeB ["self"] (b4Q CA))
include Za Zm in
theorem Zhn (F0:Fun K "drop_foremost" "Post.drop_foremost" ZeM ZbR ZeB):type_of% ZaH:=by
 refine mbK ["self"] F0 fun H Q nd hr h=>?_
 obtain⟨p,nwf,S,o,rfl,⟨dx,ch,wl,ul,ct,ws,us,b⟩,hn,q⟩:=h
 refine⟨_,(aF (bA (a7N (aP Za Zm (dv 0)) (aA aG aB)))),?_⟩
 have fw:=b.fw
 generalize hws:ws=ws' at fw
 generalize hwt:S.wt=wt at fw
 cases fw with
 |nil=>exact absurd hwt hn
 | cons a rr=>
  rename_i t f ts fs
  have ew:=b.ew
  rw[hws]at ew
  refine⟨dx,_,.ref wl,b.e,rfl,⟨_,ew⟩,_,0,.ref t,ew,⟨by decide,by decide⟩,sq0,rfl,?_⟩
  have kk:cL o H (upd H wl (.lst ts)):=fun x v e z=>by
   rw[aH]
   ·exact e
   ·rintro rfl
    rcases z with z | ⟨vs,rfl⟩
    ·exact z b.ow
    ·rw[ew]at e;cases e
  have nl:∀{x:Addr}{v:HO},H x=some v->(∀l,v≠ .lst l)->upd H wl (.lst ts) x=some v:=fun {x v} e h=>by
   rw[aH]
   ·exact e
   ·rintro rfl
    rw[ew]at e
    exact h _ (Yp e).symm
  have fk:∀{ts':List V}{fs':List Fr},dG H (Dl o wl ul) ts' fs'->dG (upd H wl (.lst ts)) (Dl o wl ul) ts' fs':=fun {ts' fs'} h=>by
   induction h with
   |nil=>exact .nil
   | cons a _ ih=>
    obtain⟨d,e1,e2,e3⟩:=a
    exact .cons ⟨d,kk.tup e1,by rw[aH e3.2.1];exact e2,e3⟩ ih
  refine q _ ⟨dx,ch,wl,ul,ct,ts,us,nl b.e (fun l z=>nomatch z),kk.tup b.ec,aC,?_,by rw[aH (Ne.symm b.ne)];exact b.eu,fk b.fu,(let ⟨d,e⟩:=b.et;⟨d,nl e fun l z=>nomatch z⟩),b.op,b.ow,b.ou,b.ot,b.ne,fun x hx=>?_⟩ kk
  ·show dG _ _ ts S.wt.tail
   rw[hwt]
   exact fk rr
  ·by_cases h:x=wl
   ·rw[h,aC];simp
   ·rw[aH h];exact b.al x hx
variable (Zb6:FB P w K mg base (CX0) 1 "is_wanted" Zg8 ZjE ["choice","name"] (a4Y K))
def Zl1 (F0:GFm K mg "is_wanted" Zj1 Zg8 ZjE):type_of% Zb6:=by
 refine fbK ["choice","name"] F0 fun H Q nd hr h=>?_
 obtain⟨c,m,t,n,rfl,e,q⟩:=h
 refine⟨_,(aF (aL (fC dO (aU a0F (dv 1) (bK dX (dv 0) aG (fun _ _=>rfl))) (bK dX (dv 0) aG (fun _ _=>rfl)) (aR _)))),?_⟩
 exact⟨_,_,SqT.of e,rfl,_,_,SqT.of e,rfl,q⟩
variable (Zb9:MB P w K mg base (CX0) 2 Zdy Zhe ["self","frame"] (a5T CA))
include Za Zax Zai Zb6 in
theorem Zkq (F0:Fun K "hand_up" "Post.hand_up" Zhs Zdy Zhe):type_of% Zb9:=by
 refine mbK ["self","frame"] F0 fun H Q nd hr h=>?_
 obtain⟨p,nwf,S,o,t,d,n,ds,rfl,⟨dx,ch,wl,ul,ct,ws,us,b⟩,et,ed,nd_,hl,q⟩:=h
 refine⟨_,(aF (bF (cR (aQ Zb6.1 hr.mo rfl Zb6.2.2.2 Zb6.2.2.1 Zb6.2.1 .nil aJ (aA (aP Za Zax (dv 0)) (aA (bK dX (dv 1) aG (fun _ _=>rfl)) aB)))) (aF (bA (bY (aP Za Zai (dv 0)) (aA (dv 1) aB)))) aV)),?_⟩
 refine⟨dx,_,.ref ch,b.e,rfl,_,_,SqT.of et,rfl,ch,_,_,_,rfl,b.ec,?_⟩
 conv=>whnf
 refine bR (fun c=>?_) (fun c=>?_)
 ·have c1:lH S n=true:=c
  have hul:=b.fu.len
  refine⟨dx,_,.ref ul,b.e,rfl,⟨_,SqL.of b.eu⟩,_,b.eu,bD (by omega),?_⟩
  obtain⟨k1,k2,k3,k4,k5,k6⟩:=wN (ys:=us++[.ref t]) b (.inr rfl)
  refine q _ ⟨dx,ch,wl,ul,ct,ws,us++[.ref t],k2.trans b.e,k3.trans b.ec,by rw[aH b.ne];exact b.ew,(k5 b.fw).imp (fun x v e _=>e) (fun x z=>⟨.inl z.1,z.2⟩),aC,?_,(let ⟨d,e⟩:=b.et;⟨d,k4.trans e⟩),.inl b.op,.inl b.ow,.inl b.ou,.inl b.ot,b.ne,fun x hx=>?_⟩ k1
  ·show dG _ _ _ (if lH S n=true then S.up++[(n,ds)] else S.up)
   rw[if_pos c1]
   have nwl:d≠wl:=fun z=>nd_ (z▸b.ow)
   have nul:d≠ul:=fun z=>nd_ (z▸b.ou)
   exact((k5 b.fu).imp (fun x v e _=>e) (fun x z=>⟨.inl z.1,z.2⟩)).snoc ⟨d,k1.tup et,by rw[aH nul];exact ed,.inr rfl,nwl,nul⟩
  ·rcases hx with hx | hx
   ·exact k6 x hx
   ·have hx':x=d:=hx
    have nul:d≠ul:=fun z=>nd_ (z▸b.ou)
    rw[hx',aH nul,ed];simp
 ·have c1:¬ lH S n=true:=c
  refine q _ ?_ cL.refl
  rw[if_neg c1]
  exact Bd.grow ⟨dx,ch,wl,ul,ct,ws,us,b⟩ ed
variable (Zc6:MB P w K mg base (CX0) 3 Ze5 Zjn ["self","name","data"] (b4P K CA Zdr))
include Zw Z0 Za Zm Zz in
theorem ZlJ (F0:Fun K "hand" "Post.hand" ZjK Ze5 Zjn):type_of% Zc6:=by
 refine mbK ["self","name","data"] F0 fun H Q nd hr h=>?_
 obtain⟨p,nwf,S,o,n,a,ds,rfl,bd,hS,hl,hw,q1,q2⟩:=h
 refine⟨_,(aD (bA (aQ Zz.1 hr.mo rfl Zz.2.2.2 Zz.2.2.1 Zz.2.1 .nil aJ (aA (dv 1) (aA (dv 2) aB)))) (aF (bA (bY (aP Za Zm (dv 0)) (aA (cD (aA (dv 1) (aA (dZ fH rfl Z0 gF (aA (dv 2) aB)) aB))) aB))))),?_⟩
 refine⟨n,a,ds,rfl,hS,hl,fun ok H1 g1=>?_,fun no H1 g1=>q2 no H1 g1⟩
 obtain⟨dx,ch,wl,ul,ct,ws,us,b⟩:=bd.move (H':=H1) fun x v e _=>g1 x v e
 refine⟨dx,_,.ref wl,b.e,rfl,⟨_,SqL.of b.ew⟩,_,.inl (g1.seq hS),fun d hd=>?_⟩
 have g2:=aK hd (.lst (ds.map V.int))
 have e2:=aC (H:=H1) (a:=d) (o:= .lst (ds.map V.int))
 generalize upd H1 d (.lst (ds.map V.int))=H2 at g2 e2
 refine⟨aM rfl,fun t ht=>?_⟩
 have g3:=aK ht (.tup [.int n,.ref d])
 have e3:=aC (H:=H2) (a:=t) (o:= .tup [.int n,.ref d])
 generalize upd H2 t (.tup [.int n,.ref d])=H3 at g3 e3
 have g13:=g2.trans g3
 have nd_:¬ o d:=fun z=>b.al d z hd
 have b3:=b.move (H':=H3) fun x v e _=>g13 x v e
 have hwl:=b.fw.len
 refine⟨_,b3.ew,bD (by omega),?_⟩
 obtain⟨k1,k2,k3,k4,k5,k6⟩:=wN (ys:=ws++[.ref t]) b3 (.inl rfl)
 have nwl:d≠wl:=fun z=>nd_ (z▸b.ow)
 have nul:d≠ul:=fun z=>nd_ (z▸b.ou)
 have en:((n.toNat:Nat):Int)=n:=by
  have:=gP.mp ok.1
  omega
 refine q1 ok _ d (g1.none hd) ⟨dx,ch,wl,ul,ct,ws++[.ref t],us,k2.trans b3.e,k3.trans b3.ec,aC,?_,by rw[aH (Ne.symm b.ne)];exact b3.eu,(k5 b3.fu).imp (fun x v e _=>e) (fun x z=>⟨.inl z.1,z.2⟩),(let ⟨d,e⟩:=b3.et;⟨d,k4.trans e⟩),.inl b.op,.inl b.ow,.inl b.ou,.inl b.ot,b.ne,fun x hx=>?_⟩ (fun x v e z=>k1 x v (g13 x v (g1 x v e)) z)
 ·refine((k5 b3.fw).imp (fun x v e _=>e) (fun x z=>⟨.inl z.1,z.2⟩)).snoc ⟨d,?_,by rw[aH nwl];exact g3 _ _ e2,.inr rfl,nwl,nul⟩
  show _=some (HO.tup [.int ((n.toNat:Nat):Int),.ref d])
  rw[en]
  exact k1.tup e3
 ·rcases hx with hx | hx
  ·exact k6 x hx
  ·have hx':x=d:=hx
   rw[hx',aH nwl,g3 _ _ e2];simp
variable (Zdp:FB P w K mg base (CX0) 1 "copies" Zj6 ZlE ["frames"] (a5W K))
include Z0 in
theorem Zmx (F0:GFm K mg "copies" Zl4 Zj6 ZlE):type_of% Zdp:=by
 refine fbK ["frames"] F0 fun H Q nd hr h=>?_
 obtain⟨a,ts,fs,o,rfl,e,hF,hl,q⟩:=h
 refine⟨_,(aF (aL (fK rfl (ix:=[]) (cY (dv 0)) (fun C fp s0 H0 at0=>dU) (fun C fp s0 H0 at0=>(cD (aA (bK (tK (K:=K)) (dv 0) aG (fun _ _=>rfl)) (aA (dZ (a2A (K:=K)) rfl Z0 gF (aA (bK (tK (K:=K)) (dv 0) aG (fun _ _=>rfl)) aB)) aB)))) rfl rfl (by rfl) (show ([".0","frame"]:List Str).Nodup by decide +kernel)))),?_⟩
 have tl:=hF.len
 refine⟨⟨_,SqL.of e⟩,eE (xs:=ts) (fun i ys H'=>Same H H'/\eO H H' ys (fs.take i)) ?_ ⟨Same.refl _,.nil⟩ (fun i ys H' _ z=>SqL.of (z.1 _ _ e)) ?_ ?_⟩
 ·rintro i ys H' hi ⟨_,n⟩
  refine bD ?_
  rw[n.len,Yu]
  omega
 ·rintro i x ys H' hx ⟨g,n⟩
  obtain⟨t,f,rfl,hf,d,e1,e2,e3⟩:=hF.get hx
  refine⟨_,_,SqT.of (g _ _ e1),rfl,_,_,SqT.of (g _ _ e1),rfl,_,.inl (SqL.of (g _ _ e2)),fun d' hd'=>?_⟩
  have g2:=aK hd' (.lst (f.2.map V.int))
  have e5:=aC (H:=H') (a:=d') (o:= .lst (f.2.map V.int))
  generalize upd H' d' (.lst (f.2.map V.int))=H2 at g2 e5
  refine⟨aM rfl,fun t' ht'=>?_⟩
  have g3:=aK ht' (.tup [.int ((f.1:Nat):Int),.ref d'])
  refine⟨g.trans (g2.trans g3),?_⟩
  have hi:i<fs.length:=(Yg.mp hf).1
  have ef:fs[i]=f:=(Yg.mp hf).2
  rw[Yh hi,ef]
  exact eO.snoc ((g.trans g2).none ht') (g.none hd') aC (g3 _ _ e5) (n.same (g2.trans g3))
 rintro ys H' ⟨g,n⟩ l hl'
 have g2:=aK hl' (.lst ys)
 rw[tl,Yl (Yd _)]at n
 exact q l ys _ (g.none hl') (g.trans g2) aC (n.same g2)
variable (ZcI:MB P w K mg base (CX0) 2 Zeq ZiG ["self"] (b0B CA))
include Za Zm Zdp in
theorem Zlg (F0:Fun K "waits" "Post.waits" ZiZ Zeq ZiG):type_of% ZcI:=by
 refine mbK ["self"] F0 fun H Q nd hr h=>?_
 obtain⟨p,nwf,S,o,rfl,⟨dx,ch,wl,ul,ct,ws,us,b⟩,hl,q⟩:=h
 refine⟨_,(aF (aL (aQ Zdp.1 hr.mo rfl Zdp.2.2.2 Zdp.2.2.1 Zdp.2.1 .nil aJ (aA (aP Za Zm (dv 0)) aB)))),?_⟩
 exact⟨dx,_,.ref wl,b.e,rfl,wl,ws,S.wt,_,rfl,b.ew,b.fw,hl,q⟩
variable (ZE:FB P w K mg base (CX0) 3 "unless_off" Zge ZiU ["post","word","stance"] (a4Z CA))
include Zlz Za ZbL ZeH Zcr in
theorem Zlu (F0:GFm K mg "unless_off" Zjd Zge ZiU):type_of% ZE:=by
 refine fbK ["post","word","stance"] F0 fun H Q nd hr h=>?_
 obtain⟨p,nwf,S,o,w,nx,rfl,bd,q1,q2⟩:=h
 refine⟨_,(aF (aL (cB (cV (cR (bL Za ZbL Zcr.1 hr.mo Zcr.2 .nil aJ (dv 0))) (cD (aA bI (aA (a6T ZeH rfl Zlz) aB))) (cD (aA (dv 1) (aA (dv 2) aB))))))),?_⟩
 refine⟨fun x H'=>Q x H',?_,fun x H' z=>z⟩
 obtain⟨dx,ch,wl,ul,ct,ws,us,b⟩:=id bd
 refine⟨⟨dx,_,b.e,rfl⟩,p,nwf,S,o,rfl,bd,?_⟩
 conv=>whnf
 refine bR (fun c=>?_) (fun c=>?_)
 ·have c1:18<=S.tot:=dec_true c
  refine fun x dx' hx hdx hne=>⟨aM rfl,fun t ht=>?_⟩
  have g1:Same H (upd (upd H dx' (.own x)) x (.ins CA.off dx' [])):=fun b u q=>by rw[aH (aO q hx),aH (aO q hdx)];exact q
  have g2:=aK ht (.tup [.str "off",.ref x])
  exact q2 c1 t x dx' _ (g1.trans g2) hx (g2 _ _ aC) aC
 ·have c1:¬ 18<=S.tot:=dec_false c
  refine⟨aM rfl,fun t ht=>?_⟩
  exact q1 c1 t _ (aK ht _) aC
variable (Zo:FB P w K mg base (CX0) 4 "fault_of" ZhL Zkm ["post","spoke"] (b0I CA))
include Zc3 Zfg Zd Za ZaU Zam Zh ZaB Zan ZE in
theorem Zmi (F0:GFm K mg "fault_of" ZkF ZhL Zkm):type_of% Zo:=by
 refine fbK ["post","spoke"] F0 fun H Q nd hr h=>?_
 obtain⟨p,nwf,S,o,sp,rfl,bd,q⟩:=h
 refine⟨_,(aD (bA (bQ Zd Zam ZaB.1 hr.mo ZaB.2 .nil aJ (aP Za Zh (dv 0)) (aA (dv 1) aB))) (aF (aL (aQ ZE.1 hr.mo rfl ZE.2.2.2 ZE.2.2.1 ZE.2.1 .nil aJ (aA (dv 0) (aA bI (aA (cG ZaU Zan.1 hr.mo rfl Zc3 Zan.2 .nil aJ (aA (bB (v:= .int 6) rfl Zfg ⟨_,rfl⟩) (aA (b6A (dv 1)) aB))) aB))))))),?_⟩
 obtain⟨dx,ch,wl,ul,ct,ws,us,b⟩:=id bd
 obtain⟨dc,ec⟩:=id b.et
 refine⟨dx,_,.ref ct,b.e,rfl,⟨dc,_,ec,rfl⟩,ct,S.tot,sp,rfl,b.et,fun H1 c1 k1=>?_⟩
 obtain⟨b1,kk1⟩:=Bd.count b c1 k1
 generalize ht:mvd S.tot (if sp=true then 8 else 1)=n at b1 c1
 refine fun x dx' hx hdx hne=>⟨x,dx',_,_,rfl,aC,fun H2 eH=>⟨rfl,?_⟩⟩
 have g12:Same H1 H2:=by rw[eH];exact bJ hx hdx
 have e2:H2 x=some (.ins CA.flag dx' [("left",.int ((6:Nat):Int)),("may_blame",.bl (!sp))]):=by rw[eH];exact aC
 clear eH
 refine⟨p,nwf,{ S with tot:=n },o,"fault",x,rfl,b1.move fun y v e _=>g12 y v e,fun c t H3 g3 e3=>?_,fun c t nw dy H3 g3 hn e4 e3=>?_⟩
 ·have c1:¬ 18<=n:=c
  refine q t H3 ⟨x,fun y=>y=x,?_,?_,?_,?_,?_⟩
  ·unfold cT dY;rw[ht,if_neg c1];exact e3
  ·unfold cT dY;rw[ht,if_neg c1];exact(b1.move fun y v e _=>g3 y v (g12 y v e)).now rfl rfl rfl rfl rfl rfl
  ·unfold cT dY;rw[ht,if_neg c1];exact gM (g3 _ _ e2) ⟨dx',g3 _ _ e2⟩
  ·intro y hy
   have hy':y=x:=hy
   rw[hy']
   exact oF b1 kk1 hx
  ·exact fun y v e z=>g3 y v (g12 y v (kk1 y v e z))
 ·have c1:18<=n:=c
  refine q t H3 ⟨nw,fun y=>y=nw,?_,?_,?_,?_,?_⟩
  ·unfold cT dY;rw[ht,if_pos c1];exact e3
  ·unfold cT dY;rw[ht,if_pos c1];exact(b1.move fun y v e _=>g3 y v (g12 y v e)).now rfl rfl rfl rfl rfl rfl
  ·unfold cT dY;rw[ht,if_pos c1];exact gM e4 ⟨dy,e4⟩
  ·intro y hy
   have hy':y=nw:=hy
   rw[hy']
   exact oF b1 kk1 (g12.none hn)
  ·exact fun y v e z=>g3 y v (g12 y v (kk1 y v e z))
variable (Zbv:FB P w K mg base (CX0) 4 "refusal_of" Zgd ZiT ["post","spoke"] (a2K CA))
include Zb7 Zd Za Zar Zam Zh ZaB ZX ZE in
theorem Zlt (F0:GFm K mg "refusal_of" Zjc Zgd ZiT):type_of% Zbv:=by
 refine fbK ["post","spoke"] F0 fun H Q nd hr h=>?_
 obtain⟨p,nwf,S,o,sp,rfl,bd,q⟩:=h
 refine⟨_,(aD (bA (bQ Zd Zam ZaB.1 hr.mo ZaB.2 .nil aJ (aP Za Zh (dv 0)) (aA (dv 1) aB))) (aF (aL (aQ ZE.1 hr.mo rfl ZE.2.2.2 ZE.2.2.1 ZE.2.1 .nil aJ (aA (dv 0) (aA bI (aA (cG Zar ZX.1 hr.mo rfl Zb7 ZX.2 .nil aJ (aA iQ aB)) aB))))))),?_⟩
 obtain⟨dx,ch,wl,ul,ct,ws,us,b⟩:=id bd
 obtain⟨dc,ec⟩:=id b.et
 refine⟨dx,_,.ref ct,b.e,rfl,⟨dc,_,ec,rfl⟩,ct,S.tot,sp,rfl,b.et,fun H1 c1 k1=>?_⟩
 obtain⟨b1,kk1⟩:=Bd.count b c1 k1
 generalize ht:mvd S.tot (if sp=true then 8 else 1)=n at b1 c1
 refine fun x dx' hx hdx hne=>⟨x,dx',_,rfl,aC,fun H2 eH=>⟨rfl,?_⟩⟩
 have g12:Same H1 H2:=by rw[eH];exact bJ hx hdx
 have e2:H2 x=some (.ins CA.settles dx' [("may_blame",.bl false)]):=by rw[eH];exact aC
 clear eH
 refine⟨p,nwf,{ S with tot:=n },o,"refuses",x,rfl,b1.move fun y v e _=>g12 y v e,fun c t H3 g3 e3=>?_,fun c t nw dy H3 g3 hn e4 e3=>?_⟩
 ·have c1:¬ 18<=n:=c
  refine q t H3 ⟨x,fun y=>y=x,?_,?_,?_,?_,?_⟩
  ·unfold eQ dY;rw[ht,if_neg c1];exact e3
  ·unfold eQ dY;rw[ht,if_neg c1];exact(b1.move fun y v e _=>g3 y v (g12 y v e)).now rfl rfl rfl rfl rfl rfl
  ·unfold eQ dY;rw[ht,if_neg c1];exact gM (g3 _ _ e2) ⟨dx',g3 _ _ e2⟩
  ·intro y hy
   have hy':y=x:=hy
   rw[hy']
   exact oF b1 kk1 hx
  ·exact fun y v e z=>g3 y v (g12 y v (kk1 y v e z))
 ·have c1:18<=n:=c
  refine q t H3 ⟨nw,fun y=>y=nw,?_,?_,?_,?_,?_⟩
  ·unfold eQ dY;rw[ht,if_pos c1];exact e3
  ·unfold eQ dY;rw[ht,if_pos c1];exact(b1.move fun y v e _=>g3 y v (g12 y v e)).now rfl rfl rfl rfl rfl rfl
  ·unfold eQ dY;rw[ht,if_pos c1];exact gM e4 ⟨dy,e4⟩
  ·intro y hy
   have hy':y=nw:=hy
   rw[hy']
   exact oF b1 kk1 (g12.none hn)
  ·exact fun y v e z=>g3 y v (g12 y v (kk1 y v e z))
variable (Zcy:FB P w K mg base (CX0) 4 "blame_of" ZhJ Zkk ["post"] (b0M CA))
include Zb7 Zd Za Zar ZbH Zh Zcn ZX ZE in
theorem Zmg (F0:GFm K mg "blame_of" ZkD ZhJ Zkk):type_of% Zcy:=by
 refine fbK ["post"] F0 fun H Q nd hr h=>?_
 obtain⟨p,nwf,S,o,rfl,bd,q⟩:=h
 refine⟨_,(aD (bA (bL Zd ZbH Zcn.1 hr.mo Zcn.2 .nil aJ (aP Za Zh (dv 0)))) (aF (aL (aQ ZE.1 hr.mo rfl ZE.2.2.2 ZE.2.2.1 ZE.2.1 .nil aJ (aA (dv 0) (aA bI (aA (cG Zar ZX.1 hr.mo rfl Zb7 ZX.2 .nil aJ (aA iQ aB)) aB))))))),?_⟩
 obtain⟨dx,ch,wl,ul,ct,ws,us,b⟩:=id bd
 obtain⟨dc,ec⟩:=id b.et
 refine⟨dx,_,.ref ct,b.e,rfl,⟨dc,_,ec,rfl⟩,ct,S.tot,rfl,b.et,fun H1 c1 k1=>?_⟩
 obtain⟨b1,kk1⟩:=Bd.count b c1 k1
 generalize ht:mvd S.tot 8=n at b1 c1
 refine fun x dx' hx hdx hne=>⟨x,dx',_,rfl,aC,fun H2 eH=>⟨rfl,?_⟩⟩
 have g12:Same H1 H2:=by rw[eH];exact bJ hx hdx
 have e2:H2 x=some (.ins CA.settles dx' [("may_blame",.bl false)]):=by rw[eH];exact aC
 clear eH
 refine⟨p,nwf,{ S with tot:=n },o,"",x,rfl,b1.move fun y v e _=>g12 y v e,fun c t H3 g3 e3=>?_,fun c t nw dy H3 g3 hn e4 e3=>?_⟩
 ·have c1:¬ 18<=n:=c
  refine q t H3 ⟨x,fun y=>y=x,?_,?_,?_,?_,?_⟩
  ·unfold iG dY;rw[ht,if_neg c1];exact e3
  ·unfold iG dY;rw[ht,if_neg c1];exact(b1.move fun y v e _=>g3 y v (g12 y v e)).now rfl rfl rfl rfl rfl rfl
  ·unfold iG dY;rw[ht,if_neg c1];exact gM (g3 _ _ e2) ⟨dx',g3 _ _ e2⟩
  ·intro y hy
   have hy':y=x:=hy
   rw[hy']
   exact oF b1 kk1 hx
  ·exact fun y v e z=>g3 y v (g12 y v (kk1 y v e z))
 ·have c1:18<=n:=c
  refine q t H3 ⟨nw,fun y=>y=nw,?_,?_,?_,?_,?_⟩
  ·unfold iG dY;rw[ht,if_pos c1];exact e3
  ·unfold iG dY;rw[ht,if_pos c1];exact(b1.move fun y v e _=>g3 y v (g12 y v e)).now rfl rfl rfl rfl rfl rfl
  ·unfold iG dY;rw[ht,if_pos c1];exact gM e4 ⟨dy,e4⟩
  ·intro y hy
   have hy':y=nw:=hy
   rw[hy']
   exact oF b1 kk1 (g12.none hn)
  ·exact fun y v e z=>g3 y v (g12 y v (kk1 y v e z))
variable (Zbb:FB P w K mg base (CX0) 1 "check_votes" ZfK Zh6 ["votes"] (b0C ZbP))
include Zcw ZK ZdG in
theorem ZkZ (F0:GFm K mg "check_votes" Ziq ZfK Zh6):type_of% Zbb:=by
 refine fbK ["votes"] F0 fun H Q nd hr h=>?_
 obtain⟨v,rfl,q1,q2⟩:=h
 refine⟨_,(aF (bF (aW a4B (dv 0) (bB (v:= .ref ZkG) rfl Zcw rfl) rfl) (aF fB) aV)),?_⟩
 refine⟨[1,3,5],.inr (ZdG.sq H),?_⟩
 conv=>whnf
 refine bR (fun c=>?_) (fun c=>?_)
 ·refine(q2 fun z=>?_)
  have c1:(!decide (v∈ [(1:Int),3,5]))=true:=c
  rw[(rZ v).mpr z]at c1
  cases c1
 ·refine q1 ((rZ v).mp ?_)
  cases e:decide (v∈ [(1:Int),3,5]) with
  |true=>rfl
  |false=>exact absurd (show (!decide (v∈ [(1:Int),3,5]))=true by rw[e];rfl) c
variable (ZaW:FB P w K mg base (CX0) 2 "check_choice" Ze1 Zhm ["choice"] (a5X K ZbP))
include ZK Zap in
theorem Zky (F0:GFm K mg "check_choice" ZhA Ze1 Zhm):type_of% ZaW:=by
 refine fbK ["choice"] F0 fun H Q nd hr h=>?_
 obtain⟨a,ns,rfl,hS,hl,q1,q2⟩:=h
 refine⟨_,(aF (bF (gW (cR (aQ Zap.1 hr.mo rfl Zap.2.2.2 Zap.2.2.1 Zap.2.1 .nil aJ (aA (dv 0) aB)))) (aF fB) aV)),?_⟩
 refine⟨a,ns,rfl,.inr hS,hl,fun H1 g1=>?_⟩
 conv=>whnf
 refine bR (fun c=>?_) (fun c=>?_)
 ·have c1:¬ ns.all byt=true:=fun z=>by
   have:(!ns.all byt)=true:=c
   rw[z]at this;cases this
  exact(q2 c1 _ g1)
 ·have c1:ns.all byt=true:=by
   cases e:ns.all byt with
   |true=>rfl
   |false=>exact absurd (show (!ns.all byt)=true by rw[e];rfl) c
  exact q1 c1 _ g1
variable (Zc8:MB P w K mg base (CX0) 4 Ze7 Zjp ["self","choice","votes"] (yG K CA ZbP))
include Zcw ZK Zje ZdN Za Zd3 ZaP Zh Zm Zax Zai Z6 Zaa ZcH Zao Zbb ZaW in
theorem ZlL (F0:Fun K "__init__" "Post.__init__" ZjM Ze7 Zjp):type_of% Zc8:=by
 refine mbK ["self","choice","votes"] F0 fun H Q nd hr h=>?_
 obtain⟨a,dx,ch,m1,m2,v,rfl,e,ec,q1,q2⟩:=h
 refine⟨_,(aD (bA (aQ ZaW.1 hr.mo rfl ZaW.2.2.2 ZaW.2.2.1 ZaW.2.1 .nil aJ (aA (dv 1) aB))) (aD (bA (aQ Zbb.1 hr.mo rfl Zbb.2.2.2 Zbb.2.2.1 Zbb.2.1 .nil aJ (aA (dv 2) aB))) (aD (bT Za Zax (dv 0) (dv 1)) (aD (bT Za Z6 (dv 0) (dv 2)) (aD (bT Za Zm (dv 0) (cZ aB)) (aD (bT Za Zai (dv 0) (cZ aB)) (aD (bT Za Zh (dv 0) (mH Zd3 ZcH.1 hr.mo rfl Zje ZcH.2 .nil aJ)) (aF (bT Za Zaa (dv 0) (cG ZaP Zao.1 hr.mo rfl ZdN Zao.2 .nil aJ (aA aG aB))))))))))),?_⟩
 refine⟨ch, [m1,m2],rfl,SqT.of ec,(show 2<=500 by decide),fun hm H1 g1=>?_,fun no H1 g1=>?_⟩
 rotate_left
 ·refine q2 (fun ok=>no ?_) H1 fun x u _ h=>g1 x u h
  rw[XV,XV,List.all_nil,ok.1,ok.2.1];rfl
 rw[XV,XV,List.all_nil,Bool.and_true,XF]at hm
 refine⟨v,rfl,fun hv=>?_,fun no=>q2 (fun ok=>no ok.2.2) H1 fun x u _ h=>g1 x u h⟩
 have ea:=g1 _ _ e
 refine⟨dx, [],ea,by decide,?_⟩
 refine⟨dx,_,aC,(show 1<1000 by decide),?_⟩
 rw[jF]
 have m1_:Mid H a (.ins CA.post dx [("choice",.ref ch),("votes",.int v)]) [] (upd H1 a (.ins CA.post dx (fG "votes" (.int v) (fG "choice" (.ref ch) [])))):=⟨aC,fun x u hx h=>by rw[aH hx];exact g1 x u h,(fun _ z=>nomatch z),List.nodup_nil⟩
 generalize upd H1 a _=Ha at m1_
 refine⟨aM rfl,fun wl hwl=>?_⟩
 have m2_:=m1_.add hwl (aK hwl (.lst [])) aC
 generalize upd Ha wl (.lst [])=Hb at m2_
 refine⟨dx,_,m2_.ea,(show 2<1000 by decide),?_⟩
 have m3_:Mid H a (.ins CA.post dx [("choice",.ref ch),("votes",.int v),("waiting",.ref wl)]) _ (upd Hb a (.ins CA.post dx (fG "waiting" (.ref wl) [("choice",.ref ch),("votes",.int v)]))):=m2_.set _
 generalize upd Hb a _=Hb2 at m3_
 refine⟨aM rfl,fun ul hul=>?_⟩
 have m4_:=m3_.add hul (aK hul (.lst [])) aC
 generalize upd Hb2 ul (.lst [])=Hc at m4_
 refine⟨dx,_,m4_.ea,(show 3<1000 by decide),?_⟩
 have m5_:Mid H a (.ins CA.post dx [("choice",.ref ch),("votes",.int v),("waiting",.ref wl),("handed_up",.ref ul)]) _ (upd Hc a (.ins CA.post dx (fG "handed_up" (.ref ul) [("choice",.ref ch),("votes",.int v),("waiting",.ref wl)]))):=m4_.set _
 generalize upd Hc a _=Hc2 at m5_
 refine fun ct dc hct hdc hne=>⟨ct,dc,rfl,aC,rfl,?_⟩
 have m6_:=m5_.add hct (bJ (C:=CA.count) (fs:=ctF 0) hct hdc) aC
 generalize upd (upd (upd Hc2 dc (.own ct)) ct (.ins CA.count dc [])) ct (.ins CA.count dc (ctF 0))=Hd at m6_
 refine⟨dx,_,m6_.ea,(show 4<1000 by decide),?_⟩
 have m7_:Mid H a (.ins CA.post dx [("choice",.ref ch),("votes",.int v),("waiting",.ref wl),("handed_up",.ref ul),("tally",.ref ct)]) _ (upd Hd a (.ins CA.post dx (fG "tally" (.ref ct) [("choice",.ref ch),("votes",.int v),("waiting",.ref wl),("handed_up",.ref ul)]))):=m6_.set _
 generalize upd Hd a _=Hd2 at m7_
 refine fun nw dn hnw hdn hne2=>⟨nw,dn,_,rfl,aC,fun H2 eH=>⟨rfl,?_⟩⟩
 have m8_:=m7_.add (Hy:=H2) hnw (by rw[eH];exact bJ hnw hdn) (by rw[eH];exact aC)
 clear eH
 refine⟨dx,_,m8_.ea,(show 5<1000 by decide),?_⟩
 have m9_:=m8_.set (.ins CA.post dx (pF ch v.toNat wl ul ct nw))
 have ev:v=((v.toNat:Nat):Int):=by omega
 have eF:(HO.ins CA.post dx (fG "now" (.ref nw) [("choice",.ref ch),("votes",.int v),("waiting",.ref wl),("handed_up",.ref ul),("tally",.ref ct)]))= .ins CA.post dx (pF ch v.toNat wl ul ct nw):=by
  show HO.ins CA.post dx [("choice",.ref ch),("votes",.int v),("waiting",.ref wl),("handed_up",.ref ul),("tally",.ref ct),("now",.ref nw)]=_
  rw[ev,YG]
 rw[eF]
 generalize upd H2 a _=Hz at m9_
 have hnw':=m9_.nw (nw,_) (.head _)
 have hct':=m9_.nw (ct,_) (.tail _ (.head _))
 have hul':=m9_.nw (ul,_) (.tail _ (.tail _ (.head _)))
 have hwl':=m9_.nw (wl,_) (.tail _ (.tail _ (.tail _ (.head _))))
 have nd9:=m9_.nd
 have nwu:wl≠ul:=fun z=>by
  rw[z]at nd9
  exact absurd nd9 (by simp)
 have nch:ch≠a:=fun z=>by rw[z,e]at ec;cases ec
 have hb1:=gP.mp hm.1
 have hb2:=gP.mp hm.2
 have ec1:((m1.toNat:Nat):Int)=m1:=by omega
 have ec2:((m2.toNat:Nat):Int)=m2:=by omega
 refine q1 ⟨hm.1,hm.2,hv⟩ Hz (fun x=>(x=a\/x=wl\/x=ul\/x=ct)\/x=nw) ⟨nw,fun x=>x=a\/x=wl\/x=ul\/x=ct,fun x=>x=nw,⟨dx,ch,wl,ul,ct, [], [],m9_.ea,?_,hwl'.2.2,.nil,hul'.2.2,.nil,⟨dc,hct'.2.2⟩,.inl rfl,.inr (.inl rfl),.inr (.inr (.inl rfl)),.inr (.inr (.inr rfl)),nwu,?_⟩,gM hnw'.2.2 ⟨dn,hnw'.2.2⟩,?_,⟨?_,(fun _ z=>nomatch z),trivial⟩,fun x hx=>hx,?_⟩ ?_ ?_
 ·show Hz ch=some (.tup [.int ((m1.toNat:Nat):Int),.int ((m2.toNat:Nat):Int)])
  rw[ec1,ec2]
  exact m9_.kp ch _ nch ec
 ·rintro x (rfl | rfl | rfl | rfl)
  ·rw[m9_.ea];simp
  ·rw[hwl'.2.2];simp
  ·rw[hul'.2.2];simp
  ·rw[hct'.2.2];simp
 ·rintro x hx hy
  have hy':x=nw:=hy
  rcases hx with rfl | rfl | rfl | rfl
  ·exact hnw'.2.1 hy'.symm
  ·rw[hy']at nd9;exact absurd nd9 (by simp)
  ·rw[hy']at nd9;exact absurd nd9 (by simp)
  ·rw[hy']at nd9;exact absurd nd9 (by simp)
 ·show v.toNat<=5
  omega
 ·rintro x ((rfl | rfl | rfl | rfl) | rfl)
  ·rw[m9_.ea];simp
  ·rw[hwl'.2.2];simp
  ·rw[hul'.2.2];simp
  ·rw[hct'.2.2];simp
  ·rw[hnw'.2.2];simp
 ·rintro x ((rfl | rfl | rfl | rfl) | rfl)
  ·exact .inl rfl
  ·exact .inr hwl'.1
  ·exact .inr hul'.1
  ·exact .inr hct'.1
  ·exact .inr hnw'.1
 ·exact m9_.kp
variable (Za2:MB P w K mg base (CX0) 3 Ze3 Zjl ["self","post"] (cQ CA 0))
include Zd4 ZM Za Za7 Zbe Z5 ZbD Zbh in
theorem ZlH (F0:Fun K "says" "Free.says" ZjI Ze3 Zjl):type_of% Za2:=by
 refine mbK ["self","post"] F0 fun H Q nd hr h=>?_
 obtain⟨nw,p,nwf,S,ob,os,rfl,tg,bd,st,wf,q⟩:=h
 refine⟨_,(aD (bF (gW (cR (bL Za Za7 Zbh.1 hr.mo Zbh.2 .nil aJ (dv 1)))) (aF (aL aG)) aV) (aF (aL (cB (cV (PW.pt (lN (cR (bL Za Zbe ZbD.1 hr.mo ZbD.2 .nil aJ (dv 1))) (kO (aW a4D (aP ZM Z5 (dv 0)) (bB (v:= .int 8) rfl Zd4 ⟨_,rfl⟩) (aR _))))) aG aG))))),?_⟩
 obtain⟨sa,on,al⟩:=id st
 cases en:S.now with
 | free k =>
  rw[en]at sa
  obtain⟨dx,e⟩:=sa
  obtain⟨dp,ch,wl,ul,ct,ws,us,b⟩:=id bd
  have hs:=lZ en
  refine⟨⟨dp,_,b.e,rfl⟩,p,nwf,S,ob,rfl,bd,?_⟩
  conv=>whnf
  refine bR (fun c=>?_) (fun c=>?_)
  ·have c1:S.wt= []:=by
    have:(!decide (0<(S.wt.length:Int)))=true:=c
    cases ew:S.wt with
    |nil=>rfl
    | cons f r=>
     rw[ew,Yn (by rw[YE];omega)]at this
     cases this
   rw[if_pos c1]at hs
   rw[hs]at q
   exact q
  have c1:¬ S.wt= []:=fun z=>c (by
   show (!decide (0<(S.wt.length:Int)))=true
   rw[z];rfl)
  rw[if_neg c1]at hs
  refine⟨fun x H'=>x= .int (aZ S)/\H'=H,?_,fun x H' z=>by rw[z.1,z.2];exact q⟩
  refine⟨⟨dp,_,b.e,rfl⟩,p,nwf,S,ob,rfl,bd,?_⟩
  conv=>whnf
  refine bR (fun y=>?_) (fun y=>?_)
  ·have y1:12<=S.tot:=dec_true y
   refine⟨dx,_,_,e,rfl,?_⟩
   conv=>whnf
   refine bR (fun z=>?_) (fun z=>?_)
   ·have z1:((k:Nat):Int)<8:=dec_true z
    rw[hs,if_pos ⟨y1,by omega⟩]
    exact⟨rfl,rfl⟩
   ·have z1:¬ ((k:Nat):Int)<8:=dec_false z
    rw[hs,if_neg fun w=>z1 (by omega)]
    exact⟨rfl,rfl⟩
  ·have y1:¬ 12<=S.tot:=dec_false y
   refine yW ⟨?_,rfl⟩
   rw[hs,if_neg fun w=>y1 w.1]
 |speaks n ds k=>rw[en]at tg;cases tg
 |reads h=>rw[en]at tg;cases tg
 |tlS v c=>rw[en]at tg;cases tg
 |tlR n ds v c=>rw[en]at tg;cases tg
 |flag l m=>rw[en]at tg;cases tg
 |settles m=>rw[en]at tg;cases tg
 |rests l=>rw[en]at tg;cases tg
 |off  =>rw[en]at tg;cases tg
variable (Zcu:MB P w K mg base (CX0) 1 Zd0 Zh0 ["self","post"] (cQ CA 1))
include Zj ZI ZC in
theorem ZkT (F0:Fun K "says" "Speaks.says" Zik Zd0 Zh0):type_of% Zcu:=by
 refine mbK ["self","post"] F0 fun H Q nd hr h=>?_
 obtain⟨nw,p,nwf,S,ob,os,rfl,tg,bd,st,wf,q⟩:=h
 refine⟨_,(aF (aL (bK dJ (aP Zj ZI (dv 0)) (aP Zj ZC (dv 0)) (fun _ _=>rfl)))),?_⟩
 obtain⟨sa,on,al⟩:=id st
 cases en:S.now with
 |free k=>rw[en]at tg;cases tg
 | speaks n ds k=>
  rw[en]at sa
  obtain⟨dx,wa,r,st,ks,t0,e,ew,_⟩:=sa
  have hn:=wf.now
  rw[en]at hn
  obtain⟨_,_,hk,_⟩:=hn
  refine⟨dx,_,_,e,rfl,dx,_,_,e,rfl,_,_,SqL.of ew,uP hk,?_⟩
  have:aZ S=(wr n ds)[k]:=by
   unfold aZ
   rw[en]
   show (wr n ds).getD k 0=_
   rw[Ye,Yc hk]
   rfl
  rw[this]at q
  exact q
 |reads h=>rw[en]at tg;cases tg
 |tlS v c=>rw[en]at tg;cases tg
 |tlR n ds v c=>rw[en]at tg;cases tg
 |flag l m=>rw[en]at tg;cases tg
 |settles m=>rw[en]at tg;cases tg
 |rests l=>rw[en]at tg;cases tg
 |off  =>rw[en]at tg;cases tg
variable (ZcM:MB P w K mg base (CX0) 1 Zev ZiL ["self","post"] (cQ CA 2))
def Zll (F0:Fun K "says" "Reads.says" Zi4 Zev ZiL):type_of% ZcM:=by
 refine mbK ["self","post"] F0 fun H Q nd hr h=>?_
 obtain⟨nw,p,nwf,S,ob,os,rfl,tg,bd,st,wf,q⟩:=h
 refine⟨_,(aF (aL aG)),?_⟩
 obtain⟨sa,on,al⟩:=id st
 cases en:S.now with
 |free k=>rw[en]at tg;cases tg
 |speaks n ds k=>rw[en]at tg;cases tg
 | reads h=>
  rw[en]at sa
  have:aZ S=1:=by unfold aZ;rw[en]
  rw[this]at q
  exact q
 |tlS v c=>rw[en]at tg;cases tg
 |tlR n ds v c=>rw[en]at tg;cases tg
 |flag l m=>rw[en]at tg;cases tg
 |settles m=>rw[en]at tg;cases tg
 |rests l=>rw[en]at tg;cases tg
 |off  =>rw[en]at tg;cases tg
variable (Zco:MB P w K mg base (CX0) 2 ZdR ZhR ["self","post"] (cQ CA 3))
include Zg Zf Zs Za0 ZaR ZB Zdf in
theorem ZkK (F0:Fun K "says" "InTail.says" Zib ZdR ZhR):type_of% Zco:=by
 refine mbK ["self","post"] F0 fun H Q nd hr h=>?_
 obtain⟨nw,p,nwf,S,ob,os,rfl,tg,bd,st,wf,q⟩:=h
 refine⟨_,(aF (aL (a3B Zdf.1 hr.mo Zdf.2 .nil aJ (aP Zs ZB (dv 0))))),?_⟩
 obtain⟨sa,on,al⟩:=id st
 cases en:S.now with
 |free k=>rw[en]at tg;cases tg
 |speaks n ds k=>rw[en]at tg;cases tg
 |reads h=>rw[en]at tg;cases tg
 | tlS v c=>
  rw[en]at sa
  obtain⟨dx,tl,e,ht,_⟩:=sa
  obtain⟨C,d,hC,e1⟩:=id ht
  have hc:=jR Zg Zf hC
  have hm:=rQ Za0 ZaR hC
  refine⟨dx,_,.ref tl,e,rfl,⟨C,d,_,e1,hc.cls,hm,rfl⟩,tl,S.vt,true,v,c,rfl,ht,?_⟩
  have:aZ S=gH true v:=by unfold aZ;rw[en]
  rw[this]at q
  exact q
 | tlR n ds v c=>
  rw[en]at sa
  obtain⟨dx,tl,t0,d0,e,ht,_⟩:=sa
  obtain⟨C,d,hC,e1⟩:=id ht
  have hc:=jR Zg Zf hC
  have hm:=rQ Za0 ZaR hC
  refine⟨dx,_,.ref tl,e,rfl,⟨C,d,_,e1,hc.cls,hm,rfl⟩,tl,S.vt,false,v,c,rfl,ht,?_⟩
  have:aZ S=gH false v:=by unfold aZ;rw[en]
  rw[this]at q
  exact q
 |flag l m=>rw[en]at tg;cases tg
 |settles m=>rw[en]at tg;cases tg
 |rests l=>rw[en]at tg;cases tg
 |off  =>rw[en]at tg;cases tg
variable (ZbB:MB P w K mg base (CX0) 1 Zdj Zgr ["self","post"] (cQ CA 4))
def Zj9 (F0:Fun K "says" "Flagging.says" Zgy Zdj Zgr):type_of% ZbB:=by
 refine mbK ["self","post"] F0 fun H Q nd hr h=>?_
 obtain⟨nw,p,nwf,S,ob,os,rfl,tg,bd,st,wf,q⟩:=h
 refine⟨_,(aF (aL aG)),?_⟩
 obtain⟨sa,on,al⟩:=id st
 cases en:S.now with
 |free k=>rw[en]at tg;cases tg
 |speaks n ds k=>rw[en]at tg;cases tg
 |reads h=>rw[en]at tg;cases tg
 |tlS v c=>rw[en]at tg;cases tg
 |tlR n ds v c=>rw[en]at tg;cases tg
 | flag l m=>
  rw[en]at sa
  have:aZ S=0:=by unfold aZ;rw[en]
  rw[this]at q
  exact q
 |settles m=>rw[en]at tg;cases tg
 |rests l=>rw[en]at tg;cases tg
 |off  =>rw[en]at tg;cases tg
variable (Zcc:MB P w K mg base (CX0) 1 ZdD Zhj ["self","post"] (cQ CA 5))
def Zkv (F0:Fun K "says" "Settles.says" Zhx ZdD Zhj):type_of% Zcc:=by
 refine mbK ["self","post"] F0 fun H Q nd hr h=>?_
 obtain⟨nw,p,nwf,S,ob,os,rfl,tg,bd,st,wf,q⟩:=h
 refine⟨_,(aF (aL aG)),?_⟩
 obtain⟨sa,on,al⟩:=id st
 cases en:S.now with
 |free k=>rw[en]at tg;cases tg
 |speaks n ds k=>rw[en]at tg;cases tg
 |reads h=>rw[en]at tg;cases tg
 |tlS v c=>rw[en]at tg;cases tg
 |tlR n ds v c=>rw[en]at tg;cases tg
 |flag l m=>rw[en]at tg;cases tg
 | settles m=>
  rw[en]at sa
  have:aZ S=1:=by unfold aZ;rw[en]
  rw[this]at q
  exact q
 |rests l=>rw[en]at tg;cases tg
 |off  =>rw[en]at tg;cases tg
variable (ZcO:MB P w K mg base (CX0) 1 Zey ZiO ["self","post"] (cQ CA 6))
def Zlo (F0:Fun K "says" "Rests.says" Zi7 Zey ZiO):type_of% ZcO:=by
 refine mbK ["self","post"] F0 fun H Q nd hr h=>?_
 obtain⟨nw,p,nwf,S,ob,os,rfl,tg,bd,st,wf,q⟩:=h
 refine⟨_,(aF (aL aG)),?_⟩
 obtain⟨sa,on,al⟩:=id st
 cases en:S.now with
 |free k=>rw[en]at tg;cases tg
 |speaks n ds k=>rw[en]at tg;cases tg
 |reads h=>rw[en]at tg;cases tg
 |tlS v c=>rw[en]at tg;cases tg
 |tlR n ds v c=>rw[en]at tg;cases tg
 |flag l m=>rw[en]at tg;cases tg
 |settles m=>rw[en]at tg;cases tg
 | rests l=>
  rw[en]at sa
  have:aZ S=1:=by unfold aZ;rw[en]
  rw[this]at q
  exact q
 |off  =>rw[en]at tg;cases tg
variable (Zdu:MB P w K mg base (CX0) 1 ZfO Zkg ["self","post"] (cQ CA 7))
def Zmc (F0:Fun K "says" "Off.says" Zkz ZfO Zkg):type_of% Zdu:=by
 refine mbK ["self","post"] F0 fun H Q nd hr h=>?_
 obtain⟨nw,p,nwf,S,ob,os,rfl,tg,bd,st,wf,q⟩:=h
 refine⟨_,(aF (aL aG)),?_⟩
 obtain⟨sa,on,al⟩:=id st
 cases en:S.now with
 |free k=>rw[en]at tg;cases tg
 |speaks n ds k=>rw[en]at tg;cases tg
 |reads h=>rw[en]at tg;cases tg
 |tlS v c=>rw[en]at tg;cases tg
 |tlR n ds v c=>rw[en]at tg;cases tg
 |flag l m=>rw[en]at tg;cases tg
 |settles m=>rw[en]at tg;cases tg
 |rests l=>rw[en]at tg;cases tg
 | off  =>
  rw[en]at sa
  have:aZ S=1:=by unfold aZ;rw[en]
  rw[this]at q
  exact q
variable (Zdv:MB P w K mg base (CX0) 1 ZfP Zkh ["self","bit","post"] (cP CA 7))
def Zmd (F0:Fun K "step" "Off.step" ZkA ZfP Zkh):type_of% Zdv:=by
 refine mbK ["self","bit","post"] F0 fun H Q nd hr h=>?_
 obtain⟨nw,p,nwf,S,ob,os,bt,rfl,tg,bd,st,dj,wf,hb,hu,q⟩:=h
 refine⟨_,(aF (aL (cD (aA bI (aA (dv 0) aB))))),?_⟩
 obtain⟨sa,on,al⟩:=id st
 cases en:S.now with
 |free k=>rw[en]at tg;cases tg
 |speaks n ds k=>rw[en]at tg;cases tg
 |reads h=>rw[en]at tg;cases tg
 |tlS v c=>rw[en]at tg;cases tg
 |tlR n ds v c=>rw[en]at tg;cases tg
 |flag l m=>rw[en]at tg;cases tg
 |settles m=>rw[en]at tg;cases tg
 |rests l=>rw[en]at tg;cases tg
 | off  =>
  rw[en]at sa
  rw[wQ en]at q
  refine⟨aM rfl,fun t ht=>?_⟩
  have g1:=aK ht (.tup [.str "",.ref nw])
  exact q t _ (Stp.go bd dj cL.refl g1 aC ⟨rfl,rfl,rfl,rfl,rfl,rfl⟩ (st.move fun x v e _=>g1 x v e) fun x hx=> .inl hx)
variable (ZbC:MB P w K mg base (CX0) 3 Zdk Zgs ["self","bit","post"] (cP CA 4))
include Zc3 Zb7 Zt ZaU Zar Zac ZN Zan ZX in
theorem Zka (F0:Fun K "step" "Flagging.step" Zgz Zdk Zgs):type_of% ZbC:=by
 refine mbK ["self","bit","post"] F0 fun H Q nd hr h=>?_
 obtain⟨nw,p,nwf,S,ob,os,bt,rfl,tg,bd,st,dj,wf,hb,hu,q⟩:=h
 refine⟨_,(aD (bF (aW dO (aP Zt Zac (dv 0)) aG (aR _)) (aF (aL (cD (aA bI (aA (cG Zar ZX.1 hr.mo rfl Zb7 ZX.2 .nil aJ (aA (aP Zt ZN (dv 0)) aB)) aB))))) aV) (aF (aL (cD (aA bI (aA (cG ZaU Zan.1 hr.mo rfl Zc3 Zan.2 .nil aJ (aA (aU iZ (aP Zt Zac (dv 0)) aG) (aA (aP Zt ZN (dv 0)) aB))) aB)))))),?_⟩
 obtain⟨sa,on,al⟩:=id st
 cases en:S.now with
 |free k=>rw[en]at tg;cases tg
 |speaks n ds k=>rw[en]at tg;cases tg
 |reads h=>rw[en]at tg;cases tg
 |tlS v c=>rw[en]at tg;cases tg
 |tlR n ds v c=>rw[en]at tg;cases tg
 | flag l m=>
  rw[en]at sa
  obtain⟨dx,e⟩:=sa
  have hl:=wf.now
  rw[en]at hl
  have hl1:1<=l:=hl
  rw[sS en]at q
  refine⟨dx,_,_,e,rfl,?_⟩
  conv=>whnf
  refine bR (fun c=>?_) (fun c=>?_)
  ·have c1:((l:Nat):Int)=1:=dec_true c
   rw[if_pos (by omega)]at q
   refine⟨dx,_,_,e,rfl,?_⟩
   refine fun x dx' hx hdx hne=>⟨x,dx',_,rfl,aC,fun H2 eH=>⟨rfl,aM rfl,fun t ht=>?_⟩⟩
   have g2:Same H H2:=by rw[eH];exact bJ hx hdx
   have e2:H2 x=some (.ins CA.settles dx' [("may_blame",.bl m)]):=by rw[eH];exact aC
   have g3:=aK ht (.tup [.str "",.ref x])
   exact q t _ (kI bd dj cL.refl (g2.trans g3) aC ⟨rfl,rfl,rfl,rfl,rfl,rfl⟩ hx (g3 _ _ e2) ⟨dx',g3 _ _ e2⟩)
  ·have c1:¬ ((l:Nat):Int)=1:=dec_false c
   rw[if_neg (by omega)]at q
   refine⟨dx,_,_,e,rfl,dx,_,_,e,rfl,?_⟩
   refine fun x dx' hx hdx hne=>⟨x,dx',_,_,rfl,aC,fun H2 eH=>⟨rfl,aM rfl,fun t ht=>?_⟩⟩
   have g2:Same H H2:=by rw[eH];exact bJ hx hdx
   have el:((l:Nat):Int)-1=((l-1:Nat):Int):=by omega
   have e2:H2 x=some (.ins CA.flag dx' [("left",.int ((l-1:Nat):Int)),("may_blame",.bl m)]):=by rw[eH,<-el];exact aC
   have g3:=aK ht (.tup [.str "",.ref x])
   exact q t _ (kI bd dj cL.refl (g2.trans g3) aC ⟨rfl,rfl,rfl,rfl,rfl,rfl⟩ hx (g3 _ _ e2) ⟨dx',g3 _ _ e2⟩)
 |settles m=>rw[en]at tg;cases tg
 |rests l=>rw[en]at tg;cases tg
 |off  =>rw[en]at tg;cases tg
variable (Zcd:MB P w K mg base (CX0) 5 ZdE Zhk ["self","bit","post"] (cP CA 5))
include ZcQ ZbA ZT Zau Z4 Z2 Zcy in
theorem Zkw (F0:Fun K "step" "Settles.step" Zhy ZdE Zhk):type_of% Zcd:=by
 refine mbK ["self","bit","post"] F0 fun H Q nd hr h=>?_
 obtain⟨nw,p,nwf,S,ob,os,bt,rfl,tg,bd,st,dj,wf,hb,hu,q⟩:=h
 refine⟨_,(aD (bF (aW dO (dv 1) aG (aR _)) (aF (aL (cD (aA bI (aA (cG Zau Z2.1 hr.mo rfl ZcQ Z2.2 .nil aJ (aA (bB (v:= .int 3) rfl ZbA ⟨_,rfl⟩) aB)) aB))))) aV) (aD (bF (cR (aP ZT Z4 (dv 0))) (aF (aL (aQ Zcy.1 hr.mo rfl Zcy.2.2.2 Zcy.2.2.1 Zcy.2.1 .nil aJ (aA (dv 2) aB)))) aV) (aF (aL (cD (aA bI (aA (dv 0) aB))))))),?_⟩
 obtain⟨sa,on,al⟩:=id st
 cases en:S.now with
 |free k=>rw[en]at tg;cases tg
 |speaks n ds k=>rw[en]at tg;cases tg
 |reads h=>rw[en]at tg;cases tg
 |tlS v c=>rw[en]at tg;cases tg
 |tlR n ds v c=>rw[en]at tg;cases tg
 |flag l m=>rw[en]at tg;cases tg
 | settles m=>
  rw[en]at sa
  obtain⟨dx,e⟩:=sa
  rw[mX en]at q
  conv=>whnf
  refine bR (fun c=>?_) (fun c=>?_)
  ·have c1:bt=1:=dec_true c
   rw[if_pos c1]at q
   refine fun x dx' hx hdx hne=>⟨x,dx',_,rfl,aC,fun H2 eH=>⟨rfl,aM rfl,fun t ht=>?_⟩⟩
   have g2:Same H H2:=by rw[eH];exact bJ hx hdx
   have e2:H2 x=some (.ins CA.rests dx' [("left",.int ((3:Nat):Int))]):=by rw[eH];exact aC
   have g3:=aK ht (.tup [.str "",.ref x])
   exact q t _ (kI bd dj cL.refl (g2.trans g3) aC ⟨rfl,rfl,rfl,rfl,rfl,rfl⟩ hx (g3 _ _ e2) ⟨dx',g3 _ _ e2⟩)
  have c1:¬ bt=1:=dec_false c
  rw[if_neg c1]at q
  refine⟨dx,_,_,e,rfl,?_⟩
  cases m with
  | true=>
   rw[if_pos rfl]at q
   exact⟨p,nwf,S,ob,rfl,bd,fun t H' h=>q t H' (h.stp cL.refl bd)⟩
  | false=>
   rw[if_neg (by decide)]at q
   refine⟨aM rfl,fun t ht=>?_⟩
   have g1:=aK ht (.tup [.str "",.ref nw])
   exact q t _ (Stp.go bd dj cL.refl g1 aC ⟨rfl,rfl,rfl,rfl,rfl,rfl⟩ (st.move fun x v e _=>g1 x v e) fun x hx=> .inl hx)
 |rests l=>rw[en]at tg;cases tg
 |off  =>rw[en]at tg;cases tg
variable (ZcP:MB P w K mg base (CX0) 5 Zez ZiP ["self","bit","post"] (cP CA 6))
include ZdN ZcQ ZY ZaP Zau Zas Zao Z2 Zo in
theorem Zlp (F0:Fun K "step" "Rests.step" Zi8 Zez ZiP):type_of% ZcP:=by
 refine mbK ["self","bit","post"] F0 fun H Q nd hr h=>?_
 obtain⟨nw,p,nwf,S,ob,os,bt,rfl,tg,bd,st,dj,wf,hb,hu,q⟩:=h
 refine⟨_,(aD (bF (aW dO (dv 1) aG (aR _)) (aF (aL (aQ Zo.1 hr.mo rfl Zo.2.2.2 Zo.2.2.1 Zo.2.1 .nil aJ (aA (dv 2) (aA iQ aB))))) aV) (aF (aL (cD (aA bI (aA (cB (cV (aW dO (aP ZY Zas (dv 0)) aG (aR _)) (cG ZaP Zao.1 hr.mo rfl ZdN Zao.2 .nil aJ (aA aG aB)) (cG Zau Z2.1 hr.mo rfl ZcQ Z2.2 .nil aJ (aA (aU iZ (aP ZY Zas (dv 0)) aG) aB)))) aB)))))),?_⟩
 obtain⟨sa,on,al⟩:=id st
 cases en:S.now with
 |free k=>rw[en]at tg;cases tg
 |speaks n ds k=>rw[en]at tg;cases tg
 |reads h=>rw[en]at tg;cases tg
 |tlS v c=>rw[en]at tg;cases tg
 |tlR n ds v c=>rw[en]at tg;cases tg
 |flag l m=>rw[en]at tg;cases tg
 |settles m=>rw[en]at tg;cases tg
 | rests l=>
  rw[en]at sa
  obtain⟨dx,e⟩:=sa
  have hl:=wf.now
  rw[en]at hl
  have hl1:1<=l:=hl
  rw[lO en]at q
  conv=>whnf
  refine bR (fun c=>?_) (fun c=>?_)
  ·have c1:bt=0:=dec_true c
   rw[if_pos c1]at q
   exact⟨p,nwf,S,ob,false,rfl,bd,fun t H' h=>q t H' (h.stp cL.refl bd)⟩
  have c1:¬ bt=0:=dec_false c
  rw[if_neg c1]at q
  refine⟨fun v H2=>∃x dx',v= .ref x/\H x=none/\Same H H2/\(if l=1 then H2 x=some (.ins CA.free dx' [("since",.int ((0:Nat):Int))]) else H2 x=some (.ins CA.rests dx' [("left",.int ((l-1:Nat):Int))])),?_,?_⟩
  ·refine⟨dx,_,_,e,rfl,?_⟩
   conv=>whnf
   refine bR (fun z=>?_) (fun z=>?_)
   ·have z1:((l:Nat):Int)=1:=dec_true z
    refine fun x dx' hx hdx hne=>⟨x,dx',_,rfl,aC,fun H2 eH=>⟨rfl,x,dx',rfl,hx,by rw[eH];exact bJ hx hdx,?_⟩⟩
    rw[if_pos (by omega),eH]
    exact aC
   ·have z1:¬ ((l:Nat):Int)=1:=dec_false z
    have el:((l:Nat):Int)-1=((l-1:Nat):Int):=by omega
    refine⟨dx,_,_,e,rfl,?_⟩
    refine fun x dx' hx hdx hne=>⟨x,dx',_,rfl,aC,fun H2 eH=>⟨rfl,x,dx',rfl,hx,by rw[eH];exact bJ hx hdx,?_⟩⟩
    rw[if_neg (by omega),eH,<-el]
    exact aC
  rintro v H2 ⟨x,dx',rfl,hx,g2,e2⟩
  refine⟨aM rfl,fun t ht=>?_⟩
  have g3:=aK ht (.tup [.str "",.ref x])
  by_cases z:l=1
  ·rw[if_pos z]at e2 q
   exact q t _ (kI bd dj cL.refl (g2.trans g3) aC ⟨rfl,rfl,rfl,rfl,rfl,rfl⟩ hx (g3 _ _ e2) ⟨dx',g3 _ _ e2⟩)
  ·rw[if_neg z]at e2 q
   exact q t _ (kI bd dj cL.refl (g2.trans g3) aC ⟨rfl,rfl,rfl,rfl,rfl,rfl⟩ hx (g3 _ _ e2) ⟨dx',g3 _ _ e2⟩)
 |off  =>rw[en]at tg;cases tg
variable (Zc5:MB P w K mg base (CX0) 8 Ze4 Zjm ["self","bit","post"] (cP CA 0))
include ZaA ZL Zw ZdN Zec Zdg ZM Za ZaP Zbk ZaG Zaw ZaL Z5 Zad Zao ZaD Zaf ZaI Zo Za2 in
theorem ZlI (F0:Fun K "step" "Free.step" ZjJ Ze4 Zjm):type_of% Zc5:=by
 refine mbK ["self","bit","post","begins"] F0 fun H Q nd hr h=>?_
 obtain⟨nw,p,nwf,S,ob,os,bt,rfl,tg,bd,st,dj,wf,hb,hu,q⟩:=h
 refine⟨_,(aD (aX (i:=3) nd rfl (Or.inl rfl) (fC dO (bQ ZM Zaw Za2.1 hr.mo Za2.2 .nil aJ (dv 0) (aA (dv 2) aB)) aG (aR _))) (aD (bF (PW.pt (lN (cR (dv 3)) (kO (aW dO (dv 1) aG (aR _))))) (aF (aL (cD (aA bI (aA (cG Zbk ZaD.1 hr.mo rfl Zec ZaD.2 .nil aJ (aA (bL Za ZaL ZaI.1 hr.mo ZaI.2 .nil aJ (dv 2)) (aA (wA Zad.1 hr.mo rfl Zad.2.2.2 Zad.2.2.1 Zad.2.1 .nil aJ) (aA aG aB)))) aB))))) aV) (aD (bF (cR (dv 3)) (aF (aL (aQ Zo.1 hr.mo rfl Zo.2.2.2 Zo.2.2.1 Zo.2.1 .nil aJ (aA (dv 2) (aA iQ aB))))) aV) (aD (bF (aW dO (dv 1) aG (aR _)) (aF (aL (cD (aA bI (aA (cG ZaG Zaf.1 hr.mo rfl Zdg Zaf.2 .nil aJ (aA (wA Zad.1 hr.mo rfl Zad.2.2.2 Zad.2.2.1 Zad.2.1 .nil aJ) (aA aG aB))) aB))))) aV) (aF (aL (cD (aA bI (aA (cG ZaP Zao.1 hr.mo rfl ZdN Zao.2 .nil aJ (aA (aU cH (aP ZM Z5 (dv 0)) aG) aB)) aB))))))))),?_⟩
 obtain⟨sa,on,al⟩:=id st
 cases en:S.now with
 | free k =>
  rw[en]at sa
  obtain⟨dx,e⟩:=sa
  obtain⟨dp,ch,wl,ul,ct,ws,us,b⟩:=id bd
  rw[jB en]at q
  refine⟨⟨dx,_,e,rfl⟩,nw,p,nwf,S,ob,os,rfl,tg,bd,st,wf,?_⟩
  conv=>whnf
  refine bR (fun c=>?_) (fun c=>?_)
  ·have c1:aZ S=0:=dec_true c
   rw[if_pos c1]at q
   conv=>whnf
   refine bR (fun z=>?_) (fun z=>?_)
   ·have z1:bt=0:=dec_true z
    rw[if_pos z1]at q
    cases ewt:S.wt with
    | nil=>
     rw[lZ en,if_pos ewt]at c1
     cases c1
    | cons f rr=>
     rw[ewt]at q
     have hf:=wf.wt f (by rw[ewt];exact Yq)
     refine⟨⟨dp,_,b.e,rfl⟩,p,nwf,S,ob,f,rr,rfl,bd,ewt,hf,fun pw H1 hpw g1 e1=>?_⟩
     refine⟨rfl,fun r st' ks H2 t0 hR g2 n1 n2 n3=>?_⟩
     refine fun x dx' hx hdx hne=>⟨x,dx',_,_,_,rfl,aC,fun H3 eH=>⟨rfl,aM rfl,fun t ht=>?_⟩⟩
     have g3:Same H2 H3:=by rw[eH];exact bJ hx hdx
     have e3:H3 x=some (.ins CA.speaks dx' [("wire",.ref pw),("reader",.ref r),("many",.int ((1:Nat):Int))]):=by rw[eH];exact aC
     have g4:=aK ht (.tup [.str "begins",.ref x])
     have npk:pw≠ks:=fun y=>by rw[y,n3]at e1;cases e1
     have g24:=g3.trans g4
     have gs:=g1.trans (g2.trans g24)
     refine q t _ (Stp.go (os':=fun y=>y=x\/y=pw\/y=r\/y=st'\/y=ks) bd dj cL.refl gs aC ⟨rfl,rfl,rfl,ewt.symm,rfl,rfl⟩ ⟨⟨dx',pw,r,st',ks,t0,g4 _ _ e3,g24 _ _ (g2 _ _ e1),?_,npk,.inr (.inl rfl),.inr (.inr (.inl rfl)),.inr (.inr (.inr (.inl rfl))),.inr (.inr (.inr (.inr rfl)))⟩,.inl rfl,?_⟩ ?_)
     ·show iC _ _ _ r st' ks ((wr f.1 f.2).take 1) t0
      rw[tM]
      exact hR.same g24
     ·rintro y (rfl | rfl | rfl | rfl | rfl)
      ·rw[g4 _ _ e3];simp
      ·rw[g24 _ _ (g2 _ _ e1)];simp
      ·obtain⟨d,w⟩:=hR.rd;rw[g24 _ _ w];simp
      ·obtain⟨d,w⟩:=hR.sk;rw[g24 _ _ w];simp
      ·rw[g24 _ _ hR.kp];simp
     ·rintro y (rfl | rfl | rfl | rfl | rfl)
      ·exact .inr (g1.none (g2.none hx))
      ·exact .inr hpw
      ·exact .inr (g1.none n1)
      ·exact .inr (g1.none n2)
      ·exact .inr (g1.none n3)
   ·have z1:¬ bt=0:=dec_false z
    rw[if_neg z1]at q
    conv=>whnf
    refine bR (fun _=>?_) (fun c'=>absurd c c')
    exact⟨p,nwf,S,ob,true,rfl,bd,fun t H' h=>q t H' (h.stp cL.refl bd)⟩
  have c1:¬ aZ S=0:=dec_false c
  rw[if_neg c1]at q
  refine yW ?_
  conv=>whnf
  refine bR (fun c'=>absurd c' c) (fun _=>?_)
  conv=>whnf
  refine bR (fun z=>?_) (fun z=>?_)
  ·have z1:bt=0:=dec_true z
   rw[if_pos z1]at q
   refine⟨rfl,fun r st' ks H2 t0 hR g2 n1 n2 n3=>?_⟩
   refine fun x dx' hx hdx hne=>⟨x,dx',_,_,rfl,aC,fun H3 eH=>⟨rfl,aM rfl,fun t ht=>?_⟩⟩
   have g3:Same H2 H3:=by rw[eH];exact bJ hx hdx
   have e3:H3 x=some (.ins CA.reads dx' [("reader",.ref r),("many",.int ((1:Nat):Int))]):=by rw[eH];exact aC
   have g4:=aK ht (.tup [.str "",.ref x])
   have g24:=g3.trans g4
   refine q t _ (Stp.go (os':=fun y=>y=x\/y=r\/y=st'\/y=ks) bd dj cL.refl (g2.trans g24) aC ⟨rfl,rfl,rfl,rfl,rfl,rfl⟩ ⟨⟨dx',r,st',ks,t0,g4 _ _ e3,hR.same g24,.inr (.inl rfl),.inr (.inr (.inl rfl)),.inr (.inr (.inr rfl))⟩,.inl rfl,?_⟩ ?_)
   ·rintro y (rfl | rfl | rfl | rfl)
    ·rw[g4 _ _ e3];simp
    ·obtain⟨d,w⟩:=hR.rd;rw[g24 _ _ w];simp
    ·obtain⟨d,w⟩:=hR.sk;rw[g24 _ _ w];simp
    ·rw[g24 _ _ hR.kp];simp
   ·rintro y (rfl | rfl | rfl | rfl)
    ·exact .inr (g2.none hx)
    ·exact .inr n1
    ·exact .inr n2
    ·exact .inr n3
  ·have z1:¬ bt=0:=dec_false z
   rw[if_neg z1]at q
   refine⟨dx,_,_,e,rfl,?_⟩
   refine fun x dx' hx hdx hne=>⟨x,dx',_,rfl,aC,fun H2 eH=>⟨rfl,aM rfl,fun t ht=>?_⟩⟩
   have g2:Same H H2:=by rw[eH];exact bJ hx hdx
   have e2:H2 x=some (.ins CA.free dx' [("since",.int ((k+1:Nat):Int))]):=by rw[eH];exact aC
   have g3:=aK ht (.tup [.str "",.ref x])
   exact q t _ (kI bd dj cL.refl (g2.trans g3) aC ⟨rfl,rfl,rfl,rfl,rfl,rfl⟩ hx (g3 _ _ e2) ⟨dx',g3 _ _ e2⟩)
 |speaks n ds k=>rw[en]at tg;cases tg
 |reads h=>rw[en]at tg;cases tg
 |tlS v c=>rw[en]at tg;cases tg
 |tlR n ds v c=>rw[en]at tg;cases tg
 |flag l m=>rw[en]at tg;cases tg
 |settles m=>rw[en]at tg;cases tg
 |rests l=>rw[en]at tg;cases tg
 |off  =>rw[en]at tg;cases tg
variable (ZcN:MB P w K mg base (CX0) 7 Zew ZiM ["self","bit","post"] (cP CA 2))
include ZL Zw Zdt Zdg Zeb ZfS Ze ZF Za ZaG Zbj Zc2 ZO Zbp Z3 Zaz Z6 Z7 Zca ZbE Zaf ZaC Zo in
theorem Zlm (F0:Fun K "step" "Reads.step" Zi5 Zew ZiM):type_of% ZcN:=by
 refine mbK ["self","bit","post","answer"] F0 fun H Q nd hr h=>?_
 obtain⟨nw,p,nwf,S,ob,os,bt,rfl,tg,bd,st,dj,wf,hb,hu,q⟩:=h
 refine⟨_,(aD (aX (i:=3) nd rfl (Or.inl rfl) (bQ Ze ZO Z7.1 hr.mo Z7.2 .nil aJ (aP ZF Z3 (dv 0)) (aA (dv 1) aB))) (aD (bF (aW dO (dv 3) bI (aR _)) (aF (aL (cD (aA bI (aA (cG ZaG Zaf.1 hr.mo rfl Zdg Zaf.2 .nil aJ (aA (aP ZF Z3 (dv 0)) (aA (aU cH (aP ZF Zaz (dv 0)) aG) aB))) aB))))) aV) (aD (bF (aW dO (dv 3) bI (aR _)) (aF (aL (cD (aA bI (aA (cG Zbj ZaC.1 hr.mo rfl Zeb ZaC.2 .nil aJ (aA (cG Zc2 ZbE.1 hr.mo rfl ZfS ZbE.2 .nil aJ (aA (aP Za Z6 (dv 2)) aB)) (aA (bL Ze Zbp Zca.1 hr.mo Zca.2 .nil aJ (aP ZF Z3 (dv 0))) aB))) aB))))) aV) (aF (aL (aQ Zo.1 hr.mo rfl Zo.2.2.2 Zo.2.2.1 Zo.2.1 .nil aJ (aA (dv 2) (aA iQ aB)))))))),?_⟩
 obtain⟨sa,on,al⟩:=id st
 cases en:S.now with
 |free k=>rw[en]at tg;cases tg
 |speaks n ds k=>rw[en]at tg;cases tg
 | reads h=>
  rw[en]at sa
  obtain⟨dx,r,st',ks,t0,e,hR,o1,o2,o3⟩:=sa
  have hn:=wf.now
  rw[en]at hn
  obtain⟨f1,f2,f3⟩:=hn
  have hlen:=b5Q f1 f2
  rw[lQ en]at q
  obtain⟨dr,er⟩:=hR.rd
  obtain⟨dk,ek⟩:=hR.sk
  have hbits:bN (h++[bt]):=jX f1 (fun z hz=>by rw[Yi.mp hz];exact hb)
  refine⟨dx,_,.ref r,e,rfl,⟨dr,_,er,rfl⟩,r,st',ks,h,t0,bt,rfl,hR,hbits,by omega,fun H1 hR1 b1=>?_⟩
  have n1:nw≠r:=qH "many" e er rfl rfl
  have n2:nw≠st':=qH "many" e ek rfl rfl
  have n3:nw≠ks:=a0Z e hR.kp
  have e1:=b1 _ _ n1 n2 n3 e
  have k1:=a1F hR b1 o1 o2 o3
  have bd1:=pG bd dj k1
  have k1':cL (Or2 ob os) H H1:=k1.le fun x hx=> .inr hx
  obtain⟨dr1,er1⟩:=hR1.rd
  generalize hans:ans (h++[bt])=an at hR1 q er1 ⊢
  conv=>whnf
  refine bR (fun c=>?_) (fun c=>?_)
  ·have c1:an="more":=YZ c
   rw[if_pos c1]at q
   refine⟨dx,_,.ref r,e1,rfl,dx,_,_,e1,rfl,?_⟩
   refine fun x dx' hx hdx hne=>⟨x,dx',_,_,rfl,aC,fun H2 eH=>⟨rfl,aM rfl,fun t ht=>?_⟩⟩
   have g2:Same H1 H2:=by rw[eH];exact bJ hx hdx
   have el:((h.length:Nat):Int)+1=(((h++[bt]).length:Nat):Int):=by rw[Yb,Yv];rfl
   have e2:H2 x=some (.ins CA.reads dx' [("reader",.ref r),("many",.int (((h++[bt]).length:Nat):Int))]):=by rw[eH,<-el];exact aC
   have g3:=aK ht (.tup [.str "",.ref x])
   have g13:=g2.trans g3
   refine q t _ (Stp.go (os':=fun y=>y=x\/y=r\/y=st'\/y=ks) bd dj k1 g13 aC ⟨rfl,rfl,rfl,rfl,rfl,rfl⟩ ⟨⟨dx',r,st',ks,an,g3 _ _ e2,hR1.same g13,.inr (.inl rfl),.inr (.inr (.inl rfl)),.inr (.inr (.inr rfl))⟩,.inl rfl,?_⟩ ?_)
   ·rintro y (rfl | rfl | rfl | rfl)
    ·rw[g3 _ _ e2];simp
    ·rw[g13 _ _ er1];simp
    ·obtain⟨d,w⟩:=hR1.sk;rw[g13 _ _ w];simp
    ·rw[g13 _ _ hR1.kp];simp
   ·rintro y (rfl | rfl | rfl | rfl)
    ·exact .inr hx
    ·exact .inl o1
    ·exact .inl o2
    ·exact .inl o3
  have c1:¬ an="more":=fun z=>c (Yn z)
  rw[if_neg c1]at q
  conv=>whnf
  refine bR (fun z=>?_) (fun z=>?_)
  ·have z1:an="whole":=YZ z
   rw[if_pos z1]at q
   obtain⟨dp,ch,wl,ul,ct,ws,us,b⟩:=id bd1
   refine⟨dp,_,_,b.e,rfl,?_⟩
   refine fun tl dt htl hdt hne=>⟨tl,dt,S.vt,rfl,aC,fun H2 eH=>⟨rfl,?_⟩⟩
   have g2:Same H1 H2:=by rw[eH];exact bJ htl hdt
   have e2:H2 tl=some (.ins CA.rtail dt (tlF S.vt false 0 0)):=by rw[eH];exact aC
   clear eH
   have hR2:=hR1.same g2
   obtain⟨dr2,er2⟩:=hR2.rd
   refine⟨dx,_,.ref r,g2 _ _ e1,rfl,⟨dr2,_,er2,rfl⟩,r,st',ks,h++[bt],rfl,(by rw[hans];exact hR2),hbits,(by rw[Yb,Yv];omega),(fun _=>a3N (by rw[b1W,Xf,f3];rfl)),fun _ ok t d H3 hd g3 ed et=>?_,fun no=>absurd (hans.trans z1) no⟩
   refine fun x dx' hx hdx hne=>⟨x,dx',_,_,rfl,aC,fun H4 eH=>⟨rfl,aM rfl,fun t' ht'=>?_⟩⟩
   have g4:Same H3 H4:=by rw[eH];exact bJ hx hdx
   have e4:H4 x=some (.ins CA.intail dx' [("tail",.ref tl),("found",.ref t)]):=by rw[eH];exact aC
   clear eH
   have g5:=aK ht' (.tup [.str "",.ref x])
   have g35:=g4.trans g5
   refine q t' _ (Stp.go (os':=fun y=>y=x\/y=tl\/y=d) bd dj k1 (g2.trans (g3.trans g35)) aC ⟨rfl,rfl,rfl,rfl,rfl,rfl⟩ ⟨⟨dx',tl,t,d,g5 _ _ e4,⟨CA.rtail,dt,.inl rfl,g35 _ _ (g3 _ _ e2)⟩,g35 _ _ et,g35 _ _ ed,.inr (.inl rfl),.inr (.inr rfl)⟩,.inl rfl,?_⟩ ?_)
   ·rintro y (rfl | rfl | rfl)
    ·rw[g5 _ _ e4];simp
    ·rw[g35 _ _ (g3 _ _ e2)];simp
    ·rw[g35 _ _ ed];simp
   ·rintro y (rfl | rfl | rfl)
    ·exact .inr (g2.none (g3.none hx))
    ·exact .inr htl
    ·exact .inr (g2.none hd)
  ·have z1:¬ an="whole":=fun y=>z (Yn y)
   rw[if_neg z1]at q
   exact⟨p,nwf,S,ob,false,rfl,bd1,fun t H' h=>q t H' (h.stp k1' bd1)⟩
 |tlS v c=>rw[en]at tg;cases tg
 |tlR n ds v c=>rw[en]at tg;cases tg
 |flag l m=>rw[en]at tg;cases tg
 |settles m=>rw[en]at tg;cases tg
 |rests l=>rw[en]at tg;cases tg
 |off  =>rw[en]at tg;cases tg
variable (Zcv:MB P w K mg base (CX0) 7 Zd1 Zh1 ["self","bit","post"] (cP CA 1))
include ZL Zw Zdt Zec Zdg Zeb Zff Zfj Zr Ze Zj Za Zbk ZaG Zbj ZcF ZO Zbq ZI ZR ZC Z6 Z7 Zcb Zbi ZaD Zaf ZaC Zo in
theorem ZkU (F0:Fun K "step" "Speaks.step" Zil Zd1 Zh1):type_of% Zcv:=by
 refine mbK ["self","bit","post","own","is_duel"] F0 fun H Q nd hr h=>?_
 obtain⟨nw,p,nwf,S,ob,os,bt,rfl,tg,bd,st,dj,wf,hb,hu,q⟩:=h
 refine⟨_,(aD (aX (i:=3) nd rfl (Or.inl rfl) (bK dJ (aP Zj ZI (dv 0)) (aP Zj ZC (dv 0)) (fun _ _=>rfl))) (aD (aX (i:=4) nd rfl (Or.inl rfl) (fC a4D (aY cU rfl Zr bV (aA (bL Ze Zbq Zcb.1 hr.mo Zcb.2 .nil aJ (aP Zj ZR (dv 0))) aB)) (bB (v:= .int 9) rfl Zff ⟨_,rfl⟩) (aR _))) (aD (bF (aW dO (bQ Ze ZO Z7.1 hr.mo Z7.2 .nil aJ (aP Zj ZR (dv 0)) (aA (dv 1) aB)) bI (aR _)) (aF (aL (aQ Zo.1 hr.mo rfl Zo.2.2.2 Zo.2.2.1 Zo.2.1 .nil aJ (aA (dv 2) (aA iQ aB))))) aV) (aD (iV (bF (PW.pt (lN (aW dO (dv 3) aG (aR _)) (lN (aW dO (dv 1) aG (aR _)) (kO (cR (dv 4)))))) (aF (aL (cD (aA bI (aA (cG ZaG Zaf.1 hr.mo rfl Zdg Zaf.2 .nil aJ (aA (aP Zj ZR (dv 0)) (aA (aU cH (aP Zj ZC (dv 0)) aG) aB))) aB))))) aV)) (aD (bF (aW oX (dv 1) (dv 3) (aR _)) (aF (aL (aQ Zo.1 hr.mo rfl Zo.2.2.2 Zo.2.2.1 Zo.2.1 .nil aJ (aA (dv 2) (aA iQ aB))))) aV) (aD (bF (aW dO (aU cH (aP Zj ZC (dv 0)) aG) (aY cU rfl Zr bV (aA (aP Zj ZI (dv 0)) aB)) (aR _)) (aF (aL (cD (aA bI (aA (cG Zbj ZaC.1 hr.mo rfl Zeb ZaC.2 .nil aJ (aA (cG ZcF Zbi.1 hr.mo rfl Zfj Zbi.2 .nil aJ (aA (aP Za Z6 (dv 2)) aB)) (aA jH aB))) aB))))) aV) (aF (aL (cD (aA bI (aA (cG Zbk ZaD.1 hr.mo rfl Zec ZaD.2 .nil aJ (aA (aP Zj ZI (dv 0)) (aA (aP Zj ZR (dv 0)) (aA (aU cH (aP Zj ZC (dv 0)) aG) aB)))) aB))))))))))),?_⟩
 obtain⟨sa,on,al⟩:=id st
 cases en:S.now with
 |free k=>rw[en]at tg;cases tg
 | speaks n ds k=>
  rw[en]at sa
  obtain⟨dx,wa,r,st',ks,t0,e,ew,hR,nwk,o0,o1,o2,o3⟩:=sa
  have hn:=wf.now
  rw[en]at hn
  obtain⟨f1,f2,hk,f4⟩:=hn
  have wl_:=lL f1
  have wbits:=(lW f1).wbits
  rw[iU en]at q
  have eg:=getD_get hk
  rw[eg]at q
  obtain⟨dr,er⟩:=hR.rd
  obtain⟨dk,ek⟩:=hR.sk
  have hbits:bN ((wr n ds).take k++[bt]):=jX (tO wbits) (fun z hz=>by rw[Yi.mp hz];exact hb)
  refine⟨dx,_,.ref wa,e,rfl,dx,_,_,e,rfl,_,_,SqL.of ew,uP hk,?_⟩
  refine⟨dx,_,.ref r,e,rfl,⟨dr,_,er,rfl⟩,r,st',ks,_,t0,rfl,hR,fun pp H0 hpp g0 e0=>?_⟩
  refine⟨_,.inl (SqL.of e0),?_⟩
  rw[Ya]
  have hR0:=hR.same g0
  obtain⟨dr0,er0⟩:=hR0.rd
  have ee0:=g0 _ _ e
  refine⟨dx,_,.ref r,ee0,rfl,⟨dr0,_,er0,rfl⟩,r,st',ks,(wr n ds).take k,t0,bt,rfl,hR0,hbits,(by rw[Yu];omega),fun H1 hR1 b1=>?_⟩
  have n1:nw≠r:=qH "wire" e er rfl rfl
  have n2:nw≠st':=qH "wire" e ek rfl rfl
  have n3:nw≠ks:=a0Z e hR.kp
  have e1:=b1 _ _ n1 n2 n3 ee0
  have ew1:=b1 _ _ (Ne.symm (a0Z er ew)) (Ne.symm (a0Z ek ew)) nwk (g0 _ _ ew)
  have k01:=a1F hR0 b1 o1 o2 o3
  have k1:cL os H H1:=fun x v ex z=>k01 x v (g0 x v ex) z
  have bd1:=pG bd dj k1
  have k1':cL (Or2 ob os) H H1:=k1.le fun x hx=> .inr hx
  obtain⟨dr1,er1⟩:=hR1.rd
  conv=>whnf
  refine bR (fun c=>?_) (fun c=>?_)
  ·have c1:ans ((wr n ds).take k++[bt])="six":=YZ c
   rw[if_pos c1]at q
   exact⟨p,nwf,S,ob,true,rfl,bd1,fun t H' h=>q t H' (h.stp k1' bd1)⟩
  have c1:¬ ans ((wr n ds).take k++[bt])="six":=fun z=>c (Yn z)
  rw[if_neg c1]at q
  refine⟨fun σ' H'=>σ'= [some (.ref nw),some (.int bt),some (.ref p),some (.int (wr n ds)[k]),some (.bl (decide (((kp ((wr n ds).take k)).length:Int)<9)))]/\H'=H1/\¬ ((wr n ds)[k]=1/\bt=0/\(kp ((wr n ds).take k)).length<9),?_,?_⟩
  ·conv=>whnf
   refine bR (fun y1=>?_) (fun y1=>yW ⟨rfl,rfl,fun z=>dec_false y1 z.1⟩)
   conv=>whnf
   refine bR (fun y2=>?_) (fun y2=>yW ⟨rfl,rfl,fun z=>dec_false y2 z.2.1⟩)
   conv=>whnf
   refine bR (fun y3=>?_) (fun y3=>⟨rfl,rfl,fun z=>dec_false y3 (by have:=z.2.2;omega)⟩)
   have hl:(wr n ds)[k]=1/\bt=0/\(kp ((wr n ds).take k)).length<9:=⟨dec_true y1,dec_true y2,by have:=dec_true y3;omega⟩
   rw[if_pos hl]at q
   refine⟨dx,_,.ref r,e1,rfl,dx,_,_,e1,rfl,?_⟩
   refine fun x dx' hx hdx hne=>⟨x,dx',_,_,rfl,aC,fun H2 eH=>⟨rfl,aM rfl,fun t ht=>?_⟩⟩
   have g2:Same H1 H2:=by rw[eH];exact bJ hx hdx
   have el:((k:Nat):Int)+1=((((wr n ds).take k++[bt]).length:Nat):Int):=by rw[Yb,Yv,Yu];omega
   have e2:H2 x=some (.ins CA.reads dx' [("reader",.ref r),("many",.int ((((wr n ds).take k++[bt]).length:Nat):Int))]):=by rw[eH,<-el];exact aC
   have g3:=aK ht (.tup [.str "loses",.ref x])
   have g13:=g2.trans g3
   refine q t _ (Stp.go (os':=fun y=>y=x\/y=r\/y=st'\/y=ks) bd dj k1 g13 aC ⟨rfl,rfl,rfl,rfl,rfl,rfl⟩ ⟨⟨dx',r,st',ks,_,g3 _ _ e2,hR1.same g13,.inr (.inl rfl),.inr (.inr (.inl rfl)),.inr (.inr (.inr rfl))⟩,.inl rfl,?_⟩ ?_)
   ·rintro y (rfl | rfl | rfl | rfl)
    ·rw[g3 _ _ e2];simp
    ·rw[g13 _ _ er1];simp
    ·obtain⟨d,w⟩:=hR1.sk;rw[g13 _ _ w];simp
    ·rw[g13 _ _ hR1.kp];simp
   ·rintro y (rfl | rfl | rfl | rfl)
    ·exact .inr hx
    ·exact .inl o1
    ·exact .inl o2
    ·exact .inl o3
  rintro σ' H' ⟨rfl,rfl,nl⟩
  rw[if_neg nl]at q
  conv=>whnf
  refine bR (fun y=>?_) (fun y=>?_)
  ·have y1:¬ bt=(wr n ds)[k]:=fun z=>by
    have:(!decide (bt=(wr n ds)[k]))=true:=y
    rw[Yn z]at this;cases this
   rw[if_neg y1]at q
   exact⟨p,nwf,S,ob,true,rfl,bd1,fun t H' h=>q t H' (h.stp k1' bd1)⟩
  have y1:bt=(wr n ds)[k]:=YM fun z=>y (by
   show (!decide (bt=(wr n ds)[k]))=true
   rw[Yr z];rfl)
  rw[if_pos y1]at q
  have et:(wr n ds).take k++[bt]=(wr n ds).take (k+1):=by rw[Yh hk,y1]
  refine⟨dx,_,_,e1,rfl,dx,_,.ref wa,e1,rfl,_,.inl (SqL.of ew1),?_⟩
  rw[Ya]
  conv=>whnf
  refine bR (fun z=>?_) (fun z=>?_)
  ·have z1:((k:Nat):Int)+1=(((wr n ds).length:Nat):Int):=dec_true z
   rw[if_pos (by omega)]at q
   obtain⟨dp,ch,wl,ul,ct,ws,us,b⟩:=id bd1
   refine⟨dp,_,_,b.e,rfl,?_⟩
   refine fun tl dt htl hdt hne=>⟨tl,dt,S.vt,rfl,aC,fun H2 eH=>⟨rfl,?_⟩⟩
   have g2:Same H' H2:=by rw[eH];exact bJ htl hdt
   have e2:H2 tl=some (.ins CA.stail dt (tlF S.vt true 0 0)):=by rw[eH];exact aC
   clear eH
   refine fun x dx' hx hdx hne=>⟨x,dx',_,_,rfl,aC,fun H4 eH=>⟨rfl,aM rfl,fun t' ht'=>?_⟩⟩
   have g4:Same H2 H4:=by rw[eH];exact bJ hx hdx
   have e4:H4 x=some (.ins CA.intail dx' [("tail",.ref tl),("found",.non)]):=by rw[eH];exact aC
   clear eH
   have g5:=aK ht' (.tup [.str "",.ref x])
   have g35:=g4.trans g5
   refine q t' _ (Stp.go (os':=fun y=>y=x\/y=tl) bd dj k1 (g2.trans g35) aC ⟨rfl,rfl,rfl,rfl,rfl,rfl⟩ ⟨⟨dx',tl,g5 _ _ e4,⟨CA.stail,dt,.inr rfl,g35 _ _ e2⟩,.inr rfl⟩,.inl rfl,?_⟩ ?_)
   ·rintro y (rfl | rfl)
    ·rw[g5 _ _ e4];simp
    ·rw[g35 _ _ e2];simp
   ·rintro y (rfl | rfl)
    ·exact .inr (g2.none hx)
    ·exact .inr htl
  ·have z1:¬ ((k:Nat):Int)+1=(((wr n ds).length:Nat):Int):=dec_false z
   rw[if_neg (by omega)]at q
   refine⟨dx,_,.ref wa,e1,rfl,dx,_,.ref r,e1,rfl,dx,_,_,e1,rfl,?_⟩
   refine fun x dx' hx hdx hne=>⟨x,dx',_,_,_,rfl,aC,fun H2 eH=>⟨rfl,aM rfl,fun t ht=>?_⟩⟩
   have g2:Same H' H2:=by rw[eH];exact bJ hx hdx
   have e2:H2 x=some (.ins CA.speaks dx' [("wire",.ref wa),("reader",.ref r),("many",.int ((k+1:Nat):Int))]):=by rw[eH];exact aC
   clear eH
   have g3:=aK ht (.tup [.str "",.ref x])
   have g13:=g2.trans g3
   rw[et]at hR1 er1
   refine q t _ (Stp.go (os':=fun y=>y=x\/y=wa\/y=r\/y=st'\/y=ks) bd dj k1 g13 aC ⟨rfl,rfl,rfl,rfl,rfl,rfl⟩ ⟨⟨dx',wa,r,st',ks,_,g3 _ _ e2,g13 _ _ ew1,hR1.same g13,nwk,.inr (.inl rfl),.inr (.inr (.inl rfl)),.inr (.inr (.inr (.inl rfl))),.inr (.inr (.inr (.inr rfl)))⟩,.inl rfl,?_⟩ ?_)
   ·rintro y (rfl | rfl | rfl | rfl | rfl)
    ·rw[g3 _ _ e2];simp
    ·rw[g13 _ _ ew1];simp
    ·rw[g13 _ _ er1];simp
    ·obtain⟨d,w⟩:=hR1.sk;rw[g13 _ _ w];simp
    ·rw[g13 _ _ hR1.kp];simp
   ·rintro y (rfl | rfl | rfl | rfl | rfl)
    ·exact .inr hx
    ·exact .inl o0
    ·exact .inl o1
    ·exact .inl o2
    ·exact .inl o3
 |reads h=>rw[en]at tg;cases tg
 |tlS v c=>rw[en]at tg;cases tg
 |tlR n ds v c=>rw[en]at tg;cases tg
 |flag l m=>rw[en]at tg;cases tg
 |settles m=>rw[en]at tg;cases tg
 |rests l=>rw[en]at tg;cases tg
 |off  =>rw[en]at tg;cases tg
variable (Zcp:MB P w K mg base (CX0) 6 ZdS ZhS ["self","bit","post"] (cP CA 3))
include ZcQ ZbA Zg Zf Zd Zs Za Zau ZbU ZaK Zbo ZaZ ZaQ ZB Zat Zh Zde ZcG Z2 ZaH Zb9 Zo Zbv in
theorem ZkL (F0:Fun K "step" "InTail.step" Zic ZdS ZhS):type_of% Zcp:=by
 refine mbK ["self","bit","post","answer"] F0 fun H Q nd hr h=>?_
 obtain⟨nw,p,nwf,S,ob,os,bt,rfl,tg,bd,st,dj,wf,hb,hu,q⟩:=h
 refine⟨_,(aD (aX (i:=3) nd rfl (Or.inl rfl) (qJ Zde.1 hr.mo Zde.2 .nil aJ (aP Zs ZB (dv 0)) (aA (dv 1) aB))) (aD (bF (aW dO (dv 3) bI (aR _)) (aF (aL (cD (aA bI (aA (dv 0) aB))))) aV) (aD (bF (aW dO (dv 3) bI (aR _)) (aF (aL (aQ Zo.1 hr.mo rfl Zo.2.2.2 Zo.2.2.1 Zo.2.1 .nil aJ (aA (dv 2) (aA (fL (aP Zs ZB (dv 0))) aB))))) aV) (aD (bF (aW dO (dv 3) bI (aR _)) (aF (aL (aQ Zbv.1 hr.mo rfl Zbv.2.2.2 Zbv.2.2.1 Zbv.2.1 .nil aJ (aA (dv 2) (aA (fL (aP Zs ZB (dv 0))) aB))))) aV) (aD (bA (bL Zd ZbU ZcG.1 hr.mo ZcG.2 .nil aJ (aP Za Zh (dv 2)))) (aD (bF (cR (fL (aP Zs ZB (dv 0)))) (aD (bA (bL Za ZaK ZaH.1 hr.mo ZaH.2 .nil aJ (dv 2))) (aF (aL (cD (aA bI (aA (cG Zau Z2.1 hr.mo rfl ZcQ Z2.2 .nil aJ (aA (bB (v:= .int 3) rfl ZbA ⟨_,rfl⟩) aB)) aB)))))) aV) (aD (bA (bQ Za Zbo Zb9.1 hr.mo Zb9.2 .nil aJ (dv 2) (aA (aP Zs Zat (dv 0)) aB))) (aF (aL (cD (aA bI (aA (cG Zau Z2.1 hr.mo rfl ZcQ Z2.2 .nil aJ (aA (bB (v:= .int 3) rfl ZbA ⟨_,rfl⟩) aB)) aB)))))))))))),?_⟩
 obtain⟨sa,on,al⟩:=id st
 cases en:S.now with
 |free k=>rw[en]at tg;cases tg
 |speaks n ds k=>rw[en]at tg;cases tg
 |reads h=>rw[en]at tg;cases tg
 | tlS v c=>
  rw[en]at sa
  obtain⟨dx,tl,  e,ht,o1⟩:=sa
  obtain⟨C,dt,hC,e0⟩:=id ht
  have hc:=jR Zg Zf hC
  have hm:=rQ ZaZ ZaQ hC
  rw[mV en]at q
  refine⟨dx,_,.ref tl,e,rfl,⟨C,dt,_,e0,hc.cls,hm,rfl⟩,tl,S.vt,true,v,c,bt,rfl,ht,fun H1 ht1 b1=>?_⟩
  have ntl:nw≠tl:=qH "found" e e0 rfl rfl
  have e1:=b1 _ _ ntl e
  have k1:=a1E ht b1 o1
  have bd1:=pG bd dj k1
  have k1':cL (Or2 ob os) H H1:=k1.le fun x hx=> .inr hx
  obtain⟨C1,dt1,hC1,et1⟩:=id ht1
  have hc1:=jR Zg Zf hC1
  have al1:∀x,os x->H1 x≠none:=fun x hx=>by
   by_cases z:x=tl
   ·rw[z,et1];simp
   ·cases ex:H x with
    |none=>exact absurd ex (al x hx)
    |some u=>rw[b1 x u z ex];simp
  have hw:=wf.now
  rw[en]at hw
  have hw1:S.wt≠ []:=hw
  generalize cF S.vt true v c bt=an at q ⊢
  conv=>whnf
  refine bR (fun y=>?_) (fun y=>?_)
  ·have y1:an="more":=YZ y
   rw[if_pos y1]at q
   refine⟨aM rfl,fun t ht'=>?_⟩
   have g2:=aK ht' (.tup [.str "",.ref nw])
   refine q t _ (Stp.go (os':=os) bd dj k1 g2 aC ⟨rfl,rfl,rfl,rfl,rfl,rfl⟩ ⟨⟨dx,tl,g2 _ _ e1,ht1.same g2,o1⟩,on,fun x hx=>?_⟩ fun x hx=> .inl hx)
   cases ex:H1 x with
   |none=>exact absurd ex (al1 x hx)
   |some u=>rw[g2 x u ex];simp
  have y1:¬ an="more":=fun z=>y (Yn z)
  rw[if_neg y1]at q
  conv=>whnf
  refine bR (fun y=>?_) (fun y=>?_)
  ·have y2:an="fault":=YZ y
   rw[if_pos y2]at q
   exact⟨dx,_,.ref tl,e1,rfl,C1,dt1,_,_,et1,hc1.cls,hc1.n2,rfl,p,nwf,S,ob,true,rfl,bd1,fun t H' h=>q t H' (h.stp k1' bd1)⟩
  have y2:¬ an="fault":=fun z=>y (Yn z)
  rw[if_neg y2]at q
  conv=>whnf
  refine bR (fun y=>?_) (fun y=>?_)
  ·have y3:an="refused":=YZ y
   rw[if_pos y3]at q
   exact⟨dx,_,.ref tl,e1,rfl,C1,dt1,_,_,et1,hc1.cls,hc1.n2,rfl,p,nwf,S,ob,true,rfl,bd1,fun t H' h=>q t H' (h.stp k1' bd1)⟩
  have y3:¬ an="refused":=fun z=>y (Yn z)
  rw[if_neg y3]at q
  obtain⟨dp,ch,wl,ul,ct,ws,us,b⟩:=id bd1
  obtain⟨dc,ec⟩:=id b.et
  refine⟨dp,_,.ref ct,b.e,rfl,⟨dc,_,ec,rfl⟩,ct,S.tot,rfl,b.et,fun H2 c2 k2=>?_⟩
  obtain⟨b2,kk2⟩:=Bd.count b c2 k2
  have nct:∀x,os x->x≠ct:=fun x hx z=>dj ct b.ot (z▸hx)
  have e2:H2 nw=some (.ins CA.intail dx [("tail",.ref tl),("found",.non)]):=(k2 _ (nct _ on)).trans e1
  have et2:=(k2 _ (nct _ o1)).trans et1
  generalize hn2:mvd S.tot (-1)=n2 at b2 q
  refine⟨dx,_,.ref tl,e2,rfl,C1,dt1,_,_,et2,hc1.cls,hc1.n2,rfl,?_⟩
  obtain⟨dp2,ch2,wl2,ul2,ct2,ws2,us2,b22⟩:=id b2
  refine⟨⟨dp2,_,b22.e,rfl⟩,p,nwf,{ S with tot:=n2 },ob,rfl,b2,hw1,fun H3 b3 k3=>?_⟩
  have k13:cL (Or2 ob os) H H3:=fun x u ex z=>k3 x u (kk2 x u (k1' x u ex z) (z.imp_left fun y w=>y (.inl w))) (z.imp_left fun y w=>y (.inl w))
  refine fun x dx' hx hdx hne=>⟨x,dx',_,rfl,aC,fun H4 eH=>⟨rfl,aM rfl,fun t' ht'=>?_⟩⟩
  have g4:Same H3 H4:=by rw[eH];exact bJ hx hdx
  have e4:H4 x=some (.ins CA.rests dx' [("left",.int ((3:Nat):Int))]):=by rw[eH];exact aC
  clear eH
  have g5:=aK ht' (.tup [.str "done",.ref x])
  refine q t' _ (Stp.go2 (b3.now rfl rfl rfl rfl rfl rfl) k13 (g4.trans g5) aC (gM (g5 _ _ e4) ⟨dx',g5 _ _ e4⟩) (fun y hy=>?_) ?_)
  ·have hy':y=x:=hy
   rw[hy'];exact hx
  ·exact fun y hy=> .inl (.inl hy)
 | tlR n ds v c=>
  rw[en]at sa
  obtain⟨dx,tl,tf,df,e,ht,etf,edf,o1,o2⟩:=sa
  obtain⟨C,dt,hC,e0⟩:=id ht
  have hc:=jR Zg Zf hC
  have hm:=rQ ZaZ ZaQ hC
  rw[mW en]at q
  refine⟨dx,_,.ref tl,e,rfl,⟨C,dt,_,e0,hc.cls,hm,rfl⟩,tl,S.vt,false,v,c,bt,rfl,ht,fun H1 ht1 b1=>?_⟩
  have ntl:nw≠tl:=qH "found" e e0 rfl rfl
  have e1:=b1 _ _ ntl e
  have k1:=a1E ht b1 o1
  have bd1:=pG bd dj k1
  have k1':cL (Or2 ob os) H H1:=k1.le fun x hx=> .inr hx
  obtain⟨C1,dt1,hC1,et1⟩:=id ht1
  have hc1:=jR Zg Zf hC1
  have etf1:=k1.tup etf
  have ndf:df≠tl:=fun z=>by rw[z,e0]at edf;cases edf
  have edf1:=b1 _ _ ndf edf
  have al1:∀x,os x->H1 x≠none:=fun x hx=>by
   by_cases z:x=tl
   ·rw[z,et1];simp
   ·cases ex:H x with
    |none=>exact absurd ex (al x hx)
    |some u=>rw[b1 x u z ex];simp
  generalize cF S.vt false v c bt=an at q ⊢
  conv=>whnf
  refine bR (fun y=>?_) (fun y=>?_)
  ·have y1:an="more":=YZ y
   rw[if_pos y1]at q
   refine⟨aM rfl,fun t ht'=>?_⟩
   have g2:=aK ht' (.tup [.str "",.ref nw])
   refine q t _ (Stp.go (os':=os) bd dj k1 g2 aC ⟨rfl,rfl,rfl,rfl,rfl,rfl⟩ ⟨⟨dx,tl,tf,df,g2 _ _ e1,ht1.same g2,g2 _ _ etf1,g2 _ _ edf1,o1,o2⟩,on,fun x hx=>?_⟩ fun x hx=> .inl hx)
   cases ex:H1 x with
   |none=>exact absurd ex (al1 x hx)
   |some u=>rw[g2 x u ex];simp
  have y1:¬ an="more":=fun z=>y (Yn z)
  rw[if_neg y1]at q
  conv=>whnf
  refine bR (fun y=>?_) (fun y=>?_)
  ·have y2:an="fault":=YZ y
   rw[if_pos y2]at q
   exact⟨dx,_,.ref tl,e1,rfl,C1,dt1,_,_,et1,hc1.cls,hc1.n2,rfl,p,nwf,S,ob,false,rfl,bd1,fun t H' h=>q t H' (h.stp k1' bd1)⟩
  have y2:¬ an="fault":=fun z=>y (Yn z)
  rw[if_neg y2]at q
  conv=>whnf
  refine bR (fun y=>?_) (fun y=>?_)
  ·have y3:an="refused":=YZ y
   rw[if_pos y3]at q
   exact⟨dx,_,.ref tl,e1,rfl,C1,dt1,_,_,et1,hc1.cls,hc1.n2,rfl,p,nwf,S,ob,false,rfl,bd1,fun t H' h=>q t H' (h.stp k1' bd1)⟩
  have y3:¬ an="refused":=fun z=>y (Yn z)
  rw[if_neg y3]at q
  obtain⟨dp,ch,wl,ul,ct,ws,us,b⟩:=id bd1
  obtain⟨dc,ec⟩:=id b.et
  refine⟨dp,_,.ref ct,b.e,rfl,⟨dc,_,ec,rfl⟩,ct,S.tot,rfl,b.et,fun H2 c2 k2=>?_⟩
  obtain⟨b2,kk2⟩:=Bd.count b c2 k2
  have nct:∀x,os x->x≠ct:=fun x hx z=>dj ct b.ot (z▸hx)
  have e2:H2 nw=some (.ins CA.intail dx [("tail",.ref tl),("found",.ref tf)]):=(k2 _ (nct _ on)).trans e1
  have et2:=(k2 _ (nct _ o1)).trans et1
  generalize hn2:mvd S.tot (-1)=n2 at b2 q
  refine⟨dx,_,.ref tl,e2,rfl,C1,dt1,_,_,et2,hc1.cls,hc1.n2,rfl,?_⟩
  obtain⟨dp2,ch2,wl2,ul2,ct2,ws2,us2,b22⟩:=id b2
  refine⟨⟨dp2,_,b22.e,rfl⟩,dx,_,.ref tf,e2,rfl,p,nwf,{ S with tot:=n2 },ob,tf,df,n,ds,rfl,b2,kk2.tup etf1,(k2 _ (nct _ o2)).trans edf1,fun z=>dj df z o2,hu,fun H3 b3 k3=>?_⟩
  have k13:cL (Or2 ob os) H H3:=fun x u ex z=>k3 x u (kk2 x u (k1' x u ex z) (z.imp_left fun y w=>y (.inl w))) (z.imp_left fun y w=>y (.inl w))
  refine fun x dx' hx hdx hne=>⟨x,dx',_,rfl,aC,fun H4 eH=>⟨rfl,aM rfl,fun t' ht'=>?_⟩⟩
  have g4:Same H3 H4:=by rw[eH];exact bJ hx hdx
  have e4:H4 x=some (.ins CA.rests dx' [("left",.int ((3:Nat):Int))]):=by rw[eH];exact aC
  clear eH
  have g5:=aK ht' (.tup [.str "takes",.ref x])
  refine q t' _ (Stp.go2 (b3.now rfl rfl rfl rfl rfl rfl) k13 (g4.trans g5) aC (gM (g5 _ _ e4) ⟨dx',g5 _ _ e4⟩) (fun y hy=>?_) ?_)
  ·have hy':y=x:=hy
   rw[hy'];exact hx
  ·rintro y (hy | hy)
   ·exact .inl (.inl hy)
   ·have hy':y=df:=hy
    rw[hy'];exact .inl (.inr o2)
 |flag l m=>rw[en]at tg;cases tg
 |settles m=>rw[en]at tg;cases tg
 |rests l=>rw[en]at tg;cases tg
 |off  =>rw[en]at tg;cases tg
variable (Zc9:MB P w K mg base (CX0) 4 Ze8 Zjq ["self"] (a5P CA))
include ZM Zj ZF Zs Zt ZT ZY Za Zce Zaw ZbN ZbZ ZbI Zbc Zbr Zb1 ZcB Zaa Za2 Zcu ZcM Zco ZbB Zcc ZcO Zdu in
theorem ZlM (F0:Fun K "says" "Post.says" ZjN Ze8 Zjq):type_of% Zc9:=by
 refine mbK ["self"] F0 fun H Q nd hr h=>?_
 obtain⟨p,S,o,rfl,⟨nw,ob,os,bd,st,dj,wf,inc,al⟩,q⟩:=h
 refine⟨_,(aF (aL (wI (R:=fun C sp=>(C=CA.free/\sp=cQ CA 0)\/(C=CA.speaks/\sp=cQ CA 1)\/(C=CA.reads/\sp=cQ CA 2)\/(C=CA.intail/\sp=cQ CA 3)\/(C=CA.flag/\sp=cQ CA 4)\/(C=CA.settles/\sp=cQ CA 5)\/(C=CA.rests/\sp=cQ CA 6)\/(C=CA.off/\sp=cQ CA 7)) (k:=3) (by
  rintro C sp (⟨rfl,rfl⟩ | ⟨rfl,rfl⟩ | ⟨rfl,rfl⟩ | ⟨rfl,rfl⟩ | ⟨rfl,rfl⟩ | ⟨rfl,rfl⟩ | ⟨rfl,rfl⟩ | ⟨rfl,rfl⟩)
  ·exact⟨_,_,_,ZM,Zaw,Za2.1.mono (by decide),Za2.2⟩
  ·exact⟨_,_,_,Zj,ZbN,Zcu.1.mono (by decide),Zcu.2⟩
  ·exact⟨_,_,_,ZF,ZbZ,ZcM.1.mono (by decide),ZcM.2⟩
  ·exact⟨_,_,_,Zs,ZbI,Zco.1.mono (by decide),Zco.2⟩
  ·exact⟨_,_,_,Zt,Zbc,ZbB.1.mono (by decide),ZbB.2⟩
  ·exact⟨_,_,_,ZT,Zbr,Zcc.1.mono (by decide),Zcc.2⟩
  ·exact⟨_,_,_,ZY,Zb1,ZcO.1.mono (by decide),ZcO.2⟩
  ·exact⟨_,_,_,Zce,ZcB,Zdu.1.mono (by decide),Zdu.2⟩) hr.mo aJ (aP Za Zaa (dv 0)) (aA (dv 0) aB)))),?_⟩
 obtain⟨dp,ch,wl,ul,ct,ws,us,b⟩:=id bd
 obtain⟨C,dd,fs,hS,⟨l1,l2,l3⟩,hd⟩:=st.disp
 exact⟨dp,_,.ref nw,b.e,rfl,C,dd,_,_,hS,l1,hd (cQ CA),nw,p,nw,S,ob,os,rfl,rfl,bd,st,wf,q⟩
variable (Zc7:MB P w K mg base (CX0) 9 Ze6 Zjo ["self","bit"] (a5Q CA))
include ZaA ZL Zw ZM Zj ZF Zs Zt ZT ZY Za Zce Zcg ZbO Zb0 ZbJ Zbd Zbs Zb2 ZcC Zaa Zdv ZbC Zcd ZcP Zc5 ZcN Zcv Zcp in
theorem ZlK (F0:Fun K "hear" "Post.hear" ZjL Ze6 Zjo):type_of% Zc7:=by
 refine mbK ["self","bit","told"] F0 fun H Q nd hr h=>?_
 obtain⟨p,S,o,bt,rfl,⟨nw,ob,os,bd,st,dj,wf,inc,al⟩,hb,hu,q⟩:=h
 refine⟨_,(aD (aX (i:=2) nd rfl (Or.inl rfl) (wI (R:=fun C sp=>(C=CA.free/\sp=cP CA 0)\/(C=CA.speaks/\sp=cP CA 1)\/(C=CA.reads/\sp=cP CA 2)\/(C=CA.intail/\sp=cP CA 3)\/(C=CA.flag/\sp=cP CA 4)\/(C=CA.settles/\sp=cP CA 5)\/(C=CA.rests/\sp=cP CA 6)\/(C=CA.off/\sp=cP CA 7)) (k:=8) (by
  rintro C sp (⟨rfl,rfl⟩ | ⟨rfl,rfl⟩ | ⟨rfl,rfl⟩ | ⟨rfl,rfl⟩ | ⟨rfl,rfl⟩ | ⟨rfl,rfl⟩ | ⟨rfl,rfl⟩ | ⟨rfl,rfl⟩)
  ·exact⟨_,_,_,ZM,Zcg,Zc5.1.mono (by decide),Zc5.2⟩
  ·exact⟨_,_,_,Zj,ZbO,Zcv.1.mono (by decide),Zcv.2⟩
  ·exact⟨_,_,_,ZF,Zb0,ZcN.1.mono (by decide),ZcN.2⟩
  ·exact⟨_,_,_,Zs,ZbJ,Zcp.1.mono (by decide),Zcp.2⟩
  ·exact⟨_,_,_,Zt,Zbd,ZbC.1.mono (by decide),ZbC.2⟩
  ·exact⟨_,_,_,ZT,Zbs,Zcd.1.mono (by decide),Zcd.2⟩
  ·exact⟨_,_,_,ZY,Zb2,ZcP.1.mono (by decide),ZcP.2⟩
  ·exact⟨_,_,_,Zce,ZcC,Zdv.1.mono (by decide),Zdv.2⟩) hr.mo aJ (aP Za Zaa (dv 0)) (aA (dv 1) (aA (dv 0) aB)))) (aD (bT Za Zaa (dv 0) (bK dX (dv 2) aG (fun _ _=>rfl))) (aF (aL (bK dX (dv 2) aG (fun _ _=>rfl)))))),?_⟩
 obtain⟨dp,ch,wl,ul,ct,ws,us,b⟩:=id bd
 obtain⟨C,dd,fs,hS,⟨l1,l2,l3⟩,hd⟩:=st.disp
 refine⟨dp,_,.ref nw,b.e,rfl,C,dd,_,_,hS,l2,hd (cP CA),nw,p,nw,S,ob,os,bt,rfl,rfl,bd,st,dj,wf,hb,hu,fun t H' hs=>?_⟩
 obtain⟨nw',ob',os',et,b',s',dj',mv⟩:=hs
 obtain⟨dp',ch',wl',ul',ct',ws',us',bb⟩:=id b'
 refine⟨_,_,SqT.of et,rfl,dp',_,bb.e,(show 6<1000 by decide),?_⟩
 obtain⟨hp1,hp2⟩:=a3M (A:=CA) wf hb b' s' dj' bb
 have et':upd H' p (.ins CA.post dp' (pF ch' (bH S bt).2.vt wl' ul' ct' nw')) t=some (.tup [.str (bH S bt).1,.ref nw']):=by rw[aH (fun z=>by rw[z,bb.e]at et;cases et)];exact et
 exact⟨_,_,SqT.of et',rfl,q _ (Or2 ob' os') hp1 ⟨fun x v ex z=>hp2 x v (mv.1 x v ex (z.imp_left fun y w=>y (inc x w))) (z.imp_left fun y w=>y (by have w':x=p:=w;rw[w'];exact inc p (.inl bd.op))),fun x hx=>(mv.2 x hx).imp_left (inc x)⟩⟩
variable (Zn:MB P w K mg base (CX0) 1 Zdz Zhf ["self","post"] (a5I Zl CA ZbP))
include ZK ZZ Zr Zb ZG in
theorem Zkr (F0:Fun K "post_at" "Rail.post_at" Zht Zdz Zhf):type_of% Zn:=by
 refine mbK ["self","post"] F0 fun H Q nd hr h=>?_
 obtain⟨r,R,o,w,k,rfl,hR,q1,q2⟩:=h
 refine⟨_,(aD (bF (gW (wF xV a4D aG (dv 1) (aY cU rfl Zr bV (aA (aP Zb ZG (dv 0)) aB)))) (aF fB) aV) (aF (aL (bK dJ (aP Zb ZG (dv 0)) (dv 1) (fun _ _=>rfl))))),?_⟩
 conv=>whnf
 refine bR (fun c=>?_) (fun c=>?_)
 ·have c1:0<=k:=dec_true c
  refine⟨w.dx,_,.ref w.PL,hR.er,rfl,_,.inl (SqL.of hR.ePL),?_⟩
  rw[Ya,hR.pl]
  conv=>whnf
  refine bR (fun d=>?_) (fun d=>?_)
  ·have d1:¬ k<((R.ps.length:Nat):Int):=fun z=>by
    have d2:(!decide (k<((R.ps.length:Nat):Int)))=true:=d
    rw[Yn z]at d2
    cases d2
   exact(q2 (fun z=>d1 z.2) _ (Same.refl _))
  ·have d1:k<((R.ps.length:Nat):Int):=YM fun z=>d (by
    show (!decide (k<((R.ps.length:Nat):Int)))=true
    rw[Yr z];rfl)
   obtain⟨i,rfl⟩:=YX c1
   have hl:i<w.ps.length:=by rw[hR.pl];omega
   have hp:w.ps[i]? =some w.ps[i]:=Yc hl
   exact⟨w.dx,_,.ref w.PL,hR.er,rfl,_,_,SqL.of hR.ePL,cO (j:=i) (by rw[Yk,hp];rfl),q1 i _ rfl hp⟩
 ·have c1:¬ 0<=k:=dec_false c
  exact(q2 (fun z=>c1 z.1) _ (Same.refl _))
variable (Zdb:MB P w K mg base (CX0) 9 Zfb Zjt ["self","choices","votes"] (a5K Zl CA ZbP))
include Zcw ZK ZZ ZeJ Zkn Zr Zb ZeF ZG Zaj Zv ZW ZQ ZP Zc8 in
theorem ZlP (F0:Fun K "__init__" "Rail.__init__" ZjQ Zfb Zjt):type_of% Zdb:=by
 refine mbK ["self","choices","votes"] F0 fun H Q nd hr h=>?_
 obtain⟨a,dx,cl,v,ms,rfl,ea,hC,hl,q1,q2⟩:=h
 refine⟨_,(aD (bF (gW (wF xV xV aG (aY cU rfl Zr bV (aA (dv 1) aB)) (bB (v:= .int 5) rfl ZeJ ⟨_,rfl⟩))) (aF fB) aV) (aD (bT Zb ZG (dv 0) (fK rfl (ix:=[2]) (cY (dv 1)) (fun C fp s0 H0 at0=>dU) (fun C fp s0 H0 at0=>(cG ZeF Zc8.1 hr.mo rfl Zkn Zc8.2 .nil aJ (aA (dv 0) (aA (dv 1) aB)))) rfl rfl (by rfl) (show ([".0","choice","votes"]:List Str).Nodup by decide +kernel))) (aD (bT Zb Zaj (dv 0) a6V) (aD (bT Zb Zv (dv 0) (cZ aB)) (aD (bT Zb ZW (dv 0) (fK rfl (ix:=[]) (cY (dv 1)) (fun C fp s0 H0 at0=>dU) (fun C fp s0 H0 at0=>(cZ aB)) rfl rfl (by rfl) (show ([".0","choice"]:List Str).Nodup by decide +kernel))) (aD (bT Zb ZQ (dv 0) (fK rfl (ix:=[]) (cY (dv 1)) (fun C fp s0 H0 at0=>dU) (fun C fp s0 H0 at0=>(cZ aB)) rfl rfl (by rfl) (show ([".0","choice"]:List Str).Nodup by decide +kernel))) (aF (bT Zb ZP (dv 0) (cZ aB))))))))),?_⟩
 obtain⟨ts,ecl,tl,tt⟩:=hC
 have hcla:cl≠a:=fun z=>by rw[z,ea]at ecl;cases ecl
 have hta:∀(i:Nat)(t:Addr)(m:Int×Int),ts[i]? =some t->ms[i]? =some m->t≠a:=fun i t m h1 h2 z=>by have:=tt i t m h1 h2;rw[z,ea]at this;cases this
 refine⟨_,.inl (SqL.of ecl),?_⟩
 rw[Ya,tl]
 conv=>whnf
 refine bR (fun c=>?_) (fun c=>?_)
 rotate_left
 ·have c1:¬ (1:Int)<=((ms.length:Nat):Int):=dec_false c
  exact(q2 (fun z=>c1 (by have:=z.1.1;omega)) _ fun x u _ h=>h)
 have c1:(1:Int)<=((ms.length:Nat):Int):=dec_true c
 conv=>whnf
 refine bR (fun d=>?_) (fun d=>?_)
 ·have d1:¬ ((ms.length:Nat):Int)<=5:=fun z=>by
   have d2:(!decide (((ms.length:Nat):Int)<=5))=true:=d
   rw[Yn z]at d2
   cases d2
  exact(q2 (fun z=>d1 (by have:=z.1.2;omega)) _ fun x u _ h=>h)
 have d1:((ms.length:Nat):Int)<=5:=YM fun z=>d (by
  show (!decide (((ms.length:Nat):Int)<=5))=true
  rw[Yr z];rfl)
 have l5:ms.length<=5:=by omega
 refine⟨⟨_,SqL.of ecl⟩,eE (xs:=ts.map V.ref) (fun i ys H'=>∃(ps:List Addr)(op:Own),ys=ps.map V.ref/\ps.length=i/\Mk0 CA H a H' [(a,.ins Zl dx [])] ps ((ms.take i).map fun m=>S0 m.1.toNat m.2.toNat v.toNat) op/\∀m∈ms.take i,a3Z m.1 m.2 v) ?_ ?_ ?_ ?_ ?_⟩
 ·rintro i ys H' hi ⟨ps,op,rfl,hp,_⟩
  rw[Ya]at hi ⊢
  exact bD (by omega)
 ·exact⟨[],_,rfl,rfl,Mk0.base ea,fun m hm=>by simp at hm⟩
 ·rintro i ys H' hi ⟨ps,op,rfl,hp,mk,_⟩
  exact SqL.of (mk.kp _ _ hcla ecl)
 ·rintro i x ys H' hx ⟨ps,op,rfl,hp_,mk,hok⟩
  rw[Yk]at hx
  obtain⟨t,ht,rfl⟩:=YK.mp hx
  have hil:i<ms.length:=by rw[<-tl];exact(Yg.mp ht).1
  have hm:ms[i]? =some ms[i]:=Yc hil
  have et:=mk.kp _ _ (hta i t _ ht hm) (tt i t _ ht hm)
  have tk:ms.take (i+1)=ms.take i++[ms[i]]:=Yh hil
  conv=>whnf
  refine fun p dp hp hdp hne=>⟨p,dp,t,_,_,v,rfl,aC,(by rw[aH (aO et hp),aH (aO et hdp)];exact et),fun ok H5 o hP hin hk=>⟨rfl,ps++[p],Or2 op o,by rw[Yj];rfl,by rw[Yb,hp_];rfl,?_,?_⟩,fun no H5 hk=>?_⟩
  ·rw[tk,Yj]
   exact mk.post hp hdp hP hin hk
  ·rw [tk]
   intro m hm'
   rcases Yy.mp hm' with z | z
   ·exact hok m z
   ·rw[Yi]at z
    rw[z];exact ok
  ·refine q2 (fun z=>no (z.2 _ (YN hil))) H5 fun x u hx h=>?_
   have h':=mk.kp x u hx h
   exact hk x u (aO h' hp) (by rw[aH (aO h' hp),aH (aO h' hdp)];exact h')
 rintro ys H1 ⟨ps,op,rfl,hp_,mk,hok⟩ PL hPL
 rw[Ya,tl,Yl (Yd _)]at mk hok
 have mk1:=Mk0.ins (L1:=[(a,.ins Zl dx [])]) (L2:=[]) (v:= .lst (ps.map V.ref)) (by simpa using mk) hPL
 refine⟨dx,_,mk1.cs.at_ 0 _ rfl,by decide,?_⟩
 have nI:∀{C d:Addr}{fs:List (Str×V)},¬ isT (.ins C d fs):=fun ⟨_,z⟩=>by cases z
 have mk2:=mk1.put (v':= .ins Zl dx (fG "posts" (.ref PL) [])) nI
 generalize upd (upd H1 PL _) a _=H2 at mk2
 intro OW hOW
 have mk3:=Mk0.ins (L1:=(a,.ins Zl dx [("posts",.ref PL)])::(PL,.lst (ps.map V.ref))::[]) (L2:=[]) (v:= .dK []) mk2 hOW
 refine⟨dx,_,mk3.cs.at_ 0 _ rfl,(show 1<1000 by decide),?_⟩
 have mk4:=mk3.put (v':= .ins Zl dx (fG "owners" (.ref OW) [("posts",.ref PL)])) nI
 generalize upd (upd H2 OW _) a _=H3 at mk4
 refine⟨aM rfl,fun BO hBO=>?_⟩
 have mk5:=Mk0.ins (L1:=(a,.ins Zl dx [("posts",.ref PL),("owners",.ref OW)])::(PL,.lst (ps.map V.ref))::(OW,.dK [])::[]) (L2:=[]) (v:= .lst []) mk4 hBO
 refine⟨dx,_,mk5.cs.at_ 0 _ rfl,(show 2<1000 by decide),?_⟩
 have mk6:=mk5.put (v':= .ins Zl dx (fG "borne" (.ref BO) [("posts",.ref PL),("owners",.ref OW)])) nI
 generalize upd (upd H3 BO _) a _=H4 at mk6
 obtain⟨o3,ho3⟩:∃o3:HO,o3= .ins Zl dx [("posts",.ref PL),("owners",.ref OW),("borne",.ref BO)]:=⟨_,rfl⟩
 have mk6':Mk0 CA H a H4 ((a,o3)::(PL,.lst (ps.map V.ref))::(OW,.dK [])::(BO,.lst [])::[]) ps (ms.map fun m=>S0 m.1.toNat m.2.toNat v.toNat) op:=by rw[ho3];exact mk6
 clear mk mk1 mk2 mk3 mk4 mk5 mk6
 refine⟨⟨_,SqL.of (mk6'.kp _ _ hcla ecl)⟩,eE (xs:=ts.map V.ref) (fun i ys H'=>∃sas:List Addr,ys=sas.map V.ref/\sas.length=i/\Mk0 CA H a H' ((a,o3)::(PL,.lst (ps.map V.ref))::(OW,.dK [])::(BO,.lst [])::lsC sas (List.replicate i [])) ps (ms.map fun m=>S0 m.1.toNat m.2.toNat v.toNat) op) ?_ ?_ ?_ ?_ ?_⟩
 ·rintro i ys H' hi ⟨sas,rfl,hp,_⟩
  rw[Ya]at hi ⊢
  exact bD (by omega)
 ·exact⟨[],rfl,rfl,mk6'⟩
 ·rintro i ys H' hi ⟨sas,rfl,hp,mk⟩
  exact SqL.of (mk.kp _ _ hcla ecl)
 ·rintro i x ys H' hx ⟨sas,rfl,hp,mk⟩
  conv=>whnf
  refine⟨aM rfl,fun s1 hs1=>⟨sas++[s1],by rw[Yj];rfl,by rw[Yb,hp];rfl,?_⟩⟩
  rw[wL i hp]
  exact Mk0.ins (L1:=(a,o3)::(PL,.lst (ps.map V.ref))::(OW,.dK [])::(BO,.lst [])::lsC sas (List.replicate i [])) (L2:=[]) (by rw[YQ];exact mk) hs1
 rintro ys H5 ⟨sas,rfl,hsl,mk7⟩ SA hSA
 rw[Ya,tl]at hsl mk7
 have mk8:=Mk0.ins (L1:=(a,o3)::(PL,.lst (ps.map V.ref))::(OW,.dK [])::(BO,.lst [])::[]) (L2:=lsC sas (List.replicate ms.length [])) (v:= .lst (sas.map V.ref)) mk7 hSA
 subst ho3
 refine⟨dx,_,mk8.cs.at_ 0 _ rfl,(show 3<1000 by decide),?_⟩
 have mk9:=mk8.put (v':= .ins Zl dx (fG "sayings" (.ref SA) [("posts",.ref PL),("owners",.ref OW),("borne",.ref BO)])) nI
 generalize upd (upd H5 SA _) a _=H6 at mk9
 obtain⟨o4,ho4⟩:∃o4:HO,o4= .ins Zl dx [("posts",.ref PL),("owners",.ref OW),("borne",.ref BO),("sayings",.ref SA)]:=⟨_,rfl⟩
 have mk9':Mk0 CA H a H6 ((a,o4)::(PL,.lst (ps.map V.ref))::(OW,.dK [])::(BO,.lst [])::(SA,.lst (sas.map V.ref))::lsC sas (List.replicate ms.length [])) ps (ms.map fun m=>S0 m.1.toNat m.2.toNat v.toNat) op:=by rw[ho4];exact mk9
 clear mk6' mk7 mk8 mk9
 refine⟨⟨_,SqL.of (mk9'.kp _ _ hcla ecl)⟩,eE (xs:=ts.map V.ref) (fun i ys H'=>∃hes:List Addr,ys=hes.map V.ref/\hes.length=i/\Mk0 CA H a H' ((a,o4)::(PL,.lst (ps.map V.ref))::(OW,.dK [])::(BO,.lst [])::(SA,.lst (sas.map V.ref))::(lsC sas (List.replicate ms.length [])++lsC hes (List.replicate i []))) ps (ms.map fun m=>S0 m.1.toNat m.2.toNat v.toNat) op) ?_ ?_ ?_ ?_ ?_⟩
 ·rintro i ys H' hi ⟨hes,rfl,hp,_⟩
  rw[Ya]at hi ⊢
  exact bD (by omega)
 ·exact⟨[],rfl,rfl,by rw[show lsC [] (List.replicate 0 [])= [] from rfl,YQ];exact mk9'⟩
 ·rintro i ys H' hi ⟨hes,rfl,hp,mk⟩
  exact SqL.of (mk.kp _ _ hcla ecl)
 ·rintro i x ys H' hx ⟨hes,rfl,hp,mk⟩
  conv=>whnf
  refine⟨aM rfl,fun s1 hs1=>⟨hes++[s1],by rw[Yj];rfl,by rw[Yb,hp];rfl,?_⟩⟩
  rw[wL i hp,<-YB]
  exact Mk0.ins (L1:=(a,o4)::(PL,.lst (ps.map V.ref))::(OW,.dK [])::(BO,.lst [])::(SA,.lst (sas.map V.ref))::(lsC sas (List.replicate ms.length [])++lsC hes (List.replicate i []))) (L2:=[]) (by rw[YQ];exact mk) hs1
 rintro ys H7 ⟨hes,rfl,hhl,mk10⟩ HE hHE
 rw[Ya,tl]at hhl mk10
 have mk11:=Mk0.ins (L1:=(a,o4)::(PL,.lst (ps.map V.ref))::(OW,.dK [])::(BO,.lst [])::(SA,.lst (sas.map V.ref))::[]) (L2:=lsC sas (List.replicate ms.length [])++lsC hes (List.replicate ms.length [])) (v:= .lst (hes.map V.ref)) mk10 hHE
 subst ho4
 refine⟨dx,_,mk11.cs.at_ 0 _ rfl,(show 4<1000 by decide),?_⟩
 have mk12:=mk11.put (v':= .ins Zl dx (fG "hearings" (.ref HE) [("posts",.ref PL),("owners",.ref OW),("borne",.ref BO),("sayings",.ref SA)])) nI
 generalize upd (upd H7 HE _) a _=H8 at mk12
 refine⟨aM rfl,fun EV hEV=>?_⟩
 have mk13:=Mk0.ins (L1:=(a,.ins Zl dx [("posts",.ref PL),("owners",.ref OW),("borne",.ref BO),("sayings",.ref SA),("hearings",.ref HE)])::(PL,.lst (ps.map V.ref))::(OW,.dK [])::(BO,.lst [])::(SA,.lst (sas.map V.ref))::(HE,.lst (hes.map V.ref))::[]) (L2:=lsC sas (List.replicate ms.length [])++lsC hes (List.replicate ms.length [])) (v:= .lst []) mk12 hEV
 refine⟨dx,_,mk13.cs.at_ 0 _ rfl,(show 5<1000 by decide),?_⟩
 have mk14:=mk13.put (v':= .ins Zl dx (fG "happened" (.ref EV) [("posts",.ref PL),("owners",.ref OW),("borne",.ref BO),("sayings",.ref SA),("hearings",.ref HE)])) nI
 generalize upd (upd H8 EV _) a _=H9 at mk14
 have mk15:Mk0 CA H a H9 (jQ Zl a ⟨dx,PL,OW,BO,SA,HE,EV,ps,sas,hes, [],op⟩ (R0 ms v)) ps (R0 ms v).ps op:=mk14
 obtain⟨o,hR,hn⟩:=mk15.fin hsl hhl l5
 exact q1 ⟨⟨by omega,l5⟩,hok⟩ H9 o hR hn mk15.kp
variable (Zda:MB P w K mg base (CX0) 9 Zfa Zjs ["self","post","name","data"] (a5L K Zl CA ZbP Zdr ZlD))
include Zw ZK ZZ Zgk Za Zb Zk Zch Zaj Zz Zc6 Zn in
theorem ZlO (F0:Fun K "hand" "Rail.hand" ZjP Zfa Zjs):type_of% Zda:=by
 refine mbK ["self","post","name","data","taker"] F0 fun H Q nd hr h=>?_
 obtain⟨r,R,o,w,k,n,a,ds,rfl,hR,hS,hl,how,hwt,q1,q2,q3⟩:=h
 refine⟨_,(aD (aX (i:=4) nd rfl (Or.inl rfl) (bQ Zb Zk Zn.1 hr.mo Zn.2 .nil aJ (dv 0) (aA (dv 1) aB))) (aD (bA (aQ Zz.1 hr.mo rfl Zz.2.2.2 Zz.2.2.1 Zz.2.1 .nil aJ (aA (dv 2) (aA (dv 3) aB)))) (aD (bF (aW oX (a6W (b3P hr) (aP Zb Zaj (dv 0)) (dv 2) (dv 1) ⟨rfl,rfl,rfl,rfl⟩) (dv 1) (aR _)) (aF fB) aV) (aD (b1C (b3P hr) (aP Zb Zaj (dv 0)) (dv 2) (dv 1) rfl) (aF (bA (bQ Za Zch Zc6.1 hr.mo Zc6.2 .nil aJ (dv 4) (aA (dv 2) (aA (dv 3) aB))))))))),?_⟩
 refine⟨⟨w.dx,_,hR.er,rfl⟩,r,R,o,w,k,rfl,hR,fun i p e hp=>?_,fun no H1 g1=>q1 no H1 g1⟩
 subst e
 obtain⟨S,oi,eS,hP,le,back⟩:=hR.step hp
 have hil:i<R.ps.length:=(Yg.mp eS).1
 refine⟨n,a,ds,rfl,hS,hl,fun ok H1 g1=>?_,fun no H1 g1=>q2 ⟨by omega,by omega⟩ no H1 g1⟩
 obtain⟨j,ej,q4,q5⟩:=q3 i S rfl eS ok
 have hR1:=hR.same g1
 refine⟨w.dx,_,.ref w.OW,hR1.er,rfl,w.OW,rfl,.inl ⟨_,.inl hR1.eOW⟩,_,.inl ⟨_,.inl n,.inl hR1.eOW,rfl,rfl⟩,?_⟩
 rw[ej]
 conv=>whnf
 refine bR (fun c=>?_) (fun c=>?_)
 ·have c1:¬ j=((i:Nat):Int):=fun z=>by
   have c2:(!decide (j=((i:Nat):Int)))=true:=c
   rw[Yn z]at c2
   cases c2
  exact(q4 c1 _ g1)
 have c1:j=((i:Nat):Int):=YM fun z=>c (by
  show (!decide (j=((i:Nat):Int)))=true
  rw[Yr z];rfl)
 refine⟨w.dx,_,.ref w.OW,hR1.er,rfl,w.OW,_,rfl,.inl ⟨_,.inl n,hR1.eOW,rfl,bD (by omega),rfl⟩,?_⟩
 obtain⟨hR2,m2⟩:=hR1.put (k:=2) (R':={ R with ow:=putK R.ow (.inl n) (.int ((i:Nat):Int)) }) (w':=w) rfl b8Y rfl rfl rfl rfl rfl rfl rfl rfl hR1.ev
 have hS2:=a9Y (v:= .dK (putK R.ow (.inl n) (.int ((i:Nat):Int)))) (g1.seq hS) hR1.eOW
 generalize upd H1 w.OW _=H2 at hR2 m2 hS2
 obtain⟨S2,oi2,eS2,hP2,le2,back2⟩:=hR2.step hp
 have ee:S2=S:=Yp (eS2.symm.trans eS)
 subst ee
 obtain⟨dq,ch,vt',wl_,ul,cc,nw,ep⟩:=hP2.cell
 obtain⟨nw5,ob5,bd5,fin5⟩:=hP2.hand
 refine⟨⟨dq,_,ep,rfl⟩,p,nw5,S2,ob5,n,a,ds,rfl,bd5,hS2,hl,hwt _ (Yx eS),fun _ H3 d hd b k=>?_,fun no=>absurd ok no⟩
 obtain⟨o3,hP3,mv3⟩:=fin5 ok H3 d hd b k
 obtain⟨o',op',hR3,m3⟩:=back2 H3 o3 _ mv3 hP3
 exact q5 c1 H3 o' ⟨_,hR3⟩ ((Mv.of g1).trans (m2.trans m3))
variable (Zag:MB P w K mg base (CX0) 12 ZcZ Zgh ["self","hearing"] (a5J K Zl CA (b3D Zbx)))
include ZaA ZL Zw ZZ Zx Zr ZdJ Zfk Za Zb Zcj Zci ZG Zv ZW ZQ ZP Za5 Zc9 Zc7 in
theorem Zjh (F0:Fun K "make_turn" "Rail.make_turn" Zgn ZcZ Zgh):type_of% Zag:=by
 refine mbK ["self","hearing","said","bit","heard","post","own","word"] F0 fun H Q nd hr h=>?_
 obtain⟨r,R,o,w,f,hs,rfl,hR,ne,sz,q⟩:=h
 refine⟨_,(aD (jG (j:=2) nd rfl rfl rfl (ix:=[]) (cY (aP Zb ZG (dv 0))) (fun C fp s0 H0 at0=>dU) (fun C fp s0 H0 at0=>(bL Za Zcj Zc9.1 hr.mo Zc9.2 .nil aJ (dv 0))) rfl rfl (by rfl) (show ([".0","post"]:List Str).Nodup by decide +kernel)) (aD (aX (i:=3) nd rfl (Or.inr rfl) (aY (xU rfl) rfl ZdJ uN (aA (dv 2) aB))) (aD (jG (j:=4) nd rfl rfl rfl (ix:=[1,0,3]) (cJ rfl Zx (aA (aY cU rfl Zr bV (aA (aP Zb ZG (dv 0)) aB)) aB)) (fun C fp s0 H0 at0=>dU) (fun C fp s0 H0 at0=>(a6Y (K:=K) (b0S Za5.1 Za5.2.1) hr.mo (pv 1) (aA (dv 0) (aA (aY (a4E (K:=K)) rfl Zr bV (aA (aP Zb Zv (dv 2)) aB)) (aA (dv 3) aB))))) rfl rfl (by rfl) (show ([".0","post","hearing","self","bit"]:List Str).Nodup by decide +kernel)) (aD (dM YU rfl (b1S rfl Zfk (aA (aP Zb ZG (dv 0)) aB)) (mg2 (b5B rfl (vZ (cM (i:=5) nd rfl (Or.inl rfl)) (vZ (cM (i:=6) nd rfl (Or.inl rfl)) b1G)))) (aD (bA (bY (bK dJ (aP Zb ZW (dv 0)) (dv 5) (fun _ _=>rfl)) (aA (bK dJ (dv 2) (dv 5) (fun _ _=>rfl)) aB))) (aD (bA (bY (bK dJ (aP Zb ZQ (dv 0)) (dv 5) (fun _ _=>rfl)) (aA (bK dJ (dv 4) (dv 5) (fun _ _=>rfl)) aB))) (aD (aX (i:=7) nd rfl (Or.inl rfl) (bQ Za Zci Zc7.1 hr.mo Zc7.2 .nil aJ (dv 6) (aA (bK dJ (dv 4) (dv 5) (fun _ _=>rfl)) aB))) (aF (bF (aW oX (dv 7) bI (aR _)) (aF (bA (bY (aP Zb ZP (dv 0)) (aA (cD (aA (aY cU rfl Zr bV (aA (aP Zb Zv (dv 0)) aB)) (aA (dv 5) (aA (dv 7) aB)))) aB)))) aV)))))) (aD (bA (bY (aP Zb Zv (dv 0)) (aA (dv 3) aB))) (aF (aL (dv 3)))))))),?_⟩
 refine⟨w.dx,_,.ref w.PL,hR.er,rfl,⟨_,SqL.of hR.ePL⟩,eE (xs:=w.ps.map V.ref) (fun i ys H'=>Same H H'/\ys=((R.ps.take i).map aZ).map V.int) ?_ ?_ ?_ ?_ ?_⟩
 ·rintro i ys H' hi ⟨g,rfl⟩
  rw[Ya,Ya,Yu]
  have:=hR.lp
  exact bD (by omega)
 ·exact⟨Same.refl _,rfl⟩
 ·rintro i ys H' hi ⟨g,rfl⟩
  exact SqL.of (g _ _ hR.ePL)
 ·rintro i x ys H' hx ⟨g,rfl⟩
  rw[Yk]at hx
  obtain⟨p,hp,rfl⟩:=YK.mp hx
  obtain⟨S,oi,eS,hP,_⟩:=(hR.same g).step hp
  obtain⟨dq,ch,vt',wl_,ul,cc,nw,ep⟩:=hP.cell
  obtain⟨hil,eS'⟩:=Yg.mp eS
  have tk:R.ps.take (i+1)=R.ps.take i++[S]:=by rw[Yh hil,eS']
  conv=>whnf
  refine⟨⟨dq,_,ep,rfl⟩,p,S,oi,rfl,hP,g,?_⟩
  rw[tk,Yj,Yj]
  rfl
 rintro ys H1 ⟨g1,rfl⟩ sd hsd
 rw[Ya,hR.pl,Yl (Yd _)]
 generalize eU:upd H1 sd _=H2
 have g2:=nS hsd eU
 have esd:=nE eU
 clear eU
 refine⟨_,SqL.of esd,fun z=>ne (by simpa using z),fun b bm bl=>?_⟩
 obtain⟨hh,h01,q⟩:=q b ⟨bm,bl⟩
 have hR2:=hR.same (g1.trans g2)
 have lp:=hR.lp
 refine⟨w.dx,_,.ref w.PL,hR2.er,rfl,_,.inl (SqL.of hR2.ePL),?_⟩
 rw[Ya,hR2.pl]
 refine⟨⟨by omega,by omega⟩,?_⟩
 rw[YG]
 refine fU (lo:=0) (n:=R.ps.length) (fun i ys H'=>Same H2 H'/\ys=((List.range i).map (hs b)).map V.int) ?_ ?_ ?_ ?_
 ·rintro i ys H' hi ⟨g,rfl⟩
  rw[Ya,Ya,YC]
  exact bD (by omega)
 ·exact⟨Same.refl _,rfl⟩
 ·rintro i ys H' hi ⟨g,rfl⟩
  have hR3:=hR2.same g
  obtain⟨f1,f2⟩:=hh i hi H' ((g1.trans g2).trans g)
  conv=>whnf
  rw[Xw]
  refine⟨f,rfl,f1,w.dx,_,.ref w.BO,hR3.er,rfl,_,.inl (SqL.of hR3.eBO),f1,?_⟩
  rw[Ya]
  refine f2 _ fun H4 g4=>⟨g.trans g4,?_⟩
  rw[Xu,Yj,Yj]
  rfl
 rintro ys H3 ⟨g3,rfl⟩ hd hhd
 have esd3:=g3 _ _ esd
 have hR3:=(hR2.same g3).same (aK hhd (.lst (((List.range R.ps.length).map (hs b)).map V.int)))
 have esd4:=aK hhd (.lst (((List.range R.ps.length).map (hs b)).map V.int)) _ _ esd3
 have ehd:=aC (H:=H3) (a:=hd) (o:= .lst (((List.range R.ps.length).map (hs b)).map V.int))
 have gs:Same H (upd H3 hd (.lst (((List.range R.ps.length).map (hs b)).map V.int))):=((g1.trans g2).trans g3).trans (aK hhd _)
 have nsd:¬ o sd:=fun z=>by
  have:=hR.al sd z
  cases e:H sd with
  |none=>exact this e
  |some u=>rw[g1 _ _ e]at hsd;cases hsd
 have nhd:¬ o hd:=fun z=>by
  have:=hR.al hd z
  cases e:H hd with
  |none=>exact this e
  |some u=>rw[g3 _ _ ((g1.trans g2) _ _ e)]at hhd;cases hhd
 generalize upd H3 hd _=H4 at hR3 esd4 ehd gs
 obtain⟨HS,eHS⟩:∃HS,HS=(List.range R.ps.length).map (hs b):=⟨_,rfl⟩
 rw[<-eHS]at ehd q
 have hsi:∀i,i<R.ps.length->HS[i]? =some (hs b i):=fun i hi=>by rw[eHS,Yk,Xv hi];rfl
 refine⟨w.dx,_,.ref w.PL,hR3.er,rfl,⟨_,SqL.of hR3.ePL⟩,a8I (xs:=w.ps.map V.ref) (a:=w.PL) (fun i σ H'=>∃(o' op:Own)(evs:List V)(x5 x6 x7:Option V),σ= [some (.ref r),some (.ref f),some (.ref sd),some (.int b),some (.ref hd),x5,x6,x7]/\cA Zl CA H' r (bC R HS i) o' { w with op:=op,evs:=evs }/\Mv o H4 o' H') ⟨o,w.op,w.evs,_,_,_,rfl,hR3,Mv.refl⟩ ?_ ?_ ?_⟩
 ·rintro i σ H' hi ⟨o',op,evs,x5,x6,x7,rfl,hRi,m⟩
  exact SqL.of hRi.ePL
 ·rintro i x σ H' pr hx ⟨o',op,evs,x5,x6,x7,rfl,hRi,m⟩ hpr
  rw[Yk]at hx
  obtain⟨p,hp,rfl⟩:=YK.mp hx
  have hil:i<R.ps.length:=by rw[<-hR.pl];exact(Yg.mp hp).1
  obtain⟨h1,h2,h3,h4,h5,h6,h7⟩:=gQ R HS i
  obtain⟨h6a,h6b,h6c⟩:=h6 i (Yd _)
  have hsl:=hR.l2
  have hhl:=hR.l4
  have eS:R.ps[i]? =some R.ps[i]:=Yc hil
  have eX:R.sa[i]? =some (R.sa[i]'(by omega)):=Yc (by omega)
  have eY:R.he[i]? =some (R.he[i]'(by omega)):=Yc (by omega)
  have zX:=sz.sa _ (YN (show i<R.sa.length by omega))
  have zY:=sz.he _ (YN (show i<R.he.length by omega))
  have zU:=sz.up _ (YN hil)
  have zE:=sz.ev
  have zB:=sz.bo
  have hsuc:=jL eS (hsi i hil) eX eY
  generalize R.ps[i]=S at eS hsuc zU
  generalize R.sa[i]'(by omega)=X at eX hsuc zX
  generalize R.he[i]'(by omega)=Y at eY hsuc zY
  have hRp:=hRi.same (aK hpr (.tup [.int ((i:Nat):Int),.ref p]))
  have mp:=m.trans (Mv.of (aK hpr (.tup [.int ((i:Nat):Int),.ref p])))
  refine⟨_,_,SqT.of aC,?_⟩
  generalize upd H' pr _=H5 at hRp mp
  obtain⟨a1,ha1,ka1⟩:=hRp.sa_at (h6b.trans eX)
  have ea1:=hRp.cs.at_ _ _ ka1
  have ks:∀{o1:Own}{H1:Hp},Mv o H4 o1 H1->¬ o1 sd/\¬ o1 hd/\H1 sd=some (.lst ((R.ps.map aZ).map V.int))/\H1 hd=some (.lst (HS.map V.int)):=fun mm=>⟨fun z=>(mm.2 _ z).elim nsd fun y=>(by rw[esd4]at y;cases y),fun z=>(mm.2 _ z).elim nhd fun y=>(by rw[ehd]at y;cases y),mm.1 _ _ esd4 (.inl nsd),mm.1 _ _ ehd (.inl nhd)⟩
  have sdi:atI ((R.ps.map aZ).map V.int) ((i:Nat):Int)=some (.int (aZ S)):=cO (by rw[Yk,Yk,eS];rfl)
  have hdi:atI (HS.map V.int) ((i:Nat):Int)=some (.int (hs b i)):=cO (by rw[Yk,hsi i hil];rfl)
  refine⟨w.dx,_,.ref w.SA,hRp.er,rfl,_,.ref a1,SqL.of hRp.eSA,cO (by rw[Yk,ha1];rfl),⟨_,SqL.of ea1⟩,_,_,SqL.of (ks mp).2.2.1,sdi,_,ea1,bD (by rw[Ya];omega),?_⟩
  obtain⟨hR6,m6⟩:=hRp.say (b:=aZ S) (h6b.trans eX) ha1
  have mq:=mp.trans m6
  generalize upd H5 a1 _=H6 at hR6 m6 mq
  obtain⟨b1,hb1,kb1⟩:=hR6.he_at (i:=i) (xs:=Y) (h6c.trans eY)
  have eb1:=hR6.cs.at_ _ _ kb1
  refine⟨w.dx,_,.ref w.HE,hR6.er,rfl,_,.ref b1,SqL.of hR6.eHE,cO (by rw[Yk,hb1];rfl),⟨_,SqL.of eb1⟩,_,_,SqL.of (ks mq).2.2.2,hdi,_,eb1,bD (by rw[Ya];omega),?_⟩
  obtain⟨hR7,m7⟩:=hR6.hrd (i:=i) (xs:=Y) (b:=hs b i) (h6c.trans eY) hb1
  have mr:=mq.trans m7
  generalize upd H6 b1 _=H7 at hR7 m7 mr
  obtain⟨S',oi,eS',hP,_,back⟩:=hR7.step hp
  have es:S'=S:=Yp (eS'.symm.trans (h6a.trans eS))
  subst es
  obtain⟨dq,ch,vt',wl_,ul,cc,nw,ep⟩:=hP.cell
  refine⟨⟨dq,_,ep,rfl⟩,_,_,SqL.of (ks mr).2.2.2,hdi,p,S',oi,_,rfl,hP,h01 i,zU,fun H8 oi' hP8 m8=>?_⟩
  obtain⟨o8,op8,hR8,m8'⟩:=back H8 oi' _ m8 hP8
  have ms:=mr.trans m8'
  have eR:bC R HS (i+1)={ ({ bC R HS i with ps:=(bC R HS i).ps.set i (bH S' (hs b i)).2,sa:=(bC R HS i).sa.set i (X++[aZ S']),he:=(bC R HS i).he.set i (Y++[hs b i]) }:RS) with ev:=(bC R HS i).ev++evt R.bo.length i (bH S' (hs b i)).1 }:=hsuc
  obtain⟨wd,ewd⟩:∃wd,wd=(bH S' (hs b i)).1:=⟨_,rfl⟩
  rw[<-ewd]at eR ⊢
  conv=>whnf
  refine bR (fun c=>?_) (fun c=>?_)
  ·have c1:wd≠"":=fun z=>by
    have c2:(!decide (wd=""))=true:=c
    rw[Yn z]at c2
    cases c2
   refine⟨w.dx,_,.ref w.EV,hR8.er,rfl,⟨_,SqL.of hR8.eEV⟩,w.dx,_,.ref w.BO,hR8.er,rfl,_,.inl (SqL.of hR8.eBO),?_⟩
   refine⟨aM rfl,fun t ht=>?_⟩
   have hR9:=hR8.same (aK ht (.tup [.int ((((bC R HS i).bo.map V.int).length:Nat):Int),.int ((i:Nat):Int),.str wd]))
   have mt:=ms.trans (Mv.of (aK ht (.tup [.int ((((bC R HS i).bo.map V.int).length:Nat):Int),.int ((i:Nat):Int),.str wd])))
   have et:=aC (H:=H8) (a:=t) (o:= .tup [.int ((((bC R HS i).bo.map V.int).length:Nat):Int),.int ((i:Nat):Int),.str wd])
   refine⟨_,hR9.eEV,bD (by have:=hR9.ev.len;have h7':evs.length=(bC R HS i).ev.length:=this;show evs.length<=1000;omega),?_⟩
   rw[Ya,h1]at et
   obtain⟨hR10,m10⟩:=hR9.happen (e:=(R.bo.length,i,wd)) (by rw[Ya,h1];exact et)
   refine⟨o8,op8,evs++[.ref t],_,_,_,rfl,?_,mt.trans m10⟩
   rw[eR,show evt R.bo.length i wd= [(R.bo.length,i,wd)] from if_neg c1]
   exact hR10
  ·have c1:wd="":=YM fun z=>c (by
    show (!decide (wd=""))=true
    rw[Yr z];rfl)
   refine⟨o8,op8,evs,_,_,_,rfl,?_,ms⟩
   rw[eR,show evt R.bo.length i wd= [] from if_pos c1,YQ]
   exact hR8
 rintro σ H5 ⟨o5,op,evs,x5,x6,x7,rfl,hR5,m5⟩
 rw[Ya,hR.pl]at hR5
 have zB:=sz.bo
 obtain⟨h1,_⟩:=gQ R HS R.ps.length
 refine⟨w.dx,_,.ref w.BO,hR5.er,rfl,⟨_,SqL.of hR5.eBO⟩,_,hR5.eBO,bD (by rw[Ya,h1];omega),?_⟩
 obtain⟨hR6,m6⟩:=hR5.bear (b:=b)
 refine q _ o5 ⟨{ w with op:=op,evs:=evs },?_⟩ ((Mv.of gs).trans (m5.trans m6))
 have eT:lJ R HS b={ bC R HS R.ps.length with bo:=(bC R HS R.ps.length).bo++[b] }:=by unfold lJ;rw[h1]
 rw[eT]
 exact hR6
variable (Zdd:MB P w K mg base (CX0) 13 Zfd Zhb ["self","wrong_posts"] (a5H Zl CA ZbP 965))
include ZK ZZ Z0 Zb Zk Z9 Zee Zef hc_Rail_turn Zn Zag in
theorem ZlR (F0:Fun K "turn" "Rail.turn" Zdh Zfd Zhb):type_of% Zdd:=by
 refine mbM ["self","wrong_posts","wrong","post"] F0 fun Sc0=>F0.okL hc_Rail_turn Sc0 (fun vs H Q E h=>?_) fun A outer s H vs Q E hr h=>?_
 ·obtain⟨r,R,o,w,wl,ws,ox,rfl,_⟩:=h
  rfl
 obtain⟨r,R,o,w,wl,ws,ox,rfl,ewl,wsl,hR,ne,sz,hT,hox,q1,q2⟩:=h
 have nd:=Sc0.nd
 refine⟨_,(a0T (aX (i:=2) nd rfl (Or.inr rfl) (cB (cV (aW b2W (dv 1) jH (aR _)) (cZ aB) (dZ fH rfl Z0 gF (aA (dv 1) aB))))) (a0T (dM PassesOwn.leaving rfl (cY (dv 2)) (cM (i:=3) nd rfl (Or.inl rfl)) (aF (bA (bQ Zb Zk Zn.1 hr.mo Zn.2 .nil aJ (dv 0) (aA (dv 3) aB))))) (b5D (P:=965) (bm:=4) (iq:=iqT) (y:="wrong") (iy:=2) (Q:=Q) (dv 0) Zb Z9 Zag.1 hr.mo Zag.2 rfl Zef Zee (fun c hc=>clT hc) rfl rfl rfl rfl rfl))),?_⟩
 refine⟨fun v H'=>∃l,v= .ref l/\H l=none/\H'=upd H l (.lst (ws.map V.int)),?_,?_⟩
 ·conv=>whnf
  exact⟨_,.inl (SqL.of ewl),fun l hl=>⟨l,rfl,hl,rfl⟩⟩
 rintro v H1 ⟨l,rfl,hl,eH⟩
 have g1:Same H H1:=by rw[eH];exact aK hl _
 have el:H1 l=some (.lst (ws.map V.int)):=by rw[eH];exact aC
 clear eH
 have hR1:=hR.same g1
 have hT1:=hT.same g1
 have nl:∀i:Nat,i<R.ps.length->∃p,w.ps[i]? =some p:=fun i hi=>⟨_,Yc (by rw[hR.pl];exact hi)⟩
 refine⟨⟨_,SqL.of el⟩,gC (xs:=ws.map V.int) (fun i σ H'=>(∃x,σ= [some (.ref r),some (.ref wl),some (.ref l),x])/\H'=H1/\∀x∈ws.take i,0<=x/\x<((R.ps.length:Nat):Int)) ⟨⟨_,rfl⟩,rfl,fun x hx=>by simp at hx⟩ ?_ ?_ ?_⟩
 ·rintro i σ H' hi ⟨_,rfl,_⟩
  exact SqL.of el
 ·rintro i v σ H' hv ⟨⟨x,rfl⟩,rfl,hall⟩
  rw[Yk]at hv
  obtain⟨k,hk,rfl⟩:=YK.mp hv
  obtain⟨hil,ek⟩:=Yg.mp hk
  refine⟨⟨w.dx,_,hR1.er,rfl⟩,r,R,o,w,k,rfl,hR1,fun i' p e hp=>⟨⟨_,rfl⟩,rfl,?_⟩,fun no H2 g2=>q2 (fun z=>no (z k (ek▸YN hil))) H2 (g1.trans g2)⟩
  have hi':i'<R.ps.length:=by rw[<-hR.pl];exact(Yg.mp hp).1
  rw[Yh hil]
  intro z hz
  rcases Yy.mp hz with hz | hz
  ·exact hall z hz
  ·rw[Yi,ek,e]at hz
   rw[hz]
   exact⟨by omega,by omega⟩
 rintro σ H2 ⟨⟨x,rfl⟩,rfl,hall⟩
 rw[Ya,Yl (Yd _)]at hall
 refine⟨r,w.dx,_,.ref l,rfl,hR1.er,rfl,rfl,hT1.tabP,fun f c c' H3 hf hc hsm hC3 hor hc' hcell hlam=>?_⟩
 obtain⟨nP2,qs,t1,t2,t3⟩:=hT1
 have nP:¬ o 965:=fun z=>nP2 (.inl z)
 have nPx:∀x v,H2 x=some v->(o x\/isT v)->x≠965:=fun x v e z y=>by
  rcases z with z | z
  ·exact nP (y▸z)
  ·rw[y,t1]at e;cases e;exact b3J z
 have hR3:cA Zl CA H3 r R o w:=hR1.move fun x v e z=>hsm x v (nPx x v e z) e
 have lP:l≠965:=fun y=>by rw[y,t1]at el;cases el
 have hL:xR H3 f ws:=⟨c,c',l,hlam,hc',hcell,hsm l _ lP el⟩
 have nc:¬ Or2 o ox c':=by
  rcases hor with z | ⟨qs',u1,_,u3⟩
  ·rintro (y | y)
   ·exact hR1.al c' y z
   ·cases e:H c' with
    |none=>exact hox c' y e
    |some u=>rw[g1 _ _ e]at z;cases z
  ·rw[t1]at u1
   cases u1
   rcases t3 with t3 | ⟨d,d1,d2,d3⟩
   ·cases t3.symm.trans u3
   ·cases (show codeAmong a6P _=_ from u3).symm.trans d1;exact d3
 have hT3:jP 965 (Or2 o ox) H3:=by
  obtain⟨qs',u1,u2,u3⟩:=hC3
  exact⟨nP2,qs',u1,u2,.inr ⟨c',u3,hc',nc⟩⟩
 have m3:MvP 965 o H2 o H3:=⟨fun x v e z=>hsm x v (fun y=>z.elim (fun z=>z (.inr y)) fun z=>(by rw[y,t1]at e;cases e;exact b3J z)) e,fun x hx=> .inl hx⟩
 refine⟨r,R,o,w,f,fun b i=>wrB ws ((i:Nat):Int) b,rfl,hR3,ne,sz,fun b hb=>⟨fun i hi H4 g4=>⟨FnE.lam (g4 _ _ hlam),fun Q1 k=> .inl ⟨ws,_,_,_,rfl,hL.same g4,k⟩⟩,fun i=>b7U (hR3.says hb.1),fun H' o' hR' m'=>q1 hall b H' o' hb hR' (hT3.mv2 m') ?_⟩⟩
 refine(Mv.of g1).trans (m3.trans ⟨fun x v e z=>m'.1 x v e (z.imp_left fun y q=>y (.inl q)),fun x hx=>?_⟩)
 rcases hx with hx | hx
 ·exact(m'.2 x hx).imp .inl id
 ·exact .inl (.inr hx)
variable (Zbm:MB P w K mg base (CX0) 13 ZfQ Zki ["self","turns","hearing"] (b0E Zl CA))
include ZZ Zx ZeE Zb Z9 Za5 Zag in
theorem Zme (F0:Fun K "run" "Rail.run" ZkB ZfQ Zki):type_of% Zbm:=by
 refine mbK ["self","turns","hearing","asked"] F0 fun H Q nd hr h=>?_
 obtain⟨r,R,o,w,n,rfl,hR,ne,n5,sz,q⟩:=h
 refine⟨_,(aD (aX (i:=3) nd rfl (Or.inr rfl) (cB (cV (aW b2W (dv 2) jH (aR _)) (bB (v:= .ref Zbx) rfl Za5.2.2.2 rfl) (dv 2)))) (aF (aL (fK rfl (ix:=[0,3]) (cJ rfl Zx (aA (dv 1) aB)) (fun C fp s0 H0 at0=>dU) (fun C fp s0 H0 at0=>(bQ Zb Z9 Zag.1 hr.mo Zag.2 .nil aJ (dv 1) (aA (dv 2) aB))) rfl rfl (by rfl) (show ([".0","turn","self","asked"]:List Str).Nodup by decide +kernel))))),?_⟩
 refine⟨fun v H'=>v= .ref Zbx/\H=H',?_,?_⟩
 ·conv=>whnf
  exact⟨rfl,rfl⟩
 rintro v H1 ⟨rfl,rfl⟩
 refine⟨⟨by omega,by omega⟩,?_⟩
 rw[YG]
 refine fU (lo:=0) (n:=n) (fun i ys H'=>∃o',iY Zl CA H' r (cI R i) o'/\Mv o H o' H'/\ys=((List.range i).map fun k=>jO (cI R k)).map V.int) ?_ ?_ ?_ ?_
 ·rintro i ys H' hi ⟨o',_,_,rfl⟩
  rw[Ya,Ya,YC]
  exact bD (by omega)
 ·exact⟨o,⟨w,hR⟩,Mv.refl,rfl⟩
 ·rintro i ys H' hi ⟨o',⟨w',hR'⟩,mv,rfl⟩
  conv=>whnf
  refine⟨⟨w'.dx,_,hR'.er,rfl⟩,r,cI R i,o',w',Zbx,fun b _=>b,rfl,hR',fun z=>ne (X7.mp (by rw[<-vV R i,z];rfl)),sz i (by omega),fun b hb=>⟨fun j hj H2 g2=>⟨.inl ZeE,fun Q1 k=> .inr ⟨rfl,_,_,_,rfl,k _ (Same.refl _)⟩⟩,fun _=>hR'.says54 hb.1,fun H3 o3 hR3 m3=>?_⟩⟩
  have eb:b=jO (cI R i):=sH (fun z hz=>hR'.says54 hz) hb
  subst eb
  refine⟨o3,hR3,mv.trans m3,?_⟩
  rw[Xu,Yj,Yj]
  rfl
 rintro ys H' ⟨o',hR',mv,rfl⟩ l hl
 exact q l H' o' hR' mv hl
variable (Za8:MB P w K mg base (CX0) 1 ZdV ZhV ["self"] (yE Zl CA))
include ZZ Z0 Zb ZP in
theorem ZkO (F0:Fun K "events" "Rail.events" Zif ZdV ZhV):type_of% Za8:=by
 refine mbK ["self"] F0 fun H Q nd hr h=>?_
 obtain⟨r,R,o,w,rfl,hR,q⟩:=h
 refine⟨_,(aF (aL (dZ fH rfl Z0 gF (aA (aP Zb ZP (dv 0)) aB)))),?_⟩
 exact⟨w.dx,_,.ref w.EV,hR.er,rfl,_,.inl (SqL.of hR.eEV),q⟩
variable (ZcL:MB P w K mg base (CX0) 9 Zet ZiJ ["self","post"] (a6A Zl CA ZbP b6M))
include ZK ZZ Za Zb Zk ZbV ZcI Zn in
theorem Zlj (F0:Fun K "waits" "Rail.waits" Zi2 Zet ZiJ):type_of% ZcL:=by
 refine mbK ["self","post"] F0 fun H Q nd hr h=>?_
 obtain⟨r,R,o,w,k,rfl,hR,q1,q2⟩:=h
 refine⟨_,(aF (aL (bL Za ZbV ZcI.1 hr.mo ZcI.2 .nil aJ (bQ Zb Zk Zn.1 hr.mo Zn.2 .nil aJ (dv 0) (aA (dv 1) aB))))),?_⟩
 refine⟨⟨w.dx,_,hR.er,rfl⟩,r,R,o,w,k,rfl,hR,fun i p e hp=>?_,fun no H1 g1=>q2 no H1 g1⟩
 obtain⟨S,oi,eS,hP,_⟩:=hR.step hp
 have q:=q1 i S e eS
 obtain⟨dq,ch,vt',wl_,ul,cc,nw,ep⟩:=hP.cell
 obtain⟨nwb,ob,bd⟩:=hP.bd
 exact⟨⟨dq,_,ep,rfl⟩,p,nwb,S,ob,rfl,bd,q⟩
variable (Zdc:MB P w K mg base (CX0) 9 Zfc Zju ["self","post"] (a5Z Zl CA ZbP (fun R=>R.sa)))
include ZK ZZ Z0 Zb Zk ZW Zn in
theorem ZlQ (F0:Fun K "said" "Rail.said" ZjR Zfc Zju):type_of% Zdc:=by
 refine mbK ["self","post"] F0 fun H Q nd hr h=>?_
 obtain⟨r,R,o,w,k,rfl,hR,q1,q2⟩:=h
 refine⟨_,(aD (bA (bQ Zb Zk Zn.1 hr.mo Zn.2 .nil aJ (dv 0) (aA (dv 1) aB))) (aF (aL (dZ fH rfl Z0 gF (aA (bK dJ (aP Zb ZW (dv 0)) (dv 1) (fun _ _=>rfl)) aB))))),?_⟩
 refine⟨⟨w.dx,_,hR.er,rfl⟩,r,R,o,w,k,rfl,hR,fun i p e hp=>?_,fun no H1 g1=>q2 no H1 g1⟩
 have hil:i<R.ps.length:=by rw[<-hR.pl];exact(Yg.mp hp).1
 have l2:=hR.l2
 have l4:=hR.l4
 have eX:R.sa[i]? =some (R.sa[i]'(by omega)):=Yc (by omega)
 generalize R.sa[i]'(by omega)=X at eX
 obtain⟨a1,ha1,ka1⟩:=hR.sa_at eX
 subst e
 exact⟨w.dx,_,.ref w.SA,hR.er,rfl,_,.ref a1,SqL.of hR.eSA,cO (by rw[Yk,ha1];rfl),_,.inl (SqL.of (hR.cs.at_ _ _ ka1)),q1 i X rfl eX⟩
variable (ZcJ:MB P w K mg base (CX0) 9 Zer ZiH ["self","post"] (a5Z Zl CA ZbP (fun R=>R.he)))
include ZK ZZ Z0 Zb Zk ZQ Zn in
theorem Zlh (F0:Fun K "heard" "Rail.heard" Zi0 Zer ZiH):type_of% ZcJ:=by
 refine mbK ["self","post"] F0 fun H Q nd hr h=>?_
 obtain⟨r,R,o,w,k,rfl,hR,q1,q2⟩:=h
 refine⟨_,(aD (bA (bQ Zb Zk Zn.1 hr.mo Zn.2 .nil aJ (dv 0) (aA (dv 1) aB))) (aF (aL (dZ fH rfl Z0 gF (aA (bK dJ (aP Zb ZQ (dv 0)) (dv 1) (fun _ _=>rfl)) aB))))),?_⟩
 refine⟨⟨w.dx,_,hR.er,rfl⟩,r,R,o,w,k,rfl,hR,fun i p e hp=>?_,fun no H1 g1=>q2 no H1 g1⟩
 have hil:i<R.ps.length:=by rw[<-hR.pl];exact(Yg.mp hp).1
 have l2:=hR.l2
 have l4:=hR.l4
 have eX:R.he[i]? =some (R.he[i]'(by omega)):=Yc (by omega)
 generalize R.he[i]'(by omega)=X at eX
 obtain⟨a1,ha1,ka1⟩:=hR.he_at eX
 subst e
 exact⟨w.dx,_,.ref w.HE,hR.er,rfl,_,.ref a1,SqL.of hR.eHE,cO (by rw[Yk,ha1];rfl),_,.inl (SqL.of (hR.cs.at_ _ _ ka1)),q1 i X rfl eX⟩
variable (Za3:MB P w K mg base (CX0) 1 Ze9 Zjr ["self"] (a5M Zl CA))
include ZZ Z0 Zb Zv in
theorem ZlN (F0:Fun K "bits" "Rail.bits" ZjO Ze9 Zjr):type_of% Za3:=by
 refine mbK ["self"] F0 fun H Q nd hr h=>?_
 obtain⟨r,R,o,w,rfl,hR,q⟩:=h
 refine⟨_,(aF (aL (dZ fH rfl Z0 gF (aA (aP Zb Zv (dv 0)) aB)))),?_⟩
 exact⟨w.dx,_,.ref w.BO,hR.er,rfl,_,.inl (SqL.of hR.eBO),q⟩
variable (ZcK:MB P w K mg base (CX0) 1 Zes ZiI ["self"] (a2J Zl CA))
include ZZ Zr Zb Zv in
theorem Zli (F0:Fun K "turns" "Rail.turns" Zi1 Zes ZiI):type_of% ZcK:=by
 refine mbK ["self"] F0 fun H Q nd hr h=>?_
 obtain⟨r,R,o,w,rfl,hR,q⟩:=h
 refine⟨_,(aF (aL (aY cU rfl Zr bV (aA (aP Zb Zv (dv 0)) aB)))),?_⟩
 refine⟨w.dx,_,.ref w.BO,hR.er,rfl,_,.inl (SqL.of hR.eBO),?_⟩
 rw[Ya]
 exact q
variable (Zcs:MB P w K mg base (CX0) 9 ZdW ZhW ["self","post"] (a6A Zl CA ZbP gN))
include ZK ZZ Za Zb Zk ZbK Zcq Zn in
theorem ZkP (F0:Fun K "faults" "Rail.faults" Zig ZdW ZhW):type_of% Zcs:=by
 refine mbK ["self","post"] F0 fun H Q nd hr h=>?_
 obtain⟨r,R,o,w,k,rfl,hR,q1,q2⟩:=h
 refine⟨_,(aF (aL (bL Za ZbK Zcq.1 hr.mo Zcq.2 .nil aJ (bQ Zb Zk Zn.1 hr.mo Zn.2 .nil aJ (dv 0) (aA (dv 1) aB))))),?_⟩
 refine⟨⟨w.dx,_,hR.er,rfl⟩,r,R,o,w,k,rfl,hR,fun i p e hp=>?_,fun no H1 g1=>q2 no H1 g1⟩
 obtain⟨S,oi,eS,hP,_⟩:=hR.step hp
 have q:=q1 i S e eS
 obtain⟨dq,ch,vt',wl_,ul,cc,nw,ep⟩:=hP.cell
 obtain⟨nwb,ob,bd⟩:=hP.bd
 exact⟨⟨dq,_,ep,rfl⟩,p,nwb,S,ob,rfl,bd,q⟩
structure Row where
 (st:Str) (k:Nat) (said bit:Int) (w:Str) (c:Int)
structure Tn (S:PS)(r:Row)(S':PS):Prop where
 sh:S.now.shown=(r.st,r.k)
 sa:aZ S=r.said
 bt:r.bit=0\/r.bit=1
 hr:bH S r.bit=(r.w,S')
 ct:S'.tot=r.c
inductive Go:PS->List Row->PS->Prop
 |nil {S:PS}:Go S [] S
 |cons {S S1 S2:PS} {r:Row} {rs:List Row}:Tn S r S1->Go S1 rs S2->Go S (r::rs) S2
theorem Go.app {b:List Row}{S2:PS}(h:Go S1 b S2):∀{a:List Row}{S:PS},Go S a S1->Go S (a++b) S2
 |_,_,.nil=>h
 |_,_,.cons t r=> .cons t (Go.app h r)
def Go.to {a b:List Row}{S2:PS}(h:Go S a S1)(k:Go S1 b S2):Go S (a++b) S2:=k.app h
def Go.one {r:Row}(t:Tn S r S1):Go S [r] S1:= .cons t .nil
theorem Go.range {f:Nat->Row}{s:Nat->PS}:∀m,(∀i,i<m->Tn (s i) (f i) (s (i+1)))->Go (s 0) ((List.range m).map f) (s m)
 |0,_=> .nil
 | m+1,h=>by
  rw[Xu,Yj]
  exact(Go.range m fun i hi=>h i (by omega)).to (.one (h m (by omega)))
def vH {f:Fr}{r:List Fr}(e:S.now= .free k)(h:S.wt=f::r)(hs:12<=S.tot->8<=k):Tn S ⟨"free",k,0,0,"begins",S.tot⟩ { S with now:= .speaks f.1 f.2 1 }:=by
 have sa:aZ S=0:=by rw[lZ e,if_neg (by rw[h];intro z;cases z),if_neg (by intro z;have:=hs z.1;omega)]
 refine⟨by rw[e];rfl,sa,.inl rfl,?_,rfl⟩
 show bH S 0=_
 rw[jB e,if_pos sa,if_pos rfl,h]
 rfl
def vG (e:S.now= .speaks n ds k)(hf:FrN (n,ds))(hk:k<(wr n ds).length):Tn S ⟨"speaks",k,(wr n ds).getD k 0,(wr n ds).getD k 0,"",S.tot⟩ { S with now:=if k+1=(wr n ds).length then .tlS 0 0 else .speaks n ds (k+1) }:=by
 have W:=lW hf
 have hg:(wr n ds).getD k 0=(wr n ds)[k]:=getD_get hk
 have et:(wr n ds).take k++[(wr n ds).getD k 0]=(wr n ds).take (k+1):=by rw[hg,Yh hk]
 refine⟨by rw[e];rfl,by unfold aZ;rw[e],?_,?_,rfl⟩
 ·show (wr n ds).getD k 0=0\/(wr n ds).getD k 0=1
  rw[hg]
  exact W.wbits _ (YN hk)
 show bH S ((wr n ds).getD k 0)=_
 rw[iU e,et]
 have h6:¬ ans ((wr n ds).take (k+1))="six":=by
  by_cases c:k+1=(wr n ds).length
  ·rw[c,Yl (Yd _),W.whole];decide +kernel
  ·rw[W.more (by omega)];decide +kernel
 rw[if_neg h6,if_neg (by rintro ⟨z1,z2,_⟩;rw[z1]at z2;exact absurd z2 (by decide)),if_pos rfl]
 by_cases c:k+1=(wr n ds).length
 ·rw[if_pos c,if_pos c]
 ·rw[if_neg c,if_neg c]
abbrev hd9 (l:List Int):List Int:=[1,0]++List.replicate 7 1++l
def nz (h:List Int):Nat->Nat
 |0=>0
 |i+1=>tlN i (h.getD i 0) (nz h i)
structure TL (s:Bool)(h:List Int)(vt:Nat):Prop where
 len:h.length=9+vt
 bits:bN h
 one:∀i,i<9->i≠1->h.getD i 0=1
 ans:s=true->h.getD 1 0=0
def TL.more {s:Bool}(t:TL s h vt)(hi:i<8+vt):cF vt s i (nz h i) (h.getD i 0)="more":=by
 unfold cF
 by_cases c:9<=i
 ·rw[if_pos c]
  unfold lM
  exact if_pos (by omega)
 ·rw [if_neg c]
  refine if_neg ?_
  unfold iM
  by_cases d:i=1
  ·rw[if_pos d]
   cases s with
   |false=>rw[Bool.false_and];decide
   |true=>rw[d,t.ans rfl];decide
  ·rw[if_neg d,t.one i (by omega) d]
   decide
def TL.last {s:Bool}(t:TL s h vt)(hv:1<=vt):cF vt s (8+vt) (nz h (8+vt)) (h.getD (8+vt) 0)=if vt / 2<nz h (9+vt) then ("refused":Str) else ("taken":Str):=by
 unfold cF
 rw[if_pos (by omega)]
 unfold lM
 rw[if_neg (by omega),show 9+vt=8+vt+1 by omega]
 rfl
def wU (l:List Int)(j:Nat):(hd9 l).getD (9+j) 0=l.getD j 0:=by
 rw[Ye,Ye]
 rw[YF (by show 9<=9+j;omega)]
 show (l[9+j-9]?).getD 0=_
 rw[show 9+j-9=j by omega]
def zA (l:List Int):∀i,i<9->(hd9 l).getD i 0=if i=1 then 0 else 1:=by
 intro i hi
 have:(hd9 l).getD i 0=(hd9 []).getD i 0:=by
  rw[Ye,Ye,YL (by exact hi)]
  rfl
 rw[this]
 have h:∀i,i<9->(hd9 []).getD i 0=if i=1 then (0:Int) else 1:=by decide +kernel
 exact h i hi
def b1Z (l:List Int):(hd9 l).length=9+l.length:=by rw[Yb];rfl
def TL.of9 (s:Bool)(hl:l.length=vt)(hb:bN l):TL s (hd9 l) vt:=by
 refine⟨by rw[Yb,hl];rfl,jX ?_ hb,fun i hi h1=>by rw[zA l i hi,if_neg h1],fun _=>by rw[zA l 1 (by decide)];rfl⟩
 have h:∀z∈ [(1:Int),0]++List.replicate 7 1,z=0\/z=1:=by decide +kernel
 exact h
def nz9 (l:List Int):nz (hd9 l) 9=0:=by
 have h:∀i,i<=9->nz (hd9 l) i=0:=by
  intro i
  induction i with
  |zero=>intro _;rfl
  | succ i ih=>
   intro hi
   show tlN i _ (nz (hd9 l) i)=0
   rw[ih (by omega)]
   unfold tlN
   rw[if_neg (by rintro ⟨z,_⟩;omega)]
 exact h 9 (Yd _)
theorem wB (l:List Int):∀j,j<=l.length->nz (hd9 l) (9+j)=(l.take j).count 0
 |0,_=>by rw[Jb];exact nz9 l
 | j+1,h=>by
  have ih:=wB l j (by omega)
  show tlN (9+j) ((hd9 l).getD (9+j) 0) (nz (hd9 l) (9+j))=_
  rw[ih,wU,getD_get (by omega),Yh (by omega),List.count_append]
  unfold tlN
  by_cases c:l[j]=0
  ·rw[if_pos ⟨by omega,c⟩,c];rfl
  ·rw[if_neg (by rintro ⟨_,z⟩;exact c z),List.count_singleton,if_neg (by rw[XR];exact c)];rfl
def b5R (hl:l.length=vt):nz (hd9 l) (9+vt)=l.count 0:=by
 rw[<-hl,wB l _ (Yd _),Yl (Yd _)]
def a9T (hf:FrN (n,ds))(h1:1<=k)(hk:k<(wr n ds).length)(e:S.now= .reads ((wr n ds).take k)):Tn S ⟨"reads",k,1,(wr n ds).getD k 0,"",S.tot⟩ { S with now:=if k+1=(wr n ds).length then .tlR (nmB (kp (wr n ds))) (daB (kp (wr n ds))) 0 0 else .reads ((wr n ds).take (k+1)) }:=by
 have W:=lW hf
 have hg:(wr n ds).getD k 0=(wr n ds)[k]:=getD_get hk
 have et:(wr n ds).take k++[(wr n ds).getD k 0]=(wr n ds).take (k+1):=by rw[hg,Yh hk]
 refine⟨?_,by unfold aZ;rw[e],?_,?_,rfl⟩
 ·rw[e]
  show (("reads",((wr n ds).take k).length):Str×Nat)=_
  rw[Yu,Jl (by omega)]
 ·show (wr n ds).getD k 0=0\/(wr n ds).getD k 0=1
  rw[hg]
  exact W.wbits _ (YN hk)
 show bH S ((wr n ds).getD k 0)=_
 rw[lQ e,et]
 by_cases c:k+1=(wr n ds).length
 ·rw[c,Yl (Yd _),W.whole,if_neg (by decide +kernel),if_pos rfl,if_pos rfl]
 ·rw[W.more (by omega),if_pos rfl,if_neg c]
structure Part (w1 w2:List Int)(k:Nat):Prop where
 tk:w1.take k=w2.take k
 h1:k<w1.length
 one:w1.getD k 0=1
 zero:w2.getD k 0=0
 k1:1<=k
 k16:k<=16
 nine:(kp (w1.take k)).length<9
def a7B {c r1 r2:List Int}(h0:c≠ [])(h8:c.length<=8):Part (put (c++1::r1)) (put (c++0::r2)) (put c).length:=by
 obtain⟨s1,e1⟩:=Wm.put_pre c 1 r1
 obtain⟨s2,e2⟩:=Wm.put_pre c 0 r2
 have l:=mG c
 have c1:1<=c.length:=List.length_pos_iff.mpr h0
 have t:∀(b:Int)(s:List Int),(put c++b::s).take (put c).length=put c:=fun b s=>by rw[Y8 (Yd _),Yl (Yd _)]
 have g:∀(b:Int)(s:List Int),(put c++b::s).getD (put c).length 0=b:=fun b s=>by rw[Ye,YF (Yd _),XM];rfl
 rw[e1,e2]
 refine⟨by rw[t,t],by rw[Yb];show _<_+(s1.length+1);omega,g _ _,g _ _,by omega,by omega,?_⟩
 rw[t,a7W]
 omega
def a9N {n2:Nat}{ds2:List Int}(hs:s<8)(h:∀j,s<j->n1.testBit j=n2.testBit j)(h1:n1.testBit s=true)(h2:n2.testBit s=false):∃k,Part (wr n1 ds1) (wr n2 ds2) k:=by
 obtain⟨c,t1,t2,e1,e2,hc⟩:=Wm.bitsI_split hs h h1 h2
 have f:∀(n:Nat)(ds:List Int)(b:Int)(t:List Int),bM n 8=c++b::t->∃r,fb (n:Int) ds=(0::c)++b::r:=fun n ds b t e=>by
  refine⟨t++bM ds.length 3++(ds.map b8).flatten++ck (hd (n:Int) ds),?_⟩
  have eh:hd (n:Int) ds= [0]++b8 (n:Int)++bM ds.length 3++(ds.map b8).flatten:=rfl
  have e8:b8 (n:Int)=c++b::t:=by unfold b8;rw[YG];exact e
  show hd (n:Int) ds++ck (hd (n:Int) ds)=_
  generalize ck (hd (n:Int) ds)=z
  rw[eh,e8]
  simp only[YB,List.cons_append,List.nil_append]
 obtain⟨r1,q1⟩:=f n1 ds1 1 t1 e1
 obtain⟨r2,q2⟩:=f n2 ds2 0 t2 e2
 refine⟨(put (0::c)).length,?_⟩
 show Part (put (fb (n1:Int) ds1)) (put (fb (n2:Int) ds2)) _
 rw[q1,q2]
 exact a7B (by intro z;cases z) (by rw[YE];omega)
def a0Y (s:Bool)(vt:Nat):TL s (hd9 (List.replicate vt 1)) vt:=TL.of9 s Yz fun z hz=> .inr (Xn hz)
def a0X (vt:Nat):nz (hd9 (List.replicate vt 1)) (9+vt)=0:=by
 rw[b5R Yz]
 exact List.count_eq_zero.mpr fun h=>by have:=Xn h;cases this
def b3M:mvd 0 (-1)=0:=by decide
theorem b8J:∀s:Stc,PyData.strOk s.shown.1=true
 |.free _=>(by decide +kernel:PyData.strOk ("free":Str)=true)
 |.speaks _ _ _=>(by decide +kernel:PyData.strOk ("speaks":Str)=true)
 |.reads _=>(by decide +kernel:PyData.strOk ("reads":Str)=true)
 |.tlS _ _=>(by decide +kernel:PyData.strOk ("tail speaks":Str)=true)
 |.tlR _ _ _ _=>(by decide +kernel:PyData.strOk ("tail reads":Str)=true)
 |.flag _ _=>(by decide +kernel:PyData.strOk ("flag":Str)=true)
 |.settles _=>(by decide +kernel:PyData.strOk ("settles":Str)=true)
 |.rests _=>(by decide +kernel:PyData.strOk ("rests":Str)=true)
 |.off=>(by decide +kernel:PyData.strOk ("off":Str)=true)
def a7R {v:HO}(hp:H1 p=none)(hdp:H1 dp=none)(hin:∀x,o x->x=p\/upd (upd H1 dp (.own p)) p v x=none)(hk:∀x u,x≠p->upd (upd H1 dp (.own p)) p v x=some u->H' x=some u):(∀x,o x->H1 x=none)/\Same H1 H':=by
 refine⟨fun x hx=>?_,fun x u e=>hk x u (aO e hp) (by rw[aH (aO e hp),aH (aO e hdp)];exact e)⟩
 rcases hin x hx with h | h
 ·rw[h];exact hp
 ·by_cases c:x=p
  ·rw[c];exact hp
  ·rw[aH c]at h
   by_cases d:x=dp
   ·rw[d];exact hdp
   ·rw[aH d]at h;exact h
def a1H (p:Str->Prop)(w0:p "")(w1:p "begins")(w2:p "loses")(w3:p "done")(w4:p "takes")(w5:p "fault")(w6:p "refuses")(w7:p "off")(S:PS)(b:Int):p (bH S b).1:=by
 have hg:∀st w nx,p w->p (dY S st w nx).1:=fun st w nx h=>by unfold dY;split <;> first | exact w7 | exact h
 have h1:∀sp,p (cT S sp).1:=fun sp=>by unfold cT;exact hg _ _ _ w5
 have h2:∀sp,p (eQ S sp).1:=fun sp=>by unfold eQ;exact hg _ _ _ w6
 have h3:p (iG S).1:=by unfold iG;exact hg _ _ _ w0
 cases en:S.now with
 |free k=>rw[jB en];(repeat' split) <;> first | exact h1 _ | exact w0 | exact w1
 |speaks n ds k=>rw[iU en];(repeat' split) <;> first | exact h1 _ | exact w0 | exact w2
 |reads h=>rw[lQ en];(repeat' split) <;> first | exact h1 _ | exact w0
 |tlS v c=>rw[mV en];(repeat' split) <;> first | exact h1 _ | exact h2 _ | exact w0 | exact w3
 |tlR n ds v c=>rw[mW en];(repeat' split) <;> first | exact h1 _ | exact h2 _ | exact w0 | exact w4
 |flag l m=>rw[sS en];(repeat' split) <;> exact w0
 |settles m=>rw[mX en];(repeat' split) <;> first | exact h3 | exact w0
 |rests l=>rw[lO en];(repeat' split) <;> first | exact h1 _ | exact w0
 |off=>rw[wQ en];exact w0
def b9R (S:PS)(b:Int):PyData.strOk (bH S b).1=true:=a1H (fun w=>PyData.strOk w=true) (by decide +kernel) (by decide +kernel) (by decide +kernel) (by decide +kernel) (by decide +kernel) (by decide +kernel) (by decide +kernel) (by decide +kernel) S b
def SqL.keepT {P:Addr}{xs:List V}{pos:Pos}{q:Str}(h:SqL K H a xs)(hT:a3Y P pos q H)(g:∀x u,H x=some u->x≠P->H' x=some u):SqL K H' a xs:=by
 obtain⟨ps,e,_⟩:=hT
 rcases h with (h | ⟨o,h⟩) | h
 ·exact .inl (.inl (g _ _ h fun z=>by rw[z,e]at h;cases h))
 ·exact .inl (.inr ⟨o,g _ _ h fun z=>by rw[z,e]at h;cases h⟩)
 ·exact .inr h
def b0Y {kvs:List (Key×V)}{k:Key}{v:V}:(putK kvs k v).length<=kvs.length+1:=by
 unfold putK
 split
 ·rw[Ya];exact Xx _
 ·rw[Yb];exact Yd _
def evD (e:Nat×Nat×Str):PyData:= .tuple [.int ((e.1:Nat):Int),.int ((e.2.1:Nat):Int),.str e.2.2]
theorem dR.dvs:∀{vs:List V}{es:List (Nat×Nat×Str)},dR H vs es->DVs K H vs (es.map evD)
 |_,_,.nil=> .nil
 |_,_,.cons a r=> .cons (.tup (SqT.of a) (.cons (.int _) (.cons (.int _) (.cons (.str _) .nil)))) r.dvs
def zJ (es:List (Nat×Nat×Str))(h:∀e∈es,PyData.strOk e.2.2=true):SeqAt.shaped (.list (es.map evD))=true:=a0L fun d hd=>by
 obtain⟨e,he,rfl⟩:=Y2.mp hd
 have:=h e he
 unfold evD
 refine⟨?_,?_⟩
 ·simp only[PyData.canLay0,PyData.canLayAll0,this,Bool.true_and,Bool.and_true]
 ·simp only[PyData.depth,PyData.depthAll]
  decide
def a2C (e:S.now= .free 0)(hw:S.wt= []):Tn S ⟨"free",0,1,0,"",S.tot⟩ { S with now:= .reads [0] }:=by
 have sa:aZ S=1:=by rw[lZ e];exact if_pos hw
 exact⟨by rw[e];rfl,sa,.inl rfl,by show bH S 0=_;rw[jB e,if_neg (by rw[sa];decide),if_pos rfl],rfl⟩
abbrev hd1 (vt:Nat):List Int:=hd9 (List.replicate vt 1)
def iI (w:List Int)(vt t:Nat):Int:=(w++hd1 vt).getD t 0
def oW {w:List Int}{t:Nat}(h:t<w.length):iI w vt t=w.getD t 0:=by
 unfold iI
 rw[Ye,Ye,YL h]
def xM {w:List Int}{t:Nat}(h:¬ t<w.length):iI w vt t=(hd1 vt).getD (t-w.length) 0:=by
 unfold iI
 rw[Ye,Ye,YF (by omega)]
def on9 (h:j<9+vt):(hd1 vt).getD j 0=if j=1 then 0 else 1:=by
 by_cases c:j<9
 ·exact zA _ j c
 ·rw[show j=9+(j-9) by omega,wU,getD_get (by rw[Yz];omega),List.getElem_replicate,if_neg (by omega)]
def b2L {t:Nat}(hf:FrN (n,ds))(h:t<(wr n ds).length+(9+vt)):iI (wr n ds) vt t=0\/iI (wr n ds) vt t=1:=by
 by_cases c:t<(wr n ds).length
 ·rw[oW c,getD_get c]
  exact(lW hf).wbits _ (YN c)
 ·rw[xM c,on9 (by omega)]
  by_cases d:t-(wr n ds).length=1
  ·exact .inl (if_pos d)
  ·exact .inr (if_neg d)
def stQ (S:PS)(n1:Nat)(ds1:List Int)(n:Nat)(ds:List Int)(k t:Nat):PS:=
 if t=0 then S else if t<=k then { S with now:= .speaks n1 ds1 t } else if t<(wr n ds).length then { S with now:= .reads ((wr n ds).take t) } else if t<(wr n ds).length+(9+S.vt) then { S with now:= .tlR n ds (t-(wr n ds).length) (nz (hd1 S.vt) (t-(wr n ds).length)) } else { S with up:=if lH S n=true then S.up++[(n,ds)] else S.up,now:= .rests 3 }
def wdQ (k e t:Nat):Str:=if t=0 then "begins" else if t=k then "loses" else if t=e then "takes" else ""
theorem a4W {t:Nat}(h0:S.tot=0)(hf:FrN (n,ds))(hv:1<=S.vt)(hk2:k<(wr n ds).length)(ck:k<t)(ht:t<(wr n ds).length+(9+S.vt)):
  iI (wr n ds) S.vt t<=aZ (stQ S n1 ds1 n ds k t)/\(t=(wr n ds).length+1->aZ (stQ S n1 ds1 n ds k t)=0)/\bH (stQ S n1 ds1 n ds k t) (iI (wr n ds) S.vt t)=(wdQ k ((wr n ds).length+(8+S.vt)) t,stQ S n1 ds1 n ds k (t+1)):=by
 have l2:=lL hf
 have hb:=b2L hf ht
 have c0:¬ t=0:=by omega
 have c1:¬ t<k:=by omega
 have c2:¬ t=k:=by omega
 have le1:iI (wr n ds) S.vt t<=1:=by rcases hb with z | z <;> rw[z] <;> decide
 by_cases c3:t<(wr n ds).length
 ·have T:=a9T (S:={ S with now:= .reads ((wr n ds).take t) }) hf (by omega) c3 rfl
  have T2:=T.hr
  dsimp only at T2
  rw[oW c3]at le1 ⊢
  unfold stQ wdQ
  rw[if_neg c0,if_neg (by omega),if_pos c3,if_neg c0,if_neg c2,if_neg (by omega),if_neg (by omega),if_neg (by omega)]
  refine⟨le1,fun z=>by omega,?_⟩
  rw[T2]
  have hkp:kp (wr n ds)=fb (n:Int) ds:=(lW hf).kp
  by_cases c4:t+1=(wr n ds).length
  ·rw[if_pos c4,if_neg (by omega),if_pos (by omega),hkp,b2B hf.1,b2C hf.1 hf.2.1 hf.2.2,c4,XM]
   rfl
  ·rw[if_neg c4,if_pos (by omega)]
 have tl:=a0Y false S.vt
 rw[xM c3]at le1 ⊢
 unfold stQ wdQ
 rw[if_neg c0,if_neg (by omega),if_neg c3,if_pos ht,if_neg c0,if_neg c2,if_neg (show ¬ t+1=0 by omega),if_neg (show ¬ t+1<=k by omega),if_neg (show ¬ t+1<(wr n ds).length by omega)]
 obtain⟨j,ej⟩:∃j,t-(wr n ds).length=j:=⟨_,rfl⟩
 have hj:j<9+S.vt:=by omega
 rw[ej]
 have hs:aZ { S with now:= .tlR n ds j (nz (hd1 S.vt) j) }=(hd1 S.vt).getD j 0:=by
  show gH false j=_
  rw[on9 hj]
  unfold gH
  by_cases d:j=1
  ·rw[if_pos ⟨d,rfl⟩,if_pos d]
  ·rw[if_neg fun z=>d z.1,if_neg d]
 refine⟨by rw[hs];exact Int.le_refl _,fun z=>?_,?_⟩
 ·rw[hs,show j=1 by omega];rfl
 by_cases c4:j<8+S.vt
 ·rw[if_neg (by omega),if_pos (by omega),show t+1-(wr n ds).length=j+1 by omega,mW rfl]
  show (if cF S.vt false j (nz (hd1 S.vt) j) ((hd1 S.vt).getD j 0)="more" then _ else _)=_
  rw[if_pos (tl.more c4)]
  rfl
 ·have ej8:j=8+S.vt:=by omega
  subst ej8
  rw[if_pos (by omega),if_neg (by omega)]
  have w:=tl.last hv
  rw[a0X,if_neg (Y0 _)]at w
  rw[mW rfl]
  show (if cF S.vt false (8+S.vt) (nz (hd1 S.vt) (8+S.vt)) ((hd1 S.vt).getD (8+S.vt) 0)="more" then _ else _)=_
  rw[if_neg (by rw[w];decide +kernel)]
  show (if cF S.vt false (8+S.vt) (nz (hd1 S.vt) (8+S.vt)) ((hd1 S.vt).getD (8+S.vt) 0)="fault" then _ else _)=_
  rw[if_neg (by rw[w];decide +kernel)]
  show (if cF S.vt false (8+S.vt) (nz (hd1 S.vt) (8+S.vt)) ((hd1 S.vt).getD (8+S.vt) 0)="refused" then _ else _)=_
  rw[if_neg (by rw[w];decide +kernel)]
  show (("takes",{ S with tot:=mvd S.tot (-1),up:=if lH S n=true then S.up++[(n,ds)] else S.up,now:= .rests 3 }):Str×PS)=_
  rw[h0,b3M,<-h0]
theorem b4J {t:Nat}{rs:List Fr}(e:S.now= .free 0)(hw:S.wt=(n1,ds1)::rs)(h0:S.tot=0)(hf1:FrN (n1,ds1))(hf:FrN (n,ds))(hv:1<=S.vt)(p:Part (wr n1 ds1) (wr n ds) k)(ht:t<(wr n ds).length+(9+S.vt)):
  iI (wr n ds) S.vt t<=aZ (stQ S n1 ds1 n ds k t)/\(t=(wr n ds).length+1->aZ (stQ S n1 ds1 n ds k t)=0)/\bH (stQ S n1 ds1 n ds k t) (iI (wr n ds) S.vt t)=(wdQ k ((wr n ds).length+(8+S.vt)) t,stQ S n1 ds1 n ds k (t+1)):=by
 have l2:=lL hf
 have hk2:k<(wr n ds).length:=by have:=p.k16;omega
 have k1:=p.k1
 have hb:=b2L hf ht
 by_cases c0:t=0
 ·subst c0
  have T:=vH (S:=S) e hw fun c=>by rw[h0]at c;exact absurd c (by decide)
  have b0:iI (wr n ds) S.vt 0=0:=by
   rw[oW (by omega)]
   have:=tM (n:=n) (ds:=ds)
   cases q:wr n ds with
   |nil=>rw[q]at l2;exact absurd l2.1 (by decide)
   |cons x xs=>rw[q]at this;cases this;rfl
  rw[b0]
  unfold stQ wdQ
  rw[if_pos rfl,if_pos rfl,if_neg (by omega),if_pos (by omega)]
  exact⟨Int.le_of_eq T.sa.symm,fun z=>by omega,T.hr⟩
 by_cases c1:t<k
 ·have T:=vG (S:={ S with now:= .speaks n1 ds1 t }) rfl hf1 (by have:=p.h1;omega)
  have eb:(wr n1 ds1).getD t 0=(wr n ds).getD t 0:=by
   have a:∀w:List Int,w.getD t 0=(w.take k).getD t 0:=fun w=>by rw[Ye,Ye,List.getElem?_take,if_pos c1]
   rw[a,p.tk,<-a]
  have T2:=T.hr
  have T1:=T.sa
  dsimp only at T1 T2
  rw[if_neg (by have:=p.h1;omega)]at T2
  rw[eb]at T1 T2
  rw[oW (by omega)]
  unfold stQ wdQ
  rw[if_neg c0,if_pos (by omega),if_neg c0,if_neg (by omega),if_neg (by omega),if_neg (by omega),if_pos (by omega)]
  exact⟨Int.le_of_eq T1.symm,fun z=>by omega,T2⟩
 by_cases c2:t=k
 ·subst c2
  have e2:(wr n1 ds1).take t++[0]=(wr n ds).take (t+1):=by
   rw[p.tk,Yh hk2,<-getD_get hk2,p.zero]
  rw[oW (by omega),p.zero]
  unfold stQ wdQ
  rw[if_neg c0,if_pos (Yd _),if_neg c0,if_pos rfl,if_neg (by omega),if_neg (by omega),if_pos (by have:=p.k16;omega)]
  refine⟨?_,fun z=>by omega,?_⟩
  ·show 0<=(wr n1 ds1).getD t 0
   rw[p.one];decide
  ·rw[iU rfl,e2,(lW hf).more (by have:=p.k16;omega),if_neg (by decide +kernel),if_pos ⟨p.one,rfl,p.nine⟩]
 exact a4W h0 hf hv hk2 (by omega) ht
def stN (S:PS)(n:Nat)(ds:List Int)(t:Nat):PS:=
 if t=0 then S else if t<(wr n ds).length then { S with now:= .speaks n ds t } else if t<(wr n ds).length+(9+S.vt) then { S with now:= .tlS (t-(wr n ds).length) (nz (hd1 S.vt) (t-(wr n ds).length)) } else { S with wt:=S.wt.tail,now:= .rests 3 }
def wdN (e t:Nat):Str:=if t=0 then "begins" else if t=e then "done" else ""
theorem b4K {t:Nat}{rs:List Fr}(e:S.now= .free 0)(hw:S.wt=(n,ds)::rs)(h0:S.tot=0)(hf:FrN (n,ds))(hv:1<=S.vt)(ht:t<(wr n ds).length+(9+S.vt)):
  aZ (stN S n ds t)=(if t<(wr n ds).length then iI (wr n ds) S.vt t else 1)/\bH (stN S n ds t) (iI (wr n ds) S.vt t)=(wdN ((wr n ds).length+(8+S.vt)) t,stN S n ds (t+1)):=by
 have l2:=lL hf
 by_cases c0:t=0
 ·subst c0
  have T:=vH (S:=S) e hw fun c=>by rw[h0]at c;exact absurd c (by decide)
  have b0:iI (wr n ds) S.vt 0=0:=by
   rw[oW (by omega)]
   have:=tM (n:=n) (ds:=ds)
   cases q:wr n ds with
   |nil=>rw[q]at l2;exact absurd l2.1 (by decide)
   |cons x xs=>rw[q]at this;cases this;rfl
  rw[b0]
  unfold stN wdN
  rw[if_pos rfl,if_pos rfl,if_pos (by omega),if_neg (by omega),if_pos (by omega)]
  exact⟨T.sa,T.hr⟩
 by_cases c3:t<(wr n ds).length
 ·have T:=vG (S:={ S with now:= .speaks n ds t }) rfl hf c3
  have T2:=T.hr
  dsimp only at T2
  rw[oW c3]
  unfold stN wdN
  rw[if_neg c0,if_pos c3,if_pos c3,if_neg c0,if_neg (by omega),if_neg (by omega)]
  refine⟨T.sa,?_⟩
  rw[T2]
  by_cases c4:t+1=(wr n ds).length
  ·rw[if_pos c4,if_neg (by omega),if_pos (by omega),c4,XM]
   rfl
  ·rw[if_neg c4,if_pos (by omega)]
 have tl:=a0Y true S.vt
 rw[xM c3]
 unfold stN wdN
 rw[if_neg c0,if_neg c3,if_pos ht,if_neg c3,if_neg c0,if_neg (show ¬ t+1=0 by omega),if_neg (show ¬ t+1<(wr n ds).length by omega)]
 obtain⟨j,ej⟩:∃j,t-(wr n ds).length=j:=⟨_,rfl⟩
 have hj:j<9+S.vt:=by omega
 rw[ej]
 refine⟨if_neg fun z=>(by cases z.2),?_⟩
 by_cases c4:j<8+S.vt
 ·rw[if_neg (by omega),if_pos (by omega),show t+1-(wr n ds).length=j+1 by omega,mV rfl]
  show (if cF S.vt true j (nz (hd1 S.vt) j) ((hd1 S.vt).getD j 0)="more" then _ else _)=_
  rw[if_pos (tl.more c4)]
  rfl
 ·have ej8:j=8+S.vt:=by omega
  subst ej8
  rw[if_pos (by omega),if_neg (by omega)]
  have w:=tl.last hv
  rw[a0X,if_neg (Y0 _)]at w
  rw[mV rfl]
  show (if cF S.vt true (8+S.vt) (nz (hd1 S.vt) (8+S.vt)) ((hd1 S.vt).getD (8+S.vt) 0)="more" then _ else _)=_
  rw[if_neg (by rw[w];decide +kernel)]
  show (if cF S.vt true (8+S.vt) (nz (hd1 S.vt) (8+S.vt)) ((hd1 S.vt).getD (8+S.vt) 0)="fault" then _ else _)=_
  rw[if_neg (by rw[w];decide +kernel)]
  show (if cF S.vt true (8+S.vt) (nz (hd1 S.vt) (8+S.vt)) ((hd1 S.vt).getD (8+S.vt) 0)="refused" then _ else _)=_
  rw[if_neg (by rw[w];decide +kernel)]
  show (("done",{ S with tot:=mvd S.tot (-1),wt:=S.wt.tail,now:= .rests 3 }):Str×PS)=_
  rw[h0,b3M,<-h0]
def evA (wd:Nat->Nat->Str)(t:Nat):Nat->List (Nat×Nat×Str)
 |0=>[]
 |n+1=>evA wd t n++evt t n (wd n t)
def evR (wd:Nat->Nat->Str)(m:Nat):Nat->List (Nat×Nat×Str)
 |0=>[]
 |t+1=>evR wd m t++evA wd t m
structure b7P (R0 R:RS)(m:Nat)(tr:Nat->Nat->PS)(bs:Nat->Int)(wd:Nat->Nat->Str)(t:Nat):Prop where
 ln:R.ps.length=m
 ps:∀i,i<m->R.ps[i]? =some (tr i t)
 bo:R.bo=(List.range t).map bs
 ev:R.ev=evR wd m t
 ow:R.ow=R0.ow
 l2:R.sa.length=m
 l4:R.he.length=m
 sa:∀x∈R.sa,x.length<=t
 he:∀x∈R.he,x.length<=t
def qI {t:Nat}(h:∀x∈xs,x.length<=t)(hy:y.length<=t):∀x∈xs.set i y,x.length<=t:=fun x hx=>(List.mem_or_eq_of_mem_set hx).elim (h x) fun z=>z▸hy
theorem a8D {R:RS}{t:Nat}{bs:Nat->Int}(hl:R.ps.length=m)(hp:∀i,i<m->R.ps[i]? =some (tr i t))(l2:R.sa.length=m)(l4:R.he.length=m)(hb:R.bo.length=t)(st:∀i,i<m->bH (tr i t) (bs t)=(wd i t,tr i (t+1)))(sa:∀x∈R.sa,x.length<=t)(he:∀x∈R.he,x.length<=t):
  ∀n:Nat,n<=m->(∀i,i<n->(bC R ((List.range m).map fun _=>bs t) n).ps[i]? =some (tr i (t+1)))/\(bC R ((List.range m).map fun _=>bs t) n).ev=R.ev++evA wd t n/\(∀x∈(bC R ((List.range m).map fun _=>bs t) n).sa,x.length<=t+1)/\∀x∈(bC R ((List.range m).map fun _=>bs t) n).he,x.length<=t+1
 |0,_=>⟨fun i hi=>absurd hi (Y0 _),(YQ _).symm,fun x hx=>X9 (sa x hx),fun x hx=>X9 (he x hx)⟩
 | n + 1,h=>by
  obtain⟨h1,h2,h3,h4⟩:=a8D hl hp l2 l4 hb st sa he n (by omega)
  have e1:=hp n (by omega)
  have e2:((List.range m).map fun _=>bs t)[n]? =some (bs t):=by rw[Yk,Xv (by omega)];rfl
  obtain⟨x,e3⟩:∃x,R.sa[n]? =some x:=⟨_,Yc (by omega)⟩
  obtain⟨y,e4⟩:∃y,R.he[n]? =some y:=⟨_,Yc (by omega)⟩
  have hx:=sa x (Yx e3)
  have hy:=he y (Yx e4)
  rw[jL e1 e2 e3 e4]
  unfold rE
  rw[st n (by omega)]
  refine⟨fun i hi=>?_,?_,qI h3 (by rw[Yb];exact Jd hx),qI h4 (by rw[Yb];exact Jd hy)⟩
  ·show ((bC R _ n).ps.set n (tr n (t+1)))[i]? =_
   rw[Xg]
   by_cases c:n=i
   ·subst c
    rw[if_pos rfl,if_pos (by rw[(gQ R _ n).2.2.1];omega)]
   ·rw[if_neg c]
    exact h1 i (by omega)
  ·show (bC R _ n).ev++evt R.bo.length n (wd n t)=_
   rw[h2,hb,YB]
   rfl
theorem b8L {R:RS}{bs:Nat->Int}(h0:b7P R R m tr bs wd 0)(st:∀t,t<e->∀i,i<m->bH (tr i t) (bs t)=(wd i t,tr i (t+1)))(b01:∀t,t<e->bs t=0\/bs t=1)(le:∀t,t<e->∀i,i<m->bs t<=aZ (tr i t))(at_:∀t,t<e->∃i,i<m/\aZ (tr i t)=bs t):∀t,t<=e->b7P R (cI R t) m tr bs wd t/\(t<e->jO (cI R t)=bs t)
 | t, ht =>by
  have A :b7P R (cI R t) m tr bs wd t:=by
   cases t with
   |zero=>exact h0
   | succ t=>
    obtain⟨a,ab⟩:=b8L h0 st b01 le at_ t (by omega)
    have eb:=ab (by omega)
    have g:=gQ (cI R t) ((List.range m).map fun _=>bs t) m
    obtain⟨x1,x2,x3,x4⟩:=a8D a.ln a.ps a.l2 a.l4 (by rw[a.bo,Ya,YC]) (fun i hi=>st t (by omega) i hi) a.sa a.he m (Yd _)
    have es:cI R (t+1)={ bC (cI R t) ((List.range m).map fun _=>bs t) m with bo:=(cI R t).bo++[bs t] }:=by
     show lJ (cI R t) _ _=_
     unfold lJ
     rw[eb,a.ln]
    rw[es]
    exact⟨g.2.2.1.trans a.ln,x1,by show (cI R t).bo++[bs t]=_;rw[a.bo,Xu,Yj];rfl,by show (bC _ _ m).ev=_;rw[x2,a.ev];rfl,g.2.1.trans a.ow,g.2.2.2.1.trans a.l2,g.2.2.2.2.1.trans a.l4,x3,x4⟩
  refine⟨A,fun h=>?_⟩
  have mem:∀z,z∈(cI R t).ps.map aZ↔∃i,i<m/\aZ (tr i t)=z:=fun z=>by
   rw[Y2]
   constructor
   ·rintro ⟨S,hS,rfl⟩
    obtain⟨i,hi,ei⟩:=Y7 hS
    have hi':i<m:=A.ln▸hi
    have:=A.ps i hi'
    rw[Yc hi,ei]at this
    cases this
    exact⟨i,hi',rfl⟩
   ·rintro ⟨i,hi,rfl⟩
    exact⟨_,Yx (A.ps i hi),rfl⟩
  unfold jO
  obtain⟨i,hi,ei⟩:=at_ t h
  rcases b01 t h with z | z
  ·rw[if_pos ((mem 0).mpr ⟨i,hi,ei.trans z⟩),z]
  ·rw[if_neg fun q=>?_,z]
   obtain⟨j,hj,ej⟩:=(mem 0).mp q
   have:=le t h j hj
   rw[ej,z]at this
   exact absurd this (by decide)
theorem a0I:∀(k a b:Nat),a<2 ^ k->b<a->∃s,s<k/\(∀j,s<j->a.testBit j=b.testBit j)/\a.testBit s=true/\b.testBit s=false
 |0,a,b,h,h2=>by rw[Nat.pow_zero]at h;omega
 | k + 1,a,b,h,h2=>by
  rw[XJ]at h
  by_cases c:b / 2<a / 2
  ·obtain⟨s,s1,s2,s3,s4⟩:=a0I k (a / 2) (b / 2) (by omega) c
   refine⟨s+1,by omega,fun j hj=>?_,by rw[XG];exact s3,by rw[XG];exact s4⟩
   cases j with
   |zero=>omega
   |succ j=>rw[XG,XG];exact s2 j (by omega)
  ·have e:a / 2=b / 2:=by omega
   refine⟨0,by omega,fun j hj=>?_,?_,?_⟩
   ·cases j with
    |zero=>omega
    |succ j=>rw[XG,XG,e]
   ·rw[Nat.testBit_zero];exact Yn (by omega)
   ·rw[Nat.testBit_zero];exact Yr (by omega)
def map_getD (l:List Int):(List.range l.length).map (fun t=>l.getD t 0)=l:=by
 refine List.ext_getElem (by rw[Ya,YC]) fun i h1 h2=>?_
 rw[List.getElem_map,List.getElem_range,getD_get h2]
def a7T {x:Nat}(h:x<2 ^ (k+1))(t:x.testBit k=false):x<2 ^ k:=by
 rcases XN x (2 ^ k) with z | z
 ·exact z
 ·have p:=X0 k
  have h1:x / 2 ^ k=1:=by
   have a:1<=x / 2 ^ k:=(Nat.le_div_iff_mul_le p).mpr (by omega)
   have b:x / 2 ^ k<2:=Nat.div_lt_of_lt_mul (by rw[XJ]at h;exact h)
   omega
  rw[Y4,h1]at t
  exact absurd t (by decide)
def dvS (x k:Nat):Nat:=if x.testBit k=true then x ^^^ 64647 <<< (k-15) else x
def b6R {x:Nat}(hk:15<=k)(h9:k<=90)(h:x<2 ^ (k+1))(e:R x=N):dvS x k<2 ^ k/\R (dvS x k)=N:=by
 unfold dvS
 by_cases c:x.testBit k=true
 ·rw [if_pos c]
  refine⟨a7T ?_ ?_,by rw[a9G (by omega)];exact e⟩
  ·refine X3 h ?_
   rw[Xl,show k+1=16+(k-15) by omega,Nat.pow_add]
   exact Nat.mul_lt_mul_of_pos_right (by decide) (X0 _)
  ·rw[XY,c,Jc,show k-(k-15)=15 by omega,Yn (by omega)]
   decide
 ·rw[if_neg c]
  exact⟨a7T h (Bool.not_eq_true _▸c),e⟩
def dvN (x:Nat):Nat->Nat
 |0=>x
 |i+1=>dvS (dvN x i) (90-i)
theorem zM {x:Nat}(h:x<2 ^ 91):∀i,i<=76->dvN x i<2 ^ (91-i)/\R (dvN x i)=R x
 |0,_=>⟨h,rfl⟩
 | i+1,hi=>by
  obtain⟨a,b⟩:=zM h i (by omega)
  have:=b6R (x:=dvN x i) (k:=90-i) (by omega) (by omega) (by rw[show 90-i+1=91-i by omega];exact a) b
  rw[show 91-(i+1)=90-i by omega]
  exact this
def b3L {d:Int}(h:byt d=true):nm (b8 d)=d.toNat:=by
 have:=gP.mp h
 exact gA (by show d.toNat<256;omega)
def b5U (hn:n<256)(hk:k<8):nm (hdD ((n:Nat):Int) k [])=n*8+k:=by
 unfold hdD
 rw[List.map_nil,List.flatten_nil,YQ,qG (gG (fun b hb=> .inl (Yi.mp hb)) (nQ _)) (gK _ _),bZ,gA (show k<2 ^ 3 from hk),qG (fun b hb=> .inl (Yi.mp hb)) (nQ _),b3L (gP.mpr ⟨by omega,by omega⟩),YG]
 have:nm [0]=0:=rfl
 rw[this]
 omega
def b5T {n:Int}{d:Int}(h:byt d=true):nm (hdD n k (ds++[d]))=nm (hdD n k ds)*256+d.toNat:=by
 rw[wR,qG (mZ _ _ _) (nQ _),iW,b3L h,Nat.mul_comm]
def b3Q {n:Int}(hl:ds.length<=7):nm (hd n ds)*32768<2 ^ 91:=by
 have h:=lK (mZ n ds.length ds)
 rw[pI]at h
 have h2:2 ^ (12+8*ds.length)<=2 ^ 68:=YA (by decide) (by omega)
 show nm (hdD n ds.length ds)*32768<2 ^ 91
 omega
def b6Q {n:Int}(hl:ds.length<=7):dvN (nm (hd n ds)*32768) 76=ckn (hd n ds):=by
 obtain⟨a,b⟩:=zM (b3Q (n:=n) hl) 76 (by decide)
 have e:ckn (hd n ds)=R (nm (hd n ds)*32768):=by
  unfold ckn rst
  rw[qG (mY _ _) (tH 15),b3K,Nat.add_zero,show (zs 15).length=15 from rfl,Nat.mul_comm]
 rw[e,<-b,pN a]
def b8Z {n:Int}:nm (fb n ds)=nm (hd n ds)*32768+ckn (hd n ds):=by
 unfold fb
 rw[qG (mY _ _) (a1S _),zQ,Nat.mul_comm]
 unfold ck
 rw[gA (yN _)]
def b6O {n:Int}(h:i<27+8*ds.length):(fb n ds)[i]? =some (fJ (nm (fb n ds)) (26+8*ds.length-i)):=by
 have e:=a9E (pJ n ds)
 have hl:=lU n ds
 rw[hl]at e
 rw[<-e,gA (by have:=lK (pJ n ds);rw[hl]at this;exact this)]
 unfold bM
 rw[Yk,Xv h,Jm,show 27+8*ds.length-1-i=26+8*ds.length-i by omega]
def qY (x k:Nat):Builtin.bitAnd (((x:Nat):Int) / 2 ^ ((k:Nat):Int).toNat) 1=fJ x k:=b3T x k
def a2P {l:Nat}(h:l<=7):Builtin.Range.rangeSize ((26:Int)+8*((l:Nat):Int)) (-1) (-1)=((27+8*l:Nat):Int):=by
 have:l=0\/l=1\/l=2\/l=3\/l=4\/l=5\/l=6\/l=7:=by omega
 rcases this with rfl | rfl | rfl | rfl | rfl | rfl | rfl | rfl <;> decide
def b0Q {l:Nat}(h:l<=7):Builtin.divisionGoesByPylong (-1-((26:Int)+8*((l:Nat):Int))) (-1)=false:=by
 have:l=0\/l=1\/l=2\/l=3\/l=4\/l=5\/l=6\/l=7:=by omega
 rcases this with rfl | rfl | rfl | rfl | rfl | rfl | rfl | rfl <;> decide
def yL {l:Nat}(h:l<=7):Builtin.Range.small ((26:Int)+8*((l:Nat):Int)) (-1) (-1)=true:=by
 have:l=0\/l=1\/l=2\/l=3\/l=4\/l=5\/l=6\/l=7:=by omega
 rcases this with rfl | rfl | rfl | rfl | rfl | rfl | rfl | rfl <;> decide
def a9Z (K:W.Frag):Sp:=fun vs H Q _=>∃(d:Addr)(n:Nat)(ds:List Int),vs= [.int ((n:Nat):Int),.ref d]/\SqL K H d (ds.map V.int)/\n<256/\ds.length<=7/\ds.all byt=true/\∀p H',H p=none->Same H H'->H' p=some (.lst ((put (fb (n:Int) ds)).map V.int))->Q (.ref p) H'
structure J95 (C:Addr)(A:Cs)(P:Addr)(F H:Hp)(r:Addr)(R:RS)(o:Own):Prop where
 rl:iY C A H r R o
 tb:jP P o H
 kp:∀x u,F x=some u->H x=some u/\¬ o x/\x≠P
structure Mu (P:Addr)(F H:Hp)(o:Own)(l:Addr)(vs:List V):Prop where
 at_:H l=some (.lst vs)
 no:¬ o l
 nF:F l=none
section
variable {P:Addr}{F F':Hp}{l l':Addr}{R R':RS}{vs':List V}
def J95.sm (h:J95 C A P F H r R o):Same F H:=fun x u e=>(h.kp x u e).1
def J95.same (h:J95 C A P F H r R o)(g:Same H H'):J95 C A P F H' r R o:=⟨let ⟨w,x⟩:=h.rl;⟨w,x.same g⟩,h.tb.same g,fun x u e=>⟨g _ _ (h.kp x u e).1,(h.kp x u e).2⟩⟩
def J95.pt (h:J95 C A P F H r R o):∃ps,H P=some (.tbl ps):=let ⟨_,ps,e,_⟩:=h.tb;⟨ps,e⟩
def J95.mv (h:J95 C A P F H r R o)(hR:iY C A H' r R' o')(m:Mv o H o' H'):J95 C A P F H' r R' o':=⟨hR,h.tb.mv m,fun x u e=>let ⟨a,b,c⟩:=h.kp x u e;⟨m.1 _ _ a (.inl b),m.out a b,c⟩⟩
def J95.turn (h:J95 C A P F H r R o)(hR:iY C A H' r R' o')(t:jP P o' H')(m:MvP P o H o' H'):J95 C A P F H' r R' o':=⟨hR,t,fun x u e=>let ⟨a,b,c⟩:=h.kp x u e;⟨m.1 _ _ a (.inl fun z=>z.elim b c),fun z=>m.out a (fun z=>z.elim b c) (.inl z),c⟩⟩
def Mu.same (h:Mu P F H o l vs)(g:Same H H'):Mu P F H' o l vs:=⟨g _ _ h.at_,h.no,h.nF⟩
def Mu.nP (h:Mu P F H o l vs)(j:J95 C A P F H r R o):l≠P:=fun z=>by
 obtain⟨ps,e⟩:=j.pt
 have:=h.at_
 rw[z,e]at this;cases this
def Mu.mv (h:Mu P F H o l vs)(m:Mv o H o' H'):Mu P F H' o' l vs:=⟨m.1 _ _ h.at_ (.inl h.no),m.out h.at_ h.no,h.nF⟩
def Mu.turn (h:Mu P F H o l vs)(j:J95 C A P F H r R o)(m:MvP P o H o' H'):Mu P F H' o' l vs:=⟨m.1 _ _ h.at_ (.inl fun z=>z.elim h.no (h.nP j)),fun z=>m.out h.at_ (fun z=>z.elim h.no (h.nP j)) (.inl z),h.nF⟩
def Mu.put (h:Mu P F H o l vs):Mu P F (upd H l (.lst vs')) o l vs':=⟨aC,h.no,h.nF⟩
def Mu.other {v:HO}(h:Mu P F H o l vs)(n:l≠l'):Mu P F (upd H l' v) o l vs:=⟨by rw[aH n];exact h.at_,h.no,h.nF⟩
def J95.put (h:J95 C A P F H r R o)(u:Mu P F H o l vs):J95 C A P F (upd H l (.lst vs')) r R o:=by
 have kt:∀y w,H y=some w->¬ y=l->upd H l (.lst vs') y=some w:=fun y w z q=>by rw[aH q];exact z
 refine⟨let ⟨w,x⟩:=h.rl;⟨w,x.move fun y w e z=>kt y w e fun q=>?_⟩,?_,fun x w e=>⟨kt _ _ (h.kp x w e).1 fun q=>(by rw[q,u.nF]at e;cases e),(h.kp x w e).2⟩⟩
 ·subst q
  rcases z with z | ⟨vs,rfl⟩
  ·exact u.no z
  ·rw[u.at_]at e;cases e
 ·obtain⟨n,ps,h1,h2,h3⟩:=h.tb
  exact⟨n,ps,kt _ _ h1 (fun q=>u.nP h q.symm),h2,h3.imp id fun ⟨c',a,b,c⟩=>⟨c',a,kt _ _ b fun q=>(by rw[q,u.at_]at b;cases b),c⟩⟩
def J95.new (h:J95 C A P F H r R o)(n:H l=none):J95 C A P F (upd H l (.lst vs)) r R o/\Mu P F (upd H l (.lst vs)) o l vs:=by
 refine⟨h.same (aK n _),aC,fun z=>?_,?_⟩
 ·obtain⟨w,hR⟩:=h.rl
  exact hR.al _ z n
 ·cases e:F l with
  |none=>rfl
  |some u=>rw[(h.kp _ u e).1]at n;cases n
end
theorem dR.get:∀{vs:List V}{es:List (Nat×Nat×Str)},dR H vs es->∀{i:Nat}{v:V},vs[i]? =some v->∃t e,v= .ref t/\es[i]? =some e/\H t=some (.tup [.int ((e.1:Nat):Int),.int ((e.2.1:Nat):Int),.str e.2.2])
 |_,_,.cons a _,0,_,rfl=>⟨_,_,rfl,rfl,a⟩
 |_,_,.cons _ q,i+1,_,h=>q.get (i:=i) h
theorem sub_len [DecidableEq α]:∀{l ps:List α},l.Nodup->(∀x∈l,x∈ps)->l.length<=ps.length
 |[],_,_,_=>YY _
 | a::t,ps,nd,h=>by
  obtain⟨n1,n2⟩:=YW.mp nd
  have ha:=h a Yq
  have:=sub_len (l:=t) (ps:=ps.erase a) n2 fun x hx=>(List.mem_erase_of_ne fun (z:x=a)=>n1 (z▸hx)).mpr (h x (Yw _ hx))
  rw[List.length_erase_of_mem ha]at this
  have:=List.length_pos_of_mem ha
  show t.length+1<=_
  omega
def glue {α:Type}(e:Nat)(f g:Nat->α)(t:Nat):α:=if t<e then f t else g (t-e)
def iB {t:Nat}{f g:Nat->α}(h:t<e):glue e f g t=f t:=if_pos h
def gO {t:Nat}{f g:Nat->α}(h:¬ t<e):glue e f g t=g (t-e):=if_neg h
structure Way (m N:Nat)(s0 s1:Nat->PS)(e:Nat)(bs:Nat->Int)(wd:Nat->Nat->Str)(tr:Nat->Nat->PS):Prop where
 z:∀i,i<m->tr i 0=s0 i
 l:∀i,i<m->tr i e=s1 i
 st:∀t,t<e->∀i,i<m->bH (tr i t) (bs t)=(wd i t,tr i (t+1))
 b01:∀t,t<e->bs t=0\/bs t=1
 le:∀t,t<e->∀i,i<m->bs t<=aZ (tr i t)
 at_:∀t,t<e->∃i,i<m/\aZ (tr i t)=bs t
 up:∀t,t<=e->∀i,i<m->(tr i t).up.length<=N
def Way.trans {e1 e2:Nat}{s2:Nat->PS}{b1 b2:Nat->Int}{w1 w2:Nat->Nat->Str}{t1 t2:Nat->Nat->PS}(h:Way m N s0 s1 e1 b1 w1 t1)(k:Way m N s1 s2 e2 b2 w2 t2):Way m N s0 s2 (e1+e2) (glue e1 b1 b2) (fun i=>glue e1 (w1 i) (w2 i)) (fun i=>glue e1 (t1 i) (t2 i)):=by
 have tl:∀i t,i<m->t<=e1->glue e1 (t1 i) (t2 i) t=t1 i t:=fun i t hi ht=>by
  by_cases c:t<e1
  ·exact iB c
  ·have:t=e1:=by omega
   subst this
   rw[gO c,XM,k.z i hi,h.l i hi]
 have th:∀i t,¬ t<e1->glue e1 (t1 i) (t2 i) t=t2 i (t-e1):=fun i t c=>gO c
 refine⟨fun i hi=>(tl i 0 hi (YY _)).trans (h.z i hi),fun i hi=>by rw[th i _ (by omega),X6];exact k.l i hi,fun t ht i hi=>?_,fun t ht=>?_,fun t ht i hi=>?_,fun t ht=>?_,fun t ht i hi=>?_⟩
 ·by_cases c:t<e1
  ·rw[tl i t hi (by omega),iB c,tl i (t+1) hi (by omega),iB c]
   exact h.st t c i hi
  ·rw[th i t c,gO c,th i (t+1) (by omega),gO c,show t+1-e1=t-e1+1 by omega]
   exact k.st (t-e1) (by omega) i hi
 ·by_cases c:t<e1
  ·rw[iB c];exact h.b01 t c
  ·rw[gO c];exact k.b01 (t-e1) (by omega)
 ·by_cases c:t<e1
  ·rw[iB c,tl i t hi (by omega)];exact h.le t c i hi
  ·rw[gO c,th i t c];exact k.le (t-e1) (by omega) i hi
 ·by_cases c:t<e1
  ·obtain⟨i,hi,e⟩:=h.at_ t c
   exact⟨i,hi,by rw[tl i t hi (by omega),iB c];exact e⟩
  ·obtain⟨i,hi,e⟩:=k.at_ (t-e1) (by omega)
   exact⟨i,hi,by rw[th i t c,gO c];exact e⟩
 ·by_cases c:t<e1
  ·rw[tl i t hi (by omega)];exact h.up t (by omega) i hi
  ·rw[th i t c];exact k.up (t-e1) (by omega) i hi
def P92 (v:Nat)(g u:List Fr):PS:={ S0 0 0 v with wt:=g,up:=u }
def reR (S:PS)(t:Nat):PS:={ S with now:=if t=3 then .free 0 else .rests (3-t) }
def a4K {s:Nat->PS}(m1:1<=m)(hu:∀i,i<m->(s i).up.length<=N):Way m N (fun i=>reR (s i) 0) (fun i=>reR (s i) 3) 3 (fun _=>1) (fun _ _=>"") (fun i t=>reR (s i) t):=by
 have sy:∀i t,t<3->aZ (reR (s i) t)=1:=fun i t ht=>by
  unfold reR aZ
  rw[if_neg (by omega)]
 refine⟨fun _ _=>rfl,fun _ _=>rfl,fun t ht i hi=>?_,fun _ _=> .inr rfl,fun t ht i hi=>Int.le_of_eq (sy i t ht).symm,fun t ht=>⟨0,by omega,sy 0 t ht⟩,fun t ht i hi=>hu i hi⟩
 have e:(reR (s i) t).now= .rests (3-t):=by unfold reR;rw[if_neg (by omega)]
 rw[lO e,if_neg (by decide)]
 refine YT (Prod.mk ("":Str)) ?_
 unfold reR
 by_cases c:t+1=3
 ·rw[if_pos (show 3-t=1 by omega),if_pos c]
 ·rw[if_neg (show ¬ 3-t=1 by omega),if_neg c,show 3-t-1=3-(t+1) by omega]
def a4L {m N n:Nat}{s:Nat->PS}(m1:1<=m)(hu:∀i,i<m->(s i).up.length<=N)(hw:∀i,i<m->(s i).wt= []):Way m N (fun i=>{ s i with now:= .free 0 }) (fun i=>{ s i with now:= .free n }) n (fun _=>1) (fun _ _=>"") (fun i t=>{ s i with now:= .free t }):=by
 have sy:∀i t,i<m->aZ { s i with now:= .free t }=1:=fun i t hi=>if_pos (hw i hi)
 refine⟨fun _ _=>rfl,fun _ _=>rfl,fun t ht i hi=>?_,fun _ _=> .inr rfl,fun t ht i hi=>Int.le_of_eq (sy i t hi).symm,fun t ht=>⟨0,by omega,sy 0 t (by omega)⟩,fun t ht i hi=>hu i hi⟩
 rw[jB (k:=t) rfl,if_neg (by rw[sy i t hi];decide),if_neg (by decide)]
structure b2P (m q:Nat)(g:Nat->List Fr)(fq:Fr)(rq:List Fr):Prop where
 hq:q<m
 eq:g q=fq::rq
 ok:∀i,∀f∈g i,FrN f
 le:∀j f r,j≠q->g j=f::r->fq.1<f.1
def oY (q e:Nat)(g:Nat->List Fr)(kk:Nat->Nat)(i t:Nat):Str:=if i=q then wdN e t else if g i= [] then (if t=e then ("takes":Str) else ("":Str)) else wdQ (kk i) e t
def gX (q:Nat)(g:Nat->List Fr)(i:Nat):List Fr:=if i=q then (g i).tail else g i
def uX (q:Nat)(fq:Fr)(u:Nat->List Fr)(i:Nat):List Fr:=if i=q then u i else u i++[fq]
def a4M {g u:List Fr}:lH (P92 v g u) n=true:=by
 unfold lH
 refine Yn ?_
 show Builtin.bitAnd ((n:Nat):Int) ((0:Nat):Int)=((0:Nat):Int)
 rw[band,Nat.and_zero]
theorem a4J {fq:Fr}{rq:List Fr}(k:b2P m q g fq rq)(m2:2<=m)(v1:1<=v)(hu:∀i,i<m->(u i).length<N):
  ∃(kk:Nat->Nat)(tr:Nat->Nat->PS),(∀j f r,j≠q->g j=f::r->Part (wr f.1 f.2) (wr fq.1 fq.2) (kk j))/\(∀j,kk j<(wr fq.1 fq.2).length)/\Way m N (fun i=>P92 v (g i) (u i)) (fun i=>reR (P92 v (gX q g i) (uX q fq u i)) 0) ((wr fq.1 fq.2).length+(9+v)) (iI (wr fq.1 fq.2) v) (oY q ((wr fq.1 fq.2).length+(8+v)) g kk) tr:=by
 have fqo:FrN fq:=k.ok q fq (by rw[k.eq];exact Yq)
 have hL:=lL fqo
 have ex:∀j,∃kj,kj<(wr fq.1 fq.2).length/\∀(f:Fr)(r:List Fr),j≠q->g j=f::r->Part (wr f.1 f.2) (wr fq.1 fq.2) kj:=fun j=>by
  by_cases c:j≠q
  ·cases e:g j with
   |nil=>exact⟨0,by omega,fun f r _ z=>by cases z⟩
   | cons fj rj=>
    have fo:=k.ok j fj (by rw[e];exact Yq)
    obtain⟨s,s1,s2,s3,s4⟩:=a0I 8 fj.1 fq.1 fo.1 (k.le j _ _ c e)
    obtain⟨kj,p⟩:=a9N (ds1:=fj.2) (ds2:=fq.2) s1 s2 s3 s4
    exact⟨kj,by have:=p.k16;omega,fun f r _ z=>by cases z;exact p⟩
  ·exact⟨0,by omega,fun f r z=>absurd z c⟩
 obtain⟨kk,hkk⟩:=Classical.axiomOfChoice ex
 refine⟨kk,fun i t=>if i=q then stN (P92 v (g i) (u i)) fq.1 fq.2 t else match g i with | []=>stQ (P92 v (g i) (u i)) 0 [] fq.1 fq.2 0 t | f::_=>stQ (P92 v (g i) (u i)) f.1 f.2 fq.1 fq.2 (kk i) t,fun j f r hj e=>(hkk j).2 f r hj e,fun j=>(hkk j).1,?_⟩
 have hv:∀i,(P92 v (g i) (u i)).vt=v:=fun i=>rfl
 generalize htr:(fun i t=>if i=q then stN (P92 v (g i) (u i)) fq.1 fq.2 t else match g i with | []=>stQ (P92 v (g i) (u i)) 0 [] fq.1 fq.2 0 t | f::_=>stQ (P92 v (g i) (u i)) f.1 f.2 fq.1 fq.2 (kk i) t)=tr
 have tq:∀t,tr q t=stN (P92 v (g q) (u q)) fq.1 fq.2 t:=fun t=>by rw[<-htr];exact if_pos rfl
 have tf:∀i f r t,i≠q->g i=f::r->tr i t=stQ (P92 v (g i) (u i)) f.1 f.2 fq.1 fq.2 (kk i) t:=fun i f r t c e=>by rw[<-htr];dsimp only;rw[if_neg c,e]
 have tn:∀i t,i≠q->g i= []->tr i t=stQ (P92 v (g i) (u i)) 0 [] fq.1 fq.2 0 t:=fun i t c e=>by rw[<-htr];dsimp only;rw[if_neg c,e]
 have stp : ∀t,t<(wr fq.1 fq.2).length+(9+v)->∀i,i<m->iI (wr fq.1 fq.2) v t<=aZ (tr i t)/\(i=q->aZ (tr i t)=(if t<(wr fq.1 fq.2).length then iI (wr fq.1 fq.2) v t else 1))/\(i≠q->t=(wr fq.1 fq.2).length+1->aZ (tr i t)=0)/\bH (tr i t) (iI (wr fq.1 fq.2) v t)=(oY q ((wr fq.1 fq.2).length+(8+v)) g kk i t,tr i (t+1)):=fun t ht i hi=>by
  have b01:=b2L (vt:=v) fqo ht
  have le1:iI (wr fq.1 fq.2) v t<=1:=by rcases b01 with z | z <;> rw[z] <;> decide
  unfold oY
  by_cases c:i=q
  ·subst c
   obtain⟨a1,a2⟩:=b4K (S:=P92 v (g i) (u i)) (n:=fq.1) (ds:=fq.2) (t:=t) (rs:=rq) rfl k.eq rfl fqo v1 ht
   rw[hv]at a1 a2
   rw[tq,tq,if_pos rfl]
   refine⟨?_,fun _=>a1,fun z=>absurd rfl z,a2⟩
   rw[a1]
   split
   ·exact Int.le_refl _
   ·exact le1
  ·rw [if_neg c]
   cases e:g i with
   | cons f r=>
    obtain⟨a1,a2,a3⟩:=b4J (S:=P92 v (g i) (u i)) (n1:=f.1) (ds1:=f.2) (n:=fq.1) (ds:=fq.2) (k:=kk i) (t:=t) (rs:=r) rfl e rfl (k.ok i f (by rw[e];exact Yq)) fqo v1 ((hkk i).2 f r c e) ht
    rw[hv]at a1 a3
    rw[tf i f r t c e,tf i f r (t+1) c e,if_neg (show ¬ f::r=([]:List Fr) from fun z=>by cases z)]
    exact⟨a1,fun z=>absurd z c,fun _=>a2,a3⟩
   | nil =>
    rw[tn i t c e,tn i (t+1) c e,if_pos (show ([]:List Fr)= [] from rfl)]
    by_cases c0:t=0
    ·subst c0
     have T:=a2C (S:=P92 v (g i) (u i)) rfl e
     have b0:iI (wr fq.1 fq.2) v 0=0/\(wr fq.1 fq.2).take 1= [0]:=by
      rw[oW (by omega)]
      have:=tM (n:=fq.1) (ds:=fq.2)
      cases q:wr fq.1 fq.2 with
      |nil=>rw[q]at hL;exact absurd hL.1 (by decide)
      |cons x xs=>rw[q]at this;cases this;exact⟨rfl,rfl⟩
     rw[b0.1,if_neg (show ¬ 0=(wr fq.1 fq.2).length+(8+v) by omega)]
     have e0:stQ (P92 v (g i) (u i)) 0 [] fq.1 fq.2 0 0=P92 v (g i) (u i):=if_pos rfl
     have e1:stQ (P92 v (g i) (u i)) 0 [] fq.1 fq.2 0 (0+1)={ P92 v (g i) (u i) with now:= .reads [0] }:=by
      unfold stQ
      rw[if_neg (by omega),if_neg (by omega),if_pos (by omega),b0.2]
     rw[e0,e1]
     have sa:aZ (P92 v (g i) (u i))=1:=T.sa
     exact⟨by rw[sa];decide,fun z=>absurd z c,fun _ z=>by omega,T.hr⟩
    ·obtain⟨a1,a2,a3⟩:=a4W (S:=P92 v (g i) (u i)) (n1:=0) (ds1:=[]) (n:=fq.1) (ds:=fq.2) (k:=0) (t:=t) rfl fqo v1 (by omega) (by omega) ht
     rw[hv]at a1 a3
     refine⟨a1,fun z=>absurd z c,fun _=>a2,a3.trans ?_⟩
     unfold wdQ
     rw[if_neg c0,if_neg c0]
 refine⟨fun i hi=>?_,fun i hi=>?_,fun t ht i hi=>(stp t ht i hi).2.2.2,fun t ht=>b2L fqo ht,fun t ht i hi=>(stp t ht i hi).1,fun t ht=>?_,fun t ht i hi=>?_⟩
 ·by_cases c:i=q
  ·subst c;rw[tq];exact if_pos rfl
  ·cases e:g i with
   |nil=>rw[tn i 0 c e,e];exact if_pos rfl
   |cons f r=>rw[tf i f r 0 c e,e];exact if_pos rfl
 ·have en:∀(n1:Nat)(ds1:List Int)(kx:Nat),i≠q->kx<(wr fq.1 fq.2).length->stQ (P92 v (g i) (u i)) n1 ds1 fq.1 fq.2 kx ((wr fq.1 fq.2).length+(9+v))=reR (P92 v (gX q g i) (uX q fq u i)) 0:=fun n1 ds1 kx c hkx=>by
   unfold stQ
   rw[if_neg (by omega),if_neg (by omega),if_neg (by omega),if_neg (by rw[hv];omega),if_pos a4M]
   unfold gX uX
   rw[if_neg c,if_neg c]
   rfl
  by_cases c:i=q
  ·subst c
   rw[tq]
   unfold stN
   rw[if_neg (by omega),if_neg (by omega),if_neg (by rw[hv];omega)]
   unfold gX uX
   rw[if_pos rfl,if_pos rfl]
   rfl
  ·cases e:g i with
   |nil=>rw[tn i _ c e];exact en 0 [] 0 c (by omega)
   |cons f r=>rw[tf i f r _ c e];exact en f.1 f.2 (kk i) c (hkk i).1
 ·by_cases c:t=(wr fq.1 fq.2).length+1
  ·obtain⟨i,hi,ne⟩:∃i,i<m/\i≠q:=by
    by_cases z:q=0
    ·exact⟨1,by omega,by omega⟩
    ·exact⟨0,by omega,fun y=>z y.symm⟩
   refine⟨i,hi,((stp t ht i hi).2.2.1 ne c).trans ?_⟩
   rw[xM (by omega),on9 (by omega),if_pos (by omega)]
  ·refine⟨q,k.hq,((stp t ht q k.hq).2.1 rfl).trans ?_⟩
   by_cases d:t<(wr fq.1 fq.2).length
   ·rw[if_pos d]
   ·rw[if_neg d,xM d,on9 (by omega),if_neg (by omega)]
 ·have hui:=hu i hi
  have uq:∀(n1:Nat)(ds1:List Int)(kx:Nat),(stQ (P92 v (g i) (u i)) n1 ds1 fq.1 fq.2 kx t).up.length<=N:=fun n1 ds1 kx=>by
   unfold stQ
   split
   ·exact YV hui
   split
   ·exact YV hui
   split
   ·exact YV hui
   split
   ·exact YV hui
   ·rw[if_pos a4M]
    show (u i++[_]).length<=N
    rw[Yb]
    exact hui
  by_cases c:i=q
  ·subst c
   rw[tq]
   unfold stN
   split
   ·exact YV hui
   split
   ·exact YV hui
   split
   ·exact YV hui
   ·exact YV hui
  ·cases e:g i with
   |nil=>rw[tn i t c e];exact uq _ _ _
   |cons f r=>rw[tf i f r t c e];exact uq _ _ _
def qQ (a b:Nat×Nat×Str):Prop:=a.1<b.1\/(a.1=b.1/\a.2.1<b.2.1)
theorem nH {t:Nat}{e:Nat×Nat×Str}:∀{n:Nat},e∈evA wd t n↔e.1=t/\e.2.1<n/\e.2.2=wd e.2.1 t/\e.2.2≠""
 |0=>⟨fun h=>(by cases h),fun h=>absurd h.2.1 (Y0 _)⟩
 | n + 1 =>by
  show e∈evA wd t n++evt t n (wd n t)↔_
  rw[Yy,nH (n:=n)]
  unfold evt
  by_cases c:wd n t=""
  ·rw [if_pos c]
   constructor
   ·rintro (⟨a1,a2,a3,a4⟩ | z)
    ·exact⟨a1,by omega,a3,a4⟩
    ·cases z
   ·rintro ⟨a1,a2,a3,a4⟩
    refine .inl ⟨a1,?_,a3,a4⟩
    rcases XN e.2.1 n with z | z
    ·exact z
    ·have:e.2.1=n:=by omega
     rw[this,c]at a3
     exact absurd a3 a4
  ·rw [if_neg c,Yi]
   constructor
   ·rintro (⟨a1,a2,a3,a4⟩ | rfl)
    ·exact⟨a1,by omega,a3,a4⟩
    ·exact⟨rfl,Xi _,rfl,c⟩
   ·rintro ⟨a1,a2,a3,a4⟩
    rcases XN e.2.1 n with z | z
    ·exact .inl ⟨a1,z,a3,a4⟩
    ·right
     have h1:e.2.1=n:=by omega
     obtain⟨x,y,w⟩:=e
     dsimp only at a1 a3 h1
     subst a1 h1 a3
     rfl
theorem cW {e:Nat×Nat×Str}:∀{n:Nat},e∈evR wd m n↔e.1<n/\e.2.1<m/\e.2.2=wd e.2.1 e.1/\e.2.2≠""
 |0=>⟨fun h=>(by cases h),fun h=>absurd h.1 (Y0 _)⟩
 | n + 1=>by
  show e∈evR wd m n++evA wd n m↔_
  rw[Yy,cW (n:=n),nH]
  constructor
  ·rintro (⟨a1,a2,a3,a4⟩ | ⟨a1,a2,a3,a4⟩)
   ·exact⟨by omega,a2,a3,a4⟩
   ·exact⟨by omega,a2,by rw[a1];exact a3,a4⟩
  ·rintro ⟨a1,a2,a3,a4⟩
   rcases XN e.1 n with z | z
   ·exact .inl ⟨z,a2,a3,a4⟩
   ·have:e.1=n:=by omega
    exact .inr ⟨this,a2,by rw[<-this];exact a3,a4⟩
theorem a8L {t:Nat}:∀n,(evA wd t n).Pairwise qQ
 |0=> .nil
 | n + 1=>by
  show (evA wd t n++evt t n (wd n t)).Pairwise qQ
  refine List.pairwise_append.mpr ⟨a8L n,?_,fun a ha b hb=>?_⟩
  ·unfold evt;split
   ·exact .nil
   ·exact List.pairwise_singleton _ _
  ·unfold evt at hb
   split at hb
   ·cases hb
   ·rw[Yi.mp hb]
    have:=nH.mp ha
    exact .inr ⟨this.1,this.2.1⟩
theorem uG:∀n,(evR wd m n).Pairwise qQ
 |0=> .nil
 |n+1=>List.pairwise_append.mpr ⟨uG n,a8L m,fun a ha b hb=> .inl (by rw[(nH.mp hb).1];exact(cW.mp ha).1)⟩
def qP {a:Nat×Nat×Str}:¬ qQ a a:=fun h=>h.elim (YS _) fun z=>YS _ z.2
def b8P {l:List (Nat×Nat×Str)}(h:l.Pairwise qQ):l.Nodup:=h.imp fun h e=>by subst e;exact qP h
def zK {a b:Nat×Nat×Str}(h:qQ a b)(k:qQ b a):False:=by
 unfold qQ at h k
 omega
theorem tV:∀{a b:List (Nat×Nat×Str)},a.Pairwise qQ->b.Pairwise qQ->(∀x,x∈a↔x∈b)->a=b
 |[], [],_,_,_=>rfl
 |[],y::_,_,_,h=>absurd ((h y).mpr Yq) XD
 |x::_, [],_,_,h=>absurd ((h x).mp Yq) XD
 | x :: a,y::b,ha,hb,h=>by
  obtain⟨a1,a2⟩:=List.pairwise_cons.mp ha
  obtain⟨b1,b2⟩:=List.pairwise_cons.mp hb
  have e:x=y:=by
   rcases YH.mp ((h x).mp Yq) with z | z
   ·exact z
   ·rcases YH.mp ((h y).mpr Yq) with w | w
    ·exact w.symm
    ·exact(zK (b1 x z) (a1 y w)).elim
  subst e
  rw[tV a2 b2 fun z=>?_]
  constructor
  ·intro hz
   rcases YH.mp ((h z).mp (Yw _ hz)) with w | w
   ·subst w;exact(qP (a1 z hz)).elim
   ·exact w
  ·intro hz
   rcases YH.mp ((h z).mpr (Yw _ hz)) with w | w
   ·subst w;exact(qP (b1 z hz)).elim
   ·exact w
def shE (s:Nat)(e:Nat×Nat×Str):Nat×Nat×Str:=(s+e.1,e.2)
def nA {w1 w2:Nat->Nat->Str}{x:Nat×Nat×Str}:x∈evR (fun i=>glue e (w1 i) (w2 i)) m (e+n)↔x∈evR w1 m e\/∃y∈evR w2 m n,shE e y=x:=by
 rw[cW,cW]
 constructor
 ·rintro ⟨a1,a2,a3,a4⟩
  by_cases c:x.1<e
  ·rw[iB c]at a3
   exact .inl ⟨c,a2,a3,a4⟩
  ·rw[gO c]at a3
   refine .inr ⟨(x.1-e,x.2),cW.mpr ⟨by show x.1-e<n;omega,a2,a3,a4⟩,?_⟩
   show (e+(x.1-e),x.2)=x
   rw[show e+(x.1-e)=x.1 by omega]
 ·rintro (⟨a1,a2,a3,a4⟩ | ⟨y,hy,rfl⟩)
  ·exact⟨by omega,a2,by rw[iB a1];exact a3,a4⟩
  ·obtain⟨a1,a2,a3,a4⟩:=cW.mp hy
   refine⟨by show e+y.1<e+n;omega,a2,?_,a4⟩
   show y.2.2=glue e (w1 y.2.1) (w2 y.2.1) (e+y.1)
   rw[gO (by omega),X6]
   exact a3
def duP (s q e:Nat)(g:Nat->List Fr)(kk:Nat->Nat)(i:Nat):List (Nat×Nat×Str):=(if g i= [] then [] else (s,i,("begins":Str))::(if i=q then [] else [(s+kk i,i,("loses":Str))]))++[(s+e,i,if i=q then ("done":Str) else ("takes":Str))]
def duR (s q e:Nat)(g:Nat->List Fr)(kk:Nat->Nat):Nat->List (Nat×Nat×Str)
 |0=>[]
 |n+1=>duR s q e g kk n++duP s q e g kk n
def b2D:(duP s q e g kk i).length<=3/\1<=(duP s q e g kk i).length:=by
 unfold duP
 split
 ·simp
 ·split <;> simp
theorem uH:∀n,(duR s q e g kk n).length<=3*n/\n<=(duR s q e g kk n).length
 |0=>⟨Yd _,Yd _⟩
 | n+1=>by
  have h:=uH n
  have k:=b2D (s:=s) (q:=q) (e:=e) (g:=g) (kk:=kk) (i:=n)
  have e':duR s q e g kk (n+1)=duR s q e g kk n++duP s q e g kk n:=rfl
  rw[e',Yb]
  omega
theorem pK {x:Nat×Nat×Str}:∀{n:Nat},x∈duR s q e g kk n↔∃i,i<n/\x∈duP s q e g kk i
 |0=>⟨fun h=>(by cases h),fun ⟨_,h,_⟩=>absurd h (Y0 _)⟩
 | n + 1=>by
  show x∈duR s q e g kk n++duP s q e g kk n↔_
  rw[Yy,pK (n:=n)]
  constructor
  ·rintro (⟨i,hi,h⟩ | h)
   ·exact⟨i,by omega,h⟩
   ·exact⟨n,Xi _,h⟩
  ·rintro ⟨i,hi,h⟩
   rcases XN i n with z | z
   ·exact .inl ⟨i,z,h⟩
   ·have:i=n:=by omega
    exact .inr (this▸h)
def uI {x:Nat×Nat×Str}(hq:g q≠ [])(h:x∈duP s q e g kk i):x.2.1=i/\∃t,x.1=s+t/\(t=0\/t=kk i\/t=e):=by
 unfold duP at h
 rcases Yy.mp h with h | h
 ·split at h
  ·cases h
  ·rcases YH.mp h with h | h
   ·rw[h];exact⟨rfl,0,rfl,.inl rfl⟩
   ·split at h
    ·cases h
    ·rw[Yi.mp h];exact⟨rfl,kk i,rfl,.inr (.inl rfl)⟩
 ·rw[Yi.mp h];exact⟨rfl,e,rfl,.inr (.inr rfl)⟩
def a9Q:("begins":Str)≠""/\("loses":Str)≠""/\("done":Str)≠""/\("takes":Str)≠"":=by decide +kernel
def b9W {L:Nat}(hq:g q≠ [])(hL:27<=L)(hk:∀j,kk j<L)(k1:∀j,j≠q->g j≠ []->1<=kk j){x:Nat×Nat×Str}:x∈duR s q (L+(8+v)) g kk m↔∃y∈evR (oY q (L+(8+v)) g kk) m (L+(9+v)),shE s y=x:=by
 rw[pK]
 constructor
 ·rintro ⟨i,hi,h⟩
  obtain⟨e1,t,e2,_⟩:=uI hq h
  have key:∀t w,t<L+(9+v)->w=oY q (L+(8+v)) g kk i t->w≠""->x=(s+t,i,w)->∃y∈evR (oY q (L+(8+v)) g kk) m (L+(9+v)),shE s y=x:=fun t w h1 h2 h3 h4=>⟨(t,i,w),cW.mpr ⟨h1,hi,h2,h3⟩,h4.symm⟩
  unfold duP at h
  rcases Yy.mp h with h | h
  ·split at h
   ·cases h
   ·rename_i gi
    rcases YH.mp h with h | h
    ·refine key 0 "begins" (by omega) ?_ a9Q.1 h
     unfold oY wdN wdQ
     by_cases iq:i=q
     ·rw[if_pos iq,if_pos rfl]
     ·rw[if_neg iq,if_neg gi,if_pos rfl]
    ·split at h
     ·cases h
     ·rename_i iq
      have:=k1 i iq gi
      have:=hk i
      refine key (kk i) "loses" (by omega) ?_ a9Q.2.1 (Yi.mp h)
      unfold oY wdQ
      rw[if_neg iq,if_neg gi,if_neg (by omega),if_pos rfl]
  ·have h:=Yi.mp h
   have:=hk i
   by_cases iq:i=q
   ·rw[if_pos iq]at h
    refine key (L+(8+v)) "done" (by omega) ?_ a9Q.2.2.1 h
    unfold oY wdN
    rw[if_pos iq,if_neg (by omega),if_pos rfl]
   ·rw[if_neg iq]at h
    refine key (L+(8+v)) "takes" (by omega) ?_ a9Q.2.2.2 h
    unfold oY wdQ
    rw[if_neg iq]
    by_cases gi:g i= []
    ·rw[if_pos gi,if_pos rfl]
    ·rw[if_neg gi,if_neg (by omega),if_neg (by omega),if_pos rfl]
 ·rintro ⟨y,hy,rfl⟩
  obtain⟨a1,a2,a3,a4⟩:=cW.mp hy
  obtain⟨t,i,w⟩:=y
  dsimp only at a1 a2 a3 a4
  refine⟨i,a2,?_⟩
  subst a3
  show (s+t,i,oY q (L+(8+v)) g kk i t)∈_
  unfold duP
  unfold oY wdN wdQ at a4 ⊢
  by_cases iq:i=q
  ·subst iq
   rw[if_pos rfl]at a4 ⊢
   rw[if_neg hq,if_pos rfl,if_pos rfl]
   by_cases t0:t=0
   ·rw[if_pos t0,t0];exact Yy.mpr (.inl Yq)
   ·rw[if_neg t0]at a4 ⊢
    by_cases te:t=L+(8+v)
    ·rw[if_pos te,te];exact Yy.mpr (.inr (Yi.mpr rfl))
    ·rw[if_neg te]at a4;exact absurd rfl a4
  ·rw [if_neg iq]at a4 ⊢
   rw[if_neg iq,if_neg iq]
   by_cases gi:g i= []
   ·rw[if_pos gi]at a4 ⊢
    rw[if_pos gi]
    by_cases te:t=L+(8+v)
    ·rw[if_pos te,te];exact Yy.mpr (.inr (Yi.mpr rfl))
    ·rw[if_neg te]at a4;exact absurd rfl a4
   ·rw [if_neg gi]at a4 ⊢
    rw[if_neg gi]
    by_cases t0:t=0
    ·rw[if_pos t0,t0];exact Yy.mpr (.inl Yq)
    ·rw [if_neg t0]at a4 ⊢
     by_cases tk:t=kk i
     ·rw[if_pos tk,tk];exact Yy.mpr (.inl (Yw _ (Yi.mpr rfl)))
     ·rw[if_neg tk]at a4 ⊢
      by_cases te:t=L+(8+v)
      ·rw[if_pos te,te];exact Yy.mpr (.inr (Yi.mpr rfl))
      ·rw[if_neg te]at a4;exact absurd rfl a4
def b4Y:∀l:List Int,4*(put l).length+run (put l)<=5*l.length:=by
 refine snoc_ind (P:=fun l=>4*(put l).length+run (put l)<=5*l.length) (by decide) (fun w b ih=>?_)
 rw[fZ,Yb,Yv]
 unfold pst
 have rs:run (put w++[b])<=run (put w)+1:=pX
 split
 ·rename_i c
  rw[fY,kZ,if_neg (uA b),Yb,Yb,Yv,Yv]
  omega
 ·rw[Yb,Yv]
  omega
def xX {f:Fr}(h:FrN f):(wr f.1 f.2).length<=103:=by
 have a:=b4Y (fb (f.1:Int) f.2)
 have b:=lU (f.1:Int) f.2
 have c:f.2.length<=7:=h.2.1
 show (put _).length<=103
 omega
def Way.to {s2:Nat->PS}{b:Nat->Int}{w:Nat->Nat->Str}{t:Nat->Nat->PS}(h:Way m N s0 s1 e b w t)(k:∀i,i<m->s1 i=s2 i):Way m N s0 s2 e b w t:=⟨h.z,fun i hi=>(h.l i hi).trans (k i hi),h.st,h.b01,h.le,h.at_,h.up⟩
def qN {f g:Nat->Int}:(List.range (e+n)).map (glue e f g)=(List.range e).map f++(List.range n).map g:=by
 rw[List.range_add,Yj,List.map_map]
 congr 1
 ·exact XC fun t ht=>iB (Xo.mp ht)
 ·refine XC fun t _=>?_
  show glue e f g (e+t)=g t
  rw[gO (by omega),X6]
def b7G (w:List Int)(v:Nat):(List.range (w.length+(9+v))).map (iI w v)=w++hd1 v:=by
 have ll:w.length+(9+v)=(w++hd1 v).length:=by rw[Yb,b1Z,Yz]
 rw[ll]
 exact map_getD _
def b8W (v:Nat):hd1 v++[1,1,1]= [1,0]++List.replicate (10+v) (1:Int):=by
 have e:List.replicate (10+v) (1:Int)=List.replicate 7 1++(List.replicate v 1++List.replicate 3 1):=by
  rw[List.replicate_append_replicate,List.replicate_append_replicate]
  congr 1
  omega
 rw[e]
 show [1,0]++List.replicate 7 1++List.replicate v 1++List.replicate 3 1=_
 simp only[YB]
def rB (f:Fr)(v:Nat):List Int:=wr f.1 f.2++([1,0]++List.replicate (10+v) 1)
def b4X (f:Fr)(v:Nat):(rB f v).length=(wr f.1 f.2).length+(12+v):=by
 unfold rB
 rw[Yb,Yb,Yz]
 show _+(2+_)=_
 omega
def tot (g:Nat->List Fr):Nat->Nat
 |0=>0
 |n+1=>tot g n+(g n).length
def cnt (g:Nat->List Fr):Nat->Nat
 |0=>0
 |n+1=>cnt g n+if g n= [] then 0 else 1
theorem a9A (g:Nat->List Fr):∀n,cnt g n<=tot g n
 |0=>Yd _
 | n+1=>by
  have:=a9A g n
  unfold cnt tot
  cases e:g n with
  |nil=>rw[if_pos rfl];omega
  |cons f r=>rw[if_neg (by simp),YE];omega
theorem a4P (h:g q≠ []):∀n,tot (gX q g) n+(if q<n then 1 else 0)=tot g n
 |0=>by rw[if_neg (Y0 _)];rfl
 | n +1=>by
  have ih:=a4P h n
  unfold tot
  by_cases c:n=q
  ·subst c
   rw[if_neg (YS _)]at ih
   rw[if_pos (Xi _)]
   have e:gX n g n=(g n).tail:=if_pos rfl
   rw[e,List.length_tail]
   have:=List.length_pos_iff.mpr h
   omega
  ·have e:gX q g n=g n:=if_neg c
   rw[e]
   by_cases d:q<n
   ·rw[if_pos d]at ih;rw[if_pos (by omega)];omega
   ·rw[if_neg d]at ih;rw[if_neg (by omega)];omega
theorem a0H:∀n,0<tot g n->∃i,i<n/\g i≠ []
 |0,h=>absurd h (YS _)
 | n +1,h=>by
  by_cases c:g n= []
  ·unfold tot at h
   rw[c]at h
   obtain⟨i,hi,z⟩:=a0H n h
   exact⟨i,by omega,z⟩
  ·exact⟨n,Xi _,c⟩
theorem vC:∀n,tot g n=0->∀i,i<n->g i= []
 |0,_,i,hi=>absurd hi (Y0 _)
 | n+1,h,i,hi=>by
  unfold tot at h
  by_cases c:i=n
  ·subst c;exact X7.mp (by omega)
  ·exact vC n (by omega) i (by omega)
theorem a1K (h:g q≠ []):∀n,(duR s q e g kk n).length+(if q<n then 1 else 0)=n+2*cnt g n
 |0=>by rw[if_neg (Y0 _)];rfl
 | n + 1=>by
  have ih:=a1K h n
  have e':duR s q e g kk (n+1)=duR s q e g kk n++duP s q e g kk n:=rfl
  rw[e',Yb]
  unfold cnt duP
  by_cases c:n=q
  ·subst c
   rw[if_neg (YS _)]at ih
   rw[if_neg h,if_neg h,if_pos (Xi _),if_pos rfl]
   simp only[Yb,YE,Jn]
   omega
  ·have d:(if q<n+1 then 1 else 0)=(if q<n then 1 else 0):=by
    by_cases d:q<n
    ·rw[if_pos d,if_pos (by omega)]
    ·rw[if_neg d,if_neg (by omega)]
   rw[d]
   by_cases gn:g n= []
   ·rw[if_pos gn,if_pos gn]
    simp only[Yb,YE,Jn]
    omega
   ·rw[if_neg gn,if_neg gn,if_neg c]
    simp only[Yb,YE,Jn]
    omega
def b6S (e0:e≠0)(hk:kk i<e)(k1:i≠q->g i≠ []->1<=kk i):(duP s q e g kk i).Nodup:=by
 unfold duP
 by_cases gi:g i= []
 ·rw[if_pos gi];simp
 ·rw [if_neg gi]
  by_cases iq:i=q
  ·rw[if_pos iq,if_pos iq]
   refine YW.mpr ⟨fun z=>?_,by simp⟩
   have:=YT Prod.fst (Yi.mp z)
   dsimp only at this
   omega
  ·have :=k1 iq gi
   rw[if_neg iq,if_neg iq]
   refine YW.mpr ⟨fun z=>?_,YW.mpr ⟨fun z=>?_,YW.mpr ⟨XD,List.nodup_nil⟩⟩⟩
   ·rcases YH.mp z with y | y
    ·have:=YT Prod.fst y
     dsimp only at this
     omega
    ·have:=YT Prod.fst (Yi.mp y)
     dsimp only at this
     omega
   ·have:=YT Prod.fst (Yi.mp z)
    dsimp only at this
    omega
theorem a8N (hq:g q≠ [])(e0:e≠0)(hk:∀i,kk i<e)(k1:∀i,i≠q->g i≠ []->1<=kk i):∀n,(duR s q e g kk n).Nodup
 |0=>List.nodup_nil
 | n+1=>by
  show (duR s q e g kk n++duP s q e g kk n).Nodup
  refine Ja.mpr ⟨a8N hq e0 hk k1 n,b6S e0 (hk n) (k1 n),fun a ha b hb z=>?_⟩
  obtain⟨i,hi,h⟩:=pK.mp ha
  have h1:=(uI hq h).1
  have h2:=(uI hq hb).1
  rw[<-z,h1]at h2
  omega
structure uU (m v n:Nat)(g0:Nat->List Fr)(k:Nat)(g u:Nat->List Fr)(bits:List Int)(es:List (Nat×Nat×Str)):Prop where
 way:∃bs wd tr,Way m 5 (fun i=>P92 v (g0 i) []) (fun i=>P92 v (g i) (u i)) bits.length bs wd tr/\(List.range bits.length).map bs=bits/\∀x,x∈es↔x∈evR wd m bits.length
 nd:es.Nodup
 tt:tot g m+k=n
 ul:∀i,i<m->(u i).length<=k
 el:es.length+(4*(n-k)+(n-k)*(n-k+1))<=4*n+n*(n+1)
 e2:2*k<=es.length
 bl:bits.length<=120*k
 ok:∀i,∀f∈g i,FrN f
 un:∀i j f f',f∈g i->f'∈g j->f.1=f'.1->i=j
theorem uU.next {bits:List Int}(h:uU m v n g0 k g u bits es)(n5:n<=5)(m2:2<=m)(m5:m<=5)(v1:1<=v)(v5:v<=5){fq:Fr}{rq:List Fr}(r:b2P m q g fq rq):
  ∃kk:Nat->Nat,(∀j f r,j≠q->g j=f::r->Part (wr f.1 f.2) (wr fq.1 fq.2) (kk j))/\(∀j,kk j<(wr fq.1 fq.2).length)/\uU m v n g0 (k+1) (gX q g) (uX q fq u) (bits++rB fq v) (es++duR bits.length q ((wr fq.1 fq.2).length+(8+v)) g kk m):=by
 have gq:g q≠ []:=by rw[r.eq];simp
 have fqo:FrN fq:=r.ok q fq (by rw[r.eq];exact Yq)
 have hL:=lL fqo
 have tg:=a4P gq m
 rw[if_pos r.hq]at tg
 have htt:=h.tt
 obtain⟨kk,tr2,hp,hk,W2⟩:=a4J (v:=v) (N:=5) (u:=u) r m2 v1 fun i hi=>by have:=h.ul i hi;omega
 have k1:∀j,j≠q->g j≠ []->1<=kk j:=fun j hj z=>by
  cases e:g j with
  |nil=>exact absurd e z
  |cons f rr=>exact(hp j f rr hj e).k1
 have ulN:∀i,i<m->(uX q fq u i).length<=k+1:=fun i hi=>by
  have:=h.ul i hi
  unfold uX
  split
  ·omega
  ·rw[Yb];exact Jd this
 have W3:=a4K (m:=m) (N:=5) (s:=fun i=>P92 v (gX q g i) (uX q fq u i)) (by omega) fun i hi=>by have:=ulN i hi;show (uX q fq u i).length<=5;omega
 obtain⟨bs,wd,tr,W1,hb,he⟩:=h.way
 have W:=(W1.trans (W2.trans W3)).to (s2:=fun i=>P92 v (gX q g i) (uX q fq u i)) fun i _=>rfl
 have bl':(bits++rB fq v).length=bits.length+((wr fq.1 fq.2).length+(9+v)+3):=by rw[Yb,b4X];omega
 refine⟨kk,hp,hk,⟨⟨_,_,_,by rw[bl'];exact W,?_,fun x=>?_⟩,?_,?_,ulN,?_,?_,?_,?_,?_⟩⟩
 ·rw[bl',qN,hb,qN,b7G]
  show bits++(wr fq.1 fq.2++hd1 v++[1,1,1])=bits++rB fq v
  rw[YB,b8W]
  rfl
 ·rw [bl',nA,Yy,he x,b9W gq hL.1 hk k1]
  refine or_congr Iff.rfl ⟨fun ⟨y,hy,e⟩=>⟨y,nA.mpr (.inl hy),e⟩,fun ⟨y,hy,e⟩=>?_⟩
  rcases nA.mp hy with z | ⟨y',hy',_⟩
  ·exact⟨y,z,e⟩
  ·obtain⟨_,_,a3,a4⟩:=cW.mp hy'
   exact absurd a3 a4
 ·refine Ja.mpr ⟨h.nd,a8N gq (by omega) (fun i=>by have:=hk i;omega) k1 m,fun a ha b hb z=>?_⟩
  have h1:=(cW.mp ((he a).mp ha)).1
  obtain⟨i,hi,hd⟩:=pK.mp hb
  obtain⟨_,t,h2,_⟩:=uI gq hd
  rw[z]at h1
  omega
 ·omega
 ·have d:=a1K (s:=bits.length) (e:=(wr fq.1 fq.2).length+(8+v)) (kk:=kk) gq m
  rw[if_pos r.hq]at d
  have c:=a9A g m
  have el:=h.el
  rw[Yb]
  obtain⟨y,hy⟩:∃y,n-k=y+1:=⟨n-k-1,by omega⟩
  rw[hy]at el
  rw[show n-(k+1)=y by omega]
  have hz:(y+1)*(y+1+1)=y*(y+1)+2*y+2:=by
   rw[Nat.add_mul,Nat.one_mul,Nat.mul_add y,Nat.mul_one]
   omega
  omega
 ·have d:=uH (s:=bits.length) (q:=q) (e:=(wr fq.1 fq.2).length+(8+v)) (g:=g) (kk:=kk) m
  have:=h.e2
  rw[Yb]
  omega
 ·have:=h.bl
  have:=xX fqo
  omega
 ·intro i f hf
  unfold gX at hf
  split at hf
  ·exact h.ok i f (List.mem_of_mem_tail hf)
  ·exact h.ok i f hf
 ·have sub:∀i f,f∈gX q g i->f∈g i:=fun i f hf=>by
   unfold gX at hf
   split at hf
   ·exact List.mem_of_mem_tail hf
   ·exact hf
  exact fun i j f f' h1 h2=>h.un i j f f' (sub i f h1) (sub j f' h2)
structure uV (R:RS)(m:Nat)(tr:Nat->Nat->PS)(bs:Nat->Int)(wd:Nat->Nat->Str)(t:Nat):Prop where
 ln:R.ps.length=m
 ps:∀i,i<m->R.ps[i]? =some (tr i t)
 bo:R.bo=(List.range t).map bs
 ev:R.ev=evR wd m t
 l2:R.sa.length=m
 l4:R.he.length=m
 sa:∀i,i<m->R.sa[i]? =some ((List.range t).map fun s=>aZ (tr i s))
 he:∀i,i<m->R.he[i]? =some ((List.range t).map bs)
theorem a8C {R:RS}{t:Nat}{bs:Nat->Int}(h:uV R m tr bs wd t)(st:∀i,i<m->bH (tr i t) (bs t)=(wd i t,tr i (t+1))):
  ∀n:Nat,n<=m->(∀i,i<n->(bC R ((List.range m).map fun _=>bs t) n).ps[i]? =some (tr i (t+1))/\(bC R ((List.range m).map fun _=>bs t) n).sa[i]? =some ((List.range (t+1)).map fun s=>aZ (tr i s))/\(bC R ((List.range m).map fun _=>bs t) n).he[i]? =some ((List.range (t+1)).map bs))/\(bC R ((List.range m).map fun _=>bs t) n).ev=R.ev++evA wd t n
 |0,_=>⟨fun i hi=>absurd hi (Y0 _),(YQ _).symm⟩
 | n + 1, hn=>by
  obtain⟨h1,h2⟩:=a8C h st n (by omega)
  have e2:((List.range m).map fun _=>bs t)[n]? =some (bs t):=by rw[Yk,Xv (by omega)];rfl
  have go:=gQ R ((List.range m).map fun _=>bs t) n
  have hb:R.bo.length=t:=by rw[h.bo,Ya,YC]
  have rs:∀f:Nat->Int,(List.range (t+1)).map f=(List.range t).map f++[f t]:=fun f=>by rw[Xu,Yj];rfl
  rw[jL (h.ps n (by omega)) e2 (h.sa n (by omega)) (h.he n (by omega))]
  unfold rE
  rw[st n (by omega)]
  refine⟨fun i hi=>?_,?_⟩
  ·by_cases c:n=i
   ·subst c
    refine⟨?_,?_,?_⟩
    ·show ((bC R _ n).ps.set n _)[n]? =_
     rw[Xg,if_pos rfl,if_pos (by rw[go.2.2.1,h.ln];omega)]
    ·show ((bC R _ n).sa.set n _)[n]? =_
     rw[Xg,if_pos rfl,if_pos (by rw[go.2.2.2.1,h.l2];omega),rs]
    ·show ((bC R _ n).he.set n _)[n]? =_
     rw[Xg,if_pos rfl,if_pos (by rw[go.2.2.2.2.1,h.l4];omega),rs]
   ·obtain⟨a1,a2,a3⟩:=h1 i (by omega)
    exact⟨(Xh c).trans a1,(Xh c).trans a2,(Xh c).trans a3⟩
  ·show (bC R _ n).ev++evt R.bo.length n (wd n t)=_
   rw[h2,hb,YB]
   rfl
theorem b3G {R:RS}{bs:Nat->Int}(h0:uV R m tr bs wd 0)(st:∀t,t<e->∀i,i<m->bH (tr i t) (bs t)=(wd i t,tr i (t+1)))(b01:∀t,t<e->bs t=0\/bs t=1)(le:∀t,t<e->∀i,i<m->bs t<=aZ (tr i t))(at_:∀t,t<e->∃i,i<m/\aZ (tr i t)=bs t):∀t,t<=e->uV (cI R t) m tr bs wd t/\(t<e->jO (cI R t)=bs t)
 | t, ht =>by
  have A :uV (cI R t) m tr bs wd t:=by
   cases t with
   |zero=>exact h0
   | succ t=>
    obtain⟨a,ab⟩:=b3G h0 st b01 le at_ t (by omega)
    have eb:=ab (by omega)
    have g:=gQ (cI R t) ((List.range m).map fun _=>bs t) m
    obtain⟨x1,x2⟩:=a8C a (fun i hi=>st t (by omega) i hi) m (Yd _)
    have es:cI R (t+1)={ bC (cI R t) ((List.range m).map fun _=>bs t) m with bo:=(cI R t).bo++[bs t] }:=by
     show lJ (cI R t) _ _=_
     unfold lJ
     rw[eb,a.ln]
    rw[es]
    exact⟨g.2.2.1.trans a.ln,fun i hi=>(x1 i hi).1,by show (cI R t).bo++[bs t]=_;rw[a.bo,Xu,Yj];rfl,by show (bC _ _ m).ev=_;rw[x2,a.ev];rfl,g.2.2.2.1.trans a.l2,g.2.2.2.2.1.trans a.l4,fun i hi=>(x1 i hi).2.1,fun i hi=>(x1 i hi).2.2⟩
  refine⟨A,fun h=>?_⟩
  have mem:∀z,z∈(cI R t).ps.map aZ↔∃i,i<m/\aZ (tr i t)=z:=fun z=>by
   rw[Y2]
   constructor
   ·rintro ⟨S,hS,rfl⟩
    obtain⟨i,hi,ei⟩:=Y7 hS
    have hi':i<m:=A.ln▸hi
    have:=A.ps i hi'
    rw[Yc hi,ei]at this
    cases this
    exact⟨i,hi',rfl⟩
   ·rintro ⟨i,hi,rfl⟩
    exact⟨_,Yx (A.ps i hi),rfl⟩
  unfold jO
  obtain⟨i,hi,ei⟩:=at_ t h
  rcases b01 t h with z | z
  ·rw[if_pos ((mem 0).mpr ⟨i,hi,ei.trans z⟩),z]
  ·rw[if_neg fun q=>?_,z]
   obtain⟨j,hj,ej⟩:=(mem 0).mp q
   have:=le t h j hj
   rw[ej,z]at this
   exact absurd this (by decide)
def Way.run {R:RS}{bs:Nat->Int}(w:Way m N s0 s1 e bs wd tr)(h:uV R m (fun i _=>s0 i) bs wd 0):∀t,t<=e->uV (cI R t) m tr bs wd t/\(t<e->jO (cI R t)=bs t):=
 b3G ⟨h.ln,fun i hi=>by rw[w.z i hi];exact h.ps i hi,h.bo,h.ev,h.l2,h.l4,h.sa,h.he⟩ w.st w.b01 w.le w.at_
theorem a8K:∀{a b:Nat},a<=b->(evR wd m a).length<=(evR wd m b).length
 |a,0,h=>by rw[show a=0 by omega];exact Yd _
 | a, b+1,h=>by
  by_cases c:a=b+1
  ·rw[c];exact Yd _
  ·show _<=(evR wd m b++evA wd b m).length
   rw[Yb]
   have:=a8K (show a<=b by omega)
   omega
def b5W {a b:List (Nat×Nat×Str)}(ha:a.Nodup)(h:∀x∈a,x∈b):a.length<=b.length:=sub_len ha h
def b7V {R:RS}(hl:a1X (R.ps.map aZ) b)(h:∀z∈R.ps.map aZ,z=0\/z=1):lJ R (wrL [] R.ps.length b) b=vO R/\b=jO R:=by
 have eb:b=jO R:=sH h hl
 refine⟨?_,eb⟩
 unfold vO
 rw[<-eb]
 congr 1
def frT (f:Nat×Nat×List Int)(d:Addr):HO:= .tup [.int ((f.1:Nat):Int),.int ((f.2.1:Nat):Int),.ref d]
structure F92 (m:Nat)(fs:List (Nat×Nat×List Int)):Prop where
 ok:∀f∈fs,f.1<m/\FrN f.2
 un:∀f∈fs,∀g∈fs,f.2.1=g.2.1->f.1=g.1
structure b2R (H:Hp)(fl:Addr)(ts:List Addr)(fs:List (Nat×Nat×List Int)):Prop where
 at_:H fl=some (.lst (ts.map V.ref))
 ln:ts.length=fs.length
 tp:∀(i:Nat)(t:Addr)(f:Nat×Nat×List Int),ts[i]? =some t->fs[i]? =some f->∃d,H t=some (frT f d)/\H d=some (.lst (f.2.2.map V.int))
def b0G (K:W.Frag):Sp:=fun vs H Q _=>∃(a:Addr)(ss:List Int)(m:Nat),vs= [.ref a,.int ((m:Nat):Int)]/\SqL K H a (ss.map V.int)/\ss.length<=63/\2<=m/\m<=5/\∀(fl:Addr)(ts:List Addr)(fs:List (Nat×Nat×List Int)) H',H fl=none->Same H H'->b2R H' fl ts fs->F92 m fs->1<=fs.length->fs.length<=5->Q (.ref fl) H'
structure lE (H0 H:Hp)(m:Nat)(rl ev:Addr)(ras:List Addr)(g:Nat->List Fr)(ts:Nat->List Addr):Prop where
 er:H rl=some (.lst (ras.map V.ref))
 ln:ras.length=m
 ge:∀i,m<=i->g i= []
 at_:∀(i:Nat)(a:Addr),ras[i]? =some a->H a=some (.lst ((ts i).map V.ref))/\a≠rl/\a≠ev
 tl:∀i,i<m->(ts i).length=(g i).length
 tp:∀(i j:Nat)(t:Addr)(f:Fr),i<m->(ts i)[j]? =some t->(g i)[j]? =some f->∃d,H0 t=some (frT (i,f) d)/\H0 d=some (.lst (f.2.map V.int))
def lE.same (h:lE H0 H m rl ev ras g ts)(k:Same H H'):lE H0 H' m rl ev ras g ts:=⟨k _ _ h.er,h.ln,h.ge,fun i a e=>⟨k _ _ (h.at_ i a e).1,(h.at_ i a e).2⟩,h.tl,h.tp⟩
def lE.hd (h:lE H0 H m rl ev ras g ts)(hi:i<m){f:Fr}{r:List Fr}(e:g i=f::r):∃t tr d,ts i=t::tr/\H0 t=some (frT (i,f) d)/\H0 d=some (.lst (f.2.map V.int)):=by
 have l:=h.tl i hi
 rw[e]at l
 cases z:ts i with
 |nil=>rw[z]at l;cases l
 | cons t tr=>
  obtain⟨d,a,b⟩:=h.tp i 0 t f hi (by rw[z];rfl) (by rw[e];rfl)
  exact⟨t,tr,d,rfl,a,b⟩
def b0A (K:W.Frag):Sp:=fun vs H Q _=>∃(H0:Hp)(m:Nat)(rl ev:Addr)(ras:List Addr)(g:Nat->List Fr)(ts:Nat->List Addr),vs= [.ref rl]/\lE H0 H m rl ev ras g ts/\Same H0 H/\m<=5/\(∃i,i<m/\g i≠ [])/\(∀i,∀f∈g i,FrN f)/\(∀i j f f',f∈g i->f'∈g j->f.1=f'.1->i=j)/\∀(q:Nat)(t d:Addr)(fq:Fr)(rq:List Fr)(tr:List Addr) H',b2P m q g fq rq->ts q=t::tr->H0 t=some (frT (q,fq) d)->H0 d=some (.lst (fq.2.map V.int))->Same H H'->Q (.ref t) H'
def a5S (K:W.Frag):Sp:=fun vs H Q _=>∃(wa oa:Addr)(w o:List Int)(k:Nat),vs= [.ref wa,.ref oa]/\H wa=some (.lst (w.map V.int))/\H oa=some (.lst (o.map V.int))/\Part o w k/\k<w.length/\w.length<=900/\o.length<=900/\Q (.int ((k:Nat):Int)) H
def Part.lo {o w:List Int}(p:Part o w k)(h:i<k):o.getD i 0=w.getD i 0:=by
 have a:∀l:List Int,l.getD i 0=(l.take k).getD i 0:=fun l=>by rw[Ye,Ye,List.getElem?_take,if_pos h]
 rw[a,p.tk,<-a]
def a1U {w:List Int}(h:i<w.length):atI (w.map V.int) ((i:Nat):Int)=some (.int (w.getD i 0)):=cO (by rw[Yk,Yc h,getD_get h];rfl)
def gR (fs:List (Nat×Nat×List Int))(i:Nat):List Fr:=(fs.filter fun f=>decide (f.1=i)).map fun f=>f.2
structure a1Y (m v:Nat)(g0:Nat->List Fr)(bits:List Int)(ds:List (Nat×Nat×Str)):Prop where
 way:∃(u:Nat->List Fr)(bs:Nat->Int)(wd:Nat->Nat->Str)(tr:Nat->Nat->PS),Way m 5 (fun i=>P92 v (g0 i) []) (fun i=>P92 v [] (u i)) bits.length bs wd tr/\(List.range bits.length).map bs=bits/\ds=evR wd m bits.length
 bl:bits.length<=600
 el:ds.length<=50
def uU.un' {bits:List Int}(h:uU m v n g0 k g u bits es)(m5:m<=5):UnT es:=by
 obtain⟨bs,wd,tr,_,_,hm⟩:=h.way
 refine⟨fun e he=>?_,fun i j x y hi hj e=>?_⟩
 ·have:=(cW.mp ((hm e).mp he)).2.1
  omega
 ·obtain⟨_,x2,x3,_⟩:=cW.mp ((hm x).mp (Yx hi))
  obtain⟨_,y2,y3,_⟩:=cW.mp ((hm y).mp (Yx hj))
  unfold mL at e
  have e1:x.1=y.1:=by omega
  have e2:x.2.1=y.2.1:=by omega
  have exy:x=y:=by
   rw[e1,e2,<-y3]at x3
   exact Prod.ext e1 (Prod.ext e2 x3)
  subst exy
  obtain⟨li,gi⟩:=Yg.mp hi
  obtain⟨lj,gj⟩:=Yg.mp hj
  exact(List.getElem?_inj li h.nd).mp (hi.trans hj.symm)
def uU.due {bits:List Int}{ds:List (Nat×Nat×Str)}(h:uU m v n g0 n g u bits es)(n5:n<=5)(m5:m<=5)(hm:∀x,x∈ds↔x∈es)(hp:ds.Pairwise fun a b=>mL a<mL b):a1Y m v g0 bits ds:=by
 have un:=h.un' m5
 have hp':ds.Pairwise qQ:=by
  rw[List.pairwise_iff_getElem]at hp ⊢
  intro i j hi hj hij
  have z:=hp i j hi hj hij
  have p1:=un.1 _ ((hm _).mp (YN hi))
  have p2:=un.1 _ ((hm _).mp (YN hj))
  unfold mL at z
  show _\/_
  omega
 obtain⟨bs,wd,tr,w,eb,he⟩:=h.way
 have g0':=vC (g:=g) m (by have:=h.tt;omega)
 have el:=h.el
 have bl:=h.bl
 refine⟨⟨u,bs,wd,tr,w.to fun i hi=>by rw[g0' i hi],eb,tV hp' (uG _) fun x=>(hm x).trans (he x)⟩,by omega,?_⟩
 have:=b5W (b8P hp') fun x hx=>(hm x).mp hx
 rw[XM]at el
 have:n*(n+1)<=5*6:=Nat.mul_le_mul n5 (by omega)
 omega
theorem a8J (m:Nat):∀fs:List (Nat×Nat×List Int),(fs.filter fun f=>decide (f.1<m)).length+(gR fs m).length=(fs.filter fun f=>decide (f.1<m+1)).length
 |[]=>rfl
 | f ::fs=>by
  have ih:=a8J m fs
  unfold gR at ih ⊢
  rw[Ya]at ih ⊢
  rcases Nat.lt_trichotomy f.1 m with z | z | z
  ·rw[X8 (by simp;omega),XH (by simp;omega),X8 (by simp;omega),YE,YE]
   omega
  ·rw[XH (by simp;omega),X8 (by simp;omega),X8 (by simp;omega),YE,YE]
   omega
  ·rw[XH (by simp;omega),XH (by simp;omega),XH (by simp;omega)]
   omega
theorem vD (fs:List (Nat×Nat×List Int)):∀m,tot (gR fs) m=(fs.filter fun f=>decide (f.1<m)).length
 | 0=>by
  rw[List.filter_eq_nil_iff.mpr fun f _=>by simp]
  rfl
 | m+1=>by
  rw[<-a8J,<-vD fs m]
  rfl
def nD {f:Fr}:f∈gR fs i↔(i,f)∈fs:=by
 unfold gR
 constructor
 ·intro h
  obtain⟨g,hg,rfl⟩:=Y2.mp h
  obtain⟨h1,h2⟩:=Ji.mp hg
  have:=YZ h2
  subst this
  exact h1
 ·exact fun h=>Y2.mpr ⟨(i,f),Ji.mpr ⟨h,Yn rfl⟩,rfl⟩
def F92.ch (h:F92 m fs):uU m v fs.length (gR fs) 0 (gR fs) (fun _=>[]) [] []:=by
 refine⟨⟨fun _=>1,fun _ _=>"",fun i _=>P92 v (gR fs i) [],⟨fun i _=>rfl,fun i _=>rfl,fun t ht=>absurd ht (Y0 _),fun t ht=>absurd ht (Y0 _),fun t ht=>absurd ht (Y0 _),fun t ht=>absurd ht (Y0 _),fun t _ i _=>YY _⟩,rfl,fun x=>Iff.rfl⟩,List.nodup_nil,?_,fun i _=>Yd _,?_,Yd _,Yd _,fun i f hf=>(h.ok _ (nD.mp hf)).2,fun i j f f' h1 h2 e=>h.un _ (nD.mp h1) _ (nD.mp h2) e⟩
 ·rw[vD,List.filter_eq_self.mpr fun f hf=>Yn (h.ok f hf).1]
  rfl
 ·rw[Jn,Nat.sub_zero,Nat.zero_add]
  exact Yd _
def nY (ts:List Addr)(fs:List (Nat×Nat×List Int))(i:Nat):List Addr:=((ts.zip fs).filter fun p=>decide (p.2.1=i)).map Prod.fst
def a8G {ts:List Addr}(h:ts.length=fs.length)(i:Nat):gR fs i=((ts.zip fs).filter fun p=>decide (p.2.1=i)).map fun p=>p.2.2:=by
 have e:fs=(ts.zip fs).map Prod.snd:=(List.map_snd_zip (by omega)).symm
 unfold gR
 conv=>lhs;rw[e,List.filter_map,List.map_map]
 rfl
def a0K {fl:Addr}{ts:List Addr}(h:b2R H fl ts fs)(i:Nat):(nY ts fs i).length=(gR fs i).length/\∀(j:Nat)(t:Addr)(f:Fr),(nY ts fs i)[j]? =some t->(gR fs i)[j]? =some f->∃d,H t=some (frT (i,f) d)/\H d=some (.lst (f.2.map V.int)):=by
 rw[a8G h.ln]
 unfold nY
 refine⟨by rw[Ya,Ya],fun j t f h1 h2=>?_⟩
 rw[Yk]at h1 h2
 obtain⟨p,hp,rfl⟩:=YK.mp h1
 rw[hp]at h2
 cases h2
 obtain⟨m1,m2⟩:=Ji.mp (Yx hp)
 have:=YZ m2
 subst this
 obtain⟨k,hk⟩:=List.getElem?_of_mem m1
 obtain⟨h3,h4⟩:=List.getElem?_zip_eq_some.mp hk
 exact h.tp k _ _ h3 h4
def dR.of {zs:List V}{ds:List (Nat×Nat×Str)}(h:dR H ys es):zs.length=ds.length->(∀(i:Nat)(z:V)(d:Nat×Nat×Str),zs[i]? =some z->ds[i]? =some d->∃j:Nat,ys[j]? =some z/\es[j]? =some d)->dR H zs ds:=by
 induction zs generalizing ds with
 | nil=>intro l _;cases ds with
  |nil=>exact .nil
  |cons d ds=>cases l
 | cons z zs ih=>intro l k;cases ds with
  |nil=>cases l
  | cons d ds=>
   obtain⟨j,a,b⟩:=k 0 z d rfl rfl
   obtain⟨t,e,rfl,e1,e2⟩:=h.get a
   rw[b]at e1
   cases e1
   exact .cons e2 (ih (by simpa using l) fun i z d h1 h2=>k (i+1) z d h1 h2)
def dR.trs (h:dR H ys es):c0G K H ys es:=⟨h.len,fun i x e h1 h2=>by
 obtain⟨t,e',rfl,e1,e2⟩:=h.get h1
 rw[h2]at e1
 cases e1
 exact⟨t,rfl,SqT.of e2⟩⟩
structure rA (H3 H':Hp)(el:Addr)(zs:List V)(es:List (Nat×Nat×Str)):Prop where
 at_:H' el=some (.lst zs)
 ev:dR H' zs es
 kp:∀x u,x≠el->H3 x=some u->H' x=some u
def rA.same {H3 H4 H5:Hp}{el:Addr}{zs:List V}(h:rA H3 H4 el zs es)(k:Same H4 H5):rA H3 H5 el zs es:=⟨k _ _ h.at_,h.ev.imp fun x xs e=>k _ _ e,fun x u n e=>k _ _ (h.kp x u n e)⟩
def rA.add {H3 H4:Hp}{el:Addr}{zs:List V}(h:rA H3 H4 el zs es)(ht:H4 t=none)(e:Nat×Nat×Str):rA H3 (upd (upd H4 t (.tup [.int ((e.1:Nat):Int),.int ((e.2.1:Nat):Int),.str e.2.2])) el (.lst (zs++[.ref t]))) el (zs++[.ref t]) (es++[e]):=by
 generalize eU:upd H4 t _=H5
 have g:=nS ht eU
 have et:=nE eU
 have h':=h.same g
 clear eU
 refine⟨aC,(h'.ev.snoc et).imp fun x xs ex=>?_,fun x u n e=>?_⟩
 ·rw[aH fun z=>by rw[z,h'.at_]at ex;cases ex]
  exact ex
 ·rw[aH n]
  exact h'.kp x u n e
def b0J (K:W.Frag):Sp:=fun vs H Q _=>∃(fl:Addr)(ts:List Addr)(fs:List (Nat×Nat×List Int))(m v:Nat),vs= [.ref fl,.int ((m:Nat):Int),.int ((v:Nat):Int)]/\b2R H fl ts fs/\F92 m fs/\1<=fs.length/\fs.length<=5/\2<=m/\m<=5/\1<=v/\v<=5/\∀(t bl el:Addr)(bits:List Int)(zs:List V)(ds:List (Nat×Nat×Str)) H',H t=none->H el=none->H bl=none->Same H H'->H' t=some (.tup [.ref bl,.ref el])->H' bl=some (.lst (bits.map V.int))->H' el=some (.lst zs)->dR H' zs ds->a1Y m v (gR fs) bits ds->Q (.ref t) H'
structure xQ (R:RS)(m e:Nat)(bs:Nat->Int)(wd:Nat->Nat->Str)(tr:Nat->Nat->PS):Prop where
 m2:2<=m
 e7:e<=700
 ev:(evR wd m e).length<=50
 run:∀t,t<=e->uV (cI R t) m tr bs wd t/\(t<e->jO (cI R t)=bs t)
 up:∀t,t<=e->∀i,i<m->(tr i t).up.length<=5
def xQ.sz {R:RS}{bs:Nat->Int}(h:xQ R m e bs wd tr)(hk:k<=e):SzR (cI R k):=by
 obtain⟨a,_⟩:=h.run k hk
 have e7:=h.e7
 have len:∀f:Nat->Int,((List.range k).map f).length<900:=fun f=>by rw[Ya,YC];omega
 have mem:∀{xs:List (List Int)},xs.length=m->(∀i,i<m->∃f:Nat->Int,xs[i]? =some ((List.range k).map f))->∀x∈xs,x.length<900:=fun {xs} hl h x hx=>by
  obtain⟨i,hi,rfl⟩:=Y7 hx
  obtain⟨f,e⟩:=h i (by omega)
  rw[Yc hi]at e
  rw[Yp e]
  exact len f
 refine⟨by rw[a.bo];exact len _,mem a.l2 fun i hi=>⟨_,a.sa i hi⟩,mem a.l4 fun i hi=>⟨_,a.he i hi⟩,?_,fun S hS=>?_⟩
 ·rw[a.ev]
  have:=a8K (wd:=wd) (m:=m) hk
  have:=h.ev
  omega
 ·obtain⟨i,hi,rfl⟩:=Y7 hS
  have hm:i<m:=by rw[<-a.ln];exact hi
  have z:=a.ps i hm
  rw[Yc hi]at z
  rw[Yp z]
  have:=h.up k hk i hm
  omega
def xQ.ne {R:RS}{bs:Nat->Int}(h:xQ R m e bs wd tr)(hk:k<=e):(cI R k).ps≠ []:=fun z=>by
 have:=(h.run k hk).1.ln
 rw[z]at this
 have:=h.m2
 have:0=m:=by assumption
 omega
theorem mD (R:RS)(a:Nat):∀b,cI (cI R a) b=cI R (a+b)
 |0=>rfl
 | b+1=>by
  show vO _=vO _
  rw[mD R a b]
  rfl
def xQ.bits {R:RS}{bs:Nat->Int}(h:xQ R m e bs wd tr){a b:Nat}(hab:a+b<=e):((List.range b).map fun k=>jO (cI (cI R a) k))=(List.range b).map fun k=>bs (a+k):=XC fun k hk=>by
 have:=Xo.mp hk
 rw[mD]
 exact(h.run (a+k) (by omega)).2 (by omega)
def b0V (bs:Nat->Int)(a b:Nat):(List.range a).map bs++(List.range b).map (fun k=>bs (a+k))=(List.range (a+b)).map bs:=by
 rw[List.range_add,Yj,List.map_map]
 rfl
def a5R (K:W.Frag)(C:Addr)(A:Cs)(P:Addr):Sp:=fun vs H Q _=>∃(a:Addr)(ss:List Int)(r:Addr)(F:Hp)(R:RS)(o:Own)(m e:Nat)(bs:Nat->Int)(wd:Nat->Nat->Str)(tr:Nat->Nat->PS),vs= [.ref a,.ref r,.int ((e:Nat):Int)]/\SqL K H a (ss.map V.int)/\ss.length<=63/\J95 C A P F H r R o/\xQ R m e bs wd tr/\∀l H' o',J95 C A P F H' r (cI R e) o'->Mu P F H' o' l (((List.range e).map bs).map V.int)->Q (.ref l) H'
def a5G (C:Addr)(A:Cs):Sp:=fun vs H Q _=>∃(r:Addr)(R:RS)(o:Own)(w:Rw)(m e:Nat)(bs:Nat->Int)(wd:Nat->Nat->Str)(tr:Nat->Nat->PS)(bl:Addr),vs= [.ref r,.int ((m:Nat):Int),.ref bl]/\cA C A H r R o w/\uV R m tr bs wd e/\H bl=some (.lst (((List.range e).map bs).map V.int))/\2<=m/\m<=5/\e<=700/\(∀t,t<e->∀i,i<m->bs t<=aZ (tr i t))/\(∀t,t<e->∃i,i<m/\aZ (tr i t)=bs t)/\∀H',Same H H'->Q (.bl true) H'
def a0O (n:Nat):(List.replicate n [V.int 1]).flatten=(List.replicate n (1:Int)).map V.int:=by
 induction n with
 |zero=>rfl
 |succ n ih=>rw[Xb,Xb,Xe,ih,YR];rfl
def a3P (h:fs[i]? =some f)(k:Nat):gR (fs.take (i+1)) k=gR (fs.take i) k++(if f.1=k then [f.2] else []):=by
 obtain⟨l,e⟩:=Yg.mp h
 unfold gR
 rw[Yh l,e,List.filter_append,Yj]
 congr 1
 by_cases c:f.1=k
 ·simp[c]
 ·simp[c]
structure rJ (m v:Nat)(fs:List (Nat×Nat×List Int))(i:Nat)(R:RS):Prop where
 ln:R.ps.length=m
 ps:∀k,k<m->R.ps[k]? =some (P92 v (gR (fs.take i) k) [])
 bo:R.bo= []
 ev:R.ev= []
 l2:R.sa.length=m
 sa:∀k,k<m->R.sa[k]? =some []
 l4:R.he.length=m
 he:∀k,k<m->R.he[k]? =some []
 ol:R.ow.length<=i
 ow:∀(n:Nat)(u:V),gZ R.ow (.inl ((n:Nat):Int))=some u->∃f∈fs,f.2.1=n/\u= .int ((f.1:Nat):Int)
def rJ.start (m v:Nat)(fs:List (Nat×Nat×List Int)):rJ m v fs 0 (R0 (List.replicate m ((0:Int),(0:Int))) ((v:Nat):Int)):=by
 have lR:(List.replicate m ((0:Int),(0:Int))).length=m:=Yz
 have rp:∀k,k<m->(List.replicate (List.replicate m ((0:Int),(0:Int))).length ([]:List Int))[k]? =some []:=fun k hk=>by rw[X4,if_pos (by rw[lR];exact hk)]
 refine⟨by show (List.map _ _).length=m;rw[Ya,lR],fun k hk=>?_,rfl,rfl,by show (List.replicate _ _).length=m;rw[Yz,lR],rp,by show (List.replicate _ _).length=m;rw[Yz,lR],rp,Yd _,fun n u e=>by cases e⟩
 show (List.map _ (List.replicate m ((0:Int),(0:Int))))[k]? =_
 rw[Yk,X4,if_pos hk]
 rfl
def rJ.hand {R:RS}(h:rJ m v fs i R)(hF:F92 m fs)(ef:fs[i]? =some f):(gZ R.ow (.inl ((f.2.1:Nat):Int))).getD (.int ((f.1:Nat):Int))= .int ((f.1:Nat):Int)/\R.ps[f.1]? =some (P92 v (gR (fs.take i) f.1) [])/\rJ m v fs (i+1) { R with ps:=R.ps.set f.1 { P92 v (gR (fs.take i) f.1) [] with wt:=(P92 v (gR (fs.take i) f.1) []).wt++[(f.2.1,f.2.2)] },ow:=putK R.ow (.inl ((f.2.1:Nat):Int)) (.int ((f.1:Nat):Int)) }:=by
 have fm:=Yx ef
 have hm:=(hF.ok f fm).1
 refine⟨?_,h.ps _ hm,⟨by show (R.ps.set _ _).length=m;rw[Xs];exact h.ln,fun k hk=>?_,h.bo,h.ev,h.l2,h.sa,h.l4,h.he,?_,fun n u e=>?_⟩⟩
 ·cases e:gZ R.ow (.inl ((f.2.1:Nat):Int)) with
  |none=>rfl
  | some u=>
   obtain⟨g,hg,e1,e2⟩:=h.ow _ u e
   rw[e2,hF.un g hg f fm e1]
   rfl
 ·show (R.ps.set f.1 _)[k]? =_
  rw[Xg,a3P ef]
  by_cases c:f.1=k
  ·subst c
   rw[if_pos rfl,if_pos (by rw[h.ln];exact hm),if_pos rfl]
   rfl
  ·rw[if_neg c,if_neg c,YQ]
   exact h.ps k hk
 ·show (putK _ _ _).length<=_
  have h1:=b0Y (kvs:=R.ow) (k:= .inl ((f.2.1:Nat):Int)) (v:= .int ((f.1:Nat):Int))
  have h2:=h.ol
  omega
 ·have hv':gZ (putK R.ow (.inl ((f.2.1:Nat):Int)) (.int ((f.1:Nat):Int))) (.inl ((n:Nat):Int))=some u:=e
  rw[a4N]at hv'
  split at hv'
  ·rename_i z
   cases hv'
   exact⟨f,fm,by have:=Sum.inl.inj z;omega,rfl⟩
  ·exact h.ow n u hv'
def rJ.at0 {R:RS}(h:rJ m v fs fs.length R)(bs:Nat->Int)(wd:Nat->Nat->Str):uV R m (fun i _=>P92 v (gR fs i) []) bs wd 0:=by
 have e:fs.take fs.length=fs:=Yl (Yd _)
 refine⟨h.ln,fun i hi=>?_,h.bo,h.ev,h.l2,h.l4,h.sa,h.he⟩
 have:=h.ps i hi
 rw[e]at this
 exact this
structure a9K (R:RS)(m v e:Nat)(bits:List Int)(ds:List (Nat×Nat×Str))(bs:Nat->Int)(wd:Nat->Nat->Str)(tr:Nat->Nat->PS):Prop where
 rn:xQ R m e bs wd tr
 bt:(List.range e).map bs=bits
 ev:ds=evR wd m e
 le:∀t,t<e->∀i,i<m->bs t<=aZ (tr i t)
 at_:∀t,t<e->∃i,i<m/\aZ (tr i t)=bs t
 st:∀t,t<e->∀i,i<m->bH (tr i t) (bs t)=(wd i t,tr i (t+1))
 wt:∀i,i<m->∃u n,tr i e={ P92 v [] u with now:= .free n }
def a1Y.all {bits:List Int}{ds:List (Nat×Nat×Str)}{R:RS}(d:a1Y m v (gR fs) bits ds)(h:rJ m v fs fs.length R)(m2:2<=m){x:Nat}(x8:x<=8):∃bs wd tr,a9K R m v (bits.length+x) (bits++List.replicate x 1) ds bs wd tr:=by
 obtain⟨u,bs,wd,tr,w,eb,ee⟩:=d.way
 have hu:∀i,i<m->((fun i=>P92 v [] (u i)) i).up.length<=5:=fun i hi=>by
  have:=w.up _ (Yd _) i hi
  rw[w.l i hi]at this
  exact this
 have w2:=a4L (m:=m) (N:=5) (n:=x) (s:=fun i=>P92 v [] (u i)) (by omega) hu fun i _=>rfl
 have W:=w.trans (w2:Way m 5 (fun i=>P92 v [] (u i)) _ x _ _ _)
 have ev:ds=evR (fun i=>glue bits.length (wd i) (fun _=>"")) m (bits.length+x):=by
  rw[ee]
  refine tV (uG _) (uG _) fun y=>?_
  rw[nA (w2:=fun _ _=>"")]
  refine⟨.inl,fun z=>z.elim id fun hz9=>?_⟩
  obtain⟨y',hy,_⟩:=hz9
  obtain⟨_,_,q1,q2⟩:=cW.mp hy
  exact absurd q1 q2
 have bl:=d.bl
 refine⟨_,_,_,⟨⟨m2,by omega,by rw[<-ev];exact d.el,W.run (h.at0 _ _),W.up⟩,?_,ev,W.le,W.at_,W.st,fun i hi=>⟨u i,x,W.l i hi⟩⟩⟩
 rw[qN,eb]
 congr 1
 rw[List.map_const',YC]
def a9K.ok {R:RS}{bits:List Int}{ds:List (Nat×Nat×Str)}{bs:Nat->Int}(h:a9K R m v e bits ds bs wd tr):∀x∈ds,PyData.strOk x.2.2=true:=fun x hx=>by
 rw[h.ev]at hx
 obtain⟨h1,h2,h3,_⟩:=cW.mp hx
 have z:=a1H (fun s=>PyData.strOk s=true) (by decide +kernel) (by decide +kernel) (by decide +kernel) (by decide +kernel) (by decide +kernel) (by decide +kernel) (by decide +kernel) (by decide +kernel) (tr x.2.1 x.1) (bs x.1)
 rw[h.st x.1 h1 x.2.1 h2]at z
 rw[h3]
 exact z
def pB (K:W.Frag):Sp:=fun vs H Q _=>∃(a:Addr)(ns:List Int),vs= [.ref a]/\SqL K H a (ns.map V.int)/\ns.length<=63/\a3Y 965 a6P iqT H/\∀H',Q (.bl true) H'
variable (Zc:FB P w K mg base (CX0) 1 "_law_draw" Zg2 Zjy ["_law_script","_law_k","_law_many"] (b4R K))
include Zr in
theorem ZlV (F0:GFm K mg "_law_draw" ZjV Zg2 Zjy):type_of% Zc:=by
 refine fbK ["_law_script","_law_k","_law_many","_law_cell","_law_seed"] F0 fun H Q nd hr h=>?_
 obtain⟨a,ns,k,m,rfl,hS,h63,k0,k1,m0,q⟩:=h
 refine⟨_,(aD (aX (i:=3) nd rfl (Or.inl rfl) (cB (cV (aW tL (aY cU rfl Zr bV (aA (dv 0) aB)) aG (aR _)) (bK dJ (dv 0) (aU pO (dv 1) (aY cU rfl Zr bV (aA (dv 0) aB))) (fun _ _=>rfl)) aG))) (aD (aX (i:=4) nd rfl (Or.inl rfl) (aU cH (aU cH (aU pO (dv 3) aG) (aU iK (aU iK aG (dv 1)) (dv 1))) aG)) (aF (aL (aU pO (aU pO (aU iK (aU pO (aU iK (dv 4) aG) aG) aG) aG) (dv 2)))))),?_⟩
 refine⟨fun x H'=>(∃v,x= .int v)/\H'=H,?_,?_⟩
 ·have hlen:(ns.map V.int).length=ns.length:=Ya _
  refine⟨_,.inl hS,?_⟩
  conv=>whnf
  refine bR (fun c=>?_) (fun c=>⟨⟨_,rfl⟩,rfl⟩)
  have c1:(0:Int)<(((ns.map V.int).length:Nat):Int):=dec_true c
  obtain⟨v,hv⟩:=b7J (ns:=ns) (k:=k) (by rw[hlen]at c1;omega)
  exact⟨_,.inl hS,c1,_,_,hS,hv,⟨v,rfl⟩,rfl⟩
 rintro x H' ⟨⟨v,rfl⟩,rfl⟩
 have k2:31*k*k<=31*100000*100000:=Int.mul_le_mul (by omega) k1 k0 (by decide)
 have k3:0<=31*k*k:=Int.mul_nonneg (by omega) k0
 refine⟨(by show (0:Int)<_;decide),⟨iH (by decide) (by decide),iH (by omega) (by omega)⟩,⟨iH (by omega) (by omega),iH (by omega) (by omega)⟩,?_⟩
 have s0:0<=v % 1000003:=Int.emod_nonneg _ (by decide)
 have s1:v % 1000003<1000003:=Js _ (by decide)
 refine⟨⟨iH (by omega) (by omega),iH (by decide) (by decide)⟩,(by show (0:Int)<_;decide),?_⟩
 have t0:0<=(v % 1000003+31*k*k+1)*48271 % 999983:=Int.emod_nonneg _ (by decide)
 have t1:(v % 1000003+31*k*k+1)*48271 % 999983<999983:=Js _ (by decide)
 refine⟨⟨iH (by omega) (by omega),iH (by decide) (by decide)⟩,(by show (0:Int)<_;decide),m0,?_⟩
 exact q _ (Int.emod_nonneg _ (by omega)) (Js _ m0)
variable (ZaF:FB P w K mg base (CX0) 2 "_law_wire" Zg6 ZjC ["_law_name","_law_data"] (a9Z K))
include Zx Zr ZlC in
theorem ZlZ (F0:GFm K mg "_law_wire" ZjZ Zg6 ZjC):type_of% ZaF:=by
 refine fbK ["_law_name","_law_data","_law_number","_law_byte","_law_rest","_law_k","_law_whole","_law_wire_here"] F0 fun H Q nd hr h=>?_
 obtain⟨d,n,ds,rfl,hS,hn,hl,hall,q⟩:=h
 refine⟨_,(aD (aX (i:=2) nd rfl (Or.inl rfl) (aU cH (aU iK (dv 0) aG) (aY cU rfl Zr bV (aA (dv 1) aB)))) (aD (dM YU rfl (cY (dv 1)) (cM (i:=3) nd rfl (Or.inl rfl)) (aF (aX (i:=2) nd rfl (Or.inl rfl) (aU cH (aU iK (dv 2) aG) (dv 3))))) (aD (aX (i:=4) nd rfl (Or.inl rfl) (aU iK (dv 2) aG)) (aD (dM YU rfl (rY rfl Zx (aA aG (aA aG (aA (a0U a0E aG) aB)))) (cM (i:=5) nd rfl (Or.inl rfl)) (aF (iV (bF (aW dO (aU a0F (aU a0C (dv 4) (dv 5)) aG) aG (aR _)) (aF (aX (i:=4) nd rfl (Or.inl rfl) (aU b2T (dv 4) (aU b2U aG (aU iZ (dv 5) aG))))) aV)))) (aD (aX (i:=6) nd rfl (Or.inl rfl) (aU cH (aU iK (dv 2) aG) (dv 4))) (aD (aX (i:=7) nd rfl (Or.inl rfl) (cZ aB)) (aD (dM YU rfl (rY rfl Zx (aA (aU cH aG (aU iK aG (aY cU rfl Zr bV (aA (dv 1) aB)))) (aA (a0U a0E aG) (aA (a0U a0E aG) aB)))) (cM (i:=5) nd rfl (Or.inl rfl)) (aD (bA (bY (dv 7) (aA (aU a0F (aU a0C (dv 6) (dv 5)) aG) aB))) (aF (iV (bF (PW.pt (lN (aW tL (aY cU rfl Zr bV (aA (dv 7) aB)) aG (aR _)) (kO (aW dO (aU pO (aY (b7Q rfl) rfl ZlC b7D (aA (jU uW (dv 7) (iR (aU iZ (aY cU rfl Zr bV (aA (dv 7) aB)) aG)) a0S) aB)) aG) aG (aR _))))) (aF (bA (bY (dv 7) (aA (aU iZ aG (bK dJ (dv 7) (aU iZ (aY cU rfl Zr bV (aA (dv 7) aB)) aG) (fun _ _=>rfl))) aB)))) aV))))) (aF (aL (dv 7)))))))))),?_⟩
 refine⟨⟨iH (by omega) (by omega),by decide⟩,_,.inl hS,?_⟩
 rw[Ya]
 refine⟨⟨_,hS⟩,gC (xs:=ds.map V.int) (fun i σ H'=>(∃x,σ= [some (.int ((n:Nat):Int)),some (.ref d),some (.int ((nm (hdD ((n:Nat):Int) ds.length (ds.take i)):Nat):Int)),x,none,none,none,none])/\H'=H) ⟨⟨none,?_⟩,rfl⟩ (fun i σ H' _ z=>z.2▸hS) ?_ ?_⟩
 ·rw[Jb,b5U hn (by omega)]
  rfl
 ·rintro i x σ H' hx ⟨⟨y,rfl⟩,rfl⟩
  obtain⟨hi,rfl⟩:=nC hx
  have hb:=Je.mp hall _ (YN hi)
  have hb2:=gP.mp hb
  have hlt:=lK (mZ ((n:Nat):Int) ds.length (ds.take i))
  rw[pI,Yu]at hlt
  have h2:2 ^ (12+8*min i ds.length)<=2 ^ 68:=YA (by decide) (by omega)
  refine⟨⟨qZ (n:=68) (by rw[Int.natAbs_natCast];omega),by decide⟩,⟨some (.int ds[i]),?_⟩,rfl⟩
  rw[Yh hi,b5T hb]
  have e:((nm (hdD ((n:Nat):Int) ds.length (ds.take i))*256+(ds[i]).toNat:Nat):Int)=((nm (hdD ((n:Nat):Int) ds.length (ds.take i)):Nat):Int)*256+ds[i]:=by
   rw[Int.natCast_add,Int.natCast_mul,Int.toNat_of_nonneg hb2.1]
   rfl
  rw[e]
  rfl
 rintro σ H1 ⟨⟨x,rfl⟩,rfl⟩
 rw[Ya,Yl (Yd _)]
 have eh:nm (hdD ((n:Nat):Int) ds.length ds)=nm (hd ((n:Nat):Int) ds):=rfl
 rw[eh]
 have hN:=b3Q (n:=((n:Nat):Int)) hl
 have de:=b6Q (n:=((n:Nat):Int)) hl
 have fe:=b8Z (n:=((n:Nat):Int)) (ds:=ds)
 have fbi:∀{i:Nat},i<27+8*ds.length->(fb ((n:Nat):Int) ds)[i]? =some (fJ (nm (fb ((n:Nat):Int) ds)) (26+8*ds.length-i)):=fun h=>b6O h
 have fbl:=lU ((n:Nat):Int) ds
 have fbb:=pJ ((n:Nat):Int) ds
 have flt:=lK fbb
 rw[fbl]at flt
 have f83:2 ^ (27+8*ds.length)<=2 ^ 83:=YA (by decide) (by omega)
 generalize nm (hd ((n:Nat):Int) ds)=N at hN de fe
 generalize fb ((n:Nat):Int) ds=bs at fe fbi fbl fbb flt q
 generalize nm bs=M at fe fbi flt
 refine⟨⟨qZ (n:=91) (by rw[Int.natAbs_natCast];omega),by decide⟩,by decide,by decide,76,by decide,by decide,?_⟩
 refine qO (fun i σ H'=>(∃y,σ= [some (.int ((n:Nat):Int)),some (.ref d),some (.int ((N:Nat):Int)),x,some (.int ((dvN (N*32768) i:Nat):Int)),y,none,none])/\H'=H1) ⟨⟨none,rfl⟩,rfl⟩ ?_ ?_
 ·rintro i σ H' hi ⟨⟨y,rfl⟩,rfl⟩
  obtain⟨d1,d2⟩:=zM hN i (by omega)
  have ek:(90:Int)+((i:Nat):Int)*(-1)=((90-i:Nat):Int):=by omega
  rw[ek]
  have nx:dvN (N*32768) (i+1)=dvS (dvN (N*32768) i) (90-i):=rfl
  generalize dvN (N*32768) i=z at d1 nx
  refine⟨fun σ' H2=>σ'= [some (.int ((n:Nat):Int)),some (.ref d),some (.int ((N:Nat):Int)),x,some (.int ((dvS z (90-i):Nat):Int)),some (.int ((90-i:Nat):Int)),none,none]/\H2=H',?_,?_⟩
  ·refine⟨by omega,bR (fun c=>?_) (fun c=>?_)⟩
   ·have c1:=dec_true c
    rw[qY]at c1
    have c2:z.testBit (90-i)=true:=by
     unfold fJ at c1
     split at c1
     ·assumption
     ·exact absurd c1 (by decide)
    have es:(((90-i:Nat):Int)-15).toNat=90-i-15:=by omega
    have ex:Builtin.bitXor ((z:Nat):Int) (64647*2 ^ (((90-i:Nat):Int)-15).toNat)=((dvS z (90-i):Nat):Int):=by
     rw[es,show (64647:Int)*2 ^ (90-i-15)=((64647*2 ^ (90-i-15):Nat):Int) from by rw[Int.natCast_mul,Int.natCast_pow];rfl,bxor]
     unfold dvS
     rw[if_pos c2,Xl]
    refine⟨⟨by omega,by omega,by decide⟩,?_,rfl⟩
    rw[<-ex]
    rfl
   ·have c1:=dec_false c
    rw[qY]at c1
    have c2:¬ z.testBit (90-i)=true:=fun t=>c1 (by unfold fJ;rw[if_pos t])
    refine⟨?_,rfl⟩
    unfold dvS
    rw[if_neg c2]
    rfl
  rintro σ' H2 ⟨rfl,rfl⟩
  exact⟨⟨_,by rw[nx]⟩,rfl⟩
 rintro σ H2 ⟨⟨y,rfl⟩,rfl⟩
 rw[de]
 generalize ckn (hd ((n:Nat):Int) ds)=cc at fe
 have hM:((N:Nat):Int)*32768+((cc:Nat):Int)=((M:Nat):Int):=by omega
 refine⟨⟨qZ (n:=91) (by rw[Int.natAbs_natCast];omega),by decide⟩,aM rfl,fun p hp=>?_⟩
 have g0:=aK hp (.lst [])
 have e0:=aC (H:=H2) (a:=p) (o:= .lst [])
 generalize upd H2 p (.lst [])=H3 at g0 e0
 refine⟨_,.inl (g0.seq hS),?_⟩
 rw[Ya]
 refine⟨⟨by decide,iH (by omega) (by omega)⟩,by decide,b0Q hl,27+8*ds.length,yL hl,a2P hl,?_⟩
 refine qO (fun i σ H'=>(∃y,σ= [some (.int ((n:Nat):Int)),some (.ref d),some (.int ((N:Nat):Int)),x,some (.int ((cc:Nat):Int)),y,some (.int ((M:Nat):Int)),some (.ref p)])/\H' p=some (.lst ((put (bs.take i)).map V.int))/\Same H2 H') ⟨⟨y,by rw[<-hM];rfl⟩,e0,g0⟩ ?_ ?_
 ·rintro i σ H' hi ⟨⟨y,rfl⟩,h1,h3⟩
  have pl:=mG (bs.take i)
  rw[Yu]at pl
  have h4:=mF (bs.take i)
  have pb:=vX (l:=bs.take i) fun b h=>fbb b (Xz h)
  have hil:i<bs.length:=by omega
  have hbi:=fbb _ (YN hil)
  have ebi:bs[i]=fJ M (26+8*ds.length-i):=by
   have:=fbi hi
   rw[Yc hil]at this
   exact Yp this
  generalize vW hil=ept
  generalize bs[i]=b at ept hbi ebi
  generalize put (bs.take i)=w at h1 pl h4 pb ept
  have ek:(26:Int)+8*((ds.length:Nat):Int)+((i:Nat):Int)*(-1)=((26+8*ds.length-i:Nat):Int):=by omega
  rw[ek]
  have eb:Builtin.bitAnd (((M:Nat):Int) / 2 ^ ((26+8*ds.length-i:Nat):Int).toNat) 1=b:=(qY _ _).trans ebi.symm
  generalize 26+8*ds.length-i=kk at eb
  refine⟨⟨_,SqL.of h1⟩,by omega,_,h1,bD (by rw[Ya];omega),?_⟩
  have h1':upd H' p (.lst (w.map V.int++[.int b])) p=some (.lst ((w++[b]).map V.int)):=by rw[aC,Yj];rfl
  have h3':Same H2 (upd H' p (.lst (w.map V.int++[.int b]))):=h3.put hp
  rw[show (fun i j:Int=>V.int (Builtin.bitAnd i j)) (((M:Nat):Int) / 2 ^ ((kk:Nat):Int).toNat) 1= .int b from YT V.int eb]
  generalize upd H' p (.lst (w.map V.int++[.int b]))=H3 at h1' h3'
  have wb:bN (w++[b]):=fun z hz=>by
   rcases Yy.mp hz with h | h
   ·exact pb z h
   ·rw[Yi.mp h];exact hbi
  have wl:(w++[b]).length=w.length+1:=by rw[Yb,Yv]
  have r5:run (w++[b])<=5:=Y1 pX (by omega)
  have rl:=a6E (w++[b])
  refine⟨fun σ' H4=>σ'= [some (.int ((n:Nat):Int)),some (.ref d),some (.int ((N:Nat):Int)),x,some (.int ((cc:Nat):Int)),some (.int ((kk:Nat):Int)),some (.int ((M:Nat):Int)),some (.ref p)]/\H4 p=some (.lst ((pst w b).map V.int))/\Same H2 H4,?_,?_⟩
  ·have tk:(w++[b]).take (w++[b]).length=w++[b]:=Yl (Yd _)
   refine⟨_,.inl (SqL.of h1'),?_⟩
   rw[Ya]
   conv=>whnf
   refine bR (fun c=>?_) (fun c=>yW ?_)
   ·have c1:(4:Int)<(((w++[b]).length:Nat):Int):=dec_true c
    refine⟨_,.inl (SqL.of h1'),_,SqL.of h1',fun p5 hp5=>?_⟩
    rw[Ya]
    have ec:(((w++[b]).length:Nat):Int)-5=(((w++[b]).length-5:Nat):Int):=by omega
    have hcut:jM ((w++[b]).map V.int) (some ((((w++[b]).length:Nat):Int)-5)) none=((w++[b]).drop ((w++[b]).length-5)).map V.int:=by
     rw[ec];exact a8W (by omega)
    refine⟨(w++[b]).drop ((w++[b]).length-5),SqL.of (by rw[<-hcut];exact aC),(by show (0:Int)<5;decide),?_⟩
    have sr:=a9X wb (n:=5) (k:=(w++[b]).length) (by decide) (by omega) (Yd _)
    rw[tk,Yl (l:=(w++[b]).drop ((w++[b]).length-5)) (by rw[XE];omega)]at sr
    have h1'':upd H3 p5 (.lst (jM ((w++[b]).map V.int) (some ((((w++[b]).length:Nat):Int)-5)) none)) p=some (.lst ((w++[b]).map V.int)):=by rw[aH (aO h1' hp5)];exact h1'
    have h3'':=h3'.trans (aK hp5 (.lst (jM ((w++[b]).map V.int) (some ((((w++[b]).length:Nat):Int)-5)) none)))
    generalize upd H3 p5 _=H5 at h1'' h3''
    conv=>whnf
    refine bR (fun c=>?_) (fun c=>?_)
    ·have c2:5<=run (w++[b]):=sr.mp (dec_true c)
     have ep:pst w b=w++[b]++[1-b]:=by unfold pst;rw[if_pos (by omega)]
     have la:atI ((w++[b]).map V.int) ((((w++[b]).map V.int).length:Nat)-(1:Int))=some (.int b):=by
      rw[Ya,wl,show ((w.length+1:Nat):Int)-1=((w.length:Nat):Int) by omega]
      exact cO (by rw[Yk,YF (Yd _),XM];rfl)
     refine⟨⟨_,SqL.of h1''⟩,_,.inl (SqL.of h1''),_,_,SqL.of h1'',la,_,h1'',bD (by rw[Ya];omega),rfl,?_,h3''.put hp⟩
     rw[aC,ep,Yj (l₁:=w++[b])];rfl
    ·have c2:¬ 5<=run (w++[b]):=fun z=>dec_false c (sr.mpr z)
     have ep:pst w b=w++[b]:=by unfold pst;rw[if_neg (by omega)]
     rw[ep]
     exact⟨rfl,h1'',h3''⟩
   ·have c1:¬ (4:Int)<(((w++[b]).length:Nat):Int):=dec_false c
    have ep:pst w b=w++[b]:=by unfold pst;rw[if_neg (by omega)]
    rw[ep]
    exact⟨rfl,h1',h3'⟩
  rintro σ' H4 ⟨rfl,k1,k2⟩
  exact⟨⟨_,rfl⟩,by rw[ept];exact k1,k2⟩
 rintro σ H4 ⟨⟨y,rfl⟩,h1,h3⟩
 rw[Yl (by omega)]at h1
 exact q p H4 hp h3 h1
variable (Za9:FB P w K mg base (CX0) 2 "_law_frames" ZfH Zh3 ["_law_script","_law_posts"] (b0G K))
include Zx Zc in
theorem ZkW (F0:GFm K mg "_law_frames" Zin ZfH Zh3):type_of% Za9:=by
 refine fbK ["_law_script","_law_posts","_law_frames_here","_law_many","_law_long","_law_base","_law_k","_law_post","_law_name","_law_other","_law_size"] F0 fun H Q nd hr h=>?_
 obtain⟨a,ss,m,rfl,hS,h63,m1,m5,Qq⟩:=h
 refine⟨_,(aD (aX (i:=2) nd rfl (Or.inl rfl) (cZ aB)) (aD (aX (i:=3) nd rfl (Or.inl rfl) (aU cH aG (aQ Zc.1 hr.mo rfl Zc.2.2.2 Zc.2.2.1 Zc.2.1 .nil aJ (aA (dv 0) (aA aG (aA aG aB)))))) (aD (iV (bF (aW dO (aQ Zc.1 hr.mo rfl Zc.2.2.2 Zc.2.2.1 Zc.2.1 .nil aJ (aA (dv 0) (aA aG (aA aG aB)))) aG (aR _)) (aF (aX (i:=3) nd rfl (Or.inl rfl) (aU cH (dv 3) aG))) aV)) (aD (aX (i:=4) nd rfl (Or.inl rfl) (fC dO (aQ Zc.1 hr.mo rfl Zc.2.2.2 Zc.2.2.1 Zc.2.1 .nil aJ (aA (dv 0) (aA aG (aA aG aB)))) aG (aR _))) (aD (aX (i:=5) nd rfl (Or.inl rfl) (aQ Zc.1 hr.mo rfl Zc.2.2.2 Zc.2.2.1 Zc.2.1 .nil aJ (aA (dv 0) (aA aG (aA aG aB))))) (aD (dM YU rfl (cJ rfl Zx (aA (dv 3) aB)) (cM (i:=6) nd rfl (Or.inr rfl)) (aD (aX (i:=7) nd rfl (Or.inl rfl) (aQ Zc.1 hr.mo rfl Zc.2.2.2 Zc.2.2.1 Zc.2.1 .nil aJ (aA (dv 0) (aA (aU cH aG (dv 6)) (aA (dv 1) aB))))) (aD (aX (i:=8) nd rfl (Or.inl rfl) (aQ Zc.1 hr.mo rfl Zc.2.2.2 Zc.2.2.1 Zc.2.1 .nil aJ (aA (dv 0) (aA (aU cH aG (dv 6)) (aA aG aB))))) (aD (iV (bF (aW dO (aQ Zc.1 hr.mo rfl Zc.2.2.2 Zc.2.2.1 Zc.2.1 .nil aJ (aA (dv 0) (aA aG (aA aG aB)))) aG (aR _)) (aF (aX (i:=8) nd rfl (Or.inl rfl) (aU b2T (dv 5) (aU b2U aG (aU pO (dv 8) aG))))) aV)) (aD (dM YU rfl (cY (dv 2)) (cM (i:=9) nd rfl (Or.inl rfl)) (aF (bF (aW dO (bK dX (dv 9) aG (fun _ _=>rfl)) (dv 8) (aR _)) (aF (aX (i:=7) nd rfl (Or.inl rfl) (bK dX (dv 9) aG (fun _ _=>rfl)))) aV))) (aD (aX (i:=10) nd rfl (Or.inl rfl) (aQ Zc.1 hr.mo rfl Zc.2.2.2 Zc.2.2.1 Zc.2.1 .nil aJ (aA (dv 0) (aA (aU cH aG (dv 6)) (aA aG aB))))) (aD (iV (bF (cR (dv 4)) (aF (aX (i:=10) nd rfl (Or.inl rfl) (aQ Zc.1 hr.mo rfl Zc.2.2.2 Zc.2.2.1 Zc.2.1 .nil aJ (aA (dv 0) (aA (aU cH aG (dv 6)) (aA aG aB)))))) aV)) (aF (bA (bY (dv 2) (aA (cD (aA (dv 7) (aA (dv 8) (aA (fK rfl (ix:=[0,6]) (cJ rfl Zx (aA (dv 10) aB)) (fun C fp s0 H0 at0=>dU) (fun C fp s0 H0 at0=>(aQ Zc.1 hr.mo rfl Zc.2.2.2 Zc.2.2.1 Zc.2.1 .nil aJ (aA (dv 1) (aA (aU cH (aU cH aG (aU iK aG (dv 2))) (dv 0)) (aA aG aB))))) rfl rfl (by rfl) (show ([".0","_law_i","_law_script","_law_k"]:List Str).Nodup by decide +kernel)) aB)))) aB))))))))))) (aF (aL (dv 2))))))))),?_⟩
 refine⟨aM rfl,fun l hl=>?_⟩
 generalize eU:upd H l _=H1
 have g1:=nS hl eU
 have el:=nE eU
 clear eU
 have hS1:=g1.seq hS
 refine⟨a,ss,3,3,rfl,hS1,h63,by decide,by decide,by decide,fun z z0 z1=>?_⟩
 obtain⟨z,rfl⟩:=YX z0
 refine⟨fun σ H'=>(∃M:Nat,σ= [some (.ref a),some (.int ((m:Nat):Int)),some (.ref l),some (.int ((M:Nat):Int)),none,none,none,none,none,none,none]/\1<=M/\M<=5)/\H'=H1,?_,?_⟩
 ·refine⟨a,ss,4,8,rfl,hS1,h63,by decide,by decide,by decide,fun w w0 w1=>bR (fun c=>?_) (fun c=>?_)⟩
  ·exact⟨⟨1+z+2,rfl,by omega,by omega⟩,rfl⟩
  ·exact⟨⟨1+z,rfl,by omega,by omega⟩,rfl⟩
 rintro σ H' ⟨⟨M,rfl,hM1,hM5⟩,rfl⟩
 refine⟨a,ss,5,8,rfl,hS1,h63,by decide,by decide,by decide,fun lo lo0 lo1=>?_⟩
 refine⟨a,ss,6,256,rfl,hS1,h63,by decide,by decide,by decide,fun b b0 b1=>?_⟩
 obtain⟨b,rfl⟩:=YX b0
 generalize decide (lo=1)=lg
 refine⟨⟨by omega,by omega⟩,?_⟩
 rw[YG]
 refine fW (lo:=0) (n:=M) (fun i σ H2=>(∃x3 x4 x5 x6 x7,σ= [some (.ref a),some (.int ((m:Nat):Int)),some (.ref l),some (.int ((M:Nat):Int)),some (.bl lg),some (.int ((b:Nat):Int)),x3,x4,x5,x6,x7])/\Same H H2/\(∀x,H2 x=none->H' x=none)/\∃(ts:List Addr)(fs:List (Nat×Nat×List Int)),H2 l=some (.lst (ts.map V.ref))/\ts.length=fs.length/\fs.length=i/\(∀(j:Nat)(t:Addr)(f:Nat×Nat×List Int),ts[j]? =some t->fs[j]? =some f->∃d,H' d=none/\H2 t=some (frT f d)/\H2 d=some (.lst (f.2.2.map V.int)))/\F92 m fs) ⟨⟨_,_,_,_,_,rfl⟩,g1,fun x z=>z, [], [],el,rfl,rfl,fun j t f h=>by simp at h,fun f hf=>(by cases hf),fun f hf=>(by cases hf)⟩ ?_ ?_
 ·rintro i σ H2 hi ⟨⟨x3,x4,x5,x6,x7,rfl⟩,g2,nn,ts,fs,e2,lt,lf,hts,hok⟩
  rw[Xw]
  have hS2:=g2.seq hS
  refine⟨a,ss,_,_,rfl,hS2,h63,(by show 0<=20+((i:Nat):Int);omega),(by show 20+((i:Nat):Int)<=100000;omega),by omega,fun p p0 p1=>?_⟩
  obtain⟨p,rfl⟩:=YX p0
  refine⟨a,ss,_,256,rfl,hS2,h63,(by show 0<=30+((i:Nat):Int);omega),(by show 30+((i:Nat):Int)<=100000;omega),by decide,fun n n0 n1=>?_⟩
  obtain⟨n,rfl⟩:=YX n0
  refine⟨fun σ H3=>(∃n:Nat,σ= [some (.ref a),some (.int ((m:Nat):Int)),some (.ref l),some (.int ((M:Nat):Int)),some (.bl lg),some (.int ((b:Nat):Int)),some (.int ((i:Nat):Int)),some (.int ((p:Nat):Int)),some (.int ((n:Nat):Int)),x6,x7]/\n<256)/\H3=H2,?_,?_⟩
  ·refine⟨a,ss,7,2,rfl,hS2,h63,by decide,by decide,by decide,fun w w0 w1=>bR (fun c=>?_) (fun c=>?_)⟩
   ·refine⟨(by show (0:Int)<8;decide),⟨by omega,by omega,by decide⟩,⟨b ^^^ 2 ^ (n % 8),?_,X3 (n:=8) (by omega) (Nat.pow_lt_pow_right (by omega) (by omega))⟩,rfl⟩
    have e1:(((n:Nat):Int) % 8).toNat=n % 8:=by omega
    have ex:Builtin.bitXor ((b:Nat):Int) (1*2 ^ (((n:Nat):Int) % 8).toNat)=((b ^^^ 2 ^ (n % 8):Nat):Int):=by
     rw[e1,Int.one_mul,<-bxor,Int.natCast_pow]
     rfl
    rw[<-ex]
    rfl
   ·exact⟨⟨n,rfl,by omega⟩,rfl⟩
  rintro σ H3 ⟨⟨n,rfl,hn⟩,rfl⟩
  refine⟨⟨_,SqL.of e2⟩,gC (xs:=ts.map V.ref) (fun j σ H2=>(∃(q:Nat)(y:Option V),σ= [some (.ref a),some (.int ((m:Nat):Int)),some (.ref l),some (.int ((M:Nat):Int)),some (.bl lg),some (.int ((b:Nat):Int)),some (.int ((i:Nat):Int)),some (.int ((q:Nat):Int)),some (.int ((n:Nat):Int)),y,x7]/\q<m/\((∀f∈fs.take j,f.2.1≠n)\/∃f∈fs,f.2.1=n/\q=f.1))/\H2=H3) ⟨⟨p,_,rfl,by omega,.inl fun f hf=>(by rw[Jb]at hf;cases hf)⟩,rfl⟩ (fun j σ H' _ z=>z.2▸SqL.of e2) ?_ ?_⟩
  ·rintro j x σ H2 hx ⟨⟨q,y,rfl,hq,hor⟩,rfl⟩
   rw[Yk]at hx
   obtain⟨t,ht,rfl⟩:=YK.mp hx
   have hj:j<fs.length:=by rw[<-lt];exact(Yg.mp ht).1
   obtain⟨f,ef⟩:∃f,fs[j]? =some f:=⟨_,Yc hj⟩
   obtain⟨d,_,et,_⟩:=hts j t f ht ef
   have fm:=Yx ef
   have tk:fs.take (j+1)=fs.take j++[f]:=by rw[Yh hj,Yp ((Yc hj).symm.trans ef)]
   refine⟨_,_,SqT.of et,rfl,bR (fun c=>?_) (fun c=>?_)⟩
   ·have c1:f.2.1=n:=by have z:((f.2.1:Nat):Int)=((n:Nat):Int):=dec_true c;omega
    exact⟨_,_,SqT.of et,rfl,⟨f.1,_,rfl,(hok.ok f fm).1,.inr ⟨f,fm,c1,rfl⟩⟩,rfl⟩
   ·have c1:¬ f.2.1=n:=fun w=>dec_false c (by rw[w])
    refine⟨⟨q,_,rfl,hq,hor.imp (fun w g hg=>?_) id⟩,rfl⟩
    rw[tk]at hg
    rcases Yy.mp hg with z | z
    ·exact w g z
    ·rw[Yi.mp z];exact c1
  rintro σ H2 ⟨⟨q,y,rfl,hq,hor⟩,rfl⟩
  rw[Ya,Yl (by omega)]at hor
  refine⟨a,ss,_,2,rfl,hS2,h63,(by show 0<=50+((i:Nat):Int);omega),(by show 50+((i:Nat):Int)<=100000;omega),by decide,fun u u0 u1=>?_⟩
  obtain⟨u,rfl⟩:=YX u0
  refine⟨fun σ H3=>(∃u:Nat,σ= [some (.ref a),some (.int ((m:Nat):Int)),some (.ref l),some (.int ((M:Nat):Int)),some (.bl lg),some (.int ((b:Nat):Int)),some (.int ((i:Nat):Int)),some (.int ((q:Nat):Int)),some (.int ((n:Nat):Int)),y,some (.int ((u:Nat):Int))]/\u<8)/\H3=H2,?_,?_⟩
  ·cases lg
   ·exact⟨⟨u,rfl,by omega⟩,rfl⟩
   ·refine⟨a,ss,_,8,rfl,hS2,h63,(by show 0<=60+((i:Nat):Int);omega),(by show 60+((i:Nat):Int)<=100000;omega),by decide,fun w w0 w1=>?_⟩
    obtain⟨w,rfl⟩:=YX w0
    exact⟨⟨w,rfl,by omega⟩,rfl⟩
  rintro σ H3 ⟨⟨u,rfl,hu⟩,rfl⟩
  refine⟨⟨_,SqL.of e2⟩,⟨by omega,by omega⟩,?_⟩
  rw[YG]
  refine fU (lo:=0) (n:=u) (fun j ys H2=>H2=H3/\∃ds:List Int,ys=ds.map V.int/\ds.length=j/\ds.all byt=true) ?_ ?_ ?_ ?_
  ·rintro j ys H' hj ⟨_,ds,rfl,hd,_⟩
   rw[Ya,hd]
   exact bD (by omega)
  ·exact⟨rfl, [],rfl,rfl,rfl⟩
  ·rintro j ys H' hj ⟨rfl,ds,rfl,hd,hb⟩
   conv=>whnf
   refine⟨⟨by decide,iH (by omega) (by omega)⟩,a,ss,_,256,rfl,hS2,h63,(by show 0<=70+8*((i:Nat):Int)+(0+((j:Nat):Int));omega),(by show 70+8*((i:Nat):Int)+(0+((j:Nat):Int))<=100000;omega),by decide,fun z z0 z1=>⟨rfl,ds++[z],by rw[Yj];rfl,by rw[Yb,hd];rfl,?_⟩⟩
   rw[List.all_append,hb]
   show (byt z && true)=true
   rw[gP.mpr ⟨z0,by omega⟩]
   rfl
  rintro ys H2 ⟨rfl,ds,rfl,hd,hb⟩ s2 hs2
  have g4:=aK hs2 (.lst (ds.map V.int))
  have es2:=aC (H:=H2) (a:=s2) (o:= .lst (ds.map V.int))
  have d1:=nn _ hs2
  have nn4:∀y,upd H2 s2 (.lst (ds.map V.int)) y=none->H' y=none:=fun y z=>nn y (g4.none z)
  generalize upd H2 s2 _=H4 at g4 es2 nn4
  refine⟨aM rfl,fun t ht=>?_⟩
  have g5:=aK ht (.tup [.int ((q:Nat):Int),.int ((n:Nat):Int),.ref s2])
  have et:=aC (H:=H4) (a:=t) (o:= .tup [.int ((q:Nat):Int),.int ((n:Nat):Int),.ref s2])
  have nn5:∀x,upd H4 t (.tup [.int ((q:Nat):Int),.int ((n:Nat):Int),.ref s2]) x=none->H' x=none:=fun x z=>nn4 x (g5.none z)
  generalize upd H4 t _=H5 at g5 et nn5
  have k25:=g4.trans g5
  have e5:=k25 _ _ e2
  have kl:∀x u,x≠l->H5 x=some u->upd H5 l (.lst (ts.map V.ref++[.ref t])) x=some u:=fun x u n e=>by rw[aH n];exact e
  have tl:∀{x xs},H5 x=some (.tup xs)->x≠l:=fun {x xs} e z=>by rw[z,e5]at e;cases e
  have dl:∀{x},H' x=none->x≠l:=fun {x} e z=>by rw[z,el]at e;cases e
  refine⟨_,e5,bD (by rw[Ya];omega),⟨_,_,_,_,_,rfl⟩,(g2.trans k25).put hl,fun x z=>?_,ts++[t],fs++[(q,n,ds)],by rw[aC,Yj];rfl,by rw[Yb,Yb,lt];rfl,by rw[Yb,lf];rfl,fun j t' f h1 h2=>?_,fun f hf=>?_,fun f hf g hg e=>?_⟩
  ·by_cases c:x=l
   ·rw[c,aC]at z;cases z
   ·rw[aH c]at z;exact nn5 x z
  ·by_cases c:j<fs.length
   ·rw[YL (by omega)]at h1 h2
    obtain⟨d,a1,a2,a3⟩:=hts j t' f h1 h2
    exact⟨d,a1,kl _ _ (tl (k25 _ _ a2)) (k25 _ _ a2),kl _ _ (dl a1) (k25 _ _ a3)⟩
   ·rw [YF (by omega)]at h1 h2
    rw[lt]at h1
    cases ej:j-fs.length with
    | zero=>
     rw[ej]at h1 h2
     cases h1
     cases h2
     exact⟨s2,d1,kl _ _ (tl et) et,kl _ _ (dl d1) (g5 _ _ es2)⟩
    |succ k=>rw[ej]at h1;cases h1
  ·rcases Yy.mp hf with z | z
   ·exact hok.ok f z
   ·rw[Yi.mp z]
    exact⟨hq,hn,by show ds.length<=7;omega,hb⟩
  ·have key:∀f∈fs,f.2.1=n->f.1=q:=fun f hf e=>by
    rcases hor with z | ⟨g,hg,e2,e3⟩
    ·exact absurd e (z f hf)
    ·rw[e3];exact hok.un f hf g hg (e.trans e2.symm)
   rcases Yy.mp hf with z1 | z1 <;> rcases Yy.mp hg with z2 | z2
   ·exact hok.un f z1 g z2 e
   ·rw[Yi.mp z2]at e ⊢
    exact key f z1 e
   ·rw[Yi.mp z1]at e ⊢
    exact(key g z2 e.symm).symm
   ·rw[Yi.mp z1,Yi.mp z2]
 rintro σ H2 ⟨⟨x3,x4,x5,x6,x7,rfl⟩,g2,nn,ts,fs,e2,lt,lf,hts,hok⟩
 exact Qq l ts fs H2 hl g2 ⟨e2,lt,fun i t f h1 h2=>let ⟨d,_,a2,a3⟩:=hts i t f h1 h2;⟨d,a2,a3⟩⟩ hok (by omega) (by omega)
variable (Zba:FB P w K mg base (CX0) 2 "_law_winner" ZfI Zh4 ["_law_rows"] (b0A K))
include Zr ZdJ in
theorem ZkX (F0:GFm K mg "_law_winner" Zio ZfI Zh4):type_of% Zba:=by
 refine fbK ["_law_rows","_law_least","_law_row"] F0 fun H Q nd hr h=>?_
 obtain⟨H0,m,rl,ev,ras,g,ts,rfl,hR,g0,m5,⟨i0,hi0,ne0⟩,hok,hun,q⟩:=h
 refine⟨_,(aD (aX (i:=1) nd rfl (Or.inl rfl) (aY (xU rfl) rfl ZdJ uN (aA (fK rfl (ix:=[]) (cY (dv 0)) (fun C fp s0 H0 at0=>(a0Q (aW tL (aY (a4E (K:=K)) rfl Zr bV (aA (dv 0) aB)) aG (aR _)))) (fun C fp s0 H0 at0=>(bK (tK (K:=K)) (bK (a4F (K:=K)) (dv 0) aG (fun _ _=>rfl)) aG (fun _ _=>rfl))) rfl rfl (by rfl) (show ([".0","_law_row"]:List Str).Nodup by decide +kernel)) aB))) (aD (dM YU rfl (cY (dv 0)) (cM (i:=2) nd rfl (Or.inl rfl)) (aF (bF (PW.pt (lN (aW tL (aY cU rfl Zr bV (aA (dv 2) aB)) aG (aR _)) (kO (aW dO (bK dX (bK dJ (dv 2) aG (fun _ _=>rfl)) aG (fun _ _=>rfl)) (dv 1) (aR _))))) (aF (aL (bK dJ (dv 2) aG (fun _ _=>rfl)))) aV))) (aF (aL jH)))),?_⟩
 have hcase:∀i,i<m->∃a,ras[i]? =some a/\H a=some (.lst ((ts i).map V.ref))/\(g i= []/\ts i= []\/∃f r t tr d,g i=f::r/\ts i=t::tr/\H t=some (frT (i,f) d)/\H0 t=some (frT (i,f) d)/\H0 d=some (.lst (f.2.map V.int))):=fun i hi=>by
  obtain⟨a,ha⟩:∃a,ras[i]? =some a:=⟨_,Yc (by rw[hR.ln];exact hi)⟩
  refine⟨a,ha,(hR.at_ i a ha).1,?_⟩
  cases e:g i with
  | nil=>
   left
   refine⟨rfl,X7.mp ?_⟩
   rw[hR.tl i hi,e];rfl
  | cons f r=>
   obtain⟨t,tr,d,h1,h2,h3⟩:=hR.hd hi e
   exact .inr ⟨f,r,t,tr,d,rfl,h1,g0 _ _ h2,h2,h3⟩
 refine⟨⟨_,SqL.of hR.er⟩,eE (xs:=ras.map V.ref) (fun j ys H'=>H'=H/\∃ns:List Int,ys=ns.map V.int/\ns.length<=j/\(∀z∈ns,∃i f r,i<m/\g i=f::r/\z=((f.1:Nat):Int))/\∀i f r,i<j->g i=f::r->((f.1:Nat):Int)∈ns) ?_ ?_ ?_ ?_ ?_⟩
 ·rintro j ys H' hj ⟨_,ns,rfl,hl,_⟩
  have:=hR.ln
  rw[Ya]at hj ⊢
  exact bD (by omega)
 ·exact⟨rfl, [],rfl,Yd _,fun z hz=>(by cases hz),fun i f r hi=>absurd hi (Y0 _)⟩
 ·rintro j ys H' hj ⟨rfl,_⟩
  exact SqL.of hR.er
 ·rintro j x ys H' hx ⟨rfl,ns,rfl,hl,h1,h2⟩
  rw[Yk]at hx
  obtain⟨a,ha,rfl⟩:=YK.mp hx
  have hj:j<m:=by rw[<-hR.ln];exact(Yg.mp ha).1
  obtain⟨a',ha',ea,hc⟩:=hcase j hj
  rw[ha]at ha'
  cases ha'
  refine⟨_,.inl (SqL.of ea),?_⟩
  rw[Ya]
  rcases hc with ⟨e1,e2⟩ | ⟨f,r,t,tr,d,e1,e2,e3,_⟩
  ·rw[e2]
   conv=>whnf
   refine⟨rfl,ns,rfl,X9 hl,h1,fun i f r hi e=>?_⟩
   by_cases c:i=j
   ·subst c;rw[e1]at e;cases e
   ·exact h2 i f r (by omega) e
  ·rw [e2]at ea ⊢
   refine bR (fun c=>?_) (fun c=>absurd ?_ (dec_false c))
   ·refine⟨_,_,SqL.of ea,(cO (xs:=(t::tr).map V.ref) (j:=0) rfl),_,_,SqT.of e3,rfl,rfl,ns++[((f.1:Nat):Int)],by rw[Yj];rfl,by rw[Yb];exact Jd hl,fun z hz=>?_,fun i f' r' hi e=>?_⟩
    ·rcases Yy.mp hz with w | w
     ·exact h1 z w
     ·exact⟨j,f,r,hj,e1,Yi.mp w⟩
    ·by_cases c:i=j
     ·subst c;rw[e1]at e;cases e;exact Yy.mpr (.inr (Yi.mpr rfl))
     ·exact Yy.mpr (.inl (h2 i f' r' (by omega) e))
   ·show (0:Int)<(((t::tr).length:Nat):Int)
    rw[YE];omega
 rintro ys H1 ⟨rfl,ns,rfl,hl,h1,h2⟩ nl hnl
 rw[Ya,hR.ln]at h2
 generalize eU:upd H1 nl _=H2
 have k1:=nS hnl eU
 have enl:=nE eU
 clear eU
 refine⟨ns,SqL.of enl,fun z=>?_,fun n0 hn0 le0=>?_⟩
 ·cases e:g i0 with
  |nil=>exact ne0 e
  |cons f r=>have:=h2 i0 f r hi0 e;rw[z]at this;cases this
 obtain⟨q0,fq,rq,hq0,eq0,en0⟩:=h1 n0 hn0
 have rd:b2P m q0 g fq rq:=⟨hq0,eq0,hok,fun j f r hj e=>by
  have hj':j<m\/m<=j:=XN j m
  rcases hj' with hj' | hj'
  ·have h3:=le0 _ (h2 j f r hj' e)
   rcases XN fq.1 f.1 with z | z
   ·exact z
   ·have:f.1=fq.1:=by omega
    exact absurd (hun j q0 f fq (by rw[e];exact Yq) (by rw[eq0];exact Yq) this) hj
  ·rw[hR.ge j hj']at e;cases e⟩
 refine⟨⟨_,SqL.of (k1 _ _ hR.er)⟩,gC (xs:=ras.map V.ref) (fun j σ H'=>(∃x,σ= [some (.ref rl),some (.int n0),x])/\H'=H2/\j<=q0) ⟨⟨_,rfl⟩,rfl,YY _⟩ (fun i σ H' _ z=>z.2.1▸SqL.of (k1 _ _ hR.er)) ?_ ?_⟩
 ·rintro j x σ H' hx ⟨⟨y,rfl⟩,rfl,hjq⟩
  rw[Yk]at hx
  obtain⟨a,ha,rfl⟩:=YK.mp hx
  have hj:j<m:=by rw[<-hR.ln];exact(Yg.mp ha).1
  obtain⟨a',ha',ea,hc⟩:=hcase j hj
  rw[ha]at ha'
  cases ha'
  have ea':=k1 _ _ ea
  refine⟨_,.inl (SqL.of ea'),?_⟩
  rw[Ya]
  rcases hc with ⟨e1,e2⟩ | ⟨f,r,t,tr,d,e1,e2,e3,e4,e5⟩
  ·have nq:j≠q0:=fun z=>by rw[z,eq0]at e1;cases e1
   rw[e2]
   conv=>whnf
   exact⟨⟨_,rfl⟩,rfl,by omega⟩
  ·rw [e2]at ea' ⊢
   refine bR (fun c=>?_) (fun c=>absurd ?_ (dec_false c))
   ·refine⟨_,_,SqL.of ea',(cO (xs:=(t::tr).map V.ref) (j:=0) rfl),_,_,SqT.of (k1 _ _ e3),rfl,bR (fun c2=>?_) (fun c2=>?_)⟩
    ·have jq:j=q0:=hun j q0 f fq (by rw[e1];exact Yq) (by rw[eq0];exact Yq) (by have z:((f.1:Nat):Int)=n0:=dec_true c2;omega)
     subst jq
     exact⟨_,_,SqL.of ea',(cO (xs:=(t::tr).map V.ref) (j:=0) rfl),(by rw[e1]at eq0;cases eq0;exact q j t d _ _ tr _ rd e2 e4 e5 k1)⟩
    ·have nq:j≠q0:=fun z=>by
      subst z
      rw[e1]at eq0
      cases eq0
      exact dec_false c2 en0.symm
     exact⟨⟨_,rfl⟩,rfl,by omega⟩
   ·show (0:Int)<(((t::tr).length:Nat):Int)
    rw[YE];omega
 rintro σ H' ⟨⟨x,rfl⟩,rfl,hq⟩
 rw[Ya,hR.ln]at hq
 omega
variable (Zb3:FB P w K mg base (CX0) 2 "_law_lost" Zg3 Zjz ["_law_wire_here","_law_other"] (a5S K))
include Zx Zr ZdJ in
theorem ZlW (F0:GFm K mg "_law_lost" ZjW Zg3 Zjz):type_of% Zb3:=by
 refine fbK ["_law_wire_here","_law_other","_law_k"] F0 fun H Q nd hr h=>?_
 obtain⟨wa,oa,w,o,k,rfl,ew,eo,p,k2,w9,o9,q⟩:=h
 refine⟨_,(aD (dM YU rfl (cJ rfl Zx (aA (aY (b3X rfl) rfl ZdJ uN (aA (aY cU rfl Zr bV (aA (dv 0) aB)) (aA (aY cU rfl Zr bV (aA (dv 1) aB)) aB))) aB)) (cM (i:=2) nd rfl (Or.inl rfl)) (aF (bF (aW oX (bK dJ (dv 0) (dv 2) (fun _ _=>rfl)) (bK dJ (dv 1) (dv 2) (fun _ _=>rfl)) (aR _)) (aF (aL (dv 2))) aV))) (aF (aL aG))),?_⟩
 have h1:=p.h1
 refine⟨_,.inl (SqL.of ew),_,.inl (SqL.of eo),?_⟩
 rw[Ya,Ya]
 have em:min ((w.length:Nat):Int) ((o.length:Nat):Int)=((min w.length o.length:Nat):Int):=by omega
 refine⟨⟨by omega,by omega⟩,?_⟩
 rw[em,YG]
 refine fW (lo:=0) (n:=min w.length o.length) (fun i σ H'=>(∃x,σ= [some (.ref wa),some (.ref oa),x])/\H'=H/\i<=k) ⟨⟨_,rfl⟩,rfl,YY _⟩ ?_ ?_
 ·rintro i σ H' hi ⟨⟨x,rfl⟩,rfl,hik⟩
  rw[Xw]
  refine⟨_,_,SqL.of ew,a1U (by omega),_,_,SqL.of eo,a1U (by omega),?_⟩
  conv=>whnf
  refine bR (fun c=>?_) (fun c=>?_)
  ·have ek:i=k:=by
    rcases XN i k with z | z
    ·have e:=p.lo z
     rw[e,Yn rfl]at c
     cases c
    ·omega
   rw[ek]
   exact q
  ·refine⟨⟨_,rfl⟩,rfl,?_⟩
   rcases XN i k with z | z
   ·omega
   ·have:i=k:=by omega
    subst this
    rw[p.zero,p.one]at c
    exact absurd rfl c
 rintro σ H' ⟨⟨x,rfl⟩,rfl,hk⟩
 omega
def rR {ts:List Addr}(h1:ts[i]? =some t)(h2:fs[i]? =some f)(j:Nat):nY (ts.take (i+1)) (fs.take (i+1)) j=nY (ts.take i) (fs.take i) j++(if f.1=j then [t] else []):=by
 obtain⟨l1,e1⟩:=Yg.mp h1
 obtain⟨l2,e2⟩:=Yg.mp h2
 unfold nY
 rw[Yh l1,Yh l2,e1,e2,List.zip_append (by rw[Yu,Yu];omega),List.filter_append,Yj]
 congr 1
 by_cases c:f.1=j
 ·simp[c]
 ·simp[c]
def a4Q (ts:List Addr)(fs:List (Nat×Nat×List Int))(j:Nat):(nY ts fs j).length<=fs.length:=by
 unfold nY
 rw[Ya]
 exact Y1 (List.length_filter_le _ _) (by rw[List.length_zip];exact Nat.min_le_right _ _)
def lE.kp (h:lE H0 H m rl ev ras g ts)(n:rl≠ev)(k:∀x u,x≠ev->H x=some u->H' x=some u):lE H0 H' m rl ev ras g ts:=⟨k _ _ n h.er,h.ln,h.ge,fun i a e=>let ⟨x,y,z⟩:=h.at_ i a e;⟨k _ _ z x,y,z⟩,h.tl,h.tp⟩
def lE.row (h:lE H0 H m rl ev ras g ts)(hi:i<m):∃a,ras[i]? =some a/\H a=some (.lst ((ts i).map V.ref)):=by
 have hl:i<ras.length:=by rw[h.ln];exact hi
 exact⟨_,Yc hl,(h.at_ i _ (Yc hl)).1⟩
def lE.pop {nl:Addr}(h:lE H0 H m rl ev ras g ts)(hq:q<m)(nr:nl≠rl)(ne:nl≠ev)(k:∀x u,x≠rl->H x=some u->H' x=some u)(el:H' rl=some (.lst ((ras.map V.ref).set q (.ref nl))))(en:H' nl=some (.lst ((ts q).tail.map V.ref))):lE H0 H' m rl ev (ras.set q nl) (gX q g) (fun i=>if i=q then (ts i).tail else ts i):=by
 refine⟨by rw[el,List.map_set],by rw[Xs,h.ln],fun i hi=>?_,fun i a e=>?_,fun i hi=>?_,fun i j t f hi h1 h2=>?_⟩
 ·unfold gX
  rw[if_neg (by omega)]
  exact h.ge i hi
 ·rw [Xg]at e
  by_cases c:q=i
  ·rw [if_pos c]at e
   split at e
   ·cases e
    rw[if_pos c.symm,<-c]
    exact⟨en,nr,ne⟩
   ·cases e
  ·rw[if_neg c]at e
   obtain⟨x,y,z⟩:=h.at_ i a e
   rw[if_neg (Ne.symm c)]
   exact⟨k _ _ y x,y,z⟩
 ·unfold gX
  by_cases c:i=q
  ·rw[if_pos c,if_pos c,List.length_tail,List.length_tail,h.tl i hi]
  ·rw[if_neg c,if_neg c]
   exact h.tl i hi
 ·unfold gX at h2
  by_cases c:i=q
  ·rw[if_pos c,List.getElem?_tail]at h1 h2
   exact h.tp i _ t f hi h1 h2
  ·rw[if_neg c]at h1 h2
   exact h.tp i j t f hi h1 h2
variable (Zcx:FB P w K mg base (CX0) 4 "_law_due" ZhI Zkj ["_law_frames_here","_law_posts","_law_votes"] (b0J K))
include Zx Zr ZhN ZaF Zba Zb3 in
theorem Zmf (F0:GFm K mg "_law_due" ZkC ZhI Zkj):type_of% Zcx:=by
 refine fbK ["_law_frames_here","_law_posts","_law_votes","_law_rows","_law_bits","_law_events","_law_k","_law_first","_law_wire_here","_law_start","_law_post","_law_other","_law_word"] F0 fun H Q nd hr h=>?_
 obtain⟨fl,ts,fs,m,v,rfl,hF,h92,n1,n5,m2,m5,v1,v5,Qq⟩:=h
 refine⟨_,(aD (vY (j:=3) nd rfl rfl rfl (ix:=[0]) (cJ rfl Zx (aA (dv 1) aB)) (fun C fp s0 H0 at0=>dU) (fun C fp s0 H0 at0=>(fK rfl (ix:=[0]) (a7M (K:=K) (dv 1)) (fun C fp s0 H0 at0=>(a0Q (aW dO (bK (tK (K:=K)) (dv 0) aG (fun _ _=>rfl)) (dv 1) (aR _)))) (fun C fp s0 H0 at0=>(dv 0)) rfl rfl (by rfl) (show ([".0","_law_one","_law_post"]:List Str).Nodup by decide +kernel))) rfl rfl (fun _ _=>rfl) (fun _=>rfl) (by rfl) (show ([".0","_law_post","_law_frames_here"]:List Str).Nodup by decide +kernel)) (aD (aX (i:=4) nd rfl (Or.inl rfl) (cZ aB)) (aD (aX (i:=5) nd rfl (Or.inl rfl) (cZ aB)) (aD (dM YU rfl (cJ rfl Zx (aA (aY cU rfl Zr bV (aA (dv 0) aB)) aB)) (cM (i:=6) nd rfl (Or.inl rfl)) (aD (aX (i:=7) nd rfl (Or.inl rfl) (aQ Zba.1 hr.mo rfl Zba.2.2.2 Zba.2.2.1 Zba.2.1 .nil aJ (aA (dv 3) aB))) (aD (aX (i:=8) nd rfl (Or.inl rfl) (aQ ZaF.1 hr.mo rfl ZaF.2.2.2 ZaF.2.2.1 ZaF.2.1 .nil aJ (aA (bK dX (dv 7) aG (fun _ _=>rfl)) (aA (bK dX (dv 7) aG (fun _ _=>rfl)) aB)))) (aD (aX (i:=9) nd rfl (Or.inl rfl) (aY cU rfl Zr bV (aA (dv 4) aB))) (aD (dM YU rfl (cJ rfl Zx (aA (dv 1) aB)) (cM (i:=10) nd rfl (Or.inl rfl)) (aD (iV (bF (aW tL (aY cU rfl Zr bV (aA (bK dJ (dv 3) (dv 10) (fun _ _=>rfl)) aB)) aG (aR _)) (aD (bA (bY (dv 5) (aA (cD (aA (dv 9) (aA (dv 10) (aA bI aB)))) aB))) (aF (bF (aW oX (dv 10) (bK dX (dv 7) aG (fun _ _=>rfl)) (aR _)) (aD (aX (i:=11) nd rfl (Or.inl rfl) (aQ ZaF.1 hr.mo rfl ZaF.2.2.2 ZaF.2.2.1 ZaF.2.1 .nil aJ (aA (bK dX (bK dJ (bK dJ (dv 3) (dv 10) (fun _ _=>rfl)) aG (fun _ _=>rfl)) aG (fun _ _=>rfl)) (aA (bK dX (bK dJ (bK dJ (dv 3) (dv 10) (fun _ _=>rfl)) aG (fun _ _=>rfl)) aG (fun _ _=>rfl)) aB)))) (aF (bA (bY (dv 5) (aA (cD (aA (aU cH (dv 9) (aQ Zb3.1 hr.mo rfl Zb3.2.2.2 Zb3.2.2.1 Zb3.2.1 .nil aJ (aA (dv 8) (aA (dv 11) aB)))) (aA (dv 10) (aA bI aB)))) aB))))) aV))) aV)) (aD (aX (i:=12) nd rfl (Or.inl rfl) (cB (cV (aW dO (dv 10) (bK dX (dv 7) aG (fun _ _=>rfl)) (aR _)) bI bI))) (aF (bA (bY (dv 5) (aA (cD (aA (aU cH (aU cH (aU cH (dv 9) (aY cU rfl Zr bV (aA (dv 8) aB))) aG) (dv 2)) (aA (dv 10) (aA (dv 12) aB)))) aB))))))) (aD (aX (i:=4) nd rfl (Or.inl rfl) (aU lV (aU lV (aU lV (dv 4) (dv 8)) (cZ (aA aG (aA aG aB)))) (aU a0D (cZ (aA aG aB)) (aU cH aG (dv 2))))) (aF (b5A (jU uW (bK dJ (dv 3) (bK dX (dv 7) aG (fun _ _=>rfl)) (fun _ _=>rfl)) (iR aG) a0S) (b5C (dv 3) (bK dX (dv 7) aG (fun _ _=>rfl)) b3W))))))))) (aF (aL (cD (aA (dv 4) (aA (aY a9L rfl ZhN a3X (aA (dv 5) aB)) aB))))))))),?_⟩
 refine⟨⟨by omega,by omega⟩,?_⟩
 rw[YG]
 refine fU (lo:=0) (n:=m) (fun j ys H'=>∃ras:List Addr,ys=ras.map V.ref/\ras.length=j/\Same H H'/\∀(i:Nat)(a:Addr),ras[i]? =some a->H a=none/\H' a=some (.lst ((nY ts fs i).map V.ref))) ?_ ?_ ?_ ?_
 ·rintro j ys H' hj ⟨ras,rfl,hl,_⟩
  rw[Ya]
  exact bD (by omega)
 ·exact⟨[],rfl,rfl,fun _ _ e=>e,fun i a e=>by simp at e⟩
 ·rintro j ys H' hj ⟨ras,rfl,hl,g1,hr1⟩
  rw[Xw]
  conv=>whnf
  refine⟨⟨_,SqL.of (g1 _ _ hF.at_)⟩,eE (xs:=ts.map V.ref) (fun i ys H2=>H2=H'/\ys=(nY (ts.take i) (fs.take i) j).map V.ref) ?_ ?_ ?_ ?_ ?_⟩
  ·rintro i ys H2 hi ⟨_,rfl⟩
   rw[Ya]
   have:=a4Q (ts.take i) (fs.take i) j
   rw[Yu]at this
   exact bD (by omega)
  ·exact⟨rfl,rfl⟩
  ·rintro i ys H2 hi ⟨rfl,_⟩
   exact SqL.of (g1 _ _ hF.at_)
  ·rintro i x ys H2 hx ⟨rfl,rfl⟩
   rw[Yk]at hx
   obtain⟨t,ht,rfl⟩:=YK.mp hx
   have hi:i<fs.length:=by rw[<-hF.ln];exact(Yg.mp ht).1
   obtain⟨f,ef⟩:∃f,fs[i]? =some f:=⟨_,Yc hi⟩
   obtain⟨d,et,_⟩:=hF.tp i t f ht ef
   refine⟨_,_,SqT.of (g1 _ _ et),rfl,bR (fun c=>?_) (fun c=>?_)⟩
   ·have c1:f.1=j:=by have z:((f.1:Nat):Int)=((j:Nat):Int):=dec_true c;omega
    exact⟨rfl,by rw[rR ht ef,if_pos c1,Yj];rfl⟩
   ·have c1:¬ f.1=j:=fun z=>dec_false c (by rw[z])
    exact⟨rfl,by rw[rR ht ef,if_neg c1,YQ]⟩
  rintro ys H2 ⟨rfl,rfl⟩ p hp
  have g2:=aK hp (.lst ((nY ts fs j).map V.ref))
  have ep:=aC (H:=H2) (a:=p) (o:= .lst ((nY ts fs j).map V.ref))
  rw[Ya,Yl (Yd _),Yl (by rw[hF.ln];exact Yd _)]
  generalize upd H2 p _=H3 at g2 ep
  refine⟨ras++[p],by rw[Yj];rfl,by rw[Yb,hl];rfl,g1.trans g2,fun i a e=>?_⟩
  by_cases c:i<ras.length
  ·rw[YL c]at e
   exact⟨(hr1 i a e).1,g2 _ _ (hr1 i a e).2⟩
  ·rw [YF (by omega)]at e
   cases ej:i-ras.length with
   | zero=>
    rw[ej]at e
    cases e
    rw[show i=j by omega]
    exact⟨g1.none hp,ep⟩
   |succ k=>rw[ej]at e;cases e
 rintro ys H1 ⟨ras0,rfl,hl0,g1,hr1⟩ rl hrl
 have hRl:=g1.none hrl
 generalize eU:upd H1 rl _=H2
 have g2:=nS hrl eU
 have erl:=nE eU
 have k2:∀(i:Nat)(a:Addr),ras0[i]? =some a->a≠rl:=fun i a e z=>by have:=(hr1 i a e).2;rw[z,hrl]at this;cases this
 clear eU
 refine⟨aM rfl,fun bl0 hbl0=>?_⟩
 generalize eU:upd H2 bl0 _=H3
 have g3:=nS hbl0 eU
 have ebl0:=nE eU
 have nbl0:bl0≠rl:=fun z=>by rw[z,erl]at hbl0;cases hbl0
 clear eU
 refine⟨aM rfl,fun el hel=>?_⟩
 generalize eU:upd H3 el _=H4
 have g4:=nS hel eU
 have eel:=nE eU
 have nel:rl≠el:=fun z=>by rw[<-z,g3 _ _ erl]at hel;cases hel
 have nbe0:bl0≠el:=fun z=>by rw[<-z,ebl0]at hel;cases hel
 have g13:=(g1.trans g2).trans g3
 have hEl:=g13.none hel
 clear eU
 have g14:=g13.trans g4
 have hR0:lE H H4 m rl el ras0 (gR fs) (nY ts fs):=⟨g4 _ _ (g3 _ _ erl),hl0,fun i hi=>List.eq_nil_iff_forall_not_mem.mpr fun f hf=>by have:=(h92.ok _ (nD.mp hf)).1;omega,fun i a e=>⟨g4 _ _ (g3 _ _ (g2 _ _ (hr1 i a e).2)),k2 i a e,fun z=>by have:=g3 _ _ (g2 _ _ (hr1 i a e).2);rw[z,hel]at this;cases this⟩,fun i _=>(a0K hF i).1,fun i j t f _ h1 h2=>(a0K hF i).2 j t f h1 h2⟩
 refine⟨_,.inl (SqL.of (g14 _ _ hF.at_)),⟨by rw[Ya,hF.ln];omega,by rw[Ya,hF.ln];omega⟩,?_⟩
 rw[Ya,hF.ln,YG]
 refine fW (lo:=0) (n:=fs.length) (fun k σ H'=>∃(bl:Addr)(bits:List Int)(zs:List V)(es:List (Nat×Nat×Str))(ras:List Addr)(g u:Nat->List Fr)(tx:Nat->List Addr),(∃x6 x7 x8 x9 x10 x11 x12,σ= [some (.ref fl),some (.int ((m:Nat):Int)),some (.int ((v:Nat):Int)),some (.ref rl),some (.ref bl),some (.ref el),x6,x7,x8,x9,x10,x11,x12])/\Same H H'/\lE H H' m rl el ras g tx/\H' el=some (.lst zs)/\dR H' zs es/\H' bl=some (.lst (bits.map V.int))/\bl≠el/\bl≠rl/\H bl=none/\uU m v fs.length (gR fs) k g u bits es) ⟨bl0, [], [], [],ras0,_,_,_,⟨_,_,_,_,_,_,_,rfl⟩,g14,hR0,eel,.nil,g4 _ _ ebl0,nbe0,nbl0,(g1.trans g2).none hbl0,h92.ch⟩ ?_ ?_
 ·rintro k σ H5 hk ⟨bl,bits,zs,es,ras,g,u,tx,⟨x6,x7,x8,x9,x10,x11,x12,rfl⟩,g5,hR,eel5,hev,ebl,nbe,nbr,hbl,hC⟩
  rw[Xw]
  have hpos:=a0H (g:=g) m (by have:=hC.tt;omega)
  refine⟨H,m,rl,el,ras,g,tx,rfl,hR,g5,m5,hpos,hC.ok,hC.un,fun q t d fq rq tr H6 rd etx e1 e2 g6=>?_⟩
  have fqo:FrN fq:=rd.ok q fq (by rw[rd.eq];exact Yq)
  have et6:=(g5.trans g6) _ _ e1
  refine⟨_,_,SqT.of et6,rfl,_,_,SqT.of et6,rfl,d,fq.1,fq.2,rfl,SqL.of ((g5.trans g6) _ _ e2),fqo.1,fqo.2.1,fqo.2.2,fun wa H7 hwa g7 ewa=>?_⟩
  obtain⟨kk,hkk,hkl,hN⟩:=hC.next n5 m2 m5 v1 v5 rd
  have ewa':H7 wa=some (.lst ((wr fq.1 fq.2).map V.int)):=ewa
  have w103:=xX fqo
  generalize hw:wr fq.1 fq.2=W0 at ewa' hkk hkl w103
  have hb6:=hC.bl
  have g57:=g6.trans g7
  have et7:=g7 _ _ et6
  have hR7:=hR.same g57
  have ebl7:=g57 _ _ ebl
  have eel7:=g57 _ _ eel5
  have hL0:rA H7 H7 el zs es:=⟨eel7,hev.imp fun x xs e=>g57 _ _ e,fun x u _ e=>e⟩
  have ntl:t≠el:=fun z=>by rw[z,eel7]at et7;cases et7
  have nwl:wa≠el:=fun z=>by rw[z]at hwa;have:=g6 _ _ eel5;rw[hwa]at this;cases this
  refine⟨_,.inl (SqL.of ebl7),⟨by omega,by omega⟩,?_⟩
  rw[Ya,YG]
  refine fW (lo:=0) (n:=m) (fun j σ H'=>(∃x10 x11 x12,σ= [some (.ref fl),some (.int ((m:Nat):Int)),some (.int ((v:Nat):Int)),some (.ref rl),some (.ref bl),some (.ref el),some (.int ((k:Nat):Int)),some (.ref t),some (.ref wa),some (.int ((bits.length:Nat):Int)),x10,x11,x12])/\∃zs',rA H7 H' el zs' (es++duR bits.length q (W0.length+(8+v)) g kk j)) ⟨⟨_,_,_,rfl⟩,zs,by rw[show duR bits.length q (W0.length+(8+v)) g kk 0= [] from rfl,YQ];exact hL0⟩ ?_ ?_
  ·rintro j σ H8 hj ⟨⟨x10,x11,x12,rfl⟩,zs',hL⟩
   rw[Xw]
   have hlen:(es++duR bits.length q (W0.length+(8+v)) g kk j).length<=200:=by
    rw[Yb]
    have h1:=hC.el
    have h2:=(uH (s:=bits.length) (q:=q) (e:=W0.length+(8+v)) (g:=g) (kk:=kk) j).1
    have h3:fs.length*(fs.length+1)<=5*6:=Nat.mul_le_mul n5 (by omega)
    generalize 4*(fs.length-k)+(fs.length-k)*(fs.length-k+1)=z at h1
    omega
   rw[show duR bits.length q (W0.length+(8+v)) g kk (j+1)=duR bits.length q (W0.length+(8+v)) g kk j++duP bits.length q (W0.length+(8+v)) g kk j from rfl,<-YB]
   generalize es++duR bits.length q (W0.length+(8+v)) g kk j=es' at hL hlen
   have hzl:=hL.ev.len
   have hR8:=hR7.kp nel hL.kp
   obtain⟨a,ha,ea⟩:=hR8.row hj
   have era:=SqL.of (K:=K) hR8.er
   have aat:atI (ras.map V.ref) ((j:Nat):Int)=some (.ref a):=cO (by rw[Yk,ha];rfl)
   have et8:=hL.kp _ _ ntl et7
   refine⟨fun σ H'=>(∃x11,σ= [some (.ref fl),some (.int ((m:Nat):Int)),some (.int ((v:Nat):Int)),some (.ref rl),some (.ref bl),some (.ref el),some (.int ((k:Nat):Int)),some (.ref t),some (.ref wa),some (.int ((bits.length:Nat):Int)),some (.int ((j:Nat):Int)),x11,x12])/\∃zs',rA H7 H' el zs' (es'++(if g j= [] then [] else (bits.length,j,("begins":Str))::(if j=q then [] else [(bits.length+kk j,j,("loses":Str))]))),?_,?_⟩
   ·refine ⟨_,_,era,aat,_,.inl (SqL.of ea),?_⟩
    rw[Ya]
    cases eg:g j with
    | nil=>
     have tn:tx j= []:=X7.mp (by rw[hR8.tl j hj,eg];rfl)
     rw[tn]
     conv=>whnf
     refine⟨⟨_,rfl⟩,zs',?_⟩
     rw[if_pos rfl,YQ]
     exact hL
    | cons f r=>
     obtain⟨t1,tr1,d1,ex1,f1,f2⟩:=hR8.hd hj eg
     have fo:FrN f:=rd.ok j f (by rw[eg];exact Yq)
     have fo3:=xX fo
     rw[ex1]at ea ⊢
     refine bR (fun c=>?_) (fun c=>absurd ?_ (dec_false c))
     ·refine⟨⟨_,SqL.of hL.at_⟩,aM rfl,fun p1 hp1=>⟨_,aK hp1 _ _ _ hL.at_,bD (by omega),?_⟩⟩
      have hL1:rA H7 (upd (upd H8 p1 (.tup [.int ((bits.length:Nat):Int),.int ((j:Nat):Int),.str (Str.ofString "begins")])) el (.lst (zs'++[.ref p1]))) el (zs'++[.ref p1]) (es'++[(bits.length,j,("begins":Str))]):=hL.add hp1 (bits.length,j,("begins":Str))
      generalize upd (upd H8 p1 _) el _=H9 at hL1 ⊢
      have hR9:=hR7.kp nel hL1.kp
      have ea9:=(hR9.at_ j a ha).1
      rw[ex1]at ea9
      have s9:Same H H9:=fun x u e=>hL1.kp _ _ (fun z=>by rw[z,hEl]at e;cases e) ((g5.trans g57) _ _ e)
      have et9:=hL1.kp _ _ ntl et7
      refine⟨_,_,SqT.of et9,rfl,bR (fun c=>?_) (fun c=>?_)⟩
      ·have jq:¬ j=q:=fun z=>by have c2:(!decide (((j:Nat):Int)=((q:Nat):Int)))=true:=c;rw[z,Yn rfl]at c2;cases c2
       refine⟨_,_,SqL.of hR9.er,aat,_,_,SqL.of ea9,(cO (xs:=(t1::tr1).map V.ref) (j:=0) rfl),_,_,SqT.of (s9 _ _ f1),rfl,_,_,SqL.of hR9.er,aat,_,_,SqL.of ea9,(cO (xs:=(t1::tr1).map V.ref) (j:=0) rfl),_,_,SqT.of (s9 _ _ f1),rfl,d1,f.1,f.2,rfl,SqL.of (s9 _ _ f2),fo.1,fo.2.1,fo.2.2,fun oa H10 hoa g10 eoa=>?_⟩
       have hL2:=hL1.same g10
       have hz2:=hL2.ev.len
       rw[Yb,Yb]at hz2
       refine⟨⟨_,SqL.of hL2.at_⟩,wa,oa,W0,wr f.1 f.2,kk j,rfl,hL2.kp _ _ nwl ewa',eoa,hkk j f r jq eg,hkl j,by omega,by omega,?_⟩
       refine⟨aM rfl,fun p2 hp2=>⟨_,aK hp2 _ _ _ hL2.at_,bD (by rw[Yb,hzl];show es'.length+1<=1000;omega),⟨_,rfl⟩,zs'++[.ref p1]++[.ref p2],?_⟩⟩
       rw[if_neg (List.cons_ne_nil _ _),if_neg jq,show es'++[(bits.length,j,("begins":Str)),(bits.length+kk j,j,("loses":Str))]=(es'++[(bits.length,j,("begins":Str))])++[(bits.length+kk j,j,("loses":Str))] from by rw[YB];rfl]
       exact hL2.add hp2 (bits.length+kk j,j,("loses":Str))
      ·have jq:j=q:=YM fun z=>c (show (!decide (((j:Nat):Int)=((q:Nat):Int)))=true by rw[Yr (by omega)];rfl)
       refine⟨⟨_,rfl⟩,zs'++[.ref p1],?_⟩
       rw[if_neg (List.cons_ne_nil _ _),if_pos jq]
       exact hL1
     ·show (0:Int)<(((t1::tr1).length:Nat):Int)
      rw[YE];omega
   rintro σ H9 ⟨⟨y11,rfl⟩,zs9,hL9⟩
   have et9:=hL9.kp _ _ ntl et7
   have ewa9:=hL9.kp _ _ nwl ewa'
   have hz9:=hL9.ev.len
   have hz9':zs9.length<=300:=by
    have :(if g j= [] then [] else (bits.length,j,("begins":Str))::(if j=q then [] else [(bits.length+kk j,j,("loses":Str))])).length<=2:=by
     split
     ·exact YY _
     ·split
      ·exact Xx _
      ·exact Yd _
    rw[Yb]at hz9
    omega
   have eN:((bits.length:Nat):Int)+((W0.length:Nat):Int)+8+((v:Nat):Int)=((bits.length+(W0.length+(8+v)):Nat):Int):=by omega
   have last:∀(p:Addr)(wd:Str),H9 p=none->wd=(if j=q then ("done":Str) else ("takes":Str))->rA H7 (upd (upd H9 p (.tup [.int (((bits.length:Nat):Int)+((W0.length:Nat):Int)+8+((v:Nat):Int)),.int ((j:Nat):Int),.str wd])) el (.lst (zs9++[.ref p]))) el (zs9++[.ref p]) (es'++duP bits.length q (W0.length+(8+v)) g kk j):=fun p wd hp e=>by
    unfold duP
    rw[eN,<-YB,<-e]
    exact hL9.add hp (bits.length+(W0.length+(8+v)),j,wd)
   refine⟨fun x H'=>x= .str (if j=q then ("done":Str) else ("takes":Str))/\H'=H9,⟨_,_,SqT.of et9,rfl,bR (fun c=>?_) (fun c=>?_)⟩,?_⟩
   ·have jq:j=q:=by have z:((j:Nat):Int)=((q:Nat):Int):=dec_true c;omega
    exact⟨by rw[if_pos jq],rfl⟩
   ·have jq:¬ j=q:=fun z=>dec_false c (by rw[z])
    exact⟨by rw[if_neg jq],rfl⟩
   rintro x H' ⟨rfl,rfl⟩
   refine⟨⟨_,SqL.of hL9.at_⟩,_,.inl (SqL.of ewa9),?_⟩
   rw[Ya]
   exact⟨aM rfl,fun p hp=>⟨_,aK hp _ _ _ hL9.at_,bD (by omega),⟨_,_,_,rfl⟩,_,last p _ hp rfl⟩⟩
  rintro σ H8 ⟨⟨x10,x11,x12,rfl⟩,zs8,hL8⟩
  have ebl8:=hL8.kp _ _ nbe ebl7
  have ewa8:=hL8.kp _ _ nwl ewa'
  have s8:Same H H8:=fun x u e=>hL8.kp _ _ (fun z=>by rw[z,hEl]at e;cases e) ((g5.trans g57) _ _ e)
  have hR8:=hR7.kp nel hL8.kp
  refine⟨_,_,ebl8,ewa8,YV (bD (by rw[Ya,Ya];omega)),fun c1 hc1=>?_⟩
  generalize eU:upd H8 c1 _=Ha
  have ka:=nS hc1 eU
  have ea:=nE eU
  clear eU
  refine⟨aM rfl,fun l2 hl2=>?_⟩
  generalize eU:upd Ha l2 _=Hb
  have kb:=nS hl2 eU
  have eb:=nE eU
  clear eU
  refine⟨_,_,kb _ _ ea,eb,YV (bD (by rw[Yb,Ya,Ya];show bits.length+W0.length+2<=1000;omega)),fun c3 hc3=>?_⟩
  generalize eU:upd Hb c3 _=Hc
  have kc:=nS hc3 eU
  have ec:=nE eU
  clear eU
  refine⟨aM rfl,fun l4 hl4=>?_⟩
  generalize eU:upd Hc l4 _=Hd'
  have kd:=nS hl4 eU
  have ed:=nE eU
  clear eU
  have e10:((10:Int)+((v:Nat):Int)).toNat=10+v:=by omega
  refine⟨_,ed,⟨by omega,by omega⟩,by rw[e10];exact YV (bD (by show 1*(10+v)<=1000;omega)),fun l5 hl5=>?_⟩
  rw[e10,a0O]
  generalize eU:upd Hd' l5 _=He
  have ke:=nS hl5 eU
  have ee:=nE eU
  clear eU
  refine⟨_,_,ke _ _ (kd _ _ ec),ee,YV (bD (by rw[Yb,Yb,Ya,Ya,Ya,Yz];show bits.length+W0.length+2+(10+v)<=1000;omega)),fun c6 hc6=>?_⟩
  have eB:bits.map V.int++W0.map V.int++[.int 1,.int 0]++(List.replicate (10+v) (1:Int)).map V.int=(bits++rB fq v).map V.int:=by
   unfold rB
   rw[hw,Yj,Yj,Yj,YB,YB]
   rfl
  rw[eB]
  generalize eU:upd He c6 _=Hf
  have kf:=nS hc6 eU
  have ef:=nE eU
  have k8e:Same H8 He:=(((ka.trans kb).trans kc).trans kd).trans ke
  have hc6e:H8 c6=none:=k8e.none hc6
  clear eU
  have k8f:=k8e.trans kf
  have etf:=k8f _ _ (hL8.kp _ _ ntl et7)
  have hRf:=hR8.same k8f
  obtain⟨aq,haq,eaq⟩:=hRf.row rd.hq
  rw[etx]at eaq
  have aqt:atI (ras.map V.ref) ((q:Nat):Int)=some (.ref aq):=cO (by rw[Yk,haq];rfl)
  refine⟨_,_,SqT.of etf,rfl,_,_,SqL.of hRf.er,aqt,_,SqL.of eaq,fun nl hnl=>?_⟩
  rw[show jM ((t::tr).map V.ref) (some 1) none=tr.map V.ref from a3U (a:=1) (xs:=(t::tr).map V.ref) (by rw[Ya];exact Nat.le_add_left 1 _)]
  generalize eU:upd Hf nl _=Hg
  have kg:=nS hnl eU
  have eg:=nE eU
  have nnr:nl≠rl:=fun z=>by rw[z,hRf.er]at hnl;cases hnl
  have nne:nl≠el:=fun z=>by rw[z,k8f _ _ hL8.at_]at hnl;cases hnl
  clear eU
  have k8g:=k8f.trans kg
  have n6r:c6≠rl:=fun z=>by rw[z,hR8.er]at hc6e;cases hc6e
  have n6e:c6≠el:=fun z=>by rw[z,hL8.at_]at hc6e;cases hc6e
  have erg:=kg _ _ hRf.er
  have pp:=(hRf.same kg).pop (nl:=nl) (H':=upd Hg rl (.lst ((ras.map V.ref).set q (.ref nl)))) rd.hq nnr nne (fun x u n e=>by rw[aH n];exact e) aC (by rw[aH nnr,etx];exact eg)
  have hLg:=hL8.same k8g
  rw[hw]at hN
  refine⟨_,_,SqT.of (kg _ _ etf),rfl,_,q,erg,b1Y (by rw[Ya,hR.ln];exact rd.hq),c6,bits++rB fq v,zs8,_,_,_,_,_,⟨_,_,_,_,_,_,_,rfl⟩,(s8.trans k8g).put hRl,pp,by rw[aH nel.symm];exact hLg.at_,hLg.ev.imp fun x xs e=>?_,by rw[aH n6r];exact kg _ _ ef,n6e,n6r,s8.none hc6e,hN⟩
  rw[aH fun z=>by rw[z,erg]at e;cases e]
  exact e
 rintro σ H5 ⟨bl,bits,zs,es,ras,g,u,tx,⟨x6,x7,x8,x9,x10,x11,x12,rfl⟩,g5,hR,eel5,hev,ebl,nbe,nbr,hbl,hC⟩
 have hu:=hC.un' m5
 have e2:=hC.e2
 have el:=hC.el
 have h3:fs.length*(fs.length+1)<=5*6:=Nat.mul_le_mul n5 (by omega)
 rw[XM]at el
 refine⟨zs,es,SqL.of eel5,hev.trs,hu,by omega,by omega,fun l ws ds hl hws hds hpw=>?_⟩
 generalize eU:upd H5 l _=H6
 have g6:=nS hl eU
 have ews:=nE eU
 clear eU
 refine⟨aM rfl,fun t ht=>?_⟩
 have g7:=aK ht (.tup [.ref bl,.ref l])
 exact Qq t bl l bits ws ds _ (g5.none (g6.none ht)) (g5.none hl) hbl ((g5.trans g6).trans g7) aC (g7 _ _ (g6 _ _ ebl)) (g7 _ _ ews) ((hev.of hws.1 hws.2).imp fun x xs e=>g7 _ _ (g6 _ _ e)) (hC.due n5 m5 hds hpw)
variable (Zb4:FB P w K mg base (CX0) 14 "_law_made" Zg4 ZjA ["_law_script","_law_rail","_law_turns"] (a5R K Zl CA 965))
include Zcw ZK ZZ Zx Zb ZaY Zcm Zee Zef Zdd Zbm Zc in
theorem ZlX (F0:GFm K mg "_law_made" ZjX Zg4 ZjA):type_of% Zb4:=by
 refine fbK ["_law_script","_law_rail","_law_turns","_law_way","_law_first","_law_bits","_law_k"] F0 fun H Q nd hr h=>?_
 obtain⟨a,ss,r,F,R,o,m,e,bs,wd,tr,rfl,hS,h63,J,N,Qq⟩:=h
 refine⟨_,(aD (aX (i:=3) nd rfl (Or.inl rfl) (aQ Zc.1 hr.mo rfl Zc.2.2.2 Zc.2.2.1 Zc.2.1 .nil aJ (aA (dv 0) (aA aG (aA aG aB))))) (aD (bF (aW dO (dv 3) aG (aR _)) (aF (aL (bQ Zb ZaY Zbm.1 hr.mo Zbm.2 .nil aJ (dv 1) (aA (dv 2) (aA jH aB))))) aV) (aD (bF (aW dO (dv 3) aG (aR _)) (aD (aX (i:=4) nd rfl (Or.inl rfl) (aQ Zc.1 hr.mo rfl Zc.2.2.2 Zc.2.2.1 Zc.2.1 .nil aJ (aA (dv 0) (aA aG (aA (aU cH (dv 2) aG) aB))))) (aF (aL (aU lV (bQ Zb ZaY Zbm.1 hr.mo Zbm.2 .nil aJ (dv 1) (aA (dv 4) (aA jH aB))) (bQ Zb ZaY Zbm.1 hr.mo Zbm.2 .nil aJ (dv 1) (aA (aU iZ (dv 2) (dv 4)) (aA jH aB))))))) aV) (aD (aX (i:=5) nd rfl (Or.inl rfl) (cZ aB)) (aD (dM YU rfl (cJ rfl Zx (aA (dv 2) aB)) (cM (i:=6) nd rfl (Or.inl rfl)) (aF (bA (bY (dv 5) (aA (bQ Zb Zcm Zdd.1 hr.mo Zdd.2 .nil aJ (dv 1) (aA (cZ aB) aB)) aB))))) (aF (aL (dv 5)))))))),?_⟩
 have e7:=N.e7
 refine⟨a,ss,8,3,rfl,hS,h63,by decide,by decide,by decide,fun z z0 z1=>?_⟩
 have bits0:∀{n},n<=e->((List.range n).map fun k=>jO (cI R k))=(List.range n).map bs:=fun {n} hn=>by
  have:=N.bits (a:=0) (b:=n) (by omega)
  rw[show cI R 0=R from rfl]at this
  rw[this]
  exact XC fun k _=>by rw[Nat.zero_add]
 obtain⟨w,hR⟩:=J.rl
 refine bR (fun c=>?_) (fun c=>?_)
 ·refine⟨⟨w.dx,_,hR.er,rfl⟩,r,R,o,w,e,rfl,hR,N.ne (YY _),by omega,fun k hk=>N.sz hk,fun l H1 o1 hR1 m1 hl=>?_⟩
  obtain⟨j2,m2⟩:=(J.mv hR1 m1).new (vs:=((List.range e).map fun k=>jO (cI R k)).map V.int) hl
  rw[bits0 (Yd _)]at j2 m2 ⊢
  exact Qq l _ _ j2 m2
 refine bR (fun c=>?_) (fun c=>?_)
 ·refine⟨a,ss,9,_,rfl,hS,h63,by decide,by decide,(by omega),fun f f0 f1=>?_⟩
  obtain⟨f,rfl⟩:=YX f0
  have hf:f<=e:=by omega
  refine⟨⟨w.dx,_,hR.er,rfl⟩,r,R,o,w,f,rfl,hR,N.ne (YY _),by omega,fun k hk=>N.sz (by omega),fun l H1 o1 hR1 m1 hl=>?_⟩
  obtain⟨j2,m2⟩:=(J.mv hR1 m1).new (vs:=((List.range f).map fun k=>jO (cI R k)).map V.int) hl
  rw[bits0 hf]at j2 m2 ⊢
  generalize upd H1 l _=H2 at j2 m2
  obtain⟨w2,hR2⟩:=j2.rl
  have ef:((e:Nat):Int)-((f:Nat):Int)=((e-f:Nat):Int):=by omega
  refine⟨⟨w2.dx,_,hR2.er,rfl⟩,r,cI R f,o1,w2,e-f,YT (fun z=>[V.ref r,V.int z,V.non]) ef,hR2,N.ne hf,by omega,fun k hk=>by rw[mD];exact N.sz (by omega),fun l3 H3 o3 hR3 m3 hl3=>?_⟩
  rw[mD,show f+(e-f)=e by omega]at hR3
  obtain⟨j4,m4⟩:=(j2.mv hR3 m3).new (vs:=((List.range (e-f)).map fun k=>jO (cI (cI R f) k)).map V.int) hl3
  have m24:=(m2.mv m3).same (aK hl3 (.lst (((List.range (e-f)).map fun k=>jO (cI (cI R f) k)).map V.int)))
  rw[N.bits (a:=f) (b:=e-f) (by omega)]at j4 m4 m24 ⊢
  generalize upd H3 l3 _=H4 at j4 m4 m24
  refine⟨_,_,m24.at_,m4.at_,YV (bD (by rw[Ya,Ya,Ya,Ya,YC,YC];omega)),fun l5 hl5=>?_⟩
  obtain⟨j6,m6⟩:=j4.new (vs:=((List.range f).map bs).map V.int++((List.range (e-f)).map fun k=>bs (f+k)).map V.int) hl5
  rw[<-Yj,b0V,show f+(e-f)=e by omega]at j6 m6 ⊢
  exact Qq l5 _ _ j6 m6
 refine⟨aM rfl,fun bl hbl=>?_⟩
 obtain⟨j2,m2⟩:=J.new (vs:=[]) hbl
 generalize upd H bl _=H2 at j2 m2
 refine⟨⟨by omega,by omega⟩,?_⟩
 rw[YG]
 refine fW (lo:=0) (n:=e) (fun k σ H'=>(∃x6,σ= [some (.ref a),some (.ref r),some (.int ((e:Nat):Int)),some (.int z),none,some (.ref bl),x6])/\∃o',J95 Zl CA 965 F H' r (cI R k) o'/\Mu 965 F H' o' bl (((List.range k).map bs).map V.int)) ⟨⟨_,rfl⟩,o,j2,m2⟩ ?_ ?_
 ·rintro k σ H3 hk ⟨⟨x6,rfl⟩,o3,j3,m3⟩
  obtain⟨w3,hR3⟩:=j3.rl
  refine⟨⟨_,SqL.of m3.at_⟩,⟨w3.dx,_,hR3.er,rfl⟩,aM rfl,fun l5 hl5=>?_⟩
  generalize eU:upd H3 l5 _=H5
  have g5:=nS hl5 eU
  have e5:=nE eU
  have j5:=j3.same g5
  have m5:=m3.same g5
  clear eU
  obtain⟨w5,hR5⟩:=j5.rl
  refine⟨r,cI R k,o3,w5,l5, [],fun _=>False,rfl,e5,YY _,hR5,N.ne (by omega),N.sz (by omega),j5.tb.own (fun x hx=>hx.elim id False.elim),fun x hx=>hx.elim,fun _ b H6 o6 hb hR6 hT6 m6=>?_,fun no=>absurd (fun x hx=>by cases hx) no⟩
  obtain⟨et,eb⟩:=b7V hb fun z hz=>hR5.says54 hz
  rw[et]at hR6
  have j6:=j5.turn hR6 (hT6.own fun x hx=> .inl hx) m6
  have mb6:=m5.turn j5 m6
  have ebs:b=bs k:=eb.trans ((N.run k (by omega)).2 hk)
  have j7:=j6.put (vs':=((List.range k).map bs).map V.int++[.int b]) mb6
  have mb7:=mb6.put (vs':=((List.range k).map bs).map V.int++[.int b])
  refine⟨_,mb6.at_,bD (by rw[Ya,Ya,YC];omega),⟨_,rfl⟩,o6,j7,?_⟩
  rw[Xu,Yj,Yj,show List.map V.int (List.map bs [k])= [V.int b] from by rw[ebs];rfl]
  exact mb7
 rintro σ H3 ⟨⟨x6,rfl⟩,o3,j3,m3⟩
 exact Qq bl _ _ j3 m3
variable (Zb5:FB P w K mg base (CX0) 10 "_law_said" Zg5 ZjB ["_law_rail","_law_posts","_law_bits"] (a5G Zl CA))
include ZK ZZ Zx Z0 Zr ZdJ ZeL Zb Zcl Zdc in
theorem ZlY (F0:GFm K mg "_law_said" ZjY Zg5 ZjB):type_of% Zb5:=by
 refine fbK ["_law_rail","_law_posts","_law_bits","_law_said_here","_law_row","_law_k"] F0 fun H Q nd hr h=>?_
 obtain⟨r,R,o,w,m,e,bs,wd,tr,bl,rfl,hR,hA,ebl,m2,m5,e7,hle,hat,q⟩:=h
 refine⟨_,(aD (jG (j:=3) nd rfl rfl rfl (ix:=[0]) (cJ rfl Zx (aA (dv 1) aB)) (fun C fp s0 H0 at0=>dU) (fun C fp s0 H0 at0=>(bQ Zb Zcl Zdc.1 hr.mo Zdc.2 .nil aJ (dv 1) (aA (dv 0) aB))) rfl rfl (by rfl) (show ([".0","_law_post","_law_rail"]:List Str).Nodup by decide +kernel)) (aD (dM YU rfl (cY (dv 3)) (cM (i:=4) nd rfl (Or.inl rfl)) (aF (bF (PW.pt (oM (gW (cR (aY xW rfl ZeL rH (aA (dv 4) (aA (b1I (v:= .ty "list") rfl Z0 gF rfl) aB))))) (pZ (aW oX (aY cU rfl Zr bV (aA (dv 4) aB)) (aY cU rfl Zr bV (aA (dv 2) aB)) (aR _))))) (aF (aL iQ)) aV))) (aD (dM YU rfl (cJ rfl Zx (aA (aY cU rfl Zr bV (aA (dv 2) aB)) aB)) (cM (i:=5) nd rfl (Or.inr rfl)) (aF (bF (aW oX (aY (xU rfl) rfl ZdJ uN (aA (fK rfl (ix:=[5]) (cY (dv 3)) (fun C fp s0 H0 at0=>dU) (fun C fp s0 H0 at0=>(bK (a4F (K:=K)) (dv 0) (dv 1) (fun _ _=>rfl))) rfl rfl (by rfl) (show ([".0","_law_row","_law_k"]:List Str).Nodup by decide +kernel)) aB)) (bK dJ (dv 2) (dv 5) (fun _ _=>rfl)) (aR _)) (aF (aL iQ)) aV))) (aF (aL iQ))))),?_⟩
 refine⟨⟨by omega,by omega⟩,?_⟩
 rw[YG]
 refine fU (lo:=0) (n:=m) (fun j ys H'=>∃sl:List Addr,ys=sl.map V.ref/\sl.length=j/\Same H H'/\∀(i:Nat)(a:Addr),sl[i]? =some a->H' a=some (.lst (((List.range e).map fun s=>aZ (tr i s)).map V.int))) ?_ ?_ ?_ ?_
 ·rintro j ys H' hj ⟨sl,rfl,hl,_⟩
  rw[Ya]
  exact bD (by omega)
 ·exact⟨[],rfl,rfl,Same.refl _,fun i a h=>by simp at h⟩
 ·rintro j ys H1 hj ⟨sl,rfl,hl,g1,hs⟩
  rw[Xw]
  conv=>whnf
  have hR1:=hR.same g1
  refine⟨⟨w.dx,_,hR1.er,rfl⟩,r,R,o,w,_,rfl,hR1,fun i xs ei ex l hl2=>?_,fun no=>absurd ⟨by omega,by rw[hA.ln];omega⟩ no⟩
  have ij:i=j:=by omega
  subst ij
  rw[hA.sa i hj]at ex
  cases ex
  generalize eU:upd H1 l _=H2
  have g2:=nS hl2 eU
  have e2:=nE eU
  clear eU
  refine⟨sl++[l],by rw[Yj];rfl,by rw[Yb,hl];rfl,g1.trans g2,fun k a h=>?_⟩
  by_cases c:k<sl.length
  ·rw[YL c]at h
   exact g2 _ _ (hs k a h)
  ·rw [YF (by omega)]at h
   cases ek:k-sl.length with
   | zero=>
    rw[ek]at h
    cases h
    rw[show k=i by omega]
    exact e2
   |succ k=>rw[ek]at h;cases h
 rintro ys H1 ⟨sl,rfl,hl,g1,hs⟩ rl hrl
 have g2:=aK hrl (.lst (sl.map V.ref))
 have e2:=aC (H:=H1) (a:=rl) (o:= .lst (sl.map V.ref))
 have hs2:∀(i:Nat)(a:Addr),sl[i]? =some a->upd H1 rl (.lst (sl.map V.ref)) a=some (.lst (((List.range e).map fun s=>aZ (tr i s)).map V.int)):=fun i a h=>g2 _ _ (hs i a h)
 generalize upd H1 rl _=H2 at g2 e2 hs2
 have g12:=g1.trans g2
 have ebl2:=g12 _ _ ebl
 refine⟨⟨_,SqL.of e2⟩,gC (xs:=sl.map V.ref) (fun j σ H'=>(∃x4 x5,σ= [some (.ref r),some (.int ((m:Nat):Int)),some (.ref bl),some (.ref rl),x4,x5])/\H'=H2) ⟨⟨_,_,rfl⟩,rfl⟩ (fun i σ H' _ z=>z.2▸SqL.of e2) ?_ ?_⟩
 ·rintro j x σ H' hx ⟨⟨x4,x5,rfl⟩,rfl⟩
  rw[Yk]at hx
  obtain⟨a,ha,rfl⟩:=YK.mp hx
  have ea:=hs2 j a ha
  refine⟨rfl,⟨_,ea⟩,?_⟩
  conv=>whnf
  refine⟨_,.inl (SqL.of ea),_,.inl (SqL.of ebl2),?_⟩
  rw[Ya,Ya,Ya,Ya,YC]
  exact bR (fun c=>absurd c (by simp)) (fun c=>⟨⟨_,_,rfl⟩,rfl⟩)
 rintro σ H' ⟨⟨x4,x5,rfl⟩,rfl⟩
 refine⟨_,.inl (SqL.of ebl2),⟨by rw[Ya,Ya,YC];omega,by rw[Ya,Ya,YC];omega⟩,?_⟩
 rw[Ya,Ya,YC,YG]
 refine fW (lo:=0) (n:=e) (fun k σ H3=>(∃x4 x5,σ= [some (.ref r),some (.int ((m:Nat):Int)),some (.ref bl),some (.ref rl),x4,x5])/\Same H' H3) ⟨⟨_,_,rfl⟩,Same.refl _⟩ ?_ ?_
 ·rintro k σ H3 hk ⟨⟨x4,x5,rfl⟩,g3⟩
  rw[Xw]
  have er:=g3 _ _ e2
  refine⟨⟨_,SqL.of er⟩,eE (xs:=sl.map V.ref) (fun j ys H4=>H4=H3/\ys=((List.range j).map fun i=>aZ (tr i k)).map V.int) ?_ ?_ ?_ ?_ ?_⟩
  ·rintro j ys H4 hj ⟨_,rfl⟩
   rw[Ya]at hj
   rw[Ya,Ya,YC]
   exact bD (by omega)
  ·exact⟨rfl,rfl⟩
  ·rintro j ys H4 hj ⟨rfl,_⟩
   exact SqL.of er
  ·rintro j x ys H4 hx ⟨rfl,rfl⟩
   rw[Yk]at hx
   obtain⟨a,ha,rfl⟩:=YK.mp hx
   conv=>whnf
   refine⟨_,_,SqL.of (g3 _ _ (hs2 j a ha)),cO (v:= .int (aZ (tr j k))) (by rw[Yk,Yk,Xv hk];rfl),rfl,?_⟩
   rw[Xu,Yj,Yj]
   rfl
  rintro ys H4 ⟨rfl,rfl⟩ nl hnl
  rw[Ya,hl]
  generalize eU:upd H4 nl _=H5
  have g4:=nS hnl eU
  have e4:=nE eU
  clear eU
  refine⟨_,SqL.of e4,fun z=>?_,fun n0 hn0 le0=>?_⟩
  ·have:=YT List.length z
   rw[Ya,YC]at this
   have:m=0:=this
   omega
  obtain⟨i0,hi0,e0⟩:=Y2.mp hn0
  obtain⟨i1,hi1,e1⟩:=hat k hk
  have l1:=le0 _ (Y2.mpr ⟨i1,Xo.mpr hi1,rfl⟩)
  have l2:=hle k hk i0 (Xo.mp hi0)
  have en:n0=bs k:=by rw[e1]at l1;rw[e0]at l2;omega
  refine⟨_,_,SqL.of ((g3.trans g4) _ _ ebl2),cO (v:= .int (bs k)) (by rw[Yk,Yk,Xv hk];rfl),?_⟩
  rw[en]
  exact bR (fun c=>absurd c (by simp)) (fun c=>⟨⟨_,_,rfl⟩,g3.trans g4⟩)
 rintro σ H3 ⟨⟨x4,x5,rfl⟩,g3⟩
 exact q _ (g12.trans g3)
def b8N (n:Nat)(x:V):(List.replicate n [x]).flatten=List.replicate n x:=by
 induction n with
 |zero=>rfl
 |succ n ih=>rw[Xb,Xb,Xe,ih];rfl
variable (ZmH:FB P w K mg base (CX0) 15 "law" Zmp ZmC ["_law_script"] (pB K))
include Zw Zcw ZK ZZ Zgk Zx Z0 Zr Zb ZeG Zck ZbX ZaX ZaO ZbY ZbM ZbW Zee Zef Zdb Zda Za8 ZcL ZcJ Za3 ZcK Zcs Zc Za9 Zcx Zb4 Zb5 in
theorem ZmF (F0:GFm K mg "law" ZmD Zmp ZmC):type_of% ZmH:=by
 refine fbK ["_law_script","_law_posts","_law_votes","_law_frames_here","_law_due_here","_law_bits","_law_rail","_law_one","_law_made_here","_law_k","_law_post"] F0 fun H Q nd hr h=>?_
 obtain⟨a,ns,rfl,hS,h63,hT,q⟩:=h
 refine⟨_,(aD (aX (i:=1) nd rfl (Or.inl rfl) (aU cH aG (aQ Zc.1 hr.mo rfl Zc.2.2.2 Zc.2.2.1 Zc.2.1 .nil aJ (aA (dv 0) (aA aG (aA aG aB)))))) (aD (iV (bF (aW dO (aQ Zc.1 hr.mo rfl Zc.2.2.2 Zc.2.2.1 Zc.2.1 .nil aJ (aA (dv 0) (aA aG (aA aG aB)))) aG (aR _)) (aF (aX (i:=1) nd rfl (Or.inl rfl) (aU cH (dv 1) aG))) aV)) (aD (aX (i:=2) nd rfl (Or.inl rfl) (cB (aU cH aG (aU iK aG (aQ Zc.1 hr.mo rfl Zc.2.2.2 Zc.2.2.1 Zc.2.1 .nil aJ (aA (dv 0) (aA aG (aA aG aB)))))))) (aD (aX (i:=3) nd rfl (Or.inl rfl) (aQ Za9.1 hr.mo rfl Za9.2.2.2 Za9.2.2.1 Za9.2.1 .nil aJ (aA (dv 0) (aA (dv 1) aB)))) (aD (aX (i:=4) nd rfl (Or.inl rfl) (aQ Zcx.1 hr.mo rfl Zcx.2.2.2 Zcx.2.2.1 Zcx.2.1 .nil aJ (aA (dv 3) (aA (dv 1) (aA (dv 2) aB))))) (aD (aX (i:=5) nd rfl (Or.inl rfl) (aU lV (bK dX (dv 4) aG (fun _ _=>rfl)) (aU a0D (cZ (aA aG aB)) (aQ Zc.1 hr.mo rfl Zc.2.2.2 Zc.2.2.1 Zc.2.1 .nil aJ (aA (dv 0) (aA aG (aA aG aB))))))) (aD (aX (i:=6) nd rfl (Or.inl rfl) (cG ZeG Zdb.1 hr.mo rfl ZZ Zdb.2 .nil aJ (aA (aU a0D (cZ (aA (cD (aA aG (aA aG aB))) aB)) (dv 1)) (aA (dv 2) aB)))) (aD (dM YU rfl (cY (dv 3)) (cM (i:=7) nd rfl (Or.inl rfl)) (aF (bA (bQ Zb Zck Zda.1 hr.mo Zda.2 .nil aJ (dv 6) (aA (bK dX (dv 7) aG (fun _ _=>rfl)) (aA (bK dX (dv 7) aG (fun _ _=>rfl)) (aA (dZ fH rfl Z0 gF (aA (bK dX (dv 7) aG (fun _ _=>rfl)) aB)) aB))))))) (aD (aX (i:=8) nd rfl (Or.inl rfl) (aQ Zb4.1 hr.mo rfl Zb4.2.2.2 Zb4.2.2.1 Zb4.2.1 .nil aJ (aA (dv 0) (aA (dv 6) (aA (aY cU rfl Zr bV (aA (dv 5) aB)) aB))))) (aD (dM YU rfl (cJ rfl Zx (aA aG aB)) (cM (i:=9) nd rfl (Or.inl rfl)) (aD (bF (PW.pt (oM (aW (a4C hr.units) (dv 8) (dv 5) (aR _)) (oM (aW (a4C hr.units) (bL Zb ZaO Za3.1 hr.mo Za3.2 .nil aJ (dv 6)) (dv 5) (aR _)) (oM (aW (b2V hr.units) (bL Zb ZaX Za8.1 hr.mo Za8.2 .nil aJ (dv 6)) (bK dX (dv 4) aG (fun _ _=>rfl)) (aR _)) (pZ (aW oX (bL Zb ZbX ZcK.1 hr.mo ZcK.2 .nil aJ (dv 6)) (aY cU rfl Zr bV (aA (dv 5) aB)) (aR _))))))) (aF (aL iQ)) aV) (aD (bA (bY (bL Zb ZaO Za3.1 hr.mo Za3.2 .nil aJ (dv 6)) (aA aG aB))) (aD (bA (a7O (bL Zb ZaX Za8.1 hr.mo Za8.2 .nil aJ (dv 6)))) (aD (bA (bY (dv 8) (aA aG aB))) (aF (aX (i:=8) nd rfl (Or.inl rfl) (bL Zb ZaO Za3.1 hr.mo Za3.2 .nil aJ (dv 6))))))))) (aD (dM YU rfl (cJ rfl Zx (aA (dv 1) aB)) (cM (i:=10) nd rfl (Or.inl rfl)) (aF (bF (PW.pt (oM (aW (a4C hr.units) (bQ Zb ZbW ZcJ.1 hr.mo ZcJ.2 .nil aJ (dv 6) (aA (dv 10) aB)) (dv 5) (aR _)) (oM (aW oX (bQ Zb ZbM Zcs.1 hr.mo Zcs.2 .nil aJ (dv 6) (aA (dv 10) aB)) aG (aR _)) (pZ (aW (b2V hr.units) (bQ Zb ZbY ZcL.1 hr.mo ZcL.2 .nil aJ (dv 6) (aA (dv 10) aB)) (cZ aB) (aR _)))))) (aF (aL iQ)) aV))) (aF (aL (aQ Zb5.1 hr.mo rfl Zb5.2.2.2 Zb5.2.2.1 Zb5.2.1 .nil aJ (aA (dv 6) (aA (dv 1) (aA (dv 5) aB))))))))))))))))),?_⟩
 refine⟨a,ns,0,2,rfl,hS,h63,by decide,by decide,by decide,fun z z0 z1=>?_⟩
 obtain⟨z,rfl⟩:=YX z0
 refine⟨fun σ' H'=>(∃m:Nat,σ'= [some (.ref a),some (.int ((m:Nat):Int)),none,none,none,none,none,none,none,none,none]/\2<=m/\m<=5)/\H=H',?_,?_⟩
 ·refine⟨a,ns,1,8,rfl,hS,h63,by decide,by decide,by decide,fun u u0 u1=>?_⟩
  conv=>whnf
  refine bR (fun c=>?_) (fun c=>?_)
  ·exact⟨⟨2+z+2,rfl,by omega,by omega⟩,rfl⟩
  ·exact⟨⟨2+z,rfl,by omega,by omega⟩,rfl⟩
 rintro σ' H0 ⟨⟨m,rfl,m2,m5⟩,rfl⟩
 refine⟨fun x H'=>∃v:Nat,x= .int ((v:Nat):Int)/\(v=1\/v=3\/v=5)/\H=H',?_,?_⟩
 ·refine⟨a,ns,2,3,rfl,hS,h63,by decide,by decide,by decide,fun u u0 u1=>⟨⟨by decide,iH (by omega) (by omega)⟩,?_⟩⟩
  obtain⟨u,rfl⟩:=YX u0
  exact⟨1+2*u,YT V.int (by show (1:Int)+2*((u:Nat):Int)=((1+2*u:Nat):Int);omega),by omega,rfl⟩
 rintro x H0 ⟨v,rfl,hv,rfl⟩
 have v1:1<=v:=by omega
 have v5:v<=5:=by omega
 refine⟨a,ns,m,rfl,hS,h63,m2,m5,fun fl ts fs H1 hfl g1 hFl hF n1 n5=>?_⟩
 refine⟨fl,ts,fs,m,v,rfl,hFl,hF,n1,n5,m2,m5,v1,v5,fun td bl0 el bits zs ds H2 htd hel hbl0 g2 etd ebl0 eel hev hD=>?_⟩
 have bl600:=hD.bl
 refine⟨_,_,SqT.of etd,rfl,aM rfl,fun l1 hl1=>?_⟩
 generalize eU:upd H2 l1 _=H3
 have g3:=nS hl1 eU
 have e3:=nE eU
 clear eU
 have g13:=(g1.trans g2).trans g3
 refine⟨a,ns,10,9,rfl,g13.seq hS,h63,by decide,by decide,by decide,fun x x0 x1=>?_⟩
 obtain⟨x,rfl⟩:=YX x0
 refine⟨_,e3,⟨by omega,by omega⟩,by rw[YG];exact YV (bD (by show 1*x<=1000;omega)),fun l2 hl2=>?_⟩
 rw[YG,a0O]
 generalize eU:upd H3 l2 _=H4
 have g4:=nS hl2 eU
 have e4:=nE eU
 clear eU
 refine⟨_,_,g4 _ _ (g3 _ _ ebl0),e4,YV (bD (by rw[Ya,Ya,Yz];omega)),fun bl hbl=>?_⟩
 rw[<-Yj]
 generalize eU:upd H4 bl _=H5
 have g5:=nS hbl eU
 have ebl:=nE eU
 clear eU
 refine⟨aM rfl,fun t0 ht0=>?_⟩
 generalize eU:upd H5 t0 _=H7
 have g7:=nS ht0 eU
 have et0:=nE eU
 clear eU
 refine⟨aM rfl,fun s1 hs1=>?_⟩
 generalize eU:upd H7 s1 _=H8
 have g8:=nS hs1 eU
 have es1:=nE eU
 clear eU
 refine⟨_,es1,⟨by omega,by omega⟩,by rw[YG];exact YV (bD (by show 1*m<=1000;omega)),fun cl hcl=>?_⟩
 rw[YG,b8N]
 generalize eU:upd H8 cl _=H9
 have g9:=nS hcl eU
 have ecl:=nE eU
 clear eU
 have k79:=g8.trans g9
 have k59:=g7.trans k79
 have k29:=((g3.trans g4).trans g5).trans k59
 have k19:=g2.trans k29
 have g19:=g1.trans k19
 have hC:xT H9 cl (List.replicate m ((0:Int),(0:Int))):=⟨List.replicate m t0,by rw[ecl,List.map_replicate],by rw[Yz,Yz],fun i t c h1 h2=>by
  rw[Xn (Yx h1),Xn (Yx h2)]
  exact k79 _ _ et0⟩
 have okm:∀c∈List.replicate m ((0:Int),(0:Int)),a3Z c.1 c.2 ((v:Nat):Int):=fun c hc=>by
  rw[Xn hc]
  exact⟨by decide,by decide,by omega⟩
 have lR:(List.replicate m ((0:Int),(0:Int))).length=m:=Yz
 refine fun r dr hr hdr hne=>⟨r,dr,cl,_,_,rfl,aC,hC.keep (fun x u _ e=>by rw[aH (aO e hr),aH (aO e hdr)];exact e),by omega,fun _ H10 o hR hin hk=>⟨rfl,?_⟩,fun no=>absurd ⟨⟨by omega,by omega⟩,okm⟩ no⟩
 obtain⟨no,g10⟩:=a7R hr hdr hin hk
 have g110:=g19.trans g10
 have j0:J95 Zl CA 965 (fun x=>if x=965 then none else H9 x) H10 r (R0 (List.replicate m ((0:Int),(0:Int))) ((v:Nat):Int)) o:=by
  refine⟨hR,?_,fun x u e=>?_⟩
  ·obtain⟨ps,h1,h2,h3⟩:=hT
   have nx:∀x u,H x=some u->¬ o x:=fun x u e z=>by have y:=g19 _ _ e;rw[no x z]at y;cases y
   exact⟨nx _ _ h1,ps,g110 _ _ h1,h2,h3.imp id fun ⟨c',a',b'⟩=>⟨c',a',g110 _ _ b',nx _ _ b'⟩⟩
  ·by_cases z:x=965
   ·rw[if_pos z]at e;cases e
   ·rw[if_neg z]at e
    exact⟨g10 _ _ e,fun y=>(by rw[no x y]at e;cases e),z⟩
 have tP:∀{x u},H9 x=some u->(∀ps,u≠HO.tbl ps)->x≠965:=fun {x u} e n z=>by
  obtain⟨ps,h1,_⟩:=hT
  rw[z,g19 _ _ h1]at e
  cases e
  exact n _ rfl
 have f9:∀{x u},H9 x=some u->(∀ps,u≠HO.tbl ps)->(fun x=>if x=965 then none else H9 x) x=some u:=fun {x u} e n=>by dsimp only;rw[if_neg (tP e n)];exact e
 have gS:∀x u,H x=some u->x≠965->(fun x=>if x=965 then none else H9 x) x=some u:=fun x u e n=>by dsimp only;rw[if_neg n];exact g19 _ _ e
 have hF9:b2R (fun x=>if x=965 then none else H9 x) fl ts fs:=⟨f9 (k19 _ _ hFl.at_) (fun ps=>by simp),hFl.ln,fun i t f h1 h2=>by
  obtain⟨d,a1,a2⟩:=hFl.tp i t f h1 h2
  exact⟨d,f9 (k19 _ _ a1) (fun ps=>by simp[frT]),f9 (k19 _ _ a2) (fun ps=>by simp)⟩⟩
 have etd9:=f9 (k29 _ _ etd) (fun ps=>by simp)
 have eel9:=f9 (k29 _ _ eel) (fun ps=>by simp)
 have ebl9:=f9 (k59 _ _ ebl) (fun ps=>by simp)
 have ev9:dR (fun x=>if x=965 then none else H9 x) zs ds:=hev.imp fun x xs e=>f9 (k29 _ _ e) (fun ps=>by simp)
 generalize (fun x=>if x=965 then none else H9 x)=F0 at j0 gS hF9 etd9 eel9 ebl9 ev9
 have hn0:=rJ.start m v fs
 generalize R0 (List.replicate m ((0:Int),(0:Int))) ((v:Nat):Int)=R5 at j0 hn0
 clear f9 tP okm hC hin hk no hne hr hdr hR ecl es1 et0 hFl etd eel ebl hev g2 g3 g4 g5 g7 g8 g9 k59 k79 k29 k19 g19 g110 hcl hs1 ht0 g10 lR g13 e3 e4 ebl0 hbl hl1 hl2
 have sq:∀{H':Hp}{R:RS}{o:Own},J95 Zl CA 965 F0 H' r R o->SqL K H' a (ns.map V.int):=fun j=>SqL.keepT hS hT fun x u e n=>(j.kp x u (gS x u e n)).1
 refine⟨⟨_,SqL.of (j0.sm _ _ hF9.at_)⟩,gC (xs:=ts.map V.ref) (fun i σ H'=>(∃x,σ= [some (.ref a),some (.int ((m:Nat):Int)),some (.int ((v:Nat):Int)),some (.ref fl),some (.ref td),some (.ref bl),some (.ref r),x,none,none,none])/\∃(R:RS)(o:Own),J95 Zl CA 965 F0 H' r R o/\rJ m v fs i R) ⟨⟨_,rfl⟩,R5,o,j0,hn0⟩ ?_ ?_ ?_⟩
 ·rintro i σ H' hi ⟨_,R1,o1,j1,_⟩
  exact SqL.of (j1.sm _ _ hF9.at_)
 ·rintro i y σ H' hx ⟨⟨y',rfl⟩,R1,o1,j1,hn⟩
  rw[Yk]at hx
  obtain⟨tt,htt,rfl⟩:=YK.mp hx
  have hil:i<fs.length:=by rw[<-hF9.ln];exact(Yg.mp htt).1
  obtain⟨f1,ef1⟩:∃f,fs[i]? =some f:=⟨_,Yc hil⟩
  obtain⟨d,k1,k2⟩:=hF9.tp i tt f1 htt ef1
  have k1':=j1.sm _ _ k1
  have k2':=j1.sm _ _ k2
  obtain⟨fp,fo⟩:=hF.ok f1 (Yx ef1)
  obtain⟨w,hR⟩:=j1.rl
  refine⟨⟨w.dx,_,hR.er,rfl⟩,_,_,SqT.of k1',rfl,_,_,SqT.of k1',rfl,_,.ref d,SqT.of k1',rfl,_,.inl (SqL.of k2'),fun l hl=>?_⟩
  generalize eU:upd H' l _=H2
  have g1:=nS hl eU
  have el:=nE eU
  have j2:=j1.same g1
  clear eU
  obtain⟨w2,hR2⟩:=j2.rl
  obtain⟨n0,eS0,hn'⟩:=hn.hand hF ef1
  have ol:=hn.ol
  have f7:=fo.2.1
  refine⟨r,R1,o1,w2,_,_,l,f1.2.2,rfl,hR2,SqL.of el,by omega,by omega,fun S hS=>?_,fun no=>absurd ⟨by omega,by rw[hn.ln];omega⟩ no,fun _ no=>absurd fo.ok no,fun i' S ei eS _=>?_⟩
  ·obtain⟨j,hj,e⟩:=Y7 hS
   have:=hn.ps j (by rw[<-hn.ln];exact hj)
   rw[Yc hj,e]at this
   cases this
   have z:=List.length_filter_le (fun f:Nat×Nat×List Int=>decide (f.1=j)) (fs.take i)
   show (gR (fs.take i) j).length<900
   unfold gR
   rw[Ya]
   rw[Yu]at z
   omega
  ·have ei':i'=f1.1:=by omega
   subst ei'
   rw[eS0]at eS
   cases eS
   refine⟨((f1.1:Nat):Int),by rw[n0],fun no=>absurd rfl no,fun _ H3 o3 hR3 m3=>⟨⟨_,rfl⟩,_,o3,j2.mv hR3 m3,?_⟩⟩
   rw[YG]
   exact hn'
 rintro σ H11 ⟨⟨y,rfl⟩,R1,o1,j1,hn⟩
 rw[Ya,hF9.ln]at hn
 obtain⟨bs,wd,tr,hA⟩:=hD.all hn m2 (x:=x) (by omega)
 refine⟨_,.inl (SqL.of (j1.sm _ _ ebl9)),?_⟩
 rw[Ya,Yb,Yz]
 generalize bits.length+x=e at hA
 have bt:=hA.bt
 generalize bits++List.replicate x 1=B at hA bt ebl9
 refine⟨a,ns,r,F0,R1,o1,m,e,bs,wd,tr,rfl,sq j1,h63,j1,hA.rn,fun l H12 o2 j2 mu2=>?_⟩
 have a2:=(hA.rn.run e (Yd _)).1
 have hbo:(cI R1 e).bo=B:=a2.bo.trans bt
 have hev2:(cI R1 e).ev=ds:=a2.ev.trans hA.ev.symm
 have e7:=hA.rn.e7
 have lB:B.length=e:=by rw[<-bt,Ya,YC]
 have okd:=hA.ok
 rw[bt]at mu2
 generalize cI R1 e=R2 at j2 a2 hbo hev2
 refine⟨⟨by decide,by decide⟩,fW (lo:=0) (n:=2) (fun k σ H'=>∃(l:Addr)(o2:Own),(∃x,σ= [some (.ref a),some (.int ((m:Nat):Int)),some (.int ((v:Nat):Int)),some (.ref fl),some (.ref td),some (.ref bl),some (.ref r),y,some (.ref l),x,none])/\J95 Zl CA 965 F0 H' r R2 o2/\Mu 965 F0 H' o2 l (B.map V.int)) ⟨l,o2,⟨_,rfl⟩,j2,mu2⟩ ?_ ?_⟩
 ·rintro k σ H13 hk ⟨l,o2,⟨x',rfl⟩,j,mu⟩
  obtain⟨w,hR⟩:=j.rl
  refine⟨_,_,SqL.of mu.at_,SqL.of (j.sm _ _ ebl9),wO rfl ?_⟩
  refine⟨⟨w.dx,_,hR.er,rfl⟩,r,R2,o2,w,rfl,hR,fun l1 hl1=>?_⟩
  rw[hbo]
  generalize eU:upd H13 l1 _=H14
  have k1:=nS hl1 eU
  have el1:=nE eU
  have j1:=j.same k1
  have mu1:=mu.same k1
  clear eU
  refine⟨_,_,SqL.of el1,SqL.of (j1.sm _ _ ebl9),wO rfl ?_⟩
  obtain⟨w1,hR1⟩:=j1.rl
  refine⟨⟨w1.dx,_,hR1.er,rfl⟩,r,R2,o2,w1,rfl,hR1,fun l2 hl2=>?_⟩
  have k2:=aK hl2 (.lst w1.evs)
  have el2:=aC (H:=H14) (a:=l2) (o:= .lst w1.evs)
  have E2:=hR1.ev.imp fun x xs z=>k2 x _ z
  rw[hev2]at E2
  have j2':=j1.same k2
  have mu2':=mu1.same k2
  generalize upd H14 l2 _=H15 at k2 el2 E2 j2' mu2'
  refine⟨_,_,SqT.of (j2'.sm _ _ etd9),rfl,_,.lst (SqL.of el2) E2.dvs,.lst (SqL.of (j2'.sm _ _ eel9)) ((ev9.imp fun x xs z=>j2'.sm _ _ z).dvs),zJ _ okd,?_⟩
  conv=>whnf
  obtain⟨w2,hR2⟩:=j2'.rl
  refine⟨⟨w2.dx,_,hR2.er,rfl⟩,r,R2,o2,w2,rfl,hR2,_,.inl (SqL.of (j2'.sm _ _ ebl9)),?_⟩
  rw[hbo,Ya]
  refine wO rfl ?_
  obtain⟨w3,hR3⟩:=j2'.rl
  refine⟨⟨w3.dx,_,hR3.er,rfl⟩,r,R2,o2,w3,rfl,hR3,fun l3 hl3=>?_⟩
  have mu3:=mu2'.other (v:= .lst (R2.bo.map V.int)) (aO mu2'.at_ hl3)
  obtain⟨j3,m3⟩:=j2'.new (vs:=R2.bo.map V.int) hl3
  have ne3:=aO mu2'.at_ hl3
  generalize upd H15 l3 _=H16 at j3 m3 mu3
  refine⟨⟨_,SqL.of m3.at_⟩,_,m3.at_,bD (by rw[Ya,hbo,lB];omega),?_⟩
  have j4:=j3.put (vs':=R2.bo.map V.int++[.int 0]) m3
  have mu4:=mu3.other (v:= .lst (R2.bo.map V.int++[.int 0])) ne3
  generalize upd H16 l3 _=H17 at j4 mu4
  obtain⟨w4,hR4⟩:=j4.rl
  refine⟨⟨w4.dx,_,hR4.er,rfl⟩,r,R2,o2,w4,rfl,hR4,fun l5 hl5=>?_⟩
  have ne5:=aO mu4.at_ hl5
  have mu5:=mu4.other (v:= .lst w4.evs) ne5
  obtain⟨j5,m5'⟩:=j4.new (vs:=w4.evs) hl5
  generalize upd H17 l5 _=H18 at j5 m5' mu5
  refine⟨_,m5'.at_,?_⟩
  have j6:=j5.put (vs':=[]) m5'
  have mu6:=mu5.other (v:= .lst []) ne5
  generalize upd H18 l5 _=H19 at j6 mu6
  refine⟨⟨_,SqL.of mu6.at_⟩,_,mu6.at_,bD (by rw[Ya,lB];omega),?_⟩
  have j7:=j6.put (vs':=B.map V.int++[.int 1]) mu6
  generalize upd H19 l _=H20 at j7
  obtain⟨w7,hR7⟩:=j7.rl
  refine⟨⟨w7.dx,_,hR7.er,rfl⟩,r,R2,o2,w7,rfl,hR7,fun l8 hl8=>?_⟩
  obtain⟨j8,m8⟩:=j7.new (vs:=R2.bo.map V.int) hl8
  rw[hbo]at j8 m8 ⊢
  exact⟨l8,o2,⟨_,rfl⟩,j8,m8⟩
 rintro σ H13 ⟨l,o2,⟨x',rfl⟩,j,mu⟩
 refine⟨⟨by omega,by omega⟩,?_⟩
 rw[YG]
 refine fW (lo:=0) (n:=m) (fun k σ H'=>(∃x,σ= [some (.ref a),some (.int ((m:Nat):Int)),some (.int ((v:Nat):Int)),some (.ref fl),some (.ref td),some (.ref bl),some (.ref r),y,some (.ref l),x',x])/\J95 Zl CA 965 F0 H' r R2 o2) ⟨⟨_,rfl⟩,j⟩ ?_ ?_
 ·rintro k σ H14 hk ⟨⟨x,rfl⟩,j1⟩
  rw[Xw]
  obtain⟨u,n,et⟩:=hA.wt k hk
  have eS:=a2.ps k hk
  rw[et]at eS
  have eh:=a2.he k hk
  rw[bt]at eh
  obtain⟨w,hR⟩:=j1.rl
  refine⟨⟨w.dx,_,hR.er,rfl⟩,r,R2,o2,w,_,rfl,hR,fun i xs ei ex l1 hl1=>?_,fun no=>absurd ⟨by omega,by rw[a2.ln];omega⟩ no⟩
  have ij:i=k:=by omega
  subst ij
  rw[eh]at ex
  cases ex
  generalize eU:upd H14 l1 _=H15
  have k1:=nS hl1 eU
  have el1:=nE eU
  have j2:=j1.same k1
  clear eU
  refine⟨_,_,SqL.of el1,SqL.of (j2.sm _ _ ebl9),wO rfl ?_⟩
  obtain⟨w2,hR2⟩:=j2.rl
  refine⟨⟨w2.dx,_,hR2.er,rfl⟩,r,R2,o2,w2,_,rfl,hR2,fun i' S ei' eS'=>?_,fun no=>absurd ⟨by omega,by rw[a2.ln];omega⟩ no⟩
  have ij:i'=i:=by omega
  subst ij
  rw[eS]at eS'
  cases eS'
  conv=>whnf
  obtain⟨w3,hR3⟩:=j2.rl
  refine⟨⟨w3.dx,_,hR3.er,rfl⟩,r,R2,o2,w3,_,rfl,hR3,fun i'' S ei'' eS''=>?_,fun no=>absurd ⟨by omega,by rw[a2.ln];omega⟩ no⟩
  have ij:i''=i':=by omega
  subst ij
  rw[eS]at eS''
  cases eS''
  refine⟨YY _,fun l4 xs H16 hl4 k4 el4 f4=>⟨aM rfl,fun l5 hl5=>?_⟩⟩
  generalize eU:upd H16 l5 _=H17
  have k5:=nS hl5 eU
  have el5:=nE eU
  have j5:=(j2.same k4).same k5
  clear eU
  refine⟨_,.lst (SqL.of (k5 _ _ el4)) (f4.same k5).at_.dvs,.lst (SqL.of el5) .nil,zH _,?_⟩
  conv=>whnf
  exact⟨⟨_,rfl⟩,j5⟩
 rintro σ H14 ⟨⟨x,rfl⟩,j1⟩
 obtain⟨w,hR⟩:=j1.rl
 exact⟨r,R2,o2,w,m,e,bs,wd,tr,bl,rfl,hR,a2,(by rw[bt];exact j1.sm _ _ ebl9),m2,m5,e7,hA.le,hA.at_,fun H' _=>q H'⟩
set_option maxHeartbeats 0 in
include Zcf ZaA ZdH ZL Zly Zby ZdI Zed ZeI Zw Zfh Zfi ZaS Zds Zbz ZcD Zc4 Zdt ZeK ZfR ZbQ Zd5 ZhM Zlz Zc3 Zfg Zb7 Zcw ZK Zje ZdN Zd4 ZcQ ZbA Zec Zdg Zeb ZfS Zff Zfj ZZ ZeJ Zkn Zgk Zx ZlA Z0 Zr ZlB ZdJ Zfk ZlC ZhN ZeL ZdG ZeE Zg Zf Zi Zbl Ze Zal Zd ZdF ZM Zj ZF Zs Zt ZT ZY Za ZaU Zar Zd3 ZaP Zau Zbk ZaG Zbj Zc2 ZcF Zce Zb ZeF ZeG ZS ZD ZaM Zbf Za1 ZaT ZaN Zay Zah ZV ZO Za6 Zbn ZbL ZeH Zam ZbH Za7 Zbe Za0 ZaR Zaw ZaL Zbp Zbq ZbU ZaK Zbo ZaZ ZaQ ZbN ZbZ ZbI Zbc Zbr Zb1 ZcB Zcg ZbO Zb0 ZbJ Zbd Zbs Zb2 ZcC Zk Zch Zcj Zci Z9 ZbV ZbK ZaY Zcm Zcl Zck ZbX ZaX ZaO ZbY ZbM ZbW Zee Zak Zu ZA Zq ZH Zp Z5 ZI ZR ZC Z3 Zaz ZB Zat Zac ZN Z4 Zas Zh Zm Zax Zai Z6 Zaa ZG Zaj Zv ZW ZQ ZP Zef in
theorem all_mk {l:W.OpenLaw}{fa:Addr}(hfa:mg "law"=some (.ref fa))
 (Zf7:GF K mg "heard_well" Zja Zbx)
 (Zit:GF K mg "bits_of" Zk8 Ziy)
 (Zg0:GF K mg "number_of" Zj2 Zg9)
 (ZgY:GF K mg "are_bytes" Zj0 Zg7)
 (Ziu:GF K mg "divided" Zk9 Ziz)
 (Ziw:GF K mg "rest_of" Zlb ZiB)
 (ZhG:GF K mg "check_of" ZkE ZhK)
 (Ziv:GF K mg "is_name" Zla ZiA)
 (Zj5:GF K mg "put_in" Zl5 Zj7)
 (ZfE:GF K mg "check_frame" Zip ZfJ)
 (Zf6:GF K mg "frame_bits" Zi9 Zgb)
 (Zix:GF K mg "wire_of" Zlc ZiC)
 (Zg1:GF K mg "told_size" Zj3 Zha)
 (ZfG:GF K mg "is_complete" Zir ZfL)
 (Zf8:GF K mg "read_frame" Zjb Zgc)
 (ZeY:GF K mg "begun_reader" Zhz Ze0)
 (ZgZ:GF K mg "is_wanted" Zj1 Zg8)
 (Zj4:GF K mg "copies" Zl4 Zj6)
 (Zga:GF K mg "unless_off" Zjd Zge)
 (ZhH:GF K mg "fault_of" ZkF ZhL)
 (Zf9:GF K mg "refusal_of" Zjc Zgd)
 (ZhF:GF K mg "blame_of" ZkD ZhJ)
 (ZfF:GF K mg "check_votes" Ziq ZfK)
 (ZeZ:GF K mg "check_choice" ZhA Ze1)
 (ZgT:GF K mg "_law_draw" ZjV Zg2)
 (ZgX:GF K mg "_law_wire" ZjZ Zg6)
 (ZfC:GF K mg "_law_frames" Zin ZfH)
 (ZfD:GF K mg "_law_winner" Zio ZfI)
 (ZgU:GF K mg "_law_lost" ZjW Zg3)
 (ZhE:GF K mg "_law_due" ZkC ZhI)
 (ZgV:GF K mg "_law_made" ZjX Zg4)
 (ZgW:GF K mg "_law_said" ZjY Zg5)
 (Zkf:GF K mg "law" ZmD Zmp)
 (ZfB:MF K CA.streak "__init__" "Streak.__init__" Zim Zd2)
 (ZdK:MF K CA.streak "lengthen" "Streak.lengthen" ZfN ZcE)
 (Zea:MF K CA.streak "is_full" "Streak.is_full" Zgp Zc1)
 (ZcW:MF K CA.streak "is_too_long" "Streak.is_too_long" ZeO ZbT)
 (Zfx:MF K CA.reader "__init__" "Reader.__init__" Zii ZdY)
 (Zel:MF K CA.reader "judged" "Reader.judged" ZgC Zdn)
 (Zfw:MF K CA.reader "hear" "Reader.hear" Zih ZdX)
 (ZeU:MF K CA.reader "plain" "Reader.plain" Zhv ZdB)
 (ZeT:MF K CA.reader "frame" "Reader.frame" Zhu ZdA)
 (ZgR:MF K ZeA "__init__" "Tail.__init__" ZjT Zfe)
 (ZgS:MF K ZeA "says" "Tail.says" ZjU ZdM)
 (Zem:MF K ZeA "is_fault" "Tail.is_fault" ZgD ZcA)
 (Zdo:MF K ZeA "judged_vote" "Tail.judged_vote" Zfm Zbw)
 (ZgQ:MF K ZeA "hear" "Tail.hear" ZjS ZdL)
 (Zek:MF K CA.rtail "__init__" "ReadTail.__init__" ZgB Zdm)
 (Zd9:MF K CA.stail "__init__" "SpeakTail.__init__" Zgo Zc0)
 (ZfU:MF K CA.count "__init__" "Count.__init__" ZiX Zeo)
 (Zd6:MF K CA.count "is_quiet" "Count.is_quiet" Zgl ZcX)
 (ZeP:MF K CA.count "is_off" "Count.is_off" Zhq Zdw)
 (ZeQ:MF K CA.count "number" "Count.number" Zhr Zdx)
 (ZfV:MF K CA.count "move" "Count.move" ZiY Zep)
 (Zfo:MF K CA.count "fault" "Count.fault" Zh9 ZdP)
 (Zfn:MF K CA.count "blame" "Count.blame" Zh8 ZdO)
 (ZfT:MF K CA.count "good" "Count.good" ZiW Zen)
 (ZgE:MF K CA.free "__init__" "Free.__init__" ZjH Ze2)
 (Zfy:MF K CA.speaks "__init__" "Speaks.__init__" Zij ZdZ)
 (Zf0:MF K CA.reads "__init__" "Reads.__init__" Zi3 Zeu)
 (Zfp:MF K CA.intail "__init__" "InTail.__init__" Zia ZdQ)
 (Zeg:MF K CA.flag "__init__" "Flagging.__init__" Zgx Zdi)
 (ZeV:MF K CA.settles "__init__" "Settles.__init__" Zhw ZdC)
 (Zf3:MF K CA.rests "__init__" "Rests.__init__" Zi6 Zex)
 (Zej:MF K CA.post "is_quiet" "Post.is_quiet" ZgA Zdl)
 (Zft:MF K CA.post "is_off" "Post.is_off" Zie ZdU)
 (Zfs:MF K CA.post "faults" "Post.faults" Zid ZdT)
 (Zd7:MF K CA.post "has_frame" "Post.has_frame" Zgm ZcY)
 (ZcV:MF K CA.post "foremost_wire" "Post.foremost_wire" ZeN ZbS)
 (ZcU:MF K CA.post "drop_foremost" "Post.drop_foremost" ZeM ZbR)
 (ZeR:MF K CA.post "hand_up" "Post.hand_up" Zhs Zdy)
 (ZgH:MF K CA.post "hand" "Post.hand" ZjK Ze5)
 (ZfW:MF K CA.post "waits" "Post.waits" ZiZ Zeq)
 (ZgJ:MF K CA.post "__init__" "Post.__init__" ZjM Ze7)
 (ZgF:MF K CA.free "says" "Free.says" ZjI Ze3)
 (Zfz:MF K CA.speaks "says" "Speaks.says" Zik Zd0)
 (Zf1:MF K CA.reads "says" "Reads.says" Zi4 Zev)
 (Zfq:MF K CA.intail "says" "InTail.says" Zib ZdR)
 (Zeh:MF K CA.flag "says" "Flagging.says" Zgy Zdj)
 (ZeW:MF K CA.settles "says" "Settles.says" Zhx ZdD)
 (Zf4:MF K CA.rests "says" "Rests.says" Zi7 Zey)
 (ZhB:MF K CA.off "says" "Off.says" Zkz ZfO)
 (ZhC:MF K CA.off "step" "Off.step" ZkA ZfP)
 (Zei:MF K CA.flag "step" "Flagging.step" Zgz Zdk)
 (ZeX:MF K CA.settles "step" "Settles.step" Zhy ZdE)
 (Zf5:MF K CA.rests "step" "Rests.step" Zi8 Zez)
 (ZgG:MF K CA.free "step" "Free.step" ZjJ Ze4)
 (Zf2:MF K CA.reads "step" "Reads.step" Zi5 Zew)
 (ZfA:MF K CA.speaks "step" "Speaks.step" Zil Zd1)
 (Zfr:MF K CA.intail "step" "InTail.step" Zic ZdS)
 (ZgK:MF K CA.post "says" "Post.says" ZjN Ze8)
 (ZgI:MF K CA.post "hear" "Post.hear" ZjL Ze6)
 (ZeS:MF K Zl "post_at" "Rail.post_at" Zht Zdz)
 (ZgN:MF K Zl "__init__" "Rail.__init__" ZjQ Zfb)
 (ZgM:MF K Zl "hand" "Rail.hand" ZjP Zfa)
 (Zd8:MF K Zl "make_turn" "Rail.make_turn" Zgn ZcZ)
 (ZgP:MFc K Zl "turn" "Rail.turn" Zdh Zfd 969)
 (ZhD:MF K Zl "run" "Rail.run" ZkB ZfQ)
 (Zfu:MF K Zl "events" "Rail.events" Zif ZdV)
 (ZfZ:MF K Zl "waits" "Rail.waits" Zi2 Zet)
 (ZgO:MF K Zl "said" "Rail.said" ZjR Zfc)
 (ZfX:MF K Zl "heard" "Rail.heard" Zi0 Zer)
 (ZgL:MF K Zl "bits" "Rail.bits" ZjO Ze9)
 (ZfY:MF K Zl "turns" "Rail.turns" Zi1 Zes)
 (Zfv:MF K Zl "faults" "Rail.faults" Zig ZdW)
 :∃fd:FuncData,(∀(s:Shared)(v:Value),BindsTo s fd ⟨[v], []⟩ [("_law_script",v)])/\∀base:Heap,K.In base->base.Ns mainGlobals mg->fX l.prog w K mg base CX0 15 fa fd ["_law_script"] (pB K):=by
 obtain⟨_,Zf7⟩:=Zf7
 obtain⟨_,Zit⟩:=Zit
 obtain⟨_,Zg0⟩:=Zg0
 obtain⟨_,ZgY⟩:=ZgY
 obtain⟨_,Ziu⟩:=Ziu
 obtain⟨_,Ziw⟩:=Ziw
 obtain⟨_,ZhG⟩:=ZhG
 obtain⟨_,Ziv⟩:=Ziv
 obtain⟨_,Zj5⟩:=Zj5
 obtain⟨_,ZfE⟩:=ZfE
 obtain⟨_,Zf6⟩:=Zf6
 obtain⟨_,Zix⟩:=Zix
 obtain⟨_,Zg1⟩:=Zg1
 obtain⟨_,ZfG⟩:=ZfG
 obtain⟨_,Zf8⟩:=Zf8
 obtain⟨_,ZeY⟩:=ZeY
 obtain⟨_,ZgZ⟩:=ZgZ
 obtain⟨_,Zj4⟩:=Zj4
 obtain⟨_,Zga⟩:=Zga
 obtain⟨_,ZhH⟩:=ZhH
 obtain⟨_,Zf9⟩:=Zf9
 obtain⟨_,ZhF⟩:=ZhF
 obtain⟨_,ZfF⟩:=ZfF
 obtain⟨_,ZeZ⟩:=ZeZ
 obtain⟨_,ZgT⟩:=ZgT
 obtain⟨_,ZgX⟩:=ZgX
 obtain⟨_,ZfC⟩:=ZfC
 obtain⟨_,ZfD⟩:=ZfD
 obtain⟨_,ZgU⟩:=ZgU
 obtain⟨_,ZhE⟩:=ZhE
 obtain⟨_,ZgV⟩:=ZgV
 obtain⟨_,ZgW⟩:=ZgW
 obtain⟨d0,Zkf⟩:=Zkf
 obtain⟨_,_,ZfB⟩:=ZfB
 obtain⟨_,_,ZdK⟩:=ZdK
 obtain⟨_,_,Zea⟩:=Zea
 obtain⟨_,_,ZcW⟩:=ZcW
 obtain⟨_,_,Zfx⟩:=Zfx
 obtain⟨_,_,Zel⟩:=Zel
 obtain⟨_,_,Zfw⟩:=Zfw
 obtain⟨_,_,ZeU⟩:=ZeU
 obtain⟨_,_,ZeT⟩:=ZeT
 obtain⟨_,_,ZgR⟩:=ZgR
 obtain⟨_,_,ZgS⟩:=ZgS
 obtain⟨_,_,Zem⟩:=Zem
 obtain⟨_,_,Zdo⟩:=Zdo
 obtain⟨_,_,ZgQ⟩:=ZgQ
 obtain⟨_,_,Zek⟩:=Zek
 obtain⟨_,_,Zd9⟩:=Zd9
 obtain⟨_,_,ZfU⟩:=ZfU
 obtain⟨_,_,Zd6⟩:=Zd6
 obtain⟨_,_,ZeP⟩:=ZeP
 obtain⟨_,_,ZeQ⟩:=ZeQ
 obtain⟨_,_,ZfV⟩:=ZfV
 obtain⟨_,_,Zfo⟩:=Zfo
 obtain⟨_,_,Zfn⟩:=Zfn
 obtain⟨_,_,ZfT⟩:=ZfT
 obtain⟨_,_,ZgE⟩:=ZgE
 obtain⟨_,_,Zfy⟩:=Zfy
 obtain⟨_,_,Zf0⟩:=Zf0
 obtain⟨_,_,Zfp⟩:=Zfp
 obtain⟨_,_,Zeg⟩:=Zeg
 obtain⟨_,_,ZeV⟩:=ZeV
 obtain⟨_,_,Zf3⟩:=Zf3
 obtain⟨_,_,Zej⟩:=Zej
 obtain⟨_,_,Zft⟩:=Zft
 obtain⟨_,_,Zfs⟩:=Zfs
 obtain⟨_,_,Zd7⟩:=Zd7
 obtain⟨_,_,ZcV⟩:=ZcV
 obtain⟨_,_,ZcU⟩:=ZcU
 obtain⟨_,_,ZeR⟩:=ZeR
 obtain⟨_,_,ZgH⟩:=ZgH
 obtain⟨_,_,ZfW⟩:=ZfW
 obtain⟨_,_,ZgJ⟩:=ZgJ
 obtain⟨_,_,ZgF⟩:=ZgF
 obtain⟨_,_,Zfz⟩:=Zfz
 obtain⟨_,_,Zf1⟩:=Zf1
 obtain⟨_,_,Zfq⟩:=Zfq
 obtain⟨_,_,Zeh⟩:=Zeh
 obtain⟨_,_,ZeW⟩:=ZeW
 obtain⟨_,_,Zf4⟩:=Zf4
 obtain⟨_,_,ZhB⟩:=ZhB
 obtain⟨_,_,ZhC⟩:=ZhC
 obtain⟨_,_,Zei⟩:=Zei
 obtain⟨_,_,ZeX⟩:=ZeX
 obtain⟨_,_,Zf5⟩:=Zf5
 obtain⟨_,_,ZgG⟩:=ZgG
 obtain⟨_,_,Zf2⟩:=Zf2
 obtain⟨_,_,ZfA⟩:=ZfA
 obtain⟨_,_,Zfr⟩:=Zfr
 obtain⟨_,_,ZgK⟩:=ZgK
 obtain⟨_,_,ZgI⟩:=ZgI
 obtain⟨_,_,ZeS⟩:=ZeS
 obtain⟨_,_,ZgN⟩:=ZgN
 obtain⟨_,_,ZgM⟩:=ZgM
 obtain⟨_,_,Zd8⟩:=Zd8
 obtain⟨_,_,ZgP,hc_Rail_turn⟩:=ZgP
 obtain⟨_,_,ZhD⟩:=ZhD
 obtain⟨_,_,Zfu⟩:=Zfu
 obtain⟨_,_,ZfZ⟩:=ZfZ
 obtain⟨_,_,ZgO⟩:=ZgO
 obtain⟨_,_,ZfX⟩:=ZfX
 obtain⟨_,_,ZgL⟩:=ZgL
 obtain⟨_,_,ZfY⟩:=ZfY
 obtain⟨_,_,Zfv⟩:=Zfv
 cases hfa.symm.trans Zkf.m
 refine⟨d0,fun s v=>?_,fun base _ _=>?_⟩
 ·obtain⟨_,_,_,_,_,_,_,_,_,rfl,_⟩:=Zkf.F.ex
  exact .of_eq rfl
 have Za5:=Zlr l.prog w mg base  Zf7
 have ZaE:=ZkV l.prog w mg base CA Zi Zak Zu ZfB
 have ZU:=ZiV l.prog w mg base CA Zi Zak Zu ZdK
 have ZJ:=Zjj l.prog w mg base CA Zcf Zi Zu Zea
 have ZaJ:=Zhp l.prog w mg base CA Zcf Zi Zu ZcW
 have Z1:=Zmq l.prog w mg base ZaA Zx Zit
 have Zy:=Zl2 l.prog w mg base  Zg0
 have Zap:=Zl0 l.prog w mg base ZdH ZlA ZgY
 have ZcR:=Zmr l.prog w mg base ZL Ziu
 have Zab:=Zmt _ w mg base ZL Zly Zy ZcR Ziw
 have Zcz:=Zmh _ w mg base ZaA ZL Zby Z0 Z1 Zab ZhG
 have ZcS:=Zms l.prog w mg base ZdI Ziv
 have Zdq:=Zmy _ w mg base CA Zed Zi Zbl ZS ZD ZaE ZU ZJ Zj5
 have Zz:=ZkY _ w mg base ZeI Zw Zr Zap ZcS ZfE
 have Zbt:=Zlq _ w mg base ZaA ZL Zw Zfh Zfi ZaS Zr Z1 Zcz Zz Zf6
 have ZcT:=Zmu _ w mg base ZaA ZL Zw Zdq Zbt Zix
 have Zaq:=Zl3 _ w mg base Zds Zbz Zy Zg1
 have Z8:=Zk0 _ w mg base Zby ZaS Zbz Zr Zaq ZfG
 have Zbu:=Zls _ w mg base ZL Zw ZaS Zds Zbz Zx Zy Zab Zaq Z8 Zf8
 have Zct:=ZkR _ w mg base CA Zed Zbl Ze ZA Zq ZH ZaE Zfx
 have ZbF:=Zkd _ w mg base CA ZL Zi Ze ZD ZaM ZA Zq ZJ ZaJ Zab Z8 Zel
 have Z7:=ZkQ _ w mg base CA ZL Zi Ze ZS ZD Zbf ZA Zq ZH ZU ZJ ZbF Zfw
 have Zcb:=Zkt l.prog w mg base CA Z0 Ze Zq ZeU
 have Zca:=Zks _ w mg base CA ZL Zw Ze Zq ZH Zbu ZeT
 have Za4:=ZlT l.prog w mg base CA Zg Zf ZgR
 have Zdf:=ZlU l.prog w mg base CA ZcD Zg Zf ZgS
 have ZbG:=Zke l.prog w mg base CA ZcD Zg Zf Zem
 have ZaV:=Zis l.prog w mg base CA Zc4 Zg Zf Zdo
 have Zde:=ZlS _ w mg base CA Zc4 Zg Zf Za1 ZaT ZaN Zay ZbG ZaV ZgQ
 have ZbE:=Zkc _ w mg base CA Zdt Zg Zf Zal Za4 Zek
 have Zbi:=Zji _ w mg base CA Zdt Zg Zf Zal Za4 Zd9
 have ZcH:=Zle l.prog w mg base CA Zd Zp ZfU
 have Zbg:=Zjf l.prog w mg base CA ZeK Zd Zp Zd6
 have Zav:=Zko l.prog w mg base CA ZfR Zd Zp ZeP
 have Zb8:=Zkp l.prog w mg base CA Zd Zp ZeQ
 have Zae:=Zlf _ w mg base CA ZlB Zd Zah Zp Zav ZfV
 have ZaB:=ZkI _ w mg base CA ZbQ Zd5 Zd ZV Zae Zfo
 have Zcn:=ZkH _ w mg base CA ZbQ Zd ZV Zae Zfn
 have ZcG:=Zld _ w mg base CA Zd ZV Zae ZfT
 have Zad:=Zkx _ w mg base CA ZL Zw ZhM Ze ZdF ZO Zct Z7 ZeY
 have Zao:=ZlG l.prog w mg base CA ZM Z5 ZgE
 have ZaD:=ZkS l.prog w mg base CA Zj ZI ZR ZC Zfy
 have Zaf:=Zlk l.prog w mg base CA ZF Z3 Zaz Zf0
 have ZaC:=ZkJ l.prog w mg base CA Zs ZB Zat Zfp
 have Zan:=Zj8 l.prog w mg base CA Zt Zac ZN Zeg
 have ZX:=Zku l.prog w mg base CA ZT Z4 ZeV
 have Z2:=Zln l.prog w mg base CA ZY Zas Zf3
 have ZbD:=Zkb _ w mg base CA Zd Za Za6 Zh Zbg Zej
 have Zcr:=ZkN _ w mg base CA Zd Za Zah Zh Zav Zft
 have Zcq:=ZkM _ w mg base CA Zd Za Zbn Zh Zb8 Zfs
 have Zbh:=Zjg l.prog w mg base CA Zr Za Zm Zd7
 have ZaI:=Zho _ w mg base CA ZaA ZL Zw Za Zm ZcT ZcV
 have ZaH:=Zhn l.prog w mg base CA Za Zm ZcU
 have Zb6:=Zl1 l.prog w mg base  ZgZ
 have Zb9:=Zkq _ w mg base CA Za Zax Zai Zb6 ZeR
 have Zc6:=ZlJ _ w mg base CA Zw Z0 Za Zm Zz ZgH
 have Zdp:=Zmx l.prog w mg base Z0 Zj4
 have ZcI:=Zlg _ w mg base CA Za Zm Zdp ZfW
 have ZE:=Zlu _ w mg base CA Zlz Za ZbL ZeH Zcr Zga
 have Zo:=Zmi _ w mg base CA Zc3 Zfg Zd Za ZaU Zam Zh ZaB Zan ZE ZhH
 have Zbv:=Zlt _ w mg base CA Zb7 Zd Za Zar Zam Zh ZaB ZX ZE Zf9
 have Zcy:=Zmg _ w mg base CA Zb7 Zd Za Zar ZbH Zh Zcn ZX ZE ZhF
 have Zbb:=ZkZ l.prog w mg base Zcw ZK ZdG ZfF
 have ZaW:=Zky _ w mg base ZK Zap ZeZ
 have Zc8:=ZlL _ w mg base CA Zcw ZK Zje ZdN Za Zd3 ZaP Zh Zm Zax Zai Z6 Zaa ZcH Zao Zbb ZaW ZgJ
 have Za2:=ZlH _ w mg base CA Zd4 ZM Za Za7 Zbe Z5 ZbD Zbh ZgF
 have Zcu:=ZkT l.prog w mg base CA Zj ZI ZC Zfz
 have ZcM:=Zll l.prog w mg base CA  Zf1
 have Zco:=ZkK _ w mg base CA Zg Zf Zs Za0 ZaR ZB Zdf Zfq
 have ZbB:=Zj9 l.prog w mg base CA  Zeh
 have Zcc:=Zkv l.prog w mg base CA  ZeW
 have ZcO:=Zlo l.prog w mg base CA  Zf4
 have Zdu:=Zmc l.prog w mg base CA  ZhB
 have Zdv:=Zmd l.prog w mg base CA  ZhC
 have ZbC:=Zka _ w mg base CA Zc3 Zb7 Zt ZaU Zar Zac ZN Zan ZX Zei
 have Zcd:=Zkw _ w mg base CA ZcQ ZbA ZT Zau Z4 Z2 Zcy ZeX
 have ZcP:=Zlp _ w mg base CA ZdN ZcQ ZY ZaP Zau Zas Zao Z2 Zo Zf5
 have Zc5:=ZlI _ w mg base CA ZaA ZL Zw ZdN Zec Zdg ZM Za ZaP Zbk ZaG Zaw ZaL Z5 Zad Zao ZaD Zaf ZaI Zo Za2 ZgG
 have ZcN:=Zlm _ w mg base CA ZL Zw Zdt Zdg Zeb ZfS Ze ZF Za ZaG Zbj Zc2 ZO Zbp Z3 Zaz Z6 Z7 Zca ZbE Zaf ZaC Zo Zf2
 have Zcv:=ZkU _ w mg base CA ZL Zw Zdt Zec Zdg Zeb Zff Zfj Zr Ze Zj Za Zbk ZaG Zbj ZcF ZO Zbq ZI ZR ZC Z6 Z7 Zcb Zbi ZaD Zaf ZaC Zo ZfA
 have Zcp:=ZkL _ w mg base CA ZcQ ZbA Zg Zf Zd Zs Za Zau ZbU ZaK Zbo ZaZ ZaQ ZB Zat Zh Zde ZcG Z2 ZaH Zb9 Zo Zbv Zfr
 have Zc9:=ZlM _ w mg base CA ZM Zj ZF Zs Zt ZT ZY Za Zce Zaw ZbN ZbZ ZbI Zbc Zbr Zb1 ZcB Zaa Za2 Zcu ZcM Zco ZbB Zcc ZcO Zdu ZgK
 have Zc7:=ZlK _ w mg base CA ZaA ZL Zw ZM Zj ZF Zs Zt ZT ZY Za Zce Zcg ZbO Zb0 ZbJ Zbd Zbs Zb2 ZcC Zaa Zdv ZbC Zcd ZcP Zc5 ZcN Zcv Zcp ZgI
 have Zn:=Zkr l.prog w mg base CA ZK ZZ Zr Zb ZG ZeS
 have Zdb:=ZlP _ w mg base CA Zcw ZK ZZ ZeJ Zkn Zr Zb ZeF ZG Zaj Zv ZW ZQ ZP Zc8 ZgN
 have Zda:=ZlO _ w mg base CA Zw ZK ZZ Zgk Za Zb Zk Zch Zaj Zz Zc6 Zn ZgM
 have Zag:=Zjh _ w mg base CA ZaA ZL Zw ZZ Zx Zr ZdJ Zfk Za Zb Zcj Zci ZG Zv ZW ZQ ZP Za5 Zc9 Zc7 Zd8
 have Zdd:=ZlR _ w mg base CA ZK ZZ Z0 Zb Zk Z9 Zee Zef hc_Rail_turn Zn Zag ZgP
 have Zbm:=Zme _ w mg base CA ZZ Zx ZeE Zb Z9 Za5 Zag ZhD
 have Za8:=ZkO l.prog w mg base CA ZZ Z0 Zb ZP Zfu
 have ZcL:=Zlj _ w mg base CA ZK ZZ Za Zb Zk ZbV ZcI Zn ZfZ
 have Zdc:=ZlQ _ w mg base CA ZK ZZ Z0 Zb Zk ZW Zn ZgO
 have ZcJ:=Zlh _ w mg base CA ZK ZZ Z0 Zb Zk ZQ Zn ZfX
 have Za3:=ZlN l.prog w mg base CA ZZ Z0 Zb Zv ZgL
 have ZcK:=Zli l.prog w mg base CA ZZ Zr Zb Zv ZfY
 have Zcs:=ZkP _ w mg base CA ZK ZZ Za Zb Zk ZbK Zcq Zn Zfv
 have Zc:=ZlV l.prog w mg base Zr ZgT
 have ZaF:=ZlZ l.prog w mg base Zx Zr ZlC ZgX
 have Za9:=ZkW _ w mg base Zx Zc ZfC
 have Zba:=ZkX l.prog w mg base Zr ZdJ ZfD
 have Zb3:=ZlW l.prog w mg base Zx Zr ZdJ ZgU
 have Zcx:=Zmf _ w mg base Zx Zr ZhN ZaF Zba Zb3 ZhE
 have Zb4:=ZlX _ w mg base CA Zcw ZK ZZ Zx Zb ZaY Zcm Zee Zef Zdd Zbm Zc ZgV
 have Zb5:=ZlY _ w mg base CA ZK ZZ Zx Z0 Zr ZdJ ZeL Zb Zcl Zdc ZgW
 exact(ZmF _ w mg base CA Zw Zcw ZK ZZ Zgk Zx Z0 Zr Zb ZeG Zck ZbX ZaX ZaO ZbY ZbM ZbW Zee Zef Zdb Zda Za8 ZcL ZcJ Za3 ZcK Zcs Zc Za9 Zcx Zb4 Zb5 Zkf).1
end
def tupI_VOTES {t0 t1 t2:Tok}(h:K.lookup a=some ⟨.type "tuple",od,.seq #[.int 1 t0,.int 3 t1,.int 5 t2] n,sl⟩):zW K a [1,3,5]:=zW.of h (aM rfl) (.cons ⟨_,rfl⟩ (.cons ⟨_,rfl⟩ (.cons ⟨_,rfl⟩ .nil)))
abbrev csI {x_post x_count x_free x_speaks x_reads x_intail x_flag x_settles x_rests x_off x_reader x_streak x_rtail x_stail:Addr}:Cs:=⟨x_post,x_count,x_free,x_speaks,x_reads,x_intail,x_flag,x_settles,x_rests,x_off,x_reader,x_streak,x_rtail,x_stail⟩
theorem walk {l:W.OpenLaw}{q:Program}{loose:List Str}{XP:(Str->Option Value)->Heap->Prop}{YP:World->Heap->Prop}{d:DefRec}{K:Params->W.Frag}{tc:List (Addr×Addr)}(htc:tc= [(969,965)])(hn:l.most=some 63)(hdf:d.params.defaults= [])
  (hY:∀(w:World)(h:Heap),YP w h->(K w.params).In h/\∀q∈tc,(K w.params).lookup q.2=none/\h.get? q.2=some (W.tabObj #[])/\W.codeHdIn (K w.params) q.1 q.2=true)
  (F :∀(w:World)(mg:Str->Option Value)(fa:Addr)(h:Heap),(K w.params).In h->h.Ns mainGlobals mg->mg d.name=some (.ref fa)->
   ∃fd:FuncData,(∀(s:Shared)(u:Value),BindsTo s fd ⟨[u], []⟩ [("_law_script",u)])/\∀base:Heap,(K w.params).In base->base.Ns mainGlobals mg->fX l.prog w (K w.params) mg base CX0 15 fa fd ["_law_script"] (pB (K w.params))) :
  W.WalkO q loose XP YP l.row.toRowW d [] (fun f vs=>PySem.call f vs):=by
 subst htc
 exact L2.walk_ofT (n:=63) (k:=15) (x:="_law_script") (CX:=fun _=>CX0) (sp:=fun w=>pB (K w.params)) hn (by decide) hdf ⟨rfl,by decide,by decide⟩ hY F (fun _ H a ns hl hO hS=>⟨a,ns,rfl,hS,hl,⟨#[],hO.1 965 (by simp),trivial,.inl rfl⟩,fun _=>rfl⟩) fun _ _ _ _ _ z=>z
end My
open PySem PySem.W PyProof.Rows
set_option maxRecDepth 100000 in
set_option maxHeartbeats 0 in
theorem PySem.Challenge.cw_bitrail_k92_whole_row_of_the_rail_holds : PySem.Challenge.rw_bitrail_k92_whole_row_of_the_rail.Holds := by
 w_on;o_law
 refine holds_open (q:=Hd.qv) (loose:=Hd.loose) (XP:=XL Hd.qv []) (YP:=InK Hd.KA) (d:=Hd.dl) (kwd:=[]) Hd.left (InK.of Hd.K_as) InK.keeps (fun s e=>xl_of s e) XL.keeps Hd.dl_1 Hd.dl_2 rfl (fun s _=>recFacts_nil rfl) rfl
  (by assumption) (by decide +kernel) ⟨rfl,rfl,rfl,rfl,rfl,by decide +kernel⟩ ?hw ?hc
 case hw=>w_witness2
 refine My.walk (l:=PySem.Challenge.rw_bitrail_k92_whole_row_of_the_rail) (K:=Hd.K) (tc:=Hd.tc) rfl rfl rfl Hd.tabs ?F
 k_fill
 case F=>
  intro w mg fa h KX G hmg
  refine' My.all_mk w mg (CA:=My.csI) ?m0 ?m1 ?m2 ?m3 ?m4 ?m5 ?m6 ?m7 ?m8 ?m9 ?m10 ?m11 ?m12 ?m13 ?m14 ?m15 ?m16 ?m17 ?m18 ?m19 ?m20 ?m21 ?m22 ?m23 ?m24 ?m25 ?m26 ?m27 ?m28 ?m29 ?m30 ?m31 ?m32 ?m33 ?m34 ?m35 ?m36 ?m37 ?m38 ?m39 ?m40 ?m41 ?m42 ?m43 ?m44 ?m45 ?m46 ?m47 ?m48 ?m49 ?m50 ?m51 ?m52 ?m53 ?m54 ?m55 ?m56 ?m57 ?m58 ?m59 ?m60 ?m61 ?m62 ?m63 ?m64 ?m65 ?m66 ?m67 ?m68 ?m69 ?m70 ?m71 ?m72 ?m73 ?m74 ?m75 ?m76 ?m77 ?m78 ?m79 ?m80 ?m81 ?m82 ?m83 ?m84 ?m85 ?m86 ?m87 ?m88 ?m89 ?m90 ?m91 ?m92 ?m93 ?m94 ?m95 ?m96 ?m97 ?m98 ?m99 ?m100 ?m101 ?m102 ?m103 ?m104 ?m105 ?m106 ?m107 ?m108 ?m109 ?m110 ?m111 ?m112 ?m113 ?m114 ?m115 ?m116 ?m117 ?m118 ?m119 ?m120 ?m121 ?m122 ?m123 ?m124 ?m125 ?m126 ?m127 ?m128 ?m129 ?m130 ?m131 ?m132 ?m133 ?m134 ?m135 ?m136 ?m137 ?m138 ?m139 ?m140 ?m141 ?m142 ?m143 ?m144 ?m145 ?m146 ?m147 ?m148 ?m149 ?m150 ?m151 ?m152 ?m153 ?m154 ?m155 ?m156 ?m157 ?m158 ?m159 ?m160 ?m161 ?m162 ?m163 ?m164 ?m165 ?m166 ?m167 ?m168 ?m169 ?m170 ?m171 ?m172 ?m173 ?m174 ?m175 ?m176 ?m177 ?m178 ?m179 hmg ?f0 ?f5 ?f6 ?f7 ?f8 ?f9 ?f10 ?f11 ?f12 ?f13 ?f14 ?f15 ?f16 ?f17 ?f18 ?f39 ?f53 ?f56 ?f58 ?f59 ?f60 ?f61 ?f62 ?f63 ?f96 ?f97 ?f98 ?f99 ?f100 ?f101 ?f102 ?f103 ?f104 ?f1 ?f2 ?f3 ?f4 ?f19 ?f20 ?f21 ?f22 ?f23 ?f24 ?f25 ?f26 ?f27 ?f28 ?f29 ?f30 ?f31 ?f32 ?f33 ?f34 ?f35 ?f36 ?f37 ?f38 ?f40 ?f41 ?f42 ?f43 ?f44 ?f45 ?f46 ?f47 ?f48 ?f49 ?f50 ?f51 ?f52 ?f54 ?f55 ?f57 ?f64 ?f65 ?f66 ?f67 ?f68 ?f69 ?f70 ?f71 ?f72 ?f73 ?f74 ?f75 ?f76 ?f77 ?f78 ?f79 ?f80 ?f81 ?f82 ?f83 ?f84 ?f85 ?f86 ?f87 ?f88 ?f89 ?f90 ?f91 ?f92 ?f93 ?f94 ?f95
  all_goals try dsimp only[My.csI]
  case m0 | m1 | m2 | m3 | m4 | m5 | m6 | m7 | m8 | m9 | m10 | m11 | m12 | m13 | m14 | m15 | m16 | m17 | m18 | m19 | m20 | m21 | m22 | m23 | m24 | m25 | m26 | m27 | m28 | m29 | m30 | m31 | m32 | m33 | m34 | m35 | m36 | m37 | m38 | m39 | m40 | m41 | m42 | m43=>refine' PySem.W.mg_of KX G ?_;k_is
  case m44 | m45 | m46 | m47 | m48 | m49 | m50 | m51 | m52 | m53=>refine' PySem.W.mg_none_of KX G ?_;k_is
  case f0 | f5 | f6 | f7 | f8 | f9 | f10 | f11 | f12 | f13 | f14 | f15 | f16 | f17 | f18 | f39 | f53 | f56 | f58 | f59 | f60 | f61 | f62 | f63 | f96 | f97 | f98 | f99 | f100 | f101 | f102 | f103 | f104=>(refine' My.gf_mk KX G ?a ?l ?c ?k;(case a=>show _=_;k_is);(case l=>show _=_;k_is);(case c=>show _=_;k_is);(case k=>show _=_;k_is))
  case f87=>(refine' My.mfc_mk ?a ?l ?c ?k;(case a=>show _=_;k_is);(case l=>show _=_;k_is);(case c=>show _=_;k_is);(case k=>show _=_;k_is))
  case f1 | f2 | f3 | f4 | f19 | f20 | f21 | f22 | f23 | f24 | f25 | f26 | f27 | f28 | f29 | f30 | f31 | f32 | f33 | f34 | f35 | f36 | f37 | f38 | f40 | f41 | f42 | f43 | f44 | f45 | f46 | f47 | f48 | f49 | f50 | f51 | f52 | f54 | f55 | f57 | f64 | f65 | f66 | f67 | f68 | f69 | f70 | f71 | f72 | f73 | f74 | f75 | f76 | f77 | f78 | f79 | f80 | f81 | f82 | f83 | f84 | f85 | f86 | f88 | f89 | f90 | f91 | f92 | f93 | f94 | f95=>(refine' My.mf_mk ?a ?l ?c ?k;(case a=>show _=_;k_is);(case l=>show _=_;k_is);(case c=>show _=_;k_is);(case k=>show _=_;k_is))
  case m54=>(refine' My.tupI_VOTES ?a;(case a=>k_is))
  case m55=>(exact⟨_,_,_,_,rfl⟩)
  case m56 | m57=>(refine⟨?_,?_,?_,?_,?_⟩;(refine⟨?_,?_,?_,?_⟩ <;> k_is);all_goals (show PySem.W.findIn _ _ _=_;k_is))
  case m58 | m59 | m60 | m61 | m62 | m63 | m64 | m65 | m66 | m67 | m68 | m69 | m70 | m71 | m72 | m73 | m74 | m75 | m76 | m77 | m78 | m79 | m80 | m81 | m82 | m83 | m84 | m85=>(refine⟨?_,?_,?_,?_⟩ <;> k_is)
  case m86 | m87 | m88 | m89 | m90 | m91 | m92 | m93 | m94 | m95 | m96 | m97 | m98 | m99 | m100 | m101 | m102 | m103 | m104 | m105 | m106 | m107 | m108 | m109 | m110 | m111 | m112 | m113 | m114 | m115 | m116 | m117 | m118 | m119 | m120 | m121 | m122 | m123 | m124 | m125 | m126 | m127 | m128 | m129 | m130 | m131 | m132 | m133 | m134 | m135 | m136 | m137 | m138 | m139 | m140 | m141 | m142 | m143 | m144 | m145 | m146 | m147=>(refine⟨?_,?_,?_⟩ <;> k_is)
  case m148=>(refine' My.BmK.bm KX G ?_;(refine⟨?_,by decide,by decide, #[],?_⟩ <;> k_is))
  case m149 | m150 | m151 | m152 | m153 | m154 | m155 | m156 | m157 | m158 | m159 | m160 | m161 | m162 | m163 | m164 | m165 | m166 | m167 | m168 | m169 | m170 | m171 | m172 | m173 | m174 | m175 | m176 | m177 | m178=>(show PySem.W.findIn _ _ _=_;k_is)
  case m179=>kernel_rfl
#print axioms PySem.Challenge.cw_bitrail_k92_whole_row_of_the_rail_holds
