import PyProof.Rows.All
import Wide.All
import OpenK.AllK
import Wide.FinOn
import PyProof.EqAt
import PyProof.EqKinds
import PyProof.TupleCall
import Lean
import PySem.Challenge.RW_bitrail_k85_whole_things_over_the_desk
set_option Elab.async false
set_option compiler.extract_closed false
set_option genSizeOf false
noncomputable section
def Va:=@Ne.symm
def Ya:=@List.length_map
def Yb:=@Nat.le_refl
def Yc:=@List.length_append
def Yd:=@List.getElem?_eq_getElem
def Ye:=@List.getElem?_eq_some_iff
def Yf:=@List.take_succ_eq_append_getElem
def Yg:=@List.take_of_length_le
def Yh:=@List.map_append
def Yi:=@List.length_take
def Yj:=@List.getD_eq_getElem?_getD
def Yk:=@List.length_cons
def Yl:=@Nat.lt_of_lt_of_le
def Ym:=@decide_eq_true
def Yn:=@List.getElem?_map
def Yo:=@List.append_assoc
def Yp:=@List.mem_cons_of_mem
def Yq:=@PySem.Heap.get?_push_of_some
def Yr:=@decide_eq_false
def Ys:=@Bool.false_ne_true
def Yt:=@List.mem_cons_self
def Yu:=@Option.some.inj
def Yv:=@List.append_nil
def Yw:=@List.mem_singleton
def Yx:=@PySem.Heap.lt_size
def Yy:=@List.length_singleton
def Yz:=@List.map_cons
def YA:=@List.length_replicate
def YB:=@Nat.pow_le_pow_right
def YC:=@List.getElem_mem
def YD:=@PySem.Heap.get?_push_size
def YE:=@List.size_toArray
def YF:=@List.mem_of_getElem?
def YG:=@Int.eq_ofNat_of_zero_le
def YH:=@List.getElem?_append_right
def YI:=@List.length_range
def YJ:=@congrArg
def YK:=@Nat.le_trans
def YL:=@List.mem_cons
def YM:=@List.mem_append
def YN:=@List.getElem?_append_left
def YO:=@Decidable.byContradiction
def YQ:=@Nat.ne_of_lt
def YR:=@of_decide_eq_true
def YS:=@List.mem_map
def YT:=@List.mem_append_right
def YU:=@Option.map_eq_some_iff
def YV:=@List.nodup_cons
def YW:=@Nat.zero_le
def YX:=@List.foldl_cons
def YY:=@List.mem_of_mem_take
def YZ:=@PySem.wpAny_bind
def Y0:=@List.take_append_of_le_length
def Y1:=@Nat.lt_irrefl
def Y2:=@Int.toNat_natCast
def Y3:=@PySem.PassesOwn.never
def Y4:=@PySem.wpAny_mono
def Y5:=@PySem.mem_of_lookup
def Y6:=@Nat.testBit_eq_decide_div_mod_eq
def Y7:=@List.foldl_append
def Y8:=@List.getElem?_set
def Y9:=@List.getElem?_set_ne
def Xa:=@List.replicate_succ'
def Xb:=@Nat.testBit_lt_two_pow
def Xc:=@List.all_eq_true
def Xd:=@PySem.wpAny_pure
def Xe:=@PySem.wpAny_Call_Name_kw
def Xf:=@List.replicate_succ
def Xg:=@List.head?_append
def Xh:=@Nat.le_of_ble_eq_true
def Xi:=@List.length_set
def Xj:=@PySem.wpAny_truthy_bool
def Xk:=@Nat.lt_of_le_of_lt
def Xl:=@List.length_drop
def Xm:=@PyProof.Rows.callWith_type1
def Xn:=@Nat.xor_assoc
def Xo:=@beq_eq_false_iff_ne
def Xp:=@Nat.min_eq_left
def Xq:=@List.drop_eq_getElem_cons
def Xr:=@Nat.lt_succ_self
def Xu:=@List.getElem?_take_of_lt
def Xv:=@List.flatten_cons
def Xw:=@List.filter_cons_of_neg
def Xx:=@List.getElem?_range
def Xy:=@List.length_reverse
def Xz:=@Nat.xor_zero
def XA:=@List.lookup_cons
def XB:=@List.not_mem_nil
def XC:=@List.mem_reverse
def XD:=@List.nodup_nil
def XE:=@List.map_map
def XF:=@Nat.le_of_lt
def XG:=@List.mem_append_left
def XH:=@Nat.pow_succ
def XI:=@Array.length_toList
def XJ:=@Bool.and_eq_true
def XM:=@Nat.shiftLeft_eq
def XN:=@Nat.testBit_succ
def XO:=@List.filter_cons_of_pos
def XQ:=@List.eq_nil_of_length_eq_zero
def XR:=@List.drop_append_of_le_length
def XS:=@Int.zero_add
def XT:=@List.drop_of_length_le
def XU:=@List.all_cons
def XV:=@List.mem_iff_getElem?
def XW:=@List.mem_of_mem_head?
def XX:=@PySem.wpAny_passesOwn
def XY:=@PySem.W.methodCall_KW
def XZ:=@Nat.le_succ
def X0:=@Nat.mod_two_eq_zero_or_one
def X1:=@Int.le_refl
def X2:=@List.mem_of_mem_drop
def X3:=@List.getElem?_mapIdx
def X4:=@List.getElem_map
def X5:=@List.length_pos_iff
def X6:=@List.getElem_of_mem
def X7:=@List.map_congr_left
def X8:=@Bool.eq_iff_iff
def X9:=@Nat.testBit_xor
def Ja:=@List.find?_cons
def Jb:=@Nat.not_lt_zero
def Jc:=@List.range_succ
def Jd:=@decide_eq_true_iff
def Je:=@List.nodup_append
def Jf:=@Nat.xor_comm
def Jg:=@Nat.zero_xor
def Jh:=@List.filter_eq_nil_iff
def Ji:=@List.take_append_drop
def Jj:=@beq_iff_eq
def Jk:=@List.any_cons
def Jl:=@List.cons.inj
def Jm:=@PySem.W.callWith_K
def Jo:=@List.of_mem_zip
def Jp:=@Nat.div_eq_of_lt_le
def Jq:=@List.replicate_zero
def Jr:=@PySem.wpAny_execs_cons
def Js:=@PySem.call_meets
def Jt:=@Nat.lt_trans
def Ju:=@Nat.sub_self
def Jv:=@List.mem_range
def Jw:=@Int.emod_lt_of_pos
def Jx:=@List.filter_append
def Jy:=@PySem.wpAny_execs_nil
def Jz:=@PySem.codeAny_mono
def JA:=@PySem.Calls.spliced_cons
namespace Hd
open PySem PyProof.Rows
open PySem.W PySem.Calls
def c8A (t:Thread):(endAt 0 t).isSome=through t:=by
 obtain⟨b,c,pos,d⟩:=t;cases d with
 | nil=>cases b with
  |pure f=>cases f <;> rfl
  |_=>rfl
 |cons a l=>cases b <;> rfl
theorem sZ {tb:String->Option Builtin}{p:Program}{w:World}{m:Nat}{ann:Option Value}:∀{n:Nat}{s s':Shared}{t:Thread}{f:Flow}{c:Code}{x:Pos},
  segRun tb p w m ann 0 n s t=some (f,s',c,x)->topRun tb p w m ann n s t=some s'
 |0,_,_,_,_,_,_,h=>by simp[segRun]at h
 | n + 1,s,s',t,f,c,x,h=>by
  unfold segRun at h;unfold topRun;rw[<-c8A t];cases he:endAt 0 t with
  |some g=>rw[he]at h;cases h;rfl
  | none=>
   rw[he]at h;dsimp only[Option.isSome]at h ⊢;cases k:stepOk m ann t with
   |false=>rw[k]at h;cases h
   | true=>
    rw[k]at h;dsimp only at h ⊢;cases g:step (denote tb) p w s t with
    |halt o z=>rw[g]at h;cases h
    |go z t'=>rw[g]at h;exact sZ h
def a5M (T:BT)(n a:Nat):Option Obj:=match Nat.blt a n with
 |true=>(match T.get a with | some o=>alive o | none=>none)
 |false=>none
def a7V {T:BT}{n a:Nat}{life:Life}{o:Obj}(h:a5M T n a=some o):(absHeap T n life).get? a=some o:=by
 unfold a5M at h;cases c:Nat.blt a n with
 |false=>rw[c]at h;cases h
 | true=>
  rw[c]at h;cases g:T.get a with
  |none=>rw[g]at h;cases h
  | some x=>
   rw[g]at h;rw[abs_get (Xh c) g];exact h
theorem vW {T:BT}{n:Nat}{life:Life}:∀{as:List Addr}{os:List Obj},as.map (a5M T n)=os.map some->as.map (absHeap T n life).get? =os.map some
 |[], [],_=>rfl
 |[],_::_,h=>by cases h
 |_::_, [],h=>by cases h
 | a::as,o::os,h=>by
  rw[Yz,Yz]at h;injection h with h1 h2
  rw[Yz,Yz,vW h2];exact YJ (·::os.map some) (a7V h1)
noncomputable abbrev look (p q:Program)(loose:List Str)(Xt:Shared->Bool)(as:List Addr)(h:Heap)(s:SharedT):=
 (staticsOk (importedModules p.main.body) h s.abs.heap && namesBound p s.abs.heap && gensDone s.abs && laidKept h s.abs.heap,openSeen q loose (importedModules p.main.body) Xt true s.abs,as.map (a5M s.tree s.n))
theorem a3J {p q:Program}{loose:List Str}{i:Shared->Bool}{as:List Addr}{a:World->List Obj}{N m:Nat}{ann:Option Value}(S:World->OsState->SharedT)
  (op:∀w:World,(fencedOpening treeTable p w N).map (λs=>(s.heap,s.gens,s.drawn,s.toks))=some (boot_heap w.params,Array.mk [],boot_drawn,boot_toks))
  (g : ∀ w : World, ((boot_heap w.params).isNs mainGlobals, (boot_heap w.params).objs.size, (boot_heap w.params).nsMap mainGlobals "__annotations__") = (true, m, ann))
  (abs:∀w os,(S w os).abs=⟨boot_heap w.params,Array.mk [],boot_drawn,boot_toks,os⟩)
  (whole:∀w:World,(λos=>(segRunT treeTable p w m ann 0 N (S w os) (topStub p)).map λr=>look p q loose i as (boot_heap w.params) r.2.1)=λ_=>some (true,openGood q loose,(a w).map some)):LeftO p q loose i (λs=>as.map s.heap.get?) (λw=>(a w).map some) N:=λw=>by
 obtain⟨⟨h,j,d,k,os⟩,e,l⟩:=YU.mp (op w);obtain⟨rfl,rfl,rfl,rfl⟩:h=boot_heap w.params/\j=Array.mk []/\d=boot_drawn/\k=boot_toks:=by simpa using l
 obtain⟨n,o,u⟩:_/\_/\_:=by simpa only[Prod.mk.injEq] using g w
 obtain⟨⟨f,b,c,x⟩,v,y⟩:=YU.mp (congrFun (whole w) os);obtain⟨l1,l2,l3⟩:_/\_/\_:=by simpa only[look,Prod.mk.injEq] using y
 have z:as.map b.abs.heap.get? =(a w).map some:=vW l3;have r:=sZ (segRun_of v);rw[abs]at r;have t:topFrom treeTable p w N ⟨boot_heap w.params,Array.mk [],boot_drawn,boot_toks,os⟩=some b.abs:=by
  unfold topFrom;dsimp only;rw[n,o,u,r];show (match staticsOk (importedModules p.main.body) (boot_heap w.params) b.abs.heap && namesBound p b.abs.heap && gensDone b.abs && laidKept (boot_heap w.params) b.abs.heap with | true=>_ | false=>_)=_;rw[l1]
 unfold openEnds;rw[e];refine(YJ (Option.map _) t).trans ?_;exact YJ some (by show (_,as.map b.abs.heap.get?)=(_,(a w).map some);rw[l2,z])
abbrev r (a:Addr):Value:= .ref a
abbrev s (x:Str)(t:Tok):Value:= .str x t
abbrev i (x:Int)(t:Tok):Value:= .int x t
abbrev t (x:String):Value:= .type x
abbrev b (x:String):Value:= .builtin x
abbrev tp (l:List Value):Obj:=⟨.type "tuple",none,.seq l.toArray 0, #[]⟩
abbrev co (l:List Value):Obj:=⟨.type "code",none,.fields l.toArray, #[]⟩
abbrev fi (c:Value)(l:List Value):Obj:=⟨c,none,.fields l.toArray, #[]⟩
abbrev di (c:Value)(l:List DictEntry)(n:Nat):Obj:=⟨c,none,.dict l.toArray n, #[]⟩
abbrev e (P:Params)(x:Str)(t:Tok)(v:Value):DictEntry:=⟨PyData.keyHash P x,.str x t,v⟩
abbrev cl (c:ClassData)(l:List (Option Value)):Obj:=⟨.type "type",none,.cls c,l.toArray⟩
abbrev o (v:Value):Option Value:=some v
abbrev sf (p:Program)(k:Nat):Stmt:=p.main.body.getD k default
def sub (k:Nat):Stmt->Stmt
 |.ClassDef _ _ _ b _ _ _ _ _ _ _=>b.getD k default
 |x=>x
def fn (q:Str)(d kw doc md:Value)(c bl:Addr):Stmt->Obj
 |.FunctionDef n a b _ _ _ sc _ _ _=>⟨.type "function",none,.func { name:=n,qualname:=q,params:=a,body:= .stmts b,scope:=sc,globals:=3,closure:=[],defaults:=d,kwdefaults:=kw,doc:=doc,pyModule:=md,code:= .ref c,builtins:=bl }, #[]⟩
 |_=>default
def dr:Stmt->DefRec
 |.FunctionDef n a b _ _ _ sc _ _ x=>⟨n,a,b,sc,x⟩
 |_=>⟨"",⟨[], [],none, [], [],none, []⟩, [],default,default⟩
noncomputable abbrev cc (nm qn:Str)(t l a fl x tb:Nat)(d v f:Value)(z n t':Nat):Obj:=co [s nm t,s qn (t+1),s "/claim/cut.py" (t+2),i l 0,i a 0,i 0 0,i 0 0,i fl 0,r x,.bool true,i 181 0,r tb,d,v,f,r z,i n 0,i l 0,s "/claim/cut.py" t']
abbrev fo (q md:Str)(t:Tok)(c:Addr)(x:Stmt):Obj:=fn q .none .none .none (s md t) c 0 x
noncomputable def tree (P:Params):BT:=(.node (boot_o_0 P) (.node (boot_o_1 P) (.node (boot_o_3 P) (.node (boot_o_7 P) .nil .nil) .nil) (.node (boot_o_5 P) (.node (boot_o_9 P) .nil .nil) .nil)) (.node (boot_o_2 P) (.node (boot_o_4 P) (.node (boot_o_8 P) .nil .nil) .nil) (.node (boot_o_6 P) (.node (boot_o_10 P) .nil .nil) .nil)))
noncomputable def S (w:World)(os:OsState):SharedT:=⟨tree w.params,11,(boot_heap w.params).life,Array.mk [],boot_drawn,boot_toks,os⟩
def c6C (w:World)(a:OsState):(S w a).abs=⟨boot_heap w.params,Array.mk [],boot_drawn,boot_toks,a⟩:=by kernel_rfl
set_option maxRecDepth 100000
noncomputable section
abbrev p:Program:=PySem.Challenge.pw_bitrail_k85_whole_things_over_the_desk
noncomputable abbrev cA (nm qn:Str)(t l a x n:Nat):Obj:=cc nm qn t l a 3 x (x+1) .none (r (x+2)) (r (x+3)) (x+4) n (n+1)
noncomputable abbrev cB (nm qn:Str)(t l a x n:Nat):Obj:=cc nm qn t l a 3 x (x+1) .none .none .none (x+2) n (n+1)
abbrev sG (j:Nat):Stmt:=sf p j
abbrev sB (k j:Nat):Stmt:=sub k (sf p j)
noncomputable abbrev cO (n:Str)(a d q u:Nat):Obj:=cl { name:=n,bases:=[t "object"],mro:=[r a,t "object"],ns:=d,qualname:=n,hasDict:=true,subclasses:=[] } [.none,.none,o (s n q),o (s n u),o (b "object.__new__"),o (.bool true)]
noncomputable abbrev cX (n:Str)(z a d g q u:Nat):Obj:=cl { name:=n,bases:=[r z],mro:=[r a,r z,t "ValueError",t "Exception",t "BaseException",t "object"],ns:=d,qualname:=n,hasDict:=true,subclasses:=[] } [o (r g),.none,o (s n q),o (s n u),o (b "ValueError.__new__"),o (.bool true)]
abbrev eL (P:Params)(q l u:Nat):DictEntry:=e P "__firstlineno__" q (i l u)
abbrev eS (P:Params)(q a:Nat):DictEntry:=e P "__static_attributes__" q (r a)
abbrev eD (P:Params)(q:Nat):DictEntry:=e P "__doc__" q .none
abbrev eM (P:Params)(q:Nat)(v:Value):DictEntry:=e P "__module__" q v
abbrev er (P:Params)(x:Str)(q a:Nat):DictEntry:=e P x q (r a)
abbrev ja (q:Str)(c:Addr)(x:Stmt):Obj:=fo q "bitrail.errors" 194 c x
abbrev ma:Value:=s "bitrail.errors" 194
abbrev jb (q:Str)(c:Addr)(x:Stmt):Obj:=fo q "bitrail.bits" 351 c x
abbrev jc (q:Str)(c:Addr)(x:Stmt):Obj:=fo q "bitrail.ears" 382 c x
abbrev jd (q:Str)(c:Addr)(x:Stmt):Obj:=fo q "bitrail.things" 394 c x
abbrev je (q:Str)(c:Addr)(x:Stmt):Obj:=fo q "bitrail.joiners" 425 c x
abbrev me:Value:=s "bitrail.joiners" 425
abbrev jf (q:Str)(c:Addr)(x:Stmt):Obj:=fo q "bitrail.keys" 535 c x
abbrev jg (q:Str)(c:Addr)(x:Stmt):Obj:=fo q "bitrail.checks" 548 c x
abbrev jh (q:Str)(c:Addr)(x:Stmt):Obj:=fo q "bitrail.names" 568 c x
abbrev ji (q:Str)(c:Addr)(x:Stmt):Obj:=fo q "bitrail.putting" 589 c x
abbrev mi:Value:=s "bitrail.putting" 589
abbrev jj (q:Str)(c:Addr)(x:Stmt):Obj:=fo q "bitrail.frames" 654 c x
abbrev jk (q:Str)(c:Addr)(x:Stmt):Obj:=fo q "bitrail.counts" 712 c x
abbrev mk:Value:=s "bitrail.counts" 712
abbrev jl (q:Str)(c:Addr)(x:Stmt):Obj:=fo q "bitrail.readers" 801 c x
abbrev ml:Value:=s "bitrail.readers" 801
abbrev jm (q:Str)(c:Addr)(x:Stmt):Obj:=fo q "bitrail.tails" 863 c x
abbrev mm:Value:=s "bitrail.tails" 863
abbrev jn (q:Str)(c:Addr)(x:Stmt):Obj:=fo q "bitrail.stances" 990 c x
abbrev mn:Value:=s "bitrail.stances" 990
abbrev jo (q:Str)(c:Addr)(x:Stmt):Obj:=fo q "bitrail.posts" 1469 c x
abbrev mo:Value:=s "bitrail.posts" 1469
abbrev jp (q:Str)(c:Addr)(x:Stmt):Obj:=fo q "bitrail.rails" 1626 c x
abbrev mp:Value:=s "bitrail.rails" 1626
abbrev jq (q:Str)(c:Addr)(x:Stmt):Obj:=fo q "bitrail.desk" 1817 c x
abbrev mq:Value:=s "bitrail.desk" 1817
abbrev jr (q:Str)(c:Addr)(x:Stmt):Obj:=fo q "law_bitrail_k85_whole_things_over_the_desk" 2130 c x
noncomputable def K (P : Params) : Frag := (nat_lit 2,di .none [] 0)::(nat_lit 3,di (t "dict") [e P "__name__" 165 (s "law_bitrail_k85_whole_things_over_the_desk" 2130),eD P 166,e P "__package__" 167 .none,e P "__loader__" 168 (b "__main__.__loader__#opaque"),e P "__spec__" 169 .none,er P "__annotations__" 170 6,er P "__builtins__" 171 4,e P "__file__" 173 (s "/claim/cut.py" 172),e P "__cached__" 174 .none,er P "_wall" 193 21,er P "RailError" 213 31,er P "NoBits" 229 44,er P "NoName" 245 56,er P "NoKey" 261 68,er P "NoFrame" 277 80,er P "NoPost" 293 92,er P "NoThing" 309 104,er P "NoRail" 325 116,er P "NoRow" 350 135,e P "HIGHEST_BYTE" 354 (i 255 353),er P "bits_of" 360 142,er P "number_of" 369 149,er P "drawn" 375 154,er P "are_bytes" 381 159,er P "ear" 393 166,e P "PIECE_BYTES" 397 (i 5 396),e P "MOST_BYTES_things" 399 (i 75 398),er P "cut" 405 171,er P "check_thing" 413 178,er P "piece_of" 424 185,er P "check_piece" 435 192,er P "is_size" 444 199,er P "Joiner" 534 265,er P "divided" 547 276,e P "KEY" 551 (i 64647 550),e P "CHECK_BITS" 553 (i 15 552),er P "rest_of" 560 283,er P "check_of" 567 290,e P "NAME_BITS" 571 (i 8 570),e P "HIGHEST_NAME" 573 (i 255 572),er P "is_name" 580 297,er P "is_wanted" 588 304,e P "MOST_ALIKE" 592 (i 5 591),er P "Streak" 643 342,er P "put_in" 653 353,e P "SIZE_AT" 657 (i 9 656),e P "SIZE_BITS" 659 (i 3 658),e P "DATA_AT" 661 (i 12 660),e P "BYTE_BITS" 663 (i 8 662),e P "MOST_BYTES_frames" 665 (i 7 664),er P "check_frame" 673 360,er P "frame_bits" 683 367,er P "is_complete" 690 374,er P "told_size" 697 381,er P "read_frame" 703 386,er P "wire_of" 711 393,e P "GREAT_FAULT" 715 (i 8 714),e P "SMALL_FAULT" 717 (i 1 716),e P "QUIET_FROM" 719 (i 12 718),e P "OFF_FROM" 721 (i 18 720),er P "Count" 800 459,er P "Reader" 862 508,e P "ANSWER_AT" 866 (i 1 865),e P "VOTES_AT" 868 (i 9 867),er P "Tail" 941 564,er P "ReadTail" 965 585,er P "SpeakTail" 989 604,e P "FLAG_BITS" 993 (i 6 992),e P "REST_TURNS" 995 (i 3 994),e P "QUIET_TURNS" 997 (i 8 996),e P "DUEL_BITS" 999 (i 9 998),er P "begun_reader" 1006 613,er P "unless_off" 1015 620,er P "fault_of" 1023 627,er P "refusal_of" 1031 634,er P "blame_of" 1038 641,er P "Free" 1092 679,er P "Speaks" 1151 721,er P "Reads" 1207 763,er P "InTail" 1263 805,er P "Flagging" 1318 847,er P "Settles" 1371 889,er P "Rests" 1424 931,er P "Off" 1468 966,er P "VOTES" 1474 971,er P "check_votes" 1481 978,er P "check_choice" 1488 985,er P "copies" 1494 990,er P "Post" 1625 1098,e P "MOST_POSTS" 1629 (i 5 1628),er P "Rail" 1787 1225,er P "heard_well" 1796 1236,e P "STRIP_BITS" 1800 (i 40 1799),e P "FIGURES" 1802 (i 6 1801),e P "SIGNS" 1804 (s "_-" 1803),er P "strips" 1810 1241,er P "strip_of" 1816 1246,e P "MOST_FIGURES" 1820 (i 6 1819),e P "MOST_TURNS" 1822 (i 2000 1821),e P "MOST_BITS" 1824 (i 400 1823),er P "FORMS" 1882 1247,er P "read_row" 1894 1278,er P "value_of" 1904 1285,er P "number_in" 1910 1290,er P "choice_of" 1920 1297,er P "dotted" 1926 1302,er P "frames_text" 1932 1307,er P "thing_text" 1940 1314,er P "told_of" 1948 1321,er P "things_of" 1959 1328,er P "part_of" 1968 1335,er P "say_hand" 1976 1342,er P "say_thing" 1986 1349,er P "say_wrong" 1994 1356,er P "say_run" 2002 1363,er P "say_bits" 2010 1370,er P "say_draw" 2019 1377,er P "say_got" 2027 1384,er P "say_waits" 2035 1391,er P "say_things" 2041 1396,er P "say_stance" 2050 1403,er P "say_faults" 2058 1410,er P "ANSWERS" 2081 1411,er P "Desk" 2129 1442,er P "_law_draw" 2142 1453,er P "_law_choice" 2151 1460,er P "_law_names" 2157 1465,er P "_law_longest" 2166 1472,er P "_law_thing" 2172 1477,er P "_law_rows" 2185 1484,er P "_law_due" 2191 1489,er P "_law_hand_all" 2197 1494,er P "law" 2203 1499] 133)::(nat_lit 4,⟨.type "module",some builtinsNs,.plain,#[]⟩)::(nat_lit 30,di (t "dict") [eM P 203 ma,eL P 207 5 206,eS P 208 29,er P "__weakref__" 210 32,eD P 211] 3)::(nat_lit 31,cl {name:="RailError",bases:=[t "ValueError"],mro:=[r 31,t "ValueError",t "Exception",t "BaseException",t "object"],ns:=30,qualname:="RailError",hasDict:=true,subclasses:=[r 44,r 56,r 68,r 80,r 92,r 104,r 116,r 135]} [o (r 22),.none,o (s "RailError" 196),o (s "RailError" 204),o (b "ValueError.__new__"),o (.bool true)])::(nat_lit 43,di (t "dict") [eM P 221 ma,eL P 225 7 224,eS P 226 42,eD P 227] 2)::(nat_lit 44,cX "NoBits" 31 44 43 35 214 222)::(nat_lit 55,di (t "dict") [eM P 237 ma,eL P 241 9 240,eS P 242 54,eD P 243] 2)::(nat_lit 56,cX "NoName" 31 56 55 47 230 238)::(nat_lit 67,di (t "dict") [eM P 253 ma,eL P 257 11 256,eS P 258 66,eD P 259] 2)::(nat_lit 68,cX "NoKey" 31 68 67 59 246 254)::(nat_lit 79,di (t "dict") [eM P 269 ma,eL P 273 13 272,eS P 274 78,eD P 275] 2)::(nat_lit 80,cX "NoFrame" 31 80 79 71 262 270)::(nat_lit 91,di (t "dict") [eM P 285 ma,eL P 289 15 288,eS P 290 90,eD P 291] 2)::(nat_lit 92,cX "NoPost" 31 92 91 83 278 286)::(nat_lit 103,di (t "dict") [eM P 301 ma,eL P 305 17 304,eS P 306 102,eD P 307] 2)::(nat_lit 104,cX "NoThing" 31 104 103 95 294 302)::(nat_lit 115,di (t "dict") [eM P 317 ma,eL P 321 19 320,eS P 322 114,eD P 323] 2)::(nat_lit 116,cX "NoRail" 31 116 115 107 310 318)::(nat_lit 134,di (t "dict") [eM P 333 ma,eL P 337 21 336,er P "__init__" 345 132,eS P 347 133,eD P 348] 2)::(nat_lit 135,cX "NoRow" 31 135 134 119 326 334)::(nat_lit 141,cB "bits_of" "bits_of" 355 27 2 138 358)::(nat_lit 142,jb "bits_of" 141 (sG 13))::(nat_lit 148,cA "number_of" "number_of" 361 31 1 143 367)::(nat_lit 149,jb "number_of" 148 (sG 14))::(nat_lit 158,cB "are_bytes" "are_bytes" 376 38 1 155 379)::(nat_lit 159,jb "are_bytes" 158 (sG 16))::(nat_lit 165,cA "ear" "ear" 384 41 1 160 391)::(nat_lit 166,jc "ear" 165 (sG 18))::(nat_lit 170,cB "cut" "cut" 400 52 2 167 403)::(nat_lit 171,jd "cut" 170 (sG 22))::(nat_lit 177,cA "check_thing" "check_thing" 406 57 2 172 411)::(nat_lit 178,jd "check_thing" 177 (sG 23))::(nat_lit 184,cA "piece_of" "piece_of" 414 64 4 179 422)::(nat_lit 185,jd "piece_of" 184 (sG 24))::(nat_lit 191,cA "check_piece" "check_piece" 427 68 1 186 433)::(nat_lit 192,je "check_piece" 191 (sG 26))::(nat_lit 198,cA "is_size" "is_size" 436 77 3 193 442)::(nat_lit 199,je "is_size" 198 (sG 27))::(nat_lit 212,cA "__init__" "Joiner.__init__" 457 83 1 207 461)::(nat_lit 213,je "Joiner.__init__" 212 (sB 0 28))::(nat_lit 219,cA "take" "Joiner.take" 464 91 2 214 470)::(nat_lit 220,je "Joiner.take" 219 (sB 1 28))::(nat_lit 226,cA "begin_thing" "Joiner.begin_thing" 473 100 2 221 479)::(nat_lit 227,je "Joiner.begin_thing" 226 (sB 2 28))::(nat_lit 233,cA "goes_on" "Joiner.goes_on" 482 110 2 228 487)::(nat_lit 234,je "Joiner.goes_on" 233 (sB 3 28))::(nat_lit 240,cA "add_piece" "Joiner.add_piece" 490 113 2 235 495)::(nat_lit 241,je "Joiner.add_piece" 240 (sB 4 28))::(nat_lit 254,cA "end" "Joiner.end" 507 128 1 249 511)::(nat_lit 255,je "Joiner.end" 254 (sB 6 28))::(nat_lit 264,di (t "dict") [eM P 452 me,eL P 456 81 455,er P "__init__" 463 213,er P "take" 472 220,er P "begin_thing" 481 227,er P "goes_on" 489 234,er P "add_piece" 497 241,er P "break_off" 506 248,er P "end" 513 255,er P "is_open" 520 262,eS P 527 263,er P "__dict__" 529 266,er P "__weakref__" 531 267,eD P 532] 4)::(nat_lit 265,cO "Joiner" 265 264 445 453)::(nat_lit 275,cA "divided" "divided" 537 138 2 270 545)::(nat_lit 276,jf "divided" 275 (sG 30))::(nat_lit 282,cA "rest_of" "rest_of" 554 151 1 277 558)::(nat_lit 283,jg "rest_of" 282 (sG 34))::(nat_lit 289,cA "check_of" "check_of" 561 153 1 284 565)::(nat_lit 290,jg "check_of" 289 (sG 35))::(nat_lit 296,cA "is_name" "is_name" 574 158 1 291 578)::(nat_lit 297,jh "is_name" 296 (sG 39))::(nat_lit 303,cA "is_wanted" "is_wanted" 581 160 2 298 586)::(nat_lit 304,jh "is_wanted" 303 (sG 40))::(nat_lit 317,cA "__init__" "Streak.__init__" 605 166 1 312 609)::(nat_lit 318,ji "Streak.__init__" 317 (sB 0 43))::(nat_lit 324,cA "lengthen" "Streak.lengthen" 612 170 2 319 617)::(nat_lit 325,ji "Streak.lengthen" 324 (sB 1 43))::(nat_lit 331,cA "is_full" "Streak.is_full" 620 174 1 326 624)::(nat_lit 332,ji "Streak.is_full" 331 (sB 2 43))::(nat_lit 338,cA "is_too_long" "Streak.is_too_long" 627 177 1 333 631)::(nat_lit 339,ji "Streak.is_too_long" 338 (sB 3 43))::(nat_lit 341,di (t "dict") [eM P 600 mi,eL P 604 164 603,er P "__init__" 611 318,er P "lengthen" 619 325,er P "is_full" 626 332,er P "is_too_long" 633 339,eS P 636 340,er P "__dict__" 638 343,er P "__weakref__" 640 344,eD P 641] 4)::(nat_lit 342,cO "Streak" 342 341 593 601)::(nat_lit 352,cA "put_in" "put_in" 644 179 1 347 651)::(nat_lit 353,ji "put_in" 352 (sG 44))::(nat_lit 359,cA "check_frame" "check_frame" 666 195 2 354 671)::(nat_lit 360,jj "check_frame" 359 (sG 51))::(nat_lit 366,cA "frame_bits" "frame_bits" 674 202 2 361 681)::(nat_lit 367,jj "frame_bits" 366 (sG 52))::(nat_lit 373,cA "is_complete" "is_complete" 684 208 1 368 688)::(nat_lit 374,jj "is_complete" 373 (sG 53))::(nat_lit 380,cA "told_size" "told_size" 691 210 1 375 695)::(nat_lit 381,jj "told_size" 380 (sG 54))::(nat_lit 385,cB "read_frame" "read_frame" 698 212 1 382 701)::(nat_lit 386,jj "read_frame" 385 (sG 55))::(nat_lit 392,cA "wire_of" "wire_of" 704 221 2 387 709)::(nat_lit 393,jj "wire_of" 392 (sG 56))::(nat_lit 406,cA "__init__" "Count.__init__" 734 230 1 401 738)::(nat_lit 407,jk "Count.__init__" 406 (sB 0 62))::(nat_lit 413,cA "fault" "Count.fault" 741 233 2 408 746)::(nat_lit 414,jk "Count.fault" 413 (sB 1 62))::(nat_lit 420,cA "blame" "Count.blame" 749 236 1 415 753)::(nat_lit 421,jk "Count.blame" 420 (sB 2 62))::(nat_lit 427,cA "good" "Count.good" 756 239 1 422 760)::(nat_lit 428,jk "Count.good" 427 (sB 3 62))::(nat_lit 434,cA "move" "Count.move" 763 242 2 429 768)::(nat_lit 435,jk "Count.move" 434 (sB 4 62))::(nat_lit 448,cA "is_quiet" "Count.is_quiet" 778 249 1 443 782)::(nat_lit 449,jk "Count.is_quiet" 448 (sB 6 62))::(nat_lit 455,cA "is_off" "Count.is_off" 785 252 1 450 789)::(nat_lit 456,jk "Count.is_off" 455 (sB 7 62))::(nat_lit 458,di (t "dict") [eM P 729 mk,eL P 733 228 732,er P "__init__" 740 407,er P "fault" 748 414,er P "blame" 755 421,er P "good" 762 428,er P "move" 770 435,er P "number" 777 442,er P "is_quiet" 784 449,er P "is_off" 791 456,eS P 793 457,er P "__dict__" 795 460,er P "__weakref__" 797 461,eD P 798] 4)::(nat_lit 459,cO "Count" 459 458 722 730)::(nat_lit 476,cA "__init__" "Reader.__init__" 815 257 1 471 819)::(nat_lit 477,jl "Reader.__init__" 476 (sB 0 64))::(nat_lit 483,cA "hear" "Reader.hear" 822 262 2 478 828)::(nat_lit 484,jl "Reader.hear" 483 (sB 1 64))::(nat_lit 490,cA "judged" "Reader.judged" 831 270 1 485 835)::(nat_lit 491,jl "Reader.judged" 490 (sB 2 64))::(nat_lit 497,cA "plain" "Reader.plain" 838 277 1 492 842)::(nat_lit 498,jl "Reader.plain" 497 (sB 3 64))::(nat_lit 504,cA "frame" "Reader.frame" 845 280 1 499 849)::(nat_lit 505,jl "Reader.frame" 504 (sB 4 64))::(nat_lit 507,di (t "dict") [eM P 810 ml,eL P 814 255 813,er P "__init__" 821 477,er P "hear" 830 484,er P "judged" 837 491,er P "plain" 844 498,er P "frame" 851 505,eS P 855 506,er P "__dict__" 857 509,er P "__weakref__" 859 510,eD P 860] 4)::(nat_lit 508,cO "Reader" 508 507 803 811)::(nat_lit 525,cA "__init__" "Tail.__init__" 881 287 3 520 887)::(nat_lit 526,jm "Tail.__init__" 525 (sB 0 68))::(nat_lit 532,cA "says" "Tail.says" 890 293 1 527 894)::(nat_lit 533,jm "Tail.says" 532 (sB 1 68))::(nat_lit 539,cA "hear" "Tail.hear" 897 296 2 534 903)::(nat_lit 540,jm "Tail.hear" 539 (sB 2 68))::(nat_lit 546,cA "is_fault" "Tail.is_fault" 906 303 3 541 912)::(nat_lit 547,jm "Tail.is_fault" 546 (sB 3 68))::(nat_lit 553,cA "judged_vote" "Tail.judged_vote" 915 308 2 548 920)::(nat_lit 554,jm "Tail.judged_vote" 553 (sB 4 68))::(nat_lit 563,di (t "dict") [eM P 876 mm,eL P 880 285 879,er P "__init__" 889 526,er P "says" 896 533,er P "hear" 905 540,er P "is_fault" 914 547,er P "judged_vote" 922 554,er P "place" 929 561,eS P 934 562,er P "__dict__" 936 565,er P "__weakref__" 938 566,eD P 939] 4)::(nat_lit 564,cl {name:="Tail",bases:=[t "object"],mro:=[r 564,t "object"],ns:=563,qualname:="Tail",hasDict:=true,subclasses:=[r 585,r 604]} [.none,.none,o (s "Tail" 869),o (s "Tail" 877),o (b "object.__new__"),o (.bool true)])::(nat_lit 581,cA "__init__" "ReadTail.__init__" 954 319 2 576 959)::(nat_lit 582,jm "ReadTail.__init__" 581 (sB 0 69))::(nat_lit 584,di (t "dict") [eM P 949 mm,eL P 953 317 952,er P "__init__" 961 582,eS P 962 583,eD P 963] 2)::(nat_lit 585,cl {name:="ReadTail",bases:=[r 564],mro:=[r 585,r 564,t "object"],ns:=584,qualname:="ReadTail",hasDict:=true,subclasses:=[]} [o (r 569),.none,o (s "ReadTail" 942),o (s "ReadTail" 950),o (b "object.__new__"),o (.bool true)])::(nat_lit 600,cA "__init__" "SpeakTail.__init__" 978 323 2 595 983)::(nat_lit 601,jm "SpeakTail.__init__" 600 (sB 0 70))::(nat_lit 603,di (t "dict") [eM P 973 mm,eL P 977 321 976,er P "__init__" 985 601,eS P 986 602,eD P 987] 2)::(nat_lit 604,cl {name:="SpeakTail",bases:=[r 564],mro:=[r 604,r 564,t "object"],ns:=603,qualname:="SpeakTail",hasDict:=true,subclasses:=[]} [o (r 588),.none,o (s "SpeakTail" 966),o (s "SpeakTail" 974),o (b "object.__new__"),o (.bool true)])::(nat_lit 612,cA "begun_reader" "begun_reader" 1000 330 0 607 1004)::(nat_lit 613,jn "begun_reader" 612 (sG 76))::(nat_lit 619,cA "unless_off" "unless_off" 1007 334 3 614 1013)::(nat_lit 620,jn "unless_off" 619 (sG 77))::(nat_lit 626,cA "fault_of" "fault_of" 1016 336 2 621 1021)::(nat_lit 627,jn "fault_of" 626 (sG 78))::(nat_lit 633,cA "refusal_of" "refusal_of" 1024 339 2 628 1029)::(nat_lit 634,jn "refusal_of" 633 (sG 79))::(nat_lit 640,cA "blame_of" "blame_of" 1032 342 1 635 1036)::(nat_lit 641,jn "blame_of" 640 (sG 80))::(nat_lit 654,cA "__init__" "Free.__init__" 1051 347 2 649 1056)::(nat_lit 655,jn "Free.__init__" 654 (sB 0 81))::(nat_lit 668,cA "says" "Free.says" 1066 353 2 663 1071)::(nat_lit 669,jn "Free.says" 668 (sB 2 81))::(nat_lit 675,cA "step" "Free.step" 1074 358 3 670 1081)::(nat_lit 676,jn "Free.step" 675 (sB 3 81))::(nat_lit 678,di (t "dict") [eM P 1046 mn,eL P 1050 345 1049,er P "__init__" 1058 655,er P "shown" 1065 662,er P "says" 1073 669,er P "step" 1083 676,eS P 1085 677,er P "__dict__" 1087 680,er P "__weakref__" 1089 681,eD P 1090] 4)::(nat_lit 679,cO "Free" 679 678 1039 1047)::(nat_lit 696,cA "__init__" "Speaks.__init__" 1105 369 4 691 1112)::(nat_lit 697,jn "Speaks.__init__" 696 (sB 0 82))::(nat_lit 710,cA "says" "Speaks.says" 1122 377 2 705 1127)::(nat_lit 711,jn "Speaks.says" 710 (sB 2 82))::(nat_lit 717,cA "step" "Speaks.step" 1130 380 3 712 1138)::(nat_lit 718,jn "Speaks.step" 717 (sB 3 82))::(nat_lit 720,di (t "dict") [eM P 1100 mn,eL P 1104 367 1103,er P "__init__" 1114 697,er P "shown" 1121 704,er P "says" 1129 711,er P "step" 1140 718,eS P 1144 719,er P "__dict__" 1146 722,er P "__weakref__" 1148 723,eD P 1149] 4)::(nat_lit 721,cO "Speaks" 721 720 1093 1101)::(nat_lit 738,cA "__init__" "Reads.__init__" 1164 394 3 733 1170)::(nat_lit 739,jn "Reads.__init__" 738 (sB 0 83))::(nat_lit 752,cA "says" "Reads.says" 1180 401 2 747 1185)::(nat_lit 753,jn "Reads.says" 752 (sB 2 83))::(nat_lit 759,cA "step" "Reads.step" 1188 404 3 754 1195)::(nat_lit 760,jn "Reads.step" 759 (sB 3 83))::(nat_lit 762,di (t "dict") [eM P 1159 mn,eL P 1163 392 1162,er P "__init__" 1172 739,er P "shown" 1179 746,er P "says" 1187 753,er P "step" 1197 760,eS P 1200 761,er P "__dict__" 1202 764,er P "__weakref__" 1204 765,eD P 1205] 4)::(nat_lit 763,cO "Reads" 763 762 1152 1160)::(nat_lit 780,cA "__init__" "InTail.__init__" 1220 413 3 775 1226)::(nat_lit 781,jn "InTail.__init__" 780 (sB 0 84))::(nat_lit 794,cA "says" "InTail.says" 1236 420 2 789 1241)::(nat_lit 795,jn "InTail.says" 794 (sB 2 84))::(nat_lit 801,cA "step" "InTail.step" 1244 423 3 796 1251)::(nat_lit 802,jn "InTail.step" 801 (sB 3 84))::(nat_lit 804,di (t "dict") [eM P 1215 mn,eL P 1219 411 1218,er P "__init__" 1228 781,er P "shown" 1235 788,er P "says" 1243 795,er P "step" 1253 802,eS P 1256 803,er P "__dict__" 1258 806,er P "__weakref__" 1260 807,eD P 1261] 4)::(nat_lit 805,cO "InTail" 805 804 1208 1216)::(nat_lit 822,cA "__init__" "Flagging.__init__" 1276 439 3 817 1282)::(nat_lit 823,jn "Flagging.__init__" 822 (sB 0 85))::(nat_lit 836,cA "says" "Flagging.says" 1292 446 2 831 1297)::(nat_lit 837,jn "Flagging.says" 836 (sB 2 85))::(nat_lit 843,cA "step" "Flagging.step" 1300 449 3 838 1306)::(nat_lit 844,jn "Flagging.step" 843 (sB 3 85))::(nat_lit 846,di (t "dict") [eM P 1271 mn,eL P 1275 437 1274,er P "__init__" 1284 823,er P "shown" 1291 830,er P "says" 1299 837,er P "step" 1308 844,eS P 1311 845,er P "__dict__" 1313 848,er P "__weakref__" 1315 849,eD P 1316] 4)::(nat_lit 847,cO "Flagging" 847 846 1264 1272)::(nat_lit 864,cA "__init__" "Settles.__init__" 1331 455 2 859 1336)::(nat_lit 865,jn "Settles.__init__" 864 (sB 0 86))::(nat_lit 878,cA "says" "Settles.says" 1346 461 2 873 1351)::(nat_lit 879,jn "Settles.says" 878 (sB 2 86))::(nat_lit 885,cA "step" "Settles.step" 1354 464 3 880 1360)::(nat_lit 886,jn "Settles.step" 885 (sB 3 86))::(nat_lit 888,di (t "dict") [eM P 1326 mn,eL P 1330 453 1329,er P "__init__" 1338 865,er P "shown" 1345 872,er P "says" 1353 879,er P "step" 1362 886,eS P 1364 887,er P "__dict__" 1366 890,er P "__weakref__" 1368 891,eD P 1369] 4)::(nat_lit 889,cO "Settles" 889 888 1319 1327)::(nat_lit 906,cA "__init__" "Rests.__init__" 1384 472 2 901 1389)::(nat_lit 907,jn "Rests.__init__" 906 (sB 0 87))::(nat_lit 920,cA "says" "Rests.says" 1399 478 2 915 1404)::(nat_lit 921,jn "Rests.says" 920 (sB 2 87))::(nat_lit 927,cA "step" "Rests.step" 1407 481 3 922 1413)::(nat_lit 928,jn "Rests.step" 927 (sB 3 87))::(nat_lit 930,di (t "dict") [eM P 1379 mn,eL P 1383 470 1382,er P "__init__" 1391 907,er P "shown" 1398 914,er P "says" 1406 921,er P "step" 1415 928,eS P 1417 929,er P "__dict__" 1419 932,er P "__weakref__" 1421 933,eD P 1422] 4)::(nat_lit 931,cO "Rests" 931 930 1372 1380)::(nat_lit 955,cA "says" "Off.says" 1444 490 2 950 1449)::(nat_lit 956,jn "Off.says" 955 (sB 1 88))::(nat_lit 962,cA "step" "Off.step" 1452 493 3 957 1458)::(nat_lit 963,jn "Off.step" 962 (sB 2 88))::(nat_lit 965,di (t "dict") [eM P 1432 mn,eL P 1436 485 1435,er P "shown" 1443 949,er P "says" 1451 956,er P "step" 1460 963,eS P 1461 964,er P "__dict__" 1463 967,er P "__weakref__" 1465 968,eD P 1466] 4)::(nat_lit 966,cO "Off" 966 965 1425 1433)::(nat_lit 971,tp [i 1 1471,i 3 1472,i 5 1473])::(nat_lit 977,cA "check_votes" "check_votes" 1475 497 1 972 1479)::(nat_lit 978,jo "check_votes" 977 (sG 91))::(nat_lit 984,cA "check_choice" "check_choice" 1482 500 1 979 1486)::(nat_lit 985,jo "check_choice" 984 (sG 92))::(nat_lit 989,cB "copies" "copies" 1489 503 1 986 1492)::(nat_lit 990,jo "copies" 989 (sG 93))::(nat_lit 1003,cA "__init__" "Post.__init__" 1507 507 3 998 1513)::(nat_lit 1004,jo "Post.__init__" 1003 (sB 0 94))::(nat_lit 1010,cA "hand" "Post.hand" 1516 517 3 1005 1522)::(nat_lit 1011,jo "Post.hand" 1010 (sB 1 94))::(nat_lit 1017,cA "says" "Post.says" 1525 521 1 1012 1529)::(nat_lit 1018,jo "Post.says" 1017 (sB 2 94))::(nat_lit 1024,cA "hear" "Post.hear" 1532 524 2 1019 1538)::(nat_lit 1025,jo "Post.hear" 1024 (sB 3 94))::(nat_lit 1038,cA "waits" "Post.waits" 1548 532 1 1033 1552)::(nat_lit 1039,jo "Post.waits" 1038 (sB 5 94))::(nat_lit 1045,cA "got" "Post.got" 1555 535 1 1040 1559)::(nat_lit 1046,jo "Post.got" 1045 (sB 6 94))::(nat_lit 1059,cA "is_quiet" "Post.is_quiet" 1569 541 1 1054 1573)::(nat_lit 1060,jo "Post.is_quiet" 1059 (sB 8 94))::(nat_lit 1066,cA "is_off" "Post.is_off" 1576 544 1 1061 1580)::(nat_lit 1067,jo "Post.is_off" 1066 (sB 9 94))::(nat_lit 1073,cA "has_frame" "Post.has_frame" 1583 547 1 1068 1587)::(nat_lit 1074,jo "Post.has_frame" 1073 (sB 10 94))::(nat_lit 1080,cA "foremost_wire" "Post.foremost_wire" 1590 550 1 1075 1594)::(nat_lit 1081,jo "Post.foremost_wire" 1080 (sB 11 94))::(nat_lit 1087,cA "drop_foremost" "Post.drop_foremost" 1597 553 1 1082 1601)::(nat_lit 1088,jo "Post.drop_foremost" 1087 (sB 12 94))::(nat_lit 1094,cA "hand_up" "Post.hand_up" 1604 556 2 1089 1609)::(nat_lit 1095,jo "Post.hand_up" 1094 (sB 13 94))::(nat_lit 1097,di (t "dict") [eM P 1502 mo,eL P 1506 505 1505,er P "__init__" 1515 1004,er P "hand" 1524 1011,er P "says" 1531 1018,er P "hear" 1540 1025,er P "stance" 1547 1032,er P "waits" 1554 1039,er P "got" 1561 1046,er P "faults" 1568 1053,er P "is_quiet" 1575 1060,er P "is_off" 1582 1067,er P "has_frame" 1589 1074,er P "foremost_wire" 1596 1081,er P "drop_foremost" 1603 1088,er P "hand_up" 1611 1095,eS P 1618 1096,er P "__dict__" 1620 1099,er P "__weakref__" 1622 1100,eD P 1623] 4)::(nat_lit 1098,cO "Post" 1098 1097 1495 1503)::(nat_lit 1113,cB "__init__" "Rail.__init__" 1642 563 3 1110 1645)::(nat_lit 1114,jp "Rail.__init__" 1113 (sB 0 97))::(nat_lit 1120,cA "hand" "Rail.hand" 1648 573 4 1115 1656)::(nat_lit 1121,jp "Rail.hand" 1120 (sB 1 97))::(nat_lit 1132,cB "run" "Rail.run" 1669 587 3 1129 1672)::(nat_lit 1133,jp "Rail.run" 1132 (sB 3 97))::(nat_lit 1137,cB "make_turn" "Rail.make_turn" 1675 591 2 1134 1678)::(nat_lit 1138,jp "Rail.make_turn" 1137 (sB 4 97))::(nat_lit 1144,cA "post_at" "Rail.post_at" 1681 604 2 1139 1686)::(nat_lit 1145,jp "Rail.post_at" 1144 (sB 5 97))::(nat_lit 1193,cA "waits" "Rail.waits" 1734 629 2 1188 1739)::(nat_lit 1194,jp "Rail.waits" 1193 (sB 12 97))::(nat_lit 1200,cA "got" "Rail.got" 1742 632 2 1195 1747)::(nat_lit 1201,jp "Rail.got" 1200 (sB 13 97))::(nat_lit 1221,cA "is_off" "Rail.is_off" 1766 641 2 1216 1771)::(nat_lit 1222,jp "Rail.is_off" 1221 (sB 16 97))::(nat_lit 1224,di (t "dict") [eM P 1637 mp,eL P 1641 561 1640,er P "__init__" 1647 1114,er P "hand" 1658 1121,er P "turn" 1668 1128,er P "run" 1674 1133,er P "make_turn" 1680 1138,er P "post_at" 1688 1145,er P "turns" 1695 1152,er P "bits" 1702 1159,er P "said" 1710 1166,er P "heard" 1718 1173,er P "events" 1725 1180,er P "stance" 1733 1187,er P "waits" 1741 1194,er P "got" 1749 1201,er P "faults" 1757 1208,er P "is_quiet" 1765 1215,er P "is_off" 1773 1222,eS P 1780 1223,er P "__dict__" 1782 1226,er P "__weakref__" 1784 1227,eD P 1785] 4)::(nat_lit 1225,cO "Rail" 1225 1224 1630 1638)::(nat_lit 1247,di (t "dict") [er P "rail" 1825 1249,er P "hand" 1829 1251,er P "thing" 1833 1253,er P "wrong" 1838 1255,er P "run" 1842 1257,er P "bits" 1845 1259,er P "draw" 1849 1261,er P "got" 1854 1263,er P "waits" 1857 1265,er P "things" 1860 1267,er P "stance" 1864 1269,er P "faults" 1867 1271] 12)::(nat_lit 1248,tp [s "number" 1826,s "choice" 1827])::(nat_lit 1249,tp [r 1248,s "choice" 1828])::(nat_lit 1250,tp [s "number" 1830,s "number" 1831])::(nat_lit 1251,tp [r 1250,s "number" 1832])::(nat_lit 1252,tp [s "number" 1834,s "number" 1835,s "number" 1836])::(nat_lit 1253,tp [r 1252,s "number" 1837])::(nat_lit 1254,tp [s "number" 1839,s "number" 1840])::(nat_lit 1255,tp [r 1254,s "" 1841])::(nat_lit 1256,tp [s "turns" 1843])::(nat_lit 1257,tp [r 1256,s "" 1844])::(nat_lit 1258,tp [s "number" 1846,s "end" 1847])::(nat_lit 1259,tp [r 1258,s "" 1848])::(nat_lit 1260,tp [s "number" 1850,s "number" 1851,s "end" 1852])::(nat_lit 1261,tp [r 1260,s "" 1853])::(nat_lit 1262,tp [s "number" 1855])::(nat_lit 1263,tp [r 1262,s "" 1856])::(nat_lit 1264,tp [s "number" 1858])::(nat_lit 1265,tp [r 1264,s "" 1859])::(nat_lit 1266,tp [s "number" 1861,s "number" 1862])::(nat_lit 1267,tp [r 1266,s "" 1863])::(nat_lit 1268,tp [s "number" 1865])::(nat_lit 1269,tp [r 1268,s "" 1866])::(nat_lit 1270,tp [s "number" 1868])::(nat_lit 1271,tp [r 1270,s "" 1869])::(nat_lit 1277,cA "read_row" "read_row" 1883 658 1 1272 1892)::(nat_lit 1278,jq "read_row" 1277 (sG 110))::(nat_lit 1284,cA "value_of" "value_of" 1895 672 3 1279 1902)::(nat_lit 1285,jq "value_of" 1284 (sG 111))::(nat_lit 1289,cB "number_in" "number_in" 1905 685 1 1286 1908)::(nat_lit 1290,jq "number_in" 1289 (sG 112))::(nat_lit 1296,cA "choice_of" "choice_of" 1911 693 1 1291 1918)::(nat_lit 1297,jq "choice_of" 1296 (sG 113))::(nat_lit 1301,cB "dotted" "dotted" 1921 702 1 1298 1924)::(nat_lit 1302,jq "dotted" 1301 (sG 114))::(nat_lit 1306,cB "frames_text" "frames_text" 1927 704 1 1303 1930)::(nat_lit 1307,jq "frames_text" 1306 (sG 115))::(nat_lit 1313,cA "thing_text" "thing_text" 1933 706 1 1308 1938)::(nat_lit 1314,jq "thing_text" 1313 (sG 116))::(nat_lit 1320,cA "told_of" "told_of" 1941 711 2 1315 1946)::(nat_lit 1321,jq "told_of" 1320 (sG 117))::(nat_lit 1327,cA "things_of" "things_of" 1949 716 2 1322 1957)::(nat_lit 1328,jq "things_of" 1327 (sG 118))::(nat_lit 1348,cA "say_thing" "say_thing" 1977 728 2 1343 1984)::(nat_lit 1349,jq "say_thing" 1348 (sG 121))::(nat_lit 1355,cA "say_wrong" "say_wrong" 1987 733 2 1350 1992)::(nat_lit 1356,jq "say_wrong" 1355 (sG 122))::(nat_lit 1362,cA "say_run" "say_run" 1995 737 2 1357 2000)::(nat_lit 1363,jq "say_run" 1362 (sG 123))::(nat_lit 1390,cA "say_waits" "say_waits" 2028 747 2 1385 2033)::(nat_lit 1391,jq "say_waits" 1390 (sG 127))::(nat_lit 1395,cB "say_things" "say_things" 2036 749 2 1392 2039)::(nat_lit 1396,jq "say_things" 1395 (sG 128))::(nat_lit 1411,di (t "dict") [er P "hand" 2059 1342,er P "thing" 2060 1349,er P "wrong" 2061 1356,er P "run" 2062 1363,er P "bits" 2063 1370,er P "draw" 2064 1377,er P "got" 2065 1384,er P "waits" 2066 1391,er P "things" 2067 1396,er P "stance" 2068 1403,er P "faults" 2069 1410] 11)::(nat_lit 1424,cA "__init__" "Desk.__init__" 2094 759 1 1419 2098)::(nat_lit 1425,jq "Desk.__init__" 1424 (sB 0 132))::(nat_lit 1431,cA "say" "Desk.say" 2101 763 2 1426 2109)::(nat_lit 1432,jq "Desk.say" 1431 (sB 1 132))::(nat_lit 1438,cA "put_up" "Desk.put_up" 2112 773 2 1433 2117)::(nat_lit 1439,jq "Desk.put_up" 1438 (sB 2 132))::(nat_lit 1441,di (t "dict") [eM P 2089 mq,eL P 2093 757 2092,er P "__init__" 2100 1425,er P "say" 2111 1432,er P "put_up" 2119 1439,eS P 2122 1440,er P "__dict__" 2124 1443,er P "__weakref__" 2126 1444,eD P 2127] 4)::(nat_lit 1442,cO "Desk" 1442 1441 2082 2090)::(nat_lit 1452,cA "_law_draw" "_law_draw" 2132 778 3 1447 2140)::(nat_lit 1453,jr "_law_draw" 1452 (sG 134))::(nat_lit 1459,cA "_law_choice" "_law_choice" 2143 782 2 1454 2149)::(nat_lit 1460,jr "_law_choice" 1459 (sG 135))::(nat_lit 1464,cB "_law_names" "_law_names" 2152 787 2 1461 2155)::(nat_lit 1465,jr "_law_names" 1464 (sG 136))::(nat_lit 1471,cA "_law_longest" "_law_longest" 2158 791 1 1466 2164)::(nat_lit 1472,jr "_law_longest" 1471 (sG 137))::(nat_lit 1476,cB "_law_thing" "_law_thing" 2167 795 2 1473 2170)::(nat_lit 1477,jr "_law_thing" 1476 (sG 138))::(nat_lit 1483,cA "_law_rows" "_law_rows" 2173 800 3 1478 2183)::(nat_lit 1484,jr "_law_rows" 1483 (sG 139))::(nat_lit 1488,cB "_law_due" "_law_due" 2186 807 3 1485 2189)::(nat_lit 1489,jr "_law_due" 1488 (sG 140))::(nat_lit 1493,cB "_law_hand_all" "_law_hand_all" 2192 818 3 1490 2195)::(nat_lit 1494,jr "_law_hand_all" 1493 (sG 141))::(nat_lit 1498,cB "law" "law" 2198 829 1 1495 2201)::(nat_lit 1499,jr "law" 1498 (sG 142))::[]
noncomputable def KA (P:Params):Frag:=(nat_lit 161,fi .none [])::K P
noncomputable def as:List Addr:=161::2::3::4::30::31::43::44::55::56::67::68::79::80::91::92::103::104::115::116::134::135::141::142::148::149::158::159::165::166::170::171::177::178::184::185::191::192::198::199::212::213::219::220::226::227::233::234::240::241::254::255::264::265::275::276::282::283::289::290::296::297::303::304::317::318::324::325::331::332::338::339::341::342::352::353::359::360::366::367::373::374::380::381::385::386::392::393::406::407::413::414::420::421::427::428::434::435::448::449::455::456::458::459::476::477::483::484::490::491::497::498::504::505::507::508::525::526::532::533::539::540::546::547::553::554::563::564::581::582::584::585::600::601::603::604::612::613::619::620::626::627::633::634::640::641::654::655::668::669::675::676::678::679::696::697::710::711::717::718::720::721::738::739::752::753::759::760::762::763::780::781::794::795::801::802::804::805::822::823::836::837::843::844::846::847::864::865::878::879::885::886::888::889::906::907::920::921::927::928::930::931::955::956::962::963::965::966::971::977::978::984::985::989::990::1003::1004::1010::1011::1017::1018::1024::1025::1038::1039::1045::1046::1059::1060::1066::1067::1073::1074::1080::1081::1087::1088::1094::1095::1097::1098::1113::1114::1120::1121::1132::1133::1137::1138::1144::1145::1193::1194::1200::1201::1221::1222::1224::1225::1247::1248::1249::1250::1251::1252::1253::1254::1255::1256::1257::1258::1259::1260::1261::1262::1263::1264::1265::1266::1267::1268::1269::1270::1271::1277::1278::1284::1285::1289::1290::1296::1297::1301::1302::1306::1307::1313::1314::1320::1321::1327::1328::1348::1349::1355::1356::1362::1363::1390::1391::1395::1396::1411::1424::1425::1431::1432::1438::1439::1441::1442::1452::1453::1459::1460::1464::1465::1471::1472::1476::1477::1483::1484::1488::1489::1493::1494::1498::1499::[]
noncomputable def L (P:Params):List (Nat×Obj):=KA P
def K_L (P:Params):KA P=L P:=rfl
def K_as (P:Params):as=(KA P).map (·.1):=by kernel_rfl
def qv:Program:=view p [142]
noncomputable def loose:List Str:="_wall"::"RailError"::"NoBits"::"NoName"::"NoKey"::"NoFrame"::"NoPost"::"NoThing"::"NoRail"::"NoRow"::"HIGHEST_BYTE"::"bits_of"::"number_of"::"drawn"::"are_bytes"::"ear"::"PIECE_BYTES"::"MOST_BYTES_things"::"cut"::"check_thing"::"piece_of"::"check_piece"::"is_size"::"Joiner"::"divided"::"KEY"::"CHECK_BITS"::"rest_of"::"check_of"::"NAME_BITS"::"HIGHEST_NAME"::"is_name"::"is_wanted"::"MOST_ALIKE"::"Streak"::"put_in"::"SIZE_AT"::"SIZE_BITS"::"DATA_AT"::"BYTE_BITS"::"MOST_BYTES_frames"::"check_frame"::"frame_bits"::"is_complete"::"told_size"::"read_frame"::"wire_of"::"GREAT_FAULT"::"SMALL_FAULT"::"QUIET_FROM"::"OFF_FROM"::"Count"::"Reader"::"ANSWER_AT"::"VOTES_AT"::"Tail"::"ReadTail"::"SpeakTail"::"FLAG_BITS"::"REST_TURNS"::"QUIET_TURNS"::"DUEL_BITS"::"begun_reader"::"unless_off"::"fault_of"::"refusal_of"::"blame_of"::"Free"::"Speaks"::"Reads"::"InTail"::"Flagging"::"Settles"::"Rests"::"Off"::"VOTES"::"check_votes"::"check_choice"::"copies"::"Post"::"MOST_POSTS"::"Rail"::"heard_well"::"STRIP_BITS"::"FIGURES"::"SIGNS"::"strips"::"strip_of"::"MOST_FIGURES"::"MOST_TURNS"::"MOST_BITS"::"FORMS"::"read_row"::"value_of"::"number_in"::"choice_of"::"dotted"::"frames_text"::"thing_text"::"told_of"::"things_of"::"part_of"::"say_hand"::"say_thing"::"say_wrong"::"say_run"::"say_bits"::"say_draw"::"say_got"::"say_waits"::"say_things"::"say_stance"::"say_faults"::"ANSWERS"::"Desk"::"_law_draw"::"_law_choice"::"_law_names"::"_law_longest"::"_law_thing"::"_law_rows"::"_law_due"::"_law_hand_all"::[]
abbrev N:Nat:=11349
def c0Z:∀w:World,(fencedOpening treeTable p w N).map (λs=>(s.heap,s.gens,s.drawn,s.toks))=some (boot_heap w.params,Array.mk [],boot_drawn,boot_toks):=boot_open (by kernel_rfl) (by decide) (λs=>by kernel_rfl)
def ann:Option Value:=some (.ref 6)
def whole (w:World)(a:OsState):=(segRunT treeTable p w 11 ann 0 N (S w a) (topStub p)).map λr=>look p qv loose (xlAt qv []) as (boot_heap w.params) r.2.1
def good (w:World)(_:OsState):=some (true,openGood qv loose,((L w.params).map λp=>p.2).map some)
def sz (w : World) := ((boot_heap w.params).isNs mainGlobals, (boot_heap w.params).objs.size, (boot_heap w.params).nsMap mainGlobals "__annotations__")
def sg (_:World):=(true,11,ann)
def b4H:whole=whole:=rfl
def c1Z:good=good:=rfl
def c7E:sz=sz:=rfl
noncomputable def _root_.PySem.W.Fast.tw5731208806798840349:Program:=PySem.Challenge.pw_bitrail_k85_whole_things_over_the_desk
theorem _root_.PySem.W.Fast.te5731208806798840349:PySem.Challenge.pw_bitrail_k85_whole_things_over_the_desk=PySem.W.Fast.tw5731208806798840349:=rfl
noncomputable def _root_.PySem.W.Fast.tw9140266817696972190:Params->List (Nat×Obj):=Hd.L
def _root_.PySem.W.Fast.te9140266817696972190:Hd.L=PySem.W.Fast.tw9140266817696972190:=rfl
noncomputable def _root_.PySem.W.Fast.tw7625976266985363445:List Str:=Hd.loose
def _root_.PySem.W.Fast.te7625976266985363445:Hd.loose=PySem.W.Fast.tw7625976266985363445:=rfl
name_quick wq for whole by b4H
name_quick gq for good by c1Z
name_quick zq for sz by c7E
def z_g (w:World):PySem.W.Fast.zq w=sg w:=by kernel_rfl
def w_f (w:World):PySem.W.Fast.wq (w.withFollow "special-get-raises" false)=PySem.W.Fast.gq (w.withFollow "special-get-raises" false):=by kernel_rfl
def w_t (w:World):PySem.W.Fast.wq (w.withFollow "special-get-raises" true)=PySem.W.Fast.gq (w.withFollow "special-get-raises" true):=by kernel_rfl
def w_g (w:World):PySem.W.Fast.wq w=PySem.W.Fast.gq w:=by
 have e:=World.withFollow_self w "special-get-raises";cases hb:w.params.followText "special-get-raises" <;> rw[hb]at e
 ·exact e▸w_f w
 ·exact e▸w_t w
def c5C:LeftO p qv loose (xlAt qv []) (λs=>as.map s.heap.get?) (λw=>((L w.params).map λp=>p.2).map some) N:=a3J S c0Z (λw=>(congrFun PySem.W.Fast.zq_eq w).trans (z_g w)) c6C λw=>((congrFun PySem.W.Fast.wq_eq w).trans (w_g w)).trans (congrFun PySem.W.Fast.gq_eq w).symm
def left:LeftO p qv loose (xlAt qv []) (λs=>as.map s.heap.get?) (λw=>(KA w.params).map λp=>some p.2) N:=λw=>(c5C w).trans (by rfl)
def tc:List (Addr×Addr):=[(165,161)]
def tabs (w:World)(h:Heap)(Y:InK KA w h):(K w.params).In h/\∀q∈tc,(K w.params).lookup q.2=none/\h.get? q.2=some (tabObj #[])/\codeHdIn (K w.params) q.1 q.2=true:=by
 have b:(K w.params).lookup 161=none:=by kernel_rfl
 have c:h.get? 161=some (tabObj #[]):=Y 161 _ (by kernel_rfl);have d:codeHdIn (K w.params) 165 161=true:=by kernel_rfl
 refine⟨λa o e=>Y a o ?_,λq g=>?_⟩
 ·show List.lookup a (((161:Nat),fi .none [])::K w.params)=some o;grind
 ·have g:q∈([(165,161)]:List (Addr×Addr)):=g;grind
def dl:DefRec:=dr (sf p 142)
def da:=(defOf qv "law",p.theDef "law")
def db:=(some (dl,([]:List (Str×PySem.Expr))),some (dl.params,dl.body,dl.scope))
def c8D:da=da:=rfl
def c8C:db=db:=rfl
name_quick daq for da by c8D
name_quick dbq for db by c8C
def d_q:PySem.W.Fast.daq=PySem.W.Fast.dbq:=by kernel_rfl
def d_e:da=db:=PySem.W.Fast.daq_eq.trans (d_q.trans PySem.W.Fast.dbq_eq.symm)
def dl_1:defOf qv "law"=some (dl, []):=YJ Prod.fst d_e
def dl_2:p.theDef "law"=some (dl.params,dl.body,dl.scope):=YJ Prod.snd d_e
end
end Hd
set_option Elab.async false
set_option linter.all false
set_option maxRecDepth 100000
namespace L2
open PySem PySem.Spec PyProof.Rows
variable {us:List Value}{x:Str}{u:Value}{a:Addr}{b:Addr}{P:Program}{w:World}{h:Heap}{t':Nat}{i:Nat}{j:Nat}{e:Expr}{A:Around}{E:Value->Shared->Prop}{s:Shared}{pos:Pos}{v:Value}{op:CmpOp}{c:Expr}{K:W.Frag}{pins:List (Addr×Obj)}{tg:Expr}{p:Pos}{fp:List Addr}{dx:Addr}{mA:Str->Option Value}{C:Addr}{f:Addr}{k:Nat}{fd:FuncData}{ps:List Str}{kindOf:Str->Option NameKind}{h':Heap}{es:List Expr}
abbrev Key:=Sum Int Str
def vY:Key->Value->Bool
 |.inl k,v=>Value.isInt k v
 |.inr x,v=>Value.isStrOf x v
def c7V (w:World):Key->Int
 |.inl k=>hashInt k
 |.inr x=>hashStr w x
theorem fC:∀{k:Key}{v:Value},vY k v=true->(∃i t,k=Sum.inl i/\v=Value.int i t)\/(∃x t,k=Sum.inr x/\v=Value.str x t)
 | .inl i,v,h=>by
  obtain⟨t,e⟩:=Value.isInt_shape h;grind
 | .inr x,v,h=>by
  obtain⟨t,e⟩:=Value.isStrOf_shape h;grind
def a7Z (i:Int)(t:Tok):vY (.inl i) (.int i t)=true:=by simp[vY,Value.isInt]
def qO (x:Str)(t:Tok):vY (.inr x) (.str x t)=true:=by simp[vY,Value.isStrOf]
def c1S (a b:Int):decide ((Sum.inl a:Key)=Sum.inl b)=(a == b):=by
 lia
def c1P (a b:Str):decide ((Sum.inr a:Key)=Sum.inr b)=decide (a=b):=by
 lia
def c1R (a:Int)(b:Str):decide ((Sum.inl a:Key)=Sum.inr b)=false:=Yr (λq=>nomatch q)
def c1Q (a:Str)(b:Int):decide ((Sum.inr a:Key)=Sum.inl b)=false:=Yr (λq=>nomatch q)
def dW (prog:Program)(w:World):PySem.KeyKind prog w Key where
 is:=vY
 hash:=c7V w
 inj :=λv a b ha hb=>by
  rcases fC ha with ⟨i,t,rfl,rfl⟩ | ⟨x,t,rfl,rfl⟩
  ·rcases fC hb with ⟨j,u,rfl,e⟩ | ⟨y,u,rfl,e⟩
   ·injection e with e1 _;rw[e1]
   ·exact nomatch e
  ·rcases fC hb with ⟨j,u,rfl,e⟩ | ⟨y,u,rfl,e⟩
   ·exact nomatch e
   ·injection e with e1 _;rw[e1]
 byValue:=λk v h=>by
  rcases fC h with ⟨i,t,rfl,rfl⟩ | ⟨x,t,rfl,rfl⟩ <;> rfl
 pyHash:=λhv h=>by
  rcases fC hv with ⟨i,t,rfl,rfl⟩ | ⟨x,t,rfl,rfl⟩
  ·exact wpAny_pyHash_int h
  ·exact wpAny_pyHash_str h
 eqBool:=λhu hv h=>by
  rcases fC hu with ⟨i,t,rfl,rfl⟩ | ⟨x,t,rfl,rfl⟩
  ·rcases fC hv with ⟨j,u,rfl,rfl⟩ | ⟨y,u,rfl,rfl⟩
   ·rw[c1S]at h;exact wpAny_eqBool_int h
   ·rw[c1R]at h;exact SeqAt.EqAt.int_str i t y u _ _ _ _ h
  ·rcases fC hv with ⟨j,u,rfl,rfl⟩ | ⟨y,u,rfl,rfl⟩
   ·rw[c1Q]at h;exact SeqAt.EqAt.str_int x t j u _ _ _ _ h
   ·rw[c1P]at h;exact wpAny_eqBool_str h
 «strs»:=λk x t v h=>by
  rcases fC h with ⟨i,u,rfl,e⟩ | ⟨y,u,rfl,e⟩
  ·exact nomatch e
  ·injection e with e1 _
   subst e1;cases v <;> rfl
def a0X (prog:Program)(w:World)(i:Int)(t:Tok):(dW prog w).is (.inl i) (.int i t)=true:=a7Z i t
def a0W (prog:Program)(w:World)(x:Str)(t:Tok):(dW prog w).is (.inr x) (.str x t)=true:=qO x t
inductive V where
 |non | bl (b:Bool) | int (i:Int) | str (x:Str) | byt (b:Array UInt8) | flt (b:UInt64) | ref (a:Addr) | ty (n:String)
 deriving DecidableEq
def RelV:V->Value->Prop
 |.non,u=>u=Value.none
 |.bl b,u=>u=Value.bool b
 |.int i,u=>∃t,u=Value.int i t
 |.str x,u=>∃t,u=Value.str x t
 |.byt b,u=>∃t,u=Value.bytes b t
 |.flt b,u=>∃t,u=Value.float b t
 |.ref a,u=>u=Value.ref a
 |.ty n,u=>u=Value.type n
abbrev Vals:List V->List Value->Prop:=Paired RelV
def Vals.length {xs:List V}(r:Vals xs us):xs.length=us.length:=Paired.length r
theorem Vals.get:∀{xs:List V}{us:List Value}{i:Nat}{x:V},Vals xs us->xs[i]? =some x->∃u,us[i]? =some u/\RelV x u
 |_,_,_,_,.nil,e=>by simp at e
 |_,_,0,_,.cons r _,e=>by simp at e;subst e;exact⟨_,rfl,r⟩
 | _,_,i+1,x,.cons _ t,e=>by
  obtain⟨u,h1,h2⟩:=Vals.get (i:=i) (x:=x) t (by simpa using e);exact⟨u,by simpa using h1,h2⟩
theorem Vals.set {x:V}(r:RelV x u):∀{xs:List V}{us:List Value}(i:Nat),Vals xs us->Vals (xs.set i x) (us.set i u)
 |_,_,_,.nil=> .nil
 |_,_,0,.cons _ t=> .cons r t
 |_,_,i+1,.cons q t=> .cons q (Vals.set r i t)
theorem Vals.append:∀{xs ys:List V}{us ws:List Value},Vals xs us->Vals ys ws->Vals (xs++ys) (us++ws)
 |_,_,_,_,.nil,s=>s
 |_,_,_,_,.cons r t,s=> .cons r (Vals.append t s)
theorem Vals.take:∀{xs:List V}{us:List Value}(n:Nat),Vals xs us->Vals (xs.take n) (us.take n)
 |_,_,0,_=> .nil
 |_,_,_+1,.nil=> .nil
 |_,_,n+1,.cons r t=> .cons r (Vals.take n t)
theorem Vals.drop:∀{xs:List V}{us:List Value}(n:Nat),Vals xs us->Vals (xs.drop n) (us.drop n)
 |_,_,0,r=>r
 |_,_,_+1,.nil=> .nil
 |_,_,n+1,.cons _ t=>Vals.drop n t
def nM:Option V->Option Value->Prop
 |some v,some u=>RelV v u
 |none,none=>True
 |_,_=>False
def KV {a:Type}:List (a×V)->List (a×Value)->Prop:=Paired λ(p:a×V) (q:a×Value)=>p.1=q.1/\RelV p.2 q.2
def kV:Key->V
 |.inl i=> .int i
 |.inr x=> .str x
inductive HO where
  |lst (xs:List V)
  |tup (xs:List V)
  |dK (kvs:List (Key×V)) | dT (kvs:List (List Key×V))
  |set (S:Int->Bool) (n:Nat)
  |ins (C dx:Addr) (fs:List (Str×V))
  |own (x:Addr)
  |xd (fs:List (Str×V))
  |met (f x:Addr)
  |rng (lo hi:Int)
  |frz (o:Obj) (u:HO)
  |tbl (ps:Array Value)
  |ext (φ:Heap->Prop)
variable {o:HO}
abbrev Hp:=Addr->Option HO
variable {H:Hp}{H':Hp}
def upd (H:Hp)(a:Addr)(o:HO):Hp:=λb=>if b=a then some o else H b
def aC:upd H a o a=some o:=by unfold upd;rw[if_pos rfl]
def aH (h:b≠a):upd H a o b=H b:=by unfold upd;rw[if_neg h]
def c4M {u:HO}(h:H a=some o)(h':H b=some u)(d:o≠u):a≠b:=by
 lia
def aO (h:H a=some o)(h':H b=none):a≠b:=by
 lia
section
variable (P:Program)(w:World)
def gO (H:Hp)(h:Heap)(a:Addr):HO->Prop
  |.lst xs=>xs.length<=sizeLine/\∃(its:List Value)(n:Nat),Vals xs its/\h.get? a=some { cls:= .type "list",data:= .seq its.toArray n }
  |.tup xs=>xs.length<=sizeLine/\∃its:List Value,Vals xs its/\IsTup h a its.toArray
  |.dK kvs=>kvs.length<=sizeLine/\(a == sysModules)=false/\∃vs,KV kvs vs/\h.DictOf (dW P w) a vs
  | .dT kvs=>kvs.length<=sizeLine/\(a == sysModules)=false/\∃xs:List (List Key×Addr×Value),
      Paired (λ(p:List Key×V) (q:List Key×Addr×Value)=>p.1=q.1/\H q.2.1=some (.tup (p.1.map kV))/\RelV p.2 q.2.2) kvs xs/\
      ∃o es ep,h.get? a=some o/\o.ExactDict/\o.data= .dict es ep/\es.toList=xs.map (entryOfKey (tupleKind (dW P w)))/\(xs.map (·.1)).Nodup
  |.set S n=>h.SetOf (intKind P w) a S n
  | .ins C dx fs=>H dx=some (.own a)/\fs.length<=1000/\dx≠a/\h.get? a=some (W.instObj C dx)/\
      ∃mA,h.Ns1 dx mA/\(∀f,nM (fs.lookup f) (mA f))/\PySem.Within mA (fs.map (·.1))
  |.own _=>∃o,h.get? a=some o
  |.xd fs=>∃mA,h.Ns1 a mA/\∀f,nM (fs.lookup f) (mA f)
  |.rng lo hi=>∃t u v,h.get? a=some { cls:= .type "range",data:= .fields #[.int lo t,.int hi u,.int 1 v] }
  |.frz o u=>h.get? a=some o/\gO H h a u
  |.tbl ps=>h.get? a=some { cls:= .none,data:= .fields ps }
  |.met f x=>h.get? a=some (W.methodObj (.ref f) (.ref x))
  |.ext φ=>φ h/\(∃o,h.get? a=some o)/\∀h1 h2:Heap,φ h1->(∀o,h1.get? a=some o->h2.get? a=some o)->φ h2
def HOk (H:Hp)(h:Heap):Prop:=∀a o,H a=some o->gO P w H h a o
end
def gO.lt (x:gO P w H h a o):a<h.objs.size:=by
 cases o with
 |lst xs=>obtain⟨_,_,_,_,e⟩:=x;exact Yx e
 |tup xs=>obtain⟨_,_,_,p⟩:=x;exact p.lt
 |dK kvs=>obtain⟨_,_,_,_,o,_,_,e,_⟩:=x;exact Yx e
 |dT kvs=>obtain⟨_,_,_,_,o,_,_,e,_⟩:=x;exact Yx e
 |set S n=>obtain⟨o,_,_,_,e,_⟩:=x;exact Yx e
 |ins C dx fs=>obtain⟨_,_,_,e,_⟩:=x;exact Yx e
 |own y=>obtain⟨_,e⟩:=x;exact Yx e
 |xd fs=>obtain⟨_,⟨_,_,_,e,_⟩,_⟩:=x;exact Yx e
 |rng lo hi=>obtain⟨_,_,_,e⟩:=x;exact Yx e
 |frz ob u=>obtain⟨e,_⟩:=x;exact Yx e
 |tbl ps=>exact Yx (x)
 |met f y=>exact Yx (x)
 |ext φ=>obtain⟨_,⟨_,e⟩,_⟩:=x;exact Yx e
theorem Paired.mapP {α β:Type}{F G:α->β->Prop}:∀{l₁:List α}{l₂:List β},Paired F l₁ l₂->(∀a b,F a b->G a b)->Paired G l₁ l₂
 |_,_,.nil,_=> .nil
 |_,_,.cons r t,f=> .cons (f _ _ r) (Paired.mapP t f)
theorem gO.stay (x:gO P w H h a o)(k:∀b u,(b=a\/H b=some (.own a))->h.get? b=some u->h'.get? b=some u)
  (ho:∀b,H b=some (.own a)->H' b=some (.own a)) (ht:∀b xs,H b=some (.tup xs)->H' b=some (.tup xs)):gO P w H' h' a o:=by
 induction o with
 |lst xs=>obtain⟨z,l,n,r,e⟩:=x;exact⟨z,l,n,r,k _ _ (.inl rfl) e⟩
 |tup xs=>obtain⟨z,l,r,g,e,c⟩:=x;exact⟨z,l,r,g,k _ _ (.inl rfl) e,c⟩
 |dK kvs=>obtain⟨z,y,B,r,g,i,j,e,c⟩:=x;exact⟨z,y,B,r,g,i,j,k _ _ (.inl rfl) e,c⟩
 | dT kvs=>
  obtain⟨z,y,xs,r,g,i,j,e,c⟩:=x;exact⟨z,y,xs,Paired.mapP r λp q z=>⟨z.1,ht _ _ z.2.1,z.2.2⟩,g,i,j,k _ _ (.inl rfl) e,c⟩
 |set S n=>obtain⟨g,i,j,t,e,c⟩:=x;exact⟨g,i,j,t,k _ _ (.inl rfl) e,c⟩
 | ins C dx fs=>
  obtain⟨d,z,ne,e,m,⟨s,i,j,D,c⟩,r⟩:=x;exact⟨ho _ d,z,ne,k _ _ (.inl rfl) e,m,⟨s,i,j,k _ _ (.inr d) D,c⟩,r⟩
 |own y=>obtain⟨g,e⟩:=x;exact⟨g,k _ _ (.inl rfl) e⟩
 |xd fs=>obtain⟨m,⟨s,i,j,e,c⟩,r⟩:=x;exact⟨m,⟨s,i,j,k _ _ (.inl rfl) e,c⟩,r⟩
 |rng lo hi=>obtain⟨t,u,v,e⟩:=x;exact⟨t,u,v,k _ _ (.inl rfl) e⟩
 |frz g u ih=>obtain⟨e,q⟩:=x;exact⟨k _ _ (.inl rfl) e,ih q⟩
 | tbl ps=>
  have e:=x;exact k a _ (.inl rfl) e
 | met f y=>
  have e:=x;exact k a _ (.inl rfl) e
 |ext φ=>obtain⟨p,⟨o,e⟩,A⟩:=x;exact⟨A _ _ p λo q=>k _ _ (.inl rfl) q,⟨o,k _ _ (.inl rfl) e⟩,A⟩
def HOk.lt (x:HOk P w H h)(e:H a=some o):a<h.objs.size:=(x a o e).lt
def HOk.fresh (x:HOk P w H h)(e:h.objs.size<=a):H a=none:=by
 cases q:H a with
 |none=>rfl
 |some u=>exact absurd (Yl (x.lt q) e) (Y1 _)
def HOk.kept (x:HOk P w H h)(k:∀b u,h.get? b=some u->h'.get? b=some u):HOk P w H h':=λa o e=>
 (x a o e).stay (λb u _ q=>k b u q) (λ_ q=>q) λ_ _ q=>q
def HOk.laid (x:HOk P w H h)(k:∀b u,h.get? b=some u->h'.get? b=some u)(g:h.objs.size<=a)(d:gO P w (upd H a o) h' a o):HOk P w (upd H a o) h':=λb u e=>by
 have f:=x.fresh g;by_cases hb:b=a
 ·subst hb;rw[aC]at e;cases e;exact d
 ·rw[aH hb]at e;exact(x b u e).stay (λc v _ q=>k c v q) (λc q=>by rw[aH (aO q f)];exact q) λc xs q=>by rw[aH (aO q f)];exact q
def Rd (H:Hp)(a:Addr)(u:HO):Prop:=H a=some u\/∃o,H a=some (.frz o u)
def Rd.ok {u:HO}(r:Rd H a u)(x:HOk P w H h):gO P w H h a u:=by
 rcases r with r | ⟨o,r⟩
 ·exact x a u r
 ·obtain⟨_,q⟩:=x a _ r;exact q
def Mut:Option HO->Prop
 |some (.lst _)=>True
 |some (.dK _)=>True
 |some (.dT _)=>True
 |some (.set _ _)=>True
 |some (.ins _ _ _)=>True
 |some (.ext _)=>True
 |_=>False
section
variable {x e:Addr}{o':HO}
theorem HOk.write (ok:HOk P w H h)(f:Mut (H x))(j:e=x\/H e=some (.own x))(k:∀b u,b≠e->h.get? b=some u->h'.get? b=some u)(g:∃u,h'.get? e=some u)
  (i:gO P w (upd H x o') h' x o'):HOk P w (upd H x o') h':=λb u q=>by
 have a:∀c y,H c=some (.own y)->c≠x:=λc y r z=>by subst z;rw[r]at f;exact f
 have d:∀c xs,H c=some (.tup xs)->c≠x:=λc xs r z=>by subst z;rw[r]at f;exact f
 by_cases hb:b=x
 ·subst hb;rw[aC]at q;cases q;exact i
 ·rw [aH hb]at q;by_cases hbe:b=e
  ·have l:H b=some (.own x):=by
    lia
   rw[q]at l;cases l;obtain⟨v,m⟩:=g;exact⟨v,by rw[hbe];exact m⟩
  ·refine(ok b u q).stay (λc v hc r=>k c v ?_ r) (λc r=>by rw[aH (a c b r)];exact r) λc xs r=>by rw[aH (d c xs r)];exact r
   grind
end
structure Un (fs ex:List Addr)(H H':Hp)(h h':Heap):Prop where
 keep:∀b o,h.get? b=some o->H b=none->b∉fs->b∉ex->h'.get? b=some o
 slot:∀b o,h.get? b=some o->H b=none->b∈fs->b∉ex->∃sl,h'.get? b=some { o with slots:=sl }
 free:∀b o,h.get? b=some o->H b=none->b∉ex->H' b=none
 there:∀b o,h.get? b=some o->b∉ex->∃o',h'.get? b=some o'
 tups:∀b xs,H b=some (.tup xs)->H' b=some (.tup xs)
 frzs:∀b o u,H b=some (.frz o u)->H' b=some (.frz o u)
 tbls:∀b ps,H b=some (.tbl ps)->∃more,H' b=some (.tbl (ps++more))
section
variable {fs fs' ex ex':List Addr}{H1 H2:Hp}{h1 h2:Heap}{x e:Addr}
def Un.any (u:Un fs ex H H1 h h1){a:Obj}(q:h.get? b=some a)(n:H b=none)(c:b∉ex):∃sl,h1.get? b=some { a with slots:=sl }:=by
 by_cases hb:b∈fs
 ·exact u.slot b a q n hb c
 ·exact⟨a.slots,u.keep b a q n hb c⟩
def Un.kept (k:∀b u,h.get? b=some u->h'.get? b=some u):Un fs ex H H h h':=
 ⟨λb a q _ _ _=>k b a q,λb a q _ _ _=>⟨a.slots,k b a q⟩,λ_ _ _ n _=>n,λb a q _=>⟨a,k b a q⟩,λ_ _ q=>q,λ_ _ _ q=>q,λ_ c q=>⟨#[],by rw[q];simp⟩⟩
def Un.refl:Un fs ex H H h h:=Un.kept λ_ _ q=>q
theorem Un.laid (k:∀b u,h.get? b=some u->h'.get? b=some u)(hp:h.objs.size<=a)(hn:H a=none):Un fs ex H (upd H a o) h h' where
 keep:=λb u q _ _ _=>k b u q
 slot:=λb u q _ _ _=>⟨u.slots,k b u q⟩
 free:=λb u q n _=>by rw[aH (YQ (Yl (Yx q) hp))];exact n
 there:=λb u q _=>⟨u,k b u q⟩
 tups:=λb xs q=>by rw[aH (aO q hn)];exact q
 frzs:=λb u xs q=>by rw[aH (aO q hn)];exact q
 tbls:=λb ps q=>⟨#[],by rw[aH (aO q hn),q];simp⟩
def Un.write (a:Mut (H x))(i:e=x\/H e=some (.own x))(k:∀b u,b≠e->h.get? b=some u->h'.get? b=some u)(c:∃u,h'.get? e=some u):Un fs ex H (upd H x o) h h':=by
 have f:∀b,H b=none->b≠x:=λb n z=>by subst z;rw[n]at a;exact a
 have g:∀b,H b=none->b≠e:=λb n z=>by
  lia
 have d:∀b u,H b=some u->¬ Mut (some u)->b≠x:=λb u q nm z=>by lia
 refine⟨λb u q n _ _=>k b u (g b n) q,λb u q n _ _=>⟨u.slots,k b u (g b n) q⟩,λb u q n _=>by rw[aH (f b n)];exact n,λb u q _=>?_,
  λb xs q=>by rw[aH (d b _ q λz=>z)];exact q,λb u xs q=>by rw[aH (d b _ q λz=>z)];exact q,λb j q=>⟨#[],by rw[aH (d b _ q λz=>z),q];simp⟩⟩
 by_cases hbe:b=e
 ·subst hbe;exact c
 ·exact⟨u,k b u hbe q⟩
end
def trk (h:Heap)(H:Hp):List Addr:=(List.range h.objs.size).filter λa=>(H a).isSome
def yL (h:Heap)(H:Hp):Heap:=W.hideAll h (trk h H)
def a8A (h:Heap)(H:Hp):(yL h H).objs.size=h.objs.size:=W.hideAll_size _ _
def b2O {o:Obj}(e:h.get? b=some o)(n:H b=none):(yL h H).get? b=some o:=
 W.hideAll_get _ e λa=>by
  have q:=(List.mem_filter.mp a).2;rw[n]at q;simp at q
def b6F {o:Obj}(e:(yL h H).get? b=some o):h.get? b=some o/\H b=none:=by
 have a:=W.of_hideAll (trk h H) e;refine⟨a,?_⟩;cases q:H b with
 |none=>rfl
 | some x=>
  have z:(yL h H).get? b=none:=W.hideAll_none (trk h H) (List.mem_filter.mpr ⟨Jv.mpr (Yx a),by simp[q]⟩);rw[z]at e;cases e
structure Mod (K:W.Frag)(mg:Str->Option Value)(base:Heap):Prop where
 kin:K.In base
 glob:base.Ns mainGlobals mg
 blt:∃mb,base.Ns builtinsNs mb/\∀x:Str,x≠"__name__"->mb x=bootBuiltins x
 nolimit:base.NoLimit
structure Cx where
 prog:Program
 w:World
 K:W.Frag
 mg:Str->Option Value
 base:Heap
 A:Around
 N:List Str
 s₀:Shared
 H₀:Hp
 env:Env
 outer:List Env
 stack:List Env
 ex:List Addr
 fn:Str->Bool
 calm:Bool
 pn:List (Addr×Obj)
 xe:Value->Shared->Prop
variable {X:Cx}
def frs (l:List Env):List Addr:=l.filterMap (·.frame)
abbrev Cx.fs (X:Cx):List Addr:=frs X.outer
def Vis (a:Scope)(x:Str):Prop:=a.names.lookup x=some .local\/a.names.lookup x=some .cell\/a.names.lookup x=some .free
def Loc (a:Scope)(x:Str):Prop:=a.names.lookup x=some .local\/a.names.lookup x=some .cell
def Look (env:Env)(h:Heap)(m:Str->Option Value)(x:Str)(u:Value):Prop:=
 (env.kindOf x=some .local/\m x=some u)\/((env.kindOf x=some .cell\/env.kindOf x=some .free)/\∃c,env.cells.lookup x=some c/\h.IsCell c (some u))
structure Cx.Ok (X:Cx):Prop where
 mod:Mod X.K X.mg X.base
 kind:X.env.scope.kind= .function
 glob:X.env.globals=mainGlobals
 blt:X.env.builtins=builtinsNs
 above:X.s₀.heap.objs.size<=X.env.locals
 inj:∀x y c,X.env.cells.lookup x=some c->X.env.cells.lookup y=some c->x=y
 has:∀x,(X.env.kindOf x=some .cell\/X.env.kindOf x=some .free)->∃c,X.env.cells.lookup x=some c
 cab:∀x c,X.fn x=true->X.env.cells.lookup x=some c->X.s₀.heap.objs.size<=c
 hd:X.calm=true->X.A.handled=none
 frames:X.A.frames=some X.stack
 stk:X.stack=X.outer\/(X.stack=X.env::X.outer/\X.env.frame=some X.env.locals)
 exf:∀b∈X.ex,b≠X.env.locals/\∀x c,X.env.cells.lookup x=some c->c≠b
 bs:∀b o,X.base.get? b=some o->X.s₀.heap.get? b=some o/\X.H₀ b=none
 bsz:X.base.objs.size<=X.s₀.heap.objs.size
 noex:∀b o,X.base.get? b=some o->b∉X.ex
 exfs:∀b∈X.ex,b∉X.fs
 funs:X.s₀.heap.FunFrames X.base X.outer
 frf:∀b∈X.fs,X.H₀ b=none
structure Inv (X:Cx)(pins:List (Addr×Obj))(σ:List (Option V))(H:Hp)(s:Shared):Prop where
 ok:X.Ok
 os:s.os=X.s₀.os
 bare:AllBare s.gens
 base:Un X.fs X.ex X.H₀ H X.s₀.heap s.heap
 loc:∃m,s.heap.Ns X.env.locals m/\∀(i:Nat)(x:Str)(v:V),X.N[i]? =some x->σ[i]? =some (some v)->Vis X.env.scope x->∃u,RelV v u/\Look X.env s.heap m x u
 cell:∀x c,X.env.cells.lookup x=some c->∃v,s.heap.IsCell c v
 free:H X.env.locals=none
 freeC:∀x c,X.env.cells.lookup x=some c->H c=none
 pin:∀p∈X.pn++pins,s.heap.get? p.1=some p.2/\H p.1=none/\p.1≠X.env.locals/\p.1∉X.fs/\∀v,p.2.data≠ .cell v
 hok:HOk X.prog X.w H s.heap
 len:σ.length=X.N.length
section
variable {σ:List (Option V)}
def Cx.Ok.nofr (ok:X.Ok){o:Obj}(e:X.base.get? b=some o):b∉X.fs:=λa=>by
 have:=(ok.funs.mem a).1;rw[e]at this;cases this
def Inv.bs (I:Inv X pins σ H s):∀b o,X.base.get? b=some o->s.heap.get? b=some o/\H b=none:=λb o e=>
 ⟨I.base.keep b o (I.ok.bs b o e).1 (I.ok.bs b o e).2 (I.ok.nofr e) (I.ok.noex b o e),I.base.free b o (I.ok.bs b o e).1 (I.ok.bs b o e).2 (I.ok.noex b o e)⟩
def Inv.bk (I:Inv X pins σ H s):∀b o,X.base.get? b=some o->s.heap.get? b=some o:=λb o e=>(I.bs b o e).1
def Inv.mod (I:Inv X pins σ H s):Mod X.K X.mg X.base:=I.ok.mod
def Inv.kIn (I:Inv X pins σ H s):X.K.In s.heap:=I.ok.mod.kin.keeps I.bk
def Inv.fr (I:Inv X pins σ H s):∃m,Fr X.base X.env.locals s.heap m:=
 let ⟨m,hn,_⟩:=I.loc
 ⟨m,hn,I.bk,YK I.ok.bsz I.ok.above⟩
def Inv.lt (I:Inv X pins σ H s):X.env.locals<s.heap.objs.size:=let ⟨_,hn,_⟩:=I.loc;hn.lt
def Inv.sz (I:Inv X pins σ H s):X.s₀.heap.objs.size<=s.heap.objs.size:=YK I.ok.above (XF I.lt)
def Inv.nofs (I:Inv X pins σ H s)(h:s.heap.objs.size<=a):a∉X.fs:=λb=>by
 obtain⟨_,o,c,_⟩:=I.ok.funs.mem b;exact absurd (Yl (Yx c) (YK I.sz h)) (Y1 _)
def Inv.cne (I:Inv X pins σ H s):∀x c,X.env.cells.lookup x=some c->c≠X.env.locals:=λx c e z=>by
 obtain⟨v,o,d⟩:=I.cell x c e;obtain⟨m,⟨f,g⟩,_⟩:=I.loc;lia
def Inv.funs (I:Inv X pins σ H s):s.heap.FunFrames X.base X.outer:=by
 have all:∀(l:List Env),(∀b∈frs l,b∈X.fs)->X.s₀.heap.FunFrames X.base l->s.heap.FunFrames X.base l:=by
  intro l;induction l with
  |nil=>intro _ _;trivial
  | cons env r ih=>
   intro f g;obtain⟨h,⟨L,o,a,i,j,hd⟩,k⟩:=g;have c:=f L (by unfold frs;grind);obtain⟨m,e⟩:=I.base.slot L o j (I.ok.frf L c) c λz=>I.ok.exfs L z c;exact⟨h,⟨L,_,a,i,e,hd⟩,ih (λb d=>f b (by unfold frs;rw[List.filterMap_cons,a];exact Yp _ d)) k⟩
 exact all X.outer (λ_ d=>d) I.ok.funs
def Inv.stack (I:Inv X pins σ H s):s.heap.FunFrames X.base X.stack:=by
 rcases I.ok.stk with e | ⟨e,a⟩
 ·rw[e];exact I.funs
 ·rw[e];obtain⟨m,b,_⟩:=I.loc;exact .cons (by rw[I.ok.kind];decide) a b (Heap.get?_none_of_le (YK I.ok.bsz I.ok.above)) I.funs
def Inv.stkSub (I:Inv X pins σ H s):∀b∈frs X.stack,b∈X.env.locals::X.fs:=λb a=>by
 rcases I.ok.stk with e | ⟨e,c⟩
 ·grind
 ·rw[e]at a;unfold frs at a;rw[List.filterMap_cons,c]at a;exact a
def Inv.stkFree (I:Inv X pins σ H s):∀b∈frs X.stack,H b=none:=λb hb=>by
 rcases YL.mp (I.stkSub b hb) with e | hb
 ·rw[e];exact I.free
 ·obtain⟨_,o,a,_⟩:=I.ok.funs.mem hb;exact I.base.free b o a (I.ok.frf b hb) λz=>I.ok.exfs b z hb
theorem Inv.step {g':Array GenState}{t':Nat}{d':Drawn}{ch:List Addr}(I:Inv X pins σ H s)
  (g:∀b∈ch,(b∈X.ex\/X.s₀.heap.objs.size<=b)/\b≠X.env.locals/\(∀x c,X.env.cells.lookup x=some c->c≠b)/\∀p∈X.pn++pins,p.1≠b)
  (keep:∀b o,b≠X.env.locals->b∉X.fs->b∉ch->s.heap.get? b=some o->H b=none->h'.get? b=some o)
  (A:∀b o,b≠X.env.locals->b∈X.fs->b∉ch->s.heap.get? b=some o->H b=none->∃sl,h'.get? b=some { o with slots:=sl }) (f:∀b o,b∉ch->s.heap.get? b=some o->H b=none->H' b=none)
  (B:∀b o,b∉ch->s.heap.get? b=some o->∃o',h'.get? b=some o')
  (E:∀b xs,H b=some (.tup xs)->H' b=some (.tup xs)) (F:∀b o u,H b=some (.frz o u)->H' b=some (.frz o u)) (G:∀b ps,H b=some (.tbl ps)->∃more,H' b=some (.tbl (ps++more)))
  (ns:∀m,s.heap.Ns X.env.locals m->h'.Ns X.env.locals m) (L:HOk X.prog X.w H' h') (P:AllBare g') :
  Inv X pins σ H' { s with heap:=h',gens:=g',drawn:=d',toks:=t' }:=by
 have J:∀b o,X.s₀.heap.get? b=some o->b≠X.env.locals:=λb o e=>YQ (Yl (Yx e) I.ok.above);have t:∀b o,X.s₀.heap.get? b=some o->b∉X.ex->b∉ch:=λb o e a C=>by
  rcases (g b C).1 with z | z
  ·exact a z
  ·exact absurd (Yl (Yx e) z) (Y1 _)
 have h:∀x c,X.env.cells.lookup x=some c->∀v,s.heap.IsCell c v->h'.IsCell c v:=λx c e v ⟨o,D,hd⟩=>by
  have j:c∉ch:=λz=>(g c z).2.2.1 x c e rfl;by_cases hc:c∈X.fs
  ·obtain⟨sl,q⟩:=A c o (I.cne x c e) hc j D (I.freeC x c e);exact⟨_,q,hd⟩
  ·exact⟨o,keep c o (I.cne x c e) hc j D (I.freeC x c e),hd⟩
 refine⟨I.ok,I.os,P,⟨λb o e n C a=>?_,λb o e n C a=>?_,λb o e n a=>?_,λb o e a=>?_,λb xs e=>E b xs (I.base.tups b xs e),λb o xs e=>F b o xs (I.base.frzs b o xs e),λb ps e=>?_⟩,?_,λx c e=>?_,?_,λx c e=>?_,λp N=>?_,L,I.len⟩
 ·exact keep b o (J b o e) C (t b o e a) (I.base.keep b o e n C a) (I.base.free b o e n a)
 ·obtain⟨sl,y⟩:=I.base.slot b o e n C a;obtain⟨M,K⟩:=A b _ (J b o e) C (t b o e a) y (I.base.free b o e n a);exact⟨M,K⟩
 ·obtain⟨o',y⟩:=I.base.there b o e a;exact f b o' (t b o e a) y (I.base.free b o e n a)
 ·obtain⟨o',y⟩:=I.base.there b o e a;exact B b o' (t b o e a) y
 ·obtain⟨Q,y⟩:=I.base.tbls b ps e;grind
 ·obtain⟨m,S,T⟩:=I.loc;refine⟨m,ns m S,λi x v y K U=>?_⟩;obtain⟨u,r,l⟩:=T i x v y K U;refine⟨u,r,?_⟩;rcases l with l | ⟨k,c,e,z⟩
  ·exact .inl l
  ·exact .inr ⟨k,c,e,h x c e _ z⟩
 ·obtain⟨v,z⟩:=I.cell x c e;exact⟨v,h x c e v z⟩
 ·obtain⟨m,⟨o,_,_,D,_⟩,_⟩:=I.loc;exact f _ o (λz=>(g _ z).2.1 rfl) D I.free
 ·obtain⟨v,o,D,hd⟩:=I.cell x c e;exact f c o (λz=>(g c z).2.2.1 x c e rfl) D (I.freeC x c e)
 ·obtain⟨e,n,ne,O,d⟩:=I.pin p N;grind
def Inv.un {t':Nat}(I:Inv X pins σ H s)(u:Un X.fs [] H H' s.heap h')(c:HOk X.prog X.w H' h'):Inv X pins σ H' { s with heap:=h',toks:=t' }:=by
 obtain⟨m,⟨o,l,p,h,r⟩,_⟩:=id I.loc;obtain⟨q,i⟩:=u.any h I.free (by simp)
 exact I.step (ch:=[]) (λ_ z=>nomatch z) (λb o _ d _ e n=>u.keep b o e n d (by simp)) (λb o _ d _ e n=>u.slot b o e n d (by simp)) (λb o _ e n=>u.free b o e n (by simp)) (λb o _ e=>u.there b o e (by simp)) u.tups u.frzs u.tbls (λt j=>by
  obtain⟨v,f,g,a,k⟩:=j;rw[h]at a;cases a
  exact⟨_,f,g,i,k⟩) c I.bare
theorem Inv.call {g':Array GenState}{t':Nat}{d':Drawn}{ch:List Addr}(I:Inv X pins σ H s)(u:Un (frs X.stack) ch H H' s.heap h')(g:HOk X.prog X.w H' h')(l:AllBare g')
  (d:∀b∈ch,(b∈X.ex\/X.s₀.heap.objs.size<=b)/\b≠X.env.locals/\(∀x c,X.env.cells.lookup x=some c->c≠b)/\∀p∈X.pn++pins,p.1≠b) :
  Inv X pins σ H' { s with heap:=h',gens:=g',drawn:=d',toks:=t' }:=by
 obtain⟨m,⟨o,y,A,k,r⟩,_⟩:=id I.loc;obtain⟨B,h⟩:=u.any k I.free λz=>(d _ z).2.1 rfl
 exact I.step d (λb o h q a e n=>u.keep b o e n (λz=>(YL.mp (I.stkSub b z)).elim h q) a) (λb o _ _ a e n=>u.any e n a) (λb o a e n=>u.free b o e n a) (λb o a e=>u.there b o e a) u.tups u.frzs u.tbls (λC t=>by
  obtain⟨D,i,j,f,v⟩:=t;rw[k]at f;cases f
  exact⟨_,i,j,h,v⟩) g l
theorem Inv.turned {t':Nat}{it:Addr}(I:Inv X pins σ H s)(k:∀b o,b≠it->s.heap.get? b=some o->h'.get? b=some o)(g:H it=none)(f:it≠X.env.locals)
  (h:it∈X.ex\/X.s₀.heap.objs.size<=it) (i:∀x c,X.env.cells.lookup x=some c->c≠it) (j:∀p∈X.pn++pins,p.1≠it):Inv X pins σ H { s with heap:=h',toks:=t' }:=by
 have d:∀b u,H b=some u->b≠it:=λb u e z=>by rw[z,g]at e;cases e
 refine I.step (ch:=[it]) (λb l=>?_) (λb o _ _ a e _=>k b o (λz=>a (by simp[z])) e) (λb o _ _ a e _=>⟨o.slots,k b o (λz=>a (by simp[z])) e⟩) (λ_ _ _ _ n=>n)
  (λb o a e=>⟨o,k b o (λz=>a (by simp[z])) e⟩) (λ_ _ e=>e) (λ_ _ _ e=>e) (λb B e=>⟨#[],by rw[e];simp⟩) (λm t=>?_) (λb u e=>?_) I.bare
 ·grind
 ·obtain⟨o,w,y,A,r⟩:=t;exact⟨o,w,y,k _ o (Va f) A,r⟩
 ·refine(I.hok b u e).stay (λc v a q=>k c v ?_ q) (λ_ q=>q) λ_ _ q=>q;lia
def Inv.tok (I:Inv X pins σ H s)(t:Nat):Inv X pins σ H { s with toks:=t }:=I.un Un.refl I.hok
def Inv.kept {t':Nat}(I:Inv X pins σ H s)(k:∀b u,s.heap.get? b=some u->h'.get? b=some u):Inv X pins σ H { s with heap:=h',toks:=t' }:=I.un (Un.kept k) (I.hok.kept k)
theorem Inv.laid {t':Nat}(I:Inv X pins σ H s)(k:∀b u,s.heap.get? b=some u->h'.get? b=some u)(c:s.heap.objs.size<=a)(d:gO X.prog X.w (upd H a o) h' a o):
  Inv X pins σ (upd H a o) { s with heap:=h',toks:=t' }:=I.un (Un.laid k c (I.hok.fresh c)) (I.hok.laid k c d)
theorem Inv.write {x e:Addr}{o:HO}{t':Nat}(I:Inv X pins σ H s)(d:Mut (H x))(f:e=x\/H e=some (.own x))(k:∀b u,b≠e->s.heap.get? b=some u->h'.get? b=some u)(a:∃u,h'.get? e=some u)
  (c:gO X.prog X.w (upd H x o) h' x o):Inv X pins σ (upd H x o) { s with heap:=h',toks:=t' }:=I.un (Un.write d f k a) (I.hok.write d f k a c)
def Inv.weak {σ':List (Option V)}(I:Inv X pins σ H s)(a:σ'.length=σ.length)(w:∀(i:Nat) v,σ'[i]? =some (some v)->σ[i]? =some (some v)):Inv X pins σ' H s:=
 ⟨I.ok,I.os,I.bare,I.base,let ⟨m,hn,hl'⟩:=I.loc;⟨m,hn,λi x v b c d=>hl' i x v b (w i v c) d⟩,I.cell,I.free,I.freeC,I.pin,I.hok,a.trans I.len⟩
def Inv.pins_of {a:List (Addr×Obj)}(I:Inv X pins σ H s)(h:∀p∈a,s.heap.get? p.1=some p.2/\H p.1=none/\p.1≠X.env.locals/\p.1∉X.fs/\∀v,p.2.data≠ .cell v):Inv X a σ H s:=
 ⟨I.ok,I.os,I.bare,I.base,I.loc,I.cell,I.free,I.freeC,λp b=>(YM.mp b).elim (λz=>I.pin p (XG _ z)) (h p),I.hok,I.len⟩
def a0U {N:List Str}(c:N.Nodup)(a:N[i]? =some x)(b:N[j]? =some x):i=j:=by
 obtain⟨f,d⟩:=Ye.mp a;obtain⟨g,e⟩:=Ye.mp b;exact(List.getElem_inj c).mp (d.trans e.symm)
theorem vM {M:Model}{A:Around}{E:Value->Shared->Prop}{i:Nat}{x:Str}{v:V}{u:Value}{Q:Unit->Shared->Prop}(I:Inv X pins σ H s)(hN:X.N.Nodup)(K:X.N[i]? =some x)(t:Loc X.env.scope x)(r:RelV v u)
  (h:∀s',Inv X pins (σ.set i (some v)) H s'->(∃a,Heap.SameBut a s.heap s'.heap/\(a=X.env.locals\/X.env.cells.lookup x=some a))->Q () s') (hf:X.fn x=true\/X.env.scope.names.lookup x=some .local:=by first | exact .inl rfl | exact .inr rfl | assumption):wpAny M A (storeName X.env x u) Q E s:=by
 obtain⟨m,U,hl⟩:=id I.loc;have L:(X.env.scope.kind == .class || (X.env.scope.kind == .module && X.env.locals != X.env.globals))=false:=by rw[I.ok.kind];rfl
 have D:i<σ.length:=by rw[I.len];exact(Ye.mp K).1
 have cne:=I.cne;have g:∀{a:Addr}{J:Heap},(∃o,s.heap.get? a=some o/\H a=none)->Heap.SameBut a s.heap J->HOk X.prog X.w H J:=λ{a J} ha f b ob e=>by
  obtain⟨_,_,B⟩:=ha;refine(I.hok b ob e).stay (λc S hc q=>(f.2 c ?_).trans q) (λ_ q=>q) λ_ _ q=>q;rintro rfl;rcases hc with rfl | hc
  ·rw[B]at e;cases e
  ·rw[B]at hc;cases hc
 rcases t with hk | hk
 ·refine wpAny_storeName_local hk U (λJ W f=>?_) L;obtain⟨oL,_,_,Y,_⟩:=id U;refine h _ ⟨I.ok,I.os,I.bare,⟨λb o e n F t=>?_,λb o e n F t=>?_,I.base.free,λb o e t=>?_,I.base.tups,I.base.frzs,I.base.tbls⟩,⟨_,W,λj y Z l C e3=>?_⟩,λy c e=>?_,I.free,I.freeC,λp hp=>?_,g ⟨oL,Y,I.free⟩ f,by simpa using I.len⟩ ⟨_,f,.inl rfl⟩
  ·exact(f.2 b (YQ (Yl (Yx e) I.ok.above))).trans (I.base.keep b o e n F t)
  ·obtain⟨sl,l⟩:=I.base.slot b o e n F t;exact⟨sl,(f.2 b (YQ (Yl (Yx e) I.ok.above))).trans l⟩
  ·obtain⟨o',l⟩:=I.base.there b o e t;exact⟨o',(f.2 b (YQ (Yl (Yx e) I.ok.above))).trans l⟩
  ·by_cases hj:j=i
   ·subst hj;rw[K]at l;cases l;rw[List.getElem?_set_self D]at C;cases C;exact⟨u,r,.inl ⟨hk,by simp⟩⟩
   ·rw [Y9 (Va hj)]at C;obtain⟨u',r',q⟩:=hl j y Z l C e3;refine⟨u',r',?_⟩;rcases q with ⟨k,e⟩ | ⟨k,c,e,z⟩
    ·refine .inl ⟨k,?_⟩;have:y≠x:=λe=>hj (a0U hN l (e▸K));simp[this,e]
    ·exact .inr ⟨k,c,e,z.sameBut f (cne y c e)⟩
  ·obtain⟨S,z⟩:=I.cell y c e;exact⟨S,z.sameBut f (cne y c e)⟩
  ·obtain⟨e,n,ne,nf,d⟩:=I.pin p hp;exact⟨(f.2 p.1 ne).trans e,n,ne,nf,d⟩
 ·have G:X.fn x=true:=by
   rcases hf with z | z
   ·exact z
   ·rw[z]at hk;cases hk
  obtain⟨c,hc⟩:=I.ok.has x (.inl hk);obtain⟨S,z⟩:=I.cell x c hc;refine wpAny_storeName_cell I.ok.kind hk hc z (λJ O f=>?_);obtain⟨oc,P,R⟩:=id z;refine h { s with heap:=J } ⟨I.ok,I.os,I.bare,⟨λb o e n F t=>?_,λb o e n F t=>?_,I.base.free,λb o e t=>?_,I.base.tups,I.base.frzs,I.base.tbls⟩,⟨m,U.sameBut f (Va (cne x c hc)),λj y Z l C e3=>?_⟩,λy T e=>?_,I.free,I.freeC,λp hp=>?_,g ⟨oc,P,I.freeC x c hc⟩ f,by simpa using I.len⟩ ⟨c,f,.inr hc⟩
  ·exact(f.2 b (YQ (Yl (Yx e) (I.ok.cab x c G hc)))).trans (I.base.keep b o e n F t)
  ·obtain⟨sl,l⟩:=I.base.slot b o e n F t;exact⟨sl,(f.2 b (YQ (Yl (Yx e) (I.ok.cab x c G hc)))).trans l⟩
  ·obtain⟨o',l⟩:=I.base.there b o e t;exact⟨o',(f.2 b (YQ (Yl (Yx e) (I.ok.cab x c G hc)))).trans l⟩
  ·by_cases hj:j=i
   ·subst hj;rw[K]at l;cases l;rw[List.getElem?_set_self D]at C;cases C;exact⟨u,r,.inr ⟨.inl hk,c,hc,O⟩⟩
   ·rw [Y9 (Va hj)]at C;obtain⟨u',r',q⟩:=hl j y Z l C e3;refine⟨u',r',?_⟩;rcases q with q | ⟨k,T,e,z'⟩
    ·exact .inl q
    ·refine .inr ⟨k,T,e,z'.sameBut f ?_⟩;rintro rfl;exact hj (a0U hN l (I.ok.inj _ _ _ e hc▸K))
  ·by_cases hcc:T=c
   ·subst hcc;exact⟨_,O⟩
   ·obtain⟨w2,z2⟩:=I.cell y T e;exact⟨w2,z2.sameBut f hcc⟩
  ·obtain⟨e,n,ne,nf,d⟩:=I.pin p hp;refine⟨(f.2 p.1 ?_).trans e,n,ne,nf,d⟩;intro q;rw[q,P]at e;have q':oc=p.2:=Yu e;exact d S (by rw[<-q'];exact R)
theorem pI {M:Model}{A:Around}{E:Value->Shared->Prop}{i:Nat}{x:Str}{v:V}{u:Value}{Q:Unit->Shared->Prop}(I:Inv X pins σ H s)(a:X.N.Nodup)(b:X.N[i]? =some x)(c:Loc X.env.scope x)(r:RelV v u)
  (h:∀s',Inv X pins (σ.set i (some v)) H s'->Q () s') (d:X.fn x=true\/X.env.scope.names.lookup x=some .local:=by first | exact .inl rfl | exact .inr rfl | assumption):wpAny M A (storeName X.env x u) Q E s:=
 vM I a b c r (λs' e _=>h s' e) d
theorem Inv.call' {a:Shared}{ch:List Addr}(I:Inv X pins σ H s)(g:a.os=s.os)(u:Un (frs X.stack) ch H H' s.heap a.heap)(d:HOk X.prog X.w H' a.heap)(h:AllBare a.gens)
  (f:∀b∈ch,(b∈X.ex\/X.s₀.heap.objs.size<=b)/\b≠X.env.locals/\(∀x c,X.env.cells.lookup x=some c->c≠b)/\∀p∈X.pn++pins,p.1≠b):Inv X pins σ H' a:=by
 obtain⟨j,g'⟩:=a;subst g;exact I.call u d h f
end
abbrev XK:=Value->Option Addr->Hp->Prop
abbrev St:=List (Option V)
variable {σ:St}
abbrev VK:=V->Hp->Prop
abbrev TE:=St->Hp->VK->Prop
variable {te:TE}{ta:TE}{tb:TE}
abbrev TT:=St->Hp->(Bool->Hp->Prop)->Prop
abbrev TA:=St->Hp->(List V->Hp->Prop)->Prop
variable {t:TA}
structure Ends where
 nx:St->Hp->Prop
 rt:VK
 bk:St->Hp->Prop:=λ_ _=>False
 ct:St->Hp->Prop:=λ_ _=>False
abbrev TS:=Ends->St->Hp->Prop
def EP (X:Cx)(a:List (Addr×Obj))(σ:St)(Q:VK)(u:Value)(b:Shared):Prop:=∃v H',Inv X a σ H' b/\RelV v u/\Q v H'
def TP (X:Cx)(a:List (Addr×Obj))(σ:St)(Q:Bool->Hp->Prop)(b:Bool)(c:Shared):Prop:=∃H',Inv X a σ H' c/\Q b H'
def AP (X:Cx)(a:List (Addr×Obj))(σ:St)(Q:List V->Hp->Prop)(us:List Value)(b:Shared):Prop:=∃vs H',Inv X a σ H' b/\Vals vs us/\Q vs H'
def SP (X:Cx)(pins:List (Addr×Obj))(D:Ends)(f:Flow)(s':Shared):Prop:=
 match f with
 |.next=>∃σ' H',Inv X pins σ' H' s'/\D.nx σ' H'
 |.brk=>∃σ' H',Inv X pins σ' H' s'/\D.bk σ' H'
 |.cont=>∃σ' H',Inv X pins σ' H' s'/\D.ct σ' H'
 |.ret u=>∃v σ' H',Inv X pins σ' H' s'/\RelV v u/\D.rt v H'
def PE (X:Cx)(e:Expr)(t:TE):Prop:=
 ∀(pins:List (Addr×Obj))(s:Shared)(σ:St)(H:Hp)(Q:VK),Inv X pins σ H s->t σ H Q->wpAny (model X.prog X.w) X.A (eval e X.env) (EP X pins σ Q) X.xe s
def PT (X:Cx)(e:Expr)(t:TT):Prop:=
 ∀(pins:List (Addr×Obj))(s:Shared)(σ:St)(H:Hp)(Q:Bool->Hp->Prop),Inv X pins σ H s->t σ H Q->wpAny (model X.prog X.w) X.A (isTrue e X.env (eval e X.env)) (TP X pins σ Q) X.xe s
def PW (X:Cx)(e:Expr)(t:TT):Prop:=
 ∀(whole:Sem Value)(pins:List (Addr×Obj))(s:Shared)(σ:St)(H:Hp)(Q:Bool->Hp->Prop),Inv X pins σ H s->t σ H Q->wpAny (model X.prog X.w) X.A (isTrue e X.env whole) (TP X pins σ Q) X.xe s
def PW.pt {t:TT}(h:PW X e t):PT X e t:=h _
def PA (X:Cx)(a:List Expr)(t:TA):Prop:=
 ∀(pos:Pos)(pins:List (Addr×Obj))(s:Shared)(σ:St)(H:Hp)(Q:List V->Hp->Prop),Inv X pins σ H s->t σ H Q->wpAny (model X.prog X.w) X.A (spliced (backTo pos (starEach a X.env))) (AP X pins σ Q) X.xe s
def PS (X:Cx)(st:Stmt)(t:TS):Prop:=
 ∀(pins:List (Addr×Obj))(s:Shared)(σ:St)(H:Hp)(D:Ends),Inv X pins σ H s->t D σ H->wpAny (model X.prog X.w) X.A (exec st X.env) (SP X pins D) X.xe s
def PSs (X:Cx)(st:List Stmt)(t:TS):Prop:=
 ∀(pins:List (Addr×Obj))(s:Shared)(σ:St)(H:Hp)(D:Ends),Inv X pins σ H s->t D σ H->wpAny (model X.prog X.w) X.A (execs st X.env) (SP X pins D) X.xe s
def thn {b:Type}{t:Sem b}{Q c:b->Shared->Prop}{M:Model}(h:wpAny M A t Q E s)(d:∀a s,Q a s->c a s):wpAny M A t c E s:=Y4 h d λ_ _ x=>x
section
theorem bin {a b:Expr}{e g:TE}(j:PE X a e)(k:PE X b g){c:List (Addr×Obj)}{s:Shared}{σ:St}{H:Hp}{R:V->V->Hp->Prop}(I:Inv X c σ H s)(h:e σ H λx H1=>g σ H1 λy H2=>R x y H2)
  {i:Type} {Q:i->Shared->Prop} {f:Value->Value->Sem i}
  (l:∀v u s2 x y H2,Inv X c σ H2 s2->RelV x v->RelV y u->R x y H2->wpAny (model X.prog X.w) X.A (f v u) Q X.xe s2) :
  wpAny (model X.prog X.w) X.A (eval a X.env) (λv s₁=>wpAny (model X.prog X.w) X.A (eval b X.env) (λu s₂=>wpAny (model X.prog X.w) X.A (f v u) Q X.xe s₂) X.xe s₁) X.xe s:=by
 refine thn (j c s σ H _ I h) λv m d=>?_;obtain⟨x,H1,n,o,p⟩:=d;refine thn (k c m σ H1 _ n p) λu s2 d=>?_;obtain⟨y,H2⟩:=d;grind
def b4M (i:Nat):TE:=λa H Q=>∃v,a[i]? =some (some v)/\Q v H
def tC (v:V):TE:=λ_ H Q=>Q v H
def a3C (g:X.N[i]? =some x)(j:Vis X.env.scope x)(hd:(x == ("__debug__":Str))=false:=by decide)(d:(x == ("__classdict__":Str))=false:=by decide):PE X (.Name x pos) (b4M i):=by
 intro b s k H Q I h;obtain⟨v,e,h⟩:=h;obtain⟨m,n,o⟩:=I.loc;obtain⟨u,r,l⟩:=o i x v g e j;have fin:EP X b k Q u s:=⟨v,H,I,r,h⟩
 rcases l with ⟨hk,p⟩ | ⟨hk,c,f,a⟩
 ·exact wpAny_Name (wpAny_loadName_local I.ok.kind hk n p fin) hd
 ·rcases hk with hk | hk
  ·exact wpAny_Name (wpAny_loadName_cell I.ok.kind hk f a fin) hd
  ·exact wpAny_Name (wpAny_loadName_free I.ok.kind hk f a fin d) hd
def aG {i j pos}:PE X (.Constant (.int i) j pos) (tC (.int i)):=λ_ _ _ H _ I h=>wpAny_Constant_int ⟨.int i,H,I.tok _,⟨_,rfl⟩,h⟩
def iJ {b j pos}:PE X (.Constant (.bool b) j pos) (tC (.bl b)):=λ_ _ _ H _ I h=>Constant_bool ⟨.bl b,H,I,rfl,h⟩
def jC {j pos}:PE X (.Constant .none j pos) (tC .non):=λ_ _ _ H _ I h=>Constant_none ⟨.non,H,I,rfl,h⟩
def aX {x j pos}:PE X (.Constant (.str x) j pos) (tC (.str x)):=λ_ _ _ H _ I h=>Calls.Constant_str ⟨.str x,H,I.tok _,⟨_,rfl⟩,h⟩
def Gl (X:Cx)(x:Str):Prop:=X.env.kindOf x=some .globalImplicit
theorem oA {E:Value->Shared->Prop}{a:List (Addr×Obj)}{s:Shared}{σ:St}{H:Hp}{x:Str}{u:Value}{pos:Pos}{Q:Value->Shared->Prop}(I:Inv X a σ H s)(b:Gl X x)(c:X.mg x=some u)(h:Q u s)
  (hd:(x == ("__debug__":Str))=false:=by decide):wpAny (model X.prog X.w) X.A (eval (.Name x pos) X.env) Q E s:=
 Calls.Name_function_global I.ok.kind b (Calls.loadGlobal_global (by rw[I.ok.glob];exact I.mod.glob.keeps I.bk) c h) hd
theorem oW {E:Value->Shared->Prop}{a:List (Addr×Obj)}{s:Shared}{σ:St}{H:Hp}{x:Str}{u:Value}{pos:Pos}{Q:Value->Shared->Prop}(I:Inv X a σ H s)(b:Gl X x)(c:X.mg x=none)(d:bootBuiltins x=some u)(h:Q u s)
  (e:x≠"__name__":=by decide) (hd:(x == ("__debug__":Str))=false:=by decide):wpAny (model X.prog X.w) X.A (eval (.Name x pos) X.env) Q E s:=by
 obtain⟨i,f,g⟩:=I.mod.blt;exact Calls.Name_function_global I.ok.kind b (Calls.loadGlobal_builtin (by rw[I.ok.glob];exact I.mod.glob.keeps I.bk) c (by rw[I.ok.blt];exact f.keeps I.bk) ((g x e).trans d) h) hd
def bA {v:V}(a:Gl X x)(b:X.mg x=some u)(r:RelV v u)(hd:(x == ("__debug__":Str))=false:=by decide):PE X (.Name x pos) (tC v):=
 λ_ _ _ H _ I h=>oA I a b ⟨v,H,I,r,h⟩ hd
variable {a b:Expr}
def PC (X:Cx)(op:CmpOp)(a b:Expr)(t:TE):Prop:=
 ∀ (pins:List (Addr×Obj))(s:Shared)(σ:St)(H:Hp)(Q:VK),Inv X pins σ H s->t σ H Q->
  wpAny (model X.prog X.w) X.A (eval a X.env) (λv c=>wpAny (model X.prog X.w) X.A (eval b X.env) (λu d=>wpAny (model X.prog X.w) X.A (compareOp op v u) (EP X pins σ Q) X.xe d) X.xe c) X.xe s
def tB (t:TE):TT:=λa H Q=>t a H λx b=>∃c,x= .bl c/\Q c b
def b0W {t:TE}(h:PC X op a b t)(f:behindInMarks op b=false:=by first | exact nobehind _ (by decide) (by decide) | rfl):PT X (.Compare a [op] [b] pos) (tB t):=by
 intro e s i H Q I j;refine wpAny_isTrue_Compare1 (thn (h e s i H _ I j) λv p f=>thn f λu r k=>thn k λc w g=>?_) f;obtain⟨x,l,m,n,o⟩:=g;obtain⟨d,rfl,q⟩:=o;cases n;exact Xj ⟨l,m,q⟩
def c0Q {t:TE}(h:PE X e t)(c:∀whole,isTrue e X.env whole=(do let v<-whole;standAt e.pos;holding [v] (truthy v)):=by intro _;rfl):PT X e (tB t):=by
 intro a s f H Q I g;refine isTrue_plain (thn (h a s f H _ I g) λv m b=>?_) (c _);obtain⟨x,i,j,k,l⟩:=b;obtain⟨d,rfl,q⟩:=l;cases k;exact Xj ⟨i,j,q⟩
variable {tA tB':TT}{rest:List Expr}
def c7D (t u:TT):TT:=λa H Q=>t a H λc b=>if c=true then u a b Q else Q false b
def tOr (t u:TT):TT:=λa H Q=>t a H λc b=>if c=true then Q true b else u a b Q
def c6U (t:TT):TT:=λa H Q=>t a H λc b=>Q (!c) b
def jV (ha:PT X a tA):PW X (.BoolOp .And [a] pos) tA:=by
 intro f b s d H Q I h;refine isTrue_and (thn (ha b s d H Q I h) λc g e=>?_);cases c with
 |true=>exact isTrue_and_nil e
 |false=>exact e
def a3B (ha:PT X a tA):PW X (.BoolOp .Or [a] pos) tA:=by
 intro f b s d H Q I h;refine isTrue_or (thn (ha b s d H Q I h) λc g e=>?_);cases c with
 |false=>exact isTrue_or_nil e
 |true=>exact e
def lH (ha:PT X a tA)(hb:PW X (.BoolOp .And (b::rest) pos) tB'):PW X (.BoolOp .And (a::b::rest) pos) (c7D tA tB'):=by
 intro k d s f H Q I h;refine isTrue_and (thn (ha d s f H _ I h) λc l e=>?_);obtain⟨g,i,j⟩:=e;cases c with
 |true=>exact hb k d l f g Q i j
 |false=>exact⟨g,i,j⟩
def b0S (ha:PT X a tA)(hb:PW X (.BoolOp .Or (b::rest) pos) tB'):PW X (.BoolOp .Or (a::b::rest) pos) (tOr tA tB'):=by
 intro k d s f H Q I h;refine isTrue_or (thn (ha d s f H _ I h) λc l e=>?_);obtain⟨g,i,j⟩:=e;cases c with
 |true=>exact⟨g,i,j⟩
 |false=>exact hb k d l f g Q i j
def gH (d:PT X a tA):PT X (.UnaryOp .Not a pos) (c6U tA):=by
 intro b s e H Q I h;exact isTrue_not (d b s e H (λc f=>Q (!c) f) I h)
def a9D (d e:TE):TE:=λa H Q=>d a H λx b=>∃c,x= .bl c/\if c=true then e a b Q else Q (.bl false) b
def b9C (d e:TE):TE:=λa H Q=>d a H λx b=>∃c,x= .bl c/\if c=true then Q (.bl true) b else e a b Q
def a9B (a:TE):TE:=λb H Q=>a b H λx d=>∃c,x= .bl c/\Q (.bl (!c)) d
def tX {op}{t:TE}(h:PE X a t):PE X (.BoolOp op [a] pos) t:=λb s c H Q I d=>BoolOp_one (h b s c H Q I d)
def c0V (ha:PE X a ta)(hb:PE X (.BoolOp .And (b::rest) pos) tb):PE X (.BoolOp .And (a::b::rest) pos) (a9D ta tb):=by
 intro d s g H Q I h;refine BoolOp_and (thn (ha d s g H _ I h) λv k f=>?_);obtain⟨x,i,j,l,e⟩:=f;obtain⟨c,rfl,e⟩:=e;cases l;refine Xj ?_;cases c with
 |true=>exact hb d k g i Q j e
 |false=>exact⟨.bl false,i,j,rfl,e⟩
def c4B (ha:PE X a ta)(hb:PE X (.BoolOp .Or (b::rest) pos) tb):PE X (.BoolOp .Or (a::b::rest) pos) (b9C ta tb):=by
 intro d s g H Q I h;refine BoolOp_or (thn (ha d s g H _ I h) λv k f=>?_);obtain⟨x,i,j,l,e⟩:=f;obtain⟨c,rfl,e⟩:=e;cases l;refine Xj ?_;cases c with
 |false=>exact hb d k g i Q j e
 |true=>exact⟨.bl true,i,j,rfl,e⟩
def c0T (f:PE X a ta):PE X (.UnaryOp .Not a pos) (a9B ta):=by
 intro b s g H Q I h;refine UnaryOp_ (thn (f b s g H _ I h) λv l d=>?_);obtain⟨x,i,j,k,e⟩:=d;obtain⟨c,rfl,e⟩:=e;cases k;exact not_of (Xj ⟨.bl (!c),i,j,rfl,e⟩)
def tIf (t:TT)(d e:TE):TE:=λa H Q=>t a H λc b=>if c=true then d a b Q else e a b Q
def eE (hc:PT X c tA)(ha:PE X a ta)(hb:PE X b tb):PE X (.IfExp c a b pos) (tIf tA ta tb):=by
 intro e s f H Q I h;refine wpAny_IfExp (thn (hc e s f H _ I h) λd i g=>?_);obtain⟨j,k,l⟩:=g;cases d with
 |true=>exact ha e i f j Q k l
 |false=>exact hb e i f j Q k l
end
def SqL (K:W.Frag)(H:Hp)(a:Addr)(xs:List V):Prop:=
 Rd H a (.lst xs)\/
  ∃(o:Obj)(its:Array Value)(n:Nat),K.lookup a=some o/\o.cls= .type "list"/\o.dict=none/\o.data= .seq its n/\its.size<=sizeLine/\Vals xs its.toList
def SqT (K:W.Frag)(H:Hp)(a:Addr)(xs:List V):Prop:=
 Rd H a (.tup xs)\/
  ∃(o:Obj)(its:Array Value)(n:Nat),K.lookup a=some o/\o.cls= .type "tuple"/\o.data= .seq its n/\its.size<=sizeLine/\Vals xs its.toList
noncomputable def c8I:Value->Option V
 |.none=>some .non
 |.bool b=>some (.bl b)
 |.int i _=>some (.int i)
 |.str x _=>some (.str x)
 |.bytes b _=>some (.byt b)
 |.float b _=>some (.flt b)
 |.ref a=>some (.ref a)
 |.type n=>some (.ty n)
 |_=>none
def RelV.abs {x:V}(r:RelV x u):c8I u=some x:=by
 cases x with
 |non=>cases r;rfl
 |bl _=>cases r;rfl
 |int _=>obtain⟨t,rfl⟩:=r;rfl
 |str _=>obtain⟨t,rfl⟩:=r;rfl
 |byt _=>obtain⟨t,rfl⟩:=r;rfl
 |flt _=>obtain⟨t,rfl⟩:=r;rfl
 |ref _=>cases r;rfl
 |ty _=>cases r;rfl
def RelV.inj {x y:V}(r:RelV x u)(q:RelV y u):x=y:=Yu (r.abs.symm.trans q.abs)
theorem Vals.inj:∀{xs ys:List V}{us:List Value},Vals xs us->Vals ys us->xs=ys
 |_,_,_,.nil,.nil=>rfl
 |_,_,_,.cons r t,.cons r' t'=>by rw[r.inj r',Vals.inj t t']
section
variable {xs ys:List V}
def SqL.of (h:H a=some (.lst xs)):SqL K H a xs:= .inl (.inl h)
def Vb:=@SqL.of
def SqT.of (h:H a=some (.tup xs)):SqT K H a xs:= .inl (.inl h)
def Vc:=@SqT.of
def Inv.list (I:Inv X pins σ H s)(h:SqL X.K H a xs):∃its:List Value,Vals xs its/\PlainL s.heap a its.toArray/\xs.length<=sizeLine:=by
 rcases h with h | ⟨o,its,n,b,c,hd,d,f,r⟩
 ·obtain⟨z,its,n,r,e⟩:=h.ok I.hok;exact⟨its,r,⟨_,n,e,rfl,rfl,rfl⟩,z⟩
 ·refine⟨its.toList,r,⟨o,n,I.kIn a o b,c,hd,by simpa using d⟩,?_⟩;have e:=r.length;simp only[XI]at e;lia
def Inv.tuple (I:Inv X pins σ H s)(h:SqT X.K H a xs):∃its:List Value,Vals xs its/\IsTup s.heap a its.toArray/\xs.length<=sizeLine:=by
 rcases h with h | ⟨o,its,n,b,c,d,f,r⟩
 ·obtain⟨z,its,r,p⟩:=h.ok I.hok;exact⟨its,r,p,z⟩
 ·refine⟨its.toList,r,⟨o,I.kIn a o b,c,n,by simpa using d⟩,?_⟩;have e:=r.length;simp only[XI]at e;lia
def Inv.list_inj (I:Inv X pins σ H s)(h:SqL X.K H a xs)(h':SqL X.K H a ys):xs=ys:=by
 obtain⟨c,r,⟨o,n⟩,_⟩:=I.list h;obtain⟨b,i,⟨j,k,f⟩,_⟩:=I.list h';cases f
 have:c=b:=by lia
 subst this;exact r.inj i
def Inv.tuple_inj (I:Inv X pins σ H s)(h:SqT X.K H a xs)(h':SqT X.K H a ys):xs=ys:=by
 obtain⟨c,r,⟨o,e⟩,_⟩:=I.tuple h;obtain⟨b,i,⟨j,f⟩,_⟩:=I.tuple h';cases f
 have:c=b:=by lia
 subst this;exact r.inj i
end
abbrev Cx.wish (X:Cx)(E:Value->Shared->Prop):Cx:={ X with xe:=E }
abbrev Cx.nox (X:Cx):Cx:=X.wish λ_ _=>False
def Cx.Ok.wish (ok:X.Ok)(E:Value->Shared->Prop):(X.wish E).Ok:=
 ⟨ok.mod,ok.kind,ok.glob,ok.blt,ok.above,ok.inj,ok.has,ok.cab,ok.hd,ok.frames,ok.stk,ok.exf,ok.bs,ok.bsz,ok.noex,ok.exfs,ok.funs,ok.frf⟩
def Cx.Ok.unwish (ok:(X.wish E).Ok):X.Ok:=
 ⟨ok.mod,ok.kind,ok.glob,ok.blt,ok.above,ok.inj,ok.has,ok.cab,ok.hd,ok.frames,ok.stk,ok.exf,ok.bs,ok.bsz,ok.noex,ok.exfs,ok.funs,ok.frf⟩
def Inv.wish (I:Inv X pins σ H s)(E:Value->Shared->Prop):Inv (X.wish E) pins σ H s:=⟨I.ok.wish E,I.os,I.bare,I.base,I.loc,I.cell,I.free,I.freeC,I.pin,I.hok,I.len⟩
def Inv.unwish (I:Inv (X.wish E) pins σ H s):Inv X pins σ H s:=⟨I.ok.unwish,I.os,I.bare,I.base,I.loc,I.cell,I.free,I.freeC,I.pin,I.hok,I.len⟩
def SP.unwish {D:Ends}{f:Flow}{s':Shared}(h:SP (X.wish E) pins D f s'):SP X pins D f s':=by
 cases f with
 |next=>obtain⟨a,b,I,q⟩:=h;exact⟨a,b,I.unwish,q⟩
 |brk=>obtain⟨a,b,I,q⟩:=h;exact⟨a,b,I.unwish,q⟩
 |cont=>obtain⟨a,b,I,q⟩:=h;exact⟨a,b,I.unwish,q⟩
 |ret u=>obtain⟨v,a,b,I,r,q⟩:=h;exact⟨v,a,b,I.unwish,r,q⟩
def PSs.nox {st:List Stmt}{t:TS}(h:PSs X.nox st t):PSs X st t:=λa s b H D I c=>
 Y4 (h a s b H D (I.wish _) c) (λ_ _ q=>q.unwish) λ_ _ z=>False.elim z
section
variable {st:Stmt}{rest:List Stmt}{t u:TS}
def c3K:TS:=λD a H=>D.nx a H
def c6S (t u:TS):TS:=λD a H=>t { D with nx:=u D } a H
def aQ:PSs X [] c3K:=λ_ _ a H _ I h=>Jy ⟨a,H,I,h⟩
def aB (h1:PS X st t)(h2:PSs X rest u):PSs X (st::rest) (c6S t u):=by
 intro a s c H D I h;refine Jr (thn (h1 a s c H { D with nx:=u D } I h) λf d q=>?_);cases f with
 | next=>
  obtain⟨b,e,g,q⟩:=q;exact h2 a d b e D g q
 |ret v=>exact q
 |brk=>exact q
 |cont=>exact q
def aF (h1:PS X st t):PSs X [st] t:=by
 intro a s b H D I h;refine Jr (thn (h1 a s b H D I h) λf c q=>?_);cases f with
 |next=>exact Jy q
 |ret v=>exact q
 |brk=>exact q
 |cont=>exact q
def Inv.quiet (I:Inv X pins σ H s):interactive X.env=false:=by simp[interactive,I.ok.kind]
def c3L (b:TE):TS:=λD a H=>b a H λ_ c=>D.nx a c
def bI (c:PE X e te)(d:swapsWith e none pos.line X.env=pure false:=by rfl):PS X (.Expr e pos) (c3L te):=by
 intro a s b H D I h;exact wpAny_Expr_any (thn (c a s b H _ I h) λv j ⟨x,f,g,k,i⟩=>⟨b,f,g,i⟩) I.quiet d
def c6T (a:TE):TS:=λD b H=>a b H D.rt
def aK (c:PE X e te):PS X (.Return (some e) pos) (c6T te):=by
 intro a s b H D I h;exact wpAny_Return_some (thn (c a s b H _ I h) λv j ⟨x,d,f,g,i⟩=>⟨x,b,d,f,g,i⟩)
def c6W (c:TT)(t u:TS):TS:=λD a H=>c a H λb d=>if b=true then t D a d else u D a d
def bC {a b:List Stmt}{tc:TT}(hc:PT X c tc)(ha:PSs X a t)(hb:PSs X b u):PS X (.If c a b pos) (c6W tc t u):=by
 intro e s f H D I h;refine wpAny_If (thn (hc e s f H _ I h) λd i g=>?_);obtain⟨j,k,l⟩:=g;cases d with
 |true=>exact ha e i f j D k l
 |false=>exact hb e i f j D k l
end
abbrev TG:=V->St->Hp->(St->Hp->Prop)->Prop
abbrev TGs:=List V->St->Hp->(St->Hp->Prop)->Prop
def PG (X:Cx)(a:Expr)(t:TG):Prop:=
 ∀ (pins:List (Addr×Obj))(s:Shared)(σ:St)(H:Hp)(v:V)(u:Value)(Q:St->Hp->Prop),Inv X pins σ H s->RelV v u->t v σ H Q->
  wpAny (model X.prog X.w) X.A (assign a X.env u) (λ_ b=>∃σ' H',Inv X pins σ' H' b/\Q σ' H') X.xe s
def PGs (X:Cx)(ts:List Expr)(t:TGs):Prop:=
 ∀ (pins:List (Addr×Obj))(s:Shared)(σ:St)(H:Hp)(vs:List V)(us:List Value)(Q:St->Hp->Prop),Inv X pins σ H s->Vals vs us->t vs σ H Q->
  wpAny (model X.prog X.w) X.A (assignInOrder ((assignEach ts X.env).map (·.2)) us) (λ_ a=>∃σ' H',Inv X pins σ' H' a/\Q σ' H') X.xe s
def wF (i:Nat):TG:=λv a H Q=>Q (a.set i (some v)) H
def gD (b:X.N.Nodup)(c:X.N[i]? =some x)(d:Loc X.env.scope x)(e:X.fn x=true\/X.env.scope.names.lookup x=some .local:=by first | exact .inl rfl | exact .inr rfl | assumption):PG X (.Name x pos) (wF i):=by
 intro a s g H v u Q I r h;exact wpAny_assign_Name (pI I b c d r (λj f=>⟨_,H,f,h⟩) e)
def c5L:TGs:=λa b H Q=>a= []/\Q b H
def b2V (t:TG)(u:TGs):TGs:=λb c H Q=>∃v r,b=v::r/\t v c H λa d=>u r a d Q
def b5X:PGs X [] c5L:=by
 intro a s b H c d Q I r h;obtain⟨e,h⟩:=h;subst e;cases r;exact assignInOrder_nil ⟨b,H,I,h⟩
theorem a0O {e:Expr}{es:List Expr}{t:TG}{u:TGs}(h1:PG X e t)(h2:PGs X es u)
  (hs:(assignEach (e::es) X.env).map (·.2)=assign e X.env::(assignEach es X.env).map (·.2):=by rfl):PGs X (e::es) (b2V t u):=by
 intro a s d H l m Q I r h;obtain⟨v,n,f,h⟩:=h;subst f;cases r with
 | cons r rr=>
  rw[hs];refine assignInOrder_cons (thn (h1 a s d H _ _ _ I r h) λ_ g b=>?_);obtain⟨c,i,j,k⟩:=b;exact h2 a g c i _ _ Q j rr k
def c5K (K:W.Frag)(n:Nat)(t:TGs):TG:=λv b H Q=>∃a xs,v= .ref a/\SqT K H a xs/\xs.length=n/\t xs b H Q
theorem c0S {d:List Expr}{k:Nat}{t:TGs}{n:Nat}(l:X.calm=true)(h:PGs X d t)
  (m:(assignEach d X.env).length=n:=by rfl) (f:(assignEach d X.env).findIdx? (·.1)=none:=by rfl):PG X (.Tuple d k pos) (c5K X.K n t):=by
 intro c s i H v u Q I r g;obtain⟨a,xs,p,q,w,g⟩:=g;subst p;cases r;obtain⟨x,j,y,C⟩:=I.tuple q;refine assign_Tuple_tuple (I.ok.hd l) y (by simp[m,<-w,j.length]) f λz A=>?_;have B:Inv X c i H { s with heap:=z }:=I.kept (t':=s.toks) λb o e=>A b o (YQ (Yx e)) e;exact h c _ i H xs _ Q B (by simpa using j) g
def b9J (b:TE)(g:TG):TS:=λD a H=>b a H λx c=>g x a c D.nx
def oU {a:Pos}(d:X.N.Nodup)(f:X.N[i]? =some x)(g:Loc X.env.scope x)(j:PE X e te)(k:swapsWith e (some (.Name x a)) pos.line X.env=pure false:=by rfl)(l:X.fn x=true\/X.env.scope.names.lookup x=some .local:=by first | exact .inl rfl | exact .inr rfl | assumption):
  PS X (.Assign [.Name x a] e pos) (b9J te (wF i)):=by
 intro b s m H D I h;refine wpAny_Assign_Name (thn (j b s m H _ I h) λv t c=>?_) k;obtain⟨y,n,o,p,q⟩:=c;exact pI o d f g p (λu r=>⟨_,n,r,q⟩) l
def b9B (c:TT)(e:TS):TS:=λD a H=>∃W:Nat->St->Hp->Prop,(∃m,W m a H)/\∀m a H,W m a H->
 c a H λb d=>if b=true then ∃N:St->Hp->Prop,(∀σ' H',N σ' H'->∃m',m'<m/\W m' σ' H')/\e { D with nx:=N,ct:=N,bk:=D.nx } a d else D.nx a d
def b0Y {body:List Stmt}{tc:TT}{tb:TS}(hp:PassesOwn (model X.prog X.w) X.A X.env X.xe)(hc:PT X c tc)(hb:PSs X body tb):PS X (.While c body [] pos) (b9B tc tb):=by
 intro a s y H D I h;obtain⟨W,⟨z,B⟩,turn⟩:=h;refine wpAny_While (codeAny_whileLoop (λn C=>∃σ' H',Inv X a σ' H' C/\W n σ' H') ?_ z ⟨y,H,I,B⟩);rintro n E ⟨e,r,F,G⟩;refine XX hp (thn (hc a E e r _ F (turn n e r G)) λb J k=>?_);obtain⟨t,u,i⟩:=k;cases b with
 | true=>
  obtain⟨N,x,i⟩:=i;refine XX hp (thn (hb a J e t _ u i) λf K j=>?_);cases f with
  | next=>
   obtain⟨d,g,l,m⟩:=j;obtain⟨o,p,q⟩:=x d g m;exact⟨o,p,d,g,l,q⟩
  | cont=>
   obtain⟨d,g,l,m⟩:=j;obtain⟨o,p,q⟩:=x d g m;exact⟨o,p,d,g,l,q⟩
  |brk=>exact j
  |ret v=>exact j
 | false=>
  exact Jy ⟨e,t,u,i⟩
structure It where
 go:Nat->Hp->Prop
 yld:Nat->Hp->V->Hp->Prop
 stop:Nat->Hp->Prop
def rK (X:Cx)(a:List (Addr×Obj))(H:Hp)(b:Addr):Prop:=
 H b=none/\b≠X.env.locals/\b∉X.fs/\(b∈X.ex\/X.s₀.heap.objs.size<=b)/\(∀x c,X.env.cells.lookup x=some c->c≠b)/\∀p∈X.pn++a,p.1≠b
def Inv.fpOk (I:Inv X pins σ H s)(a:s.heap.objs.size<=b)(d:H' b=none):rK X pins H' b:=by
 refine⟨d,Nat.ne_of_gt (Yl I.lt a),I.nofs a,.inr (YK I.sz a),λx c e z=>?_,λp f z=>?_⟩
 ·obtain⟨v,q⟩:=I.cell x c e;exact absurd (Yl q.lt (by rw[z];exact a)) (Y1 _)
 ·exact absurd (Yl (Yx (I.pin p f).1) (by rw[z];exact a)) (Y1 _)
structure Turn (P:Program)(w:World)(K:W.Frag)(tg:Expr)(J:It)(fp:List Addr)(it:Addr)(tn:Nat->Heap->Prop):Prop where
 mem:it∈fp
 obj:∀i h,tn i h->∀b∈fp,∃o,h.get? b=some o/\∀v,o.data≠ .cell v
 keep:∀i h h',tn i h->(∀b∈fp,∀o,h.get? b=some o->h'.get? b=some o)->tn i h'
 item :∀(X:Cx),X.prog=P->X.w=w->X.K=K->X.calm=true->∀(i:Nat)(pins:List (Addr×Obj))(s:Shared)(σ:St)(H:Hp)(E:Value->Shared->Prop),Inv X pins σ H s->(∀b∈fp,rK X pins H b)->tn i s.heap->J.go i H->
  wpAny (model P w) X.A (pyNext (.ref it)) (λr s1=>∃u,r=some u/\
   wpAny (model P w) X.A (letOwnedTupleGo tg (.ref it) u) (λ_ s2=>∃x H',Inv X pins σ H' s2/\RelV x u/\J.yld i H x H'/\tn (i+1) s2.heap/\∀b∈fp,H' b=none) E s1) E s
 done:∀(X:Cx),X.prog=P->X.w=w->X.K=K->X.calm=true->∀(i:Nat)(pins:List (Addr×Obj))(s:Shared)(σ:St)(H:Hp)(E:Value->Shared->Prop),Inv X pins σ H s->(∀b∈fp,rK X pins H b)->tn i s.heap->J.stop i H->
  wpAny (model P w) X.A (pyNext (.ref it)) (λr s1=>r=none/\Inv X pins σ H s1) E s
 self:∀(A:Around)(i:Nat)(s:Shared)(Q:Value->Shared->Prop)(E:Value->Shared->Prop),tn i s.heap->Q (.ref it) s->wpAny (model P w) A (pyIter (.ref it)) Q E s
abbrev TI:=St->Hp->(It->Hp->Prop)->Prop
def PIE (X:Cx)(a:List (Addr×Obj))(σ:St)(tg:Expr)(R:It->Hp->Prop)(c:Value)(d:Shared):Prop:=
 ∃(it:Addr)(fp:List Addr)(tn:Nat->Heap->Prop)(J:It)(H':Hp),c= .ref it/\Inv X a σ H' d/\Turn X.prog X.w X.K tg J fp it tn/\tn 0 d.heap/\(∀b∈fp,rK X a H' b)/\R J H'
def PI (X:Cx)(tg a:Expr)(b:TI):Prop:=
 ∀ (pins:List (Addr×Obj))(s:Shared)(σ:St)(H:Hp)(R:It->Hp->Prop),Inv X pins σ H s->b σ H R->
  wpAny (model X.prog X.w) X.A (eval a X.env) (λv c=>wpAny (model X.prog X.w) X.A (pyIter v) (PIE X pins σ tg R) X.xe c) X.xe s
theorem a5U {M:Model}{A:Around}{E:Value->Shared->Prop}{s:Shared}{tg:Expr}{it:Addr}{u:Value}{o:Obj}{n:String}{vs:Array Value}{Q:Unit->Shared->Prop}(ho:s.heap.get? it=some o)(hc:o.cls= .type n)(hd:o.data= .fields vs)
    (hn:["enumerate","zip","dict_itemiterator","dict_reverseitemiterator","odict_iterator","itertools.zip_longest","itertools.pairwise"].contains n=false) (hQ:Q () s):wpAny M A (letOwnedTupleGo tg (.ref it) u) Q E s:=by
  cases tg <;> first
    |exact Xd hQ
    | (cases u <;> first
        |exact Xd hQ
        | (refine YZ (wpAny_load ho ?_)
           rw[hc,hd];show wpAny M A (if (["enumerate","zip","dict_itemiterator","dict_reverseitemiterator","odict_iterator","itertools.zip_longest","itertools.pairwise"].contains n && vs[0]? == some (rawInt _))=true then _ else _) Q E s;rw[if_neg (by lia)]
           exact Xd hQ))
def Itl (K:W.Frag)(a:Addr):It:=
 ⟨λi H=>∃xs x,SqL K H a xs/\xs[i]? =some x,λi H x b=>b=H/\∀xs,SqL K H a xs->xs[i]? =some x,λi H=>∃xs,SqL K H a xs/\xs.length<=i⟩
def Itt (K:W.Frag)(a:Addr):It:=
 ⟨λi H=>∃xs x,SqT K H a xs/\xs[i]? =some x,λi H x b=>b=H/\∀xs,SqT K H a xs->xs[i]? =some x,λi H=>∃xs,SqT K H a xs/\xs.length<=i⟩
def Itr (lo:Int)(n:Nat):It:=⟨λi _=>i<n,λi H x a=>a=H/\x= .int (lo+i),λi _=>n<=i⟩
def vC (a it:Addr):Turn P w K tg (Itl K a) [it] it (λi h=>h.IsListIter it a i) where
 mem:=by simp
 obj:=λi h st b hb=>by
  have e:b=it:=by simpa using hb
  subst e;obtain⟨o,e,c,d⟩:=st;grind
 keep:=λi h h' st k=>st.at λo e=>k it (by simp) o e
 item:=by
  intro X hP hw hK hc i pins s σ H E I hf st hg;subst hP hw hK;obtain⟨xs,x,hq,hx⟩:=hg;obtain⟨its,rv,p,hz⟩:=I.list hq;obtain⟨u,hu,ru⟩:=rv.get hx;obtain⟨f0,f1,f2,f3,f4,f5⟩:=hf it (by simp);refine wpAny_pyNext_list_item st p.isList (x:=u) (by simpa using hu) λh' st' sb=>?_;have I1:=I.turned (t':=s.toks) (λb o hb e=>(sb.2 b hb).trans e) f0 f1 f3 f4 f5;obtain⟨o,e,c,d⟩:=id st';exact⟨u,rfl,a5U e c d (by decide) ⟨x,H,I1,ru,⟨rfl,λys hy=>by rw[I.list_inj hy hq];exact hx⟩,st',λb hb=>(hf b hb).1⟩⟩
 done:=by
  intro X hP hw hK hc i pins s σ H E I hf st hg;subst hP hw hK;obtain⟨xs,hq,hx⟩:=hg;obtain⟨its,rv,p,hz⟩:=I.list hq;obtain⟨f0,f1,f2,f3,f4,f5⟩:=hf it (by simp);have hl:=rv.length;exact wpAny_pyNext_list_end (I.ok.hd hc) st p.isList (by simp;lia) λh' eb=>⟨rfl,I.turned (t':=s.toks) (λb o hb e=>eb b o hb e) f0 f1 f3 f4 f5⟩
 self:=λ_ _ _ _ _ st h=>wpAny_pyIter_listiter st h
def a2L (a it:Addr):Turn P w K tg (Itt K a) [it] it (λi h=>h.IsTupleIter it a i) where
 mem:=by simp
 obj:=λi h st b hb=>by
  have e:b=it:=by simpa using hb
  subst e;obtain⟨o,e,c,d⟩:=st;grind
 keep:=λi h h' st k=>st.at λo e=>k it (by simp) o e
 item:=by
  intro X hP hw hK hc i pins s σ H E I hf st hg;subst hP hw hK;obtain⟨xs,x,hq,hx⟩:=hg;obtain⟨its,rv,p,hz⟩:=I.tuple hq;obtain⟨u,hu,ru⟩:=rv.get hx;obtain⟨f0,f1,f2,f3,f4,f5⟩:=hf it (by simp);refine wpAny_pyNext_tuple_item st (p) (x:=u) (by simpa using hu) λh' st' sb=>?_;have I1:=I.turned (t':=s.toks) (λb o hb e=>(sb.2 b hb).trans e) f0 f1 f3 f4 f5;obtain⟨o,e,c,d⟩:=id st';exact⟨u,rfl,a5U (s:={ s with heap:=h' }) e c d (by decide) ⟨x,H,I1,ru,⟨rfl,λys hy=>by rw[I.tuple_inj hy hq];exact hx⟩,st',λb hb=>(hf b hb).1⟩⟩
 done:=by
  intro X hP hw hK hc i pins s σ H E I hf st hg;subst hP hw hK;obtain⟨xs,hq,hx⟩:=hg;obtain⟨its,rv,p,hz⟩:=I.tuple hq;obtain⟨f0,f1,f2,f3,f4,f5⟩:=hf it (by simp);have hl:=rv.length;exact wpAny_pyNext_tuple_end (I.ok.hd hc) st (p) (by simp;lia) λh' eb=>⟨rfl,I.turned (t':=s.toks) (λb o hb e=>eb b o hb e) f0 f1 f3 f4 f5⟩
 self:=λ_ _ _ _ _ st h=>wpAny_pyIter_tupleiter st h
def a2M (it:Addr)(lo:Int)(n:Nat):Turn P w K tg (Itr lo n) [it] it (λi h=>IsRangeIter h it (lo+(i:Nat)*1) ((n:Int)-(i:Nat)) 1) where
 mem:=by simp
 obj :=λi h st b hb=>by
  grind
 keep:=λi h h' st k=>k it (by simp) _ st
 item:=by
  intro X hP hw hK hc i pins s σ H E I hf st hg;subst hP hw hK;obtain⟨f0,f1,f2,f3,f4,f5⟩:=hf it (by simp);refine (Walks.range (prog:=X.prog) (w:=X.w) (I.ok.hd hc) it lo 1 n).item i s _ _ hg st λv h' tk hv st' kk=>?_;obtain⟨t,rfl⟩:=hv;have I1:Inv X pins σ H { s with heap:=h',toks:=tk }:=I.turned (λb o hb e=>kk b o (by simpa using hb) e) f0 f1 f3 f4 f5;refine⟨_,rfl,a5U st' rfl rfl (by decide) ⟨.int (lo+i),H,I1,⟨t,?_⟩,⟨rfl,rfl⟩,st',λb hb=>(hf b hb).1⟩⟩;rw[Int.mul_one]
 done:=by
  intro X hP hw hK hc i pins s σ H E I hf st hg;subst hP hw hK;obtain⟨f0,f1,f2,f3,f4,f5⟩:=hf it (by simp);exact wpAny_pyNext_range_end (I.ok.hd hc) st (by have:n<=i:=hg;lia) λh' eb=>⟨rfl,I.turned (λb o hb e=>eb b o hb e) f0 f1 f3 f4 f5⟩
 self:=λ_ _ _ _ _ st h=>wpAny_pyIter_rangeiter st h
def c5J (K:W.Frag)(c:TE):TI:=λd H R=>c d H λx b=>∃a,x= .ref a/\(∃xs,SqL K b a xs)/\R (Itl K a) b
def b5W {l:Expr}{i:TE}(j:PE X l i):PI X tg l (c5J X.K i):=by
 intro c s k H R I h;refine thn (j c s k H _ I h) λv d g=>?_;obtain⟨x,m,f,n,r⟩:=g;obtain⟨a,e,⟨xs,t⟩,q⟩:=r;subst e;cases n;obtain⟨u,y,p,z⟩:=f.list t;refine wpAny_pyIter_list p.isList ⟨d.heap.objs.size, [d.heap.objs.size],_,_,m,rfl,f.kept λb o e=>Yq _ e,vC a _,⟨_,YD _ rfl,rfl,rfl⟩,λb w=>?_,q⟩;have e:b=d.heap.objs.size:=by simpa using w
 subst e;exact f.fpOk (Yb _) (f.hok.fresh (Yb _))
theorem a0L {c:List (Addr×Obj)}{σ:St}{H:Hp}{s:Shared}{R:It->Hp->Prop}{E:Value->Shared->Prop}{lo a:Int}{t u v:Tok}{tk:Nat}(I:Inv X c σ H s)(f: -(2 ^ 62)<=lo)(g:lo<2 ^ 62)(h: -(2 ^ 62)<=a)(i:a<2 ^ 62)
  (q:R (Itr lo (a-lo).toNat) H):wpAny (model X.prog X.w) X.A (pyIter (.ref s.heap.objs.size)) (PIE X c σ tg R) E { s with heap:=s.heap.push { cls:= .type "range",data:= .fields #[.int lo t,.int a u,.int 1 v] },toks:=tk }:=by
 refine wpAny_pyIter_range (IsRange.new ..) (small_one f g h i) ?_;have d:Inv X c σ H { s with heap:=s.heap.push { cls:= .type "range",data:= .fields #[.int lo t,.int a u,.int 1 v] },toks:=tk }:=I.kept λb o e=>Yq _ e
 refine⟨(s.heap.push { cls:= .type "range",data:= .fields #[.int lo t,.int a u,.int 1 v] }).objs.size, [(s.heap.push { cls:= .type "range",data:= .fields #[.int lo t,.int a u,.int 1 v] }).objs.size],_,_,H,rfl,
  d.kept λb o e=>Yq _ e,a2M _ lo (a-lo).toNat,?_,λb j=>?_,q⟩
 ·have k:lo+((0:Nat):Int)*1=lo:=by simp
  have l:(((a-lo).toNat:Nat):Int)-((0:Nat):Int)=Builtin.Range.rangeSize lo a 1:=by rw[rangeSize_one];split <;> lia
  rw[k,l];exact YD _ rfl
 ·have e:b=(s.heap.push { cls:= .type "range",data:= .fields #[.int lo t,.int a u,.int 1 v] }).objs.size:=by simpa using j
  subst e;exact d.fpOk (Yb _) (d.hok.fresh (Yb _))
def c5I (a:TA):TI:=λb H R=>a b H λc d=>∃j:Int,c= [.int j]/\ -(2 ^ 62)<=j/\j<2 ^ 62/\R (Itr 0 j.toNat) d
def c5H (a:TA):TI:=λb H R=>a b H λc d=>∃i j:Int,c= [.int i,.int j]/\(-(2 ^ 62)<=i/\i<2 ^ 62/\ -(2 ^ 62)<=j/\j<2 ^ 62)/\R (Itr i (j-i).toNat) d
def a7I {a:Expr}{ta:TA}(hg:Gl X "range")(hm:X.mg "range"=none)(ha:PA X [a] ta)(hs:starEach [a] X.env= [(false,eval a X.env)]:=by rfl):PI X tg (.Call (.Name "range" p) [a] [] pos) (c5I ta):=by
 intro b s f H R I h;refine Call_ (oW I hg hm boot_range (Xm (thn (ha pos b s f H _ I h) λl m c=>?_) hs rfl));obtain⟨n,o,g,i,d⟩:=c;obtain⟨j,e,d,k,q⟩:=d;subst e;cases i with
 | cons r rr=>
  cases rr;obtain⟨t,rfl⟩:=r;exact call_range_1 (a0L g (by lia) (by lia) d k (by simpa using q))
def a7H {a b:Expr}{ta:TA}(hg:Gl X "range")(hm:X.mg "range"=none)(ha:PA X [a,b] ta)(hs:starEach [a,b] X.env= [(false,eval a X.env),(false,eval b X.env)]:=by rfl)(hs2:starEach [b] X.env= [(false,eval b X.env)]:=by rfl):
  PI X tg (.Call (.Name "range" p) [a,b] [] pos) (c5H ta):=by
 intro c s g H R I h;refine Call_ (oW I hg hm boot_range (Xm (thn (ha pos c s g H _ I h) λu v d=>?_) (by rw[hs,hs2]) (by rw[hs2];rfl)));obtain⟨w,x,k,l,f⟩:=d;obtain⟨i,j,e,⟨f,m,n,o⟩,q⟩:=f;subst e;cases l with
 | cons r rr=>
  cases rr with
  | cons r' rr=>
   cases rr;obtain⟨t,rfl⟩:=r;obtain⟨y,rfl⟩:=r';exact call_range_2 (a0L k f m n o q)
def c6X (c:TI)(g:TG)(d:TS):TS:=λD a H=>c a H λJ e=>∃W:Nat->Nat->St->Hp->Prop,(∃m,W 0 m a e)/\∀i m a H,W i m a H->
 (J.stop i H/\D.nx a H)\/(J.go i H/\∃N:St->Hp->Prop,(∀σ' H',N σ' H'->∃m',m'<m/\W (i+1) m' σ' H')/\∀x H',J.yld i H x H'->g x a H' λb f=>d { D with nx:=N,ct:=N,bk:=D.nx } b f)
def tV (a:List Addr)(h:Heap):List (Addr×Obj):=a.filterMap λb=>(h.get? b).map λo=>(b,o)
def mF {o:Obj}(a:b∈fp)(e:h.get? b=some o):(b,o)∈tV fp h:=List.mem_filterMap.mpr ⟨b,a,by rw[e];rfl⟩
def a7L {p:Addr×Obj}(hp:p∈tV fp h):p.1∈fp/\h.get? p.1=some p.2:=by
 obtain⟨b,a,e⟩:=List.mem_filterMap.mp hp;cases q:h.get? b with
 |none=>rw[q]at e;cases e
 | some o=>
  grind
def Inv.pinned (I:Inv X pins σ H s)(f:∀b∈fp,rK X pins H b)(g:∀b∈fp,∃o,s.heap.get? b=some o/\∀v,o.data≠ .cell v):Inv X (pins++tV fp s.heap) σ H s:=
 I.pins_of λp h=>(YM.mp h).elim (λz=>I.pin p (YT _ z)) λz=>by
  obtain⟨a,e⟩:=a7L z;obtain⟨i,j⟩:=f p.1 a;grind
def Inv.unpinned {pl:List (Addr×Obj)}(I:Inv X (pins++pl) σ H s):Inv X pins σ H s:=I.pins_of λp a=>I.pin p (YT _ (XG _ a))
theorem jB {iter:Expr}{body:List Stmt}{wi:TI}{g:TG}{tb:TS}{pos:Pos}(hp:PassesOwn (model X.prog X.w) X.A X.env X.xe)(hc:X.calm=true)(hi:PI X tg iter wi)(hg:PG X tg g)(hb:PSs X body tb)
  (hs:∀x,foldedSetIterable iter X.env x=pure x:=by intro _;rfl):PS X (.For tg iter body [] pos) (c6X wi g tb):=by
 intro a s S H D I h;refine wpAny_For (thn (hi a s S H _ I h) λv s1 h1=>thn h1 λa0 s2 h2=>?_) hs;obtain⟨it,B,U,J,H2,e,I2,T,L,V,W,⟨m0,w0⟩,turn⟩:=h2;subst e;have j:∀{H':Hp},(∀b∈B,H' b=none)->∀b∈B,rK X a H' b:=λhn b hb=>⟨hn b hb,(V b hb).2⟩
 refine codeAny_forLoop_any (λn Y=>∃i σ' H',Inv X a σ' H' Y/\U i Y.heap/\(∀b∈B,H' b=none)/\W i n σ' H') ?_ m0 ⟨0,S,H2,I2,L,λb hb=>(V b hb).1,w0⟩;rintro n Z ⟨i,k,K,I3,C,E,w3⟩;rcases turn i n k K w3 with ⟨F,qn⟩ | ⟨go,N,hN,step⟩
 ·refine XX hp (thn (T.done X rfl rfl rfl hc i a Z k K X.xe I3 (j E) C F) λr s4 ⟨M,I4⟩=>?_);subst M;exact Jy ⟨k,K,I4,qn⟩
 ·refine XX hp (thn (T.item X rfl rfl rfl hc i a Z k K X.xe I3 (j E) C go) λr s4 l=>?_);obtain⟨u,M,h4⟩:=l;subst M;refine XX hp (thn h4 λ_ s5 l=>?_);obtain⟨x,H5,I5,r5,y5,z,O⟩:=l;refine XX hp (thn (hg _ s5 k H5 x u _ (I5.pinned (j O) (T.obj _ _ z)) r5 (step x H5 y5)) λ_ s6 l=>?_);obtain⟨Q,H6,I6,q6⟩:=l;refine XX hp (thn (hb _ s6 Q H6 _ I6 q6) λf R y=>?_);have p:∀{c:St}{q:Hp},Inv X (a++tV B s5.heap) c q R->N c q->∃m,m<n/\∃i σ' H',Inv X a σ' H' R/\U i R.heap/\(∀b∈B,H' b=none)/\W i m σ' H':=λ{c q} t G=>by
   obtain⟨m',hm,w7⟩:=hN c q G;refine⟨m',hm,i+1,c,q,t.unpinned,T.keep _ _ _ z λb hb o e=>(t.pin (b,o) (YT _ (YT _ (mF hb e)))).1,λb hb=>?_,w7⟩;obtain⟨o,e,d⟩:=T.obj _ _ z b hb;exact(t.pin (b,o) (YT _ (YT _ (mF hb e)))).2.1
  cases f with
  |next=>obtain⟨c,q,t,G⟩:=y;exact p t G
  |cont=>obtain⟨c,q,t,G⟩:=y;exact p t G
  |brk=>obtain⟨c,q,t,y⟩:=y;exact⟨c,q,t.unpinned,y⟩
  |ret v=>obtain⟨x7,c,q,t,r7,y⟩:=y;exact⟨x7,c,q,t.unpinned,r7,y⟩
theorem jM {K:W.Frag}{a:Addr}{xs:List V}{g:TG}{c:TS}{D:Ends}{σ:St}{H:Hp}(b:Nat->St->Hp->Prop)(d:b 0 σ H)(f:∀i σ H,i<=xs.length->b i σ H->SqL K H a xs)
  (h:∀i x σ H,xs[i]? =some x->b i σ H->g x σ H λσ2 H2=>c { D with nx:=b (i+1),ct:=b (i+1),bk:=D.nx } σ2 H2) (hd:∀σ H,b xs.length σ H->D.nx σ H) :
  ∃ W:Nat->Nat->St->Hp->Prop,(∃m,W 0 m σ H)/\∀i m σ H,W i m σ H->
   ((Itl K a).stop i H/\D.nx σ H)\/((Itl K a).go i H/\∃N:St->Hp->Prop,(∀σ' H',N σ' H'->∃m',m'<m/\W (i+1) m' σ' H')/\∀x H',(Itl K a).yld i H x H'->g x σ H' λσ2 H2=>c { D with nx:=N,ct:=N,bk:=D.nx } σ2 H2):=by
 refine⟨λi m σ H=>m=xs.length-i/\i<=xs.length/\b i σ H,⟨xs.length,by simp,YW _,d⟩,?_⟩;rintro i m σ H ⟨rfl,j,p⟩;have q:=f i σ H j p;by_cases hlt:i<xs.length
 ·refine .inr ⟨⟨xs,xs[i],q,by simp[hlt]⟩,b (i+1),λσ' H' k=>⟨xs.length-(i+1),by lia,rfl,hlt,k⟩,λx H' y=>?_⟩;obtain⟨e,y⟩:=y;grind
 ·have e:i=xs.length:=by lia
  subst e;exact .inl ⟨⟨xs,q,Yb _⟩,hd σ H p⟩
theorem oG {lo:Int}{n:Nat}{g:TG}{b:TS}{D:Ends}{σ:St}{H:Hp}(a:Nat->St->Hp->Prop)(c:a 0 σ H)
  (d:∀i σ H,i<n->a i σ H->g (.int (lo+i)) σ H λσ2 H2=>b { D with nx:=a (i+1),ct:=a (i+1),bk:=D.nx } σ2 H2) (hd:∀σ H,a n σ H->D.nx σ H) :
  ∃ W:Nat->Nat->St->Hp->Prop,(∃m,W 0 m σ H)/\∀i m σ H,W i m σ H->
   ((Itr lo n).stop i H/\D.nx σ H)\/((Itr lo n).go i H/\∃N:St->Hp->Prop,(∀σ' H',N σ' H'->∃m',m'<m/\W (i+1) m' σ' H')/\∀x H',(Itr lo n).yld i H x H'->g x σ H' λσ2 H2=>b { D with nx:=N,ct:=N,bk:=D.nx } σ2 H2):=by
 refine⟨λi m σ H=>m=n-i/\i<=n/\a i σ H,⟨n,by simp,YW _,c⟩,?_⟩;rintro i m σ H ⟨rfl,h,p⟩;by_cases hlt:i<n
 ·refine .inr ⟨hlt,a (i+1),λσ' H' f=>⟨n-(i+1),by lia,rfl,hlt,f⟩,λx H' y=>?_⟩;obtain⟨e,y⟩:=y;grind
 ·have e:i=n:=by lia
  subst e;exact .inl ⟨Yb _,hd σ H p⟩
abbrev R2:=V->V->Hp->VK->Prop
variable {r:R2}
def OpR (X:Cx)(f:Value->Value->Sem Value)(r:R2):Prop:=
 ∀ (pins:List (Addr×Obj))(s:Shared)(σ:St)(H:Hp)(x y:V)(v u:Value)(Q:VK),Inv X pins σ H s->RelV x v->RelV y u->r x y H Q->
  wpAny (model X.prog X.w) X.A (f v u) (EP X pins σ Q) X.xe s
def UnR (X:Cx)(f:Value->Sem Value)(r:V->Hp->VK->Prop):Prop:=
 ∀ (pins:List (Addr×Obj))(s:Shared)(σ:St)(H:Hp)(x:V)(v:Value)(Q:VK),Inv X pins σ H s->RelV x v->r x H Q->
  wpAny (model X.prog X.w) X.A (f v) (EP X pins σ Q) X.xe s
def gR (X:Cx)(f:Value)(r:List V->Hp->VK->Prop):Prop:=
 ∀ (pins:List (Addr×Obj))(s:Shared)(σ:St)(H:Hp)(xs:List V)(us:List Value)(Q:VK),Inv X pins σ H s->Vals xs us->r xs H Q->
  wpAny (model X.prog X.w) X.A (call f us) (EP X pins σ Q) X.xe s
def tOp (r:R2)(b c:TE):TE:=λa H Q=>b a H λx d=>c a d λy e=>r x y e Q
def tUn (r:V->Hp->VK->Prop)(a:TE):TE:=λb H Q=>a b H λx c=>r x c Q
def rI (C:Int->Int->Prop)(g:Int->Int->V):R2:=λx y H Q=>∃i j,x= .int i/\y= .int j/\C i j/\Q (g i j) H
def rI0 (g:Int->Int->V):R2:=λx y H Q=>∃i j,x= .int i/\y= .int j/\Q (g i j) H
def rU (g:Int->V):V->Hp->VK->Prop:=λx H Q=>∃i,x= .int i/\Q (g i) H
section
variable {a b:Expr}{tc:TE}
theorem c2T (e:PE X a ta)(g:PE X b tb){c:List (Addr×Obj)}{s:Shared}{σ:St}{H:Hp}{R:V->V->Hp->Prop}(I:Inv X c σ H s)
  (h:ta σ H λx H1=>tb σ H1 λy H2=>R x y H2) {Q:Value->Shared->Prop} {f:Value->Value->Sem Value}
  (i:∀v u s2 x y H2,Inv X c σ H2 s2->RelV x v->RelV y u->R x y H2->wpAny (model X.prog X.w) X.A (f v u) Q X.xe s2) :
  wpAny (model X.prog X.w) X.A (eval a X.env) (λv s₁=>wpAny (model X.prog X.w) X.A (eval b X.env) (λu s₂=>wpAny (model X.prog X.w) X.A (f v u) Q X.xe s₂) X.xe s₁) X.xe s:=by
 refine thn (e c s σ H _ I h) λv j d=>?_;obtain⟨x,H1,k,l,m⟩:=d;refine thn (g c j σ H1 _ k m) λu s2 d=>?_;obtain⟨y,H2⟩:=d;grind
def aP {op:Operator}(d:OpR X (binaryOp op) r)(e:PE X a ta)(f:PE X b tb):PE X (.BinOp a op b pos) (tOp r ta tb):=by
 intro c s g H Q I h;exact wpAny_BinOp (c2T e f I h λv u i x y j k l m q=>d c i g j x y v u Q k l m q)
def b1B {op:UnaryOp}{r:V->Hp->VK->Prop}(d:UnR X (unaryOp op) r)(e:PE X a ta):PE X (.UnaryOp op a pos) (tUn r ta):=by
 intro b s c H Q I h;exact UnaryOp_ (thn (e b s c H _ I h) λv f ⟨x,g,i,j,k⟩=>d b f c g x v Q i j k)
theorem opI {f:Value->Value->Sem Value}{C:Int->Int->Prop}{g:Int->Int->Int}
  (a:∀(i j:Int)(t u:Tok)(s:Shared)(Q:Value->Shared->Prop)(E:Value->Shared->Prop),C i j->Q (.int (g i j) s.toks) { s with toks:=s.toks+1 }->wpAny (model X.prog X.w) X.A (f (.int i t) (.int j u)) Q E s) :
  OpR X f (rI C λi j=> .int (g i j)):=by
 intro b s l H x y v u Q I c d h;obtain⟨i,j,rfl,rfl,e,q⟩:=h;obtain⟨t,rfl⟩:=c;obtain⟨k,rfl⟩:=d;exact a i j t k s _ _ e ⟨.int (g i j),H,I.tok _,⟨_,rfl⟩,q⟩
theorem c1I {f:Value->Value->Sem Value}{g:Int->Int->Int}
  (a:∀(i j:Int)(t u:Tok)(s:Shared)(Q:Value->Shared->Prop)(E:Value->Shared->Prop),Q (.int (g i j) s.toks) { s with toks:=s.toks+1 }->wpAny (model X.prog X.w) X.A (f (.int i t) (.int j u)) Q E s) :
  OpR X f (rI0 λi j=> .int (g i j)):=by
 intro b s k H x y v u Q I c d h;obtain⟨i,j,rfl,rfl,q⟩:=h;obtain⟨t,rfl⟩:=c;obtain⟨e,rfl⟩:=d;exact a i j t e s _ _ ⟨.int (g i j),H,I.tok _,⟨_,rfl⟩,q⟩
theorem b6D {f:Value->Value->Sem Value}{g:Int->Int->Bool}
  (a:∀(i j:Int)(t u:Tok)(s:Shared)(Q:Value->Shared->Prop)(E:Value->Shared->Prop),Q (.bool (g i j)) s->wpAny (model X.prog X.w) X.A (f (.int i t) (.int j u)) Q E s) :
  OpR X f (rI0 λi j=> .bl (g i j)):=by
 intro b s k H x y v u Q I c d h;obtain⟨i,j,rfl,rfl,q⟩:=h;obtain⟨t,rfl⟩:=c;obtain⟨e,rfl⟩:=d;exact a i j t e s _ _ ⟨.bl (g i j),H,I,rfl,q⟩
def c6L (i j:Int):Prop:=0<j/\j<1073741824
def a2J (k:Nat):(0:Int)<=2 ^ k:=by
 lia
def c1H:OpR X (binaryOp .Add) (rI0 λi j=> .int (i+j)):=c1I λ_ _ _ _ _ _ _ q=>add_int q
def c1A:OpR X (binaryOp .Sub) (rI0 λi j=> .int (i-j)):=c1I λ_ _ _ _ _ _ _ q=>sub_int q
def b6C:OpR X (binaryOp .FloorDiv) (rI c6L λi j=> .int (i / j)):=opI λi j _ _ _ _ _ a q=>by
 have b:=a.1;have c:=a.2;exact floordiv_int (by lia) (by grind) (.inl (PyProof.noPylong_small (by lia)))
def c1D:OpR X (binaryOp .Mod) (rI (λ_ j=>0<j) λi j=> .int (i % j)):=opI λi j _ _ _ _ _ a q=>by
 exact mod_int' (by lia) (by grind)
def c1B:OpR X (binaryOp .RShift) (rI (λ_ j=>0<=j) λi j=> .int (i / 2 ^ j.toNat)):=opI λi j _ _ _ _ _ a q=>
 rshift_int a (by grind)
def c1G:OpR X (binaryOp .BitAnd) (rI0 λi j=> .int (Builtin.bitAnd i j)):=c1I λ_ _ _ _ _ _ _ q=>and_int q
theorem unI {f:Value->Sem Value}{g:Int->Int}
  (a:∀(i:Int)(t:Tok)(s:Shared)(Q:Value->Shared->Prop)(E:Value->Shared->Prop),Q (.int (g i) s.toks) { s with toks:=s.toks+1 }->wpAny (model X.prog X.w) X.A (f (.int i t)) Q E s) :
  UnR X f (rU λi=> .int (g i)):=by
 intro b s d H x v Q I c h;obtain⟨i,rfl,q⟩:=h;obtain⟨t,rfl⟩:=c;exact a i t s _ _ ⟨.int (g i),H,I.tok _,⟨_,rfl⟩,q⟩
def b8W:UnR X (unaryOp .USub) (rU λi=> .int (-i)):=unI λ_ _ _ _ _ q=>neg_int q
end
def c0H:V->V->Bool
 |.non,.non=>true | .non,.int _=>true | .int _,.non=>true | .non,.bl _=>true | .bl _,.non=>true | .non,.str _=>true | .str _,.non=>true
 |.int _,.int _=>true | .bl _,.bl _=>true | .str _,.str _=>true | .byt _,.byt _=>true
 |.int _,.str _=>true | .str _,.int _=>true | .bl _,.str _=>true | .str _,.bl _=>true
 |_,_=>false
def rEq:R2:=λx y H Q=>c0H x y=true/\Q (.bl (decide (x=y))) H
def rNe:R2:=λx y H Q=>c0H x y=true/\Q (.bl (!decide (x=y))) H
def a6C {i j:Int}:decide (V.int i=V.int j)=(i == j):=by
 rw[X8];simp
def b3N {i j:Bool}:decide (V.bl i=V.bl j)=(i == j):=by
 rw[X8];simp
def a6B {i j:Str}:decide (V.str i=V.str j)=(i == j):=by
 rw[X8];simp
def a6D {i j:Array UInt8}:decide (V.byt i=V.byt j)=(i.toList == j.toList):=by
 rw[X8];cases i;cases j;simp
section
variable {a b:Expr}{tc:TE}
def cL {Q:VK}{k a:Bool}(I:Inv X pins σ H s)(q:Q (.bl k) H)(e:k=a):EP X pins σ Q (.bool a) s:=by
 subst e;exact⟨.bl k,H,I,rfl,q⟩
def c4H:OpR X (compareOp .Eq) rEq:=by
 intro e s f H x y v u Q I d a h;obtain⟨c,q⟩:=h;cases x with
 | non=>
  cases d;cases y with
  |non=>cases a;exact PySem.EqNone.eq_none_none (cL I q (by simp))
  |bl j=>cases a;exact PySem.EqNone.eq_none_bool (cL I q (by simp))
  |int j=>obtain⟨b,rfl⟩:=a;exact PySem.EqNone.eq_none_int (cL I q (by simp))
  |str j=>obtain⟨b,rfl⟩:=a;exact PySem.EqNone.eq_none_str (cL I q (by simp))
  |_=>exact absurd (c) Ys
 | bl i=>
  cases d;cases y with
  |non=>cases a;exact PySem.EqNone.eq_bool_none (cL I q (by simp))
  |bl j=>cases a;exact eq_bool (cL I q b3N)
  |str j=>obtain⟨b,rfl⟩:=a;exact PySem.EqMixed.eq_bool_str (cL I q (by simp))
  |_=>exact absurd (c) Ys
 | int i=>
  obtain⟨t,rfl⟩:=d;cases y with
  |non=>cases a;exact PySem.EqNone.eq_int_none (cL I q (by simp))
  |int j=>obtain⟨b,rfl⟩:=a;exact eq_int (cL I q a6C)
  |str j=>obtain⟨b,rfl⟩:=a;exact PySem.EqMixed.eq_int_str (cL I q (by simp))
  |_=>exact absurd (c) Ys
 | str i=>
  obtain⟨t,rfl⟩:=d;cases y with
  |non=>cases a;exact PySem.EqNone.eq_str_none (cL I q (by simp))
  |bl j=>cases a;exact PySem.EqMixed.eq_str_bool (cL I q (by simp))
  |int j=>obtain⟨b,rfl⟩:=a;exact PySem.EqMixed.eq_str_int (cL I q (by simp))
  |str j=>obtain⟨b,rfl⟩:=a;exact eq_str (cL I q a6B)
  |_=>exact absurd (c) Ys
 | byt i=>
  obtain⟨t,rfl⟩:=d;cases y with
  |byt j=>obtain⟨b,rfl⟩:=a;exact W.eq_bytes (cL I q a6D)
  |_=>exact absurd (c) Ys
 |_=>cases y <;> exact absurd (show false=true from c) Ys
def c4C:OpR X (compareOp .NotEq) rNe:=by
 intro e s f H x y v u Q I d a h;obtain⟨c,q⟩:=h;cases x with
 | non=>
  cases d;cases y with
  |non=>cases a;exact PySem.EqNone.ne_none_none (cL I q (by simp))
  |bl j=>cases a;exact PySem.EqNone.ne_none_bool (cL I q (by simp))
  |int j=>obtain⟨b,rfl⟩:=a;exact PySem.EqNone.ne_none_int (cL I q (by simp))
  |str j=>obtain⟨b,rfl⟩:=a;exact PySem.EqNone.ne_none_str (cL I q (by simp))
  |_=>exact absurd (c) Ys
 | bl i=>
  cases d;cases y with
  |non=>cases a;exact PySem.EqNone.ne_bool_none (cL I q (by simp))
  |bl j=>cases a;exact ne_bool (cL I q (YJ not b3N))
  |str j=>obtain⟨b,rfl⟩:=a;exact PySem.EqMixed.ne_bool_str (cL I q (by simp))
  |_=>exact absurd (c) Ys
 | int i=>
  obtain⟨t,rfl⟩:=d;cases y with
  |non=>cases a;exact PySem.EqNone.ne_int_none (cL I q (by simp))
  |int j=>obtain⟨b,rfl⟩:=a;exact ne_int (cL I q (YJ not a6C))
  |str j=>obtain⟨b,rfl⟩:=a;exact PySem.EqMixed.ne_int_str (cL I q (by simp))
  |_=>exact absurd (c) Ys
 | str i=>
  obtain⟨t,rfl⟩:=d;cases y with
  |non=>cases a;exact PySem.EqNone.ne_str_none (cL I q (by simp))
  |bl j=>cases a;exact PySem.EqMixed.ne_str_bool (cL I q (by simp))
  |int j=>obtain⟨b,rfl⟩:=a;exact PySem.EqMixed.ne_str_int (cL I q (by simp))
  |str j=>obtain⟨b,rfl⟩:=a;exact ne_str (cL I q (YJ not a6B))
  |_=>exact absurd (c) Ys
 | byt i=>
  obtain⟨t,rfl⟩:=d;cases y with
  |byt j=>obtain⟨b,rfl⟩:=a;exact W.ne_bytes (cL I q (YJ not a6D))
  |_=>exact absurd (show false=true from c) Ys
 |_=>cases y <;> exact absurd (show false=true from c) Ys
def c4D:OpR X (compareOp .Lt) (rI0 λi j=> .bl (decide (i<j))):=b6D λ_ _ _ _ _ _ _ q=>lt_int q
def c4E:OpR X (compareOp .LtE) (rI0 λi j=> .bl (decide (i<=j))):=b6D λ_ _ _ _ _ _ _ q=>le_int q
def c4F:OpR X (compareOp .Gt) (rI0 λi j=> .bl (decide (j<i))):=b6D λ_ _ _ _ _ _ _ q=>gt_int q
def c4G:OpR X (compareOp .GtE) (rI0 λi j=> .bl (decide (j<=i))):=b6D λ_ _ _ _ _ _ _ q=>ge_int q
def a7K:OpR X (compareOp .In) (λx y H Q=>∃i j,x= .str i/\y= .str j/\Q (.bl (!(Builtin.Str.occurrences j i 0 j.length 1).isEmpty)) H):=by
 intro a s d H x y v u Q I b c h;obtain⟨i,j,rfl,rfl,q⟩:=h;obtain⟨t,rfl⟩:=b;obtain⟨e,rfl⟩:=c;exact in_str (cL I q rfl)
def c1E:OpR X (compareOp .Is) (λx y H Q=>y= .non/\Q (.bl (decide (x= .non))) H):=by
 intro a s d H x y v u Q I b c h;obtain⟨rfl,q⟩:=h;cases c;refine is_none_gen (cL I q ?_);cases x <;> first
  |(cases b;rfl)
  |(obtain⟨t,rfl⟩:=b;rfl)
def aU (b:Expr)(h:op≠ .In:=by decide)(a:op≠ .NotIn:=by decide):behindInMarks op b=false:=by
 have c:(op == CmpOp.In)=false:=by lia
 have d:(op == CmpOp.NotIn)=false:=by lia
 cases b <;> simp[behindInMarks,c,d]
def eN (d:OpR X (compareOp op) r)(e:PE X a ta)(f:PE X b tb)(g:behindInMarks op b=false):PE X (.Compare a [op] [b] pos) (tOp r ta tb):=by
 intro c s i H Q I h;exact wpAny_Compare1 (c2T e f I h λv u j x y k l m n q=>d c j i k x y v u Q l m n q) g
def a4J (t:TE):TT:=λa H Q=>t a H λx b=>∃k,x= .bl k/\Q k b
def b5P (g:OpR X (compareOp op) r)(i:PE X a ta)(j:PE X b tb)(l:behindInMarks op b=false):PT X (.Compare a [op] [b] pos) (a4J (tOp r ta tb)):=by
 intro d s f H Q I h
 refine wpAny_isTrue_Compare1 (thn (i d s f H _ I h) λv m ⟨x,n,o,p,q⟩=>thn (j d m f n _ o q) λu t ⟨y,w,A,B,C⟩=>
  thn (g d t f w x y v u _ A p B C) λc J ⟨z,D,E,F,k,e,G⟩=>?_) l
 subst e;cases F;exact Xj ⟨D,E,G⟩
def xJ (r c:R2)(d e tc:TE):TE:=λa H Q=>d a H λx f=>e a f λy g=>r x y g λz b=>∃k,z= .bl k/\
 (if k=true then tc a b λh i=>c y h i Q else Q (.bl false) b)
theorem b1G {op op':CmpOp}{r r':R2}(ho:OpR X (compareOp op) r)(ho':OpR X (compareOp op') r')(ha:PE X a ta)(hb:PE X b tb)(hc:PE X c tc)
  (hm:lastMarks [op,op'] [b,c]=false:=by with_unfolding_all rfl):PE X (.Compare a [op,op'] [b,c] pos) (xJ r r' ta tb tc):=by
 intro f s g H Q I h
 refine Compare_chain (thn (ha f s g H _ I h) λv n ⟨x,o,p,q,t⟩=>chain_link (thn (hb f n g o _ p t) λu w ⟨y,A,B,i,C⟩=>
  thn (ho f w g A x y v u _ B q i C) λd D ⟨z,j,l,E,k,e,m⟩=>?_)) hm
 subst e;cases E;refine Xj ?_;cases k with
 |false=>exact ite_ff ⟨.bl false,j,l,rfl,m⟩
 |true=>exact ite_tt (chain_last (thn (hc f D g j _ l m) λF G ⟨J,K,L,M,N⟩=>ho' f G g K y J u F Q L i M N))
theorem b0X {op op':CmpOp}{r r':R2}(ho:OpR X (compareOp op) r)(ho':OpR X (compareOp op') r')(ha:PE X a ta)(hb:PE X b tb)(hc:PE X c tc)
  (hm:lastMarks [op,op'] [b,c]=false:=by with_unfolding_all rfl):PT X (.Compare a [op,op'] [b,c] pos) (a4J (xJ r r' ta tb tc)):=by
 intro f s g H Q I h
 refine isTrue_chain (thn (ha f s g H _ I h) λv n ⟨x,o,p,q,t⟩=>test_link (thn (hb f n g o _ p t) λu w ⟨y,A,B,i,C⟩=>
  thn (ho f w g A x y v u _ B q i C) λd D ⟨z,j,l,E,k,e,m⟩=>?_)) hm
 subst e;cases E;refine Xj ?_;cases k with
 | false=>
  obtain⟨W,F,G⟩:=m;cases F;exact ite_ff ⟨j,l,G⟩
 | true=>
  refine ite_tt (test_last (thn (hc f D g j _ l m) λJ K ⟨L,M,N,O,P⟩=>thn (ho' f K g M y L u J _ N i O P) λY Z ⟨z2,R,S,T,k2,U,V⟩=>?_));subst U;cases T;exact Xj ⟨R,S,V⟩
def uC:(sizeLine:Nat)<2 ^ 63:=by rw[sizeLine_eq];decide
def a3F:OpR X (binaryOp .Add) (λx y H Q=>∃i j,x= .str i/\y= .str j/\i.length+j.length<=sizeLine/\Q (.str (i++j)) H):=by
 intro a s f H x y v u Q I b c h;obtain⟨i,j,rfl,rfl,d,q⟩:=h;obtain⟨t,rfl⟩:=b;obtain⟨e,rfl⟩:=c;exact add_str (λe g=>⟨.str (i++j),H,I.tok _,⟨_,rfl⟩,q⟩) d
def vals1 {x:V}(r:Vals [x] us):∃u,us= [u]/\RelV x u:=by
 cases r with
 |cons r1 r2=>cases r2;exact⟨_,rfl,r1⟩
def vals2 {x y:V}(r:Vals [x,y] us):∃u w',us= [u,w']/\RelV x u/\RelV y w':=by
 cases r with
 | cons r1 r2=>
  cases r2 with
  |cons r3 r4=>cases r4;exact⟨_,_,rfl,r1,r3⟩
def a8M (b:X.calm=true):gR X (.builtin "max") (λxs H Q=>∃i j,xs= [.int i,.int j]/\Q (.int (if j > i then j else i)) H):=by
 intro a s c H xs d Q I r h;obtain⟨i,j,rfl,q⟩:=h;obtain⟨u,e,rfl,⟨t,rfl⟩,⟨f,rfl⟩⟩:=vals2 r;refine max_two_ints (I.ok.hd b) λg l k=>⟨_,H,I.kept k,?_,q⟩
 by_cases hj:j > i
 ·rw[if_pos hj,if_pos hj];exact⟨_,rfl⟩
 ·rw[if_neg hj,if_neg hj];exact⟨_,rfl⟩
def a8L (b:X.calm=true):gR X (.builtin "min") (λxs H Q=>∃i j,xs= [.int i,.int j]/\Q (.int (if j<i then j else i)) H):=by
 intro a s c H xs d Q I r h;obtain⟨i,j,rfl,q⟩:=h;obtain⟨u,e,rfl,⟨t,rfl⟩,⟨f,rfl⟩⟩:=vals2 r;refine min_two_ints (I.ok.hd b) λg l k=>⟨_,H,I.kept k,?_,q⟩
 by_cases hj:j<i
 ·rw[if_pos hj,if_pos hj];exact⟨_,rfl⟩
 ·rw[if_neg hj,if_neg hj];exact⟨_,rfl⟩
def yU:gR X (.type "str") (λxs H Q=>∃i,xs= [.int i]/\i.natAbs.log2<1920/\Q (.str (toString i)) H):=by
 intro a s c H xs d Q I r h;obtain⟨i,rfl,b,q⟩:=h;obtain⟨u,rfl,t,rfl⟩:=vals1 r;exact PySem.P.str_of_int b ⟨.str _,H,I.tok _,⟨_,rfl⟩,q⟩
end
structure a4A (h:Heap)(x dx C:Addr)(mA:Str->Option Value):Prop where
 obj:h.get? x=some (W.instObj C dx)
 ns:h.Ns1 dx mA
 ne:dx≠x
def a7W (n:h.Ns1 dx mA):∃od,h.get? dx=some od/\∀name,W.lookIn name od=some (mA name):=by
 obtain⟨o,c,k,d,hd,f,_,g⟩:=n;refine⟨o,d,λname=>?_⟩;have e:=g name;unfold nsFind findBy at e;rw[<-Array.find?_toList]at e;unfold W.lookIn;rw[hd];dsimp only;split
 ·grind
 ·have a:c.toList.any (·.refKey)=false:=by
   rw[List.any_eq_false];intro y i;obtain⟨z,t,b⟩:=f y (Array.mem_toList_iff.mp i);simp[DictEntry.refKey,b]
  grind
def a4A.look {x:Addr}(I:a4A h x dx C mA):∃od,W.InstAt h x (W.instObj C dx) C (some od)/\∀name,W.lookIn name od=some (mA name):=
 let ⟨od,ho,hl⟩:=a7W I.ns
 ⟨od,⟨I.obj,rfl,rfl,ho⟩,hl⟩
section
variable {prog:Program}{x:Addr}{name:Str}
theorem b6V {a:Bool}{Q:Value->Shared->Prop}(X:K.In s.heap)(I:a4A s.heap x dx C mA)(c:W.plainGet K C name=true)(d:W.hasDictIn K C=true)
  (e:W.findIn K (.ref C) name=some none) (f:mA name=some v) (b:W.handedIn v=true) (h:Q v { s with toks:=s.toks+1 }) :
  wpAny (model prog w) A (getAttr (.ref x) name a) Q E s:=by
 obtain⟨i,J,g⟩:=I.look;exact W.get_value X J (W.plainGet_of c).1 (W.findObj_own d e rfl (by rw[g,f])) b h
theorem b2U {pl:Sem Bool}{Q:Value×List Value->Shared->Prop}(X:K.In s.heap)(I:a4A s.heap x dx C mA)(a:W.plainGet K C name=true)
  (b:W.findIn K (.ref C) name=some (some (.ref f))) (c:W.isFn K (.ref f)=true) (d:mA name=none) (h:Q (.ref f, [.ref x]) s) :
  wpAny (model prog w) A (getMethod (.ref x) name pl) Q E s:=by
 obtain⟨e,J,g⟩:=I.look;exact W.method_fn X J (W.plainGet_of a).1 (W.plainGet_of a).2 b (Jj.mp c) (by show (W.lookIn name e).map (·.isSome)=some false;rw[g,d];rfl) h
theorem b5K {ns:List Str}{Q:Unit->Shared->Prop}(X:K.In s.heap)(I:a4A s.heap x dx C mA)
  (i:W.findIn K (.ref C) "__setattr__"=some (some (.builtin "object.__setattr__"))) (j:W.plainOver K C=true) (k:W.takerIn K C name=some none) (l:W.hasDictIn K C=true)
  (m:PySem.Within mA ns) (hsz:ns.length<=sizeLine)
  (h:∀h',a4A h' x dx C (λy=>if y=name then some v else mA y)->Heap.SameBut dx s.heap h'->Q () { s with heap:=h',toks:=s.toks+2 }) :
  wpAny (model prog w) A (setAttr (.ref x) name v) Q E s:=by
 obtain⟨t,J,u⟩:=I.look;refine W.set_plain X J i (W.osa_open X J j k λb=>?_);obtain⟨z,n,e⟩:=W.any_some l;refine YZ (Xd (YZ (YZ (wpAny_loadPart I.obj (YZ (W.Looks.here (W.looks_clsIn X n) ?_))))));rw[e];refine Xd (YZ (Xd (YZ (wpAny_nsSet1 I.ns λh' c d=>?_))));obtain⟨B,p,q,f,hdD,g⟩:=c.count (PySem.Within.cons name v m);exact YZ (wpAny_lookBehind f (by rw[hdD];exact pastItsLine_dict (YK g (by rw[Yk];lia))) (Xd (h _ ⟨(d.2 _ (Va I.ne)).trans I.obj,c,I.ne⟩ d)))
theorem b2E {R:Result->Shared->Prop}{vs:List Value}{a:List (Str×Value)}(X:K.In s.heap)(b:W.makesIn K C=true)
  (c:W.findIn K (.ref C) "__init__"=some (some (.ref f))) (e:W.typeIn K (.ref f)=some (.type "function"))
  (h :codeAny (model prog w) (A.under (.builtin "type.__call__" ⟨.ref C::vs,a⟩)) (.call (.ref f) ⟨.ref (s.heap.objs.size+1)::vs,a⟩) (W.InitBack (s.heap.objs.size+1) R)
   { s with heap:=(s.heap.push W.emptyDict).push (W.instObj C s.heap.objs.size) }) :
  codeAny (model prog w) A (.call (.ref C) ⟨vs,a⟩) R s:=by
 exact W.make_core (W.makes_of X b) (W.looks_findIn X c) (λself=>W.bind_fn X self e) (.inl rfl) h
theorem a7T {R:Result->Shared->Prop}(X:K.In s.heap)(a:W.makesIn K C=true)
  (b:W.findIn K (.ref C) "__init__"=some (some (.builtin "object.__init__")))
  (c:∀self,W.Looks (model prog w) s.heap (bindSpecial (.builtin "object.__init__") self) (.builtin "object.__init__", [self]))
  (h :codeAny (model prog w) (A.under (.builtin "type.__call__" ⟨[.ref C], []⟩)) (.call (.builtin "object.__init__") ⟨[.ref (s.heap.objs.size+1)], []⟩) (W.InitBack (s.heap.objs.size+1) R)
   { s with heap:=(s.heap.push W.emptyDict).push (W.instObj C s.heap.objs.size) }) :
  codeAny (model prog w) A (.call (.ref C) ⟨[], []⟩) R s:=by
 exact W.make_core (W.makes_of X a) (W.looks_findIn X b) c (.inr ⟨rfl,rfl⟩) h
end
def gU (f:Str)(v:V):List (Str×V)->List (Str×V)
 |[]=>[(f,v)]
 |(g,x)::r=>if g=f then (g,v)::r else (g,x)::gU f v r
theorem qX (f g:Str)(v:V):∀fs:List (Str×V),(gU f v fs).lookup g=if g=f then some v else fs.lookup g
 | [] =>by
  show List.lookup g [(f,v)]=_;by_cases h:g=f
  ·have hb:(g == f)=true:=Jj.mpr h;simp only[List.lookup,hb,if_pos h]
  ·have hb:(g == f)=false:=Xo.mpr h;simp only[List.lookup,hb,if_neg h]
 | (k, x)::r=>by
  have ih:=qX f g v r;rw[show gU f v ((k,x)::r)=(if k=f then (k,v)::r else (k,x)::gU f v r) from rfl];by_cases hk:k=f
  ·rw [if_pos hk];by_cases h:g=k
   ·have hb:(g == k)=true:=Jj.mpr h;simp only[List.lookup,hb,if_pos (h.trans hk)]
   ·have hb:(g == k)=false:=Xo.mpr h;simp only[List.lookup,hb,if_neg (λe:g=f=>h (e.trans hk.symm))]
  ·rw [if_neg hk];by_cases h:g=k
   ·have hb:(g == k)=true:=Jj.mpr h;simp only[List.lookup,hb,if_neg (λe:g=f=>hk (h.symm.trans e))]
   ·have hb:(g == k)=false:=Xo.mpr h;simp only[List.lookup,hb];exact ih
theorem qN (f:Str)(v:V):∀fs:List (Str×V),f∈(gU f v fs).map (·.1)/\∀g,g∈fs.map (·.1)->g∈(gU f v fs).map (·.1)
 |[]=>⟨by simp[gU],λg h=>by simp at h⟩
 | (k, x)::r=>by
  obtain⟨i1,i2⟩:=qN f v r;rw[show gU f v ((k,x)::r)=(if k=f then (k,v)::r else (k,x)::gU f v r) from rfl];by_cases hk:k=f
  ·rw[if_pos hk];subst hk;exact⟨by simp,λg h=>by simpa using h⟩
  ·rw [if_neg hk];refine⟨?_,λg h=>?_⟩
   ·rw[Yz];exact Yp _ i1
   ·rw[Yz]at h ⊢;rcases YL.mp h with e | e
    ·exact YL.mpr (.inl e)
    ·exact Yp _ (i2 g e)
theorem qY (f:Str)(v:V):∀fs:List (Str×V),(gU f v fs).length<=fs.length+1
 |[]=>by simp[gU]
 | (k,x)::r=>by
  have ih:=qY f v r;rw[show gU f v ((k,x)::r)=(if k=f then (k,v)::r else (k,x)::gU f v r) from rfl];by_cases hk:k=f
  ·rw[if_pos hk,Yk,Yk];lia
  ·rw[if_neg hk,Yk,Yk];lia
def nM.some_of {v:V}{o:Option Value}(r:nM (some v) o):∃u,o=some u/\RelV v u:=by
 cases o with
 |none=>exact(r).elim
 |some u=>exact⟨u,rfl,r⟩
def nM.none_of {o:Option Value}(r:nM none o):o=none:=by
 cases o with
 |none=>rfl
 |some u=>exact(r).elim
def a8D {v:V}(r:RelV v u):W.handedIn u=true:=by
 cases v with
 |non=>cases (r);rfl
 |bl b=>cases (r);rfl
 |int i=>obtain⟨t,e⟩:=(r);cases e;rfl
 |str x=>obtain⟨t,e⟩:=(r);cases e;rfl
 |byt b=>obtain⟨t,e⟩:=(r);cases e;rfl
 |flt b=>obtain⟨t,e⟩:=(r);cases e;rfl
 |ref a=>cases (r);rfl
 |ty n=>cases (r);rfl
section
variable {fs fs':List (Str×V)}
def yK (b:HOk P w H h)(e:H a=some (.ins C dx fs)):∃mA,a4A h a dx C mA/\(∀f,nM (fs.lookup f) (mA f))/\PySem.Within mA (fs.map (·.1))/\fs.length<=1000/\H dx=some (.own a):=by
 obtain⟨d,z,ne,c,mA,n,r,q⟩:=(b a _ e)
 exact⟨mA,⟨c,n,ne⟩,r,q,z,d⟩
end
structure Cls (K:W.Frag)(C:Addr):Prop where
 pg:W.plainGet K C Str.empty=true
 hd:W.hasDictIn K C=true
 po:W.plainOver K C=true
 sa:W.findIn K (.ref C) "__setattr__"=some (some (.builtin "object.__setattr__"))
def Cls.get (c:Cls K C)(f:Str):W.plainGet K C f=true:=c.pg
def bK (K:W.Frag)(C:Addr)(f:Str):Prop:=W.findIn K (.ref C) f=some none
def bK.taker {f:Str}(n:bK K C f):W.takerIn K C f=some none:=by
 unfold W.takerIn;rw[show W.findIn K (.ref C) f=some none from n];rfl
structure Meth (K:W.Frag)(C:Addr)(m:Str)(f:Addr):Prop where
 at_:W.findIn K (.ref C) m=some (some (.ref f))
 fn:W.isFn K (.ref f)=true
 kp:W.keepIn K (.ref f)=true
section
variable {fs:List (Str×V)}{f:Str}{v:V}
theorem a3N {b:Bool}{Q:Value->Shared->Prop}(I:Inv X pins σ H s)(e:H a=some (.ins C dx fs))(c:Cls X.K C)(n:bK X.K C f)(l:fs.lookup f=some v)
  (h:∀u s',Inv X pins σ H s'->RelV v u->Q u s'):wpAny (model X.prog X.w) A (getAttr (.ref a) f b) Q E s:=by
 obtain⟨g,O,r,_⟩:=yK I.hok e;obtain⟨u,i,d⟩:=nM.some_of (by rw[<-l];exact r f);exact b6V I.kIn O (c.get f) c.hd n i (a8D d) (h u _ (I.tok _) d)
theorem jD {m:Str}{g:Addr}{pl:Sem Bool}{Q:Value×List Value->Shared->Prop}(I:Inv X pins σ H s)(e:H a=some (.ins C dx fs))(c:Cls X.K C)(k:Meth X.K C m g)(l:fs.lookup m=none)
  (h:Q (.ref g, [.ref a]) s):wpAny (model X.prog X.w) A (getMethod (.ref a) m pl) Q E s:=by
 obtain⟨b,O,r,_⟩:=yK I.hok e;exact b2U I.kIn O (c.get m) k.at_ k.fn (nM.none_of (by rw[<-l];exact r m)) h
theorem a2X {y:V}{u:Value}{Q:Unit->Shared->Prop}(I:Inv X pins σ H s)(e:H a=some (.ins C dx fs))(c:Cls X.K C)(n:bK X.K C f)(D:fs.length<1000)(l:RelV y u)
  (h:∀s',Inv X pins σ (upd H a (.ins C dx (gU f y fs))) s'->Q () s'):wpAny (model X.prog X.w) A (setAttr (.ref a) f u) Q E s:=by
 obtain⟨i,O,r,j,_,k⟩:=yK I.hok e;have m:(fs.map (·.1)).length<=sizeLine:=by rw[Ya,sizeLine_eq];lia
 refine b5K I.kIn O c.sa c.po n.taker c.hd j m λp d t=>h _ ?_;have hd:∃o,p.get? dx=some o:=let ⟨o,_,_,e',_⟩:=d.ns;⟨o,e'⟩;refine I.write (by rw[e];exact True.intro) (.inr k) (λb q v z=>(t.2 b v).trans z) hd ⟨by rw[aH O.ne];exact k,?_,O.ne,d.obj,_,d.ns,λg=>?_,λg B=>?_⟩
 ·have:=qY f y fs;lia
 ·rw[qX];by_cases q:g=f
  ·rw[if_pos q,if_pos q];exact l
  grind
 ·by_cases q:g=f
  ·rw[q];exact(qN f y fs).1
  ·refine(qN f y fs).2 g (j g λz=>B ?_);lia
def Inv.made (I:Inv X pins σ H s):Inv X pins σ (upd (upd H s.heap.objs.size (.own (s.heap.objs.size+1))) (s.heap.objs.size+1) (.ins C s.heap.objs.size []))
  { s with heap:=(s.heap.push W.emptyDict).push (W.instObj C s.heap.objs.size) }:=by
 have c:(s.heap.push W.emptyDict).get? s.heap.objs.size=some W.emptyDict:=YD s.heap rfl;have d:((s.heap.push W.emptyDict).push (W.instObj C s.heap.objs.size)).get? (s.heap.objs.size+1)=some (W.instObj C s.heap.objs.size):=by
  have:=YD (s.heap.push W.emptyDict) (o:=W.instObj C s.heap.objs.size) rfl
  rwa [Heap.size_push]at this
 refine (I.laid (o:= .own (s.heap.objs.size+1)) (t':=s.toks) (λb u q=>Yq _ q) (Yb _) ⟨_,c⟩).laid (λb u q=>Yq _ q) (Nat.le_of_eq (Heap.size_push _ _)) ?_;have ne:s.heap.objs.size≠s.heap.objs.size+1:=YQ (Xr _);refine⟨by rw[aH ne,aC],YW _,ne,d,λ_=>none,(Heap.Ns1.of_empty (⟨W.emptyDict, #[],_,c,rfl,(λe g=>absurd g (by simp)),λ_=>rfl⟩)).at λo q=>Yq _ q,λ_=>True.intro,λy i=>absurd rfl i⟩
theorem b7K {prog:Program}{w:World}{env:Env}{e:Expr}{f:Str}{pos:Pos}{s:Shared}{Q:Value->Shared->Prop}(a:attributeBase e f env (eval e env)=eval e env)
  (h:wpAny (model prog w) A (eval e env) (λo s₁=>wpAny (model prog w) A (getAttr o f true) Q E s₁) E s):wpAny (model prog w) A (eval (.Attribute e f pos) env) Q E s:=
 Attribute_any_ h (by rw[arm_eval_Attribute,a])
end
def c6Y (K:W.Frag)(c:TE)(f:Str):TE:=λd H Q=>c d H λx b=>∃a C dx fs v,x= .ref a/\b a=some (.ins C dx fs)/\Cls K C/\bK K C f/\fs.lookup f=some v/\Q v b
def c7F (K:W.Frag)(d e:TE)(f:Str):TS:=λD b H=>e b H λy g=>d b g λx c=>∃a C dx fs,x= .ref a/\c a=some (.ins C dx fs)/\Cls K C/\bK K C f/\fs.length<1000/\
 D.nx b (upd c a (.ins C dx (gU f y fs)))
section
variable {o value:Expr}{f:Str}{pos' tpos:Pos}{tv:TE}
def b1E (g:PE X e ta)(i:attributeBase e f X.env (eval e X.env)=eval e X.env):PE X (.Attribute e f pos) (c6Y X.K ta f):=by
 intro b s j H Q I h;refine b7K i (thn (g b s j H _ I h) λu w d=>?_);obtain⟨x,k,m,o,a,C,y,fs,v,ex,p,c,n,l,q⟩:=d;subst ex;obtain rfl:u=Value.ref a:=o;exact a3N m p c n l λz A r t=>⟨v,k,r,t,q⟩
def b0Z (e:PE X o ta)(g:PE X value tv)(i:swapsWith value (some (.Attribute o f pos')) pos.line X.env=pure false):PS X (.Assign [.Attribute o f pos'] value pos) (c7F X.K ta tv f):=by
 intro b s d H D I h;refine plainObj_wpAny_Assign_Attribute (thn (g b s d H _ I h) λu j ⟨y,k,m,p,q⟩=>thn (e b j d k _ m q) λr B ⟨x,E,t,v,a,C,F,fs,ex,w,c,n,l,z⟩=>?_) i;subst ex;obtain rfl:r=Value.ref a:=v;exact a2X t w c n l p λG A=>⟨d,_,A,z⟩
theorem b8F {pl:Sem Bool}{m:Str}{d:Pos}{b:List Expr}{i:List (Addr×Obj)}{s:Shared}{σ:St}{H:Hp}{Q:Value->Shared->Prop}{n:TE}(p:PE X e n)(I:Inv X i σ H s)
  (h :n σ H λx H1=>∃a C dx fs g,x= .ref a/\H1 a=some (.ins C dx fs)/\Cls X.K C/\Meth X.K C m g/\fs.lookup m=none/\
   ∀s1,Inv X i σ H1 s1->wpAny (model X.prog X.w) X.A (callWith pos (.ref g) [.ref a] (backTo pos (starEach b X.env)) (backToKw pos (keywordEach [] X.env))) Q X.xe s1)
  (r:eval (.Call (.Attribute e m d) b [] pos) X.env=(do
   let ov<-eval e X.env
   standAt d.atName
   let (f,first)<-holding [ov] (getMethod ov m pl)
   callWith pos f first (backTo pos (starEach b X.env)) (backToKw pos (keywordEach [] X.env)))) :
  wpAny (model X.prog X.w) X.A (eval (.Call (.Attribute e m d) b [] pos) X.env) Q X.xe s:=by
 refine XY (thn (p i s σ H _ I h) λu s1 j=>?_) r;obtain⟨x,H1,o,t,a,C,dx,fs,g,ex,v,c,k,l,q⟩:=j;subst ex;obtain rfl:u=Value.ref a:=t;exact jD o v c k l (q s1 o)
end
section
variable {Q:Value->Shared->Prop}{c:Value}{b:Bool}
end
structure eO (k:Nat)(A:Around):Prop where
 hd:A.handled=none
 dp:A.depth+3*k+5<recursionLimit
 un:A.units+16*k+200<cLine
def eO.mono (r:eO k A)(h:j<=k):eO j A:=⟨r.hd,by have:=r.dp;lia,by have:=r.un;lia⟩
def eO.deeper (r:eO (k+1) A)(env:Env):eO k (A.deeper env):=
 ⟨r.hd,by have:=r.dp;show A.depth+1+3*k+5<_;lia,by have:=r.un;show A.units+3+16*k+200<_;lia⟩
def a3I {a:List (Str×Value)}:(A.under (.builtin "type.__call__" ⟨.ref C::us,a⟩)).depth=A.depth+1:=by
 rfl
def a3H {a:List (Str×Value)}:(A.under (.builtin "type.__call__" ⟨.ref C::us,a⟩)).units=A.units+1:=by
 rfl
def eO.make (r:eO (k+1) A)(C:Addr)(us:List Value)(a:List (Str×Value)):eO k (A.under (.builtin "type.__call__" ⟨.ref C::us,a⟩)):=
 ⟨r.hd,by have:=r.dp;rw[a3I];lia,by have:=r.un;rw[a3H];lia⟩
def eO.depth (r:eO k A):A.depth<recursionLimit:=by have:=r.dp;lia
def eO.units (r:eO k A):A.units+64<cLine:=by have:=r.un;lia
def rB:TA:=λ_ H Q=>Q [] H
def tD (b:TE)(c:TA):TA:=λa H Q=>b a H λx d=>c a d λxs e=>Q (x::xs) e
def aD:PA X [] rB:=λ_ _ _ _ H Q I h=>Calls.spliced_nil ⟨[],H,I,.nil,h⟩
def aA (d:PE X e te)(f:PA X es t)(g:starEach (e::es) X.env=(false,eval e X.env)::starEach es X.env:=by rfl):PA X (e::es) (tD te t):=by
 intro pos a s c H Q I h;rw[g];refine JA (thn (d a s c H _ I h) λu i b=>?_);obtain⟨x,j,k,l,m⟩:=b;exact thn (f pos a i c j _ k m) λr v ⟨xs,n,o,p,q⟩=>⟨x::xs,n,o,.cons l p,q⟩
def c6R (t:TA):TE:=λb H Q=>t b H λxs a=>xs.length<=sizeLine/\∀p,a p=none->Q (.ref p) (upd a p (.tup xs))
def c6V (t:TA):TE:=λb H Q=>t b H λxs a=>xs.length<=sizeLine/\∀p,a p=none->Q (.ref p) (upd a p (.lst xs))
def cM {x1}(h:PA X es t):PE X (.Tuple es x1 pos) (c6R t):=by
 intro a s g H Q I i;exact wpAny_Tuple_spliced (thn (h pos a s g H _ I i) λj c ⟨xs,d,f,r,z,q⟩=>⟨by rw[<-r.length];exact z,⟨.ref c.heap.objs.size,upd d c.heap.objs.size (.tup xs),f.laid (λb u e=>Yq _ e) (Yb _) ⟨z,j,r,⟨_,YD _ rfl,rfl,_,rfl⟩⟩,rfl,q _ (f.hok.fresh (Yb _))⟩⟩)
def dJ (h:PA X es t):PE X (.List es pos) (c6V t):=by
 intro a s g H Q I i;exact wpAny_List_spliced (thn (h pos a s g H _ I i) λj c ⟨xs,d,f,r,z,q⟩=>⟨by rw[<-r.length];exact z,⟨.ref c.heap.objs.size,upd d c.heap.objs.size (.lst xs),f.laid (λb u e=>Yq _ e) (Yb _) ⟨z,j,0,r,YD _ rfl⟩,rfl,q _ (f.hok.fresh (Yb _))⟩⟩)
abbrev Sp:=List V->Hp->VK->XK->Prop
variable {sp:Sp}
abbrev CXT:=List Env->Hp->Shared->XK->Value->Shared->Prop
variable {CX:CXT}
structure uQ (P:Program)(w:World)(K:W.Frag)(mg:Str->Option Value)(base:Heap)(A:Around)(outer:List Env)(s:Shared)(H:Hp):Prop where
 frames:A.frames=some outer
 mod:Mod K mg base
 bs:∀b o,base.get? b=some o->s.heap.get? b=some o/\H b=none
 bsz:base.objs.size<=s.heap.objs.size
 funs:s.heap.FunFrames base outer
 frf:∀b∈frs outer,H b=none
 hok:HOk P w H s.heap
 bare:AllBare s.gens
def CE (a:List Env)(P:Program)(w:World)(H:Hp)(s:Shared)(Q:VK)(u:Value)(b:Shared):Prop:=
 ∃v H',b.os=s.os/\AllBare b.gens/\Un (frs a) [] H H' s.heap b.heap/\HOk P w H' b.heap/\RelV v u/\Q v H'
def CR (CX:CXT)(outer:List Env)(P:Program)(w:World)(H:Hp)(s:Shared)(Q:VK)(E:XK)(r:Result)(s':Shared):Prop:=
 match r with
 |.ok (.ret u)=>CE outer P w H s Q u s'
 |.ok _=>False
 |.error e=>CX outer H s E e s'
structure iV (P:Program)(w:World)(K:W.Frag)(mg:Str->Option Value)(base:Heap)(CX:CXT)(k:Nat)(f:Addr)(fd:FuncData)(ps:List Str)(sp:Sp):Prop where
 len:∀vs H Q E,sp vs H Q E->vs.length=ps.length
 run:∀(A:Around)(outer:List Env)(s:Shared)(H:Hp)(args:Args)(us:List Value)(vs:List V)(Q:VK)(E:XK),eO k A->uQ P w K mg base A outer s H->BindsTo s fd args (ps.zip us)->Vals vs us->sp vs H Q E->
  codeAny (model P w) A (.call (.ref f) args) (CR CX outer P w H s Q E) s
theorem iV.mono {mg:Str->Option Value}{base:Heap}(F:iV P w K mg base CX j f fd ps sp)(h:j<=k):
  iV P w K mg base CX k f fd ps sp:=⟨F.len,λA a s H b c d Q E e=>F.run A a s H b c d Q E (e.mono h)⟩
theorem uQ.make {mg:Str->Option Value}{base:Heap}{a:List Env}(e:uQ P w K mg base A a s H)(C:Addr)(us:List Value)(b:List (Str×Value)):
  uQ P w K mg base (A.under (.builtin "type.__call__" ⟨.ref C::us,b⟩)) a s H:=⟨by first | exact e.frames | (simpa [Around.under,Code.envs,Code.isFrame,pushEnvs] using e.frames),e.mod,e.bs,e.bsz,e.funs,e.frf,e.hok,e.bare⟩
section
variable {s':Shared}
def Inv.env0 (I:Inv X pins σ H s):uQ X.prog X.w X.K X.mg X.base X.A X.stack s H:=
 ⟨I.ok.frames,I.ok.mod,I.bs,YK I.ok.bsz I.sz,I.stack,I.stkFree,I.hok,I.bare⟩
def Inv.after {Q:VK}(I:Inv X pins σ H s)(h:CE X.stack X.prog X.w H s Q u s'):EP X pins σ Q u s':=by
 obtain⟨v,f,i,a,un,c,r,q⟩:=h;obtain⟨j,g,d,t,e⟩:=s';obtain rfl:e=s.os:=i;exact⟨v,f,I.call un c a (λb z=>absurd z (by simp)),r,q⟩
end
def a9C (sp:Sp)(dvs:List V)(E:XK)(t:TA):TE:=λa H Q=>t a H λb c=>sp (b++dvs) c Q E
def b7X (C:Addr)(m:Str)(sp:Sp)(dvs:List V)(E:XK)(d:TE)(t:TA):TE:=λb H Q=>d b H λx c=>∃a dx fs,x= .ref a/\c a=some (.ins C dx fs)/\fs.lookup m=none/\
 t b c λe f=>sp (x::(e++dvs)) f Q E
def b7Y (C:Addr)(sp:Sp)(dvs:List V)(E:XK)(t:TA):TE:=λb H Q=>t b H λc a=>∀x dx,a x=none->a dx=none->dx≠x->
 sp (.ref x::(c++dvs)) (upd (upd a dx (.own x)) x (.ins C dx [])) (λv d=>v= .non/\Q (.ref x) d) E
def Binds (K:W.Frag)(a:FuncData)(ps:List Str)(ds:List Value):Prop:=
 ∀(s:Shared)(us:List Value),K.In s.heap->(us++ds).length=ps.length->BindsTo s a ⟨us, []⟩ (ps.zip (us++ds))
def Binds.all (h:∀us:List Value,us.length=ps.length->bindArgs fd ⟨us, []⟩=pure (ps.zip us)):Binds K fd ps []:=λs us _ a=>by
 rw[Yv]at a ⊢;exact .of_eq (h us a)
def gM (CX:CXT)(X:Cx)(E:XK):Prop:=∀(pins:List (Addr×Obj))(σ:St)(H:Hp)(s:Shared)(e:Value)(s':Shared),Inv X pins σ H s->CX X.stack H s E e s'->X.xe e s'
section
variable {dvs:List V}{ds:List Value}{E:XK}{m:Str}{apos:Pos}{o:Expr}
theorem mZ {pins:List (Addr×Obj)}{σ:St}{H:Hp}{s:Shared}{Q:VK}{us:List Value}{vs:List V}(F:iV X.prog X.w X.K X.mg X.base CX k f fd ps sp)(hr:eO k X.A)(hb:Binds X.K fd ps ds)(hd:Vals dvs ds)(hx:gM CX X E)
  (I:Inv X pins σ H s) (r:Vals vs us) (h:sp (vs++dvs) H Q E):wpAny (model X.prog X.w) X.A (call (.ref f) us) (EP X pins σ Q) X.xe s:=by
 have b:=r.append hd;have c:(us++ds).length=ps.length:=by rw[<-b.length];exact F.len _ _ _ _ h
 refine wpAny_call (Jz (F.run X.A X.stack s H ⟨us, []⟩ (us++ds) (vs++dvs) Q E hr I.env0 (hb s us I.kIn c) b h) λr d a=>?_);cases r with
 |error e=>exact hx pins σ H s e d I a
 | ok fl=>
  cases fl with
  |ret u=>exact I.after a
  |next=>exact False.elim a
  |brk=>exact False.elim a
  |cont=>exact False.elim a
theorem b5Z (F:iV X.prog X.w X.K X.mg X.base CX k f fd ps sp)(g:eO k X.A)(i:Gl X x)(j:X.mg x=some (.ref f))(l:W.keepIn X.K (.ref f)=true)(m:Binds X.K fd ps ds)(hd:Vals dvs ds)(n:gM CX X E)
  (o:PA X (e::es) t) (b:(x == ("__debug__":Str))=false:=by decide) (u:starEach (e::es) X.env=(false,eval e X.env)::starEach es X.env:=by rfl) (c:(backTo pos (starEach es X.env)).any (·.1)=false:=by rfl) :
  PE X (.Call (.Name x p) (e::es) [] pos) (a9C sp dvs E t):=by
 intro a s v H Q I h;exact Xe (oA I i j (Jm I.ok.mod.kin l (thn (o pos a s v H _ I h) λy z ⟨B,C,d,r,q⟩=>⟨d.kIn,mZ F g m hd n d r q⟩) u c) b)
theorem a0R (F:iV X.prog X.w X.K X.mg X.base CX k f fd ps sp)(c:eO k X.A)(d:Gl X x)(e:X.mg x=some (.ref f))(g:W.keepIn X.K (.ref f)=true)(i:Binds X.K fd ps ds)(hd:Vals dvs ds)(j:gM CX X E)
  (a:(x == ("__debug__":Str))=false:=by decide):PE X (.Call (.Name x p) [] [] pos) (a9C sp dvs E rB):=by
 intro b s l H Q I h;exact Xe (oA I d e (W.callWith_K0 I.kIn g (mZ F c i hd j I .nil h)) a)
theorem b5Y {pl:Sem Bool}(y:PE X o ta)(c:Cls X.K C)(j:Meth X.K C m f)(F:iV X.prog X.w X.K X.mg X.base CX k f fd ps sp)(z:eO k X.A)(B:Binds X.K fd ps ds)(hd:Vals dvs ds)(D:gM CX X E)(G:PA X (e::es) t)
  (d:starEach (e::es) X.env=(false,eval e X.env)::starEach es X.env:=by rfl) (g:(backTo pos (starEach es X.env)).any (·.1)=false:=by rfl)
  (J:eval (.Call (.Attribute o m apos) (e::es) [] pos) X.env=(do
   let ov<-eval o X.env
   standAt apos.atName
   let (f,first)<-holding [ov] (getMethod ov m pl)
   callWith pos f first (backTo pos (starEach (e::es) X.env)) (backToKw pos (keywordEach [] X.env))):=by rfl) :
  PE X (.Call (.Attribute o m apos) (e::es) [] pos) (b7X C m sp dvs E ta t):=by
 intro b s n H Q I h;refine XY (thn (y b s n H _ I h) λu L i=>?_) J;obtain⟨x,M,p,N,a,R,fs,ex,O,l,q⟩:=i;subst ex;obtain rfl:u=Value.ref a:=N;exact jD p O c j l (Jm I.ok.mod.kin j.kp (thn (G pos b L n M _ p q) λus S ⟨vs,T,v,r,P⟩=>⟨v.kIn,mZ (vs:= .ref a::vs) F z B hd D v (.cons rfl r) P⟩) d g)
theorem b1C {pl:Sem Bool}(i:PE X o ta)(c:Cls X.K C)(g:Meth X.K C m f)(F:iV X.prog X.w X.K X.mg X.base CX k f fd ps sp)(j:eO k X.A)(n:Binds X.K fd ps ds)(hd:Vals dvs ds)(p:gM CX X E)
  (r:eval (.Call (.Attribute o m apos) [] [] pos) X.env=(do
   let ov<-eval o X.env
   standAt apos.atName
   let (f,first)<-holding [ov] (getMethod ov m pl)
   callWith pos f first (backTo pos (starEach [] X.env)) (backToKw pos (keywordEach [] X.env))):=by rfl) :
  PE X (.Call (.Attribute o m apos) [] [] pos) (b7X C m sp dvs E ta rB):=by
 intro b s t H Q I h;refine XY (thn (i b s t H _ I h) λu z d=>?_) r;obtain⟨x,B,e,v,a,D,fs,ex,y,l,q⟩:=d;subst ex;obtain rfl:u=Value.ref a:=v;exact jD e y c g l (W.callWith_K0 e.kIn g.kp (mZ (vs:=[.ref a]) F j n hd p e (.cons rfl .nil) q))
structure Mk (K:W.Frag)(C f:Addr):Prop where
 makes:W.makesIn K C=true
 init:W.findIn K (.ref C) "__init__"=some (some (.ref f))
 fn:W.isFn K (.ref f)=true
 kp:W.keepIn K (.ref C)=true
theorem a0J {pins:List (Addr×Obj)}{σ:St}{H:Hp}{s:Shared}{Q:VK}{us:List Value}{vs:List V}(M:Mk X.K C f)(F:iV X.prog X.w X.K X.mg X.base CX k f fd ps sp)(hr:eO (k+1) X.A)(hb:Binds X.K fd ps ds)(hd:Vals dvs ds)
  (hx:gM CX X E) (I:Inv X pins σ H s) (r:Vals vs us)
  (h:∀x dx,H x=none->H dx=none->dx≠x->sp (.ref x::(vs++dvs)) (upd (upd H dx (.own x)) x (.ins C dx [])) (λv H2=>v= .non/\Q (.ref x) H2) E) :
  wpAny (model X.prog X.w) X.A (call (.ref C) us) (EP X pins σ Q) X.xe s:=by
 have c:=h (s.heap.objs.size+1) s.heap.objs.size (I.hok.fresh (XZ _)) (I.hok.fresh (Yb _)) (YQ (Xr _));have b:=Inv.made (C:=C) I;have d:Vals (V.ref (s.heap.objs.size+1)::(vs++dvs)) (Value.ref (s.heap.objs.size+1)::(us++ds)):= .cons rfl (r.append hd);have g:(Value.ref (s.heap.objs.size+1)::us++ds).length=ps.length:=by
  have e:=d.length;rw[F.len _ _ _ _ c]at e;exact e.symm
 refine wpAny_call (b2E I.kIn M.makes M.init (Jj.mp M.fn) (Jz (F.run _ X.stack _ _ ⟨Value.ref (s.heap.objs.size+1)::us, []⟩ (Value.ref (s.heap.objs.size+1)::(us++ds)) _ _ E (hr.make C us [])
  (b.env0.make C us []) (hb _ (Value.ref (s.heap.objs.size+1)::us) b.kIn g) d c) λr i a=>?_))
 cases r with
 |error e=>exact hx pins σ _ _ e i b a
 | ok fl=>
  cases fl with
  | ret u=>
   obtain⟨v,j,l,m,n,o⟩:=b.after a;subst n;exact⟨m,⟨V.ref (s.heap.objs.size+1),j,l,rfl,o⟩⟩
  |next=>exact False.elim a
  |brk=>exact False.elim a
  |cont=>exact False.elim a
theorem cR (M:Mk X.K C f)(F:iV X.prog X.w X.K X.mg X.base CX k f fd ps sp)(g:eO (k+1) X.A)(i:Gl X x)(j:X.mg x=some (.ref C))(l:Binds X.K fd ps ds)(hd:Vals dvs ds)(m:gM CX X E)
  (n:PA X (e::es) t) (b:(x == ("__debug__":Str))=false:=by decide) (o:starEach (e::es) X.env=(false,eval e X.env)::starEach es X.env:=by rfl) (c:(backTo pos (starEach es X.env)).any (·.1)=false:=by rfl) :
  PE X (.Call (.Name x p) (e::es) [] pos) (b7Y C sp dvs E t):=by
 intro a s u H Q I h;exact Xe (oA I i j (Jm I.ok.mod.kin M.kp (thn (n pos a s u H _ I h) λv y ⟨z,B,d,r,q⟩=>⟨d.kIn,a0J M F g l hd m d r q⟩) o c) b)
theorem lN (M:Mk X.K C f)(F:iV X.prog X.w X.K X.mg X.base CX k f fd ps sp)(c:eO (k+1) X.A)(d:Gl X x)(e:X.mg x=some (.ref C))(g:Binds X.K fd ps ds)(hd:Vals dvs ds)(i:gM CX X E)
  (a:(x == ("__debug__":Str))=false:=by decide):PE X (.Call (.Name x p) [] [] pos) (b7Y C sp dvs E rB):=by
 intro b s j H Q I h;exact Xe (oA I d e (W.callWith_K0 I.kIn M.kp (a0J M F c g hd i I .nil h)) a)
end
section
variable {ks:List Str}{E:XK}{m:Str}{apos kpos:Pos}{o:Expr}{kws:List Keyword}{tk:TA}{nm:Option Str}{g:List Value->List Value->List Value}{gV:List V->List V->List V}
end
structure kI (N P:List Str)(sc:Scope):Prop where
 kind:sc.kind= .function
 co:sc.isCoroutine=false
 gen:sc.isGenerator=false
 nd:N.Nodup
 pre:N.take P.length=P
 par:∀x∈P,sc.names.lookup x=some .local\/sc.names.lookup x=some .cell
 nofree:∀y∈sc.names,y.2≠ .free
theorem wJ:∀{binds:List (Str×Value)}{m:Str->Option Value},(∀v,(x,v)∉binds)->bindL kindOf binds m x=m x
 |[],_,_=>rfl
 | (n,v)::r,m,h=>by
  unfold bindL;rw[wJ λw hw=>h w (Yp _ hw)];split
  ·have:x≠n:=by rintro rfl;exact h v Yt
   simp[this]
  ·rfl
theorem wL:∀{binds:List (Str×Value)}{m:Str->Option Value},(∀v,(x,v)∉binds)->bindC kindOf binds m x=m x
 |[],_,_=>rfl
 | (n,v)::r,m,h=>by
  unfold bindC;rw[wL λw hw=>h w (Yp _ hw)];split
  ·rfl
  ·have:x≠n:=by rintro rfl;exact h v Yt
   simp[this]
theorem wK:∀{P:List Str}{vs:List Value}{i:Nat}{m:Str->Option Value},P.Nodup->P[i]? =some x->vs[i]? =some v->kindOf x=some .local->
  bindL kindOf (P.zip vs) m x=some v
 |[],_,_,_,_,h,_,_=>by simp at h
 |_::_, [],_,_,_,_,h,_=>by simp at h
 | p::P,w::vs,0,m,nd,h1,h2,hk=>by
  simp at h1 h2;subst h1;subst h2;show bindL kindOf ((p,w)::P.zip vs) m p=_;unfold bindL;rw[wJ λv hv=>(YV.mp nd).1 (Jo hv).1,if_pos hk];simp
 | p::P,w::vs,i+1,m,nd,h1,h2,hk=>by
  show bindL kindOf ((p,w)::P.zip vs) m x=_;unfold bindL;exact wK (i:=i) (YV.mp nd).2 (by simpa using h1) (by simpa using h2) hk
theorem wM:∀{P:List Str}{vs:List Value}{i:Nat}{m:Str->Option Value},P.Nodup->P[i]? =some x->vs[i]? =some v->kindOf x≠some .local->
  bindC kindOf (P.zip vs) m x=some v
 |[],_,_,_,_,h,_,_=>by simp at h
 |_::_, [],_,_,_,_,h,_=>by simp at h
 | p::P,w::vs,0,m,nd,h1,h2,hk=>by
  simp at h1 h2;subst h1;subst h2;show bindC kindOf ((p,w)::P.zip vs) m p=_;unfold bindC;rw[wL λv hv=>(YV.mp nd).1 (Jo hv).1,if_neg hk];simp
 | p::P,w::vs,i+1,m,nd,h1,h2,hk=>by
  show bindC kindOf ((p,w)::P.zip vs) m x=_;unfold bindC;exact wM (i:=i) (YV.mp nd).2 (by simpa using h1) (by simpa using h2) hk
def start (N:List Str)(vs:List V):St:=vs.map some++List.replicate (N.length-vs.length) none
noncomputable def uL (CX:CXT)(P:Program)(w:World)(K:W.Frag)(mg:Str->Option Value)(base:Heap)(N:List Str)(qual:Str)(scope:Scope)(f:Addr)(cd:Value)(A:Around)(outer:List Env)(s:Shared)(H:Hp)(E:XK):Cx where
 prog:=P
 w:=w
 K:=K
 mg:=mg
 base:=base
 A:=A.deeper (envOfC qual scope s.heap.objs.size f cd)
 N:=N
 s₀:=s
 H₀:=H
 env:=envOfC qual scope s.heap.objs.size f cd
 outer:=outer
 stack:=envOfC qual scope s.heap.objs.size f cd::outer
 ex:=[]
 calm:=true
 fn:=λ_=>true
 pn:=[]
 xe:=λe s'=>wpAny (model P w) (A.deeper (envOfC qual scope s.heap.objs.size f cd)) (leaving (envOfC qual scope s.heap.objs.size f cd) e) (λ_ s''=>CX outer H s E e s'') (λe' s''=>CX outer H s E e' s'') s'
def a1U {a:Scope}{n:Nat}(h:a.names.lookup x=some .cell):∃c,(cellsFrom n a.names []).lookup x=some c:=by
 exact Option.isSome_iff_exists.mp (W.cellsFrom_some a.names n [] (.inl h))
theorem wB {CX:CXT}{P:Program}{w:World}{K:W.Frag}{mg:Str->Option Value}{base:Heap}{N ps:List Str}{qual:Str}{scope:Scope}{f:Addr}{cd:Value}{A:Around}{outer:List Env}{s s1:Shared}{H:Hp}{E:XK}{us:List Value}{vs:List V}
  (S:kI N ps scope) (hd:A.handled=none) (e0:uQ P w K mg base A outer s H) (hl:vs.length=ps.length) (r:Vals vs us)
  (x:InCallC s s.heap.objs.size (bindL (envOfC qual scope s.heap.objs.size f cd).kindOf (ps.zip us) λ_=>none) (cellsFrom (s.heap.objs.size+1) scope.names []) (bindC (envOfC qual scope s.heap.objs.size f cd).kindOf (ps.zip us) λ_=>none) s1) :
  Inv (uL CX P w K mg base N qual scope f cd A outer s H E) [] (start N vs) H s1:=by
 have C:ps.length<=N.length:=by have:=YJ List.length S.pre;rw[Yi]at this;lia
 obtain⟨m,G,rfl,t⟩:=x.done;have g:∀b:Addr,b∉(uL CX P w K mg base N qual scope f cd A outer s H E).ex:=λb z=>absurd (show b∈([]:List Addr) from z) (by simp)
 refine⟨⟨e0.mod,S.kind,rfl,rfl,Yb _,λy z c m d=>?_,λy hy=>?_,λy c _ h=>?_,λ_=>hd,Around.frames_deeper e0.frames,.inr ⟨rfl,rfl⟩,λb z=>absurd z (g b),e0.bs,e0.bsz,λb _ _=>g b,λb z=>absurd z (g b),e0.funs,e0.frf⟩,
  rfl,e0.bare,Un.kept t,⟨_,x.toInCall.ns,λi y v m d I=>?_⟩,λy c h=>⟨_,x.cell y c h⟩,e0.hok.fresh (Yb _),λy c h=>?_,λp j=>absurd (show p∈([]:List (Addr×Obj)) from j) (by simp),e0.hok.kept t,?_⟩
 ·exact name_of_addr x.apart (Y5 m) (Y5 d)
 ·rcases hy with hy | hy
  ·exact a1U hy
  ·exact absurd rfl (S.nofree _ (Y5 hy))
 ·exact XF (x.above y c (Y5 h))
 ·have o:i<vs.length:=by
   unfold start at d;grind
  have D:vs[i]? =some v:=by
   unfold start at d;grind
  obtain⟨u,B,F⟩:=r.get D;have j:ps[i]? =some y:=by
   rw[<-S.pre,Xu (by lia)];exact m
  have l:ps.Nodup:=by rw[<-S.pre];exact S.nd.sublist (List.take_sublist _ _)
  refine⟨u,F,?_⟩;rcases S.par y (YF j) with k | k
  ·exact .inl ⟨k,wK l j B k⟩
  ·obtain⟨c,e⟩:=a1U (n:=s.heap.objs.size+1) k;refine .inr ⟨.inl k,c,e,?_⟩;have q:=x.cell y c e;rw[wM l j B (by show scope.names.lookup y≠_;rw[k];decide)]at q;exact q
 ·exact e0.hok.fresh (XF (x.above y c (Y5 h)))
 ·unfold start;show _=N.length;rw[Yc,Ya,YA];lia
theorem c5M {CX:CXT}{P:Program}{w:World}{K:W.Frag}{mg:Str->Option Value}{base:Heap}{k:Nat}{f:Addr}{name qual:Str}{params:Arguments}{body:List Stmt}{scope:Scope}{dV kV doc pm cdv ct oc:Value}{an od:Option Addr}
  {osl:Array (Option Value)} {N ps:List Str} {sp:Sp} (lk:K.lookup f=some ⟨oc,od,.func (W.fnOf name qual params body scope dV kV doc pm an cdv ct),osl⟩) (hcd:W.codeIn K cdv qual=true) (S:kI N ps scope)
  (len:∀vs H Q E,sp vs H Q E->vs.length=ps.length)
  (hbody:∀(A:Around)(outer:List Env)(s:Shared)(H:Hp)(vs:List V)(Q:VK)(E:XK),eO k (A.deeper (envOfC qual scope s.heap.objs.size f cdv))->sp vs H Q E->
   ∃t,PSs (uL CX P w K mg base N qual scope f cdv A outer s H E) body t/\t { nx:=λ_ H'=>Q .non H',rt:=Q } (start N vs) H) :
  iV P w K mg base CX (k+1) f (W.fnOf name qual params body scope dV kV doc pm an cdv ct) ps sp:=by
 refine⟨len,λA outer s H p C vs Q E i g D r h=>?_⟩;have z:=g.mod.kin.keeps λb o e=>(g.bs b o e).1;have c:∀y∈ps.zip C,scope.names.lookup y.1=some .local\/(scope.names.lookup y.1=some .cell/\((cellsFrom (s.heap.objs.size+1) scope.names []).lookup y.1).isSome=true):=λ⟨n,v⟩ G=>by
  rcases S.par n (Jo G).1 with q | q
  ·exact .inl q
  ·exact .inr ⟨q,W.cellsFrom_some _ _ _ (.inl q)⟩
 refine codeAny_call_function i.depth (z _ _ lk) rfl S.co S.gen rfl (W.codeRec_of z hcd) (D _ _ _ _ (wpAny_newFunctionEnv_cells S.kind c λL M B x=>?_));subst M;refine⟨(g.mod.nolimit.keeps λb o e=>(g.bs b o e).1).keeps x.toInCall.keep,codeAny_func ?_⟩;obtain⟨t,O,R⟩:=hbody A outer s H vs Q E (i.deeper _) h;refine Y4 (O [] B (start N vs) H _ (wB S i.hd g (len _ _ _ _ h) r x) R) (λfl l d=>?_) λe l d=>d;have fin:∀{a:St}{H':Hp}{v:V}{u:Value},Inv (uL CX P w K mg base N qual scope f cdv A outer s H E) [] a H' l->RelV v u->Q v H'->CE outer P w H s Q u l:=
  λ{a H' v u} J m q=>⟨v,H',J.os,J.bare,J.base,J.hok,m,q⟩
 cases fl with
 | ret u=>
  obtain⟨v,a,H',J,m,q⟩:=d;exact fin J m q
 | next=>
  obtain⟨a,H',J,q⟩:=d;exact fin (v:=V.non) J rfl q
 | brk=>
  obtain⟨_,_,_,q⟩:=d;exact False.elim q
 | cont=>
  obtain⟨_,_,_,q⟩:=d;exact False.elim q
section
variable {id T:String}{r:List V->Hp->VK->Prop}
def tCB (r:List V->Hp->VK->Prop)(t:TA):TE:=λa H Q=>t a H λb c=>r b c Q
theorem bF (f:gR X (.builtin id) r)(g:Gl X x)(i:X.mg x=none)(j:bootBuiltins x=some (.builtin id))(k:PA X (e::es) t)(l:x≠"__name__":=by decide)(b:(x == ("__debug__":Str))=false:=by decide)
  (m:starEach (e::es) X.env=(false,eval e X.env)::starEach es X.env:=by rfl) (c:(backTo pos (starEach es X.env)).any (·.1)=false:=by rfl):PE X (.Call (.Name x p) (e::es) [] pos) (tCB r t):=by
 intro a s d H Q I h;exact Xe (oW I g i j (PyProof.Rows.callWith_builtin1 (thn (k pos a s d H _ I h) λn o ⟨q,u,v,w,y⟩=>f a o d u q n Q v w y) m c) l b)
theorem bT (f:gR X (.type T) r)(g:Gl X x)(i:X.mg x=none)(j:bootBuiltins x=some (.type T))(k:PA X (e::es) t)(l:x≠"__name__":=by decide)(b:(x == ("__debug__":Str))=false:=by decide)
  (m:starEach (e::es) X.env=(false,eval e X.env)::starEach es X.env:=by rfl) (c:(backTo pos (starEach es X.env)).any (·.1)=false:=by rfl):PE X (.Call (.Name x p) (e::es) [] pos) (tCB r t):=by
 intro a s d H Q I h;exact Xe (oW I g i j (Xm (thn (k pos a s d H _ I h) λn o ⟨q,u,v,w,y⟩=>f a o d u q n Q v w y) m c) l b)
end
end L2
namespace HT
open PySem PyProof.Rows
section
open PySem.SeqAt
open PySem.AutoSeq1 (wpAny_loadPart')
open PySem.MeetsSeq PySem.MeetsSeq2 PySem.MeetsSeq3
end
section
variable {prog:Program}{w:World}{A:Around}{E:Value->Shared->Prop}{s:Shared}
def sIx (n d:Nat):Option Int->Nat
 |none=>d
 |some v=>if v<0 then (v+(n:Int)).toNat else min v.toNat n
def sIx_none (n d:Nat):sIx n d none=d:=rfl
def sIx_nat (n d k:Nat):sIx n d (some (k:Int))=min k n:=by
 rfl
end
end HT
namespace L2
open PySem PySem.Spec PyProof.Rows
variable {α:Type}{A:Around}{s:Shared}{x:V}{v:Value}{X:Cx}
abbrev TO:=St->Hp->(Option Int->Hp->Prop)->Prop
def PO (X:Cx)(e:Option Expr)(t:TO):Prop:=
 ∀ (pins:List (Addr×Obj))(s:Shared)(σ:St)(H:Hp)(Q:Option Int->Hp->Prop),Inv X pins σ H s->t σ H Q->
  wpAny (model X.prog X.w) X.A (evalPart e X.env) (λu a=>∃o H',Inv X pins σ H' a/\IsPart u o/\Q o H') X.xe s
def b4N:TO:=λ_ H Q=>Q none H
def c3J (t:TE):TO:=λa H Q=>t a H λx b=>∃i,x= .int i/\Q (some i) b
def intsAre_of {ns:List Int}:∀{us:List Value},Vals (ns.map V.int) us->IntsAre us ns:=by
 induction ns with
 |nil=>intro us r;cases r;exact .nil
 | cons n ns ih=>
  intro us r;cases r with
  | cons r1 r2=>
   obtain⟨t,e⟩:=r1;subst e;exact .cons n t (ih r2)
section
variable {e:Expr}{te:TE}{lo hi:Option Expr}{tl th:TO}{pos p2:Pos}
def rW:PO X none b4N:=by
 intro a s b H Q I h;exact Xd ⟨none,H,I,.none,h⟩
def b5V (h:PE X e te):PO X (some e) (c3J te):=by
 intro a s c H Q I d;refine thn (h a s c H _ I d) λu l b=>?_;obtain⟨x,f,g,j,k⟩:=b;obtain⟨i,rfl,q⟩:=k;obtain⟨t,rfl⟩:=j;exact⟨some i,f,g,.int i t,q⟩
def SlR (X:Cx)(r:V->Option Int->Option Int->Hp->VK->Prop):Prop:=
 ∀ (pins:List (Addr×Obj))(s:Shared)(σ:St)(H:Hp)(x:V)(v vl vu:Value)(lo hi:Option Int)(sl:Addr)(Q:VK),Inv X pins σ H s->RelV x v->s.heap.IsSliceOf sl vl vu .none->IsPart vl lo->IsPart vu hi->r x lo hi H Q->
  ∃T id,typeLookup (.type T) "__getitem__"=pure (some (.builtin id))/\s.TypeIs v T/\wpAny (model X.prog X.w) X.A (getItem v (.ref sl)) (EP X pins σ Q) X.xe s
def tSl (r:V->Option Int->Option Int->Hp->VK->Prop)(b:TE)(c d:TO):TE:=λa H Q=>b a H λx e=>c a e λl f=>d a f λu g=>r x l u g Q
def jL {r:V->Option Int->Option Int->Hp->VK->Prop}(k:SlR X r)(m:PE X e te)(n:PO X lo tl)(o:PO X hi th):PE X (.Subscript e (.Slice lo hi none p2) pos) (tSl r te tl th):=by
 intro a s d H Q I h;refine Subscript_ (thn (m a s d H _ I h) λv p i=>?_);obtain⟨x,t,y,z,B⟩:=i;refine wpAny_Slice (thn (n a p d t _ y B) λf C ⟨l,D,E,pl,F⟩=>thn (o a C d D _ E F) λg c ⟨u,j,G,J,K⟩=>Xd ?_);have L:Inv X a d j { c with heap:=c.heap.push { cls:= .type "slice",data:= .fields #[f,g,.none] } }:=G.kept λb P q=>Yq _ q;obtain⟨T,R,M,N,O⟩:=k a { c with heap:=c.heap.push { cls:= .type "slice",data:= .fields #[f,g,.none] } } d j x v f g l u c.heap.objs.size Q L z (Heap.IsSliceOf.new ..) pl J K;exact tail_any N M O (by rfl)
def jN (xs:List V)(lo a:Option Int):List V:=(xs.drop (HT.sIx xs.length 0 lo)).take (HT.sIx xs.length xs.length a-HT.sIx xs.length 0 lo)
def a1T (xs:List V)(lo a:Option Int):(jN xs lo a).length<=xs.length:=by
 unfold jN;rw[Yi,Xl];lia
end
def ixN (n:Nat)(i:Int):Option Nat:=if 0<=i then (if i<n then some i.toNat else none) else if -(n:Int)<=i then some (i+n).toNat else none
def atI {a:Type}(xs:List a)(i:Int):Option a:=(ixN xs.length i).bind λj=>xs[j]?
def b6T {n:Nat}{i:Int}{j:Nat}(h:ixN n i=some j):seqIndex? i n=some j/\j<n/\ -(n:Int)<=i/\i<n:=by
 unfold ixN at h;by_cases h0:0<=i
 ·rw [if_pos h0]at h;by_cases h1:i<n
  ·rw[if_pos h1]at h;exact⟨by rw[seqIndex_of h0 h1,Yu h],by lia,by lia,h1⟩
  lia
 ·rw [if_neg h0]at h;by_cases h1: -(n:Int)<=i
  ·rw[if_pos h1]at h;exact⟨by rw[seqIndex_neg (by lia) h1,Yu h],by lia,h1,by lia⟩
  lia
def zH {xs:List α}{i:Int}{v:α}(h:atI xs i=some v):∃j,seqIndex? i xs.length=some j/\xs[j]? =some v/\j<xs.length/\ -(xs.length:Int)<=i/\i<xs.length:=by
 unfold atI at h;cases e:ixN xs.length i with
 |none=>rw[e]at h;cases h
 | some j=>
  rw[e]at h;obtain⟨a,b,c,d⟩:=b6T e;exact⟨j,a,h,b,c,d⟩
def bB {xs:List α}{j:Nat}{v:α}(h:xs[j]? =some v):atI xs (j:Int)=some v:=by
 have e:ixN xs.length (j:Int)=some j:=by
  unfold ixN;grind
 unfold atI;rw[e];exact h
def b7O (b:Expr):Prop:=∀o i,subscripted b false o i=operate [o,i] (getItem o i)
def IxR (X:Cx)(r:R2):Prop:=
 ∀ (value slice:Expr)(pins:List (Addr×Obj))(s:Shared)(σ:St)(H:Hp)(x y:V)(v u:Value)(Q:VK),Inv X pins σ H s->RelV x v->RelV y u->r x y H Q->
  subscripted slice false v u=operate [v,u] (getItem v u)->wpAny (model X.prog X.w) X.A (subscriptTail value slice v u) (EP X pins σ Q) X.xe s
def MtR (X:Cx)(a:String)(r:V->List V->Hp->VK->Prop):Prop:=
 ∀ (pins:List (Addr×Obj))(s:Shared)(σ:St)(H:Hp)(x:V)(xs:List V)(v:Value)(us:List Value)(Q:VK),Inv X pins σ H s->RelV x v->Vals xs us->r x xs H Q->
  wpAny (model X.prog X.w) X.A (call (.builtin a) (v::us)) (EP X pins σ Q) X.xe s
section
variable {a b:Expr}{ta tb:TE}{pos:Pos}
def bG {r:R2}(d:IxR X r)(e:PE X a ta)(f:PE X b tb)(g:b7O b):PE X (.Subscript a b pos) (tOp r ta tb):=by
 intro c s i H Q I h;exact Subscript_ (c2T e f I h λv u j x y k l m n q=>d a b c j i k x y v u Q l m n q (g _ _))
def c7K (K:W.Frag):R2:=λx y H Q=>∃p xs i v,x= .ref p/\y= .int i/\SqL K H p xs/\atI xs i=some v/\Q v H
def c7I (K:W.Frag):R2:=λx y H Q=>∃p xs i v,x= .ref p/\y= .int i/\SqT K H p xs/\atI xs i=some v/\Q v H
def c7J:R2:=λx y H Q=>∃z i c,x= .str z/\y= .int i/\z.length<=sizeLine/\atI z.cps.toList i=some c/\Q (.str ⟨#[c]⟩) H
def b6S:IxR X (c7K X.K):=by
 intro c d a s k H x y v u Q I n o h l;obtain⟨p,xs,i,z,rfl,rfl,A,B,q⟩:=h;cases n;obtain⟨t,rfl⟩:=o;obtain⟨e,r,pl,J⟩:=I.list A;obtain⟨j,b,C,L,D,E⟩:=zH B;obtain⟨w,m,f⟩:=r.get C;have F:=r.length;have M:=uC;have fin:EP X a k Q w s:=⟨z,H,I,f,q⟩
 by_cases h0:0<=i
 ·have g:i.toNat=j:=by
   rw[seqIndex_of h0 E]at b;exact Yu b
  exact item_listR pl.isList h0 (by lia) (by rw[g];simpa using m) fin l
 ·have g:(i+(e.toArray.size:Int)).toNat=j:=by
   rw[seqIndex_neg (by lia) D]at b;rw[YE,<-F];exact Yu b
  exact subscriptTail_builtinR (x:=w) pl.isList.typeIs slot_list_getitem.lookup
   (wpAny_getItem_list_neg pl.isList (by lia) (by rw[YE] <;> lia) (by lia) (by rw[g];simpa using m) ⟨rfl,fin⟩) l
def c1T:IxR X (c7I X.K):=by
 intro b c a s e H x y v u Q I f g h k;obtain⟨p,xs,i,z,rfl,rfl,l,m,q⟩:=h;cases f;obtain⟨t,rfl⟩:=g;obtain⟨n,r,pl,E⟩:=I.tuple l;obtain⟨j,o,A,F⟩:=zH m;obtain⟨w,B,d⟩:=r.get A;have L:=uC;have fin:EP X a e Q w s:=⟨z,H,I,d,q⟩
 exact subscriptTail_builtinR pl.typeIs slot_tuple_getitem.lookup
  (getItem_tuple pl (by lia) (by lia) (by rw[YE,<-r.length];exact o) (by simpa using B) ⟨rfl,fin⟩) k
def c1U:IxR X c7J:=by
 intro a b d s A H x y v u Q I f g h k;obtain⟨z,i,c,rfl,rfl,B,l,q⟩:=h;obtain⟨t,rfl⟩:=f;obtain⟨C,rfl⟩:=g;obtain⟨j,e,m,D,n,o⟩:=zH l;have p:z.cps.toList.length=z.length:=by simp[Str.length]
 rw[p]at e n o;have E:=uC
 exact tail_any (typeIs_str s z t) slot_str_getitem.lookup (getItem_str (by
  lia) (by rw[e];simpa using m) ⟨.str ⟨#[c]⟩,H,I.tok _,⟨_,rfl⟩,q⟩) k
def xN (lo hi:Option Int)(n:Nat):(sliceBounds lo hi none n).1=((HT.sIx n 0 lo:Nat):Int)/\(sliceBounds lo hi none n).2.1=((HT.sIx n n hi:Nat):Int)/\(sliceBounds lo hi none n).2.2=1:=by
 refine⟨?_,?_,rfl⟩
 ·cases lo with
  |none=>simp[sliceBounds,HT.sIx]
  | some i=>
   simp only[sliceBounds,HT.sIx,Option.getD_none,show (1:Int) > 0 by decide,if_true];lia
 ·cases hi with
  |none=>simp[sliceBounds,HT.sIx]
  | some i=>
   simp only[sliceBounds,HT.sIx,Option.getD_none,show (1:Int) > 0 by decide,if_true];lia
def uU (a:List Value)(lo b:Option Int):slicePick a.toArray lo b none=((a.drop (HT.sIx a.length 0 lo)).take (HT.sIx a.length a.length b-HT.sIx a.length 0 lo)).toArray:=by
 obtain⟨c,d,e⟩:=xN lo b a.toArray.size;unfold slicePick;rw[c,d,e];simp only[sliceRange_one,pick_run,YE] <;> rfl
def c7G (K:W.Frag):V->Option Int->Option Int->Hp->VK->Prop:=λx b c H Q=>∃a xs,x= .ref a/\SqL K H a xs/\∀p,H p=none->Q (.ref p) (upd H p (.lst (jN xs b c)))
def b5I:SlR X (c7G X.K):=by
 intro f s p H x v t u d e w Q I i j pl k h;obtain⟨a,xs,rfl,l,q⟩:=h;cases i;obtain⟨m,r,g,n⟩:=I.list l;have c:=r.length;refine⟨"list",_,slot_list_getitem.lookup,g.isList.typeIs,wpAny_getItem_list_slice g.isList j pl k .none (by simp) ?_ (by rw[YE] <;> lia)⟩;rw[uU,<-c];refine⟨.ref s.heap.objs.size,_,I.laid (λb y q=>Yq _ q) (Yb _) ?_,rfl,q _ (I.hok.fresh (Yb _))⟩;exact⟨YK (a1T xs d e) n,_,0,(r.drop (HT.sIx xs.length 0 d)).take (HT.sIx xs.length xs.length e-HT.sIx xs.length 0 d),YD _ rfl⟩
def pW:V->Bool
 |.non=>true
 |.bl _=>true
 |.int _=>true
 |.str _=>true
 |_=>false
noncomputable def eqV:V->V->Bool
 |.non,.non=>true
 |.bl a,.bl b=>a == b
 |.bl a,.int b=>(if a then 1 else 0) == b
 |.int a,.bl b=>a == (if b then 1 else 0)
 |.int a,.int b=>a == b
 |.str a,.str b=>a == b
 |_,_=>false
def c2C {y:V}{u:Value}(ry:RelV y u)(rx:RelV x v)(fy:pW y=true)(fx:pW x=true):SeqAt.EqAt A s u v (eqV y x):=by
 cases y with
 | non=>
  cases ry;cases x with
  |non=>cases rx;exact SeqAt.EqAt.same _
  |bl b=>cases rx;exact SeqAt.EqAt.none_bool b
  |int b=>obtain⟨t,rfl⟩:=rx;exact SeqAt.EqAt.none_int b t
  |str b=>obtain⟨t,rfl⟩:=rx;exact SeqAt.EqAt.none_str b t
  |_=>exact absurd (fx) Ys
 | bl a=>
  cases ry;cases x with
  |non=>cases rx;exact SeqAt.EqAt.bool_none a
  |bl b=>cases rx;exact SeqAt.EqAt.bool_bool a b
  |int b=>obtain⟨t,rfl⟩:=rx;exact SeqAt.EqAt.bool_int a b t
  |str b=>obtain⟨t,rfl⟩:=rx;exact SeqAt.EqAt.bool_str a b t
  |_=>exact absurd (fx) Ys
 | int a=>
  obtain⟨c,rfl⟩:=ry;cases x with
  |non=>cases rx;exact SeqAt.EqAt.int_none a c
  |bl b=>cases rx;exact SeqAt.EqAt.int_bool a c b
  |int b=>obtain⟨t,rfl⟩:=rx;exact SeqAt.EqAt.int_int a c b t
  |str b=>obtain⟨t,rfl⟩:=rx;exact SeqAt.EqAt.int_str a c b t
  |_=>exact absurd (fx) Ys
 | str a=>
  obtain⟨c,rfl⟩:=ry;cases x with
  |non=>cases rx;exact SeqAt.EqAt.str_none a c
  |bl b=>cases rx;exact SeqAt.EqAt.str_bool a c b
  |int b=>obtain⟨t,rfl⟩:=rx;exact SeqAt.EqAt.str_int a c b t
  |str b=>obtain⟨t,rfl⟩:=rx;exact SeqAt.EqAt.str_str a c b t
  |_=>exact absurd (fx) Ys
 |_=>exact absurd (show false=true from fy) Ys
def eqU (x:V)(u:Value):Bool:=match u with
 |.none=>eqV .non x
 |.bool b=>eqV (.bl b) x
 |.int i _=>eqV (.int i) x
 |.str z _=>eqV (.str z) x
 |_=>false
def b3B {y:V}{u:Value}(r:RelV y u)(f:pW y=true):eqU x u=eqV y x:=by
 cases y with
 |non=>cases r;rfl
 |bl b=>cases r;rfl
 |int i=>obtain⟨t,rfl⟩:=r;rfl
 |str z=>obtain⟨t,rfl⟩:=r;rfl
 |_=>exact absurd (f) Ys
theorem zJ:∀{xs:List V}{us:List Value},Vals xs us->xs.all pW=true->us.any (eqU x)=xs.any λy=>eqV y x
 |_,_,.nil,_=>rfl
 | y::xs,u::us,.cons r t,f=>by
  rw[XU,XJ]at f;rw[Jk,Jk,b3B r f.1,zJ t f.2]
theorem uA (rx:RelV x v)(fx:pW x=true):∀{xs:List V}{us:List Value},Vals xs us->xs.all pW=true->∀u∈us,SeqAt.EqAt A s u v (eqU x u)
 |_,_,.nil,_=>λu hu=>by cases hu
 | y::xs,u::us,.cons r t,f=>λu' hu=>by
  rw[XU,XJ]at f;rcases YL.mp hu with rfl | hu
  ·rw[b3B r f.1];exact c2C r rx f.1 fx
  ·exact uA rx fx t f.2 u' hu
def inV (x:V)(xs:List V):Bool:=xs.any λy=>eqV y x
def rIn (K:W.Frag)(a:Bool):R2:=λx y H Q=>∃p xs,y= .ref p/\(SqL K H p xs\/SqT K H p xs)/\pW x=true/\xs.all pW=true/\Q (.bl (if a then !inV x xs else inV x xs)) H
def xX:OpR X (compareOp .NotIn) (rIn X.K true):=by
 intro c s i H x y v u Q I d f h;obtain⟨p,xs,rfl,hq,e,fs,q⟩:=h;cases f;rcases hq with hq | hq
 ·obtain⟨a,r,pl,g⟩:=I.list hq;refine SeqAt.notIn_listAt (eqU x) pl.isList (λw b=>uA d e r fs w (by simpa using b)) ⟨.bl _,H,I,rfl,?_⟩;rw[show a.toArray.any (eqU x)=a.any (eqU x) by simp,zJ r fs];exact q
 ·obtain⟨a,r,pl,g⟩:=I.tuple hq;refine SeqAt.notIn_tupleAt (eqU x) pl (λw b=>uA d e r fs w (by simpa using b)) ⟨.bl _,H,I,rfl,?_⟩;rw[show a.toArray.any (eqU x)=a.any (eqU x) by simp,zJ r fs];exact q
def yX:gR X (.builtin "len") (λxs H Q=>∃p ys,xs= [.ref p]/\(SqL X.K H p ys\/SqT X.K H p ys)/\Q (.int ys.length) H):=by
 intro d s g H xs i Q I r h;obtain⟨p,ys,rfl,hq,q⟩:=h;obtain⟨u,rfl,e⟩:=vals1 r;cases e;have j:=uC;rcases hq with hq | hq
 ·obtain⟨b,c,pl,f⟩:=I.list hq;have a:=c.length;exact Calls.call_len_list pl.isList (by simp only[YE] <;> lia) ⟨.int ys.length,H,I.tok _,⟨s.toks+1,by rw[YE,a]⟩,q⟩
 ·obtain⟨b,c,pl,f⟩:=I.tuple hq;have a:=c.length;exact len_tuple pl (by simp only[YE] <;> lia) ⟨.int ys.length,H,I.tok _,⟨s.toks+1,by rw[YE,a]⟩,q⟩
def yW:gR X (.builtin "len") (λxs H Q=>∃z,xs= [.str z]/\z.length<=sizeLine/\Q (.int z.length) H):=by
 intro a s b H xs c Q I r h;obtain⟨z,rfl,d,q⟩:=h;obtain⟨u,rfl,t,rfl⟩:=vals1 r;have e:=uC;exact len_str (by lia) ⟨.int z.length,H,I.tok _,⟨_,rfl⟩,q⟩
def yV:gR X (.type "list") (λxs H Q=>∃p ys,xs= [.ref p]/\(SqL X.K H p ys\/SqT X.K H p ys)/\∀l,H l=none->Q (.ref l) (upd H l (.lst ys))):=by
  intro g s t H xs x Q I r h;obtain⟨p,ys,rfl,hq,q⟩:=h;obtain⟨u,rfl,v⟩:=vals1 r;cases v;have fin:∀(a:List Value),Vals ys a->ys.length<=sizeLine->∀(c:Heap)(d:Nat),(∀b o',s.heap.get? b=some o'->c.get? b=some o')->
      c.get? s.heap.objs.size=some { cls:= .type "list",dict:=none,data:= .seq a.toArray d,slots:=#[] }->EP X g t Q (.ref s.heap.objs.size) { s with heap:=c }:=λa f i c d kp e=>
    ⟨.ref s.heap.objs.size,_,I.laid kp (Yb _) (show gO X.prog X.w _ c _ (.lst ys) from ⟨i,a,d,f,e⟩),rfl,q _ (I.hok.fresh (Yb _))⟩
  rcases hq with hq | hq
  · obtain⟨a,f,pl,i⟩:=I.list hq;have j:=f.length;obtain⟨o,k,m,n,hd⟩:=pl.isList;exact call_list_seq p (.inl rfl) k m hd (λc d kp e=>fin a f i c d kp e) (by simp only[YE] <;> lia)
  · obtain⟨a,f,pl,i⟩:=I.tuple hq;have j:=f.length;obtain⟨o,k,m,n,hd⟩:=pl;exact call_list_seq p (.inr rfl) k m hd (λc d kp e=>fin a f i c d kp e) (by simp only[YE] <;> lia)
def tyV (K:W.Frag)(T:String)(x:V)(H:Hp):Prop:=match x with
  |.str _=>T="str"
  |.int _=>T="int"
  | .ref p=>(T="list"/\∃xs,SqL K H p xs)\/(T="tuple"/\∃o,K.lookup p=some o/\o.cls= .type "tuple"/\o.dict=none)\/
      (T="dict"/\((∃kvs,H p=some (.dK kvs))\/∃kvs,H p=some (.dT kvs)))\/(T="set"/\∃S n,H p=some (.set S n))
  |_=>False
def a8Z {pins:List (Addr×Obj)}{σ:St}{H:Hp}{T:String}(I:Inv X pins σ H s)(r:RelV x v)(ty:tyV X.K T x H):
  s.TypeIs v T/\∀a,v= .ref a->∃ob,s.heap.get? a=some ob/\ob.dict=none:=by
 cases x with
 | str z=>
  obtain⟨t,rfl⟩:=r;cases (ty);exact⟨typeIs_str s z t,λ_ e=>nomatch e⟩
 | int i=>
  obtain⟨t,rfl⟩:=r;cases (ty);exact⟨typeIs_int s i t,λ_ e=>nomatch e⟩
 | ref p =>
  cases r;rcases ty with ⟨rfl,xs,g⟩ | ⟨rfl,o,b,h,hd⟩ | ⟨rfl,b⟩ | ⟨rfl,S,n,b⟩
  ·obtain⟨j,_,pl,_⟩:=I.list g;refine⟨pl.isList.typeIs,λa e=>?_⟩;cases e;obtain⟨o,n,e,c,hd,_⟩:=pl;exact⟨o,e,hd⟩
  ·refine⟨⟨o,I.kIn p o b,h⟩,λa e=>?_⟩;cases e;exact⟨o,I.kIn _ o b,hd⟩
  ·have z:∃o,s.heap.get? p=some o/\o.ExactDict:=by
    rcases b with ⟨d,b⟩ | ⟨d,b⟩
    ·obtain⟨_,_,_,_,o,_,_,e,ex,_⟩:=I.hok p _ b;exact⟨o,e,ex⟩
    ·obtain⟨_,_,_,_,o,_,_,e,ex,_⟩:=I.hok p _ b;exact⟨o,e,ex⟩
   obtain⟨o,e,ex⟩:=z;refine⟨⟨o,e,ex.1⟩,λa f=>?_⟩;cases f;exact⟨o,e,ex.2.1⟩
  ·obtain⟨o,_,_,_,e,ex,_⟩:=I.hok p _ b;refine⟨⟨o,e,ex.1⟩,λa f=>?_⟩;cases f;exact⟨o,e,ex.2.1⟩
 |_=>exact False.elim ty
def c7C (K:W.Frag)(T:String)(r:V->List V->Hp->VK->Prop)(to:TE):TE:=λb H Q=>to b H λx a=>tyV K T x a/\r x [] a Q
def tBM (K:W.Frag)(T:String)(r:V->List V->Hp->VK->Prop)(to:TE)(t:TA):TE:=λa H Q=>to a H λx b=>tyV K T x b/\t a b λxs c=>r x xs c Q
variable {o e:Expr}{es:List Expr}{to:TE}{t:TA}{name:Str}{apos cpos:Pos}{T id:String}{r:V->List V->Hp->VK->Prop}
theorem c0U (k:PlainAttrs T)(d:Slot T name id)(e:typeOf (.builtin id)=pure (.type "method_descriptor"))(l:MtR X id r)(m:PE X o to)
  (b:attributeBase o name X.env (eval o X.env)=eval o X.env:=by rfl) (c:(apos.endLine == cpos.line)=true:=by rfl):PE X (.Call (.Attribute o name apos) [] [] cpos) (c7C X.K T r to):=by
 intro a s g H Q I h;refine wpAny_Call_method0_late b c (thn (m a s g H _ I h) λv n f=>?_);obtain⟨x,p,i,j,q,t⟩:=f;obtain⟨u,w⟩:=a8Z i j q;exact⟨T,id,k,d,e,u,w,Calls.callWith_builtin rfl (PySem.evalArgs_none (l a n g p x [] v [] Q i j .nil t))⟩
theorem a0S (p:PlainAttrs T)(f:Slot T name id)(i:typeOf (.builtin id)=pure (.type "method_descriptor"))(q:MtR X id r)(u:PE X o to)(w:PA X (e::es) t)
  (c:attributeBase o name X.env (eval o X.env)=eval o X.env:=by rfl)
  (g:((backTo cpos (starEach (e::es) X.env)).all (λx=>!x.1) && (backToKw cpos (keywordEach [] X.env)).all (λx=>x.1.isSome)
   && decide ((e::es).length+([]:List Keyword).length+(if ([]:List Keyword).isEmpty then 0 else 1)<30))=true:=by rfl)
  (d:(apos.endLine == cpos.line)=true:=by rfl) (y:starEach (e::es) X.env=(false,eval e X.env)::starEach es X.env:=by rfl) (b:(backTo cpos (starEach es X.env)).any (·.1)=false:=by rfl) :
  PE X (.Call (.Attribute o name apos) (e::es) [] cpos) (tBM X.K T r to t):=by
 intro a s j H Q I h;refine wpAny_Call_method_late c g d rfl (thn (u a s j H _ I h) λv z k=>?_);obtain⟨x,A,l,m,B,C⟩:=k;obtain⟨D,E⟩:=a8Z l m B;refine⟨T,id,p,f,i,D,E,?_⟩;have n:=w cpos a z j A _ l C;rw[y]at n ⊢;exact Calls.callWith_builtin (by grind) (Calls.evalArgs_plain (thn n λF G ⟨J,L,M,N,O⟩=>q a G j L x J v F Q M m N O))
end
def MtM (X:Cx)(a:String)(r:V->List V->Hp->VK->Prop):Prop:=
 ∀ (pins:List (Addr×Obj))(s:Shared)(σ:St)(H:Hp)(x:V)(xs:List V)(v:Value)(us:List Value)(Q:VK),Inv X pins σ H s->RelV x v->Vals xs us->r x xs H Q->
  wpAny (model X.prog X.w) X.A (call (.builtin a) (v::us)) (EP X pins σ Q) X.xe s
theorem Vals.one:∀{x:V}{us:List Value},Vals [x] us->∃u,us= [u]/\RelV x u
 |_,_,.cons r .nil=>⟨_,rfl,r⟩
theorem Vals.eraseIdx:∀{xs:List V}{us:List Value}(i:Nat),Vals xs us->Vals (xs.eraseIdx i) (us.eraseIdx i)
 |_,_,_,.nil=> .nil
 |_,_,0,.cons _ t=>t
 |_,_,i+1,.cons r t=> .cons r (Vals.eraseIdx i t)
theorem Vals.rep {xs:List V}{us:List Value}(h:Vals xs us):∀k:Nat,Vals (List.replicate k xs).flatten (List.replicate k us).flatten
 |0=> .nil
 | k+1=>by
  rw[Xf,Xf,Xv,Xv];exact Vals.append h (Vals.rep h k)
theorem vX:∀(l:List α)(i:Nat),(l.eraseIdx i).length<=l.length
 |[],_=>Yb _
 |_::_,0=>XZ _
 |_::r,i+1=>Nat.succ_le_succ (vX r i)
theorem foldl_rep (its:List Value):∀(k:Nat)(acc:List Value),
  List.foldl (λx1 x2=>x1++x2) acc.toArray (List.replicate k its.toArray)=(acc++(List.replicate k its).flatten).toArray
 |0,acc=>by simp
 | k +1,acc=>by
  have e:acc.toArray++its.toArray=(acc++its).toArray:=by simp
  have e2:(acc++its)++(List.replicate k its).flatten=acc++(List.replicate (k+1) its).flatten:=by
   rw[Xf,Xv,Yo]
  rw[<-e2,<-foldl_rep its k (acc++its),<-e,Xf,YX]
section
variable {pins:List (Addr×Obj)}{σ:St}{H:Hp}{l b:Addr}{xs ys zs:List V}
theorem Inv.lset {a its':List Value}{n:Nat}{f:Array Value->Array Value}{t':Nat}(I:Inv X pins σ H s)(b:H l=some (.lst xs))
  (e:s.heap.get? l=some { cls:= .type "list",data:= .seq a.toArray n }) (c:f a.toArray=its'.toArray) (d:Vals ys its') (g:ys.length<=sizeLine) :
  Inv X pins σ (upd H l (.lst ys)) { s with heap:=s.heap.update l (Obj.mapSeq f),toks:=t' }:=by
 have q:=PySem.IsL.update e f;rw[c]at q;refine I.write (by rw[b];exact trivial) (.inl rfl) (λj u h i=>(Heap.get?_update_other s.heap (Obj.mapSeq f) (Va h)).trans i) ⟨_,q⟩ ?_;exact⟨g,its',_,d,q⟩
def Inv.lnew {a:List Value}{t':Nat}(I:Inv X pins σ H s)(b:Vals ys a)(c:ys.length<=sizeLine):
  Inv X pins σ (upd H s.heap.objs.size (.lst ys)) { s with heap:=s.heap.push { cls:= .type "list",data:= .seq a.toArray },toks:=t' }:=
 I.laid (λ_ _ q=>Yq _ q) (Yb _) ⟨c,a,0,b,YD _ rfl⟩
def Inv.fresh (I:Inv X pins σ H s):H s.heap.objs.size=none:=I.hok.fresh (Yb _)
def Inv.lstM (I:Inv X pins σ H s)(a:H l=some (.lst xs)):xs.length<=sizeLine/\∃(its:List Value)(n:Nat),Vals xs its/\xs.length=its.length/\s.heap.get? l=some { cls:= .type "list",data:= .seq its.toArray n }:=by
 obtain⟨z,its,n,r,e⟩:=I.hok l _ a;exact⟨z,its,n,r,r.length,e⟩
def a0T {n:Nat}(h:n<=sizeLine):Builtin.List.listTooLong n=false:=by
 exact Yr (by lia)
end
def b5O:V->List V->Hp->VK->Prop:=λx a H Q=>∃l xs y,x= .ref l/\a= [y]/\H l=some (.lst xs)/\xs.length<sizeLine/\Q .non (upd H l (.lst (xs++[y])))
def a7Q:MtM X "list.append" b5O:=by
 intro b s i H x j v k Q I d f h;obtain⟨l,xs,y,rfl,rfl,c,m,q⟩:=h;cases d;obtain⟨u,rfl,g⟩:=f.one;obtain⟨z,a,n,r,o,e⟩:=I.lstM c;refine Js F.slot_list_append ⟨_,e,rfl⟩ F.entry_list_append (F.args_list_append_2 _ _) (PySem.list_append l a.toArray n u (by rw[YE];lia)) ⟨e,⟨.non,_,I.lset c e (by simp) (r.append (.cons g .nil)) ?_,rfl,q⟩⟩;rw[Yc,Yy];lia
def b5N:V->List V->Hp->VK->Prop:=λx a H Q=>∃l b xs zs,x= .ref l/\a= [.ref b]/\H l=some (.lst xs)/\H b=some (.lst zs)/\xs.length+zs.length<=sizeLine/\Q .non (upd H l (.lst (xs++zs)))
def a7P:MtM X "list.extend" b5N:=by
 intro g s A H x B v C Q I j k h;obtain⟨l,b,xs,zs,rfl,rfl,i,m,D,q⟩:=h;cases j;obtain⟨u,rfl,o⟩:=k.one;cases o;obtain⟨z,c,n,r,E,e⟩:=I.lstM i;obtain⟨G,a,p,t,w,y⟩:=I.lstM m;have f:c.toArray.size+a.toArray.size<=sizeLine:=by rw[YE,YE];lia
 have d:¬ (!c.toArray.isEmpty && Builtin.List.listTooLong (c.toArray.size+a.toArray.size))=true:=by
  rw[a0T f,Bool.and_false];exact Ys
 refine Js F.slot_list_extend ⟨_,e,rfl⟩ F.entry_list_extend (F.args_list_extend_2 _ _)
  (AutoSeq1.list_extend_list_list_0 l c.toArray n b a.toArray p d (by lia) (by lia)) ⟨e,y,?_⟩
 refine⟨.non,_,I.lset i e (by simp) (r.append t) ?_,rfl,q⟩;rw[Yc];lia
def c0P:V->List V->Hp->VK->Prop:=λx a H Q=>∃l xs i k y,x= .ref l/\a= [.int i]/\H l=some (.lst xs)/\ -(2 ^ 63)<=i/\i<2 ^ 63/\seqIndex? i xs.length=some k/\xs[k]? =some y/\Q y (upd H l (.lst (xs.eraseIdx k)))
def b2B:MtM X "list.pop" c0P:=by
 intro c s D H x E v G Q I f g h;obtain⟨l,xs,i,k,y,rfl,rfl,d,j,m,o,p,q⟩:=h;cases f;obtain⟨u,rfl,A⟩:=g.one;obtain⟨t,rfl⟩:=A;obtain⟨z,a,n,r,B,e⟩:=I.lstM d;obtain⟨w,C,b⟩:=r.get p;refine Js F.slot_list_pop ⟨_,e,rfl⟩ F.entry_list_pop (F.args_list_pop_2 _ _)
  (MeetsSeq.list_pop_at l a.toArray n i t k w (fitsIndex_both j m) (by rw[YE,<-B];exact o) (by grind) (by rw[YE];lia)) ⟨e,?_⟩
 refine⟨y,_,I.lset d e ?_ (r.eraseIdx k) ?_,b,q⟩
 ·grind
 ·have:=vX xs k;lia
def c7L:R2:=λx y H Q=>∃l b xs zs,x= .ref l/\y= .ref b/\H l=some (.lst xs)/\H b=some (.lst zs)/\xs.length+zs.length<=sizeLine/\∀p,H p=none->Q (.ref p) (upd H p (.lst (xs++zs)))
def c1F:OpR X (binaryOp .Add) c7L:=by
 intro d s t H x y v u Q I f g h;obtain⟨l,b,xs,zs,rfl,rfl,i,j,w,q⟩:=h;cases f;cases g;obtain⟨z,c,n,r,A,e⟩:=I.lstM i;obtain⟨B,a,C,k,m,o⟩:=I.lstM j;refine PySem.P.add_list e o ?_ (by rw[YE,YE];lia);have p:c.toArray++a.toArray=(c++a).toArray:=by simp
 rw[p];exact⟨.ref _,_,I.lnew (r.append k) (by rw[Yc];lia),rfl,q _ I.fresh⟩
def c7H:R2:=λx y H Q=>∃l k xs,x= .ref l/\y= .int k/\H l=some (.lst xs)/\ -(2 ^ 63)<=k/\k<2 ^ 63/\xs.length*k.toNat<=sizeLine/\
 ∀p,H p=none->Q (.ref p) (upd H p (.lst (List.replicate k.toNat xs).flatten))
def len_rep (xs:List α)(k:Nat):(List.replicate k xs).flatten.length=k*xs.length:=by
 induction k with
 |zero=>simp
 |succ k ih=>rw[Xf,Xv,Yc,ih,Nat.succ_mul,Nat.add_comm]
def c1C:OpR X (binaryOp .Mult) c7H:=by
 intro p s L H x y v u Q I A B h;obtain⟨l,k,xs,rfl,rfl,C,D,E,w,q⟩:=h;cases A;obtain⟨t,rfl⟩:=B;obtain⟨z,b,n,r,G,e⟩:=I.lstM C;have d:b.toArray.size*k.toNat<=sizeLine:=by rw[YE,<-G];exact w
 have f:¬ b.toArray.size*k.toNat > (2 ^ 63-1) / 8:=by
  have:(sizeLine:Nat)<=(2 ^ 63-1) / 8:=by decide
  lia
 have g:¬ (!Builtin.List.listFitsIndex k)=true:=by
  rw[fitsIndex_both D E];exact Ys
 have c:¬ Builtin.List.listTooLong (b.toArray.size*k.toNat)=true:=by
  rw[a0T d];exact Ys
 have i:List.foldl (λj o=>j++o) #[] (List.replicate (if b.toArray.isEmpty=true then 0 else k.toNat) b.toArray)=(List.replicate k.toNat b).flatten.toArray:=by
  have J:=λm=>by
   have:=foldl_rep b m [];rw[List.nil_append]at this;exact this
  rw[J];cases b with
  |nil=>simp
  |cons a r'=>rw[if_neg (by simp)]
 refine wpAny_binaryOp_repeat_ref (by decide) ⟨_,e,rfl⟩ (λK=>typeIs_int K k t) noFill_list_mul F.fills_int_mul F.slot_int_rmul repeat_list F.slot_int_index.lookup
  (Js F.slot_int_rmul (typeIs_int s k t) F.entry_int_rmul (F.args_int_rmul_2 _ _) (int___rmul___int_list k t l b.toArray n)
   ⟨e,rfl,⟨_,e,rfl⟩,Js F.slot_list_mul ⟨_,e,rfl⟩ F.entry_list_mul (F.args_list_mul_2 _ _) (AutoListH.list___mul___list_int_3 l b.toArray n k t g f c) ⟨e,?_⟩⟩)
 rw[i];exact⟨.ref _,_,I.lnew (r.rep k.toNat) (by rw[len_rep,Nat.mul_comm];exact w),rfl,q _ I.fresh⟩
section
variable {prog:Program}{w:World}{E:Value->Shared->Prop}
end
end L2
namespace Att
open PySem PySem.W PySem.Calls PyProof.Rows
def rD {P:Params}{h:Heap}:∀(ns:List Int)(vs:List Value),WellAll P h vs (ns.map WData.int)->IntsAre vs ns:=by
 intro ns;induction ns with
 | nil=>
  intro vs w;cases w;exact .nil
 | cons n ns ih=>
  intro vs w;cases w with
  | cons a b=>
   cases a;exact .cons _ _ (ih _ b)
theorem a7D {l:OpenLaw}{n:Nat}(hn:l.most=some n){P:Params}{h:Heap}{args:List WData}{vals:List Value}
  (hpre:l.row.toRowW.claim.pre args=true) (hwl:WellAll P h vals args) :
  ∃a vs ns,vals= [Value.ref a]/\args= [WData.list (ns.map WData.int)]/\h.get? a=some { cls:= .type "list",data:= .seq vs.toArray }/\IntsAre vs ns/\ns.length<=n:=by
 have g:l.pre.holds [] { args:=args }=true:=(pre_splitW hpre).2;obtain⟨d,r,rfl,i,j⟩:=hasAllW_cons ((pre_splitW hpre).1);obtain rfl:=hasAllW_nil j;obtain⟨xs,rfl,k⟩:=hasW_list i;obtain⟨ns,rfl⟩:=items_int k;have b:ns.length<=n:=by
  have c:(WTm.not (.lt (.lit (.int (n:Int))) (.len (.arg 0)))).holds [] { args:=[.list (ns.map .int)] }=true:=by
   have c:=(holds_andW g).1;rw[hn]at c;exact c
  have e:=condW_of c (w_not (w_lt w_lit (w_len_list (w_arg rfl))));rw[Ya]at e;lia
 cases hwl with
 | cons w1 w2=>
  cases w2;cases w1 with
  |list ho hall=>exact⟨_,_,ns,rfl,rfl,ho,rD ns _ hall,b⟩
def a7G (l:OpenLaw)(args:List WData):l.row.toRowW.claim.post args (.bool true) args=true:=
 postW_of (r:=l.row.toRowW) (X:=(true == true))
  (show WShape.has [] (.bool true) .bool=true by first | rfl | decide | simp[WShape.has,WShape.arms,WShape.armsAll])
  (show (WTm.eq .res (.lit (.bool true))).value [] { args:=args,res:=some (.bool true),after:=args }=some (.bool (true == true)) from w_eq_bool (w_res rfl) w_lit) rfl
theorem attach_call {l:OpenLaw}{n:Nat}{q:Program}{loose:List Str}{XP:(Str->Option Value)->Heap->Prop}{YP:World->Heap->Prop}{d:DefRec}
  (B:l.most=some n) (m:d.params.defaults= [])
  (call:∀(w:World)(c b:Shared)(mg p:Str->Option Value)(h:Addr)(o:Obj)(s cd e:Value)(a:Addr)(vs:List Value)(ns:List Int),
   Ground q loose [] XP w c mg p b.heap->YP w b.heap->
   b.heap.get? h=some o->o.data= .func (docDef d.name d.params d.body d.scope s cd e)->b.heap.CodeRec cd d.name->mg d.name=some (.ref h)->
   b.heap.get? a=some { cls:= .type "list",data:= .seq vs.toArray }->IntsAre vs ns->ns.length<=n->b.gens=#[]->
   codeAny (model l.prog w) callerA (.call (.ref h) ⟨[.ref a], []⟩) (λr s'=>r= .ok (.ret (.bool true))/\OldK b.heap s'.heap/\s'.os=b.os/\AllBare s'.gens) b) :
  WalkO q loose XP YP l.row.toRowW d [] (λf vs=>PySem.call f vs):=by
 intro w c b mg p G Y h o s cd e C kV D hd t x u E y z as i A hrd v F;obtain rfl:C= .none:=Dflts.none x m;obtain rfl:kV= .none:=Dflts.noKw x;obtain⟨a,vs,ns,rfl,rfl,j,g,k⟩:=a7D B i v;refine enter_call (Jz (call w c b mg p h o s cd e a vs ns G Y D (fd_plain hd) t u j g k E) λr s' H=>?_);obtain⟨rfl,I,J,K⟩:=H;exact⟨.inl ⟨.bool true,.bool true, [],rfl,λ_=>rfl,.bool true,a7G l _,λ_=>⟨List.Pairwise.nil,λ_ L=>(nomatch L)⟩⟩,I,J,K⟩
section
variable {prog:Program}{w:World}{A:Around}{E:Value->Shared->Prop}{s:Shared}{K:Frag}
end
end Att
namespace L2
open PySem PySem.Spec PyProof.Rows
variable {X:Cx}{A:Around}{n:Nat}{B:Prop}{H:Hp}{K:W.Frag}{a:Nat}{b:Nat}{z:Int}{P:Program}{w:World}{mg:Str->Option Value}{base:Heap}{e:Expr}{s:Shared}{outer:List Env}{N:List Str}{qual:Str}{scope:Scope}{f:Addr}{cd:Value}{E:XK}{C:Addr}
theorem uZ:∀{vs:List Value}{ns:List Int},IntsAre vs ns->Vals (ns.map V.int) vs
 |_,_,.nil=> .nil
 |_,_,.cons n t h=> .cons ⟨t,rfl⟩ (uZ h)
def jJ (s:Stmt):Arguments:=match s with
 |.FunctionDef _ a _ _ _ _ _ _ _ _=>a
 |_=>{ posonlyargs:=[],args:=[],vararg:=none,kwonlyargs:=[],kw_defaults:=[],kwarg:=none,defaults:=[] }
def fL (s:Stmt):List Stmt:=match s with
 |.FunctionDef _ _ b _ _ _ _ _ _ _=>b
 |_=>[]
def bD (s:Stmt):Scope:=match s with
 |.FunctionDef _ _ _ _ _ _ sc _ _ _=>sc
 |_=>{ kind:= .function,names:=[],isGenerator:=false,isCoroutine:=false }
abbrev CX0:CXT:=λ_ _ _ _ _ _=>False
abbrev E0:XK:=λ_ _ _=>False
def aJ:gM CX0 X E0:=λ_ _ _ _ _ _ _ h=>h.elim
structure Fun (K:W.Frag)(x qual:Str)(st:Stmt)(f:Addr)(fd:FuncData):Prop where
 ex :∃(oc:Value)(od:Option Addr)(kV doc pm:Value)(an:Option Addr)(cdv ct:Value)(osl:Array (Option Value)),
  fd=W.fnOf x qual (jJ st) (fL st) (bD st) .none kV doc pm an cdv ct/\K.lookup f=some ⟨oc,od,.func fd,osl⟩/\W.codeIn K cdv qual=true
 kp:W.keepIn K (.ref f)=true
theorem Fun.ok {x qual:Str}{st:Stmt}{f:Addr}{g:FuncData}{N ps:List Str}{k:Nat}{sp:Sp}(F:Fun K x qual st f g)(S:kI N ps (bD st))(len:∀vs H Q E,sp vs H Q E->vs.length=ps.length)
  (c:∀(b:Value)(A:Around)(a:List Env)(s:Shared)(H:Hp)(vs:List V)(Q:VK)(E:XK),eO k (A.deeper (envOfC qual (bD st) s.heap.objs.size f b))->sp vs H Q E->
   ∃t,PSs (uL CX0 P w K mg base N qual (bD st) f b A a s H E).nox (fL st) t/\t { nx:=λ_ H'=>Q .non H',rt:=Q } (start N vs) H):iV P w K mg base CX0 (k+1) f g ps sp:=by
 obtain⟨n,o,kV,i,p,r,b,u,j,rfl,l,d⟩:=F.ex;refine c5M l d S len λA a s H vs Q E m e=>?_;obtain⟨t,h,q⟩:=c b A a s H vs Q E m e;exact⟨t,h.nox,q⟩
theorem Fun.binds {x qual:Str}{st:Stmt}{f:Addr}{g:FuncData}{ps:List Str}(F:Fun K x qual st f g)
  (h:∀(kV a c:Value)(d:Option Addr)(b e:Value)(us:List Value),us.length=ps.length->bindArgs (W.fnOf x qual (jJ st) (fL st) (bD st) .none kV a c d b e) ⟨us, []⟩=pure (ps.zip us)):Binds K g ps []:=by
 obtain⟨k,l,kV,a,c,d,b,e,i,rfl,m⟩:=F.ex;exact .all (h kV a c d b e)
theorem a3O {x qual:Str}{st:Stmt}{f:Addr}{i:Value}{j e:Option Addr}{d:Array (Option Value)}{kV b g a h:Value}(l:K.lookup f=some ⟨i,j,.func (W.fnOf x qual (jJ st) (fL st) (bD st) .none kV b g e a h),d⟩)
  (c:W.codeIn K a qual=true) (k:W.keepIn K (.ref f)=true):Fun K x qual st f (W.fnOf x qual (jJ st) (fL st) (bD st) .none kV b g e a h):=⟨⟨i,j,kV,b,g,e,a,h,d,rfl,l,c⟩,k⟩
def wC {k:Nat}(a:eO k A):A.units+1<cLine:=Xk (Nat.add_le_add_left (by decide:1<=64) _) a.units
def qI (h:n<=1000):n<sizeLine:=Xk h (by decide)
theorem pv (i:Nat){x:Str}{pos:Pos}(b:X.N[i]? =some x:=by rfl)(c:Vis X.env.scope x:=by first | exact Or.inl rfl | exact Or.inr (Or.inl rfl) | exact Or.inr (Or.inr rfl))(hd:(x == ("__debug__":Str))=false:=by decide)
  (a:(x == ("__classdict__":Str))=false:=by decide):PE X (.Name x pos) (b4M i):=a3C b c hd a
def yJ {A:Prop}(h:B):if false=true then A else B:=by
 exact h
def c1W {A:Prop}(h:A):if true=true then A else B:=by
 lia
def cF {c A:Prop}[Decidable c](a:c->A)(b:¬ c->B):if c then A else B:=by
 lia
def c5F {c A:Prop}[Decidable c](a:c)(h:B):if (!decide c)=true then A else B:=by
 rw[Ym a];exact yJ h
def Same (H H':Hp):Prop:=∀b o,H b=some o->H' b=some o
def Same.refl (H:Hp):Same H H:=λ_ _ h=>h
def Vd:=@Same.refl
def Same.trans {d e:Hp}(a:Same H d)(b:Same d e):Same H e:=λc o h=>b c o (a c o h)
def Same.seq {H':Hp}{a:Addr}{xs:List V}(e:Same H H')(h:SqL K H a xs):SqL K H' a xs:=by
 rcases h with (h | ⟨o,h⟩) | h
 ·exact .inl (.inl (e _ _ h))
 ·exact .inl (.inr ⟨o,e _ _ h⟩)
 ·exact .inr h
def cP:bootBuiltins "len"=some (.builtin "len"):=by decide +kernel
def b3W:bootBuiltins "min"=some (.builtin "min"):=by decide +kernel
def yZ:bootBuiltins "max"=some (.builtin "max"):=by decide +kernel
def oH:bootBuiltins "list"=some (.type "list"):=by decide +kernel
def fX:bootBuiltins "str"=some (.type "str"):=by decide +kernel
def c2Q:bootBuiltins "int"=some (.type "int"):=by decide +kernel
def uN (a:Nat):Builtin.Int.intBits (a:Int)=if a=0 then 0 else a.log2+1:=by
 unfold Builtin.Int.intBits;grind
def bits_le (h:a<2 ^ n):Builtin.Int.intBits (a:Int)<=n:=by
 rw[uN];split
 ·exact YW _
 ·rename_i h0;exact(Nat.log2_lt h0).mpr h
def b7I (a:Nat):a<2 ^ Builtin.Int.intBits (a:Int):=by
 rw[uN];split
 ·lia
 ·exact Nat.lt_log2_self
def uO {i:Int}(h:i.natAbs<2 ^ n):Builtin.Int.intBits i<=n:=by
 unfold Builtin.Int.intBits;split
 ·exact YW _
 ·have a:i.natAbs≠0:=by
   lia
  exact(Nat.log2_lt a).mpr h
def a6P {X Y:Nat}(e:a / 2+b / 2=X / 2+2*(Y / 2))(c:X % 2=(a % 2+b % 2) % 2)(f:Y % 2=(a % 2)*(b % 2)):a+b=X+2*Y:=by
 rcases X0 a with h | h <;> lia
theorem uP:∀(n a b:Nat),a<2 ^ n->b<2 ^ n->a+b=(a ^^^ b)+2*(a &&& b)
 |0,a,b,ha,hb=>by rw[Nat.lt_one_iff.mp ha,Nat.lt_one_iff.mp hb];rfl
 | n+1,a,b,ha,hb=>by
  have e:=uP n (a / 2) (b / 2) (Nat.div_lt_of_lt_mul (by rw[Nat.mul_comm,<-XH];exact ha)) (Nat.div_lt_of_lt_mul (by rw[Nat.mul_comm,<-XH];exact hb));rw[<-Nat.xor_div_two,<-Nat.and_div_two]at e;have x1:=Nat.xor_mod_two_pow (a:=a) (b:=b) (n:=1);have x2:=Nat.and_mod_two_pow (a:=a) (b:=b) (n:=1);rw[Nat.pow_one]at x1 x2;refine a6P e (x1.trans ?_) (x2.trans ?_) <;> (rcases X0 a with h | h <;> rcases X0 b with h' | h' <;> rw[h,h'] <;> rfl)
def b4E (h:a<2 ^ (n+1))(j:b<2 ^ (n+1))(c:2 ^ n<=a)(d:2 ^ n<=b):a ^^^ b<2 ^ n:=by
 apply Nat.lt_pow_two_of_testBit;intro i k;rw[X9];by_cases e:i=n
 ·subst e;have f:a.testBit i=true:=by
   rw[Y6];have:a / 2 ^ i=1:=by
    apply Jp
    ·simpa using c
    ·lia
   rw[this];rfl
  have g:b.testBit i=true:=by
   rw[Y6];have:b / 2 ^ i=1:=by
    apply Jp
    ·simpa using d
    ·lia
   rw[this];rfl
  rw[f,g];rfl
 ·rw[Xb (Yl h (YB (by decide) (by lia))),Xb (Yl j (YB (by decide) (by lia)))];rfl
def band (a b:Nat):Builtin.bitAnd (a:Int) (b:Int)=((a &&& b:Nat):Int):=by
 rfl
def bxor (a b:Nat):Builtin.bitXor (a:Int) (b:Int)=((a ^^^ b:Nat):Int):=by
 have h:=uP (a+b) a b (Xk (Nat.le_add_right a b) Nat.lt_two_pow_self) (Xk (Nat.le_add_left b a) Nat.lt_two_pow_self);unfold Builtin.bitXor;rw[PyProof.Rows.bitOr_and,band];lia
def tU (k:Nat):(2:Int) ^ ((k:Int)).toNat=((2 ^ k:Nat):Int):=by
 simp
def c7X (a k:Nat):(a:Int)*2 ^ ((k:Int)).toNat=((a <<< k:Nat):Int):=by
 rw[XM];simp
def c7W (a k:Nat):(a:Int) / 2 ^ ((k:Int)).toNat=((a >>> k:Nat):Int):=by
 rw[tU,Nat.shiftRight_eq_div_pow];rfl
def bit_at (b k:Nat):(((b >>> k:Nat) &&& 1:Nat):Int)=1↔b.testBit k=true:=by
 unfold Nat.testBit;grind
def rN (C:Nat->Nat->Prop)(g:Nat->Nat->Nat):R2:=λx y H Q=>∃a b:Nat,x= .int a/\y= .int b/\C a b/\Q (.int ((g a b:Nat):Int)) H
theorem opN {f:Value->Value->Sem Value}{C:Nat->Nat->Prop}{g:Nat->Nat->Nat}
  (a:∀(i j:Nat)(t u:Tok)(s:Shared)(Q:Value->Shared->Prop)(E:Value->Shared->Prop),C i j->Q (.int ((g i j:Nat):Int) s.toks) { s with toks:=s.toks+1 }->wpAny (model X.prog X.w) X.A (f (.int i t) (.int j u)) Q E s) :
  OpR X f (rN C g):=by
 intro b s l H x y v u Q I c d h;obtain⟨i,j,rfl,rfl,e,q⟩:=h;obtain⟨t,rfl⟩:=c;obtain⟨k,rfl⟩:=d;exact a i j t k s _ _ e ⟨.int ((g i j:Nat):Int),H,I.tok _,⟨_,rfl⟩,q⟩
def a5C:OpR X (binaryOp .BitXor) (rN (λ_ _=>True) λa b=>a ^^^ b):=opN λi j _ _ _ _ _ _ q=>by
 refine xor_int ?_;rw[bxor];exact q
def a5D:OpR X (binaryOp .LShift) (rN (λa k=>a<2 ^ 4000/\k<=4000) λa k=>a <<< k):=opN λa k _ _ _ _ _ b q=>by
 refine lshift_int (by lia) ?_ ?_
 ·have:=bits_le b.1;lia
 ·rw[c7X];exact q
def c6K (i j:Int):Prop:=0<=j/\j<=4000/\i.natAbs<2 ^ 4000
def b6A:OpR X (binaryOp .LShift) (rI c6K λi j=> .int (i*2 ^ j.toNat)):=opI λi j _ _ _ _ _ a q=>by
 refine lshift_int a.1 ?_ q;have:=uO a.2.2;have:=a.2.1;lia
def a2D (i j:Int):Prop:=i.natAbs<2 ^ 4000/\j.natAbs<2 ^ 4000
def a2D.ok {i j:Int}(h:a2D i j):IntMulOk i j:=by
 unfold IntMulOk;have b:=uO h.1;have c:=uO h.2;have a:Builtin.Int.intTooBig ((Builtin.Int.intBits i:Int)+(Builtin.Int.intBits j:Int))=false:=by
  apply Yr;have:(8000:Int)<=bitsLine:=by decide
  lia
 lia
def b6B:OpR X (binaryOp .Mult) (rI a2D λi j=> .int (i*j)):=opI λ_ _ _ _ _ _ _ a q=>mul_int q a.ok
def c4O:MtR X "int.bit_length" (λx vs H Q=>∃i,x= .int i/\vs= []/\Q (.int ((Builtin.Int.intBits i:Nat):Int)) H):=by
 intro a s d H x xs v e Q I b c h;obtain⟨i,rfl,rfl,q⟩:=h;obtain⟨t,rfl⟩:=b;cases c;exact call_int_bit_length ⟨.int _,H,I.tok _,⟨_,rfl⟩,q⟩
section
variable {te:TE}{st:Stmt}{ts:TS}
def c7A (t:TE):TE:=λa H Q=>∃P:VK,t a H P/\∀x H',P x H'->Q x H'
def cH (h:PE X e te):PE X e (c7A te):=by
 intro a s c H Q I d;obtain⟨P,f,g⟩:=d;exact thn (h a s c H P I f) λv j ⟨x,b,i,r,q⟩=>⟨x,b,i,r,g x b q⟩
def c3M (t:TS):TS:=λD a H=>∃N:St->Hp->Prop,t { D with nx:=N } a H/\∀σ' H',N σ' H'->D.nx σ' H'
def lJ (h:PS X st ts):PS X st (c3M ts):=by
 intro a s d H D I e;obtain⟨N,g,i⟩:=e;refine thn (h a s d H { D with nx:=N } I g) λf k q=>?_;cases f with
 |next=>obtain⟨b,c,j,q⟩:=q;exact⟨b,c,j,i b c q⟩
 |ret v=>exact q
 |brk=>exact q
 |cont=>exact q
end
def dec_true {p:Prop}[Decidable p](h:decide p=true):p:=YR h
def dec_false {p:Prop}[Decidable p](h:¬ decide p=true):¬ p:=λq=>h (Ym q)
def a7O (a:0<=z)(b:z<2 ^ n):z.natAbs<2 ^ n:=by
 lia
def b3Z (h:z.natAbs<2 ^ n)(a:n<=4000:=by decide):z.natAbs<2 ^ 4000:=Yl h (YB (by decide) a)
def jP (a: -18446744073709551616<z)(b:z<18446744073709551616):z.natAbs<2 ^ 4000:=b3Z (n:=64) (by lia)
def a2K (h:a<=b):(2:Int) ^ a<=2 ^ b:=by
 have:=YB (n:=2) (by decide) h
 exact_mod_cast this
def b2F (h:a<2 ^ n)(b:n<=4000:=by decide):a<2 ^ 4000:=Yl h (YB (by decide) b)
def c2U {ns:List Int}{k:Int}(h:0<ns.length):∃v:Int,atI (ns.map V.int) (k % (((ns.map V.int).length:Nat):Int))=some (.int v):=by
 rw[Ya];have a:0<=k % ((ns.length:Nat):Int):=Int.emod_nonneg _ (by lia);have b:k % ((ns.length:Nat):Int)<((ns.length:Nat):Int):=Jw _ (by lia);generalize k % ((ns.length:Nat):Int)=j at a b;have c:j.toNat<ns.length:=by lia
 refine⟨ns[j.toNat],?_⟩;have q:atI (ns.map V.int) ((j.toNat:Nat):Int)=some (.int ns[j.toNat]):=bB (by rw[Yn,Yd c] <;> rfl);grind
def c0B (K:W.Frag):Sp:=λb H Q _=>∃(a:Addr)(ns:List Int)(k m:Int),b= [.ref a,.int k,.int m]/\SqL K H a (ns.map V.int)/\ns.length<=63/\0<=k/\k<=100000/\0<m/\∀d:Int,0<=d->d<m->Q (.int d) H
section
variable {M:Model}{E:Value->Shared->Prop}{B:Heap}{env:Env}{l:List Env}{L e:Addr}{k a0:Value}{od:Option Addr}
end
section
variable {tx:St->Hp->VK->XK->Prop}{p1 np hpos pos:Pos}{y n:Str}{i:Nat}{b₀:Stmt}{suite:List Stmt}{ts:TS}
end
section
variable {CX:CXT}{k:Nat}{fd:FuncData}{ps:List Str}{sp:Sp}{dvs:List V}{ds:List Value}{x m:Str}{p pos apos:Pos}{o:Expr}{es:List Expr}{ta:TE}{t:TA}
end
section
variable {prog:Program}{E:Value->Shared->Prop}{h:Heap}{g:Array GenState}{d:Drawn}{t:Nat}{os:OsState}{nm q:Str}{N:Addr}{bs bm bmB:List Value}{hdct:Bool}{sn:List Str}{sub:List Value}{ab:Bool}{col:Option Bool}{dd:Option Addr}{k0 k1 k2 k3 k5:Option Value}{B newId initId:String}
end
end L2
namespace L2
open PySem PySem.Spec PyProof.Rows Builtin Builtin.ObjectAttr
section
variable {prog:Program}{w:World}{K:W.Frag}{A:Around}{s:Shared}{a C t fI:Addr}{f:Str}{R:Result->Shared->Prop}
end
section
variable {X:Cx}{A:Around}{E:Value->Shared->Prop}{pins:List (Addr×Obj)}{σ:St}{H:Hp}{s:Shared}{a C t fI:Addr}{f:Str}
end
end L2
namespace L2
open PySem PySem.Spec PyProof.Rows
variable {X:Cx}{e:Expr}{r:R2}{x:V}{a:Expr}{pos:Pos}{scope:Scope}{env:Env}{y:Str}{s:Shared}{ix:List Nat}
def PE.imp {t t':TE}(h:PE X e t)(i:∀σ H Q,t' σ H Q->t σ H Q):PE X e t':=λa s σ H Q I q=>h a s σ H Q I (i σ H Q q)
def PS.imp {e:Stmt}{t t':TS}(h:PS X e t)(i:∀D σ H,t' D σ H->t D σ H):PS X e t':=λa s σ H D I q=>h a s σ H D I (i D σ H q)
def OpR.imp {f:Value->Value->Sem Value}{b:R2}(h:OpR X f r)(i:∀x y H Q,b x y H Q->r x y H Q):OpR X f b:=λa s c H x y v u Q I d e q=>h a s c H x y v u Q I d e (i x y H Q q)
def UnR.imp {f:Value->Sem Value}{r b:V->Hp->VK->Prop}(h:UnR X f r)(i:∀x H Q,b x H Q->r x H Q):UnR X f b:=λa s c H x v Q I d q=>h a s c H x v Q I d (i x H Q q)
def gR.imp {f:Value}{r b:List V->Hp->VK->Prop}(h:gR X f r)(i:∀xs H Q,b xs H Q->r xs H Q):gR X f b:=λa s c H xs d Q I e q=>h a s c H xs d Q I e (i xs H Q q)
def IxR.imp {b:R2}(h:IxR X r)(i:∀x y H Q,b x y H Q->r x y H Q):IxR X b:=λc d a s e H x y v u Q I f g q j=>h c d a s e H x y v u Q I f g (i x y H Q q) j
def oV (o:Option (Option V))(k:V->Prop):Prop:=@Option.rec (Option V) (λ_=>Prop) False (λo=>@Option.rec V (λ_=>Prop) False k o) o
def vI (x:V)(k:Int->Prop):Prop:=@V.rec (λ_=>Prop) False (λ_=>False) k (λ_=>False) (λ_=>False) (λ_=>False) (λ_=>False) (λ_=>False) x
def vB (x:V)(k:Bool->Prop):Prop:=@V.rec (λ_=>Prop) False k (λ_=>False) (λ_=>False) (λ_=>False) (λ_=>False) (λ_=>False) (λ_=>False) x
def vS (x:V)(k:Str->Prop):Prop:=@V.rec (λ_=>Prop) False (λ_=>False) (λ_=>False) k (λ_=>False) (λ_=>False) (λ_=>False) (λ_=>False) x
def vR (x:V)(k:Addr->Prop):Prop:=@V.rec (λ_=>Prop) False (λ_=>False) (λ_=>False) (λ_=>False) (λ_=>False) (λ_=>False) k (λ_=>False) x
def l1 (vs:List V)(k:V->Prop):Prop:=@List.rec V (λ_=>Prop) False (λx r _=>@List.rec V (λ_=>Prop) (k x) (λ_ _ _=>False) r) vs
def l2 (vs:List V)(k:V->V->Prop):Prop:=@List.rec V (λ_=>Prop) False (λx r _=>l1 r λy=>k x y) vs
def oV.ex {o:Option (Option V)}{k:V->Prop}(h:oV o k):∃v,o=some (some v)/\k v:=by
 cases o with
 |none=>exact h.elim
 | some o=>cases o with
  |none=>exact h.elim
  |some v=>exact⟨v,rfl,h⟩
def vI.ex {k:Int->Prop}(h:vI x k):∃i,x= .int i/\k i:=by
 cases x with
 |int i=>exact⟨i,rfl,h⟩
 |_=>exact h.elim
def vB.ex {k:Bool->Prop}(h:vB x k):∃i,x= .bl i/\k i:=by
 cases x with
 |bl i=>exact⟨i,rfl,h⟩
 |_=>exact h.elim
def vS.ex {k:Str->Prop}(h:vS x k):∃i,x= .str i/\k i:=by
 cases x with
 |str i=>exact⟨i,rfl,h⟩
 |_=>exact h.elim
def vR.ex {k:Addr->Prop}(h:vR x k):∃i,x= .ref i/\k i:=by
 cases x with
 |ref i=>exact⟨i,rfl,h⟩
 |_=>exact h.elim
def l1.ex {vs:List V}{k:V->Prop}(h:l1 vs k):∃x,vs= [x]/\k x:=by
 match vs,h with
 |[x],h=>exact⟨x,rfl,h⟩
def l2.ex {vs:List V}{k:V->V->Prop}(h:l2 vs k):∃x y,vs= [x,y]/\k x y:=by
 match vs,h with
 |[x,y],h=>exact⟨x,y,rfl,h⟩
def c5Q (i:Nat):TE:=λa H Q=>oV a[i]? λv=>Q v H
theorem dv (i:Nat){x:Str}{pos:Pos}(b:X.N[i]? =some x:=by rfl)(c:Vis X.env.scope x:=by first | exact Or.inl rfl | exact Or.inr (Or.inl rfl) | exact Or.inr (Or.inr rfl))(hd:(x == ("__debug__":Str))=false:=by decide)
  (a:(x == ("__classdict__":Str))=false:=by decide):PE X (.Name x pos) (c5Q i):=(a3C b c hd a).imp λd H Q h=>h.ex
def mI (C:Int->Int->Prop)(g:Int->Int->V):R2:=λx y H Q=>vI x λi=>vI y λj=>C i j/\Q (g i j) H
def mI0 (g:Int->Int->V):R2:=λx y H Q=>vI x λi=>vI y λj=>Q (g i j) H
def mI.to {C:Int->Int->Prop}{g:Int->Int->V}:∀x y H Q,mI C g x y H Q->rI C g x y H Q:=λx y H Q h=>by
 obtain⟨i,rfl,a⟩:=vI.ex h;obtain⟨j,rfl,h⟩:=vI.ex a;exact⟨_,_,rfl,rfl,h.1,h.2⟩
def mI0.to {g:Int->Int->V}:∀x y H Q,mI0 g x y H Q->rI0 g x y H Q:=λx y H Q h=>by
 obtain⟨i,rfl,a⟩:=vI.ex h;obtain⟨j,rfl,h⟩:=vI.ex a;exact⟨_,_,rfl,rfl,h⟩
def mU (g:Int->V):V->Hp->VK->Prop:=λx H Q=>vI x λi=>Q (g i) H
def mU.to {g:Int->V}:∀x H Q,mU g x H Q->rU g x H Q:=λx H Q h=>vI.ex h
def cG:OpR X (binaryOp .Add) (mI0 λi j=> .int (i+j)):=c1H.imp mI0.to
def mR:OpR X (binaryOp .Sub) (mI0 λi j=> .int (i-j)):=c1A.imp mI0.to
def fJ:OpR X (binaryOp .Mult) (mI a2D λi j=> .int (i*j)):=b6B.imp mI.to
def oN:OpR X (binaryOp .FloorDiv) (mI c6L λi j=> .int (i / j)):=b6C.imp mI.to
def oJ:OpR X (binaryOp .Mod) (mI (λ_ j=>0<j) λi j=> .int (i % j)):=c1D.imp mI.to
def c3A:OpR X (binaryOp .LShift) (mI c6K λi j=> .int (i*2 ^ j.toNat)):=b6A.imp mI.to
def b7S:OpR X (binaryOp .RShift) (mI (λ_ j=>0<=j) λi j=> .int (i / 2 ^ j.toNat)):=c1B.imp mI.to
def a8U:OpR X (binaryOp .BitAnd) (mI0 λi j=> .int (Builtin.bitAnd i j)):=c1G.imp mI0.to
def a8S:UnR X (unaryOp .USub) (mU λi=> .int (-i)):=b8W.imp mU.to
def uR:OpR X (compareOp .Lt) (mI0 λi j=> .bl (decide (i<j))):=c4D.imp mI0.to
def sU:OpR X (compareOp .LtE) (mI0 λi j=> .bl (decide (i<=j))):=c4E.imp mI0.to
def pB:OpR X (compareOp .Gt) (mI0 λi j=> .bl (decide (j<i))):=c4F.imp mI0.to
def a6O:OpR X (compareOp .GtE) (mI0 λi j=> .bl (decide (j<=i))):=c4G.imp mI0.to
def dI {i j:Int}:decide (V.int i=V.int j)=decide (i=j):=by
 lia
def dS {i j:Str}:decide (V.str i=V.str j)=decide (i=j):=by
 lia
def dB {i j:Bool}:decide (V.bl i=V.bl j)=decide (i=j):=by
 lia
def eqW (f:Bool->Prop)(x y:V):Prop:=@V.rec (λ_=>Prop)
 (@V.rec (λ_=>Prop) (f true) (λ_=>False) (λ_=>f false) (λ_=>f false) (λ_=>False) (λ_=>False) (λ_=>False) (λ_=>False) y)
 (λi=>@V.rec (λ_=>Prop) False (λj=>f (decide (i=j))) (λ_=>False) (λ_=>False) (λ_=>False) (λ_=>False) (λ_=>False) (λ_=>False) y)
 (λi=>@V.rec (λ_=>Prop) (f false) (λ_=>False) (λj=>f (decide (i=j))) (λ_=>f false) (λ_=>False) (λ_=>False) (λ_=>False) (λ_=>False) y)
 (λi=>@V.rec (λ_=>Prop) (f false) (λ_=>False) (λ_=>f false) (λj=>f (decide (i=j))) (λ_=>False) (λ_=>False) (λ_=>False) (λ_=>False) y)
 (λ_=>False) (λ_=>False) (λ_=>False) (λ_=>False) x
def eqW.ex {f:Bool->Prop}{y:V}(h:eqW f x y):c0H x y=true/\f (decide (x=y)):=by
 cases x with
 |non=>cases y <;> first | exact h.elim | exact⟨rfl,h⟩
 |bl i=>cases y <;> first | exact h.elim | (exact⟨rfl,by rw[dB];exact h⟩)
 |int i=>cases y <;> first | exact h.elim | exact⟨rfl,h⟩ | (exact⟨rfl,by rw[dI];exact h⟩)
 |str i=>cases y <;> first | exact h.elim | exact⟨rfl,h⟩ | (exact⟨rfl,by rw[dS];exact h⟩)
 |_=>exact h.elim
def mEq:R2:=λx y H Q=>eqW (λb=>Q (.bl b) H) x y
def mNe:R2:=λx y H Q=>eqW (λb=>Q (.bl (!b)) H) x y
def fH:OpR X (compareOp .Eq) mEq:=c4H.imp λx y H Q h=>eqW.ex h
def pA:OpR X (compareOp .NotEq) mNe:=c4C.imp λx y H Q h=>eqW.ex h
def vN (x:V)(k:Prop):Prop:=@V.rec (λ_=>Prop) k (λ_=>False) (λ_=>False) (λ_=>False) (λ_=>False) (λ_=>False) (λ_=>False) (λ_=>False) x
def vN.ex {k:Prop}(h:vN x k):x= .non/\k:=by
 cases x with
 |non=>exact⟨rfl,h⟩
 |_=>exact h.elim
def c7P:R2:=λx y H Q=>vN y (Q (.bl (decide (x= .non))) H)
def uX:OpR X (compareOp .Is) c7P:=c1E.imp λx y H Q h=>vN.ex h
section
variable {b c:Expr}{ta tb tc:TE}{rest:List Expr}
def qD {k:Bool->Prop}:vB x k=∃i,x= .bl i/\k i:=propext ⟨vB.ex,λ⟨i,e,h⟩=>by subst e;exact h⟩
def uK (t:TE):TT:=λa H Q=>t a H λx b=>vB x λk=>Q k b
def a1Q (t:TE):uK t=a4J t:=by
 unfold uK a4J;simp only[qD]
def a8I (t:TE):uK t=tB t:=by
 unfold uK tB;simp only[qD]
def aY {op:CmpOp}(c:OpR X (compareOp op) r)(d:PE X a ta)(e:PE X b tb)(f:behindInMarks op b=false):PT X (.Compare a [op] [b] pos) (uK (tOp r ta tb)):=by
 rw[a1Q];exact b5P c d e f
def cW {t:TE}(h:PE X e t)(a:∀whole,isTrue e X.env whole=(do let v<-whole;standAt e.pos;holding [v] (truthy v)):=by intro _;rfl):PT X e (uK t):=by
 rw[a8I];exact c0Q h a
def c2N (d e:TE):TE:=λa H Q=>d a H λx b=>vB x λc=>if c=true then e a b Q else Q (.bl false) b
def dOr (d e:TE):TE:=λa H Q=>d a H λx b=>vB x λc=>if c=true then Q (.bl true) b else e a b Q
def c2J (a:TE):TE:=λb H Q=>a b H λx d=>vB x λc=>Q (.bl (!c)) d
def b7F:c2N ta tb=a9D ta tb:=by
 unfold c2N a9D;simp only[qD]
def c2I:dOr ta tb=b9C ta tb:=by
 unfold dOr b9C;simp only[qD]
def b7C:c2J ta=a9B ta:=by
 unfold c2J a9B;simp only[qD]
def yF (c:PE X a ta)(d:PE X (.BoolOp .And (b::rest) pos) tb):PE X (.BoolOp .And (a::b::rest) pos) (c2N ta tb):=by
 rw[b7F];exact c0V c d
def c4Q (c:PE X a ta)(d:PE X (.BoolOp .Or (b::rest) pos) tb):PE X (.BoolOp .Or (a::b::rest) pos) (dOr ta tb):=by
 rw[c2I];exact c4B c d
def c1M (b:PE X a ta):PE X (.UnaryOp .Not a pos) (c2J ta):=by
 rw[b7C];exact c0T b
end
def SqA (K:W.Frag)(H:Hp)(a:Addr)(xs:List V):Prop:=SqL K H a xs\/SqT K H a xs
def c7O (K:W.Frag):R2:=λx y H Q=>vR x λp=>vI y λi=>∃xs v,SqL K H p xs/\atI xs i=some v/\Q v H
def c4X (K:W.Frag):R2:=λx y H Q=>vR x λp=>vI y λi=>∃xs v,SqT K H p xs/\atI xs i=some v/\Q v H
def c7N:R2:=λx y H Q=>vS x λz=>vI y λi=>∃c,z.length<=sizeLine/\atI z.cps.toList i=some c/\Q (.str ⟨#[c]⟩) H
def cJ:IxR X (c7O X.K):=b6S.imp λx y H Q h=>by
 obtain⟨p,rfl,h⟩:=vR.ex h;obtain⟨i,rfl,xs,v,a,b,c⟩:=vI.ex h;exact⟨_,xs,_,v,rfl,rfl,a,b,c⟩
def dY:IxR X (c4X X.K):=c1T.imp λx y H Q h=>by
 obtain⟨p,rfl,h⟩:=vR.ex h;obtain⟨i,rfl,xs,v,a,b,c⟩:=vI.ex h;exact⟨_,xs,_,v,rfl,rfl,a,b,c⟩
def c3C:IxR X c7N:=c1U.imp λx y H Q h=>by
 obtain⟨p,rfl,h⟩:=vS.ex h;obtain⟨i,rfl,c,a,b,d⟩:=vI.ex h;exact⟨_,_,c,rfl,rfl,a,b,d⟩
def c4W (K:W.Frag):List V->Hp->VK->Prop:=λxs H Q=>l1 xs λx=>vR x λp=>∃ys,SqA K H p ys/\Q (.int ys.length) H
def eZ:gR X (.builtin "len") (c4W X.K):=yX.imp λxs H Q h=>by
 obtain⟨x,rfl,h⟩:=l1.ex h;obtain⟨p,rfl,a,b,c⟩:=vR.ex h;exact⟨_,a,rfl,b,c⟩
def c4V:List V->Hp->VK->Prop:=λxs H Q=>l1 xs λx=>vS x λz=>z.length<=sizeLine/\Q (.int z.length) H
def a8T:gR X (.builtin "len") c4V:=yW.imp λxs H Q h=>by
 obtain⟨x,rfl,h⟩:=l1.ex h;obtain⟨p,rfl,a,b⟩:=vS.ex h;exact⟨_,rfl,a,b⟩
def a5K (K:W.Frag):List V->Hp->VK->Prop:=λxs H Q=>l1 xs λx=>vR x λp=>∃ys,SqA K H p ys/\∀l,H l=none->Q (.ref l) (upd H l (.lst ys))
def mV:gR X (.type "list") (a5K X.K):=yV.imp λxs H Q h=>by
 obtain⟨x,rfl,h⟩:=l1.ex h;obtain⟨p,rfl,a,b,c⟩:=vR.ex h;exact⟨_,a,rfl,b,c⟩
def c4T:List V->Hp->VK->Prop:=λxs H Q=>l2 xs λx y=>vI x λi=>vI y λj=>Q (.int (min i j)) H
def c4U:List V->Hp->VK->Prop:=λxs H Q=>l2 xs λx y=>vI x λi=>vI y λj=>Q (.int (max i j)) H
def b8R (a:X.calm=true):gR X (.builtin "min") c4T:=(a8L a).imp λxs H Q h=>by
 obtain⟨x,y,rfl,h⟩:=l2.ex h;obtain⟨i,rfl,h⟩:=vI.ex h;obtain⟨j,rfl,h⟩:=vI.ex h;lia
def wQ (a:X.calm=true):gR X (.builtin "max") c4U:=(a8M a).imp λxs H Q h=>by
 obtain⟨x,y,rfl,h⟩:=l2.ex h;obtain⟨i,rfl,h⟩:=vI.ex h;obtain⟨j,rfl,h⟩:=vI.ex h;grind
section
variable {K:W.Frag}
end
def c3N (t:TA):TA:=λa H Q=>∃P:List V->Hp->Prop,t a H P/\∀x H',P x H'->Q x H'
def nC {b:List Expr}{t:TA}(h:PA X b t):PA X b (c3N t):=by
 intro pos a s d H Q I e;obtain⟨P,f,g⟩:=e;exact thn (h pos a s d H P I f) λv j ⟨x,c,i,r,q⟩=>⟨x,c,i,r,g x c q⟩
section
variable {o:Expr}{es:List Expr}{to:TE}{t:TA}{apos cpos:Pos}
def dBl (to:TE):TE:=λa H Q=>to a H λx b=>vI x λi=>Q (.int ((Builtin.Int.intBits i:Nat):Int)) b
def a5J (c:PE X o to)(a:attributeBase o "bit_length" X.env (eval o X.env)=eval o X.env:=by rfl)(b:(apos.endLine == cpos.line)=true:=by rfl):
  PE X (.Call (.Attribute o "bit_length" apos) [] [] cpos) (dBl to):=
 (c0U PySem.F.plainAttrs_int PySem.F.slot_int_bit_length PySem.F.type_int_bit_length c4O (cH c) a b).imp λd H Q h=>⟨_,h,λx e q=>by
  obtain⟨i,rfl,q⟩:=vI.ex q
  exact⟨rfl,i,rfl,rfl,q⟩⟩
def b7E (K:W.Frag)(to:TE)(t:TA):TE:=λa H Q=>to a H λx b=>vR x λl=>(∃xs,SqL K b l xs)/\t a b λd c=>l1 d λy=>∃xs,c l=some (.lst xs)/\xs.length<sizeLine/\Q .non (upd c l (.lst (xs++[y])))
theorem dO (f:PE X o to)(g:PA X [e] t)(b:attributeBase o "append" X.env (eval o X.env)=eval o X.env:=by rfl)
  (d:((backTo cpos (starEach [e] X.env)).all (λx=>!x.1) && (backToKw cpos (keywordEach [] X.env)).all (λx=>x.1.isSome)
   && decide (([e]:List Expr).length+([]:List Keyword).length+(if ([]:List Keyword).isEmpty then 0 else 1)<30))=true:=by rfl)
  (c:(apos.endLine == cpos.line)=true:=by rfl) (i:starEach [e] X.env=(false,eval e X.env)::starEach [] X.env:=by rfl) (a:(backTo cpos (starEach [] X.env)).any (·.1)=false:=by rfl) :
  PE X (.Call (.Attribute o "append" apos) [e] [] cpos) (b7E X.K to t):=
 (a0S PySem.F.plainAttrs_list PySem.F.slot_list_append PySem.F.type_list_append a7Q (cH f) (nC g) b d c i a).imp λs H Q h=>⟨_,h,λx u q=>by
  obtain⟨l,rfl,j,k⟩:=vR.ex q;refine⟨.inl ⟨rfl,j⟩,_,k,λv w m=>?_⟩;obtain⟨y,rfl,xs,n,p,r⟩:=l1.ex m
  exact⟨l,xs,y,rfl,rfl,n,p,r⟩⟩
def c5U (t:TE):TO:=λa H Q=>t a H λx b=>vI x λi=>Q (some i) b
def PO.imp {e:Option Expr}{t t':TO}(h:PO X e t)(i:∀σ H Q,t' σ H Q->t σ H Q):PO X e t':=λa s σ H Q I q=>h a s σ H Q I (i σ H Q q)
def iC (h:PE X e to):PO X (some e) (c5U to):=(b5V (cH h)).imp λa H Q q=>⟨_,q,λx b z=>vI.ex z⟩
def c4S (K:W.Frag):V->Option Int->Option Int->Hp->VK->Prop:=λx b c H Q=>vR x λa=>∃xs,SqL K H a xs/\∀p,H p=none->Q (.ref p) (upd H p (.lst (jN xs b c)))
def SlR.imp {r b:V->Option Int->Option Int->Hp->VK->Prop}(h:SlR X r)(i:∀x lo hi H Q,b x lo hi H Q->r x lo hi H Q):SlR X b:=by
 intro a s c H x v d e lo hi f Q I g j pl k q;exact h a s c H x v d e lo hi f Q I g j pl k (i _ _ _ _ _ q)
def qW:SlR X (c4S X.K):=b5I.imp λx d e H Q h=>by
 obtain⟨a,rfl,xs,b,c⟩:=vR.ex h;exact⟨_,xs,rfl,b,c⟩
variable {tg:Expr}
def PI.imp {a:Expr}{w w':TI}(h:PI X tg a w)(i:∀σ H R,w' σ H R->w σ H R):PI X tg a w':=λb s σ H R I q=>h b s σ H R I (i σ H R q)
def c5V (K:W.Frag)(c:TE):TI:=λd H R=>c d H λx b=>vR x λa=>(∃xs,SqL K b a xs)/\R (Itl K a) b
def dN {l:Expr}{a:TE}(b:PE X l a):PI X tg l (c5V X.K a):=(b5W (cH b)).imp λc H R h=>⟨_,h,λx d q=>vR.ex q⟩
def c5T (a:TA):TI:=λb H R=>a b H λc d=>l1 c λx=>vI x λj=>(-(2 ^ 62)<=j/\j<2 ^ 62)/\R (Itr 0 j.toNat) d
def c5S (a:TA):TI:=λb H R=>a b H λc d=>l2 c λx y=>vI x λi=>vI y λj=>(-(2 ^ 62)<=i/\i<2 ^ 62/\ -(2 ^ 62)<=j/\j<2 ^ 62)/\R (Itr i (j-i).toNat) d
def fP {b:TA}{p:Pos}(c:Gl X "range")(d:X.mg "range"=none)(e:PA X [a] b)(f:starEach [a] X.env= [(false,eval a X.env)]:=by rfl):PI X tg (.Call (.Name "range" p) [a] [] pos) (c5T b):=
 (a7I c d (nC e) f).imp λg H R h=>⟨_,h,λi k q=>by
  obtain⟨x,rfl,q⟩:=l1.ex q;obtain⟨j,rfl,q⟩:=vI.ex q
  lia⟩
def a7R {b:Expr}{d:TA}{p:Pos}(e:Gl X "range")(f:X.mg "range"=none)(g:PA X [a,b] d)(k:starEach [a,b] X.env= [(false,eval a X.env),(false,eval b X.env)]:=by rfl)(c:starEach [b] X.env= [(false,eval b X.env)]:=by rfl):
  PI X tg (.Call (.Name "range" p) [a,b] [] pos) (c5S d):=
 (a7H e f (nC g) k c).imp λl H R h=>⟨_,h,λm n q=>by
  obtain⟨x,y,rfl,q⟩:=l2.ex q;obtain⟨i,rfl,q⟩:=vI.ex q;obtain⟨j,rfl,q⟩:=vI.ex q
  exact⟨i,j,rfl,q.1,q.2⟩⟩
end
section
variable {M:Model}{A:Around}{E:Value->Shared->Prop}{B:Heap}{outer l:List Env}{L e:Addr}{k a0 fl:Value}{od:Option Addr}
end
def rC (N:List Str)(ix:List Nat):List Str:=ix.map λi=>N.getD i ""
def mY (σ:St)(ix:List Nat):St:=ix.map λi=>σ.getD i none
def b3T (X:Cx)(a:Scope)(cl:List (Str×Addr))(C:Addr):Value->Shared->Prop:=notedBy (model X.prog X.w) X.A (compEnvC a cl C X.env) λe b=>
 ∃m,b.heap.Ns C m/\∀h',Heap.SameBut C b.heap h'->∀cenv:Env,cenv.locals=C->wpAny (model X.prog X.w) X.A (PySem.passOn "comprehension.variables-let-go" e cenv:Sem Value) (λ_ _=>False) X.xe { b with heap:=h' }
noncomputable def eU (X:Cx)(a:Scope)(cl:List (Str×Addr))(x:Str)(ix:List Nat)(C:Addr)(b:List Addr)(s₀:Shared)(H₀:Hp):Cx:=
 { X with N:=x::rC X.N ix,s₀:=s₀,H₀:=H₀,env:=compEnvC a cl C X.env,outer:=X.stack,ex:=b,fn:=λ_=>false,pn:=[],xe:=b3T X a cl C }
structure fZ (X:Cx)(scope:Scope)(cl:List (Str×Addr))(x:Str)(ix:List Nat):Prop where
 clos:closureFor scope X.env=pure cl
 kind:scope.kind= .function
 loc:scope.names.lookup x=some .local
 one:∀y∈scope.names,y.2= .local->y.1=x\/y.1=".0"
 locs:∀y∈scope.names,y.2= .local->scope.names.lookup y.1=some .local
 nocell:∀y∈scope.names,y.2≠ .cell
 free:∀y∈scope.names,y.2= .free->(X.env.kindOf y.1=some .cell\/X.env.kindOf y.1=some .free)
 cells:∀y∈scope.names,y.2= .free->∃c,cl.lookup y.1=some c
 same:∀y∈cl,X.env.cells.lookup y.1=some y.2
 nd:((".0":Str)::x::rC X.N ix).Nodup
theorem lookup_mem {α β:Type}[BEq α][LawfulBEq α]{a:α}{b:β}:∀{l:List (α×β)},l.lookup a=some b->(a,b)∈l
 |[],h=>by simp at h
 | (c,d)::r,h=>by
  rw[XA]at h;cases e:a == c with
  | true=>
   rw[e]at h;cases h;rw[eq_of_beq e];exact Yt
  | false=>
   rw[e]at h;exact Yp _ (lookup_mem h)
def iR {k:NameKind}(h:(relabel scope env).names.lookup y=some k):∃k0,scope.names.lookup y=some k0/\(k=k0\/(k0= .free/\k= .cell)):=by
  have b :∀(a:List (Str×NameKind)),(a.map λ(n,k)=>if (k == NameKind.free && env.scope.kind == .function && env.kindOf n == some .cell) then (n,NameKind.cell) else (n,k)).lookup y=some k->
      ∃k0,a.lookup y=some k0/\(k=k0\/(k0= .free/\k= .cell)):=by
    intro a;induction a with
    |nil=>intro h;simp at h
    | cons p r ih=>
      obtain⟨n,c⟩:=p;intro h;rw[Yz]at h;dsimp only at h;cases hc:(c == NameKind.free && env.scope.kind == .function && env.kindOf n == some .cell) with
      | true=>
        rw[hc,if_pos rfl,XA]at h;rw[XA];cases e:y == n with
        | true=>
          rw[e]at h;cases h;simp only[XJ]at hc;exact⟨c,rfl,.inr ⟨eq_of_beq hc.1.1,rfl⟩⟩
        | false=>
          rw[e]at h;exact ih h
      | false=>
        rw[hc,if_neg Ys,XA]at h;rw[XA];cases e:y == n with
        | true=>
          rw[e]at h;cases h;exact⟨k,rfl,.inl rfl⟩
        | false=>
          rw[e]at h;exact ih h
  exact b scope.names h
section
variable {cl:List (Str×Addr)}{x:Str}{C:Addr}{fp:List Addr}
def fZ.look (S:fZ X scope cl x ix){c:Addr}(h:cl.lookup y=some c):X.env.cells.lookup y=some c:=S.same _ (lookup_mem h)
theorem fZ.ok (S:fZ X scope cl x ix){pins:List (Addr×Obj)}{σ:St}{H:Hp}(I:Inv X pins σ H s)(hf:∀b∈fp,rK X pins H b)(hfl:∀b∈fp,b<s.heap.objs.size)(hC:s.heap.objs.size<=C):
  (eU X scope cl x ix C fp s H).Ok where
 mod:=I.ok.mod
 kind:=S.kind
 glob:=I.ok.glob
 blt:=I.ok.blt
 above:=hC
 inj:=λy z c h1 h2=>I.ok.inj y z c (S.look h1) (S.look h2)
 has := λy h=>by
  have h':=h;have fr:scope.names.lookup y=some .free:=by
   rcases h' with h' | h'
   ·obtain⟨k0,e,q | q⟩:=iR h'
    ·exact absurd rfl (q▸S.nocell _ (lookup_mem e))
    ·rw[e,q.1]
   ·obtain⟨k0,e,q | q⟩:=iR h'
    ·rw[e,<-q]
    ·cases q.2
  exact S.cells _ (lookup_mem fr) rfl
 cab:=λy c h=>absurd h Ys
 hd:=I.ok.hd
 frames:=I.ok.frames
 stk:= .inl rfl
 exf:=λb hb=>⟨YQ (Yl (hfl b hb) hC),λy c e=>(hf b hb).2.2.2.2.1 y c (S.look e)⟩
 bs:=I.bs
 bsz:=YK I.ok.bsz I.sz
 noex:=λb o e hb=>by
  rcases (hf b hb).2.2.2.1 with z | z
  ·exact I.ok.noex b o e z
  ·exact absurd (Yl (Yx e) (YK I.ok.bsz z)) (Y1 _)
 exfs:=λb hb z=>by
  rcases YL.mp (I.stkSub b z) with e | e
  ·exact(hf b hb).2.1 e
  ·exact(hf b hb).2.2.1 e
 funs:=I.stack
 frf:=I.stkFree
def a9H {N:List Str}{j:Nat}(h:(rC N ix)[j]? =some y):∃i,ix[j]? =some i/\y=N.getD i "":=by
 unfold rC at h;grind
def a9G {σ:St}{j:Nat}{v:V}(h:(mY σ ix)[j]? =some (some v)):∃i,ix[j]? =some i/\σ[i]? =some (some v):=by
 unfold mY at h;grind
theorem fZ.inv (S:fZ X scope cl x ix){pins:List (Addr×Obj)}{σ:St}{H:Hp}{s s1:Shared}{m:Str->Option Value}(I:Inv X pins σ H s)(hf:∀b∈fp,rK X pins H b)(hfl:∀b∈fp,b<s.heap.objs.size)
  (hC:s.heap.objs.size<=C) (os:s1.os=s.os) (bare:AllBare s1.gens) (k:∀b o,s.heap.get? b=some o->s1.heap.get? b=some o) (hn:s1.heap.Ns C m) :
  Inv (eU X scope cl x ix C fp s H) [] (none::mY σ ix) H s1 where
 ok:=S.ok I hf hfl hC
 os:=os
 bare:=bare
 base:=Un.kept k
 loc := ⟨m, hn,λi y v h1 h2 h3=>by
  cases i with
  |zero=>cases (show none=some v from Yu h2)
  | succ j =>
   obtain⟨i,e1,e2⟩:=a9H (N:=X.N) (show (rC X.N ix)[j]? =some y from h1);obtain⟨i',e1',e3⟩:=a9G (σ:=σ) (show (mY σ ix)[j]? =some (some v) from h2);rw[e1]at e1';cases e1';have hi:i<X.N.length:=by rw[<-I.len];exact(Ye.mp e3).1
   have hy:X.N[i]? =some y:=by rw[e2,Yj,Yd hi];rfl
   have ne:y≠x:=by
    rintro rfl;have nd:=(YV.mp S.nd).2;exact(YV.mp nd).1 (YF (show (rC X.N ix)[j]? =some y from h1))
   have fr :scope.names.lookup y=some .free/\((relabel scope X.env).names.lookup y=some .cell\/(relabel scope X.env).names.lookup y=some .free):=by
    rcases h3 with z | z | z
    ·obtain⟨k0,e,q | q⟩:=iR z
     ·rcases S.one _ (lookup_mem e) q.symm with z | z
      ·exact absurd z ne
      ·have z':y=".0":=z;exact absurd (Yp _ (YF (show (rC X.N ix)[j]? =some y from h1))) (z'▸(YV.mp S.nd).1)
     ·cases q.2
    ·obtain⟨k0,e,q | q⟩:=iR z
     ·exact absurd rfl (q▸S.nocell _ (lookup_mem e))
     ·exact⟨by rw[e,q.1],.inl z⟩
    ·obtain⟨k0,e,q | q⟩:=iR z
     ·exact⟨by rw[e,<-q],.inr z⟩
     ·cases q.2
   have vis:=S.free _ (lookup_mem fr.1) rfl;obtain⟨m0,_,l0⟩:=I.loc;obtain⟨u,r,l⟩:=l0 i y v hy e3 (vis.elim (λz=> .inr (.inl z)) λz=> .inr (.inr z));refine⟨u,r,.inr ⟨fr.2,?_⟩⟩;rcases l with ⟨k1,_⟩ | ⟨_,c,ec,oc,hoc,hd⟩
   ·lia
   ·obtain⟨c',e'⟩:=S.cells _ (lookup_mem fr.1) rfl;have:some c'=some c:=(S.look e').symm.trans ec;cases this
    exact⟨c,e',oc,k _ _ hoc,hd⟩⟩
 cell:=λy c e=>by
  obtain⟨v,oc,hoc,hd⟩:=I.cell y c (S.look e);exact⟨v,oc,k _ _ hoc,hd⟩
 free:=I.hok.fresh hC
 freeC:=λy c e=>I.freeC y c (S.look e)
 pin:=λp hp=>absurd (show p∈([]:List (Addr×Obj)) from hp) (by simp)
 hok:=I.hok.kept k
 len:=by show (none::mY σ ix).length=(x::rC X.N ix).length;simp[mY,rC]
end
def PTs (X:Cx)(a:List Expr)(t:TT):Prop:=
 ∀ (pins:List (Addr×Obj))(s:Shared)(σ:St)(H:Hp)(Q:Bool->Hp->Prop),Inv X pins σ H s->t σ H Q->
  wpAny (model X.prog X.w) X.A (forIn a true λc r=>if r=true then do let ok<-isTrue c X.env (eval c X.env);pure (ForInStep.yield ok) else pure (ForInStep.yield r)) (TP X pins σ Q) X.xe s
def c6Q:TT:=λ_ H Q=>Q true H
def cY:PTs X [] c6Q:=λ_ _ _ H _ I h=>wpAny_tests_nil ⟨H,I,h⟩
section
variable {prog:Program}{w:World}{A:Around}{R:Result->Shared->Prop}
theorem yR {elt target iter:Expr}{ifs:List Expr}{scope:Scope}{pos:Pos}{it acc:Value}{env:Env}(I:Nat->Shared->Prop)
    (turn : ∀ n s,I n s->wpAny (model prog w) A (pyNext it) (λr s₁=>match r with
      |none=>R (.ok .next) s₁
      | some v =>wpAny (model prog w) A (letOwnedTupleGo target it v) (λ_ s₀=>wpAny (model prog w) A (assign target env v) (λ_ s₂=>
          wpAny (model prog w) A (forIn ifs true λc r=>if r=true then do let ok<-isTrue c env (eval c env);pure (ForInStep.yield ok) else pure (ForInStep.yield r)) (λok s₃=>
            if ok=true then wpAny (model prog w) A (eval elt env) (λx s₄=>
              wpAny (model prog w) A (call (.builtin "list.append") [acc,x]) (λ_ s₅=>∃m,m<n/\I m s₅) (notedBy (model prog w) A env λe s'=>R (.error e) s') s₄) (notedBy (model prog w) A env λe s'=>R (.error e) s') s₃
            else ∃m,m<n/\I m s₃) (notedBy (model prog w) A env λe s'=>R (.error e) s') s₂) (notedBy (model prog w) A env λe s'=>R (.error e) s') s₀) (notedBy (model prog w) A env λe s'=>R (.error e) s') s₁) (notedBy (model prog w) A env λe s'=>R (.error e) s') s)
    (n:Nat) (h:I n s) :
    codeAny (model prog w) A (.compLoop (.ListComp elt [⟨target,iter,ifs,0⟩] scope pos) 0 it acc env) R s:=by
  refine codeAny_loop rfl I (λn s hI=>wpAny_noted (YZ (wpAny_standAt (YZ (Y4 (turn n s hI) (λr s₁ h₁=>?_) λ_ _ h'=>h'))))) n h;cases r with
  |none=>exact Xd h₁
  | some v=>
    refine YZ (Y4 h₁ (λ_ s₀ h₀=>YZ (Y4 h₀ (λ_ s₂ h₂=>YZ (Y4 h₂ (λok s₃ h₃=>?_) λ_ _ h'=>h')) λ_ _ h'=>h')) λ_ _ h'=>h');cases ok with
    |false=>exact Xd ⟨rfl,h₃⟩
    | true=>
      exact YZ (YZ (Y4 h₃ (λx s₄ h₄=>YZ (Y4 h₄ (λ_ s₅ h₅=>Xd (Xd ⟨rfl,h₅⟩)) λ_ _ h'=>h')) λ_ _ h'=>h'))
end
def qZ (J:It)(d:TT)(e:TE)(a:V->St)(f:Hp)(Q:VK):Prop:=∃W:Nat->Nat->List V->Hp->Prop,(∃m,W 0 m [] f)/\∀i m ys H,W i m ys H->ys.length<sizeLine/\
  ((J.stop i H/\∀p,H p=none->Q (.ref p) (upd H p (.lst ys)))\/
   (J.go i H/\∃N:List V->Hp->Prop,(∀ys' H',N ys' H'->∃m',m'<m/\W (i+1) m' ys' H')/\∀x H',J.yld i H x H'->d (a x) H' λb c=>if b=true then e (a x) c λy g=>N (ys++[y]) g else N ys c))
structure oZ (X:Cx)(C:Addr)(fp:List Addr)(s:Shared)(H:Hp):Prop where
 inv:∃pins σ,Inv X pins σ H s/\∀b∈fp,rK X pins H b
 low:∀b∈fp,b<s.heap.objs.size
 up:s.heap.objs.size<=C
def b7Z (ix:List Nat)(b:TI)(c:TT)(d:TE):TE:=λa H Q=>b a H λJ e=>qZ J c d (λx=>some x::mY a ix) e Q
section
variable {cl:List (Str×Addr)}{x:Str}{elt iter:Expr}{ifs:List Expr}{px:Pos}{wi:TI}{tt:TT}{te:TE}
theorem uM (S:fZ X scope cl x ix)(hc:X.calm=true)
    (ht:∀C fp s H,oZ X C fp s H->PTs (eU X scope cl x ix C fp s H) ifs tt) (he:∀C fp s H,oZ X C fp s H->PE (eU X scope cl x ix C fp s H) elt te)
    {pins:List (Addr×Obj)} {σ:St} {Q:VK} {itv:Value} {s2:Shared} {E:Value->Shared->Prop} {RR:Value->Addr->Result->Shared->Prop} (h2:PIE X pins σ (.Name x px) (λJ H1=>qZ J tt te (λx=>some x::mY σ ix) H1 Q) itv s2)
    (fin:∀(D C:Addr)(H:Hp)(s':Shared)(m:Str->Option Value),Inv X pins σ H s'->s'.heap.Ns C m->H C=none->s2.heap.objs.size<=C->(∀p∈X.pn++pins,p.1≠C)->X.env.locals≠C->(∀y c,X.env.cells.lookup y=some c->c≠C)->X.s₀.heap.objs.size<=C->Q (.ref D) H->RR (.ref D) C (.ok .next) s')
    (fex:∀(D C:Addr)(e:Value)(s':Shared),b3T X scope cl C e s'->notedBy (model X.prog X.w) X.A (compEnvC scope cl C X.env) (λe s'=>RR (.ref D) C (.error e) s') e s') :
    wpAny (model X.prog X.w) X.A (newList []) (λacc s₃=>wpAny (model X.prog X.w) X.A (newFunctionEnv scope X.env.globals cl [] X.env.qual none .none (some X.env)) (λcenv s₄=>
      codeAny (model X.prog X.w) X.A (.compStart (.ListComp elt [⟨.Name x px,iter,ifs,0⟩] scope pos) 0 itv acc { cenv with scope:=relabel scope X.env }) (RR acc cenv.locals) s₄) E s₃) E s2:=by
  obtain⟨it,fp,tn,J,F,rfl,L,T,b4,f2,W,⟨m0,w0⟩,turn⟩:=h2;have M:∀b∈fp,b<s2.heap.objs.size:=λb a=>by
    obtain⟨o,e,_⟩:=T.obj _ _ b4 b a;exact Yx e
  refine wpAny_newObj_type (wpAny_newFunctionEnv S.nocell (by intro y hy;simp at hy) (λG t k=>?_) S.kind);dsimp only at t k ⊢;generalize hH2:s2.heap.push { cls:= .type "list",dict:=none,data:= .seq ([]:List Value).toArray }=G2 at t k ⊢;have hC:G2.objs.size=s2.heap.objs.size+1:=by rw[<-hH2,Heap.size_push]
  have R:s2.heap.objs.size≠G2.objs.size:=by rw[hC];exact YQ (Xr _)
  have l:s2.heap.objs.size<=G2.objs.size:=by rw[hC];exact XZ _
  have f:∀b,b<s2.heap.objs.size->b≠G2.objs.size/\b≠s2.heap.objs.size:=λb a=>⟨by rw[hC];exact YQ (Nat.lt_succ_of_lt a),YQ a⟩
  have at0:oZ X G2.objs.size fp s2 F:=⟨⟨pins,σ,L,f2⟩,M,l⟩
  have old:∀b o,s2.heap.get? b=some o->G.get? b=some o:=λb o e=>k.extBut b o (f b (Yx e)).1 (Yq _ (hH2▸Yq _ e));have b5:G.get? s2.heap.objs.size=some { cls:= .type "list",data:= .seq ([]:List Value).toArray 0 }:=k.extBut _ _ R (Yq _ (hH2▸YD _ rfl));have b6:tn 0 G:=T.keep _ _ _ b4 λb _ o e=>old b o e;have a7:∀{H':Hp},(∀b∈fp,H' b=none)->∀b∈fp,rK (eU X scope cl x ix G2.objs.size fp s2 F) [] H' b:=λhn b a=>
    ⟨hn b a,(f b (M b a)).1,λz=>by
      rcases YL.mp (L.stkSub b z) with e | e
      · exact(f2 b a).2.1 e
      · exact(f2 b a).2.2.1 e,.inl a,λy c e=>(f2 b a).2.2.2.2.1 y c (S.look e),λp I=>absurd (show p∈([]:List (Addr×Obj)) from I) (by simp)⟩
  have I3:∀s₃:Shared,s₃={ s2 with heap:=G,toks:=s2.toks+([]:List (Str×Value)).length }->Inv (eU X scope cl x ix G2.objs.size fp s2 F) [] (none::mY σ ix) F s₃:=λs₃ e=>by
    subst e;exact S.inv L f2 M l rfl L.bare old t
  let Acc:List V->Heap->Prop:=λU h=>∃g n,Vals U g/\h.get? s2.heap.objs.size=some { cls:= .type "list",data:= .seq g.toArray n };have a8 :∀s₃:Shared,s₃={ s2 with heap:=G,toks:=s2.toks+([]:List (Str×Value)).length }->
      codeAny (model X.prog X.w) X.A (.compLoop (.ListComp elt [⟨.Name x px,iter,ifs,0⟩] scope pos) 0 (.ref it) (.ref s2.heap.objs.size) (compEnvC scope cl G2.objs.size X.env)) (RR (.ref s2.heap.objs.size) G2.objs.size) s₃:=by
    intro s₃ Y;refine yR (λn s'=>∃i U H',Inv (eU X scope cl x ix G2.objs.size fp s2 F) [] (none::mY σ ix) H' s'/\H' s2.heap.objs.size=none/\Acc U s'.heap/\tn i s'.heap/\(∀b∈fp,H' b=none)/\W i n U H') ?_ m0
      ⟨0, [],F,I3 s₃ Y,L.hok.fresh (Yb _),⟨[],0,.nil,by rw[Y];exact b5⟩,by rw[Y];exact b6,λb a=>(f2 b a).1,w0⟩
    rintro n s4 ⟨i,U,H4,I4,a0,⟨g,kk,rv,eD⟩,b7,b9,w4⟩;obtain⟨hsz,q4⟩:=turn i n U H4 w4;have d3:=rv.length;rcases q4 with ⟨c0,qn⟩ | ⟨go,N,hN,step⟩
    · refine Y4 (T.done (eU X scope cl x ix G2.objs.size fp s2 F) rfl rfl rfl hc i [(s2.heap.objs.size,{ cls:= .type "list",data:= .seq g.toArray kk })] s4 (none::mY σ ix) H4 (λ_ _=>False) ?_ ?_ b7 c0) (λr s5 ⟨hr,I5⟩=>?_) λ_ _ z=>z.elim
      · refine I4.pins_of λp I=>?_;rw[Yw.mp I]
        exact⟨eD,a0,R,λz=>by
          have:=Heap.FunFrames.mem L.stack z;obtain⟨_,o,ho,_⟩:=this
          exact Y1 _ (Yx ho),λv z=>by cases z⟩
      · intro b a;obtain⟨a1,a2,a3,a4,a5,_⟩:=a7 b9 b a
        exact⟨a1,a2,a3,a4,a5,λp I=>by
          rw[Yw.mp I]
          exact λz=>(f b (M b a)).2 z.symm⟩
      subst hr;have c5:=(I5.pin _ (by simp:(s2.heap.objs.size,({ cls:= .type "list",data:= .seq g.toArray kk }:Obj))∈(eU X scope cl x ix G2.objs.size fp s2 F).pn++[(s2.heap.objs.size,{ cls:= .type "list",data:= .seq g.toArray kk })])).1;have O:∀b u,H4 b=some u->b≠s2.heap.objs.size:=λb u e z=>by rw[z,a0]at e;cases e
      have c6:HOk X.prog X.w (upd H4 s2.heap.objs.size (.lst U)) s5.heap:=by
        intro b u e;by_cases a:b=s2.heap.objs.size
        · subst a;rw[aC]at e;cases e;exact⟨XF hsz,g,kk,rv,c5⟩
        · rw[aH a]at e;exact(I5.hok b u e).stay (λc v _ q=>q) (λc q=>by rw[aH (O c _ q)];exact q) λc xs q=>by rw[aH (O c _ q)];exact q
      have un:Un (frs X.stack) fp F (upd H4 s2.heap.objs.size (.lst U)) s2.heap s5.heap:=by
        have B:=I5.base
        exact⟨B.keep,B.slot,λb o e n hx=>by rw[aH (f b (Yx e)).2];exact B.free b o e n hx,B.there,
          λb xs e=>by rw[aH (O b _ (B.tups b xs e))];exact B.tups b xs e,λb o u e=>by rw[aH (O b _ (B.frzs b o u e))];exact B.frzs b o u e,
          λb ps e=>by
            obtain⟨mm,z⟩:=B.tbls b ps e
            exact⟨mm,by rw[aH (O b _ z)];exact z⟩⟩
      have J5:Inv X pins σ (upd H4 s2.heap.objs.size (.lst U)) s5:=L.call' (ch:=fp) I5.os un c6 I5.bare λb a=>⟨(f2 b a).2.2.2.1,(f2 b a).2.1,(f2 b a).2.2.2.2.1,(f2 b a).2.2.2.2.2⟩
      obtain⟨mC,c7,_⟩:=I5.loc;refine fin _ _ _ _ mC J5 c7 (by rw[aH (Va R)];exact I5.free) l (λp I z=>?_) (YQ (Yl L.lt l)) (λy c e z=>?_) (YK L.sz l) (qn _ a0)
      · exact absurd (Yl (Yx (L.pin p I).1) l) (by rw[z];exact Y1 _)
      · obtain⟨v,oc,b1,_⟩:=L.cell y c e;exact absurd (Yl (Yx b1) l) (by rw[z];exact Y1 _)
    · have c1:∀{pl:List (Addr×Obj)}{σ':St}{H':Hp}{s':Shared}{its':List Value}{k':Nat},Inv (eU X scope cl x ix G2.objs.size fp s2 F) pl σ' H' s'->s'.heap.get? s2.heap.objs.size=some { cls:= .type "list",data:= .seq its'.toArray k' }->H' s2.heap.objs.size=none->
          Inv (eU X scope cl x ix G2.objs.size fp s2 F) [(s2.heap.objs.size,{ cls:= .type "list",data:= .seq its'.toArray k' })] σ' H' s':=λI' e' n'=>I'.pins_of λp I=>by
        rw[Yw.mp I]
        exact⟨e',n',R,λz=>by
          obtain⟨_,o,ho,_⟩:=Heap.FunFrames.mem L.stack z
          exact Y1 _ (Yx ho),λv z=>by cases z⟩
      have Z:∀{H':Hp},(∀b∈fp,H' b=none)->∀b∈fp,rK (eU X scope cl x ix G2.objs.size fp s2 F) [(s2.heap.objs.size,{ cls:= .type "list",data:= .seq g.toArray kk })] H' b:=λhn b a=>by
        obtain⟨a1,a2,a3,a4,a5,_⟩:=a7 hn b a
        exact⟨a1,a2,a3,a4,a5,λp I=>by
          rw[Yw.mp I]
          exact λz=>(f b (M b a)).2 z.symm⟩
      refine Y4 (T.item (eU X scope cl x ix G2.objs.size fp s2 F) rfl rfl rfl hc i _ s4 _ H4 (λ_ _=>False) (c1 I4 eD a0) (Z b9) b7 go) (λr s5 K=>?_) λ_ _ z=>z.elim;obtain⟨u,hr,h5⟩:=K;subst hr;refine Y4 h5 (λ_ s6 K=>?_) λ_ _ z=>z.elim;obtain⟨y,H6,I6,r6,y6,b2,c8⟩:=K;have c9:=I6.pinned (Z c8) (T.obj _ _ b2);have c2:(relabel scope X.env).names.lookup x=some .local:=lookup_relabel_local S.loc;refine wpAny_assign_Name (pI (X:=eU X scope cl x ix G2.objs.size fp s2 F) (i:=0) c9 (YV.mp S.nd).2 rfl (.inl c2) r6 (λs7 I7=>?_) (.inr c2));have q7:=step y H6 y6;refine Y4 (ht _ _ _ _ at0 _ s7 (some y::mY σ ix) H6 _ I7 q7) (λok s8 K=>?_) λ_ _ z=>fex _ _ _ _ z;obtain⟨H8,I8,q8⟩:=K;have kept:∀{c3:St}{P:Hp}{s9:Shared},Inv (eU X scope cl x ix G2.objs.size fp s2 F) ([(s2.heap.objs.size,{ cls:= .type "list",data:= .seq g.toArray kk })]++tV fp s6.heap) c3 P s9->
          s9.heap.get? s2.heap.objs.size=some { cls:= .type "list",data:= .seq g.toArray kk }/\P s2.heap.objs.size=none/\tn (i+1) s9.heap/\∀b∈fp,P b=none:=λ{c3 P s9} I9=>by
        have p0:=I9.pin (s2.heap.objs.size,{ cls:= .type "list",data:= .seq g.toArray kk }) (YT _ (XG _ (Yw.mpr rfl)));refine⟨p0.1,p0.2.1,T.keep _ _ _ b2 λb a o e=>(I9.pin (b,o) (YT _ (YT _ (mF a e)))).1,λb a=>?_⟩;obtain⟨o,e,d⟩:=T.obj _ _ b2 b a;exact(I9.pin (b,o) (YT _ (YT _ (mF a e)))).2.1
      have a9:∀{pl:List (Addr×Obj)}{P:Hp}{s9:Shared},Inv (eU X scope cl x ix G2.objs.size fp s2 F) pl (some y::mY σ ix) P s9->Inv (eU X scope cl x ix G2.objs.size fp s2 F) [] (none::mY σ ix) P s9:=λ{pl P s9} I9=>
        (I9.weak (σ':=none::mY σ ix) rfl λj v e=>by
          cases j with
          |zero=>cases (show none=some v from Yu e)
          |succ j=>exact e).pins_of λp I=>nomatch I
      cases ok with
      | true=>
        rw[if_pos rfl]at q8 ⊢;refine Y4 (he _ _ _ _ at0 _ s8 (some y::mY σ ix) H8 _ I8 q8) (λyv s9 K=>?_) λ_ _ z=>fex _ _ _ _ z;obtain⟨yy,P,I9,r9,n9⟩:=K;obtain⟨m',b3,w9⟩:=hN _ _ n9;obtain⟨kD,kn,kt,kf⟩:=kept I9;refine append_at (hsz:=by rw[YE];lia) kD λd0 b0 c4=>?_;have O:∀b u,P b=some u->b≠s2.heap.objs.size:=λb u e z=>by rw[z,kn]at e;cases e
        have d1:=a9 I9;have a6:∀y c,cl.lookup y=some c->c≠s2.heap.objs.size:=λy c e z=>by
          obtain⟨v,oc,b1,_⟩:=L.cell y c (S.look e);exact absurd (Yx b1) (by rw[z];exact Y1 _)
        have d2:Inv (eU X scope cl x ix G2.objs.size fp s2 F) [] (none::mY σ ix) P { s9 with heap:=d0 }:=d1.turned (t':=s9.toks) (it:=s2.heap.objs.size) (λb o a e=>b0.extBut b o a e) kn R (.inr (Yb _)) a6 λp I=>absurd (show p∈([]:List (Addr×Obj)) from I) (by simp);refine⟨m',b3,i+1,U++[yy],P,d2,kn,⟨g++[yv],kk+1,rv.append (.cons r9 .nil),?_⟩,T.keep _ _ _ kt λb a o e=>b0.extBut b o (f b (M b a)).2 e,kf,w9⟩;refine c4.trans (YJ some ?_);simp
      | false=>
        rw[if_neg Ys]at q8 ⊢;obtain⟨m',b3,w9⟩:=hN _ _ q8;obtain⟨kD,kn,kt,kf⟩:=kept I8;exact⟨m',b3,i+1,U,H8,a9 I8,kn,⟨g,kk,rv,kD⟩,kt,kf,w9⟩
  exact codeAny_compStart_list (a8 _ rfl) (T.self _ 0 _ _ _ b6 (a8 _ rfl))
noncomputable def cZ (env:Env):List (Str×NameKind)->List (Str×Addr)->List (Str×Addr)
 |[],cs=>cs
 |(n,k)::r,cs=>cZ env r (if k == .free then (n,(env.cells.lookup n).getD 0)::cs else cs)
theorem yS:∀(names:List (Str×NameKind))(cs:List (Str×Addr)),(∀y∈names,y.2= .free->∃c,env.cells.lookup y.1=some c)->
  (forIn names cs λ(p:Str×NameKind) (r:List (Str×Addr))=>match p with | (name,kind)=>if (kind == .free)=true then do let c<-cellOf env name;pure (ForInStep.yield ((name,c)::r)) else pure (ForInStep.yield r):Sem (List (Str×Addr)))=pure (cZ env names cs)
 |[],cs,_=>rfl
 | (n, k)::r,cs,h=>by
  rw[List.forIn_cons];cases hk:k == NameKind.free with
  | true=>
   obtain⟨c,hc⟩:=h (n,k) Yt (eq_of_beq hk);have e1:cellOf env n=pure c:=by unfold cellOf;rw[hc]
   have e2:cZ env ((n,k)::r) cs=cZ env r ((n,c)::cs):=by
    show cZ env r (if (k == .free)=true then (n,(env.cells.lookup n).getD 0)::cs else cs)=_;rw[hk,if_pos rfl,hc];rfl
   rw[e2,<-yS r ((n,c)::cs) λy hy=>h y (Yp _ hy)];dsimp only;rw[if_pos hk,e1];rfl
  | false=>
   have e2:cZ env ((n,k)::r) cs=cZ env r cs:=by
    show cZ env r (if (k == .free)=true then (n,(env.cells.lookup n).getD 0)::cs else cs)=_;rw[hk,if_neg Ys]
   rw[e2,<-yS r cs λy hy=>h y (Yp _ hy)];dsimp only;rw[if_neg (by rw[hk];exact Ys)];rfl
theorem pY {y:Str×Addr}:∀(names:List (Str×NameKind))(cs:List (Str×Addr)),y∈cZ env names cs->y∈cs\/∃k∈names,k.2= .free/\k.1=y.1/\y.2=(env.cells.lookup y.1).getD 0
 |[],cs,h=> .inl h
 | (n, k)::r,cs,h=>by
  rcases pY r _ h with z | ⟨p,hp,e⟩
  ·cases hk:k == NameKind.free with
   | true=>
    rw[hk,if_pos rfl]at z;rcases YL.mp z with z | z
    ·exact .inr ⟨(n,k),Yt,eq_of_beq hk,by rw[z],by rw[z]⟩
    ·exact .inl z
   | false=>
    rw[hk,if_neg Ys]at z;exact .inl z
  ·exact .inr ⟨p,Yp _ hp,e⟩
theorem kW {c:Addr}:∀{l:List (Str×Addr)},(y,c)∈l->∃d,l.lookup y=some d
 |[],h=>by simp at h
 | (n, d)::r,h=>by
  rw[XA];cases e:y == n with
  |true=>exact⟨d,rfl⟩
  | false=>
   rcases YL.mp h with z | z
   ·have:y=n:=(Prod.mk.inj z).1;rw[this,beq_self_eq_true]at e;cases e
   ·exact kW z
theorem pM:∀(names:List (Str×NameKind))(cs:List (Str×Addr)),((y,NameKind.free)∈names\/∃c,(y,c)∈cs)->∃c,(y,c)∈cZ env names cs
 | [],cs,h=>by
  rcases h with h | h
  ·simp at h
  ·exact h
 | (n, k)::r,cs,h=>by
  refine pM r _ ?_;rcases h with h | ⟨c,h⟩
  ·rcases YL.mp h with z | z
   ·obtain⟨e1,e2⟩:=Prod.mk.inj z;subst e1 e2;exact .inr ⟨(env.cells.lookup y).getD 0,by rw[if_pos (beq_self_eq_true _)];exact Yt⟩
   ·exact .inl z
  ·refine .inr ⟨c,?_⟩;split
   ·exact Yp _ h
   ·exact h
def a3U (a:Scope)(env:Env)(x:Str):Bool:=a.names.all λy=>(y.2 != .local || ((y.1 == x || y.1 == ".0") && a.names.lookup y.1 == some .local)) && y.2 != .cell && (y.2 != .free || env.kindOf y.1 == some .cell || env.kindOf y.1 == some .free)
def pX (ok:X.Ok)(g:scope.kind= .function)(h:scope.names.lookup x=some .local)(d:a3U scope X.env x=true)(i:((".0":Str)::x::rC X.N ix).Nodup):fZ X scope (cZ X.env scope.names []) x ix:=by
 have all:∀y∈scope.names,(y.2= .local->(y.1=x\/y.1=".0")/\scope.names.lookup y.1=some .local)/\y.2≠ .cell/\(y.2= .free->(X.env.kindOf y.1=some .cell\/X.env.kindOf y.1=some .free)):=λy a=>by
  have z:=Xc.mp d y a;lia
 have b:=λy a e=>ok.has y.1 ((all y a).2.2 e);refine⟨?_,g,h,λy a e=>((all y a).1 e).1,λy a e=>((all y a).1 e).2,λy a=>(all y a).2.1,λy a=>(all y a).2.2,λy a e=>?_,λy a=>?_,i⟩
 ·have q:=yS scope.names [] b;unfold closureFor;grind
 ·obtain⟨n,k⟩:=y;subst e;obtain⟨c,f⟩:=pM scope.names [] (.inl a);exact kW f
 ·rcases pY scope.names [] a with z | ⟨p,o,s,t,u⟩
  ·simp at z
  grind
theorem fB (k:X.calm=true)(l:PI X (.Name x px) iter wi)(n:∀C fp s H,oZ X C fp s H->PTs (eU X scope (cZ X.env scope.names []) x ix C fp s H) ifs tt)(p:∀C fp s H,oZ X C fp s H->PE (eU X scope (cZ X.env scope.names []) x ix C fp s H) elt te)
  (r:scope.kind= .function) (t:scope.names.lookup x=some .local) (a:a3U scope X.env x=true) (u:((".0":Str)::x::rC X.N ix).Nodup)
  (w:∀x,foldedSetIterable iter X.env x=pure x:=by intro _;rfl):PE X (.ListComp elt [⟨.Name x px,iter,ifs,0⟩] scope pos) (b7Z ix wi tt te):=by
 intro c s y H Q I h;have S:fZ X scope (cZ X.env scope.names []) x ix:=pX I.ok r t a u;rw[eval_ListComp];refine wpAny_comprehension_free (use:=none) rfl w S.clos S.kind S.locs (thn (l c s y H _ I h) λv P A=>thn A λB R E=>?_);refine uM S k n p E (λD C F i m J G d j K L f g q=>?_) λD C e i z=>z;exact⟨m,G,λT M=>⟨.ref D,F,J.turned (t':=i.toks) (λb o O e=>M.extBut b o O e) d (Va L) (.inr g) f K,rfl,q⟩⟩
theorem kO {j:Nat}{y:Str}{f c:Pos}(K:X.N.Nodup)(L:X.N[j]? =some y)(E:X.env.scope.names.lookup y=some .local)(M:X.calm=true)(O:PI X (.Name x px) iter wi)
  (P:∀C fp s H,oZ X C fp s H->PTs (eU X scope (cZ X.env scope.names []) x ix C fp s H) ifs tt) (R:∀C fp s H,oZ X C fp s H->PE (eU X scope (cZ X.env scope.names []) x ix C fp s H) elt te)
  (T:scope.kind= .function) (U:scope.names.lookup x=some .local) (g:a3U scope X.env x=true) (V:((".0":Str)::x::rC X.N ix).Nodup)
  (n:swapsWith (.ListComp elt [⟨.Name x px,iter,ifs,0⟩] scope pos) (some (.Name y f)) c.line X.env=pure true:=by rfl) (W:∀x,foldedSetIterable iter X.env x=pure x:=by intro _;rfl) :
  PS X (.Assign [.Name y f] (.ListComp elt [⟨.Name x px,iter,ifs,0⟩] scope pos) c) (b9J (b7Z ix wi tt te) (wF j)):=by
 intro d s p H D I h;have S:=pX I.ok T U g V;rw[exec_Assign_Name_used _ _ _ _ n];refine YZ (wpAny_standAt (YZ ?_))
 refine YZ (Y4 (wpAny_comprehension_free rfl W S.clos S.kind S.locs
  (thn (O d s p H _ I h) λv s1 Y=>thn Y λZ s2 h2=>uM S M P R h2 (λl C H' k m J hn r F hp G i t q=>wpAny_assign_Name (vM J K L (.inl E) (v:= .ref l) rfl (λu J' w=>?_) (.inr E))) λl C e k z=>z)) (λ_ k hq=>Xd (Xd hq)) λ_ _ e=>e);obtain⟨a,sb,ha⟩:=w;have A:C≠a:=by
  grind
 exact⟨m,hn.sameBut sb A,λh' B=>⟨p.set j (some (.ref l)),H',J'.turned (λb o hb e=>B.extBut b o hb e) r (Va G) (.inr t) i hp,q⟩⟩
end
theorem gJ {lo:Int}{n:Nat}{d:TT}{f:TE}{c:V->St}{H:Hp}{Q:VK}(a:Nat->List V->Hp->Prop)(g:∀i ys H,i<=n->a i ys H->ys.length<sizeLine)(h:a 0 [] H)
  (j:∀i ys H,i<n->a i ys H->d (c (.int (lo+i))) H λb H3=>if b=true then f (c (.int (lo+i))) H3 λy H4=>a (i+1) (ys++[y]) H4 else a (i+1) ys H3)
  (hd:∀ys H,a n ys H->∀p,H p=none->Q (.ref p) (upd H p (.lst ys))):qZ (Itr lo n) d f c H Q:=by
 refine⟨λi m ys H=>m=n-i/\i<=n/\a i ys H,⟨n,by simp,YW _,h⟩,?_⟩;rintro i m ys H ⟨rfl,k,p⟩;refine⟨g i ys H k p,?_⟩;by_cases hlt:i<n
 ·refine .inr ⟨hlt,a (i+1),λl o q=>⟨n-(i+1),by lia,rfl,hlt,q⟩,λx o y=>?_⟩;obtain⟨e,y⟩:=y;grind
 ·have e:i=n:=by lia
  subst e;exact .inl ⟨Yb _,hd ys H p⟩
theorem dX {K:W.Frag}{a:Addr}{xs:List V}{f:TT}{g:TE}{d:V->St}{H:Hp}{Q:VK}(c:Nat->List V->Hp->Prop)(j:∀i ys H,i<=xs.length->c i ys H->ys.length<sizeLine)(k:c 0 [] H)
  (l:∀i ys H,i<=xs.length->c i ys H->SqL K H a xs)
  (n:∀i x ys H,xs[i]? =some x->c i ys H->f (d x) H λb H3=>if b=true then g (d x) H3 λy H4=>c (i+1) (ys++[y]) H4 else c (i+1) ys H3)
  (hd:∀ys H,c xs.length ys H->∀p,H p=none->Q (.ref p) (upd H p (.lst ys))):qZ (Itl K a) f g d H Q:=by
 refine⟨λi m ys H=>m=xs.length-i/\i<=xs.length/\c i ys H,⟨xs.length,by simp,YW _,k⟩,?_⟩;rintro i m ys H ⟨rfl,h,p⟩;have q:=l i ys H h p;refine⟨j i ys H h p,?_⟩;by_cases hlt:i<xs.length
 ·refine .inr ⟨⟨xs,xs[i],q,by simp[hlt]⟩,c (i+1),λo r q=>⟨xs.length-(i+1),by lia,rfl,hlt,q⟩,λx r y=>?_⟩;obtain⟨e,y⟩:=y;grind
 ·have e:i=xs.length:=by lia
  subst e;exact .inl ⟨⟨xs,q,Yb _⟩,hd ys H p⟩
end L2
namespace L2
open PySem PySem.Spec PyProof.Rows PySem.W PySem.Builtin PySem.Builtin.ObjectAttr PySem.Builtin.Getset_descriptor
section
variable {prog:Program}{w:World}{A:Around}{E:Value->Shared->Prop}{K:W.Frag}{a C:Addr}
end
section
variable {X:Cx}
end
section
variable {prog:Program}{w:World}{A:Around}{E:Value->Shared->Prop}{K:W.Frag}{a C dx:Addr}{f:Str}
end
section
variable {X:Cx}{f:Str}{pos pos':Pos}{e o value:Expr}{ta tv:TE}
end
end L2
namespace L2
open PySem PySem.Spec PyProof.Rows
section
variable {X:Cx}{pins:List (Addr×Obj)}{σ:St}{H:Hp}{s:Shared}
end
section
variable {X:Cx}
def c7S (K:W.Frag):R2:=λx y H Q=>vR x λa=>vR y λb=>∃ns ms:List Int,SqL K H a (ns.map V.int)/\SqL K H b (ms.map V.int)/\Q (.bl (decide (ns=ms))) H
def c3E (f:X.A.units+64<cLine):OpR X (compareOp .Eq) (c7S X.K):=by
 intro e s p H x y v u Q I g i h;obtain⟨a,rfl,j⟩:=vR.ex h;obtain⟨b,rfl,r,t,k,l,q⟩:=vR.ex j;cases g;cases i;obtain⟨m,n,pl,_⟩:=I.list k;obtain⟨o,c,d,_⟩:=I.list l;exact W.eq_intsK pl.isList (intsAre_of n) d.isList (intsAre_of c) f ⟨.bl _,H,I,rfl,q⟩
end
section
variable {X:Cx}
def a3L {a:List Value}{ns:List Int}(b:IntsAre a ns):∃xs:Array (Int×Tok),a.toArray=intItems xs/\ns=xs.toList.map (·.1):=by
 obtain⟨xs,c⟩:=b.allInts.items;refine⟨xs,c,?_⟩;rw[<-nums_intItems,<-c];exact(b.numsOf).symm
def c4Z (K:W.Frag)(lt:Int->Int->Prop):List V->Hp->VK->Prop:=λxs H Q=>l1 xs λx=>vR x λp=>∃ns:List Int,SqL K H p (ns.map V.int)/\ns≠ []/\∀m,m∈ns->(∀z∈ns,lt m z)->Q (.int m) H
def b8Q (i:X.calm=true):gR X (.builtin "min") (c4Z X.K (·<= ·)):=by
 intro e s D H xs E Q I r h;obtain⟨x,rfl,h⟩:=l1.ex h;obtain⟨p,rfl,k,l,b,q⟩:=vR.ex h;obtain⟨u,rfl,m⟩:=vals1 r;cases m;obtain⟨n,o,pl,_⟩:=I.list l;obtain⟨zs,w,c⟩:=a3L (intsAre_of o);have y:s.heap.IsList p (intItems zs):=w▸pl.isList;have d:0<zs.size:=by
  have f:0<k.length:=X5.mpr b;rw[c,Ya,XI]at f;exact f
 refine min_intList (I.ok.hd i) y d λv F G z A=>?_;obtain⟨t,rfl⟩:=intItems_at z;obtain⟨J,B⟩:=argBest_lt (numAt zs) (zs.size-1);refine⟨.int _,H,I.kept A,⟨_,rfl⟩,q _ ?_ λa g=>?_⟩
 ·rw[c,numAt_eq];exact getD_mem (by rw[Ya,XI];lia)
 ·rw[c]at g;obtain⟨j,C,rfl⟩:=mem_getD g;rw[Ya,XI]at C;rw[<-numAt_eq];exact B j (by lia)
def c7T:R2:=λx y H Q=>vR x λl=>vR y λb=>∃xs zs,H l=some (.lst xs)/\H b=some (.lst zs)/\xs.length+zs.length<=sizeLine/\∀p,H p=none->Q (.ref p) (upd H p (.lst (xs++zs)))
def pC:OpR X (binaryOp .Add) c7T:=c1F.imp λx y H Q h=>by
 obtain⟨l,rfl,a⟩:=vR.ex h;obtain⟨b,rfl,xs,zs,c,d,e,f⟩:=vR.ex a;exact⟨l,b,xs,zs,rfl,rfl,c,d,e,f⟩
end
variable {w:World}{K:W.Frag}{tg:Expr}{X:Cx}{s:Shared}
def b7G {bs:List Int}{a n:Nat}(h:a+n<=bs.length):jN (bs.map V.int) (some (a:Int)) (some ((a+n:Nat):Int))=((bs.drop a).take n).map V.int:=by
 unfold jN;rw[HT.sIx_nat,HT.sIx_nat,Ya,Xp (by lia),Xp (by lia),Nat.add_sub_cancel_left,List.map_take,List.map_drop]
def a1S {bs:List Int}{a:Nat}(h:a<=bs.length):jN (bs.map V.int) (some (a:Int)) none=(bs.drop a).map V.int:=by
 unfold jN;rw[HT.sIx_nat,Ya,Xp h,List.map_drop,Yg];rw[Xl,Ya];exact Yb _
def b3Q (bs:List Int)(a:Nat):jN (bs.map V.int) none (some (a:Int))=(bs.take a).map V.int:=by
 unfold jN;rw[HT.sIx_nat,HT.sIx_none,List.drop_zero,Nat.sub_zero,List.map_take,Ya];by_cases h:a<=bs.length
 ·rw[Xp h]
 ·rw[Nat.min_eq_right (by lia),Yg (by rw[Ya];exact Yb _),Yg (by rw[Ya];lia)]
def l3 (vs:List V)(k:V->V->V->Prop):Prop:=@List.rec V (λ_=>Prop) False (λx r _=>l2 r λy z=>k x y z) vs
def l3.ex {vs:List V}{k:V->V->V->Prop}(h:l3 vs k):∃x y z,vs= [x,y,z]/\k x y z:=by
 match vs,h with
 |[x,y,z],h=>exact⟨x,y,z,rfl,h⟩
section
variable {a b c:Expr}{ta tb tc:TE}{pos:Pos}
def yQ (r c:R2)(d e tc:TE):TE:=λa H Q=>d a H λx f=>e a f λy g=>r x y g λz b=>vB z λk=>if k=true then tc a b λu h=>c y u h Q else Q (.bl false) b
def wI (r a:R2)(b c tc:TE):yQ r a b c tc=xJ r a b c tc:=by
 unfold yQ xJ;simp only[qD]
theorem a1B {op d:CmpOp}{r f:R2}(g:OpR X (compareOp op) r)(e:OpR X (compareOp d) f)(h:PE X a ta)(i:PE X b tb)(j:PE X c tc)
  (k:lastMarks [op,d] [b,c]=false:=by with_unfolding_all rfl):PE X (.Compare a [op,d] [b,c] pos) (yQ r f ta tb tc):=by
 rw[wI];exact b1G g e h i j k
theorem tZ {op d:CmpOp}{r f:R2}(g:OpR X (compareOp op) r)(e:OpR X (compareOp d) f)(h:PE X a ta)(i:PE X b tb)(j:PE X c tc)
  (k:lastMarks [op,d] [b,c]=false:=by with_unfolding_all rfl):PT X (.Compare a [op,d] [b,c] pos) (uK (yQ r f ta tb tc)):=by
 rw[wI,a1Q];exact b0X g e h i j k
theorem a1F (z:Int):∀ns:List Int,inV (.int z) (ns.map V.int)=decide (z∈ns)/\(ns.map V.int).all pW=true
 |[]=>⟨rfl,rfl⟩
 | n ::r=>by
  have ih:=a1F z r;refine⟨?_,?_⟩
  ·unfold inV at ih ⊢;rw[Yz,Jk,ih.1];show ((n == z) || decide (z∈r))=decide (z∈n::r);rw[X8];simp only[Bool.or_eq_true,Jj,Jd,YL];exact⟨λh=>h.imp Eq.symm id,λh=>h.imp Eq.symm id⟩
  ·rw[Yz,XU,ih.2];rfl
def c7R (K:W.Frag)(f:Bool->Bool):R2:=λx y H Q=>vI x λz=>vR y λp=>∃ns:List Int,SqA K H p (ns.map V.int)/\Q (.bl (f (decide (z∈ns)))) H
def a8R:OpR X (compareOp .NotIn) (c7R X.K not):=xX.imp λx y H Q h=>by
 obtain⟨z,rfl,b⟩:=vI.ex h;obtain⟨p,rfl,a,c,q⟩:=vR.ex b;have e:=a1F z a;exact⟨p,_,rfl,c,rfl,e.2,by lia⟩
end
def wU (a:X.K=K:=by rfl):IxR X (c4X K):=by subst a;exact dY
def b8S (a:X.K=K:=by rfl):gR X (.builtin "len") (c4W K):=by subst a;exact eZ
def a6N (a:X.K=K:=by rfl):gR X (.type "list") (a5K K):=by subst a;exact mV
def b8P (a:X.K=K:=by rfl):SlR X (c4S K):=by subst a;exact qW
def b3X:bootBuiltins "all"=some (.builtin "all"):=by decide +kernel
def c7M:R2:=λx y H Q=>vR x λl=>vI y λk=>∃xs,H l=some (.lst xs)/\(-(2 ^ 63)<=k/\k<2 ^ 63)/\xs.length*k.toNat<=sizeLine/\∀p,H p=none->Q (.ref p) (upd H p (.lst (List.replicate k.toNat xs).flatten))
def c3B:OpR X (binaryOp .Mult) c7M:=c1C.imp λx y H Q h=>by
 obtain⟨l,rfl,h⟩:=vR.ex h;obtain⟨k,rfl,xs,b,a,c,d⟩:=vI.ex h;exact⟨l,k,xs,rfl,rfl,b,a.1,a.2,c,d⟩
section
variable {o e:Expr}{es:List Expr}{to:TE}{t:TA}{apos cpos:Pos}
def b7D (to:TE)(t:TA):TE:=λc H Q=>to c H λx d=>vR x λl=>(∃xs,d l=some (.lst xs))/\t c d λe a=>l1 e λy=>vR y λb=>∃xs zs,a l=some (.lst xs)/\a b=some (.lst zs)/\xs.length+zs.length<=sizeLine/\Q .non (upd a l (.lst (xs++zs)))
theorem vV (i:PE X o to)(j:PA X [e] t)(c:attributeBase o "extend" X.env (eval o X.env)=eval o X.env:=by rfl)
  (f:((backTo cpos (starEach [e] X.env)).all (λx=>!x.1) && (backToKw cpos (keywordEach [] X.env)).all (λx=>x.1.isSome)
   && decide (([e]:List Expr).length+([]:List Keyword).length+(if ([]:List Keyword).isEmpty then 0 else 1)<30))=true:=by rfl)
  (d:(apos.endLine == cpos.line)=true:=by rfl) (k:starEach [e] X.env=(false,eval e X.env)::starEach [] X.env:=by rfl) (a:(backTo cpos (starEach [] X.env)).any (·.1)=false:=by rfl) :
  PE X (.Call (.Attribute o "extend" apos) [e] [] cpos) (b7D to t):=
 (a0S PySem.F.plainAttrs_list PySem.F.slot_list_extend PySem.F.type_list_extend a7P (cH i) (nC j) c f d k a).imp λv H Q h=>⟨_,h,λx w q=>by
  obtain⟨l,rfl,⟨xs,m⟩,n⟩:=vR.ex q;refine⟨.inl ⟨rfl,xs,Vb m⟩,_,n,λz A g=>?_⟩;obtain⟨y,rfl,g⟩:=l1.ex g;obtain⟨b,rfl,xs,zs,p,r,s,u⟩:=vR.ex g
  exact⟨l,b,xs,zs,rfl,rfl,p,r,s,u⟩⟩
def c2H (to:TE)(t:TA):TE:=λa H Q=>to a H λx b=>vR x λl=>(∃xs,b l=some (.lst xs))/\t a b λd c=>l1 d λy=>vI y λi=>∃xs k y,c l=some (.lst xs)/\(-(2 ^ 63)<=i/\i<2 ^ 63)/\seqIndex? i xs.length=some k/\xs[k]? =some y/\Q y (upd c l (.lst (xs.eraseIdx k)))
theorem b2D (j:PE X o to)(m:PA X [e] t)(b:attributeBase o "pop" X.env (eval o X.env)=eval o X.env:=by rfl)
  (d:((backTo cpos (starEach [e] X.env)).all (λx=>!x.1) && (backToKw cpos (keywordEach [] X.env)).all (λx=>x.1.isSome)
   && decide (([e]:List Expr).length+([]:List Keyword).length+(if ([]:List Keyword).isEmpty then 0 else 1)<30))=true:=by rfl)
  (c:(apos.endLine == cpos.line)=true:=by rfl) (n:starEach [e] X.env=(false,eval e X.env)::starEach [] X.env:=by rfl) (a:(backTo cpos (starEach [] X.env)).any (·.1)=false:=by rfl) :
  PE X (.Call (.Attribute o "pop" apos) [e] [] cpos) (c2H to t):=
 (a0S PySem.F.plainAttrs_list PySem.F.slot_list_pop PySem.F.type_list_pop b2B (cH j) (nC m) b d c n a).imp λz H Q h=>⟨_,h,λx A q=>by
  obtain⟨l,rfl,⟨xs,p⟩,r⟩:=vR.ex q;refine⟨.inl ⟨rfl,xs,Vb p⟩,_,r,λB C f=>?_⟩;obtain⟨y,rfl,f⟩:=l1.ex f;obtain⟨i,rfl,xs,k,y,s,g,u,v,w⟩:=vI.ex f
  exact⟨l,xs,i,k,y,rfl,rfl,s,g.1,g.2,u,v,w⟩⟩
end
theorem sV:∀{bs:List Bool}{us:List Value},Vals (bs.map V.bl) us->us=bs.map Value.bool
 |[],_,.nil=>rfl
 | b::r,_,.cons h t=>by
  cases (show _=Value.bool b from h);rw[sV t];rfl
def c7U (K:W.Frag):List V->Hp->VK->Prop:=λxs H Q=>l1 xs λx=>vR x λp=>∃bs:List Bool,SqL K H p (bs.map V.bl)/\Q (.bl (bs.all id)) H
def all_range (bs:List Bool):(List.range bs.length).all (λi=>bs.getD i false)=bs.all id:=by
 have e:(List.range bs.length).map (λi=>bs.getD i false)=bs:=by
  apply List.ext_getElem
  ·simp
  grind
 conv=>rhs;rw[<-e,List.all_map]
 rfl
def b7T (j:X.calm=true):gR X (.builtin "all") (c7U X.K):=by
 intro d s z H xs B Q I r h;obtain⟨x,rfl,h⟩:=l1.ex h;obtain⟨p,rfl,bs,k,q⟩:=vR.ex h;obtain⟨u,rfl,l⟩:=vals1 r;cases l;obtain⟨m,n,pl,_⟩:=I.list k;have o:=sV n;subst o;have a:=pl.isList;have c:p<s.heap.objs.size:=by obtain⟨_,e,_⟩:=a;exact Yx e
 refine call_all_walk (wpAny_pyIter_list a ⟨_,_,_,_,_,_,λi=>bs.getD i false,rfl,Walks.list (A:=X.A.in1) (I.ok.hd j) _ p (YQ c) _,⟨⟨_,YD _ rfl,rfl,rfl⟩,a.push _⟩,?_,λC D t=>?_⟩)
 ·intro i v E F G w f;have g:(bs.map Value.bool)[i]? =some v:=by simpa using w
  rw[Yn]at g;obtain⟨b,y,rfl⟩:=YU.mp g;have:bs.getD i false=b:=by rw[Yj,y];rfl
  simp only[this]at f;exact Xj f
 ·have e:(bs.map Value.bool).toArray.size=bs.length:=by simp
  rw[e,all_range];exact⟨.bl _,H,I.kept (old_kept t),rfl,q⟩
section
variable {P:Program}{mg:Str->Option Value}{base:Heap}{N:List Str}{qual:Str}{scope:Scope}{f:Addr}{cd:Value}{A:Around}{outer:List Env}{H:Hp}{E:XK}
end
def Its (z:Str):It:=⟨λi _=>i<z.cps.size,λi H x a=>a=H/\∃c,z.cps[i]? =some c/\x= .str ⟨#[c]⟩,λi _=>z.cps.size<=i⟩
section
variable {prog:Program}{A:Around}{E:Value->Shared->Prop}{it:Addr}{z:Str}{t:Tok}{i:Nat}
theorem a7N {c:Nat}{Q:Option Value->Shared->Prop}(a:s.heap.IsStrIter it (strIterType z) z t i)(d:z.cps[i]? =some c)
  (b:∀h',h'.IsStrIter it (strIterType z) z t (i+1)->Heap.SameBut it s.heap h'->Q (some (.str ⟨#[c]⟩ s.toks)) { s with heap:=h',toks:=s.toks+1 }):wpAny (model prog w) A (pyNext (.ref it)) Q E s:=by
 unfold strIterType at a b;split at a
 ·rename_i h;simp only[h]at b;exact wpAny_pyNext_ascii_item a d b
 ·rename_i h;simp only[h]at b;exact wpAny_pyNext_wide_item a d b
def b3C {Q:Option Value->Shared->Prop}(b:A.handled=none)(a:s.heap.IsStrIter it (strIterType z) z t i)(c:z.cps[i]? =none)(d:∀h',Heap.ExtBut it s.heap h'->Q none { s with heap:=h' }):
  wpAny (model prog w) A (pyNext (.ref it)) Q E s:=by
 unfold strIterType at a;split at a
 ·exact wpAny_pyNext_ascii_end b a c d
 ·exact wpAny_pyNext_wide_end b a c d
def a7C {Q:Value->Shared->Prop}(a:s.heap.IsStrIter it (strIterType z) z t i)(h:Q (.ref it) s):wpAny (model prog w) A (pyIter (.ref it)) Q E s:=by
 unfold strIterType at a;split at a
 ·exact wpAny_pyIter_striter_ascii a h
 ·exact wpAny_pyIter_striter_wide a h
end
def a6Q {P:Program}(z:Str)(t:Tok)(it:Addr):Turn P w K tg (Its z) [it] it (λi h=>h.IsStrIter it (strIterType z) z t i) where
 mem:=by simp
 obj:=λi h st b hb=>by
  have e:b=it:=by simpa using hb
  subst e;obtain⟨o,e,_,d⟩:=st;grind
 keep:=λi h h' ⟨o,e,r⟩ k=>⟨o,k it (by simp) o e,r⟩
 item:=by
  intro X hP hw hK hc i pins s σ H E I hf st hg;have hx:=Array.getElem?_eq_getElem hg;obtain⟨f0,f1,f2,f3,f4,f5⟩:=hf it (by simp);refine a7N st hx λh' st' sb=>?_;have I1:Inv X pins σ H { s with heap:=h',toks:=s.toks+1 }:=I.turned (λb o hb e=>(sb.2 b hb).trans e) f0 f1 f3 f4 f5;obtain⟨o,e,c,d⟩:=id st';refine⟨_,rfl,a5U e c d ?_ ⟨.str ⟨#[z.cps[i]]⟩,H,I1,⟨_,rfl⟩,⟨rfl,_,hx,rfl⟩,st',λb hb=>(hf b hb).1⟩⟩;unfold strIterType;split <;> decide
 done:=by
  intro X hP hw hK hc i pins s σ H E I hf st hg;subst hP hw hK;obtain⟨f0,f1,f2,f3,f4,f5⟩:=hf it (by simp);exact b3C (I.ok.hd hc) st (Array.getElem?_eq_none hg) λh' eb=>⟨rfl,I.turned (t':=s.toks) (λb o hb e=>eb b o hb e) f0 f1 f3 f4 f5⟩
 self:=λ_ _ _ _ _ st h=>a7C st h
def c5G (a:TE):TI:=λb H R=>a b H λx c=>vS x λz=>R (Its z) c
def b6M {l:Expr}{g:TE}(i:PE X l g):PI X tg l (c5G g):=by
 intro a s j H R I h;refine thn (i a s j H _ I h) λv c d=>?_;obtain⟨x,k,f,m,n⟩:=d;obtain⟨z,rfl,q⟩:=vS.ex n;obtain⟨t,rfl⟩:=(m)
 refine wpAny_pyIter_strU ⟨c.heap.objs.size, [c.heap.objs.size],_,_,k,rfl,f.kept λb o e=>Yq _ e,a6Q z t _,⟨_,YD _ rfl,rfl,rfl⟩,λb p=>?_,q⟩;have e:b=c.heap.objs.size:=by simpa using p
 subst e;exact f.fpOk (Yb _) (f.hok.fresh (Yb _))
theorem a8K {z:Str}{h:TT}{j:TE}{d:V->St}{H:Hp}{Q:VK}(a:Nat->List V->Hp->Prop)(k:∀i ys H,i<=z.cps.size->a i ys H->ys.length<sizeLine)(l:a 0 [] H)
  (n:∀i c ys H,z.cps[i]? =some c->a i ys H->h (d (.str ⟨#[c]⟩)) H λb H3=>if b=true then j (d (.str ⟨#[c]⟩)) H3 λy H4=>a (i+1) (ys++[y]) H4 else a (i+1) ys H3)
  (hd:∀ys H,a z.cps.size ys H->∀p,H p=none->Q (.ref p) (upd H p (.lst ys))):qZ (Its z) h j d H Q:=by
 refine⟨λi m ys H=>m=z.cps.size-i/\i<=z.cps.size/\a i ys H,⟨z.cps.size,by simp,YW _,l⟩,?_⟩;rintro i m ys H ⟨rfl,o,p⟩;refine⟨k i ys H o p,?_⟩;by_cases hlt:i<z.cps.size
 ·refine .inr ⟨hlt,λf g=>a (i+1) f g,λf g q=>⟨_,by lia,rfl,hlt,q⟩,?_⟩;rintro x g ⟨rfl,c,r,rfl⟩;exact n i c ys _ r p
 ·have e:i=z.cps.size:=by lia
  subst e;exact .inl ⟨Yb _,hd ys H p⟩
end L2
namespace L2
open PySem PySem.Spec PyProof.Rows Builtin Builtin.Str
def txt (l:List Nat):PySem.Str:=⟨l.toArray⟩
def nR (l:List Nat):(txt l).length=l.length:=by rfl
def rM (l:List Nat):(txt l).cps.toList=l:=by simp[txt]
def b8X (z:PySem.Str):txt z.cps.toList=z:=by cases z;simp[txt]
section
variable {X:Cx}
def c5A:R2:=λx y H Q=>vS x λi=>vS y λj=>i.length+j.length<=sizeLine/\Q (.str (i++j)) H
def fW:OpR X (binaryOp .Add) c5A:=a3F.imp λx y H Q h=>by
 obtain⟨i,rfl,a⟩:=vS.ex h;obtain⟨j,rfl,b⟩:=vS.ex a;lia
theorem a4K:∀{ts:List PySem.Str}{us:List Value},Vals (ts.map V.str) us->∃l:List (PySem.Str×Tok),us=strValues l/\l.map (·.1)=ts
 |[],_,h=>by cases h;exact⟨[],rfl,rfl⟩
 | z ::r,_,h=>by
  cases h with
  | cons a b=>
   obtain⟨t,rfl⟩:=(show ∃t,_=Value.str z t from a)
   obtain⟨l,rfl,e⟩:=a4K b;exact⟨(z,t)::l,rfl,by rw[Yz,e]⟩
def rJoin:V->List V->Hp->VK->Prop:=λx a H Q=>∃z l ts,x= .str z/\a= [.ref l]/\H l=some (.lst (ts.map V.str))/\JoinOk z ts=true/\Q (.str (Txt.join z ts)) H
def b6L:MtM X "str.join" rJoin:=by
 intro b s m H x o v p Q I c d h;obtain⟨z,l,w,rfl,rfl,f,a,q⟩:=h;obtain⟨t,rfl⟩:=(c)
 obtain⟨u,rfl,g⟩:=d.one;cases g;obtain⟨y,i,n,r,A,e⟩:=I.lstM f;obtain⟨B,rfl,j⟩:=a4K r;exact SC.join ⟨_,e,rfl,_,rfl⟩ j a λC k=>⟨.str _,H,I.tok k,⟨_,rfl⟩,q⟩
end
section
variable {X:Cx}{o e:Expr}{to:TE}{t:TA}{apos cpos:Pos}
def c5W (to:TE)(t:TA):TE:=λa H Q=>to a H λx c=>vS x λz=>t a c λd b=>l1 d λy=>vR y λl=>∃ts,b l=some (.lst (ts.map V.str))/\JoinOk z ts=true/\Q (.str (Txt.join z ts)) b
theorem lF (f:PE X o to)(g:PA X [e] t)(b:attributeBase o "join" X.env (eval o X.env)=eval o X.env:=by rfl)
  (d:((backTo cpos (starEach [e] X.env)).all (λx=>!x.1) && (backToKw cpos (keywordEach [] X.env)).all (λx=>x.1.isSome)
   && decide (([e]:List Expr).length+([]:List Keyword).length+(if ([]:List Keyword).isEmpty then 0 else 1)<30))=true:=by rfl)
  (c:(apos.endLine == cpos.line)=true:=by rfl) (i:starEach [e] X.env=(false,eval e X.env)::starEach [] X.env:=by rfl) (a:(backTo cpos (starEach [] X.env)).any (·.1)=false:=by rfl) :
  PE X (.Call (.Attribute o "join" apos) [e] [] cpos) (c5W to t):=
 (a0S PySem.F.plainAttrs_str PySem.F.slot_str_join PySem.F.type_str_join b6L (cH f) (nC g) b d c i a).imp λu H Q h=>⟨_,h,λx v q=>by
  obtain⟨z,rfl,j⟩:=vS.ex q;refine⟨rfl,_,j,λw A k=>?_⟩;obtain⟨y,rfl,m⟩:=l1.ex k;obtain⟨l,rfl,n,p,r,s⟩:=vR.ex m
  exact⟨z,l,n,rfl,rfl,p,r,s⟩⟩
end
end L2
namespace L2
open PySem PySem.Spec PyProof.Rows
section
variable {X:Cx}{np hpos pos:Pos}{y n:Str}{C:Addr}{i:Nat}{b₀:Stmt}{suite:List Stmt}{ts:TS}{hs:List ExceptHandler}{th:TH}
end
section
variable {X:Cx}{o e value:Expr}{es:List Expr}{to ta tv:TE}{t:TA}{apos cpos pos pos':Pos}{C:Addr}{f m:Str}
def c8H (C:Addr)(c:TE)(f:Str):TE:=λd H Q=>c d H λx b=>vR x λa=>∃dx fs v,b a=some (.ins C dx fs)/\fs.lookup f=some v/\Q v b
def aR (c:Cls X.K C)(n:bK X.K C f)(b:PE X e ta)(d:attributeBase e f X.env (eval e X.env)=eval e X.env:=by rfl):PE X (.Attribute e f pos) (c8H C ta f):=
 (b1E (cH b) d).imp λl H Q h=>⟨_,h,λx m q=>by
  obtain⟨a,rfl,g⟩:=vR.ex q
  grind⟩
def c8F (C:Addr)(d e:TE)(f:Str):TS:=λD b H=>e b H λy g=>d b g λx c=>vR x λa=>∃dx fs,c a=some (.ins C dx fs)/\fs.length<1000/\D.nx b (upd c a (.ins C dx (gU f y fs)))
def bJ (c:Cls X.K C)(n:bK X.K C f)(b:PE X o ta)(d:PE X value tv)(e:swapsWith value (some (.Attribute o f pos')) pos.line X.env=pure false:=by rfl):
  PS X (.Assign [.Attribute o f pos'] value pos) (c8F C ta tv f):=
 (b0Z (cH b) (cH d) e).imp λD m H h=>⟨_,h,λy p q=>⟨_,q,λx r g=>by
  obtain⟨a,rfl,i⟩:=vR.ex g
  grind⟩⟩
variable {CX:CXT}{k:Nat}{fa:Addr}{fd:FuncData}{ps:List Str}{sp:Sp}{dvs:List V}{ds:List Value}{E:XK}
def b8I (C:Addr)(m:Str)(sp:Sp)(dvs:List V)(E:XK)(d:TE)(t:TA):TE:=λb H Q=>d b H λx c=>vR x λa=>(∃dx fs,c a=some (.ins C dx fs)/\fs.lookup m=none)/\t b c λe f=>sp (.ref a::(e++dvs)) f Q E
theorem bN {pl:Sem Bool}(c:Cls X.K C)(g:Meth X.K C m fa)(F:iV X.prog X.w X.K X.mg X.base CX k fa fd ps sp)(i:eO k X.A)(j:Binds X.K fd ps ds)(hd:Vals dvs ds)(l:gM CX X E)(n:PE X o ta)(p:PA X (e::es) t)
  (b:starEach (e::es) X.env=(false,eval e X.env)::starEach es X.env:=by rfl) (d:(backTo pos (starEach es X.env)).any (·.1)=false:=by rfl)
  (r:eval (.Call (.Attribute o m apos) (e::es) [] pos) X.env=(do
   let ov<-eval o X.env
   standAt apos.atName
   let (f,first)<-holding [ov] (getMethod ov m pl)
   callWith pos f first (backTo pos (starEach (e::es) X.env)) (backToKw pos (keywordEach [] X.env))):=by rfl) :
  PE X (.Call (.Attribute o m apos) (e::es) [] pos) (b8I C m sp dvs E ta t):=
 (b5Y (cH n) c g F i j hd l (nC p) b d r).imp λB H Q h=>⟨_,h,λx D q=>by
  obtain⟨a,rfl,⟨s,fs,u,v⟩,y⟩:=vR.ex q
  exact⟨a,s,fs,rfl,u,v,_,y,λG I z=>z⟩⟩
theorem bZ {pl:Sem Bool}(c:Cls X.K C)(b:Meth X.K C m fa)(F:iV X.prog X.w X.K X.mg X.base CX k fa fd ps sp)(d:eO k X.A)(e:Binds X.K fd ps ds)(hd:Vals dvs ds)(g:gM CX X E)(i:PE X o ta)
  (j:eval (.Call (.Attribute o m apos) [] [] pos) X.env=(do
   let ov<-eval o X.env
   standAt apos.atName
   let (f,first)<-holding [ov] (getMethod ov m pl)
   callWith pos f first (backTo pos (starEach [] X.env)) (backToKw pos (keywordEach [] X.env))):=by rfl) :
  PE X (.Call (.Attribute o m apos) [] [] pos) (b8I C m sp dvs E ta rB):=
 (b1C (cH i) c b F d e hd g j).imp λs H Q h=>⟨_,h,λx t q=>by
  obtain⟨a,rfl,⟨l,fs⟩⟩:=vR.ex q
  grind⟩
end
section
variable {X:Cx}
end
variable {X:Cx}
inductive b7N (K:W.Frag)(H:Hp):List Addr->List (Int×Int)->Prop
 |nil:b7N K H [] []
 |cons {q:Addr} {p:Int×Int} {qs:List Addr} {ps:List (Int×Int)}:SqT K H q [.int p.1,.int p.2]->b7N K H qs ps->b7N K H (q::qs) (p::ps)
end L2
namespace L2
open PySem
def a3W (K:W.Frag)(a:Addr)(ns:List Int):Prop:=∃(o:Obj)(its:Array Value)(n:Nat),K.lookup a=some o/\o.cls= .type "tuple"/\o.data= .seq its n/\its.size<=sizeLine/\Vals (ns.map V.int) its.toList
def a3W.of {K:W.Frag}{a:Addr}{c:Option Addr}{d:Array (Option Value)}{n:Nat}{b:Array Value}{ns:List Int}(h:K.lookup a=some ⟨.type "tuple",c,.seq b n,d⟩)(e:b.size<=sizeLine)(f:Vals (ns.map V.int) b.toList):a3W K a ns:=⟨_,b,n,h,rfl,rfl,e,f⟩
def a3W.sq {K:W.Frag}{a:Addr}{ns:List Int}(h:a3W K a ns)(H:Hp):SqT K H a (ns.map V.int):= .inr h
end L2
namespace L2
open PySem PySem.Spec PyProof.Rows
variable {X:Cx}{o:Expr}{e:Expr}{to:TE}{t:TA}{apos:Pos}{cpos:Pos}
def bQ {s:Stmt}:PS X s (λ_ _ _=>False):=λ_ _ _ _ _ _ h=>h.elim
def a8J {xs:List V}{a:Nat}(h:a<=xs.length):jN xs (some (a:Int)) none=xs.drop a:=by
 unfold jN;rw[HT.sIx_nat,HT.sIx_none,Xp h,Yg (by rw[Xl];lia)]
end L2
namespace L2
open PySem PySem.Spec PyProof.Rows PySem.MeetsSeq PySem.SeqAt
section
variable {X:Cx}{o e:Expr}{to:TE}{t:TA}{apos cpos:Pos}
end
end L2
namespace L2
open PySem PySem.Spec PyProof.Rows
variable {w:World}{pos:Pos}{X:Cx}{es:List Expr}{t:TA}{o:Expr}{e:Expr}{ta:TE}{apos:Pos}{C:Addr}{m:Str}{k:Nat}{fa:Addr}{fd:FuncData}{ps:List Str}{sp:Sp}{dvs:List V}{ds:List Value}
set_option maxRecDepth 100000
section
variable {prog:Program}{A:Around}{I:Addr}{fp wr:List Addr}{n:Nat}{P:Nat->Value->Prop}{St:Nat->Heap->Prop}{d:Value}
end
section
variable {prog:Program}{A:Around}{E:Value->Shared->Prop}{s:Shared}
end
def zA:bootBuiltins "enumerate"=some (.type "enumerate"):=by decide +kernel
section
variable {pins:List (Addr×Obj)}{σ:St}{H:Hp}{s:Shared}
theorem Inv.turnedT {h':Heap}{t':Nat}{f:List Addr}{T:Addr}{xs:List V}(I:Inv X pins σ H s)(h:∀b∈f,rK X pins H b)(k:∀b o,b∉f->s.heap.get? b=some o->h'.get? b=some o)(l:s.heap.objs.size<=T)
  (i:gO X.prog X.w (upd H T (.tup xs)) h' T (.tup xs)):Inv X pins σ (upd H T (.tup xs)) { s with heap:=h',toks:=t' }:=by
 have j:∀b o,s.heap.get? b=some o->b≠T:=λb o e z=>by
  have:=Yx e;lia
 have up:∀b u,H b=some u->upd H T (.tup xs) b=some u:=λb u e=>by rw[aH (aO e (I.hok.fresh l))];exact e
 have d:∀b u,H b=some u->b∉f:=λb u e z=>by rw[(h b z).1]at e;cases e
 refine I.step (λb g=>?_) (λb o _ _ a e _=>k b o a e) (λb o _ _ a e _=>⟨o.slots,k b o a e⟩) (λb o _ e n=>by rw[aH (j b o e)];exact n)
  (λb o a e=>⟨o,k b o a e⟩) (λb _ e=>up b _ e) (λb _ _ e=>up b _ e) (λb F e=>⟨#[],by rw[up b _ e];simp⟩) (λm t=>?_) (λb u e=>?_) I.bare
 ·obtain⟨G,x,J,y,A,B⟩:=h b g;exact⟨y,x,A,B⟩
 ·obtain⟨o,C,D,E,r⟩:=t;exact⟨o,C,D,k _ o (λz=>(h _ z).2.1 rfl) E,r⟩
 ·by_cases g:b=T
  ·subst g;rw[aC]at e;cases e;exact i
  ·rw[aH g]at e;refine(I.hok b u e).stay (λc v a q=>k c v ?_ q) (λ_ q=>up _ _ q) λ_ _ q=>up _ _ q;grind
end
def Ite (K:W.Frag)(a:Addr):It:=
 ⟨λi H=>∃xs x,SqL K H a xs/\xs[i]? =some x,λi H v b=>∃p x,H p=none/\v= .ref p/\(∀xs,SqL K H a xs->xs[i]? =some x)/\b=upd H p (.tup [.int ((i:Nat):Int),x]),λi H=>∃xs,SqL K H a xs/\xs.length<=i⟩
def a6R {P:Program}{K:W.Frag}{elts:List Expr}{k':Nat}(a e it:Addr)(hei:e≠it):
  Turn P w K (.Tuple elts k' pos) (Ite K a) [e,it] e (λi h=>(∃old,IsEnum h e it ((i:Nat):Int) old)/\h.IsListIter it a i) where
 mem:=by simp
 obj := λi h st b hb=>by
  obtain⟨⟨old,he⟩,o,e1,c,d⟩:=st;grind
 keep:=λi h h' st k=>by
  obtain⟨⟨old,he⟩,hit⟩:=st;exact⟨⟨old,k e (by simp) _ he⟩,hit.at λo x=>k it (by simp) o x⟩
 item :=by
  intro X hP hw hK hc i pins s σ H E I hf st hg;subst hP hw hK;obtain⟨⟨old,he⟩,hit⟩:=st;obtain⟨xs,x,hq,hx⟩:=hg;obtain⟨its,rv,p,hz⟩:=I.list hq;obtain⟨u,hu,ru⟩:=rv.get hx;refine wpAny_pyNext_enum_item he hit p.isList (x:=u) (by simpa using hu) hei λh1 ho hit1 hT hsz hk=>?_;refine⟨_,rfl,wpAny_letOwnedTupleGo_enum (s:={ s with heap:=h1,toks:=s.toks+1 }) ho λh2 he2 hs2=>?_⟩;have hs2':Heap.SameBut e h1 h2:=hs2;have eT:e≠s.heap.objs.size:=YQ (Yx he);have iT:it≠s.heap.objs.size:=by obtain⟨o,e1,_⟩:=hit;exact YQ (Yx e1)
  have hN:H s.heap.objs.size=none:=I.hok.fresh (Yb _);refine⟨.ref s.heap.objs.size,upd H s.heap.objs.size (.tup [.int ((i:Nat):Int),x]),I.turnedT hf (λb o hb q=>?_) (Yb _) ?_,rfl,⟨_,x,hN,rfl,λys hy=>by rw[I.list_inj hy hq];exact hx,rfl⟩,⟨⟨u,?_⟩,?_⟩,λb hb=>?_⟩
  ·have b1:b≠e:=λz=>hb (by simp[z]);have b2:b≠it:=λz=>hb (by simp[z]);exact(hs2'.2 b b1).trans (hk b o b1 b2 q)
  ·exact⟨(by show 2<=sizeLine;decide), [.int ((i:Nat):Int) s.toks,u],.cons ⟨_,rfl⟩ (.cons ru .nil),⟨_,(hs2'.2 _ (Va eT)).trans hT,rfl,_,rfl⟩⟩
  ·lia
  ·exact hit1.at λo y=>(hs2'.2 it (Va hei)).trans y
  ·have h1:=(hf b hb).1;have:b≠s.heap.objs.size:=by
    grind
   rw[aH this];exact h1
 done:=by
  intro X hP hw hK hc i pins s σ H E I hf st hg;subst hP hw hK;obtain⟨⟨old,he⟩,hit⟩:=st;obtain⟨xs,hq,hx⟩:=hg;obtain⟨its,rv,p,hz⟩:=I.list hq;obtain⟨f0,f1,f2,f3,f4,f5⟩:=hf it (by simp);have hl:=rv.length;exact wpAny_pyNext_enum_end (I.ok.hd hc) he hit p.isList (Array.getElem?_eq_none (by simp;lia)) λh' eb=>⟨rfl,I.turned (t':=s.toks) (λb o hb e=>eb b o hb e) f0 f1 f3 f4 f5⟩
 self:=λ_ _ _ _ _ st h=>by
  obtain⟨⟨old,he⟩,_⟩:=st;exact wpAny_pyIter_enum he h
def c5Y (K:W.Frag)(c:TA):TI:=λd H R=>c d H λe b=>l1 e λx=>vR x λa=>(∃xs,SqL K b a xs)/\R (Ite K a) b
def b6N {a:Expr}{m:TA}{p f:Pos}{g:List Expr}{w:Nat}(y:Gl X "enumerate")(z:X.mg "enumerate"=none)(A:PA X [a] m)(B:starEach [a] X.env= [(false,eval a X.env)]:=by rfl):
  PI X (.Tuple g w f) (.Call (.Name "enumerate" p) [a] [] pos) (c5Y X.K m):=by
 intro c s n H R I h;refine Call_ (oW I y z zA (Xm (thn (A pos c s n H _ I h) λM d i=>?_) B rfl));obtain⟨N,o,e,C,j⟩:=i;obtain⟨x,rfl,j⟩:=l1.ex j;obtain⟨l,rfl,⟨xs,D⟩,q⟩:=vR.ex j;obtain⟨u,rfl,E⟩:=vals1 C;cases E;obtain⟨F,O,pl,P⟩:=e.list D;refine call_enumerate_list pl.isList λr t k G J=>wpAny_pyIter_enum t ⟨d.heap.objs.size+1, [d.heap.objs.size+1,d.heap.objs.size],_,_,o,rfl,e.kept J,a6R l _ _ (Nat.succ_ne_self _),⟨⟨_,t⟩,k⟩,λb v=>?_,q⟩;simp only[YL,XB,or_false]at v;rcases v with rfl | rfl
 ·exact e.fpOk (XZ _) (e.hok.fresh (XZ _))
 ·exact e.fpOk (Yb _) (e.hok.fresh (Yb _))
def gT2 (K:W.Frag)(i j:Nat):TG:=λv b H Q=>vR v λa=>∃x y,SqT K H a [x,y]/\Q ((b.set i (some x)).set j (some y)) H
def mg2 {tg:Expr}{i j:Nat}(h:PG X tg (c5K X.K 2 (b2V (wF i) (b2V (wF j) c5L)))):PG X tg (gT2 X.K i j):=by
 intro b s c H v u Q I r q;obtain⟨a,rfl,x,y,d,e⟩:=vR.ex q;exact h b s c H _ u Q I r ⟨a,_,rfl,d,rfl,_,_,rfl,_,_,rfl,rfl,e⟩
theorem b2W {K:W.Frag}{a:Addr}{xs:List V}{g:TG}{c:TS}{D:Ends}{σ:St}{H:Hp}(b:Nat->St->Hp->Prop)(d:b 0 σ H)(f:∀i σ H,i<=xs.length->b i σ H->SqL K H a xs)
  (h:∀i x σ H p,xs[i]? =some x->b i σ H->H p=none->g (.ref p) σ (upd H p (.tup [.int ((i:Nat):Int),x])) λσ2 H2=>c { D with nx:=b (i+1),ct:=b (i+1),bk:=D.nx } σ2 H2) (hd:∀σ H,b xs.length σ H->D.nx σ H) :
  ∃ W:Nat->Nat->St->Hp->Prop,(∃m,W 0 m σ H)/\∀i m σ H,W i m σ H->
   ((Ite K a).stop i H/\D.nx σ H)\/((Ite K a).go i H/\∃N:St->Hp->Prop,(∀σ' H',N σ' H'->∃m',m'<m/\W (i+1) m' σ' H')/\∀x H',(Ite K a).yld i H x H'->g x σ H' λσ2 H2=>c { D with nx:=N,ct:=N,bk:=D.nx } σ2 H2):=by
 refine⟨λi m σ H=>m=xs.length-i/\i<=xs.length/\b i σ H,⟨xs.length,by simp,YW _,d⟩,?_⟩;rintro i m σ H ⟨rfl,j,p⟩;have q:=f i σ H j p;by_cases hlt:i<xs.length
 ·refine .inr ⟨⟨xs,xs[i],q,by simp[hlt]⟩,b (i+1),λσ' H' k=>⟨xs.length-(i+1),by lia,rfl,hlt,k⟩,?_⟩;rintro v H' ⟨t,x,l,rfl,n⟩;grind
 ·have e:i=xs.length:=by lia
  subst e;exact .inl ⟨⟨xs,q,Yb _⟩,hd σ H p⟩
def c2M (t:TA):TE:=λb H Q=>t b H λd a=>l3 d λx y z=>vI x λi=>vI y λj=>vI z λc=>c≠0/\Builtin.divisionGoesByPylong (j-i) c=false/\∃n:Nat,Builtin.Range.small i j c=true/\Builtin.Range.rangeSize i j c=(n:Int)/\n<=1000/\
 ∀p,a p=none->Q (.ref p) (upd a p (.lst ((List.range n).map λk=>V.int (i+((k:Nat):Int)*c))))
def uT {i c:Int}{acc:Array Value}{n:Nat}(h:ItemsOf (λk v=>∃t,v=Value.int (i+((k:Nat):Int)*c) t) acc n):Vals ((List.range n).map λk=>V.int (i+((k:Nat):Int)*c)) acc.toList:=by
 have b:∀(a:List Value)(f:Nat->Int),(∀j v,a[j]? =some v->∃t,v=Value.int (f j) t)->Vals ((List.range a.length).map λk=>V.int (f k)) a:=by
  intro a;induction a with
  |nil=>intro f _;exact .nil
  | cons u r ih=>
   intro f e;rw[Yk,List.range_succ_eq_map,Yz,XE];exact .cons (e 0 u rfl) (ih (λk=>f (k+1)) λj v d=>e (j+1) v (by simpa using d))
 have m:acc.toList.length=n:=by exact h.1
 have:=b acc.toList (λk=>i+((k:Nat):Int)*c) λj v d=>h.2 j v (by grind)
 rwa [m]at this
theorem a3G {a b c:Expr}{ta:TA}{p p2 pos pos2:Pos}(hcalm:X.calm=true)(hgl:Gl X "list")(hml:X.mg "list"=none)(hg:Gl X "range")(hm:X.mg "range"=none)(ha:PA X [a,b,c] ta)
  (hs:starEach [a,b,c] X.env=(false,eval a X.env)::starEach [b,c] X.env:=by rfl) (hs2:(backTo pos2 (starEach [b,c] X.env)).any (·.1)=false:=by rfl)
  (ho:starEach [.Call (.Name "range" p2) [a,b,c] [] pos2] X.env= [(false,eval (.Call (.Name "range" p2) [a,b,c] [] pos2) X.env)]:=by rfl) :
  PE X (.Call (.Name "list" p) [.Call (.Name "range" p2) [a,b,c] [] pos2] [] pos) (c2M ta):=by
 intro d s A H Q I h;refine Xe (oW I hgl hml oH (Xm ?_ ho rfl));rw[ho];refine JA (Call_ (oW I hg hm boot_range (Xm (thn (ha pos2 d s A H _ I h) λT m u=>?_) hs hs2)));obtain⟨U,C,D,E,F⟩:=u;obtain⟨x,y,z,rfl,G⟩:=l3.ex F;obtain⟨i,rfl,J⟩:=vI.ex G;obtain⟨j,rfl,K⟩:=vI.ex J;obtain⟨k,rfl,L,M,n,v,N,g,q⟩:=vI.ex K;cases E with
 | cons r rr=>
  cases rr with
  | cons r' rr=>
   cases rr with
   | cons r'' rr=>
    cases rr;obtain⟨t,rfl⟩:=r;obtain⟨t',rfl⟩:=r';obtain⟨l,rfl⟩:=r'';refine call_range_3 L (Calls.spliced_nil (call_list_range (I.ok.hd hcalm) (IsRange.new ..) v N (YK g (by decide)) λW O w P kept R f=>?_)) (.inl M);have B:Inv X d A C { m with heap:=m.heap.push { cls:= .type "range",data:= .fields #[.int i t,.int j t',.int k l] } }:=D.kept λb o e=>Yq _ e;refine⟨.ref _,_,B.laid kept (Yb _) ?_,rfl,q _ ?_⟩
    ·refine⟨?_,w.toList,P,uT f,?_⟩
     ·rw[Ya,YI];exact XF (qI g)
     ·simpa using R
    ·exact B.hok.fresh (Yb _)
structure b8N (K:W.Frag)(C:Addr)(m:Str)(f:Addr):Prop where
 ga:W.specialIn K (.ref C) "__getattribute__"=some (some (.builtin "type.__getattribute__"))
 rd:W.readsIn K C (.type "type")=true
 at_:W.findCls K (.ref C) (.type "type") m=some (.val (.ref f))
 kp:W.keepIn K (.ref f)=true
section
variable {value:Expr}{to tv:TE}{cpos pos':Pos}{f:Str}{CX:CXT}{E:XK}
def c2L (C:Addr)(sp:Sp)(dvs:List V)(E:XK)(b:TE)(t:TA):TE:=λa H Q=>b a H λx c=>x= .ref C/\t a c λd e=>sp (d++dvs) e Q E
theorem a1A {pl:Sem Bool}(b:b8N X.K C m fa)(F:iV X.prog X.w X.K X.mg X.base CX k fa fd ps sp)(n:eO k X.A)(p:Binds X.K fd ps ds)(hd:Vals dvs ds)(v:gM CX X E)(y:PE X o ta)(z:PA X (e::es) t)
  (c:starEach (e::es) X.env=(false,eval e X.env)::starEach es X.env:=by rfl) (d:(backTo pos (starEach es X.env)).any (·.1)=false:=by rfl)
  (B:eval (.Call (.Attribute o m apos) (e::es) [] pos) X.env=(do
   let ov<-eval o X.env
   standAt apos.atName
   let (f,first)<-holding [ov] (getMethod ov m pl)
   callWith pos f first (backTo pos (starEach (e::es) X.env)) (backToKw pos (keywordEach [] X.env))):=by rfl) :
  PE X (.Call (.Attribute o m apos) (e::es) [] pos) (c2L C sp dvs E ta t):=by
 intro a s j H Q I h;refine XY (thn (y a s j H _ I h) λu L g=>?_) B;obtain⟨x,D,i,G,ex,q⟩:=g;subst ex;obtain rfl:u=Value.ref C:=G;exact W.method_cls i.kIn b.ga (W.cls_value i.kIn b.rd b.at_ rfl (Jm I.ok.mod.kin b.kp (thn (z pos a _ j D _ (i.tok _) q) λM N ⟨O,P,l,r,J⟩=>⟨l.kIn,mZ F n p hd v l r J⟩) c d))
def c5X (K:W.Frag)(c:TE)(f:Str):TE:=λd H Q=>c d H λx b=>vR x λa=>∃C dx fs v,b a=some (.ins C dx fs)/\Cls K C/\bK K C f/\fs.lookup f=some v/\Q v b
def iD (b:PE X e ta)(d:attributeBase e f X.env (eval e X.env)=eval e X.env:=by rfl):PE X (.Attribute e f pos) (c5X X.K ta f):=
 (b1E (cH b) d).imp λl H Q h=>⟨_,h,λx m q=>by
  obtain⟨a,rfl,C⟩:=vR.ex q
  grind⟩
def c5R (K:W.Frag)(d e:TE)(f:Str):TS:=λD b H=>e b H λy g=>d b g λx c=>vR x λa=>∃C dx fs,c a=some (.ins C dx fs)/\Cls K C/\bK K C f/\fs.length<1000/\D.nx b (upd c a (.ins C dx (gU f y fs)))
def nZ (b:PE X o ta)(d:PE X value tv)(e:swapsWith value (some (.Attribute o f pos')) pos.line X.env=pure false:=by rfl):
  PS X (.Assign [.Attribute o f pos'] value pos) (c5R X.K ta tv f):=
 (b0Z (cH b) (cH d) e).imp λD m H h=>⟨_,h,λy p q=>⟨_,q,λx r g=>by
  obtain⟨a,rfl,C⟩:=vR.ex g
  grind⟩⟩
def b3P (K:W.Frag)(m:Str)(d:Addr)(sp:Sp)(dvs:List V)(E:XK)(e:TE)(t:TA):TE:=λb H Q=>e b H λx c=>vR x λa=>(∃C dx fs,c a=some (.ins C dx fs)/\Cls K C/\Meth K C m d/\fs.lookup m=none)/\t b c λf g=>sp (.ref a::(f++dvs)) g Q E
theorem uB {pl:Sem Bool}(F:iV X.prog X.w X.K X.mg X.base CX k fa fd ps sp)(y:eO k X.A)(z:Binds X.K fd ps ds)(hd:Vals dvs ds)(B:gM CX X E)(D:PE X o ta)(G:PA X (e::es) t)
  (d:starEach (e::es) X.env=(false,eval e X.env)::starEach es X.env:=by rfl) (g:(backTo pos (starEach es X.env)).any (·.1)=false:=by rfl)
  (J:eval (.Call (.Attribute o m apos) (e::es) [] pos) X.env=(do
   let ov<-eval o X.env
   standAt apos.atName
   let (f,first)<-holding [ov] (getMethod ov m pl)
   callWith pos f first (backTo pos (starEach (e::es) X.env)) (backToKw pos (keywordEach [] X.env))):=by rfl) :
  PE X (.Call (.Attribute o m apos) (e::es) [] pos) (b3P X.K m fa sp dvs E ta t):=by
 intro b s j H Q I h;refine XY (thn (D b s j H _ I h) λu L i=>?_) J;obtain⟨x,M,n,N,q⟩:=i;obtain⟨a,rfl,⟨C,R,fs,O,c,p,l⟩,q⟩:=vR.ex q;obtain rfl:u=Value.ref a:=N;exact jD n O c p l (Jm I.ok.mod.kin p.kp (thn (G pos b L j M _ n q) λus S ⟨vs,T,v,r,P⟩=>⟨v.kIn,mZ (vs:= .ref a::vs) F y z hd B v (.cons rfl r) P⟩) d g)
theorem a7S {pl:Sem Bool}(F:iV X.prog X.w X.K X.mg X.base CX k fa fd ps sp)(i:eO k X.A)(j:Binds X.K fd ps ds)(hd:Vals dvs ds)(n:gM CX X E)(p:PE X o ta)
  (r:eval (.Call (.Attribute o m apos) [] [] pos) X.env=(do
   let ov<-eval o X.env
   standAt apos.atName
   let (f,first)<-holding [ov] (getMethod ov m pl)
   callWith pos f first (backTo pos (starEach [] X.env)) (backToKw pos (keywordEach [] X.env))):=by rfl) :
  PE X (.Call (.Attribute o m apos) [] [] pos) (b3P X.K m fa sp dvs E ta rB):=by
 intro b s t H Q I h;refine XY (thn (p b s t H _ I h) λu z d=>?_) r;obtain⟨x,B,e,v,q⟩:=d;obtain⟨a,rfl,⟨C,D,fs,y,c,g,l⟩,q⟩:=vR.ex q;obtain rfl:u=Value.ref a:=v;exact jD e y c g l (W.callWith_K0 e.kIn g.kp (mZ (vs:=[.ref a]) F i j hd n e (.cons rfl .nil) q))
end
section
variable {tg:Expr}
def c8G (K:W.Frag)(c:TE):TI:=λd H R=>c d H λx b=>vR x λa=>((∃xs,SqL K b a xs)/\R (Itl K a) b)\/((∃xs,SqT K b a xs)/\R (Itt K a) b)
def c1L {l:Expr}{m:TE}(r:PE X l m):PI X tg l (c8G X.K m):=by
 intro f s t H R I h;refine thn (r f s t H _ I h) λv c i=>?_;obtain⟨x,n,d,u,w⟩:=i;obtain⟨a,e,q⟩:=vR.ex w;subst e;cases u;rcases q with ⟨⟨xs,j⟩,q⟩ | ⟨⟨xs,j⟩,q⟩
 ·obtain⟨g,y,p,z⟩:=d.list j;refine wpAny_pyIter_list p.isList ⟨c.heap.objs.size, [c.heap.objs.size],_,_,n,rfl,d.kept λb o e=>Yq _ e,vC a _,⟨_,YD _ rfl,rfl,rfl⟩,λb k=>?_,q⟩;have e:b=c.heap.objs.size:=by simpa using k
  subst e;exact d.fpOk (Yb _) (d.hok.fresh (Yb _))
 ·obtain⟨g,y,p,z⟩:=d.tuple j;refine wpAny_pyIter_tuple (p) ⟨c.heap.objs.size, [c.heap.objs.size],_,_,n,rfl,d.kept λb o e=>Yq _ e,a2L a _,⟨_,YD _ rfl,rfl,rfl⟩,λb k=>?_,q⟩;have e:b=c.heap.objs.size:=by simpa using k
  subst e;exact d.fpOk (Yb _) (d.hok.fresh (Yb _))
end
theorem b3R {K:W.Frag}{a:Addr}{xs:List V}{f:TT}{g:TE}{d:V->St}{H:Hp}{Q:VK}(c:Nat->List V->Hp->Prop)(j:∀i ys H,i<=xs.length->c i ys H->ys.length<sizeLine)(k:c 0 [] H)
  (l:∀i ys H,i<=xs.length->c i ys H->SqT K H a xs)
  (n:∀i x ys H,xs[i]? =some x->c i ys H->f (d x) H λb H3=>if b=true then g (d x) H3 λy H4=>c (i+1) (ys++[y]) H4 else c (i+1) ys H3)
  (hd:∀ys H,c xs.length ys H->∀p,H p=none->Q (.ref p) (upd H p (.lst ys))):qZ (Itt K a) f g d H Q:=by
 refine⟨λi m ys H=>m=xs.length-i/\i<=xs.length/\c i ys H,⟨xs.length,by simp,YW _,k⟩,?_⟩;rintro i m ys H ⟨rfl,h,p⟩;have q:=l i ys H h p;refine⟨j i ys H h p,?_⟩;by_cases hlt:i<xs.length
 ·refine .inr ⟨⟨xs,xs[i],q,by simp[hlt]⟩,c (i+1),λo r q=>⟨xs.length-(i+1),by lia,rfl,hlt,q⟩,λx r y=>?_⟩;obtain⟨e,y⟩:=y;grind
 ·have e:i=xs.length:=by lia
  subst e;exact .inl ⟨⟨xs,q,Yb _⟩,hd ys H p⟩
theorem b3S {K:W.Frag}{a:Addr}{xs:List V}{g:TT}{j:TE}{d:V->St}{H:Hp}{Q:VK}(h:SqA K H a xs)(e:Nat->List V->Prop)(l:∀i ys,i<=xs.length->e i ys->ys.length<sizeLine)(m:e 0 [])
  (n:∀i x ys,xs[i]? =some x->e i ys->g (d x) H λb H3=>if b=true then j (d x) H3 λy H4=>e (i+1) (ys++[y])/\H4=H else e (i+1) ys/\H3=H)
  (hd:∀ys,e xs.length ys->∀p,H p=none->Q (.ref p) (upd H p (.lst ys))):((∃xs,SqL K H a xs)/\qZ (Itl K a) g j d H Q)\/((∃xs,SqT K H a xs)/\qZ (Itt K a) g j d H Q):=by
 rcases h with h | h
 ·refine .inl ⟨⟨_,h⟩,dX (xs:=xs) (λi ys c=>e i ys/\c=H) (λi ys c f z=>l i ys f z.1) ⟨m,rfl⟩ (λi ys c f z=>by rw[z.2];exact h) ?_ ?_⟩
  ·rintro i x ys c k ⟨z,rfl⟩;exact n i x ys k z
  ·rintro ys c ⟨z,rfl⟩;exact hd ys z
 ·refine .inr ⟨⟨_,h⟩,b3R (xs:=xs) (λi ys c=>e i ys/\c=H) (λi ys c f z=>l i ys f z.1) ⟨m,rfl⟩ (λi ys c f z=>by rw[z.2];exact h) ?_ ?_⟩
  ·rintro i x ys c k ⟨z,rfl⟩;exact n i x ys k z
  ·rintro ys c ⟨z,rfl⟩;exact hd ys z
def MOk (P:Program)(w:World)(K:W.Frag)(mg:Str->Option Value)(base:Heap)(CX:CXT)(k:Nat)(C:Addr)(m:Str)(sp:Sp):Prop:=
 ∃fa fd ps,Cls K C/\Meth K C m fa/\iV P w K mg base CX k fa fd ps sp/\Binds K fd ps []
section
variable {value:Expr}{to tv:TE}{cpos pos' p:Pos}{f x:Str}{CX:CXT}{E:XK}{R:Addr->Sp->Prop}
def c2K (R:Addr->Sp->Prop)(m:Str)(E:XK)(d:TE)(t:TA):TE:=λb H Q=>d b H λx c=>vR x λa=>∃C dx fs sp,c a=some (.ins C dx fs)/\fs.lookup m=none/\R C sp/\t b c λe f=>sp (.ref a::e) f Q E
theorem a0Z {pl:Sem Bool}(y:∀C sp,R C sp->MOk X.prog X.w X.K X.mg X.base CX k C m sp)(z:eO k X.A)(B:gM CX X E)(D:PE X o ta)(G:PA X (e::es) t)
  (d:starEach (e::es) X.env=(false,eval e X.env)::starEach es X.env:=by rfl) (g:(backTo pos (starEach es X.env)).any (·.1)=false:=by rfl)
  (J:eval (.Call (.Attribute o m apos) (e::es) [] pos) X.env=(do
   let ov<-eval o X.env
   standAt apos.atName
   let (f,first)<-holding [ov] (getMethod ov m pl)
   callWith pos f first (backTo pos (starEach (e::es) X.env)) (backToKw pos (keywordEach [] X.env))):=by rfl) :
  PE X (.Call (.Attribute o m apos) (e::es) [] pos) (c2K R m E ta t):=by
 intro b s j H Q I h;refine XY (thn (D b s j H _ I h) λu L i=>?_) J;obtain⟨x,M,n,N,q⟩:=i;obtain⟨a,rfl,C,U,fs,sp,O,l,P,q⟩:=vR.ex q;obtain⟨V,W,Y,c,p,F,S⟩:=y C sp P;obtain rfl:u=Value.ref a:=N;exact jD n O c p l (Jm I.ok.mod.kin p.kp (thn (G pos b L j M _ n q) λus Z ⟨vs,H2,v,r,T⟩=>⟨v.kIn,mZ (vs:= .ref a::vs) F z S .nil B v (.cons rfl r) (by rw[Yv];exact T)⟩) d g)
structure MkB (K:W.Frag)(C:Addr):Prop where
 makes:W.makesIn K C=true
 init:W.findIn K (.ref C) "__init__"=some (some (.builtin "object.__init__"))
 kp:W.keepIn K (.ref C)=true
def b9D (C:Addr):TE:=λ_ H Q=>∀x dx,H x=none->H dx=none->dx≠x->Q (.ref x) (upd (upd H dx (.own x)) x (.ins C dx []))
def b1D (M:MkB X.K C)(d:Gl X x)(f:X.mg x=some (.ref C))(a:(x == ("__debug__":Str))=false:=by decide):PE X (.Call (.Name x p) [] [] pos) (b9D C):=by
 intro c s m H Q I h;refine Xe (oA I d f ?_ a);refine W.callWith_K0 I.kIn M.kp ?_;have g:=h (s.heap.objs.size+1) s.heap.objs.size (I.hok.fresh (XZ _)) (I.hok.fresh (Yb _)) (YQ (Xr _));have i:=Inv.made (C:=C) I;refine wpAny_call (a7T I.kIn M.makes M.init (λself=>W.Looks.of_pure (W.oi_bind self)) ?_);have Y:=W.makes_of (M:=model X.prog X.w) I.kIn M.makes;have j:((s.heap.push W.emptyDict).push (W.instObj C s.heap.objs.size)).get? (s.heap.objs.size+1)=some (W.instObj C s.heap.objs.size):=by
  have:=YD (s.heap.push W.emptyDict) (o:=W.instObj C s.heap.objs.size) rfl
  rwa [Heap.size_push]at this
 refine codeAny_call_builtin W.oi_plain W.entry_oi (@W.check_slot (model X.prog X.w) _ _ _ "object.__init__" "object" "__init__" (.ref (s.heap.objs.size+1)) [] [] _ W.oi_kind W.oi_split (((W.Looks.ld j).andThen .now).andThen (Y.top.keeps λb o e=>Yq _ (Yq _ e))) (W.oi_args (.ref (s.heap.objs.size+1))) ?_);exact Xd (And.intro rfl ⟨V.ref (s.heap.objs.size+1),_,i,rfl,g⟩)
end
end L2
namespace L2
open PySem
def eO.mo {j k:Nat}{A:Around}(r:eO k A)(h:j<=k:=by decide):eO j A:=r.mono h
end L2
namespace L2
open PySem PySem.Spec PyProof.Rows
section
variable {X:Cx}{o e e2:Expr}{to:TE}{t:TA}{apos cpos:Pos}
end
section
variable {X:Cx}{o e:Expr}{to:TE}{t:TA}{apos cpos:Pos}
def c7Q:R2:=λx y H Q=>vS x λi=>vS y λj=>Q (.bl (!(Builtin.Str.occurrences j i 0 j.length 1).isEmpty)) H
def c3D:OpR X (compareOp .In) c7Q:=a7K.imp λx y H Q h=>by
 obtain⟨i,rfl,a⟩:=vS.ex h;obtain⟨j,rfl,q⟩:=vS.ex a;exact⟨i,j,rfl,rfl,q⟩
def c4Y:List V->Hp->VK->Prop:=λxs H Q=>l1 xs λx=>vS x λz=>∃n,PySem.intText? z=some n/\z.length<=640/\Q (.int n) H
def b8T:gR X (.type "int") c4Y:=by
 intro a s d H xs e Q I r h;obtain⟨x,rfl,h⟩:=l1.ex h;obtain⟨z,rfl,n,b,c,q⟩:=vS.ex h;obtain⟨u,rfl,t,rfl⟩:=vals1 r;exact W.KIN.call_text b c ⟨.int _,H,I.tok _,⟨_,rfl⟩,q⟩
def c4R:List V->Hp->VK->Prop:=λxs H Q=>l1 xs λx=>vI x λi=>i.natAbs.log2<1920/\Q (.str (toString i)) H
def fV:gR X (.type "str") c4R:=yU.imp λxs H Q h=>by
 obtain⟨x,rfl,h⟩:=l1.ex h;obtain⟨i,rfl,a,b⟩:=vI.ex h;exact⟨i,rfl,a,b⟩
end
variable {X:Cx}
def c1Y (a:TE):TI:=λb H R=>a b H λx c=>vS x λz=>True/\R (Its z) c
def b2C {tg l:Expr}{a:TE}(b:PE X l a):PI X tg l (c1Y a):=(b6M (cH b)).imp λd H R h=>⟨_,h,λx e q=>by
 lia⟩
end L2
namespace L2
open PySem PySem.Spec PyProof.Rows PySem.Builtin PySem.Builtin.Str
section
variable {X:Cx}
end
end L2
namespace L2
open PySem PySem.Spec PyProof.Rows
section
variable {X:Cx}{es:List Expr}{t:TA}
end
section
variable {X:Cx}{o e:Expr}{to:TE}{t:TA}{apos cpos:Pos}
end
end L2
namespace L2
open PySem PySem.Spec PyProof.Rows
open PySem.Builtin PySem.Builtin.Str
section
variable {X:Cx}{st:Stmt}{rest:List Stmt}{t u:TS}{i:Nat}{x y z:Str}{a o:Expr}{ta to:TE}{pos pos' bp cp cp2 apos cpos:Pos}{j j2:Nat}
end
section
variable {X:Cx}{o e:Expr}{to:TE}{t:TA}{apos cpos:Pos}
theorem uY:∀(k:Tok)(xs:List Str),Vals (xs.map V.str) (strsFrom k xs)
 |_, []=> .nil
 |k,x::xs=> .cons ⟨_,rfl⟩ (uY _ xs)
def c0O:V->List V->Hp->VK->Prop:=λx a H Q=>∃z y:Str,x= .str z/\a= [.str y]/\(y.length == 0)=false/\z.length<=sizeLine/\(Txt.split z y).length<=sizeLine/\∀p,H p=none->Q (.ref p) (upd H p (.lst ((Txt.split z y).map V.str)))
def b2A:MtM X "str.split" c0O:=by
 intro a s i H x o v p Q I j l h;obtain⟨z,y,rfl,rfl,g,m,c,q⟩:=h;obtain⟨t,rfl⟩:=(show ∃t,v=Value.str z t from j)
 obtain⟨u,rfl,n⟩:=l.one;obtain⟨f,rfl⟩:=(show ∃t,u=Value.str y t from n)
 have one:∀{k:Tok},Txt.split z y= [z]->EP X a i Q (.ref s.heap.objs.size) { s with toks:=k,heap:=s.heap.push { cls:= .type "list",data:= .seq [Value.str z t].toArray } }:=λ{k} e=>by
  have d:=q _ (I.hok.fresh (Yb _));rw[e]at d c;exact⟨.ref s.heap.objs.size,upd H s.heap.objs.size (.lst ([z].map V.str)),I.laid (t':=k) (λb u e=>Yq _ e) (Yb _) (show _/\_ from ⟨c, [.str z t],0,.cons ⟨_,rfl⟩ .nil,YD _ rfl⟩),rfl,d⟩
 cases h1:(decide (z.length<y.length) || decide (strKind z<strKind y))
 ·cases hf:(occurrences z y 0 z.length (z.length+1)).isEmpty
  ·have e:Txt.split z y=partsBetween z (occurrences z y 0 z.length (z.length+1)) y.length:=(if_neg (ne_true_of_eq_false h1)).trans (if_neg (ne_true_of_eq_false hf));have d:=q _ (I.hok.fresh (Yb _));rw[e]at d c;refine Js F.slot_str_split (typeIs_str _ _ _) F.entry_str_split (F.args_str_split_2 _ _) (meets_str_split_sep z y t f h1 g hf m c) ?_;exact⟨.ref s.heap.objs.size,upd H s.heap.objs.size (.lst ((partsBetween z (occurrences z y 0 z.length (z.length+1)) y.length).map V.str)),I.laid (t':=s.toks+_) (λb u e=>Yq _ e) (Yb _) (show _/\_ from ⟨by rw[Ya];exact c,_,0,uY _ _,YD _ rfl⟩),rfl,d⟩
  ·exact Js F.slot_str_split (typeIs_str _ _ _) F.entry_str_split (F.args_str_split_2 _ _) (meets_str_split_not_found z y t f h1 g hf) (one ((if_neg (ne_true_of_eq_false h1)).trans (if_pos hf)))
 ·exact Js F.slot_str_split (typeIs_str _ _ _) F.entry_str_split (F.args_str_split_2 _ _) (meets_str_split_cannot_occur z y t f h1) (one (if_pos h1))
def c2G (to:TE)(t:TA):TE:=λa H Q=>to a H λx c=>vS x λz=>t a c λd b=>l1 d λy=>vS y λy=>(y.length == 0)=false/\z.length<=sizeLine/\(Txt.split z y).length<=sizeLine/\∀p,b p=none->Q (.ref p) (upd b p (.lst ((Txt.split z y).map V.str)))
theorem a0Y (f:PE X o to)(g:PA X [e] t)(b:attributeBase o "split" X.env (eval o X.env)=eval o X.env:=by rfl)
  (d:((backTo cpos (starEach [e] X.env)).all (λx=>!x.1) && (backToKw cpos (keywordEach [] X.env)).all (λx=>x.1.isSome)
   && decide (([e]:List Expr).length+([]:List Keyword).length+(if ([]:List Keyword).isEmpty then 0 else 1)<30))=true:=by rfl)
  (c:(apos.endLine == cpos.line)=true:=by rfl) (i:starEach [e] X.env=(false,eval e X.env)::starEach [] X.env:=by rfl) (a:(backTo cpos (starEach [] X.env)).any (·.1)=false:=by rfl) :
  PE X (.Call (.Attribute o "split" apos) [e] [] cpos) (c2G to t):=
 (a0S PySem.F.plainAttrs_str PySem.F.slot_str_split PySem.F.type_str_split b2A (cH f) (nC g) b d c i a).imp λn H Q h=>⟨_,h,λx p q=>by
  obtain⟨z,rfl,j⟩:=vS.ex q;refine⟨rfl,_,j,λr s k=>?_⟩;obtain⟨y,rfl,l⟩:=l1.ex k;obtain⟨y,rfl,m⟩:=vS.ex l
  exact⟨z,y,rfl,rfl,m⟩⟩
end
end L2
namespace L2
open PySem PySem.Builtin PySem.Builtin.Str
variable {c:Nat}
theorem a1R:∀{l1 l2 r1 r2:List Nat},c∉l1->c∉l2->l1++c::r1=l2++c::r2->l1=l2/\r1=r2
 |[], [],_,_,_,_,h=>⟨rfl,(Jl h).2⟩
 |[],y::l2,_,_,_,h2,h=>absurd (Yt) ((Jl h).1▸h2)
 |x::l1, [],_,_,h1,_,h=>absurd (Yt) ((Jl h).1.symm▸h1)
 | x::l1,y::l2,r1,r2,h1,h2,h=>by
  obtain⟨a,b⟩:=Jl h;obtain⟨p,q⟩:=a1R (λz=>h1 (Yp _ z)) (λz=>h2 (Yp _ z)) b;exact⟨by rw[a,p],q⟩
def xK {x y:Str}(h:x.cps.toList=y.cps.toList):x=y:=by
 obtain⟨⟨a⟩⟩:=x;obtain⟨⟨b⟩⟩:=y;have:a=b:=h;rw[this]
def jY (x y:Str):(x++y).cps.toList=x.cps.toList++y.cps.toList:=by
 show (x.cps++y.cps).toList=_;grind
def mQ (c:Nat):Str:=⟨#[c]⟩
theorem a1E:∀{A B:List Str},A≠ []->B≠ []->(∀x∈A,c∉x.cps.toList)->(∀x∈B,c∉x.cps.toList)->Str.join (mQ c) A=Str.join (mQ c) B->A=B
 |[],_,h,_,_,_,_=>absurd rfl h
 |_::_, [],_,h,_,_,_=>absurd rfl h
 |[x], [y],_,_,_,_,h=>by rw[show x=y from h]
 | [x],y::z::B,_,_,h1,_,h=>by
  have h':x=y++mQ c++Str.join (mQ c) (z::B):=h;have:=YJ (λs:Str=>s.cps.toList) h';simp only[jY]at this;exact absurd (by rw[this];simp[mQ]) (h1 x Yt)
 | x::w::A, [y],_,_,_,h2,h=>by
  have h':x++mQ c++Str.join (mQ c) (w::A)=y:=h;have:=YJ (λs:Str=>s.cps.toList) h';simp only[jY]at this;exact absurd (by rw[<-this];simp[mQ]) (h2 y Yt)
 | x::w::A,y::z::B,_,_,h1,h2,h=>by
  have h':x++mQ c++Str.join (mQ c) (w::A)=y++mQ c++Str.join (mQ c) (z::B):=h;have:=YJ (λs:Str=>s.cps.toList) h';simp only[jY,mQ,Yo]at this;obtain⟨p,q⟩:=a1R (c:=c) (h1 x Yt) (h2 y Yt) this;rw[xK p,a1E (A:=w::A) (B:=z::B) (by simp) (by simp) (λu hu=>h1 u (Yp _ hu)) (λu hu=>h2 u (Yp _ hu)) (xK q)]
def a9I (x y:Str):Txt.split x y≠ []:=by
 unfold Txt.split;split
 ·simp
 ·split
  ·simp
  ·intro h;have:=YJ List.length h;rw[length_partsBetween]at this;cases this
def join_split (x y:Str):Str.join y (Txt.split x y)=x:=by
 unfold Txt.split;split
 ·rfl
 ·split
  ·rfl
  ·rw[<-StrLaws.glued_eq_join];exact StrLaws.glued_between_self x y _
def tG {ws:List Str}(h:ws≠ [])(a:∀x∈ws,c∉x.cps.toList):Txt.split (Txt.join (mQ c) ws) (mQ c)=ws:=by
 refine a1E (a9I _ _) h (StrLaws.split_free _ c) a ?_;rw[join_split];show glued (mQ c) ws=_;rw[StrLaws.glued_eq_join]
end L2
namespace L2
open PySem PySem.Spec PyProof.Rows
section
variable {κ:Type}[DecidableEq κ]
def gP (kvs:List (κ×V))(k:κ):Option V:=(kvs.find? λa=>decide (a.1=k)).map (·.2)
noncomputable def putK (kvs:List (κ×V))(k:κ)(v:V):List (κ×V):=
 if (kvs.any λa=>decide (a.1=k))=true then kvs.map (λa=>if a.1=k then (a.1,v) else a) else kvs++[(k,v)]
def a8Y {k:κ}:gP ([]:List (κ×V)) k=none:=rfl
def gF {p:κ×V}{r:List (κ×V)}{k:κ}(e:p.1=k):gP (p::r) k=some p.2:=by simp[gP,Ja,e]
def gG {p:κ×V}{r:List (κ×V)}{k:κ}(e:¬ p.1=k):gP (p::r) k=gP r k:=by simp[gP,Ja,e]
theorem pH (k:κ):∀kvs:List (κ×V),(kvs.any λkv=>decide (kv.1=k))=(gP kvs k).isSome
 |[]=>rfl
 | p::r=>by
  rw[Jk];by_cases e:p.1=k
  ·simp only[gF e,Ym e,Bool.true_or,Option.isSome_some]
  ·rw[gG e,Yr e,Bool.false_or];exact pH k r
theorem zQ (k j:κ)(y:V):∀kvs:List (κ×V),gP (kvs.map λkv=>if kv.1=k then (kv.1,y) else kv) j=(gP kvs j).map λx=>if j=k then y else x
 |[]=>rfl
 | p ::r=>by
  have ih:=zQ k j y r;rw[Yz];by_cases h:p.1=k
  ·rw[if_pos h];by_cases e:p.1=j
   ·rw[gF (p:=(p.1,y)) e,gF e,Option.map_some,if_pos (e.symm.trans h)]
   ·rw[gG (p:=(p.1,y)) e,gG e,ih]
  ·rw[if_neg h];by_cases e:p.1=j
   ·rw[gF (p:=p) e,gF e,Option.map_some,if_neg (λz=>h (e.trans z))]
   ·rw[gG (p:=p) e,gG e,ih]
theorem vA (k j:κ)(y:V):∀kvs:List (κ×V),gP kvs k=none->gP (kvs++[(k,y)]) j=if j=k then some y else gP kvs j
 | [],_=>by
  by_cases e:k=j
  ·rw[if_pos e.symm];exact gF (p:=(k,y)) e
  ·rw[if_neg (λz=>e z.symm)];exact gG (p:=(k,y)) e
 | p::r,hn=>by
  rw[List.cons_append];have hk:¬ p.1=k:=λz=>by rw[gF z]at hn;cases hn
  rw[gG hk]at hn;have ih:=vA k j y r hn;by_cases e:p.1=j
  ·rw[gF e,gF e,if_neg (λz=>hk (e.trans z))]
  ·rw[gG e,gG e,ih]
def sW (kvs:List (κ×V))(k j:κ)(y:V):gP (putK kvs k y) j=if j=k then some y else gP kvs j:=by
 unfold putK;by_cases a:(kvs.any λb=>decide (b.1=k))=true
 ·rw [if_pos a,zQ];rw[pH]at a;by_cases e:j=k
  ·obtain⟨x,c⟩:=Option.isSome_iff_exists.mp a;grind
  ·rw[if_neg e];cases gP kvs j with
   |none=>rfl
   |some x=>rw[Option.map_some,if_neg e]
 ·rw[if_neg a];refine vA k j y kvs ?_;rw[pH]at a;cases q:gP kvs k with
  |none=>rfl
  |some x=>rw[q]at a;exact(a rfl).elim
def nD (kvs:List (κ×V))(k:κ)(v:V):(putK kvs k v).length<=kvs.length+1:=by
 unfold putK;grind
def nM.isSome_eq {o:Option V}{u:Option Value}(r:nM o u):o.isSome=u.isSome:=by
 cases o with
 | none=>cases u with
  |none=>rfl
  |some _=>exact(r).elim
 | some _=>cases u with
  |none=>exact(r).elim
  |some _=>rfl
def nM.getD {o:Option V}{u:Option Value}{d:V}{d':Value}(r:nM o u)(rd:RelV d d'):RelV (o.getD d) (u.getD d'):=by
 cases o with
 | none=>cases u with
  |none=>exact rd
  |some _=>exact(r).elim
 | some _=>cases u with
  |none=>exact(r).elim
  |some _=>exact r
def KV.val {kvs:List (κ×V)}{vs:List (κ×Value)}(r:KV kvs vs)(k:κ):nM (gP kvs k) (valueAt vs k):=by
 induction r with
 |nil=>exact True.intro
 | @cons p q ps qs h t ih=>
  obtain⟨c,d⟩:=h;by_cases e:p.1=k
  ·have a:=c.symm.trans e;have b:valueAt (q::qs) k=some q.2:=by simp[valueAt,Ja,a]
   rw[gF e,b];exact d
  ·have a:¬ q.1=k:=λz=>e (c.trans z);have b:valueAt (q::qs) k=valueAt qs k:=by simp[valueAt,Ja,a]
   rw[gG e,b];exact ih
def KV.any {kvs:List (κ×V)}{vs:List (κ×Value)}(r:KV kvs vs)(k:κ):(kvs.any λkv=>decide (kv.1=k))=vs.any λkv=>decide (kv.1=k):=by
 unfold KV at r;induction r with
 |nil=>rfl
 |cons h t ih=>rw[Jk,Jk,ih,h.1]
def KV.repl {kvs:List (κ×V)}{vs:List (κ×Value)}(r:KV kvs vs)(k:κ){y:V}{u:Value}(ry:RelV y u):
  KV (kvs.map λkv=>if kv.1=k then (kv.1,y) else kv) (vs.map λkv=>if kv.1=k then (kv.1,u) else kv):=by
 induction r with
 |nil=>exact .nil
 | @cons p q ps qs h t ih=>
  refine .cons ?_ ih;lia
def KV.put {kvs:List (κ×V)}{vs:List (κ×Value)}(r:KV kvs vs)(k:κ){y:V}{u:Value}(a:RelV y u):KV (putK kvs k y) (stored vs k u):=by
 unfold putK stored;rw[r.any k];by_cases e:(vs.any λb=>decide (b.1=k))=true
 ·rw[if_pos e,if_pos e];exact r.repl k a
 ·rw[if_neg e,if_neg e];exact Paired.snoc r ⟨rfl,a⟩
def KV.length {kvs:List (κ×V)}{vs:List (κ×Value)}(r:KV kvs vs):kvs.length=vs.length:=Paired.length r
end
variable {k:Nat}{o:Option V}{kvs:List (List Key×V)}{y:V}{u:Value}{P:Program}{w:World}{H:Hp}{xs:List (List Key×Addr×Value)}{b:Addr}{H':Hp}{Q:Value->Shared->Prop}{h':Heap}{X:Cx}{pins:List (Addr×Obj)}{σ:St}{s:Shared}{a:Addr}{cs:List Addr}{cl:List (Str×Addr)}{qual:Str}{e:Expr}{pos:Pos}{A:Around}{E:Value->Shared->Prop}{td:TE}{ty:TE}{i:Nat}{x:Str}{p:Pos}{es:List Expr}{t:TA}{K:W.Frag}
def vZ {k:Key}(r:RelV (kV k) u):(dW P w).is k u=true:=by
 cases k with
 |inl i=>obtain⟨t,e⟩:=(r);subst e;exact a0X P w i t
 |inr x=>obtain⟨t,e⟩:=(r);subst e;exact a0W P w x t
theorem wA:∀{ks:List Key}{us:List Value},Vals (ks.map kV) us->ItemsAre (dW P w) ks us
 |[],_,r=>by rw[List.map_nil]at r;cases r;exact .nil
 | k::ks,_,r=>by
  rw[Yz]at r;cases r with
  |cons h t=>exact .cons (vZ h) (wA t)
abbrev KT (H:Hp):List (List Key×V)->List (List Key×Addr×Value)->Prop:=Paired λp q=>p.1=q.1/\H q.2.1=some (.tup (p.1.map kV))/\RelV p.2 q.2.2
def KT.val (r:KT H kvs xs)(k:List Key):nM (gP kvs k) ((atKey xs k).map (·.2)):=by
 induction r with
 |nil=>exact True.intro
 | @cons p q ps qs h t ih=>
  obtain⟨c,_,d⟩:=h;by_cases e:p.1=k
  ·have a:=c.symm.trans e;have b:atKey (q::qs) k=some q.2:=by simp[atKey,Ja,a]
   rw[gF e,b];exact d
  ·have a:¬ q.1=k:=λz=>e (c.trans z);have b:atKey (q::qs) k=atKey qs k:=by simp[atKey,Ja,a]
   rw[gG e,b];exact ih
def KT.repl (r:KT H kvs xs)(k:List Key)(ry:RelV y u):
  KT H (kvs.map λkv=>if kv.1=k then (kv.1,y) else kv) (xs.map (putAt k u)):=by
 induction r with
 |nil=>exact .nil
 | @cons p q ps qs h t ih=>
  refine .cons ?_ ih;unfold putAt;lia
def KT.put (r:KT H kvs xs)(k:List Key)(c:H b=some (.tup (k.map kV)))(a:RelV y u):
  KT H (putK kvs k y) (storedH xs k b u):=by
 have e:(kvs.any λd=>decide (d.1=k))=(atKey xs k).isSome:=by
  rw[pH,(r.val k).isSome_eq,Option.isSome_map]
 unfold putK storedH;rw[e];by_cases q:(atKey xs k).isSome=true
 ·rw[if_pos q,if_pos q];exact r.repl k a
 ·rw[if_neg q,if_neg q];exact Paired.snoc r ⟨rfl,c,a⟩
def KT.keeps (r:KT H kvs xs)(a:∀b ys,H b=some (.tup ys)->H' b=some (.tup ys)):KT H' kvs xs:=
 Paired.mapP r λ_ _ z=>⟨z.1,a _ _ z.2.1,z.2.2⟩
section
variable {h:Heap}
def b8E {u:HO}(ok:HOk P w H h)(e:Rd H a u):gO P w H h a u:=e.ok ok
def a6A {kvs:List (Key×V)}(ok:HOk P w H h)(e:Rd H a (.dK kvs)):kvs.length<=sizeLine/\(a == sysModules)=false/\∃vs,KV kvs vs/\h.DictOf (dW P w) a vs:=
 show gO P w H h a (.dK kvs) from b8E ok e
def c5O {kvs:List (Key×V)}(ok:HOk P w H h)(e:H a=some (.dK kvs)):kvs.length<=sizeLine/\(a == sysModules)=false/\∃vs,KV kvs vs/\h.DictOf (dW P w) a vs:=a6A ok (.inl e)
def yI {b:List Key}(ok:HOk P w H h)(e:H a=some (.tup (b.map kV))):(tupleKind (dW P w)).is h b a:=by
 obtain⟨_,c,r,o,d,f,n,g⟩:=(ok a _ e)
 exact⟨o,c.toArray,n,d,f,g,by simpa using wA r⟩
def a5Z (ok:HOk P w H h)(e:Rd H a (.dT kvs)):kvs.length<=sizeLine/\(a == sysModules)=false/\
  ∃xs,KT H kvs xs/\h.DictOfH (tupleKind (dW P w)) a xs:=by
 obtain⟨z,y,xs,r,o,b,c,d,f,g,i,j⟩:=(b8E ok e)
 refine⟨z,y,xs,r,o,b,c,d,f,g,i,λx hx=>?_,j⟩;have all:∀{l:List (List Key×V)}{m:List (List Key×Addr×Value)},KT H l m->∀x∈m,(tupleKind (dW P w)).is h x.1 x.2.1:=by
  intro l m q;induction q with
  |nil=>intro x hx;exact nomatch hx
  | @cons p q ps qs hq t ih=>
   intro x hx;rcases YL.mp hx with e | hx
   ·exact yI ok (by lia)
   ·exact ih x hx
 exact all r x hx
theorem c5N (ok:HOk P w H h)(e:H a=some (.dT kvs)):kvs.length<=sizeLine/\(a == sysModules)=false/\
  ∃xs,KT H kvs xs/\h.DictOfH (tupleKind (dW P w)) a xs:=a5Z ok (.inl e)
end
def b7P (H:Hp)(a:Addr)(y:V)(r:Option V):Prop:=
 (∃kvs k,Rd H a (.dK kvs)/\y=kV k/\r=gP kvs k)\/∃kvs k b,Rd H a (.dT kvs)/\y= .ref b/\H b=some (.tup (k.map kV))/\r=gP kvs k
def c6I (H:Hp)(a:Addr)(y v:V)(H':Hp):Prop:=
 (∃kvs k,H a=some (.dK kvs)/\y=kV k/\kvs.length<sizeLine/\H'=upd H a (.dK (putK kvs k v)))\/
 ∃kvs k b,H a=some (.dT kvs)/\y= .ref b/\H b=some (.tup (k.map kV))/\kvs.length<sizeLine/\H'=upd H a (.dT (putK kvs k v))
section
variable {v:V}{r:Value}
def Inv.big (I:Inv X pins σ H s):sysModules<s.heap.objs.size:=by
 exact Jt (by decide) ((I.mod.glob.keeps I.bk).lt)
def c8E (m:A.units+1<cLine)(I:Inv X pins σ H s)(g:b7P H a y o)(j:RelV y u)(h:∀s',Inv X pins σ H s'->Q (.bool o.isSome) s'):
  wpAny (model X.prog X.w) A (compareOp .In u (.ref a)) Q E s:=by
 rcases g with ⟨d,k,e,f,l⟩ | ⟨d,k,b,e,f,n,l⟩
 ·subst f;obtain⟨z,hd,p,c,i⟩:=a6A I.hok e;refine wpAny_in_of (vZ j) hd i.mapOf ?_;rw[<-(c.val k).isSome_eq,<-l];exact h _ (I.tok _)
 ·subst f;cases (j);obtain⟨z,hd,xs,c,i⟩:=a5Z I.hok e;refine wpAny_in_heap (tupleKind_room_in1 m) (yI I.hok n) hd i ?_;have q:=(c.val k).isSome_eq;rw[Option.isSome_map]at q;rw[<-q,<-l];exact h _ (I.tok _)
def a6F {t':Nat}{c:HO}(I:Inv X pins σ H s)(f:Mut (H a))(g:Heap.SameBut a s.heap h')(h:∃q,h'.get? a=some q)(d:gO X.prog X.w (upd H a c) h' a c):
  Inv X pins σ (upd H a c) { s with heap:=h',toks:=t' }:=
 I.write f (.inl rfl) (λb q i z=>(g.2 b i).trans z) h d
theorem c2E {kvs:List (Key×V)}{vs:List (Key×Value)}(z:kvs.length<=sizeLine)(hd:(a == sysModules)=false)(b:KV kvs vs)(c:h'.DictOf (dW P w) a vs):
  gO P w H' h' a (.dK kvs):=⟨z,hd,vs,b,c⟩
def a8H {Q:Unit->Shared->Prop}(J:A.units+1<cLine)(I:Inv X pins σ H s)(g:c6I H a y v H')(B:RelV y u)(C:RelV v r)(h:∀s',Inv X pins σ H' s'->Q () s'):
  wpAny (model X.prog X.w) A (setItem (.ref a) u r) Q E s:=by
 rcases g with ⟨d,k,e,m,l,n⟩ | ⟨d,k,b,e,m,D,l,n⟩
 ·subst m n;obtain⟨z,hd,K,f,o⟩:=c5O I.hok e;have p:K.length<=sizeLine:=by rw[<-f.length];exact z
  have t:(putK d k v).length<=sizeLine:=by have:=nD d k v;lia
  refine wpAny_setItem_pairs (vZ B) o λF i x=>h _ ?_;have L:∃q,F.get? a=some q:=let ⟨q,_,_,j,_⟩:=i;⟨q,j⟩;exact a6F I (by rw[e];exact True.intro) x L (c2E t hd (f.put k C) i)
 ·subst m n;cases (B);obtain⟨z,hd,xs,f,o⟩:=c5N I.hok e;have p:xs.length<=sizeLine:=by rw[<-Paired.length f];exact z
  have t:(putK d k v).length<=sizeLine:=by have:=nD d k v;lia
  refine wpAny_setItem_heap (tupleKind_room_in1 J) (yI I.hok D) o λF i x=>h _ ?_;obtain⟨q,M,N,j,O,P,R,_,S⟩:=i;refine a6F I (by rw[e];exact True.intro) x ⟨q,j⟩ ⟨t,hd,_,(f.put k D C).keeps λc T G=>?_,q,M,N,j,O,P,R,S⟩;rw[aH (c4M G e (λz=>nomatch z))];exact G
end
section
variable {kvs:List (Key×V)}{k:Key}
end
def c6H (i:Expr):Prop:=∀ov iv,subscripted i false ov iv=operate [ov,iv] (getItem ov iv)
theorem b4O {prog:Program}{w:World}{A:Around}{E:Value->Shared->Prop}{s:Shared}{env:Env}{value slice:Expr}{pos:Pos}{T id:String}{Q:Value->Shared->Prop}
  (hl:typeLookup (.type T) "__getitem__"=pure (some (.builtin id))) (hs:c6H slice)
  (h:wpAny (model prog w) A (eval value env) (λo s₁=>wpAny (model prog w) A (eval slice env) (λi s₂=>s₂.TypeIs o T/\wpAny (model prog w) A (getItem o i) Q E s₂) E s₁) E s) :
  wpAny (model prog w) A (eval (.Subscript value slice pos) env) Q E s:=by
 refine Subscript_ (Y4 h (λo s₁ c=>Y4 c (λi s₂ a=>?_) λ_ _ x=>x) λ_ _ x=>x);obtain⟨e,a⟩:=a;refine YZ (YZ (wpAny_specialOf e hl ?_));have fin:wpAny (model prog w) A (subscripted slice false o i) (λr b=>wpAny (model prog w) A (letTemporaryGo value o r >>= λ_=>pure r) Q E b) E s₂:=by
  rw[hs o i];exact wpAny_operating (Y4 a (λr b d=>YZ (wpAny_letTemporaryGo (Xd d))) λ_ _ x=>x)
 first
  |exact Xd (YZ fin)
  |exact YZ (Xd (YZ fin))
  |exact YZ fin
def c6Z (d e:TE):TE:=λb H Q=>d b H λy f=>e b f λx c=>∃a o,x= .ref a/\b7P c a y o/\Q (.bl o.isSome) c
def c3Y (c d e:TE):TS:=λD b H=>e b H λv f=>c b f λx g=>d b g λy h=>∃a H4,x= .ref a/\c6I h a y v H4/\D.nx b H4
section
variable {o i value:Expr}{pos' tpos:Pos}{tv:TE}
def c0W (d:X.A.units+1<cLine)(e:PE X i ty)(f:PE X o td):PC X .In i o (c6Z ty td):=by
 intro b s c H Q I h;refine thn (e b s c H _ I h) λz j ⟨y,k,l,m,n⟩=>thn (f b j c k _ l n) λu B ⟨x,p,q,r,a,t,ex,g,v⟩=>?_;subst ex;obtain rfl:u=Value.ref a:=r;exact c8E d q g m λC w=>⟨.bl t.isSome,p,w,rfl,v⟩
def xU (d:X.A.units+1<cLine)(e:PE X o td)(f:PE X i ty)(j:PE X value tv)(k:swapsWith value (some (.Subscript o i pos')) pos.line X.env=pure false):
  PS X (.Assign [.Subscript o i pos'] value pos) (c3Y td ty tv):=by
 intro b s c H D I h;refine wpAny_Assign_Subscript (thn (j b s c H _ I h) λr l ⟨v,m,n,p,q⟩=>thn (e b l c m _ n q) λu t ⟨x,w,z,B,C⟩=>thn (f b t c w _ z C) λL M ⟨y,N,E,F,a,G,ex,g,J⟩=>?_) k;subst ex;obtain rfl:u=Value.ref a:=B;exact a8H d E g F p λO K=>⟨c,G,K,J⟩
end
def b3I (h:Heap)(a:sysModules<h.objs.size):gO P w H (h.push { cls:= .type "dict",data:= .dict #[] }) h.objs.size (.dK []):=
 ⟨YW _,Xo.mpr (Va (YQ a)), [],.nil,Heap.DictOf.new h⟩
def b3F (h:Heap)(a:sysModules<h.objs.size):gO P w H (h.push { cls:= .type "dict",data:= .dict #[] }) h.objs.size (.dT []):=
 ⟨YW _,Xo.mpr (Va (YQ a)), [],.nil,_, #[],0,YD _ rfl,⟨rfl,rfl,rfl⟩,rfl,rfl,XD⟩
def b9F:TE:=λ_ H Q=>∀p,H p=none->Q (.ref p) (upd H p (.dK []))
def b9E:TE:=λ_ H Q=>∀p,H p=none->Q (.ref p) (upd H p (.dT []))
def a0P:PE X (.Dict [] [] pos) b9F:=λb s c H Q I h=>
 wpAny_Dict_empty ⟨.ref s.heap.objs.size,_,I.laid (λ_ _ q=>Yq _ q) (Yb _) (b3I s.heap I.big),rfl,h _ (I.hok.fresh (Yb _))⟩
def b1F:PE X (.Dict [] [] pos) b9E:=λb s c H Q I h=>
 wpAny_Dict_empty ⟨.ref s.heap.objs.size,_,I.laid (λ_ _ q=>Yq _ q) (Yb _) (b3F s.heap I.big),rfl,h _ (I.hok.fresh (Yb _))⟩
structure M2 (X:Cx)(o:Expr)(m:Str)(apos:Pos)(e f:Expr)(cpos:Pos):Prop where
 base:attributeBase o m X.env (eval o X.env)=eval o X.env
 few:((backTo cpos (starEach [e,f] X.env)).all (λx=>!x.1) && (backToKw cpos (keywordEach [] X.env)).all (λx=>x.1.isSome)
  && decide (([e,f]:List Expr).length+([]:List Keyword).length+(if ([]:List Keyword).isEmpty then 0 else 1)<30))=true
 line:(apos.endLine == cpos.line)=true
 trees:backTo cpos (starEach [e,f] X.env)= [(false,eval e X.env),(false,eval f X.env)]
def IsD (H:Hp)(a:Addr):Prop:=(∃kvs,Rd H a (.dK kvs))\/∃kvs,Rd H a (.dT kvs)
def c1X (I:Inv X pins σ H s)(d:IsD H a):
  s.TypeIs (.ref a) "dict"/\(∀b,Value.ref a= .ref b->∃ob,s.heap.get? b=some ob/\ob.dict=none)/\(a == sysModules)=false:=by
 rcases d with ⟨f,e⟩ | ⟨f,e⟩
 ·obtain⟨_,hd,i,_,c⟩:=a6A I.hok e;refine⟨c.typeIs,λb q=>?_,hd⟩;cases q;obtain⟨ob,_,_,g,h,_⟩:=c;exact⟨ob,g,h.2.1⟩
 ·obtain⟨_,hd,xs,_,c⟩:=a5Z I.hok e;refine⟨c.typeIs,λb q=>?_,hd⟩;cases q;obtain⟨ob,_,_,g,h,_⟩:=c;exact⟨ob,g,h.2.1⟩
section
variable {d:V}{r:Value}
def c2F (p:A.units+1<cLine)(I:Inv X pins σ H s)(g:b7P H a y o)(m:RelV y u)(n:RelV d r)(h:∀w' s',Inv X pins σ H s'->RelV (o.getD d) w'->Q w' s'):
  wpAny (model X.prog X.w) A (call (.builtin "dict.get") [.ref a,u,r]) Q E s:=by
 rcases g with ⟨i,k,e,j,l⟩ | ⟨i,k,b,e,j,q,l⟩
 ·subst j;obtain⟨z,hd,t,c,f⟩:=a6A I.hok e;refine call_meetsIn PySem.F.slot_dict_get f.typeIs PySem.F.entry_dict_get (PySem.F.args_dict_get_3 _ _ _) (meets_dict_get_default (dW X.prog X.w) a (vZ m) hd r) ⟨_,f.mapOf,h _ _ (I.tok _) ?_⟩;rw[l];exact(c.val k).getD n
 ·subst j;cases (m);obtain⟨z,hd,xs,c,f⟩:=a5Z I.hok e;refine call_meetsIn PySem.F.slot_dict_get f.typeIs PySem.F.entry_dict_get (PySem.F.args_dict_get_3 _ _ _) (meetsH_dict_get_default (tupleKind (dW X.prog X.w)) a b hd r) ⟨tupleKind_room_in1 p,k,xs,yI I.hok q,f,h _ _ (I.tok _) ?_⟩;rw[l];exact(c.val k).getD n
end
def b9G (e f g:TE):TE:=λb H Q=>e b H λx c=>∃a,x= .ref a/\IsD c a/\f b c λy h=>g b h λz d=>∃o,b7P d a y o/\Q (o.getD z) d
section
variable {o f:Expr}{apos cpos:Pos}{tx:TE}
def a0Q (l:X.A.units+1<cLine)(n:PE X o td)(p:PE X e ty)(q:PE X f tx)(m:M2 X o "get" apos e f cpos):PE X (.Call (.Attribute o "get" apos) [e,f] [] cpos) (b9G td ty tx):=by
 intro b s c H Q I h;refine wpAny_Call_method m.base m.few m.line PySem.F.plainAttrs_dict PySem.F.slot_dict_get PySem.F.type_dict_get (thn (n b s c H _ I h) λu r i=>?_);obtain⟨x,t,k,v,a,ex,d,w⟩:=i;subst ex;obtain rfl:u=Value.ref a:=v;obtain⟨B,C,_⟩:=c1X k d;refine⟨B,C,?_⟩;rw[m.trees]
 exact Calls.callWith_builtin rfl (Calls.evalArgs_plain (JA (thn (p b r c t _ k w) λR D ⟨y,E,G,J,K⟩=>
  JA (thn (q b D c E _ G K) λS T ⟨z,L,M,N,U,g,O⟩=>Calls.spliced_nil (c2F l M g J N λV W P j=>⟨_,L,P,j,O⟩)))))
end
section
variable {kvs:List (Key×V)}
end
section
variable {κ:Type}[DecidableEq κ]
end
inductive a8Q (w:World):List DictEntry->List (Key×V)->Prop
 |nil:a8Q w [] []
 |cons {x:Str} {t:Tok} {v:V} {u:Value} {es:List DictEntry} {kvs:List (Key×V)}:RelV v u->a8Q w es kvs->a8Q w (⟨hashStr w x,.str x t,u⟩::es) ((.inr x,v)::kvs)
def wO (K:W.Frag)(w:World)(a:Addr)(kvs:List (Key×V)):Prop:=(a == sysModules)=false/\(kvs.map (·.1)).Nodup/\∃es n,K.lookup a=some ⟨.type "dict",none,.dict es.toArray n, #[]⟩/\a8Q w es kvs
theorem a8Q.ex:∀{es:List DictEntry}{kvs:List (Key×V)},a8Q w es kvs->∃vs:List (Key×Value),KV kvs vs/\Pairs (dW P w) es vs/\(∀e∈es,∃k,(dW P w).is k e.key=true/\e.hash=(dW P w).hash k)/\vs.map (·.1)=kvs.map (·.1)
 |_,_,.nil=>⟨[],.nil,.nil,λe he=>(by cases he),rfl⟩
 | _,_,.cons (x:=x) (t:=t) (u:=u) r h=>by
  obtain⟨vs,a,b,c,d⟩:=h.ex;refine⟨(.inr x,u)::vs,.cons ⟨rfl,r⟩ a,.cons (qO x t) rfl b,λe he=>?_,by rw[Yz,Yz,d]⟩;rcases YL.mp he with rfl | he
  ·exact⟨.inr x,qO x t,rfl⟩
  ·exact c e he
section
variable {kvs:List (Key×V)}
def wO.at (I:Inv X pins σ H s)(h:wO X.K X.w a kvs):∃vs,KV kvs vs/\s.heap.DictOf (dW X.prog X.w) a vs:=by
 obtain⟨_,b,c,n,e,d⟩:=h;obtain⟨vs,f,g,i,j⟩:=d.ex;exact⟨vs,f,_,c.toArray,n,I.kIn _ _ e,⟨rfl,rfl,rfl⟩,rfl,λx k=>i x (by simpa using k),by lia⟩
variable {o i:Expr}
def c3O (a:Addr)(kvs:List (Key×V))(c d:TE):TE:=λb H Q=>c b H λx e=>d b e λy f=>∃k v,x= .ref a/\y=kV k/\gP kvs k=some v/\Q v f
def c7B (f:Bool->Bool)(a:Addr)(kvs:List (Key×V))(c d:TE):TE:=λb H Q=>c b H λy e=>d b e λx g=>∃k,x= .ref a/\y=kV k/\Q (.bl (f (gP kvs k).isSome)) g
def xW (l:wO X.K X.w a kvs)(m:PE X o td)(n:PE X i ty)(p:c6H i):PE X (.Subscript o i pos) (c3O a kvs td ty):=by
 intro b s e H Q I h;refine b4O PySem.F.slot_dict_getitem.lookup p (thn (m b s e H _ I h) λu q ⟨x,r,t,z,A⟩=>thn (n b q e r _ t A) λL M ⟨y,B,f,C,k,v,ex,D,g,E⟩=>?_);subst ex;subst D;obtain rfl:u=Value.ref a:=z;obtain⟨G,c,j⟩:=l.at f;obtain⟨N,J,d⟩:=nM.some_of (by rw[<-g];exact c.val k);exact⟨j.typeIs,wpAny_getItem_of (vZ C) j.mapOf J ⟨v,B,f.tok _,d,E⟩⟩
def a7J (d:wO X.K X.w a kvs)(g:PE X i ty)(j:PE X o td):PC X .NotIn i o (c7B not a kvs ty td):=by
 intro b s e H Q I h;refine thn (g b s e H _ I h) λB l ⟨y,m,n,p,q⟩=>thn (j b l e m _ n q) λu C ⟨x,r,f,t,k,ex,v,z⟩=>?_;subst ex;subst v;obtain rfl:u=Value.ref a:=t;obtain⟨D,c,A⟩:=d.at f;refine wpAny_notIn_of (vZ p) d.1 A.mapOf ?_;rw[<-(c.val k).isSome_eq];exact⟨.bl _,r,f.tok _,rfl,z⟩
end
def lG (c:Addr)(v:V):HO:= .ext λh=>∃u,RelV v u/\h.IsCell c (some u)
def lX (c:Addr)(qual:Str):HO:= .ext λh=>h.CodeRec (.ref c) qual
def defName (s:Stmt):Str:=match s with
 |.FunctionDef n _ _ _ _ _ _ _ _ _=>n
 |_=>""
def FnO (f:Addr)(st:Stmt)(qual:Str)(cl:List (Str×Addr))(a:Addr):HO:=
 .ext λh=>∃doc pm ctv,h.get? f=some (W.fnMade (defName st) qual (jJ st) (fL st) (bD st) cl doc pm a ctv)
def oX (H:Hp)(cs:List Addr):Hp:=λb=>if b∈cs then none else H b
def zF (H H':Hp)(cs:List Addr):Hp:=λb=>if b∈cs then H b else H' b
def pR (h:b∈cs):oX H cs b=none:=by unfold oX;rw[if_pos h]
def fD (h:b∉cs):oX H cs b=H b:=by unfold oX;rw[if_neg h]
def a6G (h:b∈cs):zF H H' cs b=H b:=by unfold zF;rw[if_pos h]
def jQ (h:b∉cs):zF H H' cs b=H' b:=by unfold zF;rw[if_neg h]
def Cells (H:Hp)(cl:List (Str×Addr))(ys:List Str)(ws:List V):Prop:=
 cl.map (·.1)=ys/\(cl.map (·.2)).Nodup/\Paired (λ(p:Str×Addr) (v:V)=>H p.2=some (lG p.2 v)) cl ws
theorem Cells.at:∀{cl:List (Str×Addr)}{ws:List V},Paired (λ(p:Str×Addr) (v:V)=>H p.2=some (lG p.2 v)) cl ws->∀{i:Nat}{p:Str×Addr},cl[i]? =some p->∃v,ws[i]? =some v/\H p.2=some (lG p.2 v)
 |_,_,.nil,i,p,h=>by simp at h
 |_,_,.cons r t,0,p,h=>by simp at h;subst h;exact⟨_,rfl,r⟩
 |_,_,.cons r t,i+1,p,h=>Cells.at t (i:=i) (by simpa using h)
def Cells.is {ws:List V}(r:Paired (λ(p:Str×Addr) (v:V)=>H p.2=some (lG p.2 v)) cl ws){c:Addr}(h:c∈cl.map (·.2)):∃v,H c=some (lG c v):=by
 obtain⟨p,a,rfl⟩:=YS.mp h;obtain⟨i,b,e⟩:=X6 a;obtain⟨v,_,q⟩:=Cells.at r (by rw[Yd b,e]);exact⟨v,q⟩
structure zO (N ps ys:List Str)(sc:Scope):Prop where
 kind:sc.kind= .function
 co:sc.isCoroutine=false
 gen:sc.isGenerator=false
 nd:N.Nodup
 pre:N.take (ps.length+ys.length)=ps++ys
 par:∀x∈ps,sc.names.lookup x=some .local
 fre:∀x∈ys,sc.names.lookup x=some .free
 only:∀y∈sc.names,y.2≠ .cell/\(y.2= .free->y.1∈ys)
def tE (N:List Str)(vs ws:List V):St:=(vs++ws).map some++List.replicate (N.length-(vs++ws).length) none
noncomputable def cxC (P:Program)(w:World)(K:W.Frag)(mg:Str->Option Value)(base:Heap)(N:List Str)(qual:Str)(scope:Scope)(f:Addr)(cd:Value)(cl:List (Str×Addr))(A:Around)(outer:List Env)(s:Shared)(H:Hp):Cx where
 prog:=P
 w:=w
 K:=K
 mg:=mg
 base:=base
 A:=A.deeper (W.envX qual scope s.heap.objs.size f cd cl)
 N:=N
 s₀:=s
 H₀:=H
 env:=W.envX qual scope s.heap.objs.size f cd cl
 outer:=outer
 stack:=W.envX qual scope s.heap.objs.size f cd cl::outer
 ex:=[]
 calm:=true
 fn:=λ_=>false
 pn:=[]
 xe:=λ_ _=>False
theorem pN {α:Type}:∀{l:List (Str×α)}{x:Str}{u:α},(l.map (·.1)).Nodup->(x,u)∈l->l.lookup x=some u
 |[],_,_,_,h=>nomatch h
 | (y, v)::r,x,u,nd,h=>by
  rw[Yz,YV]at nd;rcases YL.mp h with e | h'
  ·cases e;rw[List.lookup_cons_self]
  ·have hne:(x == y)=false:=by
    rw[Xo];intro z;exact nd.1 (by rw[<-z];exact YS.mpr ⟨(x,u),h',rfl⟩)
   rw[XA,hne];exact pN nd.2 h'
def b2P {h:Heap}(x:HOk P w H h)(g:∀c∈cs,∃v,H c=some (lG c v))(k:∀b u,h.get? b=some u->h'.get? b=some u):HOk P w (oX H cs) h':=λa o e=>by
 have i:a∉cs:=λz=>by rw[pR z]at e;cases e
 rw[fD i]at e;have nx:∀b u,H b=some u->(∀d,u≠ .ext d)->b∉cs:=λb u q j z=>by
  obtain⟨v,f⟩:=g b z;rw[q]at f;exact j _ (Yu f)
 refine(x a o e).stay (λb u _ q=>k b u q) (λb q=>?_) λb xs q=>?_
 ·rw[fD (nx b _ q λd z=>by cases z)];exact q
 ·rw[fD (nx b _ q λd z=>by cases z)];exact q
theorem a3K {P:Program}{w:World}{K:W.Frag}{mg:Str->Option Value}{base:Heap}{N ps ys:List Str}{qual:Str}{scope:Scope}{f:Addr}{cd:Value}{cl:List (Str×Addr)}{A:Around}{outer:List Env}{s:Shared}{h':Heap}{tk:Nat}{H:Hp}{us:List Value}{vs ws:List V}
  (S:zO N ps ys scope) (hd:A.handled=none) (e0:uQ P w K mg base A outer s H) (hl:vs.length=ps.length) (r:Vals vs us) (hc:Cells H cl ys ws)
  (hn:h'.Ns s.heap.objs.size (λx=>(ps.zip us).reverse.lookup x)) (hk:∀b o,s.heap.get? b=some o->h'.get? b=some o) :
  Inv (cxC P w K mg base N qual scope f cd cl A outer s (oX H (cl.map (·.2)))) [] (tE N vs ws) (oX H (cl.map (·.2))) { s with heap:=h',toks:=tk }:=by
 obtain⟨t,X,G⟩:=hc;have l:∀c∈cl.map (·.2),∃v,H c=some (lG c v):=λc h=>Cells.is G h;have Y:cl.length=ws.length:=Paired.length G;have Z:cl.length=ys.length:=by rw[<-t,Ya]
 have a0:ps.length+ys.length<=N.length:=by have:=YJ List.length S.pre;rw[Yi,Yc]at this;lia
 have k:(ps++ys).Nodup:=by rw[<-S.pre];exact S.nd.sublist (List.take_sublist _ _)
 have I:=(Je.mp k).1;have B:=(Je.mp k).2.1;have O:∀x c,cl.lookup x=some c->c∈cl.map (·.2):=λx c h=>YS.mpr ⟨(x,c),Y5 h,rfl⟩;have old:∀c∈cl.map (·.2),c<s.heap.objs.size:=λc h=>by
  obtain⟨v,e⟩:=l c h;exact(e0.hok c _ e).lt
 refine⟨⟨e0.mod,S.kind,rfl,rfl,Yb _,λy z c J d=>?_,λy hy=>?_,(λy c h _=>by cases h),(λ_=>hd),Around.frames_deeper e0.frames,.inr ⟨rfl,rfl⟩,λb z=>absurd (show b∈([]:List Addr) from z) (by simp),λb o e=>⟨(e0.bs b o e).1,?_⟩,e0.bsz,λb _ _ z=>absurd (show b∈([]:List Addr) from z) (by simp),λb z=>absurd (show b∈([]:List Addr) from z) (by simp),e0.funs,λb E=>?_⟩,
  rfl,e0.bare,Un.kept hk,⟨_,hn,λi y v J d h3=>?_⟩,λy c h=>?_,?_,λy c h=>pR (O y c h),λp g=>absurd (show p∈([]:List (Addr×Obj)) from g) (by simp),b2P e0.hok l hk,?_⟩
 ·have m1:(y,c)∈cl:=Y5 J;have m2:(z,c)∈cl:=Y5 d;obtain⟨i,m,Q⟩:=X6 m1;obtain⟨j,hj,L⟩:=X6 m2;have:(cl.map (·.2))[i]? =(cl.map (·.2))[j]?:=by
   rw[Yn,Yn,Yd m,Yd hj,Q,L];rfl
  have:=(List.getElem?_inj (by rw[Ya];exact m) X).mp this;subst this;rw[Q]at L;exact YJ Prod.fst L
 ·have hy:scope.names.lookup y=some .cell\/scope.names.lookup y=some .free:=hy;have R:y∈ys:=by
   rcases hy with hy | hy
   ·exact absurd rfl (S.only _ (Y5 hy)).1
   ·exact(S.only _ (Y5 hy)).2 rfl
  rw[<-t]at R;obtain⟨p,g,rfl⟩:=YS.mp R;have q:cl.lookup p.1=some p.2:=pN (by rw[t];exact B) g;exact⟨p.2,q⟩
 ·by_cases E:b∈cl.map (·.2)
  ·exact pR E
  ·exact(fD E).trans (e0.bs b o e).2
 ·by_cases hb':b∈cl.map (·.2)
  ·exact pR hb'
  ·exact(fD hb').trans (e0.frf b E)
 ·have C:i<(vs++ws).length:=by
   unfold tE at d;by_cases m:i<(vs++ws).length
   ·exact m
   ·rw[YH (by simpa using m),List.getElem?_replicate]at d;split at d <;> cases d
  have F:(vs++ws)[i]? =some v:=by
   unfold tE at d;rw[YN (by simpa using C),Yn]at d;cases e:(vs++ws)[i]? with
   |none=>rw[e]at d;cases d
   |some a=>rw[e]at d;cases d;rfl
  rw[Yc]at C;have g:(ps++ys)[i]? =some y:=by
   rw[<-S.pre,Xu (by lia)];exact J
  by_cases m:i<ps.length
  ·rw[YN m]at g;rw[YN (by lia)]at F;obtain⟨u,hu,rv⟩:=r.get F;refine⟨u,rv,.inl ⟨S.par y (YF g),?_⟩⟩;have hm:(y,u)∈ps.zip us:=YF (i:=i) (by rw[List.getElem?_zip_eq_some];exact⟨g,hu⟩);have ul:us.length=ps.length:=by rw[<-r.length];exact hl
   refine pN ?_ (XC.mpr hm);unfold List.Nodup;rw[List.map_reverse,List.pairwise_reverse,List.map_fst_zip (by lia)];exact I.imp λh=>h.symm
  ·rw [YH (by lia)]at g;rw[YH (by lia),hl]at F;obtain⟨p,D,e⟩:∃p,cl[i-ps.length]? =some p/\p.1=y:=by
    rw[<-t,Yn]at g;exact YU.mp g
   obtain⟨v',T,q⟩:=Cells.at G D;rw[F]at T;cases T;obtain⟨⟨u,U,n⟩,_,st⟩:=e0.hok _ _ q;refine⟨u,U,.inr ⟨.inr (S.fre y (YF g)),p.2,?_,?_⟩⟩
   ·subst e;have q:cl.lookup p.1=some p.2:=pN (by rw[t];exact B) (YF D);exact q
   ·obtain⟨o,M,hd⟩:=n;exact⟨o,hk _ _ M,hd⟩
 ·obtain⟨v,e⟩:=l c (O y c h);obtain⟨⟨u,U,o,M,hd⟩,_,st⟩:=e0.hok _ _ e;exact⟨_,o,hk _ _ M,hd⟩
 ·show oX H _ s.heap.objs.size=none;rw[fD λz=>absurd (old _ z) (Y1 _)];exact e0.hok.fresh (Yb _)
 ·unfold tE;show _=N.length;rw[Yc,Ya,YA,Yc];lia
theorem c2O {P:Program}{w:World}{K:W.Frag}{mg:Str->Option Value}{base:Heap}{k:Nat}{f c':Addr}{st:Stmt}{qual:Str}{cl:List (Str×Addr)}{N ps ys:List Str}{A:Around}{outer:List Env}{s:Shared}{H:Hp}{args:Args}{us:List Value}{vs ws:List V}{Q:VK}{E:XK}
  (S:zO N ps ys (bD st)) (hr:eO (k+1) A) (e0:uQ P w K mg base A outer s H) (hf:H f=some (FnO f st qual cl c')) (hcd:H c'=some (lX c' qual)) (hc:Cells H cl ys ws) (hl:vs.length=ps.length) (r:Vals vs us)
  (hb:∀doc pm ctv,BindsTo s (W.fnX (defName st) qual (jJ st) (fL st) (bD st) cl .none .none doc pm none (.ref c') ctv) args (ps.zip us))
  (hbody:eO k (A.deeper (W.envX qual (bD st) s.heap.objs.size f (.ref c') cl))->∃t,PSs (cxC P w K mg base N qual (bD st) f (.ref c') cl A outer s (oX H (cl.map (·.2)))) (fL st) t/\
   t { nx:=λ_ H'=>Q .non (zF H H' (cl.map (·.2))),rt:=λv H'=>Q v (zF H H' (cl.map (·.2))) } (tE N vs ws) (oX H (cl.map (·.2)))) :
  codeAny (model P w) A (.call (.ref f) args) (CR CX0 outer P w H s Q E) s:=by
 obtain⟨⟨doc,pm,ctv,ho⟩,_,_⟩:=e0.hok _ _ hf;obtain⟨m,_,_⟩:=e0.hok _ _ hcd;have j:∀c∈cl.map (·.2),∃v,H c=some (lG c v):=λc h=>Cells.is hc.2.2 h;have G:s.heap.NoLimit:=e0.mod.nolimit.keeps λb o e=>(e0.bs b o e).1;have x:∀y∈ps.zip us,(bD st).names.lookup y.1=some .local:=λ⟨n,v⟩ L=>S.par n (Jo L).1;refine codeAny_call_function hr.depth ho rfl S.co S.gen rfl m (hb doc pm ctv _ _ _ _ ?_);refine wpAny_newFunctionEnv (λy L=>(S.only y L).1) x (λh' M O=>?_) S.kind;have Y:∀b o,s.heap.get? b=some o->h'.get? b=some o:=λb o e=>by
  have R:b≠s.heap.objs.size:=YQ (Yx e);rw[O.2 b R];exact Yq _ e
 refine⟨G.keeps Y,codeAny_func ?_⟩;obtain⟨t,ht,hq⟩:=hbody (hr.deeper _);have I:=a3K (qual:=qual) (f:=f) (cd:= .ref c') (tk:=s.toks+(ps.zip us).length) S hr.hd e0 hl r hc M Y;refine Y4 (ht [] _ _ _ _ I hq) (λfl B l=>?_) λe B l=>l.elim;have fin :∀{g:St}{H':Hp}{v:V}{u:Value},Inv (cxC P w K mg base N qual (bD st) f (.ref c') cl A outer s (oX H (cl.map (·.2)))) [] g H' B->RelV v u->Q v (zF H H' (cl.map (·.2)))->CE outer P w H s Q u B:=by
  intro g H' v u J T q;have nx:∀b u,H b=some u->(∀D,u≠ .ext D)->b∉cl.map (·.2):=λb u q M z=>by
   obtain⟨v,i⟩:=j b z;rw[q]at i;exact M _ (Yu i)
  have F:∀b,H b=none->b∉cl.map (·.2):=λb q z=>by
   obtain⟨v,i⟩:=j b z;rw[q]at i;cases i
  have Z:∀c∈cl.map (·.2),H' c=none:=λc hm=>by
   obtain⟨p,hp,rfl⟩:=YS.mp hm;have q:cl.lookup p.1=some p.2:=pN (by rw[hc.1];exact(Je.mp (show (ps++ys).Nodup by rw[<-S.pre];exact S.nd.sublist (List.take_sublist _ _))).2.1) hp;exact J.freeC p.1 p.2 q
  have un:=J.base;have a:Un (frs outer) [] (oX H (cl.map (·.2))) H' s.heap B.heap:=un;refine⟨v,zF H H' (cl.map (·.2)),J.os,J.bare,⟨λb o e n hb C=>a.keep b o e (by rw[fD (F b n)];exact n) hb C,λb o e n hb C=>a.slot b o e (by rw[fD (F b n)];exact n) hb C,λb o e n C=>?_,a.there,λb xs q=>?_,λb o u q=>?_,λb U q=>?_⟩,λb o e=>?_,T,q⟩
  ·rw[jQ (F b n)];exact a.free b o e (by rw[fD (F b n)];exact n) C
  ·have hb:=nx b _ q λD z=>by cases z
   rw[jQ hb];exact a.tups b xs (by rw[fD hb];exact q)
  ·have hb:=nx b _ q λD z=>by cases z
   rw[jQ hb];exact a.frzs b o u (by rw[fD hb];exact q)
  ·have hb:=nx b _ q λD z=>by cases z
   obtain⟨more,e⟩:=a.tbls b U (by rw[fD hb];exact q);exact⟨more,by rw[jQ hb];exact e⟩
  ·by_cases hb:b∈cl.map (·.2)
   ·rw [a6G hb]at e;obtain⟨v2,i⟩:=j b hb;have X:b∉frs outer:=λz=>by
     have:=e0.frf b z;rw[i]at this;cases this
    rw[i]at e;cases e;obtain⟨p,⟨ob,eo⟩,stb⟩:=e0.hok b _ i;have kk:∀u,s.heap.get? b=some u->B.heap.get? b=some u:=λu q=>a.keep b u q (pR hb) X (by simp);exact⟨stb _ _ p kk,⟨ob,kk _ eo⟩,stb⟩
   ·rw [jQ hb]at e;refine(J.hok b o e).stay (λd u _ q=>q) (λd q=>?_) λd xs q=>?_
    ·have hd:d∉cl.map (·.2):=λz=>by rw[Z d z]at q;cases q
     rw[jQ hd];exact q
    ·have hd:d∉cl.map (·.2):=λz=>by rw[Z d z]at q;cases q
     rw[jQ hd];exact q
 cases fl with
 | ret u=>
  obtain⟨v,g,H',J,T,q⟩:=l;exact fin J T q
 | next=>
  obtain⟨g,H',J,q⟩:=l;exact fin (v:=V.non) (u:=Value.none) J rfl q
 | brk=>
  obtain⟨_,_,_,q⟩:=l;exact False.elim q
 | cont=>
  obtain⟨_,_,_,q⟩:=l;exact False.elim q
def Bm (K:W.Frag)(mg:Str->Option Value)(bm:Addr):Prop:=mg "__builtins__"=some (.ref bm)/\bm≠builtinsNs/\bm≠mainGlobals/\∃o,K.lookup bm=some o/\o.cls= .type "module"/\o.dict=some builtinsNs/\o.data= .plain
def qR (P:Addr)(pos:Pos)(qual:Str)(H:Hp):Prop:=∃ps,H P=some (.tbl ps)/\TriplesOk ps.toList/\(codeAmong pos ps.toList=none\/∃c',codeAmong pos ps.toList=some (.ref c')/\H c'=some (lX c' qual))
def a8N (P:Addr)(pos:Pos)(a:Addr)(H:Hp):Prop:=∃ps,H P=some (.tbl ps)/\TriplesOk ps.toList/\codeAmong pos ps.toList=some (.ref a)
abbrev a3P (nm:Str)(params:Arguments)(body:List Stmt)(scope:Scope)(pos:Pos):Stmt:= .FunctionDef nm params body [] none [] scope none nm pos
theorem FnO.stb {st:Stmt}{a f:Addr}:∀h1 h2:Heap,(∃doc pm ctv,h1.get? f=some (W.fnMade (defName st) qual (jJ st) (fL st) (bD st) cl doc pm a ctv))->(∀o,h1.get? f=some o->h2.get? f=some o)->
  ∃doc pm ctv,h2.get? f=some (W.fnMade (defName st) qual (jJ st) (fL st) (bD st) cl doc pm a ctv):=λh1 h2 ⟨doc,pm,ctv,e⟩ k=>⟨doc,pm,ctv,k _ e⟩
def lX.stb {c:Addr}:∀h1 h2:Heap,h1.CodeRec (.ref c) qual->(∀o,h1.get? c=some o->h2.get? c=some o)->h2.CodeRec (.ref c) qual:=λh1 h2 x k=>by
 obtain⟨g,a,b,t,e,d,hd,f⟩:=x;cases e;exact⟨_,a,b,t,rfl,k _ d,hd,f⟩
section
variable {c0 P bm:Addr}{nm:Str}{params:Arguments}{body:List Stmt}{scope:Scope}
theorem c4P (I:Inv X pins σ H s)(m:X.env.code= .ref c0)(C:W.codeHdIn X.K c0 P=true)(hb:Bm X.K X.mg bm)(hT:qR P pos qual H)(M:closureFor scope X.env=pure cl)
  (h:∀f c' H' s',H f=none->((H P=some (.tbl #[])->H c'=none)/\(H c'=none\/a8N P pos c' H)/\a8N P pos c' H')->(∀b o,b≠P->H b=some o->H' b=some o)->qR P pos qual H'->H' c'=some (lX c' qual)->H' f=some (FnO f (a3P nm params body scope pos) qual cl c')->Inv X pins σ H' s'->Q (.ref f) s') :
  wpAny (model X.prog X.w) A (makeFunction nm qual params (.stmts body) scope X.env [] [] [] pos pos.line) Q E s:=by
 obtain⟨D,y,F,hh⟩:=hT;have p:s.heap.get? P=some (W.tabObj D):=I.hok _ _ y;have Y:=Yx p;have Z:=I.mod.glob.keeps I.bk;have CH:W.CodeHd s.heap c0 P:=W.codeHd_of_K I.kIn C;obtain⟨b1,b2,b3,ob,b4,b5,b6,b7⟩:=hb;have G:=I.kIn _ _ b4;have a0:mainGlobals≠P:=λq=>by
  obtain⟨o,es,ep,e,hd,_⟩:=Z;rw[q,p]at e;cases e;cases hd
 have a1:bm≠P:=λq=>by
  rw[q,p]at G;cases G;cases b5
 have hB:s.heap.BuiltinsAt X.mg P:=⟨bm,ob,b1,b2,b3,a1,G,b5,b6,b7⟩
 have nP:∀d u,H d=some u->(∀qs,u≠ .tbl qs)->d≠P:=λd u q hn z=>by
  rw[z,y]at q;exact hn _ (Yu q).symm
 rcases hh with N | ⟨c',O,R⟩
 ·refine W.makeFunction_K (mg:=X.mg) M I.ok.glob Z m CH p F N a0 hB λc' i j a tk hx r S T J=>?_;obtain⟨v,c⟩:∃v,v=W.fnMade nm qual params body scope cl j ((X.mg "__name__").getD .none) c' i:=⟨_,rfl⟩
  rw[<-c];have a2:a.objs.size≠P:=Nat.ne_of_gt (Yx J);have cne:c'≠P:=Nat.ne_of_gt (Yl Y r);have fc:a.objs.size≠c':=Nat.ne_of_gt S;have g:s.heap.objs.size<=a.objs.size:=YK r (XF S);have x:H a.objs.size=none:=I.hok.fresh g;have U:H c'=none:=I.hok.fresh r;obtain⟨H',B⟩:∃H',H'=upd (upd (upd H P (.tbl (D++#[rawInt pos.line,rawInt pos.col,.ref c']))) c' (lX c' qual)) a.objs.size (FnO a.objs.size (a3P nm params body scope pos) qual cl c'):=⟨_,rfl⟩
  have h1:H' a.objs.size=some (FnO a.objs.size (a3P nm params body scope pos) qual cl c'):=by rw[B,aC]
  have h2:H' c'=some (lX c' qual):=by rw[B,aH fc.symm,aC]
  have V:H' P=some (.tbl (D++#[rawInt pos.line,rawInt pos.col,.ref c'])):=by rw[B,aH a2.symm,aH cne.symm,aC]
  have h4:∀b,b≠P->b≠c'->b≠a.objs.size->H' b=H b:=λb n1 n2 n3=>by rw[B,aH n3,aH n2,aH n1]
  have k:∀b o,b≠P->H b=some o->H' b=some o:=λb o n q=>by
   have l:=(I.hok b o q).lt;rw[h4 b n (YQ (Yl l r)) (YQ (Yl l g))];exact q
  have L:∀b o,b≠P->s.heap.get? b=some o->(a.push v).get? b=some o:=λb o n q=>Yq _ (hx b o n q);have t1:TriplesOk (D++#[rawInt pos.line,rawInt pos.col,.ref c']).toList:=by rw[Array.toList_append];exact TriplesOk_snoc _ _ _ _ F
  have t2:codeAmong pos (D++#[rawInt pos.line,rawInt pos.col,.ref c']).toList=some (.ref c'):=by rw[Array.toList_append];exact codeAmong_snoc _ F N
  refine h a.objs.size c' H' _ x ⟨λ_=>U,.inl U,_,V,t1,t2⟩ k ⟨_,V,t1,.inr ⟨c',t2,h2⟩⟩ h2 h1 (I.call' (ch:=[]) rfl ⟨λb o e n _ _=>L b o (λz=>by rw[z,y]at n;cases n) e,λb o e n _ _=>⟨o.slots,L b o (λz=>by rw[z,y]at n;cases n) e⟩,λb o e n _=>?_,λb o e _=>?_,λb xs q=>k b _ (nP b _ q λ_ z=>by cases z) q,λb o u q=>k b _ (nP b _ q λ_ z=>by cases z) q,λb qs q=>?_⟩ (λb o e=>?_) I.bare (λb z=>absurd z (by simp)))
  ·have l:=Yx e;rw[h4 b (λz=>by rw[z,y]at n;cases n) (YQ (Yl l r)) (YQ (Yl l g))];exact n
  ·by_cases z:b=P
   ·rw[z];exact⟨_,Yq _ J⟩
   ·exact⟨o,L b o z e⟩
  ·by_cases z:b=P
   ·rw[z,y]at q;cases q;exact⟨_,by rw[z];exact V⟩
   ·exact⟨#[],by rw[k b _ z q];simp⟩
  ·by_cases z1:b=a.objs.size
   ·subst z1;rw[h1]at e;cases e;refine⟨⟨j,(X.mg "__name__").getD .none,i,?_⟩,⟨v,YD _ (by rw[c];rfl)⟩,FnO.stb⟩;rw[c];exact YD _ rfl
   ·by_cases z2:b=c'
    ·subst z2;rw[h2]at e;cases e;have hr:(a.push v).CodeRec (.ref b) qual:=lX.stb _ _ T λo q=>Yq _ q;obtain⟨c2,oc,vs,t,e2,ho,_⟩:=id hr;cases e2;exact⟨hr,⟨oc,ho⟩,lX.stb⟩
    ·by_cases z3:b=P
     ·subst z3;rw[V]at e;cases e;exact Yq _ J
     ·rw[h4 b z3 z2 z1]at e;refine(I.hok b o e).stay (λd u hd q=>L d u ?_ q) (λd q=>k d _ (nP d _ q λ_ z=>by cases z) q) λd xs q=>k d _ (nP d _ q λ_ z=>by cases z) q;rcases hd with rfl | hd
      ·exact z3
      ·exact nP d _ hd λ_ z=>by cases z
 ·refine W.makeFunction_hit (mg:=X.mg) M I.ok.glob Z m CH p F O hB λi j a tk hx g=>?_;obtain⟨v,c⟩:∃v,v=W.fnMade nm qual params body scope cl j ((X.mg "__name__").getD .none) c' i:=⟨_,rfl⟩
  have L:∀b o,s.heap.get? b=some o->(a.push v).get? b=some o:=λb o q=>Yq _ (hx b o q);have x:H a.objs.size=none:=I.hok.fresh g;have k:∀b o,H b=some o->upd H a.objs.size (FnO a.objs.size (a3P nm params body scope pos) qual cl c') b=some o:=λb o q=>by
   rw[aH (aO q x)];exact q
  rw[show (⟨.type "function",none,.func (W.fnX nm qual params body scope cl .none .none j ((X.mg "__name__").getD .none) none (.ref c') i), #[]⟩:Obj)=v from c.symm];refine h a.objs.size c' (upd H a.objs.size (FnO a.objs.size (a3P nm params body scope pos) qual cl c')) _ x ⟨(λe=>(by rw[y]at e;cases e;cases O)),.inr ⟨D,y,F,O⟩,D,k _ _ y,F,O⟩ (λb o _ q=>k b o q) ⟨D,k _ _ y,F,.inr ⟨c',O,k _ _ R⟩⟩ (k _ _ R) aC (I.call' (ch:=[]) rfl (Un.laid L g x) (I.hok.laid L g ?_) I.bare (λb z=>absurd z (by simp)));refine⟨⟨j,(X.mg "__name__").getD .none,i,?_⟩,⟨v,YD _ (by rw[c];rfl)⟩,FnO.stb⟩;rw[c];exact YD _ rfl
end
def PF (X:Cx)(a:List Stmt)(u:St->Hp->Prop)(b:Flow->Shared->Prop):Prop:=∀(pins:List (Addr×Obj))(s:Shared)(σ:St)(H:Hp),Inv X pins σ H s->u σ H->wpAny (model X.prog X.w) X.A (execs a X.env) b X.xe s
def c6M (t:TS)(u:St->Hp->Prop):St->Hp->Prop:=λa H=>t { nx:=u,rt:=λ_ _=>False } a H
section
variable {st:Stmt}{rest:List Stmt}{t:TS}{u:St->Hp->Prop}{Φ:Flow->Shared->Prop}
def a4X (h1:PS X st t)(h2:PF X rest u Φ):PF X (st::rest) (c6M t u) Φ:=by
 intro a s c H I h;refine Jr (thn (h1 a s c H _ I h) λf d q=>?_);cases f with
 | next=>
  obtain⟨b,e,g,q⟩:=q;exact h2 a d b e g q
 |ret v=>obtain⟨_,_,_,_,_,q⟩:=q;exact q.elim
 |brk=>obtain⟨_,_,_,q⟩:=q;exact q.elim
 |cont=>obtain⟨_,_,_,q⟩:=q;exact q.elim
def c6G (X:Cx)(y:Str)(Q:VK)(fl:Flow)(a:Shared):Prop:=∃g c w v σ2 H2 pins,fl= .ret (.ref g)/\Inv X pins σ2 H2 a/\X.env.cells.lookup y=some c/\RelV w v/\a.heap.IsCell c (some v)/\Q (.ref g) (upd H2 c (lG c w))
def uMk (P:Addr)(pos:Pos)(iq:Str)(st:Stmt)(y:Str)(iy:Nat)(Q:VK):St->Hp->Prop:=λa H=>∃w,a[iy]? =some (some w)/\qR P pos iq H/\
 ∀g c c' H3,H g=none->H c=none->((H P=some (.tbl #[])->H c'=none)/\(H c'=none\/a8N P pos c' H)/\a8N P pos c' H3)->(∀b o,b≠P->H b=some o->H3 b=some o)->qR P pos iq H3->H3 c'=some (lX c' iq)->H3 c=some (lG c w)->H3 g=some (FnO g st iq [(y,c)] c')->Q (.ref g) H3
theorem c4A {c0 P bm:Addr}{nm iq y:Str}{r:Arguments}{ib:List Stmt}{e:Scope}{pos p1 p2:Pos}{iy im:Nat}{Q:VK}(f:X.env.code= .ref c0)(C:W.codeHdIn X.K c0 P=true)(hb:Bm X.K X.mg bm)(G:∀c,X.env.cells.lookup y=some c->closureFor e X.env=pure [(y,c)])
  (hN:X.N.Nodup) (L:X.N[im]? =some nm) (h:X.env.scope.names.lookup nm=some .local) (hy:X.N[iy]? =some y) (i:X.env.scope.names.lookup y=some .cell) (M:iy≠im)
  (O:r.defaults= []) (R:r.kw_defaults= []) (ha:annTrees r none X.env= []) (hq:qualnameIn X.env nm nm=iq) (S:(nm == ("__debug__":Str))=false) (T:(nm == ("__classdict__":Str))=false) :
  PF X [a3P nm r ib e pos,.Return (some (.Name nm p1)) p2] (uMk P pos iq (a3P nm r ib e pos) y iy Q) (c6G X y Q):=by
 intro a s σ H I ⟨w,hw,hT,k⟩;obtain⟨c,t⟩:=I.ok.has y (.inl i);refine Jr (W.nestDef_K O R ha ?_);rw[hq];refine c4P I f C hb hT (G c t) λg c' H' s' hg j U V u x J=>?_;refine pI (v:= .ref g) J hN L (.inl h) rfl (λs2 J2=>?_) (.inr h);refine Jr (wpAny_Return_some ?_);have z:im<σ.length:=by rw[I.len];exact(Ye.mp L).1
 refine thn (a3C L (.inl h) S T a s2 (σ.set im (some (.ref g))) H' (λv l=>v= .ref g/\l=H') J2 ⟨_,List.getElem?_set_self z,rfl,rfl⟩) λv s3 ⟨v',l,Y,rv,e1,e2⟩=>?_;subst e1 e2;obtain rfl:v=Value.ref g:=rv;obtain⟨m,_,hl⟩:=Y.loc;obtain⟨uv,ru,lk⟩:=hl iy y w hy (by rw[Y9 (Va M)];exact hw) (.inr (.inl i));rcases lk with ⟨hk,_⟩ | ⟨_,c2,A,p⟩
 ·have B:X.env.scope.names.lookup y=some .local:=hk;rw[i]at B;cases B
 ·rw [t]at A;cases A;have D:=Y.freeC y c t;have E:=I.freeC y c t;refine⟨g,c,w,uv,_,l,a,rfl,Y,t,ru,p,k g c c' _ hg E ⟨j.1,j.2.1,?_⟩ (λb o n q=>?_) ?_ ?_ aC ?_⟩
  ·obtain⟨Z,F,a2,a3⟩:=j.2.2;exact⟨Z,by rw[aH (aO F D)];exact F,a2,a3⟩
  ·rw[aH (aO q E)];exact U b o n q
  ·obtain⟨Z,F,a2,a3⟩:=V;refine⟨Z,by rw[aH (aO F D)];exact F,a2,a3.imp id λ⟨d,d1,d2⟩=>⟨d,d1,by rw[aH (aO d2 D)];exact d2⟩⟩
  ·rw[aH (aO u D)];exact u
  ·rw[aH (aO x D)];exact x
end
theorem Fun.okM {P:Program}{w:World}{K:W.Frag}{mg:Str->Option Value}{base:Heap}{x qual y:Str}{st:Stmt}{f c0 P0:Addr}{B:FuncData}{N ps:List Str}{k:Nat}{sp:Sp}(F:Fun K x qual st f B)(i:B.code= .ref c0)(C:W.codeHdIn K c0 P0=true)(S:kI N ps (bD st))(a4:(bD st).names.lookup y=some .cell)(len:∀vs H Q E,sp vs H Q E->vs.length=ps.length)
  (j:∀(A:Around)(a:List Env)(s:Shared)(H:Hp)(vs:List V)(Q:VK)(E:XK),eO k (A.deeper (envOfC qual (bD st) s.heap.objs.size f (.ref c0)))->sp vs H Q E->
   ∃u,PF (uL CX0 P w K mg base N qual (bD st) f (.ref c0) A a s H E).nox (fL st) u (c6G (uL CX0 P w K mg base N qual (bD st) f (.ref c0) A a s H E).nox y Q)/\u (start N vs) H):iV P w K mg base CX0 (k+1) f B ps sp:=by
 obtain⟨oc,od,kV,a5,pm,an,D,ct,a6,rfl,lk,G⟩:=F.ex;have L:D= .ref c0:=i;subst L;refine⟨len,λA a s H a2 us vs Q E M m hb r p=>?_⟩;have hl:=len _ _ _ _ p;have KX:K.In s.heap:=m.mod.kin.keeps λb o e=>(m.bs b o e).1;have O:s.heap.NoLimit:=m.mod.nolimit.keeps λb o e=>(m.bs b o e).1;have l:∀y∈ps.zip us,(bD st).names.lookup y.1=some .local\/((bD st).names.lookup y.1=some .cell/\((cellsFrom (s.heap.objs.size+1) (bD st).names []).lookup y.1).isSome=true):=λ⟨n,v⟩ hy=>by
  rcases S.par n (Jo hy).1 with q | q
  ·exact .inl q
  ·exact .inr ⟨q,W.cellsFrom_some _ _ _ (.inl q)⟩
 refine codeAny_call_function M.depth (KX _ _ lk) rfl S.co S.gen rfl (W.codeRec_of KX G) (hb _ _ _ _ ?_);refine wpAny_newFunctionEnv_cells S.kind l λa7 R s1 xx=>?_;subst R;refine⟨O.keeps xx.toInCall.keep,codeAny_func ?_⟩;obtain⟨u,hu,hq⟩:=j A a s H vs Q E (M.deeper _) p;refine Y4 (hu [] s1 (start N vs) H ((wB S M.hd m hl r xx).wish _) hq) (λfl T U=>?_) λe T U=>U.elim;obtain⟨g,c,wv,v,a8,H2,a3,rfl,J,hc,rv,h,q⟩:=U;have X:s.heap.objs.size<=c:=J.ok.cab y c rfl hc;have t:=J.freeC y c hc;have un:Un (frs a) [] H H2 s.heap T.heap:=J.base;have Y:∃o,T.heap.get? c=some o:=by obtain⟨o,ho,_⟩:=h;exact⟨o,ho⟩
 have Z:∀b o,s.heap.get? b=some o->b≠c:=λb o e=>YQ (Yl (Yx e) X);refine⟨.ref g,upd H2 c (lG c wv),J.os,J.bare,⟨un.keep,un.slot,λb o e n R=>?_,un.there,λb xs z=>?_,λb o u' z=>?_,λb qs z=>?_⟩,λb o e=>?_,rfl,q⟩
 ·rw[aH (Z b o e)];exact un.free b o e n R
 ·have:=un.tups b xs z;rw[aH (aO this t)];exact this
 ·have:=un.frzs b o u' z;rw[aH (aO this t)];exact this
 ·obtain⟨more,z2⟩:=un.tbls b qs z;exact⟨more,by rw[aH (aO z2 t)];exact z2⟩
 ·by_cases hbc:b=c
  ·subst hbc;rw[aC]at e;cases e;refine⟨⟨v,rv,h⟩,Y,λh1 h2 ⟨v1,r1,o1,a0,a1⟩ kk=>⟨v1,r1,o1,kk _ a0,a1⟩⟩
  ·rw[aH hbc]at e;refine(J.hok b o e).stay (λd u' _ z=>z) (λd z=>?_) λd xs z=>?_
   ·rw[aH (aO z t)];exact z
   ·rw[aH (aO z t)];exact z
def b8J (P:Program)(w:World)(K:W.Frag)(mg:Str->Option Value)(base:Heap)(k:Nat)(a:Addr->List V->Hp->VK->Prop):Prop:=
 ∀(f:Addr)(A:Around)(outer:List Env)(s:Shared)(H:Hp)(us:List Value)(vs:List V)(Q:VK),eO k A->uQ P w K mg base A outer s H->Vals vs us->a f vs H Q->codeAny (model P w) A (.call (.ref f) ⟨us, []⟩) (CR CX0 outer P w H s Q E0) s
section
variable {spc:Addr->List V->Hp->VK->Prop}
end
def b4C (ts:List Addr)(H:Hp):Prop:=(∀P∈ts,H P=some (.tbl #[]))/\∀b,b∈ts\/H b=none\/∃o xs,H b=some (.frz o (.lst xs))
theorem a7Y {P:Program}{w:World}{K:W.Frag}{mg mb:Str->Option Value}{CX:CXT}{k:Nat}{fa a:Addr}{fd:FuncData}{x:Str}{sp:Sp}{s₁:Shared}{vs:List Value}{ns:List Int}{ts:List Addr}
    (hts:∀T∈ts,K.lookup T=none/\s₁.heap.get? T=some (W.tabObj #[])/\isCodeTable s₁.heap T)
    (KX:K.In s₁.heap) (hns:s₁.heap.Ns mainGlobals mg) (hb:s₁.heap.Ns builtinsNs mb) (hbb:∀x:Str,x≠"__name__"->mb x=bootBuiltins x) (hlim:s₁.heap.NoLimit) (hg:s₁.gens=#[])
    (ha:s₁.heap.get? a=some { cls:= .type "list",data:= .seq vs.toArray }) (hi:IntsAre vs ns) (hl:ns.length<=sizeLine) (hr:eO k callerA)
    (F:∀base:Heap,K.In base->base.Ns mainGlobals mg->iV P w K mg base CX k fa fd [x] sp) (hbind:∀(s:Shared)(u:Value),BindsTo s fd ⟨[u], []⟩ [(x,u)])
    (hsp:∀H:Hp,b4C ts H->SqL K H a (ns.map V.int)->sp [.ref a] H (λv _=>v= .bl true) λ_ _ _=>False)
    (hCX:∀H e s',CX [] H s₁ (λ_ _ _=>False) e s'->False) :
    codeAny (model P w) callerA (.call (.ref fa) ⟨[.ref a], []⟩) (λr s'=>r= .ok (.ret (.bool true))/\OldK s₁.heap s'.heap/\s'.os=s₁.os/\AllBare s'.gens) s₁:=by
  have U:=uZ hi;have A:=hi.length;have aT:a∉ts:=λz=>by
    have:=(hts a z).2.1;rw[ha]at this;cases this
  have l : ∀g:Hp,(∀b,g b=none\/∃o xs,g b=some (.frz o (.lst xs)))->SqL K g a (ns.map V.int)->HOk P w g s₁.heap->(∀b,g b≠none->b=a)->(g a≠none->K.lookup a=none)->
      codeAny (model P w) callerA (.call (.ref fa) ⟨[.ref a], []⟩) (λr s'=>r= .ok (.ret (.bool true))/\OldK s₁.heap s'.heap/\s'.os=s₁.os/\AllBare s'.gens) s₁:=by
    intro g B J p i L;obtain⟨H,X⟩:∃H:Hp,H=λb=>if b∈ts then some (.tbl #[]) else g b:=⟨_,rfl⟩
    have y:∀b,b∈ts->H b=some (.tbl #[]):=λb z=>by rw[X];exact if_pos z
    have c:∀b,b∉ts->H b=g b:=λb z=>by rw[X];exact if_neg z
    have M:∀b,b∈ts->g b=none:=λb z=>by
      cases q:g b with
      |none=>rfl
      |some u=>exact absurd (by rw[<-i b (by rw[q];simp)];exact z) aT
    have sub:∀b u,g b=some u->H b=some u:=λb u q=>by
      rw[c b λz=>by rw[M b z]at q;cases q];exact q
    have hO:b4C ts H:=⟨y,λb=>by
      by_cases z:b∈ts
      · exact .inl z
      · rw[c b z];exact .inr (B b)⟩
    have hS:SqL K H a (ns.map V.int):=by
      rcases J with (h | ⟨o,h⟩) | h
      · exact .inl (.inl (sub _ _ h))
      · exact .inl (.inr ⟨o,sub _ _ h⟩)
      · exact .inr h
    have N:HOk P w H s₁.heap:=λb u e=>by
      by_cases z:b∈ts
      · rw[y b z]at e;cases e;exact(hts b z).2.1
      · rw[c b z]at e;exact(p b u e).stay (λ_ _ _ q=>q) (λd q=>sub d _ q) λd xs q=>sub d _ q
    have fr:∀{b:Addr}{o:Obj},s₁.heap.get? b=some o->o.cls≠ .none->b≠a->H b=none:=λ{b o} e hc O=>by
      grind
    have f:∀{b:Addr}{o:Obj},s₁.heap.get? b=some o->H b=none->(yL s₁.heap H).get? b=some o:=λe n=>b2O e n;have Q:∀{b:Addr}{o:Obj}{G:Array DictEntry}{I:Nat},s₁.heap.get? b=some o->o.data= .dict G I->H b=none:=λ{b o G I} e d=>by
      grind
    have j:∀{b:Addr}{m:Str->Option Value},s₁.heap.Ns b m->(yL s₁.heap H).Ns b m:=λ{b m} ⟨o,G,I,e,d,r⟩=>⟨o,G,I,f e (Q e d),d,r⟩
    have C:K.In (yL s₁.heap H):=λb o e=>f (KX b o e) (by
      grind)
    have hM:Mod K mg (yL s₁.heap H):=⟨C,j hns,⟨mb,j hb,hbb⟩,let ⟨mc,h1,h2⟩:=hlim;⟨mc,j h1,h2⟩⟩
    have e0:uQ P w K mg (yL s₁.heap H) callerA [] s₁ H:=⟨rfl,hM,λb o e=>b6F e,Nat.le_of_eq (a8A _ _),trivial,λb hb=>absurd (show b∈([]:List Addr) from hb) (by simp),N,.of_eq hg⟩
    refine Jz ((F _ C (j hns)).run callerA [] s₁ H ⟨[.ref a], []⟩ [.ref a] [.ref a] _ _ hr e0 (hbind s₁ (.ref a)) (.cons rfl .nil) (hsp H hO hS)) λr s' h=>?_;cases r with
    |error e=>exact(hCX H e s' h).elim
    | ok fl =>
      cases fl with
      |next=>exact False.elim h
      |brk=>exact False.elim h
      |cont=>exact False.elim h
      | ret u =>
        obtain⟨v,H',os,D,un,t,r',q⟩:=h;have q':v= .bl true:=q;subst q';obtain rfl:u=Value.bool true:=r';refine⟨rfl,⟨λb o e=>?_,λb o e=>un.there b o e (by simp)⟩,os,D⟩;by_cases z:b∈ts
        · obtain⟨t1,Y,t3⟩:=hts b z;rw[e]at Y;cases Y;obtain⟨more,S⟩:=un.tbls b #[] (y b z);have e3:s'.heap.get? b=some { cls:= .none,data:= .fields (#[]++more) }:=t b _ S;exact .inr (.inl ⟨t3,rfl, #[],more,rfl,e3⟩)
        · refine .inl ?_;cases q:g b with
          |none=>exact un.keep b o e (by rw[c b z];exact q) (λz=>absurd (show b∈([]:List Addr) from z) (by simp)) (by simp)
          | some u=>
            rcases B b with E | ⟨ob,xs,E⟩
            · rw[q]at E;cases E
            · have z2:=un.frzs b ob _ (sub _ _ E);obtain⟨Z,_⟩:=p b _ E;obtain⟨S,_⟩:=t b _ z2;rw[e]at Z;cases Z;exact S
  cases hk:K.lookup a with
  | some o=>
    have e:=KX a o hk;rw[ha]at e;cases e;refine l (λ_=>none) (λ_=> .inl rfl) (.inr ⟨_,vs.toArray,_,hk,rfl,rfl,rfl,by rw[YE,A];exact hl,by simpa using U⟩) (λb u z=>by cases (show (none:Option HO)=some u from z)) (λb z=>absurd rfl z) λz=>absurd rfl z
  | none =>
    refine l (λb=>if b=a then some (.frz { cls:= .type "list",data:= .seq vs.toArray } (.lst (ns.map V.int))) else none) (λb=>?_) (.inl (.inr ⟨{ cls:= .type "list",data:= .seq vs.toArray },if_pos rfl⟩)) (λb u z=>?_) (λb z=>?_) λ_=>hk
    · by_cases hb:b=a
      · exact .inr ⟨_,_,if_pos hb⟩
      · exact .inl (if_neg hb)
    · by_cases hb:b=a
      · cases (if_pos hb).symm.trans z;subst hb;exact⟨ha,by rw[Ya];exact hl,vs,_,U,ha⟩
      · cases (if_neg hb).symm.trans z
    · by_cases hb:b=a
      · exact hb
      · exact absurd (if_neg hb) z
theorem walk_ofT {l:W.OpenLaw}{n k:Nat}{q:Program}{loose:List Str}{XP:(Str->Option Value)->Heap->Prop}{YP:World->Heap->Prop}{d:DefRec}{K:Params->W.Frag}{CX:World->CXT}{sp:World->Sp}{x:Str}{tc:List (Addr×Addr)}
  (J:l.most=some n) (r:n<=sizeLine) (y:d.params.defaults= []) (L:eO k callerA)
  (M:∀(w:World)(h:Heap),YP w h->(K w.params).In h/\∀q∈tc,(K w.params).lookup q.2=none/\h.get? q.2=some (W.tabObj #[])/\W.codeHdIn (K w.params) q.1 q.2=true)
  (F : ∀(w:World)(mg:Str->Option Value)(p:Addr)(h:Heap),(K w.params).In h->h.Ns mainGlobals mg->mg d.name=some (.ref p)->
   ∃ fd:FuncData,(∀(s:Shared)(u:Value),BindsTo s fd ⟨[u], []⟩ [(x,u)])/\
    ∀base:Heap,(K w.params).In base->base.Ns mainGlobals mg->iV l.prog w (K w.params) mg base (CX w) k p fd [x] (sp w))
  (z:∀(w:World)(H:Hp)(a:Addr)(ns:List Int),ns.length<=n->b4C (tc.map (·.2)) H->SqL (K w.params) H a (ns.map V.int)->sp w [.ref a] H (λv _=>v= .bl true) λ_ _ _=>False)
  (A:∀(w:World)(H:Hp)(s:Shared)(e:Value)(B:Shared),CX w [] H s (λ_ _ _=>False) e B->False) :
  W.WalkO q loose XP YP l.row.toRowW d [] (λf vs=>PySem.call f vs):=by
 refine Att.attach_call J y λw E j mg mb p o pm cd N a vs ns G Y ho hd O C m i c P=>?_;obtain⟨D,T⟩:=M w _ Y;obtain⟨fd,Q,R⟩:=F w mg p _ D G.T.g C;refine a7Y (λt S=>?_) D G.T.g G.T.b G.T.builtins G.T.nolimit P m i (YK c r) L R Q (λH U X=>z w H a ns c U X) λH e B=>A w H j e B;obtain⟨q,Z,rfl⟩:=YS.mp S;obtain⟨t1,I,t3⟩:=T q Z;exact⟨t1,I,((W.codeHd_of_K D t3).tab I).isCodeTable⟩
section
variable {c0 P bm:Addr}{params:Arguments}{body:Expr}{scope:Scope}
end
def FnE (K:W.Frag)(H:Hp)(f:Addr):Prop:=(∃oc od fd sl,K.lookup f=some ⟨oc,od,.func fd,sl⟩)\/∃φ,H f=some (.ext φ)/\∀h,φ h->W.FnAt f h
def b9I (K:W.Frag)(a:Addr->List V->Hp->VK->Prop)(i:Nat)(t:TA):TE:=λb H Q=>∃f,b[i]? =some (some (.ref f))/\FnE K H f/\t b H λd c=>FnE K c f/\a f d c Q
section
variable {spc:Addr->List V->Hp->VK->Prop}
def FnE.at {f:Addr}(I:Inv X pins σ H s)(h:FnE X.K H f):W.FnAt f s.heap:=by
 rcases h with ⟨a,b,c,d,e⟩ | ⟨g,e,z⟩
 ·exact⟨a,b,c,d,I.kIn _ _ e⟩
 ·exact z _ (I.hok _ _ e).1
def b1I (F:b8J X.prog X.w X.K X.mg X.base k spc)(hr:eO k X.A)(hv:PE X (.Name x p) (b4M i))(ha:PA X (e::es) t)(hK:X.K=K:=by rfl)(he:starEach (e::es) X.env=(false,eval e X.env)::starEach es X.env:=by rfl)(hpl:(backTo pos (starEach es X.env)).any (·.1)=false:=by rfl):
  PE X (.Call (.Name x p) (e::es) [] pos) (b9I K spc i t):=by
 subst hK;intro a s g H Q I ⟨f,j,l,m⟩;refine Xe (thn (hv a s g H (λv n=>v= .ref f/\n=H) I ⟨_,j,rfl,rfl⟩) λu o c=>?_);obtain⟨v,q,h,y,z,B⟩:=c;subst z B;obtain rfl:u=Value.ref f:=y;refine W.callWith_F (l.at h) (thn (ha pos a o g q _ h m) λC D ⟨E,G,d,r,J,L⟩=>⟨J.at d,wpAny_call (Jz (F f X.A X.stack D G C E Q hr d.env0 r L) λr M b=>?_)⟩) he hpl;cases r with
 |error e=>exact b.elim
 | ok fl=>
  cases fl with
  |ret u=>exact d.after b
  |next=>exact False.elim b
  |brk=>exact False.elim b
  |cont=>exact False.elim b
end
def a4Y:PE X e (λ_ _ _=>False):=λ_ _ _ _ _ _ h=>h.elim
def jU (CX:CXT)(P:Program)(w:World)(K:W.Frag)(mg:Str->Option Value)(base:Heap)(k:Nat)(a:Addr->Sp):Prop:=
 ∀(f:Addr)(A:Around)(outer:List Env)(s:Shared)(H:Hp)(us:List Value)(vs:List V)(Q:VK)(E:XK),eO k A->uQ P w K mg base A outer s H->Vals vs us->a f vs H Q E->codeAny (model P w) A (.call (.ref f) ⟨us, []⟩) (CR CX outer P w H s Q E) s
def b9H (K:W.Frag)(a:Addr->Sp)(E:XK)(i:Nat)(t:TA):TE:=λb H Q=>∃f,b[i]? =some (some (.ref f))/\W.keepIn K (.ref f)=true/\t b H λc d=>a f c d Q E
section
variable {spc:Addr->Sp}{E:XK}{CX:CXT}
def b1H (F:jU CX X.prog X.w X.K X.mg X.base k spc)(hr:eO k X.A)(hx:gM CX X E)(hv:PE X (.Name x p) (b4M i))(ha:PA X (e::es) t)(hK:X.K=K:=by rfl)(he:starEach (e::es) X.env=(false,eval e X.env)::starEach es X.env:=by rfl)(hpl:(backTo pos (starEach es X.env)).any (·.1)=false:=by rfl):
  PE X (.Call (.Name x p) (e::es) [] pos) (b9H K spc E i t):=by
 subst hK;intro a s d H Q I ⟨f,l,m,n⟩;refine Xe (thn (hv a s d H (λv o=>v= .ref f/\o=H) I ⟨_,l,rfl,rfl⟩) λu q g=>?_);obtain⟨v,y,z,B,C,D⟩:=g;subst C D;obtain rfl:u=Value.ref f:=B;refine Jm I.ok.mod.kin m (thn (ha pos a q d y _ z n) λG h ⟨J,j,c,r,L⟩=>⟨c.kIn,wpAny_call (Jz (F f X.A X.stack h j G J Q E hr c.env0 r L) λr M b=>?_)⟩) he hpl;cases r with
 |error e=>exact hx a d j h e M c b
 | ok fl=>
  cases fl with
  |ret u=>exact c.after b
  |next=>exact False.elim b
  |brk=>exact False.elim b
  |cont=>exact False.elim b
end
section
variable {mg:Str->Option Value}{base:Heap}{n:Nat}{d:FuncData}{ps:List Str}{sp:Sp}{spc spd:Addr->Sp}{CX:CXT}
def jU.one (G:iV P w K mg base CX k a d ps sp)(B:Binds K d ps [])(l:k<=n):jU CX P w K mg base n λf vs H Q E=>f=a/\sp vs H Q E:=by
 rintro f A c s H g vs Q E m i r ⟨rfl,h⟩;have p:g.length=ps.length:=by rw[<-r.length];exact G.len _ _ _ _ h
 have j:=B s g (i.mod.kin.keeps λb o e=>(i.bs b o e).1) (by rw[Yv];exact p);rw[Yv]at j;exact G.run A c s H ⟨g, []⟩ g vs Q E (m.mono l) i j r h
def jU.or (F:jU CX P w K mg base n spc)(G:jU CX P w K mg base n spd):jU CX P w K mg base n λf vs H Q E=>spc f vs H Q E\/spd f vs H Q E:=λf A a s H b vs Q E c d r h=>
 h.elim (F f A a s H b vs Q E c d r) (G f A a s H b vs Q E c d r)
end
def b5S {body:List Stmt}{h₀:ExceptHandler}{hs:List ExceptHandler}{tb:TS}(hb:PSs X.nox body tb):PS X (.Try body (h₀::hs) [] [] pos) tb:=by
 intro a s c H D I d;refine wpAny_Try_except (Y4 (hb a s c H D (I.wish _) d) (λf g e=>?_) λ_ _ z=>False.elim z);have b:=e.unwish;cases f with
 |next=>exact Jy b
 |brk=>exact b
 |cont=>exact b
 |ret u=>exact b
end L2
namespace Bm
def jO (n j:Nat):Int:=if n.testBit j then 1 else 0
def bW (n m:Nat):List Int:=(List.range m).map λi=>jO n (m-1-i)
def mD (bs:List Int):Int:=bs.foldl (λx b=>x*2+b) 0
def bV (bs:List Int):Prop:=∀b∈bs,b=0\/b=1
def b7J (n j:Nat):jO n j=0\/jO n j=1:=by unfold jO;split <;> simp
def mJ (n m:Nat):bV (bW n m):=λb a=>by
 obtain⟨i,_,rfl⟩:=YS.mp a;exact b7J _ _
def cU (n m:Nat):(bW n m).length=m:=by unfold bW;rw[Ya,YI]
def wD {n m k:Nat}(h:k<(bW n m).length):(bW n m)[k]=jO n (m-1-k):=by simp[bW]
def b3J (n j:Nat):((n / 2 ^ j:Nat):Int)=((n / 2 ^ (j+1):Nat):Int)*2+jO n j:=by
 have e:n / 2 ^ (j+1)=n / 2 ^ j / 2:=by rw[XH,Nat.div_div_eq_div_mul]
 unfold jO;grind
def b1V:mD []=0:=rfl
def qL (l:List Int)(b:Int):mD (l++[b])=mD l*2+b:=by
 unfold mD;rw[Y7];rfl
def a7M (l:List Int):∀x:Int,l.foldl (λx b=>x*2+b) x=x*2 ^ l.length+mD l:=by
 induction l with
 |nil=>intro x;simp[mD]
 | cons b r ih=>
  intro x;unfold mD;grind
def vQ (b:Int)(l:List Int):mD (b::l)=b*2 ^ l.length+mD l:=by
 show (b::l).foldl _ 0=_;rw[YX,a7M];simp
def yD {l:List Int}(h:bV l):0<=mD l/\mD l<2 ^ l.length:=by
 induction l with
 |nil=>exact⟨X1 _,by decide⟩
 | cons b r ih=>
  have:=ih λz a=>h z (Yp _ a);rw[vQ,Yk];rcases h b Yt with rfl | rfl
  ·lia
  ·lia
def b1T (n m:Nat)(hn:n<2 ^ m):∀k,k<=m->mD ((bW n m).take k)=((n / 2 ^ (m-k):Nat):Int):=by
 intro k;induction k with
 | zero=>
  intro _;rw[Nat.sub_zero,Nat.div_eq_of_lt hn];rfl
 | succ k ih=>
  intro e;have a:k<(bW n m).length:=by rw[cU];lia
  rw[Yf a,qL,ih (by lia)];have b:(bW n m)[k]=jO n (m-1-k):=wD a;rw[b];have c:m-k=(m-1-k)+1:=by lia
  have d:m-(k+1)=m-1-k:=by lia
  rw[c,d,b3J n (m-1-k)]
def b1U {n m:Nat}(a:n<2 ^ m):mD (bW n m)=(n:Int):=by
 have h:=b1T n m a m (Yb _);rw[Yg (by rw[cU];exact Yb _),Ju,Nat.div_one]at h;exact h
end Bm
namespace Rn
open Bm
end Rn
namespace Cl
def xs:Nat->(Nat->Nat)->Nat
 |0,_=>0
 |n+1,f=>xs n f ^^^ f n
def xs_congr {n:Nat}{f g:Nat->Nat}(h:∀k,k<n->f k=g k):xs n f=xs n g:=by
 induction n with
 |zero=>rfl
 | succ n ih=>
  show xs n f ^^^ f n=xs n g ^^^ g n;grind
def xs_zero {n:Nat}{f:Nat->Nat}(h:∀k,k<n->f k=0):xs n f=0:=by
 induction n with
 |zero=>rfl
 | succ n ih=>
  show xs n f ^^^ f n=0;grind
def xor4 (a b c d:Nat):(a ^^^ b) ^^^ (c ^^^ d)=(a ^^^ c) ^^^ (b ^^^ d):=by
 grind
def xs_xor {n:Nat}{f g:Nat->Nat}:xs n (λk=>f k ^^^ g k)=xs n f ^^^ xs n g:=by
 induction n with
 |zero=>exact(Xz 0).symm
 | succ n ih=>
  show xs n (λk=>f k ^^^ g k) ^^^ (f n ^^^ g n)=(xs n f ^^^ f n) ^^^ (xs n g ^^^ g n)
  rw[ih,xor4]
def xs_more {n m:Nat}{f:Nat->Nat}(hnm:n<=m)(h:∀k,n<=k->k<m->f k=0):xs m f=xs n f:=by
  induction m with
  | zero => have:n=0:=by lia
            subst this;rfl
  | succ m ih=>
    by_cases e:n=m+1
    · subst e;rfl
    · show xs m f ^^^ f m=xs n f;grind
def self {n:Nat}:∀{a:Nat},a<2 ^ n->a=xs n (λj=>if a.testBit j then 1 <<< j else 0):=by
  induction n with
  | zero => intro a h;have:a=0:=by simpa using h
            subst this;rfl
  | succ n ih=>
    intro a h;show a=xs n (λj=>if a.testBit j then 1 <<< j else 0) ^^^ (if a.testBit n then 1 <<< n else 0)
    have b:a % 2 ^ n<2 ^ n:=Nat.mod_lt _ (Nat.two_pow_pos n);have e:xs n (λj=>if a.testBit j then 1 <<< j else 0)=xs n (λj=>if (a % 2 ^ n).testBit j then 1 <<< j else 0):=by
      refine xs_congr λk f=>?_;rw[Nat.testBit_mod_two_pow];simp[f]
    rw[e,<-ih b];apply Nat.eq_of_testBit_eq;intro i;rw[X9,Nat.testBit_mod_two_pow];by_cases hi:i<n
    · grind
    · by_cases hin:i=n
      · grind
      · have d:a.testBit i=false:=Xb (Yl h (YB (by decide) (by lia)));have c:(if a.testBit n=true then 1 <<< n else 0).testBit i=false:=by
          split
          · rw[Nat.testBit_shiftLeft];have g:(1:Nat).testBit (i-n)=false:=Xb (Yl (by decide:1<2 ^ 1) (YB (by decide) (by lia)));rw[g,Bool.and_false]
          · simp
        rw[c,d];simp[hi]
def xs_lt {n m:Nat}{f:Nat->Nat}(h:∀k,k<n->f k<2 ^ m):xs n f<2 ^ m:=by
 induction n with
 |zero=>exact Nat.two_pow_pos m
 |succ n ih=>exact Nat.xor_lt_two_pow (ih λk a=>h k (by lia)) (h n (by lia))
end Cl
namespace Rm
open Bm
def b8U {a b n:Nat}(h:a<2 ^ (n+1))(j:b<2 ^ (n+1))(c:2 ^ n<=a)(d:2 ^ n<=b):a ^^^ b<2 ^ n:=by
 apply Nat.lt_pow_two_of_testBit;intro i k;rw[X9];by_cases e:i=n
 ·subst e;have f:a.testBit i=true:=by
   rw[Y6];have:a / 2 ^ i=1:=by
    apply Jp
    ·simpa using c
    ·lia
   rw[this];rfl
  have g:b.testBit i=true:=by
   rw[Y6];have:b / 2 ^ i=1:=by
    apply Jp
    ·simpa using d
    ·lia
   rw[this];rfl
  rw[f,g];rfl
 ·rw[Xb (Yl h (YB (by decide) (by lia))),Xb (Yl j (YB (by decide) (by lia)))];rfl
def nx (r:Nat):Nat:=if 32768<=2*r then (2*r) ^^^ 64647 else 2*r
def rr:Nat->Nat
 |0=>1
 |k+1=>nx (rr k)
def b1S {r:Nat}(h:r<32768):nx r<32768:=by
 unfold nx;split
 ·exact b8U (n:=15) (by lia) (by decide) (by lia) (by decide)
 ·lia
theorem a4R:∀k,rr k<32768
 |0=>by decide
 |k+1=>b1S (a4R k)
def xZ:nx 0=0:=by decide
def b4I (a b:Nat):2*(a ^^^ b)=2*a ^^^ 2*b:=by
 have h:(a ^^^ b) <<< 1=a <<< 1 ^^^ b <<< 1:=Nat.shiftLeft_xor_distrib;have e:∀z:Nat,z <<< 1=2*z:=λz=>by rw[XM];lia
 exact h
def b7V {a:Nat}(h:a<32768):32768<=2*a↔a.testBit 14=true:=by
 grind
def a5E {a:Nat}(h:a<32768):nx a=2*a ^^^ (if a.testBit 14=true then 64647 else 0):=by
 unfold nx;grind
def b1Q {a b:Nat}(d:a<32768)(e:b<32768):nx (a ^^^ b)=nx a ^^^ nx b:=by
 rw[a5E d,a5E e,a5E (Nat.xor_lt_two_pow (n:=15) d e),Cl.xor4,b4I,X9];lia
def tm (n k:Nat):Nat:=if n.testBit k then rr k else 0
def R (n:Nat):Nat:=Cl.xs 600 (tm n)
def b7W (n k:Nat):tm n k<32768:=by unfold tm;split;exact a4R k;decide
def c8J (n:Nat):R n<32768:=Cl.xs_lt (m:=15) λk _=>b7W n k
def c6D (a b:Nat):R (a ^^^ b)=R a ^^^ R b:=by
 unfold R;rw[<-Cl.xs_xor];refine Cl.xs_congr λk _=>?_;unfold tm;grind
def c2X:R 0=0:=Cl.xs_zero λk _=>by unfold tm;grind
def b0P:∀k,k<15->rr k=1 <<< k:=by decide
def zL {r:Nat}(h:r<32768):R r=r:=by
 unfold R;have e:Cl.xs 600 (tm r)=Cl.xs 15 (tm r):=Cl.xs_more (by decide) λk a _=>by
  unfold tm;rw[Xb (Yl h (YB (n:=2) (by decide) a))];rfl
 rw[e];have s:=Cl.self (n:=15) h
 conv=>rhs;rw[s]
 rfl
def c4I {n:Nat}{f:Nat->Nat}(h:∀k,f k<32768):nx (Cl.xs n f)=Cl.xs n λk=>nx (f k):=by
 induction n with
 |zero=>exact xZ
 | succ n ih=>
  show nx (Cl.xs n f ^^^ f n)=_ ^^^ _;rw[b1Q (Cl.xs_lt (m:=15) λk _=>h k) (h n),ih]
def a8V {n:Nat}{f:Nat->Nat}:Cl.xs (n+1) f=f 0 ^^^ Cl.xs n λk=>f (k+1):=by
 induction n with
 |zero=>show 0 ^^^ f 0=f 0 ^^^ 0;rw[Jg,Xz]
 | succ n ih=>
  show Cl.xs (n+1) f ^^^ f (n+1)=f 0 ^^^ (Cl.xs n (λk=>f (k+1)) ^^^ f (n+1))
  rw[ih,Xn]
def tb2 (n b k:Nat)(a:b<2):(2*n+b).testBit (k+1)=n.testBit k:=by
 rw[XN];congr 1;lia
def c3I (n b:Nat)(a:b<2):(2*n+b).testBit 0=decide (b=1):=by
 grind
def a3Z {n b:Nat}(c:n<2 ^ 599)(a:b<2):R (2*n+b)=nx (R n) ^^^ b:=by
 unfold R;have e:Cl.xs 600 (tm n)=Cl.xs 599 (tm n):=Cl.xs_more (by decide) λk d _=>by
  unfold tm;rw[Xb (Yl c (YB (by decide) d))];rfl
 rw[e,c4I (b7W n),a8V,Jf];congr 1
 ·refine Cl.xs_congr λk _=>?_;unfold tm;rw[tb2 n b k a];cases n.testBit k
  ·exact xZ.symm
  ·rfl
 ·unfold tm;rw[c3I n b a];have:b=0\/b=1:=by lia
  rcases this with rfl | rfl <;> rfl
def c6E {n:Nat}(a:n<2 ^ 599):R (2*n)=nx (R n):=by
 have:=a3Z a (b:=0) (by decide)
 grind
def c6F:∀p,p<=500->R (64647 <<< p)=0:=by
 intro p;induction p with
 | zero=>
  intro _
  decide
 | succ p ih=>
  intro a;have e:(64647:Nat) <<< (p+1)=2*64647 <<< p:=by rw[XM,XM];lia
  rw[e,c6E,ih (by lia)]
  ·exact xZ
  ·rw[XM];have:(64647:Nat)*2 ^ p<2 ^ 16*2 ^ p:=Nat.mul_lt_mul_of_pos_right (by decide) (Nat.two_pow_pos p);rw[<-Nat.pow_add]at this;exact Yl this (YB (by decide) (by lia))
def c2Y {r p:Nat}(a:p<=500):R (r ^^^ 64647 <<< p)=R r:=by
 rw[c6D,c6F p a,Xz]
def nm (bs:List Int):Nat:=(mD bs).toNat
def rY {bs:List Int}(h:bV bs):((nm bs:Nat):Int)=mD bs:=Int.toNat_of_nonneg (yD h).1
def a0V {bs:List Int}(h:bV bs):nm bs<2 ^ bs.length:=by
 have a:=(yD h).2;have b:=rY h;lia
def b6K {bs:List Int}{b:Int}(h:bV bs)(a:b=0\/b=1):nm (bs++[b])=2*nm bs+b.toNat:=by
 have f:=rY h;have c:bV (bs++[b]):=λz d=>by
  rcases YM.mp d with q | q
  ·exact h z q
  ·rw[Yw.mp q];exact a
 have e:=rY c;rw[qL]at e;lia
def rst (bs:List Int):Nat:=R (nm bs)
def b0N (bs:List Int):rst bs<32768:=c8J _
def b5M:rst []=0:=c2X
def b0M {bs:List Int}{b:Int}(h:bV bs)(c:bs.length<=500)(a:b=0\/b=1):rst (bs++[b])=nx (rst bs) ^^^ b.toNat:=by
 unfold rst;rw[b6K h a];refine a3Z (Yl (a0V h) (YB (by decide) (by lia))) ?_;lia
noncomputable def tab:List Nat:=[1,2,4,8,16,32,64,128,256,512,1024,2048,4096,8192,16384,31879,1417,2834,5668,11336,22672,19879,26569,13077,26154,12499,24998,16331,32662,939,1878,3756,7512,15024,30048,5703,11406,22812,20159,25081,16245,32490,339,678,1356,2712,5424,10848,21696,21767,22153,20885,24493,17373,31549,2813,5626,11252,22504,21335,23081,18645,27949,9949,19898,26611,13153,26306,12547,25094,14475,28950,7851,15702,31404,2527,5054,10108,20216,24951,15977,31954,1315,2630,5260,10520,21040,22759,19785,26133,12461,24922,15923,31846,1099,2198,4396,8792,17584,30183,5961,11922,23844,18127,28953,7861,15722,31444,2351,4702,9404,18808,28279,8297,16594,32035,1729,3458,6916,13832,27664,9383,18766,28187,8369,16738,32323]
def b9A:tab=(List.range 127).map rr:=by decide +kernel
def prs:List Nat->List Nat
 |[]=>[]
 |x::r=>r.map (λy=>x ^^^ y)++prs r
def chk:List Nat->Nat->Bool
 |[],_=>true
 |x::r,0=>chk r (1 <<< x)
 |x::r,k+1=>if (k+1).testBit x then false else chk r ((k+1) ||| 1 <<< x)
def c2P:∀(l:List Nat)(m:Nat),chk l m=true->l.Nodup/\∀x∈l,m.testBit x=false:=by
 intro l;induction l with
 |nil=>intro m _;exact⟨XD,λx d=>nomatch d⟩
 | cons x r ih=>
  have a:∀m,m.testBit x=false->chk r (m ||| 1 <<< x)=true->(x::r).Nodup/\∀y∈x::r,m.testBit y=false:=by
   grind
  intro m h;cases m with
  | zero=>
   refine a 0 (Nat.zero_testBit x) ?_;rw[Nat.zero_or];exact h
  | succ k=>
   have b:(if (k+1).testBit x then false else chk r ((k+1) ||| 1 <<< x))=true:=h;by_cases c:(k+1).testBit x=true
   ·lia
   ·grind
def a7F:(prs tab).Nodup:=(c2P _ 0 (by decide +kernel)).1
theorem xV:∀(l:List Nat)(i j:Nat)(hi:i<j)(hj:j<l.length),(l[i]'(by lia)) ^^^ l[j]∈prs l
 |[],_,_,_,hj=>by cases hj
 |x::r,0,j+1,_,hj=>YM.mpr (.inl (YS.mpr ⟨_,YC (by simpa using hj),rfl⟩))
 |x::r,i+1,j+1,hi,hj=>YM.mpr (.inr (xV r i j (by lia) (by simpa using hj)))
def b5T:∀(l:List Nat),(prs l).Nodup->∀(i j k m:Nat)(hi:i<j)(hj:j<l.length)(hk:k<m)(hm:m<l.length),(l[i]'(by lia)) ^^^ l[j]=(l[k]'(by lia)) ^^^ l[m]->i=k/\j=m:=by
 intro l;induction l with
 |nil=>intro _ i j k m _ hj;cases hj
 | cons x r ih=>
  intro d i j k m hi hj hk hm e;obtain⟨f,g,c⟩:=Je.mp d
  match i,j,k,m,hi,hj,hk,hm,e with
  | 0, j+1,0,m+1,_,hj,_,hm,e=>
   refine⟨rfl,?_⟩;have a:j<r.length:=by simpa using hj
   have h:(r.map (λy=>x ^^^ y))[j]'(by rw[Ya];exact a)=(r.map (λy=>x ^^^ y))[m]'(by grind):=by
    rw[X4,X4];exact e
   have:=(List.getElem_inj f).mp h;lia
  | 0,j+1,k+1,m+1,_,hj,hk,hm,e=>
   exact absurd e (c _ (YS.mpr ⟨_,YC (by simpa using hj),rfl⟩) _ (xV r k m (by lia) (by simpa using hm)))
  | i+1,j+1,0,m+1,hi,hj,_,hm,e=>
   exact absurd e.symm (c _ (YS.mpr ⟨_,YC (by simpa using hm),rfl⟩) _ (xV r i j (by lia) (by simpa using hj)))
  | i+1,j+1,k+1,m+1,hi,hj,hk,hm,e=>
   have:=ih g i j k m (by lia) (by simpa using hj) (by lia) (by simpa using hm) e;lia
def xH:tab.length=127:=by decide
def rQ {i:Nat}(h:i<127):tab[i]'(by rw[xH];exact h)=rr i:=by
 have:∀(l:List Nat)(e:l=(List.range 127).map rr)(a:i<l.length),l[i]=rr i:=by
  intro l e a;subst e;rw[X4,List.getElem_range]
 exact this tab b9A _
def rO {a b c d:Nat}(f:a<b)(h:b<127)(g:c<d)(hd:d<127)(e:rr a ^^^ rr b=rr c ^^^ rr d):a=c/\b=d:=by
 rw[<-rQ (i:=a) (by lia),<-rQ h,<-rQ (i:=c) (by lia),<-rQ hd]at e;exact b5T tab a7F a b c d f (by rw[xH];exact h) g (by rw[xH];exact hd) e
def zT {a b c d:Nat}(i:a≠b)(f:a<127)(g:b<127)(j:c≠d)(h:c<127)(hd:d<127)(e:rr a ^^^ rr b=rr c ^^^ rr d):(a=c/\b=d)\/(a=d/\b=c):=by
 by_cases h1:a<b
 ·by_cases h2:c<d
  ·exact .inl (rO h1 g h2 hd e)
  ·exact .inr (rO h1 g (c:=d) (d:=c) (by lia) h (by rw[e,Jf]))
 ·by_cases h2:c<d
  ·have:=rO (a:=b) (b:=a) (by lia) f h2 hd (by rw[<-e,Jf]);exact .inr ⟨this.2,this.1⟩
  ·have:=rO (a:=b) (b:=a) (c:=d) (d:=c) (by lia) f (by lia) h (by rw[Jf,e,Jf]);exact .inl ⟨this.2,this.1⟩
def par (n:Nat):Bool:=(List.range 15).foldl (λz k=>z ^^ n.testBit k) false
def b1M (l:List Nat)(a b:Nat):∀x y:Bool,l.foldl (λz k=>z ^^ (a ^^^ b).testBit k) (x ^^ y)=(l.foldl (λz k=>z ^^ a.testBit k) x ^^ l.foldl (λz k=>z ^^ b.testBit k) y):=by
 induction l with
 |nil=>intro x y;rfl
 | cons k r ih=>
  intro x y;rw[YX,YX,YX,<-ih,X9];cases x <;> cases y <;> cases a.testBit k <;> cases b.testBit k <;> rfl
def a5A (a b:Nat):par (a ^^^ b)=(par a ^^ par b):=b1M _ a b false false
def c0Y:∀k,par (rr k)=true:=by
 intro k;induction k with
 |zero=>decide
 | succ k ih=>
  show par (nx (rr k))=true;have h :∀r,r<32768->par (nx r)=par r:=by
   intro r a;rw[a5E a];have e:par (2*r ^^^ if r.testBit 14=true then 64647 else 0)=par r:=by
    have b:∀j,(2*r).testBit (j+1)=r.testBit j:=λj=>by grind
    have c:(2*r).testBit 0=false:=by have:=c3I r 0 (by decide);rwa [Nat.add_zero]at this
    rw[a5A];have d:par (2*r)=(par r ^^ r.testBit 14):=by
     unfold par;simp only[List.range,List.range.loop,YX,List.foldl_nil,b,c];simp only[Bool.false_xor,Bool.xor_assoc];cases r.testBit 14 <;> simp
    rw[d];cases r.testBit 14
    ·have:par (if false=true then 64647 else 0)=false:=by decide
     rw[this];cases par r <;> rfl
    ·have:par (if true=true then 64647 else 0)=true:=by decide
     rw[this];cases par r <;> rfl
   exact e
  rw[h _ (a4R k),ih]
def sm (ps:List Nat):Nat:=ps.foldl (λt p=>t ^^^ rr p) 0
def b5H (ps:List Nat):∀t,ps.foldl (λt p=>t ^^^ rr p) t=t ^^^ sm ps:=by
 induction ps with
 |nil=>intro t;exact(Xz t).symm
 | cons p r ih=>
  intro t;unfold sm;grind
def lE (p:Nat)(r:List Nat):sm (p::r)=rr p ^^^ sm r:=by
 show (p::r).foldl _ 0=_;rw[YX,b5H,Jg]
def c0X (ps:List Nat):par (sm ps)=decide (ps.length % 2=1):=by
 induction ps with
 |nil=>decide
 | cons p r ih=>
  rw[lE,a5A,c0Y,Yk];lia
def pD {a b:Nat}(h:a ^^^ b=0):a=b:=by
 have:a ^^^ b ^^^ b=0 ^^^ b:=by rw[h]
 grind
def c0M {a b:Nat}(g:a≠b)(h:a<127)(i:b<127):rr a≠rr b:=by
 intro e;obtain⟨c,f,j⟩:∃c,c<127/\c≠a/\c≠b:=by
  by_cases h0:0≠a/\0≠b
  ·exact⟨0,by decide,h0.1,h0.2⟩
  by_cases h1:1≠a/\1≠b
  ·exact⟨1,by decide,h1.1,h1.2⟩
  exact⟨2,by decide,by lia,by lia⟩
 have:=zT (by lia) h f (by lia) i f (by rw[e]);lia
def few {ps:List Nat}(nd:ps.Nodup)(hp:∀p∈ps,p<127)(h1:1<=ps.length)(h5:ps.length<=5):sm ps≠0:=by
 intro e;have h:=c0X ps;rw[e]at h;have i:¬ ps.length % 2=1:=by
  intro z;rw[Ym z]at h;exact absurd h (by decide)
 match ps,nd,hp,h1,h5,e,i with
 | [a,b],nd,hp,_,_,e,_=>
  rw[lE,lE]at e;simp only[YV,YL,XB,or_false,not_or,not_false_eq_true,XD,and_true]at nd;refine c0M nd (hp a (by simp)) (hp b (by simp)) (pD ?_);rw[<-e];show _=rr a ^^^ (rr b ^^^ 0);rw[Xz]
 | [a,b,c,d],nd,hp,_,_,e,_=>
  rw[lE,lE,lE,lE]at e;simp only[YV,YL,XB,or_false,not_or,not_false_eq_true,XD,and_true]at nd;obtain⟨⟨j,m⟩,⟨o,q⟩,k⟩:=nd;have l:rr a ^^^ rr b=rr c ^^^ rr d:=by
   apply pD;rw[<-e];show _=rr a ^^^ (rr b ^^^ (rr c ^^^ (rr d ^^^ 0)))
   rw[Xz,Xn]
  have:=zT j (hp a (by simp)) (hp b (by simp)) k (hp c (by simp)) (hp d (by simp)) l;lia
 |[a],_,_,_,_,_,i=>exact i (by simp)
 |[a,b,c],_,_,_,_,_,i=>exact i (by simp)
 |[a,b,c,d,f],_,_,_,_,_,i=>exact i (by simp)
 |a::b::c::d::f::g::r,_,_,_,h5,_,_=>simp at h5
 |[],_,_,h1,_,_,_=>simp at h1
def stp (r:Nat)(b:Int):Nat:=nx r ^^^ b.toNat
def nxn:Nat->Nat->Nat
 |0,d=>d
 |n+1,d=>nxn n (nx d)
def c2R {b:Int}(h:b=0\/b=1):b.toNat<32768:=by lia
def a2O {r:Nat}{b:Int}(a:r<32768)(c:b=0\/b=1):stp r b<32768:=Nat.xor_lt_two_pow (n:=15) (b1S a) (c2R c)
def nA {bs:List Int}(h:bV bs)(hl:bs.length<=500):rst bs=bs.foldl stp 0:=by
 have a:∀k,k<=bs.length->rst (bs.take k)=(bs.take k).foldl stp 0:=by
  intro k;induction k with
  |zero=>intro _;exact b5M
  | succ k ih=>
   intro e;rw[Yf (by lia),Y7,<-ih (by lia),b0M (λb d=>h b (YY d)) (by rw[Yi];lia) (h _ (YC _))];rfl
 have:=a bs.length (Yb _)
 grind
theorem uJ:∀(suf:List Int),bV suf->∀r d,r<32768->d<32768->suf.foldl stp (r ^^^ d)=suf.foldl stp r ^^^ nxn suf.length d
 |[],_,_,_,_,_=>rfl
 | b ::s,h,r,d,hr,hd=>by
  have hb:=h b Yt;rw[YX,YX];have e:stp (r ^^^ d) b=stp r b ^^^ nx d:=by
   unfold stp;rw[b1Q hr hd,Xn,Jf (nx d),<-Xn]
  rw[e,uJ s (λz hz=>h z (Yp _ hz)) _ _ (a2O hr hb) (b1S hd)];rfl
theorem b1P:∀n m,nxn n (rr m)=rr (m+n)
 |0,_=>rfl
 | n+1,m=>by
  show nxn n (rr (m+1))=_;rw[b1P n (m+1)];congr 1;lia
theorem fold_lt:∀(l:List Int),bV l->∀r,r<32768->l.foldl stp r<32768
 |[],_,_,hr=>hr
 | b::s,h,r,hr=>by
  rw[YX];exact fold_lt s (λz hz=>h z (Yp _ hz)) _ (a2O hr (h b Yt))
def a1V {bs:List Int}(h:bV bs){k:Nat}{c:Int}(a:c=0\/c=1):bV (bs.set k c):=λz b=>by
 rcases List.mem_or_eq_of_mem_set b with q | q
 ·exact h z q
 ·rw[q];exact a
def b0O {bs:List Int}(h:bV bs)(d:bs.length<=500){k:Nat}(a:k<bs.length):rst (bs.set k (1-bs[k]))=rst bs ^^^ rr (bs.length-1-k):=by
 have c:=h _ (YC a);have j:1-bs[k]=0\/1-bs[k]=1:=by rcases c with e | e <;> rw[e] <;> simp
 rw[nA h d,nA (a1V h j) (by rw[Xi];exact d)];have f:bs.foldl stp 0=(bs.drop (k+1)).foldl stp (stp ((bs.take k).foldl stp 0) bs[k]):=by
  conv=>lhs;rw[<-Ji k bs,Xq a,Y7,YX]
 have g:(bs.set k (1-bs[k])).foldl stp 0=(bs.drop (k+1)).foldl stp (stp ((bs.take k).foldl stp 0) (1-bs[k])):=by
  rw[List.set_eq_take_append_cons_drop,if_pos a,Y7,YX]
 have l:bV (bs.take k):=λb q=>h b (YY q);have hd:bV (bs.drop (k+1)):=λb q=>h b (X2 q);have i:=fold_lt (bs.take k) l 0 (by decide);generalize (bs.take k).foldl stp 0=r at f g i;have m:stp r (1-bs[k])=stp r bs[k] ^^^ rr 0:=by
  unfold stp;rw[Xn];congr 1;rcases c with e | e <;> rw[e] <;> rfl
 rw[f,g,m,uJ _ hd _ _ (a2O i c) (a4R 0),b1P,Xl];congr 2;lia
end Rm
namespace Wm
open Bm Rn
abbrev S:=Option Int×Nat
def skp (s:S)(b:Int):S:=(some b,if s.1=some b then s.2+1 else 1)
def sk (w:List Int):S:=w.foldl skp (none,0)
def run (w:List Int):Nat:=(sk w).2
def jH (w:List Int)(b:Int):sk (w++[b])=skp (sk w) b:=by unfold sk;rw[Y7];rfl
def run_snoc (w:List Int)(b:Int):run (w++[b])=if (sk w).1=some b then run w+1 else 1:=by unfold run;rw[jH];rfl
def last_snoc (w:List Int)(b:Int):(sk (w++[b])).1=some b:=by rw[jH];rfl
def snoc_ind {P:List Int->Prop}(h0:P [])(hs:∀w b,P w->P (w++[b]))(w:List Int):P w:=by
 have :∀n,∀w:List Int,w.length=n->P w:=by
  intro n;induction n with
  |zero=>intro w a;rw[XQ a];exact h0
  | succ n ih=>
   intro w a;have c:w≠ []:=λz=>by rw[z]at a;cases a
   rw[<-List.dropLast_concat_getLast c];grind
 exact this _ w rfl
def c0J (w:List Int):run w<=w.length:=by
 refine snoc_ind (P:=λw=>run w<=w.length) (Yb _) (λw b ih=>?_) w;rw[run_snoc,Yc,Yy];split <;> lia
def run_pos {w:List Int}(h:w≠ []):1<=run w:=by
 rw[<-List.dropLast_concat_getLast h,run_snoc];split <;> lia
def last_eq (w:List Int)(h:0<w.length):(sk w).1=some (w.getD (w.length-1) 0):=by
 have a:w≠ []:=λz=>by rw[z]at h;cases h
 conv=>lhs;rw[<-List.dropLast_concat_getLast a]
 rw[last_snoc,Yj,Yd (by lia),List.getLast_eq_getElem];rfl
def pst (w:List Int)(b:Int):List Int:=if run (w++[b])=5 then w++[b]++[1-b] else w++[b]
def put (l:List Int):List Int:=l.foldl pst []
def iQ (l:List Int)(b:Int):put (l++[b])=pst (put l) b:=by unfold put;rw[Y7];rfl
def yE (b:Int):¬ (some b:Option Int)=some (1-b):=λz=>by lia
def b5Q {w:List Int}{b:Int}(h:run w<=4):run (pst w b)<=4:=by
 unfold pst;by_cases c:run (w++[b])=5
 ·rw[if_pos c,run_snoc,last_snoc];lia
 ·rw[if_neg c];rw[run_snoc]at c ⊢;lia
def rT (l:List Int):run (put l)<=4:=snoc_ind (P:=λl=>run (put l)<=4) (by decide) (λw b ih=>by rw[iQ];exact b5Q ih) l
def tR {l:List Int}(h:bV l):bV (put l):=by
 have : ∀ k,k<=l.length->bV (put (l.take k)):=by
  intro k;induction k with
  |zero=>intro _ z a;cases a
  | succ k ih=>
   intro d;have b:=h _ (YC (show k<l.length by lia));have c:=ih (by lia);rw[Yf (by lia),iQ];intro z a;unfold pst at a;split at a
   ·rcases YM.mp a with q | q
    ·rcases YM.mp q with q | q
     ·exact c z q
     ·rw[Yw.mp q];exact b
    ·rw[Yw.mp q];lia
   ·rcases YM.mp a with q | q
    ·exact c z q
    ·rw[Yw.mp q];exact b
 have:=this l.length (Yb _)
 grind
def b5R (w:List Int)(b:Int):w.length+1<=(pst w b).length/\(pst w b).length<=w.length+2:=by
 unfold pst;split <;> simp
def nW (l:List Int):l.length<=(put l).length/\(put l).length<=2*l.length:=by
 refine snoc_ind (P:=λl=>l.length<=(put l).length/\(put l).length<=2*l.length) ⟨Yb _,Yb _⟩ (λw b ih=>?_) l;have:=b5R (put w) b;rw[iQ,Yc,Yy];lia
def kst (s:S×List Int)(b:Int):S×List Int:=(skp s.1 b,if s.1.2=5 then s.2 else s.2++[b])
def kp (w:List Int):List Int:=(w.foldl kst ((none,0), [])).2
def b6Q (w:List Int):(w.foldl kst ((none,0), [])).1=sk w:=by
 refine snoc_ind (P:=λw=>(w.foldl kst ((none,0), [])).1=sk w) rfl (λw b ih=>?_) w;rw[Y7,jH,<-ih];rfl
def kp_snoc (w:List Int)(b:Int):kp (w++[b])=if run w=5 then kp w else kp w++[b]:=by
 unfold kp run;rw[Y7,<-b6Q];rfl
def c1O:kp []= []:=rfl
def Good (w:List Int):Prop:=∀k,k<=w.length->run (w.take k)<=5
def Good.snoc {w:List Int}{b:Int}(h:Good w)(a:run (w++[b])<=5):Good (w++[b]):=λk d=>by
 by_cases c:k<=w.length
 ·rw[Y0 c];exact h k c
 ·rw[Yg (by rw[Yc,Yy];lia)];exact a
def a0I {w:List Int}{b:Int}:run (w++[b])<=run w+1:=by rw[run_snoc];split <;> lia
def lM (l:List Int):Good (put l):=by
 refine snoc_ind (P:=λl=>Good (put l)) (λk d=>?_) (λw b ih=>?_) l
 ·have:k=0:=Nat.le_zero.mp d;subst this;decide
 ·rw [iQ];have e:=rT w;have a:run (put w++[b])<=5:=YK a0I (by lia);unfold pst;split
  ·refine(ih.snoc a).snoc ?_;rw[run_snoc,last_snoc];lia
  ·exact ih.snoc a
def yG (l:List Int):kp (put l)=l:=by
 refine snoc_ind (P:=λl=>kp (put l)=l) rfl (λw b ih=>?_) l;rw[iQ];have d:=rT w;have a:kp (put w++[b])=w++[b]:=by rw[kp_snoc,if_neg (by lia),ih]
 unfold pst;split
 ·rename_i c;rw[kp_snoc,if_pos c,a]
 ·exact a
def xT {w:List Int}(hb:bV w)(hg:Good w):put (kp w)=if run w=5 then w++[1-w.getD (w.length-1) 0] else w:=by
 have : ∀ k,k<=w.length->put (kp (w.take k))=if run (w.take k)=5 then w.take k++[1-w.getD (k-1) 0] else w.take k:=by
  intro k;induction k with
  |zero=>intro _;rfl
  | succ k ih=>
   intro f;have a:k<w.length:=by lia
   have g:=hb _ (YC a);have i:w.getD (k+1-1) 0=w[k]:=by grind
   have b:=ih (by lia);have e:=hg (k+1) f;rw[Yf a]at e ⊢;rw[kp_snoc,i];by_cases c:run (w.take k)=5
   ·rw [if_pos c,b,if_pos c];have j:0<k:=by
     have:=c0J (w.take k);rw[Yi]at this;lia
    have l:(w.take k).length=k:=by rw[Yi];lia
    have l1:=last_eq (w.take k) (by lia);have m:(w.take k).getD (k-1) 0=w.getD (k-1) 0:=by
     rw[Yj,Yj,Xu (by lia)]
    rw[l,m]at l1;have d:¬ (sk (w.take k)).1=some w[k]:=λz=>by
     rw[run_snoc,if_pos z,c]at e;lia
    have n:w.getD (k-1) 0=0\/w.getD (k-1) 0=1:=by
     rw[Yj,Yd (show k-1<w.length by lia)];exact hb _ (YC _)
    have o:1-w.getD (k-1) 0=w[k]:=by
     lia
    rw[o,if_neg];rw[run_snoc,if_neg d];decide
   ·rw[if_neg c,iQ,b,if_neg c];rfl
 have h:=this w.length (Yb _)
 rwa [Yg (Yb _)]at h
def yH {w:List Int}(hb:bV w):bV (kp w):=by
 have : ∀k,k<=w.length->bV (kp (w.take k)):=by
  intro k;induction k with
  |zero=>intro _ z a;cases a
  | succ k ih=>
   intro c z a;have b:=ih (by lia);rw[Yf (show k<w.length by lia),kp_snoc]at a;split at a
   ·exact b z a
   ·rcases YM.mp a with q | q
    ·exact b z q
    ·rw[Yw.mp q];exact hb _ (YC _)
 have h:=this w.length (Yb _)
 rwa [Yg (Yb _)]at h
def kp_len (w:List Int):(kp w).length<=w.length:=by
 refine snoc_ind (P:=λw=>(kp w).length<=w.length) (Yb _) (λw b ih=>?_) w;rw[kp_snoc];grind
end Wm
namespace Rm
open Bm
def b1X {cs:List Int}(h:bV cs)(a:cs.length<=15):nm cs<32768:=Yl (a0V h) (YB (by decide) a)
def a7E {cs:List Int}(h:bV cs)(a:cs.length<=15):rst cs=nm cs:=zL (b1X h a)
def lB {as bs:List Int}(a:bV as)(b:bV bs):bV (as++bs):=λz c=>(YM.mp c).elim (a z) (b z)
def a4Q {bs cs:List Int}(h:bV bs)(a:bV cs)(c:bs.length+cs.length<=500)(b:cs.length<=15):rst (bs++cs)=nm cs ^^^ nxn cs.length (rst bs):=by
 rw[nA (lB h a) (by rw[Yc];exact c),Y7,<-nA h (by lia)];have:=uJ cs a 0 (rst bs) (by decide) (b0N bs);rw[Jg,<-nA a (by lia),a7E a b]at this;exact this
def zs (n:Nat):List Int:=List.replicate n 0
def a4C (n:Nat):bV (zs n):=λb a=> .inl (List.eq_of_mem_replicate a)
def c4L:∀n,nm (zs n)=0:=by
 intro n;have:∀n,mD (zs n)=0:=λn=>by
  induction n with
  |zero=>rfl
  |succ n ih=>unfold zs;rw[Xf,vQ];show 0*_+mD (zs n)=0;rw[ih];simp
 unfold nm;rw[this];rfl
def ckn (bs:List Int):Nat:=rst (bs++zs 15)
def b3U (bs:List Int):ckn bs<32768:=b0N _
def ck (bs:List Int):List Int:=bW (ckn bs) 15
def pL {n m:Nat}(h:n<2 ^ m):nm (bW n m)=n:=by unfold nm;rw[b1U h];rfl
def a2Z {bs cs:List Int}(h:bV bs)(b:bV cs)(c:bs.length<=400)(a:cs.length=15):rst (bs++cs)=nm cs ^^^ ckn bs:=by
 rw[a4Q h b (by lia) (by lia)];unfold ckn;rw[a4Q h (a4C 15) (by unfold zs;rw[YA];lia) (Yb _),c4L,Jg,a];unfold zs;rw[YA]
def c0L {bs:List Int}(h:bV bs)(a:bs.length<=400):rst (bs++ck bs)=0:=by
 unfold ck;rw[a2Z h (mJ _ _) a (cU _ _),pL (b3U bs),Nat.xor_self]
def fl (l:List Int)(p:Nat):List Int:=l.set p (1-l.getD p 0)
def fls (l:List Int)(ps:List Nat):List Int:=ps.foldl fl l
def a3R (l:List Int)(p:Nat):(fl l p).length=l.length:=Xi
def b6W {l:List Int}(h:bV l){p:Nat}(a:p<l.length):bV (fl l p):=by
 refine a1V h ?_;rw[Yj,Yd a];rcases h _ (YC a) with e | e <;> simp[e]
def c0K {l:List Int}(h:bV l)(b:l.length<=500){p:Nat}(a:p<l.length):rst (fl l p)=rst l ^^^ rr (l.length-1-p):=by
 unfold fl;have e:l.getD p 0=l[p]:=by rw[Yj,Yd a];rfl
 rw[e];exact b0O h b a
theorem a4P:∀(ps:List Nat){l:List Int},bV l->l.length<=500->(∀p∈ps,p<l.length)->rst (fls l ps)=rst l ^^^ sm (ps.map λp=>l.length-1-p)
 |[],l,_,_,_=>(Xz _).symm
 | p::r,l,h,hl,hp=>by
  have h1:=hp p Yt;have ih:=a4P r (l:=fl l p) (b6W h h1) (by rw[a3R];exact hl) λq hq=>by rw[a3R];exact hp q (Yp _ hq)
  show rst (fls (fl l p) r)=_;rw[ih,c0K h hl h1,Yz,lE,a3R,Xn]
theorem oK {n:Nat}:∀{ps:List Nat},ps.Nodup->(∀p∈ps,p<n)->(ps.map λp=>n-1-p).Nodup
 |[],_,_=>XD
 | p::r,h,hp=>by
  obtain⟨h1,h2⟩:=YV.mp h;refine YV.mpr ⟨λhm=>?_,oK h2 λq hq=>hp q (Yp _ hq)⟩;obtain⟨q,hq,e⟩:=YS.mp hm;have a1:=hp p Yt;have a2:=hp q (Yp _ hq);have e':n-1-q=n-1-p:=e;have:q=p:=by lia
  exact h1 (this▸hq)
def five {l:List Int}{ps:List Nat}(c:ps.Nodup)(b:∀p∈ps,p<l.length)(g:l.length<=127)(d:1<=ps.length)(e:ps.length<=5):sm (ps.map λp=>l.length-1-p)≠0:=by
 refine few (oK c b) (λq f=>?_) (by rw[Ya];exact d) (by rw[Ya];exact e);grind
end Rm
namespace Wm
open L2 Bm Rn
def b0U (l:List Int):(put l).head? =l.head?:=snoc_ind (P:=λl=>(put l).head? =l.head?) rfl (λw b ih=>by
 rw[iQ];unfold pst;grind) l
def b6R (w:List Int):(kp w).head? =w.head?:=snoc_ind (P:=λw=>(kp w).head? =w.head?) rfl (λw b ih=>by
 rw[kp_snoc];split
 ·rename_i h;rw[ih];cases w with
  |nil=>exact absurd h (by decide)
  |cons x r=>rfl
 ·rw[Xg,Xg,ih]) w
def a8C {l:List Int}{x:Int}(h:l.head? =some x):l.getD 0 0=x:=by
 cases l with
 |nil=>cases h
 |cons y r=>exact Yu h
end Wm
namespace Wm
open Bm Rn Rm
def kf:S->List Int->List Int
 |_, []=>[]
 |s,b::r=>if s.2=5 then kf (skp s b) r else b::kf (skp s b) r
theorem uE:∀(B A:List Int),kp (A++B)=kp A++kf (sk A) B
 |[],A=>by rw[Yv];exact(Yv _).symm
 | b ::r,A=>by
  have e:A++b::r=(A++[b])++r:=by rw[Yo];rfl
  rw[e,uE r (A++[b]),kp_snoc,jH];show _=kp A++(if (sk A).2=5 then kf (skp (sk A) b) r else b::kf (skp (sk A) b) r)
  by_cases c:(sk A).2=5
  ·have c':run A=5:=c;rw[if_pos c,if_pos c']
  ·have c':¬ run A=5:=c;rw[if_neg c,if_neg c',Yo];rfl
def gf:S->List Int->Prop
 |_, []=>True
 |s,b::r=>(skp s b).2<=5/\gf (skp s b) r
theorem a5V:∀(B A:List Int),Good (A++B)->gf (sk A) B
 |[],_,_=>trivial
 | b::r,A,h=>by
  have e:A++b::r=(A++[b])++r:=by rw[Yo];rfl
  rw[e]at h;have h1:=h (A++[b]).length (by rw[Yc (as:=A++[b])];lia);rw[List.take_left' rfl]at h1;have h2:=a5V r (A++[b]) h;rw[jH]at h2;refine⟨?_,h2⟩;have:run (A++[b])=(skp (sk A) b).2:=by unfold run;rw[jH]
  rw[<-this];exact h1
theorem sX (x:Int)(hx:x=0\/x=1):∀(B:List Int)(u v:Nat),v<u->u<=5->bV B->gf (some x,u) B->
  kf (some x,u) B=kf (some x,v) B\/∃i suf,kf (some x,v) B=List.replicate i x++(1-x)::suf/\kf (some x,u) B=List.replicate i x++suf
 |[],_,_,_,_,_,_=> .inl rfl
 | c :: r,u,v,h1,h2,hb,hg=>by
  have hc:=hb c Yt;have hr:bV r:=λz hz=>hb z (Yp _ hz);by_cases e:c=x
  ·subst e;obtain⟨g1,g2⟩:=hg;have s1:∀n,skp (some c,n) c=(some c,n+1):=λn=>by unfold skp;rw[if_pos rfl]
   rw[s1]at g1 g2;have g1':u+1<=5:=g1;have k1:∀n,n≠5->kf (some c,n) (c::r)=c::kf (some c,n+1) r:=λn hn=>by
    show (if n=5 then _ else c::kf (skp (some c,n) c) r)=_;rw[if_neg hn,s1]
   rw[k1 u (by lia),k1 v (by lia)];rcases sX c hx r (u+1) (v+1) (by lia) g1' hr g2 with h | ⟨i,suf,h3,h4⟩
   ·exact .inl (by rw[h])
   ·exact .inr ⟨i+1,suf,by rw[h3,Xf];rfl,by rw[h4,Xf];rfl⟩
  ·have ec:c=1-x:=by rcases hx with rfl | rfl <;> rcases hc with rfl | rfl <;> first | rfl | exact absurd rfl e
   have s1:∀n,skp (some x,n) c=(some c,1):=λn=>by unfold skp;rw[if_neg λz=>e (Yu z).symm]
   have kv:kf (some x,v) (c::r)=c::kf (some c,1) r:=by
    show (if v=5 then _ else c::kf (skp (some x,v) c) r)=_;rw[if_neg (by lia),s1]
   by_cases h5:u=5
   ·have ku:kf (some x,u) (c::r)=kf (some c,1) r:=by
     show (if u=5 then kf (skp (some x,u) c) r else _)=_;rw[if_pos h5,s1]
    exact .inr ⟨0,kf (some c,1) r,by rw[kv,ec];rfl,by rw[ku];rfl⟩
   ·have ku:kf (some x,u) (c::r)=c::kf (some c,1) r:=by
     show (if u=5 then _ else c::kf (skp (some x,u) c) r)=_;rw[if_neg h5,s1]
    exact .inl (by rw[ku,kv])
def Df (l a:List Int):Prop:=l.length+1=a.length\/a.length+1=l.length\/(∃A x t,l=A++x::t/\a=A++(1-x)::t)\/∃A x M y t,l=A++x::(M++y::t)/\a=A++(1-x)::(M++(1-y)::t)
def Df.symm {l c:List Int}(h:Df l c):Df c l:=by
 have e:∀x:Int,x=1-(1-x):=λx=>by lia
 rcases h with h | h | ⟨A,x,t,a,b⟩ | ⟨A,x,M,y,t,a,b⟩
 ·exact .inr (.inl h)
 ·exact .inl h
 ·exact .inr (.inr (.inl ⟨A,1-x,t,b,by rw[<-e x];exact a⟩))
 ·exact .inr (.inr (.inr ⟨A,1-x,M,1-y,t,b,by lia⟩))
def Df.ahead {l c:List Int}(A:List Int)(h:Df l c):Df (A++l) (A++c):=by
 rcases h with h | h | ⟨B,x,t,a,b⟩ | ⟨B,x,M,y,t,a,b⟩
 ·exact .inl (by rw[Yc,Yc];lia)
 ·exact .inr (.inl (by rw[Yc,Yc];lia))
 ·exact .inr (.inr (.inl ⟨A++B,x,t,by rw[a,Yo],by rw[b,Yo]⟩))
 ·exact .inr (.inr (.inr ⟨A++B,x,M,y,t,by rw[a,Yo],by rw[b,Yo]⟩))
theorem tM (x:Int)(s:List Int):∀i,x::(List.replicate i x++s)=List.replicate i x++x::s
 |0=>rfl
 |i+1=>by rw[Xf,List.cons_append,List.cons_append,tM x s i]
def zR (x:Int)(p:x=0\/x=1)(B:List Int)(a b:Nat)(q:bV B)(u:1<=a)(r:gf (some x,a) (x::B))(s:b<=5) :
  Df (x::kf (some x,a) (x::B)) ((1-x)::kf (some (1-x),b) (x::B)):=by
 obtain⟨k,l⟩:=r;have m:skp (some x,a) x=(some x,a+1):=by unfold skp;rw[if_pos rfl]
 have n:skp (some (1-x),b) x=(some x,1):=by unfold skp;lia
 rw[m]at k l;have t:kf (some x,a) (x::B)=x::kf (some x,a+1) B:=by
  show (if a=5 then _ else x::kf (skp (some x,a) x) B)=_;rw[if_neg (by lia),m]
 rw[t];have o:=sX x p B (a+1) 1 (by lia) k q l;by_cases h5:b=5
 ·have f:kf (some (1-x),b) (x::B)=kf (some x,1) B:=by
   show (if b=5 then kf (skp (some (1-x),b) x) B else _)=_;rw[if_pos h5,n]
  rw[f];rcases o with h | ⟨i,c,g,j⟩
  ·exact .inr (.inl (by rw[h,Yk,Yk,Yk]))
  ·refine .inr (.inr (.inr ⟨[],x,List.replicate i x,x,c,?_,?_⟩))
   ·rw[j,tM];rfl
   ·rw[g];rfl
 ·have f:kf (some (1-x),b) (x::B)=x::kf (some x,1) B:=by
   show (if b=5 then _ else x::kf (skp (some (1-x),b) x) B)=_;rw[if_neg h5,n]
  rw[f];rcases o with h | ⟨i,c,g⟩
  ·exact .inr (.inr (.inl ⟨[],x,x::kf (some x,1) B,by rw[h];rfl,rfl⟩))
  ·refine .inl ?_;grind
def b0K {s:S}{b:Int}(h:(skp s b).2<=5):skp s b=(some b,(skp s b).2)/\1<=(skp s b).2:=by
 refine⟨rfl,?_⟩;unfold skp;lia
def turned {A B:List Int}{b:Int}(hb:b=0\/b=1)(hB:bV B)(h1:Good (A++b::B))(h2:Good (A++(1-b)::B))(hA:bV A):Df (kp (A++b::B)) (kp (A++(1-b)::B)):=by
 have q:=a5V _ _ h1;have r:=a5V _ _ h2;rw[uE,uE];refine Df.ahead _ ?_;obtain⟨h,f⟩:=q;obtain⟨i,g⟩:=r;have l:=b0K h;have m:=b0K i;have n:¬ (sk A).2=5:=λz=>by
  have s:(if (sk A).1=some b then (sk A).2+1 else 1)<=5:=h;have t:(if (sk A).1=some (1-b) then (sk A).2+1 else 1)<=5:=i;have o:¬ (sk A).1=some b:=λy=>by rw[if_pos y]at s;lia
  have p:¬ (sk A).1=some (1-b):=λy=>by rw[if_pos y]at t;lia
  have j:∀c,(sk A).1=some c->c=0\/c=1->False:=λc a k=>by
   grind
  by_cases h0:0<A.length
  ·exact j _ (last_eq A h0) (by
    rw[Yj,Yd (by lia)]
    exact hA _ (YC _))
  ·have:A= []:=XQ (by lia);rw[this]at z;exact absurd (z) (by decide)
 show Df (if (sk A).2=5 then _ else b::kf (skp (sk A) b) B) (if (sk A).2=5 then _ else (1-b)::kf (skp (sk A) (1-b)) B);rw[if_neg n,if_neg n]
 match B,hB,f,g with
 |[],_,_,_=>exact .inr (.inr (.inl ⟨[],b, [],rfl,rfl⟩))
 | c ::B,hB,f,g=>
  have a:=hB c Yt;have d:bV B:=λz u=>hB z (Yp _ u);rw[l.1]at f ⊢;rw[m.1]at g ⊢;by_cases e:c=b
  ·subst e;exact zR c a B _ _ d l.2 f i
  ·have v:c=1-b:=by lia
   subst v;have w:b=1-(1-b):=by lia
   have:=zR (1-b) a B _ _ d m.2 g h;rw[<-w]at this;exact this.symm
def a3Q (x:Int)(t:List Int):∀A:List Int,fl (A++x::t) A.length=A++(1-x)::t:=λA=>by
 unfold fl;grind
def Df.seen {l d:List Int}(g:bV l)(i:l.length<=127)(h:Df l d)(r:rst l=0)(m:l.length % 8=d.length % 8):rst d≠0:=by
 have go:∀a:List Nat,d=fls l a->a.Nodup->(∀p∈a,p<l.length)->1<=a.length->a.length<=5->rst d≠0:=λa e j c b k=>by
  rw[e,a4P a g (by lia) c,r,Jg];exact five j c i b k
 rcases h with h | h | ⟨A,x,t,b,f⟩ | ⟨A,x,M,y,t,b,f⟩
 ·lia
 ·lia
 ·refine go [A.length] ?_ (YV.mpr ⟨XB,XD⟩) (λp c=>?_) (show 1<=1 by decide) (show 1<=5 by decide)
  ·rw[b,f];exact(a3Q x t A).symm
  ·rw[Yw.mp c,b,Yc,Yk];lia
 ·refine go [A.length,A.length+1+M.length] ?_ (YV.mpr ⟨λz=>by have:=Yw.mp z;lia,YV.mpr ⟨XB,XD⟩⟩) (λp c=>?_) (show 1<=2 by decide) (show 2<=5 by decide)
  ·rw[b,f];show _=fl (fl (A++x::(M++y::t)) A.length) _;rw[a3Q];have n:A++(1-x)::(M++y::t)=(A++(1-x)::M)++y::t:=by rw[Yo];rfl
   have o:A.length+1+M.length=(A++(1-x)::M).length:=by rw[Yc,Yk];lia
   rw[n,o,a3Q,Yo];rfl
  grind
theorem ones_sk:∀k,1<=k->sk (0::List.replicate k 1)=(some 1,k)
 |1,_=>rfl
 | k+2,_=>by
  have e:(0:Int)::List.replicate (k+2) 1=(0::List.replicate (k+1) 1)++[1]:=by rw[Xa (n:=k+1)];rfl
  rw[e,jH,ones_sk (k+1) (by lia)];unfold skp;rw[if_pos rfl]
def b6E:∀k,k<=5->kp (0::List.replicate k 1)=0::List.replicate k 1:=by
 intro k a;have:k=0\/k=1\/k=2\/k=3\/k=4\/k=5:=by lia
 rcases this with rfl | rfl | rfl | rfl | rfl | rfl <;> decide
def missed {k:Nat}{B:List Int}(e:k<=5)(f:bV B)(j:Good ((0::List.replicate k 1)++0::B))(l:bV (kp ((0::List.replicate k 1)++0::B)))(n:(kp ((0::List.replicate k 1)++0::B)).length<=127)(r:rst (kp ((0::List.replicate k 1)++0::B))=0)(m:(kp ((0::List.replicate k 1)++0::B)).length % 8=(kp (0::B)).length % 8):rst (kp (0::B))≠0:=by
 have c:kp (0::B)=0::kf (some 0,1) B:=uE B [0];have a:=uE (0::B) (0::List.replicate k 1);rw[b6E k e]at a;by_cases k0:k=0
 ·subst k0;have d:kf (sk (0::List.replicate 0 1)) (0::B)=0::kf (some 0,2) B:=rfl;rw[d]at a;have g:=a5V _ _ j;have o:gf (some 0,2) B:=g.2;rcases sX 0 (.inl rfl) B 2 1 (by decide) (by decide) f o with h | ⟨i,b,p,q⟩
  ·rw[a,c,h]at m;simp only[Yc,Yk,YA]at m;lia
  ·refine Df.seen l n (.inr (.inr (.inl ⟨0::List.replicate i 0,0,b,?_,?_⟩))) r m
   ·rw[a,q];show 0::0::(List.replicate i 0++b)=0::(List.replicate i 0++0::b);rw[tM]
   ·rw[c,p];rfl
 ·have s:=ones_sk k (by lia);rw[s]at a
  have d:kf (some 1,k) (0::B)=if k=5 then kf (some 0,1) B else 0::kf (some 0,1) B:=by
   rfl
  rw[d]at a;exfalso;grind
end Wm
namespace Wm
open Bm
def a4W (w:List Int)(b:Int):∃s,pst w b=w++b::s:=by
 unfold pst;split
 ·grind
 ·exact⟨[],rfl⟩
theorem a1L:∀(r w:List Int),∃s,r.foldl pst w=w++s
 |[],w=>⟨[],by rw[Yv];rfl⟩
 | b::r,w=>by
  obtain⟨s,hs⟩:=a4W w b;obtain⟨t,ht⟩:=a1L r (pst w b);refine⟨b::s++t,?_⟩;show r.foldl pst (pst w b)=_;rw[ht,hs,Yo]
def put_pre (l:List Int)(b:Int)(r:List Int):∃s,put (l++b::r)=put l++b::s:=by
 obtain⟨s,a⟩:=a4W (put l) b;obtain⟨t,c⟩:=a1L r (pst (put l) b);refine⟨s++t,?_⟩;unfold put at a c ⊢;grind
def bitsI_split {a b s:Nat}(f:s<8)(h:∀j,s<j->a.testBit j=b.testBit j)(g:a.testBit s=true)(k:b.testBit s=false):∃c t1 t2:List Int,bW a 8=c++1::t1/\bW b 8=c++0::t2/\c.length=7-s:=by
 have e:∀n:Nat,bW n 8=((List.range (7-s)).map λi=>jO n (7-i))++jO n s::((List.range s).map λi=>jO n (s-1-i)):=by
  intro n;unfold bW;have l:List.range 8=List.range (7-s)++(7-s)::((List.range s).map λi=>8-s+i):=by
   have:∀s,s<8->List.range 8=List.range (7-s)++(7-s)::((List.range s).map λi=>8-s+i):=by decide
   exact this s f
  rw[l,Yh,Yz,XE];refine congr (YJ _ rfl) (congr (YJ _ ?_) (X7 λi d=>?_))
  ·rw[show 8-1-(7-s)=s by lia]
  grind
 have m:jO a s=1:=by unfold jO;rw[g];rfl
 have o:jO b s=0:=by unfold jO;rw[k];rfl
 refine⟨(List.range (7-s)).map λi=>jO a (7-i),(List.range s).map λi=>jO a (s-1-i),(List.range s).map λi=>jO b (s-1-i),(e a).trans (by rw[m]),(e b).trans ?_,by rw[Ya,YI]⟩;rw[o];refine YJ (·++_) (X7 λi d=>?_);have p:=Jv.mp d;unfold jO;rw[h (7-i) (by lia)]
end Wm
namespace Wm
open Bm Rn Rm
end Wm
namespace My
open PySem L2
variable {H:Hp}{H':Hp}{a:Addr}{v:Nat}{l:Addr}{n:Nat}{x:Nat->Prop}{C:Addr}{dx:Addr}{fs:List (Nat×Nat×List Int)}{c:Nat}{m:Nat}{i:Nat}{bs:List Int}{xs:List V}{w:List Int}{CK:Addr}{r:Addr}{st:Stmt}{ks:Addr}{t:Addr}{ds:List Int}{j:Nat}{b:Int}{C1:Addr}{C2:Addr}{K:W.Frag}{vs:List V}{H1:Hp}{h:List Int}{nwf:Addr}{ch:Nat->Nat×Nat}{wl:Addr}{ul:Addr}{ct:Value}{ws:List V}{us:List V}{nw:Addr}{d:FuncData}{H0:Hp}{nw':Addr}{k:Nat}{y:List Int}{ps:List (Int×Int)}{L:List (Addr×HO)}{v':HO}{as:List Addr}{hs:List Int}{L1:List (Addr×HO)}{q:Nat}{mg:Str->Option Value}{cd:Value}{P:Addr->Prop}{n1:Nat}{ds1:List Int}{vt:Nat}{z:Nat}{wp:Option Nat}{T:Int}{Z:Nat}{X:List Int}{N:Nat}{th:List Int}{ts:List Addr}{od:Option Addr}{sl:Array (Option Value)}{m0:Str}{t0:Tok}{t1:Tok}{E:XK}{oc:Value}{kV:Value}{dc:Value}{pm:Value}{an:Option Addr}
def top (i:Nat):Stmt:=PySem.Challenge.pw_bitrail_k85_whole_things_over_the_desk.main.body.getD i (.Pass ⟨0,0,0,0⟩)
def aV (s:Stmt):List Stmt:=match s with | .ClassDef _ _ _ b _ _ _ _ _ _ _=>b | _=>[]
abbrev Zi6:Stmt:=top 18
abbrev Zh4:Stmt:=(aV (top 43)).getD 0 (.Pass ⟨0,0,0,0⟩)
abbrev ZfS:Stmt:=(aV (top 43)).getD 1 (.Pass ⟨0,0,0,0⟩)
abbrev Zgn:Stmt:=(aV (top 43)).getD 2 (.Pass ⟨0,0,0,0⟩)
abbrev Zfe:Stmt:=(aV (top 43)).getD 3 (.Pass ⟨0,0,0,0⟩)
abbrev ZlP:Stmt:=top 13
abbrev ZjW:Stmt:=top 14
abbrev ZjS:Stmt:=top 16
abbrev ZlQ:Stmt:=top 30
abbrev ZlT:Stmt:=top 34
abbrev Zk0:Stmt:=top 35
abbrev ZlR:Stmt:=top 39
abbrev ZnB:Stmt:=top 44
abbrev Zh6:Stmt:=top 51
abbrev ZiZ:Stmt:=top 52
abbrev ZlW:Stmt:=top 56
abbrev Zj1:Stmt:=top 54
abbrev Zib:Stmt:=top 53
abbrev Zi0:Stmt:=top 55
abbrev Zh0:Stmt:=(aV (top 64)).getD 0 (.Pass ⟨0,0,0,0⟩)
abbrev ZgB:Stmt:=(aV (top 64)).getD 2 (.Pass ⟨0,0,0,0⟩)
abbrev ZhZ:Stmt:=(aV (top 64)).getD 1 (.Pass ⟨0,0,0,0⟩)
abbrev Zg7:Stmt:=(aV (top 64)).getD 3 (.Pass ⟨0,0,0,0⟩)
abbrev Zg6:Stmt:=(aV (top 64)).getD 4 (.Pass ⟨0,0,0,0⟩)
abbrev ZjO:Stmt:=(aV (top 68)).getD 0 (.Pass ⟨0,0,0,0⟩)
abbrev ZjP:Stmt:=(aV (top 68)).getD 1 (.Pass ⟨0,0,0,0⟩)
abbrev ZgC:Stmt:=(aV (top 68)).getD 3 (.Pass ⟨0,0,0,0⟩)
abbrev ZfJ:Stmt:=(aV (top 68)).getD 4 (.Pass ⟨0,0,0,0⟩)
abbrev ZjN:Stmt:=(aV (top 68)).getD 2 (.Pass ⟨0,0,0,0⟩)
abbrev ZgA:Stmt:=(aV (top 69)).getD 0 (.Pass ⟨0,0,0,0⟩)
abbrev Zgm:Stmt:=(aV (top 70)).getD 0 (.Pass ⟨0,0,0,0⟩)
abbrev ZiM:Stmt:=(aV (top 62)).getD 0 (.Pass ⟨0,0,0,0⟩)
abbrev Zgi:Stmt:=(aV (top 62)).getD 6 (.Pass ⟨0,0,0,0⟩)
abbrev Zg3:Stmt:=(aV (top 62)).getD 7 (.Pass ⟨0,0,0,0⟩)
abbrev ZiN:Stmt:=(aV (top 62)).getD 4 (.Pass ⟨0,0,0,0⟩)
abbrev ZhQ:Stmt:=(aV (top 62)).getD 1 (.Pass ⟨0,0,0,0⟩)
abbrev ZhP:Stmt:=(aV (top 62)).getD 2 (.Pass ⟨0,0,0,0⟩)
abbrev ZiL:Stmt:=(aV (top 62)).getD 3 (.Pass ⟨0,0,0,0⟩)
abbrev Zhc:Stmt:=top 76
abbrev ZjE:Stmt:=(aV (top 81)).getD 0 (.Pass ⟨0,0,0,0⟩)
abbrev Zh1:Stmt:=(aV (top 82)).getD 0 (.Pass ⟨0,0,0,0⟩)
abbrev ZiR:Stmt:=(aV (top 83)).getD 0 (.Pass ⟨0,0,0,0⟩)
abbrev ZhS:Stmt:=(aV (top 84)).getD 0 (.Pass ⟨0,0,0,0⟩)
abbrev Zgw:Stmt:=(aV (top 85)).getD 0 (.Pass ⟨0,0,0,0⟩)
abbrev Zg8:Stmt:=(aV (top 86)).getD 0 (.Pass ⟨0,0,0,0⟩)
abbrev ZiU:Stmt:=(aV (top 87)).getD 0 (.Pass ⟨0,0,0,0⟩)
abbrev Zgz:Stmt:=(aV (top 94)).getD 8 (.Pass ⟨0,0,0,0⟩)
abbrev ZhX:Stmt:=(aV (top 94)).getD 9 (.Pass ⟨0,0,0,0⟩)
abbrev Zgk:Stmt:=(aV (top 94)).getD 10 (.Pass ⟨0,0,0,0⟩)
abbrev Zfd:Stmt:=(aV (top 94)).getD 11 (.Pass ⟨0,0,0,0⟩)
abbrev Zfc:Stmt:=(aV (top 94)).getD 12 (.Pass ⟨0,0,0,0⟩)
abbrev ZjU:Stmt:=top 40
abbrev Zg4:Stmt:=(aV (top 94)).getD 13 (.Pass ⟨0,0,0,0⟩)
abbrev ZjH:Stmt:=(aV (top 94)).getD 1 (.Pass ⟨0,0,0,0⟩)
abbrev Znz:Stmt:=top 93
abbrev ZiP:Stmt:=(aV (top 94)).getD 5 (.Pass ⟨0,0,0,0⟩)
abbrev ZkV:Stmt:=(aV (top 94)).getD 6 (.Pass ⟨0,0,0,0⟩)
abbrev Zi4:Stmt:=top 77
abbrev Zk1:Stmt:=top 78
abbrev Zi1:Stmt:=top 79
abbrev ZkZ:Stmt:=top 80
abbrev Zh9:Stmt:=top 91
abbrev Zhd:Stmt:=top 92
abbrev ZjJ:Stmt:=(aV (top 94)).getD 0 (.Pass ⟨0,0,0,0⟩)
abbrev ZjF:Stmt:=(aV (top 81)).getD 2 (.Pass ⟨0,0,0,0⟩)
abbrev Zh2:Stmt:=(aV (top 82)).getD 2 (.Pass ⟨0,0,0,0⟩)
abbrev ZiS:Stmt:=(aV (top 83)).getD 2 (.Pass ⟨0,0,0,0⟩)
abbrev ZhT:Stmt:=(aV (top 84)).getD 2 (.Pass ⟨0,0,0,0⟩)
abbrev Zgx:Stmt:=(aV (top 85)).getD 2 (.Pass ⟨0,0,0,0⟩)
abbrev Zg9:Stmt:=(aV (top 86)).getD 2 (.Pass ⟨0,0,0,0⟩)
abbrev ZiV:Stmt:=(aV (top 87)).getD 2 (.Pass ⟨0,0,0,0⟩)
abbrev ZkT:Stmt:=(aV (top 88)).getD 1 (.Pass ⟨0,0,0,0⟩)
abbrev ZkU:Stmt:=(aV (top 88)).getD 2 (.Pass ⟨0,0,0,0⟩)
abbrev Zgy:Stmt:=(aV (top 85)).getD 3 (.Pass ⟨0,0,0,0⟩)
abbrev Zha:Stmt:=(aV (top 86)).getD 3 (.Pass ⟨0,0,0,0⟩)
abbrev ZiW:Stmt:=(aV (top 87)).getD 3 (.Pass ⟨0,0,0,0⟩)
abbrev ZjG:Stmt:=(aV (top 81)).getD 3 (.Pass ⟨0,0,0,0⟩)
abbrev ZiT:Stmt:=(aV (top 83)).getD 3 (.Pass ⟨0,0,0,0⟩)
abbrev Zh3:Stmt:=(aV (top 82)).getD 3 (.Pass ⟨0,0,0,0⟩)
abbrev ZhU:Stmt:=(aV (top 84)).getD 3 (.Pass ⟨0,0,0,0⟩)
abbrev ZjK:Stmt:=(aV (top 94)).getD 2 (.Pass ⟨0,0,0,0⟩)
abbrev ZjI:Stmt:=(aV (top 94)).getD 3 (.Pass ⟨0,0,0,0⟩)
abbrev Zg5:Stmt:=(aV (top 97)).getD 5 (.Pass ⟨0,0,0,0⟩)
abbrev ZjM:Stmt:=(aV (top 97)).getD 0 (.Pass ⟨0,0,0,0⟩)
abbrev ZjL:Stmt:=(aV (top 97)).getD 1 (.Pass ⟨0,0,0,0⟩)
abbrev Zgl:Stmt:=(aV (top 97)).getD 4 (.Pass ⟨0,0,0,0⟩)
abbrev ZkW:Stmt:=(aV (top 97)).getD 13 (.Pass ⟨0,0,0,0⟩)
abbrev ZiQ:Stmt:=(aV (top 97)).getD 12 (.Pass ⟨0,0,0,0⟩)
abbrev ZhY:Stmt:=(aV (top 97)).getD 16 (.Pass ⟨0,0,0,0⟩)
abbrev ZkX:Stmt:=(aV (top 97)).getD 3 (.Pass ⟨0,0,0,0⟩)
abbrev ZlS:Stmt:=top 27
abbrev Zh7:Stmt:=top 26
abbrev ZhV:Stmt:=(aV (top 28)).getD 0 (.Pass ⟨0,0,0,0⟩)
abbrev ZiO:Stmt:=(aV (top 28)).getD 6 (.Pass ⟨0,0,0,0⟩)
abbrev Zgj:Stmt:=(aV (top 28)).getD 3 (.Pass ⟨0,0,0,0⟩)
abbrev ZfI:Stmt:=(aV (top 28)).getD 4 (.Pass ⟨0,0,0,0⟩)
abbrev Zfb:Stmt:=(aV (top 28)).getD 2 (.Pass ⟨0,0,0,0⟩)
abbrev ZhW:Stmt:=(aV (top 28)).getD 1 (.Pass ⟨0,0,0,0⟩)
abbrev ZlV:Stmt:=top 117
abbrev ZjV:Stmt:=top 112
abbrev ZjT:Stmt:=top 113
abbrev Zk4:Stmt:=top 111
abbrev Zk3:Stmt:=top 110
abbrev Zh8:Stmt:=top 23
abbrev Zk2:Stmt:=top 24
abbrev Zpc:Stmt:=top 22
abbrev ZnA:Stmt:=top 114
abbrev Zia:Stmt:=top 115
abbrev Zi3:Stmt:=top 116
abbrev Zj0:Stmt:=top 118
abbrev ZjZ:Stmt:=top 122
abbrev ZjY:Stmt:=top 127
abbrev Zi2:Stmt:=top 128
abbrev ZlU:Stmt:=top 123
abbrev ZjX:Stmt:=top 121
abbrev ZjD:Stmt:=(aV (top 132)).getD 0 (.Pass ⟨0,0,0,0⟩)
abbrev ZhR:Stmt:=(aV (top 132)).getD 2 (.Pass ⟨0,0,0,0⟩)
abbrev ZkS:Stmt:=(aV (top 132)).getD 1 (.Pass ⟨0,0,0,0⟩)
abbrev ZjQ:Stmt:=top 134
abbrev Zh5:Stmt:=top 135
abbrev ZiX:Stmt:=top 136
abbrev Zhb:Stmt:=top 137
abbrev ZiY:Stmt:=top 138
abbrev ZjR:Stmt:=top 139
abbrev ZkY:Stmt:=top 140
abbrev ZgD:Stmt:=top 141
abbrev Zpd:Stmt:=top 142
def aN {p:Addr}(h:H p=none)(o:HO):Same H (upd H p o):=λb u q=>by rw[aH (aO q h)];exact q
def nS {v:HO}(h:H a=none)(e:upd H a v=H'):Same H H':=e▸aN h v
def nE {v:HO}(e:upd H a v=H'):H' a=some v:=e▸aC
def gA (a:H l=none)(o:HO):Same H (upd H l o)/\upd H l o l=some o:=⟨aN a o,aC⟩
def small (h:n<=1000):n<=sizeLine:=XF (qI h)
def aM (h:decide (n<=1000)=true):n<=sizeLine:=small (YR h)
def bY (h:n<=1000):n<sizeLine:=qI h
def _root_.L2.Same.put {p:Addr}{o:HO}(g:Same H H')(h:H p=none):Same H (upd H' p o):=λb u q=>by rw[aH (aO q h)];exact g b u q
def _root_.L2.Same.none {x:Addr}(g:Same H H')(h:H' x=none):H x=none:=by
 cases e:H x with
 |none=>rfl
 |some o=>rw[g x o e]at h;cases h
def bU {x:Addr}{fs:List (Str×V)}(a:H x=none)(hd:H dx=none):Same H (upd (upd (upd H dx (.own x)) x (.ins C dx [])) x (.ins C dx fs)):=λb u q=>by
 rw[aH (aO q a),aH (aO q a),aH (aO q hd)];exact q
def uF {c A B:Prop}[Decidable c](a:c)(h:A):if decide c=true then A else B:=by rw[Ym a];exact c1W h
def oM {c A B:Prop}[Decidable c](a:¬ c)(h:B):if decide c=true then A else B:=by rw[Yr a];exact yJ h
open Bm Rm
def c6A (n k:Nat):Builtin.bitAnd ((n:Int) / 2 ^ ((k:Int)).toNat) 1=jO n k:=by
 rw[c7W];have h:=band (n >>> k) 1;unfold jO;have a:=bit_at n k;have b:((n >>> k:Nat) &&& 1)=(n >>> k) % 2:=Nat.and_one_is_mod _;split
 ·lia
 lia
def b0J:Sp:=λa H Q _=>∃n m:Nat,a= [.int n,.int m]/\n<2 ^ m/\m<=128/\∀p,H p=none->Q (.ref p) (upd H p (.lst ((bW n m).map V.int)))
def a2R (K:W.Frag):Sp:=λb H Q _=>∃(a:Addr)(bs:List Int),b= [.ref a]/\SqL K H a (bs.map V.int)/\bV bs/\bs.length<=450/\Q (.int ((nm bs:Nat):Int)) H
def a8F (h:n<2 ^ m):(n:Int) / 2 ^ ((m:Int)).toNat=0:=by
 exact Int.ediv_eq_zero_of_lt (Int.natCast_nonneg n) (by exact_mod_cast h)
def a6S (h:i<m):(bW n m).take (i+1)=(bW n m).take i++[jO n (m-1-i)]:=by
 have a:i<(bW n m).length:=by rw[cU];exact h
 rw[Yf a,wD a]
def zG (h:i<bs.length):atI (bs.map V.int) ((i:Nat):Int)=some (.int bs[i]):=bB (by rw[Yn,Yd h];rfl)
def mG {x:V}(a:(bs.map V.int)[i]? =some x):∃h:i<bs.length,x= .int bs[i]:=by
 grind
abbrev bl (a:Nat):Nat:=Builtin.Int.intBits (a:Int)
def c5Z {a:Nat}(h:a≠0):2 ^ (bl a-1)<=a:=by
 show 2 ^ (Builtin.Int.intBits (a:Int)-1)<=a;rw[uN,if_neg h];exact Nat.log2_self_le h
def b3Y {a:Nat}(h:a<2 ^ n):bl a<=n:=bits_le h
def b8G (a:Nat):a<2 ^ bl a:=b7I a
def a3V:bl 64647=16:=by decide
def b2L {r:Nat}(d:r<2 ^ 450)(h:16<=bl r):(r ^^^ 64647 <<< (bl r-16))<2 ^ 450/\R (r ^^^ 64647 <<< (bl r-16))=R r/\bl (r ^^^ 64647 <<< (bl r-16))<bl r:=by
 have e:=b3Y d;have b:r≠0:=by
  intro z;subst z;have:bl 0=0:=by decide
  lia
 have l1:64647 <<< (bl r-16)<2 ^ (bl r-1+1):=by
  rw[XM];have a:bl r-1+1=16+(bl r-16):=by lia
  grind
 have l2:2 ^ (bl r-1)<=64647 <<< (bl r-16):=by
  rw[XM];have a:bl r-1=15+(bl r-16):=by lia
  lia
 have l3:r<2 ^ (bl r-1+1):=by
  have a:bl r-1+1=bl r:=by lia
  rw[a];exact b8G r
 have c:=b4E l3 l1 (c5Z b) l2;have f:=b3Y c;exact⟨Yl c (YB (by decide) (by lia)),c2Y (by lia),by lia⟩
def a7A:Sp:=λb H Q _=>∃a:Nat,b= [.int a,.int 64647]/\a<2 ^ 450/\∀(w:Nat)(p:Addr),H p=none->Q (.ref p) (upd H p (.tup [.int (w:Int),.int ((R a:Nat):Int)]))
def b9Q (K:W.Frag):Sp:=λb H Q _=>∃(a:Addr)(bs:List Int),b= [.ref a]/\SqL K H a (bs.map V.int)/\bV bs/\bs.length<=450/\∀H',Same H H'->Q (.int ((rst bs:Nat):Int)) H'
def b5D (K:W.Frag):Sp:=λb H Q _=>∃(a:Addr)(bs:List Int),b= [.ref a]/\SqL K H a (bs.map V.int)/\bV bs/\bs.length<=400/\∀p H',H p=none->Same H H'->H' p=some (.lst ((ck bs).map V.int))->Q (.ref p) H'
def b6I (h:bV bs):mD bs=((nm bs:Nat):Int):=(rY h).symm
def szB (bs:List Int):Nat:=nm ((bs.drop 9).take 3)
def nmB (bs:List Int):Nat:=nm ((bs.drop 1).take 8)
def dtB (bs:List Int)(k:Nat):Int:=((nm ((bs.drop (12+8*k)).take 8):Nat):Int)
def daB (bs:List Int):List Int:=(List.range (szB bs)).map (dtB bs)
def lY (bs:List Int):Prop:=12<=bs.length/\bs.length=27+8*szB bs
def a3Y (bs:List Int):Prop:=lY bs/\bs.getD 0 0=0/\rst bs=0
def nH (h:bV bs)(a n:Nat):bV ((bs.drop a).take n):=λb c=>h b (X2 (YY c))
def a9F (h:bV bs):szB bs<8:=by
 have:=a0V (nH h 9 3);refine Yl this (YB (j:=3) (by decide) ?_);rw[Yi];lia
def b9P (K:W.Frag):Sp:=λb H Q _=>∃(a:Addr)(bs:List Int),b= [.ref a]/\SqL K H a (bs.map V.int)/\bV bs/\12<=bs.length/\bs.length<=450/\∀H',Same H H'->Q (.int ((szB bs:Nat):Int)) H'
def c3V (K:W.Frag):Sp:=λb H Q _=>∃(a:Addr)(bs:List Int),b= [.ref a]/\SqL K H a (bs.map V.int)/\bV bs/\bs.length<=450/\(lY bs->∀H',Same H H'->Q (.bl true) H')/\(¬ lY bs->∀H',Same H H'->Q (.bl false) H')
def b9R (K:W.Frag)(C:Addr):Sp:=λb H Q E=>∃(a:Addr)(bs:List Int),b= [.ref a]/\SqL K H a (bs.map V.int)/\bV bs/\bs.length<=450/\
 (a3Y bs->∀t p H',H p=none->Same H H'->H' p=some (.lst ((daB bs).map V.int))->H' t=some (.tup [.int ((nmB bs:Nat):Int),.ref p])->Q (.ref t) H')/\(¬ a3Y bs->∀H',Same H H'->False)
def a6E (bs:List Int):(daB bs).length=szB bs:=by unfold daB;rw[Ya,YI]
def b3O (h:i<szB bs):(daB bs).take (i+1)=(daB bs).take i++[dtB bs i]:=by
 have a:i<(daB bs).length:=by rw[a6E];exact h
 have e:(daB bs)[i]=dtB bs i:=by simp[daB]
 rw[Yf a,e]
def c7Y (h:0<bs.length):bs[0]=bs.getD 0 0:=by rw[Yj,Yd h];rfl
def a3T {a n:Nat}{x y:Int}(b:x=(a:Int))(c:y=((a+n:Nat):Int))(h:a+n<=bs.length):jN (bs.map V.int) (some x) (some y)=((bs.drop a).take n).map V.int:=by
 rw[b,c];exact b7G h
open Bm Rn Wm
def c5D:Option Int->V
 |none=> .non
 |some b=> .int b
abbrev skF (s:S):List (Str×V):=[("last",c5D s.1),("alike",.int ((s.2:Nat):Int))]
def lV (C:Addr)(H:Hp)(a:Addr)(s:S):Prop:=∃dx,H a=some (.ins C dx (skF s))
def lV.same {n:S}(h:lV C H a n)(g:Same H H'):lV C H' a n:=by
 obtain⟨b,e⟩:=h;exact⟨b,g _ _ e⟩
def lV.at_ {n:S}(h:lV C H a n)(g:H' a=H a):lV C H' a n:=by
 obtain⟨b,e⟩:=h;exact⟨b,g.trans e⟩
def lV.ne {p:Addr}{n:S}(h:lV C H a n)(e:H p=some (.lst xs)):p≠a:=λz=>by
 obtain⟨b,q⟩:=h;rw[z,q]at e;cases e
def lV.set {p:Addr}{n:S}{ys:List V}(h:lV C H a n)(e:H p=some (.lst xs)):lV C (upd H p (.lst ys)) a n:=by
 obtain⟨b,q⟩:=h;exact⟨b,by rw[aH (λz=>by rw[z,e]at q;cases q)];exact q⟩
def a9Q (C:Addr):Sp:=λb H Q _=>∃a dx,b= [.ref a]/\H a=some (.ins C dx [])/\∀H',H'=upd H a (.ins C dx (skF (none,0)))->Q .non H'
def b4S (C:Addr):Sp:=λc H Q _=>∃a s b,c= [.ref a,.int b]/\lV C H a s/\∀H',lV C H' a (skp s b)->(∀x,x≠a->H' x=H x)->Q .non H'
def a9R (C:Addr):Sp:=λb H Q _=>∃a s,b= [.ref a]/\lV C H a s/\Q (.bl (decide (s.2=5))) H
def a9P (C:Addr):Sp:=λb H Q _=>∃a s,b= [.ref a]/\lV C H a s/\Q (.bl (decide (5<s.2))) H
def a8G (n:Nat):decide ((n:Int)=5)=decide (n=5):=by
 lia
def b7B (n:Nat):decide ((5:Int)<(n:Int))=decide (5<n):=by
 lia
def b2T:Good []:=λk a=>by
 have:k=0:=Nat.le_zero.mp a;subst this;decide
def b4V (K:W.Frag):Sp:=λb H Q _=>∃(a:Addr)(bs:List Int),b= [.ref a]/\SqL K H a (bs.map V.int)/\bs.length<=400/\∀p H',H p=none->Same H H'->H' p=some (.lst ((put bs).map V.int))->Q (.ref p) H'
def b0T (h:i<bs.length):put (bs.take (i+1))=pst (put (bs.take i)) bs[i]:=by rw[Yf h,iQ]
instance decCmp (bs:List Int):Decidable (lY bs):=by unfold lY;infer_instance
noncomputable def ans (w:List Int):Str:=if 5<run w then "six" else if run w=5\/¬ lY (kp w) then "more" else if rst (kp w)=0 then "whole" else "bad"
def jK (h:5<run w):ans w="six":=if_pos h
def nJ (h:¬ 5<run w)(g:run w=5\/¬ lY (kp w)):ans w="more":=(if_neg h).trans (if_pos g)
def qQ (h:¬ 5<run w)(g:¬ (run w=5\/¬ lY (kp w)))(r:rst (kp w)=0):ans w="whole":=(if_neg h).trans ((if_neg g).trans (if_pos r))
def zK (h:¬ 5<run w)(g:¬ (run w=5\/¬ lY (kp w)))(r:¬ rst (kp w)=0):ans w="bad":=(if_neg h).trans ((if_neg g).trans (if_neg r))
abbrev rdF (st ks:Addr)(t:Str):List (Str×V):=[("streak",.ref st),("kept",.ref ks),("answer",.str t)]
structure kE (C CK:Addr)(H:Hp)(r st ks:Addr)(w:List Int)(t:Str):Prop where
 rd:∃dx,H r=some (.ins C dx (rdF st ks t))
 sk:lV CK H st (sk w)
 kp:H ks=some (.lst ((kp w).map V.int))
def kE.same {st:Addr}{t:Str}(h:kE C CK H r st ks w t)(g:Same H H'):kE C CK H' r st ks w t:=⟨let ⟨dx,e⟩:=h.rd;⟨dx,g _ _ e⟩,h.sk.same g,g _ _ h.kp⟩
def kE.ne1 {st:Addr}{t:Str}(h:kE C CK H r st ks w t):r≠st:=λz=>by
 obtain⟨a,e⟩:=h.rd;obtain⟨b,f⟩:=h.sk;rw[z,f]at e;cases e
def kE.ne2 {st:Addr}{t:Str}(h:kE C CK H r st ks w t):r≠ks:=λz=>by
 obtain⟨a,e⟩:=h.rd;rw[z,h.kp]at e;cases e
def kE.ne3 {st:Addr}{t:Str}(h:kE C CK H r st ks w t):ks≠st:=λz=>by
 obtain⟨a,f⟩:=h.sk;rw[<-z,h.kp]at f;cases f
def b7Q (H H':Hp)(r st a:Addr):Prop:=∀x o,x≠r->x≠st->x≠a->H x=some o->H' x=some o
def a9W (C b:Addr):Sp:=λc H Q _=>∃a dx,c= [.ref a]/\H a=some (.ins C dx [])/\∀H' st ks,kE C b H' a st ks [] "more"->H st=none->H ks=none->(∀x o,x≠a->H x=some o->H' x=some o)->Q .non H'
def a2P (C a:Addr):Sp:=λb H Q _=>∃r st ks w t,b= [.ref r]/\kE C a H r st ks w t/\bV w/\w.length<=450/\∀H',Same H H'->Q (.str (ans w)) H'
def a9X (C a:Addr):Sp:=λc H Q _=>∃r st ks w t b,c= [.ref r,.int b]/\kE C a H r st ks w t/\bV (w++[b])/\w.length<450/\∀H',kE C a H' r st ks (w++[b]) (ans (w++[b]))->b7Q H H' r st ks->Q (.str (ans (w++[b]))) H'
def a6Y (C a:Addr):Sp:=λb H Q _=>∃r st ks w t,b= [.ref r]/\kE C a H r st ks w t/\∀p H',H p=none->Same H H'->H' p=some (.lst ((kp w).map V.int))->Q (.ref p) H'
def a6Z (C a:Addr):Sp:=λb H Q _=>∃r st ks w,b= [.ref r]/\kE C a H r st ks w (ans w)/\bV w/\w.length<=450/\(ans w="whole"->(kp w).getD 0 0=0)/\
 (ans w="whole"->a3Y (kp w)->∀t p H',H p=none->Same H H'->H' p=some (.lst ((daB (kp w)).map V.int))->H' t=some (.tup [.int ((nmB (kp w):Nat):Int),.ref p])->Q (.ref t) H')/\(ans w≠"whole"->Q .non H)
def jZ (h:ans w="whole"):lY (kp w)/\rst (kp w)=0:=by
 by_cases h1:5<run w
 ·rw[jK h1]at h;exact absurd h (by decide +kernel)
 by_cases h2:run w=5\/¬ lY (kp w)
 ·rw[nJ h1 h2]at h;exact absurd h (by decide +kernel)
 by_cases h3:rst (kp w)=0
 ·lia
 ·rw[zK h1 h2 h3]at h;exact absurd h (by decide +kernel)
def byt (n:Int):Bool:=decide (0<=n) && decide (n<=255)
def iG {n:Int}:byt n=true↔0<=n/\n<=255:=by unfold byt;simp
def sS {n:Int}(h:byt n=true):∃m:Nat,n=m/\m<256:=by
 obtain⟨a,b⟩:=iG.mp h;exact⟨n.toNat,by lia,by lia⟩
def c3X:Sp:=λa H Q _=>∃n,a= [.int n]/\Q (.bl (byt n)) H
def b5E (K:W.Frag):Sp:=λb H Q _=>∃(a:Addr)(ns:List Int),b= [.ref a]/\SqA K H a (ns.map V.int)/\ns.length<=500/\∀H',Same H H'->Q (.bl (ns.all byt)) H'
def qU (n:Int)(ds:List Int):Prop:=byt n=true/\ds.length<=7/\ds.all byt=true
def c0F (K:W.Frag)(C:Addr):Sp:=λb H Q E=>∃(n:Int)(a:Addr)(ds:List Int),b= [.int n,.ref a]/\SqL K H a (ds.map V.int)/\ds.length<=500/\(qU n ds->∀H',Same H H'->Q .non H')/\(¬ qU n ds->∀H',Same H H'->False)
def b8 (d:Int):List Int:=bW d.toNat 8
def hdD (n:Int)(k:Nat)(ds:List Int):List Int:=[0]++b8 n++bW k 3++(ds.map b8).flatten
def hd (n:Int)(ds:List Int):List Int:=hdD n ds.length ds
def fb (n:Int)(ds:List Int):List Int:=hd n ds++ck (hd n ds)
def mK (d:Int):(b8 d).length=8:=cU _ _
def a6H (d:Int):bV (b8 d):=mJ _ _
theorem a1M:∀ds:List Int,(ds.map b8).flatten.length=8*ds.length
 |[]=>rfl
 |d::r=>by rw[Yz,Xv,Yc,a1M r,mK,Yk];lia
theorem wG:∀ds:List Int,bV (ds.map b8).flatten
 |[]=>λ_ z=>nomatch z
 |d::r=>by rw[Yz,Xv];exact lB (a6H d) (wG r)
def a5R (n:Int)(k:Nat)(ds:List Int):(hdD n k ds).length=12+8*ds.length:=by
 unfold hdD;rw[Yc,Yc,Yc,a1M,mK,cU,Yy]
def b2S (n:Int)(k:Nat)(ds:List Int):bV (hdD n k ds):=by
 refine lB (lB (lB ?_ (a6H n)) (mJ _ _)) (wG ds);intro b a;exact .inl (Yw.mp a)
def b2R (n:Int)(k:Nat)(ds:List Int)(d:Int):hdD n k (ds++[d])=hdD n k ds++b8 d:=by
 unfold hdD;simp
def a3M (n:Int)(ds:List Int):(hd n ds).length=12+8*ds.length:=a5R n _ ds
def yM (n:Int)(ds:List Int):bV (hd n ds):=b2S n _ ds
def b3V (bs:List Int):(ck bs).length=15:=cU _ _
def b7H (bs:List Int):bV (ck bs):=mJ _ _
def nG (n:Int)(ds:List Int):(fb n ds).length=27+8*ds.length:=by unfold fb;rw[Yc,a3M,b3V];lia
def yN (n:Int)(ds:List Int):bV (fb n ds):=lB (yM n ds) (b7H _)
def c2B (n:Int)(ds:List Int)(h:ds.length<=40):rst (fb n ds)=0:=c0L (yM n ds) (by rw[a3M];lia)
def b4Z (K:W.Frag)(C:Addr):Sp:=λb H Q E=>∃(n:Int)(a:Addr)(ds:List Int),b= [.int n,.ref a]/\SqL K H a (ds.map V.int)/\ds.length<=500/\(qU n ds->∀p H',H p=none->Same H H'->H' p=some (.lst ((fb n ds).map V.int))->Q (.ref p) H')/\(¬ qU n ds->∀H',Same H H'->False)
def b1W {n:Int}(h:¬ byt n=true\/7<ds.length\/∃d∈ds,¬ byt d=true):¬ qU n ds:=λ⟨a,c⟩=>by
 grind
def a1Y (h:ds.all byt=true)(a:i<ds.length):byt ds[i]=true:=Xc.mp h _ (YC a)
def a5X (a:n<256)(b:ds.length<=7):szB (fb (n:Int) ds)=ds.length:=by
 unfold szB fb hd hdD;have e:(([0]++b8 (n:Int)++bW ds.length 3++(ds.map b8).flatten++ck ([0]++b8 (n:Int)++bW ds.length 3++(ds.map b8).flatten)).drop 9).take 3=bW ds.length 3:=by
  have c:([0]++b8 (n:Int)).length=9:=by rw[Yc,mK];rfl
  rw[Yo,Yo ([0]++b8 (n:Int)),XR (by lia),XT (by lia),List.nil_append,Y0 (by rw[cU];exact Yb _),Yg (by rw[cU];exact Yb _)]
 rw[e];exact pL (by show ds.length<2 ^ 3;lia)
def b6X (a:n<256):nmB (fb (n:Int) ds)=n:=by
 unfold nmB fb hd hdD;have e:(([0]++b8 (n:Int)++bW ds.length 3++(ds.map b8).flatten++ck ([0]++b8 (n:Int)++bW ds.length 3++(ds.map b8).flatten)).drop 1).take 8=b8 (n:Int):=by
  rfl
 rw[e];exact pL (by show n<2 ^ 8;lia)
theorem a1N:∀(ds:List Int)(k:Nat)(h:k<ds.length)(r:List Int),(((ds.map b8).flatten++r).drop (8*k)).take 8=b8 ds[k]
 | d::ds,0,_,r=>by
  rw[Yz,Xv,Nat.mul_zero,List.drop_zero,Yo,Y0 (by rw[mK];exact Yb _),Yg (by rw[mK];exact Yb _)];rfl
 | d::ds,k+1,h,r=>by
  rw[Yz,Xv,Yo];have e:8*(k+1)=(b8 d).length+8*k:=by rw[mK];lia
  rw[e,<-List.drop_drop,List.drop_left,a1N ds k (by simpa using h) r];rfl
def b6Y (c:n<256)(d:ds.length<=7)(a:ds.all byt=true):daB (fb (n:Int) ds)=ds:=by
 unfold daB;rw[a5X c d];apply List.ext_getElem
 ·rw[Ya,YI]
 ·intro k h b;rw[X4,List.getElem_range];unfold dtB fb hd hdD;have f:([0]++b8 (n:Int)++bW ds.length 3).length=12:=by rw[Yc,Yc,mK,cU];rfl
  rw[Yo,<-List.drop_drop];have e:([0]++b8 (n:Int)++bW ds.length 3++((ds.map b8).flatten++ck ([0]++b8 (n:Int)++bW ds.length 3++(ds.map b8).flatten))).drop 12=(ds.map b8).flatten++ck ([0]++b8 (n:Int)++bW ds.length 3++(ds.map b8).flatten):=by
   rw[XR (by lia),XT (by lia),List.nil_append]
  rw[e,a1N ds k b];obtain⟨m,g,i⟩:=sS (a1Y a b);rw[g];show ((nm (bW m 8):Nat):Int)=_;rw[pL (by show m<2 ^ 8;lia)]
def b2Z (a:n<256)(b:ds.length<=7):a3Y (fb (n:Int) ds):=by
 refine⟨⟨by rw[nG];lia,by rw[nG,a5X a b]⟩,?_,c2B _ _ (by lia)⟩;rfl
def pZ {as:List Int}(a:bV as)(b:bV bs):bV (as++bs):=λz c=>(YM.mp c).elim (a z) (b z)
def xF {as:List Int}(a:bV as):bV (as.take n):=λz b=>a z (YY b)
def b2K (u:List Int):∀v:List Int,∃x,kp (u++v)=kp u++x:=by
 refine snoc_ind ⟨[],by rw[Yv,Yv]⟩ (λv b ih=>?_);rw[<-Yo,kp_snoc];grind
def a6T {l x:List Int}(h:12<=l.length):szB (l++x)=szB l:=by
 unfold szB;grind
structure Wr (w:List Int)(bs:List Int):Prop where
 w:w=put bs
 bits:bV bs
 ok:a3Y bs
def Wr.take_run (h:Wr w bs)(a:j<=w.length):run (w.take j)<=5:=by
 have:=lM bs;rw[<-h.w]at this;exact this j a
def Wr.wbits (h:Wr w bs):bV w:=by rw[h.w];exact tR h.bits
def Wr.kp (h:Wr w bs):kp w=bs:=by rw[h.w];exact yG bs
def Wr.more (h:Wr w bs)(g:j<w.length):ans (w.take j)="more":=by
 have s:=h.take_run (XF g);refine nJ (by lia) (YO λz=>?_);have i:¬ run (w.take j)=5:=λy=>z (.inl y);have a:lY (Wm.kp (w.take j)):=YO λy=>z (.inr y);obtain⟨x,e⟩:=b2K (w.take j) (w.drop j);rw[Ji,h.kp]at e;have m:lY (Wm.kp (w.take j)):=a;have b:=a.1;have o:=a.2;have p:=a6T (l:=Wm.kp (w.take j)) (x:=x) b;have d:=h.ok.1.2;rw[e]at d;have c:(Wm.kp (w.take j)++x).length=27+8*szB (Wm.kp (w.take j)++x):=d;rw[p,Yc]at c;have q:x= []:=XQ (by lia);rw[q,Yv]at e;have good:Good (w.take j):=λk r=>by
  rw[List.take_take];exact h.take_run (by rw[Yi]at r;lia)
 have f:=xT (xF (n:=j) h.wbits) good;rw[if_neg i,<-e,<-h.w]at f;have:=YJ List.length f;rw[Yi]at this;lia
def Wr.whole (h:Wr w bs):ans w="whole":=by
 have a:=rT bs;rw[<-h.w]at a;refine qQ (by lia) (λz=>?_) ?_
 ·rcases z with z | z
  ·lia
  ·rw[h.kp]at z;exact z h.ok.1
 ·rw[h.kp];exact h.ok.2.2
structure On (w:List Int):Prop where
 good:Good w
 le:12<=(kp w).length->(kp w).length<=27+8*szB (kp w)
 five:lY (kp w)->run w=5
def On.nil:On []:=⟨b2T,λz=>absurd z (by decide),λz=>absurd z.1 (by decide)⟩
def a9E {l:List Int}(h:12<=l.length):szB (l++[b])=szB l:=by
 unfold szB;grind
def On.le' (h:On w):12<=(kp (w++[b])).length->(kp (w++[b])).length<=27+8*szB (kp (w++[b])):=by
 rw[kp_snoc];by_cases c:run w=5
 ·rw[if_pos c];exact h.le
 ·rw [if_neg c];intro a;rw[Yc,Yy]at a ⊢;by_cases z:12<=(kp w).length
  ·rw[a9E z];have d:=h.le z;have e:=λy=>c (h.five ⟨z,y⟩);lia
  ·lia
def On.next (h:On w)(a:ans (w++[b])="more"):On (w++[b]):=by
 have c:¬ 5<run (w++[b]):=λz=>by
  rw[jK z]at a;exact absurd a (by decide +kernel)
 refine⟨h.good.snoc (by lia),h.le',λe=>YO λz=>?_⟩;have d:¬ (run (w++[b])=5\/¬ lY (kp (w++[b]))):=λy=>y.elim z λx=>x e;by_cases r:rst (kp (w++[b]))=0
 ·rw[qQ c d r]at a;exact absurd a (by decide +kernel)
 ·rw[zK c d r]at a;exact absurd a (by decide +kernel)
def a9J (K:W.Frag)(C:Addr):Sp:=λb H Q E=>∃(n:Int)(a:Addr)(ds:List Int),b= [.int n,.ref a]/\SqL K H a (ds.map V.int)/\ds.length<=500/\(qU n ds->∀p H',H p=none->Same H H'->H' p=some (.lst ((put (fb n ds)).map V.int))->Q (.ref p) H')/\(¬ qU n ds->∀H',Same H H'->False)
def b4R (C:Addr):Sp:=λa H Q E=>∃v:Int,a= [.int v]/\((v=1\/v=3\/v=5)->Q .non H)/\(¬ (v=1\/v=3\/v=5)->False)
def vU (v:Int):decide (v∈ [(1:Int),3,5])=true↔(v=1\/v=3\/v=5):=by
 simp
structure TCl (K:W.Frag)(C:Addr):Prop where
 cls:Cls K C
 n1:bK K C "votes"
 n2:bK K C "spoke"
 n3:bK K C "over"
 n4:bK K C "noughts"
noncomputable abbrev tlF (v:Nat)(s:Bool)(o n:Nat):List (Str×V):=[("votes",.int v),("spoke",.bl s),("over",.int o),("noughts",.int n)]
def rG (a b:Addr)(H:Hp)(t:Addr)(v:Nat)(s:Bool)(o n:Nat):Prop:=∃C dx,(C=a\/C=b)/\H t=some (.ins C dx (tlF v s o n))
def rG.same {s:Bool}{o:Nat}(h:rG C1 C2 H t v s o n)(g:Same H H'):rG C1 C2 H' t v s o n:=let ⟨C,dx,c,e⟩:=h;⟨C,dx,c,g _ _ e⟩
def fM (s:Bool)(o:Nat):Int:=if o=1/\s=false then 0 else 1
def dM (s:Bool)(o:Nat)(b:Int):Bool:=if o=1 then s && decide (b=1) else decide (b=0)
def tlN (o:Nat)(b:Int)(n:Nat):Nat:=if 9<=o/\b=0 then n+1 else n
def oO (v o n:Nat):Str:=if o<9+v then ("more":Str) else if v / 2<n then ("refused":Str) else ("taken":Str)
def bR (v:Nat)(s:Bool)(o n:Nat)(b:Int):Str:=if 9<=o then oO v (o+1) (tlN o b n) else if dM s o b=true then ("fault":Str) else ("more":Str)
def iW (H H':Hp)(t:Addr):Prop:=∀x o,x≠t->H x=some o->H' x=some o
def a9N (K:W.Frag)(a b:Addr):Sp:=λc H Q _=>∃(t C dx:Addr)(v:Nat)(s:Bool),c= [.ref t,.int v,.bl s]/\(C=a\/C=b)/\H t=some (.ins C dx [])/\Q .non (upd H t (.ins C dx (tlF v s 0 0)))
def a0E (C:Addr)(s:Bool):Sp:=λa H Q _=>∃(t dx:Addr)(v:Nat),a= [.ref t,.int v]/\H t=some (.ins C dx [])/\∀H',H'=upd H t (.ins C dx (tlF v s 0 0))->Q .non H'
def a9M (a b:Addr):Sp:=λc H Q _=>∃t v s o n,c= [.ref t]/\rG a b H t v s o n/\Q (.int (fM s o)) H
def a6V (c d:Addr):Sp:=λe H Q _=>∃t v s o n,∃(a:Nat)(b:Int),e= [.ref t,.int (a:Int),.int b]/\rG c d H t v s o n/\Q (.bl (dM s a b)) H
def a6U (a c:Addr):Sp:=λd H Q _=>∃t v s o n,∃b:Int,d= [.ref t,.int b]/\rG a c H t v s o n/\∀H',rG a c H' t v s o (if b=0 then n+1 else n)->iW H H' t->Q (.str (oO v o (if b=0 then n+1 else n))) H'
def a9O (a c:Addr):Sp:=λd H Q _=>∃t v s o n,∃b:Int,d= [.ref t,.int b]/\rG a c H t v s o n/\∀H',rG a c H' t v s (o+1) (tlN o b n)->iW H H' t->Q (.str (bR v s o n b)) H'
def mW (a:TCl K C1)(b:TCl K C2)(h:C=C1\/C=C2):TCl K C:=h.elim (λz=>z▸a) (λz=>z▸b)
def vD {a:Addr}{m:Str}(b:Meth K C1 m a)(c:Meth K C2 m a)(h:C=C1\/C=C2):Meth K C m a:=h.elim (λz=>z▸b) (λz=>z▸c)
abbrev ctF (n:Int):List (Str×V):=[("total",.int n)]
def zN (C:Addr)(H:Hp)(a:Addr)(n:Int):Prop:=∃dx,H a=some (.ins C dx (ctF n))
def b0G (C:Addr):Sp:=λb H Q _=>∃a dx,b= [.ref a]/\H a=some (.ins C dx [])/\Q .non (upd H a (.ins C dx (ctF 0)))
def b8A (C:Addr)(b:Int):Sp:=λc H Q _=>∃a n,c= [.ref a]/\zN C H a n/\Q (.bl (decide (b<=n))) H
def mvd (n st:Int):Int:=if 18<=n then n else max 0 (n+st)
def b0F (C:Addr):Sp:=λc H Q _=>∃a n st,c= [.ref a,.int st]/\zN C H a n/\∀H',zN C H' a (mvd n st)->(∀b,b≠a->H' b=H b)->Q .non H'
def a7B (C:Addr):Sp:=λc H Q _=>∃a n b,c= [.ref a,.bl b]/\zN C H a n/\∀H',zN C H' a (mvd n (if b=true then 8 else 1))->(∀b,b≠a->H' b=H b)->Q .non H'
def a0F (C:Addr)(st:Int):Sp:=λc H Q _=>∃a n,c= [.ref a]/\zN C H a n/\∀H',zN C H' a (mvd n st)->(∀b,b≠a->H' b=H b)->Q .non H'
abbrev Own:=Addr->Prop
variable {o:Own}{o':Own}{ob:Own}{os:Own}
def isT (o:HO):Prop:=∃vs,o= .tup vs
def dD (o:Own)(H H':Hp):Prop:=∀x v,H x=some v->(¬ o x\/isT v)->H' x=some v
def Mv (o:Own)(H:Hp)(o':Own)(H':Hp):Prop:=dD o H H'/\∀x,o' x->o x\/H x=none
abbrev Or2 (a b:Own):Own:=λx=>a x\/b x
def dD.of (g:Same H H'):dD o H H':=λx v e _=>g x v e
def dD.refl:dD o H H:=λ_ _ e _=>e
def dD.tup {x:Addr}(k:dD o H H')(e:H x=some (.tup vs)):H' x=some (.tup vs):=k x _ e (.inr ⟨vs,rfl⟩)
def dD.le (k:dD o H H')(h:∀x,o x->o' x):dD o' H H':=λx v e z=>k x v e (z.elim (λy=> .inl λw=>y (h x w)) .inr)
def Mv.refl:Mv o H o H:=⟨dD.refl,λ_=> .inl⟩
def Mv.of (g:Same H H'):Mv o H o H':=⟨dD.of g,λ_=> .inl⟩
def Mv.trans {o1 o2:Own}{H2:Hp}(a:Mv o H o1 H1)(b:Mv o1 H1 o2 H2):Mv o H o2 H2:=by
 refine⟨λx v e z=>b.1 x v (a.1 x v e z) ?_,λx d=>?_⟩
 ·rcases z with z | z
  ·exact .inl λw=>(a.2 x w).elim z λn=>by rw[n]at e;cases e
  ·exact .inr z
 ·rcases b.2 x d with h | h
  ·exact a.2 x h
  ·rcases Classical.em (o x) with c | c
   ·exact .inl c
   ·right;cases e:H x with
    |none=>rfl
    |some v=>rw[a.1 x v e (.inl c)]at h;cases h
structure Cs where
 (post count free speaks reads intail flag settles rests off reader streak rtail stail:Addr)
variable {A:Cs}
inductive Stc where
 |free (k:Nat) | speaks (n:Nat) (ds:List Int) (k:Nat) | reads (h:List Int) | tlS (v c:Nat) | tlR (n:Nat) (ds:List Int) (v c:Nat) | flag (l:Nat) (m:Bool) | settles (m:Bool) | rests (l:Nat) | off
abbrev Fr:=Nat×List Int
variable {g:Nat->List Fr}
structure PS where
 (m1 m2 vt:Nat) (wt up:List Fr) (tot:Int) (now:Stc)
variable {B:Nat->PS}{S:PS}{S':PS}{B0:Nat->PS}
abbrev wr (n:Nat)(ds:List Int):List Int:=put (fb (n:Int) ds)
noncomputable def Stc.shown:Stc->Str×Nat
 |.free k=>("free",k)
 |.speaks _ _ k=>("speaks",k)
 |.reads h=>("reads",h.length)
 |.tlS v _=>("tail speaks",v)
 |.tlR _ _ v _=>("tail reads",v)
 |.flag l _=>("flag",l)
 |.settles _=>("settles",0)
 |.rests l=>("rests",l)
 |.off=>("off",0)
noncomputable def bO (S:PS):Int:=match S.now with
 |.free k=>if S.wt= [] then 1 else if 12<=S.tot/\k<8 then 1 else 0
 |.speaks n ds k=>(wr n ds).getD k 0
 |.tlS v _=>fM true v
 |.tlR _ _ v _=>fM false v
 |.flag _ _=>0
 |_=>1
def eQ (S:PS)(st:Int)(w:Str)(nx:Stc):Str×PS:=if 18<=mvd S.tot st then ("off",{ S with tot:=mvd S.tot st,now:= .off }) else (w,{ S with tot:=mvd S.tot st,now:=nx })
def cD (S:PS)(sp:Bool):Str×PS:=eQ S (if sp=true then 8 else 1) "fault" (.flag 6 (!sp))
def dU (S:PS)(sp:Bool):Str×PS:=eQ S (if sp=true then 8 else 1) "refuses" (.settles false)
def iI (S:PS):Str×PS:=eQ S 8 "" (.settles false)
def gW (S:PS)(n:Nat):Bool:=decide (Builtin.bitAnd (n:Int) ((S.m1:Nat):Int)=((S.m2:Nat):Int))
noncomputable def aZ (S:PS)(b:Int):Str×PS:=match S.now with
 |.free k=>if bO S=0 then (if b=0 then ("begins",{ S with now:= .speaks (S.wt.headD (0, [])).1 (S.wt.headD (0, [])).2 1 }) else cD S true) else if b=0 then ("",{ S with now:= .reads [0] }) else ("",{ S with now:= .free (k+1) })
 |.speaks n ds k=>if ans ((wr n ds).take k++[b])="six" then cD S true else if (wr n ds).getD k 0=1/\b=0/\(kp ((wr n ds).take k)).length<9 then ("loses",{ S with now:= .reads ((wr n ds).take k++[b]) }) else if b=(wr n ds).getD k 0 then (if k+1=(wr n ds).length then ("",{ S with now:= .tlS 0 0 }) else ("",{ S with now:= .speaks n ds (k+1) })) else cD S true
 |.reads h=>if ans (h++[b])="more" then ("",{ S with now:= .reads (h++[b]) }) else if ans (h++[b])="whole" then ("",{ S with now:= .tlR (nmB (kp (h++[b]))) (daB (kp (h++[b]))) 0 0 }) else cD S false
 |.tlS v c=>if bR S.vt true v c b="more" then ("",{ S with now:= .tlS (v+1) (tlN v b c) }) else if bR S.vt true v c b="fault" then cD S true else if bR S.vt true v c b="refused" then dU S true else ("done",{ S with tot:=mvd S.tot (-1),wt:=S.wt.tail,now:= .rests 3 })
 |.tlR n ds v c=>if bR S.vt false v c b="more" then ("",{ S with now:= .tlR n ds (v+1) (tlN v b c) }) else if bR S.vt false v c b="fault" then cD S false else if bR S.vt false v c b="refused" then dU S false else ("takes",{ S with tot:=mvd S.tot (-1),up:=if gW S n=true then S.up++[(n,ds)] else S.up,now:= .rests 3 })
 |.flag l m=>if l=1 then ("",{ S with now:= .settles m }) else ("",{ S with now:= .flag (l-1) m })
 |.settles m=>if b=1 then ("",{ S with now:= .rests 3 }) else if m=true then iI S else ("",S)
 |.rests l=>if b=0 then cD S false else ("",{ S with now:=if l=1 then .free 0 else .rests (l-1) })
 |.off=>("",S)
def FrN (f:Fr):Prop:=f.1<256/\f.2.length<=7/\f.2.all byt=true
def FrN.ok {f:Fr}(h:FrN f):qU (f.1:Int) f.2:=⟨iG.mpr ⟨by lia,by have:=h.1;lia⟩,h.2.1,h.2.2⟩
def Stc.Wf (wt:List Fr):Stc->Prop
 |.speaks n ds k=>FrN (n,ds)/\1<=k/\k<(wr n ds).length/\wt≠ []
 |.reads h=>bV h/\On h/\h.head? =some 0
 |.tlS _ _=>wt≠ []
 |.flag l _=>1<=l
 |.rests l=>1<=l
 |_=>True
structure Wf (S:PS):Prop where
 vt:S.vt<=5
 wt:∀f∈S.wt,FrN f
 now:S.now.Wf S.wt
def nm3 {l:List Int}(a:bV l):szB l<=7:=by
 unfold szB;have h:=a0V (nH a 9 3);have b:((l.drop 9).take 3).length<=3:=by rw[Yi];lia
 have c:=YB (n:=2) (by decide) b;lia
def c1J (a:bV h)(b:On h):h.length<=170:=by
 have e:=xT a b.good;have l:=(nW (kp h)).2;have s:=nm3 (yH a);have d:(kp h).length<=83:=by
  by_cases c:12<=(kp h).length
  ·have:=b.le c;lia
  ·lia
 grind
def lK (h:FrN (n,ds)):Wr (wr n ds) (fb (n:Int) ds):=⟨rfl,yN _ _,b2Z h.1 h.2.1⟩
def jR (h:FrN (n,ds)):27<=(wr n ds).length/\(wr n ds).length<=166:=by
 have a:=nG (n:Int) ds;have b:=nW (fb (n:Int) ds);have c:=h.2.1;lia
def a4E (n:Nat)(ds:List Int):(wr n ds).head? =some 0:=by
 rw[b0U];rfl
def qC:(wr n ds).take 1= [0]:=by
 have:=a4E n ds;generalize wr n ds=w at this;cases w with
 |nil=>cases this
 |cons a b=>exact YJ (λy=>[y]) (Yu this)
theorem b7U (h:FrN (n,ds)):∀k,k<(wr n ds).length->On ((wr n ds).take k)
 |0,_=>On.nil
 | k+1,hk=>by
  have ih:=b7U h k (by lia);have e:(wr n ds).take (k+1)=(wr n ds).take k++[(wr n ds)[k]]:=Yf (by lia);have m:=(lK h).more hk;rw[e]at m ⊢;exact ih.next m
def a7U (a:¬ ans (w++[b])="six")(e:(kp w).length<9):ans (w++[b])="more":=by
 refine nJ (λz=>a (jK z)) (.inr λc=>?_);have:=c.1;rw[kp_snoc]at this;split at this
 ·lia
 ·rw[Yc,Yy]at this;lia
def uG {st:Int}{w:Str}{nx:Stc}(h:Wf S)(a:nx.Wf S.wt):Wf (eQ S st w nx).2:=by
 unfold eQ;split
 ·exact⟨h.vt,h.wt,trivial⟩
 ·exact⟨h.vt,h.wt,a⟩
def Wf.hear (h:Wf S)(hb:b=0\/b=1):Wf (aZ S b).2:=by
 have d:∀g,Wf (cD S g).2:=λg=>uG h (by show 1<=6;decide);have t:∀g,Wf (dU S g).2:=λg=>uG h trivial;have a:=h.now;unfold aZ;cases e:S.now with
 | free k =>
  dsimp only;split
  ·rename_i c;split
   ·refine⟨h.vt,h.wt,?_⟩;have A:S.wt≠ []:=λz=>by
     unfold bO at c;rw[e]at c;dsimp only at c;rw[if_pos z]at c;cases c
    cases ew:S.wt with
    |nil=>exact absurd ew A
    | cons f r=>
     have i:=h.wt f (by rw[ew];exact Yt);have:=jR (n:=f.1) (ds:=f.2) i;exact⟨i,Yb _,by show 1<(wr f.1 f.2).length;lia,by intro z;cases z⟩
   ·exact d true
  ·split
   ·refine⟨h.vt,h.wt,⟨λz j=> .inl (Yw.mp j),?_,rfl⟩⟩;exact On.nil.next (b:=0) (by decide +kernel)
   ·exact⟨h.vt,h.wt,trivial⟩
 | speaks n ds k=>
  rw[e]at a;obtain⟨o,q,p,u⟩:=a;dsimp only;split
  ·exact d true
  rename_i c6;split
  ·rename_i c;have B:=b7U o k p;refine⟨h.vt,h.wt,⟨?_,B.next (a7U c6 c.2.2),?_⟩⟩
   ·exact pZ (xF (lK o).wbits) (λz j=>by rw[Yw.mp j];exact hb)
   ·have s:=a4E n ds;generalize wr n ds=w at s p;cases w with
    |nil=>cases s
    | cons x y=>
     cases k with
     |zero=>cases q
     |succ k=>exact s
  split
  ·split
   ·exact⟨h.vt,h.wt,u⟩
   ·exact⟨h.vt,h.wt,⟨o,by lia,by lia,u⟩⟩
  ·exact d true
 | reads r=>
  rw[e]at a;obtain⟨o,q,p⟩:=a;dsimp only;split
  ·rename_i c;refine⟨h.vt,h.wt,⟨pZ o (λz j=>by rw[Yw.mp j];exact hb),q.next c,?_⟩⟩;rw[Xg,p];rfl
  split
  ·exact⟨h.vt,h.wt,trivial⟩
  ·exact d false
 | tlS v c=>
  rw[e]at a;dsimp only;split
  ·exact⟨h.vt,h.wt,a⟩
  split
  ·exact d true
  split
  ·exact t true
  ·exact⟨h.vt,λf d=>h.wt f (List.mem_of_mem_tail d),by show 1<=3;decide⟩
 | tlR n ds v c=>
  dsimp only;split
  ·exact⟨h.vt,h.wt,trivial⟩
  split
  ·exact d false
  split
  ·exact t false
  ·exact⟨h.vt,h.wt,by show 1<=3;decide⟩
 | flag l m=>
  rw[e]at a;have C:1<=l:=a;dsimp only;split
  ·exact⟨h.vt,h.wt,trivial⟩
  ·exact⟨h.vt,h.wt,by show 1<=l-1;lia⟩
 | settles m=>
  dsimp only;split
  ·exact⟨h.vt,h.wt,by show 1<=3;decide⟩
  split
  ·exact uG h trivial
  ·exact h
 | rests l=>
  rw[e]at a;have C:1<=l:=a;dsimp only;split
  ·exact d false
  ·refine⟨h.vt,h.wt,?_⟩;show Stc.Wf S.wt (if l=1 then .free 0 else .rests (l-1));split
   ·trivial
   ·show 1<=l-1;lia
 |off=>exact h
def a8P (H:Hp)(o:Own)(t:Addr)(f:Fr):Prop:=∃d,H t=some (.tup [.int ((f.1:Nat):Int),.ref d])/\H d=some (.lst (f.2.map V.int))/\o d
inductive fK (H:Hp)(o:Own):List V->List Fr->Prop
 |nil:fK H o [] []
 |cons {t:Addr} {f:Fr} {ts:List V} {fs:List Fr}:a8P H o t f->fK H o ts fs->fK H o (.ref t::ts) (f::fs)
theorem fK.len:∀{ts:List V}{fs:List Fr},fK H o ts fs->ts.length=fs.length
 |_,_,.nil=>rfl
 |_,_,.cons _ r=>YJ (·+1) r.len
theorem fK.snoc {f:Fr}:∀{ts:List V}{fs:List Fr},fK H o ts fs->a8P H o t f->fK H o (ts++[.ref t]) (fs++[f])
 |_,_,.nil,h=> .cons h .nil
 |_,_,.cons a r,h=> .cons a (r.snoc h)
def a8P.imp {f:Fr}(h:a8P H o t f)(g:∀x v,H x=some v->(o x\/isT v)->H' x=some v)(w:∀x,o x->o' x):a8P H' o' t f:=by
 obtain⟨d,b,c,a⟩:=h;exact⟨d,g _ _ b (.inr ⟨_,rfl⟩),g _ _ c (.inl a),w d a⟩
theorem fK.imp (g:∀x v,H x=some v->(o x\/isT v)->H' x=some v)(w:∀x,o x->o' x):∀{ts:List V}{fs:List Fr},fK H o ts fs->fK H' o' ts fs
 |_,_,.nil=> .nil
 |_,_,.cons a r=> .cons (a.imp g w) (r.imp g w)
theorem fK.get:∀{ts:List V}{fs:List Fr},fK H o ts fs->∀{i:Nat}{v:V},ts[i]? =some v->∃t f,v= .ref t/\fs[i]? =some f/\a8P H o t f
 |_,_,.cons a _,0,_,rfl=>⟨_,_,rfl,rfl,a⟩
 |_,_,.cons _ r,i+1,_,h=>r.get (i:=i) h
noncomputable abbrev pF (ch:Addr)(vt:Nat)(wl ul ct nw:Addr):List (Str×V):=[("choice",.ref ch),("votes",.int vt),("waiting",.ref wl),("handed_up",.ref ul),("tally",.ref ct),("now",.ref nw)]
abbrev Dl (o:Own)(wl ul:Addr):Own:=λx=>o x/\x≠wl/\x≠ul
structure BAt (A:Cs)(H:Hp)(p nwf:Addr)(S:PS)(o:Own)(dx ch wl ul ct:Addr)(ws us:List V):Prop where
 e:H p=some (.ins A.post dx (pF ch S.vt wl ul ct nwf))
 ec:H ch=some (.tup [.int S.m1,.int S.m2])
 ew:H wl=some (.lst ws)
 fw:fK H (Dl o wl ul) ws S.wt
 eu:H ul=some (.lst us)
 fu:fK H (Dl o wl ul) us S.up
 et:zN A.count H ct S.tot
 op:o p
 ow:o wl
 ou:o ul
 ot:o ct
 ne:wl≠ul
 al:∀x,o x->H x≠none
def Bd (A:Cs)(H:Hp)(p a:Addr)(S:PS)(o:Own):Prop:=∃dx ch wl ul ct ws us,BAt A H p a S o dx ch wl ul ct ws us
def BAt.move {p:Addr}{ch ct:Addr}(h:BAt A H p nwf S o dx ch wl ul ct ws us)(g:∀x v,H x=some v->(o x\/isT v)->H' x=some v):BAt A H' p nwf S o dx ch wl ul ct ws us:=
 ⟨g _ _ h.e (.inl h.op),g _ _ h.ec (.inr ⟨_,rfl⟩),g _ _ h.ew (.inl h.ow),h.fw.imp (λx v e z=>g x v e (z.imp_left And.left)) λ_ z=>z,g _ _ h.eu (.inl h.ou),h.fu.imp (λx v e z=>g x v e (z.imp_left And.left)) λ_ z=>z,
  let ⟨d,e⟩:=h.et;⟨d,g _ _ e (.inl h.ot)⟩,h.op,h.ow,h.ou,h.ot,h.ne,λx a=>by
   have:=h.al x a;cases e:H x with
   |none=>exact absurd e this
   |some v=>rw[g x v e (.inl a)];simp⟩
def Bd.move {p:Addr}(h:Bd A H p nwf S o)(g:∀x v,H x=some v->(o x\/isT v)->H' x=some v):Bd A H' p nwf S o:=
 let ⟨dx,ch,wl,ul,ct,ws,us,b⟩:=h;⟨dx,ch,wl,ul,ct,ws,us,b.move g⟩
def Bd.al {p:Addr}(h:Bd A H p nwf S o):∀x,o x->H x≠none:=let ⟨_,_,_,_,_,_,_,b⟩:=h;b.al
def Bd.op {p:Addr}(h:Bd A H p nwf S o):o p:=let ⟨_,_,_,_,_,_,_,b⟩:=h;b.op
def Bd.now {p:Addr}(h:Bd A H p nwf S o)(a:S'.m1=S.m1)(c:S'.m2=S.m2)(d:S'.vt=S.vt)(f:S'.wt=S.wt)(g:S'.up=S.up)(i:S'.tot=S.tot):Bd A H p nwf S' o:=by
 obtain⟨j,k,l,m,n,q,r,b⟩:=h;exact⟨j,k,l,m,n,q,r,by rw[d];exact b.e,by rw[a,c];exact b.ec,b.ew,by rw[f];exact b.fw,b.eu,by rw[g];exact b.fu,by rw[i];exact b.et,b.op,b.ow,b.ou,b.ot,b.ne,b.al⟩
def c2W (A:Cs)(H:Hp)(nw:Addr)(vt:Nat)(o:Own):Stc->Prop
 |.free k=>∃dx,H nw=some (.ins A.free dx [("since",.int ((k:Nat):Int))])
 |.speaks n ds k=>∃dx wa r st ks t,H nw=some (.ins A.speaks dx [("wire",.ref wa),("reader",.ref r),("many",.int ((k:Nat):Int))])/\H wa=some (.lst ((wr n ds).map V.int))/\kE A.reader A.streak H r st ks ((wr n ds).take k) t/\wa≠ks/\o wa/\o r/\o st/\o ks
 |.reads h=>∃dx r st ks t,H nw=some (.ins A.reads dx [("reader",.ref r),("many",.int ((h.length:Nat):Int))])/\kE A.reader A.streak H r st ks h t/\o r/\o st/\o ks
 |.tlS v c=>∃dx tl,H nw=some (.ins A.intail dx [("tail",.ref tl),("found",.non)])/\rG A.rtail A.stail H tl vt true v c/\o tl
 |.tlR n ds v c=>∃dx tl t d,H nw=some (.ins A.intail dx [("tail",.ref tl),("found",.ref t)])/\rG A.rtail A.stail H tl vt false v c/\H t=some (.tup [.int ((n:Nat):Int),.ref d])/\H d=some (.lst (ds.map V.int))/\o tl/\o d
 |.flag l m=>∃dx,H nw=some (.ins A.flag dx [("left",.int ((l:Nat):Int)),("may_blame",.bl m)])
 |.settles m=>∃dx,H nw=some (.ins A.settles dx [("may_blame",.bl m)])
 |.rests l=>∃dx,H nw=some (.ins A.rests dx [("left",.int ((l:Nat):Int))])
 |.off=>∃dx,H nw=some (.ins A.off dx [])
structure StW (A:Cs)(H:Hp)(nw:Addr)(S:PS)(o:Own):Prop where
 at_:c2W A H nw S.vt o S.now
 on:o nw
 al:∀x,o x->H x≠none
def a4T {st:Addr}{t:Str}(h:kE C CK H r st ks w t)(a:∀v,H r=some v->H' r=some v)(b:∀v,H st=some v->H' st=some v)(c:∀v,H ks=some v->H' ks=some v):kE C CK H' r st ks w t:=
 ⟨let ⟨d,e⟩:=h.rd;⟨d,a _ e⟩,let ⟨d,e⟩:=h.sk;⟨d,b _ e⟩,c _ h.kp⟩
def StW.move (h:StW A H nw S o)(g:∀x v,H x=some v->(o x\/isT v)->H' x=some v):StW A H' nw S o:=by
 obtain⟨a,J,al⟩:=h;have i:∀v,H nw=some v->H' nw=some v:=λv e=>g _ _ e (.inl J);refine⟨?_,J,λx K=>?_⟩
 ·revert a
  generalize S.now=s;cases s with
  |free k=>intro b;obtain⟨f,e⟩:=b;exact⟨f,i _ e⟩
  |speaks n ds k=>intro b;obtain⟨f,L,r,D,E,t,e,q,u,F,j,p,y,B⟩:=b;exact⟨f,L,r,D,E,t,i _ e,g _ _ q (.inl j),a4T u (λv z=>g _ _ z (.inl p)) (λv z=>g _ _ z (.inl y)) (λv z=>g _ _ z (.inl B)),F,j,p,y,B⟩
  |reads w=>intro b;obtain⟨f,r,D,E,t,e,u,p,y,B⟩:=b;exact⟨f,r,D,E,t,i _ e,a4T u (λv z=>g _ _ z (.inl p)) (λv z=>g _ _ z (.inl y)) (λv z=>g _ _ z (.inl B)),p,y,B⟩
  |tlS v c=>intro b;obtain⟨f,G,e,⟨C,d,I,q⟩,j⟩:=b;exact⟨f,G,i _ e,⟨C,d,I,g _ _ q (.inl j)⟩,j⟩
  |tlR n ds v c=>intro b;obtain⟨f,G,t,d,e,⟨C,M,I,q⟩,u,F,j,p⟩:=b;exact⟨f,G,t,d,i _ e,⟨C,M,I,g _ _ q (.inl j)⟩,g _ _ u (.inr ⟨_,rfl⟩),g _ _ F (.inl p),j,p⟩
  |flag l m=>intro b;obtain⟨f,e⟩:=b;exact⟨f,i _ e⟩
  |settles m=>intro b;obtain⟨f,e⟩:=b;exact⟨f,i _ e⟩
  |rests l=>intro b;obtain⟨f,e⟩:=b;exact⟨f,i _ e⟩
  |off=>intro b;obtain⟨f,e⟩:=b;exact⟨f,i _ e⟩
 ·have:=al x K;cases e:H x with
  |none=>exact absurd e this
  |some v=>rw[g x v e (.inl K)];simp
def cI (A:Cs)(H:Hp)(p:Addr)(S:PS)(o:Own):Prop:=∃nw ob os,Bd A H p nw S ob/\StW A H nw S os/\(∀x,ob x->os x->False)/\Wf S/\(∀x,ob x\/os x->o x)/\∀x,o x->H x≠none
def cI.move {p:Addr}(h:cI A H p S o)(g:∀x v,H x=some v->(o x\/isT v)->H' x=some v):cI A H' p S o:=by
 obtain⟨c,f,j,b,s,d,w,i,al⟩:=h;refine⟨c,f,j,b.move λx v e z=>g x v e (z.imp_left λy=>i x (.inl y)),s.move λx v e z=>g x v e (z.imp_left λy=>i x (.inr y)),d,w,i,λx a=>?_⟩;have:=al x a;cases e:H x with
 |none=>exact absurd e this
 |some v=>rw[g x v e (.inl a)];simp
def cI.same {p:Addr}(h:cI A H p S o)(g:Same H H'):cI A H' p S o:=h.move λx v e _=>g x v e
def cI.wf {p:Addr}(h:cI A H p S o):Wf S:=let ⟨_,_,_,_,_,_,w,_,_⟩:=h;w
def cI.al {p:Addr}(h:cI A H p S o):∀x,o x->H x≠none:=let ⟨_,_,_,_,_,_,_,_,a⟩:=h;a
def at0 {v:V}:atI (v::vs) (0:Int)=some v:=bB (j:=0) rfl
def sq0 {v:V}:seqIndex? (0:Int) (v::vs).length=some 0:=by
 unfold seqIndex?;simp
def lZ (H:Hp)(a:Addr)(x y:HO):upd (upd H a x) a y=upd H a y:=by
 funext z;by_cases h:z=a
 ·rw[h,aC,aC]
 ·rw[aH h,aH h,aH h]
def a2T (C:Addr)(f:Str):Sp:=λb H Q _=>∃a dx v,b= [.ref a,v]/\H a=some (.ins C dx [])/\∀H',H'=upd H a (.ins C dx [(f,v)])->Q .non H'
def a2S (C:Addr)(f g:Str):Sp:=λb H Q _=>∃a dx v w,b= [.ref a,v,w]/\H a=some (.ins C dx [])/\∀H',H'=upd H a (.ins C dx [(f,v),(g,w)])->Q .non H'
def b9V (C:Addr)(f g h:Str):Sp:=λb H Q _=>∃a dx v w z,b= [.ref a,v,w,z]/\H a=some (.ins C dx [])/\∀H',H'=upd H a (.ins C dx [(f,v),(g,w),(h,z)])->Q .non H'
def b5G (A:Cs):Sp:=λa H Q _=>a= []/\∀r st ks H' t,kE A.reader A.streak H' r st ks [0] t->Same H H'->H r=none->H st=none->H ks=none->Q (.ref r) H'
def b8B (A:Cs)(a:Int):Sp:=λb H Q _=>∃p nwf S o,b= [.ref p]/\Bd A H p nwf S o/\Q (.bl (decide (a<=S.tot))) H
def c3S (A:Cs):Sp:=λa H Q _=>∃p nwf S o,a= [.ref p]/\Bd A H p nwf S o/\Q (.bl (decide (0<(S.wt.length:Int)))) H
def a2U (A:Cs):Sp:=λa H Q _=>∃p nwf S o f r,a= [.ref p]/\Bd A H p nwf S o/\S.wt=f::r/\FrN f/\∀pw H',H pw=none->Same H H'->H' pw=some (.lst ((wr f.1 f.2).map V.int))->Q (.ref pw) H'
def c0A (A:Cs):Sp:=λa H Q _=>∃p nwf S o,a= [.ref p]/\Bd A H p nwf S o/\S.wt≠ []/\∀H',Bd A H' p nwf { S with wt:=S.wt.tail } o->dD o H H'->Q .non H'
def b0D (A:Cs):Sp:=λa H Q _=>∃p nwf S o t d n ds,a= [.ref p,.ref t]/\Bd A H p nwf S o/\H t=some (.tup [.int ((n:Nat):Int),.ref d])/\H d=some (.lst (ds.map V.int))/\¬ o d/\S.up.length<900/\
 ∀H',Bd A H' p nwf { S with up:=if gW S n=true then S.up++[(n,ds)] else S.up } (Or2 o λx=>x=d)->dD o H H'->Q .non H'
def b9X (K:W.Frag)(A:Cs)(C:Addr):Sp:=λb H Q E=>∃p nwf S o n a ds,b= [.ref p,.int n,.ref a]/\Bd A H p nwf S o/\SqL K H a (ds.map V.int)/\ds.length<=500/\S.wt.length<900/\
 (qU n ds->∀H' d,H d=none->Bd A H' p nwf { S with wt:=S.wt++[(n.toNat,ds)] } (Or2 o λx=>x=d)->dD o H H'->Q .non H')/\(¬ qU n ds->∀H',Same H H'->False)
inductive fU (H H':Hp):List V->List Fr->Prop
 |nil:fU H H' [] []
 |cons {t d:Addr} {f:Fr} {ts:List V} {fs:List Fr}:H t=none->H d=none->H' t=some (.tup [.int ((f.1:Nat):Int),.ref d])->H' d=some (.lst (f.2.map V.int))->fU H H' ts fs->fU H H' (.ref t::ts) (f::fs)
theorem fU.snoc {d:Addr}{f:Fr}(h1:H t=none)(h2:H d=none)(e1:H' t=some (.tup [.int ((f.1:Nat):Int),.ref d]))(e2:H' d=some (.lst (f.2.map V.int))):∀{ts:List V}{fs:List Fr},fU H H' ts fs->fU H H' (ts++[.ref t]) (fs++[f])
 |_,_,.nil=> .cons h1 h2 e1 e2 .nil
 |_,_,.cons a1 a2 a3 a4 r=> .cons a1 a2 a3 a4 (r.snoc h1 h2 e1 e2)
theorem fU.same {H2:Hp}(g:Same H' H2):∀{ts:List V}{fs:List Fr},fU H H' ts fs->fU H H2 ts fs
 |_,_,.nil=> .nil
 |_,_,.cons a1 a2 a3 a4 r=> .cons a1 a2 (g _ _ a3) (g _ _ a4) (r.same g)
theorem fU.len:∀{ts:List V}{fs:List Fr},fU H H' ts fs->ts.length=fs.length
 |_,_,.nil=>rfl
 |_,_,.cons _ _ _ _ r=>YJ (·+1) r.len
def b0H (K:W.Frag):Sp:=λb H Q _=>∃(a:Addr)(ts:List V)(fs:List Fr)(o:Own),b= [.ref a]/\H a=some (.lst ts)/\fK H o ts fs/\fs.length<=900/\∀l xs H',H l=none->Same H H'->H' l=some (.lst xs)->fU H H' xs fs->Q (.ref l) H'
def b4Q (A:Cs):Sp:=λa H Q _=>∃p nwf S o,a= [.ref p]/\Bd A H p nwf S o/\S.wt.length<=900/\∀l xs H',H l=none->Same H H'->H' l=some (.lst xs)->fU H H' xs S.wt->Q (.ref l) H'
def c3T (A:Cs):Sp:=λa H Q _=>∃p nwf S o,a= [.ref p]/\Bd A H p nwf S o/\S.up.length<=900/\∀l xs H',H l=none->Same H H'->H' l=some (.lst xs)->fU H H' xs S.up->Q (.ref l) H'
def a9L (A:Cs):Sp:=λa H Q _=>∃p nwf S o w nx,a= [.ref p,.str w,.ref nx]/\Bd A H p nwf S o/\(¬ 18<=S.tot->∀t H',Same H H'->H' t=some (.tup [.str w,.ref nx])->Q (.ref t) H')/\
 (18<=S.tot->∀t nw dx H',Same H H'->H nw=none->H' nw=some (.ins A.off dx [])->H' t=some (.tup [.str "off",.ref nw])->Q (.ref t) H')
def Aft (A:Cs)(H:Hp)(p a:Addr)(o:Own)(r:Str×PS)(t:Addr)(H':Hp):Prop:=∃nw' os',H' t=some (.tup [.str r.1,.ref nw'])/\Bd A H' p a r.2 o/\StW A H' nw' r.2 os'/\(∀x,os' x->H x=none)/\dD o H H'
def Stp (A:Cs)(H:Hp)(p a:Addr)(b c:Own)(r:Str×PS)(t:Addr)(H':Hp):Prop:=∃nw' ob' os',H' t=some (.tup [.str r.1,.ref nw'])/\Bd A H' p a r.2 ob'/\StW A H' nw' r.2 os'/\(∀x,ob' x->os' x->False)/\Mv (Or2 b c) H (Or2 ob' os') H'
def b5A (A:Cs):Sp:=λa H Q _=>∃p nwf S o sp,a= [.ref p,.bl sp]/\Bd A H p nwf S o/\∀t H',Aft A H p nwf o (cD S sp) t H'->Q (.ref t) H'
def a6X (A:Cs):Sp:=λa H Q _=>∃p nwf S o sp,a= [.ref p,.bl sp]/\Bd A H p nwf S o/\∀t H',Aft A H p nwf o (dU S sp) t H'->Q (.ref t) H'
def b5F (A:Cs):Sp:=λa H Q _=>∃p nwf S o,a= [.ref p]/\Bd A H p nwf S o/\∀t H',Aft A H p nwf o (iI S) t H'->Q (.ref t) H'
def pO {o o':Own}{x:Addr}(k:dD o H H')(n:H' x=none):o x\/H x=none:=by
 rcases Classical.em (o x) with c | c
 ·exact .inl c
 ·right;cases e:H x with
  |none=>rfl
  |some v=>rw[k x v e (.inl c)]at n;cases n
def Aft.stp {p:Addr}{r:Str×PS}(h:Aft A H p nwf ob r t H')(k:dD (Or2 ob os) H0 H)(b:Bd A H p nwf S ob):Stp A H0 p nwf ob os r t H':=by
 obtain⟨a,c,e,bd,d,fr,kp⟩:=h;refine⟨a,ob,c,e,bd,d,λx hx f=>b.al x hx (fr x f),λx v ex z=>?_,λx hx=>?_⟩
 ·exact kp x v (k x v ex z) (z.imp_left λy w=>y (.inl w))
 ·rcases hx with hx | hx
  ·exact .inl (.inl hx)
  ·exact pO (o':=ob) k (fr x hx)
def Bd.count {p ct:Addr}{ch:Addr}{n:Int}(b:BAt A H p nwf S o dx ch wl ul ct ws us)(c:zN A.count H' ct n)(k:∀x,x≠ct->H' x=H x):Bd A H' p nwf { S with tot:=n } o/\dD o H H':=by
 have ne:∀{x:Addr}{v:HO},H x=some v->(∀C d,v≠ .ins C d (ctF S.tot))->x≠ct:=λ{x v} e h z=>by
  obtain⟨d,q⟩:=b.et;grind
 have f:dD o H H':=λx v e z=>by
  rw[k x]
  ·exact e
  ·rintro rfl;rcases z with z | ⟨t,rfl⟩
   ·exact z b.ot
   grind
 have g:∀{x:Addr}{l:List V},H x=some (.lst l)->H' x=some (.lst l):=λ{x l} e=>by grind
 have fk:∀{i:List V}{fs:List Fr},fK H (Dl o wl ul) i fs->fK H' (Dl o wl ul) i fs:=λ{i fs} h=>by
  induction h with
  |nil=>exact .nil
  | cons a _ ih=>
   obtain⟨d,j,m,r⟩:=a;exact .cons ⟨d,f.tup j,g m,r⟩ ih
 refine⟨⟨dx,ch,wl,ul,ct,ws,us,?_,f.tup b.ec,g b.ew,fk b.fw,g b.eu,fk b.fu,c,b.op,b.ow,b.ou,b.ot,b.ne,λx s=>?_⟩,f⟩
 ·rw[k p (ne b.e λC d z=>by cases z)];exact b.e
 ·by_cases h:x=ct
  ·obtain⟨d,q⟩:=c;rw[h,q];simp
  ·rw[k x h];exact b.al x s
def a9K (K:W.Frag):Sp:=λa H Q _=>∃(c:Addr)(m t n:Int),a= [.ref c,.int n]/\H c=some (.tup [.int m,.int t])/\Q (.bl (decide (Builtin.bitAnd n m=t))) H
def b0I (K:W.Frag)(C:Addr):Sp:=λb H Q E=>∃(a:Addr)(ns:List Int),b= [.ref a]/\SqT K H a (ns.map V.int)/\ns.length<=500/\(ns.all byt=true->∀H',Same H H'->Q .non H')/\(¬ ns.all byt=true->∀H',Same H H'->False)
def S0 (a b v:Nat):PS:=⟨a,b,v, [], [],0,.free 0⟩
def a8O (a b v:Int):Prop:=byt a=true/\byt b=true/\(v=1\/v=3\/v=5)
def a2Q (K:W.Frag)(A:Cs)(C:Addr):Sp:=λb H Q E=>∃(a dx ch:Addr)(m1 m2 v:Int),b= [.ref a,.ref ch,.int v]/\H a=some (.ins A.post dx [])/\H ch=some (.tup [.int m1,.int m2])/\
 (a8O m1 m2 v->∀H' o,cI A H' a (S0 m1.toNat m2.toNat v.toNat) o->(∀x,o x->x=a\/H x=none)->(∀x u,x≠a->H x=some u->H' x=some u)->Q .non H')/\(¬ a8O m1 m2 v->∀H':Hp,(∀x u,x≠a->H x=some u->H' x=some u)->False)
def Bd.grow {p d:Addr}{v:HO}(h:Bd A H p nwf S o)(e:H d=some v):Bd A H p nwf S (Or2 o λx=>x=d):=by
 obtain⟨c,f,g,i,j,k,l,b⟩:=h;refine⟨c,f,g,i,j,k,l,b.e,b.ec,b.ew,b.fw.imp (λx v e _=>e) (λx z=>⟨.inl z.1,z.2⟩),b.eu,b.fu.imp (λx v e _=>e) (λx z=>⟨.inl z.1,z.2⟩),b.et,.inl b.op,.inl b.ow,.inl b.ou,.inl b.ot,b.ne,λx hx=>?_⟩;rcases hx with hx | hx
 ·exact b.al x hx
 lia
def a1D {p:Addr}{ch ct:Addr}{ys:List V}(b:BAt A H p nwf S o dx ch wl ul ct ws us)(ha:a=wl\/a=ul):
  dD o H (upd H a (.lst ys))/\upd H a (.lst ys) p=H p/\upd H a (.lst ys) ch=H ch/\upd H a (.lst ys) ct=H ct/\(∀{ts:List V}{fs:List Fr},fK H (Dl o wl ul) ts fs->fK (upd H a (.lst ys)) (Dl o wl ul) ts fs)/\∀x,o x->upd H a (.lst ys) x≠none:=by
 have c:∃l,H a=some (.lst l):=ha.elim (λz=>⟨_,z▸b.ew⟩) λz=>⟨_,z▸b.eu⟩
 obtain⟨l,c⟩:=c;have i:dD o H (upd H a (.lst ys)):=λx v e z=>by
  rw[aH]
  ·exact e
  ·rintro rfl;rcases z with z | ⟨q,rfl⟩
   ·exact z (ha.elim (λz=>z▸b.ow) λz=>z▸b.ou)
   ·rw[c]at e;cases e
 have f:∀{x:Addr}{v:HO},H x=some v->(∀l,v≠ .lst l)->upd H a (.lst ys) x=H x:=λ{x v} e h=>by
  rw[aH];grind
 refine⟨i,f b.e (λl z=>nomatch z),f b.ec (λl z=>nomatch z),(let ⟨d,e⟩:=b.et;f e λl z=>nomatch z),λ{ts fs} h=>?_,λx k=>?_⟩
 ·induction h with
  |nil=>exact .nil
  | cons a' _ ih=>
   obtain⟨d,m,n,g⟩:=a';refine .cons ⟨d,i.tup m,?_,g⟩ ih;rw[aH (ha.elim (λz=>z▸g.2.1) λz=>z▸g.2.2)];exact n
 ·by_cases h:x=a
  ·rw[h,aC];simp
  ·rw[aH h];exact b.al x k
def Stc.tag:Stc->Nat
 |.free _=>0
 |.speaks _ _ _=>1
 |.reads _=>2
 |.tlS _ _=>3
 |.tlR _ _ _ _=>3
 |.flag _ _=>4
 |.settles _=>5
 |.rests _=>6
 |.off=>7
def dH (A:Cs)(i:Nat):Sp:=λa H Q _=>∃nw p nwf S ob os,a= [.ref nw,.ref p]/\S.now.tag=i/\Bd A H p nwf S ob/\StW A H nw S os/\Wf S/\Q (.int (bO S)) H
def dG (A:Cs)(i:Nat):Sp:=λa H Q _=>∃nw p nwf S ob os b,a= [.ref nw,.int b,.ref p]/\S.now.tag=i/\Bd A H p nwf S ob/\StW A H nw S os/\(∀x,ob x->os x->False)/\Wf S/\(b=0\/b=1)/\S.up.length<900/\∀t H',Stp A H p nwf ob os (aZ S b) t H'->Q (.ref t) H'
structure Bef (S S':PS):Prop where
 e1:S'.m1=S.m1
 e2:S'.m2=S.m2
 e3:S'.vt=S.vt
 e4:S'.wt=S.wt
 e5:S'.up=S.up
 e6:S'.tot=S.tot
def Stp.go {p:Addr}{os':Own}{r:Str×PS}(b:Bd A H0 p nwf S ob)(a:∀x,ob x->os x->False)(k:dD os H0 H1)(g:Same H1 H')(e:H' t=some (.tup [.str r.1,.ref nw']))(f:Bef S r.2)(st:StW A H' nw' r.2 os')(fr:∀x,os' x->os x\/H1 x=none):Stp A H0 p nwf ob os r t H':=by
 have c:=b.move λx v e z=>k x v e (z.imp_left λy w=>a x y w);refine⟨nw',ob,os',e,(c.move λx v e _=>g x v e).now f.e1 f.e2 f.e3 f.e4 f.e5 f.e6,st,λx hx d=>?_,λx v ex z=>g x v (k x v ex (z.imp_left λy w=>y (.inr w))),λx hx=>?_⟩
 ·exact(fr x d).elim (a x hx) (c.al x hx)
 ·rcases hx with hx | hx
  ·exact .inl (.inl hx)
  ·rcases fr x hx with h | h
   ·exact .inl (.inr h)
   ·exact(pO (o':=ob) k h).imp_left .inr
def Stp.go2 {p:Addr}{a os':Own}{r:Str×PS}(b:Bd A H1 p nwf r.2 a)(k:dD (Or2 ob os) H0 H1)(g:Same H1 H')(e:H' t=some (.tup [.str r.1,.ref nw']))(st:StW A H' nw' r.2 os')(fr:∀x,os' x->H1 x=none)(fo:∀x,a x->Or2 ob os x\/H0 x=none):Stp A H0 p nwf ob os r t H':=by
 refine⟨nw',a,os',e,b.move λx v e _=>g x v e,st,λx hx c=>b.al x hx (fr x c),λx v ex z=>g x v (k x v ex z),λx hx=>?_⟩;rcases hx with hx | hx
 ·exact fo x hx
 ·exact pO (o':=ob) k (fr x hx)
def jG {v:HO}(e:H nw=some v)(h:c2W A H nw S.vt (λx=>x=nw) S.now):StW A H nw S (λx=>x=nw):=⟨h,rfl,λx b=>by
 lia⟩
def a0H (e:S.now= .free k):bO S=if S.wt= [] then 1 else if 12<=S.tot/\k<8 then 1 else 0:=by unfold bO;rw[e]
def a9Z (A:Cs):Sp:=λa H Q _=>∃p S o,a= [.ref p]/\cI A H p S o/\Q (.int (bO S)) H
def b0A (A:Cs):Sp:=λa H Q _=>∃p S o b,a= [.ref p,.int b]/\cI A H p S o/\(b=0\/b=1)/\S.up.length<900/\∀H' o',cI A H' p (aZ S b).2 o'->Mv o H o' H'->Q (.str (aZ S b).1) H'
def tY {x y D d:Addr}{fs a:List (Str×V)}{v:V}(f:Str)(b:H x=some (.ins C dx fs))(e:H y=some (.ins D d a))(c:fs.lookup f=some v)(g:a.lookup f=none):x≠y:=λz=>by
 lia
def a5G {x y:Addr}{fs:List (Str×V)}{l:List V}(a:H x=some (.ins C dx fs))(b:H y=some (.lst l)):x≠y:=λz=>by
 rw[z,b]at a;cases a
def a5P {st:Addr}{t:Str}(h:kE C CK H r st ks w t)(b:b7Q H H1 r st ks)(c:o r)(f:o st)(g:o ks):dD o H H1:=λx v e z=>by
 refine b x v ?_ ?_ ?_ e
 ·rintro rfl;rcases z with z | ⟨a,rfl⟩
  ·exact z c
  ·obtain⟨d,q⟩:=h.rd;rw[q]at e;cases e
 ·rintro rfl;rcases z with z | ⟨a,rfl⟩
  ·exact z f
  ·obtain⟨d,q⟩:=h.sk;rw[q]at e;cases e
 ·rintro rfl;rcases z with z | ⟨a,rfl⟩
  ·exact z g
  ·rw[h.kp]at e;cases e
def a5O {a:Addr}{s:Bool}(h:rG C1 C2 H a v s n c)(b:iW H H1 a)(f:o a):dD o H H1:=λx u e z=>by
 refine b x u ?_ e;rintro rfl;rcases z with z | ⟨g,rfl⟩
 ·exact z f
 ·obtain⟨C,d,_,q⟩:=h;rw[q]at e;cases e
def sE {p:Addr}(bd:Bd A H p nwf S ob)(a:∀x,ob x->os x->False)(k:dD os H H1):Bd A H1 p nwf S ob:=bd.move λx v e z=>k x v e (z.imp_left λy w=>a x y w)
def getD_get (h:k<w.length):w.getD k 0=w[k]:=by rw[Yj,Yd h];rfl
def nU {p:Addr}{r:Str×PS}{v:HO}(b:Bd A H0 p nwf S ob)(c:∀x,ob x->os x->False)(k:dD os H0 H1)(g:Same H1 H')(e:H' t=some (.tup [.str r.1,.ref nw']))(f:Bef S r.2)(d:H1 nw'=none)(h:H' nw'=some v)(i:c2W A H' nw' r.2.vt (λx=>x=nw') r.2.now):Stp A H0 p nwf ob os r t H':=
 Stp.go b c k g e f (jG h i) λx j=> .inr (by lia)
def dR (e:S.now= .free k):aZ S b=(if bO S=0 then (if b=0 then ("begins",{ S with now:= .speaks (S.wt.headD (0, [])).1 (S.wt.headD (0, [])).2 1 }) else cD S true) else if b=0 then ("",{ S with now:= .reads [0] }) else ("",{ S with now:= .free (k+1) }):Str×PS):=by unfold aZ;rw[e]
def oF {l:Nat}{m:Bool}(e:S.now= .flag l m):aZ S b=(if l=1 then ("",{ S with now:= .settles m }) else ("",{ S with now:= .flag (l-1) m }):Str×PS):=by unfold aZ;rw[e]
def jW {m:Bool}(e:S.now= .settles m):aZ S b=(if b=1 then ("",{ S with now:= .rests 3 }) else if m=true then iI S else ("",S):Str×PS):=by unfold aZ;rw[e]
def iH {l:Nat}(e:S.now= .rests l):aZ S b=(if b=0 then cD S false else ("",{ S with now:=if l=1 then .free 0 else .rests (l-1) }):Str×PS):=by unfold aZ;rw[e]
def a1G (e:S.now= .off):aZ S b=(("",S):Str×PS):=by unfold aZ;rw[e]
def cN (e:S.now= .reads h):aZ S b=(if ans (h++[b])="more" then ("",{ S with now:= .reads (h++[b]) }) else if ans (h++[b])="whole" then ("",{ S with now:= .tlR (nmB (kp (h++[b]))) (daB (kp (h++[b]))) 0 0 }) else cD S false:Str×PS):=by unfold aZ;rw[e]
def bL (e:S.now= .speaks n ds k):aZ S b=(if ans ((wr n ds).take k++[b])="six" then cD S true else if (wr n ds).getD k 0=1/\b=0/\(kp ((wr n ds).take k)).length<9 then ("loses",{ S with now:= .reads ((wr n ds).take k++[b]) }) else if b=(wr n ds).getD k 0 then (if k+1=(wr n ds).length then ("",{ S with now:= .tlS 0 0 }) else ("",{ S with now:= .speaks n ds (k+1) })) else cD S true:Str×PS):=by unfold aZ;rw[e]
def kY (e:S.now= .tlS v c):aZ S b=(if bR S.vt true v c b="more" then ("",{ S with now:= .tlS (v+1) (tlN v b c) }) else if bR S.vt true v c b="fault" then cD S true else if bR S.vt true v c b="refused" then dU S true else ("done",{ S with tot:=mvd S.tot (-1),wt:=S.wt.tail,now:= .rests 3 }):Str×PS):=by unfold aZ;rw[e]
def lQ (e:S.now= .tlR n ds v c):aZ S b=(if bR S.vt false v c b="more" then ("",{ S with now:= .tlR n ds (v+1) (tlN v b c) }) else if bR S.vt false v c b="fault" then cD S false else if bR S.vt false v c b="refused" then dU S false else ("takes",{ S with tot:=mvd S.tot (-1),up:=if gW S n=true then S.up++[(n,ds)] else S.up,now:= .rests 3 }):Str×PS):=by unfold aZ;rw[e]
structure Mid (H:Hp)(a:Addr)(v:HO)(cs:List (Addr×HO))(Hx:Hp):Prop where
 ea:Hx a=some v
 kp:∀x u,x≠a->H x=some u->Hx x=some u
 nw:∀c∈cs,H c.1=none/\c.1≠a/\Hx c.1=some c.2
 nd:(cs.map Prod.fst).Nodup
def Mid.set {v:HO}{cs:List (Addr×HO)}{d:Hp}(m:Mid H a v cs d)(v':HO):Mid H a v' cs (upd d a v'):=
 ⟨aC,λx u e h=>by rw[aH e];exact m.kp x u e h,λc b=>⟨(m.nw c b).1,(m.nw c b).2.1,by rw[aH (m.nw c b).2.1];exact(m.nw c b).2.2⟩,m.nd⟩
def Mid.add {y:Addr}{v o:HO}{cs:List (Addr×HO)}{Hx Hy:Hp}(m:Mid H a v cs Hx)(hn:Hx y=none)(g:Same Hx Hy)(e:Hy y=some o):Mid H a v ((y,o)::cs) Hy:=by
 have b:y≠a:=λz=>by rw[z,m.ea]at hn;cases hn
 refine⟨g _ _ m.ea,λx u d h=>g _ _ (m.kp x u d h),λc hc=>?_,YV.mpr ⟨λh=>?_,m.nd⟩⟩
 ·rcases YL.mp hc with rfl | hc
  ·refine⟨?_,b,e⟩;cases eh:H y with
   |none=>rfl
   |some u=>rw[m.kp y u b eh]at hn;cases hn
  ·exact⟨(m.nw c hc).1,(m.nw c hc).2.1,g _ _ (m.nw c hc).2.2⟩
 ·obtain⟨c,hc,f⟩:=YS.mp h;have:=(m.nw c hc).2.2;lia
def qM {p x:Addr}(b:Bd A H1 p nwf S o)(k:dD o H H1)(n:H1 x=none):H x=none:=by
 rcases pO (o':=o) k n with h | h
 ·exact absurd n (b.al x h)
 ·exact h
theorem a8B {A:Cs}{H':Hp}{p nwf nw':Addr}{S:PS}{ob' os':Own}{b:Int}(wf:Wf S)(hb:b=0\/b=1)(b':Bd A H' p nwf (aZ S b).2 ob')(s':StW A H' nw' (aZ S b).2 os')(dj':∀x,ob' x->os' x->False)
  {dp ch wl ul ct:Addr} {ws us:List V} (bb:BAt A H' p nwf (aZ S b).2 ob' dp ch wl ul ct ws us) :
  cI A (upd H' p (.ins A.post dp (pF ch (aZ S b).2.vt wl ul ct nw'))) p (aZ S b).2 (Or2 ob' os')/\dD (λx=>x=p) H' (upd H' p (.ins A.post dp (pF ch (aZ S b).2.vt wl ul ct nw'))):=by
 have f:dD (λx=>x=p) H' (upd H' p (.ins A.post dp (pF ch (aZ S b).2.vt wl ul ct nw'))):=λx v e z=>by
  rw[aH]
  ·exact e
  ·rintro rfl;rcases z with z | ⟨s,rfl⟩
   ·exact z rfl
   ·rw[bb.e]at e;cases e
 have ne:∀{x:Addr}{v:HO},H' x=some v->x≠p->upd H' p (.ins A.post dp (pF ch (aZ S b).2.vt wl ul ct nw')) x=some v:=λe h=>by rw[aH h];exact e
 have g:∀{x:Addr}{l:List V},H' x=some (.lst l)->x≠p:=λe z=>by rw[z,bb.e]at e;cases e
 have fk:∀{i:List V}{fs:List Fr},fK H' (Dl ob' wl ul) i fs->fK (upd H' p (.ins A.post dp (pF ch (aZ S b).2.vt wl ul ct nw'))) (Dl ob' wl ul) i fs:=λ{i fs} h=>by
  induction h with
  |nil=>exact .nil
  | cons a _ ih=>
   obtain⟨d,n,k,o⟩:=a;exact .cons ⟨d,f.tup n,ne k (g k),o⟩ ih
 have al:∀x,Or2 ob' os' x->upd H' p (.ins A.post dp (pF ch (aZ S b).2.vt wl ul ct nw')) x≠none:=λx c=>by
  by_cases h:x=p
  ·rw[h,aC];simp
  ·rw[aH h];exact c.elim (bb.al x) (s'.al x)
 obtain⟨q,m⟩:=id bb.et;refine⟨⟨nw',ob',os',⟨dp,ch,wl,ul,ct,ws,us,aC,f.tup bb.ec,ne bb.ew (g bb.ew),fk bb.fw,ne bb.eu (g bb.eu),fk bb.fu,⟨q,ne m (tY "total" m bb.e rfl rfl)⟩,bb.op,bb.ow,bb.ou,bb.ot,bb.ne,λx c=>al x (.inl c)⟩,s'.move λx v e z=>f x v e (z.imp_left λy w=>dj' x (by rw[w];exact bb.op) y),dj',wf.hear hb,λx c=>c,al⟩,f⟩
structure Lw (A:Cs)(H0 H:Hp)(p:Addr)(S:PS)(o:Own):Prop where
 same:Same H0 H
 fr:∀x,o x->H0 x=none
 po:cI A H p S o
def Wf.hand {f:Fr}(h:Wf S)(hf:FrN f):Wf { S with wt:=S.wt++[f] }:=by
 refine⟨h.vt,λg i=>?_,?_⟩
 ·rcases YM.mp i with z | z
  ·exact h.wt g z
  ·rw[Yw.mp z];exact hf
 ·have j:=h.now;have e:S.wt++[f]≠ []:=by intro z;have:=(List.append_eq_nil_iff.mp z).2;cases this
  show Stc.Wf (S.wt++[f]) S.now
  revert j
  cases S.now with
  |speaks n ds k=>exact λ⟨a,b,c,d⟩=>⟨a,b,c,e⟩
  |tlS v c=>exact λ_=>e
  |free k=>exact λz=>z
  |reads h=>exact λz=>z
  |tlR n ds v c=>exact λz=>z
  |flag l m=>exact λz=>z
  |settles m=>exact λz=>z
  |rests l=>exact λz=>z
  |off=>exact λz=>z
def cI.hand {p:Addr}(h:cI A H p S o):∃nw ob,Bd A H p nw S ob/\∀{n:Int}{ds:List Int},qU n ds->∀H' d,H d=none->Bd A H' p nw { S with wt:=S.wt++[(n.toNat,ds)] } (Or2 ob λx=>x=d)->dD ob H H'->∃o',cI A H' p { S with wt:=S.wt++[(n.toNat,ds)] } o'/\Mv o H o' H':=by
 obtain⟨nw,ob,j,bd,m,l,wf,a,al⟩:=h;refine⟨nw,ob,bd,λ{n ds} ok H' d hd f k=>?_⟩;have r:=iG.mp ok.1;have q:FrN (n.toNat,ds):=⟨by lia,ok.2.1,ok.2.2⟩
 have g:=m.move λx v e z=>k x v e (z.imp_left λy w=>l x w y);refine⟨Or2 o λx=>x=d,⟨nw,Or2 ob λx=>x=d,j,f,⟨g.at_,g.on,g.al⟩,?_,wf.hand q,?_,?_⟩,k.le λx hx=>a x (.inl hx),λx hx=>?_⟩
 ·grind
 ·grind
 ·rintro x (hx | hx)
  ·rcases Classical.em (ob x) with c | c
   ·exact f.al x (.inl c)
   ·cases e:H x with
    |none=>exact absurd e (al x hx)
    |some v=>rw[k x v e (.inl c)];simp
  ·exact f.al x (.inr hx)
 lia
def b5U {p a:Addr}{v:HO}(g:Same H H1)(b:H1 p=none)(f:H1 a=none)(k:cI A H' p S o)(i:∀x,o x->x=p\/upd (upd H1 a (.own p)) p v x=none)(l:∀x u,x≠p->upd (upd H1 a (.own p)) p v x=some u->H' x=some u):Lw A H H' p S o/\Same H1 H':=by
 have j:=λx u e=>l x u (aO e b) (by rw[aH (aO e b),aH (aO e f)];exact e);refine⟨⟨g.trans j,λx m=>?_,k⟩,j⟩;rcases i x m with h | h
 ·rw[h];exact g.none b
 ·refine g.none ?_;by_cases c:x=p
  ·rw[c,aC]at h;cases h
  ·rw[aH c]at h;by_cases d:x=a
   ·rw[d,aC]at h;cases h
   ·rw[aH d]at h;exact h
def cI.bd {p:Addr}(h:cI A H p S o):∃nw ob,Bd A H p nw S ob:=let ⟨nw,ob,_,bd,_⟩:=h;⟨nw,ob,bd⟩
def cI.cell {p:Addr}(h:cI A H p S o):∃dx ch vt wl ul ct nw,H p=some (.ins A.post dx (pF ch vt wl ul ct nw)):=let ⟨nw,_,_,⟨dx,ch,wl,ul,ct,_,_,b⟩,_⟩:=h;⟨dx,ch,_,wl,ul,ct,nw,b.e⟩
theorem fU.at_:∀{ts:List V}{fs:List Fr},fU H H' ts fs->fK H' (λ_=>True) ts fs
 |_,_,.nil=> .nil
 |_,_,.cons _ _ a3 a4 r=> .cons ⟨_,a3,a4,trivial⟩ r.at_
def b1Z {lo:Own}{o u:HO}(e:H a=some o)(h:lo a)(n:¬ isT o):Mv lo H lo (upd H a u):=⟨λx v ex z=>by
 rw[aH]
 ·exact ex
 ·rintro rfl;rcases z with z | z
  ·exact z h
  ·rw[e]at ex;cases ex;exact n z,λ_=> .inl⟩
def b6J:¬ isT (.lst xs):=λ⟨_,z⟩=>by cases z
def StW.disp (st:StW A H nw S os):∃C dd fs,H nw=some (.ins C dd fs)/\(fs.lookup ("says":Str)=none/\fs.lookup ("step":Str)=none/\fs.lookup ("shown":Str)=none)/\∀f:Nat->Sp,(C=A.free/\f S.now.tag=f 0)\/(C=A.speaks/\f S.now.tag=f 1)\/(C=A.reads/\f S.now.tag=f 2)\/(C=A.intail/\f S.now.tag=f 3)\/(C=A.flag/\f S.now.tag=f 4)\/(C=A.settles/\f S.now.tag=f 5)\/(C=A.rests/\f S.now.tag=f 6)\/(C=A.off/\f S.now.tag=f 7):=by
 have a:=st.at_;cases en:S.now
 case free k=>
  rw[en]at a;obtain⟨dd,b⟩:=a;exact⟨_,dd,_,b,⟨rfl,rfl,rfl⟩,λf=> .inl ⟨rfl,rfl⟩⟩
 case speaks n ds k=>
  rw[en]at a;obtain⟨dd,j,r,d,e,g,b,_⟩:=a;exact⟨_,dd,_,b,⟨rfl,rfl,rfl⟩,λf=> .inr (.inl ⟨rfl,rfl⟩)⟩
 case reads h=>
  rw[en]at a;obtain⟨dd,r,d,e,g,b,_⟩:=a;exact⟨_,dd,_,b,⟨rfl,rfl,rfl⟩,λf=> .inr (.inr (.inl ⟨rfl,rfl⟩))⟩
 case tlS v c=>
  rw[en]at a;obtain⟨dd,i,b,_⟩:=a;exact⟨_,dd,_,b,⟨rfl,rfl,rfl⟩,λf=> .inr (.inr (.inr (.inl ⟨rfl,rfl⟩)))⟩
 case tlR n ds v c=>
  rw[en]at a;obtain⟨dd,i,o,p,b,_⟩:=a;exact⟨_,dd,_,b,⟨rfl,rfl,rfl⟩,λf=> .inr (.inr (.inr (.inl ⟨rfl,rfl⟩)))⟩
 case flag l m=>
  rw[en]at a;obtain⟨dd,b⟩:=a;exact⟨_,dd,_,b,⟨rfl,rfl,rfl⟩,λf=> .inr (.inr (.inr (.inr (.inl ⟨rfl,rfl⟩))))⟩
 case settles m=>
  rw[en]at a;obtain⟨dd,b⟩:=a;exact⟨_,dd,_,b,⟨rfl,rfl,rfl⟩,λf=> .inr (.inr (.inr (.inr (.inr (.inl ⟨rfl,rfl⟩)))))⟩
 case rests l=>
  rw[en]at a;obtain⟨dd,b⟩:=a;exact⟨_,dd,_,b,⟨rfl,rfl,rfl⟩,λf=> .inr (.inr (.inr (.inr (.inr (.inr (.inl ⟨rfl,rfl⟩))))))⟩
 case off=>
  rw[en]at a;obtain⟨dd,b⟩:=a;exact⟨_,dd,_,b,⟨rfl,rfl,rfl⟩,λf=> .inr (.inr (.inr (.inr (.inr (.inr (.inr (⟨rfl,rfl⟩)))))))⟩
def lD (A:Cs)(H:Hp):List Addr->List PS->Own->Prop
 |[], [],o=>∀x,o x->H x≠none
 |p::ps,S::Ss,o=>∃o1 o2,cI A H p S o1/\lD A H ps Ss o2/\(∀x,o1 x->o2 x->False)/\(∀x,o1 x\/o2 x->o x)/\∀x,o x->H x≠none
 |_,_,_=>False
theorem lD.al:∀{ps:List Addr}{Ss:List PS}{o:Own},lD A H ps Ss o->∀x,o x->H x≠none
 |[], [],_,h=>h
 |_::_,_::_,_,⟨_,_,_,_,_,_,h⟩=>h
theorem lD.len:∀{ps:List Addr}{Ss:List PS}{o:Own},lD A H ps Ss o->ps.length=Ss.length
 |[], [],_,_=>rfl
 |_::_,_::_,_,⟨_,_,_,h,_⟩=>YJ (·+1) h.len
theorem lD.move:∀{ps:List Addr}{Ss:List PS}{o:Own},lD A H ps Ss o->(∀x v,H x=some v->(o x\/isT v)->H' x=some v)->lD A H' ps Ss o
 | [], [],o,h,g=>λx hx=>by
  cases e:H x with
  |none=>exact absurd e (h x hx)
  |some v=>rw[g x v e (.inl hx)];simp
 | _::_,_::_,o,⟨o1,o2,h1,h2,dj,inc,al⟩,g=>⟨o1,o2,h1.move λx v e z=>g x v e (z.imp_left λy=>inc x (.inl y)),h2.move λx v e z=>g x v e (z.imp_left λy=>inc x (.inr y)),dj,inc,λx hx=>by
  cases e:H x with
  |none=>exact absurd e (al x hx)
  |some v=>rw[g x v e (.inl hx)];simp⟩
def lD.same {ps:List Addr}{a:List PS}(h:lD A H ps a o)(g:Same H H'):lD A H' ps a o:=h.move λx v e _=>g x v e
theorem lD.get:∀{ps:List Addr}{Ss:List PS}{o:Own},lD A H ps Ss o->∀{i:Nat}{p:Addr},ps[i]? =some p->∃S oi,Ss[i]? =some S/\cI A H p S oi/\(∀x,oi x->o x)/\∀H' oi' S',Mv oi H oi' H'->cI A H' p S' oi'->∃o',lD A H' ps (Ss.set i S') o'/\Mv o H o' H'
 | q ::ps,S::Ss,o,⟨o1,o2,h1,h2,dj,inc,al⟩,0,p,hp=>by
  cases hp;refine⟨S,o1,rfl,h1,λx hx=>inc x (.inl hx),λH' oi' S' m hP=>?_⟩;have h2':lD A H' ps Ss o2:=h2.move λx v e z=>m.1 x v e (z.imp_left λy w=>dj x w y);refine⟨Or2 oi' o2,⟨oi',o2,hP,h2',λx hx hy=>?_,λx hx=>hx,λx hx=>?_⟩,⟨λx v e z=>m.1 x v e (z.imp_left λy w=>y (inc x (.inl w))),λx hx=>?_⟩⟩
  ·exact(m.2 x hx).elim (λz=>dj x z hy) λz=>h2.al x hy z
  ·rcases hx with hx | hx
   ·exact hP.al x hx
   ·exact h2'.al x hx
  ·rcases hx with hx | hx
   ·exact(m.2 x hx).imp (λz=>inc x (.inl z)) id
   ·exact .inl (inc x (.inr hx))
 | q ::ps,S::Ss,o,⟨o1,o2,h1,h2,dj,inc,al⟩,i+1,p,hp=>by
  obtain⟨S1,oi,e1,hP1,le,back⟩:=lD.get h2 (i:=i) hp;refine⟨S1,oi,e1,hP1,λx hx=>inc x (.inr (le x hx)),λH' oi' S' m hP=>?_⟩;obtain⟨o2',h2',m'⟩:=back H' oi' S' m hP;have h1':cI A H' q S o1:=h1.move λx v e z=>m'.1 x v e (z.imp_left λy w=>dj x y w);refine⟨Or2 o1 o2',⟨o1,o2',h1',h2',λx hx hy=>?_,λx hx=>hx,λx hx=>?_⟩,⟨λx v e z=>m'.1 x v e (z.imp_left λy w=>y (inc x (.inr w))),λx hx=>?_⟩⟩
  ·exact(m'.2 x hy).elim (λz=>dj x hx z) λz=>h1.al x hx z
  ·rcases hx with hx | hx
   ·exact h1'.al x hx
   ·exact h2'.al x hx
  ·rcases hx with hx | hx
   ·exact .inl (inc x (.inl hx))
   ·exact(m'.2 x hx).imp (λz=>inc x (.inr z)) id
theorem lD.snoc {p:Addr}{o1:Own}(hP:cI A H' p S o1)(g:Same H H')(n:∀x,o1 x->H x=none):∀{ps:List Addr}{Ss:List PS}{o:Own},lD A H ps Ss o->lD A H' (ps++[p]) (Ss++[S]) (Or2 o o1)
  | [], [],o,h=>⟨o1,o,hP,λx hx=>by
      cases e:H x with
      |none=>exact absurd e (h x hx)
      |some v=>rw[g x v e];simp,λx hx hy=>h x hy (n x hx),λx hx=>hx.symm,λx hx=>by
      rcases hx with hx | hx
      · cases e:H x with
        |none=>exact absurd e (h x hx)
        |some v=>rw[g x v e];simp
      · exact hP.al x hx⟩
  | q :: ps,T::Ss,o,⟨oa,ob,h1,h2,dj,inc,al⟩=>⟨oa,Or2 ob o1,h1.same g,lD.snoc hP g n h2,λx hx hy=>by
      rcases hy with hy | hy
      · exact dj x hx hy
      · exact h1.al x hx (n x hy),λx hx=>by
      rcases hx with hx | hx | hx
      · exact .inl (inc x (.inl hx))
      · exact .inl (inc x (.inr hx))
      · exact .inr hx,λx hx=>by
      rcases hx with hx | hx
      · cases e:H x with
        |none=>exact absurd e (al x hx)
        |some v=>rw[g x v e];simp
      · exact hP.al x hx⟩
structure fG (H:Hp)(L:List (Addr×HO)):Prop where
 at_:∀(j:Nat)(c:Addr×HO),L[j]? =some c->H c.1=some c.2
 ap:∀(i j:Nat)(c d:Addr×HO),L[i]? =some c->L[j]? =some d->c.1=d.1->i=j
def fG.put {h:HO}(b:fG H L)(e:L[i]? =some (a,h))(h':HO):fG (upd H a h') (L.set i (a,h')):=by
 have l:i<L.length:=(Ye.mp e).1;have old:∀(j:Nat)(c:Addr×HO),(L.set i (a,h'))[j]? =some c->(j=i/\c=(a,h'))\/(j≠i/\L[j]? =some c):=λj c z=>by
  rw[Y8]at z;by_cases k:i=j
  ·rw[if_pos k,if_pos l]at z;exact .inl ⟨k.symm,(Yu z).symm⟩
  ·rw[if_neg k]at z;exact .inr ⟨λy=>k y.symm,z⟩
 refine⟨λj c z=>?_,λj k c d z y q=>?_⟩
 ·rcases old j c z with ⟨_,rfl⟩ | ⟨n,z⟩
  ·exact aC
  ·rw[aH λq=>n (b.ap j i c (a,h) z e q)];exact b.at_ j c z
 ·rcases old j c z with ⟨f,rfl⟩ | ⟨f,z⟩ <;> rcases old k d y with ⟨g,rfl⟩ | ⟨g,y⟩
  ·rw[f,g]
  ·exact absurd (b.ap k i d (a,h) y e q.symm) g
  ·exact absurd (b.ap j i c (a,h) z e q) f
  ·exact b.ap j k c d z y q
def fG.keep (a:fG H L)(g:∀(j:Nat)(c:Addr×HO),L[j]? =some c->H' c.1=some c.2):fG H' L:=⟨g,a.ap⟩
def fG.same (a:fG H L)(g:Same H H'):fG H' L:=a.keep λj c z=>g _ _ (a.at_ j c z)
def fG.snoc {h:HO}(hc:fG H L)(n:H a=none):fG (upd H a h) (L++[(a,h)]):=by
 have old:∀(j:Nat)(c:Addr×HO),(L++[(a,h)])[j]? =some c->(j=L.length/\c=(a,h))\/L[j]? =some c:=λj c z=>by
  grind
 have ne:∀(j:Nat)(c:Addr×HO),L[j]? =some c->c.1≠a:=λj c z q=>by have:=hc.at_ j c z;lia
 refine⟨λj c z=>?_,λj k c d z y q=>?_⟩
 ·rcases old j c z with ⟨_,rfl⟩ | z
  ·exact aC
  ·rw[aH (ne j c z)];exact hc.at_ j c z
 ·rcases old j c z with ⟨f,rfl⟩ | z <;> rcases old k d y with ⟨g,rfl⟩ | y
  ·rw[f,g]
  ·grind
  ·exact absurd q (ne j c z)
  ·exact hc.ap j k c d z y q
open PyProof.Rows in
structure RS where
 (ps:List PS) (ow:List (Key×V)) (bo:List Int) (sa he:List (List Int)) (ev:List (Nat×Nat×Str))
inductive lW (H:Hp):List V->List (Nat×Nat×Str)->Prop
 |nil:lW H [] []
 |cons {t:Addr} {e:Nat×Nat×Str} {vs:List V} {es:List (Nat×Nat×Str)}:H t=some (.tup [.int ((e.1:Nat):Int),.int ((e.2.1:Nat):Int),.str e.2.2])->lW H vs es->lW H (.ref t::vs) (e::es)
theorem lW.imp (g:∀x xs,H x=some (.tup xs)->H' x=some (.tup xs)):∀{vs:List V}{es:List (Nat×Nat×Str)},lW H vs es->lW H' vs es
 |_,_,.nil=> .nil
 |_,_,.cons a r=> .cons (g _ _ a) (r.imp g)
theorem lW.snoc {e:Nat×Nat×Str}(a:H t=some (.tup [.int ((e.1:Nat):Int),.int ((e.2.1:Nat):Int),.str e.2.2])):∀{vs:List V}{es:List (Nat×Nat×Str)},lW H vs es->lW H (vs++[.ref t]) (es++[e])
 |_,_,.nil=> .cons a .nil
 |_,_,.cons b r=> .cons b (r.snoc a)
theorem lW.len:∀{vs:List V}{es:List (Nat×Nat×Str)},lW H vs es->vs.length=es.length
 |_,_,.nil=>rfl
 |_,_,.cons _ r=>YJ (·+1) r.len
noncomputable abbrev rF (PL OW BO SA HE EV:Addr):List (Str×V):=[("posts",.ref PL),("owners",.ref OW),("borne",.ref BO),("sayings",.ref SA),("hearings",.ref HE),("happened",.ref EV)]
def lsC (as:List Addr)(xs:List (List Int)):List (Addr×HO):=List.zipWith (λa x=>(a,HO.lst (x.map V.int))) as xs
structure Rw where
 (dx PL OW BO SA HE EV:Addr) (ps sas hes:List Addr) (evs:List V) (op:Own)
noncomputable abbrev mO (C r:Addr)(w:Rw)(R:RS):List (Addr×HO):=(r,.ins C w.dx (rF w.PL w.OW w.BO w.SA w.HE w.EV))::(w.PL,.lst (w.ps.map V.ref))::(w.OW,.dK R.ow)::(w.BO,.lst (R.bo.map V.int))::(w.SA,.lst (w.sas.map V.ref))::(w.HE,.lst (w.hes.map V.ref))::(w.EV,.lst w.evs)::(lsC w.sas R.sa++lsC w.hes R.he)
structure dC (C:Addr)(A:Cs)(H:Hp)(r:Addr)(R:RS)(o:Own)(w:Rw):Prop where
 cs:fG H (mO C r w R)
 po:lD A H w.ps R.ps w.op
 ev:lW H w.evs R.ev
 l1:w.sas.length=R.ps.length
 l2:R.sa.length=R.ps.length
 l3:w.hes.length=R.ps.length
 l4:R.he.length=R.ps.length
 lp:R.ps.length<=5
 dj:∀x,w.op x->∀(j:Nat)(c:Addr×HO),(mO C r w R)[j]? =some c->c.1≠x
 inc:∀x,(w.op x\/∃(j:Nat)(c:Addr×HO),(mO C r w R)[j]? =some c/\c.1=x)->o x
 al:∀x,o x->H x≠none
def mL (C:Addr)(A:Cs)(H:Hp)(r:Addr)(R:RS)(o:Own):Prop:=∃w,dC C A H r R o w
section
variable {R:RS}{w:Rw}
def dC.move (h:dC C A H r R o w)(g:∀x v,H x=some v->(o x\/isT v)->H' x=some v):dC C A H' r R o w:=
 ⟨h.cs.keep λj c z=>g _ _ (h.cs.at_ j c z) (.inl (h.inc _ (.inr ⟨j,c,z,rfl⟩))),h.po.move λx v e z=>g x v e (z.imp_left λy=>h.inc x (.inl y)),h.ev.imp λx xs e=>g x _ e (.inr ⟨_,rfl⟩),h.l1,h.l2,h.l3,h.l4,h.lp,h.dj,h.inc,λx a=>by
  cases e:H x with
  |none=>exact absurd e (h.al x a)
  |some v=>rw[g x v e (.inl a)];simp⟩
def dC.same (h:dC C A H r R o w)(g:Same H H'):dC C A H' r R o w:=h.move λx v e _=>g x v e
def dC.er (h:dC C A H r R o w):H r=some (.ins C w.dx (rF w.PL w.OW w.BO w.SA w.HE w.EV)):=h.cs.at_ 0 _ rfl
def dC.ePL (h:dC C A H r R o w):H w.PL=some (.lst (w.ps.map V.ref)):=h.cs.at_ 1 _ rfl
def dC.eOW (h:dC C A H r R o w):H w.OW=some (.dK R.ow):=h.cs.at_ 2 _ rfl
def dC.eBO (h:dC C A H r R o w):H w.BO=some (.lst (R.bo.map V.int)):=h.cs.at_ 3 _ rfl
def dC.eSA (h:dC C A H r R o w):H w.SA=some (.lst (w.sas.map V.ref)):=h.cs.at_ 4 _ rfl
def dC.eHE (h:dC C A H r R o w):H w.HE=some (.lst (w.hes.map V.ref)):=h.cs.at_ 5 _ rfl
def dC.eEV (h:dC C A H r R o w):H w.EV=some (.lst w.evs):=h.cs.at_ 6 _ rfl
def dC.pl (h:dC C A H r R o w):w.ps.length=R.ps.length:=h.po.len
def dC.at (h:dC C A H r R o w)(a:R.ps[i]? =some S):∃p oi,w.ps[i]? =some p/\cI A H p S oi:=by
 have c:i<w.ps.length:=by rw[h.pl];exact(Ye.mp a).1
 have b:w.ps[i]? =some w.ps[i]:=Yd c;obtain⟨f,oi,e,d,_⟩:=h.po.get b;rw[a]at e;cases e;exact⟨_,oi,b,d⟩
end
def a4M {v:HO}{c:Addr×HO}(e:L[k]? =some (a,v))(h:(L.set k (a,v'))[j]? =some c):∃c',L[j]? =some c'/\c'.1=c.1:=by
 grind
def dC.put {R R':RS}{w w':Rw}{v:HO}(h:dC C A H r R o w)(e:(mO C r w R)[k]? =some (a,v))(p:¬ isT v)(eL:mO C r w' R'=(mO C r w R).set k (a,v'))(b:R'.ps=R.ps)(B:w'.ps=w.ps)(g:w'.op=w.op)(D:w'.sas.length=w.sas.length)(E:R'.sa.length=R.sa.length)(F:w'.hes.length=w.hes.length)(G:R'.he.length=R.he.length)(I:lW H w'.evs R'.ev):dC C A (upd H a v') r R' o w'/\Mv o H o (upd H a v'):=by
 have s:=h.cs.at_ k _ e;have J:o a:=h.inc a (.inr ⟨k,_,e,rfl⟩);have y:∀x u,H x=some u->isT u->upd H a v' x=some u:=λx u d t=>by
  rw[aH]
  ·exact d
  ·rintro rfl;rw[s]at d;cases d;exact p t
 refine⟨⟨eL▸h.cs.put e v',?_,I.imp λx xs ex=>y x _ ex ⟨_,rfl⟩,by rw[D,b];exact h.l1,by rw[E,b];exact h.l2,by rw[F,b];exact h.l3,by rw[G,b];exact h.l4,by rw[b];exact h.lp,?_,?_,?_⟩,b1Z s J p⟩
 ·rw[B,g,b];refine h.po.move λx u d z=>?_;rcases z with z | z
  ·rw[aH λq=>h.dj x z k _ e q.symm];exact d
  ·exact y x u d z
 ·rw[g,eL];intro x f j c i q;obtain⟨l,m,n⟩:=a4M e i;exact h.dj x f j l m (n.trans q)
 ·rw [g,eL];rintro x (f | ⟨j,c,i,q⟩)
  ·exact h.inc x (.inl f)
  ·obtain⟨l,m,n⟩:=a4M e i;exact h.inc x (.inr ⟨j,l,m,n.trans q⟩)
 ·intro x f;by_cases q:x=a
  ·rw[q,aC];simp
  ·rw[aH q];exact h.al x f
def dC.step {R:RS}{w:Rw}{p:Addr}(h:dC C A H r R o w)(hp:w.ps[i]? =some p):∃S oi,R.ps[i]? =some S/\cI A H p S oi/\(∀x,oi x->o x)/\∀H' oi' S',Mv oi H oi' H'->cI A H' p S' oi'->∃o' op',dC C A H' r { R with ps:=R.ps.set i S' } o' { w with op:=op' }/\Mv o H o' H':=by
 obtain⟨S,oi,eS,l,le,d⟩:=h.po.get hp;refine⟨S,oi,eS,l,λx hx=>h.inc x (.inl (le x hx)),λH' oi' S' m k=>?_⟩;obtain⟨op',f,b⟩:=d H' oi' S' m k;have g:=λj c a z=>h.dj _ z j c a rfl;have len:(R.ps.set i S').length=R.ps.length:=Xi;have n:dD o H H':=λx v e z=>b.1 x v e (z.imp_left λy q=>y (h.inc x (.inl q)));refine⟨Or2 (λx=>o x/\¬ w.op x) op',op',⟨h.cs.keep λj c a=>b.1 _ _ (h.cs.at_ j c a) (.inl (g j c a)),f,h.ev.imp λx xs e=>b.1 x _ e (.inr ⟨_,rfl⟩),h.l1.trans len.symm,h.l2.trans len.symm,h.l3.trans len.symm,h.l4.trans len.symm,by show (R.ps.set i S').length<=5;rw[len];exact h.lp,?_,?_,?_⟩,n,?_⟩
 ·intro x hx j c a q;rcases b.2 x hx with z | z
  ·exact h.dj x z j c a q
  ·have:=h.cs.at_ j c a;rw[q,z]at this;cases this
 ·rintro x (hx | ⟨j,c,a,q⟩)
  ·exact .inr hx
  ·exact .inl ⟨h.inc x (.inr ⟨j,c,a,q⟩),q▸g j c a⟩
 ·rintro x (hx | hx)
  ·cases e:H x with
   |none=>exact absurd e (h.al x hx.1)
   |some v=>rw[b.1 x v e (.inl hx.2)];simp
  ·exact f.al x hx
 ·rintro x (hx | hx)
  ·exact .inl hx.1
  ·exact(b.2 x hx).imp (λz=>h.inc x (.inl z)) id
def b4P {b:Addr}{m:List ((Int ⊕ Str)×V)}{v:HO}(h:SqL K H a xs)(e:H b=some (.dK m)):SqL K (upd H b v) a xs:=by
 rcases h with (h | ⟨o,h⟩) | h
 ·exact .inl (.inl ((aH λq=>by rw[q,e]at h;cases h).trans h))
 ·exact .inl (.inr ⟨o,(aH λq=>by rw[q,e]at h;cases h).trans h⟩)
 ·exact .inr h
def c4K {m:List ((Int ⊕ Str)×V)}:¬ isT (.dK m):=λ⟨_,z⟩=>by cases z
def b2G {xs:List (List Int)}{x:List Int}(b:as[i]? =some a)(c:xs[i]? =some x):(lsC as xs)[i]? =some (a,HO.lst (x.map V.int)):=by
 unfold lsC;rw[List.getElem?_zipWith,b,c]
def rZ {xs:List (List Int)}(h:as.length=xs.length):(lsC as xs).length=xs.length:=by
 unfold lsC;grind
def dC.sa_at {R:RS}{w:Rw}{xs:List Int}(h:dC C A H r R o w)(b:R.sa[i]? =some xs):∃a,w.sas[i]? =some a/\(mO C r w R)[i+7]? =some (a,.lst (xs.map V.int)):=by
 have d:=(Ye.mp b).1;have e:=h.l1;have f:=h.l2;have c:w.sas[i]? =some (w.sas[i]'(by lia)):=Yd (by lia);refine⟨_,c,?_⟩;show (lsC w.sas R.sa++lsC w.hes R.he)[i]? =_;rw[YN (by rw[rZ (by lia)];exact d)];exact b2G c b
def dC.he_at {R:RS}{w:Rw}{xs:List Int}(h:dC C A H r R o w)(b:R.he[i]? =some xs):∃a,w.hes[i]? =some a/\(mO C r w R)[R.ps.length+i+7]? =some (a,.lst (xs.map V.int)):=by
 have d:=(Ye.mp b).1;have e:=h.l1;have f:=h.l2;have g:=h.l3;have j:=h.l4;have c:w.hes[i]? =some (w.hes[i]'(by lia)):=Yd (by lia);refine⟨_,c,?_⟩;show (lsC w.sas R.sa++lsC w.hes R.he)[R.ps.length+i]? =_;have k:=rZ (as:=w.sas) (xs:=R.sa) (by lia);rw[YH (by lia),show R.ps.length+i-(lsC w.sas R.sa).length=i by lia];exact b2G c b
def a5L {xs:List (List Int)}(b:as[i]? =some a):lsC as (xs.set i y)=(lsC as xs).set i (a,HO.lst (y.map V.int)):=by
 unfold lsC;apply List.ext_getElem?;grind
def dC.say {R:RS}{w:Rw}{xs:List Int}(h:dC C A H r R o w)(d:R.sa[i]? =some xs)(f:w.sas[i]? =some a):dC C A (upd H a (.lst (xs.map V.int++[.int b]))) r { R with sa:=R.sa.set i (xs++[b]) } o w/\Mv o H o (upd H a (.lst (xs.map V.int++[.int b]))):=by
 obtain⟨l,c,e⟩:=h.sa_at d;rw[f]at c;cases c;have g:i<R.sa.length:=(Ye.mp d).1;have m:=h.l1;have n:=h.l2;have j:xs.map V.int++[V.int b]=(xs++[b]).map V.int:=by rw[Yh];rfl
 have eL:lsC w.sas (R.sa.set i (xs++[b]))++lsC w.hes R.he=(lsC w.sas R.sa++lsC w.hes R.he).set i (a,.lst ((xs++[b]).map V.int)):=by
  rw[List.set_append_left _ _ (by rw[rZ (by lia)];exact g),a5L f]
 rw[j];refine h.put (k:=i+7) (w':=w) e b6J ?_ rfl rfl rfl rfl Xi rfl rfl h.ev;show (r,_)::(w.PL,_)::(w.OW,_)::(w.BO,_)::(w.SA,_)::(w.HE,_)::(w.EV,_)::(lsC w.sas (R.sa.set i (xs++[b]))++lsC w.hes R.he)=_;rw[eL];rfl
def dC.hrd {R:RS}{w:Rw}{xs:List Int}(h:dC C A H r R o w)(d:R.he[i]? =some xs)(f:w.hes[i]? =some a):dC C A (upd H a (.lst (xs.map V.int++[.int b]))) r { R with he:=R.he.set i (xs++[b]) } o w/\Mv o H o (upd H a (.lst (xs.map V.int++[.int b]))):=by
 obtain⟨j,c,e⟩:=h.he_at d;rw[f]at c;cases c;have l:i<R.he.length:=(Ye.mp d).1;have m:=h.l1;have n:=h.l2;have g:xs.map V.int++[V.int b]=(xs++[b]).map V.int:=by rw[Yh];rfl
 have p:=rZ (as:=w.sas) (xs:=R.sa) (by lia);have eL:lsC w.sas R.sa++lsC w.hes (R.he.set i (xs++[b]))=(lsC w.sas R.sa++lsC w.hes R.he).set (R.ps.length+i) (a,.lst ((xs++[b]).map V.int)):=by
  rw[List.set_append_right _ _ (by lia),show R.ps.length+i-(lsC w.sas R.sa).length=i by lia,a5L f]
 rw[g];refine h.put (k:=R.ps.length+i+7) (w':=w) e b6J ?_ rfl rfl rfl rfl rfl rfl Xi h.ev;show (r,_)::(w.PL,_)::(w.OW,_)::(w.BO,_)::(w.SA,_)::(w.HE,_)::(w.EV,_)::(lsC w.sas R.sa++lsC w.hes (R.he.set i (xs++[b])))=_;rw[eL];rfl
def dC.bear {R:RS}{w:Rw}(h:dC C A H r R o w):dC C A (upd H w.BO (.lst (R.bo.map V.int++[.int b]))) r { R with bo:=R.bo++[b] } o w/\Mv o H o (upd H w.BO (.lst (R.bo.map V.int++[.int b]))):=by
 have a:R.bo.map V.int++[V.int b]=(R.bo++[b]).map V.int:=by rw[Yh];rfl
 rw[a];exact h.put (k:=3) rfl b6J rfl rfl rfl rfl rfl rfl rfl rfl h.ev
def dC.happen {R:RS}{w:Rw}{e:Nat×Nat×Str}(h:dC C A H r R o w)(a:H t=some (.tup [.int ((e.1:Nat):Int),.int ((e.2.1:Nat):Int),.str e.2.2])):dC C A (upd H w.EV (.lst (w.evs++[.ref t]))) r { R with ev:=R.ev++[e] } o { w with evs:=w.evs++[.ref t] }/\Mv o H o (upd H w.EV (.lst (w.evs++[.ref t]))):=
 h.put (k:=6) rfl b6J rfl rfl rfl rfl rfl rfl rfl rfl (h.ev.snoc a)
def a9S (C:Addr)(A:Cs)(b:Addr):Sp:=λa H Q E=>∃r R o w k,a= [.ref r,.int k]/\dC C A H r R o w/\(∀(i:Nat) p,k=(i:Int)->w.ps[i]? =some p->Q (.ref p) H)/\(¬ (0<=k/\k<((R.ps.length:Nat):Int))->∀H',Same H H'->False)
def a9V (K:W.Frag)(C:Addr)(A:Cs)(c d e:Addr):Sp:=λb H Q E=>∃r R o w k n a ds,b= [.ref r,.int k,.int n,.ref a]/\dC C A H r R o w/\SqL K H a (ds.map V.int)/\ds.length<=500/\R.ow.length<=900/\(∀S∈R.ps,S.wt.length<900)/\
 (¬ (0<=k/\k<((R.ps.length:Nat):Int))->∀H',Same H H'->False)/\((0<=k/\k<((R.ps.length:Nat):Int))->¬ qU n ds->∀H',Same H H'->False)/\
 (∀ (i:Nat) S,k=(i:Int)->R.ps[i]? =some S->qU n ds->∃j:Int,(gP R.ow (.inl n)).getD (.int (i:Int))= .int j/\(j≠(i:Int)->∀H',Same H H'->False)/\
  (j=(i:Int)->∀H' o',mL C A H' r { R with ps:=R.ps.set i { S with wt:=S.wt++[(n.toNat,ds)] },ow:=putK R.ow (.inl n) (.int (i:Int)) } o'->Mv o H o' H'->Q .non H'))
def evt (t n:Nat)(w:Str):List (Nat×Nat×Str):=if w="" then [] else [(t,n,w)]
noncomputable def uV (R R':RS)(n:Nat)(S:PS)(b:Int)(x y:List Int):RS:=
 { R' with ps:=R'.ps.set n (aZ S b).2,sa:=R'.sa.set n (x++[bO S]),he:=R'.he.set n (y++[b]),ev:=R'.ev++evt R.bo.length n (aZ S b).1 }
def bH (R:RS)(hs:List Int):Nat->RS
 |0=>R
 | n+1=>match R.ps[n]?,hs[n]?,R.sa[n]?,R.he[n]? with
  |some S,some b,some x,some y=>uV R (bH R hs n) n S b x y
  |_,_,_,_=>bH R hs n
def sY (R:RS)(a:List Int)(b:Int):RS:={ bH R a R.ps.length with bo:=R.bo++[b] }
def kZ {R:RS}{x:List Int}(e1:R.ps[n]? =some S)(e2:hs[n]? =some b)(e3:R.sa[n]? =some x)(e4:R.he[n]? =some y):bH R hs (n+1)=uV R (bH R hs n) n S b x y:=by
 show (match R.ps[n]?,hs[n]?,R.sa[n]?,R.he[n]? with
  |some S,some b,some x,some y=>uV R (bH R hs n) n S b x y
  |_,_,_,_=>bH R hs n)=_
 rw[e1,e2,e3,e4]
theorem lA (R:RS)(hs:List Int):∀n:Nat,(bH R hs n).bo=R.bo/\(bH R hs n).ow=R.ow/\(bH R hs n).ps.length=R.ps.length/\(bH R hs n).sa.length=R.sa.length/\(bH R hs n).he.length=R.he.length/\(∀j,n<=j->(bH R hs n).ps[j]? =R.ps[j]?/\(bH R hs n).sa[j]? =R.sa[j]?/\(bH R hs n).he[j]? =R.he[j]?)/\(bH R hs n).ev.length<=R.ev.length+n
 |0=>⟨rfl,rfl,rfl,rfl,rfl,λ_ _=>⟨rfl,rfl,rfl⟩,Yb _⟩
 | n + 1 => by
  obtain⟨h1,h2,h3,h4,h5,h6,h7⟩:=lA R hs n;have go :(bH R hs (n+1)=bH R hs n)\/∃S b x y,bH R hs (n+1)=uV R (bH R hs n) n S b x y:=by
   cases e1:R.ps[n]? with
   |none=>left;show (match R.ps[n]?,hs[n]?,R.sa[n]?,R.he[n]? with | some S,some b,some x,some y=>uV R (bH R hs n) n S b x y | _,_,_,_=>bH R hs n)=_;rw[e1]
   | some S=>
    cases e2:hs[n]? with
    |none=>left;show (match R.ps[n]?,hs[n]?,R.sa[n]?,R.he[n]? with | some S,some b,some x,some y=>uV R (bH R hs n) n S b x y | _,_,_,_=>bH R hs n)=_;rw[e1,e2]
    | some b=>
     cases e3:R.sa[n]? with
     |none=>left;show (match R.ps[n]?,hs[n]?,R.sa[n]?,R.he[n]? with | some S,some b,some x,some y=>uV R (bH R hs n) n S b x y | _,_,_,_=>bH R hs n)=_;rw[e1,e2,e3]
     | some x=>
      cases e4:R.he[n]? with
      |none=>left;show (match R.ps[n]?,hs[n]?,R.sa[n]?,R.he[n]? with | some S,some b,some x,some y=>uV R (bH R hs n) n S b x y | _,_,_,_=>bH R hs n)=_;rw[e1,e2,e3,e4]
      |some y=>exact .inr ⟨S,b,x,y,kZ e1 e2 e3 e4⟩
  rcases go with e | ⟨S,b,x,y,e⟩
  ·rw[e];exact⟨h1,h2,h3,h4,h5,λj hj=>h6 j (by lia),by lia⟩
  ·rw [e];refine⟨h1,h2,?_,?_,?_,λj hj=>⟨?_,?_,?_⟩,?_⟩
   ·show ((bH R hs n).ps.set n _).length=_;rw[Xi];exact h3
   ·show ((bH R hs n).sa.set n _).length=_;rw[Xi];exact h4
   ·show ((bH R hs n).he.set n _).length=_;rw[Xi];exact h5
   ·show ((bH R hs n).ps.set n _)[j]? =_;rw[Y9 (by lia)];exact(h6 j (by lia)).1
   ·show ((bH R hs n).sa.set n _)[j]? =_;rw[Y9 (by lia)];exact(h6 j (by lia)).2.1
   ·show ((bH R hs n).he.set n _)[j]? =_;rw[Y9 (by lia)];exact(h6 j (by lia)).2.2
   ·show ((bH R hs n).ev++evt _ _ _).length<=_;rw[Yc];have:(evt R.bo.length n (aZ S b).1).length<=1:=by unfold evt;split <;> simp
    lia
def b8K (ns:List Int)(b:Int):Prop:=b∈ns/\∀z∈ns,b<=z
structure SzR (R:RS):Prop where
 bo:R.bo.length<990
 sa:∀x∈R.sa,x.length<990
 he:∀x∈R.he,x.length<990
 ev:R.ev.length<8000
 up:∀S∈R.ps,S.up.length<900
def a9T (K:W.Frag)(C:Addr)(A:Cs)(a:Addr->List V->Hp->VK->Prop):Sp:=λc H Q _=>∃r R o w f,∃hs:Int->Nat->Int,c= [.ref r,.ref f]/\dC C A H r R o w/\R.ps≠ []/\SzR R/\(∀b,b8K (R.ps.map bO) b->(∀i,i<R.ps.length->∀H1,Same H H1->FnE K H1 f/\∀Q1:VK,(∀H2,Same H1 H2->Q1 (.int (hs b i)) H2)->a f [.int ((i:Nat):Int),.int ((R.bo.length:Nat):Int),.int b] H1 Q1)/\(∀i,hs b i=0\/hs b i=1)/\
 ∀H' o',mL C A H' r (sY R ((List.range R.ps.length).map (hs b)) b) o'->Mv o H o' H'->Q (.int b) H')
def pQ {L2:List (Addr×HO)}{c0 c:Addr×HO}(z:(L1++c0::L2)[j]? =some c):(j=L1.length/\c=c0)\/(j<L1.length/\(L1++L2)[j]? =some c)\/(L1.length<j/\(L1++L2)[j-1]? =some c):=by
 by_cases k:j<L1.length
 ·rw[YN k]at z;exact .inr (.inl ⟨k,by rw[YN k];exact z⟩)
 ·rw[YH (by lia)]at z;cases e:j-L1.length with
  |zero=>rw[e]at z;exact .inl ⟨by lia,(Yu z).symm⟩
  |succ m=>rw[e]at z;exact .inr (.inr ⟨by lia,by rw[YH (by lia),show j-1-L1.length=m by lia];exact z⟩)
def fG.ins {L2:List (Addr×HO)}{h:HO}(b:fG H (L1++L2))(n:H a=none):fG (upd H a h) (L1++(a,h)::L2):=by
 have ne:∀(j:Nat)(c:Addr×HO),(L1++L2)[j]? =some c->c.1≠a:=λj c z q=>by have:=b.at_ j c z;lia
 refine⟨λj c z=>?_,λj k c d z y q=>?_⟩
 ·rcases pQ z with ⟨_,rfl⟩ | ⟨_,z⟩ | ⟨_,z⟩
  ·exact aC
  ·rw[aH (ne _ c z)];exact b.at_ _ c z
  ·rw[aH (ne _ c z)];exact b.at_ _ c z
 ·rcases pQ z with ⟨e,rfl⟩ | ⟨e,z⟩ | ⟨e,z⟩ <;> rcases pQ y with ⟨f,rfl⟩ | ⟨f,y⟩ | ⟨f,y⟩
  ·lia
  ·grind
  ·grind
  ·exact absurd q (ne _ c z)
  ·exact b.ap _ _ c d z y q
  ·have:=b.ap _ _ c d z y q;lia
  ·exact absurd q (ne _ c z)
  ·have:=b.ap _ _ c d z y q;lia
  ·have:=b.ap _ _ c d z y q;lia
structure Mk0 (A:Cs)(H0:Hp)(a:Addr)(H:Hp)(L:List (Addr×HO))(ps:List Addr)(Ss:List PS)(op:Own):Prop where
 cs:fG H L
 po:lD A H ps Ss op
 dj:∀x,op x->∀(j:Nat)(c:Addr×HO),L[j]? =some c->c.1≠x
 nw:∀(j:Nat)(c:Addr×HO),L[j]? =some c->c.1=a\/H0 c.1=none
 npo:∀x,op x->H0 x=none
 kp:∀x u,x≠a->H0 x=some u->H x=some u
 ha:H a≠none
def xY {c0 c:Addr×HO}(z:[c0][j]? =some c):j=0/\c=c0:=by
 cases j with
 |zero=>exact⟨rfl,(Yu z).symm⟩
 |succ j=>cases z
def Mk0.base {v:HO}(e:H a=some v):Mk0 A H a H [(a,v)] [] [] (λ_=>False):=by
 refine⟨⟨λj c z=>?_,λi j c d z y q=>?_⟩,λx b=>b.elim,λx b=>b.elim,λj c z=>?_,λx b=>b.elim,λx u _ q=>q,by rw[e];simp⟩
 ·obtain⟨_,rfl⟩:=xY z;exact e
 ·rw[(xY z).1,(xY y).1]
 ·obtain⟨_,rfl⟩:=xY z;exact .inl rfl
section
variable {q:Addr}{L2:List (Addr×HO)}{ps:List Addr}{Ss:List PS}{op:Own}{v:HO}
def Mk0.non0 (h:Mk0 A H0 a H L ps Ss op)(n:H q=none):H0 q=none:=by
 cases e:H0 q with
 |none=>rfl
 | some u=>
  by_cases z:q=a
  ·exact absurd (z▸n) h.ha
  ·rw[h.kp q u z e]at n;cases n
def Mk0.ins (h:Mk0 A H0 a H (L1++L2) ps Ss op)(n:H q=none):Mk0 A H0 a (upd H q v) (L1++(q,v)::L2) ps Ss op:=by
 refine⟨h.cs.ins n,h.po.same (aN n v),λx b j c z y=>?_,λj c z=>?_,h.npo,λx u b e=>?_,?_⟩
 ·rcases pQ z with ⟨_,rfl⟩ | ⟨_,z⟩ | ⟨_,z⟩
  ·exact h.po.al x b (y▸n)
  ·exact h.dj x b _ c z y
  ·exact h.dj x b _ c z y
 ·rcases pQ z with ⟨_,rfl⟩ | ⟨_,z⟩ | ⟨_,z⟩
  ·exact .inr (h.non0 n)
  ·exact h.nw _ c z
  ·exact h.nw _ c z
 ·exact aN n v _ _ (h.kp x u b e)
 ·have:=h.ha;cases e:H a with
  |none=>exact absurd e this
  |some u=>rw[aN n v _ _ e];simp
def Mk0.put (h:Mk0 A H0 a H ((a,v)::L) ps Ss op)(nT:¬ isT v):Mk0 A H0 a (upd H a v') ((a,v')::L) ps Ss op:=by
 have e:=h.cs.at_ 0 _ rfl;have old:∀(j:Nat)(c:Addr×HO),((a,v')::L)[j]? =some c->∃b,((a,v)::L)[j]? =some b/\b.1=c.1:=λj c z=>by
  grind
 refine⟨h.cs.put (i:=0) rfl v',h.po.move λx u d z=>?_,λx f j c z y=>?_,λj c z=>?_,h.npo,λx u f d=>?_,by rw[aC];simp⟩
 ·rw [aH λy=>?_]
  ·exact d
  ·rcases z with z | z
   ·exact h.dj x z 0 _ rfl y.symm
   lia
 ·obtain⟨b,g,k⟩:=old j c z;exact h.dj x f j b g (k.trans y)
 ·obtain⟨b,g,k⟩:=old j c z;rw[<-k];exact h.nw j b g
 ·rw[aH f];exact h.kp x u f d
def Mk0.post {p dp:Addr}{w:HO}(h:Mk0 A H0 a H L ps Ss op)(hp:H p=none)(hdp:H dp=none)(hP:cI A H' p S o)(hin:∀x,o x->x=p\/upd (upd H dp (.own p)) p w x=none)(hk:∀x u,x≠p->upd (upd H dp (.own p)) p w x=some u->H' x=some u):Mk0 A H0 a H' L (ps++[p]) (Ss++[S]) (Or2 op o):=by
 obtain⟨d,g⟩:=b5U (Vd H) hp hdp hP hin hk;have b:=λx hx=>d.fr x hx;refine⟨h.cs.same g,h.po.snoc hP g b,λx hx j c z y=>?_,h.nw,λx hx=>?_,λx u hx e=>g _ _ (h.kp x u hx e),?_⟩
 ·rcases hx with hx | hx
  ·exact h.dj x hx j c z y
  ·have:=h.cs.at_ j c z;grind
 ·rcases hx with hx | hx
  ·exact h.npo x hx
  ·exact h.non0 (b x hx)
 ·have:=h.ha;cases e:H a with
  |none=>exact absurd e this
  |some u=>rw[g _ _ e];simp
end
def a1C {q:Addr}(n:Nat)(h:as.length=n):lsC (as++[q]) (List.replicate (n+1) [])=lsC as (List.replicate n [])++[(q,.lst [])]:=by
 unfold lsC;rw[Xa,List.zipWith_append (by rw[YA];exact h)];rfl
def R0 (a:List (Int×Int))(v:Int):RS:={ ps:=a.map λm=>S0 m.1.toNat m.2.toNat v.toNat,ow:=[],bo:=[],sa:=List.replicate a.length [],he:=List.replicate a.length [],ev:=[] }
def Mk0.fin {i k l m n p:Addr}{ps e f:List Addr}{op:Own}{b:List (Int×Int)}{v:Int}(h:Mk0 A H0 a H (mO C a ⟨dx,i,k,l,m,n,p,ps,e,f, [],op⟩ (R0 b v)) ps (R0 b v).ps op)(l1:e.length=b.length)(l2:f.length=b.length)(q:b.length<=5):∃o,mL C A H a (R0 b v) o/\∀x,o x->x=a\/H0 x=none:=by
 have g:(R0 b v).ps.length=b.length:=Ya ..;refine⟨λx=>op x\/∃(j:Nat)(c:Addr×HO),(mO C a ⟨dx,i,k,l,m,n,p,ps,e,f, [],op⟩ (R0 b v))[j]? =some c/\c.1=x,⟨_,h.cs,h.po,.nil,by rw[g];exact l1,by rw[g];exact YA ..,by rw[g];exact l2,by rw[g];exact YA ..,by rw[g];exact q,h.dj,λx d=>d,λx d=>?_⟩,λx d=>?_⟩
 ·rcases d with d | ⟨j,c,z,rfl⟩
  ·exact h.po.al x d
  ·rw[h.cs.at_ j c z];simp
 ·rcases d with d | ⟨j,c,z,rfl⟩
  ·exact .inr (h.npo x d)
  ·exact h.nw j c z
def c6J (H:Hp)(cl:Addr)(a:List (Int×Int)):Prop:=∃ts:List Addr,H cl=some (.lst (ts.map V.ref))/\ts.length=a.length/\∀(i:Nat)(t:Addr)(m:Int×Int),ts[i]? =some t->a[i]? =some m->H t=some (.tup [.int m.1,.int m.2])
def a9U (C:Addr)(A:Cs)(c:Addr):Sp:=λb H Q E=>∃a dx cl v ms,b= [.ref a,.ref cl,.int v]/\H a=some (.ins C dx [])/\c6J H cl ms/\ms.length<=500/\
 (((1<=ms.length/\ms.length<=5)/\∀m∈ms,a8O m.1 m.2 v)->∀H' o,mL C A H' a (R0 ms v) o->(∀x,o x->x=a\/H x=none)->(∀x u,x≠a->H x=some u->H' x=some u)->Q .non H')/\
 (¬ ((1<=ms.length/\ms.length<=5)/\∀m∈ms,a8O m.1 m.2 v)->∀H':Hp,(∀x u,x≠a->H x=some u->H' x=some u)->False)
def c0I (wf:Wf S):bO S=0\/bO S=1:=by
 have a:=wf.now;have b:bO S=bO S:=rfl
 conv at b=>rhs;unfold bO
 rw[b];cases en:S.now with
 | speaks n ds k=>
  rw[en]at a;dsimp only;rw[Yj,Yd a.2.2.1];exact(lK a.1).wbits _ (YC _)
 |tlR n ds v c=>dsimp only;unfold fM;split <;> first | exact .inl rfl | exact .inr rfl
 |tlS v c=>dsimp only;unfold fM;split <;> first | exact .inl rfl | exact .inr rfl
 |free k=>dsimp only;(repeat' split) <;> first | exact .inl rfl | exact .inr rfl
 |flag l m=>exact .inl rfl
 |reads h=>exact .inr rfl
 |settles m=>exact .inr rfl
 |rests l=>exact .inr rfl
 |off=>exact .inr rfl
def a1W (R:RS):Int:=if (0:Int)∈R.ps.map bO then 0 else 1
def a7X {ns:List Int}(h:∀z∈ns,z=0\/z=1)(l:b8K ns b):b=if (0:Int)∈ns then 0 else 1:=by
 by_cases c:(0:Int)∈ns
 ·have:=l.2 0 c;rcases h b l.1 with z | z <;> lia
 ·rw[if_neg c];rcases h b l.1 with z | z
  ·exact absurd (z▸l.1) c
  ·exact z
def dC.says54 {R:RS}{w:Rw}(h:dC C A H r R o w)(a:b∈R.ps.map bO):b=0\/b=1:=by
 obtain⟨S,c,rfl⟩:=YS.mp a;obtain⟨i,d,e⟩:=X6 c;obtain⟨p,g,_,f⟩:=h.at (by rw[Yd d,e]);exact c0I f.wf
def BmK (K:W.Frag)(bm:Addr):Prop:=W.nsIn K mainGlobals "__builtins__"=some (some (.ref bm))/\bm≠builtinsNs/\bm≠mainGlobals/\∃sl,K.lookup bm=some ⟨.type "module",some builtinsNs,.plain,sl⟩
def BmK.bm {h:Heap}{bm:Addr}(X:K.In h)(G:h.Ns mainGlobals mg)(z:BmK K bm):Bm K mg bm:=by
 obtain⟨a,b,c,e,d⟩:=z;exact⟨W.mg_of X G a,b,c,_,d,rfl,rfl,rfl⟩
abbrev sH:Stmt:=(fL Zi6).getD 2 (.Pass ⟨0,0,0,0⟩)
def c3Z (s:Stmt):Pos:=match s with
 |.FunctionDef _ _ _ _ _ _ _ _ _ p=>p
 |_=>⟨0,0,0,0⟩
abbrev a0N:Pos:=c3Z sH
abbrev iqH:Str:=("ear":Str)++".<locals>."++"heard"
def clH {L c:Addr}{f:Addr}(h:(PyProof.Rows.envOfC "ear" (bD Zi6) L f cd).cells.lookup (Str.ofString "kept")=some c):closureFor (bD sH) (PyProof.Rows.envOfC "ear" (bD Zi6) L f cd)=pure [(Str.ofString "kept",c)]:=by
 cases h;rfl
def scH:zO ["post","turn","bit","kept"] ["post","turn","bit"] ["kept"] (bD sH):=⟨rfl,rfl,rfl,by decide +kernel,rfl,by decide +kernel,by decide +kernel,by decide +kernel⟩
inductive PrT (H:Hp):List Addr->List (Int×Int)->Prop
 |nil:PrT H [] []
 |cons {q:Addr} {p:Int×Int} {qs:List Addr} {ps:List (Int×Int)}:H q=some (.tup [.int p.1,.int p.2])->PrT H qs ps->PrT H (q::qs) (p::ps)
theorem PrT.prs:∀{qs:List Addr}{ps:List (Int×Int)},PrT H qs ps->b7N K H qs ps
 |_,_,.nil=> .nil
 |_,_,.cons h t=> .cons (Vc h) (PrT.prs t)
theorem PrT.mono (g:∀b xs,H b=some (.tup xs)->H' b=some (.tup xs)):∀{qs:List Addr}{ps:List (Int×Int)},PrT H qs ps->PrT H' qs ps
 |_,_,.nil=> .nil
 |_,_,.cons h t=> .cons (g _ _ h) (PrT.mono g t)
def PrT.same {a:List Addr}(h:PrT H a ps)(g:Same H H'):PrT H' a ps:=h.mono λb _ e=>g b _ e
theorem PrT.len:∀{qs:List Addr}{ps:List (Int×Int)},PrT H qs ps->qs.length=ps.length
 |_,_,.nil=>rfl
 |_,_,.cons _ t=>by rw[Yk,Yk,PrT.len t]
theorem PrT.get:∀{qs:List Addr}{ps:List (Int×Int)},PrT H qs ps->∀{i:Nat}{q:Addr},qs[i]? =some q->∃p,ps[i]? =some p/\H q=some (.tup [.int p.1,.int p.2])
 |_,_,.nil,i,q,h=>by simp at h
 | _,_,.cons (p:=p) h t,0,q,e=>by
  cases (Yu e);exact⟨p,rfl,h⟩
 |_,_,.cons h t,i+1,q,e=>PrT.get t e
def kyP (p:Int×Int):List Key:=[.inl p.1,.inl p.2]
def kvP (ps:List (Int×Int)):List (List Key×V):=ps.foldl (λa p=>putK a (kyP p) (.bl true)) []
def b2H (ps:List (Int×Int))(p:Int×Int):kvP (ps++[p])=putK (kvP ps) (kyP p) (.bl true):=by unfold kvP;rw[Y7];rfl
def b2I (ps:List (Int×Int)):∀kvs:List (List Key×V),(ps.foldl (λkvs p=>putK kvs (kyP p) (.bl true)) kvs).length<=kvs.length+ps.length/\∀p:Int×Int,(gP (ps.foldl (λkvs p=>putK kvs (kyP p) (.bl true)) kvs) (kyP p)).isSome=(decide (p∈ps) || (gP kvs (kyP p)).isSome):=by
 induction ps with
 |nil=>intro kvs;exact⟨Yb _,λp=>by simp⟩
 | cons q r ih=>
  intro kvs;obtain⟨b,a⟩:=ih (putK kvs (kyP q) (.bl true));rw[YX];refine⟨?_,λp=>?_⟩
  ·have:=nD kvs (kyP q) (.bl true);rw[Yk];lia
  ·rw [a p,sW];by_cases e:p=q
   ·subst e;rw[if_pos rfl];simp
   ·rw [if_neg λz=>e (by
     unfold kyP at z;obtain⟨c,d⟩:=p;obtain⟨f,g⟩:=q;simp only[List.cons.injEq,Sum.inl.injEq,and_true]at z
     rw[z.1,z.2])]
    grind
def b6P (ps:List (Int×Int)):(kvP ps).length<=ps.length:=by have:=(b2I ps []).1;rw[List.length_nil]at this;unfold kvP;lia
def b6O (ps:List (Int×Int))(p:Int×Int):(gP (kvP ps) (kyP p)).isSome=decide (p∈ps):=by
 have:=(b2I ps []).2 p;unfold kvP;rw[this,a8Y];simp
def rA (H:Hp)(g:Addr)(ps:List (Int×Int)):Prop:=∃c c' d,H g=some (FnO g sH iqH [("kept",c)] c')/\H c'=some (lX c' iqH)/\H c=some (lG c (.ref d))/\H d=some (.dT (kvP ps))
def rA.same {g:Addr}(h:rA H g ps)(k:Same H H'):rA H' g ps:=by
 obtain⟨c,a,d,b,e,f,i⟩:=h;exact⟨c,a,d,k _ _ b,k _ _ e,k _ _ f,k _ _ i⟩
def qR.same {P:Addr}{pos:Pos}{qual:Str}(h:qR P pos qual H)(k:Same H H'):qR P pos qual H':=by
 obtain⟨c,d,e,f⟩:=h;exact⟨c,k _ _ d,e,f.imp id λ⟨g,a,b⟩=>⟨g,a,k _ _ b⟩⟩
def c3Q:Addr->List V->Hp->VK->Prop:=λg c H Q=>∃(a b x:Int)(ps:List (Int×Int)),c= [.int a,.int b,.int x]/\rA H g ps/\∀H',Same H H'->Q (.int (if (a,b)∈ps then 1-x else x)) H'
def a2Y {P:Program}{w:World}{base:Heap}:b8J P w K mg base 2 c3Q:=by
 rintro f A i s H J L Q u y r ⟨a,b,x,h,rfl,⟨c,M,d,B,C,p,j⟩,q⟩;refine c2O (k:=1) (N:=["post","turn","bit","kept"]) (ws:=[.ref d]) scH u y B C ⟨rfl,by simp,.cons p .nil⟩ rfl r (λD O E=> .of_eq ?_) λl=>⟨_,(aF (aK (cH (eE (b0W (c0W (wC l) (cM (aA (dv 0) (aA (dv 1) aD))) (dv 3)) rfl) (aP mR aG (dv 2)) (dv 2))))),?_⟩
 ·rcases r with _ | ⟨R,r⟩
  rcases r with _ | ⟨S,r⟩
  rcases r with _ | ⟨T,r⟩
  cases r;rfl
 have F:d≠c:=λz=>by rw[z,p]at j;cases j
 have hd:oX H [c] d=some (.dT (kvP h)):=by rw[fD (by simpa using F)];exact j
 refine⟨λv m=>v= .int (if (a,b)∈h then 1-x else x)/\Same (oX H [c]) m,?_,?_⟩
 ·refine⟨aM rfl,λt G=>?_⟩;have g:=aN G (.tup [.int a,.int b]);have I:=aC (H:=oX H [c]) (a:=t) (o:= .tup [.int a,.int b]);have n:=g _ _ hd;refine⟨d,_,rfl,.inr ⟨kvP h,kyP (a,b),t,.inl n,rfl,I,rfl⟩,_,rfl,?_⟩;rw[b6O];by_cases hm:(a,b)∈h
  ·rw[Ym hm,if_pos hm];exact c1W ⟨rfl,g⟩
  ·rw[Yr hm,if_neg hm];exact yJ ⟨rfl,g⟩
 ·rintro v m ⟨rfl,g⟩;refine q _ λz o e=>?_;show zF H m [c] z=some o;by_cases hz:z∈ [c]
  ·rw[a6G hz];exact e
  ·rw[jQ hz];exact g z o (by rw[fD hz];exact e)
def a2V (C:Addr)(A:Cs)(b:Addr)(g:PS->Hp->VK->Prop):Sp:=λa H Q E=>∃r R o w k,a= [.ref r,.int k]/\dC C A H r R o w/\(∀(i:Nat) S,k=(i:Int)->R.ps[i]? =some S->g S H Q)/\(¬ (0<=k/\k<((R.ps.length:Nat):Int))->∀H',Same H H'->False)
def gB (a:Int):PS->Hp->VK->Prop:=λS H Q=>Q (.bl (decide (a<=S.tot))) H
def c2A:PS->Hp->VK->Prop:=λS H Q=>S.wt.length<=900/\∀l xs H',H l=none->Same H H'->H' l=some (.lst xs)->fU H H' xs S.wt->Q (.ref l) H'
def c7Z:PS->Hp->VK->Prop:=λS H Q=>S.up.length<=900/\∀l xs H',H l=none->Same H H'->H' l=some (.lst xs)->fU H H' xs S.up->Q (.ref l) H'
structure Row where
 (st:Str) (k:Nat) (said bit:Int) (w:Str) (c:Int)
structure Tn (S:PS)(r:Row)(S':PS):Prop where
 sh:S.now.shown=(r.st,r.k)
 sa:bO S=r.said
 bt:r.bit=0\/r.bit=1
 hr:aZ S r.bit=(r.w,S')
 ct:S'.tot=r.c
def c3H (e:S.now= .speaks n ds k)(f:FrN (n,ds))(a:k<(wr n ds).length):Tn S ⟨"speaks",k,(wr n ds).getD k 0,(wr n ds).getD k 0,"",S.tot⟩ { S with now:=if k+1=(wr n ds).length then .tlS 0 0 else .speaks n ds (k+1) }:=by
 have W:=lK f;have b:(wr n ds).getD k 0=(wr n ds)[k]:=getD_get a;have g:(wr n ds).take k++[(wr n ds).getD k 0]=(wr n ds).take (k+1):=by rw[b,Yf a]
 refine⟨by rw[e];rfl,by unfold bO;rw[e],?_,?_,rfl⟩
 ·rw[b];exact W.wbits _ (YC a)
 show aZ S ((wr n ds).getD k 0)=_;rw[bL e,g];have h:¬ ans ((wr n ds).take (k+1))="six":=by
  by_cases c:k+1=(wr n ds).length
  ·rw[c,Yg (Yb _),W.whole];decide +kernel
  ·rw[W.more (by lia)];decide +kernel
 lia
structure Part (w1 w2:List Int)(k:Nat):Prop where
 tk:w1.take k=w2.take k
 h1:k<w1.length
 one:w1.getD k 0=1
 zero:w2.getD k 0=0
 k1:1<=k
 k16:k<=16
 nine:(kp (w1.take k)).length<9
def b1L {c a d:List Int}(e:c≠ [])(j:c.length<=8):Part (put (c++1::a)) (put (c++0::d)) (put c).length:=by
 obtain⟨f,h⟩:=Wm.put_pre c 1 a;obtain⟨k,i⟩:=Wm.put_pre c 0 d;have l:=nW c;have m:=X5.mpr e;have t:∀(b:Int)(s:List Int),(put c++b::s).take (put c).length=put c:=λb s=>by grind
 have g:∀(b:Int)(s:List Int),(put c++b::s).getD (put c).length 0=b:=λb s=>by grind
 rw[h,i];refine⟨by rw[t,t],by rw[Yc];show _<_+(f.length+1);lia,g _ _,g _ _,by lia,by lia,?_⟩;rw[t,yG];lia
def b4F {g s:Nat}{d:List Int}(i:s<8)(h:∀j,s<j->n1.testBit j=g.testBit j)(l:n1.testBit s=true)(m:g.testBit s=false):∃k,Part (wr n1 ds1) (wr g d) k:=by
 obtain⟨c,o,p,q,u,A⟩:=Wm.bitsI_split i h l m;have f:∀(n:Nat)(a:List Int)(b:Int)(t:List Int),bW n 8=c++b::t->∃r,fb (n:Int) a=(0::c)++b::r:=λn a b t e=>by
  refine⟨t++bW a.length 3++(a.map b8).flatten++ck (hd (n:Int) a),?_⟩;have v:hd (n:Int) a= [0]++b8 (n:Int)++bW a.length 3++(a.map b8).flatten:=rfl;have w:b8 (n:Int)=c++b::t:=by exact e
  show hd (n:Int) a++ck (hd (n:Int) a)=_;grind
 obtain⟨B,x⟩:=f n1 ds1 1 o q;obtain⟨C,y⟩:=f g d 0 p u;refine⟨(put (0::c)).length,?_⟩;show Part (put (fb (n1:Int) ds1)) (put (fb (g:Int) d)) _;rw[x,y];exact b1L (by intro z;cases z) (by rw[Yk];lia)
theorem a4H:∀(k a b:Nat),a<2 ^ k->b<a->∃s,s<k/\(∀j,s<j->a.testBit j=b.testBit j)/\a.testBit s=true/\b.testBit s=false
 |0,a,b,h,h2=>by rw[Nat.pow_zero]at h;lia
 | k + 1,a,b,h,h2=>by
  rw[XH]at h;by_cases c:b / 2<a / 2
  ·obtain⟨s,s1,s2,s3,s4⟩:=a4H k (a / 2) (b / 2) (by lia) c;refine⟨s+1,by lia,λj hj=>?_,by rw[XN];exact s3,by rw[XN];exact s4⟩;cases j with
   |zero=>lia
   |succ j=>rw[XN,XN];exact s2 j (by lia)
  ·have e:a / 2=b / 2:=by lia
   refine⟨0,by lia,λj hj=>?_,?_,?_⟩
   ·cases j with
    |zero=>lia
    |succ j=>rw[XN,XN,e]
   ·rw[Nat.testBit_zero];exact Ym (by lia)
   ·rw[Nat.testBit_zero];exact Yr (by lia)
def c2Z (w:List Int):Prop:=Good w->lY (kp w)->rst (kp w)≠0
def a1I {n:Nat}(m:n<256)(o:ds.length<=7){t:Nat}(d:t<(put (fb (n:Int) ds)).length):c2Z ((put (fb (n:Int) ds)).set t (1-(put (fb (n:Int) ds))[t])):=by
 have fl:=nG (n:Int) ds;have a:=yN (n:Int) ds;have e:=tR a;have g:=lM (fb (n:Int) ds);have h:=yG (fb (n:Int) ds);generalize put (fb (n:Int) ds)=w at d e g h;have i:w=w.take t++w[t]::w.drop (t+1):=by
  rw[<-Xq d,Ji]
 intro j k l;rw[List.set_eq_take_append_cons_drop.trans (if_pos d)]at j k l;have c:=Wm.turned (e _ (YC d)) (λz f=>e z (X2 f)) (by rw[<-i];exact g) j (λz f=>e z (YY f));rw[<-i,h]at c;refine Wm.Df.seen a (by lia) c ((b2Z m o).2.2) ?_ l;rw[k.2];lia
def a1J {n:Nat}(l:n<256)(m:ds.length<=7)(o:k<=5)(e:(put (fb (n:Int) ds)).take (k+1)=0::List.replicate k 1)(d:k+1<(put (fb (n:Int) ds)).length)(f:(put (fb (n:Int) ds))[k+1]=0):c2Z ((put (fb (n:Int) ds)).drop (k+1)):=by
 have fl:=nG (n:Int) ds;have a:=yN (n:Int) ds;have g:=tR a;have h:=lM (fb (n:Int) ds);have b:=yG (fb (n:Int) ds);have p:=(b2Z (ds:=ds) l m).2.2;generalize put (fb (n:Int) ds)=w at d g h b e f;have ed:w.drop (k+1)=0::w.drop (k+1+1):=by rw[Xq d,f]
 have c:(0::List.replicate k 1)++0::w.drop (k+1+1)=w:=by rw[<-e,<-ed,Ji]
 intro q i j;rw[ed]at q i j;have r:=i.2;refine Wm.missed (k:=k) o (λz s=>g z (X2 s)) (by rw[c];exact h) (by rw[c,b];exact a) (by rw[c,b];lia) (by rw[c,b];exact p) (by rw[c,b,r];lia) j
def vP (a:Good w)(e:w.take (k+1)=0::List.replicate k 1)(b:k+1<=w.length):k<=5:=by
 by_cases k0:k=0
 ·lia
 have:=a (k+1) b;rw[e]at this;unfold Wm.run at this;rw[Wm.ones_sk k (by lia)]at this;exact this
def a2I (h:Good w)(a:ans (w++[b])="whole"):Good (w++[b]):=by
 have c:¬ 5<run (w++[b]):=λz=>by
  rw[jK z]at a;exact absurd a (by decide +kernel)
 exact h.snoc (by lia)
def a1X (w:List Int):ans w="more"\/ans w="six"\/ans w="whole"\/ans w="bad":=by
 unfold ans;lia
def b6U (R:RS)(a:List Int)(n:Nat):(bH R a (n+1)=bH R a n/\¬ ∃S b x y,R.ps[n]? =some S/\a[n]? =some b/\R.sa[n]? =some x/\R.he[n]? =some y)\/∃S b x y,R.ps[n]? =some S/\a[n]? =some b/\R.sa[n]? =some x/\R.he[n]? =some y/\bH R a (n+1)=uV R (bH R a n) n S b x y:=by
 by_cases c:∃S b x y,R.ps[n]? =some S/\a[n]? =some b/\R.sa[n]? =some x/\R.he[n]? =some y
 ·obtain⟨S,b,x,y,d,e,f,g⟩:=c;exact .inr ⟨S,b,x,y,d,e,f,g,kZ d e f g⟩
 ·refine .inl ⟨?_,c⟩;show (match R.ps[n]?,a[n]?,R.sa[n]?,R.he[n]? with | some S,some b,some x,some y=>uV R (bH R a n) n S b x y | _,_,_,_=>bH R a n)=_;split
  ·rename_i S b x y d e f g;exact absurd ⟨S,b,x,y,d,e,f,g⟩ c
  ·rfl
theorem a5T {R:RS}{x:List Int}(e1:R.ps[j]? =some S)(e2:hs[j]? =some b)(e3:R.sa[j]? =some x)(e4:R.he[j]? =some y):∀n,j<n->(bH R hs n).ps[j]? =some (aZ S b).2/\(bH R hs n).sa[j]? =some (x++[bO S])/\(bH R hs n).he[j]? =some (y++[b])
 |0,h=>absurd h (Jb _)
 | n + 1, h=>by
  by_cases c:j=n
  ·subst c;obtain⟨g1,g2,g3,g4,g5,g6,g7⟩:=lA R hs j;rw[kZ e1 e2 e3 e4];have a1:=(Ye.mp e1).1;have a3:=(Ye.mp e3).1;have a4:=(Ye.mp e4).1;refine⟨?_,?_,?_⟩
   ·show ((bH R hs j).ps.set j _)[j]? =_;rw[Y8,if_pos rfl,if_pos (by lia)]
   ·show ((bH R hs j).sa.set j _)[j]? =_;rw[Y8,if_pos rfl,if_pos (by lia)]
   ·show ((bH R hs j).he.set j _)[j]? =_;rw[Y8,if_pos rfl,if_pos (by lia)]
  ·obtain⟨q1,q2,q3⟩:=a5T e1 e2 e3 e4 n (by lia);rcases b6U R hs n with ⟨e,_⟩ | ⟨S',b',x',y',_,_,_,_,e⟩
   ·rw[e];exact⟨q1,q2,q3⟩
   ·rw [e];refine⟨?_,?_,?_⟩
    ·show ((bH R hs n).ps.set n _)[j]? =_;rw[Y9 λz=>c z.symm];exact q1
    ·show ((bH R hs n).sa.set n _)[j]? =_;rw[Y9 λz=>c z.symm];exact q2
    ·show ((bH R hs n).he.set n _)[j]? =_;rw[Y9 λz=>c z.symm];exact q3
def b0V:∀l:List Int,4*(put l).length+run (put l)<=5*l.length:=by
 refine snoc_ind (by decide) (λw b ih=>?_);rw[iQ,Yc];unfold pst;have a:run (put w++[b])<=run (put w)+1:=a0I;split
 ·rw[run_snoc,last_snoc,Yc,Yc,Yy,Yy];lia
 ·rw[Yc,Yy];lia
def tz (w:List Int):Nat:=if (Wm.sk w).1=some 0 then Wm.run w else 0
def tH (w:List Int):Wm.run (w++[0])=tz w+1:=by
 unfold tz;rw[Wm.run_snoc];split <;> rfl
def wW (w:List Int):tz (w++[0])=tz w+1:=by
 rw[<-tH];exact if_pos (Wm.last_snoc w 0)
def Tm (S:PS)(d:Nat):Prop:=match S.now with
 |.free _=>6<=d
 |.speaks n ds k=>6<=d+tz ((wr n ds).take k)
 |.reads h=>6<=d+tz h
 |.tlS c z=>(c≠1/\c<=8/\1<=d)\/(c=1/\2<=d)\/(9<=c/\c=9+z/\c<9+S.vt/\9+S.vt<=d+c)
 |.tlR _ _ c z=>(c≠1/\c<=8/\1<=d)\/(c=1/\2<=d)\/(9<=c/\c=9+z/\c<9+S.vt/\9+S.vt<=d+c)
 |.rests _=>1<=d
 |_=>False
def Flt (S a:PS):Prop:=(∃m:Bool,a={ S with tot:=S.tot+(if m=true then 1 else 8),now:= .flag 6 m })\/∃t:Int,0<=t/\t<=S.tot+8/\a={ S with tot:=t,now:= .settles false }
def c1K {n st:Int}(a:0<=n)(b:n<10)(c:0<=st)(d:st<=8):mvd n st=n+st/\¬ 18<=mvd n st:=by
 have e:mvd n st=n+st:=by
  unfold mvd;lia
 exact⟨e,by lia⟩
def sJ {st:Int}{w:Str}{nx:Stc}(c:0<=S.tot)(d:S.tot<10)(e:0<=st)(f:st<=8):eQ S st w nx=(w,{ S with tot:=S.tot+st,now:=nx }):=by
 obtain⟨a,b⟩:=c1K c d e f;unfold eQ;rw[if_neg b,a]
def jF (a:0<=S.tot)(b:S.tot<10)(sp:Bool):Flt S (cD S sp).2:=by
 refine .inl ⟨!sp,?_⟩;unfold cD;cases sp <;> (rw[sJ a b (by decide) (by decide)];rfl)
def tQ (a:0<=S.tot)(b:S.tot<10)(sp:Bool):Flt S (dU S sp).2:=by
 unfold dU;rw[sJ a b (by cases sp <;> decide) (by cases sp <;> decide)];exact .inr ⟨_,by split <;> lia,by split <;> lia,rfl⟩
def Stl (d:Nat)(S a:PS):Prop:=(∃n:Stc,a={ S with now:=n })/\Tm a d/\1<=d
def vG {s:Bool}(g:vt<=5){d:Nat}(h:(c≠1/\c<=8/\1<=d+1)\/(c=1/\2<=d+1)\/(9<=c/\c=9+z/\c<9+vt/\9+vt<=d+1+c)):
  bR vt s c z 0="fault"\/bR vt s c z 0="refused"\/(bR vt s c z 0="more"/\1<=d/\((c+1≠1/\c+1<=8/\1<=d)\/(c+1=1/\2<=d)\/(9<=c+1/\c+1=9+tlN c 0 z/\c+1<9+vt/\9+vt<=d+(c+1)))):=by
 rcases h with ⟨a,b⟩ | ⟨rfl,a⟩ | ⟨a,b⟩
 ·unfold bR dM;lia
 ·unfold bR dM;lia
 ·have f:tlN c 0 z=z+1:=if_pos ⟨a,rfl⟩;unfold bR;unfold oO;lia
def iB:("more":Str)≠"fault"/\("fault":Str)≠"more"/\("refused":Str)≠"more"/\("refused":Str)≠"fault"/\("more":Str)≠"six"/\("whole":Str)≠"more":=by decide +kernel
def b4K {d:Nat}(hf:∀f∈S.wt,FrN f)(wf:S.now.Wf S.wt)(v5:S.vt<=5)(h0:0<=S.tot)(h1:S.tot<10)(h:Tm S (d+1)):Stl d S (aZ S 0).2\/Flt S (aZ S 0).2:=by
 have fo:∀{n:Nat}{a:List Int},(wr n a).take 1= [0]:=λ{n a}=>qC;cases en:S.now with
 | free k=>
  have g:6<=d+1:=by unfold Tm at h;rw[en]at h;exact h
  rw[dR en];split
  ·rw[if_pos rfl];left;refine⟨⟨_,rfl⟩,?_,by lia⟩;show 6<=d+tz ((wr _ _).take 1);rw[fo];exact g
  ·rw[if_pos rfl];exact .inl ⟨⟨_,rfl⟩,g,by lia⟩
 | speaks n a k=>
  have g:6<=d+1+tz ((wr n a).take k):=by unfold Tm at h;rw[en]at h;exact h
  rw[en]at wf;obtain⟨_,_,q,_⟩:=wf;have i:=tH ((wr n a).take k);rw[bL en];split
  ·exact .inr (jF h0 h1 _)
  ·rename_i j;have r:¬ 5<tz ((wr n a).take k)+1:=λz=>j (jK (by rw[i];exact z));split
   ·left;refine⟨⟨_,rfl⟩,?_,by lia⟩;show 6<=d+tz ((wr n a).take k++[0]);rw[wW];lia
   ·split
    ·rename_i e0;split
     ·exact .inl ⟨⟨_,rfl⟩,.inl ⟨by decide,by decide,by lia⟩,by lia⟩
     ·left;refine⟨⟨_,rfl⟩,?_,by lia⟩;show 6<=d+tz ((wr n a).take (k+1));rw[Yf q,<-getD_get q,<-e0,wW];lia
    ·exact .inr (jF h0 h1 _)
 | reads h'=>
  have g:6<=d+1+tz h':=by unfold Tm at h;rw[en]at h;exact h
  have i:=tH h';rw[cN en];have b:ans (h'++[0])≠"six"->¬ 5<tz h'+1:=λj z=>j (jK (by rw[i];exact z));split
  ·rename_i e;have r:=b (by rw[e];exact iB.2.2.2.2.1);left;refine⟨⟨_,rfl⟩,?_,by lia⟩;show 6<=d+tz (h'++[0]);rw[wW];lia
  ·split
   ·rename_i e;have r:=b (by rw[e];decide +kernel);exact .inl ⟨⟨_,rfl⟩,.inl ⟨by decide,by decide,by lia⟩,by lia⟩
   ·exact .inr (jF h0 h1 _)
 | tlS c z=>
  unfold Tm at h;rw[en]at h;rw[kY en];rcases vG (s:=true) v5 h with e | e | ⟨e,o,p⟩
  ·rw[e,if_neg iB.2.1,if_pos rfl];exact .inr (jF h0 h1 _)
  ·rw[e,if_neg iB.2.2.1,if_neg iB.2.2.2.1,if_pos rfl];exact .inr (tQ h0 h1 _)
  ·rw[e,if_pos rfl];exact .inl ⟨⟨_,rfl⟩,p,o⟩
 | tlR n a c z=>
  unfold Tm at h;rw[en]at h;rw[lQ en];rcases vG (s:=false) v5 h with e | e | ⟨e,o,p⟩
  ·rw[e,if_neg iB.2.1,if_pos rfl];exact .inr (jF h0 h1 _)
  ·rw[e,if_neg iB.2.2.1,if_neg iB.2.2.2.1,if_pos rfl];exact .inr (tQ h0 h1 _)
  ·rw[e,if_pos rfl];exact .inl ⟨⟨_,rfl⟩,p,o⟩
 | rests l=>
  rw[iH en,if_pos rfl];exact .inr (jF h0 h1 _)
 |flag l m=>unfold Tm at h;rw[en]at h;exact h.elim
 |settles m=>unfold Tm at h;rw[en]at h;exact h.elim
 |off=>unfold Tm at h;rw[en]at h;exact h.elim
def cT (s:List PS):Int:=if (0:Int)∈s.map bO then 0 else 1
def hrd (wp:Option Nat)(b:Int)(i:Nat):Int:=if wp=some i then 1-b else b
def bM (wp:Option Nat)(s:List PS):List PS:=s.mapIdx λi S=>(aZ S (hrd wp (cT s) i)).2
def iK {s:List PS}:(bM wp s).length=s.length:=List.length_mapIdx
def dZ {s:List PS}(h:(bM wp s)[i]? =some S'):∃S,s[i]? =some S/\S'=(aZ S (hrd wp (cT s) i)).2:=by
 unfold bM at h;grind
def gC {s:List PS}(h:s[i]? =some S):(bM wp s)[i]? =some (aZ S (hrd wp (cT s) i)).2:=by
 unfold bM;rw[X3,h];rfl
def gK {s:List PS}(h:s[i]? =some S)(e:bO S=0):cT s=0:=if_pos (YS.mpr ⟨S,YF h,e⟩)
def jX {s:List PS}(h:∀(i:Nat)(S:PS),s[i]? =some S->bO S≠0):cT s=1:=if_neg λz=>by
 obtain⟨S,a,e⟩:=YS.mp z;obtain⟨i,b⟩:=XV.mp a;exact h i S b e
inductive RP (B:PS)(d:Nat):PS->Prop
 |u {n:Stc}:Tm { B with tot:=0,now:=n } d->Wf { B with tot:=0,now:=n }->RP B d { B with tot:=0,now:=n }
 |f {l:Nat} {m:Bool}:1<=l->l<=6->RP B d { B with tot:=if m=true then 1 else 8,now:= .flag l m }
 |s {t:Int} {m:Bool}:0<=t->t<=9->(m=true->t=1)->RP B d { B with tot:=t,now:= .settles m }
inductive RQ (B:PS)(L:Nat):PS->Prop
 |f {l:Nat} {m:Bool}:1<=l->l<=L->RQ B L { B with tot:=if m=true then 1 else 8,now:= .flag l m }
 |s {t:Int} {m:Bool}:0<=t->t<=9->(m=true->t=1)->RQ B L { B with tot:=t,now:= .settles m }
def b2X {B:PS}{n:Stc}{L:Nat}(c:6<=L)(h:Flt { B with tot:=0,now:=n } S'):RQ B L S':=by
 rcases h with ⟨m,rfl⟩ | ⟨t,a,b,rfl⟩
 ·cases m
  ·exact RQ.f (m:=false) (by decide) c
  ·exact RQ.f (m:=true) (by decide) c
 ·exact RQ.s a (show t<=9 by lia) (λz=>by cases z)
def RQ.rp {B:PS}{d:Nat}(h:RQ B 6 S):RP B d S:=by
 cases h with
 |f a b=>exact .f a b
 |s a b c=>exact .s a b c
def wH {B:PS}{l L:Nat}{m:Bool}{b:Int}(a:1<=l)(c:l<=L+1):RQ B L (aZ { B with tot:=if m=true then 1 else 8,now:= .flag l m } b).2:=by
 rw[oF rfl];split
 ·refine RQ.s (t:=if m=true then 1 else 8) (by split <;> decide) (by split <;> decide) λz=>?_;rw[if_pos z]
 ·exact RQ.f (by lia) (by lia)
def a0G {B:PS}{L:Nat}{t:Int}{m:Bool}(b:0<=t)(c:t<=9)(a:m=true->t=1):RQ B L (aZ { B with tot:=t,now:= .settles m } 0).2:=by
 rw[jW rfl,if_neg (by decide)];split
 ·rename_i e;have d:=a e;subst d;exact RQ.s (t:=1+8) (by decide) (by decide) λz=>by cases z
 ·exact RQ.s b c a
structure R1 (B:Nat->PS)(d:Nat)(s:List PS):Prop where
 fl:∃(j l:Nat)(m:Bool),d<=l/\l<=6/\s[j]? =some { B j with tot:=if m=true then 1 else 8,now:= .flag l m }
 al:∀i S,s[i]? =some S->RP (B i) d S
def R2 (B:Nat->PS)(L:Nat)(s:List PS):Prop:=∀i S,s[i]? =some S->RQ (B i) L S
def Re3 (B:Nat->PS)(s:List PS):Prop:=∀i S,s[i]? =some S->∃t:Int,0<=t/\t<=9/\S={ B i with tot:=t,now:= .rests 3 }
def a4S {B:PS}{d:Nat}(h:RP B (d+1) S):(RP B d (aZ S 0).2/\1<=d)\/RQ B 6 (aZ S 0).2:=by
 cases h with
 | u tm wf=>
  rcases b4K wf.wt wf.now wf.vt (X1 0) (show (0:Int)<10 by decide) tm with ⟨⟨k,e⟩,g,j⟩ | z
  ·left;have i:=wf.hear (.inl rfl);rw[e]at g i ⊢;exact⟨RP.u g i,j⟩
  ·exact .inr (b2X (Yb 6) z)
 |f a b=>exact .inr (wH a (by lia))
 |s a b c=>exact .inr (a0G a b c)
def R1.step {d:Nat}{s:List PS}(h:R1 B (d+1) s):(1<=d->R1 B d (bM none s))/\(d=0->R2 B 6 (bM none s)):=by
 obtain⟨j,l,m,k,n,b⟩:=h.fl;have f:=gK b rfl;have c:∀i,hrd none (cT s) i=0:=λi=>by unfold hrd;lia
 refine⟨λo=>⟨⟨j,l-1,m,by lia,by lia,?_⟩,λi g e=>?_⟩,λp i g e=>?_⟩
 ·rw[gC b,oF rfl,if_neg (by lia)]
 ·obtain⟨S,a,rfl⟩:=dZ e;rw[c];rcases a4S (h.al i S a) with z | z
  ·exact z.1
  ·exact z.rp
 ·obtain⟨S,a,rfl⟩:=dZ e;rw[c];rcases a4S (h.al i S a) with z | z
  ·lia
  ·exact z
def R2.step {L:Nat}{s:List PS}(h:R2 B L s):(∃L',L=L'+1/\R2 B L' (bM none s))\/Re3 B (bM none s):=by
 by_cases c:∃(j l:Nat)(m:Bool)(t:Int),s[j]? =some { B j with tot:=t,now:= .flag l m }
 ·left;obtain⟨j,l,m,t,e⟩:=c;have d:=gK e rfl;have n:∀i,hrd none (cT s) i=0:=λi=>by unfold hrd;lia
  have r:1<=L:=by
   have:=h j _ e;generalize hS:({ B j with tot:=t,now:= .flag l m }:PS)=S at this;cases this with
   |f a b=>lia
   |s a b c=>cases YJ PS.now hS
  refine⟨L-1,by lia,λi o g=>?_⟩;obtain⟨S,k,rfl⟩:=dZ g;rw[n];cases h i S k with
  |f a b=>exact wH a (by lia)
  |s a b c=>exact a0G a b c
 ·right;have al:∀i S,s[i]? =some S->∃(t:Int)(m:Bool),0<=t/\t<=9/\S={ B i with tot:=t,now:= .settles m }:=λi S e=>by
   cases h i S e with
   |f a b=>exact absurd ⟨i,_,_,_,e⟩ c
   |s a b c=>exact⟨_,_,a,b,rfl⟩
  have d:=jX λi S e=>by
   obtain⟨t,m,_,_,rfl⟩:=al i S e;exact λz=>absurd (show (1:Int)=0 from z) (by decide)
  intro i o g;obtain⟨S,k,rfl⟩:=dZ g;obtain⟨t,m,p,q,rfl⟩:=al i S k;refine⟨t,p,q,?_⟩;unfold hrd;rw[if_neg (by simp),d,jW rfl,if_pos rfl]
def Sh8:Stc->Prop
 |.free _=>True
 |.speaks _ _ _=>True
 |.reads _=>True
 |.rests _=>True
 |.tlS c z=>c<=8/\z=0
 |.tlR _ _ c z=>c<=8/\z=0
 |_=>False
structure At8 (B S:PS):Prop where
 ex:∃n:Stc,S={ B with tot:=0,now:=n }/\Sh8 n
 wf:Wf S
 v1:1<=B.vt
def b3A {B:PS}(e:∃n:Stc,S={ B with tot:=0,now:=n })(sp:Bool):RP B 6 (cD S sp).2:=by
 obtain⟨n,rfl⟩:=e;have:=jF (S:={ B with tot:=0,now:=n }) (X1 0) (show (0:Int)<10 by decide) sp;exact(b2X (Yb 6) this).rp
def kJ {B:PS}{n':Stc}(h:Sh8 n'\/(∃z,n'= .tlS 9 z/\z=0)\/∃a b z,n'= .tlR a b 9 z/\z=0)(v1:1<=B.vt)(wf:Wf { B with tot:=0,now:=n' }):RP B 6 { B with tot:=0,now:=n' }:=by
 refine .u ?_ wf;have e:=wf.vt;have d:∀c z:Nat,c<=8->z=0->(c≠1/\c<=8/\1<=6)\/(c=1/\2<=6)\/(9<=c/\c=9+z/\c<9+B.vt/\9+B.vt<=6+c):=λc z h _=>by lia
 rcases h with h | ⟨z,rfl,rfl⟩ | ⟨a,b,z,rfl,rfl⟩
 ·cases n' with
  |free k=>exact Yb 6
  |speaks a b c=>exact Nat.le_add_right 6 _
  |reads a=>exact Nat.le_add_right 6 _
  |rests l=>exact(by decide:1<=6)
  |tlS c z=>exact d c z h.1 h.2
  |tlR a b c z=>exact d c z h.1 h.2
  |flag l m=>exact h.elim
  |settles m=>exact h.elim
  |off=>exact h.elim
 ·exact .inr (.inr ⟨by decide,rfl,by lia⟩)
 ·exact .inr (.inr ⟨by decide,rfl,by lia⟩)
def a0A {s:Bool}(h:c<=8):bR vt s c 0 b="fault"\/(bR vt s c 0 b="more"/\tlN c b 0=0):=by
 unfold bR;rw[if_neg (by lia)];split
 ·exact .inl rfl
 ·exact .inr ⟨rfl,if_neg λz=>by lia⟩
def b5J {B:PS}(h:At8 B S)(hb:b=0\/b=1):RP B 6 (aZ S b).2:=by
 obtain⟨⟨n,rfl,o⟩,wf,g⟩:=h;have f:=wf.hear hb;have i:∀p,RP B 6 (cD { B with tot:=0,now:=n } p).2:=λp=>b3A ⟨n,rfl⟩ p;cases n with
 | free k=>
  rw[dR rfl]at f ⊢;split at f <;> split at f <;> rename_i c1 c2
  ·rw[if_pos c1,if_pos c2];exact kJ (.inl trivial) g f
  ·rw[if_pos c1,if_neg c2];exact i _
  ·rw[if_neg c1,if_pos c2];exact kJ (.inl trivial) g f
  ·rw[if_neg c1,if_neg c2];exact kJ (.inl trivial) g f
 | speaks a d k=>
  rw[bL rfl]at f ⊢;split
  ·exact i _
  ·rename_i c1;rw[if_neg c1]at f;split
   ·rename_i c2;rw[if_pos c2]at f;exact kJ (.inl trivial) g f
   ·rename_i c2;rw[if_neg c2]at f;split
    ·rename_i c3;rw[if_pos c3]at f;split
     ·rename_i c4;rw[if_pos c4]at f;exact kJ (.inl ⟨by decide,rfl⟩) g f
     ·rename_i c4;rw[if_neg c4]at f;exact kJ (.inl trivial) g f
    ·exact i _
 | reads h=>
  rw[cN rfl]at f ⊢;split
  ·rename_i c1;rw[if_pos c1]at f;exact kJ (.inl trivial) g f
  ·rename_i c1;rw[if_neg c1]at f;split
   ·rename_i c2;rw[if_pos c2]at f;exact kJ (.inl ⟨by decide,rfl⟩) g f
   ·exact i _
 | rests l=>
  rw[iH rfl]at f ⊢;split
  ·exact i _
  ·rename_i c1;rw[if_neg c1]at f;refine kJ (.inl ?_) g f;split <;> trivial
 | tlS c z=>
  obtain⟨q,rfl⟩:=o;rw[kY rfl]at f ⊢;rcases a0A (vt:=B.vt) (s:=true) (b:=b) q with e | ⟨e,r⟩
  ·have j:bR ({ B with tot:=0,now:= .tlS c 0 }:PS).vt true c 0 b="fault":=e;rw[j,if_neg iB.2.1,if_pos rfl];exact i _
  ·have j:bR ({ B with tot:=0,now:= .tlS c 0 }:PS).vt true c 0 b="more":=e;rw[j,if_pos rfl,r]at f ⊢;refine kJ ?_ g f;by_cases c9:c=8
   ·subst c9;exact .inr (.inl ⟨0,rfl,rfl⟩)
   ·exact .inl ⟨by lia,rfl⟩
 | tlR a d c z=>
  obtain⟨q,rfl⟩:=o;rw[lQ rfl]at f ⊢;rcases a0A (vt:=B.vt) (s:=false) (b:=b) q with e | ⟨e,r⟩
  ·have j:bR ({ B with tot:=0,now:= .tlR a d c 0 }:PS).vt false c 0 b="fault":=e;rw[j,if_neg iB.2.1,if_pos rfl];exact i _
  ·have j:bR ({ B with tot:=0,now:= .tlR a d c 0 }:PS).vt false c 0 b="more":=e;rw[j,if_pos rfl,r]at f ⊢;refine kJ ?_ g f;by_cases c9:c=8
   ·subst c9;exact .inr (.inr ⟨a,d,0,rfl,rfl⟩)
   ·exact .inl ⟨by lia,rfl⟩
 |flag l m=>exact o.elim
 |settles m=>exact o.elim
 |off=>exact o.elim
def cC {s:List PS}(h:∀i S,s[i]? =some S->At8 (B i) S){m:Bool}(b:s[j]? =some S)(e:(aZ S (hrd wp (cT s) j)).2={ B j with tot:=if m=true then 1 else 8,now:= .flag 6 m }):R1 B 6 (bM wp s):=by
 have a:∀i,hrd wp (cT s) i=0\/hrd wp (cT s) i=1:=λi=>by
  unfold hrd cT;lia
 refine⟨⟨j,6,m,Yb 6,Yb 6,by rw[gC b,e]⟩,λi g c=>?_⟩;obtain⟨d,f,rfl⟩:=dZ c;exact b5J (h i d f) (a i)
def a3D (a:FrN (n1,ds1))(h:n<n1):∃k,Part (wr n1 ds1) (wr n ds) k:=by
 obtain⟨s,b,c,d,e⟩:=a4H 8 n1 n a.1 h;exact b4F b c d e
def a0B {a b:List Int}(h:a.take j=b.take j)(c:k<j):a.getD k 0=b.getD k 0:=by
 have:(a.take j).getD k 0=(b.take j).getD k 0:=by rw[h]
 grind
def take_snoc (h:j<w.length):w.take (j+1)=w.take j++[w.getD j 0]:=by rw[Yf h,getD_get h]
def nY (f:FrN (n,ds))(a:FrN (n1,ds1))(h:n<n1)(e:(wr n1 ds1).take j=(wr n ds).take j)(b:j<(wr n ds).length):
  j<=16/\j<(wr n1 ds1).length/\(((wr n1 ds1).getD j 0=(wr n ds).getD j 0/\(wr n1 ds1).take (j+1)=(wr n ds).take (j+1)/\j+1<(wr n1 ds1).length)\/((wr n1 ds1).getD j 0=1/\(wr n ds).getD j 0=0/\(kp ((wr n1 ds1).take j)).length<9)):=by
 obtain⟨k,p⟩:=a3D (ds:=ds) a h;have jk:j<=k:=by
  by_cases c:k<j
  ·have:=a0B e c;rw[p.one,p.zero]at this;cases this
  ·lia
 have d:=p.k16;have i:=p.h1;have l1:=(jR a).1;refine⟨by lia,by lia,?_⟩;by_cases c:j=k
 ·subst c;exact .inr ⟨p.one,p.zero,p.nine⟩
 ·left;have g:=a0B p.tk (show j<k by lia);refine⟨g,?_,by lia⟩;rw[take_snoc (show j<(wr n1 ds1).length by lia),take_snoc b,e,g]
def b4G (a:FrN (n,ds))(b:j<(wr n ds).length):ans ((wr n ds).take j)="more":=(lK a).more b
def a8W (a:FrN (n,ds))(b:j<(wr n ds).length):ans ((wr n ds).take (j+1))=if j+1=(wr n ds).length then ("whole":Str) else ("more":Str):=by
 split
 ·rename_i e;rw[e,Yg (Yb _)];exact(lK a).whole
 ·exact b4G a (by lia)
def jA:("whole":Str)≠"six"/\("more":Str)≠"six"/\("more":Str)≠"whole"/\("six":Str)≠"more"/\("six":Str)≠"whole":=by decide +kernel
def a4D (a:FrN (n,ds))(b:j<(wr n ds).length):ans ((wr n ds).take (j+1))≠"six":=by
 rw[a8W a b];split
 ·exact jA.1
 ·exact jA.2.1
def qJ (e:S.now= .speaks n ds j)(b:FrN (n,ds))(a:j<(wr n ds).length):(aZ S ((wr n ds).getD j 0)).2={ S with now:=if j+1=(wr n ds).length then .tlS 0 0 else .speaks n ds (j+1) }:=by
 rw[bL e,<-take_snoc a,if_neg (a4D b a),if_neg (λz=>by lia),if_pos rfl];split <;> rfl
def c0N (e:S.now= .reads ((wr n ds).take j))(a:FrN (n,ds))(d:j<(wr n ds).length):(aZ S ((wr n ds).getD j 0)).2={ S with now:=if j+1=(wr n ds).length then .tlR n ds 0 0 else .reads ((wr n ds).take (j+1)) }:=by
 rw[cN e,<-take_snoc d,a8W a d];by_cases c:j+1=(wr n ds).length
 ·have b:kp (wr n ds)=fb (n:Int) ds:=(lK a).kp;rw[if_pos c,if_pos c,if_neg jA.2.2.1.symm,if_pos rfl,c,Yg (Yb _),b,b6X a.1,b6Y a.1 a.2.1 a.2.2]
 ·rw[if_neg c,if_neg c,if_pos rfl]
def Nw (B:PS)(T:Int)(n:Nat)(ds:List Int)(j:Nat)(S:PS):Prop:=∃t:Int,0<=t/\t<=T/\(S={ B with tot:=t,now:= .reads ((wr n ds).take j) }\/∃(n1:Nat)(ds1:List Int),FrN (n1,ds1)/\n<n1/\(wr n1 ds1).take j=(wr n ds).take j/\B.wt.head? =some (n1,ds1)/\S={ B with tot:=t,now:= .speaks n1 ds1 j })
def Nw.says {B:PS}(b:FrN (n,ds))(d:j<(wr n ds).length)(h:Nw B T n ds j S):bO S=0->(wr n ds).getD j 0=0:=by
 obtain⟨t,_,_,rfl | ⟨f,a,g,lt,e,hd,rfl⟩⟩:=h
 ·intro z;cases z
 ·intro z;obtain⟨_,_,c | c⟩:=nY b g lt e d
  ·rw[<-c.1];exact z
  ·exact c.2.1
def Nw.step {B:PS}(b:FrN (n,ds))(d:j<(wr n ds).length)(h:Nw B T n ds j S):(j+1<(wr n ds).length->Nw B T n ds (j+1) (aZ S ((wr n ds).getD j 0)).2)/\(j+1=(wr n ds).length->∃t:Int,0<=t/\t<=T/\(aZ S ((wr n ds).getD j 0)).2={ B with tot:=t,now:= .tlR n ds 0 0 }):=by
 have l:=(jR b).1;obtain⟨t,f,g,rfl | ⟨k,a,i,lt,e,hd,rfl⟩⟩:=h
 ·rw[c0N rfl b d];exact⟨λc=>⟨t,f,g,.inl (by rw[if_neg (by lia)])⟩,λc=>⟨t,f,g,by rw[if_pos c]⟩⟩
 ·obtain⟨m,o,c | c⟩:=nY b i lt e d
  ·rw[<-c.1,qJ rfl i o,if_neg (by lia)];exact⟨λ_=>⟨t,f,g,.inr ⟨k,a,i,lt,c.2.1,hd,rfl⟩⟩,λz=>by lia⟩
  ·refine⟨λ_=>⟨t,f,g,.inl ?_⟩,λz=>by lia⟩;have p:(wr k a).take j++[(0:Int)]=(wr n ds).take (j+1):=by rw[take_snoc d,e,c.2.1]
   rw[c.2.1,bL rfl];dsimp only;rw[p,if_neg (a4D b d),if_pos ⟨c.1,rfl,c.2.2⟩]
structure WPh (B:Nat->PS)(T:Int)(q n:Nat)(ds:List Int)(x:Nat->Prop)(j:Nat)(s:List PS):Prop where
 hf:FrN (n,ds)
 j1:1<=j
 jl:j<(wr n ds).length
 xq:¬ x q
 sp:∃t:Int,0<=t/\t<=T/\s[q]? =some { B q with tot:=t,now:= .speaks n ds j }
 al:∀i S,s[i]? =some S->¬ x i->i≠q->Nw (B i) T n ds j S
def WPh.bit {s:List PS}(h:WPh B T q n ds x j s)(f:∀(i:Nat)(S:PS),x i->s[i]? =some S->(wr n ds).getD j 0=1->bO S≠0):cT s=(wr n ds).getD j 0:=by
 obtain⟨t,_,_,e⟩:=h.sp;have b:(wr n ds).getD j 0=0\/(wr n ds).getD j 0=1:=by rw[getD_get h.jl];exact(lK h.hf).wbits _ (YC h.jl)
 rcases b with z | z
 ·rw[z];exact gK e z
 ·rw [z];refine jX λi S a c=>?_;by_cases cx:x i
  ·exact f i S cx a z c
  ·by_cases cq:i=q
   ·subst cq;rw[e]at a;cases a;have d:(wr n ds).getD j 0=0:=c;rw[z]at d;cases d
   ·have:=(h.al i S a cx cq).says h.hf h.jl c;rw[z]at this;cases this
structure TPh (B:Nat->PS)(T:Int)(Z q n:Nat)(ds:List Int)(x:Nat->Prop)(c:Nat)(s:List PS):Prop where
 hf:FrN (n,ds)
 xq:¬ x q
 sp:∃(t:Int)(z:Nat),0<=t/\t<=T/\z<=Z/\(c<=9->z=0)/\s[q]? =some { B q with tot:=t,now:= .tlS c z }
 al:∀i S,s[i]? =some S->¬ x i->i≠q->∃(t:Int)(z:Nat),0<=t/\t<=T/\z<=Z/\(c<=9->z=0)/\S={ B i with tot:=t,now:= .tlR n ds c z }
def WPh.step {s:List PS}(h:WPh B T q n ds x j s)(f:∀i,¬ x i->hrd wp (cT s) i=(wr n ds).getD j 0):(j+1<(wr n ds).length->WPh B T q n ds x (j+1) (bM wp s))/\(j+1=(wr n ds).length->TPh B T Z q n ds x 0 (bM wp s)):=by
 obtain⟨t,o,p,e⟩:=h.sp;have g:=gC (wp:=wp) e;rw[f q h.xq,qJ rfl h.hf h.jl]at g;refine⟨λc=>⟨h.hf,by lia,c,h.xq,⟨t,o,p,by rw[g,if_neg (by lia)]⟩,λi r k cx l=>?_⟩,λc=>⟨h.hf,h.xq,⟨t,0,o,p,YW _,λ_=>rfl,by rw[g,if_pos c]⟩,λi r k cx l=>?_⟩⟩
 ·obtain⟨S,m,rfl⟩:=dZ k;rw[f i cx];exact((h.al i S m cx l).step h.hf h.jl).1 c
 ·obtain⟨S,m,rfl⟩:=dZ k;rw[f i cx];obtain⟨u,a,b,d⟩:=((h.al i S m cx l).step h.hf h.jl).2 c;exact⟨u,0,a,b,YW _,λ_=>rfl,d⟩
def tbt (c:Nat):Int:=if c=1 then 0 else 1
def wY {s:Bool}(h:z<=Z)(i:Z<=vt / 2)(d:(9<=c/\tlN c b z<=Z)\/(c<=8/\(b=tbt c\/(c=1/\s=false))))(j:c<9+vt)(k:1<=vt):
  (c<8+vt->bR vt s c z b="more")/\(c=8+vt->bR vt s c z b="taken"):=by
 unfold bR;rcases d with ⟨f,l⟩ | ⟨m,d⟩
 ·unfold oO;lia
 ·have g:dM s c b≠true:=by
   unfold dM;rcases d with e | ⟨a,e⟩
   ·rw[e];unfold tbt;lia
   lia
  lia
def nQ:("taken":Str)≠"more"/\("taken":Str)≠"fault"/\("taken":Str)≠"refused":=by decide +kernel
def a1K {t:Int}(a:0<=t)(b:t<=T)(c:T<=9):0<=mvd t (-1)/\mvd t (-1)<=T:=by
 unfold mvd;lia
noncomputable def nxB (B:Nat->PS)(q:Nat)(f:Fr)(i:Nat):PS:=if i=q then { B i with wt:=(B i).wt.tail } else { B i with up:=if gW (B i) f.1=true then (B i).up++[f] else (B i).up }
def RPh (B:Nat->PS)(T:Int)(l:Nat)(s:List PS):Prop:=∀i S,s[i]? =some S->∃t:Int,0<=t/\t<=T/\S={ B i with tot:=t,now:= .rests l }
def FPh (B:Nat->PS)(T:Int)(s:List PS):Prop:=∀i S,s[i]? =some S->∃(t:Int)(k:Nat),0<=t/\t<=T/\S={ B i with tot:=t,now:= .free k }
def zV (e:S.now= .tlS c z):(bR S.vt true c z b="more"->(aZ S b).2={ S with now:= .tlS (c+1) (tlN c b z) })/\(bR S.vt true c z b="taken"->(aZ S b).2={ S with tot:=mvd S.tot (-1),wt:=S.wt.tail,now:= .rests 3 }):=by
 rw[kY e];exact⟨λh=>by rw[h,if_pos rfl],λh=>by rw[h,if_neg nQ.1,if_neg nQ.2.1,if_neg nQ.2.2]⟩
def zW (e:S.now= .tlR n ds c z):(bR S.vt false c z b="more"->(aZ S b).2={ S with now:= .tlR n ds (c+1) (tlN c b z) })/\(bR S.vt false c z b="taken"->(aZ S b).2={ S with tot:=mvd S.tot (-1),up:=if gW S n=true then S.up++[(n,ds)] else S.up,now:= .rests 3 }):=by
 rw[lQ e];exact⟨λh=>by rw[h,if_pos rfl],λh=>by rw[h,if_neg nQ.1,if_neg nQ.2.1,if_neg nQ.2.2]⟩
def wZ (h:c<=8):tlN c b z=z:=if_neg λx=>by lia
def TOk (Z q:Nat)(c:Nat)(i:Nat)(b:Int)(z:Nat):Prop:=(9<=c/\tlN c b z<=Z)\/(c<=8/\(b=tbt c\/(c=1/\i≠q)))
def TPh.step {Z':Nat}{s:List PS}(h:TPh B T Z q n ds x c s)(K:T<=9)(k:∀i,(B i).vt=v)(r:Z<=Z')(u:Z'<=v / 2)(A:1<=v)(C:c<9+v)(l:∀i S z,s[i]? =some S->¬ x i->(c<=9->z=0)->z<=Z->TOk Z' q c i (hrd wp (cT s) i) z):
  (c<8+v->TPh B T Z' q n ds x (c+1) (bM wp s))/\(c=8+v->(∀i,¬ x i)->RPh (nxB B q (n,ds)) T 3 (bM wp s)):=by
 obtain⟨t,z,L,M,m,D,e⟩:=h.sp;have U:=gC (wp:=wp) e;have N:=wY (vt:=v) (s:=true) (YK m r) u ((l q _ z e h.xq D m).imp id λ⟨a,b⟩=>⟨a,b.imp id λy=>absurd rfl y.2⟩) C A;have O:∀{b:Int}{z:Nat},(c<=9->z=0)->c+1<=9->tlN c b z=0:=λ{b z} P o=>by rw[wZ (by lia)];exact P (by lia)
 have Q:∀{i:Nat}{z:Nat}{b:Int},z<=Z->TOk Z' q c i b z->tlN c b z<=Z':=λ{i z b} P V=>by
  rcases V with a | a
  ·exact a.2
  ·rw[wZ a.1];lia
 refine⟨λg=>⟨h.hf,h.xq,⟨t,_,L,M,Q m (l q _ z e h.xq D m),λo=>O D o,by rw[U,(zV (b:=hrd wp (cT s) q) rfl).1 (by show bR (B q).vt _ _ _ _=_;rw[k];exact N.1 g)]⟩,λi W E cx j=>?_⟩,λg X i W E=>?_⟩
 ·obtain⟨S,d,rfl⟩:=dZ E;obtain⟨R,F,G,H,f,p,rfl⟩:=h.al i S d cx j;have ok:=l i _ F d cx p f;have w:=wY (vt:=v) (s:=false) (YK f r) u (ok.imp id λ⟨a,b⟩=>⟨a,b.imp id λy=>⟨y.1,rfl⟩⟩) C A;exact⟨R,_,G,H,Q f ok,λo=>O p o,(zW (b:=hrd wp (cT s) i) rfl).1 (by show bR (B i).vt _ _ _ _=_;rw[k];exact w.1 g)⟩
 ·obtain⟨S,d,rfl⟩:=dZ E;unfold nxB;by_cases j:i=q
  ·subst j;rw[e]at d;cases d;obtain⟨I,J⟩:=a1K L M K;rw[if_pos rfl];exact⟨_,I,J,(zV (b:=hrd wp (cT s) i) rfl).2 (by show bR (B i).vt _ _ _ _=_;rw[k];exact N.2 g)⟩
  ·have cx:=X i;obtain⟨R,F,G,H,f,p,rfl⟩:=h.al i S d cx j;have ok:=l i _ F d cx p f;have w:=wY (vt:=v) (s:=false) (YK f r) u (ok.imp id λ⟨a,b⟩=>⟨a,b.imp id λy=>⟨y.1,rfl⟩⟩) C A;obtain⟨I,J⟩:=a1K G H K;rw[if_neg j];exact⟨_,I,J,(zW (b:=hrd wp (cT s) i) rfl).2 (by show bR (B i).vt _ _ _ _=_;rw[k];exact w.2 g)⟩
def RPh.step {l:Nat}{s:List PS}(h:RPh B T l s):(2<=l->RPh B T (l-1) (bM none s))/\(l=1->FPh B T (bM none s)):=by
 have f:=jX λi S e=>by
  obtain⟨t,_,_,rfl⟩:=h i S e;exact λz=>absurd (show (1:Int)=0 from z) (by decide)
 have d:∀i,hrd none (cT s) i=1:=λi=>by unfold hrd;lia
 refine⟨λk i g e=>?_,λj i g e=>?_⟩
 ·obtain⟨S,a,rfl⟩:=dZ e;obtain⟨t,b,c,rfl⟩:=h i S a;exact⟨t,b,c,by rw[d,iH rfl,if_neg (by decide),if_neg (by lia)]⟩
 ·obtain⟨S,a,rfl⟩:=dZ e;obtain⟨t,b,c,rfl⟩:=h i S a;exact⟨t,0,b,c,by rw[d,iH rfl,if_neg (by decide),if_pos j]⟩
def jE {B:PS}{t:Int}{k:Nat}(h:t<12):bO { B with tot:=t,now:= .free k }=if B.wt= [] then 1 else 0:=by
 show (if B.wt= [] then (1:Int) else if 12<=t/\k<8 then 1 else 0)=_;lia
def FPh.idle {s:List PS}(h:FPh B T s)(l:T<=9)(f:∀i,i<s.length->(B i).wt= []):FPh B T (bM none s):=by
 have a:∀i S,s[i]? =some S->bO S=1:=λi S e=>by
  obtain⟨t,k,b,c,rfl⟩:=h i S e;rw[jE (by lia),if_pos (f i ((λe=>(Ye.mp e).1) e))]
 have g:=jX λi S e=>by rw[a i S e];decide
 intro i m e;obtain⟨S,d,rfl⟩:=dZ e;have j:=a i S d;obtain⟨t,k,b,c,rfl⟩:=h i S d;refine⟨t,k+1,b,c,?_⟩;unfold hrd;rw[if_neg (by simp),g,dR rfl,if_neg (by rw[j];decide),if_neg (by decide)]
structure Win (m:Nat)(B:Nat->PS)(q:Nat)(f:Fr):Prop where
 hq:q<m
 eq:(B q).wt.head? =some f
 ok:∀i,i<m->∀g∈(B i).wt,FrN g
 le:∀j g,j<m->j≠q->(B j).wt.head? =some g->f.1<g.1
def FPh.begin {s:List PS}{f:Fr}(h:FPh B T s)(T9:T<=9)(W:Win s.length B q f)(xq:¬ x q)(hx:∀i,¬ x i->wp≠some i):cT s=0/\WPh B T q f.1 f.2 x 1 (bM wp s):=by
 have lt:∀{i:Nat}{S:PS},s[i]? =some S->i<s.length:=λe=>(Ye.mp e).1;have fo:FrN f:=W.ok q W.hq f (XW W.eq);have hd:∀{i:Nat}{g:Fr},(B i).wt.head? =some g->(B i).wt≠ []/\(B i).wt.headD (0, [])=g:=λ{i g} e=>by
  grind
 obtain⟨S0,d⟩:∃S,s[q]? =some S:=⟨_,Yd W.hq⟩
 obtain⟨j,p,u,v,rfl⟩:=h q S0 d;have sq:bO { B q with tot:=j,now:= .free p }=0:=by rw[jE (by lia),if_neg (hd W.eq).1]
 have m:cT s=0:=gK d sq;have o:∀i,¬ x i->hrd wp (cT s) i=0:=λi z=>by unfold hrd;rw[if_neg (hx i z),m]
 have F:=(jR (n:=f.1) fo).1;refine⟨m,fo,by decide,by lia,xq,⟨j,u,v,?_⟩,λi G e cx w=>?_⟩
 ·rw[gC d,o q xq,dR rfl,if_pos sq,if_pos rfl];rw[(hd W.eq).2]
 ·obtain⟨S,l,rfl⟩:=dZ e;obtain⟨t,k,y,A,rfl⟩:=h i S l;have b:=jE (B:=B i) (t:=t) (k:=k) (by lia);refine⟨t,y,A,?_⟩;rw[o i cx,dR rfl];cases c:(B i).wt.head? with
  | none=>
   rw[if_pos (List.head?_eq_none_iff.mp c)]at b;left;rw[if_neg (by rw[b];decide),if_pos rfl,qC]
  | some g=>
   obtain⟨D,E⟩:=hd c;right;refine⟨g.1,g.2,W.ok i (lt l) g (XW c),W.le i g (lt l) w c,by rw[qC,qC],rfl,?_⟩;lia
def Fl (X h:List Int):Prop:=∃a,1<=a/\a<X.length/\h=X.set a (1-X.getD a 0)
def Rel (X h:List Int):Prop:=Fl X h\/∃e,X=(0::List.replicate e 1)++h/\h.head? =some 0
def Fl.snoc (r:Fl X h):Fl (X++[b]) (h++[b]):=by
 obtain⟨a,c,al,rfl⟩:=r;refine⟨a,c,by rw[Yc];exact Nat.lt_add_right _ al,?_⟩;grind
def Fl.symm (r:Fl X h):Fl h X:=by
 obtain⟨a,b,al,rfl⟩:=r;refine⟨a,b,by rw[Xi];exact al,?_⟩;have c:(X.set a (1-X.getD a 0)).getD a 0=1-X.getD a 0:=by
  rw[Yj,Y8,if_pos rfl,if_pos al];rfl
 rw[c,List.set_set,show 1-(1-X.getD a 0)=X.getD a 0 by lia,getD_get al,List.set_getElem_self]
def Rel.snoc (r:Rel X h):Rel (X++[b]) (h++[b]):=by
 rcases r with r | ⟨e,rfl,a⟩
 ·exact .inl r.snoc
 ·right;refine⟨e,by rw[Yo],?_⟩;grind
def Fl.len (r:Fl X h):h.length=X.length:=by
 obtain⟨a,b,al,rfl⟩:=r;exact Xi
def Rel.len (r:Rel X h):h.length<=X.length:=by
 rcases r with r | ⟨e,rfl,a⟩
 ·exact Nat.le_of_eq r.len
 grind
def Rel.hard (d:FrN (n,ds))(r:Rel (wr n ds) (h++[b]))(g:Good h):ans (h++[b])≠"whole":=by
 intro z;have l:=a2I g z;obtain⟨c,m⟩:=jZ z;have f:c2Z (h++[b]):=by
  rcases r with ⟨a,t,al,e⟩ | ⟨e,i,o⟩
  ·rw[e,getD_get al];exact a1I d.1 d.2.1 al
  ·have p:Good (wr n ds):=lM (fb (n:Int) ds);have q:e+1<=(wr n ds).length:=by rw[i,Yc,Yk,YA];lia
   have j:(wr n ds).take (e+1)=0::List.replicate e 1:=by
    rw[i,Y0 (by rw[Yk,YA];exact Yb _)];exact Yg (by rw[Yk,YA];exact Yb _)
   have ed:(wr n ds).drop (e+1)=h++[b]:=by
    rw[i];exact List.drop_left' (by rw[Yk,YA])
   have lt:e+1<(wr n ds).length:=by
    have:((wr n ds).drop (e+1)).length≠0:=by rw[ed,Yc];exact Nat.succ_ne_zero _
    rw[Xl]at this;lia
   have s:(wr n ds)[e+1]=0:=by
    have k:(h++[b]).head? =some ((wr n ds)[e+1]):=by rw[<-ed,Xq lt];rfl
    rw[o]at k;exact(Yu k).symm
   rw[<-ed];exact a1J d.1 d.2.1 (vP p j q) j lt s
 exact f l c m
def Pat (X:List Int)(c:Nat):Prop:=match c with
 |0=>True
 |1=>∃Y,X=Y++[1]
 |e+2=>∃Y,X=Y++(1::0::List.replicate e 1)
def Pat.one (h:Pat X c)(c1:c≠1):Pat (X++[1]) (c+1):=by
 match c,h,c1 with
 |0,_,_=>exact⟨X,rfl⟩
 |1,_,z=>exact absurd rfl z
 | e+2,⟨Y,hY⟩,_=>
  refine⟨Y,?_⟩;rw[hY,Yo,Xa];rfl
def Pat.zero (h:Pat X 1):Pat (X++[0]) 2:=by
 obtain⟨Y,a⟩:=h;refine⟨Y,?_⟩;rw[a,Yo];rfl
theorem pJ (Y:List Int):∀e,(Wm.sk (Y++(1::0::List.replicate (e+1) 1))).1=some 1/\Wm.run (Y++(1::0::List.replicate (e+1) 1))=e+1
 | 0 =>by
  have e1:Y++(1::0::List.replicate 1 1)=(Y++[1,0])++[(1:Int)]:=by rw[Yo];rfl
  have e2:(Wm.sk (Y++[1,0])).1=some 0:=by
   rw[show Y++[(1:Int),0]=(Y++[1])++[0] by rw[Yo];rfl];exact Wm.last_snoc _ _
  rw[e1];refine⟨Wm.last_snoc _ _,?_⟩;rw[Wm.run_snoc,if_neg (by rw[e2];decide)]
 | e+1=>by
  obtain⟨a,b⟩:=pJ Y e;have e1:Y++(1::0::List.replicate (e+1+1) 1)=(Y++(1::0::List.replicate (e+1) 1))++[(1:Int)]:=by rw[Xa (n:=e+1),Yo];rfl
  rw[e1];refine⟨Wm.last_snoc _ _,?_⟩;rw[Wm.run_snoc,if_pos a,b]
def Pat.le (h:Pat X c)(g:Wm.run X<=5):c<=7:=by
 match c,h with
 |0,_=>decide
 |1,_=>decide
 |2,_=>decide
 | e+3,⟨Y,hY⟩=>
  rw[hY,(pJ Y e).2]at g;lia
def DpW (w0 one:Prop)(X:List Int):Stc->Prop
 |.free _=>w0/\∃e,X=0::List.replicate e 1
 |.reads h=>Rel X h
 |.speaks n ds k=>one/\FrN (n,ds)/\k=X.length/\k<(wr n ds).length/\Fl X ((wr n ds).take k)
 |.tlR _ _ c z=>z=0/\c<=7/\Pat X c/\27+c<=X.length
 |.tlS c z=>z=0/\c<=7/\Pat X c/\27+c<=X.length
 |_=>False
noncomputable def hdT (c:Nat):List Int:=[1,0,1,1,1,1,1,1,1].take c
def tlD (w:List Int)(c a:Nat):Prop:=(a=0/\1<=c/\c<=7)\/(a=1/\3<=c/\c<=8)\/(c=0/\1<=a/\a<=7/\Pat w a)\/(c=1/\3<=a/\a<=8)
def DpT (w:List Int)(c:Nat):Stc->Prop
 |.reads h=>c<=7/\∃h0,Rel w h0/\h=h0++hdT c
 |.speaks n ds k=>c<=7/\FrN (n,ds)/\k=w.length+c/\k<(wr n ds).length/\∃h0,Rel w h0/\(wr n ds).take k=h0++hdT c
 |.tlR _ _ c' z=>z=0/\tlD w c c'
 |.tlS c' z=>z=0/\tlD w c c'
 |_=>False
def b3G {w0 one:Prop}{st:Stc}(dp:DpW w0 one X st):Sh8 st:=by
 cases st with
 |free k=>trivial
 |reads a=>trivial
 |speaks a b c=>trivial
 |tlR a b c z=>exact⟨by have:=dp.2.1;lia,dp.1⟩
 |tlS c z=>exact⟨by have:=dp.2.1;lia,dp.1⟩
 |flag l m=>exact dp.elim
 |settles m=>exact dp.elim
 |rests l=>exact dp.elim
 |off=>exact dp.elim
def b3H {st:Stc}(dp:DpT w c st):Sh8 st:=by
 cases st with
 |reads a=>trivial
 |speaks a b c=>trivial
 |tlR a b c' z=>exact⟨by have:=dp.2;unfold tlD at this;lia,dp.1⟩
 |tlS c' z=>exact⟨by have:=dp.2;unfold tlD at this;lia,dp.1⟩
 |free k=>exact dp.elim
 |flag l m=>exact dp.elim
 |settles m=>exact dp.elim
 |rests l=>exact dp.elim
 |off=>exact dp.elim
def Xs (B:Nat->PS)(x:Nat->Prop)(st:Stc)(s:List PS):Prop:=∀(i:Nat)(S:PS),x i->s[i]? =some S->S={ B i with tot:=0,now:=st }
def b4A {s:List PS}{st:Stc}(h:WPh B 0 q n ds x j s)(wf:∀(i:Nat)(S:PS),s[i]? =some S->Wf S)(a:∀i,1<=(B i).vt)(ex:Xs B x st s)(b:Sh8 st):∀(i:Nat)(S:PS),s[i]? =some S->At8 (B i) S:=λi S e=>by
 refine⟨?_,wf i S e,a i⟩;by_cases cp:x i
 ·exact⟨st,ex i S cp e,b⟩
 ·by_cases cq:i=q
  ·subst cq;obtain⟨t,c,d,f⟩:=h.sp;rw[f]at e;cases e;have:t=0:=by lia
   subst this;exact⟨_,rfl,trivial⟩
  ·obtain⟨t,c,d,rfl | ⟨k,g,_,_,_,_,rfl⟩⟩:=h.al i S e cp cq
   ·have:t=0:=by lia
    subst this;exact⟨_,rfl,trivial⟩
   ·have:t=0:=by lia
    subst this;exact⟨_,rfl,trivial⟩
def cV (a:S.tot=0)(sp:Bool):(cD S sp).2={ S with tot:=if (!sp)=true then 1 else 8,now:= .flag 6 (!sp) }:=by
 unfold cD;rw[sJ (by lia) (by lia) (by cases sp <;> decide) (by cases sp <;> decide)];grind
def a3A {B:PS}:(ans (h++[b])="more"/\(aZ { B with tot:=0,now:= .reads h } b).2={ B with tot:=0,now:= .reads (h++[b]) })\/(ans (h++[b])="whole"/\(aZ { B with tot:=0,now:= .reads h } b).2={ B with tot:=0,now:= .tlR (nmB (kp (h++[b]))) (daB (kp (h++[b]))) 0 0 })\/(aZ { B with tot:=0,now:= .reads h } b).2={ B with tot:=if true=true then 1 else 8,now:= .flag 6 true }:=by
 rw[cN rfl];by_cases c:ans (h++[b])="more"
 ·lia
 ·rw [if_neg c];by_cases d:ans (h++[b])="whole"
  ·lia
  ·rw[if_neg d];exact .inr (.inr (cV rfl false))
def qF {B:PS}{a c:Nat}{d:List Int}(g:c<=8)(h:b=0\/b=1):((c=1\/b=1)/\(aZ { B with tot:=0,now:= .tlR a d c 0 } b).2={ B with tot:=0,now:= .tlR a d (c+1) 0 })\/(c≠1/\b=0/\(aZ { B with tot:=0,now:= .tlR a d c 0 } b).2={ B with tot:=if true=true then 1 else 8,now:= .flag 6 true }):=by
 rw[lQ rfl];have e:bR ({ B with tot:=0,now:= .tlR a d c 0 }:PS).vt false c 0 b=if dM false c b=true then ("fault":Str) else ("more":Str):=if_neg (by lia)
 rw[e];by_cases f:c≠1/\b=0
 ·have:dM false c b=true:=by unfold dM;lia
  rw[if_pos this,if_pos rfl];exact .inr ⟨f.1,f.2,cV rfl false⟩
 ·have :¬ dM false c b=true:=by
   unfold dM;lia
  rw[if_pos rfl,wZ g];lia
def wX {B:PS}(g:c<=8)(a:b=0\/b=1):(b=tbt c/\(aZ { B with tot:=0,now:= .tlS c 0 } b).2={ B with tot:=0,now:= .tlS (c+1) 0 })\/(b≠tbt c/\(aZ { B with tot:=0,now:= .tlS c 0 } b).2={ B with tot:=if false=true then 1 else 8,now:= .flag 6 false }):=by
 rw[kY rfl];have e:bR ({ B with tot:=0,now:= .tlS c 0 }:PS).vt true c 0 b=if dM true c b=true then ("fault":Str) else ("more":Str):=if_neg (by lia)
 rw[e];have f:dM true c b=true↔b≠tbt c:=by
  unfold dM tbt;lia
 by_cases d:b=tbt c
 ·rw[if_neg (λz=>f.mp z d),wZ g];exact .inl ⟨d,rfl⟩
 ·rw[if_pos (f.mpr d),if_pos rfl];exact .inr ⟨d,cV rfl true⟩
def cQ:hrd none b i=b:=if_neg (by simp)
def pG (j:Nat)(a:j<=(wr n ds).length):Wm.run ((wr n ds).take j)<=5:=lM (fb (n:Int) ds) j a
def wV (b:FrN (n,ds))(a:j<(wr n ds).length):(wr n ds).getD j 0=0\/(wr n ds).getD j 0=1:=by rw[getD_get a];exact(lK b).wbits _ (YC a)
def a4U {B:PS}(b:FrN (n,ds))(m:j<(wr n ds).length)(c:18<=j)(d:(wr n ds).getD j 0=1):(aZ { B with tot:=0,now:= .speaks n ds j } 0).2={ B with tot:=if false=true then 1 else 8,now:= .flag 6 false }:=by
 have a:¬ (kp ((wr n ds).take j)).length<9:=λz=>by
  have h:Good ((wr n ds).take j):=λk i=>by
   rw[Yi]at i;rw[List.take_take,Xp (by lia)];exact pG k (by lia)
  have e:=xT (λx g=>(lK b).wbits x (YY g)) h;have l:=(nW (kp ((wr n ds).take j))).2;have lt:((wr n ds).take j).length=j:=by rw[Yi];lia
  rw[e]at l;split at l
  ·rw[Yc,lt]at l;lia
  ·lia
 rw[bL rfl];split
 ·exact cV rfl true
 ·rw[if_neg λz=>a z.2.2,if_neg (by rw[d];decide)];exact cV rfl true
structure DW (B:Nat->PS)(j:Nat)(s:List PS):Prop where
 ex:∃(q n:Nat)(ds:List Int)(x:Nat->Prop)(st:Stc),WPh B 0 q n ds x j s/\Xs B x st s/\(∃p,x p/\p<s.length)/\DpW (∀i,x i->(B i).wt= []) (∀i i',x i->x i'->i=i') ((wr n ds).take j) st
structure DT (B:Nat->PS)(c:Nat)(s:List PS):Prop where
 ex:∃(q n:Nat)(ds:List Int)(x:Nat->Prop)(st:Stc),TPh B 0 0 q n ds x c s/\Xs B x st s/\(∃p,x p/\p<s.length)/\DpT (wr n ds) c st
def b2J (a:FrN (n,ds))(g:j<=(wr n ds).length):j<=2*(kp ((wr n ds).take j)).length:=by
 have d:Good ((wr n ds).take j):=λk f=>by
  rw[Yi]at f;rw[List.take_take,Xp (by lia)];exact pG k (by lia)
 have l:=(nW (kp ((wr n ds).take j))).2;have lt:((wr n ds).take j).length=j:=by rw[Yi];lia
 rw[xT (λx c=>(lK a).wbits x (YY c)) d]at l;split at l
 ·rw[Yc]at l;lia
 ·lia
def eV (h:j=w.length):w.take j=w:=by rw[h];exact Yg (Yb _)
def DW.step {B: Nat->PS}{s:List PS}(hD:DW B j s)(wf:∀(i:Nat)(S:PS),s[i]? =some S->Wf S)(v1:∀i,1<=(B i).vt):R1 B 6 (bM none s)\/DW B (j+1) (bM none s)\/DT B 0 (bM none s):=by
 obtain⟨q,n,ds,x,Q,h,ex,⟨p,X,pl⟩,G⟩:=hD.ex;have Y:=b4A h wf v1 ex (b3G G);have M:=h.hf;have hl:=(jR M).1;have v:=wV M h.jl;have H:=take_snoc h.jl;have lt:((wr n ds).take j).length=j:=by rw[Yi];have:=h.jl;lia
 have g1:=pG (n:=n) (ds:=ds) (j+1) h.jl;have R:s[p]? =some { B p with tot:=0,now:=Q }:=by
  have e:=Yd pl;rw[e,ex p _ X e]
 have T:∃p,x p/\p<(bM none s).length:=⟨p,X,by rw[iK];exact pl⟩
 have L:∀{o:Stc}{b:Int},cT s=b->(∀i,x i->(aZ { B i with tot:=0,now:=Q } b).2={ B i with tot:=0,now:=o })->Xs B x o (bM none s):=λ{o b} f eh i S' g e=>by
  obtain⟨S,U,rfl⟩:=dZ e;rw[cQ,f,ex i S g U];exact eh i g
 have go:∀o,cT s=(wr n ds).getD j 0->(∀i,x i->(aZ { B i with tot:=0,now:=Q } ((wr n ds).getD j 0)).2={ B i with tot:=0,now:=o })->DpW (∀i,x i->(B i).wt= []) (∀i i',x i->x i'->i=i') ((wr n ds).take (j+1)) o->(j+1=(wr n ds).length->DpT (wr n ds) 0 o)->R1 B 6 (bM none s)\/DW B (j+1) (bM none s)\/DT B 0 (bM none s):=λo f eh d1 d2=>by
  have S:=h.step (Z:=0) (wp:=none) λi _=>by rw[cQ,f]
  by_cases c:j+1=(wr n ds).length
  ·exact .inr (.inr ⟨q,n,ds,x,o,S.2 c,L f eh,T,d2 c⟩)
  ·have:j+1<(wr n ds).length:=by have:=h.jl;lia
   exact .inr (.inl ⟨q,n,ds,x,o,S.1 this,L f eh,T,d1⟩)
 have V:(∀i,x i->(wr n ds).getD j 0=1->bO { B i with tot:=0,now:=Q }≠0)->cT s=(wr n ds).getD j 0:=λW=>h.bit λi S g e z=>by
  rw[ex i S g e];exact W i g z
 have E:∀m:Bool,(aZ { B p with tot:=0,now:=Q } (cT s)).2={ B p with tot:=if m=true then 1 else 8,now:= .flag 6 m }->R1 B 6 (bM none s):=λm e=>cC Y R (by rw[cQ];exact e);have C:s[q]? =some { B q with tot:=0,now:= .speaks n ds j }:=by
  obtain⟨t,t0,tT,eq⟩:=h.sp;have:t=0:=by lia
  subst this;exact eq
 cases Q with
 | free k=>
  obtain⟨J,e,N⟩:=G;have W:∀i,x i->bO { B i with tot:=0,now:= .free k }=1:=λi g=>by rw[jE (by decide),if_pos (J i g)]
  have f:=V λi g _=>by rw[W i g];decide
  rcases v with z | z
  ·refine go (.reads [0]) f (λi g=>by rw[z,dR rfl,if_neg (by rw[W i g];decide),if_pos rfl]) (.inr ⟨e,by rw[H,N,z],rfl⟩) λc=>?_;refine⟨by decide, [0],.inr ⟨e,?_,rfl⟩,rfl⟩;rw[<-N,<-z,<-H,eV c]
  ·refine go (.free (k+1)) f (λi g=>by rw[z,dR rfl,if_neg (by rw[W i g];decide),if_neg (by decide)]) ⟨J,e+1,by rw[H,N,z,Xa];rfl⟩ λc=>?_;exfalso
   have e5:=vP (w:=wr n ds) (k:=e+1) (lM (fb (n:Int) ds)) (by
    have:e+1=j:=by have:=lt;rw[N,Yk,YA]at this;exact this
    rw[this,H,N,z,<-this,Xa]
    rfl) (by have:=lt;rw[N,Yk,YA]at this;have:=h.jl;lia)
   have:=lt;rw[N,Yk,YA]at this;lia
 | reads hh=>
  have f:=V λi g _=>(by decide:(1:Int)≠0)
  have on:=(wf p _ R).now;have gd:Good hh:=on.2.1.good;have I:Rel ((wr n ds).take (j+1)) (hh++[(wr n ds).getD j 0]):=by rw[H];exact Rel.snoc G
  rcases a3A (B:=B p) (h:=hh) (b:=(wr n ds).getD j 0) with ⟨em,e⟩ | ⟨ew,e⟩ | e
  ·refine go (.reads (hh++[(wr n ds).getD j 0])) f (λi g=>?_) I λc=>⟨by decide,_,?_,(Yv _).symm⟩
   ·rw[cN rfl,if_pos em]
   ·rw[eV c]at I;exact I
  ·have cm:=(jZ ew).1;have a0:27<=((wr n ds).take (j+1)).length:=by
    have:=Wm.kp_len (hh++[(wr n ds).getD j 0]);have:=I.len;have:=cm.2;lia
   refine go (.tlR (nmB (kp (hh++[(wr n ds).getD j 0]))) (daB (kp (hh++[(wr n ds).getD j 0]))) 0 0) f (λi g=>by rw[cN rfl,ew,if_neg jA.2.2.1.symm,if_pos rfl]) ⟨rfl,by decide,trivial,a0⟩ λc=>?_;exfalso;rw[eV c]at I;exact I.hard M gd ew
  ·exact .inl (E true (by rw[f];exact e))
 | speaks n1 ds1 k =>
  obtain⟨one,A,ek,kl,fl⟩:=G;rw[lt]at ek;subst ek;have a1:=wV A kl;have l1:=(jR A).1;have K:=take_snoc kl;have a2:Good ((wr n1 ds1).take k):=λa ha=>by
   rw[Yi]at ha;rw[List.take_take,Xp (by lia)];exact pG a (by lia)
  have O:(wr n1 ds1).getD k 0=(wr n ds).getD k 0->Fl ((wr n ds).take (k+1)) ((wr n1 ds1).take (k+1)):=λz=>by
   rw[H,K,z];exact fl.snoc
  by_cases c:(wr n1 ds1).getD k 0=(wr n ds).getD k 0
  ·-- alike bits:both go on
   have f:=V λi g z=>by
    show (wr n1 ds1).getD k 0≠0;rw[c,z];decide
   have stp:∀i,x i->(aZ { B i with tot:=0,now:= .speaks n1 ds1 k } ((wr n ds).getD k 0)).2={ B i with tot:=0,now:=if k+1=(wr n1 ds1).length then .tlS 0 0 else .speaks n1 ds1 (k+1) }:=λi _=>by rw[<-c];exact qJ rfl A kl
   by_cases ce:k+1=(wr n1 ds1).length
   ·refine go (.tlS 0 0) f (λi g=>by rw[stp i g,if_pos ce]) ⟨rfl,by decide,trivial,by rw[Yi];have:=h.jl;lia⟩ λcc=>?_;exfalso;have r:Rel (wr n ds) ((wr n1 ds1).take k++[(wr n1 ds1).getD k 0]):=by
     have:=O c;rw[eV cc,K]at this;exact .inl this
    refine r.hard M a2 ?_;rw[<-K,eV ce];exact(lK A).whole
   ·refine go (.speaks n1 ds1 (k+1)) f (λi g=>by rw[stp i g,if_neg ce]) ⟨one,A,by rw[Yi];have:=h.jl;lia,by lia,O c⟩ λcc=>?_;refine⟨by decide,A,by rw[<-cc],by lia,_,?_,(Yv _).symm⟩;have:=O c;rw[eV cc]at this;exact .inl this
  ·by_cases o1 : (wr n1 ds1).getD k 0=1
   ·-- it says a one against a nought:it loses,or finds a fault
    have J:(wr n ds).getD k 0=0:=v.resolve_right λz=>c (o1.trans z.symm);have f:cT s=(wr n ds).getD k 0:=by rw[J];exact gK C J
    by_cases c6:ans ((wr n1 ds1).take k++[0])="six"
    ·refine .inl (E false ?_);rw[f,J,bL rfl,if_pos c6];exact cV rfl true
    ·by_cases c9:(kp ((wr n1 ds1).take k)).length<9
     ·have I:Rel ((wr n ds).take (k+1)) ((wr n1 ds1).take k++[0]):=by rw[H,J];exact .inl fl.snoc
      refine go (.reads ((wr n1 ds1).take k++[0])) f (λi g=>by rw[J,bL rfl,if_neg c6,if_pos ⟨o1,rfl,c9⟩]) I λcc=>⟨by decide,_,?_,(Yv _).symm⟩
      rw[eV cc]at I;exact I
     ·refine .inl (E false ?_);rw[f,J,bL rfl,if_neg c6,if_neg λz=>c9 z.2.2,if_neg (by rw[o1];decide)];exact cV rfl true
   ·-- it says a nought against a one:the others lose,or the speaker finds a fault
    have o0:(wr n1 ds1).getD k 0=0:=a1.resolve_right o1;have w1:(wr n ds).getD k 0=1:=v.resolve_left λz=>c (o0.trans z.symm);have f:cT s=0:=gK R o0;by_cases c6:ans ((wr n ds).take k++[0])="six"
    ·refine .inl (cC (m:=false) Y C ?_);rw[cQ,f,bL rfl,if_pos c6];exact cV rfl true
    ·by_cases c9 :(kp ((wr n ds).take k)).length<9
     ·right; left;have k2:=b2J M (XF h.jl);have am : ans ((wr n ds).take k++[0])="more":=by
       rcases a1X ((wr n ds).take k++[0]) with z | z | z | z
       ·exact z
       ·exact absurd z c6
       all_goals
        exfalso;have : lY (kp ((wr n ds).take k++[0])):=by
         unfold ans at z;split at z
         ·cases z
         ·split at z
          ·cases z
          ·rename_i y;exact Classical.byContradiction λu=>y (.inr u)
        have P:=this.1;rw[Wm.kp_snoc]at P;split at P
        ·lia
        ·rw[Yc,Yy]at P;lia
      refine⟨p,n1,ds1,λi=>i≠p,.reads ((wr n ds).take k++[0]),⟨A,by lia,by lia,λz=>z rfl,⟨0,X1 0,X1 0,?_⟩,λi S _ z y=>absurd y z⟩,λi S' g e=>?_,⟨q,λz=>h.xq (by rw[z];exact X),by rw[iK];exact(Ye.mp C).1⟩,?_⟩
      ·have:=qJ (S:={ B p with tot:=0,now:= .speaks n1 ds1 k }) rfl A kl;rw[o0,if_neg (by lia)]at this;rw[gC R,cQ,f,this]
      ·obtain ⟨S,U,rfl⟩:=dZ e;rw[cQ,f];have nx:¬ x i:=λz=>g (one i p z X);by_cases cq:i=q
       ·subst cq;rw[C]at U;cases U;rw[bL rfl,if_neg c6,if_pos ⟨w1,rfl,c9⟩]
       ·obtain⟨t,t0,tT,rfl | ⟨n2,a5,a3,a4,e2,_,rfl⟩⟩:=h.al i S U nx cq
        ·have:t=0:=by lia
         subst this;rw[cN rfl,if_pos am]
        ·have:t=0:=by lia
         subst this;obtain⟨_,_,cc | cc⟩:=nY M a3 a4 e2 h.jl
         ·rw[bL rfl];dsimp only;rw[e2,if_neg c6,if_pos ⟨cc.1.trans w1,rfl,c9⟩]
         ·rw[w1]at cc;cases cc.2.1
      ·refine .inl ?_;rw[K,o0];exact fl.symm.snoc
     ·refine .inl (cC (m:=false) Y C ?_);rw[cQ,f,bL rfl,if_neg c6,if_neg λz=>c9 z.2.2,if_neg (by rw[w1];decide)];exact cV rfl true
 | tlR a d c z=>
  obtain⟨rfl,c7,pt,len⟩:=G;rw[lt]at len;by_cases c1:c=1
  ·subst c1;have b0:cT s=0:=gK R rfl;rcases v with z | z
   ·have D:Pat ((wr n ds).take (j+1)) 2:=by rw[H,z];exact pt.zero
    refine go (.tlR a d 2 0) (b0.trans z.symm) (λi g=>?_) ⟨rfl,by decide,D,by rw[Yi];have:=h.jl;lia⟩ λcc=>⟨rfl,.inr (.inr (.inl ⟨rfl,by decide,by decide,?_⟩))⟩
    ·rw[z];rcases qF (B:=B i) (a:=a) (d:=d) (c:=1) (b:=0) (by decide) (.inl rfl) with ⟨_,e⟩ | ⟨y,_,_⟩
     ·exact e
     ·exact absurd rfl y
    ·rw[eV cc]at D;exact D
   ·exact .inl (cC (m:=false) Y C (by rw[cQ,b0];exact a4U M h.jl (by lia) z))
  ·have f:=V λi g _=>(by show fM false c≠0;unfold fM;rw[if_neg λy=>c1 y.1];decide)
   by_cases z:(wr n ds).getD j 0=1
   ·have D:Pat ((wr n ds).take (j+1)) (c+1):=by rw[H,z];exact pt.one c1
    have F:=D.le g1;refine go (.tlR a d (c+1) 0) f (λi g=>?_) ⟨rfl,F,D,by rw[Yi];have:=h.jl;lia⟩ λcc=>⟨rfl,.inr (.inr (.inl ⟨rfl,by lia,F,?_⟩))⟩
    ·rcases qF (B:=B i) (a:=a) (d:=d) (c:=c) (b:=(wr n ds).getD j 0) (by lia) v with ⟨_,e⟩ | ⟨_,y,_⟩
     ·exact e
     ·rw[z]at y;cases y
    ·rw[eV cc]at D;exact D
   ·rcases qF (B:=B p) (a:=a) (d:=d) (c:=c) (b:=(wr n ds).getD j 0) (by lia) v with ⟨y,e⟩ | ⟨_,_,e⟩
    ·exact absurd (y.resolve_left c1) z
    ·exact .inl (E true (by rw[f];exact e))
 | tlS c z=>
  obtain⟨rfl,c7,pt,len⟩:=G;rw[lt]at len;have f:=V λi g _=>(by show fM true c≠0;unfold fM;rw[if_neg λy=>by cases y.2];decide)
  by_cases z:(wr n ds).getD j 0=tbt c
  ·have D:Pat ((wr n ds).take (j+1)) (c+1):=by
    rw[H,z];unfold tbt;by_cases c1:c=1
    ·subst c1;exact pt.zero
    ·rw[if_neg c1];exact pt.one c1
   have F:=D.le g1;refine go (.tlS (c+1) 0) f (λi g=>?_) ⟨rfl,F,D,by rw[Yi];have:=h.jl;lia⟩ λcc=>⟨rfl,.inr (.inr (.inl ⟨rfl,by lia,F,?_⟩))⟩
   ·rcases wX (B:=B i) (c:=c) (b:=(wr n ds).getD j 0) (by lia) v with ⟨_,e⟩ | ⟨y,_⟩
    ·exact e
    ·exact absurd z y
   ·rw[eV cc]at D;exact D
  ·rcases wX (B:=B p) (c:=c) (b:=(wr n ds).getD j 0) (by lia) v with ⟨y,_⟩ | ⟨_,e⟩
   ·exact absurd y z
   ·exact .inl (E false (by rw[f];exact e))
 |flag l m=>exact G.elim
 |settles m=>exact G.elim
 |rests l=>exact G.elim
 |off=>exact G.elim
def b4B {s:List PS}{st:Stc}(h:TPh B 0 0 q n ds x c s)(a:c<=8)(wf:∀(i:Nat)(S:PS),s[i]? =some S->Wf S)(b:∀i,1<=(B i).vt)(ex:Xs B x st s)(d:Sh8 st):∀(i:Nat)(S:PS),s[i]? =some S->At8 (B i) S:=λi S e=>by
 refine⟨?_,wf i S e,b i⟩;by_cases cp:x i
 ·exact⟨st,ex i S cp e,d⟩
 ·by_cases cq:i=q
  ·subst cq;obtain⟨t,z,f,g,j,_,k⟩:=h.sp;rw[k]at e;cases e;have:t=0:=by lia
   subst this;exact⟨_,rfl,a,by lia⟩
  ·obtain⟨t,z,f,g,j,_,rfl⟩:=h.al i S e cp cq;have:t=0:=by lia
   subst this;exact⟨_,rfl,a,by lia⟩
def a1H (h:c<=8):hdT (c+1)=hdT c++[tbt c]:=by
 have:c=0\/c=1\/c=2\/c=3\/c=4\/c=5\/c=6\/c=7\/c=8:=by lia
 rcases this with rfl | rfl | rfl | rfl | rfl | rfl | rfl | rfl | rfl <;> rfl
def b0L (a:List Int):ans (a++hdT 8)="six":=by
 refine jK ?_;have e:a++hdT 8=a++(1::0::List.replicate (5+1) 1):=rfl;rw[e,(pJ a 5).2];decide
def a0M {B:PS}(f:c<=8)(d:(c≠1/\b=0)\/(c=1/\b=1)):(aZ { B with tot:=0,now:= .tlS c 0 } b).2={ B with tot:=if false=true then 1 else 8,now:= .flag 6 false }:=by
 rw[kY rfl];have e:bR ({ B with tot:=0,now:= .tlS c 0 }:PS).vt true c 0 b="fault":=by
  unfold bR;rw[if_neg (by lia)];unfold dM;rcases d with ⟨a,rfl⟩ | ⟨rfl,rfl⟩
  ·rw[if_neg a];rfl
  ·rfl
 rw[e,if_pos rfl];exact cV rfl true
def TPh.sp0 {s:List PS}(h:TPh B 0 0 q n ds x c s):s[q]? =some { B q with tot:=0,now:= .tlS c 0 }:=by
 obtain⟨t,z⟩:=h.sp;grind
def TPh.bit {s:List PS}(h:TPh B T Z q n ds x c s)(g:∀i S,x i->s[i]? =some S->bO S=1):(c≠1->cT s=1)/\(c=1->(∃i,i<s.length/\¬ x i/\i≠q)->cT s=0)/\((¬ ∃i,i<s.length/\¬ x i/\i≠q)->cT s=1):=by
 obtain⟨t,z,_,_,_,_,e⟩:=h.sp;have f:(∀i S,s[i]? =some S->¬ x i->i≠q->bO S≠0)->cT s=1:=λj=>jX λi S a=>by
  by_cases cx:x i
  ·rw[g i S cx a];decide
  ·by_cases b:i=q
   ·subst b;rw[e]at a;cases a;show fM true c≠0;unfold fM;lia
   ·exact j i S a cx b
 refine⟨λd=>f λi S a cx b=>?_,λd ⟨i,k,cx,b⟩=>?_,λl=>f λi S a cx b=>absurd ⟨i,(Ye.mp a).1,cx,b⟩ l⟩
 ·obtain⟨m,o,_,_,_,_,rfl⟩:=h.al i S a cx b;show fM false c≠0;unfold fM;lia
 ·have a:=Yd k;obtain⟨m,o,_,_,_,_,eS⟩:=h.al i _ a cx b;refine gK a ?_;rw[eS];exact if_pos ⟨d,rfl⟩
def DT.step {s:List PS}(hD:DT B c s)(c8:c<=8)(wf:∀(i:Nat)(S:PS),s[i]? =some S->Wf S)(hv:∀i,(B i).vt=v)(v1:1<=v):R1 B 6 (bM none s)\/(c+1<=8/\DT B (c+1) (bM none s)):=by
 obtain⟨q,n,ds,x,H,h,ex,⟨p,W,pl⟩,j⟩:=hD.ex;have X:=b4B h c8 wf (λi=>by rw[hv];exact v1) ex (b3H j);have e0:=h.sp0;have hf:=h.hf;have hl:=(jR hf).1;have N:s[p]? =some { B p with tot:=0,now:=H }:=by
  have e:=Yd pl;rw[e,ex p _ W e]
 have go:∀w,cT s=tbt c->(∀i,x i->(aZ { B i with tot:=0,now:=H } (tbt c)).2={ B i with tot:=0,now:=w })->c+1<=8->DpT (wr n ds) (c+1) w->R1 B 6 (bM none s)\/(c+1<=8/\DT B (c+1) (bM none s)):=λw f G c9 d1=>by
  refine .inr ⟨c9,q,n,ds,x,w,?_,λi S' A e=>?_,⟨p,W,by rw[iK];exact pl⟩,d1⟩
  ·exact(h.step (Z':=0) (wp:=none) (by decide) hv (Yb _) (YW _) v1 (by lia) λi S z _ _ _ _=> .inr ⟨c8,.inl (by rw[cQ,f])⟩).1 (by lia)
  ·obtain⟨S,e1,rfl⟩:=dZ e;rw[cQ,f,ex i S A e1];exact G i A
 have C:∀m:Bool,(aZ { B p with tot:=0,now:=H } (cT s)).2={ B p with tot:=if m=true then 1 else 8,now:= .flag 6 m }->R1 B 6 (bM none s):=λm e=>cC (m:=m) X N (by rw[cQ];exact e);have O:(c≠1/\cT s=0)\/(c=1/\cT s=1)->R1 B 6 (bM none s):=λy=>cC (m:=false) X e0 (by rw[cQ];exact a0M c8 y);have I:(∀i,x i->bO { B i with tot:=0,now:=H }=1)->cT s=tbt c\/R1 B 6 (bM none s):=λJ=>by
  have b:=h.bit λi S A e=>by rw[ex i S A e];exact J i A
  unfold tbt;by_cases c1:c=1
  ·rw[if_pos c1];by_cases hr:∃i,i<s.length/\¬ x i/\i≠q
   ·exact .inl (b.2.1 c1 hr)
   ·exact .inr (O (.inr ⟨c1,b.2.2 hr⟩))
  ·rw[if_neg c1];exact .inl (b.1 c1)
 have D:tbt c=0\/tbt c=1:=by unfold tbt;split <;> decide
 have P:c≠1->tbt c=1:=λy=>if_neg y;cases H with
 | reads hh=>
  obtain⟨c7,t,Q,rfl⟩:=j;rcases I (λ_ _=>rfl) with f | r
  ·have K:t++hdT c++[tbt c]=t++hdT (c+1):=by rw[a1H c8,Yo]
   have Y:c=7->ans (t++hdT c++[tbt c])="six":=λz=>by rw[K,z];exact b0L t
   rcases a3A (B:=B p) (h:=t++hdT c) (b:=tbt c) with ⟨R,e⟩ | ⟨T,e⟩ | e
   ·have Z:c≠7:=λz=>by rw[Y z]at R;exact jA.2.2.2.1 R
    exact go (.reads (t++hdT c++[tbt c])) f (λi _=>by rw[cN rfl,if_pos R]) (by lia) ⟨by lia,t,Q,K⟩
   ·have Z:c≠7:=λz=>by rw[Y z]at T;exact jA.2.2.2.2 T
    exact go (.tlR (nmB (kp (t++hdT c++[tbt c]))) (daB (kp (t++hdT c++[tbt c]))) 0 0) f (λi _=>by rw[cN rfl,T,if_neg jA.2.2.1.symm,if_pos rfl]) (by lia) ⟨rfl,.inl ⟨rfl,by lia,by lia⟩⟩
   ·exact .inl (C true (by rw[f];exact e))
  ·exact .inl r
 | speaks n1 ds1 k=>
  obtain⟨c7,E,ek,L,t,Q,et⟩:=j;have M:=wV E L;have U:=take_snoc L;have F:cT s=tbt c->(wr n1 ds1).getD k 0=tbt c->R1 B 6 (bM none s)\/(c+1<=8/\DT B (c+1) (bM none s)):=λf o=>by
   have K:(wr n1 ds1).take (k+1)=t++hdT (c+1):=by rw[U,et,o,a1H c8,Yo]
   have Z:c≠7:=λz=>by
    have g:=pG (n:=n1) (ds:=ds1) (k+1) L;rw[K,z]at g;have e8:t++hdT (7+1)=t++(1::0::List.replicate (5+1) 1):=rfl;rw[e8,(pJ t 5).2]at g;exact absurd g (by decide)
   have stp:∀i,x i->(aZ { B i with tot:=0,now:= .speaks n1 ds1 k } (tbt c)).2={ B i with tot:=0,now:=if k+1=(wr n1 ds1).length then .tlS 0 0 else .speaks n1 ds1 (k+1) }:=λi _=>by rw[<-o];exact qJ rfl E L
   by_cases ce:k+1=(wr n1 ds1).length
   ·exact go (.tlS 0 0) f (λi A=>by rw[stp i A,if_pos ce]) (by lia) ⟨rfl,.inl ⟨rfl,by lia,by lia⟩⟩
   ·exact go (.speaks n1 ds1 (k+1)) f (λi A=>by rw[stp i A,if_neg ce]) (by lia) ⟨by lia,E,by lia,by lia,t,Q,K⟩
  by_cases c1:c=1
  ·have V:tbt c=0:=if_pos c1;rcases M with o | o
   ·exact F ((gK N o).trans V.symm) (o.trans V.symm)
   ·rcases I (λi _=>o) with f | r
    ·exact .inl (C false (by rw[f,V];exact a4U E L (by lia) o))
    ·exact .inl r
  ·rcases M with o | o
   ·exact .inl (O (.inl ⟨c1,gK N o⟩))
   ·rcases I (λi _=>o) with f | r
    ·exact F f (o.trans (P c1).symm)
    ·exact .inl r
 | tlR a d c' z=>
  obtain⟨rfl,j⟩:=j;have u:c'<=8:=by unfold tlD at j;lia
  by_cases c1:c'=1
  ·subst c1;have b0:cT s=0:=gK N rfl;exact .inl (O (.inl ⟨by unfold tlD at j;lia,b0⟩))
  ·have J:∀i,x i->bO { B i with tot:=0,now:= .tlR a d c' 0 }=1:=λi _=>if_neg λy=>c1 y.1;rcases I J with f | r
   ·by_cases z:tbt c=1
    ·have cn:c≠1:=λy=>by unfold tbt at z;rw[if_pos y]at z;cases z
     have G:∀i,x i->(aZ { B i with tot:=0,now:= .tlR a d c' 0 } (tbt c)).2={ B i with tot:=0,now:= .tlR a d (c'+1) 0 }:=λi _=>by
      rcases qF (B:=B i) (a:=a) (d:=d) (c:=c') (b:=tbt c) u D with ⟨_,e⟩ | ⟨_,y,_⟩
      ·exact e
      ·rw[z]at y;cases y
     rcases j with y | y | y | y
     ·exact go _ f G (by lia) ⟨rfl,.inr (.inl ⟨by lia,by lia,by lia⟩)⟩
     ·exact absurd y.1 c1
     ·exact go _ f G (by lia) ⟨rfl,.inr (.inr (.inr ⟨by lia,by lia,by lia⟩))⟩
     ·exact absurd y.1 cn
    ·rcases qF (B:=B p) (a:=a) (d:=d) (c:=c') (b:=tbt c) u D with ⟨y,_⟩ | ⟨_,_,e⟩
     ·exact absurd (y.resolve_left c1) z
     ·exact .inl (C true (by rw[f];exact e))
   ·exact .inl r
 | tlS c' z=>
  obtain⟨rfl,j⟩:=j;have u:c'<=8:=by unfold tlD at j;lia
  have J:∀i,x i->bO { B i with tot:=0,now:= .tlS c' 0 }=1:=λi _=>if_neg λy=>by cases y.2
  rcases I J with f | r
  ·by_cases z:tbt c=tbt c'
   ·have G:∀i,x i->(aZ { B i with tot:=0,now:= .tlS c' 0 } (tbt c)).2={ B i with tot:=0,now:= .tlS (c'+1) 0 }:=λi _=>by
     rcases wX (B:=B i) (c:=c') (b:=tbt c) u D with ⟨_,e⟩ | ⟨y,_⟩
     ·exact e
     ·exact absurd z y
    have tt:∀a:Nat,a=1↔tbt a=0:=λa=>by unfold tbt;split <;> lia
    have t1:=tt c;have t2:=tt c';rw[z]at t1;have a0:c=1↔c'=1:=t1.trans t2.symm;rcases j with y | y | y | y
    ·exact go _ f G (by lia) ⟨rfl,.inr (.inl ⟨by lia,by lia,by lia⟩)⟩
    ·exfalso;lia
    ·exact go _ f G (by lia) ⟨rfl,.inr (.inr (.inr ⟨by lia,by lia,by lia⟩))⟩
    ·exfalso;lia
   ·rcases wX (B:=B p) (c:=c') (b:=tbt c) u D with ⟨y,_⟩ | ⟨_,e⟩
    ·exact absurd y z
    ·exact .inl (C false (by rw[f];exact e))
  ·exact .inl r
 |free k=>exact j.elim
 |flag l m=>exact j.elim
 |settles m=>exact j.elim
 |rests l=>exact j.elim
 |off=>exact j.elim
structure D2 (B:Nat->PS)(e:Nat)(s:List PS):Prop where
 al:∀(i:Nat)(S:PS),s[i]? =some S->∃Y:List Int,Y.length<=18/\S={ B i with tot:=0,now:= .reads (Y++List.replicate e 1) }
 one:∃(p:Nat)(Y:List Int),p<s.length/\Y.length<=18/\(Wm.sk Y).1=some 1/\s[p]? =some { B p with tot:=0,now:= .reads (Y++List.replicate e 1) }
def tO (Y:List Int)(e:Nat):Y++List.replicate (e+1) 1=(Y++List.replicate e 1)++[(1:Int)]:=by rw[Xa,Yo]
theorem a4N {Y:List Int}(h:(Wm.sk Y).1=some 1)(h0:1<=Wm.run Y):∀e,(Wm.sk (Y++List.replicate e 1)).1=some 1/\e+1<=Wm.run (Y++List.replicate e 1)
 |0=>by rw[Jq,Yv];exact⟨h,h0⟩
 | e+1=>by
  obtain⟨a,b⟩:=a4N h h0 e;rw[tO];refine⟨Wm.last_snoc _ _,?_⟩;rw[Wm.run_snoc,if_pos a];lia
def wN (l:h.length<=26):ans h="more"\/ans h="six":=by
 rcases a1X h with z | z | z | z
 ·exact .inl z
 ·exact .inr z
 all_goals
  have : lY (kp h):=by
   unfold ans at z;split at z
   ·cases z
   ·split at z
    ·cases z
    lia
  have a:=this.2;have:=Wm.kp_len h;lia
def D2.step {e:Nat}{s:List PS}(h:D2 B e s)(y:e<=4)(wf:∀(i:Nat)(S:PS),s[i]? =some S->Wf S)(o:∀i,1<=(B i).vt):R1 B 6 (bM none s)\/(e+1<=4/\D2 B (e+1) (bM none s)):=by
 have q:∀(i:Nat)(S:PS),s[i]? =some S->At8 (B i) S:=λi S a=>by
  obtain⟨Y,_,t⟩:=h.al i S a;exact⟨⟨_,t,trivial⟩,wf i S a,o i⟩
 have d:cT s=1:=jX λi S a=>by
  obtain⟨Y,_,rfl⟩:=h.al i S a;exact(by decide:(1:Int)≠0)
 have stp:∀{i:Nat}{Y:List Int},Y.length<=18->s[i]? =some { B i with tot:=0,now:= .reads (Y++List.replicate e 1) }->(ans (Y++List.replicate (e+1) 1)="more"/\(aZ { B i with tot:=0,now:= .reads (Y++List.replicate e 1) } 1).2={ B i with tot:=0,now:= .reads (Y++List.replicate (e+1) 1) })\/R1 B 6 (bM none s):=λ{i Y} l a=>by
  rcases wN (h:=Y++List.replicate (e+1) 1) (by rw[Yc,YA];lia) with z | z
  ·left;refine⟨z,?_⟩;rw[tO]at z ⊢;rw[cN rfl,if_pos z]
  ·right;refine cC (m:=true) q a ?_;rw[tO]at z;rw[cQ,d,cN rfl,z,if_neg jA.2.2.2.1,if_neg jA.2.2.2.2];exact cV rfl false
 obtain⟨p,Y,pl,f,b,g⟩:=h.one;have u:1<=Wm.run Y:=Wm.run_pos λz=>by rw[z]at b;cases b
 rcases stp f g with ⟨j,v⟩ | r
 ·by_cases c:R1 B 6 (bM none s)
  ·exact .inl c
  ·right;have w:e+1<=4:=by
    have:=(a4N b u (e+1)).2;by_cases c5:5<Wm.run (Y++List.replicate (e+1) 1)
    ·rw[jK c5]at j;exact absurd j jA.2.2.2.1
    ·lia
   refine⟨w,λi A a=>?_,⟨p,Y,by rw[iK];exact pl,f,b,by rw[gC g,cQ,d,v]⟩⟩;obtain⟨S,k,rfl⟩:=dZ a;obtain⟨x,n,rfl⟩:=h.al i S k;refine⟨x,n,?_⟩;rw[cQ,d];grind
 ·exact .inl r
structure D3 (B:Nat->PS)(e:Nat)(s:List PS):Prop where
 al:∀(i:Nat)(S:PS),s[i]? =some S->(B i).wt= []/\((∃k,S={ B i with tot:=0,now:= .free k })\/S={ B i with tot:=0,now:= .reads (0::List.replicate e 1) })
 one:∃p,s[p]? =some { B p with tot:=0,now:= .reads (0::List.replicate e 1) }
def D3.step {e:Nat}{s:List PS}(h:D3 B e s)(q:e<=5)(wf:∀(i:Nat)(S:PS),s[i]? =some S->Wf S)(d:∀i,1<=(B i).vt):R1 B 6 (bM none s)\/(e+1<=5/\D3 B (e+1) (bM none s)):=by
 have l:∀(i:Nat)(S:PS),s[i]? =some S->At8 (B i) S:=λi S a=>by
  rcases (h.al i S a).2 with ⟨k,hS⟩ | hS
  ·exact⟨⟨_,hS,trivial⟩,wf i S a,d i⟩
  ·exact⟨⟨_,hS,trivial⟩,wf i S a,d i⟩
 have fs:∀{i k:Nat},(B i).wt= []->bO { B i with tot:=0,now:= .free k }=1:=λ{i k} b=>by rw[jE (by decide),if_pos b]
 have c:cT s=1:=jX λi S a=>by
  obtain⟨b,⟨k,rfl⟩ | rfl⟩:=h.al i S a
  ·rw[fs b];decide
  ·exact(by decide:(1:Int)≠0)
 obtain⟨p,f⟩:=h.one;have g:∀e,(0::List.replicate e 1)++[(1:Int)]=0::List.replicate (e+1) 1:=λe=>by rw[Xa];rfl
 rcases wN (h:=0::List.replicate (e+1) 1) (by rw[Yk,YA];lia) with z | z
 ·right;have n:e+1<=5:=by
   by_cases c5:5<Wm.run (0::List.replicate (e+1) 1)
   ·rw[jK c5]at z;exact absurd z jA.2.2.2.1
   ·unfold Wm.run at c5;rw[Wm.ones_sk (e+1) (by lia)]at c5;exact Nat.le_of_not_lt c5
  have j:∀i,(aZ { B i with tot:=0,now:= .reads (0::List.replicate e 1) } 1).2={ B i with tot:=0,now:= .reads (0::List.replicate (e+1) 1) }:=λi=>by
   rw[cN rfl,g,if_pos z]
  refine⟨n,λi r a=>?_,⟨p,by rw[gC f,cQ,c,j]⟩⟩;obtain⟨S,o,rfl⟩:=dZ a;rw[cQ,c];obtain⟨b,⟨k,rfl⟩ | rfl⟩:=h.al i S o
  ·exact⟨b,.inl ⟨k+1,by rw[dR rfl,if_neg (by rw[fs b];decide),if_neg (by decide)]⟩⟩
  ·exact⟨b,.inr (j i)⟩
 ·left;refine cC (m:=true) l f ?_;rw[cQ,c,cN rfl,g,z,if_neg jA.2.2.2.1,if_neg jA.2.2.2.2];exact cV rfl false
abbrev non:Nat->Prop:=λ_=>False
def sI {p:Nat}(h:i≠p):hrd (some p) b i=b:=if_neg λz=>h (Yu z).symm
def iU {p:Nat}:hrd (some p) b p=1-b:=if_pos rfl
def a2G {l p:Nat}{s:List PS}(h:RPh B 0 l s)(pl:p<s.length)(wf:∀(i:Nat)(S:PS),s[i]? =some S->Wf S)(c:∀i,1<=(B i).vt):R1 B 6 (bM (some p) s):=by
 have a:∀(i:Nat)(S:PS),s[i]? =some S->S={ B i with tot:=0,now:= .rests l }:=λi S e=>by
  obtain⟨t,f⟩:=h i S e;grind
 have d:=jX λi S e=>by rw[a i S e];exact(by decide:(1:Int)≠0)
 have b:=Yd pl;rw[a p _ b]at b;refine cC (m:=true) (λi S e=>⟨⟨_,a i S e,trivial⟩,wf i S e,c i⟩) b ?_;rw[iU,d,iH rfl];exact cV rfl false
def FPh.zero {s:List PS}(h:FPh B 0 s)(i:Nat)(S:PS)(e:s[i]? =some S):∃k,S={ B i with tot:=0,now:= .free k }:=by
 obtain⟨t,k⟩:=h i S e;grind
def a2H {p:Nat}{s:List PS}(h:FPh B 0 s)(pl:p<s.length)(g:∀i,i<s.length->(B i).wt= []):D3 B 0 (bM (some p) s):=by
 have lt:∀{i:Nat}{S:PS},s[i]? =some S->i<s.length:=λe=>(Ye.mp e).1;have d:∀(i:Nat)(S:PS),s[i]? =some S->bO S=1:=λi S e=>by
  obtain⟨k,rfl⟩:=h.zero i S e;rw[jE (by decide),if_pos (g i (lt e))]
 have j:=jX λi S e=>by rw[d i S e];decide
 have a:∀(S:PS),s[p]? =some S->(aZ S (hrd (some p) (cT s) p)).2={ B p with tot:=0,now:= .reads (0::List.replicate 0 1) }:=λS e=>by
  have f:=d p S e;obtain⟨k,rfl⟩:=h.zero p S e;rw[iU,j,dR rfl,if_neg (by rw[f];decide)];rfl
 refine⟨λi m e=>?_,⟨p,by have l:=Yd pl;rw[gC l,a _ l]⟩⟩;obtain⟨S,b,rfl⟩:=dZ e;refine⟨g i (lt b),?_⟩;by_cases c:i=p
 ·grind
 ·left;have f:=d i S b;obtain⟨k,rfl⟩:=h.zero i S b;exact⟨k+1,by rw[sI c,j,dR rfl,if_neg (by rw[f];decide),if_neg (by decide)]⟩
def zP {p:Nat}{f:Fr}{s:List PS}(h:FPh B 0 s)(pl:p<s.length)(W:Win s.length B q f)(wf:∀(i:Nat)(S:PS),s[i]? =some S->Wf S)(j:∀i,1<=(B i).vt):R1 B 6 (bM (some p) s)\/DW B 1 (bM (some p) s):=by
 have d:=(h.begin (x:=non) (wp:=none) (by decide) W (λz=>z) (λi _=>by simp)).1;have a:=Yd pl;obtain⟨k,eS⟩:=h.zero p _ a;rw[eS]at a;have b:=jE (B:=B p) (t:=0) (k:=k) (by decide);by_cases w0:(B p).wt= []
 ·right;rw[if_pos w0]at b;have l:p≠q:=λz=>by
   have e:=W.eq;grind
  refine⟨q,f.1,f.2,λi=>i=p,.free (k+1),(h.begin (by decide) W (λz=>l z.symm) (λi z y=>z (Yu y).symm)).2,λi n c e=>?_,⟨p,rfl,by rw[iK];exact pl⟩,λi c=>by rw[c];exact w0,0,qC⟩;subst c;obtain⟨S,g,rfl⟩:=dZ e;rw[a]at g;cases g;rw[iU,d,dR rfl,if_neg (by rw[b];decide),if_neg (by decide)]
 ·left;rw[if_neg w0]at b;refine cC (m:=false) (λi S e=>?_) a ?_
  ·obtain⟨o,rfl⟩:=h.zero i S e;exact⟨⟨_,rfl,trivial⟩,wf i _ e,j i⟩
  ·rw[iU,d,dR rfl,if_pos b];exact cV rfl true
def a2F {p:Nat}{s:List PS}(h:TPh B 0 0 q n ds non c s)(pl:p<s.length)(w:2<=s.length)(k:∀i,(B i).vt=v)(x:2<=v)(o:c<9+v)(wf:∀(i:Nat)(S:PS),s[i]? =some S->Wf S):
  R1 B 6 (bM (some p) s)\/(c<8+v/\TPh B 0 1 q n ds non (c+1) (bM (some p) s))\/(c=8+v/\RPh (nxB B q (n,ds)) 0 3 (bM (some p) s)):=by
 have f:cT s=tbt c:=by
  have b:=h.bit λi S g e=>g.elim;unfold tbt;by_cases c1:c=1
  ·rw[if_pos c1];refine b.2.1 c1 ?_;by_cases z:q=0
   ·exact⟨1,by lia,λy=>y,by lia⟩
   ·exact⟨0,by lia,λy=>y,λy=>z y.symm⟩
  ·rw[if_neg c1];exact b.1 c1
 have go:(∀i S z,s[i]? =some S->¬ non i->(c<=9->z=0)->z<=0->TOk 1 q c i (hrd (some p) (cT s) i) z)->(c<8+v/\TPh B 0 1 q n ds non (c+1) (bM (some p) s))\/(c=8+v/\RPh (nxB B q (n,ds)) 0 3 (bM (some p) s)):=λok=>by
  have S:=h.step (Z':=1) (wp:=some p) (by decide) k (by decide) (by lia) (by lia) o ok;by_cases c1:c=8+v
  ·exact .inr ⟨c1,S.2 c1 λ_ z=>z⟩
  ·exact .inl ⟨by lia,S.1 (by lia)⟩
 by_cases c9:9<=c
 ·refine .inr (go λi S z _ _ _ r=> .inl ⟨c9,?_⟩);unfold tlN;split <;> lia
 ·have l:=b4B (st:= .free 0) h (by lia) wf (λi=>by rw[k];lia) (λi S g _=>g.elim) trivial;by_cases pq:p=q
  ·subst pq;left;refine cC (m:=false) l h.sp0 ?_;rw[iU,f];refine a0M (by lia) ?_;unfold tbt;by_cases c1:c=1
   ·rw[if_pos c1];exact .inr ⟨c1,by decide⟩
   ·rw[if_neg c1];exact .inl ⟨c1,by decide⟩
  ·by_cases c1:c=1
   ·refine .inr (go λi S z _ _ _ r=> .inr ⟨by lia,?_⟩);by_cases ip:i=p
    ·exact .inr ⟨c1,by rw[ip];exact pq⟩
    ·left;rw[sI ip,f]
   ·left;have j:=Yd pl;obtain⟨t,z,A,C,D,_,eS⟩:=h.al p _ j (λy=>y) pq;have:t=0:=by lia
    subst this;have:z=0:=by lia
    subst this;rw[eS]at j;refine cC (m:=true) l j ?_;have u:tbt c=1:=if_neg c1;rw[iU,f,u];rcases qF (B:=B p) (a:=n) (d:=ds) (c:=c) (b:=1-1) (by lia) (.inl rfl) with ⟨y,_⟩ | ⟨_,_,e⟩
    ·exact absurd (y.resolve_left c1) (by decide)
    ·exact e
theorem uD (P:Nat->Nat->Prop):∀(b i n:Nat),n<=b->P i n->∃i n,P i n/\∀i' n',P i' n'->n<=n'
 |0,i,n,hb,h=>⟨i,n,h,λ_ _ _=>by lia⟩
 | b +1,i,n,hb,h=>by
  by_cases c:∃i' n',P i' n'/\n'<n
  ·obtain⟨i',n',h',lt⟩:=c;exact uD P b i' n' (by lia) h'
  ·exact⟨i,n,h,λi' n' h'=>Nat.le_of_not_lt λz=>c ⟨i',n',h',z⟩⟩
def a2E {p:Nat}{s:List PS}(h:WPh B 0 q n ds non j s)(pl:p<s.length)(m2:2<=s.length)(wf:∀(i:Nat)(S:PS),s[i]? =some S->Wf S)(v1:∀i,1<=(B i).vt)(a0:∀i i' f f',i<s.length->i'<s.length->i≠i'->(B i).wt.head? =some f->(B i').wt.head? =some f'->f.1≠f'.1):
  R1 B 6 (bM (some p) s)\/DW B (j+1) (bM (some p) s)\/DT B 0 (bM (some p) s)\/D2 B 0 (bM (some p) s):=by
 have K:=h.hf;have hl:=(jR K).1;have a8:=b4A (st:= .free 0) h wf v1 (λi S A _=>A.elim) trivial;have E:cT s=(wr n ds).getD j 0:=h.bit λi S A _=>A.elim;have a2:=wV K h.jl;have ts:=take_snoc h.jl;have lt:((wr n ds).take j).length=j:=by rw[Yi];have:=h.jl;lia
 have M:∀{l:List PS}{i:Nat}{S:PS},l[i]? =some S->i<l.length:=λe=>(Ye.mp e).1;have v:∀b:Int,b=1-(wr n ds).getD j 0->Fl ((wr n ds).take (j+1)) ((wr n ds).take j++[b]):=λb eb=>by
  refine⟨j,h.j1,by rw[Yi];have:=h.jl;lia,?_⟩;have g:((wr n ds).take (j+1)).getD j 0=(wr n ds).getD j 0:=by rw[Yj,Xu (by lia),<-Yj]
  rw[g,ts,List.set_append_right _ _ (by rw[lt];exact Yb _),lt,Ju,<-eb];rfl
 have N:s[q]? =some { B q with tot:=0,now:= .speaks n ds j }:=by
  obtain⟨t,O,P,eq⟩:=h.sp;have:t=0:=by lia
  subst this;exact eq
 have X:WPh B 0 q n ds (λi=>i=p) j s\/p=q:=by
  by_cases pq:p=q
  ·exact .inr pq
  ·exact .inl ⟨h.hf,h.j1,h.jl,λz=>pq z.symm,h.sp,λi S e _ cq=>h.al i S e (λz=>z) cq⟩
 rcases X with X | pq
 ·-- another one than the speaker
  have pq:p≠q:=λz=>X.xq z.symm;have go:∀u,(bM (some p) s)[p]? =some { B p with tot:=0,now:=u }->DpW (∀i,i=p->(B i).wt= []) (∀i i',i=p->i'=p->i=i') ((wr n ds).take (j+1)) u->(j+1=(wr n ds).length->DpT (wr n ds) 0 u)->R1 B 6 (bM (some p) s)\/DW B (j+1) (bM (some p) s)\/DT B 0 (bM (some p) s)\/D2 B 0 (bM (some p) s):=λu C k L=>by
   have S:=X.step (Z:=0) (wp:=some p) λi ni=>by rw[sI ni,E]
   have xs:Xs B (λi=>i=p) u (bM (some p) s):=λi x A e=>by
    rw[A,C]at e;cases e;rw[A]
   have Q:∃i,i=p/\i<(bM (some p) s).length:=⟨p,rfl,by rw[iK];exact pl⟩
   by_cases c:j+1=(wr n ds).length
   ·exact .inr (.inr (.inl ⟨q,n,ds,_,u,S.2 c,xs,Q,L c⟩))
   ·have:j+1<(wr n ds).length:=by have:=h.jl;lia
    exact .inr (.inl ⟨q,n,ds,_,u,S.1 this,xs,Q,k⟩)
  have C:=Yd pl;obtain⟨t,O,P,eS⟩:=h.al p _ C (λz=>z) pq;have:t=0:=by lia
  subst this;have R:∀Y:List Int,Y=(wr n ds).take j++[1-(wr n ds).getD j 0]->(bM (some p) s)[p]? =some { B p with tot:=0,now:= .reads Y }->R1 B 6 (bM (some p) s)\/DW B (j+1) (bM (some p) s)\/DT B 0 (bM (some p) s)\/D2 B 0 (bM (some p) s):=λY eh e=>by
   have I:Rel ((wr n ds).take (j+1)) Y:=by rw[eh];exact .inl (v _ rfl)
   refine go _ e I λc=>⟨by decide,_,?_,(Yv _).symm⟩
   rw[eV c]at I;exact I
  rcases eS with eS | ⟨d,k,o,a1,T,_,eS⟩
  ·rw [eS]at C;have gd:Good ((wr n ds).take j):=by
    have w:=(wf p _ C).now;exact w.2.1.good
   rcases a3A (B:=B p) (h:=(wr n ds).take j) (b:=1-(wr n ds).getD j 0) with ⟨_,e⟩ | ⟨ew,e⟩ | e
   ·exact R _ rfl (by rw[gC C,iU,E,e])
   ·have I:Rel ((wr n ds).take (j+1)) ((wr n ds).take j++[1-(wr n ds).getD j 0]):= .inl (v _ rfl);have cm:=(jZ ew).1;refine go (.tlR (nmB (kp ((wr n ds).take j++[1-(wr n ds).getD j 0]))) (daB (kp ((wr n ds).take j++[1-(wr n ds).getD j 0]))) 0 0) (by rw[gC C,iU,E,e]) ⟨rfl,by decide,trivial,?_⟩ λc=>?_
    ·have:=Wm.kp_len ((wr n ds).take j++[1-(wr n ds).getD j 0]);have:=I.len;have:=cm.2;lia
    ·exfalso;rw[eV c]at I;exact I.hard K gd ew
   ·exact .inl (cC (m:=true) a8 C (by rw[iU,E];exact e))
  ·rw [eS]at C;obtain⟨a3,j1,cc⟩:=nY K o a1 T h.jl;have U:(aZ { B p with tot:=0,now:= .speaks d k j } (1-(wr n ds).getD j 0)).2=(cD { B p with tot:=0,now:= .speaks d k j } true).2->R1 B 6 (bM (some p) s):=λz=>cC (m:=false) a8 C (by rw[iU,E,z];exact cV rfl true);rcases cc with cc | cc
   ·by_cases c6:ans ((wr d k).take j++[1-(wr n ds).getD j 0])="six"
    ·exact .inl (U (by rw[bL rfl,if_pos c6]))
    ·by_cases cl:(wr d k).getD j 0=1/\1-(wr n ds).getD j 0=0/\(kp ((wr d k).take j)).length<9
     ·exact R ((wr d k).take j++[1-(wr n ds).getD j 0]) (by rw[T]) (by rw[gC C,iU,E,bL rfl,if_neg c6,if_pos cl])
     ·refine .inl (U ?_);rw[bL rfl,if_neg c6,if_neg cl,if_neg];show ¬ 1-(wr n ds).getD j 0=(wr d k).getD j 0;rw[cc.1];lia
   ·refine go (.speaks d k (j+1)) ?_ ⟨λi i' a b=>by rw[a,b],o,by rw[Yi];have:=h.jl;lia,?_,?_⟩ λc=>by lia
    ·have q1:=qJ (S:={ B p with tot:=0,now:= .speaks d k j }) rfl o j1;have l1:=(jR o).1;rw[cc.1,if_neg (by lia)]at q1;rw[gC C,iU,E,cc.2.1];exact YJ some q1
    ·have l1:=(jR o).1;lia
    ·rw[take_snoc j1,T,cc.1];exact v _ (by rw[cc.2.1];rfl)
 ·-- the speaker itself
  subst pq;have U:(aZ { B p with tot:=0,now:= .speaks n ds j } (1-(wr n ds).getD j 0)).2=(cD { B p with tot:=0,now:= .speaks n ds j } true).2->R1 B 6 (bM (some p) s):=λz=>cC (m:=false) a8 N (by rw[iU,E,z];exact cV rfl true);by_cases c6:ans ((wr n ds).take j++[1-(wr n ds).getD j 0])="six"
  ·exact .inl (U (by rw[bL rfl,if_pos c6]))
  ·by_cases cl:(wr n ds).getD j 0=1/\1-(wr n ds).getD j 0=0/\(kp ((wr n ds).take j)).length<9
   ·have k2:=b2J K (XF h.jl);have V:(bM (some p) s)[p]? =some { B p with tot:=0,now:= .reads ((wr n ds).take j++[1-(wr n ds).getD j 0]) }:=by rw[gC N,iU,E,bL rfl,if_neg c6,if_pos cl]
    have ot:∀(i:Nat)(x:PS),(bM (some p) s)[i]? =some x->i≠p->Nw (B i) 0 n ds (j+1) x:=λi x e F=>by
     obtain⟨S,T,rfl⟩:=dZ e;rw[sI F,E];exact((h.al i S T (λz=>z) F).step K h.jl).1 (by lia)
    by_cases sp:∃(i d:Nat)(k:List Int),i≠p/\FrN (d,k)/\n<d/\(wr d k).take (j+1)=(wr n ds).take (j+1)/\(B i).wt.head? =some (d,k)/\(bM (some p) s)[i]? =some { B i with tot:=0,now:= .speaks d k (j+1) }
    ·-- another one speaks on
     right;left;obtain⟨i0,n0,d0,z0⟩:=sp;obtain⟨r,d,⟨k,rp,o,ln,et,hd,er⟩,mn⟩:=uD (λi d=>∃k:List Int,i≠p/\FrN (d,k)/\n<d/\(wr d k).take (j+1)=(wr n ds).take (j+1)/\(B i).wt.head? =some (d,k)/\(bM (some p) s)[i]? =some { B i with tot:=0,now:= .speaks d k (j+1) }) n0 i0 n0 (Yb _) ⟨d0,z0⟩;have l1:=(jR o).1;refine⟨r,d,k,λi=>i=p,.reads ((wr n ds).take j++[1-(wr n ds).getD j 0]),⟨o,by lia,by lia,rp,⟨0,X1 0,X1 0,er⟩,λi x e A ir=>?_⟩,λi x A e=>?_,⟨p,rfl,by rw[iK];exact pl⟩,?_⟩
     ·obtain⟨t,O,P,eS | ⟨W,L,G,J,H,D,eS⟩⟩:=ot i x e A
      ·exact⟨t,O,P,.inl (by rw[et];exact eS)⟩
      ·have:t=0:=by lia
       subst this;have le:=mn i W ⟨L,A,G,J,H,D,by rw[e,eS]⟩;have ne:=a0 r i _ _ (by rw[<-iK (wp:=some p)];exact M er) (by rw[<-iK (wp:=some p)];exact M e) (λz=>ir z.symm) hd D;exact⟨0,O,P,.inr ⟨W,L,G,by have:d≠W:=ne;lia,by rw[H,et],D,eS⟩⟩
     ·rw[A,V]at e;cases e;rw[A]
     ·show Rel _ _;rw[et];exact .inl (v _ rfl)
    ·-- nobody speaks on
     right;right;right;have al:∀(i:Nat)(x:PS),(bM (some p) s)[i]? =some x->i≠p->x={ B i with tot:=0,now:= .reads ((wr n ds).take (j+1)) }:=λi x e F=>by
      obtain⟨t,O,P,eS | ⟨W,L,G,J,H,D,eS⟩⟩:=ot i x e F
      ·have:t=0:=by lia
       subst this;exact eS
      ·have:t=0:=by lia
       subst this;exact absurd ⟨i,W,L,F,G,J,H,D,by rw[e,eS]⟩ sp
     refine⟨λi x e=>?_,?_⟩
     ·by_cases F:i=p
      ·subst F;rw[V]at e;cases e;exact⟨(wr n ds).take j++[1-(wr n ds).getD j 0],by rw[Yc,lt,Yy];lia,by rw[Jq,Yv]⟩
      ·exact⟨(wr n ds).take (j+1),by rw[Yi];lia,by rw[Jq,Yv];exact al i x e F⟩
     ·obtain⟨i,il,F⟩:∃i,i<(bM (some p) s).length/\i≠p:=by
       rw[iK];by_cases z:p=0
       ·exact⟨1,by lia,by lia⟩
       ·exact⟨0,by lia,λy=>z y.symm⟩
      have ei:=Yd il;refine⟨i,(wr n ds).take (j+1),il,by rw[Yi];lia,?_,by rw[Jq,Yv,<-al i _ ei F];exact ei⟩;rw[ts,cl.1];exact Wm.last_snoc _ _
   ·refine .inl (U ?_);rw[bL rfl,if_neg c6,if_neg cl,if_neg];show ¬ 1-(wr n ds).getD j 0=(wr n ds).getD j 0;lia
abbrev LW (f:Fr):Nat:=(wr f.1 f.2).length
def tgo (v:Nat)(f:Nat->Fr):Nat->Nat->Nat
 |0,_=>0
 |r+1,k=>LW (f k)+12+v+tgo v f r (k+1)
def tg (v N:Nat)(f:Nat->Fr)(k:Nat):Nat:=tgo v f (N-k) k
def rP {f:Nat->Fr}(h:k<N):tg v N f k=LW (f k)+12+v+tg v N f (k+1):=by
 unfold tg;rw[show N-k=N-(k+1)+1 by lia];rfl
def a2N {f:Nat->Fr}:tg v N f N=0:=by unfold tg;rw[Ju];rfl
structure zM (m v N:Nat)(B:Nat->Nat->PS)(q:Nat->Nat)(f:Nat->Fr):Prop where
 m2:2<=m
 v2:2<=v
 v5:v<=5
 vt:∀k i,(B k i).vt=v
 win:∀k,k<N->Win m (B k) (q k) (f k)
 nx:∀k,k<N->B (k+1)=nxB (B k) (q k) (f k)
 dn:∀i,i<m->(B N i).wt= []
 ds:∀k,k<=N->∀i i' g g',i<m->i'<m->i≠i'->(B k i).wt.head? =some g->(B k i').wt.head? =some g'->g.1≠g'.1
 ln:∀k,k<N->LW (f k)<=103
def Nm (v N:Nat)(B:Nat->Nat->PS)(q:Nat->Nat)(f:Nat->Fr)(T:Int)(Z k n:Nat)(s:List PS):Prop:=
 (FPh (B k) T s/\tg v N f k<=n)\/
 (k<N/\∃j,WPh (B k) T (q k) (f k).1 (f k).2 non j s/\LW (f k)-j+12+v+tg v N f (k+1)<=n)\/
 (k<N/\∃c,c<9+v/\TPh (B k) T Z (q k) (f k).1 (f k).2 non c s/\9+v-c+3+tg v N f (k+1)<=n)\/
 ∃l,1<=l/\l<=3/\RPh (B k) T l s/\l+tg v N f k<=n
def Dis (v N:Nat)(B:Nat->Nat->PS)(f:Nat->Fr)(k n:Nat)(s:List PS):Prop:=
 (∃j,DW (B k) j s/\j<=103/\129+tg v N f k<=n+j)\/
 (∃c,c<=8/\DT (B k) c s/\25+tg v N f k<=n+c)\/
 (∃e,e<=4/\D2 (B k) e s/\21+tg v N f k<=n+e)\/
 (∃e,e<=5/\D3 (B k) e s/\22+tg v N f k<=n+e)\/
 (∃d,1<=d/\d<=6/\R1 (B k) d s/\d+10+tg v N f k<=n)\/
 ∃L,L<=6/\R2 (B k) L s/\L+4+tg v N f k<=n
variable {B:Nat->Nat->PS}{q:Nat->Nat}{f:Nat->Fr}
def Nm.step (C:zM m v N B q f){s:List PS}(g:T<=9)(u:Z<=v / 2)(t:s.length=m)(a:k<=N)(h:Nm v N B q f T Z k (n+1) s):∃k',(k<=k'/\k'<=N)/\Nm v N B q f T Z k' n (bM none s):=by
 have E:=C.m2;have F:=C.v2;rcases h with ⟨h,l⟩ | ⟨d,j,h,l⟩ | ⟨d,c,w,h,l⟩ | ⟨r,G,H,h,l⟩
 ·by_cases c:k<N
  ·rw[rP c]at l;have W:=C.win k c;rw[<-t]at W;have b:=(h.begin (x:=non) (wp:=none) g W (λz=>z) (λi _=>by simp)).2;exact⟨k,⟨Yb _,a⟩,.inr (.inl ⟨c,1,b,by have:=b.jl;unfold LW at l ⊢;lia⟩)⟩
  ·have:k=N:=by lia
   subst this;exact⟨k,⟨Yb _,a⟩,.inl ⟨h.idle g (λi A=>C.dn i (t▸A)),by rw[a2N];exact YW _⟩⟩
 ·have o:cT s=(wr (f k).1 (f k).2).getD j 0:=h.bit λi S p _=>p.elim;have S:=h.step (Z:=Z) (wp:=none) λi _=>by rw[cQ,o]
  have jl:=h.jl;by_cases c:j+1=LW (f k)
  ·exact⟨k,⟨Yb _,a⟩,.inr (.inr (.inl ⟨d,0,by lia,S.2 c,by unfold LW at l c;lia⟩))⟩
  ·have:j+1<LW (f k):=by unfold LW at c ⊢;lia
   exact⟨k,⟨Yb _,a⟩,.inr (.inl ⟨d,j+1,S.1 this,by unfold LW at l ⊢;lia⟩)⟩
 ·have o:cT s=tbt c:=by
   have b:=h.bit λi S p e=>p.elim;unfold tbt;by_cases c1:c=1
   ·rw[if_pos c1];refine b.2.1 c1 ?_;by_cases z:q k=0
    ·exact⟨1,by lia,λy=>y,by lia⟩
    ·exact⟨0,by lia,λy=>y,λy=>z y.symm⟩
   ·rw[if_neg c1];exact b.1 c1
  have S:=h.step (Z':=Z) (wp:=none) g (C.vt k) (Yb _) u (by lia) w λi S z _ _ I D=>by
   rw[cQ,o];by_cases c9:9<=c
   ·refine .inl ⟨c9,?_⟩;unfold tlN tbt;rw[if_neg (by lia)];exact D
   ·exact .inr ⟨by lia,.inl rfl⟩
  by_cases c1:c=8+v
  ·have r:=S.2 c1 λ_ z=>z;rw[<-C.nx k d]at r;exact⟨k+1,⟨XZ _,d⟩,.inr (.inr (.inr ⟨3,by decide,by decide,r,by lia⟩))⟩
  ·exact⟨k,⟨Yb _,a⟩,.inr (.inr (.inl ⟨d,c+1,by lia,S.1 (by lia),by lia⟩))⟩
 ·by_cases c:r=1
  ·exact⟨k,⟨Yb _,a⟩,.inl ⟨h.step.2 c,by lia⟩⟩
  ·exact⟨k,⟨Yb _,a⟩,.inr (.inr (.inr ⟨r-1,by lia,by lia,h.step.1 (by lia),by lia⟩))⟩
def a8X (a:FrN (n,ds)):(wr n ds).length<=103:=by
 have h:=b0V (fb (n:Int) ds);have l:=nG (n:Int) ds;have b:=a.2.1;lia
def Dis.step (C:zM m v N B q f){s:List PS}(wf:∀(i:Nat)(S:PS),s[i]? =some S->Wf S)(h:Dis v N B f k (n+1) s):Nm v N B q f 9 1 k n (bM none s)\/Dis v N B f k n (bM none s):=by
 have D:=C.v2;have g:∀i,1<=(B k i).vt:=λi=>by rw[C.vt];lia
 have a:R1 (B k) 6 (bM none s)->16+tg v N f k<=n->Nm v N B q f 9 1 k n (bM none s)\/Dis v N B f k n (bM none s):=λr l=> .inr (.inr (.inr (.inr (.inr (.inl ⟨6,by decide,by decide,r,by lia⟩)))));rcases h with ⟨j,h,E,l⟩ | ⟨c,p,h,l⟩ | ⟨e,t,h,l⟩ | ⟨e,u,h,l⟩ | ⟨d,F,G,h,l⟩ | ⟨L,H,h,l⟩
 ·have jl:j<103:=by
   obtain⟨I,J,y,x,K,w,_⟩:=h.ex;exact Yl w.jl (a8X w.hf)
  rcases h.step wf g with r | r | r
  ·exact a r (by lia)
  ·exact .inr (.inl ⟨j+1,r,by lia,by lia⟩)
  ·exact .inr (.inr (.inl ⟨0,by decide,r,by lia⟩))
 ·rcases h.step p wf (C.vt k) (by lia) with r | ⟨z,r⟩
  ·exact a r (by lia)
  ·exact .inr (.inr (.inl ⟨c+1,z,r,by lia⟩))
 ·rcases h.step t wf g with r | ⟨o,r⟩
  ·exact a r (by lia)
  ·exact .inr (.inr (.inr (.inl ⟨e+1,o,r,by lia⟩)))
 ·rcases h.step u wf g with r | ⟨o,r⟩
  ·exact a r (by lia)
  ·exact .inr (.inr (.inr (.inr (.inl ⟨e+1,o,r,by lia⟩))))
 ·obtain⟨b,rfl⟩:∃b,d=b+1:=⟨d-1,by lia⟩
  by_cases c:b=0
  ·exact .inr (.inr (.inr (.inr (.inr (.inr ⟨6,by decide,h.step.2 c,by lia⟩)))))
  ·exact .inr (.inr (.inr (.inr (.inr (.inl ⟨b,by lia,by lia,h.step.1 (by lia),by lia⟩)))))
 ·rcases h.step with ⟨A,rfl,r⟩ | r
  ·exact .inr (.inr (.inr (.inr (.inr (.inr ⟨A,by lia,r,by lia⟩)))))
  ·exact .inl (.inr (.inr (.inr ⟨3,by decide,by decide,r,by lia⟩)))
def Nm.mono {o:Int}{Z' p:Nat}{s:List PS}(C:T<=o)(D:Z<=Z')(E:n<=p)(h:Nm v N B q f T Z k n s):Nm v N B q f o Z' k p s:=by
 rcases h with ⟨h,l⟩ | ⟨m,j,h,l⟩ | ⟨m,c,u,h,l⟩ | ⟨r,w,A,h,l⟩
 ·exact .inl ⟨λi S e=>let ⟨t,k,a,b,c⟩:=h i S e;⟨t,k,a,by lia,c⟩,by lia⟩
 ·refine .inr (.inl ⟨m,j,⟨h.hf,h.j1,h.jl,h.xq,let ⟨t,a,b,c⟩:=h.sp;⟨t,a,by lia,c⟩,λi S e x y=>let ⟨t,a,b,c⟩:=h.al i S e x y;⟨t,a,by lia,c⟩⟩,by lia⟩)
 ·refine .inr (.inr (.inl ⟨m,c,u,⟨h.hf,h.xq,let ⟨t,z,a,b,d,e⟩:=h.sp;⟨t,z,a,by lia,by lia,e⟩,λi S e x y=>let ⟨t,z,a,b,d,g⟩:=h.al i S e x y;⟨t,z,a,by lia,by lia,g⟩⟩,by lia⟩))
 ·exact .inr (.inr (.inr ⟨r,w,A,λi S e=>let ⟨t,a,b,c⟩:=h i S e;⟨t,a,by lia,c⟩,by lia⟩))
def Nm.wrong (C:zM m v N B q f){p:Nat}{s:List PS}(u:s.length=m)(F:p<m)(wf:∀(i:Nat)(S:PS),s[i]? =some S->Wf S)(d:k<=N)(h:Nm v N B q f 0 0 k n s):∃k',(k<=k'/\k'<=N)/\(Nm v N B q f 9 1 k' (n+140) (bM (some p) s)\/Dis v N B f k' (n+140) (bM (some p) s)):=by
 have G:=C.m2;have w:=C.v2;have pl:p<s.length:=by lia
 have t:∀i,1<=(B k i).vt:=λi=>by rw[C.vt];lia
 have o:R1 (B k) 6 (bM (some p) s)->tg v N f k<=n+124->∃k',(k<=k'/\k'<=N)/\(Nm v N B q f 9 1 k' (n+140) (bM (some p) s)\/Dis v N B f k' (n+140) (bM (some p) s)):=λr l=>⟨k,⟨Yb _,d⟩,.inr (.inr (.inr (.inr (.inr (.inl ⟨6,by decide,by decide,r,by lia⟩)))))⟩
 rcases h with ⟨h,l⟩ | ⟨e,j,h,l⟩ | ⟨e,c,x,h,l⟩ | ⟨r,_,H,h,l⟩
 ·by_cases c:k<N
  ·have W:=C.win k c;rw[<-u]at W;rcases zP h pl W wf t with r | r
   ·exact o r (by lia)
   ·exact⟨k,⟨Yb _,d⟩,.inr (.inl ⟨1,r,by decide,by lia⟩)⟩
  ·have:k=N:=by lia
   subst this;exact⟨k,⟨Yb _,d⟩,.inr (.inr (.inr (.inr (.inl ⟨0,by decide,a2H h pl (λi y=>C.dn i (u▸y)),by lia⟩))))⟩
 ·have z:=rP (v:=v) (f:=f) e;have l3:=C.ln k e;have jl:j<LW (f k):=h.jl;rcases a2E h pl (by lia) wf t (λi A g D a b=>C.ds k d i A g D (by lia) (by lia)) with r | r | r | r
  ·exact o r (by lia)
  ·exact⟨k,⟨Yb _,d⟩,.inr (.inl ⟨j+1,r,by lia,by lia⟩)⟩
  ·exact⟨k,⟨Yb _,d⟩,.inr (.inr (.inl ⟨0,by decide,r,by lia⟩))⟩
  ·exact⟨k,⟨Yb _,d⟩,.inr (.inr (.inr (.inl ⟨0,by decide,r,by lia⟩)))⟩
 ·have z:=rP (v:=v) (f:=f) e;have l3:=C.ln k e;have I:=C.v5;rcases a2F h pl (by lia) (C.vt k) w x wf with r | ⟨E,r⟩ | ⟨E,r⟩
  ·exact o r (by lia)
  ·exact⟨k,⟨Yb _,d⟩,.inl (Nm.mono (T:=0) (by decide) (Yb 1) (Yb _) (.inr (.inr (.inl ⟨e,c+1,by lia,r,by lia⟩))))⟩
  ·rw[<-C.nx k e]at r;exact⟨k+1,⟨XZ _,e⟩,.inl (Nm.mono (T:=0) (Z:=1) (by decide) (Yb 1) (Yb _) (.inr (.inr (.inr ⟨3,by decide,by decide,r,by lia⟩))))⟩
 ·exact o (a2G h pl wf t) (by lia)
def b9L {s:List PS}(h:∀(i:Nat)(S:PS),s[i]? =some S->Wf S):∀(i:Nat)(S:PS),(bM wp s)[i]? =some S->Wf S:=λi S e=>by
 obtain⟨a,b,rfl⟩:=dZ e;refine(h i a b).hear ?_;unfold hrd cT;lia
def oR (wp:Nat->Option Nat)(s:List PS):Nat->List PS
 |0=>s
 |t+1=>bM (wp t) (oR wp s t)
theorem tK {wp:Nat->Option Nat}{s:List PS}:∀t,(oR wp s t).length=s.length
 |0=>rfl
 |t+1=>iK.trans (tK t)
theorem xO {wp:Nat->Option Nat}{s:List PS}(h:∀(i:Nat)(S:PS),s[i]? =some S->Wf S):∀t (i:Nat)(S:PS),(oR wp s t)[i]? =some S->Wf S
 |0=>h
 |t+1=>b9L (xO h t)
def b7R (v N:Nat)(B:Nat->Nat->PS)(q:Nat->Nat)(f:Nat->Fr)(k n:Nat)(s:List PS):Prop:=Nm v N B q f 9 1 k n s\/Dis v N B f k n s
def Nm.pos {s:List PS}(b:k<=N)(h:Nm v N B q f T Z k 0 s):k=N/\FPh (B k) T s:=by
 rcases h with ⟨h,l⟩ | ⟨a,j,h,l⟩ | ⟨a,c,d,h,l⟩ | ⟨r,e,g,h,l⟩
 ·refine⟨?_,h⟩;by_cases c:k<N
  ·rw[rP c]at l;lia
  ·lia
 ·lia
 ·lia
 ·lia
def b7R.step (C:zM m v N B q f){s:List PS}(hs:s.length=m)(wf:∀(i:Nat)(S:PS),s[i]? =some S->Wf S)(kN:k<=N)(h:b7R v N B q f k n s):∃k',(k<=k'/\k'<=N)/\b7R v N B q f k' (n-1) (bM none s):=by
 have o:=C.v2;cases n with
 | zero=>
  rcases h with h | h
  ·obtain⟨rfl,g⟩:=h.pos kN;exact⟨k,⟨Yb _,kN⟩,.inl (.inl ⟨g.idle (by decide) (λi l=>C.dn i (hs▸l)),by rw[a2N];exact YW _⟩)⟩
  ·rcases h with ⟨j,_⟩ | ⟨c,a⟩ | ⟨e,a⟩ | ⟨e,a⟩ | ⟨d,_⟩ | ⟨L,_,_,b⟩ <;> lia
 | succ n=>
  rcases h with h | h
  ·obtain⟨k',a,b⟩:=h.step C (by decide) (by lia) hs kN;exact⟨k',a,.inl b⟩
  ·exact⟨k,⟨Yb _,kN⟩,h.step C wf⟩
def Nm.step0 (C:zM m v N B q f){s:List PS}(hs:s.length=m)(kN:k<=N)(h:Nm v N B q f 0 0 k n s):∃k',(k<=k'/\k'<=N)/\Nm v N B q f 0 0 k' (n-1) (bM none s):=by
 cases n with
 | zero=>
  obtain⟨rfl,g⟩:=h.pos kN;exact⟨k,⟨Yb _,kN⟩,.inl ⟨g.idle (by decide) (λi a=>C.dn i (hs▸a)),by rw[a2N];exact YW _⟩⟩
 |succ n=>exact h.step C (by decide) (YW _) hs kN
def wrg (o:Option (Nat×Nat))(t:Nat):Option Nat:=match o with
 |none=>none
 |some (p,t0)=>if t=t0 then some p else none
theorem b8D (C:zM m v N B q f){s:List PS}{o:Option (Nat×Nat)}(ho:∀p t,o=some (p,t)->p<m)(hs:s.length=m)(wf:∀(i:Nat)(S:PS),s[i]? =some S->Wf S)(h0:FPh (B 0) 0 s):∀t,∃k,k<=N/\((Nm v N B q f 0 0 k (tg v N f 0-t) (oR (wrg o) s t)/\∀p t0,o=some (p,t0)->t<=t0)\/∃n,b7R v N B q f k n (oR (wrg o) s t)/\(k=N\/n<=tg v N f 0+141-t)/\∀p t0,o=some (p,t0)->t0<t)
 |0=>⟨0,YW _,.inl ⟨.inl ⟨h0,Yb _⟩,λ_ _ _=>YW _⟩⟩
 | t + 1 =>by
  obtain⟨k,kN,h⟩:=b8D C ho hs wf h0 t;have hl:(oR (wrg o) s t).length=m:=(tK t).trans hs;have hw:=xO (wp:=wrg o) wf t;have en:∀{w:Option Nat},wrg o t=w->oR (wrg o) s (t+1)=bM w (oR (wrg o) s t):=λ{w} e=>by
   show bM (wrg o t) _=_;rw[e]
  have none_of:(¬ ∃p,o=some (p,t))->wrg o t=none:=λc=>by
   unfold wrg;split
   ·rfl
   ·rename_i p t0;exact if_neg λz=>c ⟨p,by rw[z]⟩
  rcases h with ⟨h,ht⟩ | ⟨n,h,hn,ht⟩
  ·by_cases c:∃p,o=some (p,t)
   ·obtain⟨p,rfl⟩:=c;have ew:wrg (some (p,t)) t=some p:=if_pos rfl;obtain⟨k',a,b⟩:=h.wrong C hl (ho p t rfl) hw kN;refine⟨k',a.2,.inr ⟨_,by rw[en ew];exact b,?_,λp' t0 e=>by cases e;exact Xr _⟩⟩;by_cases z:t<=tg v N f 0
    ·right;lia
    ·left;rw[show tg v N f 0-t=0 by lia]at h;have:=(h.pos kN).1;lia
   ·obtain⟨k',a,b⟩:=h.step0 C hl kN;refine⟨k',a.2,.inl ⟨by rw[en (none_of c),Nat.sub_succ];exact b,λp t0 e=>?_⟩⟩;have:=ht p t0 e;have:t≠t0:=λz=>c ⟨p,by rw[e,z]⟩;lia
  ·have c:¬ ∃p,o=some (p,t):=λ⟨p,e⟩=>absurd (ht p t e) (Y1 _);obtain⟨k',a,b⟩:=h.step C hl hw kN;refine⟨k',a.2,.inr ⟨_,by rw[en (none_of c)];exact b,?_,λp t0 e=>Nat.lt_succ_of_lt (ht p t0 e)⟩⟩;rcases hn with z | z
   ·left;lia
   ·right;lia
def Nm.base {s:List PS}(h:Nm v N B q f T Z k n s)(i:Nat)(S:PS)(e:s[i]? =some S):S.wt=(B k i).wt/\S.up=(B k i).up:=by
 rcases h with ⟨h,_⟩ | ⟨_,j,h,_⟩ | ⟨_,c,_,h,_⟩ | ⟨r,_,_,h,_⟩
 ·obtain⟨t,k,_,_,rfl⟩:=h i S e;exact⟨rfl,rfl⟩
 ·by_cases c:i=q k
  ·obtain⟨t,_⟩:=h.sp;lia
  ·obtain⟨t,_,_,rfl | ⟨_,_,_,_,_,_,rfl⟩⟩:=h.al i S e (λz=>z) c
   ·exact⟨rfl,rfl⟩
   ·exact⟨rfl,rfl⟩
 ·by_cases c:i=q k
  ·obtain⟨t,z,_,_,_⟩:=h.sp;lia
  ·obtain⟨t,z,_,_,_,_,rfl⟩:=h.al i S e (λz=>z) c;exact⟨rfl,rfl⟩
 ·obtain⟨t,_,_,rfl⟩:=h i S e;exact⟨rfl,rfl⟩
def At8.base {B:PS}(h:At8 B S):S.wt=B.wt/\S.up=B.up:=by
 obtain⟨n,rfl,_⟩:=h.ex;exact⟨rfl,rfl⟩
def Dis.base (C:zM m v N B q f){s:List PS}(wf:∀(i:Nat)(S:PS),s[i]? =some S->Wf S)(h:Dis v N B f k n s)(i:Nat)(S:PS)(e:s[i]? =some S):S.wt=(B k i).wt/\S.up=(B k i).up:=by
 have A:=C.v2;have o:∀i,1<=(B k i).vt:=λi=>by rw[C.vt];lia
 rcases h with ⟨j,h,_⟩ | ⟨c,p,h,_⟩ | ⟨r,_,h,_⟩ | ⟨r,_,h,_⟩ | ⟨d,_,_,h,_⟩ | ⟨L,_,h,_⟩
 ·obtain⟨t,y,g,x,z,w,xs,_,l⟩:=h.ex;exact(b4A w wf o xs (b3G l) i S e).base
 ·obtain⟨t,y,g,x,z,w,xs,_,l⟩:=h.ex;exact(b4B w p wf o xs (b3H l) i S e).base
 ·obtain⟨Y,_,rfl⟩:=h.al i S e;exact⟨rfl,rfl⟩
 ·obtain⟨_,⟨D,rfl⟩ | rfl⟩:=h.al i S e
  ·exact⟨rfl,rfl⟩
  ·exact⟨rfl,rfl⟩
 ·cases h.al i S e with
  |u a b=>exact⟨rfl,rfl⟩
  |f a b=>exact⟨rfl,rfl⟩
  |s a b c=>exact⟨rfl,rfl⟩
 ·cases h i S e with
  |f a b=>exact⟨rfl,rfl⟩
  |s a b c=>exact⟨rfl,rfl⟩
def c6B (C:zM m v N B q f){s:List PS}{o:Option (Nat×Nat)}(r:∀p t,o=some (p,t)->p<m)(u:s.length=m)(wf:∀(i:Nat)(S:PS),s[i]? =some S->Wf S)(w:FPh (B 0) 0 s)(t:Nat):∃k,k<=N/\(∀(i:Nat)(S:PS),(oR (wrg o) s t)[i]? =some S->S.wt=(B k i).wt/\S.up=(B k i).up)/\(tg v N f 0+141<=t->k=N):=by
 obtain⟨k,g,⟨h,_⟩ | ⟨n,h,x⟩⟩:=b8D C r u wf w t
 ·refine⟨k,g,h.base,λl=>?_⟩;rw[show tg v N f 0-t=0 by lia]at h;exact(h.pos g).1
 ·refine ⟨k,g,?_,λl=>?_⟩
  ·rcases h with h | h
   ·exact h.base
   ·exact h.base C (xO wf t)
  ·rcases x with z | z
   ·exact z
   ·have y:n=0:=by lia
    subst y;rcases h with h | h
    ·exact(h.pos g).1
    ·rcases h with ⟨j,_,a⟩ | ⟨c,a,_,b⟩ | ⟨e,a,_,b⟩ | ⟨e,a,_,b⟩ | ⟨d,_,_,_,b⟩ | ⟨L,_,_,b⟩ <;> lia
def c3P (h:n<=9000):n<sizeLine:=Xk h (by decide)
def b4D (H:Hp)(g:Addr)(ps:List (Int×Int))(o:Own):Prop:=∃c c' d,(H g=some (FnO g sH iqH [("kept",c)] c')/\H c'=some (lX c' iqH)/\H c=some (lG c (.ref d))/\H d=some (.dT (kvP ps)))/\¬ o g/\¬ o c/\¬ o c'/\¬ o d
def b4D.moved {g:Addr}(h:b4D H g ps o)(m:Mv o H o' H'):rA H' g ps:=by
 obtain⟨c,a,d,⟨b,e,f,i⟩,j,k,l,n⟩:=h;exact⟨c,a,d,m.1 _ _ b (.inl j),m.1 _ _ e (.inl l),m.1 _ _ f (.inl k),m.1 _ _ i (.inl n)⟩
def rA.fnE {g:Addr}(h:rA H g ps):FnE K H g:=by
 obtain⟨c,b,d,a,f⟩:=h;exact .inr ⟨_,a,λ_ ⟨_,_,_,e⟩=>⟨_,_,_,_,e⟩⟩
def a1O (ps:List (Int×Int))(i t:Nat)(b:Int):Int:=if ((i:Int),(t:Int))∈ps then 1-b else b
def b7A {t:Nat}(h:b=0\/b=1):a1O ps i t b=0\/a1O ps i t b=1:=by
 unfold a1O;split
 ·lia
 ·exact h
def iM (ps:List (Int×Int))(R:RS):Nat->RS
 |0=>R
 |n+1=>sY (iM ps R n) ((List.range R.ps.length).map λi=>a1O ps i (R.bo.length+n) (a1W (iM ps R n))) (a1W (iM ps R n))
theorem tL (ps:List (Int×Int))(R:RS):∀n:Nat,(iM ps R n).ps.length=R.ps.length
 |0=>rfl
 |n+1=>((lA (iM ps R n) _ _).2.2.1).trans (tL ps R n)
theorem a4O (ps:List (Int×Int))(R:RS):∀n:Nat,(iM ps R n).bo.length=R.bo.length+n
 |0=>rfl
 | n+1=>by
  show ((iM ps R n).bo++[_]).length=_;rw[Yc,a4O ps R n];rfl
def a6W (K:W.Frag)(C:Addr)(A:Cs):Sp:=λa H Q _=>∃(r:Addr)(R:RS)(o:Own)(w:Rw)(n:Nat)(f:Addr)(ps:List (Int×Int)),a= [.ref r,.int (n:Int),.ref f]/\dC C A H r R o w/\R.ps≠ []/\n<=980/\(∀k,k<=n->SzR (iM ps R k))/\b4D H f ps o/\
 ∀l H1 o',mL C A H1 r (iM ps R n) o'->Mv o H o' H1->H1 l=none->Q (.ref l) (upd H1 l (.lst (((List.range n).map λk=>a1W (iM ps R k)).map V.int)))
def b5B:Sp:=λe H Q _=>∃(a:Addr)(qs:List Addr)(ps:List (Int×Int)),e= [.ref a]/\H a=some (.lst (qs.map V.ref))/\PrT H qs ps/\ps.length<=200/\qR 161 a0N iqH H/\∀g c c' d H',H g=none->H c=none->H d=none->(H c'=none\/a8N 161 a0N c' H)->(∀b o,b≠161->H b=some o->H' b=some o)->qR 161 a0N iqH H'->a8N 161 a0N c' H'->H' g=some (FnO g sH iqH [("kept",c)] c')->H' c'=some (lX c' iqH)->H' c=some (lG c (.ref d))->H' d=some (.dT (kvP ps))->Q (.ref g) H'
structure Ln (R:RS)(m t:Nat):Prop where
 ps:R.ps.length=m
 sa:R.sa.length=m
 he:R.he.length=m
 bo:R.bo.length=t
 sl:∀x∈R.sa,x.length=t
 hl:∀x∈R.he,x.length=t
 ev:R.ev.length<=m*t
def b4J {R:RS}{t:Nat}(h:Ln R m t)(g:hs.length=m):(sY R hs b).ps=R.ps.mapIdx λi S=>(aZ S (hs.getD i 0)).2:=by
 refine List.ext_getElem? λi=>?_;show (bH R hs R.ps.length).ps[i]? =_;rw[X3];by_cases c:i<R.ps.length
 ·have l:=h.ps;have a:=Yd c;have d:hs[i]? =some (hs.getD i 0):=by rw[Yd (by lia),Yj,Yd (by lia)];rfl
  have e:=Yd (l:=R.sa) (i:=i) (by rw[h.sa];lia);have f:=Yd (l:=R.he) (i:=i) (by rw[h.he];lia);rw[(a5T a d e f R.ps.length c).1,a];rfl
 ·rw[List.getElem?_eq_none (by rw[(lA R hs _).2.2.1];lia),List.getElem?_eq_none (by lia)];rfl
theorem a5S {R:RS}{t:Nat}(h:Ln R m t)(hl:hs.length=m):∀n,n<=m->(∀i x,(bH R hs n).sa[i]? =some x->x.length=if i<n then t+1 else t)/\(∀i x,(bH R hs n).he[i]? =some x->x.length=if i<n then t+1 else t)/\(bH R hs n).ev.length<=m*t+n
 |0,_=>⟨λi x e=>by rw[if_neg (Jb _)];exact h.sl x (YF e),λi x e=>by rw[if_neg (Jb _)];exact h.hl x (YF e),h.ev⟩
 | n + 1, hn=>by
  obtain⟨a1,a2,a3⟩:=a5S h hl n (by lia);have l:=h.ps;have e1:=Yd (l:=R.ps) (i:=n) (by lia);have e2:=Yd (l:=hs) (i:=n) (by lia);have e3:=Yd (l:=R.sa) (i:=n) (by rw[h.sa];lia);have e4:=Yd (l:=R.he) (i:=n) (by rw[h.he];lia);rw[kZ e1 e2 e3 e4];have x3:=h.sl _ (YF e3);have x4:=h.hl _ (YF e4);refine⟨λi x e=>?_,λi x e=>?_,?_⟩
  ·change ((bH R hs n).sa.set n _)[i]? =some x at e;rw[Y8]at e;split at e
   ·rename_i c;split at e
    ·cases e;rw[if_pos (by lia),Yc,x3];rfl
    ·cases e
   ·rename_i c;rw[a1 i x e];by_cases d:i<n
    ·rw[if_pos d,if_pos (by lia)]
    ·rw[if_neg d,if_neg (by lia)]
  ·change ((bH R hs n).he.set n _)[i]? =some x at e;rw[Y8]at e;split at e
   ·rename_i c;split at e
    ·cases e;rw[if_pos (by lia),Yc,x4];rfl
    ·cases e
   ·rename_i c;rw[a2 i x e];by_cases d:i<n
    ·rw[if_pos d,if_pos (by lia)]
    ·rw[if_neg d,if_neg (by lia)]
  ·change ((bH R hs n).ev++evt _ _ _).length<=_;rw[Yc];have:∀a b c,(evt a b c).length<=1:=λa b c=>by
    unfold evt;split
    ·exact YW _
    ·exact Yb _
   have:=this R.bo.length n (aZ R.ps[n] hs[n]).1;lia
def Ln.turn {R:RS}{t:Nat}(h:Ln R m t)(d:hs.length=m):Ln (sY R hs b) m (t+1):=by
 have g:=lA R hs R.ps.length;have l:=h.ps;obtain⟨f,j,k⟩:=a5S h d R.ps.length (by lia);refine⟨g.2.2.1.trans h.ps,g.2.2.2.1.trans h.sa,g.2.2.2.2.1.trans h.he,?_,λx c=>?_,λx c=>?_,?_⟩
 ·show (R.bo++[b]).length=_;rw[Yc,h.bo];rfl
 ·obtain⟨i,a⟩:=XV.mp c;have:=f i x a;have:=(Ye.mp a).1;have e:=g.2.2.2.1.trans h.sa;change i<(bH R hs R.ps.length).sa.length at this;lia
 ·obtain⟨i,a⟩:=XV.mp c;have:=j i x a;rw[this,if_pos];have:=(Ye.mp a).1;have e:=g.2.2.2.2.1.trans h.he;change i<(bH R hs R.ps.length).he.length at this;lia
 ·show (bH R hs R.ps.length).ev.length<=_;lia
def prs (o:Option (Nat×Nat)):List (Int×Int):=match o with
 |none=>[]
 |some (p,t)=>[(((p:Nat):Int),((t:Nat):Int))]
def a5I {o:Option (Nat×Nat)}{t:Nat}:(((i:Nat):Int),(t:Int))∈prs o↔wrg o t=some i:=by
 cases o with
 |none=>exact⟨(λz=>by cases z),λz=>by cases z⟩
 | some x=>
  obtain⟨p,d⟩:=x;show _∈ [(((p:Nat):Int),((d:Nat):Int))]↔(if t=d then some p else none)=some i;grind
def b6Z {o:Option (Nat×Nat)}{t:Nat}:a1O (prs o) i t b=hrd (wrg o t) b i:=by
 unfold a1O hrd;by_cases c:(((i:Nat):Int),(t:Int))∈prs o
 ·rw[if_pos c,if_pos (a5I.mp c)]
 ·rw[if_neg c,if_neg λz=>c (a5I.mpr z)]
def c2S (R:RS):a1W R=cT R.ps:=rfl
theorem xQ {R:RS}{t:Nat}(h:Ln R m t):∀n,Ln (iM ps R n) m (t+n)
 |0=>h
 |n+1=>(xQ h n).turn (by rw[Ya,YI,h.ps])
theorem xP {o:Option (Nat×Nat)}{R:RS}(h:Ln R m 0):∀n,(iM (prs o) R n).ps=oR (wrg o) R.ps n
 |0=>rfl
 | n + 1=>by
  have L:=xQ (ps:=prs o) h n;show (sY (iM (prs o) R n) _ _).ps=_;rw[b4J L (by rw[Ya,YI,h.ps]),xP h n];show _=bM _ _;unfold bM;refine List.ext_getElem? λi=>?_;rw[X3,X3];cases e:(oR (wrg o) R.ps n)[i]? with
  |none=>rfl
  | some S=>
   have il:i<R.ps.length:=by
    have:=(Ye.mp e).1;rw[tK]at this;exact this
   show some _=some _;rw[Yj,Yn,Xx il];show some (aZ S (a1O (prs o) i (R.bo.length+n) (a1W (iM (prs o) R n)))).2=_;rw[b6Z,h.bo,Nat.zero_add,c2S,xP h n]
def b5L {R:RS}(h:Ln R m 0)(c:m<=5)(a:n<990)(d:∀S∈(iM ps R n).ps,S.up.length<900):SzR (iM ps R n):=by
 have L:=xQ (ps:=ps) h n;rw[Nat.zero_add]at L;refine⟨by rw[L.bo];exact a,λx b=>by rw[L.sl x b];exact a,λx b=>by rw[L.hl x b];exact a,?_,d⟩;have:=L.ev;have:m*n<=5*n:=Nat.mul_le_mul_right _ c;lia
structure F92 (m:Nat)(fs:List (Nat×Nat×List Int)):Prop where
 ok:∀f∈fs,f.1<m/\FrN f.2
 un:∀f∈fs,∀g∈fs,f.2.1=g.2.1->f.1=g.1
def Ldr (m:Nat)(g:Nat->List Fr)(q:Nat):Prop:=q<m/\g q≠ []/\∀j,j<m->j≠q->g j≠ []->((g q).headD (0, [])).1<((g j).headD (0, [])).1
open Classical in
noncomputable def pk (m:Nat)(g:Nat->List Fr):Nat:=if h:∃q,Ldr m g q then Classical.choose h else 0
def c0R (h:∃q,Ldr m g q):Ldr m g (pk m g):=by
 unfold pk;grind
noncomputable def Bk (m:Nat)(B0:Nat->PS):Nat->Nat->PS
 |0=>B0
 |k+1=>nxB (Bk m B0 k) (pk m λi=>(Bk m B0 k i).wt) ((Bk m B0 k (pk m λi=>(Bk m B0 k i).wt)).wt.headD (0, []))
noncomputable abbrev qk (m:Nat)(B0:Nat->PS)(k:Nat):Nat:=pk m λi=>(Bk m B0 k i).wt
noncomputable abbrev fk (m:Nat)(B0:Nat->PS)(k:Nat):Fr:=(Bk m B0 k (qk m B0 k)).wt.headD (0, [])
def b1R {B:Nat->PS}{q:Nat}{f:Fr}(i:Nat):(nxB B q f i).wt=if i=q then (B i).wt.tail else (B i).wt:=by
 unfold nxB;split <;> rfl
def c4J {B:Nat->PS}{q:Nat}{f:Fr}(i:Nat):(nxB B q f i).vt=(B i).vt:=by
 unfold nxB;split <;> rfl
def mX (m:Nat)(g:Nat->List Fr):Nat:=((List.range m).map λi=>(g i).length).sum
def iZ:mX (m+1) g=mX m g+(g m).length:=by
 unfold mX;rw[Jc,Yh,List.sum_append];rfl
theorem vH:∀{m:Nat},mX m g=0->∀i,i<m->g i= []
 |0,_,i,hi=>absurd hi (Jb _)
 | m+1,h,i,hi=>by
  rw[iZ]at h;by_cases c:i=m
  ·rw[c];exact List.length_eq_zero_iff.mp (by lia)
  ·exact vH (m:=m) (by lia) i (by lia)
theorem a0D:∀{m:Nat},0<mX m g->∃i,i<m/\g i≠ []
 |0,h=>absurd h (Y1 0)
 | m +1,h=>by
  rw[iZ]at h;by_cases c:g m= []
  ·obtain⟨i,hi,e⟩:=a0D (m:=m) (by rw[c]at h;exact h);exact⟨i,by lia,e⟩
  ·exact⟨m,Xr _,c⟩
theorem vJ {q:Nat}(hq:g q≠ []):∀{m:Nat},mX m (λi=>if i=q then (g i).tail else g i)+(if q<m then 1 else 0)=mX m g
 |0=>by rw[if_neg (Jb _)];rfl
 | m + 1=>by
  have ih:=vJ hq (m:=m);rw[iZ,iZ];have l:1<=(g q).length:=X5.mpr hq;by_cases c:m=q
  ·subst c;rw[if_neg (Y1 _)]at ih;rw[if_pos rfl,if_pos (Xr _),List.length_tail];lia
  ·rw [if_neg c];by_cases d:q<m
   ·rw[if_pos d]at ih;rw[if_pos (by lia)];lia
   ·rw[if_neg d]at ih;rw[if_neg (by lia)];lia
structure Rows (m v:Nat)(B0:Nat->PS):Prop where
 m2:2<=m
 v2:2<=v
 v5:v<=5
 vt:∀i,(B0 i).vt=v
 ok:∀i,i<m->∀f∈(B0 i).wt,FrN f
 un:∀i j f f',i<m->j<m->f∈(B0 i).wt->f'∈(B0 j).wt->f.1=f'.1->i=j
theorem Rows.sub (_:Rows m v B0):∀k i,∀f∈(Bk m B0 k i).wt,f∈(B0 i).wt
 |0,i,f,hf=>hf
 | k+1,i,f,hf=>by
  change f∈(nxB _ _ _ i).wt at hf;rw[b1R]at hf;split at hf
  ·exact Rows.sub ‹_› k i f (List.mem_of_mem_tail hf)
  ·exact Rows.sub ‹_› k i f hf
def Rows.ldr (R:Rows m v B0)(h:0<mX m λi=>(Bk m B0 k i).wt):Ldr m (λi=>(Bk m B0 k i).wt) (qk m B0 k):=by
 refine c0R ?_;obtain⟨i,g,e⟩:=a0D h;obtain⟨q,n,⟨b,c,o⟩,mn⟩:=uD (λi n=>i<m/\(Bk m B0 k i).wt≠ []/\((Bk m B0 k i).wt.headD (0, [])).1=n) _ i _ (Yb _) ⟨g,e,rfl⟩;refine⟨q,b,c,λj d jq je=>?_⟩;have le:=mn j _ ⟨d,je,rfl⟩;have f:∀{l:List Fr},l≠ []->l.headD (0, [])∈l:=λ{l} z=>by
  cases l with
  |nil=>exact absurd rfl z
  |cons a r=>exact Yt
 have ne:((Bk m B0 k q).wt.headD (0, [])).1≠((Bk m B0 k j).wt.headD (0, [])).1:=λz=>jq (R.un j q _ _ d b (R.sub k j _ (f je)) (R.sub k q _ (f c)) z.symm);lia
theorem Rows.sum (R:Rows m v B0)(hN:mX m (λi=>(B0 i).wt)=N):∀k,k<=N->mX m (λi=>(Bk m B0 k i).wt)=N-k
 |0,_=>hN
 | k+1,hk=>by
  have ih:=R.sum hN k (by lia);have L:=R.ldr (k:=k) (by lia);have e:(λi=>(Bk m B0 (k+1) i).wt)=λi=>if i=qk m B0 k then (Bk m B0 k i).wt.tail else (Bk m B0 k i).wt:=funext λi=>b1R i
  have:=vJ (g:=λi=>(Bk m B0 k i).wt) L.2.1 (m:=m);rw[if_pos L.1]at this;lia
def Rows.cx (R:Rows m v B0)(hN:mX m (λi=>(B0 i).wt)=N):zM m v N (Bk m B0) (qk m B0) (fk m B0):=by
 have hd:∀{l:List Fr},l≠ []->l.head? =some (l.headD (0, [])):=λ{l} z=>by
  cases l with
  |nil=>exact absurd rfl z
  |cons a r=>rfl
 have o:∀{l:List Fr}{g:Fr},l.head? =some g->l≠ []/\l.headD (0, [])=g:=λ{l g} z=>by
  cases l with
  |nil=>cases z
  |cons a r=>cases z;exact⟨(λy=>by cases y),rfl⟩
 have b:∀k,k<N->Win m (Bk m B0 k) (qk m B0 k) (fk m B0 k):=λk d=>by
  have L:=R.ldr (k:=k) (by rw[R.sum hN k (by lia)];lia);refine⟨L.1,hd L.2.1,λi c g p=>R.ok i c g (R.sub k i g p),λj g q jq e=>?_⟩;obtain⟨s,t⟩:=o e;have:=L.2.2 j q jq s;dsimp only at this;rw[t]at this;exact this
 refine⟨R.m2,R.v2,R.v5,λk=>?_,b,λk d=>rfl,λi c=>?_,λk d i h g n c f ne e u z=>?_,λk d=>?_⟩
 ·induction k with
  |zero=>exact R.vt
  |succ k ih=>exact λi=>(c4J i).trans (ih i)
 ·exact vH (g:=λi=>(Bk m B0 N i).wt) (by rw[R.sum hN N (Yb _)];lia) i c
 ·exact ne (R.un i h g n c f (R.sub k i g (XW e)) (R.sub k h n (XW u)) z)
 ·have w:=b k d;exact a8X (w.ok _ w.hq _ (XW w.eq))
noncomputable def pK (m:Nat)(B0:Nat->PS)(k:Nat):List (Nat×Fr):=(List.range k).map λj=>(qk m B0 j,fk m B0 j)
def vO:pK m B0 (k+1)=pK m B0 k++[(qk m B0 k,fk m B0 k)]:=by
 unfold pK;rw[Jc,Yh];rfl
theorem a6M:∀k,gW (Bk m B0 k i) n=gW (B0 i) n
 |0=>rfl
 | k +1=>by
  have:gW (nxB (Bk m B0 k) (qk m B0 k) (fk m B0 k) i) n=gW (Bk m B0 k i) n:=by
   unfold nxB;split <;> rfl
  exact this.trans (a6M k)
def yP (B:PS)(i:Nat)(l:List (Nat×Fr)):List Fr:=(l.filter λx=>decide (x.1≠i) && gW B x.2.1).map Prod.snd
theorem b8O:∀k,(Bk m B0 k i).up=(B0 i).up++yP (B0 i) i (pK m B0 k)
 |0=>(Yv _).symm
 | k + 1=>by
  have ih:=b8O k;rw[vO];unfold yP at ih ⊢;rw[Jx,Yh,<-Yo,<-ih];show (nxB (Bk m B0 k) (qk m B0 k) (fk m B0 k) i).up=_;unfold nxB;by_cases c:i=qk m B0 k
  ·rw[if_pos c,Xw (by rw[Yr (λz=>z c.symm)];exact Ys)];exact(Yv _).symm
  ·rw [if_neg c];show (if gW (Bk m B0 k i) (fk m B0 k).1=true then _ else _)=_;rw[a6M k];have d1:decide ((qk m B0 k,fk m B0 k).1≠i)=true:=Ym λz=>c z.symm;by_cases w:gW (B0 i) (fk m B0 k).1=true
   ·rw[if_pos w,XO (by rw[d1];exact w)];rfl
   ·rw[if_neg w,Xw (by rw[d1];exact w)];exact(Yv _).symm
def b1O:(pK m B0 k).length=k:=by unfold pK;rw[Ya,YI]
theorem a4I {f:Nat->Fr}:∀(r k:Nat),tgo v f r k=((List.range r).map λj=>LW (f (k+j))).sum+r*(12+v)
 |0,k=>by unfold tgo;rw[Nat.zero_mul];rfl
 | r +1,k=>by
  rw[List.range_succ_eq_map,Yz,List.sum_cons,XE];show LW (f k)+12+v+tgo v f r (k+1)=_;rw[a4I r (k+1),Nat.succ_mul];have:((List.range r).map λj=>LW (f (k+1+j)))=(List.range r).map ((λj=>LW (f (k+j))) ∘ Nat.succ):=X7 λj _=>by
   show LW (f (k+1+j))=LW (f (k+(j+1)));rw[Nat.add_assoc,Nat.add_comm 1 j]
  rw[this];show LW (f k)+12+v+_=LW (f k)+_+_;lia
def b8Y {f:Nat->Fr}:tg v N f 0=((List.range N).map λj=>LW (f j)).sum+N*(12+v):=by
 have h:=a4I (v:=v) (f:=f) N 0;have e:((List.range N).map λj=>LW (f (0+j)))=(List.range N).map λj=>LW (f j):=X7 λj _=>by rw[Nat.zero_add]
 rw[e]at h;exact h
def pU (fs:List (Nat×Nat×List Int))(i:Nat):List Fr:=(fs.filter λf=>decide (f.1=i)).map λf=>f.2
def B91 (ch:Nat->Nat×Nat)(v:Nat)(fs:List (Nat×Nat×List Int))(i:Nat):PS:={ S0 (ch i).1 (ch i).2 v with wt:=pU fs i }
def uH {f:Fr}(h:f∈pU fs i):(i,f)∈fs:=by
 unfold pU at h;grind
theorem vL {p:Nat}{f:Fr}:∀{m:Nat},mX m (λi=>if i=p then f::g i else g i)=mX m g+(if p<m then 1 else 0)
 |0=>by rw[if_neg (Jb _)];rfl
 | m +1=>by
  have ih:=vL (p:=p) (f:=f) (m:=m);rw[iZ,iZ,ih];by_cases c:m=p
  ·subst c;rw[if_neg (Y1 _),if_pos rfl,if_pos (Xr _),Yk];lia
  ·rw[if_neg c];by_cases d:p<m
   ·rw[if_pos d,if_pos (by lia)];lia
   ·rw[if_neg d,if_neg (by lia)];lia
def a8E {x:Nat×Nat×List Int}:pU (x::fs)=λi=>if i=x.1 then x.2::pU fs i else pU fs i:=by
 unfold pU;grind
theorem vK:∀{fs:List (Nat×Nat×List Int)},(∀f∈fs,f.1<m)->mX m (pU fs)=fs.length
 | [],_=>by
  have:∀k,mX k (pU [])=0:=λk=>by
   induction k with
   |zero=>rfl
   |succ k ih=>rw[iZ,ih];rfl
  exact this m
 | x::fs,h=>by
  rw[a8E,vL,vK λf hf=>h f (Yp _ hf),if_pos (h x Yt)];rfl
def b0Q (c:2<=m)(d:2<=v)(g:v<=5)(F:F92 m fs):Rows m v (B91 ch v fs)/\mX m (λi=>(B91 ch v fs i).wt)=fs.length:=by
 exact⟨⟨c,d,g,λi=>rfl,λi _ f a=>(F.ok _ (uH a)).2,λi j f h _ _ a b e=>F.un _ (uH a) _ (uH b) e⟩,vK λf a=>(F.ok f a).1⟩
def oY (o:Own)(H:Hp):Prop:=¬ o 161/\∃ps,H 161=some (.tbl ps)/\TriplesOk ps.toList/\(codeAmong a0N ps.toList=none\/∃c',codeAmong a0N ps.toList=some (.ref c')/\H c'=some (lX c' iqH)/\¬ o c')
def oY.tabP (h:oY o H):qR 161 a0N iqH H:=by
 obtain⟨_,c,d,e,f⟩:=h;exact⟨c,d,e,f.imp id λ⟨g,a,b,_⟩=>⟨g,a,b⟩⟩
def oY.mv (h:oY o H)(m:Mv o H o' H'):oY o' H':=by
 obtain⟨n,e,d,f,g⟩:=h;refine⟨λz=>(m.2 _ z).elim n λy=>(by rw[d]at y;cases y),e,m.1 _ _ d (.inl n),f,g.imp id λ⟨i,a,b,c⟩=>⟨i,a,m.1 _ _ b (.inl c),λz=>(m.2 _ z).elim c λy=>by rw[b]at y;cases y⟩⟩
def oY.same (h:oY o H)(g:Same H H'):oY o H':=h.mv (Mv.of g)
section
variable {F:Hp}{R R':RS}
end
def a4V {kvs:List (Key×V)}{k:Key}{v:V}:(putK kvs k v).length<=kvs.length+1:=by
 unfold putK;grind
def b2Q (S:PS)(b:Int):(aZ S b).2.m1=S.m1/\(aZ S b).2.m2=S.m2/\(aZ S b).2.vt=S.vt/\(aZ S b).2.wt.length<=S.wt.length:=by
 have f:∀e w nx,(eQ S e w nx).2.m1=S.m1/\(eQ S e w nx).2.m2=S.m2/\(eQ S e w nx).2.vt=S.vt/\(eQ S e w nx).2.wt.length<=S.wt.length:=λe w nx=>by unfold eQ;split <;> exact⟨rfl,rfl,rfl,Yb _⟩
 have d:∀a,(cD S a).2.m1=S.m1/\(cD S a).2.m2=S.m2/\(cD S a).2.vt=S.vt/\(cD S a).2.wt.length<=S.wt.length:=λa=>by unfold cD;exact f _ _ _
 have g:∀a,(dU S a).2.m1=S.m1/\(dU S a).2.m2=S.m2/\(dU S a).2.vt=S.vt/\(dU S a).2.wt.length<=S.wt.length:=λa=>by unfold dU;exact f _ _ _
 have i:(iI S).2.m1=S.m1/\(iI S).2.m2=S.m2/\(iI S).2.vt=S.vt/\(iI S).2.wt.length<=S.wt.length:=by unfold iI;exact f _ _ _
 have j:S.wt.tail.length<=S.wt.length:=by rw[List.length_tail];lia
 cases en:S.now with
 |free k=>rw[dR en];(repeat' split) <;> first | exact d _ | exact⟨rfl,rfl,rfl,Yb _⟩
 |speaks n ds k=>rw[bL en];(repeat' split) <;> first | exact d _ | exact⟨rfl,rfl,rfl,Yb _⟩
 |reads h=>rw[cN en];(repeat' split) <;> first | exact d _ | exact⟨rfl,rfl,rfl,Yb _⟩
 |tlS v c=>rw[kY en];(repeat' split) <;> first | exact d _ | exact g _ | exact⟨rfl,rfl,rfl,Yb _⟩ | exact⟨rfl,rfl,rfl,j⟩
 |tlR n ds v c=>rw[lQ en];(repeat' split) <;> first | exact d _ | exact g _ | exact⟨rfl,rfl,rfl,Yb _⟩
 |flag l m=>rw[oF en];(repeat' split) <;> first | exact⟨rfl,rfl,rfl,Yb _⟩
 |settles m=>rw[jW en];(repeat' split) <;> first | exact i | exact⟨rfl,rfl,rfl,Yb _⟩
 |rests l=>rw[iH en];(repeat' split) <;> first | exact d _ | exact⟨rfl,rfl,rfl,Yb _⟩
 |off=>rw[a1G en];exact⟨rfl,rfl,rfl,Yb _⟩
theorem a0K {wp:Nat->Option Nat}{s:List PS}{t:Nat}:∀(b i:Nat)(S:PS),(oR wp s (t+b))[i]? =some S->∃S',(oR wp s t)[i]? =some S'/\S.m1=S'.m1/\S.m2=S'.m2/\S.wt.length<=S'.wt.length
 |0,i,S,e=>⟨S,e,rfl,rfl,Yb _⟩
 | b+1,i,S,e=>by
  obtain⟨S1,e1,rfl⟩:=dZ (s:=oR wp s (t+b)) e;obtain⟨S',e2,h1,h2,h3⟩:=a0K b i S1 e1;obtain⟨p1,p2,_,p4⟩:=b2Q S1 (hrd (wp (t+b)) (cT (oR wp s (t+b))) i);exact⟨S',e2,p1.trans h1,p2.trans h2,YK p4 h3⟩
def b3E {l:List (Nat×Fr)}(a:S.m1=S'.m1)(b:S.m2=S'.m2):yP S i l=yP S' i l:=by
 have:∀n,gW S n=gW S' n:=λn=>by unfold gW;rw[a,b]
 unfold yP;grind
open Bm
def a3X (g:Int)(a:List Int):Prop:=byt g=true/\a.length<=75/\a.all byt=true
def nP (a:List Int):Nat:=max 1 ((a.length+4) / 5)
def pc (g:Int)(n k:Nat)(a:List Int):List Int:=[g,16*(n:Int)+(k:Int)]++(a.drop (5*k)).take 5
def b1J (g:Int)(n k:Nat)(a:List Int):(pc g n k a).length<=7:=by
 unfold pc;grind
def b4W (K:W.Frag):Sp:=λb H Q _=>∃(g:Int)(n k:Nat)(a:Addr)(th:List Int),b= [.int g,.int n,.int k,.ref a]/\SqL K H a (th.map V.int)/\th.length<=500/\n<=500/\k<=500/\∀p H',H p=none->Same H H'->H' p=some (.lst ((pc g n k th).map V.int))->Q (.ref p) H'
def Pcs (H:Hp)(g:Int)(n:Nat)(a:List Int)(b:List Addr):Prop:=∀(k:Nat)(q:Addr),b[k]? =some q->H q=some (.lst ((pc g n k a).map V.int))
def Pcs.same {g:Int}{a:List Addr}(h:Pcs H g n th a)(s:Same H H'):Pcs H' g n th a:=λk q e=>s _ _ (h k q e)
def b8C (n:Nat):Builtin.Range.rangeSize 0 (n:Int) 5=(((n+4) / 5:Nat):Int):=by
 unfold Builtin.Range.rangeSize;lia
def c4N (h:th.length<=500):nP th<=101:=by unfold nP;lia
open Bm
def fg:Nat->Nat->List Nat
 |0,_=>[]
 |k+1,n=>fg k (n / 10)++[48+n % 10]
theorem b2Y:∀k n,∀c∈fg k n,48<=c/\c<=57
 |0,_,_,h=>by cases h
 | k+1,n,c,h=>by
  rcases YM.mp h with z | z
  ·exact b2Y k _ c z
  ·rw[Yw.mp z];lia
theorem a5W:∀k,fg k 0=List.replicate k 48
 |0=>rfl
 |k+1=>by show fg k (0 / 10)++[48+0 % 10]=_;rw[Nat.zero_div,a5W k,Xa]
abbrev dgs (m:Nat):List Nat:=(Nat.toDigits 10 m).map Char.toNat
def a1P:∀d:Nat,d<10->(Nat.digitChar d).toNat=48+d:=by decide
def a3S (h:m<10):dgs m= [48+m]:=by
 unfold dgs;rw[Nat.toDigits_of_lt_base h];show [(Nat.digitChar m).toNat]=_;rw[a1P m h]
def b3K (h:¬ m<10):dgs m=dgs (m / 10)++[48+m % 10]:=by
 have a:m % 10<10:=Nat.mod_lt m (by decide);have t:Nat.toDigits 10 (m / 10)++Nat.toDigits 10 (m % 10)=Nat.toDigits 10 (10*(m / 10)+m % 10):=Nat.toDigits_append_toDigits (by decide) (by lia) a;rw[Nat.div_add_mod]at t;unfold dgs;rw[<-t,Yh,Nat.toDigits_of_lt_base a];show _++[(Nat.digitChar (m % 10)).toNat]=_;rw[a1P _ a]
def b3M:∀k m,1<=k->m<10 ^ k->(dgs m).length<=k/\1<=(dgs m).length/\List.replicate (k-(dgs m).length) 48++dgs m=fg k m:=by
 intro k;induction k with
 |zero=>intro m h _;cases h
 | succ k ih=>
  intro m _ a;by_cases c:m<10
  ·rw[a3S c];refine⟨by show 1<=k+1;lia,Yb _,?_⟩;show List.replicate (k+1-1) 48++[48+m]=fg k (m / 10)++[48+m % 10]
   rw[Nat.add_sub_cancel,Nat.div_eq_of_lt c,Nat.mod_eq_of_lt c,a5W]
  ·have b:1<=k:=by
    lia
   have d:m / 10<10 ^ k:=by
    lia
   obtain⟨f,g,e⟩:=ih (m / 10) b d;rw[b3K c,Yc];refine⟨by show _+1<=k+1;lia,by show 1<=_+1;lia,?_⟩;show List.replicate (k+1-(_+1)) 48++(dgs (m / 10)++[48+m % 10])=fg k (m / 10)++[48+m % 10]
   rw[Nat.add_sub_add_right,<-Yo,e]
def a5F (m:Nat):(PySem.Str.ofString (toString (m:Int)))=txt (dgs m):=by
 rw[<-b8X (PySem.Str.ofString (toString (m:Int))),W.KIN.signs_num]
def fits {z:Int}(a:0<=z)(h:z<=100000):Builtin.Range.rangeFitsLong z=true:=by
 unfold Builtin.Range.rangeFitsLong;rw[XJ];exact⟨Ym (by lia),Ym (by lia)⟩
def szl (h:n<=9000):n<=sizeLine:=YK h (by decide)
def c8B (h:48<=c/\c<=57):(!(Builtin.Str.occurrences ("0123456789":Str) (⟨#[c]⟩:Str) 0 ("0123456789":Str).length 1).isEmpty)=true:=by
 have e:("0123456789":Str).cps.toList=List.range' 48 10:=by decide +kernel
 rw[StrLaws.found_one];grind
def c0G (h:n<=1000):Builtin.Range.small 0 ((n:Nat):Int) 5=true:=by
 unfold Builtin.Range.small;rw[b8C,if_pos (by decide),fits (by decide) (by decide),fits (by lia) (by lia),fits (by decide) (by decide),fits (by lia) (by lia),fits (by lia) (by lia),Bool.or_true];rfl
abbrev chI (ms:List (Nat×Nat)):List (Int×Int):=ms.map λc=>(((c.1:Nat):Int),((c.2:Nat):Int))
theorem a5B (R:Rows m v B0)(hN:mX m (λi=>(B0 i).wt)=N)(p:Nat):∀k,k<=N->(B0 p).wt.map (λf=>(p,f))=(pK m B0 k).filter (λx=>decide (x.1=p))++(Bk m B0 k p).wt.map λf=>(p,f)
 |0,_=>rfl
 | k +1,hk=>by
  have L:=(R.ldr (k:=k) (by rw[R.sum hN k (by lia)];lia)).2.1;rw[a5B R hN p k (by lia),vO,Jx,Yo];congr 1;show _=_++(nxB _ _ _ p).wt.map _;rw[b1R];by_cases c:p=qk m B0 k
  ·subst c;rw[if_pos rfl,XO (by simp)];show _=(_,(Bk m B0 k _).wt.headD (0, []))::_;cases e:(Bk m B0 k (qk m B0 k)).wt with
   |nil=>exact absurd e L
   |cons a r=>rfl
  ·rw[if_neg c,Xw (by rw[Yr λz=>c z.symm];exact Ys)];rfl
def b1N (f:2<=m)(g:2<=v)(h:v<=5)(F:F92 m fs):(∀p,p<m->(pK m (B91 ch v fs) fs.length).filter (λx=>decide (x.1=p))=fs.filter λx=>decide (x.1=p))/\(pK m (B91 ch v fs) fs.length).Perm fs:=by
 obtain⟨R,b⟩:=b0Q f g h F;have C:=R.cx b;have d:∀p,p<m->(pK m (B91 ch v fs) fs.length).filter (λx=>decide (x.1=p))=fs.filter λx=>decide (x.1=p):=λp i=>by
  have e:=a5B R b p _ (Yb _);rw[C.dn p i,List.map_nil,Yv]at e;rw[<-e];show (pU fs p).map _=_;unfold pU;rw[XE];exact(X7 λx j=>by grind).trans (List.map_id _)
 refine⟨d,List.perm_iff_count.mpr λa=>?_⟩;by_cases c:a.1<m
 ·rw[<-List.count_filter (p:=λx:Nat×Nat×List Int=>decide (x.1=a.1)) (by simp),d _ c,List.count_filter (by simp)]
 ·rw[List.count_eq_zero.mpr λz=>?_,List.count_eq_zero.mpr λz=>c (F.ok a z).1];obtain⟨k,l,rfl⟩:=YS.mp z;exact c (C.win k (Jv.mp l)).hq
structure nO (m v:Nat)(ch:Nat->Nat×Nat)(fs:List (Nat×Nat×List Int))(R:RS):Prop where
 ln:Ln R m 0
 ps:∀k,k<m->R.ps[k]? =some (B91 ch v fs k)
 ol:R.ow.length<=fs.length
 ow:∀(n:Nat)(u:V),gP R.ow (.inl (n:Int))=some u->∃f∈fs,f.2.1=n/\u= .int ((f.1:Nat):Int)
def nO.start (v:Nat)(a:List (Nat×Nat)):nO a.length v (λi=>a.getD i (0,0)) [] (R0 (chI a) (v:Int)):=by
 have b:(chI a).length=a.length:=Ya _;have c:(List.replicate (chI a).length ([]:List Int)).length=a.length:=by rw[YA,b]
 have d:∀x∈List.replicate (chI a).length ([]:List Int),x.length=0:=λx g=>by grind
 refine⟨⟨by show (List.map _ (chI a)).length=_;rw[Ya,b],c,c,rfl,d,d,YW _⟩,λk f=>?_,Yb _,λn u e=>by cases e⟩;show (List.map _ (List.map _ a))[k]? =_;rw[Yn,Yn,Yd f];have e:a.getD k (0,0)=a[k]:=by rw[Yj,Yd f];rfl
 show _=some { S0 (a.getD k (0,0)).1 (a.getD k (0,0)).2 v with wt:=[] };rw[e];rfl
def nO.hand {R:RS}{f:Nat×Nat×List Int}(h:nO m v ch fs R)(hF:F92 m (fs++[f])):(gP R.ow (.inl ((f.2.1:Nat):Int))).getD (.int ((f.1:Nat):Int))= .int ((f.1:Nat):Int)/\R.ps[f.1]? =some (B91 ch v fs f.1)/\nO m v ch (fs++[f]) { R with ps:=R.ps.set f.1 { B91 ch v fs f.1 with wt:=(B91 ch v fs f.1).wt++[(f.2.1,f.2.2)] },ow:=putK R.ow (.inl ((f.2.1:Nat):Int)) (.int ((f.1:Nat):Int)) }:=by
 have b:f∈fs++[f]:=by simp
 have i:=(hF.ok f b).1;have L:=h.ln;refine⟨?_,h.ps _ i,⟨⟨by show (R.ps.set _ _).length=m;rw[Xi];exact L.ps,L.sa,L.he,L.bo,L.sl,L.hl,L.ev⟩,λk j=>?_,?_,λn u e=>?_⟩⟩
 ·cases e:gP R.ow (.inl ((f.2.1:Nat):Int)) with
  |none=>rfl
  | some u=>
   obtain⟨g,d,l,o⟩:=h.ow _ u e;rw[o,hF.un g (XG _ d) f b l];rfl
 ·show (R.ps.set f.1 _)[k]? =_;rw[Y8];unfold B91 pU;rw[Jx,Yh];by_cases c:f.1=k
  ·subst c;rw[if_pos rfl,if_pos (by rw[L.ps];exact i),XO (by simp)];rfl
  ·rw[if_neg c,Xw (by rw[Yr c];exact Ys),List.filter_nil,List.map_nil,Yv];exact h.ps k j
 ·show (putK _ _ _).length<=_;have p:=a4V (kvs:=R.ow) (k:= .inl ((f.2.1:Nat):Int)) (v:= .int ((f.1:Nat):Int));have q:=h.ol;rw[Yc];show _<=_+1;lia
 ·have a:=e;rw[sW]at a;split at a
  ·grind
  ·obtain⟨g,d,z⟩:=h.ow n u a;exact⟨g,XG _ d,z⟩
def F92.sub {b:List (Nat×Nat×List Int)}(h:F92 m fs)(s:∀f∈b,f∈fs):F92 m b:=⟨λf a=>h.ok f (s f a),λf a g c=>h.un f (s f a) g (s g c)⟩
structure c8K (m:Nat)(ch:Nat->Nat×Nat)(fs:List (Nat×Nat×List Int))(i:Nat)(S:PS):Prop where
 wt:S.wt= []
 ul:S.up.length<=6
 up:∀nm q,(∀f∈fs,f.2.1=nm->f.1=q)->(S.up.filter λf=>decide (f.1=nm)).map Prod.snd=if q≠i/\Builtin.bitAnd ((nm:Nat):Int) (((ch i).1:Nat):Int)=(((ch i).2:Nat):Int) then (fs.filter λf=>decide (f.2.1=nm)).map λf=>f.2.2 else []
def c2D {nm q:Nat}(o:2<=m)(p:2<=v)(r:v<=5)(F:F92 m fs)(e:∀f∈fs,f.2.1=nm->f.1=q):((yP S i (pK m (B91 ch v fs) fs.length)).filter λf=>decide (f.1=nm)).map Prod.snd=if q≠i/\gW S nm=true then (fs.filter λf=>decide (f.2.1=nm)).map λf=>f.2.2 else []:=by
 obtain⟨j,g⟩:=b1N (ch:=ch) o p r F;generalize pK m (B91 ch v fs) fs.length=l at j g;have b:∀x∈l,x.2.1=nm->x.1=q:=λx a=>e x (g.mem_iff.mp a);have s:l.filter (λx=>decide (x.2.1=nm))=fs.filter λx=>decide (x.2.1=nm):=by
  by_cases c:∃f∈fs,f.2.1=nm
  ·obtain⟨f,n,t⟩:=c;have k:∀l:List (Nat×Nat×List Int),(∀x∈l,x.2.1=nm->x.1=q)->l.filter (λx=>decide (x.2.1=nm))=(l.filter λx=>decide (x.1=q)).filter λx=>decide (x.2.1=nm):=λl b=>by
    rw[List.filter_filter];refine List.filter_congr λx a=>?_;grind
   rw[k l b,k fs e,j q (e f n t▸(F.ok f n).1)]
  ·rw[Jh.mpr λx a z=>c ⟨x,a,YR z⟩,Jh.mpr λx a z=>c ⟨x,g.mem_iff.mp a,YR z⟩]
 unfold yP;rw[List.filter_map,XE,List.filter_filter];by_cases c:q≠i/\gW S nm=true
 ·rw[if_pos c,<-s];refine YJ _ (List.filter_congr λx a=>?_);grind
 ·rw[if_neg c,Jh.mpr λx a z=>c ?_]
  ·rfl
  grind
def nO.all {R:RS}(h:nO m v ch fs R)(j:2<=m)(A:m<=5)(l:2<=v)(g:v<=5)(F:F92 m fs)(N:fs.length<=6){o:Option (Nat×Nat)}(B:∀p t,o=some (p,t)->p<m):(∀t,t<990->SzR (iM (prs o) R t))/\∀t,(fs.map λf=>LW f.2).sum+fs.length*(12+v)+141<=t->∀i S,(iM (prs o) R t).ps[i]? =some S->c8K m ch fs i S:=by
 obtain⟨x,D⟩:=b0Q (ch:=ch) j l g F;have C:=x.cx D;have L:=h.ln;have E:tg v fs.length (fk m (B91 ch v fs)) 0=(fs.map λf=>LW f.2).sum+fs.length*(12+v):=by
  rw[b8Y,<-((b1N (ch:=ch) j l g F).2.map λf=>LW f.2).sum_nat];unfold pK;rw[XE];rfl
 rw[<-E];have at0:∀(i:Nat)(S:PS),R.ps[i]? =some S->i<m/\S=B91 ch v fs i:=λi S e=>by
  have a:i<m:=by rw[<-L.ps];exact(Ye.mp e).1
  have:=h.ps i a;rw[e]at this;exact⟨a,Yu this⟩
 have wf:∀(i:Nat)(S:PS),R.ps[i]? =some S->Wf S:=λi S e=>by
  obtain⟨a,rfl⟩:=at0 i S e;exact⟨g,x.ok i a,trivial⟩
 have base:∀t,∃k,k<=fs.length/\(∀(i:Nat)(S:PS),(iM (prs o) R t).ps[i]? =some S->i<m/\S.m1=(ch i).1/\S.m2=(ch i).2/\S.wt=(Bk m (B91 ch v fs) k i).wt/\S.up=yP S i (pK m (B91 ch v fs) k))/\(tg v fs.length (fk m (B91 ch v fs)) 0+141<=t->k=fs.length):=λt=>by
  obtain⟨k,n,b,r⟩:=c6B C (s:=R.ps) B L.ps wf (λi S e=>⟨0,0,X1 0,X1 0,(at0 i S e).2⟩) t;refine⟨k,n,λi S e=>?_,r⟩;rw[xP L]at e;obtain⟨G,H,c,d,_⟩:=a0K (t:=0) t i S (by rw[Nat.zero_add];exact e);obtain⟨a,z⟩:=at0 i G H;rw[z]at c d;obtain⟨u,w⟩:=b i S e;exact⟨a,c,d,u,by rw[w,b8O];exact b3E c.symm d.symm⟩
 have y:∀t (i:Nat)(S:PS),(iM (prs o) R t).ps[i]? =some S->S.up.length<=6:=λt i S a=>by
  obtain⟨k,n,b,_⟩:=base t;rw[(b i S a).2.2.2.2];unfold yP;rw[Ya];refine YK (List.length_filter_le _ _) ?_;rw[b1O];lia
 refine⟨λt I=>b5L L A I λS J=>?_,λt K i S e=>?_⟩
 ·obtain⟨i,a⟩:=XV.mp J;exact Xk (y t i S a) (by decide)
 ·obtain⟨k,n,b,r⟩:=base t;have:=r K;subst this;obtain⟨a,c,d,u,w⟩:=b i S e;refine⟨u.trans (C.dn i a),y t i S e,λnm q M=>?_⟩;rw[w,c2D j l g F M,<-c,<-d];unfold gW;simp only[decide_eq_true_eq]
def c5E {c A B:Prop}[Decidable c](a:¬ c)(h:A):if (!decide c)=true then A else B:=by rw[Yr a];exact c1W h
def a5Q {c A B:Prop}[Decidable c](a:c)(h:B):if (!decide c)=true then A else B:=by rw[Ym a];exact yJ h
abbrev num (n:Nat):Str:=PySem.Str.ofString (toString (n:Int))
abbrev itg (ns:List Nat):List Int:=ns.map λn=>((n:Nat):Int)
def b2N (c:Nat):Bool:=decide (48<=c/\c<=57)
def c5P (c:Nat):(!(Builtin.Str.occurrences ("0123456789":Str) (⟨#[c]⟩:Str) 0 ("0123456789":Str).length 1).isEmpty)=b2N c:=by
 have e:("0123456789":Str).cps.toList=List.range' 48 10:=by decide +kernel
 rw[StrLaws.found_one,e];refine decide_eq_decide.mpr (List.mem_range'_1.trans ?_);lia
def b6H (n:Nat):(num n).cps.toList=dgs n:=W.KIN.signs_num n
def b3L (n:Nat):0<n->(dgs n).headD 0≠48:=by
 induction n using Nat.strongRecOn with
 | ind n ih=>
  intro a;by_cases c:n<10
  ·rw[a3S c];show 48+n≠48;lia
  ·rw[b3K c];have i:=ih (n / 10) (by lia) (by lia);cases e:dgs (n / 10) with
   |nil=>rw[e]at i;simp at i;have:=(b3M (n / 10+1) (n / 10) (by lia) (Jt (Xr _) (Nat.lt_pow_self (by decide)))).2.1;rw[e]at this;cases this
   |cons x r=>rw[e]at i;exact i
structure Fig (n:Nat)(l:List Nat):Prop where
 l1:1<=l.length
 l6:l.length<=6
 dg:∀c∈l,48<=c/\c<=57
 hd:¬ (l.headD 0=48/\1<l.length)
 vl:PySem.NumText.digitsVal l=n
def yC (h:n<10 ^ 6):Fig n (dgs n):=by
 obtain⟨b,d,e⟩:=b3M 6 n (by decide) h;refine⟨d,b,λc f=>b2Y 6 n c (by rw[<-e];exact YT _ f),λ⟨g,a⟩=>?_,W.KIN.val_back n⟩;rcases Nat.eq_zero_or_pos n with rfl | p
 ·grind
 ·exact b3L n p g
def gZ (h:n<10 ^ 6):(num n).length<=6:=by
 show (PySem.Str.ofString (toString ((n:Nat):Int))).length<=6;rw[a5F];exact(yC h).l6
def nF (h:n<10 ^ 6)(a:c<48):c∉(num n).cps.toList:=λz=>by
 rw[b6H]at z;have:=(yC h).dg c z;lia
def jT (h:n<1920):((n:Nat):Int).natAbs.log2<1920:=Xk (Nat.log2_le_self _) h
def gQ (z:Str)(ts:List Str):Txt.join z ts=Str.join z ts:=by
 unfold Txt.join;rw[StrLaws.glued_eq_join]
def b9K {ts:List Str}{B:Nat}(hB:∀y∈ts,y.length<=B):(ts.map (·.length)).sum<=ts.length*B:=by
 induction ts with
 |nil=>simp
 | cons x r ih=>
  have b:=hB x (Yt ..);have c:=ih λy a=>hB y (Yp _ a);rw[Yz,List.sum_cons,Yk];lia
def pP {z:Str}{ts:List Str}{B:Nat}(a:∀y∈ts,y.length<=B):(Txt.join z ts).length<=ts.length*B+ts.length*z.length:=by
 have b:=StrLaws.join_length_le z ts;have c:=b9K a;rw[gQ];lia
def oE {z:Str}{ts:List Str}{B:Nat}(a:∀y∈ts,y.length<=B)(h:ts.length*B+ts.length*z.length<=16777216):JoinOk z ts=true:=by
 unfold JoinOk;rw[StrLaws.joinFits a h];rfl
inductive Vl
 |num (n:Nat)
 |cho (a b:Nat)
def vlT:Vl->Str
 |.num n=>My.num n
 |.cho a b=>My.num a++"/"++My.num b
def Fit (k:Str):Vl->Prop
 |.num n=>(k="number"/\n<10 ^ 6)\/(k="turns"/\n<=2000)
 |.cho a b=>k="choice"/\a<10 ^ 6/\b<10 ^ 6
def Fits (m:Str):List Str->List Vl->Prop
 |_, []=>True
 |nf,v::vs=>Fit (nf.headD m) v/\Fits m nf.tail vs
theorem Fits.get {m:Str}:∀{vs:List Vl}{nf:List Str},Fits m nf vs->∀{i:Nat}{v:Vl},vs[i]? =some v->Fit (nf.getD i m) v
 | v::vs,nf,h,0,_,rfl=>by
  have:=h.1;cases nf <;> exact this
 | v::vs,nf,h,i+1,u,e=>by
  have:=Fits.get h.2 (i:=i) e;cases nf <;> exact this
theorem Fits.num {m:Str}(hm:m="number"):∀{ns:List Nat},(∀n∈ns,n<10 ^ 6)->Fits m [] (ns.map Vl.num)
 |[],_=>trivial
 |n::ns,h=>⟨.inl ⟨hm,h n (Yt ..)⟩,Fits.num hm λk hk=>h k (Yp _ hk)⟩
theorem Fits.cho {m:Str}(hm:m="choice"):∀{cs:List (Nat×Nat)},(∀c∈cs,c.1<256/\c.2<256)->Fits m [] (cs.map λc=>Vl.cho c.1 c.2)
 |[],_=>trivial
 |c::cs,h=>⟨⟨hm,Jt (h c (Yt ..)).1 (by decide),Jt (h c (Yt ..)).2 (by decide)⟩,Fits.cho hm λk hk=>h k (Yp _ hk)⟩
def Fit.word {k:Str}{v:Vl}(h:Fit k v):(vlT v).length<=13/\32∉(vlT v).cps.toList:=by
 cases v with
 | num n=>
  have c:=h.elim (λz=>z.2) λz=>Xk z.2 (by decide);exact⟨YK (gZ c) (by decide),nF c (by decide)⟩
 | cho a b=>
  show (My.num a++"/"++My.num b).length<=13/\32∉(My.num a++"/"++My.num b).cps.toList;rw[Str.length_append,Str.length_append,jY,jY];have d:=gZ h.2.1;have e:=gZ h.2.2;have f:("/":Str).length<=1:=by decide +kernel
  refine⟨by lia,λz=>?_⟩;rcases YM.mp z with z | z
  ·rcases YM.mp z with z | z
   ·exact nF h.2.1 (by decide) z
   ·exact absurd z (by decide +kernel)
  ·exact nF h.2.2 (by decide) z
inductive fQ (H:Hp):List V->List Vl->Prop
 |nil:fQ H [] []
 |num {n:Nat} {vs:List V} {ls:List Vl}:fQ H vs ls->fQ H (.int (n:Int)::vs) (.num n::ls)
 |cho {t:Addr} {a b:Nat} {vs:List V} {ls:List Vl}:H t=some (.tup [.int (a:Int),.int (b:Int)])->fQ H vs ls->fQ H (.ref t::vs) (.cho a b::ls)
theorem fQ.imp (g:∀x xs,H x=some (.tup xs)->H' x=some (.tup xs)):∀{vs:List V}{ls:List Vl},fQ H vs ls->fQ H' vs ls
 |_,_,.nil=> .nil
 |_,_,.num r=> .num (r.imp g)
 |_,_,.cho a r=> .cho (g _ _ a) (r.imp g)
theorem fQ.append {ks:List Vl}(h:fQ H us ks):∀{vs:List V}{ls:List Vl},fQ H vs ls->fQ H (vs++us) (ls++ks)
 |_,_,.nil=>h
 |_,_,.num r=> .num (fQ.append h r)
 |_,_,.cho a r=> .cho a (fQ.append h r)
theorem fQ.len:∀{vs:List V}{ls:List Vl},fQ H vs ls->vs.length=ls.length
 |_,_,.nil=>rfl
 |_,_,.num r=>YJ (·+1) r.len
 |_,_,.cho _ r=>YJ (·+1) r.len
theorem lL:∀{ns:List Nat}{xs:List V},fQ H xs (ns.map .num)->xs=(itg ns).map V.int
 |[],_,.nil=>rfl
 |n::ns,_,.num r=>YJ (V.int ((n:Nat):Int)::·) (lL (ns:=ns) r)
theorem a4G:∀{cs:List (Nat×Nat)}{xs:List V},fQ H xs (cs.map λc=> .cho c.1 c.2)->∃ts:List Addr,xs=ts.map V.ref/\ts.length=(chI cs).length/\∀(i:Nat)(t:Addr)(m:Int×Int),ts[i]? =some t->(chI cs)[i]? =some m->H t=some (.tup [.int m.1,.int m.2])
 |[],_,.nil=>⟨[],rfl,rfl,λi t m h=>by cases h⟩
 | c::cs,_,.cho (t:=t) e r=>by
  obtain⟨ts,rfl,h1,h2⟩:=a4G (cs:=cs) r;refine⟨t::ts,rfl,YJ (·+1) h1,λi u m hu hm=>?_⟩;cases i with
  |zero=>cases hu;cases hm;exact e
  |succ i=>exact h2 i u m hu hm
def b9S:Sp:=λa H Q _=>∃n:Nat,a= [.str (num n)]/\n<10 ^ 6/\∀H',Same H H'->Q (.int ((n:Nat):Int)) H'
def c0D:Sp:=λc H Q _=>∃a b:Nat,c= [.str (vlT (.cho a b))]/\a<10 ^ 6/\b<10 ^ 6/\∀t H',H t=none->Same H H'->H' t=some (.tup [.int ((a:Nat):Int),.int ((b:Nat):Int)])->Q (.ref t) H'
def b9M:Sp:=λa H Q _=>∃v k al,a= [.str (vlT v),.str k,.ref al]/\Fit k v/\∀y H',Same H H'->fQ H' [y] [v]->((∃i,y= .int i)\/∃t,y= .ref t)->Q y H'
def a1Z (K:W.Frag)(a:Addr)(xs:List V):Prop:=∃(o:Obj)(its:Array Value)(n:Nat),K.lookup a=some o/\o.cls= .type "tuple"/\o.data= .seq its n/\its.size<=sizeLine/\Vals xs its.toList
def tpR {u:Addr}{m:Str}{t:Tok}(h:K.lookup a=some ⟨.type "tuple",od,.seq #[.ref u,.str m t] n,sl⟩):a1Z K a [.ref u,.str m]:=⟨_,_,_,h,rfl,rfl,aM rfl,.cons rfl (.cons ⟨_,rfl⟩ .nil)⟩
def tpS1 (h:K.lookup a=some ⟨.type "tuple",od,.seq #[.str m0 t0] n,sl⟩):a1Z K a ([m0].map V.str):=⟨_,_,_,h,rfl,rfl,aM rfl,.cons ⟨_,rfl⟩ .nil⟩
def tpS2 {b:Str}(h:K.lookup a=some ⟨.type "tuple",od,.seq #[.str m0 t0,.str b t1] n,sl⟩):a1Z K a ([m0,b].map V.str):=⟨_,_,_,h,rfl,rfl,aM rfl,.cons ⟨_,rfl⟩ (.cons ⟨_,rfl⟩ .nil)⟩
def tpS3 {b c:Str}{d:Tok}(h:K.lookup a=some ⟨.type "tuple",od,.seq #[.str m0 t0,.str b t1,.str c d] n,sl⟩):a1Z K a ([m0,b,c].map V.str):=⟨_,_,_,h,rfl,rfl,aM rfl,.cons ⟨_,rfl⟩ (.cons ⟨_,rfl⟩ (.cons ⟨_,rfl⟩ .nil))⟩
def a1Z.sq (h:a1Z K a xs)(H:Hp):SqT K H a xs:= .inr h
open PyProof.Rows in
noncomputable def kvF:List (Key×V):=[(.inr "rail",.ref 1249),(.inr "hand",.ref 1251),(.inr "thing",.ref 1253),(.inr "wrong",.ref 1255),(.inr "run",.ref 1257),(.inr "bits",.ref 1259),(.inr "draw",.ref 1261),(.inr "got",.ref 1263),(.inr "waits",.ref 1265),(.inr "things",.ref 1267),(.inr "stance",.ref 1269),(.inr "faults",.ref 1271)]
open PyProof.Rows in
def Frm (K:W.Frag)(x m:Str)(a:List Str):Prop:=∃t u,gP kvF (.inr x)=some (.ref t)/\a1Z K t [.ref u,.str m]/\a1Z K u (a.map V.str)
def a2A (K:W.Frag)(x:Str)(vs:List Vl):Prop:=∃m nf,Frm K x m nf/\nf.length<=vs.length/\vs.length<=20/\Fits m nf vs
def a2A.words {x:Str}{vs:List Vl}(h:a2A K x vs)(b:x.length<=13/\32∉x.cps.toList):(Txt.join " " (x::vs.map vlT)).length<=899/\Txt.split (Txt.join " " (x::vs.map vlT)) " "=x::vs.map vlT/\∀w∈x::vs.map vlT,w.length<=13:=by
 obtain⟨m,j,_,_,c,d⟩:=h;have hw:∀w∈x::vs.map vlT,w.length<=13/\32∉w.cps.toList:=λw hw=>by
  rcases YL.mp hw with rfl | hw
  ·exact b
  ·obtain⟨v,e,rfl⟩:=YS.mp hw;obtain⟨i,f⟩:=XV.mp e;exact(d.get f).word
 have g:(" ":Str).length=1:=by decide +kernel
 refine⟨?_,by exact tG (by simp) λw z=>(hw w z).2,λw z=>(hw w z).1⟩;have:=pP (z:=" ") λw z=>(hw w z).1;grind
def b4U (K:W.Frag):Sp:=λas H Q _=>∃a x vs,as= [.ref a]/\SqL K H a ((x::vs.map vlT).map V.str)/\a2A K x vs/\∀l xs H',H l=none->Same H H'->H' l=some (.lst xs)->fQ H' xs vs->Q (.ref l) H'
structure Jn where
 o:Bool
 tg:Int
 m:Nat
 h:Nat
 js:List Int
noncomputable abbrev joF (s:Jn)(tv:V)(jl:Addr):List (Str×V):=[("opened",.bl s.o),("tag",tv),("many",.int ((s.m:Nat):Int)),("had",.int ((s.h:Nat):Int)),("joined",.ref jl),("broken_tag",.non)]
def rJ (C:Addr)(H:Hp)(j t:Addr)(s:Jn):Prop:=∃dx tv jl,H j=some (.ins C dx (joF s tv jl))/\H jl=some (.lst (s.js.map V.int))/\jl≠t/\(s.o=true->tv= .int s.tg)
def rJ.same {j:Addr}{s:Jn}(h:rJ C H j t s)(g:Same H H'):rJ C H' j t s:=let ⟨dx,tv,jl,a,b,c⟩:=h;⟨dx,tv,jl,g _ _ a,g _ _ b,c⟩
def rJ.put {j:Addr}{s:Jn}{o:HO}(h:rJ C H j t s)(n:t≠j):rJ C (upd H t o) j t s:=let ⟨dx,tv,jl,a,b,c,d⟩:=h;⟨dx,tv,jl,by rw[aH (Va n)];exact a,by rw[aH c];exact b,c,d⟩
abbrev Th:=Int×List Int
def c2V (t:Addr)(H:Hp)(e:Addr)(v:Th):Prop:=∃l,l≠t/\H e=some (.tup [.str "whole",.int v.1,.ref l])/\H l=some (.lst (v.2.map V.int))
inductive WhQ (t:Addr)(H:Hp):List Addr->List Th->Prop
 |nil:WhQ t H [] []
 |cons {e:Addr} {v:Th} {es:List Addr} {vs:List Th}:c2V t H e v->WhQ t H es vs->WhQ t H (e::es) (v::vs)
theorem WhQ.but {j:Addr}(g:iW H H' j)(nj:j=t\/∃C dx fs,H j=some (.ins C dx fs))(ht:∀xs,H t≠some (.tup xs)):∀{es:List Addr}{vs:List Th},WhQ t H es vs->WhQ t H' es vs
  |_,_,.nil=> .nil
  | _, _,.cons ⟨l,a,b,c⟩ r=> .cons ⟨l,a,g _ _ (λz=>by
      rcases nj with e | ⟨C,d,f,e⟩
      · exact ht _ (e▸z▸b)
      · rw[z,e]at b;cases b) b,g _ _ (λz=>by
      rcases nj with e | ⟨C,d,f,e⟩
      · exact a (z.trans e)
      · rw[z,e]at c;cases c) c⟩ (r.but g nj ht)
theorem WhQ.same (g:Same H H'):∀{es:List Addr}{vs:List Th},WhQ t H es vs->WhQ t H' es vs
 |_,_,.nil=> .nil
 |_,_,.cons ⟨l,a,b,c⟩ r=> .cons ⟨l,a,g _ _ b,g _ _ c⟩ (r.same g)
theorem WhQ.append:∀{es:List Addr}{vs:List Th}{es':List Addr}{vs':List Th},WhQ t H es vs->WhQ t H es' vs'->WhQ t H (es++es') (vs++vs')
 |_,_,_,_,.nil,g=>g
 |_,_,_,_,.cons h r,g=> .cons h (r.append g)
theorem WhQ.len:∀{es:List Addr}{vs:List Th},WhQ t H es vs->es.length=vs.length
 |_,_,.nil=>rfl
 |_,_,.cons _ r=>YJ (·+1) r.len
theorem WhQ.get {i:Nat}{e:Addr}:∀{es:List Addr}{vs:List Th},WhQ t H es vs->es[i]? =some e->∃v,vs[i]? =some v/\c2V t H e v
 |_,_,.nil,h=>by cases h
 | _,_,.cons a r,h=>by
  cases i with
  |zero=>cases h;exact⟨_,rfl,a⟩
  |succ i=>exact r.get h
def iW.trans {c:Hp}(a:iW H H' t)(b:iW H' c t):iW H c t:=λx o d e=>b x o d (a x o d e)
def iW.same {c:Hp}(a:iW H H' t)(b:Same H' c):iW H c t:=λx o d e=>b _ _ (a x o d e)
def iW.put {o:HO}(a:iW H H' t):iW H (upd H' t o) t:=λx u b e=>by rw[aH b];exact a x u b e
def iW.none {x:Addr}{o:HO}(b:iW H H' t)(e:H' t=some o)(h:H' x=none):H x=none:=by
 cases ex:H x with
 |none=>rfl
 |some u=>rw[b x u (λc=>by rw[c,e]at h;cases h) ex]at h;cases h
def JSo (s:Jn)(g:Int)(a:List Int)(b:Nat):Prop:=s.o=true/\s.tg=g/\s.m=nP a/\s.h=b/\s.js=a.take (5*b)
def JSt (s:Jn)(g:Int)(a:List Int)(b:Nat):Prop:=if b=0 then s.o=false else JSo s g a b
def a3E (g:Int)(a:List Int)(b:Nat):List Th:=if b+1<nP a then [] else [(g,a)]
def nxP (a:List Int)(b:Nat):Nat:=if b+1<nP a then b+1 else 0
abbrev JQ (C:Addr)(H:Hp)(j t:Addr)(Q:VK)(g:Int)(th:List Int)(b:Nat):Prop:=∀p es H' s',H p=none->H' p=some (.lst (es.map V.ref))->WhQ t H' es (a3E g th b)->rJ C H' j t s'->JSt s' g th (nxP th b)->iW H H' j->Q (.ref p) H'
structure PcI (H:Hp)(t l:Addr)(g:Int)(th:List Int)(b:Nat):Prop where
 al:H t≠none
 lt:b<nP th
 ok:a3X g th
 at_:H l=some (.lst ((pc g (nP th) b th).map V.int))
def PcI.same {g:Int}{b:Nat}(h:PcI H t l g th b)(s:Same H H'):PcI H' t l g th b:=⟨λz=>h.al (s.none z),h.lt,h.ok,s _ _ h.at_⟩
def PcI.n15 {g:Int}{b:Nat}(h:PcI H t l g th b):nP th<=15:=by have:=h.ok.2.1;unfold nP;lia
def PcI.ix {g:Int}{b:Nat}(_h:PcI H t l g th b):atI ((pc g (nP th) b th).map V.int) 0=some (.int g)/\atI ((pc g (nP th) b th).map V.int) 1=some (.int (16*((nP th:Nat):Int)+(b:Int))):=⟨bB (j:=0) rfl,bB (j:=1) rfl⟩
def a4Z {g:Int}{b:Nat}:(pc g (nP th) b th).length=2+min 5 (th.length-5*b):=by
 unfold pc;rw[Yc,Yi,Xl];rfl
def b8Z {b:Nat}:th.take (5*b)++(th.drop (5*b)).take 5=th.take (5*(b+1)):=by
 grind
def b4L {b:Nat}(h:¬ b+1<nP th):th.take (5*(b+1))=th:=Yg (by unfold nP at h;lia)
def b0B (C:Addr):Sp:=λa H Q _=>∃j dx,a= [.ref j]/\H j=some (.ins C dx [])/\∀H' s,s.o=false->(∀t,H' t=none->rJ C H' j t s)->iW H H' j->Q .non H'
def b4Y (C:Addr):Sp:=λa H Q _=>∃j t s,a= [.ref j]/\rJ C H j t s/\s.o=false/\∀p,H p=none->Q (.ref p) (upd H p (.lst []))
def b9U (C:Addr):Sp:=λa H Q _=>∃j t s l g th b,a= [.ref j,.ref l]/\rJ C H j t s/\JSo s g th b/\PcI H t l g th b/\∀H',Same H H'->Q (.bl true) H'
def rR (p:Jn->Int->List Int->Nat->Prop)(C:Addr):Sp:=λa H Q _=>∃j t s l g th b,a= [.ref j,.ref l]/\rJ C H j t s/\p s g th b/\PcI H t l g th b/\JQ C H j t Q g th b
def b0C:Sp:=λa H Q _=>∃(z m n:Nat),a= [.int (z:Int),.int (m:Int),.int (n:Int)]/\(if n+1<m then z=5 else (z<=5/\(0<z\/m=1)))/\Q (.bl true) H
def c0E:Sp:=λa H Q _=>∃t l g th b,a= [.ref l]/\PcI H t l g th b/\Q .non H
abbrev Wp:=List (Nat×Nat)
abbrev prW (wp:Wp):List (Int×Int):=wp.map λp=>(((p.1:Nat):Int),((p.2:Nat):Int))
structure b8M where
 (dx wl:Addr) (rv:V) (ws:List V) (orl:Own)
abbrev dF (rv:V)(wl:Addr):List (Str×V):=[("rail",rv),("wrong",.ref wl)]
def b7L (CR:Addr)(A:Cs)(H:Hp)(rv:V)(ol:Own):Option RS->Prop
 |none=>rv= .non
 |some R=>∃r,rv= .ref r/\mL CR A H r R ol
structure eG (C CR:Addr)(A:Cs)(H:Hp)(d:Addr)(st:Option RS)(wp:Wp)(o:Own)(w:b8M):Prop where
 ed:H d=some (.ins C w.dx (dF w.rv w.wl))
 ew:H w.wl=some (.lst w.ws)
 ww:fQ H w.ws (wp.map λp=> .cho p.1 p.2)
 rl:b7L CR A H w.rv w.orl st
 dj:∀x,w.orl x->x≠d/\x≠w.wl
 od:o d
 ow:o w.wl
 inc:∀x,w.orl x->o x
 al:∀x,o x->H x≠none
section
variable {CR:Addr}{d:Addr}{st:Option RS}{wp:Wp}{w:b8M}
def b7L.move {rv:V}{ol:Own}(h:b7L CR A H rv ol st)(g:∀x v,H x=some v->(ol x\/isT v)->H' x=some v):b7L CR A H' rv ol st:=by
 cases st with
 |none=>exact h
 | some R=>
  obtain⟨r,e,w,a⟩:=h;exact⟨r,e,w,a.move g⟩
def eG.move (h:eG C CR A H d st wp o w)(g:∀x v,H x=some v->(o x\/isT v)->H' x=some v):eG C CR A H' d st wp o w:=
 ⟨g _ _ h.ed (.inl h.od),g _ _ h.ew (.inl h.ow),h.ww.imp λx xs e=>g _ _ e (.inr ⟨_,rfl⟩),h.rl.move λx v e z=>g x v e (z.imp_left (h.inc x)),h.dj,h.od,h.ow,h.inc,λx a=>by
  cases e:H x with
  |none=>exact absurd e (h.al x a)
  |some v=>rw[g x v e (.inl a)];simp⟩
def eG.same (h:eG C CR A H d st wp o w)(g:Same H H'):eG C CR A H' d st wp o w:=h.move λx v e _=>g x v e
def eG.ne (h:eG C CR A H d st wp o w):d≠w.wl:=λz=>by have:=h.ed;rw[z,h.ew]at this;cases this
def eG.rail {R:RS}(h:eG C CR A H d (some R) wp o w):∃r,w.rv= .ref r/\mL CR A H r R w.orl/\∀H' R' ol,mL CR A H' r R' ol->Mv w.orl H ol H'->∃o',eG C CR A H' d (some R') wp o' { w with orl:=ol }/\Mv o H o' H':=by
 obtain⟨r,er,f⟩:=h.rl;refine⟨r,er,f,λH' R' ol b m=>⟨λx=>ol x\/x=d\/x=w.wl,⟨?_,?_,?_,⟨r,er,b⟩,?_,.inr (.inl rfl),.inr (.inr rfl),λx a=> .inl a,?_⟩,λx v e z=>?_,λx a=>?_⟩⟩
 ·exact m.1 _ _ h.ed (.inl λz=>(h.dj _ z).1 rfl)
 ·exact m.1 _ _ h.ew (.inl λz=>(h.dj _ z).2 rfl)
 ·exact h.ww.imp λx xs e=>m.1 _ _ e (.inr ⟨_,rfl⟩)
 ·intro x a;rcases m.2 x a with z | z
  ·exact h.dj x z
  ·exact⟨λy=>(by rw[y,h.ed]at z;cases z),λy=>(by rw[y,h.ew]at z;cases z)⟩
 ·rintro x (a | rfl | rfl)
  ·obtain⟨g,c⟩:=b;exact c.al x a
  ·rw[m.1 _ _ h.ed (.inl λz=>(h.dj _ z).1 rfl)];simp
  ·rw[m.1 _ _ h.ew (.inl λz=>(h.dj _ z).2 rfl)];simp
 ·exact m.1 x v e (z.imp_left λy q=>y (h.inc x q))
 ·rcases a with a | rfl | rfl
  ·exact(m.2 x a).imp (h.inc x) id
  ·exact .inl h.od
  ·exact .inl h.ow
def eG.mark {k t:Nat}{q:Addr}(h:eG C CR A H d st wp o w)(b:H q=some (.tup [.int (k:Int),.int (t:Int)])):eG C CR A (upd H w.wl (.lst (w.ws++[.ref q]))) d st (wp++[(k,t)]) o { w with ws:=w.ws++[.ref q] }/\Mv o H o (upd H w.wl (.lst (w.ws++[.ref q]))):=by
 have a:∀x xs,H x=some (.tup xs)->upd H w.wl (.lst (w.ws++[.ref q])) x=some (.tup xs):=λx xs e=>by
  rw[aH λz=>by rw[z,h.ew]at e;cases e];exact e
 refine⟨⟨by rw[aH h.ne];exact h.ed,aC,?_,h.rl.move λx v e z=>?_,h.dj,h.od,h.ow,h.inc,λx f=>?_⟩,?_⟩
 ·rw[Yh];exact((fQ.cho b .nil).append h.ww).imp a
 ·rcases z with z | ⟨xs,rfl⟩
  ·rw[aH (h.dj x z).2];exact e
  ·exact a x xs e
 ·by_cases c:x=w.wl
  ·rw[c,aC];simp
  ·rw[aH c];exact h.al x f
 ·exact b1Z h.ew h.ow λ⟨_,z⟩=>by cases z
end
def MvP (P:Addr)(o:Own)(H:Hp)(o':Own)(H':Hp):Prop:=Mv (Or2 o λx=>x=P) H (Or2 o' λx=>x=P) H'
def Mv.p {P:Addr}(m:Mv o H o' H'):MvP P o H o' H':=⟨m.1.le λx h=> .inl h,λx a=>a.elim (λz=>(m.2 x z).imp .inl id) λz=> .inl (.inr z)⟩
theorem a4F:∀{wp:Wp}{xs:List V},fQ H xs (wp.map λp=> .cho p.1 p.2)->∃qs:List Addr,xs=qs.map V.ref/\PrT H qs (prW wp)
 |[],_,.nil=>⟨[],rfl,.nil⟩
 | p::wp,_,.cho a r=>by
  obtain⟨qs,rfl,h⟩:=a4F (wp:=wp) r;exact⟨_::qs,rfl,.cons a h⟩
def b0E (C:Addr):Sp:=λa H Q _=>∃d dx,a= [.ref d]/\H d=some (.ins C dx [])/\∀H' wl,H wl=none->H' d=some (.ins C dx (dF .non wl))->H' wl=some (.lst [])->(∀x u,x≠d->H x=some u->H' x=some u)->Q .non H'
def itT (t:Int):Str:=PySem.Str.ofString (toString t)
def uW (xs:List Int):Str:=Txt.join "." (xs.map itT)
noncomputable def thT (v:Th):Str:=Txt.join " " (if v.2= [] then ["whole",itT v.1] else ["whole",itT v.1,uW v.2])
def pieces (v:Th):List (List Int):=(List.range (nP v.2)).map λj=>pc v.1 (nP v.2) j v.2
abbrev Thk (v:Th):Prop:=a3X v.1 v.2
noncomputable def handed (R:RS)(k n:Nat)(S:PS)(ds:List Int):RS:={ R with ps:=R.ps.set k { S with wt:=S.wt++[(n,ds)] },ow:=putK R.ow (.inl (n:Int)) (.int (k:Int)) }
def a6L (R:RS)(k n:Nat)(S:PS):Prop:=R.ps[k]? =some S/\R.ow.length<=900/\(∀S∈R.ps,S.wt.length<900)/\byt (n:Int)=true/\(gP R.ow (.inl (n:Int))).getD (.int (k:Int))= .int (k:Int)
abbrev a2C:=RS->Wp->List Vl->(Str->RS->Wp->Prop)->Prop
def a6K:a2C:=λR c d Z=>∃k n g ds,∃P:Nat->RS->Prop,d= .num k:: .num n:: .num g::ds.map .num/\(Z=λ(s:Str) a b=>s="ok "++num (nP (itg ds))/\P (nP (itg ds)) a/\b=c)/\a3X ((g:Nat):Int) (itg ds)/\P 0 R/\∀i a,i<nP (itg ds)->P i a->∃S,a6L a k n S/\P (i+1) (handed a k n S (pc ((g:Nat):Int) (nP (itg ds)) i (itg ds)))
def a6I:a2C:=λR b c Z=>∃k t,c= [.num k,.num t]/\(Z=λ(s:Str) d a=>s="ok"/\d=R/\a=b++[(k,t)])/\k<R.ps.length/\b.length<=9
def b8L:a2C:=λR a c Z=>∃n,c= [.num n]/\(Z=λ(s:Str) d b=>s="ok"/\d=iM (prW a) R n/\b=a)/\R.ps≠ []/\n<=980/\a.length<=9/\∀k,k<=n->SzR (iM (prW a) R k)
def a6J:a2C:=λR b c Z=>∃k S,c= [.num k]/\(Z=λ(s:Str) d a=>s=""/\d=R/\a=b)/\R.ps[k]? =some S/\S.wt= []
def a2B:a2C:=λR b c Z=>∃k n S,∃ts:List Th,c= [.num k,.num n]/\(Z=λ(s:Str) d a=>s=Txt.join "; " (ts.map thT)/\d=R/\a=b)/\R.ps[k]? =some S/\S.up.length<=6/\ts.length<=6/\(S.up.filter λf=>decide (f.1=n)).map Prod.snd=(ts.map pieces).flatten/\∀v∈ts,Thk v
def qH (D:a2C)(C CR:Addr)(A:Cs):Sp:=λas H Q _=>∃d R wp o w l xs vs Z,as= [.ref d,.ref l]/\eG C CR A H d (some R) wp o w/\oY o H/\H l=some (.lst xs)/\¬ o l/\fQ H xs vs/\D R wp vs Z/\∀s R' wp' H' o' w',Z s R' wp'->eG C CR A H' d (some R') wp' o' w'->oY o' H'->MvP 161 o H o' H'->Q (.str s) H'
def Do (x:Str):a2C:=λR a b Z=>(x="thing"/\a6K R a b Z)\/(x="wrong"/\a6I R a b Z)\/(x="run"/\b8L R a b Z)\/(x="waits"/\a6J R a b Z)\/(x="things"/\a2B R a b Z)
def b7M (v:Nat)(cs:List (Nat×Nat)):Prop:=(1<=(chI cs).length/\(chI cs).length<=5)/\∀m∈chI cs,a8O m.1 m.2 (v:Int)
def a9Y (C CR:Addr)(A:Cs):Sp:=λas H Q _=>∃d wp o w l xs v cs,as= [.ref d,.ref l]/\eG C CR A H d none wp o w/\H l=some (.lst xs)/\fQ H xs (.num v::cs.map λc=> .cho c.1 c.2)/\b7M v cs/\∀H' o' w',eG C CR A H' d (some (R0 (chI cs) ((v:Nat):Int))) [] o' w'->Mv o H o' H'->Q (.str "ok") H'
def a2W (K:W.Frag)(C CR:Addr)(A:Cs):Sp:=λas H Q _=>∃d st wp o w x vs,as= [.ref d,.str (Txt.join " " (x::vs.map vlT))]/\eG C CR A H d st wp o w/\oY o H/\a2A K x vs/\(x.length<=13/\32∉x.cps.toList)/\
  ((x="rail"/\st=none/\∃v cs,vs= .num v::(cs.map λc=> .cho c.1 c.2)/\b7M v cs/\∀H' o' w',eG C CR A H' d (some (R0 (chI cs) ((v:Nat):Int))) [] o' w'->oY o' H'->MvP 161 o H o' H'->Q (.str "ok") H')\/
   ∃R Z,st=some R/\Do x R wp vs Z/\∀s R' wp' H' o' w',Z s R' wp'->eG C CR A H' d (some R') wp' o' w'->oY o' H'->MvP 161 o H o' H'->Q (.str s) H')
def c3U (K:W.Frag):Sp:=λb H Q _=>∃(a:Addr)(ds:List Int),b= [.ref a]/\SqL K H a (ds.map V.int)/\ds.length<=75/\ds.all byt=true/\∀H',Same H H'->Q (.str (uW ds)) H'
def c3R:Sp:=λa H Q _=>∃t e v,a= [.ref e]/\c2V t H e v/\Thk v/\∀H',Same H H'->Q (.str (thT v)) H'
def b5C (K:W.Frag):Sp:=λb H Q _=>∃(g:Int)(a:Addr)(th:List Int),b= [.int g,.ref a]/\SqL K H a (th.map V.int)/\a3X g th/\∀H',Same H H'->Q .non H'
def c0C (K:W.Frag):Sp:=λb H Q _=>∃(g:Int)(a:Addr)(th:List Int),b= [.int g,.ref a]/\SqL K H a (th.map V.int)/\a3X g th/\∀p qs H',H p=none->(∀q∈qs,H q=none)->qs.Nodup->p∉qs->Same H H'->H' p=some (.lst (qs.map V.ref))->qs.length=nP th->Pcs H' g (nP th) th qs->Q (.ref p) H'
def b9Y:Sp:=λb H Q _=>∃a,b= [.ref a]/\H a=some (.lst [])/\∀H',Same H H'->Q (.str "") H'
def b9N:Sp:=λas H Q _=>∃(a:Addr)(xs:List V)(fs:List Fr)(n:Nat)(vs:List Th),as= [.ref a,.int (n:Int)]/\H a=some (.lst xs)/\fK H (λ_=>True) xs fs/\fs.length<=6/\vs.length<=6/\(fs.filter λf=>decide (f.1=n)).map Prod.snd=(vs.map pieces).flatten/\(∀v∈vs,Thk v)/\∀t0 p es H',H p=none->Same H H'->H' p=some (.lst (es.map V.ref))->WhQ t0 H' es vs->Q (.ref p) H'
def qP {t:Int}(h:byt t=true):(itT t).length<=6/\t.natAbs.log2<1920:=by
 obtain⟨n,rfl,a⟩:=sS h;exact⟨gZ (by lia),jT (by lia)⟩
def sO {xs:List Int}(h:xs.all byt=true)(l:xs.length<=75):(uW xs).length<=900/\JoinOk "." (xs.map itT)=true:=by
 have a:(".":Str).length=1:=by decide +kernel
 have b:∀y∈xs.map itT,y.length<=6:=λy e=>by
  obtain⟨d,hd,rfl⟩:=YS.mp e;exact(qP (Xc.mp h d hd)).1
 have c:=pP (z:=".") b;rw[Ya]at c;exact⟨YK c (by lia),oE b (by rw[Ya];lia)⟩
def a9A {v:Th}(h:Thk v):(thT v).length<=3000:=by
 have d:(" ":Str).length=1:=by decide +kernel
 have e:∀y∈(if v.2= [] then [("whole":Str),itT v.1] else ["whole",itT v.1,uW v.2]),y.length<=900:=λy a=>by
  have b:y="whole"\/y=itT v.1\/y=uW v.2:=by
   grind
  rcases b with rfl | rfl | rfl
  ·decide +kernel
  ·exact YK (qP h.1).1 (by decide)
  ·exact(sO h.2.2 h.2.1).1
 have c:=pP (z:=" ") e;rw[d]at c;exact YK c (by split <;> exact Xh rfl)
def b1K {g:Int}(t:a3X g th)(b:j<nP th):(pc g (nP th) j th).all byt=true:=by
 unfold pc;rw[List.all_append,XJ];have c:nP th<=15:=by have:=t.2.1;unfold nP;lia
 refine⟨?_,Xc.mpr λx a=>Xc.mp t.2.2 x (X2 (YY a))⟩;show (byt g && (byt _ && true))=true;rw[t.1,iG.mpr ⟨by lia,by lia⟩];rfl
def a4B (s:Jn)(ps:List (List Int))(vs:List Th):Prop:=(s.o=false/\ps=(vs.map pieces).flatten)\/∃v vs' b,vs=v::vs'/\0<b/\b<nP v.2/\JSo s v.1 v.2 b/\ps=(pieces v).drop b++(vs'.map pieces).flatten
def b1Y (a:List Int):0<nP a:=by unfold nP;lia
def qK {v:Th}{b:Nat}(h:b<nP v.2):(pieces v).drop b=pc v.1 (nP v.2) b v.2::(pieces v).drop (b+1):=by
 unfold pieces;rw[Xq (by rw[Ya,YI];exact h),X4,List.getElem_range]
def a4B.step {s:Jn}{p:List Int}{ps:List (List Int)}{vs:List Th}(h:a4B s (p::ps) vs):∃g th b,(g,th)∈vs/\b<nP th/\JSt s g th b/\p=pc g (nP th) b th/\∀s',JSt s' g th (nxP th b)->∃vs',vs=a3E g th b++vs'/\a4B s' ps vs':=by
 have go:∀{v:Th}{vs':List Th}{b:Nat},vs=v::vs'->b<nP v.2->JSt s v.1 v.2 b->p::ps=(pieces v).drop b++(vs'.map pieces).flatten->∃g th b,(g,th)∈vs/\b<nP th/\JSt s g th b/\p=pc g (nP th) b th/\∀s',JSt s' g th (nxP th b)->∃vs',vs=a3E g th b++vs'/\a4B s' ps vs':=λ{v vs' b} e d i j=>by
  rw[qK d]at j;obtain⟨l,k⟩:=Jl j;refine⟨v.1,v.2,b,e▸Yt,d,i,l,λs' a=>?_⟩;unfold a3E;unfold nxP at a;by_cases c:b+1<nP v.2
  ·rw[if_pos c]at a ⊢;exact⟨vs,rfl,.inr ⟨v,vs',b+1,e,Nat.succ_pos b,c,a,k⟩⟩
  ·rw[if_neg c]at a ⊢;refine⟨vs',e,.inl ⟨a,k.trans ?_⟩⟩;rw[XT (by unfold pieces;rw[Ya,YI];lia)];rfl
 rcases h with ⟨m,f⟩ | ⟨v,vs',b,e,n,d,i,f⟩
 ·cases vs with
  |nil=>cases f
  |cons v vs'=>exact go rfl (b1Y _) m f
 ·exact go e d (by unfold JSt;lia) f
def a4B.end_ {s:Jn}{vs:List Th}(h:a4B s [] vs):s.o=false/\vs= []:=by
 rcases h with ⟨d,a⟩ | ⟨v,f,b,e,i,g,j,a⟩
 ·refine⟨d,?_⟩;cases vs with
  |nil=>rfl
  | cons v r=>
   have c:([]:List (List Int))=(pieces v).drop 0++(r.map pieces).flatten:=a;rw[qK (b1Y _)]at c;cases c
 ·rw[qK g]at a;cases a
def c5B {f:Fr}:4*LW f<=5*(27+8*f.2.length):=by
 have h:=b0V (fb (f.1:Int) f.2);have l:=nG (f.1:Int) f.2;lia
abbrev Rw5:=Nat×Nat×List Nat
variable {rs:List Rw5}
def fY (g n:Nat):List Rw5->Nat
 |[]=>g
 |r::rs=>if r.2.1=n then (fY g n rs+1) % 256 else fY g n rs
def rE (g n:Nat):List Rw5->List Th
 |[]=>[]
 |r::rs=>rE g n rs++if r.2.1=n then [(((fY g n rs:Nat):Int),itg r.2.2)] else []
def a0C {g:Nat}{r:Rw5}:fY g n (r::rs)=if r.2.1=n then (fY g n rs+1) % 256 else fY g n rs:=rfl
def b3D {g:Nat}{r:Rw5}:rE g n (r::rs)=rE g n rs++if r.2.1=n then [(((fY g n rs:Nat):Int),itg r.2.2)] else []:=rfl
def gY (g:Nat)(r:Rw5)(a:List Rw5):List (Nat×Nat×List Int):=(pieces (((fY g r.2.1 a:Nat):Int),itg r.2.2)).map λp=>(r.1,r.2.1,p)
def mH (g:Nat):List Rw5->List (Nat×Nat×List Int)
 |[]=>[]
 |r::rs=>mH g rs++gY g r rs
def lng (n:Nat):Nat:=43*max 1 ((n+4) / 5)+8*n+(43*max 1 ((n+4) / 5)+8*n) / 4+max 1 ((n+4) / 5)+max 1 ((n+4) / 5)*17
structure rH (m:Nat)(rs:List Rw5):Prop where
 ln:rs.length<=2
 ok:∀r∈rs,r.1<m/\r.2.1<256/\r.2.2.length<=14/\∀d∈r.2.2,d<256
 un:∀r∈rs,∀s∈rs,r.2.1=s.2.1->r.1=s.1
def rH.sub {ss:List Rw5}(h:rH m rs)(l:ss.length<=2)(s:∀r∈ss,r∈rs):rH m ss:=⟨l,λr z=>h.ok r (s r z),λr z t y=>h.un r (s r z) t (s t y)⟩
theorem xG {g:Nat}(h:g<256):∀rs:List Rw5,fY g n rs<256
 |[]=>h
 | r::rs=>by
  unfold fY;split
  ·exact Nat.mod_lt _ (by decide)
  ·exact xG h rs
def c1V {ds:List Nat}(h:∀d∈ds,d<256):(itg ds).all byt=true:=Xc.mpr λx a=>by
 obtain⟨d,hd,rfl⟩:=YS.mp a;have:=h d hd;exact iG.mpr ⟨by lia,by lia⟩
def xR {g:Nat}{r:Rw5}{ss:List Rw5}(c:g<256)(h:rH m rs)(d:r∈rs):a3X ((fY g n ss:Nat):Int) (itg r.2.2)/\nP (itg r.2.2)<=3:=by
 obtain⟨_,_,a,b⟩:=h.ok r d;have:=xG (n:=n) c ss;have e:(itg r.2.2).length=r.2.2.length:=Ya _;exact⟨⟨iG.mpr ⟨by lia,by lia⟩,by lia,c1V b⟩,by unfold nP;lia⟩
theorem yO {g:Nat}(hg:g<256)(h:rH m rs):∀ss:List Rw5,(∀r∈ss,r∈rs)->(∀v∈rE g n ss,Thk v)/\(rE g n ss).length<=ss.length
 |[],_=>⟨λv z=>(by cases z),Yb _⟩
 | r::ss,hs=>by
  obtain⟨a,b⟩:=yO hg h ss λx hx=>hs x (Yp _ hx);unfold rE;rw[Yc];split
  ·exact⟨λv hv=>(YM.mp hv).elim (a v) λz=>by rw[Yw.mp z];exact(xR hg h (hs r Yt)).1,Nat.succ_le_succ b⟩
  ·exact⟨λv hv=>a v (by rwa [Yv]at hv),Nat.le_succ_of_le b⟩
theorem a5Y {g:Nat}:∀rs:List Rw5,((mH g rs).filter λf=>decide (f.2.1=n)).map (λf=>f.2.2)=((rE g n rs).map pieces).flatten
 |[]=>rfl
 | r ::rs=>by
  show ((mH g rs++gY g r rs).filter _).map _=((rE g n rs++_).map pieces).flatten;rw[Jx,Yh,a5Y rs,Yh,List.flatten_append];congr 1;unfold gY;rw[List.filter_map,XE];by_cases c:r.2.1=n
  ·subst c;have e:(pieces (((fY g r.2.1 rs:Nat):Int),itg r.2.2)).filter ((λf:Nat×Nat×List Int=>decide (f.2.1=r.2.1)) ∘ λp=>(r.1,r.2.1,p))=_:=List.filter_eq_self.mpr λx _=>Ym rfl;rw[if_pos rfl,e,List.map_singleton,List.flatten_singleton];exact List.map_id _
  ·have e:(pieces (((fY g r.2.1 rs:Nat):Int),itg r.2.2)).filter ((λf:Nat×Nat×List Int=>decide (f.2.1=n)) ∘ λp=>(r.1,r.2.1,p))=_:=Jh.mpr λx _ z=>c (YR z);rw[if_neg c,e];rfl
def tW (v:Th):(pieces v).length=nP v.2:=by unfold pieces;rw[Ya,YI]
theorem uI {g:Nat}(hg:g<256)(h:rH m rs):∀ss:List Rw5,(∀r∈ss,r∈rs)->(∀f∈mH g ss,∃r∈ss,f.1=r.1/\f.2.1=r.2.1/\FrN f.2)/\(mH g ss).length<=3*ss.length/\∀v,v<=5->((mH g ss).map λf=>LW f.2).sum+(mH g ss).length*(12+v)<=(ss.map λr=>lng r.2.2.length).sum
 |[],_=>⟨λf z=>(by cases z),Yb _,λv _=>(by show 0+0*(12+v)<=0;lia)⟩
 | r :: ss,hs=>by
  obtain⟨a,b,c⟩:=uI hg h ss λx hx=>hs x (Yp _ hx);have hr:=hs r Yt;obtain⟨t,n3⟩:=xR (n:=r.2.1) (ss:=ss) hg h hr;obtain⟨_,r2,r3,_⟩:=h.ok r hr;have fn:∀f∈gY g r ss,f.1=r.1/\f.2.1=r.2.1/\FrN f.2:=λf hf=>by
   obtain⟨p,hp,rfl⟩:=YS.mp hf;obtain⟨j,hj,rfl⟩:=YS.mp hp;exact⟨rfl,rfl,r2,b1J _ _ _ _,b1K t (Jv.mp hj)⟩
  have ln:(gY g r ss).length=nP (itg r.2.2):=by unfold gY;rw[Ya,tW]
  have sm:∀k,k<=nP (itg r.2.2)->4*(((gY g r ss).take k).map λf=>LW f.2).sum<=5*(43*k+8*min (5*k) r.2.2.length):=λk=>by
   induction k with
   |zero=>exact λ_=>YW _
   | succ k ih=>
    intro hk;have i:=ih (by lia);have e:(gY g r ss)[k]? =some (r.1,r.2.1,pc ((fY g r.2.1 ss:Nat):Int) (nP (itg r.2.2)) k (itg r.2.2)):=by
     unfold gY pieces;rw[Yn,Yn,Xx hk];rfl
    rw[List.take_succ,e,Yh,List.sum_append];have w:4*LW (r.2.1,pc ((fY g r.2.1 ss:Nat):Int) (nP (itg r.2.2)) k (itg r.2.2))<=5*(27+8*(pc ((fY g r.2.1 ss:Nat):Int) (nP (itg r.2.2)) k (itg r.2.2)).length):=c5B;rw[a4Z]at w;have l:(itg r.2.2).length=r.2.2.length:=Ya _;show 4*(_+(LW (r.2.1,_)+0))<=_;lia
  have s:=sm _ (Yb _);rw[<-ln,Yg (Yb _),ln]at s;have l:(itg r.2.2).length=r.2.2.length:=Ya _;show (∀f∈mH g ss++gY g r ss,_)/\(mH g ss++gY g r ss).length<=_/\∀v,v<=5->((mH g ss++gY g r ss).map _).sum+(mH g ss++gY g r ss).length*_<=_;rw[Yc,ln];refine⟨λf hf=>(YM.mp hf).elim (λz=>let ⟨x,y,w⟩:=a f z;⟨x,Yp _ y,w⟩) λz=>⟨r,Yt,fn f z⟩,by rw[Yk];lia,λv hv=>?_⟩;have c:=c v hv;rw[Yh,List.sum_append,Yz,List.sum_cons,Nat.add_mul];have s2:nP (itg r.2.2)*(12+v)<=nP (itg r.2.2)*17:=Nat.mul_le_mul_left _ (by lia);have el:lng r.2.2.length=43*nP (itg r.2.2)+8*r.2.2.length+(43*nP (itg r.2.2)+8*r.2.2.length) / 4+nP (itg r.2.2)+nP (itg r.2.2)*17:=by unfold nP lng;rw[l]
  rw[el];lia
def b8H {g:Nat}(j:g<256)(h:rH m rs):F92 m (mH g rs):=by
 obtain⟨a,_⟩:=uI j h rs λ_ z=>z;refine⟨λf b=>?_,λf b k l e=>?_⟩
 ·obtain⟨r,c,d,_,i⟩:=a f b;exact⟨d▸(h.ok r c).1,i⟩
 ·obtain⟨r,c,d,n,_⟩:=a f b;obtain⟨s,o,i,p,_⟩:=a k l;rw[d,i];exact h.un r c s o (by rw[<-n,<-p,e])
structure lC (P:Addr->Prop)(H:Hp)(l:Addr)(ts:List Addr)(rs:List Rw5):Prop where
 pl:P l
 at_:H l=some (.lst (ts.map V.ref))
 ln:ts.length=rs.length
 tp:∀(i:Nat)(t:Addr)(r:Rw5),ts[i]? =some t->rs[i]? =some r->∃d,(d≠l/\P t/\P d)/\H t=some (.tup [.int ((r.1:Nat):Int),.int ((r.2.1:Nat):Int),.ref d])/\H d=some (.lst ((itg r.2.2).map V.int))
def lC.imp (h:lC P H l ts rs)(g:∀x u,P x->H x=some u->H' x=some u):lC P H' l ts rs:=⟨h.pl,g _ _ h.pl h.at_,h.ln,λi t r a b=>let ⟨d,n,x,y⟩:=h.tp i t r a b;⟨d,n,g _ _ n.2.1 x,g _ _ n.2.2 y⟩⟩
def lC.same (h:lC P H l ts rs)(g:Same H H'):lC P H' l ts rs:=h.imp λx u _ e=>g x u e
def lC.put {d:Addr}{r:Rw5}(h:lC P H l ts rs)(et:H t=some (.tup [.int ((r.1:Nat):Int),.int ((r.2.1:Nat):Int),.ref d]))(ed:H d=some (.lst ((itg r.2.2).map V.int)))(dl:d≠l/\P t/\P d):lC P (upd H l (.lst (ts.map V.ref++[.ref t]))) l (ts++[t]) (rs++[r]):=by
 have f:∀{t xs},H t=some (.tup xs)->t≠l:=λe z=>by rw[z,h.at_]at e;cases e
 refine⟨h.pl,by rw[aC,Yh];rfl,by rw[Yc,Yc,h.ln];rfl,λi u s a b=>?_⟩;by_cases c:i<ts.length
 ·rw[YN c]at a;rw[YN (h.ln▸c)]at b;obtain⟨e,n,x,y⟩:=h.tp i u s a b;exact⟨e,n,by rw[aH (f x)];exact x,by rw[aH n.1];exact y⟩
 ·rw[YH (by lia)]at a;rw[YH (by have:=h.ln;lia),<-h.ln]at b;cases z:i-ts.length with
  |zero=>rw[z]at a b;cases a;cases b;exact⟨d,dl,by rw[aH (f et)];exact et,by rw[aH dl.1];exact ed⟩
  |succ k=>rw[z]at a;cases a
def lC.get {x:V}(h:lC P H l ts rs)(e:(ts.map V.ref)[i]? =some x):∃t d r,x= .ref t/\rs[i]? =some r/\(rs.take (i+1)).reverse=r::(rs.take i).reverse/\H t=some (.tup [.int ((r.1:Nat):Int),.int ((r.2.1:Nat):Int),.ref d])/\H d=some (.lst ((itg r.2.2).map V.int)):=by
 rw[Yn]at e;obtain⟨t,f,rfl⟩:=YU.mp e;have c:i<rs.length:=by rw[<-h.ln];exact(Ye.mp f).1
 obtain⟨d,_,a,b⟩:=h.tp i t _ f (Yd c);exact⟨t,d,_,rfl,Yd c,by rw[Yf c,List.reverse_append];rfl,a,b⟩
abbrev nV (ns:List Nat):List V:=(itg ns).map V.int
def a5H {ns:List Nat}:nV ns++[V.int ((n:Nat):Int)]=nV (ns++[n]):=by
 unfold nV itg;rw[Yh,Yh];rfl
def a4L {ns:List Nat}(h:ns.length<=1000):(nV ns).length<sizeLine:=bY (by rw[Ya,Ya];exact h)
def c3W (K:W.Frag):Sp:=λb H Q _=>∃(a:Addr)(ss:List Int)(k:Nat),b= [.ref a,.int (k:Int)]/\SqL K H a (ss.map V.int)/\ss.length<=63/\k<=5/\∀(m1 m2:Nat)(t:Addr) H',m1<256->m2<256->H t=none->Same H H'->H' t=some (.tup [.int (m1:Int),.int (m2:Int)])->Q (.ref t) H'
def b9T (K:W.Frag):Sp:=λb H Q _=>∃(a:Addr)(ss:List Int)(m:Nat),b= [.ref a,.int (m:Int)]/\SqL K H a (ss.map V.int)/\ss.length<=63/\m<=5/\∀(l:Addr)(ns:List Nat) H',H l=none->Same H H'->H' l=some (.lst (nV ns))->ns.length=2*m->(∀n∈ns,n<256)->(∀(i j n:Nat),ns[i]? =some n->ns[j]? =some n->i=j)->Q (.ref l) H'
def b4X:Sp:=λa H Q _=>∃n:Nat,a= [.int (n:Int)]/\n<=14/\Q (.int ((lng n:Nat):Int)) H
def b9O (K:W.Frag):Sp:=λb H Q _=>∃(a:Addr)(ss:List Int)(k:Nat),b= [.ref a,.int (k:Int)]/\SqL K H a (ss.map V.int)/\ss.length<=63/\k<=5/\∀(l:Addr)(ds:List Nat) H',H l=none->Same H H'->H' l=some (.lst (nV ds))->ds.length<=14->(∀d∈ds,d<256)->Q (.ref l) H'
def b4T (K:W.Frag):Sp:=λc H Q _=>∃(a b:Addr)(ss:List Int)(m:Nat)(ns:List Nat),c= [.ref a,.int (m:Int),.ref b]/\SqL K H a (ss.map V.int)/\ss.length<=63/\2<=m/\m<=5/\H b=some (.lst (nV ns))/\ns.length=2*m/\∀(l:Addr)(ts:List Addr)(rs:List Rw5) H',H l=none->Same H H'->lC (λx=>H x=none) H' l ts rs->rs.length<=2->(∀r∈rs,r.1<m/\r.2.2.length<=14/\(∀d∈r.2.2,d<256)/\∃j,j / 2=r.1/\ns[j]? =some r.2.1)->Q (.ref l) H'
def b9Z:Sp:=λa H Q _=>∃(P:Addr->Prop)(l:Addr)(n g m:Nat)(ts:List Addr)(rs:List Rw5),a= [.ref l,.int (n:Int),.int (g:Int)]/\lC P H l ts rs/\rH m rs/\g<256/\∀H',Same H H'->Q (.str (Txt.join "; " ((rE g n rs.reverse).map thT))) H'
def cm {i j:Int}(a:0<=i:=by lia)(b:i<=100000:=by lia)(c:0<=j:=by lia)(d:j<=100000:=by lia):a2D i j:=⟨jP (by lia) (by lia),jP (by lia) (by lia)⟩
def b6G {b d:Nat}(c:i<10)(a:j<10)(h:(b+i*(2*d+1)) % 256=(b+j*(2*d+1)) % 256):i=j:=by
 have go:∀{i j:Nat},j<10->(b+i*(2*d+1)) % 256=(b+j*(2*d+1)) % 256->j<=i:=λ{i j} a h=>by
  have z:=Nat.sub_mod_eq_zero_of_mod_eq h.symm;rw[Nat.add_sub_add_left,<-Nat.sub_mul]at z;rcases Nat.eq_zero_or_pos (j-i) with e | p
  ·lia
  ·have:=Nat.le_of_dvd p ((Nat.Coprime.pow_left 8 (by unfold Nat.Coprime;rw[Nat.gcd_rec,show (2*d+1) % 2=1 by lia];rfl)).dvd_of_dvd_mul_right (Nat.dvd_of_mod_eq_zero z));lia
 exact Nat.le_antisymm (go c h.symm) (go a h)
def qG (x y z:Str):x++y++z=x++(y++z):=xK (by rw[jY,jY,jY,jY,Yo])
def iY {x y:Str}{a b:Nat}(h:x.length<=a)(d:y.length<=b)(c:a+b<=9000:=by decide):x.length+y.length<=sizeLine:=szl (by lia)
def lU {x y:Str}{a b:Nat}(h:x.length<=a)(c:y.length<=b):(x++y).length<=a+b:=by rw[Str.length_append];lia
def c6P (t:Nat)(ds:List Nat)(h:ds= []):("whole ":Str)++num t=thT ((t:Int),itg ds):=by
 subst h;rfl
def c6O (t:Nat)(ds:List Nat)(h:ds≠ []):("whole ":Str)++num t++" "++uW (itg ds)=thT ((t:Int),itg ds):=by
 have e:thT ((t:Int),itg ds)=Txt.join " " ["whole",num t,uW (itg ds)]:=YJ _ (if_neg λz=>h (List.map_eq_nil_iff.mp z));rw[e,gQ];show _=("whole":Str)++" "++(num t++" "++uW (itg ds))
 rw[show ("whole":Str)++" "="whole " by decide +kernel];simp only[qG]
def Dk5 (C CR:Addr)(A:Cs)(F H:Hp)(d:Addr)(st:Option RS)(wp:Wp):Prop:=∃o w,eG C CR A H d st wp o w/\oY o H/\∀x u,F x=some u->H x=some u/\¬ o x/\x≠161
section
variable {CR:Addr}{F F':Hp}{d:Addr}{st:Option RS}{wp:Wp}
def Dk5.old (h:Dk5 C CR A F H d st wp):Same F H:=let ⟨_,_,_,_,k⟩:=h;λx u e=>(k x u e).1
def Dk5.ed (h:Dk5 C CR A F H d st wp):∃dx fs,H d=some (.ins C dx fs)/\fs.lookup ("say":Str)=none:=let ⟨_,_,a,_,_⟩:=h;⟨_,_,a.ed,rfl⟩
def Dk5.same (h:Dk5 C CR A F H d st wp)(g:Same H H'):Dk5 C CR A F H' d st wp:=let ⟨o,w,a,b,k⟩:=h;⟨o,w,a.same g,b.same g,λx u e=>let ⟨p,q⟩:=k x u e;⟨g _ _ p,q⟩⟩
def Dk5.le (h:Dk5 C CR A F H d st wp)(g:Same F' F):Dk5 C CR A F' H d st wp:=let ⟨o,w,a,b,k⟩:=h;⟨o,w,a,b,λx u e=>k x u (g _ _ e)⟩
def Dk5.grow (h:Dk5 C CR A F H d st wp)(g:Same H H')(n:∀x u,F' x=some u->F x=some u\/(H x=none/\H' x=some u)):Dk5 C CR A F' H' d st wp:=by
 obtain⟨o,w,a,b,k⟩:=h;refine⟨o,w,a.same g,b.same g,λx u e=>(n x u e).elim (λz=>let ⟨p,q⟩:=k x u z;⟨g _ _ p,q⟩) λ⟨z,y⟩=>⟨y,λq=>a.al x q z,λq=>?_⟩⟩;obtain⟨_,f,c,_⟩:=b;rw[q,c]at z;cases z
open PyProof.Rows in
theorem Dk5.set {b ks':List (Key×V)}(h:Dk5 C CR A (upd F t (.dK b)) H d st wp):Dk5 C CR A (upd F t (.dK ks')) (upd H t (.dK ks')) d st wp:=by
 obtain⟨o,w,a,⟨g,i,j,l,m⟩,k⟩:=h;obtain⟨e,f,n⟩:=k t _ aC;have ne:∀{x u},H x=some u->(o x\/∀b,u≠HO.dK b)->upd H t (.dK ks') x=some u:=λ{x u} ex z=>by
  rw[aH λc=>?_]
  ·exact ex
  subst c;rw[e]at ex;cases ex;exact z.elim f λy=>y _ rfl
 refine⟨o,w,a.move λx v ex z=>ne ex (z.imp_right λ⟨xs,y⟩ b q=>by rw[q]at y;cases y),⟨g,i,ne j (.inr λb q=>by cases q),l,m.imp id λ⟨p,x,y,z⟩=>⟨p,x,ne y (.inr λb q=>by cases q),z⟩⟩,λx u ex=>?_⟩;by_cases c:x=t
 ·subst c;rw[aC]at ex;cases ex;exact⟨aC,f,n⟩
 ·rw[aH c]at ex;rw[aH c];exact k x u (by rw[aH c];exact ex)
def Dk5.ask {x:Str}{vs:List Vl}{f:Str}{Q:VK}{R:RS}{Z:Str->RS->Wp->Prop}(h:Dk5 C CR A F H d (some R) wp)(g:a2A K x vs)(i:f=Txt.join " " (x::vs.map vlT))(j:x.length<=13/\32∉x.cps.toList)(hd:Do x R wp vs Z)(q:∀s R' wp' H',Z s R' wp'->Dk5 C CR A F H' d (some R') wp'->Q (.str s) H'):a2W K C CR A [.ref d,.str f] H Q E:=by
 subst i;obtain⟨o,w,a,b,k⟩:=h;refine⟨d,_,wp,o,w,x,vs,rfl,a,b,g,j,.inr ⟨R,Z,rfl,hd,λs R' wp' H' l r z t v m=>q s R' wp' H' z ⟨l,r,t,v,λx u e=>?_⟩⟩⟩;obtain⟨p,n,y⟩:=k x u e;refine⟨m.1 x u p (.inl λz=>z.elim n y),λz=>?_,y⟩;rcases m.2 x (.inl z) with (c | c) | c
 ·exact n c
 ·exact y c
 ·rw[p]at c;cases c
def Dk5.up {v:Nat}{cs:List (Nat×Nat)}{f:Str}{Q:VK}(h:Dk5 C CR A F H d none wp)(g:a2A K "rail" (.num v::cs.map λc=> .cho c.1 c.2))(i:f=Txt.join " " ("rail"::(Vl.num v::cs.map λc=> .cho c.1 c.2).map vlT))(ok:b7M v cs)(q:∀H',Dk5 C CR A F H' d (some (R0 (chI cs) (v:Int))) []->Q (.str "ok") H'):a2W K C CR A [.ref d,.str f] H Q E:=by
 subst i;obtain⟨o,w,a,b,k⟩:=h;refine⟨d,_,wp,o,w,"rail",_,rfl,a,b,g,by decide +kernel,.inl ⟨rfl,rfl,v,cs,rfl,ok,λH' j l r s m=>q H' ⟨j,l,r,s,λx u e=>?_⟩⟩⟩;obtain⟨p,n,y⟩:=k x u e;refine⟨m.1 x u p (.inl λz=>z.elim n y),λz=>?_,y⟩;rcases m.2 x (.inl z) with (c | c) | c
 ·exact n c
 ·exact y c
 ·rw[p]at c;cases c
end
def nO.can {R:RS}{f:Nat×Nat×List Int}(h:nO m v ch fs R)(d:F92 m (fs++[f]))(l:fs.length<=9):a6L R f.1 f.2.1 (B91 ch v fs f.1)/\nO m v ch (fs++[f]) (handed R f.1 f.2.1 (B91 ch v fs f.1) f.2.2):=by
 obtain⟨a,b,c⟩:=h.hand d;have k:=h.ol;have fo:=(d.ok f (by simp)).2.1;refine⟨⟨b,by lia,λS i=>?_,iG.mpr ⟨by lia,by lia⟩,a⟩,c⟩;obtain⟨j,g,e⟩:=X6 i;have:=h.ps j (by rw[<-h.ln.ps];exact g);rw[Yd g,e]at this;cases this;have z:=List.length_filter_le (λf:Nat×Nat×List Int=>decide (f.1=j)) fs;show (pU fs j).length<900;unfold pU;rw[Ya];lia
def b8V (ds:List Nat):(ds.map Vl.num).map vlT=ds.map num:=by
 rw[XE];rfl
def lO (x:Str){r:List Str}(h:r≠ []):Txt.join " " (x::r)=x++" "++Txt.join " " r:=by
 cases r with
 |nil=>exact absurd rfl h
 |cons y r=>rw[gQ,gQ];rfl
def b9W (C CR:Addr)(A:Cs):Sp:=λas H Q _=>∃(P:Addr->Prop)(d l:Addr)(g m v:Nat)(ch:Nat->Nat×Nat)(ts:List Addr)(rs:List Rw5)(F:Hp)(R:RS),as= [.ref d,.ref l,.int (g:Int)]/\Dk5 C CR A F H d (some R) []/\lC P F l ts rs/\rH m rs/\m<=5/\g<256/\nO m v ch [] R/\∀R' H',Dk5 C CR A F H' d (some R') []->nO m v ch (mH g rs.reverse) R'->Q (.int ((200+(rs.map λr=>lng r.2.2.length).sum:Nat):Int)) H'
def b0R {cs:List (Nat×Nat)}(hv:v<10 ^ 6)(h:∀c∈cs,c.1<256/\c.2<256)(ne:cs≠ []):Fits "choice" ["number","choice"] (.num v::cs.map λc=> .cho c.1 c.2):=by
 cases cs with
 |nil=>exact absurd rfl ne
 | cons c r=>
  have:=h c Yt;exact⟨.inl ⟨rfl,hv⟩,⟨rfl,Jt this.1 (by decide),Jt this.2 (by decide)⟩,Fits.cho rfl λx a=>h x (Yp _ a)⟩
def b1A (o:Option (Nat×Nat)):prW o.toList=prs o:=by cases o <;> rfl
def c3G {y:Str}(x:Str)(k:Nat)(h:y=x++" ":=by decide +kernel):y++num k=Txt.join " " (x::[Vl.num k].map vlT):=by rw[h];rfl
def c3F {y:Str}(x:Str)(k n:Nat)(h:y=x++" ":=by decide +kernel):y++num k++" "++num n=Txt.join " " (x::[Vl.num k,.num n].map vlT):=by
 rw[h,gQ];show _=x++" "++(num k++" "++num n)
 simp only[qG]
def c6N {a:List (Nat×Nat)}(h:a≠ []):("rail ":Str)++num v++" "++Txt.join " " (a.map λc=>vlT (.cho c.1 c.2))=Txt.join " " ("rail"::(Vl.num v::a.map λc=> .cho c.1 c.2).map vlT):=by
 rw[lO _ (by simp),Yz,lO _ (by simpa using h),show ("rail":Str)++" "="rail " by decide +kernel,XE]
 simp only[qG];rfl
def SqL.keepT {P:Addr}{pos:Pos}{q:Str}(h:SqL K H a xs)(b:qR P pos q H)(g:∀x u,H x=some u->x≠P->H' x=some u):SqL K H' a xs:=by
 obtain⟨c,e,_⟩:=b;rcases h with (h | ⟨o,h⟩) | h
 ·exact .inl (.inl (g _ _ h λz=>by rw[z,e]at h;cases h))
 ·exact .inl (.inr ⟨o,g _ _ h λz=>by rw[z,e]at h;cases h⟩)
 ·exact .inr h
def c1N (h:n<=14):lng n<=355:=by unfold lng;lia
theorem a5N:∀{rs:List Rw5},(∀r∈rs,r.2.2.length<=14)->(rs.map λr=>lng r.2.2.length).sum<=355*rs.length
 |[],_=>Yb _
 | r::rs,h=>by
  have:=a5N λx hx=>h x (Yp r hx);have:=c1N (h r Yt);rw[Yz,List.sum_cons,Yk];lia
def b2M:Txt.join "; " (([]:List Th).map thT)="":=by rfl
def xM (K:W.Frag):Sp:=λb H Q _=>∃(a:Addr)(ns:List Int),b= [.ref a]/\SqL K H a (ns.map V.int)/\ns.length<=63/\qR 161 a0N iqH H/\∀H',Q (.bl true) H'
abbrev FB (P:Program)(w:World)(K:W.Frag)(mg:Str->Option Value)(base:Heap)(CX:CXT)(k:Nat)(nm:Str)(a:Addr)(d:FuncData)(ps:List Str)(sp:Sp):Prop:=iV P w K mg base CX k a d ps sp/\Binds K d ps []/\W.keepIn K (.ref a)=true/\mg nm=some (.ref a)
def aW {X:Cx}(i:Nat){x:Str}{e:Expr}{b:TE}{pos a:Pos}(c:X.N.Nodup)(d:PE X e b)(f:X.N[i]? =some x:=by rfl)(g:Loc X.env.scope x:=by exact Or.inl rfl)(h:swapsWith e (some (.Name x a)) pos.line X.env=pure false:=by rfl)(j:X.fn x=true\/X.env.scope.names.lookup x=some .local:=by first | exact .inl rfl | exact .inr rfl | assumption):L2.PS X (.Assign [.Name x a] e pos) (b9J b (wF i)):=oU (i:=i) c f g d h j
def aL {X:Cx}{CX:CXT}{x:Str}{f:Addr}{d:FuncData}{ps:List Str}{sp:Sp}{e:Expr}{a:List Expr}{t:TA}{p pos:Pos}(G:iV X.prog X.w X.K X.mg X.base CX k f d ps sp/\Binds X.K d ps []/\W.keepIn X.K (.ref f)=true/\X.mg x=some (.ref f))(g:eO k X.A)(h:gM CX X E)(i:PA X (e::a) t)(j:Gl X x:=by rfl)(b:(x == ("__debug__":Str))=false:=by decide)(l:starEach (e::a) X.env=(false,eval e X.env)::starEach a X.env:=by rfl)(c:(backTo pos (starEach a X.env)).any (·.1)=false:=by rfl):PE X (.Call (.Name x p) (e::a) [] pos) (a9C sp [] E t):=b5Z G.1 g j G.2.2.2 G.2.2.1 G.2.1 .nil h i b l c
abbrev MB (P:Program)(w:World)(K:W.Frag)(mg:Str->Option Value)(base:Heap)(CX:CXT)(k:Nat)(a:Addr)(d:FuncData)(ps:List Str)(sp:Sp):Prop:=iV P w K mg base CX k a d ps sp/\Binds K d ps []
abbrev FL (K:W.Frag)(f:Addr)(n q:Str)(st:Stmt)(oc:Value)(od:Option Addr)(kV dc pm:Value)(an:Option Addr)(cd ct:Value)(sl:Array (Option Value)):Prop:=K.lookup f=some ⟨oc,od,.func (W.fnOf n q (jJ st) (fL st) (bD st) .none kV dc pm an cd ct),sl⟩
structure GFm (K:W.Frag)(mg:Str->Option Value)(nm:Str)(st:Stmt)(f:Addr)(d:FuncData):Prop where
 F:Fun K nm nm st f d
 m:mg nm=some (.ref f)
def GF (K:W.Frag)(mg:Str->Option Value)(nm:Str)(st:Stmt)(f:Addr):Prop:=∃d,GFm K mg nm st f d
def MF (K:W.Frag)(C:Addr)(x q:Str)(st:Stmt)(f:Addr):Prop:=W.findIn K (.ref C) x=some (some (.ref f))/\∃d,Fun K x q st f d
def gf_mk {h:Heap}{nm:Str}{f:Addr}(X:K.In h)(G:h.Ns mainGlobals mg)(a:W.nsIn K mainGlobals nm=some (some (.ref f)))(l:FL K f nm nm st oc od kV dc pm an cd ct sl)(c:W.codeIn K cd nm=true)(k:W.keepIn K (.ref f)=true):GF K mg nm st f:=⟨_,a3O l c k,W.mg_of X G a⟩
def GFc (K:W.Frag)(mg:Str->Option Value)(nm:Str)(st:Stmt)(f c0:Addr):Prop:=∃d,GFm K mg nm st f d/\d.code= .ref c0
def gfc_mk {h:Heap}{nm:Str}{f:Addr}{c0:Addr}(X:K.In h)(G:h.Ns mainGlobals mg)(a:W.nsIn K mainGlobals nm=some (some (.ref f)))(l:FL K f nm nm st oc od kV dc pm an (.ref c0) ct sl)(c:W.codeIn K (.ref c0) nm=true)(k:W.keepIn K (.ref f)=true):GFc K mg nm st f c0:=⟨_,⟨a3O l c k,W.mg_of X G a⟩,rfl⟩
def GF.s {nm:Str}{f:Addr}(h:GF K mg nm st f):GFm K mg nm st f (Exists.choose h):=Exists.choose_spec h
def GFc.s {nm:Str}{f c0:Addr}(h:GFc K mg nm st f c0):GFm K mg nm st f (Exists.choose h)/\(Exists.choose h).code= .ref c0:=Exists.choose_spec h
def MF.s {x q:Str}{f:Addr}(h:MF K C x q st f):Fun K x q st f (Exists.choose h.2):=Exists.choose_spec h.2
def mf_mk {x q:Str}{f:Addr}(a:W.findIn K (.ref C) x=some (some (.ref f)))(l:FL K f x q st oc od kV dc pm an cd ct sl)(c:W.codeIn K cd q=true)(k:W.keepIn K (.ref f)=true):MF K C x q st f:=⟨a,_,a3O l c k⟩
abbrev HB (x q:Str)(st:Stmt)(ps:List Str):Prop:=∀(kV doc pm:Value)(an:Option Addr)(cdv ct:Value)(us:List Value),us.length=ps.length->bindArgs (W.fnOf x q (jJ st) (fL st) (bD st) .none kV doc pm an cdv ct) ⟨us, []⟩=pure (ps.zip us)
theorem bi0 (h:bindArgs d ⟨[], []⟩=pure []):∀us:List Value,us.length=([]:List Str).length->bindArgs d ⟨us, []⟩=pure (([]:List Str).zip us) | [],_=>h
def bi1 {a:Str}(h:∀u,bindArgs d ⟨[u], []⟩=pure [(a,u)]):∀us:List Value,us.length= [a].length->bindArgs d ⟨us, []⟩=pure ([a].zip us):=by
 intro us b;rcases us with _ | ⟨u,_ | ⟨c,e⟩⟩
 ·simp at b
 ·exact h u
 ·simp at b
def bi2 {a b:Str}(h:∀u v,bindArgs d ⟨[u,v], []⟩=pure [(a,u),(b,v)]):∀us:List Value,us.length= [a,b].length->bindArgs d ⟨us, []⟩=pure ([a,b].zip us):=by
 intro us c;rcases us with _ | ⟨u,_ | ⟨v,_ | ⟨e,f⟩⟩⟩
 ·simp at c
 ·simp at c
 ·exact h u v
 ·simp at c
def bi3 {a b c:Str}(h:∀u v x,bindArgs d ⟨[u,v,x], []⟩=pure [(a,u),(b,v),(c,x)]):∀us:List Value,us.length= [a,b,c].length->bindArgs d ⟨us, []⟩=pure ([a,b,c].zip us):=by
 intro us e;rcases us with _ | ⟨u,_ | ⟨v,_ | ⟨x,_ | ⟨f,g⟩⟩⟩⟩
 ·simp at e
 ·simp at e
 ·simp at e
 ·exact h u v x
 ·simp at e
def bi4 {a b c e:Str}(h:∀u v x y,bindArgs d ⟨[u,v,x,y], []⟩=pure [(a,u),(b,v),(c,x),(e,y)]):∀us:List Value,us.length= [a,b,c,e].length->bindArgs d ⟨us, []⟩=pure ([a,b,c,e].zip us):=by
 intro us f;rcases us with _ | ⟨u,_ | ⟨v,_ | ⟨x,_ | ⟨y,_ | ⟨g,i⟩⟩⟩⟩⟩
 ·simp at f
 ·simp at f
 ·simp at f
 ·simp at f
 ·exact h u v x y
 ·simp at f
def sco {N ps:List Str}{a:Scope}(c:a.kind= .function/\a.isCoroutine=false/\a.isGenerator=false:=by exact ⟨rfl,rfl,rfl⟩)(b:N.Nodup/\N.take ps.length=ps/\(∀x∈ps,a.names.lookup x=some .local\/a.names.lookup x=some .cell)/\∀y∈a.names,y.2≠ .free:=by decide +kernel):kI N ps a:=⟨c.1,c.2.1,c.2.2,b.1,b.2.1,b.2.2.1,b.2.2.2⟩
theorem zbi {x q:Str}{st:Stmt}{ps:List Str}(a:HB x q st ps:=by refine λ_ _ _ _ _ _=>?_;first | exact bi1 λ_=>rfl | exact bi2 λ_ _=>rfl | exact bi3 λ_ _ _=>rfl | exact bi4 λ_ _ _ _=>rfl | exact bi0 rfl):HB x q st ps:=a
theorem zbl {sp:Sp}{n:Nat}(a:∀(vs:List V)(H:Hp)(Q:VK)(E:XK),sp vs H Q E->vs.length=n:=by intro _ _ _ _ h;repeat (first | (obtain⟨rfl,_⟩:=h;exact rfl) | obtain⟨_,h⟩:=h)):∀(vs:List V)(H:Hp)(Q:VK)(E:XK),sp vs H Q E->vs.length=n:=a
section
variable {P:Program}{w:World}{base:Heap}{CX:CXT}{x q:Str}{f:Addr}{fd:FuncData}{ps:List Str}{sp:Sp}
theorem fbM (N:List Str)(F:GFm K mg x st f fd)(g:kI N ps (bD st)->iV P w K mg base CX k f fd ps sp)(S:kI N ps (bD st):=by exact sco)
  (a:HB x x st ps:=by exact zbi):FB P w K mg base CX k x f fd ps sp:=⟨g S,F.F.binds a,F.F.kp,F.m⟩
theorem mbK (N:List Str)(F:Fun K x q st f fd)(a:∀{c:Value}{A:Around}{b:List Env}{s:Shared}{vs:List V}{E:XK}(H:Hp)(Q:VK),N.Nodup->eO k (A.deeper (PyProof.Rows.envOfC q (bD st) s.heap.objs.size f c))->sp vs H Q E->∃t,PSs (uL CX0 P w K mg base N q (bD st) f c A b s H E).nox (fL st) t/\t { nx:=λ_ H'=>Q .non H',rt:=Q } (start N vs) H)(len:∀(vs:List V)(H:Hp)(Q:VK)(E:XK),sp vs H Q E->vs.length=ps.length:=by exact zbl)(S:kI N ps (bD st):=by exact sco)
  (d:HB x q st ps:=by exact zbi):MB P w K mg base CX0 (k+1) f fd ps sp:=⟨F.ok S len λ_ _ _ _ _ _ _ _ e=>a _ _ S.nd e,F.binds d⟩
theorem fbK (N:List Str)(F:GFm K mg x st f fd)(a:∀{c:Value}{A:Around}{b:List Env}{s:Shared}{vs:List V}{E:XK}(H:Hp)(Q:VK),N.Nodup->eO k (A.deeper (PyProof.Rows.envOfC x (bD st) s.heap.objs.size f c))->sp vs H Q E->∃t,PSs (uL CX0 P w K mg base N x (bD st) f c A b s H E).nox (fL st) t/\t { nx:=λ_ H'=>Q .non H',rt:=Q } (start N vs) H)(len:∀(vs:List V)(H:Hp)(Q:VK)(E:XK),sp vs H Q E->vs.length=ps.length:=by exact zbl)(S:kI N ps (bD st):=by exact sco)
  (d:HB x x st ps:=by exact zbi):FB P w K mg base CX0 (k+1) x f fd ps sp:=⟨F.F.ok S len λ_ _ _ _ _ _ _ _ e=>a _ _ S.nd e,F.F.binds d,F.F.kp,F.m⟩
end
section
variable (P:Program)(w:World)(mg:Str->Option Value)(base:Heap)(CA:Cs){ZoF Zew ZcS Zdb Zb4 Zij ZgK ZgG Zik Zin Zhk Zil Zka ZfL Zf6 Zip ZgM ZfQ Zf7 Zes ZdA Zer ZdW ZdV Zfs Zec ZcH ZbI Zeb Zdz Zda ZeM Zc6 ZdS ZeN Zei Zeh ZeL Zfg Zfj Zet ZeR Zek Zdv ZdX ZeU Zdy Zep Zc8 Zb3 Zb2 ZgI ZdT Zfm Zj8 ZeP ZfW Zga Zhl Zf8 Zhj ZfO Zfh Zfo Zfk Zeu ZeS Zel Zdw ZdY ZeV ZfU ZfV Zdx ZdZ ZeW Zfl ZeT Zev Zem Zfp Zfn ZdU Zfr Zfq Zc9 ZfX ZeQ Zeq ZfY Zim ZfM Zen ZeO Zc7 ZcG Zb1 Zeo Zio ZgJ ZgH Zho Zhn ZfN Zhm ZoE Zj9 ZfP Zf9 ZgL Zef Zee ZdK ZfF Zed Zfi Zej ZfT ZgE ZfK Zf4 Zff Zf5 ZgF Zhi ZeY ZoG Zpj Zo8 Zm6 Zpe ZdJ ZcQ Zpn Zpp Zpq ZB ZeX Zlg Zl ZgN Zii Zad:Addr}{ZoH ZhH ZfR Zgg Ze2 ZlH Zjx Zjt ZlI ZlL ZkB ZlJ Zm9 ZhJ ZiE ZlO ZjC ZhO ZiF ZhD Zgt ZhC ZgS ZgR Zjp Zjq Zgu ZfH Zjo Zgs Zgf Zir Zgb ZgO Zis Zht Zhs Ziq ZgX Zjf ZhE Ziw Zhv Zgo ZgT Ziz Zgr ZhA Zgd Ze1 Ze0 Zjv ZgP Zji Zm7 Ziu Zkw ZiJ ZkC ZiG ZkA ZhM ZgY Zjk Zjg ZhF Zix Zhw Zgp ZgU ZiA Zku Zkv Zgq ZgV ZiB Zjh Ziy ZhG Zhx Zjl Zjj ZgQ Zjn Zjm Zge Zkx Ziv ZhB Zky ZlK ZhK Zhy Zit Zgc ZfG ZeZ Zhz ZlN Zjw Zju ZkF ZkE ZhL ZkD Zpa Zm8 ZhN ZiI ZjB ZjA Zjz ZiH ZlM Zjy Zje Zhu Zkt Zjr ZhI ZiC ZgW ZiD Zjs Zkz Zgv Zpb:FuncData}{ZlE ZmF Zif Zpm ZnC Zop ZlF ZnD Zo4 Zoq Zo3 Zol Zie ZmE ZmH ZnG ZoQ Zok ZoR Zon ZnH ZmG Zom ZnE Zpi Zpo Zpr ZlG ZnF Zoo:Tok}(Zcm:mg "MOST_ALIKE"=some (.int 5 ZnD))(ZaN:mg "NoBits"=some (.ref Zo8))(Zd3:mg "HIGHEST_BYTE"=some (.int 255 ZlE))(ZR:mg "NoKey"=some (.ref Zpe))(ZmJ:mg "KEY"=some (.int 64647 Zpm))(ZbJ:mg "CHECK_BITS"=some (.int 15 ZnC))(Zd4:mg "HIGHEST_NAME"=some (.int 255 ZlF))(ZeD:mg "Streak"=some (.ref CA.streak))(Zcs:mg "MOST_BYTES_frames"=some (.int 7 Zie))(Zx:mg "NoFrame"=some (.ref ZdJ))(Zfw:mg "NAME_BITS"=some (.int 8 Zop))(Zfx:mg "SIZE_BITS"=some (.int 3 Zoq))(Zba:mg "BYTE_BITS"=some (.int 8 Zol))(ZdL:mg "SIZE_AT"=some (.int 9 Zo4))(ZbK:mg "DATA_AT"=some (.int 12 Zo3))(ZcR:mg "ANSWER_AT"=some (.int 1 Zok))(Zde:mg "VOTES_AT"=some (.int 9 ZoR))(ZdM:mg "Tail"=some (.ref ZeX))(Zfa:mg "QUIET_FROM"=some (.int 12 ZnG))(ZfZ:mg "OFF_FROM"=some (.int 18 ZoQ))(Zb0:mg "GREAT_FAULT"=some (.int 8 ZmE))(Zez:mg "SMALL_FAULT"=some (.int 1 ZmH))(Zhp:mg "Reader"=some (.ref CA.reader))(ZmK:mg "Off"=some (.ref CA.off))(Zdd:mg "Flagging"=some (.ref CA.flag))(Zfu:mg "FLAG_BITS"=some (.int 6 Zon))(Zce:mg "Settles"=some (.ref CA.settles))(ZeE:mg "VOTES"=some (.ref Zlg))(ZQ:mg "NoPost"=some (.ref ZcQ))(Zi5:mg "Count"=some (.ref CA.count))(Zeg:mg "Free"=some (.ref CA.free))(Zey:mg "QUIET_TURNS"=some (.int 8 ZmG))(Zc4:mg "Rests"=some (.ref CA.rests))(ZbL:mg "REST_TURNS"=some (.int 3 ZnH))(ZeC:mg "Speaks"=some (.ref CA.speaks))(Zdu:mg "Reads"=some (.ref CA.reads))(ZeB:mg "InTail"=some (.ref CA.intail))(Zf0:mg "ReadTail"=some (.ref CA.rtail))(Zft:mg "DUEL_BITS"=some (.int 9 Zom))(Zfy:mg "SpeakTail"=some (.ref CA.stail))(ZY:mg "Rail"=some (.ref Zl))(Ze8:mg "MOST_POSTS"=some (.int 5 ZnE))(ZkG:mg "Post"=some (.ref CA.post))(Zgh:mg "NoName"=some (.ref Zm6))(Zaq:mg "PIECE_BYTES"=some (.int 5 ZmF))(Zaw:mg "Joiner"=some (.ref ZB))
variable (Zd5:mg "MOST_FIGURES"=some (.int 6 ZlG))(Ze9:mg "MOST_TURNS"=some (.int 2000 ZnF))(Zfv:mg "MOST_BITS"=some (.int 400 Zoo))(ZcE:mg "FORMS"=some (.ref ZgN))(Zct:mg "MOST_BYTES_things"=some (.int 75 Zif))(Za5:mg "Desk"=some (.ref Zad))(Zc5:mg "ANSWERS"=some (.ref Zii))(ZN:mg "range"=none)(Zhq:mg "all"=none)(Zbn:mg "list"=none)(Zo:mg "len"=none)(Zd6:mg "max"=none)(Zhr:mg "min"=none)(Zfz:mg "enumerate"=none)(ZmL:mg "int"=none)(ZaA:mg "str"=none)(Zd2:a3W K Zlg [1,3,5])(Zh:TCl K CA.rtail)(Zg:TCl K CA.stail)(Zi:Cls K CA.streak)(ZbA:Mk K CA.streak Zew)(Ze:Cls K CA.reader)(Zar:b8N K ZeX "__init__" Zfs)(Zd:Cls K CA.count)(Zd1:Mk K CA.reader Zes)(ZS:Cls K CA.free)(Zj:Cls K CA.speaks)(ZH:Cls K CA.reads)(Zs:Cls K CA.intail)(Zu:Cls K CA.flag)(ZX:Cls K CA.settles)(Z3:Cls K CA.rests)(Za:Cls K CA.post)(Zbc:Mk K CA.flag Zdv)(Zaz:Mk K CA.settles ZdX)(Zex:Mk K CA.count ZeM)(Za7:Mk K CA.free Zfj)(ZaG:Mk K CA.rests ZeU)(Zbz:Mk K CA.speaks Zet)(ZaV:Mk K CA.reads ZeR)(Zby:Mk K CA.intail Zek)(Zdc:Mk K CA.rtail Zdz)(ZcT:Mk K CA.stail Zda)(Zcl:Cls K CA.off)(Zc:Cls K Zl)(Ze5:Mk K CA.post Zfo)(Zb:Cls K ZB)(Zd0:Mk K ZB Zen)(Zf:Cls K Zad)(Ze6:Mk K Zl Zfr)(Ze4:Mk K Zad Zfi)(ZW:Meth K CA.streak "lengthen" ZcS)(ZG:Meth K CA.streak "is_full" Zdb)(Za3:Meth K CA.streak "is_too_long" Zb4)(Zbs:Meth K CA.reader "judged" ZdA)(Zbg:Meth K CA.rtail "is_fault" ZcH)(Zbb:Meth K CA.stail "is_fault" ZcH)(Za4:Meth K CA.rtail "judged_vote" ZbI)(ZaK:Meth K CA.stail "judged_vote" ZbI)(Zam:Meth K CA.count "is_off" ZdS)(Z0:Meth K CA.count "move" ZeN)(ZU:Meth K CA.reader "hear" Zer)(Zbj:Meth K CA.count "is_quiet" Zc6)(Zat:Meth K CA.post "is_off" Zep)(Ze7:MkB K CA.off)(Zas:Meth K CA.count "fault" Zei)(ZbS:Meth K CA.count "blame" Zeh)(Zbl:Meth K CA.post "has_frame" Zc8)(Zbr:Meth K CA.post "is_quiet" Zdy)(Zbf:Meth K CA.rtail "says" Zec)(Za9:Meth K CA.stail "says" Zec)(ZaI:Meth K CA.free "says" Zfk)(Za2:Meth K CA.post "foremost_wire" Zb3)(ZbD:Meth K CA.reader "frame" ZdV)(ZbE:Meth K CA.reader "plain" ZdW)(Zb5:Meth K CA.count "good" ZeL)(Za1:Meth K CA.post "drop_foremost" Zb2)(ZbC:Meth K CA.post "hand_up" ZdT)(Zbe:Meth K CA.rtail "hear" Zeb)(Za8:Meth K CA.stail "hear" Zeb)(ZbY:Meth K CA.speaks "says" Zeu)(Zb8:Meth K CA.reads "says" ZeS)(ZbU:Meth K CA.intail "says" Zel)(Zbp:Meth K CA.flag "says" Zdw)(ZbF:Meth K CA.settles "says" ZdY)(Zca:Meth K CA.rests "says" ZeV)(ZcI:Meth K CA.off "says" ZfU)(Zcn:Meth K CA.free "step" Zfl)(ZbZ:Meth K CA.speaks "step" Zev)(Zb9:Meth K CA.reads "step" ZeT)(ZbV:Meth K CA.intail "step" Zem)(Zbq:Meth K CA.flag "step" Zdx)(ZbG:Meth K CA.settles "step" ZdZ)(Zcb:Meth K CA.rests "step" ZeW)(ZcJ:Meth K CA.off "step" ZfV)(Zt:Meth K Zl "post_at" ZdU)(Zco:Meth K CA.post "hand" Zfm)(Zcq:Meth K CA.post "says" Zfp)(Zcp:Meth K CA.post "hear" Zfn)(ZcK:Meth K CA.post "got" ZfW)(Zb6:Meth K CA.post "waits" ZeP)(Zbm:Meth K Zl "make_turn" Zc9)(ZaC:Meth K ZB "end" ZeO)(Z4:Meth K ZB "add_piece" ZcG)(Za0:Meth K ZB "begin_thing" Zb1)(Zbk:Meth K ZB "goes_on" Zc7)(ZbW:Meth K ZB "take" Zeo)(ZbX:Meth K Zl "is_off" Zeq)
variable (Zb7:Meth K Zl "waits" ZeQ)(ZcL:Meth K Zl "got" ZfX)(ZcM:Meth K Zl "run" ZfY)(Zcr:Meth K Zl "hand" Zfq)(ZbT:Meth K Zad "put_up" Zej)(Z1:Meth K Zad "say" ZfT)(Zf1:Bm K mg 4)(Zap:wO K w ZgN kvF/\Frm K "rail" "choice" ["number","choice"]/\Frm K "thing" "number" ["number","number","number"]/\Frm K "wrong" "" ["number","number"]/\Frm K "run" "" ["turns"]/\Frm K "waits" "" ["number"]/\Frm K "things" "" ["number","number"])(Ze3:wO K w Zii [(.inr "hand",.ref 1342),(.inr "thing",.ref Zed),(.inr "wrong",.ref Zef),(.inr "run",.ref ZfF),(.inr "bits",.ref 1370),(.inr "draw",.ref 1377),(.inr "got",.ref 1384),(.inr "waits",.ref Zee),(.inr "things",.ref ZdK),(.inr "stance",.ref 1403),(.inr "faults",.ref 1410)])(Zao:bK K CA.streak "last")(Zv:bK K CA.streak "alike")(ZA:bK K CA.reader "streak")(Zq:bK K CA.reader "kept")(ZL:bK K CA.reader "answer")(Zy:bK K CA.count "total")(Zaa:bK K CA.free "since")(ZM:bK K CA.speaks "wire")(ZV:bK K CA.speaks "reader")(ZF:bK K CA.speaks "many")(Z7:bK K CA.reads "reader")(ZaM:bK K CA.reads "many")(ZD:bK K CA.intail "tail")(ZaD:bK K CA.intail "found")(Zah:bK K CA.flag "left")(ZT:bK K CA.flag "may_blame")(Z8:bK K CA.settles "may_blame")(ZaB:bK K CA.rests "left")(Zn:bK K CA.post "tally")(Zm:bK K CA.post "waiting")(ZaJ:bK K CA.post "choice")(ZO:bK K CA.post "handed_up")(Zab:bK K CA.post "votes")(Zae:bK K CA.post "now")(ZK:bK K Zl "posts")(Zan:bK K Zl "owners")(Zal:bK K Zl "borne")(ZaE:bK K Zl "sayings")(Zav:bK K Zl "hearings")(Zau:bK K Zl "happened")(Zp:bK K ZB "opened")(ZJ:bK K ZB "tag")(ZE:bK K ZB "many")(Zw:bK K ZB "had")(Zz:bK K ZB "joined")(Z6:bK K ZB "broken_tag")(Zk:bK K Zad "rail")(ZI:bK K Zad "wrong")(ZeA:W.codeHdIn K 165 161=true)(hc_ear:ZoH.code= .ref 165)
set_option maxHeartbeats 4000000
variable (Zks:FB P w K mg base (CX0) 1 "ear" ZoF ZoH ["wrong"] (b5B))
include Zf1 ZeA hc_ear in
theorem Zpg (L:GFm K mg "ear" Zi6 ZoF ZoH):type_of% Zks:=by
 refine fbM ["wrong","kept","pair","heard"] L λj=>L.F.okM (y:="kept") hc_ear ZeA j rfl (λX H Q E h=>?_) λA t s H X Q E Y h=>?_
 ·obtain⟨a,M,u,rfl,_⟩:=h;rfl
 obtain⟨a,M,u,rfl,N,O,Z,R,q⟩:=h;have w:=j.nd;refine⟨_,(a4X (oU (i:=1) w rfl (Or.inr rfl) b1F) (a4X (jB Y3 rfl (dN (dv 0)) (gD (i:=2) w rfl (Or.inl rfl)) (aF (xU (wC Y) (dv 1) (dv 2) iJ rfl))) (c4A (iy:=1) (im:=3) (c0:=165) (P:=161) (bm:=4) (iq:=iqH) rfl ZeA Zf1 (λc B=>clH B) w rfl rfl rfl rfl (by decide) rfl rfl rfl rfl rfl rfl))),?_⟩;intro p C;obtain⟨D,S⟩:=gA C (.dT []);generalize upd H p _=H0 at D S;have G:=O.len;refine⟨⟨_,Vb (D _ _ N)⟩,jM (xs:=M.map V.ref) (λi m r=>∃x:Option V,m= [some (.ref a),some (.ref p),x,none]/\Same H r/\r p=some (.dT (kvP (u.take i)))) ⟨_,rfl,D,S⟩ (λi m r _ z=>by obtain⟨_,_,g,_⟩:=z;exact Vb (g _ _ N)) ?_ ?_⟩
 ·rintro i v m r T ⟨x,rfl,g,ep⟩;rw[Yn]at T;obtain⟨qq,hq,rfl⟩:=YU.mp T;obtain⟨pp,I,eq⟩:=(O.same g).get hq;obtain⟨hi,d⟩:=Ye.mp I;have hl:=b6P (u.take i);rw[Yi]at hl;refine⟨p,_,rfl,.inr ⟨_,kyP pp,qq,ep,rfl,eq,bY (by lia),rfl⟩,_,rfl,g.put C,?_⟩;rw[aC,Yf hi,d,b2H]
 rintro m H1 ⟨x,rfl,f,d⟩;rw[Ya,G,Yg (Yb _)]at d;have k:=qR.same R f;refine⟨.ref p,rfl,k,λg c c' H3 hg B U l J h1 h2 h3=>q g c c' p H3 (f.none hg) (f.none B) C (U.2.1.imp f.none λ⟨a0,a1,a2,a3⟩=>?_) (λb o n e=>l b o n (f _ _ e)) J U.2.2 h3 h1 h2 (l p _ (λz=>?_) d)⟩
 ·obtain⟨a4,t1,_⟩:=k;rw[z,t1]at d;cases d
 ·obtain⟨a5,W,_⟩:=R;have:=a1.symm.trans (f _ _ W);cases this;exact⟨_,W,a2,a3⟩
variable (ZaS:MB P w K mg base (CX0) 1 Zew ZhH ["self"] (a9Q CA.streak))
include Zi Zao Zv in
theorem Zlw (c:Fun K "__init__" "Streak.__init__" Zh4 Zew ZhH):type_of% ZaS:=by
 refine mbK ["self"] c λH Q e f h=>?_;obtain⟨a,b,rfl,d,q⟩:=h;refine⟨_,(aB (bJ Zi Zao (dv 0) jC) (aF (bJ Zi Zv (dv 0) aG))),?_⟩;refine⟨b, [],d,by decide,?_⟩;exact⟨b,_,aC,by decide,q _ (by rw[lZ];rfl)⟩
variable (ZZ:MB P w K mg base (CX0) 1 ZcS ZfR ["self","bit"] (b4S CA.streak))
include Zi Zao Zv in
theorem ZiK (F0:Fun K "lengthen" "Streak.lengthen" ZfS ZcS ZfR):type_of% ZZ:=by
 refine mbK ["self","bit"] F0 λH Q k m h=>?_;obtain⟨a,s,b,rfl,⟨d,f⟩,q⟩:=h;refine⟨_,(aB (bJ Zi Zv (dv 0) (cH (eE (aY fH (dv 1) (aR Zi Zao (dv 0)) (aU _)) (aP cG (aR Zi Zv (dv 0)) aG) aG))) (aF (bJ Zi Zao (dv 0) (dv 1)))),?_⟩;refine⟨λx i=>x= .int (((skp s b).2:Nat):Int)/\i=H,?_,?_⟩
 ·obtain⟨l,n⟩:=s;cases l with
  |none=>exact⟨d,_,.non,f,rfl,rfl,rfl⟩
  | some c=>
   refine⟨d,_,.int c,f,rfl,?_⟩
   conv=>whnf
   refine cF (λz=>?_) (λz=>?_)
   ·have e:b=c:=dec_true z;subst e;refine⟨d,_,.int n,f,rfl,?_,rfl⟩;have g:(skp (some b,n) b).2=n+1:=if_pos rfl;rw[g];rfl
   ·have e:¬ b=c:=dec_false z;refine⟨?_,rfl⟩;have g:(skp (some c,n) b).2=1:=if_neg λy=>e (Yu y).symm;rw[g];rfl
 rintro x i ⟨rfl,rfl⟩;refine⟨d,_,f,(show 2<1000 by decide),?_⟩;refine⟨d,_,aC,(show 2<1000 by decide),?_⟩;refine q _ ⟨d,?_⟩ λx j=>by rw[aH j,aH j]
 rw[aC];rfl
variable (ZP:MB P w K mg base (CX0) 1 Zdb Zgg ["self"] (a9R CA.streak))
include Zcm Zi Zv in
theorem Zjd (b:Fun K "is_full" "Streak.is_full" Zgn Zdb Zgg):type_of% ZP:=by
 refine mbK ["self"] b λH Q e f h=>?_;obtain⟨a,s,rfl,⟨c,d⟩,q⟩:=h;refine⟨_,(aF (aK (eN fH (aR Zi Zv (dv 0)) (bA (v:= .int 5) rfl Zcm ⟨_,rfl⟩) (aU _)))),⟨c,_,.int s.2,d,rfl,?_⟩⟩
 conv=>whnf
 rw[a8G];exact q
variable (ZaZ:MB P w K mg base (CX0) 1 Zb4 Ze2 ["self"] (a9P CA.streak))
include Zcm Zi Zv in
theorem Zg2 (b:Fun K "is_too_long" "Streak.is_too_long" Zfe Zb4 Ze2):type_of% ZaZ:=by
 refine mbK ["self"] b λH Q e f h=>?_;obtain⟨a,s,rfl,⟨c,d⟩,q⟩:=h;refine⟨_,(aF (aK (eN pB (aR Zi Zv (dv 0)) (bA (v:= .int 5) rfl Zcm ⟨_,rfl⟩) (aU _)))),⟨c,_,.int s.2,d,rfl,?_⟩⟩;show Q (.bl (decide ((5:Int)<((s.2:Nat):Int)))) H;rw[b7B];exact q
variable (Zcc:FB P w K mg base (CX0) 1 "bits_of" Zij ZlH ["number","many"] (b0J))
include ZaN ZN in
theorem ZoI (f:GFm K mg "bits_of" ZlP Zij ZlH):type_of% Zcc:=by
 refine fbK ["number","many"] f λH Q r s h=>?_;obtain⟨n,m,rfl,g,t,q⟩:=h;refine⟨_,(aB (bC (PW.pt (b0S (aY uR (dv 0) aG (aU _)) (a3B (aY pA (aP b7S (dv 0) (dv 1)) aG (aU _))))) (aF bQ) aQ) (aF (aK (fB rfl (ix:=[0,1]) (fP rfl ZN (aA (dv 1) aD)) (λC j k l at0=>cY) (λC j k l at0=>(aP a8U (aP b7S (dv 1) (aP mR (aP mR (dv 2) aG) (dv 0))) aG)) rfl rfl (by rfl) (show ([".0","place","number","many"]:List Str).Nodup by decide +kernel))))),?_⟩;refine⟨by lia,?_⟩
 conv=>whnf
 refine c5F (a8F g) ?_;have d:((m:Nat):Int).toNat=m:=Y2 m;refine⟨⟨by lia,by lia⟩,gJ (λi a b=>a=((bW n m).take i).map V.int/\b=H) ?_ ⟨rfl,rfl⟩ ?_ ?_⟩
 ·rintro i a b c ⟨rfl,_⟩;refine bY ?_;rw[Ya,Yi,cU];lia
 ·rintro i a b c ⟨rfl,rfl⟩;rw[d]at c;refine⟨(by show (0:Int)<=(m:Int)-1-(0+(i:Int));lia),?_,rfl⟩;have e:(m:Int)-1-(0+(i:Int))=((m-1-i:Nat):Int):=by lia
  show _++[V.int (Builtin.bitAnd ((n:Int) / 2 ^ ((m:Int)-1-(0+(i:Int))).toNat) 1)]=_;rw[e,c6A,a6S c,Yh];rfl
 ·rintro a b ⟨rfl,rfl⟩ p o;rw[d,Yg (by rw[cU];exact Yb _)];exact q p o
variable (ZaU:FB P w K mg base (CX0) 1 "number_of" ZgK Zjx ["bits"] (a2R K))
def Znt (k:GFm K mg "number_of" ZjW ZgK Zjx):type_of% ZaU:=by
 refine fbK ["bits","number","bit"] k λH Q e p h=>?_;obtain⟨a,bs,rfl,g,j,r,q⟩:=h;refine⟨_,(aB (aW 1 e aG) (aB (jB Y3 rfl (dN (dv 0)) (gD (i:=2) e rfl (Or.inl rfl)) (aF (aW 1 e (aP cG (aP fJ (dv 1) aG) (dv 2))))) (aF (aK (dv 1))))),?_⟩;refine⟨⟨_,g⟩,jM (xs:=bs.map V.int) (λi c d=>(∃x,c= [some (.ref a),some (.int (mD (bs.take i))),x])/\d=H) ⟨⟨_,rfl⟩,rfl⟩ (λi c d _ z=>by rw[z.2];exact g) ?_ ?_⟩
 ·rintro i x c d l ⟨⟨y,rfl⟩,rfl⟩;obtain⟨m,rfl⟩:=mG l;have f:bV (bs.take i):=λb h=>j b (YY h);have o:=yD f;have s:(2:Int) ^ (bs.take i).length<=2 ^ 450:=a2K (by rw[Yi];lia);refine⟨⟨b3Z (n:=450) (a7O o.1 (by lia)),jP (by decide) (by decide)⟩,⟨some (.int bs[i]),?_⟩,rfl⟩;rw[Yf m,qL];rfl
 ·rintro c d ⟨⟨y,rfl⟩,rfl⟩;rw[Ya,Yg (Yb _),b6I j];exact q
variable (ZaT:FB P w K mg base (CX0) 1 "are_bytes" ZgG Zjt ["numbers"] (b5E K))
include Zd3 Zhq in
theorem Znp (j:GFm K mg "are_bytes" ZjS ZgG Zjt):type_of% ZaT:=by
 refine fbK ["numbers"] j λH Q s t h=>?_;obtain⟨a,b,rfl,k,u,q⟩:=h;refine⟨_,(aF (aK (bF (b7T rfl) rfl Zhq b3X (aA (fB rfl (ix:=[]) (c1L (dv 0)) (λC l m n at0=>cY) (λC l m n at0=>(a1B sU sU aG (dv 0) (bA (v:= .int 255) rfl Zd3 ⟨_,rfl⟩))) rfl rfl (by rfl) (show ([".0","number"]:List Str).Nodup by decide +kernel)) aD)))),?_⟩;refine b3S k (λi d=>d=((b.take i).map byt).map V.bl) ?_ rfl ?_ ?_
 ·rintro i d f rfl;refine bY ?_;rw[Ya,Ya,Yi];lia
 ·rintro i x d o rfl;obtain⟨f,rfl⟩:=mG o
  conv=>whnf
  refine cF (λc=>⟨?_,rfl⟩) (λc=>⟨?_,rfl⟩)
  ·have g:(0:Int)<=b[i]:=dec_true c;rw[Yf f,Yh,Yh];show _++[V.bl (decide (b[i]<=255))]=_++[V.bl (byt b[i])]
   unfold byt;rw[Ym g,Bool.true_and]
  ·have g:¬ (0:Int)<=b[i]:=dec_false c;rw[Yf f,Yh,Yh];show _++[V.bl false]=_++[V.bl (byt b[i])]
   unfold byt;rw[Yr g,Bool.false_and]
 rintro d rfl p r;rw[Ya,Yg (Yb _)];refine⟨b.map byt,Vb aC,?_⟩;have e:(b.map byt).all id=b.all byt:=by rw[List.all_map];rfl
 rw[e];exact q _ (aN r _)
variable (ZfA:FB P w K mg base (CX0) 1 "divided" Zik ZlI ["number","key"] (a7A))
include ZR in
theorem ZoJ (t:GFm K mg "divided" ZlQ Zik ZlI):type_of% ZfA:=by
 refine fbK ["number","key","whole","rest","power"] t λH Q b f h=>?_;obtain⟨a,rfl,u,q⟩:=h;refine⟨_,(aB (bC (aY fH (dv 1) aG (aU _)) (aF bQ) aQ) (aB (aW 2 b aG) (aB (aW 3 b (dv 0)) (aB (b0Y Y3 (aY a6O (a5J (dv 3)) (a5J (dv 1)) (aU _)) (aB (aW 4 b (aP mR (a5J (dv 3)) (a5J (dv 1)))) (aB (aW 2 b (aP a5C (dv 2) (aP a5D aG (dv 4)))) (aF (aW 3 b (aP a5C (dv 3) (aP a5D (dv 1) (dv 4)))))))) (aF (aK (cM (aA (dv 2) (aA (dv 3) aD))))))))),?_⟩;refine⟨λmm l g=>∃(w r:Nat)(p:Option V),mm=bl r/\l= [some (.int a),some (.int 64647),some (.int w),some (.int r),p]/\g=H/\r<2 ^ 450/\R r=R a,⟨_,0,a,_,rfl,rfl,rfl,u,rfl⟩,?_⟩;rintro mm l g ⟨w,r,p,rfl,rfl,rfl,f,e⟩
 conv=>whnf
 refine cF (λc=>?_) (λc=>?_)
 ·have m:16<=bl r:=by
   have:((Builtin.Int.intBits (64647:Int):Nat):Int)<=((Builtin.Int.intBits (r:Int):Nat):Int):=dec_true c;have k:=a3V;show 16<=Builtin.Int.intBits (r:Int);have i:Builtin.Int.intBits (64647:Int)=16:=k;lia
  obtain⟨v,x,y⟩:=b2L f m;have D:=b3Y f;refine⟨λd o=>∃(w:Nat)(p:Option V),d= [some (.int a),some (.int 64647),some (.int w),some (.int ((r ^^^ 64647 <<< (bl r-16):Nat):Int)),p]/\o=g,?_,?_⟩
  ·rintro d o ⟨z,A,rfl,rfl⟩;exact⟨bl (r ^^^ 64647 <<< (bl r-16)),y,z,_,A,rfl,rfl,rfl,v,x.trans e⟩
  have s:((Builtin.Int.intBits (r:Int):Nat):Int)-((Builtin.Int.intBits (64647:Int):Nat):Int)=((bl r-16:Nat):Int):=by
   have i:Builtin.Int.intBits (64647:Int)=16:=a3V;rw[i];show ((bl r:Nat):Int)-_=_;lia
  refine⟨1,(bl r-16),rfl,YJ V.int s,⟨b2F (n:=1) (by decide),by lia⟩,w,_,rfl,rfl,trivial,?_⟩;refine⟨64647,(bl r-16),rfl,YJ V.int s,⟨b2F (n:=16) (by decide),by lia⟩,r,_,rfl,rfl,trivial,?_⟩;exact⟨_,_,rfl,rfl⟩
 ·have m:bl r<16:=by
   have:¬ ((Builtin.Int.intBits (64647:Int):Nat):Int)<=((Builtin.Int.intBits (r:Int):Nat):Int):=dec_false c;have i:Builtin.Int.intBits (64647:Int)=16:=a3V;show Builtin.Int.intBits (r:Int)<16;lia
  have B:r<32768:=Yl (b8G r) (YB (n:=2) (j:=15) (by decide) (by lia));rw[zL B]at e;rw[e];exact⟨aM rfl,λp C=>q w p C⟩
variable (ZbH:FB P w K mg base (CX0) 2 "rest_of" Zin ZlL ["bits"] (b9Q K))
include ZR ZmJ ZaU ZfA in
theorem ZoM (e:GFm K mg "rest_of" ZlT Zin ZlL):type_of% ZbH:=by
 refine fbK ["bits"] e λH Q i b h=>?_;obtain⟨a,bs,rfl,f,c,d,q⟩:=h;refine⟨_,(aF (aK (bG dY (aL ZfA b.mo aJ (aA (aL ZaU b.mo aJ (aA (dv 0) aD)) (aA (bA (v:= .int 64647) rfl ZmJ ⟨_,rfl⟩) aD))) aG (λ_ _=>rfl)))),⟨a,bs,rfl,f,c,d,?_⟩⟩;refine⟨nm bs,rfl,Yl (a0V c) (YB (by decide) d),λw p g=>?_⟩;exact⟨_,_,Vc aC,rfl,q _ (aN g _)⟩
variable (ZeH:FB P w K mg base (CX0) 3 "check_of" Zhk ZkB ["bits"] (b5D K))
include ZaN ZR ZbJ Zbn Zcc ZbH in
theorem Zof (t:GFm K mg "check_of" Zk0 Zhk ZkB):type_of% ZeH:=by
 refine fbK ["bits"] t λH Q C f h=>?_;obtain⟨a,bs,rfl,u,w,D,q⟩:=h;refine⟨_,(aF (aK (aL Zcc f.mo aJ (aA (aL ZbH f.mo aJ (aA (aP pC (bT mV rfl Zbn oH (aA (dv 0) aD)) (aP c3B (dJ (aA aG aD)) (bA (v:= .int 15) rfl ZbJ ⟨_,rfl⟩))) aD)) (aA (bA (v:= .int 15) rfl ZbJ ⟨_,rfl⟩) aD))))),?_⟩;refine⟨_,.inl u,λl b=>?_⟩;obtain⟨g,i⟩:=gA b (.lst (bs.map V.int));generalize upd H l (.lst (bs.map V.int))=H1 at g i;refine⟨aM rfl,λo x=>?_⟩;obtain⟨d,j⟩:=gA x (.lst [.int 0]);generalize upd H1 o (.lst [.int 0])=H2 at d j;refine⟨_,j,⟨by decide,by decide⟩,(by show 1*15<=sizeLine;exact small (by decide)),λz y=>?_⟩;have e:=aN y (.lst (List.replicate (15:Int).toNat [V.int 0]).flatten);have k:upd H2 z (.lst (List.replicate (15:Int).toNat [V.int 0]).flatten) z=some (.lst ((zs 15).map V.int)):=by rw[aC];rfl
 generalize upd H2 z (.lst (List.replicate (15:Int).toNat [V.int 0]).flatten)=H3 at e k;refine⟨_,_,e _ _ (d _ _ i),k,(by rw[Ya];exact small (by show bs.length+15<=1000;lia)),λc A=>?_⟩;have m:=aN A (.lst (bs.map V.int++(zs 15).map V.int));have n:upd H3 c (.lst (bs.map V.int++(zs 15).map V.int)) c=some (.lst ((bs++zs 15).map V.int)):=by rw[aC,Yh]
 refine⟨c,bs++zs 15,rfl,Vb n,lB w (a4C 15),(by rw[Yc];show bs.length+15<=450;lia),λE B=>?_⟩;refine⟨ckn bs,15,rfl,b3U bs,by decide,λp r=>?_⟩;have s:=g.trans (d.trans (e.trans (m.trans B)));exact q p _ (s.none r) (s.trans (aN r _)) aC
variable (ZfB:FB P w K mg base (CX0) 1 "is_name" Zil ZlJ ["number"] (c3X))
include Zd4 in
theorem ZoK (b:GFm K mg "is_name" ZlR Zil ZlJ):type_of% ZfB:=by
 refine fbK ["number"] b λH Q d f h=>?_;obtain⟨n,rfl,q⟩:=h;refine⟨_,(aF (aK (a1B sU sU aG (dv 0) (bA (v:= .int 255) rfl Zd4 ⟨_,rfl⟩)))),?_⟩
 conv=>whnf
 refine cF (λc=>?_) (λc=>?_)
 ·have a:(0:Int)<=n:=dec_true c;show Q (.bl (decide (n<=255))) H;have e:decide (n<=255)=byt n:=by unfold byt;rw[Ym a,Bool.true_and]
  rw[e];exact q
 ·have a:¬ (0:Int)<=n:=dec_false c;show Q (.bl false) H;have e:false=byt n:=by unfold byt;rw[Yr a,Bool.false_and]
  rw[e];exact q
variable (Zf3:FB P w K mg base (CX0) 3 "put_in" Zka Zm9 ["bits"] (b4V K))
include ZeD Zi ZbA ZW ZG ZaS ZZ ZP in
theorem Zo2 (Z:GFm K mg "put_in" ZnB Zka Zm9):type_of% Zf3:=by
 refine fbK ["bits","wire","streak","bit"] Z λH Q F v h=>?_;obtain⟨a,bs,rfl,P,hl,q⟩:=h;refine⟨_,(aB (aW 1 F (dJ aD)) (aB (aW 2 F (lN ZbA ZaS.1 v.mo rfl ZeD ZaS.2 .nil aJ)) (aB (jB Y3 rfl (dN (dv 0)) (gD (i:=3) F rfl (Or.inl rfl)) (aB (bI (dO (dv 1) (aA (dv 3) aD))) (aB (bI (bN Zi ZW ZZ.1 v.mo ZZ.2 .nil aJ (dv 2) (aA (dv 3) aD))) (aF (bC (cW (bZ Zi ZG ZP.1 v.mo ZP.2 .nil aJ (dv 2))) (aB (bI (dO (dv 1) (aA (aP mR aG (dv 3)) aD))) (aF (bI (bN Zi ZW ZZ.1 v.mo ZZ.2 .nil aJ (dv 2) (aA (aP mR aG (dv 3)) aD))))) aQ))))) (aF (aK (dv 1)))))),?_⟩;refine⟨aM rfl,λp A=>?_⟩;obtain⟨B,R⟩:=gA A (.lst []);generalize upd H p (.lst [])=H1 at B R;refine λj S n G a0=>⟨j,S,rfl,aC,λT I=>⟨rfl,?_⟩⟩
 have J:Same H1 T:=by rw[I];exact bU n G
 have s2:lV CA.streak T j (sk []):=⟨S,by rw[I];exact aC⟩
 clear I;have r:=B.none n
 refine⟨⟨_,(B.trans J).seq P⟩,jM (xs:=bs.map V.int) (λi C f=>(∃x,C= [some (.ref a),some (.ref p),some (.ref j),x])/\f p=some (.lst ((put (bs.take i)).map V.int))/\lV CA.streak f j (sk (put (bs.take i)))/\Same H f)
  ⟨⟨_,rfl⟩,J _ _ R,s2,B.trans J⟩ (λi C f _ z=>z.2.2.2.seq P) ?_ ?_⟩
 ·rintro i x C f hx ⟨⟨y,rfl⟩,l,L,M⟩;obtain⟨hi,rfl⟩:=mG hx;have pl:=nW (bs.take i);rw[Yi]at pl;have h4:=rT (bs.take i);generalize b0T hi=ept;generalize bs[i]=b at ept;generalize put (bs.take i)=w at l L pl h4 ept;refine⟨⟨_,Vb l⟩,_,l,bY (by rw[Ya];lia),?_⟩;have m:upd f p (.lst (w.map V.int++[.int b])) p=some (.lst ((w++[b]).map V.int)):=by rw[aC,Yh];rfl
  have g:lV CA.streak (upd f p (.lst (w.map V.int++[.int b]))) j (sk w):=L.set l;have s:Same H (upd f p (.lst (w.map V.int++[.int b]))):=M.put A;generalize upd f p (.lst (w.map V.int++[.int b]))=H3 at m g s;obtain⟨d3,k3⟩:=id g;refine⟨⟨d3,_,k3,rfl⟩,j,sk w,b,rfl,g,λD t U=>?_⟩;rw[<-jH]at t;have d:=(U p (g.ne m)).trans m;have k:Same H D:=λc o e=>(U c (aO e r)).trans (s c o e);obtain⟨d4,k5⟩:=id t;refine⟨⟨d4,_,k5,rfl⟩,j,sk (w++[b]),rfl,t,?_⟩
  conv=>whnf
  refine cF (λc=>?_) (λc=>?_)
  ·have N:run (w++[b])=5:=dec_true c;have u:put (bs.take (i+1))=w++[b]++[1-b]:=by rw[ept];unfold pst;rw[if_pos N]
   refine⟨⟨_,Vb d⟩,_,d,bY (by rw[Ya,Yc,Yy];lia),?_⟩;have O:upd D p (.lst ((w++[b]).map V.int++[.int (1-b)])) p=some (.lst ((w++[b]++[1-b]).map V.int)):=by rw[aC,Yh (l₁:=w++[b])];rfl
   have E:=t.set (ys:=(w++[b]).map V.int++[.int (1-b)]) d;have W:Same H (upd D p (.lst ((w++[b]).map V.int++[.int (1-b)]))):=k.put A;generalize upd D p (.lst ((w++[b]).map V.int++[.int (1-b)]))=H5 at O E W;obtain⟨d6,k6⟩:=id E;refine⟨⟨d6,_,k6,rfl⟩,j,sk (w++[b]),1-b,rfl,E,λH6 X Y=>?_⟩;rw[<-jH]at X;refine⟨⟨_,rfl⟩,?_,?_,λc o e=>(Y c (aO e r)).trans (W c o e)⟩
   ·rw[u];exact(Y p (E.ne O)).trans O
   ·rw[u];exact X
  ·have N:¬ run (w++[b])=5:=dec_false c;have u:put (bs.take (i+1))=w++[b]:=by rw[ept];unfold pst;rw[if_neg N]
   exact⟨⟨_,rfl⟩,by rw[u];exact d,by rw[u];exact t,k⟩
 rintro C f ⟨⟨y,rfl⟩,l,L,M⟩;rw[Ya,Yg (Yb _)]at l;exact q p f A M l
variable (ZaF:FB P w K mg base (CX0) 2 "check_frame" ZfL ZhJ ["name","data"] (c0F K ZdJ))
include Zcs Zx Zo ZaT ZfB in
theorem Zly (F0:GFm K mg "check_frame" Zh6 ZfL ZhJ):type_of% ZaF:=by
 refine fbK ["name","data"] F0 λH Q p i h=>?_;obtain⟨n,a,b,rfl,j,l,m,d⟩:=h;refine⟨_,(aB (bC (gH (cW (aL ZfB i.mo aJ (aA (dv 0) aD)))) (aF bQ) aQ) (aB (bC (aY pB (bF eZ rfl Zo cP (aA (dv 1) aD)) (bA (v:= .int 7) rfl Zcs ⟨_,rfl⟩) (aU _)) (aF bQ) aQ) (aF (bC (gH (cW (aL ZaT i.mo aJ (aA (dv 1) aD)))) (aF bQ) aQ)))),?_⟩;refine⟨n,rfl,?_⟩
 conv=>whnf
 refine cF (λc=>?_) (λc=>?_)
 ·have f:¬ byt n=true:=λz=>by
   have:(!byt n)=true:=c;rw[z]at this;cases this
  exact(d (b1W (.inl f)) _ (Vd _))
 have f:byt n=true:=by
  cases e:byt n with
  |true=>rfl
  |false=>exact absurd (show (!byt n)=true by rw[e];rfl) c
 refine⟨_,.inl j,?_⟩;rw[Ya]
 conv=>whnf
 refine cF (λz=>?_) (λz=>?_)
 ·have o:(7:Int)<((b.length:Nat):Int):=dec_true z;exact(d (b1W (.inr (.inl (by lia)))) _ (Vd _))
 have o:¬ (7:Int)<((b.length:Nat):Int):=dec_false z;refine⟨a,b,rfl,.inl j,l,λq k=>?_⟩
 conv=>whnf
 refine cF (λy=>?_) (λy=>?_)
 ·have g:¬ b.all byt=true:=λz=>by
   have:(!b.all byt)=true:=y;rw[z]at this;cases this
  exact(d (λh=>g h.2.2) _ k)
 ·have g:b.all byt=true:=by
   cases e:b.all byt with
   |true=>rfl
   |false=>exact absurd (show (!b.all byt)=true by rw[e];rfl) y
  exact m ⟨f,by lia,g⟩ _ k
variable (ZdE:FB P w K mg base (CX0) 5 "frame_bits" Zf6 ZiE ["name","data"] (b4Z K ZdJ))
include ZaN ZR Zx Zfw Zfx Zba Zo Zcc ZeH ZaF in
theorem Zmy (Y:GFm K mg "frame_bits" ZiZ Zf6 ZiE):type_of% ZdE:=by
 refine fbK ["name","data","bits","byte"] Y λH Q M k h=>?_;obtain⟨n,a,b,rfl,r,Z,q1,q2⟩:=h;refine⟨_,(aB (bI (aL ZaF k.mo aJ (aA (dv 0) (aA (dv 1) aD)))) (aB (aW 2 M (aP pC (aP pC (dJ (aA aG aD)) (aL Zcc k.mo aJ (aA (dv 0) (aA (bA (v:= .int 8) rfl Zfw ⟨_,rfl⟩) aD)))) (aL Zcc k.mo aJ (aA (bF eZ rfl Zo cP (aA (dv 1) aD)) (aA (bA (v:= .int 3) rfl Zfx ⟨_,rfl⟩) aD))))) (aB (jB Y3 rfl (dN (dv 1)) (gD (i:=3) M rfl (Or.inl rfl)) (aF (bI (vV (dv 2) (aA (aL Zcc k.mo aJ (aA (dv 3) (aA (bA (v:= .int 8) rfl Zba ⟨_,rfl⟩) aD))) aD))))) (aF (aK (aP pC (dv 2) (aL ZeH k.mo aJ (aA (dv 2) aD)))))))),?_⟩;refine⟨n,a,b,rfl,r,Z,λs H1 g1=>?_,q2⟩;obtain⟨m,rfl,hm⟩:=sS s.1;refine⟨aM rfl,λp2 A=>?_⟩;obtain⟨N,O⟩:=gA A (.lst [.int 0]);generalize upd H1 p2 (.lst [.int 0])=H2 at N O;refine⟨m,8,rfl,by show m<2 ^ 8;lia,by decide,λp3 B=>?_⟩;obtain⟨C,P⟩:=gA B (.lst ((bW m 8).map V.int));generalize upd H2 p3 (.lst ((bW m 8).map V.int))=H3 at C P;refine⟨_,_,C _ _ O,P,(by rw[Ya,cU];exact aM rfl),λp4 D=>?_⟩;obtain⟨R,S⟩:=gA D (.lst ([.int 0]++(bW m 8).map V.int));generalize upd H3 p4 (.lst ([.int 0]++(bW m 8).map V.int))=H4 at R S;have f:=g1.trans (N.trans (C.trans R));refine⟨_,.inl (f.seq r),?_⟩;rw[Ya];have h7:=s.2.1;refine⟨b.length,3,rfl,by show b.length<2 ^ 3;lia,by decide,λp5 E=>?_⟩;obtain⟨t,T⟩:=gA E (.lst ((bW b.length 3).map V.int));generalize upd H4 p5 (.lst ((bW b.length 3).map V.int))=H5 at t T;refine⟨_,_,t _ _ S,T,(by rw[Yc,Ya,Ya,cU,cU];exact aM rfl),λj l=>?_⟩;have U:=aN l (.lst ([.int 0]++(bW m 8).map V.int++(bW b.length 3).map V.int));have W:upd H5 j (.lst ([.int 0]++(bW m 8).map V.int++(bW b.length 3).map V.int)) j=some (.lst ((hdD (m:Int) b.length []).map V.int)):=by
  rw[aC];unfold hdD b8;simp
 generalize upd H5 j (.lst ([.int 0]++(bW m 8).map V.int++(bW b.length 3).map V.int))=H6 at U W;have o:=f.trans (t.trans U);have F:H j=none:=(f.trans t).none l;refine⟨⟨_,o.seq r⟩,jM (xs:=b.map V.int) (λi u w=>(∃x,u= [some (.int m),some (.ref a),some (.ref j),x])/\Same H w/\w j=some (.lst ((hdD (m:Int) b.length (b.take i)).map V.int))) ⟨⟨_,rfl⟩,o,W⟩ (λi u w _ z=>z.2.1.seq r) ?_ ?_⟩
 ·rintro i x u w hx ⟨⟨y,rfl⟩,g,e⟩;obtain⟨X,rfl⟩:=mG hx;obtain⟨d,ed,G⟩:=sS (a1Y s.2.2 X);have c:=a5R (m:Int) b.length (b.take i);rw[Yi]at c;refine⟨⟨_,e⟩,d,8,by rw[ed];rfl,by show d<2 ^ 8;lia,by decide,λp7 I=>?_⟩;have p:=aN I (.lst ((bW d 8).map V.int));refine⟨_,_,p _ _ e,aC,(by rw[Ya,Ya,cU,c];exact small (by lia)),⟨_,rfl⟩,(g.trans p).put F,?_⟩;have eb:b8 b[i]=bW d 8:=by rw[ed];rfl
  rw[aC,Yf X,b2R,eb,Yh]
 rintro u H7 ⟨⟨y,rfl⟩,p,J⟩;rw[Ya,Yg (Yb _)]at J;have c:=a3M (m:Int) b;refine⟨j,hd (m:Int) b,rfl,Vb J,yM _ _,by lia,λp8 H8 a0 L e8=>?_⟩;refine⟨_,_,L _ _ J,e8,(by rw[Ya,Ya,b3V];show (hd (m:Int) b).length+15<=sizeLine;exact small (by lia)),λp9 q=>?_⟩;have g9:=aN q (.lst ((hd (m:Int) b).map V.int++(ck (hd (m:Int) b)).map V.int));refine q1 s p9 _ ((p.trans L).none q) (p.trans (L.trans g9)) ?_;rw[aC];unfold fb;rw[Yh];rfl
variable (ZfE:FB P w K mg base (CX0) 6 "wire_of" Zip ZlO ["name","data"] (a9J K ZdJ))
include ZaN ZR Zx Zf3 ZdE in
theorem ZoP (g:GFm K mg "wire_of" ZlW Zip ZlO):type_of% ZfE:=by
 refine fbK ["name","data"] g λH Q t d h=>?_;obtain⟨n,a,b,rfl,i,j,k,l⟩:=h;refine⟨_,(aF (aK (aL Zf3 d.mo aJ (aA (aL ZdE d.mo aJ (aA (dv 0) (aA (dv 1) aD))) aD)))),?_⟩;refine⟨n,a,b,rfl,i,j,λe p u v f m=>?_,l⟩;have:=nG n b;have:=e.2.1;exact⟨p,fb n b,rfl,Vb m,by lia,λo q c r s=>k e o q (f.none c) (f.trans r) s⟩
variable (Zcd:FB P w K mg base (CX0) 2 "told_size" ZgM ZjC ["bits"] (b9P K))
include ZdL ZbK ZaU in
theorem Zny (b:GFm K mg "told_size" Zj1 ZgM ZjC):type_of% Zcd:=by
 refine fbK ["bits"] b λH Q j c h=>?_;obtain⟨a,bs,rfl,d,e,f,k,q⟩:=h;refine⟨_,(aF (aK (aL ZaU c.mo aJ (aA (jL qW (dv 0) (iC (bA (v:= .int 9) rfl ZdL ⟨_,rfl⟩)) (iC (bA (v:= .int 12) rfl ZbK ⟨_,rfl⟩))) aD)))),⟨_,d,λp g=>?_⟩⟩;have i:jN (bs.map V.int) (some (9:Int)) (some (12:Int))=((bs.drop 9).take 3).map V.int:=a3T rfl rfl (by lia);rw[i];refine⟨p,_,rfl,Vb aC,nH e 9 3,?_,q _ (aN g _)⟩;rw[Yi];lia
variable (Zbo:FB P w K mg base (CX0) 3 "is_complete" ZfQ ZhO ["bits"] (c3V K))
include ZbJ Zba ZbK Zo Zcd in
theorem ZlD (j:GFm K mg "is_complete" Zib ZfQ ZhO):type_of% Zbo:=by
 refine fbK ["bits"] j λH Q o k h=>?_;obtain⟨a,bs,rfl,b,d,l,m,f⟩:=h;refine⟨_,(aF (aK (yF (eN a6O (bF eZ rfl Zo cP (aA (dv 0) aD)) (bA (v:= .int 12) rfl ZbK ⟨_,rfl⟩) (aU _)) (tX (eN fH (bF eZ rfl Zo cP (aA (dv 0) aD)) (aP cG (aP cG (bA (v:= .int 12) rfl ZbK ⟨_,rfl⟩) (aP fJ (bA (v:= .int 8) rfl Zba ⟨_,rfl⟩) (aL Zcd k.mo aJ (aA (dv 0) aD)))) (bA (v:= .int 15) rfl ZbJ ⟨_,rfl⟩)) (aU _)))))),?_⟩;refine⟨_,.inl b,?_⟩;rw[Ya]
 conv=>whnf
 refine cF (λc=>?_) (λc=>?_)
 ·have n:(12:Int)<=((bs.length:Nat):Int):=dec_true c;refine⟨_,.inl b,?_⟩;rw[Ya];refine⟨a,bs,rfl,b,d,by lia,l,λg i=>?_⟩;have:=a9F d;refine⟨⟨by decide,jP (by lia) (by lia)⟩,?_⟩;by_cases z:lY bs
  ·have e:decide (((bs.length:Nat):Int)=12+8*((szB bs:Nat):Int)+15)=true:=Ym (by have:=z.2;lia);show Q (.bl (decide (((bs.length:Nat):Int)=12+8*((szB bs:Nat):Int)+15))) g;rw[e];exact m z _ i
  ·have e:decide (((bs.length:Nat):Int)=12+8*((szB bs:Nat):Int)+15)=false:=Yr (λy=>z ⟨by lia,by lia⟩);show Q (.bl (decide (((bs.length:Nat):Int)=12+8*((szB bs:Nat):Int)+15))) g;rw[e];exact f z _ i
 ·have n:¬ (12:Int)<=((bs.length:Nat):Int):=dec_false c;exact f (λz=>by have:=z.1;lia) _ (Vd _)
variable (ZdF:FB P w K mg base (CX0) 4 "read_frame" Zf7 ZiF ["bits"] (b9R K ZdJ))
include ZR Zx Zba ZdL ZbK ZN ZaU ZbH Zcd Zbo in
theorem Zmz (F0:GFm K mg "read_frame" Zi0 Zf7 ZiF):type_of% ZdF:=by
 refine fbK ["bits","starts"] F0 λH Q nd o h=>?_;obtain⟨a,bs,rfl,m,n,A,q1,B⟩:=h;refine⟨_,(aB (bC (gH (cW (aL Zbo o.mo aJ (aA (dv 0) aD)))) (aF bQ) aQ) (aB (bC (aY pA (bG cJ (dv 0) aG (λ_ _=>rfl)) aG (aU _)) (aF bQ) aQ) (aB (bC (aY pA (aL ZbH o.mo aJ (aA (dv 0) aD)) aG (aU _)) (aF bQ) aQ) (aB (kO (j:=1) nd rfl rfl rfl (ix:=[]) (fP rfl ZN (aA (aL Zcd o.mo aJ (aA (dv 0) aD)) aD)) (λC D E F at0=>cY) (λC D E F at0=>(aP cG (bA (v:= .int 12) rfl ZbK ⟨_,rfl⟩) (aP fJ (bA (v:= .int 8) rfl Zba ⟨_,rfl⟩) (dv 0)))) rfl rfl (by rfl) (show ([".0","number"]:List Str).Nodup by decide +kernel)) (aF (aK (cM (aA (aL ZaU o.mo aJ (aA (jL qW (dv 0) (iC aG) (iC (bA (v:= .int 9) rfl ZdL ⟨_,rfl⟩))) aD)) (aA (fB rfl (ix:=[0]) (dN (dv 1)) (λC D E F at0=>cY) (λC D E F at0=>(aL ZaU o.mo aJ (aA (jL (b8P (K:=K)) (dv 1) (iC (dv 0)) (iC (aP cG (dv 0) (bA (v:= .int 8) rfl Zba ⟨_,rfl⟩)))) aD))) rfl rfl (by rfl) (show ([".0","start","bits"]:List Str).Nodup by decide +kernel)) aD))))))))),?_⟩;refine⟨a,bs,rfl,m,n,A,λp H1 e=>?_,λp H1 e=>(B (λz=>p z.1) _ e)⟩;have G:=p.1;have e0:atI (bs.map V.int) (0:Int)=some (.int (bs.getD 0 0)):=by rw[<-c7Y (by lia)];exact zG (i:=0) (by lia)
 refine⟨_,_,e.seq m,e0,?_⟩
 conv=>whnf
 refine cF (λc=>?_) (λc=>?_)
 ·refine(B (λz=>?_) _ e);have:(!decide (bs.getD 0 0=0))=true:=c;rw[Ym z.2.1]at this;cases this
 have c1:bs.getD 0 0=0:=YO λy=>c (by
  show (!decide (bs.getD 0 0=0))=true
  rw[Yr y];rfl)
 refine⟨a,bs,rfl,e.seq m,n,A,λH2 R=>?_⟩
 conv=>whnf
 refine cF (λz=>?_) (λz=>?_)
 ·refine(B (λy=>?_) _ (e.trans R));have:(!decide (((rst bs:Nat):Int)=0))=true:=z;rw[Ym (by have:=y.2.2;lia)]at this;cases this
 have z1:rst bs=0:=YO λy=>z (by
  show (!decide (((rst bs:Nat):Int)=0))=true
  rw[Yr (by lia)];rfl)
 have ok:a3Y bs:=⟨p,c1,z1⟩
 have q:=e.trans R;have s8:=a9F n;refine⟨a,bs,rfl,q.seq m,n,G,A,λH3 g3=>?_⟩;have I:=q.trans g3;have S:((szB bs:Nat):Int).toNat=szB bs:=Y2 _;refine⟨⟨by lia,by lia⟩,gJ (λi b d=>b=((List.range i).map λk=>V.int (12+8*((k:Nat):Int)))/\d=H3) ?_ ⟨rfl,rfl⟩ ?_ ?_⟩
 ·rintro i b d f ⟨rfl,_⟩;refine bY ?_;rw[Ya,YI];lia
 ·rintro i b d f ⟨rfl,rfl⟩;rw[S]at f;refine⟨⟨by decide,jP (by lia) (by lia)⟩,?_,rfl⟩;rw[Jc,Yh];show _++[V.int (12+8*(0+(i:Int)))]=_++[V.int (12+8*((i:Nat):Int))]
  rw[XS]
 rintro b H4 ⟨rfl,rfl⟩ ps J;rw[S];obtain⟨T,U⟩:=gA J (.lst ((List.range (szB bs)).map λk=>V.int (12+8*((k:Nat):Int))));generalize upd H4 ps _=H5 at T U;have r:=I.trans T;refine⟨_,r.seq m,λW L=>?_⟩;have ec:jN (bs.map V.int) (some (1:Int)) (some (9:Int))=((bs.drop 1).take 8).map V.int:=a3T rfl rfl (by lia);rw[ec];obtain⟨M,X⟩:=gA L (.lst (((bs.drop 1).take 8).map V.int));generalize upd H5 W _=H6 at M X;refine⟨W,_,rfl,Vb X,nH n 1 8,(by rw[Yi];lia),?_⟩;have l:=r.trans M;have s:=M _ _ U;refine⟨⟨_,Vb s⟩,dX (xs:=(List.range (szB bs)).map λk=>V.int (12+8*((k:Nat):Int))) (λi b d=>b=((daB bs).take i).map V.int/\Same H6 d) ?_ ⟨rfl,Vd _⟩ (λi b d _ z=>Vb (z.2 _ _ s)) ?_ ?_⟩
 ·rintro i b d f ⟨rfl,_⟩;refine bY ?_;rw[Ya,Yi];rw[Ya,YI]at f;lia
 ·rintro i x b d N ⟨rfl,g⟩;have f:i<szB bs:=by
   have:=(Ye.mp N).1
   rwa [Ya,YI]at this
  have ex:x=V.int (12+8*((i:Nat):Int)):=by
   rw[Yn,Xx f]at N;exact(Yu N).symm
  subst ex;have a0:=p.2;refine⟨_,(l.trans g).seq m,λp7 O=>?_⟩;have P:jN (bs.map V.int) (some ((12:Int)+8*((i:Nat):Int))) (some ((12:Int)+8*((i:Nat):Int)+8))=((bs.drop (12+8*i)).take 8).map V.int:=a3T (by lia) (by lia) (by lia);rw[P];refine⟨p7,_,rfl,Vb aC,nH n _ 8,(by rw[Yi];lia),?_,g.trans (aN O _)⟩;rw[b3O f,Yh];rfl
 rintro b Y ⟨rfl,Z⟩ u w;have e8:upd Y u (.lst (((daB bs).take ((List.range (szB bs)).map λk=>V.int (12+8*((k:Nat):Int))).length).map V.int)) u=some (.lst ((daB bs).map V.int)):=by
  rw[aC,Ya,YI,Yg (by rw[a6E];exact Yb _)]
 have g8:=aN w (.lst (((daB bs).take ((List.range (szB bs)).map λk=>V.int (12+8*((k:Nat):Int))).length).map V.int));generalize upd Y u _=H8 at e8 g8;refine⟨aM rfl,λt ht=>?_⟩;have g9:=aN ht (.tup [.int ((nm ((bs.drop 1).take 8):Nat):Int),.ref u]);exact q1 ok t u _ ((l.trans Z).none w) (l.trans (Z.trans (g8.trans g9))) (g9 _ _ e8) aC
variable (ZcB:MB P w K mg base (CX0) 3 Zes ZhD ["self"] (a9W CA.reader CA.streak))
include ZeD ZbA Ze ZA Zq ZL ZaS in
theorem Zls (A:Fun K "__init__" "Reader.__init__" Zh0 Zes ZhD):type_of% ZcB:=by
 refine mbK ["self"] A λH Q D B h=>?_;obtain⟨a,l,rfl,n,q⟩:=h;refine⟨_,(aB (bJ Ze ZA (dv 0) (lN ZbA ZaS.1 B.mo rfl ZeD ZaS.2 .nil aJ)) (aB (bJ Ze Zq (dv 0) (dJ aD)) (aF (bJ Ze ZL (dv 0) aX)))),?_⟩;refine λj w g p C=>⟨j,w,rfl,aC,λr s=>⟨rfl,?_⟩⟩
 have m:Same H r:=by rw[s];exact bU g p
 have y:lV CA.streak r j (sk []):=⟨w,by rw[s];exact aC⟩
 clear s;refine⟨l, [],m _ _ n,by decide,?_⟩;have i:a≠j:=λz=>by rw[z,g]at n;cases n
 refine⟨aM rfl,λk b=>?_⟩;have f:a≠k:=λz=>by rw[z]at b;rw[aC]at b;cases b
 have c:r k=none:=by rw[aH (Va f)]at b;exact b
 have t:j≠k:=λz=>by
  obtain⟨d,e⟩:=y;rw[z,c]at e;cases e
 refine⟨l, [("streak",.ref j)],(by rw[aH f,aC];rfl),(show 1<1000 by decide),?_⟩;refine⟨l,_,aC,(show 2<1000 by decide),?_⟩;refine q _ j k ⟨⟨l,aC⟩,?_,?_⟩ g (m.none c) ?_
 ·refine y.at_ ?_;rw[aH (Va i),aH (Va i),aH t,aH (Va i)]
 ·rw[aH (Va f),aH (Va f),aC];rfl
 ·intro x o u e;have v:x≠k:=λz=>by rw[z,m.none c]at e;cases e
  rw[aH u,aH u,aH v,aH u];exact m _ _ e
variable (ZbQ:MB P w K mg base (CX0) 4 ZdA Zgt ["self"] (a2P CA.reader CA.streak))
include ZR Zi Ze ZG Za3 ZA Zq ZP ZaZ ZbH Zbo in
theorem Zkg (v:Fun K "judged" "Reader.judged" ZgB ZdA Zgt):type_of% ZbQ:=by
 refine mbK ["self"] v λH Q E e h=>?_;obtain⟨r,f,g,w,t,rfl,i,A,F,q⟩:=h;refine⟨_,(aB (bC (cW (bZ Zi Za3 ZaZ.1 e.mo ZaZ.2 .nil aJ (aR Ze ZA (dv 0)))) (aF (aK aX)) aQ) (aB (bC (PW.pt (b0S (cW (bZ Zi ZG ZP.1 e.mo ZP.2 .nil aJ (aR Ze ZA (dv 0)))) (a3B (gH (cW (aL Zbo e.mo aJ (aA (aR Ze Zq (dv 0)) aD))))))) (aF (aK aX)) aQ) (aF (aK (cH (eE (aY fH (aL ZbH e.mo aJ (aA (aR Ze Zq (dv 0)) aD)) aG (aU _)) aX aX)))))),?_⟩;obtain⟨j,er⟩:=i.rd;have l:=i.sk;obtain⟨o,p⟩:=id l;refine⟨j,_,.ref f,er,rfl,⟨o,_,p,rfl⟩,f,sk w,rfl,l,?_⟩
 conv=>whnf
 refine cF (λc=>?_) (λc=>?_)
 ·have a:5<run w:=dec_true c;have:=q H (Vd _);rw[jK a]at this;exact this
 have a:¬ 5<run w:=dec_false c;refine⟨j,_,.ref f,er,rfl,⟨o,_,p,rfl⟩,f,sk w,rfl,l,?_⟩
 conv=>whnf
 refine cF (λz=>?_) (λz=>?_)
 ·have m:run w=5:=dec_true z;have:=q H (Vd _);rw[nJ a (.inl m)]at this;exact this
 have m:¬ run w=5:=dec_false z;have s:=yH A;have G:=kp_len w;refine⟨j,_,.ref g,er,rfl,g,kp w,rfl,Vb i.kp,s,by lia,λn u b=>?_,λn u b=>?_⟩
 ·have d:¬ (run w=5\/¬ lY (kp w)):=λy=>y.elim m λx=>x n;refine⟨λx B=>x= .str (ans w)/\Same H B,?_,?_⟩
  ·refine⟨j,_,.ref g,b _ _ er,rfl,g,kp w,rfl,Vb (b _ _ i.kp),s,by lia,λC k=>?_⟩
   conv=>whnf
   refine cF (λy=>?_) (λy=>?_)
   ·have D:((rst (kp w):Nat):Int)=0:=dec_true y;rw[qQ a d (by lia)];exact⟨rfl,b.trans k⟩
   ·have D:¬ ((rst (kp w):Nat):Int)=0:=dec_false y;rw[zK a d (by lia)];exact⟨rfl,b.trans k⟩
  ·rintro x C ⟨rfl,k⟩;exact q _ k
 ·have:=q u b;rw[nJ a (.inr n)]at this;exact this
variable (Zac:MB P w K mg base (CX0) 5 Zer ZhC ["self","bit"] (a9X CA.reader CA.streak))
include ZR Zi Ze ZW ZG Zbs ZA Zq ZL ZZ ZP ZbQ in
theorem Zlr (O:Fun K "hear" "Reader.hear" ZhZ Zer ZhC):type_of% Zac:=by
 refine mbK ["self","bit","is_put_in"] O λH Q P A h=>?_;obtain⟨r,a,f,w,t,b,rfl,k,R,V,q⟩:=h;refine⟨_,(aB (aW 2 P (bZ Zi ZG ZP.1 A.mo ZP.2 .nil aJ (aR Ze ZA (dv 0)))) (aB (bI (bN Zi ZW ZZ.1 A.mo ZZ.2 .nil aJ (aR Ze ZA (dv 0)) (aA (dv 1) aD))) (aB (lJ (bC (gH (cW (dv 2))) (aF (bI (dO (aR Ze Zq (dv 0)) (aA (dv 1) aD)))) aQ)) (aB (bJ Ze ZL (dv 0) (bZ Ze Zbs ZbQ.1 A.mo ZbQ.2 .nil aJ (dv 0))) (aF (aK (aR Ze ZL (dv 0)))))))),?_⟩;obtain⟨l,er⟩:=k.rd;have B:=k.sk;obtain⟨I,J⟩:=id B;refine⟨l,_,.ref a,er,rfl,⟨I,_,J,rfl⟩,a,sk w,rfl,B,?_⟩;refine⟨l,_,.ref a,er,rfl,⟨I,_,J,rfl⟩,a,sk w,b,rfl,B,λW C u=>?_⟩;rw[<-jH]at C;have i:=(u r k.ne1).trans er;have g:=(u f k.ne3).trans k.kp;have X:=kp_len w;refine⟨λm L=>m= [some (.ref r),some (.int b),some (.bl (decide (run w=5)))]/\kE CA.reader CA.streak L r a f (w++[b]) t/\b7Q H L r a f,?_,?_⟩
 ·conv =>whnf
  refine cF (λc=>?_) (λc=>?_)
  ·have D:¬ run w=5:=λy=>by
    have:(!decide (run w=5))=true:=c;rw[Ym y]at this;cases this
   refine⟨l,_,.ref f,i,rfl,⟨_,Vb g⟩,_,g,bY (by rw[Ya];lia),rfl,⟨⟨l,(by rw[aH k.ne2];exact i)⟩,C.set g,?_⟩,?_⟩
   ·rw[aC,kp_snoc,if_neg D,Yh];rfl
   ·intro x o v n z e;rw[aH z,u x n];exact e
  ·have D:run w=5:=YO λy=>c (by
    show (!decide (run w=5))=true
    rw[Yr y];rfl)
   refine⟨rfl,⟨⟨l,i⟩,C,?_⟩,?_⟩
   ·rw[kp_snoc,if_pos D];exact g
   ·intro x o v n z e;rw[u x n];exact e
 rintro m Y ⟨rfl,j,S⟩;have p:(w++[b]).length<=450:=by rw[Yc,Yy];lia
 obtain⟨T,E⟩:=j.rd;refine⟨⟨T,_,E,rfl⟩,r,a,f,w++[b],t,rfl,j,R,p,λM N=>?_⟩;have d:=j.same N;obtain⟨s,F⟩:=d.rd;refine⟨s,_,F,(show 3<1000 by decide),?_⟩;have G:kE CA.reader CA.streak (upd M r (.ins CA.reader s (rdF a f (ans (w++[b]))))) r a f (w++[b]) (ans (w++[b])):=⟨⟨s,aC⟩,d.sk.at_ (aH (Va d.ne1)),by rw[aH (Va d.ne2)];exact d.kp⟩
 have U:b7Q H (upd M r (.ins CA.reader s (rdF a f (ans (w++[b]))))) r a f:=λx o v n z e=>by
  rw[aH v];exact N _ _ (S x o v n z e)
 exact⟨s,_,.str (ans (w++[b])),aC,rfl,q _ G U⟩
variable (Zch:MB P w K mg base (CX0) 1 ZdW ZgS ["self"] (a6Y CA.reader CA.streak))
include Zbn Ze Zq in
theorem ZkL (c:Fun K "plain" "Reader.plain" Zg7 ZdW ZgS):type_of% Zch:=by
 refine mbK ["self"] c λH Q f g h=>?_;obtain⟨r,i,d,w,t,rfl,a,q⟩:=h;refine⟨_,(aF (aK (bT mV rfl Zbn oH (aA (aR Ze Zq (dv 0)) aD)))),?_⟩;obtain⟨e,er⟩:=a.rd;exact⟨e,_,.ref d,er,rfl,_,.inl (Vb a.kp),λp b=>q p _ b (aN b _) aC⟩
variable (Zcg:MB P w K mg base (CX0) 5 ZdV ZgR ["self"] (a6Z CA.reader CA.streak))
include ZR Zx Ze Zq ZL ZdF in
theorem ZkK (j:Fun K "frame" "Reader.frame" Zg6 ZdV ZgR):type_of% Zcg:=by
 refine mbK ["self"] j λH Q A k h=>?_;obtain⟨r,B,d,w,rfl,e,l,C,m,n,o⟩:=h;refine⟨_,(aF (aK (cH (eE (aY fH (aR Ze ZL (dv 0)) aX (aU _)) (aL ZdF k.mo aJ (aA (aR Ze Zq (dv 0)) aD)) jC)))),?_⟩;obtain⟨f,er⟩:=e.rd;have q:=yH l;have D:=kp_len w;refine⟨λx a=>Q x a,?_,λx a z=>z⟩;refine⟨f,_,.str (ans w),er,rfl,?_⟩
 conv=>whnf
 refine cF (λc=>?_) (λc=>?_)
 ·have b:ans w="whole":=YR c;have i:=jZ b;have ok:a3Y (kp w):=⟨i.1,m b,i.2⟩
  refine⟨f,_,.ref d,er,rfl,d,kp w,rfl,Vb e.kp,q,by lia,λ_ t p a s g u v=>n b ok t p a s g u v,λy=>absurd ok y⟩
 ·exact o λz=>c (Ym z)
variable (Zbi:MB P w K mg base (CX0) 1 Zfs Zjp ["self","votes","spoke"] (a9N K CA.rtail CA.stail))
include Zh Zg in
theorem Znl (f:Fun K "__init__" "Tail.__init__" ZjO Zfs Zjp):type_of% Zbi:=by
 refine mbK ["self","votes","spoke"] f λH Q i j h=>?_;obtain⟨t,C,c,v,s,rfl,g,e,q⟩:=h;refine⟨_,(aB (nZ (dv 0) (dv 1)) (aB (nZ (dv 0) (dv 2)) (aB (nZ (dv 0) aG) (aF (nZ (dv 0) aG))))),?_⟩;have b:=mW Zh Zg g;refine⟨C,c,_,e,b.cls,b.n1,by decide,?_⟩;refine⟨C,c,_,aC,b.cls,b.n2,(show 1<1000 by decide),?_⟩;refine⟨C,c,_,aC,b.cls,b.n3,(show 2<1000 by decide),?_⟩;refine⟨C,c,_,aC,b.cls,b.n4,(show 3<1000 by decide),?_⟩;have d:∀(H:Hp)(a:Addr)(x y:HO),upd (upd H a x) a y=upd H a y:=λH a x y=>by
  funext z;by_cases h:z=a
  ·rw[h,aC,aC]
  ·rw[aH h,aH h,aH h]
 rw[d,d,d];exact q
variable (Zdt:MB P w K mg base (CX0) 1 Zec Zjq ["self"] (a9M CA.rtail CA.stail))
include ZcR Zh Zg in
theorem Znm (g:Fun K "says" "Tail.says" ZjP Zec Zjq):type_of% Zdt:=by
 refine mbK ["self"] g λH Q j k h=>?_;obtain⟨t,v,s,o,n,rfl,⟨C,b,i,e⟩,q⟩:=h;refine⟨_,(aF (aK (cH (eE (PW.pt (lH (aY fH (iD (dv 0)) (bA (v:= .int 1) rfl ZcR ⟨_,rfl⟩) (aU _)) (jV (gH (cW (iD (dv 0))))))) aG aG)))),?_⟩;have a:=mW Zh Zg i;refine⟨λx d=>x= .int (fM s o)/\d=H,?_,?_⟩
 ·refine⟨C,b,_,_,e,a.cls,a.n3,rfl,?_⟩
  conv=>whnf
  refine cF (λc=>?_) (λc=>yJ ?_)
  ·have f:((o:Nat):Int)=1:=dec_true c;refine⟨C,b,_,_,e,a.cls,a.n2,rfl,?_⟩;cases s
   ·refine⟨?_,rfl⟩;unfold fM;rw[if_pos ⟨by lia,rfl⟩]
   ·refine⟨?_,rfl⟩;unfold fM;rw[if_neg λz=>nomatch z.2]
  ·have f:¬ ((o:Nat):Int)=1:=dec_false c;refine⟨?_,rfl⟩;unfold fM;rw[if_neg λz=>f (by lia)]
 rintro x d ⟨rfl,rfl⟩;exact q
variable (ZbR:MB P w K mg base (CX0) 1 ZcH Zgu ["self","at","bit"] (a6V CA.rtail CA.stail))
include ZcR Zh Zg in
theorem Zkh (g:Fun K "is_fault" "Tail.is_fault" ZgC ZcH Zgu):type_of% ZbR:=by
 refine mbK ["self","at","bit"] g λH Q l m h=>?_;obtain⟨t,v,s,o,n,a,b,rfl,⟨C,i,j,e⟩,q⟩:=h;refine⟨_,(aB (bC (aY fH (dv 1) (bA (v:= .int 1) rfl ZcR ⟨_,rfl⟩) (aU _)) (aF (aK (yF (iD (dv 0)) (tX (eN fH (dv 2) aG (aU _)))))) aQ) (aF (aK (eN fH (dv 2) aG (aU _))))),?_⟩;have f:=mW Zh Zg j
 conv=>whnf
 refine cF (λc=>?_) (λc=>?_)
 ·have k:((a:Nat):Int)=1:=dec_true c;have d:dM s a b=(s && decide (b=1)):=if_pos (by lia);rw[d]at q;refine⟨C,i,_,_,e,f.cls,f.n2,rfl,?_⟩;cases s
  ·exact q
  ·exact q
 ·have k:¬ ((a:Nat):Int)=1:=dec_false c;have d:dM s a b=decide (b=0):=if_neg (by lia);rw[d]at q;exact q
variable (Zbd:MB P w K mg base (CX0) 1 ZbI ZfH ["self","bit"] (a6U CA.rtail CA.stail))
include Zde Zh Zg in
theorem Zid (y:Fun K "judged_vote" "Tail.judged_vote" ZfJ ZbI ZfH):type_of% Zbd:=by
 refine mbK ["self","bit"] y λH Q D E h=>?_;obtain⟨t,v,s,o,n,b,rfl,⟨C,d,p,e⟩,q⟩:=h;refine⟨_,(aB (lJ (bC (aY fH (dv 1) aG (aU _)) (aF (nZ (dv 0) (aP cG (iD (dv 0)) aG))) aQ)) (aB (bC (aY uR (iD (dv 0)) (aP cG (bA (v:= .int 9) rfl Zde ⟨_,rfl⟩) (iD (dv 0))) (aU _)) (aF (aK aX)) aQ) (aF (aK (cH (eE (aY pB (iD (dv 0)) (aP oN (iD (dv 0)) aG) (aU _)) aX aX)))))),?_⟩;have a:=mW Zh Zg p;refine⟨λg i=>g= [some (.ref t),some (.int b)]/\i t=some (.ins C d (tlF v s o (if b=0 then n+1 else n)))/\iW H i t,?_,?_⟩
 ·conv=>whnf
  refine cF (λc=>?_) (λc=>?_)
  ·have j:b=0:=dec_true c;refine⟨C,d,_,_,e,a.cls,a.n4,rfl,C,d,_,e,a.cls,a.n4,(show 4<1000 by decide),rfl,?_,λx u r ex=>by rw[aH r];exact ex⟩;rw[aC,if_pos j];rfl
  ·have j:¬ b=0:=dec_false c;refine⟨rfl,?_,λx u r ex=>ex⟩;rw[if_neg j];exact e
 rintro g i ⟨rfl,f,A⟩;have k:=q i ⟨C,d,p,f⟩ A;generalize (if b=0 then n+1 else n)=m at f k;refine⟨C,d,_,_,f,a.cls,a.n3,rfl,C,d,_,_,f,a.cls,a.n1,rfl,?_⟩
 conv=>whnf
 refine cF (λc=>?_) (λc=>?_)
 ·have j:((o:Nat):Int)<9+((v:Nat):Int):=dec_true c;have l:oO v o m="more":=if_pos (by lia);rw[l]at k;exact k
 have j:¬ ((o:Nat):Int)<9+((v:Nat):Int):=dec_false c;have l:oO v o m=(if v / 2<m then ("refused":Str) else ("taken":Str)):=if_neg (by lia);rw[l]at k;refine⟨λx w=>x= .str (if v / 2<m then ("refused":Str) else ("taken":Str))/\w=i,?_,?_⟩
 ·refine⟨C,d,_,_,f,a.cls,a.n4,rfl,C,d,_,_,f,a.cls,a.n1,rfl,?_⟩;refine⟨⟨by decide,by decide⟩,?_⟩
  conv=>whnf
  refine cF (λz=>?_) (λz=>?_)
  ·have B:((v:Nat):Int) / 2<((m:Nat):Int):=dec_true z;rw[if_pos (by lia)];exact⟨rfl,rfl⟩
  ·have B:¬ ((v:Nat):Int) / 2<((m:Nat):Int):=dec_false z;rw[if_neg (by lia)];exact⟨rfl,rfl⟩
 rintro x w ⟨rfl,rfl⟩;exact k
variable (Zds:MB P w K mg base (CX0) 2 Zeb Zjo ["self","bit"] (a9O CA.rtail CA.stail))
include Zde Zh Zg Zbg Zbb Za4 ZaK ZbR Zbd in
theorem Znk (E:Fun K "hear" "Tail.hear" ZjN Zeb Zjo):type_of% Zds:=by
 refine mbK ["self","bit","at"] E λH Q F B h=>?_;obtain⟨t,v,s,o,n,b,rfl,⟨C,a,d,e⟩,q⟩:=h;refine⟨_,(aB (aW 2 F (iD (dv 0))) (aB (nZ (dv 0) (aP cG (dv 2) aG)) (aB (bC (aY a6O (dv 2) (bA (v:= .int 9) rfl Zde ⟨_,rfl⟩) (aU _)) (aF (aK (uB Zbd.1 B.mo Zbd.2 .nil aJ (dv 0) (aA (dv 1) aD)))) aQ) (aF (aK (cH (eE (cW (uB ZbR.1 B.mo ZbR.2 .nil aJ (dv 0) (aA (dv 2) (aA (dv 1) aD)))) aX aX))))))),?_⟩;have g:=mW Zh Zg d;have m:=vD Za4 ZaK d;have p:=vD Zbg Zbb d;refine⟨C,a,_,_,e,g.cls,g.n3,rfl,C,a,_,e,g.cls,g.n3,(show 4<1000 by decide),?_⟩;have i:upd H t (.ins C a (gU "over" (.int (((o:Nat):Int)+1)) (tlF v s o n))) t=some (.ins C a (tlF v s (o+1) n)):=aC;have r:iW H (upd H t (.ins C a (gU "over" (.int (((o:Nat):Int)+1)) (tlF v s o n)))) t:=λx u k ex=>by rw[aH k];exact ex
 generalize upd H t (.ins C a (gU "over" (.int (((o:Nat):Int)+1)) (tlF v s o n)))=H1 at i r
 conv=>whnf
 refine cF (λc=>?_) (λc=>?_)
 ·have G:(9:Int)<=((o:Nat):Int):=dec_true c;have j:9<=o:=by lia
  refine⟨⟨C,a,_,i,g.cls,m,rfl⟩,t,v,s,o+1,n,b,rfl,⟨C,a,d,i⟩,λl D I=>?_⟩;have w:tlN o b n=(if b=0 then n+1 else n):=by
   unfold tlN;by_cases z:b=0
   ·rw[if_pos ⟨j,z⟩,if_pos z]
   ·rw[if_neg λy=>z y.2,if_neg z]
  have A:bR v s o n b=oO v (o+1) (tlN o b n):=if_pos j;rw[<-w]at D ⊢;have:=q l D λx u k ex=>I x u k (r x u k ex);rw[A]at this;exact this
 have G:¬ (9:Int)<=((o:Nat):Int):=dec_false c;have j:¬ 9<=o:=by lia
 have w:tlN o b n=n:=if_neg λz=>j z.1;have A:bR v s o n b=(if dM s o b=true then ("fault":Str) else ("more":Str)):=if_neg j;rw[A,w]at q;have J:=q H1 ⟨C,a,d,i⟩ r;refine⟨λx l=>x= .str (if dM s o b=true then ("fault":Str) else ("more":Str))/\l=H1,?_,?_⟩
 ·refine⟨⟨C,a,_,i,g.cls,p,rfl⟩,t,v,s,o+1,n,o,b,rfl,⟨C,a,d,i⟩,?_⟩;generalize dM s o b=f;cases f
  ·exact⟨rfl,rfl⟩
  ·exact⟨rfl,rfl⟩
 rintro x l ⟨rfl,rfl⟩;exact J
variable (ZbP:MB P w K mg base (CX0) 2 Zdz Zgs ["self","votes"] (a0E CA.rtail false))
include ZdM Zh Zg Zar Zbi in
theorem Zkf (a:Fun K "__init__" "ReadTail.__init__" ZgA Zdz Zgs):type_of% ZbP:=by
 refine mbK ["self","votes"] a λH Q d b h=>?_;obtain⟨t,c,v,rfl,e,q⟩:=h;exact⟨_,(aF (bI (a1A Zar Zbi.1 b.mo Zbi.2 .nil aJ (bA (v:= .ref ZeX) rfl ZdM rfl) (aA (dv 0) (aA (dv 1) (aA iJ aD)))))),⟨rfl,t,CA.rtail,c,v,false,rfl,.inl rfl,e,q _ rfl⟩⟩
variable (Zbx:MB P w K mg base (CX0) 2 Zda Zgf ["self","votes"] (a0E CA.stail true))
include ZdM Zh Zg Zar Zbi in
theorem Zjc (a:Fun K "__init__" "SpeakTail.__init__" Zgm Zda Zgf):type_of% Zbx:=by
 refine mbK ["self","votes"] a λH Q d b h=>?_;obtain⟨t,c,v,rfl,e,q⟩:=h;exact⟨_,(aF (bI (a1A Zar Zbi.1 b.mo Zbi.2 .nil aJ (bA (v:= .ref ZeX) rfl ZdM rfl) (aA (dv 0) (aA (dv 1) (aA iJ aD)))))),⟨rfl,t,CA.stail,c,v,true,rfl,.inr rfl,e,q _ rfl⟩⟩
variable (ZcV:MB P w K mg base (CX0) 1 ZeM Zir ["self"] (b0G CA.count))
include Zd Zy in
theorem Zml (b:Fun K "__init__" "Count.__init__" ZiM ZeM Zir):type_of% ZcV:=by
 refine mbK ["self"] b λH Q e f h=>?_;obtain⟨a,c,rfl,d,q⟩:=h;exact⟨_,(aF (bJ Zd Zy (dv 0) aG)),⟨c, [],d,by decide,q⟩⟩
variable (Zbt:MB P w K mg base (CX0) 1 Zc6 Zgb ["self"] (b8A CA.count 12))
include Zfa Zd Zy in
theorem Zi8 (b:Fun K "is_quiet" "Count.is_quiet" Zgi Zc6 Zgb):type_of% Zbt:=by
 refine mbK ["self"] b λH Q e f h=>?_;obtain⟨a,n,rfl,⟨c,d⟩,q⟩:=h;refine⟨_,(aF (aK (eN a6O (aR Zd Zy (dv 0)) (bA (v:= .int 12) rfl Zfa ⟨_,rfl⟩) (aU _)))),?_⟩;exact⟨c,_,.int n,d,rfl,q⟩
variable (ZaH:MB P w K mg base (CX0) 1 ZdS ZgO ["self"] (b8A CA.count 18))
include ZfZ Zd Zy in
theorem ZkH (b:Fun K "is_off" "Count.is_off" Zg3 ZdS ZgO):type_of% ZaH:=by
 refine mbK ["self"] b λH Q e f h=>?_;obtain⟨a,n,rfl,⟨c,d⟩,q⟩:=h;exact⟨_,(aF (aK (eN a6O (aR Zd Zy (dv 0)) (bA (v:= .int 18) rfl ZfZ ⟨_,rfl⟩) (aU _)))),⟨c,_,.int n,d,rfl,q⟩⟩
variable (Zaj:MB P w K mg base (CX0) 2 ZeN Zis ["self","step"] (b0F CA.count))
include Zd6 Zd Zam Zy ZaH in
theorem Zmm (i:Fun K "move" "Count.move" ZiN ZeN Zis):type_of% Zaj:=by
 refine mbK ["self","step"] i λH Q k j h=>?_;obtain⟨a,n,l,rfl,⟨d,e⟩,q⟩:=h;refine⟨_,(aF (bC (gH (cW (bZ Zd Zam ZaH.1 j.mo ZaH.2 .nil aJ (dv 0)))) (aF (bJ Zd Zy (dv 0) (bF (wQ rfl) rfl Zd6 yZ (aA aG (aA (aP cG (aR Zd Zy (dv 0)) (dv 1)) aD))))) aQ)),?_⟩;refine⟨⟨d,_,e,rfl⟩,a,n,rfl,⟨d,e⟩,?_⟩
 conv=>whnf
 refine cF (λc=>?_) (λc=>?_)
 ·have f:¬ (18:Int)<=n:=λz=>by
   have:(!decide ((18:Int)<=n))=true:=c;rw[Ym z]at this;cases this
  refine⟨d,_,.int n,e,rfl,d,_,e,(show 1<1000 by decide),q _ ?_ λb g=>aH g⟩;refine⟨d,?_⟩;unfold mvd;rw[if_neg f];exact aC
 ·have f:(18:Int)<=n:=YO λz=>c (by
   show (!decide ((18:Int)<=n))=true
   rw[Yr z];rfl)
  refine q _ ?_ λb g=>rfl;unfold mvd;rw[if_pos f];exact⟨d,e⟩
variable (ZaO:MB P w K mg base (CX0) 3 Zei Zht ["self","spoke"] (a7B CA.count))
include Zb0 Zez Zd Z0 Zaj in
theorem Zli (F0:Fun K "fault" "Count.fault" ZhQ Zei Zht):type_of% ZaO:=by
 refine mbK ["self","spoke"] F0 λH Q g f h=>?_;obtain⟨a,n,b,rfl,⟨c,d⟩,q⟩:=h;refine⟨_,(aF (bI (bN Zd Z0 Zaj.1 f.mo Zaj.2 .nil aJ (dv 0) (aA (cH (eE (cW (dv 1)) (bA (v:= .int 8) rfl Zb0 ⟨_,rfl⟩) (bA (v:= .int 1) rfl Zez ⟨_,rfl⟩))) aD)))),?_⟩;refine⟨⟨c,_,d,rfl⟩,λx e=>x= .int (if b=true then 8 else 1)/\e=H,?_,?_⟩
 ·cases b with
  |true=>exact⟨rfl,rfl⟩
  |false=>exact⟨rfl,rfl⟩
 rintro x e ⟨rfl,rfl⟩;exact⟨a,n,_,rfl,⟨c,d⟩,q⟩
variable (Zcu:MB P w K mg base (CX0) 3 Zeh Zhs ["self"] (a0F CA.count 8))
include Zb0 Zd Z0 Zaj in
theorem Zlh (d:Fun K "blame" "Count.blame" ZhP Zeh Zhs):type_of% Zcu:=by
 refine mbK ["self"] d λH Q f e h=>?_;obtain⟨a,n,rfl,⟨b,c⟩,q⟩:=h;exact⟨_,(aF (bI (bN Zd Z0 Zaj.1 e.mo Zaj.2 .nil aJ (dv 0) (aA (bA (v:= .int 8) rfl Zb0 ⟨_,rfl⟩) aD)))),⟨⟨b,_,c,rfl⟩,a,n,8,rfl,⟨b,c⟩,q⟩⟩
variable (ZcU:MB P w K mg base (CX0) 3 ZeL Ziq ["self"] (a0F CA.count (-1)))
include Zd Z0 Zaj in
theorem Zmk (d:Fun K "good" "Count.good" ZiL ZeL Ziq):type_of% ZcU:=by
 refine mbK ["self"] d λH Q f e h=>?_;obtain⟨a,n,rfl,⟨b,c⟩,q⟩:=h;exact⟨_,(aF (bI (bN Zd Z0 Zaj.1 e.mo Zaj.2 .nil aJ (dv 0) (aA (b1B a8S aG) aD)))),⟨⟨b,_,c,rfl⟩,a,n, -1,rfl,⟨b,c⟩,q⟩⟩
variable (Zai:FB P w K mg base (CX0) 7 "begun_reader" Zfg ZgX [] (b5G CA))
include ZR Zx Zhp Ze Zd1 ZU ZcB Zac in
theorem ZkQ (s:GFm K mg "begun_reader" Zhc Zfg ZgX):type_of% Zai:=by
 refine fbK ["reader"] s λH Q t n h=>?_;obtain⟨rfl,q⟩:=h;refine⟨_,(aB (aW 0 t (lN Zd1 ZcB.1 n.mo rfl Zhp ZcB.2 .nil aJ)) (aB (bI (bN Ze ZU Zac.1 n.mo Zac.2 .nil aJ (dv 0) (aA aG aD))) (aF (aK (dv 0))))),?_⟩;refine λr dr a b u=>⟨r,dr,rfl,aC,λv f g p i j w=>⟨rfl,?_⟩⟩
 have k:Same H v:=λx o e=>w x o (aO e a) (by rw[aH (aO e a),aH (aO e b)];exact e);have c:H f=none:=Same.none (λx o e=>(by rw[aH (aO e a),aH (aO e b)];exact e):Same H _) i;have d:H g=none:=Same.none (λx o e=>(by rw[aH (aO e a),aH (aO e b)];exact e):Same H _) j;obtain⟨y,l⟩:=p.rd;refine⟨⟨y,_,l,rfl⟩,r,f,g, [],_,0,rfl,p,(λz A=> .inl (Yw.mp A)),by decide,λB m C=>?_⟩;exact q r f g B _ m (λx o e=>C x o (aO e a) (aO e c) (aO e d) (k x o e)) a c d
variable (Zay:MB P w K mg base (CX0) 1 Zfj Zjf ["self","since"] (a2T CA.free "since"))
include ZS Zaa in
theorem Znb (b:Fun K "__init__" "Free.__init__" ZjE Zfj Zjf):type_of% Zay:=by
 refine mbK ["self","since"] b λH Q d f h=>?_;obtain⟨a,c,v,rfl,e,q⟩:=h;refine⟨_,(aF (bJ ZS Zaa (dv 0) (dv 1))),?_⟩;exact⟨c, [],e,by decide,q _ rfl⟩
variable (ZaR:MB P w K mg base (CX0) 1 Zet ZhE ["self","wire","reader","many"] (b9V CA.speaks "wire" "reader" "many"))
include Zj ZM ZV ZF in
theorem Zlt (c:Fun K "__init__" "Speaks.__init__" Zh1 Zet ZhE):type_of% ZaR:=by
 refine mbK ["self","wire","reader","many"] c λH Q d f h=>?_;obtain⟨a,b,v,w,z,rfl,e,q⟩:=h;refine⟨_,(aB (bJ Zj ZM (dv 0) (dv 1)) (aB (bJ Zj ZV (dv 0) (dv 2)) (aF (bJ Zj ZF (dv 0) (dv 3))))),?_⟩;refine⟨b, [],e,by decide,b,_,aC,(show 1<1000 by decide),b,_,aC,(show 2<1000 by decide),q _ ?_⟩;rw[lZ,lZ];rfl
variable (Zak:MB P w K mg base (CX0) 1 ZeR Ziw ["self","reader","many"] (a2S CA.reads "reader" "many"))
include ZH Z7 ZaM in
theorem Zmq (c:Fun K "__init__" "Reads.__init__" ZiR ZeR Ziw):type_of% Zak:=by
 refine mbK ["self","reader","many"] c λH Q d f h=>?_;obtain⟨a,b,v,w,rfl,e,q⟩:=h;refine⟨_,(aB (bJ ZH Z7 (dv 0) (dv 1)) (aF (bJ ZH ZaM (dv 0) (dv 2)))),?_⟩;refine⟨b, [],e,by decide,b,_,aC,(show 1<1000 by decide),q _ ?_⟩;rw[lZ];rfl
variable (ZaP:MB P w K mg base (CX0) 1 Zek Zhv ["self","tail","found"] (a2S CA.intail "tail" "found"))
include Zs ZD ZaD in
theorem Zlk (c:Fun K "__init__" "InTail.__init__" ZhS Zek Zhv):type_of% ZaP:=by
 refine mbK ["self","tail","found"] c λH Q d f h=>?_;obtain⟨a,b,v,w,rfl,e,q⟩:=h;refine⟨_,(aB (bJ Zs ZD (dv 0) (dv 1)) (aF (bJ Zs ZaD (dv 0) (dv 2)))),?_⟩;refine⟨b, [],e,by decide,b,_,aC,(show 1<1000 by decide),?_⟩;refine q _ ?_;rw[lZ];rfl
variable (Zax:MB P w K mg base (CX0) 1 Zdv Zgo ["self","left","may_blame"] (a2S CA.flag "left" "may_blame"))
include Zu Zah ZT in
theorem Zkb (c:Fun K "__init__" "Flagging.__init__" Zgw Zdv Zgo):type_of% Zax:=by
 refine mbK ["self","left","may_blame"] c λH Q d f h=>?_;obtain⟨a,b,v,w,rfl,e,q⟩:=h;refine⟨_,(aB (bJ Zu Zah (dv 0) (dv 1)) (aF (bJ Zu ZT (dv 0) (dv 2)))),?_⟩;refine⟨b, [],e,by decide,b,_,aC,(show 1<1000 by decide),q _ ?_⟩;rw[lZ];rfl
variable (Z2:MB P w K mg base (CX0) 1 ZdX ZgT ["self","may_blame"] (a2T CA.settles "may_blame"))
include ZX Z8 in
theorem ZkM (b:Fun K "__init__" "Settles.__init__" Zg8 ZdX ZgT):type_of% Z2:=by
 refine mbK ["self","may_blame"] b λH Q d f h=>?_;obtain⟨a,c,v,rfl,e,q⟩:=h;exact⟨_,(aF (bJ ZX Z8 (dv 0) (dv 1))),⟨c, [],e,by decide,q _ rfl⟩⟩
variable (Z5:MB P w K mg base (CX0) 1 ZeU Ziz ["self","left"] (a2T CA.rests "left"))
include Z3 ZaB in
theorem Zmt (b:Fun K "__init__" "Rests.__init__" ZiU ZeU Ziz):type_of% Z5:=by
 refine mbK ["self","left"] b λH Q d f h=>?_;obtain⟨a,c,v,rfl,e,q⟩:=h;exact⟨_,(aF (bJ Z3 ZaB (dv 0) (dv 1))),⟨c, [],e,by decide,q _ rfl⟩⟩
variable (ZbO:MB P w K mg base (CX0) 2 Zdy Zgr ["self"] (b8B CA 12))
include Zd Za Zbj Zn Zbt in
theorem Zke (f:Fun K "is_quiet" "Post.is_quiet" Zgz Zdy Zgr):type_of% ZbO:=by
 refine mbK ["self"] f λH Q k g h=>?_;obtain⟨p,i,S,o,rfl,⟨j,l,m,n,a,r,s,b⟩,q⟩:=h;refine⟨_,(aF (aK (bZ Zd Zbj Zbt.1 g.mo Zbt.2 .nil aJ (aR Za Zn (dv 0))))),?_⟩;obtain⟨c,d⟩:=b.et;exact⟨j,_,.ref a,b.e,rfl,⟨c,_,d,rfl⟩,a,S.tot,rfl,⟨c,d⟩,q⟩
variable (ZaQ:MB P w K mg base (CX0) 2 Zep ZhA ["self"] (b8B CA 18))
include Zd Za Zam Zn ZaH in
theorem Zlp (f:Fun K "is_off" "Post.is_off" ZhX Zep ZhA):type_of% ZaQ:=by
 refine mbK ["self"] f λH Q k g h=>?_;obtain⟨p,i,S,o,rfl,⟨j,l,m,n,a,r,s,b⟩,q⟩:=h;refine⟨_,(aF (aK (bZ Zd Zam ZaH.1 g.mo ZaH.2 .nil aJ (aR Za Zn (dv 0))))),?_⟩;obtain⟨c,d⟩:=b.et;exact⟨j,_,.ref a,b.e,rfl,⟨c,_,d,rfl⟩,a,S.tot,rfl,⟨c,d⟩,q⟩
variable (Zbv:MB P w K mg base (CX0) 1 Zc8 Zgd ["self"] (c3S CA))
include Zo Za Zm in
theorem Zja (a:Fun K "has_frame" "Post.has_frame" Zgk Zc8 Zgd):type_of% Zbv:=by
 refine mbK ["self"] a λH Q g i h=>?_;obtain⟨p,c,S,o,rfl,⟨d,j,f,k,l,m,n,b⟩,q⟩:=h;refine⟨_,(aF (aK (eN pB (bF eZ rfl Zo cP (aA (aR Za Zm (dv 0)) aD)) aG (aU _)))),⟨d,_,.ref f,b.e,rfl,_,.inl (Vb b.ew),?_⟩⟩;rw[b.fw.len];exact q
variable (ZaY:MB P w K mg base (CX0) 7 Zb3 Ze1 ["self"] (a2U CA))
include ZaN ZR Zx Za Zm ZfE in
theorem Zg1 (F0:Fun K "foremost_wire" "Post.foremost_wire" Zfd Zb3 Ze1):type_of% ZaY:=by
 refine mbK ["self"] F0 λH Q B u h=>?_;obtain⟨p,v,S,o,f,r,rfl,⟨l,C,m,D,E,w,F,b⟩,c,n,q⟩:=h;refine⟨_,(aF (aK (aL ZfE u.mo aJ (aA (bG dY (bG cJ (aR Za Zm (dv 0)) aG (λ_ _=>rfl)) aG (λ_ _=>rfl)) (aA (bG dY (bG cJ (aR Za Zm (dv 0)) aG (λ_ _=>rfl)) aG (λ_ _=>rfl)) aD))))),?_⟩;have i:=b.fw;rw[c]at i;generalize hws:w=ws' at i;cases i with
 | cons a rr=>
  rename_i t ts;obtain⟨d,s,x,G⟩:=a;have j:=b.ew;rw[hws]at j;refine⟨l,_,.ref m,b.e,rfl,_,.ref t,Vb j,at0,_,_,Vc s,rfl,l,_,.ref m,b.e,rfl,_,.ref t,Vb j,at0,_,_,Vc s,rfl,?_⟩;have I:=n.2.1;refine⟨(f.1:Int),d,f.2,rfl,Vb x,by lia,λ_ y z k g e=>q y z k g e,λA=>absurd n.ok A⟩
variable (ZaX:MB P w K mg base (CX0) 1 Zb2 Ze0 ["self"] (c0A CA))
include Za Zm in
theorem Zg0 (F0:Fun K "drop_foremost" "Post.drop_foremost" Zfc Zb2 Ze0):type_of% ZaX:=by
 refine mbK ["self"] F0 λH Q I J h=>?_;obtain⟨p,w,S,o,rfl,⟨r,y,c,k,A,B,C,b⟩,D,q⟩:=h;refine⟨_,(aF (bI (b2D (aR Za Zm (dv 0)) (aA aG aD)))),?_⟩;have m:=b.fw;generalize hws:B=ws' at m;generalize hwt:S.wt=wt at m;cases m with
 |nil=>exact absurd hwt D
 | cons a rr=>
  rename_i t f ts fs;have j:=b.ew;rw[hws]at j;refine⟨r,_,.ref c,b.e,rfl,⟨_,j⟩,_,0,.ref t,j,⟨by decide,by decide⟩,sq0,rfl,?_⟩;have n:dD o H (upd H c (.lst ts)):=λx v e z=>by
   rw[aH]
   ·exact e
   ·rintro rfl;rcases z with z | ⟨L,rfl⟩
    ·exact z b.ow
    ·rw[j]at e;cases e
  have s:∀{x:Addr}{v:HO},H x=some v->(∀l,v≠ .lst l)->upd H c (.lst ts) x=some v:=λ{x v} e h=>by
   rw[aH]
   ·exact e
   ·rintro rfl;rw[j]at e;exact h _ (Yu e).symm
  have fk:∀{g:List V}{i:List Fr},fK H (Dl o c k) g i->fK (upd H c (.lst ts)) (Dl o c k) g i:=λ{g i} h=>by
   induction h with
   |nil=>exact .nil
   | cons a _ ih=>
    obtain⟨d,E,F,u⟩:=a;exact .cons ⟨d,n.tup E,by rw[aH u.2.1];exact F,u⟩ ih
  refine q _ ⟨r,y,c,k,A,ts,C,s b.e (λl z=>nomatch z),n.tup b.ec,aC,?_,by rw[aH (Va b.ne)];exact b.eu,fk b.fu,(let ⟨d,e⟩:=b.et;⟨d,s e λl z=>nomatch z⟩),b.op,b.ow,b.ou,b.ot,b.ne,λx G=>?_⟩ n
  ·show fK _ _ ts S.wt.tail;rw[hwt];exact fk rr
  ·by_cases h:x=c
   ·rw[h,aC];simp
   ·rw[aH h];exact b.al x G
variable (Zd9:FB P w K mg base (CX0) 1 "is_wanted" ZgI Zjv ["choice","name"] (a9K K))
def Znr (a:GFm K mg "is_wanted" ZjU ZgI Zjv):type_of% Zd9:=by
 refine fbK ["choice","name"] a λH Q b d h=>?_;obtain⟨c,m,t,n,rfl,e,q⟩:=h;refine⟨_,(aF (aK (eN fH (aP a8U (dv 1) (bG dY (dv 0) aG (λ_ _=>rfl))) (bG dY (dv 0) aG (λ_ _=>rfl)) (aU _)))),?_⟩;exact⟨_,_,Vc e,rfl,_,_,Vc e,rfl,q⟩
variable (Zcf:MB P w K mg base (CX0) 2 ZdT ZgP ["self","frame"] (b0D CA))
include Za ZaJ ZO Zd9 in
theorem ZkI (C:Fun K "hand_up" "Post.hand_up" Zg4 ZdT ZgP):type_of% Zcf:=by
 refine mbK ["self","frame"] C λH Q N D h=>?_;obtain⟨p,E,S,o,t,d,n,F,rfl,⟨i,j,k,g,u,w,l,b⟩,y,ed,f,O,q⟩:=h;refine⟨_,(aF (bC (cW (aL Zd9 D.mo aJ (aA (aR Za ZaJ (dv 0)) (aA (bG dY (dv 1) aG (λ_ _=>rfl)) aD)))) (aF (bI (dO (aR Za ZO (dv 0)) (aA (dv 1) aD)))) aQ)),?_⟩;refine⟨i,_,.ref j,b.e,rfl,_,_,Vc y,rfl,j,_,_,_,rfl,b.ec,?_⟩
 conv=>whnf
 refine cF (λc=>?_) (λc=>?_)
 ·have m:gW S n=true:=c;have G:=b.fu.len;refine⟨i,_,.ref g,b.e,rfl,⟨_,Vb b.eu⟩,_,b.eu,bY (by lia),?_⟩;obtain⟨A,I,J,L,B,M⟩:=a1D (ys:=l++[.ref t]) b (.inr rfl);refine q _ ⟨i,j,k,g,u,w,l++[.ref t],I.trans b.e,J.trans b.ec,by rw[aH b.ne];exact b.ew,(B b.fw).imp (λx v e _=>e) (λx z=>⟨.inl z.1,z.2⟩),aC,?_,(let ⟨d,e⟩:=b.et;⟨d,L.trans e⟩),.inl b.op,.inl b.ow,.inl b.ou,.inl b.ot,b.ne,λx hx=>?_⟩ A
  ·show fK _ _ _ (if gW S n=true then S.up++[(n,F)] else S.up);rw[if_pos m];have r:d≠k:=λz=>f (z▸b.ow);have a:d≠g:=λz=>f (z▸b.ou);exact((B b.fu).imp (λx v e _=>e) (λx z=>⟨.inl z.1,z.2⟩)).snoc ⟨d,A.tup y,by rw[aH a];exact ed,.inr rfl,r,a⟩
  ·rcases hx with hx | hx
   ·exact M x hx
   ·have s:x=d:=hx;have a:d≠g:=λz=>f (z▸b.ou);rw[s,aH a,ed];simp
 ·have m:¬ gW S n=true:=c;refine q _ ?_ dD.refl;rw[if_neg m];exact Bd.grow ⟨i,j,k,g,u,w,l,b⟩ ed
variable (Zdm:MB P w K mg base (CX0) 3 Zfm Zji ["self","name","data"] (b9X K CA ZdJ))
include Zx Zbn Za Zm ZaF in
theorem Zne (G:Fun K "hand" "Post.hand" ZjH Zfm Zji):type_of% Zdm:=by
 refine mbK ["self","name","data"] G λH Q nd I h=>?_;obtain⟨p,J,S,o,n,a,m,rfl,bd,w,L,hw,M,N⟩:=h;refine⟨_,(aB (bI (aL ZaF I.mo aJ (aA (dv 1) (aA (dv 2) aD)))) (aF (bI (dO (aR Za Zm (dv 0)) (aA (cM (aA (dv 1) (aA (bT mV rfl Zbn oH (aA (dv 2) aD)) aD))) aD))))),?_⟩;refine⟨n,a,m,rfl,w,L,λok k g=>?_,λO k g=>N O k g⟩;obtain⟨y,P,q,A,R,B,T,b⟩:=bd.move (H':=k) λx v e _=>g x v e;refine⟨y,_,.ref q,b.e,rfl,⟨_,Vb b.ew⟩,_,.inl (g.seq w),λd hd=>?_⟩;obtain⟨C,r⟩:=gA hd (.lst (m.map V.int));generalize upd k d (.lst (m.map V.int))=H2 at C r;refine⟨aM rfl,λt U=>?_⟩;obtain⟨l,D⟩:=gA U (.tup [.int n,.ref d]);generalize upd H2 t (.tup [.int n,.ref d])=H3 at l D;have i:=C.trans l;have j:¬ o d:=λz=>b.al d z hd;have c:=b.move (H':=H3) λx v e _=>i x v e;have W:=b.fw.len;refine⟨_,c.ew,bY (by lia),?_⟩;obtain⟨E,X,Y,Z,F,k6⟩:=a1D (ys:=B++[.ref t]) c (.inl rfl);have f:d≠q:=λz=>j (z▸b.ow);have s:d≠A:=λz=>j (z▸b.ou);have en:((n.toNat:Nat):Int)=n:=by
  have:=iG.mp ok.1;lia
 refine M ok _ d (g.none hd) ⟨y,P,q,A,R,B++[.ref t],T,X.trans c.e,Y.trans c.ec,aC,?_,by rw[aH (Va b.ne)];exact c.eu,(F c.fu).imp (λx v e _=>e) (λx z=>⟨.inl z.1,z.2⟩),(let ⟨d,e⟩:=c.et;⟨d,Z.trans e⟩),.inl b.op,.inl b.ow,.inl b.ou,.inl b.ot,b.ne,λx hx=>?_⟩ (λx v e z=>E x v (i x v (g x v e)) z)
 ·refine((F c.fw).imp (λx v e _=>e) (λx z=>⟨.inl z.1,z.2⟩)).snoc ⟨d,?_,by rw[aH f];exact l _ _ r,.inr rfl,f,s⟩;show _=some (HO.tup [.int ((n.toNat:Nat):Int),.ref d]);rw[en];exact E.tup D
 ·rcases hx with hx | hx
  ·exact k6 x hx
  ·have u:x=d:=hx;rw[u,aH f,l _ _ r];simp
variable (ZdD:FB P w K mg base (CX0) 1 "copies" Zj8 Zm7 ["frames"] (b0H K))
include Zbn in
theorem Zo0 (B:GFm K mg "copies" Znz Zj8 Zm7):type_of% ZdD:=by
 refine fbK ["frames"] B λH Q N O h=>?_;obtain⟨a,D,fs,o,rfl,e,s,P,q⟩:=h;refine⟨_,(aF (aK (fB rfl (ix:=[]) (dN (dv 0)) (λC E F G at0=>cY) (λC E F G at0=>(cM (aA (bG (wU (K:=K)) (dv 0) aG (λ_ _=>rfl)) (aA (bT (a6N (K:=K)) rfl Zbn oH (aA (bG (wU (K:=K)) (dv 0) aG (λ_ _=>rfl)) aD)) aD)))) rfl rfl (by rfl) (show ([".0","frame"]:List Str).Nodup by decide +kernel)))),?_⟩;have I:=s.len;refine⟨⟨_,Vb e⟩,dX (xs:=D) (λi b c=>Same H c/\fU H c b (fs.take i)) ?_ ⟨Vd _,.nil⟩ (λi b c _ z=>Vb (z.1 _ _ e)) ?_ ?_⟩
 ·rintro i b c u ⟨_,n⟩;refine bY ?_;rw[n.len,Yi];lia
 ·rintro i x b c J ⟨g,n⟩;obtain⟨t,f,rfl,v,d,w,L,R⟩:=s.get J;refine⟨_,_,Vc (g _ _ w),rfl,_,_,Vc (g _ _ w),rfl,_,.inl (Vb (g _ _ L)),λy k=>?_⟩;obtain⟨j,A⟩:=gA k (.lst (f.2.map V.int));generalize upd c y (.lst (f.2.map V.int))=H2 at j A;refine⟨aM rfl,λS m=>?_⟩;have r:=aN m (.tup [.int ((f.1:Nat):Int),.ref y]);refine⟨g.trans (j.trans r),?_⟩;have u:i<fs.length:=(Ye.mp v).1;have M:fs[i]=f:=(Ye.mp v).2;rw[Yf u,M];exact fU.snoc ((g.trans j).none m) (g.none k) aC (r _ _ A) (n.same (j.trans r))
 rintro b c ⟨g,n⟩ l p;have j:=aN p (.lst b);rw[I,Yg (Yb _)]at n;exact q l b _ (g.none p) (g.trans j) aC (n.same j)
variable (ZcW:MB P w K mg base (CX0) 2 ZeP Ziu ["self"] (b4Q CA))
include Za Zm ZdD in
theorem Zmo (c:Fun K "waits" "Post.waits" ZiP ZeP Ziu):type_of% ZcW:=by
 refine mbK ["self"] c λH Q k d h=>?_;obtain⟨p,f,S,o,rfl,⟨g,l,a,m,n,i,r,b⟩,j,q⟩:=h;exact⟨_,(aF (aK (aL ZdD d.mo aJ (aA (aR Za Zm (dv 0)) aD)))),⟨g,_,.ref a,b.e,rfl,a,i,S.wt,_,rfl,b.ew,b.fw,j,q⟩⟩
variable (ZdP:MB P w K mg base (CX0) 2 ZfW Zkw ["self"] (c3T CA))
include Za ZO ZdD in
theorem Zoa (c:Fun K "got" "Post.got" ZkV ZfW Zkw):type_of% ZdP:=by
 refine mbK ["self"] c λH Q k d h=>?_;obtain⟨p,f,S,o,rfl,⟨g,l,m,a,n,r,i,b⟩,j,q⟩:=h;refine⟨_,(aF (aK (aL ZdD d.mo aJ (aA (aR Za ZO (dv 0)) aD)))),?_⟩;exact⟨g,_,.ref a,b.e,rfl,a,i,S.up,_,rfl,b.eu,b.fu,j,q⟩
variable (ZaL:FB P w K mg base (CX0) 3 "unless_off" Zga ZiJ ["post","word","stance"] (a9L CA))
include ZmK Za Zat Ze7 ZaQ in
theorem ZmD (m:GFm K mg "unless_off" Zi4 Zga ZiJ):type_of% ZaL:=by
 refine fbK ["post","word","stance"] m λH Q B n h=>?_;obtain⟨p,d,S,o,w,nx,rfl,bd,r,s⟩:=h;refine⟨_,(aF (aK (cH (eE (cW (bZ Za Zat ZaQ.1 n.mo ZaQ.2 .nil aJ (dv 0))) (cM (aA aX (aA (b1D Ze7 rfl ZmK) aD))) (cM (aA (dv 1) (aA (dv 2) aD))))))),?_⟩;refine⟨λx j=>Q x j,?_,λx j z=>z⟩;obtain⟨v,C,D,E,F,G,I,b⟩:=id bd;refine⟨⟨v,_,b.e,rfl⟩,p,d,S,o,rfl,bd,?_⟩
 conv=>whnf
 refine cF (λc=>?_) (λc=>?_)
 ·have f:18<=S.tot:=dec_true c;refine λx a k g y=>⟨aM rfl,λt i=>?_⟩
  have A:Same H (upd (upd H a (.own x)) x (.ins CA.off a [])):=λb u q=>by rw[aH (aO q k),aH (aO q g)];exact q
  have l:=aN i (.tup [.str "off",.ref x]);exact s f t x a _ (A.trans l) k (l _ _ aC) aC
 ·have f:¬ 18<=S.tot:=dec_false c;refine⟨aM rfl,λt i=>?_⟩;exact r f t _ (aN i _) aC
variable (Zag:FB P w K mg base (CX0) 4 "fault_of" Zhl ZkC ["post","spoke"] (b5A CA))
include Zdd Zfu Zd Za Zbc Zas Zn ZaO Zax ZaL in
theorem Zog (J:GFm K mg "fault_of" Zk1 Zhl ZkC):type_of% Zag:=by
 refine fbK ["post","spoke"] J λH Q V l h=>?_;obtain⟨p,m,S,o,r,rfl,bd,q⟩:=h;refine⟨_,(aB (bI (bN Zd Zas ZaO.1 l.mo ZaO.2 .nil aJ (aR Za Zn (dv 0)) (aA (dv 1) aD))) (aF (aK (aL ZaL l.mo aJ (aA (dv 0) (aA aX (aA (cR Zbc Zax.1 l.mo rfl Zdd Zax.2 .nil aJ (aA (bA (v:= .int 6) rfl Zfu ⟨_,rfl⟩) (aA (c1M (dv 1)) aD))) aD))))))),?_⟩;obtain⟨L,W,X,Y,D,Z,us,b⟩:=id bd;obtain⟨M,N⟩:=id b.et;refine⟨L,_,.ref D,b.e,rfl,⟨M,_,N,rfl⟩,D,S.tot,r,rfl,b.et,λO d P=>?_⟩;obtain⟨k,f⟩:=Bd.count b d P;generalize ht:mvd S.tot (if r=true then 8 else 1)=n at k d;refine λx g E s R=>⟨x,g,_,_,rfl,aC,λF u=>⟨rfl,?_⟩⟩
 have a:Same O F:=by rw[u];exact bU E s
 have G:F x=some (.ins CA.flag g [("left",.int ((6:Nat):Int)),("may_blame",.bl (!r))]):=by rw[u];exact aC
 clear u;refine⟨p,m,{ S with tot:=n },o,"fault",x,rfl,k.move λy v e _=>a y v e,λc t w i A=>?_,λc t B T w i U I A=>?_⟩
 ·have d:¬ 18<=n:=c;refine q t w ⟨x,λy=>y=x,?_,?_,?_,?_,?_⟩
  ·unfold cD eQ;rw[ht,if_neg d];exact A
  ·unfold cD eQ;rw[ht,if_neg d];exact(k.move λy v e _=>i y v (a y v e)).now rfl rfl rfl rfl rfl rfl
  ·unfold cD eQ;rw[ht,if_neg d];exact jG (i _ _ G) ⟨g,i _ _ G⟩
  ·intro y C;have j:y=x:=C;rw[j];exact qM k f E
  ·exact λy v e z=>i y v (a y v (f y v e z))
 ·have d:18<=n:=c;refine q t w ⟨B,λy=>y=B,?_,?_,?_,?_,?_⟩
  ·unfold cD eQ;rw[ht,if_pos d];exact A
  ·unfold cD eQ;rw[ht,if_pos d];exact(k.move λy v e _=>i y v (a y v e)).now rfl rfl rfl rfl rfl rfl
  ·unfold cD eQ;rw[ht,if_pos d];exact jG I ⟨T,I⟩
  ·intro y C;have j:y=B:=C;rw[j];exact qM k f (a.none U)
  ·exact λy v e z=>i y v (a y v (f y v e z))
variable (ZdG:FB P w K mg base (CX0) 4 "refusal_of" Zf8 ZiG ["post","spoke"] (a6X CA))
include Zce Zd Za Zaz Zas Zn ZaO Z2 ZaL in
theorem ZmA (J:GFm K mg "refusal_of" Zi1 Zf8 ZiG):type_of% ZdG:=by
 refine fbK ["post","spoke"] J λH Q V l h=>?_;obtain⟨p,m,S,o,C,rfl,bd,q⟩:=h;refine⟨_,(aB (bI (bN Zd Zas ZaO.1 l.mo ZaO.2 .nil aJ (aR Za Zn (dv 0)) (aA (dv 1) aD))) (aF (aK (aL ZaL l.mo aJ (aA (dv 0) (aA aX (aA (cR Zaz Z2.1 l.mo rfl Zce Z2.2 .nil aJ (aA iJ aD)) aD))))))),?_⟩;obtain⟨L,W,X,Y,D,Z,us,b⟩:=id bd;obtain⟨M,N⟩:=id b.et;refine⟨L,_,.ref D,b.e,rfl,⟨M,_,N,rfl⟩,D,S.tot,C,rfl,b.et,λO d P=>?_⟩;obtain⟨k,f⟩:=Bd.count b d P;generalize ht:mvd S.tot (if C=true then 8 else 1)=n at k d;refine λx g E r R=>⟨x,g,_,rfl,aC,λF s=>⟨rfl,?_⟩⟩
 have a:Same O F:=by rw[s];exact bU E r
 have G:F x=some (.ins CA.settles g [("may_blame",.bl false)]):=by rw[s];exact aC
 clear s;refine⟨p,m,{ S with tot:=n },o,"refuses",x,rfl,k.move λy v e _=>a y v e,λc t u i w=>?_,λc t A T u i U I w=>?_⟩
 ·have d:¬ 18<=n:=c;refine q t u ⟨x,λy=>y=x,?_,?_,?_,?_,?_⟩
  ·unfold dU eQ;rw[ht,if_neg d];exact w
  ·unfold dU eQ;rw[ht,if_neg d];exact(k.move λy v e _=>i y v (a y v e)).now rfl rfl rfl rfl rfl rfl
  ·unfold dU eQ;rw[ht,if_neg d];exact jG (i _ _ G) ⟨g,i _ _ G⟩
  ·intro y B;have j:y=x:=B;rw[j];exact qM k f E
  ·exact λy v e z=>i y v (a y v (f y v e z))
 ·have d:18<=n:=c;refine q t u ⟨A,λy=>y=A,?_,?_,?_,?_,?_⟩
  ·unfold dU eQ;rw[ht,if_pos d];exact w
  ·unfold dU eQ;rw[ht,if_pos d];exact(k.move λy v e _=>i y v (a y v e)).now rfl rfl rfl rfl rfl rfl
  ·unfold dU eQ;rw[ht,if_pos d];exact jG I ⟨T,I⟩
  ·intro y B;have j:y=A:=B;rw[j];exact qM k f (a.none U)
  ·exact λy v e z=>i y v (a y v (f y v e z))
variable (ZeG:FB P w K mg base (CX0) 4 "blame_of" Zhj ZkA ["post"] (b5F CA))
include Zce Zd Za Zaz ZbS Zn Zcu Z2 ZaL in
theorem Zoe (I:GFm K mg "blame_of" ZkZ Zhj ZkA):type_of% ZeG:=by
 refine fbK ["post"] I λH Q U l h=>?_;obtain⟨p,m,S,o,rfl,bd,q⟩:=h;refine⟨_,(aB (bI (bZ Zd ZbS Zcu.1 l.mo Zcu.2 .nil aJ (aR Za Zn (dv 0)))) (aF (aK (aL ZaL l.mo aJ (aA (dv 0) (aA aX (aA (cR Zaz Z2.1 l.mo rfl Zce Z2.2 .nil aJ (aA iJ aD)) aD))))))),?_⟩;obtain⟨J,V,W,X,C,Y,Z,b⟩:=id bd;obtain⟨L,M⟩:=id b.et;refine⟨J,_,.ref C,b.e,rfl,⟨L,_,M,rfl⟩,C,S.tot,rfl,b.et,λN d O=>?_⟩;obtain⟨k,f⟩:=Bd.count b d O;generalize ht:mvd S.tot 8=n at k d;refine λx g D r P=>⟨x,g,_,rfl,aC,λE s=>⟨rfl,?_⟩⟩
 have a:Same N E:=by rw[s];exact bU D r
 have F:E x=some (.ins CA.settles g [("may_blame",.bl false)]):=by rw[s];exact aC
 clear s;refine⟨p,m,{ S with tot:=n },o,"",x,rfl,k.move λy v e _=>a y v e,λc t u i w=>?_,λc t A R u i T G w=>?_⟩
 ·have d:¬ 18<=n:=c;refine q t u ⟨x,λy=>y=x,?_,?_,?_,?_,?_⟩
  ·unfold iI eQ;rw[ht,if_neg d];exact w
  ·unfold iI eQ;rw[ht,if_neg d];exact(k.move λy v e _=>i y v (a y v e)).now rfl rfl rfl rfl rfl rfl
  ·unfold iI eQ;rw[ht,if_neg d];exact jG (i _ _ F) ⟨g,i _ _ F⟩
  ·intro y B;have j:y=x:=B;rw[j];exact qM k f D
  ·exact λy v e z=>i y v (a y v (f y v e z))
 ·have d:18<=n:=c;refine q t u ⟨A,λy=>y=A,?_,?_,?_,?_,?_⟩
  ·unfold iI eQ;rw[ht,if_pos d];exact w
  ·unfold iI eQ;rw[ht,if_pos d];exact(k.move λy v e _=>i y v (a y v e)).now rfl rfl rfl rfl rfl rfl
  ·unfold iI eQ;rw[ht,if_pos d];exact jG G ⟨R,G⟩
  ·intro y B;have j:y=A:=B;rw[j];exact qM k f (a.none T)
  ·exact λy v e z=>i y v (a y v (f y v e z))
variable (Zdi:FB P w K mg base (CX0) 1 "check_votes" ZfO ZhM ["votes"] (b4R ZcQ))
include ZeE ZQ Zd2 in
theorem ZlB (F0:GFm K mg "check_votes" Zh9 ZfO ZhM):type_of% Zdi:=by
 refine fbK ["votes"] F0 λH Q f g h=>?_;obtain⟨v,rfl,b,d⟩:=h;refine⟨_,(aF (bC (aY a8R (dv 0) (bA (v:= .ref Zlg) rfl ZeE rfl) rfl) (aF bQ) aQ)),?_⟩;refine⟨[1,3,5],.inr (Zd2.sq H),?_⟩
 conv=>whnf
 refine cF (λc=>?_) (λc=>?_)
 ·refine(d λz=>?_);have a:(!decide (v∈ [(1:Int),3,5]))=true:=c;rw[(vU v).mpr z]at a;cases a
 ·refine b ((vU v).mp ?_);lia
variable (Zc3:FB P w K mg base (CX0) 2 "check_choice" Zfh ZgY ["choice"] (b0I K ZcQ))
include ZQ ZaT in
theorem ZkR (F0:GFm K mg "check_choice" Zhd Zfh ZgY):type_of% Zc3:=by
 refine fbK ["choice"] F0 λH Q m g h=>?_;obtain⟨a,b,rfl,i,j,k,l⟩:=h;refine⟨_,(aF (bC (gH (cW (aL ZaT g.mo aJ (aA (dv 0) aD)))) (aF bQ) aQ)),?_⟩;refine⟨a,b,rfl,.inr i,j,λn f=>?_⟩
 conv=>whnf
 refine cF (λc=>?_) (λc=>?_)
 ·have d:¬ b.all byt=true:=λz=>by
   have:(!b.all byt)=true:=c;rw[z]at this;cases this
  exact(l d _ f)
 ·have d:b.all byt=true:=by
   cases e:b.all byt with
   |true=>rfl
   |false=>exact absurd (show (!b.all byt)=true by rw[e];rfl) c
  exact k d _ f
variable (Zdo:MB P w K mg base (CX0) 4 Zfo Zjk ["self","choice","votes"] (a2Q K CA ZcQ))
include ZeE ZQ Zi5 Zeg Za Zex Za7 Zn Zm ZaJ ZO Zab Zae ZcV Zay Zdi Zc3 in
theorem Zng (F0:Fun K "__init__" "Post.__init__" ZjJ Zfo Zjk):type_of% Zdo:=by
 refine mbK ["self","choice","votes"] F0 λH Q nd O h=>?_;obtain⟨a,c,d,P,R,v,rfl,e,S,q1,q2⟩:=h;refine⟨_,(aB (bI (aL Zc3 O.mo aJ (aA (dv 1) aD))) (aB (bI (aL Zdi O.mo aJ (aA (dv 2) aD))) (aB (bJ Za ZaJ (dv 0) (dv 1)) (aB (bJ Za Zab (dv 0) (dv 2)) (aB (bJ Za Zm (dv 0) (dJ aD)) (aB (bJ Za ZO (dv 0) (dJ aD)) (aB (bJ Za Zn (dv 0) (lN Zex ZcV.1 O.mo rfl Zi5 ZcV.2 .nil aJ)) (aF (bJ Za Zae (dv 0) (cR Za7 Zay.1 O.mo rfl Zeg Zay.2 .nil aJ (aA aG aD))))))))))),?_⟩;refine⟨d, [P,R],rfl,Vc S,(show 2<=500 by decide),λt w y=>?_,λT w y=>?_⟩;rotate_left
 ·refine q2 (λok=>T ?_) w λx u _ h=>y x u h;rw[XU,XU,List.all_nil,ok.1,ok.2.1];rfl
 rw[XU,XU,List.all_nil,Bool.and_true,XJ]at t;refine⟨v,rfl,λhv=>?_,λT=>q2 (λok=>T ok.2.2) w λx u _ h=>y x u h⟩;have ea:=y _ _ e;refine⟨c, [],ea,by decide,?_⟩;refine⟨c,_,aC,(show 1<1000 by decide),?_⟩;rw[lZ];have A:Mid H a (.ins CA.post c [("choice",.ref d),("votes",.int v)]) [] (upd w a (.ins CA.post c (gU "votes" (.int v) (gU "choice" (.ref d) [])))):=⟨aC,λx u B h=>by rw[aH B];exact y x u h,(λ_ z=>nomatch z),XD⟩
 generalize upd w a _=Ha at A;refine⟨aM rfl,λi D=>?_⟩;have q:=A.add D (aN D (.lst [])) aC;generalize upd Ha i (.lst [])=Hb at q;refine⟨c,_,q.ea,(show 2<1000 by decide),?_⟩;have E:Mid H a (.ins CA.post c [("choice",.ref d),("votes",.int v),("waiting",.ref i)]) _ (upd Hb a (.ins CA.post c (gU "waiting" (.ref i) [("choice",.ref d),("votes",.int v)]))):=q.set _;generalize upd Hb a _=Hb2 at E;refine⟨aM rfl,λj F=>?_⟩;have r:=E.add F (aN F (.lst [])) aC;generalize upd Hb2 j (.lst [])=Hc at r;refine⟨c,_,r.ea,(show 3<1000 by decide),?_⟩;have G:Mid H a (.ins CA.post c [("choice",.ref d),("votes",.int v),("waiting",.ref i),("handed_up",.ref j)]) _ (upd Hc a (.ins CA.post c (gU "handed_up" (.ref j) [("choice",.ref d),("votes",.int v),("waiting",.ref i)]))):=r.set _;generalize upd Hc a _=Hc2 at G;refine λk I J U a2=>⟨k,I,rfl,aC,rfl,?_⟩
 have s:=G.add J (bU (C:=CA.count) (fs:=ctF 0) J U) aC;generalize upd (upd (upd Hc2 I (.own k)) k (.ins CA.count I [])) k (.ins CA.count I (ctF 0))=Hd at s;refine⟨c,_,s.ea,(show 4<1000 by decide),?_⟩;have L:Mid H a (.ins CA.post c [("choice",.ref d),("votes",.int v),("waiting",.ref i),("handed_up",.ref j),("tally",.ref k)]) _ (upd Hd a (.ins CA.post c (gU "tally" (.ref k) [("choice",.ref d),("votes",.int v),("waiting",.ref i),("handed_up",.ref j)]))):=s.set _;generalize upd Hd a _=Hd2 at L;refine λo dn M V a1=>⟨o,dn,_,rfl,aC,λH2 W=>⟨rfl,?_⟩⟩
 have N:=L.add (Hy:=H2) M (by rw[W];exact bU M V) (by rw[W];exact aC);clear W;refine⟨c,_,N.ea,(show 5<1000 by decide),?_⟩;have b:=N.set (.ins CA.post c (pF d v.toNat i j k o));have ev:v=((v.toNat:Nat):Int):=by lia
 have eF:(HO.ins CA.post c (gU "now" (.ref o) [("choice",.ref d),("votes",.int v),("waiting",.ref i),("handed_up",.ref j),("tally",.ref k)]))= .ins CA.post c (pF d v.toNat i j k o):=by
  show HO.ins CA.post c [("choice",.ref d),("votes",.int v),("waiting",.ref i),("handed_up",.ref j),("tally",.ref k),("now",.ref o)]=_;rw[ev,Y2]
 rw[eF];generalize upd H2 a _=Hz at b;have f:=b.nw (o,_) (.head _);have l:=b.nw (k,_) (.tail _ (.head _));have m:=b.nw (j,_) (.tail _ (.tail _ (.head _)));have n:=b.nw (i,_) (.tail _ (.tail _ (.tail _ (.head _))));have g:=b.nd;have X:i≠j:=λz=>by
  rw[z]at g;exact absurd g (by simp)
 have Y:d≠a:=λz=>by rw[z,e]at S;cases S
 have a3:=iG.mp t.1;have a4:=iG.mp t.2;have Z:((P.toNat:Nat):Int)=P:=by lia
 have a0:((R.toNat:Nat):Int)=R:=by lia
 refine q1 ⟨t.1,t.2,hv⟩ Hz (λx=>(x=a\/x=i\/x=j\/x=k)\/x=o) ⟨o,λx=>x=a\/x=i\/x=j\/x=k,λx=>x=o,⟨c,d,i,j,k, [], [],b.ea,?_,n.2.2,.nil,m.2.2,.nil,⟨I,l.2.2⟩,.inl rfl,.inr (.inl rfl),.inr (.inr (.inl rfl)),.inr (.inr (.inr rfl)),X,?_⟩,jG f.2.2 ⟨dn,f.2.2⟩,?_,⟨?_,(λ_ z=>nomatch z),trivial⟩,λx B=>B,?_⟩ ?_ ?_
 ·show Hz d=some (.tup [.int ((P.toNat:Nat):Int),.int ((R.toNat:Nat):Int)]);rw[Z,a0];exact b.kp d _ Y S
 ·rintro x (rfl | rfl | rfl | rfl)
  ·rw[b.ea];simp
  ·rw[n.2.2];simp
  ·rw[m.2.2];simp
  ·rw[l.2.2];simp
 ·rintro x B hy;have p:x=o:=hy;rcases B with rfl | rfl | rfl | rfl
  ·exact f.2.1 p.symm
  ·rw[p]at g;exact absurd g (by simp)
  ·rw[p]at g;exact absurd g (by simp)
  ·rw[p]at g;exact absurd g (by simp)
 ·show v.toNat<=5;lia
 ·rintro x ((rfl | rfl | rfl | rfl) | rfl)
  ·rw[b.ea];simp
  ·rw[n.2.2];simp
  ·rw[m.2.2];simp
  ·rw[l.2.2];simp
  ·rw[f.2.2];simp
 ·rintro x ((rfl | rfl | rfl | rfl) | rfl)
  ·exact .inl rfl
  ·exact .inr n.1
  ·exact .inr m.1
  ·exact .inr l.1
  ·exact .inr f.1
 ·exact b.kp
variable (Zbh:MB P w K mg base (CX0) 3 Zfk Zjg ["self","post"] (dH CA 0))
include Zey ZS Za Zbl Zbr Zaa ZbO Zbv in
theorem Znc (F0:Fun K "says" "Free.says" ZjF Zfk Zjg):type_of% Zbh:=by
 refine mbK ["self","post"] F0 λH Q D j h=>?_;obtain⟨E,p,d,S,o,F,rfl,tg,bd,B,wf,q⟩:=h;refine⟨_,(aB (bC (gH (cW (bZ Za Zbl Zbv.1 j.mo Zbv.2 .nil aJ (dv 1)))) (aF (aK aG)) aQ) (aF (aK (cH (eE (PW.pt (lH (cW (bZ Za Zbr ZbO.1 j.mo ZbO.2 .nil aJ (dv 1))) (jV (aY uR (aR ZS Zaa (dv 0)) (bA (v:= .int 8) rfl Zey ⟨_,rfl⟩) (aU _))))) aG aG))))),?_⟩;obtain⟨s,G,al⟩:=id B;cases en:S.now with
 | free k =>
  rw[en]at s;obtain⟨C,e⟩:=s;obtain⟨t,I,J,L,M,N,O,b⟩:=id bd;have a:=a0H en;refine⟨⟨t,_,b.e,rfl⟩,p,d,S,o,rfl,bd,?_⟩
  conv=>whnf
  refine cF (λc=>?_) (λc=>?_)
  ·have g:S.wt= []:=by
    have:(!decide (0<(S.wt.length:Int)))=true:=c;cases ew:S.wt with
    |nil=>rfl
    | cons f r=>
     rw[ew,Ym (by rw[Yk];lia)]at this;cases this
   rw[if_pos g]at a;rw[a]at q;exact q
  have g:¬ S.wt= []:=λz=>c (by
   show (!decide (0<(S.wt.length:Int)))=true
   rw[z];rfl)
  rw[if_neg g]at a;refine⟨λx u=>x= .int (bO S)/\u=H,?_,λx u z=>by rw[z.1,z.2];exact q⟩;refine⟨⟨t,_,b.e,rfl⟩,p,d,S,o,rfl,bd,?_⟩
  conv=>whnf
  refine cF (λy=>?_) (λy=>?_)
  ·have i:12<=S.tot:=dec_true y;refine⟨C,_,_,e,rfl,?_⟩
   conv=>whnf
   refine cF (λz=>?_) (λz=>?_)
   ·have A:((k:Nat):Int)<8:=dec_true z;rw[a,if_pos ⟨i,by lia⟩];exact⟨rfl,rfl⟩
   ·have A:¬ ((k:Nat):Int)<8:=dec_false z;rw[a,if_neg λw=>A (by lia)];exact⟨rfl,rfl⟩
  ·have i:¬ 12<=S.tot:=dec_false y;refine yJ ⟨?_,rfl⟩;rw[a,if_neg λw=>i w.1]
 |speaks n ds k=>rw[en]at tg;cases tg
 |reads h=>rw[en]at tg;cases tg
 |tlS v c=>rw[en]at tg;cases tg
 |tlR n ds v c=>rw[en]at tg;cases tg
 |flag l m=>rw[en]at tg;cases tg
 |settles m=>rw[en]at tg;cases tg
 |rests l=>rw[en]at tg;cases tg
 |off  =>rw[en]at tg;cases tg
variable (ZcC:MB P w K mg base (CX0) 1 Zeu ZhF ["self","post"] (dH CA 1))
include Zj ZM ZF in
theorem Zlu (F0:Fun K "says" "Speaks.says" Zh2 Zeu ZhF):type_of% ZcC:=by
 refine mbK ["self","post"] F0 λH Q o s h=>?_;obtain⟨t,p,i,S,u,w,rfl,tg,bd,a,wf,q⟩:=h;refine⟨_,(aF (aK (bG cJ (aR Zj ZM (dv 0)) (aR Zj ZF (dv 0)) (λ_ _=>rfl)))),?_⟩;obtain⟨b,x,al⟩:=id a;cases en:S.now with
 |free k=>rw[en]at tg;cases tg
 | speaks n ds k=>
  rw[en]at b;obtain⟨d,y,r,a,z,A,e,j,_⟩:=b;have f:=wf.now;rw[en]at f;obtain⟨_,_,g,_⟩:=f;refine⟨d,_,_,e,rfl,d,_,_,e,rfl,_,_,Vb j,zG g,?_⟩;have:bO S=(wr n ds)[k]:=by
   unfold bO;rw[en];show (wr n ds).getD k 0=_;rw[Yj,Yd g];rfl
  rw[this]at q;exact q
 |reads h=>rw[en]at tg;cases tg
 |tlS v c=>rw[en]at tg;cases tg
 |tlR n ds v c=>rw[en]at tg;cases tg
 |flag l m=>rw[en]at tg;cases tg
 |settles m=>rw[en]at tg;cases tg
 |rests l=>rw[en]at tg;cases tg
 |off  =>rw[en]at tg;cases tg
variable (ZcY:MB P w K mg base (CX0) 1 ZeS Zix ["self","post"] (dH CA 2))
def Zmr (F0:Fun K "says" "Reads.says" ZiS ZeS Zix):type_of% ZcY:=by
 refine mbK ["self","post"] F0 λH Q e f h=>?_;obtain⟨g,p,a,S,i,j,rfl,tg,bd,b,wf,q⟩:=h;refine⟨_,(aF (aK aG)),?_⟩;obtain⟨d,o,al⟩:=id b;cases en:S.now with
 |free k=>rw[en]at tg;cases tg
 |speaks n ds k=>rw[en]at tg;cases tg
 | reads h=>
  rw[en]at d;have:bO S=1:=by unfold bO;rw[en]
  rw[this]at q;exact q
 |tlS v c=>rw[en]at tg;cases tg
 |tlR n ds v c=>rw[en]at tg;cases tg
 |flag l m=>rw[en]at tg;cases tg
 |settles m=>rw[en]at tg;cases tg
 |rests l=>rw[en]at tg;cases tg
 |off  =>rw[en]at tg;cases tg
variable (Zcw:MB P w K mg base (CX0) 2 Zel Zhw ["self","post"] (dH CA 3))
include Zh Zg Zs Zbf Za9 ZD Zdt in
theorem Zll (F0:Fun K "says" "InTail.says" ZhT Zel Zhw):type_of% Zcw:=by
 refine mbK ["self","post"] F0 λH Q w s h=>?_;obtain⟨x,p,t,S,y,z,rfl,tg,bd,u,wf,q⟩:=h;refine⟨_,(aF (aK (a7S Zdt.1 s.mo Zdt.2 .nil aJ (aR Zs ZD (dv 0))))),?_⟩;obtain⟨g,A,al⟩:=id u;cases en:S.now with
 |free k=>rw[en]at tg;cases tg
 |speaks n ds k=>rw[en]at tg;cases tg
 |reads h=>rw[en]at tg;cases tg
 | tlS v c=>
  rw[en]at g;obtain⟨i,a,e,b,_⟩:=g;obtain⟨C,d,f,j⟩:=id b;have o:=mW Zh Zg f;have r:=vD Zbf Za9 f;refine⟨i,_,.ref a,e,rfl,⟨C,d,_,j,o.cls,r,rfl⟩,a,S.vt,true,v,c,rfl,b,?_⟩;have:bO S=fM true v:=by unfold bO;rw[en]
  rw[this]at q;exact q
 | tlR n ds v c=>
  rw[en]at g;obtain⟨i,a,B,D,e,b,_⟩:=g;obtain⟨C,d,f,j⟩:=id b;have o:=mW Zh Zg f;have r:=vD Zbf Za9 f;refine⟨i,_,.ref a,e,rfl,⟨C,d,_,j,o.cls,r,rfl⟩,a,S.vt,false,v,c,rfl,b,?_⟩;have:bO S=fM false v:=by unfold bO;rw[en]
  rw[this]at q;exact q
 |flag l m=>rw[en]at tg;cases tg
 |settles m=>rw[en]at tg;cases tg
 |rests l=>rw[en]at tg;cases tg
 |off  =>rw[en]at tg;cases tg
variable (ZbM:MB P w K mg base (CX0) 1 Zdw Zgp ["self","post"] (dH CA 4))
def Zkc (F0:Fun K "says" "Flagging.says" Zgx Zdw Zgp):type_of% ZbM:=by
 refine mbK ["self","post"] F0 λH Q e f h=>?_;obtain⟨g,p,a,S,i,j,rfl,tg,bd,b,wf,q⟩:=h;refine⟨_,(aF (aK aG)),?_⟩;obtain⟨d,o,al⟩:=id b;cases en:S.now with
 |free k=>rw[en]at tg;cases tg
 |speaks n ds k=>rw[en]at tg;cases tg
 |reads h=>rw[en]at tg;cases tg
 |tlS v c=>rw[en]at tg;cases tg
 |tlR n ds v c=>rw[en]at tg;cases tg
 | flag l m=>
  rw[en]at d;have:bO S=0:=by unfold bO;rw[en]
  rw[this]at q;exact q
 |settles m=>rw[en]at tg;cases tg
 |rests l=>rw[en]at tg;cases tg
 |off  =>rw[en]at tg;cases tg
variable (Zci:MB P w K mg base (CX0) 1 ZdY ZgU ["self","post"] (dH CA 5))
def ZkN (F0:Fun K "says" "Settles.says" Zg9 ZdY ZgU):type_of% Zci:=by
 refine mbK ["self","post"] F0 λH Q e f h=>?_;obtain⟨g,p,a,S,i,j,rfl,tg,bd,b,wf,q⟩:=h;refine⟨_,(aF (aK aG)),?_⟩;obtain⟨d,o,al⟩:=id b;cases en:S.now with
 |free k=>rw[en]at tg;cases tg
 |speaks n ds k=>rw[en]at tg;cases tg
 |reads h=>rw[en]at tg;cases tg
 |tlS v c=>rw[en]at tg;cases tg
 |tlR n ds v c=>rw[en]at tg;cases tg
 |flag l m=>rw[en]at tg;cases tg
 | settles m=>
  rw[en]at d;have:bO S=1:=by unfold bO;rw[en]
  rw[this]at q;exact q
 |rests l=>rw[en]at tg;cases tg
 |off  =>rw[en]at tg;cases tg
variable (Zc0:MB P w K mg base (CX0) 1 ZeV ZiA ["self","post"] (dH CA 6))
def Zmu (F0:Fun K "says" "Rests.says" ZiV ZeV ZiA):type_of% Zc0:=by
 refine mbK ["self","post"] F0 λH Q e f h=>?_;obtain⟨g,p,a,S,i,j,rfl,tg,bd,b,wf,q⟩:=h;refine⟨_,(aF (aK aG)),?_⟩;obtain⟨d,o,al⟩:=id b;cases en:S.now with
 |free k=>rw[en]at tg;cases tg
 |speaks n ds k=>rw[en]at tg;cases tg
 |reads h=>rw[en]at tg;cases tg
 |tlS v c=>rw[en]at tg;cases tg
 |tlR n ds v c=>rw[en]at tg;cases tg
 |flag l m=>rw[en]at tg;cases tg
 |settles m=>rw[en]at tg;cases tg
 | rests l=>
  rw[en]at d;have:bO S=1:=by unfold bO;rw[en]
  rw[this]at q;exact q
 |off  =>rw[en]at tg;cases tg
variable (ZdN:MB P w K mg base (CX0) 1 ZfU Zku ["self","post"] (dH CA 7))
def Zn8 (F0:Fun K "says" "Off.says" ZkT ZfU Zku):type_of% ZdN:=by
 refine mbK ["self","post"] F0 λH Q e f h=>?_;obtain⟨g,p,a,S,i,j,rfl,tg,bd,b,wf,q⟩:=h;refine⟨_,(aF (aK aG)),?_⟩;obtain⟨d,o,al⟩:=id b;cases en:S.now with
 |free k=>rw[en]at tg;cases tg
 |speaks n ds k=>rw[en]at tg;cases tg
 |reads h=>rw[en]at tg;cases tg
 |tlS v c=>rw[en]at tg;cases tg
 |tlR n ds v c=>rw[en]at tg;cases tg
 |flag l m=>rw[en]at tg;cases tg
 |settles m=>rw[en]at tg;cases tg
 |rests l=>rw[en]at tg;cases tg
 | off  =>
  rw[en]at d;have:bO S=1:=by unfold bO;rw[en]
  rw[this]at q;exact q
variable (ZdO:MB P w K mg base (CX0) 1 ZfV Zkv ["self","bit","post"] (dG CA 7))
def Zn9 (F0:Fun K "step" "Off.step" ZkU ZfV Zkv):type_of% ZdO:=by
 refine mbK ["self","bit","post"] F0 λH Q r s h=>?_;obtain⟨d,p,f,S,u,w,y,rfl,tg,bd,a,g,wf,z,A,q⟩:=h;refine⟨_,(aF (aK (cM (aA aX (aA (dv 0) aD))))),?_⟩;obtain⟨i,B,al⟩:=id a;cases en:S.now with
 |free k=>rw[en]at tg;cases tg
 |speaks n ds k=>rw[en]at tg;cases tg
 |reads h=>rw[en]at tg;cases tg
 |tlS v c=>rw[en]at tg;cases tg
 |tlR n ds v c=>rw[en]at tg;cases tg
 |flag l m=>rw[en]at tg;cases tg
 |settles m=>rw[en]at tg;cases tg
 |rests l=>rw[en]at tg;cases tg
 | off  =>
  rw[en]at i;rw[a1G en]at q;refine⟨aM rfl,λt j=>?_⟩;have b:=aN j (.tup [.str "",.ref d]);exact q t _ (Stp.go bd g dD.refl b aC ⟨rfl,rfl,rfl,rfl,rfl,rfl⟩ (a.move λx v e _=>b x v e) λx o=> .inl o)
variable (ZbN:MB P w K mg base (CX0) 3 Zdx Zgq ["self","bit","post"] (dG CA 4))
include Zdd Zce Zu Zbc Zaz Zah ZT Zax Z2 in
theorem Zkd (F0:Fun K "step" "Flagging.step" Zgy Zdx Zgq):type_of% ZbN:=by
 refine mbK ["self","bit","post"] F0 λH Q G w h=>?_;obtain⟨I,p,B,S,J,L,M,rfl,tg,bd,C,y,wf,N,O,q⟩:=h;refine⟨_,(aB (bC (aY fH (aR Zu Zah (dv 0)) aG (aU _)) (aF (aK (cM (aA aX (aA (cR Zaz Z2.1 w.mo rfl Zce Z2.2 .nil aJ (aA (aR Zu ZT (dv 0)) aD)) aD))))) aQ) (aF (aK (cM (aA aX (aA (cR Zbc Zax.1 w.mo rfl Zdd Zax.2 .nil aJ (aA (aP mR (aR Zu Zah (dv 0)) aG) (aA (aR Zu ZT (dv 0)) aD))) aD)))))),?_⟩;obtain⟨z,P,al⟩:=id C;cases en:S.now with
 |free k=>rw[en]at tg;cases tg
 |speaks n ds k=>rw[en]at tg;cases tg
 |reads h=>rw[en]at tg;cases tg
 |tlS v c=>rw[en]at tg;cases tg
 |tlR n ds v c=>rw[en]at tg;cases tg
 | flag l m=>
  rw[en]at z;obtain⟨o,e⟩:=z;have A:=wf.now;rw[en]at A;have D:1<=l:=A;rw[oF en]at q;refine⟨o,_,_,e,rfl,?_⟩
  conv=>whnf
  refine cF (λc=>?_) (λc=>?_)
  ·have E:((l:Nat):Int)=1:=dec_true c;rw[if_pos (by lia)]at q;refine⟨o,_,_,e,rfl,?_⟩;refine λx a f b r=>⟨x,a,_,rfl,aC,λg i=>⟨rfl,aM rfl,λt s=>?_⟩⟩
   have u:Same H g:=by rw[i];exact bU f b
   have j:g x=some (.ins CA.settles a [("may_blame",.bl m)]):=by rw[i];exact aC
   have d:=aN s (.tup [.str "",.ref x]);exact q t _ (nU bd y dD.refl (u.trans d) aC ⟨rfl,rfl,rfl,rfl,rfl,rfl⟩ f (d _ _ j) ⟨a,d _ _ j⟩)
  ·have E:¬ ((l:Nat):Int)=1:=dec_false c;rw[if_neg (by lia)]at q;refine⟨o,_,_,e,rfl,o,_,_,e,rfl,?_⟩;refine λx a f b r=>⟨x,a,_,_,rfl,aC,λg i=>⟨rfl,aM rfl,λt s=>?_⟩⟩
   have u:Same H g:=by rw[i];exact bU f b
   have F:((l:Nat):Int)-1=((l-1:Nat):Int):=by lia
   have j:g x=some (.ins CA.flag a [("left",.int ((l-1:Nat):Int)),("may_blame",.bl m)]):=by rw[i,<-F];exact aC
   have d:=aN s (.tup [.str "",.ref x]);exact q t _ (nU bd y dD.refl (u.trans d) aC ⟨rfl,rfl,rfl,rfl,rfl,rfl⟩ f (d _ _ j) ⟨a,d _ _ j⟩)
 |settles m=>rw[en]at tg;cases tg
 |rests l=>rw[en]at tg;cases tg
 |off  =>rw[en]at tg;cases tg
variable (Zcj:MB P w K mg base (CX0) 5 ZdZ ZgV ["self","bit","post"] (dG CA 5))
include Zc4 ZbL ZX ZaG Z8 Z5 ZeG in
theorem ZkO (F0:Fun K "step" "Settles.step" Zha ZdZ ZgV):type_of% Zcj:=by
 refine mbK ["self","bit","post"] F0 λH Q J o h=>?_;obtain⟨C,p,d,S,D,L,r,rfl,tg,bd,s,u,wf,M,N,q⟩:=h;refine⟨_,(aB (bC (aY fH (dv 1) aG (aU _)) (aF (aK (cM (aA aX (aA (cR ZaG Z5.1 o.mo rfl Zc4 Z5.2 .nil aJ (aA (bA (v:= .int 3) rfl ZbL ⟨_,rfl⟩) aD)) aD))))) aQ) (aB (bC (cW (aR ZX Z8 (dv 0))) (aF (aK (aL ZeG o.mo aJ (aA (dv 2) aD)))) aQ) (aF (aK (cM (aA aX (aA (dv 0) aD))))))),?_⟩;obtain⟨w,O,al⟩:=id s;cases en:S.now with
 |free k=>rw[en]at tg;cases tg
 |speaks n ds k=>rw[en]at tg;cases tg
 |reads h=>rw[en]at tg;cases tg
 |tlS v c=>rw[en]at tg;cases tg
 |tlR n ds v c=>rw[en]at tg;cases tg
 |flag l m=>rw[en]at tg;cases tg
 | settles m=>
  rw[en]at w;obtain⟨E,e⟩:=w;rw[jW en]at q
  conv=>whnf
  refine cF (λc=>?_) (λc=>?_)
  ·have f:r=1:=dec_true c;rw[if_pos f]at q;refine λx a b g F=>⟨x,a,_,rfl,aC,λy z=>⟨rfl,aM rfl,λt i=>?_⟩⟩
   have G:Same H y:=by rw[z];exact bU b g
   have A:y x=some (.ins CA.rests a [("left",.int ((3:Nat):Int))]):=by rw[z];exact aC
   have j:=aN i (.tup [.str "",.ref x]);exact q t _ (nU bd u dD.refl (G.trans j) aC ⟨rfl,rfl,rfl,rfl,rfl,rfl⟩ b (j _ _ A) ⟨a,j _ _ A⟩)
  have f:¬ r=1:=dec_false c;rw[if_neg f]at q;refine⟨E,_,_,e,rfl,?_⟩;cases m with
  | true=>
   rw[if_pos rfl]at q;exact⟨p,d,S,D,rfl,bd,λt I h=>q t I (h.stp dD.refl bd)⟩
  | false=>
   rw[if_neg (by decide)]at q;refine⟨aM rfl,λt i=>?_⟩;have B:=aN i (.tup [.str "",.ref C]);exact q t _ (Stp.go bd u dD.refl B aC ⟨rfl,rfl,rfl,rfl,rfl,rfl⟩ (s.move λx v e _=>B x v e) λx b=> .inl b)
 |rests l=>rw[en]at tg;cases tg
 |off  =>rw[en]at tg;cases tg
variable (Zc1:MB P w K mg base (CX0) 5 ZeW ZiB ["self","bit","post"] (dG CA 6))
include Zeg Zc4 Z3 Za7 ZaG ZaB Zay Z5 Zag in
theorem Zmv (F0:Fun K "step" "Rests.step" ZiW ZeW ZiB):type_of% Zc1:=by
 refine mbK ["self","bit","post"] F0 λH Q N o h=>?_;obtain⟨O,p,r,S,E,P,w,rfl,tg,bd,F,y,wf,R,T,q⟩:=h;refine⟨_,(aB (bC (aY fH (dv 1) aG (aU _)) (aF (aK (aL Zag o.mo aJ (aA (dv 2) (aA iJ aD))))) aQ) (aF (aK (cM (aA aX (aA (cH (eE (aY fH (aR Z3 ZaB (dv 0)) aG (aU _)) (cR Za7 Zay.1 o.mo rfl Zeg Zay.2 .nil aJ (aA aG aD)) (cR ZaG Z5.1 o.mo rfl Zc4 Z5.2 .nil aJ (aA (aP mR (aR Z3 ZaB (dv 0)) aG) aD)))) aD)))))),?_⟩;obtain⟨A,U,al⟩:=id F;cases en:S.now with
 |free k=>rw[en]at tg;cases tg
 |speaks n ds k=>rw[en]at tg;cases tg
 |reads h=>rw[en]at tg;cases tg
 |tlS v c=>rw[en]at tg;cases tg
 |tlR n ds v c=>rw[en]at tg;cases tg
 |flag l m=>rw[en]at tg;cases tg
 |settles m=>rw[en]at tg;cases tg
 | rests l=>
  rw[en]at A;obtain⟨B,e⟩:=A;have C:=wf.now;rw[en]at C;have G:1<=l:=C;rw[iH en]at q
  conv=>whnf
  refine cF (λc=>?_) (λc=>?_)
  ·have s:w=0:=dec_true c;rw[if_pos s]at q;exact⟨p,r,S,E,false,rfl,bd,λt I h=>q t I (h.stp dD.refl bd)⟩
  have s:¬ w=0:=dec_false c;rw[if_neg s]at q;refine⟨λv f=>∃x a,v= .ref x/\H x=none/\Same H f/\(if l=1 then f x=some (.ins CA.free a [("since",.int ((0:Nat):Int))]) else f x=some (.ins CA.rests a [("left",.int ((l-1:Nat):Int))])),?_,?_⟩
  ·refine⟨B,_,_,e,rfl,?_⟩
   conv=>whnf
   refine cF (λz=>?_) (λz=>?_)
   ·have J:((l:Nat):Int)=1:=dec_true z;refine λx a b d u=>⟨x,a,_,rfl,aC,λf j=>⟨rfl,x,a,rfl,b,by rw[j];exact bU b d,?_⟩⟩
    rw[if_pos (by lia),j];exact aC
   ·have J:¬ ((l:Nat):Int)=1:=dec_false z;have L:((l:Nat):Int)-1=((l-1:Nat):Int):=by lia
    refine⟨B,_,_,e,rfl,?_⟩;refine λx a b d u=>⟨x,a,_,rfl,aC,λf j=>⟨rfl,x,a,rfl,b,by rw[j];exact bU b d,?_⟩⟩
    rw[if_neg (by lia),j,<-L];exact aC
  rintro v f ⟨x,a,rfl,b,D,g⟩;refine⟨aM rfl,λt M=>?_⟩;have i:=aN M (.tup [.str "",.ref x]);by_cases z:l=1
  ·rw[if_pos z]at g q;exact q t _ (nU bd y dD.refl (D.trans i) aC ⟨rfl,rfl,rfl,rfl,rfl,rfl⟩ b (i _ _ g) ⟨a,i _ _ g⟩)
  ·rw[if_neg z]at g q;exact q t _ (nU bd y dD.refl (D.trans i) aC ⟨rfl,rfl,rfl,rfl,rfl,rfl⟩ b (i _ _ g) ⟨a,i _ _ g⟩)
 |off  =>rw[en]at tg;cases tg
variable (Zdl:MB P w K mg base (CX0) 8 Zfl Zjh ["self","bit","post"] (dG CA 0))
include ZaN ZR Zx Zeg ZeC Zdu ZS Za Za7 Zbz ZaV ZaI Za2 Zaa Zai Zay ZaR Zak ZaY Zag Zbh in
theorem Znd (F0:Fun K "step" "Free.step" ZjG Zfl Zjh):type_of% Zdl:=by
 refine mbK ["self","bit","post","begins"] F0 λH Q nd u h=>?_;obtain⟨nw,p,C,S,X,os,R,rfl,tg,bd,st,Y,wf,hb,hu,q⟩:=h;refine⟨_,(aB (aW 3 nd (eN fH (bN ZS ZaI Zbh.1 u.mo Zbh.2 .nil aJ (dv 0) (aA (dv 2) aD)) aG (aU _))) (aB (bC (PW.pt (lH (cW (dv 3)) (jV (aY fH (dv 1) aG (aU _))))) (aF (aK (cM (aA aX (aA (cR Zbz ZaR.1 u.mo rfl ZeC ZaR.2 .nil aJ (aA (bZ Za Za2 ZaY.1 u.mo ZaY.2 .nil aJ (dv 2)) (aA (a0R Zai.1 u.mo rfl Zai.2.2.2 Zai.2.2.1 Zai.2.1 .nil aJ) (aA aG aD)))) aD))))) aQ) (aB (bC (cW (dv 3)) (aF (aK (aL Zag u.mo aJ (aA (dv 2) (aA iJ aD))))) aQ) (aB (bC (aY fH (dv 1) aG (aU _)) (aF (aK (cM (aA aX (aA (cR ZaV Zak.1 u.mo rfl Zdu Zak.2 .nil aJ (aA (a0R Zai.1 u.mo rfl Zai.2.2.2 Zai.2.2.1 Zai.2.1 .nil aJ) (aA aG aD))) aD))))) aQ) (aF (aK (cM (aA aX (aA (cR Za7 Zay.1 u.mo rfl Zeg Zay.2 .nil aJ (aA (aP cG (aR ZS Zaa (dv 0)) aG) aD)) aD))))))))),?_⟩;obtain⟨sa,on,al⟩:=id st;cases en:S.now with
 | free k =>
  rw[en]at sa;obtain⟨dx,e⟩:=sa;obtain⟨dp,ch,wl,ul,ct,ws,us,b⟩:=id bd;rw[dR en]at q;refine⟨⟨dx,_,e,rfl⟩,nw,p,C,S,X,os,rfl,tg,bd,st,wf,?_⟩
  conv=>whnf
  refine cF (λc=>?_) (λc=>?_)
  ·have J:bO S=0:=dec_true c;rw[if_pos J]at q
   conv=>whnf
   refine cF (λz=>?_) (λz=>?_)
   ·have D:R=0:=dec_true z;rw[if_pos D]at q;cases ewt:S.wt with
    | nil=>
     rw[a0H en,if_pos ewt]at J;cases J
    | cons f rr=>
     rw[ewt]at q;have hf:=wf.wt f (by rw[ewt];exact Yt);refine⟨⟨dp,_,b.e,rfl⟩,p,C,S,X,f,rr,rfl,bd,ewt,hf,λT H1 Z L U=>?_⟩;refine⟨rfl,λr i E I V o s n1 n2 W=>?_⟩;refine λx g A j M=>⟨x,g,_,_,_,rfl,aC,λN B=>⟨rfl,aM rfl,λt O=>?_⟩⟩
     have F:Same I N:=by rw[B];exact bU A j
     have P:N x=some (.ins CA.speaks g [("wire",.ref T),("reader",.ref r),("many",.int ((1:Nat):Int))]):=by rw[B];exact aC
     have G:=aN O (.tup [.str "begins",.ref x]);have a0:T≠E:=λy=>by rw[y,W]at U;cases U
     have a:=F.trans G;have gs:=L.trans (s.trans a);refine q t _ (Stp.go (os':=λy=>y=x\/y=T\/y=r\/y=i\/y=E) bd Y dD.refl gs aC ⟨rfl,rfl,rfl,ewt.symm,rfl,rfl⟩ ⟨⟨g,T,r,i,E,V,G _ _ P,a _ _ (s _ _ U),?_,a0,.inr (.inl rfl),.inr (.inr (.inl rfl)),.inr (.inr (.inr (.inl rfl))),.inr (.inr (.inr (.inr rfl)))⟩,.inl rfl,?_⟩ ?_)
     ·show kE _ _ _ r i E ((wr f.1 f.2).take 1) V;rw[qC];exact o.same a
     ·rintro y (rfl | rfl | rfl | rfl | rfl)
      ·rw[G _ _ P];simp
      ·rw[a _ _ (s _ _ U)];simp
      ·obtain⟨d,w⟩:=o.rd;rw[a _ _ w];simp
      ·obtain⟨d,w⟩:=o.sk;rw[a _ _ w];simp
      ·rw[a _ _ o.kp];simp
     ·rintro y (rfl | rfl | rfl | rfl | rfl)
      ·exact .inr (L.none (s.none A))
      ·exact .inr Z
      ·exact .inr (L.none n1)
      ·exact .inr (L.none n2)
      ·exact .inr (L.none W)
   ·have D:¬ R=0:=dec_false z;rw[if_neg D]at q
    conv=>whnf
    refine cF (λ_=>?_) (λc'=>absurd c c');exact⟨p,C,S,X,true,rfl,bd,λt H' h=>q t H' (h.stp dD.refl bd)⟩
  have J:¬ bO S=0:=dec_false c;rw[if_neg J]at q;refine yJ ?_
  conv=>whnf
  refine cF (λc'=>absurd c' c) (λ_=>?_)
  conv=>whnf
  refine cF (λz=>?_) (λz=>?_)
  ·have D:R=0:=dec_true z;rw[if_pos D]at q;refine⟨rfl,λr i E I V o s n1 n2 W=>?_⟩;refine λx g A j M=>⟨x,g,_,_,rfl,aC,λN B=>⟨rfl,aM rfl,λt O=>?_⟩⟩
   have F:Same I N:=by rw[B];exact bU A j
   have P:N x=some (.ins CA.reads g [("reader",.ref r),("many",.int ((1:Nat):Int))]):=by rw[B];exact aC
   have G:=aN O (.tup [.str "",.ref x]);have a:=F.trans G;refine q t _ (Stp.go (os':=λy=>y=x\/y=r\/y=i\/y=E) bd Y dD.refl (s.trans a) aC ⟨rfl,rfl,rfl,rfl,rfl,rfl⟩ ⟨⟨g,r,i,E,V,G _ _ P,o.same a,.inr (.inl rfl),.inr (.inr (.inl rfl)),.inr (.inr (.inr rfl))⟩,.inl rfl,?_⟩ ?_)
   ·rintro y (rfl | rfl | rfl | rfl)
    ·rw[G _ _ P];simp
    ·obtain⟨d,w⟩:=o.rd;rw[a _ _ w];simp
    ·obtain⟨d,w⟩:=o.sk;rw[a _ _ w];simp
    ·rw[a _ _ o.kp];simp
   ·rintro y (rfl | rfl | rfl | rfl)
    ·exact .inr (s.none A)
    ·exact .inr n1
    ·exact .inr n2
    ·exact .inr W
  ·have D:¬ R=0:=dec_false z;rw[if_neg D]at q;refine⟨dx,_,_,e,rfl,?_⟩;refine λx g A j M=>⟨x,g,_,rfl,aC,λI B=>⟨rfl,aM rfl,λt O=>?_⟩⟩
   have s:Same H I:=by rw[B];exact bU A j
   have e2:I x=some (.ins CA.free g [("since",.int ((k+1:Nat):Int))]):=by rw[B];exact aC
   have F:=aN O (.tup [.str "",.ref x]);exact q t _ (nU bd Y dD.refl (s.trans F) aC ⟨rfl,rfl,rfl,rfl,rfl,rfl⟩ A (F _ _ e2) ⟨g,F _ _ e2⟩)
 |speaks n ds k=>rw[en]at tg;cases tg
 |reads h=>rw[en]at tg;cases tg
 |tlS v c=>rw[en]at tg;cases tg
 |tlR n ds v c=>rw[en]at tg;cases tg
 |flag l m=>rw[en]at tg;cases tg
 |settles m=>rw[en]at tg;cases tg
 |rests l=>rw[en]at tg;cases tg
 |off  =>rw[en]at tg;cases tg
variable (ZcZ:MB P w K mg base (CX0) 7 ZeT Ziy ["self","bit","post"] (dG CA 2))
include ZR Zx ZdM Zdu ZeB Zf0 Ze ZH Za ZaV Zby Zdc ZU ZbD Z7 ZaM Zab Zac Zcg ZbP Zak ZaP Zag in
theorem Zms (F0:Fun K "step" "Reads.step" ZiT ZeT Ziy):type_of% ZcZ:=by
 refine mbK ["self","bit","post","answer"] F0 λH Q nd E h=>?_;obtain⟨W,p,X,S,ob,os,F,rfl,tg,bd,st,Y,wf,hb,hu,q⟩:=h;refine⟨_,(aB (aW 3 nd (bN Ze ZU Zac.1 E.mo Zac.2 .nil aJ (aR ZH Z7 (dv 0)) (aA (dv 1) aD))) (aB (bC (aY fH (dv 3) aX (aU _)) (aF (aK (cM (aA aX (aA (cR ZaV Zak.1 E.mo rfl Zdu Zak.2 .nil aJ (aA (aR ZH Z7 (dv 0)) (aA (aP cG (aR ZH ZaM (dv 0)) aG) aD))) aD))))) aQ) (aB (bC (aY fH (dv 3) aX (aU _)) (aF (aK (cM (aA aX (aA (cR Zby ZaP.1 E.mo rfl ZeB ZaP.2 .nil aJ (aA (cR Zdc ZbP.1 E.mo rfl Zf0 ZbP.2 .nil aJ (aA (aR Za Zab (dv 2)) aD)) (aA (bZ Ze ZbD Zcg.1 E.mo Zcg.2 .nil aJ (aR ZH Z7 (dv 0))) aD))) aD))))) aQ) (aF (aK (aL Zag E.mo aJ (aA (dv 2) (aA iJ aD)))))))),?_⟩;obtain⟨sa,on,al⟩:=id st;cases en:S.now with
 |free k=>rw[en]at tg;cases tg
 |speaks n ds k=>rw[en]at tg;cases tg
 | reads h=>
  rw[en]at sa;obtain⟨T,r,i,G,t0,e,I,o1,o2,o3⟩:=sa;have hn:=wf.now;rw[en]at hn;obtain⟨f1,f2,f3⟩:=hn;have a5:=c1J f1 f2;rw[cN en]at q;obtain⟨dr,er⟩:=I.rd;obtain⟨dk,ek⟩:=I.sk;have j:bV (h++[F]):=pZ f1 (λz hz=>by rw[Yw.mp hz];exact hb);refine⟨T,_,.ref r,e,rfl,⟨dr,_,er,rfl⟩,r,i,G,h,t0,F,rfl,I,j,by lia,λZ f b1=>?_⟩;have n1:W≠r:=tY "many" e er rfl rfl;have n2:W≠i:=tY "many" e ek rfl rfl;have n3:W≠G:=a5G e I.kp;have e1:=b1 _ _ n1 n2 n3 e;have U:=a5P I b1 o1 o2 o3;have A:=sE bd Y U;have a0:dD (Or2 ob os) H Z:=U.le λx B=> .inr B;obtain⟨a6,J⟩:=f.rd;generalize hans:ans (h++[F])=an at f q J ⊢
  conv=>whnf
  refine cF (λc=>?_) (λc=>?_)
  ·have c1:an="more":=YR c;rw[if_pos c1]at q;refine⟨T,_,.ref r,e1,rfl,T,_,_,e1,rfl,?_⟩;refine λx a B C L=>⟨x,a,_,_,rfl,aC,λM s=>⟨rfl,aM rfl,λt ht=>?_⟩⟩
   have D:Same Z M:=by rw[s];exact bU B C
   have el:((h.length:Nat):Int)+1=(((h++[F]).length:Nat):Int):=by rw[Yc,Yy];rfl
   have N:M x=some (.ins CA.reads a [("reader",.ref r),("many",.int (((h++[F]).length:Nat):Int))]):=by rw[s,<-el];exact aC
   have u:=aN ht (.tup [.str "",.ref x]);have o:=D.trans u;refine q t _ (Stp.go (os':=λy=>y=x\/y=r\/y=i\/y=G) bd Y U o aC ⟨rfl,rfl,rfl,rfl,rfl,rfl⟩ ⟨⟨a,r,i,G,an,u _ _ N,f.same o,.inr (.inl rfl),.inr (.inr (.inl rfl)),.inr (.inr (.inr rfl))⟩,.inl rfl,?_⟩ ?_)
   ·rintro y (rfl | rfl | rfl | rfl)
    ·rw[u _ _ N];simp
    ·rw[o _ _ J];simp
    ·obtain⟨d,w⟩:=f.sk;rw[o _ _ w];simp
    ·rw[o _ _ f.kp];simp
   ·rintro y (rfl | rfl | rfl | rfl)
    ·exact .inr B
    ·exact .inl o1
    ·exact .inl o2
    ·exact .inl o3
  have c1:¬ an="more":=λz=>c (Ym z);rw[if_neg c1]at q
  conv=>whnf
  refine cF (λz=>?_) (λz=>?_)
  ·have V:an="whole":=YR z;rw[if_pos V]at q;obtain⟨dp,ch,wl,ul,ct,ws,us,b⟩:=id A;refine⟨dp,_,_,b.e,rfl,?_⟩;refine λO dt P a1 L=>⟨O,dt,S.vt,rfl,aC,λM s=>⟨rfl,?_⟩⟩
   have D:Same Z M:=by rw[s];exact bU P a1
   have N:M O=some (.ins CA.rtail dt (tlF S.vt false 0 0)):=by rw[s];exact aC
   clear s;have R:=f.same D;obtain⟨a2,a3⟩:=R.rd;refine⟨T,_,.ref r,D _ _ e1,rfl,⟨a2,_,a3,rfl⟩,r,i,G,h++[F],rfl,(by rw[hans];exact R),j,(by rw[Yc,Yy];lia),(λ_=>a8C (by rw[b6R,Xg,f3];rfl)),λ_ ok t d H3 hd u ed et=>?_,λno=>absurd (hans.trans V) no⟩;refine λx a B C L=>⟨x,a,_,_,rfl,aC,λH4 s=>⟨rfl,aM rfl,λt' a4=>?_⟩⟩
   have g4:Same H3 H4:=by rw[s];exact bU B C
   have e4:H4 x=some (.ins CA.intail a [("tail",.ref O),("found",.ref t)]):=by rw[s];exact aC
   clear s;have g5:=aN a4 (.tup [.str "",.ref x]);have g:=g4.trans g5;refine q t' _ (Stp.go (os':=λy=>y=x\/y=O\/y=d) bd Y U (D.trans (u.trans g)) aC ⟨rfl,rfl,rfl,rfl,rfl,rfl⟩ ⟨⟨a,O,t,d,g5 _ _ e4,⟨CA.rtail,dt,.inl rfl,g _ _ (u _ _ N)⟩,g _ _ et,g _ _ ed,.inr (.inl rfl),.inr (.inr rfl)⟩,.inl rfl,?_⟩ ?_)
   ·rintro y (rfl | rfl | rfl)
    ·rw[g5 _ _ e4];simp
    ·rw[g _ _ (u _ _ N)];simp
    ·rw[g _ _ ed];simp
   ·rintro y (rfl | rfl | rfl)
    ·exact .inr (D.none (u.none B))
    ·exact .inr P
    ·exact .inr (D.none hd)
  ·have V:¬ an="whole":=λy=>z (Ym y);rw[if_neg V]at q;exact⟨p,X,S,ob,false,rfl,A,λt H' h=>q t H' (h.stp a0 A)⟩
 |tlS v c=>rw[en]at tg;cases tg
 |tlR n ds v c=>rw[en]at tg;cases tg
 |flag l m=>rw[en]at tg;cases tg
 |settles m=>rw[en]at tg;cases tg
 |rests l=>rw[en]at tg;cases tg
 |off  =>rw[en]at tg;cases tg
variable (ZcD:MB P w K mg base (CX0) 7 Zev ZhG ["self","bit","post"] (dG CA 1))
include ZR Zx ZdM ZeC Zdu ZeB Zft Zfy Zo Ze Zj Za Zbz ZaV Zby ZcT ZU ZbE ZM ZV ZF Zab Zac Zch Zbx ZaR Zak ZaP Zag in
theorem Zlv (F0:Fun K "step" "Speaks.step" Zh3 Zev ZhG):type_of% ZcD:=by
 refine mbK ["self","bit","post","own","is_duel"] F0 λH Q nd D h=>?_;obtain⟨nw,p,W,S,ob,os,j,rfl,tg,bd,st,dj,wf,hb,hu,q⟩:=h;refine⟨_,(aB (aW 3 nd (bG cJ (aR Zj ZM (dv 0)) (aR Zj ZF (dv 0)) (λ_ _=>rfl))) (aB (aW 4 nd (eN uR (bF eZ rfl Zo cP (aA (bZ Ze ZbE Zch.1 D.mo Zch.2 .nil aJ (aR Zj ZV (dv 0))) aD)) (bA (v:= .int 9) rfl Zft ⟨_,rfl⟩) (aU _))) (aB (bC (aY fH (bN Ze ZU Zac.1 D.mo Zac.2 .nil aJ (aR Zj ZV (dv 0)) (aA (dv 1) aD)) aX (aU _)) (aF (aK (aL Zag D.mo aJ (aA (dv 2) (aA iJ aD))))) aQ) (aB (lJ (bC (PW.pt (lH (aY fH (dv 3) aG (aU _)) (lH (aY fH (dv 1) aG (aU _)) (jV (cW (dv 4)))))) (aF (aK (cM (aA aX (aA (cR ZaV Zak.1 D.mo rfl Zdu Zak.2 .nil aJ (aA (aR Zj ZV (dv 0)) (aA (aP cG (aR Zj ZF (dv 0)) aG) aD))) aD))))) aQ)) (aB (bC (aY pA (dv 1) (dv 3) (aU _)) (aF (aK (aL Zag D.mo aJ (aA (dv 2) (aA iJ aD))))) aQ) (aB (bC (aY fH (aP cG (aR Zj ZF (dv 0)) aG) (bF eZ rfl Zo cP (aA (aR Zj ZM (dv 0)) aD)) (aU _)) (aF (aK (cM (aA aX (aA (cR Zby ZaP.1 D.mo rfl ZeB ZaP.2 .nil aJ (aA (cR ZcT Zbx.1 D.mo rfl Zfy Zbx.2 .nil aJ (aA (aR Za Zab (dv 2)) aD)) (aA jC aD))) aD))))) aQ) (aF (aK (cM (aA aX (aA (cR Zbz ZaR.1 D.mo rfl ZeC ZaR.2 .nil aJ (aA (aR Zj ZM (dv 0)) (aA (aR Zj ZV (dv 0)) (aA (aP cG (aR Zj ZF (dv 0)) aG) aD)))) aD))))))))))),?_⟩;obtain⟨sa,on,al⟩:=id st;cases en:S.now with
 |free k=>rw[en]at tg;cases tg
 | speaks n ds k=>
  rw[en]at sa;obtain⟨s,U,r,i,I,t0,e,ew,X,Y,o0,o1,o2,o3⟩:=sa;have hn:=wf.now;rw[en]at hn;obtain⟨f1,f2,hk,f4⟩:=hn;have a8:=jR f1;have wbits:=(lK f1).wbits;rw[bL en]at q;have eg:=getD_get hk;rw[eg]at q;obtain⟨dr,er⟩:=X.rd;obtain⟨dk,ek⟩:=X.sk;have J:bV ((wr n ds).take k++[j]):=pZ (xF wbits) (λz hz=>by rw[Yw.mp hz];exact hb);refine⟨s,_,.ref U,e,rfl,s,_,_,e,rfl,_,_,Vb ew,zG hk,?_⟩;refine⟨s,_,.ref r,e,rfl,⟨dr,_,er,rfl⟩,r,i,I,_,t0,rfl,X,λpp H0 a9 g0 e0=>?_⟩;refine⟨_,.inl (Vb e0),?_⟩;rw[Ya];have L:=X.same g0;obtain⟨a3,a4⟩:=L.rd;have Z:=g0 _ _ e;refine⟨s,_,.ref r,Z,rfl,⟨a3,_,a4,rfl⟩,r,i,I,(wr n ds).take k,t0,j,rfl,L,J,(by rw[Yi];lia),λH1 g b1=>?_⟩;have n1:nw≠r:=tY "wire" e er rfl rfl;have n2:nw≠i:=tY "wire" e ek rfl rfl;have n3:nw≠I:=a5G e X.kp;have M:=b1 _ _ n1 n2 n3 Z;have N:=b1 _ _ (Va (a5G er ew)) (Va (a5G ek ew)) Y (g0 _ _ ew);have a5:=a5P L b1 o1 o2 o3;have k1:dD os H H1:=λx v ex z=>a5 x v (g0 x v ex) z;have u:=sE bd dj k1;have a0:dD (Or2 ob os) H H1:=k1.le λx B=> .inr B;obtain⟨b0,O⟩:=g.rd
  conv=>whnf
  refine cF (λc=>?_) (λc=>?_)
  ·have c1:ans ((wr n ds).take k++[j])="six":=YR c;rw[if_pos c1]at q;exact⟨p,W,S,ob,true,rfl,u,λt E h=>q t E (h.stp a0 u)⟩
  have c1:¬ ans ((wr n ds).take k++[j])="six":=λz=>c (Ym z);rw[if_neg c1]at q;refine⟨λa1 E=>a1= [some (.ref nw),some (.int j),some (.ref p),some (.int (wr n ds)[k]),some (.bl (decide (((kp ((wr n ds).take k)).length:Int)<9)))]/\E=H1/\¬ ((wr n ds)[k]=1/\j=0/\(kp ((wr n ds).take k)).length<9),?_,?_⟩
  ·conv=>whnf
   refine cF (λF=>?_) (λF=>yJ ⟨rfl,rfl,λz=>dec_false F z.1⟩)
   conv=>whnf
   refine cF (λy2=>?_) (λy2=>yJ ⟨rfl,rfl,λz=>dec_false y2 z.2.1⟩)
   conv=>whnf
   refine cF (λy3=>?_) (λy3=>⟨rfl,rfl,λz=>dec_false y3 (by have:=z.2.2;lia)⟩);have hl:(wr n ds)[k]=1/\j=0/\(kp ((wr n ds).take k)).length<9:=⟨dec_true F,dec_true y2,by have:=dec_true y3;lia⟩
   rw[if_pos hl]at q;refine⟨s,_,.ref r,M,rfl,s,_,_,M,rfl,?_⟩;refine λx f B A P=>⟨x,f,_,_,rfl,aC,λC o=>⟨rfl,aM rfl,λt ht=>?_⟩⟩
   have V:Same H1 C:=by rw[o];exact bU B A
   have el:((k:Nat):Int)+1=((((wr n ds).take k++[j]).length:Nat):Int):=by rw[Yc,Yy,Yi];lia
   have G:C x=some (.ins CA.reads f [("reader",.ref r),("many",.int ((((wr n ds).take k++[j]).length:Nat):Int))]):=by rw[o,<-el];exact aC
   have R:=aN ht (.tup [.str "loses",.ref x]);have a:=V.trans R;refine q t _ (Stp.go (os':=λy=>y=x\/y=r\/y=i\/y=I) bd dj k1 a aC ⟨rfl,rfl,rfl,rfl,rfl,rfl⟩ ⟨⟨f,r,i,I,_,R _ _ G,g.same a,.inr (.inl rfl),.inr (.inr (.inl rfl)),.inr (.inr (.inr rfl))⟩,.inl rfl,?_⟩ ?_)
   ·rintro y (rfl | rfl | rfl | rfl)
    ·rw[R _ _ G];simp
    ·rw[a _ _ O];simp
    ·obtain⟨d,w⟩:=g.sk;rw[a _ _ w];simp
    ·rw[a _ _ g.kp];simp
   ·rintro y (rfl | rfl | rfl | rfl)
    ·exact .inr B
    ·exact .inl o1
    ·exact .inl o2
    ·exact .inl o3
  rintro a1 E ⟨rfl,rfl,nl⟩;rw[if_neg nl]at q
  conv=>whnf
  refine cF (λy=>?_) (λy=>?_)
  ·have F:¬ j=(wr n ds)[k]:=λz=>by
    have:(!decide (j=(wr n ds)[k]))=true:=y;rw[Ym z]at this;cases this
   rw[if_neg F]at q;exact⟨p,W,S,ob,true,rfl,u,λt E h=>q t E (h.stp a0 u)⟩
  have F:j=(wr n ds)[k]:=YO λz=>y (by
   show (!decide (j=(wr n ds)[k]))=true
   rw[Yr z];rfl)
  rw[if_pos F]at q;have et:(wr n ds).take k++[j]=(wr n ds).take (k+1):=by rw[Yf hk,F]
  refine⟨s,_,_,M,rfl,s,_,.ref U,M,rfl,_,.inl (Vb N),?_⟩;rw[Ya]
  conv=>whnf
  refine cF (λz=>?_) (λz=>?_)
  ·have z1:((k:Nat):Int)+1=(((wr n ds).length:Nat):Int):=dec_true z;rw[if_pos (by lia)]at q;obtain⟨dp,ch,wl,ul,ct,ws,us,b⟩:=id u;refine⟨dp,_,_,b.e,rfl,?_⟩;refine λtl dt a2 a6 P=>⟨tl,dt,S.vt,rfl,aC,λC o=>⟨rfl,?_⟩⟩
   have V:Same E C:=by rw[o];exact bU a2 a6
   have G:C tl=some (.ins CA.stail dt (tlF S.vt true 0 0)):=by rw[o];exact aC
   clear o;refine λx f B A P=>⟨x,f,_,_,rfl,aC,λH4 o=>⟨rfl,aM rfl,λt' a7=>?_⟩⟩
   have g4:Same C H4:=by rw[o];exact bU B A
   have e4:H4 x=some (.ins CA.intail f [("tail",.ref tl),("found",.non)]):=by rw[o];exact aC
   clear o;have g5:=aN a7 (.tup [.str "",.ref x]);have T:=g4.trans g5;refine q t' _ (Stp.go (os':=λy=>y=x\/y=tl) bd dj k1 (V.trans T) aC ⟨rfl,rfl,rfl,rfl,rfl,rfl⟩ ⟨⟨f,tl,g5 _ _ e4,⟨CA.stail,dt,.inr rfl,T _ _ G⟩,.inr rfl⟩,.inl rfl,?_⟩ ?_)
   ·rintro y (rfl | rfl)
    ·rw[g5 _ _ e4];simp
    ·rw[T _ _ G];simp
   ·rintro y (rfl | rfl)
    ·exact .inr (V.none B)
    ·exact .inr a2
  ·have z1:¬ ((k:Nat):Int)+1=(((wr n ds).length:Nat):Int):=dec_false z;rw[if_neg (by lia)]at q;refine⟨s,_,.ref U,M,rfl,s,_,.ref r,M,rfl,s,_,_,M,rfl,?_⟩;refine λx f B A P=>⟨x,f,_,_,_,rfl,aC,λC o=>⟨rfl,aM rfl,λt ht=>?_⟩⟩
   have V:Same E C:=by rw[o];exact bU B A
   have G:C x=some (.ins CA.speaks f [("wire",.ref U),("reader",.ref r),("many",.int ((k+1:Nat):Int))]):=by rw[o];exact aC
   clear o;have R:=aN ht (.tup [.str "",.ref x]);have a:=V.trans R;rw[et]at g O;refine q t _ (Stp.go (os':=λy=>y=x\/y=U\/y=r\/y=i\/y=I) bd dj k1 a aC ⟨rfl,rfl,rfl,rfl,rfl,rfl⟩ ⟨⟨f,U,r,i,I,_,R _ _ G,a _ _ N,g.same a,Y,.inr (.inl rfl),.inr (.inr (.inl rfl)),.inr (.inr (.inr (.inl rfl))),.inr (.inr (.inr (.inr rfl)))⟩,.inl rfl,?_⟩ ?_)
   ·rintro y (rfl | rfl | rfl | rfl | rfl)
    ·rw[R _ _ G];simp
    ·rw[a _ _ N];simp
    ·rw[a _ _ O];simp
    ·obtain⟨d,w⟩:=g.sk;rw[a _ _ w];simp
    ·rw[a _ _ g.kp];simp
   ·rintro y (rfl | rfl | rfl | rfl | rfl)
    ·exact .inr B
    ·exact .inl o0
    ·exact .inl o1
    ·exact .inl o2
    ·exact .inl o3
 |reads h=>rw[en]at tg;cases tg
 |tlS v c=>rw[en]at tg;cases tg
 |tlR n ds v c=>rw[en]at tg;cases tg
 |flag l m=>rw[en]at tg;cases tg
 |settles m=>rw[en]at tg;cases tg
 |rests l=>rw[en]at tg;cases tg
 |off  =>rw[en]at tg;cases tg
variable (Zcx:MB P w K mg base (CX0) 6 Zem Zhx ["self","bit","post"] (dG CA 3))
include Zc4 ZbL Zh Zg Zd Zs Za ZaG Zb5 Za1 ZbC Zbe Za8 ZD ZaD Zn Zds ZcU Z5 ZaX Zcf Zag ZdG in
theorem Zlm (F0:Fun K "step" "InTail.step" ZhU Zem Zhx):type_of% Zcx:=by
 refine mbK ["self","bit","post","answer"] F0 λH Q nd O h=>?_;obtain⟨nw,p,B,S,I,J,bt,rfl,tg,bd,st,W,wf,hb,hu,q⟩:=h;refine⟨_,(aB (aW 3 nd (uB Zds.1 O.mo Zds.2 .nil aJ (aR Zs ZD (dv 0)) (aA (dv 1) aD))) (aB (bC (aY fH (dv 3) aX (aU _)) (aF (aK (cM (aA aX (aA (dv 0) aD))))) aQ) (aB (bC (aY fH (dv 3) aX (aU _)) (aF (aK (aL Zag O.mo aJ (aA (dv 2) (aA (iD (aR Zs ZD (dv 0))) aD))))) aQ) (aB (bC (aY fH (dv 3) aX (aU _)) (aF (aK (aL ZdG O.mo aJ (aA (dv 2) (aA (iD (aR Zs ZD (dv 0))) aD))))) aQ) (aB (bI (bZ Zd Zb5 ZcU.1 O.mo ZcU.2 .nil aJ (aR Za Zn (dv 2)))) (aB (bC (cW (iD (aR Zs ZD (dv 0)))) (aB (bI (bZ Za Za1 ZaX.1 O.mo ZaX.2 .nil aJ (dv 2))) (aF (aK (cM (aA aX (aA (cR ZaG Z5.1 O.mo rfl Zc4 Z5.2 .nil aJ (aA (bA (v:= .int 3) rfl ZbL ⟨_,rfl⟩) aD)) aD)))))) aQ) (aB (bI (bN Za ZbC Zcf.1 O.mo Zcf.2 .nil aJ (dv 2) (aA (aR Zs ZaD (dv 0)) aD))) (aF (aK (cM (aA aX (aA (cR ZaG Z5.1 O.mo rfl Zc4 Z5.2 .nil aJ (aA (bA (v:= .int 3) rfl ZbL ⟨_,rfl⟩) aD)) aD)))))))))))),?_⟩;obtain⟨sa,on,al⟩:=id st;cases en:S.now with
 |free k=>rw[en]at tg;cases tg
 |speaks n ds k=>rw[en]at tg;cases tg
 |reads h=>rw[en]at tg;cases tg
 | tlS v c=>
  rw[en]at sa;obtain⟨A,g,  e,X,Y⟩:=sa;obtain⟨C,dt,hC,e0⟩:=id X;have hc:=mW Zh Zg hC;have hm:=vD Zbe Za8 hC;rw[kY en]at q;refine⟨A,_,.ref g,e,rfl,⟨C,dt,_,e0,hc.cls,hm,rfl⟩,g,S.vt,true,v,c,bt,rfl,X,λZ E P=>?_⟩;have a0:nw≠g:=tY "found" e e0 rfl rfl;have L:=P _ _ a0 e;have R:=a5O X P Y;have f:=sE bd W R;have j:dD (Or2 I J) H Z:=R.le λx d=> .inr d;obtain⟨C1,o,a1,i⟩:=id E;have a:=mW Zh Zg a1;have a2:∀x,J x->Z x≠none:=λx d=>by
   by_cases z:x=g
   ·rw[z,i];simp
   ·cases ex:H x with
    |none=>exact absurd ex (al x d)
    |some u=>rw[P x u z ex];simp
  have hw:=wf.now;rw[en]at hw;have a9:S.wt≠ []:=hw;generalize bR S.vt true v c bt=an at q ⊢
  conv=>whnf
  refine cF (λy=>?_) (λy=>?_)
  ·have y1:an="more":=YR y;rw[if_pos y1]at q;refine⟨aM rfl,λt r=>?_⟩;have F:=aN r (.tup [.str "",.ref nw]);refine q t _ (Stp.go (os':=J) bd W R F aC ⟨rfl,rfl,rfl,rfl,rfl,rfl⟩ ⟨⟨A,g,F _ _ L,E.same F,Y⟩,on,λx d=>?_⟩ λx d=> .inl d);cases ex:Z x with
   |none=>exact absurd ex (a2 x d)
   |some u=>rw[F x u ex];simp
  have y1:¬ an="more":=λz=>y (Ym z);rw[if_neg y1]at q
  conv=>whnf
  refine cF (λy=>?_) (λy=>?_)
  ·have y2:an="fault":=YR y;rw[if_pos y2]at q;exact⟨A,_,.ref g,L,rfl,C1,o,_,_,i,a.cls,a.n2,rfl,p,B,S,I,true,rfl,f,λt H' h=>q t H' (h.stp j f)⟩
  have y2:¬ an="fault":=λz=>y (Ym z);rw[if_neg y2]at q
  conv=>whnf
  refine cF (λy=>?_) (λy=>?_)
  ·have y3:an="refused":=YR y;rw[if_pos y3]at q;exact⟨A,_,.ref g,L,rfl,C1,o,_,_,i,a.cls,a.n2,rfl,p,B,S,I,true,rfl,f,λt H' h=>q t H' (h.stp j f)⟩
  have y3:¬ an="refused":=λz=>y (Ym z);rw[if_neg y3]at q;obtain⟨dp,ch,wl,ul,M,ws,us,b⟩:=id f;obtain⟨dc,ec⟩:=id b.et;refine⟨dp,_,.ref M,b.e,rfl,⟨dc,_,ec,rfl⟩,M,S.tot,rfl,b.et,λH2 c2 T=>?_⟩;obtain⟨b2,N⟩:=Bd.count b c2 T;have D:∀x,J x->x≠M:=λx d z=>W M b.ot (z▸d);have e2:H2 nw=some (.ins CA.intail A [("tail",.ref g),("found",.non)]):=(T _ (D _ on)).trans L;have a3:=(T _ (D _ Y)).trans i;generalize hn2:mvd S.tot (-1)=n2 at b2 q;refine⟨A,_,.ref g,e2,rfl,C1,o,_,_,a3,a.cls,a.n2,rfl,?_⟩;obtain⟨a4,b0,b4,b5,b6,b7,b9,a5⟩:=id b2;refine⟨⟨a4,_,a5.e,rfl⟩,p,B,{ S with tot:=n2 },I,rfl,b2,a9,λH3 b3 k3=>?_⟩;have a6:dD (Or2 I J) H H3:=λx u ex z=>k3 x u (N x u (j x u ex z) (z.imp_left λy w=>y (.inl w))) (z.imp_left λy w=>y (.inl w));refine λx s d a7 c0=>⟨x,s,_,rfl,aC,λH4 eH=>⟨rfl,aM rfl,λt' r=>?_⟩⟩
  have g4:Same H3 H4:=by rw[eH];exact bU d a7
  have e4:H4 x=some (.ins CA.rests s [("left",.int ((3:Nat):Int))]):=by rw[eH];exact aC
  clear eH;have g5:=aN r (.tup [.str "done",.ref x]);refine q t' _ (Stp.go2 (b3.now rfl rfl rfl rfl rfl rfl) a6 (g4.trans g5) aC (jG (g5 _ _ e4) ⟨s,g5 _ _ e4⟩) (λy hy=>?_) ?_)
  ·have G:y=x:=hy;rw[G];exact d
  ·exact λy hy=> .inl (.inl hy)
 | tlR n ds v c=>
  rw[en]at sa;obtain⟨A,g,tf,df,e,X,c1,a8,Y,o2⟩:=sa;obtain⟨C,dt,hC,e0⟩:=id X;have hc:=mW Zh Zg hC;have hm:=vD Zbe Za8 hC;rw[lQ en]at q;refine⟨A,_,.ref g,e,rfl,⟨C,dt,_,e0,hc.cls,hm,rfl⟩,g,S.vt,false,v,c,bt,rfl,X,λZ E P=>?_⟩;have a0:nw≠g:=tY "found" e e0 rfl rfl;have L:=P _ _ a0 e;have R:=a5O X P Y;have f:=sE bd W R;have j:dD (Or2 I J) H Z:=R.le λx d=> .inr d;obtain⟨C1,o,a1,i⟩:=id E;have a:=mW Zh Zg a1;have U:=R.tup c1;have c3:df≠g:=λz=>by rw[z,e0]at a8;cases a8
  have V:=P _ _ c3 a8;have a2:∀x,J x->Z x≠none:=λx d=>by
   by_cases z:x=g
   ·rw[z,i];simp
   ·cases ex:H x with
    |none=>exact absurd ex (al x d)
    |some u=>rw[P x u z ex];simp
  generalize bR S.vt false v c bt=an at q ⊢
  conv=>whnf
  refine cF (λy=>?_) (λy=>?_)
  ·have y1:an="more":=YR y;rw[if_pos y1]at q;refine⟨aM rfl,λt r=>?_⟩;have F:=aN r (.tup [.str "",.ref nw]);refine q t _ (Stp.go (os':=J) bd W R F aC ⟨rfl,rfl,rfl,rfl,rfl,rfl⟩ ⟨⟨A,g,tf,df,F _ _ L,E.same F,F _ _ U,F _ _ V,Y,o2⟩,on,λx d=>?_⟩ λx d=> .inl d);cases ex:Z x with
   |none=>exact absurd ex (a2 x d)
   |some u=>rw[F x u ex];simp
  have y1:¬ an="more":=λz=>y (Ym z);rw[if_neg y1]at q
  conv=>whnf
  refine cF (λy=>?_) (λy=>?_)
  ·have y2:an="fault":=YR y;rw[if_pos y2]at q;exact⟨A,_,.ref g,L,rfl,C1,o,_,_,i,a.cls,a.n2,rfl,p,B,S,I,false,rfl,f,λt H' h=>q t H' (h.stp j f)⟩
  have y2:¬ an="fault":=λz=>y (Ym z);rw[if_neg y2]at q
  conv=>whnf
  refine cF (λy=>?_) (λy=>?_)
  ·have y3:an="refused":=YR y;rw[if_pos y3]at q;exact⟨A,_,.ref g,L,rfl,C1,o,_,_,i,a.cls,a.n2,rfl,p,B,S,I,false,rfl,f,λt H' h=>q t H' (h.stp j f)⟩
  have y3:¬ an="refused":=λz=>y (Ym z);rw[if_neg y3]at q;obtain⟨dp,ch,wl,ul,M,ws,us,b⟩:=id f;obtain⟨dc,ec⟩:=id b.et;refine⟨dp,_,.ref M,b.e,rfl,⟨dc,_,ec,rfl⟩,M,S.tot,rfl,b.et,λH2 c2 T=>?_⟩;obtain⟨b2,N⟩:=Bd.count b c2 T;have D:∀x,J x->x≠M:=λx d z=>W M b.ot (z▸d);have e2:H2 nw=some (.ins CA.intail A [("tail",.ref g),("found",.ref tf)]):=(T _ (D _ on)).trans L;have a3:=(T _ (D _ Y)).trans i;generalize hn2:mvd S.tot (-1)=n2 at b2 q;refine⟨A,_,.ref g,e2,rfl,C1,o,_,_,a3,a.cls,a.n2,rfl,?_⟩;obtain⟨a4,b0,b4,b5,b6,b7,b9,a5⟩:=id b2;refine⟨⟨a4,_,a5.e,rfl⟩,A,_,.ref tf,e2,rfl,p,B,{ S with tot:=n2 },I,tf,df,n,ds,rfl,b2,N.tup U,(T _ (D _ o2)).trans V,λz=>W df z o2,hu,λH3 b3 k3=>?_⟩;have a6:dD (Or2 I J) H H3:=λx u ex z=>k3 x u (N x u (j x u ex z) (z.imp_left λy w=>y (.inl w))) (z.imp_left λy w=>y (.inl w));refine λx s d a7 c0=>⟨x,s,_,rfl,aC,λH4 eH=>⟨rfl,aM rfl,λt' r=>?_⟩⟩
  have g4:Same H3 H4:=by rw[eH];exact bU d a7
  have e4:H4 x=some (.ins CA.rests s [("left",.int ((3:Nat):Int))]):=by rw[eH];exact aC
  clear eH;have g5:=aN r (.tup [.str "takes",.ref x]);refine q t' _ (Stp.go2 (b3.now rfl rfl rfl rfl rfl rfl) a6 (g4.trans g5) aC (jG (g5 _ _ e4) ⟨s,g5 _ _ e4⟩) (λy hy=>?_) ?_)
  ·have G:y=x:=hy;rw[G];exact d
  ·rintro y (hy | hy)
   ·exact .inl (.inl hy)
   ·have G:y=df:=hy;rw[G];exact .inl (.inr o2)
 |flag l m=>rw[en]at tg;cases tg
 |settles m=>rw[en]at tg;cases tg
 |rests l=>rw[en]at tg;cases tg
 |off  =>rw[en]at tg;cases tg
variable (Zdp:MB P w K mg base (CX0) 4 Zfp Zjl ["self"] (a9Z CA))
include ZS Zj ZH Zs Zu ZX Z3 Za Zcl ZaI ZbY Zb8 ZbU Zbp ZbF Zca ZcI Zae Zbh ZcC ZcY Zcw ZbM Zci Zc0 ZdN in
theorem Znh (f:Fun K "says" "Post.says" ZjK Zfp Zjl):type_of% Zdp:=by
 refine mbK ["self"] f λH Q s g h=>?_;obtain⟨p,S,o,rfl,⟨c,i,j,bd,d,t,wf,l,al⟩,q⟩:=h
 refine⟨_,(aF (aK (a0Z (R:=λC a=>(C=CA.free/\a=dH CA 0)\/(C=CA.speaks/\a=dH CA 1)\/(C=CA.reads/\a=dH CA 2)\/(C=CA.intail/\a=dH CA 3)\/(C=CA.flag/\a=dH CA 4)\/(C=CA.settles/\a=dH CA 5)\/(C=CA.rests/\a=dH CA 6)\/(C=CA.off/\a=dH CA 7)) (k:=3) (by
  rintro C a (⟨rfl,rfl⟩ | ⟨rfl,rfl⟩ | ⟨rfl,rfl⟩ | ⟨rfl,rfl⟩ | ⟨rfl,rfl⟩ | ⟨rfl,rfl⟩ | ⟨rfl,rfl⟩ | ⟨rfl,rfl⟩)
  ·exact⟨_,_,_,ZS,ZaI,Zbh.1.mono (by decide),Zbh.2⟩
  ·exact⟨_,_,_,Zj,ZbY,ZcC.1.mono (by decide),ZcC.2⟩
  ·exact⟨_,_,_,ZH,Zb8,ZcY.1.mono (by decide),ZcY.2⟩
  ·exact⟨_,_,_,Zs,ZbU,Zcw.1.mono (by decide),Zcw.2⟩
  ·exact⟨_,_,_,Zu,Zbp,ZbM.1.mono (by decide),ZbM.2⟩
  ·exact⟨_,_,_,ZX,ZbF,Zci.1.mono (by decide),Zci.2⟩
  ·exact⟨_,_,_,Z3,Zca,Zc0.1.mono (by decide),Zc0.2⟩
  ·exact⟨_,_,_,Zcl,ZcI,ZdN.1.mono (by decide),ZdN.2⟩) g.mo aJ (aR Za Zae (dv 0)) (aA (dv 0) aD)))),?_⟩
 obtain⟨m,u,v,w,x,y,z,b⟩:=id bd;obtain⟨C,n,fs,r,⟨l1,l2,l3⟩,hd⟩:=d.disp;exact⟨m,_,.ref c,b.e,rfl,C,n,_,_,r,l1,hd (dH CA),c,p,c,S,i,j,rfl,rfl,bd,d,wf,q⟩
variable (Zdn:MB P w K mg base (CX0) 9 Zfn Zjj ["self","bit"] (b0A CA))
include ZaN ZR Zx ZS Zj ZH Zs Zu ZX Z3 Za Zcl Zcn ZbZ Zb9 ZbV Zbq ZbG Zcb ZcJ Zae ZdO ZbN Zcj Zc1 Zdl ZcZ ZcD Zcx in
theorem Znf (M:Fun K "hear" "Post.hear" ZjI Zfn Zjj):type_of% Zdn:=by
 refine mbK ["self","bit","told"] M λH Q N O h=>?_;obtain⟨p,S,o,i,rfl,⟨j,P,T,bd,I,U,wf,c,al⟩,J,V,q⟩:=h
 refine⟨_,(aB (aW 2 N (a0Z (R:=λC a=>(C=CA.free/\a=dG CA 0)\/(C=CA.speaks/\a=dG CA 1)\/(C=CA.reads/\a=dG CA 2)\/(C=CA.intail/\a=dG CA 3)\/(C=CA.flag/\a=dG CA 4)\/(C=CA.settles/\a=dG CA 5)\/(C=CA.rests/\a=dG CA 6)\/(C=CA.off/\a=dG CA 7)) (k:=8) (by
  rintro C a (⟨rfl,rfl⟩ | ⟨rfl,rfl⟩ | ⟨rfl,rfl⟩ | ⟨rfl,rfl⟩ | ⟨rfl,rfl⟩ | ⟨rfl,rfl⟩ | ⟨rfl,rfl⟩ | ⟨rfl,rfl⟩)
  ·exact⟨_,_,_,ZS,Zcn,Zdl.1.mono (by decide),Zdl.2⟩
  ·exact⟨_,_,_,Zj,ZbZ,ZcD.1.mono (by decide),ZcD.2⟩
  ·exact⟨_,_,_,ZH,Zb9,ZcZ.1.mono (by decide),ZcZ.2⟩
  ·exact⟨_,_,_,Zs,ZbV,Zcx.1.mono (by decide),Zcx.2⟩
  ·exact⟨_,_,_,Zu,Zbq,ZbN.1.mono (by decide),ZbN.2⟩
  ·exact⟨_,_,_,ZX,ZbG,Zcj.1.mono (by decide),Zcj.2⟩
  ·exact⟨_,_,_,Z3,Zcb,Zc1.1.mono (by decide),Zc1.2⟩
  ·exact⟨_,_,_,Zcl,ZcJ,ZdO.1.mono (by decide),ZdO.2⟩) O.mo aJ (aR Za Zae (dv 0)) (aA (dv 1) (aA (dv 0) aD)))) (aB (bJ Za Zae (dv 0) (bG dY (dv 2) aG (λ_ _=>rfl))) (aF (aK (bG dY (dv 2) aG (λ_ _=>rfl)))))),?_⟩
 obtain⟨W,ch,wl,ul,ct,ws,us,b⟩:=id bd;obtain⟨C,X,fs,Y,⟨l1,l2,l3⟩,hd⟩:=I.disp;refine⟨W,_,.ref j,b.e,rfl,C,X,_,_,Y,l2,hd (dG CA),j,p,j,S,P,T,i,rfl,rfl,bd,I,U,wf,J,V,λt Z hs=>?_⟩;obtain⟨d,l,m,g,L,s',n,mv⟩:=hs;obtain⟨f,r,s,u,B,a0,a1,D⟩:=id L;refine⟨_,_,Vc g,rfl,f,_,D.e,(show 6<1000 by decide),?_⟩;obtain⟨E,F⟩:=a8B (A:=CA) wf J L s' n D;have G:upd Z p (.ins CA.post f (pF r (aZ S i).2.vt s u B d)) t=some (.tup [.str (aZ S i).1,.ref d]):=by rw[aH (λz=>by rw[z,D.e]at g;cases g)];exact g
 exact⟨_,_,Vc G,rfl,q _ (Or2 l m) E ⟨λx v ex z=>F x v (mv.1 x v ex (z.imp_left λy w=>y (c x w))) (z.imp_left λy w=>y (by have w':x=p:=w;rw[w'];exact c p (.inl bd.op))),λx hx=>(mv.2 x hx).imp_left (c x)⟩⟩
variable (ZC:MB P w K mg base (CX0) 1 ZdU ZgQ ["self","post"] (a9S Zl CA ZcQ))
include ZQ ZY Zo Zc ZK in
theorem ZkJ (m:Fun K "post_at" "Rail.post_at" Zg5 ZdU ZgQ):type_of% ZC:=by
 refine mbK ["self","post"] m λH Q q s h=>?_;obtain⟨r,R,o,w,k,rfl,a,n,e⟩:=h;refine⟨_,(aB (bC (gH (tZ sU uR aG (dv 1) (bF eZ rfl Zo cP (aA (aR Zc ZK (dv 0)) aD)))) (aF bQ) aQ) (aF (aK (bG cJ (aR Zc ZK (dv 0)) (dv 1) (λ_ _=>rfl))))),?_⟩
 conv=>whnf
 refine cF (λc=>?_) (λc=>?_)
 ·have b:0<=k:=dec_true c;refine⟨w.dx,_,.ref w.PL,a.er,rfl,_,.inl (Vb a.ePL),?_⟩;rw[Ya,a.pl]
  conv=>whnf
  refine cF (λd=>?_) (λd=>?_)
  ·have f:¬ k<((R.ps.length:Nat):Int):=λz=>by
    have g:(!decide (k<((R.ps.length:Nat):Int)))=true:=d;rw[Ym z]at g;cases g
   exact(e (λz=>f z.2) _ (Vd _))
  ·have f:k<((R.ps.length:Nat):Int):=YO λz=>d (by
    show (!decide (k<((R.ps.length:Nat):Int)))=true
    rw[Yr z];rfl)
   obtain⟨i,rfl⟩:=YG b;have p:i<w.ps.length:=by rw[a.pl];lia
   have l:w.ps[i]? =some w.ps[i]:=Yd p;exact⟨w.dx,_,.ref w.PL,a.er,rfl,_,_,Vb a.ePL,bB (j:=i) (by rw[Yn,l];rfl),n i _ rfl l⟩
 ·have b:¬ 0<=k:=dec_false c;exact(e (λz=>b z.1) _ (Vd _))
variable (Zdr:MB P w K mg base (CX0) 9 Zfr Zjn ["self","choices","votes"] (a9U Zl CA ZcQ))
include ZeE ZQ ZY Ze8 ZkG Zo Zc Ze5 ZK Zan Zal ZaE Zav Zau Zdo in
theorem Znj (F0:Fun K "__init__" "Rail.__init__" ZjM Zfr Zjn):type_of% Zdr:=by
 refine mbK ["self","choices","votes"] F0 λH Q nd hr h=>?_;obtain⟨a,l,cl,v,e,rfl,ea,hC,hl,q1,q2⟩:=h;refine⟨_,(aB (bC (gH (tZ sU sU aG (bF eZ rfl Zo cP (aA (dv 1) aD)) (bA (v:= .int 5) rfl Ze8 ⟨_,rfl⟩))) (aF bQ) aQ) (aB (bJ Zc ZK (dv 0) (fB rfl (ix:=[2]) (dN (dv 1)) (λC fp s0 H0 at0=>cY) (λC fp s0 H0 at0=>(cR Ze5 Zdo.1 hr.mo rfl ZkG Zdo.2 .nil aJ (aA (dv 0) (aA (dv 1) aD)))) rfl rfl (by rfl) (show ([".0","choice","votes"]:List Str).Nodup by decide +kernel))) (aB (bJ Zc Zan (dv 0) a0P) (aB (bJ Zc Zal (dv 0) (dJ aD)) (aB (bJ Zc ZaE (dv 0) (fB rfl (ix:=[]) (dN (dv 1)) (λC fp s0 H0 at0=>cY) (λC fp s0 H0 at0=>(dJ aD)) rfl rfl (by rfl) (show ([".0","choice"]:List Str).Nodup by decide +kernel))) (aB (bJ Zc Zav (dv 0) (fB rfl (ix:=[]) (dN (dv 1)) (λC fp s0 H0 at0=>cY) (λC fp s0 H0 at0=>(dJ aD)) rfl rfl (by rfl) (show ([".0","choice"]:List Str).Nodup by decide +kernel))) (aF (bJ Zc Zau (dv 0) (dJ aD))))))))),?_⟩;obtain⟨ts,n,tl,tt⟩:=hC;have r:cl≠a:=λz=>by rw[z,ea]at n;cases n
 have a7:∀(i:Nat)(t:Addr)(m:Int×Int),ts[i]? =some t->e[i]? =some m->t≠a:=λi t m h1 h2 z=>by have:=tt i t m h1 h2;rw[z,ea]at this;cases this
 refine⟨_,.inl (Vb n),?_⟩;rw[Ya,tl]
 conv=>whnf
 refine cF (λc=>?_) (λc=>?_);rotate_left
 ·have c1:¬ (1:Int)<=((e.length:Nat):Int):=dec_false c;exact(q2 (λz=>c1 (by have:=z.1.1;lia)) _ λx u _ h=>h)
 have c1:(1:Int)<=((e.length:Nat):Int):=dec_true c
 conv=>whnf
 refine cF (λd=>?_) (λd=>?_)
 ·have d1:¬ ((e.length:Nat):Int)<=5:=λz=>by
   have d2:(!decide (((e.length:Nat):Int)<=5))=true:=d;rw[Ym z]at d2;cases d2
  exact(q2 (λz=>d1 (by have:=z.1.2;lia)) _ λx u _ h=>h)
 have d1:((e.length:Nat):Int)<=5:=YO λz=>d (by
  show (!decide (((e.length:Nat):Int)<=5))=true
  rw[Yr z];rfl)
 have l5:e.length<=5:=by lia
 refine⟨⟨_,Vb n⟩,dX (xs:=ts.map V.ref) (λi s y=>∃(g:List Addr)(op:Own),s=g.map V.ref/\g.length=i/\Mk0 CA H a y [(a,.ins Zl l [])] g ((e.take i).map λm=>S0 m.1.toNat m.2.toNat v.toNat) op/\∀m∈e.take i,a8O m.1 m.2 v) ?_ ?_ ?_ ?_ ?_⟩
 ·rintro i s y E ⟨g,op,rfl,w,_⟩;rw[Ya]at E ⊢;exact bY (by lia)
 ·exact⟨[],_,rfl,rfl,Mk0.base ea,λm hm=>by simp at hm⟩
 ·rintro i s y E ⟨g,op,rfl,w,mk,_⟩;exact Vb (mk.kp _ _ r n)
 ·rintro i x s y hx ⟨g,op,rfl,a2,mk,D⟩;rw[Yn]at hx;obtain⟨t,ht,rfl⟩:=YU.mp hx;have O:i<e.length:=by rw[<-tl];exact(Ye.mp ht).1
  have hm:e[i]? =some e[i]:=Yd O;have et:=mk.kp _ _ (a7 i t _ ht hm) (tt i t _ ht hm);have tk:e.take (i+1)=e.take i++[e[i]]:=Yf O
  conv=>whnf
  refine λp dp w P b6=>⟨p,dp,t,_,_,v,rfl,aC,(by rw[aH (aO et w),aH (aO et P)];exact et),λok H5 o hP a8 hk=>⟨rfl,g++[p],Or2 op o,by rw[Yh];rfl,by rw[Yc,a2];rfl,?_,?_⟩,λno H5 hk=>?_⟩
  ·rw[tk,Yh];exact mk.post w P hP a8 hk
  ·rw [tk];intro m a9;rcases YM.mp a9 with z | z
   ·exact D m z
   ·rw[Yw]at z;rw[z];exact ok
  ·refine q2 (λz=>no (z.2 _ (YC O))) H5 λx u hx h=>?_;have h':=mk.kp x u hx h;exact hk x u (aO h' w) (by rw[aH (aO h' w),aH (aO h' P)];exact h')
 rintro s H1 ⟨g,op,rfl,a2,mk,D⟩ j b0;rw[Ya,tl,Yg (Yb _)]at mk D;have R:=Mk0.ins (L1:=[(a,.ins Zl l [])]) (L2:=[]) (v:= .lst (g.map V.ref)) (by simpa using mk) b0;refine⟨l,_,R.cs.at_ 0 _ rfl,by decide,?_⟩;have nI:∀{C d:Addr}{fs:List (Str×V)},¬ isT (.ins C d fs):=λ⟨_,z⟩=>by cases z
 have S:=R.put (v':= .ins Zl l (gU "posts" (.ref j) [])) nI;generalize upd (upd H1 j _) a _=H2 at S;intro k b1;have T:=Mk0.ins (L1:=(a,.ins Zl l [("posts",.ref j)])::(j,.lst (g.map V.ref))::[]) (L2:=[]) (v:= .dK []) S b1;refine⟨l,_,T.cs.at_ 0 _ rfl,(show 1<1000 by decide),?_⟩;have U:=T.put (v':= .ins Zl l (gU "owners" (.ref k) [("posts",.ref j)])) nI;generalize upd (upd H2 k _) a _=H3 at U;refine⟨aM rfl,λq b2=>?_⟩;have W:=Mk0.ins (L1:=(a,.ins Zl l [("posts",.ref j),("owners",.ref k)])::(j,.lst (g.map V.ref))::(k,.dK [])::[]) (L2:=[]) (v:= .lst []) U b2;refine⟨l,_,W.cs.at_ 0 _ rfl,(show 2<1000 by decide),?_⟩;have X:=W.put (v':= .ins Zl l (gU "borne" (.ref q) [("posts",.ref j),("owners",.ref k)])) nI;generalize upd (upd H3 q _) a _=H4 at X;obtain⟨o3,a3⟩:∃o3:HO,o3= .ins Zl l [("posts",.ref j),("owners",.ref k),("borne",.ref q)]:=⟨_,rfl⟩
 have B:Mk0 CA H a H4 ((a,o3)::(j,.lst (g.map V.ref))::(k,.dK [])::(q,.lst [])::[]) g (e.map λm=>S0 m.1.toNat m.2.toNat v.toNat) op:=by rw[a3];exact X
 clear mk R S T U W X;refine⟨⟨_,Vb (B.kp _ _ r n)⟩,dX (xs:=ts.map V.ref) (λi s y=>∃b:List Addr,s=b.map V.ref/\b.length=i/\Mk0 CA H a y ((a,o3)::(j,.lst (g.map V.ref))::(k,.dK [])::(q,.lst [])::lsC b (List.replicate i [])) g (e.map λm=>S0 m.1.toNat m.2.toNat v.toNat) op) ?_ ?_ ?_ ?_ ?_⟩
 ·rintro i s y E ⟨b,rfl,w,_⟩;rw[Ya]at E ⊢;exact bY (by lia)
 ·exact⟨[],rfl,rfl,B⟩
 ·rintro i s y E ⟨b,rfl,w,mk⟩;exact Vb (mk.kp _ _ r n)
 ·rintro i x s y hx ⟨b,rfl,w,mk⟩
  conv=>whnf
  refine⟨aM rfl,λs1 Y=>⟨b++[s1],by rw[Yh];rfl,by rw[Yc,w];rfl,?_⟩⟩;rw[a1C i w];exact Mk0.ins (L1:=(a,o3)::(j,.lst (g.map V.ref))::(k,.dK [])::(q,.lst [])::lsC b (List.replicate i [])) (L2:=[]) (by rw[Yv];exact mk) Y
 rintro s H5 ⟨b,rfl,a4,Z⟩ A b3;rw[Ya,tl]at a4 Z;have a0:=Mk0.ins (L1:=(a,o3)::(j,.lst (g.map V.ref))::(k,.dK [])::(q,.lst [])::[]) (L2:=lsC b (List.replicate e.length [])) (v:= .lst (b.map V.ref)) Z b3;subst a3;refine⟨l,_,a0.cs.at_ 0 _ rfl,(show 3<1000 by decide),?_⟩;have a1:=a0.put (v':= .ins Zl l (gU "sayings" (.ref A) [("posts",.ref j),("owners",.ref k),("borne",.ref q)])) nI;generalize upd (upd H5 A _) a _=H6 at a1;obtain⟨o4,a5⟩:∃o4:HO,o4= .ins Zl l [("posts",.ref j),("owners",.ref k),("borne",.ref q),("sayings",.ref A)]:=⟨_,rfl⟩
 have F:Mk0 CA H a H6 ((a,o4)::(j,.lst (g.map V.ref))::(k,.dK [])::(q,.lst [])::(A,.lst (b.map V.ref))::lsC b (List.replicate e.length [])) g (e.map λm=>S0 m.1.toNat m.2.toNat v.toNat) op:=by rw[a5];exact a1
 clear B Z a0 a1;refine⟨⟨_,Vb (F.kp _ _ r n)⟩,dX (xs:=ts.map V.ref) (λi s y=>∃f:List Addr,s=f.map V.ref/\f.length=i/\Mk0 CA H a y ((a,o4)::(j,.lst (g.map V.ref))::(k,.dK [])::(q,.lst [])::(A,.lst (b.map V.ref))::(lsC b (List.replicate e.length [])++lsC f (List.replicate i []))) g (e.map λm=>S0 m.1.toNat m.2.toNat v.toNat) op) ?_ ?_ ?_ ?_ ?_⟩
 ·rintro i s y E ⟨f,rfl,w,_⟩;rw[Ya]at E ⊢;exact bY (by lia)
 ·exact⟨[],rfl,rfl,by rw[show lsC [] (List.replicate 0 [])= [] from rfl,Yv];exact F⟩
 ·rintro i s y E ⟨f,rfl,w,mk⟩;exact Vb (mk.kp _ _ r n)
 ·rintro i x s y hx ⟨f,rfl,w,mk⟩
  conv=>whnf
  refine⟨aM rfl,λs1 Y=>⟨f++[s1],by rw[Yh];rfl,by rw[Yc,w];rfl,?_⟩⟩;rw[a1C i w,<-Yo];exact Mk0.ins (L1:=(a,o4)::(j,.lst (g.map V.ref))::(k,.dK [])::(q,.lst [])::(A,.lst (b.map V.ref))::(lsC b (List.replicate e.length [])++lsC f (List.replicate i []))) (L2:=[]) (by rw[Yv];exact mk) Y
 rintro s H7 ⟨f,rfl,a6,G⟩ HE b4;rw[Ya,tl]at a6 G;have I:=Mk0.ins (L1:=(a,o4)::(j,.lst (g.map V.ref))::(k,.dK [])::(q,.lst [])::(A,.lst (b.map V.ref))::[]) (L2:=lsC b (List.replicate e.length [])++lsC f (List.replicate e.length [])) (v:= .lst (f.map V.ref)) G b4;subst a5;refine⟨l,_,I.cs.at_ 0 _ rfl,(show 4<1000 by decide),?_⟩;have J:=I.put (v':= .ins Zl l (gU "hearings" (.ref HE) [("posts",.ref j),("owners",.ref k),("borne",.ref q),("sayings",.ref A)])) nI;generalize upd (upd H7 HE _) a _=H8 at J;refine⟨aM rfl,λEV b5=>?_⟩;have L:=Mk0.ins (L1:=(a,.ins Zl l [("posts",.ref j),("owners",.ref k),("borne",.ref q),("sayings",.ref A),("hearings",.ref HE)])::(j,.lst (g.map V.ref))::(k,.dK [])::(q,.lst [])::(A,.lst (b.map V.ref))::(HE,.lst (f.map V.ref))::[]) (L2:=lsC b (List.replicate e.length [])++lsC f (List.replicate e.length [])) (v:= .lst []) J b5;refine⟨l,_,L.cs.at_ 0 _ rfl,(show 5<1000 by decide),?_⟩;have M:=L.put (v':= .ins Zl l (gU "happened" (.ref EV) [("posts",.ref j),("owners",.ref k),("borne",.ref q),("sayings",.ref A),("hearings",.ref HE)])) nI;generalize upd (upd H8 EV _) a _=H9 at M;have N:Mk0 CA H a H9 (mO Zl a ⟨l,j,k,q,A,HE,EV,g,b,f, [],op⟩ (R0 e v)) g (R0 e v).ps op:=M;obtain⟨o,hR,hn⟩:=N.fin a4 a6 l5;exact q1 ⟨⟨by lia,l5⟩,D⟩ H9 o hR hn N.kp
variable (Zdq:MB P w K mg base (CX0) 9 Zfq Zjm ["self","post","name","data"] (a9V K Zl CA ZcQ ZdJ Zm6))
include Zx ZQ ZY Zgh Za Zc Zt Zco Zan ZaF Zdm ZC in
theorem Zni (Y:Fun K "hand" "Rail.hand" ZjL Zfq Zjm):type_of% Zdq:=by
 refine mbK ["self","post","name","data","taker"] Y λH Q Z m h=>?_;obtain⟨r,R,o,w,k,n,a,N,rfl,A,O,P,a0,B,q1,q2,q3⟩:=h;refine⟨_,(aB (aW 4 Z (bN Zc Zt ZC.1 m.mo ZC.2 .nil aJ (dv 0) (aA (dv 1) aD))) (aB (bI (aL ZaF m.mo aJ (aA (dv 2) (aA (dv 3) aD)))) (aB (bC (aY pA (a0Q (wC m) (aR Zc Zan (dv 0)) (dv 2) (dv 1) ⟨rfl,rfl,rfl,rfl⟩) (dv 1) (aU _)) (aF bQ) aQ) (aB (xU (wC m) (aR Zc Zan (dv 0)) (dv 2) (dv 1) rfl) (aF (bI (bN Za Zco Zdm.1 m.mo Zdm.2 .nil aJ (dv 4) (aA (dv 2) (aA (dv 3) aD))))))))),?_⟩;refine⟨⟨w.dx,_,A.er,rfl⟩,r,R,o,w,k,rfl,A,λi p e T=>?_,λq s g=>q1 q s g⟩;subst e;obtain⟨S,oi,eS,hP,le,U⟩:=A.step T;have a1:i<R.ps.length:=(Ye.mp eS).1;refine⟨n,a,N,rfl,O,P,λok s g=>?_,λq s g=>q2 ⟨by lia,by lia⟩ q s g⟩;obtain⟨j,ej,q4,q5⟩:=q3 i S rfl eS ok;have f:=A.same g;refine⟨w.dx,_,.ref w.OW,f.er,rfl,w.OW,rfl,.inl ⟨_,.inl f.eOW⟩,_,.inl ⟨_,.inl n,.inl f.eOW,rfl,rfl⟩,?_⟩;rw[ej]
 conv=>whnf
 refine cF (λc=>?_) (λc=>?_)
 ·have C:¬ j=((i:Nat):Int):=λz=>by
   have V:(!decide (j=((i:Nat):Int)))=true:=c;rw[Ym z]at V;cases V
  exact(q4 C _ g)
 have C:j=((i:Nat):Int):=YO λz=>c (by
  show (!decide (j=((i:Nat):Int)))=true
  rw[Yr z];rfl)
 refine⟨w.dx,_,.ref w.OW,f.er,rfl,w.OW,_,rfl,.inl ⟨_,.inl n,f.eOW,rfl,bY (by lia),rfl⟩,?_⟩;obtain⟨t,W⟩:=f.put (k:=2) (R':={ R with ow:=putK R.ow (.inl n) (.int ((i:Nat):Int)) }) (w':=w) rfl c4K rfl rfl rfl rfl rfl rfl rfl rfl f.ev;have u:=b4P (v:= .dK (putK R.ow (.inl n) (.int ((i:Nat):Int)))) (g.seq O) f.eOW;generalize upd s w.OW _=H2 at t W u;obtain⟨X,a2,D,x,a3,l⟩:=t.step T;have ee:X=S:=Yu (D.symm.trans eS);subst ee;obtain⟨dq,ch,a4,a5,ul,cc,nw,ep⟩:=x.cell;obtain⟨E,F,G,y⟩:=x.hand;refine⟨⟨dq,_,ep,rfl⟩,p,E,X,F,n,a,N,rfl,G,u,P,B _ (YF eS),λ_ I d hd b k=>?_,λq=>absurd ok q⟩;obtain⟨o3,J,L⟩:=y ok I d hd b k;obtain⟨o',a6,M,m3⟩:=l I o3 _ L J;exact q5 C I o' ⟨_,M⟩ ((Mv.of g).trans (W.trans m3))
variable (Zbw:MB P w K mg base (CX0) 12 Zc9 Zge ["self","hearing"] (a9T K Zl CA c3Q))
include ZaN ZR Zx ZY ZN Zo Zhr Zfz Za Zc Zcq Zcp ZK Zal ZaE Zav Zau Zdp Zdn in
theorem Zjb (F0:Fun K "make_turn" "Rail.make_turn" Zgl Zc9 Zge):type_of% Zbw:=by
 refine mbK ["self","hearing","said","bit","heard","post","own","word"] F0 λH Q nd hr h=>?_;obtain⟨r,R,o,w,f,B,rfl,v,ne,sz,q⟩:=h;refine⟨_,(aB (kO (j:=2) nd rfl rfl rfl (ix:=[]) (dN (aR Zc ZK (dv 0))) (λC fp s0 H0 at0=>cY) (λC fp s0 H0 at0=>(bZ Za Zcq Zdp.1 hr.mo Zdp.2 .nil aJ (dv 0))) rfl rfl (by rfl) (show ([".0","post"]:List Str).Nodup by decide +kernel)) (aB (oU (i:=3) nd rfl (Or.inr rfl) (bF (b8Q rfl) rfl Zhr b3W (aA (dv 2) aD))) (aB (kO (j:=4) nd rfl rfl rfl (ix:=[1,0,3]) (fP rfl ZN (aA (bF eZ rfl Zo cP (aA (aR Zc ZK (dv 0)) aD)) aD)) (λC fp s0 H0 at0=>cY) (λC fp s0 H0 at0=>(b1I (K:=K) a2Y hr.mo (pv 1) (aA (dv 0) (aA (bF (b8S (K:=K)) rfl Zo cP (aA (aR Zc Zal (dv 2)) aD)) (aA (dv 3) aD))))) rfl rfl (by rfl) (show ([".0","post","hearing","self","bit"]:List Str).Nodup by decide +kernel)) (aB (jB Y3 rfl (b6N rfl Zfz (aA (aR Zc ZK (dv 0)) aD)) (mg2 (c0S rfl (a0O (gD (i:=5) nd rfl (Or.inl rfl)) (a0O (gD (i:=6) nd rfl (Or.inl rfl)) b5X)))) (aB (bI (dO (bG cJ (aR Zc ZaE (dv 0)) (dv 5) (λ_ _=>rfl)) (aA (bG cJ (dv 2) (dv 5) (λ_ _=>rfl)) aD))) (aB (bI (dO (bG cJ (aR Zc Zav (dv 0)) (dv 5) (λ_ _=>rfl)) (aA (bG cJ (dv 4) (dv 5) (λ_ _=>rfl)) aD))) (aB (aW 7 nd (bN Za Zcp Zdn.1 hr.mo Zdn.2 .nil aJ (dv 6) (aA (bG cJ (dv 4) (dv 5) (λ_ _=>rfl)) aD))) (aF (bC (aY pA (dv 7) aX (aU _)) (aF (bI (dO (aR Zc Zau (dv 0)) (aA (cM (aA (bF eZ rfl Zo cP (aA (aR Zc Zal (dv 0)) aD)) (aA (dv 5) (aA (dv 7) aD)))) aD)))) aQ)))))) (aB (bI (dO (aR Zc Zal (dv 0)) (aA (dv 3) aD))) (aF (aK (dv 3)))))))),?_⟩;refine⟨w.dx,_,.ref w.PL,v.er,rfl,⟨_,Vb v.ePL⟩,dX (xs:=w.ps.map V.ref) (λi N l=>Same H l/\N=((R.ps.take i).map bO).map V.int) ?_ ?_ ?_ ?_ ?_⟩
 ·rintro i N l P ⟨g,rfl⟩;rw[Ya,Ya,Yi];have:=v.lp;exact bY (by lia)
 ·exact⟨Vd _,rfl⟩
 ·rintro i N l P ⟨g,rfl⟩;exact Vb (g _ _ v.ePL)
 ·rintro i x N l hx ⟨g,rfl⟩;rw[Yn]at hx;obtain⟨p,hp,rfl⟩:=YU.mp hx;obtain⟨S,oi,eS,hP,_⟩:=(v.same g).step hp;obtain⟨dq,ch,c4,c5,ul,cc,nw,ep⟩:=hP.cell;obtain⟨D,T⟩:=Ye.mp eS;have tk:R.ps.take (i+1)=R.ps.take i++[S]:=by rw[Yf D,T]
  conv=>whnf
  refine⟨⟨dq,_,ep,rfl⟩,p,S,oi,rfl,hP,g,?_⟩;rw[tk,Yh,Yh];rfl
 rintro N H1 ⟨g1,rfl⟩ U W;rw[Ya,v.pl,Yg (Yb _)];obtain⟨g2,Z⟩:=gA W (.lst ((R.ps.map bO).map V.int));generalize upd H1 U _=H2 at g2 Z;refine⟨_,Vb Z,λz=>ne (by simpa using z),λb bm bl=>?_⟩;obtain⟨hh,c6,q⟩:=q b ⟨bm,bl⟩;have I:=v.same (g1.trans g2);have lp:=v.lp;refine⟨w.dx,_,.ref w.PL,I.er,rfl,_,.inl (Vb I.ePL),?_⟩;rw[Ya,I.pl];refine⟨⟨by lia,by lia⟩,?_⟩;rw[Y2];refine gJ (lo:=0) (n:=R.ps.length) (λi N l=>Same H2 l/\N=((List.range i).map (B b)).map V.int) ?_ ?_ ?_ ?_
 ·rintro i N l P ⟨g,rfl⟩;rw[Ya,Ya,YI];exact bY (by lia)
 ·exact⟨Vd _,rfl⟩
 ·rintro i N l P ⟨g,rfl⟩;have s:=I.same g;obtain⟨f1,f2⟩:=hh i P l ((g1.trans g2).trans g)
  conv=>whnf
  rw[XS];refine⟨f,rfl,f1,w.dx,_,.ref w.BO,s.er,rfl,_,.inl (Vb s.eBO),f1,?_⟩;rw[Ya];refine f2 _ λH4 g4=>⟨g.trans g4,?_⟩
  rw[Jc,Yh,Yh];rfl
 rintro N H3 ⟨g3,rfl⟩ hd J;have a3:=g3 _ _ Z;have s:=(I.same g3).same (aN J (.lst (((List.range R.ps.length).map (B b)).map V.int)));have L:=aN J (.lst (((List.range R.ps.length).map (B b)).map V.int)) _ _ a3;have O:=aC (H:=H3) (a:=hd) (o:= .lst (((List.range R.ps.length).map (B b)).map V.int));have gs:Same H (upd H3 hd (.lst (((List.range R.ps.length).map (B b)).map V.int))):=((g1.trans g2).trans g3).trans (aN J _);have a4:¬ o U:=λz=>by
  have:=v.al U z;cases e:H U with
  |none=>exact this e
  |some u=>rw[g1 _ _ e]at W;cases W
 have a5:¬ o hd:=λz=>by
  have:=v.al hd z;cases e:H hd with
  |none=>exact this e
  |some u=>rw[g3 _ _ ((g1.trans g2) _ _ e)]at J;cases J
 generalize upd H3 hd _=H4 at s L O gs;obtain⟨d,a6⟩:∃d,d=(List.range R.ps.length).map (B b):=⟨_,rfl⟩
 rw[<-a6]at O q;have a7:∀i,i<R.ps.length->d[i]? =some (B b i):=λi P=>by rw[a6,Yn,Xx P];rfl
 refine⟨w.dx,_,.ref w.PL,s.er,rfl,⟨_,Vb s.ePL⟩,b2W (xs:=w.ps.map V.ref) (a:=w.PL) (λi σ l=>∃(o' op:Own)(evs:List V)(x5 x6 x7:Option V),σ= [some (.ref r),some (.ref f),some (.ref U),some (.int b),some (.ref hd),x5,x6,x7]/\dC Zl CA l r (bH R d i) o' { w with op:=op,evs:=evs }/\Mv o H4 o' l) ⟨o,w.op,w.evs,_,_,_,rfl,s,Mv.refl⟩ ?_ ?_ ?_⟩
 ·rintro i σ l P ⟨o',op,evs,x5,x6,x7,rfl,a0,m⟩;exact Vb a0.ePL
 ·rintro i x σ l pr hx ⟨o',op,evs,x5,x6,x7,rfl,a0,m⟩ a8;rw[Yn]at hx;obtain⟨p,hp,rfl⟩:=YU.mp hx;have D:i<R.ps.length:=by rw[<-v.pl];exact(Ye.mp hp).1
  obtain⟨h1,h2,h3,h4,h5,h6,h7⟩:=lA R d i;obtain⟨c7,a9,b0⟩:=h6 i (Yb _);have d6:=v.l2;have d7:=v.l4;have eS:R.ps[i]? =some R.ps[i]:=Yd D;have eX:R.sa[i]? =some (R.sa[i]'(by lia)):=Yd (by lia);have eY:R.he[i]? =some (R.he[i]'(by lia)):=Yd (by lia);have zX:=sz.sa _ (YC (show i<R.sa.length by lia));have zY:=sz.he _ (YC (show i<R.he.length by lia));have zU:=sz.up _ (YC D);have zE:=sz.ev;have zB:=sz.bo;have A:=kZ eS (a7 i D) eX eY;generalize R.ps[i]=S at eS A zU;generalize R.sa[i]'(by lia)=X at eX A zX;generalize R.he[i]'(by lia)=Y at eY A zY;have E:=a0.same (aN a8 (.tup [.int ((i:Nat):Int),.ref p]));have mp:=m.trans (Mv.of (aN a8 (.tup [.int ((i:Nat):Int),.ref p])));refine⟨_,_,Vc aC,?_⟩;generalize upd l pr _=H5 at E mp;obtain⟨a1,b2,c8⟩:=E.sa_at (a9.trans eX);have b3:=E.cs.at_ _ _ c8;have ks:∀{o1:Own}{H1:Hp},Mv o H4 o1 H1->¬ o1 U/\¬ o1 hd/\H1 U=some (.lst ((R.ps.map bO).map V.int))/\H1 hd=some (.lst (d.map V.int)):=λmm=>⟨λz=>(mm.2 _ z).elim a4 λy=>(by rw[L]at y;cases y),λz=>(mm.2 _ z).elim a5 λy=>(by rw[O]at y;cases y),mm.1 _ _ L (.inl a4),mm.1 _ _ O (.inl a5)⟩
  have c9:atI ((R.ps.map bO).map V.int) ((i:Nat):Int)=some (.int (bO S)):=bB (by rw[Yn,Yn,eS];rfl);have b4:atI (d.map V.int) ((i:Nat):Int)=some (.int (B b i)):=bB (by rw[Yn,a7 i D];rfl);refine⟨w.dx,_,.ref w.SA,E.er,rfl,_,.ref a1,Vb E.eSA,bB (by rw[Yn,b2];rfl),⟨_,Vb b3⟩,_,_,Vb (ks mp).2.2.1,c9,_,b3,bY (by rw[Ya];lia),?_⟩;obtain⟨k,m6⟩:=E.say (b:=bO S) (a9.trans eX) b2;have mq:=mp.trans m6;generalize upd H5 a1 _=H6 at k m6 mq;obtain⟨b1,b5,d0⟩:=k.he_at (i:=i) (xs:=Y) (b0.trans eY);have b6:=k.cs.at_ _ _ d0;refine⟨w.dx,_,.ref w.HE,k.er,rfl,_,.ref b1,Vb k.eHE,bB (by rw[Yn,b5];rfl),⟨_,Vb b6⟩,_,_,Vb (ks mq).2.2.2,b4,_,b6,bY (by rw[Ya];lia),?_⟩;obtain⟨b7,m7⟩:=k.hrd (i:=i) (xs:=Y) (b:=B b i) (b0.trans eY) b5;have mr:=mq.trans m7;generalize upd H6 b1 _=H7 at b7 m7 mr;obtain⟨S',oi,T,hP,_,b9⟩:=b7.step hp;have es:S'=S:=Yu (T.symm.trans (c7.trans eS));subst es;obtain⟨dq,ch,c4,c5,ul,cc,nw,ep⟩:=hP.cell;refine⟨⟨dq,_,ep,rfl⟩,_,_,Vb (ks mr).2.2.2,b4,p,S',oi,_,rfl,hP,c6 i,zU,λH8 d1 d2 m8=>?_⟩;obtain⟨o8,c0,F,d3⟩:=b9 H8 d1 _ m8 d2;have ms:=mr.trans d3;have eR:bH R d (i+1)={ ({ bH R d i with ps:=(bH R d i).ps.set i (aZ S' (B b i)).2,sa:=(bH R d i).sa.set i (X++[bO S']),he:=(bH R d i).he.set i (Y++[B b i]) }:RS) with ev:=(bH R d i).ev++evt R.bo.length i (aZ S' (B b i)).1 }:=A;obtain⟨G,d4⟩:∃G,G=(aZ S' (B b i)).1:=⟨_,rfl⟩
  rw[<-d4]at eR ⊢
  conv=>whnf
  refine cF (λc=>?_) (λc=>?_)
  ·have c1:G≠"":=λz=>by
    have c2:(!decide (G=""))=true:=c;rw[Ym z]at c2;cases c2
   refine⟨w.dx,_,.ref w.EV,F.er,rfl,⟨_,Vb F.eEV⟩,w.dx,_,.ref w.BO,F.er,rfl,_,.inl (Vb F.eBO),?_⟩;refine⟨aM rfl,λt ht=>?_⟩;have a2:=F.same (aN ht (.tup [.int ((((bH R d i).bo.map V.int).length:Nat):Int),.int ((i:Nat):Int),.str G]));have mt:=ms.trans (Mv.of (aN ht (.tup [.int ((((bH R d i).bo.map V.int).length:Nat):Int),.int ((i:Nat):Int),.str G])));have et:=aC (H:=H8) (a:=t) (o:= .tup [.int ((((bH R d i).bo.map V.int).length:Nat):Int),.int ((i:Nat):Int),.str G]);refine⟨_,a2.eEV,c3P (by have:=a2.ev.len;have d8:evs.length=(bH R d i).ev.length:=this;show evs.length<=9000;lia),?_⟩;rw[Ya,h1]at et;obtain⟨c3,d5⟩:=a2.happen (e:=(R.bo.length,i,G)) (by rw[Ya,h1];exact et);refine⟨o8,c0,evs++[.ref t],_,_,_,rfl,?_,mt.trans d5⟩;rw[eR,show evt R.bo.length i G= [(R.bo.length,i,G)] from if_neg c1];exact c3
  ·have c1:G="":=YO λz=>c (by
    show (!decide (G=""))=true
    rw[Yr z];rfl)
   refine⟨o8,c0,evs,_,_,_,rfl,?_,ms⟩;rw[eR,show evt R.bo.length i G= [] from if_pos c1,Yv];exact F
 rintro σ H5 ⟨o5,op,evs,x5,x6,x7,rfl,M,m5⟩;rw[Ya,v.pl]at M;have zB:=sz.bo;obtain⟨h1,_⟩:=lA R d R.ps.length;refine⟨w.dx,_,.ref w.BO,M.er,rfl,⟨_,Vb M.eBO⟩,_,M.eBO,bY (by rw[Ya,h1];lia),?_⟩;obtain⟨k,m6⟩:=M.bear (b:=b);refine q _ o5 ⟨{ w with op:=op,evs:=evs },?_⟩ ((Mv.of gs).trans (m5.trans m6));have eT:sY R d b={ bH R d R.ps.length with bo:=(bH R d R.ps.length).bo++[b] }:=by unfold sY;rw[h1]
 rw[eT];exact k
variable (ZdQ:MB P w K mg base (CX0) 9 ZfX Zkx ["self","post"] (a2V Zl CA ZcQ c7Z))
include ZQ ZY Za Zc Zt ZcK ZdP ZC in
theorem Zob (f:Fun K "got" "Rail.got" ZkW ZfX Zkx):type_of% ZdQ:=by
 refine mbK ["self","post"] f λH Q z c h=>?_;obtain⟨r,R,o,w,k,rfl,a,g,j⟩:=h;refine⟨_,(aF (aK (bZ Za ZcK ZdP.1 c.mo ZdP.2 .nil aJ (bN Zc Zt ZC.1 c.mo ZC.2 .nil aJ (dv 0) (aA (dv 1) aD))))),?_⟩;refine⟨⟨w.dx,_,a.er,rfl⟩,r,R,o,w,k,rfl,a,λi p e l=>?_,λm n s=>j m n s⟩;obtain⟨S,A,eS,d,_⟩:=a.step l;have q:=g i S e eS;obtain⟨t,B,u,v,C,cc,D,x⟩:=d.cell;obtain⟨b,y,bd⟩:=d.bd;exact⟨⟨t,_,x,rfl⟩,p,b,S,y,rfl,bd,q⟩
variable (ZcX:MB P w K mg base (CX0) 9 ZeQ Ziv ["self","post"] (a2V Zl CA ZcQ c2A))
include ZQ ZY Za Zc Zt Zb6 ZcW ZC in
theorem Zmp (f:Fun K "waits" "Rail.waits" ZiQ ZeQ Ziv):type_of% ZcX:=by
 refine mbK ["self","post"] f λH Q z c h=>?_;obtain⟨r,R,o,w,k,rfl,a,g,j⟩:=h;refine⟨_,(aF (aK (bZ Za Zb6 ZcW.1 c.mo ZcW.2 .nil aJ (bN Zc Zt ZC.1 c.mo ZC.2 .nil aJ (dv 0) (aA (dv 1) aD))))),?_⟩;refine⟨⟨w.dx,_,a.er,rfl⟩,r,R,o,w,k,rfl,a,λi p e l=>?_,λm n s=>j m n s⟩;obtain⟨S,A,eS,d,_⟩:=a.step l;have q:=g i S e eS;obtain⟨t,B,u,v,C,cc,D,x⟩:=d.cell;obtain⟨b,y,bd⟩:=d.bd;exact⟨⟨t,_,x,rfl⟩,p,b,S,y,rfl,bd,q⟩
variable (ZcA:MB P w K mg base (CX0) 9 Zeq ZhB ["self","post"] (a2V Zl CA ZcQ (gB 18)))
include ZQ ZY Za Zc Zat Zt ZaQ ZC in
theorem Zlq (f:Fun K "is_off" "Rail.is_off" ZhY Zeq ZhB):type_of% ZcA:=by
 refine mbK ["self","post"] f λH Q z c h=>?_;obtain⟨r,R,o,w,k,rfl,a,g,j⟩:=h;refine⟨_,(aF (aK (bZ Za Zat ZaQ.1 c.mo ZaQ.2 .nil aJ (bN Zc Zt ZC.1 c.mo ZC.2 .nil aJ (dv 0) (aA (dv 1) aD))))),?_⟩;refine⟨⟨w.dx,_,a.er,rfl⟩,r,R,o,w,k,rfl,a,λi p e l=>?_,λm n s=>j m n s⟩;obtain⟨S,A,eS,d,_⟩:=a.step l;have q:=g i S e eS;obtain⟨t,B,u,v,C,cc,D,x⟩:=d.cell;obtain⟨b,y,bd⟩:=d.bd;exact⟨⟨t,_,x,rfl⟩,p,b,S,y,rfl,bd,q⟩
variable (ZdR:MB P w K mg base (CX0) 13 ZfY Zky ["self","turns","hearing"] (a6W K Zl CA))
include ZY ZN Zc Zbm Zbw in
theorem Zoc (y:Fun K "run" "Rail.run" ZkX ZfY Zky):type_of% ZdR:=by
 refine mbK ["self","turns","hearing","asked"] y λH Q A B h=>?_;obtain⟨r,R,o,w,n,f,c,rfl,D,ne,W,sz,E,q⟩:=h;refine⟨_,(aB (oU (i:=3) A rfl (Or.inr rfl) (cH (eE (aY uX (dv 2) jC (aU _)) a4Y (dv 2)))) (aF (aK (fB rfl (ix:=[0,3]) (fP rfl ZN (aA (dv 1) aD)) (λC F G I at0=>cY) (λC F G I at0=>(bN Zc Zbm Zbw.1 B.mo Zbw.2 .nil aJ (dv 1) (aA (dv 2) aD))) rfl rfl (by rfl) (show ([".0","turn","self","asked"]:List Str).Nodup by decide +kernel))))),?_⟩;refine⟨λv d=>v= .ref f/\H=d,?_,?_⟩
 ·conv=>whnf
  exact⟨rfl,rfl⟩
 rintro v X ⟨rfl,rfl⟩;refine⟨⟨by lia,by lia⟩,?_⟩;rw[Y2];refine gJ (lo:=0) (n:=n) (λi m d=>∃e,mL Zl CA d r (iM c R i) e/\Mv o H e d/\m=((List.range i).map λk=>a1W (iM c R k)).map V.int) ?_ ?_ ?_ ?_
 ·rintro i m d J ⟨e,_,_,rfl⟩;rw[Ya,Ya,YI];exact bY (by lia)
 ·exact⟨o,⟨w,D⟩,Mv.refl,rfl⟩
 ·rintro i m d J ⟨e,⟨s,a⟩,mv,rfl⟩
  conv=>whnf
  have t:=tL c R i;refine⟨⟨s.dx,_,a.er,rfl⟩,r,iM c R i,e,s,f,λb j=>a1O c j (R.bo.length+i) b,rfl,a,λz=>ne (List.length_eq_zero_iff.mp (by rw[<-t,z];rfl)),sz i (by lia),λb u=>?_⟩;have L:b=a1W (iM c R i):=a7X (λz M=>a.says54 M) u;subst L;rw[t,a4O];refine⟨λj Y N O=>?_,λj=>?_,λx P p S=>?_⟩
  ·have g:rA N f c:=(E.moved mv).same O;exact⟨g.fnE,λZ k=>⟨_,_,_,c,rfl,g,λx T=>k x T⟩⟩
  ·exact b7A (a.says54 u.1)
  ·refine⟨P,p,mv.trans S,?_⟩;rw[Jc,Yh,Yh];rfl
 rintro m d ⟨e,a,mv,rfl⟩ l U;exact q l d e a mv U
variable (ZfC:FB P w K mg base (CX0) 1 "is_size" Zim ZlK ["size","many","number"] (b0C))
include Zaq in
theorem ZoL (b:GFm K mg "is_size" ZlS Zim ZlK):type_of% ZfC:=by
 refine fbK ["size","many","number"] b λH Q f g h=>?_;obtain⟨z,m,n,rfl,a,q⟩:=h;refine⟨_,(aB (bC (aY uR (dv 2) (aP mR (dv 1) aG) (aU _)) (aF (aK (eN fH (dv 0) (bA (v:= .int 5) rfl Zaq ⟨_,rfl⟩) (aU _)))) aQ) (aF (aK (yF (eN sU (dv 0) (bA (v:= .int 5) rfl Zaq ⟨_,rfl⟩) (aU _)) (tX (c4Q (eN pB (dv 0) aG (aU _)) (tX (eN fH (dv 1) aG (aU _))))))))),?_⟩
 conv=>whnf
 refine cF (λc=>?_) (λc=>?_)
 ·have e:((n:Nat):Int)<((m:Nat):Int)-1:=dec_true c;rw[if_pos (by lia)]at a;subst a;exact q
 have e:¬ ((n:Nat):Int)<((m:Nat):Int)-1:=dec_false c;rw[if_neg (by lia)]at a;refine uF (show ((z:Nat):Int)<=5 by lia) ?_
 conv=>whnf
 refine cF (λd=>?_) (λd=>?_)
 ·exact q
 ·have i:¬ (0:Int)<((z:Nat):Int):=dec_false d
  conv=>whnf
  rw[Ym (show ((m:Nat):Int)=1 by lia)];exact q
variable (Zdg:FB P w K mg base (CX0) 2 "check_piece" ZfM ZhK ["piece"] (c0E))
include Zo ZfC in
theorem Zlz (k:GFm K mg "check_piece" Zh7 ZfM ZhK):type_of% Zdg:=by
 refine fbK ["piece","many","number"] k λH Q e m h=>?_;obtain⟨t,l,g,a,b,rfl,c,q⟩:=h;refine⟨_,(aB (bC (aY uR (bF eZ rfl Zo cP (aA (dv 0) aD)) aG (aU _)) (aF bQ) aQ) (aB (aW 1 e (aP oN (bG cJ (dv 0) aG (λ_ _=>rfl)) aG)) (aB (aW 2 e (aP oJ (bG cJ (dv 0) aG (λ_ _=>rfl)) aG)) (aB (bC (aY a6O (dv 2) (dv 1) (aU _)) (aF bQ) aQ) (aF (bC (gH (cW (aL ZfC m.mo aJ (aA (aP mR (bF eZ rfl Zo cP (aA (dv 0) aD)) aG) (aA (dv 1) (aA (dv 2) aD)))))) (aF bQ) aQ)))))),?_⟩;have d:=c.at_;have f:=c.ix.2;have n:=c.lt;have o:=c.n15;refine⟨_,.inl (Vb d),?_⟩;rw[Ya,a4Z];refine oM (by lia) ?_;refine⟨_,_,Vb d,f,⟨by decide,by decide⟩,_,_,Vb d,f,(by show (0:Int)<16;decide),?_⟩;have i:(16*((nP a:Nat):Int)+((b:Nat):Int)) / 16=((nP a:Nat):Int):=by lia
 have j:(16*((nP a:Nat):Int)+((b:Nat):Int)) % 16=((b:Nat):Int):=by lia
 conv=>whnf
 rw[i,j];refine oM (by lia) ?_;refine⟨_,.inl (Vb d),?_⟩;rw[Ya,a4Z];refine⟨min 5 (a.length-5*b),nP a,b,(by show [V.int (((2+min 5 (a.length-5*b):Nat):Int)-2),.int ((16*((nP a:Nat):Int)+((b:Nat):Int)) / 16),.int ((16*((nP a:Nat):Int)+((b:Nat):Int)) % 16)]=_;rw[i,j,show ((2+min 5 (a.length-5*b):Nat):Int)-2=((min 5 (a.length-5*b):Nat):Int) from by lia]),?_,q⟩;unfold nP at n ⊢;split <;> lia
variable (Zcy:MB P w K mg base (CX0) 1 Zen Zhy ["self"] (b0B ZB))
include Zaw Zb Zp ZJ ZE Zw Zz Z6 in
theorem Zln (g:Fun K "__init__" "Joiner.__init__" ZhV Zen Zhy):type_of% Zcy:=by
 refine mbK ["self"] g λH Q k l h=>?_;obtain⟨j,a,rfl,e,q⟩:=h;refine⟨_,(aB (bJ Zb Zp (dv 0) iJ) (aB (bJ Zb ZJ (dv 0) jC) (aB (bJ Zb ZE (dv 0) aG) (aB (bJ Zb Zw (dv 0) aG) (aB (bJ Zb Zz (dv 0) (dJ aD)) (aF (bJ Zb Z6 (dv 0) jC))))))),?_⟩;refine⟨a,_,e,by decide,?_⟩;refine⟨a,_,aC,(show 1<1000 by decide),?_⟩;refine⟨a,_,aC,(show 2<1000 by decide),?_⟩;refine⟨a,_,aC,(show 3<1000 by decide),?_⟩;refine⟨aM rfl,λjl b=>?_⟩;have d:j≠jl:=λz=>by rw[z,aC]at b;cases b
 refine⟨a,_,(aH d).trans aC,(show 4<1000 by decide),?_⟩;refine⟨a,_,aC,(show 5<1000 by decide),?_⟩;generalize hE:upd _ j _=H8;have c:H8 jl=some (.lst []):=by rw[<-hE,aH (Va d),aH (Va d),aC]
 have i:iW H H j:=λ_ _ _ e=>e;exact q _ ⟨false,0,0,0, []⟩ rfl (λt f=>⟨a,.non,jl,by rw[<-hE,aC];rfl,c,λz=>(by rw[<-z,c]at f;cases f),λz=>nomatch z⟩) (by rw[<-hE];exact(i.put.put.put.put.same (aN b _)).put.put)
variable (Za6:MB P w K mg base (CX0) 1 ZeO Zit ["self"] (b4Y ZB))
include Zaw Zb Zp in
theorem Zmn (a:Fun K "end" "Joiner.end" ZiO ZeO Zit):type_of% Za6:=by
 refine mbK ["self"] a λH Q e f h=>?_;obtain⟨j,t,s,rfl,⟨b,g,jl,c,_⟩,d,q⟩:=h;refine⟨_,(aB (bC (gH (cW (aR Zb Zp (dv 0)))) (aF (aK (dJ aD))) aQ) (aB bQ (aB bQ (aF bQ)))),⟨b,_,_,c,rfl,?_⟩⟩;rw[d];exact⟨aM rfl,q⟩
variable (Zbu:MB P w K mg base (CX0) 1 Zc7 Zgc ["self","piece"] (b9U ZB))
include Zaw Zb Zp ZJ ZE Zw in
theorem Zi9 (r:Fun K "goes_on" "Joiner.goes_on" Zgj Zc7 Zgc):type_of% Zbu:=by
 refine mbK ["self","piece"] r λH Q A u h=>?_;obtain⟨j,t,s,l,g,c,b,rfl,⟨d,B,jl,e,_,_,v⟩,⟨o,f,w,x,_⟩,i,q⟩:=h;refine⟨_,(aF (aK (yF (aR Zb Zp (dv 0)) (tX (eN (c3E u.units) (jL qW (dv 1) rW (iC aG)) (dJ (aA (aR Zb ZJ (dv 0)) (aA (aP cG (aP fJ aG (aR Zb ZE (dv 0))) (aR Zb Zw (dv 0))) aD))) (aU _)))))),?_⟩;have C:=i.n15;have D:=i.lt;subst f x;cases v o;refine⟨d,_,_,e,rfl,?_⟩;rw[o];refine⟨_,Vb i.at_,λy k=>?_⟩;obtain⟨a,f⟩:=gA k (.lst ([s.tg,16*((nP c:Nat):Int)+((s.h:Nat):Int)].map V.int));have z:jN ((pc s.tg (nP c) s.h c).map V.int) none (some (2:Int))= [s.tg,16*((nP c:Nat):Int)+((s.h:Nat):Int)].map V.int:=(b3Q _ 2).trans rfl;rw[z];generalize upd H y _=H1 at a f;refine⟨d,_,_,a _ _ e,rfl,d,_,_,a _ _ e,rfl,⟨jP (by decide) (by decide),jP (by lia) (by lia)⟩,d,_,_,a _ _ e,rfl,aM rfl,λE n=>?_⟩;have p:=aN n (.lst [.int s.tg,.int (16*((s.m:Nat):Int)+((s.h:Nat):Int))]);refine⟨_,_,Vb (p _ _ f),Vb (xs:=[s.tg,16*((s.m:Nat):Int)+((s.h:Nat):Int)].map V.int) aC,?_⟩;rw[<-w,Ym rfl];exact q _ (a.trans p)
variable (Z9:MB P w K mg base (CX0) 1 ZcG ZfG ["self","piece"] (rR JSo ZB))
include Zaw Zbn Zb Zp ZJ ZE Zw Zz in
theorem Zic (F0:Fun K "add_piece" "Joiner.add_piece" ZfI ZcG ZfG):type_of% Z9:=by
 refine mbK ["self","piece"] F0 λH Q nd hr h=>?_;obtain⟨j,t,s,l,g,d,b,rfl,⟨f,tv,jl,P,E,a0,ht⟩,⟨R,hg,hm,rfl,S⟩,i,q⟩:=h;refine⟨_,(aB (bJ Zb Zz (dv 0) (aP pC (aR Zb Zz (dv 0)) (jL qW (dv 1) (iC aG) rW))) (aB (bJ Zb Zw (dv 0) (aP cG (aR Zb Zw (dv 0)) aG)) (aB (bC (aY uR (aR Zb Zw (dv 0)) (aR Zb ZE (dv 0)) (aU _)) (aF (aK (dJ aD))) aQ) (aB (bJ Zb Zp (dv 0) iJ) (aF (aK (dJ (aA (cM (aA aX (aA (aR Zb ZJ (dv 0)) (aA (bT mV rfl Zbn oH (aA (aR Zb Zz (dv 0)) aD)) aD)))) aD)))))))),?_⟩;cases ht R;have T:=i.n15;have hb:=i.lt;have a1:=i.ok.2.1;refine⟨f,_,_,P,rfl,_,Vb i.at_,λp1 F=>?_⟩;have ec:jN ((pc g (nP d) s.h d).map V.int) (some (2:Int)) none=((d.drop (5*s.h)).take 5).map V.int:=(a1S (a:=2) (by rw[a4Z];lia)).trans rfl;rw[ec];obtain⟨B,U⟩:=gA F (.lst (((d.drop (5*s.h)).take 5).map V.int));generalize upd H p1 _=H1 at B U;refine⟨_,_,B _ _ E,U,(by rw[S,Ya,Ya,Yi,Yi];exact small (show min (5*s.h) d.length+min 5 (d.drop (5*s.h)).length<=1000 by lia)),λk r=>?_⟩;rw[S,<-Yh,b8Z];obtain⟨W,C⟩:=gA r (.lst ((d.take (5*(s.h+1))).map V.int));generalize upd H1 k _=H2 at W C;have u:=B.trans W;have v:=u _ _ P;have m:k≠j:=λz=>by rw[z,v]at C;cases C
 have w:k≠t:=λz=>i.al (B.none (z▸r));have b2:iW H H2 j:=λ_ _ _ e=>u _ _ e;refine⟨f,_,v,(show 6<1000 by decide),?_⟩;refine⟨f,_,_,aC,rfl,f,_,aC,(show 6<1000 by decide),?_⟩;generalize hE:upd (upd H2 j _) j _=H3;have o:H3 j=some (.ins ZB f (joF ⟨true,g,nP d,s.h+1,d.take (5*(s.h+1))⟩ (.int g) k)):=by
  rw[<-hE,aC,<-hg,<-hm,<-R];rfl
 have G:iW H H3 j:=hE▸b2.put.put;have I:H3 k=some (.lst ((d.take (5*(s.h+1))).map V.int)):=by rw[<-hE,aH m,aH m];exact C
 clear hE;refine⟨f,_,_,o,rfl,f,_,_,o,rfl,?_⟩;unfold JQ a3E nxP at q
 conv=>whnf
 refine cF (λc=>?_) (λc=>?_)
 ·have c1:((s.h+1:Nat):Int)<((nP d:Nat):Int):=dec_true c;rw[if_pos (by lia),if_pos (by lia)]at q;refine⟨aM rfl,λp i=>?_⟩;have J:=aN i (.lst []);exact q p [] _ _ (G.none o i) aC .nil ⟨f,.int g,k,J _ _ o,J _ _ I,w,λ_=>rfl⟩ ⟨rfl,rfl,rfl,rfl,rfl⟩ (G.same J)
 have c1:¬ ((s.h+1:Nat):Int)<((nP d:Nat):Int):=dec_false c;rw[if_neg (by lia),if_neg (by lia)]at q;rw[b4L (by lia)]at o I;refine⟨f,_,o,(show 6<1000 by decide),?_⟩;generalize hE:upd H3 j _=H4;have x:H4 j=some (.ins ZB f (joF ⟨false,g,nP d,s.h+1,d⟩ (.int g) k)):=by rw[<-hE,aC];rfl
 have L:iW H H4 j:=hE▸G.put;have X:H4 k=some (.lst (d.map V.int)):=by rw[<-hE,aH m];exact I
 clear hE;refine⟨f,_,_,x,rfl,f,_,_,x,rfl,_,.inl (Vb X),λpl y=>?_⟩;obtain⟨M,Y⟩:=gA y (.lst (d.map V.int));generalize upd H4 pl _=H5 at M Y;refine⟨aM rfl,λpt N=>?_⟩;obtain⟨D,Z⟩:=gA N (.tup [.str "whole",.int g,.ref pl]);generalize upd H5 pt _=H6 at D Z;refine⟨aM rfl,λp A=>?_⟩;have O:=aN A (.lst [.ref pt]);have n:=M.trans (D.trans O);exact q p [pt] _ _ (L.none x ((M.trans D).none A)) aC (.cons ⟨pl,λz=>i.al (L.none x (z▸y)),O _ _ Z,(D.trans O) _ _ Y⟩ .nil) ⟨f,.int g,k,n _ _ x,n _ _ X,w,λ_=>rfl⟩ rfl (L.same n)
variable (ZaW:MB P w K mg base (CX0) 2 Zb1 ZeZ ["self","piece"] (rR (λs _ _ b=>s.o=false/\b=0) ZB))
include Zaw Zb ZaC Z4 Zp ZJ ZE Zw Zz Z6 Za6 Z9 in
theorem ZgZ (T:Fun K "begin_thing" "Joiner.begin_thing" Zfb Zb1 ZeZ):type_of% ZaW:=by
 refine mbK ["self","piece","told"] T λH Q U L h=>?_;obtain⟨j,t,s,l,g,m,b,rfl,M,⟨W,rfl⟩,c,q⟩:=h;refine⟨_,(aB (aW 2 U (bZ Zb ZaC Za6.1 L.mo Za6.2 .nil aJ (dv 0))) (aB (bJ Zb Z6 (dv 0) jC) (aB (bJ Zb Zp (dv 0) iJ) (aB (bJ Zb ZJ (dv 0) (bG cJ (dv 1) aG (λ_ _=>rfl))) (aB (bJ Zb ZE (dv 0) (aP oN (bG cJ (dv 1) aG (λ_ _=>rfl)) aG)) (aB (bJ Zb Zw (dv 0) aG) (aB (bJ Zb Zz (dv 0) (dJ aD)) (aF (aK (aP pC (dv 2) (bN Zb Z4 Z9.1 L.mo Z9.2 .nil aJ (dv 0) (aA (dv 1) aD)))))))))))),?_⟩;obtain⟨d,tv,jl,B,_⟩:=id M;have N:=c.n15;have hb:=c.lt;have n:l≠j:=λz=>by have:=c.at_;rw[z,B]at this;cases this
 refine⟨⟨d,_,B,rfl⟩,j,t,s,rfl,M,W,λO C=>?_⟩;obtain⟨A,f⟩:=gA C (.lst []);generalize upd H O _=H1 at A f;have p:=A _ _ B;have P:O≠j:=λz=>by rw[z,p]at f;cases f
 have r:=A _ _ c.at_;refine⟨d,_,p,(show 6<1000 by decide),?_⟩;refine⟨d,_,aC,(show 6<1000 by decide),?_⟩;refine⟨_,_,Vb ((aH n).trans ((aH n).trans r)),c.ix.1,d,_,aC,(show 6<1000 by decide),?_⟩;refine⟨_,_,Vb ((aH n).trans ((aH n).trans ((aH n).trans r))),c.ix.2,⟨by decide,by decide⟩,d,_,aC,(show 6<1000 by decide),?_⟩;refine⟨d,_,aC,(show 6<1000 by decide),?_⟩;refine⟨aM rfl,λo a=>?_⟩;have u:j≠o:=λz=>by rw[<-z,aC]at a;cases a
 refine⟨d,_,(aH u).trans aC,(show 6<1000 by decide),?_⟩;have R:iW H H1 j:=λ_ _ _ e=>A _ _ e;have X:iW H1 H1 j:=λ_ _ _ e=>e;have D:o≠t:=λz=>c.al (R.put.put.put.put.put.none aC (z▸a));generalize hE:upd _ j _=H8;have b8:iW H H8 j:=by rw[<-hE];exact(R.put.put.put.put.put.same (aN a _)).put
 have Y:iW H1 H8 j:=by rw[<-hE];exact(X.put.put.put.put.put.same (aN a _)).put
 have E:H8 j=some (.ins ZB d (joF ⟨true,g,nP m,0, []⟩ (.int g) o)):=by
  rw[<-hE,aC];have Z:(16*((nP m:Nat):Int)+((0:Nat):Int)) / 16=((nP m:Nat):Int):=by lia
  show some (HO.ins ZB d [("opened",.bl true),("tag",.int g),("many",.int ((16*((nP m:Nat):Int)+((0:Nat):Int)) / 16)),("had",.int 0),("joined",.ref o),("broken_tag",.non)])=_;rw[Z];rfl
 have f8:H8 o=some (.lst []):=by rw[<-hE,aH (Va u),aC]
 clear hE a;refine⟨⟨d,_,E,rfl⟩,j,t,⟨true,g,nP m,0, []⟩,l,g,m,0,rfl,⟨d,_,o,E,f8,D,λ_=>rfl⟩,⟨rfl,rfl,rfl,rfl,rfl⟩,⟨λz=>c.al (b8.none E z),c.lt,c.ok,b8 _ _ n c.at_⟩,λp9 v H9 s9 a0 F w x G S=>?_⟩;obtain⟨a1,a2,a3,I,_⟩:=id x;have y:=b8.trans S;refine⟨_,_,S _ _ P (Y _ _ P f),F,(by have:=w.len;unfold a3E at this;rw[Ya,this];split <;> exact aM rfl),λJ i=>?_⟩;have k:=aN i (.lst (v.map V.ref));exact q J v _ s9 (y.none I i) aC (w.same k) (x.same k) G (y.same k)
variable (Zcz:MB P w K mg base (CX0) 4 Zeo Zhz ["self","piece"] (rR JSt ZB))
include Zaw Zb Z4 Za0 Zbk Zdg Zbu Z9 ZaW in
theorem Zlo (y:Fun K "take" "Joiner.take" ZhW Zeo Zhz):type_of% Zcz:=by
 refine mbK ["self","piece","number"] y λH Q z k h=>?_;obtain⟨j,t,s,l,g,d,b,rfl,m,f,a,q⟩:=h;refine⟨_,(aB (bI (aL Zdg k.mo aJ (aA (dv 1) aD))) (aB (aW 2 z (aP oJ (bG cJ (dv 1) aG (λ_ _=>rfl)) aG)) (aB (bC (aY fH (dv 2) aG (aU _)) (aF (aK (bN Zb Za0 ZaW.1 k.mo ZaW.2 .nil aJ (dv 0) (aA (dv 1) aD)))) aQ) (aB (bC (cW (bN Zb Zbk Zbu.1 k.mo Zbu.2 .nil aJ (dv 0) (aA (dv 1) aD))) (aF (aK (bN Zb Z4 Z9.1 k.mo Z9.2 .nil aJ (dv 0) (aA (dv 1) aD)))) aQ) (aF bQ))))),?_⟩;obtain⟨n,J,jl,o,_⟩:=id m;have w:=a.n15;have L:=a.lt;refine⟨t,l,g,d,b,rfl,a,?_⟩;refine⟨_,_,Vb a.at_,a.ix.2,(by show (0:Int)<16;decide),?_⟩
 conv=>whnf
 rw[show (16*((nP d:Nat):Int)+((b:Nat):Int)) % 16=((b:Nat):Int) from by lia];unfold JSt at f;by_cases c:b=0
 ·subst c;exact⟨⟨n,_,o,rfl⟩,j,t,s,l,g,d,0,rfl,m,⟨f,rfl⟩,a,q⟩
 rw[if_neg c]at f;refine oM (show ¬ ((b:Nat):Int)=0 by lia) ?_;refine⟨⟨n,_,o,rfl⟩,j,t,s,l,g,d,b,rfl,m,f,a,λM i=>?_⟩;exact⟨⟨n,_,i _ _ o,rfl⟩,j,t,s,l,g,d,b,rfl,m.same i,f,a.same i,λp A B C r D E v F G=>q p A B C (i.none r) D E v F λx u I e=>G x u I (i _ _ e)⟩
variable (ZfD:FB P w K mg base (CX0) 5 "told_of" Zio ZlN ["joiner","data"] (rR JSt ZB))
include Zaw Zb ZbW Zcz in
theorem ZoO (c:GFm K mg "told_of" ZlV Zio ZlN):type_of% ZfD:=by
 refine fbK ["joiner","data"] c λH Q n d h=>?_;obtain⟨j,t,s,l,g,e,b,rfl,a,f,i,q⟩:=h;refine⟨_,(aF (b5S (aF (aK (bN Zb ZbW Zcz.1 d.mo Zcz.2 .nil aJ (dv 0) (aA (dv 1) aD)))))),?_⟩;obtain⟨k,o,jl,m,_⟩:=id a;exact⟨⟨k,_,m,rfl⟩,j,t,s,l,g,e,b,rfl,a,f,i,q⟩
variable (ZbB:FB P w K mg base (CX0) 1 "number_in" ZgJ Zjw ["word"] (b9S))
include Zd5 Zhq Zo ZmL in
theorem Zns (F0:GFm K mg "number_in" ZjV ZgJ Zjw):type_of% ZbB:=by
 refine fbK ["word"] F0 λH Q M N h=>?_;obtain⟨n,rfl,D,q⟩:=h;refine⟨_,(aB (bC (gH (tZ sU sU aG (bF a8T rfl Zo cP (aA (dv 0) aD)) (bA (v:= .int 6) rfl Zd5 ⟨_,rfl⟩))) (aF bQ) aQ) (aB (bC (gH (cW (bF (b7T rfl) rfl Zhq b3X (aA (fB rfl (ix:=[]) (b2C (dv 0)) (λC E F G at0=>cY) (λC E F G at0=>(eN c3D (dv 0) aX rfl)) rfl rfl (by rfl) (show ([".0","sign"]:List Str).Nodup by decide +kernel)) aD)))) (aF bQ) aQ) (aB (bC (PW.pt (lH (aY fH (bG c3C (dv 0) aG (λ_ _=>rfl)) aX (aU _)) (jV (aY pB (bF a8T rfl Zo cP (aA (dv 0) aD)) aG (aU _))))) (aF bQ) aQ) (aF (aK (bT b8T rfl ZmL c2Q (aA (dv 0) aD))))))),?_⟩;rw[show My.num n=txt (dgs n) from a5F n];obtain⟨l1,I,k,hd,y⟩:=yC D;generalize dgs n=l at l1 I k hd y;have m:(txt l).length<=sizeLine:=by rw[nR];exact szl (by lia)
 refine⟨m,?_⟩;rw[nR];refine uF (show (1:Int)<=((l.length:Nat):Int) by lia) ?_
 conv=>whnf
 refine a5Q (show ((l.length:Nat):Int)<=6 by lia) ?_;refine⟨trivial,a8K (z:=txt l) (λi g b=>g=((l.take i).map b2N).map V.bl/\b=H) ?_ ⟨rfl,rfl⟩ ?_ ?_⟩
 ·rintro i g b A ⟨rfl,_⟩;rw[Ya,Ya,Yi];exact c3P (by lia)
 ·rintro i c g b o ⟨rfl,rfl⟩;have p:l[i]? =some c:=by
   have:(l.toArray)[i]? =some c:=o
   rwa [List.getElem?_toArray]at this
  obtain⟨A,r⟩:=Ye.mp p;refine⟨?_,rfl⟩;have e:=c5P c;rw[e,Yf A,r,Yh,Yh];rfl
 rintro g b ⟨rfl,rfl⟩ J s;have t:(txt l).cps.size=l.length:=by show (l.toArray).size=_;rw[YE]
 rw[t,Yg (Yb _)];refine⟨l.map b2N,Vb aC,?_⟩;have B:=aN s (.lst ((l.map b2N).map V.bl));rw[List.all_map];generalize upd b J _=H2 at B;rw[show (l.all (id ∘ b2N))=true from Xc.mpr λc o=>Ym (k c o)];obtain⟨a,d,u⟩:∃a d,l=a::d:=by
  cases l with
  |nil=>exact absurd l1 (by decide)
  |cons a d=>exact⟨a,d,rfl⟩
 have fin:∃n,PySem.intText? (txt l)=some n/\(txt l).length<=640/\Q (.int n) H2:=by
  have e:=PySem.intText_digits (x:=txt l) (by rw[rM];exact k) (by rw[rM,u];simp) (by rw[nR];lia);rw[rM,y]at e;exact⟨_,e,by rw[nR];lia,q H2 B⟩
 refine⟨a,m,by rw[rM,u];exact bB (j:=0) (xs:=a::d) rfl,?_⟩;have w:l.headD 0=a:=by rw[u];rfl
 have f:(⟨#[a]⟩:Str)=("0":Str)->a=48:=λL=>by
  have:[a]= [48]:=YJ (λx:Str=>x.cps.toList) L;exact(Jl this).1
 generalize (⟨#[a]⟩:Str)=w0 at f ⊢
 conv=>whnf
 refine cF (λc=>⟨m,?_⟩) (λc=>fin);rw[nR];exact oM (λz=>hd ⟨w.trans (f (dec_true c)),by lia⟩) fin
variable (Zd8:FB P w K mg base (CX0) 2 "choice_of" ZgH Zju ["word"] (c0D))
include Zo ZbB in
theorem Znq (s:GFm K mg "choice_of" ZjT ZgH Zju):type_of% Zd8:=by
 refine fbK ["word","parts","mask","match_bits"] s λH Q f n h=>?_;obtain⟨a,b,rfl,g,i,q⟩:=h;refine⟨_,(aB (aW 1 f (a0Y (dv 0) (aA aX aD))) (aB (bC (aY pA (bF eZ rfl Zo cP (aA (dv 1) aD)) aG (aU _)) (aF bQ) aQ) (aB (aW 2 f (aL ZbB n.mo aJ (aA (bG cJ (dv 1) aG (λ_ _=>rfl)) aD))) (aB (aW 3 f (aL ZbB n.mo aJ (aA (bG cJ (dv 1) aG (λ_ _=>rfl)) aD))) (aB (bC (PW.pt (b0S (aY uX (dv 2) jC (aU _)) (a3B (aY uX (dv 3) jC (aU _))))) (aF bQ) aQ) (aF (aK (cM (aA (dv 2) (aA (dv 3) aD)))))))))),?_⟩;have j:("/":Str)=mQ 47:=by decide +kernel
 have hw:∀w∈ [My.num a,My.num b],47∉w.cps.toList:=λw hw=>by
  rcases YL.mp hw with rfl | hw
  ·exact nF g (by decide)
  ·rw[Yw.mp hw];exact nF i (by decide)
 have o:Txt.split (vlT (.cho a b)) "/"= [My.num a,My.num b]:=by
  have:=tG (c:=47) (ws:=[My.num a,My.num b]) (by simp) hw;rw[<-j]at this;refine Eq.trans (YJ (Txt.split · "/") ?_) this;rw[gQ];rfl
 refine⟨by decide +kernel,szl (YK (Fit.word (k:="choice") (v:= .cho a b) ⟨rfl,g,i⟩).1 (by decide)),by rw[o];exact aM rfl,λpl l=>?_⟩;rw[o];obtain⟨m,d⟩:=gA l (.lst [.str (My.num a),.str (My.num b)]);generalize hE:upd H pl _=H1;have m:Same H H1:=hE▸m;have d:H1 pl=some (.lst [.str (My.num a),.str (My.num b)]):=hE▸d;refine⟨_,.inl (Vb d),?_⟩;refine⟨_,_,Vb d,rfl,a,rfl,g,λx p=>?_⟩;refine⟨_,_,Vb (p _ _ d),rfl,b,rfl,i,λy u=>?_⟩;refine⟨aM rfl,λt r=>?_⟩;have e:=m.trans (p.trans u);exact q t _ (e.none r) (e.trans (aN r _)) aC
variable (ZeK:FB P w K mg base (CX0) 3 "value_of" Zho ZkF ["word","kind","ahead"] (b9M))
include Ze9 Zfv ZbB Zd8 in
theorem Zoj (F0:GFm K mg "value_of" Zk4 Zho ZkF):type_of% ZeK:=by
 refine fbK ["word","kind","ahead","number"] F0 λH Q j f h=>?_;obtain⟨v,k,al,rfl,i,q⟩:=h;refine⟨_,(aB (bC (aY fH (dv 1) aX (aU _)) (aF bQ) aQ) (aB (bC (aY fH (dv 1) aX (aU _)) (aF (aK (aL Zd8 f.mo aJ (aA (dv 0) aD)))) aQ) (aB (aW 3 j (aL ZbB f.mo aJ (aA (dv 0) aD))) (aB (bC (aY uX (dv 3) jC (aU _)) (aF bQ) aQ) (aB (bC (PW.pt (lH (aY fH (dv 1) aX (aU _)) (jV (aY pB (dv 3) (bA (v:= .int 2000) rfl Ze9 ⟨_,rfl⟩) (aU _))))) (aF bQ) aQ) (aB (bC (PW.pt (lH (aY fH (dv 1) aX (aU _)) (jV (aY pB (dv 3) (aP cG (bG cJ (dv 2) (b1B a8S aG) (λ_ _=>rfl)) (bA (v:= .int 400) rfl Zfv ⟨_,rfl⟩)) (aU _))))) (aF bQ) aQ) (aF (aK (dv 3))))))))),?_⟩;cases v with
 | cho a b=>
  obtain⟨rfl,l,m⟩:=i;exact⟨a,b,rfl,l,m,λt c _ g e=>q _ c g (.cho e .nil) (.inr ⟨_,rfl⟩)⟩
 | num n=>
  rcases i with ⟨rfl,d⟩ | ⟨rfl,d⟩
  ·exact⟨n,rfl,d,λc g=>q _ c g (.num .nil) (.inl ⟨_,rfl⟩)⟩
  ·refine⟨n,rfl,Xk d (by decide),λc g=>?_⟩;have o:=q _ c g (.num .nil) (.inl ⟨_,rfl⟩)
   conv=>whnf
   exact oM (show ¬ (2000:Int)<((n:Nat):Int) by lia) o
variable (ZeJ:FB P w K mg base (CX0) 4 "read_row" Zhn ZkE ["words"] (b4U K))
include ZcE ZN Zo Zap ZeK in
theorem Zoi (X:GFm K mg "read_row" Zk3 Zhn ZkE):type_of% ZeJ:=by
 refine fbK ["words","needed","values","place","kind","value"] X λH Q s Y h=>?_;obtain⟨a,x,b,rfl,w,⟨m,A,⟨t,u,I,S,J⟩,h1,h2,Z⟩,q⟩:=h;refine⟨_,(aB (bC (b0W (a7J Zap.1 (bG cJ (dv 0) aG (λ_ _=>rfl)) (bA (v:= .ref ZgN) rfl ZcE rfl)) rfl) (aF bQ) aQ) (aB (aW 1 s (bG dY (xW Zap.1 (bA (v:= .ref ZgN) rfl ZcE rfl) (bG cJ (dv 0) aG (λ_ _=>rfl)) (λ_ _=>rfl)) aG (λ_ _=>rfl))) (aB (aW 2 s (dJ aD)) (aB (jB Y3 rfl (a7R rfl ZN (aA aG (aA (bF eZ rfl Zo cP (aA (dv 0) aD)) aD))) (gD (i:=3) s rfl (Or.inl rfl)) (aB (aW 4 s (cH (eE (aY sU (dv 3) (bF eZ rfl Zo cP (aA (dv 1) aD)) (aU _)) (bG dY (dv 1) (aP mR (dv 3) aG) (λ_ _=>rfl)) (bG dY (xW Zap.1 (bA (v:= .ref ZgN) rfl ZcE rfl) (bG cJ (dv 0) aG (λ_ _=>rfl)) (λ_ _=>rfl)) aG (λ_ _=>rfl))))) (aB (aW 5 s (aL ZeK Y.mo aJ (aA (bG cJ (dv 0) (dv 3) (λ_ _=>rfl)) (aA (dv 4) (aA (dv 2) aD))))) (aB (bC (aY uX (dv 5) jC (aU _)) (aF bQ) aQ) (aF (bI (dO (dv 2) (aA (dv 5) aD)))))))) (aB (bC (aY uR (bF eZ rfl Zo cP (aA (dv 2) aD)) (bF eZ rfl Zo cP (aA (dv 1) aD)) (aU _)) (aF bQ) aQ) (aF (aK (dv 2)))))))),?_⟩;have L:atI ((x::b.map vlT).map V.str) 0=some (.str x):=bB (j:=0) rfl;have B:((x::b.map vlT).map V.str).length=b.length+1:=by simp
 conv=>whnf
 refine⟨_,_,w,L,.inr x,rfl,rfl,_,rfl,?_⟩;rw[I]
 conv=>whnf
 refine⟨_,_,w,L,.inr x,_,rfl,rfl,I,?_⟩
 conv=>whnf
 refine⟨_,_,S.sq H,bB (j:=0) rfl,aM rfl,λl k=>?_⟩;obtain⟨M,T⟩:=gA k (.lst []);generalize upd H l _=H1 at M T;refine⟨_,.inl (M.seq w),?_⟩;rw[B];refine⟨⟨by decide,by decide,by lia,by lia⟩,?_⟩;rw[show ((((b.length+1:Nat):Int)-1).toNat)=b.length from by lia];refine oG (lo:=1) (n:=b.length) (λi N d=>(∃C D E,N= [some (.ref a),some (.ref u),some (.ref l),C,D,E])/\Same H d/\∃xs,d l=some (.lst xs)/\fQ d xs (b.take i)) ⟨⟨_,_,_,rfl⟩,M, [],T,.nil⟩ ?_ ?_
 ·rintro i N d U ⟨⟨C,D,E,rfl⟩,g,xs,f,r⟩;refine⟨λv W=>v= .str (A.getD i m)/\W=d,?_,?_⟩
  ·conv=>whnf
   refine⟨_,.inr (J.sq d),?_⟩;rw[Ya];obtain⟨n,en⟩:∃n,n=A.length:=⟨_,rfl⟩
   rw[<-en]
   conv=>whnf
   refine cF (λc=>?_) (λc=>?_)
   ·have c1:(1:Int)+((i:Nat):Int)<=((n:Nat):Int):=dec_true c;have F:i<A.length:=by lia
    refine⟨_,_,J.sq d,?_,rfl,rfl⟩;rw[show (1:Int)+((i:Nat):Int)-1=((i:Nat):Int) from by lia];exact bB (by rw[Yn,Yd F,Yj,Yd F];rfl)
   ·have c1:¬ (1:Int)+((i:Nat):Int)<=((n:Nat):Int):=dec_false c;refine⟨_,_,g.seq w,L,.inr x,_,rfl,rfl,I,_,_,S.sq d,bB (j:=1) rfl,?_,rfl⟩;rw[Yj,List.getElem?_eq_none (by lia)];rfl
  rintro v W ⟨rfl,rfl⟩;have G:b[i]? =some b[i]:=Yd U;refine⟨_,.str (vlT b[i]),g.seq w,?_,?_⟩
  ·rw[show (1:Int)+((i:Nat):Int)=(((i+1:Nat)):Int) from by lia];exact bB (by rw[Yn,List.getElem?_cons_succ,Yn,G];rfl)
  refine⟨b[i],A.getD i m,l,rfl,Z.get G,λy O P hy hk=>?_⟩;have p:=P _ _ f;have R:xs.length<sizeLine:=bY (by rw[r.len,Yi];lia);have nl:∀z u,H z=some u->z≠l:=λz u e c=>by rw[c,k]at e;cases e
  have fin:(∃C D E, [some (V.ref a),some (.ref u),some (.ref l),some (.int (1+((i:Nat):Int))),some (.str (A.getD i m)),some y]= [some (V.ref a),some (.ref u),some (.ref l),C,D,E])/\Same H (upd O l (.lst (xs++[y])))/\∃xs',upd O l (.lst (xs++[y])) l=some (.lst xs')/\fQ (upd O l (.lst (xs++[y]))) xs' (b.take (i+1)):=by
   refine⟨⟨_,_,_,rfl⟩,λz o e=>by rw[aH (nl z o e)];exact P _ _ (g _ _ e),xs++[y],aC,?_⟩;rw[Yf U];exact(hy.append (r.imp λz zs e=>P _ _ e)).imp λz zs e=>by rw[aH λc=>by rw[c,p]at e;cases e];exact e
  rcases hk with ⟨z,rfl⟩ | ⟨z,rfl⟩ <;> exact⟨⟨_,Vb p⟩,_,p,R,fin⟩
 rintro N d ⟨⟨C,D,E,rfl⟩,g,xs,f,r⟩;rw[Yg (Yb _)]at r;refine⟨_,.inl (Vb f),_,.inr (J.sq d),?_⟩;rw[Ya,r.len];refine oM (by lia) ?_;exact q l _ _ k g f r
variable (Zdh:FB P w K mg base (CX0) 2 "check_thing" ZfN ZhL ["tag","thing"] (b5C K))
include Zct Zo ZaT in
theorem ZlA (l:GFm K mg "check_thing" Zh8 ZfN ZhL):type_of% Zdh:=by
 refine fbK ["tag","thing"] l λH Q p f h=>?_;obtain⟨g,a,m,rfl,i,c,q⟩:=h;refine⟨_,(aB (bC (gH (cW (aL ZaT f.mo aJ (aA (dJ (aA (dv 0) aD)) aD)))) (aF bQ) aQ) (aB (bC (aY pB (bF eZ rfl Zo cP (aA (dv 1) aD)) (bA (v:= .int 75) rfl Zct ⟨_,rfl⟩) (aU _)) (aF bQ) aQ) (aF (bC (gH (cW (aL ZaT f.mo aJ (aA (dv 1) aD)))) (aF bQ) aQ)))),?_⟩;have r:=c.2.1;refine⟨aM rfl,λb d=>?_⟩;have j:=aN d (.lst [.int g]);have k:upd H b (.lst [.int g]) b=some (.lst ([g].map V.int)):=aC;refine⟨b, [g],rfl,.inl (Vb k),(show 1<=500 by decide),λs n=>?_⟩;rw[XU,c.1];have e:=j.trans n;refine⟨_,.inl (e.seq i),?_⟩;rw[Ya];refine oM (by lia) ?_;refine⟨a,m,rfl,.inl (e.seq i),by lia,λt o=>?_⟩;rw[c.2.2];exact q _ (e.trans o)
variable (ZeI:FB P w K mg base (CX0) 1 "piece_of" Zhm ZkD ["tag","many","number","thing"] (b4W K))
include Zaq in
theorem Zoh (p:GFm K mg "piece_of" Zk2 Zhm ZkD):type_of% ZeI:=by
 refine fbK ["tag","many","number","thing","start"] p λH Q r B h=>?_;obtain⟨g,n,k,a,b,rfl,s,C,D,E,q⟩:=h;refine⟨_,(aB (aW 4 r (aP fJ (bA (v:= .int 5) rfl Zaq ⟨_,rfl⟩) (dv 2))) (aF (aK (aP pC (dJ (aA (dv 0) (aA (aP cG (aP fJ aG (dv 1)) (dv 2)) aD))) (jL qW (dv 3) (iC (dv 4)) (iC (aP cG (dv 4) (bA (v:= .int 5) rfl Zaq ⟨_,rfl⟩)))))))),?_⟩;refine⟨⟨by decide,jP (by lia) (by lia)⟩,⟨by decide,jP (by lia) (by lia)⟩,aM rfl,λt f=>?_⟩;obtain⟨i,l⟩:=gA f (.lst [.int g,.int (16*((n:Nat):Int)+((k:Nat):Int))]);generalize upd H t _=H1 at i l;refine⟨_,i.seq s,λj d=>?_⟩;have u:jN (b.map V.int) (some ((5:Int)*((k:Nat):Int))) (some ((5:Int)*((k:Nat):Int)+5))=((b.drop (5*k)).take 5).map V.int:=by
  have w:(5:Int)*((k:Nat):Int)=((5*k:Nat):Int):=by lia
  have x:(5:Int)*((k:Nat):Int)+5=((5*k+5:Nat):Int):=by lia
  rw[x,w];unfold jN;rw[HT.sIx_nat,HT.sIx_nat,Ya,List.map_take,List.map_drop];by_cases z:5*k<=b.length
  ·rw[Xp z];by_cases y:5*k+5<=b.length
   ·rw[Xp y];congr 1;lia
   ·rw[Nat.min_eq_right (by lia),Yg (by rw[Xl,Ya];exact Yb _),Yg (by rw[Xl,Ya];lia)]
  ·rw[Nat.min_eq_right (by lia:b.length<=5*k),Nat.min_eq_right (by lia),XT (by rw[Ya];exact Yb _),XT (by rw[Ya];lia)];simp
 have F:=aN d (.lst (((b.drop (5*k)).take 5).map V.int));have m:upd H1 j (.lst (jN (b.map V.int) (some ((5:Int)*((k:Nat):Int))) (some ((5:Int)*((k:Nat):Int)+5)))) j=some (.lst (((b.drop (5*k)).take 5).map V.int)):=by rw[aC,u]
 have c:=aN d (.lst (jN (b.map V.int) (some ((5:Int)*((k:Nat):Int))) (some ((5:Int)*((k:Nat):Int)+5))));generalize upd H1 j (.lst (jN (b.map V.int) (some ((5:Int)*((k:Nat):Int))) (some ((5:Int)*((k:Nat):Int)+5))))=H2 at m c;refine⟨_,_,c _ _ l,m,(by rw[Ya,Yi];exact small (by show 2+_<=1000;lia)),λA e=>?_⟩;have o:=i.trans c;refine q A _ (o.none e) (o.trans (aN e _)) ?_;rw[aC];unfold pc;rw[Yh];rfl
variable (Zkr:FB P w K mg base (CX0) 3 "cut" ZoE Zpa ["tag","thing"] (c0C K))
include Zaq ZN Zbn Zo Zd6 Zdh ZeI in
theorem Zpf (S:GFm K mg "cut" Zpc ZoE Zpa):type_of% Zkr:=by
 refine fbK ["tag","thing","starts","many"] S λH Q E F h=>?_;obtain⟨g,a,b,rfl,t,ok,T⟩:=h;refine⟨_,(aB (bI (aL Zdh F.mo aJ (aA (dv 0) (aA (dv 1) aD)))) (aB (aW 2 E (a3G rfl rfl Zbn rfl ZN (aA aG (aA (bF eZ rfl Zo cP (aA (dv 1) aD)) (aA (bA (v:= .int 5) rfl Zaq ⟨_,rfl⟩) aD))))) (aB (oU (i:=3) E rfl (Or.inr rfl) (bF (wQ rfl) rfl Zd6 yZ (aA aG (aA (bF eZ rfl Zo cP (aA (dv 2) aD)) aD)))) (aF (aK (fB rfl (ix:=[0,3,1]) (fP rfl ZN (aA (dv 3) aD)) (λC U W X at0=>cY) (λC U W X at0=>(aL ZeI F.mo aJ (aA (dv 1) (aA (dv 2) (aA (dv 0) (aA (dv 3) aD)))))) rfl rfl (by rfl) (show ([".0","number","tag","many","thing"]:List Str).Nodup by decide +kernel))))))),?_⟩;have G:b.length<=500:=YK ok.2.1 (by decide);refine⟨g,a,b,rfl,t,ok,λY I=>?_⟩;refine⟨_,.inl (I.seq t),?_⟩;rw[Ya];refine⟨by decide,PyProof.noPylong_small (by decide),(b.length+4) / 5,c0G (by lia),b8C b.length,by lia,λZ u=>?_⟩;obtain⟨J,L⟩:=gA u (.lst ((List.range ((b.length+4) / 5)).map λk=>V.int ((0:Int)+((k:Nat):Int)*5)));generalize upd Y Z _=H2 at J L;have gs:=I.trans J;refine⟨_,.inl (Vb L),?_⟩;rw[Ya,YI];have a0:=c4N G;have em:max (1:Int) ((((b.length+4) / 5:Nat):Int))=((nP b:Nat):Int):=by unfold nP;lia
 have M:(max (1:Int) ((((b.length+4) / 5:Nat):Int))).toNat=nP b:=by lia
 refine⟨⟨by lia,by lia⟩,gJ (λi s o=>∃c:List Addr,s=c.map V.ref/\c.length=i/\(∀q∈c,H q=none/\o q≠none)/\c.Nodup/\Same H o/\Pcs o g (nP b) b c) ?_ ⟨[],rfl,rfl,(λ_ z=>nomatch z),XD,gs,λk q z=>nomatch z⟩ ?_ ?_⟩
 ·rintro i s o N ⟨c,rfl,f,_⟩;refine bY ?_;rw[Ya];lia
 ·rintro i s o N ⟨c,rfl,f,d,j,m,w⟩;rw[M]at N;have ez:(0:Int)+(i:Int)=((i:Nat):Int):=XS _;refine⟨g,nP b,i,a,b,?_,m.seq t,G,by lia,by lia,λO H3 r A P=>⟨c++[O],?_,?_,?_,?_,m.trans A,?_⟩⟩
  ·show [V.int g,V.int (max 1 ((((b.length+4) / 5:Nat):Int))),V.int (0+(i:Int)),V.ref a]=_;rw[em,ez]
  ·rw[Yh];rfl
  ·rw[Yc,Yy,f]
  ·intro q B;rcases YM.mp B with z | z
   ·refine⟨(d q z).1,λy=>(d q z).2 (A.none y)⟩
   ·rw[Yw.mp z];exact⟨m.none r,by rw[P];simp⟩
  ·exact Je.mpr ⟨j,by simp,λx hx y hy=>by rw[Yw.mp hy];exact λe=>(d x hx).2 (e▸r)⟩
  ·intro k q n;by_cases z:k<c.length
   ·rw[YN z]at n;exact A _ _ (w k q n)
   ·rw [YH (by lia)]at n;have D:k-c.length=0:=by
     have:=(Ye.mp n).1;simpa using this
    rw[D]at n;have eq:O=q:=Yu n;subst eq;have ek:k=i:=by lia
    subst ek;exact P
 rintro s H5 ⟨c,rfl,f,d,j,m,w⟩ p l;rw[M]at f;have R:=aN l (.lst (c.map V.ref));exact T p c _ (m.none l) (λq B=>(d q B).1) j (λz=>(d p z).2 l) (m.trans R) aC f (w.same R)
variable (Zf2:FB P w K mg base (CX0) 1 "dotted" Zj9 Zm8 ["numbers"] (c3U K))
include ZaA in
theorem Zo1 (j:GFm K mg "dotted" ZnA Zj9 Zm8):type_of% Zf2:=by
 refine fbK ["numbers"] j λH Q s t h=>?_;obtain⟨a,e,rfl,f,k,g,q⟩:=h;refine⟨_,(aF (aK (lF aX (aA (fB rfl (ix:=[]) (dN (dv 0)) (λC l m n at0=>cY) (λC l m n at0=>(bT fV rfl ZaA fX (aA (dv 0) aD))) rfl rfl (by rfl) (show ([".0","number"]:List Str).Nodup by decide +kernel)) aD)))),?_⟩;refine⟨⟨_,f⟩,dX (xs:=e.map V.int) (λi b c=>b=((e.take i).map itT).map V.str/\c=H) ?_ ⟨rfl,rfl⟩ ?_ ?_ ?_⟩
 ·rintro i b c d ⟨rfl,_⟩;rw[Ya,Ya,Yi];exact bY (by lia)
 ·rintro i b c d ⟨_,rfl⟩;exact f
 ·rintro i x b c o ⟨rfl,rfl⟩;obtain⟨d,rfl⟩:=mG o;refine⟨(qP (Xc.mp g _ (YC d))).2,?_,rfl⟩;rw[Yf d,Yh,Yh];rfl
 rintro b c ⟨rfl,rfl⟩ p r;rw[Ya,Yg (Yb _)];exact⟨_,aC,(sO g k).2,q _ (aN r _)⟩
variable (Zdj:FB P w K mg base (CX0) 2 "frames_text" ZfP ZhN ["frames"] (b9Y))
def ZlC (e:GFm K mg "frames_text" Zia ZfP ZhN):type_of% Zdj:=by
 refine fbK ["frames"] e λH Q n o h=>?_;obtain⟨a,rfl,d,q⟩:=h;refine⟨_,(aF (aK (lF aX (aA (fB rfl (ix:=[]) (dN (dv 0)) (λC f g j at0=>cY) (λC f g j at0=>a4Y) rfl rfl (by rfl) (show ([".0","frame"]:List Str).Nodup by decide +kernel)) aD)))),?_⟩;refine⟨⟨_,Vb d⟩,dX (xs:=[]) (λi b c=>b= []/\c=H) ?_ ⟨rfl,rfl⟩ ?_ ?_ ?_⟩
 ·rintro i b c k ⟨rfl,_⟩;exact bY (by decide)
 ·rintro i b c k ⟨_,rfl⟩;exact Vb d
 ·rintro i x b c l _;cases l
 rintro b c ⟨rfl,rfl⟩ p m;exact⟨[],aC,rfl,q _ (aN m _)⟩
variable (ZdI:FB P w K mg base (CX0) 2 "thing_text" Zf9 ZiI ["told"] (c3R))
include Zo ZaA Zf2 in
theorem ZmC (s:GFm K mg "thing_text" Zi3 Zf9 ZiI):type_of% ZdI:=by
 refine fbK ["told","words"] s λH Q u w h=>?_;obtain⟨t,e,v,rfl,⟨l,_,b,m⟩,ok,q⟩:=h;refine⟨_,(aB (aW 1 u (dJ (aA (bG dY (dv 0) aG (λ_ _=>rfl)) (aA (bT fV rfl ZaA fX (aA (bG dY (dv 0) aG (λ_ _=>rfl)) aD)) aD)))) (aB (lJ (bC (PW.pt (lH (aY fH (bG dY (dv 0) aG (λ_ _=>rfl)) aX (aU _)) (jV (aY pB (bF eZ rfl Zo cP (aA (bG dY (dv 0) aG (λ_ _=>rfl)) aD)) aG (aU _))))) (aF (bI (dO (dv 1) (aA (aL Zf2 w.mo aJ (aA (bG dY (dv 0) aG (λ_ _=>rfl)) aD)) aD)))) aQ)) (aF (aK (lF aX (aA (dv 1) aD)))))),?_⟩;obtain⟨C,x⟩:=qP ok.1;obtain⟨z,_⟩:=sO ok.2.2 ok.2.1;refine⟨_,_,Vc b,bB (j:=0) rfl,_,_,Vc b,bB (j:=1) rfl,x,aM rfl,λp n=>?_⟩;generalize hE:upd H p _=H1;have a:Same H H1:=hE▸aN n _;have d:H1 p=some (.lst [.str "whole",.str (itT v.1)]):=by rw[<-hE];exact aC
 refine⟨λo f=>o= [some (.ref e),some (.ref p)]/\Same H f/\f p=some (.lst ((if v.2= [] then [("whole":Str),itT v.1] else ["whole",itT v.1,uW v.2]).map V.str)),?_,?_⟩
 ·refine⟨_,_,Vc (a _ _ b),bB (j:=0) rfl,_,_,Vc (a _ _ b),bB (j:=2) rfl,_,.inl (Vb (a _ _ m)),?_⟩;rw[Ya];by_cases c:v.2= []
  ·rw[c];exact⟨rfl,a,d⟩
  ·refine uF (show (0:Int)<((v.2.length:Nat):Int) by have:=X5.mpr c;lia) ?_;rw[if_neg c];refine⟨⟨_,Vb d⟩,_,_,Vc (a _ _ b),bB (j:=2) rfl,l,v.2,rfl,Vb (a _ _ m),ok.2.1,ok.2.2,λD r=>⟨_,r _ _ d,aM rfl,rfl,(a.trans r).put n,aC⟩⟩
 rintro o f ⟨rfl,A,g⟩;refine⟨_,g,oE (B:=900) (λy i=>?_) ?_,q _ A⟩
 ·have k:y="whole"\/y=itT v.1\/y=uW v.2:=by
   split at i
   ·exact(show y="whole"\/y=itT v.1 by simpa using i).imp id .inl
   ·simpa using i
  rcases k with rfl | rfl | rfl
  ·decide +kernel
  ·lia
  ·exact z
 ·rw[show (" ":Str).length=1 by decide +kernel];split <;> exact Xh rfl
variable (Zea:FB P w K mg base (CX0) 6 "things_of" ZgL ZjB ["frames","name"] (b9N))
include Zaw Zb Zd0 ZaC Zcy Za6 ZfD in
theorem Znx (F0:GFm K mg "things_of" Zj0 ZgL ZjB):type_of% Zea:=by
 refine fbK ["frames","name","joiner","told","frame"] F0 λH Q N O h=>?_;obtain⟨a,xs,fs,n,vs,rfl,ea,hF,hl,a7,hn,hk,q⟩:=h;refine⟨_,(aB (aW 2 N (lN Zd0 Zcy.1 O.mo rfl Zaw Zcy.2 .nil aJ)) (aB (aW 3 N (dJ aD)) (aB (jB Y3 rfl (dN (dv 0)) (gD (i:=4) N rfl (Or.inl rfl)) (aF (lJ (bC (aY fH (bG dY (dv 4) aG (λ_ _=>rfl)) (dv 1) (aU _)) (aF (bI (vV (dv 3) (aA (aL ZfD O.mo aJ (aA (dv 2) (aA (bG dY (dv 4) aG (λ_ _=>rfl)) aD))) aD)))) aQ)))) (aF (aK (aP pC (dv 3) (bZ Zb ZaC Za6.1 O.mo Za6.2 .nil aJ (dv 2)))))))),?_⟩;refine λj P R S a8=>⟨j,P,rfl,aC,λH1 s0 o0 hJ k1=>⟨rfl,?_⟩⟩
 have gm:Same H (upd (upd H P (.own j)) j (.ins ZB P [])):=λz u e=>by rw[aH (aO e R),aH (aO e S)];exact e
 have g1:Same H H1:=λz u e=>k1 z u (aO e R) (gm z u e);refine⟨aM rfl,λt y=>?_⟩;obtain⟨T,et⟩:=gA y (.lst []);have A:=(hJ t y).same T;have B:t≠j:=λz=>by obtain⟨_,_,_,w,_⟩:=hJ t y;rw[<-z,y]at w;cases w
 have U:=g1.none y;generalize upd H1 t _=H2 at T et A;have C:=g1.trans T;refine⟨⟨_,Vb (C _ _ ea)⟩,jM (xs:=xs) (λi M o=>(∃x,M= [some (.ref a),some (.int ((n:Nat):Int)),some (.ref j),some (.ref t),x])/\Same H o/\∃s m done l,rJ ZB o j t s/\o t=some (.lst (m.map V.ref))/\WhQ t o m done/\vs=done++l/\a4B s (((fs.drop i).filter λf=>decide (f.1=n)).map Prod.snd) l) ⟨⟨_,rfl⟩,C,s0, [], [],vs,A,et,.nil,rfl,.inl ⟨o0,hn⟩⟩ ?_ ?_ ?_⟩
 ·rintro i M o hi ⟨_,g,_⟩;exact Vb (g _ _ ea)
 ·rintro i x M o W ⟨⟨x4,rfl⟩,g,s,m,done,l,k,d,D,r,hd⟩;obtain⟨tf,f,rfl,hf,dd,e1,e2,_⟩:=hF.get W;obtain⟨hi,X⟩:=Ye.mp hf;rw[Xq hi,X]at hd;refine⟨_,?_,λ_ _ z=>z⟩;refine⟨_,_,Vc (g _ _ e1),bB (j:=0) rfl,?_⟩;by_cases c:f.1=n
  ·refine uF (by lia) ?_;rw[XO (by simp[c]),Yz]at hd;obtain⟨g',th,b,hv,hb,Y,ep,nx⟩:=hd.step;refine⟨⟨_,d⟩,_,_,Vc (g _ _ e1),bB (j:=1) rfl,j,t,s,dd,g',th,b,rfl,k,Y,⟨by rw[d];simp,hb,hk _ (r▸YT _ hv),by rw[<-ep];exact g _ _ e2⟩,λp Z H3 s' hp a0 a1 a2 js k3=>?_⟩;obtain⟨a3,E,a4⟩:=nx s' js;have F:=k3 t _ B d;obtain⟨G,a5,a6,v,_⟩:=id k;have I:=(D.but k3 (.inr ⟨_,_,_,v⟩) λxs z=>by rw[d]at z;cases z).append a1;have J:Same H H3:=λz u e=>k3 z u (aO e R) (g z u e);have l1:=I.len;have l2:=YJ List.length r;rw[E,Yc,Yc]at l2;rw[Yc,Yc]at l1;refine⟨_,_,F,a0,small (by rw[Ya,Ya];lia),⟨_,rfl⟩,J.put U,s',m++Z,done++a3E g' th b,a3,a2.put B,by rw[aC,Yh],I.but (λx u W e=>by rw[aH W];exact e) (.inl rfl) (λxs z=>by rw[F]at z;cases z),by rw[r,E,Yo],a4⟩
  ·refine oM (by lia) ?_;rw[Xw (by simp[c])]at hd;exact⟨⟨_,rfl⟩,g,s,m,done,l,k,d,D,r,hd⟩
 rintro M o ⟨⟨x4,rfl⟩,g,s,m,done,l,k,d,D,r,hd⟩;rw[hF.len,List.drop_length]at hd;obtain⟨so,rfl⟩:=hd.end_;rw[Yv]at r;subst r;obtain⟨G,a5,a6,v,_⟩:=id k;refine⟨⟨G,_,v,rfl⟩,j,t,s,rfl,k,so,λp hp=>?_⟩;have J:=aN hp (.lst []);refine⟨_,_,J _ _ d,aC,small (by rw[Ya,D.len];show _+0<=_;lia),λp2 L=>?_⟩;have g4:=J.trans (aN L (.lst (m.map V.ref++[])));exact q t p2 m _ ((g.trans J).none L) (g.trans g4) (by rw[aC,Yv]) (D.same g4)
variable (ZcP:FB P w K mg base (CX0) 14 "say_wrong" Zef ZjA ["desk","values"] (qH a6I Zad Zl CA))
include ZQ ZY Za5 Zc Zf ZbX Zk ZI ZcA in
theorem Znw (x:GFm K mg "say_wrong" ZjZ Zef ZjA):type_of% ZcP:=by
 refine fbK ["desk","values"] x λH Q I y h=>?_;obtain⟨d,R,J,o,b,l,xs,L,Z,rfl,c,z,e,A,B,f,q⟩:=h;refine⟨_,(aB (bI (bN Zc ZbX ZcA.1 y.mo ZcA.2 .nil aJ (aR Zf Zk (dv 0)) (aA (bG cJ (dv 1) aG (λ_ _=>rfl)) aD))) (aB (bI (dO (aR Zf ZI (dv 0)) (aA (cM (aA (bG cJ (dv 1) aG (λ_ _=>rfl)) (aA (bG cJ (dv 1) aG (λ_ _=>rfl)) aD))) aD))) (aF (aK aX)))),?_⟩;obtain⟨k,t,rfl,rfl,M,N⟩:=f;cases lL (ns:=[k,t]) B;obtain⟨r,er,⟨s,u⟩,v⟩:=c.rail;refine⟨b.dx,_,b.rv,c.ed,rfl,?_⟩;rw[er];refine⟨⟨s.dx,_,u.er,rfl⟩,_,_,Vb e,bB (j:=0) rfl,r,R,b.orl,s,((k:Nat):Int),rfl,u,λi S O eS=>?_,λC _ _=>C ⟨by lia,by lia⟩⟩;refine⟨b.dx,_,.ref b.wl,c.ed,rfl,⟨_,Vb c.ew⟩,_,_,Vb e,bB (j:=0) rfl,_,_,Vb e,bB (j:=1) rfl,aM rfl,λD E=>?_⟩;obtain⟨g,w⟩:=gA E (.tup [.int ((k:Nat):Int),.int ((t:Nat):Int)]);generalize upd H D _=H1 at g w;have a:=c.same g;have F:=a.ww.len;rw[Ya]at F;refine⟨_,a.ew,bY (by lia),?_⟩;obtain⟨n,G⟩:=a.mark w;have m:=(Mv.of g).trans G;exact q _ _ _ _ _ _ ⟨rfl,rfl,rfl⟩ n (z.mv m) m.p
variable (ZcO:FB P w K mg base (CX0) 14 "say_waits" Zee Zjz ["desk","values"] (qH a6J Zad Zl CA))
include ZQ ZY Za5 Zc Zf Zb7 Zk ZcX Zdj in
theorem Znv (x:GFm K mg "say_waits" ZjY Zee Zjz):type_of% ZcO:=by
 refine fbK ["desk","values"] x λH Q G g h=>?_;obtain⟨d,R,I,o,a,l,xs,J,Z,rfl,b,y,z,A,B,c,q⟩:=h;refine⟨_,(aF (aK (aL Zdj g.mo aJ (aA (bN Zc Zb7 ZcX.1 g.mo ZcX.2 .nil aJ (aR Zf Zk (dv 0)) (aA (bG cJ (dv 1) aG (λ_ _=>rfl)) aD)) aD)))),?_⟩;obtain⟨k,S,rfl,rfl,eS,n⟩:=c;cases lL (ns:=[k]) B;obtain⟨r,er,⟨s,t⟩,u⟩:=b.rail;refine⟨a.dx,_,a.rv,b.ed,rfl,?_⟩;rw[er];have L:=(Ye.mp eS).1;refine⟨⟨s.dx,_,t.er,rfl⟩,_,_,Vb z,bB (j:=0) rfl,r,R,a.orl,s,((k:Nat):Int),rfl,t,λi M N e=>?_,λC _ _=>C ⟨by lia,by lia⟩⟩;cases (show i=k by lia);cases eS.symm.trans e;refine⟨by rw[n];decide,λl2 D O E v f F=>⟨l2,?_⟩⟩;have:=F.at_.len;rw[n]at this;cases XQ this;refine⟨rfl,f,λP w=>?_⟩;have m:=Mv.of (o:=o) (v.trans w);exact q _ _ _ _ _ _ ⟨rfl,rfl,rfl⟩ (b.same (v.trans w)) (y.mv m) m.p
variable (Zck:FB P w K mg base (CX0) 14 "say_things" ZdK ZiH ["desk","values"] (qH a2B Zad Zl CA))
include ZQ ZY Zaw Za5 Zc Zf ZcL Zk ZdQ ZdI Zea in
theorem ZmB (F0:GFm K mg "say_things" Zi2 ZdK ZiH):type_of% Zck:=by
 refine fbK ["desk","values"] F0 λH Q nd t h=>?_;obtain⟨d,R,wp,o,u,l,xs,vs,Z,rfl,w,hT,N,a0,z,A,q⟩:=h;refine⟨_,(aF (aK (lF aX (aA (fB rfl (ix:=[]) (dN (aL Zea t.mo aJ (aA (bN Zc ZcL ZdQ.1 t.mo ZdQ.2 .nil aJ (aR Zf Zk (dv 0)) (aA (bG cJ (dv 1) aG (λ_ _=>rfl)) aD)) (aA (bG cJ (dv 1) aG (λ_ _=>rfl)) aD)))) (λC fp s0 H0 at0=>cY) (λC fp s0 H0 at0=>(aL ZdI t.mo aJ (aA (dv 0) aD))) rfl rfl (by rfl) (show ([".0","told"]:List Str).Nodup by decide +kernel)) aD)))),?_⟩;obtain⟨k,n,S,D,rfl,rfl,eS,h6,t6,hp,E⟩:=A;cases lL (ns:=[k,n]) z;obtain⟨r,er,⟨O,P⟩,T⟩:=w.rail;refine⟨u.dx,_,u.rv,w.ed,rfl,?_⟩;rw[er];have a1:=(Ye.mp eS).1;refine⟨⟨O.dx,_,P.er,rfl⟩,_,_,Vb N,bB (j:=0) rfl,r,R,u.orl,O,((k:Nat):Int),rfl,P,λi S' ei F=>?_,λno _ _=>no ⟨by lia,by lia⟩⟩;cases (show i=k by lia);cases eS.symm.trans F;refine⟨by lia,λl2 G H1 a2 U I hF=>?_⟩;refine⟨_,_,Vb (U _ _ N),bB (j:=1) rfl,l2,G,S.up,n,D,rfl,I,hF.at_,h6,t6,hp,E,λt0 p es H2 a g2 W X=>?_⟩;have J:=X.len;refine⟨⟨_,Vb W⟩,dX (xs:=es.map V.ref) (λi b c=>b=((D.take i).map thT).map V.str/\Same H2 c) ?_ ⟨rfl,Vd _⟩ ?_ ?_ ?_⟩
 ·rintro i b c L ⟨rfl,_⟩;rw[Ya,Ya,Yi];exact bY (by lia)
 ·rintro i b c L ⟨_,g⟩;exact Vb (g _ _ W)
 ·rintro i x b c Y ⟨rfl,g⟩;rw[Yn]at Y;obtain⟨e,he,rfl⟩:=YU.mp Y;obtain⟨v,f,M⟩:=(X.same g).get he;obtain⟨L,ev⟩:=Ye.mp f;refine⟨t0,e,v,rfl,M,E v (YF f),λH3 s=>⟨?_,g.trans s⟩⟩;rw[Yf L,Yh,Yh,ev];rfl
 rintro b c ⟨rfl,g⟩ p2 a;rw[Ya,J,Yg (Yb _)];have s:=(U.trans g2).trans (g.trans (aN a (.lst ((D.map thT).map V.str))));have m:=Mv.of (o:=o) s;refine⟨_,aC,oE (B:=3000) (λy hy=>?_) ?_,q _ _ _ _ _ _ ⟨rfl,rfl,rfl⟩ (w.same s) (hT.mv m) m.p⟩
 ·obtain⟨v,z,rfl⟩:=YS.mp hy;exact a9A (E v z)
 ·rw[Ya,show ("; ":Str).length=2 by decide +kernel];lia
variable (ZdH:FB P w K mg base (CX0) 14 "say_run" ZfF ZlM ["desk","values"] (qH b8L Zad Zl CA))
include ZY Za5 Zc Zf ZcM Zk ZI Zks ZdR in
theorem ZoN (F0:GFm K mg "say_run" ZlU ZfF ZlM):type_of% ZdH:=by
 refine fbK ["desk","values"] F0 λH Q nd W h=>?_;obtain⟨d,R,A,o,i,l,xs,vs,Z,rfl,a,X,el,a0,hv,B,q⟩:=h;refine⟨_,(aB (bI (bN Zc ZcM ZdR.1 W.mo ZdR.2 .nil aJ (aR Zf Zk (dv 0)) (aA (bG cJ (dv 1) aG (λ_ _=>rfl)) (aA (aL Zks W.mo aJ (aA (aR Zf ZI (dv 0)) aD)) aD)))) (aF (aK aX))),?_⟩;obtain⟨n,rfl,rfl,ne,n9,h9,sz⟩:=B;cases lL (ns:=[n]) hv;obtain⟨u,C,D⟩:=a4F a.ww;obtain⟨r,er,⟨wR,hR⟩,_⟩:=a.rail;refine⟨i.dx,_,i.rv,a.ed,rfl,?_⟩;rw[er];refine⟨⟨wR.dx,_,hR.er,rfl⟩,_,_,Vb el,bB (j:=0) rfl,i.dx,_,.ref i.wl,a.ed,rfl,i.wl,u,prW A,rfl,by rw[<-C];exact a.ew,D,by rw[Ya];lia,X.tabP,λg c w dd Y hg hc E F sm a4 tC e1 e2 e3 e4=>?_⟩;obtain⟨nP,ps,G,_,I⟩:=id X;have J:∀x v,H x=some v->(o x\/isT v)->x≠161:=λx v e z y=>by
  rcases z with z | ⟨_,rfl⟩
  ·exact nP (y▸z)
  ·rw[y,G]at e;cases e
 have L:=a.move λx v e z=>sm x v (J x v e z) e;have s:¬ o w:=λz=>by
  rcases F with h | ⟨u,M,a2,m⟩
  ·exact a.al w z h
  ·have:=M.symm.trans G;cases this;rcases I with h | ⟨c2,b1,b2,b3⟩
   ·rw[h]at m;cases m
   ·rw[b1]at m;cases m;exact b3 z
 have t:oY o Y:=by
  obtain⟨u,M,a2,m⟩:=tC;exact⟨nP,u,M,a2,.inr ⟨w,m,e2,s⟩⟩
 have m1:MvP 161 o H o Y:=⟨λx v e z=>sm x v (λy=>by
  rcases z with z | ⟨_,rfl⟩
  ·exact z (.inr y)
  ·rw[y,G]at e;cases e) e,λx hx=> .inl hx⟩
 obtain⟨r1,N,⟨O,P⟩,b⟩:=L.rail;cases er.symm.trans N;refine⟨r,R,i.orl,O,n,g,prW A,rfl,P,ne,n9,sz,⟨c,w,dd,⟨e1,e2,e3,e4⟩,λz=>a.al _ (a.inc _ z) hg,λz=>a.al _ (a.inc _ z) hc,λz=>s (a.inc _ z),λz=>a.al _ (a.inc _ z) E⟩,λl2 H2 o2 f m2 S=>?_⟩;have T:=aN S (.lst (((List.range n).map λk=>a1W (iM (prW A) R k)).map V.int));generalize upd H2 l2 _=H3 at T;obtain⟨w2,f⟩:=f;obtain⟨o3,U,m3⟩:=b H3 _ o2 ⟨w2,f.same T⟩ (m2.trans (Mv.of T));exact q _ _ _ H3 o3 _ ⟨rfl,rfl,rfl⟩ U (t.mv m3) (Mv.trans m1 m3.p)
variable (ZcN:FB P w K mg base (CX0) 14 "say_thing" Zed Zjy ["desk","values"] (qH a6K Zad Zl CA))
include Zx ZQ ZY Zgh Za5 Zo ZaA Zc Zf Zcr Zk Zdq Zkr in
theorem Znu (F0:GFm K mg "say_thing" ZjX Zed Zjy):type_of% ZcN:=by
 refine fbK ["desk","values","pieces","piece"] F0 λH Q nd hr h=>?_;obtain⟨d,R,wp,o,dw,l,xs,vs,Z,rfl,I,hT,J,L,hv,M,q⟩:=h;refine⟨_,(aB (aW 2 nd (aL Zkr hr.mo aJ (aA (bG cJ (dv 1) aG (λ_ _=>rfl)) (aA (jL qW (dv 1) (iC aG) rW) aD)))) (aB (jB Y3 rfl (dN (dv 2)) (gD (i:=3) nd rfl (Or.inl rfl)) (aF (bI (bN Zc Zcr Zdq.1 hr.mo Zdq.2 .nil aJ (aR Zf Zk (dv 0)) (aA (bG cJ (dv 1) aG (λ_ _=>rfl)) (aA (bG cJ (dv 1) aG (λ_ _=>rfl)) (aA (dv 3) aD))))))) (aF (aK (aP fW aX (bT fV rfl ZaA fX (aA (bF eZ rfl Zo cP (aA (dv 2) aD)) aD))))))),?_⟩;obtain⟨k,n,g,b,P,rfl,rfl,tg,p0,step⟩:=M;cases lL (ns:=k::n::g::b) hv;have ec:jN ((itg (k::n::g::b)).map V.int) (some 3) none=(itg b).map V.int:=(a1S (a:=3) (by simp)).trans rfl;refine⟨_,_,Vb J,bB (j:=2) rfl,_,Vb J,λp hp=>?_⟩;rw[ec];obtain⟨D,ep⟩:=gA hp (.lst ((itg b).map V.int));generalize upd H p _=H1 at D ep;refine⟨((g:Nat):Int),p,itg b,rfl,Vb ep,tg,λpl qs H2 N O a4 a5 g2 f T U=>?_⟩;have s:=D.trans g2;have y:¬ o pl:=λz=>I.al pl z (D.none N);have n15:nP (itg b)<=15:=by have:=tg.2.1;unfold nP;lia
 refine⟨⟨_,Vb f⟩,jM (xs:=qs.map V.ref) (λi E u=>(∃x,E= [some (.ref d),some (.ref l),some (.ref pl),x])/\∃t w e,P i t/\eG Zad Zl CA u d (some t) wp w e/\Mv o H2 w u) ⟨⟨_,rfl⟩,R,o,dw,p0,I.same s,Mv.refl⟩ ?_ ?_ ?_⟩
 ·rintro i E u W ⟨_,t,w,e,_,_,m⟩;exact Vb (m.1 _ _ f (.inl y))
 ·rintro i v E u A ⟨⟨x,rfl⟩,t,w,e,F,c,m⟩;rw[Yn]at A;obtain⟨G,X,rfl⟩:=YU.mp A;have W:i<nP (itg b):=by rw[<-T];exact(Ye.mp X).1
  have eq:=m.1 _ _ (U i G X) (.inl λz=>I.al G z (D.none (O G (YF X))));have B:=m.1 _ _ (s _ _ J) (.inl L);obtain⟨S,⟨eS,r9,w9,hn,ow⟩,pS⟩:=step i t W F;obtain⟨r,er,⟨wR,hR⟩,C⟩:=c.rail;refine⟨e.dx,_,e.rv,c.ed,rfl,?_⟩;rw[er];have hk:=(Ye.mp eS).1;have Y:=b1J ((g:Nat):Int) (nP (itg b)) i (itg b);have a0:=b1K tg W;refine⟨⟨wR.dx,_,hR.er,rfl⟩,_,_,Vb B,bB (j:=0) rfl,_,_,Vb B,bB (j:=1) rfl,r,t,e.orl,wR,((k:Nat):Int),((n:Nat):Int),G,_,rfl,hR,Vb eq,by lia,r9,w9,λno _ _=>no ⟨by lia,by lia⟩,λ_ no _ _=>no ⟨hn,Y,a0⟩,λi' S' ei a1 ok=>?_⟩;cases (show i'=k by lia);cases eS.symm.trans a1;refine⟨_,ow,λne _ _=>ne rfl,λ_ H3 o3 a2 m3=>?_⟩;obtain⟨o4,a3,m4⟩:=C H3 _ o3 a2 m3;exact⟨⟨_,rfl⟩,_,o4,_,pS,a3,m.trans m4⟩
 rintro E u ⟨⟨x,rfl⟩,t,w,e,F,c,m⟩;rw[Ya,T]at F;refine⟨_,.inl (Vb (m.1 _ _ f (.inl y))),?_⟩;rw[Ya,T];have m':=(Mv.of s).trans m;refine⟨jT (by lia),szl (YK (Nat.add_le_add (show ("ok ":Str).length<=3 by decide +kernel) (gZ (n:=nP (itg b)) (by lia))) (by decide)),?_⟩;exact q _ _ _ u w e ⟨rfl,F,rfl⟩ c (hT.mv m') m'.p
variable (Zdk:MB P w K mg base (CX0) 1 Zfi Zje ["self"] (b0E Zad))
include Za5 Zf Zk ZI in
theorem Zna (j:Fun K "__init__" "Desk.__init__" ZjD Zfi Zje):type_of% Zdk:=by
 refine mbK ["self"] j λH Q k l h=>?_;obtain⟨d,g,rfl,e,q⟩:=h;refine⟨_,(aB (bJ Zf Zk (dv 0) jC) (aF (bJ Zf ZI (dv 0) (dJ aD)))),?_⟩;refine⟨g,_,e,by decide,?_⟩;refine⟨aM rfl,λc a=>?_⟩;have f:d≠c:=λz=>by rw[z,aC]at a;cases a
 refine⟨g,_,(aH f).trans aC,(show 1<1000 by decide),?_⟩;have b:H c=none:=by rw[aH (Va f)]at a;exact a
 refine q _ c b aC (by rw[aH (Va f),aC]) λx u i ex=>?_;rw[aH i,aH (λz=>by rw[z,b]at ex;cases ex),aH i];exact ex
variable (Zcv:MB P w K mg base (CX0) 13 Zej Zhu ["self","values"] (a9Y Zad Zl CA))
include ZQ ZY Za5 Zf Ze6 Zk ZI Zdr in
theorem Zlj (F0:Fun K "put_up" "Desk.put_up" ZhR Zej Zhu):type_of% Zcv:=by
 refine mbK ["self","values"] F0 λH Q I X h=>?_;obtain⟨d,wp,o,L,l,xs,v,Y,rfl,B,S,Z,ok,q⟩:=h;refine⟨_,(aB (bJ Zf Zk (dv 0) (cR Ze6 Zdr.1 X.mo rfl ZY Zdr.2 .nil aJ (aA (jL qW (dv 1) (iC aG) rW) (aA (bG cJ (dv 1) aG (λ_ _=>rfl)) aD)))) (aB (bJ Zf ZI (dv 0) (dJ aD)) (aF (aK aX)))),?_⟩;cases Z with
 |num hv2=>
 rename_i xs;obtain⟨J,M,tl,tt⟩:=a4G hv2;subst M;have ec:jN (V.int ((v:Nat):Int)::J.map V.ref) (some 1) none=J.map V.ref:=(a8J (a:=1) (by simp)).trans rfl;refine⟨_,Vb S,λp hp=>?_⟩;rw[ec];obtain⟨C,T⟩:=gA hp (.lst (J.map V.ref));generalize upd H p _=H1 at C T;refine⟨_,_,Vb (C _ _ S),bB (j:=0) rfl,λy A N O a0=>?_⟩;have P:Same H1 (upd (upd H1 A (.own y)) y (.ins Zl A [])):=λz u e=>by rw[aH (aO e N),aH (aO e O)];exact e
 have U:=aC (H:=upd H1 A (.own y)) (a:=y) (o:= .ins Zl A []);generalize upd (upd H1 A (.own y)) y _=Hm at P U;have w:=C.trans P;refine⟨y,A,p,((v:Nat):Int),chI Y,rfl,U,⟨J,P _ _ T,tl,λi t m h1 h2=>w _ _ (tt i t m h1 h2)⟩,by have:=ok.1.2;lia,λ_ W D E ho k2=>?_,λno _ _=>no ok⟩;have keep:∀x u,H x=some u->W x=some u:=λx u e=>k2 x u (aO (C _ _ e) N) (w _ _ e);have F:=keep _ _ B.ed;refine⟨rfl,L.dx,_,F,(show 2<1000 by decide),?_⟩;have R:H y=none:=C.none N;have fresh:∀x,D x->H x=none:=λx b=>(ho x b).elim (λz=>z▸R) λz=>w.none z;have I:¬ D d:=λz=>by have:=fresh d z;rw[B.ed]at this;cases this
 refine⟨aM rfl,λg k=>?_⟩;have n:g≠d:=λz=>by rw[z,aC]at k;cases k
 have f:W g=none:=by rw[aH n]at k;exact k
 have r:H g=none:=by
  cases e:H g with
  |none=>rfl
  |some u=>rw[keep _ _ e]at f;cases f
 refine⟨L.dx,_,(aH (Va n)).trans aC,(show 2<1000 by decide),?_⟩;obtain⟨wR,E⟩:=E;have G:¬ D g:=λz=>E.al g z f;refine q _ (λx=>D x\/x=d\/x=g) ⟨L.dx,g,.ref y, [],D⟩ ⟨aC,by rw[aH n,aC],.nil,⟨y,rfl,wR,E.move λx u e z=>?_⟩,λx b=>⟨λz=>I (z▸b),λz=>G ((show x=g from z)▸b)⟩,.inr (.inl rfl),.inr (.inr rfl),λx b=> .inl b,λx b=>?_⟩ ⟨λx u e z=>?_,λx b=>?_⟩
 ·have s:x≠d:=λc=>by
   rcases z with z | ⟨_,rfl⟩
   ·exact I (c▸z)
   ·rw[c,F]at e;cases e
  rw[aH s,aH (aO e f),aH s];exact e
 ·rcases b with b | rfl | rfl
  ·have s:x≠d:=λc=>I (c▸b);have xw:x≠g:=λc=>G (c▸b);rw[aH s,aH xw,aH s];exact E.al x b
  ·rw[aC];simp
  ·rw[aH n,aC];simp
 ·have s:x≠d:=λc=>by
   rcases z with z | ⟨_,rfl⟩
   ·exact z (c▸B.od)
   ·rw[c,B.ed]at e;cases e
  rw[aH s,aH (aO e r),aH s];exact keep _ _ e
 ·rcases b with b | rfl | rfl
  ·exact .inr (fresh x b)
  ·exact .inl B.od
  ·exact .inr r
variable (Zaf:MB P w K mg base (CX0) 15 ZfT Zkt ["self","row"] (a2W K Zad Zl CA))
include ZY ZcE Za5 Zc5 Zf ZbT Ze3 Zk ZeJ ZcP ZcO Zck ZdH ZcN Zcv in
theorem Zn7 (W:Fun K "say" "Desk.say" ZkS ZfT Zkt):type_of% Zaf:=by
 refine mbK ["self","row","words","values","answer"] W λH Q E F h=>?_;obtain⟨d,st,G,o,g,x,t,rfl,O,X,e,Y,hc⟩:=h;refine⟨_,(aB (aW 2 E (a0Y (dv 1) (aA aX aD))) (aB (aW 3 E (aL ZeJ F.mo aJ (aA (dv 2) aD))) (aB (bC (aY fH (bG cJ (dv 2) aG (λ_ _=>rfl)) aX (aU _)) (aF (aK (bN Zf ZbT Zcv.1 F.mo Zcv.2 .nil aJ (dv 0) (aA (dv 3) aD)))) aQ) (aB (bC (aY uX (aR Zf Zk (dv 0)) jC (aU _)) (aF bQ) aQ) (aB (aW 4 E (xW Ze3 (bA (v:= .ref Zii) rfl Zc5 rfl) (bG cJ (dv 2) aG (λ_ _=>rfl)) (λ_ _=>rfl))) (aF (aK (b1H (jU.or (jU.one (n:=14) ZcN.1 ZcN.2.1 (by decide)) (jU.or (jU.one (n:=14) ZcP.1 ZcP.2.1 (by decide)) (jU.or (jU.one (n:=14) ZdH.1 ZdH.2.1 (by decide)) (jU.or (jU.one (n:=14) ZcO.1 ZcO.2.1 (by decide)) (jU.one (n:=14) Zck.1 Zck.2.1 (by decide)))))) F.mo aJ (pv 4) (aA (dv 0) (aA (dv 3) aD)))))))))),?_⟩;obtain⟨a0,A,_⟩:=e.words Y;have P:t.length<=20:=by obtain⟨_,_,_,_,z,_⟩:=e;exact z
 refine⟨by decide +kernel,szl (by lia),by rw[A];exact szl (by rw[Yk,Ya];lia),λp hp=>?_⟩;rw[A];obtain⟨I,i⟩:=gA hp (.lst ((x::t.map vlT).map V.str));generalize upd H p _=H1 at I i;have u:atI ((x::t.map vlT).map V.str) 0=some (.str x):=bB (j:=0) rfl;refine⟨p,x,t,rfl,Vb i,e,λl xs S hl k T U=>?_⟩;have r:=I.trans k;have f:=O.same r;have B:=X.same r;have go:∀{w:Own}{y:Hp},MvP 161 o S w y->MvP 161 o H w y:=λm=>Mv.trans (Mv.of r).p m;refine⟨_,_,Vb (k _ _ i),u,?_⟩;rcases hc with ⟨rfl,rfl,v,cs,rfl,ok,q⟩ | ⟨R,Z,rfl,J,q⟩
 ·exact⟨⟨g.dx,_,f.ed,rfl⟩,d,G,o,g,l,xs,v,cs,rfl,f,T,U,ok,λy w L M m=>q y w L M (B.mv m) (go m.p)⟩
 obtain⟨rr,er,_⟩:=f.rl;have c:=f.ed;rw[er]at c;have C:∀D:a2C,D R G t Z->qH D Zad Zl CA [.ref d,.ref l] S Q E0:=λD hd=>⟨d,R,G,o,g,l,xs,t,Z,rfl,f,B,T,λz=>O.al l z (I.none hl),U,hd,λs R' N y w L z a b m=>q s R' N y w L z a b (go m)⟩
 rcases J with ⟨rfl,hd⟩ | ⟨rfl,hd⟩ | ⟨rfl,hd⟩ | ⟨rfl,hd⟩ | ⟨rfl,hd⟩
 ·refine⟨g.dx,_,.ref rr,c,rfl,?_⟩;exact⟨_,_,Vb (k _ _ i),u,.inr "thing",_,rfl,rfl,rfl,Zed,rfl,ZcN.2.2.1,.inl ⟨rfl,C _ hd⟩⟩
 ·refine⟨g.dx,_,.ref rr,c,rfl,?_⟩;exact⟨_,_,Vb (k _ _ i),u,.inr "wrong",_,rfl,rfl,rfl,Zef,rfl,ZcP.2.2.1,.inr (.inl ⟨rfl,C _ hd⟩)⟩
 ·refine⟨g.dx,_,.ref rr,c,rfl,?_⟩;exact⟨_,_,Vb (k _ _ i),u,.inr "run",_,rfl,rfl,rfl,ZfF,rfl,ZdH.2.2.1,.inr (.inr (.inl ⟨rfl,C _ hd⟩))⟩
 ·refine⟨g.dx,_,.ref rr,c,rfl,?_⟩;exact⟨_,_,Vb (k _ _ i),u,.inr "waits",_,rfl,rfl,rfl,Zee,rfl,ZcO.2.2.1,.inr (.inr (.inr (.inl ⟨rfl,C _ hd⟩)))⟩
 ·refine⟨g.dx,_,.ref rr,c,rfl,?_⟩;exact⟨_,_,Vb (k _ _ i),u,.inr "things",_,rfl,rfl,rfl,ZdK,rfl,Zck.2.2.1,.inr (.inr (.inr (.inr (⟨rfl,C _ hd⟩))))⟩
variable (Zr:FB P w K mg base (CX0) 1 "_law_draw" ZgE Zjr ["_law_script","_law_k","_law_many"] (c0B K))
include Zo in
theorem Znn (l:GFm K mg "_law_draw" ZjQ ZgE Zjr):type_of% Zr:=by
 refine fbK ["_law_script","_law_k","_law_many","_law_cell","_law_seed"] l λH Q e r h=>?_;obtain⟨a,ns,k,m,rfl,d,n,f,o,g,q⟩:=h;refine⟨_,(aB (aW 3 e (cH (eE (aY pB (bF eZ rfl Zo cP (aA (dv 0) aD)) aG (aU _)) (bG cJ (dv 0) (aP oJ (dv 1) (bF eZ rfl Zo cP (aA (dv 0) aD))) (λ_ _=>rfl)) aG))) (aB (aW 4 e (aP cG (aP cG (aP oJ (dv 3) aG) (aP fJ (aP fJ aG (dv 1)) (dv 1))) aG)) (aF (aK (aP oJ (aP oJ (aP fJ (aP oJ (aP fJ (dv 4) aG) aG) aG) aG) (dv 2)))))),?_⟩;refine⟨λx i=>(∃v,x= .int v)/\i=H,?_,?_⟩
 ·have b:(ns.map V.int).length=ns.length:=Ya _;refine⟨_,.inl d,?_⟩
  conv=>whnf
  refine cF (λc=>?_) (λc=>⟨⟨_,rfl⟩,rfl⟩);have j:(0:Int)<(((ns.map V.int).length:Nat):Int):=dec_true c;obtain⟨v,p⟩:=c2U (ns:=ns) (k:=k) (by rw[b]at j;lia);exact⟨_,.inl d,j,_,_,d,p,⟨v,rfl⟩,rfl⟩
 rintro x i ⟨⟨v,rfl⟩,rfl⟩;have s:31*k*k<=31*100000*100000:=Int.mul_le_mul (by lia) o f (by decide);have t:0<=31*k*k:=Int.mul_nonneg (by lia) f;refine⟨(by show (0:Int)<_;decide),⟨jP (by decide) (by decide),jP (by lia) (by lia)⟩,⟨jP (by lia) (by lia),jP (by lia) (by lia)⟩,?_⟩;have u:0<=v % 1000003:=Int.emod_nonneg _ (by decide);have w:v % 1000003<1000003:=Jw _ (by decide);refine⟨⟨jP (by lia) (by lia),jP (by decide) (by decide)⟩,(by show (0:Int)<_;decide),?_⟩;have y:0<=(v % 1000003+31*k*k+1)*48271 % 999983:=Int.emod_nonneg _ (by decide);have z:(v % 1000003+31*k*k+1)*48271 % 999983<999983:=Jw _ (by decide);refine⟨⟨jP (by lia) (by lia),jP (by decide) (by decide)⟩,(by show (0:Int)<_;decide),g,?_⟩;exact q _ (Int.emod_nonneg _ (by lia)) (Jw _ g)
variable (Zdf:FB P w K mg base (CX0) 2 "_law_choice" ZfK ZhI ["_law_script","_law_k"] (c3W K))
include Zr in
theorem Zlx (l:GFm K mg "_law_choice" Zh5 ZfK ZhI):type_of% Zdf:=by
 refine fbK ["_law_script","_law_k","_law_bit"] l λH Q n e h=>?_;obtain⟨a,f,k,rfl,g,b,r,q⟩:=h;refine⟨_,(aB (bC (aY pB (aL Zr e.mo aJ (aA (dv 0) (aA (aP cG aG (aP fJ aG (dv 1))) (aA aG aD)))) aG (aU _)) (aF (aK (cM (aA aG (aA aG aD))))) aQ) (aB (aW 2 n (cH (aP c3A aG (aL Zr e.mo aJ (aA (dv 0) (aA (aP cG aG (aP fJ aG (dv 1))) (aA aG aD))))))) (aF (aK (cM (aA (dv 2) (aA (aP fJ (dv 2) (aL Zr e.mo aJ (aA (dv 0) (aA (aP cG aG (aP fJ aG (dv 1))) (aA aG aD))))) aD))))))),?_⟩;refine⟨cm,a,f,_,3,rfl,g,b,(by show 0<=30+3*((k:Nat):Int);lia),(by show 30+3*((k:Nat):Int)<=100000;lia),by decide,λw s y=>cF (λc=>?_) (λc=>?_)⟩
 ·exact⟨aM rfl,λt d=>q 0 0 t _ (by decide) (by decide) d (aN d _) aC⟩
 refine⟨λv i=>∃m:Nat,v= .int ((m:Nat):Int)/\m<=128/\i=H,?_,?_⟩
 ·refine⟨cm,a,f,_,8,rfl,g,b,(by show 0<=31+3*((k:Nat):Int);lia),(by show 31+3*((k:Nat):Int)<=100000;lia),by decide,λu o z=>⟨⟨by lia,by lia,by decide⟩,?_⟩⟩;obtain⟨u,rfl⟩:=YG o;have j:2 ^ u<=2 ^ 7:=YB (by decide) (by lia);refine⟨2 ^ u,?_,j,rfl⟩;show V.int ((1:Int)*2 ^ (((u:Nat):Int)).toNat)=_;rw[Y2,Int.one_mul]
  push_cast
  rfl
 rintro v i ⟨m,rfl,j,rfl⟩;refine⟨cm,a,f,_,2,rfl,g,b,(by show 0<=32+3*((k:Nat):Int);lia),(by show 32+3*((k:Nat):Int)<=100000;lia),by decide,λx p A=>⟨cm,aM rfl,λt d=>?_⟩⟩;obtain⟨x,rfl⟩:=YG p;refine q m (m*x) t _ (by lia) ?_ d (aN d _) (by rw[aC];rfl);rcases (show x=0\/x=1 by lia) with rfl | rfl <;> lia
variable (ZdB:FB P w K mg base (CX0) 2 "_law_names" Zf4 ZiC ["_law_script","_law_many"] (b9T K))
include ZN Zr in
theorem Zmw (y:GFm K mg "_law_names" ZiX Zf4 ZiC):type_of% ZdB:=by
 refine fbK ["_law_script","_law_many","_law_base","_law_step"] y λH Q t u h=>?_;obtain⟨a,v,m,rfl,w,c,G,q⟩:=h;refine⟨_,(aB (oU (i:=2) t rfl (Or.inr rfl) (aL Zr u.mo aJ (aA (dv 0) (aA aG (aA aG aD))))) (aB (oU (i:=3) t rfl (Or.inr rfl) (aP cG (aP fJ aG (aL Zr u.mo aJ (aA (dv 0) (aA aG (aA aG aD))))) aG)) (aF (aK (fB rfl (ix:=[2,3]) (fP rfl ZN (aA (aP fJ aG (dv 1)) aD)) (λC z A B at0=>cY) (λC z A B at0=>(aP oJ (aP cG (dv 1) (aP fJ (dv 0) (dv 2))) aG)) rfl rfl (by rfl) (show ([".0","_law_k","_law_base","_law_step"]:List Str).Nodup by decide +kernel)))))),?_⟩;refine⟨a,v,5,256,rfl,w,c,by decide,by decide,by decide,λb D I=>⟨a,v,6,128,rfl,w,c,by decide,by decide,by decide,λd E J=>?_⟩⟩;obtain⟨b,rfl⟩:=YG D;obtain⟨d,rfl⟩:=YG E;refine⟨cm,cm,⟨by lia,by lia⟩,?_⟩;rw[show (2*((m:Nat):Int)).toNat=2*m by lia];refine gJ (lo:=0) (n:=2*m) (λi p r=>r=H/\p=nV ((List.range i).map λk=>(b+k*(2*d+1)) % 256)) ?_ ⟨rfl,rfl⟩ ?_ ?_
 ·rintro i p r f ⟨_,rfl⟩;exact a4L (by rw[Ya,YI];lia)
 ·rintro i p r f ⟨rfl,rfl⟩;refine⟨cm,(by show (0:Int)<256;decide),rfl,?_⟩;rw[Jc,Yh,List.map_singleton,<-a5H,XS];have e:(((b+i*(2*d+1)) % 256:Nat):Int)=(((b:Nat):Int)+((i:Nat):Int)*(2*((d:Nat):Int)+1)) % 256:=by push_cast;rfl
  rw[e]
 rintro p r ⟨rfl,rfl⟩ l x;refine q l _ _ x (aN x _) aC (by rw[Ya,YI]) (λn F=>?_) λi j n f s=>?_
 ·obtain⟨k,_,rfl⟩:=YS.mp F;exact Nat.mod_lt _ (by decide)
 ·have g:=(Ye.mp f).1;have o:=(Ye.mp s).1;rw[Ya,YI]at g o;rw[Yn,Xx g]at f;rw[Yn,Xx o]at s;exact b6G (by lia) (by lia) ((Yu f).trans (Yu s).symm)
variable (Zc2:FB P w K mg base (CX0) 1 "_law_longest" Zff ZgW ["_law_size"] (b4X))
include Zd6 in
theorem ZkP (b:GFm K mg "_law_longest" Zhb Zff ZgW):type_of% Zc2:=by
 refine fbK ["_law_size","_law_many","_law_plain"] b λH Q a d h=>?_;obtain⟨n,rfl,f,q⟩:=h;refine⟨_,(aB (aW 1 a (bF (wQ rfl) rfl Zd6 yZ (aA aG (aA (aP oN (aP cG (dv 0) aG) aG) aD)))) (aB (aW 2 a (aP cG (aP fJ aG (dv 1)) (aP fJ aG (dv 0)))) (aF (aK (aP cG (aP cG (aP cG (dv 2) (aP oN (dv 2) aG)) (dv 1)) (aP fJ (dv 1) aG)))))),?_⟩;have e:max (1:Int) ((((n:Nat):Int)+4) / 5)=((max 1 ((n+4) / 5):Nat):Int):=by lia
 refine⟨⟨by decide,by decide⟩,?_⟩
 conv=>whnf
 rw[e];unfold lng at q;have c:max 1 ((n+4) / 5)<=3:=by lia
 refine⟨cm,cm,⟨by decide,by decide⟩,cm,?_⟩
 push_cast at q
 exact q
variable (ZdC:FB P w K mg base (CX0) 2 "_law_thing" Zf5 ZiD ["_law_script","_law_k"] (b9O K))
include ZN Zr in
theorem Zmx (B:GFm K mg "_law_thing" ZiY Zf5 ZiD):type_of% ZdC:=by
 refine fbK ["_law_script","_law_k","_law_size"] B λH Q v m h=>?_;obtain⟨a,o,k,rfl,p,b,G,q⟩:=h;refine⟨_,(aB (aW 2 v (aL Zr m.mo aJ (aA (dv 0) (aA (aP cG aG (aP fJ aG (dv 1))) (aA aG aD))))) (aB (lJ (bC (aY fH (aL Zr m.mo aJ (aA (dv 0) (aA aG (aA aG aD)))) aG (aU _)) (aF (aW 2 v (aL Zr m.mo aJ (aA (dv 0) (aA (aP cG aG (aP fJ aG (dv 1))) (aA aG aD)))))) aQ)) (aF (aK (fB rfl (ix:=[0,1]) (fP rfl ZN (aA (dv 2) aD)) (λC D E s at0=>cY) (λC D E s at0=>(aL Zr m.mo aJ (aA (dv 1) (aA (aP cG (aP cG aG (aP fJ aG (dv 2))) (dv 0)) (aA aG aD))))) rfl rfl (by rfl) (show ([".0","_law_j","_law_script","_law_k"]:List Str).Nodup by decide +kernel)))))),?_⟩;refine⟨cm,a,o,_,7,rfl,p,b,(by show 0<=50+20*((k:Nat):Int);lia),(by show 50+20*((k:Nat):Int)<=100000;lia),by decide,λw g y=>?_⟩;refine⟨λA f=>(∃n:Nat,A= [some (.ref a),some (.int ((k:Nat):Int)),some (.int ((n:Nat):Int))]/\n<=14)/\f=H,?_,?_⟩
 ·obtain⟨w,rfl⟩:=YG g;refine⟨a,o,7,6,rfl,p,b,by decide,by decide,by decide,λx _ _=>cF (λc=>?_) (λc=>⟨⟨w,rfl,by lia⟩,rfl⟩)⟩;refine⟨cm,a,o,_,15,rfl,p,b,(by show 0<=50+20*((k:Nat):Int);lia),(by show 50+20*((k:Nat):Int)<=100000;lia),by decide,λw g y=>?_⟩;obtain⟨w,rfl⟩:=YG g;exact⟨⟨w,rfl,by lia⟩,rfl⟩
 rintro A s ⟨⟨n,rfl,I⟩,rfl⟩;refine⟨⟨by lia,by lia⟩,?_⟩;rw[Y2];refine gJ (lo:=0) (n:=n) (λi r f=>f=s/\∃e:List Nat,r=nV e/\e.length=i/\∀d∈e,d<256) ?_ ?_ ?_ ?_
 ·rintro i r f F ⟨_,e,rfl,t,_⟩;exact a4L (by lia)
 ·exact⟨rfl, [],rfl,rfl,λd z=>by cases z⟩
 ·rintro i r f F ⟨rfl,e,rfl,t,hd⟩;refine⟨cm,a,o,_,256,rfl,p,b,(by show 0<=51+20*((k:Nat):Int)+(0+((i:Nat):Int));lia),(by show 51+20*((k:Nat):Int)+(0+((i:Nat):Int))<=100000;lia),by decide,λw g y=>⟨rfl,?_⟩⟩;obtain⟨w,rfl⟩:=YG g;exact⟨e++[w],a5H,by rw[Yc,t];rfl,λd u=>(YM.mp u).elim (hd d) λz=>by rw[Yw.mp z];lia⟩
 rintro r f ⟨rfl,e,rfl,t,hd⟩ l j;exact q l e _ j (aN j _) aC (by lia) hd
variable (Zd7:FB P w K mg base (CX0) 3 "_law_rows" ZgF Zjs ["_law_script","_law_many","_law_names_here"] (b4T K))
include ZN Zr ZdC in
theorem Zno (U:GFm K mg "_law_rows" ZjR ZgF Zjs):type_of% Zd7:=by
 refine fbK ["_law_script","_law_many","_law_names_here","_law_rows_here","_law_k","_law_post","_law_name"] U λH Q D k h=>?_;obtain⟨a,b,E,m,v,rfl,F,e,m2,m5,V,ln,q⟩:=h;refine⟨_,(aB (aW 3 D (dJ aD)) (aB (jB Y3 rfl (fP rfl ZN (aA (aP cG aG (aL Zr k.mo aJ (aA (dv 0) (aA aG (aA aG aD))))) aD)) (gD (i:=4) D rfl (Or.inl rfl)) (aB (aW 5 D (aL Zr k.mo aJ (aA (dv 0) (aA (aP cG aG (aP fJ aG (dv 4))) (aA (dv 1) aD))))) (aB (aW 6 D (bG cJ (dv 2) (aP cG (aP fJ aG (dv 5)) (aL Zr k.mo aJ (aA (dv 0) (aA (aP cG aG (aP fJ aG (dv 4))) (aA aG aD))))) (λ_ _=>rfl))) (aF (bI (dO (dv 3) (aA (cM (aA (dv 5) (aA (dv 6) (aA (aL ZdC k.mo aJ (aA (dv 0) (aA (dv 4) aD))) aD)))) aD))))))) (aF (aK (dv 3))))),?_⟩;refine⟨aM rfl,λl f=>?_⟩;obtain⟨I,O⟩:=gA f (.lst []);generalize upd H l _=H0 at I O;refine⟨a,E,8,2,rfl,I.seq F,e,by decide,by decide,by decide,λc W c1=>?_⟩;obtain⟨c,rfl⟩:=YG W;refine⟨⟨by lia,by lia⟩,?_⟩;rw[show (1+((c:Nat):Int)).toNat=1+c by lia];refine oG (lo:=0) (n:=1+c) (λi J w=>(∃x y z,J= [some (.ref a),some (.int ((m:Nat):Int)),some (.ref b),some (.ref l),x,y,z])/\Same H w/\∃A o,lC (λx=>H x=none) w l A o/\o.length=i/\∀r∈o,r.1<m/\r.2.2.length<=14/\(∀d∈r.2.2,d<256)/\∃j,j / 2=r.1/\v[j]? =some r.2.1) ⟨⟨_,_,_,rfl⟩,I, [], [],⟨f,O,rfl,λi t r h=>by cases h⟩,rfl,λr h=>by cases h⟩ ?_ ?_
 ·rintro i J w hi ⟨⟨x,y,z,rfl⟩,g,A,o,s,P,k⟩;rw[XS];refine⟨cm,a,E,_,m,rfl,g.seq F,e,(by show 0<=40+2*((i:Nat):Int);lia),(by show 40+2*((i:Nat):Int)<=100000;lia),by lia,λp X p1=>?_⟩;obtain⟨p,rfl⟩:=YG X;refine⟨cm,cm,a,E,_,2,rfl,g.seq F,e,(by show 0<=41+2*((i:Nat):Int);lia),(by show 41+2*((i:Nat):Int)<=100000;lia),by decide,λu Y u1=>?_⟩;obtain⟨u,rfl⟩:=YG Y;have R:2*p+u<v.length:=by lia
  refine⟨_,.int ((v[2*p+u]:Nat):Int),Vb (g _ _ V),?_,⟨_,Vb s.at_⟩,a,E,i,rfl,g.seq F,e,by lia,λd Z H2 hd L ed M B=>⟨aM rfl,λt S=>?_⟩⟩
  ·rw[show 2*((p:Nat):Int)+((u:Nat):Int)=((2*p+u:Nat):Int) by lia];exact bB (by rw[Yn,Yn,Yd R];rfl)
  obtain⟨G,T⟩:=gA S (.tup [.int ((p:Nat):Int),.int ((v[2*p+u]:Nat):Int),.ref d]);generalize upd H2 t _=H3 at G T;have C:=(s.same L).same G;refine⟨_,C.at_,bY (by rw[Ya,s.ln];lia),⟨_,_,_,rfl⟩,(g.trans (L.trans G)).put f,A++[t],o++[(p,v[2*p+u],Z)],?_,by rw[Yc,P];rfl,λr N=>?_⟩
  ·exact C.put T (G _ _ ed) ⟨λz=>(by rw[z,s.at_]at hd;cases hd),(g.trans L).none S,g.none hd⟩
  ·rcases YM.mp N with z | z
   ·exact k r z
   ·rw[Yw.mp z];exact⟨by lia,M,B,2*p+u,by show (2*p+u) / 2=p;lia,Yd R⟩
 rintro J w ⟨⟨x,y,z,rfl⟩,g,A,o,s,P,k⟩;exact q l A o w f g s (by lia) k
variable (ZeF:FB P w K mg base (CX0) 2 "_law_due" Zhi Zkz ["_law_rows_here","_law_name","_law_first"] (b9Z))
include Zo ZaA in
theorem Zod (F0:GFm K mg "_law_due" ZkY Zhi Zkz):type_of% ZeF:=by
 refine fbK ["_law_rows_here","_law_name","_law_first","_law_words","_law_tag","_law_row","_law_word"] F0 λH Q o S h=>?_;obtain⟨P,l,n,g,m,ts,s,rfl,G,u,I,q⟩:=h;refine⟨_,(aB (aW 3 o (dJ aD)) (aB (aW 4 o (dv 2)) (aB (jB Y3 rfl (dN (dv 0)) (gD (i:=5) o rfl (Or.inl rfl)) (aF (lJ (bC (aY fH (bG dY (dv 5) aG (λ_ _=>rfl)) (dv 1) (aU _)) (aB (aW 6 o (aP fW aX (bT fV rfl ZaA fX (aA (dv 4) aD)))) (aB (lJ (bC (aY pB (bF eZ rfl Zo cP (aA (bG dY (dv 5) aG (λ_ _=>rfl)) aD)) aG (aU _)) (aF (aW 6 o (aP fW (aP fW (dv 6) aX) (lF aX (aA (fB rfl (ix:=[]) (dN (bG dY (dv 5) aG (λ_ _=>rfl))) (λC fp s0 T at0=>cY) (λC fp s0 T at0=>(bT fV rfl ZaA fX (aA (dv 0) aD))) rfl rfl (by rfl) (show ([".0","_law_byte"]:List Str).Nodup by decide +kernel)) aD))))) aQ)) (aB (bI (dO (dv 3) (aA (dv 6) aD))) (aF (aW 4 o (aP oJ (aP cG (dv 4) aG) aG)))))) aQ)))) (aF (aK (lF aX (aA (dv 3) aD))))))),?_⟩;refine⟨aM rfl,λJ w=>?_⟩;obtain⟨L,U⟩:=gA w (.lst []);generalize upd H J _=T at L U;refine⟨⟨_,Vb (L _ _ G.at_)⟩,jM (xs:=ts.map V.ref) (λi e f=>(∃x y,e= [some (.ref l),some (.int ((n:Nat):Int)),some (.int ((g:Nat):Int)),some (.ref J),some (.int ((fY g n (s.take i).reverse:Nat):Int)),x,y])/\Same H f/\f J=some (.lst (((rE g n (s.take i).reverse).map thT).map V.str))) ⟨⟨_,_,rfl⟩,L,U⟩ ?_ ?_ ?_⟩
 ·rintro i e f A ⟨_,k,_⟩;exact Vb (k _ _ G.at_)
 ·rintro i v e f M ⟨⟨x,y,rfl⟩,k,a⟩;obtain⟨t,d,r,rfl,S,er,N,ed⟩:=G.get M;rw[er];have W:=YF S;obtain⟨r1,r2,r3,r4⟩:=u.ok r W;have tl:=xG (n:=n) I (s.take i).reverse;have dl:=(yO (n:=n) I u (s.take i).reverse λx D=>YY (XC.mp D)).2;rw[Xy,Yi]at dl;have O:=u.ln;have i2:(itg r.2.2).length=r.2.2.length:=Ya _;refine⟨_,?_,λ_ _ z=>z⟩;refine⟨_,_,Vc (k _ _ N),bB (j:=1) rfl,?_⟩;rw[a0C,b3D];by_cases c:r.2.1=n
  ·refine uF (by lia) ?_;rw[if_pos c,if_pos c];generalize fY g n (s.take i).reverse=tg at tl;refine⟨jT (by lia),iY (show ("whole ":Str).length<=6 by decide +kernel) (gZ (n:=tg) (by lia)),?_⟩;refine⟨λe b=>e= [some (.ref l),some (.int ((n:Nat):Int)),some (.int ((g:Nat):Int)),some (.ref J),some (.int ((tg:Nat):Int)),some (.ref t),some (.str (thT (((tg:Nat):Int),itg r.2.2)))]/\Same f b,?_,?_⟩
   ·refine⟨_,_,Vc (k _ _ N),bB (j:=2) rfl,_,.inl (Vb (k _ _ ed)),?_⟩;rw[Ya,i2];by_cases z:r.2.2= []
    ·rw[<-c6P tg _ z,z];exact⟨rfl,Vd _⟩
    ·refine uF (show (0:Int)<((r.2.2.length:Nat):Int) by have:=X5.mpr z;lia) ?_;rw[<-c6O tg _ z];have X:("whole ":Str).length<=6:=by decide +kernel
     have Y:(" ":Str).length<=1:=by decide +kernel
     have Z:=gZ (n:=tg) (by lia);have ok:=xR (n:=n) (ss:=[]) I u W;have E:=k _ _ ed;refine⟨iY (lU X Z) Y,_,_,Vc (k _ _ N),bB (j:=2) rfl,⟨_,Vb E⟩,dX (xs:=(itg r.2.2).map V.int) (λi F b=>F=(((itg r.2.2).take i).map itT).map V.str/\b=f) ?_ ⟨rfl,rfl⟩ ?_ ?_ ?_⟩
     ·rintro i F b A ⟨rfl,_⟩;rw[Ya,Ya,Yi];exact bY (by lia)
     ·rintro i F b A ⟨_,rfl⟩;exact Vb E
     ·rintro i x F b D ⟨rfl,rfl⟩;obtain⟨A,rfl⟩:=mG D;refine⟨(qP (Xc.mp ok.1.2.2 _ (YC A))).2,?_,rfl⟩;rw[Yf A,Yh,Yh];rfl
     rintro F b ⟨rfl,rfl⟩ p hp;rw[Ya,Yg (Yb _)];obtain⟨d1,d2⟩:=sO ok.1.2.2 ok.1.2.1;exact⟨_,aC,d2,iY (lU (lU X Z) Y) d1,rfl,aN hp _⟩
   rintro e b ⟨rfl,R⟩;refine⟨⟨_,Vb (R _ _ a)⟩,_,R _ _ a,bY (by rw[Ya,Ya];lia),(by show (0:Int)<256;decide),⟨_,_,rfl⟩,(k.trans R).put w,?_⟩;rw[aC,Yh,Yh];rfl
  ·refine oM (by lia) ?_;rw[if_neg c,if_neg c,Yv];exact⟨⟨_,_,rfl⟩,k,a⟩
 rintro e f ⟨⟨x,y,rfl⟩,k,a⟩;rw[Ya,G.ln,Yg (Yb _)]at a;have dl:=(yO (n:=n) I u s.reverse λx D=>XC.mp D)
 rw[Xy]at dl;have O:=u.ln;refine⟨_,a,oE (B:=3000) (λy hy=>?_) ?_,q _ k⟩
 ·obtain⟨v,M,rfl⟩:=YS.mp hy;exact a9A (dl.1 v M)
 ·rw[Ya,show ("; ":Str).length=2 by decide +kernel];lia
variable (ZcF:FB P w K mg base (CX0) 16 "_law_hand_all" ZeY Zgv ["_law_desk","_law_rows_here","_law_first"] (b9W Zad Zl CA))
include ZY ZcE Za5 Zc5 Zo Zd6 ZaA Zf Z1 Zap Zaf Zc2 in
theorem Zki (F0:GFm K mg "_law_hand_all" ZgD ZeY Zgv):type_of% ZcF:=by
 refine fbK ["_law_desk","_law_rows_here","_law_first","_law_tags","_law_turns","_law_row","_law_tag","_law_words"] F0 λH Q T E h=>?_;obtain⟨P,d,l,g,m,v,ch,ts,a,F,R,rfl,hD,hR,W,m5,X,hn,q⟩:=h;refine⟨_,(aB (aW 3 T a0P) (aB (aW 4 T aG) (aB (jB Y3 rfl (dN (dv 1)) (gD (i:=5) T rfl (Or.inl rfl)) (aB (aW 6 T (a0Q (wC E) (dv 3) (bG dY (dv 5) aG (λ_ _=>rfl)) (dv 2) ⟨rfl,rfl,rfl,rfl⟩)) (aB (xU (wC E) (dv 3) (bG dY (dv 5) aG (λ_ _=>rfl)) (aP oJ (aP cG (dv 6) aG) aG) rfl) (aB (aW 4 T (aP cG (dv 4) (aL Zc2 E.mo aJ (aA (bF eZ rfl Zo cP (aA (bG dY (dv 5) aG (λ_ _=>rfl)) aD)) aD)))) (aB (aW 7 T (aP pC (dJ (aA (bT fV rfl ZaA fX (aA (bG dY (dv 5) aG (λ_ _=>rfl)) aD)) (aA (bT fV rfl ZaA fX (aA (bG dY (dv 5) aG (λ_ _=>rfl)) aD)) (aA (bT fV rfl ZaA fX (aA (dv 6) aD)) aD)))) (fB rfl (ix:=[]) (dN (bG dY (dv 5) aG (λ_ _=>rfl))) (λC fp s0 H0 at0=>cY) (λC fp s0 H0 at0=>(bT fV rfl ZaA fX (aA (dv 0) aD))) rfl rfl (by rfl) (show ([".0","_law_byte"]:List Str).Nodup by decide +kernel)))) (aF (bC (aY pA (bN Zf Z1 Zaf.1 E.mo Zaf.2 .nil aJ (dv 0) (aA (aP fW aX (lF aX (aA (dv 7) aD))) aD)) (aP fW aX (bT fV rfl ZaA fX (aA (bF (wQ rfl) rfl Zd6 yZ (aA aG (aA (aP oN (aP cG (bF eZ rfl Zo cP (aA (bG dY (dv 5) aG (λ_ _=>rfl)) aD)) aG) aG) aD))) aD))) (aU _)) (aF (aK (b1B a8S aG))) aQ))))))) (aF (aK (dv 4)))))),?_⟩;obtain⟨_,fF⟩:=uI (g:=g) X W a λ_ z=>z;refine λtg p=>?_;have g1:=aN p (.dK []);have G:Dk5 Zad Zl CA (upd F tg (.dK [])) (upd H tg (.dK [])) d (some R) []:=hD.grow g1 λx u e=>by
  by_cases c:x=tg
  ·rw[c]at e ⊢;exact .inr ⟨p,aC.trans (aC.symm.trans e)⟩
  ·rw[aH c]at e;exact .inl e
 have F0:Same F (upd F tg (.dK [])):=λx u e=>by rw[aH λc=>by rw[c]at e;rw[hD.old _ _ e]at p;cases p];exact e
 have A:∀o,Same F (upd F tg (.dK o)):=λo x u e=>by rw[aH λc=>by rw[c]at e;rw[hD.old _ _ e]at p;cases p];exact e
 generalize upd H tg _=H1 at g1 G;refine⟨⟨_,Vb (G.old _ _ (A _ _ _ hR.at_))⟩,jM (xs:=ts.map V.ref) (λi σ U=>∃o I x y z,σ= [some (.ref d),some (.ref l),some (.int ((g:Nat):Int)),some (.ref tg),some (.int ((200+((a.take i).map λr=>lng r.2.2.length).sum:Nat):Int)),x,y,z]/\Dk5 Zad Zl CA (upd F tg (.dK o)) U d (some I) []/\nO m v ch (mH g (a.take i).reverse) I/\o.length<=i/\∀n:Nat,(gP o (.inl ((n:Nat):Int))).getD (.int ((g:Nat):Int))= .int ((fY g n (a.take i).reverse:Nat):Int)) ⟨[],R,_,_,_,rfl,G,hn,Yb _,λn=>rfl⟩ ?_ ?_ ?_⟩
 ·rintro i σ U J ⟨o,I,x,y,z,rfl,b,_⟩;exact Vb (b.old _ _ (A _ _ _ hR.at_))
 ·rintro i vv σ U hv ⟨o,I,x,y,z,rfl,b,B,kl,L⟩;obtain⟨t,db,r,rfl,E,er,et,ed⟩:=hR.get hv;have J:=(Ye.mp E).1;have ri:=YF E;obtain⟨r1,r2,r3,r4⟩:=W.ok r ri;have rl:=W.ln;have a5:=A o _ _ et;have a6:=A o _ _ ed;have Y:=b.old _ _ a5;have b7:=b.old _ _ a6;have ek:=b.old _ _ aC;have sub:rH m (r::(a.take i).reverse):=W.sub (by rw[Yk,Xy,Yi];lia) λs hs=>(YL.mp hs).elim (λe=>e▸ri) λz=>YY (XC.mp z);obtain⟨tk,n3⟩:=xR (n:=r.2.1) (ss:=(a.take i).reverse) X W ri;have fl:=(uI (g:=g) X sub _ λ_ z=>z).2.1;have fF:=b8H X sub;have e5:mH g (r::(a.take i).reverse)=mH g (a.take i).reverse++gY g r (a.take i).reverse:=rfl;have tl:=xG (n:=r.2.1) X (a.take i).reverse;have Z:(itg r.2.2).length=r.2.2.length:=Ya _;refine⟨tg,rfl,.inl ⟨_,.inl ek⟩,_,_,Vc Y,bB (j:=1) rfl,_,.inl ⟨_,.inl _,.inl ek,rfl,rfl⟩,?_⟩;rw[L];refine⟨(by show (0:Int)<256;decide),_,_,Vc Y,bB (j:=1) rfl,tg,_,rfl,.inl ⟨_,.inl _,ek,rfl,bY (by lia),rfl⟩,?_⟩;have w:=b.set (ks':=putK o (.inl ((r.2.1:Nat):Int)) (.int ((((fY g r.2.1 (a.take i).reverse:Nat):Int)+1) % 256)));have a7:=a4V (kvs:=o) (k:= .inl ((r.2.1:Nat):Int)) (v:= .int ((((fY g r.2.1 (a.take i).reverse:Nat):Int)+1) % 256));have M:∀n:Nat,(gP (putK o (.inl ((r.2.1:Nat):Int)) (.int ((((fY g r.2.1 (a.take i).reverse:Nat):Int)+1) % 256))) (.inl ((n:Nat):Int))).getD (.int ((g:Nat):Int))= .int ((fY g n (r::(a.take i).reverse):Nat):Int):=λn=>by
   rw[sW,a0C];by_cases c:r.2.1=n
   ·rw[if_pos (by rw[c]),if_pos c,c];rfl
   ·rw[if_neg λz=>c (by have:=Sum.inl.inj z;lia),if_neg c,L]
  generalize upd U tg _=N at w;generalize putK o _ _=ks2 at w a7 M;have D:=w.old _ _ (A _ _ _ et);have a0:=w.old _ _ (A _ _ _ ed);refine⟨_,_,Vc D,bB (j:=2) rfl,_,.inl (Vb a0),?_⟩;rw[Ya,Z];refine⟨r.2.2.length,rfl,r3,?_⟩;rw[e5]at fl fF;have tn:fY g r.2.1 (a.take i).reverse<256:=tl;generalize etg:fY g r.2.1 (a.take i).reverse=tag at tn tk tl;refine⟨_,_,Vc D,bB (j:=0) rfl,jT (by lia),_,_,Vc D,bB (j:=1) rfl,jT (by lia),jT (by lia),aM rfl,λp1 a8=>?_⟩;obtain⟨g3,e3⟩:=gA a8 (.lst (([num r.1,num r.2.1,num tag]).map V.str));generalize hE:upd N p1 _=H3;have g3:Same N H3:=hE▸g3;have e3:H3 p1=some (.lst (([num r.1,num r.2.1,num tag]).map V.str)):=hE▸e3;have a9:=w.same g3;have a1:=g3 _ _ a0;refine⟨_,_,Vc (g3 _ _ D),bB (j:=2) rfl,⟨_,Vb a1⟩,dX (xs:=(itg r.2.2).map V.int) (λi ys N=>ys=((r.2.2.take i).map num).map V.str/\N=H3) ?_ ⟨rfl,rfl⟩ ?_ ?_ ?_⟩
  ·rintro i ys N J ⟨rfl,_⟩;rw[Ya,Ya,Yi];exact bY (by lia)
  ·rintro i ys N J ⟨_,rfl⟩;exact Vb a1
  ·rintro i x ys N hx ⟨rfl,rfl⟩;obtain⟨J,rfl⟩:=mG hx;have b0:i<r.2.2.length:=by rw[<-Z];exact J
   refine⟨(qP (Xc.mp tk.2.2 _ (YC J))).2,?_,rfl⟩;rw[Yf b0,Yh,Yh,X4];rfl
  rintro ys H4 ⟨rfl,rfl⟩ p2 b1;rw[Ya,Z,Yg (Yb _)];obtain⟨g4,e4⟩:=gA b1 (.lst ((r.2.2.map num).map V.str));have a2:=a9.same g4;generalize upd H4 p2 _=H5 at g4 e4 a2;refine⟨_,_,g4 _ _ e3,e4,small (by rw[Ya,Ya,Ya];show 3+_<=_;lia),λp3 b2=>?_⟩;obtain⟨g5,e6⟩:=gA b2 (.lst (((Vl.num r.1:: .num r.2.1:: .num tag::r.2.2.map Vl.num).map vlT).map V.str));have eL:([num r.1,num r.2.1,num tag].map V.str++(r.2.2.map num).map V.str)=((Vl.num r.1:: .num r.2.1:: .num tag::r.2.2.map Vl.num).map vlT).map V.str:=by
   show _=V.str (num r.1):: .str (num r.2.1):: .str (num tag)::((r.2.2.map Vl.num).map vlT).map V.str;rw[b8V];rfl
  rw[eL];have O:=a2.same g5;generalize upd H5 p3 _=H6 at g5 e6 O;obtain⟨dx,fs,b3,b4⟩:=O.ed;have b5:Fits "number" ["number","number","number"] (.num r.1:: .num r.2.1:: .num tag::r.2.2.map Vl.num):=⟨.inl ⟨rfl,by lia⟩,.inl ⟨rfl,by lia⟩,.inl ⟨rfl,by lia⟩,Fits.num rfl λn hn=>by have:=r4 n hn;lia⟩
  have a3:a2A K "thing" (.num r.1:: .num r.2.1:: .num tag::r.2.2.map Vl.num):=⟨_,_,Zap.2.2.1,by simp,by rw[Yk,Yk,Yk,Ya];lia,b5⟩
  have wl:∀y∈(Vl.num r.1:: .num r.2.1:: .num tag::r.2.2.map Vl.num).map vlT,y.length<=13:=λy hy=>(a3.words (by decide +kernel)).2.2 y (Yp _ hy);have ll:((Vl.num r.1:: .num r.2.1:: .num tag::r.2.2.map Vl.num).map vlT).length<=17:=by rw[Ya,Yk,Yk,Yk,Ya];lia
  have e1:(" ":Str).length=1:=by decide +kernel
  have jl:=pP (z:=" ") wl;rw[e1]at jl;refine⟨⟨dx,_,b3,b4⟩,_,e6,oE wl (by rw[e1];lia),iY (show ("thing ":Str).length<=6 by decide +kernel) (YK jl (by lia:_<=300)),?_⟩;dsimp only[tD,tC,rB,Yv];refine O.ask a3 (by rw[lO _ (by simp),show ("thing":Str)++" "="thing " by decide +kernel]) (by decide +kernel) (.inl ⟨rfl,r.1,r.2.1,tag,r.2.2,λj R2=>nO m v ch (mH g (a.take i).reverse++(gY g r (a.take i).reverse).take j) R2,rfl,rfl,tk,(by show nO m v ch (_++List.take 0 _) I;rw[List.take_zero,Yv];exact B),λj R2 hj b6=>?_⟩) λs R2 b9 H7 hz S=>?_
  ·have ef:(gY g r (a.take i).reverse)[j]? =some (r.1,r.2.1,pc ((tag:Nat):Int) (nP (itg r.2.2)) j (itg r.2.2)):=by
    unfold gY pieces;rw[etg,Yn,Yn,Xx hj];rfl
   have eT:mH g (a.take i).reverse++(gY g r (a.take i).reverse).take (j+1)=mH g (a.take i).reverse++(gY g r (a.take i).reverse).take j++[(r.1,r.2.1,pc ((tag:Nat):Int) (nP (itg r.2.2)) j (itg r.2.2))]:=by rw[List.take_succ,ef,Yo];rfl
   have c:=b6.can (f:=(r.1,r.2.1,pc ((tag:Nat):Int) (nP (itg r.2.2)) j (itg r.2.2))) (by rw[<-eT];exact fF.sub λf hf=>(YM.mp hf).elim (XG _) λz=>YT _ (YY z)) (by rw[Yc]at fl ⊢;rw[Yi];rw[Yk,Xy,Yi]at fl;lia);exact⟨_,c.1,(by show nO m v ch (_++List.take (j+1) _) _;rw[eT];exact c.2)⟩
  obtain⟨rfl,a4,rfl⟩:=hz;rw[Yg (l:=gY g r _) (by unfold gY;rw[Ya,tW];exact Yb _),<-e5,<-er]at a4;rw[<-er]at M;refine⟨_,_,Vc (S.old _ _ (A _ _ _ et)),bB (j:=2) rfl,_,.inl (Vb (S.old _ _ (A _ _ _ ed))),?_⟩;rw[Ya,Z];have eM:max (1:Int) ((((r.2.2.length:Nat):Int)+4) / 5)=((nP (itg r.2.2):Nat):Int):=by unfold nP;rw[Z];lia
  refine⟨⟨by decide,by decide⟩,?_⟩
  conv=>whnf
  rw[eM];refine⟨jT (by lia),iY (show ("ok ":Str).length<=3 by decide +kernel) (gZ (n:=nP (itg r.2.2)) (by lia)),?_⟩;refine a5Q rfl ?_;refine⟨ks2,R2,some (.ref t),some (.int ((tag:Nat):Int)),some (.ref p3),?_,S,a4,by lia,M⟩;have eS:((200+((a.take (i+1)).map λr=>lng r.2.2.length).sum:Nat):Int)=((200+((a.take i).map λr=>lng r.2.2.length).sum:Nat):Int)+((lng r.2.2.length:Nat):Int):=by
   rw[Yf J,Yh,List.sum_append,(Ye.mp E).2];show ((200+(_+(lng r.2.2.length+0)):Nat):Int)=_;lia
  rw[eS];rfl
 rintro σ U ⟨o,I,x,y,z,rfl,b,B,kl,L⟩;rw[Ya,hR.ln,Yg (Yb _)]at B ⊢;exact q I U (b.le (A _)) B
variable (Zpl:FB P w K mg base (CX0) 17 "law" ZoG Zpb ["_law_script"] (xM K))
include ZY ZcE Za5 Zc5 ZN Zo Zhr ZaA Zf Ze4 Z1 Zf1 Zap ZeA Zdk Zaf Zr Zdf ZdB Zd7 ZeF ZcF in
theorem Zph (F0:GFm K mg "law" Zpd ZoG Zpb):type_of% Zpl:=by
 refine fbK ["_law_script","_law_many","_law_choices","_law_names_here","_law_desk","_law_words","_law_first","_law_rows_here","_law_turns","_law_row","_law_post","_law_k","_law_due_here"] F0 λH Q N D h=>?_;obtain⟨a,R,rfl,hS,J,hT,q⟩:=h;refine⟨_,(aB (aW 1 N (cH (eE (aY fH (aL Zr D.mo aJ (aA (dv 0) (aA aG (aA aG aD)))) aG (aU _)) aG aG))) (aB (kO (j:=2) N rfl rfl rfl (ix:=[0]) (fP rfl ZN (aA (dv 1) aD)) (λC fp s0 H0 at0=>cY) (λC fp s0 H0 at0=>(aL Zdf D.mo aJ (aA (dv 1) (aA (dv 0) aD)))) rfl rfl (by rfl) (show ([".0","_law_k","_law_script"]:List Str).Nodup by decide +kernel)) (aB (aW 3 N (aL ZdB D.mo aJ (aA (dv 0) (aA (dv 1) aD)))) (aB (aW 4 N (lN Ze4 Zdk.1 D.mo rfl Za5 Zdk.2 .nil aJ)) (aB (kO (j:=5) N rfl rfl rfl (ix:=[]) (dN (dv 2)) (λC fp s0 H0 at0=>cY) (λC fp s0 H0 at0=>(aP fW (aP fW (bT fV rfl ZaA fX (aA (bG (wU (K:=K)) (dv 0) aG (λ_ _=>rfl)) aD)) aX) (bT fV rfl ZaA fX (aA (bG (wU (K:=K)) (dv 0) aG (λ_ _=>rfl)) aD)))) rfl rfl (by rfl) (show ([".0","_law_one"]:List Str).Nodup by decide +kernel)) (aB (bC (aY pA (bN Zf Z1 Zaf.1 D.mo Zaf.2 .nil aJ (dv 4) (aA (aP fW (aP fW (aP fW aX (bT fV rfl ZaA fX (aA (aP cG aG (aP fJ aG (aL Zr D.mo aJ (aA (dv 0) (aA aG (aA aG aD)))))) aD))) aX) (lF aX (aA (dv 5) aD))) aD)) aX (aU _)) (aF (aK iJ)) aQ) (aB (aW 6 N (aL Zr D.mo aJ (aA (dv 0) (aA aG (aA aG aD))))) (aB (aW 7 N (aL Zd7 D.mo aJ (aA (dv 0) (aA (dv 1) (aA (dv 3) aD))))) (aB (aW 8 N (aL ZcF D.mo aJ (aA (dv 4) (aA (dv 7) (aA (dv 6) aD))))) (aB (bC (aY uR (dv 8) aG (aU _)) (aF (aK iJ)) aQ) (aB (lJ (bC (aY pB (aL Zr D.mo aJ (aA (dv 0) (aA aG (aA aG aD)))) aG (aU _)) (aB (aW 9 N (aP fW (aP fW (aP fW aX (bT fV rfl ZaA fX (aA (aL Zr D.mo aJ (aA (dv 0) (aA aG (aA (dv 1) aD)))) aD))) aX) (bT fV rfl ZaA fX (aA (aL Zr D.mo aJ (aA (dv 0) (aA aG (aA aG aD)))) aD)))) (aF (bC (aY pA (bN Zf Z1 Zaf.1 D.mo Zaf.2 .nil aJ (dv 4) (aA (dv 9) aD)) aX (aU _)) (aF (aK iJ)) aQ))) aQ)) (aB (bC (aY pA (bN Zf Z1 Zaf.1 D.mo Zaf.2 .nil aJ (dv 4) (aA (aP fW aX (bT fV rfl ZaA fX (aA (bF (b8R rfl) rfl Zhr b3W (aA (dv 8) (aA aG aD))) aD))) aD)) aX (aU _)) (aF (aK iJ)) aQ) (aB (jB Y3 rfl (fP rfl ZN (aA (dv 1) aD)) (gD (i:=10) N rfl (Or.inl rfl)) (aB (bC (aY pA (bN Zf Z1 Zaf.1 D.mo Zaf.2 .nil aJ (dv 4) (aA (aP fW aX (bT fV rfl ZaA fX (aA (dv 10) aD))) aD)) aX (aU _)) (aF (aK iJ)) aQ) (aF (jB Y3 rfl (fP rfl ZN (aA (aP fJ aG (dv 1)) aD)) (gD (i:=11) N rfl (Or.inl rfl)) (aB (aW 12 N aX) (aB (lJ (bC (PW.pt (lH (aY pA (aP oN (dv 11) aG) (dv 10) (aU _)) (jV (aY fH (aP a8U (bG cJ (dv 3) (dv 11) (λ_ _=>rfl)) (bG dY (bG cJ (dv 2) (dv 10) (λ_ _=>rfl)) aG (λ_ _=>rfl))) (bG dY (bG cJ (dv 2) (dv 10) (λ_ _=>rfl)) aG (λ_ _=>rfl)) (aU _))))) (aF (aW 12 N (aL ZeF D.mo aJ (aA (dv 7) (aA (bG cJ (dv 3) (dv 11) (λ_ _=>rfl)) (aA (dv 6) aD)))))) aQ)) (aF (bC (aY pA (bN Zf Z1 Zaf.1 D.mo Zaf.2 .nil aJ (dv 4) (aA (aP fW (aP fW (aP fW aX (bT fV rfl ZaA fX (aA (dv 10) aD))) aX) (bT fV rfl ZaA fX (aA (bG cJ (dv 3) (dv 11) (λ_ _=>rfl)) aD))) aD)) (dv 12) (aU _)) (aF (aK iJ)) aQ)))))))) (aF (aK iJ))))))))))))))),?_⟩;refine⟨λx H'=>(∃m:Nat,x= .int ((m:Nat):Int)/\(m=2\/m=3))/\H'=H,?_,?_⟩
 ·exact⟨a,R,0,4,rfl,hS,J,by decide,by decide,by decide,λz _ _=>cF (λ_=>⟨⟨3,rfl,.inr rfl⟩,rfl⟩) (λ_=>⟨⟨2,rfl,.inl rfl⟩,rfl⟩)⟩
 rintro x H0 ⟨⟨m,rfl,hm⟩,rfl⟩;refine⟨⟨by lia,by lia⟩,?_⟩;rw[Y2];refine gJ (lo:=0) (n:=m) (λi X H'=>∃(A:List Addr)(G:List (Nat×Nat)),X=A.map V.ref/\A.length=i/\G.length=i/\Same H0 H'/\(∀(j:Nat)(t:Addr)(c:Nat×Nat),A[j]? =some t->G[j]? =some c->H' t=some (.tup [.int ((c.1:Nat):Int),.int ((c.2:Nat):Int)]))/\∀c∈G,c.1<256/\c.2<256) ?_ ?_ ?_ ?_
 ·rintro i X H' Y ⟨A,G,rfl,hl,_⟩;rw[Ya,hl];exact bY (by lia)
 ·exact⟨[], [],rfl,rfl,rfl,Vd _,λj t c h=>by simp at h,λc hc=>by cases hc⟩
 ·rintro i X H' Y ⟨A,G,rfl,hl,b3,g,b4,hb⟩;rw[XS]
  conv=>whnf
  refine⟨a,R,i,rfl,g.seq hS,J,by lia,λc1 c2 t H2 c7 c8 ht g2 et=>?_⟩;refine⟨A++[t],G++[(c1,c2)],by rw[Yh];rfl,by rw[Yc,hl];rfl,by rw[Yc,b3];rfl,g.trans g2,λj t' c' U h2=>?_,λd hd=>?_⟩
  ·by_cases e:j<i
   ·rw[YN (by lia)]at U h2;exact g2 _ _ (b4 j t' c' U h2)
   ·rw[YH (by lia)]at U h2;rw[hl]at U;rw[b3]at h2;cases ej:j-i with
    |zero=>rw[ej]at U h2;cases U;cases h2;exact et
    |succ k=>rw[ej]at U;cases U
  ·rcases YM.mp hd with y | y
   ·exact hb d y
   ·rw[Yw.mp y];exact⟨c7,c8⟩
 rintro X H1 ⟨A,G,rfl,lc,lm,g1,b5,hb⟩ cl b6;obtain⟨k1,a6⟩:=gA b6 (.lst (A.map V.ref));generalize upd H1 cl _=H2 at k1 a6;have g2:=g1.trans k1;refine⟨a,R,m,rfl,g2.seq hS,J,by lia,λnl a7 H3 c9 g3 b7 d0 a3 inj=>?_⟩;have L:=g2.trans g3;refine λd W a0 b9 d3=>⟨d,W,rfl,aC,λH4 a8 a1 ed ew k4=>⟨rfl,?_⟩⟩
 have gm:Same H3 (upd (upd H3 W (.own d)) d (.ins Zad W [])):=λz u e=>by rw[aH (aO e a0),aH (aO e b9)];exact e
 have g4:Same H3 H4:=λz u e=>k4 z u (aO e a0) (gm z u e);have a2:∀z u,H3 z=some u->¬ (z=d\/z=a8):=λz u e h=>by
  rcases h with rfl | rfl
  ·rw[a0]at e;cases e
  ·rw[gm.none a1]at e;cases e
 have tP:∀{x u},H3 x=some u->(∀ps,u≠HO.tbl ps)->(λx=>if x=161 then none else H3 x) x=some u:=λ{x u} e n=>by
  obtain⟨ps,U,_⟩:=hT;dsimp only;rw[if_neg λz=>?_]
  ·exact e
  ·rw[z,L _ _ U]at e;cases e;exact n _ rfl
 have w:Dk5 Zad Zl CA (λx=>if x=161 then none else H3 x) H4 d none []:=by
  refine⟨λx=>x=d\/x=a8,⟨W,a8,.non, [],λ_=>False⟩,⟨ed,ew,.nil,rfl,λx hx=>hx.elim,.inl rfl,.inr rfl,λx hx=>hx.elim,λx hx=>?_⟩,?_,λx u e=>?_⟩
  ·rcases hx with rfl | rfl
   ·rw[ed];simp
   ·rw[ew];simp
  ·obtain⟨ps,t1,t2,t3⟩:=hT;exact⟨a2 _ _ (L _ _ t1),ps,g4 _ _ (L _ _ t1),t2,t3.imp id λ⟨c',u1,u2⟩=>⟨c',u1,g4 _ _ (L _ _ u2),a2 _ _ (L _ _ u2)⟩⟩
  ·dsimp only at e;by_cases z:x=161
   ·rw[if_pos z]at e;cases e
   ·rw[if_neg z]at e;exact⟨g4 _ _ e,a2 _ _ e,z⟩
 have O:SqL K (λx=>if x=161 then none else H3 x) a (R.map V.int):=SqL.keepT hS hT λx u e n=>by rw[if_neg n];exact L _ _ e
 have E:=tP (g3 _ _ a6) (λps=>by simp);have B:=tP b7 (λps=>by simp);have I:∀(j:Nat)(t:Addr)(c:Nat×Nat),A[j]? =some t->G[j]? =some c->_:=λj t c U h2=>tP (g3 _ _ (k1 _ _ (b5 j t c U h2))) (λps=>by simp);generalize (λx=>if x=161 then none else H3 x)=F at w O E B I;clear hS hT k4 ed ew gm g4 a2 tP b5 b7 a6 g3 k1 L g2 g1 a0 b9 d3 b6 c9 a1;have c0:G≠ []:=λz=>by rw[z]at lm;have:0=m:=lm;lia
 have b1:(" ":Str).length<=1:=by decide +kernel
 have sF:∀{H':Hp}{F':Hp}{st:Option RS}{wp:Wp},Dk5 Zad Zl CA F' H' d st wp->Same F F'->SqL K H' a (R.map V.int):=λh g=>Same.seq h.old (Same.seq g O);have a4:=w.old _ _ E;refine⟨⟨_,Vb a4⟩,dX (xs:=A.map V.ref) (λi X H'=>X=((G.take i).map λc=>vlT (.cho c.1 c.2)).map V.str/\H'=H4) ?_ ⟨rfl,rfl⟩ ?_ ?_ ?_⟩
 ·rintro i X H' Y ⟨rfl,_⟩;rw[Ya,Ya,Yi];exact bY (by lia)
 ·rintro i X H' Y ⟨_,rfl⟩;exact Vb a4
 ·rintro i x X H' hx ⟨rfl,rfl⟩;rw[Yn]at hx;obtain⟨t,ht,rfl⟩:=YU.mp hx;have Y:i<G.length:=by rw[lm,<-lc];exact(Ye.mp ht).1
  have et:=w.old _ _ (I i t _ ht (Yd Y));obtain⟨c1,c2⟩:=hb _ (YC Y);refine⟨_,_,Vc et,bB (j:=0) rfl,jT (by lia),iY (gZ (by lia)) (show ("/":Str).length<=1 by decide +kernel),_,_,Vc et,bB (j:=1) rfl,jT (by lia),iY (lU (gZ (by lia)) (show ("/":Str).length<=1 by decide +kernel)) (gZ (by lia)),?_,rfl⟩;rw[Yf Y,Yh,Yh];rfl
 rintro X H5 ⟨rfl,rfl⟩ wl a1;rw[Ya,lc,Yg (Nat.le_of_eq lm)];obtain⟨g6,c3⟩:=gA a1 (.lst ((G.map λc=>vlT (.cho c.1 c.2)).map V.str));have w:=w.same g6;generalize upd H5 wl _=H6 at g6 c3 w;obtain⟨d4,f6,d5,d6⟩:=w.ed;refine⟨⟨d4,_,d5,d6⟩,a,R,1,2,rfl,sF w (Vd _),J,by decide,by decide,by decide,λu u0 u1=>?_⟩;obtain⟨u,rfl⟩:=YG u0;have ev:(3:Int)+2*((u:Nat):Int)=((3+2*u:Nat):Int):=by lia
 refine⟨cm,?_⟩
 conv=>whnf
 rw[ev];have hv:3+2*u=3\/3+2*u=5:=by lia
 generalize 3+2*u=v at hv;have v2:2<=v:=by lia
 have v5:v<=5:=by lia
 have d7:=b0R (v:=v) (by lia) hb c0;have d8:a2A K "rail" (.num v::G.map λc=> .cho c.1 c.2):=⟨_,_,Zap.2.1,by show 2<=(G.map _).length+1;rw[Ya];lia,by rw[Yk,Ya];lia,d7⟩
 have d9:b7M v G:=by
  refine⟨by rw[Ya];exact⟨by lia,by lia⟩,λc hc=>?_⟩;obtain⟨e,he,rfl⟩:=YS.mp hc;have:=hb e he;exact⟨iG.mpr ⟨by show (0:Int)<=((e.1:Nat):Int);lia,by show ((e.1:Nat):Int)<=255;lia⟩,iG.mpr ⟨by show (0:Int)<=((e.2:Nat):Int);lia,by show ((e.2:Nat):Int)<=255;lia⟩,by lia⟩
 have r5:("rail ":Str).length<=5:=by decide +kernel
 have P:=λ{n:Nat} (h:n<10 ^ 6)=>gZ h;have a5:∀y∈G.map λc=>vlT (.cho c.1 c.2),y.length<=13:=λy hy=>by
  obtain⟨c,hc,rfl⟩:=YS.mp hy;have:=hb c hc;exact(Fit.word (k:="choice") (v:= .cho c.1 c.2) ⟨rfl,by lia,by lia⟩).1
 have e1:(" ":Str).length=1:=by decide +kernel
 have jl:=pP (z:=" ") a5;rw[e1,Ya]at jl;refine⟨jT (by lia),iY r5 (P (by lia)),iY (lU r5 (P (by lia))) b1,_,c3,oE a5 (by rw[e1,Ya];lia),iY (lU (lU r5 (P (by lia))) b1) (YK jl (show _<=100 by lia)),?_⟩;dsimp only[tD,tC,rB,Yv];refine w.up d8 (c6N c0) d9 λH7 w=>?_;refine⟨a,R,9,256,rfl,sF w (Vd _),J,by decide,by decide,by decide,λg g0 g1=>?_⟩;obtain⟨g,rfl⟩:=YG g0;refine⟨a,nl,R,m,a7,rfl,sF w (Vd _),J,by lia,by lia,w.old _ _ B,d0,λl ts rs H8 hl g8 hR l2 D=>?_⟩;have FF:Same F (λx=>match H7 x with | none=>H8 x | some _=>F x):=λx u e=>by
  show (match H7 x with | none=>H8 x | some _=>F x)=_;rw[w.old _ _ e];exact e
 have w:=w.grow (F':=λx=>match H7 x with | none=>H8 x | some _=>F x) g8 λx u e=>by
  cases c:H7 x with
  |none=>rw[c]at e;exact .inr ⟨rfl,e⟩
  |some _=>rw[c]at e;exact .inl e
 have hR:=hR.imp (H':=λx=>match H7 x with | none=>H8 x | some _=>F x) λx u p e=>by
  show (match H7 x with | none=>H8 x | some _=>F x)=_;rw[show H7 x=none from p];exact e
 have O:=Same.seq FF O;have E:=FF _ _ E;have B:=FF _ _ B;have I:=λ(j:Nat) (t:Addr) (c:Nat×Nat) x y=>FF _ _ (I j t c x y)
 have hO:rH m rs:=⟨l2,λr h=>let ⟨a,b,c,j,_,e⟩:=D r h;⟨a,a3 _ (YF e),b,c⟩,λr h s h' e=>by
  obtain⟨_,_,_,j,ej,e1⟩:=D r h;obtain⟨_,_,_,k,ek,e2⟩:=D s h';rw[e]at e1
  rw[<-ej,<-ek,inj j k _ e1 e2]⟩
 have e0:rH m rs.reverse:=hO.sub (by rw[Xy];exact l2) λr h=>XC.mp h;have hg:g<256:=by lia
 obtain⟨f1,f2,f3⟩:=uI (g:=g) hg hO rs.reverse λr h=>XC.mp h;have f3:=f3 v v5;rw[List.map_reverse,List.sum_reverse]at f3;rw[Xy]at f2;have sl:=a5N λr h=>(D r h).2.1;have a9:=nO.start v G;rw[lm]at a9;have e4:∀i,i<m->G[i]? =some (G.getD i (0,0)):=λi Y=>by
  rw[Yj,Yd (by lia)];rfl
 refine⟨_,d,l,g,m,v,_,ts,rs,_,_,rfl,w,hR,hO,by lia,hg,a9,λR1 H9 w hn=>?_⟩;generalize (λx=>match H7 x with | none=>H8 x | some _=>F x)=F2 at w hR O E B I;clear FF sF a9 g8 hl;have sF:∀{H':Hp}{st:Option RS}{wp:Wp},Dk5 Zad Zl CA F2 H' d st wp->SqL K H' a (R.map V.int):=λh=>Same.seq h.old O;generalize hch':(λi=>G.getD i (0,0))=ch at hn;generalize eT:200+(rs.map λr=>lng r.2.2.length).sum=T;have hA:=λ{o:Option (Nat×Nat)} (ho:∀p t,o=some (p,t)->p<m)=>hn.all (by lia) (by lia) v2 v5 (b8H hg e0) (by lia) ho;refine⟨λc4 H'=>∃(x9:Option V)(ot:Option (Nat×Nat)),c4= [some (.ref a),some (.int ((m:Nat):Int)),some (.ref cl),some (.ref nl),some (.ref d),some (.ref wl),some (.int ((g:Nat):Int)),some (.ref l),some (.int ((T:Nat):Int)),x9,none,none,none]/\Dk5 Zad Zl CA F2 H' d (some R1) ot.toList/\∀p t,ot=some (p,t)->p<m,?_,?_⟩
 ·refine⟨a,R,2,5,rfl,sF w,J,by decide,by decide,by decide,λz _ _=>cF (λc=>?_) (λc=>⟨none,none,rfl,w,λ_ _ e=>by cases e⟩)⟩;refine⟨a,R,3,m,rfl,sF w,J,by decide,by decide,by lia,λp p0 p1=>?_⟩;obtain⟨p,rfl⟩:=YG p0;have w6:("wrong ":Str).length<=6:=by decide +kernel
  refine⟨jT (by lia),iY w6 (P (by lia)),iY (lU w6 (P (by lia))) b1,a,R,4,300,rfl,sF w,J,by decide,by decide,by decide,λt t0 t1=>?_⟩;obtain⟨t,rfl⟩:=YG t0;obtain⟨W,fs,ed,hf⟩:=w.ed;refine⟨jT (by lia),iY (lU (lU w6 (P (by lia))) b1) (P (by lia)),⟨W,_,ed,hf⟩,?_⟩;dsimp only[tD,c5Q,rB,List.set,oV,List.getElem?_cons_succ,List.getElem?_cons_zero,Yv];refine w.ask (x:="wrong") (vs:=[.num p,.num t]) ⟨_,_,Zap.2.2.2.1,Yb _,Xh rfl,.inl ⟨rfl,by lia⟩,.inl ⟨rfl,by lia⟩,trivial⟩ (c3F (y:="wrong ") "wrong" p t) (by decide +kernel) (.inr (.inl ⟨rfl,p,t,rfl,rfl,by rw[hn.ln.ps];lia,by decide⟩)) λs R2 e5 e6 hz w=>?_;obtain⟨rfl,rfl,rfl⟩:=hz;exact⟨_,some (p,t),rfl,w,λ_ _ e=>by cases e;lia⟩
 rintro c4 e6 ⟨x9,ot,rfl,w,e7⟩;have hA:=hA e7;obtain⟨W,fs,ed,hf⟩:=w.ed;refine⟨⟨W,_,ed,hf⟩,?_⟩
 conv=>whnf
 have eM:min ((T:Nat):Int) 2000=((T:Nat):Int):=by lia
 rw[eM];refine⟨jT (by lia),iY (show ("run ":Str).length<=4 by decide +kernel) (P (by lia)),?_⟩;dsimp only[tD,tC,rB,Yv];have e8:(iM (prs ot) R1 T).ps.length=m:=(tL _ R1 T).trans hn.ln.ps;refine w.ask (x:="run") (vs:=[.num T]) ⟨_,_,Zap.2.2.2.2.1,Yb _,Xh rfl,.inr ⟨rfl,by lia⟩,trivial⟩ (c3G (y:="run ") "run" T) (by decide +kernel) (.inr (.inr (.inl ⟨rfl,T,rfl,rfl,λz=>(by have:=hn.ln.ps;rw[z]at this;have:0=m:=this;lia),by lia,by cases ot <;> exact Xh rfl,λk hk=>by rw[b1A];exact hA.1 k (by lia)⟩))) λs R2 e5 f7 hz w=>?_;obtain⟨rfl,rfl,rfl⟩:=hz;rw[b1A]at w;have dn:=hA.2 T (by lia);generalize iM (prs ot) R1 T=R2 at w dn e8;refine⟨⟨by lia,by lia⟩,?_⟩;rw[Y2];refine oG (lo:=0) (n:=m) (λi Z H'=>(∃y z u,Z= [some (.ref a),some (.int ((m:Nat):Int)),some (.ref cl),some (.ref nl),some (.ref d),some (.ref wl),some (.int ((g:Nat):Int)),some (.ref l),some (.int ((T:Nat):Int)),x9,y,z,u])/\Dk5 Zad Zl CA F2 H' d (some R2) ot.toList) ⟨⟨_,_,_,rfl⟩,w⟩ ?_ λZ H' _=>q _;rintro i Z H' Y ⟨⟨y,z,u,rfl⟩,w⟩;rw[XS];obtain⟨S,eS⟩:∃S,R2.ps[i]? =some S:=⟨_,Yd (by lia)⟩
 have dS:=dn i S eS;obtain⟨W,fs,ed,hf⟩:=w.ed;refine⟨⟨W,_,ed,hf⟩,jT (by lia),iY (show ("waits ":Str).length<=6 by decide +kernel) (P (by lia)),?_⟩;dsimp only[tD,tC,rB,Yv];refine w.ask (x:="waits") (vs:=[.num i]) ⟨_,_,Zap.2.2.2.2.2.1,Yb _,Xh rfl,.inl ⟨rfl,by lia⟩,trivial⟩ (c3G (y:="waits ") "waits" i) (by decide +kernel) (.inr (.inr (.inr (.inl ⟨rfl,i,S,rfl,rfl,eS,dS.wt⟩)))) λs R' e9 f8 hz w=>?_;obtain⟨rfl,rfl,rfl⟩:=hz;refine⟨cm,⟨by lia,by lia⟩,?_⟩;rw[show (2*((m:Nat):Int)).toNat=2*m by lia];refine oG (lo:=0) (n:=2*m) (λk Z H'=>(∃z u,Z= [some (.ref a),some (.int ((m:Nat):Int)),some (.ref cl),some (.ref nl),some (.ref d),some (.ref wl),some (.int ((g:Nat):Int)),some (.ref l),some (.int ((T:Nat):Int)),x9,some (.int ((i:Nat):Int)),z,u])/\Dk5 Zad Zl CA F2 H' d (some R') ot.toList) ⟨⟨_,_,rfl⟩,w⟩ ?_ λZ H' z=>let ⟨⟨a,b,e⟩,c⟩:=z;⟨⟨_,_,_,e⟩,c⟩;rintro k Z H' hk ⟨⟨z,u,rfl⟩,w⟩;rw[XS];obtain⟨nm,b0⟩:∃nm,a7[k]? =some nm:=⟨_,Yd (by lia)⟩
 have f0:=a3 nm (YF b0);have at_:atI (nV a7) ((k:Nat):Int)=some (.int ((nm:Nat):Int)):=bB (by rw[Yn,Yn,b0];rfl);have up:=dS.up nm (k / 2) λf hf e=>by
  obtain⟨r,f4,e1,e2,_⟩:=f1 f hf;obtain⟨_,_,_,j,ej,e3⟩:=D r (XC.mp f4);rw[e1,<-ej,inj j k nm (by rw[e3,<-e2,e]) b0]
 rw[a5Y]at up;have il:i<A.length:=by lia
 have ec:=I i _ _ (Yd il) (e4 i Y);rw[show G.getD i (0,0)=ch i by rw[<-hch']]at ec;refine⟨λZ b2=>(∃M:List Th,Z= [some (.ref a),some (.int ((m:Nat):Int)),some (.ref cl),some (.ref nl),some (.ref d),some (.ref wl),some (.int ((g:Nat):Int)),some (.ref l),some (.int ((T:Nat):Int)),x9,some (.int ((i:Nat):Int)),some (.int ((k:Nat):Int)),some (.str (Txt.join "; " (M.map thT)))]/\M=if k / 2≠i/\Builtin.bitAnd ((nm:Nat):Int) (((ch i).1:Nat):Int)=(((ch i).2:Nat):Int) then rE g nm rs.reverse else [])/\Dk5 Zad Zl CA F2 b2 d (some R') ot.toList,?_,?_⟩
 ·refine⟨⟨by decide,by decide⟩,?_⟩;by_cases c:k / 2=i
  ·refine a5Q (show ((k:Nat):Int) / 2=((i:Nat):Int) by lia) ?_;exact⟨⟨[],by rw[b2M];rfl,(if_neg λz=>z.1 c).symm⟩,w⟩
  refine c5E (show ¬ ((k:Nat):Int) / 2=((i:Nat):Int) by lia) ?_;refine⟨_,_,Vb (w.old _ _ B),at_,_,.ref A[i],Vb (w.old _ _ E),bB (by rw[Yn,Yd il];rfl),_,_,Vc (w.old _ _ ec),bB (j:=0) rfl,?_⟩;refine⟨_,.ref A[i],Vb (w.old _ _ E),bB (by rw[Yn,Yd il];rfl),_,_,Vc (w.old _ _ ec),bB (j:=1) rfl,?_⟩;by_cases c2:Builtin.bitAnd ((nm:Nat):Int) (((ch i).1:Nat):Int)=(((ch i).2:Nat):Int)
  ·refine uF c2 ?_;refine⟨_,_,Vb (w.old _ _ B),at_,_,l,nm,g,m,ts,rs,rfl,hR.same w.old,hO,hg,λb2 f5=>⟨⟨_,rfl,(if_pos ⟨c,c2⟩).symm⟩,w.same f5⟩⟩
  ·refine oM c2 ?_;exact⟨⟨[],by rw[b2M];rfl,(if_neg λz=>c2 z.2).symm⟩,w⟩
 rintro Z b2 ⟨⟨M,rfl,c5⟩,w⟩;have c6:M.length<=6/\∀v∈M,Thk v:=by
  obtain⟨d1,d2⟩:=yO (n:=nm) hg hO rs.reverse λr h=>XC.mp h;rw[Xy]at d2;rw[c5];split
  ·exact⟨by lia,d1⟩
  ·exact⟨YW _,λv h=>by cases h⟩
 have e2:(M.map pieces).flatten=if k / 2≠i/\Builtin.bitAnd ((nm:Nat):Int) (((ch i).1:Nat):Int)=(((ch i).2:Nat):Int) then ((rE g nm rs.reverse).map pieces).flatten else []:=by
  rw[c5];split <;> rfl
 rw[<-e2]at up;obtain⟨W,fs,ed,hf⟩:=w.ed;have t7:("things ":Str).length<=7:=by decide +kernel
 refine⟨⟨W,_,ed,hf⟩,jT (by lia),iY t7 (P (by lia)),iY (lU t7 (P (by lia))) b1,_,_,Vb (w.old _ _ B),at_,jT (by lia),iY (lU (lU t7 (P (by lia))) b1) (P (by lia)),?_⟩;dsimp only[tD,tC,rB,Yv];refine w.ask (x:="things") (vs:=[.num i,.num nm]) ⟨_,_,Zap.2.2.2.2.2.2,Yb _,Xh rfl,.inl ⟨rfl,by lia⟩,.inl ⟨rfl,by lia⟩,trivial⟩ (c3F (y:="things ") "things" i nm) (by decide +kernel) (.inr (.inr (.inr (.inr ⟨rfl,i,nm,S,M,rfl,rfl,eS,dS.ul,c6.1,up,c6.2⟩)))) λs R3 e9 f9 hz w=>?_;obtain⟨rfl,rfl,rfl⟩:=hz;refine a5Q rfl ?_;exact⟨⟨_,_,rfl⟩,w⟩
set_option maxHeartbeats 0 in
include Zcm ZaN Zd3 ZR ZmJ ZbJ Zd4 ZeD Zcs Zx Zfw Zfx Zba ZdL ZbK ZcR Zde ZdM Zfa ZfZ Zb0 Zez Zhp ZmK Zdd Zfu Zce ZeE ZQ Zi5 Zeg Zey Zc4 ZbL ZeC Zdu ZeB Zf0 Zft Zfy ZY Ze8 ZkG Zgh Zaq Zaw Zd5 Ze9 Zfv ZcE Zct Za5 Zc5 ZN Zhq Zbn Zo Zd6 Zhr Zfz ZmL ZaA Zd2 Zh Zg Zi ZbA Ze Zar Zd Zd1 ZS Zj ZH Zs Zu ZX Z3 Za Zbc Zaz Zex Za7 ZaG Zbz ZaV Zby Zdc ZcT Zcl Zc Ze5 Zb Zd0 Zf Ze6 Ze4 ZW ZG Za3 Zbs Zbg Zbb Za4 ZaK Zam Z0 ZU Zbj Zat Ze7 Zas ZbS Zbl Zbr Zbf Za9 ZaI Za2 ZbD ZbE Zb5 Za1 ZbC Zbe Za8 ZbY Zb8 ZbU Zbp ZbF Zca ZcI Zcn ZbZ Zb9 ZbV Zbq ZbG Zcb ZcJ Zt Zco Zcq Zcp ZcK Zb6 Zbm ZaC Z4 Za0 Zbk ZbW ZbX Zb7 ZcL ZcM Zcr ZbT Z1 Zf1 Zap Ze3 Zao Zv ZA Zq ZL Zy Zaa ZM ZV ZF Z7 ZaM ZD ZaD Zah ZT Z8 ZaB Zn Zm ZaJ ZO Zab Zae ZK Zan Zal ZaE Zav Zau Zp ZJ ZE Zw Zz Z6 Zk ZI ZeA in
theorem all_mk {l:W.OpenLaw}{fa:Addr}(M:mg "law"=some (.ref fa))
 :GFc K mg "ear" Zi6 ZoF 165->GF K mg "bits_of" ZlP Zij->GF K mg "number_of" ZjW ZgK->GF K mg "are_bytes" ZjS ZgG->GF K mg "divided" ZlQ Zik->GF K mg "rest_of" ZlT Zin->GF K mg "check_of" Zk0 Zhk->GF K mg "is_name" ZlR Zil->GF K mg "put_in" ZnB Zka->GF K mg "check_frame" Zh6 ZfL->GF K mg "frame_bits" ZiZ Zf6->GF K mg "wire_of" ZlW Zip->GF K mg "told_size" Zj1 ZgM->GF K mg "is_complete" Zib ZfQ->GF K mg "read_frame" Zi0 Zf7->GF K mg "begun_reader" Zhc Zfg->GF K mg "is_wanted" ZjU ZgI->GF K mg "copies" Znz Zj8->GF K mg "unless_off" Zi4 Zga->GF K mg "fault_of" Zk1 Zhl->GF K mg "refusal_of" Zi1 Zf8->GF K mg "blame_of" ZkZ Zhj->GF K mg "check_votes" Zh9 ZfO->GF K mg "check_choice" Zhd Zfh->GF K mg "is_size" ZlS Zim->GF K mg "check_piece" Zh7 ZfM->GF K mg "told_of" ZlV Zio->GF K mg "number_in" ZjV ZgJ->GF K mg "choice_of" ZjT ZgH->GF K mg "value_of" Zk4 Zho->GF K mg "read_row" Zk3 Zhn->GF K mg "check_thing" Zh8 ZfN->GF K mg "piece_of" Zk2 Zhm->GF K mg "cut" Zpc ZoE->GF K mg "dotted" ZnA Zj9->GF K mg "frames_text" Zia ZfP->GF K mg "thing_text" Zi3 Zf9->GF K mg "things_of" Zj0 ZgL->GF K mg "say_wrong" ZjZ Zef->GF K mg "say_waits" ZjY Zee->GF K mg "say_things" Zi2 ZdK->GF K mg "say_run" ZlU ZfF->GF K mg "say_thing" ZjX Zed->GF K mg "_law_draw" ZjQ ZgE->GF K mg "_law_choice" Zh5 ZfK->GF K mg "_law_names" ZiX Zf4->GF K mg "_law_longest" Zhb Zff->GF K mg "_law_thing" ZiY Zf5->GF K mg "_law_rows" ZjR ZgF->GF K mg "_law_due" ZkY Zhi->GF K mg "_law_hand_all" ZgD ZeY->GF K mg "law" Zpd ZoG->MF K CA.streak "__init__" "Streak.__init__" Zh4 Zew->MF K CA.streak "lengthen" "Streak.lengthen" ZfS ZcS->MF K CA.streak "is_full" "Streak.is_full" Zgn Zdb->MF K CA.streak "is_too_long" "Streak.is_too_long" Zfe Zb4->MF K CA.reader "__init__" "Reader.__init__" Zh0 Zes->MF K CA.reader "judged" "Reader.judged" ZgB ZdA->MF K CA.reader "hear" "Reader.hear" ZhZ Zer->MF K CA.reader "plain" "Reader.plain" Zg7 ZdW->MF K CA.reader "frame" "Reader.frame" Zg6 ZdV->MF K ZeX "__init__" "Tail.__init__" ZjO Zfs->MF K ZeX "says" "Tail.says" ZjP Zec->MF K ZeX "is_fault" "Tail.is_fault" ZgC ZcH->MF K ZeX "judged_vote" "Tail.judged_vote" ZfJ ZbI->MF K ZeX "hear" "Tail.hear" ZjN Zeb->MF K CA.rtail "__init__" "ReadTail.__init__" ZgA Zdz->MF K CA.stail "__init__" "SpeakTail.__init__" Zgm Zda->MF K CA.count "__init__" "Count.__init__" ZiM ZeM->MF K CA.count "is_quiet" "Count.is_quiet" Zgi Zc6->MF K CA.count "is_off" "Count.is_off" Zg3 ZdS->MF K CA.count "move" "Count.move" ZiN ZeN->MF K CA.count "fault" "Count.fault" ZhQ Zei->MF K CA.count "blame" "Count.blame" ZhP Zeh->MF K CA.count "good" "Count.good" ZiL ZeL->MF K CA.free "__init__" "Free.__init__" ZjE Zfj->MF K CA.speaks "__init__" "Speaks.__init__" Zh1 Zet->MF K CA.reads "__init__" "Reads.__init__" ZiR ZeR->MF K CA.intail "__init__" "InTail.__init__" ZhS Zek->MF K CA.flag "__init__" "Flagging.__init__" Zgw Zdv->MF K CA.settles "__init__" "Settles.__init__" Zg8 ZdX->MF K CA.rests "__init__" "Rests.__init__" ZiU ZeU->MF K CA.post "is_quiet" "Post.is_quiet" Zgz Zdy->MF K CA.post "is_off" "Post.is_off" ZhX Zep->MF K CA.post "has_frame" "Post.has_frame" Zgk Zc8->MF K CA.post "foremost_wire" "Post.foremost_wire" Zfd Zb3->MF K CA.post "drop_foremost" "Post.drop_foremost" Zfc Zb2->MF K CA.post "hand_up" "Post.hand_up" Zg4 ZdT->MF K CA.post "hand" "Post.hand" ZjH Zfm->MF K CA.post "waits" "Post.waits" ZiP ZeP->MF K CA.post "got" "Post.got" ZkV ZfW->MF K CA.post "__init__" "Post.__init__" ZjJ Zfo->MF K CA.free "says" "Free.says" ZjF Zfk->MF K CA.speaks "says" "Speaks.says" Zh2 Zeu->MF K CA.reads "says" "Reads.says" ZiS ZeS->MF K CA.intail "says" "InTail.says" ZhT Zel->MF K CA.flag "says" "Flagging.says" Zgx Zdw->MF K CA.settles "says" "Settles.says" Zg9 ZdY->MF K CA.rests "says" "Rests.says" ZiV ZeV->MF K CA.off "says" "Off.says" ZkT ZfU->MF K CA.off "step" "Off.step" ZkU ZfV->MF K CA.flag "step" "Flagging.step" Zgy Zdx->MF K CA.settles "step" "Settles.step" Zha ZdZ->MF K CA.rests "step" "Rests.step" ZiW ZeW->MF K CA.free "step" "Free.step" ZjG Zfl->MF K CA.reads "step" "Reads.step" ZiT ZeT->MF K CA.speaks "step" "Speaks.step" Zh3 Zev->MF K CA.intail "step" "InTail.step" ZhU Zem->MF K CA.post "says" "Post.says" ZjK Zfp->MF K CA.post "hear" "Post.hear" ZjI Zfn->MF K Zl "post_at" "Rail.post_at" Zg5 ZdU->MF K Zl "__init__" "Rail.__init__" ZjM Zfr->MF K Zl "hand" "Rail.hand" ZjL Zfq->MF K Zl "make_turn" "Rail.make_turn" Zgl Zc9->MF K Zl "got" "Rail.got" ZkW ZfX->MF K Zl "waits" "Rail.waits" ZiQ ZeQ->MF K Zl "is_off" "Rail.is_off" ZhY Zeq->MF K Zl "run" "Rail.run" ZkX ZfY->MF K ZB "__init__" "Joiner.__init__" ZhV Zen->MF K ZB "end" "Joiner.end" ZiO ZeO->MF K ZB "goes_on" "Joiner.goes_on" Zgj Zc7->MF K ZB "add_piece" "Joiner.add_piece" ZfI ZcG->MF K ZB "begin_thing" "Joiner.begin_thing" Zfb Zb1->MF K ZB "take" "Joiner.take" ZhW Zeo->MF K Zad "__init__" "Desk.__init__" ZjD Zfi->MF K Zad "put_up" "Desk.put_up" ZhR Zej->MF K Zad "say" "Desk.say" ZkS ZfT->
 ∃fd:FuncData,(∀(s:Shared)(v:Value),BindsTo s fd ⟨[v], []⟩ [("_law_script",v)])/\∀base:Heap,K.In base->base.Ns mainGlobals mg->iV l.prog w K mg base CX0 17 fa fd ["_law_script"] (xM K):=by
 intro o N O P Q R S T U V X Y Z a0 a1 a2 a3 a4 a5 a6 a7 a8 a9 b0 b1 b2 b3 b4 b5 b6 b7 b9 c0 c1 c2 c3 c4 c5 c6 c7 c8 c9 d0 d1 d2 d3 d4 d5 d6 d7 d8 b d9 e0 e1 e2 e3 e4 e5 e6 e7 e8 e9 f0 f1 f2 f3 f4 f5 f6 f7 f8 f9 g0 g1 g2 g3 g4 g5 g6 g7 g8 g9 h0 h1 h2 h3 h4 h5 h6 h7 h8 h9 i0 i1 i2 i3 i4 i5 i6 i7 i8 i9 j0 j1 j2 j3 j4 j5 j6 j7 j8 j9 k0 k1 k2 k3 k4 k5 k6 k7 k8 k9 l0 l4 l5 l6;cases M.symm.trans b.s.m;refine⟨Exists.choose b,λs v=>?_,λbase _ _=>?_⟩
 ·obtain⟨_,_,_,_,_,_,_,_,_,e,_⟩:=b.s.F.ex;rw[e];exact .of_eq rfl
 have l7:=Zpg l.prog w mg base Zf1 ZeA o.s.2 o.s.1;have p:=Zlw l.prog w mg base CA Zi Zao Zv d9.s;have ZZ:=ZiK l.prog w mg base CA Zi Zao Zv e0.s;have ZP:=Zjd l.prog w mg base CA Zcm Zi Zv e1.s;have l8:=Zg2 l.prog w mg base CA Zcm Zi Zv e2.s;have q:=ZoI l.prog w mg base ZaN ZN N.s;have c:=Znt l.prog w mg base  O.s;have d:=Znp l.prog w mg base Zd3 Zhq P.s;have l9:=ZoJ l.prog w mg base ZR Q.s;have f:=ZoM _ w mg base ZR ZmJ c l9 R.s;have m0:=Zof _ w mg base ZaN ZR ZbJ Zbn q f S.s;have m1:=ZoK l.prog w mg base Zd4 T.s;have m2:=Zo2 _ w mg base CA ZeD Zi ZbA ZW ZG p ZZ ZP U.s;have g:=Zly _ w mg base Zcs Zx Zo d m1 V.s;have m3:=Zmy _ w mg base ZaN ZR Zx Zfw Zfx Zba Zo q m0 g X.s;have m4:=ZoP _ w mg base ZaN ZR Zx m2 m3 Y.s;have r:=Zny _ w mg base ZdL ZbK c Z.s;have t:=ZlD _ w mg base ZbJ Zba ZbK Zo r a0.s;have m5:=Zmz _ w mg base ZR Zx Zba ZdL ZbK ZN c f r t a1.s;have m6:=Zls _ w mg base CA ZeD ZbA Ze ZA Zq ZL p e3.s;have m7:=Zkg _ w mg base CA ZR Zi Ze ZG Za3 ZA Zq ZP l8 f t e4.s;have h:=Zlr _ w mg base CA ZR Zi Ze ZW ZG Zbs ZA Zq ZL ZZ ZP m7 e5.s;have m8:=ZkL l.prog w mg base CA Zbn Ze Zq e6.s;have m9:=ZkK _ w mg base CA ZR Zx Ze Zq ZL m5 e7.s;have u:=Znl l.prog w mg base CA Zh Zg e8.s;have n0:=Znm l.prog w mg base CA ZcR Zh Zg e9.s;have n1:=Zkh l.prog w mg base CA ZcR Zh Zg f0.s;have n2:=Zid l.prog w mg base CA Zde Zh Zg f1.s;have n3:=Znk _ w mg base CA Zde Zh Zg Zbg Zbb Za4 ZaK n1 n2 f2.s;have n4:=Zkf _ w mg base CA ZdM Zh Zg Zar u f3.s;have n5:=Zjc _ w mg base CA ZdM Zh Zg Zar u f4.s;have n6:=Zml l.prog w mg base CA Zd Zy f5.s;have n7:=Zi8 l.prog w mg base CA Zfa Zd Zy f6.s;have x:=ZkH l.prog w mg base CA ZfZ Zd Zy f7.s;have i:=Zmm _ w mg base CA Zd6 Zd Zam Zy x f8.s;have y:=Zli _ w mg base CA Zb0 Zez Zd Z0 i f9.s;have n8:=Zlh _ w mg base CA Zb0 Zd Z0 i g0.s;have n9:=Zmk _ w mg base CA Zd Z0 i g1.s;have o0:=ZkQ _ w mg base CA ZR Zx Zhp Ze Zd1 ZU m6 h a2.s;have j:=Znb l.prog w mg base CA ZS Zaa g2.s;have z:=Zlt l.prog w mg base CA Zj ZM ZV ZF g3.s;have k:=Zmq l.prog w mg base CA ZH Z7 ZaM g4.s;have A:=Zlk l.prog w mg base CA Zs ZD ZaD g5.s;have B:=Zkb l.prog w mg base CA Zu Zah ZT g6.s;have Z2:=ZkM l.prog w mg base CA ZX Z8 g7.s;have Z5:=Zmt l.prog w mg base CA Z3 ZaB g8.s;have o1:=Zke _ w mg base CA Zd Za Zbj Zn n7 g9.s;have C:=Zlp _ w mg base CA Zd Za Zam Zn x h0.s;have o2:=Zja l.prog w mg base CA Zo Za Zm h1.s;have o3:=Zg1 _ w mg base CA ZaN ZR Zx Za Zm m4 h2.s;have o4:=Zg0 l.prog w mg base CA Za Zm h3.s;have o5:=Znr l.prog w mg base  a3.s;have o6:=ZkI _ w mg base CA Za ZaJ ZO o5 h4.s;have o7:=Zne _ w mg base CA Zx Zbn Za Zm g h5.s;have D:=Zo0 l.prog w mg base Zbn a4.s;have o8:=Zmo _ w mg base CA Za Zm D h6.s;have o9:=Zoa _ w mg base CA Za ZO D h7.s;have n:=ZmD _ w mg base CA ZmK Za Zat Ze7 C a5.s;have a:=Zog _ w mg base CA Zdd Zfu Zd Za Zbc Zas Zn y B n a6.s;have p0:=ZmA _ w mg base CA Zce Zd Za Zaz Zas Zn y Z2 n a7.s;have p1:=Zoe _ w mg base CA Zce Zd Za Zaz ZbS Zn n8 Z2 n a8.s;have p2:=ZlB l.prog w mg base ZeE ZQ Zd2 a9.s;have p3:=ZkR _ w mg base ZQ d b0.s;have p4:=Zng _ w mg base CA ZeE ZQ Zi5 Zeg Za Zex Za7 Zn Zm ZaJ ZO Zab Zae n6 j p2 p3 h8.s;have E:=Znc _ w mg base CA Zey ZS Za Zbl Zbr Zaa o1 o2 h9.s;have p5:=Zlu l.prog w mg base CA Zj ZM ZF i0.s;have p6:=Zmr l.prog w mg base CA  i1.s;have p7:=Zll _ w mg base CA Zh Zg Zs Zbf Za9 ZD n0 i2.s;have p8:=Zkc l.prog w mg base CA  i3.s;have p9:=ZkN l.prog w mg base CA  i4.s;have q0:=Zmu l.prog w mg base CA  i5.s;have q1:=Zn8 l.prog w mg base CA  i6.s;have q2:=Zn9 l.prog w mg base CA  i7.s;have q3:=Zkd _ w mg base CA Zdd Zce Zu Zbc Zaz Zah ZT B Z2 i8.s;have q4:=ZkO _ w mg base CA Zc4 ZbL ZX ZaG Z8 Z5 p1 i9.s;have q5:=Zmv _ w mg base CA Zeg Zc4 Z3 Za7 ZaG ZaB j Z5 a j0.s;have q6:=Znd _ w mg base CA ZaN ZR Zx Zeg ZeC Zdu ZS Za Za7 Zbz ZaV ZaI Za2 Zaa o0 j z k o3 a E j1.s;have q7:=Zms _ w mg base CA ZR Zx ZdM Zdu ZeB Zf0 Ze ZH Za ZaV Zby Zdc ZU ZbD Z7 ZaM Zab h m9 n4 k A a j2.s
 have q8:=Zlv _ w mg base CA ZR Zx ZdM ZeC Zdu ZeB Zft Zfy Zo Ze Zj Za Zbz ZaV Zby ZcT ZU ZbE ZM ZV ZF Zab h m8 n5 z k A a j3.s;have q9:=Zlm _ w mg base CA Zc4 ZbL Zh Zg Zd Zs Za ZaG Zb5 Za1 ZbC Zbe Za8 ZD ZaD Zn n3 n9 Z5 o4 o6 a p0 j4.s;have r0:=Znh _ w mg base CA ZS Zj ZH Zs Zu ZX Z3 Za Zcl ZaI ZbY Zb8 ZbU Zbp ZbF Zca ZcI Zae E p5 p6 p7 p8 p9 q0 q1 j5.s;have r1:=Znf _ w mg base CA ZaN ZR Zx ZS Zj ZH Zs Zu ZX Z3 Za Zcl Zcn ZbZ Zb9 ZbV Zbq ZbG Zcb ZcJ Zae q2 q3 q4 q5 q6 q7 q8 q9 j6.s;have L:=ZkJ l.prog w mg base CA ZQ ZY Zo Zc ZK j7.s;have r2:=Znj _ w mg base CA ZeE ZQ ZY Ze8 ZkG Zo Zc Ze5 ZK Zan Zal ZaE Zav Zau p4 j8.s;have r3:=Zni _ w mg base CA Zx ZQ ZY Zgh Za Zc Zt Zco Zan g o7 L j9.s;have r4:=Zjb _ w mg base CA ZaN ZR Zx ZY ZN Zo Zhr Zfz Za Zc Zcq Zcp ZK Zal ZaE Zav Zau r0 r1 k0.s;have r5:=Zob _ w mg base CA ZQ ZY Za Zc Zt ZcK o9 L k1.s;have r6:=Zmp _ w mg base CA ZQ ZY Za Zc Zt Zb6 o8 L k2.s;have r7:=Zlq _ w mg base CA ZQ ZY Za Zc Zat Zt C L k3.s;have r8:=Zoc _ w mg base CA ZY ZN Zc Zbm r4 k4.s;have r9:=ZoL l.prog w mg base Zaq b1.s;have s0:=Zlz _ w mg base Zo r9 b2.s;have s1:=Zln l.prog w mg base Zaw Zb Zp ZJ ZE Zw Zz Z6 k5.s;have G:=Zmn l.prog w mg base Zaw Zb Zp k6.s;have s2:=Zi9 l.prog w mg base Zaw Zb Zp ZJ ZE Zw k7.s;have Z9:=Zic l.prog w mg base Zaw Zbn Zb Zp ZJ ZE Zw Zz k8.s;have s3:=ZgZ _ w mg base Zaw Zb ZaC Z4 Zp ZJ ZE Zw Zz Z6 G Z9 k9.s;have s4:=Zlo _ w mg base Zaw Zb Z4 Za0 Zbk s0 s2 Z9 s3 l0.s;have s5:=ZoO _ w mg base Zaw Zb ZbW s4 b3.s;have H:=Zns l.prog w mg base Zd5 Zhq Zo ZmL b4.s;have s6:=Znq _ w mg base Zo H b5.s;have s7:=Zoj _ w mg base Ze9 Zfv H s6 b6.s;have s8:=Zoi _ w mg base ZcE ZN Zo Zap s7 b7.s;have s9:=ZlA _ w mg base Zct Zo d b9.s;have t0:=Zoh l.prog w mg base Zaq c0.s;have t1:=Zpf _ w mg base Zaq ZN Zbn Zo Zd6 s9 t0 c1.s;have t2:=Zo1 l.prog w mg base ZaA c2.s;have t3:=ZlC l.prog w mg base  c3.s;have t4:=ZmC _ w mg base Zo ZaA t2 c4.s;have t5:=Znx _ w mg base Zaw Zb Zd0 ZaC s1 G s5 c5.s;have t6:=Znw _ w mg base CA ZQ ZY Za5 Zc Zf ZbX Zk ZI r7 c6.s;have t7:=Znv _ w mg base CA ZQ ZY Za5 Zc Zf Zb7 Zk r6 t3 c7.s;have t8:=ZmB _ w mg base CA ZQ ZY Zaw Za5 Zc Zf ZcL Zk r5 t4 t5 c8.s;have t9:=ZoN _ w mg base CA ZY Za5 Zc Zf ZcM Zk ZI l7 r8 c9.s;have u0:=Znu _ w mg base CA Zx ZQ ZY Zgh Za5 Zo ZaA Zc Zf Zcr Zk r3 t1 d0.s;have u1:=Zna l.prog w mg base Za5 Zf Zk ZI l4.s;have u2:=Zlj _ w mg base CA ZQ ZY Za5 Zf Ze6 Zk ZI r2 l5.s;have I:=Zn7 _ w mg base CA ZY ZcE Za5 Zc5 Zf ZbT Ze3 Zk s8 t6 t7 t8 t9 u0 u2 l6.s;have J:=Znn l.prog w mg base Zo d1.s;have u3:=Zlx _ w mg base J d2.s;have u4:=Zmw _ w mg base ZN J d3.s;have u5:=ZkP l.prog w mg base Zd6 d4.s;have u6:=Zmx _ w mg base ZN J d5.s;have u7:=Zno _ w mg base ZN J u6 d6.s;have u8:=Zod l.prog w mg base Zo ZaA d7.s;have u9:=Zki _ w mg base CA ZY ZcE Za5 Zc5 Zo Zd6 ZaA Zf Z1 Zap I u5 d8.s;exact(Zph _ w mg base CA ZY ZcE Za5 Zc5 ZN Zo Zhr ZaA Zf Ze4 Z1 Zf1 Zap ZeA u1 I J u3 u4 u7 u8 u9 b.s).1
end
def tupI_VOTES {b:Tok}(h:K.lookup a=some ⟨.type "tuple",od,.seq #[.int 1 t0,.int 3 t1,.int 5 b] n,sl⟩):a3W K a [1,3,5]:=a3W.of h (aM rfl) (.cons ⟨_,rfl⟩ (.cons ⟨_,rfl⟩ (.cons ⟨_,rfl⟩ .nil)))
abbrev csI {x_post x_count x_free x_speaks x_reads x_intail x_flag x_settles x_rests x_off x_reader x_streak x_rtail x_stail:Addr}:Cs:=⟨x_post,x_count,x_free,x_speaks,x_reads,x_intail,x_flag,x_settles,x_rests,x_off,x_reader,x_streak,x_rtail,x_stail⟩
theorem walk {l:W.OpenLaw}{q:Program}{loose:List Str}{XP:(Str->Option Value)->Heap->Prop}{YP:World->Heap->Prop}{d:DefRec}{K:Params->W.Frag}{tc:List (Addr×Addr)}(b:tc= [(165,161)])(g:l.most=some 63)(c:d.params.defaults= [])
  (i:∀(w:World)(h:Heap),YP w h->(K w.params).In h/\∀q∈tc,(K w.params).lookup q.2=none/\h.get? q.2=some (W.tabObj #[])/\W.codeHdIn (K w.params) q.1 q.2=true)
  (F :∀(w:World)(mg:Str->Option Value)(e:Addr)(h:Heap),(K w.params).In h->h.Ns mainGlobals mg->mg d.name=some (.ref e)->
   ∃fd:FuncData,(∀(s:Shared)(u:Value),BindsTo s fd ⟨[u], []⟩ [("_law_script",u)])/\∀base:Heap,(K w.params).In base->base.Ns mainGlobals mg->iV l.prog w (K w.params) mg base CX0 17 e fd ["_law_script"] (xM (K w.params))) :
  W.WalkO q loose XP YP l.row.toRowW d [] (λf vs=>PySem.call f vs):=by
 subst b;exact L2.walk_ofT (n:=63) (k:=17) (x:="_law_script") (CX:=λ_=>CX0) (sp:=λw=>xM (K w.params)) g (by decide) c ⟨rfl,by decide,by decide⟩ i F (λ_ H a j m o p=>⟨a,j,rfl,p,m,⟨#[],o.1 161 (by simp),trivial,.inl rfl⟩,λ_=>rfl⟩) λ_ _ _ _ _ z=>z
end My
open PySem PySem.W PyProof.Rows
set_option maxRecDepth 100000 in
set_option maxHeartbeats 0 in
theorem PySem.Challenge.cw_bitrail_k85_whole_things_over_the_desk_holds : PySem.Challenge.rw_bitrail_k85_whole_things_over_the_desk.Holds := by
 w_on;o_law;refine holds_open (q:=Hd.qv) (loose:=Hd.loose) (XP:=XL Hd.qv []) (YP:=InK Hd.KA) (d:=Hd.dl) (kwd:=[]) Hd.left (InK.of Hd.K_as) InK.keeps (λs e=>xl_of s e) XL.keeps Hd.dl_1 Hd.dl_2 rfl (λs _=>recFacts_nil rfl) rfl
  (by assumption) (by decide +kernel) ⟨rfl,rfl,rfl,rfl,rfl,by decide +kernel⟩ ?hw ?hc
 case hw=>w_witness2
 refine My.walk (l:=PySem.Challenge.rw_bitrail_k85_whole_things_over_the_desk) (K:=Hd.K) (tc:=Hd.tc) rfl rfl rfl Hd.tabs ?F
 k_fill
 case F=>
  intro w mg fa h KX G hmg;refine' My.all_mk w mg (CA:=My.csI) ?Aa ?Ab ?Ac ?Ad ?Ae ?Af ?Ag ?Ah ?Ai ?Aj ?Ak ?Al ?Am ?An ?Ao ?Ap ?Aq ?Ar ?As ?At ?Au ?Av ?Aw ?Ax ?Ay ?Az ?AA ?AB ?AC ?AD ?AE ?AF ?AG ?AH ?AI ?AJ ?AK ?AL ?AM ?AN ?AO ?AP ?AQ ?AR ?AS ?AT ?AU ?AV ?AW ?AX ?AY ?AZ ?A0 ?A1 ?A2 ?A3 ?A4 ?A5 ?A6 ?A7 ?A8 ?A9 ?Ba ?Bb ?Bc ?Bd ?Be ?Bf ?Bg ?Bh ?Bi ?Bj ?Bk ?Bl ?Bm ?Bn ?Bo ?Bp ?Bq ?Br ?Bs ?Bt ?Bu ?Bv ?Bw ?Bx ?By ?Bz ?BA ?BB ?BC ?BD ?BE ?BF ?BG ?BH ?BI ?BJ ?BK ?BL ?BM ?BN ?BO ?BP ?BQ ?BR ?BS ?BT ?BU ?BV ?BW ?BX ?BY ?BZ ?B0 ?B1 ?B2 ?B3 ?B4 ?B5 ?B6 ?B7 ?B8 ?B9 ?Ca ?Cb ?Cc ?Cd ?Ce ?Cf ?Cg ?Ch ?Ci ?Cj ?Ck ?Cl ?Cm ?Cn ?Co ?Cp ?Cq ?Cr ?Cs ?Ct ?Cu ?Cv ?Cw ?Cx ?Cy ?Cz ?CA ?CB ?CC ?CD ?CE ?CF ?CG ?CH ?CI ?CJ ?CK ?CL ?CM ?CN ?CO ?CP ?CQ ?CR ?CS ?CT ?CU ?CV ?CW ?CX ?CY ?CZ ?C0 ?C1 ?C2 ?C3 ?C4 ?C5 ?C6 ?C7 ?C8 ?C9 ?Da ?Db ?Dc ?Dd ?De ?Df ?Dg ?Dh ?Di ?Dj ?Dk ?Dl ?Dm ?Dn ?Do ?Dp hmg ?La ?Lf ?Lg ?Lh ?Li ?Lj ?Lk ?Ll ?Lm ?Ln ?Lo ?Lp ?Lq ?Lr ?Ls ?LM ?LZ ?L2 ?L5 ?L6 ?L7 ?L8 ?L9 ?Ma ?MC ?MD ?MK ?ML ?MM ?MN ?MO ?MP ?MQ ?MR ?MS ?MT ?MU ?MV ?MW ?MX ?MY ?MZ ?M0 ?M4 ?M5 ?M6 ?M7 ?M8 ?M9 ?Na ?Nb ?Nc ?Lb ?Lc ?Ld ?Le ?Lt ?Lu ?Lv ?Lw ?Lx ?Ly ?Lz ?LA ?LB ?LC ?LD ?LE ?LF ?LG ?LH ?LI ?LJ ?LK ?LL ?LN ?LO ?LP ?LQ ?LR ?LS ?LT ?LU ?LV ?LW ?LX ?LY ?L0 ?L1 ?L3 ?L4 ?Mb ?Mc ?Md ?Me ?Mf ?Mg ?Mh ?Mi ?Mj ?Mk ?Ml ?Mm ?Mn ?Mo ?Mp ?Mq ?Mr ?Ms ?Mt ?Mu ?Mv ?Mw ?Mx ?My ?Mz ?MA ?MB ?ME ?MF ?MG ?MH ?MI ?MJ ?M1 ?M2 ?M3
  all_goals try dsimp only[My.csI]
  case Aa | Ab | Ac | Ad | Ae | Af | Ag | Ah | Ai | Aj | Ak | Al | Am | An | Ao | Ap | Aq | Ar | As | At | Au | Av | Aw | Ax | Ay | Az | AA | AB | AC | AD | AE | AF | AG | AH | AI | AJ | AK | AL | AM | AN | AO | AP | AQ | AR | AS | AT | AU | AV | AW | AX | AY | AZ | A0=>refine' PySem.W.mg_of KX G ?_;k_is
  case A1 | A2 | A3 | A4 | A5 | A6 | A7 | A8 | A9=>refine' PySem.W.mg_none_of KX G ?_;k_is
  case La=>(refine' My.gfc_mk KX G ?a ?l ?c ?k;(case a=>show _=_;k_is);(case l=>show _=_;k_is);(case c=>show _=_;k_is);(case k=>show _=_;k_is))
  case Lf | Lg | Lh | Li | Lj | Lk | Ll | Lm | Ln | Lo | Lp | Lq | Lr | Ls | LM | LZ | L2 | L5 | L6 | L7 | L8 | L9 | Ma | MC | MD | MK | ML | MM | MN | MO | MP | MQ | MR | MS | MT | MU | MV | MW | MX | MY | MZ | M0 | M4 | M5 | M6 | M7 | M8 | M9 | Na | Nb | Nc=>(refine' My.gf_mk KX G ?a ?l ?c ?k;(case a=>show _=_;k_is);(case l=>show _=_;k_is);(case c=>show _=_;k_is);(case k=>show _=_;k_is))
  case Lb | Lc | Ld | Le | Lt | Lu | Lv | Lw | Lx | Ly | Lz | LA | LB | LC | LD | LE | LF | LG | LH | LI | LJ | LK | LL | LN | LO | LP | LQ | LR | LS | LT | LU | LV | LW | LX | LY | L0 | L1 | L3 | L4 | Mb | Mc | Md | Me | Mf | Mg | Mh | Mi | Mj | Mk | Ml | Mm | Mn | Mo | Mp | Mq | Mr | Ms | Mt | Mu | Mv | Mw | Mx | My | Mz | MA | MB | ME | MF | MG | MH | MI | MJ | M1 | M2 | M3=>(refine' My.mf_mk ?a ?l ?c ?k;(case a=>show _=_;k_is);(case l=>show _=_;k_is);(case c=>show _=_;k_is);(case k=>show _=_;k_is))
  case Ba=>(refine' My.tupI_VOTES ?a;(case a=>k_is))
  case Bb | Bc=>(refine⟨?_,?_,?_,?_,?_⟩;(refine⟨?_,?_,?_,?_⟩ <;> k_is);all_goals (show PySem.W.findIn _ _ _=_;k_is))
  case Bd | Be | Bf | Bg | Bh | Bi | Bj | Bk | Bl | Bm | Bn | Bo | Bp | Bq | Br | Bs | Bt | Bu | Bv | Bw | Bx | By | Bz | BA | BB | BC | BD | BE | BF | BG | BH | BI=>(refine⟨?_,?_,?_,?_⟩ <;> k_is)
  case BJ | BK | BL | BM | BN | BO | BP | BQ | BR | BS | BT | BU | BV | BW | BX | BY | BZ | B0 | B1 | B2 | B3 | B4 | B5 | B6 | B7 | B8 | B9 | Ca | Cb | Cc | Cd | Ce | Cf | Cg | Ch | Ci | Cj | Ck | Cl | Cm | Cn | Co | Cp | Cq | Cr | Cs | Ct | Cu | Cv | Cw | Cx | Cy | Cz | CA | CB | CC | CD | CE | CF | CG | CH | CI | CJ=>(refine⟨?_,?_,?_⟩ <;> k_is)
  case CK=>(refine' My.BmK.bm KX G ?_;(refine⟨?_,by decide,by decide, #[],?_⟩ <;> k_is))
  case CL=>(refine' ⟨?x,⟨_,_,rfl,My.tpR ?q0,My.tpS2 ?u0⟩,⟨_,_,rfl,My.tpR ?q1,My.tpS3 ?u1⟩,⟨_,_,rfl,My.tpR ?q2,My.tpS2 ?u2⟩,⟨_,_,rfl,My.tpR ?q3,My.tpS1 ?u3⟩,⟨_,_,rfl,My.tpR ?q4,My.tpS1 ?u4⟩,⟨_,_,rfl,My.tpR ?q5,My.tpS2 ?u5⟩⟩;(case x=>(refine' ⟨by decide,by decide +kernel,_,_,(by kernel_rfl:(Hd.K w.params).lookup 1247=some (Hd.di (Hd.t "dict") [Hd.e w.params "rail" 1825 (Hd.r 1249),Hd.e w.params "hand" 1829 (Hd.r 1251),Hd.e w.params "thing" 1833 (Hd.r 1253),Hd.e w.params "wrong" 1838 (Hd.r 1255),Hd.e w.params "run" 1842 (Hd.r 1257),Hd.e w.params "bits" 1845 (Hd.r 1259),Hd.e w.params "draw" 1849 (Hd.r 1261),Hd.e w.params "got" 1854 (Hd.r 1263),Hd.e w.params "waits" 1857 (Hd.r 1265),Hd.e w.params "things" 1860 (Hd.r 1267),Hd.e w.params "stance" 1864 (Hd.r 1269),Hd.e w.params "faults" 1867 (Hd.r 1271)] 12)),?e⟩;(case e=>(repeat (first | exact .nil | refine .cons rfl ?_)))));(case q0 | u0 | q1 | u1 | q2 | u2 | q3 | u3 | q4 | u4 | q5 | u5=>k_is))
  case CM=>(refine' ⟨by decide,by decide +kernel,_,_,(by kernel_rfl:(Hd.K w.params).lookup 1411=some (Hd.di (Hd.t "dict") [Hd.e w.params "hand" 2059 (Hd.r 1342),Hd.e w.params "thing" 2060 (Hd.r 1349),Hd.e w.params "wrong" 2061 (Hd.r 1356),Hd.e w.params "run" 2062 (Hd.r 1363),Hd.e w.params "bits" 2063 (Hd.r 1370),Hd.e w.params "draw" 2064 (Hd.r 1377),Hd.e w.params "got" 2065 (Hd.r 1384),Hd.e w.params "waits" 2066 (Hd.r 1391),Hd.e w.params "things" 2067 (Hd.r 1396),Hd.e w.params "stance" 2068 (Hd.r 1403),Hd.e w.params "faults" 2069 (Hd.r 1410)] 11)),?e⟩;(case e=>(repeat (first | exact .nil | refine .cons rfl ?_))))
  case CN | CO | CP | CQ | CR | CS | CT | CU | CV | CW | CX | CY | CZ | C0 | C1 | C2 | C3 | C4 | C5 | C6 | C7 | C8 | C9 | Da | Db | Dc | Dd | De | Df | Dg | Dh | Di | Dj | Dk | Dl | Dm | Dn | Do=>(show PySem.W.findIn _ _ _=_;k_is)
  case Dp=>kernel_rfl
#print axioms PySem.Challenge.cw_bitrail_k85_whole_things_over_the_desk_holds
