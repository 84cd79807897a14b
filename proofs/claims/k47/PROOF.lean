import PyProof.Rows.All
import Wide.All
import OpenK.AllK
import Wide.FinOn
import PyProof.EqAt
import PyProof.EqKinds
import PyProof.TupleCall
import Lean
import PySem.Challenge.RW_bitrail_k47_whole_stances
set_option Elab.async false
namespace Hd
open PySem PyProof.Rows
open PySem.W PySem.Calls
theorem a3Q (t:Thread):(endAt 0 t).isSome = through t:=by
 obtain⟨cur,code,pos,st⟩:=t
 cases st with
 | nil=>cases cur with
  | pure f=>cases f <;> rfl
  | _=>rfl
 | cons a l=>cases cur <;> rfl
theorem lE {tb:String→Option Builtin} {p:Program} {w:World} {m:Nat} {ann:Option Value}:∀{n:Nat} {s s':Shared} {t:Thread} {f:Flow} {c:Code} {x:Pos},
    segRun tb p w m ann 0 n s t = some (f,s',c,x)→topRun tb p w m ann n s t = some s'
  | 0,_,_,_,_,_,_,h=>by simp [segRun] at h
  | n + 1,s,s',t,f,c,x,h=>by
    unfold segRun at h
    unfold topRun
    rw [←a3Q t]
    cases he:endAt 0 t with
    | some g=>rw [he] at h;cases h;rfl
    | none=>
      rw [he] at h
      dsimp only [Option.isSome] at h ⊢
      cases k:stepOk m ann t with
      | false=>rw [k] at h;cases h
      | true=>
        rw [k] at h
        dsimp only at h ⊢
        cases g:step (denote tb) p w s t with
        | halt o z=>rw [g] at h;cases h
        | go z t'=>rw [g] at h;exact lE h
def lookT (T:BT) (n a:Nat):Option Obj:=match Nat.blt a n with
 | true=>(match T.get a with | some o=>alive o | none=>none)
 | false=>none
theorem uF {T:BT} {n a:Nat} {life:Life} {o:Obj} (h:lookT T n a = some o):(absHeap T n life).get? a = some o:=by
 unfold lookT at h
 cases c:Nat.blt a n with
 | false=>rw [c] at h;cases h
 | true=>
  rw [c] at h
  dsimp only at h
  cases g:T.get a with
  | none=>rw [g] at h;cases h
  | some x=>
   rw [g] at h
   rw [abs_get (Nat.le_of_ble_eq_true c) g]
   exact h
theorem nA {T:BT} {n:Nat} {life:Life}:∀{as:List Addr} {os:List Obj},as.map (lookT T n) = os.map some→as.map (absHeap T n life).get? = os.map some
 | [], [],_=>rfl
 | [],_ :: _,h=>by cases h
 | _ :: _, [],h=>by cases h
 | a :: as,o :: os,h=>by
  rw [List.map_cons,List.map_cons] at h
  injection h with h1 h2
  rw [List.map_cons,List.map_cons,nA h2]
  exact congrArg (· :: os.map some) (uF h1)
abbrev look (p q:Program) (loose:List Str) (Xt:Shared→Bool) (as:List Addr) (h:Heap) (s:SharedT):=
 (staticsOk (importedModules p.main.body) h s.abs.heap && namesBound p s.abs.heap && gensDone s.abs && laidKept h s.abs.heap,openSeen q loose (importedModules p.main.body) Xt true s.abs,as.map (lookT s.tree s.n))
theorem rE {p q:Program} {loose:List Str} {Xt:Shared→Bool} {as:List Addr} {os_:World→List Obj} {N m:Nat} {ann:Option Value} (S:World→OsState→SharedT)
    (op:∀w:World,(fencedOpening treeTable p w N).map (fun s=>(s.heap,s.gens,s.drawn,s.toks)) = some (boot_heap w.params,Array.mk [],boot_drawn,boot_toks))
    (size : ∀ w : World, ((boot_heap w.params).isNs mainGlobals, (boot_heap w.params).objs.size, (boot_heap w.params).nsMap mainGlobals "__annotations__") = (true, m, ann))
    (abs:∀w os,(S w os).abs = ⟨boot_heap w.params,Array.mk [],boot_drawn,boot_toks,os⟩)
    (whole:∀w:World,(fun os=>(segRunT treeTable p w m ann 0 N (S w os) (topStub p)).map fun r=>look p q loose Xt as (boot_heap w.params) r.2.1) = fun _=>some (true,openGood q loose,(os_ w).map some)):LeftO p q loose Xt (fun s=>as.map s.heap.get?) (fun w=>(os_ w).map some) N:=fun w=>by
  obtain⟨⟨h,gs,d,k,os⟩,e,e'⟩:=Option.map_eq_some_iff.mp (op w)
  obtain⟨rfl,rfl,rfl,rfl⟩:h = boot_heap w.params∧gs = Array.mk []∧d = boot_drawn∧k = boot_toks:=by simpa using e'
  obtain⟨y1,y2,y3⟩:_∧_∧_:=by simpa only [Prod.mk.injEq] using size w
  obtain⟨⟨f,s',c,x⟩,r1,r2⟩:=Option.map_eq_some_iff.mp (congrFun (whole w) os)
  obtain⟨l1,l2,l3⟩:_∧_∧_:=by simpa only [look,Prod.mk.injEq] using r2
  have l4:as.map s'.abs.heap.get? = (os_ w).map some:=nA l3
  have r:=lE (segRun_of r1)
  rw [abs] at r
  have t:topFrom treeTable p w N ⟨boot_heap w.params,Array.mk [],boot_drawn,boot_toks,os⟩ = some s'.abs:=by
    unfold topFrom
    dsimp only
    rw [y1,y2,y3,r]
    show (match staticsOk (importedModules p.main.body) (boot_heap w.params) s'.abs.heap && namesBound p s'.abs.heap && gensDone s'.abs && laidKept (boot_heap w.params) s'.abs.heap with | true=>_ | false=>_) = _
    rw [l1]
  unfold openEnds
  rw [e]
  refine(congrArg (Option.map _) t).trans ?_
  exact congrArg some (by show (_,as.map s'.abs.heap.get?) = (_,(os_ w).map some);rw [l2,l4])
abbrev r (a:Addr):Value:= .ref a
abbrev s (x:Str) (t:Tok):Value:= .str x t
abbrev i (x:Int) (t:Tok):Value:= .int x t
abbrev t (x:String):Value:= .type x
abbrev b (x:String):Value:= .builtin x
abbrev tp (l:List Value):Obj:=⟨.type "tuple",none,.seq l.toArray 0, #[]⟩
abbrev co (l:List Value):Obj:=⟨.type "code",none,.fields l.toArray, #[]⟩
abbrev fi (c:Value) (l:List Value):Obj:=⟨c,none,.fields l.toArray, #[]⟩
abbrev di (c:Value) (l:List DictEntry) (n:Nat):Obj:=⟨c,none,.dict l.toArray n, #[]⟩
abbrev e (P:Params) (x:Str) (t:Tok) (v:Value):DictEntry:=⟨PyData.keyHash P x,.str x t,v⟩
abbrev cl (c:ClassData) (l:List (Option Value)):Obj:=⟨.type "type",none,.cls c,l.toArray⟩
abbrev o (v:Value):Option Value:=some v
abbrev sf (p:Program) (k:Nat):Stmt:=p.main.body.getD k default
def sub (k:Nat):Stmt→Stmt
 | .ClassDef _ _ _ b _ _ _ _ _ _ _=>b.getD k default
 | x=>x
def fn (q:Str) (d kw doc md:Value) (c bl:Addr):Stmt→Obj
 | .FunctionDef n a b _ _ _ sc _ _ _=>⟨.type "function",none,.func { name:=n,qualname:=q,params:=a,body:= .stmts b,scope:=sc,globals:=3,closure:=[],defaults:=d,kwdefaults:=kw,doc:=doc,pyModule:=md,code:= .ref c,builtins:=bl }, #[]⟩
 | _=>default
def dr:Stmt→DefRec
 | .FunctionDef n a b _ _ _ sc _ _ x=>⟨n,a,b,sc,x⟩
 | _=>⟨"",⟨[], [],none, [], [],none, []⟩, [],default,default⟩
abbrev cc (nm qn:Str) (t l a fl x tb:Nat) (d v f:Value) (z n t':Nat):Obj:=co [s nm t,s qn (t + 1),s "/claim/cut.py" (t + 2),i l 0,i a 0,i 0 0,i 0 0,i fl 0,r x,.bool true,i 181 0,r tb,d,v,f,r z,i n 0,i l 0,s "/claim/cut.py" t']
abbrev fo (q md:Str) (t:Tok) (c:Addr) (x:Stmt):Obj:=fn q .none .none .none (s md t) c 0 x
noncomputable def tree (P:Params):BT:=(.node (boot_o_0 P) (.node (boot_o_1 P) (.node (boot_o_3 P) (.node (boot_o_7 P) .nil .nil) .nil) (.node (boot_o_5 P) (.node (boot_o_9 P) .nil .nil) .nil)) (.node (boot_o_2 P) (.node (boot_o_4 P) (.node (boot_o_8 P) .nil .nil) .nil) (.node (boot_o_6 P) (.node (boot_o_10 P) .nil .nil) .nil)))
noncomputable def S (w:World) (os:OsState):SharedT:=⟨tree w.params,11,(boot_heap w.params).life,Array.mk [],boot_drawn,boot_toks,os⟩
theorem a3F (w:World) (os:OsState):(S w os).abs = ⟨boot_heap w.params,Array.mk [],boot_drawn,boot_toks,os⟩:=by kernel_rfl
end Hd
namespace Hd
open PySem PyProof.Rows
open PySem.W PySem.Calls
set_option maxRecDepth 100000
noncomputable section
abbrev p:Program:=PySem.Challenge.pw_bitrail_k47_whole_stances
noncomputable def o2:Obj:=di .none [] 0
noncomputable def o3 (P : Params) : Obj := di (t "dict") [e P "__name__" 165 (s "law_bitrail_k47_whole_stances" 1387), e P "__doc__" 166 .none, e P "__package__" 167 .none, e P "__loader__" 168 (b "__main__.__loader__#opaque"), e P "__spec__" 169 .none, e P "__annotations__" 170 (r 6), e P "__builtins__" 171 (r 4), e P "__file__" 173 (s "/claim/cut.py" 172), e P "__cached__" 174 .none, e P "RailError" 206 (r 24), e P "NoBits" 222 (r 37), e P "NoKey" 238 (r 49), e P "NoFrame" 254 (r 61), e P "NoPost" 270 (r 73), e P "HIGHEST_BYTE" 274 (i 255 273), e P "bits_of" 280 (r 80), e P "number_of" 289 (r 87), e P "are_bytes" 295 (r 92), e P "GREAT_FAULT" 299 (i 8 298), e P "SMALL_FAULT" 301 (i 1 300), e P "QUIET_FROM" 303 (i 12 302), e P "OFF_FROM" 305 (i 18 304), e P "Count" 384 (r 158), e P "divided" 397 (r 169), e P "KEY" 401 (i 64647 400), e P "CHECK_BITS" 403 (i 15 402), e P "rest_of" 410 (r 176), e P "check_of" 417 (r 183), e P "NAME_BITS" 421 (i 8 420), e P "HIGHEST_NAME" 423 (i 255 422), e P "is_name" 430 (r 190), e P "is_wanted" 438 (r 197), e P "MOST_ALIKE" 442 (i 5 441), e P "Streak" 493 (r 235), e P "put_in" 503 (r 246), e P "SIZE_AT" 507 (i 9 506), e P "SIZE_BITS" 509 (i 3 508), e P "DATA_AT" 511 (i 12 510), e P "BYTE_BITS" 513 (i 8 512), e P "MOST_BYTES" 515 (i 7 514), e P "check_frame" 523 (r 253), e P "frame_bits" 533 (r 260), e P "is_complete" 540 (r 267), e P "told_size" 547 (r 274), e P "read_frame" 553 (r 279), e P "wire_of" 561 (r 286), e P "Reader" 623 (r 331), e P "ANSWER_AT" 627 (i 1 626), e P "VOTES_AT" 629 (i 9 628), e P "Tail" 702 (r 387), e P "ReadTail" 726 (r 408), e P "SpeakTail" 750 (r 427), e P "FLAG_BITS" 754 (i 6 753), e P "REST_TURNS" 756 (i 3 755), e P "QUIET_TURNS" 758 (i 8 757), e P "DUEL_BITS" 760 (i 9 759), e P "begun_reader" 767 (r 436), e P "unless_off" 776 (r 443), e P "fault_of" 784 (r 450), e P "refusal_of" 792 (r 457), e P "blame_of" 799 (r 464), e P "Free" 853 (r 502), e P "Speaks" 912 (r 544), e P "Reads" 968 (r 586), e P "InTail" 1024 (r 628), e P "Flagging" 1079 (r 670), e P "Settles" 1132 (r 712), e P "Rests" 1185 (r 754), e P "Off" 1229 (r 789), e P "VOTES" 1235 (r 794), e P "check_votes" 1242 (r 801), e P "check_choice" 1249 (r 808), e P "copies" 1255 (r 813), e P "Post" 1386 (r 921), e P "_law_draw" 1399 (r 932), e P "_law_bits" 1405 (r 937), e P "_law_wire" 1417 (r 944), e P "_law_number" 1426 (r 951), e P "_law_frame" 1435 (r 958), e P "_law_others" 1446 (r 965), e P "_law_says" 1454 (r 972), e P "_law_fault" 1463 (r 979), e P "_law_free" 1473 (r 986), e P "_law_wired" 1486 (r 993), e P "_law_tailed" 1492 (r 998), e P "_law_calm" 1501 (r 1005), e P "_law_word" 1514 (r 1012), e P "_law_stands" 1525 (r 1019), e P "_law_looked" 1535 (r 1026), e P "_law_heard" 1549 (r 1033), e P "law" 1570 (r 1040)] 91
noncomputable def o15:Obj:=tp [t "ValueError"]
noncomputable def o22:Obj:=tp []
noncomputable def o23 (P:Params):Obj:=di (t "dict") [e P "__module__" 196 (s "bitrail.errors" 187),e P "__firstlineno__" 200 (i 2 199),e P "__static_attributes__" 201 (r 22),e P "__weakref__" 203 (r 25),e P "__doc__" 204 .none] 3
noncomputable def o24:Obj:=cl { name:="RailError",bases:=[t "ValueError"],mro:=[r 24,t "ValueError",t "Exception",t "BaseException",t "object"],ns:=23,qualname:="RailError",hasDict:=true,subclasses:=[r 37,r 49,r 61,r 73] } [o (r 15),.none,o (s "RailError" 189),o (s "RailError" 197),o (b "ValueError.__new__"),o (.bool true)]
noncomputable def o25:Obj:=fi (t "getset_descriptor") [s "__weakref__" 202,r 24,b "ExceptionGroup.__weakref__",.none]
noncomputable def o28:Obj:=tp [r 24]
noncomputable def o35:Obj:=tp []
noncomputable def o36 (P:Params):Obj:=di (t "dict") [e P "__module__" 214 (s "bitrail.errors" 187),e P "__firstlineno__" 218 (i 4 217),e P "__static_attributes__" 219 (r 35),e P "__doc__" 220 .none] 2
noncomputable def o37:Obj:=cl { name:="NoBits",bases:=[r 24],mro:=[r 37,r 24,t "ValueError",t "Exception",t "BaseException",t "object"],ns:=36,qualname:="NoBits",hasDict:=true,subclasses:=[] } [o (r 28),.none,o (s "NoBits" 207),o (s "NoBits" 215),o (b "ValueError.__new__"),o (.bool true)]
noncomputable def o40:Obj:=tp [r 24]
noncomputable def o47:Obj:=tp []
noncomputable def o48 (P:Params):Obj:=di (t "dict") [e P "__module__" 230 (s "bitrail.errors" 187),e P "__firstlineno__" 234 (i 6 233),e P "__static_attributes__" 235 (r 47),e P "__doc__" 236 .none] 2
noncomputable def o49:Obj:=cl { name:="NoKey",bases:=[r 24],mro:=[r 49,r 24,t "ValueError",t "Exception",t "BaseException",t "object"],ns:=48,qualname:="NoKey",hasDict:=true,subclasses:=[] } [o (r 40),.none,o (s "NoKey" 223),o (s "NoKey" 231),o (b "ValueError.__new__"),o (.bool true)]
noncomputable def o52:Obj:=tp [r 24]
noncomputable def o59:Obj:=tp []
noncomputable def o60 (P:Params):Obj:=di (t "dict") [e P "__module__" 246 (s "bitrail.errors" 187),e P "__firstlineno__" 250 (i 8 249),e P "__static_attributes__" 251 (r 59),e P "__doc__" 252 .none] 2
noncomputable def o61:Obj:=cl { name:="NoFrame",bases:=[r 24],mro:=[r 61,r 24,t "ValueError",t "Exception",t "BaseException",t "object"],ns:=60,qualname:="NoFrame",hasDict:=true,subclasses:=[] } [o (r 52),.none,o (s "NoFrame" 239),o (s "NoFrame" 247),o (b "ValueError.__new__"),o (.bool true)]
noncomputable def o64:Obj:=tp [r 24]
noncomputable def o71:Obj:=tp []
noncomputable def o72 (P:Params):Obj:=di (t "dict") [e P "__module__" 262 (s "bitrail.errors" 187),e P "__firstlineno__" 266 (i 10 265),e P "__static_attributes__" 267 (r 71),e P "__doc__" 268 .none] 2
noncomputable def o73:Obj:=cl { name:="NoPost",bases:=[r 24],mro:=[r 73,r 24,t "ValueError",t "Exception",t "BaseException",t "object"],ns:=72,qualname:="NoPost",hasDict:=true,subclasses:=[] } [o (r 64),.none,o (s "NoPost" 255),o (s "NoPost" 263),o (b "ValueError.__new__"),o (.bool true)]
noncomputable def o76:Obj:=tp []
noncomputable def o79:Obj:=cc "bits_of" "bits_of" 275 14 2 3 76 77 .none .none .none 78 278 279
noncomputable def o80:Obj:=fo "bits_of" "bitrail.bits" 271 79 (sf p 8)
noncomputable def o81:Obj:=tp []
noncomputable def o83:Obj:=tp [s "bits" 284,s "number" 285,s "bit" 286]
noncomputable def o84:Obj:=tp []
noncomputable def o86:Obj:=cc "number_of" "number_of" 281 18 1 3 81 82 .none (r 83) (r 84) 85 287 288
noncomputable def o87:Obj:=fo "number_of" "bitrail.bits" 271 86 (sf p 9)
noncomputable def o88:Obj:=tp []
noncomputable def o91:Obj:=cc "are_bytes" "are_bytes" 290 23 1 3 88 89 .none .none .none 90 293 294
noncomputable def o92:Obj:=fo "are_bytes" "bitrail.bits" 271 91 (sf p 10)
noncomputable def o100:Obj:=tp []
noncomputable def o102:Obj:=tp [s "self" 321]
noncomputable def o103:Obj:=tp []
noncomputable def o105:Obj:=cc "__init__" "Count.__init__" 318 32 1 3 100 101 .none (r 102) (r 103) 104 322 323
noncomputable def o106:Obj:=fo "Count.__init__" "bitrail.counts" 296 105 (sub 0 (sf p 16))
noncomputable def o107:Obj:=tp []
noncomputable def o109:Obj:=tp [s "self" 328,s "spoke" 329]
noncomputable def o110:Obj:=tp []
noncomputable def o112:Obj:=cc "fault" "Count.fault" 325 35 2 3 107 108 .none (r 109) (r 110) 111 330 331
noncomputable def o113:Obj:=fo "Count.fault" "bitrail.counts" 296 112 (sub 1 (sf p 16))
noncomputable def o114:Obj:=tp []
noncomputable def o116:Obj:=tp [s "self" 336]
noncomputable def o117:Obj:=tp []
noncomputable def o119:Obj:=cc "blame" "Count.blame" 333 38 1 3 114 115 .none (r 116) (r 117) 118 337 338
noncomputable def o120:Obj:=fo "Count.blame" "bitrail.counts" 296 119 (sub 2 (sf p 16))
noncomputable def o121:Obj:=tp []
noncomputable def o123:Obj:=tp [s "self" 343]
noncomputable def o124:Obj:=tp []
noncomputable def o126:Obj:=cc "good" "Count.good" 340 41 1 3 121 122 .none (r 123) (r 124) 125 344 345
noncomputable def o127:Obj:=fo "Count.good" "bitrail.counts" 296 126 (sub 3 (sf p 16))
noncomputable def o128:Obj:=tp []
noncomputable def o130:Obj:=tp [s "self" 350,s "step" 351]
noncomputable def o131:Obj:=tp []
noncomputable def o133:Obj:=cc "move" "Count.move" 347 44 2 3 128 129 .none (r 130) (r 131) 132 352 353
noncomputable def o134:Obj:=fo "Count.move" "bitrail.counts" 296 133 (sub 4 (sf p 16))
noncomputable def o135:Obj:=tp []
noncomputable def o137:Obj:=tp [s "self" 358]
noncomputable def o138:Obj:=tp []
noncomputable def o140:Obj:=cc "number" "Count.number" 355 48 1 3 135 136 .none (r 137) (r 138) 139 359 360
noncomputable def o141:Obj:=fo "Count.number" "bitrail.counts" 296 140 (sub 5 (sf p 16))
noncomputable def o142:Obj:=tp []
noncomputable def o144:Obj:=tp [s "self" 365]
noncomputable def o145:Obj:=tp []
noncomputable def o147:Obj:=cc "is_quiet" "Count.is_quiet" 362 51 1 3 142 143 .none (r 144) (r 145) 146 366 367
noncomputable def o148:Obj:=fo "Count.is_quiet" "bitrail.counts" 296 147 (sub 6 (sf p 16))
noncomputable def o149:Obj:=tp []
noncomputable def o151:Obj:=tp [s "self" 372]
noncomputable def o152:Obj:=tp []
noncomputable def o154:Obj:=cc "is_off" "Count.is_off" 369 54 1 3 149 150 .none (r 151) (r 152) 153 373 374
noncomputable def o155:Obj:=fo "Count.is_off" "bitrail.counts" 296 154 (sub 7 (sf p 16))
noncomputable def o156:Obj:=tp [s "total" 376]
noncomputable def o157 (P:Params):Obj:=di (t "dict") [e P "__module__" 313 (s "bitrail.counts" 296),e P "__firstlineno__" 317 (i 30 316),e P "__init__" 324 (r 106),e P "fault" 332 (r 113),e P "blame" 339 (r 120),e P "good" 346 (r 127),e P "move" 354 (r 134),e P "number" 361 (r 141),e P "is_quiet" 368 (r 148),e P "is_off" 375 (r 155),e P "__static_attributes__" 377 (r 156),e P "__dict__" 379 (r 159),e P "__weakref__" 381 (r 160),e P "__doc__" 382 .none] 4
noncomputable def o158:Obj:=cl { name:="Count",bases:=[t "object"],mro:=[r 158,t "object"],ns:=157,qualname:="Count",hasDict:=true,subclasses:=[] } [.none,.none,o (s "Count" 306),o (s "Count" 314),o (b "object.__new__"),o (.bool true)]
noncomputable def o159:Obj:=fi (t "getset_descriptor") [s "__dict__" 378,r 158,b "function.__dict__",b "function.__dict__#set"]
noncomputable def o160:Obj:=fi (t "getset_descriptor") [s "__weakref__" 380,r 158,b "ExceptionGroup.__weakref__",.none]
noncomputable def o163:Obj:=tp []
noncomputable def o165:Obj:=tp [s "number" 390,s "key" 391,s "whole" 392,s "rest" 393,s "power" 394]
noncomputable def o166:Obj:=tp []
noncomputable def o168:Obj:=cc "divided" "divided" 387 57 2 3 163 164 .none (r 165) (r 166) 167 395 396
noncomputable def o169:Obj:=fo "divided" "bitrail.keys" 385 168 (sf p 18)
noncomputable def o170:Obj:=tp []
noncomputable def o172:Obj:=tp [s "bits" 407]
noncomputable def o173:Obj:=tp []
noncomputable def o175:Obj:=cc "rest_of" "rest_of" 404 70 1 3 170 171 .none (r 172) (r 173) 174 408 409
noncomputable def o176:Obj:=fo "rest_of" "bitrail.checks" 398 175 (sf p 22)
noncomputable def o177:Obj:=tp []
noncomputable def o179:Obj:=tp [s "bits" 414]
noncomputable def o180:Obj:=tp []
noncomputable def o182:Obj:=cc "check_of" "check_of" 411 72 1 3 177 178 .none (r 179) (r 180) 181 415 416
noncomputable def o183:Obj:=fo "check_of" "bitrail.checks" 398 182 (sf p 23)
noncomputable def o184:Obj:=tp []
noncomputable def o186:Obj:=tp [s "number" 427]
noncomputable def o187:Obj:=tp []
noncomputable def o189:Obj:=cc "is_name" "is_name" 424 77 1 3 184 185 .none (r 186) (r 187) 188 428 429
noncomputable def o190:Obj:=fo "is_name" "bitrail.names" 418 189 (sf p 27)
noncomputable def o191:Obj:=tp []
noncomputable def o193:Obj:=tp [s "choice" 434,s "name" 435]
noncomputable def o194:Obj:=tp []
noncomputable def o196:Obj:=cc "is_wanted" "is_wanted" 431 79 2 3 191 192 .none (r 193) (r 194) 195 436 437
noncomputable def o197:Obj:=fo "is_wanted" "bitrail.names" 418 196 (sf p 28)
noncomputable def o205:Obj:=tp []
noncomputable def o207:Obj:=tp [s "self" 458]
noncomputable def o208:Obj:=tp []
noncomputable def o210:Obj:=cc "__init__" "Streak.__init__" 455 85 1 3 205 206 .none (r 207) (r 208) 209 459 460
noncomputable def o211:Obj:=fo "Streak.__init__" "bitrail.putting" 439 210 (sub 0 (sf p 31))
noncomputable def o212:Obj:=tp []
noncomputable def o214:Obj:=tp [s "self" 465,s "bit" 466]
noncomputable def o215:Obj:=tp []
noncomputable def o217:Obj:=cc "lengthen" "Streak.lengthen" 462 89 2 3 212 213 .none (r 214) (r 215) 216 467 468
noncomputable def o218:Obj:=fo "Streak.lengthen" "bitrail.putting" 439 217 (sub 1 (sf p 31))
noncomputable def o219:Obj:=tp []
noncomputable def o221:Obj:=tp [s "self" 473]
noncomputable def o222:Obj:=tp []
noncomputable def o224:Obj:=cc "is_full" "Streak.is_full" 470 93 1 3 219 220 .none (r 221) (r 222) 223 474 475
noncomputable def o225:Obj:=fo "Streak.is_full" "bitrail.putting" 439 224 (sub 2 (sf p 31))
noncomputable def o226:Obj:=tp []
noncomputable def o228:Obj:=tp [s "self" 480]
noncomputable def o229:Obj:=tp []
noncomputable def o231:Obj:=cc "is_too_long" "Streak.is_too_long" 477 96 1 3 226 227 .none (r 228) (r 229) 230 481 482
noncomputable def o232:Obj:=fo "Streak.is_too_long" "bitrail.putting" 439 231 (sub 3 (sf p 31))
noncomputable def o233:Obj:=tp [s "alike" 484,s "last" 485]
noncomputable def o234 (P:Params):Obj:=di (t "dict") [e P "__module__" 450 (s "bitrail.putting" 439),e P "__firstlineno__" 454 (i 83 453),e P "__init__" 461 (r 211),e P "lengthen" 469 (r 218),e P "is_full" 476 (r 225),e P "is_too_long" 483 (r 232),e P "__static_attributes__" 486 (r 233),e P "__dict__" 488 (r 236),e P "__weakref__" 490 (r 237),e P "__doc__" 491 .none] 4
noncomputable def o235:Obj:=cl { name:="Streak",bases:=[t "object"],mro:=[r 235,t "object"],ns:=234,qualname:="Streak",hasDict:=true,subclasses:=[] } [.none,.none,o (s "Streak" 443),o (s "Streak" 451),o (b "object.__new__"),o (.bool true)]
noncomputable def o236:Obj:=fi (t "getset_descriptor") [s "__dict__" 487,r 235,b "function.__dict__",b "function.__dict__#set"]
noncomputable def o237:Obj:=fi (t "getset_descriptor") [s "__weakref__" 489,r 235,b "ExceptionGroup.__weakref__",.none]
noncomputable def o240:Obj:=tp []
noncomputable def o242:Obj:=tp [s "bits" 497,s "wire" 498,s "streak" 499,s "bit" 500]
noncomputable def o243:Obj:=tp []
noncomputable def o245:Obj:=cc "put_in" "put_in" 494 98 1 3 240 241 .none (r 242) (r 243) 244 501 502
noncomputable def o246:Obj:=fo "put_in" "bitrail.putting" 439 245 (sf p 32)
noncomputable def o247:Obj:=tp []
noncomputable def o249:Obj:=tp [s "name" 519,s "data" 520]
noncomputable def o250:Obj:=tp []
noncomputable def o252:Obj:=cc "check_frame" "check_frame" 516 114 2 3 247 248 .none (r 249) (r 250) 251 521 522
noncomputable def o253:Obj:=fo "check_frame" "bitrail.frames" 504 252 (sf p 39)
noncomputable def o254:Obj:=tp []
noncomputable def o256:Obj:=tp [s "name" 527,s "data" 528,s "bits" 529,s "byte" 530]
noncomputable def o257:Obj:=tp []
noncomputable def o259:Obj:=cc "frame_bits" "frame_bits" 524 121 2 3 254 255 .none (r 256) (r 257) 258 531 532
noncomputable def o260:Obj:=fo "frame_bits" "bitrail.frames" 504 259 (sf p 40)
noncomputable def o261:Obj:=tp []
noncomputable def o263:Obj:=tp [s "bits" 537]
noncomputable def o264:Obj:=tp []
noncomputable def o266:Obj:=cc "is_complete" "is_complete" 534 127 1 3 261 262 .none (r 263) (r 264) 265 538 539
noncomputable def o267:Obj:=fo "is_complete" "bitrail.frames" 504 266 (sf p 41)
noncomputable def o268:Obj:=tp []
noncomputable def o270:Obj:=tp [s "bits" 544]
noncomputable def o271:Obj:=tp []
noncomputable def o273:Obj:=cc "told_size" "told_size" 541 129 1 3 268 269 .none (r 270) (r 271) 272 545 546
noncomputable def o274:Obj:=fo "told_size" "bitrail.frames" 504 273 (sf p 42)
noncomputable def o275:Obj:=tp []
noncomputable def o278:Obj:=cc "read_frame" "read_frame" 548 131 1 3 275 276 .none .none .none 277 551 552
noncomputable def o279:Obj:=fo "read_frame" "bitrail.frames" 504 278 (sf p 43)
noncomputable def o280:Obj:=tp []
noncomputable def o282:Obj:=tp [s "name" 557,s "data" 558]
noncomputable def o283:Obj:=tp []
noncomputable def o285:Obj:=cc "wire_of" "wire_of" 554 140 2 3 280 281 .none (r 282) (r 283) 284 559 560
noncomputable def o286:Obj:=fo "wire_of" "bitrail.frames" 504 285 (sf p 44)
noncomputable def o294:Obj:=tp []
noncomputable def o296:Obj:=tp [s "self" 579]
noncomputable def o297:Obj:=tp []
noncomputable def o299:Obj:=cc "__init__" "Reader.__init__" 576 145 1 3 294 295 .none (r 296) (r 297) 298 580 581
noncomputable def o300:Obj:=fo "Reader.__init__" "bitrail.readers" 562 299 (sub 0 (sf p 46))
noncomputable def o301:Obj:=tp []
noncomputable def o303:Obj:=tp [s "self" 586,s "bit" 587,s "is_put_in" 588]
noncomputable def o304:Obj:=tp []
noncomputable def o306:Obj:=cc "hear" "Reader.hear" 583 150 2 3 301 302 .none (r 303) (r 304) 305 589 590
noncomputable def o307:Obj:=fo "Reader.hear" "bitrail.readers" 562 306 (sub 1 (sf p 46))
noncomputable def o308:Obj:=tp []
noncomputable def o310:Obj:=tp [s "self" 595]
noncomputable def o311:Obj:=tp []
noncomputable def o313:Obj:=cc "judged" "Reader.judged" 592 158 1 3 308 309 .none (r 310) (r 311) 312 596 597
noncomputable def o314:Obj:=fo "Reader.judged" "bitrail.readers" 562 313 (sub 2 (sf p 46))
noncomputable def o315:Obj:=tp []
noncomputable def o317:Obj:=tp [s "self" 602]
noncomputable def o318:Obj:=tp []
noncomputable def o320:Obj:=cc "plain" "Reader.plain" 599 165 1 3 315 316 .none (r 317) (r 318) 319 603 604
noncomputable def o321:Obj:=fo "Reader.plain" "bitrail.readers" 562 320 (sub 3 (sf p 46))
noncomputable def o322:Obj:=tp []
noncomputable def o324:Obj:=tp [s "self" 609]
noncomputable def o325:Obj:=tp []
noncomputable def o327:Obj:=cc "frame" "Reader.frame" 606 168 1 3 322 323 .none (r 324) (r 325) 326 610 611
noncomputable def o328:Obj:=fo "Reader.frame" "bitrail.readers" 562 327 (sub 4 (sf p 46))
noncomputable def o329:Obj:=tp [s "answer" 613,s "kept" 614,s "streak" 615]
noncomputable def o330 (P:Params):Obj:=di (t "dict") [e P "__module__" 571 (s "bitrail.readers" 562),e P "__firstlineno__" 575 (i 143 574),e P "__init__" 582 (r 300),e P "hear" 591 (r 307),e P "judged" 598 (r 314),e P "plain" 605 (r 321),e P "frame" 612 (r 328),e P "__static_attributes__" 616 (r 329),e P "__dict__" 618 (r 332),e P "__weakref__" 620 (r 333),e P "__doc__" 621 .none] 4
noncomputable def o331:Obj:=cl { name:="Reader",bases:=[t "object"],mro:=[r 331,t "object"],ns:=330,qualname:="Reader",hasDict:=true,subclasses:=[] } [.none,.none,o (s "Reader" 564),o (s "Reader" 572),o (b "object.__new__"),o (.bool true)]
noncomputable def o332:Obj:=fi (t "getset_descriptor") [s "__dict__" 617,r 331,b "function.__dict__",b "function.__dict__#set"]
noncomputable def o333:Obj:=fi (t "getset_descriptor") [s "__weakref__" 619,r 331,b "ExceptionGroup.__weakref__",.none]
noncomputable def o343:Obj:=tp []
noncomputable def o345:Obj:=tp [s "self" 645,s "votes" 646,s "spoke" 647]
noncomputable def o346:Obj:=tp []
noncomputable def o348:Obj:=cc "__init__" "Tail.__init__" 642 175 3 3 343 344 .none (r 345) (r 346) 347 648 649
noncomputable def o349:Obj:=fo "Tail.__init__" "bitrail.tails" 624 348 (sub 0 (sf p 50))
noncomputable def o350:Obj:=tp []
noncomputable def o352:Obj:=tp [s "self" 654]
noncomputable def o353:Obj:=tp []
noncomputable def o355:Obj:=cc "says" "Tail.says" 651 181 1 3 350 351 .none (r 352) (r 353) 354 655 656
noncomputable def o356:Obj:=fo "Tail.says" "bitrail.tails" 624 355 (sub 1 (sf p 50))
noncomputable def o357:Obj:=tp []
noncomputable def o359:Obj:=tp [s "self" 661,s "bit" 662,s "at" 663]
noncomputable def o360:Obj:=tp []
noncomputable def o362:Obj:=cc "hear" "Tail.hear" 658 184 2 3 357 358 .none (r 359) (r 360) 361 664 665
noncomputable def o363:Obj:=fo "Tail.hear" "bitrail.tails" 624 362 (sub 2 (sf p 50))
noncomputable def o364:Obj:=tp []
noncomputable def o366:Obj:=tp [s "self" 670,s "at" 671,s "bit" 672]
noncomputable def o367:Obj:=tp []
noncomputable def o369:Obj:=cc "is_fault" "Tail.is_fault" 667 191 3 3 364 365 .none (r 366) (r 367) 368 673 674
noncomputable def o370:Obj:=fo "Tail.is_fault" "bitrail.tails" 624 369 (sub 3 (sf p 50))
noncomputable def o371:Obj:=tp []
noncomputable def o373:Obj:=tp [s "self" 679,s "bit" 680]
noncomputable def o374:Obj:=tp []
noncomputable def o376:Obj:=cc "judged_vote" "Tail.judged_vote" 676 196 2 3 371 372 .none (r 373) (r 374) 375 681 682
noncomputable def o377:Obj:=fo "Tail.judged_vote" "bitrail.tails" 624 376 (sub 4 (sf p 50))
noncomputable def o378:Obj:=tp []
noncomputable def o380:Obj:=tp [s "self" 687]
noncomputable def o381:Obj:=tp []
noncomputable def o383:Obj:=cc "place" "Tail.place" 684 203 1 3 378 379 .none (r 380) (r 381) 382 688 689
noncomputable def o384:Obj:=fo "Tail.place" "bitrail.tails" 624 383 (sub 5 (sf p 50))
noncomputable def o385:Obj:=tp [s "noughts" 691,s "over" 692,s "spoke" 693,s "votes" 694]
noncomputable def o386 (P:Params):Obj:=di (t "dict") [e P "__module__" 637 (s "bitrail.tails" 624),e P "__firstlineno__" 641 (i 173 640),e P "__init__" 650 (r 349),e P "says" 657 (r 356),e P "hear" 666 (r 363),e P "is_fault" 675 (r 370),e P "judged_vote" 683 (r 377),e P "place" 690 (r 384),e P "__static_attributes__" 695 (r 385),e P "__dict__" 697 (r 388),e P "__weakref__" 699 (r 389),e P "__doc__" 700 .none] 4
noncomputable def o387:Obj:=cl { name:="Tail",bases:=[t "object"],mro:=[r 387,t "object"],ns:=386,qualname:="Tail",hasDict:=true,subclasses:=[r 408,r 427] } [.none,.none,o (s "Tail" 630),o (s "Tail" 638),o (b "object.__new__"),o (.bool true)]
noncomputable def o388:Obj:=fi (t "getset_descriptor") [s "__dict__" 696,r 387,b "function.__dict__",b "function.__dict__#set"]
noncomputable def o389:Obj:=fi (t "getset_descriptor") [s "__weakref__" 698,r 387,b "ExceptionGroup.__weakref__",.none]
noncomputable def o392:Obj:=tp [r 387]
noncomputable def o399:Obj:=tp []
noncomputable def o401:Obj:=tp [s "self" 718,s "votes" 719]
noncomputable def o402:Obj:=tp []
noncomputable def o404:Obj:=cc "__init__" "ReadTail.__init__" 715 207 2 3 399 400 .none (r 401) (r 402) 403 720 721
noncomputable def o405:Obj:=fo "ReadTail.__init__" "bitrail.tails" 624 404 (sub 0 (sf p 51))
noncomputable def o406:Obj:=tp []
noncomputable def o407 (P:Params):Obj:=di (t "dict") [e P "__module__" 710 (s "bitrail.tails" 624),e P "__firstlineno__" 714 (i 205 713),e P "__init__" 722 (r 405),e P "__static_attributes__" 723 (r 406),e P "__doc__" 724 .none] 2
noncomputable def o408:Obj:=cl { name:="ReadTail",bases:=[r 387],mro:=[r 408,r 387,t "object"],ns:=407,qualname:="ReadTail",hasDict:=true,subclasses:=[] } [o (r 392),.none,o (s "ReadTail" 703),o (s "ReadTail" 711),o (b "object.__new__"),o (.bool true)]
noncomputable def o411:Obj:=tp [r 387]
noncomputable def o418:Obj:=tp []
noncomputable def o420:Obj:=tp [s "self" 742,s "votes" 743]
noncomputable def o421:Obj:=tp []
noncomputable def o423:Obj:=cc "__init__" "SpeakTail.__init__" 739 211 2 3 418 419 .none (r 420) (r 421) 422 744 745
noncomputable def o424:Obj:=fo "SpeakTail.__init__" "bitrail.tails" 624 423 (sub 0 (sf p 52))
noncomputable def o425:Obj:=tp []
noncomputable def o426 (P:Params):Obj:=di (t "dict") [e P "__module__" 734 (s "bitrail.tails" 624),e P "__firstlineno__" 738 (i 209 737),e P "__init__" 746 (r 424),e P "__static_attributes__" 747 (r 425),e P "__doc__" 748 .none] 2
noncomputable def o427:Obj:=cl { name:="SpeakTail",bases:=[r 387],mro:=[r 427,r 387,t "object"],ns:=426,qualname:="SpeakTail",hasDict:=true,subclasses:=[] } [o (r 411),.none,o (s "SpeakTail" 727),o (s "SpeakTail" 735),o (b "object.__new__"),o (.bool true)]
noncomputable def o430:Obj:=tp []
noncomputable def o432:Obj:=tp [s "reader" 764]
noncomputable def o433:Obj:=tp []
noncomputable def o435:Obj:=cc "begun_reader" "begun_reader" 761 218 0 3 430 431 .none (r 432) (r 433) 434 765 766
noncomputable def o436:Obj:=fo "begun_reader" "bitrail.stances" 751 435 (sf p 58)
noncomputable def o437:Obj:=tp []
noncomputable def o439:Obj:=tp [s "post" 771,s "word" 772,s "stance" 773]
noncomputable def o440:Obj:=tp []
noncomputable def o442:Obj:=cc "unless_off" "unless_off" 768 222 3 3 437 438 .none (r 439) (r 440) 441 774 775
noncomputable def o443:Obj:=fo "unless_off" "bitrail.stances" 751 442 (sf p 59)
noncomputable def o444:Obj:=tp []
noncomputable def o446:Obj:=tp [s "post" 780,s "spoke" 781]
noncomputable def o447:Obj:=tp []
noncomputable def o449:Obj:=cc "fault_of" "fault_of" 777 224 2 3 444 445 .none (r 446) (r 447) 448 782 783
noncomputable def o450:Obj:=fo "fault_of" "bitrail.stances" 751 449 (sf p 60)
noncomputable def o451:Obj:=tp []
noncomputable def o453:Obj:=tp [s "post" 788,s "spoke" 789]
noncomputable def o454:Obj:=tp []
noncomputable def o456:Obj:=cc "refusal_of" "refusal_of" 785 227 2 3 451 452 .none (r 453) (r 454) 455 790 791
noncomputable def o457:Obj:=fo "refusal_of" "bitrail.stances" 751 456 (sf p 61)
noncomputable def o458:Obj:=tp []
noncomputable def o460:Obj:=tp [s "post" 796]
noncomputable def o461:Obj:=tp []
noncomputable def o463:Obj:=cc "blame_of" "blame_of" 793 230 1 3 458 459 .none (r 460) (r 461) 462 797 798
noncomputable def o464:Obj:=fo "blame_of" "bitrail.stances" 751 463 (sf p 62)
noncomputable def o472:Obj:=tp []
noncomputable def o474:Obj:=tp [s "self" 815,s "since" 816]
noncomputable def o475:Obj:=tp []
noncomputable def o477:Obj:=cc "__init__" "Free.__init__" 812 235 2 3 472 473 .none (r 474) (r 475) 476 817 818
noncomputable def o478:Obj:=fo "Free.__init__" "bitrail.stances" 751 477 (sub 0 (sf p 63))
noncomputable def o479:Obj:=tp []
noncomputable def o481:Obj:=tp [s "self" 823]
noncomputable def o482:Obj:=tp []
noncomputable def o484:Obj:=cc "shown" "Free.shown" 820 238 1 3 479 480 .none (r 481) (r 482) 483 824 825
noncomputable def o485:Obj:=fo "Free.shown" "bitrail.stances" 751 484 (sub 1 (sf p 63))
noncomputable def o486:Obj:=tp []
noncomputable def o488:Obj:=tp [s "self" 830,s "post" 831]
noncomputable def o489:Obj:=tp []
noncomputable def o491:Obj:=cc "says" "Free.says" 827 241 2 3 486 487 .none (r 488) (r 489) 490 832 833
noncomputable def o492:Obj:=fo "Free.says" "bitrail.stances" 751 491 (sub 2 (sf p 63))
noncomputable def o493:Obj:=tp []
noncomputable def o495:Obj:=tp [s "self" 838,s "bit" 839,s "post" 840,s "begins" 841]
noncomputable def o496:Obj:=tp []
noncomputable def o498:Obj:=cc "step" "Free.step" 835 246 3 3 493 494 .none (r 495) (r 496) 497 842 843
noncomputable def o499:Obj:=fo "Free.step" "bitrail.stances" 751 498 (sub 3 (sf p 63))
noncomputable def o500:Obj:=tp [s "since" 845]
noncomputable def o501 (P:Params):Obj:=di (t "dict") [e P "__module__" 807 (s "bitrail.stances" 751),e P "__firstlineno__" 811 (i 233 810),e P "__init__" 819 (r 478),e P "shown" 826 (r 485),e P "says" 834 (r 492),e P "step" 844 (r 499),e P "__static_attributes__" 846 (r 500),e P "__dict__" 848 (r 503),e P "__weakref__" 850 (r 504),e P "__doc__" 851 .none] 4
noncomputable def o502:Obj:=cl { name:="Free",bases:=[t "object"],mro:=[r 502,t "object"],ns:=501,qualname:="Free",hasDict:=true,subclasses:=[] } [.none,.none,o (s "Free" 800),o (s "Free" 808),o (b "object.__new__"),o (.bool true)]
noncomputable def o503:Obj:=fi (t "getset_descriptor") [s "__dict__" 847,r 502,b "function.__dict__",b "function.__dict__#set"]
noncomputable def o504:Obj:=fi (t "getset_descriptor") [s "__weakref__" 849,r 502,b "ExceptionGroup.__weakref__",.none]
noncomputable def o514:Obj:=tp []
noncomputable def o516:Obj:=tp [s "self" 869,s "wire" 870,s "reader" 871,s "many" 872]
noncomputable def o517:Obj:=tp []
noncomputable def o519:Obj:=cc "__init__" "Speaks.__init__" 866 257 4 3 514 515 .none (r 516) (r 517) 518 873 874
noncomputable def o520:Obj:=fo "Speaks.__init__" "bitrail.stances" 751 519 (sub 0 (sf p 64))
noncomputable def o521:Obj:=tp []
noncomputable def o523:Obj:=tp [s "self" 879]
noncomputable def o524:Obj:=tp []
noncomputable def o526:Obj:=cc "shown" "Speaks.shown" 876 262 1 3 521 522 .none (r 523) (r 524) 525 880 881
noncomputable def o527:Obj:=fo "Speaks.shown" "bitrail.stances" 751 526 (sub 1 (sf p 64))
noncomputable def o528:Obj:=tp []
noncomputable def o530:Obj:=tp [s "self" 886,s "post" 887]
noncomputable def o531:Obj:=tp []
noncomputable def o533:Obj:=cc "says" "Speaks.says" 883 265 2 3 528 529 .none (r 530) (r 531) 532 888 889
noncomputable def o534:Obj:=fo "Speaks.says" "bitrail.stances" 751 533 (sub 2 (sf p 64))
noncomputable def o535:Obj:=tp []
noncomputable def o537:Obj:=tp [s "self" 894,s "bit" 895,s "post" 896,s "own" 897,s "is_duel" 898]
noncomputable def o538:Obj:=tp []
noncomputable def o540:Obj:=cc "step" "Speaks.step" 891 268 3 3 535 536 .none (r 537) (r 538) 539 899 900
noncomputable def o541:Obj:=fo "Speaks.step" "bitrail.stances" 751 540 (sub 3 (sf p 64))
noncomputable def o542:Obj:=tp [s "many" 902,s "reader" 903,s "wire" 904]
noncomputable def o543 (P:Params):Obj:=di (t "dict") [e P "__module__" 861 (s "bitrail.stances" 751),e P "__firstlineno__" 865 (i 255 864),e P "__init__" 875 (r 520),e P "shown" 882 (r 527),e P "says" 890 (r 534),e P "step" 901 (r 541),e P "__static_attributes__" 905 (r 542),e P "__dict__" 907 (r 545),e P "__weakref__" 909 (r 546),e P "__doc__" 910 .none] 4
noncomputable def o544:Obj:=cl { name:="Speaks",bases:=[t "object"],mro:=[r 544,t "object"],ns:=543,qualname:="Speaks",hasDict:=true,subclasses:=[] } [.none,.none,o (s "Speaks" 854),o (s "Speaks" 862),o (b "object.__new__"),o (.bool true)]
noncomputable def o545:Obj:=fi (t "getset_descriptor") [s "__dict__" 906,r 544,b "function.__dict__",b "function.__dict__#set"]
noncomputable def o546:Obj:=fi (t "getset_descriptor") [s "__weakref__" 908,r 544,b "ExceptionGroup.__weakref__",.none]
noncomputable def o556:Obj:=tp []
noncomputable def o558:Obj:=tp [s "self" 928,s "reader" 929,s "many" 930]
noncomputable def o559:Obj:=tp []
noncomputable def o561:Obj:=cc "__init__" "Reads.__init__" 925 282 3 3 556 557 .none (r 558) (r 559) 560 931 932
noncomputable def o562:Obj:=fo "Reads.__init__" "bitrail.stances" 751 561 (sub 0 (sf p 65))
noncomputable def o563:Obj:=tp []
noncomputable def o565:Obj:=tp [s "self" 937]
noncomputable def o566:Obj:=tp []
noncomputable def o568:Obj:=cc "shown" "Reads.shown" 934 286 1 3 563 564 .none (r 565) (r 566) 567 938 939
noncomputable def o569:Obj:=fo "Reads.shown" "bitrail.stances" 751 568 (sub 1 (sf p 65))
noncomputable def o570:Obj:=tp []
noncomputable def o572:Obj:=tp [s "self" 944,s "post" 945]
noncomputable def o573:Obj:=tp []
noncomputable def o575:Obj:=cc "says" "Reads.says" 941 289 2 3 570 571 .none (r 572) (r 573) 574 946 947
noncomputable def o576:Obj:=fo "Reads.says" "bitrail.stances" 751 575 (sub 2 (sf p 65))
noncomputable def o577:Obj:=tp []
noncomputable def o579:Obj:=tp [s "self" 952,s "bit" 953,s "post" 954,s "answer" 955]
noncomputable def o580:Obj:=tp []
noncomputable def o582:Obj:=cc "step" "Reads.step" 949 292 3 3 577 578 .none (r 579) (r 580) 581 956 957
noncomputable def o583:Obj:=fo "Reads.step" "bitrail.stances" 751 582 (sub 3 (sf p 65))
noncomputable def o584:Obj:=tp [s "many" 959,s "reader" 960]
noncomputable def o585 (P:Params):Obj:=di (t "dict") [e P "__module__" 920 (s "bitrail.stances" 751),e P "__firstlineno__" 924 (i 280 923),e P "__init__" 933 (r 562),e P "shown" 940 (r 569),e P "says" 948 (r 576),e P "step" 958 (r 583),e P "__static_attributes__" 961 (r 584),e P "__dict__" 963 (r 587),e P "__weakref__" 965 (r 588),e P "__doc__" 966 .none] 4
noncomputable def o586:Obj:=cl { name:="Reads",bases:=[t "object"],mro:=[r 586,t "object"],ns:=585,qualname:="Reads",hasDict:=true,subclasses:=[] } [.none,.none,o (s "Reads" 913),o (s "Reads" 921),o (b "object.__new__"),o (.bool true)]
noncomputable def o587:Obj:=fi (t "getset_descriptor") [s "__dict__" 962,r 586,b "function.__dict__",b "function.__dict__#set"]
noncomputable def o588:Obj:=fi (t "getset_descriptor") [s "__weakref__" 964,r 586,b "ExceptionGroup.__weakref__",.none]
noncomputable def o598:Obj:=tp []
noncomputable def o600:Obj:=tp [s "self" 984,s "tail" 985,s "found" 986]
noncomputable def o601:Obj:=tp []
noncomputable def o603:Obj:=cc "__init__" "InTail.__init__" 981 301 3 3 598 599 .none (r 600) (r 601) 602 987 988
noncomputable def o604:Obj:=fo "InTail.__init__" "bitrail.stances" 751 603 (sub 0 (sf p 66))
noncomputable def o605:Obj:=tp []
noncomputable def o607:Obj:=tp [s "self" 993]
noncomputable def o608:Obj:=tp []
noncomputable def o610:Obj:=cc "shown" "InTail.shown" 990 305 1 3 605 606 .none (r 607) (r 608) 609 994 995
noncomputable def o611:Obj:=fo "InTail.shown" "bitrail.stances" 751 610 (sub 1 (sf p 66))
noncomputable def o612:Obj:=tp []
noncomputable def o614:Obj:=tp [s "self" 1000,s "post" 1001]
noncomputable def o615:Obj:=tp []
noncomputable def o617:Obj:=cc "says" "InTail.says" 997 308 2 3 612 613 .none (r 614) (r 615) 616 1002 1003
noncomputable def o618:Obj:=fo "InTail.says" "bitrail.stances" 751 617 (sub 2 (sf p 66))
noncomputable def o619:Obj:=tp []
noncomputable def o621:Obj:=tp [s "self" 1008,s "bit" 1009,s "post" 1010,s "answer" 1011]
noncomputable def o622:Obj:=tp []
noncomputable def o624:Obj:=cc "step" "InTail.step" 1005 311 3 3 619 620 .none (r 621) (r 622) 623 1012 1013
noncomputable def o625:Obj:=fo "InTail.step" "bitrail.stances" 751 624 (sub 3 (sf p 66))
noncomputable def o626:Obj:=tp [s "found" 1015,s "tail" 1016]
noncomputable def o627 (P:Params):Obj:=di (t "dict") [e P "__module__" 976 (s "bitrail.stances" 751),e P "__firstlineno__" 980 (i 299 979),e P "__init__" 989 (r 604),e P "shown" 996 (r 611),e P "says" 1004 (r 618),e P "step" 1014 (r 625),e P "__static_attributes__" 1017 (r 626),e P "__dict__" 1019 (r 629),e P "__weakref__" 1021 (r 630),e P "__doc__" 1022 .none] 4
noncomputable def o628:Obj:=cl { name:="InTail",bases:=[t "object"],mro:=[r 628,t "object"],ns:=627,qualname:="InTail",hasDict:=true,subclasses:=[] } [.none,.none,o (s "InTail" 969),o (s "InTail" 977),o (b "object.__new__"),o (.bool true)]
noncomputable def o629:Obj:=fi (t "getset_descriptor") [s "__dict__" 1018,r 628,b "function.__dict__",b "function.__dict__#set"]
noncomputable def o630:Obj:=fi (t "getset_descriptor") [s "__weakref__" 1020,r 628,b "ExceptionGroup.__weakref__",.none]
noncomputable def o640:Obj:=tp []
noncomputable def o642:Obj:=tp [s "self" 1040,s "left" 1041,s "may_blame" 1042]
noncomputable def o643:Obj:=tp []
noncomputable def o645:Obj:=cc "__init__" "Flagging.__init__" 1037 327 3 3 640 641 .none (r 642) (r 643) 644 1043 1044
noncomputable def o646:Obj:=fo "Flagging.__init__" "bitrail.stances" 751 645 (sub 0 (sf p 67))
noncomputable def o647:Obj:=tp []
noncomputable def o649:Obj:=tp [s "self" 1049]
noncomputable def o650:Obj:=tp []
noncomputable def o652:Obj:=cc "shown" "Flagging.shown" 1046 331 1 3 647 648 .none (r 649) (r 650) 651 1050 1051
noncomputable def o653:Obj:=fo "Flagging.shown" "bitrail.stances" 751 652 (sub 1 (sf p 67))
noncomputable def o654:Obj:=tp []
noncomputable def o656:Obj:=tp [s "self" 1056,s "post" 1057]
noncomputable def o657:Obj:=tp []
noncomputable def o659:Obj:=cc "says" "Flagging.says" 1053 334 2 3 654 655 .none (r 656) (r 657) 658 1058 1059
noncomputable def o660:Obj:=fo "Flagging.says" "bitrail.stances" 751 659 (sub 2 (sf p 67))
noncomputable def o661:Obj:=tp []
noncomputable def o663:Obj:=tp [s "self" 1064,s "bit" 1065,s "post" 1066]
noncomputable def o664:Obj:=tp []
noncomputable def o666:Obj:=cc "step" "Flagging.step" 1061 337 3 3 661 662 .none (r 663) (r 664) 665 1067 1068
noncomputable def o667:Obj:=fo "Flagging.step" "bitrail.stances" 751 666 (sub 3 (sf p 67))
noncomputable def o668:Obj:=tp [s "left" 1070,s "may_blame" 1071]
noncomputable def o669 (P:Params):Obj:=di (t "dict") [e P "__module__" 1032 (s "bitrail.stances" 751),e P "__firstlineno__" 1036 (i 325 1035),e P "__init__" 1045 (r 646),e P "shown" 1052 (r 653),e P "says" 1060 (r 660),e P "step" 1069 (r 667),e P "__static_attributes__" 1072 (r 668),e P "__dict__" 1074 (r 671),e P "__weakref__" 1076 (r 672),e P "__doc__" 1077 .none] 4
noncomputable def o670:Obj:=cl { name:="Flagging",bases:=[t "object"],mro:=[r 670,t "object"],ns:=669,qualname:="Flagging",hasDict:=true,subclasses:=[] } [.none,.none,o (s "Flagging" 1025),o (s "Flagging" 1033),o (b "object.__new__"),o (.bool true)]
noncomputable def o671:Obj:=fi (t "getset_descriptor") [s "__dict__" 1073,r 670,b "function.__dict__",b "function.__dict__#set"]
noncomputable def o672:Obj:=fi (t "getset_descriptor") [s "__weakref__" 1075,r 670,b "ExceptionGroup.__weakref__",.none]
noncomputable def o682:Obj:=tp []
noncomputable def o684:Obj:=tp [s "self" 1095,s "may_blame" 1096]
noncomputable def o685:Obj:=tp []
noncomputable def o687:Obj:=cc "__init__" "Settles.__init__" 1092 343 2 3 682 683 .none (r 684) (r 685) 686 1097 1098
noncomputable def o688:Obj:=fo "Settles.__init__" "bitrail.stances" 751 687 (sub 0 (sf p 68))
noncomputable def o689:Obj:=tp []
noncomputable def o691:Obj:=tp [s "self" 1103]
noncomputable def o692:Obj:=tp []
noncomputable def o694:Obj:=cc "shown" "Settles.shown" 1100 346 1 3 689 690 .none (r 691) (r 692) 693 1104 1105
noncomputable def o695:Obj:=fo "Settles.shown" "bitrail.stances" 751 694 (sub 1 (sf p 68))
noncomputable def o696:Obj:=tp []
noncomputable def o698:Obj:=tp [s "self" 1110,s "post" 1111]
noncomputable def o699:Obj:=tp []
noncomputable def o701:Obj:=cc "says" "Settles.says" 1107 349 2 3 696 697 .none (r 698) (r 699) 700 1112 1113
noncomputable def o702:Obj:=fo "Settles.says" "bitrail.stances" 751 701 (sub 2 (sf p 68))
noncomputable def o703:Obj:=tp []
noncomputable def o705:Obj:=tp [s "self" 1118,s "bit" 1119,s "post" 1120]
noncomputable def o706:Obj:=tp []
noncomputable def o708:Obj:=cc "step" "Settles.step" 1115 352 3 3 703 704 .none (r 705) (r 706) 707 1121 1122
noncomputable def o709:Obj:=fo "Settles.step" "bitrail.stances" 751 708 (sub 3 (sf p 68))
noncomputable def o710:Obj:=tp [s "may_blame" 1124]
noncomputable def o711 (P:Params):Obj:=di (t "dict") [e P "__module__" 1087 (s "bitrail.stances" 751),e P "__firstlineno__" 1091 (i 341 1090),e P "__init__" 1099 (r 688),e P "shown" 1106 (r 695),e P "says" 1114 (r 702),e P "step" 1123 (r 709),e P "__static_attributes__" 1125 (r 710),e P "__dict__" 1127 (r 713),e P "__weakref__" 1129 (r 714),e P "__doc__" 1130 .none] 4
noncomputable def o712:Obj:=cl { name:="Settles",bases:=[t "object"],mro:=[r 712,t "object"],ns:=711,qualname:="Settles",hasDict:=true,subclasses:=[] } [.none,.none,o (s "Settles" 1080),o (s "Settles" 1088),o (b "object.__new__"),o (.bool true)]
noncomputable def o713:Obj:=fi (t "getset_descriptor") [s "__dict__" 1126,r 712,b "function.__dict__",b "function.__dict__#set"]
noncomputable def o714:Obj:=fi (t "getset_descriptor") [s "__weakref__" 1128,r 712,b "ExceptionGroup.__weakref__",.none]
noncomputable def o724:Obj:=tp []
noncomputable def o726:Obj:=tp [s "self" 1148,s "left" 1149]
noncomputable def o727:Obj:=tp []
noncomputable def o729:Obj:=cc "__init__" "Rests.__init__" 1145 360 2 3 724 725 .none (r 726) (r 727) 728 1150 1151
noncomputable def o730:Obj:=fo "Rests.__init__" "bitrail.stances" 751 729 (sub 0 (sf p 69))
noncomputable def o731:Obj:=tp []
noncomputable def o733:Obj:=tp [s "self" 1156]
noncomputable def o734:Obj:=tp []
noncomputable def o736:Obj:=cc "shown" "Rests.shown" 1153 363 1 3 731 732 .none (r 733) (r 734) 735 1157 1158
noncomputable def o737:Obj:=fo "Rests.shown" "bitrail.stances" 751 736 (sub 1 (sf p 69))
noncomputable def o738:Obj:=tp []
noncomputable def o740:Obj:=tp [s "self" 1163,s "post" 1164]
noncomputable def o741:Obj:=tp []
noncomputable def o743:Obj:=cc "says" "Rests.says" 1160 366 2 3 738 739 .none (r 740) (r 741) 742 1165 1166
noncomputable def o744:Obj:=fo "Rests.says" "bitrail.stances" 751 743 (sub 2 (sf p 69))
noncomputable def o745:Obj:=tp []
noncomputable def o747:Obj:=tp [s "self" 1171,s "bit" 1172,s "post" 1173]
noncomputable def o748:Obj:=tp []
noncomputable def o750:Obj:=cc "step" "Rests.step" 1168 369 3 3 745 746 .none (r 747) (r 748) 749 1174 1175
noncomputable def o751:Obj:=fo "Rests.step" "bitrail.stances" 751 750 (sub 3 (sf p 69))
noncomputable def o752:Obj:=tp [s "left" 1177]
noncomputable def o753 (P:Params):Obj:=di (t "dict") [e P "__module__" 1140 (s "bitrail.stances" 751),e P "__firstlineno__" 1144 (i 358 1143),e P "__init__" 1152 (r 730),e P "shown" 1159 (r 737),e P "says" 1167 (r 744),e P "step" 1176 (r 751),e P "__static_attributes__" 1178 (r 752),e P "__dict__" 1180 (r 755),e P "__weakref__" 1182 (r 756),e P "__doc__" 1183 .none] 4
noncomputable def o754:Obj:=cl { name:="Rests",bases:=[t "object"],mro:=[r 754,t "object"],ns:=753,qualname:="Rests",hasDict:=true,subclasses:=[] } [.none,.none,o (s "Rests" 1133),o (s "Rests" 1141),o (b "object.__new__"),o (.bool true)]
noncomputable def o755:Obj:=fi (t "getset_descriptor") [s "__dict__" 1179,r 754,b "function.__dict__",b "function.__dict__#set"]
noncomputable def o756:Obj:=fi (t "getset_descriptor") [s "__weakref__" 1181,r 754,b "ExceptionGroup.__weakref__",.none]
noncomputable def o766:Obj:=tp []
noncomputable def o768:Obj:=tp [s "self" 1201]
noncomputable def o769:Obj:=tp []
noncomputable def o771:Obj:=cc "shown" "Off.shown" 1198 375 1 3 766 767 .none (r 768) (r 769) 770 1202 1203
noncomputable def o772:Obj:=fo "Off.shown" "bitrail.stances" 751 771 (sub 0 (sf p 70))
noncomputable def o773:Obj:=tp []
noncomputable def o775:Obj:=tp [s "self" 1208,s "post" 1209]
noncomputable def o776:Obj:=tp []
noncomputable def o778:Obj:=cc "says" "Off.says" 1205 378 2 3 773 774 .none (r 775) (r 776) 777 1210 1211
noncomputable def o779:Obj:=fo "Off.says" "bitrail.stances" 751 778 (sub 1 (sf p 70))
noncomputable def o780:Obj:=tp []
noncomputable def o782:Obj:=tp [s "self" 1216,s "bit" 1217,s "post" 1218]
noncomputable def o783:Obj:=tp []
noncomputable def o785:Obj:=cc "step" "Off.step" 1213 381 3 3 780 781 .none (r 782) (r 783) 784 1219 1220
noncomputable def o786:Obj:=fo "Off.step" "bitrail.stances" 751 785 (sub 2 (sf p 70))
noncomputable def o787:Obj:=tp []
noncomputable def o788 (P:Params):Obj:=di (t "dict") [e P "__module__" 1193 (s "bitrail.stances" 751),e P "__firstlineno__" 1197 (i 373 1196),e P "shown" 1204 (r 772),e P "says" 1212 (r 779),e P "step" 1221 (r 786),e P "__static_attributes__" 1222 (r 787),e P "__dict__" 1224 (r 790),e P "__weakref__" 1226 (r 791),e P "__doc__" 1227 .none] 4
noncomputable def o789:Obj:=cl { name:="Off",bases:=[t "object"],mro:=[r 789,t "object"],ns:=788,qualname:="Off",hasDict:=true,subclasses:=[] } [.none,.none,o (s "Off" 1186),o (s "Off" 1194),o (b "object.__new__"),o (.bool true)]
noncomputable def o790:Obj:=fi (t "getset_descriptor") [s "__dict__" 1223,r 789,b "function.__dict__",b "function.__dict__#set"]
noncomputable def o791:Obj:=fi (t "getset_descriptor") [s "__weakref__" 1225,r 789,b "ExceptionGroup.__weakref__",.none]
noncomputable def o794:Obj:=tp [i 1 1232,i 3 1233,i 5 1234]
noncomputable def o795:Obj:=tp []
noncomputable def o797:Obj:=tp [s "votes" 1239]
noncomputable def o798:Obj:=tp []
noncomputable def o800:Obj:=cc "check_votes" "check_votes" 1236 385 1 3 795 796 .none (r 797) (r 798) 799 1240 1241
noncomputable def o801:Obj:=fo "check_votes" "bitrail.posts" 1230 800 (sf p 73)
noncomputable def o802:Obj:=tp []
noncomputable def o804:Obj:=tp [s "choice" 1246]
noncomputable def o805:Obj:=tp []
noncomputable def o807:Obj:=cc "check_choice" "check_choice" 1243 388 1 3 802 803 .none (r 804) (r 805) 806 1247 1248
noncomputable def o808:Obj:=fo "check_choice" "bitrail.posts" 1230 807 (sf p 74)
noncomputable def o809:Obj:=tp []
noncomputable def o812:Obj:=cc "copies" "copies" 1250 391 1 3 809 810 .none .none .none 811 1253 1254
noncomputable def o813:Obj:=fo "copies" "bitrail.posts" 1230 812 (sf p 75)
noncomputable def o821:Obj:=tp []
noncomputable def o823:Obj:=tp [s "self" 1271,s "choice" 1272,s "votes" 1273]
noncomputable def o824:Obj:=tp []
noncomputable def o826:Obj:=cc "__init__" "Post.__init__" 1268 395 3 3 821 822 .none (r 823) (r 824) 825 1274 1275
noncomputable def o827:Obj:=fo "Post.__init__" "bitrail.posts" 1230 826 (sub 0 (sf p 76))
noncomputable def o828:Obj:=tp []
noncomputable def o830:Obj:=tp [s "self" 1280,s "name" 1281,s "data" 1282]
noncomputable def o831:Obj:=tp []
noncomputable def o833:Obj:=cc "hand" "Post.hand" 1277 405 3 3 828 829 .none (r 830) (r 831) 832 1283 1284
noncomputable def o834:Obj:=fo "Post.hand" "bitrail.posts" 1230 833 (sub 1 (sf p 76))
noncomputable def o835:Obj:=tp []
noncomputable def o837:Obj:=tp [s "self" 1289]
noncomputable def o838:Obj:=tp []
noncomputable def o840:Obj:=cc "says" "Post.says" 1286 409 1 3 835 836 .none (r 837) (r 838) 839 1290 1291
noncomputable def o841:Obj:=fo "Post.says" "bitrail.posts" 1230 840 (sub 2 (sf p 76))
noncomputable def o842:Obj:=tp []
noncomputable def o844:Obj:=tp [s "self" 1296,s "bit" 1297,s "told" 1298]
noncomputable def o845:Obj:=tp []
noncomputable def o847:Obj:=cc "hear" "Post.hear" 1293 412 2 3 842 843 .none (r 844) (r 845) 846 1299 1300
noncomputable def o848:Obj:=fo "Post.hear" "bitrail.posts" 1230 847 (sub 3 (sf p 76))
noncomputable def o849:Obj:=tp []
noncomputable def o851:Obj:=tp [s "self" 1305]
noncomputable def o852:Obj:=tp []
noncomputable def o854:Obj:=cc "stance" "Post.stance" 1302 417 1 3 849 850 .none (r 851) (r 852) 853 1306 1307
noncomputable def o855:Obj:=fo "Post.stance" "bitrail.posts" 1230 854 (sub 4 (sf p 76))
noncomputable def o856:Obj:=tp []
noncomputable def o858:Obj:=tp [s "self" 1312]
noncomputable def o859:Obj:=tp []
noncomputable def o861:Obj:=cc "waits" "Post.waits" 1309 420 1 3 856 857 .none (r 858) (r 859) 860 1313 1314
noncomputable def o862:Obj:=fo "Post.waits" "bitrail.posts" 1230 861 (sub 5 (sf p 76))
noncomputable def o863:Obj:=tp []
noncomputable def o865:Obj:=tp [s "self" 1319]
noncomputable def o866:Obj:=tp []
noncomputable def o868:Obj:=cc "got" "Post.got" 1316 423 1 3 863 864 .none (r 865) (r 866) 867 1320 1321
noncomputable def o869:Obj:=fo "Post.got" "bitrail.posts" 1230 868 (sub 6 (sf p 76))
noncomputable def o870:Obj:=tp []
noncomputable def o872:Obj:=tp [s "self" 1326]
noncomputable def o873:Obj:=tp []
noncomputable def o875:Obj:=cc "faults" "Post.faults" 1323 426 1 3 870 871 .none (r 872) (r 873) 874 1327 1328
noncomputable def o876:Obj:=fo "Post.faults" "bitrail.posts" 1230 875 (sub 7 (sf p 76))
noncomputable def o877:Obj:=tp []
noncomputable def o879:Obj:=tp [s "self" 1333]
noncomputable def o880:Obj:=tp []
noncomputable def o882:Obj:=cc "is_quiet" "Post.is_quiet" 1330 429 1 3 877 878 .none (r 879) (r 880) 881 1334 1335
noncomputable def o883:Obj:=fo "Post.is_quiet" "bitrail.posts" 1230 882 (sub 8 (sf p 76))
noncomputable def o884:Obj:=tp []
noncomputable def o886:Obj:=tp [s "self" 1340]
noncomputable def o887:Obj:=tp []
noncomputable def o889:Obj:=cc "is_off" "Post.is_off" 1337 432 1 3 884 885 .none (r 886) (r 887) 888 1341 1342
noncomputable def o890:Obj:=fo "Post.is_off" "bitrail.posts" 1230 889 (sub 9 (sf p 76))
noncomputable def o891:Obj:=tp []
noncomputable def o893:Obj:=tp [s "self" 1347]
noncomputable def o894:Obj:=tp []
noncomputable def o896:Obj:=cc "has_frame" "Post.has_frame" 1344 435 1 3 891 892 .none (r 893) (r 894) 895 1348 1349
noncomputable def o897:Obj:=fo "Post.has_frame" "bitrail.posts" 1230 896 (sub 10 (sf p 76))
noncomputable def o898:Obj:=tp []
noncomputable def o900:Obj:=tp [s "self" 1354]
noncomputable def o901:Obj:=tp []
noncomputable def o903:Obj:=cc "foremost_wire" "Post.foremost_wire" 1351 438 1 3 898 899 .none (r 900) (r 901) 902 1355 1356
noncomputable def o904:Obj:=fo "Post.foremost_wire" "bitrail.posts" 1230 903 (sub 11 (sf p 76))
noncomputable def o905:Obj:=tp []
noncomputable def o907:Obj:=tp [s "self" 1361]
noncomputable def o908:Obj:=tp []
noncomputable def o910:Obj:=cc "drop_foremost" "Post.drop_foremost" 1358 441 1 3 905 906 .none (r 907) (r 908) 909 1362 1363
noncomputable def o911:Obj:=fo "Post.drop_foremost" "bitrail.posts" 1230 910 (sub 12 (sf p 76))
noncomputable def o912:Obj:=tp []
noncomputable def o914:Obj:=tp [s "self" 1368,s "frame" 1369]
noncomputable def o915:Obj:=tp []
noncomputable def o917:Obj:=cc "hand_up" "Post.hand_up" 1365 444 2 3 912 913 .none (r 914) (r 915) 916 1370 1371
noncomputable def o918:Obj:=fo "Post.hand_up" "bitrail.posts" 1230 917 (sub 13 (sf p 76))
noncomputable def o919:Obj:=tp [s "choice" 1373,s "handed_up" 1374,s "now" 1375,s "tally" 1376,s "votes" 1377,s "waiting" 1378]
noncomputable def o920 (P:Params):Obj:=di (t "dict") [e P "__module__" 1263 (s "bitrail.posts" 1230),e P "__firstlineno__" 1267 (i 393 1266),e P "__init__" 1276 (r 827),e P "hand" 1285 (r 834),e P "says" 1292 (r 841),e P "hear" 1301 (r 848),e P "stance" 1308 (r 855),e P "waits" 1315 (r 862),e P "got" 1322 (r 869),e P "faults" 1329 (r 876),e P "is_quiet" 1336 (r 883),e P "is_off" 1343 (r 890),e P "has_frame" 1350 (r 897),e P "foremost_wire" 1357 (r 904),e P "drop_foremost" 1364 (r 911),e P "hand_up" 1372 (r 918),e P "__static_attributes__" 1379 (r 919),e P "__dict__" 1381 (r 922),e P "__weakref__" 1383 (r 923),e P "__doc__" 1384 .none] 4
noncomputable def o921:Obj:=cl { name:="Post",bases:=[t "object"],mro:=[r 921,t "object"],ns:=920,qualname:="Post",hasDict:=true,subclasses:=[] } [.none,.none,o (s "Post" 1256),o (s "Post" 1264),o (b "object.__new__"),o (.bool true)]
noncomputable def o922:Obj:=fi (t "getset_descriptor") [s "__dict__" 1380,r 921,b "function.__dict__",b "function.__dict__#set"]
noncomputable def o923:Obj:=fi (t "getset_descriptor") [s "__weakref__" 1382,r 921,b "ExceptionGroup.__weakref__",.none]
noncomputable def o926:Obj:=tp []
noncomputable def o928:Obj:=tp [s "_law_script" 1392,s "_law_k" 1393,s "_law_many" 1394,s "_law_cell" 1395,s "_law_seed" 1396]
noncomputable def o929:Obj:=tp []
noncomputable def o931:Obj:=cc "_law_draw" "_law_draw" 1389 448 3 3 926 927 .none (r 928) (r 929) 930 1397 1398
noncomputable def o932:Obj:=fo "_law_draw" "law_bitrail_k47_whole_stances" 1387 931 (sf p 78)
noncomputable def o933:Obj:=tp []
noncomputable def o936:Obj:=cc "_law_bits" "_law_bits" 1400 452 2 3 933 934 .none .none .none 935 1403 1404
noncomputable def o937:Obj:=fo "_law_bits" "law_bitrail_k47_whole_stances" 1387 936 (sf p 79)
noncomputable def o938:Obj:=tp []
noncomputable def o940:Obj:=tp [s "_law_frame_here" 1409,s "_law_bits_here" 1410,s "_law_byte" 1411,s "_law_rest" 1412,s "_law_bit" 1413,s "_law_wire_here" 1414]
noncomputable def o941:Obj:=tp []
noncomputable def o943:Obj:=cc "_law_wire" "_law_wire" 1406 454 1 3 938 939 .none (r 940) (r 941) 942 1415 1416
noncomputable def o944:Obj:=fo "_law_wire" "law_bitrail_k47_whole_stances" 1387 943 (sf p 80)
noncomputable def o945:Obj:=tp []
noncomputable def o947:Obj:=tp [s "_law_bits_here" 1421,s "_law_number_here" 1422,s "_law_bit" 1423]
noncomputable def o948:Obj:=tp []
noncomputable def o950:Obj:=cc "_law_number" "_law_number" 1418 469 1 3 945 946 .none (r 947) (r 948) 949 1424 1425
noncomputable def o951:Obj:=fo "_law_number" "law_bitrail_k47_whole_stances" 1387 950 (sf p 81)
noncomputable def o952:Obj:=tp []
noncomputable def o954:Obj:=tp [s "_law_script" 1430,s "_law_base" 1431,s "_law_data" 1432]
noncomputable def o955:Obj:=tp []
noncomputable def o957:Obj:=cc "_law_frame" "_law_frame" 1427 474 2 3 952 953 .none (r 954) (r 955) 956 1433 1434
noncomputable def o958:Obj:=fo "_law_frame" "law_bitrail_k47_whole_stances" 1387 957 (sf p 82)
noncomputable def o959:Obj:=tp []
noncomputable def o961:Obj:=tp [s "_law_script" 1439,s "_law_votes" 1440,s "_law_row" 1441,s "_law_k" 1442,s "_law_way" 1443]
noncomputable def o962:Obj:=tp []
noncomputable def o964:Obj:=cc "_law_others" "_law_others" 1436 477 2 3 959 960 .none (r 961) (r 962) 963 1444 1445
noncomputable def o965:Obj:=fo "_law_others" "law_bitrail_k47_whole_stances" 1387 964 (sf p 83)
noncomputable def o966:Obj:=tp []
noncomputable def o968:Obj:=tp [s "_law_now" 1450,s "_law_queue" 1451]
noncomputable def o969:Obj:=tp []
noncomputable def o971:Obj:=cc "_law_says" "_law_says" 1447 488 2 3 966 967 .none (r 968) (r 969) 970 1452 1453
noncomputable def o972:Obj:=fo "_law_says" "law_bitrail_k47_whole_stances" 1387 971 (sf p 84)
noncomputable def o973:Obj:=tp []
noncomputable def o975:Obj:=tp [s "_law_now" 1458,s "_law_spoke" 1459,s "_law_flags" 1460]
noncomputable def o976:Obj:=tp []
noncomputable def o978:Obj:=cc "_law_fault" "_law_fault" 1455 498 3 3 973 974 .none (r 975) (r 976) 977 1461 1462
noncomputable def o979:Obj:=fo "_law_fault" "law_bitrail_k47_whole_stances" 1387 978 (sf p 85)
noncomputable def o980:Obj:=tp []
noncomputable def o982:Obj:=tp [s "_law_now" 1467,s "_law_said" 1468,s "_law_bit" 1469,s "_law_queue" 1470]
noncomputable def o983:Obj:=tp []
noncomputable def o985:Obj:=cc "_law_free" "_law_free" 1464 511 4 3 980 981 .none (r 982) (r 983) 984 1471 1472
noncomputable def o986:Obj:=fo "_law_free" "law_bitrail_k47_whole_stances" 1387 985 (sf p 86)
noncomputable def o987:Obj:=tp []
noncomputable def o989:Obj:=tp [s "_law_now" 1477,s "_law_said" 1478,s "_law_bit" 1479,s "_law_spoke" 1480,s "_law_ahead" 1481,s "_law_rest" 1482,s "_law_one" 1483]
noncomputable def o990:Obj:=tp []
noncomputable def o992:Obj:=cc "_law_wired" "_law_wired" 1474 526 3 3 987 988 .none (r 989) (r 990) 991 1484 1485
noncomputable def o993:Obj:=fo "_law_wired" "law_bitrail_k47_whole_stances" 1387 992 (sf p 87)
noncomputable def o994:Obj:=tp []
noncomputable def o997:Obj:=cc "_law_tailed" "_law_tailed" 1487 553 6 3 994 995 .none .none .none 996 1490 1491
noncomputable def o998:Obj:=fo "_law_tailed" "law_bitrail_k47_whole_stances" 1387 997 (sf p 88)
noncomputable def o999:Obj:=tp []
noncomputable def o1001:Obj:=tp [s "_law_now" 1496,s "_law_bit" 1497,s "_law_blamed" 1498]
noncomputable def o1002:Obj:=tp []
noncomputable def o1004:Obj:=cc "_law_calm" "_law_calm" 1493 574 2 3 999 1000 .none (r 1001) (r 1002) 1003 1499 1500
noncomputable def o1005:Obj:=fo "_law_calm" "law_bitrail_k47_whole_stances" 1387 1004 (sf p 89)
noncomputable def o1006:Obj:=tp []
noncomputable def o1008:Obj:=tp [s "_law_now" 1505,s "_law_said" 1506,s "_law_bit" 1507,s "_law_votes" 1508,s "_law_queue" 1509,s "_law_got" 1510,s "_law_choice" 1511]
noncomputable def o1009:Obj:=tp []
noncomputable def o1011:Obj:=cc "_law_word" "_law_word" 1502 599 7 3 1006 1007 .none (r 1008) (r 1009) 1010 1512 1513
noncomputable def o1012:Obj:=fo "_law_word" "law_bitrail_k47_whole_stances" 1387 1011 (sf p 90)
noncomputable def o1013:Obj:=tp []
noncomputable def o1015:Obj:=tp [s "_law_post" 1518,s "_law_now" 1519,s "_law_said" 1520,s "_law_found" 1521,s "_law_number_here" 1522]
noncomputable def o1016:Obj:=tp []
noncomputable def o1018:Obj:=cc "_law_stands" "_law_stands" 1515 607 3 3 1013 1014 .none (r 1015) (r 1016) 1017 1523 1524
noncomputable def o1019:Obj:=fo "_law_stands" "law_bitrail_k47_whole_stances" 1387 1018 (sf p 91)
noncomputable def o1020:Obj:=tp []
noncomputable def o1022:Obj:=tp [s "_law_post" 1529,s "_law_now" 1530,s "_law_queue" 1531,s "_law_got" 1532]
noncomputable def o1023:Obj:=tp []
noncomputable def o1025:Obj:=cc "_law_looked" "_law_looked" 1526 615 4 3 1020 1021 .none (r 1022) (r 1023) 1024 1533 1534
noncomputable def o1026:Obj:=fo "_law_looked" "law_bitrail_k47_whole_stances" 1387 1025 (sf p 92)
noncomputable def o1027:Obj:=tp []
noncomputable def o1029:Obj:=tp [s "_law_script" 1539,s "_law_k" 1540,s "_law_now" 1541,s "_law_said" 1542,s "_law_other" 1543,s "_law_calm_here" 1544,s "_law_bit" 1545,s "_law_rare" 1546]
noncomputable def o1030:Obj:=tp []
noncomputable def o1032:Obj:=cc "_law_heard" "_law_heard" 1536 619 6 3 1027 1028 .none (r 1029) (r 1030) 1031 1547 1548
noncomputable def o1033:Obj:=fo "_law_heard" "law_bitrail_k47_whole_stances" 1387 1032 (sf p 93)
noncomputable def o1034:Obj:=tp []
noncomputable def o1036:Obj:=tp [s "_law_script" 1553,s "_law_votes" 1554,s "_law_choice" 1555,s "_law_post" 1556,s "_law_others_here" 1557,s "_law_calm_here" 1558,s "_law_now" 1559,s "_law_queue" 1560,s "_law_got" 1561,s "_law_k" 1562,s "_law_later" 1563,s "_law_said" 1564,s "_law_bit" 1565,s "_law_word_here" 1566,s "_law_due" 1567]
noncomputable def o1037:Obj:=tp []
noncomputable def o1039:Obj:=cc "law" "law" 1550 629 1 3 1034 1035 .none (r 1036) (r 1037) 1038 1568 1569
noncomputable def o1040:Obj:=fo "law" "law_bitrail_k47_whole_stances" 1387 1039 (sf p 94)
noncomputable def K (P:Params):Frag:=(nat_lit 2,o2) :: (nat_lit 3,o3 P) :: (nat_lit 15,o15) :: (nat_lit 22,o22) :: (nat_lit 23,o23 P) :: (nat_lit 24,o24) :: (nat_lit 25,o25) :: (nat_lit 28,o28) :: (nat_lit 35,o35) :: (nat_lit 36,o36 P) :: (nat_lit 37,o37) :: (nat_lit 40,o40) :: (nat_lit 47,o47) :: (nat_lit 48,o48 P) :: (nat_lit 49,o49) :: (nat_lit 52,o52) :: (nat_lit 59,o59) :: (nat_lit 60,o60 P) :: (nat_lit 61,o61) :: (nat_lit 64,o64) :: (nat_lit 71,o71) :: (nat_lit 72,o72 P) :: (nat_lit 73,o73) :: (nat_lit 76,o76) :: (nat_lit 79,o79) :: (nat_lit 80,o80) :: (nat_lit 81,o81) :: (nat_lit 83,o83) :: (nat_lit 84,o84) :: (nat_lit 86,o86) :: (nat_lit 87,o87) :: (nat_lit 88,o88) :: (nat_lit 91,o91) :: (nat_lit 92,o92) :: (nat_lit 100,o100) :: (nat_lit 102,o102) :: (nat_lit 103,o103) :: (nat_lit 105,o105) :: (nat_lit 106,o106) :: (nat_lit 107,o107) :: (nat_lit 109,o109) :: (nat_lit 110,o110) :: (nat_lit 112,o112) :: (nat_lit 113,o113) :: (nat_lit 114,o114) :: (nat_lit 116,o116) :: (nat_lit 117,o117) :: (nat_lit 119,o119) :: (nat_lit 120,o120) :: (nat_lit 121,o121) :: (nat_lit 123,o123) :: (nat_lit 124,o124) :: (nat_lit 126,o126) :: (nat_lit 127,o127) :: (nat_lit 128,o128) :: (nat_lit 130,o130) :: (nat_lit 131,o131) :: (nat_lit 133,o133) :: (nat_lit 134,o134) :: (nat_lit 135,o135) :: (nat_lit 137,o137) :: (nat_lit 138,o138) :: (nat_lit 140,o140) :: (nat_lit 141,o141) :: (nat_lit 142,o142) :: (nat_lit 144,o144) :: (nat_lit 145,o145) :: (nat_lit 147,o147) :: (nat_lit 148,o148) :: (nat_lit 149,o149) :: (nat_lit 151,o151) :: (nat_lit 152,o152) :: (nat_lit 154,o154) :: (nat_lit 155,o155) :: (nat_lit 156,o156) :: (nat_lit 157,o157 P) :: (nat_lit 158,o158) :: (nat_lit 159,o159) :: (nat_lit 160,o160) :: (nat_lit 163,o163) :: (nat_lit 165,o165) :: (nat_lit 166,o166) :: (nat_lit 168,o168) :: (nat_lit 169,o169) :: (nat_lit 170,o170) :: (nat_lit 172,o172) :: (nat_lit 173,o173) :: (nat_lit 175,o175) :: (nat_lit 176,o176) :: (nat_lit 177,o177) :: (nat_lit 179,o179) :: (nat_lit 180,o180) :: (nat_lit 182,o182) :: (nat_lit 183,o183) :: (nat_lit 184,o184) :: (nat_lit 186,o186) :: (nat_lit 187,o187) :: (nat_lit 189,o189) :: (nat_lit 190,o190) :: (nat_lit 191,o191) :: (nat_lit 193,o193) :: (nat_lit 194,o194) :: (nat_lit 196,o196) :: (nat_lit 197,o197) :: (nat_lit 205,o205) :: (nat_lit 207,o207) :: (nat_lit 208,o208) :: (nat_lit 210,o210) :: (nat_lit 211,o211) :: (nat_lit 212,o212) :: (nat_lit 214,o214) :: (nat_lit 215,o215) :: (nat_lit 217,o217) :: (nat_lit 218,o218) :: (nat_lit 219,o219) :: (nat_lit 221,o221) :: (nat_lit 222,o222) :: (nat_lit 224,o224) :: (nat_lit 225,o225) :: (nat_lit 226,o226) :: (nat_lit 228,o228) :: (nat_lit 229,o229) :: (nat_lit 231,o231) :: (nat_lit 232,o232) :: (nat_lit 233,o233) :: (nat_lit 234,o234 P) :: (nat_lit 235,o235) :: (nat_lit 236,o236) :: (nat_lit 237,o237) :: (nat_lit 240,o240) :: (nat_lit 242,o242) :: (nat_lit 243,o243) :: (nat_lit 245,o245) :: (nat_lit 246,o246) :: (nat_lit 247,o247) :: (nat_lit 249,o249) :: (nat_lit 250,o250) :: (nat_lit 252,o252) :: (nat_lit 253,o253) :: (nat_lit 254,o254) :: (nat_lit 256,o256) :: (nat_lit 257,o257) :: (nat_lit 259,o259) :: (nat_lit 260,o260) :: (nat_lit 261,o261) :: (nat_lit 263,o263) :: (nat_lit 264,o264) :: (nat_lit 266,o266) :: (nat_lit 267,o267) :: (nat_lit 268,o268) :: (nat_lit 270,o270) :: (nat_lit 271,o271) :: (nat_lit 273,o273) :: (nat_lit 274,o274) :: (nat_lit 275,o275) :: (nat_lit 278,o278) :: (nat_lit 279,o279) :: (nat_lit 280,o280) :: (nat_lit 282,o282) :: (nat_lit 283,o283) :: (nat_lit 285,o285) :: (nat_lit 286,o286) :: (nat_lit 294,o294) :: (nat_lit 296,o296) :: (nat_lit 297,o297) :: (nat_lit 299,o299) :: (nat_lit 300,o300) :: (nat_lit 301,o301) :: (nat_lit 303,o303) :: (nat_lit 304,o304) :: (nat_lit 306,o306) :: (nat_lit 307,o307) :: (nat_lit 308,o308) :: (nat_lit 310,o310) :: (nat_lit 311,o311) :: (nat_lit 313,o313) :: (nat_lit 314,o314) :: (nat_lit 315,o315) :: (nat_lit 317,o317) :: (nat_lit 318,o318) :: (nat_lit 320,o320) :: (nat_lit 321,o321) :: (nat_lit 322,o322) :: (nat_lit 324,o324) :: (nat_lit 325,o325) :: (nat_lit 327,o327) :: (nat_lit 328,o328) :: (nat_lit 329,o329) :: (nat_lit 330,o330 P) :: (nat_lit 331,o331) :: (nat_lit 332,o332) :: (nat_lit 333,o333) :: (nat_lit 343,o343) :: (nat_lit 345,o345) :: (nat_lit 346,o346) :: (nat_lit 348,o348) :: (nat_lit 349,o349) :: (nat_lit 350,o350) :: (nat_lit 352,o352) :: (nat_lit 353,o353) :: (nat_lit 355,o355) :: (nat_lit 356,o356) :: (nat_lit 357,o357) :: (nat_lit 359,o359) :: (nat_lit 360,o360) :: (nat_lit 362,o362) :: (nat_lit 363,o363) :: (nat_lit 364,o364) :: (nat_lit 366,o366) :: (nat_lit 367,o367) :: (nat_lit 369,o369) :: (nat_lit 370,o370) :: (nat_lit 371,o371) :: (nat_lit 373,o373) :: (nat_lit 374,o374) :: (nat_lit 376,o376) :: (nat_lit 377,o377) :: (nat_lit 378,o378) :: (nat_lit 380,o380) :: (nat_lit 381,o381) :: (nat_lit 383,o383) :: (nat_lit 384,o384) :: (nat_lit 385,o385) :: (nat_lit 386,o386 P) :: (nat_lit 387,o387) :: (nat_lit 388,o388) :: (nat_lit 389,o389) :: (nat_lit 392,o392) :: (nat_lit 399,o399) :: (nat_lit 401,o401) :: (nat_lit 402,o402) :: (nat_lit 404,o404) :: (nat_lit 405,o405) :: (nat_lit 406,o406) :: (nat_lit 407,o407 P) :: (nat_lit 408,o408) :: (nat_lit 411,o411) :: (nat_lit 418,o418) :: (nat_lit 420,o420) :: (nat_lit 421,o421) :: (nat_lit 423,o423) :: (nat_lit 424,o424) :: (nat_lit 425,o425) :: (nat_lit 426,o426 P) :: (nat_lit 427,o427) :: (nat_lit 430,o430) :: (nat_lit 432,o432) :: (nat_lit 433,o433) :: (nat_lit 435,o435) :: (nat_lit 436,o436) :: (nat_lit 437,o437) :: (nat_lit 439,o439) :: (nat_lit 440,o440) :: (nat_lit 442,o442) :: (nat_lit 443,o443) :: (nat_lit 444,o444) :: (nat_lit 446,o446) :: (nat_lit 447,o447) :: (nat_lit 449,o449) :: (nat_lit 450,o450) :: (nat_lit 451,o451) :: (nat_lit 453,o453) :: (nat_lit 454,o454) :: (nat_lit 456,o456) :: (nat_lit 457,o457) :: (nat_lit 458,o458) :: (nat_lit 460,o460) :: (nat_lit 461,o461) :: (nat_lit 463,o463) :: (nat_lit 464,o464) :: (nat_lit 472,o472) :: (nat_lit 474,o474) :: (nat_lit 475,o475) :: (nat_lit 477,o477) :: (nat_lit 478,o478) :: (nat_lit 479,o479) :: (nat_lit 481,o481) :: (nat_lit 482,o482) :: (nat_lit 484,o484) :: (nat_lit 485,o485) :: (nat_lit 486,o486) :: (nat_lit 488,o488) :: (nat_lit 489,o489) :: (nat_lit 491,o491) :: (nat_lit 492,o492) :: (nat_lit 493,o493) :: (nat_lit 495,o495) :: (nat_lit 496,o496) :: (nat_lit 498,o498) :: (nat_lit 499,o499) :: (nat_lit 500,o500) :: (nat_lit 501,o501 P) :: (nat_lit 502,o502) :: (nat_lit 503,o503) :: (nat_lit 504,o504) :: (nat_lit 514,o514) :: (nat_lit 516,o516) :: (nat_lit 517,o517) :: (nat_lit 519,o519) :: (nat_lit 520,o520) :: (nat_lit 521,o521) :: (nat_lit 523,o523) :: (nat_lit 524,o524) :: (nat_lit 526,o526) :: (nat_lit 527,o527) :: (nat_lit 528,o528) :: (nat_lit 530,o530) :: (nat_lit 531,o531) :: (nat_lit 533,o533) :: (nat_lit 534,o534) :: (nat_lit 535,o535) :: (nat_lit 537,o537) :: (nat_lit 538,o538) :: (nat_lit 540,o540) :: (nat_lit 541,o541) :: (nat_lit 542,o542) :: (nat_lit 543,o543 P) :: (nat_lit 544,o544) :: (nat_lit 545,o545) :: (nat_lit 546,o546) :: (nat_lit 556,o556) :: (nat_lit 558,o558) :: (nat_lit 559,o559) :: (nat_lit 561,o561) :: (nat_lit 562,o562) :: (nat_lit 563,o563) :: (nat_lit 565,o565) :: (nat_lit 566,o566) :: (nat_lit 568,o568) :: (nat_lit 569,o569) :: (nat_lit 570,o570) :: (nat_lit 572,o572) :: (nat_lit 573,o573) :: (nat_lit 575,o575) :: (nat_lit 576,o576) :: (nat_lit 577,o577) :: (nat_lit 579,o579) :: (nat_lit 580,o580) :: (nat_lit 582,o582) :: (nat_lit 583,o583) :: (nat_lit 584,o584) :: (nat_lit 585,o585 P) :: (nat_lit 586,o586) :: (nat_lit 587,o587) :: (nat_lit 588,o588) :: (nat_lit 598,o598) :: (nat_lit 600,o600) :: (nat_lit 601,o601) :: (nat_lit 603,o603) :: (nat_lit 604,o604) :: (nat_lit 605,o605) :: (nat_lit 607,o607) :: (nat_lit 608,o608) :: (nat_lit 610,o610) :: (nat_lit 611,o611) :: (nat_lit 612,o612) :: (nat_lit 614,o614) :: (nat_lit 615,o615) :: (nat_lit 617,o617) :: (nat_lit 618,o618) :: (nat_lit 619,o619) :: (nat_lit 621,o621) :: (nat_lit 622,o622) :: (nat_lit 624,o624) :: (nat_lit 625,o625) :: (nat_lit 626,o626) :: (nat_lit 627,o627 P) :: (nat_lit 628,o628) :: (nat_lit 629,o629) :: (nat_lit 630,o630) :: (nat_lit 640,o640) :: (nat_lit 642,o642) :: (nat_lit 643,o643) :: (nat_lit 645,o645) :: (nat_lit 646,o646) :: (nat_lit 647,o647) :: (nat_lit 649,o649) :: (nat_lit 650,o650) :: (nat_lit 652,o652) :: (nat_lit 653,o653) :: (nat_lit 654,o654) :: (nat_lit 656,o656) :: (nat_lit 657,o657) :: (nat_lit 659,o659) :: (nat_lit 660,o660) :: (nat_lit 661,o661) :: (nat_lit 663,o663) :: (nat_lit 664,o664) :: (nat_lit 666,o666) :: (nat_lit 667,o667) :: (nat_lit 668,o668) :: (nat_lit 669,o669 P) :: (nat_lit 670,o670) :: (nat_lit 671,o671) :: (nat_lit 672,o672) :: (nat_lit 682,o682) :: (nat_lit 684,o684) :: (nat_lit 685,o685) :: (nat_lit 687,o687) :: (nat_lit 688,o688) :: (nat_lit 689,o689) :: (nat_lit 691,o691) :: (nat_lit 692,o692) :: (nat_lit 694,o694) :: (nat_lit 695,o695) :: (nat_lit 696,o696) :: (nat_lit 698,o698) :: (nat_lit 699,o699) :: (nat_lit 701,o701) :: (nat_lit 702,o702) :: (nat_lit 703,o703) :: (nat_lit 705,o705) :: (nat_lit 706,o706) :: (nat_lit 708,o708) :: (nat_lit 709,o709) :: (nat_lit 710,o710) :: (nat_lit 711,o711 P) :: (nat_lit 712,o712) :: (nat_lit 713,o713) :: (nat_lit 714,o714) :: (nat_lit 724,o724) :: (nat_lit 726,o726) :: (nat_lit 727,o727) :: (nat_lit 729,o729) :: (nat_lit 730,o730) :: (nat_lit 731,o731) :: (nat_lit 733,o733) :: (nat_lit 734,o734) :: (nat_lit 736,o736) :: (nat_lit 737,o737) :: (nat_lit 738,o738) :: (nat_lit 740,o740) :: (nat_lit 741,o741) :: (nat_lit 743,o743) :: (nat_lit 744,o744) :: (nat_lit 745,o745) :: (nat_lit 747,o747) :: (nat_lit 748,o748) :: (nat_lit 750,o750) :: (nat_lit 751,o751) :: (nat_lit 752,o752) :: (nat_lit 753,o753 P) :: (nat_lit 754,o754) :: (nat_lit 755,o755) :: (nat_lit 756,o756) :: (nat_lit 766,o766) :: (nat_lit 768,o768) :: (nat_lit 769,o769) :: (nat_lit 771,o771) :: (nat_lit 772,o772) :: (nat_lit 773,o773) :: (nat_lit 775,o775) :: (nat_lit 776,o776) :: (nat_lit 778,o778) :: (nat_lit 779,o779) :: (nat_lit 780,o780) :: (nat_lit 782,o782) :: (nat_lit 783,o783) :: (nat_lit 785,o785) :: (nat_lit 786,o786) :: (nat_lit 787,o787) :: (nat_lit 788,o788 P) :: (nat_lit 789,o789) :: (nat_lit 790,o790) :: (nat_lit 791,o791) :: (nat_lit 794,o794) :: (nat_lit 795,o795) :: (nat_lit 797,o797) :: (nat_lit 798,o798) :: (nat_lit 800,o800) :: (nat_lit 801,o801) :: (nat_lit 802,o802) :: (nat_lit 804,o804) :: (nat_lit 805,o805) :: (nat_lit 807,o807) :: (nat_lit 808,o808) :: (nat_lit 809,o809) :: (nat_lit 812,o812) :: (nat_lit 813,o813) :: (nat_lit 821,o821) :: (nat_lit 823,o823) :: (nat_lit 824,o824) :: (nat_lit 826,o826) :: (nat_lit 827,o827) :: (nat_lit 828,o828) :: (nat_lit 830,o830) :: (nat_lit 831,o831) :: (nat_lit 833,o833) :: (nat_lit 834,o834) :: (nat_lit 835,o835) :: (nat_lit 837,o837) :: (nat_lit 838,o838) :: (nat_lit 840,o840) :: (nat_lit 841,o841) :: (nat_lit 842,o842) :: (nat_lit 844,o844) :: (nat_lit 845,o845) :: (nat_lit 847,o847) :: (nat_lit 848,o848) :: (nat_lit 849,o849) :: (nat_lit 851,o851) :: (nat_lit 852,o852) :: (nat_lit 854,o854) :: (nat_lit 855,o855) :: (nat_lit 856,o856) :: (nat_lit 858,o858) :: (nat_lit 859,o859) :: (nat_lit 861,o861) :: (nat_lit 862,o862) :: (nat_lit 863,o863) :: (nat_lit 865,o865) :: (nat_lit 866,o866) :: (nat_lit 868,o868) :: (nat_lit 869,o869) :: (nat_lit 870,o870) :: (nat_lit 872,o872) :: (nat_lit 873,o873) :: (nat_lit 875,o875) :: (nat_lit 876,o876) :: (nat_lit 877,o877) :: (nat_lit 879,o879) :: (nat_lit 880,o880) :: (nat_lit 882,o882) :: (nat_lit 883,o883) :: (nat_lit 884,o884) :: (nat_lit 886,o886) :: (nat_lit 887,o887) :: (nat_lit 889,o889) :: (nat_lit 890,o890) :: (nat_lit 891,o891) :: (nat_lit 893,o893) :: (nat_lit 894,o894) :: (nat_lit 896,o896) :: (nat_lit 897,o897) :: (nat_lit 898,o898) :: (nat_lit 900,o900) :: (nat_lit 901,o901) :: (nat_lit 903,o903) :: (nat_lit 904,o904) :: (nat_lit 905,o905) :: (nat_lit 907,o907) :: (nat_lit 908,o908) :: (nat_lit 910,o910) :: (nat_lit 911,o911) :: (nat_lit 912,o912) :: (nat_lit 914,o914) :: (nat_lit 915,o915) :: (nat_lit 917,o917) :: (nat_lit 918,o918) :: (nat_lit 919,o919) :: (nat_lit 920,o920 P) :: (nat_lit 921,o921) :: (nat_lit 922,o922) :: (nat_lit 923,o923) :: (nat_lit 926,o926) :: (nat_lit 928,o928) :: (nat_lit 929,o929) :: (nat_lit 931,o931) :: (nat_lit 932,o932) :: (nat_lit 933,o933) :: (nat_lit 936,o936) :: (nat_lit 937,o937) :: (nat_lit 938,o938) :: (nat_lit 940,o940) :: (nat_lit 941,o941) :: (nat_lit 943,o943) :: (nat_lit 944,o944) :: (nat_lit 945,o945) :: (nat_lit 947,o947) :: (nat_lit 948,o948) :: (nat_lit 950,o950) :: (nat_lit 951,o951) :: (nat_lit 952,o952) :: (nat_lit 954,o954) :: (nat_lit 955,o955) :: (nat_lit 957,o957) :: (nat_lit 958,o958) :: (nat_lit 959,o959) :: (nat_lit 961,o961) :: (nat_lit 962,o962) :: (nat_lit 964,o964) :: (nat_lit 965,o965) :: (nat_lit 966,o966) :: (nat_lit 968,o968) :: (nat_lit 969,o969) :: (nat_lit 971,o971) :: (nat_lit 972,o972) :: (nat_lit 973,o973) :: (nat_lit 975,o975) :: (nat_lit 976,o976) :: (nat_lit 978,o978) :: (nat_lit 979,o979) :: (nat_lit 980,o980) :: (nat_lit 982,o982) :: (nat_lit 983,o983) :: (nat_lit 985,o985) :: (nat_lit 986,o986) :: (nat_lit 987,o987) :: (nat_lit 989,o989) :: (nat_lit 990,o990) :: (nat_lit 992,o992) :: (nat_lit 993,o993) :: (nat_lit 994,o994) :: (nat_lit 997,o997) :: (nat_lit 998,o998) :: (nat_lit 999,o999) :: (nat_lit 1001,o1001) :: (nat_lit 1002,o1002) :: (nat_lit 1004,o1004) :: (nat_lit 1005,o1005) :: (nat_lit 1006,o1006) :: (nat_lit 1008,o1008) :: (nat_lit 1009,o1009) :: (nat_lit 1011,o1011) :: (nat_lit 1012,o1012) :: (nat_lit 1013,o1013) :: (nat_lit 1015,o1015) :: (nat_lit 1016,o1016) :: (nat_lit 1018,o1018) :: (nat_lit 1019,o1019) :: (nat_lit 1020,o1020) :: (nat_lit 1022,o1022) :: (nat_lit 1023,o1023) :: (nat_lit 1025,o1025) :: (nat_lit 1026,o1026) :: (nat_lit 1027,o1027) :: (nat_lit 1029,o1029) :: (nat_lit 1030,o1030) :: (nat_lit 1032,o1032) :: (nat_lit 1033,o1033) :: (nat_lit 1034,o1034) :: (nat_lit 1036,o1036) :: (nat_lit 1037,o1037) :: (nat_lit 1039,o1039) :: (nat_lit 1040,o1040) :: []
noncomputable def as:List Addr:=2 :: 3 :: 15 :: 22 :: 23 :: 24 :: 25 :: 28 :: 35 :: 36 :: 37 :: 40 :: 47 :: 48 :: 49 :: 52 :: 59 :: 60 :: 61 :: 64 :: 71 :: 72 :: 73 :: 76 :: 79 :: 80 :: 81 :: 83 :: 84 :: 86 :: 87 :: 88 :: 91 :: 92 :: 100 :: 102 :: 103 :: 105 :: 106 :: 107 :: 109 :: 110 :: 112 :: 113 :: 114 :: 116 :: 117 :: 119 :: 120 :: 121 :: 123 :: 124 :: 126 :: 127 :: 128 :: 130 :: 131 :: 133 :: 134 :: 135 :: 137 :: 138 :: 140 :: 141 :: 142 :: 144 :: 145 :: 147 :: 148 :: 149 :: 151 :: 152 :: 154 :: 155 :: 156 :: 157 :: 158 :: 159 :: 160 :: 163 :: 165 :: 166 :: 168 :: 169 :: 170 :: 172 :: 173 :: 175 :: 176 :: 177 :: 179 :: 180 :: 182 :: 183 :: 184 :: 186 :: 187 :: 189 :: 190 :: 191 :: 193 :: 194 :: 196 :: 197 :: 205 :: 207 :: 208 :: 210 :: 211 :: 212 :: 214 :: 215 :: 217 :: 218 :: 219 :: 221 :: 222 :: 224 :: 225 :: 226 :: 228 :: 229 :: 231 :: 232 :: 233 :: 234 :: 235 :: 236 :: 237 :: 240 :: 242 :: 243 :: 245 :: 246 :: 247 :: 249 :: 250 :: 252 :: 253 :: 254 :: 256 :: 257 :: 259 :: 260 :: 261 :: 263 :: 264 :: 266 :: 267 :: 268 :: 270 :: 271 :: 273 :: 274 :: 275 :: 278 :: 279 :: 280 :: 282 :: 283 :: 285 :: 286 :: 294 :: 296 :: 297 :: 299 :: 300 :: 301 :: 303 :: 304 :: 306 :: 307 :: 308 :: 310 :: 311 :: 313 :: 314 :: 315 :: 317 :: 318 :: 320 :: 321 :: 322 :: 324 :: 325 :: 327 :: 328 :: 329 :: 330 :: 331 :: 332 :: 333 :: 343 :: 345 :: 346 :: 348 :: 349 :: 350 :: 352 :: 353 :: 355 :: 356 :: 357 :: 359 :: 360 :: 362 :: 363 :: 364 :: 366 :: 367 :: 369 :: 370 :: 371 :: 373 :: 374 :: 376 :: 377 :: 378 :: 380 :: 381 :: 383 :: 384 :: 385 :: 386 :: 387 :: 388 :: 389 :: 392 :: 399 :: 401 :: 402 :: 404 :: 405 :: 406 :: 407 :: 408 :: 411 :: 418 :: 420 :: 421 :: 423 :: 424 :: 425 :: 426 :: 427 :: 430 :: 432 :: 433 :: 435 :: 436 :: 437 :: 439 :: 440 :: 442 :: 443 :: 444 :: 446 :: 447 :: 449 :: 450 :: 451 :: 453 :: 454 :: 456 :: 457 :: 458 :: 460 :: 461 :: 463 :: 464 :: 472 :: 474 :: 475 :: 477 :: 478 :: 479 :: 481 :: 482 :: 484 :: 485 :: 486 :: 488 :: 489 :: 491 :: 492 :: 493 :: 495 :: 496 :: 498 :: 499 :: 500 :: 501 :: 502 :: 503 :: 504 :: 514 :: 516 :: 517 :: 519 :: 520 :: 521 :: 523 :: 524 :: 526 :: 527 :: 528 :: 530 :: 531 :: 533 :: 534 :: 535 :: 537 :: 538 :: 540 :: 541 :: 542 :: 543 :: 544 :: 545 :: 546 :: 556 :: 558 :: 559 :: 561 :: 562 :: 563 :: 565 :: 566 :: 568 :: 569 :: 570 :: 572 :: 573 :: 575 :: 576 :: 577 :: 579 :: 580 :: 582 :: 583 :: 584 :: 585 :: 586 :: 587 :: 588 :: 598 :: 600 :: 601 :: 603 :: 604 :: 605 :: 607 :: 608 :: 610 :: 611 :: 612 :: 614 :: 615 :: 617 :: 618 :: 619 :: 621 :: 622 :: 624 :: 625 :: 626 :: 627 :: 628 :: 629 :: 630 :: 640 :: 642 :: 643 :: 645 :: 646 :: 647 :: 649 :: 650 :: 652 :: 653 :: 654 :: 656 :: 657 :: 659 :: 660 :: 661 :: 663 :: 664 :: 666 :: 667 :: 668 :: 669 :: 670 :: 671 :: 672 :: 682 :: 684 :: 685 :: 687 :: 688 :: 689 :: 691 :: 692 :: 694 :: 695 :: 696 :: 698 :: 699 :: 701 :: 702 :: 703 :: 705 :: 706 :: 708 :: 709 :: 710 :: 711 :: 712 :: 713 :: 714 :: 724 :: 726 :: 727 :: 729 :: 730 :: 731 :: 733 :: 734 :: 736 :: 737 :: 738 :: 740 :: 741 :: 743 :: 744 :: 745 :: 747 :: 748 :: 750 :: 751 :: 752 :: 753 :: 754 :: 755 :: 756 :: 766 :: 768 :: 769 :: 771 :: 772 :: 773 :: 775 :: 776 :: 778 :: 779 :: 780 :: 782 :: 783 :: 785 :: 786 :: 787 :: 788 :: 789 :: 790 :: 791 :: 794 :: 795 :: 797 :: 798 :: 800 :: 801 :: 802 :: 804 :: 805 :: 807 :: 808 :: 809 :: 812 :: 813 :: 821 :: 823 :: 824 :: 826 :: 827 :: 828 :: 830 :: 831 :: 833 :: 834 :: 835 :: 837 :: 838 :: 840 :: 841 :: 842 :: 844 :: 845 :: 847 :: 848 :: 849 :: 851 :: 852 :: 854 :: 855 :: 856 :: 858 :: 859 :: 861 :: 862 :: 863 :: 865 :: 866 :: 868 :: 869 :: 870 :: 872 :: 873 :: 875 :: 876 :: 877 :: 879 :: 880 :: 882 :: 883 :: 884 :: 886 :: 887 :: 889 :: 890 :: 891 :: 893 :: 894 :: 896 :: 897 :: 898 :: 900 :: 901 :: 903 :: 904 :: 905 :: 907 :: 908 :: 910 :: 911 :: 912 :: 914 :: 915 :: 917 :: 918 :: 919 :: 920 :: 921 :: 922 :: 923 :: 926 :: 928 :: 929 :: 931 :: 932 :: 933 :: 936 :: 937 :: 938 :: 940 :: 941 :: 943 :: 944 :: 945 :: 947 :: 948 :: 950 :: 951 :: 952 :: 954 :: 955 :: 957 :: 958 :: 959 :: 961 :: 962 :: 964 :: 965 :: 966 :: 968 :: 969 :: 971 :: 972 :: 973 :: 975 :: 976 :: 978 :: 979 :: 980 :: 982 :: 983 :: 985 :: 986 :: 987 :: 989 :: 990 :: 992 :: 993 :: 994 :: 997 :: 998 :: 999 :: 1001 :: 1002 :: 1004 :: 1005 :: 1006 :: 1008 :: 1009 :: 1011 :: 1012 :: 1013 :: 1015 :: 1016 :: 1018 :: 1019 :: 1020 :: 1022 :: 1023 :: 1025 :: 1026 :: 1027 :: 1029 :: 1030 :: 1032 :: 1033 :: 1034 :: 1036 :: 1037 :: 1039 :: 1040 :: []
noncomputable def g0 (P:Params):List (Nat×Obj):=(2,o2) :: (3,o3 P) :: (15,o15) :: (22,o22) :: (23,o23 P) :: (24,o24) :: (25,o25) :: (28,o28) :: (35,o35) :: (36,o36 P) :: (37,o37) :: (40,o40) :: (47,o47) :: (48,o48 P) :: (49,o49) :: (52,o52) :: []
noncomputable def g1 (P:Params):List (Nat×Obj):=(59,o59) :: (60,o60 P) :: (61,o61) :: (64,o64) :: (71,o71) :: (72,o72 P) :: (73,o73) :: (76,o76) :: (79,o79) :: (80,o80) :: (81,o81) :: (83,o83) :: (84,o84) :: (86,o86) :: (87,o87) :: (88,o88) :: []
noncomputable def g2 (P:Params):List (Nat×Obj):=(91,o91) :: (92,o92) :: (100,o100) :: (102,o102) :: (103,o103) :: (105,o105) :: (106,o106) :: (107,o107) :: (109,o109) :: (110,o110) :: (112,o112) :: (113,o113) :: (114,o114) :: (116,o116) :: (117,o117) :: (119,o119) :: []
noncomputable def g3 (P:Params):List (Nat×Obj):=(120,o120) :: (121,o121) :: (123,o123) :: (124,o124) :: (126,o126) :: (127,o127) :: (128,o128) :: (130,o130) :: (131,o131) :: (133,o133) :: (134,o134) :: (135,o135) :: (137,o137) :: (138,o138) :: (140,o140) :: (141,o141) :: []
noncomputable def g4 (P:Params):List (Nat×Obj):=(142,o142) :: (144,o144) :: (145,o145) :: (147,o147) :: (148,o148) :: (149,o149) :: (151,o151) :: (152,o152) :: (154,o154) :: (155,o155) :: (156,o156) :: (157,o157 P) :: (158,o158) :: (159,o159) :: (160,o160) :: (163,o163) :: []
noncomputable def g5 (P:Params):List (Nat×Obj):=(165,o165) :: (166,o166) :: (168,o168) :: (169,o169) :: (170,o170) :: (172,o172) :: (173,o173) :: (175,o175) :: (176,o176) :: (177,o177) :: (179,o179) :: (180,o180) :: (182,o182) :: (183,o183) :: (184,o184) :: (186,o186) :: []
noncomputable def g6 (P:Params):List (Nat×Obj):=(187,o187) :: (189,o189) :: (190,o190) :: (191,o191) :: (193,o193) :: (194,o194) :: (196,o196) :: (197,o197) :: (205,o205) :: (207,o207) :: (208,o208) :: (210,o210) :: (211,o211) :: (212,o212) :: (214,o214) :: (215,o215) :: []
noncomputable def g7 (P:Params):List (Nat×Obj):=(217,o217) :: (218,o218) :: (219,o219) :: (221,o221) :: (222,o222) :: (224,o224) :: (225,o225) :: (226,o226) :: (228,o228) :: (229,o229) :: (231,o231) :: (232,o232) :: (233,o233) :: (234,o234 P) :: (235,o235) :: (236,o236) :: []
noncomputable def g8 (P:Params):List (Nat×Obj):=(237,o237) :: (240,o240) :: (242,o242) :: (243,o243) :: (245,o245) :: (246,o246) :: (247,o247) :: (249,o249) :: (250,o250) :: (252,o252) :: (253,o253) :: (254,o254) :: (256,o256) :: (257,o257) :: (259,o259) :: (260,o260) :: []
noncomputable def g9 (P:Params):List (Nat×Obj):=(261,o261) :: (263,o263) :: (264,o264) :: (266,o266) :: (267,o267) :: (268,o268) :: (270,o270) :: (271,o271) :: (273,o273) :: (274,o274) :: (275,o275) :: (278,o278) :: (279,o279) :: (280,o280) :: (282,o282) :: (283,o283) :: []
noncomputable def g10 (P:Params):List (Nat×Obj):=(285,o285) :: (286,o286) :: (294,o294) :: (296,o296) :: (297,o297) :: (299,o299) :: (300,o300) :: (301,o301) :: (303,o303) :: (304,o304) :: (306,o306) :: (307,o307) :: (308,o308) :: (310,o310) :: (311,o311) :: (313,o313) :: []
noncomputable def g11 (P:Params):List (Nat×Obj):=(314,o314) :: (315,o315) :: (317,o317) :: (318,o318) :: (320,o320) :: (321,o321) :: (322,o322) :: (324,o324) :: (325,o325) :: (327,o327) :: (328,o328) :: (329,o329) :: (330,o330 P) :: (331,o331) :: (332,o332) :: (333,o333) :: []
noncomputable def g12 (P:Params):List (Nat×Obj):=(343,o343) :: (345,o345) :: (346,o346) :: (348,o348) :: (349,o349) :: (350,o350) :: (352,o352) :: (353,o353) :: (355,o355) :: (356,o356) :: (357,o357) :: (359,o359) :: (360,o360) :: (362,o362) :: (363,o363) :: (364,o364) :: []
noncomputable def g13 (P:Params):List (Nat×Obj):=(366,o366) :: (367,o367) :: (369,o369) :: (370,o370) :: (371,o371) :: (373,o373) :: (374,o374) :: (376,o376) :: (377,o377) :: (378,o378) :: (380,o380) :: (381,o381) :: (383,o383) :: (384,o384) :: (385,o385) :: (386,o386 P) :: []
noncomputable def g14 (P:Params):List (Nat×Obj):=(387,o387) :: (388,o388) :: (389,o389) :: (392,o392) :: (399,o399) :: (401,o401) :: (402,o402) :: (404,o404) :: (405,o405) :: (406,o406) :: (407,o407 P) :: (408,o408) :: (411,o411) :: (418,o418) :: (420,o420) :: (421,o421) :: []
noncomputable def g15 (P:Params):List (Nat×Obj):=(423,o423) :: (424,o424) :: (425,o425) :: (426,o426 P) :: (427,o427) :: (430,o430) :: (432,o432) :: (433,o433) :: (435,o435) :: (436,o436) :: (437,o437) :: (439,o439) :: (440,o440) :: (442,o442) :: (443,o443) :: (444,o444) :: []
noncomputable def g16 (P:Params):List (Nat×Obj):=(446,o446) :: (447,o447) :: (449,o449) :: (450,o450) :: (451,o451) :: (453,o453) :: (454,o454) :: (456,o456) :: (457,o457) :: (458,o458) :: (460,o460) :: (461,o461) :: (463,o463) :: (464,o464) :: (472,o472) :: (474,o474) :: []
noncomputable def g17 (P:Params):List (Nat×Obj):=(475,o475) :: (477,o477) :: (478,o478) :: (479,o479) :: (481,o481) :: (482,o482) :: (484,o484) :: (485,o485) :: (486,o486) :: (488,o488) :: (489,o489) :: (491,o491) :: (492,o492) :: (493,o493) :: (495,o495) :: (496,o496) :: []
noncomputable def g18 (P:Params):List (Nat×Obj):=(498,o498) :: (499,o499) :: (500,o500) :: (501,o501 P) :: (502,o502) :: (503,o503) :: (504,o504) :: (514,o514) :: (516,o516) :: (517,o517) :: (519,o519) :: (520,o520) :: (521,o521) :: (523,o523) :: (524,o524) :: (526,o526) :: []
noncomputable def g19 (P:Params):List (Nat×Obj):=(527,o527) :: (528,o528) :: (530,o530) :: (531,o531) :: (533,o533) :: (534,o534) :: (535,o535) :: (537,o537) :: (538,o538) :: (540,o540) :: (541,o541) :: (542,o542) :: (543,o543 P) :: (544,o544) :: (545,o545) :: (546,o546) :: []
noncomputable def g20 (P:Params):List (Nat×Obj):=(556,o556) :: (558,o558) :: (559,o559) :: (561,o561) :: (562,o562) :: (563,o563) :: (565,o565) :: (566,o566) :: (568,o568) :: (569,o569) :: (570,o570) :: (572,o572) :: (573,o573) :: (575,o575) :: (576,o576) :: (577,o577) :: []
noncomputable def g21 (P:Params):List (Nat×Obj):=(579,o579) :: (580,o580) :: (582,o582) :: (583,o583) :: (584,o584) :: (585,o585 P) :: (586,o586) :: (587,o587) :: (588,o588) :: (598,o598) :: (600,o600) :: (601,o601) :: (603,o603) :: (604,o604) :: (605,o605) :: (607,o607) :: []
noncomputable def g22 (P:Params):List (Nat×Obj):=(608,o608) :: (610,o610) :: (611,o611) :: (612,o612) :: (614,o614) :: (615,o615) :: (617,o617) :: (618,o618) :: (619,o619) :: (621,o621) :: (622,o622) :: (624,o624) :: (625,o625) :: (626,o626) :: (627,o627 P) :: (628,o628) :: []
noncomputable def g23 (P:Params):List (Nat×Obj):=(629,o629) :: (630,o630) :: (640,o640) :: (642,o642) :: (643,o643) :: (645,o645) :: (646,o646) :: (647,o647) :: (649,o649) :: (650,o650) :: (652,o652) :: (653,o653) :: (654,o654) :: (656,o656) :: (657,o657) :: (659,o659) :: []
noncomputable def g24 (P:Params):List (Nat×Obj):=(660,o660) :: (661,o661) :: (663,o663) :: (664,o664) :: (666,o666) :: (667,o667) :: (668,o668) :: (669,o669 P) :: (670,o670) :: (671,o671) :: (672,o672) :: (682,o682) :: (684,o684) :: (685,o685) :: (687,o687) :: (688,o688) :: []
noncomputable def g25 (P:Params):List (Nat×Obj):=(689,o689) :: (691,o691) :: (692,o692) :: (694,o694) :: (695,o695) :: (696,o696) :: (698,o698) :: (699,o699) :: (701,o701) :: (702,o702) :: (703,o703) :: (705,o705) :: (706,o706) :: (708,o708) :: (709,o709) :: (710,o710) :: []
noncomputable def g26 (P:Params):List (Nat×Obj):=(711,o711 P) :: (712,o712) :: (713,o713) :: (714,o714) :: (724,o724) :: (726,o726) :: (727,o727) :: (729,o729) :: (730,o730) :: (731,o731) :: (733,o733) :: (734,o734) :: (736,o736) :: (737,o737) :: (738,o738) :: (740,o740) :: []
noncomputable def g27 (P:Params):List (Nat×Obj):=(741,o741) :: (743,o743) :: (744,o744) :: (745,o745) :: (747,o747) :: (748,o748) :: (750,o750) :: (751,o751) :: (752,o752) :: (753,o753 P) :: (754,o754) :: (755,o755) :: (756,o756) :: (766,o766) :: (768,o768) :: (769,o769) :: []
noncomputable def g28 (P:Params):List (Nat×Obj):=(771,o771) :: (772,o772) :: (773,o773) :: (775,o775) :: (776,o776) :: (778,o778) :: (779,o779) :: (780,o780) :: (782,o782) :: (783,o783) :: (785,o785) :: (786,o786) :: (787,o787) :: (788,o788 P) :: (789,o789) :: (790,o790) :: []
noncomputable def g29 (P:Params):List (Nat×Obj):=(791,o791) :: (794,o794) :: (795,o795) :: (797,o797) :: (798,o798) :: (800,o800) :: (801,o801) :: (802,o802) :: (804,o804) :: (805,o805) :: (807,o807) :: (808,o808) :: (809,o809) :: (812,o812) :: (813,o813) :: (821,o821) :: []
noncomputable def g30 (P:Params):List (Nat×Obj):=(823,o823) :: (824,o824) :: (826,o826) :: (827,o827) :: (828,o828) :: (830,o830) :: (831,o831) :: (833,o833) :: (834,o834) :: (835,o835) :: (837,o837) :: (838,o838) :: (840,o840) :: (841,o841) :: (842,o842) :: (844,o844) :: []
noncomputable def g31 (P:Params):List (Nat×Obj):=(845,o845) :: (847,o847) :: (848,o848) :: (849,o849) :: (851,o851) :: (852,o852) :: (854,o854) :: (855,o855) :: (856,o856) :: (858,o858) :: (859,o859) :: (861,o861) :: (862,o862) :: (863,o863) :: (865,o865) :: (866,o866) :: []
noncomputable def g32 (P:Params):List (Nat×Obj):=(868,o868) :: (869,o869) :: (870,o870) :: (872,o872) :: (873,o873) :: (875,o875) :: (876,o876) :: (877,o877) :: (879,o879) :: (880,o880) :: (882,o882) :: (883,o883) :: (884,o884) :: (886,o886) :: (887,o887) :: (889,o889) :: []
noncomputable def g33 (P:Params):List (Nat×Obj):=(890,o890) :: (891,o891) :: (893,o893) :: (894,o894) :: (896,o896) :: (897,o897) :: (898,o898) :: (900,o900) :: (901,o901) :: (903,o903) :: (904,o904) :: (905,o905) :: (907,o907) :: (908,o908) :: (910,o910) :: (911,o911) :: []
noncomputable def g34 (P:Params):List (Nat×Obj):=(912,o912) :: (914,o914) :: (915,o915) :: (917,o917) :: (918,o918) :: (919,o919) :: (920,o920 P) :: (921,o921) :: (922,o922) :: (923,o923) :: (926,o926) :: (928,o928) :: (929,o929) :: (931,o931) :: (932,o932) :: (933,o933) :: []
noncomputable def g35 (P:Params):List (Nat×Obj):=(936,o936) :: (937,o937) :: (938,o938) :: (940,o940) :: (941,o941) :: (943,o943) :: (944,o944) :: (945,o945) :: (947,o947) :: (948,o948) :: (950,o950) :: (951,o951) :: (952,o952) :: (954,o954) :: (955,o955) :: (957,o957) :: []
noncomputable def g36 (P:Params):List (Nat×Obj):=(958,o958) :: (959,o959) :: (961,o961) :: (962,o962) :: (964,o964) :: (965,o965) :: (966,o966) :: (968,o968) :: (969,o969) :: (971,o971) :: (972,o972) :: (973,o973) :: (975,o975) :: (976,o976) :: (978,o978) :: (979,o979) :: []
noncomputable def g37 (P:Params):List (Nat×Obj):=(980,o980) :: (982,o982) :: (983,o983) :: (985,o985) :: (986,o986) :: (987,o987) :: (989,o989) :: (990,o990) :: (992,o992) :: (993,o993) :: (994,o994) :: (997,o997) :: (998,o998) :: (999,o999) :: (1001,o1001) :: (1002,o1002) :: []
noncomputable def g38 (P:Params):List (Nat×Obj):=(1004,o1004) :: (1005,o1005) :: (1006,o1006) :: (1008,o1008) :: (1009,o1009) :: (1011,o1011) :: (1012,o1012) :: (1013,o1013) :: (1015,o1015) :: (1016,o1016) :: (1018,o1018) :: (1019,o1019) :: (1020,o1020) :: (1022,o1022) :: (1023,o1023) :: (1025,o1025) :: []
noncomputable def g39 (P:Params):List (Nat×Obj):=(1026,o1026) :: (1027,o1027) :: (1029,o1029) :: (1030,o1030) :: (1032,o1032) :: (1033,o1033) :: (1034,o1034) :: (1036,o1036) :: (1037,o1037) :: (1039,o1039) :: (1040,o1040) :: []
noncomputable def L (P:Params):List (Nat×Obj):=g0 P ++ (g1 P ++ (g2 P ++ (g3 P ++ (g4 P ++ (g5 P ++ (g6 P ++ (g7 P ++ (g8 P ++ (g9 P ++ (g10 P ++ (g11 P ++ (g12 P ++ (g13 P ++ (g14 P ++ (g15 P ++ (g16 P ++ (g17 P ++ (g18 P ++ (g19 P ++ (g20 P ++ (g21 P ++ (g22 P ++ (g23 P ++ (g24 P ++ (g25 P ++ (g26 P ++ (g27 P ++ (g28 P ++ (g29 P ++ (g30 P ++ (g31 P ++ (g32 P ++ (g33 P ++ (g34 P ++ (g35 P ++ (g36 P ++ (g37 P ++ (g38 P ++ (g39 P)))))))))))))))))))))))))))))))))))))))
theorem K_L (P:Params):K P = L P:=by kernel_rfl
theorem K_as (P:Params):as = (K P).map (·.1):=by kernel_rfl
def qv:Program:=view p [94]
def loose:List Str:="RailError" :: "NoBits" :: "NoKey" :: "NoFrame" :: "NoPost" :: "HIGHEST_BYTE" :: "bits_of" :: "number_of" :: "are_bytes" :: "GREAT_FAULT" :: "SMALL_FAULT" :: "QUIET_FROM" :: "OFF_FROM" :: "Count" :: "divided" :: "KEY" :: "CHECK_BITS" :: "rest_of" :: "check_of" :: "NAME_BITS" :: "HIGHEST_NAME" :: "is_name" :: "is_wanted" :: "MOST_ALIKE" :: "Streak" :: "put_in" :: "SIZE_AT" :: "SIZE_BITS" :: "DATA_AT" :: "BYTE_BITS" :: "MOST_BYTES" :: "check_frame" :: "frame_bits" :: "is_complete" :: "told_size" :: "read_frame" :: "wire_of" :: "Reader" :: "ANSWER_AT" :: "VOTES_AT" :: "Tail" :: "ReadTail" :: "SpeakTail" :: "FLAG_BITS" :: "REST_TURNS" :: "QUIET_TURNS" :: "DUEL_BITS" :: "begun_reader" :: "unless_off" :: "fault_of" :: "refusal_of" :: "blame_of" :: "Free" :: "Speaks" :: "Reads" :: "InTail" :: "Flagging" :: "Settles" :: "Rests" :: "Off" :: "VOTES" :: "check_votes" :: "check_choice" :: "copies" :: "Post" :: "_law_draw" :: "_law_bits" :: "_law_wire" :: "_law_number" :: "_law_frame" :: "_law_others" :: "_law_says" :: "_law_fault" :: "_law_free" :: "_law_wired" :: "_law_tailed" :: "_law_calm" :: "_law_word" :: "_law_stands" :: "_law_looked" :: "_law_heard" :: []
abbrev N:Nat:=7757
theorem a1L:∀w:World,(fencedOpening treeTable p w N).map (fun s=>(s.heap,s.gens,s.drawn,s.toks)) = some (boot_heap w.params,Array.mk [],boot_drawn,boot_toks):=boot_open (by kernel_rfl) (by decide) (fun s=>by kernel_rfl)
def ann:Option Value:=some (.ref 6)
def whole (w:World) (os:OsState):=(segRunT treeTable p w 11 ann 0 N (S w os) (topStub p)).map fun r=>look p qv loose (xlAt qv []) as (boot_heap w.params) r.2.1
def good (w:World) (_:OsState):=some (true,openGood qv loose,((L w.params).map fun p=>p.2).map some)
def sz (w : World) := ((boot_heap w.params).isNs mainGlobals, (boot_heap w.params).objs.size, (boot_heap w.params).nsMap mainGlobals "__annotations__")
def sg (_:World):=(true,11,ann)
theorem yV:whole = whole:=rfl
theorem a2C:good = good:=rfl
theorem a3L:sz = sz:=rfl
name_quick wq for whole by yV
name_quick gq for good by a2C
name_quick zq for sz by a3L
theorem z_g (w:World):PySem.W.Fast.zq w = sg w:=by kernel_rfl
theorem w_g (w:World):PySem.W.Fast.wq w = PySem.W.Fast.gq w:=by kernel_rfl
theorem a3C:LeftO p qv loose (xlAt qv []) (fun s=>as.map s.heap.get?) (fun w=>((L w.params).map fun p=>p.2).map some) N:=rE S a1L (fun w=>(congrFun PySem.W.Fast.zq_eq w).trans (z_g w)) a3F fun w=>((congrFun PySem.W.Fast.wq_eq w).trans (w_g w)).trans (congrFun PySem.W.Fast.gq_eq w).symm
theorem left:LeftO p qv loose (xlAt qv []) (fun s=>as.map s.heap.get?) (fun w=>(K w.params).map fun p=>some p.2) N:=fun w=>(a3C w).trans (by show some (_,((L w.params).map _).map _) = some (_,(K w.params).map _);rw [K_L,List.map_map];rfl)
def dl:DefRec:=dr (sf p 94)
def da:=(defOf qv "law",p.theDef "law")
def db:=(some (dl,([]:List (Str×PySem.Expr))),some (dl.params,dl.body,dl.scope))
theorem a3S:da = da:=rfl
theorem a3R:db = db:=rfl
name_quick daq for da by a3S
name_quick dbq for db by a3R
theorem d_q:PySem.W.Fast.daq = PySem.W.Fast.dbq:=by kernel_rfl
theorem d_e:da = db:=PySem.W.Fast.daq_eq.trans (d_q.trans PySem.W.Fast.dbq_eq.symm)
theorem dl_1:defOf qv "law" = some (dl, []):=congrArg Prod.fst d_e
theorem dl_2:p.theDef "law" = some (dl.params,dl.body,dl.scope):=congrArg Prod.snd d_e
end
end Hd
set_option Elab.async false
set_option linter.all false
set_option maxRecDepth 100000
namespace L2
open PySem PySem.Spec PyProof.Rows
abbrev Key:=Sum Int Str
def keyIs:Key→Value→Bool
 | .inl k,v=>Value.isInt k v
 | .inr x,v=>Value.isStrOf x v
def keyH (w:World):Key→Int
 | .inl k=>hashInt k
 | .inr x=>hashStr w x
theorem cG:∀{k:Key} {v:Value},keyIs k v = true→(∃i t,k = Sum.inl i∧v = Value.int i t)∨(∃x t,k = Sum.inr x∧v = Value.str x t)
 | .inl i,v,h=>by
  obtain⟨t,e⟩:=Value.isInt_shape (k:=i) (v:=v) h
  exact .inl ⟨i,t,rfl,e⟩
 | .inr x,v,h=>by
  obtain⟨t,e⟩:=Value.isStrOf_shape (x:=x) (v:=v) h
  exact .inr ⟨x,t,rfl,e⟩
theorem a2A (a b:Int):decide ((Sum.inl a:Key) = Sum.inl b) = (a == b):=by
 by_cases e:a = b
 ·subst e;simp
 ·have h:¬ (Sum.inl a:Key) = Sum.inl b:=fun q=>e (Sum.inl.inj q)
  rw [decide_eq_false h]
  exact(beq_eq_false_iff_ne.mpr e).symm
theorem a1X (a b:Str):decide ((Sum.inr a:Key) = Sum.inr b) = decide (a = b):=by
 by_cases e:a = b
 ·subst e;simp
 ·have h:¬ (Sum.inr a:Key) = Sum.inr b:=fun q=>e (Sum.inr.inj q)
  rw [decide_eq_false h,decide_eq_false e]
theorem a1Z (a:Int) (b:Str):decide ((Sum.inl a:Key) = Sum.inr b) = false:=decide_eq_false (fun q=>nomatch q)
theorem a1Y (a:Str) (b:Int):decide ((Sum.inr a:Key) = Sum.inl b) = false:=decide_eq_false (fun q=>nomatch q)
def mixKind (prog:Program) (w:World):PySem.KeyKind prog w Key where
 is:=keyIs
 hash:=keyH w
 inj :=fun v a b ha hb=>by
  rcases cG ha with ⟨i,t,rfl,rfl⟩ | ⟨x,t,rfl,rfl⟩
  ·rcases cG hb with ⟨j,u,rfl,e⟩ | ⟨y,u,rfl,e⟩
   ·injection e with e1 _;rw [e1]
   ·exact nomatch e
  ·rcases cG hb with ⟨j,u,rfl,e⟩ | ⟨y,u,rfl,e⟩
   ·exact nomatch e
   ·injection e with e1 _;rw [e1]
 byValue:=fun k v h=>by
  rcases cG h with ⟨i,t,rfl,rfl⟩ | ⟨x,t,rfl,rfl⟩ <;> rfl
 pyHash:=fun hv h=>by
  rcases cG hv with ⟨i,t,rfl,rfl⟩ | ⟨x,t,rfl,rfl⟩
  ·exact wpAny_pyHash_int h
  ·exact wpAny_pyHash_str h
 eqBool:=fun hu hv h=>by
  rcases cG hu with ⟨i,t,rfl,rfl⟩ | ⟨x,t,rfl,rfl⟩
  ·rcases cG hv with ⟨j,u,rfl,rfl⟩ | ⟨y,u,rfl,rfl⟩
   ·rw [a2A] at h;exact wpAny_eqBool_int h
   ·rw [a1Z] at h;exact SeqAt.EqAt.int_str i t y u _ _ _ _ h
  ·rcases cG hv with ⟨j,u,rfl,rfl⟩ | ⟨y,u,rfl,rfl⟩
   ·rw [a1Y] at h;exact SeqAt.EqAt.str_int x t j u _ _ _ _ h
   ·rw [a1X] at h;exact wpAny_eqBool_str h
 «strs»:=fun k x t v h=>by
  rcases cG h with ⟨i,u,rfl,e⟩ | ⟨y,u,rfl,e⟩
  ·exact nomatch e
  ·injection e with e1 _
   subst e1
   cases v <;> rfl
end L2
namespace L2
open PySem PySem.Spec PyProof.Rows
inductive V where
 | non | bl (b:Bool) | int (i:Int) | str (x:Str) | byt (b:Array UInt8) | flt (b:UInt64) | ref (a:Addr) | ty (n:String)
 deriving DecidableEq
def RelV:V→Value→Prop
 | .non,u=>u = Value.none
 | .bl b,u=>u = Value.bool b
 | .int i,u=>∃t,u = Value.int i t
 | .str x,u=>∃t,u = Value.str x t
 | .byt b,u=>∃t,u = Value.bytes b t
 | .flt b,u=>∃t,u = Value.float b t
 | .ref a,u=>u = Value.ref a
 | .ty n,u=>u = Value.type n
abbrev Vals:List V→List Value→Prop:=Paired RelV
theorem Vals.length {xs:List V} {us:List Value} (r:Vals xs us):xs.length = us.length:=Paired.length r
theorem Vals.get:∀{xs:List V} {us:List Value} {i:Nat} {x:V},Vals xs us→xs[i]? = some x→∃u,us[i]? = some u∧RelV x u
 | _,_,_,_,.nil,e=>by simp at e
 | _,_,0,_,.cons r _,e=>by simp at e;subst e;exact⟨_,rfl,r⟩
 | _,_,i + 1,x,.cons _ t,e=>by
  obtain⟨u,h1,h2⟩:=Vals.get (i:=i) (x:=x) t (by simpa using e)
  exact⟨u,by simpa using h1,h2⟩
theorem Vals.set {x:V} {u:Value} (r:RelV x u):∀{xs:List V} {us:List Value} (i:Nat),Vals xs us→Vals (xs.set i x) (us.set i u)
 | _,_,_,.nil=> .nil
 | _,_,0,.cons _ t=> .cons r t
 | _,_,i + 1,.cons q t=> .cons q (Vals.set r i t)
theorem Vals.append:∀{xs ys:List V} {us ws:List Value},Vals xs us→Vals ys ws→Vals (xs ++ ys) (us ++ ws)
 | _,_,_,_,.nil,s=>s
 | _,_,_,_,.cons r t,s=> .cons r (Vals.append t s)
theorem Vals.take:∀{xs:List V} {us:List Value} (n:Nat),Vals xs us→Vals (xs.take n) (us.take n)
 | _,_,0,_=> .nil
 | _,_,_ + 1,.nil=> .nil
 | _,_,n + 1,.cons r t=> .cons r (Vals.take n t)
theorem Vals.drop:∀{xs:List V} {us:List Value} (n:Nat),Vals xs us→Vals (xs.drop n) (us.drop n)
 | _,_,0,r=>r
 | _,_,_ + 1,.nil=> .nil
 | _,_,n + 1,.cons _ t=>Vals.drop n t
def RelO:Option V→Option Value→Prop
 | some v,some u=>RelV v u
 | none,none=>True
 | _,_=>False
def KV {κ:Type}:List (κ×V)→List (κ×Value)→Prop:=Paired fun (p:κ×V) (q:κ×Value)=>p.1 = q.1∧RelV p.2 q.2
def kV:Key→V
 | .inl i=> .int i
 | .inr x=> .str x
inductive HO where
    | lst (xs:List V)
    | tup (xs:List V)
    | dK (kvs:List (Key×V)) | dT (kvs:List (List Key×V))
    | set (S:Int→Bool) (n:Nat)
    | ins (C dx:Addr) (fs:List (Str×V))
    | own (x:Addr)
    | xd (fs:List (Str×V))
    | met (f x:Addr)
    | rng (lo hi:Int)
    | frz (o:Obj) (u:HO)
    | tbl (ps:Array Value)
    | ext (φ:Heap→Prop)
abbrev Hp:=Addr→Option HO
def upd (H:Hp) (a:Addr) (o:HO):Hp:=fun b=>if b = a then some o else H b
theorem aB {H:Hp} {a:Addr} {o:HO}:upd H a o a = some o:=by unfold upd;rw [if_pos rfl]
theorem aK {H:Hp} {a b:Addr} {o:HO} (h:b≠a):upd H a o b = H b:=by unfold upd;rw [if_neg h]
theorem aX {H:Hp} {a b:Addr} {o:HO} (h:H a = some o) (h':H b = none):a≠b:=by
 intro e;subst e;rw [h] at h';cases h'
section
variable (P:Program) (w:World)
def ObjOk (H:Hp) (h:Heap) (a:Addr):HO→Prop
  | .lst xs=>xs.length≤sizeLine∧∃(its:List Value) (n:Nat),Vals xs its∧h.get? a = some { cls:= .type "list",data:= .seq its.toArray n }
  | .tup xs=>xs.length≤sizeLine∧∃its:List Value,Vals xs its∧IsTup h a its.toArray
  | .dK kvs=>kvs.length≤sizeLine∧(a == sysModules) = false∧∃vs,KV kvs vs∧h.DictOf (mixKind P w) a vs
  | .dT kvs=>kvs.length≤sizeLine∧(a == sysModules) = false∧∃xs:List (List Key×Addr×Value),
      Paired (fun (p:List Key×V) (q:List Key×Addr×Value)=>p.1 = q.1∧H q.2.1 = some (.tup (p.1.map kV))∧RelV p.2 q.2.2) kvs xs∧
      ∃o es ep,h.get? a = some o∧o.ExactDict∧o.data = .dict es ep∧es.toList = xs.map (entryOfKey (tupleKind (mixKind P w)))∧(xs.map (·.1)).Nodup
  | .set S n=>h.SetOf (intKind P w) a S n
  | .ins C dx fs=>H dx = some (.own a)∧fs.length≤1000∧dx≠a∧h.get? a = some (PySem.W.instObj C dx)∧
      ∃mA,h.Ns1 dx mA∧(∀f,RelO (fs.lookup f) (mA f))∧PySem.Within mA (fs.map (·.1))
  | .own _=>∃o,h.get? a = some o
  | .xd fs=>∃mA,h.Ns1 a mA∧∀f,RelO (fs.lookup f) (mA f)
  | .rng lo hi=>∃t u v,h.get? a = some { cls:= .type "range",data:= .fields #[.int lo t,.int hi u,.int 1 v] }
  | .frz o u=>h.get? a = some o∧ObjOk H h a u
  | .tbl ps=>h.get? a = some { cls:= .none,data:= .fields ps }
  | .met f x=>h.get? a = some (PySem.W.methodObj (.ref f) (.ref x))
  | .ext φ=>φ h∧(∃o,h.get? a = some o)∧∀h1 h2:Heap,φ h1→(∀o,h1.get? a = some o→h2.get? a = some o)→φ h2
def HOk (H:Hp) (h:Heap):Prop:=∀a o,H a = some o→ObjOk P w H h a o
end
section
variable {P:Program} {w:World} {H H':Hp} {h h':Heap} {a:Addr} {o:HO}
theorem ObjOk.lt (x:ObjOk P w H h a o):a < h.objs.size:=by
 cases o with
 | lst xs=>obtain⟨_,_,_,_,e⟩:=x;exact Heap.lt_size e
 | tup xs=>obtain⟨_,_,_,p⟩:=x;exact p.lt
 | dK kvs=>obtain⟨_,_,_,_,o,_,_,e,_⟩:=x;exact Heap.lt_size e
 | dT kvs=>obtain⟨_,_,_,_,o,_,_,e,_⟩:=x;exact Heap.lt_size e
 | set S n=>obtain⟨o,_,_,_,e,_⟩:=x;exact Heap.lt_size e
 | ins C dx fs=>obtain⟨_,_,_,e,_⟩:=x;exact Heap.lt_size e
 | own y=>obtain⟨_,e⟩:=x;exact Heap.lt_size e
 | xd fs=>obtain⟨_,⟨_,_,_,e,_⟩,_⟩:=x;exact Heap.lt_size e
 | rng lo hi=>obtain⟨_,_,_,e⟩:=x;exact Heap.lt_size e
 | frz ob u=>obtain⟨e,_⟩:=x;exact Heap.lt_size e
 | tbl ps=>exact Heap.lt_size (show h.get? a = some _ from x)
 | met f y=>exact Heap.lt_size (show h.get? a = some _ from x)
 | ext φ=>obtain⟨_,⟨_,e⟩,_⟩:=x;exact Heap.lt_size e
theorem Paired.mapP {α β:Type} {F G:α→β→Prop}:∀{l₁:List α} {l₂:List β},Paired F l₁ l₂→(∀a b,F a b→G a b)→Paired G l₁ l₂
 | _,_,.nil,_=> .nil
 | _,_,.cons r t,f=> .cons (f _ _ r) (Paired.mapP t f)
theorem ObjOk.stay (x:ObjOk P w H h a o) (k:∀b u,(b = a∨H b = some (.own a))→h.get? b = some u→h'.get? b = some u)
    (ho:∀b,H b = some (.own a)→H' b = some (.own a)) (ht:∀b xs,H b = some (.tup xs)→H' b = some (.tup xs)):ObjOk P w H' h' a o:=by
  induction o with
  | lst xs=>obtain⟨z,its,n,r,e⟩:=x;exact⟨z,its,n,r,k _ _ (.inl rfl) e⟩
  | tup xs=>obtain⟨z,its,r,ob,e,c⟩:=x;exact⟨z,its,r,ob,k _ _ (.inl rfl) e,c⟩
  | dK kvs=>obtain⟨z,y,vs,r,ob,es,ep,e,c⟩:=x;exact⟨z,y,vs,r,ob,es,ep,k _ _ (.inl rfl) e,c⟩
  | dT kvs=>
    obtain⟨z,y,xs,r,ob,es,ep,e,c⟩:=x
    exact⟨z,y,xs,Paired.mapP r fun p q z=>⟨z.1,ht _ _ z.2.1,z.2.2⟩,ob,es,ep,k _ _ (.inl rfl) e,c⟩
  | set S n=>obtain⟨ob,es,ep,t,e,c⟩:=x;exact⟨ob,es,ep,t,k _ _ (.inl rfl) e,c⟩
  | ins C dx fs=>
    obtain⟨d,z,ne,e,mA,⟨od,es,ep,e2,c⟩,r⟩:=x
    exact⟨ho _ d,z,ne,k _ _ (.inl rfl) e,mA,⟨od,es,ep,k _ _ (.inr d) e2,c⟩,r⟩
  | own y=>obtain⟨ob,e⟩:=x;exact⟨ob,k _ _ (.inl rfl) e⟩
  | xd fs=>obtain⟨mA,⟨od,es,ep,e,c⟩,r⟩:=x;exact⟨mA,⟨od,es,ep,k _ _ (.inl rfl) e,c⟩,r⟩
  | rng lo hi=>obtain⟨t,u,v,e⟩:=x;exact⟨t,u,v,k _ _ (.inl rfl) e⟩
  | frz ob u ih=>obtain⟨e,q⟩:=x;exact⟨k _ _ (.inl rfl) e,ih q⟩
  | tbl ps=>
    have e:h.get? a = some { cls:= .none,data:= .fields ps }:=x
    show h'.get? a = some { cls:= .none,data:= .fields ps }
    exact k a _ (.inl rfl) e
  | met f y=>
    have e:h.get? a = some (PySem.W.methodObj (.ref f) (.ref y)):=x
    show h'.get? a = some (PySem.W.methodObj (.ref f) (.ref y))
    exact k a _ (.inl rfl) e
  | ext φ=>obtain⟨p,⟨o,e⟩,st⟩:=x;exact⟨st _ _ p fun o q=>k _ _ (.inl rfl) q,⟨o,k _ _ (.inl rfl) e⟩,st⟩
theorem HOk.lt (x:HOk P w H h) (e:H a = some o):a < h.objs.size:=(x a o e).lt
theorem HOk.fresh (x:HOk P w H h) (e:h.objs.size≤a):H a = none:=by
 cases q:H a with
 | none=>rfl
 | some u=>exact absurd (Nat.lt_of_lt_of_le (x.lt q) e) (Nat.lt_irrefl _)
theorem HOk.kept (x:HOk P w H h) (k:∀b u,h.get? b = some u→h'.get? b = some u):HOk P w H h':=fun a o e=>
 (x a o e).stay (fun b u _ q=>k b u q) (fun _ q=>q) fun _ _ q=>q
theorem HOk.laid (x:HOk P w H h) (k:∀b u,h.get? b = some u→h'.get? b = some u) (hp:h.objs.size≤a) (new:ObjOk P w (upd H a o) h' a o):HOk P w (upd H a o) h':=fun b u e=>by
 have hn:=x.fresh hp
 by_cases hb:b = a
 ·subst hb;rw [aB] at e;cases e;exact new
 ·rw [aK hb] at e
  exact(x b u e).stay (fun c v _ q=>k c v q) (fun c q=>by rw [aK (aX q hn)];exact q) fun c xs q=>by rw [aK (aX q hn)];exact q
end
def Rd (H:Hp) (a:Addr) (u:HO):Prop:=H a = some u∨∃o,H a = some (.frz o u)
theorem Rd.ok {P:Program} {w:World} {H:Hp} {h:Heap} {a:Addr} {u:HO} (r:Rd H a u) (x:HOk P w H h):ObjOk P w H h a u:=by
 rcases r with r | ⟨o,r⟩
 ·exact x a u r
 ·obtain⟨_,q⟩:=x a _ r
  exact q
def Mut:Option HO→Prop
 | some (.lst _)=>True
 | some (.dK _)=>True
 | some (.dT _)=>True
 | some (.set _ _)=>True
 | some (.ins _ _ _)=>True
 | some (.ext _)=>True
 | _=>False
section
variable {P:Program} {w:World} {H:Hp} {h h':Heap} {x e:Addr} {o':HO}
theorem HOk.write (ok:HOk P w H h) (mu:Mut (H x)) (he:e = x∨H e = some (.own x)) (k:∀b u,b≠e→h.get? b = some u→h'.get? b = some u) (heo:∃u,h'.get? e = some u)
    (new:ObjOk P w (upd H x o') h' x o'):HOk P w (upd H x o') h':=fun b u q=>by
  have nown:∀c y,H c = some (.own y)→c≠x:=fun c y r z=>by subst z;rw [r] at mu;exact mu
  have ntup:∀c xs,H c = some (.tup xs)→c≠x:=fun c xs r z=>by subst z;rw [r] at mu;exact mu
  by_cases hb:b = x
  · subst hb;rw [aB] at q;cases q;exact new
  · rw [aK hb] at q
    by_cases hbe:b = e
    · have q':H b = some (.own x):=by
        rcases he with z | z
        · exact absurd (hbe.trans z) hb
        · rw [hbe];exact z
      rw [q] at q';cases q'
      obtain⟨v,hv⟩:=heo
      exact⟨v,by rw [hbe];exact hv⟩
    · refine(ok b u q).stay (fun c v hc r=>k c v ?_ r) (fun c r=>by rw [aK (nown c b r)];exact r) fun c xs r=>by rw [aK (ntup c xs r)];exact r
      rcases hc with rfl | hc
      · exact hbe
      · rintro rfl
        rcases he with z | z
        · exact nown c b hc z
        · rw [hc] at z;cases z;exact hb rfl
end
structure Un (fs ex:List Addr) (H H':Hp) (h h':Heap):Prop where
 keep:∀b o,h.get? b = some o→H b = none→b∉fs→b∉ex→h'.get? b = some o
 slot:∀b o,h.get? b = some o→H b = none→b∈fs→b∉ex→∃sl,h'.get? b = some { o with slots:=sl }
 free:∀b o,h.get? b = some o→H b = none→b∉ex→H' b = none
 there:∀b o,h.get? b = some o→b∉ex→∃o',h'.get? b = some o'
 tups:∀b xs,H b = some (.tup xs)→H' b = some (.tup xs)
 frzs:∀b o u,H b = some (.frz o u)→H' b = some (.frz o u)
 tbls:∀b ps,H b = some (.tbl ps)→∃more,H' b = some (.tbl (ps ++ more))
section
variable {fs fs' ex ex':List Addr} {H H1 H2:Hp} {h h1 h2 h':Heap} {a x e:Addr} {o:HO}
theorem Un.any (u:Un fs ex H H1 h h1) {b:Addr} {ob:Obj} (q:h.get? b = some ob) (n:H b = none) (hx:b∉ex):∃sl,h1.get? b = some { ob with slots:=sl }:=by
 by_cases hb:b∈fs
 ·exact u.slot b ob q n hb hx
 ·exact⟨ob.slots,u.keep b ob q n hb hx⟩
theorem Un.kept (k:∀b u,h.get? b = some u→h'.get? b = some u):Un fs ex H H h h':=
 ⟨fun b ob q _ _ _=>k b ob q,fun b ob q _ _ _=>⟨ob.slots,k b ob q⟩,fun _ _ _ n _=>n,fun b ob q _=>⟨ob,k b ob q⟩,fun _ _ q=>q,fun _ _ _ q=>q,fun _ ps q=>⟨#[],by rw [q];simp⟩⟩
theorem Un.refl:Un fs ex H H h h:=Un.kept fun _ _ q=>q
theorem Un.laid (k:∀b u,h.get? b = some u→h'.get? b = some u) (hp:h.objs.size≤a) (hn:H a = none):Un fs ex H (upd H a o) h h' where
 keep:=fun b u q _ _ _=>k b u q
 slot:=fun b u q _ _ _=>⟨u.slots,k b u q⟩
 free:=fun b u q n _=>by rw [aK (Nat.ne_of_lt (Nat.lt_of_lt_of_le (Heap.lt_size q) hp))];exact n
 there:=fun b u q _=>⟨u,k b u q⟩
 tups:=fun b xs q=>by rw [aK (aX q hn)];exact q
 frzs:=fun b u xs q=>by rw [aK (aX q hn)];exact q
 tbls:=fun b ps q=>⟨#[],by rw [aK (aX q hn),q];simp⟩
theorem Un.write (mu:Mut (H x)) (he:e = x∨H e = some (.own x)) (k:∀b u,b≠e→h.get? b = some u→h'.get? b = some u) (heo:∃u,h'.get? e = some u):Un fs ex H (upd H x o) h h':=by
 have hx:∀b,H b = none→b≠x:=fun b n z=>by subst z;rw [n] at mu;exact mu
 have hb:∀b,H b = none→b≠e:=fun b n z=>by
  subst z
  rcases he with r | r
  ·exact hx b n r
  ·rw [n] at r;cases r
 have hm:∀b u,H b = some u→¬ Mut (some u)→b≠x:=fun b u q nm z=>by subst z;rw [q] at mu;exact nm mu
 refine⟨fun b u q n _ _=>k b u (hb b n) q,fun b u q n _ _=>⟨u.slots,k b u (hb b n) q⟩,fun b u q n _=>by rw [aK (hx b n)];exact n,fun b u q _=>?_,
  fun b xs q=>by rw [aK (hm b _ q fun z=>z)];exact q,fun b u xs q=>by rw [aK (hm b _ q fun z=>z)];exact q,fun b ps q=>⟨#[],by rw [aK (hm b _ q fun z=>z),q];simp⟩⟩
 by_cases hbe:b = e
 ·subst hbe;exact heo
 ·exact⟨u,k b u hbe q⟩
end
def trk (h:Heap) (H:Hp):List Addr:=(List.range h.objs.size).filter fun a=>(H a).isSome
def hidT (h:Heap) (H:Hp):Heap:=PySem.W.hideAll h (trk h H)
theorem uK (h:Heap) (H:Hp):(hidT h H).objs.size = h.objs.size:=PySem.W.hideAll_size _ _
theorem xR {h:Heap} {H:Hp} {b:Addr} {o:Obj} (e:h.get? b = some o) (n:H b = none):(hidT h H).get? b = some o:=
 PySem.W.hideAll_get _ e fun hm=>by
  have q:(H b).isSome = true:=(List.mem_filter.mp hm).2
  rw [n] at q;simp at q
theorem zR {h:Heap} {H:Hp} {b:Addr} {o:Obj} (e:(hidT h H).get? b = some o):h.get? b = some o∧H b = none:=by
 have e':h.get? b = some o:=PySem.W.of_hideAll (trk h H) e
 refine⟨e',?_⟩
 cases q:H b with
 | none=>rfl
 | some x=>
  have hm:b∈trk h H:=List.mem_filter.mpr ⟨List.mem_range.mpr (Heap.lt_size e'),by simp [q]⟩
  have z:(hidT h H).get? b = none:=PySem.W.hideAll_none (trk h H) hm
  rw [z] at e;cases e
def allNews (g h:Heap) (L:Addr):List (Addr×Obj):=(List.range h.objs.size).filterMap fun a=>if a = L∨(g.get? a).isSome = true then none else (h.get? a).map fun o=>(a,o)
def rest (g h:Heap) (L d:Addr):List (Addr×Obj):=(allNews g h L).filter fun p=>decide (p.1≠d)
end L2
namespace L2
open PySem PySem.Spec PyProof.Rows
structure Mod (K:PySem.W.Frag) (mg:Str→Option Value) (base:Heap):Prop where
 kin:K.In base
 glob:base.Ns mainGlobals mg
 blt:∃mb,base.Ns builtinsNs mb∧∀x:Str,x≠"__name__"→mb x = bootBuiltins x
 nolimit:base.NoLimit
structure Cx where
 prog:Program
 w:World
 K:PySem.W.Frag
 mg:Str→Option Value
 base:Heap
 A:Around
 N:List Str
 s₀:Shared
 H₀:Hp
 env:Env
 outer:List Env
 stack:List Env
 ex:List Addr
 fn:Str→Bool
 calm:Bool
 pn:List (Addr×Obj)
 xe:Value→Shared→Prop
def frs (l:List Env):List Addr:=l.filterMap (·.frame)
abbrev Cx.fs (X:Cx):List Addr:=frs X.outer
def Vis (sc:Scope) (x:Str):Prop:=sc.names.lookup x = some .local∨sc.names.lookup x = some .cell∨sc.names.lookup x = some .free
def Loc (sc:Scope) (x:Str):Prop:=sc.names.lookup x = some .local∨sc.names.lookup x = some .cell
def Look (env:Env) (h:Heap) (m:Str→Option Value) (x:Str) (u:Value):Prop:=
 (env.kindOf x = some .local∧m x = some u)∨((env.kindOf x = some .cell∨env.kindOf x = some .free)∧∃c,env.cells.lookup x = some c∧h.IsCell c (some u))
structure Cx.Ok (X:Cx):Prop where
 mod:Mod X.K X.mg X.base
 kind:X.env.scope.kind = .function
 glob:X.env.globals = mainGlobals
 blt:X.env.builtins = builtinsNs
 above:X.s₀.heap.objs.size≤X.env.locals
 inj:∀x y c,X.env.cells.lookup x = some c→X.env.cells.lookup y = some c→x = y
 has:∀x,(X.env.kindOf x = some .cell∨X.env.kindOf x = some .free)→∃c,X.env.cells.lookup x = some c
 cab:∀x c,X.fn x = true→X.env.cells.lookup x = some c→X.s₀.heap.objs.size≤c
 hd:X.calm = true→X.A.handled = none
 frames:X.A.frames = some X.stack
 stk:X.stack = X.outer∨(X.stack = X.env :: X.outer∧X.env.frame = some X.env.locals)
 exf:∀b∈X.ex,b≠X.env.locals∧∀x c,X.env.cells.lookup x = some c→c≠b
 bs:∀b o,X.base.get? b = some o→X.s₀.heap.get? b = some o∧X.H₀ b = none
 bsz:X.base.objs.size≤X.s₀.heap.objs.size
 noex:∀b o,X.base.get? b = some o→b∉X.ex
 exfs:∀b∈X.ex,b∉X.fs
 funs:X.s₀.heap.FunFrames X.base X.outer
 frf:∀b∈X.fs,X.H₀ b = none
structure Inv (X:Cx) (pins:List (Addr×Obj)) (σ:List (Option V)) (H:Hp) (s:Shared):Prop where
 ok:X.Ok
 os:s.os = X.s₀.os
 bare:AllBare s.gens
 base:Un X.fs X.ex X.H₀ H X.s₀.heap s.heap
 loc:∃m,s.heap.Ns X.env.locals m∧∀(i:Nat) (x:Str) (v:V),X.N[i]? = some x→σ[i]? = some (some v)→Vis X.env.scope x→∃u,RelV v u∧Look X.env s.heap m x u
 cell:∀x c,X.env.cells.lookup x = some c→∃v,s.heap.IsCell c v
 free:H X.env.locals = none
 freeC:∀x c,X.env.cells.lookup x = some c→H c = none
 pin:∀p∈X.pn ++ pins,s.heap.get? p.1 = some p.2∧H p.1 = none∧p.1≠X.env.locals∧p.1∉X.fs∧∀v,p.2.data≠ .cell v
 hok:HOk X.prog X.w H s.heap
 len:σ.length = X.N.length
section
variable {X:Cx} {pins:List (Addr×Obj)} {σ:List (Option V)} {H H':Hp} {s:Shared} {h':Heap}
theorem Cx.Ok.nofr (ok:X.Ok) {b:Addr} {o:Obj} (e:X.base.get? b = some o):b∉X.fs:=fun hb=>by
 have:=(ok.funs.mem hb).1
 rw [e] at this;cases this
theorem Inv.bs (I:Inv X pins σ H s):∀b o,X.base.get? b = some o→s.heap.get? b = some o∧H b = none:=fun b o e=>
 ⟨I.base.keep b o (I.ok.bs b o e).1 (I.ok.bs b o e).2 (I.ok.nofr e) (I.ok.noex b o e),I.base.free b o (I.ok.bs b o e).1 (I.ok.bs b o e).2 (I.ok.noex b o e)⟩
theorem Inv.bk (I:Inv X pins σ H s):∀b o,X.base.get? b = some o→s.heap.get? b = some o:=fun b o e=>(I.bs b o e).1
theorem Inv.mod (I:Inv X pins σ H s):Mod X.K X.mg X.base:=I.ok.mod
theorem Inv.kIn (I:Inv X pins σ H s):X.K.In s.heap:=I.ok.mod.kin.keeps I.bk
theorem Inv.fr (I:Inv X pins σ H s):∃m,Fr X.base X.env.locals s.heap m:=
 let ⟨m,hn,_⟩:=I.loc
 ⟨m,hn,I.bk,Nat.le_trans I.ok.bsz I.ok.above⟩
theorem Inv.lt (I:Inv X pins σ H s):X.env.locals < s.heap.objs.size:=let ⟨_,hn,_⟩:=I.loc;hn.lt
theorem Inv.sz (I:Inv X pins σ H s):X.s₀.heap.objs.size≤s.heap.objs.size:=Nat.le_trans I.ok.above (Nat.le_of_lt I.lt)
theorem Inv.nofs (I:Inv X pins σ H s) {a:Addr} (h:s.heap.objs.size≤a):a∉X.fs:=fun hb=>by
 obtain⟨_,o,ho,_⟩:=I.ok.funs.mem hb
 exact absurd (Nat.lt_of_lt_of_le (Heap.lt_size ho) (Nat.le_trans I.sz h)) (Nat.lt_irrefl _)
theorem Inv.cne (I:Inv X pins σ H s):∀x c,X.env.cells.lookup x = some c→c≠X.env.locals:=fun x c e z=>by
 obtain⟨v,o,ho,hd⟩:=I.cell x c e
 obtain⟨m,⟨o',es,ep,ho',hd',_⟩,_⟩:=I.loc
 rw [z,ho'] at ho;cases ho;rw [hd'] at hd;cases hd
theorem Inv.funs (I:Inv X pins σ H s):s.heap.FunFrames X.base X.outer:=by
 have all:∀(l:List Env),(∀b∈frs l,b∈X.fs)→X.s₀.heap.FunFrames X.base l→s.heap.FunFrames X.base l:=by
  intro l
  induction l with
  | nil=>intro _ _;trivial
  | cons env r ih=>
   intro hs hl
   obtain⟨hk,⟨L,o,hf,hn,ho,hd⟩,hr⟩:=hl
   have hL:L∈X.fs:=hs L (by unfold frs;rw [List.filterMap_cons,hf];exact List.mem_cons_self)
   obtain⟨sl,e⟩:=I.base.slot L o ho (I.ok.frf L hL) hL fun z=>I.ok.exfs L z hL
   exact⟨hk,⟨L,_,hf,hn,e,hd⟩,ih (fun b hb=>hs b (by unfold frs;rw [List.filterMap_cons,hf];exact List.mem_cons_of_mem _ hb)) hr⟩
 exact all X.outer (fun _ hb=>hb) I.ok.funs
theorem Inv.stack (I:Inv X pins σ H s):s.heap.FunFrames X.base X.stack:=by
 rcases I.ok.stk with e | ⟨e,hf⟩
 ·rw [e];exact I.funs
 ·rw [e]
  obtain⟨m,hn,_⟩:=I.loc
  refine .cons (by rw [I.ok.kind];decide) hf hn ?_ I.funs
  exact Heap.get?_none_of_le (Nat.le_trans I.ok.bsz I.ok.above)
theorem Inv.stkSub (I:Inv X pins σ H s):∀b∈frs X.stack,b∈X.env.locals :: X.fs:=fun b hb=>by
 rcases I.ok.stk with e | ⟨e,hf⟩
 ·rw [e] at hb;exact List.mem_cons_of_mem _ hb
 ·rw [e] at hb
  unfold frs at hb
  rw [List.filterMap_cons,hf] at hb
  exact hb
theorem Inv.stkFree (I:Inv X pins σ H s):∀b∈frs X.stack,H b = none:=fun b hb=>by
 rcases List.mem_cons.mp (I.stkSub b hb) with e | hb
 ·rw [e];exact I.free
 ·obtain⟨_,o,ho,_⟩:=I.ok.funs.mem hb
  exact I.base.free b o ho (I.ok.frf b hb) fun z=>I.ok.exfs b z hb
theorem Inv.step {g':Array GenState} {t':Nat} {d':Drawn} {ch:List Addr} (I:Inv X pins σ H s)
    (hch:∀b∈ch,(b∈X.ex∨X.s₀.heap.objs.size≤b)∧b≠X.env.locals∧(∀x c,X.env.cells.lookup x = some c→c≠b)∧∀p∈X.pn ++ pins,p.1≠b)
    (keep:∀b o,b≠X.env.locals→b∉X.fs→b∉ch→s.heap.get? b = some o→H b = none→h'.get? b = some o)
    (slot:∀b o,b≠X.env.locals→b∈X.fs→b∉ch→s.heap.get? b = some o→H b = none→∃sl,h'.get? b = some { o with slots:=sl }) (free:∀b o,b∉ch→s.heap.get? b = some o→H b = none→H' b = none)
    (there:∀b o,b∉ch→s.heap.get? b = some o→∃o',h'.get? b = some o')
    (tups:∀b xs,H b = some (.tup xs)→H' b = some (.tup xs)) (frzs:∀b o u,H b = some (.frz o u)→H' b = some (.frz o u)) (tbls:∀b ps,H b = some (.tbl ps)→∃more,H' b = some (.tbl (ps ++ more)))
    (ns:∀m,s.heap.Ns X.env.locals m→h'.Ns X.env.locals m) (hok:HOk X.prog X.w H' h') (hg:AllBare g') :
    Inv X pins σ H' { s with heap:=h',gens:=g',drawn:=d',toks:=t' }:=by
  have neL:∀b o,X.s₀.heap.get? b = some o→b≠X.env.locals:=fun b o e=>Nat.ne_of_lt (Nat.lt_of_lt_of_le (Heap.lt_size e) I.ok.above)
  have neC:∀b o,X.s₀.heap.get? b = some o→b∉X.ex→b∉ch:=fun b o e hx hb=>by
    rcases (hch b hb).1 with z | z
    · exact hx z
    · exact absurd (Nat.lt_of_lt_of_le (Heap.lt_size e) z) (Nat.lt_irrefl _)
  have cellK:∀x c,X.env.cells.lookup x = some c→∀v,s.heap.IsCell c v→h'.IsCell c v:=fun x c e v ⟨o,ho,hd⟩=>by
    have nch:c∉ch:=fun z=>(hch c z).2.2.1 x c e rfl
    by_cases hc:c∈X.fs
    · obtain⟨sl,q⟩:=slot c o (I.cne x c e) hc nch ho (I.freeC x c e)
      exact⟨_,q,hd⟩
    · exact⟨o,keep c o (I.cne x c e) hc nch ho (I.freeC x c e),hd⟩
  refine⟨I.ok,I.os,hg,⟨fun b o e n hb hx=>?_,fun b o e n hb hx=>?_,fun b o e n hx=>?_,fun b o e hx=>?_,fun b xs e=>tups b xs (I.base.tups b xs e),fun b o xs e=>frzs b o xs (I.base.frzs b o xs e),fun b ps e=>?_⟩,?_,fun x c e=>?_,?_,fun x c e=>?_,fun p hp=>?_,hok,I.len⟩
  · exact keep b o (neL b o e) hb (neC b o e hx) (I.base.keep b o e n hb hx) (I.base.free b o e n hx)
  · obtain⟨sl,e1⟩:=I.base.slot b o e n hb hx
    obtain⟨sl',e2⟩:=slot b _ (neL b o e) hb (neC b o e hx) e1 (I.base.free b o e n hx)
    exact⟨sl',e2⟩
  · obtain⟨o',e1⟩:=I.base.there b o e hx
    exact free b o' (neC b o e hx) e1 (I.base.free b o e n hx)
  · obtain⟨o',e1⟩:=I.base.there b o e hx
    exact there b o' (neC b o e hx) e1
  · obtain⟨m1,e1⟩:=I.base.tbls b ps e
    obtain⟨m2,e2⟩:=tbls b _ e1
    exact⟨m1 ++ m2,by rw [e2,Array.append_assoc]⟩
  · obtain⟨m,hn,hl⟩:=I.loc
    refine⟨m,ns m hn,fun i x v e1 e2 e3=>?_⟩
    obtain⟨u,r,l⟩:=hl i x v e1 e2 e3
    refine⟨u,r,?_⟩
    rcases l with l | ⟨k,c,e,z⟩
    · exact .inl l
    · exact .inr ⟨k,c,e,cellK x c e _ z⟩
  · obtain⟨v,z⟩:=I.cell x c e
    exact⟨v,cellK x c e v z⟩
  · obtain⟨m,⟨o,_,_,ho,_⟩,_⟩:=I.loc
    exact free _ o (fun z=>(hch _ z).2.1 rfl) ho I.free
  · obtain⟨v,o,ho,hd⟩:=I.cell x c e
    exact free c o (fun z=>(hch c z).2.2.1 x c e rfl) ho (I.freeC x c e)
  · obtain⟨e,n,ne,nf,d⟩:=I.pin p hp
    have nch:p.1∉ch:=fun z=>(hch p.1 z).2.2.2 p hp rfl
    exact⟨keep p.1 p.2 ne nf nch e n,free p.1 p.2 nch e n,ne,nf,d⟩
theorem Inv.un {t':Nat} (I:Inv X pins σ H s) (u:Un X.fs [] H H' s.heap h') (hok:HOk X.prog X.w H' h'):Inv X pins σ H' { s with heap:=h',toks:=t' }:=by
 obtain⟨m,⟨o,es,ep,ho,r⟩,_⟩:=id I.loc
 obtain⟨sl,hL⟩:=u.any ho I.free (by simp)
 exact I.step (g':=s.gens) (d':=s.drawn) (ch:=[]) (fun _ z=>nomatch z) (fun b o _ hb _ e n=>u.keep b o e n hb (by simp)) (fun b o _ hb _ e n=>u.slot b o e n hb (by simp)) (fun b o _ e n=>u.free b o e n (by simp)) (fun b o _ e=>u.there b o e (by simp)) u.tups u.frzs u.tbls (fun m' hm=>by
  obtain⟨o',es',ep',ho',r'⟩:=hm
  rw [ho] at ho';cases ho'
  exact⟨_,es',ep',hL,r'⟩) hok I.bare
theorem Inv.call {g':Array GenState} {t':Nat} {d':Drawn} {ch:List Addr} (I:Inv X pins σ H s) (u:Un (frs X.stack) ch H H' s.heap h') (hok:HOk X.prog X.w H' h') (hg:AllBare g')
    (hch:∀b∈ch,(b∈X.ex∨X.s₀.heap.objs.size≤b)∧b≠X.env.locals∧(∀x c,X.env.cells.lookup x = some c→c≠b)∧∀p∈X.pn ++ pins,p.1≠b) :
    Inv X pins σ H' { s with heap:=h',gens:=g',drawn:=d',toks:=t' }:=by
  obtain⟨m,⟨o,es,ep,ho,r⟩,_⟩:=id I.loc
  obtain⟨sl,hL⟩:=u.any ho I.free fun z=>(hch _ z).2.1 rfl
  exact I.step (ch:=ch) hch (fun b o hL hb hc e n=>u.keep b o e n (fun z=>(List.mem_cons.mp (I.stkSub b z)).elim hL hb) hc) (fun b o _ _ hc e n=>u.any e n hc) (fun b o hc e n=>u.free b o e n hc) (fun b o hc e=>u.there b o e hc) u.tups u.frzs u.tbls (fun m' hm=>by
    obtain⟨o',es',ep',ho',r'⟩:=hm
    rw [ho] at ho';cases ho'
    exact⟨_,es',ep',hL,r'⟩) hok hg
theorem Inv.turned {t':Nat} {it:Addr} (I:Inv X pins σ H s) (k:∀b o,b≠it→s.heap.get? b = some o→h'.get? b = some o) (hn:H it = none) (hL:it≠X.env.locals)
    (h1:it∈X.ex∨X.s₀.heap.objs.size≤it) (h2:∀x c,X.env.cells.lookup x = some c→c≠it) (h3:∀p∈X.pn ++ pins,p.1≠it):Inv X pins σ H { s with heap:=h',toks:=t' }:=by
  have nit:∀b u,H b = some u→b≠it:=fun b u e z=>by rw [z,hn] at e;cases e
  refine I.step (g':=s.gens) (d':=s.drawn) (ch:=[it]) (fun b hb=>?_) (fun b o _ _ hc e _=>k b o (fun z=>hc (by simp [z])) e) (fun b o _ _ hc e _=>⟨o.slots,k b o (fun z=>hc (by simp [z])) e⟩) (fun _ _ _ _ n=>n)
    (fun b o hc e=>⟨o,k b o (fun z=>hc (by simp [z])) e⟩) (fun _ _ e=>e) (fun _ _ _ e=>e) (fun b ps e=>⟨#[],by rw [e];simp⟩) (fun m hm=>?_) (fun b u e=>?_) I.bare
  · have e:b = it:=by simpa using hb
    subst e
    exact⟨h1,hL,h2,h3⟩
  · obtain⟨o,es,ep,ho,r⟩:=hm
    exact⟨o,es,ep,k _ o (Ne.symm hL) ho,r⟩
  · refine(I.hok b u e).stay (fun c v hc q=>k c v ?_ q) (fun _ q=>q) fun _ _ q=>q
    rcases hc with z | z
    · rw [z];exact nit b u e
    · exact nit c _ z
theorem Inv.tok (I:Inv X pins σ H s) (t:Nat):Inv X pins σ H { s with toks:=t }:=I.un (h':=s.heap) (t':=t) Un.refl I.hok
theorem Inv.kept {t':Nat} (I:Inv X pins σ H s) (k:∀b u,s.heap.get? b = some u→h'.get? b = some u):Inv X pins σ H { s with heap:=h',toks:=t' }:=I.un (Un.kept k) (I.hok.kept k)
theorem Inv.laid {a:Addr} {o:HO} {t':Nat} (I:Inv X pins σ H s) (k:∀b u,s.heap.get? b = some u→h'.get? b = some u) (hp:s.heap.objs.size≤a) (new:ObjOk X.prog X.w (upd H a o) h' a o) :
    Inv X pins σ (upd H a o) { s with heap:=h',toks:=t' }:=I.un (Un.laid k hp (I.hok.fresh hp)) (I.hok.laid k hp new)
theorem Inv.write {x e:Addr} {o:HO} {t':Nat} (I:Inv X pins σ H s) (mu:Mut (H x)) (he:e = x∨H e = some (.own x)) (k:∀b u,b≠e→s.heap.get? b = some u→h'.get? b = some u) (heo:∃u,h'.get? e = some u)
    (new:ObjOk X.prog X.w (upd H x o) h' x o):Inv X pins σ (upd H x o) { s with heap:=h',toks:=t' }:=I.un (Un.write mu he k heo) (I.hok.write mu he k heo new)
theorem Inv.weak {σ':List (Option V)} (I:Inv X pins σ H s) (hl:σ'.length = σ.length) (w:∀(i:Nat) v,σ'[i]? = some (some v)→σ[i]? = some (some v)):Inv X pins σ' H s:=
 ⟨I.ok,I.os,I.bare,I.base,let ⟨m,hn,hl'⟩:=I.loc;⟨m,hn,fun i x v e1 e2 e3=>hl' i x v e1 (w i v e2) e3⟩,I.cell,I.free,I.freeC,I.pin,I.hok,hl.trans I.len⟩
theorem Inv.pins_of {pins':List (Addr×Obj)} (I:Inv X pins σ H s) (h:∀p∈pins',s.heap.get? p.1 = some p.2∧H p.1 = none∧p.1≠X.env.locals∧p.1∉X.fs∧∀v,p.2.data≠ .cell v):Inv X pins' σ H s:=
 ⟨I.ok,I.os,I.bare,I.base,I.loc,I.cell,I.free,I.freeC,fun p hp=>(List.mem_append.mp hp).elim (fun z=>I.pin p (List.mem_append_left _ z)) (h p),I.hok,I.len⟩
theorem pM {N:List Str} (hN:N.Nodup) {i j:Nat} {x:Str} (a:N[i]? = some x) (b:N[j]? = some x):i = j:=by
 obtain⟨h1,e1⟩:=List.getElem?_eq_some_iff.mp a
 obtain⟨h2,e2⟩:=List.getElem?_eq_some_iff.mp b
 exact(List.getElem_inj hN).mp (e1.trans e2.symm)
theorem mQ {M:Model} {A:Around} {E:Value→Shared→Prop} {i:Nat} {x:Str} {v:V} {u:Value} {Q:Unit→Shared→Prop} (I:Inv X pins σ H s) (hN:X.N.Nodup) (hi:X.N[i]? = some x) (hx:Loc X.env.scope x) (r:RelV v u)
    (h:∀s',Inv X pins (σ.set i (some v)) H s'→(∃a,Heap.SameBut a s.heap s'.heap∧(a = X.env.locals∨X.env.cells.lookup x = some a))→Q () s') (hf:X.fn x = true∨X.env.scope.names.lookup x = some .local:=by first | exact .inl rfl | exact .inr rfl | assumption):wpAny M A (storeName X.env x u) Q E s:=by
  obtain⟨m,hn,hl⟩:=id I.loc
  have hcls:(X.env.scope.kind == .class || (X.env.scope.kind == .module && X.env.locals != X.env.globals)) = false:=by rw [I.ok.kind];rfl
  have hiσ:i < σ.length:=by rw [I.len];exact(List.getElem?_eq_some_iff.mp hi).1
  have cne:=I.cne
  have tracked:∀{a:Addr} {h':Heap},(∃o,s.heap.get? a = some o∧H a = none)→Heap.SameBut a s.heap h'→HOk X.prog X.w H h':=fun {a h'} ha hs b ob e=>by
    obtain⟨_,_,hfree⟩:=ha
    refine(I.hok b ob e).stay (fun c w' hc q=>(hs.2 c ?_).trans q) (fun _ q=>q) fun _ _ q=>q
    rintro rfl
    rcases hc with rfl | hc
    · rw [hfree] at e;cases e
    · rw [hfree] at hc;cases hc
  rcases hx with hk | hk
  · refine wpAny_storeName_local hk hn (fun h' hn' hs=>?_) hcls
    obtain⟨oL,_,_,hoL,_⟩:=id hn
    refine h _ ⟨I.ok,I.os,I.bare,⟨fun b o e n hb hx=>?_,fun b o e n hb hx=>?_,I.base.free,fun b o e hx=>?_,I.base.tups,I.base.frzs,I.base.tbls⟩,⟨_,hn',fun j y v' e1 e2 e3=>?_⟩,fun y c e=>?_,I.free,I.freeC,fun p hp=>?_,tracked ⟨oL,hoL,I.free⟩ hs,by simpa using I.len⟩ ⟨_,hs,.inl rfl⟩
    · exact(hs.2 b (Nat.ne_of_lt (Nat.lt_of_lt_of_le (Heap.lt_size e) I.ok.above))).trans (I.base.keep b o e n hb hx)
    · obtain⟨sl,e1⟩:=I.base.slot b o e n hb hx
      exact⟨sl,(hs.2 b (Nat.ne_of_lt (Nat.lt_of_lt_of_le (Heap.lt_size e) I.ok.above))).trans e1⟩
    · obtain⟨o',e1⟩:=I.base.there b o e hx
      exact⟨o',(hs.2 b (Nat.ne_of_lt (Nat.lt_of_lt_of_le (Heap.lt_size e) I.ok.above))).trans e1⟩
    · by_cases hj:j = i
      · subst hj
        rw [hi] at e1;cases e1
        rw [List.getElem?_set_self hiσ] at e2
        cases e2
        exact⟨u,r,.inl ⟨hk,by simp⟩⟩
      · rw [List.getElem?_set_ne (Ne.symm hj)] at e2
        obtain⟨u',r',q⟩:=hl j y v' e1 e2 e3
        refine⟨u',r',?_⟩
        rcases q with ⟨k,e⟩ | ⟨k,c,e,z⟩
        · refine .inl ⟨k,?_⟩
          have:y≠x:=fun e=>hj (pM hN e1 (e▸hi))
          simp [this,e]
        · exact .inr ⟨k,c,e,z.sameBut hs (cne y c e)⟩
    · obtain⟨w',z⟩:=I.cell y c e
      exact⟨w',z.sameBut hs (cne y c e)⟩
    · obtain⟨e,n,ne,nf,d⟩:=I.pin p hp
      exact⟨(hs.2 p.1 ne).trans e,n,ne,nf,d⟩
  · have hfn:X.fn x = true:=by
      rcases hf with z | z
      · exact z
      · rw [z] at hk;cases hk
    obtain⟨c,hc⟩:=I.ok.has x (.inl hk)
    obtain⟨w',z⟩:=I.cell x c hc
    refine wpAny_storeName_cell I.ok.kind hk hc z (fun h' hc' hs=>?_)
    obtain⟨oc,hoc,hocd⟩:=id z
    refine h { s with heap:=h' } ⟨I.ok,I.os,I.bare,⟨fun b o e n hb hx=>?_,fun b o e n hb hx=>?_,I.base.free,fun b o e hx=>?_,I.base.tups,I.base.frzs,I.base.tbls⟩,⟨m,hn.sameBut hs (Ne.symm (cne x c hc)),fun j y v' e1 e2 e3=>?_⟩,fun y c' e=>?_,I.free,I.freeC,fun p hp=>?_,tracked ⟨oc,hoc,I.freeC x c hc⟩ hs,by simpa using I.len⟩ ⟨c,hs,.inr hc⟩
    · exact(hs.2 b (Nat.ne_of_lt (Nat.lt_of_lt_of_le (Heap.lt_size e) (I.ok.cab x c hfn hc)))).trans (I.base.keep b o e n hb hx)
    · obtain⟨sl,e1⟩:=I.base.slot b o e n hb hx
      exact⟨sl,(hs.2 b (Nat.ne_of_lt (Nat.lt_of_lt_of_le (Heap.lt_size e) (I.ok.cab x c hfn hc)))).trans e1⟩
    · obtain⟨o',e1⟩:=I.base.there b o e hx
      exact⟨o',(hs.2 b (Nat.ne_of_lt (Nat.lt_of_lt_of_le (Heap.lt_size e) (I.ok.cab x c hfn hc)))).trans e1⟩
    · by_cases hj:j = i
      · subst hj
        rw [hi] at e1;cases e1
        rw [List.getElem?_set_self hiσ] at e2
        cases e2
        exact⟨u,r,.inr ⟨.inl hk,c,hc,hc'⟩⟩
      · rw [List.getElem?_set_ne (Ne.symm hj)] at e2
        obtain⟨u',r',q⟩:=hl j y v' e1 e2 e3
        refine⟨u',r',?_⟩
        rcases q with q | ⟨k,c',e,z'⟩
        · exact .inl q
        · refine .inr ⟨k,c',e,z'.sameBut hs ?_⟩
          rintro rfl
          exact hj (pM hN e1 (I.ok.inj _ _ _ e hc▸hi))
    · by_cases hcc:c' = c
      · subst hcc;exact⟨_,hc'⟩
      · obtain⟨w2,z2⟩:=I.cell y c' e
        exact⟨w2,z2.sameBut hs hcc⟩
    · obtain⟨e,n,ne,nf,d⟩:=I.pin p hp
      refine⟨(hs.2 p.1 ?_).trans e,n,ne,nf,d⟩
      intro q
      rw [q,hoc] at e
      have q':oc = p.2:=Option.some.inj e
      exact d w' (by rw [←q'];exact hocd)
theorem lF {M:Model} {A:Around} {E:Value→Shared→Prop} {i:Nat} {x:Str} {v:V} {u:Value} {Q:Unit→Shared→Prop} (I:Inv X pins σ H s) (hN:X.N.Nodup) (hi:X.N[i]? = some x) (hx:Loc X.env.scope x) (r:RelV v u)
    (h:∀s',Inv X pins (σ.set i (some v)) H s'→Q () s') (hf:X.fn x = true∨X.env.scope.names.lookup x = some .local:=by first | exact .inl rfl | exact .inr rfl | assumption):wpAny M A (storeName X.env x u) Q E s:=
  mQ I hN hi hx r (fun s' I' _=>h s' I') hf
theorem Inv.call' {s':Shared} {ch:List Addr} (I:Inv X pins σ H s) (ho:s'.os = s.os) (u:Un (frs X.stack) ch H H' s.heap s'.heap) (hok:HOk X.prog X.w H' s'.heap) (hg:AllBare s'.gens)
    (hch:∀b∈ch,(b∈X.ex∨X.s₀.heap.objs.size≤b)∧b≠X.env.locals∧(∀x c,X.env.cells.lookup x = some c→c≠b)∧∀p∈X.pn ++ pins,p.1≠b):Inv X pins σ H' s':=by
  obtain⟨h',g',d',t',o'⟩:=s'
  have e:o' = s.os:=ho
  subst e
  exact I.call (g':=g') (t':=t') (d':=d') u hok hg hch
end
abbrev XK:=Value→Option Addr→Hp→Prop
abbrev St:=List (Option V)
abbrev VK:=V→Hp→Prop
abbrev TE:=St→Hp→VK→Prop
abbrev TT:=St→Hp→(Bool→Hp→Prop)→Prop
abbrev TA:=St→Hp→(List V→Hp→Prop)→Prop
structure Ends where
 nx:St→Hp→Prop
 rt:VK
 bk:St→Hp→Prop:=fun _ _=>False
 ct:St→Hp→Prop:=fun _ _=>False
abbrev TS:=Ends→St→Hp→Prop
def EP (X:Cx) (pins:List (Addr×Obj)) (σ:St) (Q:VK) (u:Value) (s':Shared):Prop:=∃v H',Inv X pins σ H' s'∧RelV v u∧Q v H'
def TP (X:Cx) (pins:List (Addr×Obj)) (σ:St) (Q:Bool→Hp→Prop) (b:Bool) (s':Shared):Prop:=∃H',Inv X pins σ H' s'∧Q b H'
def AP (X:Cx) (pins:List (Addr×Obj)) (σ:St) (Q:List V→Hp→Prop) (us:List Value) (s':Shared):Prop:=∃vs H',Inv X pins σ H' s'∧Vals vs us∧Q vs H'
def SP (X:Cx) (pins:List (Addr×Obj)) (D:Ends) (f:Flow) (s':Shared):Prop:=
 match f with
 | .next=>∃σ' H',Inv X pins σ' H' s'∧D.nx σ' H'
 | .brk=>∃σ' H',Inv X pins σ' H' s'∧D.bk σ' H'
 | .cont=>∃σ' H',Inv X pins σ' H' s'∧D.ct σ' H'
 | .ret u=>∃v σ' H',Inv X pins σ' H' s'∧RelV v u∧D.rt v H'
def PE (X:Cx) (e:Expr) (t:TE):Prop:=
 ∀(pins:List (Addr×Obj)) (s:Shared) (σ:St) (H:Hp) (Q:VK),Inv X pins σ H s→t σ H Q→wpAny (model X.prog X.w) X.A (eval e X.env) (EP X pins σ Q) X.xe s
def PT (X:Cx) (e:Expr) (t:TT):Prop:=
 ∀(pins:List (Addr×Obj)) (s:Shared) (σ:St) (H:Hp) (Q:Bool→Hp→Prop),Inv X pins σ H s→t σ H Q→wpAny (model X.prog X.w) X.A (isTrue e X.env (eval e X.env)) (TP X pins σ Q) X.xe s
def PW (X:Cx) (e:Expr) (t:TT):Prop:=
 ∀(whole:Sem Value) (pins:List (Addr×Obj)) (s:Shared) (σ:St) (H:Hp) (Q:Bool→Hp→Prop),Inv X pins σ H s→t σ H Q→wpAny (model X.prog X.w) X.A (isTrue e X.env whole) (TP X pins σ Q) X.xe s
theorem PW.pt {X:Cx} {e:Expr} {t:TT} (h:PW X e t):PT X e t:=h _
def PA (X:Cx) (es:List Expr) (t:TA):Prop:=
 ∀(pos:Pos) (pins:List (Addr×Obj)) (s:Shared) (σ:St) (H:Hp) (Q:List V→Hp→Prop),Inv X pins σ H s→t σ H Q→wpAny (model X.prog X.w) X.A (spliced (backTo pos (starEach es X.env))) (AP X pins σ Q) X.xe s
def PS (X:Cx) (st:Stmt) (t:TS):Prop:=
 ∀(pins:List (Addr×Obj)) (s:Shared) (σ:St) (H:Hp) (D:Ends),Inv X pins σ H s→t D σ H→wpAny (model X.prog X.w) X.A (exec st X.env) (SP X pins D) X.xe s
def PSs (X:Cx) (st:List Stmt) (t:TS):Prop:=
 ∀(pins:List (Addr×Obj)) (s:Shared) (σ:St) (H:Hp) (D:Ends),Inv X pins σ H s→t D σ H→wpAny (model X.prog X.w) X.A (execs st X.env) (SP X pins D) X.xe s
theorem thn {α:Type} {t:Sem α} {Q Q':α→Shared→Prop} {M:Model} {A:Around} {E:Value→Shared→Prop} {s:Shared} (h:wpAny M A t Q E s) (hQ:∀a s,Q a s→Q' a s):wpAny M A t Q' E s:=wpAny_mono h hQ fun _ _ x=>x
end L2
namespace L2
open PySem PySem.Spec PyProof.Rows
section
variable {X:Cx}
theorem bin {a b:Expr} {ta tb:TE} (ha:PE X a ta) (hb:PE X b tb) {pins:List (Addr×Obj)} {s:Shared} {σ:St} {H:Hp} {R:V→V→Hp→Prop} (I:Inv X pins σ H s) (h:ta σ H fun x H1=>tb σ H1 fun y H2=>R x y H2)
    {α:Type} {Q:α→Shared→Prop} {f:Value→Value→Sem α}
    (hf:∀v u s2 x y H2,Inv X pins σ H2 s2→RelV x v→RelV y u→R x y H2→wpAny (model X.prog X.w) X.A (f v u) Q X.xe s2) :
    wpAny (model X.prog X.w) X.A (eval a X.env) (fun v s₁=>wpAny (model X.prog X.w) X.A (eval b X.env) (fun u s₂=>wpAny (model X.prog X.w) X.A (f v u) Q X.xe s₂) X.xe s₁) X.xe s:=by
  refine thn (ha pins s σ H _ I h) fun v s1 ⟨x,H1,I1,r1,q1⟩=>?_
  refine thn (hb pins s1 σ H1 _ I1 q1) fun u s2 ⟨y,H2,I2,r2,q2⟩=>?_
  exact hf v u s2 x y H2 I2 r1 r2 q2
def tVar (i:Nat):TE:=fun σ H Q=>∃v,σ[i]? = some (some v)∧Q v H
def tC (v:V):TE:=fun _ H Q=>Q v H
theorem a1H {i:Nat} {x:Str} {pos:Pos} (hN:X.N[i]? = some x) (hv:Vis X.env.scope x) (hd:(x == ("__debug__":Str)) = false:=by decide) (hcd:(x == ("__classdict__":Str)) = false:=by decide):PE X (.Name x pos) (tVar i):=by
 intro pins s σ H Q I h
 obtain⟨v,e,h⟩:=h
 obtain⟨m,hn,hl⟩:=I.loc
 obtain⟨u,r,l⟩:=hl i x v hN e hv
 have fin:EP X pins σ Q u s:=⟨v,H,I,r,h⟩
 rcases l with ⟨hk,hm⟩ | ⟨hk,c,hc,hcell⟩
 ·exact wpAny_Name (wpAny_loadName_local I.ok.kind hk hn hm fin) hd
 ·rcases hk with hk | hk
  ·exact wpAny_Name (wpAny_loadName_cell I.ok.kind hk hc hcell fin) hd
  ·exact wpAny_Name (wpAny_loadName_free I.ok.kind hk hc hcell fin hcd) hd
theorem aC {i j pos}:PE X (.Constant (.int i) j pos) (tC (.int i)):=fun _ _ _ H _ I h=>wpAny_Constant_int ⟨.int i,H,I.tok _,⟨_,rfl⟩,h⟩
theorem cL {b j pos}:PE X (.Constant (.bool b) j pos) (tC (.bl b)):=fun _ _ _ H _ I h=>Constant_bool ⟨.bl b,H,I,rfl,h⟩
theorem rA {j pos}:PE X (.Constant .none j pos) (tC .non):=fun _ _ _ H _ I h=>Constant_none ⟨.non,H,I,rfl,h⟩
theorem aQ {x j pos}:PE X (.Constant (.str x) j pos) (tC (.str x)):=fun _ _ _ H _ I h=>Calls.Constant_str ⟨.str x,H,I.tok _,⟨_,rfl⟩,h⟩
def Gl (X:Cx) (x:Str):Prop:=X.env.kindOf x = some .globalImplicit
theorem fY {E:Value→Shared→Prop} {pins:List (Addr×Obj)} {s:Shared} {σ:St} {H:Hp} {x:Str} {u:Value} {pos:Pos} {Q:Value→Shared→Prop} (I:Inv X pins σ H s) (hg:Gl X x) (hm:X.mg x = some u) (h:Q u s)
    (hd:(x == ("__debug__":Str)) = false:=by decide):wpAny (model X.prog X.w) X.A (eval (.Name x pos) X.env) Q E s:=
  Calls.Name_function_global I.ok.kind hg (Calls.loadGlobal_global (by rw [I.ok.glob];exact I.mod.glob.keeps I.bk) hm h) hd
theorem oE {E:Value→Shared→Prop} {pins:List (Addr×Obj)} {s:Shared} {σ:St} {H:Hp} {x:Str} {u:Value} {pos:Pos} {Q:Value→Shared→Prop} (I:Inv X pins σ H s) (hg:Gl X x) (hm:X.mg x = none) (hv:bootBuiltins x = some u) (h:Q u s)
    (hn:x≠"__name__":=by decide) (hd:(x == ("__debug__":Str)) = false:=by decide):wpAny (model X.prog X.w) X.A (eval (.Name x pos) X.env) Q E s:=by
  obtain⟨mb,h1,h2⟩:=I.mod.blt
  exact Calls.Name_function_global I.ok.kind hg (Calls.loadGlobal_builtin (by rw [I.ok.glob];exact I.mod.glob.keeps I.bk) hm (by rw [I.ok.blt];exact h1.keeps I.bk) ((h2 x hn).trans hv) h) hd
theorem bD {x:Str} {v:V} {u:Value} {pos:Pos} (hg:Gl X x) (hm:X.mg x = some u) (r:RelV v u) (hd:(x == ("__debug__":Str)) = false:=by decide):PE X (.Name x pos) (tC v):=
 fun _ _ _ H _ I h=>fY I hg hm ⟨v,H,I,r,h⟩ hd
theorem iJ {x:Str} {v:V} {u:Value} {pos:Pos} (hg:Gl X x) (hm:X.mg x = none) (hv:bootBuiltins x = some u) (r:RelV v u) (hn:x≠"__name__":=by decide) (hd:(x == ("__debug__":Str)) = false:=by decide):PE X (.Name x pos) (tC v):=
 fun _ _ _ H _ I h=>oE I hg hm hv ⟨v,H,I,r,h⟩ hn hd
def t2I (ta tb:TE) (k:Int→Int→Hp→Prop):St→Hp→Prop:=fun σ H=>ta σ H fun x H1=>tb σ H1 fun y H2=>∃i j,x = .int i∧y = .int j∧k i j H2
def tAdd (ta tb:TE):TE:=fun σ H Q=>t2I ta tb (fun i j H2=>Q (.int (i + j)) H2) σ H
def tSub (ta tb:TE):TE:=fun σ H Q=>t2I ta tb (fun i j H2=>Q (.int (i - j)) H2) σ H
def tMul (ta tb:TE):TE:=fun σ H Q=>t2I ta tb (fun i j H2=>(-(2 ^ 64) < i∧i < 2 ^ 64)∧Q (.int (i * j)) H2) σ H
variable {a b:Expr} {ta tb:TE} {pos:Pos}
def PC (X:Cx) (op:CmpOp) (a b:Expr) (t:TE):Prop:=
 ∀ (pins:List (Addr×Obj)) (s:Shared) (σ:St) (H:Hp) (Q:VK),Inv X pins σ H s→t σ H Q→
  wpAny (model X.prog X.w) X.A (eval a X.env) (fun v s₁=>wpAny (model X.prog X.w) X.A (eval b X.env) (fun u s₂=>wpAny (model X.prog X.w) X.A (compareOp op v u) (EP X pins σ Q) X.xe s₂) X.xe s₁) X.xe s
def tCmp (p:Int→Int→Bool) (ta tb:TE):TE:=fun σ H Q=>t2I ta tb (fun i j H2=>Q (.bl (p i j)) H2) σ H
abbrev tLt:TE→TE→TE:=tCmp fun i j=>decide (i < j)
abbrev tLe:TE→TE→TE:=tCmp fun i j=>decide (i≤j)
abbrev tGt:TE→TE→TE:=tCmp fun i j=>decide (j < i)
abbrev tGe:TE→TE→TE:=tCmp fun i j=>decide (j≤i)
abbrev tEqI:TE→TE→TE:=tCmp fun i j=>decide (i = j)
abbrev tNeI:TE→TE→TE:=tCmp fun i j=>!decide (i = j)
def tIsN (ta:TE):TE:=fun σ H Q=>ta σ H fun x H1=>Q (.bl (decide (x = .non))) H1
def tNotN (ta:TE):TE:=fun σ H Q=>ta σ H fun x H1=>Q (.bl (!decide (x = .non))) H1
def tB (t:TE):TT:=fun σ H Q=>t σ H fun x H1=>∃c,x = .bl c∧Q c H1
theorem a3M {op:CmpOp} {t:TE} (h:PC X op a b t) (h1:behindInMarks op b = false:=by first | exact nobehind _ (by decide) (by decide) | rfl):PT X (.Compare a [op] [b] pos) (tB t):=by
 intro pins s σ H Q I hw
 refine wpAny_isTrue_Compare1 (thn (h pins s σ H _ I hw) fun v s1 h1=>thn h1 fun u s2 h2=>thn h2 fun c s3 ⟨x,H1,I1,r1,q1⟩=>?_) h1
 obtain⟨d,rfl,q⟩:=q1
 cases r1
 exact wpAny_truthy_bool ⟨H1,I1,q⟩
theorem a1G {e:Expr} {t:TE} (h:PE X e t) (he:∀whole,isTrue e X.env whole = (do let v←whole;standAt e.pos;holding [v] (truthy v)):=by intro _;rfl):PT X e (tB t):=by
 intro pins s σ H Q I hw
 refine isTrue_plain (thn (h pins s σ H _ I hw) fun v s1 ⟨x,H1,I1,r1,q1⟩=>?_) (he _)
 obtain⟨d,rfl,q⟩:=q1
 cases r1
 exact wpAny_truthy_bool ⟨H1,I1,q⟩
variable {tA tB':TT} {rest:List Expr}
def tAnd (t u:TT):TT:=fun σ H Q=>t σ H fun c H1=>if c = true then u σ H1 Q else Q false H1
def tOr (t u:TT):TT:=fun σ H Q=>t σ H fun c H1=>if c = true then Q true H1 else u σ H1 Q
def tNot (t:TT):TT:=fun σ H Q=>t σ H fun c H1=>Q (!c) H1
theorem cN (ha:PT X a tA):PW X (.BoolOp .And [a] pos) tA:=by
 intro wh pins s σ H Q I h
 refine isTrue_and (thn (ha pins s σ H Q I h) fun c s1 e=>?_)
 cases c with
 | true=>exact isTrue_and_nil e
 | false=>exact e
theorem eY (ha:PT X a tA):PW X (.BoolOp .Or [a] pos) tA:=by
 intro wh pins s σ H Q I h
 refine isTrue_or (thn (ha pins s σ H Q I h) fun c s1 e=>?_)
 cases c with
 | false=>exact isTrue_or_nil e
 | true=>exact e
theorem cH (ha:PT X a tA) (hb:PW X (.BoolOp .And (b :: rest) pos) tB'):PW X (.BoolOp .And (a :: b :: rest) pos) (tAnd tA tB'):=by
 intro wh pins s σ H Q I h
 refine isTrue_and (thn (ha pins s σ H _ I h) fun c s1 ⟨H1,I1,q1⟩=>?_)
 cases c with
 | true=>exact hb wh pins s1 σ H1 Q I1 q1
 | false=>exact⟨H1,I1,q1⟩
theorem fH (ha:PT X a tA) (hb:PW X (.BoolOp .Or (b :: rest) pos) tB'):PW X (.BoolOp .Or (a :: b :: rest) pos) (tOr tA tB'):=by
 intro wh pins s σ H Q I h
 refine isTrue_or (thn (ha pins s σ H _ I h) fun c s1 ⟨H1,I1,q1⟩=>?_)
 cases c with
 | true=>exact⟨H1,I1,q1⟩
 | false=>exact hb wh pins s1 σ H1 Q I1 q1
theorem cV (ha:PT X a tA):PT X (.UnaryOp .Not a pos) (tNot tA):=by
 intro pins s σ H Q I h
 exact isTrue_not (ha pins s σ H (fun c H1=>Q (!c) H1) I h)
def tAndV (ta tb:TE):TE:=fun σ H Q=>ta σ H fun x H1=>∃c,x = .bl c∧if c = true then tb σ H1 Q else Q (.bl false) H1
def tOrV (ta tb:TE):TE:=fun σ H Q=>ta σ H fun x H1=>∃c,x = .bl c∧if c = true then Q (.bl true) H1 else tb σ H1 Q
def tNotV (ta:TE):TE:=fun σ H Q=>ta σ H fun x H1=>∃c,x = .bl c∧Q (.bl (!c)) H1
theorem jC {op} {t:TE} (h:PE X a t):PE X (.BoolOp op [a] pos) t:=fun pins s σ H Q I hw=>BoolOp_one (h pins s σ H Q I hw)
theorem a1K (ha:PE X a ta) (hb:PE X (.BoolOp .And (b :: rest) pos) tb):PE X (.BoolOp .And (a :: b :: rest) pos) (tAndV ta tb):=by
 intro pins s σ H Q I h
 refine BoolOp_and (thn (ha pins s σ H _ I h) fun v s1 ⟨x,H1,I1,r1,q1⟩=>?_)
 obtain⟨c,rfl,q1⟩:=q1
 cases r1
 refine wpAny_truthy_bool ?_
 cases c with
 | true=>exact hb pins s1 σ H1 Q I1 q1
 | false=>exact⟨.bl false,H1,I1,rfl,q1⟩
theorem a1I (ha:PE X a ta):PE X (.UnaryOp .Not a pos) (tNotV ta):=by
 intro pins s σ H Q I h
 refine UnaryOp_ (thn (ha pins s σ H _ I h) fun v s1 ⟨x,H1,I1,r1,q1⟩=>?_)
 obtain⟨c,rfl,q1⟩:=q1
 cases r1
 exact not_of (wpAny_truthy_bool ⟨.bl (!c),H1,I1,rfl,q1⟩)
def tIf (t:TT) (ta tb:TE):TE:=fun σ H Q=>t σ H fun c H1=>if c = true then ta σ H1 Q else tb σ H1 Q
theorem cP {c:Expr} (hc:PT X c tA) (ha:PE X a ta) (hb:PE X b tb):PE X (.IfExp c a b pos) (tIf tA ta tb):=by
 intro pins s σ H Q I h
 refine wpAny_IfExp (thn (hc pins s σ H _ I h) fun d s1 ⟨H1,I1,q1⟩=>?_)
 cases d with
 | true=>exact ha pins s1 σ H1 Q I1 q1
 | false=>exact hb pins s1 σ H1 Q I1 q1
end
end L2
namespace L2
open PySem PySem.Spec PyProof.Rows
def SqL (K:PySem.W.Frag) (H:Hp) (a:Addr) (xs:List V):Prop:=
 Rd H a (.lst xs)∨
  ∃(o:Obj) (its:Array Value) (n:Nat),K.lookup a = some o∧o.cls = .type "list"∧o.dict = none∧o.data = .seq its n∧its.size≤sizeLine∧Vals xs its.toList
def SqT (K:PySem.W.Frag) (H:Hp) (a:Addr) (xs:List V):Prop:=
 Rd H a (.tup xs)∨
  ∃(o:Obj) (its:Array Value) (n:Nat),K.lookup a = some o∧o.cls = .type "tuple"∧o.data = .seq its n∧its.size≤sizeLine∧Vals xs its.toList
def absV:Value→Option V
 | .none=>some .non
 | .bool b=>some (.bl b)
 | .int i _=>some (.int i)
 | .str x _=>some (.str x)
 | .bytes b _=>some (.byt b)
 | .float b _=>some (.flt b)
 | .ref a=>some (.ref a)
 | .type n=>some (.ty n)
 | _=>none
theorem RelV.abs {x:V} {u:Value} (r:RelV x u):absV u = some x:=by
 cases x with
 | non=>cases r;rfl
 | bl _=>cases r;rfl
 | int _=>obtain⟨t,rfl⟩:=r;rfl
 | str _=>obtain⟨t,rfl⟩:=r;rfl
 | byt _=>obtain⟨t,rfl⟩:=r;rfl
 | flt _=>obtain⟨t,rfl⟩:=r;rfl
 | ref _=>cases r;rfl
 | ty _=>cases r;rfl
theorem RelV.inj {x y:V} {u:Value} (r:RelV x u) (q:RelV y u):x = y:=Option.some.inj (r.abs.symm.trans q.abs)
theorem Vals.inj:∀{xs ys:List V} {us:List Value},Vals xs us→Vals ys us→xs = ys
 | _,_,_,.nil,.nil=>rfl
 | _,_,_,.cons r t,.cons r' t'=>by rw [r.inj r',Vals.inj t t']
section
variable {X:Cx} {pins:List (Addr×Obj)} {σ:St} {H:Hp} {s:Shared} {a:Addr} {xs ys:List V}
theorem SqL.of {K:PySem.W.Frag} (h:H a = some (.lst xs)):SqL K H a xs:= .inl (.inl h)
theorem SqT.of {K:PySem.W.Frag} (h:H a = some (.tup xs)):SqT K H a xs:= .inl (.inl h)
theorem Inv.list (I:Inv X pins σ H s) (h:SqL X.K H a xs):∃its:List Value,Vals xs its∧PlainL s.heap a its.toArray∧xs.length≤sizeLine:=by
 rcases h with h | ⟨o,its,n,hk,hc,hd,hs,hz,r⟩
 ·obtain⟨z,its,n,r,e⟩:=h.ok I.hok
  exact⟨its,r,⟨_,n,e,rfl,rfl,rfl⟩,z⟩
 ·refine⟨its.toList,r,⟨o,n,I.kIn a o hk,hc,hd,by simpa using hs⟩,?_⟩
  have e:=r.length
  simp only [Array.length_toList] at e
  omega
theorem Inv.tuple (I:Inv X pins σ H s) (h:SqT X.K H a xs):∃its:List Value,Vals xs its∧IsTup s.heap a its.toArray∧xs.length≤sizeLine:=by
 rcases h with h | ⟨o,its,n,hk,hc,hs,hz,r⟩
 ·obtain⟨z,its,r,p⟩:=h.ok I.hok
  exact⟨its,r,p,z⟩
 ·refine⟨its.toList,r,⟨o,I.kIn a o hk,hc,n,by simpa using hs⟩,?_⟩
  have e:=r.length
  simp only [Array.length_toList] at e
  omega
theorem Inv.list_inj (I:Inv X pins σ H s) (h:SqL X.K H a xs) (h':SqL X.K H a ys):xs = ys:=by
 obtain⟨its,r,⟨o,n,e,_,_,d⟩,_⟩:=I.list h
 obtain⟨its',r',⟨o',n',e',_,_,d'⟩,_⟩:=I.list h'
 rw [e] at e';cases e'
 rw [d] at d'
 injection d' with d1 _
 have:its = its':=by simpa using congrArg Array.toList d1
 subst this
 exact r.inj r'
theorem Inv.tuple_inj (I:Inv X pins σ H s) (h:SqT X.K H a xs) (h':SqT X.K H a ys):xs = ys:=by
 obtain⟨its,r,⟨o,e,_,n,d⟩,_⟩:=I.tuple h
 obtain⟨its',r',⟨o',e',_,n',d'⟩,_⟩:=I.tuple h'
 rw [e] at e';cases e'
 rw [d] at d'
 injection d' with d1 _
 have:its = its':=by simpa using congrArg Array.toList d1
 subst this
 exact r.inj r'
end
abbrev Cx.wish (X:Cx) (E:Value→Shared→Prop):Cx:={ X with xe:=E }
abbrev Cx.nox (X:Cx):Cx:=X.wish fun _ _=>False
theorem Cx.Ok.wish {X:Cx} (ok:X.Ok) (E:Value→Shared→Prop):(X.wish E).Ok:=
 ⟨ok.mod,ok.kind,ok.glob,ok.blt,ok.above,ok.inj,ok.has,ok.cab,ok.hd,ok.frames,ok.stk,ok.exf,ok.bs,ok.bsz,ok.noex,ok.exfs,ok.funs,ok.frf⟩
theorem Cx.Ok.unwish {X:Cx} {E:Value→Shared→Prop} (ok:(X.wish E).Ok):X.Ok:=
 ⟨ok.mod,ok.kind,ok.glob,ok.blt,ok.above,ok.inj,ok.has,ok.cab,ok.hd,ok.frames,ok.stk,ok.exf,ok.bs,ok.bsz,ok.noex,ok.exfs,ok.funs,ok.frf⟩
section
variable {X:Cx} {pins:List (Addr×Obj)} {σ:St} {H:Hp} {s:Shared} {E:Value→Shared→Prop}
theorem Inv.wish (I:Inv X pins σ H s) (E:Value→Shared→Prop):Inv (X.wish E) pins σ H s:=⟨I.ok.wish E,I.os,I.bare,I.base,I.loc,I.cell,I.free,I.freeC,I.pin,I.hok,I.len⟩
theorem Inv.unwish (I:Inv (X.wish E) pins σ H s):Inv X pins σ H s:=⟨I.ok.unwish,I.os,I.bare,I.base,I.loc,I.cell,I.free,I.freeC,I.pin,I.hok,I.len⟩
theorem SP.unwish {D:Ends} {f:Flow} {s':Shared} (h:SP (X.wish E) pins D f s'):SP X pins D f s':=by
 cases f with
 | next=>obtain⟨σ',H',I,q⟩:=h;exact⟨σ',H',I.unwish,q⟩
 | brk=>obtain⟨σ',H',I,q⟩:=h;exact⟨σ',H',I.unwish,q⟩
 | cont=>obtain⟨σ',H',I,q⟩:=h;exact⟨σ',H',I.unwish,q⟩
 | ret u=>obtain⟨v,σ',H',I,r,q⟩:=h;exact⟨v,σ',H',I.unwish,r,q⟩
theorem PSs.nox {st:List Stmt} {t:TS} (h:PSs X.nox st t):PSs X st t:=fun pins s σ H D I hw=>
 wpAny_mono (h pins s σ H D (I.wish _) hw) (fun _ _ q=>q.unwish) fun _ _ z=>False.elim z
end
section
variable {X:Cx} {st:Stmt} {rest:List Stmt} {t u:TS} {e:Expr} {te:TE} {pos:Pos}
def tNext:TS:=fun D σ H=>D.nx σ H
def tSeq (t u:TS):TS:=fun D σ H=>t { D with nx:=u D } σ H
theorem aP:PSs X [] tNext:=fun _ _ σ H _ I h=>wpAny_execs_nil ⟨σ,H,I,h⟩
theorem aD (h1:PS X st t) (h2:PSs X rest u):PSs X (st :: rest) (tSeq t u):=by
 intro pins s σ H D I h
 refine wpAny_execs_cons (thn (h1 pins s σ H { D with nx:=u D } I h) fun f s1 q=>?_)
 cases f with
 | next=>
  obtain⟨σ',H',I',q⟩:=q
  exact h2 pins s1 σ' H' D I' q
 | ret v=>exact q
 | brk=>exact q
 | cont=>exact q
theorem aG (h1:PS X st t):PSs X [st] t:=by
 intro pins s σ H D I h
 refine wpAny_execs_cons (thn (h1 pins s σ H D I h) fun f s1 q=>?_)
 cases f with
 | next=>exact wpAny_execs_nil q
 | ret v=>exact q
 | brk=>exact q
 | cont=>exact q
def tBreak:TS:=fun D σ H=>D.bk σ H
def tCont:TS:=fun D σ H=>D.ct σ H
theorem Inv.quiet {pins:List (Addr×Obj)} {σ:St} {H:Hp} {s:Shared} (I:Inv X pins σ H s):interactive X.env = false:=by simp [interactive,I.ok.kind]
def tDrop (te:TE):TS:=fun D σ H=>te σ H fun _ H1=>D.nx σ H1
theorem bF (he:PE X e te) (hs:swapsWith e none pos.line X.env = pure false:=by rfl):PS X (.Expr e pos) (tDrop te):=by
 intro pins s σ H D I h
 exact wpAny_Expr_any (thn (he pins s σ H _ I h) fun v s1 ⟨x,H1,I1,r1,q1⟩=>⟨σ,H1,I1,q1⟩) I.quiet hs
def tRet (te:TE):TS:=fun D σ H=>te σ H D.rt
theorem aL (he:PE X e te):PS X (.Return (some e) pos) (tRet te):=by
 intro pins s σ H D I h
 exact wpAny_Return_some (thn (he pins s σ H _ I h) fun v s1 ⟨x,H1,I1,r1,q1⟩=>⟨x,σ,H1,I1,r1,q1⟩)
def tRetN:TS:=fun D _ H=>D.rt .non H
def tIfS (c:TT) (t u:TS):TS:=fun D σ H=>c σ H fun b H1=>if b = true then t D σ H1 else u D σ H1
theorem aY {c:Expr} {a b:List Stmt} {tc:TT} (hc:PT X c tc) (ha:PSs X a t) (hb:PSs X b u):PS X (.If c a b pos) (tIfS tc t u):=by
 intro pins s σ H D I h
 refine wpAny_If (thn (hc pins s σ H _ I h) fun d s1 ⟨H1,I1,q1⟩=>?_)
 cases d with
 | true=>exact ha pins s1 σ H1 D I1 q1
 | false=>exact hb pins s1 σ H1 D I1 q1
def tNever:TS:=fun _ _ _=>False
end
abbrev TG:=V→St→Hp→(St→Hp→Prop)→Prop
abbrev TGs:=List V→St→Hp→(St→Hp→Prop)→Prop
def PG (X:Cx) (target:Expr) (t:TG):Prop:=
 ∀ (pins:List (Addr×Obj)) (s:Shared) (σ:St) (H:Hp) (v:V) (u:Value) (Q:St→Hp→Prop),Inv X pins σ H s→RelV v u→t v σ H Q→
  wpAny (model X.prog X.w) X.A (assign target X.env u) (fun _ s'=>∃σ' H',Inv X pins σ' H' s'∧Q σ' H') X.xe s
def PGs (X:Cx) (ts:List Expr) (t:TGs):Prop:=
 ∀ (pins:List (Addr×Obj)) (s:Shared) (σ:St) (H:Hp) (vs:List V) (us:List Value) (Q:St→Hp→Prop),Inv X pins σ H s→Vals vs us→t vs σ H Q→
  wpAny (model X.prog X.w) X.A (assignInOrder ((assignEach ts X.env).map (·.2)) us) (fun _ s'=>∃σ' H',Inv X pins σ' H' s'∧Q σ' H') X.xe s
abbrev TSet:=V→V→V→Hp→(Hp→Prop)→Prop
def PSet (X:Cx) (t:TSet):Prop:=
 ∀ (pins:List (Addr×Obj)) (s:Shared) (σ:St) (H:Hp) (o i v:V) (ov iv u:Value) (Q:Hp→Prop),Inv X pins σ H s→RelV o ov→RelV i iv→RelV v u→t o i v H Q→
  wpAny (model X.prog X.w) X.A (setItem ov iv u) (fun _ s'=>∃H',Inv X pins σ H' s'∧Q H') X.xe s
abbrev TIp:=V→V→Hp→VK→Prop
def PIp (X:Cx) (op:Operator) (t:TIp):Prop:=
 ∀ (pins:List (Addr×Obj)) (s:Shared) (σ:St) (H:Hp) (x y:V) (v u:Value) (Q:VK),Inv X pins σ H s→RelV x v→RelV y u→t x y H Q→
  wpAny (model X.prog X.w) X.A (inplaceOp op v u) (EP X pins σ Q) X.xe s
section
variable {X:Cx} {pos:Pos}
def gName (i:Nat):TG:=fun v σ H Q=>Q (σ.set i (some v)) H
theorem dC {i:Nat} {x:Str} (hN:X.N.Nodup) (hi:X.N[i]? = some x) (hx:Loc X.env.scope x) (hf:X.fn x = true∨X.env.scope.names.lookup x = some .local:=by first | exact .inl rfl | exact .inr rfl | assumption):PG X (.Name x pos) (gName i):=by
 intro pins s σ H v u Q I r h
 exact wpAny_assign_Name (lF I hN hi hx r (fun s' I'=>⟨_,H,I',h⟩) hf)
def gNil:TGs:=fun vs σ H Q=>vs = []∧Q σ H
def gCons (t:TG) (u:TGs):TGs:=fun vs σ H Q=>∃v r,vs = v :: r∧t v σ H fun σ' H'=>u r σ' H' Q
def gTup (K:PySem.W.Frag) (n:Nat) (t:TGs):TG:=fun v σ H Q=>∃a xs,v = .ref a∧SqT K H a xs∧xs.length = n∧t xs σ H Q
def gSub (to ti:TE) (t:TSet):TG:=fun v σ H Q=>to σ H fun o H1=>ti σ H1 fun i H2=>t o i v H2 fun H3=>Q σ H3
theorem bU {o i:Expr} {to ti:TE} {t:TSet} (ho:PE X o to) (hi:PE X i ti) (hs:PSet X t)
    (ha:∀v,assign (.Subscript o i pos) X.env v = (do
      let ov←holding [v] (eval o X.env)
      let iv←holding [v,ov] (eval i X.env)
      standAt pos
      holding [v,ov,iv] (setItem ov iv v)
      release [v,ov,iv] []):=by intro _;rfl):PG X (.Subscript o i pos) (gSub to ti t):=by
  intro pins s σ H v u Q I r h
  rw [ha]
  refine wpAny_bind (wpAny_holding (thn (ho pins s σ H _ I h) fun ov s1 ⟨x,H1,I1,r1,q1⟩=>?_))
  refine wpAny_bind (wpAny_holding (thn (hi pins s1 σ H1 _ I1 q1) fun iv s2 ⟨y,H2,I2,r2,q2⟩=>?_))
  refine wpAny_bind (wpAny_standAt (wpAny_bind (wpAny_holding (thn (hs pins s2 σ H2 x y v ov iv u _ I2 r1 r2 r q2) fun _ s3 ⟨H3,I3,q3⟩=>?_))))
  exact wpAny_release ⟨σ,H3,I3,q3⟩
def tAsg (te:TE) (g:TG):TS:=fun D σ H=>te σ H fun x H1=>g x σ H1 D.nx
theorem bT {tg e:Expr} {te:TE} {g:TG} (he:PE X e te) (hg:PG X tg g) (hs:swapsWithSole [tg] e pos.line X.env = pure false:=by rfl) (hw:swappedStores [tg] e X.env = pure none:=by rfl)
    (h1:(assignEach [tg] X.env).map (·.2) = [assign tg X.env]:=by rfl):PS X (.Assign [tg] e pos) (tAsg te g):=by
  intro pins s σ H D I h
  refine wpAny_Assign_stores (thn (he pins s σ H _ I h) fun v s1 ⟨x,H1,I1,r1,q1⟩=>?_) hs hw
  rw [h1]
  exact thn (hg pins s1 σ H1 x v _ I1 r1 q1) fun _ s2 q=>q
theorem aZ {i:Nat} {x:Str} {e:Expr} {te:TE} {pos':Pos} (hN:X.N.Nodup) (hi:X.N[i]? = some x) (hx:Loc X.env.scope x) (he:PE X e te) (hs:swapsWith e (some (.Name x pos')) pos.line X.env = pure false:=by rfl) (hf:X.fn x = true∨X.env.scope.names.lookup x = some .local:=by first | exact .inl rfl | exact .inr rfl | assumption) :
    PS X (.Assign [.Name x pos'] e pos) (tAsg te (gName i)):=by
  intro pins s σ H D I h
  refine wpAny_Assign_Name (thn (he pins s σ H _ I h) fun v s1 ⟨y,H1,I1,r1,q1⟩=>?_) hs
  exact lF I1 hN hi hx r1 (fun s2 I2=>⟨_,H1,I2,q1⟩) hf
def tPar (i j:Nat) (ta:TA):TS:=fun D σ H=>ta σ H fun vs H1=>∃v w,vs = [v,w]∧D.nx ((σ.set i (some v)).set j (some w)) H1
def tAug (i:Nat) (te:TE) (ti:TIp):TS:=fun D σ H=>∃x,σ[i]? = some (some x)∧te σ H fun y H1=>ti x y H1 fun z H2=>D.nx (σ.set i (some z)) H2
def tAugS (to ti te:TE) (tget:V→V→Hp→VK→Prop) (tip:TIp) (tset:TSet):TS:=fun D σ H=>to σ H fun o H1=>ti σ H1 fun i H2=>tget o i H2 fun x H3=>te σ H3 fun y H4=>tip x y H4 fun z H5=>tset o i z H5 fun H6=>D.nx σ H6
def PGet (X:Cx) (t:V→V→Hp→VK→Prop):Prop:=
 ∀ (pins:List (Addr×Obj)) (s:Shared) (σ:St) (H:Hp) (o i:V) (ov iv:Value) (Q:VK),Inv X pins σ H s→RelV o ov→RelV i iv→t o i H Q→
  wpAny (model X.prog X.w) X.A (getItem ov iv) (EP X pins σ Q) X.xe s
def ipI (f:Int→Int→Int):TIp:=fun x y H Q=>∃i j,x = .int i∧y = .int j∧Q (.int (f i j)) H
end
section
variable {X:Cx} {pos:Pos}
def tWhile (c:TT) (tb:TS):TS:=fun D σ H=>∃W:Nat→St→Hp→Prop,(∃m,W m σ H)∧∀m σ H,W m σ H→
 c σ H fun b H1=>if b = true then ∃N:St→Hp→Prop,(∀σ' H',N σ' H'→∃m',m' < m∧W m' σ' H')∧tb { D with nx:=N,ct:=N,bk:=D.nx } σ H1 else D.nx σ H1
theorem wF {c:Expr} {body:List Stmt} {tc:TT} {tb:TS} (hp:PassesOwn (model X.prog X.w) X.A X.env X.xe) (hc:PT X c tc) (hb:PSs X body tb):PS X (.While c body [] pos) (tWhile tc tb):=by
 intro pins s σ H D I h
 obtain⟨W,⟨m0,w0⟩,turn⟩:=h
 refine wpAny_While (codeAny_whileLoop (fun n s'=>∃σ' H',Inv X pins σ' H' s'∧W n σ' H') ?_ m0 ⟨σ,H,I,w0⟩)
 rintro n s1 ⟨σ1,H1,I1,w1⟩
 refine wpAny_passesOwn hp (thn (hc pins s1 σ1 H1 _ I1 (turn n σ1 H1 w1)) fun b s2 ⟨H2,I2,q2⟩=>?_)
 cases b with
 | true=>
  obtain⟨N,hN,q2⟩:=q2
  rw [if_pos rfl]
  refine wpAny_passesOwn hp (thn (hb pins s2 σ1 H2 _ I2 q2) fun f s3 q3=>?_)
  cases f with
  | next=>
   obtain⟨σ3,H3,I3,n3⟩:=q3
   obtain⟨m',hm,w3⟩:=hN σ3 H3 n3
   exact⟨m',hm,σ3,H3,I3,w3⟩
  | cont=>
   obtain⟨σ3,H3,I3,n3⟩:=q3
   obtain⟨m',hm,w3⟩:=hN σ3 H3 n3
   exact⟨m',hm,σ3,H3,I3,w3⟩
  | brk=>exact q3
  | ret v=>exact q3
 | false=>
  rw [if_neg Bool.false_ne_true]
  exact wpAny_execs_nil ⟨σ1,H2,I2,q2⟩
end
structure It where
 go:Nat→Hp→Prop
 yld:Nat→Hp→V→Hp→Prop
 stop:Nat→Hp→Prop
def FpOk (X:Cx) (pins:List (Addr×Obj)) (H:Hp) (b:Addr):Prop:=
 H b = none∧b≠X.env.locals∧b∉X.fs∧(b∈X.ex∨X.s₀.heap.objs.size≤b)∧(∀x c,X.env.cells.lookup x = some c→c≠b)∧∀p∈X.pn ++ pins,p.1≠b
theorem Inv.fpOk {X:Cx} {pins:List (Addr×Obj)} {σ:St} {H H':Hp} {s:Shared} {b:Addr} (I:Inv X pins σ H s) (hb:s.heap.objs.size≤b) (hn:H' b = none):FpOk X pins H' b:=by
 refine⟨hn,Nat.ne_of_gt (Nat.lt_of_lt_of_le I.lt hb),I.nofs hb,.inr (Nat.le_trans I.sz hb),fun x c e z=>?_,fun p hp z=>?_⟩
 ·obtain⟨v,q⟩:=I.cell x c e
  exact absurd (Nat.lt_of_lt_of_le q.lt (by rw [z];exact hb)) (Nat.lt_irrefl _)
 ·exact absurd (Nat.lt_of_lt_of_le (Heap.lt_size (I.pin p hp).1) (by rw [z];exact hb)) (Nat.lt_irrefl _)
structure Turn (P:Program) (w:World) (K:PySem.W.Frag) (tg:Expr) (J:It) (fp:List Addr) (it:Addr) (tn:Nat→Heap→Prop):Prop where
 mem:it∈fp
 obj:∀i h,tn i h→∀b∈fp,∃o,h.get? b = some o∧∀v,o.data≠ .cell v
 keep:∀i h h',tn i h→(∀b∈fp,∀o,h.get? b = some o→h'.get? b = some o)→tn i h'
 item :∀(X:Cx),X.prog = P→X.w = w→X.K = K→X.calm = true→∀(i:Nat) (pins:List (Addr×Obj)) (s:Shared) (σ:St) (H:Hp) (E:Value→Shared→Prop),Inv X pins σ H s→(∀b∈fp,FpOk X pins H b)→tn i s.heap→J.go i H→
  wpAny (model P w) X.A (pyNext (.ref it)) (fun r s1=>∃u,r = some u∧
   wpAny (model P w) X.A (letOwnedTupleGo tg (.ref it) u) (fun _ s2=>∃x H',Inv X pins σ H' s2∧RelV x u∧J.yld i H x H'∧tn (i + 1) s2.heap∧∀b∈fp,H' b = none) E s1) E s
 done:∀(X:Cx),X.prog = P→X.w = w→X.K = K→X.calm = true→∀(i:Nat) (pins:List (Addr×Obj)) (s:Shared) (σ:St) (H:Hp) (E:Value→Shared→Prop),Inv X pins σ H s→(∀b∈fp,FpOk X pins H b)→tn i s.heap→J.stop i H→
  wpAny (model P w) X.A (pyNext (.ref it)) (fun r s1=>r = none∧Inv X pins σ H s1) E s
 self:∀(A:Around) (i:Nat) (s:Shared) (Q:Value→Shared→Prop) (E:Value→Shared→Prop),tn i s.heap→Q (.ref it) s→wpAny (model P w) A (pyIter (.ref it)) Q E s
abbrev TI:=St→Hp→(It→Hp→Prop)→Prop
def PIE (X:Cx) (pins:List (Addr×Obj)) (σ:St) (tg:Expr) (R:It→Hp→Prop) (itv:Value) (s2:Shared):Prop:=
 ∃(it:Addr) (fp:List Addr) (tn:Nat→Heap→Prop) (J:It) (H':Hp),itv = .ref it∧Inv X pins σ H' s2∧Turn X.prog X.w X.K tg J fp it tn∧tn 0 s2.heap∧(∀b∈fp,FpOk X pins H' b)∧R J H'
def PI (X:Cx) (tg iter:Expr) (wi:TI):Prop:=
 ∀ (pins:List (Addr×Obj)) (s:Shared) (σ:St) (H:Hp) (R:It→Hp→Prop),Inv X pins σ H s→wi σ H R→
  wpAny (model X.prog X.w) X.A (eval iter X.env) (fun v s1=>wpAny (model X.prog X.w) X.A (pyIter v) (PIE X pins σ tg R) X.xe s1) X.xe s
theorem xW {M:Model} {A:Around} {E:Value→Shared→Prop} {s:Shared} {tg:Expr} {it:Addr} {u:Value} {o:Obj} {n:String} {vs:Array Value} {Q:Unit→Shared→Prop} (ho:s.heap.get? it = some o) (hc:o.cls = .type n) (hd:o.data = .fields vs)
    (hn:["enumerate","zip","dict_itemiterator","dict_reverseitemiterator","odict_iterator","itertools.zip_longest","itertools.pairwise"].contains n = false) (hQ:Q () s):wpAny M A (letOwnedTupleGo tg (.ref it) u) Q E s:=by
  unfold letOwnedTupleGo
  cases tg <;> first
    | exact wpAny_pure hQ
    | (cases u <;> first
        | exact wpAny_pure hQ
        | (refine wpAny_bind (wpAny_load ho ?_)
           rw [hc,hd]
           show wpAny M A (if (["enumerate","zip","dict_itemiterator","dict_reverseitemiterator","odict_iterator","itertools.zip_longest","itertools.pairwise"].contains n && vs[0]? == some (rawInt _)) = true then _ else _) Q E s
           rw [if_neg (by intro h;rw [hn,Bool.false_and] at h;cases h)]
           exact wpAny_pure hQ))
def Itl (K:PySem.W.Frag) (a:Addr):It:=
 ⟨fun i H=>∃xs x,SqL K H a xs∧xs[i]? = some x,fun i H x H'=>H' = H∧∀xs,SqL K H a xs→xs[i]? = some x,fun i H=>∃xs,SqL K H a xs∧xs.length≤i⟩
def Itt (K:PySem.W.Frag) (a:Addr):It:=
 ⟨fun i H=>∃xs x,SqT K H a xs∧xs[i]? = some x,fun i H x H'=>H' = H∧∀xs,SqT K H a xs→xs[i]? = some x,fun i H=>∃xs,SqT K H a xs∧xs.length≤i⟩
def Itr (lo:Int) (n:Nat):It:=⟨fun i _=>i < n,fun i H x H'=>H' = H∧x = .int (lo + i),fun i _=>n≤i⟩
theorem mL {P:Program} {w:World} {K:PySem.W.Frag} {tg:Expr} (a it:Addr):Turn P w K tg (Itl K a) [it] it (fun i h=>h.IsListIter it a i) where
 mem:=by simp
 obj:=fun i h st b hb=>by
  have e:b = it:=by simpa using hb
  subst e
  obtain⟨o,e,c,d⟩:=st
  exact⟨o,e,fun v z=>by rw [d] at z;cases z⟩
 keep:=fun i h h' st k=>st.at fun o e=>k it (by simp) o e
 item:=by
  intro X hP hw hK hc i pins s σ H E I hf st hg
  subst hP hw hK
  obtain⟨xs,x,hq,hx⟩:=hg
  obtain⟨its,rv,p,hz⟩:=I.list hq
  obtain⟨u,hu,ru⟩:=rv.get hx
  obtain⟨f0,f1,f2,f3,f4,f5⟩:=hf it (by simp)
  refine wpAny_pyNext_list_item st p.isList (x:=u) (by simpa using hu) fun h' st' sb=>?_
  have I1:Inv X pins σ H { s with heap:=h' }:=I.turned (t':=s.toks) (fun b o hb e=>(sb.2 b hb).trans e) f0 f1 f3 f4 f5
  obtain⟨o,e,c,d⟩:=id st'
  exact⟨u,rfl,xW (s:={ s with heap:=h' }) e c d (by decide) ⟨x,H,I1,ru,⟨rfl,fun ys hy=>by rw [I.list_inj hy hq];exact hx⟩,st',fun b hb=>(hf b hb).1⟩⟩
 done:=by
  intro X hP hw hK hc i pins s σ H E I hf st hg
  subst hP hw hK
  obtain⟨xs,hq,hx⟩:=hg
  obtain⟨its,rv,p,hz⟩:=I.list hq
  obtain⟨f0,f1,f2,f3,f4,f5⟩:=hf it (by simp)
  have hl:=rv.length
  exact wpAny_pyNext_list_end (I.ok.hd hc) st p.isList (by simp;omega) fun h' eb=>⟨rfl,I.turned (t':=s.toks) (fun b o hb e=>eb b o hb e) f0 f1 f3 f4 f5⟩
 self:=fun _ _ _ _ _ st h=>wpAny_pyIter_listiter st h
theorem qR {P:Program} {w:World} {K:PySem.W.Frag} {tg:Expr} (a it:Addr):Turn P w K tg (Itt K a) [it] it (fun i h=>h.IsTupleIter it a i) where
 mem:=by simp
 obj:=fun i h st b hb=>by
  have e:b = it:=by simpa using hb
  subst e
  obtain⟨o,e,c,d⟩:=st
  exact⟨o,e,fun v z=>by rw [d] at z;cases z⟩
 keep:=fun i h h' st k=>st.at fun o e=>k it (by simp) o e
 item:=by
  intro X hP hw hK hc i pins s σ H E I hf st hg
  subst hP hw hK
  obtain⟨xs,x,hq,hx⟩:=hg
  obtain⟨its,rv,p,hz⟩:=I.tuple hq
  obtain⟨u,hu,ru⟩:=rv.get hx
  obtain⟨f0,f1,f2,f3,f4,f5⟩:=hf it (by simp)
  refine wpAny_pyNext_tuple_item st (show s.heap.IsTuple a its.toArray from p) (x:=u) (by simpa using hu) fun h' st' sb=>?_
  have I1:Inv X pins σ H { s with heap:=h' }:=I.turned (t':=s.toks) (fun b o hb e=>(sb.2 b hb).trans e) f0 f1 f3 f4 f5
  obtain⟨o,e,c,d⟩:=id st'
  exact⟨u,rfl,xW (s:={ s with heap:=h' }) e c d (by decide) ⟨x,H,I1,ru,⟨rfl,fun ys hy=>by rw [I.tuple_inj hy hq];exact hx⟩,st',fun b hb=>(hf b hb).1⟩⟩
 done:=by
  intro X hP hw hK hc i pins s σ H E I hf st hg
  subst hP hw hK
  obtain⟨xs,hq,hx⟩:=hg
  obtain⟨its,rv,p,hz⟩:=I.tuple hq
  obtain⟨f0,f1,f2,f3,f4,f5⟩:=hf it (by simp)
  have hl:=rv.length
  exact wpAny_pyNext_tuple_end (I.ok.hd hc) st (show s.heap.IsTuple a its.toArray from p) (by simp;omega) fun h' eb=>⟨rfl,I.turned (t':=s.toks) (fun b o hb e=>eb b o hb e) f0 f1 f3 f4 f5⟩
 self:=fun _ _ _ _ _ st h=>wpAny_pyIter_tupleiter st h
theorem qT {P:Program} {w:World} {K:PySem.W.Frag} {tg:Expr} (it:Addr) (lo:Int) (n:Nat):Turn P w K tg (Itr lo n) [it] it (fun i h=>IsRangeIter h it (lo + (i:Nat) * 1) ((n:Int) - (i:Nat)) 1) where
 mem:=by simp
 obj :=fun i h st b hb=>by
  have e:b = it:=by simpa using hb
  subst e
  exact⟨_,st,fun v z=>by
   have z':Data.fields _ = Data.cell v:=z
   cases z'⟩
 keep:=fun i h h' st k=>k it (by simp) _ st
 item:=by
  intro X hP hw hK hc i pins s σ H E I hf st hg
  subst hP hw hK
  obtain⟨f0,f1,f2,f3,f4,f5⟩:=hf it (by simp)
  have W:=Walks.range (prog:=X.prog) (w:=X.w) (I.ok.hd hc) it lo 1 n
  refine W.item i s _ _ hg st fun v h' tk hv st' kk=>?_
  obtain⟨t,rfl⟩:=hv
  have I1:Inv X pins σ H { s with heap:=h',toks:=tk }:=I.turned (fun b o hb e=>kk b o (by simpa using hb) e) f0 f1 f3 f4 f5
  refine⟨_,rfl,xW (s:={ s with heap:=h',toks:=tk }) (n:="range_iterator") st' rfl rfl (by decide) ⟨.int (lo + i),H,I1,⟨t,?_⟩,⟨rfl,rfl⟩,st',fun b hb=>(hf b hb).1⟩⟩
  rw [Int.mul_one]
 done:=by
  intro X hP hw hK hc i pins s σ H E I hf st hg
  subst hP hw hK
  obtain⟨f0,f1,f2,f3,f4,f5⟩:=hf it (by simp)
  exact wpAny_pyNext_range_end (I.ok.hd hc) st (by have:n≤i:=hg;omega) fun h' eb=>⟨rfl,I.turned (t':=s.toks) (fun b o hb e=>eb b o hb e) f0 f1 f3 f4 f5⟩
 self:=fun _ _ _ _ _ st h=>wpAny_pyIter_rangeiter st h
end L2
namespace L2
open PySem PySem.Spec PyProof.Rows
section
variable {X:Cx} {tg:Expr}
def iList (K:PySem.W.Frag) (tl:TE):TI:=fun σ H R=>tl σ H fun x H1=>∃a,x = .ref a∧(∃xs,SqL K H1 a xs)∧R (Itl K a) H1
def iTup (K:PySem.W.Frag) (tl:TE):TI:=fun σ H R=>tl σ H fun x H1=>∃a,x = .ref a∧(∃xs,SqT K H1 a xs)∧R (Itt K a) H1
theorem zL {l:Expr} {tl:TE} (hl:PE X l tl):PI X tg l (iList X.K tl):=by
 intro pins s σ H R I h
 refine thn (hl pins s σ H _ I h) fun v s1 ⟨x,H1,I1,r1,q1⟩=>?_
 obtain⟨a,e,⟨xs,hq⟩,q⟩:=q1
 subst e
 cases r1
 obtain⟨its,rv,p,hz⟩:=I1.list hq
 refine wpAny_pyIter_list p.isList ?_
 refine⟨s1.heap.objs.size, [s1.heap.objs.size],_,_,H1,rfl,I1.kept (t':=s1.toks) fun b o e=>Heap.get?_push_of_some _ e,mL a _,⟨_,Heap.get?_push_size _ rfl,rfl,rfl⟩,fun b hb=>?_,q⟩
 have e:b = s1.heap.objs.size:=by simpa using hb
 subst e
 exact I1.fpOk (Nat.le_refl _) (I1.hok.fresh (Nat.le_refl _))
theorem vY {pins:List (Addr×Obj)} {σ:St} {H:Hp} {s:Shared} {R:It→Hp→Prop} {E:Value→Shared→Prop} {lo hi:Int} {t u v:Tok} {tk:Nat} (I:Inv X pins σ H s) (h1: -(2 ^ 62)≤lo) (h2:lo < 2 ^ 62) (h3: -(2 ^ 62)≤hi) (h4:hi < 2 ^ 62)
    (q:R (Itr lo (hi - lo).toNat) H):wpAny (model X.prog X.w) X.A (pyIter (.ref s.heap.objs.size)) (PIE X pins σ tg R) E { s with heap:=s.heap.push { cls:= .type "range",data:= .fields #[.int lo t,.int hi u,.int 1 v] },toks:=tk }:=by
  refine wpAny_pyIter_range (IsRange.new ..) (small_one h1 h2 h3 h4) ?_
  have I1:Inv X pins σ H { s with heap:=s.heap.push { cls:= .type "range",data:= .fields #[.int lo t,.int hi u,.int 1 v] },toks:=tk }:=I.kept fun b o e=>Heap.get?_push_of_some _ e
  refine⟨(s.heap.push { cls:= .type "range",data:= .fields #[.int lo t,.int hi u,.int 1 v] }).objs.size, [(s.heap.push { cls:= .type "range",data:= .fields #[.int lo t,.int hi u,.int 1 v] }).objs.size],_,_,H,rfl,
    I1.kept (t':=tk) fun b o e=>Heap.get?_push_of_some _ e,qT _ lo (hi - lo).toNat,?_,fun b hb=>?_,q⟩
  · have e1:lo + ((0:Nat):Int) * 1 = lo:=by simp
    have e2:(((hi - lo).toNat:Nat):Int) - ((0:Nat):Int) = Builtin.Range.rangeSize lo hi 1:=by rw [rangeSize_one];split <;> omega
    show IsRangeIter _ _ (lo + ((0:Nat):Int) * 1) ((((hi - lo).toNat:Nat):Int) - ((0:Nat):Int)) 1
    rw [e1,e2]
    exact Heap.get?_push_size _ rfl
  · have e:b = (s.heap.push { cls:= .type "range",data:= .fields #[.int lo t,.int hi u,.int 1 v] }).objs.size:=by simpa using hb
    subst e
    exact I1.fpOk (Nat.le_refl _) (I1.hok.fresh (Nat.le_refl _))
def iRng1 (ta:TA):TI:=fun σ H R=>ta σ H fun vs H1=>∃j:Int,vs = [.int j]∧ -(2 ^ 62)≤j∧j < 2 ^ 62∧R (Itr 0 j.toNat) H1
def iRng2 (ta:TA):TI:=fun σ H R=>ta σ H fun vs H1=>∃i j:Int,vs = [.int i,.int j]∧(-(2 ^ 62)≤i∧i < 2 ^ 62∧ -(2 ^ 62)≤j∧j < 2 ^ 62)∧R (Itr i (j - i).toNat) H1
theorem tW {a:Expr} {ta:TA} {p pos:Pos} (hg:Gl X "range") (hm:X.mg "range" = none) (ha:PA X [a] ta) (hs:starEach [a] X.env = [(false,eval a X.env)]:=by rfl):PI X tg (.Call (.Name "range" p) [a] [] pos) (iRng1 ta):=by
 intro pins s σ H R I h
 refine Call_ (oE I hg hm boot_range (PyProof.Rows.callWith_type1 (thn (ha pos pins s σ H _ I h) fun us s1 ⟨vs,H1,I1,r1,q1⟩=>?_) hs rfl))
 obtain⟨j,e,q1,q2,q⟩:=q1
 subst e
 cases r1 with
 | cons r rr=>
  cases rr
  obtain⟨t,rfl⟩:=r
  exact call_range_1 (vY I1 (by omega) (by omega) q1 q2 (by simpa using q))
def tFor (wi:TI) (g:TG) (tb:TS):TS:=fun D σ H=>wi σ H fun J H1=>∃W:Nat→Nat→St→Hp→Prop,(∃m,W 0 m σ H1)∧∀i m σ H,W i m σ H→
 (J.stop i H∧D.nx σ H)∨(J.go i H∧∃N:St→Hp→Prop,(∀σ' H',N σ' H'→∃m',m' < m∧W (i + 1) m' σ' H')∧∀x H',J.yld i H x H'→g x σ H' fun σ2 H2=>tb { D with nx:=N,ct:=N,bk:=D.nx } σ2 H2)
def pinsAt (fp:List Addr) (h:Heap):List (Addr×Obj):=fp.filterMap fun b=>(h.get? b).map fun o=>(b,o)
theorem fX {fp:List Addr} {h:Heap} {b:Addr} {o:Obj} (hb:b∈fp) (e:h.get? b = some o):(b,o)∈pinsAt fp h:=List.mem_filterMap.mpr ⟨b,hb,by rw [e];rfl⟩
theorem tX {fp:List Addr} {h:Heap} {p:Addr×Obj} (hp:p∈pinsAt fp h):p.1∈fp∧h.get? p.1 = some p.2:=by
 obtain⟨b,hb,e⟩:=List.mem_filterMap.mp hp
 cases q:h.get? b with
 | none=>rw [q] at e;cases e
 | some o=>
  rw [q] at e
  have e':(b,o) = p:=Option.some.inj e
  subst e'
  exact⟨hb,q⟩
theorem Inv.pinned {pins:List (Addr×Obj)} {σ:St} {H:Hp} {s:Shared} {fp:List Addr} (I:Inv X pins σ H s) (hf:∀b∈fp,FpOk X pins H b) (ho:∀b∈fp,∃o,s.heap.get? b = some o∧∀v,o.data≠ .cell v):Inv X (pins ++ pinsAt fp s.heap) σ H s:=
 I.pins_of fun p hp=>(List.mem_append.mp hp).elim (fun z=>I.pin p (List.mem_append_right _ z)) fun z=>by
  obtain⟨hb,e⟩:=tX z
  obtain⟨f0,f1,f2,_⟩:=hf p.1 hb
  obtain⟨o,e',d⟩:=ho p.1 hb
  rw [e] at e';cases e'
  exact⟨e,f0,f1,f2,d⟩
theorem Inv.unpinned {pins pl:List (Addr×Obj)} {σ:St} {H:Hp} {s:Shared} (I:Inv X (pins ++ pl) σ H s):Inv X pins σ H s:=I.pins_of fun p hp=>I.pin p (List.mem_append_right _ (List.mem_append_left _ hp))
theorem eE {iter:Expr} {body:List Stmt} {wi:TI} {g:TG} {tb:TS} {pos:Pos} (hp:PassesOwn (model X.prog X.w) X.A X.env X.xe) (hc:X.calm = true) (hi:PI X tg iter wi) (hg:PG X tg g) (hb:PSs X body tb)
    (hs:∀x,foldedSetIterable iter X.env x = pure x:=by intro _;rfl):PS X (.For tg iter body [] pos) (tFor wi g tb):=by
  intro pins s σ H D I h
  refine wpAny_For (thn (hi pins s σ H _ I h) fun v s1 h1=>thn h1 fun itv s2 h2=>?_) hs
  obtain⟨it,fp,tn,J,H2,e,I2,T,st2,f2,W,⟨m0,w0⟩,turn⟩:=h2
  subst e
  have stat:∀{H':Hp},(∀b∈fp,H' b = none)→∀b∈fp,FpOk X pins H' b:=fun hn b hb=>⟨hn b hb,(f2 b hb).2⟩
  refine codeAny_forLoop_any (fun n s'=>∃i σ' H',Inv X pins σ' H' s'∧tn i s'.heap∧(∀b∈fp,H' b = none)∧W i n σ' H') ?_ m0 ⟨0,σ,H2,I2,st2,fun b hb=>(f2 b hb).1,w0⟩
  rintro n s3 ⟨i,σ3,H3,I3,st3,fr3,w3⟩
  rcases turn i n σ3 H3 w3 with ⟨stop,qn⟩ | ⟨go,N,hN,step⟩
  · refine wpAny_passesOwn hp (thn (T.done X rfl rfl rfl hc i pins s3 σ3 H3 X.xe I3 (stat fr3) st3 stop) fun r s4 ⟨hr,I4⟩=>?_)
    subst hr
    exact wpAny_execs_nil ⟨σ3,H3,I4,qn⟩
  · refine wpAny_passesOwn hp (thn (T.item X rfl rfl rfl hc i pins s3 σ3 H3 X.xe I3 (stat fr3) st3 go) fun r s4 ⟨u,hr,h4⟩=>?_)
    subst hr
    refine wpAny_passesOwn hp (thn h4 fun _ s5 ⟨x,H5,I5,r5,y5,st5,fr5⟩=>?_)
    have I5':=I5.pinned (stat fr5) (T.obj _ _ st5)
    refine wpAny_passesOwn hp (thn (hg _ s5 σ3 H5 x u _ I5' r5 (step x H5 y5)) fun _ s6 ⟨σ6,H6,I6,q6⟩=>?_)
    refine wpAny_passesOwn hp (thn (hb _ s6 σ6 H6 _ I6 q6) fun f s7 q7=>?_)
    have again:∀{σ7:St} {H7:Hp},Inv X (pins ++ pinsAt fp s5.heap) σ7 H7 s7→N σ7 H7→∃m,m < n∧∃i σ' H',Inv X pins σ' H' s7∧tn i s7.heap∧(∀b∈fp,H' b = none)∧W i m σ' H':=fun {σ7 H7} I7 n7=>by
      obtain⟨m',hm,w7⟩:=hN σ7 H7 n7
      refine⟨m',hm,i + 1,σ7,H7,I7.unpinned,T.keep _ _ _ st5 fun b hb o e=>(I7.pin (b,o) (List.mem_append_right _ (List.mem_append_right _ (fX hb e)))).1,fun b hb=>?_,w7⟩
      obtain⟨o,e,d⟩:=T.obj _ _ st5 b hb
      exact(I7.pin (b,o) (List.mem_append_right _ (List.mem_append_right _ (fX hb e)))).2.1
    cases f with
    | next=>obtain⟨σ7,H7,I7,n7⟩:=q7;exact again I7 n7
    | cont=>obtain⟨σ7,H7,I7,n7⟩:=q7;exact again I7 n7
    | brk=>obtain⟨σ7,H7,I7,q7⟩:=q7;exact⟨σ7,H7,I7.unpinned,q7⟩
    | ret v=>obtain⟨x7,σ7,H7,I7,r7,q7⟩:=q7;exact⟨x7,σ7,H7,I7.unpinned,r7,q7⟩
end
theorem dO {K:PySem.W.Frag} {a:Addr} {xs:List V} {g:TG} {tb:TS} {D:Ends} {σ:St} {H:Hp} (Pv:Nat→St→Hp→Prop) (h0:Pv 0 σ H) (hl:∀i σ H,i≤xs.length→Pv i σ H→SqL K H a xs)
    (hs:∀i x σ H,xs[i]? = some x→Pv i σ H→g x σ H fun σ2 H2=>tb { D with nx:=Pv (i + 1),ct:=Pv (i + 1),bk:=D.nx } σ2 H2) (hd:∀σ H,Pv xs.length σ H→D.nx σ H) :
    ∃ W:Nat→Nat→St→Hp→Prop,(∃m,W 0 m σ H)∧∀i m σ H,W i m σ H→
      ((Itl K a).stop i H∧D.nx σ H)∨((Itl K a).go i H∧∃N:St→Hp→Prop,(∀σ' H',N σ' H'→∃m',m' < m∧W (i + 1) m' σ' H')∧∀x H',(Itl K a).yld i H x H'→g x σ H' fun σ2 H2=>tb { D with nx:=N,ct:=N,bk:=D.nx } σ2 H2):=by
  refine⟨fun i m σ H=>m = xs.length - i∧i≤xs.length∧Pv i σ H,⟨xs.length,by simp,Nat.zero_le _,h0⟩,?_⟩
  rintro i m σ H ⟨rfl,hi,p⟩
  have q:=hl i σ H hi p
  by_cases hlt:i < xs.length
  · refine .inr ⟨⟨xs,xs[i],q,by simp [hlt]⟩,Pv (i + 1),fun σ' H' p'=>⟨xs.length - (i + 1),by omega,rfl,hlt,p'⟩,fun x H' y=>?_⟩
    obtain⟨e,y⟩:=y
    subst e
    exact hs i x σ _ (y xs q) p
  · have e:i = xs.length:=by omega
    subst e
    exact .inl ⟨⟨xs,q,Nat.le_refl _⟩,hd σ H p⟩
theorem jK {lo:Int} {n:Nat} {g:TG} {tb:TS} {D:Ends} {σ:St} {H:Hp} (Pv:Nat→St→Hp→Prop) (h0:Pv 0 σ H)
    (hs:∀i σ H,i < n→Pv i σ H→g (.int (lo + i)) σ H fun σ2 H2=>tb { D with nx:=Pv (i + 1),ct:=Pv (i + 1),bk:=D.nx } σ2 H2) (hd:∀σ H,Pv n σ H→D.nx σ H) :
    ∃ W:Nat→Nat→St→Hp→Prop,(∃m,W 0 m σ H)∧∀i m σ H,W i m σ H→
      ((Itr lo n).stop i H∧D.nx σ H)∨((Itr lo n).go i H∧∃N:St→Hp→Prop,(∀σ' H',N σ' H'→∃m',m' < m∧W (i + 1) m' σ' H')∧∀x H',(Itr lo n).yld i H x H'→g x σ H' fun σ2 H2=>tb { D with nx:=N,ct:=N,bk:=D.nx } σ2 H2):=by
  refine⟨fun i m σ H=>m = n - i∧i≤n∧Pv i σ H,⟨n,by simp,Nat.zero_le _,h0⟩,?_⟩
  rintro i m σ H ⟨rfl,hi,p⟩
  by_cases hlt:i < n
  · refine .inr ⟨hlt,Pv (i + 1),fun σ' H' p'=>⟨n - (i + 1),by omega,rfl,hlt,p'⟩,fun x H' y=>?_⟩
    obtain⟨e,y⟩:=y
    subst e y
    exact hs i σ _ hlt p
  · have e:i = n:=by omega
    subst e
    exact .inl ⟨Nat.le_refl _,hd σ H p⟩
end L2
namespace L2
open PySem PySem.Spec PyProof.Rows
abbrev R2:=V→V→Hp→VK→Prop
def OpR (X:Cx) (f:Value→Value→Sem Value) (r:R2):Prop:=
 ∀ (pins:List (Addr×Obj)) (s:Shared) (σ:St) (H:Hp) (x y:V) (v u:Value) (Q:VK),Inv X pins σ H s→RelV x v→RelV y u→r x y H Q→
  wpAny (model X.prog X.w) X.A (f v u) (EP X pins σ Q) X.xe s
def UnR (X:Cx) (f:Value→Sem Value) (r:V→Hp→VK→Prop):Prop:=
 ∀ (pins:List (Addr×Obj)) (s:Shared) (σ:St) (H:Hp) (x:V) (v:Value) (Q:VK),Inv X pins σ H s→RelV x v→r x H Q→
  wpAny (model X.prog X.w) X.A (f v) (EP X pins σ Q) X.xe s
def CallR (X:Cx) (f:Value) (r:List V→Hp→VK→Prop):Prop:=
 ∀ (pins:List (Addr×Obj)) (s:Shared) (σ:St) (H:Hp) (xs:List V) (us:List Value) (Q:VK),Inv X pins σ H s→Vals xs us→r xs H Q→
  wpAny (model X.prog X.w) X.A (call f us) (EP X pins σ Q) X.xe s
def TruR (X:Cx) (r:V→Hp→(Bool→Hp→Prop)→Prop):Prop:=
 ∀ (pins:List (Addr×Obj)) (s:Shared) (σ:St) (H:Hp) (x:V) (v:Value) (Q:Bool→Hp→Prop),Inv X pins σ H s→RelV x v→r x H Q→
  wpAny (model X.prog X.w) X.A (truthy v) (TP X pins σ Q) X.xe s
def tOp (r:R2) (ta tb:TE):TE:=fun σ H Q=>ta σ H fun x H1=>tb σ H1 fun y H2=>r x y H2 Q
def tUn (r:V→Hp→VK→Prop) (ta:TE):TE:=fun σ H Q=>ta σ H fun x H1=>r x H1 Q
def rI (C:Int→Int→Prop) (g:Int→Int→V):R2:=fun x y H Q=>∃i j,x = .int i∧y = .int j∧C i j∧Q (g i j) H
def rI0 (g:Int→Int→V):R2:=fun x y H Q=>∃i j,x = .int i∧y = .int j∧Q (g i j) H
def rU (g:Int→V):V→Hp→VK→Prop:=fun x H Q=>∃i,x = .int i∧Q (g i) H
section
variable {X:Cx} {a b c:Expr} {ta tb tc:TE} {pos:Pos}
theorem a2K (ha:PE X a ta) (hb:PE X b tb) {pins:List (Addr×Obj)} {s:Shared} {σ:St} {H:Hp} {R:V→V→Hp→Prop} (I:Inv X pins σ H s)
    (h:ta σ H fun x H1=>tb σ H1 fun y H2=>R x y H2) {Q:Value→Shared→Prop} {f:Value→Value→Sem Value}
    (hf:∀v u s2 x y H2,Inv X pins σ H2 s2→RelV x v→RelV y u→R x y H2→wpAny (model X.prog X.w) X.A (f v u) Q X.xe s2) :
    wpAny (model X.prog X.w) X.A (eval a X.env) (fun v s₁=>wpAny (model X.prog X.w) X.A (eval b X.env) (fun u s₂=>wpAny (model X.prog X.w) X.A (f v u) Q X.xe s₂) X.xe s₁) X.xe s:=by
  refine thn (ha pins s σ H _ I h) fun v s1 ⟨x,H1,I1,r1,q1⟩=>?_
  refine thn (hb pins s1 σ H1 _ I1 q1) fun u s2 ⟨y,H2,I2,r2,q2⟩=>?_
  exact hf v u s2 x y H2 I2 r1 r2 q2
theorem aU {op:Operator} {r:R2} (ho:OpR X (binaryOp op) r) (ha:PE X a ta) (hb:PE X b tb):PE X (.BinOp a op b pos) (tOp r ta tb):=by
 intro pins s σ H Q I h
 exact wpAny_BinOp (a2K ha hb I h fun v u s2 x y H2 I2 rx ry q=>ho pins s2 σ H2 x y v u Q I2 rx ry q)
theorem jO {op:UnaryOp} {r:V→Hp→VK→Prop} (ho:UnR X (unaryOp op) r) (ha:PE X a ta):PE X (.UnaryOp op a pos) (tUn r ta):=by
 intro pins s σ H Q I h
 exact UnaryOp_ (thn (ha pins s σ H _ I h) fun v s1 ⟨x,H1,I1,r1,q1⟩=>ho pins s1 σ H1 x v Q I1 r1 q1)
theorem opI {f:Value→Value→Sem Value} {C:Int→Int→Prop} {g:Int→Int→Int}
    (rule:∀(i j:Int) (t u:Tok) (s:Shared) (Q:Value→Shared→Prop) (E:Value→Shared→Prop),C i j→Q (.int (g i j) s.toks) { s with toks:=s.toks + 1 }→wpAny (model X.prog X.w) X.A (f (.int i t) (.int j u)) Q E s) :
    OpR X f (rI C fun i j=> .int (g i j)):=by
  intro pins s σ H x y v u Q I rx ry h
  obtain⟨i,j,rfl,rfl,hc,q⟩:=h
  obtain⟨t,rfl⟩:=rx
  obtain⟨t',rfl⟩:=ry
  exact rule i j t t' s _ _ hc ⟨.int (g i j),H,I.tok _,⟨_,rfl⟩,q⟩
theorem zP {f:Value→Value→Sem Value} {g:Int→Int→Int}
    (rule:∀(i j:Int) (t u:Tok) (s:Shared) (Q:Value→Shared→Prop) (E:Value→Shared→Prop),Q (.int (g i j) s.toks) { s with toks:=s.toks + 1 }→wpAny (model X.prog X.w) X.A (f (.int i t) (.int j u)) Q E s) :
    OpR X f (rI0 fun i j=> .int (g i j)):=by
  intro pins s σ H x y v u Q I rx ry h
  obtain⟨i,j,rfl,rfl,q⟩:=h
  obtain⟨t,rfl⟩:=rx
  obtain⟨t',rfl⟩:=ry
  exact rule i j t t' s _ _ ⟨.int (g i j),H,I.tok _,⟨_,rfl⟩,q⟩
theorem zQ {f:Value→Value→Sem Value} {g:Int→Int→Bool}
    (rule:∀(i j:Int) (t u:Tok) (s:Shared) (Q:Value→Shared→Prop) (E:Value→Shared→Prop),Q (.bool (g i j)) s→wpAny (model X.prog X.w) X.A (f (.int i t) (.int j u)) Q E s) :
    OpR X f (rI0 fun i j=> .bl (g i j)):=by
  intro pins s σ H x y v u Q I rx ry h
  obtain⟨i,j,rfl,rfl,q⟩:=h
  obtain⟨t,rfl⟩:=rx
  obtain⟨t',rfl⟩:=ry
  exact rule i j t t' s _ _ ⟨.bl (g i j),H,I,rfl,q⟩
def CDiv (i j:Int):Prop:=0 < j∧j < 1073741824
def CDivN (i j:Int):Prop:=j≠0∧j.natAbs < 1073741824
def CPow (i j:Int):Prop:=0≤j∧j≤1000000∧i.natAbs < 2 ^ 64
def CMul (i j:Int):Prop:=(-(2 ^ 64) < i∧i < 2 ^ 64)∨(-(2 ^ 64) < j∧j < 2 ^ 64)
theorem qQ (k:Nat):(0:Int)≤2 ^ k:=by
 rw [two_pow_cast]
 exact Int.natCast_nonneg _
theorem a1T:OpR X (binaryOp .Add) (rI0 fun i j=> .int (i + j)):=zP fun _ _ _ _ _ _ _ q=>add_int q
theorem a1N:OpR X (binaryOp .Sub) (rI0 fun i j=> .int (i - j)):=zP fun _ _ _ _ _ _ _ q=>sub_int q
theorem zO:OpR X (binaryOp .FloorDiv) (rI CDiv fun i j=> .int (i / j)):=opI fun i j _ _ _ _ _ hc q=>by
 have h1:(0:Int) < j:=hc.1
 have h2:j < 1073741824:=hc.2
 exact floordiv_int (by omega) (by rw [Int.fdiv_eq_ediv_of_nonneg i (by omega)];exact q) (.inl (PyProof.noPylong_small (by omega)))
theorem a1Q:OpR X (binaryOp .Mod) (rI (fun _ j=>0 < j) fun i j=> .int (i % j)):=opI fun i j _ _ _ _ _ hc q=>by
 have h1:(0:Int) < j:=hc
 exact mod_int' (by omega) (by rw [Int.fmod_eq_emod_of_nonneg i (by omega)];exact q)
theorem a1O:OpR X (binaryOp .RShift) (rI (fun _ j=>0≤j) fun i j=> .int (i / 2 ^ j.toNat)):=opI fun i j _ _ _ _ _ hc q=>
 rshift_int hc (by rw [Int.fdiv_eq_ediv_of_nonneg i (qQ _)];exact q)
theorem a1S:OpR X (binaryOp .BitAnd) (rI0 fun i j=> .int (Builtin.bitAnd i j)):=zP fun _ _ _ _ _ _ _ q=>and_int q
theorem a1M:OpR X (binaryOp .BitXor) (rI0 fun i j=> .int (Builtin.bitXor i j)):=zP fun _ _ _ _ _ _ _ q=>xor_int q
theorem unI {f:Value→Sem Value} {g:Int→Int}
    (rule:∀(i:Int) (t:Tok) (s:Shared) (Q:Value→Shared→Prop) (E:Value→Shared→Prop),Q (.int (g i) s.toks) { s with toks:=s.toks + 1 }→wpAny (model X.prog X.w) X.A (f (.int i t)) Q E s) :
    UnR X f (rU fun i=> .int (g i)):=by
  intro pins s σ H x v Q I rx h
  obtain⟨i,rfl,q⟩:=h
  obtain⟨t,rfl⟩:=rx
  exact rule i t s _ _ ⟨.int (g i),H,I.tok _,⟨_,rfl⟩,q⟩
theorem a1C:UnR X (unaryOp .USub) (rU fun i=> .int (-i)):=unI fun _ _ _ _ _ q=>neg_int q
end
def scal:V→V→Bool
 | .non,.non=>true | .non,.int _=>true | .int _,.non=>true | .non,.bl _=>true | .bl _,.non=>true | .non,.str _=>true | .str _,.non=>true
 | .int _,.int _=>true | .bl _,.bl _=>true | .str _,.str _=>true | .byt _,.byt _=>true
 | .int _,.str _=>true | .str _,.int _=>true | .bl _,.str _=>true | .str _,.bl _=>true
 | _,_=>false
def rEq:R2:=fun x y H Q=>scal x y = true∧Q (.bl (decide (x = y))) H
def rNe:R2:=fun x y H Q=>scal x y = true∧Q (.bl (!decide (x = y))) H
theorem sZ {i j:Int}:decide (V.int i = V.int j) = (i == j):=by
 rw [Bool.eq_iff_iff]
 simp
theorem yF {i j:Bool}:decide (V.bl i = V.bl j) = (i == j):=by
 rw [Bool.eq_iff_iff]
 simp
theorem sY {i j:Str}:decide (V.str i = V.str j) = (i == j):=by
 rw [Bool.eq_iff_iff]
 simp
theorem tD {i j:Array UInt8}:decide (V.byt i = V.byt j) = (i.toList == j.toList):=by
 rw [Bool.eq_iff_iff]
 cases i
 cases j
 simp
section
variable {X:Cx} {a b c:Expr} {ta tb tc:TE} {pos:Pos}
theorem bV {pins:List (Addr×Obj)} {σ:St} {H:Hp} {s:Shared} {Q:VK} {k k':Bool} (I:Inv X pins σ H s) (q:Q (.bl k) H) (e:k = k'):EP X pins σ Q (.bool k') s:=by
 subst e
 exact⟨.bl k,H,I,rfl,q⟩
theorem a2X:OpR X (compareOp .Eq) rEq:=by
 intro pins s σ H x y v u Q I rx ry h
 obtain⟨hs,q⟩:=h
 cases x with
 | non=>
  cases rx
  cases y with
  | non=>cases ry;exact PySem.EqNone.eq_none_none (bV I q (by simp))
  | bl j=>cases ry;exact PySem.EqNone.eq_none_bool (bV I q (by simp))
  | int j=>obtain⟨t',rfl⟩:=ry;exact PySem.EqNone.eq_none_int (bV I q (by simp))
  | str j=>obtain⟨t',rfl⟩:=ry;exact PySem.EqNone.eq_none_str (bV I q (by simp))
  | _=>exact absurd (show false = true from hs) Bool.false_ne_true
 | bl i=>
  cases rx
  cases y with
  | non=>cases ry;exact PySem.EqNone.eq_bool_none (bV I q (by simp))
  | bl j=>cases ry;exact eq_bool (bV I q yF)
  | str j=>obtain⟨t',rfl⟩:=ry;exact PySem.EqMixed.eq_bool_str (bV I q (by simp))
  | _=>exact absurd (show false = true from hs) Bool.false_ne_true
 | int i=>
  obtain⟨t,rfl⟩:=rx
  cases y with
  | non=>cases ry;exact PySem.EqNone.eq_int_none (bV I q (by simp))
  | int j=>obtain⟨t',rfl⟩:=ry;exact eq_int (bV I q sZ)
  | str j=>obtain⟨t',rfl⟩:=ry;exact PySem.EqMixed.eq_int_str (bV I q (by simp))
  | _=>exact absurd (show false = true from hs) Bool.false_ne_true
 | str i=>
  obtain⟨t,rfl⟩:=rx
  cases y with
  | non=>cases ry;exact PySem.EqNone.eq_str_none (bV I q (by simp))
  | bl j=>cases ry;exact PySem.EqMixed.eq_str_bool (bV I q (by simp))
  | int j=>obtain⟨t',rfl⟩:=ry;exact PySem.EqMixed.eq_str_int (bV I q (by simp))
  | str j=>obtain⟨t',rfl⟩:=ry;exact eq_str (bV I q sY)
  | _=>exact absurd (show false = true from hs) Bool.false_ne_true
 | byt i=>
  obtain⟨t,rfl⟩:=rx
  cases y with
  | byt j=>obtain⟨t',rfl⟩:=ry;exact PySem.W.eq_bytes (bV I q tD)
  | _=>exact absurd (show false = true from hs) Bool.false_ne_true
 | _=>cases y <;> exact absurd (show false = true from hs) Bool.false_ne_true
theorem a2S:OpR X (compareOp .NotEq) rNe:=by
 intro pins s σ H x y v u Q I rx ry h
 obtain⟨hs,q⟩:=h
 cases x with
 | non=>
  cases rx
  cases y with
  | non=>cases ry;exact PySem.EqNone.ne_none_none (bV I q (by simp))
  | bl j=>cases ry;exact PySem.EqNone.ne_none_bool (bV I q (by simp))
  | int j=>obtain⟨t',rfl⟩:=ry;exact PySem.EqNone.ne_none_int (bV I q (by simp))
  | str j=>obtain⟨t',rfl⟩:=ry;exact PySem.EqNone.ne_none_str (bV I q (by simp))
  | _=>exact absurd (show false = true from hs) Bool.false_ne_true
 | bl i=>
  cases rx
  cases y with
  | non=>cases ry;exact PySem.EqNone.ne_bool_none (bV I q (by simp))
  | bl j=>cases ry;exact ne_bool (bV I q (congrArg not yF))
  | str j=>obtain⟨t',rfl⟩:=ry;exact PySem.EqMixed.ne_bool_str (bV I q (by simp))
  | _=>exact absurd (show false = true from hs) Bool.false_ne_true
 | int i=>
  obtain⟨t,rfl⟩:=rx
  cases y with
  | non=>cases ry;exact PySem.EqNone.ne_int_none (bV I q (by simp))
  | int j=>obtain⟨t',rfl⟩:=ry;exact ne_int (bV I q (congrArg not sZ))
  | str j=>obtain⟨t',rfl⟩:=ry;exact PySem.EqMixed.ne_int_str (bV I q (by simp))
  | _=>exact absurd (show false = true from hs) Bool.false_ne_true
 | str i=>
  obtain⟨t,rfl⟩:=rx
  cases y with
  | non=>cases ry;exact PySem.EqNone.ne_str_none (bV I q (by simp))
  | bl j=>cases ry;exact PySem.EqMixed.ne_str_bool (bV I q (by simp))
  | int j=>obtain⟨t',rfl⟩:=ry;exact PySem.EqMixed.ne_str_int (bV I q (by simp))
  | str j=>obtain⟨t',rfl⟩:=ry;exact ne_str (bV I q (congrArg not sY))
  | _=>exact absurd (show false = true from hs) Bool.false_ne_true
 | byt i=>
  obtain⟨t,rfl⟩:=rx
  cases y with
  | byt j=>obtain⟨t',rfl⟩:=ry;exact PySem.W.ne_bytes (bV I q (congrArg not tD))
  | _=>exact absurd (show false = true from hs) Bool.false_ne_true
 | _=>cases y <;> exact absurd (show false = true from hs) Bool.false_ne_true
theorem a2T:OpR X (compareOp .Lt) (rI0 fun i j=> .bl (decide (i < j))):=zQ fun _ _ _ _ _ _ _ q=>lt_int q
theorem a2U:OpR X (compareOp .LtE) (rI0 fun i j=> .bl (decide (i≤j))):=zQ fun _ _ _ _ _ _ _ q=>le_int q
theorem a2V:OpR X (compareOp .Gt) (rI0 fun i j=> .bl (decide (j < i))):=zQ fun _ _ _ _ _ _ _ q=>gt_int q
theorem a2W:OpR X (compareOp .GtE) (rI0 fun i j=> .bl (decide (j≤i))):=zQ fun _ _ _ _ _ _ _ q=>ge_int q
def isObj:HO→Bool
 | .lst _=>true
 | .ins _ _ _=>true
 | _=>false
theorem aM (b:Expr) {op:CmpOp} (h:op≠ .In:=by decide) (h2:op≠ .NotIn:=by decide):behindInMarks op b = false:=by
 have e1:(op == CmpOp.In) = false:=by cases op <;> first | rfl | exact absurd rfl h
 have e2:(op == CmpOp.NotIn) = false:=by cases op <;> first | rfl | exact absurd rfl h2
 cases b <;> simp [behindInMarks,e1,e2]
theorem bW {op:CmpOp} {r:R2} (ho:OpR X (compareOp op) r) (ha:PE X a ta) (hb:PE X b tb) (hm:behindInMarks op b = false):PE X (.Compare a [op] [b] pos) (tOp r ta tb):=by
 intro pins s σ H Q I h
 exact wpAny_Compare1 (a2K ha hb I h fun v u s2 x y H2 I2 rx ry q=>ho pins s2 σ H2 x y v u Q I2 rx ry q) hm
def tTest (t:TE):TT:=fun σ H Q=>t σ H fun x H'=>∃k,x = .bl k∧Q k H'
theorem zF {op:CmpOp} {r:R2} (ho:OpR X (compareOp op) r) (ha:PE X a ta) (hb:PE X b tb) (hm:behindInMarks op b = false):PT X (.Compare a [op] [b] pos) (tTest (tOp r ta tb)):=by
 intro pins s σ H Q I h
 refine wpAny_isTrue_Compare1 (thn (ha pins s σ H _ I h) fun v s1 ⟨x,H1,I1,r1,q1⟩=>thn (hb pins s1 σ H1 _ I1 q1) fun u s2 ⟨y,H2,I2,r2,q2⟩=>
  thn (ho pins s2 σ H2 x y v u _ I2 r1 r2 q2) fun c s3 ⟨z,H3,I3,r3,k,e,q3⟩=>?_) hm
 subst e
 cases r3
 exact wpAny_truthy_bool ⟨H3,I3,q3⟩
def tChain (r r':R2) (ta tb tc:TE):TE:=fun σ H Q=>ta σ H fun x H1=>tb σ H1 fun y H2=>r x y H2 fun z H3=>∃k,z = .bl k∧
 (if k = true then tc σ H3 fun w' H4=>r' y w' H4 Q else Q (.bl false) H3)
theorem wK {op op':CmpOp} {r r':R2} (ho:OpR X (compareOp op) r) (ho':OpR X (compareOp op') r') (ha:PE X a ta) (hb:PE X b tb) (hc:PE X c tc)
    (hm:lastMarks [op,op'] [b,c] = false:=by with_unfolding_all rfl):PE X (.Compare a [op,op'] [b,c] pos) (tChain r r' ta tb tc):=by
  intro pins s σ H Q I h
  refine Compare_chain (thn (ha pins s σ H _ I h) fun v s1 ⟨x,H1,I1,r1,q1⟩=>chain_link (thn (hb pins s1 σ H1 _ I1 q1) fun u s2 ⟨y,H2,I2,r2,q2⟩=>
    thn (ho pins s2 σ H2 x y v u _ I2 r1 r2 q2) fun d s3 ⟨z,H3,I3,r3,k,e,q3⟩=>?_)) hm
  subst e
  cases r3
  refine wpAny_truthy_bool ?_
  cases k with
  | false=>exact ite_ff ⟨.bl false,H3,I3,rfl,q3⟩
  | true=>exact ite_tt (chain_last (thn (hc pins s3 σ H3 _ I3 q3) fun w' s4 ⟨z',H4,I4,r4,q4⟩=>ho' pins s4 σ H4 y z' u w' Q I4 r2 r4 q4))
def TruV (K:PySem.W.Frag) (x:V) (H:Hp) (k:Bool):Prop:=
 match x with
 | .non=>k = false
 | .bl b=>k = b
 | .int i=>k = (i != 0)
 | .str y=>y.length≤sizeLine∧k = ((y.length:Int) != 0)
 | .byt y=>y.size≤sizeLine∧k = ((y.size:Int) != 0)
 | .ref p=>(∃xs,SqL K H p xs∧k = !xs.isEmpty)∨(∃xs,SqT K H p xs∧k = !xs.isEmpty)∨∃kvs,H p = some (.dK kvs)∧k = !kvs.isEmpty
 | _=>False
theorem oA:(sizeLine:Nat) < 2 ^ 63:=by rw [sizeLine_eq];decide
def PlainIxT (b:Expr):Prop:=∀o i,subscripted b false o i = operate [o,i] (getItem o i)
theorem vals1 {x:V} {us:List Value} (r:Vals [x] us):∃u,us = [u]∧RelV x u:=by
 cases r with
 | cons r1 r2=>cases r2;exact⟨_,rfl,r1⟩
theorem vals2 {x y:V} {us:List Value} (r:Vals [x,y] us):∃u w',us = [u,w']∧RelV x u∧RelV y w':=by
 cases r with
 | cons r1 r2=>
  cases r2 with
  | cons r3 r4=>cases r4;exact⟨_,_,rfl,r1,r3⟩
theorem uW (hc:X.calm = true):CallR X (.builtin "max") (fun xs H Q=>∃i j,xs = [.int i,.int j]∧Q (.int (if j > i then j else i)) H):=by
 intro pins s σ H xs us Q I r h
 obtain⟨i,j,rfl,q⟩:=h
 obtain⟨u,w',rfl,⟨t,rfl⟩,⟨t',rfl⟩⟩:=vals2 r
 refine max_two_ints (I.ok.hd hc) fun h' tk k=>⟨_,H,I.kept k,?_,q⟩
 by_cases hj:j > i
 ·rw [if_pos hj,if_pos hj];exact⟨_,rfl⟩
 ·rw [if_neg hj,if_neg hj];exact⟨_,rfl⟩
theorem uV (hc:X.calm = true):CallR X (.builtin "min") (fun xs H Q=>∃i j,xs = [.int i,.int j]∧Q (.int (if j < i then j else i)) H):=by
 intro pins s σ H xs us Q I r h
 obtain⟨i,j,rfl,q⟩:=h
 obtain⟨u,w',rfl,⟨t,rfl⟩,⟨t',rfl⟩⟩:=vals2 r
 refine min_two_ints (I.ok.hd hc) fun h' tk k=>⟨_,H,I.kept k,?_,q⟩
 by_cases hj:j < i
 ·rw [if_pos hj,if_pos hj];exact⟨_,rfl⟩
 ·rw [if_neg hj,if_neg hj];exact⟨_,rfl⟩
theorem uX:CallR X (.type "int") (fun xs H Q=>(∃i,xs = [.int i]∧Q (.int i) H)∨∃k,xs = [.bl k]∧Q (.int (if k then 1 else 0)) H):=by
 intro pins s σ H xs us Q I r h
 rcases h with ⟨i,rfl,q⟩ | ⟨k,rfl,q⟩
 ·obtain⟨u,rfl,t,rfl⟩:=vals1 r
  exact call_int_int ⟨.int i,H,I,⟨_,rfl⟩,q⟩
 ·obtain⟨u,rfl,r1⟩:=vals1 r
  cases r1
  exact call_int_bool ⟨.int (if k then 1 else 0),H,I.tok _,⟨_,rfl⟩,q⟩
def LenV (K:PySem.W.Frag) (x:V) (H:Hp) (n:Nat):Prop:=
 match x with
 | .str y=>y.length≤sizeLine∧n = y.length
 | .byt y=>y.size≤sizeLine∧n = y.size
 | .ref p=>(∃xs,SqL K H p xs∧n = xs.length)∨∃xs,SqT K H p xs∧n = xs.length
 | _=>False
end
end L2
namespace L2
open PySem PySem.Spec PyProof.Rows
structure ObjM (h:Heap) (x dx C:Addr) (mA:Str→Option Value):Prop where
 obj:h.get? x = some (PySem.W.instObj C dx)
 ns:h.Ns1 dx mA
 ne:dx≠x
theorem uG {h:Heap} {dx:Addr} {mA:Str→Option Value} (n:h.Ns1 dx mA):∃od,h.get? dx = some od∧∀name,PySem.W.lookIn name od = some (mA name):=by
 obtain⟨o,es,ep,ho,hd,hk,_,hm⟩:=n
 refine⟨o,ho,fun name=>?_⟩
 have e:=hm name
 unfold nsFind findBy at e
 rw [←Array.find?_toList] at e
 unfold PySem.W.lookIn
 rw [hd]
 dsimp only
 split
 ·rename_i y q
  rw [q] at e
  exact congrArg some e
 ·rename_i q
  rw [q] at e
  have a:es.toList.any (·.refKey) = false:=by
   rw [List.any_eq_false]
   intro y hy
   obtain⟨z,t,hkey⟩:=hk y (Array.mem_toList_iff.mp hy)
   simp [DictEntry.refKey,hkey]
  have a':¬ es.toList.any (·.refKey) = true:=by rw [a];exact Bool.false_ne_true
  rw [if_neg a']
  exact congrArg some e
theorem ObjM.look {h:Heap} {x dx C:Addr} {mA:Str→Option Value} (I:ObjM h x dx C mA):∃od,PySem.W.InstAt h x (PySem.W.instObj C dx) C (some od)∧∀name,PySem.W.lookIn name od = some (mA name):=
 let ⟨od,ho,hl⟩:=uG I.ns
 ⟨od,⟨I.obj,rfl,rfl,ho⟩,hl⟩
section
variable {prog:Program} {w:World} {A:Around} {E:Value→Shared→Prop} {s:Shared} {K:PySem.W.Frag} {x dx C f:Addr} {mA:Str→Option Value} {name:Str} {v:Value}
theorem zZ {expr:Bool} {Q:Value→Shared→Prop} (X:K.In s.heap) (I:ObjM s.heap x dx C mA) (hg:PySem.W.plainGet K C name = true) (hh:PySem.W.hasDictIn K C = true)
    (ha:PySem.W.findIn K (.ref C) name = some none) (hv:mA name = some v) (hv':PySem.W.handedIn v = true) (h:Q v { s with toks:=s.toks + 1 }) :
    wpAny (model prog w) A (getAttr (.ref x) name expr) Q E s:=by
  obtain⟨od,J,hl⟩:=I.look
  exact PySem.W.get_value X J (PySem.W.plainGet_of hg).1 (PySem.W.findObj_own hh ha rfl (by rw [hl,hv])) hv' h
theorem xX {pl:Sem Bool} {Q:Value×List Value→Shared→Prop} (X:K.In s.heap) (I:ObjM s.heap x dx C mA) (hg:PySem.W.plainGet K C name = true)
    (hf:PySem.W.findIn K (.ref C) name = some (some (.ref f))) (ht:PySem.W.isFn K (.ref f) = true) (hv:mA name = none) (h:Q (.ref f, [.ref x]) s) :
    wpAny (model prog w) A (getMethod (.ref x) name pl) Q E s:=by
  obtain⟨od,J,hl⟩:=I.look
  exact PySem.W.method_fn X J (PySem.W.plainGet_of hg).1 (PySem.W.plainGet_of hg).2 hf (beq_iff_eq.mp ht) (by show (PySem.W.lookIn name od).map (·.isSome) = some false;rw [hl,hv];rfl) h
theorem zA {ns:List Str} {Q:Unit→Shared→Prop} (X:K.In s.heap) (I:ObjM s.heap x dx C mA)
    (hs:PySem.W.findIn K (.ref C) "__setattr__" = some (some (.builtin "object.__setattr__"))) (hp:PySem.W.plainOver K C = true) (ht:PySem.W.takerIn K C name = some none) (hh:PySem.W.hasDictIn K C = true)
    (hw:PySem.Within mA ns) (hsz:ns.length≤sizeLine)
    (h:∀h',ObjM h' x dx C (fun y=>if y = name then some v else mA y)→Heap.SameBut dx s.heap h'→Q () { s with heap:=h',toks:=s.toks + 2 }) :
    wpAny (model prog w) A (setAttr (.ref x) name v) Q E s:=by
  obtain⟨od,J,hl⟩:=I.look
  refine PySem.W.set_plain X J hs (PySem.W.osa_open (s:={ s with toks:=s.toks + 1 }) (r:=none) X J hp ht fun b=>?_)
  obtain⟨cd,hc,hd'⟩:=PySem.W.any_some hh
  have hx:s.heap.get? x = some ⟨.ref C,some dx,.plain, #[]⟩:=I.obj
  refine wpAny_bind (wpAny_pure (wpAny_bind (wpAny_bind (wpAny_loadPart hx (wpAny_bind (PySem.W.Looks.here (s:={ s with toks:=s.toks + 1 }) (PySem.W.looks_clsIn X hc) ?_))))))
  rw [hd']
  refine wpAny_pure (a:=some dx) (wpAny_bind (wpAny_pure (wpAny_bind ?_)))
  refine wpAny_nsSet1 (s:={ s with toks:=s.toks + 1 }) I.ns fun h' hn2 hs2=>?_
  obtain⟨oD,esD,epD,hoD,hdD,hcD⟩:=hn2.count (PySem.Within.cons name v hw)
  refine wpAny_bind (wpAny_lookBehind hoD (by rw [hdD];exact pastItsLine_dict (Nat.le_trans hcD (by rw [List.length_cons];omega))) ?_)
  exact wpAny_pure (h _ ⟨(hs2.2 _ (Ne.symm I.ne)).trans I.obj,hn2,I.ne⟩ hs2)
theorem xG {R:Result→Shared→Prop} {vs:List Value} {kw:List (Str×Value)} (X:K.In s.heap) (hm:PySem.W.makesIn K C = true)
    (hi:PySem.W.findIn K (.ref C) "__init__" = some (some (.ref f))) (hf:PySem.W.typeIn K (.ref f) = some (.type "function"))
    (h :codeAny (model prog w) (A.under (.builtin "type.__call__" ⟨.ref C :: vs,kw⟩)) (.call (.ref f) ⟨.ref (s.heap.objs.size + 1) :: vs,kw⟩) (PySem.W.InitBack (s.heap.objs.size + 1) R)
      { s with heap:=(s.heap.push PySem.W.emptyDict).push (PySem.W.instObj C s.heap.objs.size) }) :
    codeAny (model prog w) A (.call (.ref C) ⟨vs,kw⟩) R s:=by
  obtain⟨hh,g,d,t,os⟩:=s
  exact PySem.W.make_core (PySem.W.makes_of X hm) (PySem.W.looks_findIn X hi) (fun self=>PySem.W.bind_fn X self hf) (.inl rfl) h
theorem uD {R:Result→Shared→Prop} (X:K.In s.heap) (hm:PySem.W.makesIn K C = true)
    (hi:PySem.W.findIn K (.ref C) "__init__" = some (some (.builtin "object.__init__")))
    (hb:∀self,PySem.W.Looks (model prog w) s.heap (bindSpecial (.builtin "object.__init__") self) (.builtin "object.__init__", [self]))
    (h :codeAny (model prog w) (A.under (.builtin "type.__call__" ⟨[.ref C], []⟩)) (.call (.builtin "object.__init__") ⟨[.ref (s.heap.objs.size + 1)], []⟩) (PySem.W.InitBack (s.heap.objs.size + 1) R)
      { s with heap:=(s.heap.push PySem.W.emptyDict).push (PySem.W.instObj C s.heap.objs.size) }) :
    codeAny (model prog w) A (.call (.ref C) ⟨[], []⟩) R s:=by
  obtain⟨hh,g,d,t,os⟩:=s
  exact PySem.W.make_core (PySem.W.makes_of X hm) (PySem.W.looks_findIn X hi) hb (.inr ⟨rfl,rfl⟩) h
end
def putF (f:Str) (v:V):List (Str×V)→List (Str×V)
 | []=>[(f,v)]
 | (g,x) :: r=>if g = f then (g,v) :: r else (g,x) :: putF f v r
theorem jQ (f g:Str) (v:V):∀fs:List (Str×V),(putF f v fs).lookup g = if g = f then some v else fs.lookup g
 | [] =>by
  show List.lookup g [(f,v)] = _
  by_cases h:g = f
  ·have hb:(g == f) = true:=beq_iff_eq.mpr h
   simp only [List.lookup,hb,if_pos h]
  ·have hb:(g == f) = false:=beq_eq_false_iff_ne.mpr h
   simp only [List.lookup,hb,if_neg h]
 | (k, x) :: r=>by
  have ih:=jQ f g v r
  rw [show putF f v ((k,x) :: r) = (if k = f then (k,v) :: r else (k,x) :: putF f v r) from rfl]
  by_cases hk:k = f
  ·rw [if_pos hk]
   by_cases h:g = k
   ·have hb:(g == k) = true:=beq_iff_eq.mpr h
    simp only [List.lookup,hb,if_pos (h.trans hk)]
   ·have hb:(g == k) = false:=beq_eq_false_iff_ne.mpr h
    simp only [List.lookup,hb,if_neg (fun e:g = f=>h (e.trans hk.symm))]
  ·rw [if_neg hk]
   by_cases h:g = k
   ·have hb:(g == k) = true:=beq_iff_eq.mpr h
    simp only [List.lookup,hb,if_neg (fun e:g = f=>hk (h.symm.trans e))]
   ·have hb:(g == k) = false:=beq_eq_false_iff_ne.mpr h
    simp only [List.lookup,hb]
    exact ih
theorem jJ (f:Str) (v:V):∀fs:List (Str×V),f∈(putF f v fs).map (·.1)∧∀g,g∈fs.map (·.1)→g∈(putF f v fs).map (·.1)
 | []=>⟨by simp [putF],fun g h=>by simp at h⟩
 | (k, x) :: r=>by
  obtain⟨i1,i2⟩:=jJ f v r
  rw [show putF f v ((k,x) :: r) = (if k = f then (k,v) :: r else (k,x) :: putF f v r) from rfl]
  by_cases hk:k = f
  ·rw [if_pos hk]
   subst hk
   exact⟨by simp,fun g h=>by simpa using h⟩
  ·rw [if_neg hk]
   refine⟨?_,fun g h=>?_⟩
   ·rw [List.map_cons]
    exact List.mem_cons_of_mem _ i1
   ·rw [List.map_cons] at h ⊢
    rcases List.mem_cons.mp h with e | e
    ·exact List.mem_cons.mpr (.inl e)
    ·exact List.mem_cons_of_mem _ (i2 g e)
theorem jR (f:Str) (v:V):∀fs:List (Str×V),(putF f v fs).length≤fs.length + 1
 | []=>by simp [putF]
 | (k,x) :: r=>by
  have ih:=jR f v r
  rw [show putF f v ((k,x) :: r) = (if k = f then (k,v) :: r else (k,x) :: putF f v r) from rfl]
  by_cases hk:k = f
  ·rw [if_pos hk,List.length_cons,List.length_cons];omega
  ·rw [if_neg hk,List.length_cons,List.length_cons];omega
theorem RelO.some_of {v:V} {o:Option Value} (r:RelO (some v) o):∃u,o = some u∧RelV v u:=by
 cases o with
 | none=>exact(show False from r).elim
 | some u=>exact⟨u,rfl,r⟩
theorem RelO.none_of {o:Option Value} (r:RelO none o):o = none:=by
 cases o with
 | none=>rfl
 | some u=>exact(show False from r).elim
theorem uM {v:V} {u:Value} (r:RelV v u):PySem.W.handedIn u = true:=by
 cases v with
 | non=>cases (show u = Value.none from r);rfl
 | bl b=>cases (show u = Value.bool b from r);rfl
 | int i=>obtain⟨t,e⟩:=(show ∃t,u = Value.int i t from r);cases e;rfl
 | str x=>obtain⟨t,e⟩:=(show ∃t,u = Value.str x t from r);cases e;rfl
 | byt b=>obtain⟨t,e⟩:=(show ∃t,u = Value.bytes b t from r);cases e;rfl
 | flt b=>obtain⟨t,e⟩:=(show ∃t,u = Value.float b t from r);cases e;rfl
 | ref a=>cases (show u = Value.ref a from r);rfl
 | ty n=>cases (show u = Value.type n from r);rfl
section
variable {P:Program} {w:World} {H H':Hp} {h h':Heap} {a C dx:Addr} {fs fs':List (Str×V)}
theorem kO (hok:HOk P w H h) (e:H a = some (.ins C dx fs)):∃mA,ObjM h a dx C mA∧(∀f,RelO (fs.lookup f) (mA f))∧PySem.Within mA (fs.map (·.1))∧fs.length≤1000∧H dx = some (.own a):=by
 obtain⟨d,z,ne,ob,mA,n,r,q⟩:=(show ObjOk P w H h a (.ins C dx fs) from hok a _ e)
 exact⟨mA,⟨ob,n,ne⟩,r,q,z,d⟩
end
structure Cls (K:PySem.W.Frag) (C:Addr):Prop where
 pg:PySem.W.plainGet K C Str.empty = true
 hd:PySem.W.hasDictIn K C = true
 po:PySem.W.plainOver K C = true
 sa:PySem.W.findIn K (.ref C) "__setattr__" = some (some (.builtin "object.__setattr__"))
theorem Cls.get {K:PySem.W.Frag} {C:Addr} (c:Cls K C) (f:Str):PySem.W.plainGet K C f = true:=c.pg
def NoAttr (K:PySem.W.Frag) (C:Addr) (f:Str):Prop:=PySem.W.findIn K (.ref C) f = some none
theorem NoAttr.taker {K:PySem.W.Frag} {C:Addr} {f:Str} (n:NoAttr K C f):PySem.W.takerIn K C f = some none:=by
 unfold PySem.W.takerIn
 rw [show PySem.W.findIn K (.ref C) f = some none from n]
 rfl
structure Con (K:PySem.W.Frag) (C:Addr) (f:Str) (v:V) (u:Value):Prop where
 at_:PySem.W.findIn K (.ref C) f = some (some u)
 rel:RelV v u
 get:PySem.W.specialIn K u "__get__" = some none
 cp:PySem.W.copiedNames.contains f = false
structure Meth (K:PySem.W.Frag) (C:Addr) (m:Str) (f:Addr):Prop where
 at_:PySem.W.findIn K (.ref C) m = some (some (.ref f))
 fn:PySem.W.isFn K (.ref f) = true
 kp:PySem.W.keepIn K (.ref f) = true
section
variable {X:Cx} {pins:List (Addr×Obj)} {σ:St} {H:Hp} {s:Shared} {a C dx:Addr} {fs:List (Str×V)} {f:Str} {v:V} {A:Around} {E:Value→Shared→Prop}
theorem rF {b:Bool} {Q:Value→Shared→Prop} (I:Inv X pins σ H s) (e:H a = some (.ins C dx fs)) (c:Cls X.K C) (n:NoAttr X.K C f) (l:fs.lookup f = some v)
    (h:∀u s',Inv X pins σ H s'→RelV v u→Q u s'):wpAny (model X.prog X.w) A (getAttr (.ref a) f b) Q E s:=by
  obtain⟨mA,O,r,_,_,_⟩:=kO I.hok e
  obtain⟨u,hu,ru⟩:=RelO.some_of (v:=v) (o:=mA f) (by rw [←l];exact r f)
  exact zZ I.kIn O (c.get f) c.hd n hu (uM ru) (h u _ (I.tok _) ru)
theorem dD {m:Str} {g:Addr} {pl:Sem Bool} {Q:Value×List Value→Shared→Prop} (I:Inv X pins σ H s) (e:H a = some (.ins C dx fs)) (c:Cls X.K C) (k:Meth X.K C m g) (l:fs.lookup m = none)
    (h:Q (.ref g, [.ref a]) s):wpAny (model X.prog X.w) A (getMethod (.ref a) m pl) Q E s:=by
  obtain⟨mA,O,r,_,_,_⟩:=kO I.hok e
  have hn:mA m = none:=RelO.none_of (by rw [←l];exact r m)
  exact xX I.kIn O (c.get m) k.at_ k.fn hn h
theorem qW {y:V} {u:Value} {Q:Unit→Shared→Prop} (I:Inv X pins σ H s) (e:H a = some (.ins C dx fs)) (c:Cls X.K C) (n:NoAttr X.K C f) (hl:fs.length < 1000) (ry:RelV y u)
    (h:∀s',Inv X pins σ (upd H a (.ins C dx (putF f y fs))) s'→Q () s'):wpAny (model X.prog X.w) A (setAttr (.ref a) f u) Q E s:=by
  obtain⟨mA,O,r,wi,_,ho⟩:=kO I.hok e
  have hz:(fs.map (·.1)).length≤sizeLine:=by rw [List.length_map,sizeLine_eq];omega
  refine zA I.kIn O c.sa c.po n.taker c.hd wi hz fun h' O' sb=>h _ ?_
  have hd:∃o,h'.get? dx = some o:=let ⟨o,_,_,e',_⟩:=O'.ns;⟨o,e'⟩
  refine I.write (x:=a) (e:=dx) (by rw [e];exact True.intro) (.inr ho) (fun b q hb z=>(sb.2 b hb).trans z) hd ?_
  refine⟨by rw [aK O.ne];exact ho,?_,O.ne,O'.obj,_,O'.ns,fun g=>?_,fun g hg=>?_⟩
  · have:=jR f y fs;omega
  · show RelO ((putF f y fs).lookup g) (if g = f then some u else mA g)
    rw [jQ]
    by_cases q:g = f
    · rw [if_pos q,if_pos q];exact ry
    · rw [if_neg q,if_neg q];exact r g
  · by_cases q:g = f
    · rw [q];exact(jJ f y fs).1
    · refine(jJ f y fs).2 g (wi g fun z=>hg ?_)
      show (if g = f then some u else mA g) = none
      rw [if_neg q];exact z
theorem Inv.made (I:Inv X pins σ H s):Inv X pins σ (upd (upd H s.heap.objs.size (.own (s.heap.objs.size + 1))) (s.heap.objs.size + 1) (.ins C s.heap.objs.size []))
    { s with heap:=(s.heap.push PySem.W.emptyDict).push (PySem.W.instObj C s.heap.objs.size) }:=by
  have e1:(s.heap.push PySem.W.emptyDict).get? s.heap.objs.size = some PySem.W.emptyDict:=Heap.get?_push_size s.heap rfl
  have e2:((s.heap.push PySem.W.emptyDict).push (PySem.W.instObj C s.heap.objs.size)).get? (s.heap.objs.size + 1) = some (PySem.W.instObj C s.heap.objs.size):=by
    have:=Heap.get?_push_size (s.heap.push PySem.W.emptyDict) (o:=PySem.W.instObj C s.heap.objs.size) rfl
    rwa [Heap.size_push] at this
  have e3:(s.heap.push PySem.W.emptyDict).Ns s.heap.objs.size (fun _=>none):=⟨PySem.W.emptyDict, #[],_,e1,rfl,(fun e he=>absurd he (by simp)),fun _=>rfl⟩
  have I1:=I.laid (a:=s.heap.objs.size) (o:= .own (s.heap.objs.size + 1)) (h':=s.heap.push PySem.W.emptyDict) (t':=s.toks) (fun b u q=>Heap.get?_push_of_some _ q) (Nat.le_refl _) ⟨_,e1⟩
  refine I1.laid (a:=s.heap.objs.size + 1) (o:= .ins C s.heap.objs.size []) (t':=s.toks) (fun b u q=>Heap.get?_push_of_some _ q) (Nat.le_of_eq (Heap.size_push _ _)) ?_
  have ne:s.heap.objs.size≠s.heap.objs.size + 1:=Nat.ne_of_lt (Nat.lt_succ_self _)
  refine⟨by rw [aK ne,aB],Nat.zero_le _,ne,e2,fun _=>none,(Heap.Ns1.of_empty e3).at fun o q=>Heap.get?_push_of_some _ q,fun _=>True.intro,fun y hy=>absurd rfl hy⟩
theorem a0L {prog:Program} {w:World} {env:Env} {e:Expr} {f:Str} {pos:Pos} {s:Shared} {Q:Value→Shared→Prop} (hb:attributeBase e f env (eval e env) = eval e env)
    (h:wpAny (model prog w) A (eval e env) (fun o s₁=>wpAny (model prog w) A (getAttr o f true) Q E s₁) E s):wpAny (model prog w) A (eval (.Attribute e f pos) env) Q E s:=
  Attribute_any_ h (by rw [arm_eval_Attribute,hb])
end
def tFld (K:PySem.W.Frag) (ta:TE) (f:Str):TE:=fun σ H Q=>ta σ H fun x H1=>∃a C dx fs v,x = .ref a∧H1 a = some (.ins C dx fs)∧Cls K C∧NoAttr K C f∧fs.lookup f = some v∧Q v H1
def tCon (K:PySem.W.Frag) (ta:TE) (f:Str):TE:=fun σ H Q=>ta σ H fun x H1=>∃a C dx fs v u,x = .ref a∧H1 a = some (.ins C dx fs)∧Cls K C∧Con K C f v u∧fs.lookup f = none∧Q v H1
def sFld (K:PySem.W.Frag) (ta tv:TE) (f:Str):TS:=fun D σ H=>tv σ H fun y H1=>ta σ H1 fun x H2=>∃a C dx fs,x = .ref a∧H2 a = some (.ins C dx fs)∧Cls K C∧NoAttr K C f∧fs.length < 1000∧
 D.nx σ (upd H2 a (.ins C dx (putF f y fs)))
def InOp (X:Cx) (op:Operator) (rd:V→V→Hp→VK→Prop):Prop:=
 ∀(pins:List (Addr×Obj)) (s:Shared) (σ:St) (H:Hp) (x y:V) (u v:Value) (Q:VK),Inv X pins σ H s→RelV x u→RelV y v→rd x y H Q→wpAny (model X.prog X.w) X.A (inplaceOp op u v) (EP X pins σ Q) X.xe s
def sFldAug (K:PySem.W.Frag) (ta tv:TE) (rd:V→V→Hp→VK→Prop) (f:Str):TS:=fun D σ H=>ta σ H fun x H1=>∃a C dx fs v,x = .ref a∧H1 a = some (.ins C dx fs)∧Cls K C∧NoAttr K C f∧fs.lookup f = some v∧
 tv σ H1 fun y H2=>rd v y H2 fun z H3=>∃dx' fs',H3 a = some (.ins C dx' fs')∧fs'.length < 1000∧D.nx σ (upd H3 a (.ins C dx' (putF f z fs')))
section
variable {X:Cx} {o e value:Expr} {f:Str} {pos pos' tpos:Pos} {ta tv:TE}
theorem wJ (he:PE X e ta) (hb:attributeBase e f X.env (eval e X.env) = eval e X.env):PE X (.Attribute e f pos) (tFld X.K ta f):=by
 intro pins s σ H Q I h
 refine a0L hb (thn (he pins s σ H _ I h) fun u s1 ⟨x,H1,I1,rx,a,C,dx,fs,v,ex,ea,c,n,l,q⟩=>?_)
 subst ex
 obtain rfl:u = Value.ref a:=rx
 exact rF I1 ea c n l fun u' s2 I2 ru=>⟨v,H1,I2,ru,q⟩
theorem wG (ha:PE X o ta) (hv:PE X value tv) (hs:swapsWith value (some (.Attribute o f pos')) pos.line X.env = pure false):PS X (.Assign [.Attribute o f pos'] value pos) (sFld X.K ta tv f):=by
 intro pins s σ H D I h
 refine plainObj_wpAny_Assign_Attribute (thn (hv pins s σ H _ I h) fun u s1 ⟨y,H1,I1,ry,q⟩=>thn (ha pins s1 σ H1 _ I1 q) fun ov s2 ⟨x,H2,I2,rx,a,C,dx,fs,ex,ea,c,n,l,q2⟩=>?_) hs
 subst ex
 obtain rfl:ov = Value.ref a:=rx
 exact qW I2 ea c n l ry fun s3 I3=>⟨σ,_,I3,q2⟩
def rAdd:V→V→Hp→VK→Prop:=fun x y H Q=>∃i j,x = .int i∧y = .int j∧Q (.int (i + j)) H
def rSub:V→V→Hp→VK→Prop:=fun x y H Q=>∃i j,x = .int i∧y = .int j∧Q (.int (i - j)) H
theorem a0R {pl:Sem Bool} {m:Str} {apos:Pos} {args:List Expr} {pins:List (Addr×Obj)} {s:Shared} {σ:St} {H:Hp} {Q:Value→Shared→Prop} {te:TE} (he:PE X e te) (I:Inv X pins σ H s)
    (h :te σ H fun x H1=>∃a C dx fs g,x = .ref a∧H1 a = some (.ins C dx fs)∧Cls X.K C∧Meth X.K C m g∧fs.lookup m = none∧
      ∀s1,Inv X pins σ H1 s1→wpAny (model X.prog X.w) X.A (callWith pos (.ref g) [.ref a] (backTo pos (starEach args X.env)) (backToKw pos (keywordEach [] X.env))) Q X.xe s1)
    (ht:eval (.Call (.Attribute e m apos) args [] pos) X.env = (do
      let ov←eval e X.env
      standAt apos.atName
      let (f,first)←holding [ov] (getMethod ov m pl)
      callWith pos f first (backTo pos (starEach args X.env)) (backToKw pos (keywordEach [] X.env)))) :
    wpAny (model X.prog X.w) X.A (eval (.Call (.Attribute e m apos) args [] pos) X.env) Q X.xe s:=by
  refine PySem.W.methodCall_KW (pl:=pl) (thn (he pins s σ H _ I h) fun u s1 ⟨x,H1,I1,rx,a,C,dx,fs,g,ex,ea,c,k,l,q⟩=>?_) ht
  subst ex
  obtain rfl:u = Value.ref a:=rx
  exact dD I1 ea c k l (q s1 I1)
end
section
variable {X:Cx} {pins:List (Addr×Obj)} {σ:St} {H:Hp} {s:Shared} {A:Around} {E:Value→Shared→Prop} {Q:Value→Shared→Prop} {c:Value} {b:Bool}
inductive TyOf (K:PySem.W.Frag) (H:Hp):V→Value→Prop where
  | non:TyOf K H .non (.type "NoneType")
  | bl (x:Bool):TyOf K H (.bl x) (.type "bool")
  | int (i:Int):TyOf K H (.int i) (.type "int")
  | str (x:Str):TyOf K H (.str x) (.type "str")
  | flt (x:UInt64):TyOf K H (.flt x) (.type "float")
  | lst {a:Addr} {xs:List V} (e:H a = some (.lst xs)):TyOf K H (.ref a) (.type "list")
  | frz {a:Addr} {o:Obj} {xs:List V} (e:H a = some (.frz o (.lst xs))):TyOf K H (.ref a) (.type "list")
  | tup {a:Addr} {xs:List V} (e:H a = some (.tup xs)):TyOf K H (.ref a) (.type "tuple")
  | dK {a:Addr} {kvs:List (Key×V)} (e:H a = some (.dK kvs)):TyOf K H (.ref a) (.type "dict")
  | dT {a:Addr} {kvs:List (List Key×V)} (e:H a = some (.dT kvs)):TyOf K H (.ref a) (.type "dict")
  | ins {a C dx:Addr} {fs:List (Str×V)} (e:H a = some (.ins C dx fs)) (cl:Cls K C) (ha:PySem.W.findIn K (.ref C) "__class__" = some (some (.builtin "object.__class__")))
      (hn:PySem.W.specialIn K (.builtin "object.__class__") "__get__" = some (some (.builtin "getset_descriptor.__get__"))) (htk:PySem.W.takesIn K (.builtin "object.__class__") = some true)
      (hm:PySem.W.mroIn K C (.type "object") = some true):TyOf K H (.ref a) (.ref C)
theorem uI {x:V} {u t:Value} (I:Inv X pins σ H s) (rx:RelV x u) (ty:TyOf X.K H x t) (e:PySem.W.kitOne X.K t c = some b) (h:∀tk,Q (.bool b) { s with toks:=tk }) :
    wpAny (model X.prog X.w) A (call (.builtin "isinstance") [u,c]) Q E s:=by
  cases ty with
  | non=>cases (show u = Value.none from rx);exact PySem.W.kia_one PySem.W.kitx_none I.kIn True.intro e (fun z=>nomatch z) h
  | bl y=>cases (show u = Value.bool y from rx);exact PySem.W.kia_one PySem.W.kitx_bool I.kIn True.intro e (fun z=>nomatch z) h
  | int i=>obtain⟨t,q⟩:=(show ∃t,u = Value.int i t from rx);cases q;exact PySem.W.kia_one PySem.W.kitx_int I.kIn True.intro e (fun z=>nomatch z) h
  | str y=>obtain⟨t,q⟩:=(show ∃t,u = Value.str y t from rx);cases q;exact PySem.W.kia_one PySem.W.kitx_str I.kIn True.intro e (fun z=>nomatch z) h
  | flt y=>obtain⟨t,q⟩:=(show ∃t,u = Value.float y t from rx);cases q;exact PySem.W.kia_one PySem.W.kitx_float I.kIn True.intro e (fun z=>nomatch z) h
  | @lst a xs ea=>
    cases (show u = Value.ref a from rx)
    obtain⟨_,_,n,_,h1⟩:=(show ObjOk X.prog X.w H s.heap a (.lst xs) from I.hok a _ ea)
    exact PySem.W.kia_one PySem.W.kitx_list I.kIn ⟨_,h1,rfl⟩ e (fun z=>nomatch z) h
  | @frz a ob xs ea=>
    cases (show u = Value.ref a from rx)
    obtain⟨_,_,_,n,_,h1⟩:=(show ObjOk X.prog X.w H s.heap a (.frz ob (.lst xs)) from I.hok a _ ea)
    exact PySem.W.kia_one PySem.W.kitx_list I.kIn ⟨_,h1,rfl⟩ e (fun z=>nomatch z) h
  | @tup a xs ea=>
    cases (show u = Value.ref a from rx)
    obtain⟨_,_,_,p⟩:=(show ObjOk X.prog X.w H s.heap a (.tup xs) from I.hok a _ ea)
    obtain⟨o,h1,h2,_⟩:=p
    exact PySem.W.kia_one PySem.W.kitx_tuple I.kIn ⟨o,h1,h2⟩ e (fun z=>nomatch z) h
  | @dK a kvs ea=>
    cases (show u = Value.ref a from rx)
    obtain⟨_,_,vs,_,p⟩:=(show ObjOk X.prog X.w H s.heap a (.dK kvs) from I.hok a _ ea)
    obtain⟨o,es,ep,h1,h2,_⟩:=p
    exact PySem.W.kia_one PySem.W.kitx_dict I.kIn ⟨o,h1,h2.1⟩ e (fun z=>nomatch z) h
  | @dT a kvs ea=>
    cases (show u = Value.ref a from rx)
    obtain⟨_,_,xs,_,o,es,ep,h1,h2,_⟩:=(show ObjOk X.prog X.w H s.heap a (.dT kvs) from I.hok a _ ea)
    exact PySem.W.kia_one PySem.W.kitx_dict I.kIn ⟨o,h1,h2.1⟩ e (fun z=>nomatch z) h
  | @ins a C dx fs ea cl ha hn htk hm=>
    cases (show u = Value.ref a from rx)
    obtain⟨mA,O,_⟩:=kO I.hok ea
    obtain⟨od,J,_⟩:=O.look
    exact PySem.W.kia_one (PySem.W.kitx_own (cl.get _) cl.hd ha hn htk hm) I.kIn J e (fun z=>nomatch z) h
end
end L2
namespace L2
open PySem PySem.Spec PyProof.Rows
structure Room (k:Nat) (A:Around):Prop where
 hd:A.handled = none
 dp:A.depth + 3 * k + 5 < recursionLimit
 un:A.units + 16 * k + 200 < cLine
theorem Room.mono {j k:Nat} {A:Around} (r:Room k A) (h:j≤k):Room j A:=⟨r.hd,by have:=r.dp;omega,by have:=r.un;omega⟩
theorem Room.deeper {k:Nat} {A:Around} (r:Room (k + 1) A) (env:Env):Room k (A.deeper env):=
 ⟨r.hd,by have:=r.dp;show A.depth + 1 + 3 * k + 5 < _;omega,by have:=r.un;show A.units + 3 + 16 * k + 200 < _;omega⟩
theorem rD {A:Around} {C:Addr} {us:List Value} {kw:List (Str×Value)}:(A.under (.builtin "type.__call__" ⟨.ref C :: us,kw⟩)).depth = A.depth + 1:=by
 first | rfl | simp [Around.under,Code.weight,Code.isCreation,Code.isGuard,Code.isCaller,Code.frames,Code.isFrame,guardIds]
theorem rC {A:Around} {C:Addr} {us:List Value} {kw:List (Str×Value)}:(A.under (.builtin "type.__call__" ⟨.ref C :: us,kw⟩)).units = A.units + 1:=by
 first | rfl | simp [Around.under,Code.cUnits,Code.frames,Code.isFrame]
theorem Room.make {k:Nat} {A:Around} (r:Room (k + 1) A) (C:Addr) (us:List Value) (kw:List (Str×Value)):Room k (A.under (.builtin "type.__call__" ⟨.ref C :: us,kw⟩)):=
 ⟨r.hd,by have:=r.dp;rw [rD];omega,by have:=r.un;rw [rC];omega⟩
theorem Room.depth {k:Nat} {A:Around} (r:Room k A):A.depth < recursionLimit:=by have:=r.dp;omega
theorem Room.units {k:Nat} {A:Around} (r:Room k A):A.units + 64 < cLine:=by have:=r.un;omega
def tNil:TA:=fun _ H Q=>Q [] H
def tCons (ta:TE) (tr:TA):TA:=fun σ H Q=>ta σ H fun x H1=>tr σ H1 fun xs H2=>Q (x :: xs) H2
section
variable {X:Cx} {e:Expr} {es:List Expr} {te:TE} {t:TA} {pos:Pos}
theorem aF:PA X [] tNil:=fun _ _ _ _ H Q I h=>Calls.spliced_nil ⟨[],H,I,.nil,h⟩
theorem aA (ha:PE X e te) (hr:PA X es t) (hs:starEach (e :: es) X.env = (false,eval e X.env) :: starEach es X.env:=by rfl):PA X (e :: es) (tCons te t):=by
 intro pos pins s σ H Q I h
 rw [hs]
 show wpAny _ _ (spliced ((false,eval e X.env) :: backTo pos (starEach es X.env))) _ _ s
 refine Calls.spliced_cons (thn (ha pins s σ H _ I h) fun u s1 ⟨x,H1,I1,r1,q1⟩=>?_)
 exact thn (hr pos pins s1 σ H1 _ I1 q1) fun us s2 ⟨xs,H2,I2,r2,q2⟩=>⟨x :: xs,H2,I2,.cons r1 r2,q2⟩
def tTup (t:TA):TE:=fun σ H Q=>t σ H fun xs H1=>xs.length≤sizeLine∧∀p,H1 p = none→Q (.ref p) (upd H1 p (.tup xs))
def tLst (t:TA):TE:=fun σ H Q=>t σ H fun xs H1=>xs.length≤sizeLine∧∀p,H1 p = none→Q (.ref p) (upd H1 p (.lst xs))
theorem bL {x1} (h:PA X es t):PE X (.Tuple es x1 pos) (tTup t):=by
 intro pins s σ H Q I hq
 refine wpAny_Tuple_spliced (thn (h pos pins s σ H _ I hq) fun us s1 ⟨xs,H1,I1,r,z,q⟩=>⟨by rw [←r.length];exact z,?_⟩)
 have hf:H1 s1.heap.objs.size = none:=I1.hok.fresh (Nat.le_refl _)
 refine⟨.ref s1.heap.objs.size,upd H1 s1.heap.objs.size (.tup xs),I1.laid (t':=s1.toks) (fun b u e=>Heap.get?_push_of_some _ e) (Nat.le_refl _) ?_,rfl,q _ hf⟩
 exact⟨z,us,r,⟨_,Heap.get?_push_size _ rfl,rfl,_,rfl⟩⟩
theorem bN (h:PA X es t):PE X (.List es pos) (tLst t):=by
 intro pins s σ H Q I hq
 refine wpAny_List_spliced (thn (h pos pins s σ H _ I hq) fun us s1 ⟨xs,H1,I1,r,z,q⟩=>⟨by rw [←r.length];exact z,?_⟩)
 have hf:H1 s1.heap.objs.size = none:=I1.hok.fresh (Nat.le_refl _)
 refine⟨.ref s1.heap.objs.size,upd H1 s1.heap.objs.size (.lst xs),I1.laid (t':=s1.toks) (fun b u e=>Heap.get?_push_of_some _ e) (Nat.le_refl _) ?_,rfl,q _ hf⟩
 exact⟨z,us,0,r,Heap.get?_push_size _ rfl⟩
end
abbrev Sp:=List V→Hp→VK→XK→Prop
abbrev CXT:=List Env→Hp→Shared→XK→Value→Shared→Prop
structure Env0 (P:Program) (w:World) (K:PySem.W.Frag) (mg:Str→Option Value) (base:Heap) (A:Around) (outer:List Env) (s:Shared) (H:Hp):Prop where
 frames:A.frames = some outer
 mod:Mod K mg base
 bs:∀b o,base.get? b = some o→s.heap.get? b = some o∧H b = none
 bsz:base.objs.size≤s.heap.objs.size
 funs:s.heap.FunFrames base outer
 frf:∀b∈frs outer,H b = none
 hok:HOk P w H s.heap
 bare:AllBare s.gens
def CE (outer:List Env) (P:Program) (w:World) (H:Hp) (s:Shared) (Q:VK) (u:Value) (s':Shared):Prop:=
 ∃v H',s'.os = s.os∧AllBare s'.gens∧Un (frs outer) [] H H' s.heap s'.heap∧HOk P w H' s'.heap∧RelV v u∧Q v H'
def CR (CX:CXT) (outer:List Env) (P:Program) (w:World) (H:Hp) (s:Shared) (Q:VK) (E:XK) (r:Result) (s':Shared):Prop:=
 match r with
 | .ok (.ret u)=>CE outer P w H s Q u s'
 | .ok _=>False
 | .error e=>CX outer H s E e s'
structure FnOk (P:Program) (w:World) (K:PySem.W.Frag) (mg:Str→Option Value) (base:Heap) (CX:CXT) (k:Nat) (f:Addr) (fd:FuncData) (ps:List Str) (sp:Sp):Prop where
 len:∀vs H Q E,sp vs H Q E→vs.length = ps.length
 run:∀(A:Around) (outer:List Env) (s:Shared) (H:Hp) (args:Args) (us:List Value) (vs:List V) (Q:VK) (E:XK),Room k A→Env0 P w K mg base A outer s H→BindsTo s fd args (ps.zip us)→Vals vs us→sp vs H Q E→
  codeAny (model P w) A (.call (.ref f) args) (CR CX outer P w H s Q E) s
theorem FnOk.mono {P:Program} {w:World} {K:PySem.W.Frag} {mg:Str→Option Value} {base:Heap} {CX:CXT} {j k:Nat} {f:Addr} {fd:FuncData} {ps:List Str} {sp:Sp} (F:FnOk P w K mg base CX j f fd ps sp) (h:j≤k) :
    FnOk P w K mg base CX k f fd ps sp:=⟨F.len,fun A outer s H args us vs Q E hr=>F.run A outer s H args us vs Q E (hr.mono h)⟩
theorem Env0.make {P:Program} {w:World} {K:PySem.W.Frag} {mg:Str→Option Value} {base:Heap} {A:Around} {outer:List Env} {s:Shared} {H:Hp} (e:Env0 P w K mg base A outer s H) (C:Addr) (us:List Value) (kw:List (Str×Value)) :
    Env0 P w K mg base (A.under (.builtin "type.__call__" ⟨.ref C :: us,kw⟩)) outer s H:=⟨by first | exact e.frames | (simpa [Around.under,Code.envs,Code.isFrame,pushEnvs] using e.frames),e.mod,e.bs,e.bsz,e.funs,e.frf,e.hok,e.bare⟩
section
variable {X:Cx} {pins:List (Addr×Obj)} {σ:St} {H:Hp} {s s':Shared}
theorem Inv.env0 (I:Inv X pins σ H s):Env0 X.prog X.w X.K X.mg X.base X.A X.stack s H:=
 ⟨I.ok.frames,I.ok.mod,I.bs,Nat.le_trans I.ok.bsz I.sz,I.stack,I.stkFree,I.hok,I.bare⟩
theorem Inv.after {Q:VK} {u:Value} (I:Inv X pins σ H s) (h:CE X.stack X.prog X.w H s Q u s'):EP X pins σ Q u s':=by
 obtain⟨v,H',os,bare,un,hok,r,q⟩:=h
 obtain⟨hh,g,d,t,os'⟩:=s'
 obtain rfl:os' = s.os:=os
 exact⟨v,H',I.call (h':=hh) (g':=g) (d':=d) (t':=t) (ch:=[]) un hok bare (fun b z=>absurd z (by simp)),r,q⟩
end
def tCall (sp:Sp) (dvs:List V) (E:XK) (t:TA):TE:=fun σ H Q=>t σ H fun vs H1=>sp (vs ++ dvs) H1 Q E
def tMeth (C:Addr) (m:Str) (sp:Sp) (dvs:List V) (E:XK) (ta:TE) (t:TA):TE:=fun σ H Q=>ta σ H fun x H1=>∃a dx fs,x = .ref a∧H1 a = some (.ins C dx fs)∧fs.lookup m = none∧
 t σ H1 fun vs H2=>sp (x :: (vs ++ dvs)) H2 Q E
def tMake (C:Addr) (sp:Sp) (dvs:List V) (E:XK) (t:TA):TE:=fun σ H Q=>t σ H fun vs H1=>∀x dx,H1 x = none→H1 dx = none→dx≠x→
 sp (.ref x :: (vs ++ dvs)) (upd (upd H1 dx (.own x)) x (.ins C dx [])) (fun v H2=>v = .non∧Q (.ref x) H2) E
def Binds (K:PySem.W.Frag) (fd:FuncData) (ps:List Str) (ds:List Value):Prop:=
 ∀(s:Shared) (us:List Value),K.In s.heap→(us ++ ds).length = ps.length→BindsTo s fd ⟨us, []⟩ (ps.zip (us ++ ds))
theorem Binds.all {K:PySem.W.Frag} {fd:FuncData} {ps:List Str} (h:∀us:List Value,us.length = ps.length→bindArgs fd ⟨us, []⟩ = pure (ps.zip us)):Binds K fd ps []:=fun s us _ hl=>by
 rw [List.append_nil] at hl ⊢
 exact .of_eq (h us hl)
def Passes (CX:CXT) (X:Cx) (E:XK):Prop:=∀(pins:List (Addr×Obj)) (σ:St) (H:Hp) (s:Shared) (e:Value) (s':Shared),Inv X pins σ H s→CX X.stack H s E e s'→X.xe e s'
section
variable {X:Cx} {CX:CXT} {k:Nat} {f C:Addr} {fd:FuncData} {ps:List Str} {sp:Sp} {dvs:List V} {ds:List Value} {E:XK} {x m:Str} {p pos apos:Pos} {e o:Expr} {es:List Expr} {ta:TE} {t:TA}
theorem fQ {pins:List (Addr×Obj)} {σ:St} {H:Hp} {s:Shared} {Q:VK} {us:List Value} {vs:List V} (F:FnOk X.prog X.w X.K X.mg X.base CX k f fd ps sp) (hr:Room k X.A) (hb:Binds X.K fd ps ds) (hd:Vals dvs ds) (hx:Passes CX X E)
    (I:Inv X pins σ H s) (r:Vals vs us) (h:sp (vs ++ dvs) H Q E):wpAny (model X.prog X.w) X.A (call (.ref f) us) (EP X pins σ Q) X.xe s:=by
  have r2:Vals (vs ++ dvs) (us ++ ds):=r.append hd
  have hl:(us ++ ds).length = ps.length:=by rw [←r2.length];exact F.len _ _ _ _ h
  refine wpAny_call (codeAny_mono (F.run X.A X.stack s H ⟨us, []⟩ (us ++ ds) (vs ++ dvs) Q E hr I.env0 (hb s us I.kIn hl) r2 h) fun r s' hq=>?_)
  cases r with
  | error e=>exact hx pins σ H s e s' I hq
  | ok fl=>
    cases fl with
    | ret u=>exact I.after hq
    | next=>exact False.elim hq
    | brk=>exact False.elim hq
    | cont=>exact False.elim hq
theorem aO (F:FnOk X.prog X.w X.K X.mg X.base CX k f fd ps sp) (hr:Room k X.A) (hg:Gl X x) (hm:X.mg x = some (.ref f)) (hk:PySem.W.keepIn X.K (.ref f) = true) (hb:Binds X.K fd ps ds) (hd:Vals dvs ds) (hx:Passes CX X E)
    (ha:PA X (e :: es) t) (hdb:(x == ("__debug__":Str)) = false:=by decide) (he:starEach (e :: es) X.env = (false,eval e X.env) :: starEach es X.env:=by rfl) (hpl:(backTo pos (starEach es X.env)).any (·.1) = false:=by rfl) :
    PE X (.Call (.Name x p) (e :: es) [] pos) (tCall sp dvs E t):=by
  intro pins s σ H Q I h
  refine wpAny_Call_Name_kw (fY I hg hm ?_ hdb)
  refine PySem.W.callWith_K (h₀:=X.base) I.ok.mod.kin hk (thn (ha pos pins s σ H _ I h) fun us s1 ⟨vs,H1,I1,r,q⟩=>⟨I1.kIn,?_⟩) he hpl
  exact fQ F hr hb hd hx I1 r q
theorem pJ (F:FnOk X.prog X.w X.K X.mg X.base CX k f fd ps sp) (hr:Room k X.A) (hg:Gl X x) (hm:X.mg x = some (.ref f)) (hk:PySem.W.keepIn X.K (.ref f) = true) (hb:Binds X.K fd ps ds) (hd:Vals dvs ds) (hx:Passes CX X E)
    (hdb:(x == ("__debug__":Str)) = false:=by decide):PE X (.Call (.Name x p) [] [] pos) (tCall sp dvs E tNil):=by
  intro pins s σ H Q I h
  refine wpAny_Call_Name_kw (fY I hg hm ?_ hdb)
  exact PySem.W.callWith_K0 I.kIn hk (fQ (us:=[]) F hr hb hd hx I .nil h)
theorem zM {pl:Sem Bool} (he:PE X o ta) (c:Cls X.K C) (hm:Meth X.K C m f) (F:FnOk X.prog X.w X.K X.mg X.base CX k f fd ps sp) (hr:Room k X.A) (hb:Binds X.K fd ps ds) (hd:Vals dvs ds) (hx:Passes CX X E) (ha:PA X (e :: es) t)
    (hst:starEach (e :: es) X.env = (false,eval e X.env) :: starEach es X.env:=by rfl) (hpl:(backTo pos (starEach es X.env)).any (·.1) = false:=by rfl)
    (ht:eval (.Call (.Attribute o m apos) (e :: es) [] pos) X.env = (do
      let ov←eval o X.env
      standAt apos.atName
      let (f,first)←holding [ov] (getMethod ov m pl)
      callWith pos f first (backTo pos (starEach (e :: es) X.env)) (backToKw pos (keywordEach [] X.env))):=by rfl) :
    PE X (.Call (.Attribute o m apos) (e :: es) [] pos) (tMeth C m sp dvs E ta t):=by
  intro pins s σ H Q I h
  refine PySem.W.methodCall_KW (pl:=pl) (thn (he pins s σ H _ I h) fun u s1 ⟨x,H1,I1,rx,a,dx,fs,ex,ea,l,q⟩=>?_) ht
  subst ex
  obtain rfl:u = Value.ref a:=rx
  refine dD I1 ea c hm l ?_
  refine PySem.W.callWith_K (first:=[.ref a]) (h₀:=X.base) I.ok.mod.kin hm.kp (thn (ha pos pins s1 σ H1 _ I1 q) fun us s2 ⟨vs,H2,I2,r,q2⟩=>⟨I2.kIn,?_⟩) hst hpl
  exact fQ (us:= .ref a :: us) (vs:= .ref a :: vs) F hr hb hd hx I2 (.cons rfl r) q2
theorem wH {pl:Sem Bool} (he:PE X o ta) (c:Cls X.K C) (hm:Meth X.K C m f) (F:FnOk X.prog X.w X.K X.mg X.base CX k f fd ps sp) (hr:Room k X.A) (hb:Binds X.K fd ps ds) (hd:Vals dvs ds) (hx:Passes CX X E)
    (ht:eval (.Call (.Attribute o m apos) [] [] pos) X.env = (do
      let ov←eval o X.env
      standAt apos.atName
      let (f,first)←holding [ov] (getMethod ov m pl)
      callWith pos f first (backTo pos (starEach [] X.env)) (backToKw pos (keywordEach [] X.env))):=by rfl) :
    PE X (.Call (.Attribute o m apos) [] [] pos) (tMeth C m sp dvs E ta tNil):=by
  intro pins s σ H Q I h
  refine PySem.W.methodCall_KW (pl:=pl) (thn (he pins s σ H _ I h) fun u s1 ⟨x,H1,I1,rx,a,dx,fs,ex,ea,l,q⟩=>?_) ht
  subst ex
  obtain rfl:u = Value.ref a:=rx
  refine dD I1 ea c hm l ?_
  exact PySem.W.callWith_K0 (first:=[.ref a]) I1.kIn hm.kp (fQ (us:=[.ref a]) (vs:=[.ref a]) F hr hb hd hx I1 (.cons rfl .nil) q)
structure Mk (K:PySem.W.Frag) (C f:Addr):Prop where
 makes:PySem.W.makesIn K C = true
 init:PySem.W.findIn K (.ref C) "__init__" = some (some (.ref f))
 fn:PySem.W.isFn K (.ref f) = true
 kp:PySem.W.keepIn K (.ref C) = true
theorem pI {pins:List (Addr×Obj)} {σ:St} {H:Hp} {s:Shared} {Q:VK} {us:List Value} {vs:List V} (M:Mk X.K C f) (F:FnOk X.prog X.w X.K X.mg X.base CX k f fd ps sp) (hr:Room (k + 1) X.A) (hb:Binds X.K fd ps ds) (hd:Vals dvs ds)
    (hx:Passes CX X E) (I:Inv X pins σ H s) (r:Vals vs us)
    (h:∀x dx,H x = none→H dx = none→dx≠x→sp (.ref x :: (vs ++ dvs)) (upd (upd H dx (.own x)) x (.ins C dx [])) (fun v H2=>v = .non∧Q (.ref x) H2) E) :
    wpAny (model X.prog X.w) X.A (call (.ref C) us) (EP X pins σ Q) X.xe s:=by
  have hq:=h (s.heap.objs.size + 1) s.heap.objs.size (I.hok.fresh (Nat.le_succ _)) (I.hok.fresh (Nat.le_refl _)) (Nat.ne_of_lt (Nat.lt_succ_self _))
  have I2:=Inv.made (C:=C) I
  have r2:Vals (V.ref (s.heap.objs.size + 1) :: (vs ++ dvs)) (Value.ref (s.heap.objs.size + 1) :: (us ++ ds)):= .cons rfl (r.append hd)
  have hl:(Value.ref (s.heap.objs.size + 1) :: us ++ ds).length = ps.length:=by
    have e:=r2.length
    rw [F.len _ _ _ _ hq] at e
    exact e.symm
  refine wpAny_call (xG (f:=f) I.kIn M.makes M.init (beq_iff_eq.mp M.fn) (codeAny_mono (F.run _ X.stack _ _ ⟨Value.ref (s.heap.objs.size + 1) :: us, []⟩ (Value.ref (s.heap.objs.size + 1) :: (us ++ ds)) _ _ E (hr.make C us [])
    (I2.env0.make C us []) (hb _ (Value.ref (s.heap.objs.size + 1) :: us) I2.kIn hl) r2 hq) fun r s' hq'=>?_))
  cases r with
  | error e=>exact hx pins σ _ _ e s' I2 hq'
  | ok fl=>
    cases fl with
    | ret u=>
      obtain⟨v,H',I3,rv,ev,q3⟩:=I2.after hq'
      subst ev
      exact⟨rv,⟨V.ref (s.heap.objs.size + 1),H',I3,rfl,q3⟩⟩
    | next=>exact False.elim hq'
    | brk=>exact False.elim hq'
    | cont=>exact False.elim hq'
theorem cA (M:Mk X.K C f) (F:FnOk X.prog X.w X.K X.mg X.base CX k f fd ps sp) (hr:Room (k + 1) X.A) (hg:Gl X x) (hm:X.mg x = some (.ref C)) (hb:Binds X.K fd ps ds) (hd:Vals dvs ds) (hx:Passes CX X E)
    (ha:PA X (e :: es) t) (hdb:(x == ("__debug__":Str)) = false:=by decide) (he:starEach (e :: es) X.env = (false,eval e X.env) :: starEach es X.env:=by rfl) (hpl:(backTo pos (starEach es X.env)).any (·.1) = false:=by rfl) :
    PE X (.Call (.Name x p) (e :: es) [] pos) (tMake C sp dvs E t):=by
  intro pins s σ H Q I h
  refine wpAny_Call_Name_kw (fY I hg hm ?_ hdb)
  refine PySem.W.callWith_K (h₀:=X.base) I.ok.mod.kin M.kp (thn (ha pos pins s σ H _ I h) fun us s1 ⟨vs,H1,I1,r,q⟩=>⟨I1.kIn,?_⟩) he hpl
  exact pI M F hr hb hd hx I1 r q
theorem iI (M:Mk X.K C f) (F:FnOk X.prog X.w X.K X.mg X.base CX k f fd ps sp) (hr:Room (k + 1) X.A) (hg:Gl X x) (hm:X.mg x = some (.ref C)) (hb:Binds X.K fd ps ds) (hd:Vals dvs ds) (hx:Passes CX X E)
    (hdb:(x == ("__debug__":Str)) = false:=by decide):PE X (.Call (.Name x p) [] [] pos) (tMake C sp dvs E tNil):=by
  intro pins s σ H Q I h
  refine wpAny_Call_Name_kw (fY I hg hm ?_ hdb)
  exact PySem.W.callWith_K0 I.kIn M.kp (pI (us:=[]) M F hr hb hd hx I .nil h)
end
def PK (X:Cx) (kws:List Keyword) (t:TA):Prop:=
 ∀(pos:Pos) (pins:List (Addr×Obj)) (s:Shared) (σ:St) (H:Hp) (Q:List V→Hp→Prop),Inv X pins σ H s→t σ H Q→wpAny (model X.prog X.w) X.A (evalAll ((backToKw pos (keywordEach kws X.env)).map (·.2))) (AP X pins σ Q) X.xe s
section
variable {X:Cx} {CX:CXT} {k:Nat} {f C:Addr} {fd:FuncData} {ps ks:List Str} {sp:Sp} {E:XK} {x m:Str} {p pos apos kpos:Pos} {e o:Expr} {es:List Expr} {kws:List Keyword} {te ta:TE} {t tk:TA} {nm:Option Str}
structure KBinds (K:PySem.W.Frag) (fd:FuncData) (ps ks:List Str) (g:List Value→List Value→List Value) (gV:List V→List V→List V):Prop where
 to:∀(s:Shared) (us ws:List Value),K.In s.heap→(g us ws).length = ps.length→BindsTo s fd ⟨us,ks.zip ws⟩ (ps.zip (g us ws))
 rel:∀{vs:List V} {us:List Value} {zs:List V} {ws:List Value},Vals vs us→Vals zs ws→Vals (gV vs zs) (g us ws)
def tCallK (sp:Sp) (gV:List V→List V→List V) (E:XK) (t tk:TA):TE:=fun σ H Q=>t σ H fun vs H1=>tk σ H1 fun zs H2=>sp (gV vs zs) H2 Q E
variable {g:List Value→List Value→List Value} {gV:List V→List V→List V}
end
structure FnScope (N P:List Str) (sc:Scope):Prop where
 kind:sc.kind = .function
 co:sc.isCoroutine = false
 gen:sc.isGenerator = false
 nd:N.Nodup
 pre:N.take P.length = P
 par:∀x∈P,sc.names.lookup x = some .local∨sc.names.lookup x = some .cell
 nofree:∀y∈sc.names,y.2≠ .free
theorem nG {kindOf:Str→Option NameKind} {x:Str}:∀{binds:List (Str×Value)} {m:Str→Option Value},(∀v,(x,v)∉binds)→bindL kindOf binds m x = m x
 | [],_,_=>rfl
 | (n,v) :: r,m,h=>by
  unfold bindL
  rw [nG fun w hw=>h w (List.mem_cons_of_mem _ hw)]
  split
  ·have:x≠n:=by rintro rfl;exact h v List.mem_cons_self
   simp [this]
  ·rfl
theorem nJ {kindOf:Str→Option NameKind} {x:Str}:∀{binds:List (Str×Value)} {m:Str→Option Value},(∀v,(x,v)∉binds)→bindC kindOf binds m x = m x
 | [],_,_=>rfl
 | (n,v) :: r,m,h=>by
  unfold bindC
  rw [nJ fun w hw=>h w (List.mem_cons_of_mem _ hw)]
  split
  ·rfl
  ·have:x≠n:=by rintro rfl;exact h v List.mem_cons_self
   simp [this]
theorem nH {kindOf:Str→Option NameKind} {x:Str} {v:Value}:∀{P:List Str} {vs:List Value} {i:Nat} {m:Str→Option Value},P.Nodup→P[i]? = some x→vs[i]? = some v→kindOf x = some .local→
    bindL kindOf (P.zip vs) m x = some v
  | [],_,_,_,_,h,_,_=>by simp at h
  | _ :: _, [],_,_,_,_,h,_=>by simp at h
  | p :: P,w :: vs,0,m,nd,h1,h2,hk=>by
    simp at h1 h2;subst h1;subst h2
    show bindL kindOf ((p,w) :: P.zip vs) m p = _
    unfold bindL
    rw [nG fun v hv=>(List.nodup_cons.mp nd).1 (List.of_mem_zip hv).1,if_pos hk]
    simp
  | p :: P,w :: vs,i + 1,m,nd,h1,h2,hk=>by
    show bindL kindOf ((p,w) :: P.zip vs) m x = _
    unfold bindL
    exact nH (i:=i) (List.nodup_cons.mp nd).2 (by simpa using h1) (by simpa using h2) hk
theorem nM {kindOf:Str→Option NameKind} {x:Str} {v:Value}:∀{P:List Str} {vs:List Value} {i:Nat} {m:Str→Option Value},P.Nodup→P[i]? = some x→vs[i]? = some v→kindOf x≠some .local→
    bindC kindOf (P.zip vs) m x = some v
  | [],_,_,_,_,h,_,_=>by simp at h
  | _ :: _, [],_,_,_,_,h,_=>by simp at h
  | p :: P,w :: vs,0,m,nd,h1,h2,hk=>by
    simp at h1 h2;subst h1;subst h2
    show bindC kindOf ((p,w) :: P.zip vs) m p = _
    unfold bindC
    rw [nJ fun v hv=>(List.nodup_cons.mp nd).1 (List.of_mem_zip hv).1,if_neg hk]
    simp
  | p :: P,w :: vs,i + 1,m,nd,h1,h2,hk=>by
    show bindC kindOf ((p,w) :: P.zip vs) m x = _
    unfold bindC
    exact nM (i:=i) (List.nodup_cons.mp nd).2 (by simpa using h1) (by simpa using h2) hk
def start (N:List Str) (vs:List V):St:=vs.map some ++ List.replicate (N.length - vs.length) none
def cxOf (CX:CXT) (P:Program) (w:World) (K:PySem.W.Frag) (mg:Str→Option Value) (base:Heap) (N:List Str) (qual:Str) (scope:Scope) (f:Addr) (cd:Value) (A:Around) (outer:List Env) (s:Shared) (H:Hp) (E:XK):Cx where
 prog:=P
 w:=w
 K:=K
 mg:=mg
 base:=base
 A:=A.deeper (envOfC qual scope s.heap.objs.size f cd)
 N:=N
 s₀:=s
 H₀:=H
 env:=envOfC qual scope s.heap.objs.size f cd
 outer:=outer
 stack:=envOfC qual scope s.heap.objs.size f cd :: outer
 ex:=[]
 calm:=true
 fn:=fun _=>true
 pn:=[]
 xe:=fun e s'=>wpAny (model P w) (A.deeper (envOfC qual scope s.heap.objs.size f cd)) (leaving (envOfC qual scope s.heap.objs.size f cd) e) (fun _ s''=>CX outer H s E e s'') (fun e' s''=>CX outer H s E e' s'') s'
theorem qK {sc:Scope} {n:Nat} {x:Str} (h:sc.names.lookup x = some .cell):∃c,(cellsFrom n sc.names []).lookup x = some c:=by
 have q:=PySem.W.cellsFrom_some sc.names n [] (.inl h)
 exact Option.isSome_iff_exists.mp q
theorem uJ {CX:CXT} {P:Program} {w:World} {K:PySem.W.Frag} {mg:Str→Option Value} {base:Heap} {N ps:List Str} {qual:Str} {scope:Scope} {f:Addr} {cd:Value} {A:Around} {outer:List Env} {s s1:Shared} {H:Hp} {E:XK} {us:List Value} {vs:List V}
    (S:FnScope N ps scope) (hd:A.handled = none) (e0:Env0 P w K mg base A outer s H) (hl:vs.length = ps.length) (r:Vals vs us)
    (x:InCallC s s.heap.objs.size (bindL (envOfC qual scope s.heap.objs.size f cd).kindOf (ps.zip us) fun _=>none) (cellsFrom (s.heap.objs.size + 1) scope.names []) (bindC (envOfC qual scope s.heap.objs.size f cd).kindOf (ps.zip us) fun _=>none) s1) :
    Inv (cxOf CX P w K mg base N qual scope f cd A outer s H E) [] (start N vs) H s1:=by
  have hpl:ps.length≤N.length:=by have:=congrArg List.length S.pre;rw [List.length_take] at this;omega
  obtain⟨h1,tk,rfl,hk⟩:=x.done
  have noA:∀b:Addr,b∉(cxOf CX P w K mg base N qual scope f cd A outer s H E).ex:=fun b z=>absurd (show b∈([]:List Addr) from z) (by simp)
  refine⟨⟨e0.mod,S.kind,rfl,rfl,Nat.le_refl _,fun y z c h1 h2=>?_,fun y hy=>?_,fun y c _ h=>?_,fun _=>hd,Around.frames_deeper e0.frames,.inr ⟨rfl,rfl⟩,fun b z=>absurd z (noA b),e0.bs,e0.bsz,fun b _ _=>noA b,fun b z=>absurd z (noA b),e0.funs,e0.frf⟩,
    rfl,e0.bare,Un.kept hk,⟨_,x.toInCall.ns,fun i y v h1 h2 h3=>?_⟩,fun y c h=>⟨_,x.cell y c h⟩,e0.hok.fresh (Nat.le_refl _),fun y c h=>?_,fun p hp=>absurd (show p∈([]:List (Addr×Obj)) from hp) (by simp),e0.hok.kept hk,?_⟩
  · exact name_of_addr x.apart (PySem.mem_of_lookup h1) (PySem.mem_of_lookup h2)
  · have hy:scope.names.lookup y = some .cell∨scope.names.lookup y = some .free:=hy
    rcases hy with hy | hy
    · exact qK hy
    · exact absurd rfl (S.nofree _ (PySem.mem_of_lookup hy))
  · exact Nat.le_of_lt (x.above y c (PySem.mem_of_lookup h))
  · have hi:i < vs.length:=by
      unfold start at h2
      by_cases hi:i < vs.length
      · exact hi
      · rw [List.getElem?_append_right (by simpa using hi)] at h2
        rw [List.getElem?_replicate] at h2
        split at h2 <;> cases h2
    have ha:vs[i]? = some v:=by
      unfold start at h2
      rw [List.getElem?_append_left (by simpa using hi),List.getElem?_map] at h2
      cases e:vs[i]? with
      | none=>rw [e] at h2;cases h2
      | some a=>rw [e] at h2;cases h2;rfl
    obtain⟨u,hu,rv⟩:=r.get ha
    have hp:ps[i]? = some y:=by
      rw [←S.pre,List.getElem?_take_of_lt (by omega)];exact h1
    have ndP:ps.Nodup:=by rw [←S.pre];exact S.nd.sublist (List.take_sublist _ _)
    refine⟨u,rv,?_⟩
    rcases S.par y (List.mem_of_getElem? hp) with k | k
    · exact .inl ⟨k,nH ndP hp hu k⟩
    · obtain⟨c,e⟩:=qK (n:=s.heap.objs.size + 1) k
      refine .inr ⟨.inl k,c,e,?_⟩
      have q:=x.cell y c e
      rw [nM ndP hp hu (by show scope.names.lookup y≠_;rw [k];decide)] at q
      exact q
  · exact e0.hok.fresh (Nat.le_of_lt (x.above y c (PySem.mem_of_lookup h)))
  · unfold start
    show _ = N.length
    rw [List.length_append,List.length_map,List.length_replicate]
    omega
theorem a0X {CX:CXT} {P:Program} {w:World} {K:PySem.W.Frag} {mg:Str→Option Value} {base:Heap} {k:Nat} {f:Addr} {name qual:Str} {params:Arguments} {body:List Stmt} {scope:Scope} {dV kV doc pm cdv ct oc:Value} {an od:Option Addr}
    {osl:Array (Option Value)} {N ps:List Str} {sp:Sp} (lk:K.lookup f = some ⟨oc,od,.func (PySem.W.fnOf name qual params body scope dV kV doc pm an cdv ct),osl⟩) (hcd:PySem.W.codeIn K cdv qual = true) (S:FnScope N ps scope)
    (len:∀vs H Q E,sp vs H Q E→vs.length = ps.length)
    (hbody:∀(A:Around) (outer:List Env) (s:Shared) (H:Hp) (vs:List V) (Q:VK) (E:XK),Room k (A.deeper (envOfC qual scope s.heap.objs.size f cdv))→sp vs H Q E→
      ∃t,PSs (cxOf CX P w K mg base N qual scope f cdv A outer s H E) body t∧t { nx:=fun _ H'=>Q .non H',rt:=Q } (start N vs) H) :
    FnOk P w K mg base CX (k + 1) f (PySem.W.fnOf name qual params body scope dV kV doc pm an cdv ct) ps sp:=by
  refine⟨len,fun A outer s H args us vs Q E hr e0 hb r hsp=>?_⟩
  have hl:=len _ _ _ _ hsp
  have KX:K.In s.heap:=e0.mod.kin.keeps fun b o e=>(e0.bs b o e).1
  have lim:s.heap.NoLimit:=e0.mod.nolimit.keeps fun b o e=>(e0.bs b o e).1
  have hkind:∀y∈ps.zip us,scope.names.lookup y.1 = some .local∨(scope.names.lookup y.1 = some .cell∧((cellsFrom (s.heap.objs.size + 1) scope.names []).lookup y.1).isSome = true):=fun ⟨n,v⟩ hy=>by
    rcases S.par n (List.of_mem_zip hy).1 with q | q
    · exact .inl q
    · exact .inr ⟨q,PySem.W.cellsFrom_some _ _ _ (.inl q)⟩
  refine codeAny_call_function hr.depth (KX _ _ lk) rfl S.co S.gen rfl (PySem.W.codeRec_of KX hcd) (hb _ _ _ _ ?_)
  refine wpAny_newFunctionEnv_cells S.kind hkind fun env he s1 x=>?_
  subst he
  refine⟨lim.keeps x.toInCall.keep,codeAny_func ?_⟩
  obtain⟨t,ht,hq⟩:=hbody A outer s H vs Q E (hr.deeper _) hsp
  have I:Inv (cxOf CX P w K mg base N qual scope f cdv A outer s H E) [] (start N vs) H s1:=uJ S hr.hd e0 hl r x
  refine wpAny_mono (ht [] s1 (start N vs) H _ I hq) (fun fl s' hs=>?_) fun e s' hs=>hs
  have fin:∀{σ':St} {H':Hp} {v:V} {u:Value},Inv (cxOf CX P w K mg base N qual scope f cdv A outer s H E) [] σ' H' s'→RelV v u→Q v H'→CE outer P w H s Q u s':=
    fun {σ' H' v u} J rv q=>⟨v,H',J.os,J.bare,J.base,J.hok,rv,q⟩
  cases fl with
  | ret u=>
    obtain⟨v,σ',H',J,rv,q⟩:=hs
    exact fin J rv q
  | next=>
    obtain⟨σ',H',J,q⟩:=hs
    exact fin (v:=V.non) (u:=Value.none) J rfl q
  | brk=>
    obtain⟨_,_,_,q⟩:=hs
    exact False.elim q
  | cont=>
    obtain⟨_,_,_,q⟩:=hs
    exact False.elim q
end L2
namespace L2
open PySem PySem.Spec PyProof.Rows
section
variable {X:Cx} {x:Str} {p pos:Pos} {e:Expr} {es:List Expr} {t:TA} {id T:String} {r:List V→Hp→VK→Prop}
def tCB (r:List V→Hp→VK→Prop) (t:TA):TE:=fun σ H Q=>t σ H fun vs H1=>r vs H1 Q
theorem bO (hc:CallR X (.builtin id) r) (hg:Gl X x) (hm:X.mg x = none) (hv:bootBuiltins x = some (.builtin id)) (ha:PA X (e :: es) t) (hn:x≠"__name__":=by decide) (hdb:(x == ("__debug__":Str)) = false:=by decide)
    (he:starEach (e :: es) X.env = (false,eval e X.env) :: starEach es X.env:=by rfl) (hpl:(backTo pos (starEach es X.env)).any (·.1) = false:=by rfl):PE X (.Call (.Name x p) (e :: es) [] pos) (tCB r t):=by
  intro pins s σ H Q I h
  refine wpAny_Call_Name_kw (oE I hg hm hv ?_ hn hdb)
  exact PyProof.Rows.callWith_builtin1 (thn (ha pos pins s σ H _ I h) fun us s1 ⟨vs,H1,I1,r1,q1⟩=>hc pins s1 σ H1 vs us Q I1 r1 q1) he hpl
theorem cT (hc:CallR X (.type T) r) (hg:Gl X x) (hm:X.mg x = none) (hv:bootBuiltins x = some (.type T)) (ha:PA X (e :: es) t) (hn:x≠"__name__":=by decide) (hdb:(x == ("__debug__":Str)) = false:=by decide)
    (he:starEach (e :: es) X.env = (false,eval e X.env) :: starEach es X.env:=by rfl) (hpl:(backTo pos (starEach es X.env)).any (·.1) = false:=by rfl):PE X (.Call (.Name x p) (e :: es) [] pos) (tCB r t):=by
  intro pins s σ H Q I h
  refine wpAny_Call_Name_kw (oE I hg hm hv ?_ hn hdb)
  exact PyProof.Rows.callWith_type1 (thn (ha pos pins s σ H _ I h) fun us s1 ⟨vs,H1,I1,r1,q1⟩=>hc pins s1 σ H1 vs us Q I1 r1 q1) he hpl
end
end L2
namespace HT
open PySem PyProof.Rows
def lexLt:List Int→List Int→Bool
 | [], []=>false
 | [],_ :: _=>true
 | _ :: _, []=>false
 | x :: xs,y :: ys=>if x = y then lexLt xs ys else decide (x < y)
section
open PySem.SeqAt
open PySem.AutoSeq1 (wpAny_loadPart')
open PySem.MeetsSeq PySem.MeetsSeq2 PySem.MeetsSeq3
end
section
variable {prog:Program} {w:World} {A:Around} {E:Value→Shared→Prop} {s:Shared}
def sIx (n d:Nat):Option Int→Nat
 | none=>d
 | some v=>if v < 0 then (v + (n:Int)).toNat else min v.toNat n
theorem sIx_none (n d:Nat):sIx n d none = d:=rfl
theorem sIx_nat (n d k:Nat):sIx n d (some (k:Int)) = min k n:=by
 show (if (k:Int) < 0 then ((k:Int) + (n:Int)).toNat else min (k:Int).toNat n) = min k n
 rw [if_neg (by omega),Int.toNat_natCast]
end
end HT
namespace L2
open PySem PySem.Spec PyProof.Rows
abbrev TO:=St→Hp→(Option Int→Hp→Prop)→Prop
def PO (X:Cx) (e:Option Expr) (t:TO):Prop:=
 ∀ (pins:List (Addr×Obj)) (s:Shared) (σ:St) (H:Hp) (Q:Option Int→Hp→Prop),Inv X pins σ H s→t σ H Q→
  wpAny (model X.prog X.w) X.A (evalPart e X.env) (fun u s'=>∃o H',Inv X pins σ H' s'∧IsPart u o∧Q o H') X.xe s
def tNoPart:TO:=fun _ H Q=>Q none H
def tPart (t:TE):TO:=fun σ H Q=>t σ H fun x H1=>∃i,x = .int i∧Q (some i) H1
theorem intsAre_of {ns:List Int}:∀{us:List Value},Vals (ns.map V.int) us→IntsAre us ns:=by
 induction ns with
 | nil=>intro us r;rw [List.map_nil] at r;cases r;exact .nil
 | cons n ns ih=>
  intro us r
  rw [List.map_cons] at r
  cases r with
  | cons r1 r2=>
   obtain⟨t,e⟩:=r1
   subst e
   exact .cons n t (ih r2)
section
variable {X:Cx} {e:Expr} {te:TE} {lo hi:Option Expr} {tl th:TO} {pos p2:Pos}
theorem fV:PO X none tNoPart:=by
 intro pins s σ H Q I h
 rw [evalPart_none]
 exact wpAny_pure ⟨none,H,I,.none,h⟩
theorem zK (h:PE X e te):PO X (some e) (tPart te):=by
 intro pins s σ H Q I hw
 rw [evalPart_some]
 refine thn (h pins s σ H _ I hw) fun u s1 ⟨x,H1,I1,r1,q1⟩=>?_
 obtain⟨i,rfl,q⟩:=q1
 obtain⟨t,rfl⟩:=r1
 exact⟨some i,H1,I1,.int i t,q⟩
def SlR (X:Cx) (r:V→Option Int→Option Int→Hp→VK→Prop):Prop:=
 ∀ (pins:List (Addr×Obj)) (s:Shared) (σ:St) (H:Hp) (x:V) (v vl vu:Value) (lo hi:Option Int) (sl:Addr) (Q:VK),Inv X pins σ H s→RelV x v→s.heap.IsSliceOf sl vl vu .none→IsPart vl lo→IsPart vu hi→r x lo hi H Q→
  ∃T id,typeLookup (.type T) "__getitem__" = pure (some (.builtin id))∧s.TypeIs v T∧wpAny (model X.prog X.w) X.A (getItem v (.ref sl)) (EP X pins σ Q) X.xe s
def tSl (r:V→Option Int→Option Int→Hp→VK→Prop) (te:TE) (tl th:TO):TE:=fun σ H Q=>te σ H fun x H1=>tl σ H1 fun l H2=>th σ H2 fun u H3=>r x l u H3 Q
theorem cF {r:V→Option Int→Option Int→Hp→VK→Prop} (hr:SlR X r) (he:PE X e te) (hl:PO X lo tl) (hu:PO X hi th):PE X (.Subscript e (.Slice lo hi none p2) pos) (tSl r te tl th):=by
 intro pins s σ H Q I h
 refine Subscript_ (thn (he pins s σ H _ I h) fun v s1 ⟨x,H1,I1,r1,q1⟩=>?_)
 refine wpAny_Slice (thn (hl pins s1 σ H1 _ I1 q1) fun vl s2 ⟨l,H2,I2,pl,q2⟩=>thn (hu pins s2 σ H2 _ I2 q2) fun vu s3 ⟨u,H3,I3,pu,q3⟩=>?_)
 rw [evalPart_none]
 refine wpAny_pure ?_
 have I4:Inv X pins σ H3 { s3 with heap:=s3.heap.push { cls:= .type "slice",data:= .fields #[vl,vu,.none] } }:=I3.kept (t':=s3.toks) fun b ob q=>Heap.get?_push_of_some _ q
 obtain⟨T,id,hT,ht,hg⟩:=hr pins { s3 with heap:=s3.heap.push { cls:= .type "slice",data:= .fields #[vl,vu,.none] } } σ H3 x v vl vu l u s3.heap.objs.size Q I4 r1 (Heap.IsSliceOf.new ..) pl pu q3
 show wpAny (model X.prog X.w) X.A (subscriptTail e (.Slice lo hi none p2) v (.ref s3.heap.objs.size)) (EP X pins σ Q) X.xe { s3 with heap:=s3.heap.push { cls:= .type "slice",data:= .fields #[vl,vu,.none] } }
 exact tail_any (ops:=[.ref s3.heap.objs.size,v]) ht hT hg (by with_unfolding_all rfl)
def cutV (xs:List V) (lo hi:Option Int):List V:=(xs.drop (HT.sIx xs.length 0 lo)).take (HT.sIx xs.length xs.length hi - HT.sIx xs.length 0 lo)
theorem qJ (xs:List V) (lo hi:Option Int):(cutV xs lo hi).length≤xs.length:=by
 unfold cutV
 rw [List.length_take,List.length_drop]
 omega
def rSlT (K:PySem.W.Frag):V→Option Int→Option Int→Hp→VK→Prop:=fun x lo hi H Q=>∃a xs,x = .ref a∧SqT K H a xs∧
 ¬ (HT.sIx xs.length 0 lo = 0∧HT.sIx xs.length xs.length hi = xs.length)∧∀p,H p = none→Q (.ref p) (upd H p (.tup (cutV xs lo hi)))
def rLtT (K:PySem.W.Frag):R2:=fun x y H Q=>∃a b ns ms,x = .ref a∧y = .ref b∧SqT K H a (ns.map V.int)∧SqT K H b (ms.map V.int)∧Q (.bl (HT.lexLt ns ms)) H
def rCatT (K:PySem.W.Frag):R2:=fun x y H Q=>∃a b xs ys,x = .ref a∧y = .ref b∧SqT K H a xs∧SqT K H b ys∧xs≠ []∧xs.length + ys.length≤sizeLine∧
 (ys = []→Q (.ref a) H)∧(ys≠ []→∀p,H p = none→Q (.ref p) (upd H p (.tup (xs ++ ys))))
end
end L2
namespace L2
open PySem PySem.Spec PyProof.Rows
def ixN (n:Nat) (i:Int):Option Nat:=if 0≤i then (if i < n then some i.toNat else none) else if -(n:Int)≤i then some (i + n).toNat else none
def atI {α:Type} (xs:List α) (i:Int):Option α:=(ixN xs.length i).bind fun j=>xs[j]?
theorem sV {n:Nat} {i:Int} {j:Nat} (h:ixN n i = some j):seqIndex? i n = some j∧j < n∧ -(n:Int)≤i∧i < n:=by
 unfold ixN at h
 by_cases h0:0≤i
 ·rw [if_pos h0] at h
  by_cases h1:i < n
  ·rw [if_pos h1] at h
   have e:i.toNat = j:=Option.some.inj h
   exact⟨by rw [seqIndex_of h0 h1,e],by omega,by omega,h1⟩
  ·rw [if_neg h1] at h;cases h
 ·rw [if_neg h0] at h
  by_cases h1: -(n:Int)≤i
  ·rw [if_pos h1] at h
   have e:(i + n).toNat = j:=Option.some.inj h
   exact⟨by rw [seqIndex_neg (by omega) h1,e],by omega,h1,by omega⟩
  ·rw [if_neg h1] at h;cases h
theorem tK {α:Type} {xs:List α} {i:Int} {v:α} (h:atI xs i = some v):∃j,seqIndex? i xs.length = some j∧xs[j]? = some v∧j < xs.length∧ -(xs.length:Int)≤i∧i < xs.length:=by
 unfold atI at h
 cases e:ixN xs.length i with
 | none=>rw [e] at h;cases h
 | some j=>
  rw [e] at h
  obtain⟨h1,h2,h3,h4⟩:=sV e
  exact⟨j,h1,h,h2,h3,h4⟩
theorem fK {α:Type} {xs:List α} {j:Nat} {v:α} (h:xs[j]? = some v):atI xs (j:Int) = some v:=by
 have hj:j < xs.length:=(List.getElem?_eq_some_iff.mp h).1
 have e:ixN xs.length (j:Int) = some j:=by
  unfold ixN
  rw [if_pos (by omega),if_pos (by omega)];simp
 unfold atI;rw [e];exact h
theorem qM {α:Type} (xs:List α) (v:α):atI (xs ++ [v]) (-1) = some v:=by
 have hl:(xs ++ [v]).length = xs.length + 1:=by simp
 have e:ixN (xs ++ [v]).length (-1) = some xs.length:=by
  unfold ixN
  rw [hl,if_neg (by decide),if_pos (by omega)]
  congr 1
  omega
 unfold atI
 rw [e]
 show (xs ++ [v])[xs.length]? = some v
 simp
def PlainIx (b:Expr):Prop:=∀o i,subscripted b false o i = operate [o,i] (getItem o i)
def IxR (X:Cx) (r:R2):Prop:=
 ∀ (value slice:Expr) (pins:List (Addr×Obj)) (s:Shared) (σ:St) (H:Hp) (x y:V) (v u:Value) (Q:VK),Inv X pins σ H s→RelV x v→RelV y u→r x y H Q→
  subscripted slice false v u = operate [v,u] (getItem v u)→wpAny (model X.prog X.w) X.A (subscriptTail value slice v u) (EP X pins σ Q) X.xe s
def MtR (X:Cx) (id:String) (r:V→List V→Hp→VK→Prop):Prop:=
 ∀ (pins:List (Addr×Obj)) (s:Shared) (σ:St) (H:Hp) (x:V) (xs:List V) (v:Value) (us:List Value) (Q:VK),Inv X pins σ H s→RelV x v→Vals xs us→r x xs H Q→
  wpAny (model X.prog X.w) X.A (call (.builtin id) (v :: us)) (EP X pins σ Q) X.xe s
section
variable {X:Cx} {a b:Expr} {ta tb:TE} {pos:Pos}
theorem aW {r:R2} (hr:IxR X r) (ha:PE X a ta) (hb:PE X b tb) (hs:PlainIx b):PE X (.Subscript a b pos) (tOp r ta tb):=by
 intro pins s σ H Q I h
 exact Subscript_ (a2K ha hb I h fun v u s2 x y H2 I2 rx ry q=>hr a b pins s2 σ H2 x y v u Q I2 rx ry q (hs _ _))
def rIxL (K:PySem.W.Frag):R2:=fun x y H Q=>∃p xs i v,x = .ref p∧y = .int i∧SqL K H p xs∧atI xs i = some v∧Q v H
def rIxT (K:PySem.W.Frag):R2:=fun x y H Q=>∃p xs i v,x = .ref p∧y = .int i∧SqT K H p xs∧atI xs i = some v∧Q v H
def rIxS:R2:=fun x y H Q=>∃z i c,x = .str z∧y = .int i∧z.length≤sizeLine∧atI z.cps.toList i = some c∧Q (.str ⟨#[c]⟩) H
theorem zY:IxR X (rIxL X.K):=by
 intro value slice pins s σ H x y v u Q I rx ry h hs
 obtain⟨p,xs,i,z,rfl,rfl,hq,he,q⟩:=h
 cases rx
 obtain⟨t,rfl⟩:=ry
 obtain⟨its,r,pl,hz⟩:=I.list hq
 obtain⟨j,h1,h2,h3,h4,h5⟩:=tK he
 obtain⟨w,ew,rw'⟩:=r.get h2
 have hl:=r.length
 have hn:=oA
 have fin:EP X pins σ Q w s:=⟨z,H,I,rw',q⟩
 by_cases h0:0≤i
 ·have hj:i.toNat = j:=by
   rw [seqIndex_of h0 h5] at h1
   exact Option.some.inj h1
  exact item_listR pl.isList h0 (by omega) (by rw [hj];simpa using ew) fin hs
 ·have hj:(i + (its.toArray.size:Int)).toNat = j:=by
   rw [seqIndex_neg (by omega) h4] at h1
   rw [List.size_toArray,←hl]
   exact Option.some.inj h1
  exact subscriptTail_builtinR (x:=w) pl.isList.typeIs slot_list_getitem.lookup
   (wpAny_getItem_list_neg (Q:=fun r s'=>r = w∧EP X pins σ Q r s') pl.isList (by omega) (by rw [List.size_toArray] <;> omega) (by omega) (by rw [hj];simpa using ew) ⟨rfl,fin⟩) hs
theorem a2B:IxR X (rIxT X.K):=by
 intro value slice pins s σ H x y v u Q I rx ry h hs
 obtain⟨p,xs,i,z,rfl,rfl,hq,he,q⟩:=h
 cases rx
 obtain⟨t,rfl⟩:=ry
 obtain⟨its,r,pl,hz⟩:=I.tuple hq
 obtain⟨j,h1,h2,h3,h4,h5⟩:=tK he
 obtain⟨w,ew,rw'⟩:=r.get h2
 have hl:=r.length
 have hn:=oA
 have fin:EP X pins σ Q w s:=⟨z,H,I,rw',q⟩
 exact subscriptTail_builtinR (x:=w) pl.typeIs slot_tuple_getitem.lookup
  (getItem_tuple (j:=j) (Q:=fun r s'=>r = w∧EP X pins σ Q r s') pl (by omega) (by omega) (by rw [List.size_toArray,←hl];exact h1) (by simpa using ew) ⟨rfl,fin⟩) hs
def rIx (K:PySem.W.Frag):R2:=fun x y H Q=>rIxL K x y H Q∨rIxT K x y H Q∨rIxS x y H Q
theorem rB (its:List Value) (n j:Nat) (u:Value):Obj.mapSeq (·.setIfInBounds j u) { cls:= .type "list",data:= .seq its.toArray n } = { cls:= .type "list",data:= .seq (its.set j u).toArray n }:=by
 simp [Obj.mapSeq]
theorem Inv.lst {pins:List (Addr×Obj)} {σ:St} {H:Hp} {s:Shared} {p:Addr} {xs:List V} (I:Inv X pins σ H s) (h:H p = some (.lst xs)) :
    ∃(its:List Value) (n:Nat),Vals xs its∧s.heap.get? p = some { cls:= .type "list",data:= .seq its.toArray n }∧xs.length≤sizeLine:=by
  obtain⟨z,its,n,r,e⟩:=I.hok p _ h
  exact⟨its,n,r,e,z⟩
theorem Inv.lstUpd {pins:List (Addr×Obj)} {σ:St} {H:Hp} {s:Shared} {p:Addr} {xs ys:List V} {its its':List Value} {n n':Nat} {f:Obj→Obj} (I:Inv X pins σ H s) (h:H p = some (.lst xs))
    (ho:s.heap.get? p = some { cls:= .type "list",data:= .seq its.toArray n }) (hf:f { cls:= .type "list",data:= .seq its.toArray n } = { cls:= .type "list",data:= .seq its'.toArray n' }) (r:Vals ys its') (hz:ys.length≤sizeLine) (t:Nat) :
    Inv X pins σ (upd H p (.lst ys)) { s with heap:=s.heap.update p f,toks:=t }:=by
  have e:(s.heap.update p f).get? p = some { cls:= .type "list",data:= .seq its'.toArray n' }:=by
    rw [Heap.get?_update_self f ho (by rw [hf] <;> rfl),hf]
  refine I.write (x:=p) (e:=p) (by rw [h];trivial) (.inl rfl) (fun b u hb q=>(Heap.get?_update_other _ _ (Ne.symm hb)).trans q) ⟨_,e⟩ ?_
  exact⟨hz,its',n',r,e⟩
def rSetL:V→V→V→Hp→(Hp→Prop)→Prop:=fun o i v H Q=>∃p xs k j,o = .ref p∧i = .int k∧H p = some (.lst xs)∧ixN xs.length k = some j∧Q (upd H p (.lst (xs.set j v)))
theorem set_list:PSet X rSetL:=by
 intro pins s σ H o i v ov iv u Q I ro ri rv h
 obtain⟨p,xs,k,j,rfl,rfl,hp,hj,q⟩:=h
 cases ro
 obtain⟨t,rfl⟩:=ri
 obtain⟨its,n,r,ho,hz⟩:=I.lst hp
 obtain⟨h1,h2,h3,h4⟩:=sV hj
 have hl:=r.length
 have hn:=oA
 have I':Inv X pins σ (upd H p (.lst (xs.set j v))) { s with heap:=s.heap.update p (Obj.mapSeq (·.setIfInBounds j u)) }:=
  I.lstUpd hp ho (rB its n j u) (r.set rv j) (by rw [List.length_set];exact hz) s.toks
 by_cases h0:0≤k
 ·have hk:k.toNat = j:=by
   rw [seqIndex_of h0 h4] at h1
   exact Option.some.inj h1
  exact PySem.W.ki_setAt ho h0 (by omega) (by rw [List.size_toArray,←hl];exact h4) (by rw [hk];exact⟨_,I',q⟩)
 ·have hk:(k + (its.toArray.size:Int)).toNat = j:=by
   rw [seqIndex_neg (by omega) h3] at h1
   rw [List.size_toArray,←hl]
   exact Option.some.inj h1
  exact PySem.W.ki_setBack ho (by omega) (by rw [List.size_toArray,←hl];exact h3) (by omega) (by rw [hk];exact⟨_,I',q⟩)
theorem nP (lo hi:Option Int) (n:Nat):(sliceBounds lo hi none n).1 = ((HT.sIx n 0 lo:Nat):Int)∧(sliceBounds lo hi none n).2.1 = ((HT.sIx n n hi:Nat):Int)∧(sliceBounds lo hi none n).2.2 = 1:=by
 refine⟨?_,?_,rfl⟩
 ·cases lo with
  | none=>simp [sliceBounds,HT.sIx]
  | some i=>
   simp only [sliceBounds,HT.sIx,Option.getD_none,show (1:Int) > 0 by decide,if_true]
   by_cases h:i < 0
   ·simp only [h,if_true] <;> omega
   ·simp only [h,if_false] <;> omega
 ·cases hi with
  | none=>simp [sliceBounds,HT.sIx]
  | some i=>
   simp only [sliceBounds,HT.sIx,Option.getD_none,show (1:Int) > 0 by decide,if_true]
   by_cases h:i < 0
   ·simp only [h,if_true] <;> omega
   ·simp only [h,if_false] <;> omega
theorem lZ (its:List Value) (lo hi:Option Int):slicePick its.toArray lo hi none = ((its.drop (HT.sIx its.length 0 lo)).take (HT.sIx its.length its.length hi - HT.sIx its.length 0 lo)).toArray:=by
 obtain⟨h1,h2,h3⟩:=nP lo hi its.toArray.size
 unfold slicePick
 rw [h1,h2,h3]
 simp only [sliceRange_one,pick_run,List.size_toArray] <;> rfl
def rSlL (K:PySem.W.Frag):V→Option Int→Option Int→Hp→VK→Prop:=fun x lo hi H Q=>∃a xs,x = .ref a∧SqL K H a xs∧∀p,H p = none→Q (.ref p) (upd H p (.lst (cutV xs lo hi)))
theorem yX:SlR X (rSlL X.K):=by
 intro pins s σ H x v vl vu lo hi sl Q I rx hs pl pu h
 obtain⟨a,xs,rfl,hx,q⟩:=h
 cases rx
 obtain⟨its,r,ht,hz⟩:=I.list hx
 have hlen:=r.length
 refine⟨"list",_,slot_list_getitem.lookup,ht.isList.typeIs,?_⟩
 refine wpAny_getItem_list_slice ht.isList hs pl pu .none (by simp) ?_ (by rw [List.size_toArray] <;> omega)
 rw [lZ,←hlen]
 refine⟨.ref s.heap.objs.size,_,I.laid (t':=s.toks) (o:= .lst (cutV xs lo hi)) (fun b ob q=>Heap.get?_push_of_some _ q) (Nat.le_refl _) ?_,rfl,q _ (I.hok.fresh (Nat.le_refl _))⟩
 exact⟨Nat.le_trans (qJ xs lo hi) hz,_,0,(r.drop (HT.sIx xs.length 0 lo)).take (HT.sIx xs.length xs.length hi - HT.sIx xs.length 0 lo),Heap.get?_push_size _ rfl⟩
def flatV:V→Bool
 | .non=>true
 | .bl _=>true
 | .int _=>true
 | .str _=>true
 | _=>false
def eqV:V→V→Bool
 | .non,.non=>true
 | .bl a,.bl b=>a == b
 | .bl a,.int b=>(if a then 1 else 0) == b
 | .int a,.bl b=>a == (if b then 1 else 0)
 | .int a,.int b=>a == b
 | .str a,.str b=>a == b
 | _,_=>false
theorem a2F {A:Around} {s:Shared} {y x:V} {u v:Value} (ry:RelV y u) (rx:RelV x v) (fy:flatV y = true) (fx:flatV x = true):SeqAt.EqAt A s u v (eqV y x):=by
 cases y with
 | non=>
  cases ry
  cases x with
  | non=>cases rx;exact SeqAt.EqAt.same _
  | bl b=>cases rx;exact SeqAt.EqAt.none_bool b
  | int b=>obtain⟨t,rfl⟩:=rx;exact SeqAt.EqAt.none_int b t
  | str b=>obtain⟨t,rfl⟩:=rx;exact SeqAt.EqAt.none_str b t
  | _=>exact absurd (show false = true from fx) Bool.false_ne_true
 | bl a=>
  cases ry
  cases x with
  | non=>cases rx;exact SeqAt.EqAt.bool_none a
  | bl b=>cases rx;exact SeqAt.EqAt.bool_bool a b
  | int b=>obtain⟨t,rfl⟩:=rx;exact SeqAt.EqAt.bool_int a b t
  | str b=>obtain⟨t,rfl⟩:=rx;exact SeqAt.EqAt.bool_str a b t
  | _=>exact absurd (show false = true from fx) Bool.false_ne_true
 | int a=>
  obtain⟨t',rfl⟩:=ry
  cases x with
  | non=>cases rx;exact SeqAt.EqAt.int_none a t'
  | bl b=>cases rx;exact SeqAt.EqAt.int_bool a t' b
  | int b=>obtain⟨t,rfl⟩:=rx;exact SeqAt.EqAt.int_int a t' b t
  | str b=>obtain⟨t,rfl⟩:=rx;exact SeqAt.EqAt.int_str a t' b t
  | _=>exact absurd (show false = true from fx) Bool.false_ne_true
 | str a=>
  obtain⟨t',rfl⟩:=ry
  cases x with
  | non=>cases rx;exact SeqAt.EqAt.str_none a t'
  | bl b=>cases rx;exact SeqAt.EqAt.str_bool a t' b
  | int b=>obtain⟨t,rfl⟩:=rx;exact SeqAt.EqAt.str_int a t' b t
  | str b=>obtain⟨t,rfl⟩:=rx;exact SeqAt.EqAt.str_str a t' b t
  | _=>exact absurd (show false = true from fx) Bool.false_ne_true
 | _=>exact absurd (show false = true from fy) Bool.false_ne_true
def eqU (x:V) (u:Value):Bool:=match u with
 | .none=>eqV .non x
 | .bool b=>eqV (.bl b) x
 | .int i _=>eqV (.int i) x
 | .str z _=>eqV (.str z) x
 | _=>false
theorem yC {x y:V} {u:Value} (r:RelV y u) (f:flatV y = true):eqU x u = eqV y x:=by
 cases y with
 | non=>cases r;rfl
 | bl b=>cases r;rfl
 | int i=>obtain⟨t,rfl⟩:=r;rfl
 | str z=>obtain⟨t,rfl⟩:=r;rfl
 | _=>exact absurd (show false = true from f) Bool.false_ne_true
theorem oY {x:V}:∀{xs:List V} {us:List Value},Vals xs us→xs.all flatV = true→us.any (eqU x) = xs.any fun y=>eqV y x
 | _,_,.nil,_=>rfl
 | y :: xs,u :: us,.cons r t,f=>by
  rw [List.all_cons,Bool.and_eq_true] at f
  rw [List.any_cons,List.any_cons,yC r f.1,oY t f.2]
theorem lM {A:Around} {s:Shared} {x:V} {v:Value} (rx:RelV x v) (fx:flatV x = true):∀{xs:List V} {us:List Value},Vals xs us→xs.all flatV = true→∀u∈us,SeqAt.EqAt A s u v (eqU x u)
 | _,_,.nil,_=>fun u hu=>by cases hu
 | y :: xs,u :: us,.cons r t,f=>fun u' hu=>by
  rw [List.all_cons,Bool.and_eq_true] at f
  rcases List.mem_cons.mp hu with rfl | hu
  ·rw [yC r f.1];exact a2F r rx f.1 fx
  ·exact lM rx fx t f.2 u' hu
def inV (x:V) (xs:List V):Bool:=xs.any fun y=>eqV y x
def rIn (K:PySem.W.Frag) (neg:Bool):R2:=fun x y H Q=>∃p xs,y = .ref p∧(SqL K H p xs∨SqT K H p xs)∧flatV x = true∧xs.all flatV = true∧Q (.bl (if neg then !inV x xs else inV x xs)) H
theorem nW:OpR X (compareOp .NotIn) (rIn X.K true):=by
 intro pins s σ H x y v u Q I rx ry h
 obtain⟨p,xs,rfl,hq,fx,fs,q⟩:=h
 cases ry
 rcases hq with hq | hq
 ·obtain⟨its,r,pl,hz⟩:=I.list hq
  refine SeqAt.notIn_listAt (eqU x) pl.isList (fun w hw=>lM rx fx r fs w (by simpa using hw)) ⟨.bl _,H,I,rfl,?_⟩
  rw [show its.toArray.any (eqU x) = its.any (eqU x) by simp,oY r fs]
  exact q
 ·obtain⟨its,r,pl,hz⟩:=I.tuple hq
  refine SeqAt.notIn_tupleAt (eqU x) pl (fun w hw=>lM rx fx r fs w (by simpa using hw)) ⟨.bl _,H,I,rfl,?_⟩
  rw [show its.toArray.any (eqU x) = its.any (eqU x) by simp,oY r fs]
  exact q
theorem oU:CallR X (.builtin "len") (fun xs H Q=>∃p ys,xs = [.ref p]∧(SqL X.K H p ys∨SqT X.K H p ys)∧Q (.int ys.length) H):=by
 intro pins s σ H xs us Q I r h
 obtain⟨p,ys,rfl,hq,q⟩:=h
 obtain⟨u,rfl,rx⟩:=vals1 r
 cases rx
 have hn:=oA
 rcases hq with hq | hq
 ·obtain⟨its,r',pl,hz⟩:=I.list hq
  have hlen:=r'.length
  exact Calls.call_len_list pl.isList (by simp only [List.size_toArray] <;> omega) ⟨.int ys.length,H,I.tok _,⟨s.toks + 1,by rw [List.size_toArray,hlen]⟩,q⟩
 ·obtain⟨its,r',pl,hz⟩:=I.tuple hq
  have hlen:=r'.length
  exact len_tuple pl (by simp only [List.size_toArray] <;> omega) ⟨.int ys.length,H,I.tok _,⟨s.toks + 1,by rw [List.size_toArray,hlen]⟩,q⟩
theorem oR:CallR X (.type "list") (fun xs H Q=>∃p ys,xs = [.ref p]∧(SqL X.K H p ys∨SqT X.K H p ys)∧∀l,H l = none→Q (.ref l) (upd H l (.lst ys))):=by
  intro pins s σ H xs us Q I r h
  obtain⟨p,ys,rfl,hq,q⟩:=h
  obtain⟨u,rfl,rx⟩:=vals1 r
  cases rx
  have fin:∀(its:List Value),Vals ys its→ys.length≤sizeLine→∀(h':Heap) (c':Nat),(∀b o',s.heap.get? b = some o'→h'.get? b = some o')→
      h'.get? s.heap.objs.size = some { cls:= .type "list",dict:=none,data:= .seq its.toArray c',slots:=#[] }→EP X pins σ Q (.ref s.heap.objs.size) { s with heap:=h' }:=fun its r' hz h' c' kp e=>
    ⟨.ref s.heap.objs.size,_,I.laid (t':=s.toks) kp (Nat.le_refl _) (show ObjOk X.prog X.w _ h' _ (.lst ys) from ⟨hz,its,c',r',e⟩),rfl,q _ (I.hok.fresh (Nat.le_refl _))⟩
  rcases hq with hq | hq
  · obtain⟨its,r',pl,hz⟩:=I.list hq
    have hlen:=r'.length
    obtain⟨o,ho,hc,n,hd⟩:=pl.isList
    exact call_list_seq p (.inl rfl) ho hc hd (fun h' c' kp e=>fin its r' hz h' c' kp e) (by simp only [List.size_toArray] <;> omega)
  · obtain⟨its,r',pl,hz⟩:=I.tuple hq
    have hlen:=r'.length
    obtain⟨o,ho,hc,n,hd⟩:=pl
    exact call_list_seq p (.inr rfl) ho hc hd (fun h' c' kp e=>fin its r' hz h' c' kp e) (by simp only [List.size_toArray] <;> omega)
def tyV (K:PySem.W.Frag) (T:String) (x:V) (H:Hp):Prop:=match x with
  | .str _=>T = "str"
  | .int _=>T = "int"
  | .ref p=>(T = "list"∧∃xs,SqL K H p xs)∨(T = "tuple"∧∃o,K.lookup p = some o∧o.cls = .type "tuple"∧o.dict = none)∨
      (T = "dict"∧((∃kvs,H p = some (.dK kvs))∨∃kvs,H p = some (.dT kvs)))∨(T = "set"∧∃S n,H p = some (.set S n))
  | _=>False
theorem vP {pins:List (Addr×Obj)} {σ:St} {H:Hp} {s:Shared} {T:String} {x:V} {v:Value} (I:Inv X pins σ H s) (r:RelV x v) (ty:tyV X.K T x H) :
    s.TypeIs v T∧∀a,v = .ref a→∃ob,s.heap.get? a = some ob∧ob.dict = none:=by
  cases x with
  | str z=>
    obtain⟨t,rfl⟩:=r
    cases (show T = "str" from ty)
    exact⟨typeIs_str s z t,fun _ e=>nomatch e⟩
  | int i=>
    obtain⟨t,rfl⟩:=r
    cases (show T = "int" from ty)
    exact⟨typeIs_int s i t,fun _ e=>nomatch e⟩
  | ref p =>
    cases r
    rcases ty with ⟨rfl,xs,hq⟩ | ⟨rfl,o,hk,hc,hd⟩ | ⟨rfl,hk⟩ | ⟨rfl,S,n,hk⟩
    · obtain⟨its,_,pl,_⟩:=I.list hq
      refine⟨pl.isList.typeIs,fun a e=>?_⟩
      cases e
      obtain⟨o,n,e,c,hd,_⟩:=pl
      exact⟨o,e,hd⟩
    · refine⟨⟨o,I.kIn p o hk,hc⟩,fun a e=>?_⟩
      cases e
      exact⟨o,I.kIn _ o hk,hd⟩
    · have z:∃o,s.heap.get? p = some o∧o.ExactDict:=by
        rcases hk with ⟨kvs,hk⟩ | ⟨kvs,hk⟩
        · obtain⟨_,_,_,_,o,_,_,e,ex,_⟩:=I.hok p _ hk
          exact⟨o,e,ex⟩
        · obtain⟨_,_,_,_,o,_,_,e,ex,_⟩:=I.hok p _ hk
          exact⟨o,e,ex⟩
      obtain⟨o,e,ex⟩:=z
      refine⟨⟨o,e,ex.1⟩,fun a e2=>?_⟩
      cases e2
      exact⟨o,e,ex.2.1⟩
    · obtain⟨o,_,_,_,e,ex,_⟩:=I.hok p _ hk
      refine⟨⟨o,e,ex.1⟩,fun a e2=>?_⟩
      cases e2
      exact⟨o,e,ex.2.1⟩
  | _=>exact False.elim ty
def tBM0 (K:PySem.W.Frag) (T:String) (r:V→List V→Hp→VK→Prop) (to:TE):TE:=fun σ H Q=>to σ H fun x H1=>tyV K T x H1∧r x [] H1 Q
def tBM (K:PySem.W.Frag) (T:String) (r:V→List V→Hp→VK→Prop) (to:TE) (t:TA):TE:=fun σ H Q=>to σ H fun x H1=>tyV K T x H1∧t σ H1 fun xs H2=>r x xs H2 Q
variable {o e:Expr} {es:List Expr} {to:TE} {t:TA} {name:Str} {apos cpos:Pos} {T id:String} {r:V→List V→Hp→VK→Prop}
theorem a1J (pa:PlainAttrs T) (slot:Slot T name id) (hty:typeOf (.builtin id) = pure (.type "method_descriptor")) (hm:MtR X id r) (ho:PE X o to)
    (hbase:attributeBase o name X.env (eval o X.env) = eval o X.env:=by rfl) (hline:(apos.endLine == cpos.line) = true:=by rfl):PE X (.Call (.Attribute o name apos) [] [] cpos) (tBM0 X.K T r to):=by
  intro pins s σ H Q I h
  refine wpAny_Call_method0_late hbase hline (thn (ho pins s σ H _ I h) fun v s1 ⟨x,H1,I1,r1,ty,q1⟩=>?_)
  obtain⟨h1,h2⟩:=vP I1 r1 ty
  exact⟨T,id,pa,slot,hty,h1,h2,Calls.callWith_builtin rfl (PySem.evalArgs_none (hm pins s1 σ H1 x [] v [] Q I1 r1 .nil q1))⟩
theorem rZ (pa:PlainAttrs T) (slot:Slot T name id) (hty:typeOf (.builtin id) = pure (.type "method_descriptor")) (hm:MtR X id r) (ho:PE X o to) (ha:PA X (e :: es) t)
    (hbase:attributeBase o name X.env (eval o X.env) = eval o X.env:=by rfl)
    (hfew:((backTo cpos (starEach (e :: es) X.env)).all (fun x=>!x.1) && (backToKw cpos (keywordEach [] X.env)).all (fun x=>x.1.isSome)
      && decide ((e :: es).length + ([]:List Keyword).length + (if ([]:List Keyword).isEmpty then 0 else 1) < 30)) = true:=by rfl)
    (hline:(apos.endLine == cpos.line) = true:=by rfl) (hs:starEach (e :: es) X.env = (false,eval e X.env) :: starEach es X.env:=by rfl) (hplain:(backTo cpos (starEach es X.env)).any (·.1) = false:=by rfl) :
    PE X (.Call (.Attribute o name apos) (e :: es) [] cpos) (tBM X.K T r to t):=by
  intro pins s σ H Q I h
  refine wpAny_Call_method_late hbase hfew hline rfl (thn (ho pins s σ H _ I h) fun v s1 ⟨x,H1,I1,r1,ty,q1⟩=>?_)
  obtain⟨h1,h2⟩:=vP I1 r1 ty
  refine⟨T,id,pa,slot,hty,h1,h2,?_⟩
  have hA:=ha cpos pins s1 σ H1 _ I1 q1
  rw [hs] at hA ⊢
  refine Calls.callWith_builtin (by show (false || (backTo cpos (starEach es X.env)).any (·.1)) = false;rw [hplain] <;> rfl) (Calls.evalArgs_plain ?_)
  exact thn hA fun us s2 ⟨vs,H2,I2,r2,q2⟩=>hm pins s2 σ H2 x vs v us Q I2 r1 r2 q2
end
end L2
namespace L2
open PySem PySem.Spec PyProof.Rows
def MtM (X:Cx) (id:String) (r:V→List V→Hp→VK→Prop):Prop:=
 ∀ (pins:List (Addr×Obj)) (s:Shared) (σ:St) (H:Hp) (x:V) (xs:List V) (v:Value) (us:List Value) (Q:VK),Inv X pins σ H s→RelV x v→Vals xs us→r x xs H Q→
  wpAny (model X.prog X.w) X.A (call (.builtin id) (v :: us)) (EP X pins σ Q) X.xe s
theorem Vals.one:∀{x:V} {us:List Value},Vals [x] us→∃u,us = [u]∧RelV x u
 | _,_,.cons r .nil=>⟨_,rfl,r⟩
theorem Vals.two:∀{x y:V} {us:List Value},Vals [x,y] us→∃u v,us = [u,v]∧RelV x u∧RelV y v
 | _,_,_,.cons r (.cons q .nil)=>⟨_,_,rfl,r,q⟩
theorem Vals.eraseIdx:∀{xs:List V} {us:List Value} (i:Nat),Vals xs us→Vals (xs.eraseIdx i) (us.eraseIdx i)
 | _,_,_,.nil=> .nil
 | _,_,0,.cons _ t=>t
 | _,_,i + 1,.cons r t=> .cons r (Vals.eraseIdx i t)
theorem Vals.rep {xs:List V} {us:List Value} (h:Vals xs us):∀k:Nat,Vals (List.replicate k xs).flatten (List.replicate k us).flatten
 | 0=> .nil
 | k + 1=>by
  rw [List.replicate_succ,List.replicate_succ,List.flatten_cons,List.flatten_cons]
  exact Vals.append h (Vals.rep h k)
theorem nC {α:Type}:∀(l:List α) (i:Nat),(l.eraseIdx i).length≤l.length
 | [],_=>Nat.le_refl _
 | _ :: _,0=>Nat.le_succ _
 | _ :: r,i + 1=>Nat.succ_le_succ (nC r i)
theorem foldl_rep (its:List Value):∀(k:Nat) (acc:List Value),
    List.foldl (fun x1 x2=>x1 ++ x2) acc.toArray (List.replicate k its.toArray) = (acc ++ (List.replicate k its).flatten).toArray
  | 0,acc=>by simp
  | k + 1,acc=>by
    have e:acc.toArray ++ its.toArray = (acc ++ its).toArray:=by simp
    have e2:(acc ++ its) ++ (List.replicate k its).flatten = acc ++ (List.replicate (k + 1) its).flatten:=by
      rw [List.replicate_succ,List.flatten_cons,List.append_assoc]
    rw [←e2,←foldl_rep its k (acc ++ its),←e,List.replicate_succ,List.foldl_cons]
section
variable {X:Cx} {pins:List (Addr×Obj)} {σ:St} {H:Hp} {s:Shared} {l b:Addr} {xs ys zs:List V}
theorem Inv.lset {its its':List Value} {n:Nat} {f:Array Value→Array Value} {t':Nat} (I:Inv X pins σ H s) (hH:H l = some (.lst xs))
    (e:s.heap.get? l = some { cls:= .type "list",data:= .seq its.toArray n }) (hf:f its.toArray = its'.toArray) (hv:Vals ys its') (hz:ys.length≤sizeLine) :
    Inv X pins σ (upd H l (.lst ys)) { s with heap:=s.heap.update l (Obj.mapSeq f),toks:=t' }:=by
  have q:=PySem.IsL.update e f
  rw [hf] at q
  refine I.write (x:=l) (e:=l) (by rw [hH];exact trivial) (.inl rfl) (fun b' u hb hu=>(Heap.get?_update_other s.heap (Obj.mapSeq f) (Ne.symm hb)).trans hu) ⟨_,q⟩ ?_
  exact⟨hz,its',_,hv,q⟩
theorem Inv.lnew {its:List Value} {t':Nat} (I:Inv X pins σ H s) (hv:Vals ys its) (hz:ys.length≤sizeLine) :
    Inv X pins σ (upd H s.heap.objs.size (.lst ys)) { s with heap:=s.heap.push { cls:= .type "list",data:= .seq its.toArray },toks:=t' }:=
  I.laid (fun _ _ q=>Heap.get?_push_of_some _ q) (Nat.le_refl _) ⟨hz,its,0,hv,Heap.get?_push_size _ rfl⟩
theorem Inv.fresh (I:Inv X pins σ H s):H s.heap.objs.size = none:=I.hok.fresh (Nat.le_refl _)
theorem Inv.lstM (I:Inv X pins σ H s) (hH:H l = some (.lst xs)):xs.length≤sizeLine∧∃(its:List Value) (n:Nat),Vals xs its∧xs.length = its.length∧s.heap.get? l = some { cls:= .type "list",data:= .seq its.toArray n }:=by
 obtain⟨z,its,n,r,e⟩:=I.hok l _ hH
 exact⟨z,its,n,r,r.length,e⟩
theorem pK {n:Nat} (h:n≤sizeLine):Builtin.List.listTooLong n = false:=by
 unfold Builtin.List.listTooLong
 exact decide_eq_false (by omega)
end
section
variable {X:Cx}
def rAppend:V→List V→Hp→VK→Prop:=fun x vs H Q=>∃l xs y,x = .ref l∧vs = [y]∧H l = some (.lst xs)∧xs.length < sizeLine∧Q .non (upd H l (.lst (xs ++ [y])))
theorem uA:MtM X "list.append" rAppend:=by
 intro pins s σ H x vs v us Q I rx rv h
 obtain⟨l,xs,y,rfl,rfl,hH,hz,q⟩:=h
 cases rx
 obtain⟨u,rfl,ru⟩:=rv.one
 obtain⟨z,its,n,r,hl,e⟩:=I.lstM hH
 refine call_meets F.slot_list_append ⟨_,e,rfl⟩ F.entry_list_append (F.args_list_append_2 _ _) (PySem.list_append l its.toArray n u (by rw [List.size_toArray];omega)) ⟨e,?_⟩
 refine⟨.non,_,I.lset (its':=its ++ [u]) hH e (by simp) (r.append (.cons ru .nil)) ?_,rfl,q⟩
 rw [List.length_append,List.length_singleton]
 omega
def rExtend:V→List V→Hp→VK→Prop:=fun x vs H Q=>∃l b xs zs,x = .ref l∧vs = [.ref b]∧H l = some (.lst xs)∧H b = some (.lst zs)∧xs.length + zs.length≤sizeLine∧Q .non (upd H l (.lst (xs ++ zs)))
theorem tZ:MtM X "list.extend" rExtend:=by
 intro pins s σ H x vs v us Q I rx rv h
 obtain⟨l,b,xs,zs,rfl,rfl,hH,hB,hz,q⟩:=h
 cases rx
 obtain⟨u,rfl,ru⟩:=rv.one
 cases ru
 obtain⟨z,its,n,r,hl,e⟩:=I.lstM hH
 obtain⟨z2,its2,n2,r2,hl2,e2⟩:=I.lstM hB
 have hsz:its.toArray.size + its2.toArray.size≤sizeLine:=by rw [List.size_toArray,List.size_toArray];omega
 have hlong:¬ (!its.toArray.isEmpty && Builtin.List.listTooLong (its.toArray.size + its2.toArray.size)) = true:=by
  rw [pK hsz,Bool.and_false]
  exact Bool.false_ne_true
 refine call_meets F.slot_list_extend ⟨_,e,rfl⟩ F.entry_list_extend (F.args_list_extend_2 _ _)
  (AutoSeq1.list_extend_list_list_0 l its.toArray n b its2.toArray n2 hlong (by rw [List.size_toArray];omega) (by omega)) ⟨e,e2,?_⟩
 refine⟨.non,_,I.lset (its':=its ++ its2) hH e (by simp) (r.append r2) ?_,rfl,q⟩
 rw [List.length_append]
 omega
def rPop:V→List V→Hp→VK→Prop:=fun x vs H Q=>∃l xs y,x = .ref l∧vs = []∧H l = some (.lst xs)∧xs[xs.length - 1]? = some y∧Q y (upd H l (.lst xs.dropLast))
def rPopAt:V→List V→Hp→VK→Prop:=fun x vs H Q=>∃l xs i k y,x = .ref l∧vs = [.int i]∧H l = some (.lst xs)∧ -(2 ^ 63)≤i∧i < 2 ^ 63∧seqIndex? i xs.length = some k∧xs[k]? = some y∧Q y (upd H l (.lst (xs.eraseIdx k)))
theorem wX:MtM X "list.pop" rPopAt:=by
 intro pins s σ H x vs v us Q I rx rv h
 obtain⟨l,xs,i,k,y,rfl,rfl,hH,h1,h2,hk,hy,q⟩:=h
 cases rx
 obtain⟨u,rfl,ru⟩:=rv.one
 obtain⟨t,rfl⟩:=ru
 obtain⟨z,its,n,r,hl,e⟩:=I.lstM hH
 obtain⟨w,hw,rw'⟩:=r.get hy
 refine call_meets F.slot_list_pop ⟨_,e,rfl⟩ F.entry_list_pop (F.args_list_pop_2 _ _)
  (MeetsSeq.list_pop_at l its.toArray n i t k w (fitsIndex_both h1 h2) (by rw [List.size_toArray,←hl];exact hk) (by rw [←Array.getElem?_toList];exact hw) (by rw [List.size_toArray];omega)) ⟨e,?_⟩
 refine⟨y,_,I.lset (its':=its.eraseIdx k) hH e ?_ (r.eraseIdx k) ?_,rw',q⟩
 ·show its.toArray.eraseIdxIfInBounds k = (its.eraseIdx k).toArray
  rw [List.eraseIdxIfInBounds_toArray]
 ·have:=nC xs k
  omega
def rReverse:V→List V→Hp→VK→Prop:=fun x vs H Q=>∃l xs,x = .ref l∧vs = []∧H l = some (.lst xs)∧Q .non (upd H l (.lst xs.reverse))
def rClear:V→List V→Hp→VK→Prop:=fun x vs H Q=>∃l xs,x = .ref l∧vs = []∧H l = some (.lst xs)∧Q .non (upd H l (.lst []))
def rCat:R2:=fun x y H Q=>∃l b xs zs,x = .ref l∧y = .ref b∧H l = some (.lst xs)∧H b = some (.lst zs)∧xs.length + zs.length≤sizeLine∧∀p,H p = none→Q (.ref p) (upd H p (.lst (xs ++ zs)))
theorem a1R:OpR X (binaryOp .Add) rCat:=by
 intro pins s σ H x y v u Q I rx ry h
 obtain⟨l,b,xs,zs,rfl,rfl,hH,hB,hz,q⟩:=h
 cases rx
 cases ry
 obtain⟨z,its,n,r,hl,e⟩:=I.lstM hH
 obtain⟨z2,its2,n2,r2,hl2,e2⟩:=I.lstM hB
 refine PySem.P.add_list e e2 ?_ (by rw [List.size_toArray,List.size_toArray];omega)
 have ea:its.toArray ++ its2.toArray = (its ++ its2).toArray:=by simp
 rw [ea]
 exact⟨.ref _,_,I.lnew (t':=s.toks) (r.append r2) (by rw [List.length_append];omega),rfl,q _ I.fresh⟩
def rRep:R2:=fun x y H Q=>∃l k xs,x = .ref l∧y = .int k∧H l = some (.lst xs)∧ -(2 ^ 63)≤k∧k < 2 ^ 63∧xs.length * k.toNat≤sizeLine∧
 ∀p,H p = none→Q (.ref p) (upd H p (.lst (List.replicate k.toNat xs).flatten))
theorem len_rep {α:Type} (xs:List α) (k:Nat):(List.replicate k xs).flatten.length = k * xs.length:=by
 induction k with
 | zero=>simp
 | succ k ih=>rw [List.replicate_succ,List.flatten_cons,List.length_append,ih,Nat.succ_mul,Nat.add_comm]
theorem a1P:OpR X (binaryOp .Mult) rRep:=by
 intro pins s σ H x y v u Q I rx ry h
 obtain⟨l,k,xs,rfl,rfl,hH,h1,h2,hz,q⟩:=h
 cases rx
 obtain⟨t,rfl⟩:=ry
 obtain⟨z,its,n,r,hl,e⟩:=I.lstM hH
 have hlen:its.toArray.size * k.toNat≤sizeLine:=by rw [List.size_toArray,←hl];exact hz
 have hcap:¬ its.toArray.size * k.toNat > (2 ^ 63 - 1) / 8:=by
  have:(sizeLine:Nat)≤(2 ^ 63 - 1) / 8:=by decide
  omega
 have hfit:¬ (!Builtin.List.listFitsIndex k) = true:=by
  rw [fitsIndex_both h1 h2]
  exact Bool.false_ne_true
 have hlong:¬ Builtin.List.listTooLong (its.toArray.size * k.toNat) = true:=by
  rw [pK hlen]
  exact Bool.false_ne_true
 have hnew:List.foldl (fun x1 x2=>x1 ++ x2) #[] (List.replicate (if its.toArray.isEmpty = true then 0 else k.toNat) its.toArray) = (List.replicate k.toNat its).flatten.toArray:=by
  have f0:∀m:Nat,List.foldl (fun x1 x2=>x1 ++ x2) #[] (List.replicate m its.toArray) = (List.replicate m its).flatten.toArray:=fun m=>by
   have:=foldl_rep its m []
   rw [List.nil_append] at this
   exact this
  rw [f0]
  cases its with
  | nil=>simp
  | cons a r'=>rw [if_neg (by simp)]
 refine wpAny_binaryOp_repeat_ref (T:="list") (U:="int") (by decide) ⟨_,e,rfl⟩ (fun s'=>typeIs_int s' k t) noFill_list_mul F.fills_int_mul F.slot_int_rmul repeat_list F.slot_int_index.lookup
  (call_meets F.slot_int_rmul (typeIs_int s k t) F.entry_int_rmul (F.args_int_rmul_2 _ _) (int___rmul___int_list k t l its.toArray n)
   ⟨e,rfl,⟨_,e,rfl⟩,call_meets F.slot_list_mul ⟨_,e,rfl⟩ F.entry_list_mul (F.args_list_mul_2 _ _) (AutoListH.list___mul___list_int_3 l its.toArray n k t hfit hcap hlong) ⟨e,?_⟩⟩)
 rw [hnew]
 exact⟨.ref _,_,I.lnew (t':=s.toks) (r.rep k.toNat) (by rw [len_rep,Nat.mul_comm];exact hz),rfl,q _ I.fresh⟩
end
section
variable {prog:Program} {w:World} {A:Around} {E:Value→Shared→Prop} {s:Shared}
end
section
variable {X:Cx}
end
end L2
namespace Att
open PySem PySem.W PySem.Calls PyProof.Rows
theorem jV {P:Params} {h:Heap}:∀(ns:List Int) (vs:List Value),WellAll P h vs (ns.map WData.int)→IntsAre vs ns:=by
 intro ns
 induction ns with
 | nil=>
  intro vs w
  rw [List.map_nil] at w
  cases w
  exact .nil
 | cons n ns ih=>
  intro vs w
  rw [List.map_cons] at w
  cases w with
  | cons a b=>
   cases a
   exact .cons _ _ (ih _ b)
theorem tQ {l:OpenLaw} {n:Nat} (hn:l.most = some n) {P:Params} {h:Heap} {args:List WData} {vals:List Value}
    (hpre:l.row.toRowW.claim.pre args = true) (hwl:WellAll P h vals args) :
    ∃a vs ns,vals = [Value.ref a]∧args = [WData.list (ns.map WData.int)]∧h.get? a = some { cls:= .type "list",data:= .seq vs.toArray }∧IntsAre vs ns∧ns.length≤n:=by
  have hsh:WShape.hasAll [] args [.list .int] = true:=(pre_splitW hpre).1
  have hc:l.pre.holds [] { args:=args } = true:=(pre_splitW hpre).2
  obtain⟨d,r,rfl,h1,h2⟩:=hasAllW_cons hsh
  obtain rfl:=hasAllW_nil h2
  obtain⟨xs,rfl,h3⟩:=hasW_list h1
  obtain⟨ns,rfl⟩:=items_int h3
  have hlen:ns.length≤n:=by
    unfold OpenLaw.pre at hc
    have h4:(WTm.not (.lt (.lit (.int (n:Int))) (.len (.arg 0)))).holds [] { args:=[.list (ns.map .int)] } = true:=by
      have h4:=(holds_andW hc).1
      rw [hn] at h4
      exact h4
    have h5:=condW_of h4 (w_not (w_lt w_lit (w_len_list (w_arg rfl))))
    rw [List.length_map] at h5
    refine Nat.le_of_not_lt fun q=>?_
    have q':(n:Int) < ((ns.length:Nat):Int):=by omega
    first
      | (rw [decide_eq_true q'] at h5;exact absurd h5 (by decide))
      | (simp at h5;omega)
  cases hwl with
  | cons w1 w2=>
    cases w2
    cases w1 with
    | list ho hall=>exact⟨_,_,ns,rfl,rfl,ho,jV ns _ hall,hlen⟩
theorem tV (l:OpenLaw) (args:List WData):l.row.toRowW.claim.post args (.bool true) args = true:=
 postW_of (r:=l.row.toRowW) (X:=(true == true))
  (show WShape.has [] (.bool true) .bool = true by first | rfl | decide | simp [WShape.has,WShape.arms,WShape.armsAll])
  (show (WTm.eq .res (.lit (.bool true))).value [] { args:=args,res:=some (.bool true),after:=args } = some (.bool (true == true)) from w_eq_bool (w_res rfl) w_lit) rfl
theorem attach_call {l:OpenLaw} {n:Nat} {q:Program} {loose:List Str} {XP:(Str→Option Value)→Heap→Prop} {YP:World→Heap→Prop} {d:DefRec}
    (hn:l.most = some n) (hdf:d.params.defaults = [])
    (call:∀(w:World) (s₀ s₁:Shared) (mg mb:Str→Option Value) (fa:Addr) (o:Obj) (pm cd doc:Value) (a:Addr) (vs:List Value) (ns:List Int),
      Ground q loose [] XP w s₀ mg mb s₁.heap→YP w s₁.heap→
      s₁.heap.get? fa = some o→o.data = .func (docDef d.name d.params d.body d.scope pm cd doc)→s₁.heap.CodeRec cd d.name→mg d.name = some (.ref fa)→
      s₁.heap.get? a = some { cls:= .type "list",data:= .seq vs.toArray }→IntsAre vs ns→ns.length≤n→s₁.gens = #[]→
      codeAny (model l.prog w) callerA (.call (.ref fa) ⟨[.ref a], []⟩) (fun r s'=>r = .ok (.ret (.bool true))∧OldK s₁.heap s'.heap∧s'.os = s₁.os∧AllBare s'.gens) s₁) :
    WalkO q loose XP YP l.row.toRowW d [] (fun f vs=>PySem.call f vs):=by
  intro w s₀ s₁ mg mb G Y fa o pm cd doc dV kV ho hd hcd hD hmg hg args vals as hpre hlay hrd hwl hlo
  obtain rfl:dV = .none:=Dflts.none hD hdf
  obtain rfl:kV = .none:=Dflts.noKw hD
  obtain⟨a,vs,ns,rfl,rfl,hobj,hints,hlen⟩:=tQ hn hpre hwl
  refine enter_call (codeAny_mono (call w s₀ s₁ mg mb fa o pm cd doc a vs ns G Y ho (fd_plain hd) hcd hmg hobj hints hlen hg) fun r s' hq=>?_)
  obtain⟨rfl,h2,h3,h4⟩:=hq
  exact⟨.inl ⟨.bool true,.bool true, [],rfl,fun _=>rfl,.bool true,tV l _,fun _=>⟨List.Pairwise.nil,fun _ hm=>(nomatch hm)⟩⟩,h2,h3,h4⟩
section
variable {prog:Program} {w:World} {A:Around} {E:Value→Shared→Prop} {s:Shared} {K:Frag}
def noObjs (h:Heap):Heap:={ h with objs:=#[] }
def ledger (h:Heap) (L d:Addr):List (Addr×Obj):=(List.range h.objs.size).filterMap fun a=>if a = L∨a = d then none else (h.get? a).map fun o=>(a,o)
end
end Att
namespace L2
open PySem PySem.Spec PyProof.Rows
theorem mK:∀{vs:List Value} {ns:List Int},IntsAre vs ns→Vals (ns.map V.int) vs
 | _,_,.nil=> .nil
 | _,_,.cons n t h=> .cons ⟨t,rfl⟩ (mK h)
def Only (H:Hp):Prop:=∀b,H b = none∨∃o xs,H b = some (.frz o (.lst xs))
theorem xN {P:Program} {w:World} {K:PySem.W.Frag} {mg mb:Str→Option Value} {CX:CXT} {k:Nat} {fa a:Addr} {fd:FuncData} {x:Str} {sp:Sp} {s₁:Shared} {vs:List Value} {ns:List Int}
    (KX:K.In s₁.heap) (hns:s₁.heap.Ns mainGlobals mg) (hb:s₁.heap.Ns builtinsNs mb) (hbb:∀x:Str,x≠"__name__"→mb x = bootBuiltins x) (hlim:s₁.heap.NoLimit) (hg:s₁.gens = #[])
    (ha:s₁.heap.get? a = some { cls:= .type "list",data:= .seq vs.toArray }) (hi:IntsAre vs ns) (hl:ns.length≤sizeLine) (hr:Room k callerA)
    (F:∀base:Heap,K.In base→base.Ns mainGlobals mg→FnOk P w K mg base CX k fa fd [x] sp) (hbind:∀(s:Shared) (u:Value),BindsTo s fd ⟨[u], []⟩ [(x,u)])
    (hsp:∀H:Hp,Only H→SqL K H a (ns.map V.int)→sp [.ref a] H (fun v _=>v = .bl true) fun _ _ _=>False)
    (hCX:∀H e s',CX [] H s₁ (fun _ _ _=>False) e s'→False) :
    codeAny (model P w) callerA (.call (.ref fa) ⟨[.ref a], []⟩) (fun r s'=>r = .ok (.ret (.bool true))∧OldK s₁.heap s'.heap∧s'.os = s₁.os∧AllBare s'.gens) s₁:=by
  have rv:=mK hi
  have lenV:=hi.length
  have core :∀H:Hp,Only H→SqL K H a (ns.map V.int)→HOk P w H s₁.heap→(∀b,H b≠none→b = a)→(H a≠none→K.lookup a = none)→
      codeAny (model P w) callerA (.call (.ref fa) ⟨[.ref a], []⟩) (fun r s'=>r = .ok (.ret (.bool true))∧OldK s₁.heap s'.heap∧s'.os = s₁.os∧AllBare s'.gens) s₁:=by
    intro H hO hS hok hA hK
    have base_of:∀{b:Addr} {o:Obj},s₁.heap.get? b = some o→H b = none→(hidT s₁.heap H).get? b = some o:=fun e n=>xR e n
    have noA:∀{b:Addr} {o:Obj} {es:Array DictEntry} {ep:Nat},s₁.heap.get? b = some o→o.data = .dict es ep→H b = none:=fun {b o es ep} e d=>by
      cases q:H b with
      | none=>rfl
      | some u=>
        have e':b = a:=hA b (by rw [q];simp)
        subst e'
        rw [ha] at e;cases e
        have d':Data.seq vs.toArray _ = Data.dict es ep:=d
        cases d'
    have nsK:∀{b:Addr} {m:Str→Option Value},s₁.heap.Ns b m→(hidT s₁.heap H).Ns b m:=fun {b m} ⟨o,es,ep,e,d,r⟩=>⟨o,es,ep,base_of e (noA e d),d,r⟩
    have hKb:K.In (hidT s₁.heap H):=fun b o e=>base_of (KX b o e) (by
      cases q:H b with
      | none=>rfl
      | some u=>
        have e':b = a:=hA b (by rw [q];simp)
        subst e'
        rw [hK (by rw [q];simp)] at e;cases e)
    have hM:Mod K mg (hidT s₁.heap H):=⟨hKb,nsK hns,⟨mb,nsK hb,hbb⟩,let ⟨mc,h1,h2⟩:=hlim;⟨mc,nsK h1,h2⟩⟩
    have e0:Env0 P w K mg (hidT s₁.heap H) callerA [] s₁ H:=⟨rfl,hM,fun b o e=>zR e,Nat.le_of_eq (uK _ _),trivial,fun b hb=>absurd (show b∈([]:List Addr) from hb) (by simp),hok,.of_eq hg⟩
    refine codeAny_mono ((F _ hKb (nsK hns)).run callerA [] s₁ H ⟨[.ref a], []⟩ [.ref a] [.ref a] _ _ hr e0 (hbind s₁ (.ref a)) (.cons rfl .nil) (hsp H hO hS)) fun r s' h=>?_
    cases r with
    | error e=>exact(hCX H e s' h).elim
    | ok fl =>
      cases fl with
      | next=>exact False.elim h
      | brk=>exact False.elim h
      | cont=>exact False.elim h
      | ret u=>
        obtain⟨v,H',os,bare,un,hok',r',q⟩:=h
        have q':v = .bl true:=q
        subst q'
        obtain rfl:u = Value.bool true:=r'
        refine⟨rfl,OldK.of_keep fun b o e=>?_,os,bare⟩
        cases q:H b with
        | none=>exact un.keep b o e q (by intro z;exact absurd (show b∈([]:List Addr) from z) (by simp)) (by simp)
        | some u=>
          rcases hO b with z | ⟨ob,xs,z⟩
          · rw [q] at z;cases z
          · have z2:=un.frzs b ob _ z
            obtain⟨e1,_⟩:=hok b _ z
            obtain⟨e2,_⟩:=hok' b _ z2
            rw [e] at e1;cases e1
            exact e2
  cases hk:K.lookup a with
  | some o=>
    have e:=KX a o hk
    rw [ha] at e
    cases e
    refine core (fun _=>none) (fun _=> .inl rfl) (.inr ⟨_,vs.toArray,_,hk,rfl,rfl,rfl,by rw [List.size_toArray,lenV];exact hl,by simpa using rv⟩) (fun b u z=>by have z':(none:Option HO) = some u:=z;cases z') (fun b z=>absurd rfl z) fun z=>absurd rfl z
  | none =>
    refine core (fun b=>if b = a then some (.frz { cls:= .type "list",data:= .seq vs.toArray } (.lst (ns.map V.int))) else none) (fun b=>?_) (.inl (.inr ⟨{ cls:= .type "list",data:= .seq vs.toArray },if_pos rfl⟩)) (fun b u z=>?_) (fun b z=>?_) fun _=>hk
    · by_cases hb:b = a
      · exact .inr ⟨_,_,if_pos hb⟩
      · exact .inl (if_neg hb)
    · by_cases hb:b = a
      · have z':=(if_pos hb).symm.trans z
        cases z'
        subst hb
        exact⟨ha,by rw [List.length_map];exact hl,vs,_,rv,ha⟩
      · have z':=(if_neg hb).symm.trans z
        cases z'
    · by_cases hb:b = a
      · exact hb
      · exact absurd (if_neg hb) z
end L2
namespace L2
open PySem PySem.Spec PyProof.Rows
abbrev KOf {K:PySem.W.Frag} {h:Heap} (_:K.In h):PySem.W.Frag:=K
theorem walk_of {l:PySem.W.OpenLaw} {n k:Nat} {q:Program} {loose:List Str} {XP:(Str→Option Value)→Heap→Prop} {YP:World→Heap→Prop} {d:DefRec} {K:Params→PySem.W.Frag} {CX:World→CXT} {sp:World→Sp} {x:Str}
    (hn:l.most = some n) (hn2:n≤sizeLine) (hdf:d.params.defaults = []) (hr:Room k callerA)
    (hY:∀(w:World) (h:Heap),YP w h→(K w.params).In h)
    (F : ∀(w:World) (mg:Str→Option Value) (fa:Addr) (h:Heap),(K w.params).In h→h.Ns mainGlobals mg→mg d.name = some (.ref fa)→
      ∃ fd:FuncData,(∀(s:Shared) (u:Value),BindsTo s fd ⟨[u], []⟩ [(x,u)])∧
        ∀base:Heap,(K w.params).In base→base.Ns mainGlobals mg→FnOk l.prog w (K w.params) mg base (CX w) k fa fd [x] (sp w))
    (hsp:∀(w:World) (H:Hp) (a:Addr) (ns:List Int),ns.length≤n→Only H→SqL (K w.params) H a (ns.map V.int)→sp w [.ref a] H (fun v _=>v = .bl true) fun _ _ _=>False)
    (hCX:∀(w:World) (H:Hp) (s:Shared) (e:Value) (s':Shared),CX w [] H s (fun _ _ _=>False) e s'→False) :
    PySem.W.WalkO q loose XP YP l.row.toRowW d [] (fun f vs=>PySem.call f vs):=by
  refine Att.attach_call hn hdf fun w s₀ s₁ mg mb fa o pm cd doc a vs ns G Y ho hd hcd hmg hobj hints hlen hg=>?_
  have KX:=hY w _ Y
  obtain⟨fd,hb,hF⟩:=F w mg fa _ KX G.T.g hmg
  exact xN KX G.T.g G.T.b G.T.builtins G.T.nolimit hg hobj hints (Nat.le_trans hlen hn2) hr hF hb (fun H hO hS=>hsp w H a ns hlen hO hS) fun H e s'=>hCX w H s₁ e s'
end L2
namespace L2
open PySem PySem.Spec PyProof.Rows
def inClass (s:Stmt) (j:Nat):Stmt:=match s with
 | .ClassDef _ _ _ body _ _ _ _ _ _ _=>body.getD j (.Pass ⟨0,0,0,0⟩)
 | _=> .Pass ⟨0,0,0,0⟩
def defArgs (s:Stmt):Arguments:=match s with
 | .FunctionDef _ a _ _ _ _ _ _ _ _=>a
 | _=>{ posonlyargs:=[],args:=[],vararg:=none,kwonlyargs:=[],kw_defaults:=[],kwarg:=none,defaults:=[] }
def defBody (s:Stmt):List Stmt:=match s with
 | .FunctionDef _ _ b _ _ _ _ _ _ _=>b
 | _=>[]
def defScope (s:Stmt):Scope:=match s with
 | .FunctionDef _ _ _ _ _ _ sc _ _ _=>sc
 | _=>{ kind:= .function,names:=[],isGenerator:=false,isCoroutine:=false }
abbrev CX0:CXT:=fun _ _ _ _ _ _=>False
abbrev E0:XK:=fun _ _ _=>False
theorem aN {X:Cx}:Passes CX0 X E0:=fun _ _ _ _ _ _ _ h=>h.elim
structure Fun (K:PySem.W.Frag) (x qual:Str) (st:Stmt) (f:Addr) (fd:FuncData):Prop where
 ex :∃(oc:Value) (od:Option Addr) (kV doc pm:Value) (an:Option Addr) (cdv ct:Value) (osl:Array (Option Value)),
  fd = PySem.W.fnOf x qual (defArgs st) (defBody st) (defScope st) .none kV doc pm an cdv ct∧K.lookup f = some ⟨oc,od,.func fd,osl⟩∧PySem.W.codeIn K cdv qual = true
 kp:PySem.W.keepIn K (.ref f) = true
section
variable {P:Program} {w:World} {K:PySem.W.Frag} {mg:Str→Option Value} {base:Heap}
theorem Fun.ok {x qual:Str} {st:Stmt} {f:Addr} {fd:FuncData} {N ps:List Str} {k:Nat} {sp:Sp} (F:Fun K x qual st f fd) (S:FnScope N ps (defScope st)) (len:∀vs H Q E,sp vs H Q E→vs.length = ps.length)
    (hbody:∀(cdv:Value) (A:Around) (outer:List Env) (s:Shared) (H:Hp) (vs:List V) (Q:VK) (E:XK),Room k (A.deeper (envOfC qual (defScope st) s.heap.objs.size f cdv))→sp vs H Q E→
      ∃t,PSs (cxOf CX0 P w K mg base N qual (defScope st) f cdv A outer s H E).nox (defBody st) t∧t { nx:=fun _ H'=>Q .non H',rt:=Q } (start N vs) H):FnOk P w K mg base CX0 (k + 1) f fd ps sp:=by
  obtain⟨oc,od,kV,doc,pm,an,cdv,ct,osl,rfl,lk,hcd⟩:=F.ex
  refine a0X lk hcd S len fun A outer s H vs Q E hr hsp=>?_
  obtain⟨t,h,q⟩:=hbody cdv A outer s H vs Q E hr hsp
  exact⟨t,h.nox,q⟩
theorem Fun.binds {x qual:Str} {st:Stmt} {f:Addr} {fd:FuncData} {ps:List Str} (F:Fun K x qual st f fd)
    (h:∀(kV doc pm:Value) (an:Option Addr) (cdv ct:Value) (us:List Value),us.length = ps.length→bindArgs (PySem.W.fnOf x qual (defArgs st) (defBody st) (defScope st) .none kV doc pm an cdv ct) ⟨us, []⟩ = pure (ps.zip us)):Binds K fd ps []:=by
  obtain⟨oc,od,kV,doc,pm,an,cdv,ct,osl,rfl,lk,hcd⟩:=F.ex
  exact .all (h kV doc pm an cdv ct)
theorem xZ {x qual:Str} {st:Stmt} {f:Addr} {oc:Value} {od an:Option Addr} {osl:Array (Option Value)} {kV doc pm cdv ct:Value} (l:K.lookup f = some ⟨oc,od,.func (PySem.W.fnOf x qual (defArgs st) (defBody st) (defScope st) .none kV doc pm an cdv ct),osl⟩)
    (c:PySem.W.codeIn K cdv qual = true) (k:PySem.W.keepIn K (.ref f) = true):Fun K x qual st f (PySem.W.fnOf x qual (defArgs st) (defBody st) (defScope st) .none kV doc pm an cdv ct):=⟨⟨oc,od,kV,doc,pm,an,cdv,ct,osl,rfl,l,c⟩,k⟩
end
theorem mR {n:Nat} (h:n≤1000):n < sizeLine:=Nat.lt_of_le_of_lt h (by decide)
section
variable {X:Cx}
end
theorem uH {A B:Prop} (h:B):if false = true then A else B:=by
 rw [if_neg Bool.false_ne_true]
 exact h
theorem bG {c A B:Prop} [Decidable c] (h1:c→A) (h2:¬ c→B):if c then A else B:=by
 by_cases h:c
 ·rw [if_pos h]
  exact h1 h
 ·rw [if_neg h]
  exact h2 h
theorem a0W {c A B:Prop} [Decidable c] (hc:c) (h:B):if (!decide c) = true then A else B:=by
 rw [decide_eq_true hc]
 exact uH h
def Same (H H':Hp):Prop:=∀b o,H b = some o→H' b = some o
theorem Same.refl (H:Hp):Same H H:=fun _ _ h=>h
theorem Same.trans {H H1 H2:Hp} (a:Same H H1) (b:Same H1 H2):Same H H2:=fun c o h=>b c o (a c o h)
theorem Same.seq {K:PySem.W.Frag} {H H':Hp} {a:Addr} {xs:List V} (e:Same H H') (h:SqL K H a xs):SqL K H' a xs:=by
 rcases h with (h | ⟨o,h⟩) | h
 ·exact .inl (.inl (e _ _ h))
 ·exact .inl (.inr ⟨o,e _ _ h⟩)
 ·exact .inr h
end L2
namespace L2
open PySem PySem.Spec PyProof.Rows
theorem dR:bootBuiltins "len" = some (.builtin "len"):=by decide +kernel
theorem a2G:bootBuiltins "min" = some (.builtin "min"):=by decide +kernel
theorem yQ:bootBuiltins "max" = some (.builtin "max"):=by decide +kernel
theorem cY:bootBuiltins "isinstance" = some (.builtin "isinstance"):=by decide +kernel
theorem gW:bootBuiltins "list" = some (.type "list"):=by decide +kernel
theorem yP:bootBuiltins "str" = some (.type "str"):=by decide +kernel
theorem oX:bootBuiltins "int" = some (.type "int"):=by decide +kernel
theorem a0I:bootBuiltins "bool" = some (.type "bool"):=by decide +kernel
theorem yO:bootBuiltins "tuple" = some (.type "tuple"):=by decide +kernel
theorem lX (a:Nat):Builtin.Int.intBits (a:Int) = if a = 0 then 0 else a.log2 + 1:=by
 unfold Builtin.Int.intBits
 by_cases h:a = 0
 ·subst h;rfl
 ·have h':¬ ((a:Int) == 0) = true:=by
   intro q
   have:=beq_iff_eq.mp q
   omega
  rw [if_neg h',if_neg h]
  rfl
theorem bits_le {a n:Nat} (h:a < 2 ^ n):Builtin.Int.intBits (a:Int)≤n:=by
 rw [lX]
 split
 ·exact Nat.zero_le _
 ·rename_i h0
  exact(Nat.log2_lt h0).mpr h
theorem a0J (a:Nat):a < 2 ^ Builtin.Int.intBits (a:Int):=by
 rw [lX]
 split
 ·rename_i h;subst h;exact Nat.one_pos
 ·exact Nat.lt_log2_self
theorem qL {i:Int} {n:Nat} (h:i.natAbs < 2 ^ n):Builtin.Int.intBits i≤n:=by
 unfold Builtin.Int.intBits
 split
 ·exact Nat.zero_le _
 ·rename_i h0
  have h1:i.natAbs≠0:=by
   intro q
   apply h0
   have:i = 0:=by omega
   subst this;rfl
  exact(Nat.log2_lt h1).mpr h
def Big:Nat:=2 ^ 4000
def IsBig (i:Int):Prop:=i.natAbs < 2 ^ 4000
theorem rK:∀(n a b:Nat),a < 2 ^ n→b < 2 ^ n→a + b = (a ^^^ b) + 2 * (a &&& b):=by
  intro n
  induction n with
  | zero => intro a b ha hb;have:a = 0:=by simpa using ha
            have:b = 0:=by simpa using hb
            subst_vars;rfl
  | succ n ih=>
    intro a b ha hb
    have e:=ih (a / 2) (b / 2) (by omega) (by omega)
    have x1:(a ^^^ b) / 2 = a / 2 ^^^ b / 2:=Nat.xor_div_two
    have x2:(a &&& b) / 2 = a / 2 &&& b / 2:=Nat.and_div_two
    rw [←x1,←x2] at e
    have y1:(a ^^^ b) % 2 = (a % 2 + b % 2) % 2:=by
      have:=Nat.xor_mod_two_eq_one (a:=a) (b:=b)
      omega
    have y2:(a &&& b) % 2 = (a % 2) * (b % 2):=by
      have:=Nat.and_mod_two_pow (a:=a) (b:=b) (n:=1)
      rcases Nat.mod_two_eq_zero_or_one a with h | h <;> rcases Nat.mod_two_eq_zero_or_one b with h' | h' <;> simp [h,h'] at this ⊢ <;> omega
    have z1:=Nat.div_add_mod (a ^^^ b) 2
    have z2:=Nat.div_add_mod (a &&& b) 2
    rcases Nat.mod_two_eq_zero_or_one a with h | h <;> rcases Nat.mod_two_eq_zero_or_one b with h' | h' <;> rw [h,h'] at y1 y2 <;> omega
theorem yU {a b n:Nat} (ha:a < 2 ^ (n + 1)) (hb:b < 2 ^ (n + 1)) (ha':2 ^ n≤a) (hb':2 ^ n≤b):a ^^^ b < 2 ^ n:=by
 apply Nat.lt_pow_two_of_testBit
 intro i hi
 rw [Nat.testBit_xor]
 by_cases e:i = n
 ·subst e
  have h1:a.testBit i = true:=by
   rw [Nat.testBit_eq_decide_div_mod_eq]
   have:a / 2 ^ i = 1:=by
    apply Nat.div_eq_of_lt_le
    ·simpa using ha'
    ·rw [Nat.pow_succ] at ha;omega
   rw [this];rfl
  have h2:b.testBit i = true:=by
   rw [Nat.testBit_eq_decide_div_mod_eq]
   have:b / 2 ^ i = 1:=by
    apply Nat.div_eq_of_lt_le
    ·simpa using hb'
    ·rw [Nat.pow_succ] at hb;omega
   rw [this];rfl
  rw [h1,h2];rfl
 ·have h1:a.testBit i = false:=Nat.testBit_lt_two_pow (Nat.lt_of_lt_of_le ha (Nat.pow_le_pow_right (by decide) (by omega)))
  have h2:b.testBit i = false:=Nat.testBit_lt_two_pow (Nat.lt_of_lt_of_le hb (Nat.pow_le_pow_right (by decide) (by omega)))
  rw [h1,h2];rfl
theorem band (a b:Nat):Builtin.bitAnd (a:Int) (b:Int) = ((a &&& b:Nat):Int):=by
 rw [PyProof.Rows.bitAnd_pp (by omega) (by omega)];rfl
theorem bxor (a b:Nat):Builtin.bitXor (a:Int) (b:Int) = ((a ^^^ b:Nat):Int):=by
 have h:=rK (a + b) a b (Nat.lt_of_le_of_lt (Nat.le_add_right a b) Nat.lt_two_pow_self) (Nat.lt_of_le_of_lt (Nat.le_add_left b a) Nat.lt_two_pow_self)
 unfold Builtin.bitXor
 rw [PyProof.Rows.bitOr_and,band]
 omega
theorem lJ (k:Nat):(2:Int) ^ ((k:Int)).toNat = ((2 ^ k:Nat):Int):=by
 rw [Int.toNat_natCast];simp
theorem a3O (a k:Nat):(a:Int) * 2 ^ ((k:Int)).toNat = ((a <<< k:Nat):Int):=by
 rw [lJ,Nat.shiftLeft_eq];simp
theorem a3N (a k:Nat):(a:Int) / 2 ^ ((k:Int)).toNat = ((a >>> k:Nat):Int):=by
 rw [lJ,Nat.shiftRight_eq_div_pow];rfl
theorem bit_at (b k:Nat):(((b >>> k:Nat) &&& 1:Nat):Int) = 1↔b.testBit k = true:=by
 unfold Nat.testBit
 rw [Nat.and_comm]
 have h:1 &&& b >>> k = (b >>> k) % 2:=by rw [Nat.and_comm];exact Nat.and_one_is_mod _
 rw [h]
 have:(b >>> k) % 2 = 0∨(b >>> k) % 2 = 1:=by omega
 rcases this with h | h <;> rw [h] <;> decide
section
variable {X:Cx}
def rN (C:Nat→Nat→Prop) (g:Nat→Nat→Nat):R2:=fun x y H Q=>∃a b:Nat,x = .int a∧y = .int b∧C a b∧Q (.int ((g a b:Nat):Int)) H
theorem opN {f:Value→Value→Sem Value} {C:Nat→Nat→Prop} {g:Nat→Nat→Nat}
    (rule:∀(i j:Nat) (t u:Tok) (s:Shared) (Q:Value→Shared→Prop) (E:Value→Shared→Prop),C i j→Q (.int ((g i j:Nat):Int) s.toks) { s with toks:=s.toks + 1 }→wpAny (model X.prog X.w) X.A (f (.int i t) (.int j u)) Q E s) :
    OpR X f (rN C g):=by
  intro pins s σ H x y v u Q I rx ry h
  obtain⟨i,j,rfl,rfl,hc,q⟩:=h
  obtain⟨t,rfl⟩:=rx
  obtain⟨t',rfl⟩:=ry
  exact rule i j t t' s _ _ hc ⟨.int ((g i j:Nat):Int),H,I.tok _,⟨_,rfl⟩,q⟩
theorem sE:OpR X (binaryOp .BitXor) (rN (fun _ _=>True) fun a b=>a ^^^ b):=opN fun i j _ _ _ _ _ _ q=>by
 refine xor_int ?_
 rw [bxor];exact q
theorem sG:OpR X (binaryOp .LShift) (rN (fun a k=>a < 2 ^ 4000∧k≤4000) fun a k=>a <<< k):=opN fun a k _ _ _ _ _ hc q=>by
 refine lshift_int (by omega) ?_ ?_
 ·have:=bits_le hc.1
  omega
 ·rw [a3O];exact q
def CShl (i j:Int):Prop:=0≤j∧j≤4000∧i.natAbs < 2 ^ 4000
def CMulB (i j:Int):Prop:=i.natAbs < 2 ^ 4000∧j.natAbs < 2 ^ 4000
theorem CMulB.ok {i j:Int} (h:CMulB i j):IntMulOk i j:=by
 unfold IntMulOk
 have h1:=qL h.1
 have h2:=qL h.2
 have h3:Builtin.Int.intTooBig ((Builtin.Int.intBits i:Int) + (Builtin.Int.intBits j:Int)) = false:=by
  unfold Builtin.Int.intTooBig
  apply decide_eq_false
  have:(8000:Int)≤bitsLine:=by decide
  omega
 simp only [h3,Bool.and_false]
 decide
theorem zN:OpR X (binaryOp .Mult) (rI CMulB fun i j=> .int (i * j)):=opI fun _ _ _ _ _ _ _ hc q=>mul_int q hc.ok
theorem a3B:MtR X "int.bit_length" (fun x vs H Q=>∃i,x = .int i∧vs = []∧Q (.int ((Builtin.Int.intBits i:Nat):Int)) H):=by
 intro pins s σ H x xs v us Q I rx rv h
 obtain⟨i,rfl,rfl,q⟩:=h
 obtain⟨t,rfl⟩:=rx
 cases rv
 exact call_int_bit_length ⟨.int _,H,I.tok _,⟨_,rfl⟩,q⟩
def clsV:V→Option Value
 | .ref a=>some (.ref a)
 | .ty n=>some (.type n)
 | _=>none
theorem a0G {c:V} {cv u:Value} (e:clsV c = some cv) (r:RelV c u):u = cv:=by
 cases c <;> simp only [clsV] at e <;> first | (cases e;exact r) | cases e
theorem yN:CallR X (.builtin "isinstance") (fun xs H Q=>∃x c cv t b,xs = [x,c]∧clsV c = some cv∧TyOf X.K H x t∧PySem.W.kitOne X.K t cv = some b∧Q (.bl b) H):=by
 intro pins s σ H xs us Q I rv h
 obtain⟨x,c,cv,t,b,rfl,ec,ty,e,q⟩:=h
 obtain⟨u,v,rfl,rx,rc⟩:=rv.two
 cases a0G ec rc
 exact uI I rx ty e fun tk=>⟨.bl b,H,I.tok _,rfl,q⟩
end
section
variable {K:PySem.W.Frag}
theorem qC:PySem.W.kitOne K (.type "int") (.type "int") = some true:=by rfl
theorem oG:PySem.W.kitOne K (.type "int") (.type "bool") = some false:=by first | rfl | decide +kernel
theorem mG:PySem.W.kitOne K (.type "bool") (.type "bool") = some true:=by rfl
theorem oH:PySem.W.kitOne K (.type "bool") (.type "int") = some true:=by first | rfl | decide +kernel
theorem jU:PySem.W.kitOne K (.type "tuple") (.type "tuple") = some true:=by rfl
theorem pX:PySem.W.kitOne K (.type "str") (.type "str") = some true:=by rfl
end
section
variable {X:Cx} {e:Expr} {te:TE} {st:Stmt} {ts:TS}
def tCut (t:TE):TE:=fun σ H Q=>∃P:VK,t σ H P∧∀x H',P x H'→Q x H'
theorem cB (h:PE X e te):PE X e (tCut te):=by
 intro pins s σ H Q I hw
 obtain⟨P,h1,h2⟩:=hw
 exact thn (h pins s σ H P I h1) fun v s1 ⟨x,H1,I1,r,q⟩=>⟨x,H1,I1,r,h2 x H1 q⟩
def tCutS (t:TS):TS:=fun D σ H=>∃N:St→Hp→Prop,t { D with nx:=N } σ H∧∀σ' H',N σ' H'→D.nx σ' H'
theorem dJ (h:PS X st ts):PS X st (tCutS ts):=by
 intro pins s σ H D I hw
 obtain⟨N,h1,h2⟩:=hw
 refine thn (h pins s σ H { D with nx:=N } I h1) fun f s1 q=>?_
 cases f with
 | next=>obtain⟨σ',H',I',q⟩:=q;exact⟨σ',H',I',h2 σ' H' q⟩
 | ret v=>exact q
 | brk=>exact q
 | cont=>exact q
end
theorem dec_true {p:Prop} [Decidable p] (h:decide p = true):p:=of_decide_eq_true h
theorem dec_false {p:Prop} [Decidable p] (h:¬ decide p = true):¬ p:=fun q=>h (decide_eq_true q)
theorem mX {z:Int} {n:Nat} (h0:0≤z) (h1:z < 2 ^ n):z.natAbs < 2 ^ n:=by
 obtain⟨k,rfl⟩:=Int.eq_ofNat_of_zero_le h0
 have:(k:Int) < ((2 ^ n:Nat):Int):=by simpa using h1
 omega
theorem rH {z:Int} {n:Nat} (h:z.natAbs < 2 ^ n) (hn:n≤4000:=by decide):z.natAbs < 2 ^ 4000:=Nat.lt_of_lt_of_le h (Nat.pow_le_pow_right (by decide) hn)
theorem dG {z:Int} (h0: -18446744073709551616 < z) (h1:z < 18446744073709551616):z.natAbs < 2 ^ 4000:=rH (n:=64) (by omega)
theorem lD {a b:Nat} (h:a≤b):(2:Int) ^ a≤2 ^ b:=by
 have:=Nat.pow_le_pow_right (n:=2) (by decide) h
 exact_mod_cast this
theorem xK {a n:Nat} (h:a < 2 ^ n) (hn:n≤4000:=by decide):a < 2 ^ 4000:=Nat.lt_of_lt_of_le h (Nat.pow_le_pow_right (by decide) hn)
theorem a2L {ns:List Int} {k:Int} (h:0 < ns.length):∃v:Int,atI (ns.map V.int) (k % (((ns.map V.int).length:Nat):Int)) = some (.int v):=by
 rw [List.length_map]
 have h0:0≤k % ((ns.length:Nat):Int):=Int.emod_nonneg _ (by omega)
 have h1:k % ((ns.length:Nat):Int) < ((ns.length:Nat):Int):=Int.emod_lt_of_pos _ (by omega)
 generalize k % ((ns.length:Nat):Int) = j at h0 h1
 have hk:j.toNat < ns.length:=by omega
 refine⟨ns[j.toNat],?_⟩
 have q:atI (ns.map V.int) ((j.toNat:Nat):Int) = some (.int ns[j.toNat]):=fK (by rw [List.getElem?_map,List.getElem?_eq_getElem hk] <;> rfl)
 have e:((j.toNat:Nat):Int) = j:=by omega
 rw [e] at q
 exact q
def spLaw (K:PySem.W.Frag):Sp:=fun vs H Q _=>∃(a:Addr) (ns:List Int),vs = [.ref a]∧SqL K H a (ns.map V.int)∧ns.length≤63∧∀H',Q (.bl true) H'
def spDraw (K:PySem.W.Frag):Sp:=fun vs H Q _=>∃(a:Addr) (ns:List Int) (k m:Int),vs = [.ref a,.int k,.int m]∧SqL K H a (ns.map V.int)∧ns.length≤63∧0≤k∧k≤100000∧0 < m∧∀d:Int,0≤d→d < m→Q (.int d) H
end L2
namespace L2
open PySem PySem.Spec PyProof.Rows
theorem uO (g:Array Value→Array Value) (o:Obj):(Obj.mapFields g o).dict = o.dict:=by
 obtain⟨c,d,x,sl⟩:=o
 cases x <;> rfl
def TrD (h B:Heap) (e:Addr) (k a0:Value) (od:Option Addr) (fl:Value):Prop:=
 ∃oe vs T oT ts,(h.get? e = some oe∧oe.cls = k∧oe.dict = od∧oe.data = .fields vs)∧(vs[0]? = some a0∧vs[1]? = some (.ref T))∧(B.get? T = none∧T≠e)∧h.get? T = some oT∧oT.data = .fields ts∧ts[3]? = some fl
def FlyD (B:Heap) (l:List Env) (e:Addr) (k a0:Value) (od:Option Addr) (h:Heap):Prop:=(B.StaysIn h∧B.get? e = none)∧h.FunFrames B l∧TrD h B e k a0 od .none
def HeldD (B:Heap) (l:List Env) (e:Addr) (k a0:Value) (od:Option Addr) (L:Addr) (h:Heap):Prop:=(B.StaysIn h∧B.get? e = none)∧h.FunFrames B l∧TrD h B e k a0 od (rawInt L)
theorem FlyD.tail {B h:Heap} {env:Env} {l:List Env} {e:Addr} {k a0:Value} {od:Option Addr} (x:FlyD B (env :: l) e k a0 od h):FlyD B l e k a0 od h:=
 let ⟨a,⟨_,_,b⟩,c⟩:=x;⟨a,b,c⟩
section
variable {M:Model} {A:Around} {E:Value→Shared→Prop} {s:Shared} {B:Heap} {env:Env} {outer l:List Env} {L e:Addr} {k a0:Value} {od:Option Addr}
theorem yD {oe:Obj} {vs:Array Value} {hd0:Value} {nxt:Bool} {Q:Unit→Shared→Prop} (fr:A.frames = some (env :: outer)) (ff:s.heap.FunFrames B (env :: outer)) (fL:env.frame = some L) (st:B.StaysIn s.heap∧B.get? e = none)
    (at_:s.heap.get? e = some oe) (dat:oe.data = .fields vs) (sz:1 < vs.size) (arg:vs[0]? = some a0)
    (next:∀h',HeldD B (env :: outer) e oe.cls a0 oe.dict L h'→s.heap.UpToSlots h'→Q () { s with heap:=h' }) :
    wpAny M A (do let a←frameOf env;let pl←entryPlaceOf L nxt;let b←EntryCells.newEntry hd0 a .none (rawInt L) .none pl;setField (.ref e) 1 b) Q E s:=by
  have eF:e∉frs (env :: outer):=fun z=>by
    obtain⟨_,o,q,n⟩:=ff.mem z
    cases at_.symm.trans q
    exact n vs dat
  refine wpAny_bind (wpAny_frameOf_fun fr ff fL fun h1 so=>wpAny_bind (wpAny_entryPlaceOf fun pl isp=>?_))
  unfold EntryCells.newEntry newFields
  refine wpAny_bind (wpAny_newObj_type ?_ (isp.sizeOk5 _ _ _ _ _))
  generalize htb:([hd0,Value.ref L,Value.none,rawInt L,Value.none] ++ (if pl.isEmpty then List.replicate 6 Value.none else pl)).toArray = tb
  have tb3:tb[3]? = some (rawInt L):=by
    subst htb
    rcases isp with rfl | ⟨_,_,_,_,_,_,_,rfl⟩ <;> simp
  clear htb isp
  have e1:h1.get? e = some oe:=(so.2.1 e eF).trans at_
  have B1:B.StaysIn h1:=fun b o q=>(so.2.1 b fun z=>by have:=(ff.mem z).1;rw [q] at this;cases this).trans (st.1 b o q)
  have tE:h1.objs.size≠e:=Nat.ne_of_gt (Heap.lt_size e1)
  have e2:=Heap.get?_push_of_some (h:=h1) { cls:= .type "traceback",dict:=none,data:= .fields tb } e1
  refine wpAny_setField e2 dat sz (next _ ?_ ?_)
  all_goals
    have keep:∀b o,b≠e→h1.get? b = some o→((h1.push { cls:= .type "traceback",dict:=none,data:= .fields tb }).update e (Obj.mapFields (·.setIfInBounds 1 (Value.ref h1.objs.size)))).get? b = some o:=fun b o n q=>by
      rw [Heap.get?_update_other _ _ (Ne.symm n)]
      exact Heap.get?_push_of_some _ q
    have apart:∀b o,s.heap.get? b = some o→(∀ws,o.data≠ .fields ws)→b≠e:=fun b o q n z=>by
      subst z
      cases at_.symm.trans q
      exact n vs dat
  · have d3:=Obj.data_mapFields dat (·.setIfInBounds 1 (Value.ref h1.objs.size))
    have e3:=Heap.get?_update_self (Obj.mapFields (·.setIfInBounds 1 (Value.ref h1.objs.size))) e2 (Obj.isFreed_of_fields d3)
    have t3:=(Heap.get?_update_other (h1.push { cls:= .type "traceback",dict:=none,data:= .fields tb }) (Obj.mapFields (·.setIfInBounds 1 (Value.ref h1.objs.size))) (Ne.symm tE)).trans (Heap.get?_push_size h1 rfl)
    refine⟨⟨fun b o q=>keep b o (fun z=>by rw [z,st.2] at q;cases q) (B1 b o q),st.2⟩,ff.of_keeps fun b o q n=>?_,_,_,h1.objs.size,_,_,⟨e3,Obj.cls_mapFields _ _,uO _ _,d3⟩,⟨?_,by simp [sz]⟩,⟨B1.fresh,tE⟩,t3,rfl,tb3⟩
    · obtain⟨sl,q1⟩:=so.2.2 b o q
      exact⟨_,keep b _ (apart b o q n) q1,rfl⟩
    · rw [Array.getElem?_setIfInBounds_ne (by decide)]
      exact arg
  · intro b o q n
    obtain⟨sl,q1⟩:=so.2.2 b o q
    exact⟨sl,keep b _ (apart b o q n) q1⟩
theorem xO {fl:Value} {Q:Unit→Shared→Prop} (st:B.StaysIn s.heap∧B.get? e = none) (ff:s.heap.FunFrames B l) (tr:TrD s.heap B e k a0 od fl)
    (next:∀h',FlyD B l e k a0 od h'→s.heap.UpToSlots h'→Q () { s with heap:=h' }):wpAny M A (setFlight (.ref e) none) Q E s:=by
  obtain⟨oe,vs,T,oT,ts,⟨q1,q2,q3,q4⟩,⟨q5,q6⟩,⟨q7,q8⟩,q9,q10,q11⟩:=tr
  have sz:3 < ts.size:=(Array.getElem?_eq_some_iff.mp q11).1
  have off:∀b,b≠T→(s.heap.update T (Obj.mapFields (·.setIfInBounds 3 ((none:Option Addr).elim Value.none fun f=>rawInt f)))).get? b = s.heap.get? b:=fun b n=>Heap.get?_update_other _ _ (Ne.symm n)
  have apart:∀b o,s.heap.get? b = some o→(∀ws,o.data≠ .fields ws)→b≠T:=fun b o q n z=>by
    subst z
    cases q9.symm.trans q
    exact n ts q10
  unfold setFlight
  refine wpAny_bind (wpAny_field q1 q4 q6 ?_)
  rw [if_pos (show (Value.ref T != Value.none) = true by simp)]
  refine wpAny_setField q9 q10 sz (next _ ⟨⟨fun b o q=>(off b fun z=>by rw [z,q7] at q;cases q).trans (st.1 b o q),st.2⟩,ff.of_keeps fun b o q n=>⟨o,(off b (apart b o q n)).trans q,rfl⟩,?_⟩ fun b o q n=>⟨o.slots,(off b (apart b o q n)).trans q⟩)
  exact⟨oe,vs,T,_,_,⟨(off e (Ne.symm q8)).trans q1,q2,q3,q4⟩,⟨q5,q6⟩,⟨q7,q8⟩,Heap.get?_update_self _ q9 (Obj.isFreed_of_fields (Obj.data_mapFields q10 _)),Obj.data_mapFields q10 _,by simp [sz]⟩
theorem a0V {Q:Unit→Shared→Prop} (x:HeldD B l e k a0 od L s.heap) (next:∀h',FlyD B l e k a0 od h'→s.heap.UpToSlots h'→Q () { s with heap:=h' }):wpAny M A (setFlight (.ref e) none) Q E s:=
 xO x.1 x.2.1 x.2.2 next
theorem zV {Q:Unit→Shared→Prop} (fr:A.frames = some (env :: outer)) (fL:env.frame = some L) (x:FlyD B (env :: outer) e k a0 od s.heap)
    (next:∀h',HeldD B (env :: outer) e k a0 od L h'→s.heap.UpToSlots h'→Q () { s with heap:=h' }):wpAny M A (noteFrame (.ref e) env) Q E s:=by
  obtain⟨st,ff,oe,vs,T,oT,ts,⟨q1,q2,q3,q4⟩,⟨q5,q6⟩,⟨q7,q8⟩,q9,q10,q11⟩:=x
  subst q2 q3
  have off:∀b,b≠T→(s.heap.update T (Obj.mapFields (·.setIfInBounds 3 Value.none))).get? b = s.heap.get? b:=fun b n=>Heap.get?_update_other _ _ (Ne.symm n)
  have apart:∀b o,s.heap.get? b = some o→(∀ws,o.data≠ .fields ws)→b≠T:=fun b o q n z=>by
    subst z
    cases q9.symm.trans q
    exact n ts q10
  unfold noteFrame
  simp only [fL]
  refine wpAny_bind (wpAny_field q1 q4 q6 ?_)
  rw [if_pos (show (Value.ref T != Value.none) = true by simp)]
  refine wpAny_bind (wpAny_field q9 q10 q11 ?_)
  rw [if_neg (show ¬ ((Value.none == rawInt L) = true) by simp [rawInt])]
  refine wpAny_bind (wpAny_setField q9 q10 (Array.getElem?_eq_some_iff.mp q11).1 ?_)
  refine yD (B:=B) fr (ff.of_keeps fun b o q n=>⟨o,(off b (apart b o q n)).trans q,rfl⟩) fL ⟨fun b o q=>(off b fun z=>by rw [z,q7] at q;cases q).trans (st.1 b o q),st.2⟩ ((off e (Ne.symm q8)).trans q1) q4 (Array.getElem?_eq_some_iff.mp q6).1 q5 fun h' x1 x2=>?_
  exact next h' x1 fun b o q n=>x2 b o ((off b (apart b o q n)).trans q) n
theorem pW {oe:Obj} {vs:Array Value} {Q:Unit→Shared→Prop} (fr:A.frames = some (env :: outer)) (fL:env.frame = some L) (st:B.StaysIn s.heap∧B.get? e = none) (ff:s.heap.FunFrames B (env :: outer))
    (at_:s.heap.get? e = some oe) (dat:oe.data = .fields vs) (arg:vs[0]? = some a0) (bare:vs[1]? = some .none) (next:∀h',FlyD B outer e oe.cls a0 oe.dict h'→s.heap.UpToSlots h'→Q () { s with heap:=h' }) :
    wpAny M A (leaving env (.ref e)) Q E s:=by
  unfold leaving noteFrame
  simp only [fL]
  refine wpAny_bind (wpAny_bind (wpAny_field at_ dat bare ?_))
  rw [if_neg (by decide)]
  refine yD (B:=B) fr ff fL st at_ dat (Array.getElem?_eq_some_iff.mp bare).1 arg fun h1 x1 x2=>?_
  exact a0V x1 fun h2 x3 x4=>next h2 x3.tail (x2.trans x4)
theorem xM {Q:Unit→Shared→Prop} (fr:A.frames = some (env :: outer)) (fL:env.frame = some L) (x:FlyD B (env :: outer) e k a0 od s.heap)
    (next:∀h',FlyD B outer e k a0 od h'→s.heap.UpToSlots h'→Q () { s with heap:=h' }):wpAny M A (leaving env (.ref e)) Q E s:=by
  unfold leaving
  exact wpAny_bind (zV fr fL x fun h1 x1 x2=>a0V x1 fun h2 x3 x4=>next h2 x3.tail (x2.trans x4))
end
end L2
namespace L2
open PySem PySem.Spec PyProof.Rows
theorem a2E {K:PySem.W.Frag} {h:Heap} {C:Addr} {bmB:List Value} {newId:String} (kin:K.In h) (hq:PySem.W.excIn K C bmB newId = true) :
    ∃bm N nm qn bs hdct sn sub ab col dd k0 k1 k2 k3 k5 mN,h.get? C = some (excClassObj nm qn C N bs bm hdct sn sub ab col dd k0 k1 k2 k3 k5 newId)∧h.Ns N mN∧mN "__init__" = none∧OwnTail h bmB bm:=by
  unfold PySem.W.excIn at hq
  split at hq
  · rename_i dd cdt slots look
    split at hq
    · rename_i C1 bm j0 j1 j2 j3 nid j5 em es
      simp only [Bool.and_eq_true,beq_iff_eq,Bool.not_eq_true'] at hq
      obtain⟨⟨⟨⟨⟨e1,e2⟩,e3⟩,e4⟩,e5⟩,e6⟩:=hq
      subst e1 e2
      obtain⟨c1,c2,c3,c4,c5,c6,c7,c8,c9,c10,c11⟩:=cdt
      dsimp only at em e3 e5 e6
      subst em e3
      have esl:slots = #[j0,j1,j2,j3,some (.builtin nid),j5]:=by
        cases slots with
        | mk l=>
          have:l = _:=es
          rw [this]
      subst esl
      exact⟨bm,c4,c1,c5,c2,c6,c7,c8,c9,c10,dd,j0,j1,j2,j3,j5,_,kin _ _ look,.of_isNs (PySem.W.isNs_of_in kin e5),PySem.W.nsMap_none_of_in kin e5 e6,PySem.W.tail_of_in kin e4⟩
    · cases hq
  · cases hq
theorem ObjOk.there {P:Program} {w:World} {H:Hp} {h:Heap} {a:Addr} {o:HO} (x:ObjOk P w H h a o):∃ob,h.get? a = some ob:=by
 cases o with
 | lst xs=>obtain⟨_,_,_,_,e⟩:=x;exact⟨_,e⟩
 | tup xs=>obtain⟨_,_,_,ob,e,_⟩:=x;exact⟨_,e⟩
 | dK kvs=>obtain⟨_,_,_,_,o,_,_,e,_⟩:=x;exact⟨_,e⟩
 | dT kvs=>obtain⟨_,_,_,_,o,_,_,e,_⟩:=x;exact⟨_,e⟩
 | set S n=>obtain⟨o,_,_,_,e,_⟩:=x;exact⟨_,e⟩
 | ins C dx fs=>obtain⟨_,_,_,e,_⟩:=x;exact⟨_,e⟩
 | own y=>exact x
 | xd fs=>obtain⟨_,⟨_,_,_,e,_⟩,_⟩:=x;exact⟨_,e⟩
 | rng lo hi=>obtain⟨_,_,_,e⟩:=x;exact⟨_,e⟩
 | frz ob u=>obtain⟨e,_⟩:=x;exact⟨_,e⟩
 | tbl ps=>exact⟨_,(show h.get? a = some _ from x)⟩
 | met f y=>exact⟨_,(show h.get? a = some _ from x)⟩
 | ext φ=>obtain⟨_,e,_⟩:=x;exact e
structure Fly (P:Program) (w:World) (outer:List Env) (H H':Hp) (s s':Shared) (a t:Addr) (cls:Value) (od:Option Addr) (B:Heap):Prop where
 os:s'.os = s.os
 bare:AllBare s'.gens
 un:Un (frs outer) [] H H' s.heap s'.heap
 hok:HOk P w H' s'.heap
 new:H' a = none
 fly:FlyD B outer a cls (.ref t) od s'.heap
 old:∀b o,s.heap.get? b = some o→H b = none→b∉frs outer→B.get? b = some o
 trk:∀b u,H' b = some u→∃o,s'.heap.get? b = some o∧B.get? b = some o
 all:∀b o,s.heap.get? b = some o→b∉frs outer→∃o',B.get? b = some o'
def CXR (P:Program) (w:World):CXT:=fun outer H s E e s'=>∃(a t:Addr) (cls:Value) (od:Option Addr) (H':Hp) (B:Heap),e = .ref a∧Fly P w outer H H' s s' a t cls od B∧E cls od H'
theorem iB {P:Program} {w:World} {X:Cx}:Passes (CXR P w) X E0:=fun _ _ _ _ _ _ _ h=>by
 obtain⟨_,_,_,_,_,_,_,_,q⟩:=h
 exact q.elim
theorem HOk.fromB {P:Program} {w:World} {H:Hp} {h h' B:Heap} (ok:HOk P w H h) (trk:∀b u,H b = some u→∃o,h.get? b = some o∧B.get? b = some o) (st:B.StaysIn h'):HOk P w H h':=fun a u q=>
 (ok a u q).stay (fun b o hb e=>by
  have:∃v,H b = some v:=by
   rcases hb with rfl | hb
   ·exact⟨u,q⟩
   ·exact⟨_,hb⟩
  obtain⟨v,hv⟩:=this
  obtain⟨o',e1,e2⟩:=trk b v hv
  rw [e] at e1;cases e1
  exact st b o e2) (fun _ z=>z) fun _ _ z=>z
section
variable {P:Program} {w:World} {K:PySem.W.Frag} {mg:Str→Option Value} {base:Heap} {N:List Str} {qual:Str} {scope:Scope} {f:Addr} {cd:Value} {A:Around} {outer:List Env} {s:Shared} {H:Hp} {E:XK}
theorem iK {pins:List (Addr×Obj)} {σ:St} {H1:Hp} {s1:Shared} {CX:CXT} (I:Inv (cxOf CX P w K mg base N qual scope f cd A outer s H E) pins σ H1 s1) {b:Addr} {o:Obj} (e:s.heap.get? b = some o) (n:b∉frs outer) :
    b∉frs (cxOf CX P w K mg base N qual scope f cd A outer s H E).stack:=fun hb=>by
  have hb':=I.stkSub b hb
  rcases List.mem_cons.mp hb' with z | z
  · have lt:=Heap.lt_size e
    have z':b = s.heap.objs.size:=z
    rw [z'] at lt
    exact Nat.lt_irrefl _ lt
  · exact n z
theorem mD {pins:List (Addr×Obj)} {σ:St} {H1:Hp} {s1:Shared} {e t:Addr} {oe:Obj} {vs:Array Value} (I:Inv (cxOf (CXR P w) P w K mg base N qual scope f cd A outer s H E) pins σ H1 s1)
    (he:s1.heap.get? e = some oe) (hd:oe.data = .fields vs) (h0:vs[0]? = some (.ref t)) (h1:vs[1]? = some .none) (new:s.heap.get? e = none) (free:H1 e = none) (hE:E oe.cls oe.dict H1) :
    (cxOf (CXR P w) P w K mg base N qual scope f cd A outer s H E).xe (.ref e) s1:=by
  have fr:=I.ok.frames
  have ff:=I.stack
  generalize hst:(cxOf (CXR P w) P w K mg base N qual scope f cd A outer s H E).stack = stk at fr ff
  have hst':stk = (cxOf (CXR P w) P w K mg base N qual scope f cd A outer s H E).env :: outer:=hst.symm
  have nfr:e∉frs stk:=fun z=>by
    obtain⟨_,o,q,n⟩:=Heap.FunFrames.mem ff z
    cases he.symm.trans q
    exact n vs hd
  have hin:∀env∈stk,∀a,env.frame = some a→a∈e :: frs stk:=fun env h a ha=>List.mem_cons_of_mem _ (List.mem_filterMap.mpr ⟨env,h,ha⟩)
  have mk:∀b o,s1.heap.get? b = some o→b∉frs stk→b≠e→(PySem.W.hideAll s1.heap (e :: frs stk)).get? b = some o:=fun b o q n z=>PySem.W.hideAll_get _ q fun m=>by
    rcases List.mem_cons.mp m with m | m
    · exact z m
    · exact n m
  have nf0:∀b o,s.heap.get? b = some o→b∉frs outer→b∉frs stk:=fun b o q n=>by rw [←hst];exact iK I q n
  have ne0:∀b o,s.heap.get? b = some o→b≠e:=fun b o q z=>by rw [z,new] at q;cases q
  refine pW (B:=PySem.W.hideAll s1.heap (e :: frs stk)) (show _ = some ((cxOf (CXR P w) P w K mg base N qual scope f cd A outer s H E).stack) from hst▸fr) rfl ⟨fun b o q=>PySem.W.of_hideAll _ q,PySem.W.hideAll_none _ (List.mem_cons_self ..)⟩ (show Heap.FunFrames _ _ (cxOf (CXR P w) P w K mg base N qual scope f cd A outer s H E).stack from by rw [hst];exact PySem.W.funFrames_hide ff hin) he hd h0 h1 fun h2 x1 x4=>?_
  have old:∀b o,s.heap.get? b = some o→H b = none→b∉frs outer→(PySem.W.hideAll s1.heap (e :: frs stk)).get? b = some o:=fun b o q n nf=>
    mk b o (I.base.keep b o q n nf (fun z=>by cases z)) (nf0 b o q nf) (ne0 b o q)
  have trk0:∀b u,H1 b = some u→∃o,s1.heap.get? b = some o∧(PySem.W.hideAll s1.heap (e :: frs stk)).get? b = some o:=fun b u q=>by
    obtain⟨o,eo⟩:=(I.hok b u q).there
    refine⟨o,eo,mk b o eo (fun z=>?_) fun z=>by rw [z,free] at q;cases q⟩
    rw [I.stkFree b (by rw [hst];exact z)] at q
    cases q
  have slots:∀b o,s1.heap.get? b = some o→b∈frs outer→∃sl,h2.get? b = some { o with slots:=sl }:=fun b o q hb=>by
    have hm:b∈frs stk:=by
      obtain⟨env,h,hf⟩:=List.mem_filterMap.mp hb
      rw [hst']
      exact List.mem_filterMap.mpr ⟨env,List.mem_cons_of_mem _ h,hf⟩
    obtain⟨_,o',ho',nf⟩:=Heap.FunFrames.mem ff hm
    rw [q] at ho';cases ho'
    exact x4 b o q nf
  refine⟨e,t,oe.cls,oe.dict,H1,_,rfl,⟨I.os,I.bare,⟨?_,?_,?_,?_,?_,?_,?_⟩,HOk.fromB I.hok trk0 x1.1.1,free,x1,old,?_,?_⟩,hE⟩
  · exact fun b o q n nf _=>x1.1.1 b o (old b o q n nf)
  · intro b o q n hb nx
    obtain⟨sl,q1⟩:=I.base.slot b o q n hb nx
    obtain⟨sl',q2⟩:=slots b _ q1 hb
    exact⟨sl',q2⟩
  · exact fun b o q n nx=>I.base.free b o q n nx
  · intro b o q nx
    obtain⟨o',q1⟩:=I.base.there b o q nx
    by_cases hb:b∈frs outer
    · obtain⟨sl',q2⟩:=slots b _ q1 hb
      exact⟨_,q2⟩
    · exact⟨o',x1.1.1 b o' (mk b o' q1 (nf0 b o q hb) (ne0 b o q))⟩
  · exact I.base.tups
  · exact I.base.frzs
  · exact I.base.tbls
  · intro b u q
    obtain⟨o,_,e2⟩:=trk0 b u q
    exact⟨o,x1.1.1 b o e2,e2⟩
  · intro b o q nf
    obtain⟨o',q1⟩:=I.base.there b o q (fun z=>by cases z)
    exact⟨o',mk b o' q1 (nf0 b o q nf) (ne0 b o q)⟩
theorem nU {pins:List (Addr×Obj)} {σ:St} {H1:Hp} {s1:Shared} {h':Heap} {e:Addr} {cls:Value} {vs:List Value} (I:Inv (cxOf (CXR P w) P w K mg base N qual scope f cd A outer s H E) pins σ H1 s1)
    (hx:Heap.MadeExcOf s1.heap h' e cls vs) (hE:E cls none H1):(cxOf (CXR P w) P w K mg base N qual scope f cd A outer s H E).xe (.ref e) { s1 with heap:=h' }:=by
  obtain⟨t,he,_,_⟩:=hx.there
  have J:Inv (cxOf (CXR P w) P w K mg base N qual scope f cd A outer s H E) pins σ H1 { s1 with heap:=h' }:=I.kept hx.keeps
  refine mD J (t:=t) he rfl rfl rfl ?_ ?_ hE
  · cases q:s.heap.get? e with
    | none=>rfl
    | some o=>
      obtain⟨o',q1⟩:=I.base.there e o q (fun z=>by cases z)
      rw [hx.new] at q1;cases q1
  · cases q:H1 e with
    | none=>rfl
    | some u=>
      obtain⟨o,eo⟩:=(I.hok e u q).there
      rw [hx.new] at eo;cases eo
theorem jP {E1:XK} (hE:∀cls od H',E1 cls od H'→E cls od H'):Passes (CXR P w) (cxOf (CXR P w) P w K mg base N qual scope f cd A outer s H E) E1:=by
  intro pins σ H1 s1 ev s2 I h
  obtain⟨a,t,cls,od,H',B,rfl,F,q⟩:=h
  have fr:=I.ok.frames
  refine xM fr rfl F.fly fun h2 x1 x2=>?_
  have old:∀b o,s.heap.get? b = some o→H b = none→b∉frs outer→B.get? b = some o:=fun b o e n nf=>
    F.old b o (I.base.keep b o e n nf (fun z=>by cases z)) (I.base.free b o e n (fun z=>by cases z)) (iK I e nf)
  have slots:∀b o,s2.heap.get? b = some o→b∈frs outer→∃sl,h2.get? b = some { o with slots:=sl }:=fun b o e hb=>by
    have hm:b∈frs (cxOf (CXR P w) P w K mg base N qual scope f cd A outer s H E).stack:=List.mem_filterMap.mpr (by
      obtain⟨env,he,hf⟩:=List.mem_filterMap.mp hb
      exact⟨env,List.mem_cons_of_mem _ he,hf⟩)
    obtain⟨_,o',ho',nf⟩:=Heap.FunFrames.mem F.fly.2.1 hm
    rw [e] at ho';cases ho'
    exact x2 b o e nf
  have hst:∀b,b∈frs outer→b∈frs (cxOf (CXR P w) P w K mg base N qual scope f cd A outer s H E).stack:=fun b hb=>List.mem_filterMap.mpr (by
      obtain⟨env,he,hf⟩:=List.mem_filterMap.mp hb
      exact⟨env,List.mem_cons_of_mem _ he,hf⟩)
  refine⟨a,t,cls,od,H',B,rfl,⟨F.os.trans I.os,F.bare,⟨?_,?_,?_,?_,?_,?_,?_⟩,HOk.fromB F.hok F.trk x1.1.1,F.new,x1,old,?_,?_⟩,hE _ _ _ q⟩
  · exact fun b o e n nf _=>x1.1.1 b o (old b o e n nf)
  · intro b o e n hb nx
    obtain⟨sl,q1⟩:=I.base.slot b o e n hb nx
    obtain⟨sl1,q2⟩:=F.un.slot b _ q1 (I.base.free b o e n nx) (hst b hb) (fun z=>by cases z)
    obtain⟨sl2,q3⟩:=slots b _ q2 hb
    exact⟨sl2,q3⟩
  · exact fun b o e n nx=>by
      obtain⟨o1,q1⟩:=I.base.there b o e nx
      exact F.un.free b o1 q1 (I.base.free b o e n nx) (fun z=>by cases z)
  · intro b o e nx
    obtain⟨o1,q1⟩:=I.base.there b o e nx
    obtain⟨o2,q2⟩:=F.un.there b o1 q1 (fun z=>by cases z)
    by_cases hb:b∈frs outer
    · obtain⟨sl',q3⟩:=slots b _ q2 hb
      exact⟨_,q3⟩
    · obtain⟨o3,q3⟩:=F.all b o1 q1 (iK I e hb)
      exact⟨o3,x1.1.1 b o3 q3⟩
  · exact fun b xs z=>F.un.tups b xs (I.base.tups b xs z)
  · exact fun b o u z=>F.un.frzs b o u (I.base.frzs b o u z)
  · intro b ps z
    obtain⟨m1,z1⟩:=I.base.tbls b ps z
    obtain⟨m2,z2⟩:=F.un.tbls b _ z1
    exact⟨m1 ++ m2,by rw [←Array.append_assoc];exact z2⟩
  · intro b u z
    obtain⟨o,_,e2⟩:=F.trk b u z
    exact⟨o,x1.1.1 b o e2,e2⟩
  · intro b o e nf
    obtain⟨o1,q1⟩:=I.base.there b o e (fun z=>by cases z)
    exact F.all b o1 q1 (iK I e nf)
end
end L2
namespace L2
open PySem PySem.Spec PyProof.Rows
section
variable {P:Program} {w:World} {K:PySem.W.Frag} {mg:Str→Option Value} {base:Heap} {N:List Str} {qual:Str} {scope:Scope} {f:Addr} {cd:Value} {A:Around} {outer:List Env} {s:Shared} {H:Hp} {E:XK}
def tRaise (C:Addr) (E:XK) (t:TA):TS:=fun _ σ H=>t σ H fun vs H1=>vs.length≤sizeLine∧E (.ref C) none H1
theorem cW {x:Str} {C:Addr} {np cpos pos:Pos} {e₀:Expr} {rest:List Expr} {t:TA} {B newId initId:String} {bmB:List Value} (FB:ExcBaseFacts B newId initId bmB) (hm:mg x = some (.ref C))
    (hq:PySem.W.excIn K C bmB newId = true) (ha:PA (cxOf (CXR P w) P w K mg base N qual scope f cd A outer s H E) (e₀ :: rest) t)
    (hx:Gl (cxOf (CXR P w) P w K mg base N qual scope f cd A outer s H E) x:=by rfl) (hd:(x == ("__debug__":Str)) = false:=by decide)
    (he:starEach (e₀ :: rest) (cxOf (CXR P w) P w K mg base N qual scope f cd A outer s H E).env = (false,eval e₀ (cxOf (CXR P w) P w K mg base N qual scope f cd A outer s H E).env) :: starEach rest (cxOf (CXR P w) P w K mg base N qual scope f cd A outer s H E).env:=by rfl)
    (hpl:(backTo cpos (starEach rest (cxOf (CXR P w) P w K mg base N qual scope f cd A outer s H E).env)).any (·.1) = false:=by rfl) :
    PS (cxOf (CXR P w) P w K mg base N qual scope f cd A outer s H E) (.Raise (some (.Call (.Name x np) (e₀ :: rest) [] cpos)) none pos) (tRaise C E t):=by
  intro pins s1 σ H1 D I hw
  obtain⟨bm,N',nm,qn,bs,hdct,sn,sub,ab,col,dd,k0,k1,k2,k3,k5,mN,hC,hN,hni,T⟩:=a2E I.ok.mod.kin hq
  refine wpAny_Raise_call_subT (C:=C) (nm:=nm) (q:=qn) (N:=N') (bs:=bs) (bm:=bm) (hdct:=hdct) (sn:=sn) (sub:=sub) (ab:=ab) (col:=col) (dd:=dd) (k0:=k0) (k1:=k1) (k2:=k2) (k3:=k3) (k5:=k5) FB (mN:=mN)
    (T.hasType FB.hasBase) (I.ok.hd rfl) (by rw [he];exact hpl) hni (fY I hx hm ⟨rfl,?_⟩ hd)
  have h:=ha cpos pins s1 σ H1 _ I hw
  rw [he] at h ⊢
  exact Calls.evalArgs_plain (wpAny_mono h (fun us s2 ⟨vs,H2,I2,rv,z,q⟩=>⟨rfl,by rw [←rv.length];exact z,I2.bk _ _ hC,hN.keeps I2.bk,T.keeps I2.bk,fun h' e hx=>nU I2 hx q⟩) fun _ _ y=>y)
theorem Fun.okR {x qual:Str} {st:Stmt} {f:Addr} {fd:FuncData} {N ps:List Str} {k:Nat} {sp:Sp} (F:Fun K x qual st f fd) (S:FnScope N ps (defScope st)) (len:∀vs H Q E,sp vs H Q E→vs.length = ps.length)
    (hbody:∀(cdv:Value) (A:Around) (outer:List Env) (s:Shared) (H:Hp) (vs:List V) (Q:VK) (E:XK),Room k (A.deeper (envOfC qual (defScope st) s.heap.objs.size f cdv))→sp vs H Q E→
      ∃t,PSs (cxOf (CXR P w) P w K mg base N qual (defScope st) f cdv A outer s H E) (defBody st) t∧t { nx:=fun _ H'=>Q .non H',rt:=Q } (start N vs) H):FnOk P w K mg base (CXR P w) (k + 1) f fd ps sp:=by
  obtain⟨oc,od,kV,doc,pm,an,cdv,ct,osl,rfl,lk,hcd⟩:=F.ex
  exact a0X lk hcd S len fun A outer s H vs Q E hr hsp=>hbody cdv A outer s H vs Q E hr hsp
end
section
variable {X:Cx}
def PEX (X:Cx) (e:Expr) (t:St→Hp→VK→XK→Prop):Prop:=∀(pins:List (Addr×Obj)) (s:Shared) (σ:St) (H:Hp) (Q:VK) (EX:XK),Inv X pins σ H s→t σ H Q EX→
 wpAny (model X.prog X.w) X.A (eval e X.env) (EP X pins σ Q) (fun ev s'=>∃H1 s1,Inv X pins σ H1 s1∧CXR X.prog X.w X.stack H1 s1 EX ev s') s
def excO (cls:Value) (a:Addr) (od:Option Addr):HO:= .ext fun h=>∃o vs,h.get? a = some o∧(o.cls = cls∧o.dict = od)∧o.data = .fields vs
abbrev Cx.marked (X:Cx) (e:Value):Cx:={ X with A:=X.A.mark (some e),calm:=false,xe:=fun _ _=>False }
def sufE (D:Ends) (i:Nat):Ends:={ nx:=fun σ' H'=>D.nx (σ'.set i none) H',rt:=D.rt,bk:=fun σ' H'=>D.bk (σ'.set i none) H',ct:=fun σ' H'=>D.ct (σ'.set i none) H' }
def tTryAs (tx:St→Hp→VK→XK→Prop) (K:PySem.W.Frag) (C:Addr) (i:Nat) (ts:TS):TS:=fun D σ H=>
 tx σ H (fun _ H1=>D.nx σ H1) fun cls od H1=>PySem.W.exmOne K cls (.ref C) = some true∧∀a,H1 a = none→ts (sufE D i) (σ.set i (some (.ref a))) (upd H1 a (excO cls a od))
def tTry0 (tx:St→Hp→VK→XK→Prop) (K:PySem.W.Frag) (C:Addr) (ts:TS):TS:=fun D σ H=>
 tx σ H (fun _ H1=>D.nx σ H1) fun cls od H1=>PySem.W.exmOne K cls (.ref C) = some true∧∀a,H1 a = none→ts D σ (upd H1 a (excO cls a od))
variable {e:Expr} {tx:St→Hp→VK→XK→Prop} {p1 np hpos pos:Pos} {y n:Str} {C:Addr} {i:Nat} {b₀:Stmt} {suite:List Stmt} {ts:TS}
end
end L2
namespace L2
open PySem PySem.Spec PyProof.Rows
structure RoomN (k:Nat) (A:Around):Prop where
 dp:A.depth + 3 * k + 5 < recursionLimit
 un:A.units + 16 * k + 200 < cLine
structure FnOkN (P:Program) (w:World) (K:PySem.W.Frag) (mg:Str→Option Value) (base:Heap) (CX:CXT) (k:Nat) (f:Addr) (fd:FuncData) (ps:List Str) (sp:Sp):Prop where
 len:∀vs H Q E,sp vs H Q E→vs.length = ps.length
 run:∀(A:Around) (outer:List Env) (s:Shared) (H:Hp) (args:Args) (us:List Value) (vs:List V) (Q:VK) (E:XK),RoomN k A→Env0 P w K mg base A outer s H→BindsTo s fd args (ps.zip us)→Vals vs us→sp vs H Q E→
  codeAny (model P w) A (.call (.ref f) args) (CR CX outer P w H s Q E) s
section
variable {X:Cx} {CX:CXT} {k:Nat} {f C:Addr} {fd:FuncData} {ps:List Str} {sp:Sp} {dvs:List V} {ds:List Value} {E:XK} {x m:Str} {p pos apos:Pos} {e o:Expr} {es:List Expr} {ta:TE} {t:TA}
end
def cxOfN (CX:CXT) (P:Program) (w:World) (K:PySem.W.Frag) (mg:Str→Option Value) (base:Heap) (N:List Str) (qual:Str) (scope:Scope) (f:Addr) (cd:Value) (A:Around) (outer:List Env) (s:Shared) (H:Hp) (E:XK):Cx where
 prog:=P
 w:=w
 K:=K
 mg:=mg
 base:=base
 A:=A.deeper (envOfC qual scope s.heap.objs.size f cd)
 N:=N
 s₀:=s
 H₀:=H
 env:=envOfC qual scope s.heap.objs.size f cd
 outer:=outer
 stack:=envOfC qual scope s.heap.objs.size f cd :: outer
 ex:=[]
 calm:=false
 fn:=fun _=>true
 pn:=[]
 xe:=fun e s'=>wpAny (model P w) (A.deeper (envOfC qual scope s.heap.objs.size f cd)) (leaving (envOfC qual scope s.heap.objs.size f cd) e) (fun _ s''=>CX outer H s E e s'') (fun e' s''=>CX outer H s E e' s'') s'
section
variable {P:Program} {w:World} {K:PySem.W.Frag} {mg:Str→Option Value} {base:Heap}
end
end L2
namespace L2
open PySem PySem.Spec PyProof.Rows
theorem PE.imp {X:Cx} {e:Expr} {t t':TE} (h:PE X e t) (i:∀σ H Q,t' σ H Q→t σ H Q):PE X e t':=fun pins s σ H Q I q=>h pins s σ H Q I (i σ H Q q)
theorem PS.imp {X:Cx} {e:Stmt} {t t':TS} (h:PS X e t) (i:∀D σ H,t' D σ H→t D σ H):PS X e t':=fun pins s σ H D I q=>h pins s σ H D I (i D σ H q)
theorem OpR.imp {X:Cx} {f:Value→Value→Sem Value} {r r':R2} (h:OpR X f r) (i:∀x y H Q,r' x y H Q→r x y H Q):OpR X f r':=fun pins s σ H x y v u Q I rx ry q=>h pins s σ H x y v u Q I rx ry (i x y H Q q)
theorem UnR.imp {X:Cx} {f:Value→Sem Value} {r r':V→Hp→VK→Prop} (h:UnR X f r) (i:∀x H Q,r' x H Q→r x H Q):UnR X f r':=fun pins s σ H x v Q I rx q=>h pins s σ H x v Q I rx (i x H Q q)
theorem CallR.imp {X:Cx} {f:Value} {r r':List V→Hp→VK→Prop} (h:CallR X f r) (i:∀xs H Q,r' xs H Q→r xs H Q):CallR X f r':=fun pins s σ H xs us Q I rv q=>h pins s σ H xs us Q I rv (i xs H Q q)
theorem IxR.imp {X:Cx} {r r':R2} (h:IxR X r) (i:∀x y H Q,r' x y H Q→r x y H Q):IxR X r':=fun va sl pins s σ H x y v u Q I rx ry q hs=>h va sl pins s σ H x y v u Q I rx ry (i x y H Q q) hs
def oV (o:Option (Option V)) (k:V→Prop):Prop:=@Option.rec (Option V) (fun _=>Prop) False (fun o=>@Option.rec V (fun _=>Prop) False k o) o
def vI (x:V) (k:Int→Prop):Prop:=@V.rec (fun _=>Prop) False (fun _=>False) k (fun _=>False) (fun _=>False) (fun _=>False) (fun _=>False) (fun _=>False) x
def vB (x:V) (k:Bool→Prop):Prop:=@V.rec (fun _=>Prop) False k (fun _=>False) (fun _=>False) (fun _=>False) (fun _=>False) (fun _=>False) (fun _=>False) x
def vS (x:V) (k:Str→Prop):Prop:=@V.rec (fun _=>Prop) False (fun _=>False) (fun _=>False) k (fun _=>False) (fun _=>False) (fun _=>False) (fun _=>False) x
def vR (x:V) (k:Addr→Prop):Prop:=@V.rec (fun _=>Prop) False (fun _=>False) (fun _=>False) (fun _=>False) (fun _=>False) (fun _=>False) k (fun _=>False) x
def l1 (vs:List V) (k:V→Prop):Prop:=@List.rec V (fun _=>Prop) False (fun x r _=>@List.rec V (fun _=>Prop) (k x) (fun _ _ _=>False) r) vs
def l2 (vs:List V) (k:V→V→Prop):Prop:=@List.rec V (fun _=>Prop) False (fun x r _=>l1 r fun y=>k x y) vs
theorem oV.ex {o:Option (Option V)} {k:V→Prop} (h:oV o k):∃v,o = some (some v)∧k v:=by
 cases o with
 | none=>exact h.elim
 | some o=>cases o with
  | none=>exact h.elim
  | some v=>exact⟨v,rfl,h⟩
theorem vI.ex {x:V} {k:Int→Prop} (h:vI x k):∃i,x = .int i∧k i:=by
 cases x with
 | int i=>exact⟨i,rfl,h⟩
 | _=>exact h.elim
theorem vB.ex {x:V} {k:Bool→Prop} (h:vB x k):∃i,x = .bl i∧k i:=by
 cases x with
 | bl i=>exact⟨i,rfl,h⟩
 | _=>exact h.elim
theorem vR.ex {x:V} {k:Addr→Prop} (h:vR x k):∃i,x = .ref i∧k i:=by
 cases x with
 | ref i=>exact⟨i,rfl,h⟩
 | _=>exact h.elim
theorem l1.ex {vs:List V} {k:V→Prop} (h:l1 vs k):∃x,vs = [x]∧k x:=by
 match vs,h with
 | [x],h=>exact⟨x,rfl,h⟩
theorem l2.ex {vs:List V} {k:V→V→Prop} (h:l2 vs k):∃x y,vs = [x,y]∧k x y:=by
 match vs,h with
 | [x,y],h=>exact⟨x,y,rfl,h⟩
def dVar (i:Nat):TE:=fun σ H Q=>oV σ[i]? fun v=>Q v H
section
variable {X:Cx}
theorem dv (i:Nat) {x:Str} {pos:Pos} (hN:X.N[i]? = some x:=by rfl) (hv:Vis X.env.scope x:=by first | exact Or.inl rfl | exact Or.inr (Or.inl rfl) | exact Or.inr (Or.inr rfl)) (hd:(x == ("__debug__":Str)) = false:=by decide)
    (hcd:(x == ("__classdict__":Str)) = false:=by decide):PE X (.Name x pos) (dVar i):=(a1H hN hv hd hcd).imp fun σ H Q h=>h.ex
def mI (C:Int→Int→Prop) (g:Int→Int→V):R2:=fun x y H Q=>vI x fun i=>vI y fun j=>C i j∧Q (g i j) H
def mI0 (g:Int→Int→V):R2:=fun x y H Q=>vI x fun i=>vI y fun j=>Q (g i j) H
theorem mI.to {C:Int→Int→Prop} {g:Int→Int→V}:∀x y H Q,mI C g x y H Q→rI C g x y H Q:=fun x y H Q h=>by
 obtain⟨i,rfl,h1⟩:=vI.ex h
 clear h
 obtain⟨j,rfl,h⟩:=vI.ex h1
 exact⟨_,_,rfl,rfl,h.1,h.2⟩
theorem mI0.to {g:Int→Int→V}:∀x y H Q,mI0 g x y H Q→rI0 g x y H Q:=fun x y H Q h=>by
 obtain⟨i,rfl,h1⟩:=vI.ex h
 clear h
 obtain⟨j,rfl,h⟩:=vI.ex h1
 exact⟨_,_,rfl,rfl,h⟩
def mU (g:Int→V):V→Hp→VK→Prop:=fun x H Q=>vI x fun i=>Q (g i) H
theorem mU.to {g:Int→V}:∀x H Q,mU g x H Q→rU g x H Q:=fun x H Q h=>vI.ex h
theorem bZ:OpR X (binaryOp .Add) (mI0 fun i j=> .int (i + j)):=a1T.imp mI0.to
theorem fC:OpR X (binaryOp .Sub) (mI0 fun i j=> .int (i - j)):=a1N.imp mI0.to
theorem dU:OpR X (binaryOp .Mult) (mI CMulB fun i j=> .int (i * j)):=zN.imp mI.to
theorem vH:OpR X (binaryOp .FloorDiv) (mI CDiv fun i j=> .int (i / j)):=zO.imp mI.to
theorem mH:OpR X (binaryOp .Mod) (mI (fun _ j=>0 < j) fun i j=> .int (i % j)):=a1Q.imp mI.to
theorem uZ:OpR X (binaryOp .RShift) (mI (fun _ j=>0≤j) fun i j=> .int (i / 2 ^ j.toNat)):=a1O.imp mI.to
theorem rO:OpR X (binaryOp .BitAnd) (mI0 fun i j=> .int (Builtin.bitAnd i j)):=a1S.imp mI0.to
theorem a0M:OpR X (binaryOp .BitXor) (mI0 fun i j=> .int (Builtin.bitXor i j)):=a1M.imp mI0.to
theorem jM:UnR X (unaryOp .USub) (mU fun i=> .int (-i)):=a1C.imp mU.to
theorem lY:OpR X (compareOp .Lt) (mI0 fun i j=> .bl (decide (i < j))):=a2T.imp mI0.to
theorem yS:OpR X (compareOp .LtE) (mI0 fun i j=> .bl (decide (i≤j))):=a2U.imp mI0.to
theorem pC:OpR X (compareOp .Gt) (mI0 fun i j=> .bl (decide (j < i))):=a2V.imp mI0.to
theorem jT:OpR X (compareOp .GtE) (mI0 fun i j=> .bl (decide (j≤i))):=a2W.imp mI0.to
theorem dI {i j:Int}:decide (V.int i = V.int j) = decide (i = j):=by
 by_cases h:i = j
 ·rw [decide_eq_true h,decide_eq_true (congrArg V.int h)]
 ·rw [decide_eq_false h,decide_eq_false fun z=>h (V.int.inj z)]
theorem dS {i j:Str}:decide (V.str i = V.str j) = decide (i = j):=by
 by_cases h:i = j
 ·rw [decide_eq_true h,decide_eq_true (congrArg V.str h)]
 ·rw [decide_eq_false h,decide_eq_false fun z=>h (V.str.inj z)]
theorem dB {i j:Bool}:decide (V.bl i = V.bl j) = decide (i = j):=by
 by_cases h:i = j
 ·rw [decide_eq_true h,decide_eq_true (congrArg V.bl h)]
 ·rw [decide_eq_false h,decide_eq_false fun z=>h (V.bl.inj z)]
def eqW (f:Bool→Prop) (x y:V):Prop:=@V.rec (fun _=>Prop)
 (@V.rec (fun _=>Prop) (f true) (fun _=>False) (fun _=>f false) (fun _=>f false) (fun _=>False) (fun _=>False) (fun _=>False) (fun _=>False) y)
 (fun i=>@V.rec (fun _=>Prop) False (fun j=>f (decide (i = j))) (fun _=>False) (fun _=>False) (fun _=>False) (fun _=>False) (fun _=>False) (fun _=>False) y)
 (fun i=>@V.rec (fun _=>Prop) (f false) (fun _=>False) (fun j=>f (decide (i = j))) (fun _=>f false) (fun _=>False) (fun _=>False) (fun _=>False) (fun _=>False) y)
 (fun i=>@V.rec (fun _=>Prop) (f false) (fun _=>False) (fun _=>f false) (fun j=>f (decide (i = j))) (fun _=>False) (fun _=>False) (fun _=>False) (fun _=>False) y)
 (fun _=>False) (fun _=>False) (fun _=>False) (fun _=>False) x
theorem eqW.ex {f:Bool→Prop} {x y:V} (h:eqW f x y):scal x y = true∧f (decide (x = y)):=by
 cases x with
 | non=>cases y <;> first | exact h.elim | exact⟨rfl,h⟩
 | bl i=>cases y <;> first | exact h.elim | (exact⟨rfl,by rw [dB];exact h⟩)
 | int i=>cases y <;> first | exact h.elim | exact⟨rfl,h⟩ | (exact⟨rfl,by rw [dI];exact h⟩)
 | str i=>cases y <;> first | exact h.elim | exact⟨rfl,h⟩ | (exact⟨rfl,by rw [dS];exact h⟩)
 | _=>exact h.elim
def mEq:R2:=fun x y H Q=>eqW (fun b=>Q (.bl b) H) x y
def mNe:R2:=fun x y H Q=>eqW (fun b=>Q (.bl (!b)) H) x y
theorem bQ:OpR X (compareOp .Eq) mEq:=a2X.imp fun x y H Q h=>eqW.ex (f:=fun b=>Q (.bl b) H) h
theorem jA:OpR X (compareOp .NotEq) mNe:=a2S.imp fun x y H Q h=>eqW.ex (f:=fun b=>Q (.bl (!b)) H) h
def vN (x:V) (k:Prop):Prop:=@V.rec (fun _=>Prop) k (fun _=>False) (fun _=>False) (fun _=>False) (fun _=>False) (fun _=>False) (fun _=>False) (fun _=>False) x
def mIsN:R2:=fun x y H Q=>vN y (Q (.bl (decide (x = .non))) H)
def mNotN:R2:=fun x y H Q=>vN y (Q (.bl (!decide (x = .non))) H)
section
variable {a b c:Expr} {ta tb tc:TE} {pos:Pos} {rest:List Expr}
theorem lC {x:V} {k:Bool→Prop}:vB x k = ∃i,x = .bl i∧k i:=propext ⟨vB.ex,fun ⟨i,e,h⟩=>by subst e;exact h⟩
def dTest (t:TE):TT:=fun σ H Q=>t σ H fun x H'=>vB x fun k=>Q k H'
theorem yG (t:TE):dTest t = tTest t:=by
 funext σ H Q
 unfold dTest tTest
 simp only [lC]
theorem uQ (t:TE):dTest t = tB t:=by
 funext σ H Q
 unfold dTest tB
 simp only [lC]
theorem aR {op:CmpOp} {r:R2} (ho:OpR X (compareOp op) r) (ha:PE X a ta) (hb:PE X b tb) (hm:behindInMarks op b = false):PT X (.Compare a [op] [b] pos) (dTest (tOp r ta tb)):=by
 rw [yG];exact zF ho ha hb hm
theorem bJ {e:Expr} {t:TE} (h:PE X e t) (he:∀whole,isTrue e X.env whole = (do let v←whole;standAt e.pos;holding [v] (truthy v)):=by intro _;rfl):PT X e (dTest t):=by
 rw [uQ];exact a1G h he
def dAnd (ta tb:TE):TE:=fun σ H Q=>ta σ H fun x H1=>vB x fun c=>if c = true then tb σ H1 Q else Q (.bl false) H1
def dOr (ta tb:TE):TE:=fun σ H Q=>ta σ H fun x H1=>vB x fun c=>if c = true then Q (.bl true) H1 else tb σ H1 Q
def dNot (ta:TE):TE:=fun σ H Q=>ta σ H fun x H1=>vB x fun c=>Q (.bl (!c)) H1
theorem a0D:dAnd ta tb = tAndV ta tb:=by
 funext σ H Q
 unfold dAnd tAndV
 simp only [lC]
theorem a0C:dNot ta = tNotV ta:=by
 funext σ H Q
 unfold dNot tNotV
 simp only [lC]
theorem jF (ha:PE X a ta) (hb:PE X (.BoolOp .And (b :: rest) pos) tb):PE X (.BoolOp .And (a :: b :: rest) pos) (dAnd ta tb):=by
 rw [a0D];exact a1K ha hb
theorem wZ (ha:PE X a ta):PE X (.UnaryOp .Not a pos) (dNot ta):=by
 rw [a0C];exact a1I ha
end
def SqA (K:PySem.W.Frag) (H:Hp) (a:Addr) (xs:List V):Prop:=SqL K H a xs∨SqT K H a xs
def mIxL (K:PySem.W.Frag):R2:=fun x y H Q=>vR x fun p=>vI y fun i=>∃xs v,SqL K H p xs∧atI xs i = some v∧Q v H
def mIxT (K:PySem.W.Frag):R2:=fun x y H Q=>vR x fun p=>vI y fun i=>∃xs v,SqT K H p xs∧atI xs i = some v∧Q v H
def mIxS:R2:=fun x y H Q=>vS x fun z=>vI y fun i=>∃c,z.length≤sizeLine∧atI z.cps.toList i = some c∧Q (.str ⟨#[c]⟩) H
theorem bC:IxR X (mIxL X.K):=zY.imp fun x y H Q h=>by
 obtain⟨p,rfl,h⟩:=vR.ex h
 obtain⟨i,rfl,xs,v,h1,h2,h3⟩:=vI.ex h
 exact⟨_,xs,_,v,rfl,rfl,h1,h2,h3⟩
theorem dF:IxR X (mIxT X.K):=a2B.imp fun x y H Q h=>by
 obtain⟨p,rfl,h⟩:=vR.ex h
 obtain⟨i,rfl,xs,v,h1,h2,h3⟩:=vI.ex h
 exact⟨_,xs,_,v,rfl,rfl,h1,h2,h3⟩
def mLen (K:PySem.W.Frag):List V→Hp→VK→Prop:=fun xs H Q=>l1 xs fun x=>vR x fun p=>∃ys,SqA K H p ys∧Q (.int ys.length) H
theorem fD:CallR X (.builtin "len") (mLen X.K):=oU.imp fun xs H Q h=>by
 obtain⟨x,rfl,h⟩:=l1.ex h
 obtain⟨p,rfl,ys,h1,h2⟩:=vR.ex h
 exact⟨_,ys,rfl,h1,h2⟩
def mLenS:List V→Hp→VK→Prop:=fun xs H Q=>l1 xs fun x=>vS x fun z=>z.length≤sizeLine∧Q (.int z.length) H
def mListOf (K:PySem.W.Frag):List V→Hp→VK→Prop:=fun xs H Q=>l1 xs fun x=>vR x fun p=>∃ys,SqA K H p ys∧∀l,H l = none→Q (.ref l) (upd H l (.lst ys))
theorem fO:CallR X (.type "list") (mListOf X.K):=oR.imp fun xs H Q h=>by
 obtain⟨x,rfl,h⟩:=l1.ex h
 obtain⟨p,rfl,ys,h1,h2⟩:=vR.ex h
 exact⟨_,ys,rfl,h1,h2⟩
def mMin2:List V→Hp→VK→Prop:=fun xs H Q=>l2 xs fun x y=>vI x fun i=>vI y fun j=>Q (.int (min i j)) H
def mMax2:List V→Hp→VK→Prop:=fun xs H Q=>l2 xs fun x y=>vI x fun i=>vI y fun j=>Q (.int (max i j)) H
theorem a0Z (hc:X.calm = true):CallR X (.builtin "min") mMin2:=(uV hc).imp fun xs H Q h=>by
 obtain⟨x,y,rfl,h⟩:=l2.ex h
 obtain⟨i,rfl,h⟩:=vI.ex h
 obtain⟨j,rfl,h⟩:=vI.ex h
 refine⟨_,_,rfl,?_⟩
 have e:(if j < i then j else i) = min i j:=by omega
 rw [e];exact h
theorem vC (hc:X.calm = true):CallR X (.builtin "max") mMax2:=(uW hc).imp fun xs H Q h=>by
 obtain⟨x,y,rfl,h⟩:=l2.ex h
 obtain⟨i,rfl,h⟩:=vI.ex h
 obtain⟨j,rfl,h⟩:=vI.ex h
 refine⟨_,_,rfl,?_⟩
 have e:(if j > i then j else i) = max i j:=by omega
 rw [e];exact h
def isiR (T:String) (f:V→Hp→VK→Prop):List V→Hp→VK→Prop:=fun xs H Q=>l2 xs fun x c=>c = .ty T∧f x H Q
def mIsiInt:V→Hp→VK→Prop:=fun x H Q=>@V.rec (fun _=>Prop) False (fun _=>Q (.bl true) H) (fun _=>Q (.bl true) H) (fun _=>Q (.bl false) H) (fun _=>False) (fun _=>False) (fun _=>False) (fun _=>False) x
def mIsiBool:V→Hp→VK→Prop:=fun x H Q=>@V.rec (fun _=>Prop) False (fun _=>Q (.bl true) H) (fun _=>Q (.bl false) H) (fun _=>False) (fun _=>False) (fun _=>False) (fun _=>False) (fun _=>False) x
def mIsiStr:V→Hp→VK→Prop:=fun x H Q=>@V.rec (fun _=>Prop) False (fun _=>False) (fun _=>Q (.bl false) H) (fun _=>Q (.bl true) H) (fun _=>False) (fun _=>False) (fun _=>False) (fun _=>False) x
def mIsiList:V→Hp→VK→Prop:=fun x H Q=>@V.rec (fun _=>Prop) False (fun _=>False) (fun _=>Q (.bl false) H) (fun _=>Q (.bl false) H) (fun _=>False) (fun _=>False) (fun p=>(∃xs,H p = some (.lst xs))∧Q (.bl true) H) (fun _=>False) x
def mIsiTuple:V→Hp→VK→Prop:=fun x H Q=>@V.rec (fun _=>Prop) False (fun _=>False) (fun _=>Q (.bl false) H) (fun _=>False) (fun _=>False) (fun _=>False) (fun p=>(∃xs,H p = some (.tup xs))∧Q (.bl true) H) (fun _=>False) x
end
section
variable {K:PySem.W.Frag}
theorem pZ:PySem.W.kitOne K (.type "int") (.type "str") = some false:=by first | rfl | decide +kernel
theorem mF:PySem.W.kitOne K (.type "int") (.type "tuple") = some false:=by first | rfl | decide +kernel
theorem pY:PySem.W.kitOne K (.type "str") (.type "int") = some false:=by first | rfl | decide +kernel
end
section
variable {X:Cx}
theorem oF {T:String} {f:V→Hp→VK→Prop} (h:∀x H Q,f x H Q→∃t b,TyOf X.K H x t∧PySem.W.kitOne X.K t (.type T) = some b∧Q (.bl b) H):CallR X (.builtin "isinstance") (isiR T f):=yN.imp fun xs H Q q=>by
 obtain⟨x,c,rfl,q⟩:=l2.ex q
 obtain⟨ec,q2⟩:=q
 subst ec
 obtain⟨t,b,h1,h2,h3⟩:=h x H Q q2
 exact⟨_,_,_,t,b,rfl,rfl,h1,h2,h3⟩
theorem tM:CallR X (.builtin "isinstance") (isiR "int" mIsiInt):=oF fun x H Q q=>by
 cases x with
 | int i=>exact⟨_,_,.int _,qC,q⟩
 | bl i=>exact⟨_,_,.bl _,oH,q⟩
 | str i=>exact⟨_,_,.str _,pY,q⟩
 | _=>exact q.elim
theorem qO:CallR X (.builtin "isinstance") (isiR "bool" mIsiBool):=oF fun x H Q q=>by
 cases x with
 | int i=>exact⟨_,_,.int _,oG,q⟩
 | bl i=>exact⟨_,_,.bl _,mG,q⟩
 | _=>exact q.elim
theorem mJ:CallR X (.builtin "isinstance") (isiR "str" mIsiStr):=oF fun x H Q q=>by
 cases x with
 | int i=>exact⟨_,_,.int _,pZ,q⟩
 | str i=>exact⟨_,_,.str _,pX,q⟩
 | _=>exact q.elim
theorem pB:CallR X (.builtin "isinstance") (isiR "tuple" mIsiTuple):=oF fun x H Q q=>by
 cases x with
 | int i=>exact⟨_,_,.int _,mF,q⟩
 | ref p=>
  obtain⟨⟨xs,hp⟩,q⟩:=q
  exact⟨_,_,.tup hp,jU,q⟩
 | _=>exact q.elim
def tCutA (t:TA):TA:=fun σ H Q=>∃P:List V→Hp→Prop,t σ H P∧∀x H',P x H'→Q x H'
theorem jD {es:List Expr} {t:TA} (h:PA X es t):PA X es (tCutA t):=by
 intro pos pins s σ H Q I hw
 obtain⟨P,h1,h2⟩:=hw
 exact thn (h pos pins s σ H P I h1) fun v s1 ⟨x,H1,I1,r,q⟩=>⟨x,H1,I1,r,h2 x H1 q⟩
section
variable {o e:Expr} {es:List Expr} {to:TE} {t:TA} {apos cpos:Pos}
def dBl (to:TE):TE:=fun σ H Q=>to σ H fun x H1=>vI x fun i=>Q (.int ((Builtin.Int.intBits i:Nat):Int)) H1
theorem sO (ho:PE X o to) (hbase:attributeBase o "bit_length" X.env (eval o X.env) = eval o X.env:=by rfl) (hline:(apos.endLine == cpos.line) = true:=by rfl) :
    PE X (.Call (.Attribute o "bit_length" apos) [] [] cpos) (dBl to):=
  (a1J PySem.F.plainAttrs_int PySem.F.slot_int_bit_length PySem.F.type_int_bit_length a3B (cB ho) hbase hline).imp fun σ H Q h=>⟨_,h,fun x H1 q=>by
    obtain⟨i,rfl,q⟩:=vI.ex q
    exact⟨rfl,i,rfl,rfl,q⟩⟩
def dAppend (K:PySem.W.Frag) (to:TE) (t:TA):TE:=fun σ H Q=>to σ H fun x H1=>vR x fun l=>(∃xs,SqL K H1 l xs)∧t σ H1 fun vs H2=>l1 vs fun y=>∃xs,H2 l = some (.lst xs)∧xs.length < sizeLine∧Q .non (upd H2 l (.lst (xs ++ [y])))
theorem cD (ho:PE X o to) (ha:PA X [e] t) (hbase:attributeBase o "append" X.env (eval o X.env) = eval o X.env:=by rfl)
    (hfew:((backTo cpos (starEach [e] X.env)).all (fun x=>!x.1) && (backToKw cpos (keywordEach [] X.env)).all (fun x=>x.1.isSome)
      && decide (([e]:List Expr).length + ([]:List Keyword).length + (if ([]:List Keyword).isEmpty then 0 else 1) < 30)) = true:=by rfl)
    (hline:(apos.endLine == cpos.line) = true:=by rfl) (hs:starEach [e] X.env = (false,eval e X.env) :: starEach [] X.env:=by rfl) (hplain:(backTo cpos (starEach [] X.env)).any (·.1) = false:=by rfl) :
    PE X (.Call (.Attribute o "append" apos) [e] [] cpos) (dAppend X.K to t):=
  (rZ PySem.F.plainAttrs_list PySem.F.slot_list_append PySem.F.type_list_append uA (cB ho) (jD ha) hbase hfew hline hs hplain).imp fun σ H Q h=>⟨_,h,fun x H1 q=>by
    obtain⟨l,rfl,q1,q2⟩:=vR.ex q
    refine⟨.inl ⟨rfl,q1⟩,_,q2,fun vs H2 q3=>?_⟩
    obtain⟨y,rfl,xs,h1,h2,h3⟩:=l1.ex q3
    exact⟨l,xs,y,rfl,rfl,h1,h2,h3⟩⟩
def dPop (K:PySem.W.Frag) (to:TE):TE:=fun σ H Q=>to σ H fun x H1=>vR x fun l=>∃xs y,H1 l = some (.lst xs)∧xs[xs.length - 1]? = some y∧Q y (upd H1 l (.lst xs.dropLast))
def dPart (t:TE):TO:=fun σ H Q=>t σ H fun x H1=>vI x fun i=>Q (some i) H1
theorem PO.imp {e:Option Expr} {t t':TO} (h:PO X e t) (i:∀σ H Q,t' σ H Q→t σ H Q):PO X e t':=fun pins s σ H Q I q=>h pins s σ H Q I (i σ H Q q)
theorem cC (h:PE X e to):PO X (some e) (dPart to):=(zK (cB h)).imp fun σ H Q q=>⟨_,q,fun x H1 z=>vI.ex z⟩
def mSlL (K:PySem.W.Frag):V→Option Int→Option Int→Hp→VK→Prop:=fun x lo hi H Q=>vR x fun a=>∃xs,SqL K H a xs∧∀p,H p = none→Q (.ref p) (upd H p (.lst (cutV xs lo hi)))
theorem SlR.imp {r r':V→Option Int→Option Int→Hp→VK→Prop} (h:SlR X r) (i:∀x lo hi H Q,r' x lo hi H Q→r x lo hi H Q):SlR X r':=by
 intro pins s σ H x v vl vu lo hi sl Q I rx hs pl pu q
 exact h pins s σ H x v vl vu lo hi sl Q I rx hs pl pu (i _ _ _ _ _ q)
theorem fM:SlR X (mSlL X.K):=yX.imp fun x lo hi H Q h=>by
 obtain⟨a,rfl,xs,h1,h2⟩:=vR.ex h
 exact⟨_,xs,rfl,h1,h2⟩
variable {tg:Expr}
theorem PI.imp {iter:Expr} {w w':TI} (h:PI X tg iter w) (i:∀σ H R,w' σ H R→w σ H R):PI X tg iter w':=fun pins s σ H R I q=>h pins s σ H R I (i σ H R q)
def dList (K:PySem.W.Frag) (tl:TE):TI:=fun σ H R=>tl σ H fun x H1=>vR x fun a=>(∃xs,SqL K H1 a xs)∧R (Itl K a) H1
def dTupI (K:PySem.W.Frag) (tl:TE):TI:=fun σ H R=>tl σ H fun x H1=>vR x fun a=>(∃xs,SqT K H1 a xs)∧R (Itt K a) H1
theorem dM {l:Expr} {tl:TE} (hl:PE X l tl):PI X tg l (dList X.K tl):=(zL (cB hl)).imp fun σ H R h=>⟨_,h,fun x H1 q=>vR.ex q⟩
def dRng1 (ta:TA):TI:=fun σ H R=>ta σ H fun vs H1=>l1 vs fun x=>vI x fun j=>(-(2 ^ 62)≤j∧j < 2 ^ 62)∧R (Itr 0 j.toNat) H1
def dRng2 (ta:TA):TI:=fun σ H R=>ta σ H fun vs H1=>l2 vs fun x y=>vI x fun i=>vI y fun j=>(-(2 ^ 62)≤i∧i < 2 ^ 62∧ -(2 ^ 62)≤j∧j < 2 ^ 62)∧R (Itr i (j - i).toNat) H1
theorem dW {a:Expr} {ta:TA} {p pos:Pos} (hg:Gl X "range") (hm:X.mg "range" = none) (ha:PA X [a] ta) (hs:starEach [a] X.env = [(false,eval a X.env)]:=by rfl):PI X tg (.Call (.Name "range" p) [a] [] pos) (dRng1 ta):=
 (tW hg hm (jD ha) hs).imp fun σ H R h=>⟨_,h,fun vs H1 q=>by
  obtain⟨x,rfl,q⟩:=l1.ex q
  obtain⟨j,rfl,q⟩:=vI.ex q
  exact⟨j,rfl,q.1.1,q.1.2,q.2⟩⟩
def mSetL:V→V→V→Hp→(Hp→Prop)→Prop:=fun o i v H Q=>vR o fun p=>vI i fun k=>∃xs j,H p = some (.lst xs)∧ixN xs.length k = some j∧Q (upd H p (.lst (xs.set j v)))
theorem bR:PSet X mSetL:=fun pins s σ H o i v vo vi vv Q I ro ri rv h=>set_list pins s σ H o i v vo vi vv Q I ro ri rv (by
 obtain⟨p,rfl,h⟩:=vR.ex h
 obtain⟨k,rfl,xs,j,h1,h2,h3⟩:=vI.ex h
 exact⟨_,xs,_,j,rfl,rfl,h1,h2,h3⟩)
end
end
end L2
namespace L2
open PySem PySem.Spec PyProof.Rows
section
variable {M:Model} {A:Around} {E:Value→Shared→Prop} {s:Shared} {B:Heap} {env:Env} {outer l:List Env} {L e:Addr} {k a0 fl:Value} {od:Option Addr}
end
end L2
namespace L2
open PySem PySem.Spec PyProof.Rows
def subN (N:List Str) (ix:List Nat):List Str:=ix.map fun i=>N.getD i ""
def subS (σ:St) (ix:List Nat):St:=ix.map fun i=>σ.getD i none
def compXe (X:Cx) (scope:Scope) (cl:List (Str×Addr)) (C:Addr):Value→Shared→Prop:=notedBy (model X.prog X.w) X.A (compEnvC scope cl C X.env) fun e s'=>
 ∃m,s'.heap.Ns C m∧∀h',Heap.SameBut C s'.heap h'→∀cenv:Env,cenv.locals = C→wpAny (model X.prog X.w) X.A (PySem.passOn "comprehension.variables-let-go" e cenv:Sem Value) (fun _ _=>False) X.xe { s' with heap:=h' }
def cxComp (X:Cx) (scope:Scope) (cl:List (Str×Addr)) (x:Str) (ix:List Nat) (C:Addr) (fp:List Addr) (s₀:Shared) (H₀:Hp):Cx:=
 { X with N:=x :: subN X.N ix,s₀:=s₀,H₀:=H₀,env:=compEnvC scope cl C X.env,outer:=X.stack,ex:=fp,fn:=fun _=>false,pn:=[],xe:=compXe X scope cl C }
structure CompScope (X:Cx) (scope:Scope) (cl:List (Str×Addr)) (x:Str) (ix:List Nat):Prop where
 clos:closureFor scope X.env = pure cl
 kind:scope.kind = .function
 loc:scope.names.lookup x = some .local
 one:∀y∈scope.names,y.2 = .local→y.1 = x∨y.1 = ".0"
 locs:∀y∈scope.names,y.2 = .local→scope.names.lookup y.1 = some .local
 nocell:∀y∈scope.names,y.2≠ .cell
 free:∀y∈scope.names,y.2 = .free→(X.env.kindOf y.1 = some .cell∨X.env.kindOf y.1 = some .free)
 cells:∀y∈scope.names,y.2 = .free→∃c,cl.lookup y.1 = some c
 same:∀y∈cl,X.env.cells.lookup y.1 = some y.2
 nd:((".0":Str) :: x :: subN X.N ix).Nodup
theorem lookup_mem {α β:Type} [BEq α] [LawfulBEq α] {a:α} {b:β}:∀{l:List (α×β)},l.lookup a = some b→(a,b)∈l
 | [],h=>by simp at h
 | (c,d) :: r,h=>by
  rw [List.lookup_cons] at h
  cases e:a == c with
  | true=>
   rw [e] at h
   cases h
   rw [eq_of_beq e];exact List.mem_cons_self
  | false=>
   rw [e] at h
   exact List.mem_cons_of_mem _ (lookup_mem h)
theorem dN {scope:Scope} {env:Env} {y:Str} {k:NameKind} (h:(relabel scope env).names.lookup y = some k):∃k0,scope.names.lookup y = some k0∧(k = k0∨(k0 = .free∧k = .cell)):=by
  have gen :∀(names:List (Str×NameKind)),(names.map fun (n,k)=>if (k == NameKind.free && env.scope.kind == .function && env.kindOf n == some .cell) then (n,NameKind.cell) else (n,k)).lookup y = some k→
      ∃k0,names.lookup y = some k0∧(k = k0∨(k0 = .free∧k = .cell)):=by
    intro names
    induction names with
    | nil=>intro h;simp at h
    | cons p r ih=>
      obtain⟨n,k1⟩:=p
      intro h
      rw [List.map_cons] at h
      dsimp only at h
      cases hc:(k1 == NameKind.free && env.scope.kind == .function && env.kindOf n == some .cell) with
      | true=>
        rw [hc,if_pos rfl,List.lookup_cons] at h
        rw [List.lookup_cons]
        cases e:y == n with
        | true=>
          rw [e] at h
          cases h
          simp only [Bool.and_eq_true] at hc
          exact⟨k1,rfl,.inr ⟨eq_of_beq hc.1.1,rfl⟩⟩
        | false=>
          rw [e] at h
          exact ih h
      | false=>
        rw [hc,if_neg Bool.false_ne_true,List.lookup_cons] at h
        rw [List.lookup_cons]
        cases e:y == n with
        | true=>
          rw [e] at h
          cases h
          exact⟨k,rfl,.inl rfl⟩
        | false=>
          rw [e] at h
          exact ih h
  exact gen scope.names h
section
variable {X:Cx} {scope:Scope} {cl:List (Str×Addr)} {x:Str} {ix:List Nat} {C:Addr} {fp:List Addr}
theorem CompScope.look (S:CompScope X scope cl x ix) {y:Str} {c:Addr} (h:cl.lookup y = some c):X.env.cells.lookup y = some c:=S.same _ (lookup_mem h)
theorem CompScope.ok (S:CompScope X scope cl x ix) {pins:List (Addr×Obj)} {σ:St} {H:Hp} {s:Shared} (I:Inv X pins σ H s) (hf:∀b∈fp,FpOk X pins H b) (hfl:∀b∈fp,b < s.heap.objs.size) (hC:s.heap.objs.size≤C) :
    (cxComp X scope cl x ix C fp s H).Ok where
  mod:=I.ok.mod
  kind:=S.kind
  glob:=I.ok.glob
  blt:=I.ok.blt
  above:=hC
  inj:=fun y z c h1 h2=>I.ok.inj y z c (S.look h1) (S.look h2)
  has := fun y h=>by
    have h':(relabel scope X.env).names.lookup y = some .cell∨(relabel scope X.env).names.lookup y = some .free:=h
    have fr:scope.names.lookup y = some .free:=by
      rcases h' with h' | h'
      · obtain⟨k0,e,q | q⟩:=dN h'
        · exact absurd rfl (q▸S.nocell _ (lookup_mem e))
        · rw [e,q.1]
      · obtain⟨k0,e,q | q⟩:=dN h'
        · rw [e,←q]
        · cases q.2
    exact S.cells _ (lookup_mem fr) rfl
  cab:=fun y c h=>absurd h Bool.false_ne_true
  hd:=I.ok.hd
  frames:=I.ok.frames
  stk:= .inl rfl
  exf:=fun b hb=>⟨Nat.ne_of_lt (Nat.lt_of_lt_of_le (hfl b hb) hC),fun y c e=>(hf b hb).2.2.2.2.1 y c (S.look e)⟩
  bs:=I.bs
  bsz:=Nat.le_trans I.ok.bsz I.sz
  noex:=fun b o e hb=>by
    rcases (hf b hb).2.2.2.1 with z | z
    · exact I.ok.noex b o e z
    · exact absurd (Nat.lt_of_lt_of_le (Heap.lt_size e) (Nat.le_trans I.ok.bsz z)) (Nat.lt_irrefl _)
  exfs:=fun b hb z=>by
    rcases List.mem_cons.mp (I.stkSub b z) with e | e
    · exact(hf b hb).2.1 e
    · exact(hf b hb).2.2.1 e
  funs:=I.stack
  frf:=I.stkFree
theorem vV {N:List Str} {ix:List Nat} {j:Nat} {y:Str} (h:(subN N ix)[j]? = some y):∃i,ix[j]? = some i∧y = N.getD i "":=by
 unfold subN at h
 rw [List.getElem?_map] at h
 cases e:ix[j]? with
 | none=>rw [e] at h;cases h
 | some i=>rw [e] at h;cases h;exact⟨i,rfl,rfl⟩
theorem vU {σ:St} {ix:List Nat} {j:Nat} {v:V} (h:(subS σ ix)[j]? = some (some v)):∃i,ix[j]? = some i∧σ[i]? = some (some v):=by
 unfold subS at h
 rw [List.getElem?_map] at h
 cases e:ix[j]? with
 | none=>rw [e] at h;cases h
 | some i=>
  rw [e] at h
  have h':σ.getD i none = some v:=by simpa using h
  refine⟨i,rfl,?_⟩
  rw [List.getD_eq_getElem?_getD] at h'
  cases e2:σ[i]? with
  | none=>rw [e2] at h';cases h'
  | some u=>rw [e2] at h';exact congrArg some h'
theorem CompScope.inv (S:CompScope X scope cl x ix) {pins:List (Addr×Obj)} {σ:St} {H:Hp} {s s1:Shared} {m:Str→Option Value} (I:Inv X pins σ H s) (hf:∀b∈fp,FpOk X pins H b) (hfl:∀b∈fp,b < s.heap.objs.size)
    (hC:s.heap.objs.size≤C) (os:s1.os = s.os) (bare:AllBare s1.gens) (k:∀b o,s.heap.get? b = some o→s1.heap.get? b = some o) (hn:s1.heap.Ns C m) :
    Inv (cxComp X scope cl x ix C fp s H) [] (none :: subS σ ix) H s1 where
  ok:=S.ok I hf hfl hC
  os:=os
  bare:=bare
  base:=Un.kept k
  loc := ⟨m, hn,fun i y v h1 h2 h3=>by
    cases i with
    | zero=>cases (show none = some v from Option.some.inj h2)
    | succ j =>
      obtain⟨i,e1,e2⟩:=vV (N:=X.N) (show (subN X.N ix)[j]? = some y from h1)
      obtain⟨i',e1',e3⟩:=vU (σ:=σ) (show (subS σ ix)[j]? = some (some v) from h2)
      rw [e1] at e1';cases e1'
      have hi:i < X.N.length:=by rw [←I.len];exact(List.getElem?_eq_some_iff.mp e3).1
      have hy:X.N[i]? = some y:=by rw [e2,List.getD_eq_getElem?_getD,List.getElem?_eq_getElem hi];rfl
      have ne:y≠x:=by
        rintro rfl
        have nd:=(List.nodup_cons.mp S.nd).2
        exact(List.nodup_cons.mp nd).1 (List.mem_of_getElem? (show (subN X.N ix)[j]? = some y from h1))
      have h3':(relabel scope X.env).names.lookup y = some .local∨(relabel scope X.env).names.lookup y = some .cell∨(relabel scope X.env).names.lookup y = some .free:=h3
      have fr :scope.names.lookup y = some .free∧((relabel scope X.env).names.lookup y = some .cell∨(relabel scope X.env).names.lookup y = some .free):=by
        rcases h3' with z | z | z
        · obtain⟨k0,e,q | q⟩:=dN z
          · rcases S.one _ (lookup_mem e) q.symm with z | z
            · exact absurd z ne
            · have z':y = ".0":=z
              exact absurd (List.mem_cons_of_mem _ (List.mem_of_getElem? (show (subN X.N ix)[j]? = some y from h1))) (z'▸(List.nodup_cons.mp S.nd).1)
          · cases q.2
        · obtain⟨k0,e,q | q⟩:=dN z
          · exact absurd rfl (q▸S.nocell _ (lookup_mem e))
          · exact⟨by rw [e,q.1],.inl z⟩
        · obtain⟨k0,e,q | q⟩:=dN z
          · exact⟨by rw [e,←q],.inr z⟩
          · cases q.2
      have vis:=S.free _ (lookup_mem fr.1) rfl
      obtain⟨m0,_,l0⟩:=I.loc
      obtain⟨u,r,l⟩:=l0 i y v hy e3 (vis.elim (fun z=> .inr (.inl z)) fun z=> .inr (.inr z))
      refine⟨u,r,.inr ⟨fr.2,?_⟩⟩
      rcases l with ⟨k1,_⟩ | ⟨_,c,ec,oc,hoc,hd⟩
      · rcases vis with z | z
        · have:=k1.symm.trans z;cases this
        · have:=k1.symm.trans z;cases this
      · obtain⟨c',e'⟩:=S.cells _ (lookup_mem fr.1) rfl
        have:some c' = some c:=(S.look e').symm.trans ec
        cases this
        exact⟨c,e',oc,k _ _ hoc,hd⟩⟩
  cell:=fun y c e=>by
    obtain⟨v,oc,hoc,hd⟩:=I.cell y c (S.look e)
    exact⟨v,oc,k _ _ hoc,hd⟩
  free:=I.hok.fresh hC
  freeC:=fun y c e=>I.freeC y c (S.look e)
  pin:=fun p hp=>absurd (show p∈([]:List (Addr×Obj)) from hp) (by simp)
  hok:=I.hok.kept k
  len:=by show (none :: subS σ ix).length = (x :: subN X.N ix).length;simp [subS,subN]
end
def PTs (X:Cx) (ifs:List Expr) (t:TT):Prop:=
 ∀ (pins:List (Addr×Obj)) (s:Shared) (σ:St) (H:Hp) (Q:Bool→Hp→Prop),Inv X pins σ H s→t σ H Q→
  wpAny (model X.prog X.w) X.A (forIn ifs true fun c r=>if r = true then do let ok←isTrue c X.env (eval c X.env);pure (ForInStep.yield ok) else pure (ForInStep.yield r)) (TP X pins σ Q) X.xe s
def tYes:TT:=fun _ H Q=>Q true H
theorem fU {X:Cx}:PTs X [] tYes:=fun _ _ _ H _ I h=>wpAny_tests_nil ⟨H,I,h⟩
section
variable {prog:Program} {w:World} {A:Around} {R:Result→Shared→Prop} {s:Shared}
theorem oN {elt target iter:Expr} {ifs:List Expr} {scope:Scope} {pos:Pos} {it acc:Value} {env:Env} (I:Nat→Shared→Prop)
    (turn : ∀ n s,I n s→wpAny (model prog w) A (pyNext it) (fun r s₁=>match r with
      | none=>R (.ok .next) s₁
      | some v =>wpAny (model prog w) A (letOwnedTupleGo target it v) (fun _ s₀=>wpAny (model prog w) A (assign target env v) (fun _ s₂=>
          wpAny (model prog w) A (forIn ifs true fun c r=>if r = true then do let ok←isTrue c env (eval c env);pure (ForInStep.yield ok) else pure (ForInStep.yield r)) (fun ok s₃=>
            if ok = true then wpAny (model prog w) A (eval elt env) (fun x s₄=>
              wpAny (model prog w) A (call (.builtin "list.append") [acc,x]) (fun _ s₅=>∃m,m < n∧I m s₅) (notedBy (model prog w) A env fun e s'=>R (.error e) s') s₄) (notedBy (model prog w) A env fun e s'=>R (.error e) s') s₃
            else ∃m,m < n∧I m s₃) (notedBy (model prog w) A env fun e s'=>R (.error e) s') s₂) (notedBy (model prog w) A env fun e s'=>R (.error e) s') s₀) (notedBy (model prog w) A env fun e s'=>R (.error e) s') s₁) (notedBy (model prog w) A env fun e s'=>R (.error e) s') s)
    (n:Nat) (h:I n s) :
    codeAny (model prog w) A (.compLoop (.ListComp elt [⟨target,iter,ifs,0⟩] scope pos) 0 it acc env) R s:=by
  refine codeAny_loop rfl I (fun n s hI=>?_) n h
  show wpAny _ A ((compTurn (.ListComp elt [⟨target,iter,ifs,0⟩] scope pos) 0 it acc env).onRaise (fun x=>do noteFrame x env;theTreesLotGoes x)) _ _ s
  refine wpAny_noted ?_
  rw [compTurn_list]
  refine wpAny_bind (wpAny_standAt (wpAny_bind (wpAny_mono (turn n s hI) (fun r s₁ h₁=>?_) fun _ _ h'=>h')))
  cases r with
  | none=>exact wpAny_pure h₁
  | some v=>
    refine wpAny_bind (wpAny_mono h₁ (fun _ s₀ h₀=>?_) fun _ _ h'=>h')
    refine wpAny_bind (wpAny_mono h₀ (fun _ s₂ h₂=>wpAny_bind (wpAny_mono h₂ (fun ok s₃ h₃=>?_) fun _ _ h'=>h')) fun _ _ h'=>h')
    cases ok with
    | false=>exact wpAny_pure ⟨rfl,h₃⟩
    | true=>
      exact wpAny_bind (wpAny_bind (wpAny_mono h₃ (fun x s₄ h₄=>wpAny_bind (wpAny_mono h₄ (fun _ s₅ h₅=>wpAny_pure (wpAny_pure ⟨rfl,h₅⟩)) fun _ _ h'=>h')) fun _ _ h'=>h'))
end
def cWord (J:It) (tt:TT) (te:TE) (σc:V→St) (H1:Hp) (Q:VK):Prop:=∃W:Nat→Nat→List V→Hp→Prop,(∃m,W 0 m [] H1)∧∀i m ys H,W i m ys H→ys.length < sizeLine∧
  ((J.stop i H∧∀p,H p = none→Q (.ref p) (upd H p (.lst ys)))∨
   (J.go i H∧∃N:List V→Hp→Prop,(∀ys' H',N ys' H'→∃m',m' < m∧W (i + 1) m' ys' H')∧∀x H',J.yld i H x H'→tt (σc x) H' fun b H3=>if b = true then te (σc x) H3 fun y H4=>N (ys ++ [y]) H4 else N ys H3))
structure CompAt (X:Cx) (C:Addr) (fp:List Addr) (s:Shared) (H:Hp):Prop where
 inv:∃pins σ,Inv X pins σ H s∧∀b∈fp,FpOk X pins H b
 low:∀b∈fp,b < s.heap.objs.size
 up:s.heap.objs.size≤C
def tComp (ix:List Nat) (wi:TI) (tt:TT) (te:TE):TE:=fun σ H Q=>wi σ H fun J H1=>cWord J tt te (fun x=>some x :: subS σ ix) H1 Q
section
variable {X:Cx} {scope:Scope} {cl:List (Str×Addr)} {x:Str} {ix:List Nat} {elt iter:Expr} {ifs:List Expr} {pos px:Pos} {wi:TI} {tt:TT} {te:TE}
theorem lW (S:CompScope X scope cl x ix) (hc:X.calm = true)
    (ht:∀C fp s H,CompAt X C fp s H→PTs (cxComp X scope cl x ix C fp s H) ifs tt) (he:∀C fp s H,CompAt X C fp s H→PE (cxComp X scope cl x ix C fp s H) elt te)
    {pins:List (Addr×Obj)} {σ:St} {Q:VK} {itv:Value} {s2:Shared} {E:Value→Shared→Prop} {RR:Value→Addr→Result→Shared→Prop} (h2:PIE X pins σ (.Name x px) (fun J H1=>cWord J tt te (fun x=>some x :: subS σ ix) H1 Q) itv s2)
    (fin:∀(D C:Addr) (H:Hp) (s':Shared) (m:Str→Option Value),Inv X pins σ H s'→s'.heap.Ns C m→H C = none→s2.heap.objs.size≤C→(∀p∈X.pn ++ pins,p.1≠C)→X.env.locals≠C→(∀y c,X.env.cells.lookup y = some c→c≠C)→X.s₀.heap.objs.size≤C→Q (.ref D) H→RR (.ref D) C (.ok .next) s')
    (fex:∀(D C:Addr) (e:Value) (s':Shared),compXe X scope cl C e s'→notedBy (model X.prog X.w) X.A (compEnvC scope cl C X.env) (fun e s'=>RR (.ref D) C (.error e) s') e s') :
    wpAny (model X.prog X.w) X.A (newList []) (fun acc s₃=>wpAny (model X.prog X.w) X.A (newFunctionEnv scope X.env.globals cl [] X.env.qual none .none (some X.env)) (fun cenv s₄=>
      codeAny (model X.prog X.w) X.A (.compStart (.ListComp elt [⟨.Name x px,iter,ifs,0⟩] scope pos) 0 itv acc { cenv with scope:=relabel scope X.env }) (RR acc cenv.locals) s₄) E s₃) E s2:=by
  obtain⟨it,fp,tn,J,H2,rfl,I2,T,st2,f2,W,⟨m0,w0⟩,turn⟩:=h2
  have hfl:∀b∈fp,b < s2.heap.objs.size:=fun b hb=>by
    obtain⟨o,e,_⟩:=T.obj _ _ st2 b hb
    exact Heap.lt_size e
  refine wpAny_newObj_type (wpAny_newFunctionEnv S.nocell (by intro y hy;simp at hy) (fun h₁ hns₁ hsb₁=>?_) S.kind)
  dsimp only at hns₁ hsb₁ ⊢
  generalize hH2:s2.heap.push { cls:= .type "list",dict:=none,data:= .seq ([]:List Value).toArray } = G2 at hns₁ hsb₁ ⊢
  have hC:G2.objs.size = s2.heap.objs.size + 1:=by rw [←hH2,Heap.size_push]
  have hDC:s2.heap.objs.size≠G2.objs.size:=by rw [hC];exact Nat.ne_of_lt (Nat.lt_succ_self _)
  have hCle:s2.heap.objs.size≤G2.objs.size:=by rw [hC];exact Nat.le_succ _
  have below:∀b,b < s2.heap.objs.size→b≠G2.objs.size∧b≠s2.heap.objs.size:=fun b hb=>⟨by rw [hC];exact Nat.ne_of_lt (Nat.lt_succ_of_lt hb),Nat.ne_of_lt hb⟩
  have at0:CompAt X G2.objs.size fp s2 H2:=⟨⟨pins,σ,I2,f2⟩,hfl,hCle⟩
  have old:∀b o,s2.heap.get? b = some o→h₁.get? b = some o:=fun b o e=>hsb₁.extBut b o (below b (Heap.lt_size e)).1 (Heap.get?_push_of_some _ (hH2▸Heap.get?_push_of_some _ e))
  have hacc:h₁.get? s2.heap.objs.size = some { cls:= .type "list",data:= .seq ([]:List Value).toArray 0 }:=hsb₁.extBut _ _ hDC (Heap.get?_push_of_some _ (hH2▸Heap.get?_push_size _ rfl))
  have st1:tn 0 h₁:=T.keep _ _ _ st2 fun b _ o e=>old b o e
  have stat:∀{H':Hp},(∀b∈fp,H' b = none)→∀b∈fp,FpOk (cxComp X scope cl x ix G2.objs.size fp s2 H2) [] H' b:=fun hn b hb=>
    ⟨hn b hb,(below b (hfl b hb)).1,fun z=>by
      rcases List.mem_cons.mp (I2.stkSub b z) with e | e
      · exact(f2 b hb).2.1 e
      · exact(f2 b hb).2.2.1 e,.inl hb,fun y c e=>(f2 b hb).2.2.2.2.1 y c (S.look e),fun p hp=>absurd (show p∈([]:List (Addr×Obj)) from hp) (by simp)⟩
  have I3:∀s₃:Shared,s₃ = { s2 with heap:=h₁,toks:=s2.toks + ([]:List (Str×Value)).length }→Inv (cxComp X scope cl x ix G2.objs.size fp s2 H2) [] (none :: subS σ ix) H2 s₃:=fun s₃ e=>by
    subst e
    exact S.inv I2 f2 hfl hCle rfl I2.bare old hns₁
  let Acc:List V→Heap→Prop:=fun ys h=>∃its n,Vals ys its∧h.get? s2.heap.objs.size = some { cls:= .type "list",data:= .seq its.toArray n }
  have loop :∀s₃:Shared,s₃ = { s2 with heap:=h₁,toks:=s2.toks + ([]:List (Str×Value)).length }→
      codeAny (model X.prog X.w) X.A (.compLoop (.ListComp elt [⟨.Name x px,iter,ifs,0⟩] scope pos) 0 (.ref it) (.ref s2.heap.objs.size) (compEnvC scope cl G2.objs.size X.env)) (RR (.ref s2.heap.objs.size) G2.objs.size) s₃:=by
    intro s₃ e₃
    refine oN (fun n s'=>∃i ys H',Inv (cxComp X scope cl x ix G2.objs.size fp s2 H2) [] (none :: subS σ ix) H' s'∧H' s2.heap.objs.size = none∧Acc ys s'.heap∧tn i s'.heap∧(∀b∈fp,H' b = none)∧W i n ys H') ?_ m0
      ⟨0, [],H2,I3 s₃ e₃,I2.hok.fresh (Nat.le_refl _),⟨[],0,.nil,by rw [e₃];exact hacc⟩,by rw [e₃];exact st1,fun b hb=>(f2 b hb).1,w0⟩
    rintro n s4 ⟨i,ys,H4,I4,hD4,⟨its,kk,rv,eD⟩,st4,fr4,w4⟩
    obtain⟨hsz,q4⟩:=turn i n ys H4 w4
    have hlen:=rv.length
    rcases q4 with ⟨stop,qn⟩ | ⟨go,N,hN,step⟩
    · refine wpAny_mono (T.done (cxComp X scope cl x ix G2.objs.size fp s2 H2) rfl rfl rfl hc i [(s2.heap.objs.size,{ cls:= .type "list",data:= .seq its.toArray kk })] s4 (none :: subS σ ix) H4 (fun _ _=>False) ?_ ?_ st4 stop) (fun r s5 ⟨hr,I5⟩=>?_) fun _ _ z=>z.elim
      · refine I4.pins_of fun p hp=>?_
        rw [List.mem_singleton.mp hp]
        exact⟨eD,hD4,hDC,fun z=>by
          have:=Heap.FunFrames.mem I2.stack z
          obtain⟨_,o,ho,_⟩:=this
          exact Nat.lt_irrefl _ (Heap.lt_size ho),fun v z=>by cases z⟩
      · intro b hb
        obtain⟨a1,a2,a3,a4,a5,_⟩:=stat fr4 b hb
        exact⟨a1,a2,a3,a4,a5,fun p hp=>by
          rw [List.mem_singleton.mp hp]
          exact fun z=>(below b (hfl b hb)).2 z.symm⟩
      subst hr
      have eD5:=(I5.pin _ (by simp:(s2.heap.objs.size,({ cls:= .type "list",data:= .seq its.toArray kk }:Obj))∈(cxComp X scope cl x ix G2.objs.size fp s2 H2).pn ++ [(s2.heap.objs.size,{ cls:= .type "list",data:= .seq its.toArray kk })])).1
      have neD:∀b u,H4 b = some u→b≠s2.heap.objs.size:=fun b u e z=>by rw [z,hD4] at e;cases e
      have new:HOk X.prog X.w (upd H4 s2.heap.objs.size (.lst ys)) s5.heap:=by
        intro b u e
        by_cases hb:b = s2.heap.objs.size
        · subst hb
          rw [aB] at e
          cases e
          exact⟨Nat.le_of_lt hsz,its,kk,rv,eD5⟩
        · rw [aK hb] at e
          exact(I5.hok b u e).stay (fun c v _ q=>q) (fun c q=>by rw [aK (neD c _ q)];exact q) fun c xs q=>by rw [aK (neD c _ q)];exact q
      have un:Un (frs X.stack) fp H2 (upd H4 s2.heap.objs.size (.lst ys)) s2.heap s5.heap:=by
        have B:=I5.base
        exact⟨B.keep,B.slot,fun b o e n hx=>by rw [aK (below b (Heap.lt_size e)).2];exact B.free b o e n hx,B.there,
          fun b xs e=>by rw [aK (neD b _ (B.tups b xs e))];exact B.tups b xs e,fun b o u e=>by rw [aK (neD b _ (B.frzs b o u e))];exact B.frzs b o u e,
          fun b ps e=>by
            obtain⟨mm,z⟩:=B.tbls b ps e
            exact⟨mm,by rw [aK (neD b _ z)];exact z⟩⟩
      have J5:Inv X pins σ (upd H4 s2.heap.objs.size (.lst ys)) s5:=I2.call' (ch:=fp) I5.os un new I5.bare fun b hb=>⟨(f2 b hb).2.2.2.1,(f2 b hb).2.1,(f2 b hb).2.2.2.2.1,(f2 b hb).2.2.2.2.2⟩
      obtain⟨mC,hnC,_⟩:=I5.loc
      refine fin _ _ _ _ mC J5 hnC (by rw [aK (Ne.symm hDC)];exact I5.free) hCle (fun p hp z=>?_) (Nat.ne_of_lt (Nat.lt_of_lt_of_le I2.lt hCle)) (fun y c e z=>?_) (Nat.le_trans I2.sz hCle) (qn _ hD4)
      · exact absurd (Nat.lt_of_lt_of_le (Heap.lt_size (I2.pin p hp).1) hCle) (by rw [z];exact Nat.lt_irrefl _)
      · obtain⟨v,oc,hoc,_⟩:=I2.cell y c e
        exact absurd (Nat.lt_of_lt_of_le (Heap.lt_size hoc) hCle) (by rw [z];exact Nat.lt_irrefl _)
    · have pinD:∀{pl:List (Addr×Obj)} {σ':St} {H':Hp} {s':Shared} {its':List Value} {k':Nat},Inv (cxComp X scope cl x ix G2.objs.size fp s2 H2) pl σ' H' s'→s'.heap.get? s2.heap.objs.size = some { cls:= .type "list",data:= .seq its'.toArray k' }→H' s2.heap.objs.size = none→
          Inv (cxComp X scope cl x ix G2.objs.size fp s2 H2) [(s2.heap.objs.size,{ cls:= .type "list",data:= .seq its'.toArray k' })] σ' H' s':=fun I' e' n'=>I'.pins_of fun p hp=>by
        rw [List.mem_singleton.mp hp]
        exact⟨e',n',hDC,fun z=>by
          obtain⟨_,o,ho,_⟩:=Heap.FunFrames.mem I2.stack z
          exact Nat.lt_irrefl _ (Heap.lt_size ho),fun v z=>by cases z⟩
      have stat2:∀{H':Hp},(∀b∈fp,H' b = none)→∀b∈fp,FpOk (cxComp X scope cl x ix G2.objs.size fp s2 H2) [(s2.heap.objs.size,{ cls:= .type "list",data:= .seq its.toArray kk })] H' b:=fun hn b hb=>by
        obtain⟨a1,a2,a3,a4,a5,_⟩:=stat hn b hb
        exact⟨a1,a2,a3,a4,a5,fun p hp=>by
          rw [List.mem_singleton.mp hp]
          exact fun z=>(below b (hfl b hb)).2 z.symm⟩
      refine wpAny_mono (T.item (cxComp X scope cl x ix G2.objs.size fp s2 H2) rfl rfl rfl hc i _ s4 _ H4 (fun _ _=>False) (pinD I4 eD hD4) (stat2 fr4) st4 go) (fun r s5 ⟨u,hr,h5⟩=>?_) fun _ _ z=>z.elim
      subst hr
      refine wpAny_mono h5 (fun _ s6 ⟨y,H6,I6,r6,y6,st6,fr6⟩=>?_) fun _ _ z=>z.elim
      have I6':=I6.pinned (stat2 fr6) (T.obj _ _ st6)
      have hxl:(relabel scope X.env).names.lookup x = some .local:=lookup_relabel_local S.loc
      refine wpAny_assign_Name (lF (X:=cxComp X scope cl x ix G2.objs.size fp s2 H2) (i:=0) I6' (List.nodup_cons.mp S.nd).2 rfl (.inl hxl) r6 (fun s7 I7=>?_) (.inr hxl))
      have q7:=step y H6 y6
      refine wpAny_mono (ht _ _ _ _ at0 _ s7 (some y :: subS σ ix) H6 _ I7 q7) (fun ok s8 ⟨H8,I8,q8⟩=>?_) fun _ _ z=>fex _ _ _ _ z
      have kept:∀{σ9:St} {H9:Hp} {s9:Shared},Inv (cxComp X scope cl x ix G2.objs.size fp s2 H2) ([(s2.heap.objs.size,{ cls:= .type "list",data:= .seq its.toArray kk })] ++ pinsAt fp s6.heap) σ9 H9 s9→
          s9.heap.get? s2.heap.objs.size = some { cls:= .type "list",data:= .seq its.toArray kk }∧H9 s2.heap.objs.size = none∧tn (i + 1) s9.heap∧∀b∈fp,H9 b = none:=fun {σ9 H9 s9} I9=>by
        have p0:=I9.pin (s2.heap.objs.size,{ cls:= .type "list",data:= .seq its.toArray kk }) (List.mem_append_right _ (List.mem_append_left _ (List.mem_singleton.mpr rfl)))
        refine⟨p0.1,p0.2.1,T.keep _ _ _ st6 fun b hb o e=>(I9.pin (b,o) (List.mem_append_right _ (List.mem_append_right _ (fX hb e)))).1,fun b hb=>?_⟩
        obtain⟨o,e,d⟩:=T.obj _ _ st6 b hb
        exact(I9.pin (b,o) (List.mem_append_right _ (List.mem_append_right _ (fX hb e)))).2.1
      have back:∀{pl:List (Addr×Obj)} {H9:Hp} {s9:Shared},Inv (cxComp X scope cl x ix G2.objs.size fp s2 H2) pl (some y :: subS σ ix) H9 s9→Inv (cxComp X scope cl x ix G2.objs.size fp s2 H2) [] (none :: subS σ ix) H9 s9:=fun {pl H9 s9} I9=>
        (I9.weak (σ':=none :: subS σ ix) rfl fun j v e=>by
          cases j with
          | zero=>cases (show none = some v from Option.some.inj e)
          | succ j=>exact e).pins_of fun p hp=>nomatch hp
      cases ok with
      | true=>
        rw [if_pos rfl] at q8 ⊢
        refine wpAny_mono (he _ _ _ _ at0 _ s8 (some y :: subS σ ix) H8 _ I8 q8) (fun yv s9 ⟨yy,H9,I9,r9,n9⟩=>?_) fun _ _ z=>fex _ _ _ _ z
        obtain⟨m',hm',w9⟩:=hN _ _ n9
        obtain⟨kD,kn,kt,kf⟩:=kept I9
        refine append_at (hsz:=by rw [List.size_toArray];omega) kD fun h10 hs10 hD10=>?_
        have neD:∀b u,H9 b = some u→b≠s2.heap.objs.size:=fun b u e z=>by rw [z,kn] at e;cases e
        have I9':=back I9
        have cellne:∀y c,cl.lookup y = some c→c≠s2.heap.objs.size:=fun y c e z=>by
          obtain⟨v,oc,hoc,_⟩:=I2.cell y c (S.look e)
          exact absurd (Heap.lt_size hoc) (by rw [z];exact Nat.lt_irrefl _)
        have I10:Inv (cxComp X scope cl x ix G2.objs.size fp s2 H2) [] (none :: subS σ ix) H9 { s9 with heap:=h10 }:=I9'.turned (t':=s9.toks) (it:=s2.heap.objs.size) (fun b o hb e=>hs10.extBut b o hb e) kn hDC (.inr (Nat.le_refl _)) cellne fun p hp=>absurd (show p∈([]:List (Addr×Obj)) from hp) (by simp)
        refine⟨m',hm',i + 1,ys ++ [yy],H9,I10,kn,⟨its ++ [yv],kk + 1,rv.append (.cons r9 .nil),?_⟩,T.keep _ _ _ kt fun b hb o e=>hs10.extBut b o (below b (hfl b hb)).2 e,kf,w9⟩
        refine hD10.trans (congrArg some ?_)
        simp
      | false=>
        rw [if_neg Bool.false_ne_true] at q8 ⊢
        obtain⟨m',hm',w9⟩:=hN _ _ q8
        obtain⟨kD,kn,kt,kf⟩:=kept I8
        exact⟨m',hm',i + 1,ys,H8,back I8,kn,⟨its,kk,rv,kD⟩,kt,kf,w9⟩
  exact codeAny_compStart_list (loop _ rfl) (T.self _ 0 _ _ _ st1 (loop _ rfl))
def closFrom (env:Env):List (Str×NameKind)→List (Str×Addr)→List (Str×Addr)
 | [],cs=>cs
 | (n,k) :: r,cs=>closFrom env r (if k == .free then (n,(env.cells.lookup n).getD 0) :: cs else cs)
theorem oO {env:Env}:∀(names:List (Str×NameKind)) (cs:List (Str×Addr)),(∀y∈names,y.2 = .free→∃c,env.cells.lookup y.1 = some c)→
    (forIn names cs fun (p:Str×NameKind) (r:List (Str×Addr))=>match p with | (name,kind)=>if (kind == .free) = true then do let c←cellOf env name;pure (ForInStep.yield ((name,c) :: r)) else pure (ForInStep.yield r):Sem (List (Str×Addr))) = pure (closFrom env names cs)
  | [],cs,_=>rfl
  | (n, k) :: r,cs,h=>by
    rw [List.forIn_cons]
    cases hk:k == NameKind.free with
    | true=>
      obtain⟨c,hc⟩:=h (n,k) List.mem_cons_self (eq_of_beq hk)
      have e1:cellOf env n = pure c:=by unfold cellOf;rw [hc]
      have e2:closFrom env ((n,k) :: r) cs = closFrom env r ((n,c) :: cs):=by
        show closFrom env r (if (k == .free) = true then (n,(env.cells.lookup n).getD 0) :: cs else cs) = _
        rw [hk,if_pos rfl,hc];rfl
      rw [e2,←oO r ((n,c) :: cs) fun y hy=>h y (List.mem_cons_of_mem _ hy)]
      dsimp only
      rw [if_pos hk,e1]
      rfl
    | false=>
      have e2:closFrom env ((n,k) :: r) cs = closFrom env r cs:=by
        show closFrom env r (if (k == .free) = true then (n,(env.cells.lookup n).getD 0) :: cs else cs) = _
        rw [hk,if_neg Bool.false_ne_true]
      rw [e2,←oO r cs fun y hy=>h y (List.mem_cons_of_mem _ hy)]
      dsimp only
      rw [if_neg (by rw [hk];exact Bool.false_ne_true)]
      rfl
theorem iW {env:Env} {y:Str×Addr}:∀(names:List (Str×NameKind)) (cs:List (Str×Addr)),y∈closFrom env names cs→y∈cs∨∃k∈names,k.2 = .free∧k.1 = y.1∧y.2 = (env.cells.lookup y.1).getD 0
 | [],cs,h=> .inl h
 | (n, k) :: r,cs,h=>by
  rcases iW r _ h with z | ⟨p,hp,e⟩
  ·cases hk:k == NameKind.free with
   | true=>
    rw [hk,if_pos rfl] at z
    rcases List.mem_cons.mp z with z | z
    ·exact .inr ⟨(n,k),List.mem_cons_self,eq_of_beq hk,by rw [z],by rw [z]⟩
    ·exact .inl z
   | false=>
    rw [hk,if_neg Bool.false_ne_true] at z
    exact .inl z
  ·exact .inr ⟨p,List.mem_cons_of_mem _ hp,e⟩
theorem eZ {y:Str} {c:Addr}:∀{l:List (Str×Addr)},(y,c)∈l→∃d,l.lookup y = some d
 | [],h=>by simp at h
 | (n, d) :: r,h=>by
  rw [List.lookup_cons]
  cases e:y == n with
  | true=>exact⟨d,rfl⟩
  | false=>
   rcases List.mem_cons.mp h with z | z
   ·have:y = n:=(Prod.mk.inj z).1
    rw [this,beq_self_eq_true] at e;cases e
   ·exact eZ z
theorem iM {env:Env} {y:Str}:∀(names:List (Str×NameKind)) (cs:List (Str×Addr)),((y,NameKind.free)∈names∨∃c,(y,c)∈cs)→∃c,(y,c)∈closFrom env names cs
 | [],cs,h=>by
  rcases h with h | h
  ·simp at h
  ·exact h
 | (n, k) :: r,cs,h=>by
  refine iM r _ ?_
  rcases h with h | ⟨c,h⟩
  ·rcases List.mem_cons.mp h with z | z
   ·obtain⟨e1,e2⟩:=Prod.mk.inj z
    subst e1 e2
    exact .inr ⟨(env.cells.lookup y).getD 0,by rw [if_pos (beq_self_eq_true _)];exact List.mem_cons_self⟩
   ·exact .inl z
  ·refine .inr ⟨c,?_⟩
   split
   ·exact List.mem_cons_of_mem _ h
   ·exact h
def compOk (scope:Scope) (env:Env) (x:Str):Bool:=scope.names.all fun y=>(y.2 != .local || ((y.1 == x || y.1 == ".0") && scope.names.lookup y.1 == some .local)) && y.2 != .cell && (y.2 != .free || env.kindOf y.1 == some .cell || env.kindOf y.1 == some .free)
theorem iV (ok:X.Ok) (hk:scope.kind = .function) (hx:scope.names.lookup x = some .local) (hall:compOk scope X.env x = true) (nd:((".0":Str) :: x :: subN X.N ix).Nodup):CompScope X scope (closFrom X.env scope.names []) x ix:=by
 have all:∀y∈scope.names,(y.2 = .local→(y.1 = x∨y.1 = ".0")∧scope.names.lookup y.1 = some .local)∧y.2≠ .cell∧(y.2 = .free→(X.env.kindOf y.1 = some .cell∨X.env.kindOf y.1 = some .free)):=fun y hy=>by
  have z:=List.all_eq_true.mp hall y hy
  simp only [Bool.and_eq_true,Bool.or_eq_true,bne_iff_ne,beq_iff_eq,ne_eq] at z
  refine⟨fun e=>z.1.1.resolve_left fun q=>q e,z.1.2,fun e=>?_⟩
  rcases z.2 with (q | q) | q
  ·exact absurd e q
  ·exact .inl q
  ·exact .inr q
 have cells:∀y∈scope.names,y.2 = .free→∃c,X.env.cells.lookup y.1 = some c:=fun y hy e=>ok.has y.1 ((all y hy).2.2 e)
 refine⟨?_,hk,hx,fun y hy e=>((all y hy).1 e).1,fun y hy e=>((all y hy).1 e).2,fun y hy=>(all y hy).2.1,fun y hy=>(all y hy).2.2,fun y hy e=>?_,fun y hy=>?_,nd⟩
 ·have q:=oO scope.names [] cells
  unfold closureFor
  have q2:(forIn scope.names [] fun (p:Str×NameKind) (r:List (Str×Addr))=>match p with | (name,kind)=>if (kind == .free) = true then do let c←cellOf X.env name;pure (ForInStep.yield ((name,c) :: r)) else pure (ForInStep.yield r):Sem (List (Str×Addr))) >>= (fun cs=>pure cs) = pure (closFrom X.env scope.names []):=by
   rw [q];rfl
  exact q2
 ·obtain⟨n,k⟩:=y
  have e':k = .free:=e
  subst e'
  obtain⟨c,hc⟩:=iM (env:=X.env) scope.names [] (.inl hy)
  exact eZ hc
 ·rcases iW scope.names [] hy with z | ⟨p,hp,e1,e2,e3⟩
  ·simp at z
  ·obtain⟨c,hc⟩:=cells p hp e1
   rw [e2] at hc
   rw [e3,hc];rfl
theorem gM (hc:X.calm = true) (hi:PI X (.Name x px) iter wi) (ht:∀C fp s H,CompAt X C fp s H→PTs (cxComp X scope (closFrom X.env scope.names []) x ix C fp s H) ifs tt) (he:∀C fp s H,CompAt X C fp s H→PE (cxComp X scope (closFrom X.env scope.names []) x ix C fp s H) elt te)
    (hk:scope.kind = .function) (hx:scope.names.lookup x = some .local) (hall:compOk scope X.env x = true) (nd:((".0":Str) :: x :: subN X.N ix).Nodup)
    (hs:∀x,foldedSetIterable iter X.env x = pure x:=by intro _;rfl):PE X (.ListComp elt [⟨.Name x px,iter,ifs,0⟩] scope pos) (tComp ix wi tt te):=by
  intro pins s σ H Q I h
  have S:CompScope X scope (closFrom X.env scope.names []) x ix:=iV I.ok hk hx hall nd
  rw [eval_ListComp]
  refine wpAny_comprehension_free (use:=none) rfl hs S.clos S.kind S.locs (thn (hi pins s σ H _ I h) fun v s1 h1=>thn h1 fun itv s2 h2=>?_)
  refine lW S hc ht he h2 (fun D C H' s' m J hn hCn hCle hp hL hcl hs0 q=>?_) fun D C e s' z=>z
  exact⟨m,hn,fun h' sb=>⟨.ref D,H',J.turned (t':=s'.toks) (fun b o hb e=>sb.extBut b o hb e) hCn (Ne.symm hL) (.inr hs0) hcl hp,rfl,q⟩⟩
theorem qZ {j:Nat} {y:Str} {py spos:Pos} (hN:X.N.Nodup) (hj:X.N[j]? = some y) (hy:X.env.scope.names.lookup y = some .local) (hc:X.calm = true) (hi:PI X (.Name x px) iter wi)
    (ht:∀C fp s H,CompAt X C fp s H→PTs (cxComp X scope (closFrom X.env scope.names []) x ix C fp s H) ifs tt) (he:∀C fp s H,CompAt X C fp s H→PE (cxComp X scope (closFrom X.env scope.names []) x ix C fp s H) elt te)
    (hk:scope.kind = .function) (hx:scope.names.lookup x = some .local) (hall:compOk scope X.env x = true) (nd:((".0":Str) :: x :: subN X.N ix).Nodup)
    (hsw:swapsWith (.ListComp elt [⟨.Name x px,iter,ifs,0⟩] scope pos) (some (.Name y py)) spos.line X.env = pure true:=by rfl) (hs:∀x,foldedSetIterable iter X.env x = pure x:=by intro _;rfl) :
    PS X (.Assign [.Name y py] (.ListComp elt [⟨.Name x px,iter,ifs,0⟩] scope pos) spos) (tAsg (tComp ix wi tt te) (gName j)):=by
  intro pins s σ H D I h
  have S:CompScope X scope (closFrom X.env scope.names []) x ix:=iV I.ok hk hx hall nd
  rw [exec_Assign_Name_used _ _ _ _ hsw]
  refine wpAny_bind (wpAny_standAt (wpAny_bind ?_))
  show wpAny _ _ (do let _←comprehension (.ListComp elt [⟨.Name x px,iter,ifs,0⟩] scope pos) scope X.env _ (newList []) false (eval iter X.env) (some (assign (.Name y py) X.env))) _ _ s
  refine wpAny_bind (wpAny_mono (wpAny_comprehension_free (use:=some (assign (.Name y py) X.env)) (Q:=fun _ s'=>SP X pins D .next s') rfl hs S.clos S.kind S.locs
    (thn (hi pins s σ H _ I h) fun v s1 h1=>thn h1 fun itv s2 h2=>?_)) (fun _ s' hq=>wpAny_pure (wpAny_pure hq)) fun _ _ e=>e)
  refine lW (Q:=fun v H1=>D.nx (σ.set j (some v)) H1) S hc ht he h2 (fun D' C H' s' m J hn hCn hCle hp hL hcl hs0 q=>?_) fun D' C e s' z=>z
  show wpAny _ _ (assign (.Name y py) X.env (.ref D')) _ _ _
  refine wpAny_assign_Name (mQ J hN hj (.inl hy) (v:= .ref D') rfl (fun s'' J' ⟨a,sb,ha⟩=>?_) (.inr hy))
  have hCa:C≠a:=by
    rcases ha with e | e
    · rw [e];exact Ne.symm hL
    · exact Ne.symm (hcl y a e)
  exact⟨m,hn.sameBut sb hCa,fun h' sb'=>⟨σ.set j (some (.ref D')),H',J'.turned (t':=s''.toks) (fun b o hb e=>sb'.extBut b o hb e) hCn (Ne.symm hL) (.inr hs0) hcl hp,q⟩⟩
end
theorem gB {lo:Int} {n:Nat} {tt:TT} {te:TE} {σc:V→St} {H:Hp} {Q:VK} (Pv:Nat→List V→Hp→Prop) (hn:∀i ys H,i≤n→Pv i ys H→ys.length < sizeLine) (h0:Pv 0 [] H)
    (hs:∀i ys H,i < n→Pv i ys H→tt (σc (.int (lo + i))) H fun b H3=>if b = true then te (σc (.int (lo + i))) H3 fun y H4=>Pv (i + 1) (ys ++ [y]) H4 else Pv (i + 1) ys H3)
    (hd:∀ys H,Pv n ys H→∀p,H p = none→Q (.ref p) (upd H p (.lst ys))):cWord (Itr lo n) tt te σc H Q:=by
  refine⟨fun i m ys H=>m = n - i∧i≤n∧Pv i ys H,⟨n,by simp,Nat.zero_le _,h0⟩,?_⟩
  rintro i m ys H ⟨rfl,hi,p⟩
  refine⟨hn i ys H hi p,?_⟩
  by_cases hlt:i < n
  · refine .inr ⟨hlt,Pv (i + 1),fun ys' H' q=>⟨n - (i + 1),by omega,rfl,hlt,q⟩,fun x H' y=>?_⟩
    obtain⟨e,y⟩:=y
    subst e y
    exact hs i ys _ hlt p
  · have e:i = n:=by omega
    subst e
    exact .inl ⟨Nat.le_refl _,hd ys H p⟩
theorem jL {K:PySem.W.Frag} {a:Addr} {xs:List V} {tt:TT} {te:TE} {σc:V→St} {H:Hp} {Q:VK} (Pv:Nat→List V→Hp→Prop) (hn:∀i ys H,i≤xs.length→Pv i ys H→ys.length < sizeLine) (h0:Pv 0 [] H)
    (hl:∀i ys H,i≤xs.length→Pv i ys H→SqL K H a xs)
    (hs:∀i x ys H,xs[i]? = some x→Pv i ys H→tt (σc x) H fun b H3=>if b = true then te (σc x) H3 fun y H4=>Pv (i + 1) (ys ++ [y]) H4 else Pv (i + 1) ys H3)
    (hd:∀ys H,Pv xs.length ys H→∀p,H p = none→Q (.ref p) (upd H p (.lst ys))):cWord (Itl K a) tt te σc H Q:=by
  refine⟨fun i m ys H=>m = xs.length - i∧i≤xs.length∧Pv i ys H,⟨xs.length,by simp,Nat.zero_le _,h0⟩,?_⟩
  rintro i m ys H ⟨rfl,hi,p⟩
  have q:=hl i ys H hi p
  refine⟨hn i ys H hi p,?_⟩
  by_cases hlt:i < xs.length
  · refine .inr ⟨⟨xs,xs[i],q,by simp [hlt]⟩,Pv (i + 1),fun ys' H' q=>⟨xs.length - (i + 1),by omega,rfl,hlt,q⟩,fun x H' y=>?_⟩
    obtain⟨e,y⟩:=y
    subst e
    exact hs i x ys _ (y xs q) p
  · have e:i = xs.length:=by omega
    subst e
    exact .inl ⟨⟨xs,q,Nat.le_refl _⟩,hd ys H p⟩
end L2
namespace L2
open PySem PySem.Spec PyProof.Rows PySem.W PySem.Builtin PySem.Builtin.ObjectAttr PySem.Builtin.Getset_descriptor
section
variable {prog:Program} {w:World} {A:Around} {E:Value→Shared→Prop} {K:PySem.W.Frag} {a C:Addr}
structure ExcC (K:PySem.W.Frag) (C:Addr):Prop where
 cd:(PySem.W.clsIn K C).isSome = true
 ga:PySem.W.findIn K (.ref C) "__getattribute__" = some (some (.builtin "BaseException.__getattribute__"))
 hk:PySem.W.findIn K (.ref C) "__getattr__" = some none
 cl:PySem.W.findIn K (.ref C) "__class__" = some (some (.builtin "object.__class__"))
 gt:PySem.W.specialIn K (.builtin "object.__class__") "__get__" = some (some (.builtin "getset_descriptor.__get__"))
 tk:PySem.W.takesIn K (.builtin "object.__class__") = some true
 ob:PySem.W.mroIn K C (.type "object") = some true
 ba:PySem.W.mroIn K C (.type "BaseException") = some true
end
section
variable {X:Cx}
end
end L2
namespace L2
open PySem PySem.Spec PyProof.Rows
mutual
inductive DV (K:PySem.W.Frag) (H:Hp):V→PyData→Prop
 | non:DV K H .non .none
 | bl (b:Bool):DV K H (.bl b) (.bool b)
 | int (i:Int):DV K H (.int i) (.int i)
 | str (x:Str):DV K H (.str x) (.str x)
 | lst {a:Addr} {xs:List V} {ds:List PyData}:SqL K H a xs→DVs K H xs ds→DV K H (.ref a) (.list ds)
 | tup {a:Addr} {xs:List V} {ds:List PyData}:SqT K H a xs→DVs K H xs ds→DV K H (.ref a) (.tuple ds)
inductive DVs (K:PySem.W.Frag) (H:Hp):List V→List PyData→Prop
 | nil:DVs K H [] []
 | cons {x:V} {xs:List V} {d:PyData} {ds:List PyData}:DV K H x d→DVs K H xs ds→DVs K H (x :: xs) (d :: ds)
end
theorem DVs.ints {K:PySem.W.Frag} {H:Hp}:∀ns:List Int,DVs K H (ns.map V.int) (ns.map PyData.int)
 | []=> .nil
 | n :: r=> .cons (.int n) (DVs.ints r)
theorem DV.ints {K:PySem.W.Frag} {H:Hp} {a:Addr} {ns:List Int} (h:SqL K H a (ns.map V.int)):DV K H (.ref a) (.list (ns.map .int)):= .lst h (DVs.ints ns)
section
variable {X:Cx} {pins:List (Addr×Obj)} {σ:St} {H:Hp} {s:Shared}
mutual
theorem Inv.reads (I:Inv X pins σ H s):∀{x:V} {d:PyData} {u:Value},DV X.K H x d→RelV x u→∃as,Reads s.heap u d as
 | _,_,_,.non,r=>by cases r;exact⟨_,Reads.none⟩
 | _,_,_,.bl b,r=>by cases r;exact⟨_,Reads.bool b⟩
 | _,_,_,.int i,r=>by obtain⟨t,rfl⟩:=r;exact⟨_,Reads.int i t⟩
 | _,_,_,.str x,r=>by obtain⟨t,rfl⟩:=r;exact⟨_,Reads.str x t⟩
 | _,_,_,.lst h r,rr=>by
  cases rr
  obtain⟨its,rv,⟨o,n,e,c,_,dt⟩,_⟩:=I.list h
  obtain⟨as,q⟩:=Inv.readsAll I r rv
  exact⟨_,reads_list_at e c dt (by simpa using q)⟩
 | _,_,_,.tup h r,rr=>by
  cases rr
  obtain⟨its,rv,⟨o,e,c,n,dt⟩,_⟩:=I.tuple h
  obtain⟨as,q⟩:=Inv.readsAll I r rv
  exact⟨_,reads_tuple_at e c dt (by simpa using q)⟩
theorem Inv.readsAll (I:Inv X pins σ H s):∀{xs:List V} {ds:List PyData} {us:List Value},DVs X.K H xs ds→Vals xs us→∃as,ReadsAll s.heap us ds as
 | _,_,_,.nil,.nil=>⟨_,ReadsAll.nil⟩
 | _,_,_,.cons h r,.cons q p=>by
  obtain⟨as,q1⟩:=Inv.reads I h q
  obtain⟨bs,q2⟩:=Inv.readsAll I r p
  exact⟨_,ReadsAll.cons q1 q2⟩
end
end
section
variable {X:Cx}
theorem a2P (hu:X.A.units + 64 < cLine):OpR X (compareOp .Eq) (fun x y H Q=>∃d e,DV X.K H x d∧DV X.K H y e∧SeqAt.shaped d = true∧SeqAt.shaped e = true∧Q (.bl (PyData.eqv d e)) H):=by
 intro pins s σ H x y v u Q I rx ry h
 obtain⟨d,e,hd,he,sd,se,q⟩:=h
 obtain⟨as,ra⟩:=I.reads hd rx
 obtain⟨bs,rb⟩:=I.reads he ry
 exact eq_dataH ra rb sd se hu ⟨.bl _,H,I,rfl,q⟩
theorem vJ (hu:X.A.units + 64 < cLine):OpR X (compareOp .Eq) (fun x y H Q=>∃d,DV X.K H x d∧DV X.K H y d∧SeqAt.shaped d = true∧Q (.bl true) H):=(a2P hu).imp fun x y H Q ⟨d,h1,h2,h3,q⟩=>⟨d,d,h1,h2,h3,h3,by rw [SeqAt.eqv_refl d (SeqAt.canLay_of_shaped h3)];exact q⟩
def mEqL (K:PySem.W.Frag):R2:=fun x y H Q=>vR x fun a=>vR y fun b=>∃ns ms:List Int,SqL K H a (ns.map V.int)∧SqL K H b (ms.map V.int)∧Q (.bl (decide (ns = ms))) H
def mNeL (K:PySem.W.Frag):R2:=fun x y H Q=>vR x fun a=>vR y fun b=>∃ns ms:List Int,SqL K H a (ns.map V.int)∧SqL K H b (ms.map V.int)∧Q (.bl (!decide (ns = ms))) H
theorem vK (hu:X.A.units + 64 < cLine):OpR X (compareOp .Eq) (mEqL X.K):=by
 intro pins s σ H x y v u Q I rx ry h
 obtain⟨a,rfl,hh⟩:=vR.ex h
 clear h
 obtain⟨b,rfl,ns,ms,h1,h2,q⟩:=vR.ex hh
 cases rx;cases ry
 obtain⟨its,rv,pl,_⟩:=I.list h1
 obtain⟨jts,rw',pl',_⟩:=I.list h2
 exact PySem.W.eq_intsK pl.isList (intsAre_of rv) pl'.isList (intsAre_of rw') hu ⟨.bl _,H,I,rfl,q⟩
theorem a2O (hu:X.A.units + 64 < cLine):OpR X (compareOp .NotEq) (mNeL X.K):=by
 intro pins s σ H x y v u Q I rx ry h
 obtain⟨a,rfl,hh⟩:=vR.ex h
 clear h
 obtain⟨b,rfl,ns,ms,h1,h2,q⟩:=vR.ex hh
 cases rx;cases ry
 obtain⟨its,rv,pl,_⟩:=I.list h1
 obtain⟨jts,rw',pl',_⟩:=I.list h2
 exact PySem.W.ne_intsK pl.isList (intsAre_of rv) pl'.isList (intsAre_of rw') hu ⟨.bl _,H,I,rfl,q⟩
end
theorem yZ {ds:List PyData} (h:∀d∈ds,d.canLay0 = true∧d.depth≤60):SeqAt.shaped (.list ds) = true:=by
 have all:∀ds:List PyData,(∀d∈ds,d.canLay0 = true∧d.depth≤60)→PyData.canLayAll0 ds = true∧PyData.depthAll ds≤60:=by
  intro ds
  induction ds with
  | nil=>intro _;simp [PyData.canLayAll0,PyData.depthAll]
  | cons d r ih=>
   intro h
   have h1:=h d List.mem_cons_self
   have h2:=ih fun z hz=>h z (List.mem_cons_of_mem _ hz)
   simp only [PyData.canLayAll0,PyData.depthAll,h1.1,h2.1,Bool.and_self,true_and]
   have:=h1.2;have:=h2.2;omega
 have z:=all ds h
 unfold SeqAt.shaped
 rw [Bool.and_eq_true]
 refine⟨by simp only [PyData.canLay0];exact z.1,decide_eq_true ?_⟩
 simp only [PyData.depth]
 have:=z.2;omega
theorem lay_ints (ns:List Int):(PyData.list (ns.map .int)).canLay0 = true∧(PyData.list (ns.map .int)).depth≤60:=by
 refine⟨by simp only [PyData.canLay0];exact PySem.W.canLayAll0_ints ns,?_⟩
 have:=PySem.W.depthAll_ints ns
 simp only [PyData.depth];omega
end L2
namespace L2
open PySem PySem.Spec PyProof.Rows
section
variable {X:Cx}
def mSum (K:PySem.W.Frag):List V→Hp→VK→Prop:=fun xs H Q=>l1 xs fun x=>vR x fun p=>∃ns:List Int,SqL K H p (ns.map V.int)∧Q (.int ns.sum) H
def mBest (K:PySem.W.Frag) (lt:Int→Int→Prop):List V→Hp→VK→Prop:=fun xs H Q=>l1 xs fun x=>vR x fun p=>∃ns:List Int,SqL K H p (ns.map V.int)∧ns≠ []∧∀m,m∈ns→(∀z∈ns,lt m z)→Q (.int m) H
def mCat:R2:=fun x y H Q=>vR x fun l=>vR y fun b=>∃xs zs,H l = some (.lst xs)∧H b = some (.lst zs)∧xs.length + zs.length≤sizeLine∧∀p,H p = none→Q (.ref p) (upd H p (.lst (xs ++ zs)))
theorem eX:OpR X (binaryOp .Add) mCat:=a1R.imp fun x y H Q h=>by
 obtain⟨l,rfl,hh⟩:=vR.ex h
 clear h
 obtain⟨b,rfl,xs,zs,h1,h2,h3,h4⟩:=vR.ex hh
 exact⟨l,b,xs,zs,rfl,rfl,h1,h2,h3,h4⟩
end
theorem a0E {bs:List Int} {a n:Nat} (h:a + n≤bs.length):cutV (bs.map V.int) (some (a:Int)) (some ((a + n:Nat):Int)) = ((bs.drop a).take n).map V.int:=by
 unfold cutV
 rw [HT.sIx_nat,HT.sIx_nat,List.length_map,Nat.min_eq_left (by omega),Nat.min_eq_left (by omega),Nat.add_sub_cancel_left,List.map_take,List.map_drop]
end L2
namespace L2
open PySem PySem.Spec PyProof.Rows
def l3 (vs:List V) (k:V→V→V→Prop):Prop:=@List.rec V (fun _=>Prop) False (fun x r _=>l2 r fun y z=>k x y z) vs
def Itrc (lo c:Int) (n:Nat):It:=⟨fun i _=>i < n,fun i H x H'=>H' = H∧x = .int (lo + i * c),fun i _=>n≤i⟩
section
variable {X:Cx} {tg:Expr}
def dRng3 (ta:TA):TI:=fun σ H R=>ta σ H fun vs H1=>l3 vs fun x y z=>vI x fun i=>vI y fun j=>vI z fun c=>c≠0∧Builtin.divisionGoesByPylong (j - i) c = false∧∃n:Nat,Builtin.Range.small i j c = true∧Builtin.Range.rangeSize i j c = (n:Int)∧R (Itrc i c n) H1
end
section
variable {X:Cx}
def kinds (ns:List Int):Nat:=(firstMet (fun i=>ns.getD i 0) ns.length).length
def mSetOf (K:PySem.W.Frag):List V→Hp→VK→Prop:=fun xs H Q=>l1 xs fun x=>vR x fun p=>∃ns:List Int,SqL K H p (ns.map V.int)∧ns.length≤1000∧∀l S,H l = none→Q (.ref l) (upd H l (.set S (kinds ns)))
def mLenSet:List V→Hp→VK→Prop:=fun xs H Q=>l1 xs fun x=>vR x fun p=>∃S n,H p = some (.set S n)∧Q (.int (n:Nat)) H
end
end L2
namespace L2
open PySem PySem.Spec PyProof.Rows
section
variable {X:Cx} {a b c:Expr} {ta tb tc:TE} {pos:Pos}
def dChain (r r':R2) (ta tb tc:TE):TE:=fun σ H Q=>ta σ H fun x H1=>tb σ H1 fun y H2=>r x y H2 fun z H3=>vB z fun k=>if k = true then tc σ H3 fun u H4=>r' y u H4 Q else Q (.bl false) H3
theorem uR (r r':R2) (ta tb tc:TE):dChain r r' ta tb tc = tChain r r' ta tb tc:=by
 funext σ H Q
 unfold dChain tChain
 simp only [lC]
theorem pR {op op':CmpOp} {r r':R2} (ho:OpR X (compareOp op) r) (ho':OpR X (compareOp op') r') (ha:PE X a ta) (hb:PE X b tb) (hc:PE X c tc)
    (hm:lastMarks [op,op'] [b,c] = false:=by with_unfolding_all rfl):PE X (.Compare a [op,op'] [b,c] pos) (dChain r r' ta tb tc):=by
  rw [uR];exact wK ho ho' ha hb hc hm
theorem qD (z:Int):∀ns:List Int,inV (.int z) (ns.map V.int) = decide (z∈ns)∧(ns.map V.int).all flatV = true
 | []=>⟨rfl,rfl⟩
 | n :: r=>by
  have ih:=qD z r
  refine⟨?_,?_⟩
  ·unfold inV at ih ⊢
   rw [List.map_cons,List.any_cons,ih.1]
   show ((n == z) || decide (z∈r)) = decide (z∈n :: r)
   rw [Bool.eq_iff_iff]
   simp only [Bool.or_eq_true,beq_iff_eq,decide_eq_true_iff,List.mem_cons]
   exact⟨fun h=>h.imp Eq.symm id,fun h=>h.imp Eq.symm id⟩
  ·rw [List.map_cons,List.all_cons,ih.2];rfl
def mInI (K:PySem.W.Frag) (f:Bool→Bool):R2:=fun x y H Q=>vI x fun z=>vR y fun p=>∃ns:List Int,SqA K H p (ns.map V.int)∧Q (.bl (f (decide (z∈ns)))) H
theorem vA:OpR X (compareOp .NotIn) (mInI X.K not):=nW.imp fun x y H Q h=>by
 obtain⟨z,rfl,hh⟩:=vI.ex h
 clear h
 obtain⟨p,rfl,ns,h1,q⟩:=vR.ex hh
 have e:=qD z ns
 exact⟨p,_,rfl,h1,rfl,e.2,by show Q (.bl (!inV (.int z) (ns.map V.int))) H;rw [e.1];exact q⟩
end
end L2
namespace L2
open PySem PySem.Spec PyProof.Rows
section
variable {X:Cx} {K:PySem.W.Frag}
theorem a1A (hK:X.K = K:=by rfl):IxR X (mIxL K):=by subst hK;exact bC
theorem vD (hK:X.K = K:=by rfl):IxR X (mIxT K):=by subst hK;exact dF
theorem tL (hK:X.K = K:=by rfl):CallR X (.type "list") (mListOf K):=by subst hK;exact fO
theorem uY (hK:X.K = K:=by rfl):SlR X (mSlL K):=by subst hK;exact fM
end
end L2
namespace L2
open PySem PySem.Spec PyProof.Rows
theorem a2H:bootBuiltins "all" = some (.builtin "all"):=by decide +kernel
section
variable {X:Cx}
def mRep:R2:=fun x y H Q=>vR x fun l=>vI y fun k=>∃xs,H l = some (.lst xs)∧(-(2 ^ 63)≤k∧k < 2 ^ 63)∧xs.length * k.toNat≤sizeLine∧∀p,H p = none→Q (.ref p) (upd H p (.lst (List.replicate k.toNat xs).flatten))
theorem gD:OpR X (binaryOp .Mult) mRep:=a1P.imp fun x y H Q h=>by
 obtain⟨l,rfl,h⟩:=vR.ex h
 obtain⟨k,rfl,xs,h1,h2,h3,h4⟩:=vI.ex h
 exact⟨l,k,xs,rfl,rfl,h1,h2.1,h2.2,h3,h4⟩
def mInt:List V→Hp→VK→Prop:=fun xs H Q=>l1 xs fun x=>@V.rec (fun _=>Prop) False (fun b=>Q (.int (if b then 1 else 0)) H) (fun i=>Q (.int i) H) (fun _=>False) (fun _=>False) (fun _=>False) (fun _=>False) (fun _=>False) x
theorem vG:CallR X (.type "int") mInt:=uX.imp fun xs H Q h=>by
 obtain⟨x,rfl,h⟩:=l1.ex h
 cases x with
 | int i=>exact .inl ⟨i,rfl,h⟩
 | bl b=>exact .inr ⟨b,rfl,h⟩
 | _=>exact h.elim
def mIsB:R2:=fun x y H Q=>vB x fun b=>vB y fun c=>Q (.bl (b == c)) H
section
variable {o e:Expr} {es:List Expr} {to:TE} {t:TA} {apos cpos:Pos}
def dExtend (to:TE) (t:TA):TE:=fun σ H Q=>to σ H fun x H1=>vR x fun l=>(∃xs,H1 l = some (.lst xs))∧t σ H1 fun vs H2=>l1 vs fun y=>vR y fun b=>∃xs zs,H2 l = some (.lst xs)∧H2 b = some (.lst zs)∧xs.length + zs.length≤sizeLine∧Q .non (upd H2 l (.lst (xs ++ zs)))
theorem uC (ho:PE X o to) (ha:PA X [e] t) (hbase:attributeBase o "extend" X.env (eval o X.env) = eval o X.env:=by rfl)
    (hfew:((backTo cpos (starEach [e] X.env)).all (fun x=>!x.1) && (backToKw cpos (keywordEach [] X.env)).all (fun x=>x.1.isSome)
      && decide (([e]:List Expr).length + ([]:List Keyword).length + (if ([]:List Keyword).isEmpty then 0 else 1) < 30)) = true:=by rfl)
    (hline:(apos.endLine == cpos.line) = true:=by rfl) (hs:starEach [e] X.env = (false,eval e X.env) :: starEach [] X.env:=by rfl) (hplain:(backTo cpos (starEach [] X.env)).any (·.1) = false:=by rfl) :
    PE X (.Call (.Attribute o "extend" apos) [e] [] cpos) (dExtend to t):=
  (rZ PySem.F.plainAttrs_list PySem.F.slot_list_extend PySem.F.type_list_extend tZ (cB ho) (jD ha) hbase hfew hline hs hplain).imp fun σ H Q h=>⟨_,h,fun x H1 q=>by
    obtain⟨l,rfl,⟨xs,q1⟩,q2⟩:=vR.ex q
    refine⟨.inl ⟨rfl,xs,SqL.of q1⟩,_,q2,fun vs H2 q3=>?_⟩
    obtain⟨y,rfl,q3⟩:=l1.ex q3
    obtain⟨b,rfl,xs,zs,h1,h2,h3,h4⟩:=vR.ex q3
    exact⟨l,b,xs,zs,rfl,rfl,h1,h2,h3,h4⟩⟩
def dPopAt (to:TE) (t:TA):TE:=fun σ H Q=>to σ H fun x H1=>vR x fun l=>(∃xs,H1 l = some (.lst xs))∧t σ H1 fun vs H2=>l1 vs fun y=>vI y fun i=>∃xs k y,H2 l = some (.lst xs)∧(-(2 ^ 63)≤i∧i < 2 ^ 63)∧seqIndex? i xs.length = some k∧xs[k]? = some y∧Q y (upd H2 l (.lst (xs.eraseIdx k)))
theorem pO (ho:PE X o to) (ha:PA X [e] t) (hbase:attributeBase o "pop" X.env (eval o X.env) = eval o X.env:=by rfl)
    (hfew:((backTo cpos (starEach [e] X.env)).all (fun x=>!x.1) && (backToKw cpos (keywordEach [] X.env)).all (fun x=>x.1.isSome)
      && decide (([e]:List Expr).length + ([]:List Keyword).length + (if ([]:List Keyword).isEmpty then 0 else 1) < 30)) = true:=by rfl)
    (hline:(apos.endLine == cpos.line) = true:=by rfl) (hs:starEach [e] X.env = (false,eval e X.env) :: starEach [] X.env:=by rfl) (hplain:(backTo cpos (starEach [] X.env)).any (·.1) = false:=by rfl) :
    PE X (.Call (.Attribute o "pop" apos) [e] [] cpos) (dPopAt to t):=
  (rZ PySem.F.plainAttrs_list PySem.F.slot_list_pop PySem.F.type_list_pop wX (cB ho) (jD ha) hbase hfew hline hs hplain).imp fun σ H Q h=>⟨_,h,fun x H1 q=>by
    obtain⟨l,rfl,⟨xs,q1⟩,q2⟩:=vR.ex q
    refine⟨.inl ⟨rfl,xs,SqL.of q1⟩,_,q2,fun vs H2 q3=>?_⟩
    obtain⟨y,rfl,q3⟩:=l1.ex q3
    obtain⟨i,rfl,xs,k,y,h1,h2,h3,h4,h5⟩:=vI.ex q3
    exact⟨l,xs,i,k,y,rfl,rfl,h1,h2.1,h2.2,h3,h4,h5⟩⟩
end
theorem lA:∀{bs:List Bool} {us:List Value},Vals (bs.map V.bl) us→us = bs.map Value.bool
 | [],_,.nil=>rfl
 | b :: r,_,.cons h t=>by
  cases (show _ = Value.bool b from h)
  rw [lA t];rfl
def mAll (K:PySem.W.Frag):List V→Hp→VK→Prop:=fun xs H Q=>l1 xs fun x=>vR x fun p=>∃bs:List Bool,SqL K H p (bs.map V.bl)∧Q (.bl (bs.all id)) H
theorem all_range (bs:List Bool):(List.range bs.length).all (fun i=>bs.getD i false) = bs.all id:=by
 have e:(List.range bs.length).map (fun i=>bs.getD i false) = bs:=by
  apply List.ext_getElem
  ·simp
  ·intro i h1 h2
   simp [List.getD_eq_getElem?_getD,h2]
 conv=>rhs;rw [←e,List.all_map]
 rfl
theorem a2Q (hc:X.calm = true):CallR X (.builtin "all") (mAll X.K):=by
 intro pins s σ H xs us Q I r h
 obtain⟨x,rfl,h⟩:=l1.ex h
 obtain⟨p,rfl,bs,hS,q⟩:=vR.ex h
 obtain⟨u,rfl,ru⟩:=vals1 r
 cases ru
 obtain⟨its,rv,pl,_⟩:=I.list hS
 have ei:=lA rv
 subst ei
 have hl:=pl.isList
 have hlt:p < s.heap.objs.size:=by obtain⟨_,e,_⟩:=hl;exact Heap.lt_size e
 refine call_all_walk (wpAny_pyIter_list hl ?_)
 refine⟨_,_,_,_,_,_,fun i=>bs.getD i false,rfl,Walks.list (A:=X.A.in1) (I.ok.hd hc) _ p (Nat.ne_of_lt hlt) _,⟨⟨_,Heap.get?_push_size _ rfl,rfl,rfl⟩,hl.push _⟩,?_,fun h' tk hk=>?_⟩
 ·intro i v s' Q' E' hP hq
  have hv:(bs.map Value.bool)[i]? = some v:=by simpa using hP
  rw [List.getElem?_map] at hv
  obtain⟨b,hb,rfl⟩:=Option.map_eq_some_iff.mp hv
  have:bs.getD i false = b:=by rw [List.getD_eq_getElem?_getD,hb];rfl
  simp only [this] at hq
  exact wpAny_truthy_bool hq
 ·have e:(bs.map Value.bool).toArray.size = bs.length:=by simp
  rw [e,all_range]
  exact⟨.bl _,H,I.kept (old_kept hk),rfl,q⟩
end
end L2
namespace L2
open PySem PySem.Spec PyProof.Rows
section
variable {X:Cx}
abbrev Cx.pinned (X:Cx) (pins0:List (Addr×Obj)):Cx:={ X with pn:=X.pn ++ pins0 }
abbrev Cx.tried (X:Cx) (pins0:List (Addr×Obj)) (σ0:St) (EX:XK):Cx:=(X.pinned pins0).wish fun ev s'=>∃pins H1 s1,Inv (X.pinned pins0) pins σ0 H1 s1∧CXR X.prog X.w X.stack H1 s1 EX ev s'
abbrev TH:=Ends→St→Value→Option Addr→Hp→Prop
def PH (X:Cx) (hs:List ExceptHandler) (th:TH):Prop:=∀(pins:List (Addr×Obj)) (σ:St) (H':Hp) (s5:Shared) (a t:Addr) (cls:Value) (od:Option Addr) (B:Heap) (D:Ends),
 (∀h6,FlyD B X.stack a cls (.ref t) od h6→s5.heap.UpToSlots h6→Inv X pins σ (upd H' a (excO cls a od)) { s5 with heap:=h6 })→FlyD B X.stack a cls (.ref t) od s5.heap→H' a = none→th D σ cls od H'→
 wpAny (model X.prog X.w) X.A (handleBy (.ref a) X.env hs) (SP X pins D) X.xe s5
variable {np hpos pos:Pos} {y n:Str} {C:Addr} {i:Nat} {b₀:Stmt} {suite:List Stmt} {ts:TS} {hs:List ExceptHandler} {th:TH}
def hAs (K:PySem.W.Frag) (C:Addr) (i:Nat) (ts:TS) (th:TH):TH:=fun D σ cls od H'=>(PySem.W.exmOne K cls (.ref C) = some true∧∀a,H' a = none→ts (sufE D i) (σ.set i (some (.ref a))) (upd H' a (excO cls a od)))∨(PySem.W.exmOne K cls (.ref C) = some false∧th D σ cls od H')
def hNo (K:PySem.W.Frag) (C:Addr) (ts:TS) (th:TH):TH:=fun D σ cls od H'=>(PySem.W.exmOne K cls (.ref C) = some true∧∀a,H' a = none→ts D σ (upd H' a (excO cls a od)))∨(PySem.W.exmOne K cls (.ref C) = some false∧th D σ cls od H')
def hNil:TH:=fun _ _ _ _ _=>False
def tTryH (tb:St→XK→TS) (th:TH):TS:=fun D σ H=>tb σ (fun cls od H1=>th D σ cls od H1) D σ H
end
end L2
namespace L2
open PySem PySem.Spec PyProof.Rows
section
variable {X:Cx} {o e value:Expr} {es:List Expr} {to ta tv:TE} {t:TA} {apos cpos pos pos':Pos} {C:Addr} {f m:Str}
def dClear (to:TE):TE:=fun σ H Q=>to σ H fun x H1=>vR x fun l=>∃xs,H1 l = some (.lst xs)∧Q .non (upd H1 l (.lst []))
def dFld (C:Addr) (ta:TE) (f:Str):TE:=fun σ H Q=>ta σ H fun x H1=>vR x fun a=>∃dx fs v,H1 a = some (.ins C dx fs)∧fs.lookup f = some v∧Q v H1
theorem aV (c:Cls X.K C) (n:NoAttr X.K C f) (he:PE X e ta) (hb:attributeBase e f X.env (eval e X.env) = eval e X.env:=by rfl):PE X (.Attribute e f pos) (dFld C ta f):=
 (wJ (cB he) hb).imp fun σ H Q h=>⟨_,h,fun x H1 q=>by
  obtain⟨a,rfl,dx,fs,v,h1,h2,h3⟩:=vR.ex q
  exact⟨a,C,dx,fs,v,rfl,h1,c,n,h2,h3⟩⟩
def dSet (C:Addr) (ta tv:TE) (f:Str):TS:=fun D σ H=>tv σ H fun y H1=>ta σ H1 fun x H2=>vR x fun a=>∃dx fs,H2 a = some (.ins C dx fs)∧fs.length < 1000∧D.nx σ (upd H2 a (.ins C dx (putF f y fs)))
theorem bY (c:Cls X.K C) (n:NoAttr X.K C f) (ha:PE X o ta) (hv:PE X value tv) (hs:swapsWith value (some (.Attribute o f pos')) pos.line X.env = pure false:=by rfl) :
    PS X (.Assign [.Attribute o f pos'] value pos) (dSet C ta tv f):=
  (wG (cB ha) (cB hv) hs).imp fun D σ H h=>⟨_,h,fun y H1 q=>⟨_,q,fun x H2 q2=>by
    obtain⟨a,rfl,dx,fs,h1,h2,h3⟩:=vR.ex q2
    exact⟨a,C,dx,fs,rfl,h1,c,n,h2,h3⟩⟩⟩
variable {CX:CXT} {k:Nat} {fa:Addr} {fd:FuncData} {ps:List Str} {sp:Sp} {dvs:List V} {ds:List Value} {E:XK}
def dMeth (C:Addr) (m:Str) (sp:Sp) (dvs:List V) (E:XK) (ta:TE) (t:TA):TE:=fun σ H Q=>ta σ H fun x H1=>vR x fun a=>(∃dx fs,H1 a = some (.ins C dx fs)∧fs.lookup m = none)∧t σ H1 fun vs H2=>sp (.ref a :: (vs ++ dvs)) H2 Q E
theorem cI {pl:Sem Bool} (c:Cls X.K C) (hm:Meth X.K C m fa) (F:FnOk X.prog X.w X.K X.mg X.base CX k fa fd ps sp) (hr:Room k X.A) (hb:Binds X.K fd ps ds) (hd:Vals dvs ds) (hx:Passes CX X E) (he:PE X o ta) (ha:PA X (e :: es) t)
    (hst:starEach (e :: es) X.env = (false,eval e X.env) :: starEach es X.env:=by rfl) (hpl:(backTo pos (starEach es X.env)).any (·.1) = false:=by rfl)
    (ht:eval (.Call (.Attribute o m apos) (e :: es) [] pos) X.env = (do
      let ov←eval o X.env
      standAt apos.atName
      let (f,first)←holding [ov] (getMethod ov m pl)
      callWith pos f first (backTo pos (starEach (e :: es) X.env)) (backToKw pos (keywordEach [] X.env))):=by rfl) :
    PE X (.Call (.Attribute o m apos) (e :: es) [] pos) (dMeth C m sp dvs E ta t):=
  (zM (pl:=pl) (cB he) c hm F hr hb hd hx (jD ha) hst hpl ht).imp fun σ H Q h=>⟨_,h,fun x H1 q=>by
    obtain⟨a,rfl,⟨dx,fs,h1,h2⟩,h3⟩:=vR.ex q
    exact⟨a,dx,fs,rfl,h1,h2,_,h3,fun vs H2 z=>z⟩⟩
theorem bI {pl:Sem Bool} (c:Cls X.K C) (hm:Meth X.K C m fa) (F:FnOk X.prog X.w X.K X.mg X.base CX k fa fd ps sp) (hr:Room k X.A) (hb:Binds X.K fd ps ds) (hd:Vals dvs ds) (hx:Passes CX X E) (he:PE X o ta)
    (ht:eval (.Call (.Attribute o m apos) [] [] pos) X.env = (do
      let ov←eval o X.env
      standAt apos.atName
      let (f,first)←holding [ov] (getMethod ov m pl)
      callWith pos f first (backTo pos (starEach [] X.env)) (backToKw pos (keywordEach [] X.env))):=by rfl) :
    PE X (.Call (.Attribute o m apos) [] [] pos) (dMeth C m sp dvs E ta tNil):=
  (wH (pl:=pl) (cB he) c hm F hr hb hd hx ht).imp fun σ H Q h=>⟨_,h,fun x H1 q=>by
    obtain⟨a,rfl,⟨dx,fs,h1,h2⟩,h3⟩:=vR.ex q
    exact⟨a,dx,fs,rfl,h1,h2,h3⟩⟩
end
end L2
namespace L2
open PySem PySem.Spec PyProof.Rows
section
variable {X:Cx}
noncomputable def eDat (h:Heap) (d:PyData):Value→Bool:=by
 classical
 exact fun y=>if g:∃d' as,Reads h y d' as then PyData.eqv g.choose d else false
def mInD (K:PySem.W.Frag) (f:Bool→Bool):R2:=fun x y H Q=>vR y fun p=>∃d ds xs,DV K H x d∧SqL K H p xs∧DVs K H xs ds∧SeqAt.shaped d = true∧(∀e∈ds,SeqAt.shaped e = true)∧Q (.bl (f (ds.any fun e=>PyData.eqv e d))) H
end
def prD (p:Int×Int):PyData:= .tuple [.int p.1,.int p.2]
inductive PrsQ (K:PySem.W.Frag) (H:Hp):List Addr→List (Int×Int)→Prop
 | nil:PrsQ K H [] []
 | cons {q:Addr} {p:Int×Int} {qs:List Addr} {ps:List (Int×Int)}:SqT K H q [.int p.1,.int p.2]→PrsQ K H qs ps→PrsQ K H (q :: qs) (p :: ps)
section
variable {X:Cx}
def mInP (K:PySem.W.Frag) (f:Bool→Bool):R2:=fun x y H Q=>vR x fun t=>vR y fun l=>∃(p:Int×Int) (ps:List (Int×Int)) (qs:List Addr),SqT K H t [.int p.1,.int p.2]∧SqL K H l (qs.map V.ref)∧PrsQ K H qs ps∧Q (.bl (f (decide (p∈ps)))) H
end
end L2
namespace L2
open PySem
end L2
namespace L2
open PySem
def TupK (K:PySem.W.Frag) (a:Addr) (ns:List Int):Prop:=∃(o:Obj) (its:Array Value) (n:Nat),K.lookup a = some o∧o.cls = .type "tuple"∧o.data = .seq its n∧its.size≤sizeLine∧Vals (ns.map V.int) its.toList
theorem TupK.of {K:PySem.W.Frag} {a:Addr} {od:Option Addr} {sl:Array (Option Value)} {n:Nat} {its:Array Value} {ns:List Int} (h:K.lookup a = some ⟨.type "tuple",od,.seq its n,sl⟩) (hs:its.size≤sizeLine) (hv:Vals (ns.map V.int) its.toList):TupK K a ns:=⟨_,its,n,h,rfl,rfl,hs,hv⟩
theorem TupK.sq {K:PySem.W.Frag} {a:Addr} {ns:List Int} (h:TupK K a ns) (H:Hp):SqT K H a (ns.map V.int):= .inr h
end L2
namespace L2
open PySem PySem.Spec PyProof.Rows
theorem uT (xs:List V) (a:Nat):cutV xs none (some (a:Int)) = xs.take a:=by
 unfold cutV
 rw [HT.sIx_nat,HT.sIx_none,List.drop_zero,Nat.sub_zero]
 by_cases h:a≤xs.length
 ·rw [Nat.min_eq_left h]
 ·rw [Nat.min_eq_right (by omega),List.take_of_length_le (Nat.le_refl _),List.take_of_length_le (by omega)]
theorem uU {xs:List V} {a:Nat} (h:a≤xs.length):cutV xs (some (a:Int)) none = xs.drop a:=by
 unfold cutV
 rw [HT.sIx_nat,HT.sIx_none,Nat.min_eq_left h,List.take_of_length_le (by rw [List.length_drop];omega)]
end L2
namespace L2
open PySem PySem.Spec PyProof.Rows
def mNotB:R2:=fun x y H Q=>vB x fun b=>vB y fun c=>Q (.bl (b != c)) H
end L2
namespace L2
open PySem PySem.Spec PyProof.Rows
section
variable {X:Cx} {o e:Expr} {to:TE} {t:TA} {apos cpos:Pos}
def rCount:V→List V→Hp→VK→Prop:=fun x vs H Q=>∃(l:Addr) (ns:List Int) (k:Int),x = .ref l∧vs = [.int k]∧H l = some (.lst (ns.map V.int))∧Q (.int (ns.count k:Nat)) H
theorem wY:MtM X "list.count" rCount:=by
 intro pins s σ H x vs v us Q I rx rv h
 obtain⟨l,ns,k,rfl,rfl,hH,q⟩:=h
 cases rx
 obtain⟨u,rfl,ru⟩:=rv.one
 obtain⟨t,rfl⟩:=ru
 obtain⟨its,r,pl,_⟩:=I.list (SqL.of hH)
 exact count_list_ints pl.isList (intsAre_of r) ⟨.int (ns.count k:Nat),H,I.tok _,⟨_,rfl⟩,q⟩
def dCount (to:TE) (t:TA):TE:=fun σ H Q=>to σ H fun x H1=>vR x fun l=>(∃xs,H1 l = some (.lst xs))∧t σ H1 fun vs H2=>l1 vs fun y=>vI y fun k=>∃ns:List Int,H2 l = some (.lst (ns.map V.int))∧Q (.int (ns.count k:Nat)) H2
theorem xF (ho:PE X o to) (ha:PA X [e] t) (hbase:attributeBase o "count" X.env (eval o X.env) = eval o X.env:=by rfl)
    (hfew:((backTo cpos (starEach [e] X.env)).all (fun x=>!x.1) && (backToKw cpos (keywordEach [] X.env)).all (fun x=>x.1.isSome)
      && decide (([e]:List Expr).length + ([]:List Keyword).length + (if ([]:List Keyword).isEmpty then 0 else 1) < 30)) = true:=by rfl)
    (hline:(apos.endLine == cpos.line) = true:=by rfl) (hs:starEach [e] X.env = (false,eval e X.env) :: starEach [] X.env:=by rfl) (hplain:(backTo cpos (starEach [] X.env)).any (·.1) = false:=by rfl) :
    PE X (.Call (.Attribute o "count" apos) [e] [] cpos) (dCount to t):=
  (rZ PySem.F.plainAttrs_list PySem.F.slot_list_count PySem.F.type_list_count wY (cB ho) (jD ha) hbase hfew hline hs hplain).imp fun σ H Q h=>⟨_,h,fun x H1 q=>by
    obtain⟨l,rfl,⟨xs,q1⟩,q2⟩:=vR.ex q
    refine⟨.inl ⟨rfl,xs,SqL.of q1⟩,_,q2,fun vs H2 q3=>?_⟩
    obtain⟨y,rfl,q3⟩:=l1.ex q3
    obtain⟨k,rfl,ns,h1,h2⟩:=vI.ex q3
    exact⟨l,ns,k,rfl,rfl,h1,h2⟩⟩
end
end L2
namespace L2
open PySem PySem.Spec PyProof.Rows
section
variable {X:Cx} {o e:Expr} {to:TE} {t:TA} {apos cpos:Pos}
def rCountS:V→List V→Hp→VK→Prop:=fun x vs H Q=>∃(l:Addr) (ns:List Str) (k:Str),x = .ref l∧vs = [.str k]∧H l = some (.lst (ns.map V.str))∧Q (.int (ns.count k:Nat)) H
def dCountS (to:TE) (t:TA):TE:=fun σ H Q=>to σ H fun x H1=>vR x fun l=>(∃xs,H1 l = some (.lst xs))∧t σ H1 fun vs H2=>l1 vs fun y=>vS y fun k=>∃ns:List Str,H2 l = some (.lst (ns.map V.str))∧Q (.int (ns.count k:Nat)) H2
end
end L2
namespace L2
open PySem PySem.Spec PyProof.Rows
set_option maxRecDepth 100000
section
variable {prog:Program} {w:World} {A:Around} {I:Addr} {fp wr:List Addr} {n:Nat} {P:Nat→Value→Prop} {St:Nat→Heap→Prop} {d:Value}
end
section
variable {prog:Program} {w:World} {A:Around} {E:Value→Shared→Prop} {s:Shared}
end
section
variable {X:Cx}
def mMaxD (K:PySem.W.Frag) (x d:V):Hp→VK→Prop:=fun H Q=>vR x fun p=>vI d fun e=>∃ns:List Int,SqL K H p (ns.map V.int)∧(ns = []→Q (.int e) H)∧(ns≠ []→∀m,m∈ns→(∀z∈ns,z≤m)→Q (.int m) H)
def dMaxD (K:PySem.W.Frag) (ta td:TE):TE:=fun σ H Q=>ta σ H fun x H1=>td σ H1 fun d H2=>mMaxD K x d H2 Q
end
end L2
namespace L2
open PySem PySem.Spec PyProof.Rows
structure CMeth (K:PySem.W.Frag) (C:Addr) (m:Str) (f:Addr):Prop where
 ga:PySem.W.specialIn K (.ref C) "__getattribute__" = some (some (.builtin "type.__getattribute__"))
 rd:PySem.W.readsIn K C (.type "type") = true
 at_:PySem.W.findCls K (.ref C) (.type "type") m = some (.val (.ref f))
 kp:PySem.W.keepIn K (.ref f) = true
section
variable {X:Cx} {o e value:Expr} {es:List Expr} {to ta tv:TE} {t:TA} {apos cpos pos pos':Pos} {C:Addr} {f m:Str}
variable {CX:CXT} {k:Nat} {fa:Addr} {fd:FuncData} {ps:List Str} {sp:Sp} {dvs:List V} {ds:List Value} {E:XK}
def dMethC (C:Addr) (sp:Sp) (dvs:List V) (E:XK) (ta:TE) (t:TA):TE:=fun σ H Q=>ta σ H fun x H1=>x = .ref C∧t σ H1 fun vs H2=>sp (vs ++ dvs) H2 Q E
theorem pQ {pl:Sem Bool} (hm:CMeth X.K C m fa) (F:FnOk X.prog X.w X.K X.mg X.base CX k fa fd ps sp) (hr:Room k X.A) (hb:Binds X.K fd ps ds) (hd:Vals dvs ds) (hx:Passes CX X E) (he:PE X o ta) (ha:PA X (e :: es) t)
    (hst:starEach (e :: es) X.env = (false,eval e X.env) :: starEach es X.env:=by rfl) (hpl:(backTo pos (starEach es X.env)).any (·.1) = false:=by rfl)
    (ht:eval (.Call (.Attribute o m apos) (e :: es) [] pos) X.env = (do
      let ov←eval o X.env
      standAt apos.atName
      let (f,first)←holding [ov] (getMethod ov m pl)
      callWith pos f first (backTo pos (starEach (e :: es) X.env)) (backToKw pos (keywordEach [] X.env))):=by rfl) :
    PE X (.Call (.Attribute o m apos) (e :: es) [] pos) (dMethC C sp dvs E ta t):=by
  intro pins s σ H Q I h
  refine PySem.W.methodCall_KW (pl:=pl) (thn (he pins s σ H _ I h) fun u s1 ⟨x,H1,I1,rx,ex,q⟩=>?_) ht
  subst ex
  obtain rfl:u = Value.ref C:=rx
  refine PySem.W.method_cls I1.kIn hm.ga (PySem.W.cls_value I1.kIn hm.rd hm.at_ rfl ?_)
  refine PySem.W.callWith_K (first:=[]) (h₀:=X.base) I.ok.mod.kin hm.kp (thn (ha pos pins _ σ H1 _ (I1.tok _) q) fun us s2 ⟨vs,H2,I2,r,q2⟩=>⟨I2.kIn,?_⟩) hst hpl
  exact fQ F hr hb hd hx I2 r q2
def dFldP (K:PySem.W.Frag) (ta:TE) (f:Str):TE:=fun σ H Q=>ta σ H fun x H1=>vR x fun a=>∃C dx fs v,H1 a = some (.ins C dx fs)∧Cls K C∧NoAttr K C f∧fs.lookup f = some v∧Q v H1
theorem cR (he:PE X e ta) (hb:attributeBase e f X.env (eval e X.env) = eval e X.env:=by rfl):PE X (.Attribute e f pos) (dFldP X.K ta f):=
 (wJ (cB he) hb).imp fun σ H Q h=>⟨_,h,fun x H1 q=>by
  obtain⟨a,rfl,C,dx,fs,v,h1,c,n,h2,h3⟩:=vR.ex q
  exact⟨a,C,dx,fs,v,rfl,h1,c,n,h2,h3⟩⟩
def dSetP (K:PySem.W.Frag) (ta tv:TE) (f:Str):TS:=fun D σ H=>tv σ H fun y H1=>ta σ H1 fun x H2=>vR x fun a=>∃C dx fs,H2 a = some (.ins C dx fs)∧Cls K C∧NoAttr K C f∧fs.length < 1000∧D.nx σ (upd H2 a (.ins C dx (putF f y fs)))
theorem gP (ha:PE X o ta) (hv:PE X value tv) (hs:swapsWith value (some (.Attribute o f pos')) pos.line X.env = pure false:=by rfl) :
    PS X (.Assign [.Attribute o f pos'] value pos) (dSetP X.K ta tv f):=
  (wG (cB ha) (cB hv) hs).imp fun D σ H h=>⟨_,h,fun y H1 q=>⟨_,q,fun x H2 q2=>by
    obtain⟨a,rfl,C,dx,fs,h1,c,n,h2,h3⟩:=vR.ex q2
    exact⟨a,C,dx,fs,rfl,h1,c,n,h2,h3⟩⟩⟩
def dMethP (K:PySem.W.Frag) (m:Str) (fa:Addr) (sp:Sp) (dvs:List V) (E:XK) (ta:TE) (t:TA):TE:=fun σ H Q=>ta σ H fun x H1=>vR x fun a=>(∃C dx fs,H1 a = some (.ins C dx fs)∧Cls K C∧Meth K C m fa∧fs.lookup m = none)∧t σ H1 fun vs H2=>sp (.ref a :: (vs ++ dvs)) H2 Q E
theorem lN {pl:Sem Bool} (F:FnOk X.prog X.w X.K X.mg X.base CX k fa fd ps sp) (hr:Room k X.A) (hb:Binds X.K fd ps ds) (hd:Vals dvs ds) (hx:Passes CX X E) (he:PE X o ta) (ha:PA X (e :: es) t)
    (hst:starEach (e :: es) X.env = (false,eval e X.env) :: starEach es X.env:=by rfl) (hpl:(backTo pos (starEach es X.env)).any (·.1) = false:=by rfl)
    (ht:eval (.Call (.Attribute o m apos) (e :: es) [] pos) X.env = (do
      let ov←eval o X.env
      standAt apos.atName
      let (f,first)←holding [ov] (getMethod ov m pl)
      callWith pos f first (backTo pos (starEach (e :: es) X.env)) (backToKw pos (keywordEach [] X.env))):=by rfl) :
    PE X (.Call (.Attribute o m apos) (e :: es) [] pos) (dMethP X.K m fa sp dvs E ta t):=by
  intro pins s σ H Q I h
  refine PySem.W.methodCall_KW (pl:=pl) (thn (he pins s σ H _ I h) fun u s1 ⟨x,H1,I1,rx,q⟩=>?_) ht
  obtain⟨a,rfl,⟨C,dx,fs,ea,c,hm,l⟩,q⟩:=vR.ex q
  obtain rfl:u = Value.ref a:=rx
  refine dD I1 ea c hm l ?_
  refine PySem.W.callWith_K (first:=[.ref a]) (h₀:=X.base) I.ok.mod.kin hm.kp (thn (ha pos pins s1 σ H1 _ I1 q) fun us s2 ⟨vs,H2,I2,r,q2⟩=>⟨I2.kIn,?_⟩) hst hpl
  exact fQ (us:= .ref a :: us) (vs:= .ref a :: vs) F hr hb hd hx I2 (.cons rfl r) q2
theorem mZ {pl:Sem Bool} (F:FnOk X.prog X.w X.K X.mg X.base CX k fa fd ps sp) (hr:Room k X.A) (hb:Binds X.K fd ps ds) (hd:Vals dvs ds) (hx:Passes CX X E) (he:PE X o ta)
    (ht:eval (.Call (.Attribute o m apos) [] [] pos) X.env = (do
      let ov←eval o X.env
      standAt apos.atName
      let (f,first)←holding [ov] (getMethod ov m pl)
      callWith pos f first (backTo pos (starEach [] X.env)) (backToKw pos (keywordEach [] X.env))):=by rfl) :
    PE X (.Call (.Attribute o m apos) [] [] pos) (dMethP X.K m fa sp dvs E ta tNil):=by
  intro pins s σ H Q I h
  refine PySem.W.methodCall_KW (pl:=pl) (thn (he pins s σ H _ I h) fun u s1 ⟨x,H1,I1,rx,q⟩=>?_) ht
  obtain⟨a,rfl,⟨C,dx,fs,ea,c,hm,l⟩,q⟩:=vR.ex q
  obtain rfl:u = Value.ref a:=rx
  refine dD I1 ea c hm l ?_
  exact PySem.W.callWith_K0 (first:=[.ref a]) I1.kIn hm.kp (fQ (us:=[.ref a]) (vs:=[.ref a]) F hr hb hd hx I1 (.cons rfl .nil) q)
end
end L2
namespace L2
open PySem PySem.Spec PyProof.Rows
section
variable {X:Cx} {o e:Expr} {es:List Expr} {ta:TE} {t:TA} {apos pos:Pos} {C:Addr} {m:Str}
variable {k:Nat} {fa:Addr} {fd:FuncData} {ps:List Str} {sp:Sp} {dvs:List V} {ds:List Value}
def dMethT (C:Addr) (m:Str) (sp:Sp) (dvs:List V) (σ0:St) (EX:XK) (ta:TE) (t:TA):TE:=fun σ H Q=>ta σ H fun x H1=>vR x fun a=>(∃dx fs,H1 a = some (.ins C dx fs)∧fs.lookup m = none)∧t σ H1 fun vs H2=>σ = σ0∧sp (.ref a :: (vs ++ dvs)) H2 Q EX
end
end L2
namespace L2
open PySem PySem.Spec PyProof.Rows
section
variable {X:Cx} {tg:Expr}
def Its (K:PySem.W.Frag) (a:Addr) (J:It):Prop:=J = Itl K a∨J = Itt K a
def dSeq (K:PySem.W.Frag) (tl:TE):TI:=fun σ H R=>tl σ H fun x H1=>vR x fun a=>((∃xs,SqL K H1 a xs)∧R (Itl K a) H1)∨((∃xs,SqT K H1 a xs)∧R (Itt K a) H1)
theorem a1U {l:Expr} {tl:TE} (hl:PE X l tl):PI X tg l (dSeq X.K tl):=by
 intro pins s σ H R I h
 refine thn (hl pins s σ H _ I h) fun v s1 ⟨x,H1,I1,r1,q1⟩=>?_
 obtain⟨a,e,q⟩:=vR.ex q1
 subst e
 cases r1
 rcases q with ⟨⟨xs,hq⟩,q⟩ | ⟨⟨xs,hq⟩,q⟩
 ·obtain⟨its,rv,p,hz⟩:=I1.list hq
  refine wpAny_pyIter_list p.isList ?_
  refine⟨s1.heap.objs.size, [s1.heap.objs.size],_,_,H1,rfl,I1.kept (t':=s1.toks) fun b o e=>Heap.get?_push_of_some _ e,mL a _,⟨_,Heap.get?_push_size _ rfl,rfl,rfl⟩,fun b hb=>?_,q⟩
  have e:b = s1.heap.objs.size:=by simpa using hb
  subst e
  exact I1.fpOk (Nat.le_refl _) (I1.hok.fresh (Nat.le_refl _))
 ·obtain⟨its,rv,p,hz⟩:=I1.tuple hq
  refine wpAny_pyIter_tuple (show s1.heap.IsTuple a its.toArray from p) ?_
  refine⟨s1.heap.objs.size, [s1.heap.objs.size],_,_,H1,rfl,I1.kept (t':=s1.toks) fun b o e=>Heap.get?_push_of_some _ e,qR a _,⟨_,Heap.get?_push_size _ rfl,rfl,rfl⟩,fun b hb=>?_,q⟩
  have e:b = s1.heap.objs.size:=by simpa using hb
  subst e
  exact I1.fpOk (Nat.le_refl _) (I1.hok.fresh (Nat.le_refl _))
end
theorem yJ {K:PySem.W.Frag} {a:Addr} {xs:List V} {tt:TT} {te:TE} {σc:V→St} {H:Hp} {Q:VK} (Pv:Nat→List V→Hp→Prop) (hn:∀i ys H,i≤xs.length→Pv i ys H→ys.length < sizeLine) (h0:Pv 0 [] H)
    (hl:∀i ys H,i≤xs.length→Pv i ys H→SqT K H a xs)
    (hs:∀i x ys H,xs[i]? = some x→Pv i ys H→tt (σc x) H fun b H3=>if b = true then te (σc x) H3 fun y H4=>Pv (i + 1) (ys ++ [y]) H4 else Pv (i + 1) ys H3)
    (hd:∀ys H,Pv xs.length ys H→∀p,H p = none→Q (.ref p) (upd H p (.lst ys))):cWord (Itt K a) tt te σc H Q:=by
  refine⟨fun i m ys H=>m = xs.length - i∧i≤xs.length∧Pv i ys H,⟨xs.length,by simp,Nat.zero_le _,h0⟩,?_⟩
  rintro i m ys H ⟨rfl,hi,p⟩
  have q:=hl i ys H hi p
  refine⟨hn i ys H hi p,?_⟩
  by_cases hlt:i < xs.length
  · refine .inr ⟨⟨xs,xs[i],q,by simp [hlt]⟩,Pv (i + 1),fun ys' H' q=>⟨xs.length - (i + 1),by omega,rfl,hlt,q⟩,fun x H' y=>?_⟩
    obtain⟨e,y⟩:=y
    subst e
    exact hs i x ys _ (y xs q) p
  · have e:i = xs.length:=by omega
    subst e
    exact .inl ⟨⟨xs,q,Nat.le_refl _⟩,hd ys H p⟩
theorem yK {K:PySem.W.Frag} {a:Addr} {xs:List V} {tt:TT} {te:TE} {σc:V→St} {H:Hp} {Q:VK} (h:SqA K H a xs) (Pv:Nat→List V→Prop) (hn:∀i ys,i≤xs.length→Pv i ys→ys.length < sizeLine) (h0:Pv 0 [])
    (hs:∀i x ys,xs[i]? = some x→Pv i ys→tt (σc x) H fun b H3=>if b = true then te (σc x) H3 fun y H4=>Pv (i + 1) (ys ++ [y])∧H4 = H else Pv (i + 1) ys∧H3 = H)
    (hd:∀ys,Pv xs.length ys→∀p,H p = none→Q (.ref p) (upd H p (.lst ys))):((∃xs,SqL K H a xs)∧cWord (Itl K a) tt te σc H Q)∨((∃xs,SqT K H a xs)∧cWord (Itt K a) tt te σc H Q):=by
  rcases h with h | h
  · refine .inl ⟨⟨_,h⟩,jL (xs:=xs) (fun i ys H'=>Pv i ys∧H' = H) (fun i ys H' hi z=>hn i ys hi z.1) ⟨h0,rfl⟩ (fun i ys H' hi z=>by rw [z.2];exact h) ?_ ?_⟩
    · rintro i x ys H' hx ⟨z,rfl⟩
      exact hs i x ys hx z
    · rintro ys H' ⟨z,rfl⟩
      exact hd ys z
  · refine .inr ⟨⟨_,h⟩,yJ (xs:=xs) (fun i ys H'=>Pv i ys∧H' = H) (fun i ys H' hi z=>hn i ys hi z.1) ⟨h0,rfl⟩ (fun i ys H' hi z=>by rw [z.2];exact h) ?_ ?_⟩
    · rintro i x ys H' hx ⟨z,rfl⟩
      exact hs i x ys hx z
    · rintro ys H' ⟨z,rfl⟩
      exact hd ys z
def MOk (P:Program) (w:World) (K:PySem.W.Frag) (mg:Str→Option Value) (base:Heap) (CX:CXT) (k:Nat) (C:Addr) (m:Str) (sp:Sp):Prop:=
 ∃fa fd ps,Cls K C∧Meth K C m fa∧FnOk P w K mg base CX k fa fd ps sp∧Binds K fd ps []
section
variable {X:Cx} {o e value:Expr} {es:List Expr} {to ta tv:TE} {t:TA} {apos cpos pos pos' p:Pos} {C:Addr} {f m x:Str}
variable {CX:CXT} {k:Nat} {fa:Addr} {fd:FuncData} {ps:List Str} {sp:Sp} {dvs:List V} {ds:List Value} {E:XK} {R:Addr→Sp→Prop}
def dMethD (R:Addr→Sp→Prop) (m:Str) (E:XK) (ta:TE) (t:TA):TE:=fun σ H Q=>ta σ H fun x H1=>vR x fun a=>∃C dx fs sp,H1 a = some (.ins C dx fs)∧fs.lookup m = none∧R C sp∧t σ H1 fun vs H2=>sp (.ref a :: vs) H2 Q E
theorem pP {pl:Sem Bool} (hR:∀C sp,R C sp→MOk X.prog X.w X.K X.mg X.base CX k C m sp) (hr:Room k X.A) (hx:Passes CX X E) (he:PE X o ta) (ha:PA X (e :: es) t)
    (hst:starEach (e :: es) X.env = (false,eval e X.env) :: starEach es X.env:=by rfl) (hpl:(backTo pos (starEach es X.env)).any (·.1) = false:=by rfl)
    (ht:eval (.Call (.Attribute o m apos) (e :: es) [] pos) X.env = (do
      let ov←eval o X.env
      standAt apos.atName
      let (f,first)←holding [ov] (getMethod ov m pl)
      callWith pos f first (backTo pos (starEach (e :: es) X.env)) (backToKw pos (keywordEach [] X.env))):=by rfl) :
    PE X (.Call (.Attribute o m apos) (e :: es) [] pos) (dMethD R m E ta t):=by
  intro pins s σ H Q I h
  refine PySem.W.methodCall_KW (pl:=pl) (thn (he pins s σ H _ I h) fun u s1 ⟨x,H1,I1,rx,q⟩=>?_) ht
  obtain⟨a,rfl,C,dx,fs,sp,ea,l,hC,q⟩:=vR.ex q
  obtain⟨fa,fd,ps,c,hm,F,hb⟩:=hR C sp hC
  obtain rfl:u = Value.ref a:=rx
  refine dD I1 ea c hm l ?_
  refine PySem.W.callWith_K (first:=[.ref a]) (h₀:=X.base) I.ok.mod.kin hm.kp (thn (ha pos pins s1 σ H1 _ I1 q) fun us s2 ⟨vs,H2,I2,r,q2⟩=>⟨I2.kIn,?_⟩) hst hpl
  exact fQ (dvs:=[]) (us:= .ref a :: us) (vs:= .ref a :: vs) F hr hb .nil hx I2 (.cons rfl r) (by rw [List.append_nil];exact q2)
theorem uB {pl:Sem Bool} (hR:∀C sp,R C sp→MOk X.prog X.w X.K X.mg X.base CX k C m sp) (hr:Room k X.A) (hx:Passes CX X E) (he:PE X o ta)
    (ht:eval (.Call (.Attribute o m apos) [] [] pos) X.env = (do
      let ov←eval o X.env
      standAt apos.atName
      let (f,first)←holding [ov] (getMethod ov m pl)
      callWith pos f first (backTo pos (starEach [] X.env)) (backToKw pos (keywordEach [] X.env))):=by rfl) :
    PE X (.Call (.Attribute o m apos) [] [] pos) (dMethD R m E ta tNil):=by
  intro pins s σ H Q I h
  refine PySem.W.methodCall_KW (pl:=pl) (thn (he pins s σ H _ I h) fun u s1 ⟨x,H1,I1,rx,q⟩=>?_) ht
  obtain⟨a,rfl,C,dx,fs,sp,ea,l,hC,q⟩:=vR.ex q
  obtain⟨fa,fd,ps,c,hm,F,hb⟩:=hR C sp hC
  obtain rfl:u = Value.ref a:=rx
  refine dD I1 ea c hm l ?_
  exact PySem.W.callWith_K0 (first:=[.ref a]) I1.kIn hm.kp (fQ (dvs:=[]) (us:=[.ref a]) (vs:=[.ref a]) F hr hb .nil hx I1 (.cons rfl .nil) q)
structure MkB (K:PySem.W.Frag) (C:Addr):Prop where
 makes:PySem.W.makesIn K C = true
 init:PySem.W.findIn K (.ref C) "__init__" = some (some (.builtin "object.__init__"))
 kp:PySem.W.keepIn K (.ref C) = true
def tMakeB (C:Addr):TE:=fun _ H Q=>∀x dx,H x = none→H dx = none→dx≠x→Q (.ref x) (upd (upd H dx (.own x)) x (.ins C dx []))
theorem wI (M:MkB X.K C) (hg:Gl X x) (hm:X.mg x = some (.ref C)) (hdb:(x == ("__debug__":Str)) = false:=by decide):PE X (.Call (.Name x p) [] [] pos) (tMakeB C):=by
 intro pins s σ H Q I h
 refine wpAny_Call_Name_kw (fY I hg hm ?_ hdb)
 refine PySem.W.callWith_K0 I.kIn M.kp ?_
 have hq:=h (s.heap.objs.size + 1) s.heap.objs.size (I.hok.fresh (Nat.le_succ _)) (I.hok.fresh (Nat.le_refl _)) (Nat.ne_of_lt (Nat.lt_succ_self _))
 have I2:=Inv.made (C:=C) I
 refine wpAny_call (uD I.kIn M.makes M.init (fun self=>PySem.W.Looks.of_pure (PySem.W.oi_bind self)) ?_)
 have Y:=PySem.W.makes_of (M:=model X.prog X.w) I.kIn M.makes
 have hx:((s.heap.push PySem.W.emptyDict).push (PySem.W.instObj C s.heap.objs.size)).get? (s.heap.objs.size + 1) = some (PySem.W.instObj C s.heap.objs.size):=by
  have:=Heap.get?_push_size (s.heap.push PySem.W.emptyDict) (o:=PySem.W.instObj C s.heap.objs.size) rfl
  rwa [Heap.size_push] at this
 have t1:PySem.W.Looks (model X.prog X.w) ((s.heap.push PySem.W.emptyDict).push (PySem.W.instObj C s.heap.objs.size)) (typeOf (.ref (s.heap.objs.size + 1))) (.ref C):=(PySem.W.Looks.ld hx).andThen .now
 have t2:PySem.W.Looks (model X.prog X.w) ((s.heap.push PySem.W.emptyDict).push (PySem.W.instObj C s.heap.objs.size)) (isInstance (.ref (s.heap.objs.size + 1)) (.type "object")) true:=t1.andThen (Y.top.keeps fun b o e=>Heap.get?_push_of_some _ (Heap.get?_push_of_some _ e))
 refine codeAny_call_builtin PySem.W.oi_plain PySem.W.entry_oi (@PySem.W.check_slot (model X.prog X.w) _ _ _ "object.__init__" "object" "__init__" (.ref (s.heap.objs.size + 1)) [] [] _ PySem.W.oi_kind PySem.W.oi_split t2 (PySem.W.oi_args (.ref (s.heap.objs.size + 1))) ?_)
 rw [PySem.W.oi_run]
 exact wpAny_pure (And.intro rfl ⟨V.ref (s.heap.objs.size + 1),_,I2,rfl,hq⟩)
def dMakeT (C:Addr) (sp:Sp) (dvs:List V) (σ0:St) (EX:XK) (t:TA):TE:=fun σ H Q=>t σ H fun vs H1=>σ = σ0∧∀x dx,H1 x = none→H1 dx = none→dx≠x→sp (.ref x :: (vs ++ dvs)) (upd (upd H1 dx (.own x)) x (.ins C dx [])) (fun v H2=>v = .non∧Q (.ref x) H2) EX
end
end L2
namespace L2
open PySem PySem.Spec PyProof.Rows
section
variable {X:Cx} {o e e2:Expr} {to:TE} {t:TA} {apos cpos:Pos}
def rInsert:V→List V→Hp→VK→Prop:=fun x vs H Q=>∃(l:Addr) (xs:List V) (k:Nat) (i:Int) (y:V),x = .ref l∧vs = [.int i,y]∧i = ((k:Nat):Int)∧H l = some (.lst xs)∧k≤xs.length∧xs.length < sizeLine∧k < 2 ^ 62∧Q .non (upd H l (.lst (xs.take k ++ y :: xs.drop k)))
def dInsert (K:PySem.W.Frag) (to:TE) (t:TA):TE:=fun σ H Q=>to σ H fun x H1=>vR x fun l=>(∃xs,SqL K H1 l xs)∧t σ H1 fun vs H2=>l2 vs fun a y=>∃(k:Nat) (xs:List V),a = .int ((k:Nat):Int)∧H2 l = some (.lst xs)∧k≤xs.length∧xs.length < sizeLine∧k < 2 ^ 62∧Q .non (upd H2 l (.lst (xs.take k ++ y :: xs.drop k)))
end
end L2
namespace Bm
def bitI (n j:Nat):Int:=if n.testBit j then 1 else 0
def bitsI (n m:Nat):List Int:=(List.range m).map fun i=>bitI n (m - 1 - i)
def numI (bs:List Int):Int:=bs.foldl (fun x b=>x * 2 + b) 0
def Bits (bs:List Int):Prop:=∀b∈bs,b = 0∨b = 1
theorem a0K (n j:Nat):bitI n j = 0∨bitI n j = 1:=by unfold bitI;split <;> simp
theorem gC (n m:Nat):Bits (bitsI n m):=fun b hb=>by
 obtain⟨i,_,rfl⟩:=List.mem_map.mp hb
 exact a0K _ _
theorem bK (n m:Nat):(bitsI n m).length = m:=by unfold bitsI;rw [List.length_map,List.length_range]
theorem nD {n m k:Nat} (h:k < (bitsI n m).length):(bitsI n m)[k] = bitI n (m - 1 - k):=by simp [bitsI]
theorem yE (n j:Nat):((n / 2 ^ j:Nat):Int) = ((n / 2 ^ (j + 1):Nat):Int) * 2 + bitI n j:=by
 have e:n / 2 ^ (j + 1) = n / 2 ^ j / 2:=by rw [Nat.pow_succ,Nat.div_div_eq_div_mul]
 unfold bitI
 rw [Nat.testBit_eq_decide_div_mod_eq,e]
 generalize n / 2 ^ j = q
 by_cases h:q % 2 = 1
 ·rw [decide_eq_true h,if_pos rfl];omega
 ·rw [decide_eq_false h,if_neg (by decide)];omega
theorem wU:numI [] = 0:=rfl
theorem gO (l:List Int) (b:Int):numI (l ++ [b]) = numI l * 2 + b:=by
 unfold numI;rw [List.foldl_append];rfl
theorem tY (l:List Int):∀x:Int,l.foldl (fun x b=>x * 2 + b) x = x * 2 ^ l.length + numI l:=by
 induction l with
 | nil=>intro x;simp [numI]
 | cons b r ih=>
  intro x
  unfold numI
  rw [List.foldl_cons,List.foldl_cons,ih,ih,List.length_cons,Int.pow_succ]
  have:(x * 2 + b) * 2 ^ r.length = x * (2 ^ r.length * 2) + b * 2 ^ r.length:=by
   rw [Int.add_mul,Int.mul_assoc,Int.mul_comm 2 (2 ^ r.length)]
  rw [this]
  simp only [Int.zero_mul,Int.zero_add]
  omega
theorem mV (b:Int) (l:List Int):numI (b :: l) = b * 2 ^ l.length + numI l:=by
 show (b :: l).foldl _ 0 = _
 rw [List.foldl_cons,tY];simp
theorem jZ {l:List Int} (h:Bits l):0≤numI l∧numI l < 2 ^ l.length:=by
 induction l with
 | nil=>exact⟨Int.le_refl _,by decide⟩
 | cons b r ih=>
  have:=ih fun z hz=>h z (List.mem_cons_of_mem _ hz)
  rw [mV,List.length_cons,Int.pow_succ]
  have p:(0:Int) < 2 ^ r.length:=Int.pow_pos (by decide)
  rcases h b List.mem_cons_self with rfl | rfl
  ·omega
  ·omega
theorem wQ (n m:Nat) (hn:n < 2 ^ m):∀k,k≤m→numI ((bitsI n m).take k) = ((n / 2 ^ (m - k):Nat):Int):=by
 intro k
 induction k with
 | zero=>
  intro _
  rw [List.take_zero,wU,Nat.sub_zero,Nat.div_eq_of_lt hn];rfl
 | succ k ih=>
  intro hk
  have hl:k < (bitsI n m).length:=by rw [bK];omega
  rw [List.take_succ_eq_append_getElem hl,gO,ih (by omega)]
  have e1:(bitsI n m)[k] = bitI n (m - 1 - k):=nD hl
  rw [e1]
  have e2:m - k = (m - 1 - k) + 1:=by omega
  have e3:m - (k + 1) = m - 1 - k:=by omega
  rw [e2,e3,yE n (m - 1 - k)]
theorem wR {n m:Nat} (hn:n < 2 ^ m):numI (bitsI n m) = (n:Int):=by
 have h:=wQ n m hn m (Nat.le_refl _)
 rw [List.take_of_length_le (by rw [bK];exact Nat.le_refl _),Nat.sub_self,Nat.pow_zero,Nat.div_one] at h
 exact h
def left (n m k:Nat):Int:=((n / 2 ^ (m - k) * 2 ^ (m - k):Nat):Int)
end Bm
namespace Rn
open Bm
def flip (l:List Int) (p:Int):List Int:=l.set p.toNat (1 - l.getD p.toNat 0)
def flips (l:List Int) (ps:List Int):List Int:=ps.foldl flip l
def Win (l:List Int) (a n:Nat):Prop:=a + n≤l.length∧∀i j,a≤i→i < a + n→a≤j→j < a + n→l.getD i 0 = l.getD j 0
structure Walked (l:List Int) (k:Nat) (longest run:Nat):Prop where
 le:longest≤k
 rle:run≤k
 rpos:0 < k→0 < run
 hit:∃a,a + longest≤k∧Win l a longest
 most:∀a n,a + n≤k→Win l a n→n≤longest
 tail:Win l (k - run) run
 tmost:∀n,n≤k→Win l (k - n) n→n≤run
theorem tG {l:List Int} {a n i:Nat} (h:i < n) (ha:a + n≤l.length):((l.drop a).take n).getD i 0 = l.getD (a + i) 0:=by
 rw [List.getD_eq_getElem?_getD,List.getD_eq_getElem?_getD,List.getElem?_take_of_lt h,List.getElem?_drop]
theorem a0F {l:List Int} {a n:Nat} (ha:a + n≤l.length):((l.drop a).take n).length = n:=by
 rw [List.length_take,List.length_drop];omega
end Rn
namespace Cl
def xs:Nat→(Nat→Nat)→Nat
 | 0,_=>0
 | n + 1,f=>xs n f ^^^ f n
theorem xs_congr {n:Nat} {f g:Nat→Nat} (h:∀k,k < n→f k = g k):xs n f = xs n g:=by
 induction n with
 | zero=>rfl
 | succ n ih=>
  show xs n f ^^^ f n = xs n g ^^^ g n
  rw [ih (fun k hk=>h k (by omega)),h n (by omega)]
theorem xs_zero {n:Nat} {f:Nat→Nat} (h:∀k,k < n→f k = 0):xs n f = 0:=by
 induction n with
 | zero=>rfl
 | succ n ih=>
  show xs n f ^^^ f n = 0
  rw [ih (fun k hk=>h k (by omega)),h n (by omega)];rfl
theorem xor4 (a b c d:Nat):(a ^^^ b) ^^^ (c ^^^ d) = (a ^^^ c) ^^^ (b ^^^ d):=by
 rw [Nat.xor_assoc,←Nat.xor_assoc b c d,Nat.xor_comm b c,Nat.xor_assoc c b d,←Nat.xor_assoc]
theorem xs_xor {n:Nat} {f g:Nat→Nat}:xs n (fun k=>f k ^^^ g k) = xs n f ^^^ xs n g:=by
 induction n with
 | zero=>exact(Nat.xor_zero 0).symm
 | succ n ih=>
  show xs n (fun k=>f k ^^^ g k) ^^^ (f n ^^^ g n) = (xs n f ^^^ f n) ^^^ (xs n g ^^^ g n)
  rw [ih,xor4]
theorem xs_more {n m:Nat} {f:Nat→Nat} (hnm:n≤m) (h:∀k,n≤k→k < m→f k = 0):xs m f = xs n f:=by
  induction m with
  | zero => have:n = 0:=by omega
            subst this;rfl
  | succ m ih=>
    by_cases e:n = m + 1
    · subst e;rfl
    · show xs m f ^^^ f m = xs n f
      rw [ih (by omega) (fun k h1 h2=>h k h1 (by omega)),h m (by omega) (by omega)]
      exact Nat.xor_zero _
def pw (a b k:Nat):Nat:=if b.testBit k then a <<< k else 0
def cl (n a b:Nat):Nat:=xs n (pw a b)
theorem self {n:Nat}:∀{a:Nat},a < 2 ^ n→a = xs n (fun j=>if a.testBit j then 1 <<< j else 0):=by
  induction n with
  | zero => intro a h;have:a = 0:=by simpa using h
            subst this;rfl
  | succ n ih=>
    intro a h
    show a = xs n (fun j=>if a.testBit j then 1 <<< j else 0) ^^^ (if a.testBit n then 1 <<< n else 0)
    have hlow:a % 2 ^ n < 2 ^ n:=Nat.mod_lt _ (Nat.two_pow_pos n)
    have e1:xs n (fun j=>if a.testBit j then 1 <<< j else 0) = xs n (fun j=>if (a % 2 ^ n).testBit j then 1 <<< j else 0):=by
      refine xs_congr fun k hk=>?_
      rw [Nat.testBit_mod_two_pow]
      simp [hk]
    rw [e1,←ih hlow]
    apply Nat.eq_of_testBit_eq
    intro i
    rw [Nat.testBit_xor,Nat.testBit_mod_two_pow]
    by_cases hi:i < n
    · have e2:(if a.testBit n = true then 1 <<< n else 0).testBit i = false:=by
        split
        · rw [Nat.testBit_shiftLeft];simp;omega
        · simp
      rw [e2];simp [hi]
    · by_cases hin:i = n
      · subst hin
        cases hb:a.testBit i with
        | true=>simp [Nat.testBit_shiftLeft]
        | false=>simp
      · have hgt:a.testBit i = false:=Nat.testBit_lt_two_pow (Nat.lt_of_lt_of_le h (Nat.pow_le_pow_right (by decide) (by omega)))
        have e2:(if a.testBit n = true then 1 <<< n else 0).testBit i = false:=by
          split
          · rw [Nat.testBit_shiftLeft]
            have h1:(1:Nat).testBit (i - n) = false:=Nat.testBit_lt_two_pow (Nat.lt_of_lt_of_le (by decide:1 < 2 ^ 1) (Nat.pow_le_pow_right (by decide) (by omega)))
            rw [h1,Bool.and_false]
          · simp
        rw [e2,hgt];simp [hi]
theorem xs_lt {n m:Nat} {f:Nat→Nat} (h:∀k,k < n→f k < 2 ^ m):xs n f < 2 ^ m:=by
 induction n with
 | zero=>exact Nat.two_pow_pos m
 | succ n ih=>exact Nat.xor_lt_two_pow (ih fun k hk=>h k (by omega)) (h n (by omega))
end Cl
namespace Rm
open Bm
theorem a1B {a b n:Nat} (ha:a < 2 ^ (n + 1)) (hb:b < 2 ^ (n + 1)) (ha':2 ^ n≤a) (hb':2 ^ n≤b):a ^^^ b < 2 ^ n:=by
 apply Nat.lt_pow_two_of_testBit
 intro i hi
 rw [Nat.testBit_xor]
 by_cases e:i = n
 ·subst e
  have h1:a.testBit i = true:=by
   rw [Nat.testBit_eq_decide_div_mod_eq]
   have:a / 2 ^ i = 1:=by
    apply Nat.div_eq_of_lt_le
    ·simpa using ha'
    ·rw [Nat.pow_succ] at ha;omega
   rw [this];rfl
  have h2:b.testBit i = true:=by
   rw [Nat.testBit_eq_decide_div_mod_eq]
   have:b / 2 ^ i = 1:=by
    apply Nat.div_eq_of_lt_le
    ·simpa using hb'
    ·rw [Nat.pow_succ] at hb;omega
   rw [this];rfl
  rw [h1,h2];rfl
 ·have h1:a.testBit i = false:=Nat.testBit_lt_two_pow (Nat.lt_of_lt_of_le ha (Nat.pow_le_pow_right (by decide) (by omega)))
  have h2:b.testBit i = false:=Nat.testBit_lt_two_pow (Nat.lt_of_lt_of_le hb (Nat.pow_le_pow_right (by decide) (by omega)))
  rw [h1,h2];rfl
def nx (r:Nat):Nat:=if 32768≤2 * r then (2 * r) ^^^ 64647 else 2 * r
def rr:Nat→Nat
 | 0=>1
 | k + 1=>nx (rr k)
theorem wN {r:Nat} (h:r < 32768):nx r < 32768:=by
 unfold nx
 split
 ·exact a1B (n:=15) (by omega) (by decide) (by omega) (by decide)
 ·omega
theorem a0P:∀k,rr k < 32768
 | 0=>by decide
 | k + 1=>wN (a0P k)
theorem nY:nx 0 = 0:=by decide
theorem yW (a b:Nat):2 * (a ^^^ b) = 2 * a ^^^ 2 * b:=by
 have h:(a ^^^ b) <<< 1 = a <<< 1 ^^^ b <<< 1:=Nat.shiftLeft_xor_distrib
 have e:∀z:Nat,z <<< 1 = 2 * z:=fun z=>by rw [Nat.shiftLeft_eq];omega
 rw [e,e,e] at h
 exact h
theorem a0N {a:Nat} (h:a < 32768):32768≤2 * a↔a.testBit 14 = true:=by
 rw [Nat.testBit_eq_decide_div_mod_eq,decide_eq_true_iff]
 show _↔a / 16384 % 2 = 1
 omega
theorem wO {a:Nat} (h:a < 32768):nx a = 2 * a ^^^ (if a.testBit 14 = true then 64647 else 0):=by
 unfold nx
 by_cases c:a.testBit 14 = true
 ·rw [if_pos c,if_pos ((a0N h).mpr c)]
 ·rw [if_neg c,if_neg fun z=>c ((a0N h).mp z),Nat.xor_zero]
theorem wM {a b:Nat} (ha:a < 32768) (hb:b < 32768):nx (a ^^^ b) = nx a ^^^ nx b:=by
 have hab:a ^^^ b < 32768:=Nat.xor_lt_two_pow (n:=15) ha hb
 rw [wO ha,wO hb,wO hab,Cl.xor4,yW,Nat.testBit_xor]
 cases a.testBit 14 <;> cases b.testBit 14 <;> rfl
def tm (n k:Nat):Nat:=if n.testBit k then rr k else 0
def R (n:Nat):Nat:=Cl.xs 600 (tm n)
theorem a0O (n k:Nat):tm n k < 32768:=by unfold tm;split;exact a0P k;decide
theorem a3U (n:Nat):R n < 32768:=Cl.xs_lt (m:=15) fun k _=>a0O n k
theorem a3G (a b:Nat):R (a ^^^ b) = R a ^^^ R b:=by
 unfold R
 rw [←Cl.xs_xor]
 refine Cl.xs_congr fun k _=>?_
 unfold tm
 rw [Nat.testBit_xor]
 cases a.testBit k <;> cases b.testBit k <;> simp
theorem a2M:R 0 = 0:=Cl.xs_zero fun k _=>by unfold tm;rw [Nat.zero_testBit];rfl
theorem vX:∀k,k < 15→rr k = 1 <<< k:=by decide
theorem oZ {r:Nat} (h:r < 32768):R r = r:=by
 unfold R
 have e:Cl.xs 600 (tm r) = Cl.xs 15 (tm r):=Cl.xs_more (by decide) fun k h1 _=>by
  unfold tm
  rw [Nat.testBit_lt_two_pow (Nat.lt_of_lt_of_le h (Nat.pow_le_pow_right (n:=2) (i:=15) (by decide) h1))];rfl
 rw [e]
 have s:=Cl.self (n:=15) h
 conv=>rhs;rw [s]
 refine Cl.xs_congr fun k hk=>?_
 unfold tm
 rw [vX k hk]
theorem a2Y {n:Nat} {f:Nat→Nat} (h:∀k,f k < 32768):nx (Cl.xs n f) = Cl.xs n fun k=>nx (f k):=by
 induction n with
 | zero=>exact nY
 | succ n ih=>
  show nx (Cl.xs n f ^^^ f n) = _ ^^^ _
  rw [wM (Cl.xs_lt (m:=15) fun k _=>h k) (h n),ih]
theorem vL {n:Nat} {f:Nat→Nat}:Cl.xs (n + 1) f = f 0 ^^^ Cl.xs n fun k=>f (k + 1):=by
 induction n with
 | zero=>show 0 ^^^ f 0 = f 0 ^^^ 0;rw [Nat.zero_xor,Nat.xor_zero]
 | succ n ih=>
  show Cl.xs (n + 1) f ^^^ f (n + 1) = f 0 ^^^ (Cl.xs n (fun k=>f (k + 1)) ^^^ f (n + 1))
  rw [ih,Nat.xor_assoc]
theorem tb2 (n b k:Nat) (hb:b < 2):(2 * n + b).testBit (k + 1) = n.testBit k:=by
 rw [Nat.testBit_succ]
 congr 1;omega
theorem a3K (n b:Nat) (hb:b < 2):(2 * n + b).testBit 0 = decide (b = 1):=by
 rw [Nat.testBit_zero]
 congr 1
 have:(2 * n + b) % 2 = b:=by omega
 rw [this]
theorem rM {n b:Nat} (hn:n < 2 ^ 599) (hb:b < 2):R (2 * n + b) = nx (R n) ^^^ b:=by
 unfold R
 have e:Cl.xs 600 (tm n) = Cl.xs 599 (tm n):=Cl.xs_more (by decide) fun k h1 _=>by
  unfold tm
  rw [Nat.testBit_lt_two_pow (Nat.lt_of_lt_of_le hn (Nat.pow_le_pow_right (by decide) h1))];rfl
 rw [e,a2Y (a0O n),vL,Nat.xor_comm]
 congr 1
 ·refine Cl.xs_congr fun k _=>?_
  unfold tm
  rw [tb2 n b k hb]
  cases n.testBit k
  ·exact nY.symm
  ·rfl
 ·unfold tm
  rw [a3K n b hb]
  have:b = 0∨b = 1:=by omega
  rcases this with rfl | rfl <;> rfl
theorem a3H {n:Nat} (hn:n < 2 ^ 599):R (2 * n) = nx (R n):=by
 have:=rM hn (b:=0) (by decide)
 rwa [Nat.add_zero,Nat.xor_zero] at this
theorem a3I:∀p,p≤500→R (64647 <<< p) = 0:=by
 intro p
 induction p with
 | zero=>
  intro _
  have e:(64647:Nat) <<< 0 = 2 * 32323 + 1:=by decide
  rw [e,rM (Nat.lt_of_lt_of_le (m:=2 ^ 15) (by decide) (Nat.pow_le_pow_right (by decide) (by decide))) (by decide),oZ (by decide)]
  decide
 | succ p ih=>
  intro hp
  have e:(64647:Nat) <<< (p + 1) = 2 * 64647 <<< p:=by rw [Nat.shiftLeft_eq,Nat.shiftLeft_eq,Nat.pow_succ];omega
  rw [e,a3H,ih (by omega)]
  ·exact nY
  ·rw [Nat.shiftLeft_eq]
   have:(64647:Nat) * 2 ^ p < 2 ^ 16 * 2 ^ p:=Nat.mul_lt_mul_of_pos_right (by decide) (Nat.two_pow_pos p)
   rw [←Nat.pow_add] at this
   exact Nat.lt_of_lt_of_le this (Nat.pow_le_pow_right (by decide) (by omega))
theorem a2N {r p:Nat} (hp:p≤500):R (r ^^^ 64647 <<< p) = R r:=by
 rw [a3G,a3I p hp,Nat.xor_zero]
def nm (bs:List Int):Nat:=(numI bs).toNat
theorem kE {bs:List Int} (h:Bits bs):((nm bs:Nat):Int) = numI bs:=Int.toNat_of_nonneg (jZ h).1
theorem mW {bs:List Int} (h:Bits bs):nm bs < 2 ^ bs.length:=by
 have h1:=(jZ h).2
 have h2:=kE h
 have:((nm bs:Nat):Int) < ((2 ^ bs.length:Nat):Int):=by rw [h2];simpa using h1
 exact_mod_cast this
theorem zT {bs:List Int} {b:Int} (h:Bits bs) (hb:b = 0∨b = 1):nm (bs ++ [b]) = 2 * nm bs + b.toNat:=by
 have h1:=kE h
 have h2:Bits (bs ++ [b]):=fun z hz=>by
  rcases List.mem_append.mp hz with q | q
  ·exact h z q
  ·rw [List.mem_singleton.mp q];exact hb
 have h3:=kE h2
 rw [gO] at h3
 rcases hb with rfl | rfl <;> (simp only [Int.toNat_zero,Int.toNat_one];omega)
def rst (bs:List Int):Nat:=R (nm bs)
theorem nR (bs:List Int):rst bs < 32768:=a3U _
theorem nQ:rst [] = 0:=a2M
theorem lG {bs:List Int} {b:Int} (h:Bits bs) (hl:bs.length≤500) (hb:b = 0∨b = 1):rst (bs ++ [b]) = nx (rst bs) ^^^ b.toNat:=by
 unfold rst
 rw [zT h hb]
 refine rM (Nat.lt_of_lt_of_le (mW h) (Nat.pow_le_pow_right (by decide) (by omega))) ?_
 rcases hb with rfl | rfl <;> decide
theorem pD {r:Nat} {b:Int} (hr:r < 32768) (hb:b = 0∨b = 1):(if (32768:Int)≤((r:Nat):Int) * 2 + b then ((2 * r + b.toNat) ^^^ 64647) else 2 * r + b.toNat) = nx r ^^^ b.toNat:=by
 unfold nx
 rcases hb with rfl | rfl
 ·simp only [Int.toNat_zero,Nat.add_zero,Nat.xor_zero,Int.add_zero]
  by_cases c:32768≤2 * r
  ·rw [if_pos c,if_pos (by omega)]
  ·rw [if_neg c,if_neg (by omega)]
 ·have e:2 * r + 1 = 2 * r ^^^ 1:=by
   have:=@Nat.two_pow_add_eq_or_of_lt 1 1 (by decide) r
   apply Nat.eq_of_testBit_eq
   intro i
   cases i with
   | zero=>rw [Nat.testBit_xor,Nat.testBit_zero,Nat.testBit_zero];simp
   | succ i=>
    rw [Nat.testBit_xor,tb2 r 1 i (by decide)]
    have:=tb2 r 0 i (by decide)
    rw [Nat.add_zero] at this
    rw [this,Nat.testBit_succ]
    simp
  simp only [Int.toNat_one]
  by_cases c:32768≤2 * r
  ·rw [if_pos c,if_pos (by omega),e,Nat.xor_assoc,Nat.xor_comm 1 64647,←Nat.xor_assoc]
  ·rw [if_neg c,if_neg (by omega),e]
end Rm
namespace Rm
open Bm
def tab:List Nat:=[1,2,4,8,16,32,64,128,256,512,1024,2048,4096,8192,16384,31879,1417,2834,5668,11336,22672,19879,26569,13077,26154,12499,24998,16331,32662,939,1878,3756,7512,15024,30048,5703,11406,22812,20159,25081,16245,32490,339,678,1356,2712,5424,10848,21696,21767,22153,20885,24493,17373,31549,2813,5626,11252,22504,21335,23081,18645,27949,9949,19898,26611,13153,26306,12547,25094,14475,28950,7851,15702,31404,2527,5054,10108,20216,24951,15977,31954,1315,2630,5260,10520,21040,22759,19785,26133,12461,24922,15923,31846,1099,2198,4396,8792,17584,30183,5961,11922,23844,18127,28953,7861,15722,31444,2351,4702,9404,18808,28279,8297,16594,32035,1729,3458,6916,13832,27664,9383,18766,28187,8369,16738,32323]
def prs:List Nat→List Nat
 | []=>[]
 | x :: r=>r.map (fun y=>x ^^^ y) ++ prs r
def chk:List Nat→Nat→Bool
 | [],_=>true
 | x :: r,0=>chk r (1 <<< x)
 | x :: r,k + 1=>if (k + 1).testBit x then false else chk r ((k + 1) ||| 1 <<< x)
def par (n:Nat):Bool:=(List.range 15).foldl (fun z k=>z ^^ n.testBit k) false
def sm (ps:List Nat):Nat:=ps.foldl (fun t p=>t ^^^ rr p) 0
def stp (r:Nat) (b:Int):Nat:=nx r ^^^ b.toNat
def nxn:Nat→Nat→Nat
 | 0,d=>d
 | n + 1,d=>nxn n (nx d)
theorem a2J {b:Int} (h:b = 0∨b = 1):b.toNat < 32768:=by rcases h with rfl | rfl <;> decide
theorem a1D {r:Nat} {b:Int} (hr:r < 32768) (hb:b = 0∨b = 1):stp r b < 32768:=Nat.xor_lt_two_pow (n:=15) (wN hr) (a2J hb)
theorem lH {bs:List Int} (h:Bits bs) (hl:bs.length≤500):rst bs = bs.foldl stp 0:=by
 have key:∀k,k≤bs.length→rst (bs.take k) = (bs.take k).foldl stp 0:=by
  intro k
  induction k with
  | zero=>intro _;exact nQ
  | succ k ih=>
   intro hk
   have ht:Bits (bs.take k):=fun b hb=>h b (List.mem_of_mem_take hb)
   rw [List.take_succ_eq_append_getElem (by omega),List.foldl_append,←ih (by omega),lG ht (by rw [List.length_take];omega) (h _ (List.getElem_mem _))]
   rfl
 have:=key bs.length (Nat.le_refl _)
 rwa [List.take_of_length_le (Nat.le_refl _)] at this
theorem qG:∀(suf:List Int),Bits suf→∀r d,r < 32768→d < 32768→suf.foldl stp (r ^^^ d) = suf.foldl stp r ^^^ nxn suf.length d
 | [],_,_,_,_,_=>rfl
 | b :: s,h,r,d,hr,hd=>by
  have hb:=h b List.mem_cons_self
  rw [List.foldl_cons,List.foldl_cons]
  have e:stp (r ^^^ d) b = stp r b ^^^ nx d:=by
   unfold stp
   rw [wM hr hd,Nat.xor_assoc,Nat.xor_comm (nx d),←Nat.xor_assoc]
  rw [e,qG s (fun z hz=>h z (List.mem_cons_of_mem _ hz)) _ _ (a1D hr hb) (wN hd)]
  rfl
end Rm
namespace Wm
open Bm Rn
abbrev S:=Option Int×Nat
def skp (s:S) (b:Int):S:=(some b,if s.1 = some b then s.2 + 1 else 1)
def sk (w:List Int):S:=w.foldl skp (none,0)
def run (w:List Int):Nat:=(sk w).2
theorem gK (w:List Int) (b:Int):sk (w ++ [b]) = skp (sk w) b:=by unfold sk;rw [List.foldl_append];rfl
theorem dY (w:List Int) (b:Int):run (w ++ [b]) = if (sk w).1 = some b then run w + 1 else 1:=by unfold run;rw [gK];rfl
theorem jH (w:List Int) (b:Int):(sk (w ++ [b])).1 = some b:=by rw [gK];rfl
theorem snoc_ind {P:List Int→Prop} (h0:P []) (hs:∀w b,P w→P (w ++ [b])) (w:List Int):P w:=by
 have :∀n,∀w:List Int,w.length = n→P w:=by
  intro n
  induction n with
  | zero=>intro w hw;rw [List.eq_nil_of_length_eq_zero hw];exact h0
  | succ n ih=>
   intro w hw
   have hne:w≠ []:=fun z=>by rw [z] at hw;cases hw
   rw [←List.dropLast_concat_getLast hne]
   exact hs _ _ (ih _ (by rw [List.length_dropLast,hw];rfl))
 exact this _ w rfl
theorem qX (w:List Int):run w≤w.length:=by
 refine snoc_ind (P:=fun w=>run w≤w.length) (Nat.le_refl _) (fun w b ih=>?_) w
 rw [dY,List.length_append,List.length_singleton]
 split <;> omega
theorem last_eq (w:List Int) (h:0 < w.length):(sk w).1 = some (w.getD (w.length - 1) 0):=by
 have hne:w≠ []:=fun z=>by rw [z] at h;cases h
 conv=>lhs;rw [←List.dropLast_concat_getLast hne]
 rw [jH,List.getD_eq_getElem?_getD,List.getElem?_eq_getElem (by omega),List.getLast_eq_getElem];rfl
theorem zB (w:List Int):∀n,1≤n→n≤w.length→(n≤run w↔Win w (w.length - n) n):=by
 refine snoc_ind (P:=fun w=>∀n,1≤n→n≤w.length→(n≤run w↔Win w (w.length - n) n)) (fun n h1 h2=>absurd h2 (by simp;omega)) (fun w b ih n h1 h2=>?_) w
 rw [List.length_append,List.length_singleton] at h2 ⊢
 have gl:∀i,i < w.length→(w ++ [b]).getD i 0 = w.getD i 0:=fun i hi=>by
  rw [List.getD_eq_getElem?_getD,List.getD_eq_getElem?_getD,List.getElem?_append_left hi]
 have gr:(w ++ [b]).getD w.length 0 = b:=by
  rw [List.getD_eq_getElem?_getD,List.getElem?_append_right (Nat.le_refl _),Nat.sub_self];rfl
 rw [dY]
 by_cases hn:n = 1
 ·subst hn
  refine iff_of_true (by split <;> omega) ⟨by rw [List.length_append,List.length_singleton];omega,fun i j a1 a2 a3 a4=>?_⟩
  have:i = j:=by omega
  rw [this]
 have hw:0 < w.length:=by omega
 have ih':=ih (n - 1) (by omega) (by omega)
 have hl:=last_eq w hw
 constructor
 ·intro h
  by_cases c:(sk w).1 = some b
  ·rw [if_pos c] at h
   have hb:w.getD (w.length - 1) 0 = b:=by rw [hl] at c;exact Option.some.inj c
   have W:=ih'.mp (by omega)
   refine⟨by rw [List.length_append,List.length_singleton];omega,?_⟩
   have key:∀i,w.length + 1 - n≤i→i < w.length + 1 - n + n→(w ++ [b]).getD i 0 = b:=fun i a1 a2=>by
    by_cases hi:i < w.length
    ·rw [gl i hi,←hb]
     exact W.2 i (w.length - 1) (by omega) (by omega) (by omega) (by omega)
    ·have:i = w.length:=by omega
     rw [this,gr]
   intro i j a1 a2 a3 a4
   rw [key i a1 a2,key j a3 a4]
  ·rw [if_neg c] at h;omega
 ·intro W
  have e1:=W.2 (w.length - 1) w.length (by omega) (by omega) (by omega) (by omega)
  rw [gl _ (by omega),gr] at e1
  have c:(sk w).1 = some b:=by rw [hl,e1]
  rw [if_pos c]
  have:=ih'.mpr ⟨by omega,fun i j a1 a2 a3 a4=>by
   have:=W.2 i j (by omega) (by omega) (by omega) (by omega)
   rwa [gl i (by omega),gl j (by omega)] at this⟩
  omega
theorem vO {w:List Int} {k a n:Nat} (h:a + n≤k) (hk:k≤w.length):Win (w.take k) a n↔Win w a n:=by
 have e:∀i,i < k→(w.take k).getD i 0 = w.getD i 0:=fun i hi=>by
  rw [List.getD_eq_getElem?_getD,List.getD_eq_getElem?_getD,List.getElem?_take_of_lt hi]
 constructor
 ·intro W
  exact⟨by omega,fun i j a1 a2 a3 a4=>by rw [←e i (by omega),←e j (by omega)];exact W.2 i j a1 a2 a3 a4⟩
 ·intro W
  exact⟨by rw [List.length_take];omega,fun i j a1 a2 a3 a4=>by rw [e i (by omega),e j (by omega)];exact W.2 i j a1 a2 a3 a4⟩
def pst (w:List Int) (b:Int):List Int:=if run (w ++ [b]) = 5 then w ++ [b] ++ [1 - b] else w ++ [b]
def put (l:List Int):List Int:=l.foldl pst []
theorem dH (l:List Int) (b:Int):put (l ++ [b]) = pst (put l) b:=by unfold put;rw [List.foldl_append];rfl
theorem sJ (b:Int):¬ (some b:Option Int) = some (1 - b):=fun z=>by have:=Option.some.inj z;omega
theorem zG {w:List Int} {b:Int} (h:run w≤4):run (pst w b)≤4:=by
 unfold pst
 by_cases c:run (w ++ [b]) = 5
 ·rw [if_pos c,dY,jH,if_neg (sJ b)];omega
 ·rw [if_neg c]
  rw [dY] at c ⊢
  split at c <;> rename_i z
  ·rw [if_pos z];omega
  ·rw [if_neg z];omega
theorem iH (l:List Int):run (put l)≤4:=snoc_ind (P:=fun l=>run (put l)≤4) (by decide) (fun w b ih=>by rw [dH];exact zG ih) l
theorem wD {l:List Int} (h:Bits l):Bits (put l):=by
 have : ∀ k,k≤l.length→Bits (put (l.take k)):=by
  intro k
  induction k with
  | zero=>intro _ z hz;rw [List.take_zero] at hz;cases hz
  | succ k ih=>
   intro hk
   have hb:=h _ (List.getElem_mem (show k < l.length by omega))
   have hi:=ih (by omega)
   rw [List.take_succ_eq_append_getElem (by omega),dH]
   intro z hz
   unfold pst at hz
   split at hz
   ·rcases List.mem_append.mp hz with q | q
    ·rcases List.mem_append.mp q with q | q
     ·exact hi z q
     ·rw [List.mem_singleton.mp q];exact hb
    ·rw [List.mem_singleton.mp q];omega
   ·rcases List.mem_append.mp hz with q | q
    ·exact hi z q
    ·rw [List.mem_singleton.mp q];exact hb
 have:=this l.length (Nat.le_refl _)
 rwa [List.take_of_length_le (Nat.le_refl _)] at this
theorem zH (w:List Int) (b:Int):w.length + 1≤(pst w b).length∧(pst w b).length≤w.length + 2:=by
 unfold pst
 split <;> simp
theorem jY (l:List Int):l.length≤(put l).length∧(put l).length≤2 * l.length:=by
 refine snoc_ind (P:=fun l=>l.length≤(put l).length∧(put l).length≤2 * l.length) ⟨Nat.le_refl _,Nat.le_refl _⟩ (fun w b ih=>?_) l
 have:=zH (put w) b
 rw [dH,List.length_append,List.length_singleton]
 omega
def kst (s:S×List Int) (b:Int):S×List Int:=(skp s.1 b,if s.1.2 = 5 then s.2 else s.2 ++ [b])
def kp (w:List Int):List Int:=(w.foldl kst ((none,0), [])).2
theorem zW (w:List Int):(w.foldl kst ((none,0), [])).1 = sk w:=by
 refine snoc_ind (P:=fun w=>(w.foldl kst ((none,0), [])).1 = sk w) rfl (fun w b ih=>?_) w
 rw [List.foldl_append,gK,←ih];rfl
theorem cO (w:List Int) (b:Int):kp (w ++ [b]) = if run w = 5 then kp w else kp w ++ [b]:=by
 unfold kp run
 rw [List.foldl_append,←zW];rfl
theorem a1W:kp [] = []:=rfl
def Good (w:List Int):Prop:=∀k,k≤w.length→run (w.take k)≤5
theorem Good.all {w:List Int} (h:Good w):run w≤5:=by
 have:=h w.length (Nat.le_refl _)
 rwa [List.take_of_length_le (Nat.le_refl _)] at this
theorem Good.snoc {w:List Int} {b:Int} (h:Good w) (h5:run (w ++ [b])≤5):Good (w ++ [b]):=fun k hk=>by
 rw [List.length_append,List.length_singleton] at hk
 by_cases c:k≤w.length
 ·rw [List.take_append_of_le_length c];exact h k c
 ·rw [List.take_of_length_le (by rw [List.length_append,List.length_singleton];omega)];exact h5
theorem pH {w:List Int} {b:Int}:run (w ++ [b])≤run w + 1:=by rw [dY];split <;> omega
theorem wC (l:List Int):Good (put l):=by
 refine snoc_ind (P:=fun l=>Good (put l)) (fun k hk=>?_) (fun w b ih=>?_) l
 ·have:k = 0:=Nat.le_zero.mp hk
  subst this;decide
 ·rw [dH]
  have h4:=iH w
  have h1:run (put w ++ [b])≤5:=Nat.le_trans pH (by omega)
  unfold pst
  split
  ·rename_i c
   refine(ih.snoc h1).snoc ?_
   rw [dY,jH,if_neg (sJ b)];omega
  ·exact ih.snoc h1
theorem a1V (l:List Int):kp (put l) = l:=by
 refine snoc_ind (P:=fun l=>kp (put l) = l) rfl (fun w b ih=>?_) l
 rw [dH]
 have h4:=iH w
 have e1:kp (put w ++ [b]) = w ++ [b]:=by rw [cO,if_neg (by omega),ih]
 unfold pst
 split
 ·rename_i c
  rw [cO,if_pos c,e1]
 ·exact e1
theorem wA {w:List Int} (hb:Bits w) (hg:Good w):put (kp w) = if run w = 5 then w ++ [1 - w.getD (w.length - 1) 0] else w:=by
 have : ∀ k,k≤w.length→put (kp (w.take k)) = if run (w.take k) = 5 then w.take k ++ [1 - w.getD (k - 1) 0] else w.take k:=by
  intro k
  induction k with
  | zero=>intro _;rfl
  | succ k ih=>
   intro hk
   have hlt:k < w.length:=by omega
   have hbk:=hb _ (List.getElem_mem hlt)
   have gk:w.getD (k + 1 - 1) 0 = w[k]:=by rw [Nat.add_sub_cancel,List.getD_eq_getElem?_getD,List.getElem?_eq_getElem hlt];rfl
   have ih':=ih (by omega)
   have h5:=hg (k + 1) hk
   rw [List.take_succ_eq_append_getElem hlt] at h5 ⊢
   rw [cO,gk]
   by_cases c:run (w.take k) = 5
   ·rw [if_pos c,ih',if_pos c]
    have hk0:0 < k:=by
     have:=qX (w.take k)
     rw [List.length_take] at this
     omega
    have hl:(w.take k).length = k:=by rw [List.length_take];omega
    have l1:=last_eq (w.take k) (by omega)
    have e2:(w.take k).getD (k - 1) 0 = w.getD (k - 1) 0:=by
     rw [List.getD_eq_getElem?_getD,List.getD_eq_getElem?_getD,List.getElem?_take_of_lt (by omega)]
    rw [hl,e2] at l1
    have hne:¬ (sk (w.take k)).1 = some w[k]:=fun z=>by
     rw [dY,if_pos z,c] at h5;omega
    have hlb:w.getD (k - 1) 0 = 0∨w.getD (k - 1) 0 = 1:=by
     rw [List.getD_eq_getElem?_getD,List.getElem?_eq_getElem (show k - 1 < w.length by omega)]
     exact hb _ (List.getElem_mem _)
    have e3:1 - w.getD (k - 1) 0 = w[k]:=by
     have:¬ w.getD (k - 1) 0 = w[k]:=fun z=>hne (by rw [l1,z])
     omega
    rw [e3,if_neg]
    rw [dY,if_neg hne];decide
   ·rw [if_neg c,dH,ih',if_neg c]
    unfold pst
    split <;> rfl
 have h:=this w.length (Nat.le_refl _)
 rwa [List.take_of_length_le (Nat.le_refl _)] at h
theorem kI {w:List Int} (hb:Bits w):Bits (kp w):=by
 have : ∀k,k≤w.length→Bits (kp (w.take k)):=by
  intro k
  induction k with
  | zero=>intro _ z hz;rw [List.take_zero,a1W] at hz;cases hz
  | succ k ih=>
   intro hk z hz
   have hi:=ih (by omega)
   rw [List.take_succ_eq_append_getElem (show k < w.length by omega),cO] at hz
   split at hz
   ·exact hi z hz
   ·rcases List.mem_append.mp hz with q | q
    ·exact hi z q
    ·rw [List.mem_singleton.mp q];exact hb _ (List.getElem_mem _)
 have h:=this w.length (Nat.le_refl _)
 rwa [List.take_of_length_le (Nat.le_refl _)] at h
theorem lO (w:List Int):(kp w).length≤w.length:=by
 refine snoc_ind (P:=fun w=>(kp w).length≤w.length) (Nat.le_refl _) (fun w b ih=>?_) w
 rw [cO,List.length_append,List.length_singleton]
 split
 ·omega
 ·rw [List.length_append,List.length_singleton];omega
end Wm
namespace Rm
open Bm
theorem wW {cs:List Int} (h:Bits cs) (hl:cs.length≤15):nm cs < 32768:=Nat.lt_of_lt_of_le (mW h) (Nat.pow_le_pow_right (n:=2) (j:=15) (by decide) hl)
theorem tR {cs:List Int} (h:Bits cs) (hl:cs.length≤15):rst cs = nm cs:=oZ (wW h hl)
theorem dZ {as bs:List Int} (ha:Bits as) (hb:Bits bs):Bits (as ++ bs):=fun z hz=>(List.mem_append.mp hz).elim (ha z) (hb z)
theorem rT {bs cs:List Int} (h:Bits bs) (hc:Bits cs) (hl:bs.length + cs.length≤500) (h15:cs.length≤15):rst (bs ++ cs) = nm cs ^^^ nxn cs.length (rst bs):=by
 rw [lH (dZ h hc) (by rw [List.length_append];exact hl),List.foldl_append,←lH h (by omega)]
 have:=qG cs hc 0 (rst bs) (by decide) (nR bs)
 rw [Nat.zero_xor,←lH hc (by omega),tR hc h15] at this
 exact this
def zs (n:Nat):List Int:=List.replicate n 0
theorem nO (n:Nat):Bits (zs n):=fun b hb=> .inl (List.eq_of_mem_replicate hb)
theorem a2Z:∀n,nm (zs n) = 0:=by
 intro n
 have:∀n,numI (zs n) = 0:=fun n=>by
  induction n with
  | zero=>rfl
  | succ n ih=>unfold zs;rw [List.replicate_succ,mV];show 0 * _ + numI (zs n) = 0;rw [ih];simp
 unfold nm;rw [this];rfl
def ckn (bs:List Int):Nat:=rst (bs ++ zs 15)
theorem yL (bs:List Int):ckn bs < 32768:=nR _
def ck (bs:List Int):List Int:=bitsI (ckn bs) 15
theorem pN {n m:Nat} (h:n < 2 ^ m):nm (bitsI n m) = n:=by unfold nm;rw [wR h];rfl
theorem qY {bs cs:List Int} (h:Bits bs) (hc:Bits cs) (hl:bs.length≤400) (h15:cs.length = 15):rst (bs ++ cs) = nm cs ^^^ ckn bs:=by
 rw [rT h hc (by omega) (by omega)]
 unfold ckn
 rw [rT h (nO 15) (by unfold zs;rw [List.length_replicate];omega) (by unfold zs;rw [List.length_replicate];exact Nat.le_refl _),a2Z,Nat.zero_xor,h15]
 unfold zs
 rw [List.length_replicate]
theorem a1F {bs:List Int} (h:Bits bs) (hl:bs.length≤400):rst (bs ++ ck bs) = 0:=by
 unfold ck
 rw [qY h (gC _ _) hl (bK _ _),pN (m:=15) (yL bs),Nat.xor_self]
end Rm
namespace Wm
open L2 Bm Rn
theorem xY {n i:Nat} {x:Int} (h:i < n):(List.replicate n x).getD i 0 = x:=by
 rw [List.getD_eq_getElem?_getD,List.getElem?_replicate,if_pos h];rfl
theorem zE {l:List Int} {a n:Nat} (hn:0 < n) (ha:a + n≤l.length) {x:Int} (hx:x = l.getD (a + n - 1) 0):(l.drop a).take n = List.replicate n x↔Win l a n:=by
 have ln:((l.drop a).take n).length = n:=a0F ha
 constructor
 ·intro e
  have key:∀i,a≤i→i < a + n→l.getD i 0 = x:=fun i h1 h2=>by
   have:=tG (l:=l) (a:=a) (n:=n) (i:=i - a) (by omega) ha
   rw [e,xY (by omega)] at this
   have e2:a + (i - a) = i:=by omega
   rw [e2] at this
   exact this.symm
  exact⟨ha,fun i j h1 h2 h3 h4=>by rw [key i h1 h2,key j h3 h4]⟩
 ·intro W
  apply List.ext_getElem?
  intro i
  by_cases hi:i < n
  ·have h1:=tG (l:=l) (a:=a) (n:=n) hi ha
   have h2:l.getD (a + i) 0 = x:=by
    rw [hx]
    exact W.2 _ _ (by omega) (by omega) (by omega) (by omega)
   rw [h2,List.getD_eq_getElem?_getD,List.getElem?_eq_getElem (by omega)] at h1
   rw [List.getElem?_eq_getElem (by omega),List.getElem?_replicate,if_pos hi]
   exact congrArg some h1
  ·rw [List.getElem?_eq_none (by omega),List.getElem?_replicate,if_neg hi]
theorem rW {w:List Int} {n k:Nat} (hn:0 < n) (h1:n≤k) (hk:k≤w.length) {x:Int} (hx:x = w.getD (k - 1) 0):(w.drop (k - n)).take n = List.replicate n x↔n≤run (w.take k):=by
 have hl:(w.take k).length = k:=by rw [List.length_take];omega
 rw [zE hn (by omega) (by rw [hx];congr 1;omega),zB (w.take k) n hn (by omega),hl]
 exact(vO (by omega) hk).symm
theorem wB (l:List Int):(put l).head? = l.head?:=snoc_ind (P:=fun l=>(put l).head? = l.head?) rfl (fun w b ih=>by
 rw [dH]
 unfold pst
 split
 ·rw [List.head?_append,List.head?_append,List.head?_append,ih]
  cases w.head? <;> rfl
 ·rw [List.head?_append,List.head?_append,ih]) l
theorem zX (w:List Int):(kp w).head? = w.head?:=snoc_ind (P:=fun w=>(kp w).head? = w.head?) rfl (fun w b ih=>by
 rw [cO]
 split
 ·rename_i h
  rw [ih,List.head?_append]
  cases w with
  | nil=>exact absurd h (by decide)
  | cons x r=>rfl
 ·rw [List.head?_append,List.head?_append,ih]) w
theorem uL {l:List Int} {x:Int} (h:l.head? = some x):l.getD 0 0 = x:=by
 cases l with
 | nil=>cases h
 | cons y r=>exact Option.some.inj h
theorem lV {bs:List Int}:cutV (bs.map V.int) (some (-5:Int)) none = (bs.drop (bs.length - 5)).map V.int:=by
 unfold cutV
 have e:HT.sIx (bs.map V.int).length 0 (some (-5:Int)) = bs.length - 5:=by
  show (if (-5:Int) < 0 then ((-5:Int) + ((bs.map V.int).length:Int)).toNat else min (-5:Int).toNat (bs.map V.int).length) = bs.length - 5
  rw [if_pos (by decide),List.length_map]
  omega
 rw [e,HT.sIx_none,List.take_of_length_le (by rw [List.length_drop];exact Nat.le_refl _),List.map_drop]
end Wm
namespace My
open PySem L2
def top (i:Nat):Stmt:=PySem.Challenge.pw_bitrail_k47_whole_stances.main.body.getD i (.Pass ⟨0,0,0,0⟩)
def clsBody (s:Stmt):List Stmt:=match s with | .ClassDef _ _ _ b _ _ _ _ _ _ _=>b | _=>[]
abbrev Zix:Stmt:=(clsBody (top 31)).getD 0 (.Pass ⟨0,0,0,0⟩)
abbrev ZfL:Stmt:=(clsBody (top 31)).getD 1 (.Pass ⟨0,0,0,0⟩)
abbrev Zgt:Stmt:=(clsBody (top 31)).getD 2 (.Pass ⟨0,0,0,0⟩)
abbrev ZeJ:Stmt:=(clsBody (top 31)).getD 3 (.Pass ⟨0,0,0,0⟩)
abbrev Zlu:Stmt:=top 8
abbrev Zkj:Stmt:=top 9
abbrev Zkh:Stmt:=top 10
abbrev Zlv:Stmt:=top 18
abbrev Zlx:Stmt:=top 22
abbrev ZkW:Stmt:=top 23
abbrev Zlw:Stmt:=top 27
abbrev Zmq:Stmt:=top 32
abbrev ZiD:Stmt:=top 39
abbrev Zjs:Stmt:=top 40
abbrev Zly:Stmt:=top 44
abbrev Zkk:Stmt:=top 42
abbrev ZiF:Stmt:=top 41
abbrev Zjt:Stmt:=top 43
abbrev Zir:Stmt:=(clsBody (top 46)).getD 0 (.Pass ⟨0,0,0,0⟩)
abbrev ZgH:Stmt:=(clsBody (top 46)).getD 2 (.Pass ⟨0,0,0,0⟩)
abbrev Ziq:Stmt:=(clsBody (top 46)).getD 1 (.Pass ⟨0,0,0,0⟩)
abbrev ZhB:Stmt:=(clsBody (top 46)).getD 3 (.Pass ⟨0,0,0,0⟩)
abbrev ZhA:Stmt:=(clsBody (top 46)).getD 4 (.Pass ⟨0,0,0,0⟩)
abbrev Zj8:Stmt:=(clsBody (top 50)).getD 0 (.Pass ⟨0,0,0,0⟩)
abbrev Zj9:Stmt:=(clsBody (top 50)).getD 1 (.Pass ⟨0,0,0,0⟩)
abbrev Zjn:Stmt:=(clsBody (top 50)).getD 5 (.Pass ⟨0,0,0,0⟩)
abbrev ZgJ:Stmt:=(clsBody (top 50)).getD 3 (.Pass ⟨0,0,0,0⟩)
abbrev Zfd:Stmt:=(clsBody (top 50)).getD 4 (.Pass ⟨0,0,0,0⟩)
abbrev Zj7:Stmt:=(clsBody (top 50)).getD 2 (.Pass ⟨0,0,0,0⟩)
abbrev ZgG:Stmt:=(clsBody (top 51)).getD 0 (.Pass ⟨0,0,0,0⟩)
abbrev Zgs:Stmt:=(clsBody (top 52)).getD 0 (.Pass ⟨0,0,0,0⟩)
abbrev Zjd:Stmt:=(clsBody (top 16)).getD 0 (.Pass ⟨0,0,0,0⟩)
abbrev Zgp:Stmt:=(clsBody (top 16)).getD 6 (.Pass ⟨0,0,0,0⟩)
abbrev Zhw:Stmt:=(clsBody (top 16)).getD 7 (.Pass ⟨0,0,0,0⟩)
abbrev Zhx:Stmt:=(clsBody (top 16)).getD 5 (.Pass ⟨0,0,0,0⟩)
abbrev Zje:Stmt:=(clsBody (top 16)).getD 4 (.Pass ⟨0,0,0,0⟩)
abbrev Zij:Stmt:=(clsBody (top 16)).getD 1 (.Pass ⟨0,0,0,0⟩)
abbrev Zii:Stmt:=(clsBody (top 16)).getD 2 (.Pass ⟨0,0,0,0⟩)
abbrev Zjc:Stmt:=(clsBody (top 16)).getD 3 (.Pass ⟨0,0,0,0⟩)
abbrev ZhG:Stmt:=top 58
abbrev ZjZ:Stmt:=(clsBody (top 63)).getD 0 (.Pass ⟨0,0,0,0⟩)
abbrev Ziu:Stmt:=(clsBody (top 64)).getD 0 (.Pass ⟨0,0,0,0⟩)
abbrev Zjh:Stmt:=(clsBody (top 65)).getD 0 (.Pass ⟨0,0,0,0⟩)
abbrev Zik:Stmt:=(clsBody (top 66)).getD 0 (.Pass ⟨0,0,0,0⟩)
abbrev ZgC:Stmt:=(clsBody (top 67)).getD 0 (.Pass ⟨0,0,0,0⟩)
abbrev ZhC:Stmt:=(clsBody (top 68)).getD 0 (.Pass ⟨0,0,0,0⟩)
abbrev Zjk:Stmt:=(clsBody (top 69)).getD 0 (.Pass ⟨0,0,0,0⟩)
abbrev ZgF:Stmt:=(clsBody (top 76)).getD 8 (.Pass ⟨0,0,0,0⟩)
abbrev Zio:Stmt:=(clsBody (top 76)).getD 9 (.Pass ⟨0,0,0,0⟩)
abbrev Zin:Stmt:=(clsBody (top 76)).getD 7 (.Pass ⟨0,0,0,0⟩)
abbrev Zgr:Stmt:=(clsBody (top 76)).getD 10 (.Pass ⟨0,0,0,0⟩)
abbrev ZeI:Stmt:=(clsBody (top 76)).getD 11 (.Pass ⟨0,0,0,0⟩)
abbrev ZeH:Stmt:=(clsBody (top 76)).getD 12 (.Pass ⟨0,0,0,0⟩)
abbrev Zki:Stmt:=top 28
abbrev Zhz:Stmt:=(clsBody (top 76)).getD 13 (.Pass ⟨0,0,0,0⟩)
abbrev Zj3:Stmt:=(clsBody (top 76)).getD 1 (.Pass ⟨0,0,0,0⟩)
abbrev Zmp:Stmt:=top 75
abbrev Zjg:Stmt:=(clsBody (top 76)).getD 5 (.Pass ⟨0,0,0,0⟩)
abbrev ZkU:Stmt:=(clsBody (top 76)).getD 6 (.Pass ⟨0,0,0,0⟩)
abbrev Zjv:Stmt:=top 59
abbrev ZkX:Stmt:=top 60
abbrev Zju:Stmt:=top 61
abbrev ZkV:Stmt:=top 62
abbrev ZiE:Stmt:=top 73
abbrev ZhH:Stmt:=top 74
abbrev Zj5:Stmt:=(clsBody (top 76)).getD 0 (.Pass ⟨0,0,0,0⟩)
abbrev Zjf:Stmt:=(clsBody (top 63)).getD 1 (.Pass ⟨0,0,0,0⟩)
abbrev ZhF:Stmt:=(clsBody (top 64)).getD 1 (.Pass ⟨0,0,0,0⟩)
abbrev Zis:Stmt:=(clsBody (top 65)).getD 1 (.Pass ⟨0,0,0,0⟩)
abbrev Zhy:Stmt:=(clsBody (top 66)).getD 1 (.Pass ⟨0,0,0,0⟩)
abbrev Zgq:Stmt:=(clsBody (top 67)).getD 1 (.Pass ⟨0,0,0,0⟩)
abbrev ZgI:Stmt:=(clsBody (top 68)).getD 1 (.Pass ⟨0,0,0,0⟩)
abbrev Zit:Stmt:=(clsBody (top 69)).getD 1 (.Pass ⟨0,0,0,0⟩)
abbrev Zj2:Stmt:=(clsBody (top 70)).getD 0 (.Pass ⟨0,0,0,0⟩)
abbrev Zj0:Stmt:=(clsBody (top 63)).getD 2 (.Pass ⟨0,0,0,0⟩)
abbrev Ziv:Stmt:=(clsBody (top 64)).getD 2 (.Pass ⟨0,0,0,0⟩)
abbrev Zji:Stmt:=(clsBody (top 65)).getD 2 (.Pass ⟨0,0,0,0⟩)
abbrev Zil:Stmt:=(clsBody (top 66)).getD 2 (.Pass ⟨0,0,0,0⟩)
abbrev ZgD:Stmt:=(clsBody (top 67)).getD 2 (.Pass ⟨0,0,0,0⟩)
abbrev ZhD:Stmt:=(clsBody (top 68)).getD 2 (.Pass ⟨0,0,0,0⟩)
abbrev Zjl:Stmt:=(clsBody (top 69)).getD 2 (.Pass ⟨0,0,0,0⟩)
abbrev ZkS:Stmt:=(clsBody (top 70)).getD 1 (.Pass ⟨0,0,0,0⟩)
abbrev ZkT:Stmt:=(clsBody (top 70)).getD 2 (.Pass ⟨0,0,0,0⟩)
abbrev ZgE:Stmt:=(clsBody (top 67)).getD 3 (.Pass ⟨0,0,0,0⟩)
abbrev ZhE:Stmt:=(clsBody (top 68)).getD 3 (.Pass ⟨0,0,0,0⟩)
abbrev Zjm:Stmt:=(clsBody (top 69)).getD 3 (.Pass ⟨0,0,0,0⟩)
abbrev Zj1:Stmt:=(clsBody (top 63)).getD 3 (.Pass ⟨0,0,0,0⟩)
abbrev Zjj:Stmt:=(clsBody (top 65)).getD 3 (.Pass ⟨0,0,0,0⟩)
abbrev Ziw:Stmt:=(clsBody (top 64)).getD 3 (.Pass ⟨0,0,0,0⟩)
abbrev Zim:Stmt:=(clsBody (top 66)).getD 3 (.Pass ⟨0,0,0,0⟩)
abbrev Zip:Stmt:=(clsBody (top 76)).getD 4 (.Pass ⟨0,0,0,0⟩)
abbrev Zj6:Stmt:=(clsBody (top 76)).getD 2 (.Pass ⟨0,0,0,0⟩)
abbrev Zj4:Stmt:=(clsBody (top 76)).getD 3 (.Pass ⟨0,0,0,0⟩)
abbrev Zkc:Stmt:=top 78
abbrev Zka:Stmt:=top 79
abbrev Zkf:Stmt:=top 80
abbrev Ziz:Stmt:=top 81
abbrev Zjo:Stmt:=top 85
abbrev Zke:Stmt:=top 84
abbrev Zkb:Stmt:=top 89
abbrev Zkd:Stmt:=top 86
abbrev Zjr:Stmt:=top 87
abbrev ZiC:Stmt:=top 88
abbrev Zkg:Stmt:=top 90
abbrev ZiB:Stmt:=top 91
abbrev Ziy:Stmt:=top 92
abbrev Zjq:Stmt:=top 93
abbrev Zjp:Stmt:=top 82
abbrev ZiA:Stmt:=top 83
abbrev ZmW:Stmt:=top 94
def spCellAt (K:PySem.W.Frag):Sp:=fun vs H Q _=>∃(a:Addr) (ns:List Int) (k:Nat),vs = [.ref a,.int k]∧SqL K H a (ns.map V.int)∧∀z:Int,Q (.int z) H
theorem aH {H:Hp} {p:Addr} (h:H p = none) (o:HO):Same H (upd H p o):=fun b u q=>by rw [aK (aX q h)];exact q
theorem small {n:Nat} (h:n≤1000):n≤sizeLine:=Nat.le_of_lt (mR h)
theorem aJ {n:Nat} (h:decide (n≤1000) = true):n≤sizeLine:=small (of_decide_eq_true h)
theorem cJ {n:Nat} (h:n≤1000):n < sizeLine:=mR h
theorem _root_.L2.Same.put {H H':Hp} {p:Addr} {o:HO} (g:Same H H') (h:H p = none):Same H (upd H' p o):=fun b u q=>by rw [aK (aX q h)];exact g b u q
theorem _root_.L2.Same.none {H H':Hp} {x:Addr} (g:Same H H') (h:H' x = none):H x = none:=by
 cases e:H x with
 | none=>rfl
 | some o=>rw [g x o e] at h;cases h
theorem bH {H:Hp} {C x dx:Addr} {fs:List (Str×V)} (hx:H x = none) (hd:H dx = none):Same H (upd (upd (upd H dx (.own x)) x (.ins C dx [])) x (.ins C dx fs)):=fun b u q=>by
 rw [aK (aX q hx),aK (aX q hx),aK (aX q hd)];exact q
open Bm Rm
theorem a0Y (n k:Nat):Builtin.bitAnd ((n:Int) / 2 ^ ((k:Int)).toNat) 1 = bitI n k:=by
 rw [a3N]
 have h:Builtin.bitAnd ((n >>> k:Nat):Int) 1 = (((n >>> k:Nat) &&& 1:Nat):Int):=band (n >>> k) 1
 rw [h]
 unfold bitI
 have h1:=bit_at n k
 have h2:((n >>> k:Nat) &&& 1) = (n >>> k) % 2:=Nat.and_one_is_mod _
 split
 ·rename_i c;exact h1.mpr c
 ·rename_i c
  have:¬ (((n >>> k:Nat) &&& 1:Nat):Int) = 1:=fun z=>c (h1.mp z)
  omega
def spBitsOf:Sp:=fun vs H Q _=>∃n m:Nat,vs = [.int n,.int m]∧n < 2 ^ m∧m≤128∧∀p,H p = none→Q (.ref p) (upd H p (.lst ((bitsI n m).map V.int)))
def spNumberOf (K:PySem.W.Frag):Sp:=fun vs H Q _=>∃(a:Addr) (bs:List Int),vs = [.ref a]∧SqL K H a (bs.map V.int)∧Bits bs∧bs.length≤450∧Q (.int ((nm bs:Nat):Int)) H
theorem uN {n m:Nat} (h:n < 2 ^ m):(n:Int) / 2 ^ ((m:Int)).toNat = 0:=by
 rw [lJ]
 exact Int.ediv_eq_zero_of_lt (Int.natCast_nonneg n) (by exact_mod_cast h)
theorem mO {n m i:Nat} (h:i < m):(bitsI n m).take (i + 1) = (bitsI n m).take i ++ [bitI n (m - 1 - i)]:=by
 have hl:i < (bitsI n m).length:=by rw [bK];exact h
 rw [List.take_succ_eq_append_getElem hl,nD hl]
theorem iY {bs:List Int} {i:Nat} (h:i < bs.length):atI (bs.map V.int) ((i:Nat):Int) = some (.int bs[i]):=fK (by rw [List.getElem?_map,List.getElem?_eq_getElem h];rfl)
theorem eU {bs:List Int} {i:Nat} {x:V} (hx:(bs.map V.int)[i]? = some x):∃h:i < bs.length,x = .int bs[i]:=by
 have hi:i < bs.length:=by
  have:=(List.getElem?_eq_some_iff.mp hx).1
  rwa [List.length_map] at this
 refine⟨hi,?_⟩
 rw [List.getElem?_map,List.getElem?_eq_getElem hi] at hx
 exact(Option.some.inj hx).symm
abbrev bl (a:Nat):Nat:=Builtin.Int.intBits (a:Int)
theorem a3E {a:Nat} (h:a≠0):2 ^ (bl a - 1)≤a:=by
 show 2 ^ (Builtin.Int.intBits (a:Int) - 1)≤a
 rw [lX,if_neg h]
 exact Nat.log2_self_le h
theorem yR {a n:Nat} (h:a < 2 ^ n):bl a≤n:=bits_le h
theorem a0S (a:Nat):a < 2 ^ bl a:=a0J a
theorem rG:bl 64647 = 16:=by decide
theorem xQ {r:Nat} (hr:r < 2 ^ 450) (h:16≤bl r):(r ^^^ 64647 <<< (bl r - 16)) < 2 ^ 450∧R (r ^^^ 64647 <<< (bl r - 16)) = R r∧bl (r ^^^ 64647 <<< (bl r - 16)) < bl r:=by
 have r3:=yR hr
 have hr0:r≠0:=by
  intro z
  subst z
  have:bl 0 = 0:=by decide
  omega
 have l1:64647 <<< (bl r - 16) < 2 ^ (bl r - 1 + 1):=by
  rw [Nat.shiftLeft_eq]
  have e1:bl r - 1 + 1 = 16 + (bl r - 16):=by omega
  rw [e1,Nat.pow_add]
  exact Nat.mul_lt_mul_of_lt_of_le (by decide) (Nat.le_refl _) (Nat.two_pow_pos _)
 have l2:2 ^ (bl r - 1)≤64647 <<< (bl r - 16):=by
  rw [Nat.shiftLeft_eq]
  have e1:bl r - 1 = 15 + (bl r - 16):=by omega
  rw [e1,Nat.pow_add]
  exact Nat.mul_le_mul_right _ (by decide)
 have l3:r < 2 ^ (bl r - 1 + 1):=by
  have e1:bl r - 1 + 1 = bl r:=by omega
  rw [e1];exact a0S r
 have l4:=yU l3 l1 (a3E hr0) l2
 have l5:bl (r ^^^ 64647 <<< (bl r - 16))≤bl r - 1:=yR l4
 exact⟨Nat.lt_of_lt_of_le l4 (Nat.pow_le_pow_right (by decide) (by omega)),a2N (by omega),by omega⟩
def spDivided:Sp:=fun vs H Q _=>∃a:Nat,vs = [.int a,.int 64647]∧a < 2 ^ 450∧∀(w:Nat) (p:Addr),H p = none→Q (.ref p) (upd H p (.tup [.int ((w:Nat):Int),.int ((R a:Nat):Int)]))
def spRest (K:PySem.W.Frag):Sp:=fun vs H Q _=>∃(a:Addr) (bs:List Int),vs = [.ref a]∧SqL K H a (bs.map V.int)∧Bits bs∧bs.length≤450∧∀H',Same H H'→Q (.int ((rst bs:Nat):Int)) H'
def spCheck (K:PySem.W.Frag):Sp:=fun vs H Q _=>∃(a:Addr) (bs:List Int),vs = [.ref a]∧SqL K H a (bs.map V.int)∧Bits bs∧bs.length≤400∧∀p H',H p = none→Same H H'→H' p = some (.lst ((ck bs).map V.int))→Q (.ref p) H'
def spWalk (K:PySem.W.Frag):Sp:=fun vs H Q _=>∃(a:Addr) (bs:List Int),vs = [.ref a]∧SqL K H a (bs.map V.int)∧Bits bs∧bs.length≤450∧Q (.int ((rst bs:Nat):Int)) H
theorem sH {bs:List Int} (h:Bits bs):numI bs = ((nm bs:Nat):Int):=(kE h).symm
def szB (bs:List Int):Nat:=nm ((bs.drop 9).take 3)
def nmB (bs:List Int):Nat:=nm ((bs.drop 1).take 8)
def dtB (bs:List Int) (k:Nat):Int:=((nm ((bs.drop (12 + 8 * k)).take 8):Nat):Int)
def daB (bs:List Int):List Int:=(List.range (szB bs)).map (dtB bs)
def CmpB (bs:List Int):Prop:=12≤bs.length∧bs.length = 27 + 8 * szB bs
def RdOk (bs:List Int):Prop:=CmpB bs∧bs.getD 0 0 = 0∧rst bs = 0
theorem cZ {bs:List Int} (h:Bits bs) (a n:Nat):Bits ((bs.drop a).take n):=fun b hb=>h b (List.mem_of_mem_drop (List.mem_of_mem_take hb))
theorem qU {bs:List Int} (h:Bits bs):szB bs < 8:=by
 have:=mW (cZ h 9 3)
 refine Nat.lt_of_lt_of_le this (Nat.pow_le_pow_right (n:=2) (j:=3) (by decide) ?_)
 rw [List.length_take];omega
def spSize (K:PySem.W.Frag):Sp:=fun vs H Q _=>∃(a:Addr) (bs:List Int),vs = [.ref a]∧SqL K H a (bs.map V.int)∧Bits bs∧12≤bs.length∧bs.length≤450∧∀H',Same H H'→Q (.int ((szB bs:Nat):Int)) H'
def spCmp (K:PySem.W.Frag):Sp:=fun vs H Q _=>∃(a:Addr) (bs:List Int),vs = [.ref a]∧SqL K H a (bs.map V.int)∧Bits bs∧bs.length≤450∧(CmpB bs→∀H',Same H H'→Q (.bl true) H')∧(¬ CmpB bs→∀H',Same H H'→Q (.bl false) H')
def spRead (K:PySem.W.Frag) (C:Addr):Sp:=fun vs H Q E=>∃(a:Addr) (bs:List Int),vs = [.ref a]∧SqL K H a (bs.map V.int)∧Bits bs∧bs.length≤450∧
 (RdOk bs→∀t p H',H p = none→Same H H'→H' p = some (.lst ((daB bs).map V.int))→H' t = some (.tup [.int ((nmB bs:Nat):Int),.ref p])→Q (.ref t) H')∧(¬ RdOk bs→∀H',Same H H'→E (.ref C) none H')
theorem oM (bs:List Int):(daB bs).length = szB bs:=by unfold daB;rw [List.length_map,List.length_range]
theorem qI {bs:List Int} {i:Nat} (h:i < szB bs):(daB bs).take (i + 1) = (daB bs).take i ++ [dtB bs i]:=by
 have hl:i < (daB bs).length:=by rw [oM];exact h
 have e:(daB bs)[i] = dtB bs i:=by simp [daB]
 rw [List.take_succ_eq_append_getElem hl,e]
theorem a3P {bs:List Int} (h:0 < bs.length):bs[0] = bs.getD 0 0:=by rw [List.getD_eq_getElem?_getD,List.getElem?_eq_getElem h];rfl
theorem iC {bs:List Int} {a n:Nat} {x y:Int} (hx:x = ((a:Nat):Int)) (hy:y = ((a + n:Nat):Int)) (h:a + n≤bs.length):cutV (bs.map V.int) (some x) (some y) = ((bs.drop a).take n).map V.int:=by
 rw [hx,hy];exact a0E h
open Bm Rn Wm
def lastV:Option Int→V
 | none=> .non
 | some b=> .int b
abbrev skF (s:S):List (Str×V):=[("last",lastV s.1),("alike",.int ((s.2:Nat):Int))]
def SkAt (C:Addr) (H:Hp) (a:Addr) (s:S):Prop:=∃dx,H a = some (.ins C dx (skF s))
theorem SkAt.same {C:Addr} {H H':Hp} {a:Addr} {n:S} (h:SkAt C H a n) (g:Same H H'):SkAt C H' a n:=by
 obtain⟨dx,e⟩:=h
 exact⟨dx,g _ _ e⟩
theorem SkAt.at_ {C:Addr} {H H':Hp} {a:Addr} {n:S} (h:SkAt C H a n) (g:H' a = H a):SkAt C H' a n:=by
 obtain⟨dx,e⟩:=h
 exact⟨dx,g.trans e⟩
theorem SkAt.ne {C:Addr} {H:Hp} {a p:Addr} {n:S} {xs:List V} (h:SkAt C H a n) (e:H p = some (.lst xs)):p≠a:=fun z=>by
 obtain⟨dx,q⟩:=h
 rw [z,q] at e;cases e
theorem SkAt.set {C:Addr} {H:Hp} {a p:Addr} {n:S} {xs ys:List V} (h:SkAt C H a n) (e:H p = some (.lst xs)):SkAt C (upd H p (.lst ys)) a n:=by
 obtain⟨dx,q⟩:=h
 exact⟨dx,by rw [aK (fun z=>by rw [z,e] at q;cases q)];exact q⟩
def spSkInit (C:Addr):Sp:=fun vs H Q _=>∃a dx,vs = [.ref a]∧H a = some (.ins C dx [])∧∀H',H' = upd H a (.ins C dx (skF (none,0)))→Q .non H'
def spSkLen (C:Addr):Sp:=fun vs H Q _=>∃a s b,vs = [.ref a,.int b]∧SkAt C H a s∧∀H',SkAt C H' a (skp s b)→(∀x,x≠a→H' x = H x)→Q .non H'
def spSkFull (C:Addr):Sp:=fun vs H Q _=>∃a s,vs = [.ref a]∧SkAt C H a s∧Q (.bl (decide (s.2 = 5))) H
def spSkLong (C:Addr):Sp:=fun vs H Q _=>∃a s,vs = [.ref a]∧SkAt C H a s∧Q (.bl (decide (5 < s.2))) H
theorem uP (n:Nat):decide (((n:Nat):Int) = 5) = decide (n = 5):=by
 by_cases h:n = 5
 ·subst h;rfl
 ·rw [decide_eq_false h,decide_eq_false (by omega)]
theorem a0B (n:Nat):decide ((5:Int) < ((n:Nat):Int)) = decide (5 < n):=by
 by_cases h:5 < n
 ·rw [decide_eq_true h,decide_eq_true (by omega)]
 ·rw [decide_eq_false h,decide_eq_false (by omega)]
theorem xV:Good []:=fun k hk=>by
 have:k = 0:=Nat.le_zero.mp hk
 subst this;decide
def spPutIn (K:PySem.W.Frag):Sp:=fun vs H Q _=>∃(a:Addr) (bs:List Int),vs = [.ref a]∧SqL K H a (bs.map V.int)∧bs.length≤400∧∀p H',H p = none→Same H H'→H' p = some (.lst ((put bs).map V.int))→Q (.ref p) H'
theorem vZ {bs:List Int} {i:Nat} (h:i < bs.length):put (bs.take (i + 1)) = pst (put (bs.take i)) bs[i]:=by rw [List.take_succ_eq_append_getElem h,dH]
instance decCmp (bs:List Int):Decidable (CmpB bs):=by unfold CmpB;infer_instance
def ans (w:List Int):Str:=if 5 < run w then "six" else if run w = 5∨¬ CmpB (kp w) then "more" else if rst (kp w) = 0 then "whole" else "bad"
theorem gZ {w:List Int} (h:5 < run w):ans w = "six":=if_pos h
theorem fP {w:List Int} (h:¬ 5 < run w) (g:run w = 5∨¬ CmpB (kp w)):ans w = "more":=(if_neg h).trans (if_pos g)
theorem gY {w:List Int} (h:¬ 5 < run w) (g:¬ (run w = 5∨¬ CmpB (kp w))) (r:rst (kp w) = 0):ans w = "whole":=(if_neg h).trans ((if_neg g).trans (if_pos r))
theorem kY {w:List Int} (h:¬ 5 < run w) (g:¬ (run w = 5∨¬ CmpB (kp w))) (r:¬ rst (kp w) = 0):ans w = "bad":=(if_neg h).trans ((if_neg g).trans (if_neg r))
abbrev rdF (st ks:Addr) (t:Str):List (Str×V):=[("streak",.ref st),("kept",.ref ks),("answer",.str t)]
structure RdAt (C CK:Addr) (H:Hp) (r st ks:Addr) (w:List Int) (t:Str):Prop where
 rd:∃dx,H r = some (.ins C dx (rdF st ks t))
 sk:SkAt CK H st (sk w)
 kp:H ks = some (.lst ((kp w).map V.int))
theorem RdAt.same {C CK:Addr} {H H':Hp} {r st ks:Addr} {w:List Int} {t:Str} (h:RdAt C CK H r st ks w t) (g:Same H H'):RdAt C CK H' r st ks w t:=⟨let ⟨dx,e⟩:=h.rd;⟨dx,g _ _ e⟩,h.sk.same g,g _ _ h.kp⟩
theorem RdAt.ne1 {C CK:Addr} {H:Hp} {r st ks:Addr} {w:List Int} {t:Str} (h:RdAt C CK H r st ks w t):r≠st:=fun z=>by
 obtain⟨dx,e⟩:=h.rd
 obtain⟨dy,f⟩:=h.sk
 rw [z,f] at e
 cases e
theorem RdAt.ne2 {C CK:Addr} {H:Hp} {r st ks:Addr} {w:List Int} {t:Str} (h:RdAt C CK H r st ks w t):r≠ks:=fun z=>by
 obtain⟨dx,e⟩:=h.rd
 rw [z,h.kp] at e
 cases e
theorem RdAt.ne3 {C CK:Addr} {H:Hp} {r st ks:Addr} {w:List Int} {t:Str} (h:RdAt C CK H r st ks w t):ks≠st:=fun z=>by
 obtain⟨dy,f⟩:=h.sk
 rw [←z,h.kp] at f
 cases f
def But3 (H H':Hp) (r st ks:Addr):Prop:=∀x o,x≠r→x≠st→x≠ks→H x = some o→H' x = some o
def spRdInit (C CK:Addr):Sp:=fun vs H Q _=>∃a dx,vs = [.ref a]∧H a = some (.ins C dx [])∧∀H' st ks,RdAt C CK H' a st ks [] "more"→H st = none→H ks = none→(∀x o,x≠a→H x = some o→H' x = some o)→Q .non H'
def spRdJudged (C CK:Addr):Sp:=fun vs H Q _=>∃r st ks w t,vs = [.ref r]∧RdAt C CK H r st ks w t∧Bits w∧w.length≤450∧∀H',Same H H'→Q (.str (ans w)) H'
def spRdHear (C CK:Addr):Sp:=fun vs H Q _=>∃r st ks w t b,vs = [.ref r,.int b]∧RdAt C CK H r st ks w t∧Bits (w ++ [b])∧w.length < 450∧∀H',RdAt C CK H' r st ks (w ++ [b]) (ans (w ++ [b]))→But3 H H' r st ks→Q (.str (ans (w ++ [b]))) H'
def spRdPlain (C CK:Addr):Sp:=fun vs H Q _=>∃r st ks w t,vs = [.ref r]∧RdAt C CK H r st ks w t∧∀p H',H p = none→Same H H'→H' p = some (.lst ((kp w).map V.int))→Q (.ref p) H'
def spRdFrame (C CK:Addr):Sp:=fun vs H Q _=>∃r st ks w,vs = [.ref r]∧RdAt C CK H r st ks w (ans w)∧Bits w∧w.length≤450∧(ans w = "whole"→(kp w).getD 0 0 = 0)∧
 (ans w = "whole"→RdOk (kp w)→∀t p H',H p = none→Same H H'→H' p = some (.lst ((daB (kp w)).map V.int))→H' t = some (.tup [.int ((nmB (kp w):Nat):Int),.ref p])→Q (.ref t) H')∧(ans w≠"whole"→Q .non H)
theorem iZ {w:List Int} (h:ans w = "whole"):CmpB (kp w)∧rst (kp w) = 0:=by
 by_cases h1:5 < run w
 ·rw [gZ h1] at h;exact absurd h (by decide +kernel)
 by_cases h2:run w = 5∨¬ CmpB (kp w)
 ·rw [fP h1 h2] at h;exact absurd h (by decide +kernel)
 by_cases h3:rst (kp w) = 0
 ·exact⟨Decidable.byContradiction fun z=>h2 (.inr z),h3⟩
 ·rw [kY h1 h2 h3] at h;exact absurd h (by decide +kernel)
def spWire (K:PySem.W.Frag):Sp:=fun vs H Q _=>∃(a:Addr) (bs:List Int),vs = [.ref a]∧SqL K H a (bs.map V.int)∧Bits bs∧bs.length≤400∧∀p H',H p = none→Same H H'→H' p = some (.lst ((put bs).map V.int))→Q (.ref p) H'
theorem tU {bs:List Int} {i:Nat} (h:i < bs.length):put (bs.take (i + 1)) = pst (put (bs.take i)) bs[i]:=by rw [List.take_succ_eq_append_getElem h,dH]
theorem getD_snoc (w:List Int) (b:Int):(w ++ [b]).getD ((w ++ [b]).length - 1) 0 = b:=by
 have e:(w ++ [b]).length - 1 = w.length:=by rw [List.length_append,List.length_singleton];omega
 rw [e,List.getD_eq_getElem?_getD,List.getElem?_append_right (Nat.le_refl _),Nat.sub_self];rfl
def spLBits2:Sp:=fun vs H Q _=>∃n m:Nat,vs = [.int n,.int m]∧m≤128∧∀p,H p = none→Q (.ref p) (upd H p (.lst ((bitsI n m).map V.int)))
def byt (n:Int):Bool:=decide (0≤n) && decide (n≤255)
theorem eV {n:Int}:byt n = true↔0≤n∧n≤255:=by unfold byt;simp
theorem oW {n:Int} (h:byt n = true):∃m:Nat,n = m∧m < 256:=by
 obtain⟨h0,h1⟩:=eV.mp h
 exact⟨n.toNat,by omega,by omega⟩
def spByt:Sp:=fun vs H Q _=>∃n,vs = [.int n]∧Q (.bl (byt n)) H
def spBytes (K:PySem.W.Frag):Sp:=fun vs H Q _=>∃(a:Addr) (ns:List Int),vs = [.ref a]∧SqA K H a (ns.map V.int)∧ns.length≤500∧∀H',Same H H'→Q (.bl (ns.all byt)) H'
def FrOk (n:Int) (ds:List Int):Prop:=byt n = true∧ds.length≤7∧ds.all byt = true
def spChkF (K:PySem.W.Frag) (C:Addr):Sp:=fun vs H Q E=>∃(n:Int) (a:Addr) (ds:List Int),vs = [.int n,.ref a]∧SqL K H a (ds.map V.int)∧ds.length≤500∧(FrOk n ds→∀H',Same H H'→Q .non H')∧(¬ FrOk n ds→∀H',Same H H'→E (.ref C) none H')
def b8 (d:Int):List Int:=bitsI d.toNat 8
def hdD (n:Int) (k:Nat) (ds:List Int):List Int:=[0] ++ b8 n ++ bitsI k 3 ++ (ds.map b8).flatten
def hd (n:Int) (ds:List Int):List Int:=hdD n ds.length ds
def fb (n:Int) (ds:List Int):List Int:=hd n ds ++ ck (hd n ds)
theorem rJ (d:Int):(b8 d).length = 8:=bK _ _
theorem tH (d:Int):Bits (b8 d):=gC _ _
theorem qH:∀ds:List Int,(ds.map b8).flatten.length = 8 * ds.length
 | []=>rfl
 | d :: r=>by rw [List.map_cons,List.flatten_cons,List.length_append,qH r,rJ,List.length_cons];omega
theorem nF:∀ds:List Int,Bits (ds.map b8).flatten
 | []=>fun _ z=>nomatch z
 | d :: r=>by rw [List.map_cons,List.flatten_cons];exact dZ (tH d) (nF r)
theorem oK (n:Int) (k:Nat) (ds:List Int):(hdD n k ds).length = 12 + 8 * ds.length:=by
 unfold hdD
 rw [List.length_append,List.length_append,List.length_append,qH,rJ,bK,List.length_singleton]
theorem xU (n:Int) (k:Nat) (ds:List Int):Bits (hdD n k ds):=by
 unfold hdD
 refine dZ (dZ (dZ ?_ (tH n)) (gC _ _)) (nF ds)
 intro b hb
 exact .inl (List.mem_singleton.mp hb)
theorem qF (n:Int) (k:Nat) (ds:List Int) (d:Int):hdD n k (ds ++ [d]) = hdD n k ds ++ b8 d:=by
 unfold hdD
 rw [List.map_append,List.flatten_append,←List.append_assoc]
 simp
theorem oJ (n:Int) (ds:List Int):(hd n ds).length = 12 + 8 * ds.length:=oK n _ ds
theorem kW (n:Int) (ds:List Int):Bits (hd n ds):=xU n _ ds
theorem yM (bs:List Int):(ck bs).length = 15:=bK _ _
theorem a0H (bs:List Int):Bits (ck bs):=gC _ _
theorem lU (n:Int) (ds:List Int):(fb n ds).length = 27 + 8 * ds.length:=by unfold fb;rw [List.length_append,oJ,yM];omega
theorem sW (n:Int) (ds:List Int):Bits (fb n ds):=dZ (kW n ds) (a0H _)
theorem a2D (n:Int) (ds:List Int) (h:ds.length≤40):rst (fb n ds) = 0:=a1F (kW n ds) (by rw [oJ];omega)
def spFrame (K:PySem.W.Frag) (C:Addr):Sp:=fun vs H Q E=>∃(n:Int) (a:Addr) (ds:List Int),vs = [.int n,.ref a]∧SqL K H a (ds.map V.int)∧ds.length≤500∧(FrOk n ds→∀p H',H p = none→Same H H'→H' p = some (.lst ((fb n ds).map V.int))→Q (.ref p) H')∧(¬ FrOk n ds→∀H',Same H H'→E (.ref C) none H')
theorem wV {n:Int} {ds:List Int} (h:¬ byt n = true∨7 < ds.length∨∃d∈ds,¬ byt d = true):¬ FrOk n ds:=fun ⟨h1,h2,h3⟩=>by
 rcases h with h | h | ⟨d,hd,h⟩
 ·exact h h1
 ·omega
 ·exact h (List.all_eq_true.mp h3 d hd)
def spHead (K:PySem.W.Frag):Sp:=fun vs H Q _=>∃(n:Nat) (a:Addr) (ds:List Int),vs = [.int n,.ref a]∧SqL K H a (ds.map V.int)∧n < 256∧ds.length≤7∧ds.all byt = true∧∀p H',H p = none→Same H H'→H' p = some (.lst ((hd n ds).map V.int))→Q (.ref p) H'
theorem qN {ds:List Int} (h:ds.all byt = true) {i:Nat} (hi:i < ds.length):byt ds[i] = true:=List.all_eq_true.mp h _ (List.getElem_mem hi)
theorem a0A {n:Nat} {ds:List Int} (hn:n < 256) (hl:ds.length≤7):szB (fb (n:Int) ds) = ds.length:=by
 unfold szB fb hd hdD
 have e:(([0] ++ b8 (n:Int) ++ bitsI ds.length 3 ++ (ds.map b8).flatten ++ ck ([0] ++ b8 (n:Int) ++ bitsI ds.length 3 ++ (ds.map b8).flatten)).drop 9).take 3 = bitsI ds.length 3:=by
  have h9:([0] ++ b8 (n:Int)).length = 9:=by rw [List.length_append,rJ];rfl
  rw [List.append_assoc,List.append_assoc ([0] ++ b8 (n:Int)),List.drop_append_of_le_length (by omega),List.drop_of_length_le (by omega),List.nil_append,List.take_append_of_le_length (by rw [bK];exact Nat.le_refl _),List.take_of_length_le (by rw [bK];exact Nat.le_refl _)]
 rw [e]
 exact pN (by show ds.length < 2 ^ 3;omega)
theorem a3D {n:Nat} {ds:List Int} (hn:n < 256) (hl:ds.length≤7):RdOk (fb (n:Int) ds):=by
 refine⟨⟨by rw [lU];omega,by rw [lU,a0A hn hl]⟩,?_,a2D _ _ (by omega)⟩
 unfold fb hd hdD
 rfl
theorem cQ {as bs:List Int} (ha:Bits as) (hb:Bits bs):Bits (as ++ bs):=fun z hz=>(List.mem_append.mp hz).elim (ha z) (hb z)
theorem iD {as:List Int} {n:Nat} (ha:Bits as):Bits (as.take n):=fun z hz=>ha z (List.mem_of_mem_take hz)
theorem xP (u:List Int):∀v:List Int,∃x,kp (u ++ v) = kp u ++ x:=by
 refine snoc_ind (P:=fun v=>∃x,kp (u ++ v) = kp u ++ x) ⟨[],by rw [List.append_nil,List.append_nil]⟩ (fun v b ih=>?_)
 obtain⟨x,e⟩:=ih
 rw [←List.append_assoc,cO]
 split
 ·exact⟨x,e⟩
 ·exact⟨x ++ [b],by rw [e,List.append_assoc]⟩
theorem tO {l x:List Int} (h:12≤l.length):szB (l ++ x) = szB l:=by
 unfold szB
 rw [List.drop_append_of_le_length (by omega),List.take_append_of_le_length (by rw [List.length_drop];omega)]
structure Wr (w:List Int) (bs:List Int):Prop where
 w:w = put bs
 bits:Bits bs
 ok:RdOk bs
theorem Wr.take_run {w bs:List Int} (h:Wr w bs) {j:Nat} (hj:j≤w.length):run (w.take j)≤5:=by
 have:=wC bs
 rw [←h.w] at this
 exact this j hj
theorem Wr.wbits {w bs:List Int} (h:Wr w bs):Bits w:=by rw [h.w];exact wD h.bits
theorem Wr.kp {w bs:List Int} (h:Wr w bs):kp w = bs:=by rw [h.w];exact a1V bs
theorem Wr.more {w bs:List Int} (h:Wr w bs) {j:Nat} (hj:j < w.length):ans (w.take j) = "more":=by
 have r5:=h.take_run (Nat.le_of_lt hj)
 refine fP (by omega) (Decidable.byContradiction fun z=>?_)
 have n5:¬ run (w.take j) = 5:=fun y=>z (.inl y)
 have hc:CmpB (Wm.kp (w.take j)):=Decidable.byContradiction fun y=>z (.inr y)
 obtain⟨x,e⟩:=xP (w.take j) (w.drop j)
 rw [List.take_append_drop,h.kp] at e
 have hc':CmpB (Wm.kp (w.take j)):=hc
 have h12:=hc.1
 have h27:=hc.2
 have hs:=tO (l:=Wm.kp (w.take j)) (x:=x) h12
 have hb:=h.ok.1.2
 rw [e] at hb
 have hb':(Wm.kp (w.take j) ++ x).length = 27 + 8 * szB (Wm.kp (w.take j) ++ x):=hb
 rw [hs,List.length_append] at hb'
 have hx:x = []:=List.eq_nil_of_length_eq_zero (by omega)
 rw [hx,List.append_nil] at e
 have good:Good (w.take j):=fun k hk=>by
  rw [List.take_take]
  exact h.take_run (by rw [List.length_take] at hk;omega)
 have hp:=wA (iD (n:=j) h.wbits) good
 rw [if_neg n5,←e,←h.w] at hp
 have:=congrArg List.length hp
 rw [List.length_take] at this
 omega
theorem Wr.whole {w bs:List Int} (h:Wr w bs):ans w = "whole":=by
 have r4:=iH bs
 rw [←h.w] at r4
 refine gY (by omega) (fun z=>?_) ?_
 ·rcases z with z | z
  ·omega
  ·rw [h.kp] at z;exact z h.ok.1
 ·rw [h.kp];exact h.ok.2.2
structure On (w:List Int):Prop where
 good:Good w
 le:12≤(kp w).length→(kp w).length≤27 + 8 * szB (kp w)
 five:CmpB (kp w)→run w = 5
theorem On.nil:On []:=⟨xV,fun z=>absurd z (by decide),fun z=>absurd z.1 (by decide)⟩
theorem vQ {l:List Int} {b:Int} (h:12≤l.length):szB (l ++ [b]) = szB l:=by
 unfold szB
 rw [List.drop_append_of_le_length (by omega),List.take_append_of_le_length (by rw [List.length_drop];omega)]
theorem On.le' {w:List Int} {b:Int} (h:On w):12≤(kp (w ++ [b])).length→(kp (w ++ [b])).length≤27 + 8 * szB (kp (w ++ [b])):=by
 rw [cO]
 by_cases c:run w = 5
 ·rw [if_pos c];exact h.le
 ·rw [if_neg c]
  intro h12
  rw [List.length_append,List.length_singleton] at h12 ⊢
  by_cases z:12≤(kp w).length
  ·rw [vQ z]
   have h1:=h.le z
   have h2:¬ (kp w).length = 27 + 8 * szB (kp w):=fun y=>c (h.five ⟨z,y⟩)
   omega
  ·omega
theorem On.next {w:List Int} {b:Int} (h:On w) (hm:ans (w ++ [b]) = "more"):On (w ++ [b]):=by
 have h1:¬ 5 < run (w ++ [b]):=fun z=>by
  rw [gZ z] at hm;exact absurd hm (by decide +kernel)
 refine⟨h.good.snoc (by omega),h.le',fun hc=>Decidable.byContradiction fun z=>?_⟩
 have h2:¬ (run (w ++ [b]) = 5∨¬ CmpB (kp (w ++ [b]))):=fun y=>y.elim z fun x=>x hc
 by_cases r:rst (kp (w ++ [b])) = 0
 ·rw [gY h1 h2 r] at hm;exact absurd hm (by decide +kernel)
 ·rw [kY h1 h2 r] at hm;exact absurd hm (by decide +kernel)
def spWireOf (K:PySem.W.Frag) (C:Addr):Sp:=fun vs H Q E=>∃(n:Int) (a:Addr) (ds:List Int),vs = [.int n,.ref a]∧SqL K H a (ds.map V.int)∧ds.length≤500∧(FrOk n ds→∀p H',H p = none→Same H H'→H' p = some (.lst ((put (fb n ds)).map V.int))→Q (.ref p) H')∧(¬ FrOk n ds→∀H',Same H H'→E (.ref C) none H')
def spVotes (C:Addr):Sp:=fun vs H Q E=>∃v:Int,vs = [.int v]∧((v = 1∨v = 3∨v = 5)→Q .non H)∧(¬ (v = 1∨v = 3∨v = 5)→E (.ref C) none H)
theorem mY (v:Int):decide (v∈ [(1:Int),3,5]) = true↔(v = 1∨v = 3∨v = 5):=by
 rw [decide_eq_true_iff]
 simp
structure TCl (K:PySem.W.Frag) (C:Addr):Prop where
 cls:Cls K C
 n1:NoAttr K C "votes"
 n2:NoAttr K C "spoke"
 n3:NoAttr K C "over"
 n4:NoAttr K C "noughts"
abbrev tlF (v:Nat) (s:Bool) (o n:Nat):List (Str×V):=[("votes",.int v),("spoke",.bl s),("over",.int o),("noughts",.int n)]
def TlAt (C1 C2:Addr) (H:Hp) (t:Addr) (v:Nat) (s:Bool) (o n:Nat):Prop:=∃C dx,(C = C1∨C = C2)∧H t = some (.ins C dx (tlF v s o n))
theorem TlAt.same {C1 C2:Addr} {H H':Hp} {t:Addr} {v:Nat} {s:Bool} {o n:Nat} (h:TlAt C1 C2 H t v s o n) (g:Same H H'):TlAt C1 C2 H' t v s o n:=let ⟨C,dx,c,e⟩:=h;⟨C,dx,c,g _ _ e⟩
def tlSays (s:Bool) (o:Nat):Int:=if o = 1∧s = false then 0 else 1
def tlFault (s:Bool) (o:Nat) (b:Int):Bool:=if o = 1 then s && decide (b = 1) else decide (b = 0)
def tlN (o:Nat) (b:Int) (n:Nat):Nat:=if 9≤o∧b = 0 then n + 1 else n
def tlVote (v o n:Nat):Str:=if o < 9 + v then ("more":Str) else if v / 2 < n then ("refused":Str) else ("taken":Str)
def tlWord (v:Nat) (s:Bool) (o n:Nat) (b:Int):Str:=if 9≤o then tlVote v (o + 1) (tlN o b n) else if tlFault s o b = true then ("fault":Str) else ("more":Str)
def But1 (H H':Hp) (t:Addr):Prop:=∀x o,x≠t→H x = some o→H' x = some o
def spTlInit (K:PySem.W.Frag) (C1 C2:Addr):Sp:=fun vs H Q _=>∃(t C dx:Addr) (v:Nat) (s:Bool),vs = [.ref t,.int v,.bl s]∧(C = C1∨C = C2)∧H t = some (.ins C dx [])∧Q .non (upd H t (.ins C dx (tlF v s 0 0)))
def spTlMake (C:Addr) (s:Bool):Sp:=fun vs H Q _=>∃(t dx:Addr) (v:Nat),vs = [.ref t,.int v]∧H t = some (.ins C dx [])∧∀H',H' = upd H t (.ins C dx (tlF v s 0 0))→Q .non H'
def spTlSays (C1 C2:Addr):Sp:=fun vs H Q _=>∃t v s o n,vs = [.ref t]∧TlAt C1 C2 H t v s o n∧Q (.int (tlSays s o)) H
def spTlPlace (C1 C2:Addr):Sp:=fun vs H Q _=>∃t v s o n,vs = [.ref t]∧TlAt C1 C2 H t v s o n∧Q (.int ((o:Nat):Int)) H
def spTlFault (C1 C2:Addr):Sp:=fun vs H Q _=>∃t v s o n,∃(a:Nat) (b:Int),vs = [.ref t,.int ((a:Nat):Int),.int b]∧TlAt C1 C2 H t v s o n∧Q (.bl (tlFault s a b)) H
def spTlJudge (C1 C2:Addr):Sp:=fun vs H Q _=>∃t v s o n,∃b:Int,vs = [.ref t,.int b]∧TlAt C1 C2 H t v s o n∧∀H',TlAt C1 C2 H' t v s o (if b = 0 then n + 1 else n)→But1 H H' t→Q (.str (tlVote v o (if b = 0 then n + 1 else n))) H'
def spTlHear (C1 C2:Addr):Sp:=fun vs H Q _=>∃t v s o n,∃b:Int,vs = [.ref t,.int b]∧TlAt C1 C2 H t v s o n∧∀H',TlAt C1 C2 H' t v s (o + 1) (tlN o b n)→But1 H H' t→Q (.str (tlWord v s o n b)) H'
theorem fG {K:PySem.W.Frag} {C C1 C2:Addr} (h1:TCl K C1) (h2:TCl K C2) (h:C = C1∨C = C2):TCl K C:=h.elim (fun z=>z▸h1) (fun z=>z▸h2)
theorem jN {K:PySem.W.Frag} {C C1 C2 fa:Addr} {m:Str} (h1:Meth K C1 m fa) (h2:Meth K C2 m fa) (h:C = C1∨C = C2):Meth K C m fa:=h.elim (fun z=>z▸h1) (fun z=>z▸h2)
abbrev ctF (n:Int):List (Str×V):=[("total",.int n)]
def CtAt (C:Addr) (H:Hp) (a:Addr) (n:Int):Prop:=∃dx,H a = some (.ins C dx (ctF n))
def spCtInit (C:Addr):Sp:=fun vs H Q _=>∃a dx,vs = [.ref a]∧H a = some (.ins C dx [])∧Q .non (upd H a (.ins C dx (ctF 0)))
def spCtB (C:Addr) (lim:Int):Sp:=fun vs H Q _=>∃a n,vs = [.ref a]∧CtAt C H a n∧Q (.bl (decide (lim≤n))) H
def spCtN (C:Addr):Sp:=fun vs H Q _=>∃a n,vs = [.ref a]∧CtAt C H a n∧Q (.int n) H
def mvd (n st:Int):Int:=if 18≤n then n else max 0 (n + st)
def spCtMove (C:Addr):Sp:=fun vs H Q _=>∃a n st,vs = [.ref a,.int st]∧CtAt C H a n∧∀H',CtAt C H' a (mvd n st)→(∀b,b≠a→H' b = H b)→Q .non H'
def spCtFault (C:Addr):Sp:=fun vs H Q _=>∃a n b,vs = [.ref a,.bl b]∧CtAt C H a n∧∀H',CtAt C H' a (mvd n (if b = true then 8 else 1))→(∀b,b≠a→H' b = H b)→Q .non H'
def spCtStep (C:Addr) (st:Int):Sp:=fun vs H Q _=>∃a n,vs = [.ref a]∧CtAt C H a n∧∀H',CtAt C H' a (mvd n st)→(∀b,b≠a→H' b = H b)→Q .non H'
abbrev Own:=Addr→Prop
def isT (o:HO):Prop:=∃vs,o = .tup vs
def Keep (o:Own) (H H':Hp):Prop:=∀x v,H x = some v→(¬ o x∨isT v)→H' x = some v
def Mv (o:Own) (H:Hp) (o':Own) (H':Hp):Prop:=Keep o H H'∧∀x,o' x→o x∨H x = none
abbrev Or2 (a b:Own):Own:=fun x=>a x∨b x
theorem Keep.of {o:Own} {H H':Hp} (g:Same H H'):Keep o H H':=fun x v e _=>g x v e
theorem Keep.refl {o:Own} {H:Hp}:Keep o H H:=fun _ _ e _=>e
theorem Keep.tup {o:Own} {H H':Hp} {x:Addr} {vs:List V} (k:Keep o H H') (e:H x = some (.tup vs)):H' x = some (.tup vs):=k x _ e (.inr ⟨vs,rfl⟩)
theorem Keep.le {o o':Own} {H H':Hp} (k:Keep o H H') (h:∀x,o x→o' x):Keep o' H H':=fun x v e z=>k x v e (z.elim (fun y=> .inl fun w=>y (h x w)) .inr)
theorem Mv.refl {o:Own} {H:Hp}:Mv o H o H:=⟨Keep.refl,fun _=> .inl⟩
theorem Mv.of {o:Own} {H H':Hp} (g:Same H H'):Mv o H o H':=⟨Keep.of g,fun _=> .inl⟩
theorem Mv.trans {o o1 o2:Own} {H H1 H2:Hp} (a:Mv o H o1 H1) (b:Mv o1 H1 o2 H2):Mv o H o2 H2:=by
 refine⟨fun x v e z=>b.1 x v (a.1 x v e z) ?_,fun x hx=>?_⟩
 ·rcases z with z | z
  ·exact .inl fun w=>(a.2 x w).elim z fun n=>by rw [n] at e;cases e
  ·exact .inr z
 ·rcases b.2 x hx with h | h
  ·exact a.2 x h
  ·rcases Classical.em (o x) with c | c
   ·exact .inl c
   ·right
    cases e:H x with
    | none=>rfl
    | some v=>rw [a.1 x v e (.inl c)] at h;cases h
structure Cs where
 (post count free speaks reads intail flag settles rests off reader streak rtail stail:Addr)
inductive Stc where
 | free (k:Nat) | speaks (n:Nat) (ds:List Int) (k:Nat) | reads (h:List Int) | tlS (v c:Nat) | tlR (n:Nat) (ds:List Int) (v c:Nat) | flag (l:Nat) (m:Bool) | settles (m:Bool) | rests (l:Nat) | off
abbrev Fr:=Nat×List Int
structure PS where
 (m1 m2 vt:Nat) (wt up:List Fr) (tot:Int) (now:Stc)
abbrev wr (n:Nat) (ds:List Int):List Int:=put (fb (n:Int) ds)
def Stc.shown:Stc→Str×Nat
 | .free k=>("free",k)
 | .speaks _ _ k=>("speaks",k)
 | .reads h=>("reads",h.length)
 | .tlS v _=>("tail speaks",v)
 | .tlR _ _ v _=>("tail reads",v)
 | .flag l _=>("flag",l)
 | .settles _=>("settles",0)
 | .rests l=>("rests",l)
 | .off=>("off",0)
def saysP (S:PS):Int:=match S.now with
 | .free k=>if S.wt = [] then 1 else if 12≤S.tot∧k < 8 then 1 else 0
 | .speaks n ds k=>(wr n ds).getD k 0
 | .tlS v _=>tlSays true v
 | .tlR _ _ v _=>tlSays false v
 | .flag _ _=>0
 | _=>1
def goneP (S:PS) (st:Int) (w:Str) (nx:Stc):Str×PS:=if 18≤mvd S.tot st then ("off",{ S with tot:=mvd S.tot st,now:= .off }) else (w,{ S with tot:=mvd S.tot st,now:=nx })
def faultP (S:PS) (sp:Bool):Str×PS:=goneP S (if sp = true then 8 else 1) "fault" (.flag 6 (!sp))
def refuseP (S:PS) (sp:Bool):Str×PS:=goneP S (if sp = true then 8 else 1) "refuses" (.settles false)
def blameP (S:PS):Str×PS:=goneP S 8 "" (.settles false)
def wantP (S:PS) (n:Nat):Bool:=decide (Builtin.bitAnd ((n:Nat):Int) ((S.m1:Nat):Int) = ((S.m2:Nat):Int))
def hearP (S:PS) (b:Int):Str×PS:=match S.now with
 | .free k=>if saysP S = 0 then (if b = 0 then ("begins",{ S with now:= .speaks (S.wt.headD (0, [])).1 (S.wt.headD (0, [])).2 1 }) else faultP S true) else if b = 0 then ("",{ S with now:= .reads [0] }) else ("",{ S with now:= .free (k + 1) })
 | .speaks n ds k=>if ans ((wr n ds).take k ++ [b]) = "six" then faultP S true else if (wr n ds).getD k 0 = 1∧b = 0∧(kp ((wr n ds).take k)).length < 9 then ("loses",{ S with now:= .reads ((wr n ds).take k ++ [b]) }) else if b = (wr n ds).getD k 0 then (if k + 1 = (wr n ds).length then ("",{ S with now:= .tlS 0 0 }) else ("",{ S with now:= .speaks n ds (k + 1) })) else faultP S true
 | .reads h=>if ans (h ++ [b]) = "more" then ("",{ S with now:= .reads (h ++ [b]) }) else if ans (h ++ [b]) = "whole" then ("",{ S with now:= .tlR (nmB (kp (h ++ [b]))) (daB (kp (h ++ [b]))) 0 0 }) else faultP S false
 | .tlS v c=>if tlWord S.vt true v c b = "more" then ("",{ S with now:= .tlS (v + 1) (tlN v b c) }) else if tlWord S.vt true v c b = "fault" then faultP S true else if tlWord S.vt true v c b = "refused" then refuseP S true else ("done",{ S with tot:=mvd S.tot (-1),wt:=S.wt.tail,now:= .rests 3 })
 | .tlR n ds v c=>if tlWord S.vt false v c b = "more" then ("",{ S with now:= .tlR n ds (v + 1) (tlN v b c) }) else if tlWord S.vt false v c b = "fault" then faultP S false else if tlWord S.vt false v c b = "refused" then refuseP S false else ("takes",{ S with tot:=mvd S.tot (-1),up:=if wantP S n = true then S.up ++ [(n,ds)] else S.up,now:= .rests 3 })
 | .flag l m=>if l = 1 then ("",{ S with now:= .settles m }) else ("",{ S with now:= .flag (l - 1) m })
 | .settles m=>if b = 1 then ("",{ S with now:= .rests 3 }) else if m = true then blameP S else ("",S)
 | .rests l=>if b = 0 then faultP S false else ("",{ S with now:=if l = 1 then .free 0 else .rests (l - 1) })
 | .off=>("",S)
def FrN (f:Fr):Prop:=f.1 < 256∧f.2.length≤7∧f.2.all byt = true
theorem FrN.ok {f:Fr} (h:FrN f):FrOk (f.1:Int) f.2:=⟨eV.mpr ⟨by omega,by have:=h.1;omega⟩,h.2.1,h.2.2⟩
def Stc.Wf (wt:List Fr):Stc→Prop
 | .speaks n ds k=>FrN (n,ds)∧1≤k∧k < (wr n ds).length∧wt≠ []
 | .reads h=>Bits h∧On h∧h.head? = some 0
 | .tlS _ _=>wt≠ []
 | .flag l _=>1≤l
 | .rests l=>1≤l
 | _=>True
structure Wf (S:PS):Prop where
 vt:S.vt≤5
 wt:∀f∈S.wt,FrN f
 now:S.now.Wf S.wt
theorem nm3 {l:List Int} (hb:Bits l):szB l≤7:=by
 unfold szB
 have h:=mW (cZ hb 9 3)
 have h2:((l.drop 9).take 3).length≤3:=by rw [List.length_take];omega
 have h3:=Nat.pow_le_pow_right (n:=2) (by decide) h2
 have:(2:Nat) ^ 3 = 8:=rfl
 omega
theorem wL {h:List Int} (hb:Bits h) (ho:On h):h.length≤170:=by
 have e:=wA hb ho.good
 have l:=(jY (kp h)).2
 have s:=nm3 (kI hb)
 have k83:(kp h).length≤83:=by
  by_cases c:12≤(kp h).length
  ·have:=ho.le c;omega
  ·omega
 have:h.length≤(put (kp h)).length:=by
  rw [e]
  split
  ·rw [List.length_append];omega
  ·exact Nat.le_refl _
 omega
theorem kZ {n:Nat} {ds:List Int} (h:FrN (n,ds)):Wr (wr n ds) (fb (n:Int) ds):=⟨rfl,sW _ _,a3D h.1 h.2.1⟩
theorem qP {n:Nat} {ds:List Int} (h:FrN (n,ds)):27≤(wr n ds).length∧(wr n ds).length≤166:=by
 have a:=lU (n:Int) ds
 have b:=jY (fb (n:Int) ds)
 have c:=h.2.1
 have c':ds.length≤7:=c
 show 27≤(put (fb (n:Int) ds)).length∧(put (fb (n:Int) ds)).length≤166
 omega
theorem rQ (n:Nat) (ds:List Int):(wr n ds).head? = some 0:=by
 show (put (fb (n:Int) ds)).head? = some 0
 rw [wB]
 unfold fb hd hdD
 rfl
theorem vM {n:Nat} {ds:List Int}:(wr n ds).take 1 = [0]:=by
 have:=rQ n ds
 generalize wr n ds = w at this
 cases w with
 | nil=>cases this
 | cons a b=>exact congrArg (fun y=>[y]) (Option.some.inj this)
theorem rP {n:Nat} {ds:List Int} (h:FrN (n,ds)):∀k,k < (wr n ds).length→On ((wr n ds).take k)
 | 0,_=>On.nil
 | k + 1,hk=>by
  have ih:=rP h k (by omega)
  have e:(wr n ds).take (k + 1) = (wr n ds).take k ++ [(wr n ds)[k]]:=List.take_succ_eq_append_getElem (by omega)
  have m:=(kZ h).more hk
  rw [e] at m ⊢
  exact ih.next m
theorem uE {w:List Int} {b:Int} (h6:¬ ans (w ++ [b]) = "six") (h9:(kp w).length < 9):ans (w ++ [b]) = "more":=by
 have h1:¬ 5 < run (w ++ [b]):=fun z=>h6 (gZ z)
 refine fP h1 (.inr fun c=>?_)
 have:=c.1
 rw [cO] at this
 split at this
 ·omega
 ·rw [List.length_append,List.length_singleton] at this;omega
theorem lQ {S:PS} {st:Int} {w:Str} {nx:Stc} (h:Wf S) (hn:nx.Wf S.wt):Wf (goneP S st w nx).2:=by
 unfold goneP
 split
 ·exact⟨h.vt,h.wt,trivial⟩
 ·exact⟨h.vt,h.wt,hn⟩
theorem Wf.hear {S:PS} {b:Int} (h:Wf S) (hb:b = 0∨b = 1):Wf (hearP S b).2:=by
 have hf:∀sp,Wf (faultP S sp).2:=fun sp=>lQ h (by show 1≤6;decide)
 have hr:∀sp,Wf (refuseP S sp).2:=fun sp=>lQ h trivial
 have hn:=h.now
 unfold hearP
 cases e:S.now with
 | free k =>
  dsimp only
  split
  ·rename_i c
   split
   ·refine⟨h.vt,h.wt,?_⟩
    have hw:S.wt≠ []:=fun z=>by
     unfold saysP at c
     rw [e] at c
     dsimp only at c
     rw [if_pos z] at c
     cases c
    cases ew:S.wt with
    | nil=>exact absurd ew hw
    | cons f r=>
     have hfn:=h.wt f (by rw [ew];exact List.mem_cons_self)
     have:=qP (n:=f.1) (ds:=f.2) hfn
     exact⟨hfn,Nat.le_refl _,by show 1 < (wr f.1 f.2).length;omega,by intro z;cases z⟩
   ·exact hf true
  ·split
   ·refine⟨h.vt,h.wt,⟨fun z hz=> .inl (List.mem_singleton.mp hz),?_,rfl⟩⟩
    exact On.nil.next (b:=0) (by decide +kernel)
   ·exact⟨h.vt,h.wt,trivial⟩
 | speaks n ds k=>
  rw [e] at hn
  obtain⟨f1,f2,f3,f4⟩:=hn
  dsimp only
  split
  ·exact hf true
  rename_i c6
  split
  ·rename_i c
   have ho:=rP f1 k f3
   refine⟨h.vt,h.wt,⟨?_,ho.next (uE c6 c.2.2),?_⟩⟩
   ·exact cQ (iD (kZ f1).wbits) (fun z hz=>by rw [List.mem_singleton.mp hz];exact hb)
   ·have hh:=rQ n ds
    generalize wr n ds = w at hh f3
    cases w with
    | nil=>cases hh
    | cons x y=>
     cases k with
     | zero=>cases f2
     | succ k=>exact hh
  split
  ·split
   ·exact⟨h.vt,h.wt,f4⟩
   ·exact⟨h.vt,h.wt,⟨f1,by omega,by omega,f4⟩⟩
  ·exact hf true
 | reads r=>
  rw [e] at hn
  obtain⟨f1,f2,f3⟩:=hn
  dsimp only
  split
  ·rename_i c
   refine⟨h.vt,h.wt,⟨cQ f1 (fun z hz=>by rw [List.mem_singleton.mp hz];exact hb),f2.next c,?_⟩⟩
   rw [List.head?_append,f3];rfl
  split
  ·exact⟨h.vt,h.wt,trivial⟩
  ·exact hf false
 | tlS v c=>
  rw [e] at hn
  dsimp only
  split
  ·exact⟨h.vt,h.wt,hn⟩
  split
  ·exact hf true
  split
  ·exact hr true
  ·exact⟨h.vt,fun f hf=>h.wt f (List.mem_of_mem_tail hf),by show 1≤3;decide⟩
 | tlR n ds v c=>
  dsimp only
  split
  ·exact⟨h.vt,h.wt,trivial⟩
  split
  ·exact hf false
  split
  ·exact hr false
  ·exact⟨h.vt,h.wt,by show 1≤3;decide⟩
 | flag l m=>
  rw [e] at hn
  have hl:1≤l:=hn
  dsimp only
  split
  ·exact⟨h.vt,h.wt,trivial⟩
  ·exact⟨h.vt,h.wt,by show 1≤l - 1;omega⟩
 | settles m=>
  dsimp only
  split
  ·exact⟨h.vt,h.wt,by show 1≤3;decide⟩
  split
  ·exact lQ h trivial
  ·exact h
 | rests l=>
  rw [e] at hn
  have hl:1≤l:=hn
  dsimp only
  split
  ·exact hf false
  ·refine⟨h.vt,h.wt,?_⟩
   show Stc.Wf S.wt (if l = 1 then .free 0 else .rests (l - 1))
   split
   ·trivial
   ·show 1≤l - 1;omega
 | off=>exact h
def FrAt (H:Hp) (o:Own) (t:Addr) (f:Fr):Prop:=∃d,H t = some (.tup [.int ((f.1:Nat):Int),.ref d])∧H d = some (.lst (f.2.map V.int))∧o d
inductive FrsAt (H:Hp) (o:Own):List V→List Fr→Prop
 | nil:FrsAt H o [] []
 | cons {t:Addr} {f:Fr} {ts:List V} {fs:List Fr}:FrAt H o t f→FrsAt H o ts fs→FrsAt H o (.ref t :: ts) (f :: fs)
theorem FrsAt.len {H:Hp} {o:Own}:∀{ts:List V} {fs:List Fr},FrsAt H o ts fs→ts.length = fs.length
 | _,_,.nil=>rfl
 | _,_,.cons _ r=>congrArg (· + 1) r.len
theorem FrsAt.snoc {H:Hp} {o:Own} {t:Addr} {f:Fr}:∀{ts:List V} {fs:List Fr},FrsAt H o ts fs→FrAt H o t f→FrsAt H o (ts ++ [.ref t]) (fs ++ [f])
 | _,_,.nil,h=> .cons h .nil
 | _,_,.cons a r,h=> .cons a (r.snoc h)
theorem FrAt.imp {H H':Hp} {o o':Own} {t:Addr} {f:Fr} (h:FrAt H o t f) (g:∀x v,H x = some v→(o x∨isT v)→H' x = some v) (w:∀x,o x→o' x):FrAt H' o' t f:=by
 obtain⟨d,e1,e2,e3⟩:=h
 exact⟨d,g _ _ e1 (.inr ⟨_,rfl⟩),g _ _ e2 (.inl e3),w d e3⟩
theorem FrsAt.imp {H H':Hp} {o o':Own} (g:∀x v,H x = some v→(o x∨isT v)→H' x = some v) (w:∀x,o x→o' x):∀{ts:List V} {fs:List Fr},FrsAt H o ts fs→FrsAt H' o' ts fs
 | _,_,.nil=> .nil
 | _,_,.cons a r=> .cons (a.imp g w) (r.imp g w)
theorem FrsAt.get {H:Hp} {o:Own}:∀{ts:List V} {fs:List Fr},FrsAt H o ts fs→∀{i:Nat} {v:V},ts[i]? = some v→∃t f,v = .ref t∧fs[i]? = some f∧FrAt H o t f
 | _,_,.cons a _,0,_,rfl=>⟨_,_,rfl,rfl,a⟩
 | _,_,.cons _ r,i + 1,_,h=>r.get (i:=i) h
abbrev pF (ch:Addr) (vt:Nat) (wl ul ct nw:Addr):List (Str×V):=[("choice",.ref ch),("votes",.int vt),("waiting",.ref wl),("handed_up",.ref ul),("tally",.ref ct),("now",.ref nw)]
abbrev Dl (o:Own) (wl ul:Addr):Own:=fun x=>o x∧x≠wl∧x≠ul
structure BAt (A:Cs) (H:Hp) (p nwf:Addr) (S:PS) (o:Own) (dx ch wl ul ct:Addr) (ws us:List V):Prop where
 e:H p = some (.ins A.post dx (pF ch S.vt wl ul ct nwf))
 ec:H ch = some (.tup [.int S.m1,.int S.m2])
 ew:H wl = some (.lst ws)
 fw:FrsAt H (Dl o wl ul) ws S.wt
 eu:H ul = some (.lst us)
 fu:FrsAt H (Dl o wl ul) us S.up
 et:CtAt A.count H ct S.tot
 op:o p
 ow:o wl
 ou:o ul
 ot:o ct
 ne:wl≠ul
 al:∀x,o x→H x≠none
def Bd (A:Cs) (H:Hp) (p nwf:Addr) (S:PS) (o:Own):Prop:=∃dx ch wl ul ct ws us,BAt A H p nwf S o dx ch wl ul ct ws us
theorem BAt.move {A:Cs} {H H':Hp} {p nwf:Addr} {S:PS} {o:Own} {dx ch wl ul ct:Addr} {ws us:List V} (h:BAt A H p nwf S o dx ch wl ul ct ws us) (g:∀x v,H x = some v→(o x∨isT v)→H' x = some v):BAt A H' p nwf S o dx ch wl ul ct ws us:=
 ⟨g _ _ h.e (.inl h.op),g _ _ h.ec (.inr ⟨_,rfl⟩),g _ _ h.ew (.inl h.ow),h.fw.imp (fun x v e z=>g x v e (z.imp_left And.left)) fun _ z=>z,g _ _ h.eu (.inl h.ou),h.fu.imp (fun x v e z=>g x v e (z.imp_left And.left)) fun _ z=>z,
  let ⟨d,e⟩:=h.et;⟨d,g _ _ e (.inl h.ot)⟩,h.op,h.ow,h.ou,h.ot,h.ne,fun x hx=>by
   have:=h.al x hx
   cases e:H x with
   | none=>exact absurd e this
   | some v=>rw [g x v e (.inl hx)];simp⟩
theorem Bd.move {A:Cs} {H H':Hp} {p nwf:Addr} {S:PS} {o:Own} (h:Bd A H p nwf S o) (g:∀x v,H x = some v→(o x∨isT v)→H' x = some v):Bd A H' p nwf S o:=
 let ⟨dx,ch,wl,ul,ct,ws,us,b⟩:=h;⟨dx,ch,wl,ul,ct,ws,us,b.move g⟩
theorem Bd.al {A:Cs} {H:Hp} {p nwf:Addr} {S:PS} {o:Own} (h:Bd A H p nwf S o):∀x,o x→H x≠none:=let ⟨_,_,_,_,_,_,_,b⟩:=h;b.al
theorem Bd.op {A:Cs} {H:Hp} {p nwf:Addr} {S:PS} {o:Own} (h:Bd A H p nwf S o):o p:=let ⟨_,_,_,_,_,_,_,b⟩:=h;b.op
theorem Bd.now {A:Cs} {H:Hp} {p nwf:Addr} {S S':PS} {o:Own} (h:Bd A H p nwf S o) (e1:S'.m1 = S.m1) (e2:S'.m2 = S.m2) (e3:S'.vt = S.vt) (e4:S'.wt = S.wt) (e5:S'.up = S.up) (e6:S'.tot = S.tot):Bd A H p nwf S' o:=by
 obtain⟨dx,ch,wl,ul,ct,ws,us,b⟩:=h
 exact⟨dx,ch,wl,ul,ct,ws,us,by rw [e3];exact b.e,by rw [e1,e2];exact b.ec,b.ew,by rw [e4];exact b.fw,b.eu,by rw [e5];exact b.fu,by rw [e6];exact b.et,b.op,b.ow,b.ou,b.ot,b.ne,b.al⟩
def StAt (A:Cs) (H:Hp) (nw:Addr) (vt:Nat) (o:Own):Stc→Prop
 | .free k=>∃dx,H nw = some (.ins A.free dx [("since",.int ((k:Nat):Int))])
 | .speaks n ds k=>∃dx wa r st ks t,H nw = some (.ins A.speaks dx [("wire",.ref wa),("reader",.ref r),("many",.int ((k:Nat):Int))])∧H wa = some (.lst ((wr n ds).map V.int))∧RdAt A.reader A.streak H r st ks ((wr n ds).take k) t∧wa≠ks∧o wa∧o r∧o st∧o ks
 | .reads h=>∃dx r st ks t,H nw = some (.ins A.reads dx [("reader",.ref r),("many",.int ((h.length:Nat):Int))])∧RdAt A.reader A.streak H r st ks h t∧o r∧o st∧o ks
 | .tlS v c=>∃dx tl,H nw = some (.ins A.intail dx [("tail",.ref tl),("found",.non)])∧TlAt A.rtail A.stail H tl vt true v c∧o tl
 | .tlR n ds v c=>∃dx tl t d,H nw = some (.ins A.intail dx [("tail",.ref tl),("found",.ref t)])∧TlAt A.rtail A.stail H tl vt false v c∧H t = some (.tup [.int ((n:Nat):Int),.ref d])∧H d = some (.lst (ds.map V.int))∧o tl∧o d
 | .flag l m=>∃dx,H nw = some (.ins A.flag dx [("left",.int ((l:Nat):Int)),("may_blame",.bl m)])
 | .settles m=>∃dx,H nw = some (.ins A.settles dx [("may_blame",.bl m)])
 | .rests l=>∃dx,H nw = some (.ins A.rests dx [("left",.int ((l:Nat):Int))])
 | .off=>∃dx,H nw = some (.ins A.off dx [])
structure StW (A:Cs) (H:Hp) (nw:Addr) (S:PS) (o:Own):Prop where
 at_:StAt A H nw S.vt o S.now
 on:o nw
 al:∀x,o x→H x≠none
theorem rY {C CK:Addr} {H H':Hp} {r st ks:Addr} {w:List Int} {t:Str} (h:RdAt C CK H r st ks w t) (g1:∀v,H r = some v→H' r = some v) (g2:∀v,H st = some v→H' st = some v) (g3:∀v,H ks = some v→H' ks = some v):RdAt C CK H' r st ks w t:=
 ⟨let ⟨d,e⟩:=h.rd;⟨d,g1 _ e⟩,let ⟨d,e⟩:=h.sk;⟨d,g2 _ e⟩,g3 _ h.kp⟩
theorem StW.move {A:Cs} {H H':Hp} {nw:Addr} {S:PS} {o:Own} (h:StW A H nw S o) (g:∀x v,H x = some v→(o x∨isT v)→H' x = some v):StW A H' nw S o:=by
 obtain⟨a,on,al⟩:=h
 have gn:∀v,H nw = some v→H' nw = some v:=fun v e=>g _ _ e (.inl on)
 refine⟨?_,on,fun x hx=>?_⟩
 ·revert a
  generalize S.now = s
  cases s with
  | free k=>exact fun ⟨dx,e⟩=>⟨dx,gn _ e⟩
  | speaks n ds k=>exact fun ⟨dx,wa,r,st,ks,t,e,e1,e2,e3,o1,o2,o3,o4⟩=>⟨dx,wa,r,st,ks,t,gn _ e,g _ _ e1 (.inl o1),rY e2 (fun v z=>g _ _ z (.inl o2)) (fun v z=>g _ _ z (.inl o3)) (fun v z=>g _ _ z (.inl o4)),e3,o1,o2,o3,o4⟩
  | reads w=>exact fun ⟨dx,r,st,ks,t,e,e2,o2,o3,o4⟩=>⟨dx,r,st,ks,t,gn _ e,rY e2 (fun v z=>g _ _ z (.inl o2)) (fun v z=>g _ _ z (.inl o3)) (fun v z=>g _ _ z (.inl o4)),o2,o3,o4⟩
  | tlS v c=>exact fun ⟨dx,tl,e,⟨C,d,hC,e1⟩,o1⟩=>⟨dx,tl,gn _ e,⟨C,d,hC,g _ _ e1 (.inl o1)⟩,o1⟩
  | tlR n ds v c=>exact fun ⟨dx,tl,t,d,e,⟨C,d',hC,e1⟩,e2,e3,o1,o2⟩=>⟨dx,tl,t,d,gn _ e,⟨C,d',hC,g _ _ e1 (.inl o1)⟩,g _ _ e2 (.inr ⟨_,rfl⟩),g _ _ e3 (.inl o2),o1,o2⟩
  | flag l m=>exact fun ⟨dx,e⟩=>⟨dx,gn _ e⟩
  | settles m=>exact fun ⟨dx,e⟩=>⟨dx,gn _ e⟩
  | rests l=>exact fun ⟨dx,e⟩=>⟨dx,gn _ e⟩
  | off=>exact fun ⟨dx,e⟩=>⟨dx,gn _ e⟩
 ·have:=al x hx
  cases e:H x with
  | none=>exact absurd e this
  | some v=>rw [g x v e (.inl hx)];simp
def PostAt (A:Cs) (H:Hp) (p:Addr) (S:PS) (o:Own):Prop:=∃nw ob os,Bd A H p nw S ob∧StW A H nw S os∧(∀x,ob x→os x→False)∧Wf S∧(∀x,ob x∨os x→o x)∧∀x,o x→H x≠none
theorem PostAt.move {A:Cs} {H H':Hp} {p:Addr} {S:PS} {o:Own} (h:PostAt A H p S o) (g:∀x v,H x = some v→(o x∨isT v)→H' x = some v):PostAt A H' p S o:=by
 obtain⟨nw,ob,os,b,s,d,w,i,al⟩:=h
 refine⟨nw,ob,os,b.move fun x v e z=>g x v e (z.imp_left fun y=>i x (.inl y)),s.move fun x v e z=>g x v e (z.imp_left fun y=>i x (.inr y)),d,w,i,fun x hx=>?_⟩
 have:=al x hx
 cases e:H x with
 | none=>exact absurd e this
 | some v=>rw [g x v e (.inl hx)];simp
theorem PostAt.same {A:Cs} {H H':Hp} {p:Addr} {S:PS} {o:Own} (h:PostAt A H p S o) (g:Same H H'):PostAt A H' p S o:=h.move fun x v e _=>g x v e
theorem PostAt.wf {A:Cs} {H:Hp} {p:Addr} {S:PS} {o:Own} (h:PostAt A H p S o):Wf S:=let ⟨_,_,_,_,_,_,w,_,_⟩:=h;w
theorem PostAt.al {A:Cs} {H:Hp} {p:Addr} {S:PS} {o:Own} (h:PostAt A H p S o):∀x,o x→H x≠none:=let ⟨_,_,_,_,_,_,_,_,a⟩:=h;a
theorem PostAt.new {A:Cs} {H:Hp} {p x:Addr} {S:PS} {o:Own} (h:PostAt A H p S o) (n:H x = none):¬ o x:=fun z=>h.al x z n
theorem at0 {v:V} {vs:List V}:atI (v :: vs) (0:Int) = some v:=fK (j:=0) rfl
theorem sq0 {v:V} {vs:List V}:seqIndex? (0:Int) (v :: vs).length = some 0:=by
 unfold seqIndex?
 rw [List.length_cons]
 simp
theorem bA (H:Hp) (a:Addr) (x y:HO):upd (upd H a x) a y = upd H a y:=by
 funext z
 by_cases h:z = a
 ·rw [h,aB,aB]
 ·rw [aK h,aK h,aK h]
def spIni1 (C:Addr) (f:Str):Sp:=fun vs H Q _=>∃a dx v,vs = [.ref a,v]∧H a = some (.ins C dx [])∧∀H',H' = upd H a (.ins C dx [(f,v)])→Q .non H'
def spIni2 (C:Addr) (f g:Str):Sp:=fun vs H Q _=>∃a dx v w,vs = [.ref a,v,w]∧H a = some (.ins C dx [])∧∀H',H' = upd H a (.ins C dx [(f,v),(g,w)])→Q .non H'
def spIni3 (C:Addr) (f g h:Str):Sp:=fun vs H Q _=>∃a dx v w z,vs = [.ref a,v,w,z]∧H a = some (.ins C dx [])∧∀H',H' = upd H a (.ins C dx [(f,v),(g,w),(h,z)])→Q .non H'
def spBegun (A:Cs):Sp:=fun vs H Q _=>vs = []∧∀r st ks H' t,RdAt A.reader A.streak H' r st ks [0] t→Same H H'→H r = none→H st = none→H ks = none→Q (.ref r) H'
def spBdB (A:Cs) (lim:Int):Sp:=fun vs H Q _=>∃p nwf S o,vs = [.ref p]∧Bd A H p nwf S o∧Q (.bl (decide (lim≤S.tot))) H
def spBdN (A:Cs):Sp:=fun vs H Q _=>∃p nwf S o,vs = [.ref p]∧Bd A H p nwf S o∧Q (.int S.tot) H
def spHas (A:Cs):Sp:=fun vs H Q _=>∃p nwf S o,vs = [.ref p]∧Bd A H p nwf S o∧Q (.bl (decide (0 < (S.wt.length:Int)))) H
def spForemost (A:Cs):Sp:=fun vs H Q _=>∃p nwf S o f r,vs = [.ref p]∧Bd A H p nwf S o∧S.wt = f :: r∧FrN f∧∀pw H',H pw = none→Same H H'→H' pw = some (.lst ((wr f.1 f.2).map V.int))→Q (.ref pw) H'
def spDrop (A:Cs):Sp:=fun vs H Q _=>∃p nwf S o,vs = [.ref p]∧Bd A H p nwf S o∧S.wt≠ []∧∀H',Bd A H' p nwf { S with wt:=S.wt.tail } o→Keep o H H'→Q .non H'
def spHandUp (A:Cs):Sp:=fun vs H Q _=>∃p nwf S o t d n ds,vs = [.ref p,.ref t]∧Bd A H p nwf S o∧H t = some (.tup [.int ((n:Nat):Int),.ref d])∧H d = some (.lst (ds.map V.int))∧¬ o d∧S.up.length < 900∧
 ∀H',Bd A H' p nwf { S with up:=if wantP S n = true then S.up ++ [(n,ds)] else S.up } (Or2 o fun x=>x = d)→Keep o H H'→Q .non H'
def spHand (K:PySem.W.Frag) (A:Cs) (C:Addr):Sp:=fun vs H Q E=>∃p nwf S o n a ds,vs = [.ref p,.int n,.ref a]∧Bd A H p nwf S o∧SqL K H a (ds.map V.int)∧ds.length≤500∧S.wt.length < 900∧
 (FrOk n ds→∀H' d,H d = none→Bd A H' p nwf { S with wt:=S.wt ++ [(n.toNat,ds)] } (Or2 o fun x=>x = d)→Keep o H H'→Q .non H')∧(¬ FrOk n ds→∀H',Same H H'→E (.ref C) none H')
inductive FrsNew (H H':Hp):List V→List Fr→Prop
 | nil:FrsNew H H' [] []
 | cons {t d:Addr} {f:Fr} {ts:List V} {fs:List Fr}:H t = none→H d = none→H' t = some (.tup [.int ((f.1:Nat):Int),.ref d])→H' d = some (.lst (f.2.map V.int))→FrsNew H H' ts fs→FrsNew H H' (.ref t :: ts) (f :: fs)
theorem FrsNew.snoc {H H':Hp} {t d:Addr} {f:Fr} (h1:H t = none) (h2:H d = none) (e1:H' t = some (.tup [.int ((f.1:Nat):Int),.ref d])) (e2:H' d = some (.lst (f.2.map V.int))):∀{ts:List V} {fs:List Fr},FrsNew H H' ts fs→FrsNew H H' (ts ++ [.ref t]) (fs ++ [f])
 | _,_,.nil=> .cons h1 h2 e1 e2 .nil
 | _,_,.cons a1 a2 a3 a4 r=> .cons a1 a2 a3 a4 (r.snoc h1 h2 e1 e2)
theorem FrsNew.same {H H' H2:Hp} (g:Same H' H2):∀{ts:List V} {fs:List Fr},FrsNew H H' ts fs→FrsNew H H2 ts fs
 | _,_,.nil=> .nil
 | _,_,.cons a1 a2 a3 a4 r=> .cons a1 a2 (g _ _ a3) (g _ _ a4) (r.same g)
theorem FrsNew.len {H H':Hp}:∀{ts:List V} {fs:List Fr},FrsNew H H' ts fs→ts.length = fs.length
 | _,_,.nil=>rfl
 | _,_,.cons _ _ _ _ r=>congrArg (· + 1) r.len
def spCopies (K:PySem.W.Frag):Sp:=fun vs H Q _=>∃(a:Addr) (ts:List V) (fs:List Fr) (o:Own),vs = [.ref a]∧H a = some (.lst ts)∧FrsAt H o ts fs∧fs.length≤900∧∀l xs H',H l = none→Same H H'→H' l = some (.lst xs)→FrsNew H H' xs fs→Q (.ref l) H'
def spWaits (A:Cs):Sp:=fun vs H Q _=>∃p nwf S o,vs = [.ref p]∧Bd A H p nwf S o∧S.wt.length≤900∧∀l xs H',H l = none→Same H H'→H' l = some (.lst xs)→FrsNew H H' xs S.wt→Q (.ref l) H'
def spGot (A:Cs):Sp:=fun vs H Q _=>∃p nwf S o,vs = [.ref p]∧Bd A H p nwf S o∧S.up.length≤900∧∀l xs H',H l = none→Same H H'→H' l = some (.lst xs)→FrsNew H H' xs S.up→Q (.ref l) H'
def spUnless (A:Cs):Sp:=fun vs H Q _=>∃p nwf S o w nx,vs = [.ref p,.str w,.ref nx]∧Bd A H p nwf S o∧(¬ 18≤S.tot→∀t H',Same H H'→H' t = some (.tup [.str w,.ref nx])→Q (.ref t) H')∧
 (18≤S.tot→∀t nw dx H',Same H H'→H nw = none→H' nw = some (.ins A.off dx [])→H' t = some (.tup [.str "off",.ref nw])→Q (.ref t) H')
def Aft (A:Cs) (H:Hp) (p nwf:Addr) (o:Own) (r:Str×PS) (t:Addr) (H':Hp):Prop:=∃nw' os',H' t = some (.tup [.str r.1,.ref nw'])∧Bd A H' p nwf r.2 o∧StW A H' nw' r.2 os'∧(∀x,os' x→H x = none)∧Keep o H H'
def Stp (A:Cs) (H:Hp) (p nwf:Addr) (ob os:Own) (r:Str×PS) (t:Addr) (H':Hp):Prop:=∃nw' ob' os',H' t = some (.tup [.str r.1,.ref nw'])∧Bd A H' p nwf r.2 ob'∧StW A H' nw' r.2 os'∧(∀x,ob' x→os' x→False)∧Mv (Or2 ob os) H (Or2 ob' os') H'
def spFault (A:Cs):Sp:=fun vs H Q _=>∃p nwf S o sp,vs = [.ref p,.bl sp]∧Bd A H p nwf S o∧∀t H',Aft A H p nwf o (faultP S sp) t H'→Q (.ref t) H'
def spRefusal (A:Cs):Sp:=fun vs H Q _=>∃p nwf S o sp,vs = [.ref p,.bl sp]∧Bd A H p nwf S o∧∀t H',Aft A H p nwf o (refuseP S sp) t H'→Q (.ref t) H'
def spBlame (A:Cs):Sp:=fun vs H Q _=>∃p nwf S o,vs = [.ref p]∧Bd A H p nwf S o∧∀t H',Aft A H p nwf o (blameP S) t H'→Q (.ref t) H'
theorem iQ {o o':Own} {H H':Hp} {x:Addr} (k:Keep o H H') (n:H' x = none):o x∨H x = none:=by
 rcases Classical.em (o x) with c | c
 ·exact .inl c
 ·right
  cases e:H x with
  | none=>rfl
  | some v=>rw [k x v e (.inl c)] at n;cases n
theorem Aft.stp {A:Cs} {H0 H H':Hp} {p nwf t:Addr} {ob os:Own} {r:Str×PS} {S:PS} (h:Aft A H p nwf ob r t H') (k:Keep (Or2 ob os) H0 H) (b:Bd A H p nwf S ob):Stp A H0 p nwf ob os r t H':=by
 obtain⟨nw',os',e,bd,st,fr,kp⟩:=h
 refine⟨nw',ob,os',e,bd,st,fun x hx hy=>b.al x hx (fr x hy),fun x v ex z=>?_,fun x hx=>?_⟩
 ·exact kp x v (k x v ex z) (z.imp_left fun y w=>y (.inl w))
 ·rcases hx with hx | hx
  ·exact .inl (.inl hx)
  ·exact iQ (o':=ob) k (fr x hx)
theorem Bd.count {A:Cs} {H H':Hp} {p nwf ct:Addr} {S:PS} {o:Own} {dx ch wl ul:Addr} {ws us:List V} {n:Int} (b:BAt A H p nwf S o dx ch wl ul ct ws us) (c:CtAt A.count H' ct n) (k:∀x,x≠ct→H' x = H x):Bd A H' p nwf { S with tot:=n } o∧Keep o H H':=by
 have ne:∀{x:Addr} {v:HO},H x = some v→(∀C d,v≠ .ins C d (ctF S.tot))→x≠ct:=fun {x v} e h z=>by
  obtain⟨d,q⟩:=b.et
  rw [z,q] at e
  exact h _ _ (Option.some.inj e).symm
 have kk:Keep o H H':=fun x v e z=>by
  rw [k x]
  ·exact e
  ·rintro rfl
   rcases z with z | ⟨vs,rfl⟩
   ·exact z b.ot
   ·obtain⟨d,q⟩:=b.et
    rw [q] at e;cases e
 have lk:∀{x:Addr} {l:List V},H x = some (.lst l)→H' x = some (.lst l):=fun {x l} e=>by rw [k x (ne e fun C d z=>nomatch z)];exact e
 have fk:∀{ts:List V} {fs:List Fr},FrsAt H (Dl o wl ul) ts fs→FrsAt H' (Dl o wl ul) ts fs:=fun {ts fs} h=>by
  induction h with
  | nil=>exact .nil
  | cons a _ ih=>
   obtain⟨d,e1,e2,e3⟩:=a
   exact .cons ⟨d,kk.tup e1,lk e2,e3⟩ ih
 refine⟨⟨dx,ch,wl,ul,ct,ws,us,?_,kk.tup b.ec,lk b.ew,fk b.fw,lk b.eu,fk b.fu,c,b.op,b.ow,b.ou,b.ot,b.ne,fun x hx=>?_⟩,kk⟩
 ·rw [k p (ne b.e fun C d z=>by cases z)];exact b.e
 ·by_cases h:x = ct
  ·obtain⟨d,q⟩:=c
   rw [h,q];simp
  ·rw [k x h];exact b.al x hx
def spWanted (K:PySem.W.Frag):Sp:=fun vs H Q _=>∃(c:Addr) (m t n:Int),vs = [.ref c,.int n]∧H c = some (.tup [.int m,.int t])∧Q (.bl (decide (Builtin.bitAnd n m = t))) H
def spChoice (K:PySem.W.Frag) (C:Addr):Sp:=fun vs H Q E=>∃(a:Addr) (ns:List Int),vs = [.ref a]∧SqT K H a (ns.map V.int)∧ns.length≤500∧(ns.all byt = true→∀H',Same H H'→Q .non H')∧(¬ ns.all byt = true→∀H',Same H H'→E (.ref C) none H')
def S0 (m1 m2 v:Nat):PS:=⟨m1,m2,v, [], [],0,.free 0⟩
def PoOk (m1 m2 v:Int):Prop:=byt m1 = true∧byt m2 = true∧(v = 1∨v = 3∨v = 5)
def spPostInit (K:PySem.W.Frag) (A:Cs) (C:Addr):Sp:=fun vs H Q E=>∃(a dx ch:Addr) (m1 m2 v:Int),vs = [.ref a,.ref ch,.int v]∧H a = some (.ins A.post dx [])∧H ch = some (.tup [.int m1,.int m2])∧
 (PoOk m1 m2 v→∀H' o,PostAt A H' a (S0 m1.toNat m2.toNat v.toNat) o→(∀x,o x→x = a∨H x = none)→(∀x u,x≠a→H x = some u→H' x = some u)→Q .non H')∧(¬ PoOk m1 m2 v→∀H',(∀x u,x≠a→H x = some u→H' x = some u)→E (.ref C) none H')
theorem Bd.grow {A:Cs} {H:Hp} {p nwf d:Addr} {S:PS} {o:Own} {v:HO} (h:Bd A H p nwf S o) (e:H d = some v):Bd A H p nwf S (Or2 o fun x=>x = d):=by
 obtain⟨dx,ch,wl,ul,ct,ws,us,b⟩:=h
 refine⟨dx,ch,wl,ul,ct,ws,us,b.e,b.ec,b.ew,b.fw.imp (fun x v e _=>e) (fun x z=>⟨.inl z.1,z.2⟩),b.eu,b.fu.imp (fun x v e _=>e) (fun x z=>⟨.inl z.1,z.2⟩),b.et,.inl b.op,.inl b.ow,.inl b.ou,.inl b.ot,b.ne,fun x hx=>?_⟩
 rcases hx with hx | hx
 ·exact b.al x hx
 ·have hx':x = d:=hx
  rw [hx',e];simp
theorem pU {A:Cs} {H:Hp} {p nwf:Addr} {S:PS} {o:Own} {dx ch wl ul ct a:Addr} {ws us ys:List V} (b:BAt A H p nwf S o dx ch wl ul ct ws us) (ha:a = wl∨a = ul) :
    Keep o H (upd H a (.lst ys))∧upd H a (.lst ys) p = H p∧upd H a (.lst ys) ch = H ch∧upd H a (.lst ys) ct = H ct∧(∀{ts:List V} {fs:List Fr},FrsAt H (Dl o wl ul) ts fs→FrsAt (upd H a (.lst ys)) (Dl o wl ul) ts fs)∧∀x,o x→upd H a (.lst ys) x≠none:=by
  have ea:∃l,H a = some (.lst l):=ha.elim (fun z=>⟨_,z▸b.ew⟩) fun z=>⟨_,z▸b.eu⟩
  obtain⟨l,ea⟩:=ea
  have oa:o a:=ha.elim (fun z=>z▸b.ow) fun z=>z▸b.ou
  have kk:Keep o H (upd H a (.lst ys)):=fun x v e z=>by
    rw [aK]
    · exact e
    · rintro rfl
      rcases z with z | ⟨vs,rfl⟩
      · exact z oa
      · rw [ea] at e;cases e
  have nl:∀{x:Addr} {v:HO},H x = some v→(∀l,v≠ .lst l)→upd H a (.lst ys) x = H x:=fun {x v} e h=>by
    rw [aK]
    rintro rfl
    rw [ea] at e
    exact h _ (Option.some.inj e).symm
  refine⟨kk,nl b.e (fun l z=>nomatch z),nl b.ec (fun l z=>nomatch z),(let ⟨d,e⟩:=b.et;nl e fun l z=>nomatch z),fun {ts fs} h=>?_,fun x hx=>?_⟩
  · induction h with
    | nil=>exact .nil
    | cons a' _ ih=>
      obtain⟨d,e1,e2,e3⟩:=a'
      refine .cons ⟨d,kk.tup e1,?_,e3⟩ ih
      rw [aK (ha.elim (fun z=>z▸e3.2.1) fun z=>z▸e3.2.2)]
      exact e2
  · by_cases h:x = a
    · rw [h,aB];simp
    · rw [aK h];exact b.al x hx
def Stc.tag:Stc→Nat
 | .free _=>0
 | .speaks _ _ _=>1
 | .reads _=>2
 | .tlS _ _=>3
 | .tlR _ _ _ _=>3
 | .flag _ _=>4
 | .settles _=>5
 | .rests _=>6
 | .off=>7
def spShown (A:Cs) (i:Nat):Sp:=fun vs H Q _=>∃nw S o,vs = [.ref nw]∧S.now.tag = i∧StW A H nw S o∧∀t H',H t = none→Same H H'→H' t = some (.tup [.str S.now.shown.1,.int ((S.now.shown.2:Nat):Int)])→Q (.ref t) H'
def spStSays (A:Cs) (i:Nat):Sp:=fun vs H Q _=>∃nw p nwf S ob os,vs = [.ref nw,.ref p]∧S.now.tag = i∧Bd A H p nwf S ob∧StW A H nw S os∧Wf S∧Q (.int (saysP S)) H
def spStStep (A:Cs) (i:Nat):Sp:=fun vs H Q _=>∃nw p nwf S ob os b,vs = [.ref nw,.int b,.ref p]∧S.now.tag = i∧Bd A H p nwf S ob∧StW A H nw S os∧(∀x,ob x→os x→False)∧Wf S∧(b = 0∨b = 1)∧S.up.length < 900∧∀t H',Stp A H p nwf ob os (hearP S b) t H'→Q (.ref t) H'
structure Bef (S S':PS):Prop where
 e1:S'.m1 = S.m1
 e2:S'.m2 = S.m2
 e3:S'.vt = S.vt
 e4:S'.wt = S.wt
 e5:S'.up = S.up
 e6:S'.tot = S.tot
theorem Stp.go {A:Cs} {H0 H1 H':Hp} {p nwf t nw':Addr} {ob os os':Own} {S:PS} {r:Str×PS} (b:Bd A H0 p nwf S ob) (dj:∀x,ob x→os x→False) (k:Keep os H0 H1) (g:Same H1 H') (e:H' t = some (.tup [.str r.1,.ref nw'])) (f:Bef S r.2) (st:StW A H' nw' r.2 os') (fr:∀x,os' x→os x∨H1 x = none):Stp A H0 p nwf ob os r t H':=by
 have b1:Bd A H1 p nwf S ob:=b.move fun x v e z=>k x v e (z.imp_left fun y w=>dj x y w)
 refine⟨nw',ob,os',e,(b1.move fun x v e _=>g x v e).now f.e1 f.e2 f.e3 f.e4 f.e5 f.e6,st,fun x hx hy=>?_,fun x v ex z=>g x v (k x v ex (z.imp_left fun y w=>y (.inr w))),fun x hx=>?_⟩
 ·exact(fr x hy).elim (dj x hx) (b1.al x hx)
 ·rcases hx with hx | hx
  ·exact .inl (.inl hx)
  ·rcases fr x hx with h | h
   ·exact .inl (.inr h)
   ·exact(iQ (o':=ob) k h).imp_left .inr
theorem Stp.go2 {A:Cs} {H0 H1 H':Hp} {p nwf t nw':Addr} {ob os ob' os':Own} {r:Str×PS} (b:Bd A H1 p nwf r.2 ob') (k:Keep (Or2 ob os) H0 H1) (g:Same H1 H') (e:H' t = some (.tup [.str r.1,.ref nw'])) (st:StW A H' nw' r.2 os') (fr:∀x,os' x→H1 x = none) (fo:∀x,ob' x→Or2 ob os x∨H0 x = none):Stp A H0 p nwf ob os r t H':=by
 refine⟨nw',ob',os',e,b.move fun x v e _=>g x v e,st,fun x hx hy=>b.al x hx (fr x hy),fun x v ex z=>g x v (k x v ex z),fun x hx=>?_⟩
 rcases hx with hx | hx
 ·exact fo x hx
 ·exact iQ (o':=ob) k (fr x hx)
theorem dX {A:Cs} {H:Hp} {nw:Addr} {S:PS} {v:HO} (e:H nw = some v) (h:StAt A H nw S.vt (fun x=>x = nw) S.now):StW A H nw S (fun x=>x = nw):=⟨h,rfl,fun x hx=>by
 have hx':x = nw:=hx
 rw [hx',e];simp⟩
theorem iG {S:PS} {k:Nat} (e:S.now = .free k):saysP S = if S.wt = [] then 1 else if 12≤S.tot∧k < 8 then 1 else 0:=by unfold saysP;rw [e]
def spPoShown (A:Cs):Sp:=fun vs H Q _=>∃p S o,vs = [.ref p]∧PostAt A H p S o∧∀t H',H t = none→Same H H'→H' t = some (.tup [.str S.now.shown.1,.int ((S.now.shown.2:Nat):Int)])→Q (.ref t) H'
def spPoSays (A:Cs):Sp:=fun vs H Q _=>∃p S o,vs = [.ref p]∧PostAt A H p S o∧Q (.int (saysP S)) H
def spPoHear (A:Cs):Sp:=fun vs H Q _=>∃p S o b,vs = [.ref p,.int b]∧PostAt A H p S o∧(b = 0∨b = 1)∧S.up.length < 900∧∀H' o',PostAt A H' p (hearP S b).2 o'→Mv o H o' H'→Q (.str (hearP S b).1) H'
theorem lK {H:Hp} {x y C D dx dy:Addr} {fs gs:List (Str×V)} {v:V} (f:Str) (e1:H x = some (.ins C dx fs)) (e2:H y = some (.ins D dy gs)) (h1:fs.lookup f = some v) (h2:gs.lookup f = none):x≠y:=fun z=>by
 rw [z,e2] at e1
 have:=Option.some.inj e1
 injection this with _ _ h
 rw [←h,h2] at h1
 cases h1
theorem sI {H:Hp} {x y C dx:Addr} {fs:List (Str×V)} {l:List V} (e1:H x = some (.ins C dx fs)) (e2:H y = some (.lst l)):x≠y:=fun z=>by
 rw [z,e2] at e1
 cases e1
theorem sU {C CK:Addr} {H H1:Hp} {r st ks:Addr} {w:List Int} {t:Str} {o:Own} (h:RdAt C CK H r st ks w t) (b:But3 H H1 r st ks) (o1:o r) (o2:o st) (o3:o ks):Keep o H H1:=fun x v e z=>by
 refine b x v ?_ ?_ ?_ e
 ·rintro rfl
  rcases z with z | ⟨vs,rfl⟩
  ·exact z o1
  ·obtain⟨d,q⟩:=h.rd;rw [q] at e;cases e
 ·rintro rfl
  rcases z with z | ⟨vs,rfl⟩
  ·exact z o2
  ·obtain⟨d,q⟩:=h.sk;rw [q] at e;cases e
 ·rintro rfl
  rcases z with z | ⟨vs,rfl⟩
  ·exact z o3
  ·rw [h.kp] at e;cases e
theorem sS {C1 C2:Addr} {H H1:Hp} {tl:Addr} {v n c:Nat} {s:Bool} {o:Own} (h:TlAt C1 C2 H tl v s n c) (b:But1 H H1 tl) (o1:o tl):Keep o H H1:=fun x u e z=>by
 refine b x u ?_ e
 rintro rfl
 rcases z with z | ⟨vs,rfl⟩
 ·exact z o1
 ·obtain⟨C,d,_,q⟩:=h;rw [q] at e;cases e
theorem kJ {A:Cs} {H H1:Hp} {p nwf:Addr} {S:PS} {ob os:Own} (bd:Bd A H p nwf S ob) (dj:∀x,ob x→os x→False) (k:Keep os H H1):Bd A H1 p nwf S ob:=bd.move fun x v e z=>k x v e (z.imp_left fun y w=>dj x y w)
theorem getD_get {w:List Int} {k:Nat} (h:k < w.length):w.getD k 0 = w[k]:=by rw [List.getD_eq_getElem?_getD,List.getElem?_eq_getElem h];rfl
theorem gJ {A:Cs} {H0 H1 H':Hp} {p nwf t nw':Addr} {ob os:Own} {S:PS} {r:Str×PS} {v:HO} (b:Bd A H0 p nwf S ob) (dj:∀x,ob x→os x→False) (k:Keep os H0 H1) (g:Same H1 H') (e:H' t = some (.tup [.str r.1,.ref nw'])) (f:Bef S r.2) (hn:H1 nw' = none) (en:H' nw' = some v) (sa:StAt A H' nw' r.2.vt (fun x=>x = nw') r.2.now):Stp A H0 p nwf ob os r t H':=
 Stp.go b dj k g e f (dX en sa) fun x hx=> .inr (by have hx':x = nw':=hx;rw [hx'];exact hn)
theorem gR {S:PS} {k:Nat} {b:Int} (e:S.now = .free k):hearP S b = (if saysP S = 0 then (if b = 0 then ("begins",{ S with now:= .speaks (S.wt.headD (0, [])).1 (S.wt.headD (0, [])).2 1 }) else faultP S true) else if b = 0 then ("",{ S with now:= .reads [0] }) else ("",{ S with now:= .free (k + 1) }):Str×PS):=by unfold hearP;rw [e]
theorem gU {S:PS} {l:Nat} {m:Bool} {b:Int} (e:S.now = .flag l m):hearP S b = (if l = 1 then ("",{ S with now:= .settles m }) else ("",{ S with now:= .flag (l - 1) m }):Str×PS):=by unfold hearP;rw [e]
theorem eO {S:PS} {m:Bool} {b:Int} (e:S.now = .settles m):hearP S b = (if b = 1 then ("",{ S with now:= .rests 3 }) else if m = true then blameP S else ("",S):Str×PS):=by unfold hearP;rw [e]
theorem fZ {S:PS} {l:Nat} {b:Int} (e:S.now = .rests l):hearP S b = (if b = 0 then faultP S false else ("",{ S with now:=if l = 1 then .free 0 else .rests (l - 1) }):Str×PS):=by unfold hearP;rw [e]
theorem iU {S:PS} {b:Int} (e:S.now = .off):hearP S b = (("",S):Str×PS):=by unfold hearP;rw [e]
theorem gA {S:PS} {h:List Int} {b:Int} (e:S.now = .reads h):hearP S b = (if ans (h ++ [b]) = "more" then ("",{ S with now:= .reads (h ++ [b]) }) else if ans (h ++ [b]) = "whole" then ("",{ S with now:= .tlR (nmB (kp (h ++ [b]))) (daB (kp (h ++ [b]))) 0 0 }) else faultP S false:Str×PS):=by unfold hearP;rw [e]
theorem fJ {S:PS} {n:Nat} {ds:List Int} {k:Nat} {b:Int} (e:S.now = .speaks n ds k):hearP S b = (if ans ((wr n ds).take k ++ [b]) = "six" then faultP S true else if (wr n ds).getD k 0 = 1∧b = 0∧(kp ((wr n ds).take k)).length < 9 then ("loses",{ S with now:= .reads ((wr n ds).take k ++ [b]) }) else if b = (wr n ds).getD k 0 then (if k + 1 = (wr n ds).length then ("",{ S with now:= .tlS 0 0 }) else ("",{ S with now:= .speaks n ds (k + 1) })) else faultP S true:Str×PS):=by unfold hearP;rw [e]
theorem iR {S:PS} {v c:Nat} {b:Int} (e:S.now = .tlS v c):hearP S b = (if tlWord S.vt true v c b = "more" then ("",{ S with now:= .tlS (v + 1) (tlN v b c) }) else if tlWord S.vt true v c b = "fault" then faultP S true else if tlWord S.vt true v c b = "refused" then refuseP S true else ("done",{ S with tot:=mvd S.tot (-1),wt:=S.wt.tail,now:= .rests 3 }):Str×PS):=by unfold hearP;rw [e]
theorem iT {S:PS} {n:Nat} {ds:List Int} {v c:Nat} {b:Int} (e:S.now = .tlR n ds v c):hearP S b = (if tlWord S.vt false v c b = "more" then ("",{ S with now:= .tlR n ds (v + 1) (tlN v b c) }) else if tlWord S.vt false v c b = "fault" then faultP S false else if tlWord S.vt false v c b = "refused" then refuseP S false else ("takes",{ S with tot:=mvd S.tot (-1),up:=if wantP S n = true then S.up ++ [(n,ds)] else S.up,now:= .rests 3 }):Str×PS):=by unfold hearP;rw [e]
structure Mid (H:Hp) (a:Addr) (v:HO) (cs:List (Addr×HO)) (Hx:Hp):Prop where
 ea:Hx a = some v
 kp:∀x u,x≠a→H x = some u→Hx x = some u
 nw:∀c∈cs,H c.1 = none∧c.1≠a∧Hx c.1 = some c.2
 nd:(cs.map Prod.fst).Nodup
theorem Mid.set {H:Hp} {a:Addr} {v:HO} {cs:List (Addr×HO)} {Hx:Hp} (m:Mid H a v cs Hx) (v':HO):Mid H a v' cs (upd Hx a v'):=
 ⟨aB,fun x u hx h=>by rw [aK hx];exact m.kp x u hx h,fun c hc=>⟨(m.nw c hc).1,(m.nw c hc).2.1,by rw [aK (m.nw c hc).2.1];exact(m.nw c hc).2.2⟩,m.nd⟩
theorem Mid.add {H:Hp} {a y:Addr} {v o:HO} {cs:List (Addr×HO)} {Hx Hy:Hp} (m:Mid H a v cs Hx) (hn:Hx y = none) (g:Same Hx Hy) (e:Hy y = some o):Mid H a v ((y,o) :: cs) Hy:=by
 have ya:y≠a:=fun z=>by rw [z,m.ea] at hn;cases hn
 refine⟨g _ _ m.ea,fun x u hx h=>g _ _ (m.kp x u hx h),fun c hc=>?_,List.nodup_cons.mpr ⟨fun h=>?_,m.nd⟩⟩
 ·rcases List.mem_cons.mp hc with rfl | hc
  ·refine⟨?_,ya,e⟩
   cases eh:H y with
   | none=>rfl
   | some u=>rw [m.kp y u ya eh] at hn;cases hn
  ·exact⟨(m.nw c hc).1,(m.nw c hc).2.1,g _ _ (m.nw c hc).2.2⟩
 ·obtain⟨c,hc,ec⟩:=List.mem_map.mp h
  have:=(m.nw c hc).2.2
  rw [ec,hn] at this
  cases this
theorem jE {A:Cs} {H H1:Hp} {p nwf x:Addr} {S:PS} {o:Own} (b:Bd A H1 p nwf S o) (k:Keep o H H1) (n:H1 x = none):H x = none:=by
 rcases iQ (o':=o) k n with h | h
 ·exact absurd n (b.al x h)
 ·exact h
theorem cU {A:Cs} {H':Hp} {p nwf nw':Addr} {S:PS} {ob' os':Own} {b:Int} (wf:Wf S) (hb:b = 0∨b = 1) (b':Bd A H' p nwf (hearP S b).2 ob') (s':StW A H' nw' (hearP S b).2 os') (dj':∀x,ob' x→os' x→False)
    {dp ch wl ul ct:Addr} {ws us:List V} (bb:BAt A H' p nwf (hearP S b).2 ob' dp ch wl ul ct ws us) :
    PostAt A (upd H' p (.ins A.post dp (pF ch (hearP S b).2.vt wl ul ct nw'))) p (hearP S b).2 (Or2 ob' os')∧Keep (fun x=>x = p) H' (upd H' p (.ins A.post dp (pF ch (hearP S b).2.vt wl ul ct nw'))):=by
  have kk:Keep (fun x=>x = p) H' (upd H' p (.ins A.post dp (pF ch (hearP S b).2.vt wl ul ct nw'))):=fun x v e z=>by
    rw [aK]
    · exact e
    · rintro rfl
      rcases z with z | ⟨vs,rfl⟩
      · exact z rfl
      · rw [bb.e] at e;cases e
  have ne:∀{x:Addr} {v:HO},H' x = some v→x≠p→upd H' p (.ins A.post dp (pF ch (hearP S b).2.vt wl ul ct nw')) x = some v:=fun e h=>by rw [aK h];exact e
  have nl:∀{x:Addr} {l:List V},H' x = some (.lst l)→x≠p:=fun e z=>by rw [z,bb.e] at e;cases e
  have fk:∀{ts:List V} {fs:List Fr},FrsAt H' (Dl ob' wl ul) ts fs→FrsAt (upd H' p (.ins A.post dp (pF ch (hearP S b).2.vt wl ul ct nw'))) (Dl ob' wl ul) ts fs:=fun {ts fs} h=>by
    induction h with
    | nil=>exact .nil
    | cons a _ ih=>
      obtain⟨d,e1,e2,e3⟩:=a
      exact .cons ⟨d,kk.tup e1,ne e2 (nl e2),e3⟩ ih
  have al:∀x,Or2 ob' os' x→upd H' p (.ins A.post dp (pF ch (hearP S b).2.vt wl ul ct nw')) x≠none:=fun x hx=>by
    by_cases h:x = p
    · rw [h,aB];simp
    · rw [aK h];exact hx.elim (bb.al x) (s'.al x)
  obtain⟨dc,ec⟩:=id bb.et
  have ncp:ct≠p:=lK "total" ec bb.e rfl rfl
  refine⟨⟨nw',ob',os',⟨dp,ch,wl,ul,ct,ws,us,aB,kk.tup bb.ec,ne bb.ew (nl bb.ew),fk bb.fw,ne bb.eu (nl bb.eu),fk bb.fu,⟨dc,ne ec ncp⟩,bb.op,bb.ow,bb.ou,bb.ot,bb.ne,fun x hx=>al x (.inl hx)⟩,s'.move fun x v e z=>kk x v e (z.imp_left fun y w=>dj' x (by have w':x = p:=w;rw [w'];exact bb.op) y),dj',wf.hear hb,fun x hx=>hx,al⟩,kk⟩
abbrev FB (P:Program) (w:World) (K:PySem.W.Frag) (mg:Str→Option Value) (base:Heap) (CX:CXT) (k:Nat) (nm:Str) (a:Addr) (d:FuncData) (ps:List Str) (sp:Sp):Prop:=FnOk P w K mg base CX k a d ps sp∧Binds K d ps []∧PySem.W.keepIn K (.ref a) = true∧mg nm = some (.ref a)
abbrev MB (P:Program) (w:World) (K:PySem.W.Frag) (mg:Str→Option Value) (base:Heap) (CX:CXT) (k:Nat) (a:Addr) (d:FuncData) (ps:List Str) (sp:Sp):Prop:=FnOk P w K mg base CX k a d ps sp∧Binds K d ps []
abbrev FL (K:PySem.W.Frag) (f:Addr) (n q:Str) (st:Stmt) (oc:Value) (od:Option Addr) (kV dc pm:Value) (an:Option Addr) (cd ct:Value) (sl:Array (Option Value)):Prop:=K.lookup f = some ⟨oc,od,.func (PySem.W.fnOf n q (defArgs st) (defBody st) (defScope st) .none kV dc pm an cd ct),sl⟩
structure GFm (K:PySem.W.Frag) (mg:Str→Option Value) (nm:Str) (st:Stmt) (f:Addr) (d:FuncData):Prop where
 F:Fun K nm nm st f d
 m:mg nm = some (.ref f)
def GF (K:PySem.W.Frag) (mg:Str→Option Value) (nm:Str) (st:Stmt) (f:Addr):Prop:=∃d,GFm K mg nm st f d
def MF (K:PySem.W.Frag) (C:Addr) (x q:Str) (st:Stmt) (f:Addr):Prop:=PySem.W.findIn K (.ref C) x = some (some (.ref f))∧∃d,Fun K x q st f d
theorem gf_mk {K:PySem.W.Frag} {h:Heap} {mg:Str→Option Value} {nm:Str} {st:Stmt} {f:Addr} {oc kV dc pm cd ct:Value} {od an:Option Addr} {sl:Array (Option Value)} (X:K.In h) (G:h.Ns mainGlobals mg) (a:PySem.W.nsIn K mainGlobals nm = some (some (.ref f))) (l:FL K f nm nm st oc od kV dc pm an cd ct sl) (c:PySem.W.codeIn K cd nm = true) (k:PySem.W.keepIn K (.ref f) = true):GF K mg nm st f:=⟨_,xZ l c k,PySem.W.mg_of X G a⟩
theorem mf_mk {K:PySem.W.Frag} {C:Addr} {x q:Str} {st:Stmt} {f:Addr} {oc kV dc pm cd ct:Value} {od an:Option Addr} {sl:Array (Option Value)} (a:PySem.W.findIn K (.ref C) x = some (some (.ref f))) (l:FL K f x q st oc od kV dc pm an cd ct sl) (c:PySem.W.codeIn K cd q = true) (k:PySem.W.keepIn K (.ref f) = true):MF K C x q st f:=⟨a,_,xZ l c k⟩
abbrev HB (x q:Str) (st:Stmt) (ps:List Str):Prop:=∀(kV doc pm:Value) (an:Option Addr) (cdv ct:Value) (us:List Value),us.length = ps.length→bindArgs (PySem.W.fnOf x q (defArgs st) (defBody st) (defScope st) .none kV doc pm an cdv ct) ⟨us, []⟩ = pure (ps.zip us)
theorem bi0 {d:FuncData} (h:bindArgs d ⟨[], []⟩ = pure []):∀us:List Value,us.length = ([]:List Str).length→bindArgs d ⟨us, []⟩ = pure (([]:List Str).zip us) | [],_=>h
theorem bi1 {d:FuncData} {a:Str} (h:∀u,bindArgs d ⟨[u], []⟩ = pure [(a,u)]):∀us:List Value,us.length = [a].length→bindArgs d ⟨us, []⟩ = pure ([a].zip us) | [u],_=>h u
theorem bi2 {d:FuncData} {a b:Str} (h:∀u v,bindArgs d ⟨[u,v], []⟩ = pure [(a,u),(b,v)]):∀us:List Value,us.length = [a,b].length→bindArgs d ⟨us, []⟩ = pure ([a,b].zip us) | [u,v],_=>h u v
theorem bi3 {d:FuncData} {a b c:Str} (h:∀u v x,bindArgs d ⟨[u,v,x], []⟩ = pure [(a,u),(b,v),(c,x)]):∀us:List Value,us.length = [a,b,c].length→bindArgs d ⟨us, []⟩ = pure ([a,b,c].zip us) | [u,v,x],_=>h u v x
theorem bi4 {d:FuncData} {a b c e:Str} (h:∀u v x y,bindArgs d ⟨[u,v,x,y], []⟩ = pure [(a,u),(b,v),(c,x),(e,y)]):∀us:List Value,us.length = [a,b,c,e].length→bindArgs d ⟨us, []⟩ = pure ([a,b,c,e].zip us) | [u,v,x,y],_=>h u v x y
theorem bi6 {d:FuncData} {a b c e f g:Str} (h:∀u v x y z t,bindArgs d ⟨[u,v,x,y,z,t], []⟩ = pure [(a,u),(b,v),(c,x),(e,y),(f,z),(g,t)]):∀us:List Value,us.length = [a,b,c,e,f,g].length→bindArgs d ⟨us, []⟩ = pure ([a,b,c,e,f,g].zip us) | [u,v,x,y,z,t],_=>h u v x y z t
theorem bi7 {d:FuncData} {a b c e f g k:Str} (h:∀u v x y z t r,bindArgs d ⟨[u,v,x,y,z,t,r], []⟩ = pure [(a,u),(b,v),(c,x),(e,y),(f,z),(g,t),(k,r)]):∀us:List Value,us.length = [a,b,c,e,f,g,k].length→bindArgs d ⟨us, []⟩ = pure ([a,b,c,e,f,g,k].zip us) | [u,v,x,y,z,t,r],_=>h u v x y z t r
theorem sco {N ps:List Str} {sc:Scope} (h1:sc.kind = .function∧sc.isCoroutine = false∧sc.isGenerator = false) (h2:N.Nodup∧N.take ps.length = ps∧(∀x∈ps,sc.names.lookup x = some .local∨sc.names.lookup x = some .cell)∧∀y∈sc.names,y.2≠ .free):FnScope N ps sc:=⟨h1.1,h1.2.1,h1.2.2,h2.1,h2.2.1,h2.2.2.1,h2.2.2.2⟩
section
variable {P:Program} {w:World} {K:PySem.W.Frag} {mg:Str→Option Value} {base:Heap} {CX:CXT} {x q:Str} {st:Stmt} {f:Addr} {fd:FuncData} {ps:List Str} {k:Nat} {sp:Sp}
theorem mbM (N:List Str) (F:Fun K x q st f fd) (g:FnScope N ps (defScope st)→FnOk P w K mg base CX k f fd ps sp) (S:FnScope N ps (defScope st):=by exact sco ⟨rfl,rfl,rfl⟩ (by decide +kernel))
    (hb:HB x q st ps:=by first | exact fun _ _ _ _ _ _=>bi1 fun _=>rfl | exact fun _ _ _ _ _ _=>bi2 fun _ _=>rfl | exact fun _ _ _ _ _ _=>bi3 fun _ _ _=>rfl | exact fun _ _ _ _ _ _=>bi4 fun _ _ _ _=>rfl | exact fun _ _ _ _ _ _=>bi5 fun _ _ _ _ _=>rfl | exact fun _ _ _ _ _ _=>bi6 fun _ _ _ _ _ _=>rfl | exact fun _ _ _ _ _ _=>bi7 fun _ _ _ _ _ _ _=>rfl | exact fun _ _ _ _ _ _=>bi0 rfl):MB P w K mg base CX k f fd ps sp:=⟨g S,F.binds hb⟩
theorem fbM (N:List Str) (F:GFm K mg x st f fd) (g:FnScope N ps (defScope st)→FnOk P w K mg base CX k f fd ps sp) (S:FnScope N ps (defScope st):=by exact sco ⟨rfl,rfl,rfl⟩ (by decide +kernel))
    (hb:HB x x st ps:=by first | exact fun _ _ _ _ _ _=>bi1 fun _=>rfl | exact fun _ _ _ _ _ _=>bi2 fun _ _=>rfl | exact fun _ _ _ _ _ _=>bi3 fun _ _ _=>rfl | exact fun _ _ _ _ _ _=>bi4 fun _ _ _ _=>rfl | exact fun _ _ _ _ _ _=>bi5 fun _ _ _ _ _=>rfl | exact fun _ _ _ _ _ _=>bi6 fun _ _ _ _ _ _=>rfl | exact fun _ _ _ _ _ _=>bi7 fun _ _ _ _ _ _ _=>rfl | exact fun _ _ _ _ _ _=>bi0 rfl):FB P w K mg base CX k x f fd ps sp:=⟨g S,F.F.binds hb,F.F.kp,F.m⟩
end
section
variable (P:Program) (w:World) {K:PySem.W.Frag} (mg:Str→Option Value) (base:Heap) {CA:Cs}
variable {Zd4 ZcG Zc2 ZbW ZiM Zhf Zhd ZiN ZiP ZhP ZiO Zko ZfH Zgg ZiQ Zhg ZfJ Zgh ZdY Zdi ZdX Zdz Zdy Ze6 ZdN Zdo ZcB Zbz ZdM Zdh Zc1 Zeq ZcY Zdu Zdv Zer ZdQ ZdP Zep ZeW ZeY Zd1 Zeu ZdR Zdd ZdA Zex Zdg ZdV ZdU Zc0 ZbV ZbU Zhe Zdx Ze2 Zkn Zet ZfO Zgj ZhQ Zgi ZhO ZfI ZeX Ze4 Zes ZdD ZdZ Zdw ZcZ Zdj Zd0 Ze1 ZeZ Zd2 Zev ZdS Zde ZdB Zey ZfM ZfN Zdf ZdC Zez Ze0 Zew Zd3 ZdT ZdW Ze5 Ze3 Zg8 Zg6 Zhb ZfD Zgc Zha Zg7 Zg9 Zgf ZfG Zhc ZfF ZfC Zge Zgd ZfE ZmJ ZmY Zl0 ZmI Zdn Zgb ZdL ZkY:Addr}
variable {Zh9 ZfK Zgo ZeC Zlp ZjX ZjV Zlq Zls ZkC Zlr Zl2 Zif Zi7 Zlt ZjY Zih Zi8 Zh3 Zgz Zh2 Zhm Zhl ZjM ZjN Zi2 ZgB Zfc ZjL Zgy Zgn ZiS Zgk Zhh Zhi ZiT ZhV ZhU ZiR Zhr ZjD Zh6 ZiW ZhW Zgu Zhn ZiZ Zgx Zh0 ZhZ Zgm ZeB ZeA ZjW Zhk ZjH Zl1 ZiV ZkA Zja ZkD Zi9 ZkB Zig Zhs ZjJ ZiU Zhq Zh4 Zhj Zgl ZgA Zh5 ZjG ZjE Zh7 ZiX ZhX Zgv Zho Zi0 Zky Zkz Zgw Zhp Zi1 ZjF ZiY Zh8 ZhY Zh1 ZjK ZjI ZjQ ZjO ZjT Zib Zi3 ZjS ZjP ZjR Zi6 Zie ZjU Zid Zia Zi5 Zi4 Zic ZmV:FuncData}
variable {Zln ZlT ZlV Zmu ZmP Zm0 Zmr ZmG Zlo Zms ZmU ZmH ZmT ZmD Zmt ZmC ZmQ ZmF Zmv ZlU ZmE:Tok}
variable (Zck:mg "MOST_ALIKE" = some (.int 5 Zms))
variable (Zau:mg "NoBits" = some (.ref Zl0))
variable (ZdH:mg "HIGHEST_BYTE" = some (.int 255 Zln))
variable (ZH:mg "NoKey" = some (.ref ZmI))
variable (ZlW:mg "KEY" = some (.int 64647 Zm0))
variable (ZbA:mg "CHECK_BITS" = some (.int 15 Zmr))
variable (ZdI:mg "HIGHEST_NAME" = some (.int 255 Zlo))
variable (Zef:mg "Streak" = some (.ref CA.streak))
variable (Zu:mg "NoFrame" = some (.ref Zdn))
variable (ZeF:mg "MOST_BYTES" = some (.int 7 Zmt))
variable (Ze9:mg "NAME_BITS" = some (.int 8 ZmG))
variable (Zfa:mg "SIZE_BITS" = some (.int 3 ZmH))
variable (ZaP:mg "BYTE_BITS" = some (.int 8 ZmD))
variable (Zdp:mg "SIZE_AT" = some (.int 9 ZmU))
variable (ZbB:mg "DATA_AT" = some (.int 12 ZmT))
variable (ZcF:mg "ANSWER_AT" = some (.int 1 ZmC))
variable (Zc5:mg "VOTES_AT" = some (.int 9 ZmQ))
variable (Zdq:mg "Tail" = some (.ref ZdL))
variable (ZeG:mg "QUIET_FROM" = some (.int 12 Zmu))
variable (ZfP:mg "OFF_FROM" = some (.int 18 ZmP))
variable (ZbT:mg "GREAT_FAULT" = some (.int 8 ZlT))
variable (Zd7:mg "SMALL_FAULT" = some (.int 1 ZlV))
variable (ZhR:mg "Reader" = some (.ref CA.reader))
variable (ZlX:mg "Off" = some (.ref CA.off))
variable (Zc4:mg "Flagging" = some (.ref CA.flag))
variable (Ze8:mg "FLAG_BITS" = some (.int 6 ZmF))
variable (Zcb:mg "Settles" = some (.ref CA.settles))
variable (Zeg:mg "VOTES" = some (.ref ZkY))
variable (Zcl:mg "NoPost" = some (.ref Zgb))
variable (Zjw:mg "Count" = some (.ref CA.count))
variable (ZdO:mg "Free" = some (.ref CA.free))
variable (Zd6:mg "QUIET_TURNS" = some (.int 8 ZlU))
variable (ZcR:mg "Rests" = some (.ref CA.rests))
variable (ZbC:mg "REST_TURNS" = some (.int 3 Zmv))
variable (Zee:mg "Speaks" = some (.ref CA.speaks))
variable (Zdc:mg "Reads" = some (.ref CA.reads))
variable (Zed:mg "InTail" = some (.ref CA.intail))
variable (ZfQ:mg "ReadTail" = some (.ref CA.rtail))
variable (Ze7:mg "DUEL_BITS" = some (.int 9 ZmE))
variable (Zfb:mg "SpeakTail" = some (.ref CA.stail))
variable (ZkE:mg "Post" = some (.ref CA.post))
variable (Zao:mg "range" = none)
variable (ZlY:mg "all" = none)
variable (ZbD:mg "list" = none)
variable (ZZ:mg "len" = none)
variable (ZhS:mg "max" = none)
variable (ZdJ:mg "int" = none)
variable (ZaQ:mg "isinstance" = none)
variable (ZhT:mg "str" = none)
variable (Zjx:mg "tuple" = none)
variable (ZkF:mg "bool" = none)
variable (ZlZ:mg "min" = none)
variable (ZdG:TupK K ZkY [1,3,5])
variable (Ze:TCl K CA.rtail)
variable (Zd:TCl K CA.stail)
variable (Zj:Cls K CA.streak)
variable (Zbl:Mk K CA.streak Zd4)
variable (Zf:Cls K CA.reader)
variable (Zae:CMeth K ZdL "__init__" Ze6)
variable (Zc:Cls K CA.count)
variable (ZdF:Mk K CA.reader ZdY)
variable (Zt:Cls K CA.free)
variable (Zg:Cls K CA.speaks)
variable (Zr:Cls K CA.reads)
variable (Zk:Cls K CA.intail)
variable (Zm:Cls K CA.flag)
variable (ZA:Cls K CA.settles)
variable (Zx:Cls K CA.rests)
variable (Za:Cls K CA.post)
variable (ZaS:Mk K CA.flag Zdd)
variable (Zan:Mk K CA.settles ZdA)
variable (Zd5:Mk K CA.count Zeq)
variable (ZaL:Mk K CA.free ZeY)
variable (Zaq:Mk K CA.rests Zex)
variable (Zbk:Mk K CA.speaks Zd1)
variable (ZaB:Mk K CA.reads Zeu)
variable (Zbj:Mk K CA.intail ZdR)
variable (Zc3:Mk K CA.rtail Zdh)
variable (ZcH:Mk K CA.stail Zc1)
variable (ZaK:Cls K CA.off)
variable (ZeD:Mk K CA.post Ze4)
variable (ZQ:Meth K CA.streak "lengthen" ZcG)
variable (ZB:Meth K CA.streak "is_full" Zc2)
variable (ZaH:Meth K CA.streak "is_too_long" ZbW)
variable (Zbb:Meth K CA.reader "judged" Zdi)
variable (ZaX:Meth K CA.rtail "is_fault" ZcB)
variable (ZaR:Meth K CA.stail "is_fault" ZcB)
variable (ZaI:Meth K CA.rtail "judged_vote" Zbz)
variable (Zav:Meth K CA.stail "judged_vote" Zbz)
variable (Zab:Meth K CA.count "is_off" Zdu)
variable (ZS:Meth K CA.count "move" Zer)
variable (ZN:Meth K CA.reader "hear" ZdX)
variable (Za2:Meth K CA.count "is_quiet" ZcY)
variable (Zbm:Meth K CA.count "number" Zdv)
variable (Zag:Meth K CA.post "is_off" ZdV)
variable (ZeE:MkB K CA.off)
variable (Zaf:Meth K CA.count "fault" ZdQ)
variable (ZbK:Meth K CA.count "blame" ZdP)
variable (ZaM:Meth K CA.rtail "place" Zdo)
variable (ZaJ:Meth K CA.stail "place" Zdo)
variable (Za4:Meth K CA.post "has_frame" Zc0)
variable (Z7:Meth K CA.post "is_quiet" Zdg)
variable (ZaW:Meth K CA.rtail "says" ZdN)
variable (ZaO:Meth K CA.stail "says" ZdN)
variable (Zas:Meth K CA.free "says" ZeZ)
variable (ZaG:Meth K CA.post "foremost_wire" ZbV)
variable (Zbp:Meth K CA.reader "frame" Zdy)
variable (Zbq:Meth K CA.reader "plain" Zdz)
variable (ZbX:Meth K CA.count "good" Zep)
variable (ZaF:Meth K CA.post "drop_foremost" ZbU)
variable (Zbo:Meth K CA.post "hand_up" Zdx)
variable (ZaV:Meth K CA.rtail "hear" ZdM)
variable (ZaN:Meth K CA.stail "hear" ZdM)
variable (ZbY:Meth K CA.free "shown" Zes)
variable (Zbt:Meth K CA.speaks "shown" ZdD)
variable (ZbP:Meth K CA.reads "shown" ZdZ)
variable (Zbn:Meth K CA.intail "shown" Zdw)
variable (Za3:Meth K CA.flag "shown" ZcZ)
variable (Zbc:Meth K CA.settles "shown" Zdj)
variable (ZbQ:Meth K CA.rests "shown" Zd0)
variable (Zcn:Meth K CA.off "shown" Ze1)
variable (ZbR:Meth K CA.speaks "says" Zd2)
variable (Zb0:Meth K CA.reads "says" Zev)
variable (ZbL:Meth K CA.intail "says" ZdS)
variable (Za9:Meth K CA.flag "says" Zde)
variable (Zbr:Meth K CA.settles "says" ZdB)
variable (Zb2:Meth K CA.rests "says" Zey)
variable (ZcC:Meth K CA.off "says" ZfM)
variable (Zcm:Meth K CA.free "step" Ze0)
variable (ZbS:Meth K CA.speaks "step" Zd3)
variable (Zb1:Meth K CA.reads "step" Zew)
variable (ZbM:Meth K CA.intail "step" ZdT)
variable (Zba:Meth K CA.flag "step" Zdf)
variable (Zbs:Meth K CA.settles "step" ZdC)
variable (Zb3:Meth K CA.rests "step" Zez)
variable (ZcD:Meth K CA.off "step" ZfN)
variable (ZbO:Meth K CA.post "stance" ZdW)
variable (Zbe:Meth K CA.post "says" Ze5)
variable (ZbN:Meth K CA.post "faults" ZdU)
variable (ZcE:Meth K CA.post "got" ZfO)
variable (ZbZ:Meth K CA.post "waits" Zet)
variable (Zbd:Meth K CA.post "hand" Ze2)
variable (Zco:Meth K CA.post "hear" Ze3)
variable (Zac:NoAttr K CA.streak "last")
variable (Zv:NoAttr K CA.streak "alike")
variable (Zz:NoAttr K CA.reader "streak")
variable (Zq:NoAttr K CA.reader "kept")
variable (ZF:NoAttr K CA.reader "answer")
variable (Zo:NoAttr K CA.count "total")
variable (ZE:NoAttr K CA.free "since")
variable (ZG:NoAttr K CA.speaks "wire")
variable (ZO:NoAttr K CA.speaks "reader")
variable (Zs:NoAttr K CA.speaks "many")
variable (ZX:NoAttr K CA.reads "reader")
variable (Z1:NoAttr K CA.reads "many")
variable (Zp:NoAttr K CA.intail "tail")
variable (Zap:NoAttr K CA.intail "found")
variable (ZD:NoAttr K CA.flag "left")
variable (ZL:NoAttr K CA.flag "may_blame")
variable (ZY:NoAttr K CA.settles "may_blame")
variable (ZT:NoAttr K CA.rests "left")
variable (Zi:NoAttr K CA.post "tally")
variable (Zl:NoAttr K CA.post "waiting")
variable (Zat:NoAttr K CA.post "choice")
variable (ZI:NoAttr K CA.post "handed_up")
variable (Z0:NoAttr K CA.post "votes")
variable (ZK:NoAttr K CA.post "now")
variable (Zdk:PySem.W.excIn K Zl0 [.type "ValueError",.type "Exception",.type "BaseException",.type "object"] "ValueError.__new__" = true)
variable (ZdE:PySem.W.excIn K ZmI [.type "ValueError",.type "Exception",.type "BaseException",.type "object"] "ValueError.__new__" = true)
variable (Z5:PySem.W.excIn K Zdn [.type "ValueError",.type "Exception",.type "BaseException",.type "object"] "ValueError.__new__" = true)
variable (Za1:PySem.W.excIn K Zgb [.type "ValueError",.type "Exception",.type "BaseException",.type "object"] "ValueError.__new__" = true)
set_option maxHeartbeats 4000000
variable (ZaA:MB P w K mg base (CX0) 1 Zd4 Zh9 ["self"] (spSkInit CA.streak))
include Zj Zac Zv in
theorem Zle (F0:Fun K "__init__" "Streak.__init__" Zix Zd4 Zh9):type_of% ZaA:=by
 refine mbM ["self"] F0 fun Sc0=>F0.ok Sc0 (fun vs H Q E h=>?_) fun cdv A outer s H vs Q E hr h=>?_
 ·obtain⟨a,dx,rfl,_⟩:=h
  rfl
 obtain⟨a,dx,rfl,ha,q⟩:=h
 have nd:=Sc0.nd
 refine⟨_,(aD (bY Zj Zac (dv 0) rA) (aG (bY Zj Zv (dv 0) aC))),?_⟩
 refine⟨dx, [],ha,by decide,?_⟩
 refine⟨dx,_,aB,by decide,?_⟩
 exact q _ (by rw [bA];rfl)
variable (ZR:MB P w K mg base (CX0) 1 ZcG ZfK ["self","bit"] (spSkLen CA.streak))
include Zj Zac Zv in
theorem Zjb (F0:Fun K "lengthen" "Streak.lengthen" ZfL ZcG ZfK):type_of% ZR:=by
 refine mbM ["self","bit"] F0 fun Sc0=>F0.ok Sc0 (fun vs H Q E h=>?_) fun cdv A outer s H vs Q E hr h=>?_
 ·obtain⟨a,s,b,rfl,_⟩:=h
  rfl
 obtain⟨a,s,b,rfl,⟨dx,ha⟩,q⟩:=h
 have nd:=Sc0.nd
 refine⟨_,(aD (bY Zj Zv (dv 0) (cB (cP (aR bQ (dv 1) (aV Zj Zac (dv 0)) (aM _)) (aU bZ (aV Zj Zv (dv 0)) aC) aC))) (aG (bY Zj Zac (dv 0) (dv 1)))),?_⟩
 refine⟨fun x H'=>x = .int (((skp s b).2:Nat):Int)∧H' = H,?_,?_⟩
 ·obtain⟨l,n⟩:=s
  cases l with
  | none=>exact⟨dx,_,.non,ha,rfl,rfl,rfl⟩
  | some c=>
   refine⟨dx,_,.int c,ha,rfl,?_⟩
   conv=>whnf
   refine bG (fun z=>?_) (fun z=>?_)
   ·have e:b = c:=dec_true z
    subst e
    refine⟨dx,_,.int n,ha,rfl,?_,rfl⟩
    have e2:(skp (some b,n) b).2 = n + 1:=if_pos rfl
    rw [e2];rfl
   ·have e:¬ b = c:=dec_false z
    refine⟨?_,rfl⟩
    have e2:(skp (some c,n) b).2 = 1:=if_neg fun y=>e (Option.some.inj y).symm
    rw [e2];rfl
 rintro x H' ⟨rfl,rfl⟩
 refine⟨dx,_,ha,(show 2 < 1000 by decide),?_⟩
 refine⟨dx,_,aB,(show 2 < 1000 by decide),?_⟩
 refine q _ ⟨dx,?_⟩ fun x hx=>by rw [aK hx,aK hx]
 rw [aB]
 rfl
variable (ZJ:MB P w K mg base (CX0) 1 Zc2 Zgo ["self"] (spSkFull CA.streak))
include Zck Zj Zv in
theorem ZjC (F0:Fun K "is_full" "Streak.is_full" Zgt Zc2 Zgo):type_of% ZJ:=by
 refine mbM ["self"] F0 fun Sc0=>F0.ok Sc0 (fun vs H Q E h=>?_) fun cdv A outer s H vs Q E hr h=>?_
 ·obtain⟨a,s,rfl,_⟩:=h
  rfl
 obtain⟨a,s,rfl,⟨dx,ha⟩,q⟩:=h
 have nd:=Sc0.nd
 refine⟨_,(aG (aL (bW bQ (aV Zj Zv (dv 0)) (bD (v:= .int 5) rfl Zck ⟨_,rfl⟩) (aM _)))),?_⟩
 refine⟨dx,_,.int s.2,ha,rfl,?_⟩
 conv=>whnf
 rw [uP]
 exact q
variable (ZaE:MB P w K mg base (CX0) 1 ZbW ZeC ["self"] (spSkLong CA.streak))
include Zck Zj Zv in
theorem Zhv (F0:Fun K "is_too_long" "Streak.is_too_long" ZeJ ZbW ZeC):type_of% ZaE:=by
 refine mbM ["self"] F0 fun Sc0=>F0.ok Sc0 (fun vs H Q E h=>?_) fun cdv A outer s H vs Q E hr h=>?_
 ·obtain⟨a,s,rfl,_⟩:=h
  rfl
 obtain⟨a,s,rfl,⟨dx,ha⟩,q⟩:=h
 have nd:=Sc0.nd
 refine⟨_,(aG (aL (bW pC (aV Zj Zv (dv 0)) (bD (v:= .int 5) rfl Zck ⟨_,rfl⟩) (aM _)))),?_⟩
 refine⟨dx,_,.int s.2,ha,rfl,?_⟩
 show Q (.bl (decide ((5:Int) < ((s.2:Nat):Int)))) H
 rw [a0B]
 exact q
variable (ZV:FB P w K mg base (CXR P w) 1 "bits_of" ZiM Zlp ["number","many"] (spBitsOf))
include Zau Zao Zdk in
theorem ZmK (F0:GFm K mg "bits_of" Zlu ZiM Zlp):type_of% ZV:=by
 refine fbM ["number","many"] F0 fun Sc0=>F0.F.okR Sc0 (fun vs H Q E h=>?_) fun cdv A outer s H vs Q E hr h=>?_
 ·obtain⟨n,m,rfl,_⟩:=h
  rfl
 obtain⟨n,m,rfl,hn,hm,q⟩:=h
 have nd:=Sc0.nd
 refine⟨_,(aD (aY (PW.pt (fH (aR lY (dv 0) aC (aM _)) (eY (aR jA (aU uZ (dv 0) (dv 1)) aC (aM _))))) (aG (cW F.excBase_ValueError Zau Zdk (aA aQ aF))) aP) (aG (aL (gM rfl (ix:=[0,1]) (dW rfl Zao (aA (dv 1) aF)) (fun C fp s0 H0 at0=>fU) (fun C fp s0 H0 at0=>(aU rO (aU uZ (dv 1) (aU fC (aU fC (dv 2) aC) (dv 0))) aC)) rfl rfl (by rfl) (show ([".0","place","number","many"]:List Str).Nodup by decide +kernel))))),?_⟩
 refine⟨by omega,?_⟩
 conv=>whnf
 refine a0W (uN hn) ?_
 have em:((m:Nat):Int).toNat = m:=Int.toNat_natCast m
 refine⟨⟨by omega,by omega⟩,gB (fun i ys H'=>ys = ((bitsI n m).take i).map V.int∧H' = H) ?_ ⟨rfl,rfl⟩ ?_ ?_⟩
 ·rintro i ys H' hi ⟨rfl,_⟩
  refine cJ ?_
  rw [List.length_map,List.length_take,bK]
  omega
 ·rintro i ys H' hi ⟨rfl,rfl⟩
  rw [em] at hi
  refine⟨(by show (0:Int)≤(m:Int) - 1 - (0 + (i:Int));omega),?_,rfl⟩
  have e:(m:Int) - 1 - (0 + (i:Int)) = ((m - 1 - i:Nat):Int):=by omega
  show _ ++ [V.int (Builtin.bitAnd ((n:Int) / 2 ^ ((m:Int) - 1 - (0 + (i:Int))).toNat) 1)] = _
  rw [e,a0Y,mO hi,List.map_append]
  rfl
 ·rintro ys H' ⟨rfl,rfl⟩ p hp
  rw [em,List.take_of_length_le (by rw [bK];exact Nat.le_refl _)]
  exact q p hp
variable (Zy:FB P w K mg base (CX0) 1 "number_of" Zhf ZjX ["bits"] (spNumberOf K))
theorem Zmn (F0:GFm K mg "number_of" Zkj Zhf ZjX):type_of% Zy:=by
 refine fbM ["bits","number","bit"] F0 fun Sc0=>F0.F.ok Sc0 (fun vs H Q E h=>?_) fun cdv A outer s H vs Q E hr h=>?_
 ·obtain⟨a,bs,rfl,_⟩:=h
  rfl
 obtain⟨a,bs,rfl,hS,hb,hl,q⟩:=h
 have nd:=Sc0.nd
 refine⟨_,(aD (aZ (i:=1) nd rfl (Or.inl rfl) aC) (aD (eE PassesOwn.never rfl (dM (dv 0)) (dC (i:=2) nd rfl (Or.inl rfl)) (aG (aZ (i:=1) nd rfl (Or.inl rfl) (aU bZ (aU dU (dv 1) aC) (dv 2))))) (aG (aL (dv 1))))),?_⟩
 refine⟨⟨_,hS⟩,dO (xs:=bs.map V.int) (fun i σ H'=>(∃x,σ = [some (.ref a),some (.int (numI (bs.take i))),x])∧H' = H) ⟨⟨_,rfl⟩,rfl⟩ (fun i σ H' _ z=>by rw [z.2];exact hS) ?_ ?_⟩
 ·rintro i x σ H' hx ⟨⟨y,rfl⟩,rfl⟩
  obtain⟨hi,rfl⟩:=eU hx
  have hb':Bits (bs.take i):=fun b h=>hb b (List.mem_of_mem_take h)
  have b1:=jZ hb'
  have b2:(2:Int) ^ (bs.take i).length≤2 ^ 450:=lD (by rw [List.length_take];omega)
  refine⟨⟨rH (n:=450) (mX b1.1 (by omega)),dG (by decide) (by decide)⟩,⟨some (.int bs[i]),?_⟩,rfl⟩
  rw [List.take_succ_eq_append_getElem hi,gO]
  rfl
 ·rintro σ H' ⟨⟨y,rfl⟩,rfl⟩
  rw [List.length_map,List.take_of_length_le (Nat.le_refl _),sH hb]
  exact q
variable (Zal:FB P w K mg base (CX0) 1 "are_bytes" Zhd ZjV ["numbers"] (spBytes K))
include ZdH ZlY in
theorem Zml (F0:GFm K mg "are_bytes" Zkh Zhd ZjV):type_of% Zal:=by
 refine fbM ["numbers"] F0 fun Sc0=>F0.F.ok Sc0 (fun vs H Q E h=>?_) fun cdv A outer s H vs Q E hr h=>?_
 ·obtain⟨a,ns,rfl,_⟩:=h
  rfl
 obtain⟨a,ns,rfl,hS,hl,q⟩:=h
 have nd:=Sc0.nd
 refine⟨_,(aG (aL (bO (a2Q rfl) rfl ZlY a2H (aA (gM rfl (ix:=[]) (a1U (dv 0)) (fun C fp s0 H0 at0=>fU) (fun C fp s0 H0 at0=>(pR yS yS aC (dv 0) (bD (v:= .int 255) rfl ZdH ⟨_,rfl⟩))) rfl rfl (by rfl) (show ([".0","number"]:List Str).Nodup by decide +kernel)) aF)))),?_⟩
 refine yK hS (fun i ys=>ys = ((ns.take i).map byt).map V.bl) ?_ rfl ?_ ?_
 ·rintro i ys hi rfl
  refine cJ ?_
  rw [List.length_map,List.length_map,List.length_take]
  omega
 ·rintro i x ys hx rfl
  obtain⟨hi,rfl⟩:=eU hx
  conv=>whnf
  refine bG (fun c=>⟨?_,rfl⟩) (fun c=>⟨?_,rfl⟩)
  ·have c1:(0:Int)≤ns[i]:=dec_true c
   rw [List.take_succ_eq_append_getElem hi,List.map_append,List.map_append]
   show _ ++ [V.bl (decide (ns[i]≤255))] = _ ++ [V.bl (byt ns[i])]
   unfold byt
   rw [decide_eq_true c1,Bool.true_and]
  ·have c1:¬ (0:Int)≤ns[i]:=dec_false c
   rw [List.take_succ_eq_append_getElem hi,List.map_append,List.map_append]
   show _ ++ [V.bl false] = _ ++ [V.bl (byt ns[i])]
   unfold byt
   rw [decide_eq_false c1,Bool.false_and]
 rintro ys rfl p hp
 rw [List.length_map,List.take_of_length_le (Nat.le_refl _)]
 refine⟨ns.map byt,SqL.of aB,?_⟩
 have e:(ns.map byt).all id = ns.all byt:=by rw [List.all_map];rfl
 rw [e]
 exact q _ (aH hp _)
variable (ZcS:FB P w K mg base (CXR P w) 1 "divided" ZiN Zlq ["number","key"] (spDivided))
include ZH ZdE in
theorem ZmL (F0:GFm K mg "divided" Zlv ZiN Zlq):type_of% ZcS:=by
 refine fbM ["number","key","whole","rest","power"] F0 fun Sc0=>F0.F.okR Sc0 (fun vs H Q E h=>?_) fun cdv A outer s H vs Q E hr h=>?_
 ·obtain⟨a,rfl,_⟩:=h
  rfl
 obtain⟨a,rfl,ha,q⟩:=h
 have nd:=Sc0.nd
 refine⟨_,(aD (aY (aR bQ (dv 1) aC (aM _)) (aG (cW F.excBase_ValueError ZH ZdE (aA aQ aF))) aP) (aD (aZ (i:=2) nd rfl (Or.inl rfl) aC) (aD (aZ (i:=3) nd rfl (Or.inl rfl) (dv 0)) (aD (wF PassesOwn.leaving (aR jT (sO (dv 3)) (sO (dv 1)) (aM _)) (aD (aZ (i:=4) nd rfl (Or.inl rfl) (aU fC (sO (dv 3)) (sO (dv 1)))) (aD (aZ (i:=2) nd rfl (Or.inl rfl) (aU sE (dv 2) (aU sG aC (dv 4)))) (aG (aZ (i:=3) nd rfl (Or.inl rfl) (aU sE (dv 3) (aU sG (dv 1) (dv 4)))))))) (aG (aL (bL (aA (dv 2) (aA (dv 3) aF))))))))),?_⟩
 refine⟨fun mm σ H'=>∃(w r:Nat) (p:Option V),mm = bl r∧σ = [some (.int a),some (.int 64647),some (.int w),some (.int r),p]∧H' = H∧r < 2 ^ 450∧R r = R a,⟨_,0,a,_,rfl,rfl,rfl,ha,rfl⟩,?_⟩
 rintro mm σ H' ⟨w,r,p,rfl,rfl,rfl,hr,e⟩
 conv=>whnf
 refine bG (fun c=>?_) (fun c=>?_)
 ·have c1:16≤bl r:=by
   have:((Builtin.Int.intBits (64647:Int):Nat):Int)≤((Builtin.Int.intBits (r:Int):Nat):Int):=dec_true c
   have k:=rG
   show 16≤Builtin.Int.intBits (r:Int)
   have k':Builtin.Int.intBits (64647:Int) = 16:=k
   omega
  obtain⟨t1,t2,t3⟩:=xQ hr c1
  have r3:=yR hr
  refine⟨fun σ' H2=>∃(w:Nat) (p:Option V),σ' = [some (.int a),some (.int 64647),some (.int w),some (.int ((r ^^^ 64647 <<< (bl r - 16):Nat):Int)),p]∧H2 = H',?_,?_⟩
  ·rintro σ' H2 ⟨w',p',rfl,rfl⟩
   exact⟨bl (r ^^^ 64647 <<< (bl r - 16)),t3,w',_,p',rfl,rfl,rfl,t1,t2.trans e⟩
  have ep:((Builtin.Int.intBits (r:Int):Nat):Int) - ((Builtin.Int.intBits (64647:Int):Nat):Int) = ((bl r - 16:Nat):Int):=by
   have k':Builtin.Int.intBits (64647:Int) = 16:=rG
   rw [k']
   show ((bl r:Nat):Int) - _ = _
   omega
  refine⟨1,(bl r - 16),rfl,congrArg V.int ep,⟨xK (n:=1) (by decide),by omega⟩,w,_,rfl,rfl,trivial,?_⟩
  refine⟨64647,(bl r - 16),rfl,congrArg V.int ep,⟨xK (n:=16) (by decide),by omega⟩,r,_,rfl,rfl,trivial,?_⟩
  exact⟨_,_,rfl,rfl⟩
 ·have c1:bl r < 16:=by
   have:¬ ((Builtin.Int.intBits (64647:Int):Nat):Int)≤((Builtin.Int.intBits (r:Int):Nat):Int):=dec_false c
   have k':Builtin.Int.intBits (64647:Int) = 16:=rG
   show Builtin.Int.intBits (r:Int) < 16
   omega
  have hs:r < 32768:=Nat.lt_of_lt_of_le (a0S r) (Nat.pow_le_pow_right (n:=2) (j:=15) (by decide) (by omega))
  rw [oZ hs] at e
  rw [e]
  exact⟨aJ rfl,fun p hp=>q w p hp⟩
variable (Z6:FB P w K mg base (CX0) 2 "rest_of" ZiP Zls ["bits"] (spRest K))
include ZH ZlW Zy ZcS in
theorem ZmN (F0:GFm K mg "rest_of" Zlx ZiP Zls):type_of% Z6:=by
 refine fbM ["bits"] F0 fun Sc0=>F0.F.ok Sc0 (fun vs H Q E h=>?_) fun cdv A outer s H vs Q E hr h=>?_
 ·obtain⟨a,bs,rfl,_⟩:=h
  rfl
 obtain⟨a,bs,rfl,hS,hb,hl,q⟩:=h
 have nd:=Sc0.nd
 refine⟨_,(aG (aL (aW dF (aO ZcS.1 (hr.mono (by decide)) rfl ZcS.2.2.2 ZcS.2.2.1 ZcS.2.1 .nil iB (aA (aO Zy.1 (hr.mono (by decide)) rfl Zy.2.2.2 Zy.2.2.1 Zy.2.1 .nil aN (aA (dv 0) aF)) (aA (bD (v:= .int 64647) rfl ZlW ⟨_,rfl⟩) aF))) aC (fun _ _=>rfl)))),?_⟩
 refine⟨a,bs,rfl,hS,hb,hl,?_⟩
 refine⟨nm bs,rfl,Nat.lt_of_lt_of_le (mW hb) (Nat.pow_le_pow_right (by decide) hl),fun w p hp=>?_⟩
 exact⟨_,_,SqT.of aB,rfl,q _ (aH hp _)⟩
variable (ZcA:FB P w K mg base (CX0) 3 "check_of" ZhP ZkC ["bits"] (spCheck K))
include Zau ZH ZbA ZbD ZV Z6 in
theorem ZmA (F0:GFm K mg "check_of" ZkW ZhP ZkC):type_of% ZcA:=by
 refine fbM ["bits"] F0 fun Sc0=>F0.F.ok Sc0 (fun vs H Q E h=>?_) fun cdv A outer s H vs Q E hr h=>?_
 ·obtain⟨a,bs,rfl,_⟩:=h
  rfl
 obtain⟨a,bs,rfl,hS,hb,hl,q⟩:=h
 have nd:=Sc0.nd
 refine⟨_,(aG (aL (aO ZV.1 (hr.mono (by decide)) rfl ZV.2.2.2 ZV.2.2.1 ZV.2.1 .nil iB (aA (aO Z6.1 (hr.mono (by decide)) rfl Z6.2.2.2 Z6.2.2.1 Z6.2.1 .nil aN (aA (aU eX (cT fO rfl ZbD gW (aA (dv 0) aF)) (aU gD (bN (aA aC aF)) (bD (v:= .int 15) rfl ZbA ⟨_,rfl⟩))) aF)) (aA (bD (v:= .int 15) rfl ZbA ⟨_,rfl⟩) aF))))),?_⟩
 refine⟨_,.inl hS,fun l hl1=>?_⟩
 have g1:=aH hl1 (.lst (bs.map V.int))
 have e1:=aB (H:=H) (a:=l) (o:= .lst (bs.map V.int))
 generalize upd H l (.lst (bs.map V.int)) = H1 at g1 e1
 refine⟨aJ rfl,fun o ho=>?_⟩
 have g2:=aH ho (.lst [.int 0])
 have e2:=aB (H:=H1) (a:=o) (o:= .lst [.int 0])
 generalize upd H1 o (.lst [.int 0]) = H2 at g2 e2
 refine⟨_,e2,⟨by decide,by decide⟩,(by show 1 * 15≤sizeLine;exact small (by decide)),fun z hz=>?_⟩
 have g3:=aH hz (.lst (List.replicate (15:Int).toNat [V.int 0]).flatten)
 have e3:upd H2 z (.lst (List.replicate (15:Int).toNat [V.int 0]).flatten) z = some (.lst ((zs 15).map V.int)):=by rw [aB];rfl
 generalize upd H2 z (.lst (List.replicate (15:Int).toNat [V.int 0]).flatten) = H3 at g3 e3
 refine⟨_,_,g3 _ _ (g2 _ _ e1),e3,(by rw [List.length_map];exact small (by show bs.length + 15≤1000;omega)),fun c hc=>?_⟩
 have g4:=aH hc (.lst (bs.map V.int ++ (zs 15).map V.int))
 have e4:upd H3 c (.lst (bs.map V.int ++ (zs 15).map V.int)) c = some (.lst ((bs ++ zs 15).map V.int)):=by rw [aB,List.map_append]
 generalize upd H3 c (.lst (bs.map V.int ++ (zs 15).map V.int)) = H4 at g4 e4
 refine⟨c,bs ++ zs 15,rfl,SqL.of e4,dZ hb (nO 15),(by rw [List.length_append];show bs.length + 15≤450;omega),fun H5 g5=>?_⟩
 refine⟨ckn bs,15,rfl,yL bs,by decide,fun p hp=>?_⟩
 have gs:=g1.trans (g2.trans (g3.trans (g4.trans g5)))
 exact q p _ (gs.none hp) (gs.trans (aH hp _)) aB
variable (ZcT:FB P w K mg base (CX0) 1 "is_name" ZiO Zlr ["number"] (spByt))
include ZdI in
theorem ZmM (F0:GFm K mg "is_name" Zlw ZiO Zlr):type_of% ZcT:=by
 refine fbM ["number"] F0 fun Sc0=>F0.F.ok Sc0 (fun vs H Q E h=>?_) fun cdv A outer s H vs Q E hr h=>?_
 ·obtain⟨n,rfl,_⟩:=h
  rfl
 obtain⟨n,rfl,q⟩:=h
 have nd:=Sc0.nd
 refine⟨_,(aG (aL (pR yS yS aC (dv 0) (bD (v:= .int 255) rfl ZdI ⟨_,rfl⟩)))),?_⟩
 conv=>whnf
 refine bG (fun c=>?_) (fun c=>?_)
 ·have c1:(0:Int)≤n:=dec_true c
  show Q (.bl (decide (n≤255))) H
  have e:decide (n≤255) = byt n:=by unfold byt;rw [decide_eq_true c1,Bool.true_and]
  rw [e];exact q
 ·have c1:¬ (0:Int)≤n:=dec_false c
  show Q (.bl false) H
  have e:false = byt n:=by unfold byt;rw [decide_eq_false c1,Bool.false_and]
  rw [e];exact q
variable (Zdm:FB P w K mg base (CX0) 3 "put_in" Zko Zl2 ["bits"] (spPutIn K))
include Zef Zj Zbl ZQ ZB ZaA ZR ZJ in
theorem ZmS (F0:GFm K mg "put_in" Zmq Zko Zl2):type_of% Zdm:=by
 refine fbM ["bits","wire","streak","bit"] F0 fun Sc0=>F0.F.ok Sc0 (fun vs H Q E h=>?_) fun cdv A outer s H vs Q E hr h=>?_
 ·obtain⟨a,bs,rfl,_⟩:=h
  rfl
 obtain⟨a,bs,rfl,hS,hl,q⟩:=h
 have nd:=Sc0.nd
 refine⟨_,(aD (aZ (i:=1) nd rfl (Or.inl rfl) (bN aF)) (aD (aZ (i:=2) nd rfl (Or.inl rfl) (iI Zbl ZaA.1 (hr.mono (by decide)) rfl Zef ZaA.2 .nil aN)) (aD (eE PassesOwn.never rfl (dM (dv 0)) (dC (i:=3) nd rfl (Or.inl rfl)) (aD (bF (cD (dv 1) (aA (dv 3) aF))) (aD (bF (cI Zj ZQ ZR.1 (hr.mono (by decide)) ZR.2 .nil aN (dv 2) (aA (dv 3) aF))) (aG (aY (bJ (bI Zj ZB ZJ.1 (hr.mono (by decide)) ZJ.2 .nil aN (dv 2))) (aD (bF (cD (dv 1) (aA (aU fC aC (dv 3)) aF))) (aG (bF (cI Zj ZQ ZR.1 (hr.mono (by decide)) ZR.2 .nil aN (dv 2) (aA (aU fC aC (dv 3)) aF))))) aP))))) (aG (aL (dv 1)))))),?_⟩
 refine⟨aJ rfl,fun p hp=>?_⟩
 have g0:=aH hp (.lst [])
 have e0:=aB (H:=H) (a:=p) (o:= .lst [])
 generalize upd H p (.lst []) = H1 at g0 e0
 refine fun st dx hst hdx hne=>⟨st,dx,rfl,aB,fun H2 eH=>⟨rfl,?_⟩⟩
 have g1:Same H1 H2:=by rw [eH];exact bH hst hdx
 have s2:SkAt CA.streak H2 st (sk []):=⟨dx,by rw [eH];exact aB⟩
 clear eH
 have nst:=g0.none hst
 refine⟨⟨_,(g0.trans g1).seq hS⟩,dO (xs:=bs.map V.int) (fun i σ H'=>(∃x,σ = [some (.ref a),some (.ref p),some (.ref st),x])∧H' p = some (.lst ((put (bs.take i)).map V.int))∧SkAt CA.streak H' st (sk (put (bs.take i)))∧Same H H')
  ⟨⟨_,rfl⟩,g1 _ _ e0,s2,g0.trans g1⟩ (fun i σ H' _ z=>z.2.2.2.seq hS) ?_ ?_⟩
 ·rintro i x σ H' hx ⟨⟨y,rfl⟩,h1,h2,h3⟩
  obtain⟨hi,rfl⟩:=eU hx
  have pl:=jY (bs.take i)
  rw [List.length_take] at pl
  have h4:=iH (bs.take i)
  generalize vZ hi = ept
  generalize bs[i] = b at ept
  generalize put (bs.take i) = w at h1 h2 pl h4 ept
  refine⟨⟨_,SqL.of h1⟩,_,h1,cJ (by rw [List.length_map];omega),?_⟩
  have h1':upd H' p (.lst (w.map V.int ++ [.int b])) p = some (.lst ((w ++ [b]).map V.int)):=by rw [aB,List.map_append];rfl
  have h2':SkAt CA.streak (upd H' p (.lst (w.map V.int ++ [.int b]))) st (sk w):=h2.set h1
  have h3':Same H (upd H' p (.lst (w.map V.int ++ [.int b]))):=h3.put hp
  generalize upd H' p (.lst (w.map V.int ++ [.int b])) = H3 at h1' h2' h3'
  obtain⟨d3,k3⟩:=id h2'
  refine⟨⟨d3,_,k3,rfl⟩,st,sk w,b,rfl,h2',fun H4 s4 k4=>?_⟩
  rw [←gK] at s4
  have h1'':=(k4 p (h2'.ne h1')).trans h1'
  have h3'':Same H H4:=fun c o e=>(k4 c (aX e nst)).trans (h3' c o e)
  obtain⟨d4,k5⟩:=id s4
  refine⟨⟨d4,_,k5,rfl⟩,st,sk (w ++ [b]),rfl,s4,?_⟩
  conv=>whnf
  refine bG (fun c=>?_) (fun c=>?_)
  ·have c1:run (w ++ [b]) = 5:=dec_true c
   have ep:put (bs.take (i + 1)) = w ++ [b] ++ [1 - b]:=by rw [ept];unfold pst;rw [if_pos c1]
   refine⟨⟨_,SqL.of h1''⟩,_,h1'',cJ (by rw [List.length_map,List.length_append,List.length_singleton];omega),?_⟩
   have q1:upd H4 p (.lst ((w ++ [b]).map V.int ++ [.int (1 - b)])) p = some (.lst ((w ++ [b] ++ [1 - b]).map V.int)):=by rw [aB,List.map_append (l₁:=w ++ [b])];rfl
   have q2:=s4.set (ys:=(w ++ [b]).map V.int ++ [.int (1 - b)]) h1''
   have q3:Same H (upd H4 p (.lst ((w ++ [b]).map V.int ++ [.int (1 - b)]))):=h3''.put hp
   generalize upd H4 p (.lst ((w ++ [b]).map V.int ++ [.int (1 - b)])) = H5 at q1 q2 q3
   obtain⟨d6,k6⟩:=id q2
   refine⟨⟨d6,_,k6,rfl⟩,st,sk (w ++ [b]),1 - b,rfl,q2,fun H6 s6 k7=>?_⟩
   rw [←gK] at s6
   refine⟨⟨_,rfl⟩,?_,?_,fun c o e=>(k7 c (aX e nst)).trans (q3 c o e)⟩
   ·rw [ep];exact(k7 p (q2.ne q1)).trans q1
   ·rw [ep];exact s6
  ·have c1:¬ run (w ++ [b]) = 5:=dec_false c
   have ep:put (bs.take (i + 1)) = w ++ [b]:=by rw [ept];unfold pst;rw [if_neg c1]
   exact⟨⟨_,rfl⟩,by rw [ep];exact h1'',by rw [ep];exact s4,h3''⟩
 rintro σ H' ⟨⟨y,rfl⟩,h1,h2,h3⟩
 rw [List.length_map,List.take_of_length_le (Nat.le_refl _)] at h1
 exact q p H' hp h3 h1
variable (Z3:FB P w K mg base (CXR P w) 2 "check_frame" ZfH Zif ["name","data"] (spChkF K Zdn))
include Zu ZeF ZZ Z5 Zal ZcT in
theorem Zlk (F0:GFm K mg "check_frame" ZiD ZfH Zif):type_of% Z3:=by
 refine fbM ["name","data"] F0 fun Sc0=>F0.F.okR Sc0 (fun vs H Q E h=>?_) fun cdv A outer s H vs Q E hr h=>?_
 ·obtain⟨n,a,ds,rfl,_⟩:=h
  rfl
 obtain⟨n,a,ds,rfl,hS,hl,q1,q2⟩:=h
 have nd:=Sc0.nd
 refine⟨_,(aD (aY (cV (bJ (aO ZcT.1 (hr.mono (by decide)) rfl ZcT.2.2.2 ZcT.2.2.1 ZcT.2.1 .nil aN (aA (dv 0) aF)))) (aG (cW F.excBase_ValueError Zu Z5 (aA aQ aF))) aP) (aD (aY (aR pC (bO fD rfl ZZ dR (aA (dv 1) aF)) (bD (v:= .int 7) rfl ZeF ⟨_,rfl⟩) (aM _)) (aG (cW F.excBase_ValueError Zu Z5 (aA aQ aF))) aP) (aG (aY (cV (bJ (aO Zal.1 (hr.mono (by decide)) rfl Zal.2.2.2 Zal.2.2.1 Zal.2.1 .nil aN (aA (dv 1) aF)))) (aG (cW F.excBase_ValueError Zu Z5 (aA aQ aF))) aP)))),?_⟩
 refine⟨n,rfl,?_⟩
 conv=>whnf
 refine bG (fun c=>?_) (fun c=>?_)
 ·have c1:¬ byt n = true:=fun z=>by
   have:(!byt n) = true:=c
   rw [z] at this;cases this
  exact⟨aJ rfl,q2 (wV (.inl c1)) _ (Same.refl _)⟩
 have c1:byt n = true:=by
  cases e:byt n with
  | true=>rfl
  | false=>exact absurd (show (!byt n) = true by rw [e];rfl) c
 refine⟨_,.inl hS,?_⟩
 rw [List.length_map]
 conv=>whnf
 refine bG (fun z=>?_) (fun z=>?_)
 ·have z1:(7:Int) < ((ds.length:Nat):Int):=dec_true z
  exact⟨aJ rfl,q2 (wV (.inr (.inl (by omega)))) _ (Same.refl _)⟩
 have z1:¬ (7:Int) < ((ds.length:Nat):Int):=dec_false z
 refine⟨a,ds,rfl,.inl hS,hl,fun H1 g1=>?_⟩
 conv=>whnf
 refine bG (fun y=>?_) (fun y=>?_)
 ·have y1:¬ ds.all byt = true:=fun z=>by
   have:(!ds.all byt) = true:=y
   rw [z] at this;cases this
  exact⟨aJ rfl,q2 (fun h=>y1 h.2.2) _ g1⟩
 ·have y1:ds.all byt = true:=by
   cases e:ds.all byt with
   | true=>rfl
   | false=>exact absurd (show (!ds.all byt) = true by rw [e];rfl) y
  exact q1 ⟨c1,by omega,y1⟩ _ g1
variable (Zbw:FB P w K mg base (CXR P w) 5 "frame_bits" Zgg Zi7 ["name","data"] (spFrame K Zdn))
include Zau ZH Zu Ze9 Zfa ZaP ZZ ZV ZcA Z3 in
theorem ZlP (F0:GFm K mg "frame_bits" Zjs Zgg Zi7):type_of% Zbw:=by
 refine fbM ["name","data","bits","byte"] F0 fun Sc0=>F0.F.okR Sc0 (fun vs H Q E h=>?_) fun cdv A outer s H vs Q E hr h=>?_
 ·obtain⟨n,a,ds,rfl,_⟩:=h
  rfl
 obtain⟨n,a,ds,rfl,hS,hl,q1,q2⟩:=h
 have nd:=Sc0.nd
 refine⟨_,(aD (bF (aO Z3.1 (hr.mono (by decide)) rfl Z3.2.2.2 Z3.2.2.1 Z3.2.1 .nil (jP fun _ _ _ z=>z) (aA (dv 0) (aA (dv 1) aF)))) (aD (aZ (i:=2) nd rfl (Or.inl rfl) (aU eX (aU eX (bN (aA aC aF)) (aO ZV.1 (hr.mono (by decide)) rfl ZV.2.2.2 ZV.2.2.1 ZV.2.1 .nil (jP fun _ _ _ z=>z) (aA (dv 0) (aA (bD (v:= .int 8) rfl Ze9 ⟨_,rfl⟩) aF)))) (aO ZV.1 (hr.mono (by decide)) rfl ZV.2.2.2 ZV.2.2.1 ZV.2.1 .nil (jP fun _ _ _ z=>z) (aA (bO fD rfl ZZ dR (aA (dv 1) aF)) (aA (bD (v:= .int 3) rfl Zfa ⟨_,rfl⟩) aF))))) (aD (eE PassesOwn.leaving rfl (dM (dv 1)) (dC (i:=3) nd rfl (Or.inl rfl)) (aG (bF (uC (dv 2) (aA (aO ZV.1 (hr.mono (by decide)) rfl ZV.2.2.2 ZV.2.2.1 ZV.2.1 .nil (jP fun _ _ _ z=>z) (aA (dv 3) (aA (bD (v:= .int 8) rfl ZaP ⟨_,rfl⟩) aF))) aF))))) (aG (aL (aU eX (dv 2) (aO ZcA.1 (hr.mono (by decide)) rfl ZcA.2.2.2 ZcA.2.2.1 ZcA.2.1 .nil aN (aA (dv 2) aF)))))))),?_⟩
 refine⟨n,a,ds,rfl,hS,hl,fun hf H1 g1=>?_,q2⟩
 obtain⟨m,rfl,hm⟩:=oW hf.1
 refine⟨aJ rfl,fun p2 hp2=>?_⟩
 have g2:=aH hp2 (.lst [.int 0])
 have e2:=aB (H:=H1) (a:=p2) (o:= .lst [.int 0])
 generalize upd H1 p2 (.lst [.int 0]) = H2 at g2 e2
 refine⟨m,8,rfl,by show m < 2 ^ 8;omega,by decide,fun p3 hp3=>?_⟩
 have g3:=aH hp3 (.lst ((bitsI m 8).map V.int))
 have e3:=aB (H:=H2) (a:=p3) (o:= .lst ((bitsI m 8).map V.int))
 generalize upd H2 p3 (.lst ((bitsI m 8).map V.int)) = H3 at g3 e3
 refine⟨_,_,g3 _ _ e2,e3,(by rw [List.length_map,bK];exact aJ rfl),fun p4 hp4=>?_⟩
 have g4:=aH hp4 (.lst ([.int 0] ++ (bitsI m 8).map V.int))
 have e4:=aB (H:=H3) (a:=p4) (o:= .lst ([.int 0] ++ (bitsI m 8).map V.int))
 generalize upd H3 p4 (.lst ([.int 0] ++ (bitsI m 8).map V.int)) = H4 at g4 e4
 have gs4:=g1.trans (g2.trans (g3.trans g4))
 refine⟨_,.inl (gs4.seq hS),?_⟩
 rw [List.length_map]
 have h7:=hf.2.1
 refine⟨ds.length,3,rfl,by show ds.length < 2 ^ 3;omega,by decide,fun p5 hp5=>?_⟩
 have g5:=aH hp5 (.lst ((bitsI ds.length 3).map V.int))
 have e5:=aB (H:=H4) (a:=p5) (o:= .lst ((bitsI ds.length 3).map V.int))
 generalize upd H4 p5 (.lst ((bitsI ds.length 3).map V.int)) = H5 at g5 e5
 refine⟨_,_,g5 _ _ e4,e5,(by rw [List.length_append,List.length_map,List.length_map,bK,bK];exact aJ rfl),fun p6 hp6=>?_⟩
 have g6:=aH hp6 (.lst ([.int 0] ++ (bitsI m 8).map V.int ++ (bitsI ds.length 3).map V.int))
 have e6:upd H5 p6 (.lst ([.int 0] ++ (bitsI m 8).map V.int ++ (bitsI ds.length 3).map V.int)) p6 = some (.lst ((hdD (m:Int) ds.length []).map V.int)):=by
  rw [aB];unfold hdD b8;simp
 generalize upd H5 p6 (.lst ([.int 0] ++ (bitsI m 8).map V.int ++ (bitsI ds.length 3).map V.int)) = H6 at g6 e6
 have gs6:=gs4.trans (g5.trans g6)
 have np6:H p6 = none:=(gs4.trans g5).none hp6
 refine⟨⟨_,gs6.seq hS⟩,dO (xs:=ds.map V.int) (fun i σ H'=>(∃x,σ = [some (.int m),some (.ref a),some (.ref p6),x])∧Same H H'∧H' p6 = some (.lst ((hdD (m:Int) ds.length (ds.take i)).map V.int))) ⟨⟨_,rfl⟩,gs6,e6⟩ (fun i σ H' _ z=>z.2.1.seq hS) ?_ ?_⟩
 ·rintro i x σ H' hx ⟨⟨y,rfl⟩,g,e⟩
  obtain⟨hi,rfl⟩:=eU hx
  obtain⟨d,ed,hd256⟩:=oW (qN hf.2.2 hi)
  have hlen:=oK (m:Int) ds.length (ds.take i)
  rw [List.length_take] at hlen
  refine⟨⟨_,e⟩,d,8,by rw [ed];rfl,by show d < 2 ^ 8;omega,by decide,fun p7 hp7=>?_⟩
  have g7:=aH hp7 (.lst ((bitsI d 8).map V.int))
  refine⟨_,_,g7 _ _ e,aB,(by rw [List.length_map,List.length_map,bK,hlen];exact small (by omega)),⟨_,rfl⟩,(g.trans g7).put np6,?_⟩
  have eb:b8 ds[i] = bitsI d 8:=by rw [ed];rfl
  rw [aB,List.take_succ_eq_append_getElem hi,qF,eb,List.map_append]
 rintro σ H7 ⟨⟨y,rfl⟩,g7,e7⟩
 rw [List.length_map,List.take_of_length_le (Nat.le_refl _)] at e7
 have hlen:=oJ (m:Int) ds
 refine⟨p6,hd (m:Int) ds,rfl,SqL.of e7,kW _ _,by omega,fun p8 H8 hp8 g8 e8=>?_⟩
 refine⟨_,_,g8 _ _ e7,e8,(by rw [List.length_map,List.length_map,yM];show (hd (m:Int) ds).length + 15≤sizeLine;exact small (by omega)),fun p9 hp9=>?_⟩
 have g9:=aH hp9 (.lst ((hd (m:Int) ds).map V.int ++ (ck (hd (m:Int) ds)).map V.int))
 refine q1 hf p9 _ ((g7.trans g8).none hp9) (g7.trans (g8.trans g9)) ?_
 rw [aB]
 unfold fb
 rw [List.map_append]
 rfl
variable (ZcU:FB P w K mg base (CXR P w) 6 "wire_of" ZiQ Zlt ["name","data"] (spWireOf K Zdn))
include Zau ZH Zu Zdm Zbw in
theorem ZmO (F0:GFm K mg "wire_of" Zly ZiQ Zlt):type_of% ZcU:=by
 refine fbM ["name","data"] F0 fun Sc0=>F0.F.okR Sc0 (fun vs H Q E h=>?_) fun cdv A outer s H vs Q E hr h=>?_
 ·obtain⟨n,a,ds,rfl,_⟩:=h
  rfl
 obtain⟨n,a,ds,rfl,hS,hl,q1,q2⟩:=h
 have nd:=Sc0.nd
 refine⟨_,(aG (aL (aO Zdm.1 (hr.mono (by decide)) rfl Zdm.2.2.2 Zdm.2.2.1 Zdm.2.1 .nil aN (aA (aO Zbw.1 (hr.mono (by decide)) rfl Zbw.2.2.2 Zbw.2.2.1 Zbw.2.1 .nil (jP fun _ _ _ z=>z) (aA (dv 0) (aA (dv 1) aF))) aF)))),?_⟩
 refine⟨n,a,ds,rfl,hS,hl,fun hf p H1 hp g1 e1=>?_,q2⟩
 have:=lU n ds
 have:=hf.2.1
 exact⟨p,fb n ds,rfl,SqL.of e1,by omega,fun p2 H2 hp2 g2 e2=>q1 hf p2 H2 (g1.none hp2) (g1.trans g2) e2⟩
variable (Zam:FB P w K mg base (CX0) 2 "told_size" Zhg ZjY ["bits"] (spSize K))
include Zdp ZbB Zy in
theorem Zmo (F0:GFm K mg "told_size" Zkk Zhg ZjY):type_of% Zam:=by
 refine fbM ["bits"] F0 fun Sc0=>F0.F.ok Sc0 (fun vs H Q E h=>?_) fun cdv A outer s H vs Q E hr h=>?_
 ·obtain⟨a,bs,rfl,_⟩:=h
  rfl
 obtain⟨a,bs,rfl,hS,hb,h12,hl,q⟩:=h
 have nd:=Sc0.nd
 refine⟨_,(aG (aL (aO Zy.1 (hr.mono (by decide)) rfl Zy.2.2.2 Zy.2.2.1 Zy.2.1 .nil aN (aA (cF fM (dv 0) (cC (bD (v:= .int 9) rfl Zdp ⟨_,rfl⟩)) (cC (bD (v:= .int 12) rfl ZbB ⟨_,rfl⟩))) aF)))),?_⟩
 refine⟨_,hS,fun p hp=>?_⟩
 have ec:cutV (bs.map V.int) (some (9:Int)) (some (12:Int)) = ((bs.drop 9).take 3).map V.int:=iC rfl rfl (by omega)
 rw [ec]
 refine⟨p,_,rfl,SqL.of aB,cZ hb 9 3,?_,q _ (aH hp _)⟩
 rw [List.length_take];omega
variable (Z4:FB P w K mg base (CX0) 3 "is_complete" ZfJ Zih ["bits"] (spCmp K))
include ZbA ZaP ZbB ZZ Zam in
theorem Zlm (F0:GFm K mg "is_complete" ZiF ZfJ Zih):type_of% Z4:=by
 refine fbM ["bits"] F0 fun Sc0=>F0.F.ok Sc0 (fun vs H Q E h=>?_) fun cdv A outer s H vs Q E hr h=>?_
 ·obtain⟨a,bs,rfl,_⟩:=h
  rfl
 obtain⟨a,bs,rfl,hS,hb,hl,q1,q2⟩:=h
 have nd:=Sc0.nd
 refine⟨_,(aG (aL (jF (bW jT (bO fD rfl ZZ dR (aA (dv 0) aF)) (bD (v:= .int 12) rfl ZbB ⟨_,rfl⟩) (aM _)) (jC (bW bQ (bO fD rfl ZZ dR (aA (dv 0) aF)) (aU bZ (aU bZ (bD (v:= .int 12) rfl ZbB ⟨_,rfl⟩) (aU dU (bD (v:= .int 8) rfl ZaP ⟨_,rfl⟩) (aO Zam.1 (hr.mono (by decide)) rfl Zam.2.2.2 Zam.2.2.1 Zam.2.1 .nil aN (aA (dv 0) aF)))) (bD (v:= .int 15) rfl ZbA ⟨_,rfl⟩)) (aM _)))))),?_⟩
 refine⟨_,.inl hS,?_⟩
 rw [List.length_map]
 conv=>whnf
 refine bG (fun c=>?_) (fun c=>?_)
 ·have c1:(12:Int)≤((bs.length:Nat):Int):=dec_true c
  refine⟨_,.inl hS,?_⟩
  rw [List.length_map]
  refine⟨a,bs,rfl,hS,hb,by omega,hl,fun H1 g1=>?_⟩
  have:=qU hb
  refine⟨⟨by decide,dG (by omega) (by omega)⟩,?_⟩
  by_cases z:CmpB bs
  ·have e:decide (((bs.length:Nat):Int) = 12 + 8 * ((szB bs:Nat):Int) + 15) = true:=decide_eq_true (by have:=z.2;omega)
   show Q (.bl (decide (((bs.length:Nat):Int) = 12 + 8 * ((szB bs:Nat):Int) + 15))) H1
   rw [e];exact q1 z _ g1
  ·have e:decide (((bs.length:Nat):Int) = 12 + 8 * ((szB bs:Nat):Int) + 15) = false:=decide_eq_false (fun y=>z ⟨by omega,by omega⟩)
   show Q (.bl (decide (((bs.length:Nat):Int) = 12 + 8 * ((szB bs:Nat):Int) + 15))) H1
   rw [e];exact q2 z _ g1
 ·have c1:¬ (12:Int)≤((bs.length:Nat):Int):=dec_false c
  exact q2 (fun z=>by have:=z.1;omega) _ (Same.refl _)
variable (Zbx:FB P w K mg base (CXR P w) 4 "read_frame" Zgh Zi8 ["bits"] (spRead K Zdn))
include ZH Zu ZaP Zdp ZbB Zao Z5 Zy Z6 Zam Z4 in
theorem ZlQ (F0:GFm K mg "read_frame" Zjt Zgh Zi8):type_of% Zbx:=by
 refine fbM ["bits","starts"] F0 fun Sc0=>F0.F.okR Sc0 (fun vs H Q E h=>?_) fun cdv A outer s H vs Q E hr h=>?_
 ·obtain⟨a,bs,rfl,_⟩:=h
  rfl
 obtain⟨a,bs,rfl,hS,hb,hl,q1,q2⟩:=h
 have nd:=Sc0.nd
 refine⟨_,(aD (aY (cV (bJ (aO Z4.1 (hr.mono (by decide)) rfl Z4.2.2.2 Z4.2.2.1 Z4.2.1 .nil aN (aA (dv 0) aF)))) (aG (cW F.excBase_ValueError Zu Z5 (aA aQ aF))) aP) (aD (aY (aR jA (aW bC (dv 0) aC (fun _ _=>rfl)) aC (aM _)) (aG (cW F.excBase_ValueError Zu Z5 (aA aQ aF))) aP) (aD (aY (aR jA (aO Z6.1 (hr.mono (by decide)) rfl Z6.2.2.2 Z6.2.2.1 Z6.2.1 .nil aN (aA (dv 0) aF)) aC (aM _)) (aG (cW F.excBase_ValueError Zu Z5 (aA aQ aF))) aP) (aD (qZ (j:=1) nd rfl rfl rfl (ix:=[]) (dW rfl Zao (aA (aO Zam.1 (hr.mono (by decide)) rfl Zam.2.2.2 Zam.2.2.1 Zam.2.1 .nil aN (aA (dv 0) aF)) aF)) (fun C fp s0 H0 at0=>fU) (fun C fp s0 H0 at0=>(aU bZ (bD (v:= .int 12) rfl ZbB ⟨_,rfl⟩) (aU dU (bD (v:= .int 8) rfl ZaP ⟨_,rfl⟩) (dv 0)))) rfl rfl (by rfl) (show ([".0","number"]:List Str).Nodup by decide +kernel)) (aG (aL (bL (aA (aO Zy.1 (hr.mono (by decide)) rfl Zy.2.2.2 Zy.2.2.1 Zy.2.1 .nil aN (aA (cF fM (dv 0) (cC aC) (cC (bD (v:= .int 9) rfl Zdp ⟨_,rfl⟩))) aF)) (aA (gM rfl (ix:=[0]) (dM (dv 1)) (fun C fp s0 H0 at0=>fU) (fun C fp s0 H0 at0=>(aO Zy.1 (hr.mono (by decide)) rfl Zy.2.2.2 Zy.2.2.1 Zy.2.1 .nil aN (aA (cF (uY (K:=K)) (dv 1) (cC (dv 0)) (cC (aU bZ (dv 0) (bD (v:= .int 8) rfl ZaP ⟨_,rfl⟩)))) aF))) rfl rfl (by rfl) (show ([".0","start","bits"]:List Str).Nodup by decide +kernel)) aF))))))))),?_⟩
 refine⟨a,bs,rfl,hS,hb,hl,fun hc H1 g1=>?_,fun hc H1 g1=>⟨aJ rfl,q2 (fun z=>hc z.1) _ g1⟩⟩
 have h12:=hc.1
 have e0:atI (bs.map V.int) (0:Int) = some (.int (bs.getD 0 0)):=by rw [←a3P (by omega)];exact iY (i:=0) (by omega)
 refine⟨_,_,g1.seq hS,e0,?_⟩
 conv=>whnf
 refine bG (fun c=>?_) (fun c=>?_)
 ·refine⟨aJ rfl,q2 (fun z=>?_) _ g1⟩
  have:(!decide (bs.getD 0 0 = 0)) = true:=c
  rw [decide_eq_true z.2.1] at this;cases this
 have c1:bs.getD 0 0 = 0:=Decidable.byContradiction fun y=>c (by
  show (!decide (bs.getD 0 0 = 0)) = true
  rw [decide_eq_false y];rfl)
 refine⟨a,bs,rfl,g1.seq hS,hb,hl,fun H2 g2=>?_⟩
 conv=>whnf
 refine bG (fun z=>?_) (fun z=>?_)
 ·refine⟨aJ rfl,q2 (fun y=>?_) _ (g1.trans g2)⟩
  have:(!decide (((rst bs:Nat):Int) = 0)) = true:=z
  rw [decide_eq_true (by have:=y.2.2;omega)] at this;cases this
 have z1:rst bs = 0:=Decidable.byContradiction fun y=>z (by
  show (!decide (((rst bs:Nat):Int) = 0)) = true
  rw [decide_eq_false (by omega)];rfl)
 have ok:RdOk bs:=⟨hc,c1,z1⟩
 have gs2:=g1.trans g2
 have s8:=qU hb
 refine⟨a,bs,rfl,gs2.seq hS,hb,h12,hl,fun H3 g3=>?_⟩
 have gs3:=gs2.trans g3
 have em:((szB bs:Nat):Int).toNat = szB bs:=Int.toNat_natCast _
 refine⟨⟨by omega,by omega⟩,gB (fun i ys H'=>ys = ((List.range i).map fun k=>V.int (12 + 8 * ((k:Nat):Int)))∧H' = H3) ?_ ⟨rfl,rfl⟩ ?_ ?_⟩
 ·rintro i ys H' hi ⟨rfl,_⟩
  refine cJ ?_
  rw [List.length_map,List.length_range];omega
 ·rintro i ys H' hi ⟨rfl,rfl⟩
  rw [em] at hi
  refine⟨⟨by decide,dG (by omega) (by omega)⟩,?_,rfl⟩
  rw [List.range_succ,List.map_append]
  show _ ++ [V.int (12 + 8 * (0 + (i:Int)))] = _ ++ [V.int (12 + 8 * ((i:Nat):Int))]
  rw [Int.zero_add]
 rintro ys H4 ⟨rfl,rfl⟩ ps hps
 rw [em]
 have g4:=aH hps (.lst ((List.range (szB bs)).map fun k=>V.int (12 + 8 * ((k:Nat):Int))))
 have e4:=aB (H:=H4) (a:=ps) (o:= .lst ((List.range (szB bs)).map fun k=>V.int (12 + 8 * ((k:Nat):Int))))
 generalize upd H4 ps _ = H5 at g4 e4
 have gs5:=gs3.trans g4
 refine⟨_,gs5.seq hS,fun p6 hp6=>?_⟩
 have ec:cutV (bs.map V.int) (some (1:Int)) (some (9:Int)) = ((bs.drop 1).take 8).map V.int:=iC rfl rfl (by omega)
 rw [ec]
 have g6:=aH hp6 (.lst (((bs.drop 1).take 8).map V.int))
 have e6:=aB (H:=H5) (a:=p6) (o:= .lst (((bs.drop 1).take 8).map V.int))
 generalize upd H5 p6 _ = H6 at g6 e6
 refine⟨p6,_,rfl,SqL.of e6,cZ hb 1 8,(by rw [List.length_take];omega),?_⟩
 have gs6:=gs5.trans g6
 have e46:=g6 _ _ e4
 refine⟨⟨_,SqL.of e46⟩,jL (xs:=(List.range (szB bs)).map fun k=>V.int (12 + 8 * ((k:Nat):Int))) (fun i ys H'=>ys = ((daB bs).take i).map V.int∧Same H6 H') ?_ ⟨rfl,Same.refl _⟩ (fun i ys H' _ z=>SqL.of (z.2 _ _ e46)) ?_ ?_⟩
 ·rintro i ys H' hi ⟨rfl,_⟩
  refine cJ ?_
  rw [List.length_map,List.length_take]
  rw [List.length_map,List.length_range] at hi
  omega
 ·rintro i x ys H' hx ⟨rfl,g⟩
  have hi:i < szB bs:=by
   have:=(List.getElem?_eq_some_iff.mp hx).1
   rwa [List.length_map,List.length_range] at this
  have ex:x = V.int (12 + 8 * ((i:Nat):Int)):=by
   rw [List.getElem?_map,List.getElem?_range hi] at hx
   exact(Option.some.inj hx).symm
  subst ex
  have hc2:=hc.2
  refine⟨_,(gs6.trans g).seq hS,fun p7 hp7=>?_⟩
  have ec2:cutV (bs.map V.int) (some ((12:Int) + 8 * ((i:Nat):Int))) (some ((12:Int) + 8 * ((i:Nat):Int) + 8)) = ((bs.drop (12 + 8 * i)).take 8).map V.int:=iC (by omega) (by omega) (by omega)
  rw [ec2]
  refine⟨p7,_,rfl,SqL.of aB,cZ hb _ 8,(by rw [List.length_take];omega),?_,g.trans (aH hp7 _)⟩
  rw [qI hi,List.map_append]
  rfl
 rintro ys H7 ⟨rfl,g7⟩ p8 hp8
 have e8:upd H7 p8 (.lst (((daB bs).take ((List.range (szB bs)).map fun k=>V.int (12 + 8 * ((k:Nat):Int))).length).map V.int)) p8 = some (.lst ((daB bs).map V.int)):=by
  rw [aB,List.length_map,List.length_range,List.take_of_length_le (by rw [oM];exact Nat.le_refl _)]
 have g8:=aH hp8 (.lst (((daB bs).take ((List.range (szB bs)).map fun k=>V.int (12 + 8 * ((k:Nat):Int))).length).map V.int))
 generalize upd H7 p8 _ = H8 at e8 g8
 refine⟨aJ rfl,fun t ht=>?_⟩
 have g9:=aH ht (.tup [.int ((nm ((bs.drop 1).take 8):Nat):Int),.ref p8])
 exact q1 ok t p8 _ ((gs6.trans g7).none hp8) (gs6.trans (g7.trans (g8.trans g9))) (g9 _ _ e8) aB
variable (Zcu:MB P w K mg base (CX0) 3 ZdY Zh3 ["self"] (spRdInit CA.reader CA.streak))
include Zef Zbl Zf Zz Zq ZF ZaA in
theorem Zk8 (F0:Fun K "__init__" "Reader.__init__" Zir ZdY Zh3):type_of% Zcu:=by
 refine mbM ["self"] F0 fun Sc0=>F0.ok Sc0 (fun vs H Q E h=>?_) fun cdv A outer s H vs Q E hr h=>?_
 ·obtain⟨a,dx,rfl,_⟩:=h
  rfl
 obtain⟨a,dx,rfl,ha,q⟩:=h
 have nd:=Sc0.nd
 refine⟨_,(aD (bY Zf Zz (dv 0) (iI Zbl ZaA.1 (hr.mono (by decide)) rfl Zef ZaA.2 .nil aN)) (aD (bY Zf Zq (dv 0) (bN aF)) (aG (bY Zf ZF (dv 0) aQ)))),?_⟩
 refine fun st ds hst hds hne=>⟨st,ds,rfl,aB,fun H2 eH=>⟨rfl,?_⟩⟩
 have g1:Same H H2:=by rw [eH];exact bH hst hds
 have s2:SkAt CA.streak H2 st (sk []):=⟨ds,by rw [eH];exact aB⟩
 clear eH
 refine⟨dx, [],g1 _ _ ha,by decide,?_⟩
 have nas:a≠st:=fun z=>by rw [z,hst] at ha;cases ha
 refine⟨aJ rfl,fun ks hks=>?_⟩
 have nak:a≠ks:=fun z=>by rw [z] at hks;rw [aB] at hks;cases hks
 have hks2:H2 ks = none:=by rw [aK (Ne.symm nak)] at hks;exact hks
 have nsk:st≠ks:=fun z=>by
  obtain⟨d,e⟩:=s2
  rw [z,hks2] at e;cases e
 refine⟨dx, [("streak",.ref st)],(by rw [aK nak,aB];rfl),(show 1 < 1000 by decide),?_⟩
 refine⟨dx,_,aB,(show 2 < 1000 by decide),?_⟩
 refine q _ st ks ⟨⟨dx,aB⟩,?_,?_⟩ hst (g1.none hks2) ?_
 ·refine s2.at_ ?_
  rw [aK (Ne.symm nas),aK (Ne.symm nas),aK nsk,aK (Ne.symm nas)]
 ·rw [aK (Ne.symm nak),aK (Ne.symm nak),aB]
  rfl
 ·intro x o hx e
  have hxk:x≠ks:=fun z=>by rw [z,g1.none hks2] at e;cases e
  rw [aK hx,aK hx,aK hxk,aK hx]
  exact g1 _ _ e
variable (ZbH:MB P w K mg base (CX0) 4 Zdi Zgz ["self"] (spRdJudged CA.reader CA.streak))
include ZH Zj Zf ZB ZaH Zz Zq ZJ ZaE Z6 Z4 in
theorem Zku (F0:Fun K "judged" "Reader.judged" ZgH Zdi Zgz):type_of% ZbH:=by
 refine mbM ["self"] F0 fun Sc0=>F0.ok Sc0 (fun vs H Q E h=>?_) fun cdv A outer s H vs Q E hr h=>?_
 ·obtain⟨r,st,ks,w,t,rfl,_⟩:=h
  rfl
 obtain⟨r,st,ks,w,t,rfl,hR,hb,hl,q⟩:=h
 have nd:=Sc0.nd
 refine⟨_,(aD (aY (bJ (bI Zj ZaH ZaE.1 (hr.mono (by decide)) ZaE.2 .nil aN (aV Zf Zz (dv 0)))) (aG (aL aQ)) aP) (aD (aY (PW.pt (fH (bJ (bI Zj ZB ZJ.1 (hr.mono (by decide)) ZJ.2 .nil aN (aV Zf Zz (dv 0)))) (eY (cV (bJ (aO Z4.1 (hr.mono (by decide)) rfl Z4.2.2.2 Z4.2.2.1 Z4.2.1 .nil aN (aA (aV Zf Zq (dv 0)) aF))))))) (aG (aL aQ)) aP) (aG (aL (cB (cP (aR bQ (aO Z6.1 (hr.mono (by decide)) rfl Z6.2.2.2 Z6.2.2.1 Z6.2.1 .nil aN (aA (aV Zf Zq (dv 0)) aF)) aC (aM _)) aQ aQ)))))),?_⟩
 obtain⟨dx,er⟩:=hR.rd
 have hs:=hR.sk
 obtain⟨ds,es⟩:=id hs
 refine⟨dx,_,.ref st,er,rfl,⟨ds,_,es,rfl⟩,st,sk w,rfl,hs,?_⟩
 conv=>whnf
 refine bG (fun c=>?_) (fun c=>?_)
 ·have c1:5 < run w:=dec_true c
  have:=q H (Same.refl _)
  rw [gZ c1] at this
  exact this
 have c1:¬ 5 < run w:=dec_false c
 refine⟨dx,_,.ref st,er,rfl,⟨ds,_,es,rfl⟩,st,sk w,rfl,hs,?_⟩
 conv=>whnf
 refine bG (fun z=>?_) (fun z=>?_)
 ·have z1:run w = 5:=dec_true z
  have:=q H (Same.refl _)
  rw [fP c1 (.inl z1)] at this
  exact this
 have z1:¬ run w = 5:=dec_false z
 have kb:=kI hb
 have kl:=lO w
 refine⟨dx,_,.ref ks,er,rfl,ks,kp w,rfl,SqL.of hR.kp,kb,by omega,fun hc H1 g1=>?_,fun hc H1 g1=>?_⟩
 ·have hc2:¬ (run w = 5∨¬ CmpB (kp w)):=fun y=>y.elim z1 fun x=>x hc
  refine⟨fun x H'=>x = .str (ans w)∧Same H H',?_,?_⟩
  ·refine⟨dx,_,.ref ks,g1 _ _ er,rfl,ks,kp w,rfl,SqL.of (g1 _ _ hR.kp),kb,by omega,fun H2 g2=>?_⟩
   conv=>whnf
   refine bG (fun y=>?_) (fun y=>?_)
   ·have y1:((rst (kp w):Nat):Int) = 0:=dec_true y
    rw [gY c1 hc2 (by omega)]
    exact⟨rfl,g1.trans g2⟩
   ·have y1:¬ ((rst (kp w):Nat):Int) = 0:=dec_false y
    rw [kY c1 hc2 (by omega)]
    exact⟨rfl,g1.trans g2⟩
  ·rintro x H2 ⟨rfl,g2⟩
   exact q _ g2
 ·have:=q H1 g1
  rw [fP c1 (.inr hc)] at this
  exact this
variable (Z2:MB P w K mg base (CX0) 5 ZdX Zh2 ["self","bit"] (spRdHear CA.reader CA.streak))
include ZH Zj Zf ZQ ZB Zbb Zz Zq ZF ZR ZJ ZbH in
theorem Zk7 (F0:Fun K "hear" "Reader.hear" Ziq ZdX Zh2):type_of% Z2:=by
 refine mbM ["self","bit","is_put_in"] F0 fun Sc0=>F0.ok Sc0 (fun vs H Q E h=>?_) fun cdv A outer s H vs Q E hr h=>?_
 ·obtain⟨r,st,ks,w,t,b,rfl,_⟩:=h
  rfl
 obtain⟨r,st,ks,w,t,b,rfl,hR,hb,hl,q⟩:=h
 have nd:=Sc0.nd
 refine⟨_,(aD (aZ (i:=2) nd rfl (Or.inl rfl) (bI Zj ZB ZJ.1 (hr.mono (by decide)) ZJ.2 .nil aN (aV Zf Zz (dv 0)))) (aD (bF (cI Zj ZQ ZR.1 (hr.mono (by decide)) ZR.2 .nil aN (aV Zf Zz (dv 0)) (aA (dv 1) aF))) (aD (dJ (aY (cV (bJ (dv 2))) (aG (bF (cD (aV Zf Zq (dv 0)) (aA (dv 1) aF)))) aP)) (aD (bY Zf ZF (dv 0) (bI Zf Zbb ZbH.1 (hr.mono (by decide)) ZbH.2 .nil aN (dv 0))) (aG (aL (aV Zf ZF (dv 0)))))))),?_⟩
 obtain⟨dx,er⟩:=hR.rd
 have hs:=hR.sk
 obtain⟨ds,es⟩:=id hs
 refine⟨dx,_,.ref st,er,rfl,⟨ds,_,es,rfl⟩,st,sk w,rfl,hs,?_⟩
 refine⟨dx,_,.ref st,er,rfl,⟨ds,_,es,rfl⟩,st,sk w,b,rfl,hs,fun H2 s2 k2=>?_⟩
 rw [←gK] at s2
 have er2:=(k2 r hR.ne1).trans er
 have ek2:=(k2 ks hR.ne3).trans hR.kp
 have kl:=lO w
 refine⟨fun σ' H'=>σ' = [some (.ref r),some (.int b),some (.bl (decide (run w = 5)))]∧RdAt CA.reader CA.streak H' r st ks (w ++ [b]) t∧But3 H H' r st ks,?_,?_⟩
 ·conv =>whnf
  refine bG (fun c=>?_) (fun c=>?_)
  ·have c1:¬ run w = 5:=fun y=>by
    have:(!decide (run w = 5)) = true:=c
    rw [decide_eq_true y] at this;cases this
   refine⟨dx,_,.ref ks,er2,rfl,⟨_,SqL.of ek2⟩,_,ek2,cJ (by rw [List.length_map];omega),rfl,⟨⟨dx,(by rw [aK hR.ne2];exact er2)⟩,s2.set ek2,?_⟩,?_⟩
   ·rw [aB,cO,if_neg c1,List.map_append];rfl
   ·intro x o h1 h2 h3 e
    rw [aK h3,k2 x h2]
    exact e
  ·have c1:run w = 5:=Decidable.byContradiction fun y=>c (by
    show (!decide (run w = 5)) = true
    rw [decide_eq_false y];rfl)
   refine⟨rfl,⟨⟨dx,er2⟩,s2,?_⟩,?_⟩
   ·rw [cO,if_pos c1];exact ek2
   ·intro x o h1 h2 h3 e
    rw [k2 x h2]
    exact e
 rintro σ' H3 ⟨rfl,hR3,b3⟩
 have h450:(w ++ [b]).length≤450:=by rw [List.length_append,List.length_singleton];omega
 obtain⟨dy,er3⟩:=hR3.rd
 refine⟨⟨dy,_,er3,rfl⟩,r,st,ks,w ++ [b],t,rfl,hR3,hb,h450,fun H4 g4=>?_⟩
 have hR4:=hR3.same g4
 obtain⟨dz,er4⟩:=hR4.rd
 refine⟨dz,_,er4,(show 3 < 1000 by decide),?_⟩
 have hR5:RdAt CA.reader CA.streak (upd H4 r (.ins CA.reader dz (rdF st ks (ans (w ++ [b]))))) r st ks (w ++ [b]) (ans (w ++ [b])):=⟨⟨dz,aB⟩,hR4.sk.at_ (aK (Ne.symm hR4.ne1)),by rw [aK (Ne.symm hR4.ne2)];exact hR4.kp⟩
 have b5:But3 H (upd H4 r (.ins CA.reader dz (rdF st ks (ans (w ++ [b]))))) r st ks:=fun x o h1 h2 h3 e=>by
  rw [aK h1]
  exact g4 _ _ (b3 x o h1 h2 h3 e)
 exact⟨dz,_,.str (ans (w ++ [b])),aB,rfl,q _ hR5 b5⟩
variable (Zcg:MB P w K mg base (CX0) 1 Zdz Zhm ["self"] (spRdPlain CA.reader CA.streak))
include ZbD Zf Zq in
theorem ZkL (F0:Fun K "plain" "Reader.plain" ZhB Zdz Zhm):type_of% Zcg:=by
 refine mbM ["self"] F0 fun Sc0=>F0.ok Sc0 (fun vs H Q E h=>?_) fun cdv A outer s H vs Q E hr h=>?_
 ·obtain⟨r,st,ks,w,t,rfl,_⟩:=h
  rfl
 obtain⟨r,st,ks,w,t,rfl,hR,q⟩:=h
 have nd:=Sc0.nd
 refine⟨_,(aG (aL (cT fO rfl ZbD gW (aA (aV Zf Zq (dv 0)) aF)))),?_⟩
 obtain⟨dx,er⟩:=hR.rd
 exact⟨dx,_,.ref ks,er,rfl,_,.inl (SqL.of hR.kp),fun p hp=>q p _ hp (aH hp _) aB⟩
variable (Zcf:MB P w K mg base (CX0) 5 Zdy Zhl ["self"] (spRdFrame CA.reader CA.streak))
include ZH Zu Zf Zq ZF Zbx in
theorem ZkK (F0:Fun K "frame" "Reader.frame" ZhA Zdy Zhl):type_of% Zcf:=by
 refine mbM ["self"] F0 fun Sc0=>F0.ok Sc0 (fun vs H Q E h=>?_) fun cdv A outer s H vs Q E hr h=>?_
 ·obtain⟨r,st,ks,w,rfl,_⟩:=h
  rfl
 obtain⟨r,st,ks,w,rfl,hR,hb,hl,h0,q1,q2⟩:=h
 have nd:=Sc0.nd
 refine⟨_,(aG (aL (cB (cP (aR bQ (aV Zf ZF (dv 0)) aQ (aM _)) (aO Zbx.1 (hr.mono (by decide)) rfl Zbx.2.2.2 Zbx.2.2.1 Zbx.2.1 .nil iB (aA (aV Zf Zq (dv 0)) aF)) rA)))),?_⟩
 obtain⟨dx,er⟩:=hR.rd
 have kb:=kI hb
 have kl:=lO w
 refine⟨fun x H'=>Q x H',?_,fun x H' z=>z⟩
 refine⟨dx,_,.str (ans w),er,rfl,?_⟩
 conv=>whnf
 refine bG (fun c=>?_) (fun c=>?_)
 ·have c1:ans w = "whole":=of_decide_eq_true c
  have c2:=iZ c1
  have ok:RdOk (kp w):=⟨c2.1,h0 c1,c2.2⟩
  refine⟨dx,_,.ref ks,er,rfl,ks,kp w,rfl,SqL.of hR.kp,kb,by omega,fun _ t p H' hp g e1 e2=>q1 c1 ok t p H' hp g e1 e2,fun no=>absurd ok no⟩
 ·exact q2 fun z=>c (decide_eq_true z)
variable (ZaZ:MB P w K mg base (CX0) 1 Ze6 ZjM ["self","votes","spoke"] (spTlInit K CA.rtail CA.stail))
include Ze Zd in
theorem Zmc (F0:Fun K "__init__" "Tail.__init__" Zj8 Ze6 ZjM):type_of% ZaZ:=by
 refine mbM ["self","votes","spoke"] F0 fun Sc0=>F0.ok Sc0 (fun vs H Q E h=>?_) fun cdv A outer s H vs Q E hr h=>?_
 ·obtain⟨t,C,dx,v,s,rfl,_⟩:=h
  rfl
 obtain⟨t,C,dx,v,s,rfl,hC,e,q⟩:=h
 have nd:=Sc0.nd
 refine⟨_,(aD (gP (dv 0) (dv 1)) (aD (gP (dv 0) (dv 2)) (aD (gP (dv 0) aC) (aG (gP (dv 0) aC))))),?_⟩
 have hc:=fG Ze Zd hC
 refine⟨C,dx,_,e,hc.cls,hc.n1,by decide,?_⟩
 refine⟨C,dx,_,aB,hc.cls,hc.n2,(show 1 < 1000 by decide),?_⟩
 refine⟨C,dx,_,aB,hc.cls,hc.n3,(show 2 < 1000 by decide),?_⟩
 refine⟨C,dx,_,aB,hc.cls,hc.n4,(show 3 < 1000 by decide),?_⟩
 have eu:∀(H:Hp) (a:Addr) (x y:HO),upd (upd H a x) a y = upd H a y:=fun H a x y=>by
  funext z
  by_cases h:z = a
  ·rw [h,aB,aB]
  ·rw [aK h,aK h,aK h]
 rw [eu,eu,eu]
 exact q
variable (Zdb:MB P w K mg base (CX0) 1 ZdN ZjN ["self"] (spTlSays CA.rtail CA.stail))
include ZcF Ze Zd in
theorem Zmd (F0:Fun K "says" "Tail.says" Zj9 ZdN ZjN):type_of% Zdb:=by
 refine mbM ["self"] F0 fun Sc0=>F0.ok Sc0 (fun vs H Q E h=>?_) fun cdv A outer s H vs Q E hr h=>?_
 ·obtain⟨t,v,s,o,n,rfl,_⟩:=h
  rfl
 obtain⟨t,v,s,o,n,rfl,⟨C,dx,hC,e⟩,q⟩:=h
 have nd:=Sc0.nd
 refine⟨_,(aG (aL (cB (cP (PW.pt (cH (aR bQ (cR (dv 0)) (bD (v:= .int 1) rfl ZcF ⟨_,rfl⟩) (aM _)) (cN (cV (bJ (cR (dv 0))))))) aC aC)))),?_⟩
 have hc:=fG Ze Zd hC
 refine⟨fun x H'=>x = .int (tlSays s o)∧H' = H,?_,?_⟩
 ·refine⟨C,dx,_,_,e,hc.cls,hc.n3,rfl,?_⟩
  conv=>whnf
  refine bG (fun c=>?_) (fun c=>uH ?_)
  ·have c1:((o:Nat):Int) = 1:=dec_true c
   refine⟨C,dx,_,_,e,hc.cls,hc.n2,rfl,?_⟩
   cases s
   ·refine⟨?_,rfl⟩
    unfold tlSays
    rw [if_pos ⟨by omega,rfl⟩]
   ·refine⟨?_,rfl⟩
    unfold tlSays
    rw [if_neg fun z=>nomatch z.2]
  ·have c1:¬ ((o:Nat):Int) = 1:=dec_false c
   refine⟨?_,rfl⟩
   unfold tlSays
   rw [if_neg fun z=>c1 (by omega)]
 rintro x H' ⟨rfl,rfl⟩
 exact q
variable (ZcQ:MB P w K mg base (CX0) 1 Zdo Zi2 ["self"] (spTlPlace CA.rtail CA.stail))
include Ze Zd in
theorem ZlK (F0:Fun K "place" "Tail.place" Zjn Zdo Zi2):type_of% ZcQ:=by
 refine mbM ["self"] F0 fun Sc0=>F0.ok Sc0 (fun vs H Q E h=>?_) fun cdv A outer s H vs Q E hr h=>?_
 ·obtain⟨t,v,s,o,n,rfl,_⟩:=h
  rfl
 obtain⟨t,v,s,o,n,rfl,⟨C,dx,hC,e⟩,q⟩:=h
 have nd:=Sc0.nd
 refine⟨_,(aG (aL (cR (dv 0)))),?_⟩
 have hc:=fG Ze Zd hC
 exact⟨C,dx,_,_,e,hc.cls,hc.n3,rfl,q⟩
variable (ZbJ:MB P w K mg base (CX0) 1 ZcB ZgB ["self","at","bit"] (spTlFault CA.rtail CA.stail))
include ZcF Ze Zd in
theorem Zkw (F0:Fun K "is_fault" "Tail.is_fault" ZgJ ZcB ZgB):type_of% ZbJ:=by
 refine mbM ["self","at","bit"] F0 fun Sc0=>F0.ok Sc0 (fun vs H Q E h=>?_) fun cdv A outer s H vs Q E hr h=>?_
 ·obtain⟨t,v,s,o,n,a,b,rfl,_⟩:=h
  rfl
 obtain⟨t,v,s,o,n,a,b,rfl,⟨C,dx,hC,e⟩,q⟩:=h
 have nd:=Sc0.nd
 refine⟨_,(aD (aY (aR bQ (dv 1) (bD (v:= .int 1) rfl ZcF ⟨_,rfl⟩) (aM _)) (aG (aL (jF (cR (dv 0)) (jC (bW bQ (dv 2) aC (aM _)))))) aP) (aG (aL (bW bQ (dv 2) aC (aM _))))),?_⟩
 have hc:=fG Ze Zd hC
 conv=>whnf
 refine bG (fun c=>?_) (fun c=>?_)
 ·have c1:((a:Nat):Int) = 1:=dec_true c
  have ef:tlFault s a b = (s && decide (b = 1)):=if_pos (by omega)
  rw [ef] at q
  refine⟨C,dx,_,_,e,hc.cls,hc.n2,rfl,?_⟩
  cases s
  ·exact q
  ·exact q
 ·have c1:¬ ((a:Nat):Int) = 1:=dec_false c
  have ef:tlFault s a b = decide (b = 0):=if_neg (by omega)
  rw [ef] at q
  exact q
variable (ZaT:MB P w K mg base (CX0) 1 Zbz Zfc ["self","bit"] (spTlJudge CA.rtail CA.stail))
include Zc5 Ze Zd in
theorem ZiG (F0:Fun K "judged_vote" "Tail.judged_vote" Zfd Zbz Zfc):type_of% ZaT:=by
 refine mbM ["self","bit"] F0 fun Sc0=>F0.ok Sc0 (fun vs H Q E h=>?_) fun cdv A outer s H vs Q E hr h=>?_
 ·obtain⟨t,v,s,o,n,b,rfl,_⟩:=h
  rfl
 obtain⟨t,v,s,o,n,b,rfl,⟨C,dx,hC,e⟩,q⟩:=h
 have nd:=Sc0.nd
 refine⟨_,(aD (dJ (aY (aR bQ (dv 1) aC (aM _)) (aG (gP (dv 0) (aU bZ (cR (dv 0)) aC))) aP)) (aD (aY (aR lY (cR (dv 0)) (aU bZ (bD (v:= .int 9) rfl Zc5 ⟨_,rfl⟩) (cR (dv 0))) (aM _)) (aG (aL aQ)) aP) (aG (aL (cB (cP (aR pC (cR (dv 0)) (aU vH (cR (dv 0)) aC) (aM _)) aQ aQ)))))),?_⟩
 have hc:=fG Ze Zd hC
 refine⟨fun σ' H'=>σ' = [some (.ref t),some (.int b)]∧H' t = some (.ins C dx (tlF v s o (if b = 0 then n + 1 else n)))∧But1 H H' t,?_,?_⟩
 ·conv=>whnf
  refine bG (fun c=>?_) (fun c=>?_)
  ·have c1:b = 0:=dec_true c
   refine⟨C,dx,_,_,e,hc.cls,hc.n4,rfl,C,dx,_,e,hc.cls,hc.n4,(show 4 < 1000 by decide),rfl,?_,fun x u hx ex=>by rw [aK hx];exact ex⟩
   rw [aB,if_pos c1]
   rfl
  ·have c1:¬ b = 0:=dec_false c
   refine⟨rfl,?_,fun x u hx ex=>ex⟩
   rw [if_neg c1]
   exact e
 rintro σ' H' ⟨rfl,e',b'⟩
 have q':=q H' ⟨C,dx,hC,e'⟩ b'
 generalize (if b = 0 then n + 1 else n) = m at e' q'
 refine⟨C,dx,_,_,e',hc.cls,hc.n3,rfl,C,dx,_,_,e',hc.cls,hc.n1,rfl,?_⟩
 conv=>whnf
 refine bG (fun c=>?_) (fun c=>?_)
 ·have c1:((o:Nat):Int) < 9 + ((v:Nat):Int):=dec_true c
  have ev:tlVote v o m = "more":=if_pos (by omega)
  rw [ev] at q'
  exact q'
 have c1:¬ ((o:Nat):Int) < 9 + ((v:Nat):Int):=dec_false c
 have ev:tlVote v o m = (if v / 2 < m then ("refused":Str) else ("taken":Str)):=if_neg (by omega)
 rw [ev] at q'
 refine⟨fun x H2=>x = .str (if v / 2 < m then ("refused":Str) else ("taken":Str))∧H2 = H',?_,?_⟩
 ·refine⟨C,dx,_,_,e',hc.cls,hc.n4,rfl,C,dx,_,_,e',hc.cls,hc.n1,rfl,?_⟩
  refine⟨⟨by decide,by decide⟩,?_⟩
  conv=>whnf
  refine bG (fun z=>?_) (fun z=>?_)
  ·have z1:((v:Nat):Int) / 2 < ((m:Nat):Int):=dec_true z
   rw [if_pos (by omega)]
   exact⟨rfl,rfl⟩
  ·have z1:¬ ((v:Nat):Int) / 2 < ((m:Nat):Int):=dec_false z
   rw [if_neg (by omega)]
   exact⟨rfl,rfl⟩
 rintro x H2 ⟨rfl,rfl⟩
 exact q'
variable (Zda:MB P w K mg base (CX0) 2 ZdM ZjL ["self","bit"] (spTlHear CA.rtail CA.stail))
include Zc5 Ze Zd ZaX ZaR ZaI Zav ZbJ ZaT in
theorem Zmb (F0:Fun K "hear" "Tail.hear" Zj7 ZdM ZjL):type_of% Zda:=by
 refine mbM ["self","bit","at"] F0 fun Sc0=>F0.ok Sc0 (fun vs H Q E h=>?_) fun cdv A outer s H vs Q E hr h=>?_
 ·obtain⟨t,v,s,o,n,b,rfl,_⟩:=h
  rfl
 obtain⟨t,v,s,o,n,b,rfl,⟨C,dx,hC,e⟩,q⟩:=h
 have nd:=Sc0.nd
 refine⟨_,(aD (aZ (i:=2) nd rfl (Or.inl rfl) (cR (dv 0))) (aD (gP (dv 0) (aU bZ (dv 2) aC)) (aD (aY (aR jT (dv 2) (bD (v:= .int 9) rfl Zc5 ⟨_,rfl⟩) (aM _)) (aG (aL (lN ZaT.1 (hr.mono (by decide)) ZaT.2 .nil aN (dv 0) (aA (dv 1) aF)))) aP) (aG (aL (cB (cP (bJ (lN ZbJ.1 (hr.mono (by decide)) ZbJ.2 .nil aN (dv 0) (aA (dv 2) (aA (dv 1) aF)))) aQ aQ))))))),?_⟩
 have hc:=fG Ze Zd hC
 have hmj:=jN ZaI Zav hC
 have hmf:=jN ZaX ZaR hC
 refine⟨C,dx,_,_,e,hc.cls,hc.n3,rfl,C,dx,_,e,hc.cls,hc.n3,(show 4 < 1000 by decide),?_⟩
 have e1:upd H t (.ins C dx (putF "over" (.int (((o:Nat):Int) + 1)) (tlF v s o n))) t = some (.ins C dx (tlF v s (o + 1) n)):=aB
 have b1:But1 H (upd H t (.ins C dx (putF "over" (.int (((o:Nat):Int) + 1)) (tlF v s o n)))) t:=fun x u hx ex=>by rw [aK hx];exact ex
 generalize upd H t (.ins C dx (putF "over" (.int (((o:Nat):Int) + 1)) (tlF v s o n))) = H1 at e1 b1
 conv=>whnf
 refine bG (fun c=>?_) (fun c=>?_)
 ·have c1:(9:Int)≤((o:Nat):Int):=dec_true c
  have c2:9≤o:=by omega
  refine⟨⟨C,dx,_,e1,hc.cls,hmj,rfl⟩,t,v,s,o + 1,n,b,rfl,⟨C,dx,hC,e1⟩,fun H2 h2 b2=>?_⟩
  have en:tlN o b n = (if b = 0 then n + 1 else n):=by
   unfold tlN
   by_cases z:b = 0
   ·rw [if_pos ⟨c2,z⟩,if_pos z]
   ·rw [if_neg fun y=>z y.2,if_neg z]
  have ew:tlWord v s o n b = tlVote v (o + 1) (tlN o b n):=if_pos c2
  rw [←en] at h2 ⊢
  have:=q H2 h2 fun x u hx ex=>b2 x u hx (b1 x u hx ex)
  rw [ew] at this
  exact this
 have c1:¬ (9:Int)≤((o:Nat):Int):=dec_false c
 have c2:¬ 9≤o:=by omega
 have en:tlN o b n = n:=if_neg fun z=>c2 z.1
 have ew:tlWord v s o n b = (if tlFault s o b = true then ("fault":Str) else ("more":Str)):=if_neg c2
 rw [ew,en] at q
 have q':=q H1 ⟨C,dx,hC,e1⟩ b1
 refine⟨fun x H2=>x = .str (if tlFault s o b = true then ("fault":Str) else ("more":Str))∧H2 = H1,?_,?_⟩
 ·refine⟨⟨C,dx,_,e1,hc.cls,hmf,rfl⟩,t,v,s,o + 1,n,o,b,rfl,⟨C,dx,hC,e1⟩,?_⟩
  generalize tlFault s o b = f
  cases f
  ·exact⟨rfl,rfl⟩
  ·exact⟨rfl,rfl⟩
 rintro x H2 ⟨rfl,rfl⟩
 exact q'
variable (ZbG:MB P w K mg base (CX0) 2 Zdh Zgy ["self","votes"] (spTlMake CA.rtail false))
include Zdq Ze Zd Zae ZaZ in
theorem Zkt (F0:Fun K "__init__" "ReadTail.__init__" ZgG Zdh Zgy):type_of% ZbG:=by
 refine mbM ["self","votes"] F0 fun Sc0=>F0.ok Sc0 (fun vs H Q E h=>?_) fun cdv A outer s H vs Q E hr h=>?_
 ·obtain⟨t,dx,v,rfl,_⟩:=h
  rfl
 obtain⟨t,dx,v,rfl,e,q⟩:=h
 have nd:=Sc0.nd
 refine⟨_,(aG (bF (pQ Zae ZaZ.1 (hr.mono (by decide)) ZaZ.2 .nil aN (bD (v:= .ref ZdL) rfl Zdq rfl) (aA (dv 0) (aA (dv 1) (aA cL aF)))))),?_⟩
 exact⟨rfl,t,CA.rtail,dx,v,false,rfl,.inl rfl,e,q _ rfl⟩
variable (Zbi:MB P w K mg base (CX0) 2 Zc1 Zgn ["self","votes"] (spTlMake CA.stail true))
include Zdq Ze Zd Zae ZaZ in
theorem ZjB (F0:Fun K "__init__" "SpeakTail.__init__" Zgs Zc1 Zgn):type_of% Zbi:=by
 refine mbM ["self","votes"] F0 fun Sc0=>F0.ok Sc0 (fun vs H Q E h=>?_) fun cdv A outer s H vs Q E hr h=>?_
 ·obtain⟨t,dx,v,rfl,_⟩:=h
  rfl
 obtain⟨t,dx,v,rfl,e,q⟩:=h
 have nd:=Sc0.nd
 refine⟨_,(aG (bF (pQ Zae ZaZ.1 (hr.mono (by decide)) ZaZ.2 .nil aN (bD (v:= .ref ZdL) rfl Zdq rfl) (aA (dv 0) (aA (dv 1) (aA cL aF)))))),?_⟩
 exact⟨rfl,t,CA.stail,dx,v,true,rfl,.inr rfl,e,q _ rfl⟩
variable (ZcJ:MB P w K mg base (CX0) 1 Zeq ZiS ["self"] (spCtInit CA.count))
include Zc Zo in
theorem ZlA (F0:Fun K "__init__" "Count.__init__" Zjd Zeq ZiS):type_of% ZcJ:=by
 refine mbM ["self"] F0 fun Sc0=>F0.ok Sc0 (fun vs H Q E h=>?_) fun cdv A outer s H vs Q E hr h=>?_
 ·obtain⟨a,dx,rfl,_⟩:=h
  rfl
 obtain⟨a,dx,rfl,ha,q⟩:=h
 have nd:=Sc0.nd
 refine⟨_,(aG (bY Zc Zo (dv 0) aC)),?_⟩
 exact⟨dx, [],ha,by decide,q⟩
variable (Zbf:MB P w K mg base (CX0) 1 ZcY Zgk ["self"] (spCtB CA.count 12))
include ZeG Zc Zo in
theorem Zjy (F0:Fun K "is_quiet" "Count.is_quiet" Zgp ZcY Zgk):type_of% Zbf:=by
 refine mbM ["self"] F0 fun Sc0=>F0.ok Sc0 (fun vs H Q E h=>?_) fun cdv A outer s H vs Q E hr h=>?_
 ·obtain⟨a,n,rfl,_⟩:=h
  rfl
 obtain⟨a,n,rfl,⟨dx,ha⟩,q⟩:=h
 have nd:=Sc0.nd
 refine⟨_,(aG (aL (bW jT (aV Zc Zo (dv 0)) (bD (v:= .int 12) rfl ZeG ⟨_,rfl⟩) (aM _)))),?_⟩
 exact⟨dx,_,.int n,ha,rfl,q⟩
variable (Zar:MB P w K mg base (CX0) 1 Zdu Zhh ["self"] (spCtB CA.count 18))
include ZfP Zc Zo in
theorem ZkG (F0:Fun K "is_off" "Count.is_off" Zhw Zdu Zhh):type_of% Zar:=by
 refine mbM ["self"] F0 fun Sc0=>F0.ok Sc0 (fun vs H Q E h=>?_) fun cdv A outer s H vs Q E hr h=>?_
 ·obtain⟨a,n,rfl,_⟩:=h
  rfl
 obtain⟨a,n,rfl,⟨dx,ha⟩,q⟩:=h
 have nd:=Sc0.nd
 refine⟨_,(aG (aL (bW jT (aV Zc Zo (dv 0)) (bD (v:= .int 18) rfl ZfP ⟨_,rfl⟩) (aM _)))),?_⟩
 exact⟨dx,_,.int n,ha,rfl,q⟩
variable (Zcc:MB P w K mg base (CX0) 1 Zdv Zhi ["self"] (spCtN CA.count))
include Zc Zo in
theorem ZkH (F0:Fun K "number" "Count.number" Zhx Zdv Zhi):type_of% Zcc:=by
 refine mbM ["self"] F0 fun Sc0=>F0.ok Sc0 (fun vs H Q E h=>?_) fun cdv A outer s H vs Q E hr h=>?_
 ·obtain⟨a,n,rfl,_⟩:=h
  rfl
 obtain⟨a,n,rfl,⟨dx,ha⟩,q⟩:=h
 have nd:=Sc0.nd
 refine⟨_,(aG (aL (aV Zc Zo (dv 0)))),?_⟩
 exact⟨dx,_,.int n,ha,rfl,q⟩
variable (Z9:MB P w K mg base (CX0) 2 Zer ZiT ["self","step"] (spCtMove CA.count))
include ZhS Zc Zab Zo Zar in
theorem ZlB (F0:Fun K "move" "Count.move" Zje Zer ZiT):type_of% Z9:=by
 refine mbM ["self","step"] F0 fun Sc0=>F0.ok Sc0 (fun vs H Q E h=>?_) fun cdv A outer s H vs Q E hr h=>?_
 ·obtain⟨a,n,st,rfl,_⟩:=h
  rfl
 obtain⟨a,n,st,rfl,⟨dx,ha⟩,q⟩:=h
 have nd:=Sc0.nd
 refine⟨_,(aG (aY (cV (bJ (bI Zc Zab Zar.1 (hr.mono (by decide)) Zar.2 .nil aN (dv 0)))) (aG (bY Zc Zo (dv 0) (bO (vC rfl) rfl ZhS yQ (aA aC (aA (aU bZ (aV Zc Zo (dv 0)) (dv 1)) aF))))) aP)),?_⟩
 refine⟨⟨dx,_,ha,rfl⟩,a,n,rfl,⟨dx,ha⟩,?_⟩
 conv=>whnf
 refine bG (fun c=>?_) (fun c=>?_)
 ·have c1:¬ (18:Int)≤n:=fun z=>by
   have:(!decide ((18:Int)≤n)) = true:=c
   rw [decide_eq_true z] at this
   cases this
  refine⟨dx,_,.int n,ha,rfl,dx,_,ha,(show 1 < 1000 by decide),q _ ?_ fun b hb=>aK hb⟩
  refine⟨dx,?_⟩
  unfold mvd
  rw [if_neg c1]
  exact aB
 ·have c1:(18:Int)≤n:=Decidable.byContradiction fun z=>c (by
   show (!decide ((18:Int)≤n)) = true
   rw [decide_eq_false z];rfl)
  refine q _ ?_ fun b hb=>rfl
  unfold mvd
  rw [if_pos c1]
  exact⟨dx,ha⟩
variable (Zaw:MB P w K mg base (CX0) 3 ZdQ ZhV ["self","spoke"] (spCtFault CA.count))
include ZbT Zd7 Zc ZS Z9 in
theorem Zk0 (F0:Fun K "fault" "Count.fault" Zij ZdQ ZhV):type_of% Zaw:=by
 refine mbM ["self","spoke"] F0 fun Sc0=>F0.ok Sc0 (fun vs H Q E h=>?_) fun cdv A outer s H vs Q E hr h=>?_
 ·obtain⟨a,n,b,rfl,_⟩:=h
  rfl
 obtain⟨a,n,b,rfl,⟨dx,ha⟩,q⟩:=h
 have nd:=Sc0.nd
 refine⟨_,(aG (bF (cI Zc ZS Z9.1 (hr.mono (by decide)) Z9.2 .nil aN (dv 0) (aA (cB (cP (bJ (dv 1)) (bD (v:= .int 8) rfl ZbT ⟨_,rfl⟩) (bD (v:= .int 1) rfl Zd7 ⟨_,rfl⟩))) aF)))),?_⟩
 refine⟨⟨dx,_,ha,rfl⟩,fun x H'=>x = .int (if b = true then 8 else 1)∧H' = H,?_,?_⟩
 ·cases b with
  | true=>exact⟨rfl,rfl⟩
  | false=>exact⟨rfl,rfl⟩
 rintro x H' ⟨rfl,rfl⟩
 exact⟨a,n,_,rfl,⟨dx,ha⟩,q⟩
variable (Zcp:MB P w K mg base (CX0) 3 ZdP ZhU ["self"] (spCtStep CA.count 8))
include ZbT Zc ZS Z9 in
theorem ZkZ (F0:Fun K "blame" "Count.blame" Zii ZdP ZhU):type_of% Zcp:=by
 refine mbM ["self"] F0 fun Sc0=>F0.ok Sc0 (fun vs H Q E h=>?_) fun cdv A outer s H vs Q E hr h=>?_
 ·obtain⟨a,n,rfl,_⟩:=h
  rfl
 obtain⟨a,n,rfl,⟨dx,ha⟩,q⟩:=h
 have nd:=Sc0.nd
 refine⟨_,(aG (bF (cI Zc ZS Z9.1 (hr.mono (by decide)) Z9.2 .nil aN (dv 0) (aA (bD (v:= .int 8) rfl ZbT ⟨_,rfl⟩) aF)))),?_⟩
 exact⟨⟨dx,_,ha,rfl⟩,a,n,8,rfl,⟨dx,ha⟩,q⟩
variable (ZcI:MB P w K mg base (CX0) 3 Zep ZiR ["self"] (spCtStep CA.count (-1)))
include Zc ZS Z9 in
theorem Zlz (F0:Fun K "good" "Count.good" Zjc Zep ZiR):type_of% ZcI:=by
 refine mbM ["self"] F0 fun Sc0=>F0.ok Sc0 (fun vs H Q E h=>?_) fun cdv A outer s H vs Q E hr h=>?_
 ·obtain⟨a,n,rfl,_⟩:=h
  rfl
 obtain⟨a,n,rfl,⟨dx,ha⟩,q⟩:=h
 have nd:=Sc0.nd
 refine⟨_,(aG (bF (cI Zc ZS Z9.1 (hr.mono (by decide)) Z9.2 .nil aN (dv 0) (aA (jO jM aC) aF)))),?_⟩
 exact⟨⟨dx,_,ha,rfl⟩,a,n, -1,rfl,⟨dx,ha⟩,q⟩
variable (Z8:FB P w K mg base (CX0) 7 "begun_reader" ZeW Zhr [] (spBegun CA))
include ZH Zu ZhR Zf ZdF ZN Zcu Z2 in
theorem ZkQ (F0:GFm K mg "begun_reader" ZhG ZeW Zhr):type_of% Z8:=by
 refine fbM ["reader"] F0 fun Sc0=>F0.F.ok Sc0 (fun vs H Q E h=>?_) fun cdv A outer s H vs Q E hr h=>?_
 ·obtain⟨rfl,_⟩:=h
  rfl
 obtain⟨rfl,q⟩:=h
 have nd:=Sc0.nd
 refine⟨_,(aD (aZ (i:=0) nd rfl (Or.inl rfl) (iI ZdF Zcu.1 (hr.mono (by decide)) rfl ZhR Zcu.2 .nil aN)) (aD (bF (cI Zf ZN Z2.1 (hr.mono (by decide)) Z2.2 .nil aN (dv 0) (aA aC aF))) (aG (aL (dv 0))))),?_⟩
 refine fun r dr hr0 hdr hne=>⟨r,dr,rfl,aB,fun H2 st ks hR hst hks k2=>⟨rfl,?_⟩⟩
 have s12:Same H H2:=fun x o e=>k2 x o (aX e hr0) (by rw [aK (aX e hr0),aK (aX e hdr)];exact e)
 have nst:H st = none:=Same.none (fun x o e=>(by rw [aK (aX e hr0),aK (aX e hdr)];exact e):Same H _) hst
 have nks:H ks = none:=Same.none (fun x o e=>(by rw [aK (aX e hr0),aK (aX e hdr)];exact e):Same H _) hks
 obtain⟨dx,exr⟩:=hR.rd
 refine⟨⟨dx,_,exr,rfl⟩,r,st,ks, [],_,0,rfl,hR,(fun z hz=> .inl (List.mem_singleton.mp hz)),by decide,fun H3 hR3 b3=>?_⟩
 exact q r st ks H3 _ hR3 (fun x o e=>b3 x o (aX e hr0) (aX e nst) (aX e nks) (s12 x o e)) hr0 nst nks
variable (Zai:MB P w K mg base (CX0) 1 ZeY ZjD ["self","since"] (spIni1 CA.free "since"))
include Zt ZE in
theorem Zl3 (F0:Fun K "__init__" "Free.__init__" ZjZ ZeY ZjD):type_of% Zai:=by
 refine mbM ["self","since"] F0 fun Sc0=>F0.ok Sc0 (fun vs H Q E h=>?_) fun cdv A outer s H vs Q E hr h=>?_
 ·obtain⟨a,dx,v,rfl,_⟩:=h
  rfl
 obtain⟨a,dx,v,rfl,e,q⟩:=h
 have nd:=Sc0.nd
 refine⟨_,(aG (bY Zt ZE (dv 0) (dv 1))),?_⟩
 exact⟨dx, [],e,by decide,q _ rfl⟩
variable (Zaz:MB P w K mg base (CX0) 1 Zd1 Zh6 ["self","wire","reader","many"] (spIni3 CA.speaks "wire" "reader" "many"))
include Zg ZG ZO Zs in
theorem Zlb (F0:Fun K "__init__" "Speaks.__init__" Ziu Zd1 Zh6):type_of% Zaz:=by
 refine mbM ["self","wire","reader","many"] F0 fun Sc0=>F0.ok Sc0 (fun vs H Q E h=>?_) fun cdv A outer s H vs Q E hr h=>?_
 ·obtain⟨a,dx,v,w,z,rfl,_⟩:=h
  rfl
 obtain⟨a,dx,v,w,z,rfl,e,q⟩:=h
 have nd:=Sc0.nd
 refine⟨_,(aD (bY Zg ZG (dv 0) (dv 1)) (aD (bY Zg ZO (dv 0) (dv 2)) (aG (bY Zg Zs (dv 0) (dv 3))))),?_⟩
 refine⟨dx, [],e,by decide,dx,_,aB,(show 1 < 1000 by decide),dx,_,aB,(show 2 < 1000 by decide),?_⟩
 refine q _ ?_
 rw [bA,bA]
 rfl
variable (Zaa:MB P w K mg base (CX0) 1 Zeu ZiW ["self","reader","many"] (spIni2 CA.reads "reader" "many"))
include Zr ZX Z1 in
theorem ZlE (F0:Fun K "__init__" "Reads.__init__" Zjh Zeu ZiW):type_of% Zaa:=by
 refine mbM ["self","reader","many"] F0 fun Sc0=>F0.ok Sc0 (fun vs H Q E h=>?_) fun cdv A outer s H vs Q E hr h=>?_
 ·obtain⟨a,dx,v,w,rfl,_⟩:=h
  rfl
 obtain⟨a,dx,v,w,rfl,e,q⟩:=h
 have nd:=Sc0.nd
 refine⟨_,(aD (bY Zr ZX (dv 0) (dv 1)) (aG (bY Zr Z1 (dv 0) (dv 2)))),?_⟩
 refine⟨dx, [],e,by decide,dx,_,aB,(show 1 < 1000 by decide),?_⟩
 refine q _ ?_
 rw [bA]
 rfl
variable (Zax:MB P w K mg base (CX0) 1 ZdR ZhW ["self","tail","found"] (spIni2 CA.intail "tail" "found"))
include Zk Zp Zap in
theorem Zk1 (F0:Fun K "__init__" "InTail.__init__" Zik ZdR ZhW):type_of% Zax:=by
 refine mbM ["self","tail","found"] F0 fun Sc0=>F0.ok Sc0 (fun vs H Q E h=>?_) fun cdv A outer s H vs Q E hr h=>?_
 ·obtain⟨a,dx,v,w,rfl,_⟩:=h
  rfl
 obtain⟨a,dx,v,w,rfl,e,q⟩:=h
 have nd:=Sc0.nd
 refine⟨_,(aD (bY Zk Zp (dv 0) (dv 1)) (aG (bY Zk Zap (dv 0) (dv 2)))),?_⟩
 refine⟨dx, [],e,by decide,dx,_,aB,(show 1 < 1000 by decide),?_⟩
 refine q _ ?_
 rw [bA]
 rfl
variable (Zah:MB P w K mg base (CX0) 1 Zdd Zgu ["self","left","may_blame"] (spIni2 CA.flag "left" "may_blame"))
include Zm ZD ZL in
theorem Zkp (F0:Fun K "__init__" "Flagging.__init__" ZgC Zdd Zgu):type_of% Zah:=by
 refine mbM ["self","left","may_blame"] F0 fun Sc0=>F0.ok Sc0 (fun vs H Q E h=>?_) fun cdv A outer s H vs Q E hr h=>?_
 ·obtain⟨a,dx,v,w,rfl,_⟩:=h
  rfl
 obtain⟨a,dx,v,w,rfl,e,q⟩:=h
 have nd:=Sc0.nd
 refine⟨_,(aD (bY Zm ZD (dv 0) (dv 1)) (aG (bY Zm ZL (dv 0) (dv 2)))),?_⟩
 refine⟨dx, [],e,by decide,dx,_,aB,(show 1 < 1000 by decide),?_⟩
 refine q _ ?_
 rw [bA]
 rfl
variable (ZU:MB P w K mg base (CX0) 1 ZdA Zhn ["self","may_blame"] (spIni1 CA.settles "may_blame"))
include ZA ZY in
theorem ZkM (F0:Fun K "__init__" "Settles.__init__" ZhC ZdA Zhn):type_of% ZU:=by
 refine mbM ["self","may_blame"] F0 fun Sc0=>F0.ok Sc0 (fun vs H Q E h=>?_) fun cdv A outer s H vs Q E hr h=>?_
 ·obtain⟨a,dx,v,rfl,_⟩:=h
  rfl
 obtain⟨a,dx,v,rfl,e,q⟩:=h
 have nd:=Sc0.nd
 refine⟨_,(aG (bY ZA ZY (dv 0) (dv 1))),?_⟩
 exact⟨dx, [],e,by decide,q _ rfl⟩
variable (ZW:MB P w K mg base (CX0) 1 Zex ZiZ ["self","left"] (spIni1 CA.rests "left"))
include Zx ZT in
theorem ZlH (F0:Fun K "__init__" "Rests.__init__" Zjk Zex ZiZ):type_of% ZW:=by
 refine mbM ["self","left"] F0 fun Sc0=>F0.ok Sc0 (fun vs H Q E h=>?_) fun cdv A outer s H vs Q E hr h=>?_
 ·obtain⟨a,dx,v,rfl,_⟩:=h
  rfl
 obtain⟨a,dx,v,rfl,e,q⟩:=h
 have nd:=Sc0.nd
 refine⟨_,(aG (bY Zx ZT (dv 0) (dv 1))),?_⟩
 exact⟨dx, [],e,by decide,q _ rfl⟩
variable (Zaj:MB P w K mg base (CX0) 2 Zdg Zgx ["self"] (spBdB CA 12))
include Zc Za Za2 Zi Zbf in
theorem Zks (F0:Fun K "is_quiet" "Post.is_quiet" ZgF Zdg Zgx):type_of% Zaj:=by
 refine mbM ["self"] F0 fun Sc0=>F0.ok Sc0 (fun vs H Q E h=>?_) fun cdv A outer s H vs Q E hr h=>?_
 ·obtain⟨p,nwf,S,o,rfl,_⟩:=h
  rfl
 obtain⟨p,nwf,S,o,rfl,⟨dx,ch,wl,ul,ct,ws,us,b⟩,q⟩:=h
 have nd:=Sc0.nd
 refine⟨_,(aG (aL (bI Zc Za2 Zbf.1 (hr.mono (by decide)) Zbf.2 .nil aN (aV Za Zi (dv 0))))),?_⟩
 obtain⟨dc,ec⟩:=b.et
 exact⟨dx,_,.ref ct,b.e,rfl,⟨dc,_,ec,rfl⟩,ct,S.tot,rfl,⟨dc,ec⟩,q⟩
variable (Zay:MB P w K mg base (CX0) 2 ZdV Zh0 ["self"] (spBdB CA 18))
include Zc Za Zab Zi Zar in
theorem Zk5 (F0:Fun K "is_off" "Post.is_off" Zio ZdV Zh0):type_of% Zay:=by
 refine mbM ["self"] F0 fun Sc0=>F0.ok Sc0 (fun vs H Q E h=>?_) fun cdv A outer s H vs Q E hr h=>?_
 ·obtain⟨p,nwf,S,o,rfl,_⟩:=h
  rfl
 obtain⟨p,nwf,S,o,rfl,⟨dx,ch,wl,ul,ct,ws,us,b⟩,q⟩:=h
 have nd:=Sc0.nd
 refine⟨_,(aG (aL (bI Zc Zab Zar.1 (hr.mono (by decide)) Zar.2 .nil aN (aV Za Zi (dv 0))))),?_⟩
 obtain⟨dc,ec⟩:=b.et
 exact⟨dx,_,.ref ct,b.e,rfl,⟨dc,_,ec,rfl⟩,ct,S.tot,rfl,⟨dc,ec⟩,q⟩
variable (Zcs:MB P w K mg base (CX0) 2 ZdU ZhZ ["self"] (spBdN CA))
include Zc Za Zbm Zi Zcc in
theorem Zk4 (F0:Fun K "faults" "Post.faults" Zin ZdU ZhZ):type_of% Zcs:=by
 refine mbM ["self"] F0 fun Sc0=>F0.ok Sc0 (fun vs H Q E h=>?_) fun cdv A outer s H vs Q E hr h=>?_
 ·obtain⟨p,nwf,S,o,rfl,_⟩:=h
  rfl
 obtain⟨p,nwf,S,o,rfl,⟨dx,ch,wl,ul,ct,ws,us,b⟩,q⟩:=h
 have nd:=Sc0.nd
 refine⟨_,(aG (aL (bI Zc Zbm Zcc.1 (hr.mono (by decide)) Zcc.2 .nil aN (aV Za Zi (dv 0))))),?_⟩
 obtain⟨dc,ec⟩:=b.et
 exact⟨dx,_,.ref ct,b.e,rfl,⟨dc,_,ec,rfl⟩,ct,S.tot,rfl,⟨dc,ec⟩,q⟩
variable (Zbh:MB P w K mg base (CX0) 1 Zc0 Zgm ["self"] (spHas CA))
include ZZ Za Zl in
theorem ZjA (F0:Fun K "has_frame" "Post.has_frame" Zgr Zc0 Zgm):type_of% Zbh:=by
 refine mbM ["self"] F0 fun Sc0=>F0.ok Sc0 (fun vs H Q E h=>?_) fun cdv A outer s H vs Q E hr h=>?_
 ·obtain⟨p,nwf,S,o,rfl,_⟩:=h
  rfl
 obtain⟨p,nwf,S,o,rfl,⟨dx,ch,wl,ul,ct,ws,us,b⟩,q⟩:=h
 have nd:=Sc0.nd
 refine⟨_,(aG (aL (bW pC (bO fD rfl ZZ dR (aA (aV Za Zl (dv 0)) aF)) aC (aM _)))),?_⟩
 refine⟨dx,_,.ref wl,b.e,rfl,_,.inl (SqL.of b.ew),?_⟩
 rw [b.fw.len]
 exact q
variable (ZaD:MB P w K mg base (CX0) 7 ZbV ZeB ["self"] (spForemost CA))
include Zau ZH Zu Za Zl ZcU in
theorem Zhu (F0:Fun K "foremost_wire" "Post.foremost_wire" ZeI ZbV ZeB):type_of% ZaD:=by
 refine mbM ["self"] F0 fun Sc0=>F0.ok Sc0 (fun vs H Q E h=>?_) fun cdv A outer s H vs Q E hr h=>?_
 ·obtain⟨p,nwf,S,o,f,r,rfl,_⟩:=h
  rfl
 obtain⟨p,nwf,S,o,f,r,rfl,⟨dx,ch,wl,ul,ct,ws,us,b⟩,ewt,hf,q⟩:=h
 have nd:=Sc0.nd
 refine⟨_,(aG (aL (aO ZcU.1 (hr.mono (by decide)) rfl ZcU.2.2.2 ZcU.2.2.1 ZcU.2.1 .nil iB (aA (aW dF (aW bC (aV Za Zl (dv 0)) aC (fun _ _=>rfl)) aC (fun _ _=>rfl)) (aA (aW dF (aW bC (aV Za Zl (dv 0)) aC (fun _ _=>rfl)) aC (fun _ _=>rfl)) aF))))),?_⟩
 have fw:=b.fw
 rw [ewt] at fw
 generalize hws:ws = ws' at fw
 cases fw with
 | cons a rr=>
  rename_i t ts
  obtain⟨d,e1,e2,e3⟩:=a
  have ew:=b.ew
  rw [hws] at ew
  refine⟨dx,_,.ref wl,b.e,rfl,_,.ref t,SqL.of ew,at0,_,_,SqT.of e1,rfl,dx,_,.ref wl,b.e,rfl,_,.ref t,SqL.of ew,at0,_,_,SqT.of e1,rfl,?_⟩
  have h7:=hf.2.1
  refine⟨(f.1:Int),d,f.2,rfl,SqL.of e2,by omega,fun _ pw H' hpw g e=>q pw H' hpw g e,fun no=>absurd hf.ok no⟩
variable (ZaC:MB P w K mg base (CX0) 1 ZbU ZeA ["self"] (spDrop CA))
include Za Zl in
theorem Zht (F0:Fun K "drop_foremost" "Post.drop_foremost" ZeH ZbU ZeA):type_of% ZaC:=by
 refine mbM ["self"] F0 fun Sc0=>F0.ok Sc0 (fun vs H Q E h=>?_) fun cdv A outer s H vs Q E hr h=>?_
 ·obtain⟨p,nwf,S,o,rfl,_⟩:=h
  rfl
 obtain⟨p,nwf,S,o,rfl,⟨dx,ch,wl,ul,ct,ws,us,b⟩,hn,q⟩:=h
 have nd:=Sc0.nd
 refine⟨_,(aG (bF (pO (aV Za Zl (dv 0)) (aA aC aF)))),?_⟩
 have fw:=b.fw
 generalize hws:ws = ws' at fw
 generalize hwt:S.wt = wt at fw
 cases fw with
 | nil=>exact absurd hwt hn
 | cons a rr=>
  rename_i t f ts fs
  have ew:=b.ew
  rw [hws] at ew
  refine⟨dx,_,.ref wl,b.e,rfl,⟨_,ew⟩,_,0,.ref t,ew,⟨by decide,by decide⟩,sq0,rfl,?_⟩
  have kk:Keep o H (upd H wl (.lst ts)):=fun x v e z=>by
   rw [aK]
   ·exact e
   ·rintro rfl
    rcases z with z | ⟨vs,rfl⟩
    ·exact z b.ow
    ·rw [ew] at e;cases e
  have nl:∀{x:Addr} {v:HO},H x = some v→(∀l,v≠ .lst l)→upd H wl (.lst ts) x = some v:=fun {x v} e h=>by
   rw [aK]
   ·exact e
   ·rintro rfl
    rw [ew] at e
    exact h _ (Option.some.inj e).symm
  have fk:∀{ts':List V} {fs':List Fr},FrsAt H (Dl o wl ul) ts' fs'→FrsAt (upd H wl (.lst ts)) (Dl o wl ul) ts' fs':=fun {ts' fs'} h=>by
   induction h with
   | nil=>exact .nil
   | cons a _ ih=>
    obtain⟨d,e1,e2,e3⟩:=a
    exact .cons ⟨d,kk.tup e1,by rw [aK e3.2.1];exact e2,e3⟩ ih
  refine q _ ⟨dx,ch,wl,ul,ct,ts,us,nl b.e (fun l z=>nomatch z),kk.tup b.ec,aB,?_,by rw [aK (Ne.symm b.ne)];exact b.eu,fk b.fu,(let ⟨d,e⟩:=b.et;⟨d,nl e fun l z=>nomatch z⟩),b.op,b.ow,b.ou,b.ot,b.ne,fun x hx=>?_⟩ kk
  ·show FrsAt _ _ ts S.wt.tail
   rw [hwt]
   exact fk rr
  ·by_cases h:x = wl
   ·rw [h,aB];simp
   ·rw [aK h];exact b.al x hx
variable (Zca:FB P w K mg base (CX0) 1 "is_wanted" Zhe ZjW ["choice","name"] (spWanted K))
theorem Zmm (F0:GFm K mg "is_wanted" Zki Zhe ZjW):type_of% Zca:=by
 refine fbM ["choice","name"] F0 fun Sc0=>F0.F.ok Sc0 (fun vs H Q E h=>?_) fun cdv A outer s H vs Q E hr h=>?_
 ·obtain⟨c,m,t,n,rfl,_⟩:=h
  rfl
 obtain⟨c,m,t,n,rfl,e,q⟩:=h
 have nd:=Sc0.nd
 refine⟨_,(aG (aL (bW bQ (aU rO (dv 1) (aW dF (dv 0) aC (fun _ _=>rfl))) (aW dF (dv 0) aC (fun _ _=>rfl)) (aM _)))),?_⟩
 exact⟨_,_,SqT.of e,rfl,_,_,SqT.of e,rfl,q⟩
variable (Zce:MB P w K mg base (CX0) 2 Zdx Zhk ["self","frame"] (spHandUp CA))
include Za Zat ZI Zca in
theorem ZkJ (F0:Fun K "hand_up" "Post.hand_up" Zhz Zdx Zhk):type_of% Zce:=by
 refine mbM ["self","frame"] F0 fun Sc0=>F0.ok Sc0 (fun vs H Q E h=>?_) fun cdv A outer s H vs Q E hr h=>?_
 ·obtain⟨p,nwf,S,o,t,d,n,ds,rfl,_⟩:=h
  rfl
 obtain⟨p,nwf,S,o,t,d,n,ds,rfl,⟨dx,ch,wl,ul,ct,ws,us,b⟩,et,ed,nd_,hl,q⟩:=h
 have nd:=Sc0.nd
 refine⟨_,(aG (aY (bJ (aO Zca.1 (hr.mono (by decide)) rfl Zca.2.2.2 Zca.2.2.1 Zca.2.1 .nil aN (aA (aV Za Zat (dv 0)) (aA (aW dF (dv 1) aC (fun _ _=>rfl)) aF)))) (aG (bF (cD (aV Za ZI (dv 0)) (aA (dv 1) aF)))) aP)),?_⟩
 refine⟨dx,_,.ref ch,b.e,rfl,_,_,SqT.of et,rfl,ch,_,_,_,rfl,b.ec,?_⟩
 conv=>whnf
 refine bG (fun c=>?_) (fun c=>?_)
 ·have c1:wantP S n = true:=c
  have hul:=b.fu.len
  refine⟨dx,_,.ref ul,b.e,rfl,⟨_,SqL.of b.eu⟩,_,b.eu,cJ (by omega),?_⟩
  obtain⟨k1,k2,k3,k4,k5,k6⟩:=pU (ys:=us ++ [.ref t]) b (.inr rfl)
  refine q _ ⟨dx,ch,wl,ul,ct,ws,us ++ [.ref t],k2.trans b.e,k3.trans b.ec,by rw [aK b.ne];exact b.ew,(k5 b.fw).imp (fun x v e _=>e) (fun x z=>⟨.inl z.1,z.2⟩),aB,?_,(let ⟨d,e⟩:=b.et;⟨d,k4.trans e⟩),.inl b.op,.inl b.ow,.inl b.ou,.inl b.ot,b.ne,fun x hx=>?_⟩ k1
  ·show FrsAt _ _ _ (if wantP S n = true then S.up ++ [(n,ds)] else S.up)
   rw [if_pos c1]
   have nwl:d≠wl:=fun z=>nd_ (z▸b.ow)
   have nul:d≠ul:=fun z=>nd_ (z▸b.ou)
   exact((k5 b.fu).imp (fun x v e _=>e) (fun x z=>⟨.inl z.1,z.2⟩)).snoc ⟨d,k1.tup et,by rw [aK nul];exact ed,.inr rfl,nwl,nul⟩
  ·rcases hx with hx | hx
   ·exact k6 x hx
   ·have hx':x = d:=hx
    have nul:d≠ul:=fun z=>nd_ (z▸b.ou)
    rw [hx',aK nul,ed];simp
 ·have c1:¬ wantP S n = true:=c
  refine q _ ?_ Keep.refl
  rw [if_neg c1]
  exact Bd.grow ⟨dx,ch,wl,ul,ct,ws,us,b⟩ ed
variable (Zb4:MB P w K mg base (CXR P w) 3 Ze2 ZjH ["self","name","data"] (spHand K CA Zdn))
include Zu ZbD Za Zl Z3 in
theorem Zl7 (F0:Fun K "hand" "Post.hand" Zj3 Ze2 ZjH):type_of% Zb4:=by
 refine mbM ["self","name","data"] F0 fun Sc0=>F0.okR Sc0 (fun vs H Q E h=>?_) fun cdv A outer s H vs Q E hr h=>?_
 ·obtain⟨p,nwf,S,o,n,a,ds,rfl,_⟩:=h
  rfl
 obtain⟨p,nwf,S,o,n,a,ds,rfl,bd,hS,hl,hw,q1,q2⟩:=h
 have nd:=Sc0.nd
 refine⟨_,(aD (bF (aO Z3.1 (hr.mono (by decide)) rfl Z3.2.2.2 Z3.2.2.1 Z3.2.1 .nil (jP fun _ _ _ z=>z) (aA (dv 1) (aA (dv 2) aF)))) (aG (bF (cD (aV Za Zl (dv 0)) (aA (bL (aA (dv 1) (aA (cT fO rfl ZbD gW (aA (dv 2) aF)) aF))) aF))))),?_⟩
 refine⟨n,a,ds,rfl,hS,hl,fun ok H1 g1=>?_,fun no H1 g1=>q2 no H1 g1⟩
 obtain⟨dx,ch,wl,ul,ct,ws,us,b⟩:=bd.move (H':=H1) fun x v e _=>g1 x v e
 refine⟨dx,_,.ref wl,b.e,rfl,⟨_,SqL.of b.ew⟩,_,.inl (g1.seq hS),fun d hd=>?_⟩
 have g2:=aH hd (.lst (ds.map V.int))
 have e2:=aB (H:=H1) (a:=d) (o:= .lst (ds.map V.int))
 generalize upd H1 d (.lst (ds.map V.int)) = H2 at g2 e2
 refine⟨aJ rfl,fun t ht=>?_⟩
 have g3:=aH ht (.tup [.int n,.ref d])
 have e3:=aB (H:=H2) (a:=t) (o:= .tup [.int n,.ref d])
 generalize upd H2 t (.tup [.int n,.ref d]) = H3 at g3 e3
 have g13:=g2.trans g3
 have nd_:¬ o d:=fun z=>b.al d z hd
 have b3:=b.move (H':=H3) fun x v e _=>g13 x v e
 have hwl:=b.fw.len
 refine⟨_,b3.ew,cJ (by omega),?_⟩
 obtain⟨k1,k2,k3,k4,k5,k6⟩:=pU (ys:=ws ++ [.ref t]) b3 (.inl rfl)
 have nwl:d≠wl:=fun z=>nd_ (z▸b.ow)
 have nul:d≠ul:=fun z=>nd_ (z▸b.ou)
 have en:((n.toNat:Nat):Int) = n:=by
  have:=eV.mp ok.1
  omega
 refine q1 ok _ d (g1.none hd) ⟨dx,ch,wl,ul,ct,ws ++ [.ref t],us,k2.trans b3.e,k3.trans b3.ec,aB,?_,by rw [aK (Ne.symm b.ne)];exact b3.eu,(k5 b3.fu).imp (fun x v e _=>e) (fun x z=>⟨.inl z.1,z.2⟩),(let ⟨d,e⟩:=b3.et;⟨d,k4.trans e⟩),.inl b.op,.inl b.ow,.inl b.ou,.inl b.ot,b.ne,fun x hx=>?_⟩ (fun x v e z=>k1 x v (g13 x v (g1 x v e)) z)
 ·refine((k5 b3.fw).imp (fun x v e _=>e) (fun x z=>⟨.inl z.1,z.2⟩)).snoc ⟨d,?_,by rw [aK nwl];exact g3 _ _ e2,.inr rfl,nwl,nul⟩
  show _ = some (HO.tup [.int ((n.toNat:Nat):Int),.ref d])
  rw [en]
  exact k1.tup e3
 ·rcases hx with hx | hx
  ·exact k6 x hx
  ·have hx':x = d:=hx
   rw [hx',aK nwl,g3 _ _ e2];simp
variable (Za0:FB P w K mg base (CX0) 1 "copies" Zkn Zl1 ["frames"] (spCopies K))
include ZbD in
theorem ZmR (F0:GFm K mg "copies" Zmp Zkn Zl1):type_of% Za0:=by
 refine fbM ["frames"] F0 fun Sc0=>F0.F.ok Sc0 (fun vs H Q E h=>?_) fun cdv A outer s H vs Q E hr h=>?_
 ·obtain⟨a,ts,fs,o,rfl,_⟩:=h
  rfl
 obtain⟨a,ts,fs,o,rfl,e,hF,hl,q⟩:=h
 have nd:=Sc0.nd
 refine⟨_,(aG (aL (gM rfl (ix:=[]) (dM (dv 0)) (fun C fp s0 H0 at0=>fU) (fun C fp s0 H0 at0=>(bL (aA (aW (vD (K:=K)) (dv 0) aC (fun _ _=>rfl)) (aA (cT (tL (K:=K)) rfl ZbD gW (aA (aW (vD (K:=K)) (dv 0) aC (fun _ _=>rfl)) aF)) aF)))) rfl rfl (by rfl) (show ([".0","frame"]:List Str).Nodup by decide +kernel)))),?_⟩
 have tl:=hF.len
 refine⟨⟨_,SqL.of e⟩,jL (xs:=ts) (fun i ys H'=>Same H H'∧FrsNew H H' ys (fs.take i)) ?_ ⟨Same.refl _,.nil⟩ (fun i ys H' _ z=>SqL.of (z.1 _ _ e)) ?_ ?_⟩
 ·rintro i ys H' hi ⟨_,n⟩
  refine cJ ?_
  rw [n.len,List.length_take]
  omega
 ·rintro i x ys H' hx ⟨g,n⟩
  obtain⟨t,f,rfl,hf,d,e1,e2,e3⟩:=hF.get hx
  refine⟨_,_,SqT.of (g _ _ e1),rfl,_,_,SqT.of (g _ _ e1),rfl,_,.inl (SqL.of (g _ _ e2)),fun d' hd'=>?_⟩
  have g2:=aH hd' (.lst (f.2.map V.int))
  have e5:=aB (H:=H') (a:=d') (o:= .lst (f.2.map V.int))
  generalize upd H' d' (.lst (f.2.map V.int)) = H2 at g2 e5
  refine⟨aJ rfl,fun t' ht'=>?_⟩
  have g3:=aH ht' (.tup [.int ((f.1:Nat):Int),.ref d'])
  refine⟨g.trans (g2.trans g3),?_⟩
  have hi:i < fs.length:=(List.getElem?_eq_some_iff.mp hf).1
  have ef:fs[i] = f:=(List.getElem?_eq_some_iff.mp hf).2
  rw [List.take_succ_eq_append_getElem hi,ef]
  exact FrsNew.snoc ((g.trans g2).none ht') (g.none hd') aB (g3 _ _ e5) (n.same (g2.trans g3))
 rintro ys H' ⟨g,n⟩ l hl'
 have g2:=aH hl' (.lst ys)
 rw [tl,List.take_of_length_le (Nat.le_refl _)] at n
 exact q l ys _ (g.none hl') (g.trans g2) aB (n.same g2)
variable (ZcL:MB P w K mg base (CX0) 2 Zet ZiV ["self"] (spWaits CA))
include Za Zl Za0 in
theorem ZlD (F0:Fun K "waits" "Post.waits" Zjg Zet ZiV):type_of% ZcL:=by
 refine mbM ["self"] F0 fun Sc0=>F0.ok Sc0 (fun vs H Q E h=>?_) fun cdv A outer s H vs Q E hr h=>?_
 ·obtain⟨p,nwf,S,o,rfl,_⟩:=h
  rfl
 obtain⟨p,nwf,S,o,rfl,⟨dx,ch,wl,ul,ct,ws,us,b⟩,hl,q⟩:=h
 have nd:=Sc0.nd
 refine⟨_,(aG (aL (aO Za0.1 (hr.mono (by decide)) rfl Za0.2.2.2 Za0.2.2.1 Za0.2.1 .nil aN (aA (aV Za Zl (dv 0)) aF)))),?_⟩
 exact⟨dx,_,.ref wl,b.e,rfl,wl,ws,S.wt,_,rfl,b.ew,b.fw,hl,q⟩
variable (Zdt:MB P w K mg base (CX0) 2 ZfO ZkA ["self"] (spGot CA))
include Za ZI Za0 in
theorem Zmy (F0:Fun K "got" "Post.got" ZkU ZfO ZkA):type_of% Zdt:=by
 refine mbM ["self"] F0 fun Sc0=>F0.ok Sc0 (fun vs H Q E h=>?_) fun cdv A outer s H vs Q E hr h=>?_
 ·obtain⟨p,nwf,S,o,rfl,_⟩:=h
  rfl
 obtain⟨p,nwf,S,o,rfl,⟨dx,ch,wl,ul,ct,ws,us,b⟩,hl,q⟩:=h
 have nd:=Sc0.nd
 refine⟨_,(aG (aL (aO Za0.1 (hr.mono (by decide)) rfl Za0.2.2.2 Za0.2.2.1 Za0.2.1 .nil aN (aA (aV Za ZI (dv 0)) aF)))),?_⟩
 exact⟨dx,_,.ref ul,b.e,rfl,ul,us,S.up,_,rfl,b.eu,b.fu,hl,q⟩
variable (ZC:FB P w K mg base (CX0) 3 "unless_off" Zgj Zja ["post","word","stance"] (spUnless CA))
include ZlX Za Zag ZeE Zay in
theorem ZlS (F0:GFm K mg "unless_off" Zjv Zgj Zja):type_of% ZC:=by
 refine fbM ["post","word","stance"] F0 fun Sc0=>F0.F.ok Sc0 (fun vs H Q E h=>?_) fun cdv A outer s H vs Q E hr h=>?_
 ·obtain⟨p,nwf,S,o,w,nx,rfl,_⟩:=h
  rfl
 obtain⟨p,nwf,S,o,w,nx,rfl,bd,q1,q2⟩:=h
 have nd:=Sc0.nd
 refine⟨_,(aG (aL (cB (cP (bJ (bI Za Zag Zay.1 (hr.mono (by decide)) Zay.2 .nil aN (dv 0))) (bL (aA aQ (aA (wI ZeE rfl ZlX) aF))) (bL (aA (dv 1) (aA (dv 2) aF))))))),?_⟩
 refine⟨fun x H'=>Q x H',?_,fun x H' z=>z⟩
 obtain⟨dx,ch,wl,ul,ct,ws,us,b⟩:=id bd
 refine⟨⟨dx,_,b.e,rfl⟩,p,nwf,S,o,rfl,bd,?_⟩
 conv=>whnf
 refine bG (fun c=>?_) (fun c=>?_)
 ·have c1:18≤S.tot:=dec_true c
  refine fun x dx' hx hdx hne=>⟨aJ rfl,fun t ht=>?_⟩
  have g1:Same H (upd (upd H dx' (.own x)) x (.ins CA.off dx' [])):=fun b u q=>by rw [aK (aX q hx),aK (aX q hdx)];exact q
  have g2:=aH ht (.tup [.str "off",.ref x])
  exact q2 c1 t x dx' _ (g1.trans g2) hx (g2 _ _ aB) aB
 ·have c1:¬ 18≤S.tot:=dec_false c
  refine⟨aJ rfl,fun t ht=>?_⟩
  exact q1 c1 t _ (aH ht _) aB
variable (Zn:FB P w K mg base (CX0) 4 "fault_of" ZhQ ZkD ["post","spoke"] (spFault CA))
include Zc4 Ze8 Zc Za ZaS Zaf Zi Zaw Zah ZC in
theorem ZmB (F0:GFm K mg "fault_of" ZkX ZhQ ZkD):type_of% Zn:=by
 refine fbM ["post","spoke"] F0 fun Sc0=>F0.F.ok Sc0 (fun vs H Q E h=>?_) fun cdv A outer s H vs Q E hr h=>?_
 ·obtain⟨p,nwf,S,o,sp,rfl,_⟩:=h
  rfl
 obtain⟨p,nwf,S,o,sp,rfl,bd,q⟩:=h
 have nd:=Sc0.nd
 refine⟨_,(aD (bF (cI Zc Zaf Zaw.1 (hr.mono (by decide)) Zaw.2 .nil aN (aV Za Zi (dv 0)) (aA (dv 1) aF))) (aG (aL (aO ZC.1 (hr.mono (by decide)) rfl ZC.2.2.2 ZC.2.2.1 ZC.2.1 .nil aN (aA (dv 0) (aA aQ (aA (cA ZaS Zah.1 (hr.mono (by decide)) rfl Zc4 Zah.2 .nil aN (aA (bD (v:= .int 6) rfl Ze8 ⟨_,rfl⟩) (aA (wZ (dv 1)) aF))) aF))))))),?_⟩
 obtain⟨dx,ch,wl,ul,ct,ws,us,b⟩:=id bd
 obtain⟨dc,ec⟩:=id b.et
 refine⟨dx,_,.ref ct,b.e,rfl,⟨dc,_,ec,rfl⟩,ct,S.tot,sp,rfl,b.et,fun H1 c1 k1=>?_⟩
 obtain⟨b1,kk1⟩:=Bd.count b c1 k1
 generalize ht:mvd S.tot (if sp = true then 8 else 1) = n at b1 c1
 refine fun x dx' hx hdx hne=>⟨x,dx',_,_,rfl,aB,fun H2 eH=>⟨rfl,?_⟩⟩
 have g12:Same H1 H2:=by rw [eH];exact bH hx hdx
 have e2:H2 x = some (.ins CA.flag dx' [("left",.int ((6:Nat):Int)),("may_blame",.bl (!sp))]):=by rw [eH];exact aB
 clear eH
 refine⟨p,nwf,{ S with tot:=n },o,"fault",x,rfl,b1.move fun y v e _=>g12 y v e,fun c t H3 g3 e3=>?_,fun c t nw dy H3 g3 hn e4 e3=>?_⟩
 ·have c1:¬ 18≤n:=c
  refine q t H3 ⟨x,fun y=>y = x,?_,?_,?_,?_,?_⟩
  ·unfold faultP goneP;rw [ht,if_neg c1];exact e3
  ·unfold faultP goneP;rw [ht,if_neg c1];exact(b1.move fun y v e _=>g3 y v (g12 y v e)).now rfl rfl rfl rfl rfl rfl
  ·unfold faultP goneP;rw [ht,if_neg c1];exact dX (g3 _ _ e2) ⟨dx',g3 _ _ e2⟩
  ·intro y hy
   have hy':y = x:=hy
   rw [hy']
   exact jE b1 kk1 hx
  ·exact fun y v e z=>g3 y v (g12 y v (kk1 y v e z))
 ·have c1:18≤n:=c
  refine q t H3 ⟨nw,fun y=>y = nw,?_,?_,?_,?_,?_⟩
  ·unfold faultP goneP;rw [ht,if_pos c1];exact e3
  ·unfold faultP goneP;rw [ht,if_pos c1];exact(b1.move fun y v e _=>g3 y v (g12 y v e)).now rfl rfl rfl rfl rfl rfl
  ·unfold faultP goneP;rw [ht,if_pos c1];exact dX e4 ⟨dy,e4⟩
  ·intro y hy
   have hy':y = nw:=hy
   rw [hy']
   exact jE b1 kk1 (g12.none hn)
  ·exact fun y v e z=>g3 y v (g12 y v (kk1 y v e z))
variable (Zby:FB P w K mg base (CX0) 4 "refusal_of" Zgi Zi9 ["post","spoke"] (spRefusal CA))
include Zcb Zc Za Zan Zaf Zi Zaw ZU ZC in
theorem ZlR (F0:GFm K mg "refusal_of" Zju Zgi Zi9):type_of% Zby:=by
 refine fbM ["post","spoke"] F0 fun Sc0=>F0.F.ok Sc0 (fun vs H Q E h=>?_) fun cdv A outer s H vs Q E hr h=>?_
 ·obtain⟨p,nwf,S,o,sp,rfl,_⟩:=h
  rfl
 obtain⟨p,nwf,S,o,sp,rfl,bd,q⟩:=h
 have nd:=Sc0.nd
 refine⟨_,(aD (bF (cI Zc Zaf Zaw.1 (hr.mono (by decide)) Zaw.2 .nil aN (aV Za Zi (dv 0)) (aA (dv 1) aF))) (aG (aL (aO ZC.1 (hr.mono (by decide)) rfl ZC.2.2.2 ZC.2.2.1 ZC.2.1 .nil aN (aA (dv 0) (aA aQ (aA (cA Zan ZU.1 (hr.mono (by decide)) rfl Zcb ZU.2 .nil aN (aA cL aF)) aF))))))),?_⟩
 obtain⟨dx,ch,wl,ul,ct,ws,us,b⟩:=id bd
 obtain⟨dc,ec⟩:=id b.et
 refine⟨dx,_,.ref ct,b.e,rfl,⟨dc,_,ec,rfl⟩,ct,S.tot,sp,rfl,b.et,fun H1 c1 k1=>?_⟩
 obtain⟨b1,kk1⟩:=Bd.count b c1 k1
 generalize ht:mvd S.tot (if sp = true then 8 else 1) = n at b1 c1
 refine fun x dx' hx hdx hne=>⟨x,dx',_,rfl,aB,fun H2 eH=>⟨rfl,?_⟩⟩
 have g12:Same H1 H2:=by rw [eH];exact bH hx hdx
 have e2:H2 x = some (.ins CA.settles dx' [("may_blame",.bl false)]):=by rw [eH];exact aB
 clear eH
 refine⟨p,nwf,{ S with tot:=n },o,"refuses",x,rfl,b1.move fun y v e _=>g12 y v e,fun c t H3 g3 e3=>?_,fun c t nw dy H3 g3 hn e4 e3=>?_⟩
 ·have c1:¬ 18≤n:=c
  refine q t H3 ⟨x,fun y=>y = x,?_,?_,?_,?_,?_⟩
  ·unfold refuseP goneP;rw [ht,if_neg c1];exact e3
  ·unfold refuseP goneP;rw [ht,if_neg c1];exact(b1.move fun y v e _=>g3 y v (g12 y v e)).now rfl rfl rfl rfl rfl rfl
  ·unfold refuseP goneP;rw [ht,if_neg c1];exact dX (g3 _ _ e2) ⟨dx',g3 _ _ e2⟩
  ·intro y hy
   have hy':y = x:=hy
   rw [hy']
   exact jE b1 kk1 hx
  ·exact fun y v e z=>g3 y v (g12 y v (kk1 y v e z))
 ·have c1:18≤n:=c
  refine q t H3 ⟨nw,fun y=>y = nw,?_,?_,?_,?_,?_⟩
  ·unfold refuseP goneP;rw [ht,if_pos c1];exact e3
  ·unfold refuseP goneP;rw [ht,if_pos c1];exact(b1.move fun y v e _=>g3 y v (g12 y v e)).now rfl rfl rfl rfl rfl rfl
  ·unfold refuseP goneP;rw [ht,if_pos c1];exact dX e4 ⟨dy,e4⟩
  ·intro y hy
   have hy':y = nw:=hy
   rw [hy']
   exact jE b1 kk1 (g12.none hn)
  ·exact fun y v e z=>g3 y v (g12 y v (kk1 y v e z))
variable (Zcz:FB P w K mg base (CX0) 4 "blame_of" ZhO ZkB ["post"] (spBlame CA))
include Zcb Zc Za Zan ZbK Zi Zcp ZU ZC in
theorem Zmz (F0:GFm K mg "blame_of" ZkV ZhO ZkB):type_of% Zcz:=by
 refine fbM ["post"] F0 fun Sc0=>F0.F.ok Sc0 (fun vs H Q E h=>?_) fun cdv A outer s H vs Q E hr h=>?_
 ·obtain⟨p,nwf,S,o,rfl,_⟩:=h
  rfl
 obtain⟨p,nwf,S,o,rfl,bd,q⟩:=h
 have nd:=Sc0.nd
 refine⟨_,(aD (bF (bI Zc ZbK Zcp.1 (hr.mono (by decide)) Zcp.2 .nil aN (aV Za Zi (dv 0)))) (aG (aL (aO ZC.1 (hr.mono (by decide)) rfl ZC.2.2.2 ZC.2.2.1 ZC.2.1 .nil aN (aA (dv 0) (aA aQ (aA (cA Zan ZU.1 (hr.mono (by decide)) rfl Zcb ZU.2 .nil aN (aA cL aF)) aF))))))),?_⟩
 obtain⟨dx,ch,wl,ul,ct,ws,us,b⟩:=id bd
 obtain⟨dc,ec⟩:=id b.et
 refine⟨dx,_,.ref ct,b.e,rfl,⟨dc,_,ec,rfl⟩,ct,S.tot,rfl,b.et,fun H1 c1 k1=>?_⟩
 obtain⟨b1,kk1⟩:=Bd.count b c1 k1
 generalize ht:mvd S.tot 8 = n at b1 c1
 refine fun x dx' hx hdx hne=>⟨x,dx',_,rfl,aB,fun H2 eH=>⟨rfl,?_⟩⟩
 have g12:Same H1 H2:=by rw [eH];exact bH hx hdx
 have e2:H2 x = some (.ins CA.settles dx' [("may_blame",.bl false)]):=by rw [eH];exact aB
 clear eH
 refine⟨p,nwf,{ S with tot:=n },o,"",x,rfl,b1.move fun y v e _=>g12 y v e,fun c t H3 g3 e3=>?_,fun c t nw dy H3 g3 hn e4 e3=>?_⟩
 ·have c1:¬ 18≤n:=c
  refine q t H3 ⟨x,fun y=>y = x,?_,?_,?_,?_,?_⟩
  ·unfold blameP goneP;rw [ht,if_neg c1];exact e3
  ·unfold blameP goneP;rw [ht,if_neg c1];exact(b1.move fun y v e _=>g3 y v (g12 y v e)).now rfl rfl rfl rfl rfl rfl
  ·unfold blameP goneP;rw [ht,if_neg c1];exact dX (g3 _ _ e2) ⟨dx',g3 _ _ e2⟩
  ·intro y hy
   have hy':y = x:=hy
   rw [hy']
   exact jE b1 kk1 hx
  ·exact fun y v e z=>g3 y v (g12 y v (kk1 y v e z))
 ·have c1:18≤n:=c
  refine q t H3 ⟨nw,fun y=>y = nw,?_,?_,?_,?_,?_⟩
  ·unfold blameP goneP;rw [ht,if_pos c1];exact e3
  ·unfold blameP goneP;rw [ht,if_pos c1];exact(b1.move fun y v e _=>g3 y v (g12 y v e)).now rfl rfl rfl rfl rfl rfl
  ·unfold blameP goneP;rw [ht,if_pos c1];exact dX e4 ⟨dy,e4⟩
  ·intro y hy
   have hy':y = nw:=hy
   rw [hy']
   exact jE b1 kk1 (g12.none hn)
  ·exact fun y v e z=>g3 y v (g12 y v (kk1 y v e z))
variable (Za8:FB P w K mg base (CXR P w) 1 "check_votes" ZfI Zig ["votes"] (spVotes Zgb))
include Zeg Zcl ZdG Za1 in
theorem Zll (F0:GFm K mg "check_votes" ZiE ZfI Zig):type_of% Za8:=by
 refine fbM ["votes"] F0 fun Sc0=>F0.F.okR Sc0 (fun vs H Q E h=>?_) fun cdv A outer s H vs Q E hr h=>?_
 ·obtain⟨v,rfl,_⟩:=h
  rfl
 obtain⟨v,rfl,q1,q2⟩:=h
 have nd:=Sc0.nd
 refine⟨_,(aG (aY (aR vA (dv 0) (bD (v:= .ref ZkY) rfl Zeg rfl) rfl) (aG (cW F.excBase_ValueError Zcl Za1 (aA aQ aF))) aP)),?_⟩
 refine⟨[1,3,5],.inr (ZdG.sq H),?_⟩
 conv=>whnf
 refine bG (fun c=>?_) (fun c=>?_)
 ·refine⟨aJ rfl,q2 fun z=>?_⟩
  have c1:(!decide (v∈ [(1:Int),3,5])) = true:=c
  rw [(mY v).mpr z] at c1
  cases c1
 ·refine q1 ((mY v).mp ?_)
  cases e:decide (v∈ [(1:Int),3,5]) with
  | true=>rfl
  | false=>exact absurd (show (!decide (v∈ [(1:Int),3,5])) = true by rw [e];rfl) c
variable (ZaU:FB P w K mg base (CXR P w) 2 "check_choice" ZeX Zhs ["choice"] (spChoice K Zgb))
include Zcl Za1 Zal in
theorem ZkR (F0:GFm K mg "check_choice" ZhH ZeX Zhs):type_of% ZaU:=by
 refine fbM ["choice"] F0 fun Sc0=>F0.F.okR Sc0 (fun vs H Q E h=>?_) fun cdv A outer s H vs Q E hr h=>?_
 ·obtain⟨a,ns,rfl,_⟩:=h
  rfl
 obtain⟨a,ns,rfl,hS,hl,q1,q2⟩:=h
 have nd:=Sc0.nd
 refine⟨_,(aG (aY (cV (bJ (aO Zal.1 (hr.mono (by decide)) rfl Zal.2.2.2 Zal.2.2.1 Zal.2.1 .nil aN (aA (dv 0) aF)))) (aG (cW F.excBase_ValueError Zcl Za1 (aA aQ aF))) aP)),?_⟩
 refine⟨a,ns,rfl,.inr hS,hl,fun H1 g1=>?_⟩
 conv=>whnf
 refine bG (fun c=>?_) (fun c=>?_)
 ·have c1:¬ ns.all byt = true:=fun z=>by
   have:(!ns.all byt) = true:=c
   rw [z] at this;cases this
  exact⟨aJ rfl,q2 c1 _ g1⟩
 ·have c1:ns.all byt = true:=by
   cases e:ns.all byt with
   | true=>rfl
   | false=>exact absurd (show (!ns.all byt) = true by rw [e];rfl) c
  exact q1 c1 _ g1
variable (Zc9:MB P w K mg base (CXR P w) 4 Ze4 ZjJ ["self","choice","votes"] (spPostInit K CA Zgb))
include Zeg Zcl Zjw ZdO Za Zd5 ZaL Zi Zl Zat ZI Z0 ZK ZcJ Zai Za8 ZaU in
theorem Zl9 (F0:Fun K "__init__" "Post.__init__" Zj5 Ze4 ZjJ):type_of% Zc9:=by
 refine mbM ["self","choice","votes"] F0 fun Sc0=>F0.okR Sc0 (fun vs H Q E h=>?_) fun cdv A outer s H vs Q E hr h=>?_
 ·obtain⟨a,dx,ch,m1,m2,v,rfl,_⟩:=h
  rfl
 obtain⟨a,dx,ch,m1,m2,v,rfl,e,ec,q1,q2⟩:=h
 have nd:=Sc0.nd
 refine⟨_,(aD (bF (aO ZaU.1 (hr.mono (by decide)) rfl ZaU.2.2.2 ZaU.2.2.1 ZaU.2.1 .nil (jP fun _ _ _ z=>z) (aA (dv 1) aF))) (aD (bF (aO Za8.1 (hr.mono (by decide)) rfl Za8.2.2.2 Za8.2.2.1 Za8.2.1 .nil (jP fun _ _ _ z=>z) (aA (dv 2) aF))) (aD (bY Za Zat (dv 0) (dv 1)) (aD (bY Za Z0 (dv 0) (dv 2)) (aD (bY Za Zl (dv 0) (bN aF)) (aD (bY Za ZI (dv 0) (bN aF)) (aD (bY Za Zi (dv 0) (iI Zd5 ZcJ.1 (hr.mono (by decide)) rfl Zjw ZcJ.2 .nil aN)) (aG (bY Za ZK (dv 0) (cA ZaL Zai.1 (hr.mono (by decide)) rfl ZdO Zai.2 .nil aN (aA aC aF))))))))))),?_⟩
 refine⟨ch, [m1,m2],rfl,SqT.of ec,(show 2≤500 by decide),fun hm H1 g1=>?_,fun no H1 g1=>?_⟩
 rotate_left
 ·refine q2 (fun ok=>no ?_) H1 fun x u _ h=>g1 x u h
  rw [List.all_cons,List.all_cons,List.all_nil,ok.1,ok.2.1];rfl
 rw [List.all_cons,List.all_cons,List.all_nil,Bool.and_true,Bool.and_eq_true] at hm
 refine⟨v,rfl,fun hv=>?_,fun no=>q2 (fun ok=>no ok.2.2) H1 fun x u _ h=>g1 x u h⟩
 have ea:=g1 _ _ e
 refine⟨dx, [],ea,by decide,?_⟩
 refine⟨dx,_,aB,(show 1 < 1000 by decide),?_⟩
 rw [bA]
 have m1_:Mid H a (.ins CA.post dx [("choice",.ref ch),("votes",.int v)]) [] (upd H1 a (.ins CA.post dx (putF "votes" (.int v) (putF "choice" (.ref ch) [])))):=⟨aB,fun x u hx h=>by rw [aK hx];exact g1 x u h,(fun _ z=>nomatch z),List.nodup_nil⟩
 generalize upd H1 a _ = Ha at m1_
 refine⟨aJ rfl,fun wl hwl=>?_⟩
 have m2_:=m1_.add hwl (aH hwl (.lst [])) aB
 generalize upd Ha wl (.lst []) = Hb at m2_
 refine⟨dx,_,m2_.ea,(show 2 < 1000 by decide),?_⟩
 have m3_:Mid H a (.ins CA.post dx [("choice",.ref ch),("votes",.int v),("waiting",.ref wl)]) _ (upd Hb a (.ins CA.post dx (putF "waiting" (.ref wl) [("choice",.ref ch),("votes",.int v)]))):=m2_.set _
 generalize upd Hb a _ = Hb2 at m3_
 refine⟨aJ rfl,fun ul hul=>?_⟩
 have m4_:=m3_.add hul (aH hul (.lst [])) aB
 generalize upd Hb2 ul (.lst []) = Hc at m4_
 refine⟨dx,_,m4_.ea,(show 3 < 1000 by decide),?_⟩
 have m5_:Mid H a (.ins CA.post dx [("choice",.ref ch),("votes",.int v),("waiting",.ref wl),("handed_up",.ref ul)]) _ (upd Hc a (.ins CA.post dx (putF "handed_up" (.ref ul) [("choice",.ref ch),("votes",.int v),("waiting",.ref wl)]))):=m4_.set _
 generalize upd Hc a _ = Hc2 at m5_
 refine fun ct dc hct hdc hne=>⟨ct,dc,rfl,aB,rfl,?_⟩
 have m6_:=m5_.add hct (bH (C:=CA.count) (fs:=ctF 0) hct hdc) aB
 generalize upd (upd (upd Hc2 dc (.own ct)) ct (.ins CA.count dc [])) ct (.ins CA.count dc (ctF 0)) = Hd at m6_
 refine⟨dx,_,m6_.ea,(show 4 < 1000 by decide),?_⟩
 have m7_:Mid H a (.ins CA.post dx [("choice",.ref ch),("votes",.int v),("waiting",.ref wl),("handed_up",.ref ul),("tally",.ref ct)]) _ (upd Hd a (.ins CA.post dx (putF "tally" (.ref ct) [("choice",.ref ch),("votes",.int v),("waiting",.ref wl),("handed_up",.ref ul)]))):=m6_.set _
 generalize upd Hd a _ = Hd2 at m7_
 refine fun nw dn hnw hdn hne2=>⟨nw,dn,_,rfl,aB,fun H2 eH=>⟨rfl,?_⟩⟩
 have m8_:=m7_.add (Hy:=H2) hnw (by rw [eH];exact bH hnw hdn) (by rw [eH];exact aB)
 clear eH
 refine⟨dx,_,m8_.ea,(show 5 < 1000 by decide),?_⟩
 have m9_:=m8_.set (.ins CA.post dx (pF ch v.toNat wl ul ct nw))
 have ev:v = ((v.toNat:Nat):Int):=by omega
 have eF:(HO.ins CA.post dx (putF "now" (.ref nw) [("choice",.ref ch),("votes",.int v),("waiting",.ref wl),("handed_up",.ref ul),("tally",.ref ct)])) = .ins CA.post dx (pF ch v.toNat wl ul ct nw):=by
  show HO.ins CA.post dx [("choice",.ref ch),("votes",.int v),("waiting",.ref wl),("handed_up",.ref ul),("tally",.ref ct),("now",.ref nw)] = _
  rw [ev,Int.toNat_natCast]
 rw [eF]
 generalize upd H2 a _ = Hz at m9_
 have hnw':=m9_.nw (nw,_) (.head _)
 have hct':=m9_.nw (ct,_) (.tail _ (.head _))
 have hul':=m9_.nw (ul,_) (.tail _ (.tail _ (.head _)))
 have hwl':=m9_.nw (wl,_) (.tail _ (.tail _ (.tail _ (.head _))))
 have nd9:=m9_.nd
 have nwu:wl≠ul:=fun z=>by
  rw [z] at nd9
  exact absurd nd9 (by simp)
 have nch:ch≠a:=fun z=>by rw [z,e] at ec;cases ec
 have hb1:=eV.mp hm.1
 have hb2:=eV.mp hm.2
 have ec1:((m1.toNat:Nat):Int) = m1:=by omega
 have ec2:((m2.toNat:Nat):Int) = m2:=by omega
 refine q1 ⟨hm.1,hm.2,hv⟩ Hz (fun x=>(x = a∨x = wl∨x = ul∨x = ct)∨x = nw) ⟨nw,fun x=>x = a∨x = wl∨x = ul∨x = ct,fun x=>x = nw,⟨dx,ch,wl,ul,ct, [], [],m9_.ea,?_,hwl'.2.2,.nil,hul'.2.2,.nil,⟨dc,hct'.2.2⟩,.inl rfl,.inr (.inl rfl),.inr (.inr (.inl rfl)),.inr (.inr (.inr rfl)),nwu,?_⟩,dX hnw'.2.2 ⟨dn,hnw'.2.2⟩,?_,⟨?_,(fun _ z=>nomatch z),trivial⟩,fun x hx=>hx,?_⟩ ?_ ?_
 ·show Hz ch = some (.tup [.int ((m1.toNat:Nat):Int),.int ((m2.toNat:Nat):Int)])
  rw [ec1,ec2]
  exact m9_.kp ch _ nch ec
 ·rintro x (rfl | rfl | rfl | rfl)
  ·rw [m9_.ea];simp
  ·rw [hwl'.2.2];simp
  ·rw [hul'.2.2];simp
  ·rw [hct'.2.2];simp
 ·rintro x hx hy
  have hy':x = nw:=hy
  rcases hx with rfl | rfl | rfl | rfl
  ·exact hnw'.2.1 hy'.symm
  ·rw [hy'] at nd9;exact absurd nd9 (by simp)
  ·rw [hy'] at nd9;exact absurd nd9 (by simp)
  ·rw [hy'] at nd9;exact absurd nd9 (by simp)
 ·show v.toNat≤5
  omega
 ·rintro x ((rfl | rfl | rfl | rfl) | rfl)
  ·rw [m9_.ea];simp
  ·rw [hwl'.2.2];simp
  ·rw [hul'.2.2];simp
  ·rw [hct'.2.2];simp
  ·rw [hnw'.2.2];simp
 ·rintro x ((rfl | rfl | rfl | rfl) | rfl)
  ·exact .inl rfl
  ·exact .inr hwl'.1
  ·exact .inr hul'.1
  ·exact .inr hct'.1
  ·exact .inr hnw'.1
 ·exact m9_.kp
variable (ZcK:MB P w K mg base (CX0) 1 Zes ZiU ["self"] (spShown CA 0))
include Zt ZE in
theorem ZlC (F0:Fun K "shown" "Free.shown" Zjf Zes ZiU):type_of% ZcK:=by
 refine mbM ["self"] F0 fun Sc0=>F0.ok Sc0 (fun vs H Q E h=>?_) fun cdv A outer s H vs Q E hr h=>?_
 ·obtain⟨nw,S,o,rfl,_⟩:=h
  rfl
 obtain⟨nw,S,o,rfl,tg,st,q⟩:=h
 have nd:=Sc0.nd
 refine⟨_,(aG (aL (bL (aA aQ (aA (aV Zt ZE (dv 0)) aF))))),?_⟩
 obtain⟨sa,on,al⟩:=id st
 cases en:S.now with
 | free k=>
  rw [en] at sa
  obtain⟨dx,e⟩:=sa
  refine⟨dx,_,_,e,rfl,aJ rfl,fun t ht=>q t _ ht (aH ht _) ?_⟩
  rw [aB,en]
  rfl
 | speaks n ds k=>rw [en] at tg;cases tg
 | reads h=>rw [en] at tg;cases tg
 | tlS v c=>rw [en] at tg;cases tg
 | tlR n ds v c=>rw [en] at tg;cases tg
 | flag l m=>rw [en] at tg;cases tg
 | settles m=>rw [en] at tg;cases tg
 | rests l=>rw [en] at tg;cases tg
 | off  =>rw [en] at tg;cases tg
variable (Zcj:MB P w K mg base (CX0) 1 ZdD Zhq ["self"] (spShown CA 1))
include Zg Zs in
theorem ZkP (F0:Fun K "shown" "Speaks.shown" ZhF ZdD Zhq):type_of% Zcj:=by
 refine mbM ["self"] F0 fun Sc0=>F0.ok Sc0 (fun vs H Q E h=>?_) fun cdv A outer s H vs Q E hr h=>?_
 ·obtain⟨nw,S,o,rfl,_⟩:=h
  rfl
 obtain⟨nw,S,o,rfl,tg,st,q⟩:=h
 have nd:=Sc0.nd
 refine⟨_,(aG (aL (bL (aA aQ (aA (aV Zg Zs (dv 0)) aF))))),?_⟩
 obtain⟨sa,on,al⟩:=id st
 cases en:S.now with
 | free k=>rw [en] at tg;cases tg
 | speaks n ds k=>
  rw [en] at sa
  obtain⟨dx,wa,r,st,ks,t0,e,_⟩:=sa
  refine⟨dx,_,_,e,rfl,aJ rfl,fun t ht=>q t _ ht (aH ht _) ?_⟩
  rw [aB,en]
  rfl
 | reads h=>rw [en] at tg;cases tg
 | tlS v c=>rw [en] at tg;cases tg
 | tlR n ds v c=>rw [en] at tg;cases tg
 | flag l m=>rw [en] at tg;cases tg
 | settles m=>rw [en] at tg;cases tg
 | rests l=>rw [en] at tg;cases tg
 | off  =>rw [en] at tg;cases tg
variable (Zcv:MB P w K mg base (CX0) 1 ZdZ Zh4 ["self"] (spShown CA 2))
include Zr Z1 in
theorem Zk9 (F0:Fun K "shown" "Reads.shown" Zis ZdZ Zh4):type_of% Zcv:=by
 refine mbM ["self"] F0 fun Sc0=>F0.ok Sc0 (fun vs H Q E h=>?_) fun cdv A outer s H vs Q E hr h=>?_
 ·obtain⟨nw,S,o,rfl,_⟩:=h
  rfl
 obtain⟨nw,S,o,rfl,tg,st,q⟩:=h
 have nd:=Sc0.nd
 refine⟨_,(aG (aL (bL (aA aQ (aA (aV Zr Z1 (dv 0)) aF))))),?_⟩
 obtain⟨sa,on,al⟩:=id st
 cases en:S.now with
 | free k=>rw [en] at tg;cases tg
 | speaks n ds k=>rw [en] at tg;cases tg
 | reads h=>
  rw [en] at sa
  obtain⟨dx,r,st,ks,t0,e,_⟩:=sa
  refine⟨dx,_,_,e,rfl,aJ rfl,fun t ht=>q t _ ht (aH ht _) ?_⟩
  rw [aB,en]
  rfl
 | tlS v c=>rw [en] at tg;cases tg
 | tlR n ds v c=>rw [en] at tg;cases tg
 | flag l m=>rw [en] at tg;cases tg
 | settles m=>rw [en] at tg;cases tg
 | rests l=>rw [en] at tg;cases tg
 | off  =>rw [en] at tg;cases tg
variable (Zcd:MB P w K mg base (CX0) 2 Zdw Zhj ["self"] (spShown CA 3))
include Ze Zd Zk ZaM ZaJ Zp ZcQ in
theorem ZkI (F0:Fun K "shown" "InTail.shown" Zhy Zdw Zhj):type_of% Zcd:=by
 refine mbM ["self"] F0 fun Sc0=>F0.ok Sc0 (fun vs H Q E h=>?_) fun cdv A outer s H vs Q E hr h=>?_
 ·obtain⟨nw,S,o,rfl,_⟩:=h
  rfl
 obtain⟨nw,S,o,rfl,tg,st,q⟩:=h
 have nd:=Sc0.nd
 refine⟨_,(aG (aL (bL (aA (cB (cP (bJ (cR (aV Zk Zp (dv 0)))) aQ aQ)) (aA (mZ ZcQ.1 (hr.mono (by decide)) ZcQ.2 .nil aN (aV Zk Zp (dv 0))) aF))))),?_⟩
 obtain⟨sa,on,al⟩:=id st
 cases en:S.now with
 | free k=>rw [en] at tg;cases tg
 | speaks n ds k=>rw [en] at tg;cases tg
 | reads h=>rw [en] at tg;cases tg
 | tlS v c=>
  rw [en] at sa
  obtain⟨dx,tl,e,ht,_⟩:=sa
  obtain⟨C,d,hC,e1⟩:=id ht
  have hc:=fG Ze Zd hC
  have hm:=jN ZaM ZaJ hC
  refine⟨fun x H'=>x = .str "tail speaks"∧H' = H,?_,?_⟩
  ·exact⟨dx,_,.ref tl,e,rfl,C,d,_,_,e1,hc.cls,hc.n2,rfl,rfl,rfl⟩
  rintro x H' ⟨rfl,rfl⟩
  refine⟨dx,_,.ref tl,e,rfl,⟨C,d,_,e1,hc.cls,hm,rfl⟩,tl,S.vt,true,v,c,rfl,ht,aJ rfl,fun t h=>q t _ h (aH h _) ?_⟩
  rw [aB,en]
  rfl
 | tlR n ds v c=>
  rw [en] at sa
  obtain⟨dx,tl,t0,d0,e,ht,_⟩:=sa
  obtain⟨C,d,hC,e1⟩:=id ht
  have hc:=fG Ze Zd hC
  have hm:=jN ZaM ZaJ hC
  refine⟨fun x H'=>x = .str "tail reads"∧H' = H,?_,?_⟩
  ·exact⟨dx,_,.ref tl,e,rfl,C,d,_,_,e1,hc.cls,hc.n2,rfl,rfl,rfl⟩
  rintro x H' ⟨rfl,rfl⟩
  refine⟨dx,_,.ref tl,e,rfl,⟨C,d,_,e1,hc.cls,hm,rfl⟩,tl,S.vt,false,v,c,rfl,ht,aJ rfl,fun t h=>q t _ h (aH h _) ?_⟩
  rw [aB,en]
  rfl
 | flag l m=>rw [en] at tg;cases tg
 | settles m=>rw [en] at tg;cases tg
 | rests l=>rw [en] at tg;cases tg
 | off  =>rw [en] at tg;cases tg
variable (Zbg:MB P w K mg base (CX0) 1 ZcZ Zgl ["self"] (spShown CA 4))
include Zm ZD in
theorem Zjz (F0:Fun K "shown" "Flagging.shown" Zgq ZcZ Zgl):type_of% Zbg:=by
 refine mbM ["self"] F0 fun Sc0=>F0.ok Sc0 (fun vs H Q E h=>?_) fun cdv A outer s H vs Q E hr h=>?_
 ·obtain⟨nw,S,o,rfl,_⟩:=h
  rfl
 obtain⟨nw,S,o,rfl,tg,st,q⟩:=h
 have nd:=Sc0.nd
 refine⟨_,(aG (aL (bL (aA aQ (aA (aV Zm ZD (dv 0)) aF))))),?_⟩
 obtain⟨sa,on,al⟩:=id st
 cases en:S.now with
 | free k=>rw [en] at tg;cases tg
 | speaks n ds k=>rw [en] at tg;cases tg
 | reads h=>rw [en] at tg;cases tg
 | tlS v c=>rw [en] at tg;cases tg
 | tlR n ds v c=>rw [en] at tg;cases tg
 | flag l m=>
  rw [en] at sa
  obtain⟨dx,e⟩:=sa
  refine⟨dx,_,_,e,rfl,aJ rfl,fun t ht=>q t _ ht (aH ht _) ?_⟩
  rw [aB,en]
  rfl
 | settles m=>rw [en] at tg;cases tg
 | rests l=>rw [en] at tg;cases tg
 | off  =>rw [en] at tg;cases tg
variable (ZbI:MB P w K mg base (CX0) 1 Zdj ZgA ["self"] (spShown CA 5))
theorem Zkv (F0:Fun K "shown" "Settles.shown" ZgI Zdj ZgA):type_of% ZbI:=by
 refine mbM ["self"] F0 fun Sc0=>F0.ok Sc0 (fun vs H Q E h=>?_) fun cdv A outer s H vs Q E hr h=>?_
 ·obtain⟨nw,S,o,rfl,_⟩:=h
  rfl
 obtain⟨nw,S,o,rfl,tg,st,q⟩:=h
 have nd:=Sc0.nd
 refine⟨_,(aG (aL (bL (aA aQ (aA aC aF))))),?_⟩
 obtain⟨sa,on,al⟩:=id st
 cases en:S.now with
 | free k=>rw [en] at tg;cases tg
 | speaks n ds k=>rw [en] at tg;cases tg
 | reads h=>rw [en] at tg;cases tg
 | tlS v c=>rw [en] at tg;cases tg
 | tlR n ds v c=>rw [en] at tg;cases tg
 | flag l m=>rw [en] at tg;cases tg
 | settles m=>
  rw [en] at sa
  refine⟨aJ rfl,fun t ht=>q t _ ht (aH ht _) ?_⟩
  rw [aB,en]
  rfl
 | rests l=>rw [en] at tg;cases tg
 | off  =>rw [en] at tg;cases tg
variable (Zcw:MB P w K mg base (CX0) 1 Zd0 Zh5 ["self"] (spShown CA 6))
include Zx ZT in
theorem Zla (F0:Fun K "shown" "Rests.shown" Zit Zd0 Zh5):type_of% Zcw:=by
 refine mbM ["self"] F0 fun Sc0=>F0.ok Sc0 (fun vs H Q E h=>?_) fun cdv A outer s H vs Q E hr h=>?_
 ·obtain⟨nw,S,o,rfl,_⟩:=h
  rfl
 obtain⟨nw,S,o,rfl,tg,st,q⟩:=h
 have nd:=Sc0.nd
 refine⟨_,(aG (aL (bL (aA aQ (aA (aV Zx ZT (dv 0)) aF))))),?_⟩
 obtain⟨sa,on,al⟩:=id st
 cases en:S.now with
 | free k=>rw [en] at tg;cases tg
 | speaks n ds k=>rw [en] at tg;cases tg
 | reads h=>rw [en] at tg;cases tg
 | tlS v c=>rw [en] at tg;cases tg
 | tlR n ds v c=>rw [en] at tg;cases tg
 | flag l m=>rw [en] at tg;cases tg
 | settles m=>rw [en] at tg;cases tg
 | rests l=>
  rw [en] at sa
  obtain⟨dx,e⟩:=sa
  refine⟨dx,_,_,e,rfl,aJ rfl,fun t ht=>q t _ ht (aH ht _) ?_⟩
  rw [aB,en]
  rfl
 | off  =>rw [en] at tg;cases tg
variable (Zc7:MB P w K mg base (CX0) 1 Ze1 ZjG ["self"] (spShown CA 7))
theorem Zl6 (F0:Fun K "shown" "Off.shown" Zj2 Ze1 ZjG):type_of% Zc7:=by
 refine mbM ["self"] F0 fun Sc0=>F0.ok Sc0 (fun vs H Q E h=>?_) fun cdv A outer s H vs Q E hr h=>?_
 ·obtain⟨nw,S,o,rfl,_⟩:=h
  rfl
 obtain⟨nw,S,o,rfl,tg,st,q⟩:=h
 have nd:=Sc0.nd
 refine⟨_,(aG (aL (bL (aA aQ (aA aC aF))))),?_⟩
 obtain⟨sa,on,al⟩:=id st
 cases en:S.now with
 | free k=>rw [en] at tg;cases tg
 | speaks n ds k=>rw [en] at tg;cases tg
 | reads h=>rw [en] at tg;cases tg
 | tlS v c=>rw [en] at tg;cases tg
 | tlR n ds v c=>rw [en] at tg;cases tg
 | flag l m=>rw [en] at tg;cases tg
 | settles m=>rw [en] at tg;cases tg
 | rests l=>rw [en] at tg;cases tg
 | off  =>
  rw [en] at sa
  refine⟨aJ rfl,fun t ht=>q t _ ht (aH ht _) ?_⟩
  rw [aB,en]
  rfl
variable (ZaY:MB P w K mg base (CX0) 3 ZeZ ZjE ["self","post"] (spStSays CA 0))
include Zd6 Zt Za Za4 Z7 ZE Zaj Zbh in
theorem Zl4 (F0:Fun K "says" "Free.says" Zj0 ZeZ ZjE):type_of% ZaY:=by
 refine mbM ["self","post"] F0 fun Sc0=>F0.ok Sc0 (fun vs H Q E h=>?_) fun cdv A outer s H vs Q E hr h=>?_
 ·obtain⟨nw,p,nwf,S,ob,os,rfl,_⟩:=h
  rfl
 obtain⟨nw,p,nwf,S,ob,os,rfl,tg,bd,st,wf,q⟩:=h
 have nd:=Sc0.nd
 refine⟨_,(aD (aY (cV (bJ (bI Za Za4 Zbh.1 (hr.mono (by decide)) Zbh.2 .nil aN (dv 1)))) (aG (aL aC)) aP) (aG (aL (cB (cP (PW.pt (cH (bJ (bI Za Z7 Zaj.1 (hr.mono (by decide)) Zaj.2 .nil aN (dv 1))) (cN (aR lY (aV Zt ZE (dv 0)) (bD (v:= .int 8) rfl Zd6 ⟨_,rfl⟩) (aM _))))) aC aC))))),?_⟩
 obtain⟨sa,on,al⟩:=id st
 cases en:S.now with
 | free k =>
  rw [en] at sa
  obtain⟨dx,e⟩:=sa
  obtain⟨dp,ch,wl,ul,ct,ws,us,b⟩:=id bd
  have hs:=iG en
  refine⟨⟨dp,_,b.e,rfl⟩,p,nwf,S,ob,rfl,bd,?_⟩
  conv=>whnf
  refine bG (fun c=>?_) (fun c=>?_)
  ·have c1:S.wt = []:=by
    have:(!decide (0 < (S.wt.length:Int))) = true:=c
    cases ew:S.wt with
    | nil=>rfl
    | cons f r=>
     rw [ew,decide_eq_true (by rw [List.length_cons];omega)] at this
     cases this
   rw [if_pos c1] at hs
   rw [hs] at q
   exact q
  have c1:¬ S.wt = []:=fun z=>c (by
   show (!decide (0 < (S.wt.length:Int))) = true
   rw [z];rfl)
  rw [if_neg c1] at hs
  refine⟨fun x H'=>x = .int (saysP S)∧H' = H,?_,fun x H' z=>by rw [z.1,z.2];exact q⟩
  refine⟨⟨dp,_,b.e,rfl⟩,p,nwf,S,ob,rfl,bd,?_⟩
  conv=>whnf
  refine bG (fun y=>?_) (fun y=>?_)
  ·have y1:12≤S.tot:=dec_true y
   refine⟨dx,_,_,e,rfl,?_⟩
   conv=>whnf
   refine bG (fun z=>?_) (fun z=>?_)
   ·have z1:((k:Nat):Int) < 8:=dec_true z
    rw [hs,if_pos ⟨y1,by omega⟩]
    exact⟨rfl,rfl⟩
   ·have z1:¬ ((k:Nat):Int) < 8:=dec_false z
    rw [hs,if_neg fun w=>z1 (by omega)]
    exact⟨rfl,rfl⟩
  ·have y1:¬ 12≤S.tot:=dec_false y
   refine uH ⟨?_,rfl⟩
   rw [hs,if_neg fun w=>y1 w.1]
 | speaks n ds k=>rw [en] at tg;cases tg
 | reads h=>rw [en] at tg;cases tg
 | tlS v c=>rw [en] at tg;cases tg
 | tlR n ds v c=>rw [en] at tg;cases tg
 | flag l m=>rw [en] at tg;cases tg
 | settles m=>rw [en] at tg;cases tg
 | rests l=>rw [en] at tg;cases tg
 | off  =>rw [en] at tg;cases tg
variable (Zcx:MB P w K mg base (CX0) 1 Zd2 Zh7 ["self","post"] (spStSays CA 1))
include Zg ZG Zs in
theorem Zlc (F0:Fun K "says" "Speaks.says" Ziv Zd2 Zh7):type_of% Zcx:=by
 refine mbM ["self","post"] F0 fun Sc0=>F0.ok Sc0 (fun vs H Q E h=>?_) fun cdv A outer s H vs Q E hr h=>?_
 ·obtain⟨nw,p,nwf,S,ob,os,rfl,_⟩:=h
  rfl
 obtain⟨nw,p,nwf,S,ob,os,rfl,tg,bd,st,wf,q⟩:=h
 have nd:=Sc0.nd
 refine⟨_,(aG (aL (aW bC (aV Zg ZG (dv 0)) (aV Zg Zs (dv 0)) (fun _ _=>rfl)))),?_⟩
 obtain⟨sa,on,al⟩:=id st
 cases en:S.now with
 | free k=>rw [en] at tg;cases tg
 | speaks n ds k=>
  rw [en] at sa
  obtain⟨dx,wa,r,st,ks,t0,e,ew,_⟩:=sa
  have hn:=wf.now
  rw [en] at hn
  obtain⟨_,_,hk,_⟩:=hn
  refine⟨dx,_,_,e,rfl,dx,_,_,e,rfl,_,_,SqL.of ew,iY hk,?_⟩
  have:saysP S = (wr n ds)[k]:=by
   unfold saysP
   rw [en]
   show (wr n ds).getD k 0 = _
   rw [List.getD_eq_getElem?_getD,List.getElem?_eq_getElem hk]
   rfl
  rw [this] at q
  exact q
 | reads h=>rw [en] at tg;cases tg
 | tlS v c=>rw [en] at tg;cases tg
 | tlR n ds v c=>rw [en] at tg;cases tg
 | flag l m=>rw [en] at tg;cases tg
 | settles m=>rw [en] at tg;cases tg
 | rests l=>rw [en] at tg;cases tg
 | off  =>rw [en] at tg;cases tg
variable (ZcM:MB P w K mg base (CX0) 1 Zev ZiX ["self","post"] (spStSays CA 2))
theorem ZlF (F0:Fun K "says" "Reads.says" Zji Zev ZiX):type_of% ZcM:=by
 refine mbM ["self","post"] F0 fun Sc0=>F0.ok Sc0 (fun vs H Q E h=>?_) fun cdv A outer s H vs Q E hr h=>?_
 ·obtain⟨nw,p,nwf,S,ob,os,rfl,_⟩:=h
  rfl
 obtain⟨nw,p,nwf,S,ob,os,rfl,tg,bd,st,wf,q⟩:=h
 have nd:=Sc0.nd
 refine⟨_,(aG (aL aC)),?_⟩
 obtain⟨sa,on,al⟩:=id st
 cases en:S.now with
 | free k=>rw [en] at tg;cases tg
 | speaks n ds k=>rw [en] at tg;cases tg
 | reads h=>
  rw [en] at sa
  have:saysP S = 1:=by unfold saysP;rw [en]
  rw [this] at q
  exact q
 | tlS v c=>rw [en] at tg;cases tg
 | tlR n ds v c=>rw [en] at tg;cases tg
 | flag l m=>rw [en] at tg;cases tg
 | settles m=>rw [en] at tg;cases tg
 | rests l=>rw [en] at tg;cases tg
 | off  =>rw [en] at tg;cases tg
variable (Zcq:MB P w K mg base (CX0) 2 ZdS ZhX ["self","post"] (spStSays CA 3))
include Ze Zd Zk ZaW ZaO Zp Zdb in
theorem Zk2 (F0:Fun K "says" "InTail.says" Zil ZdS ZhX):type_of% Zcq:=by
 refine mbM ["self","post"] F0 fun Sc0=>F0.ok Sc0 (fun vs H Q E h=>?_) fun cdv A outer s H vs Q E hr h=>?_
 ·obtain⟨nw,p,nwf,S,ob,os,rfl,_⟩:=h
  rfl
 obtain⟨nw,p,nwf,S,ob,os,rfl,tg,bd,st,wf,q⟩:=h
 have nd:=Sc0.nd
 refine⟨_,(aG (aL (mZ Zdb.1 (hr.mono (by decide)) Zdb.2 .nil aN (aV Zk Zp (dv 0))))),?_⟩
 obtain⟨sa,on,al⟩:=id st
 cases en:S.now with
 | free k=>rw [en] at tg;cases tg
 | speaks n ds k=>rw [en] at tg;cases tg
 | reads h=>rw [en] at tg;cases tg
 | tlS v c=>
  rw [en] at sa
  obtain⟨dx,tl,e,ht,_⟩:=sa
  obtain⟨C,d,hC,e1⟩:=id ht
  have hc:=fG Ze Zd hC
  have hm:=jN ZaW ZaO hC
  refine⟨dx,_,.ref tl,e,rfl,⟨C,d,_,e1,hc.cls,hm,rfl⟩,tl,S.vt,true,v,c,rfl,ht,?_⟩
  have:saysP S = tlSays true v:=by unfold saysP;rw [en]
  rw [this] at q
  exact q
 | tlR n ds v c=>
  rw [en] at sa
  obtain⟨dx,tl,t0,d0,e,ht,_⟩:=sa
  obtain⟨C,d,hC,e1⟩:=id ht
  have hc:=fG Ze Zd hC
  have hm:=jN ZaW ZaO hC
  refine⟨dx,_,.ref tl,e,rfl,⟨C,d,_,e1,hc.cls,hm,rfl⟩,tl,S.vt,false,v,c,rfl,ht,?_⟩
  have:saysP S = tlSays false v:=by unfold saysP;rw [en]
  rw [this] at q
  exact q
 | flag l m=>rw [en] at tg;cases tg
 | settles m=>rw [en] at tg;cases tg
 | rests l=>rw [en] at tg;cases tg
 | off  =>rw [en] at tg;cases tg
variable (ZbE:MB P w K mg base (CX0) 1 Zde Zgv ["self","post"] (spStSays CA 4))
theorem Zkq (F0:Fun K "says" "Flagging.says" ZgD Zde Zgv):type_of% ZbE:=by
 refine mbM ["self","post"] F0 fun Sc0=>F0.ok Sc0 (fun vs H Q E h=>?_) fun cdv A outer s H vs Q E hr h=>?_
 ·obtain⟨nw,p,nwf,S,ob,os,rfl,_⟩:=h
  rfl
 obtain⟨nw,p,nwf,S,ob,os,rfl,tg,bd,st,wf,q⟩:=h
 have nd:=Sc0.nd
 refine⟨_,(aG (aL aC)),?_⟩
 obtain⟨sa,on,al⟩:=id st
 cases en:S.now with
 | free k=>rw [en] at tg;cases tg
 | speaks n ds k=>rw [en] at tg;cases tg
 | reads h=>rw [en] at tg;cases tg
 | tlS v c=>rw [en] at tg;cases tg
 | tlR n ds v c=>rw [en] at tg;cases tg
 | flag l m=>
  rw [en] at sa
  have:saysP S = 0:=by unfold saysP;rw [en]
  rw [this] at q
  exact q
 | settles m=>rw [en] at tg;cases tg
 | rests l=>rw [en] at tg;cases tg
 | off  =>rw [en] at tg;cases tg
variable (Zch:MB P w K mg base (CX0) 1 ZdB Zho ["self","post"] (spStSays CA 5))
theorem ZkN (F0:Fun K "says" "Settles.says" ZhD ZdB Zho):type_of% Zch:=by
 refine mbM ["self","post"] F0 fun Sc0=>F0.ok Sc0 (fun vs H Q E h=>?_) fun cdv A outer s H vs Q E hr h=>?_
 ·obtain⟨nw,p,nwf,S,ob,os,rfl,_⟩:=h
  rfl
 obtain⟨nw,p,nwf,S,ob,os,rfl,tg,bd,st,wf,q⟩:=h
 have nd:=Sc0.nd
 refine⟨_,(aG (aL aC)),?_⟩
 obtain⟨sa,on,al⟩:=id st
 cases en:S.now with
 | free k=>rw [en] at tg;cases tg
 | speaks n ds k=>rw [en] at tg;cases tg
 | reads h=>rw [en] at tg;cases tg
 | tlS v c=>rw [en] at tg;cases tg
 | tlR n ds v c=>rw [en] at tg;cases tg
 | flag l m=>rw [en] at tg;cases tg
 | settles m=>
  rw [en] at sa
  have:saysP S = 1:=by unfold saysP;rw [en]
  rw [this] at q
  exact q
 | rests l=>rw [en] at tg;cases tg
 | off  =>rw [en] at tg;cases tg
variable (ZcO:MB P w K mg base (CX0) 1 Zey Zi0 ["self","post"] (spStSays CA 6))
theorem ZlI (F0:Fun K "says" "Rests.says" Zjl Zey Zi0):type_of% ZcO:=by
 refine mbM ["self","post"] F0 fun Sc0=>F0.ok Sc0 (fun vs H Q E h=>?_) fun cdv A outer s H vs Q E hr h=>?_
 ·obtain⟨nw,p,nwf,S,ob,os,rfl,_⟩:=h
  rfl
 obtain⟨nw,p,nwf,S,ob,os,rfl,tg,bd,st,wf,q⟩:=h
 have nd:=Sc0.nd
 refine⟨_,(aG (aL aC)),?_⟩
 obtain⟨sa,on,al⟩:=id st
 cases en:S.now with
 | free k=>rw [en] at tg;cases tg
 | speaks n ds k=>rw [en] at tg;cases tg
 | reads h=>rw [en] at tg;cases tg
 | tlS v c=>rw [en] at tg;cases tg
 | tlR n ds v c=>rw [en] at tg;cases tg
 | flag l m=>rw [en] at tg;cases tg
 | settles m=>rw [en] at tg;cases tg
 | rests l=>
  rw [en] at sa
  have:saysP S = 1:=by unfold saysP;rw [en]
  rw [this] at q
  exact q
 | off  =>rw [en] at tg;cases tg
variable (Zdr:MB P w K mg base (CX0) 1 ZfM Zky ["self","post"] (spStSays CA 7))
theorem Zmw (F0:Fun K "says" "Off.says" ZkS ZfM Zky):type_of% Zdr:=by
 refine mbM ["self","post"] F0 fun Sc0=>F0.ok Sc0 (fun vs H Q E h=>?_) fun cdv A outer s H vs Q E hr h=>?_
 ·obtain⟨nw,p,nwf,S,ob,os,rfl,_⟩:=h
  rfl
 obtain⟨nw,p,nwf,S,ob,os,rfl,tg,bd,st,wf,q⟩:=h
 have nd:=Sc0.nd
 refine⟨_,(aG (aL aC)),?_⟩
 obtain⟨sa,on,al⟩:=id st
 cases en:S.now with
 | free k=>rw [en] at tg;cases tg
 | speaks n ds k=>rw [en] at tg;cases tg
 | reads h=>rw [en] at tg;cases tg
 | tlS v c=>rw [en] at tg;cases tg
 | tlR n ds v c=>rw [en] at tg;cases tg
 | flag l m=>rw [en] at tg;cases tg
 | settles m=>rw [en] at tg;cases tg
 | rests l=>rw [en] at tg;cases tg
 | off  =>
  rw [en] at sa
  have:saysP S = 1:=by unfold saysP;rw [en]
  rw [this] at q
  exact q
variable (Zds:MB P w K mg base (CX0) 1 ZfN Zkz ["self","bit","post"] (spStStep CA 7))
theorem Zmx (F0:Fun K "step" "Off.step" ZkT ZfN Zkz):type_of% Zds:=by
 refine mbM ["self","bit","post"] F0 fun Sc0=>F0.ok Sc0 (fun vs H Q E h=>?_) fun cdv A outer s H vs Q E hr h=>?_
 ·obtain⟨nw,p,nwf,S,ob,os,bt,rfl,_⟩:=h
  rfl
 obtain⟨nw,p,nwf,S,ob,os,bt,rfl,tg,bd,st,dj,wf,hb,hu,q⟩:=h
 have nd:=Sc0.nd
 refine⟨_,(aG (aL (bL (aA aQ (aA (dv 0) aF))))),?_⟩
 obtain⟨sa,on,al⟩:=id st
 cases en:S.now with
 | free k=>rw [en] at tg;cases tg
 | speaks n ds k=>rw [en] at tg;cases tg
 | reads h=>rw [en] at tg;cases tg
 | tlS v c=>rw [en] at tg;cases tg
 | tlR n ds v c=>rw [en] at tg;cases tg
 | flag l m=>rw [en] at tg;cases tg
 | settles m=>rw [en] at tg;cases tg
 | rests l=>rw [en] at tg;cases tg
 | off  =>
  rw [en] at sa
  rw [iU en] at q
  refine⟨aJ rfl,fun t ht=>?_⟩
  have g1:=aH ht (.tup [.str "",.ref nw])
  exact q t _ (Stp.go bd dj Keep.refl g1 aB ⟨rfl,rfl,rfl,rfl,rfl,rfl⟩ (st.move fun x v e _=>g1 x v e) fun x hx=> .inl hx)
variable (ZbF:MB P w K mg base (CX0) 3 Zdf Zgw ["self","bit","post"] (spStStep CA 4))
include Zc4 Zcb Zm ZaS Zan ZD ZL Zah ZU in
theorem Zkr (F0:Fun K "step" "Flagging.step" ZgE Zdf Zgw):type_of% ZbF:=by
 refine mbM ["self","bit","post"] F0 fun Sc0=>F0.ok Sc0 (fun vs H Q E h=>?_) fun cdv A outer s H vs Q E hr h=>?_
 ·obtain⟨nw,p,nwf,S,ob,os,bt,rfl,_⟩:=h
  rfl
 obtain⟨nw,p,nwf,S,ob,os,bt,rfl,tg,bd,st,dj,wf,hb,hu,q⟩:=h
 have nd:=Sc0.nd
 refine⟨_,(aD (aY (aR bQ (aV Zm ZD (dv 0)) aC (aM _)) (aG (aL (bL (aA aQ (aA (cA Zan ZU.1 (hr.mono (by decide)) rfl Zcb ZU.2 .nil aN (aA (aV Zm ZL (dv 0)) aF)) aF))))) aP) (aG (aL (bL (aA aQ (aA (cA ZaS Zah.1 (hr.mono (by decide)) rfl Zc4 Zah.2 .nil aN (aA (aU fC (aV Zm ZD (dv 0)) aC) (aA (aV Zm ZL (dv 0)) aF))) aF)))))),?_⟩
 obtain⟨sa,on,al⟩:=id st
 cases en:S.now with
 | free k=>rw [en] at tg;cases tg
 | speaks n ds k=>rw [en] at tg;cases tg
 | reads h=>rw [en] at tg;cases tg
 | tlS v c=>rw [en] at tg;cases tg
 | tlR n ds v c=>rw [en] at tg;cases tg
 | flag l m=>
  rw [en] at sa
  obtain⟨dx,e⟩:=sa
  have hl:=wf.now
  rw [en] at hl
  have hl1:1≤l:=hl
  rw [gU en] at q
  refine⟨dx,_,_,e,rfl,?_⟩
  conv=>whnf
  refine bG (fun c=>?_) (fun c=>?_)
  ·have c1:((l:Nat):Int) = 1:=dec_true c
   rw [if_pos (by omega)] at q
   refine⟨dx,_,_,e,rfl,?_⟩
   refine fun x dx' hx hdx hne=>⟨x,dx',_,rfl,aB,fun H2 eH=>⟨rfl,aJ rfl,fun t ht=>?_⟩⟩
   have g2:Same H H2:=by rw [eH];exact bH hx hdx
   have e2:H2 x = some (.ins CA.settles dx' [("may_blame",.bl m)]):=by rw [eH];exact aB
   have g3:=aH ht (.tup [.str "",.ref x])
   exact q t _ (gJ bd dj Keep.refl (g2.trans g3) aB ⟨rfl,rfl,rfl,rfl,rfl,rfl⟩ hx (g3 _ _ e2) ⟨dx',g3 _ _ e2⟩)
  ·have c1:¬ ((l:Nat):Int) = 1:=dec_false c
   rw [if_neg (by omega)] at q
   refine⟨dx,_,_,e,rfl,dx,_,_,e,rfl,?_⟩
   refine fun x dx' hx hdx hne=>⟨x,dx',_,_,rfl,aB,fun H2 eH=>⟨rfl,aJ rfl,fun t ht=>?_⟩⟩
   have g2:Same H H2:=by rw [eH];exact bH hx hdx
   have el:((l:Nat):Int) - 1 = ((l - 1:Nat):Int):=by omega
   have e2:H2 x = some (.ins CA.flag dx' [("left",.int ((l - 1:Nat):Int)),("may_blame",.bl m)]):=by rw [eH,←el];exact aB
   have g3:=aH ht (.tup [.str "",.ref x])
   exact q t _ (gJ bd dj Keep.refl (g2.trans g3) aB ⟨rfl,rfl,rfl,rfl,rfl,rfl⟩ hx (g3 _ _ e2) ⟨dx',g3 _ _ e2⟩)
 | settles m=>rw [en] at tg;cases tg
 | rests l=>rw [en] at tg;cases tg
 | off  =>rw [en] at tg;cases tg
variable (Zci:MB P w K mg base (CX0) 5 ZdC Zhp ["self","bit","post"] (spStStep CA 5))
include ZcR ZbC ZA Zaq ZY ZW Zcz in
theorem ZkO (F0:Fun K "step" "Settles.step" ZhE ZdC Zhp):type_of% Zci:=by
 refine mbM ["self","bit","post"] F0 fun Sc0=>F0.ok Sc0 (fun vs H Q E h=>?_) fun cdv A outer s H vs Q E hr h=>?_
 ·obtain⟨nw,p,nwf,S,ob,os,bt,rfl,_⟩:=h
  rfl
 obtain⟨nw,p,nwf,S,ob,os,bt,rfl,tg,bd,st,dj,wf,hb,hu,q⟩:=h
 have nd:=Sc0.nd
 refine⟨_,(aD (aY (aR bQ (dv 1) aC (aM _)) (aG (aL (bL (aA aQ (aA (cA Zaq ZW.1 (hr.mono (by decide)) rfl ZcR ZW.2 .nil aN (aA (bD (v:= .int 3) rfl ZbC ⟨_,rfl⟩) aF)) aF))))) aP) (aD (aY (bJ (aV ZA ZY (dv 0))) (aG (aL (aO Zcz.1 (hr.mono (by decide)) rfl Zcz.2.2.2 Zcz.2.2.1 Zcz.2.1 .nil aN (aA (dv 2) aF)))) aP) (aG (aL (bL (aA aQ (aA (dv 0) aF))))))),?_⟩
 obtain⟨sa,on,al⟩:=id st
 cases en:S.now with
 | free k=>rw [en] at tg;cases tg
 | speaks n ds k=>rw [en] at tg;cases tg
 | reads h=>rw [en] at tg;cases tg
 | tlS v c=>rw [en] at tg;cases tg
 | tlR n ds v c=>rw [en] at tg;cases tg
 | flag l m=>rw [en] at tg;cases tg
 | settles m=>
  rw [en] at sa
  obtain⟨dx,e⟩:=sa
  rw [eO en] at q
  conv=>whnf
  refine bG (fun c=>?_) (fun c=>?_)
  ·have c1:bt = 1:=dec_true c
   rw [if_pos c1] at q
   refine fun x dx' hx hdx hne=>⟨x,dx',_,rfl,aB,fun H2 eH=>⟨rfl,aJ rfl,fun t ht=>?_⟩⟩
   have g2:Same H H2:=by rw [eH];exact bH hx hdx
   have e2:H2 x = some (.ins CA.rests dx' [("left",.int ((3:Nat):Int))]):=by rw [eH];exact aB
   have g3:=aH ht (.tup [.str "",.ref x])
   exact q t _ (gJ bd dj Keep.refl (g2.trans g3) aB ⟨rfl,rfl,rfl,rfl,rfl,rfl⟩ hx (g3 _ _ e2) ⟨dx',g3 _ _ e2⟩)
  have c1:¬ bt = 1:=dec_false c
  rw [if_neg c1] at q
  refine⟨dx,_,_,e,rfl,?_⟩
  cases m with
  | true=>
   rw [if_pos rfl] at q
   exact⟨p,nwf,S,ob,rfl,bd,fun t H' h=>q t H' (h.stp Keep.refl bd)⟩
  | false=>
   rw [if_neg (by decide)] at q
   refine⟨aJ rfl,fun t ht=>?_⟩
   have g1:=aH ht (.tup [.str "",.ref nw])
   exact q t _ (Stp.go bd dj Keep.refl g1 aB ⟨rfl,rfl,rfl,rfl,rfl,rfl⟩ (st.move fun x v e _=>g1 x v e) fun x hx=> .inl hx)
 | rests l=>rw [en] at tg;cases tg
 | off  =>rw [en] at tg;cases tg
variable (ZcP:MB P w K mg base (CX0) 5 Zez Zi1 ["self","bit","post"] (spStStep CA 6))
include ZdO ZcR Zx ZaL Zaq ZT Zai ZW Zn in
theorem ZlJ (F0:Fun K "step" "Rests.step" Zjm Zez Zi1):type_of% ZcP:=by
 refine mbM ["self","bit","post"] F0 fun Sc0=>F0.ok Sc0 (fun vs H Q E h=>?_) fun cdv A outer s H vs Q E hr h=>?_
 ·obtain⟨nw,p,nwf,S,ob,os,bt,rfl,_⟩:=h
  rfl
 obtain⟨nw,p,nwf,S,ob,os,bt,rfl,tg,bd,st,dj,wf,hb,hu,q⟩:=h
 have nd:=Sc0.nd
 refine⟨_,(aD (aY (aR bQ (dv 1) aC (aM _)) (aG (aL (aO Zn.1 (hr.mono (by decide)) rfl Zn.2.2.2 Zn.2.2.1 Zn.2.1 .nil aN (aA (dv 2) (aA cL aF))))) aP) (aG (aL (bL (aA aQ (aA (cB (cP (aR bQ (aV Zx ZT (dv 0)) aC (aM _)) (cA ZaL Zai.1 (hr.mono (by decide)) rfl ZdO Zai.2 .nil aN (aA aC aF)) (cA Zaq ZW.1 (hr.mono (by decide)) rfl ZcR ZW.2 .nil aN (aA (aU fC (aV Zx ZT (dv 0)) aC) aF)))) aF)))))),?_⟩
 obtain⟨sa,on,al⟩:=id st
 cases en:S.now with
 | free k=>rw [en] at tg;cases tg
 | speaks n ds k=>rw [en] at tg;cases tg
 | reads h=>rw [en] at tg;cases tg
 | tlS v c=>rw [en] at tg;cases tg
 | tlR n ds v c=>rw [en] at tg;cases tg
 | flag l m=>rw [en] at tg;cases tg
 | settles m=>rw [en] at tg;cases tg
 | rests l=>
  rw [en] at sa
  obtain⟨dx,e⟩:=sa
  have hl:=wf.now
  rw [en] at hl
  have hl1:1≤l:=hl
  rw [fZ en] at q
  conv=>whnf
  refine bG (fun c=>?_) (fun c=>?_)
  ·have c1:bt = 0:=dec_true c
   rw [if_pos c1] at q
   exact⟨p,nwf,S,ob,false,rfl,bd,fun t H' h=>q t H' (h.stp Keep.refl bd)⟩
  have c1:¬ bt = 0:=dec_false c
  rw [if_neg c1] at q
  refine⟨fun v H2=>∃x dx',v = .ref x∧H x = none∧Same H H2∧(if l = 1 then H2 x = some (.ins CA.free dx' [("since",.int ((0:Nat):Int))]) else H2 x = some (.ins CA.rests dx' [("left",.int ((l - 1:Nat):Int))])),?_,?_⟩
  ·refine⟨dx,_,_,e,rfl,?_⟩
   conv=>whnf
   refine bG (fun z=>?_) (fun z=>?_)
   ·have z1:((l:Nat):Int) = 1:=dec_true z
    refine fun x dx' hx hdx hne=>⟨x,dx',_,rfl,aB,fun H2 eH=>⟨rfl,x,dx',rfl,hx,by rw [eH];exact bH hx hdx,?_⟩⟩
    rw [if_pos (by omega),eH]
    exact aB
   ·have z1:¬ ((l:Nat):Int) = 1:=dec_false z
    have el:((l:Nat):Int) - 1 = ((l - 1:Nat):Int):=by omega
    refine⟨dx,_,_,e,rfl,?_⟩
    refine fun x dx' hx hdx hne=>⟨x,dx',_,rfl,aB,fun H2 eH=>⟨rfl,x,dx',rfl,hx,by rw [eH];exact bH hx hdx,?_⟩⟩
    rw [if_neg (by omega),eH,←el]
    exact aB
  rintro v H2 ⟨x,dx',rfl,hx,g2,e2⟩
  refine⟨aJ rfl,fun t ht=>?_⟩
  have g3:=aH ht (.tup [.str "",.ref x])
  by_cases z:l = 1
  ·rw [if_pos z] at e2 q
   exact q t _ (gJ bd dj Keep.refl (g2.trans g3) aB ⟨rfl,rfl,rfl,rfl,rfl,rfl⟩ hx (g3 _ _ e2) ⟨dx',g3 _ _ e2⟩)
  ·rw [if_neg z] at e2 q
   exact q t _ (gJ bd dj Keep.refl (g2.trans g3) aB ⟨rfl,rfl,rfl,rfl,rfl,rfl⟩ hx (g3 _ _ e2) ⟨dx',g3 _ _ e2⟩)
 | off  =>rw [en] at tg;cases tg
variable (Zc6:MB P w K mg base (CX0) 8 Ze0 ZjF ["self","bit","post"] (spStStep CA 0))
include Zau ZH Zu ZdO Zee Zdc Zt Za ZaL Zbk ZaB Zas ZaG ZE Z8 Zai Zaz Zaa ZaD Zn ZaY in
theorem Zl5 (F0:Fun K "step" "Free.step" Zj1 Ze0 ZjF):type_of% Zc6:=by
 refine mbM ["self","bit","post","begins"] F0 fun Sc0=>F0.ok Sc0 (fun vs H Q E h=>?_) fun cdv A outer s H vs Q E hr h=>?_
 ·obtain⟨nw,p,nwf,S,ob,os,bt,rfl,_⟩:=h
  rfl
 obtain⟨nw,p,nwf,S,ob,os,bt,rfl,tg,bd,st,dj,wf,hb,hu,q⟩:=h
 have nd:=Sc0.nd
 refine⟨_,(aD (aZ (i:=3) nd rfl (Or.inl rfl) (bW bQ (cI Zt Zas ZaY.1 (hr.mono (by decide)) ZaY.2 .nil aN (dv 0) (aA (dv 2) aF)) aC (aM _))) (aD (aY (PW.pt (cH (bJ (dv 3)) (cN (aR bQ (dv 1) aC (aM _))))) (aG (aL (bL (aA aQ (aA (cA Zbk Zaz.1 (hr.mono (by decide)) rfl Zee Zaz.2 .nil aN (aA (bI Za ZaG ZaD.1 (hr.mono (by decide)) ZaD.2 .nil aN (dv 2)) (aA (pJ Z8.1 (hr.mono (by decide)) rfl Z8.2.2.2 Z8.2.2.1 Z8.2.1 .nil aN) (aA aC aF)))) aF))))) aP) (aD (aY (bJ (dv 3)) (aG (aL (aO Zn.1 (hr.mono (by decide)) rfl Zn.2.2.2 Zn.2.2.1 Zn.2.1 .nil aN (aA (dv 2) (aA cL aF))))) aP) (aD (aY (aR bQ (dv 1) aC (aM _)) (aG (aL (bL (aA aQ (aA (cA ZaB Zaa.1 (hr.mono (by decide)) rfl Zdc Zaa.2 .nil aN (aA (pJ Z8.1 (hr.mono (by decide)) rfl Z8.2.2.2 Z8.2.2.1 Z8.2.1 .nil aN) (aA aC aF))) aF))))) aP) (aG (aL (bL (aA aQ (aA (cA ZaL Zai.1 (hr.mono (by decide)) rfl ZdO Zai.2 .nil aN (aA (aU bZ (aV Zt ZE (dv 0)) aC) aF)) aF))))))))),?_⟩
 obtain⟨sa,on,al⟩:=id st
 cases en:S.now with
 | free k =>
  rw [en] at sa
  obtain⟨dx,e⟩:=sa
  obtain⟨dp,ch,wl,ul,ct,ws,us,b⟩:=id bd
  rw [gR en] at q
  refine⟨⟨dx,_,e,rfl⟩,nw,p,nwf,S,ob,os,rfl,tg,bd,st,wf,?_⟩
  conv=>whnf
  refine bG (fun c=>?_) (fun c=>?_)
  ·have c1:saysP S = 0:=dec_true c
   rw [if_pos c1] at q
   conv=>whnf
   refine bG (fun z=>?_) (fun z=>?_)
   ·have z1:bt = 0:=dec_true z
    rw [if_pos z1] at q
    cases ewt:S.wt with
    | nil=>
     rw [iG en,if_pos ewt] at c1
     cases c1
    | cons f rr=>
     rw [ewt] at q
     have hf:=wf.wt f (by rw [ewt];exact List.mem_cons_self)
     refine⟨⟨dp,_,b.e,rfl⟩,p,nwf,S,ob,f,rr,rfl,bd,ewt,hf,fun pw H1 hpw g1 e1=>?_⟩
     refine⟨rfl,fun r st' ks H2 t0 hR g2 n1 n2 n3=>?_⟩
     refine fun x dx' hx hdx hne=>⟨x,dx',_,_,_,rfl,aB,fun H3 eH=>⟨rfl,aJ rfl,fun t ht=>?_⟩⟩
     have g3:Same H2 H3:=by rw [eH];exact bH hx hdx
     have e3:H3 x = some (.ins CA.speaks dx' [("wire",.ref pw),("reader",.ref r),("many",.int ((1:Nat):Int))]):=by rw [eH];exact aB
     have g4:=aH ht (.tup [.str "begins",.ref x])
     have npk:pw≠ks:=fun y=>by rw [y,n3] at e1;cases e1
     have g24:=g3.trans g4
     have gs:=g1.trans (g2.trans g24)
     refine q t _ (Stp.go (os':=fun y=>y = x∨y = pw∨y = r∨y = st'∨y = ks) bd dj Keep.refl gs aB ⟨rfl,rfl,rfl,ewt.symm,rfl,rfl⟩ ⟨⟨dx',pw,r,st',ks,t0,g4 _ _ e3,g24 _ _ (g2 _ _ e1),?_,npk,.inr (.inl rfl),.inr (.inr (.inl rfl)),.inr (.inr (.inr (.inl rfl))),.inr (.inr (.inr (.inr rfl)))⟩,.inl rfl,?_⟩ ?_)
     ·show RdAt _ _ _ r st' ks ((wr f.1 f.2).take 1) t0
      rw [vM]
      exact hR.same g24
     ·rintro y (rfl | rfl | rfl | rfl | rfl)
      ·rw [g4 _ _ e3];simp
      ·rw [g24 _ _ (g2 _ _ e1)];simp
      ·obtain⟨d,w⟩:=hR.rd;rw [g24 _ _ w];simp
      ·obtain⟨d,w⟩:=hR.sk;rw [g24 _ _ w];simp
      ·rw [g24 _ _ hR.kp];simp
     ·rintro y (rfl | rfl | rfl | rfl | rfl)
      ·exact .inr (g1.none (g2.none hx))
      ·exact .inr hpw
      ·exact .inr (g1.none n1)
      ·exact .inr (g1.none n2)
      ·exact .inr (g1.none n3)
   ·have z1:¬ bt = 0:=dec_false z
    rw [if_neg z1] at q
    conv=>whnf
    refine bG (fun _=>?_) (fun c'=>absurd c c')
    exact⟨p,nwf,S,ob,true,rfl,bd,fun t H' h=>q t H' (h.stp Keep.refl bd)⟩
  have c1:¬ saysP S = 0:=dec_false c
  rw [if_neg c1] at q
  refine uH ?_
  conv=>whnf
  refine bG (fun c'=>absurd c' c) (fun _=>?_)
  conv=>whnf
  refine bG (fun z=>?_) (fun z=>?_)
  ·have z1:bt = 0:=dec_true z
   rw [if_pos z1] at q
   refine⟨rfl,fun r st' ks H2 t0 hR g2 n1 n2 n3=>?_⟩
   refine fun x dx' hx hdx hne=>⟨x,dx',_,_,rfl,aB,fun H3 eH=>⟨rfl,aJ rfl,fun t ht=>?_⟩⟩
   have g3:Same H2 H3:=by rw [eH];exact bH hx hdx
   have e3:H3 x = some (.ins CA.reads dx' [("reader",.ref r),("many",.int ((1:Nat):Int))]):=by rw [eH];exact aB
   have g4:=aH ht (.tup [.str "",.ref x])
   have g24:=g3.trans g4
   refine q t _ (Stp.go (os':=fun y=>y = x∨y = r∨y = st'∨y = ks) bd dj Keep.refl (g2.trans g24) aB ⟨rfl,rfl,rfl,rfl,rfl,rfl⟩ ⟨⟨dx',r,st',ks,t0,g4 _ _ e3,hR.same g24,.inr (.inl rfl),.inr (.inr (.inl rfl)),.inr (.inr (.inr rfl))⟩,.inl rfl,?_⟩ ?_)
   ·rintro y (rfl | rfl | rfl | rfl)
    ·rw [g4 _ _ e3];simp
    ·obtain⟨d,w⟩:=hR.rd;rw [g24 _ _ w];simp
    ·obtain⟨d,w⟩:=hR.sk;rw [g24 _ _ w];simp
    ·rw [g24 _ _ hR.kp];simp
   ·rintro y (rfl | rfl | rfl | rfl)
    ·exact .inr (g2.none hx)
    ·exact .inr n1
    ·exact .inr n2
    ·exact .inr n3
  ·have z1:¬ bt = 0:=dec_false z
   rw [if_neg z1] at q
   refine⟨dx,_,_,e,rfl,?_⟩
   refine fun x dx' hx hdx hne=>⟨x,dx',_,rfl,aB,fun H2 eH=>⟨rfl,aJ rfl,fun t ht=>?_⟩⟩
   have g2:Same H H2:=by rw [eH];exact bH hx hdx
   have e2:H2 x = some (.ins CA.free dx' [("since",.int ((k + 1:Nat):Int))]):=by rw [eH];exact aB
   have g3:=aH ht (.tup [.str "",.ref x])
   exact q t _ (gJ bd dj Keep.refl (g2.trans g3) aB ⟨rfl,rfl,rfl,rfl,rfl,rfl⟩ hx (g3 _ _ e2) ⟨dx',g3 _ _ e2⟩)
 | speaks n ds k=>rw [en] at tg;cases tg
 | reads h=>rw [en] at tg;cases tg
 | tlS v c=>rw [en] at tg;cases tg
 | tlR n ds v c=>rw [en] at tg;cases tg
 | flag l m=>rw [en] at tg;cases tg
 | settles m=>rw [en] at tg;cases tg
 | rests l=>rw [en] at tg;cases tg
 | off  =>rw [en] at tg;cases tg
variable (ZcN:MB P w K mg base (CX0) 7 Zew ZiY ["self","bit","post"] (spStStep CA 2))
include ZH Zu Zdq Zdc Zed ZfQ Zf Zr Za ZaB Zbj Zc3 ZN Zbp ZX Z1 Z0 Z2 Zcf ZbG Zaa Zax Zn in
theorem ZlG (F0:Fun K "step" "Reads.step" Zjj Zew ZiY):type_of% ZcN:=by
 refine mbM ["self","bit","post","answer"] F0 fun Sc0=>F0.ok Sc0 (fun vs H Q E h=>?_) fun cdv A outer s H vs Q E hr h=>?_
 ·obtain⟨nw,p,nwf,S,ob,os,bt,rfl,_⟩:=h
  rfl
 obtain⟨nw,p,nwf,S,ob,os,bt,rfl,tg,bd,st,dj,wf,hb,hu,q⟩:=h
 have nd:=Sc0.nd
 refine⟨_,(aD (aZ (i:=3) nd rfl (Or.inl rfl) (cI Zf ZN Z2.1 (hr.mono (by decide)) Z2.2 .nil aN (aV Zr ZX (dv 0)) (aA (dv 1) aF))) (aD (aY (aR bQ (dv 3) aQ (aM _)) (aG (aL (bL (aA aQ (aA (cA ZaB Zaa.1 (hr.mono (by decide)) rfl Zdc Zaa.2 .nil aN (aA (aV Zr ZX (dv 0)) (aA (aU bZ (aV Zr Z1 (dv 0)) aC) aF))) aF))))) aP) (aD (aY (aR bQ (dv 3) aQ (aM _)) (aG (aL (bL (aA aQ (aA (cA Zbj Zax.1 (hr.mono (by decide)) rfl Zed Zax.2 .nil aN (aA (cA Zc3 ZbG.1 (hr.mono (by decide)) rfl ZfQ ZbG.2 .nil aN (aA (aV Za Z0 (dv 2)) aF)) (aA (bI Zf Zbp Zcf.1 (hr.mono (by decide)) Zcf.2 .nil aN (aV Zr ZX (dv 0))) aF))) aF))))) aP) (aG (aL (aO Zn.1 (hr.mono (by decide)) rfl Zn.2.2.2 Zn.2.2.1 Zn.2.1 .nil aN (aA (dv 2) (aA cL aF)))))))),?_⟩
 obtain⟨sa,on,al⟩:=id st
 cases en:S.now with
 | free k=>rw [en] at tg;cases tg
 | speaks n ds k=>rw [en] at tg;cases tg
 | reads h=>
  rw [en] at sa
  obtain⟨dx,r,st',ks,t0,e,hR,o1,o2,o3⟩:=sa
  have hn:=wf.now
  rw [en] at hn
  obtain⟨f1,f2,f3⟩:=hn
  have hlen:=wL f1 f2
  rw [gA en] at q
  obtain⟨dr,er⟩:=hR.rd
  obtain⟨dk,ek⟩:=hR.sk
  have hbits:Bits (h ++ [bt]):=cQ f1 (fun z hz=>by rw [List.mem_singleton.mp hz];exact hb)
  refine⟨dx,_,.ref r,e,rfl,⟨dr,_,er,rfl⟩,r,st',ks,h,t0,bt,rfl,hR,hbits,by omega,fun H1 hR1 b1=>?_⟩
  have n1:nw≠r:=lK "many" e er rfl rfl
  have n2:nw≠st':=lK "many" e ek rfl rfl
  have n3:nw≠ks:=sI e hR.kp
  have e1:=b1 _ _ n1 n2 n3 e
  have k1:=sU hR b1 o1 o2 o3
  have bd1:=kJ bd dj k1
  have k1':Keep (Or2 ob os) H H1:=k1.le fun x hx=> .inr hx
  obtain⟨dr1,er1⟩:=hR1.rd
  generalize hans:ans (h ++ [bt]) = an at hR1 q er1 ⊢
  conv=>whnf
  refine bG (fun c=>?_) (fun c=>?_)
  ·have c1:an = "more":=of_decide_eq_true c
   rw [if_pos c1] at q
   refine⟨dx,_,.ref r,e1,rfl,dx,_,_,e1,rfl,?_⟩
   refine fun x dx' hx hdx hne=>⟨x,dx',_,_,rfl,aB,fun H2 eH=>⟨rfl,aJ rfl,fun t ht=>?_⟩⟩
   have g2:Same H1 H2:=by rw [eH];exact bH hx hdx
   have el:((h.length:Nat):Int) + 1 = (((h ++ [bt]).length:Nat):Int):=by rw [List.length_append,List.length_singleton];rfl
   have e2:H2 x = some (.ins CA.reads dx' [("reader",.ref r),("many",.int (((h ++ [bt]).length:Nat):Int))]):=by rw [eH,←el];exact aB
   have g3:=aH ht (.tup [.str "",.ref x])
   have g13:=g2.trans g3
   refine q t _ (Stp.go (os':=fun y=>y = x∨y = r∨y = st'∨y = ks) bd dj k1 g13 aB ⟨rfl,rfl,rfl,rfl,rfl,rfl⟩ ⟨⟨dx',r,st',ks,an,g3 _ _ e2,hR1.same g13,.inr (.inl rfl),.inr (.inr (.inl rfl)),.inr (.inr (.inr rfl))⟩,.inl rfl,?_⟩ ?_)
   ·rintro y (rfl | rfl | rfl | rfl)
    ·rw [g3 _ _ e2];simp
    ·rw [g13 _ _ er1];simp
    ·obtain⟨d,w⟩:=hR1.sk;rw [g13 _ _ w];simp
    ·rw [g13 _ _ hR1.kp];simp
   ·rintro y (rfl | rfl | rfl | rfl)
    ·exact .inr hx
    ·exact .inl o1
    ·exact .inl o2
    ·exact .inl o3
  have c1:¬ an = "more":=fun z=>c (decide_eq_true z)
  rw [if_neg c1] at q
  conv=>whnf
  refine bG (fun z=>?_) (fun z=>?_)
  ·have z1:an = "whole":=of_decide_eq_true z
   rw [if_pos z1] at q
   obtain⟨dp,ch,wl,ul,ct,ws,us,b⟩:=id bd1
   refine⟨dp,_,_,b.e,rfl,?_⟩
   refine fun tl dt htl hdt hne=>⟨tl,dt,S.vt,rfl,aB,fun H2 eH=>⟨rfl,?_⟩⟩
   have g2:Same H1 H2:=by rw [eH];exact bH htl hdt
   have e2:H2 tl = some (.ins CA.rtail dt (tlF S.vt false 0 0)):=by rw [eH];exact aB
   clear eH
   have hR2:=hR1.same g2
   obtain⟨dr2,er2⟩:=hR2.rd
   refine⟨dx,_,.ref r,g2 _ _ e1,rfl,⟨dr2,_,er2,rfl⟩,r,st',ks,h ++ [bt],rfl,(by rw [hans];exact hR2),hbits,(by rw [List.length_append,List.length_singleton];omega),(fun _=>uL (by rw [zX,List.head?_append,f3];rfl)),fun _ ok t d H3 hd g3 ed et=>?_,fun no=>absurd (hans.trans z1) no⟩
   refine fun x dx' hx hdx hne=>⟨x,dx',_,_,rfl,aB,fun H4 eH=>⟨rfl,aJ rfl,fun t' ht'=>?_⟩⟩
   have g4:Same H3 H4:=by rw [eH];exact bH hx hdx
   have e4:H4 x = some (.ins CA.intail dx' [("tail",.ref tl),("found",.ref t)]):=by rw [eH];exact aB
   clear eH
   have g5:=aH ht' (.tup [.str "",.ref x])
   have g35:=g4.trans g5
   refine q t' _ (Stp.go (os':=fun y=>y = x∨y = tl∨y = d) bd dj k1 (g2.trans (g3.trans g35)) aB ⟨rfl,rfl,rfl,rfl,rfl,rfl⟩ ⟨⟨dx',tl,t,d,g5 _ _ e4,⟨CA.rtail,dt,.inl rfl,g35 _ _ (g3 _ _ e2)⟩,g35 _ _ et,g35 _ _ ed,.inr (.inl rfl),.inr (.inr rfl)⟩,.inl rfl,?_⟩ ?_)
   ·rintro y (rfl | rfl | rfl)
    ·rw [g5 _ _ e4];simp
    ·rw [g35 _ _ (g3 _ _ e2)];simp
    ·rw [g35 _ _ ed];simp
   ·rintro y (rfl | rfl | rfl)
    ·exact .inr (g2.none (g3.none hx))
    ·exact .inr htl
    ·exact .inr (g2.none hd)
  ·have z1:¬ an = "whole":=fun y=>z (decide_eq_true y)
   rw [if_neg z1] at q
   exact⟨p,nwf,S,ob,false,rfl,bd1,fun t H' h=>q t H' (h.stp k1' bd1)⟩
 | tlS v c=>rw [en] at tg;cases tg
 | tlR n ds v c=>rw [en] at tg;cases tg
 | flag l m=>rw [en] at tg;cases tg
 | settles m=>rw [en] at tg;cases tg
 | rests l=>rw [en] at tg;cases tg
 | off  =>rw [en] at tg;cases tg
variable (Zcy:MB P w K mg base (CX0) 7 Zd3 Zh8 ["self","bit","post"] (spStStep CA 1))
include ZH Zu Zdq Zee Zdc Zed Ze7 Zfb ZZ Zf Zg Za Zbk ZaB Zbj ZcH ZN Zbq ZG ZO Zs Z0 Z2 Zcg Zbi Zaz Zaa Zax Zn in
theorem Zld (F0:Fun K "step" "Speaks.step" Ziw Zd3 Zh8):type_of% Zcy:=by
 refine mbM ["self","bit","post","own","is_duel"] F0 fun Sc0=>F0.ok Sc0 (fun vs H Q E h=>?_) fun cdv A outer s H vs Q E hr h=>?_
 ·obtain⟨nw,p,nwf,S,ob,os,bt,rfl,_⟩:=h
  rfl
 obtain⟨nw,p,nwf,S,ob,os,bt,rfl,tg,bd,st,dj,wf,hb,hu,q⟩:=h
 have nd:=Sc0.nd
 refine⟨_,(aD (aZ (i:=3) nd rfl (Or.inl rfl) (aW bC (aV Zg ZG (dv 0)) (aV Zg Zs (dv 0)) (fun _ _=>rfl))) (aD (aZ (i:=4) nd rfl (Or.inl rfl) (bW lY (bO fD rfl ZZ dR (aA (bI Zf Zbq Zcg.1 (hr.mono (by decide)) Zcg.2 .nil aN (aV Zg ZO (dv 0))) aF)) (bD (v:= .int 9) rfl Ze7 ⟨_,rfl⟩) (aM _))) (aD (aY (aR bQ (cI Zf ZN Z2.1 (hr.mono (by decide)) Z2.2 .nil aN (aV Zg ZO (dv 0)) (aA (dv 1) aF)) aQ (aM _)) (aG (aL (aO Zn.1 (hr.mono (by decide)) rfl Zn.2.2.2 Zn.2.2.1 Zn.2.1 .nil aN (aA (dv 2) (aA cL aF))))) aP) (aD (dJ (aY (PW.pt (cH (aR bQ (dv 3) aC (aM _)) (cH (aR bQ (dv 1) aC (aM _)) (cN (bJ (dv 4)))))) (aG (aL (bL (aA aQ (aA (cA ZaB Zaa.1 (hr.mono (by decide)) rfl Zdc Zaa.2 .nil aN (aA (aV Zg ZO (dv 0)) (aA (aU bZ (aV Zg Zs (dv 0)) aC) aF))) aF))))) aP)) (aD (aY (aR jA (dv 1) (dv 3) (aM _)) (aG (aL (aO Zn.1 (hr.mono (by decide)) rfl Zn.2.2.2 Zn.2.2.1 Zn.2.1 .nil aN (aA (dv 2) (aA cL aF))))) aP) (aD (aY (aR bQ (aU bZ (aV Zg Zs (dv 0)) aC) (bO fD rfl ZZ dR (aA (aV Zg ZG (dv 0)) aF)) (aM _)) (aG (aL (bL (aA aQ (aA (cA Zbj Zax.1 (hr.mono (by decide)) rfl Zed Zax.2 .nil aN (aA (cA ZcH Zbi.1 (hr.mono (by decide)) rfl Zfb Zbi.2 .nil aN (aA (aV Za Z0 (dv 2)) aF)) (aA rA aF))) aF))))) aP) (aG (aL (bL (aA aQ (aA (cA Zbk Zaz.1 (hr.mono (by decide)) rfl Zee Zaz.2 .nil aN (aA (aV Zg ZG (dv 0)) (aA (aV Zg ZO (dv 0)) (aA (aU bZ (aV Zg Zs (dv 0)) aC) aF)))) aF))))))))))),?_⟩
 obtain⟨sa,on,al⟩:=id st
 cases en:S.now with
 | free k=>rw [en] at tg;cases tg
 | speaks n ds k=>
  rw [en] at sa
  obtain⟨dx,wa,r,st',ks,t0,e,ew,hR,nwk,o0,o1,o2,o3⟩:=sa
  have hn:=wf.now
  rw [en] at hn
  obtain⟨f1,f2,hk,f4⟩:=hn
  have wl_:=qP f1
  have wbits:=(kZ f1).wbits
  rw [fJ en] at q
  have eg:=getD_get hk
  rw [eg] at q
  obtain⟨dr,er⟩:=hR.rd
  obtain⟨dk,ek⟩:=hR.sk
  have hbits:Bits ((wr n ds).take k ++ [bt]):=cQ (iD wbits) (fun z hz=>by rw [List.mem_singleton.mp hz];exact hb)
  refine⟨dx,_,.ref wa,e,rfl,dx,_,_,e,rfl,_,_,SqL.of ew,iY hk,?_⟩
  refine⟨dx,_,.ref r,e,rfl,⟨dr,_,er,rfl⟩,r,st',ks,_,t0,rfl,hR,fun pp H0 hpp g0 e0=>?_⟩
  refine⟨_,.inl (SqL.of e0),?_⟩
  rw [List.length_map]
  have hR0:=hR.same g0
  obtain⟨dr0,er0⟩:=hR0.rd
  have ee0:=g0 _ _ e
  refine⟨dx,_,.ref r,ee0,rfl,⟨dr0,_,er0,rfl⟩,r,st',ks,(wr n ds).take k,t0,bt,rfl,hR0,hbits,(by rw [List.length_take];omega),fun H1 hR1 b1=>?_⟩
  have n1:nw≠r:=lK "wire" e er rfl rfl
  have n2:nw≠st':=lK "wire" e ek rfl rfl
  have n3:nw≠ks:=sI e hR.kp
  have e1:=b1 _ _ n1 n2 n3 ee0
  have ew1:=b1 _ _ (Ne.symm (sI er ew)) (Ne.symm (sI ek ew)) nwk (g0 _ _ ew)
  have k01:=sU hR0 b1 o1 o2 o3
  have k1:Keep os H H1:=fun x v ex z=>k01 x v (g0 x v ex) z
  have bd1:=kJ bd dj k1
  have k1':Keep (Or2 ob os) H H1:=k1.le fun x hx=> .inr hx
  obtain⟨dr1,er1⟩:=hR1.rd
  conv=>whnf
  refine bG (fun c=>?_) (fun c=>?_)
  ·have c1:ans ((wr n ds).take k ++ [bt]) = "six":=of_decide_eq_true c
   rw [if_pos c1] at q
   exact⟨p,nwf,S,ob,true,rfl,bd1,fun t H' h=>q t H' (h.stp k1' bd1)⟩
  have c1:¬ ans ((wr n ds).take k ++ [bt]) = "six":=fun z=>c (decide_eq_true z)
  rw [if_neg c1] at q
  refine⟨fun σ' H'=>σ' = [some (.ref nw),some (.int bt),some (.ref p),some (.int (wr n ds)[k]),some (.bl (decide (((kp ((wr n ds).take k)).length:Int) < 9)))]∧H' = H1∧¬ ((wr n ds)[k] = 1∧bt = 0∧(kp ((wr n ds).take k)).length < 9),?_,?_⟩
  ·conv=>whnf
   refine bG (fun y1=>?_) (fun y1=>uH ⟨rfl,rfl,fun z=>dec_false y1 z.1⟩)
   conv=>whnf
   refine bG (fun y2=>?_) (fun y2=>uH ⟨rfl,rfl,fun z=>dec_false y2 z.2.1⟩)
   conv=>whnf
   refine bG (fun y3=>?_) (fun y3=>⟨rfl,rfl,fun z=>dec_false y3 (by have:=z.2.2;omega)⟩)
   have hl:(wr n ds)[k] = 1∧bt = 0∧(kp ((wr n ds).take k)).length < 9:=⟨dec_true y1,dec_true y2,by have:=dec_true y3;omega⟩
   rw [if_pos hl] at q
   refine⟨dx,_,.ref r,e1,rfl,dx,_,_,e1,rfl,?_⟩
   refine fun x dx' hx hdx hne=>⟨x,dx',_,_,rfl,aB,fun H2 eH=>⟨rfl,aJ rfl,fun t ht=>?_⟩⟩
   have g2:Same H1 H2:=by rw [eH];exact bH hx hdx
   have el:((k:Nat):Int) + 1 = ((((wr n ds).take k ++ [bt]).length:Nat):Int):=by rw [List.length_append,List.length_singleton,List.length_take];omega
   have e2:H2 x = some (.ins CA.reads dx' [("reader",.ref r),("many",.int ((((wr n ds).take k ++ [bt]).length:Nat):Int))]):=by rw [eH,←el];exact aB
   have g3:=aH ht (.tup [.str "loses",.ref x])
   have g13:=g2.trans g3
   refine q t _ (Stp.go (os':=fun y=>y = x∨y = r∨y = st'∨y = ks) bd dj k1 g13 aB ⟨rfl,rfl,rfl,rfl,rfl,rfl⟩ ⟨⟨dx',r,st',ks,_,g3 _ _ e2,hR1.same g13,.inr (.inl rfl),.inr (.inr (.inl rfl)),.inr (.inr (.inr rfl))⟩,.inl rfl,?_⟩ ?_)
   ·rintro y (rfl | rfl | rfl | rfl)
    ·rw [g3 _ _ e2];simp
    ·rw [g13 _ _ er1];simp
    ·obtain⟨d,w⟩:=hR1.sk;rw [g13 _ _ w];simp
    ·rw [g13 _ _ hR1.kp];simp
   ·rintro y (rfl | rfl | rfl | rfl)
    ·exact .inr hx
    ·exact .inl o1
    ·exact .inl o2
    ·exact .inl o3
  rintro σ' H' ⟨rfl,rfl,nl⟩
  rw [if_neg nl] at q
  conv=>whnf
  refine bG (fun y=>?_) (fun y=>?_)
  ·have y1:¬ bt = (wr n ds)[k]:=fun z=>by
    have:(!decide (bt = (wr n ds)[k])) = true:=y
    rw [decide_eq_true z] at this;cases this
   rw [if_neg y1] at q
   exact⟨p,nwf,S,ob,true,rfl,bd1,fun t H' h=>q t H' (h.stp k1' bd1)⟩
  have y1:bt = (wr n ds)[k]:=Decidable.byContradiction fun z=>y (by
   show (!decide (bt = (wr n ds)[k])) = true
   rw [decide_eq_false z];rfl)
  rw [if_pos y1] at q
  have et:(wr n ds).take k ++ [bt] = (wr n ds).take (k + 1):=by rw [List.take_succ_eq_append_getElem hk,y1]
  refine⟨dx,_,_,e1,rfl,dx,_,.ref wa,e1,rfl,_,.inl (SqL.of ew1),?_⟩
  rw [List.length_map]
  conv=>whnf
  refine bG (fun z=>?_) (fun z=>?_)
  ·have z1:((k:Nat):Int) + 1 = (((wr n ds).length:Nat):Int):=dec_true z
   rw [if_pos (by omega)] at q
   obtain⟨dp,ch,wl,ul,ct,ws,us,b⟩:=id bd1
   refine⟨dp,_,_,b.e,rfl,?_⟩
   refine fun tl dt htl hdt hne=>⟨tl,dt,S.vt,rfl,aB,fun H2 eH=>⟨rfl,?_⟩⟩
   have g2:Same H' H2:=by rw [eH];exact bH htl hdt
   have e2:H2 tl = some (.ins CA.stail dt (tlF S.vt true 0 0)):=by rw [eH];exact aB
   clear eH
   refine fun x dx' hx hdx hne=>⟨x,dx',_,_,rfl,aB,fun H4 eH=>⟨rfl,aJ rfl,fun t' ht'=>?_⟩⟩
   have g4:Same H2 H4:=by rw [eH];exact bH hx hdx
   have e4:H4 x = some (.ins CA.intail dx' [("tail",.ref tl),("found",.non)]):=by rw [eH];exact aB
   clear eH
   have g5:=aH ht' (.tup [.str "",.ref x])
   have g35:=g4.trans g5
   refine q t' _ (Stp.go (os':=fun y=>y = x∨y = tl) bd dj k1 (g2.trans g35) aB ⟨rfl,rfl,rfl,rfl,rfl,rfl⟩ ⟨⟨dx',tl,g5 _ _ e4,⟨CA.stail,dt,.inr rfl,g35 _ _ e2⟩,.inr rfl⟩,.inl rfl,?_⟩ ?_)
   ·rintro y (rfl | rfl)
    ·rw [g5 _ _ e4];simp
    ·rw [g35 _ _ e2];simp
   ·rintro y (rfl | rfl)
    ·exact .inr (g2.none hx)
    ·exact .inr htl
  ·have z1:¬ ((k:Nat):Int) + 1 = (((wr n ds).length:Nat):Int):=dec_false z
   rw [if_neg (by omega)] at q
   refine⟨dx,_,.ref wa,e1,rfl,dx,_,.ref r,e1,rfl,dx,_,_,e1,rfl,?_⟩
   refine fun x dx' hx hdx hne=>⟨x,dx',_,_,_,rfl,aB,fun H2 eH=>⟨rfl,aJ rfl,fun t ht=>?_⟩⟩
   have g2:Same H' H2:=by rw [eH];exact bH hx hdx
   have e2:H2 x = some (.ins CA.speaks dx' [("wire",.ref wa),("reader",.ref r),("many",.int ((k + 1:Nat):Int))]):=by rw [eH];exact aB
   clear eH
   have g3:=aH ht (.tup [.str "",.ref x])
   have g13:=g2.trans g3
   rw [et] at hR1 er1
   refine q t _ (Stp.go (os':=fun y=>y = x∨y = wa∨y = r∨y = st'∨y = ks) bd dj k1 g13 aB ⟨rfl,rfl,rfl,rfl,rfl,rfl⟩ ⟨⟨dx',wa,r,st',ks,_,g3 _ _ e2,g13 _ _ ew1,hR1.same g13,nwk,.inr (.inl rfl),.inr (.inr (.inl rfl)),.inr (.inr (.inr (.inl rfl))),.inr (.inr (.inr (.inr rfl)))⟩,.inl rfl,?_⟩ ?_)
   ·rintro y (rfl | rfl | rfl | rfl | rfl)
    ·rw [g3 _ _ e2];simp
    ·rw [g13 _ _ ew1];simp
    ·rw [g13 _ _ er1];simp
    ·obtain⟨d,w⟩:=hR1.sk;rw [g13 _ _ w];simp
    ·rw [g13 _ _ hR1.kp];simp
   ·rintro y (rfl | rfl | rfl | rfl | rfl)
    ·exact .inr hx
    ·exact .inl o0
    ·exact .inl o1
    ·exact .inl o2
    ·exact .inl o3
 | reads h=>rw [en] at tg;cases tg
 | tlS v c=>rw [en] at tg;cases tg
 | tlR n ds v c=>rw [en] at tg;cases tg
 | flag l m=>rw [en] at tg;cases tg
 | settles m=>rw [en] at tg;cases tg
 | rests l=>rw [en] at tg;cases tg
 | off  =>rw [en] at tg;cases tg
variable (Zcr:MB P w K mg base (CX0) 6 ZdT ZhY ["self","bit","post"] (spStStep CA 3))
include ZcR ZbC Ze Zd Zc Zk Za Zaq ZbX ZaF Zbo ZaV ZaN Zp Zap Zi Zda ZcI ZW ZaC Zce Zn Zby in
theorem Zk3 (F0:Fun K "step" "InTail.step" Zim ZdT ZhY):type_of% Zcr:=by
 refine mbM ["self","bit","post","answer"] F0 fun Sc0=>F0.ok Sc0 (fun vs H Q E h=>?_) fun cdv A outer s H vs Q E hr h=>?_
 ·obtain⟨nw,p,nwf,S,ob,os,bt,rfl,_⟩:=h
  rfl
 obtain⟨nw,p,nwf,S,ob,os,bt,rfl,tg,bd,st,dj,wf,hb,hu,q⟩:=h
 have nd:=Sc0.nd
 refine⟨_,(aD (aZ (i:=3) nd rfl (Or.inl rfl) (lN Zda.1 (hr.mono (by decide)) Zda.2 .nil aN (aV Zk Zp (dv 0)) (aA (dv 1) aF))) (aD (aY (aR bQ (dv 3) aQ (aM _)) (aG (aL (bL (aA aQ (aA (dv 0) aF))))) aP) (aD (aY (aR bQ (dv 3) aQ (aM _)) (aG (aL (aO Zn.1 (hr.mono (by decide)) rfl Zn.2.2.2 Zn.2.2.1 Zn.2.1 .nil aN (aA (dv 2) (aA (cR (aV Zk Zp (dv 0))) aF))))) aP) (aD (aY (aR bQ (dv 3) aQ (aM _)) (aG (aL (aO Zby.1 (hr.mono (by decide)) rfl Zby.2.2.2 Zby.2.2.1 Zby.2.1 .nil aN (aA (dv 2) (aA (cR (aV Zk Zp (dv 0))) aF))))) aP) (aD (bF (bI Zc ZbX ZcI.1 (hr.mono (by decide)) ZcI.2 .nil aN (aV Za Zi (dv 2)))) (aD (aY (bJ (cR (aV Zk Zp (dv 0)))) (aD (bF (bI Za ZaF ZaC.1 (hr.mono (by decide)) ZaC.2 .nil aN (dv 2))) (aG (aL (bL (aA aQ (aA (cA Zaq ZW.1 (hr.mono (by decide)) rfl ZcR ZW.2 .nil aN (aA (bD (v:= .int 3) rfl ZbC ⟨_,rfl⟩) aF)) aF)))))) aP) (aD (bF (cI Za Zbo Zce.1 (hr.mono (by decide)) Zce.2 .nil aN (dv 2) (aA (aV Zk Zap (dv 0)) aF))) (aG (aL (bL (aA aQ (aA (cA Zaq ZW.1 (hr.mono (by decide)) rfl ZcR ZW.2 .nil aN (aA (bD (v:= .int 3) rfl ZbC ⟨_,rfl⟩) aF)) aF)))))))))))),?_⟩
 obtain⟨sa,on,al⟩:=id st
 cases en:S.now with
 | free k=>rw [en] at tg;cases tg
 | speaks n ds k=>rw [en] at tg;cases tg
 | reads h=>rw [en] at tg;cases tg
 | tlS v c=>
  rw [en] at sa
  obtain⟨dx,tl,  e,ht,o1⟩:=sa
  obtain⟨C,dt,hC,e0⟩:=id ht
  have hc:=fG Ze Zd hC
  have hm:=jN ZaV ZaN hC
  rw [iR en] at q
  refine⟨dx,_,.ref tl,e,rfl,⟨C,dt,_,e0,hc.cls,hm,rfl⟩,tl,S.vt,true,v,c,bt,rfl,ht,fun H1 ht1 b1=>?_⟩
  have ntl:nw≠tl:=lK "found" e e0 rfl rfl
  have e1:=b1 _ _ ntl e
  have k1:=sS ht b1 o1
  have bd1:=kJ bd dj k1
  have k1':Keep (Or2 ob os) H H1:=k1.le fun x hx=> .inr hx
  obtain⟨C1,dt1,hC1,et1⟩:=id ht1
  have hc1:=fG Ze Zd hC1
  have al1:∀x,os x→H1 x≠none:=fun x hx=>by
   by_cases z:x = tl
   ·rw [z,et1];simp
   ·cases ex:H x with
    | none=>exact absurd ex (al x hx)
    | some u=>rw [b1 x u z ex];simp
  have hw:=wf.now
  rw [en] at hw
  have hw1:S.wt≠ []:=hw
  generalize tlWord S.vt true v c bt = an at q ⊢
  conv=>whnf
  refine bG (fun y=>?_) (fun y=>?_)
  ·have y1:an = "more":=of_decide_eq_true y
   rw [if_pos y1] at q
   refine⟨aJ rfl,fun t ht'=>?_⟩
   have g2:=aH ht' (.tup [.str "",.ref nw])
   refine q t _ (Stp.go (os':=os) bd dj k1 g2 aB ⟨rfl,rfl,rfl,rfl,rfl,rfl⟩ ⟨⟨dx,tl,g2 _ _ e1,ht1.same g2,o1⟩,on,fun x hx=>?_⟩ fun x hx=> .inl hx)
   cases ex:H1 x with
   | none=>exact absurd ex (al1 x hx)
   | some u=>rw [g2 x u ex];simp
  have y1:¬ an = "more":=fun z=>y (decide_eq_true z)
  rw [if_neg y1] at q
  conv=>whnf
  refine bG (fun y=>?_) (fun y=>?_)
  ·have y2:an = "fault":=of_decide_eq_true y
   rw [if_pos y2] at q
   exact⟨dx,_,.ref tl,e1,rfl,C1,dt1,_,_,et1,hc1.cls,hc1.n2,rfl,p,nwf,S,ob,true,rfl,bd1,fun t H' h=>q t H' (h.stp k1' bd1)⟩
  have y2:¬ an = "fault":=fun z=>y (decide_eq_true z)
  rw [if_neg y2] at q
  conv=>whnf
  refine bG (fun y=>?_) (fun y=>?_)
  ·have y3:an = "refused":=of_decide_eq_true y
   rw [if_pos y3] at q
   exact⟨dx,_,.ref tl,e1,rfl,C1,dt1,_,_,et1,hc1.cls,hc1.n2,rfl,p,nwf,S,ob,true,rfl,bd1,fun t H' h=>q t H' (h.stp k1' bd1)⟩
  have y3:¬ an = "refused":=fun z=>y (decide_eq_true z)
  rw [if_neg y3] at q
  obtain⟨dp,ch,wl,ul,ct,ws,us,b⟩:=id bd1
  obtain⟨dc,ec⟩:=id b.et
  refine⟨dp,_,.ref ct,b.e,rfl,⟨dc,_,ec,rfl⟩,ct,S.tot,rfl,b.et,fun H2 c2 k2=>?_⟩
  obtain⟨b2,kk2⟩:=Bd.count b c2 k2
  have nct:∀x,os x→x≠ct:=fun x hx z=>dj ct b.ot (z▸hx)
  have e2:H2 nw = some (.ins CA.intail dx [("tail",.ref tl),("found",.non)]):=(k2 _ (nct _ on)).trans e1
  have et2:=(k2 _ (nct _ o1)).trans et1
  generalize hn2:mvd S.tot (-1) = n2 at b2 q
  refine⟨dx,_,.ref tl,e2,rfl,C1,dt1,_,_,et2,hc1.cls,hc1.n2,rfl,?_⟩
  obtain⟨dp2,ch2,wl2,ul2,ct2,ws2,us2,b22⟩:=id b2
  refine⟨⟨dp2,_,b22.e,rfl⟩,p,nwf,{ S with tot:=n2 },ob,rfl,b2,hw1,fun H3 b3 k3=>?_⟩
  have k13:Keep (Or2 ob os) H H3:=fun x u ex z=>k3 x u (kk2 x u (k1' x u ex z) (z.imp_left fun y w=>y (.inl w))) (z.imp_left fun y w=>y (.inl w))
  refine fun x dx' hx hdx hne=>⟨x,dx',_,rfl,aB,fun H4 eH=>⟨rfl,aJ rfl,fun t' ht'=>?_⟩⟩
  have g4:Same H3 H4:=by rw [eH];exact bH hx hdx
  have e4:H4 x = some (.ins CA.rests dx' [("left",.int ((3:Nat):Int))]):=by rw [eH];exact aB
  clear eH
  have g5:=aH ht' (.tup [.str "done",.ref x])
  refine q t' _ (Stp.go2 (b3.now rfl rfl rfl rfl rfl rfl) k13 (g4.trans g5) aB (dX (g5 _ _ e4) ⟨dx',g5 _ _ e4⟩) (fun y hy=>?_) ?_)
  ·have hy':y = x:=hy
   rw [hy'];exact hx
  ·exact fun y hy=> .inl (.inl hy)
 | tlR n ds v c=>
  rw [en] at sa
  obtain⟨dx,tl,tf,df,e,ht,etf,edf,o1,o2⟩:=sa
  obtain⟨C,dt,hC,e0⟩:=id ht
  have hc:=fG Ze Zd hC
  have hm:=jN ZaV ZaN hC
  rw [iT en] at q
  refine⟨dx,_,.ref tl,e,rfl,⟨C,dt,_,e0,hc.cls,hm,rfl⟩,tl,S.vt,false,v,c,bt,rfl,ht,fun H1 ht1 b1=>?_⟩
  have ntl:nw≠tl:=lK "found" e e0 rfl rfl
  have e1:=b1 _ _ ntl e
  have k1:=sS ht b1 o1
  have bd1:=kJ bd dj k1
  have k1':Keep (Or2 ob os) H H1:=k1.le fun x hx=> .inr hx
  obtain⟨C1,dt1,hC1,et1⟩:=id ht1
  have hc1:=fG Ze Zd hC1
  have etf1:=k1.tup etf
  have ndf:df≠tl:=fun z=>by rw [z,e0] at edf;cases edf
  have edf1:=b1 _ _ ndf edf
  have al1:∀x,os x→H1 x≠none:=fun x hx=>by
   by_cases z:x = tl
   ·rw [z,et1];simp
   ·cases ex:H x with
    | none=>exact absurd ex (al x hx)
    | some u=>rw [b1 x u z ex];simp
  generalize tlWord S.vt false v c bt = an at q ⊢
  conv=>whnf
  refine bG (fun y=>?_) (fun y=>?_)
  ·have y1:an = "more":=of_decide_eq_true y
   rw [if_pos y1] at q
   refine⟨aJ rfl,fun t ht'=>?_⟩
   have g2:=aH ht' (.tup [.str "",.ref nw])
   refine q t _ (Stp.go (os':=os) bd dj k1 g2 aB ⟨rfl,rfl,rfl,rfl,rfl,rfl⟩ ⟨⟨dx,tl,tf,df,g2 _ _ e1,ht1.same g2,g2 _ _ etf1,g2 _ _ edf1,o1,o2⟩,on,fun x hx=>?_⟩ fun x hx=> .inl hx)
   cases ex:H1 x with
   | none=>exact absurd ex (al1 x hx)
   | some u=>rw [g2 x u ex];simp
  have y1:¬ an = "more":=fun z=>y (decide_eq_true z)
  rw [if_neg y1] at q
  conv=>whnf
  refine bG (fun y=>?_) (fun y=>?_)
  ·have y2:an = "fault":=of_decide_eq_true y
   rw [if_pos y2] at q
   exact⟨dx,_,.ref tl,e1,rfl,C1,dt1,_,_,et1,hc1.cls,hc1.n2,rfl,p,nwf,S,ob,false,rfl,bd1,fun t H' h=>q t H' (h.stp k1' bd1)⟩
  have y2:¬ an = "fault":=fun z=>y (decide_eq_true z)
  rw [if_neg y2] at q
  conv=>whnf
  refine bG (fun y=>?_) (fun y=>?_)
  ·have y3:an = "refused":=of_decide_eq_true y
   rw [if_pos y3] at q
   exact⟨dx,_,.ref tl,e1,rfl,C1,dt1,_,_,et1,hc1.cls,hc1.n2,rfl,p,nwf,S,ob,false,rfl,bd1,fun t H' h=>q t H' (h.stp k1' bd1)⟩
  have y3:¬ an = "refused":=fun z=>y (decide_eq_true z)
  rw [if_neg y3] at q
  obtain⟨dp,ch,wl,ul,ct,ws,us,b⟩:=id bd1
  obtain⟨dc,ec⟩:=id b.et
  refine⟨dp,_,.ref ct,b.e,rfl,⟨dc,_,ec,rfl⟩,ct,S.tot,rfl,b.et,fun H2 c2 k2=>?_⟩
  obtain⟨b2,kk2⟩:=Bd.count b c2 k2
  have nct:∀x,os x→x≠ct:=fun x hx z=>dj ct b.ot (z▸hx)
  have e2:H2 nw = some (.ins CA.intail dx [("tail",.ref tl),("found",.ref tf)]):=(k2 _ (nct _ on)).trans e1
  have et2:=(k2 _ (nct _ o1)).trans et1
  generalize hn2:mvd S.tot (-1) = n2 at b2 q
  refine⟨dx,_,.ref tl,e2,rfl,C1,dt1,_,_,et2,hc1.cls,hc1.n2,rfl,?_⟩
  obtain⟨dp2,ch2,wl2,ul2,ct2,ws2,us2,b22⟩:=id b2
  refine⟨⟨dp2,_,b22.e,rfl⟩,dx,_,.ref tf,e2,rfl,p,nwf,{ S with tot:=n2 },ob,tf,df,n,ds,rfl,b2,kk2.tup etf1,(k2 _ (nct _ o2)).trans edf1,fun z=>dj df z o2,hu,fun H3 b3 k3=>?_⟩
  have k13:Keep (Or2 ob os) H H3:=fun x u ex z=>k3 x u (kk2 x u (k1' x u ex z) (z.imp_left fun y w=>y (.inl w))) (z.imp_left fun y w=>y (.inl w))
  refine fun x dx' hx hdx hne=>⟨x,dx',_,rfl,aB,fun H4 eH=>⟨rfl,aJ rfl,fun t' ht'=>?_⟩⟩
  have g4:Same H3 H4:=by rw [eH];exact bH hx hdx
  have e4:H4 x = some (.ins CA.rests dx' [("left",.int ((3:Nat):Int))]):=by rw [eH];exact aB
  clear eH
  have g5:=aH ht' (.tup [.str "takes",.ref x])
  refine q t' _ (Stp.go2 (b3.now rfl rfl rfl rfl rfl rfl) k13 (g4.trans g5) aB (dX (g5 _ _ e4) ⟨dx',g5 _ _ e4⟩) (fun y hy=>?_) ?_)
  ·have hy':y = x:=hy
   rw [hy'];exact hx
  ·rintro y (hy | hy)
   ·exact .inl (.inl hy)
   ·have hy':y = df:=hy
    rw [hy'];exact .inl (.inr o2)
 | flag l m=>rw [en] at tg;cases tg
 | settles m=>rw [en] at tg;cases tg
 | rests l=>rw [en] at tg;cases tg
 | off  =>rw [en] at tg;cases tg
variable (Zct:MB P w K mg base (CX0) 3 ZdW Zh1 ["self"] (spPoShown CA))
include Zt Zg Zr Zk Zm ZA Zx Za ZaK ZbY Zbt ZbP Zbn Za3 Zbc ZbQ Zcn ZK ZcK Zcj Zcv Zcd Zbg ZbI Zcw Zc7 in
theorem Zk6 (F0:Fun K "stance" "Post.stance" Zip ZdW Zh1):type_of% Zct:=by
 refine mbM ["self"] F0 fun Sc0=>F0.ok Sc0 (fun vs H Q E h=>?_) fun cdv A outer s H vs Q E hr h=>?_
 ·obtain⟨p,S,o,rfl,_⟩:=h
  rfl
 obtain⟨p,S,o,rfl,⟨nw,ob,os,bd,st,dj,wf,inc,al⟩,q⟩:=h
 have nd:=Sc0.nd
 refine⟨_,(aG (aL (uB (R:=fun C sp=>(C = CA.free∧sp = spShown CA 0)∨(C = CA.speaks∧sp = spShown CA 1)∨(C = CA.reads∧sp = spShown CA 2)∨(C = CA.intail∧sp = spShown CA 3)∨(C = CA.flag∧sp = spShown CA 4)∨(C = CA.settles∧sp = spShown CA 5)∨(C = CA.rests∧sp = spShown CA 6)∨(C = CA.off∧sp = spShown CA 7)) (k:=2) (by
  rintro C sp (⟨rfl,rfl⟩ | ⟨rfl,rfl⟩ | ⟨rfl,rfl⟩ | ⟨rfl,rfl⟩ | ⟨rfl,rfl⟩ | ⟨rfl,rfl⟩ | ⟨rfl,rfl⟩ | ⟨rfl,rfl⟩)
  ·exact⟨_,_,_,Zt,ZbY,ZcK.1.mono (by decide),ZcK.2⟩
  ·exact⟨_,_,_,Zg,Zbt,Zcj.1.mono (by decide),Zcj.2⟩
  ·exact⟨_,_,_,Zr,ZbP,Zcv.1.mono (by decide),Zcv.2⟩
  ·exact⟨_,_,_,Zk,Zbn,Zcd.1.mono (by decide),Zcd.2⟩
  ·exact⟨_,_,_,Zm,Za3,Zbg.1.mono (by decide),Zbg.2⟩
  ·exact⟨_,_,_,ZA,Zbc,ZbI.1.mono (by decide),ZbI.2⟩
  ·exact⟨_,_,_,Zx,ZbQ,Zcw.1.mono (by decide),Zcw.2⟩
  ·exact⟨_,_,_,ZaK,Zcn,Zc7.1.mono (by decide),Zc7.2⟩) (hr.mono (by decide)) aN (aV Za ZK (dv 0))))),?_⟩
 obtain⟨dp,ch,wl,ul,ct,ws,us,b⟩:=id bd
 have sa:=st.at_
 cases en:S.now with
 | free k=>
  rw [en] at sa
  obtain⟨dd,hS⟩:=sa
  exact⟨dp,_,.ref nw,b.e,rfl,CA.free,dd,_,_,hS,rfl,.inl ⟨rfl,rfl⟩,nw,S,os,rfl,(by rw [en];rfl),st,q⟩
 | speaks n ds k=>
  rw [en] at sa
  obtain⟨dd,wa,r,st2,ks,t0,hS,_⟩:=sa
  exact⟨dp,_,.ref nw,b.e,rfl,CA.speaks,dd,_,_,hS,rfl,.inr (.inl ⟨rfl,rfl⟩),nw,S,os,rfl,(by rw [en];rfl),st,q⟩
 | reads h=>
  rw [en] at sa
  obtain⟨dd,r,st2,ks,t0,hS,_⟩:=sa
  exact⟨dp,_,.ref nw,b.e,rfl,CA.reads,dd,_,_,hS,rfl,.inr (.inr (.inl ⟨rfl,rfl⟩)),nw,S,os,rfl,(by rw [en];rfl),st,q⟩
 | tlS v c=>
  rw [en] at sa
  obtain⟨dd,tl,hS,_⟩:=sa
  exact⟨dp,_,.ref nw,b.e,rfl,CA.intail,dd,_,_,hS,rfl,.inr (.inr (.inr (.inl ⟨rfl,rfl⟩))),nw,S,os,rfl,(by rw [en];rfl),st,q⟩
 | tlR n ds v c=>
  rw [en] at sa
  obtain⟨dd,tl,tf,df,hS,_⟩:=sa
  exact⟨dp,_,.ref nw,b.e,rfl,CA.intail,dd,_,_,hS,rfl,.inr (.inr (.inr (.inl ⟨rfl,rfl⟩))),nw,S,os,rfl,(by rw [en];rfl),st,q⟩
 | flag l m=>
  rw [en] at sa
  obtain⟨dd,hS⟩:=sa
  exact⟨dp,_,.ref nw,b.e,rfl,CA.flag,dd,_,_,hS,rfl,.inr (.inr (.inr (.inr (.inl ⟨rfl,rfl⟩)))),nw,S,os,rfl,(by rw [en];rfl),st,q⟩
 | settles m=>
  rw [en] at sa
  obtain⟨dd,hS⟩:=sa
  exact⟨dp,_,.ref nw,b.e,rfl,CA.settles,dd,_,_,hS,rfl,.inr (.inr (.inr (.inr (.inr (.inl ⟨rfl,rfl⟩))))),nw,S,os,rfl,(by rw [en];rfl),st,q⟩
 | rests l=>
  rw [en] at sa
  obtain⟨dd,hS⟩:=sa
  exact⟨dp,_,.ref nw,b.e,rfl,CA.rests,dd,_,_,hS,rfl,.inr (.inr (.inr (.inr (.inr (.inr (.inl ⟨rfl,rfl⟩)))))),nw,S,os,rfl,(by rw [en];rfl),st,q⟩
 | off=>
  rw [en] at sa
  obtain⟨dd,hS⟩:=sa
  exact⟨dp,_,.ref nw,b.e,rfl,CA.off,dd,_,_,hS,rfl,.inr (.inr (.inr (.inr (.inr (.inr (.inr (⟨rfl,rfl⟩))))))),nw,S,os,rfl,(by rw [en];rfl),st,q⟩
variable (Zb5:MB P w K mg base (CX0) 4 Ze5 ZjK ["self"] (spPoSays CA))
include Zt Zg Zr Zk Zm ZA Zx Za ZaK Zas ZbR Zb0 ZbL Za9 Zbr Zb2 ZcC ZK ZaY Zcx ZcM Zcq ZbE Zch ZcO Zdr in
theorem Zma (F0:Fun K "says" "Post.says" Zj6 Ze5 ZjK):type_of% Zb5:=by
 refine mbM ["self"] F0 fun Sc0=>F0.ok Sc0 (fun vs H Q E h=>?_) fun cdv A outer s H vs Q E hr h=>?_
 ·obtain⟨p,S,o,rfl,_⟩:=h
  rfl
 obtain⟨p,S,o,rfl,⟨nw,ob,os,bd,st,dj,wf,inc,al⟩,q⟩:=h
 have nd:=Sc0.nd
 refine⟨_,(aG (aL (pP (R:=fun C sp=>(C = CA.free∧sp = spStSays CA 0)∨(C = CA.speaks∧sp = spStSays CA 1)∨(C = CA.reads∧sp = spStSays CA 2)∨(C = CA.intail∧sp = spStSays CA 3)∨(C = CA.flag∧sp = spStSays CA 4)∨(C = CA.settles∧sp = spStSays CA 5)∨(C = CA.rests∧sp = spStSays CA 6)∨(C = CA.off∧sp = spStSays CA 7)) (k:=3) (by
  rintro C sp (⟨rfl,rfl⟩ | ⟨rfl,rfl⟩ | ⟨rfl,rfl⟩ | ⟨rfl,rfl⟩ | ⟨rfl,rfl⟩ | ⟨rfl,rfl⟩ | ⟨rfl,rfl⟩ | ⟨rfl,rfl⟩)
  ·exact⟨_,_,_,Zt,Zas,ZaY.1.mono (by decide),ZaY.2⟩
  ·exact⟨_,_,_,Zg,ZbR,Zcx.1.mono (by decide),Zcx.2⟩
  ·exact⟨_,_,_,Zr,Zb0,ZcM.1.mono (by decide),ZcM.2⟩
  ·exact⟨_,_,_,Zk,ZbL,Zcq.1.mono (by decide),Zcq.2⟩
  ·exact⟨_,_,_,Zm,Za9,ZbE.1.mono (by decide),ZbE.2⟩
  ·exact⟨_,_,_,ZA,Zbr,Zch.1.mono (by decide),Zch.2⟩
  ·exact⟨_,_,_,Zx,Zb2,ZcO.1.mono (by decide),ZcO.2⟩
  ·exact⟨_,_,_,ZaK,ZcC,Zdr.1.mono (by decide),Zdr.2⟩) (hr.mono (by decide)) aN (aV Za ZK (dv 0)) (aA (dv 0) aF)))),?_⟩
 obtain⟨dp,ch,wl,ul,ct,ws,us,b⟩:=id bd
 have sa:=st.at_
 cases en:S.now with
 | free k=>
  rw [en] at sa
  obtain⟨dd,hS⟩:=sa
  exact⟨dp,_,.ref nw,b.e,rfl,CA.free,dd,_,_,hS,rfl,.inl ⟨rfl,rfl⟩,nw,p,nw,S,ob,os,rfl,(by rw [en];rfl),bd,st,wf,q⟩
 | speaks n ds k=>
  rw [en] at sa
  obtain⟨dd,wa,r,st2,ks,t0,hS,_⟩:=sa
  exact⟨dp,_,.ref nw,b.e,rfl,CA.speaks,dd,_,_,hS,rfl,.inr (.inl ⟨rfl,rfl⟩),nw,p,nw,S,ob,os,rfl,(by rw [en];rfl),bd,st,wf,q⟩
 | reads h=>
  rw [en] at sa
  obtain⟨dd,r,st2,ks,t0,hS,_⟩:=sa
  exact⟨dp,_,.ref nw,b.e,rfl,CA.reads,dd,_,_,hS,rfl,.inr (.inr (.inl ⟨rfl,rfl⟩)),nw,p,nw,S,ob,os,rfl,(by rw [en];rfl),bd,st,wf,q⟩
 | tlS v c=>
  rw [en] at sa
  obtain⟨dd,tl,hS,_⟩:=sa
  exact⟨dp,_,.ref nw,b.e,rfl,CA.intail,dd,_,_,hS,rfl,.inr (.inr (.inr (.inl ⟨rfl,rfl⟩))),nw,p,nw,S,ob,os,rfl,(by rw [en];rfl),bd,st,wf,q⟩
 | tlR n ds v c=>
  rw [en] at sa
  obtain⟨dd,tl,tf,df,hS,_⟩:=sa
  exact⟨dp,_,.ref nw,b.e,rfl,CA.intail,dd,_,_,hS,rfl,.inr (.inr (.inr (.inl ⟨rfl,rfl⟩))),nw,p,nw,S,ob,os,rfl,(by rw [en];rfl),bd,st,wf,q⟩
 | flag l m=>
  rw [en] at sa
  obtain⟨dd,hS⟩:=sa
  exact⟨dp,_,.ref nw,b.e,rfl,CA.flag,dd,_,_,hS,rfl,.inr (.inr (.inr (.inr (.inl ⟨rfl,rfl⟩)))),nw,p,nw,S,ob,os,rfl,(by rw [en];rfl),bd,st,wf,q⟩
 | settles m=>
  rw [en] at sa
  obtain⟨dd,hS⟩:=sa
  exact⟨dp,_,.ref nw,b.e,rfl,CA.settles,dd,_,_,hS,rfl,.inr (.inr (.inr (.inr (.inr (.inl ⟨rfl,rfl⟩))))),nw,p,nw,S,ob,os,rfl,(by rw [en];rfl),bd,st,wf,q⟩
 | rests l=>
  rw [en] at sa
  obtain⟨dd,hS⟩:=sa
  exact⟨dp,_,.ref nw,b.e,rfl,CA.rests,dd,_,_,hS,rfl,.inr (.inr (.inr (.inr (.inr (.inr (.inl ⟨rfl,rfl⟩)))))),nw,p,nw,S,ob,os,rfl,(by rw [en];rfl),bd,st,wf,q⟩
 | off=>
  rw [en] at sa
  obtain⟨dd,hS⟩:=sa
  exact⟨dp,_,.ref nw,b.e,rfl,CA.off,dd,_,_,hS,rfl,.inr (.inr (.inr (.inr (.inr (.inr (.inr (⟨rfl,rfl⟩))))))),nw,p,nw,S,ob,os,rfl,(by rw [en];rfl),bd,st,wf,q⟩
variable (Zc8:MB P w K mg base (CX0) 9 Ze3 ZjI ["self","bit"] (spPoHear CA))
include Zau ZH Zu Zt Zg Zr Zk Zm ZA Zx Za ZaK Zcm ZbS Zb1 ZbM Zba Zbs Zb3 ZcD ZK Zds ZbF Zci ZcP Zc6 ZcN Zcy Zcr in
theorem Zl8 (F0:Fun K "hear" "Post.hear" Zj4 Ze3 ZjI):type_of% Zc8:=by
 refine mbM ["self","bit","told"] F0 fun Sc0=>F0.ok Sc0 (fun vs H Q E h=>?_) fun cdv A outer s H vs Q E hr h=>?_
 ·obtain⟨p,S,o,bt,rfl,_⟩:=h
  rfl
 obtain⟨p,S,o,bt,rfl,⟨nw,ob,os,bd,st,dj,wf,inc,al⟩,hb,hu,q⟩:=h
 have nd:=Sc0.nd
 refine⟨_,(aD (aZ (i:=2) nd rfl (Or.inl rfl) (pP (R:=fun C sp=>(C = CA.free∧sp = spStStep CA 0)∨(C = CA.speaks∧sp = spStStep CA 1)∨(C = CA.reads∧sp = spStStep CA 2)∨(C = CA.intail∧sp = spStStep CA 3)∨(C = CA.flag∧sp = spStStep CA 4)∨(C = CA.settles∧sp = spStStep CA 5)∨(C = CA.rests∧sp = spStStep CA 6)∨(C = CA.off∧sp = spStStep CA 7)) (k:=8) (by
  rintro C sp (⟨rfl,rfl⟩ | ⟨rfl,rfl⟩ | ⟨rfl,rfl⟩ | ⟨rfl,rfl⟩ | ⟨rfl,rfl⟩ | ⟨rfl,rfl⟩ | ⟨rfl,rfl⟩ | ⟨rfl,rfl⟩)
  ·exact⟨_,_,_,Zt,Zcm,Zc6.1.mono (by decide),Zc6.2⟩
  ·exact⟨_,_,_,Zg,ZbS,Zcy.1.mono (by decide),Zcy.2⟩
  ·exact⟨_,_,_,Zr,Zb1,ZcN.1.mono (by decide),ZcN.2⟩
  ·exact⟨_,_,_,Zk,ZbM,Zcr.1.mono (by decide),Zcr.2⟩
  ·exact⟨_,_,_,Zm,Zba,ZbF.1.mono (by decide),ZbF.2⟩
  ·exact⟨_,_,_,ZA,Zbs,Zci.1.mono (by decide),Zci.2⟩
  ·exact⟨_,_,_,Zx,Zb3,ZcP.1.mono (by decide),ZcP.2⟩
  ·exact⟨_,_,_,ZaK,ZcD,Zds.1.mono (by decide),Zds.2⟩) (hr.mono (by decide)) aN (aV Za ZK (dv 0)) (aA (dv 1) (aA (dv 0) aF)))) (aD (bY Za ZK (dv 0) (aW dF (dv 2) aC (fun _ _=>rfl))) (aG (aL (aW dF (dv 2) aC (fun _ _=>rfl)))))),?_⟩
 obtain⟨dp,ch,wl,ul,ct,ws,us,b⟩:=id bd
 have sa:=st.at_
 cases en:S.now with
 | free k=>
  rw [en] at sa
  obtain⟨dd,hS⟩:=sa
  refine⟨dp,_,.ref nw,b.e,rfl,CA.free,dd,_,_,hS,rfl,.inl ⟨rfl,rfl⟩,nw,p,nw,S,ob,os,bt,rfl,(by rw [en];rfl),bd,st,dj,wf,hb,hu,fun t H' hs=>?_⟩
  obtain⟨nw',ob',os',et,b',s',dj',mv⟩:=hs
  obtain⟨dp',ch',wl',ul',ct',ws',us',bb⟩:=id b'
  refine⟨_,_,SqT.of et,rfl,dp',_,bb.e,(show 6 < 1000 by decide),?_⟩
  obtain⟨hp1,hp2⟩:=cU (A:=CA) wf hb b' s' dj' bb
  have et':upd H' p (.ins CA.post dp' (pF ch' (hearP S bt).2.vt wl' ul' ct' nw')) t = some (.tup [.str (hearP S bt).1,.ref nw']):=by rw [aK (fun z=>by rw [z,bb.e] at et;cases et)];exact et
  exact⟨_,_,SqT.of et',rfl,q _ (Or2 ob' os') hp1 ⟨fun x v ex z=>hp2 x v (mv.1 x v ex (z.imp_left fun y w=>y (inc x w))) (z.imp_left fun y w=>y (by have w':x = p:=w;rw [w'];exact inc p (.inl bd.op))),fun x hx=>(mv.2 x hx).imp_left (inc x)⟩⟩
 | speaks n ds k=>
  rw [en] at sa
  obtain⟨dd,wa,r,st2,ks,t0,hS,_⟩:=sa
  refine⟨dp,_,.ref nw,b.e,rfl,CA.speaks,dd,_,_,hS,rfl,.inr (.inl ⟨rfl,rfl⟩),nw,p,nw,S,ob,os,bt,rfl,(by rw [en];rfl),bd,st,dj,wf,hb,hu,fun t H' hs=>?_⟩
  obtain⟨nw',ob',os',et,b',s',dj',mv⟩:=hs
  obtain⟨dp',ch',wl',ul',ct',ws',us',bb⟩:=id b'
  refine⟨_,_,SqT.of et,rfl,dp',_,bb.e,(show 6 < 1000 by decide),?_⟩
  obtain⟨hp1,hp2⟩:=cU (A:=CA) wf hb b' s' dj' bb
  have et':upd H' p (.ins CA.post dp' (pF ch' (hearP S bt).2.vt wl' ul' ct' nw')) t = some (.tup [.str (hearP S bt).1,.ref nw']):=by rw [aK (fun z=>by rw [z,bb.e] at et;cases et)];exact et
  exact⟨_,_,SqT.of et',rfl,q _ (Or2 ob' os') hp1 ⟨fun x v ex z=>hp2 x v (mv.1 x v ex (z.imp_left fun y w=>y (inc x w))) (z.imp_left fun y w=>y (by have w':x = p:=w;rw [w'];exact inc p (.inl bd.op))),fun x hx=>(mv.2 x hx).imp_left (inc x)⟩⟩
 | reads h=>
  rw [en] at sa
  obtain⟨dd,r,st2,ks,t0,hS,_⟩:=sa
  refine⟨dp,_,.ref nw,b.e,rfl,CA.reads,dd,_,_,hS,rfl,.inr (.inr (.inl ⟨rfl,rfl⟩)),nw,p,nw,S,ob,os,bt,rfl,(by rw [en];rfl),bd,st,dj,wf,hb,hu,fun t H' hs=>?_⟩
  obtain⟨nw',ob',os',et,b',s',dj',mv⟩:=hs
  obtain⟨dp',ch',wl',ul',ct',ws',us',bb⟩:=id b'
  refine⟨_,_,SqT.of et,rfl,dp',_,bb.e,(show 6 < 1000 by decide),?_⟩
  obtain⟨hp1,hp2⟩:=cU (A:=CA) wf hb b' s' dj' bb
  have et':upd H' p (.ins CA.post dp' (pF ch' (hearP S bt).2.vt wl' ul' ct' nw')) t = some (.tup [.str (hearP S bt).1,.ref nw']):=by rw [aK (fun z=>by rw [z,bb.e] at et;cases et)];exact et
  exact⟨_,_,SqT.of et',rfl,q _ (Or2 ob' os') hp1 ⟨fun x v ex z=>hp2 x v (mv.1 x v ex (z.imp_left fun y w=>y (inc x w))) (z.imp_left fun y w=>y (by have w':x = p:=w;rw [w'];exact inc p (.inl bd.op))),fun x hx=>(mv.2 x hx).imp_left (inc x)⟩⟩
 | tlS v c=>
  rw [en] at sa
  obtain⟨dd,tl,hS,_⟩:=sa
  refine⟨dp,_,.ref nw,b.e,rfl,CA.intail,dd,_,_,hS,rfl,.inr (.inr (.inr (.inl ⟨rfl,rfl⟩))),nw,p,nw,S,ob,os,bt,rfl,(by rw [en];rfl),bd,st,dj,wf,hb,hu,fun t H' hs=>?_⟩
  obtain⟨nw',ob',os',et,b',s',dj',mv⟩:=hs
  obtain⟨dp',ch',wl',ul',ct',ws',us',bb⟩:=id b'
  refine⟨_,_,SqT.of et,rfl,dp',_,bb.e,(show 6 < 1000 by decide),?_⟩
  obtain⟨hp1,hp2⟩:=cU (A:=CA) wf hb b' s' dj' bb
  have et':upd H' p (.ins CA.post dp' (pF ch' (hearP S bt).2.vt wl' ul' ct' nw')) t = some (.tup [.str (hearP S bt).1,.ref nw']):=by rw [aK (fun z=>by rw [z,bb.e] at et;cases et)];exact et
  exact⟨_,_,SqT.of et',rfl,q _ (Or2 ob' os') hp1 ⟨fun x v ex z=>hp2 x v (mv.1 x v ex (z.imp_left fun y w=>y (inc x w))) (z.imp_left fun y w=>y (by have w':x = p:=w;rw [w'];exact inc p (.inl bd.op))),fun x hx=>(mv.2 x hx).imp_left (inc x)⟩⟩
 | tlR n ds v c=>
  rw [en] at sa
  obtain⟨dd,tl,tf,df,hS,_⟩:=sa
  refine⟨dp,_,.ref nw,b.e,rfl,CA.intail,dd,_,_,hS,rfl,.inr (.inr (.inr (.inl ⟨rfl,rfl⟩))),nw,p,nw,S,ob,os,bt,rfl,(by rw [en];rfl),bd,st,dj,wf,hb,hu,fun t H' hs=>?_⟩
  obtain⟨nw',ob',os',et,b',s',dj',mv⟩:=hs
  obtain⟨dp',ch',wl',ul',ct',ws',us',bb⟩:=id b'
  refine⟨_,_,SqT.of et,rfl,dp',_,bb.e,(show 6 < 1000 by decide),?_⟩
  obtain⟨hp1,hp2⟩:=cU (A:=CA) wf hb b' s' dj' bb
  have et':upd H' p (.ins CA.post dp' (pF ch' (hearP S bt).2.vt wl' ul' ct' nw')) t = some (.tup [.str (hearP S bt).1,.ref nw']):=by rw [aK (fun z=>by rw [z,bb.e] at et;cases et)];exact et
  exact⟨_,_,SqT.of et',rfl,q _ (Or2 ob' os') hp1 ⟨fun x v ex z=>hp2 x v (mv.1 x v ex (z.imp_left fun y w=>y (inc x w))) (z.imp_left fun y w=>y (by have w':x = p:=w;rw [w'];exact inc p (.inl bd.op))),fun x hx=>(mv.2 x hx).imp_left (inc x)⟩⟩
 | flag l m=>
  rw [en] at sa
  obtain⟨dd,hS⟩:=sa
  refine⟨dp,_,.ref nw,b.e,rfl,CA.flag,dd,_,_,hS,rfl,.inr (.inr (.inr (.inr (.inl ⟨rfl,rfl⟩)))),nw,p,nw,S,ob,os,bt,rfl,(by rw [en];rfl),bd,st,dj,wf,hb,hu,fun t H' hs=>?_⟩
  obtain⟨nw',ob',os',et,b',s',dj',mv⟩:=hs
  obtain⟨dp',ch',wl',ul',ct',ws',us',bb⟩:=id b'
  refine⟨_,_,SqT.of et,rfl,dp',_,bb.e,(show 6 < 1000 by decide),?_⟩
  obtain⟨hp1,hp2⟩:=cU (A:=CA) wf hb b' s' dj' bb
  have et':upd H' p (.ins CA.post dp' (pF ch' (hearP S bt).2.vt wl' ul' ct' nw')) t = some (.tup [.str (hearP S bt).1,.ref nw']):=by rw [aK (fun z=>by rw [z,bb.e] at et;cases et)];exact et
  exact⟨_,_,SqT.of et',rfl,q _ (Or2 ob' os') hp1 ⟨fun x v ex z=>hp2 x v (mv.1 x v ex (z.imp_left fun y w=>y (inc x w))) (z.imp_left fun y w=>y (by have w':x = p:=w;rw [w'];exact inc p (.inl bd.op))),fun x hx=>(mv.2 x hx).imp_left (inc x)⟩⟩
 | settles m=>
  rw [en] at sa
  obtain⟨dd,hS⟩:=sa
  refine⟨dp,_,.ref nw,b.e,rfl,CA.settles,dd,_,_,hS,rfl,.inr (.inr (.inr (.inr (.inr (.inl ⟨rfl,rfl⟩))))),nw,p,nw,S,ob,os,bt,rfl,(by rw [en];rfl),bd,st,dj,wf,hb,hu,fun t H' hs=>?_⟩
  obtain⟨nw',ob',os',et,b',s',dj',mv⟩:=hs
  obtain⟨dp',ch',wl',ul',ct',ws',us',bb⟩:=id b'
  refine⟨_,_,SqT.of et,rfl,dp',_,bb.e,(show 6 < 1000 by decide),?_⟩
  obtain⟨hp1,hp2⟩:=cU (A:=CA) wf hb b' s' dj' bb
  have et':upd H' p (.ins CA.post dp' (pF ch' (hearP S bt).2.vt wl' ul' ct' nw')) t = some (.tup [.str (hearP S bt).1,.ref nw']):=by rw [aK (fun z=>by rw [z,bb.e] at et;cases et)];exact et
  exact⟨_,_,SqT.of et',rfl,q _ (Or2 ob' os') hp1 ⟨fun x v ex z=>hp2 x v (mv.1 x v ex (z.imp_left fun y w=>y (inc x w))) (z.imp_left fun y w=>y (by have w':x = p:=w;rw [w'];exact inc p (.inl bd.op))),fun x hx=>(mv.2 x hx).imp_left (inc x)⟩⟩
 | rests l=>
  rw [en] at sa
  obtain⟨dd,hS⟩:=sa
  refine⟨dp,_,.ref nw,b.e,rfl,CA.rests,dd,_,_,hS,rfl,.inr (.inr (.inr (.inr (.inr (.inr (.inl ⟨rfl,rfl⟩)))))),nw,p,nw,S,ob,os,bt,rfl,(by rw [en];rfl),bd,st,dj,wf,hb,hu,fun t H' hs=>?_⟩
  obtain⟨nw',ob',os',et,b',s',dj',mv⟩:=hs
  obtain⟨dp',ch',wl',ul',ct',ws',us',bb⟩:=id b'
  refine⟨_,_,SqT.of et,rfl,dp',_,bb.e,(show 6 < 1000 by decide),?_⟩
  obtain⟨hp1,hp2⟩:=cU (A:=CA) wf hb b' s' dj' bb
  have et':upd H' p (.ins CA.post dp' (pF ch' (hearP S bt).2.vt wl' ul' ct' nw')) t = some (.tup [.str (hearP S bt).1,.ref nw']):=by rw [aK (fun z=>by rw [z,bb.e] at et;cases et)];exact et
  exact⟨_,_,SqT.of et',rfl,q _ (Or2 ob' os') hp1 ⟨fun x v ex z=>hp2 x v (mv.1 x v ex (z.imp_left fun y w=>y (inc x w))) (z.imp_left fun y w=>y (by have w':x = p:=w;rw [w'];exact inc p (.inl bd.op))),fun x hx=>(mv.2 x hx).imp_left (inc x)⟩⟩
 | off=>
  rw [en] at sa
  obtain⟨dd,hS⟩:=sa
  refine⟨dp,_,.ref nw,b.e,rfl,CA.off,dd,_,_,hS,rfl,.inr (.inr (.inr (.inr (.inr (.inr (.inr (⟨rfl,rfl⟩))))))),nw,p,nw,S,ob,os,bt,rfl,(by rw [en];rfl),bd,st,dj,wf,hb,hu,fun t H' hs=>?_⟩
  obtain⟨nw',ob',os',et,b',s',dj',mv⟩:=hs
  obtain⟨dp',ch',wl',ul',ct',ws',us',bb⟩:=id b'
  refine⟨_,_,SqT.of et,rfl,dp',_,bb.e,(show 6 < 1000 by decide),?_⟩
  obtain⟨hp1,hp2⟩:=cU (A:=CA) wf hb b' s' dj' bb
  have et':upd H' p (.ins CA.post dp' (pF ch' (hearP S bt).2.vt wl' ul' ct' nw')) t = some (.tup [.str (hearP S bt).1,.ref nw']):=by rw [aK (fun z=>by rw [z,bb.e] at et;cases et)];exact et
  exact⟨_,_,SqT.of et',rfl,q _ (Or2 ob' os') hp1 ⟨fun x v ex z=>hp2 x v (mv.1 x v ex (z.imp_left fun y w=>y (inc x w))) (z.imp_left fun y w=>y (by have w':x = p:=w;rw [w'];exact inc p (.inl bd.op))),fun x hx=>(mv.2 x hx).imp_left (inc x)⟩⟩
theorem a2R (S:PS) (b:Int):(hearP S b).2.up.length≤S.up.length + 1:=by
 have hg:∀st w nx,(goneP S st w nx).2.up = S.up:=fun st w nx=>by unfold goneP;split <;> rfl
 have h1:∀sp,(faultP S sp).2.up.length≤S.up.length + 1:=fun sp=>by unfold faultP;rw [hg];omega
 have h2:∀sp,(refuseP S sp).2.up.length≤S.up.length + 1:=fun sp=>by unfold refuseP;rw [hg];omega
 have h3:(blameP S).2.up.length≤S.up.length + 1:=by unfold blameP;rw [hg];omega
 have h0:S.up.length≤S.up.length + 1:=Nat.le_succ _
 cases en:S.now with
 | free k=>
  rw [gR en]
  split
  ·split
   ·exact h0
   ·exact h1 _
  ·split
   ·exact h0
   ·exact h0
 | speaks n ds k=>
  rw [fJ en]
  split
  ·exact h1 _
  split
  ·exact h0
  split
  ·split
   ·exact h0
   ·exact h0
  ·exact h1 _
 | reads h=>
  rw [gA en]
  split
  ·exact h0
  split
  ·exact h0
  ·exact h1 _
 | tlS v c=>
  rw [iR en]
  split
  ·exact h0
  split
  ·exact h1 _
  split
  ·exact h2 _
  ·exact h0
 | tlR n ds v c=>
  rw [iT en]
  split
  ·exact h0
  split
  ·exact h1 _
  split
  ·exact h2 _
  ·show (if wantP S n = true then S.up ++ [(n,ds)] else S.up).length≤_
   split
   ·rw [List.length_append];exact Nat.le_refl _
   ·exact h0
 | flag l m=>
  rw [gU en]
  split
  ·exact h0
  ·exact h0
 | settles m=>
  rw [eO en]
  split
  ·exact h0
  split
  ·exact h3
  ·exact h0
 | rests l=>
  rw [fZ en]
  split
  ·exact h1 _
  ·exact h0
 | off=>
  rw [iU en]
  exact h0
def spWhole:Sp:=fun vs H Q _=>∃a b:Int,vs = [.int a,.int b]∧Q (.bl (decide (a = b))) H
def spStands (K:PySem.W.Frag):Sp:=fun vs H Q _=>∃(a b:Addr) (s:Str) (k:Nat),vs = [.ref a,.ref b]∧H a = some (.tup [.str s,.int ((k:Nat):Int)])∧H b = some (.tup [.str s,.int ((k:Nat):Int)])∧Q (.bl true) H
structure Lw (A:Cs) (H0 H:Hp) (p:Addr) (S:PS) (o:Own):Prop where
 same:Same H0 H
 fr:∀x,o x→H0 x = none
 po:PostAt A H p S o
theorem Lw.new {A:Cs} {H0 H H':Hp} {p:Addr} {S:PS} {o:Own} (h:Lw A H0 H p S o) (g:Same H H'):Lw A H0 H' p S o:=⟨h.same.trans g,h.fr,h.po.same g⟩
theorem Wf.hand {S:PS} {f:Fr} (h:Wf S) (hf:FrN f):Wf { S with wt:=S.wt ++ [f] }:=by
 refine⟨h.vt,fun g hg=>?_,?_⟩
 ·rcases List.mem_append.mp hg with z | z
  ·exact h.wt g z
  ·rw [List.mem_singleton.mp z];exact hf
 ·have hn:=h.now
  have hne:S.wt ++ [f]≠ []:=by intro z;have:=(List.append_eq_nil_iff.mp z).2;cases this
  show Stc.Wf (S.wt ++ [f]) S.now
  revert hn
  cases S.now with
  | speaks n ds k=>exact fun ⟨a,b,c,d⟩=>⟨a,b,c,hne⟩
  | tlS v c=>exact fun _=>hne
  | free k=>exact fun z=>z
  | reads h=>exact fun z=>z
  | tlR n ds v c=>exact fun z=>z
  | flag l m=>exact fun z=>z
  | settles m=>exact fun z=>z
  | rests l=>exact fun z=>z
  | off=>exact fun z=>z
theorem PostAt.hand {A:Cs} {H:Hp} {p:Addr} {S:PS} {o:Own} (h:PostAt A H p S o):∃nw ob,Bd A H p nw S ob∧∀{n:Int} {ds:List Int},FrOk n ds→∀H' d,H d = none→Bd A H' p nw { S with wt:=S.wt ++ [(n.toNat,ds)] } (Or2 ob fun x=>x = d)→Keep ob H H'→∃o',PostAt A H' p { S with wt:=S.wt ++ [(n.toNat,ds)] } o'∧Mv o H o' H':=by
 obtain⟨nw,ob,os,bd,st,dj,wf,inc,al⟩:=h
 refine⟨nw,ob,bd,fun {n ds} ok H' d hd b' k=>?_⟩
 have hb:=eV.mp ok.1
 have hf:FrN (n.toNat,ds):=⟨by show n.toNat < 256;omega,ok.2.1,ok.2.2⟩
 have s':StW A H' nw S os:=st.move fun x v e z=>k x v e (z.imp_left fun y w=>dj x w y)
 refine⟨Or2 o fun x=>x = d,⟨nw,Or2 ob fun x=>x = d,os,b',⟨s'.at_,s'.on,s'.al⟩,?_,wf.hand hf,?_,?_⟩,k.le fun x hx=>inc x (.inl hx),fun x hx=>?_⟩
 ·rintro x (hx | hx) hy
  ·exact dj x hx hy
  ·have hx':x = d:=hx
   rw [hx'] at hy
   exact al d (inc d (.inr hy)) hd
 ·rintro x ((hx | hx) | hx)
  ·exact .inl (inc x (.inl hx))
  ·exact .inr hx
  ·exact .inl (inc x (.inr hx))
 ·rintro x (hx | hx)
  ·rcases Classical.em (ob x) with c | c
   ·exact b'.al x (.inl c)
   ·cases e:H x with
    | none=>exact absurd e (al x hx)
    | some v=>rw [k x v e (.inl c)];simp
  ·exact b'.al x (.inr hx)
 ·rcases hx with hx | hx
  ·exact .inl hx
  ·have hx':x = d:=hx
   rw [hx'];exact .inr hd
theorem zJ {A:Cs} {H H1 H':Hp} {p dp:Addr} {v:HO} {S:PS} {o:Own} (g:Same H H1) (hp:H1 p = none) (hdp:H1 dp = none) (hP:PostAt A H' p S o) (hin:∀x,o x→x = p∨upd (upd H1 dp (.own p)) p v x = none) (hk:∀x u,x≠p→upd (upd H1 dp (.own p)) p v x = some u→H' x = some u):Lw A H H' p S o∧Same H1 H':=by
 have s1:Same H1 H':=fun x u e=>hk x u (aX e hp) (by rw [aK (aX e hp),aK (aX e hdp)];exact e)
 refine⟨⟨g.trans s1,fun x hx=>?_,hP⟩,s1⟩
 rcases hin x hx with h | h
 ·rw [h];exact g.none hp
 ·refine g.none ?_
  by_cases c:x = p
  ·rw [c,aB] at h;cases h
  ·rw [aK c] at h
   by_cases d:x = dp
   ·rw [d,aB] at h;cases h
   ·rw [aK d] at h;exact h
theorem PostAt.bd {A:Cs} {H:Hp} {p:Addr} {S:PS} {o:Own} (h:PostAt A H p S o):∃nw ob,Bd A H p nw S ob:=let ⟨nw,ob,_,bd,_⟩:=h;⟨nw,ob,bd⟩
theorem PostAt.cell {A:Cs} {H:Hp} {p:Addr} {S:PS} {o:Own} (h:PostAt A H p S o):∃dx ch vt wl ul ct nw,H p = some (.ins A.post dx (pF ch vt wl ul ct nw)):=let ⟨nw,_,_,⟨dx,ch,wl,ul,ct,_,_,b⟩,_⟩:=h;⟨dx,ch,_,wl,ul,ct,nw,b.e⟩
def spWireT (K:PySem.W.Frag):Sp:=fun vs H Q _=>∃(f d:Addr) (n:Nat) (ds:List Int),vs = [.ref f]∧H f = some (.tup [.int ((n:Nat):Int),.ref d])∧H d = some (.lst (ds.map V.int))∧n < 256∧ds.length≤7∧ds.all byt = true∧∀p H',H p = none→Same H H'→H' p = some (.lst ((put (fb (n:Int) ds)).map V.int))→Q (.ref p) H'
theorem FrsNew.at_ {H H':Hp}:∀{ts:List V} {fs:List Fr},FrsNew H H' ts fs→FrsAt H' (fun _=>True) ts fs
 | _,_,.nil=> .nil
 | _,_,.cons _ _ a3 a4 r=> .cons ⟨_,a3,a4,trivial⟩ r.at_
def frD (f:Fr):PyData:= .tuple [.int ((f.1:Nat):Int),.list (f.2.map .int)]
theorem FrsAt.dvs {K:PySem.W.Frag} {H:Hp} {o:Own}:∀{ts:List V} {fs:List Fr},FrsAt H o ts fs→DVs K H ts (fs.map frD)
 | _,_,.nil=> .nil
 | _,_,.cons ⟨_,e1,e2,_⟩ r=> .cons (.tup (SqT.of e1) (.cons (.int _) (.cons (DV.ints (SqL.of e2)) .nil))) r.dvs
theorem lR (fs:List Fr):SeqAt.shaped (.list (fs.map frD)) = true:=yZ fun d hd=>by
 obtain⟨f,_,rfl⟩:=List.mem_map.mp hd
 have h:=lay_ints f.2
 have h2:=h.2
 unfold frD
 refine⟨?_,?_⟩
 ·simp only [PyData.canLay0,PyData.canLayAll0,Bool.true_and,Bool.and_true]
  have:=h.1
  simp only [PyData.canLay0] at this
  exact this
 ·have h3:=PySem.W.depthAll_ints f.2
  simp only [PyData.depth,PyData.depthAll]
  omega
structure FrL (H:Hp) (o:Own) (F:Addr) (fs:List Fr):Prop where
 no:¬ o F
 ex:∃xs,H F = some (.lst xs)∧FrsAt H (fun x=>¬ o x) xs fs
theorem yH {bs:List Int} (hb:Bits bs):∃c:List Int,cutV (bs.map V.int) (some (9:Int)) (some (12:Int)) = c.map V.int∧Bits c∧c.length≤3∧(12≤bs.length→nm c = szB bs):=by
 by_cases h:12≤bs.length
 ·exact⟨(bs.drop 9).take 3,iC rfl rfl (by omega),cZ hb 9 3,by rw [List.length_take];omega,fun _=>rfl⟩
 ·have e9:(9:Int) = ((9:Nat):Int):=rfl
  have e12:(12:Int) = ((12:Nat):Int):=rfl
  refine⟨(bs.drop (min 9 bs.length)).take (min 12 bs.length - min 9 bs.length),?_,cZ hb _ _,by rw [List.length_take];omega,fun z=>absurd z h⟩
  unfold cutV
  rw [e9,e12,HT.sIx_nat,HT.sIx_nat,List.length_map,List.map_take,List.map_drop]
theorem a0T {w:List Int} {n:Nat} (hn:0 < n) (hw:w≠ []):w.drop (w.length - n) = List.replicate n (w.getD (w.length - 1) 0)↔n≤run w:=by
 have rl:=qX w
 by_cases c:n≤w.length
 ·have sr:=rW (w:=w) (n:=n) (k:=w.length) hn c (Nat.le_refl _) rfl
  rw [List.take_of_length_le (l:=w) (Nat.le_refl _),List.take_of_length_le (l:=w.drop (w.length - n)) (by rw [List.length_drop];omega)] at sr
  exact sr
 ·constructor
  ·intro z
   have:=congrArg List.length z
   rw [List.length_drop,List.length_replicate] at this
   omega
  ·omega
theorem a0U {w:List Int} {b:Int} {n:Nat} (hn:0 < n):(w ++ [b]).drop ((w ++ [b]).length - n) = List.replicate n b↔n≤run (w ++ [b]):=by
 have h:=a0T (w:=w ++ [b]) hn (by simp)
 rw [getD_snoc] at h
 exact h
theorem yI {bs:List Int}:cutV (bs.map V.int) (some (-6:Int)) none = (bs.drop (bs.length - 6)).map V.int:=by
 unfold cutV
 have e:HT.sIx (bs.map V.int).length 0 (some (-6:Int)) = bs.length - 6:=by
  show (if (-6:Int) < 0 then ((-6:Int) + ((bs.map V.int).length:Int)).toNat else min (-6:Int).toNat (bs.map V.int).length) = bs.length - 6
  rw [if_pos (by decide),List.length_map]
  omega
 rw [e,HT.sIx_none,List.take_of_length_le (by rw [List.length_drop];exact Nat.le_refl _),List.map_drop]
abbrev lnw (s:Stc) (v2 v3:V) (m:Bool) (t:Int) (v6:V):List V:=[.str s.shown.1,.int ((s.shown.2:Nat):Int),v2,v3,.bl m,.int t,v6]
def Det (H:Hp) (lo:Own) (Qa Ga:Addr) (v2 v3:V) (m:Bool) (v6:V):Stc→Prop
 | .speaks n ds k=>∃a2 a3 a6,v2 = .ref a2∧v3 = .ref a3∧v6 = .ref a6∧H a2 = some (.lst (((wr n ds).take k).map V.int))∧H a3 = some (.lst ((kp ((wr n ds).take k)).map V.int))∧H a6 = some (.lst ((wr n ds).map V.int))∧lo a2∧lo a3∧lo a6∧a2≠a3∧a6≠a2∧a6≠a3∧a2≠Qa∧a2≠Ga∧a3≠Qa∧a3≠Ga∧a6≠Qa∧a6≠Ga
 | .reads h=>∃a2 a3,v2 = .ref a2∧v3 = .ref a3∧H a2 = some (.lst (h.map V.int))∧H a3 = some (.lst ((kp h).map V.int))∧lo a2∧lo a3∧a2≠a3∧a2≠Qa∧a2≠Ga∧a3≠Qa∧a3≠Ga
 | .tlS v c=>∃a2 u,v2 = .ref a2∧H a2 = some (.lst (u.map V.int))∧lo a2∧a2≠Qa∧a2≠Ga∧Bits u∧u.length = v∧(u.drop 9).count 0 = c∧v < 14
 | .tlR n ds v c=>∃a2 u a3 ks,v2 = .ref a2∧H a2 = some (.lst (u.map V.int))∧lo a2∧a2≠Qa∧a2≠Ga∧Bits u∧u.length = v∧(u.drop 9).count 0 = c∧v < 14∧v3 = .ref a3∧H a3 = some (.lst (ks.map V.int))∧lo a3∧a3≠a2∧a3≠Qa∧a3≠Ga∧Bits ks∧CmpB ks∧nmB ks = n∧daB ks = ds
 | .flag _ m'=>m = m'
 | .settles m'=>m = m'
 | _=>True
structure LawB (H:Hp) (lo Fz:Own) (N Qa Ga:Addr) (wt up:List Fr):Prop where
 en:∃w xs,H N = some (.lst (.str w :: xs))
 q:∃ts,H Qa = some (.lst ts)∧FrsAt H Fz ts wt
 g:∃us,H Ga = some (.lst us)∧FrsAt H Fz us up
 on:lo N
 oq:lo Qa
 og:lo Ga
 qg:Qa≠Ga
 nq:N≠Qa
 ng:N≠Ga
 al:∀x,lo x→H x≠none
 fz:∀x,Fz x→¬ lo x∧H x≠none
structure LawAt (H:Hp) (lo Fz:Own) (N Qa Ga:Addr) (S:PS):Prop where
 b:LawB H lo Fz N Qa Ga S.wt S.up
 ex:∃v2 v3 m v6,H N = some (.lst (lnw S.now v2 v3 m S.tot v6))∧Det H lo Qa Ga v2 v3 m v6 S.now
 t0:0≤S.tot
 t1:S.now≠ .off→S.tot < 18
theorem cM {w:Str} {vs:List V} {xs:List Int}:HO.lst (.str w :: vs)≠HO.lst (xs.map V.int):=fun z=>by
 have z2:(.str w :: vs) = xs.map V.int:=HO.lst.inj z
 cases xs with
 | nil=>cases z2
 | cons x r=>rw [List.map_cons] at z2;cases z2
theorem Det.move {H H':Hp} {lo lo':Own} {Qa Ga:Addr} {v2 v3:V} {m:Bool} {v6:V} {s:Stc} (h:Det H lo Qa Ga v2 v3 m v6 s) (g:∀x xs,lo x→x≠Qa→x≠Ga→H x = some (.lst (List.map V.int xs))→H' x = some (.lst (List.map V.int xs))) (l:∀x,lo x→lo' x):Det H' lo' Qa Ga v2 v3 m v6 s:=by
 revert h
 cases s with
 | speaks n ds k=>exact fun ⟨a2,a3,a6,e1,e2,e3,h2,h3,h6,o2,o3,o6,n1,n2,n3,n4,n5,n6,n7,n8,n9⟩=>⟨a2,a3,a6,e1,e2,e3,g _ _ o2 n4 n5 h2,g _ _ o3 n6 n7 h3,g _ _ o6 n8 n9 h6,l _ o2,l _ o3,l _ o6,n1,n2,n3,n4,n5,n6,n7,n8,n9⟩
 | reads w=>exact fun ⟨a2,a3,e1,e2,h2,h3,o2,o3,n1,n4,n5,n6,n7⟩=>⟨a2,a3,e1,e2,g _ _ o2 n4 n5 h2,g _ _ o3 n6 n7 h3,l _ o2,l _ o3,n1,n4,n5,n6,n7⟩
 | tlS v c=>exact fun ⟨a2,u,e1,h2,o2,n1,n2,r⟩=>⟨a2,u,e1,g _ _ o2 n1 n2 h2,l _ o2,n1,n2,r⟩
 | tlR n ds v c=>exact fun ⟨a2,u,a3,ks,e1,h2,o2,n1,n2,b1,b2,b3,b4,e3,h3,o3,n3,n4,n5,r⟩=>⟨a2,u,a3,ks,e1,g _ _ o2 n1 n2 h2,l _ o2,n1,n2,b1,b2,b3,b4,e3,g _ _ o3 n4 n5 h3,l _ o3,n3,n4,n5,r⟩
 | flag l m=>exact fun z=>z
 | settles m=>exact fun z=>z
 | free k=>exact fun z=>z
 | rests l=>exact fun z=>z
 | off=>exact fun z=>z
theorem LawB.move {H H':Hp} {lo Fz:Own} {N Qa Ga:Addr} {wt up:List Fr} (h:LawB H lo Fz N Qa Ga wt up) (g:∀x v,H x = some v→(lo x∨Fz x∨isT v)→H' x = some v):LawB H' lo Fz N Qa Ga wt up:=by
 obtain⟨⟨w,xs,eN⟩,⟨ts,eq,fq⟩,⟨us,eg,fg⟩,on,oq,og,qg,nq,ng,al,fz⟩:=h
 have ex:∀x,(lo x∨Fz x)→H x≠none→H' x≠none:=fun x hx n=>by
  cases e:H x with
  | none=>exact absurd e n
  | some v=>rw [g x v e (hx.imp id .inl)];simp
 exact⟨⟨w,xs,g _ _ eN (.inl on)⟩,⟨ts,g _ _ eq (.inl oq),fq.imp (fun x v e z=>g x v e (.inr z)) fun _ z=>z⟩,⟨us,g _ _ eg (.inl og),fg.imp (fun x v e z=>g x v e (.inr z)) fun _ z=>z⟩,on,oq,og,qg,nq,ng,fun x hx=>ex x (.inl hx) (al x hx),fun x hx=>⟨(fz x hx).1,ex x (.inr hx) (fz x hx).2⟩⟩
theorem LawAt.move {H H':Hp} {lo Fz:Own} {N Qa Ga:Addr} {S:PS} (h:LawAt H lo Fz N Qa Ga S) (g:∀x v,H x = some v→(lo x∨Fz x∨isT v)→H' x = some v):LawAt H' lo Fz N Qa Ga S:=
 let ⟨v2,v3,m,v6,eN,dt⟩:=h.ex
 ⟨h.b.move g,⟨v2,v3,m,v6,g _ _ eN (.inl h.b.on),dt.move (fun x xs o _ _ e=>g _ _ e (.inl o)) fun _ z=>z⟩,h.t0,h.t1⟩
theorem LawAt.same {H H':Hp} {lo Fz:Own} {N Qa Ga:Addr} {S:PS} (h:LawAt H lo Fz N Qa Ga S) (g:Same H H'):LawAt H' lo Fz N Qa Ga S:=h.move fun x v e _=>g x v e
theorem LawB.same {H H':Hp} {lo Fz:Own} {N Qa Ga:Addr} {wt up:List Fr} (h:LawB H lo Fz N Qa Ga wt up) (g:Same H H'):LawB H' lo Fz N Qa Ga wt up:=h.move fun x v e _=>g x v e
theorem lL {lo:Own} {H:Hp} {a:Addr} {o u:HO} (e:H a = some o) (h:lo a) (n:¬ isT o):Mv lo H lo (upd H a u):=⟨fun x v ex z=>by
 rw [aK]
 ·exact ex
 ·rintro rfl
  rcases z with z | z
  ·exact z h
  ·rw [e] at ex;cases ex;exact n z,fun _=> .inl⟩
theorem nZ {xs:List V}:¬ isT (.lst xs):=fun ⟨_,z⟩=>by cases z
theorem LawB.upd_ {H:Hp} {lo Fz:Own} {N Qa Ga a:Addr} {wt up:List Fr} {o:HO} (h:LawB H lo Fz N Qa Ga wt up) (ha:lo a) (hq:a≠Qa) (hg:a≠Ga) (hn:a≠N∨∃w xs,o = .lst (.str w :: xs)) (hT:∀v,H a = some v→¬ isT v):LawB (upd H a o) lo Fz N Qa Ga wt up:=by
 obtain⟨⟨w,xs,eN⟩,⟨ts,eq,fq⟩,⟨us,eg,fg⟩,on,oq,og,qg,nq,ng,al,fz⟩:=h
 have fN:∀x v,H x = some v→(Fz x∨isT v)→upd H a o x = some v:=fun x v e z=>by
  rw [aK]
  ·exact e
  ·rintro rfl
   rcases z with z | z
   ·exact(fz _ z).1 ha
   ·exact hT v e z
 have ex:∀x,H x≠none→upd H a o x≠none:=fun x n=>by
  by_cases c:x = a
  ·rw [c,aB];simp
  ·rw [aK c];exact n
 refine⟨?_,⟨ts,by rw [aK hq.symm];exact eq,fq.imp fN fun _ z=>z⟩,⟨us,by rw [aK hg.symm];exact eg,fg.imp fN fun _ z=>z⟩,on,oq,og,qg,nq,ng,fun x hx=>ex x (al x hx),fun x hx=>⟨(fz x hx).1,ex x (fz x hx).2⟩⟩
 rcases hn with hn | ⟨w',xs',rfl⟩
 ·exact⟨w,xs,by rw [aK hn.symm];exact eN⟩
 ·by_cases c:a = N
  ·exact⟨w',xs',by rw [c,aB]⟩
  ·exact⟨w,xs,by rw [aK (Ne.symm c)];exact eN⟩
theorem LawB.ints {H:Hp} {lo Fz:Own} {N Qa Ga a:Addr} {wt up:List Fr} {xs:List Int} {ys:List V} (h:LawB H lo Fz N Qa Ga wt up) (e:H a = some (.lst (xs.map V.int))) (ha:lo a) (hq:a≠Qa) (hg:a≠Ga):LawB (upd H a (.lst ys)) lo Fz N Qa Ga wt up∧a≠N:=by
 have hn:a≠N:=fun z=>by
  obtain⟨w,vs,eN⟩:=h.en
  rw [←z,e] at eN
  exact cM (Option.some.inj eN).symm
 exact⟨h.upd_ ha hq hg (.inl hn) fun v ev z=>by rw [e] at ev;cases ev;exact nZ z,hn⟩
theorem LawB.gain {H H':Hp} {lo Fz:Own} {N Qa Ga a:Addr} {wt up:List Fr} (h:LawB H lo Fz N Qa Ga wt up) (g:Same H H') (hn:H a = none) (he:H' a≠none):LawB H' (Or2 lo fun x=>x = a) Fz N Qa Ga wt up:=by
 obtain⟨en,q,g',on,oq,og,qg,nq,ng,al,fz⟩:=h.same g
 refine⟨en,q,g',.inl on,.inl oq,.inl og,qg,nq,ng,fun x hx=>?_,fun x hx=>⟨fun z=>?_,(fz x hx).2⟩⟩
 ·rcases hx with hx | hx
  ·exact al x hx
  ·rw [show x = a from hx];exact he
 ·rcases z with z | z
  ·exact(fz x hx).1 z
  ·rw [show x = a from z] at hx
   exact(h.fz a hx).2 hn
theorem LawB.row {H:Hp} {lo Fz:Own} {N Qa Ga:Addr} {S':PS} {v2 v3 v6:V} {m:Bool} (h:LawB H lo Fz N Qa Ga S'.wt S'.up) (d:Det H lo Qa Ga v2 v3 m v6 S'.now) (t0:0≤S'.tot) (t1:S'.now≠ .off→S'.tot < 18):LawAt (upd H N (.lst (lnw S'.now v2 v3 m S'.tot v6))) lo Fz N Qa Ga S':=by
 obtain⟨w,xs,eN⟩:=h.en
 refine⟨h.upd_ h.on h.nq h.ng (.inr ⟨_,_,rfl⟩) fun v ev z=>by rw [eN] at ev;cases ev;exact nZ z,⟨v2,v3,m,v6,aB,d.move (fun x xs o _ _ e=>?_) fun _ z=>z⟩,t0,t1⟩
 rw [aK]
 ·exact e
 ·rintro rfl
  rw [eN] at e
  exact cM (Option.some.inj e)
theorem LawB.mvN {H:Hp} {lo Fz:Own} {N Qa Ga:Addr} {wt up:List Fr} {o:HO} (h:LawB H lo Fz N Qa Ga wt up):Mv lo H lo (upd H N o):=by
 obtain⟨w,xs,eN⟩:=h.en
 exact lL eN h.on nZ
abbrev fT (t:Int) (sp:Bool):Int:=t + (if sp = true then 8 else 1)
def fltS (t:Int) (sp fl:Bool):Stc:=if 18≤fT t sp then .off else if fl = true then .flag 6 (!sp) else .settles false
def fltW (t:Int) (sp fl:Bool):Str:=if 18≤fT t sp then ("off":Str) else if fl = true then ("fault":Str) else ("refuses":Str)
def spFlt (K:PySem.W.Frag):Sp:=fun vs H Q _=>∃(N:Addr) (w:Str) (n:Int) (v2 v3 m v6:V) (t:Int) (sp fl:Bool),vs = [.ref N,.bl sp,.bl fl]∧H N = some (.lst [.str w,.int n,v2,v3,m,.int t,v6])∧∀H1,Same H H1→Q (.str (fltW t sp fl)) (upd H1 N (.lst (lnw (fltS t sp fl) v2 v3 (fl && !sp) (fT t sp) v6)))
theorem a0Q {t:Int} {sp:Bool} (h0:0≤t) (h1:t < 18):mvd t (if sp = true then 8 else 1) = fT t sp:=by
 unfold mvd
 rw [if_neg (by omega)]
 unfold fT
 split <;> omega
theorem LawB.flt {H:Hp} {lo Fz:Own} {N Qa Ga:Addr} {S:PS} {v2 v3 v6:V} {sp:Bool} (h:LawB H lo Fz N Qa Ga S.wt S.up) (h0:0≤S.tot) (h1:S.tot < 18):fltW S.tot sp true = (faultP S sp).1∧LawAt (upd H N (.lst (lnw (fltS S.tot sp true) v2 v3 (true && !sp) (fT S.tot sp) v6))) lo Fz N Qa Ga (faultP S sp).2:=by
 unfold faultP goneP fltW fltS
 rw [a0Q h0 h1]
 have hp:0≤fT S.tot sp:=by unfold fT;split <;> omega
 by_cases c:18≤fT S.tot sp
 ·rw [if_pos c,if_pos c,if_pos c]
  exact⟨rfl,LawB.row (S':={ S with tot:=fT S.tot sp,now:= .off }) h trivial hp fun z=>absurd rfl z⟩
 ·rw [if_neg c,if_neg c,if_neg c,if_pos rfl,if_pos rfl]
  exact⟨rfl,LawB.row (S':={ S with tot:=fT S.tot sp,now:= .flag 6 (!sp) }) h (Bool.true_and _) hp fun _=>by show fT S.tot sp < 18;omega⟩
theorem LawB.rfs {H:Hp} {lo Fz:Own} {N Qa Ga:Addr} {S:PS} {v2 v3 v6:V} {sp:Bool} (h:LawB H lo Fz N Qa Ga S.wt S.up) (h0:0≤S.tot) (h1:S.tot < 18):fltW S.tot sp false = (refuseP S sp).1∧LawAt (upd H N (.lst (lnw (fltS S.tot sp false) v2 v3 (false && !sp) (fT S.tot sp) v6))) lo Fz N Qa Ga (refuseP S sp).2:=by
 unfold refuseP goneP fltW fltS
 rw [a0Q h0 h1]
 have hp:0≤fT S.tot sp:=by unfold fT;split <;> omega
 by_cases c:18≤fT S.tot sp
 ·rw [if_pos c,if_pos c,if_pos c]
  exact⟨rfl,LawB.row (S':={ S with tot:=fT S.tot sp,now:= .off }) h trivial hp fun z=>absurd rfl z⟩
 ·rw [if_neg c,if_neg c,if_neg c,if_neg (by decide),if_neg (by decide)]
  exact⟨rfl,LawB.row (S':={ S with tot:=fT S.tot sp,now:= .settles false }) h (Bool.false_and _) hp fun _=>by show fT S.tot sp < 18;omega⟩
abbrev WrdQ (H:Hp) (lo Fz:Own) (N Qa Ga:Addr) (r:Str×PS) (Q:VK):Prop:=∀lo' Fz' H',Mv lo H lo' H'→(∀x,Fz' x→Fz x∨H x = none)→LawAt H' lo' Fz' N Qa Ga r.2→Q (.str r.1) H'
def spLSays (K:PySem.W.Frag):Sp:=fun vs H Q _=>∃(N Qa Ga:Addr) (lo Fz:Own) (S:PS),vs = [.ref N,.ref Qa]∧LawAt H lo Fz N Qa Ga S∧Wf S∧Q (.int (saysP S)) H
def spCalm (K:PySem.W.Frag):Sp:=fun vs H Q _=>∃(N Qa Ga:Addr) (lo Fz:Own) (S:PS) (b:Int),vs = [.ref N,.int b]∧LawAt H lo Fz N Qa Ga S∧Wf S∧(b = 0∨b = 1)∧((∃l m,S.now = .flag l m)∨(∃m,S.now = .settles m)∨(∃l,S.now = .rests l)∨S.now = .off)∧WrdQ H lo Fz N Qa Ga (hearP S b) Q
def spFree (K:PySem.W.Frag):Sp:=fun vs H Q _=>∃(N Qa Ga:Addr) (lo Fz:Own) (S:PS) (b:Int) (k:Nat),vs = [.ref N,.int (saysP S),.int b,.ref Qa]∧LawAt H lo Fz N Qa Ga S∧Wf S∧(b = 0∨b = 1)∧S.now = .free k∧WrdQ H lo Fz N Qa Ga (hearP S b) Q
def spWired (K:PySem.W.Frag):Sp:=fun vs H Q _=>∃(N Qa Ga:Addr) (lo Fz:Own) (S:PS) (b:Int),vs = [.ref N,.int (saysP S),.int b]∧LawAt H lo Fz N Qa Ga S∧Wf S∧(b = 0∨b = 1)∧((∃n ds k,S.now = .speaks n ds k)∨∃h,S.now = .reads h)∧WrdQ H lo Fz N Qa Ga (hearP S b) Q
def spTailed (K:PySem.W.Frag):Sp:=fun vs H Q _=>∃(N Qa Ga ch:Addr) (lo Fz:Own) (S:PS) (b:Int),vs = [.ref N,.int b,.int ((S.vt:Nat):Int),.ref Qa,.ref Ga,.ref ch]∧LawAt H lo Fz N Qa Ga S∧Wf S∧(b = 0∨b = 1)∧H ch = some (.tup [.int S.m1,.int S.m2])∧(S.vt = 1∨S.vt = 3∨S.vt = 5)∧S.up.length < 900∧S.wt.length < 900∧((∃v c,S.now = .tlS v c)∨∃n ds v c,S.now = .tlR n ds v c)∧WrdQ H lo Fz N Qa Ga (hearP S b) Q
def spWord47 (K:PySem.W.Frag):Sp:=fun vs H Q _=>∃(N Qa Ga ch:Addr) (lo Fz:Own) (S:PS) (b:Int),vs = [.ref N,.int (saysP S),.int b,.int ((S.vt:Nat):Int),.ref Qa,.ref Ga,.ref ch]∧LawAt H lo Fz N Qa Ga S∧Wf S∧(b = 0∨b = 1)∧H ch = some (.tup [.int S.m1,.int S.m2])∧(S.vt = 1∨S.vt = 3∨S.vt = 5)∧S.up.length < 900∧S.wt.length < 900∧WrdQ H lo Fz N Qa Ga (hearP S b) Q
theorem jG {f:Int→Int→V} {i j:Int} {H:Hp} {Q:V→Hp→Prop} {x:V} (e:f i j = x) (h:Q x H):mI0 f (.int i) (.int j) H Q:=by rw [←e] at h;exact h
theorem LawAt.live {H:Hp} {lo Fz:Own} {N Qa Ga:Addr} {S S':PS} (h:LawAt H lo Fz N Qa Ga S) (ne:S.now≠ .off) (e:S'.tot = S.tot):0≤S'.tot∧(S'.now≠ .off→S'.tot < 18):=by rw [e];exact⟨h.t0,fun _=>h.t1 ne⟩
theorem LawB.setN {H:Hp} {lo Fz:Own} {N Qa Ga:Addr} {wt up:List Fr} (h:LawB H lo Fz N Qa Ga wt up) (w:Str) (xs:List V):LawB (upd H N (.lst (.str w :: xs))) lo Fz N Qa Ga wt up∧Mv lo H lo (upd H N (.lst (.str w :: xs))):=by
 obtain⟨w',xs',eN⟩:=h.en
 exact⟨h.upd_ h.on h.nq h.ng (.inr ⟨_,_,rfl⟩) fun v ev z=>by rw [eN] at ev;cases ev;exact nZ z,h.mvN⟩
theorem fW {H H':Hp} {lo:Own} {a:Addr} (g:Same H H') (hn:H a = none):Mv lo H (Or2 lo fun x=>x = a) H':=⟨Keep.of g,fun x hx=>hx.imp id fun z=>by rw [show x = a from z];exact hn⟩
theorem LawB.new {H:Hp} {lo Fz:Own} {N Qa Ga a:Addr} {wt up:List Fr} (h:LawB H lo Fz N Qa Ga wt up) (hn:H a = none):a≠N∧a≠Qa∧a≠Ga:=⟨fun z=>h.al N h.on (by rw [←z];exact hn),fun z=>h.al Qa h.oq (by rw [←z];exact hn),fun z=>h.al Ga h.og (by rw [←z];exact hn)⟩
theorem kp0:kp [0] = [0]:=by decide +kernel
theorem xJ {x y:Str} {b:Bool} {H:Hp} {Q:V→Hp→Prop} (e:(x == y) = b) (h:Q (.bl b) H):mEq (.str x) (.str y) H Q:=by rw [←e] at h;exact h
abbrev wdR (sp:Bool) (h:List Int) (a2 a3:Addr) (m:Bool) (t:Int) (v6:V):List V:=[.str (if sp = true then ("speaks":Str) else ("reads":Str)),.int ((h.length:Nat):Int),.ref a2,.ref a3,.bl m,.int t,v6]
structure WdAt (H:Hp) (lo:Own) (N Qa Ga:Addr) (t:Int) (sp:Bool) (h:List Int) (a2 a3:Addr) (m:Bool) (v6:V):Prop where
 eN:H N = some (.lst (wdR sp h a2 a3 m t v6))
 e2:H a2 = some (.lst (h.map V.int))
 e3:H a3 = some (.lst ((kp h).map V.int))
 l2:lo a2
 l3:lo a3
 n23:a2≠a3
 q2:a2≠Qa
 g2:a2≠Ga
 q3:a3≠Qa
 g3:a3≠Ga
 hb:Bits h
 on:On h
 ne:h≠ []
theorem LawAt.wd {H:Hp} {lo Fz:Own} {N Qa Ga:Addr} {S:PS} (la:LawAt H lo Fz N Qa Ga S) (wf:Wf S) (hs:(∃n ds k,S.now = .speaks n ds k)∨∃h,S.now = .reads h):∃sp h a2 a3 m v6,WdAt H lo N Qa Ga S.tot sp h a2 a3 m v6∧
    ((sp = false∧S.now = .reads h)∨(sp = true∧∃n ds k a6,S.now = .speaks n ds k∧h = (wr n ds).take k∧k < (wr n ds).length∧FrN (n,ds)∧v6 = .ref a6∧H a6 = some (.lst ((wr n ds).map V.int))∧lo a6∧a6≠a2∧a6≠a3∧a6≠Qa∧a6≠Ga)):=by
  obtain⟨v2,v3,m,v6,eN,dt⟩:=la.ex
  have hw:=wf.now
  rcases hs with ⟨n,ds,k,en⟩ | ⟨h,en⟩
  · rw [en] at eN dt hw
    obtain⟨a2,a3,a6,rfl,rfl,rfl,h2,h3,h6,o2,o3,o6,n1,n2,n3,n4,n5,n6,n7,n8,n9⟩:=dt
    obtain⟨f1,f2,f3,f4⟩:=hw
    have lk:((wr n ds).take k).length = k:=by rw [List.length_take];omega
    refine⟨true,(wr n ds).take k,a2,a3,m,_,⟨?_,h2,h3,o2,o3,n1,n4,n5,n6,n7,iD (kZ f1).wbits,rP f1 k f3,fun z=>?_⟩,.inr ⟨rfl,n,ds,k,a6,en,rfl,f3,f1,rfl,h6,o6,n2,n3,n8,n9⟩⟩
    · rw [eN]
      unfold wdR
      rw [lk]
      rfl
    · rw [z] at lk;simp at lk;omega
  · rw [en] at eN dt hw
    obtain⟨a2,a3,rfl,rfl,h2,h3,o2,o3,n1,n4,n5,n6,n7⟩:=dt
    exact⟨false,h,a2,a3,m,v6,⟨eN,h2,h3,o2,o3,n1,n4,n5,n6,n7,hw.1,hw.2.1,fun z=>by have:=hw.2.2;rw [z] at this;cases this⟩,.inl ⟨rfl,en⟩⟩
def MoreW (h:List Int) (b:Int):Prop:=(kp h).length < 11∨run (h ++ [b]) = 5∨(kp (h ++ [b])).length < 27 + 8 * szB (kp (h ++ [b]))
theorem cX {h:List Int} {b:Int} (on:On h) (h5:¬ 5 < run (h ++ [b])):(MoreW h b→ans (h ++ [b]) = "more")∧(¬ MoreW h b→CmpB (kp (h ++ [b]))∧(rst (kp (h ++ [b])) = 0→ans (h ++ [b]) = "whole")∧(¬ rst (kp (h ++ [b])) = 0→ans (h ++ [b]) = "bad")):=by
 refine⟨fun hm=>fP h5 ?_,fun hm=>?_⟩
 ·rcases hm with c | c | c
  ·refine .inr fun z=>?_
   have:=z.1
   rw [cO] at this
   split at this
   ·omega
   ·rw [List.length_append,List.length_singleton] at this;omega
  ·exact .inl c
  ·exact .inr fun z=>by have:=z.2;omega
 ·have c1:¬ (kp h).length < 11:=fun z=>hm (.inl z)
  have c2:¬ run (h ++ [b]) = 5:=fun z=>hm (.inr (.inl z))
  have c3:¬ (kp (h ++ [b])).length < 27 + 8 * szB (kp (h ++ [b])):=fun z=>hm (.inr (.inr z))
  have l12:12≤(kp (h ++ [b])).length:=by omega
  have cb:CmpB (kp (h ++ [b])):=⟨l12,by have:=on.le' (b:=b) l12;omega⟩
  exact⟨cb,fun r=>gY h5 (fun z=>z.elim c2 fun y=>y cb) r,fun r=>kY h5 (fun z=>z.elim c2 fun y=>y cb) r⟩
theorem a3J {h:List Int} {b:Int} (e:ans (h ++ [b]) = "more"):¬ ans (h ++ [b]) = "whole"∧¬ ans (h ++ [b]) = "six":=by rw [e];exact⟨by decide +kernel,by decide +kernel⟩
theorem nT {S:PS} {h:List Int} {b:Int} (en:S.now = .reads h) (on:On h):(5 < run (h ++ [b])→hearP S b = faultP S false)∧(¬ 5 < run (h ++ [b])→MoreW h b→hearP S b = (("",{ S with now:= .reads (h ++ [b]) }):Str×PS))∧(¬ 5 < run (h ++ [b])→¬ MoreW h b→¬ rst (kp (h ++ [b])) = 0→hearP S b = faultP S false)∧
    (¬ 5 < run (h ++ [b])→¬ MoreW h b→rst (kp (h ++ [b])) = 0→hearP S b = (("",{ S with now:= .tlR (nmB (kp (h ++ [b]))) (daB (kp (h ++ [b]))) 0 0 }):Str×PS)):=by
  rw [gA en]
  refine⟨fun c=>?_,fun c d=>?_,fun c d r=>?_,fun c d r=>?_⟩
  · rw [gZ c,if_neg (by decide +kernel),if_neg (by decide +kernel)]
  · rw [(cX on c).1 d,if_pos rfl]
  · rw [((cX on c).2 d).2.2 r,if_neg (by decide +kernel),if_neg (by decide +kernel)]
  · rw [((cX on c).2 d).2.1 r,if_neg (by decide +kernel),if_pos rfl]
theorem jB {S:PS} {n:Nat} {ds:List Int} {k:Nat} {b:Int} (en:S.now = .speaks n ds k) (fn:FrN (n,ds)) (hk:k < (wr n ds).length):(5 < run ((wr n ds).take k ++ [b])→hearP S b = faultP S true)∧
    (¬ 5 < run ((wr n ds).take k ++ [b])→saysP S = 1→b = 0→(kp ((wr n ds).take k)).length < 9→hearP S b = (("loses",{ S with now:= .reads ((wr n ds).take k ++ [b]) }):Str×PS))∧
    (¬ 5 < run ((wr n ds).take k ++ [b])→¬ (saysP S = 1∧b = 0∧(kp ((wr n ds).take k)).length < 9)→¬ saysP S = b→hearP S b = faultP S true)∧
    (saysP S = b→(wr n ds).take k ++ [b] = (wr n ds).take (k + 1)∧¬ 5 < run ((wr n ds).take k ++ [b])∧((MoreW ((wr n ds).take k) b∧k + 1 < (wr n ds).length∧hearP S b = (("",{ S with now:= .speaks n ds (k + 1) }):Str×PS))∨(¬ MoreW ((wr n ds).take k) b∧rst (kp ((wr n ds).take k ++ [b])) = 0∧hearP S b = (("",{ S with now:= .tlS 0 0 }):Str×PS)))):=by
  have sy:saysP S = (wr n ds).getD k 0:=by unfold saysP;rw [en]
  have w:=kZ fn
  have eb:(wr n ds).getD k 0 = (wr n ds)[k]:=by rw [List.getD_eq_getElem?_getD,List.getElem?_eq_getElem hk];rfl
  have on:=rP fn k hk
  rw [fJ en,sy]
  have six:¬ 5 < run ((wr n ds).take k ++ [b])→¬ ans ((wr n ds).take k ++ [b]) = "six":=fun c=>by
    by_cases d:MoreW ((wr n ds).take k) b
    · rw [(cX on c).1 d];decide +kernel
    · by_cases r:rst (kp ((wr n ds).take k ++ [b])) = 0
      · rw [((cX on c).2 d).2.1 r];decide +kernel
      · rw [((cX on c).2 d).2.2 r];decide +kernel
  refine⟨fun c=>?_,fun c d1 d2 d3=>?_,fun c d1 d2=>?_,fun hd=>?_⟩
  · rw [if_pos (gZ c)]
  · rw [if_neg (six c),if_pos ⟨d1,d2,d3⟩]
  · rw [if_neg (six c),if_neg d1,if_neg fun z=>d2 z.symm]
  · have et:(wr n ds).take k ++ [b] = (wr n ds).take (k + 1):=by rw [List.take_succ_eq_append_getElem hk,←eb,hd]
    have r5:¬ 5 < run ((wr n ds).take k ++ [b]):=by rw [et];have:=w.take_run (j:=k + 1) (by omega);omega
    have nl:¬ ((wr n ds).getD k 0 = 1∧b = 0∧(kp ((wr n ds).take k)).length < 9):=fun z=>by rw [hd] at z;omega
    refine⟨et,r5,?_⟩
    rw [if_neg (six r5),if_neg nl,if_pos hd.symm]
    by_cases c:k + 1 = (wr n ds).length
    · rw [if_pos c]
      have hw:(wr n ds).take k ++ [b] = wr n ds:=by rw [et,c,List.take_of_length_le (Nat.le_refl _)]
      have wh:=w.whole
      rw [←hw] at wh
      by_cases d:MoreW ((wr n ds).take k) b
      · rw [(cX on r5).1 d] at wh;exact absurd wh (by decide +kernel)
      · refine .inr ⟨d,?_,rfl⟩
        exact(iZ wh).2
    · rw [if_neg c]
      have mr:=w.more (j:=k + 1) (by omega)
      rw [←et] at mr
      by_cases d:MoreW ((wr n ds).take k) b
      · exact .inl ⟨d,by omega,rfl⟩
      · by_cases r:rst (kp ((wr n ds).take k ++ [b])) = 0
        · rw [((cX on r5).2 d).2.1 r] at mr;exact absurd mr (by decide +kernel)
        · rw [((cX on r5).2 d).2.2 r] at mr;exact absurd mr (by decide +kernel)
def spStd47 (A:Cs):Sp:=fun vs H Q _=>∃(p N Qa Ga:Addr) (lo Fz:Own) (S:PS) (o:Own),vs = [.ref p,.ref N,.int (saysP S)]∧PostAt A H p S o∧LawAt H lo Fz N Qa Ga S∧∀H',Same H H'→Q (.bl true) H'
def spLook47 (A:Cs):Sp:=fun vs H Q _=>∃(p N Qa Ga:Addr) (lo Fz:Own) (S:PS) (o:Own),vs = [.ref p,.ref N,.ref Qa,.ref Ga]∧PostAt A H p S o∧LawAt H lo Fz N Qa Ga S∧S.wt.length≤900∧S.up.length≤900∧∀H',Same H H'→Q (.bl true) H'
def spHeard47 (K:PySem.W.Frag):Sp:=fun vs H Q _=>∃(a:Addr) (ns:List Int) (k:Int) (N:Addr) (w:Str) (n:Int) (vs_:List V) (sd ot:Int) (c:Bool),vs = [.ref a,.int k,.ref N,.int sd,.int ot,.bl c]∧SqL K H a (ns.map V.int)∧ns.length≤63∧(0≤k∧k≤140)∧H N = some (.lst (.str w :: .int n :: vs_))∧(sd = 0∨sd = 1)∧(ot = 0∨ot = 1)∧∀b H',(b = 0∨b = 1)→Same H H'→Q (.int b) H'
def spFrm47 (K:PySem.W.Frag):Sp:=fun vs H Q _=>∃(a:Addr) (ns:List Int) (bs:Int),vs = [.ref a,.int bs]∧SqL K H a (ns.map V.int)∧ns.length≤63∧0≤bs∧bs≤1000∧∀(f:Fr) (t d:Addr) (H':Hp),FrN f→f.2.length≤1→H d = none→Same H H'→H' t = some (.tup [.int ((f.1:Nat):Int),.ref d])→H' d = some (.lst (f.2.map V.int))→Q (.ref t) H'
def spOth47 (K:PySem.W.Frag):Sp:=fun vs H Q _=>∃(a:Addr) (ns:List Int) (vt:Nat),vs = [.ref a,.int ((vt:Nat):Int)]∧SqL K H a (ns.map V.int)∧ns.length≤63∧vt≤5∧∀p bs H',H p = none→Same H H'→H' p = some (.lst (bs.map V.int))→Bits bs→140≤bs.length→Q (.ref p) H'
theorem a3A {t:Int} (h0:0≤t) (h1:t < 18):mvd t (-1) = max 0 (t - 1):=by unfold mvd;rw [if_neg (by omega)];rfl
theorem a3T {u:List Int} {b:Int} {v c:Nat} (hb:b = 0∨b = 1) (hl:u.length = v) (hc:(u.drop 9).count 0 = c):((u ++ [b]).drop 9).count 0 = tlN v b c:=by
 unfold tlN
 by_cases h:9≤v
 ·rw [List.drop_append_of_le_length (by omega),List.count_append,hc]
  rcases hb with rfl | rfl
  ·rw [if_pos ⟨h,rfl⟩];rfl
  ·rw [if_neg (fun z=>absurd z.2 (by decide))];rfl
 ·rw [if_neg (fun z=>h z.1),List.drop_eq_nil_of_le (by rw [List.length_append,hl];show v + 1≤9;omega)]
  rw [List.drop_eq_nil_of_le (by omega)] at hc
  exact hc
def TlF (sp:Bool) (v:Nat) (b:Int):Prop:=(v = 1∧sp = true∧b = 1)∨(v≠1∧v < 9∧b = 0)
theorem rR {vt v c:Nat} {sp:Bool} {b:Int} (hv:1≤vt) (hb:b = 0∨b = 1):(TlF sp v b→tlWord vt sp v c b = "fault")∧(¬ TlF sp v b→v + 1 < 9 + vt→tlWord vt sp v c b = "more")∧(¬ TlF sp v b→¬ v + 1 < 9 + vt→tlWord vt sp v c b = if vt / 2 < tlN v b c then ("refused":Str) else ("taken":Str)):=by
 unfold tlWord tlVote tlFault TlF
 refine⟨fun h=>?_,fun h g=>?_,fun h g=>?_⟩
 ·rw [if_neg (by omega)]
  rcases h with ⟨rfl,rfl,rfl⟩ | ⟨h1,h2,rfl⟩
  ·rfl
  ·rw [if_neg h1];rfl
 ·by_cases c9:9≤v
  ·rw [if_pos c9,if_pos g]
  ·rw [if_neg c9,if_neg]
   intro z
   by_cases c1:v = 1
   ·rw [if_pos c1] at z
    obtain⟨z1,z2⟩:=(Bool.and_eq_true _ _).mp z
    exact h (.inl ⟨c1,z1,of_decide_eq_true z2⟩)
   ·rw [if_neg c1] at z
    exact h (.inr ⟨c1,by omega,of_decide_eq_true z⟩)
 ·rw [if_pos (show 9≤v by omega),if_neg g]
theorem jW {S:PS} {v c:Nat} {b:Int} (en:S.now = .tlS v c) (hv:1≤S.vt) (hb:b = 0∨b = 1):(TlF true v b→hearP S b = faultP S true)∧(¬ TlF true v b→v + 1 < 9 + S.vt→hearP S b = (("",{ S with now:= .tlS (v + 1) (tlN v b c) }):Str×PS))∧(¬ TlF true v b→¬ v + 1 < 9 + S.vt→S.vt / 2 < tlN v b c→hearP S b = refuseP S true)∧
    (¬ TlF true v b→¬ v + 1 < 9 + S.vt→¬ S.vt / 2 < tlN v b c→hearP S b = (("done",{ S with tot:=mvd S.tot (-1),wt:=S.wt.tail,now:= .rests 3 }):Str×PS)):=by
  obtain⟨w1,w2,w3⟩:=rR (vt:=S.vt) (v:=v) (c:=c) (sp:=true) hv hb
  rw [iR en]
  refine⟨fun h=>?_,fun h g=>?_,fun h g r=>?_,fun h g r=>?_⟩
  · rw [w1 h,if_neg (by decide +kernel),if_pos rfl]
  · rw [w2 h g,if_pos rfl]
  · rw [w3 h g,if_pos r,if_neg (by decide +kernel),if_neg (by decide +kernel),if_pos rfl]
  · rw [w3 h g,if_neg r,if_neg (by decide +kernel),if_neg (by decide +kernel),if_neg (by decide +kernel)]
theorem jX {S:PS} {n:Nat} {ds:List Int} {v c:Nat} {b:Int} (en:S.now = .tlR n ds v c) (hv:1≤S.vt) (hb:b = 0∨b = 1):(TlF false v b→hearP S b = faultP S false)∧(¬ TlF false v b→v + 1 < 9 + S.vt→hearP S b = (("",{ S with now:= .tlR n ds (v + 1) (tlN v b c) }):Str×PS))∧(¬ TlF false v b→¬ v + 1 < 9 + S.vt→S.vt / 2 < tlN v b c→hearP S b = refuseP S false)∧
    (¬ TlF false v b→¬ v + 1 < 9 + S.vt→¬ S.vt / 2 < tlN v b c→hearP S b = (("takes",{ S with tot:=mvd S.tot (-1),up:=if wantP S n = true then S.up ++ [(n,ds)] else S.up,now:= .rests 3 }):Str×PS)):=by
  obtain⟨w1,w2,w3⟩:=rR (vt:=S.vt) (v:=v) (c:=c) (sp:=false) hv hb
  rw [iT en]
  refine⟨fun h=>?_,fun h g=>?_,fun h g r=>?_,fun h g r=>?_⟩
  · rw [w1 h,if_neg (by decide +kernel),if_pos rfl]
  · rw [w2 h g,if_pos rfl]
  · rw [w3 h g,if_pos r,if_neg (by decide +kernel),if_neg (by decide +kernel),if_pos rfl]
  · rw [w3 h g,if_neg r,if_neg (by decide +kernel),if_neg (by decide +kernel),if_neg (by decide +kernel)]
abbrev tlR_ (sp:Bool) (v:Nat) (a2:Addr) (v3:V) (m:Bool) (t:Int) (v6:V):List V:=[.str (if sp = true then ("tail speaks":Str) else ("tail reads":Str)),.int ((v:Nat):Int),.ref a2,v3,.bl m,.int t,v6]
theorem LawAt.tl {H:Hp} {lo Fz:Own} {N Qa Ga:Addr} {S:PS} (la:LawAt H lo Fz N Qa Ga S) (hs:(∃v c,S.now = .tlS v c)∨∃n ds v c,S.now = .tlR n ds v c):∃sp v c a2 u v3 m v6,H N = some (.lst (tlR_ sp v a2 v3 m S.tot v6))∧H a2 = some (.lst (u.map V.int))∧lo a2∧a2≠Qa∧a2≠Ga∧Bits u∧u.length = v∧(u.drop 9).count 0 = c∧v < 14∧
    ((sp = true∧S.now = .tlS v c)∨(sp = false∧∃n ds a3 ks,S.now = .tlR n ds v c∧v3 = .ref a3∧H a3 = some (.lst (ks.map V.int))∧lo a3∧a3≠a2∧a3≠Qa∧a3≠Ga∧Bits ks∧CmpB ks∧nmB ks = n∧daB ks = ds)):=by
  obtain⟨v2,v3,m,v6,eN,dt⟩:=la.ex
  rcases hs with ⟨v,c,en⟩ | ⟨n,ds,v,c,en⟩
  · rw [en] at eN dt
    obtain⟨a2,u,rfl,h2,o2,q2,g2,r1,r2,r3,r4⟩:=dt
    exact⟨true,v,c,a2,u,v3,m,v6,eN,h2,o2,q2,g2,r1,r2,r3,r4,.inl ⟨rfl,en⟩⟩
  · rw [en] at eN dt
    obtain⟨a2,u,a3,ks,rfl,h2,o2,q2,g2,r1,r2,r3,r4,rfl,h3,o3,n3,q3,g3,b1,b2,b3,b4⟩:=dt
    exact⟨false,v,c,a2,u,_,m,v6,eN,h2,o2,q2,g2,r1,r2,r3,r4,.inr ⟨rfl,n,ds,a3,ks,en,rfl,h3,o3,n3,q3,g3,b1,b2,b3,b4⟩⟩
theorem LawB.putQ {H:Hp} {lo Fz:Own} {N Qa Ga:Addr} {wt wt' up:List Fr} {ts:List V} (h:LawB H lo Fz N Qa Ga wt up) (f:FrsAt H Fz ts wt'):LawB (upd H Qa (.lst ts)) lo Fz N Qa Ga wt' up∧Mv lo H lo (upd H Qa (.lst ts)):=by
 obtain⟨⟨w,xs,eN⟩,⟨ts0,eq,fq⟩,⟨us,eg,fg⟩,on,oq,og,qg,nq,ng,al,fz⟩:=h
 have fN:∀x v,H x = some v→(Fz x∨isT v)→upd H Qa (.lst ts) x = some v:=fun x v e z=>by
  rw [aK]
  ·exact e
  ·rintro rfl
   rcases z with z | z
   ·exact(fz _ z).1 oq
   ·rw [eq] at e;cases e;exact nZ z
 have ex:∀x,H x≠none→upd H Qa (.lst ts) x≠none:=fun x n=>by
  by_cases c:x = Qa
  ·rw [c,aB];simp
  ·rw [aK c];exact n
 exact⟨⟨⟨w,xs,by rw [aK nq];exact eN⟩,⟨ts,aB,f.imp fN fun _ z=>z⟩,⟨us,by rw [aK qg.symm];exact eg,fg.imp fN fun _ z=>z⟩,on,oq,og,qg,nq,ng,fun x hx=>ex x (al x hx),fun x hx=>⟨(fz x hx).1,ex x (fz x hx).2⟩⟩,lL eq oq nZ⟩
theorem LawB.putG {H:Hp} {lo Fz:Own} {N Qa Ga:Addr} {wt up up':List Fr} {ts:List V} (h:LawB H lo Fz N Qa Ga wt up) (f:FrsAt H Fz ts up'):LawB (upd H Ga (.lst ts)) lo Fz N Qa Ga wt up'∧Mv lo H lo (upd H Ga (.lst ts)):=by
 obtain⟨en,q,g,on,oq,og,qg,nq,ng,al,fz⟩:=h
 obtain⟨⟨en,q,g,on,oq,og,qg,nq,ng,al,fz⟩,m⟩:=LawB.putQ (Qa:=Ga) (Ga:=Qa) ⟨en,g,q,on,og,oq,qg.symm,ng,nq,al,fz⟩ f
 exact⟨⟨en,g,q,on,og,oq,qg.symm,ng,nq,al,fz⟩,m⟩
theorem LawB.frz {H:Hp} {lo Fz:Own} {N Qa Ga d:Addr} {wt up:List Fr} (h:LawB H lo Fz N Qa Ga wt up) (hd:¬ lo d) (he:H d≠none):LawB H lo (Or2 Fz fun x=>x = d) N Qa Ga wt up:=by
 obtain⟨en,⟨ts,eq,fq⟩,⟨us,eg,fg⟩,on,oq,og,qg,nq,ng,al,fz⟩:=h
 refine⟨en,⟨ts,eq,fq.imp (fun _ _ e _=>e) fun _=> .inl⟩,⟨us,eg,fg.imp (fun _ _ e _=>e) fun _=> .inl⟩,on,oq,og,qg,nq,ng,al,fun x hx=>?_⟩
 rcases hx with hx | hx
 ·exact fz x hx
 ·rw [show x = d from hx];exact⟨hd,he⟩
theorem zU {lo:Own} {H H':Hp} {d:Addr} (m:Mv lo H lo H') (al:∀x,lo x→H' x≠none) (e:H' d = none):H d = none∧¬ lo d:=by
 have nl:¬ lo d:=fun z=>al d z e
 refine⟨?_,nl⟩
 cases c:H d with
 | none=>rfl
 | some v=>rw [m.1 d v c (.inl nl)] at e;cases e
theorem si0 {n:Nat}:seqIndex? 0 (n + 1) = some 0:=by
 have h:(0:Int) < ((n + 1:Nat):Int):=by omega
 show (if (decide ((0:Int)≤0) && decide ((0:Int) < ((n + 1:Nat):Int))) = true then some (0:Int).toNat else none) = some 0
 rw [decide_eq_true h]
 rfl
theorem gF (n:Nat) (x:Int):(List.replicate n [V.int x]).flatten = (List.replicate n x).map V.int:=by
 induction n with
 | zero=>rfl
 | succ n ih=>rw [List.replicate_succ,List.flatten_cons,ih,List.replicate_succ];rfl
theorem fB {n:Nat} (h:n≤100000):n≤sizeLine:=Nat.le_trans h (by unfold sizeLine;decide)
theorem gH {n:Nat} {x:Int} (hx:x = 0∨x = 1):Bits (List.replicate n x):=fun b hb=>by rw [List.eq_of_mem_replicate hb];exact hx
theorem a2I:Bits [1,0]:=fun z hz=>(List.mem_cons.mp hz).elim .inr fun h=> .inl (List.mem_singleton.mp h)
theorem xH {b:Bool} {H:Hp} {Q:V→Hp→Prop} (h:Q (.bl false) H):mNe (.bl b) (.bl b) H Q:=by cases b <;> exact h
structure J47 (A:Cs) (H0 H:Hp) (p N Qa Ga ch OB:Addr) (S:PS) (bs:List Int) (o lo Fz:Own):Prop where
 po:PostAt A H p S o
 la:LawAt H lo Fz N Qa Ga S
 d:∀x,o x→¬ lo x∧¬ Fz x
 same:Same H0 H
 fo:∀x,o x∨lo x→H0 x = none
 nb:¬ o OB∧¬ lo OB
 eb:H OB = some (.lst (bs.map V.int))
 ec:H ch = some (.tup [.int S.m1,.int S.m2])
 vt:S.vt = 1∨S.vt = 3∨S.vt = 5
theorem J47.new {A:Cs} {H0 H H':Hp} {p N Qa Ga ch OB:Addr} {S:PS} {bs:List Int} {o lo Fz:Own} (j:J47 A H0 H p N Qa Ga ch OB S bs o lo Fz) (g:Same H H'):J47 A H0 H' p N Qa Ga ch OB S bs o lo Fz:=⟨j.po.same g,j.la.same g,j.d,j.same.trans g,j.fo,j.nb,g _ _ j.eb,g _ _ j.ec,j.vt⟩
theorem J47.step {A:Cs} {H0 H H1 H2:Hp} {p N Qa Ga ch OB:Addr} {S S':PS} {bs:List Int} {o lo Fz o1 lo2 Fz2:Own} (j:J47 A H0 H p N Qa Ga ch OB S bs o lo Fz) (hP:PostAt A H1 p S' o1) (m1:Mv o H o1 H1) (m2:Mv lo H1 lo2 H2) (fz:∀x,Fz2 x→Fz x∨H1 x = none) (hL:LawAt H2 lo2 Fz2 N Qa Ga S') (e1:S'.m1 = S.m1) (e2:S'.m2 = S.m2) (e3:S'.vt = S.vt):J47 A H0 H2 p N Qa Ga ch OB S' bs o1 lo2 Fz2:=by
 have nl:∀x,o1 x→¬ lo x:=fun x hx z=>(m1.2 x hx).elim (fun y=>(j.d x y).1 z) fun y=>j.la.b.al x z y
 have nf:∀x,o1 x→¬ Fz x:=fun x hx z=>(m1.2 x hx).elim (fun y=>(j.d x y).2 z) fun y=>(j.la.b.fz x z).2 y
 have s1:Same H0 H1:=fun x v e=>m1.1 x v (j.same x v e) (.inl fun z=>by rw [j.fo x (.inl z)] at e;cases e)
 have b1:=m1.1 _ _ j.eb (.inl j.nb.1)
 refine⟨hP.move fun x v e z=>m2.1 x v e (z.imp_left (nl x)),hL,fun x hx=>⟨fun z=>?_,fun z=>?_⟩,fun x v e=>m2.1 x v (s1 x v e) (.inl fun z=>by rw [j.fo x (.inr z)] at e;cases e),fun x hx=>?_,⟨fun z=>?_,fun z=>?_⟩,m2.1 _ _ b1 (.inl j.nb.2),?_,by rw [e3];exact j.vt⟩
 ·exact(m2.2 x z).elim (nl x hx) (hP.al x hx)
 ·exact(fz x z).elim (nf x hx) (hP.al x hx)
 ·rcases hx with hx | hx
  ·exact(m1.2 x hx).elim (fun y=>j.fo x (.inl y)) fun y=>j.same.none y
  ·exact(m2.2 x hx).elim (fun y=>j.fo x (.inr y)) fun y=>s1.none y
 ·exact(m1.2 _ z).elim j.nb.1 fun y=>by rw [j.eb] at y;cases y
 ·exact(m2.2 _ z).elim j.nb.2 fun y=>by rw [b1] at y;cases y
 ·rw [e1,e2];exact m2.1 _ _ (m1.1 _ _ j.ec (.inr ⟨_,rfl⟩)) (.inr ⟨_,rfl⟩)
theorem J47.la1 {A:Cs} {H0 H H1:Hp} {p N Qa Ga ch OB:Addr} {S:PS} {bs:List Int} {o lo Fz o1:Own} (j:J47 A H0 H p N Qa Ga ch OB S bs o lo Fz) (m1:Mv o H o1 H1):LawAt H1 lo Fz N Qa Ga S:=j.la.move fun x v e z=>m1.1 x v e (by
 rcases z with z | z | z
 ·exact .inl fun y=>(j.d x y).1 z
 ·exact .inl fun y=>(j.d x y).2 z
 ·exact .inr z)
theorem J47.step2 {A:Cs} {H0 H H1 H2:Hp} {p N Qa Ga ch OB:Addr} {S S':PS} {bs:List Int} {o lo Fz o2 lo1 Fz1:Own} (j:J47 A H0 H p N Qa Ga ch OB S bs o lo Fz) (hL:LawAt H1 lo1 Fz1 N Qa Ga S') (m1:Mv lo H lo1 H1) (fz:∀x,Fz1 x→Fz x∨H x = none) (hP:PostAt A H2 p S' o2) (m2:Mv o H1 o2 H2) (e1:S'.m1 = S.m1) (e2:S'.m2 = S.m2) (e3:S'.vt = S.vt):J47 A H0 H2 p N Qa Ga ch OB S' bs o2 lo1 Fz1:=by
 have nl:∀x,lo1 x→¬ o x:=fun x hx z=>(m1.2 x hx).elim (fun y=>(j.d x z).1 y) fun y=>j.po.al x z y
 have nf:∀x,Fz1 x→¬ o x:=fun x hx z=>(fz x hx).elim (fun y=>(j.d x z).2 y) fun y=>j.po.al x z y
 have s1:Same H0 H1:=fun x v e=>m1.1 x v (j.same x v e) (.inl fun z=>by rw [j.fo x (.inr z)] at e;cases e)
 have b1:=m1.1 _ _ j.eb (.inl j.nb.2)
 refine⟨hP,hL.move fun x v e z=>m2.1 x v e ?_,fun x hx=>⟨fun z=>?_,fun z=>?_⟩,fun x v e=>m2.1 x v (s1 x v e) (.inl fun z=>by rw [j.fo x (.inl z)] at e;cases e),fun x hx=>?_,⟨fun z=>?_,fun z=>?_⟩,m2.1 _ _ b1 (.inl j.nb.1),?_,by rw [e3];exact j.vt⟩
 ·rcases z with z | z | z
  ·exact .inl (nl x z)
  ·exact .inl (nf x z)
  ·exact .inr z
 ·exact(m2.2 x hx).elim (nl x z) fun y=>hL.b.al x z y
 ·exact(m2.2 x hx).elim (nf x z) fun y=>(hL.b.fz x z).2 y
 ·rcases hx with hx | hx
  ·exact(m2.2 x hx).elim (fun y=>j.fo x (.inl y)) fun y=>s1.none y
  ·exact(m1.2 x hx).elim (fun y=>j.fo x (.inr y)) fun y=>j.same.none y
 ·exact(m2.2 _ z).elim j.nb.1 fun y=>by rw [b1] at y;cases y
 ·exact(m1.2 _ z).elim j.nb.2 fun y=>by rw [j.eb] at y;cases y
 ·rw [e1,e2];exact m2.1 _ _ (m1.1 _ _ j.ec (.inr ⟨_,rfl⟩)) (.inr ⟨_,rfl⟩)
theorem J47.po1 {A:Cs} {H0 H H1:Hp} {p N Qa Ga ch OB:Addr} {S:PS} {bs:List Int} {o lo Fz lo1:Own} (j:J47 A H0 H p N Qa Ga ch OB S bs o lo Fz) (m1:Mv lo H lo1 H1):PostAt A H1 p S o:=j.po.move fun x v e z=>m1.1 x v e (z.imp_left fun y=>(j.d x y).1)
theorem LawAt.addQ {H H':Hp} {lo Fz:Own} {N Qa Ga t d:Addr} {S:PS} {f:Fr} (la:LawAt H lo Fz N Qa Ga S) (g:Same H H') (hd:H d = none) (et:H' t = some (.tup [.int ((f.1:Nat):Int),.ref d])) (ed:H' d = some (.lst (f.2.map V.int))):∃ts,H' Qa = some (.lst ts)∧ts.length = S.wt.length∧LawAt (upd H' Qa (.lst (ts ++ [.ref t]))) lo (Or2 Fz fun x=>x = d) N Qa Ga { S with wt:=S.wt ++ [f] }∧Mv lo H lo (upd H' Qa (.lst (ts ++ [.ref t]))):=by
 have la':=la.same g
 obtain⟨ts,eq,fq⟩:=la'.b.q
 obtain⟨v2,v3,m,v6,eN,dt⟩:=la'.ex
 obtain⟨b1,m1⟩:=(la'.b.frz (d:=d) (fun z=>la.b.al d z hd) (by rw [ed];simp)).putQ ((fq.imp (fun _ _ e _=>e) fun _=> .inl).snoc (t:=t) (f:=f) ⟨d,et,ed,.inr rfl⟩)
 exact⟨ts,eq,fq.len,⟨b1,⟨v2,v3,m,v6,(aK la.b.nq).trans eN,dt.move (fun x xs _ n _ e=>(aK n).trans e) fun _ z=>z⟩,la.t0,la.t1⟩,(Mv.of g).trans m1⟩
theorem xT (S:PS) (b:Int):(hearP S b).2.m1 = S.m1∧(hearP S b).2.m2 = S.m2∧(hearP S b).2.vt = S.vt∧(hearP S b).2.wt.length≤S.wt.length:=by
 have hg:∀st w nx,(goneP S st w nx).2.m1 = S.m1∧(goneP S st w nx).2.m2 = S.m2∧(goneP S st w nx).2.vt = S.vt∧(goneP S st w nx).2.wt.length≤S.wt.length:=fun st w nx=>by unfold goneP;split <;> exact⟨rfl,rfl,rfl,Nat.le_refl _⟩
 have h1:∀sp,(faultP S sp).2.m1 = S.m1∧(faultP S sp).2.m2 = S.m2∧(faultP S sp).2.vt = S.vt∧(faultP S sp).2.wt.length≤S.wt.length:=fun sp=>by unfold faultP;exact hg _ _ _
 have h2:∀sp,(refuseP S sp).2.m1 = S.m1∧(refuseP S sp).2.m2 = S.m2∧(refuseP S sp).2.vt = S.vt∧(refuseP S sp).2.wt.length≤S.wt.length:=fun sp=>by unfold refuseP;exact hg _ _ _
 have h3:(blameP S).2.m1 = S.m1∧(blameP S).2.m2 = S.m2∧(blameP S).2.vt = S.vt∧(blameP S).2.wt.length≤S.wt.length:=by unfold blameP;exact hg _ _ _
 have ht:S.wt.tail.length≤S.wt.length:=by rw [List.length_tail];omega
 cases en:S.now with
 | free k=>rw [gR en];(repeat' split) <;> first | exact h1 _ | exact⟨rfl,rfl,rfl,Nat.le_refl _⟩
 | speaks n ds k=>rw [fJ en];(repeat' split) <;> first | exact h1 _ | exact⟨rfl,rfl,rfl,Nat.le_refl _⟩
 | reads h=>rw [gA en];(repeat' split) <;> first | exact h1 _ | exact⟨rfl,rfl,rfl,Nat.le_refl _⟩
 | tlS v c=>rw [iR en];(repeat' split) <;> first | exact h1 _ | exact h2 _ | exact⟨rfl,rfl,rfl,Nat.le_refl _⟩ | exact⟨rfl,rfl,rfl,ht⟩
 | tlR n ds v c=>rw [iT en];(repeat' split) <;> first | exact h1 _ | exact h2 _ | exact⟨rfl,rfl,rfl,Nat.le_refl _⟩
 | flag l m=>rw [gU en];(repeat' split) <;> first | exact⟨rfl,rfl,rfl,Nat.le_refl _⟩
 | settles m=>rw [eO en];(repeat' split) <;> first | exact h3 | exact⟨rfl,rfl,rfl,Nat.le_refl _⟩
 | rests l=>rw [fZ en];(repeat' split) <;> first | exact h1 _ | exact⟨rfl,rfl,rfl,Nat.le_refl _⟩
 | off=>rw [iU en];exact⟨rfl,rfl,rfl,Nat.le_refl _⟩
theorem sX {K:PySem.W.Frag} {H:Hp} {t:Addr} {s:Str} {k:Int} (e:H t = some (.tup [.str s,.int k])):DV K H (.ref t) (.tuple [.str s,.int k]):= .tup (SqT.of e) (.cons (.str _) (.cons (.int _) .nil))
theorem pG {s:Str} (hs:PyData.strOk s = true) (n:Int):SeqAt.shaped (.tuple [.str s,.int n]) = true:=by
 unfold SeqAt.shaped
 rw [Bool.and_eq_true]
 refine⟨by simp only [PyData.canLay0,PyData.canLayAll0,hs,Bool.and_self],decide_eq_true ?_⟩
 simp only [PyData.depth,PyData.depthAll]
 decide
theorem vW:∀s:Stc,PyData.strOk s.shown.1 = true
 | .free _=>(by decide +kernel:PyData.strOk ("free":Str) = true)
 | .speaks _ _ _=>(by decide +kernel:PyData.strOk ("speaks":Str) = true)
 | .reads _=>(by decide +kernel:PyData.strOk ("reads":Str) = true)
 | .tlS _ _=>(by decide +kernel:PyData.strOk ("tail speaks":Str) = true)
 | .tlR _ _ _ _=>(by decide +kernel:PyData.strOk ("tail reads":Str) = true)
 | .flag _ _=>(by decide +kernel:PyData.strOk ("flag":Str) = true)
 | .settles _=>(by decide +kernel:PyData.strOk ("settles":Str) = true)
 | .rests _=>(by decide +kernel:PyData.strOk ("rests":Str) = true)
 | .off=>(by decide +kernel:PyData.strOk ("off":Str) = true)
theorem a1E {S:PS} (wf:Wf S):saysP S = 0∨saysP S = 1:=by
 have hw:=wf.now
 have sy:saysP S = saysP S:=rfl
 conv at sy=>rhs;unfold saysP
 rw [sy]
 cases en:S.now with
 | speaks n ds k=>
  rw [en] at hw
  dsimp only
  rw [List.getD_eq_getElem?_getD,List.getElem?_eq_getElem hw.2.2.1]
  exact(kZ hw.1).wbits _ (List.getElem_mem _)
 | tlR n ds v c=>dsimp only;unfold tlSays;split <;> first | exact .inl rfl | exact .inr rfl
 | tlS v c=>dsimp only;unfold tlSays;split <;> first | exact .inl rfl | exact .inr rfl
 | free k=>dsimp only;(repeat' split) <;> first | exact .inl rfl | exact .inr rfl
 | flag l m=>exact .inl rfl
 | reads h=>exact .inr rfl
 | settles m=>exact .inr rfl
 | rests l=>exact .inr rfl
 | off=>exact .inr rfl
variable (Zb:FB P w K mg base (CX0) 1 "_law_draw" Zg8 ZjQ ["_law_script","_law_k","_law_many"] (spDraw K))
include ZZ in
theorem Zmg (F0:GFm K mg "_law_draw" Zkc Zg8 ZjQ):type_of% Zb:=by
 refine fbM ["_law_script","_law_k","_law_many","_law_cell","_law_seed"] F0 fun Sc0=>F0.F.ok Sc0 (fun vs H Q E h=>?_) fun cdv A outer s H vs Q E hr h=>?_
 ·obtain⟨a,ns,k,m,rfl,_⟩:=h
  rfl
 obtain⟨a,ns,k,m,rfl,hS,h63,k0,k1,m0,q⟩:=h
 have nd:=Sc0.nd
 refine⟨_,(aD (aZ (i:=3) nd rfl (Or.inl rfl) (cB (cP (aR pC (bO fD rfl ZZ dR (aA (dv 0) aF)) aC (aM _)) (aW bC (dv 0) (aU mH (dv 1) (bO fD rfl ZZ dR (aA (dv 0) aF))) (fun _ _=>rfl)) aC))) (aD (aZ (i:=4) nd rfl (Or.inl rfl) (aU bZ (aU bZ (aU mH (dv 3) aC) (aU dU (aU dU aC (dv 1)) (dv 1))) aC)) (aG (aL (aU mH (aU mH (aU dU (aU mH (aU dU (dv 4) aC) aC) aC) aC) (dv 2)))))),?_⟩
 refine⟨fun x H'=>(∃v,x = .int v)∧H' = H,?_,?_⟩
 ·have hlen:(ns.map V.int).length = ns.length:=List.length_map _
  refine⟨_,.inl hS,?_⟩
  conv=>whnf
  refine bG (fun c=>?_) (fun c=>⟨⟨_,rfl⟩,rfl⟩)
  have c1:(0:Int) < (((ns.map V.int).length:Nat):Int):=dec_true c
  obtain⟨v,hv⟩:=a2L (ns:=ns) (k:=k) (by rw [hlen] at c1;omega)
  exact⟨_,.inl hS,c1,_,_,hS,hv,⟨v,rfl⟩,rfl⟩
 rintro x H' ⟨⟨v,rfl⟩,rfl⟩
 have k2:31 * k * k≤31 * 100000 * 100000:=Int.mul_le_mul (by omega) k1 k0 (by decide)
 have k3:0≤31 * k * k:=Int.mul_nonneg (by omega) k0
 refine⟨(by show (0:Int) < _;decide),⟨dG (by decide) (by decide),dG (by omega) (by omega)⟩,⟨dG (by omega) (by omega),dG (by omega) (by omega)⟩,?_⟩
 have s0:0≤v % 1000003:=Int.emod_nonneg _ (by decide)
 have s1:v % 1000003 < 1000003:=Int.emod_lt_of_pos _ (by decide)
 refine⟨⟨dG (by omega) (by omega),dG (by decide) (by decide)⟩,(by show (0:Int) < _;decide),?_⟩
 have t0:0≤(v % 1000003 + 31 * k * k + 1) * 48271 % 999983:=Int.emod_nonneg _ (by decide)
 have t1:(v % 1000003 + 31 * k * k + 1) * 48271 % 999983 < 999983:=Int.emod_lt_of_pos _ (by decide)
 refine⟨⟨dG (by omega) (by omega),dG (by decide) (by decide)⟩,(by show (0:Int) < _;decide),m0,?_⟩
 exact q _ (Int.emod_nonneg _ (by omega)) (Int.emod_lt_of_pos _ m0)
variable (ZM:FB P w K mg base (CX0) 1 "_law_bits" Zg6 ZjO ["_law_number_here","_law_many"] (spLBits2))
include Zao in
theorem Zme (F0:GFm K mg "_law_bits" Zka Zg6 ZjO):type_of% ZM:=by
 refine fbM ["_law_number_here","_law_many"] F0 fun Sc0=>F0.F.ok Sc0 (fun vs H Q E h=>?_) fun cdv A outer s H vs Q E hr h=>?_
 ·obtain⟨n,m,rfl,_⟩:=h
  rfl
 obtain⟨n,m,rfl,hm,q⟩:=h
 have nd:=Sc0.nd
 refine⟨_,(aG (aL (gM rfl (ix:=[0,1]) (dW rfl Zao (aA (dv 1) aF)) (fun C fp s0 H0 at0=>fU) (fun C fp s0 H0 at0=>(aU rO (aU uZ (dv 1) (aU fC (aU fC (dv 2) aC) (dv 0))) aC)) rfl rfl (by rfl) (show ([".0","_law_k","_law_number_here","_law_many"]:List Str).Nodup by decide +kernel)))),?_⟩
 have em:((m:Nat):Int).toNat = m:=Int.toNat_natCast m
 refine⟨⟨by omega,by omega⟩,gB (fun i ys H'=>ys = ((bitsI n m).take i).map V.int∧H' = H) ?_ ⟨rfl,rfl⟩ ?_ ?_⟩
 ·rintro i ys H' hi ⟨rfl,_⟩
  refine cJ ?_
  rw [List.length_map,List.length_take,bK]
  omega
 ·rintro i ys H' hi ⟨rfl,rfl⟩
  rw [em] at hi
  refine⟨(by show (0:Int)≤(m:Int) - 1 - (0 + (i:Int));omega),?_,rfl⟩
  have e:(m:Int) - 1 - (0 + (i:Int)) = ((m - 1 - i:Nat):Int):=by omega
  show _ ++ [V.int (Builtin.bitAnd ((n:Int) / 2 ^ ((m:Int) - 1 - (0 + (i:Int))).toNat) 1)] = _
  rw [e,a0Y,mO hi,List.map_append]
  rfl
 ·rintro ys H' ⟨rfl,rfl⟩ p hp
  rw [em,List.take_of_length_le (by rw [bK];exact Nat.le_refl _)]
  exact q p hp
variable (Zak:FB P w K mg base (CX0) 2 "_law_wire" Zhb ZjT ["_law_frame_here"] (spWireT K))
include ZZ ZM in
theorem Zmj (F0:GFm K mg "_law_wire" Zkf Zhb ZjT):type_of% Zak:=by
 refine fbM ["_law_frame_here","_law_bits_here","_law_byte","_law_rest","_law_bit","_law_wire_here"] F0 fun Sc0=>F0.F.ok Sc0 (fun vs H Q E h=>?_) fun cdv A outer s H vs Q E hr h=>?_
 ·obtain⟨f,d,n,ds,rfl,_⟩:=h
  rfl
 obtain⟨f,d,n,ds,rfl,ef,ed,hn,hl,hall,q⟩:=h
 have nd:=Sc0.nd
 refine⟨_,(aD (aZ (i:=1) nd rfl (Or.inl rfl) (aU eX (aU eX (bN (aA aC aF)) (aO ZM.1 (hr.mono (by decide)) rfl ZM.2.2.2 ZM.2.2.1 ZM.2.1 .nil aN (aA (aW dF (dv 0) aC (fun _ _=>rfl)) (aA aC aF)))) (aO ZM.1 (hr.mono (by decide)) rfl ZM.2.2.2 ZM.2.2.1 ZM.2.1 .nil aN (aA (bO fD rfl ZZ dR (aA (aW dF (dv 0) aC (fun _ _=>rfl)) aF)) (aA aC aF))))) (aD (eE PassesOwn.never rfl (dM (aW dF (dv 0) aC (fun _ _=>rfl))) (dC (i:=2) nd rfl (Or.inl rfl)) (aG (aZ (i:=1) nd rfl (Or.inl rfl) (aU eX (dv 1) (aO ZM.1 (hr.mono (by decide)) rfl ZM.2.2.2 ZM.2.2.1 ZM.2.1 .nil aN (aA (dv 2) (aA aC aF))))))) (aD (aZ (i:=3) nd rfl (Or.inl rfl) aC) (aD (eE PassesOwn.never rfl (dM (aU eX (dv 1) (aU gD (bN (aA aC aF)) aC))) (dC (i:=4) nd rfl (Or.inl rfl)) (aD (aZ (i:=3) nd rfl (Or.inl rfl) (aU bZ (aU dU (dv 3) aC) (dv 4))) (aG (aY (aR jT (dv 3) aC (aM _)) (aG (aZ (i:=3) nd rfl (Or.inl rfl) (aU a0M (dv 3) aC))) aP)))) (aD (aZ (i:=5) nd rfl (Or.inl rfl) (bN aF)) (aD (eE PassesOwn.never rfl (dM (aU eX (dv 1) (aO ZM.1 (hr.mono (by decide)) rfl ZM.2.2.2 ZM.2.2.1 ZM.2.1 .nil aN (aA (dv 3) (aA aC aF))))) (dC (i:=4) nd rfl (Or.inl rfl)) (aD (bF (cD (dv 5) (aA (dv 4) aF))) (aG (dJ (aY (aR (vK hr.units) (cF fM (dv 5) (cC (jO jM aC)) fV) (aU gD (bN (aA (dv 4) aF)) aC) (aM _)) (aG (bF (cD (dv 5) (aA (aU fC aC (dv 4)) aF)))) aP))))) (aG (aL (dv 5))))))))),?_⟩
 refine⟨aJ rfl,fun p1 hp1=>?_⟩
 have g1:=aH hp1 (.lst [.int 0])
 have e1:=aB (H:=H) (a:=p1) (o:= .lst [.int 0])
 generalize upd H p1 (.lst [.int 0]) = H1 at g1 e1
 refine⟨_,_,SqT.of (g1 _ _ ef),rfl,n,8,rfl,by decide,fun p2 hp2=>?_⟩
 have g2:=aH hp2 (.lst ((bitsI n 8).map V.int))
 have e2:=aB (H:=H1) (a:=p2) (o:= .lst ((bitsI n 8).map V.int))
 generalize upd H1 p2 (.lst ((bitsI n 8).map V.int)) = H2 at g2 e2
 have l8:=bK n 8
 refine⟨_,_,g2 _ _ e1,e2,(by rw [List.length_map,l8];exact small (by decide)),fun p3 hp3=>?_⟩
 have g3:=aH hp3 (.lst ([.int 0] ++ (bitsI n 8).map V.int))
 have e3:upd H2 p3 (.lst ([.int 0] ++ (bitsI n 8).map V.int)) p3 = some (.lst (([0] ++ bitsI n 8).map V.int)):=aB
 generalize upd H2 p3 (.lst ([.int 0] ++ (bitsI n 8).map V.int)) = H3 at g3 e3
 have gs3:=g1.trans (g2.trans g3)
 refine⟨_,_,SqT.of (gs3 _ _ ef),rfl,_,.inl (SqL.of (gs3 _ _ ed)),?_⟩
 rw [List.length_map]
 refine⟨ds.length,3,rfl,by decide,fun p4 hp4=>?_⟩
 have g4:=aH hp4 (.lst ((bitsI ds.length 3).map V.int))
 have e4:=aB (H:=H3) (a:=p4) (o:= .lst ((bitsI ds.length 3).map V.int))
 generalize upd H3 p4 (.lst ((bitsI ds.length 3).map V.int)) = H4 at g4 e4
 have l3:=bK ds.length 3
 refine⟨_,_,g4 _ _ e3,e4,(by rw [List.length_map,List.length_map,l3,List.length_append,l8];exact small (by decide)),fun p5 hp5=>?_⟩
 have g5:=aH hp5 (.lst (([0] ++ bitsI n 8).map V.int ++ (bitsI ds.length 3).map V.int))
 have e5:upd H4 p5 (.lst (([0] ++ bitsI n 8).map V.int ++ (bitsI ds.length 3).map V.int)) p5 = some (.lst ((hdD (n:Int) ds.length []).map V.int)):=by
  rw [aB,←List.map_append]
  unfold hdD b8
  rw [Int.toNat_natCast,List.map_nil,List.flatten_nil,List.append_nil]
 generalize upd H4 p5 (.lst (([0] ++ bitsI n 8).map V.int ++ (bitsI ds.length 3).map V.int)) = H5 at g5 e5
 have gs5:=gs3.trans (g4.trans g5)
 refine⟨_,_,SqT.of (gs5 _ _ ef),rfl,⟨_,SqL.of (gs5 _ _ ed)⟩,dO (xs:=ds.map V.int) (fun i σ H'=>(∃(pb:Addr) (x:Option V),H' pb = some (.lst ((hdD (n:Int) ds.length (ds.take i)).map V.int))∧σ = [some (.ref f),some (.ref pb),x,none,none,none])∧Same H H') ⟨⟨p5,_,e5,rfl⟩,gs5⟩ (fun i σ H' _ z=>SqL.of (z.2 _ _ ed)) ?_ ?_⟩
 ·rintro i x σ H' hx ⟨⟨pb,y,eb,rfl⟩,g⟩
  obtain⟨hi,rfl⟩:=eU hx
  obtain⟨m,em,hm⟩:=oW (qN hall hi)
  have hhl:=oK (n:Int) ds.length (ds.take i)
  rw [List.length_take] at hhl
  refine⟨m,8,(by show [V.int ds[i],V.int 8] = _;rw [em];rfl),by decide,fun p6 hp6=>?_⟩
  have g6:=aH hp6 (.lst ((bitsI m 8).map V.int))
  have e6:=aB (H:=H') (a:=p6) (o:= .lst ((bitsI m 8).map V.int))
  generalize upd H' p6 (.lst ((bitsI m 8).map V.int)) = H6 at g6 e6
  refine⟨_,_,g6 _ _ eb,e6,(by rw [List.length_map,List.length_map,bK];exact small (by omega)),fun p7 hp7=>?_⟩
  refine⟨⟨p7,_,?_,rfl⟩,g.trans (g6.trans (aH hp7 _))⟩
  rw [aB,←List.map_append,List.take_succ_eq_append_getElem hi,qF]
  have:b8 ds[i] = bitsI m 8:=by unfold b8;rw [em,Int.toNat_natCast]
  rw [this]
 rintro σ H6 ⟨⟨pb,ob,eb,rfl⟩,g6⟩
 rw [List.length_map,List.take_of_length_le (Nat.le_refl _)] at eb
 have eb':H6 pb = some (.lst ((hd (n:Int) ds).map V.int)):=eb
 have hhl:=oJ (n:Int) ds
 have hhb:=kW (n:Int) ds
 refine⟨aJ rfl,fun p7 hp7=>?_⟩
 have g7:=aH hp7 (.lst [.int 0])
 have e7:=aB (H:=H6) (a:=p7) (o:= .lst [.int 0])
 generalize upd H6 p7 (.lst [.int 0]) = H7 at g7 e7
 refine⟨_,e7,⟨by decide,by decide⟩,(by show 1 * 15≤sizeLine;exact small (by decide)),fun p8 hp8=>?_⟩
 have g8:=aH hp8 (.lst (List.replicate (15:Int).toNat [V.int 0]).flatten)
 have e8:upd H7 p8 (.lst (List.replicate (15:Int).toNat [V.int 0]).flatten) p8 = some (.lst ((zs 15).map V.int)):=by rw [aB];rfl
 generalize upd H7 p8 (.lst (List.replicate (15:Int).toNat [V.int 0]).flatten) = H8 at g8 e8
 have g68:=g7.trans g8
 refine⟨_,_,g68 _ _ eb',e8,(by rw [List.length_map];exact small (by show (hd (n:Int) ds).length + 15≤1000;omega)),fun p9 hp9=>?_⟩
 have g9:=aH hp9 (.lst ((hd (n:Int) ds).map V.int ++ (zs 15).map V.int))
 have e9:upd H8 p9 (.lst ((hd (n:Int) ds).map V.int ++ (zs 15).map V.int)) p9 = some (.lst ((hd (n:Int) ds ++ zs 15).map V.int)):=by rw [aB,List.map_append]
 have gs9:=g6.trans (g68.trans g9)
 have eb9:=(g68.trans g9) _ _ eb'
 generalize upd H8 p9 (.lst ((hd (n:Int) ds).map V.int ++ (zs 15).map V.int)) = H5 at e9 gs9 eb9
 have hb:Bits (hd (n:Int) ds ++ zs 15):=dZ hhb (nO 15)
 have hl:(hd (n:Int) ds ++ zs 15).length≤450:=by rw [List.length_append];show (hd (n:Int) ds).length + 15≤450;omega
 have eck:ckn (hd (n:Int) ds) = rst (hd (n:Int) ds ++ zs 15):=rfl
 generalize hbs:hd (n:Int) ds ++ zs 15 = bs at e9 hb hl eck
 have hS5:SqL K H5 p9 (bs.map V.int):=SqL.of e9
 have eck':=eck
 refine⟨⟨_,hS5⟩,dO (xs:=bs.map V.int) (fun i σ H'=>(∃x,σ = [some (.ref f),some (.ref pb),ob,some (.int ((rst (bs.take i):Nat):Int)),x,none])∧H' = H5) ⟨⟨_,by rw [List.take_zero,nQ];rfl⟩,rfl⟩ (fun i σ H' _ z=>by rw [z.2];exact hS5) ?_ ?_⟩
 ·rintro i x σ H' hx ⟨⟨y,rfl⟩,rfl⟩
  obtain⟨hi,rfl⟩:=eU hx
  have hb':Bits (bs.take i):=fun b h=>hb b (List.mem_of_mem_take h)
  have hbi:=hb _ (List.getElem_mem hi)
  have rl:=nR (bs.take i)
  have es:rst (bs.take (i + 1)) = nx (rst (bs.take i)) ^^^ bs[i].toNat:=by
   rw [List.take_succ_eq_append_getElem hi];exact lG hb' (by rw [List.length_take];omega) hbi
  have ew:=pD rl hbi
  have ea:((rst (bs.take i):Nat):Int) * 2 + bs[i] = ((2 * rst (bs.take i) + bs[i].toNat:Nat):Int):=by
   rcases hbi with e | e <;> rw [e] <;> simp <;> omega
  refine⟨⟨dG (by omega) (by omega),dG (by decide) (by decide)⟩,?_⟩
  conv=>whnf
  refine bG (fun c=>?_) (fun c=>?_)
  ·have c1:(32768:Int)≤((rst (bs.take i):Nat):Int) * 2 + bs[i]:=dec_true c
   rw [if_pos c1] at ew
   refine⟨⟨some (.int bs[i]),?_⟩,rfl⟩
   have e5:Builtin.bitXor ((2 * rst (bs.take i) + bs[i].toNat:Nat):Int) (64647:Int) = (((2 * rst (bs.take i) + bs[i].toNat) ^^^ 64647:Nat):Int):=bxor _ 64647
   rw [es,←ew,←e5,←ea]
   rfl
  ·have c1:¬ (32768:Int)≤((rst (bs.take i):Nat):Int) * 2 + bs[i]:=dec_false c
   rw [if_neg c1] at ew
   refine⟨⟨some (.int bs[i]),?_⟩,rfl⟩
   rw [es,←ew,←ea]
   rfl
 ·rintro σ H' ⟨⟨y,rfl⟩,rfl⟩
  rw [List.length_map,List.take_of_length_le (Nat.le_refl _)]
  obtain⟨Hz,rfl⟩:∃Hz,Hz = H':=⟨_,rfl⟩
  clear hb hl eck hS5 e9
  refine⟨aJ rfl,fun p hp=>?_⟩
  have g0:=aH hp (.lst [])
  have e0:=aB (H:=Hz) (a:=p) (o:= .lst [])
  have eb0:=g0 _ _ eb9
  generalize upd Hz p (.lst []) = H1z at g0 e0 eb0
  refine⟨rst bs,15,rfl,by decide,fun p10 hp10=>?_⟩
  have g10:=aH hp10 (.lst ((bitsI (rst bs) 15).map V.int))
  have e10:=aB (H:=H1z) (a:=p10) (o:= .lst ((bitsI (rst bs) 15).map V.int))
  generalize upd H1z p10 (.lst ((bitsI (rst bs) 15).map V.int)) = H10 at g10 e10
  refine⟨_,_,g10 _ _ eb0,e10,(by rw [List.length_map,List.length_map,bK];exact small (by omega)),fun p11 hp11=>?_⟩
  have np:p11≠p:=fun z=>by rw [z,g10 _ _ e0] at hp11;cases hp11
  have g11:=aH hp11 (.lst ((hd (n:Int) ds).map V.int ++ (bitsI (rst bs) 15).map V.int))
  have e11:upd H10 p11 (.lst ((hd (n:Int) ds).map V.int ++ (bitsI (rst bs) 15).map V.int)) p11 = some (.lst ((fb (n:Int) ds).map V.int)):=by
   rw [aB,←List.map_append]
   unfold fb ck
   rw [eck']
  generalize upd H10 p11 _ = H11 at g11 e11
  have g0':=g0.trans (g10.trans g11)
  have e0':=(g10.trans g11) _ _ e0
  have hb:=sW (n:Int) ds
  have fbl:=lU (n:Int) ds
  have hl:(fb (n:Int) ds).length≤400:=by omega
  generalize ((rst bs:Nat):Int) = rsv
  clear eb0 e10 eck' hbs
  clear bs
  generalize fb (n:Int) ds = bs at e11 hb hl q fbl
  refine⟨⟨_,SqL.of e11⟩,dO (xs:=bs.map V.int) (fun i σ H'=>(∃x,σ = [some (.ref f),some (.ref pb),ob,some (.int rsv),x,some (.ref p)])∧H' p = some (.lst ((put (bs.take i)).map V.int))∧Same Hz H'∧H' p11 = some (.lst (bs.map V.int)))
   ⟨⟨_,rfl⟩,e0',g0',e11⟩ (fun i σ H' _ z=>SqL.of z.2.2.2) ?_ ?_⟩
  ·rintro i x σ H' hx ⟨⟨y,rfl⟩,h1,h3,hq⟩
   obtain⟨hi,rfl⟩:=eU hx
   have pl:=jY (bs.take i)
   rw [List.length_take] at pl
   have h4:=iH (bs.take i)
   generalize tU hi = ept
   generalize bs[i] = b at ept
   generalize put (bs.take i) = w at h1 pl h4 ept
   refine⟨⟨_,SqL.of h1⟩,_,h1,cJ (by rw [List.length_map];omega),?_⟩
   have h1':upd H' p (.lst (w.map V.int ++ [.int b])) p = some (.lst ((w ++ [b]).map V.int)):=by rw [aB,List.map_append];rfl
   have h3':Same Hz (upd H' p (.lst (w.map V.int ++ [.int b]))):=h3.put hp
   have hq':upd H' p (.lst (w.map V.int ++ [.int b])) p11 = some (.lst (bs.map V.int)):=by rw [aK np];exact hq
   generalize upd H' p (.lst (w.map V.int ++ [.int b])) = H3 at h1' h3' hq'
   have wl:(w ++ [b]).length = w.length + 1:=by rw [List.length_append,List.length_singleton]
   have r5:run (w ++ [b])≤5:=Nat.le_trans pH (by omega)
   have rl:=qX (w ++ [b])
   have tk:(w ++ [b]).take (w ++ [b]).length = w ++ [b]:=List.take_of_length_le (Nat.le_refl _)
   refine⟨fun σ' H4=>σ' = [some (.ref f),some (.ref pb),ob,some (.int rsv),some (.int b),some (.ref p)]∧H4 p = some (.lst ((pst w b).map V.int))∧Same Hz H4∧H4 p11 = some (.lst (bs.map V.int)),?_,?_⟩
   ·refine ⟨_,SqL.of h1',fun p5 hp5=>?_⟩
    have ec:cutV ((w ++ [b]).map V.int) (some (-5:Int)) none = ((w ++ [b]).drop ((w ++ [b]).length - 5)).map V.int:=lV
    rw [ec]
    have k5:=aH hp5 (.lst (((w ++ [b]).drop ((w ++ [b]).length - 5)).map V.int))
    have e5:=aB (H:=H3) (a:=p5) (o:= .lst (((w ++ [b]).drop ((w ++ [b]).length - 5)).map V.int))
    generalize upd H3 p5 (.lst (((w ++ [b]).drop ((w ++ [b]).length - 5)).map V.int)) = H5 at k5 e5
    refine⟨aJ rfl,fun p6 hp6=>?_⟩
    have k6:=aH hp6 (.lst [.int b])
    have e6:=aB (H:=H5) (a:=p6) (o:= .lst [.int b])
    generalize upd H5 p6 (.lst [.int b]) = H6 at k6 e6
    refine⟨_,e6,⟨by decide,by decide⟩,(by show 1 * 5≤sizeLine;exact small (by decide)),fun p7 hp7=>?_⟩
    have k7:=aH hp7 (.lst (List.replicate (5:Int).toNat [V.int b]).flatten)
    have e7:upd H6 p7 (.lst (List.replicate (5:Int).toNat [V.int b]).flatten) p7 = some (.lst ((List.replicate 5 b).map V.int)):=by rw [aB];rfl
    generalize upd H6 p7 (.lst (List.replicate (5:Int).toNat [V.int b]).flatten) = H7 at k7 e7
    have k37:=k5.trans (k6.trans k7)
    have h1'':=k37 _ _ h1'
    have h3'':=h3'.trans k37
    have hq'':=k37 _ _ hq'
    refine⟨_,_,SqL.of (k7 _ _ (k6 _ _ e5)),SqL.of e7,?_⟩
    have key:(w ++ [b]).drop ((w ++ [b]).length - 5) = List.replicate 5 b↔run (w ++ [b]) = 5:=by
     by_cases c:5≤(w ++ [b]).length
     ·have sr:=rW (w:=w ++ [b]) (n:=5) (k:=(w ++ [b]).length) (by decide) c (Nat.le_refl _) (getD_snoc w b).symm
      rw [tk,List.take_of_length_le (l:=(w ++ [b]).drop ((w ++ [b]).length - 5)) (by rw [List.length_drop];omega)] at sr
      rw [sr]
      omega
     ·constructor
      ·intro z
       have:=congrArg List.length z
       rw [List.length_drop,List.length_replicate] at this
       omega
      ·omega
    conv=>whnf
    refine bG (fun c=>?_) (fun c=>?_)
    ·have c2:run (w ++ [b]) = 5:=key.mp (of_decide_eq_true c)
     have ep:pst w b = w ++ [b] ++ [1 - b]:=by unfold pst;rw [if_pos c2]
     refine⟨⟨_,SqL.of h1''⟩,_,h1'',cJ (by rw [List.length_map];omega),rfl,?_,h3''.put hp,by rw [aK np];exact hq''⟩
     rw [aB,ep,List.map_append (l₁:=w ++ [b])];rfl
    ·have c2:¬ run (w ++ [b]) = 5:=fun z=>c (decide_eq_true (key.mpr z))
     have ep:pst w b = w ++ [b]:=by unfold pst;rw [if_neg c2]
     rw [ep]
     exact⟨rfl,h1'',h3'',hq''⟩
   rintro σ' H4 ⟨rfl,k1,k2,k3⟩
   exact⟨⟨_,rfl⟩,by rw [ept];exact k1,k2,k3⟩
  rintro σ H' ⟨⟨y,rfl⟩,h1,h3,hq⟩
  rw [List.length_map,List.take_of_length_le (Nat.le_refl _)] at h1
  exact q p H' (gs9.none hp) (gs9.trans h3) h1
variable (Zw:FB P w K mg base (CX0) 1 "_law_number" ZfD Zib ["_law_bits_here"] (spNumberOf K))
theorem Zlg (F0:GFm K mg "_law_number" Ziz ZfD Zib):type_of% Zw:=by
 refine fbM ["_law_bits_here","_law_number_here","_law_bit"] F0 fun Sc0=>F0.F.ok Sc0 (fun vs H Q E h=>?_) fun cdv A outer s H vs Q E hr h=>?_
 ·obtain⟨a,bs,rfl,_⟩:=h
  rfl
 obtain⟨a,bs,rfl,hS,hb,hl,q⟩:=h
 have nd:=Sc0.nd
 refine⟨_,(aD (aZ (i:=1) nd rfl (Or.inl rfl) aC) (aD (eE PassesOwn.never rfl (dM (dv 0)) (dC (i:=2) nd rfl (Or.inl rfl)) (aG (aZ (i:=1) nd rfl (Or.inl rfl) (aU bZ (aU dU (dv 1) aC) (dv 2))))) (aG (aL (dv 1))))),?_⟩
 refine⟨⟨_,hS⟩,dO (xs:=bs.map V.int) (fun i σ H'=>(∃x,σ = [some (.ref a),some (.int (numI (bs.take i))),x])∧H' = H) ⟨⟨_,rfl⟩,rfl⟩ (fun i σ H' _ z=>by rw [z.2];exact hS) ?_ ?_⟩
 ·rintro i x σ H' hx ⟨⟨y,rfl⟩,rfl⟩
  obtain⟨hi,rfl⟩:=eU hx
  have hb':Bits (bs.take i):=fun b h=>hb b (List.mem_of_mem_take h)
  have b1:=jZ hb'
  have b2:(2:Int) ^ (bs.take i).length≤2 ^ 450:=lD (by rw [List.length_take];omega)
  refine⟨⟨rH (n:=450) (mX b1.1 (by omega)),dG (by decide) (by decide)⟩,⟨some (.int bs[i]),?_⟩,rfl⟩
  rw [List.take_succ_eq_append_getElem hi,gO]
  rfl
 ·rintro σ H' ⟨⟨y,rfl⟩,rfl⟩
  rw [List.length_map,List.take_of_length_le (Nat.le_refl _),sH hb]
  exact q
variable (Zh:FB P w K mg base (CX0) 1 "_law_fault" Zgc Zi3 ["_law_now","_law_spoke","_law_flags"] (spFlt K))
include ZdJ in
theorem ZlL (F0:GFm K mg "_law_fault" Zjo Zgc Zi3):type_of% Zh:=by
 refine fbM ["_law_now","_law_spoke","_law_flags"] F0 fun Sc0=>F0.F.ok Sc0 (fun vs H Q E h=>?_) fun cdv A outer s H vs Q E hr h=>?_
 ·obtain⟨N,w,n,v2,v3,m,v6,t,sp,fl,rfl,_⟩:=h
  rfl
 obtain⟨N,w,n,v2,v3,m,v6,t,sp,fl,rfl,eN,q⟩:=h
 have nd:=Sc0.nd
 refine⟨_,(aD (bT (aU bZ (aW bC (dv 0) aC (fun _ _=>rfl)) (aW bC (bN (aA aC (aA aC aF))) (cT vG rfl ZdJ oX (aA (dv 1) aF)) (fun _ _=>rfl))) (bU (dv 0) aC bR)) (aD (bT aC (bU (dv 0) aC bR)) (aD (bT (jF (dv 2) (jC (wZ (dv 1)))) (bU (dv 0) aC bR)) (aD (aY (aR jT (aW bC (dv 0) aC (fun _ _=>rfl)) aC (aM _)) (aD (bT aQ (bU (dv 0) aC bR)) (aG (aL aQ))) aP) (aD (aY (cV (bJ (dv 2))) (aD (bT aQ (bU (dv 0) aC bR)) (aG (aL aQ))) aP) (aD (bT aQ (bU (dv 0) aC bR)) (aD (bT aC (bU (dv 0) aC bR)) (aG (aL aQ))))))))),?_⟩
 refine⟨_,_,SqL.of eN,rfl,aJ rfl,fun p hp=>?_⟩
 have g:=aH hp (.lst [.int 1,.int 8])
 have e1:=aB (H:=H) (a:=p) (o:= .lst [.int 1,.int 8])
 generalize upd H p _ = H1 at g e1
 have eN1:=g _ _ eN
 have qq:=q H1 g
 clear q
 rcases sp with _ | _ <;> rcases fl with _ | _
 ·refine⟨_,_,SqL.of e1,rfl,_,5,eN1,rfl,_,1,aB,rfl,_,4,aB,rfl,_,_,SqL.of aB,rfl,?_⟩
  refine bG (fun c=>?_) (fun c=>?_)
  ·have c1:18≤fT t false:=dec_true c
   have z1:fltS t false false = .off:=if_pos c1
   have z2:fltW t false false = ("off":Str):=if_pos c1
   rw [z1,z2] at qq
   refine⟨_,0,aB,rfl,?_⟩
   rw [bA,bA,bA]
   exact qq
  ·have c1:¬ 18≤fT t false:=dec_false c
   have z1:fltS t false false = .settles false:=if_neg c1
   have z2:fltW t false false = ("refuses":Str):=if_neg c1
   rw [z1,z2] at qq
   refine⟨_,0,aB,rfl,?_⟩
   rw [bA,bA,bA]
   exact qq
 ·refine⟨_,_,SqL.of e1,rfl,_,5,eN1,rfl,_,1,aB,rfl,_,4,aB,rfl,_,_,SqL.of aB,rfl,?_⟩
  refine bG (fun c=>?_) (fun c=>?_)
  ·have c1:18≤fT t false:=dec_true c
   have z1:fltS t false true = .off:=if_pos c1
   have z2:fltW t false true = ("off":Str):=if_pos c1
   rw [z1,z2] at qq
   refine⟨_,0,aB,rfl,?_⟩
   rw [bA,bA,bA]
   exact qq
  ·have c1:¬ 18≤fT t false:=dec_false c
   have z1:fltS t false true = .flag 6 true:=if_neg c1
   have z2:fltW t false true = ("fault":Str):=if_neg c1
   rw [z1,z2] at qq
   refine⟨_,0,aB,rfl,?_⟩
   refine⟨_,1,aB,rfl,?_⟩
   rw [bA,bA,bA,bA]
   exact qq
 ·refine⟨_,_,SqL.of e1,rfl,_,5,eN1,rfl,_,1,aB,rfl,_,4,aB,rfl,_,_,SqL.of aB,rfl,?_⟩
  refine bG (fun c=>?_) (fun c=>?_)
  ·have c1:18≤fT t true:=dec_true c
   have z1:fltS t true false = .off:=if_pos c1
   have z2:fltW t true false = ("off":Str):=if_pos c1
   rw [z1,z2] at qq
   refine⟨_,0,aB,rfl,?_⟩
   rw [bA,bA,bA]
   exact qq
  ·have c1:¬ 18≤fT t true:=dec_false c
   have z1:fltS t true false = .settles false:=if_neg c1
   have z2:fltW t true false = ("refuses":Str):=if_neg c1
   rw [z1,z2] at qq
   refine⟨_,0,aB,rfl,?_⟩
   rw [bA,bA,bA]
   exact qq
 ·refine⟨_,_,SqL.of e1,rfl,_,5,eN1,rfl,_,1,aB,rfl,_,4,aB,rfl,_,_,SqL.of aB,rfl,?_⟩
  refine bG (fun c=>?_) (fun c=>?_)
  ·have c1:18≤fT t true:=dec_true c
   have z1:fltS t true true = .off:=if_pos c1
   have z2:fltW t true true = ("off":Str):=if_pos c1
   rw [z1,z2] at qq
   refine⟨_,0,aB,rfl,?_⟩
   rw [bA,bA,bA]
   exact qq
  ·have c1:¬ 18≤fT t true:=dec_false c
   have z1:fltS t true true = .flag 6 false:=if_neg c1
   have z2:fltW t true true = ("fault":Str):=if_neg c1
   rw [z1,z2] at qq
   refine⟨_,0,aB,rfl,?_⟩
   refine⟨_,1,aB,rfl,?_⟩
   rw [bA,bA,bA,bA]
   exact qq
variable (Zb8:FB P w K mg base (CX0) 1 "_law_says" Zha ZjS ["_law_now","_law_queue"] (spLSays K))
include ZZ in
theorem Zmi (F0:GFm K mg "_law_says" Zke Zha ZjS):type_of% Zb8:=by
 refine fbM ["_law_now","_law_queue"] F0 fun Sc0=>F0.F.ok Sc0 (fun vs H Q E h=>?_) fun cdv A outer s H vs Q E hr h=>?_
 ·obtain⟨N,Qa,Ga,lo,Fz,S,rfl,_⟩:=h
  rfl
 obtain⟨N,Qa,Ga,lo,Fz,S,rfl,la,wf,q⟩:=h
 have nd:=Sc0.nd
 refine⟨_,(aD (aY (aR bQ (aW bC (dv 0) aC (fun _ _=>rfl)) aQ (aM _)) (aG (aL aC)) aP) (aD (aY (aR bQ (aW bC (dv 0) aC (fun _ _=>rfl)) aQ (aM _)) (aG (aL (aW bC (aW bC (dv 0) aC (fun _ _=>rfl)) (aW bC (dv 0) aC (fun _ _=>rfl)) (fun _ _=>rfl)))) aP) (aD (aY (PW.pt (cH (aR bQ (aW bC (dv 0) aC (fun _ _=>rfl)) aQ (aM _)) (cN (aR bQ (aW bC (dv 0) aC (fun _ _=>rfl)) aC (aM _))))) (aG (aL aC)) aP) (aD (aY (PW.pt (cH (aR bQ (aW bC (dv 0) aC (fun _ _=>rfl)) aQ (aM _)) (cH (aR pC (bO fD rfl ZZ dR (aA (dv 1) aF)) aC (aM _)) (cN (PW.pt (fH (aR lY (aW bC (dv 0) aC (fun _ _=>rfl)) aC (aM _)) (eY (aR jT (aW bC (dv 0) aC (fun _ _=>rfl)) aC (aM _))))))))) (aG (aL aC)) aP) (aG (aL aC)))))),?_⟩
 obtain⟨v2,v3,m,v6,eN,dt⟩:=la.ex
 obtain⟨ts,eq,fq⟩:=la.b.q
 have hw:=wf.now
 have sy:saysP S = saysP S:=rfl
 conv at sy=>rhs;unfold saysP
 cases en:S.now with
 | free k =>
  rw [en] at eN sy
  refine⟨_,_,SqL.of eN,rfl,?_⟩
  conv=>whnf
  refine⟨_,_,SqL.of eN,rfl,?_⟩
  conv=>whnf
  refine⟨_,_,SqL.of eN,rfl,?_⟩
  conv=>whnf
  refine⟨_,_,SqL.of eN,rfl,?_⟩
  conv=>whnf
  refine⟨_,.inl (SqL.of eq),?_⟩
  rw [fq.len]
  conv=>whnf
  refine bG (fun c=>?_) (fun c=>?_)
  ·have c1:(0:Int) < ((S.wt.length:Nat):Int):=dec_true c
   have hne:S.wt≠ []:=fun z=>by rw [z] at c1;exact absurd c1 (by decide)
   refine⟨_,_,SqL.of eN,rfl,?_⟩
   conv=>whnf
   refine bG (fun d=>?_) (fun d=>?_)
   ·have d1:S.tot < 12:=dec_true d
    rw [sy] at q
    dsimp only at q
    rw [if_neg hne,if_neg (by omega)] at q
    exact q
   ·have d1:¬ S.tot < 12:=dec_false d
    refine⟨_,_,SqL.of eN,rfl,?_⟩
    conv=>whnf
    refine bG (fun f=>?_) (fun f=>?_)
    ·have f1:(8:Int)≤((k:Nat):Int):=dec_true f
     rw [sy] at q
     dsimp only at q
     rw [if_neg hne,if_neg (by omega)] at q
     exact q
    ·have f1:¬ (8:Int)≤((k:Nat):Int):=dec_false f
     rw [sy] at q
     dsimp only at q
     rw [if_neg hne,if_pos (by omega)] at q
     exact q
  ·have c1:¬ (0:Int) < ((S.wt.length:Nat):Int):=dec_false c
   rw [sy] at q
   dsimp only at q
   rw [if_pos (List.eq_nil_of_length_eq_zero (by omega))] at q
   exact q
 | speaks n ds k=>
  rw [en] at eN sy hw dt
  obtain⟨a2,a3,a6,rfl,rfl,rfl,h2,h3,h6,_⟩:=dt
  refine⟨_,_,SqL.of eN,rfl,?_⟩
  conv=>whnf
  refine⟨_,_,SqL.of eN,rfl,?_⟩
  conv=>whnf
  refine⟨_,_,SqL.of eN,rfl,_,_,SqL.of eN,rfl,_,_,SqL.of h6,iY hw.2.2.1,?_⟩
  rw [sy] at q
  dsimp only at q
  rw [List.getD_eq_getElem?_getD,List.getElem?_eq_getElem hw.2.2.1] at q
  exact q
 | tlR n ds v c=>
  rw [en] at eN sy
  refine⟨_,_,SqL.of eN,rfl,?_⟩
  conv=>whnf
  refine⟨_,_,SqL.of eN,rfl,?_⟩
  conv=>whnf
  refine⟨_,_,SqL.of eN,rfl,?_⟩
  conv=>whnf
  refine⟨_,_,SqL.of eN,rfl,?_⟩
  conv=>whnf
  refine bG (fun d=>?_) (fun d=>?_)
  ·have d1:((v:Nat):Int) = 1:=dec_true d
   rw [sy] at q
   dsimp only at q
   unfold tlSays at q
   rw [if_pos ⟨by omega,rfl⟩] at q
   exact q
  ·have d1:¬ ((v:Nat):Int) = 1:=dec_false d
   refine⟨_,_,SqL.of eN,rfl,?_⟩
   conv=>whnf
   rw [sy] at q
   dsimp only at q
   unfold tlSays at q
   rw [if_neg (fun z=>by omega)] at q
   exact q
 | tlS v c=>
  rw [en] at eN sy
  refine⟨_,_,SqL.of eN,rfl,?_⟩
  conv=>whnf
  refine⟨_,_,SqL.of eN,rfl,?_⟩
  conv=>whnf
  refine⟨_,_,SqL.of eN,rfl,?_⟩
  conv=>whnf
  refine⟨_,_,SqL.of eN,rfl,?_⟩
  conv=>whnf
  rw [sy] at q
  dsimp only at q
  unfold tlSays at q
  rw [if_neg (fun z=>by cases z.2)] at q
  exact q
 | flag l m'=>
  rw [en] at eN sy
  refine⟨_,_,SqL.of eN,rfl,?_⟩
  conv=>whnf
  rw [sy] at q
  exact q
 | reads h=>
  rw [en] at eN sy
  refine⟨_,_,SqL.of eN,rfl,?_⟩
  conv=>whnf
  refine⟨_,_,SqL.of eN,rfl,?_⟩
  conv=>whnf
  refine⟨_,_,SqL.of eN,rfl,?_⟩
  conv=>whnf
  refine⟨_,_,SqL.of eN,rfl,?_⟩
  conv=>whnf
  rw [sy] at q
  exact q
 | settles m'=>
  rw [en] at eN sy
  refine⟨_,_,SqL.of eN,rfl,?_⟩
  conv=>whnf
  refine⟨_,_,SqL.of eN,rfl,?_⟩
  conv=>whnf
  refine⟨_,_,SqL.of eN,rfl,?_⟩
  conv=>whnf
  refine⟨_,_,SqL.of eN,rfl,?_⟩
  conv=>whnf
  rw [sy] at q
  exact q
 | rests l=>
  rw [en] at eN sy
  refine⟨_,_,SqL.of eN,rfl,?_⟩
  conv=>whnf
  refine⟨_,_,SqL.of eN,rfl,?_⟩
  conv=>whnf
  refine⟨_,_,SqL.of eN,rfl,?_⟩
  conv=>whnf
  refine⟨_,_,SqL.of eN,rfl,?_⟩
  conv=>whnf
  rw [sy] at q
  exact q
 | off=>
  rw [en] at eN sy
  refine⟨_,_,SqL.of eN,rfl,?_⟩
  conv=>whnf
  refine⟨_,_,SqL.of eN,rfl,?_⟩
  conv=>whnf
  refine⟨_,_,SqL.of eN,rfl,?_⟩
  conv=>whnf
  refine⟨_,_,SqL.of eN,rfl,?_⟩
  conv=>whnf
  rw [sy] at q
  exact q
variable (Zb6:FB P w K mg base (CX0) 2 "_law_calm" Zg7 ZjP ["_law_now","_law_bit"] (spCalm K))
include Zh in
theorem Zmf (F0:GFm K mg "_law_calm" Zkb Zg7 ZjP):type_of% Zb6:=by
 refine fbM ["_law_now","_law_bit","_law_blamed"] F0 fun Sc0=>F0.F.ok Sc0 (fun vs H Q E h=>?_) fun cdv A outer s H vs Q E hr h=>?_
 ·obtain⟨N,Qa,Ga,lo,Fz,S,b,rfl,_⟩:=h
  rfl
 obtain⟨N,Qa,Ga,lo,Fz,S,b,rfl,la,wf,hb,hs,q⟩:=h
 have nd:=Sc0.nd
 refine⟨_,(aD (aY (aR bQ (aW bC (dv 0) aC (fun _ _=>rfl)) aQ (aM _)) (aD (bT (aU fC (aW bC (dv 0) aC (fun _ _=>rfl)) aC) (bU (dv 0) aC bR)) (aD (aY (aR bQ (aW bC (dv 0) aC (fun _ _=>rfl)) aC (aM _)) (aG (bT aQ (bU (dv 0) aC bR))) aP) (aG (aL aQ)))) aP) (aD (aY (aR bQ (aW bC (dv 0) aC (fun _ _=>rfl)) aQ (aM _)) (aD (aZ (i:=2) nd rfl (Or.inl rfl) (jF (aW bC (dv 0) aC (fun _ _=>rfl)) (jC (bW bQ (dv 1) aC (aM _))))) (aD (bT cL (bU (dv 0) aC bR)) (aD (aY (aR bQ (dv 1) aC (aM _)) (aD (bT aQ (bU (dv 0) aC bR)) (aG (bT aC (bU (dv 0) aC bR)))) aP) (aD (aY (bJ (dv 2)) (aG (bT (aU bZ (aW bC (dv 0) aC (fun _ _=>rfl)) aC) (bU (dv 0) aC bR))) aP) (aD (aY (aR jT (aW bC (dv 0) aC (fun _ _=>rfl)) aC (aM _)) (aD (bT aQ (bU (dv 0) aC bR)) (aG (aL aQ))) aP) (aG (aL aQ))))))) aP) (aD (aY (PW.pt (cH (aR bQ (aW bC (dv 0) aC (fun _ _=>rfl)) aQ (aM _)) (cN (aR bQ (dv 1) aC (aM _))))) (aG (aL (aO Zh.1 (hr.mono (by decide)) rfl Zh.2.2.2 Zh.2.2.1 Zh.2.1 .nil aN (aA (dv 0) (aA cL (aA cL aF)))))) aP) (aD (aY (aR bQ (aW bC (dv 0) aC (fun _ _=>rfl)) aQ (aM _)) (aD (bT (aU fC (aW bC (dv 0) aC (fun _ _=>rfl)) aC) (bU (dv 0) aC bR)) (aG (aY (aR bQ (aW bC (dv 0) aC (fun _ _=>rfl)) aC (aM _)) (aG (bT aQ (bU (dv 0) aC bR))) aP))) aP) (aG (aL aQ)))))),?_⟩
 obtain⟨v2,v3,m,v6,eN,dt⟩:=la.ex
 have hw:=wf.now
 rcases hs with ⟨l,m',en⟩ | ⟨m',en⟩ | ⟨l,en⟩ | en
 ·rw [en] at eN dt hw
  have dt':m = m':=dt
  subst dt'
  have hl:1≤l:=hw
  have ne:S.now≠ .off:=by rw [en];intro z;cases z
  rw [gU en] at q
  refine⟨_,_,SqL.of eN,rfl,?_⟩
  conv=>whnf
  refine⟨_,_,SqL.of eN,rfl,?_⟩
  dsimp only [tC]
  refine jG (f:=fun i j=>V.int (i - j)) (i:=((l:Nat):Int)) (j:=1) (x:= .int ((l - 1:Nat):Int)) (by show V.int (((l:Nat):Int) - 1) = _;rw [show ((l:Nat):Int) - 1 = ((l - 1:Nat):Int) by omega]) ?_
  refine⟨_,1,eN,rfl,_,_,SqL.of aB,rfl,?_⟩
  conv=>whnf
  refine bG (fun c=>?_) (fun c=>?_)
  ·have c1:((l - 1:Nat):Int) = 0:=dec_true c
   rw [if_pos (show l = 1 by omega)] at q
   refine⟨_,0,aB,rfl,?_⟩
   rw [bA]
   have e0:l - 1 = 0:=by omega
   rw [e0]
   have lv:=la.live (S':={ S with now:= .settles m }) ne rfl
   exact q lo Fz _ la.b.mvN (fun _ z=> .inl z)  (LawB.row (S':={ S with now:= .settles m }) la.b rfl lv.1 lv.2)
  ·have c1:¬ ((l - 1:Nat):Int) = 0:=dec_false c
   rw [if_neg (show ¬ l = 1 by omega)] at q
   have lv:=la.live (S':={ S with now:= .flag (l - 1) m }) ne rfl
   exact q lo Fz _ la.b.mvN (fun _ z=> .inl z)  (LawB.row (S':={ S with now:= .flag (l - 1) m }) la.b rfl lv.1 lv.2)
 ·rw [en] at eN dt
  have dt':m = m':=dt
  subst dt'
  have ne:S.now≠ .off:=by rw [en];intro z;cases z
  have t18:=la.t1 ne
  have t0:=la.t0
  rw [eO en] at q
  refine⟨_,_,SqL.of eN,rfl,?_⟩
  conv=>whnf
  refine⟨_,_,SqL.of eN,rfl,?_⟩
  conv=>whnf
  rcases hb with rfl | rfl
  ·cases m
   ·rw [if_neg (by decide),if_neg (by decide)] at q
    refine⟨_,_,SqL.of eN,rfl,?_⟩
    conv=>whnf
    refine⟨_,4,eN,rfl,?_⟩
    conv=>whnf
    refine⟨_,_,SqL.of aB,rfl,?_⟩
    conv=>whnf
    refine bG (fun c=>absurd (show (18:Int)≤S.tot from dec_true c) (by omega)) (fun c=>?_)
    have z:=LawB.row (S':=S) (v2:=v2) (v3:=v3) (v6:=v6) (m:=false) la.b (by rw [en];rfl) t0 la.t1
    rw [en] at z
    exact q lo Fz _ la.b.mvN (fun _ z=> .inl z)  z
   ·rw [if_neg (by decide),if_pos rfl] at q
    refine⟨_,_,SqL.of eN,rfl,?_⟩
    conv=>whnf
    refine⟨_,4,eN,rfl,?_⟩
    conv=>whnf
    refine⟨_,_,SqL.of aB,rfl,_,5,aB,rfl,_,_,SqL.of aB,rfl,?_⟩
    conv=>whnf
    have hm:mvd S.tot 8 = S.tot + 8:=by unfold mvd;rw [if_neg (by omega)];omega
    unfold blameP goneP at q
    rw [hm] at q
    refine bG (fun c=>?_) (fun c=>?_)
    ·have c1:(18:Int)≤S.tot + 8:=dec_true c
     rw [if_pos c1] at q
     refine⟨_,0,aB,rfl,?_⟩
     rw [bA,bA]
     exact q lo Fz _ la.b.mvN (fun _ z=> .inl z)  (LawB.row (S':={ S with tot:=S.tot + 8,now:= .off }) la.b trivial (by show 0≤S.tot + 8;omega) fun z=>absurd rfl z)
    ·have c1:¬ (18:Int)≤S.tot + 8:=dec_false c
     rw [if_neg c1] at q
     rw [bA]
     exact q lo Fz _ la.b.mvN (fun _ z=> .inl z)  (LawB.row (S':={ S with tot:=S.tot + 8,now:= .settles false }) la.b rfl (by show 0≤S.tot + 8;omega) fun _=>by show S.tot + 8 < 18;omega)
  ·rw [if_pos rfl] at q
   have z:=fun m=>LawB.row (S':={ S with now:= .rests 3 }) (v2:=v2) (v3:=v3) (v6:=v6) (m:=m) la.b trivial t0 fun _=>t18
   cases m
   all_goals refine⟨_,_,SqL.of eN,rfl,?_⟩
   all_goals (conv=>whnf)
   all_goals refine⟨_,4,eN,rfl,?_⟩
   all_goals (conv=>whnf)
   all_goals refine⟨_,0,aB,rfl,_,1,aB,rfl,?_⟩
   all_goals (conv=>whnf)
   all_goals refine⟨_,_,SqL.of aB,rfl,?_⟩
   all_goals (conv=>whnf)
   all_goals refine bG (fun c=>absurd (show (18:Int)≤S.tot from dec_true c) (by omega)) (fun c=>?_)
   all_goals rw [bA,bA]
   all_goals exact q lo Fz _ la.b.mvN (fun _ z=> .inl z)  (z false)
 ·rw [en] at eN hw
  have hl:1≤l:=hw
  have ne:S.now≠ .off:=by rw [en];intro z;cases z
  have t18:=la.t1 ne
  have t0:=la.t0
  rw [fZ en] at q
  refine⟨_,_,SqL.of eN,rfl,?_⟩
  conv=>whnf
  refine⟨_,_,SqL.of eN,rfl,?_⟩
  conv=>whnf
  refine⟨_,_,SqL.of eN,rfl,?_⟩
  conv=>whnf
  rcases hb with rfl | rfl
  ·rw [if_pos rfl] at q
   conv=>whnf
   refine⟨N,_,_,v2,v3,_,v6,S.tot,false,true,rfl,eN,fun H1 g=>?_⟩
   obtain⟨f1,f2⟩:=LawB.flt (S:=S) (sp:=false) (v2:=v2) (v3:=v3) (v6:=v6) (la.b.same g) t0 t18
   rw [f1]
   exact q lo Fz _ ((Mv.of g).trans (la.b.same g).mvN) (fun _ z=> .inl z) f2
  ·rw [if_neg (by decide)] at q
   conv=>whnf
   refine⟨_,_,SqL.of eN,rfl,?_⟩
   conv=>whnf
   refine⟨_,_,SqL.of eN,rfl,?_⟩
   dsimp only [tC]
   refine jG (f:=fun i j=>V.int (i - j)) (i:=((l:Nat):Int)) (j:=1) (x:= .int ((l - 1:Nat):Int)) (by show V.int (((l:Nat):Int) - 1) = _;rw [show ((l:Nat):Int) - 1 = ((l - 1:Nat):Int) by omega]) ?_
   refine⟨_,1,eN,rfl,_,_,SqL.of aB,rfl,?_⟩
   conv=>whnf
   refine bG (fun c=>?_) (fun c=>?_)
   ·have c1:((l - 1:Nat):Int) = 0:=dec_true c
    rw [if_pos (show l = 1 by omega)] at q
    refine⟨_,0,aB,rfl,?_⟩
    rw [bA]
    have e0:l - 1 = 0:=by omega
    rw [e0]
    exact q lo Fz _ la.b.mvN (fun _ z=> .inl z)  (LawB.row (S':={ S with now:= .free 0 }) la.b trivial t0 fun _=>t18)
   ·have c1:¬ ((l - 1:Nat):Int) = 0:=dec_false c
    rw [if_neg (show ¬ l = 1 by omega)] at q
    exact q lo Fz _ la.b.mvN (fun _ z=> .inl z)  (LawB.row (S':={ S with now:= .rests (l - 1) }) la.b trivial t0 fun _=>t18)
 ·rw [en] at eN
  rw [iU en] at q
  refine⟨_,_,SqL.of eN,rfl,?_⟩
  conv=>whnf
  refine⟨_,_,SqL.of eN,rfl,?_⟩
  conv=>whnf
  refine⟨_,_,SqL.of eN,rfl,?_⟩
  conv=>whnf
  refine⟨_,_,SqL.of eN,rfl,?_⟩
  conv=>whnf
  exact q lo Fz H Mv.refl (fun _ z=> .inl z) la
variable (Zb7:FB P w K mg base (CX0) 3 "_law_free" Zg9 ZjR ["_law_now","_law_said","_law_bit","_law_queue"] (spFree K))
include Zao ZZ Zak Zh in
theorem Zmh (F0:GFm K mg "_law_free" Zkd Zg9 ZjR):type_of% Zb7:=by
 refine fbM ["_law_now","_law_said","_law_bit","_law_queue"] F0 fun Sc0=>F0.F.ok Sc0 (fun vs H Q E h=>?_) fun cdv A outer s H vs Q E hr h=>?_
 ·obtain⟨N,Qa,Ga,lo,Fz,S,b,k,rfl,_⟩:=h
  rfl
 obtain⟨N,Qa,Ga,lo,Fz,S,b,k,rfl,la,wf,hb,en,q⟩:=h
 have nd:=Sc0.nd
 refine⟨_,(aD (aY (PW.pt (cH (aR bQ (dv 1) aC (aM _)) (cN (aR bQ (dv 2) aC (aM _))))) (aG (aL (aO Zh.1 (hr.mono (by decide)) rfl Zh.2.2.2 Zh.2.2.1 Zh.2.1 .nil aN (aA (dv 0) (aA cL (aA cL aF)))))) aP) (aD (bT (aU bZ (aW bC (dv 0) aC (fun _ _=>rfl)) aC) (bU (dv 0) aC bR)) (aD (aY (aR bQ (dv 2) aC (aM _)) (aG (aL aQ)) aP) (aD (bT aC (bU (dv 0) aC bR)) (aD (bT (bN (aA aC aF)) (bU (dv 0) aC bR)) (aD (bT (bN (aA aC aF)) (bU (dv 0) aC bR)) (aD (bT aQ (bU (dv 0) aC bR)) (aD (aY (aR bQ (dv 1) aC (aM _)) (aG (aL aQ)) aP) (aD (bT aQ (bU (dv 0) aC bR)) (aD (bT (aO Zak.1 (hr.mono (by decide)) rfl Zak.2.2.2 Zak.2.2.1 Zak.2.1 .nil aN (aA (aW bC (dv 3) aC (fun _ _=>rfl)) aF)) (bU (dv 0) aC bR)) (aG (aL aQ)))))))))))),?_⟩
 obtain⟨v2,v3,m,v6,eN,dt⟩:=la.ex
 have ne:S.now≠ .off:=by rw [en];intro z;cases z
 have t18:=la.t1 ne
 have t0:=la.t0
 rw [en] at eN
 rw [gR en] at q
 have s01:saysP S = 0∨saysP S = 1:=by
  rw [iG en]
  split
  ·exact .inr rfl
  ·split
   ·exact .inr rfl
   ·exact .inl rfl
 have hwt:saysP S = 0→S.wt≠ []:=fun z w=>by
  rw [iG en,if_pos w] at z
  cases z
 generalize saysP S = sd at q s01 hwt
 rcases hb with rfl | rfl
 ·rcases s01 with rfl | rfl
  ·rw [if_pos rfl,if_pos rfl] at q
   conv=>whnf
   refine⟨_,_,SqL.of eN,rfl,_,1,eN,rfl,?_⟩
   conv=>whnf
   refine⟨_,1,aB,rfl,?_⟩
   rw [bA]
   generalize hX:upd H N _ = H1
   have eN1:H1 N = some (.lst [.str "free",.int 1,v2,v3,.bl m,.int S.tot,v6]):=by rw [←hX];exact aB
   obtain⟨b1,m1⟩:LawB H1 lo Fz N Qa Ga S.wt S.up∧Mv lo H lo H1:=by rw [←hX];exact la.b.setN "free" _
   clear hX
   refine⟨aJ rfl,fun a2 h2=>?_⟩
   have g2:=aH h2 (.lst [.int 0])
   have e2:upd H1 a2 (.lst [.int 0]) a2 = some (.lst (([0]:List Int).map V.int)):=aB
   have b2:=b1.gain g2 h2 (by rw [e2];simp)
   obtain⟨n2,nq2,ng2⟩:=b1.new h2
   have m2:Mv lo H1 _ _:=fW g2 h2
   generalize upd H1 a2 _ = H2 at g2 e2 b2 m2
   refine⟨_,2,g2 _ _ eN1,rfl,?_⟩
   generalize hX:upd H2 N _ = H3
   have eN3:H3 N = some (.lst [.str "free",.int 1,.ref a2,v3,.bl m,.int S.tot,v6]):=by rw [←hX];exact aB
   have e23:H3 a2 = some (.lst (([0]:List Int).map V.int)):=by rw [←hX,aK n2];exact e2
   obtain⟨b3,m3⟩:LawB H3 _ Fz N Qa Ga S.wt S.up∧Mv _ H2 _ H3:=by rw [←hX];exact b2.setN "free" _
   clear hX
   refine⟨aJ rfl,fun a3 h3=>?_⟩
   have g4:=aH h3 (.lst [.int 0])
   have e3:upd H3 a3 (.lst [.int 0]) a3 = some (.lst (([0]:List Int).map V.int)):=aB
   have b4:=b3.gain g4 h3 (by rw [e3];simp)
   obtain⟨n3,nq3,ng3⟩:=b3.new h3
   have n23:a2≠a3:=fun z=>by rw [z,h3] at e23;cases e23
   have m4:Mv (Or2 lo fun x=>x = a2) H3 (Or2 (Or2 lo fun x=>x = a2) fun x=>x = a3) _:=fW g4 h3
   have e24:=g4 _ _ e23
   generalize upd H3 a3 _ = H4 at g4 e3 b4 m4 e24
   have mm:=m1.trans (m2.trans (m3.trans m4))
   refine⟨_,3,g4 _ _ eN3,rfl,_,0,aB,rfl,?_⟩
   rw [bA]
   conv=>whnf
   obtain⟨f,r,ew⟩:∃f r,S.wt = f :: r:=by
    cases hz:S.wt with
    | nil=>exact absurd hz (hwt rfl)
    | cons f r=>exact⟨f,r,rfl⟩
   have fn:=wf.wt f (by rw [ew];exact List.mem_cons_self)
   have eh:S.wt.headD (0, []) = f:=by rw [ew];rfl
   rw [eh] at q
   refine⟨_,0,aB,rfl,?_⟩
   rw [bA]
   generalize hX:upd H4 N _ = H5
   have eN5:H5 N = some (.lst [.str "speaks",.int 1,.ref a2,.ref a3,.bl m,.int S.tot,v6]):=by rw [←hX];exact aB
   have e25:H5 a2 = some (.lst (([0]:List Int).map V.int)):=by rw [←hX,aK n2];exact e24
   have e35:H5 a3 = some (.lst (([0]:List Int).map V.int)):=by rw [←hX,aK n3];exact e3
   obtain⟨b5,m5⟩:LawB H5 (Or2 (Or2 lo fun x=>x = a2) fun x=>x = a3) Fz N Qa Ga S.wt S.up∧Mv (Or2 (Or2 lo fun x=>x = a2) fun x=>x = a3) H4 _ H5:=by rw [←hX];exact b4.setN "speaks" _
   clear hX
   obtain⟨ts,eq,fq⟩:=b5.q
   rw [ew] at fq
   cases fq with
   | cons ft rq=>
    obtain⟨d,et,ed,_⟩:=ft
    refine⟨_,_,SqL.of eq,fK (j:=0) rfl,_,d,f.1,f.2,rfl,et,ed,fn.1,fn.2.1,fn.2.2,fun a6 H6 h6 g6 e6=>?_⟩
    obtain⟨n6,nq6,ng6⟩:=b5.new h6
    have b6:=b5.gain g6 h6 (by rw [e6];simp)
    have m6:Mv (Or2 (Or2 lo fun x=>x = a2) fun x=>x = a3) H5 (Or2 (Or2 (Or2 lo fun x=>x = a2) fun x=>x = a3) fun x=>x = a6) H6:=fW g6 h6
    refine⟨_,6,g6 _ _ eN5,rfl,?_⟩
    have w1:(wr f.1 f.2).take 1 = [0]:=vM
    exact q _ Fz _ (mm.trans (m5.trans (m6.trans b6.mvN))) (fun _ z=> .inl z) (LawB.row (S':={ S with now:= .speaks f.1 f.2 1 }) b6 ⟨a2,a3,a6,rfl,rfl,rfl,by rw [w1];exact g6 _ _ e25,by rw [w1,kp0];exact g6 _ _ e35,e6,.inl (.inl (.inr rfl)),.inl (.inr rfl),.inr rfl,n23,(fun z=>by rw [z,e25] at h6;cases h6),(fun z=>by rw [z,e35] at h6;cases h6),nq2,ng2,nq3,ng3,nq6,ng6⟩ t0 fun _=>t18)
  ·rw [if_neg (by decide),if_pos rfl] at q
   conv=>whnf
   refine⟨_,_,SqL.of eN,rfl,_,1,eN,rfl,?_⟩
   conv=>whnf
   refine⟨_,1,aB,rfl,?_⟩
   rw [bA]
   generalize hX:upd H N _ = H1
   have eN1:H1 N = some (.lst [.str "free",.int 1,v2,v3,.bl m,.int S.tot,v6]):=by rw [←hX];exact aB
   obtain⟨b1,m1⟩:LawB H1 lo Fz N Qa Ga S.wt S.up∧Mv lo H lo H1:=by rw [←hX];exact la.b.setN "free" _
   clear hX
   refine⟨aJ rfl,fun a2 h2=>?_⟩
   have g2:=aH h2 (.lst [.int 0])
   have e2:upd H1 a2 (.lst [.int 0]) a2 = some (.lst (([0]:List Int).map V.int)):=aB
   have b2:=b1.gain g2 h2 (by rw [e2];simp)
   obtain⟨n2,nq2,ng2⟩:=b1.new h2
   have m2:Mv lo H1 _ _:=fW g2 h2
   generalize upd H1 a2 _ = H2 at g2 e2 b2 m2
   refine⟨_,2,g2 _ _ eN1,rfl,?_⟩
   generalize hX:upd H2 N _ = H3
   have eN3:H3 N = some (.lst [.str "free",.int 1,.ref a2,v3,.bl m,.int S.tot,v6]):=by rw [←hX];exact aB
   have e23:H3 a2 = some (.lst (([0]:List Int).map V.int)):=by rw [←hX,aK n2];exact e2
   obtain⟨b3,m3⟩:LawB H3 _ Fz N Qa Ga S.wt S.up∧Mv _ H2 _ H3:=by rw [←hX];exact b2.setN "free" _
   clear hX
   refine⟨aJ rfl,fun a3 h3=>?_⟩
   have g4:=aH h3 (.lst [.int 0])
   have e3:upd H3 a3 (.lst [.int 0]) a3 = some (.lst (([0]:List Int).map V.int)):=aB
   have b4:=b3.gain g4 h3 (by rw [e3];simp)
   obtain⟨n3,nq3,ng3⟩:=b3.new h3
   have n23:a2≠a3:=fun z=>by rw [z,h3] at e23;cases e23
   have m4:Mv (Or2 lo fun x=>x = a2) H3 (Or2 (Or2 lo fun x=>x = a2) fun x=>x = a3) _:=fW g4 h3
   have e24:=g4 _ _ e23
   generalize upd H3 a3 _ = H4 at g4 e3 b4 m4 e24
   have mm:=m1.trans (m2.trans (m3.trans m4))
   refine⟨_,3,g4 _ _ eN3,rfl,_,0,aB,rfl,?_⟩
   rw [bA]
   conv=>whnf
   exact q _ Fz _ (mm.trans b4.mvN) (fun _ z=> .inl z) (LawB.row (S':={ S with now:= .reads [0] }) b4 ⟨a2,a3,rfl,rfl,e24,by rw [kp0];exact e3,.inl (.inr rfl),.inr rfl,n23,nq2,ng2,nq3,ng3⟩ t0 fun _=>t18)
 ·rcases s01 with rfl | rfl
  ·rw [if_pos rfl,if_neg (by decide)] at q
   conv=>whnf
   refine⟨N,_,_,v2,v3,_,v6,S.tot,true,true,rfl,eN,fun H1 g=>?_⟩
   obtain⟨f1,f2⟩:=LawB.flt (S:=S) (sp:=true) (v2:=v2) (v3:=v3) (v6:=v6) (la.b.same g) t0 t18
   rw [f1]
   exact q lo Fz _ ((Mv.of g).trans (la.b.same g).mvN) (fun _ z=> .inl z) f2
  ·rw [if_neg (by decide),if_neg (by decide)] at q
   conv=>whnf
   refine⟨_,_,SqL.of eN,rfl,?_⟩
   dsimp only [tC]
   refine jG (f:=fun i j=>V.int (i + j)) (i:=((k:Nat):Int)) (j:=1) (x:= .int ((k + 1:Nat):Int)) (by show V.int (((k:Nat):Int) + 1) = _;rw [show ((k:Nat):Int) + 1 = ((k + 1:Nat):Int) by omega]) ?_
   refine⟨_,1,eN,rfl,?_⟩
   conv=>whnf
   exact q lo Fz _ la.b.mvN (fun _ z=> .inl z)  (LawB.row (S':={ S with now:= .free (k + 1) }) la.b trivial t0 fun _=>t18)
variable (Zbv:FB P w K mg base (CX0) 2 "_law_wired" Zgf Zi6 ["_law_now","_law_said","_law_bit"] (spWired K))
include ZZ ZdJ Zw Zh in
theorem ZlO (F0:GFm K mg "_law_wired" Zjr Zgf Zi6):type_of% Zbv:=by
 refine fbM ["_law_now","_law_said","_law_bit","_law_spoke","_law_ahead","_law_rest","_law_one"] F0 fun Sc0=>F0.F.ok Sc0 (fun vs H Q E h=>?_) fun cdv A outer s H vs Q E hr h=>?_
 ·obtain⟨N,Qa,Ga,lo,Fz,S,b,rfl,_⟩:=h
  rfl
 obtain⟨N,Qa,Ga,lo,Fz,S,b,rfl,la,wf,hb,hs,q⟩:=h
 have nd:=Sc0.nd
 refine⟨_,(aD (aZ (i:=3) nd rfl (Or.inl rfl) (bW bQ (aW bC (dv 0) aC (fun _ _=>rfl)) aQ (aM _))) (aD (aZ (i:=4) nd rfl (Or.inl rfl) (bO fD rfl ZZ dR (aA (aW bC (dv 0) aC (fun _ _=>rfl)) aF))) (aD (dJ (aY (aR (a2O hr.units) (cF fM (aW bC (dv 0) aC (fun _ _=>rfl)) (cC (jO jM aC)) fV) (aU gD (bN (aA (aW bC (aW bC (dv 0) aC (fun _ _=>rfl)) (jO jM aC) (fun _ _=>rfl)) aF)) aC) (aM _)) (aG (bF (cD (aW bC (dv 0) aC (fun _ _=>rfl)) (aA (dv 2) aF)))) aP)) (aD (bF (cD (aW bC (dv 0) aC (fun _ _=>rfl)) (aA (dv 2) aF))) (aD (bT (aU bZ (aW bC (dv 0) aC (fun _ _=>rfl)) aC) (bU (dv 0) aC bR)) (aD (aY (aR (vK hr.units) (cF fM (aW bC (dv 0) aC (fun _ _=>rfl)) (cC (jO jM aC)) fV) (aU gD (bN (aA (dv 2) aF)) aC) (aM _)) (aG (aL (aO Zh.1 (hr.mono (by decide)) rfl Zh.2.2.2 Zh.2.2.1 Zh.2.1 .nil aN (aA (dv 0) (aA (dv 3) (aA cL aF)))))) aP) (aD (dJ (aY (PW.pt (cH (bJ (dv 3)) (cH (aR bQ (dv 1) aC (aM _)) (cH (aR bQ (dv 2) aC (aM _)) (cN (aR lY (dv 4) aC (aM _))))))) (aD (bT aQ (bU (dv 0) aC bR)) (aG (aL aQ))) aP)) (aD (dJ (aY (PW.pt (cH (bJ (dv 3)) (cN (aR jA (dv 1) (dv 2) (aM _))))) (aG (aL (aO Zh.1 (hr.mono (by decide)) rfl Zh.2.2.2 Zh.2.2.1 Zh.2.1 .nil aN (aA (dv 0) (aA cL (aA cL aF)))))) aP)) (aD (dJ (aY (PW.pt (fH (aR lY (dv 4) aC (aM _)) (fH (aR (vK hr.units) (cF fM (aW bC (dv 0) aC (fun _ _=>rfl)) (cC (jO jM aC)) fV) (aU gD (bN (aA (dv 2) aF)) aC) (aM _)) (eY (aR lY (bO fD rfl ZZ dR (aA (aW bC (dv 0) aC (fun _ _=>rfl)) aF)) (aU bZ aC (aU dU aC (aO Zw.1 (hr.mono (by decide)) rfl Zw.2.2.2 Zw.2.2.1 Zw.2.1 .nil aN (aA (cF fM (aW bC (dv 0) aC (fun _ _=>rfl)) (cC aC) (cC aC)) aF)))) (aM _)))))) (aG (aL aQ)) aP)) (aD (aZ (i:=5) nd rfl (Or.inl rfl) aC) (aD (eE PassesOwn.never rfl (dM (aW bC (dv 0) aC (fun _ _=>rfl))) (dC (i:=6) nd rfl (Or.inl rfl)) (aD (aZ (i:=5) nd rfl (Or.inl rfl) (aU bZ (aU dU (dv 5) aC) (dv 6))) (aG (aY (aR jT (dv 5) aC (aM _)) (aG (aZ (i:=5) nd rfl (Or.inl rfl) (aU a0M (dv 5) aC))) aP)))) (aD (aY (aR jA (dv 5) aC (aM _)) (aG (aL (aO Zh.1 (hr.mono (by decide)) rfl Zh.2.2.2 Zh.2.2.1 Zh.2.1 .nil aN (aA (dv 0) (aA (dv 3) (aA cL aF)))))) aP) (aD (bT (aW bC (bN (aA aQ (aA aQ aF))) (cT vG rfl ZdJ oX (aA (dv 3) aF)) (fun _ _=>rfl)) (bU (dv 0) aC bR)) (aD (bT aC (bU (dv 0) aC bR)) (aD (bT (bN aF) (bU (dv 0) aC bR)) (aG (aL aQ))))))))))))))))),?_⟩
 have ne:S.now≠ .off:=by
  rcases hs with ⟨_,_,_,en⟩ | ⟨_,en⟩
  ·rw [en];intro z;cases z
  ·rw [en];intro z;cases z
 have t18:=la.t1 ne
 have t0:=la.t0
 obtain⟨sp,h,a2,a3,m,v6,wd,D⟩:=la.wd wf hs
 have hlen:=wL wd.hb wd.on
 have klen:=lO h
 have hsp:((if sp = true then ("speaks":Str) else ("reads":Str)) == ("speaks":Str)) = sp:=by cases sp <;> decide +kernel
 have n2N:a2≠N:=fun z=>by have:=wd.e2;rw [z,wd.eN] at this;exact cM (Option.some.inj this)
 have n3N:a3≠N:=fun z=>by have:=wd.e3;rw [z,wd.eN] at this;exact cM (Option.some.inj this)
 refine⟨_,_,SqL.of wd.eN,rfl,?_⟩
 dsimp only [tC]
 refine xJ hsp ?_
 refine⟨_,_,SqL.of wd.eN,rfl,_,.inl (SqL.of wd.e3),?_⟩
 rw [List.length_map]
 have hlast:atI (h.map V.int) (-1) = some (.int (h.getD (h.length - 1) 0)):=by
  obtain⟨w,c,rfl⟩:∃w c,h = w ++ [c]:=⟨_,_,(List.dropLast_concat_getLast wd.ne).symm⟩
  rw [getD_snoc,List.map_append]
  exact qM _ _
 refine⟨fun σ' H'=>σ' = [some (.ref N),some (.int (saysP S)),some (.int b),some (.bl sp),some (.int (((kp h).length:Nat):Int)),none,none]∧Mv lo H lo H'∧LawB H' lo Fz N Qa Ga S.wt S.up∧H' a3 = some (.lst ((kp (h ++ [b])).map V.int))∧∀x v,x≠a3→H x = some v→H' x = some v,?_,?_⟩
 ·refine⟨_,_,SqL.of wd.eN,rfl,_,SqL.of wd.e2,fun p5 hp5=>?_⟩
  rw [lV]
  have k5:=aH hp5 (.lst ((h.drop (h.length - 5)).map V.int))
  have e5:=aB (H:=H) (a:=p5) (o:= .lst ((h.drop (h.length - 5)).map V.int))
  generalize upd H p5 _ = H5 at k5 e5
  refine⟨_,_,SqL.of (k5 _ _ wd.eN),rfl,_,_,SqL.of (k5 _ _ wd.e2),hlast,?_⟩
  refine⟨aJ rfl,fun p6a hp6a=>?_⟩
  have k6a:=aH hp6a (.lst [.int (h.getD (h.length - 1) 0)])
  have e6a:=aB (H:=H5) (a:=p6a) (o:= .lst [.int (h.getD (h.length - 1) 0)])
  generalize upd H5 p6a (.lst [.int (h.getD (h.length - 1) 0)]) = H6a at k6a e6a
  refine⟨_,e6a,⟨by decide,by decide⟩,(by show 1 * 5≤sizeLine;exact small (by decide)),fun p7a hp7a=>?_⟩
  have k7a:=aH hp7a (.lst (List.replicate (5:Int).toNat [V.int (h.getD (h.length - 1) 0)]).flatten)
  have e7a:upd H6a p7a (.lst (List.replicate (5:Int).toNat [V.int (h.getD (h.length - 1) 0)]).flatten) p7a = some (.lst ((List.replicate 5 (h.getD (h.length - 1) 0)).map V.int)):=by rw [aB];rfl
  generalize upd H6a p7a (.lst (List.replicate (5:Int).toNat [V.int (h.getD (h.length - 1) 0)]).flatten) = H7 at k7a e7a
  have k57:=k6a.trans k7a
  have k07:=k5.trans k57
  refine⟨_,_,SqL.of (k57 _ _ e5),SqL.of e7a,?_⟩
  have key:=a0T (w:=h) (n:=5) (by decide) wd.ne
  have r5:=wd.on.good.all
  conv=>whnf
  refine bG (fun c=>?_) (fun c=>?_)
  ·have c1:¬ h.drop (h.length - 5) = List.replicate 5 (h.getD (h.length - 1) 0):=fun z=>by rw [decide_eq_true z] at c;cases c
   have c2:¬ run h = 5:=fun z=>c1 (key.mpr (by omega))
   have e37:=k07 _ _ wd.e3
   refine⟨_,_,SqL.of (k07 _ _ wd.eN),rfl,⟨_,SqL.of e37⟩,_,e37,cJ (by rw [List.length_map];omega),rfl,(Mv.of k07).trans (lL e37 wd.l3 nZ),((la.b.same k07).ints e37 wd.l3 wd.q3 wd.g3).1,?_,fun x v hx e=>by rw [aK hx];exact k07 _ _ e⟩
   rw [aB,cO,if_neg c2,List.map_append]
   rfl
  ·have c1:h.drop (h.length - 5) = List.replicate 5 (h.getD (h.length - 1) 0):=Decidable.byContradiction fun z=>c (by rw [decide_eq_false z];rfl)
   have c2:run h = 5:=by have:=key.mp c1;omega
   exact⟨rfl,Mv.of k07,la.b.same k07,by rw [cO,if_pos c2];exact k07 _ _ wd.e3,fun x v _ e=>k07 _ _ e⟩
 rintro σ' H1 ⟨rfl,m1,b1,e31,kk⟩
 have eN1:=kk _ _ n3N.symm wd.eN
 have e21:=kk _ _ wd.n23 wd.e2
 refine⟨_,_,SqL.of eN1,rfl,⟨_,SqL.of e21⟩,_,e21,cJ (by rw [List.length_map];omega),?_⟩
 obtain⟨b2,_⟩:=b1.ints (ys:=h.map V.int ++ [V.int b]) e21 wd.l2 wd.q2 wd.g2
 have m2:=m1.trans (lL (u:= .lst (h.map V.int ++ [V.int b])) e21 wd.l2 nZ)
 have eN2:upd H1 a2 (.lst (h.map V.int ++ [V.int b])) N = _:=(aK n2N.symm).trans eN1
 have e22:upd H1 a2 (.lst (h.map V.int ++ [V.int b])) a2 = some (.lst ((h ++ [b]).map V.int)):=by rw [aB,List.map_append];rfl
 have e32:upd H1 a2 (.lst (h.map V.int ++ [V.int b])) a3 = _:=(aK wd.n23.symm).trans e31
 have kk2:∀x v,x≠a3→x≠a2→H x = some v→upd H1 a2 (.lst (h.map V.int ++ [V.int b])) x = some v:=fun x v n3 n2 e=>by rw [aK n2];exact kk x v n3 e
 generalize upd H1 a2 _ = H2 at b2 m2 eN2 e22 e32 kk2
 refine⟨_,_,SqL.of eN2,rfl,?_⟩
 dsimp only [tC]
 refine jG (f:=fun i j=>V.int (i + j)) (i:=((h.length:Nat):Int)) (j:=1) (x:= .int (((h ++ [b]).length:Nat):Int)) (by show V.int (((h.length:Nat):Int) + 1) = _;rw [List.length_append];rfl) ?_
 refine⟨_,1,eN2,rfl,?_⟩
 generalize hX:upd H2 N _ = H3
 have eN3:H3 N = some (.lst (wdR sp (h ++ [b]) a2 a3 m S.tot v6)):=by rw [←hX];exact aB
 obtain⟨b3,m3'⟩:LawB H3 lo Fz N Qa Ga S.wt S.up∧Mv lo H2 lo H3:=by rw [←hX];exact b2.setN _ _
 have e23:H3 a2 = some (.lst ((h ++ [b]).map V.int)):=by rw [←hX,aK n2N];exact e22
 have e33:H3 a3 = some (.lst ((kp (h ++ [b])).map V.int)):=by rw [←hX,aK n3N];exact e32
 have kk3:∀x v,x≠a3→x≠a2→x≠N→H x = some v→H3 x = some v:=fun x v n3 n2 n1 e=>by rw [←hX,aK n1];exact kk2 x v n3 n2 e
 clear hX
 have m3:=m2.trans m3'
 have hb':Bits (h ++ [b]):=cQ wd.hb fun z hz=>by rw [List.mem_singleton.mp hz];exact hb
 have hl':(h ++ [b]).length≤171:=by rw [List.length_append,List.length_singleton];omega
 have FLT:∀(sp':Bool) (H4:Hp) (w:Str) (n:Int) (v2 v3:V),Same H3 H4→hearP S b = faultP S sp'→∀H5,Same H4 H5→Q (.str (fltW S.tot sp' true)) (upd H5 N (.lst (lnw (fltS S.tot sp' true) v2 v3 (true && !sp') (fT S.tot sp') v6))):=fun sp' H4 w n v2 v3 g4 eh H5 g5=>by
  have g35:=g4.trans g5
  obtain⟨f1,f2⟩:=LawB.flt (S:=S) (sp:=sp') (v2:=v2) (v3:=v3) (v6:=v6) (b3.same g35) t0 t18
  rw [f1]
  rw [eh] at q
  exact q lo Fz _ (m3.trans ((Mv.of g35).trans (b3.same g35).mvN)) (fun _ z=> .inl z) f2
 refine⟨_,_,SqL.of eN3,rfl,_,SqL.of e23,fun p5 hp5=>?_⟩
 rw [yI]
 have k5:=aH hp5 (.lst (((h ++ [b]).drop ((h ++ [b]).length - 6)).map V.int))
 have e5:=aB (H:=H3) (a:=p5) (o:= .lst (((h ++ [b]).drop ((h ++ [b]).length - 6)).map V.int))
 generalize upd H3 p5 _ = H5 at k5 e5
 refine⟨aJ rfl,fun p6c hp6c=>?_⟩
 have k6c:=aH hp6c (.lst [.int (b)])
 have e6c:=aB (H:=H5) (a:=p6c) (o:= .lst [.int (b)])
 generalize upd H5 p6c (.lst [.int (b)]) = H6c at k6c e6c
 refine⟨_,e6c,⟨by decide,by decide⟩,(by show 1 * 6≤sizeLine;exact small (by decide)),fun p7c hp7c=>?_⟩
 have k7c:=aH hp7c (.lst (List.replicate (6:Int).toNat [V.int (b)]).flatten)
 have e7c:upd H6c p7c (.lst (List.replicate (6:Int).toNat [V.int (b)]).flatten) p7c = some (.lst ((List.replicate 6 (b)).map V.int)):=by rw [aB];rfl
 generalize upd H6c p7c (.lst (List.replicate (6:Int).toNat [V.int (b)]).flatten) = H7 at k7c e7c
 have k57:=k6c.trans k7c
 have k37:=k5.trans k57
 refine⟨_,_,SqL.of (k57 _ _ e5),SqL.of e7c,?_⟩
 have key6:=a0U (w:=h) (b:=b) (n:=6) (by decide)
 have key5:=a0U (w:=h) (b:=b) (n:=5) (by decide)
 have eN7:=k37 _ _ eN3
 conv=>whnf
 refine bG (fun c=>?_) (fun c=>?_)
 ·have c1:5 < run (h ++ [b]):=by have:=key6.mp (of_decide_eq_true c);omega
  have eh:hearP S b = faultP S sp:=by
   rcases D with ⟨rfl,en⟩ | ⟨rfl,n,ds,kx,a6,en,rfl,hkx,fn,_⟩
   ·exact(nT en wd.on).1 c1
   ·exact(jB en fn hkx).1 c1
  exact⟨N,_,_,_,_,_,v6,S.tot,sp,true,rfl,eN7,FLT sp H7 "" 0 _ _ k37 eh⟩
 have c5:¬ 5 < run (h ++ [b]):=fun z=>c (decide_eq_true (key6.mpr (by omega)))
 refine⟨fun σ' H'=>σ' = [some (.ref N),some (.int (saysP S)),some (.int b),some (.bl sp),some (.int (((kp h).length:Nat):Int)),none,none]∧H' = H7∧(sp = true→¬ (saysP S = 1∧b = 0∧(kp h).length < 9)),?_,?_⟩
 ·cases sp
  ·conv=>whnf
   exact⟨rfl,rfl,fun z=>by cases z⟩
  rcases D with ⟨z,_⟩ | ⟨_,n,ds,kx,a6,en,rfl,hkx,fn,rfl,e6,l6,n62,n63,q6,g6⟩
  ·cases z
  conv=>whnf
  refine bG (fun d1=>?_) (fun d1=>⟨rfl,rfl,fun _ z=>(dec_false d1:¬ saysP S = 1) z.1⟩)
  refine bG (fun d2=>?_) (fun d2=>⟨rfl,rfl,fun _ z=>(dec_false d2:¬ b = 0) z.2.1⟩)
  refine bG (fun d3=>?_) (fun d3=>⟨rfl,rfl,fun _ z=>(dec_false d3:¬ (((kp ((wr n ds).take kx)).length:Nat):Int) < 9) (by have:=z.2.2;omega)⟩)
  have d3':(((kp ((wr n ds).take kx)).length:Nat):Int) < 9:=dec_true d3
  have eh:=(jB en fn hkx).2.1 c5 (dec_true d1) (dec_true d2) (by omega)
  rw [eh] at q
  refine⟨_,0,eN7,rfl,?_⟩
  exact q lo Fz _ (m3.trans ((Mv.of k37).trans (b3.same k37).mvN)) (fun _ z=> .inl z) (LawB.row (S':={ S with now:= .reads ((wr n ds).take kx ++ [b]) }) (b3.same k37) ⟨a2,a3,rfl,rfl,k37 _ _ e23,k37 _ _ e33,wd.l2,wd.l3,wd.n23,wd.q2,wd.g2,wd.q3,wd.g3⟩ t0 fun _=>t18)
 rintro σ' H_ ⟨rfl,e_H,nl⟩
 rw [e_H]
 clear e_H
 refine⟨fun σ' H'=>σ' = [some (.ref N),some (.int (saysP S)),some (.int b),some (.bl sp),some (.int (((kp h).length:Nat):Int)),none,none]∧H' = H7∧(sp = true→saysP S = b),?_,?_⟩
 ·cases sp
  ·conv=>whnf
   exact⟨rfl,rfl,fun z=>by cases z⟩
  rcases D with ⟨z,_⟩ | ⟨_,n,ds,kx,a6,en,rfl,hkx,fn,rfl,e6,l6,n62,n63,q6,g6⟩
  ·cases z
  conv=>whnf
  refine bG (fun d1=>?_) (fun d1=>⟨rfl,rfl,fun _=>Decidable.byContradiction fun z=>d1 (by rw [decide_eq_false z];rfl)⟩)
  have d2:¬ saysP S = b:=fun z=>by rw [decide_eq_true z] at d1;cases d1
  exact⟨N,_,_,_,_,_,_,S.tot,true,true,rfl,eN7,FLT true H7 "" 0 _ _ k37 ((jB en fn hkx).2.2.1 c5 (nl rfl) d2)⟩
 rintro σ' H_ ⟨rfl,e_H,sb⟩
 rw [e_H]
 clear e_H nl
 obtain⟨ks,hks⟩:∃ks,ks = kp (h ++ [b]):=⟨_,rfl⟩
 have hbk:Bits ks:=hks▸kI hb'
 have hlk:ks.length≤171:=by rw [hks];have:=lO (h ++ [b]);omega
 rw [←hks] at e33
 have e37:=k37 _ _ e33
 have kln:ks.length≤(kp h).length + 1:=by
  rw [hks,cO]
  split
  ·omega
  ·rw [List.length_append];exact Nat.le_refl _
 refine⟨fun σ' H'=>σ' = [some (.ref N),some (.int (saysP S)),some (.int b),some (.bl sp),some (.int (((kp h).length:Nat):Int)),none,none]∧Same H7 H'∧¬ MoreW h b,?_,?_⟩
 ·have mq:MoreW h b→∀H8,Same H7 H8→Q (.str "") H8:=fun mw H8 g8=>by
   have g38:=k37.trans g8
   have lb:=b3.same g38
   have eN8:=g38 _ _ eN3
   have en8:∀s':Stc,s'.shown.1 = (if sp = true then ("speaks":Str) else ("reads":Str))→s'.shown.2 = (h ++ [b]).length→Det H8 lo Qa Ga (.ref a2) (.ref a3) m v6 s'→s'≠ .off→LawAt H8 lo Fz N Qa Ga { S with now:=s' }:=fun s' z1 z2 dd nn=>⟨lb,⟨_,_,m,v6,by rw [eN8];unfold lnw;rw [z1,z2],dd⟩,t0,fun _=>t18⟩
   rcases D with ⟨rfl,en⟩ | ⟨rfl,n,ds,kx,a6,en,rfl,hkx,fn,rfl,e6,l6,n62,n63,q6,g6⟩
   ·rw [(nT en wd.on).2.1 c5 mw] at q
    refine q lo Fz H8 (m3.trans (Mv.of g38)) (fun _ z=> .inl z) (en8 (.reads (h ++ [b])) rfl rfl ⟨a2,a3,rfl,rfl,g38 _ _ e23,by rw [←hks];exact g38 _ _ e33,wd.l2,wd.l3,wd.n23,wd.q2,wd.g2,wd.q3,wd.g3⟩ fun z=>by cases z)
   ·obtain⟨et,_,o1 | o1⟩:=(jB en fn hkx).2.2.2 (sb rfl)
    ·rw [o1.2.2] at q
     have n6N:a6≠N:=fun z=>by rw [z,wd.eN] at e6;exact cM (Option.some.inj e6)
     rw [et] at hks en8 e23
     refine q lo Fz H8 (m3.trans (Mv.of g38)) (fun _ z=> .inl z) (en8 (.speaks n ds (kx + 1)) rfl (by rw [List.length_take];show kx + 1 = _;omega) ⟨a2,a3,a6,rfl,rfl,rfl,g38 _ _ e23,by rw [←hks];exact g38 _ _ e33,g38 _ _ (kk3 _ _ n63 n62 n6N e6),wd.l2,wd.l3,l6,wd.n23,n62,n63,wd.q2,wd.g2,wd.q3,wd.g3,q6,g6⟩ fun z=>by cases z)
    ·exact absurd mw o1.1
  conv=>whnf
  refine bG (fun d1=>mq (.inl (by have:=(dec_true d1:(((kp h).length:Nat):Int) < 11);omega)) H7 (Same.refl _)) (fun d1=>?_)
  have d1':¬ (((kp h).length:Nat):Int) < 11:=dec_false d1
  refine⟨_,_,SqL.of eN7,rfl,_,SqL.of (k37 _ _ e23),fun p8 hp8=>?_⟩
  rw [lV]
  have k8:=aH hp8 (.lst (((h ++ [b]).drop ((h ++ [b]).length - 5)).map V.int))
  have e8:=aB (H:=H7) (a:=p8) (o:= .lst (((h ++ [b]).drop ((h ++ [b]).length - 5)).map V.int))
  generalize upd H7 p8 _ = H8 at k8 e8
  refine⟨aJ rfl,fun p6d hp6d=>?_⟩
  have k6d:=aH hp6d (.lst [.int (b)])
  have e6d:=aB (H:=H8) (a:=p6d) (o:= .lst [.int (b)])
  generalize upd H8 p6d (.lst [.int (b)]) = H6d at k6d e6d
  refine⟨_,e6d,⟨by decide,by decide⟩,(by show 1 * 5≤sizeLine;exact small (by decide)),fun p7d hp7d=>?_⟩
  have k7d:=aH hp7d (.lst (List.replicate (5:Int).toNat [V.int (b)]).flatten)
  have e7d:upd H6d p7d (.lst (List.replicate (5:Int).toNat [V.int (b)]).flatten) p7d = some (.lst ((List.replicate 5 (b)).map V.int)):=by rw [aB];rfl
  generalize upd H6d p7d (.lst (List.replicate (5:Int).toNat [V.int (b)]).flatten) = HA at k7d e7d
  have k8A:=k6d.trans k7d
  have k7A:=k8.trans k8A
  refine⟨_,_,SqL.of (k8A _ _ e8),SqL.of e7d,?_⟩
  conv=>whnf
  refine bG (fun d2=>mq (.inr (.inl (by have:=key5.mp (of_decide_eq_true d2);omega))) HA k7A) (fun d2=>?_)
  have d2':¬ run (h ++ [b]) = 5:=fun z=>d2 (decide_eq_true (key5.mpr (by omega)))
  refine⟨_,_,SqL.of (k7A _ _ eN7),rfl,_,.inl (SqL.of (k7A _ _ e37)),?_⟩
  rw [List.length_map]
  refine⟨_,_,SqL.of (k7A _ _ eN7),rfl,_,SqL.of (k7A _ _ e37),fun p9 hp9=>?_⟩
  obtain⟨cc,hcc,cb,cl,cn⟩:=yH hbk
  rw [hcc]
  have k9:=aH hp9 (.lst (cc.map V.int))
  refine⟨p9,cc,rfl,SqL.of aB,cb,by omega,⟨by decide,dG (by omega) (by have:=mW cb;have:=Nat.pow_le_pow_right (n:=2) (by decide) cl;omega)⟩,?_⟩
  conv=>whnf
  refine bG (fun d3=>?_) (fun d3=>?_)
  ·have d4:((ks.length:Nat):Int) < 27 + 8 * ((nm cc:Nat):Int):=dec_true d3
   refine mq (.inr (.inr ?_)) _ (k7A.trans k9)
   rw [←hks]
   by_cases c12:12≤ks.length
   ·have:=cn c12
    omega
   ·omega
  ·have d4:¬ ((ks.length:Nat):Int) < 27 + 8 * ((nm cc:Nat):Int):=dec_false d3
   refine⟨rfl,k7A.trans k9,fun z=>?_⟩
   rcases z with z | z | z
   ·omega
   ·exact d2' z
   ·rw [←hks] at z
    have:=cn (by omega)
    omega
 rintro σ' H9 ⟨rfl,g79,nm_⟩
 have g39:=k37.trans g79
 have eN9:=g39 _ _ eN3
 have e39:=g39 _ _ e33
 have hl:ks.length≤400:=by omega
 refine⟨_,_,SqL.of eN9,rfl,⟨_,SqL.of e39⟩,dO (xs:=ks.map V.int) (fun i σ H'=>(∃x,σ = [some (.ref N),some (.int (saysP S)),some (.int b),some (.bl sp),some (.int (((kp h).length:Nat):Int)),some (.int ((rst (ks.take i):Nat):Int)),x])∧H' = H9) ⟨⟨_,by rw [List.take_zero,nQ];rfl⟩,rfl⟩ (fun i σ H' _ z=>by rw [z.2];exact SqL.of e39) ?_ ?_⟩
 ·rintro i x σ H' hx ⟨⟨y,rfl⟩,rfl⟩
  obtain⟨hi,rfl⟩:=eU hx
  have hb':Bits (ks.take i):=fun b h=>hbk b (List.mem_of_mem_take h)
  have hbi:=hbk _ (List.getElem_mem hi)
  have rl:=nR (ks.take i)
  have es:rst (ks.take (i + 1)) = nx (rst (ks.take i)) ^^^ ks[i].toNat:=by
   rw [List.take_succ_eq_append_getElem hi];exact lG hb' (by rw [List.length_take];omega) hbi
  have ew:=pD rl hbi
  have ea:((rst (ks.take i):Nat):Int) * 2 + ks[i] = ((2 * rst (ks.take i) + ks[i].toNat:Nat):Int):=by
   rcases hbi with e | e <;> rw [e] <;> simp <;> omega
  refine⟨⟨dG (by omega) (by omega),dG (by decide) (by decide)⟩,?_⟩
  conv=>whnf
  refine bG (fun c=>?_) (fun c=>?_)
  ·have c1:(32768:Int)≤((rst (ks.take i):Nat):Int) * 2 + ks[i]:=dec_true c
   rw [if_pos c1] at ew
   refine⟨⟨some (.int ks[i]),?_⟩,rfl⟩
   have e5:Builtin.bitXor ((2 * rst (ks.take i) + ks[i].toNat:Nat):Int) (64647:Int) = (((2 * rst (ks.take i) + ks[i].toNat) ^^^ 64647:Nat):Int):=bxor _ 64647
   rw [es,←ew,←e5,←ea]
   rfl
  ·have c1:¬ (32768:Int)≤((rst (ks.take i):Nat):Int) * 2 + ks[i]:=dec_false c
   rw [if_neg c1] at ew
   refine⟨⟨some (.int ks[i]),?_⟩,rfl⟩
   rw [es,←ew,←ea]
   rfl
 rintro σ H_ ⟨⟨y,rfl⟩,e_H⟩
 rw [e_H]
 clear e_H
 rw [List.length_map,List.take_of_length_le (Nat.le_refl _)]
 refine bG (fun c=>?_) (fun c=>?_)
 ·have c1:¬ rst ks = 0:=fun z=>by
   have c0:(!decide (((rst ks:Nat):Int) = 0)) = true:=c
   rw [z] at c0
   exact absurd c0 (by decide)
  have eh:hearP S b = faultP S sp:=by
   rcases D with ⟨rfl,en⟩ | ⟨rfl,n,ds,kx,a6,en,rfl,hkx,fn,_⟩
   ·exact(nT en wd.on).2.2.1 c5 nm_ (by rw [←hks];exact c1)
   ·obtain⟨_,_,o1 | o1⟩:=(jB en fn hkx).2.2.2 (sb rfl)
    ·exact absurd o1.1 nm_
    ·exact absurd (by rw [hks];exact o1.2.1) c1
  exact⟨N,_,_,_,_,_,v6,S.tot,sp,true,rfl,eN9,FLT sp H9 "" 0 _ _ g39 eh⟩
 ·have c1:rst ks = 0:=Decidable.byContradiction fun z=>c (by
   have z2:¬ ((rst ks:Nat):Int) = 0:=by omega
   show (!decide (((rst ks:Nat):Int) = 0)) = true
   rw [decide_eq_false z2];rfl)
  rcases D with ⟨rfl,en⟩ | ⟨rfl,n,ds,kx,a6,en,rfl,hkx,fn,rfl,e6,l6,n62,n63,q6,g6⟩
  ·rw [(nT en wd.on).2.2.2 c5 nm_ (by rw [←hks];exact c1),←hks] at q
   have cb:=((cX wd.on c5).2 nm_).1
   rw [←hks] at cb
   refine⟨aJ rfl,fun pL hpL=>?_⟩
   have kL:=aH hpL (.lst [.str "tail reads",.str "tail speaks"])
   have eL:=aB (H:=H9) (a:=pL) (o:= .lst [.str "tail reads",.str "tail speaks"])
   generalize upd H9 pL _ = HL at kL eL
   have g3L:=g39.trans kL
   refine⟨_,_,SqL.of eL,rfl,_,0,kL _ _ eN9,rfl,_,1,aB,rfl,?_⟩
   rw [bA]
   generalize hX:upd HL N _ = HM
   have eNM:HM N = some (.lst [.str "tail reads",.int 0,.ref a2,.ref a3,.bl m,.int S.tot,v6]):=by rw [←hX];exact aB
   obtain⟨bM,mM⟩:LawB HM lo Fz N Qa Ga S.wt S.up∧Mv lo HL lo HM:=by rw [←hX];exact(b3.same g3L).setN _ _
   have e3M:HM a3 = some (.lst (ks.map V.int)):=by rw [←hX,aK n3N];exact kL _ _ e39
   clear hX
   refine⟨aJ rfl,fun az haz=>?_⟩
   have gz:=aH haz (.lst [])
   have ez:upd HM az (.lst []) az = some (.lst (([]:List Int).map V.int)):=aB
   obtain⟨nz,nqz,ngz⟩:=bM.new haz
   have bz:=bM.gain gz haz (by rw [ez];simp)
   have mz:Mv lo HM (Or2 lo fun x=>x = az) _:=fW gz haz
   have e3z:=gz _ _ e3M
   have eNz:=gz _ _ eNM
   have n3z:a3≠az:=fun z=>by rw [z,haz] at e3M;cases e3M
   generalize upd HM az _ = HZ at gz ez bz mz e3z eNz
   refine⟨_,2,eNz,rfl,?_⟩
   exact q _ Fz _ (m3.trans ((Mv.of g3L).trans (mM.trans (mz.trans bz.mvN)))) (fun _ z=> .inl z) (LawB.row (S':={ S with now:= .tlR (nmB ks) (daB ks) 0 0 }) bz ⟨az, [],a3,ks,rfl,ez,.inr rfl,nqz,ngz,(fun _ z=>by cases z),rfl,rfl,by decide,rfl,e3z,.inl wd.l3,n3z,wd.q3,wd.g3,hbk,cb,rfl,rfl⟩ t0 fun _=>t18)
  ·obtain⟨_,_,o1 | o1⟩:=(jB en fn hkx).2.2.2 (sb rfl)
   ·exact absurd o1.1 nm_
   rw [o1.2.2] at q
   refine⟨aJ rfl,fun pL hpL=>?_⟩
   have kL:=aH hpL (.lst [.str "tail reads",.str "tail speaks"])
   have eL:=aB (H:=H9) (a:=pL) (o:= .lst [.str "tail reads",.str "tail speaks"])
   generalize upd H9 pL _ = HL at kL eL
   have g3L:=g39.trans kL
   refine⟨_,_,SqL.of eL,rfl,_,0,kL _ _ eN9,rfl,_,1,aB,rfl,?_⟩
   rw [bA]
   generalize hX:upd HL N _ = HM
   have eNM:HM N = some (.lst [.str "tail speaks",.int 0,.ref a2,.ref a3,.bl m,.int S.tot,.ref a6]):=by rw [←hX];exact aB
   obtain⟨bM,mM⟩:LawB HM lo Fz N Qa Ga S.wt S.up∧Mv lo HL lo HM:=by rw [←hX];exact(b3.same g3L).setN _ _
   have e3M:HM a3 = some (.lst (ks.map V.int)):=by rw [←hX,aK n3N];exact kL _ _ e39
   clear hX
   refine⟨aJ rfl,fun az haz=>?_⟩
   have gz:=aH haz (.lst [])
   have ez:upd HM az (.lst []) az = some (.lst (([]:List Int).map V.int)):=aB
   obtain⟨nz,nqz,ngz⟩:=bM.new haz
   have bz:=bM.gain gz haz (by rw [ez];simp)
   have mz:Mv lo HM (Or2 lo fun x=>x = az) _:=fW gz haz
   have e3z:=gz _ _ e3M
   have eNz:=gz _ _ eNM
   have n3z:a3≠az:=fun z=>by rw [z,haz] at e3M;cases e3M
   generalize upd HM az _ = HZ at gz ez bz mz e3z eNz
   refine⟨_,2,eNz,rfl,?_⟩
   exact q _ Fz _ (m3.trans ((Mv.of g3L).trans (mM.trans (mz.trans bz.mvN)))) (fun _ z=> .inl z) (LawB.row (S':={ S with now:= .tlS 0 0 }) bz ⟨az, [],rfl,ez,.inr rfl,nqz,ngz,(fun _ z=>by cases z),rfl,rfl,by decide⟩ t0 fun _=>t18)
variable (Za7:FB P w K mg base (CX0) 2 "_law_tailed" ZfG Zie ["_law_now","_law_bit","_law_votes","_law_queue","_law_got","_law_choice"] (spTailed K))
include Zao ZZ ZhS Zw Zh in
theorem Zlj (F0:GFm K mg "_law_tailed" ZiC ZfG Zie):type_of% Za7:=by
 refine fbM ["_law_now","_law_bit","_law_votes","_law_queue","_law_got","_law_choice","_law_spoke","_law_at","_law_name"] F0 fun Sc0=>F0.F.ok Sc0 (fun vs H Q E h=>?_) fun cdv A outer s H vs Q E hr h=>?_
 ·obtain⟨N,Qa,Ga,ch,lo,Fz,S,b,rfl,_⟩:=h
  rfl
 obtain⟨N,Qa,Ga,ch,lo,Fz,S,b,rfl,la,wf,hb,ec,hv,hu9,hw9,hs,q⟩:=h
 have nd:=Sc0.nd
 refine⟨_,(aD (aZ (i:=6) nd rfl (Or.inl rfl) (bW bQ (aW bC (dv 0) aC (fun _ _=>rfl)) aQ (aM _))) (aD (aZ (i:=7) nd rfl (Or.inl rfl) (aW bC (dv 0) aC (fun _ _=>rfl))) (aD (dJ (aY (PW.pt (fH (PW.pt (cH (aR bQ (dv 7) aC (aM _)) (cH (bJ (dv 6)) (cN (aR bQ (dv 1) aC (aM _)))))) (eY (PW.pt (cH (aR jA (dv 7) aC (aM _)) (cH (aR lY (dv 7) aC (aM _)) (cN (aR bQ (dv 1) aC (aM _))))))))) (aG (aL (aO Zh.1 (hr.mono (by decide)) rfl Zh.2.2.2 Zh.2.2.1 Zh.2.1 .nil aN (aA (dv 0) (aA (dv 6) (aA cL aF)))))) aP)) (aD (bT (aU bZ (dv 7) aC) (bU (dv 0) aC bR)) (aD (bF (cD (aW bC (dv 0) aC (fun _ _=>rfl)) (aA (dv 1) aF))) (aD (aY (aR lY (aW bC (dv 0) aC (fun _ _=>rfl)) (aU bZ aC (dv 2)) (aM _)) (aG (aL aQ)) aP) (aD (aY (aR pC (xF (cF fM (aW bC (dv 0) aC (fun _ _=>rfl)) (cC aC) fV) (aA aC aF)) (aU vH (dv 2) aC) (aM _)) (aG (aL (aO Zh.1 (hr.mono (by decide)) rfl Zh.2.2.2 Zh.2.2.1 Zh.2.1 .nil aN (aA (dv 0) (aA (dv 6) (aA cL aF)))))) aP) (aD (bT (bO (vC rfl) rfl ZhS yQ (aA aC (aA (aU fC (aW bC (dv 0) aC (fun _ _=>rfl)) aC) aF))) (bU (dv 0) aC bR)) (aD (bT aQ (bU (dv 0) aC bR)) (aD (bT aC (bU (dv 0) aC bR)) (aD (aY (bJ (dv 6)) (aD (bF (pO (dv 3) (aA aC aF))) (aG (aL aQ))) aP) (aD (aZ (i:=8) nd rfl (Or.inl rfl) (aO Zw.1 (hr.mono (by decide)) rfl Zw.2.2.2 Zw.2.2.1 Zw.2.1 .nil aN (aA (cF fM (aW bC (dv 0) aC (fun _ _=>rfl)) (cC aC) (cC aC)) aF))) (aD (aY (aR bQ (aU rO (dv 8) (aW dF (dv 5) aC (fun _ _=>rfl))) (aW dF (dv 5) aC (fun _ _=>rfl)) (aM _)) (aG (bF (cD (dv 4) (aA (bL (aA (dv 8) (aA (gM rfl (ix:=[0]) (dW rfl Zao (aA (aO Zw.1 (hr.mono (by decide)) rfl Zw.2.2.2 Zw.2.2.1 Zw.2.1 .nil aN (aA (cF fM (aW bC (dv 0) aC (fun _ _=>rfl)) (cC aC) (cC aC)) aF)) aF)) (fun C fp s0 H0 at0=>fU) (fun C fp s0 H0 at0=>(aO Zw.1 (hr.mono (by decide)) rfl Zw.2.2.2 Zw.2.2.1 Zw.2.1 .nil aN (aA (cF (uY (K:=K)) (aW (a1A (K:=K)) (dv 1) aC (fun _ _=>rfl)) (cC (aU bZ aC (aU dU aC (dv 0)))) (cC (aU bZ aC (aU dU aC (dv 0))))) aF))) rfl rfl (by rfl) (show ([".0","_law_k","_law_now"]:List Str).Nodup by decide +kernel)) aF))) aF)))) aP) (aG (aL aQ))))))))))))))),?_⟩
 have ne:S.now≠ .off:=by
  rcases hs with ⟨_,_,en⟩ | ⟨_,_,_,_,en⟩
  ·rw [en];intro z;cases z
  ·rw [en];intro z;cases z
 have t18:=la.t1 ne
 have t0:=la.t0
 have hv1:1≤S.vt:=by omega
 obtain⟨sp,v,c,a2,u,v3,m,v6,eN,e2,l2,q2,g2,ub,ul,uc,v14,D⟩:=la.tl hs
 have hsp:((if sp = true then ("tail speaks":Str) else ("tail reads":Str)) == ("tail speaks":Str)) = sp:=by cases sp <;> decide +kernel
 have n2N:a2≠N:=fun z=>by rw [z,eN] at e2;exact cM (Option.some.inj e2)
 refine⟨_,_,SqL.of eN,rfl,?_⟩
 dsimp only [tC]
 refine xJ hsp ?_
 refine⟨_,_,SqL.of eN,rfl,?_⟩
 have FLT:∀(fl:Bool) (H4:Hp) (v2 v3:V),LawB H4 lo Fz N Qa Ga S.wt S.up→Mv lo H lo H4→hearP S b = (if fl = true then faultP S sp else refuseP S sp)→∀H5,Same H4 H5→Q (.str (fltW S.tot sp fl)) (upd H5 N (.lst (lnw (fltS S.tot sp fl) v2 v3 (fl && !sp) (fT S.tot sp) v6))):=fun fl H4 v2 v3 b4 m4 eh H5 g5=>by
  rw [eh] at q
  cases fl
  ·obtain⟨f1,f2⟩:=LawB.rfs (S:=S) (sp:=sp) (v2:=v2) (v3:=v3) (v6:=v6) (b4.same g5) t0 t18
   rw [f1]
   exact q lo Fz _ (m4.trans ((Mv.of g5).trans (b4.same g5).mvN)) (fun _ z=> .inl z) f2
  ·obtain⟨f1,f2⟩:=LawB.flt (S:=S) (sp:=sp) (v2:=v2) (v3:=v3) (v6:=v6) (b4.same g5) t0 t18
   rw [f1]
   exact q lo Fz _ (m4.trans ((Mv.of g5).trans (b4.same g5).mvN)) (fun _ z=> .inl z) f2
 refine⟨fun σ' H'=>σ' = [some (.ref N),some (.int b),some (.int ((S.vt:Nat):Int)),some (.ref Qa),some (.ref Ga),some (.ref ch),some (.bl sp),some (.int ((v:Nat):Int)),none]∧H' = H∧¬ TlF sp v b,?_,?_⟩
 ·have fq:TlF sp v b→_:=fun tf=>(⟨N,_,_,_,_,_,v6,S.tot,sp,true,rfl,eN,FLT true H _ _ la.b Mv.refl (by
   rw [if_pos rfl]
   rcases D with ⟨rfl,en⟩ | ⟨rfl,n,ds,a3,ks,en,_⟩
   ·exact(jW en hv1 hb).1 tf
   ·exact(jX en hv1 hb).1 tf)⟩:spFlt K [.ref N,.bl sp,.bl true] H Q (fun _ _ _=>False))
  by_cases c1:v = 1
  ·subst c1
   cases sp <;> rcases hb with rfl | rfl
   ·conv=>whnf
    exact⟨rfl,rfl,fun z=>by rcases z with ⟨_,z,_⟩ | ⟨z,_⟩;cases z;exact z rfl⟩
   ·conv=>whnf
    exact⟨rfl,rfl,fun z=>by rcases z with ⟨_,z,_⟩ | ⟨z,_⟩;cases z;exact z rfl⟩
   ·conv=>whnf
    exact⟨rfl,rfl,fun z=>by rcases z with ⟨_,_,z⟩ | ⟨z,_⟩;cases z;exact z rfl⟩
   ·conv=>whnf
    exact fq (.inl ⟨rfl,rfl,rfl⟩)
  ·conv =>whnf
   refine bG (fun d=>absurd (show ((v:Nat):Int) = 1 from dec_true d) (by omega)) (fun d=>?_)
   conv=>whnf
   refine bG (fun d2=>?_) (fun d2=>absurd (show (!decide (((v:Nat):Int) = 1)) = true by rw [decide_eq_false (by omega)];rfl) d2)
   conv=>whnf
   refine bG (fun d3=>?_) (fun d3=>⟨rfl,rfl,fun z=>by
    have d4:¬ ((v:Nat):Int) < 9:=dec_false d3
    rcases z with ⟨z,_⟩ | ⟨_,z,_⟩
    ·exact c1 z
    ·omega⟩)
   have d4:((v:Nat):Int) < 9:=dec_true d3
   rcases hb with rfl | rfl
   ·conv=>whnf
    exact fq (.inr ⟨c1,by omega,rfl⟩)
   ·conv=>whnf
    exact⟨rfl,rfl,fun z=>by
     rcases z with ⟨z,_⟩ | ⟨_,_,z⟩
     ·exact c1 z
     ·cases z⟩
 rintro σ' H_ ⟨rfl,e_H,ntf⟩
 rw [e_H]
 clear e_H
 conv=>whnf
 refine⟨_,1,eN,rfl,?_⟩
 generalize hX:upd H N _ = H1
 have eN1:H1 N = some (.lst (tlR_ sp (v + 1) a2 v3 m S.tot v6)):=by
  rw [←hX,aB]
  show some (HO.lst [.str (if sp = true then ("tail speaks":Str) else ("tail reads":Str)),.int (((v:Nat):Int) + 1),.ref a2,v3,.bl m,.int S.tot,v6]) = _
  rw [show ((v:Nat):Int) + 1 = ((v + 1:Nat):Int) by omega]
 obtain⟨b1,m1⟩:LawB H1 lo Fz N Qa Ga S.wt S.up∧Mv lo H lo H1:=by rw [←hX];exact la.b.setN _ _
 have e21:H1 a2 = some (.lst (u.map V.int)):=by rw [←hX,aK n2N];exact e2
 have kk1:∀x w,x≠N→H x = some w→H1 x = some w:=fun x w n e=>by rw [←hX,aK n];exact e
 clear hX
 refine⟨_,_,SqL.of eN1,rfl,⟨_,SqL.of e21⟩,_,e21,cJ (by rw [List.length_map];omega),?_⟩
 obtain⟨b2,_⟩:=b1.ints (ys:=u.map V.int ++ [V.int b]) e21 l2 q2 g2
 have m2:=m1.trans (lL (u:= .lst (u.map V.int ++ [V.int b])) e21 l2 nZ)
 have eN2:upd H1 a2 (.lst (u.map V.int ++ [V.int b])) N = _:=(aK n2N.symm).trans eN1
 have e22:upd H1 a2 (.lst (u.map V.int ++ [V.int b])) a2 = some (.lst ((u ++ [b]).map V.int)):=by rw [aB,List.map_append];rfl
 have kk2:∀x w,x≠N→x≠a2→H x = some w→upd H1 a2 (.lst (u.map V.int ++ [V.int b])) x = some w:=fun x w n n2 e=>by rw [aK n2];exact kk1 x w n e
 generalize upd H1 a2 _ = H2 at b2 m2 eN2 e22 kk2
 have ub':Bits (u ++ [b]):=cQ ub fun z hz=>by rw [List.mem_singleton.mp hz];exact hb
 have ul':(u ++ [b]).length = v + 1:=by rw [List.length_append,ul];rfl
 have uc':=a3T hb ul uc
 refine⟨_,_,SqL.of eN2,rfl,?_⟩
 conv=>whnf
 refine bG (fun d=>?_) (fun d=>?_)
 ·have d1:((v + 1:Nat):Int) < 9 + ((S.vt:Nat):Int):=dec_true d
  have d2:v + 1 < 9 + S.vt:=by omega
  rcases D with ⟨rfl,en⟩ | ⟨rfl,n,ds,a3,ks,en,rfl,e3,l3,n32,q3,g3,kb,kc,kn,kd⟩
  ·rw [(jW en hv1 hb).2.1 ntf d2] at q
   exact q lo Fz H2 m2 (fun _ z=> .inl z) ⟨b2,⟨_,_,m,v6,eN2,a2,_,rfl,e22,l2,q2,g2,ub',ul',uc',by omega⟩,t0,fun _=>t18⟩
  ·have n3N:a3≠N:=fun z=>by rw [z,eN] at e3;exact cM (Option.some.inj e3)
   rw [(jX en hv1 hb).2.1 ntf d2] at q
   exact q lo Fz H2 m2 (fun _ z=> .inl z) ⟨b2,⟨_,_,m,v6,eN2,a2,_,a3,ks,rfl,e22,l2,q2,g2,ub',ul',uc',by omega,rfl,kk2 _ _ n3N n32 e3,l3,n32,q3,g3,kb,kc,kn,kd⟩,t0,fun _=>t18⟩
 have d1:¬ ((v + 1:Nat):Int) < 9 + ((S.vt:Nat):Int):=dec_false d
 have d2:¬ v + 1 < 9 + S.vt:=by omega
 refine⟨_,_,SqL.of eN2,rfl,_,SqL.of e22,fun p9 hp9=>?_⟩
 have ec9:cutV ((u ++ [b]).map V.int) (some (9:Int)) none = ((u ++ [b]).drop 9).map V.int:=by
  rw [show (9:Int) = ((9:Nat):Int) from rfl,uU (by rw [List.length_map];omega),List.map_drop]
 rw [ec9]
 have k9:=aH hp9 (.lst (((u ++ [b]).drop 9).map V.int))
 have e9:=aB (H:=H2) (a:=p9) (o:= .lst (((u ++ [b]).drop 9).map V.int))
 generalize upd H2 p9 _ = H3 at k9 e9
 refine⟨⟨_,e9⟩,_,e9,⟨by decide,by decide⟩,?_⟩
 rw [uc']
 have eN3:=k9 _ _ eN2
 have b3:=b2.same k9
 have m3:=m2.trans (Mv.of k9)
 conv=>whnf
 refine bG (fun c=>?_) (fun c=>?_)
 ·have c1:((S.vt:Nat):Int) / 2 < ((tlN v b _:Nat):Int):=dec_true c
  refine⟨N,_,_,_,_,_,v6,S.tot,sp,false,rfl,eN3,FLT false H3 _ _ b3 m3 ?_⟩
  rw [if_neg (by decide)]
  rcases D with ⟨rfl,en⟩ | ⟨rfl,n,ds,a3,ks,en,_⟩
  ·exact(jW en hv1 hb).2.2.1 ntf d2 (by omega)
  ·exact(jX en hv1 hb).2.2.1 ntf d2 (by omega)
 have c1:¬ ((S.vt:Nat):Int) / 2 < ((tlN v b _:Nat):Int):=dec_false c
 refine⟨_,_,SqL.of eN3,rfl,?_⟩
 conv=>whnf
 refine⟨_,5,eN3,rfl,_,0,aB,rfl,_,1,aB,rfl,?_⟩
 rw [bA,bA]
 generalize hX:upd H3 N _ = H4
 have eN4:H4 N = some (.lst [.str "rests",.int 3,.ref a2,v3,.bl m,.int (max 0 (S.tot - 1)),v6]):=by rw [←hX];exact aB
 obtain⟨b4,m4_⟩:LawB H4 lo Fz N Qa Ga S.wt S.up∧Mv lo H3 lo H4:=by rw [←hX];exact b3.setN _ _
 have kk4:∀x w,x≠N→H3 x = some w→H4 x = some w:=fun x w n e=>by rw [←hX,aK n];exact e
 clear hX
 have m4:=m3.trans m4_
 have hm:=a3A t0 t18
 rcases D with ⟨rfl,en⟩ | ⟨rfl,n,ds,a3,ks,en,rfl,e3,l3,n32,q3,g3,kb,kc,kn,kd⟩
 ·rw [(jW en hv1 hb).2.2.2 ntf d2 (by omega),hm] at q
  have hw:=wf.now
  rw [en] at hw
  obtain⟨ts,eq,fq⟩:=b4.q
  conv=>whnf
  generalize hwt:S.wt = wt at fq
  cases fq with
  | nil=>exact absurd hwt hw
  | cons f0 fr=>
   refine⟨⟨_,eq⟩,_,0,_,eq,⟨by decide,by decide⟩,si0,rfl,?_⟩
   rw [hwt] at q
   obtain⟨b5,m5⟩:=b4.putQ fr
   exact q lo Fz _ (m4.trans m5) (fun _ z=> .inl z) ⟨b5,⟨.ref a2,v3,m,v6,(aK b4.nq).trans eN4,trivial⟩,by show 0≤max 0 (S.tot - 1);omega,fun _=>by show max 0 (S.tot - 1) < 18;omega⟩
 have n3N:a3≠N:=fun z=>by rw [z,eN] at e3;exact cM (Option.some.inj e3)
 have e34:=kk4 _ _ n3N (k9 _ _ (kk2 _ _ n3N n32 e3))
 rw [(jX en hv1 hb).2.2.2 ntf d2 (by omega),hm] at q
 have ec4:=m4.1 _ _ ec (.inr ⟨_,rfl⟩)
 have kl:=kc.2
 have k12:=kc.1
 conv=>whnf
 refine⟨_,_,SqL.of eN4,rfl,_,SqL.of e34,fun p6 hp6=>?_⟩
 have ec6:cutV (ks.map V.int) (some (1:Int)) (some (9:Int)) = ((ks.drop 1).take 8).map V.int:=iC rfl rfl (by omega)
 rw [ec6]
 have k6:=aH hp6 (.lst (((ks.drop 1).take 8).map V.int))
 have e6:=aB (H:=H4) (a:=p6) (o:= .lst (((ks.drop 1).take 8).map V.int))
 generalize upd H4 p6 _ = H6 at k6 e6
 refine⟨p6,_,rfl,SqL.of e6,cZ kb 1 8,(by rw [List.length_take];omega),?_⟩
 refine⟨_,_,SqT.of (k6 _ _ ec4),rfl,?_⟩
 conv=>whnf
 refine⟨_,_,SqT.of (k6 _ _ ec4),rfl,?_⟩
 conv=>whnf
 have b6:=b4.same k6
 have m6:=m4.trans (Mv.of k6)
 have eN6:=k6 _ _ eN4
 have e36:=k6 _ _ e34
 refine bG (fun y=>?_) (fun y=>?_)
 ·have y1:Builtin.bitAnd ((nmB ks:Nat):Int) ((S.m1:Nat):Int) = ((S.m2:Nat):Int):=dec_true y
  have yw:wantP S n = true:=by unfold wantP;rw [←kn];exact decide_eq_true y1
  rw [if_pos yw] at q
  obtain⟨us,eg,fg⟩:=b6.g
  refine⟨⟨_,SqL.of eg⟩,?_⟩
  refine⟨_,_,SqL.of eN6,rfl,_,SqL.of e36,fun p7 hp7=>?_⟩
  have ec7:cutV (ks.map V.int) (some (9:Int)) (some (12:Int)) = ((ks.drop 9).take 3).map V.int:=iC rfl rfl (by omega)
  rw [ec7]
  have k7:=aH hp7 (.lst (((ks.drop 9).take 3).map V.int))
  have e7:=aB (H:=H6) (a:=p7) (o:= .lst (((ks.drop 9).take 3).map V.int))
  generalize upd H6 p7 _ = H7 at k7 e7
  refine⟨p7,_,rfl,SqL.of e7,cZ kb 9 3,(by rw [List.length_take];omega),?_⟩
  have s8:=qU kb
  have em:((szB ks:Nat):Int).toNat = szB ks:=Int.toNat_natCast _
  refine⟨⟨(show -(2 ^ 62)≤((szB ks:Nat):Int) by omega),(show ((szB ks:Nat):Int) < 2 ^ 62 by omega)⟩,gB (fun i ys H'=>ys = ((daB ks).take i).map V.int∧Same H7 H') ?_ ⟨rfl,Same.refl _⟩ ?_ ?_⟩
  ·rintro i ys H' hi ⟨rfl,_⟩
   have hi2:i≤((szB ks:Nat):Int).toNat:=hi
   refine cJ ?_
   rw [List.length_map,List.length_take];omega
  ·rintro i ys H' hi ⟨rfl,g⟩
   have hi2:i < ((szB ks:Nat):Int).toNat:=hi
   rw [em] at hi2
   have c8:CMulB 8 (0 + ((i:Nat):Int)):=⟨by decide,dG (by omega) (by omega)⟩
   refine⟨_,_,SqL.of (g _ _ (k7 _ _ eN6)),rfl,c8,c8,_,SqL.of (g _ _ (k7 _ _ e36)),fun p8 hp8=>?_⟩
   have ec2:cutV (ks.map V.int) (some ((12:Int) + 8 * (0 + ((i:Nat):Int)))) (some ((20:Int) + 8 * (0 + ((i:Nat):Int)))) = ((ks.drop (12 + 8 * i)).take 8).map V.int:=iC (by omega) (by omega) (by omega)
   rw [ec2]
   refine⟨p8,_,rfl,SqL.of aB,cZ kb _ 8,(by rw [List.length_take];omega),?_,g.trans (aH hp8 _)⟩
   rw [qI hi2,List.map_append]
   rfl
  rintro ys H8 ⟨rfl,g8⟩ d hd
  have em2:((nm ((ks.drop 9).take 3):Nat):Int).toNat = szB ks:=em
  have ed:upd H8 d (.lst (((daB ks).take ((nm ((ks.drop 9).take 3):Nat):Int).toNat).map V.int)) d = some (.lst ((daB ks).map V.int)):=by
   rw [aB,em2,List.take_of_length_le (by rw [oM];exact Nat.le_refl _)]
  have gd:=aH hd (.lst (((daB ks).take ((nm ((ks.drop 9).take 3):Nat):Int).toNat).map V.int))
  have b8:=(b6.same k7).same g8
  have m8:=m6.trans ((Mv.of k7).trans (Mv.of g8))
  obtain⟨hd0,hdl⟩:=zU m8 b8.al hd
  generalize upd H8 d _ = H9 at ed gd
  refine⟨aJ rfl,fun t ht=>?_⟩
  have gt:=aH ht (.tup [.int ((nmB ks:Nat):Int),.ref d])
  have et:=aB (H:=H9) (a:=t) (o:= .tup [.int ((nmB ks:Nat):Int),.ref d])
  have GG:=k7.trans (g8.trans (gd.trans gt))
  have edt:=gt _ _ ed
  have b9:=(b8.same (gd.trans gt)).frz hdl (by rw [edt];simp)
  have m9:=m8.trans (Mv.of (gd.trans gt))
  refine⟨us,GG _ _ eg,cJ (by rw [fg.len];omega),?_⟩
  obtain⟨b10,m10⟩:=b9.putG ((fg.imp (fun _ _ e _=>GG _ _ e) fun _=> .inl).snoc (t:=t) (f:=(nmB ks,daB ks)) ⟨d,et,edt,.inr rfl⟩)
  rw [←kn,←kd] at q
  exact q lo _ _ (m9.trans m10) (fun x z=>z.imp id fun z=>by rw [show x = d from z];exact hd0) ⟨b10,⟨.ref a2,.ref a3,m,v6,(aK b4.ng).trans (GG _ _ eN6),trivial⟩,by show 0≤max 0 (S.tot - 1);omega,fun _=>by show max 0 (S.tot - 1) < 18;omega⟩
 ·have y1:¬ Builtin.bitAnd ((nmB ks:Nat):Int) ((S.m1:Nat):Int) = ((S.m2:Nat):Int):=dec_false y
  have yw:¬ wantP S n = true:=by unfold wantP;rw [←kn];exact fun z=>y1 (of_decide_eq_true z)
  rw [if_neg yw] at q
  exact q lo Fz _ m6 (fun _ z=> .inl z) ⟨b6,⟨.ref a2,.ref a3,m,v6,eN6,trivial⟩,by show 0≤max 0 (S.tot - 1);omega,fun _=>by show max 0 (S.tot - 1) < 18;omega⟩
variable (Zb9:FB P w K mg base (CX0) 4 "_law_word" Zhc ZjU ["_law_now","_law_said","_law_bit","_law_votes","_law_queue","_law_got","_law_choice"] (spWord47 K))
include Zb6 Zb7 Zbv Za7 in
theorem Zmk (F0:GFm K mg "_law_word" Zkg Zhc ZjU):type_of% Zb9:=by
 refine fbM ["_law_now","_law_said","_law_bit","_law_votes","_law_queue","_law_got","_law_choice"] F0 fun Sc0=>F0.F.ok Sc0 (fun vs H Q E h=>?_) fun cdv A outer s H vs Q E hr h=>?_
 ·obtain⟨N,Qa,Ga,ch,lo,Fz,S,b,rfl,_⟩:=h
  rfl
 obtain⟨N,Qa,Ga,ch,lo,Fz,S,b,rfl,la,wf,hb,ec,hv,hu9,hw9,q⟩:=h
 have nd:=Sc0.nd
 refine⟨_,(aD (aY (aR bQ (aW bC (dv 0) aC (fun _ _=>rfl)) aQ (aM _)) (aG (aL (aO Zb7.1 (hr.mono (by decide)) rfl Zb7.2.2.2 Zb7.2.2.1 Zb7.2.1 .nil aN (aA (dv 0) (aA (dv 1) (aA (dv 2) (aA (dv 4) aF))))))) aP) (aD (aY (PW.pt (fH (aR bQ (aW bC (dv 0) aC (fun _ _=>rfl)) aQ (aM _)) (eY (aR bQ (aW bC (dv 0) aC (fun _ _=>rfl)) aQ (aM _))))) (aG (aL (aO Zbv.1 (hr.mono (by decide)) rfl Zbv.2.2.2 Zbv.2.2.1 Zbv.2.1 .nil aN (aA (dv 0) (aA (dv 1) (aA (dv 2) aF)))))) aP) (aD (aY (PW.pt (fH (aR bQ (aW bC (dv 0) aC (fun _ _=>rfl)) aQ (aM _)) (eY (aR bQ (aW bC (dv 0) aC (fun _ _=>rfl)) aQ (aM _))))) (aG (aL (aO Za7.1 (hr.mono (by decide)) rfl Za7.2.2.2 Za7.2.2.1 Za7.2.1 .nil aN (aA (dv 0) (aA (dv 2) (aA (dv 3) (aA (dv 4) (aA (dv 5) (aA (dv 6) aF))))))))) aP) (aG (aL (aO Zb6.1 (hr.mono (by decide)) rfl Zb6.2.2.2 Zb6.2.2.1 Zb6.2.1 .nil aN (aA (dv 0) (aA (dv 2) aF)))))))),?_⟩
 obtain⟨v2,v3,m,v6,eN,dt⟩:=la.ex
 cases en:S.now with
 | free k=>
  rw [en] at eN
  refine⟨_,_,SqL.of eN,rfl,?_⟩
  conv=>whnf
  exact⟨N,Qa,Ga,lo,Fz,S,b,k,rfl,la,wf,hb,en,q⟩
 | speaks n ds k=>
  rw [en] at eN
  refine⟨_,_,SqL.of eN,rfl,?_⟩
  conv=>whnf
  refine⟨_,_,SqL.of eN,rfl,?_⟩
  conv=>whnf
  exact⟨N,Qa,Ga,lo,Fz,S,b,rfl,la,wf,hb,.inl ⟨n,ds,k,en⟩,q⟩
 | reads h=>
  rw [en] at eN
  refine⟨_,_,SqL.of eN,rfl,?_⟩
  conv=>whnf
  refine⟨_,_,SqL.of eN,rfl,?_⟩
  conv=>whnf
  refine⟨_,_,SqL.of eN,rfl,?_⟩
  conv=>whnf
  exact⟨N,Qa,Ga,lo,Fz,S,b,rfl,la,wf,hb,.inr ⟨h,en⟩,q⟩
 | tlS v c=>
  rw [en] at eN
  refine⟨_,_,SqL.of eN,rfl,?_⟩
  conv=>whnf
  refine⟨_,_,SqL.of eN,rfl,?_⟩
  conv=>whnf
  refine⟨_,_,SqL.of eN,rfl,?_⟩
  conv=>whnf
  refine⟨_,_,SqL.of eN,rfl,?_⟩
  conv=>whnf
  exact⟨N,Qa,Ga,ch,lo,Fz,S,b,rfl,la,wf,hb,ec,hv,hu9,hw9,.inl ⟨v,c,en⟩,q⟩
 | tlR n ds v c=>
  rw [en] at eN
  refine⟨_,_,SqL.of eN,rfl,?_⟩
  conv=>whnf
  refine⟨_,_,SqL.of eN,rfl,?_⟩
  conv=>whnf
  refine⟨_,_,SqL.of eN,rfl,?_⟩
  conv=>whnf
  refine⟨_,_,SqL.of eN,rfl,?_⟩
  conv=>whnf
  refine⟨_,_,SqL.of eN,rfl,?_⟩
  conv=>whnf
  exact⟨N,Qa,Ga,ch,lo,Fz,S,b,rfl,la,wf,hb,ec,hv,hu9,hw9,.inr ⟨n,ds,v,c,en⟩,q⟩
 | flag l m'=>
  rw [en] at eN
  refine⟨_,_,SqL.of eN,rfl,?_⟩
  conv=>whnf
  refine⟨_,_,SqL.of eN,rfl,?_⟩
  conv=>whnf
  refine⟨_,_,SqL.of eN,rfl,?_⟩
  conv=>whnf
  refine⟨_,_,SqL.of eN,rfl,?_⟩
  conv=>whnf
  refine⟨_,_,SqL.of eN,rfl,?_⟩
  conv=>whnf
  exact⟨N,Qa,Ga,lo,Fz,S,b,rfl,la,wf,hb,.inl ⟨l,_,en⟩,q⟩
 | settles m'=>
  rw [en] at eN
  refine⟨_,_,SqL.of eN,rfl,?_⟩
  conv=>whnf
  refine⟨_,_,SqL.of eN,rfl,?_⟩
  conv=>whnf
  refine⟨_,_,SqL.of eN,rfl,?_⟩
  conv=>whnf
  refine⟨_,_,SqL.of eN,rfl,?_⟩
  conv=>whnf
  refine⟨_,_,SqL.of eN,rfl,?_⟩
  conv=>whnf
  exact⟨N,Qa,Ga,lo,Fz,S,b,rfl,la,wf,hb,.inr (.inl ⟨_,en⟩),q⟩
 | rests l=>
  rw [en] at eN
  refine⟨_,_,SqL.of eN,rfl,?_⟩
  conv=>whnf
  refine⟨_,_,SqL.of eN,rfl,?_⟩
  conv=>whnf
  refine⟨_,_,SqL.of eN,rfl,?_⟩
  conv=>whnf
  refine⟨_,_,SqL.of eN,rfl,?_⟩
  conv=>whnf
  refine⟨_,_,SqL.of eN,rfl,?_⟩
  conv=>whnf
  exact⟨N,Qa,Ga,lo,Fz,S,b,rfl,la,wf,hb,.inr (.inr (.inl ⟨l,en⟩)),q⟩
 | off=>
  rw [en] at eN
  refine⟨_,_,SqL.of eN,rfl,?_⟩
  conv=>whnf
  refine⟨_,_,SqL.of eN,rfl,?_⟩
  conv=>whnf
  refine⟨_,_,SqL.of eN,rfl,?_⟩
  conv=>whnf
  refine⟨_,_,SqL.of eN,rfl,?_⟩
  conv=>whnf
  refine⟨_,_,SqL.of eN,rfl,?_⟩
  conv=>whnf
  exact⟨N,Qa,Ga,lo,Fz,S,b,rfl,la,wf,hb,.inr (.inr (.inr en)),q⟩
variable (Za6:FB P w K mg base (CX0) 9 "_law_stands" ZfF Zid ["_law_post","_law_now","_law_said"] (spStd47 CA))
include ZZ ZdJ ZaQ ZhT Zjx ZkF Za ZbO Zbe Zct Zb5 in
theorem Zli (F0:GFm K mg "_law_stands" ZiB ZfF Zid):type_of% Za6:=by
 refine fbM ["_law_post","_law_now","_law_said","_law_found","_law_number_here"] F0 fun Sc0=>F0.F.ok Sc0 (fun vs H Q E h=>?_) fun cdv A outer s H vs Q E hr h=>?_
 ·obtain⟨p,N,Qa,Ga,lo,Fz,S,o,rfl,_⟩:=h
  rfl
 obtain⟨p,N,Qa,Ga,lo,Fz,S,o,rfl,hP,la,q⟩:=h
 have nd:=Sc0.nd
 refine⟨_,(aD (aZ (i:=3) nd rfl (Or.inl rfl) (bI Za ZbO Zct.1 (hr.mono (by decide)) Zct.2 .nil aN (dv 0))) (aD (aY (PW.pt (fH (cV (bJ (bO pB rfl ZaQ cY (aA (dv 3) (aA (iJ (v:= .ty "tuple") rfl Zjx yO rfl) aF))))) (fH (aR jA (bO fD rfl ZZ dR (aA (dv 3) aF)) aC (aM _)) (eY (cV (bJ (bO mJ rfl ZaQ cY (aA (aW dF (dv 3) aC (fun _ _=>rfl)) (aA (iJ (v:= .ty "str") rfl ZhT yP rfl) aF))))))))) (aG (aL cL)) aP) (aD (eE PassesOwn.never rfl (dM (bN (aA (aW dF (dv 3) aC (fun _ _=>rfl)) (aA (bI Za Zbe Zb5.1 (hr.mono (by decide)) Zb5.2 .nil aN (dv 0)) aF)))) (dC (i:=4) nd rfl (Or.inl rfl)) (aG (aY (PW.pt (fH (cV (bJ (bO tM rfl ZaQ cY (aA (dv 4) (aA (iJ (v:= .ty "int") rfl ZdJ oX rfl) aF))))) (eY (bJ (bO qO rfl ZaQ cY (aA (dv 4) (aA (iJ (v:= .ty "bool") rfl ZkF a0I rfl) aF))))))) (aG (aL cL)) aP))) (aG (aL (jF (bW (vJ hr.units) (dv 3) (bL (aA (aW bC (dv 1) aC (fun _ _=>rfl)) (aA (aW bC (dv 1) aC (fun _ _=>rfl)) aF))) (aM _)) (jC (bW bQ (bI Za Zbe Zb5.1 (hr.mono (by decide)) Zb5.2 .nil aN (dv 0)) (dv 2) (aM _))))))))),?_⟩
 obtain⟨v2,v3,m,v6,eN,dt⟩:=la.ex
 obtain⟨dq,ch,vt',wl_,ul,cc,nw,ep⟩:=hP.cell
 refine⟨⟨dq,_,ep,rfl⟩,p,S,o,rfl,hP,fun t H1 ht g1 et=>?_⟩
 refine⟨rfl,⟨_,et⟩,?_⟩
 conv=>whnf
 refine⟨_,.inr (SqT.of et),?_⟩
 conv=>whnf
 refine⟨_,_,SqT.of et,rfl,rfl,?_⟩
 conv=>whnf
 have hP1:=hP.same g1
 refine⟨_,_,SqT.of et,rfl,⟨dq,_,g1 _ _ ep,rfl⟩,p,S,o,rfl,hP1,aJ rfl,fun l hl=>?_⟩
 have g2:=aH hl (.lst [.int ((S.now.shown.2:Nat):Int),.int (saysP S)])
 have e2:=aB (H:=H1) (a:=l) (o:= .lst [.int ((S.now.shown.2:Nat):Int),.int (saysP S)])
 generalize upd H1 l _ = H2 at g2 e2
 refine⟨⟨_,SqL.of e2⟩,dO (xs:=[.int ((S.now.shown.2:Nat):Int),.int (saysP S)]) (fun i σ H'=>(∃x,σ = [some (.ref p),some (.ref N),some (.int (saysP S)),some (.ref t),x])∧H' = H2) ⟨⟨_,rfl⟩,rfl⟩ (fun i σ H' _ z=>by rw [z.2];exact SqL.of e2) ?_ ?_⟩
 ·rintro i x σ H' hx ⟨⟨y,rfl⟩,e_⟩
  obtain⟨z,rfl⟩:∃z,x = .int z:=by
   match i,hx with
   | 0,hx=>exact⟨_,(Option.some.inj hx).symm⟩
   | 1,hx=>exact⟨_,(Option.some.inj hx).symm⟩
   | i + 2,hx=>cases hx
  refine⟨rfl,?_⟩
  conv=>whnf
  refine⟨rfl,?_⟩
  conv=>whnf
  exact⟨⟨_,rfl⟩,e_⟩
 rintro σ H' ⟨⟨x,rfl⟩,e_⟩
 rw [e_]
 clear e_
 have g12:=g1.trans g2
 have eN2:=g12 _ _ eN
 refine⟨_,_,SqL.of eN2,rfl,_,_,SqL.of eN2,rfl,aJ rfl,fun t2 ht2=>?_⟩
 have g3:=aH ht2 (.tup [.str S.now.shown.1,.int ((S.now.shown.2:Nat):Int)])
 have e3:=aB (H:=H2) (a:=t2) (o:= .tup [.str S.now.shown.1,.int ((S.now.shown.2:Nat):Int)])
 generalize upd H2 t2 _ = H3 at g3 e3
 have gg:=g12.trans g3
 refine⟨_,sX ((g2.trans g3) _ _ et),sX e3,pG (vW _) _,?_⟩
 conv=>whnf
 refine⟨⟨dq,_,gg _ _ ep,rfl⟩,p,S,o,rfl,hP.same gg,?_⟩
 conv=>whnf
 rw [decide_eq_true rfl]
 exact q _ gg
variable (Zad:FB P w K mg base (CX0) 9 "_law_looked" ZfC Zia ["_law_post","_law_now","_law_queue","_law_got"] (spLook47 CA))
include Za Zag Z7 ZbN ZcE ZbZ Zaj Zay Zcs ZcL Zdt in
theorem Zlf (F0:GFm K mg "_law_looked" Ziy ZfC Zia):type_of% Zad:=by
 refine fbM ["_law_post","_law_now","_law_queue","_law_got"] F0 fun Sc0=>F0.F.ok Sc0 (fun vs H Q E h=>?_) fun cdv A outer s H vs Q E hr h=>?_
 ·obtain⟨p,N,Qa,Ga,lo,Fz,S,o,rfl,_⟩:=h
  rfl
 obtain⟨p,N,Qa,Ga,lo,Fz,S,o,rfl,hP,la,hw9,hu9,q⟩:=h
 have nd:=Sc0.nd
 refine⟨_,(aD (aY (PW.pt (fH (aR jA (bI Za ZbN Zcs.1 (hr.mono (by decide)) Zcs.2 .nil aN (dv 0)) (aW bC (dv 1) aC (fun _ _=>rfl)) (aM _)) (fH (aR jA (bI Za Z7 Zaj.1 (hr.mono (by decide)) Zaj.2 .nil aN (dv 0)) (bW jT (aW bC (dv 1) aC (fun _ _=>rfl)) aC (aM _)) (aM _)) (eY (aR jA (bI Za Zag Zay.1 (hr.mono (by decide)) Zay.2 .nil aN (dv 0)) (bW jT (aW bC (dv 1) aC (fun _ _=>rfl)) aC (aM _)) (aM _)))))) (aG (aL cL)) aP) (aG (aL (jF (bW (vJ hr.units) (bI Za ZbZ ZcL.1 (hr.mono (by decide)) ZcL.2 .nil aN (dv 0)) (dv 2) (aM _)) (jC (bW (vJ hr.units) (bI Za ZcE Zdt.1 (hr.mono (by decide)) Zdt.2 .nil aN (dv 0)) (dv 3) (aM _))))))),?_⟩
 obtain⟨v2,v3,m,v6,eN,dt⟩:=la.ex
 obtain⟨dq,ch,vt',wl_,ul,cc,nw,ep⟩:=hP.cell
 obtain⟨nwb,ob,bd⟩:=hP.bd
 obtain⟨xq,eq,fq⟩:=la.b.q
 obtain⟨xg,eg,fg⟩:=la.b.g
 refine⟨⟨dq,_,ep,rfl⟩,p,nwb,S,ob,rfl,bd,?_⟩
 refine⟨_,_,SqL.of eN,rfl,?_⟩
 conv=>whnf
 refine bG (fun c=>?_) (fun c=>?_)
 ·have c1:(!decide (S.tot = S.tot)) = true:=c
  rw [decide_eq_true rfl] at c1
  cases c1
 refine⟨⟨dq,_,ep,rfl⟩,p,nwb,S,ob,rfl,bd,?_⟩
 refine⟨_,_,SqL.of eN,rfl,?_⟩
 dsimp only [tC]
 refine jG (f:=fun i j=>V.bl (decide (j≤i))) (i:=S.tot) (j:=12) rfl ?_
 refine xH ?_
 conv=>whnf
 refine⟨⟨dq,_,ep,rfl⟩,p,nwb,S,ob,rfl,bd,?_⟩
 refine⟨_,_,SqL.of eN,rfl,?_⟩
 dsimp only [tC]
 refine jG (f:=fun i j=>V.bl (decide (j≤i))) (i:=S.tot) (j:=18) rfl ?_
 refine xH ?_
 conv=>whnf
 refine⟨⟨dq,_,ep,rfl⟩,p,nwb,_,ob,rfl,bd,hw9,fun l4 x4 H4 hl4 g4 e4 fn=>?_⟩
 have f4:FrsAt H4 (fun _=>True) xq S.wt:=fq.imp (fun x v e _=>g4 x v e) fun _ _=>trivial
 refine⟨_,.lst (SqL.of e4) fn.at_.dvs,.lst (SqL.of (g4 _ _ eq)) f4.dvs,lR _,?_⟩
 conv=>whnf
 obtain⟨nwb,ob,bd⟩:=(hP.same g4).bd
 refine⟨⟨dq,_,g4 _ _ ep,rfl⟩,p,nwb,_,ob,rfl,bd,hu9,fun l5 x5 H5 hl5 g5 e5 fn=>?_⟩
 have gg:=g4.trans g5
 have f5:FrsAt H5 (fun _=>True) xg S.up:=fg.imp (fun x v e _=>gg x v e) fun _ _=>trivial
 refine⟨_,.lst (SqL.of e5) fn.at_.dvs,.lst (SqL.of (gg _ _ eg)) f5.dvs,lR _,?_⟩
 exact q _ gg
variable (Zbu:FB P w K mg base (CX0) 2 "_law_heard" Zge Zi5 ["_law_script","_law_k","_law_now","_law_said","_law_other","_law_calm_here"] (spHeard47 K))
include ZdJ ZlZ Zb in
theorem ZlN (F0:GFm K mg "_law_heard" Zjq Zge Zi5):type_of% Zbu:=by
 refine fbM ["_law_script","_law_k","_law_now","_law_said","_law_other","_law_calm_here","_law_bit","_law_rare"] F0 fun Sc0=>F0.F.ok Sc0 (fun vs H Q E h=>?_) fun cdv A outer s H vs Q E hr h=>?_
 ·obtain⟨a,ns,k,N,w,n,vs_,sd,ot,c,rfl,_⟩:=h
  rfl
 obtain⟨a,ns,k,N,w,n,vs_,sd,ot,c,rfl,hS,h63,hk,eN,hsd,hot,q⟩:=h
 have nd:=Sc0.nd
 refine⟨_,(aD (dJ (aY (PW.pt (cH (bJ (dv 5)) (cN (aR bQ (aW bC (dv 2) aC (fun _ _=>rfl)) aQ (aM _))))) (aG (aZ (i:=4) nd rfl (Or.inl rfl) aC)) aP)) (aD (dJ (aY (PW.pt (cH (bJ (dv 5)) (cN (aR bQ (aW bC (dv 2) aC (fun _ _=>rfl)) aQ (aM _))))) (aG (aZ (i:=4) nd rfl (Or.inl rfl) (cT vG rfl ZdJ oX (aA (bW jA (aW bC (dv 2) aC (fun _ _=>rfl)) aC (aM _)) aF)))) aP)) (aD (aZ (i:=6) nd rfl (Or.inl rfl) (bO (a0Z rfl) rfl ZlZ a2G (aA (dv 3) (aA (dv 4) aF)))) (aD (aZ (i:=7) nd rfl (Or.inl rfl) (aW bC (bN (aA aC (aA aC (aA aC aF)))) (aO Zb.1 (hr.mono (by decide)) rfl Zb.2.2.2 Zb.2.2.1 Zb.2.1 .nil aN (aA (dv 0) (aA aC (aA aC aF)))) (fun _ _=>rfl))) (aD (dJ (aY (aR bQ (aO Zb.1 (hr.mono (by decide)) rfl Zb.2.2.2 Zb.2.2.1 Zb.2.1 .nil aN (aA (dv 0) (aA (aU bZ aC (dv 1)) (aA (dv 7) aF)))) aC (aM _)) (aG (aZ (i:=6) nd rfl (Or.inl rfl) (aU fC aC (dv 6)))) aP)) (aG (aL (dv 6)))))))),?_⟩
 refine⟨fun σ' H'=>∃o',(o' = 0∨o' = 1)∧σ' = [some (.ref a),some (.int k),some (.ref N),some (.int sd),some (.int o'),some (.bl c),none,none]∧H' = H,?_,?_⟩
 ·cases c
  ·conv=>whnf
   exact⟨_,hot,rfl,rfl⟩
  ·conv=>whnf
   refine⟨_,_,SqL.of eN,fK (j:=0) rfl,?_⟩
   conv=>whnf
   refine bG (fun _=>⟨1,.inr rfl,rfl,rfl⟩) (fun _=>⟨_,hot,rfl,rfl⟩)
 rintro σ' H_ ⟨o1,ho1,rfl,e_H⟩
 rw [e_H]
 clear e_H hot
 refine⟨fun σ' H'=>∃o',(o' = 0∨o' = 1)∧σ' = [some (.ref a),some (.int k),some (.ref N),some (.int sd),some (.int o'),some (.bl c),none,none]∧H' = H,?_,?_⟩
 ·cases c
  ·conv=>whnf
   exact⟨_,ho1,rfl,rfl⟩
  ·conv=>whnf
   refine⟨_,_,SqL.of eN,fK (j:=0) rfl,?_⟩
   conv=>whnf
   refine bG (fun _=>?_) (fun _=>⟨_,ho1,rfl,rfl⟩)
   refine⟨_,_,SqL.of eN,fK (j:=1) rfl,?_⟩
   by_cases c1:n = 1
   ·subst c1
    conv=>whnf
    exact⟨0,.inl rfl,rfl,rfl⟩
   ·conv=>whnf
    exact⟨1,.inr rfl,by rw [decide_eq_false c1];rfl,rfl⟩
 rintro σ' H_ ⟨o2,ho2,rfl,e_H⟩
 rw [e_H]
 clear e_H ho1
 conv=>whnf
 have hmn:min sd o2 = 0∨min sd o2 = 1:=by omega
 generalize min sd o2 = bt at hmn
 refine⟨aJ rfl,fun l hl=>?_⟩
 have g1:=aH hl (.lst [.int 1000,.int 40,.int 12])
 have e1:=aB (H:=H) (a:=l) (o:= .lst [.int 1000,.int 40,.int 12])
 generalize upd H l _ = H1 at g1 e1
 refine⟨a,ns,1,3,rfl,g1.seq hS,h63,by decide,by decide,by decide,fun i i0 i1=>?_⟩
 have hv:∃v:Int,atI [V.int 1000,V.int 40,V.int 12] i = some (.int v)∧0 < v:=by
  have:i = 0∨i = 1∨i = 2:=by omega
  rcases this with rfl | rfl | rfl
  ·exact⟨1000,rfl,by decide⟩
  ·exact⟨40,rfl,by decide⟩
  ·exact⟨12,rfl,by decide⟩
 obtain⟨v,hat,v0⟩:=hv
 refine⟨_,_,SqL.of e1,hat,?_⟩
 refine⟨fun σ' H'=>∃b,(b = 0∨b = 1)∧σ' = [some (.ref a),some (.int k),some (.ref N),some (.int sd),some (.int o2),some (.bl c),some (.int b),some (.int v)]∧H' = H1,?_,?_⟩
 ·refine⟨a,ns,_,v,rfl,g1.seq hS,h63,(by show 0≤300 + k;omega),(by show 300 + k≤100000;omega),v0,fun d d0 d1=>?_⟩
  conv=>whnf
  refine bG (fun _=>⟨1 - bt,(by omega),rfl,rfl⟩) (fun _=>⟨_,hmn,rfl,rfl⟩)
 rintro σ' H_ ⟨b,hb,rfl,e_H⟩
 rw [e_H]
 exact q b H1 hb g1
variable (ZP:FB P w K mg base (CX0) 2 "_law_frame" Zgd Zi4 ["_law_script","_law_base"] (spFrm47 K))
include Zb in
theorem ZlM (F0:GFm K mg "_law_frame" Zjp Zgd Zi4):type_of% ZP:=by
 refine fbM ["_law_script","_law_base","_law_data"] F0 fun Sc0=>F0.F.ok Sc0 (fun vs H Q E h=>?_) fun cdv A outer s H vs Q E hr h=>?_
 ·obtain⟨a,ns,bs,rfl,_⟩:=h
  rfl
 obtain⟨a,ns,bs,rfl,hS,h63,b0,b1,q⟩:=h
 have nd:=Sc0.nd
 refine⟨_,(aD (aZ (i:=2) nd rfl (Or.inl rfl) (bN (aA (aO Zb.1 (hr.mono (by decide)) rfl Zb.2.2.2 Zb.2.2.1 Zb.2.1 .nil aN (aA (dv 0) (aA (aU bZ (dv 1) aC) (aA aC aF)))) aF))) (aG (aL (bL (aA (aO Zb.1 (hr.mono (by decide)) rfl Zb.2.2.2 Zb.2.2.1 Zb.2.1 .nil aN (aA (dv 0) (aA (dv 1) (aA aC aF)))) (aA (cF fM (dv 2) fV (cC (aO Zb.1 (hr.mono (by decide)) rfl Zb.2.2.2 Zb.2.2.1 Zb.2.1 .nil aN (aA (dv 0) (aA (aU bZ (dv 1) aC) (aA aC aF)))))) aF)))))),?_⟩
 refine⟨a,ns,_,256,rfl,hS,h63,(by show 0≤bs + 1;omega),(by show bs + 1≤100000;omega),by decide,fun x x0 x1=>?_⟩
 refine⟨aJ rfl,fun l hl=>?_⟩
 have g1:=aH hl (.lst [.int x])
 have e1:=aB (H:=H) (a:=l) (o:= .lst [.int x])
 generalize upd H l _ = H1 at g1 e1
 refine⟨a,ns,_,256,rfl,g1.seq hS,h63,b0,(by show bs≤100000;omega),by decide,fun n n0 n1=>?_⟩
 refine⟨a,ns,_,2,rfl,g1.seq hS,h63,(by show 0≤bs + 2;omega),(by show bs + 2≤100000;omega),by decide,fun e e0 e1'=>?_⟩
 refine⟨_,SqL.of e1,fun d hd=>?_⟩
 have hc:∃ds:List Int,cutV [V.int x] none (some e) = ds.map V.int∧ds.length≤1∧ds.all byt = true:=by
  have:e = 0∨e = 1:=by omega
  rcases this with rfl | rfl
  ·exact⟨[],rfl,by decide,rfl⟩
  ·exact⟨[x],rfl,by show 1≤1;decide,by rw [List.all_cons,List.all_nil,eV.mpr (show 0≤x∧x≤255 by omega)];rfl⟩
 obtain⟨ds,hc,l1,hall⟩:=hc
 rw [hc]
 have g2:=aH hd (.lst (ds.map V.int))
 have e2:=aB (H:=H1) (a:=d) (o:= .lst (ds.map V.int))
 generalize upd H1 d _ = H2 at g2 e2
 refine⟨aJ rfl,fun t ht=>?_⟩
 have g3:=aH ht (.tup [.int n,.ref d])
 obtain⟨n',rfl⟩:=Int.eq_ofNat_of_zero_le n0
 exact q (n',ds) t d _ ⟨by show n' < 256;omega,by show ds.length≤7;omega,hall⟩ l1 (g1.none hd) (g1.trans (g2.trans g3)) aB (g3 _ _ e2)
variable (Za5:FB P w K mg base (CX0) 3 "_law_others" ZfE Zic ["_law_script","_law_votes"] (spOth47 K))
include Zao Zb Zak ZP in
theorem Zlh (F0:GFm K mg "_law_others" ZiA ZfE Zic):type_of% Za5:=by
 refine fbM ["_law_script","_law_votes","_law_row","_law_k","_law_way"] F0 fun Sc0=>F0.F.ok Sc0 (fun vs H Q E h=>?_) fun cdv A outer s H vs Q E hr h=>?_
 ·obtain⟨a,ns,vt,rfl,_⟩:=h
  rfl
 obtain⟨a,ns,vt,rfl,hS,h63,hv,q⟩:=h
 have nd:=Sc0.nd
 refine⟨_,(aD (aZ (i:=2) nd rfl (Or.inl rfl) (aU gD (bN (aA aC aF)) (aO Zb.1 (hr.mono (by decide)) rfl Zb.2.2.2 Zb.2.2.1 Zb.2.1 .nil aN (aA (dv 0) (aA aC (aA aC aF)))))) (aD (eE PassesOwn.never rfl (dW rfl Zao (aA aC aF)) (dC (i:=3) nd rfl (Or.inl rfl)) (aD (aZ (i:=4) nd rfl (Or.inl rfl) (aO Zb.1 (hr.mono (by decide)) rfl Zb.2.2.2 Zb.2.2.1 Zb.2.1 .nil aN (aA (dv 0) (aA (aU bZ aC (aU dU aC (dv 3))) (aA aC aF))))) (aG (dJ (aY (aR bQ (dv 4) aC (aM _)) (aG (aZ (i:=2) nd rfl (Or.inl rfl) (aU eX (dv 2) (aU gD (bN (aA aC aF)) (aO Zb.1 (hr.mono (by decide)) rfl Zb.2.2.2 Zb.2.2.1 Zb.2.1 .nil aN (aA (dv 0) (aA (aU bZ aC (aU dU aC (dv 3))) (aA aC aF)))))))) (aG (aY (aR bQ (dv 4) aC (aM _)) (aG (aZ (i:=2) nd rfl (Or.inl rfl) (aU eX (dv 2) (aU gD (bN (aA aC aF)) (aO Zb.1 (hr.mono (by decide)) rfl Zb.2.2.2 Zb.2.2.1 Zb.2.1 .nil aN (aA (dv 0) (aA (aU bZ aC (aU dU aC (dv 3))) (aA aC aF)))))))) (aG (aZ (i:=2) nd rfl (Or.inl rfl) (aU eX (aU eX (aU eX (dv 2) (aO Zak.1 (hr.mono (by decide)) rfl Zak.2.2.2 Zak.2.2.1 Zak.2.1 .nil aN (aA (aO ZP.1 (hr.mono (by decide)) rfl ZP.2.2.2 ZP.2.2.1 ZP.2.1 .nil aN (aA (dv 0) (aA (aU bZ aC (aU dU aC (dv 3))) aF))) aF))) (bN (aA aC (aA aC aF)))) (aU gD (bN (aA aC aF)) (aU bZ aC (dv 1))))))))))))) (aG (aL (aU eX (cF fM (dv 2) fV (cC aC)) (aU gD (bN (aA aC aF)) aC)))))),?_⟩
 have sg0:Same H H:=Same.refl _
 refine⟨aJ rfl,fun l1 hl1=>?_⟩
 have ka1:=aH hl1 (.lst [.int 1])
 have ea1:=aB (H:=H) (a:=l1) (o:= .lst [.int 1])
 generalize upd H l1 _ = H1a at ka1 ea1
 refine⟨a,ns,_,3,rfl,(sg0.trans ka1).seq hS,h63,(by show 0≤(100:Int);omega),(by show (100:Int)≤100000;omega),by decide,fun x1 x10 x11=>?_⟩
 refine⟨_,ea1,⟨by omega,by omega⟩,fB (by show 1 * x1.toNat≤100000;omega),fun p1 hp1=>?_⟩
 rw [gF]
 have kb1:=aH hp1 (.lst ((List.replicate x1.toNat (1:Int)).map V.int))
 have eb1:=aB (H:=H1a) (a:=p1) (o:= .lst ((List.replicate x1.toNat (1:Int)).map V.int))
 generalize upd H1a p1 _ = H1b at kb1 eb1
 have g1:=ka1.trans kb1
 refine⟨⟨by decide,by decide⟩,jK (fun i σ H'=>∃r row y z,σ = [some (.ref a),some (.int ((vt:Nat):Int)),some (.ref r),y,z]∧H r = none∧H' r = some (.lst (row.map V.int))∧Bits row∧row.length≤2 + 300 * i∧Same H H') ⟨p1,_,_,_,rfl,ka1.none hp1,eb1,gH (.inr rfl),(by rw [List.length_replicate];omega),g1⟩ ?_ ?_⟩
 ·clear hl1 hp1 ka1 ea1 kb1 eb1 g1
  rintro i σ H2 hi ⟨r,row,y,z,rfl,hr0,er,rb,rl,g2⟩
  have hi2:i < 12:=hi
  have c7:CMulB 7 (0 + ((i:Nat):Int)):=⟨by decide,dG (by omega) (by omega)⟩
  refine⟨c7,a,ns,_,6,rfl,g2.seq hS,h63,(by show 0≤101 + 7 * (0 + ((i:Nat):Int));omega),(by show 101 + 7 * (0 + ((i:Nat):Int))≤100000;omega),by decide,fun w w0 w1=>?_⟩
  refine⟨fun σ H'=>∃r row,σ = [some (.ref a),some (.int ((vt:Nat):Int)),some (.ref r),some (.int (0 + ((i:Nat):Int))),some (.int w)]∧H r = none∧H' r = some (.lst (row.map V.int))∧Bits row∧row.length≤2 + 300 * (i + 1)∧Same H H',?_,?_⟩
  ·conv =>whnf
   refine bG (fun _=>?_) (fun _=>?_)
   ·refine⟨aJ rfl,fun lb hlb=>?_⟩
    have kab:=aH hlb (.lst [.int 1])
    have eab:=aB (H:=H2) (a:=lb) (o:= .lst [.int 1])
    generalize upd H2 lb _ = Hba at kab eab
    refine⟨c7,a,ns,_,14,rfl,(g2.trans kab).seq hS,h63,(by show 0≤102 + 7 * (0 + ((i:Nat):Int));omega),(by show 102 + 7 * (0 + ((i:Nat):Int))≤100000;omega),by decide,fun xb xb0 xb1=>?_⟩
    refine⟨_,eab,⟨by omega,by omega⟩,fB (by show 1 * xb.toNat≤100000;omega),fun pb hpb=>?_⟩
    rw [gF]
    have kbb:=aH hpb (.lst ((List.replicate xb.toNat (1:Int)).map V.int))
    have ebb:=aB (H:=Hba) (a:=pb) (o:= .lst ((List.replicate xb.toNat (1:Int)).map V.int))
    generalize upd Hba pb _ = Hbb at kbb ebb
    have erb:=(kab.trans kbb) _ _ er
    have lnb:(List.replicate xb.toNat (1:Int)).length≤14:=by rw [List.length_replicate];omega
    have gsb:=g2.trans (kab.trans kbb)
    refine⟨_,_,erb,ebb,fB (by rw [List.length_map,List.length_map];omega),fun pbc hpbc=>?_⟩
    rw [←List.map_append]
    have kbbc:=aH hpbc (.lst ((row ++ List.replicate xb.toNat (1:Int)).map V.int))
    have ebbc:=aB (H:=Hbb) (a:=pbc) (o:= .lst ((row ++ List.replicate xb.toNat (1:Int)).map V.int))
    generalize upd Hbb pbc _ = Hbc at kbbc ebbc
    exact⟨pbc,_,rfl,gsb.none hpbc,ebbc,cQ rb (gH (.inr rfl)),(by rw [List.length_append];omega),gsb.trans kbbc⟩
   ·conv=>whnf
    refine bG (fun _=>?_) (fun _=>?_)
    ·refine⟨aJ rfl,fun lc hlc=>?_⟩
     have kac:=aH hlc (.lst [.int 0])
     have eac:=aB (H:=H2) (a:=lc) (o:= .lst [.int 0])
     generalize upd H2 lc _ = Hca at kac eac
     refine⟨c7,a,ns,_,8,rfl,(g2.trans kac).seq hS,h63,(by show 0≤102 + 7 * (0 + ((i:Nat):Int));omega),(by show 102 + 7 * (0 + ((i:Nat):Int))≤100000;omega),by decide,fun xc xc0 xc1=>?_⟩
     refine⟨_,eac,⟨by omega,by omega⟩,fB (by show 1 * xc.toNat≤100000;omega),fun pc hpc=>?_⟩
     rw [gF]
     have kbc:=aH hpc (.lst ((List.replicate xc.toNat (0:Int)).map V.int))
     have ebc:=aB (H:=Hca) (a:=pc) (o:= .lst ((List.replicate xc.toNat (0:Int)).map V.int))
     generalize upd Hca pc _ = Hcb at kbc ebc
     have erc:=(kac.trans kbc) _ _ er
     have lnc:(List.replicate xc.toNat (0:Int)).length≤14:=by rw [List.length_replicate];omega
     have gsc:=g2.trans (kac.trans kbc)
     refine⟨_,_,erc,ebc,fB (by rw [List.length_map,List.length_map];omega),fun pcc hpcc=>?_⟩
     rw [←List.map_append]
     have kbcc:=aH hpcc (.lst ((row ++ List.replicate xc.toNat (0:Int)).map V.int))
     have ebcc:=aB (H:=Hcb) (a:=pcc) (o:= .lst ((row ++ List.replicate xc.toNat (0:Int)).map V.int))
     generalize upd Hcb pcc _ = Hcc at kbcc ebcc
     exact⟨pcc,_,rfl,gsc.none hpcc,ebcc,cQ rb (gH (.inl rfl)),(by rw [List.length_append];omega),gsc.trans kbcc⟩
    ·refine⟨c7,a,ns,_,rfl,g2.seq hS,h63,(by show 0≤103 + 7 * (0 + ((i:Nat):Int));omega),(by show 103 + 7 * (0 + ((i:Nat):Int))≤1000;omega),fun f t d H3 fn fl hd g3 et ed=>?_⟩
     refine⟨t,d,f.1,f.2,rfl,et,ed,fn.1,fn.2.1,fn.2.2,fun pw H4 hpw g4 ew=>?_⟩
     have ew':H4 pw = some (.lst ((wr f.1 f.2).map V.int)):=ew
     have wl:=(qP (n:=f.1) (ds:=f.2) fn).2
     have wb:Bits (wr f.1 f.2):=(kZ (n:=f.1) (ds:=f.2) fn).wbits
     generalize wr f.1 f.2 = wv at ew' wl wb
     have er4:=(g3.trans g4) _ _ er
     refine⟨_,_,er4,ew',fB (by rw [List.length_map,List.length_map];omega),fun p5 hp5=>?_⟩
     rw [←List.map_append]
     have kb5:=aH hp5 (.lst ((row ++ wv).map V.int))
     have eb5:=aB (H:=H4) (a:=p5) (o:= .lst ((row ++ wv).map V.int))
     generalize upd H4 p5 _ = H5 at kb5 eb5
     refine⟨aJ rfl,fun l6 hl6=>?_⟩
     have k6:=aH hl6 (.lst [.int 1,.int 0])
     have e6:upd H5 l6 (.lst [.int 1,.int 0]) l6 = some (.lst (([1,0]:List Int).map V.int)):=aB
     generalize upd H5 l6 _ = H6 at k6 e6
     refine⟨_,_,(k6 _ _ eb5),e6,fB (by rw [List.length_map,List.length_map];rw [List.length_append];show _ + 2≤_;omega),fun p7 hp7=>?_⟩
     rw [←List.map_append]
     have kb7:=aH hp7 (.lst (((row ++ wv) ++ [1,0]).map V.int))
     have eb7:=aB (H:=H6) (a:=p7) (o:= .lst (((row ++ wv) ++ [1,0]).map V.int))
     generalize upd H6 p7 _ = H7 at kb7 eb7
     refine⟨aJ rfl,fun l8 hl8=>?_⟩
     have k8:=aH hl8 (.lst [.int 1])
     have e8:=aB (H:=H7) (a:=l8) (o:= .lst [.int 1])
     generalize upd H7 l8 _ = H8 at k8 e8
     have x9:((10:Int) + ((vt:Nat):Int)).toNat≤15:=by omega
     refine⟨_,e8,⟨by omega,by omega⟩,fB (by show 1 * ((10:Int) + ((vt:Nat):Int)).toNat≤100000;omega),fun p9 hp9=>?_⟩
     rw [gF]
     have k9:=aH hp9 (.lst ((List.replicate ((10:Int) + ((vt:Nat):Int)).toNat (1:Int)).map V.int))
     have e9:=aB (H:=H8) (a:=p9) (o:= .lst ((List.replicate ((10:Int) + ((vt:Nat):Int)).toNat (1:Int)).map V.int))
     generalize upd H8 p9 _ = H9 at k9 e9
     have ln9:(List.replicate ((10:Int) + ((vt:Nat):Int)).toNat (1:Int)).length≤15:=by rw [List.length_replicate];exact x9
     have l7:(row ++ wv ++ [1,0]).length≤2 + 300 * i + 168:=by rw [List.length_append,List.length_append];show _ + _ + 2≤_;omega
     have gs:=g2.trans (g3.trans (g4.trans (kb5.trans (k6.trans (kb7.trans (k8.trans k9))))))
     refine⟨_,_,(k9 _ _ (k8 _ _ eb7)),e9,fB (by rw [List.length_map,List.length_map];omega),fun pA hpA=>?_⟩
     rw [←List.map_append]
     have kbA:=aH hpA (.lst (((row ++ wv ++ [1,0]) ++ List.replicate ((10:Int) + ((vt:Nat):Int)).toNat (1:Int)).map V.int))
     have ebA:=aB (H:=H9) (a:=pA) (o:= .lst (((row ++ wv ++ [1,0]) ++ List.replicate ((10:Int) + ((vt:Nat):Int)).toNat (1:Int)).map V.int))
     generalize upd H9 pA _ = HA at kbA ebA
     exact⟨pA,_,rfl,gs.none hpA,ebA,cQ (cQ (cQ rb wb) a2I) (gH (.inr rfl)),(by rw [List.length_append];omega),gs.trans kbA⟩
  rintro σ' H3 ⟨r,row,rfl,h⟩
  exact⟨r,row,_,_,rfl,h⟩
 rintro σ' H3 ⟨r,row,y,z,rfl,hr0,er,rb,rl,g2⟩
 refine⟨_,SqL.of er,fun p4 hp4=>?_⟩
 have ec:cutV (row.map V.int) none (some (140:Int)) = (row.take 140).map V.int:=by rw [show (140:Int) = ((140:Nat):Int) from rfl,uT,List.map_take]
 rw [ec]
 have k4:=aH hp4 (.lst ((row.take 140).map V.int))
 have e4:=aB (H:=H3) (a:=p4) (o:= .lst ((row.take 140).map V.int))
 generalize upd H3 p4 _ = H4 at k4 e4
 refine⟨aJ rfl,fun l5 hl5=>?_⟩
 have k5:=aH hl5 (.lst [.int 1])
 have e5:=aB (H:=H4) (a:=l5) (o:= .lst [.int 1])
 generalize upd H4 l5 _ = H5 at k5 e5
 refine⟨_,e5,⟨by decide,by decide⟩,fB (by decide),fun p6 hp6=>?_⟩
 rw [gF]
 have k6:=aH hp6 (.lst ((List.replicate (140:Int).toNat (1:Int)).map V.int))
 have e6:=aB (H:=H5) (a:=p6) (o:= .lst ((List.replicate (140:Int).toNat (1:Int)).map V.int))
 generalize upd H5 p6 _ = H6 at k6 e6
 have gg:=g2.trans (k4.trans (k5.trans k6))
 have l4:(row.take 140).length≤140:=by rw [List.length_take];omega
 refine⟨_,_,k6 _ _ (k5 _ _ e4),e6,fB (by rw [List.length_map,List.length_map,List.length_replicate];show _ + 140≤_;omega),fun p7 hp7=>?_⟩
 rw [←List.map_append]
 exact q p7 _ _ (gg.none hp7) (gg.trans (aH hp7 _)) aB (cQ (iD rb) (gH (.inr rfl))) (by rw [List.length_append,List.length_replicate];show 140≤_ + 140;omega)
variable (ZmZ:FB P w K mg base (CX0) 11 "law" ZmJ ZmV ["_law_script"] (spLaw K))
include Zau ZH Zu Zeg Zcl ZkE Zao ZbD ZaQ ZhT Za ZeD Zbd Zco Zb4 Zc9 Zc8 Zb Zb8 Zb9 Za6 Zad Zbu ZP Za5 in
theorem ZmX (F0:GFm K mg "law" ZmW ZmJ ZmV):type_of% ZmZ:=by
 refine fbM ["_law_script","_law_votes","_law_choice","_law_post","_law_others_here","_law_calm_here","_law_now","_law_queue","_law_got","_law_k","_law_later","_law_said","_law_bit","_law_word_here","_law_due"] F0 fun Sc0=>F0.F.ok Sc0 (fun vs H Q E h=>?_) fun cdv A outer s H vs Q E hr h=>?_
 ·obtain⟨a,ns,rfl,_⟩:=h
  rfl
 obtain⟨a,ns,rfl,hS,h63,q⟩:=h
 have nd:=Sc0.nd
 refine⟨_,(aD (aZ (i:=1) nd rfl (Or.inl rfl) (aW bC (bN (aA aC (aA aC (aA aC aF)))) (aO Zb.1 (hr.mono (by decide)) rfl Zb.2.2.2 Zb.2.2.1 Zb.2.1 .nil aN (aA (dv 0) (aA aC (aA aC aF)))) (fun _ _=>rfl))) (aD (aZ (i:=2) nd rfl (Or.inl rfl) (aW bC (bN (aA (bL (aA aC (aA aC aF))) (aA (bL (aA aC (aA (aO Zb.1 (hr.mono (by decide)) rfl Zb.2.2.2 Zb.2.2.1 Zb.2.1 .nil aN (aA (dv 0) (aA aC (aA aC aF)))) aF))) aF))) (aO Zb.1 (hr.mono (by decide)) rfl Zb.2.2.2 Zb.2.2.1 Zb.2.1 .nil aN (aA (dv 0) (aA aC (aA aC aF)))) (fun _ _=>rfl))) (aD (aZ (i:=3) nd rfl (Or.inl rfl) (cA ZeD Zc9.1 (hr.mono (by decide)) rfl ZkE Zc9.2 .nil iB (aA (dv 2) (aA (dv 1) aF)))) (aD (aZ (i:=4) nd rfl (Or.inl rfl) (aO Za5.1 (hr.mono (by decide)) rfl Za5.2.2.2 Za5.2.2.1 Za5.2.1 .nil aN (aA (dv 0) (aA (dv 1) aF)))) (aD (aZ (i:=5) nd rfl (Or.inl rfl) (bW pC (aO Zb.1 (hr.mono (by decide)) rfl Zb.2.2.2 Zb.2.2.1 Zb.2.1 .nil aN (aA (dv 0) (aA aC (aA aC aF)))) aC (aM _))) (aD (aZ (i:=6) nd rfl (Or.inl rfl) (bN (aA aQ (aA aC (aA (bN aF) (aA (bN aF) (aA cL (aA aC (aA (bN aF) aF))))))))) (aD (aZ (i:=7) nd rfl (Or.inl rfl) (bN aF)) (aD (aZ (i:=8) nd rfl (Or.inl rfl) (bN aF)) (aD (eE PassesOwn.never rfl (dW rfl Zao (aA (aO Zb.1 (hr.mono (by decide)) rfl Zb.2.2.2 Zb.2.2.1 Zb.2.1 .nil aN (aA (dv 0) (aA aC (aA aC aF)))) aF)) (dC (i:=9) nd rfl (Or.inl rfl)) (aD (bF (cD (dv 7) (aA (aO ZP.1 (hr.mono (by decide)) rfl ZP.2.2.2 ZP.2.2.1 ZP.2.1 .nil aN (aA (dv 0) (aA (aU bZ aC (aU dU aC (dv 9))) aF))) aF))) (aG (bF (cI Za Zbd Zb4.1 (hr.mono (by decide)) Zb4.2 .nil iB (dv 3) (aA (aW dF (aW bC (dv 7) (dv 9) (fun _ _=>rfl)) aC (fun _ _=>rfl)) (aA (cT fO rfl ZbD gW (aA (aW dF (aW bC (dv 7) (dv 9) (fun _ _=>rfl)) aC (fun _ _=>rfl)) aF)) aF))))))) (aD (aZ (i:=10) nd rfl (Or.inl rfl) (aO Zb.1 (hr.mono (by decide)) rfl Zb.2.2.2 Zb.2.2.1 Zb.2.1 .nil aN (aA (dv 0) (aA aC (aA aC aF))))) (aD (eE PassesOwn.never rfl (dW rfl Zao (aA aC aF)) (dC (i:=9) nd rfl (Or.inl rfl)) (aD (dJ (aY (aR bQ (dv 9) (dv 10) (aM _)) (aD (bF (cD (dv 7) (aA (aO ZP.1 (hr.mono (by decide)) rfl ZP.2.2.2 ZP.2.2.1 ZP.2.1 .nil aN (aA (dv 0) (aA aC aF))) aF))) (aG (bF (cI Za Zbd Zb4.1 (hr.mono (by decide)) Zb4.2 .nil iB (dv 3) (aA (aW dF (aW bC (dv 7) (jO jM aC) (fun _ _=>rfl)) aC (fun _ _=>rfl)) (aA (cT fO rfl ZbD gW (aA (aW dF (aW bC (dv 7) (jO jM aC) (fun _ _=>rfl)) aC (fun _ _=>rfl)) aF)) aF)))))) aP)) (aD (aZ (i:=11) nd rfl (Or.inl rfl) (aO Zb8.1 (hr.mono (by decide)) rfl Zb8.2.2.2 Zb8.2.2.1 Zb8.2.1 .nil aN (aA (dv 6) (aA (dv 7) aF)))) (aD (aY (cV (bJ (aO Za6.1 (hr.mono (by decide)) rfl Za6.2.2.2 Za6.2.2.1 Za6.2.1 .nil aN (aA (dv 3) (aA (dv 6) (aA (dv 11) aF)))))) (aG (aL cL)) aP) (aD (aZ (i:=12) nd rfl (Or.inl rfl) (aO Zbu.1 (hr.mono (by decide)) rfl Zbu.2.2.2 Zbu.2.2.1 Zbu.2.1 .nil aN (aA (dv 0) (aA (dv 9) (aA (dv 6) (aA (dv 11) (aA (aW bC (dv 4) (dv 9) (fun _ _=>rfl)) (aA (dv 5) aF)))))))) (aD (aZ (i:=13) nd rfl (Or.inl rfl) (cI Za Zco Zc8.1 (hr.mono (by decide)) Zc8.2 .nil aN (dv 3) (aA (dv 12) aF))) (aD (aZ (i:=14) nd rfl (Or.inl rfl) (aO Zb9.1 (hr.mono (by decide)) rfl Zb9.2.2.2 Zb9.2.2.1 Zb9.2.1 .nil aN (aA (dv 6) (aA (dv 11) (aA (dv 12) (aA (dv 1) (aA (dv 7) (aA (dv 8) (aA (dv 2) aF))))))))) (aD (aY (PW.pt (fH (cV (bJ (bO mJ rfl ZaQ cY (aA (dv 13) (aA (iJ (v:= .ty "str") rfl ZhT yP rfl) aF))))) (eY (aR jA (dv 13) (dv 14) (aM _))))) (aG (aL cL)) aP) (aG (aY (PW.pt (cH (aR bQ (aU mH (dv 9) aC) aC (aM _)) (cN (cV (bJ (aO Zad.1 (hr.mono (by decide)) rfl Zad.2.2.2 Zad.2.2.1 Zad.2.1 .nil aN (aA (dv 3) (aA (dv 6) (aA (dv 7) (aA (dv 8) aF)))))))))) (aG (aL cL)) aP)))))))))) (aG (aL (aO Zad.1 (hr.mono (by decide)) rfl Zad.2.2.2 Zad.2.2.1 Zad.2.1 .nil aN (aA (dv 3) (aA (dv 6) (aA (dv 7) (aA (dv 8) aF)))))))))))))))))),?_⟩
 refine⟨aJ rfl,fun l hl=>?_⟩
 have g1:=aH hl (.lst [.int 1,.int 3,.int 5])
 have e1:=aB (H:=H) (a:=l) (o:= .lst [.int 1,.int 3,.int 5])
 generalize upd H l _ = H1 at g1 e1
 refine⟨a,ns,0,3,rfl,g1.seq hS,h63,by decide,by decide,by decide,fun i i0 i1=>?_⟩
 obtain⟨v,hat,hv⟩:∃v:Nat,atI [V.int 1,V.int 3,V.int 5] i = some (.int ((v:Nat):Int))∧(v = 1∨v = 3∨v = 5):=by
  have:i = 0∨i = 1∨i = 2:=by omega
  rcases this with rfl | rfl | rfl
  ·exact⟨1,rfl,.inl rfl⟩
  ·exact⟨3,rfl,.inr (.inl rfl)⟩
  ·exact⟨5,rfl,.inr (.inr rfl)⟩
 refine⟨_,_,SqL.of e1,hat,?_⟩
 clear hat i1 i0 i
 refine⟨aJ rfl,fun t1 ht1=>?_⟩
 have g2:=aH ht1 (.tup [.int 0,.int 0])
 have e2:=aB (H:=H1) (a:=t1) (o:= .tup [.int 0,.int 0])
 generalize upd H1 t1 _ = H2 at g2 e2
 refine⟨a,ns,2,2,rfl,(g1.trans g2).seq hS,h63,by decide,by decide,by decide,fun y y0 y1=>?_⟩
 refine⟨aJ rfl,fun t2 ht2=>?_⟩
 have g3:=aH ht2 (.tup [.int 1,.int y])
 have e3:=aB (H:=H2) (a:=t2) (o:= .tup [.int 1,.int y])
 generalize upd H2 t2 _ = H3 at g3 e3
 refine⟨aJ rfl,fun l4 hl4=>?_⟩
 have g4:=aH hl4 (.lst [.ref t1,.ref t2])
 have e4:=aB (H:=H3) (a:=l4) (o:= .lst [.ref t1,.ref t2])
 generalize upd H3 l4 _ = H4 at g4 e4
 have gs4:=g1.trans (g2.trans (g3.trans g4))
 refine⟨a,ns,3,2,rfl,gs4.seq hS,h63,by decide,by decide,by decide,fun z z0 z1=>?_⟩
 obtain⟨ch,m1,m2,hat,ech,hm1,hm2⟩:∃(ch:Addr) (m1 m2:Nat),atI [V.ref t1,V.ref t2] z = some (.ref ch)∧H4 ch = some (.tup [.int ((m1:Nat):Int),.int ((m2:Nat):Int)])∧m1≤255∧m2≤255:=by
  have:z = 0∨z = 1:=by omega
  rcases this with rfl | rfl
  ·exact⟨t1,0,0,rfl,g4 _ _ (g3 _ _ e2),by decide,by decide⟩
  ·obtain⟨y',rfl⟩:=Int.eq_ofNat_of_zero_le y0
   exact⟨t2,1,y',rfl,g4 _ _ e3,by decide,by omega⟩
 refine⟨_,_,SqL.of e4,hat,?_⟩
 have ok:PoOk ((m1:Nat):Int) ((m2:Nat):Int) ((v:Nat):Int):=⟨eV.mpr (by omega),eV.mpr (by omega),by omega⟩
 refine fun p dp hp hdp hne=>⟨p,dp,ch,_,_,_,rfl,aB,(by rw [aK (aX ech hp),aK (aX ech hdp)];exact ech),fun _ H5 o hP hin hk=>⟨rfl,?_⟩,fun no=>absurd ok no⟩
 obtain⟨lw,g5⟩:=zJ gs4 hp hdp hP hin hk
 clear hin hk hP hat z0 z1 z
 have ec5:=g5 _ _ ech
 clear hne hp hdp e1 e2 e3 e4 g1 g2 g3 g4 gs4 hl ht1 ht2 hl4 ech g5
 refine⟨a,ns,v,rfl,lw.same.seq hS,h63,(by omega),fun OB bs H6 hOB g6 eB bB lB=>?_⟩
 have nOB:=lw.po.new hOB
 have lw6:=lw.new g6
 refine⟨a,ns,4,3,rfl,lw6.same.seq hS,h63,by decide,by decide,by decide,fun c c0 c1=>?_⟩
 refine⟨aJ rfl,fun q1 hq1=>?_⟩
 have g7:=aH hq1 (.lst [])
 have e7:=aB (H:=H6) (a:=q1) (o:= .lst [])
 generalize upd H6 q1 _ = H7 at g7 e7
 refine⟨aJ rfl,fun q2 hq2=>?_⟩
 have g8:=aH hq2 (.lst [])
 have e8:=aB (H:=H7) (a:=q2) (o:= .lst [])
 generalize upd H7 q2 _ = H8 at g8 e8
 refine⟨aJ rfl,fun q3 hq3=>?_⟩
 have g9:=aH hq3 (.lst [])
 have e9:=aB (H:=H8) (a:=q3) (o:= .lst [])
 generalize upd H8 q3 _ = H9 at g9 e9
 refine⟨aJ rfl,fun N hN=>?_⟩
 have gN:=aH hN (.lst [.str "free",.int 0,.ref q1,.ref q2,.bl false,.int 0,.ref q3])
 have eN:=aB (H:=H9) (a:=N) (o:= .lst [.str "free",.int 0,.ref q1,.ref q2,.bl false,.int 0,.ref q3])
 generalize upd H9 N _ = HN at gN eN
 refine⟨aJ rfl,fun Qa hQa=>?_⟩
 have gQ:=aH hQa (.lst [])
 have eQ:=aB (H:=HN) (a:=Qa) (o:= .lst [])
 generalize upd HN Qa _ = HQ at gQ eQ
 refine⟨aJ rfl,fun Ga hGa=>?_⟩
 have gG:=aH hGa (.lst [])
 have eG:=aB (H:=HQ) (a:=Ga) (o:= .lst [])
 generalize upd HQ Ga _ = HG at gG eG
 have g69:=g7.trans (g8.trans g9)
 have G6:=g69.trans (gN.trans (gQ.trans gG))
 have lwN:=lw6.new g69
 have eN':=gG _ _ (gQ _ _ eN)
 have nNQ:N≠Qa:=aX eN hQa
 have nNG:N≠Ga:=aX (gQ _ _ eN) hGa
 have nQG:Qa≠Ga:=aX eQ hGa
 have j0:J47 CA H HG p N Qa Ga ch OB (S0 m1 m2 v) bs o (fun x=>x = N∨x = Qa∨x = Ga) (fun _=>False):=by
  refine⟨lwN.po.same (gN.trans (gQ.trans gG)),⟨⟨⟨_,_,eN'⟩,⟨[],gG _ _ eQ,.nil⟩,⟨[],eG,.nil⟩,.inl rfl,.inr (.inl rfl),.inr (.inr rfl),nQG,nNQ,nNG,?_,fun x z=>z.elim⟩,⟨_,_,false,_,eN',trivial⟩,(show (0:Int)≤0 by decide),fun _=>(show (0:Int) < 18 by decide)⟩,fun x hx=>⟨?_,fun z=>z⟩,lw6.same.trans G6,?_,⟨nOB,?_⟩,G6 _ _ eB,(g6.trans G6) _ _ ec5,hv⟩
  ·rintro x (rfl | rfl | rfl)
   ·rw [eN'];simp
   ·rw [gG _ _ eQ];simp
   ·rw [eG];simp
  ·rintro (rfl | rfl | rfl)
   ·exact lwN.po.new hN hx
   ·exact lwN.po.new (gN.none hQa) hx
   ·exact lwN.po.new (gN.none (gQ.none hGa)) hx
  ·rintro x (hx | rfl | rfl | rfl)
   ·exact lw6.fr x hx
   ·exact lwN.same.none hN
   ·exact lwN.same.none (gN.none hQa)
   ·exact lwN.same.none (gN.none (gQ.none hGa))
  ·have e9:=g69 _ _ eB
   rintro (z | z | z)
   ·exact aX e9 hN z
   ·exact aX (gN _ _ e9) hQa z
   ·exact aX (gQ _ _ (gN _ _ e9)) hGa z
 clear lwN G6 g69 eN' nNQ nNG nQG gG gQ gN g9 g8 g7 e7 e8 e9 eN eQ eG hN hQa hGa hq1 hq2 hq3 lw6 lw g6 eB nOB hOB ec5
 refine⟨a,ns,5,3,rfl,j0.same.seq hS,h63,by decide,by decide,by decide,fun n0 n0a n0b=>?_⟩
 obtain⟨n,rfl⟩:=Int.eq_ofNat_of_zero_le n0a
 have en:((n:Nat):Int).toNat = n:=Int.toNat_natCast n
 refine⟨⟨by omega,by omega⟩,jK (fun i σ H'=>(∃x,σ = [some (.ref a),some (.int ((v:Nat):Int)),some (.ref ch),some (.ref p),some (.ref OB),some (.bl (decide ((0:Int) < c))),some (.ref N),some (.ref Qa),some (.ref Ga),x,none,none,none,none,none])∧∃S o lo Fz,J47 CA H H' p N Qa Ga ch OB S bs o lo Fz∧S.vt = v∧S.wt.length = i∧S.up.length = 0) ⟨⟨_,rfl⟩,_,_,_,_,j0,rfl,rfl,rfl⟩ ?_ ?_⟩
 ·clear j0
  rintro i σ H1 hi ⟨⟨x,rfl⟩,S,o,lo,Fz,j,hvt,hw,hu⟩
  rw [en] at hi
  obtain⟨ts0,eq0,_⟩:=j.la.b.q
  have c5:CMulB 5 (0 + ((i:Nat):Int)):=⟨by decide,dG (by omega) (by omega)⟩
  refine⟨⟨_,SqL.of eq0⟩,c5,a,ns,_,rfl,j.same.seq hS,h63,(by show 0≤20 + 5 * (0 + ((i:Nat):Int));omega),(by show 20 + 5 * (0 + ((i:Nat):Int))≤1000;omega),fun f t d H2 fn fl hd g2 et ed=>?_⟩
  obtain⟨ts,eQ2,tl,la3,mv3⟩:=j.la.addQ (f:=f) g2 hd et ed
  refine⟨ts,eQ2,cJ (by omega),?_⟩
  have eQ3:=aB (H:=H2) (a:=Qa) (o:= .lst (ts ++ [.ref t]))
  have hne:t≠Qa:=fun z=>by rw [z,eQ2] at et;cases et
  have hnd:d≠Qa:=fun z=>(la3.b.fz d (.inr rfl)).1 (by rw [z];exact la3.b.oq)
  have et3:upd H2 Qa (.lst (ts ++ [.ref t])) t = _:=(aK hne).trans et
  have ed3:upd H2 Qa (.lst (ts ++ [.ref t])) d = _:=(aK hnd).trans ed
  generalize upd H2 Qa _ = H3 at la3 mv3 eQ3 et3 ed3
  have po3:=j.po1 mv3
  obtain⟨dq,ch',vt',wl_,ul,cc,nw,ep⟩:=po3.cell
  have hat:atI (ts ++ [V.ref t]) (0 + ((i:Nat):Int)) = some (.ref t):=by rw [Int.zero_add];exact fK (j:=i) (by rw [List.getElem?_append_right (by omega),tl,hw,Nat.sub_self];rfl)
  refine⟨⟨dq,_,ep,rfl⟩,_,_,SqL.of eQ3,hat,_,_,SqT.of et3,rfl,_,_,SqL.of eQ3,hat,_,_,SqT.of et3,rfl,_,.inl (SqL.of ed3),fun ld hld=>?_⟩
  have k4:=aH hld (.lst (f.2.map V.int))
  have e4:=aB (H:=H3) (a:=ld) (o:= .lst (f.2.map V.int))
  generalize upd H3 ld _ = H4 at k4 e4
  obtain⟨nw5,ob5,bd5,fin5⟩:=(po3.same k4).hand
  refine⟨p,nw5,S,ob5,_,ld,f.2,rfl,bd5,SqL.of e4,(by have:=fn.2.1;omega),(by omega),fun _ H5 d5 hd5 b5 kk5=>?_,fun no=>absurd fn.ok no⟩
  obtain⟨o5,hP5,mv5⟩:=fin5 fn.ok H5 d5 hd5 b5 kk5
  have j5:J47 CA H H5 p N Qa Ga ch OB { S with wt:=S.wt ++ [f] } bs o5 lo (Or2 Fz fun x=>x = d):=j.step2 la3 mv3 (fun x z=>z.imp id fun e=>by rw [show x = d from e];exact hd) hP5 ((Mv.of k4).trans mv5) rfl rfl rfl
  exact⟨⟨_,rfl⟩,_,_,_,_,j5,hvt,(by show (S.wt ++ [f]).length = i + 1;rw [List.length_append,hw];rfl),hu⟩
 rintro σ H1 ⟨⟨x,rfl⟩,S1,o1,lo1,Fz1,j1,hvt1,hw1,hu1⟩
 rw [en] at hw1
 clear j0
 refine⟨a,ns,6,140,rfl,j1.same.seq hS,h63,by decide,by decide,by decide,fun lt l0 l1=>?_⟩
 refine⟨⟨by decide,by decide⟩,jK (fun i σ H'=>(∃x y z w u,σ = [some (.ref a),some (.int ((v:Nat):Int)),some (.ref ch),some (.ref p),some (.ref OB),some (.bl (decide ((0:Int) < c))),some (.ref N),some (.ref Qa),some (.ref Ga),x,some (.int lt),y,z,w,u])∧∃S o lo Fz,J47 CA H H' p N Qa Ga ch OB S bs o lo Fz∧S.vt = v∧S.wt.length≤2 + i∧S.up.length≤i) ⟨⟨_,_,_,_,_,rfl⟩,_,_,_,_,j1,hvt1,(by omega),(by omega)⟩ ?_ ?_⟩
 ·clear j1 hvt1 hw1 hu1 S1 o1 lo1 Fz1
  rintro i σ H1 hi ⟨⟨x,y,z,w,u,rfl⟩,S,o,lo,Fz,j,hvt,hw,hu⟩
  have hi2:i < 140:=hi
  refine⟨fun σ' H'=>σ' = [some (.ref a),some (.int ((v:Nat):Int)),some (.ref ch),some (.ref p),some (.ref OB),some (.bl (decide ((0:Int) < c))),some (.ref N),some (.ref Qa),some (.ref Ga),some (.int (0 + ((i:Nat):Int))),some (.int lt),y,z,w,u]∧∃S o lo Fz,J47 CA H H' p N Qa Ga ch OB S bs o lo Fz∧S.vt = v∧S.wt.length≤3 + i∧S.up.length≤i,?_,?_⟩
  ·conv=>whnf
   refine bG (fun _=>?_) (fun _=>⟨rfl,_,_,_,_,j,hvt,(by omega),hu⟩)
   obtain⟨ts0,eq0,_⟩:=j.la.b.q
   refine⟨⟨_,SqL.of eq0⟩,a,ns,_,rfl,j.same.seq hS,h63,(by decide),(by decide),fun f t d H2 fn fl hd g2 et ed=>?_⟩
   obtain⟨ts,eQ2,tl,la3,mv3⟩:=j.la.addQ (f:=f) g2 hd et ed
   refine⟨ts,eQ2,cJ (by omega),?_⟩
   have eQ3:=aB (H:=H2) (a:=Qa) (o:= .lst (ts ++ [.ref t]))
   have hne:t≠Qa:=fun z=>by rw [z,eQ2] at et;cases et
   have hnd:d≠Qa:=fun z=>(la3.b.fz d (.inr rfl)).1 (by rw [z];exact la3.b.oq)
   have et3:upd H2 Qa (.lst (ts ++ [.ref t])) t = _:=(aK hne).trans et
   have ed3:upd H2 Qa (.lst (ts ++ [.ref t])) d = _:=(aK hnd).trans ed
   generalize upd H2 Qa _ = H3 at la3 mv3 eQ3 et3 ed3
   have po3:=j.po1 mv3
   obtain⟨dq,ch',vt',wl_,ul,cc,nw,ep⟩:=po3.cell
   have hat:atI (ts ++ [V.ref t]) (-1) = some (.ref t):=qM _ _
   refine⟨⟨dq,_,ep,rfl⟩,_,_,SqL.of eQ3,hat,_,_,SqT.of et3,rfl,_,_,SqL.of eQ3,hat,_,_,SqT.of et3,rfl,_,.inl (SqL.of ed3),fun ld hld=>?_⟩
   have k4:=aH hld (.lst (f.2.map V.int))
   have e4:=aB (H:=H3) (a:=ld) (o:= .lst (f.2.map V.int))
   generalize upd H3 ld _ = H4 at k4 e4
   obtain⟨nw5,ob5,bd5,fin5⟩:=(po3.same k4).hand
   refine⟨p,nw5,S,ob5,_,ld,f.2,rfl,bd5,SqL.of e4,(by have:=fn.2.1;omega),(by omega),fun _ H5 d5 hd5 b5 kk5=>?_,fun no=>absurd fn.ok no⟩
   obtain⟨o5,hP5,mv5⟩:=fin5 fn.ok H5 d5 hd5 b5 kk5
   have j5:J47 CA H H5 p N Qa Ga ch OB { S with wt:=S.wt ++ [f] } bs o5 lo (Or2 Fz fun x=>x = d):=j.step2 la3 mv3 (fun x z=>z.imp id fun e=>by rw [show x = d from e];exact hd) hP5 ((Mv.of k4).trans mv5) rfl rfl rfl
   exact⟨rfl,_,_,_,_,j5,hvt,(by show (S.wt ++ [f]).length≤3 + i;rw [List.length_append];show _ + 1≤_;omega),hu⟩
  clear j hvt hw hu S o lo Fz
  rintro σ' H2 ⟨rfl,S,o,lo,Fz,j,hvt,hw,hu⟩
  have wf:=j.po.wf
  refine⟨N,Qa,Ga,lo,Fz,S,rfl,j.la,wf,?_⟩
  refine⟨p,N,Qa,Ga,lo,Fz,S,o,rfl,j.po,j.la,fun H3 g3=>?_⟩
  conv=>whnf
  have j3:=j.new g3
  clear j g3
  obtain⟨v2,v3,m,v6,eN,dt⟩:=j3.la.ex
  have hb_:bs[i]? = some bs[i]:=List.getElem?_eq_getElem (by omega)
  have hat:atI (bs.map V.int) (0 + ((i:Nat):Int)) = some (.int bs[i]):=by rw [Int.zero_add];exact iY (by omega)
  refine⟨_,_,SqL.of j3.eb,hat,a,ns,_,N,_,_,_,_,_,_,rfl,j3.same.seq hS,h63,⟨(by omega),(by omega)⟩,eN,a1E wf,bB _ (List.getElem_mem _),fun b H4 hb g4=>?_⟩
  have j4:=j3.new g4
  clear j3 g4 dt eN v2 v3 m v6
  obtain⟨dq,ch',vt',wl_,ul,cc,nw,ep⟩:=j4.po.cell
  refine⟨⟨dq,_,ep,rfl⟩,p,S,o,b,rfl,j4.po,hb,(by omega),fun H5 o5 hP5 mv5=>?_⟩
  have hp:=xT S b
  have hup:=a2R S b
  refine⟨N,Qa,Ga,ch,lo,Fz,S,b,(by rw [hvt];rfl),j4.la1 mv5,wf,hb,mv5.1 _ _ j4.ec (.inr ⟨_,rfl⟩),j4.vt,(by omega),(by omega),fun lo6 Fz6 H6 mv6 fz6 hL6=>?_⟩
  have j6:=j4.step hP5 mv5 mv6 fz6 hL6 hp.1 hp.2.1 hp.2.2.1
  have hvt6:(hearP S b).2.vt = v:=hp.2.2.1.trans hvt
  have hw6:(hearP S b).2.wt.length≤3 + i:=by omega
  have hu6:(hearP S b).2.up.length≤i + 1:=by omega
  clear j4 hP5 mv5 mv6 fz6 hL6 hp hup ep
  generalize hearP S b = R at j6 hvt6 hw6 hu6
  refine⟨rfl,?_⟩
  first
   | refine a0W rfl ?_
   | ((conv=>whnf);refine drec_no _ (by rw [decide_eq_true rfl];decide) ?_;(conv=>whnf))
  refine⟨(by show (0:Int) < 20;decide),?_⟩
  conv=>whnf
  refine bG (fun _=>?_) (fun _=>?_)
  ·refine⟨p,N,Qa,Ga,lo6,Fz6,R.2,o5,rfl,j6.po,j6.la,(by omega),(by omega),fun H7 g7=>?_⟩
   conv=>whnf
   exact⟨⟨_,_,_,_,_,rfl⟩,_,_,_,_,j6.new g7,hvt6,(by omega),hu6⟩
  ·conv=>whnf
   exact⟨⟨_,_,_,_,_,rfl⟩,_,_,_,_,j6,hvt6,(by omega),hu6⟩
 rintro σ H2 ⟨⟨x,y,z,w,u,rfl⟩,S,o,lo,Fz,j,hvt,hw,hu⟩
 exact⟨p,N,Qa,Ga,lo,Fz,S,o,rfl,j.po,j.la,(by omega),(by omega),fun H3 g3=>q _⟩
set_option maxHeartbeats 0 in
include Zck Zau ZdH ZH ZlW ZbA ZdI Zef Zu ZeF Ze9 Zfa ZaP Zdp ZbB ZcF Zc5 Zdq ZeG ZfP ZbT Zd7 ZhR ZlX Zc4 Ze8 Zcb Zeg Zcl Zjw ZdO Zd6 ZcR ZbC Zee Zdc Zed ZfQ Ze7 Zfb ZkE Zao ZlY ZbD ZZ ZhS ZdJ ZaQ ZhT Zjx ZkF ZlZ ZdG Ze Zd Zj Zbl Zf Zae Zc ZdF Zt Zg Zr Zk Zm ZA Zx Za ZaS Zan Zd5 ZaL Zaq Zbk ZaB Zbj Zc3 ZcH ZaK ZeD ZQ ZB ZaH Zbb ZaX ZaR ZaI Zav Zab ZS ZN Za2 Zbm Zag ZeE Zaf ZbK ZaM ZaJ Za4 Z7 ZaW ZaO Zas ZaG Zbp Zbq ZbX ZaF Zbo ZaV ZaN ZbY Zbt ZbP Zbn Za3 Zbc ZbQ Zcn ZbR Zb0 ZbL Za9 Zbr Zb2 ZcC Zcm ZbS Zb1 ZbM Zba Zbs Zb3 ZcD ZbO Zbe ZbN ZcE ZbZ Zbd Zco Zac Zv Zz Zq ZF Zo ZE ZG ZO Zs ZX Z1 Zp Zap ZD ZL ZY ZT Zi Zl Zat ZI Z0 ZK Zdk ZdE Z5 Za1 in
theorem all_mk {l:PySem.W.OpenLaw} {fa:Addr} (hfa:mg "law" = some (.ref fa))
 (ZiH:GF K mg "bits_of" Zlu ZiM)
 (Zg4:GF K mg "number_of" Zkj Zhf)
 (Zg2:GF K mg "are_bytes" Zkh Zhd)
 (ZiI:GF K mg "divided" Zlv ZiN)
 (ZiK:GF K mg "rest_of" Zlx ZiP)
 (ZhM:GF K mg "check_of" ZkW ZhP)
 (ZiJ:GF K mg "is_name" Zlw ZiO)
 (Zkm:GF K mg "put_in" Zmq Zko)
 (Zfz:GF K mg "check_frame" ZiD ZfH)
 (Zf7:GF K mg "frame_bits" Zjs Zgg)
 (ZiL:GF K mg "wire_of" Zly ZiQ)
 (Zg5:GF K mg "told_size" Zkk Zhg)
 (ZfB:GF K mg "is_complete" ZiF ZfJ)
 (Zf8:GF K mg "read_frame" Zjt Zgh)
 (ZeU:GF K mg "begun_reader" ZhG ZeW)
 (Zg3:GF K mg "is_wanted" Zki Zhe)
 (Zkl:GF K mg "copies" Zmp Zkn)
 (Zga:GF K mg "unless_off" Zjv Zgj)
 (ZhN:GF K mg "fault_of" ZkX ZhQ)
 (Zf9:GF K mg "refusal_of" Zju Zgi)
 (ZhL:GF K mg "blame_of" ZkV ZhO)
 (ZfA:GF K mg "check_votes" ZiE ZfI)
 (ZeV:GF K mg "check_choice" ZhH ZeX)
 (ZgX:GF K mg "_law_draw" Zkc Zg8)
 (ZgV:GF K mg "_law_bits" Zka Zg6)
 (Zg0:GF K mg "_law_wire" Zkf Zhb)
 (Zfv:GF K mg "_law_number" Ziz ZfD)
 (Zf3:GF K mg "_law_fault" Zjo Zgc)
 (ZgZ:GF K mg "_law_says" Zke Zha)
 (ZgW:GF K mg "_law_calm" Zkb Zg7)
 (ZgY:GF K mg "_law_free" Zkd Zg9)
 (Zf6:GF K mg "_law_wired" Zjr Zgf)
 (Zfy:GF K mg "_law_tailed" ZiC ZfG)
 (Zg1:GF K mg "_law_word" Zkg Zhc)
 (Zfx:GF K mg "_law_stands" ZiB ZfF)
 (Zfu:GF K mg "_law_looked" Ziy ZfC)
 (Zf5:GF K mg "_law_heard" Zjq Zge)
 (Zf4:GF K mg "_law_frame" Zjp Zgd)
 (Zfw:GF K mg "_law_others" ZiA ZfE)
 (Zkx:GF K mg "law" ZmW ZmJ)
 (Zft:MF K CA.streak "__init__" "Streak.__init__" Zix Zd4)
 (ZdK:MF K CA.streak "lengthen" "Streak.lengthen" ZfL ZcG)
 (Zec:MF K CA.streak "is_full" "Streak.is_full" Zgt Zc2)
 (ZcX:MF K CA.streak "is_too_long" "Streak.is_too_long" ZeJ ZbW)
 (Zfn:MF K CA.reader "__init__" "Reader.__init__" Zir ZdY)
 (Zem:MF K CA.reader "judged" "Reader.judged" ZgH Zdi)
 (Zfm:MF K CA.reader "hear" "Reader.hear" Ziq ZdX)
 (ZeP:MF K CA.reader "plain" "Reader.plain" ZhB Zdz)
 (ZeO:MF K CA.reader "frame" "Reader.frame" ZhA Zdy)
 (ZgT:MF K ZdL "__init__" "Tail.__init__" Zj8 Ze6)
 (ZgU:MF K ZdL "says" "Tail.says" Zj9 ZdN)
 (Zf2:MF K ZdL "place" "Tail.place" Zjn Zdo)
 (Zeo:MF K ZdL "is_fault" "Tail.is_fault" ZgJ ZcB)
 (Zdl:MF K ZdL "judged_vote" "Tail.judged_vote" Zfd Zbz)
 (ZgS:MF K ZdL "hear" "Tail.hear" Zj7 ZdM)
 (Zel:MF K CA.rtail "__init__" "ReadTail.__init__" ZgG Zdh)
 (Zeb:MF K CA.stail "__init__" "SpeakTail.__init__" Zgs Zc1)
 (ZfS:MF K CA.count "__init__" "Count.__init__" Zjd Zeq)
 (Zd8:MF K CA.count "is_quiet" "Count.is_quiet" Zgp ZcY)
 (ZeK:MF K CA.count "is_off" "Count.is_off" Zhw Zdu)
 (ZeL:MF K CA.count "number" "Count.number" Zhx Zdv)
 (ZfT:MF K CA.count "move" "Count.move" Zje Zer)
 (Zff:MF K CA.count "fault" "Count.fault" Zij ZdQ)
 (Zfe:MF K CA.count "blame" "Count.blame" Zii ZdP)
 (ZfR:MF K CA.count "good" "Count.good" Zjc Zep)
 (ZgK:MF K CA.free "__init__" "Free.__init__" ZjZ ZeY)
 (Zfq:MF K CA.speaks "__init__" "Speaks.__init__" Ziu Zd1)
 (ZfW:MF K CA.reads "__init__" "Reads.__init__" Zjh Zeu)
 (Zfg:MF K CA.intail "__init__" "InTail.__init__" Zik ZdR)
 (Zeh:MF K CA.flag "__init__" "Flagging.__init__" ZgC Zdd)
 (ZeQ:MF K CA.settles "__init__" "Settles.__init__" ZhC ZdA)
 (ZfZ:MF K CA.rests "__init__" "Rests.__init__" Zjk Zex)
 (Zek:MF K CA.post "is_quiet" "Post.is_quiet" ZgF Zdg)
 (Zfk:MF K CA.post "is_off" "Post.is_off" Zio ZdV)
 (Zfj:MF K CA.post "faults" "Post.faults" Zin ZdU)
 (Zea:MF K CA.post "has_frame" "Post.has_frame" Zgr Zc0)
 (ZcW:MF K CA.post "foremost_wire" "Post.foremost_wire" ZeI ZbV)
 (ZcV:MF K CA.post "drop_foremost" "Post.drop_foremost" ZeH ZbU)
 (ZeN:MF K CA.post "hand_up" "Post.hand_up" Zhz Zdx)
 (ZgO:MF K CA.post "hand" "Post.hand" Zj3 Ze2)
 (ZfV:MF K CA.post "waits" "Post.waits" Zjg Zet)
 (ZhK:MF K CA.post "got" "Post.got" ZkU ZfO)
 (ZgQ:MF K CA.post "__init__" "Post.__init__" Zj5 Ze4)
 (ZfU:MF K CA.free "shown" "Free.shown" Zjf Zes)
 (ZeT:MF K CA.speaks "shown" "Speaks.shown" ZhF ZdD)
 (Zfo:MF K CA.reads "shown" "Reads.shown" Zis ZdZ)
 (ZeM:MF K CA.intail "shown" "InTail.shown" Zhy Zdw)
 (Zd9:MF K CA.flag "shown" "Flagging.shown" Zgq ZcZ)
 (Zen:MF K CA.settles "shown" "Settles.shown" ZgI Zdj)
 (Zfp:MF K CA.rests "shown" "Rests.shown" Zit Zd0)
 (ZgN:MF K CA.off "shown" "Off.shown" Zj2 Ze1)
 (ZgL:MF K CA.free "says" "Free.says" Zj0 ZeZ)
 (Zfr:MF K CA.speaks "says" "Speaks.says" Ziv Zd2)
 (ZfX:MF K CA.reads "says" "Reads.says" Zji Zev)
 (Zfh:MF K CA.intail "says" "InTail.says" Zil ZdS)
 (Zei:MF K CA.flag "says" "Flagging.says" ZgD Zde)
 (ZeR:MF K CA.settles "says" "Settles.says" ZhD ZdB)
 (Zf0:MF K CA.rests "says" "Rests.says" Zjl Zey)
 (ZhI:MF K CA.off "says" "Off.says" ZkS ZfM)
 (ZhJ:MF K CA.off "step" "Off.step" ZkT ZfN)
 (Zej:MF K CA.flag "step" "Flagging.step" ZgE Zdf)
 (ZeS:MF K CA.settles "step" "Settles.step" ZhE ZdC)
 (Zf1:MF K CA.rests "step" "Rests.step" Zjm Zez)
 (ZgM:MF K CA.free "step" "Free.step" Zj1 Ze0)
 (ZfY:MF K CA.reads "step" "Reads.step" Zjj Zew)
 (Zfs:MF K CA.speaks "step" "Speaks.step" Ziw Zd3)
 (Zfi:MF K CA.intail "step" "InTail.step" Zim ZdT)
 (Zfl:MF K CA.post "stance" "Post.stance" Zip ZdW)
 (ZgR:MF K CA.post "says" "Post.says" Zj6 Ze5)
 (ZgP:MF K CA.post "hear" "Post.hear" Zj4 Ze3)
 :∃fd:FuncData,(∀(s:Shared) (v:Value),BindsTo s fd ⟨[v], []⟩ [("_law_script",v)])∧∀base:Heap,K.In base→base.Ns mainGlobals mg→FnOk l.prog w K mg base CX0 11 fa fd ["_law_script"] (spLaw K):=by
 obtain⟨_,ZiH⟩:=ZiH
 obtain⟨_,Zg4⟩:=Zg4
 obtain⟨_,Zg2⟩:=Zg2
 obtain⟨_,ZiI⟩:=ZiI
 obtain⟨_,ZiK⟩:=ZiK
 obtain⟨_,ZhM⟩:=ZhM
 obtain⟨_,ZiJ⟩:=ZiJ
 obtain⟨_,Zkm⟩:=Zkm
 obtain⟨_,Zfz⟩:=Zfz
 obtain⟨_,Zf7⟩:=Zf7
 obtain⟨_,ZiL⟩:=ZiL
 obtain⟨_,Zg5⟩:=Zg5
 obtain⟨_,ZfB⟩:=ZfB
 obtain⟨_,Zf8⟩:=Zf8
 obtain⟨_,ZeU⟩:=ZeU
 obtain⟨_,Zg3⟩:=Zg3
 obtain⟨_,Zkl⟩:=Zkl
 obtain⟨_,Zga⟩:=Zga
 obtain⟨_,ZhN⟩:=ZhN
 obtain⟨_,Zf9⟩:=Zf9
 obtain⟨_,ZhL⟩:=ZhL
 obtain⟨_,ZfA⟩:=ZfA
 obtain⟨_,ZeV⟩:=ZeV
 obtain⟨_,ZgX⟩:=ZgX
 obtain⟨_,ZgV⟩:=ZgV
 obtain⟨_,Zg0⟩:=Zg0
 obtain⟨_,Zfv⟩:=Zfv
 obtain⟨_,Zf3⟩:=Zf3
 obtain⟨_,ZgZ⟩:=ZgZ
 obtain⟨_,ZgW⟩:=ZgW
 obtain⟨_,ZgY⟩:=ZgY
 obtain⟨_,Zf6⟩:=Zf6
 obtain⟨_,Zfy⟩:=Zfy
 obtain⟨_,Zg1⟩:=Zg1
 obtain⟨_,Zfx⟩:=Zfx
 obtain⟨_,Zfu⟩:=Zfu
 obtain⟨_,Zf5⟩:=Zf5
 obtain⟨_,Zf4⟩:=Zf4
 obtain⟨_,Zfw⟩:=Zfw
 obtain⟨d0,Zkx⟩:=Zkx
 obtain⟨_,_,Zft⟩:=Zft
 obtain⟨_,_,ZdK⟩:=ZdK
 obtain⟨_,_,Zec⟩:=Zec
 obtain⟨_,_,ZcX⟩:=ZcX
 obtain⟨_,_,Zfn⟩:=Zfn
 obtain⟨_,_,Zem⟩:=Zem
 obtain⟨_,_,Zfm⟩:=Zfm
 obtain⟨_,_,ZeP⟩:=ZeP
 obtain⟨_,_,ZeO⟩:=ZeO
 obtain⟨_,_,ZgT⟩:=ZgT
 obtain⟨_,_,ZgU⟩:=ZgU
 obtain⟨_,_,Zf2⟩:=Zf2
 obtain⟨_,_,Zeo⟩:=Zeo
 obtain⟨_,_,Zdl⟩:=Zdl
 obtain⟨_,_,ZgS⟩:=ZgS
 obtain⟨_,_,Zel⟩:=Zel
 obtain⟨_,_,Zeb⟩:=Zeb
 obtain⟨_,_,ZfS⟩:=ZfS
 obtain⟨_,_,Zd8⟩:=Zd8
 obtain⟨_,_,ZeK⟩:=ZeK
 obtain⟨_,_,ZeL⟩:=ZeL
 obtain⟨_,_,ZfT⟩:=ZfT
 obtain⟨_,_,Zff⟩:=Zff
 obtain⟨_,_,Zfe⟩:=Zfe
 obtain⟨_,_,ZfR⟩:=ZfR
 obtain⟨_,_,ZgK⟩:=ZgK
 obtain⟨_,_,Zfq⟩:=Zfq
 obtain⟨_,_,ZfW⟩:=ZfW
 obtain⟨_,_,Zfg⟩:=Zfg
 obtain⟨_,_,Zeh⟩:=Zeh
 obtain⟨_,_,ZeQ⟩:=ZeQ
 obtain⟨_,_,ZfZ⟩:=ZfZ
 obtain⟨_,_,Zek⟩:=Zek
 obtain⟨_,_,Zfk⟩:=Zfk
 obtain⟨_,_,Zfj⟩:=Zfj
 obtain⟨_,_,Zea⟩:=Zea
 obtain⟨_,_,ZcW⟩:=ZcW
 obtain⟨_,_,ZcV⟩:=ZcV
 obtain⟨_,_,ZeN⟩:=ZeN
 obtain⟨_,_,ZgO⟩:=ZgO
 obtain⟨_,_,ZfV⟩:=ZfV
 obtain⟨_,_,ZhK⟩:=ZhK
 obtain⟨_,_,ZgQ⟩:=ZgQ
 obtain⟨_,_,ZfU⟩:=ZfU
 obtain⟨_,_,ZeT⟩:=ZeT
 obtain⟨_,_,Zfo⟩:=Zfo
 obtain⟨_,_,ZeM⟩:=ZeM
 obtain⟨_,_,Zd9⟩:=Zd9
 obtain⟨_,_,Zen⟩:=Zen
 obtain⟨_,_,Zfp⟩:=Zfp
 obtain⟨_,_,ZgN⟩:=ZgN
 obtain⟨_,_,ZgL⟩:=ZgL
 obtain⟨_,_,Zfr⟩:=Zfr
 obtain⟨_,_,ZfX⟩:=ZfX
 obtain⟨_,_,Zfh⟩:=Zfh
 obtain⟨_,_,Zei⟩:=Zei
 obtain⟨_,_,ZeR⟩:=ZeR
 obtain⟨_,_,Zf0⟩:=Zf0
 obtain⟨_,_,ZhI⟩:=ZhI
 obtain⟨_,_,ZhJ⟩:=ZhJ
 obtain⟨_,_,Zej⟩:=Zej
 obtain⟨_,_,ZeS⟩:=ZeS
 obtain⟨_,_,Zf1⟩:=Zf1
 obtain⟨_,_,ZgM⟩:=ZgM
 obtain⟨_,_,ZfY⟩:=ZfY
 obtain⟨_,_,Zfs⟩:=Zfs
 obtain⟨_,_,Zfi⟩:=Zfi
 obtain⟨_,_,Zfl⟩:=Zfl
 obtain⟨_,_,ZgR⟩:=ZgR
 obtain⟨_,_,ZgP⟩:=ZgP
 cases hfa.symm.trans Zkx.m
 refine⟨d0,fun s v=>?_,fun base _ _=>?_⟩
 ·obtain⟨_,_,_,_,_,_,_,_,_,rfl,_⟩:=Zkx.F.ex
  exact .of_eq rfl
 have ZaA:=Zle l.prog w mg base (CA:=CA) Zj Zac Zv Zft
 have ZR:=Zjb l.prog w mg base (CA:=CA) Zj Zac Zv ZdK
 have ZJ:=ZjC l.prog w mg base (CA:=CA) Zck Zj Zv Zec
 have ZaE:=Zhv l.prog w mg base (CA:=CA) Zck Zj Zv ZcX
 have ZV:=ZmK l.prog w mg base Zau Zao Zdk ZiH
 have Zy:=Zmn l.prog w mg base  Zg4
 have Zal:=Zml l.prog w mg base ZdH ZlY Zg2
 have ZcS:=ZmL l.prog w mg base ZH ZdE ZiI
 have Z6:=ZmN l.prog w mg base ZH ZlW Zy ZcS ZiK
 have ZcA:=ZmA l.prog w mg base Zau ZH ZbA ZbD ZV Z6 ZhM
 have ZcT:=ZmM l.prog w mg base ZdI ZiJ
 have Zdm:=ZmS l.prog w mg base (CA:=CA) Zef Zj Zbl ZQ ZB ZaA ZR ZJ Zkm
 have Z3:=Zlk l.prog w mg base Zu ZeF ZZ Z5 Zal ZcT Zfz
 have Zbw:=ZlP l.prog w mg base Zau ZH Zu Ze9 Zfa ZaP ZZ ZV ZcA Z3 Zf7
 have ZcU:=ZmO l.prog w mg base Zau ZH Zu Zdm Zbw ZiL
 have Zam:=Zmo l.prog w mg base Zdp ZbB Zy Zg5
 have Z4:=Zlm l.prog w mg base ZbA ZaP ZbB ZZ Zam ZfB
 have Zbx:=ZlQ l.prog w mg base ZH Zu ZaP Zdp ZbB Zao Z5 Zy Z6 Zam Z4 Zf8
 have Zcu:=Zk8 l.prog w mg base (CA:=CA) Zef Zbl Zf Zz Zq ZF ZaA Zfn
 have ZbH:=Zku l.prog w mg base (CA:=CA) ZH Zj Zf ZB ZaH Zz Zq ZJ ZaE Z6 Z4 Zem
 have Z2:=Zk7 l.prog w mg base (CA:=CA) ZH Zj Zf ZQ ZB Zbb Zz Zq ZF ZR ZJ ZbH Zfm
 have Zcg:=ZkL l.prog w mg base (CA:=CA) ZbD Zf Zq ZeP
 have Zcf:=ZkK l.prog w mg base (CA:=CA) ZH Zu Zf Zq ZF Zbx ZeO
 have ZaZ:=Zmc l.prog w mg base (CA:=CA) Ze Zd ZgT
 have Zdb:=Zmd l.prog w mg base (CA:=CA) ZcF Ze Zd ZgU
 have ZcQ:=ZlK l.prog w mg base (CA:=CA) Ze Zd Zf2
 have ZbJ:=Zkw l.prog w mg base (CA:=CA) ZcF Ze Zd Zeo
 have ZaT:=ZiG l.prog w mg base (CA:=CA) Zc5 Ze Zd Zdl
 have Zda:=Zmb l.prog w mg base (CA:=CA) Zc5 Ze Zd ZaX ZaR ZaI Zav ZbJ ZaT ZgS
 have ZbG:=Zkt l.prog w mg base (CA:=CA) Zdq Ze Zd Zae ZaZ Zel
 have Zbi:=ZjB l.prog w mg base (CA:=CA) Zdq Ze Zd Zae ZaZ Zeb
 have ZcJ:=ZlA l.prog w mg base (CA:=CA) Zc Zo ZfS
 have Zbf:=Zjy l.prog w mg base (CA:=CA) ZeG Zc Zo Zd8
 have Zar:=ZkG l.prog w mg base (CA:=CA) ZfP Zc Zo ZeK
 have Zcc:=ZkH l.prog w mg base (CA:=CA) Zc Zo ZeL
 have Z9:=ZlB l.prog w mg base (CA:=CA) ZhS Zc Zab Zo Zar ZfT
 have Zaw:=Zk0 l.prog w mg base (CA:=CA) ZbT Zd7 Zc ZS Z9 Zff
 have Zcp:=ZkZ l.prog w mg base (CA:=CA) ZbT Zc ZS Z9 Zfe
 have ZcI:=Zlz l.prog w mg base (CA:=CA) Zc ZS Z9 ZfR
 have Z8:=ZkQ l.prog w mg base (CA:=CA) ZH Zu ZhR Zf ZdF ZN Zcu Z2 ZeU
 have Zai:=Zl3 l.prog w mg base (CA:=CA) Zt ZE ZgK
 have Zaz:=Zlb l.prog w mg base (CA:=CA) Zg ZG ZO Zs Zfq
 have Zaa:=ZlE l.prog w mg base (CA:=CA) Zr ZX Z1 ZfW
 have Zax:=Zk1 l.prog w mg base (CA:=CA) Zk Zp Zap Zfg
 have Zah:=Zkp l.prog w mg base (CA:=CA) Zm ZD ZL Zeh
 have ZU:=ZkM l.prog w mg base (CA:=CA) ZA ZY ZeQ
 have ZW:=ZlH l.prog w mg base (CA:=CA) Zx ZT ZfZ
 have Zaj:=Zks l.prog w mg base (CA:=CA) Zc Za Za2 Zi Zbf Zek
 have Zay:=Zk5 l.prog w mg base (CA:=CA) Zc Za Zab Zi Zar Zfk
 have Zcs:=Zk4 l.prog w mg base (CA:=CA) Zc Za Zbm Zi Zcc Zfj
 have Zbh:=ZjA l.prog w mg base (CA:=CA) ZZ Za Zl Zea
 have ZaD:=Zhu l.prog w mg base (CA:=CA) Zau ZH Zu Za Zl ZcU ZcW
 have ZaC:=Zht l.prog w mg base (CA:=CA) Za Zl ZcV
 have Zca:=Zmm l.prog w mg base  Zg3
 have Zce:=ZkJ l.prog w mg base (CA:=CA) Za Zat ZI Zca ZeN
 have Zb4:=Zl7 l.prog w mg base (CA:=CA) Zu ZbD Za Zl Z3 ZgO
 have Za0:=ZmR l.prog w mg base ZbD Zkl
 have ZcL:=ZlD l.prog w mg base (CA:=CA) Za Zl Za0 ZfV
 have Zdt:=Zmy l.prog w mg base (CA:=CA) Za ZI Za0 ZhK
 have ZC:=ZlS l.prog w mg base (CA:=CA) ZlX Za Zag ZeE Zay Zga
 have Zn:=ZmB l.prog w mg base (CA:=CA) Zc4 Ze8 Zc Za ZaS Zaf Zi Zaw Zah ZC ZhN
 have Zby:=ZlR l.prog w mg base (CA:=CA) Zcb Zc Za Zan Zaf Zi Zaw ZU ZC Zf9
 have Zcz:=Zmz l.prog w mg base (CA:=CA) Zcb Zc Za Zan ZbK Zi Zcp ZU ZC ZhL
 have Za8:=Zll l.prog w mg base Zeg Zcl ZdG Za1 ZfA
 have ZaU:=ZkR l.prog w mg base Zcl Za1 Zal ZeV
 have Zc9:=Zl9 l.prog w mg base (CA:=CA) Zeg Zcl Zjw ZdO Za Zd5 ZaL Zi Zl Zat ZI Z0 ZK ZcJ Zai Za8 ZaU ZgQ
 have ZcK:=ZlC l.prog w mg base (CA:=CA) Zt ZE ZfU
 have Zcj:=ZkP l.prog w mg base (CA:=CA) Zg Zs ZeT
 have Zcv:=Zk9 l.prog w mg base (CA:=CA) Zr Z1 Zfo
 have Zcd:=ZkI l.prog w mg base (CA:=CA) Ze Zd Zk ZaM ZaJ Zp ZcQ ZeM
 have Zbg:=Zjz l.prog w mg base (CA:=CA) Zm ZD Zd9
 have ZbI:=Zkv l.prog w mg base (CA:=CA)  Zen
 have Zcw:=Zla l.prog w mg base (CA:=CA) Zx ZT Zfp
 have Zc7:=Zl6 l.prog w mg base (CA:=CA)  ZgN
 have ZaY:=Zl4 l.prog w mg base (CA:=CA) Zd6 Zt Za Za4 Z7 ZE Zaj Zbh ZgL
 have Zcx:=Zlc l.prog w mg base (CA:=CA) Zg ZG Zs Zfr
 have ZcM:=ZlF l.prog w mg base (CA:=CA)  ZfX
 have Zcq:=Zk2 l.prog w mg base (CA:=CA) Ze Zd Zk ZaW ZaO Zp Zdb Zfh
 have ZbE:=Zkq l.prog w mg base (CA:=CA)  Zei
 have Zch:=ZkN l.prog w mg base (CA:=CA)  ZeR
 have ZcO:=ZlI l.prog w mg base (CA:=CA)  Zf0
 have Zdr:=Zmw l.prog w mg base (CA:=CA)  ZhI
 have Zds:=Zmx l.prog w mg base (CA:=CA)  ZhJ
 have ZbF:=Zkr l.prog w mg base (CA:=CA) Zc4 Zcb Zm ZaS Zan ZD ZL Zah ZU Zej
 have Zci:=ZkO l.prog w mg base (CA:=CA) ZcR ZbC ZA Zaq ZY ZW Zcz ZeS
 have ZcP:=ZlJ l.prog w mg base (CA:=CA) ZdO ZcR Zx ZaL Zaq ZT Zai ZW Zn Zf1
 have Zc6:=Zl5 l.prog w mg base (CA:=CA) Zau ZH Zu ZdO Zee Zdc Zt Za ZaL Zbk ZaB Zas ZaG ZE Z8 Zai Zaz Zaa ZaD Zn ZaY ZgM
 have ZcN:=ZlG l.prog w mg base (CA:=CA) ZH Zu Zdq Zdc Zed ZfQ Zf Zr Za ZaB Zbj Zc3 ZN Zbp ZX Z1 Z0 Z2 Zcf ZbG Zaa Zax Zn ZfY
 have Zcy:=Zld l.prog w mg base (CA:=CA) ZH Zu Zdq Zee Zdc Zed Ze7 Zfb ZZ Zf Zg Za Zbk ZaB Zbj ZcH ZN Zbq ZG ZO Zs Z0 Z2 Zcg Zbi Zaz Zaa Zax Zn Zfs
 have Zcr:=Zk3 l.prog w mg base (CA:=CA) ZcR ZbC Ze Zd Zc Zk Za Zaq ZbX ZaF Zbo ZaV ZaN Zp Zap Zi Zda ZcI ZW ZaC Zce Zn Zby Zfi
 have Zct:=Zk6 l.prog w mg base (CA:=CA) Zt Zg Zr Zk Zm ZA Zx Za ZaK ZbY Zbt ZbP Zbn Za3 Zbc ZbQ Zcn ZK ZcK Zcj Zcv Zcd Zbg ZbI Zcw Zc7 Zfl
 have Zb5:=Zma l.prog w mg base (CA:=CA) Zt Zg Zr Zk Zm ZA Zx Za ZaK Zas ZbR Zb0 ZbL Za9 Zbr Zb2 ZcC ZK ZaY Zcx ZcM Zcq ZbE Zch ZcO Zdr ZgR
 have Zc8:=Zl8 l.prog w mg base (CA:=CA) Zau ZH Zu Zt Zg Zr Zk Zm ZA Zx Za ZaK Zcm ZbS Zb1 ZbM Zba Zbs Zb3 ZcD ZK Zds ZbF Zci ZcP Zc6 ZcN Zcy Zcr ZgP
 have Zb:=Zmg l.prog w mg base ZZ ZgX
 have ZM:=Zme l.prog w mg base Zao ZgV
 have Zak:=Zmj l.prog w mg base ZZ ZM Zg0
 have Zw:=Zlg l.prog w mg base  Zfv
 have Zh:=ZlL l.prog w mg base ZdJ Zf3
 have Zb8:=Zmi l.prog w mg base ZZ ZgZ
 have Zb6:=Zmf l.prog w mg base Zh ZgW
 have Zb7:=Zmh l.prog w mg base Zao ZZ Zak Zh ZgY
 have Zbv:=ZlO l.prog w mg base ZZ ZdJ Zw Zh Zf6
 have Za7:=Zlj l.prog w mg base Zao ZZ ZhS Zw Zh Zfy
 have Zb9:=Zmk l.prog w mg base Zb6 Zb7 Zbv Za7 Zg1
 have Za6:=Zli l.prog w mg base (CA:=CA) ZZ ZdJ ZaQ ZhT Zjx ZkF Za ZbO Zbe Zct Zb5 Zfx
 have Zad:=Zlf l.prog w mg base (CA:=CA) Za Zag Z7 ZbN ZcE ZbZ Zaj Zay Zcs ZcL Zdt Zfu
 have Zbu:=ZlN l.prog w mg base ZdJ ZlZ Zb Zf5
 have ZP:=ZlM l.prog w mg base Zb Zf4
 have Za5:=Zlh l.prog w mg base Zao Zb Zak ZP Zfw
 exact(ZmX l.prog w mg base (CA:=CA) Zau ZH Zu Zeg Zcl ZkE Zao ZbD ZaQ ZhT Za ZeD Zbd Zco Zb4 Zc9 Zc8 Zb Zb8 Zb9 Za6 Zad Zbu ZP Za5 Zkx).1
end
theorem tupI_VOTES {K:PySem.W.Frag} {a:Addr} {od:Option Addr} {sl:Array (Option Value)} {n:Nat} {t0 t1 t2:Tok} (h:K.lookup a = some ⟨.type "tuple",od,.seq #[.int 1 t0,.int 3 t1,.int 5 t2] n,sl⟩):TupK K a [1,3,5]:=TupK.of h (aJ rfl) (.cons ⟨_,rfl⟩ (.cons ⟨_,rfl⟩ (.cons ⟨_,rfl⟩ .nil)))
abbrev csI {x_post x_count x_free x_speaks x_reads x_intail x_flag x_settles x_rests x_off x_reader x_streak x_rtail x_stail:Addr}:Cs:=⟨x_post,x_count,x_free,x_speaks,x_reads,x_intail,x_flag,x_settles,x_rests,x_off,x_reader,x_streak,x_rtail,x_stail⟩
theorem walk {l:PySem.W.OpenLaw} {q:Program} {loose:List Str} {XP:(Str→Option Value)→Heap→Prop} {YP:World→Heap→Prop} {d:DefRec} {K:Params→PySem.W.Frag} (hn:l.most = some 63) (hdf:d.params.defaults = [])
    (hY:∀(w:World) (h:Heap),YP w h→(K w.params).In h)
    (F :∀(w:World) (mg:Str→Option Value) (fa:Addr) (h:Heap),(K w.params).In h→h.Ns mainGlobals mg→mg d.name = some (.ref fa)→
      ∃fd:FuncData,(∀(s:Shared) (u:Value),BindsTo s fd ⟨[u], []⟩ [("_law_script",u)])∧∀base:Heap,(K w.params).In base→base.Ns mainGlobals mg→FnOk l.prog w (K w.params) mg base CX0 11 fa fd ["_law_script"] (spLaw (K w.params))) :
    PySem.W.WalkO q loose XP YP l.row.toRowW d [] (fun f vs=>PySem.call f vs):=
  L2.walk_of (n:=63) (k:=11) (x:="_law_script") (CX:=fun _=>CX0) (sp:=fun w=>spLaw (K w.params)) hn (by decide) hdf ⟨rfl,by decide,by decide⟩ hY F (fun _ _ a ns hl _ hS=>⟨a,ns,rfl,hS,hl,fun _=>rfl⟩) fun _ _ _ _ _ z=>z
end My
open PySem PySem.W PyProof.Rows
set_option maxRecDepth 100000 in
set_option maxHeartbeats 0 in
theorem PySem.Challenge.cw_bitrail_k47_whole_stances_holds : PySem.Challenge.rw_bitrail_k47_whole_stances.Holds := by
 w_on;o_law
 refine holds_open (q:=Hd.qv) (loose:=Hd.loose) (XP:=XL Hd.qv []) (YP:=InK Hd.K) (d:=Hd.dl) (kwd:=[]) Hd.left (InK.of Hd.K_as) InK.keeps (fun s e=>xl_of s e) XL.keeps Hd.dl_1 Hd.dl_2 rfl (fun s _=>recFacts_nil rfl) rfl
  (by assumption) (by decide +kernel) ⟨rfl,rfl,rfl,rfl,rfl,by decide +kernel⟩ ?hw ?hc
 case hw=>w_witness2
 k_fill
 refine My.walk (l:=PySem.Challenge.rw_bitrail_k47_whole_stances) rfl rfl (fun w h Y=>Y) ?F
 case F=>
  intro w mg fa h KX G hmg
  refine' My.all_mk w mg (CA:=My.csI) ?m0 ?m1 ?m2 ?m3 ?m4 ?m5 ?m6 ?m7 ?m8 ?m9 ?m10 ?m11 ?m12 ?m13 ?m14 ?m15 ?m16 ?m17 ?m18 ?m19 ?m20 ?m21 ?m22 ?m23 ?m24 ?m25 ?m26 ?m27 ?m28 ?m29 ?m30 ?m31 ?m32 ?m33 ?m34 ?m35 ?m36 ?m37 ?m38 ?m39 ?m40 ?m41 ?m42 ?m43 ?m44 ?m45 ?m46 ?m47 ?m48 ?m49 ?m50 ?m51 ?m52 ?m53 ?m54 ?m55 ?m56 ?m57 ?m58 ?m59 ?m60 ?m61 ?m62 ?m63 ?m64 ?m65 ?m66 ?m67 ?m68 ?m69 ?m70 ?m71 ?m72 ?m73 ?m74 ?m75 ?m76 ?m77 ?m78 ?m79 ?m80 ?m81 ?m82 ?m83 ?m84 ?m85 ?m86 ?m87 ?m88 ?m89 ?m90 ?m91 ?m92 ?m93 ?m94 ?m95 ?m96 ?m97 ?m98 ?m99 ?m100 ?m101 ?m102 ?m103 ?m104 ?m105 ?m106 ?m107 ?m108 ?m109 ?m110 ?m111 ?m112 ?m113 ?m114 ?m115 ?m116 ?m117 ?m118 ?m119 ?m120 ?m121 ?m122 ?m123 ?m124 ?m125 ?m126 ?m127 ?m128 ?m129 ?m130 ?m131 ?m132 ?m133 ?m134 ?m135 ?m136 ?m137 ?m138 ?m139 ?m140 ?m141 ?m142 ?m143 ?m144 ?m145 ?m146 ?m147 ?m148 ?m149 ?m150 ?m151 ?m152 ?m153 ?m154 ?m155 ?m156 ?m157 ?m158 ?m159 ?m160 ?m161 ?m162 ?m163 ?m164 ?m165 ?m166 ?m167 ?m168 ?m169 ?m170 hmg ?f4 ?f5 ?f6 ?f7 ?f8 ?f9 ?f10 ?f11 ?f12 ?f13 ?f14 ?f15 ?f16 ?f17 ?f39 ?f53 ?f56 ?f59 ?f60 ?f61 ?f62 ?f63 ?f64 ?f93 ?f94 ?f95 ?f96 ?f97 ?f98 ?f99 ?f100 ?f101 ?f102 ?f103 ?f104 ?f105 ?f106 ?f107 ?f108 ?f109 ?f0 ?f1 ?f2 ?f3 ?f18 ?f19 ?f20 ?f21 ?f22 ?f23 ?f24 ?f25 ?f26 ?f27 ?f28 ?f29 ?f30 ?f31 ?f32 ?f33 ?f34 ?f35 ?f36 ?f37 ?f38 ?f40 ?f41 ?f42 ?f43 ?f44 ?f45 ?f46 ?f47 ?f48 ?f49 ?f50 ?f51 ?f52 ?f54 ?f55 ?f57 ?f58 ?f65 ?f66 ?f67 ?f68 ?f69 ?f70 ?f71 ?f72 ?f73 ?f74 ?f75 ?f76 ?f77 ?f78 ?f79 ?f80 ?f81 ?f82 ?f83 ?f84 ?f85 ?f86 ?f87 ?f88 ?f89 ?f90 ?f91 ?f92
  all_goals try dsimp only [My.csI]
  case m0 | m1 | m2 | m3 | m4 | m5 | m6 | m7 | m8 | m9 | m10 | m11 | m12 | m13 | m14 | m15 | m16 | m17 | m18 | m19 | m20 | m21 | m22 | m23 | m24 | m25 | m26 | m27 | m28 | m29 | m30 | m31 | m32 | m33 | m34 | m35 | m36 | m37 | m38 | m39 | m40=>refine' PySem.W.mg_of KX G ?_;k_is
  case m41 | m42 | m43 | m44 | m45 | m46 | m47 | m48 | m49 | m50 | m51=>refine' PySem.W.mg_none_of KX G ?_;k_is
  case f4 | f5 | f6 | f7 | f8 | f9 | f10 | f11 | f12 | f13 | f14 | f15 | f16 | f17 | f39 | f53 | f56 | f59 | f60 | f61 | f62 | f63 | f64 | f93 | f94 | f95 | f96 | f97 | f98 | f99 | f100 | f101 | f102 | f103 | f104 | f105 | f106 | f107 | f108 | f109=>(refine' My.gf_mk KX G ?a ?l ?c ?k;(case a=>show _ = _;k_is);(case l=>show _ = _;k_is);(case c=>show _ = _;k_is);(case k=>show _ = _;k_is))
  case f0 | f1 | f2 | f3 | f18 | f19 | f20 | f21 | f22 | f23 | f24 | f25 | f26 | f27 | f28 | f29 | f30 | f31 | f32 | f33 | f34 | f35 | f36 | f37 | f38 | f40 | f41 | f42 | f43 | f44 | f45 | f46 | f47 | f48 | f49 | f50 | f51 | f52 | f54 | f55 | f57 | f58 | f65 | f66 | f67 | f68 | f69 | f70 | f71 | f72 | f73 | f74 | f75 | f76 | f77 | f78 | f79 | f80 | f81 | f82 | f83 | f84 | f85 | f86 | f87 | f88 | f89 | f90 | f91 | f92=>(refine' My.mf_mk ?a ?l ?c ?k;(case a=>show _ = _;k_is);(case l=>show _ = _;k_is);(case c=>show _ = _;k_is);(case k=>show _ = _;k_is))
  case m52=>(refine' My.tupI_VOTES ?a;(case a=>k_is))
  case m53 | m54=>(refine⟨?_,?_,?_,?_,?_⟩;(refine⟨?_,?_,?_,?_⟩ <;> k_is);all_goals (show PySem.W.findIn _ _ _ = _;k_is))
  case m55 | m56 | m57 | m58 | m59 | m60 | m61 | m62 | m63 | m64 | m65 | m66 | m67 | m68 | m69 | m70 | m71 | m72 | m73 | m74 | m75 | m76 | m77 | m78 | m79 | m80=>(refine⟨?_,?_,?_,?_⟩ <;> k_is)
  case m81 | m82 | m83 | m84 | m85 | m86 | m87 | m88 | m89 | m90 | m91 | m92 | m93 | m94 | m95 | m96 | m97 | m98 | m99 | m100 | m101 | m102 | m103 | m104 | m105 | m106 | m107 | m108 | m109 | m110 | m111 | m112 | m113 | m114 | m115 | m116 | m117 | m118 | m119 | m120 | m121 | m122 | m123 | m124 | m125 | m126 | m127 | m128 | m129 | m130 | m131 | m132 | m133 | m134 | m135 | m136 | m137 | m138 | m139 | m140 | m141 | m142=>(refine⟨?_,?_,?_⟩ <;> k_is)
  case m143 | m144 | m145 | m146 | m147 | m148 | m149 | m150 | m151 | m152 | m153 | m154 | m155 | m156 | m157 | m158 | m159 | m160 | m161 | m162 | m163 | m164 | m165 | m166=>(show PySem.W.findIn _ _ _ = _;k_is)
  case m167 | m168 | m169 | m170=>k_exc
#print axioms PySem.Challenge.cw_bitrail_k47_whole_stances_holds
