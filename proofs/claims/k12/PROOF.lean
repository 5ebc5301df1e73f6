import PyProof.Rows.All
import Wide.All
import OpenK.AllK
import Wide.FinOn
import Lean
import PyProof.EqAt
import PyProof.EqKinds
import PyProof.TupleCall
import PyProof.ExcArgsOwn
import PyProof.ExcAttrAll.ValueError
import PyProof.ListMulRoad
import PySem.Challenge.RW_drawndown_k12_runs_told
set_option Elab.async false
set_option linter.all false
set_option maxRecDepth 100000
set_option maxHeartbeats 1000000
set_option exponentiation.threshold 5000
open PySem PyProof.Rows
noncomputable section
namespace Dd
open PySem.Spec
def dArgs(s:Stmt):Arguments:=match s with
 | .FunctionDef _ a _ _ _ _ _ _ _ _=>a | _=>{posonlyargs:=[],args:=[],vararg:=none,kwonlyargs:=[],kw_defaults:=[],kwarg:=none,defaults:=[]}
def zj5(s:Stmt):List Stmt:=match s with
 | .FunctionDef _ _ b _ _ _ _ _ _ _=>b | _=>[]
def zf0(s:Stmt):Scope:=match s with
 | .FunctionDef _ _ _ _ _ _ sc _ _ _=>sc | _=>{kind:=.function,names:=[],isGenerator:=false,isCoroutine:=false}
def z93(h:Heap)(a:Addr):W.Frag:=match h.get? a with | some o=>[(a,o)] | none=>[]
def zlL(h:Heap)(g:W.Frag)(x:Str):W.Frag:=match W.nsIn g mainGlobals x with
 | some (some (.ref f))=>z93 h f++(match h.get? f with
   | some ⟨_,_,.func fd,_⟩=>(match fd.code with | .ref c=>z93 h c | _=>[]) | some ⟨_,_,.cls cd,_⟩=>z93 h cd.ns | _=>[]) | _=>[]
def gat(h:Heap)(ns:List Str):W.Frag:=z93 h mainGlobals++ns.flatMap (zlL h (z93 h mainGlobals))
abbrev FV:=Str×Str×Arguments×FuncBody×Scope×Addr×List (Str×Addr)×Value×Addr×Bool×Bool
def zh8(K:W.Frag)(x:Str):Option FV:=match W.nsIn K mainGlobals x with
 | some (some (.ref f))=>(match K.lookup f with
   | some ⟨_,_,.func fd,_⟩=>some (fd.name,fd.qualname,fd.params,fd.body,fd.scope,fd.globals,fd.closure,fd.defaults,fd.builtins,W.codeIn K fd.code fd.qualname,W.keepIn K (.ref f)) | _=>none) | _=>none
def zkE(x:Str)(st:Stmt):Option FV:=some (x,x,dArgs st,.stmts (zj5 st),zf0 st,mainGlobals,[],.none,builtinsNs,true,true)
def zhe(K:W.Frag)(x:Str):Bool:=match W.nsIn K mainGlobals x with | some none=>true | _=>false
def zho(K:W.Frag)(x:Str):Option Int:=match W.nsIn K mainGlobals x with | some (some (.int i _))=>some i | _=>none
def sameRef:Value->Option (Option Value)->Bool
 | .ref f,some (some (.ref g))=>f==g | _,_=>false
def zck:Value->Option Str
 | .str k _=>some k | _=>none
def z7W:Value->Bool
 | .type c=>c=="dict" | _=>false
def zaG(K:W.Frag):List DictEntry->List Str->List (Int×Option Str×Bool)
 | e::es,y::ys=>(e.hash,zck e.key,sameRef e.val (W.nsIn K mainGlobals y))::zaG K es ys | [],[]=>[] | _,_=>[(0,none,false)]
def zhg(K:W.Frag)(x:Str)(ys:List Str):Option (Bool×Bool×Bool×Bool×List (Int×Option Str×Bool)):=match W.nsIn K mainGlobals x with
 | some (some (.ref a))=>(match K.lookup a with
   | some ⟨c,d,.dict es _,sl⟩=>some (z7W c,d.isNone,sl.size==0,a==sysModules,zaG K es.toList ys) | _=>none) | _=>none
def zk5(w:World)(tb:List (Str×Str)):Option (Bool×Bool×Bool×Bool×List (Int×Option Str×Bool)):=some (true,true,true,false,tb.map fun p=>(PyData.keyHash w.params p.1,some p.1,true))
def zih:List Value->Option (List Int)
 | []=>some [] | .int i _::r=>(zih r).map (i::·) | _=>none
def zdw:Value->Bool
 | .type c=>c=="tuple" | _=>false
def zko(K:W.Frag)(x:Str):Option (Bool×Option (List Int)):=match W.nsIn K mainGlobals x with
 | some (some (.ref a))=>(match K.lookup a with
   | some ⟨c,_,.seq its _,_⟩=>some (zdw c,zih its.toList) | _=>none) | _=>none
def bmV:List Value:=[.type "ValueError",.type "Exception",.type "BaseException",.type "object"]
def z3Y(K:W.Frag)(C:Addr):Bool:=match K.lookup C with | some ⟨.type t,_,.cls _,_⟩=>t=="type" | _=>false
def z5D(K:W.Frag)(x:Str):Bool:=match W.nsIn K mainGlobals x with
 | some (some (.ref C))=>W.excIn K C bmV "ValueError.__new__"&&(W.findIn K (.ref C) "__getattribute__"==some (some (.builtin "BaseException.__getattribute__"))&&(W.findIn K (.ref C) "__getattr__"==some none && (W.findIn K (.ref C) "__class__"==some (some (.builtin "object.__class__"))&&(W.mroIn K C (.type "object")==some true&&(W.mroIn K C (.type "BaseException")==some true&&(z3Y K C&&W.kitOne K (.ref C) (.type "ValueError")==some true)))))) | _=>false
def z4R(K:W.Frag)(x y:Str):Option (Option Bool×Option Bool):=match W.nsIn K mainGlobals x,W.nsIn K mainGlobals y with
 | some (some (.ref C)),some (some (.ref D))=>some (W.mroIn K C (.ref D),W.kitOne K (.ref C) (.ref D)) | _,_=>none
abbrev Obs:=List (Option FV)×List Bool×List (Option Int)×List (Option (Bool×Bool×Bool×Bool×List (Int×Option Str×Bool)))×List (Option (Bool×Option (List Int)))×List Bool×List (Option (Option Bool×Option Bool))
structure Ask where
 fs:List (Str×Stmt)
 bs:List Str
 cs:List (Str×Int)
 ts:List (Str×List (Str×Str))
 us:List (Str×List Int)
 xs:List Str
 ps:List ((Str×Str)×Bool)
def zbc(q:Ask)(K:W.Frag):Obs:=(q.fs.map fun p=>zh8 K p.1,q.bs.map (zhe K),q.cs.map fun p=>zho K p.1,q.ts.map (fun p=>zhg K p.1 (p.2.map (·.2))),q.us.map (fun p=>zko K p.1),q.xs.map (z5D K),q.ps.map fun p=>z4R K p.1.1 p.1.2)
def obsS(q:Ask)(s:Shared):Obs:=zbc q (gat s.heap (q.fs.map (·.1)++q.ts.map (·.1)++q.us.map (·.1)++q.xs))
def valS(q:Ask)(w:World):Obs:=(q.fs.map fun p=>zkE p.1 p.2,q.bs.map fun _=>true,q.cs.map fun p=>some p.2,q.ts.map (fun p=>zk5 w p.2),q.us.map (fun p=>some (true,some p.2)),q.xs.map fun _=>true,q.ps.map fun p=>some (some p.2,some p.2))
def z3b(tb:String->Option Builtin)(p:Program)(w:World)(n₀:Nat)(ann:Option Value):Nat->W.SharedT->Thread->Option W.SharedT
 | 0,_,_=>none | n+1,s,t=>match W.through t with
  | true=>some s | false=>match W.stepOk n₀ ann t with
   | false=>none | true=>match W.stepT (denote tb) p w s t with
    | some (s',t')=>z3b tb p w n₀ ann n s' t' | none=>none
def zhM(l:List Obj):W.BT×Nat:=l.foldl (fun a o=>(a.1.ins a.2 o,a.2+1)) (W.BT.nil,0)
def zjx(P:Params):W.BT:=(zhM (W.boot_heap P).objs.toList).1
end Dd
namespace K12
open PySem.Spec Dd
def top(i:Nat):Stmt:=PySem.Challenge.pw_drawndown_k12_runs_told.main.body.getD i (.Pass ⟨0,0,0,0⟩)
abbrev z0n:Stmt:=top 22
abbrev z0t:Stmt:=top 24
abbrev z0k:Stmt:=top 33
abbrev qa:Stmt:=top 35
abbrev qI:Stmt:=top 37
abbrev xH:Stmt:=top 39
abbrev qj:Stmt:=top 40
abbrev z17:Stmt:=top 41
abbrev z1k:Stmt:=top 47
abbrev z5K:Stmt:=top 54
abbrev uu:Stmt:=top 60
abbrev z0q:Stmt:=top 61
abbrev jO:Stmt:=top 62
abbrev jh:Stmt:=top 64
abbrev kr:Stmt:=top 65
abbrev jr:Stmt:=top 66
abbrev jj:Stmt:=top 68
abbrev z0i:Stmt:=top 69
abbrev jg:Stmt:=top 72
abbrev uy:Stmt:=top 76
abbrev qV:Stmt:=top 23
abbrev qd:Stmt:=top 34
abbrev z1h:Stmt:=top 42
abbrev z0u:Stmt:=top 43
abbrev z2S:Stmt:=top 44
abbrev z1p:Stmt:=top 45
abbrev uE:Stmt:=top 48
abbrev z0l:Stmt:=top 63
abbrev z0f:Stmt:=top 67
abbrev ue:Stmt:=top 70
abbrev uc:Stmt:=top 71
abbrev qg:Stmt:=top 73
abbrev z0r:Stmt:=top 74
abbrev uR:Stmt:=top 77
abbrev z2Y:Stmt:=top 26
abbrev z0m:Stmt:=top 30
abbrev z0j:Stmt:=top 53
abbrev kc:Stmt:=top 75
abbrev qU:Stmt:=top 27
abbrev qT:Stmt:=top 31
abbrev jV:Stmt:=top 28
abbrev qQ:Stmt:=top 32
abbrev yW:Stmt:=top 49
abbrev wA:Stmt:=top 36
abbrev jX:Stmt:=top 50
abbrev z8y:Stmt:=top 51
abbrev qX:Stmt:=top 52
abbrev zbP:Stmt:=top 55
abbrev kA:Stmt:=top 56
abbrev uW:Stmt:=top 57
abbrev uY:Stmt:=top 58
abbrev kE:Stmt:=top 78
abbrev z58:Stmt:=top 79
def z9b:List (Str×Str):=[("next","by_next"),("least","by_least"),("all","by_all"),("turn","by_turn")]
def askQ:Ask:=⟨[(("is_whole":Str),z0n), (("has_size":Str),z0t), (("together":Str),z0k), (("like_places":Str),qa), (("columns_of":Str),qI), (("greatest_and_others":Str),xH), (("least_place":Str),qj), (("all_but":Str),z17), (("is_rule":Str),z1k), (("moved":Str),z5K), (("_law_cell_at":Str),uu), (("_law_pot":Str),z0q), (("_law_take":Str),jO), (("_law_rules":Str),jh), (("_law_step":Str),kr), (("_law_ended":Str),jr), (("_law_plain":Str),jj), (("_law_led":Str),z0i), (("_law_whole":Str),jg), (("_law_kind_of":Str),uy), (("are_wholes":Str),qV), (("lines_times":Str),qd), (("by_next":Str),z1h), (("by_least":Str),z0u), (("by_all":Str),z2S), (("by_turn":Str),z1p), (("want_rule":Str),uE), (("_law_lot":Str),z0l), (("_law_run":Str),z0f), (("_law_product":Str),ue), (("_law_no_rule":Str),uc), (("_law_is_lot":Str),qg), (("_law_odd":Str),z0r), (("_law_same":Str),uR), (("is_lot":Str),z2Y), (("is_table":Str),z0m), (("division":Str),z0j), (("_law_bent":Str),kc), (("want_lot":Str),qU), (("want_table":Str),qT), (("has_ended":Str),jV), (("multiplied":Str),qQ), (("want_rule_and_lot":Str),yW), (("growing_products":Str),wA), (("want_step":Str),jX), (("step":Str),z8y), (("step_table":Str),qX), (("run":Str),zbP), (("tables_of":Str),kA), (("products_of":Str),uW), (("whole_table":Str),uY), (("_law_told":Str),kE), (("law":Str),z58)], [("ValueError":Str),("all":Str),("bool":Str),("enumerate":Str),("int":Str),("isinstance":Str),("len":Str),("list":Str),("max":Str),("min":Str),("range":Str),("sorted":Str),("str":Str),("sum":Str),("tuple":Str),("zip":Str)], [(("LEAST_SIZE":Str),(2:Int)),(("MOST_SIZE":Str),(4:Int))], [(("RULES":Str),z9b)], [], [("DrawError":Str),("Ended":Str),("NoBottom":Str),("NoCube":Str),("NoDeed":Str),("NoLot":Str),("NoNumber":Str),("NoRoot":Str),("NoRow":Str),("NoRule":Str),("NoSize":Str),("NoStep":Str),("NoTable":Str),("NoText":Str),("NoTuple":Str),("NotAlike":Str),("NotFair":Str),("TooMany":Str)], [((("NoLot":Str),("NoLot":Str)),true),((("NoLot":Str),("NoTable":Str)),false),((("NoLot":Str),("NoTuple":Str)),false),((("NoLot":Str),("NotAlike":Str)),false),((("NoLot":Str),("NotFair":Str)),false),((("NoLot":Str),("NoText":Str)),false),((("NoLot":Str),("NoRule":Str)),false),((("NoLot":Str),("Ended":Str)),false),((("NoLot":Str),("NoBottom":Str)),false),((("NoLot":Str),("NoRoot":Str)),false),((("NoLot":Str),("NoCube":Str)),false),((("NoLot":Str),("NoSize":Str)),false),((("NoLot":Str),("NoNumber":Str)),false),((("NoLot":Str),("TooMany":Str)),false),((("NoLot":Str),("NoStep":Str)),false),((("NoLot":Str),("NoDeed":Str)),false),((("NoLot":Str),("NoRow":Str)),false),((("NoRule":Str),("NoLot":Str)),false),((("NoRule":Str),("NoTable":Str)),false),((("NoRule":Str),("NoTuple":Str)),false),((("NoRule":Str),("NotAlike":Str)),false),((("NoRule":Str),("NotFair":Str)),false),((("NoRule":Str),("NoText":Str)),false),((("NoRule":Str),("NoRule":Str)),true),((("NoRule":Str),("Ended":Str)),false),((("NoRule":Str),("NoBottom":Str)),false),((("NoRule":Str),("NoRoot":Str)),false),((("NoRule":Str),("NoCube":Str)),false),((("NoRule":Str),("NoSize":Str)),false),((("NoRule":Str),("NoNumber":Str)),false),((("NoRule":Str),("TooMany":Str)),false),((("NoRule":Str),("NoStep":Str)),false),((("NoRule":Str),("NoDeed":Str)),false),((("NoRule":Str),("NoRow":Str)),false),((("NoLot":Str),("DrawError":Str)),true),((("NoRule":Str),("DrawError":Str)),true)]⟩
def qv:Program:=W.view PySem.Challenge.pw_drawndown_k12_runs_told [79]
def looseQ:List Str:=[("DrawError":Str),("NoLot":Str),("NoTable":Str),("NoTuple":Str),("NotAlike":Str),("NotFair":Str),("NoText":Str),("NoRule":Str),("Ended":Str),("NoBottom":Str),("NoRoot":Str),("NoCube":Str),("NoSize":Str),("NoNumber":Str),("TooMany":Str),("NoStep":Str),("NoDeed":Str),("NoRow":Str),("LEAST_SIZE":Str),("MOST_SIZE":Str),("is_whole":Str),("are_wholes":Str),("has_size":Str),("is_lot":Str),("want_lot":Str),("has_ended":Str),("is_table":Str),("want_table":Str),("multiplied":Str),("together":Str),("lines_times":Str),("like_places":Str),("growing_products":Str),("columns_of":Str),("greatest_and_others":Str),("least_place":Str),("all_but":Str),("by_next":Str),("by_least":Str),("by_all":Str),("by_turn":Str),("RULES":Str),("is_rule":Str),("want_rule":Str),("want_rule_and_lot":Str),("want_step":Str),("step":Str),("step_table":Str),("division":Str),("moved":Str),("run":Str),("tables_of":Str),("products_of":Str),("whole_table":Str),("_law_cell_at":Str),("_law_pot":Str),("_law_take":Str),("_law_lot":Str),("_law_rules":Str),("_law_step":Str),("_law_ended":Str),("_law_run":Str),("_law_plain":Str),("_law_led":Str),("_law_product":Str),("_law_no_rule":Str),("_law_whole":Str),("_law_is_lot":Str),("_law_odd":Str),("_law_bent":Str),("_law_kind_of":Str),("_law_same":Str),("_law_told":Str)]
def lvQ:List (Str×W.WData):=[]
def xtQ:Shared->Bool:=fun s=>W.xlAt qv lvQ s&&W.recOk (W.RowW.records (W.OpenRow.toRowW (W.OpenLaw.row PySem.Challenge.rw_drawndown_k12_runs_told))) s
theorem zlO:∀ w:World,W.absHeap (zjx w.params) 11 (W.boot_heap w.params).life=W.boot_heap w.params:=by
 intro w;kernel_rfl
theorem bsz:∀ w:World,((W.boot_heap w.params).isNs mainGlobals&&(Array.mk []:Array GenState).size==0,(W.boot_heap w.params).objs.size,(W.boot_heap w.params).nsMap mainGlobals "__annotations__")=(true,11,(some (.ref 6))):=by
 intro w;kernel_rfl
def zjI(w v:World)(os:OsState):Option W.SharedT:=z3b treeTable PySem.Challenge.pw_drawndown_k12_runs_told v 11 (some (.ref 6)) 11072 ⟨zjx w.params,11,(W.boot_heap w.params).life,Array.mk [],W.boot_drawn,W.boot_toks,os⟩ (W.topStub PySem.Challenge.pw_drawndown_k12_runs_told)
def zj0(w:World)(s:W.SharedT):Bool:=W.staticsOk (importedModules PySem.Challenge.pw_drawndown_k12_runs_told.main.body) (W.boot_heap w.params) s.abs.heap&&W.namesBound PySem.Challenge.pw_drawndown_k12_runs_told s.abs.heap&&W.gensDone s.abs&&W.laidKept (W.boot_heap w.params) s.abs.heap
def seenQ(s:Shared):=W.openSeen qv looseQ (importedModules PySem.Challenge.pw_drawndown_k12_runs_told.main.body) xtQ true s
set_option maxRecDepth 1000000 in
theorem z6I:∀ (w:World)(os:OsState),(zjI w (w.withFollow "special-get-raises" false) os).map (fun s=>(zj0 w s,obsS askQ s.abs))=some (true,valS askQ (w.withFollow "special-get-raises" false)):=by
 intro w os;kernel_rfl
set_option maxRecDepth 1000000 in
theorem z7t:∀ (w:World)(os:OsState),(zjI w (w.withFollow "special-get-raises" false) os).map (fun s=>seenQ s.abs)=some (W.openGood qv looseQ):=by
 intro w os;kernel_rfl
set_option maxRecDepth 1000000 in
theorem z8B:∀ (w:World)(os:OsState),(zjI w (w.withFollow "special-get-raises" true) os).map (fun s=>(zj0 w s,obsS askQ s.abs))=some (true,valS askQ (w.withFollow "special-get-raises" true)):=by
 intro w os;kernel_rfl
set_option maxRecDepth 1000000 in
theorem z8l:∀ (w:World)(os:OsState),(zjI w (w.withFollow "special-get-raises" true) os).map (fun s=>seenQ s.abs)=some (W.openGood qv looseQ):=by
 intro w os;kernel_rfl
end K12
namespace L2
open PySem.Spec
abbrev Key:=Sum Int Str
def z8f:Key->Value->Bool
 | .inl k,v=>Value.isInt k v | .inr x,v=>Value.isStrOf x v
def zmT(w:World):Key->Int
 | .inl k=>hashInt k | .inr x=>hashStr w x
theorem yH:∀ {k:Key} {v:Value},z8f k v=true->(∃ i t,k=Sum.inl i/\v=Value.int i t)\/(∃ x t,k=Sum.inr x/\v=Value.str x t)
 | .inl i,v,h=>by
  obtain ⟨t,e⟩:=Value.isInt_shape (k:=i) (v:=v) h;exact .inl ⟨i,t,rfl,e⟩ | .inr x,v,h=>by
  obtain ⟨t,e⟩:=Value.isStrOf_shape (x:=x) (v:=v) h;exact .inr ⟨x,t,rfl,e⟩
theorem z3z(x:Str)(t:Tok):z8f (.inr x) (.str x t)=true:=by simp [z8f,Value.isStrOf]
theorem ziw(a b:Int):decide ((Sum.inl a:Key)=Sum.inl b)=(a==b):=by
 by_cases e:a=b;·subst e;simp
 ·have h:¬ (Sum.inl a:Key)=Sum.inl b:=fun q=>e (Sum.inl.inj q);rw [decide_eq_false h];exact (beq_eq_false_iff_ne.mpr e).symm
theorem zhD(a b:Str):decide ((Sum.inr a:Key)=Sum.inr b)=decide (a=b):=by
 by_cases e:a=b;·subst e;simp
 ·have h:¬ (Sum.inr a:Key)=Sum.inr b:=fun q=>e (Sum.inr.inj q);rw [decide_eq_false h,decide_eq_false e]
theorem ziH(a:Int)(b:Str):decide ((Sum.inl a:Key)=Sum.inr b)=false:=decide_eq_false (fun q=>nomatch q)
theorem zhN(a:Str)(b:Int):decide ((Sum.inr a:Key)=Sum.inl b)=false:=decide_eq_false (fun q=>nomatch q)
def xG(prog:Program)(w:World):PySem.KeyKind prog w Key where
 is:=z8f;hash:=zmT w;inj:=fun v a b ha hb=>by
  rcases yH ha with ⟨i,t,rfl,rfl⟩ | ⟨x,t,rfl,rfl⟩
  ·rcases yH hb with ⟨j,u,rfl,e⟩ | ⟨y,u,rfl,e⟩;·injection e with e1 _;rw [e1]
   ·exact nomatch e
  ·rcases yH hb with ⟨j,u,rfl,e⟩ | ⟨y,u,rfl,e⟩;·exact nomatch e
   ·injection e with e1 _;rw [e1]
 byValue:=fun k v h=>by rcases yH h with ⟨i,t,rfl,rfl⟩ | ⟨x,t,rfl,rfl⟩<;>rfl
 pyHash:=fun hv h=>by
  rcases yH hv with ⟨i,t,rfl,rfl⟩ | ⟨x,t,rfl,rfl⟩;·exact wpAny_pyHash_int h
  ·exact wpAny_pyHash_str h
 eqBool:=fun hu hv h=>by
  rcases yH hu with ⟨i,t,rfl,rfl⟩ | ⟨x,t,rfl,rfl⟩
  ·rcases yH hv with ⟨j,u,rfl,rfl⟩ | ⟨y,u,rfl,rfl⟩;·rw [ziw] at h;exact wpAny_eqBool_int h
   ·rw [ziH] at h;exact SeqAt.EqAt.int_str i t y u _ _ _ _ h
  ·rcases yH hv with ⟨j,u,rfl,rfl⟩ | ⟨y,u,rfl,rfl⟩;·rw [zhN] at h;exact SeqAt.EqAt.str_int x t j u _ _ _ _ h
   ·rw [zhD] at h;exact wpAny_eqBool_str h
 «strs» := fun k x t v h=>by
  rcases yH h with ⟨i,u,rfl,e⟩ | ⟨y,u,rfl,e⟩;·exact nomatch e
  ·injection e with e1 _;subst e1;cases v<;>rfl
theorem z4H(prog:Program)(w:World)(k:Key)(v:Value):(xG prog w).is k v=z8f k v:=rfl
theorem z8T(prog:Program)(w:World)(x:Str)(t:Tok):(xG prog w).is (.inr x) (.str x t)=true:=z3z x t
inductive V where | non | bl (b:Bool) | int (i:Int) | str (x:Str) | byt (b:Array UInt8) | flt (b:UInt64) | ref (a:Addr) | ty (n:String) deriving DecidableEq
def wm:V->Value->Prop
 | .non,u=>u=Value.none | .bl b,u=>u=Value.bool b | .int i,u=>∃ t,u=Value.int i t | .str x,u=>∃ t,u=Value.str x t | .byt b,u=>∃ t,u=Value.bytes b t | .flt b,u=>∃ t,u=Value.float b t | .ref a,u=>u=Value.ref a | .ty n,u=>u=Value.type n
abbrev yY:List V->List Value->Prop:=Paired wm
theorem yY.length{xs:List V}{us:List Value}(r:yY xs us):xs.length=us.length:=Paired.length r
theorem yY.get:∀ {xs:List V} {us:List Value} {i:Nat} {x:V},yY xs us->xs[i]? = some x->∃ u,us[i]? = some u/\wm x u
 | _,_,_,_,.nil,e=>by simp at e | _,_,0,_,.cons r _,e=>by simp at e;subst e;exact ⟨_,rfl,r⟩ | _,_,i+1,x,.cons _ t,e=>by
  obtain ⟨u,h1,h2⟩:=yY.get (i:=i) (x:=x) t (by simpa using e);exact ⟨u,by simpa using h1,h2⟩
theorem yY.set{x:V}{u:Value}(r:wm x u):∀ {xs:List V}{us:List Value}(i:Nat),yY xs us->yY (xs.set i x) (us.set i u)
 | _,_,_,.nil=>.nil | _,_,0,.cons _ t=>.cons r t | _,_,i+1,.cons q t=>.cons q (yY.set r i t)
theorem yY.append:∀ {xs ys:List V}{us ws:List Value},yY xs us->yY ys ws->yY (xs++ys) (us++ws)
 | _,_,_,_,.nil,s=>s | _,_,_,_,.cons r t,s=>.cons r (yY.append t s)
theorem yY.take:∀ {xs:List V}{us:List Value}(n:Nat),yY xs us->yY (xs.take n) (us.take n)
 | _,_,0,_=>.nil | _,_,_+1,.nil=>.nil | _,_,n+1,.cons r t=>.cons r (yY.take n t)
theorem yY.drop:∀ {xs:List V}{us:List Value}(n:Nat),yY xs us->yY (xs.drop n) (us.drop n)
 | _,_,0,r=>r | _,_,_+1,.nil=>.nil | _,_,n+1,.cons _ t=>yY.drop n t
def zkr:Option V->Option Value->Prop
 | some v,some u=>wm v u | none,none=>True | _,_=>False
def KV{κ:Type}:List (κ×V)->List (κ×Value)->Prop:=Paired fun (p:κ×V)(q:κ×Value)=>p.1=q.1/\wm p.2 q.2
def kV:Key->V
 | .inl i=>.int i | .inr x=>.str x
inductive HO where | lst (xs:List V) | tup (xs:List V) | dK (kvs:List (Key×V)) | dT (kvs:List (List Key×V)) | set (S:Int->Bool)(n:Nat) | ins (C dx:Addr)(fs:List (Str×V)) | own (x:Addr) | xd (fs:List (Str×V)) | met (f x:Addr) | rng (lo hi:Int) | frz (o:Obj)(u:HO) | tbl (ps:Array Value) | ext (φ:Heap->Prop)
abbrev Hp:=Addr->Option HO
def upd(H:Hp)(a:Addr)(o:HO):Hp:=fun b=>if b=a then some o else H b
theorem yV{H:Hp}{a:Addr}{o:HO}:upd H a o a=some o:=by unfold upd;rw [if_pos rfl]
theorem zS{H:Hp}{a b:Addr}{o:HO}(h:b≠a):upd H a o b=H b:=by unfold upd;rw [if_neg h]
theorem zge{H:Hp}{a:Addr}{o u:HO}:upd (upd H a o) a u=upd H a u:=by funext b;unfold upd;split<;>rfl
theorem xc{H:Hp}{a b:Addr}{o:HO}(h:H a=some o)(h':H b=none):a≠b:=by intro e;subst e;rw [h] at h';cases h'
def zbb(h:Heap)(a:Addr)(items:Array Value):Prop:=∃ o,h.get? a=some o/\o.cls=.type "tuple"/\o.dict=none/\∃ n,o.data=.seq items n
theorem zbb.tup{h:Heap}{a:Addr}{items:Array Value}(x:zbb h a items):IsTup h a items:=let ⟨o,e,c,_,r⟩:=x;⟨o,e,c,r⟩
theorem zbb.new(h:Heap)(items:Array Value):zbb (h.push {cls:=.type "tuple",data:=.seq items}) h.objs.size items:=⟨_,Heap.get?_push_size _ rfl,rfl,rfl,_,rfl⟩
theorem zbb.lt{h:Heap}{a:Addr}{items:Array Value}(x:zbb h a items):a<h.objs.size:=x.tup.lt
section
variable (P:Program)(w:World)
def wl(H:Hp)(h:Heap)(a:Addr):HO->Prop
 | .lst xs=>xs.length<=sizeLine/\∃ (its:List Value)(n:Nat),yY xs its/\h.get? a=some {cls:=.type "list",data:=.seq its.toArray n} | .tup xs=>xs.length<=sizeLine/\∃ its:List Value,yY xs its/\zbb h a its.toArray | .dK kvs=>kvs.length<=sizeLine/\(a==sysModules)=false/\∃ vs,KV kvs vs/\h.DictOf (xG P w) a vs | .dT kvs=>kvs.length<=sizeLine/\(a==sysModules)=false/\∃ xs:List (List Key×Addr×Value), Paired (fun (p:List Key×V)(q:List Key×Addr×Value)=>p.1=q.1/\H q.2.1=some (.tup (p.1.map kV))/\wm p.2 q.2.2) kvs xs/\ ∃ o es ep,h.get? a=some o/\o.ExactDict/\o.data=.dict es ep/\es.toList=xs.map (entryOfKey (tupleKind (xG P w)))/\(xs.map (·.1)).Nodup | .set S n=>h.SetOf (intKind P w) a S n | .ins C dx fs=>H dx=some (.own a)/\fs.length<=1000/\dx≠a/\h.get? a=some (W.instObj C dx)/\ ∃ mA,h.Ns1 dx mA/\(∀ f,zkr (fs.lookup f) (mA f))/\PySem.Within mA (fs.map (·.1)) | .own _=>∃ o,h.get? a=some o | .xd fs=>∃ mA,h.Ns1 a mA/\∀ f,zkr (fs.lookup f) (mA f) | .rng lo hi=>∃ t u v,h.get? a=some {cls:=.type "range",data:=.fields #[.int lo t,.int hi u,.int 1 v]} | .frz o u=>h.get? a=some o/\wl H h a u | .tbl ps=>h.get? a=some {cls:=.none,data:=.fields ps} | .met f x=>h.get? a=some (W.methodObj (.ref f) (.ref x)) | .ext φ=>φ h/\(∃ o,h.get? a=some o)/\∀ h1 h2:Heap,φ h1->(∀ o,h1.get? a=some o->h2.get? a=some o)->φ h2
def HOk(H:Hp)(h:Heap):Prop:=∀ a o,H a=some o->wl P w H h a o
end
section
variable {P:Program}{w:World}{H H':Hp}{h h':Heap}{a:Addr}{o:HO}
theorem wl.lt(x:wl P w H h a o):a<h.objs.size:=by cases o with
 | lst xs=>obtain ⟨_,_,_,_,e⟩:=x;exact Heap.lt_size e | tup xs=>obtain ⟨_,_,_,p⟩:=x;exact p.lt | dK kvs=>obtain ⟨_,_,_,_,o,_,_,e,_⟩:=x;exact Heap.lt_size e | dT kvs=>obtain ⟨_,_,_,_,o,_,_,e,_⟩:=x;exact Heap.lt_size e | set S n=>obtain ⟨o,_,_,_,e,_⟩:=x;exact Heap.lt_size e | ins C dx fs=>obtain ⟨_,_,_,e,_⟩:=x;exact Heap.lt_size e | own y=>obtain ⟨_,e⟩:=x;exact Heap.lt_size e | xd fs=>obtain ⟨_,⟨_,_,_,e,_⟩,_⟩:=x;exact Heap.lt_size e | rng lo hi=>obtain ⟨_,_,_,e⟩:=x;exact Heap.lt_size e | frz ob u=>obtain ⟨e,_⟩:=x;exact Heap.lt_size e | tbl ps=>exact Heap.lt_size (show h.get? a=some _ from x) | met f y=>exact Heap.lt_size (show h.get? a=some _ from x) | ext φ=>obtain ⟨_,⟨_,e⟩,_⟩:=x;exact Heap.lt_size e
theorem Paired.mapP{α β:Type}{F G:α->β->Prop}:∀ {l₁:List α}{l₂:List β},Paired F l₁ l₂->(∀ a b,F a b->G a b)->Paired G l₁ l₂
 | _,_,.nil,_=>.nil | _,_,.cons r t,f=>.cons (f _ _ r) (Paired.mapP t f)
theorem wl.stay(x:wl P w H h a o)(k:∀ b u,(b=a\/H b=some (.own a))->h.get? b=some u->h'.get? b=some u) (ho:∀ b,H b=some (.own a)->H' b=some (.own a))(ht:∀ b xs,H b=some (.tup xs)->H' b=some (.tup xs)):wl P w H' h' a o:=by induction o with
 | lst xs=>obtain ⟨z,its,n,r,e⟩:=x;exact ⟨z,its,n,r,k _ _ (.inl rfl) e⟩ | tup xs=>obtain ⟨z,its,r,ob,e,c⟩:=x;exact ⟨z,its,r,ob,k _ _ (.inl rfl) e,c⟩ | dK kvs=>obtain ⟨z,y,vs,r,ob,es,ep,e,c⟩:=x;exact ⟨z,y,vs,r,ob,es,ep,k _ _ (.inl rfl) e,c⟩ | dT kvs=>
  obtain ⟨z,y,xs,r,ob,es,ep,e,c⟩:=x;exact ⟨z,y,xs,Paired.mapP r fun p q z=>⟨z.1,ht _ _ z.2.1,z.2.2⟩,ob,es,ep,k _ _ (.inl rfl) e,c⟩ | set S n=>obtain ⟨ob,es,ep,t,e,c⟩:=x;exact ⟨ob,es,ep,t,k _ _ (.inl rfl) e,c⟩ | ins C dx fs=>
  obtain ⟨d,z,ne,e,mA,⟨od,es,ep,e2,c⟩,r⟩:=x;exact ⟨ho _ d,z,ne,k _ _ (.inl rfl) e,mA,⟨od,es,ep,k _ _ (.inr d) e2,c⟩,r⟩ | own y=>obtain ⟨ob,e⟩:=x;exact ⟨ob,k _ _ (.inl rfl) e⟩ | xd fs=>obtain ⟨mA,⟨od,es,ep,e,c⟩,r⟩:=x;exact ⟨mA,⟨od,es,ep,k _ _ (.inl rfl) e,c⟩,r⟩ | rng lo hi=>obtain ⟨t,u,v,e⟩:=x;exact ⟨t,u,v,k _ _ (.inl rfl) e⟩ | frz ob u ih=>obtain ⟨e,q⟩:=x;exact ⟨k _ _ (.inl rfl) e,ih q⟩ | tbl ps=>
  have e:h.get? a=some {cls:=.none,data:=.fields ps}:=x;show h'.get? a=some {cls:=.none,data:=.fields ps};exact k a _ (.inl rfl) e | met f y=>
  have e:h.get? a=some (W.methodObj (.ref f) (.ref y)):=x;show h'.get? a=some (W.methodObj (.ref f) (.ref y));exact k a _ (.inl rfl) e | ext φ=>obtain ⟨p,⟨o,e⟩,st⟩:=x;exact ⟨st _ _ p fun o q=>k _ _ (.inl rfl) q,⟨o,k _ _ (.inl rfl) e⟩,st⟩
theorem HOk.lt(x:HOk P w H h)(e:H a=some o):a<h.objs.size:=(x a o e).lt
theorem HOk.fresh(x:HOk P w H h)(e:h.objs.size<=a):H a=none:=by cases q:H a with
 | none=>rfl | some u=>exact absurd (Nat.lt_of_lt_of_le (x.lt q) e) (Nat.lt_irrefl _)
theorem HOk.kept(x:HOk P w H h)(k:∀ b u,h.get? b=some u->h'.get? b=some u):HOk P w H h':=fun a o e=> (x a o e).stay (fun b u _ q=>k b u q) (fun _ q=>q) fun _ _ q=>q
theorem HOk.laid(x:HOk P w H h)(k:∀ b u,h.get? b=some u->h'.get? b=some u)(hp:h.objs.size<=a)(new:wl P w (upd H a o) h' a o):HOk P w (upd H a o) h':=fun b u e=>by
 have hn:=x.fresh hp;by_cases hb:b=a;·subst hb;rw [yV] at e;cases e;exact new
 ·rw [zS hb] at e;exact (x b u e).stay (fun c v _ q=>k c v q) (fun c q=>by rw [zS (xc q hn)];exact q) fun c xs q=>by rw [zS (xc q hn)];exact q
end
def Rd(H:Hp)(a:Addr)(u:HO):Prop:=H a=some u\/∃ o,H a=some (.frz o u)
theorem Rd.ok{P:Program}{w:World}{H:Hp}{h:Heap}{a:Addr}{u:HO}(r:Rd H a u)(x:HOk P w H h):wl P w H h a u:=by
 rcases r with r | ⟨o,r⟩;·exact x a u r
 ·obtain ⟨_,q⟩:=x a _ r;exact q
def Mut:Option HO->Prop
 | some (.lst _)=>True | some (.dK _)=>True | some (.dT _)=>True | some (.set _ _)=>True | some (.ins _ _ _)=>True | some (.ext _)=>True | _=>False
section
variable {P:Program}{w:World}{H:Hp}{h h':Heap}{x e:Addr}{o':HO}
theorem HOk.write(ok:HOk P w H h)(mu:Mut (H x))(he:e=x\/H e=some (.own x))(k:∀ b u,b≠e->h.get? b=some u->h'.get? b=some u)(heo:∃ u,h'.get? e=some u) (new:wl P w (upd H x o') h' x o'):HOk P w (upd H x o') h':=fun b u q=>by
 have nown:∀ c y,H c=some (.own y)->c≠x:=fun c y r z=>by subst z;rw [r] at mu;exact mu
 have ntup:∀ c xs,H c=some (.tup xs)->c≠x:=fun c xs r z=>by subst z;rw [r] at mu;exact mu
 by_cases hb:b=x;·subst hb;rw [yV] at q;cases q;exact new
 ·rw [zS hb] at q;by_cases hbe:b=e
  ·have q':H b=some (.own x):=by
    rcases he with z | z;·exact absurd (hbe.trans z) hb
    ·rw [hbe];exact z
   rw [q] at q';cases q';obtain ⟨v,hv⟩:=heo;exact ⟨v,by rw [hbe];exact hv⟩
  ·refine (ok b u q).stay (fun c v hc r=>k c v ?_ r) (fun c r=>by rw [zS (nown c b r)];exact r) fun c xs r=>by rw [zS (ntup c xs r)];exact r
   rcases hc with rfl | hc;·exact hbe
   ·rintro rfl;rcases he with z | z;·exact nown c b hc z
    ·rw [hc] at z;cases z;exact hb rfl
end
structure Un(fs ex:List Addr)(H H':Hp)(h h':Heap):Prop where
 keep:∀ b o,h.get? b=some o->H b=none->b∉fs->b∉ex->h'.get? b=some o
 slot:∀ b o,h.get? b=some o->H b=none->b∈fs->b∉ex->∃ sl,h'.get? b=some {o with slots:=sl}
 free:∀ b o,h.get? b=some o->H b=none->b∉ex->H' b=none
 there:∀ b o,h.get? b=some o->b∉ex->∃ o',h'.get? b=some o'
 tups:∀ b xs,H b=some (.tup xs)->H' b=some (.tup xs)
 frzs:∀ b o u,H b=some (.frz o u)->H' b=some (.frz o u)
 tbls:∀ b ps,H b=some (.tbl ps)->∃ more,H' b=some (.tbl (ps++more))
section
variable {fs fs' ex ex':List Addr}{H H1 H2:Hp}{h h1 h2 h':Heap}{a x e:Addr}{o:HO}
theorem Un.any(u:Un fs ex H H1 h h1){b:Addr}{ob:Obj}(q:h.get? b=some ob)(n:H b=none)(hx:b∉ex):∃ sl,h1.get? b=some {ob with slots:=sl}:=by
 by_cases hb:b∈fs;·exact u.slot b ob q n hb hx
 ·exact ⟨ob.slots,u.keep b ob q n hb hx⟩
theorem Un.kept(k:∀ b u,h.get? b=some u->h'.get? b=some u):Un fs ex H H h h':= ⟨fun b ob q _ _ _=>k b ob q,fun b ob q _ _ _=>⟨ob.slots,k b ob q⟩,fun _ _ _ n _=>n,fun b ob q _=>⟨ob,k b ob q⟩,fun _ _ q=>q,fun _ _ _ q=>q,fun _ ps q=>⟨#[],by rw [q];simp⟩⟩
theorem Un.refl:Un fs ex H H h h:=Un.kept fun _ _ q=>q
theorem Un.laid(k:∀ b u,h.get? b=some u->h'.get? b=some u)(hp:h.objs.size<=a)(hn:H a=none):Un fs ex H (upd H a o) h h' where
 keep:=fun b u q _ _ _=>k b u q;slot:=fun b u q _ _ _=>⟨u.slots,k b u q⟩;free:=fun b u q n _=>by rw [zS (Nat.ne_of_lt (Nat.lt_of_lt_of_le (Heap.lt_size q) hp))];exact n
 there:=fun b u q _=>⟨u,k b u q⟩;tups:=fun b xs q=>by rw [zS (xc q hn)];exact q
 frzs:=fun b u xs q=>by rw [zS (xc q hn)];exact q
 tbls:=fun b ps q=>⟨#[],by rw [zS (xc q hn),q];simp⟩
theorem Un.write(mu:Mut (H x))(he:e=x\/H e=some (.own x))(k:∀ b u,b≠e->h.get? b=some u->h'.get? b=some u)(heo:∃ u,h'.get? e=some u):Un fs ex H (upd H x o) h h':=by
 have hx:∀ b,H b=none->b≠x:=fun b n z=>by subst z;rw [n] at mu;exact mu
 have hb:∀ b,H b=none->b≠e:=fun b n z=>by
  subst z;rcases he with r | r;·exact hx b n r
  ·rw [n] at r;cases r
 have hm:∀ b u,H b=some u->¬ Mut (some u)->b≠x:=fun b u q nm z=>by subst z;rw [q] at mu;exact nm mu
 refine ⟨fun b u q n _ _=>k b u (hb b n) q,fun b u q n _ _=>⟨u.slots,k b u (hb b n) q⟩,fun b u q n _=>by rw [zS (hx b n)];exact n,fun b u q _=>?_, fun b xs q=>by rw [zS (hm b _ q fun z=>z)];exact q,fun b u xs q=>by rw [zS (hm b _ q fun z=>z)];exact q,fun b ps q=>⟨#[],by rw [zS (hm b _ q fun z=>z),q];simp⟩⟩;by_cases hbe:b=e;·subst hbe;exact heo
 ·exact ⟨u,k b u hbe q⟩
end
def trk(h:Heap)(H:Hp):List Addr:=(List.range h.objs.size).filter fun a=>(H a).isSome
def zdz(h:Heap)(H:Hp):Heap:=W.hideAll h (trk h H)
theorem zcm(h:Heap)(H:Hp):(zdz h H).objs.size=h.objs.size:=W.hideAll_size _ _
theorem zdM{h:Heap}{H:Hp}{b:Addr}{o:Obj}(e:h.get? b=some o)(n:H b=none):(zdz h H).get? b=some o:= W.hideAll_get _ e fun hm=>by
  have q:(H b).isSome=true:=(List.mem_filter.mp hm).2;rw [n] at q;simp at q
theorem zgO{h:Heap}{H:Hp}{b:Addr}{o:Obj}(e:(zdz h H).get? b=some o):h.get? b=some o/\H b=none:=by
 have e':h.get? b=some o:=W.of_hideAll (trk h H) e;refine ⟨e',?_⟩;cases q:H b with
 | none=>rfl | some x=>
  have hm:b∈trk h H:=List.mem_filter.mpr ⟨List.mem_range.mpr (Heap.lt_size e'),by simp [q]⟩;have z:(zdz h H).get? b=none:=W.hideAll_none (trk h H) hm;rw [z] at e;cases e
def zfJ(g h:Heap)(L:Addr):List (Addr×Obj):=(List.range h.objs.size).filterMap fun a=>if a=L\/(g.get? a).isSome=true then none else (h.get? a).map fun o=>(a,o)
def qo(g h:Heap)(L d:Addr):List (Addr×Obj):=(zfJ g h L).filter fun p=>decide (p.1≠d)
structure Mod(K:W.Frag)(mg:Str->Option Value)(base:Heap):Prop where
 kin:K.In base
 glob:base.Ns mainGlobals mg
 blt:∃ mb,base.Ns builtinsNs mb/\∀ x:Str,x≠"__name__"->mb x=bootBuiltins x
 nolimit:base.NoLimit
structure Cx where
 prog:Program
 w:World
 K:W.Frag
 mg:Str->Option Value
 base:Heap
 A:Around
 N:List Str
 s₀:Shared
 H₀:Hp
 env:Env
 outer:List Env
 stack:List Env
 ex:List Addr
 fn:Str->Bool
 calm:Bool
 pn:List (Addr×Obj)
 xe:Value->Shared->Prop
def frs(l:List Env):List Addr:=l.filterMap (·.frame)
abbrev Cx.fs(X:Cx):List Addr:=frs X.outer
def Vis(sc:Scope)(x:Str):Prop:=sc.names.lookup x=some .local\/sc.names.lookup x=some .cell\/sc.names.lookup x=some .free
def Loc(sc:Scope)(x:Str):Prop:=sc.names.lookup x=some .local\/sc.names.lookup x=some .cell
def zmQ(env:Env)(h:Heap)(m:Str->Option Value)(x:Str)(u:Value):Prop:= (env.kindOf x=some .local/\m x=some u)\/((env.kindOf x=some .cell\/env.kindOf x=some .free)/\∃ c,env.cells.lookup x=some c/\h.IsCell c (some u))
structure Cx.Ok(X:Cx):Prop where
 mod:Mod X.K X.mg X.base
 kind:X.env.scope.kind=.function
 glob:X.env.globals=mainGlobals
 blt:X.env.builtins=builtinsNs
 above:X.s₀.heap.objs.size<=X.env.locals
 inj:∀ x y c,X.env.cells.lookup x=some c->X.env.cells.lookup y=some c->x=y
 has:∀ x,(X.env.kindOf x=some .cell\/X.env.kindOf x=some .free)->∃ c,X.env.cells.lookup x=some c
 cab:∀ x c,X.fn x=true->X.env.cells.lookup x=some c->X.s₀.heap.objs.size<=c
 hd:X.calm=true->X.A.handled=none
 frames:X.A.frames=some X.stack
 stk:X.stack=X.outer\/(X.stack=X.env::X.outer/\X.env.frame=some X.env.locals)
 exf:∀ b∈X.ex,b≠X.env.locals/\∀ x c,X.env.cells.lookup x=some c->c≠b
 bs:∀ b o,X.base.get? b=some o->X.s₀.heap.get? b=some o/\X.H₀ b=none
 bsz:X.base.objs.size<=X.s₀.heap.objs.size
 noex:∀ b o,X.base.get? b=some o->b∉X.ex
 exfs:∀ b∈X.ex,b∉X.fs
 funs:X.s₀.heap.FunFrames X.base X.outer
 frf:∀ b∈X.fs,X.H₀ b=none
structure Inv(X:Cx)(pins:List (Addr×Obj))(O:List (Option V))(H:Hp)(s:Shared):Prop where
 ok:X.Ok
 os:s.os=X.s₀.os
 bare:AllBare s.gens
 base:Un X.fs X.ex X.H₀ H X.s₀.heap s.heap
 loc:∃ m,s.heap.Ns X.env.locals m/\∀ (i:Nat)(x:Str)(v:V),X.N[i]? = some x->O[i]? = some (some v)->Vis X.env.scope x->∃ u,wm v u/\zmQ X.env s.heap m x u
 cell:∀ x c,X.env.cells.lookup x=some c->∃ v,s.heap.IsCell c v
 free:H X.env.locals=none
 freeC:∀ x c,X.env.cells.lookup x=some c->H c=none
 pin:∀ p∈X.pn++pins,s.heap.get? p.1=some p.2/\H p.1=none/\p.1≠X.env.locals/\p.1∉X.fs/\∀ v,p.2.data≠.cell v
 hok:HOk X.prog X.w H s.heap
 len:O.length=X.N.length
section
variable {X:Cx}{pins:List (Addr×Obj)}{O:List (Option V)}{H H':Hp}{s:Shared}{h':Heap}
theorem Cx.Ok.nofr(ok:X.Ok){b:Addr}{o:Obj}(e:X.base.get? b=some o):b∉X.fs:=fun hb=>by
 have:=(ok.funs.mem hb).1;rw [e] at this;cases this
theorem Inv.bs(I:Inv X pins O H s):∀ b o,X.base.get? b=some o->s.heap.get? b=some o/\H b=none:=fun b o e=> ⟨I.base.keep b o (I.ok.bs b o e).1 (I.ok.bs b o e).2 (I.ok.nofr e) (I.ok.noex b o e),I.base.free b o (I.ok.bs b o e).1 (I.ok.bs b o e).2 (I.ok.noex b o e)⟩
theorem Inv.bk(I:Inv X pins O H s):∀ b o,X.base.get? b=some o->s.heap.get? b=some o:=fun b o e=>(I.bs b o e).1
theorem Inv.mod(I:Inv X pins O H s):Mod X.K X.mg X.base:=I.ok.mod
theorem Inv.kIn(I:Inv X pins O H s):X.K.In s.heap:=I.ok.mod.kin.keeps I.bk
theorem Inv.fr(I:Inv X pins O H s):∃ m,Fr X.base X.env.locals s.heap m:= let ⟨m,hn,_⟩:=I.loc;⟨m,hn,I.bk,Nat.le_trans I.ok.bsz I.ok.above⟩
theorem Inv.lt(I:Inv X pins O H s):X.env.locals<s.heap.objs.size:=let ⟨_,hn,_⟩:=I.loc;hn.lt
theorem Inv.sz(I:Inv X pins O H s):X.s₀.heap.objs.size<=s.heap.objs.size:=Nat.le_trans I.ok.above (Nat.le_of_lt I.lt)
theorem Inv.nofs(I:Inv X pins O H s){a:Addr}(h:s.heap.objs.size<=a):a∉X.fs:=fun hb=>by
 obtain ⟨_,o,ho,_⟩:=I.ok.funs.mem hb;exact absurd (Nat.lt_of_lt_of_le (Heap.lt_size ho) (Nat.le_trans I.sz h)) (Nat.lt_irrefl _)
theorem Inv.cne(I:Inv X pins O H s):∀ x c,X.env.cells.lookup x=some c->c≠X.env.locals:=fun x c e z=>by
 obtain ⟨v,o,ho,hd⟩:=I.cell x c e;obtain ⟨m,⟨o',es,ep,ho',hd',_⟩,_⟩:=I.loc;rw [z,ho'] at ho;cases ho;rw [hd'] at hd;cases hd
theorem Inv.funs(I:Inv X pins O H s):s.heap.FunFrames X.base X.outer:=by
 have all:∀ (l:List Env),(∀ b∈frs l,b∈X.fs)->X.s₀.heap.FunFrames X.base l->s.heap.FunFrames X.base l:=by
  intro l;induction l with
  | nil=>intro _ _;trivial | cons env r ih=>
   intro hs hl;obtain ⟨hk,⟨L,o,hf,hn,ho,hd⟩,hr⟩:=hl;have hL:L∈X.fs:=hs L (by unfold frs;rw [List.filterMap_cons,hf];exact List.mem_cons_self);obtain ⟨sl,e⟩:=I.base.slot L o ho (I.ok.frf L hL) hL fun z=>I.ok.exfs L z hL;exact ⟨hk,⟨L,_,hf,hn,e,hd⟩,ih (fun b hb=>hs b (by unfold frs;rw [List.filterMap_cons,hf];exact List.mem_cons_of_mem _ hb)) hr⟩
 exact all X.outer (fun _ hb=>hb) I.ok.funs
theorem Inv.stack(I:Inv X pins O H s):s.heap.FunFrames X.base X.stack:=by
 rcases I.ok.stk with e | ⟨e,hf⟩;·rw [e];exact I.funs
 ·rw [e];obtain ⟨m,hn,_⟩:=I.loc;refine .cons (by rw [I.ok.kind];decide) hf hn ?_ I.funs;exact Heap.get?_none_of_le (Nat.le_trans I.ok.bsz I.ok.above)
theorem Inv.stkSub(I:Inv X pins O H s):∀ b∈frs X.stack,b∈X.env.locals::X.fs:=fun b hb=>by
 rcases I.ok.stk with e | ⟨e,hf⟩;·rw [e] at hb;exact List.mem_cons_of_mem _ hb
 ·rw [e] at hb;unfold frs at hb;rw [List.filterMap_cons,hf] at hb;exact hb
theorem Inv.stkFree(I:Inv X pins O H s):∀ b∈frs X.stack,H b=none:=fun b hb=>by
 rcases List.mem_cons.mp (I.stkSub b hb) with e | hb;·rw [e];exact I.free
 ·obtain ⟨_,o,ho,_⟩:=I.ok.funs.mem hb;exact I.base.free b o ho (I.ok.frf b hb) fun z=>I.ok.exfs b z hb
theorem Inv.step{g':Array GenState}{t':Nat}{d':Drawn}{ch:List Addr}(I:Inv X pins O H s) (hch:∀ b∈ch,(b∈X.ex\/X.s₀.heap.objs.size<=b)/\b≠X.env.locals/\(∀ x c,X.env.cells.lookup x=some c->c≠b)/\∀ p∈X.pn++pins,p.1≠b) (keep:∀ b o,b≠X.env.locals->b∉X.fs->b∉ch->s.heap.get? b=some o->H b=none->h'.get? b=some o) (slot:∀ b o,b≠X.env.locals->b∈X.fs->b∉ch->s.heap.get? b=some o->H b=none->∃ sl,h'.get? b=some {o with slots:=sl})(free:∀ b o,b∉ch->s.heap.get? b=some o->H b=none->H' b=none) (there:∀ b o,b∉ch->s.heap.get? b=some o->∃ o',h'.get? b=some o') (tups:∀ b xs,H b=some (.tup xs)->H' b=some (.tup xs))(frzs:∀ b o u,H b=some (.frz o u)->H' b=some (.frz o u))(tbls:∀ b ps,H b=some (.tbl ps)->∃ more,H' b=some (.tbl (ps++more))) (ns:∀ m,s.heap.Ns X.env.locals m->h'.Ns X.env.locals m)(hok:HOk X.prog X.w H' h')(hg:AllBare g'): Inv X pins O H' {s with heap:=h',gens:=g',drawn:=d',toks:=t'}:=by
 have neL:∀ b o,X.s₀.heap.get? b=some o->b≠X.env.locals:=fun b o e=>Nat.ne_of_lt (Nat.lt_of_lt_of_le (Heap.lt_size e) I.ok.above);have neC:∀ b o,X.s₀.heap.get? b=some o->b∉X.ex->b∉ch:=fun b o e hx hb=>by
  rcases (hch b hb).1 with z | z;·exact hx z
  ·exact absurd (Nat.lt_of_lt_of_le (Heap.lt_size e) z) (Nat.lt_irrefl _)
 have cellK:∀ x c,X.env.cells.lookup x=some c->∀ v,s.heap.IsCell c v->h'.IsCell c v:=fun x c e v ⟨o,ho,hd⟩=>by
  have nch:c∉ch:=fun z=>(hch c z).2.2.1 x c e rfl;by_cases hc:c∈X.fs
  ·obtain ⟨sl,q⟩:=slot c o (I.cne x c e) hc nch ho (I.freeC x c e);exact ⟨_,q,hd⟩
  ·exact ⟨o,keep c o (I.cne x c e) hc nch ho (I.freeC x c e),hd⟩
 refine ⟨I.ok,I.os,hg,⟨fun b o e n hb hx=>?_,fun b o e n hb hx=>?_,fun b o e n hx=>?_,fun b o e hx=>?_,fun b xs e=>tups b xs (I.base.tups b xs e),fun b o xs e=>frzs b o xs (I.base.frzs b o xs e),fun b ps e=>?_⟩,?_,fun x c e=>?_,?_,fun x c e=>?_,fun p hp=>?_,hok,I.len⟩;·exact keep b o (neL b o e) hb (neC b o e hx) (I.base.keep b o e n hb hx) (I.base.free b o e n hx)
 ·obtain ⟨sl,e1⟩:=I.base.slot b o e n hb hx;obtain ⟨sl',e2⟩:=slot b _ (neL b o e) hb (neC b o e hx) e1 (I.base.free b o e n hx);exact ⟨sl',e2⟩
 ·obtain ⟨o',e1⟩:=I.base.there b o e hx;exact free b o' (neC b o e hx) e1 (I.base.free b o e n hx)
 ·obtain ⟨o',e1⟩:=I.base.there b o e hx;exact there b o' (neC b o e hx) e1
 ·obtain ⟨m1,e1⟩:=I.base.tbls b ps e;obtain ⟨m2,e2⟩:=tbls b _ e1;exact ⟨m1++m2,by rw [e2,Array.append_assoc]⟩
 ·obtain ⟨m,hn,hl⟩:=I.loc;refine ⟨m,ns m hn,fun i x v e1 e2 e3=>?_⟩;obtain ⟨u,r,l⟩:=hl i x v e1 e2 e3;refine ⟨u,r,?_⟩;rcases l with l | ⟨k,c,e,z⟩;·exact .inl l
  ·exact .inr ⟨k,c,e,cellK x c e _ z⟩
 ·obtain ⟨v,z⟩:=I.cell x c e;exact ⟨v,cellK x c e v z⟩
 ·obtain ⟨m,⟨o,_,_,ho,_⟩,_⟩:=I.loc;exact free _ o (fun z=>(hch _ z).2.1 rfl) ho I.free
 ·obtain ⟨v,o,ho,hd⟩:=I.cell x c e;exact free c o (fun z=>(hch c z).2.2.1 x c e rfl) ho (I.freeC x c e)
 ·obtain ⟨e,n,ne,nf,d⟩:=I.pin p hp;have nch:p.1∉ch:=fun z=>(hch p.1 z).2.2.2 p hp rfl;exact ⟨keep p.1 p.2 ne nf nch e n,free p.1 p.2 nch e n,ne,nf,d⟩
theorem Inv.un {t':Nat} (I:Inv X pins O H s) (u:Un X.fs [] H H' s.heap h') (hok:HOk X.prog X.w H' h'):Inv X pins O H' {s with heap:=h',toks:=t'}:=by
 obtain ⟨m,⟨o,es,ep,ho,r⟩,_⟩:=id I.loc;obtain ⟨sl,hL⟩:=u.any ho I.free (by simp);exact I.step (g':=s.gens) (d':=s.drawn) (ch:=[]) (fun _ z=>nomatch z) (fun b o _ hb _ e n=>u.keep b o e n hb (by simp)) (fun b o _ hb _ e n=>u.slot b o e n hb (by simp)) (fun b o _ e n=>u.free b o e n (by simp)) (fun b o _ e=>u.there b o e (by simp)) u.tups u.frzs u.tbls (fun m' hm=>by
  obtain ⟨o',es',ep',ho',r'⟩:=hm;rw [ho] at ho';cases ho';exact ⟨_,es',ep',hL,r'⟩) hok I.bare
theorem Inv.call{g':Array GenState}{t':Nat}{d':Drawn}{ch:List Addr}(I:Inv X pins O H s)(u:Un (frs X.stack) ch H H' s.heap h')(hok:HOk X.prog X.w H' h')(hg:AllBare g') (hch:∀ b∈ch,(b∈X.ex\/X.s₀.heap.objs.size<=b)/\b≠X.env.locals/\(∀ x c,X.env.cells.lookup x=some c->c≠b)/\∀ p∈X.pn++pins,p.1≠b): Inv X pins O H' {s with heap:=h',gens:=g',drawn:=d',toks:=t'}:=by
 obtain ⟨m,⟨o,es,ep,ho,r⟩,_⟩:=id I.loc;obtain ⟨sl,hL⟩:=u.any ho I.free fun z=>(hch _ z).2.1 rfl;exact I.step (ch:=ch) hch (fun b o hL hb hc e n=>u.keep b o e n (fun z=>(List.mem_cons.mp (I.stkSub b z)).elim hL hb) hc) (fun b o _ _ hc e n=>u.any e n hc) (fun b o hc e n=>u.free b o e n hc) (fun b o hc e=>u.there b o e hc) u.tups u.frzs u.tbls (fun m' hm=>by
  obtain ⟨o',es',ep',ho',r'⟩:=hm;rw [ho] at ho';cases ho';exact ⟨_,es',ep',hL,r'⟩) hok hg
theorem Inv.turned {t':Nat} {it:Addr} (I:Inv X pins O H s) (k:∀ b o,b≠it->s.heap.get? b=some o->h'.get? b=some o) (hn:H it=none) (hL:it≠X.env.locals) (h1:it∈X.ex\/X.s₀.heap.objs.size<=it) (h2:∀ x c,X.env.cells.lookup x=some c->c≠it) (h3:∀ p∈X.pn++pins,p.1≠it):Inv X pins O H {s with heap:=h',toks:=t'}:=by
 have nit:∀ b u,H b=some u->b≠it:=fun b u e z=>by rw [z,hn] at e;cases e
 refine I.step (g':=s.gens) (d':=s.drawn) (ch:=[it]) (fun b hb=>?_) (fun b o _ _ hc e _=>k b o (fun z=>hc (by simp [z])) e) (fun b o _ _ hc e _=>⟨o.slots,k b o (fun z=>hc (by simp [z])) e⟩) (fun _ _ _ _ n=>n) (fun b o hc e=>⟨o,k b o (fun z=>hc (by simp [z])) e⟩) (fun _ _ e=>e) (fun _ _ _ e=>e) (fun b ps e=>⟨#[],by rw [e];simp⟩) (fun m hm=>?_) (fun b u e=>?_) I.bare
 ·have e:b=it:=by simpa using hb
  subst e;exact ⟨h1,hL,h2,h3⟩
 ·obtain ⟨o,es,ep,ho,r⟩:=hm;exact ⟨o,es,ep,k _ o (Ne.symm hL) ho,r⟩
 ·refine (I.hok b u e).stay (fun c v hc q=>k c v ?_ q) (fun _ q=>q) fun _ _ q=>q;rcases hc with z | z;·rw [z];exact nit b u e
  ·exact nit c _ z
theorem Inv.tok (I:Inv X pins O H s) (t:Nat):Inv X pins O H {s with toks:=t}:=I.un (h':=s.heap) (t':=t) Un.refl I.hok
theorem Inv.kept{t':Nat}(I:Inv X pins O H s)(k:∀ b u,s.heap.get? b=some u->h'.get? b=some u):Inv X pins O H {s with heap:=h',toks:=t'}:=I.un (Un.kept k) (I.hok.kept k)
theorem Inv.laid {a:Addr} {o:HO} {t':Nat} (I:Inv X pins O H s) (k:∀ b u,s.heap.get? b=some u->h'.get? b=some u) (hp:s.heap.objs.size<=a) (new:wl X.prog X.w (upd H a o) h' a o): Inv X pins O (upd H a o) {s with heap:=h',toks:=t'}:=I.un (Un.laid k hp (I.hok.fresh hp)) (I.hok.laid k hp new)
theorem Inv.write {x e:Addr} {o:HO} {t':Nat} (I:Inv X pins O H s) (mu:Mut (H x)) (he:e=x\/H e=some (.own x)) (k:∀ b u,b≠e->s.heap.get? b=some u->h'.get? b=some u) (heo:∃ u,h'.get? e=some u) (new:wl X.prog X.w (upd H x o) h' x o):Inv X pins O (upd H x o) {s with heap:=h',toks:=t'}:=I.un (Un.write mu he k heo) (I.hok.write mu he k heo new)
theorem Inv.weak{O':List (Option V)}(I:Inv X pins O H s)(hl:O'.length=O.length)(w:∀ (i:Nat) v,O'[i]? = some (some v)->O[i]? = some (some v)):Inv X pins O' H s:= ⟨I.ok,I.os,I.bare,I.base,let ⟨m,hn,hl'⟩:=I.loc;⟨m,hn,fun i x v e1 e2 e3=>hl' i x v e1 (w i v e2) e3⟩,I.cell,I.free,I.freeC,I.pin,I.hok,hl.trans I.len⟩
theorem Inv.pins_of{pins':List (Addr×Obj)}(I:Inv X pins O H s)(h:∀ p∈pins',s.heap.get? p.1=some p.2/\H p.1=none/\p.1≠X.env.locals/\p.1∉X.fs/\∀ v,p.2.data≠.cell v):Inv X pins' O H s:= ⟨I.ok,I.os,I.bare,I.base,I.loc,I.cell,I.free,I.freeC,fun p hp=>(List.mem_append.mp hp).elim (fun z=>I.pin p (List.mem_append_left _ z)) (h p),I.hok,I.len⟩
theorem z9R{N:List Str}(hN:N.Nodup){i j:Nat}{x:Str}(a:N[i]? = some x)(b:N[j]? = some x):i=j:=by
 obtain ⟨h1,e1⟩:=List.getElem?_eq_some_iff.mp a;obtain ⟨h2,e2⟩:=List.getElem?_eq_some_iff.mp b;exact (List.getElem_inj hN).mp (e1.trans e2.symm)
theorem z44{M:Model}{A:Around}{E:Value->Shared->Prop}{i:Nat}{x:Str}{v:V}{u:Value}{Q:Unit->Shared->Prop}(I:Inv X pins O H s)(hN:X.N.Nodup)(hi:X.N[i]? = some x)(hx:Loc X.env.scope x)(r:wm v u) (h:∀ s',Inv X pins (O.set i (some v)) H s'->(∃ a,Heap.SameBut a s.heap s'.heap/\(a=X.env.locals\/X.env.cells.lookup x=some a))->Q () s')(hf:X.fn x=true\/X.env.scope.names.lookup x=some .local:=by first | exact .inl rfl | exact .inr rfl | assumption):wpAny M A (storeName X.env x u) Q E s:=by
 obtain ⟨m,hn,hl⟩:=id I.loc;have hcls:(X.env.scope.kind==.class||(X.env.scope.kind==.module&&X.env.locals != X.env.globals))=false:=by rw [I.ok.kind];rfl
 have hiO:i<O.length:=by rw [I.len];exact (List.getElem?_eq_some_iff.mp hi).1
 have cne:=I.cne;have tracked:∀ {a:Addr}{h':Heap},(∃ o,s.heap.get? a=some o/\H a=none)->Heap.SameBut a s.heap h'->HOk X.prog X.w H h':=fun {a h'} ha hs b ob e=>by
  obtain ⟨_,_,hfree⟩:=ha;refine (I.hok b ob e).stay (fun c w' hc q=>(hs.2 c ?_).trans q) (fun _ q=>q) fun _ _ q=>q;rintro rfl;rcases hc with rfl | hc;·rw [hfree] at e;cases e
  ·rw [hfree] at hc;cases hc
 rcases hx with hk | hk
 ·refine wpAny_storeName_local hk hn (fun h' hn' hs=>?_) hcls;obtain ⟨oL,_,_,hoL,_⟩:=id hn;refine h _ ⟨I.ok,I.os,I.bare,⟨fun b o e n hb hx=>?_,fun b o e n hb hx=>?_,I.base.free,fun b o e hx=>?_,I.base.tups,I.base.frzs,I.base.tbls⟩,⟨_,hn',fun j y v' e1 e2 e3=>?_⟩,fun y c e=>?_,I.free,I.freeC,fun p hp=>?_,tracked ⟨oL,hoL,I.free⟩ hs,by simpa using I.len⟩ ⟨_,hs,.inl rfl⟩;·exact (hs.2 b (Nat.ne_of_lt (Nat.lt_of_lt_of_le (Heap.lt_size e) I.ok.above))).trans (I.base.keep b o e n hb hx)
  ·obtain ⟨sl,e1⟩:=I.base.slot b o e n hb hx;exact ⟨sl,(hs.2 b (Nat.ne_of_lt (Nat.lt_of_lt_of_le (Heap.lt_size e) I.ok.above))).trans e1⟩
  ·obtain ⟨o',e1⟩:=I.base.there b o e hx;exact ⟨o',(hs.2 b (Nat.ne_of_lt (Nat.lt_of_lt_of_le (Heap.lt_size e) I.ok.above))).trans e1⟩
  ·by_cases hj:j=i
   ·subst hj;rw [hi] at e1;cases e1;rw [List.getElem?_set_self hiO] at e2;cases e2;exact ⟨u,r,.inl ⟨hk,by simp⟩⟩
   ·rw [List.getElem?_set_ne (Ne.symm hj)] at e2;obtain ⟨u',r',q⟩:=hl j y v' e1 e2 e3;refine ⟨u',r',?_⟩;rcases q with ⟨k,e⟩ | ⟨k,c,e,z⟩
    ·refine .inl ⟨k,?_⟩;have:y≠x:=fun e=>hj (z9R hN e1 (e ▸ hi));simp [this,e]
    ·exact .inr ⟨k,c,e,z.sameBut hs (cne y c e)⟩
  ·obtain ⟨w',z⟩:=I.cell y c e;exact ⟨w',z.sameBut hs (cne y c e)⟩
  ·obtain ⟨e,n,ne,nf,d⟩:=I.pin p hp;exact ⟨(hs.2 p.1 ne).trans e,n,ne,nf,d⟩
 ·have hfn:X.fn x=true:=by
   rcases hf with z | z;·exact z
   ·rw [z] at hk;cases hk
  obtain ⟨c,hc⟩:=I.ok.has x (.inl hk);obtain ⟨w',z⟩:=I.cell x c hc;refine wpAny_storeName_cell I.ok.kind hk hc z (fun h' hc' hs=>?_);obtain ⟨oc,hoc,hocd⟩:=id z;refine h {s with heap:=h'} ⟨I.ok,I.os,I.bare,⟨fun b o e n hb hx=>?_,fun b o e n hb hx=>?_,I.base.free,fun b o e hx=>?_,I.base.tups,I.base.frzs,I.base.tbls⟩,⟨m,hn.sameBut hs (Ne.symm (cne x c hc)),fun j y v' e1 e2 e3=>?_⟩,fun y c' e=>?_,I.free,I.freeC,fun p hp=>?_,tracked ⟨oc,hoc,I.freeC x c hc⟩ hs,by simpa using I.len⟩ ⟨c,hs,.inr hc⟩;·exact (hs.2 b (Nat.ne_of_lt (Nat.lt_of_lt_of_le (Heap.lt_size e) (I.ok.cab x c hfn hc)))).trans (I.base.keep b o e n hb hx)
  ·obtain ⟨sl,e1⟩:=I.base.slot b o e n hb hx;exact ⟨sl,(hs.2 b (Nat.ne_of_lt (Nat.lt_of_lt_of_le (Heap.lt_size e) (I.ok.cab x c hfn hc)))).trans e1⟩
  ·obtain ⟨o',e1⟩:=I.base.there b o e hx;exact ⟨o',(hs.2 b (Nat.ne_of_lt (Nat.lt_of_lt_of_le (Heap.lt_size e) (I.ok.cab x c hfn hc)))).trans e1⟩
  ·by_cases hj:j=i
   ·subst hj;rw [hi] at e1;cases e1;rw [List.getElem?_set_self hiO] at e2;cases e2;exact ⟨u,r,.inr ⟨.inl hk,c,hc,hc'⟩⟩
   ·rw [List.getElem?_set_ne (Ne.symm hj)] at e2;obtain ⟨u',r',q⟩:=hl j y v' e1 e2 e3;refine ⟨u',r',?_⟩;rcases q with q | ⟨k,c',e,z'⟩;·exact .inl q
    ·refine .inr ⟨k,c',e,z'.sameBut hs ?_⟩;rintro rfl;exact hj (z9R hN e1 (I.ok.inj _ _ _ e hc ▸ hi))
  ·by_cases hcc:c'=c;·subst hcc;exact ⟨_,hc'⟩
   ·obtain ⟨w2,z2⟩:=I.cell y c' e;exact ⟨w2,z2.sameBut hs hcc⟩
  ·obtain ⟨e,n,ne,nf,d⟩:=I.pin p hp;refine ⟨(hs.2 p.1 ?_).trans e,n,ne,nf,d⟩;intro q;rw [q,hoc] at e;have q':oc=p.2:=Option.some.inj e;exact d w' (by rw [<- q'];exact hocd)
theorem z63{M:Model}{A:Around}{E:Value->Shared->Prop}{i:Nat}{x:Str}{v:V}{u:Value}{Q:Unit->Shared->Prop}(I:Inv X pins O H s)(hN:X.N.Nodup)(hi:X.N[i]? = some x)(hx:Loc X.env.scope x)(r:wm v u) (h:∀ s',Inv X pins (O.set i (some v)) H s'->Q () s')(hf:X.fn x=true\/X.env.scope.names.lookup x=some .local:=by first | exact .inl rfl | exact .inr rfl | assumption):wpAny M A (storeName X.env x u) Q E s:= z44 I hN hi hx r (fun s' I' _=>h s' I') hf
theorem Inv.call' {s':Shared} {ch:List Addr} (I:Inv X pins O H s) (ho:s'.os=s.os) (u:Un (frs X.stack) ch H H' s.heap s'.heap) (hok:HOk X.prog X.w H' s'.heap) (hg:AllBare s'.gens) (hch:∀ b∈ch,(b∈X.ex\/X.s₀.heap.objs.size<=b)/\b≠X.env.locals/\(∀ x c,X.env.cells.lookup x=some c->c≠b)/\∀ p∈X.pn++pins,p.1≠b):Inv X pins O H' s':=by
 obtain ⟨h',g',d',t',o'⟩:=s';have e:o'=s.os:=ho;subst e;exact I.call (g':=g') (t':=t') (d':=d') u hok hg hch
end
abbrev XK:=Value->Option Addr->Hp->Prop
abbrev St:=List (Option V)
abbrev VK:=V->Hp->Prop
abbrev TE:=St->Hp->VK->Prop
abbrev TT:=St->Hp->(Bool->Hp->Prop)->Prop
abbrev TA:=St->Hp->(List V->Hp->Prop)->Prop
structure zhq where
 nx:St->Hp->Prop
 rt:VK
 bk:St->Hp->Prop:=fun _ _=>False
 ct:St->Hp->Prop:=fun _ _=>False
abbrev TS:=zhq->St->Hp->Prop
def EP(X:Cx)(pins:List (Addr×Obj))(O:St)(Q:VK)(u:Value)(s':Shared):Prop:=∃ v H',Inv X pins O H' s'/\wm v u/\Q v H'
def TP(X:Cx)(pins:List (Addr×Obj))(O:St)(Q:Bool->Hp->Prop)(b:Bool)(s':Shared):Prop:=∃ H',Inv X pins O H' s'/\Q b H'
def AP(X:Cx)(pins:List (Addr×Obj))(O:St)(Q:List V->Hp->Prop)(us:List Value)(s':Shared):Prop:=∃ vs H',Inv X pins O H' s'/\yY vs us/\Q vs H'
def SP(X:Cx)(pins:List (Addr×Obj))(D:zhq)(f:Flow)(s':Shared):Prop:= match f with
 | .next=>∃ O' H',Inv X pins O' H' s'/\D.nx O' H' | .brk=>∃ O' H',Inv X pins O' H' s'/\D.bk O' H' | .cont=>∃ O' H',Inv X pins O' H' s'/\D.ct O' H' | .ret u=>∃ v O' H',Inv X pins O' H' s'/\wm v u/\D.rt v H'
def PE(X:Cx)(e:Expr)(t:TE):Prop:= ∀ (pins:List (Addr×Obj))(s:Shared)(O:St)(H:Hp)(Q:VK),Inv X pins O H s->t O H Q->wpAny (model X.prog X.w) X.A (eval e X.env) (EP X pins O Q) X.xe s
def PT(X:Cx)(e:Expr)(t:TT):Prop:= ∀ (pins:List (Addr×Obj))(s:Shared)(O:St)(H:Hp)(Q:Bool->Hp->Prop),Inv X pins O H s->t O H Q->wpAny (model X.prog X.w) X.A (isTrue e X.env (eval e X.env)) (TP X pins O Q) X.xe s
def PW(X:Cx)(e:Expr)(t:TT):Prop:= ∀ (whole:Sem Value)(pins:List (Addr×Obj))(s:Shared)(O:St)(H:Hp)(Q:Bool->Hp->Prop),Inv X pins O H s->t O H Q->wpAny (model X.prog X.w) X.A (isTrue e X.env whole) (TP X pins O Q) X.xe s
theorem PW.pt{X:Cx}{e:Expr}{t:TT}(h:PW X e t):PT X e t:=h _
def PA(X:Cx)(es:List Expr)(t:TA):Prop:= ∀ (pos:Pos)(pins:List (Addr×Obj))(s:Shared)(O:St)(H:Hp)(Q:List V->Hp->Prop),Inv X pins O H s->t O H Q->wpAny (model X.prog X.w) X.A (spliced (backTo pos (starEach es X.env))) (AP X pins O Q) X.xe s
def PS(X:Cx)(st:Stmt)(t:TS):Prop:= ∀ (pins:List (Addr×Obj))(s:Shared)(O:St)(H:Hp)(D:zhq),Inv X pins O H s->t D O H->wpAny (model X.prog X.w) X.A (exec st X.env) (SP X pins D) X.xe s
def PSs(X:Cx)(st:List Stmt)(t:TS):Prop:= ∀ (pins:List (Addr×Obj))(s:Shared)(O:St)(H:Hp)(D:zhq),Inv X pins O H s->t D O H->wpAny (model X.prog X.w) X.A (execs st X.env) (SP X pins D) X.xe s
theorem thn{α:Type}{t:Sem α}{Q Q':α->Shared->Prop}{M:Model}{A:Around}{E:Value->Shared->Prop}{s:Shared}(h:wpAny M A t Q E s)(hQ:∀ a s,Q a s->Q' a s):wpAny M A t Q' E s:=wpAny_mono h hQ fun _ _ x=>x
section
variable {X:Cx}
theorem bin{a b:Expr}{ta tb:TE}(ha:PE X a ta)(hb:PE X b tb){pins:List (Addr×Obj)}{s:Shared}{O:St}{H:Hp}{R:V->V->Hp->Prop}(I:Inv X pins O H s)(h:ta O H fun x H1=>tb O H1 fun y H2=>R x y H2) {α:Type}{Q:α->Shared->Prop}{f:Value->Value->Sem α} (hf:∀ v u s2 x y H2,Inv X pins O H2 s2->wm x v->wm y u->R x y H2->wpAny (model X.prog X.w) X.A (f v u) Q X.xe s2): wpAny (model X.prog X.w) X.A (eval a X.env) (fun v s₁=>wpAny (model X.prog X.w) X.A (eval b X.env) (fun u s₂=>wpAny (model X.prog X.w) X.A (f v u) Q X.xe s₂) X.xe s₁) X.xe s:=by
 refine thn (ha pins s O H _ I h) fun v s1 ⟨x,H1,I1,r1,q1⟩=>?_;refine thn (hb pins s1 O H1 _ I1 q1) fun u s2 ⟨y,H2,I2,r2,q2⟩=>?_;exact hf v u s2 x y H2 I2 r1 r2 q2
def zn5(i:Nat):TE:=fun O H Q=>∃ v,O[i]? = some (some v)/\Q v H
def tC(v:V):TE:=fun _ H Q=>Q v H
theorem zeO{i:Nat}{x:Str}{pos:Pos}(hN:X.N[i]? = some x)(hv:Vis X.env.scope x)(hd:(x==("__debug__":Str))=false:=by decide)(hcd:(x==("__classdict__":Str))=false:=by decide):PE X (.Name x pos) (zn5 i):=by
 intro pins s O H Q I h;obtain ⟨v,e,h⟩:=h;obtain ⟨m,hn,hl⟩:=I.loc;obtain ⟨u,r,l⟩:=hl i x v hN e hv;have fin:EP X pins O Q u s:=⟨v,H,I,r,h⟩;rcases l with ⟨hk,hm⟩ | ⟨hk,c,hc,hcell⟩;·exact wpAny_Name (wpAny_loadName_local I.ok.kind hk hn hm fin) hd
 ·rcases hk with hk | hk;·exact wpAny_Name (wpAny_loadName_cell I.ok.kind hk hc hcell fin) hd
  ·exact wpAny_Name (wpAny_loadName_free I.ok.kind hk hc hcell fin hcd) hd
theorem zfC{i j pos}:PE X (.Constant (.int i) j pos) (tC (.int i)):=fun _ _ _ H _ I h=>wpAny_Constant_int ⟨.int i,H,I.tok _,⟨_,rfl⟩,h⟩
theorem zk1{b j pos}:PE X (.Constant (.bool b) j pos) (tC (.bl b)):=fun _ _ _ H _ I h=>Constant_bool ⟨.bl b,H,I,rfl,h⟩
theorem zjb{j pos}:PE X (.Constant .none j pos) (tC .non):=fun _ _ _ H _ I h=>Constant_none ⟨.non,H,I,rfl,h⟩
theorem zeT{x j pos}:PE X (.Constant (.str x) j pos) (tC (.str x)):=fun _ _ _ H _ I h=>Calls.Constant_str ⟨.str x,H,I.tok _,⟨_,rfl⟩,h⟩
def Gl(X:Cx)(x:Str):Prop:=X.env.kindOf x=some .globalImplicit
theorem z1c{E:Value->Shared->Prop}{pins:List (Addr×Obj)}{s:Shared}{O:St}{H:Hp}{x:Str}{u:Value}{pos:Pos}{Q:Value->Shared->Prop}(I:Inv X pins O H s)(hg:Gl X x)(hm:X.mg x=some u)(h:Q u s) (hd:(x==("__debug__":Str))=false:=by decide):wpAny (model X.prog X.w) X.A (eval (.Name x pos) X.env) Q E s:= Calls.Name_function_global I.ok.kind hg (Calls.loadGlobal_global (by rw [I.ok.glob];exact I.mod.glob.keeps I.bk) hm h) hd
theorem z1v{E:Value->Shared->Prop}{pins:List (Addr×Obj)}{s:Shared}{O:St}{H:Hp}{x:Str}{u:Value}{pos:Pos}{Q:Value->Shared->Prop}(I:Inv X pins O H s)(hg:Gl X x)(hm:X.mg x=none)(hv:bootBuiltins x=some u)(h:Q u s) (hn:x≠"__name__":=by decide)(hd:(x==("__debug__":Str))=false:=by decide):wpAny (model X.prog X.w) X.A (eval (.Name x pos) X.env) Q E s:=by
 obtain ⟨mb,h1,h2⟩:=I.mod.blt;exact Calls.Name_function_global I.ok.kind hg (Calls.loadGlobal_builtin (by rw [I.ok.glob];exact I.mod.glob.keeps I.bk) hm (by rw [I.ok.blt];exact h1.keeps I.bk) ((h2 x hn).trans hv) h) hd
theorem z3v{x:Str}{v:V}{u:Value}{pos:Pos}(hg:Gl X x)(hm:X.mg x=some u)(r:wm v u)(hd:(x==("__debug__":Str))=false:=by decide):PE X (.Name x pos) (tC v):= fun _ _ _ H _ I h=>z1c I hg hm ⟨v,H,I,r,h⟩ hd
theorem z5E{x:Str}{v:V}{u:Value}{pos:Pos}(hg:Gl X x)(hm:X.mg x=none)(hv:bootBuiltins x=some u)(r:wm v u)(hn:x≠"__name__":=by decide)(hd:(x==("__debug__":Str))=false:=by decide):PE X (.Name x pos) (tC v):= fun _ _ _ H _ I h=>z1v I hg hm hv ⟨v,H,I,r,h⟩ hn hd
variable {a b:Expr}{ta tb:TE}{pos:Pos}
def PC(X:Cx)(op:CmpOp)(a b:Expr)(t:TE):Prop:= ∀ (pins:List (Addr×Obj))(s:Shared)(O:St)(H:Hp)(Q:VK),Inv X pins O H s->t O H Q-> wpAny (model X.prog X.w) X.A (eval a X.env) (fun v s₁=>wpAny (model X.prog X.w) X.A (eval b X.env) (fun u s₂=>wpAny (model X.prog X.w) X.A (compareOp op v u) (EP X pins O Q) X.xe s₂) X.xe s₁) X.xe s
theorem zer(b:Expr){op:CmpOp}(h:op≠.In)(h2:op≠.NotIn):behindInMarks op b=false:=by
 have e1:(op==CmpOp.In)=false:=by cases op<;>first | rfl | exact absurd rfl h
 have e2:(op==CmpOp.NotIn)=false:=by cases op<;>first | rfl | exact absurd rfl h2
 cases b<;>simp [behindInMarks,e1,e2]
def tB(t:TE):TT:=fun O H Q=>t O H fun x H1=>∃ c,x=.bl c/\Q c H1
theorem zlU{op:CmpOp}{t:TE}(h:PC X op a b t)(h1:behindInMarks op b=false:=by first | exact zer _ (by decide) (by decide) | rfl):PT X (.Compare a [op] [b] pos) (tB t):=by
 intro pins s O H Q I hw;refine wpAny_isTrue_Compare1 (thn (h pins s O H _ I hw) fun v s1 h1=>thn h1 fun u s2 h2=>thn h2 fun c s3 ⟨x,H1,I1,r1,q1⟩=>?_) h1;obtain ⟨d,rfl,q⟩:=q1;cases r1;exact wpAny_truthy_bool ⟨H1,I1,q⟩
theorem zhJ{e:Expr}{t:TE}(h:PE X e t)(he:∀ whole,isTrue e X.env whole=(do let v <- whole;standAt e.pos;holding [v] (truthy v)):=by intro _;rfl):PT X e (tB t):=by
 intro pins s O H Q I hw;refine isTrue_plain (thn (h pins s O H _ I hw) fun v s1 ⟨x,H1,I1,r1,q1⟩=>?_) (he _);obtain ⟨d,rfl,q⟩:=q1;cases r1;exact wpAny_truthy_bool ⟨H1,I1,q⟩
variable {tA tB':TT}{qo:List Expr}
def zna(t u:TT):TT:=fun O H Q=>t O H fun c H1=>if c=true then u O H1 Q else Q false H1
def tOr(t u:TT):TT:=fun O H Q=>t O H fun c H1=>if c=true then Q true H1 else u O H1 Q
def zmq(t:TT):TT:=fun O H Q=>t O H fun c H1=>Q (!c) H1
theorem zhp(ha:PT X a tA):PW X (.BoolOp .And [a] pos) tA:=by
 intro wh pins s O H Q I h;refine isTrue_and (thn (ha pins s O H Q I h) fun c s1 e=>?_);cases c with
 | true=>exact isTrue_and_nil e | false=>exact e
theorem ziU(ha:PT X a tA):PW X (.BoolOp .Or [a] pos) tA:=by
 intro wh pins s O H Q I h;refine isTrue_or (thn (ha pins s O H Q I h) fun c s1 e=>?_);cases c with
 | false=>exact isTrue_or_nil e | true=>exact e
theorem ziX(ha:PT X a tA)(hb:PW X (.BoolOp .And (b::qo) pos) tB'):PW X (.BoolOp .And (a::b::qo) pos) (zna tA tB'):=by
 intro wh pins s O H Q I h;refine isTrue_and (thn (ha pins s O H _ I h) fun c s1 ⟨H1,I1,q1⟩=>?_);cases c with
 | true=>exact hb wh pins s1 O H1 Q I1 q1 | false=>exact ⟨H1,I1,q1⟩
theorem zkI(ha:PT X a tA)(hb:PW X (.BoolOp .Or (b::qo) pos) tB'):PW X (.BoolOp .Or (a::b::qo) pos) (tOr tA tB'):=by
 intro wh pins s O H Q I h;refine isTrue_or (thn (ha pins s O H _ I h) fun c s1 ⟨H1,I1,q1⟩=>?_);cases c with
 | true=>exact ⟨H1,I1,q1⟩ | false=>exact hb wh pins s1 O H1 Q I1 q1
theorem ziY(ha:PT X a tA):PT X (.UnaryOp .Not a pos) (zmq tA):=by
 intro pins s O H Q I h;exact isTrue_not (ha pins s O H (fun c H1=>Q (!c) H1) I h)
def zke(ta tb:TE):TE:=fun O H Q=>ta O H fun x H1=>∃ c,x=.bl c/\if c=true then tb O H1 Q else Q (.bl false) H1
def zl8(ta:TE):TE:=fun O H Q=>ta O H fun x H1=>∃ c,x=.bl c/\Q (.bl (!c)) H1
theorem zjg{op}{t:TE}(h:PE X a t):PE X (.BoolOp op [a] pos) t:=fun pins s O H Q I hw=>BoolOp_one (h pins s O H Q I hw)
theorem zi9(ha:PE X a ta)(hb:PE X (.BoolOp .And (b::qo) pos) tb):PE X (.BoolOp .And (a::b::qo) pos) (zke ta tb):=by
 intro pins s O H Q I h;refine BoolOp_and (thn (ha pins s O H _ I h) fun v s1 ⟨x,H1,I1,r1,q1⟩=>?_);obtain ⟨c,rfl,q1⟩:=q1;cases r1;refine wpAny_truthy_bool ?_;cases c with
 | true=>exact hb pins s1 O H1 Q I1 q1 | false=>exact ⟨.bl false,H1,I1,rfl,q1⟩
theorem zj3(ha:PE X a ta):PE X (.UnaryOp .Not a pos) (zl8 ta):=by
 intro pins s O H Q I h;refine UnaryOp_ (thn (ha pins s O H _ I h) fun v s1 ⟨x,H1,I1,r1,q1⟩=>?_);obtain ⟨c,rfl,q1⟩:=q1;cases r1;exact not_of (wpAny_truthy_bool ⟨.bl (!c),H1,I1,rfl,q1⟩)
def tIf(t:TT)(ta tb:TE):TE:=fun O H Q=>t O H fun c H1=>if c=true then ta O H1 Q else tb O H1 Q
theorem zek{c:Expr}(hc:PT X c tA)(ha:PE X a ta)(hb:PE X b tb):PE X (.IfExp c a b pos) (tIf tA ta tb):=by
 intro pins s O H Q I h;refine wpAny_IfExp (thn (hc pins s O H _ I h) fun d s1 ⟨H1,I1,q1⟩=>?_);cases d with
 | true=>exact ha pins s1 O H1 Q I1 q1 | false=>exact hb pins s1 O H1 Q I1 q1
end
def SqL(K:W.Frag)(H:Hp)(a:Addr)(xs:List V):Prop:= Rd H a (.lst xs)\/ ∃ (o:Obj)(its:Array Value)(n:Nat),K.lookup a=some o/\o.cls=.type "list"/\o.dict=none/\o.data=.seq its n/\its.size<=sizeLine/\yY xs its.toList
def SqT(K:W.Frag)(H:Hp)(a:Addr)(xs:List V):Prop:= Rd H a (.tup xs)\/ ∃ (o:Obj)(its:Array Value)(n:Nat),K.lookup a=some o/\o.cls=.type "tuple"/\o.data=.seq its n/\its.size<=sizeLine/\yY xs its.toList
def zmY:Value->Option V
 | .none=>some .non | .bool b=>some (.bl b) | .int i _=>some (.int i) | .str x _=>some (.str x) | .bytes b _=>some (.byt b) | .float b _=>some (.flt b) | .ref a=>some (.ref a) | .type n=>some (.ty n) | _=>none
theorem wm.abs{x:V}{u:Value}(r:wm x u):zmY u=some x:=by cases x with
 | non=>cases r;rfl | bl _=>cases r;rfl | int _=>obtain ⟨t,rfl⟩:=r;rfl | str _=>obtain ⟨t,rfl⟩:=r;rfl | byt _=>obtain ⟨t,rfl⟩:=r;rfl | flt _=>obtain ⟨t,rfl⟩:=r;rfl | ref _=>cases r;rfl | ty _=>cases r;rfl
theorem wm.inj{x y:V}{u:Value}(r:wm x u)(q:wm y u):x=y:=Option.some.inj (r.abs.symm.trans q.abs)
theorem yY.inj:∀ {xs ys:List V}{us:List Value},yY xs us->yY ys us->xs=ys
 | _,_,_,.nil,.nil=>rfl | _,_,_,.cons r t,.cons r' t'=>by rw [r.inj r',yY.inj t t']
section
variable {X:Cx}{pins:List (Addr×Obj)}{O:St}{H:Hp}{s:Shared}{a:Addr}{xs ys:List V}
theorem Inv.list(I:Inv X pins O H s)(h:SqL X.K H a xs):∃ its:List Value,yY xs its/\PlainL s.heap a its.toArray/\xs.length<=sizeLine:=by
 rcases h with h | ⟨o,its,n,hk,hc,hd,hs,hz,r⟩
 ·obtain ⟨z,its,n,r,e⟩:=h.ok I.hok;exact ⟨its,r,⟨_,n,e,rfl,rfl,rfl⟩,z⟩
 ·refine ⟨its.toList,r,⟨o,n,I.kIn a o hk,hc,hd,by simpa using hs⟩,?_⟩;have e:=r.length;simp only [Array.length_toList] at e;omega
theorem Inv.tuple(I:Inv X pins O H s)(h:SqT X.K H a xs):∃ its:List Value,yY xs its/\IsTup s.heap a its.toArray/\xs.length<=sizeLine:=by
 rcases h with h | ⟨o,its,n,hk,hc,hs,hz,r⟩
 ·obtain ⟨z,its,r,p⟩:=h.ok I.hok;exact ⟨its,r,p.tup,z⟩
 ·refine ⟨its.toList,r,⟨o,I.kIn a o hk,hc,n,by simpa using hs⟩,?_⟩;have e:=r.length;simp only [Array.length_toList] at e;omega
theorem Inv.list_inj(I:Inv X pins O H s)(h:SqL X.K H a xs)(h':SqL X.K H a ys):xs=ys:=by
 obtain ⟨its,r,⟨o,n,e,_,_,d⟩,_⟩:=I.list h;obtain ⟨its',r',⟨o',n',e',_,_,d'⟩,_⟩:=I.list h';rw [e] at e';cases e';rw [d] at d';injection d' with d1 _;have:its=its':=by simpa using congrArg Array.toList d1
 subst this;exact r.inj r'
theorem Inv.tuple_inj(I:Inv X pins O H s)(h:SqT X.K H a xs)(h':SqT X.K H a ys):xs=ys:=by
 obtain ⟨its,r,⟨o,e,_,n,d⟩,_⟩:=I.tuple h;obtain ⟨its',r',⟨o',e',_,n',d'⟩,_⟩:=I.tuple h';rw [e] at e';cases e';rw [d] at d';injection d' with d1 _;have:its=its':=by simpa using congrArg Array.toList d1
 subst this;exact r.inj r'
end
abbrev Cx.wish(X:Cx)(E:Value->Shared->Prop):Cx:={X with xe:=E}
abbrev Cx.nox(X:Cx):Cx:=X.wish fun _ _=>False
theorem Cx.Ok.wish{X:Cx}(ok:X.Ok)(E:Value->Shared->Prop):(X.wish E).Ok:= ⟨ok.mod,ok.kind,ok.glob,ok.blt,ok.above,ok.inj,ok.has,ok.cab,ok.hd,ok.frames,ok.stk,ok.exf,ok.bs,ok.bsz,ok.noex,ok.exfs,ok.funs,ok.frf⟩
theorem Cx.Ok.unwish{X:Cx}{E:Value->Shared->Prop}(ok:(X.wish E).Ok):X.Ok:= ⟨ok.mod,ok.kind,ok.glob,ok.blt,ok.above,ok.inj,ok.has,ok.cab,ok.hd,ok.frames,ok.stk,ok.exf,ok.bs,ok.bsz,ok.noex,ok.exfs,ok.funs,ok.frf⟩
section
variable {X:Cx}{pins:List (Addr×Obj)}{O:St}{H:Hp}{s:Shared}{E:Value->Shared->Prop}
theorem Inv.wish(I:Inv X pins O H s)(E:Value->Shared->Prop):Inv (X.wish E) pins O H s:=⟨I.ok.wish E,I.os,I.bare,I.base,I.loc,I.cell,I.free,I.freeC,I.pin,I.hok,I.len⟩
theorem Inv.unwish(I:Inv (X.wish E) pins O H s):Inv X pins O H s:=⟨I.ok.unwish,I.os,I.bare,I.base,I.loc,I.cell,I.free,I.freeC,I.pin,I.hok,I.len⟩
theorem SP.unwish{D:zhq}{f:Flow}{s':Shared}(h:SP (X.wish E) pins D f s'):SP X pins D f s':=by cases f with
 | next=>obtain ⟨O',H',I,q⟩:=h;exact ⟨O',H',I.unwish,q⟩ | brk=>obtain ⟨O',H',I,q⟩:=h;exact ⟨O',H',I.unwish,q⟩ | cont=>obtain ⟨O',H',I,q⟩:=h;exact ⟨O',H',I.unwish,q⟩ | ret u=>obtain ⟨v,O',H',I,r,q⟩:=h;exact ⟨v,O',H',I.unwish,r,q⟩
theorem PSs.nox{st:List Stmt}{t:TS}(h:PSs X.nox st t):PSs X st t:=fun pins s O H D I hw=> wpAny_mono (h pins s O H D (I.wish _) hw) (fun _ _ q=>q.unwish) fun _ _ z=>False.elim z
end
section
variable {X:Cx}{st:Stmt}{qo:List Stmt}{t u:TS}{e:Expr}{te:TE}{pos:Pos}
def zk4:TS:=fun D O H=>D.nx O H
def zlP(t u:TS):TS:=fun D O H=>t {D with nx:=u D} O H
theorem zgl:PSs X [] zk4:=fun _ _ O H _ I h=>wpAny_execs_nil ⟨O,H,I,h⟩
theorem zeE(h1:PS X st t)(h2:PSs X qo u):PSs X (st::qo) (zlP t u):=by
 intro pins s O H D I h;refine wpAny_execs_cons (thn (h1 pins s O H {D with nx:=u D} I h) fun f s1 q=>?_);cases f with
 | next=>
  obtain ⟨O',H',I',q⟩:=q;exact h2 pins s1 O' H' D I' q | ret v=>exact q | brk=>exact q | cont=>exact q
theorem zh2(h1:PS X st t):PSs X [st] t:=by
 intro pins s O H D I h;refine wpAny_execs_cons (thn (h1 pins s O H D I h) fun f s1 q=>?_);cases f with
 | next=>exact wpAny_execs_nil q | ret v=>exact q | brk=>exact q | cont=>exact q
theorem Inv.quiet{pins:List (Addr×Obj)}{O:St}{H:Hp}{s:Shared}(I:Inv X pins O H s):interactive X.env=false:=by simp [interactive,I.ok.kind]
def zlp(te:TE):TS:=fun D O H=>te O H fun _ H1=>D.nx O H1
theorem zhy(he:PE X e te)(hs:swapsWith e none pos.line X.env=pure false:=by rfl):PS X (.Expr e pos) (zlp te):=by
 intro pins s O H D I h;exact wpAny_Expr_any (thn (he pins s O H _ I h) fun v s1 ⟨x,H1,I1,r1,q1⟩=>⟨O,H1,I1,q1⟩) I.quiet hs
def zmb(te:TE):TS:=fun D O H=>te O H D.rt
theorem zjD(he:PE X e te):PS X (.Return (some e) pos) (zmb te):=by
 intro pins s O H D I h;exact wpAny_Return_some (thn (he pins s O H _ I h) fun v s1 ⟨x,H1,I1,r1,q1⟩=>⟨x,O,H1,I1,r1,q1⟩)
def zmE(c:TT)(t u:TS):TS:=fun D O H=>c O H fun b H1=>if b=true then t D O H1 else u D O H1
theorem zkG{c:Expr}{a b:List Stmt}{tc:TT}(hc:PT X c tc)(ha:PSs X a t)(hb:PSs X b u):PS X (.If c a b pos) (zmE tc t u):=by
 intro pins s O H D I h;refine wpAny_If (thn (hc pins s O H _ I h) fun d s1 ⟨H1,I1,q1⟩=>?_);cases d with
 | true=>exact ha pins s1 O H1 D I1 q1 | false=>exact hb pins s1 O H1 D I1 q1
def zjp:TS:=fun _ _ _=>False
theorem zdP:PS X st zjp:=fun _ _ _ _ _ _ h=>h.elim
end
abbrev TG:=V->St->Hp->(St->Hp->Prop)->Prop
abbrev TGs:=List V->St->Hp->(St->Hp->Prop)->Prop
def PG(X:Cx)(target:Expr)(t:TG):Prop:= ∀ (pins:List (Addr×Obj))(s:Shared)(O:St)(H:Hp)(v:V)(u:Value)(Q:St->Hp->Prop),Inv X pins O H s->wm v u->t v O H Q-> wpAny (model X.prog X.w) X.A (assign target X.env u) (fun _ s'=>∃ O' H',Inv X pins O' H' s'/\Q O' H') X.xe s
def PGs(X:Cx)(ts:List Expr)(t:TGs):Prop:= ∀ (pins:List (Addr×Obj))(s:Shared)(O:St)(H:Hp)(vs:List V)(us:List Value)(Q:St->Hp->Prop),Inv X pins O H s->yY vs us->t vs O H Q-> wpAny (model X.prog X.w) X.A (assignInOrder ((assignEach ts X.env).map (·.2)) us) (fun _ s'=>∃ O' H',Inv X pins O' H' s'/\Q O' H') X.xe s
abbrev zlm:=V->V->V->Hp->(Hp->Prop)->Prop
def zlV(X:Cx)(t:zlm):Prop:= ∀ (pins:List (Addr×Obj))(s:Shared)(O:St)(H:Hp)(o i v:V)(ov iv u:Value)(Q:Hp->Prop),Inv X pins O H s->wm o ov->wm i iv->wm v u->t o i v H Q-> wpAny (model X.prog X.w) X.A (setItem ov iv u) (fun _ s'=>∃ H',Inv X pins O H' s'/\Q H') X.xe s
section
variable {X:Cx}{pos:Pos}
def zak(i:Nat):TG:=fun v O H Q=>Q (O.set i (some v)) H
theorem zU{i:Nat}{x:Str}(hN:X.N.Nodup)(hi:X.N[i]? = some x)(hx:Loc X.env.scope x)(hf:X.fn x=true\/X.env.scope.names.lookup x=some .local:=by first | exact .inl rfl | exact .inr rfl | assumption):PG X (.Name x pos) (zak i):=by
 intro pins s O H v u Q I r h;exact wpAny_assign_Name (z63 I hN hi hx r (fun s' I'=>⟨_,H,I',h⟩) hf)
def zm4:TGs:=fun vs O H Q=>vs=[]/\Q O H
def zgm(t:TG)(u:TGs):TGs:=fun vs O H Q=>∃ v r,vs=v::r/\t v O H fun O' H'=>u r O' H' Q
theorem zcZ:PGs X [] zm4:=by
 intro pins s O H vs us Q I r h;obtain ⟨e,h⟩:=h;subst e;cases r;exact assignInOrder_nil ⟨O,H,I,h⟩
theorem z2M{e:Expr}{es:List Expr}{t:TG}{u:TGs}(h1:PG X e t)(h2:PGs X es u) (hs:(assignEach (e::es) X.env).map (·.2)=assign e X.env::(assignEach es X.env).map (·.2):=by rfl):PGs X (e::es) (zgm t u):=by
 intro pins s O H vs us Q I r h;obtain ⟨v,vr,e1,h⟩:=h;subst e1;cases r with | cons r rr=>
  rw [hs];refine assignInOrder_cons (thn (h1 pins s O H _ _ _ I r h) fun _ s1 ⟨O1,H1,I1,q1⟩=>?_);exact h2 pins s1 O1 H1 _ _ Q I1 rr q1
def zm5(K:W.Frag)(n:Nat)(t:TGs):TG:=fun v O H Q=>∃ a xs,v=.ref a/\SqT K H a xs/\xs.length=n/\t xs O H Q
theorem zeS{es:List Expr}{k:Nat}{t:TGs}{n:Nat}(hc:X.calm=true)(h:PGs X es t) (hn:(assignEach es X.env).length=n:=by rfl)(hst:(assignEach es X.env).findIdx? (·.1)=none:=by rfl):PG X (.Tuple es k pos) (zm5 X.K n t):=by
 intro pins s O H v u Q I r hw;obtain ⟨a,xs,e1,hq,hl,hw⟩:=hw;subst e1;cases r;obtain ⟨its,rv,ht,hz⟩:=I.tuple hq;refine assign_Tuple_tuple (I.ok.hd hc) ht (by simp [hn,<- hl,rv.length]) hst fun h' hx=>?_;have I1:Inv X pins O H {s with heap:=h'}:=I.kept (t':=s.toks) fun b o e=>hx b o (Nat.ne_of_lt (Heap.lt_size e)) e;exact h pins _ O H xs _ Q I1 (by simpa using rv) hw
def zmP(to ti:TE)(t:zlm):TG:=fun v O H Q=>to O H fun o H1=>ti O H1 fun i H2=>t o i v H2 fun H3=>Q O H3
theorem zjC{o i:Expr}{to ti:TE}{t:zlm}(ho:PE X o to)(hi:PE X i ti)(hs:zlV X t) (ha:∀ v,assign (.Subscript o i pos) X.env v=(do
   let ov <- holding [v] (eval o X.env) let iv <- holding [v,ov] (eval i X.env)
   standAt pos
   holding [v,ov,iv] (setItem ov iv v)
   release [v,ov,iv] []):=by intro _;rfl):PG X (.Subscript o i pos) (zmP to ti t):=by
 intro pins s O H v u Q I r h;rw [ha];refine wpAny_bind (wpAny_holding (thn (ho pins s O H _ I h) fun ov s1 ⟨x,H1,I1,r1,q1⟩=>?_));refine wpAny_bind (wpAny_holding (thn (hi pins s1 O H1 _ I1 q1) fun iv s2 ⟨y,H2,I2,r2,q2⟩=>?_));refine wpAny_bind (wpAny_standAt (wpAny_bind (wpAny_holding (thn (hs pins s2 O H2 x y v ov iv u _ I2 r1 r2 r q2) fun _ s3 ⟨H3,I3,q3⟩=>?_))));exact wpAny_release ⟨O,H3,I3,q3⟩
def zky(te:TE)(g:TG):TS:=fun D O H=>te O H fun x H1=>g x O H1 D.nx
theorem zfG{tg e:Expr}{te:TE}{g:TG}(he:PE X e te)(hg:PG X tg g)(hs:swapsWithSole [tg] e pos.line X.env=pure false:=by rfl)(hw:swappedStores [tg] e X.env=pure none:=by rfl) (h1:(assignEach [tg] X.env).map (·.2)=[assign tg X.env]:=by rfl):PS X (.Assign [tg] e pos) (zky te g):=by
 intro pins s O H D I h;refine wpAny_Assign_stores (thn (he pins s O H _ I h) fun v s1 ⟨x,H1,I1,r1,q1⟩=>?_) hs hw;rw [h1];exact thn (hg pins s1 O H1 x v _ I1 r1 q1) fun _ s2 q=>q
theorem zj9{i:Nat}{x:Str}{e:Expr}{te:TE}{pos':Pos}(hN:X.N.Nodup)(hi:X.N[i]? = some x)(hx:Loc X.env.scope x)(he:PE X e te)(hs:swapsWith e (some (.Name x pos')) pos.line X.env=pure false:=by rfl)(hf:X.fn x=true\/X.env.scope.names.lookup x=some .local:=by first | exact .inl rfl | exact .inr rfl | assumption): PS X (.Assign [.Name x pos'] e pos) (zky te (zak i)):=by
 intro pins s O H D I h;refine wpAny_Assign_Name (thn (he pins s O H _ I h) fun v s1 ⟨y,H1,I1,r1,q1⟩=>?_) hs;exact z63 I1 hN hi hx r1 (fun s2 I2=>⟨_,H1,I2,q1⟩) hf
end
section
variable {X:Cx}{pos:Pos}
def ziK(c:TT)(tb:TS):TS:=fun D O H=>∃ W:Nat->St->Hp->Prop,(∃ m,W m O H)/\∀ m O H,W m O H-> c O H fun b H1=>if b=true then ∃ N:St->Hp->Prop,(∀ O' H',N O' H'->∃ m',m'<m/\W m' O' H')/\tb {D with nx:=N,ct:=N,bk:=D.nx} O H1 else D.nx O H1
theorem zeM{c:Expr}{body:List Stmt}{tc:TT}{tb:TS}(hp:PassesOwn (model X.prog X.w) X.A X.env X.xe)(hc:PT X c tc)(hb:PSs X body tb):PS X (.While c body [] pos) (ziK tc tb):=by
 intro pins s O H D I h;obtain ⟨W,⟨m0,w0⟩,turn⟩:=h;refine wpAny_While (codeAny_whileLoop (fun n s'=>∃ O' H',Inv X pins O' H' s'/\W n O' H') ?_ m0 ⟨O,H,I,w0⟩);rintro n s1 ⟨O1,H1,I1,w1⟩;refine wpAny_passesOwn hp (thn (hc pins s1 O1 H1 _ I1 (turn n O1 H1 w1)) fun b s2 ⟨H2,I2,q2⟩=>?_);cases b with
 | true=>
  obtain ⟨N,hN,q2⟩:=q2;rw [if_pos rfl];refine wpAny_passesOwn hp (thn (hb pins s2 O1 H2 _ I2 q2) fun f s3 q3=>?_);cases f with
  | next=>
   obtain ⟨O3,H3,I3,n3⟩:=q3;obtain ⟨m',hm,w3⟩:=hN O3 H3 n3;exact ⟨m',hm,O3,H3,I3,w3⟩ | cont=>
   obtain ⟨O3,H3,I3,n3⟩:=q3;obtain ⟨m',hm,w3⟩:=hN O3 H3 n3;exact ⟨m',hm,O3,H3,I3,w3⟩ | brk=>exact q3 | ret v=>exact q3
 | false=>
  rw [if_neg Bool.false_ne_true];exact wpAny_execs_nil ⟨O1,H2,I2,q2⟩
end
structure It where
 go:Nat->Hp->Prop
 yld:Nat->Hp->V->Hp->Prop
 stop:Nat->Hp->Prop
def z6s(X:Cx)(pins:List (Addr×Obj))(H:Hp)(b:Addr):Prop:= H b=none/\b≠X.env.locals/\b∉X.fs/\(b∈X.ex\/X.s₀.heap.objs.size<=b)/\(∀ x c,X.env.cells.lookup x=some c->c≠b)/\∀ p∈X.pn++pins,p.1≠b
theorem Inv.fpOk{X:Cx}{pins:List (Addr×Obj)}{O:St}{H H':Hp}{s:Shared}{b:Addr}(I:Inv X pins O H s)(hb:s.heap.objs.size<=b)(hn:H' b=none):z6s X pins H' b:=by
 refine ⟨hn,Nat.ne_of_gt (Nat.lt_of_lt_of_le I.lt hb),I.nofs hb,.inr (Nat.le_trans I.sz hb),fun x c e z=>?_,fun p hp z=>?_⟩
 ·obtain ⟨v,q⟩:=I.cell x c e;exact absurd (Nat.lt_of_lt_of_le q.lt (by rw [z];exact hb)) (Nat.lt_irrefl _)
 ·exact absurd (Nat.lt_of_lt_of_le (Heap.lt_size (I.pin p hp).1) (by rw [z];exact hb)) (Nat.lt_irrefl _)
structure zh5(P:Program)(w:World)(K:W.Frag)(tg:Expr)(J:It)(fp:List Addr)(it:Addr)(tn:Nat->Heap->Prop):Prop where
 mem:it∈fp
 obj:∀ i h,tn i h->∀ b∈fp,∃ o,h.get? b=some o/\∀ v,o.data≠.cell v
 keep:∀ i h h',tn i h->(∀ b∈fp,∀ o,h.get? b=some o->h'.get? b=some o)->tn i h'
 item:∀ (X:Cx),X.prog=P->X.w=w->X.K=K->X.calm=true->∀ (i:Nat)(pins:List (Addr×Obj))(s:Shared)(O:St)(H:Hp)(E:Value->Shared->Prop),Inv X pins O H s->(∀ b∈fp,z6s X pins H b)->tn i s.heap->J.go i H-> wpAny (model P w) X.A (pyNext (.ref it)) (fun r s1=>∃ u,r=some u/\ wpAny (model P w) X.A (letOwnedTupleGo tg (.ref it) u) (fun _ s2=>∃ x H',Inv X pins O H' s2/\wm x u/\J.yld i H x H'/\tn (i+1) s2.heap/\∀ b∈fp,H' b=none) E s1) E s
 done:∀ (X:Cx),X.prog=P->X.w=w->X.K=K->X.calm=true->∀ (i:Nat)(pins:List (Addr×Obj))(s:Shared)(O:St)(H:Hp)(E:Value->Shared->Prop),Inv X pins O H s->(∀ b∈fp,z6s X pins H b)->tn i s.heap->J.stop i H-> wpAny (model P w) X.A (pyNext (.ref it)) (fun r s1=>r=none/\Inv X pins O H s1) E s
 self:∀ (A:Around)(i:Nat)(s:Shared)(Q:Value->Shared->Prop)(E:Value->Shared->Prop),tn i s.heap->Q (.ref it) s->wpAny (model P w) A (pyIter (.ref it)) Q E s
abbrev TI:=St->Hp->(It->Hp->Prop)->Prop
def PIE(X:Cx)(pins:List (Addr×Obj))(O:St)(tg:Expr)(R:It->Hp->Prop)(itv:Value)(s2:Shared):Prop:= ∃ (it:Addr)(fp:List Addr)(tn:Nat->Heap->Prop)(J:It)(H':Hp),itv=.ref it/\Inv X pins O H' s2/\zh5 X.prog X.w X.K tg J fp it tn/\tn 0 s2.heap/\(∀ b∈fp,z6s X pins H' b)/\R J H'
def PI(X:Cx)(tg iter:Expr)(wi:TI):Prop:= ∀ (pins:List (Addr×Obj))(s:Shared)(O:St)(H:Hp)(R:It->Hp->Prop),Inv X pins O H s->wi O H R-> wpAny (model X.prog X.w) X.A (eval iter X.env) (fun v s1=>wpAny (model X.prog X.w) X.A (pyIter v) (PIE X pins O tg R) X.xe s1) X.xe s
theorem zh3{M:Model}{A:Around}{E:Value->Shared->Prop}{s:Shared}{tg:Expr}{it:Addr}{u:Value}{o:Obj}{n:String}{vs:Array Value}{Q:Unit->Shared->Prop}(ho:s.heap.get? it=some o)(hc:o.cls=.type n)(hd:o.data=.fields vs) (hn:["enumerate","zip","dict_itemiterator","dict_reverseitemiterator","odict_iterator","itertools.zip_longest","itertools.pairwise"].contains n=false)(hQ:Q () s):wpAny M A (letOwnedTupleGo tg (.ref it) u) Q E s:=by
  unfold letOwnedTupleGo;cases tg<;>first
    | exact wpAny_pure hQ | (cases u<;>first
        | exact wpAny_pure hQ
        | (refine wpAny_bind (wpAny_load ho ?_);rw [hc,hd];show wpAny M A (if (["enumerate","zip","dict_itemiterator","dict_reverseitemiterator","odict_iterator","itertools.zip_longest","itertools.pairwise"].contains n&&vs[0]? == some (rawInt _))=true then _ else _) Q E s;rw [if_neg (by intro h;rw [hn,Bool.false_and] at h;cases h)];exact wpAny_pure hQ))
def Itl(K:W.Frag)(a:Addr):It:= ⟨fun i H=>∃ xs x,SqL K H a xs/\xs[i]? = some x,fun i H x H'=>H'=H/\∀ xs,SqL K H a xs->xs[i]? = some x,fun i H=>∃ xs,SqL K H a xs/\xs.length<=i⟩
def Itt(K:W.Frag)(a:Addr):It:= ⟨fun i H=>∃ xs x,SqT K H a xs/\xs[i]? = some x,fun i H x H'=>H'=H/\∀ xs,SqT K H a xs->xs[i]? = some x,fun i H=>∃ xs,SqT K H a xs/\xs.length<=i⟩
def Itr(lo:Int)(n:Nat):It:=⟨fun i _=>i<n,fun i H x H'=>H'=H/\x=.int (lo+i),fun i _=>n<=i⟩
theorem zcF{P:Program}{w:World}{K:W.Frag}{tg:Expr}(a it:Addr):zh5 P w K tg (Itl K a) [it] it (fun i h=>h.IsListIter it a i) where
 mem:=by simp
 obj:=fun i h st b hb=>by
  have e:b=it:=by simpa using hb
  subst e;obtain ⟨o,e,c,d⟩:=st;exact ⟨o,e,fun v z=>by rw [d] at z;cases z⟩
 keep:=fun i h h' st k=>st.at fun o e=>k it (by simp) o e;item:=by
  intro X hP hw hK hc i pins s O H E I hf st hg;subst hP hw hK;obtain ⟨xs,x,hq,hx⟩:=hg;obtain ⟨its,rv,p,hz⟩:=I.list hq;obtain ⟨u,hu,ru⟩:=rv.get hx;obtain ⟨f0,f1,f2,f3,f4,f5⟩:=hf it (by simp);refine wpAny_pyNext_list_item st p.isList (x:=u) (by simpa using hu) fun h' st' sb=>?_;have I1:Inv X pins O H {s with heap:=h'}:=I.turned (t':=s.toks) (fun b o hb e=>(sb.2 b hb).trans e) f0 f1 f3 f4 f5;obtain ⟨o,e,c,d⟩:=id st';exact ⟨u,rfl,zh3 (s:={s with heap:=h'}) e c d (by decide) ⟨x,H,I1,ru,⟨rfl,fun ys hy=>by rw [I.list_inj hy hq];exact hx⟩,st',fun b hb=>(hf b hb).1⟩⟩
 done:=by
  intro X hP hw hK hc i pins s O H E I hf st hg;subst hP hw hK;obtain ⟨xs,hq,hx⟩:=hg;obtain ⟨its,rv,p,hz⟩:=I.list hq;obtain ⟨f0,f1,f2,f3,f4,f5⟩:=hf it (by simp);have hl:=rv.length;exact wpAny_pyNext_list_end (I.ok.hd hc) st p.isList (by simp;omega) fun h' eb=>⟨rfl,I.turned (t':=s.toks) (fun b o hb e=>eb b o hb e) f0 f1 f3 f4 f5⟩
 self:=fun _ _ _ _ _ st h=>wpAny_pyIter_listiter st h
theorem zal {P:Program} {w:World} {K:W.Frag} {tg:Expr} (a it:Addr):zh5 P w K tg (Itt K a) [it] it (fun i h=>h.IsTupleIter it a i) where
 mem:=by simp
 obj:=fun i h st b hb=>by
  have e:b=it:=by simpa using hb
  subst e;obtain ⟨o,e,c,d⟩:=st;exact ⟨o,e,fun v z=>by rw [d] at z;cases z⟩
 keep:=fun i h h' st k=>st.at fun o e=>k it (by simp) o e;item:=by
  intro X hP hw hK hc i pins s O H E I hf st hg;subst hP hw hK;obtain ⟨xs,x,hq,hx⟩:=hg;obtain ⟨its,rv,p,hz⟩:=I.tuple hq;obtain ⟨u,hu,ru⟩:=rv.get hx;obtain ⟨f0,f1,f2,f3,f4,f5⟩:=hf it (by simp);refine wpAny_pyNext_tuple_item st (show s.heap.IsTuple a its.toArray from p) (x:=u) (by simpa using hu) fun h' st' sb=>?_;have I1:Inv X pins O H {s with heap:=h'}:=I.turned (t':=s.toks) (fun b o hb e=>(sb.2 b hb).trans e) f0 f1 f3 f4 f5;obtain ⟨o,e,c,d⟩:=id st';exact ⟨u,rfl,zh3 (s:={s with heap:=h'}) e c d (by decide) ⟨x,H,I1,ru,⟨rfl,fun ys hy=>by rw [I.tuple_inj hy hq];exact hx⟩,st',fun b hb=>(hf b hb).1⟩⟩
 done:=by
  intro X hP hw hK hc i pins s O H E I hf st hg;subst hP hw hK;obtain ⟨xs,hq,hx⟩:=hg;obtain ⟨its,rv,p,hz⟩:=I.tuple hq;obtain ⟨f0,f1,f2,f3,f4,f5⟩:=hf it (by simp);have hl:=rv.length;exact wpAny_pyNext_tuple_end (I.ok.hd hc) st (show s.heap.IsTuple a its.toArray from p) (by simp;omega) fun h' eb=>⟨rfl,I.turned (t':=s.toks) (fun b o hb e=>eb b o hb e) f0 f1 f3 f4 f5⟩
 self:=fun _ _ _ _ _ st h=>wpAny_pyIter_tupleiter st h
theorem zb8 {P:Program} {w:World} {K:W.Frag} {tg:Expr} (it:Addr) (lo:Int) (n:Nat):zh5 P w K tg (Itr lo n) [it] it (fun i h=>IsRangeIter h it (lo+(i:Nat)*1) ((n:Int)-(i:Nat)) 1) where
 mem:=by simp
 obj:=fun i h st b hb=>by
  have e:b=it:=by simpa using hb
  subst e;exact ⟨_,st,fun v z=>by
   have z':Data.fields _=Data.cell v:=z;cases z'⟩
 keep:=fun i h h' st k=>k it (by simp) _ st;item:=by
  intro X hP hw hK hc i pins s O H E I hf st hg;subst hP hw hK;obtain ⟨f0,f1,f2,f3,f4,f5⟩:=hf it (by simp);have W:=Walks.range (prog:=X.prog) (w:=X.w) (I.ok.hd hc) it lo 1 n;refine W.item i s _ _ hg st fun v h' tk hv st' kk=>?_;obtain ⟨t,rfl⟩:=hv;have I1:Inv X pins O H {s with heap:=h',toks:=tk}:=I.turned (fun b o hb e=>kk b o (by simpa using hb) e) f0 f1 f3 f4 f5;refine ⟨_,rfl,zh3 (s:={s with heap:=h',toks:=tk}) (n:="range_iterator") st' rfl rfl (by decide) ⟨.int (lo+i),H,I1,⟨t,?_⟩,⟨rfl,rfl⟩,st',fun b hb=>(hf b hb).1⟩⟩;rw [Int.mul_one]
 done:=by
  intro X hP hw hK hc i pins s O H E I hf st hg;subst hP hw hK;obtain ⟨f0,f1,f2,f3,f4,f5⟩:=hf it (by simp);exact wpAny_pyNext_range_end (I.ok.hd hc) st (by have:n<=i:=hg;omega) fun h' eb=>⟨rfl,I.turned (t':=s.toks) (fun b o hb e=>eb b o hb e) f0 f1 f3 f4 f5⟩
 self:=fun _ _ _ _ _ st h=>wpAny_pyIter_rangeiter st h
section
variable {X:Cx}{tg:Expr}
theorem zey{pins:List (Addr×Obj)}{O:St}{H:Hp}{s:Shared}{R:It->Hp->Prop}{E:Value->Shared->Prop}{lo hi:Int}{t u v:Tok}{tk:Nat}(I:Inv X pins O H s)(h1:-(2 ^ 62)<=lo)(h2:lo<2 ^ 62)(h3:-(2 ^ 62)<=hi)(h4:hi<2 ^ 62) (q:R (Itr lo (hi-lo).toNat) H):wpAny (model X.prog X.w) X.A (pyIter (.ref s.heap.objs.size)) (PIE X pins O tg R) E {s with heap:=s.heap.push {cls:=.type "range",data:=.fields #[.int lo t,.int hi u,.int 1 v]},toks:=tk}:=by
 refine wpAny_pyIter_range (IsRange.new ..) (small_one h1 h2 h3 h4) ?_;have I1:Inv X pins O H {s with heap:=s.heap.push {cls:=.type "range",data:=.fields #[.int lo t,.int hi u,.int 1 v]},toks:=tk}:=I.kept fun b o e=>Heap.get?_push_of_some _ e;refine ⟨(s.heap.push {cls:=.type "range",data:=.fields #[.int lo t,.int hi u,.int 1 v]}).objs.size,[(s.heap.push {cls:=.type "range",data:=.fields #[.int lo t,.int hi u,.int 1 v]}).objs.size],_,_,H,rfl, I1.kept (t':=tk) fun b o e=>Heap.get?_push_of_some _ e,zb8 _ lo (hi-lo).toNat,?_,fun b hb=>?_,q⟩
 ·have e1:lo+((0:Nat):Int)*1=lo:=by simp
  have e2:(((hi-lo).toNat:Nat):Int)-((0:Nat):Int)=Builtin.Range.rangeSize lo hi 1:=by rw [rangeSize_one];split<;>omega
  show IsRangeIter _ _ (lo+((0:Nat):Int)*1) ((((hi-lo).toNat:Nat):Int)-((0:Nat):Int)) 1;rw [e1,e2];exact Heap.get?_push_size _ rfl
 ·have e:b=(s.heap.push {cls:=.type "range",data:=.fields #[.int lo t,.int hi u,.int 1 v]}).objs.size:=by simpa using hb
  subst e;exact I1.fpOk (Nat.le_refl _) (I1.hok.fresh (Nat.le_refl _))
def zlq(ta:TA):TI:=fun O H R=>ta O H fun vs H1=>∃ j:Int,vs=[.int j]/\-(2 ^ 62)<=j/\j<2 ^ 62/\R (Itr 0 j.toNat) H1
theorem zbm{a:Expr}{ta:TA}{p pos:Pos}(hg:Gl X "range")(hm:X.mg "range"=none)(ha:PA X [a] ta)(hs:starEach [a] X.env=[(false,eval a X.env)]:=by rfl):PI X tg (.Call (.Name "range" p) [a] [] pos) (zlq ta):=by
 intro pins s O H R I h;refine Call_ (z1v I hg hm boot_range (PyProof.Rows.callWith_type1 (thn (ha pos pins s O H _ I h) fun us s1 ⟨vs,H1,I1,r1,q1⟩=>?_) hs rfl));obtain ⟨j,e,q1,q2,q⟩:=q1;subst e;cases r1 with | cons r rr=>
  cases rr;obtain ⟨t,rfl⟩:=r;exact call_range_1 (zey I1 (by omega) (by omega) q1 q2 (by simpa using q))
def zn4(wi:TI)(g:TG)(tb:TS):TS:=fun D O H=>wi O H fun J H1=>∃ W:Nat->Nat->St->Hp->Prop,(∃ m,W 0 m O H1)/\∀ i m O H,W i m O H-> (J.stop i H/\D.nx O H)\/(J.go i H/\∃ N:St->Hp->Prop,(∀ O' H',N O' H'->∃ m',m'<m/\W (i+1) m' O' H')/\∀ x H',J.yld i H x H'->g x O H' fun O2 H2=>tb {D with nx:=N,ct:=N,bk:=D.nx} O2 H2)
def z74(fp:List Addr)(h:Heap):List (Addr×Obj):=fp.filterMap fun b=>(h.get? b).map fun o=>(b,o)
theorem qA{fp:List Addr}{h:Heap}{b:Addr}{o:Obj}(hb:b∈fp)(e:h.get? b=some o):(b,o)∈z74 fp h:=List.mem_filterMap.mpr ⟨b,hb,by rw [e];rfl⟩
theorem zcf{fp:List Addr}{h:Heap}{p:Addr×Obj}(hp:p∈z74 fp h):p.1∈fp/\h.get? p.1=some p.2:=by
 obtain ⟨b,hb,e⟩:=List.mem_filterMap.mp hp;cases q:h.get? b with
 | none=>rw [q] at e;cases e | some o=>
  rw [q] at e;have e':(b,o)=p:=Option.some.inj e;subst e';exact ⟨hb,q⟩
theorem Inv.pinned{pins:List (Addr×Obj)}{O:St}{H:Hp}{s:Shared}{fp:List Addr}(I:Inv X pins O H s)(hf:∀ b∈fp,z6s X pins H b)(ho:∀ b∈fp,∃ o,s.heap.get? b=some o/\∀ v,o.data≠.cell v):Inv X (pins++z74 fp s.heap) O H s:= I.pins_of fun p hp=>(List.mem_append.mp hp).elim (fun z=>I.pin p (List.mem_append_right _ z)) fun z=>by
  obtain ⟨hb,e⟩:=zcf z;obtain ⟨f0,f1,f2,_⟩:=hf p.1 hb;obtain ⟨o,e',d⟩:=ho p.1 hb;rw [e] at e';cases e';exact ⟨e,f0,f1,f2,d⟩
theorem Inv.unpinned{pins pl:List (Addr×Obj)}{O:St}{H:Hp}{s:Shared}(I:Inv X (pins++pl) O H s):Inv X pins O H s:=I.pins_of fun p hp=>I.pin p (List.mem_append_right _ (List.mem_append_left _ hp))
theorem zif{iter:Expr}{body:List Stmt}{wi:TI}{g:TG}{tb:TS}{pos:Pos}(hp:PassesOwn (model X.prog X.w) X.A X.env X.xe)(hc:X.calm=true)(hi:PI X tg iter wi)(hg:PG X tg g)(hb:PSs X body tb) (hs:∀ x,foldedSetIterable iter X.env x=pure x:=by intro _;rfl):PS X (.For tg iter body [] pos) (zn4 wi g tb):=by
 intro pins s O H D I h;refine wpAny_For (thn (hi pins s O H _ I h) fun v s1 h1=>thn h1 fun itv s2 h2=>?_) hs;obtain ⟨it,fp,tn,J,H2,e,I2,T,st2,f2,W,⟨m0,w0⟩,turn⟩:=h2;subst e;have stat:∀ {H':Hp},(∀ b∈fp,H' b=none)->∀ b∈fp,z6s X pins H' b:=fun hn b hb=>⟨hn b hb,(f2 b hb).2⟩;refine codeAny_forLoop_any (fun n s'=>∃ i O' H',Inv X pins O' H' s'/\tn i s'.heap/\(∀ b∈fp,H' b=none)/\W i n O' H') ?_ m0 ⟨0,O,H2,I2,st2,fun b hb=>(f2 b hb).1,w0⟩;rintro n s3 ⟨i,O3,H3,I3,st3,fr3,w3⟩;rcases turn i n O3 H3 w3 with ⟨stop,qn⟩ | ⟨go,N,hN,step⟩
 ·refine wpAny_passesOwn hp (thn (T.done X rfl rfl rfl hc i pins s3 O3 H3 X.xe I3 (stat fr3) st3 stop) fun r s4 ⟨hr,I4⟩=>?_);subst hr;exact wpAny_execs_nil ⟨O3,H3,I4,qn⟩
 ·refine wpAny_passesOwn hp (thn (T.item X rfl rfl rfl hc i pins s3 O3 H3 X.xe I3 (stat fr3) st3 go) fun r s4 ⟨u,hr,h4⟩=>?_);subst hr;refine wpAny_passesOwn hp (thn h4 fun _ s5 ⟨x,H5,I5,r5,y5,st5,fr5⟩=>?_);have I5':=I5.pinned (stat fr5) (T.obj _ _ st5);refine wpAny_passesOwn hp (thn (hg _ s5 O3 H5 x u _ I5' r5 (step x H5 y5)) fun _ s6 ⟨O6,H6,I6,q6⟩=>?_);refine wpAny_passesOwn hp (thn (hb _ s6 O6 H6 _ I6 q6) fun f s7 q7=>?_);have again:∀ {O7:St}{H7:Hp},Inv X (pins++z74 fp s5.heap) O7 H7 s7->N O7 H7->∃ m,m<n/\∃ i O' H',Inv X pins O' H' s7/\tn i s7.heap/\(∀ b∈fp,H' b=none)/\W i m O' H':=fun {O7 H7} I7 n7=>by
   obtain ⟨m',hm,w7⟩:=hN O7 H7 n7;refine ⟨m',hm,i+1,O7,H7,I7.unpinned,T.keep _ _ _ st5 fun b hb o e=>(I7.pin (b,o) (List.mem_append_right _ (List.mem_append_right _ (qA hb e)))).1,fun b hb=>?_,w7⟩;obtain ⟨o,e,d⟩:=T.obj _ _ st5 b hb;exact (I7.pin (b,o) (List.mem_append_right _ (List.mem_append_right _ (qA hb e)))).2.1
  cases f with
  | next=>obtain ⟨O7,H7,I7,n7⟩:=q7;exact again I7 n7 | cont=>obtain ⟨O7,H7,I7,n7⟩:=q7;exact again I7 n7 | brk=>obtain ⟨O7,H7,I7,q7⟩:=q7;exact ⟨O7,H7,I7.unpinned,q7⟩ | ret v=>obtain ⟨x7,O7,H7,I7,r7,q7⟩:=q7;exact ⟨x7,O7,H7,I7.unpinned,r7,q7⟩
end
abbrev R2:=V->V->Hp->VK->Prop
def OpR(X:Cx)(f:Value->Value->Sem Value)(r:R2):Prop:= ∀ (pins:List (Addr×Obj))(s:Shared)(O:St)(H:Hp)(x y:V)(v u:Value)(Q:VK),Inv X pins O H s->wm x v->wm y u->r x y H Q-> wpAny (model X.prog X.w) X.A (f v u) (EP X pins O Q) X.xe s
def UnR(X:Cx)(f:Value->Sem Value)(r:V->Hp->VK->Prop):Prop:= ∀ (pins:List (Addr×Obj))(s:Shared)(O:St)(H:Hp)(x:V)(v:Value)(Q:VK),Inv X pins O H s->wm x v->r x H Q-> wpAny (model X.prog X.w) X.A (f v) (EP X pins O Q) X.xe s
def wu(X:Cx)(f:Value)(r:List V->Hp->VK->Prop):Prop:= ∀ (pins:List (Addr×Obj))(s:Shared)(O:St)(H:Hp)(xs:List V)(us:List Value)(Q:VK),Inv X pins O H s->yY xs us->r xs H Q-> wpAny (model X.prog X.w) X.A (call f us) (EP X pins O Q) X.xe s
def tOp(r:R2)(ta tb:TE):TE:=fun O H Q=>ta O H fun x H1=>tb O H1 fun y H2=>r x y H2 Q
def tUn(r:V->Hp->VK->Prop)(ta:TE):TE:=fun O H Q=>ta O H fun x H1=>r x H1 Q
def rI(C:Int->Int->Prop)(g:Int->Int->V):R2:=fun x y H Q=>∃ i j,x=.int i/\y=.int j/\C i j/\Q (g i j) H
def rI0(g:Int->Int->V):R2:=fun x y H Q=>∃ i j,x=.int i/\y=.int j/\Q (g i j) H
def rU(g:Int->V):V->Hp->VK->Prop:=fun x H Q=>∃ i,x=.int i/\Q (g i) H
section
variable {X:Cx}{a b c:Expr}{ta tb tc:TE}{pos:Pos}
theorem zkm(ha:PE X a ta)(hb:PE X b tb){pins:List (Addr×Obj)}{s:Shared}{O:St}{H:Hp}{R:V->V->Hp->Prop}(I:Inv X pins O H s) (h:ta O H fun x H1=>tb O H1 fun y H2=>R x y H2){Q:Value->Shared->Prop}{f:Value->Value->Sem Value} (hf:∀ v u s2 x y H2,Inv X pins O H2 s2->wm x v->wm y u->R x y H2->wpAny (model X.prog X.w) X.A (f v u) Q X.xe s2): wpAny (model X.prog X.w) X.A (eval a X.env) (fun v s₁=>wpAny (model X.prog X.w) X.A (eval b X.env) (fun u s₂=>wpAny (model X.prog X.w) X.A (f v u) Q X.xe s₂) X.xe s₁) X.xe s:=by
 refine thn (ha pins s O H _ I h) fun v s1 ⟨x,H1,I1,r1,q1⟩=>?_;refine thn (hb pins s1 O H1 _ I1 q1) fun u s2 ⟨y,H2,I2,r2,q2⟩=>?_;exact hf v u s2 x y H2 I2 r1 r2 q2
theorem zkT{op:Operator}{r:R2}(ho:OpR X (binaryOp op) r)(ha:PE X a ta)(hb:PE X b tb):PE X (.BinOp a op b pos) (tOp r ta tb):=by
 intro pins s O H Q I h;exact wpAny_BinOp (zkm ha hb I h fun v u s2 x y H2 I2 rx ry q=>ho pins s2 O H2 x y v u Q I2 rx ry q)
theorem zhO{op:UnaryOp}{r:V->Hp->VK->Prop}(ho:UnR X (unaryOp op) r)(ha:PE X a ta):PE X (.UnaryOp op a pos) (tUn r ta):=by
 intro pins s O H Q I h;exact UnaryOp_ (thn (ha pins s O H _ I h) fun v s1 ⟨x,H1,I1,r1,q1⟩=>ho pins s1 O H1 x v Q I1 r1 q1)
theorem opI {f:Value->Value->Sem Value} {C:Int->Int->Prop} {g:Int->Int->Int} (rule:∀ (i j:Int) (t u:Tok) (s:Shared) (Q:Value->Shared->Prop) (E:Value->Shared->Prop),C i j->Q (.int (g i j) s.toks) {s with toks:=s.toks+1}->wpAny (model X.prog X.w) X.A (f (.int i t) (.int j u)) Q E s): OpR X f (rI C fun i j=>.int (g i j)):=by
 intro pins s O H x y v u Q I rx ry h;obtain ⟨i,j,rfl,rfl,hc,q⟩:=h;obtain ⟨t,rfl⟩:=rx;obtain ⟨t',rfl⟩:=ry;exact rule i j t t' s _ _ hc ⟨.int (g i j),H,I.tok _,⟨_,rfl⟩,q⟩
theorem zm7 {f:Value->Value->Sem Value} {g:Int->Int->Int} (rule:∀ (i j:Int) (t u:Tok) (s:Shared) (Q:Value->Shared->Prop) (E:Value->Shared->Prop),Q (.int (g i j) s.toks) {s with toks:=s.toks+1}->wpAny (model X.prog X.w) X.A (f (.int i t) (.int j u)) Q E s): OpR X f (rI0 fun i j=>.int (g i j)):=by
 intro pins s O H x y v u Q I rx ry h;obtain ⟨i,j,rfl,rfl,q⟩:=h;obtain ⟨t,rfl⟩:=rx;obtain ⟨t',rfl⟩:=ry;exact rule i j t t' s _ _ ⟨.int (g i j),H,I.tok _,⟨_,rfl⟩,q⟩
theorem zjH{f:Value->Value->Sem Value}{g:Int->Int->Bool} (rule:∀ (i j:Int)(t u:Tok)(s:Shared)(Q:Value->Shared->Prop)(E:Value->Shared->Prop),Q (.bool (g i j)) s->wpAny (model X.prog X.w) X.A (f (.int i t) (.int j u)) Q E s): OpR X f (rI0 fun i j=>.bl (g i j)):=by
 intro pins s O H x y v u Q I rx ry h;obtain ⟨i,j,rfl,rfl,q⟩:=h;obtain ⟨t,rfl⟩:=rx;obtain ⟨t',rfl⟩:=ry;exact rule i j t t' s _ _ ⟨.bl (g i j),H,I,rfl,q⟩
def zmw(i j:Int):Prop:=0<=j/\j<=1000000/\i.natAbs<2 ^ 64
theorem zjm:OpR X (binaryOp .Add) (rI0 fun i j=>.int (i+j)):=zm7 fun _ _ _ _ _ _ _ q=>add_int q
theorem zjt:OpR X (binaryOp .Sub) (rI0 fun i j=>.int (i-j)):=zm7 fun _ _ _ _ _ _ _ q=>sub_int q
theorem zim:OpR X (binaryOp .Mod) (rI (fun _ j=>0<j) fun i j=>.int (i % j)):=opI fun i j _ _ _ _ _ hc q=>by
 have h1:(0:Int)<j:=hc;exact mod_int' (by omega) (by rw [Int.fmod_eq_emod_of_nonneg i (by omega)];exact q)
theorem zje:OpR X (binaryOp .Pow) (rI zmw fun i j=>.int (i ^ j.toNat)):=opI fun _ _ _ _ _ _ _ hc q=>pow_int_small hc.1 hc.2.1 hc.2.2 q
theorem unI {f:Value->Sem Value} {g:Int->Int} (rule:∀ (i:Int) (t:Tok) (s:Shared) (Q:Value->Shared->Prop) (E:Value->Shared->Prop),Q (.int (g i) s.toks) {s with toks:=s.toks+1}->wpAny (model X.prog X.w) X.A (f (.int i t)) Q E s): UnR X f (rU fun i=>.int (g i)):=by
 intro pins s O H x v Q I rx h;obtain ⟨i,rfl,q⟩:=h;obtain ⟨t,rfl⟩:=rx;exact rule i t s _ _ ⟨.int (g i),H,I.tok _,⟨_,rfl⟩,q⟩
theorem zeZ:UnR X (unaryOp .USub) (rU fun i=>.int (-i)):=unI fun _ _ _ _ _ q=>neg_int q
end
section
variable {X:Cx}{a b c:Expr}{ta tb tc:TE}{pos:Pos}
theorem ziy{pins:List (Addr×Obj)}{O:St}{H:Hp}{s:Shared}{Q:VK}{k k':Bool}(I:Inv X pins O H s)(q:Q (.bl k) H)(e:k=k'):EP X pins O Q (.bool k') s:=by
 subst e;exact ⟨.bl k,H,I,rfl,q⟩
theorem zlc:OpR X (compareOp .Lt) (rI0 fun i j=>.bl (decide (i<j))):=zjH fun _ _ _ _ _ _ _ q=>lt_int q
theorem zln:OpR X (compareOp .LtE) (rI0 fun i j=>.bl (decide (i<=j))):=zjH fun _ _ _ _ _ _ _ q=>le_int q
theorem zka:OpR X (compareOp .Gt) (rI0 fun i j=>.bl (decide (j<i))):=zjH fun _ _ _ _ _ _ _ q=>gt_int q
theorem zkJ:OpR X (compareOp .GtE) (rI0 fun i j=>.bl (decide (j<=i))):=zjH fun _ _ _ _ _ _ _ q=>ge_int q
theorem ziB:OpR X (compareOp .Is) (fun x y H Q=>y=.non/\Q (.bl (decide (x=.non))) H):=by
 intro pins s O H x y v u Q I rx ry h;obtain ⟨rfl,q⟩:=h;cases ry;refine is_none_gen (ziy I q ?_);cases x<;>first
  | (cases rx;rfl) | (obtain ⟨t,rfl⟩:=rx;rfl)
theorem OpR.or{f:Value->Value->Sem Value}{r r':R2}(h:OpR X f r)(h':OpR X f r'):OpR X f (fun x y H Q=>r x y H Q\/r' x y H Q):=by
 intro pins s O H x y v u Q I rx ry q;rcases q with q | q;·exact h pins s O H x y v u Q I rx ry q
 ·exact h' pins s O H x y v u Q I rx ry q
theorem zf5(b:Expr){op:CmpOp}(h:op≠.In:=by decide)(h2:op≠.NotIn:=by decide):behindInMarks op b=false:=by
 have e1:(op==CmpOp.In)=false:=by cases op<;>first | rfl | exact absurd rfl h
 have e2:(op==CmpOp.NotIn)=false:=by cases op<;>first | rfl | exact absurd rfl h2
 cases b<;>simp [behindInMarks,e1,e2]
theorem zbg{op:CmpOp}{r:R2}(ho:OpR X (compareOp op) r)(ha:PE X a ta)(hb:PE X b tb)(hm:behindInMarks op b=false):PE X (.Compare a [op] [b] pos) (tOp r ta tb):=by
 intro pins s O H Q I h;exact wpAny_Compare1 (zkm ha hb I h fun v u s2 x y H2 I2 rx ry q=>ho pins s2 O H2 x y v u Q I2 rx ry q) hm
def zhC(t:TE):TT:=fun O H Q=>t O H fun x H'=>∃ k,x=.bl k/\Q k H'
theorem zgv{op:CmpOp}{r:R2}(ho:OpR X (compareOp op) r)(ha:PE X a ta)(hb:PE X b tb)(hm:behindInMarks op b=false):PT X (.Compare a [op] [b] pos) (zhC (tOp r ta tb)):=by
 intro pins s O H Q I h;refine wpAny_isTrue_Compare1 (thn (ha pins s O H _ I h) fun v s1 ⟨x,H1,I1,r1,q1⟩=>thn (hb pins s1 O H1 _ I1 q1) fun u s2 ⟨y,H2,I2,r2,q2⟩=> thn (ho pins s2 O H2 x y v u _ I2 r1 r2 q2) fun c s3 ⟨z,H3,I3,r3,k,e,q3⟩=>?_) hm;subst e;cases r3;exact wpAny_truthy_bool ⟨H3,I3,q3⟩
def zfg(r r':R2)(ta tb tc:TE):TE:=fun O H Q=>ta O H fun x H1=>tb O H1 fun y H2=>r x y H2 fun z H3=>∃ k,z=.bl k/\ (if k=true then tc O H3 fun w' H4=>r' y w' H4 Q else Q (.bl false) H3)
theorem zeD{op op':CmpOp}{r r':R2}(ho:OpR X (compareOp op) r)(ho':OpR X (compareOp op') r')(ha:PE X a ta)(hb:PE X b tb)(hc:PE X c tc) (hm:lastMarks [op,op'] [b,c]=false:=by with_unfolding_all rfl):PE X (.Compare a [op,op'] [b,c] pos) (zfg r r' ta tb tc):=by
 intro pins s O H Q I h;refine Compare_chain (thn (ha pins s O H _ I h) fun v s1 ⟨x,H1,I1,r1,q1⟩=>chain_link (thn (hb pins s1 O H1 _ I1 q1) fun u s2 ⟨y,H2,I2,r2,q2⟩=> thn (ho pins s2 O H2 x y v u _ I2 r1 r2 q2) fun d s3 ⟨z,H3,I3,r3,k,e,q3⟩=>?_)) hm;subst e;cases r3;refine wpAny_truthy_bool ?_;cases k with
 | false=>exact ite_ff ⟨.bl false,H3,I3,rfl,q3⟩ | true=>exact ite_tt (chain_last (thn (hc pins s3 O H3 _ I3 q3) fun w' s4 ⟨z',H4,I4,r4,q4⟩=>ho' pins s4 O H4 y z' u w' Q I4 r2 r4 q4))
theorem z9M:(sizeLine:Nat)<2 ^ 63:=by rw [sizeLine_eq];decide
theorem zaK:OpR X (binaryOp .Add) (fun x y H Q=>∃ i j,x=.str i/\y=.str j/\i.length+j.length<=sizeLine/\Q (.str (i++j)) H):=by
 intro pins s O H x y v u Q I rx ry h;obtain ⟨i,j,rfl,rfl,hz,q⟩:=h;obtain ⟨t,rfl⟩:=rx;obtain ⟨t',rfl⟩:=ry;exact add_str (fun t' tk=>⟨.str (i++j),H,I.tok _,⟨_,rfl⟩,q⟩) hz
theorem vals1{x:V}{us:List Value}(r:yY [x] us):∃ u,us=[u]/\wm x u:=by cases r with | cons r1 r2=>cases r2;exact ⟨_,rfl,r1⟩
theorem vals2{x y:V}{us:List Value}(r:yY [x,y] us):∃ u w',us=[u,w']/\wm x u/\wm y w':=by cases r with | cons r1 r2=> cases r2 with | cons r3 r4=>cases r4;exact ⟨_,_,rfl,r1,r3⟩
theorem zbB(hc:X.calm=true):wu X (.builtin "max") (fun xs H Q=>∃ i j,xs=[.int i,.int j]/\Q (.int (if j > i then j else i)) H):=by
 intro pins s O H xs us Q I r h;obtain ⟨i,j,rfl,q⟩:=h;obtain ⟨u,w',rfl,⟨t,rfl⟩,⟨t',rfl⟩⟩:=vals2 r;refine max_two_ints (I.ok.hd hc) fun h' tk k=>⟨_,H,I.kept k,?_,q⟩;by_cases hj:j > i;·rw [if_pos hj,if_pos hj];exact ⟨_,rfl⟩
 ·rw [if_neg hj,if_neg hj];exact ⟨_,rfl⟩
theorem zca(hc:X.calm=true):wu X (.builtin "min") (fun xs H Q=>∃ i j,xs=[.int i,.int j]/\Q (.int (if j<i then j else i)) H):=by
 intro pins s O H xs us Q I r h;obtain ⟨i,j,rfl,q⟩:=h;obtain ⟨u,w',rfl,⟨t,rfl⟩,⟨t',rfl⟩⟩:=vals2 r;refine min_two_ints (I.ok.hd hc) fun h' tk k=>⟨_,H,I.kept k,?_,q⟩;by_cases hj:j<i;·rw [if_pos hj,if_pos hj];exact ⟨_,rfl⟩
 ·rw [if_neg hj,if_neg hj];exact ⟨_,rfl⟩
theorem zbX:wu X (.type "int") (fun xs H Q=>(∃ i,xs=[.int i]/\Q (.int i) H)\/∃ k,xs=[.bl k]/\Q (.int (if k then 1 else 0)) H):=by
 intro pins s O H xs us Q I r h;rcases h with ⟨i,rfl,q⟩ | ⟨k,rfl,q⟩
 ·obtain ⟨u,rfl,t,rfl⟩:=vals1 r;exact call_int_int ⟨.int i,H,I,⟨_,rfl⟩,q⟩
 ·obtain ⟨u,rfl,r1⟩:=vals1 r;cases r1;exact call_int_bool ⟨.int (if k then 1 else 0),H,I.tok _,⟨_,rfl⟩,q⟩
end
structure zkc(h:Heap)(x dx C:Addr)(mA:Str->Option Value):Prop where
 obj:h.get? x=some (W.instObj C dx)
 ns:h.Ns1 dx mA
 ne:dx≠x
theorem zcz{h:Heap}{dx:Addr}{mA:Str->Option Value}(n:h.Ns1 dx mA):∃ od,h.get? dx=some od/\∀ name,W.lookIn name od=some (mA name):=by
 obtain ⟨o,es,ep,ho,hd,hk,_,hm⟩:=n;refine ⟨o,ho,fun name=>?_⟩;have e:=hm name;unfold nsFind findBy at e;rw [<- Array.find?_toList] at e;unfold W.lookIn;rw [hd];dsimp only;split
 ·rename_i y q;rw [q] at e;exact congrArg some e
 ·rename_i q;rw [q] at e;have a:es.toList.any (·.refKey)=false:=by
   rw [List.any_eq_false];intro y hy;obtain ⟨z,t,hkey⟩:=hk y (Array.mem_toList_iff.mp hy);simp [DictEntry.refKey,hkey]
  have a':¬ es.toList.any (·.refKey)=true:=by rw [a];exact Bool.false_ne_true
  rw [if_neg a'];exact congrArg some e
theorem zkc.look{h:Heap}{x dx C:Addr}{mA:Str->Option Value}(I:zkc h x dx C mA):∃ od,W.InstAt h x (W.instObj C dx) C (some od)/\∀ name,W.lookIn name od=some (mA name):= let ⟨od,ho,hl⟩:=zcz I.ns;⟨od,⟨I.obj,rfl,rfl,ho⟩,hl⟩
section
variable {P:Program}{w:World}{H H':Hp}{h h':Heap}{a C dx:Addr}{fs fs':List (Str×V)}
theorem zbQ(hok:HOk P w H h)(e:H a=some (.ins C dx fs)):∃ mA,zkc h a dx C mA/\(∀ f,zkr (fs.lookup f) (mA f))/\PySem.Within mA (fs.map (·.1))/\fs.length<=1000/\H dx=some (.own a):=by
 obtain ⟨d,z,ne,ob,mA,n,r,q⟩:=(show wl P w H h a (.ins C dx fs) from hok a _ e);exact ⟨mA,⟨ob,n,ne⟩,r,q,z,d⟩
end
structure Cls(K:W.Frag)(C:Addr):Prop where
 pg:W.plainGet K C Str.empty=true
 hd:W.hasDictIn K C=true
 po:W.plainOver K C=true
 sa:W.findIn K (.ref C) "__setattr__"=some (some (.builtin "object.__setattr__"))
theorem Cls.get{K:W.Frag}{C:Addr}(c:Cls K C)(f:Str):W.plainGet K C f=true:=c.pg
section
variable {X:Cx}{pins:List (Addr×Obj)}{O:St}{H:Hp}{s:Shared}{A:Around}{E:Value->Shared->Prop}{Q:Value->Shared->Prop}{c:Value}{b:Bool}
inductive z8a(K:W.Frag)(H:Hp):V->Value->Prop where | non:z8a K H .non (.type "NoneType") | bl (x:Bool):z8a K H (.bl x) (.type "bool") | int (i:Int):z8a K H (.int i) (.type "int") | str (x:Str):z8a K H (.str x) (.type "str") | flt (x:UInt64):z8a K H (.flt x) (.type "float") | lst {a:Addr}{xs:List V}(e:H a=some (.lst xs)):z8a K H (.ref a) (.type "list") | frz {a:Addr}{o:Obj}{xs:List V}(e:H a=some (.frz o (.lst xs))):z8a K H (.ref a) (.type "list") | tup {a:Addr}{xs:List V}(e:H a=some (.tup xs)):z8a K H (.ref a) (.type "tuple") | dK {a:Addr}{kvs:List (Key×V)}(e:H a=some (.dK kvs)):z8a K H (.ref a) (.type "dict") | dT {a:Addr}{kvs:List (List Key×V)}(e:H a=some (.dT kvs)):z8a K H (.ref a) (.type "dict") | ins {a C dx:Addr}{fs:List (Str×V)}(e:H a=some (.ins C dx fs))(cl:Cls K C)(ha:W.findIn K (.ref C) "__class__"=some (some (.builtin "object.__class__"))) (hn:W.specialIn K (.builtin "object.__class__") "__get__"=some (some (.builtin "getset_descriptor.__get__")))(htk:W.takesIn K (.builtin "object.__class__")=some true) (hm:W.mroIn K C (.type "object")=some true):z8a K H (.ref a) (.ref C)
theorem zcl {x:V} {u t:Value} (I:Inv X pins O H s) (rx:wm x u) (ty:z8a X.K H x t) (e:W.kitOne X.K t c=some b) (h:∀ tk,Q (.bool b) {s with toks:=tk}): wpAny (model X.prog X.w) A (call (.builtin "isinstance") [u,c]) Q E s:=by cases ty with
 | non=>cases (show u=Value.none from rx);exact W.kia_one W.kitx_none I.kIn True.intro e (fun z=>nomatch z) h | bl y=>cases (show u=Value.bool y from rx);exact W.kia_one W.kitx_bool I.kIn True.intro e (fun z=>nomatch z) h | int i=>obtain ⟨t,q⟩:=(show ∃ t,u=Value.int i t from rx);cases q;exact W.kia_one W.kitx_int I.kIn True.intro e (fun z=>nomatch z) h | str y=>obtain ⟨t,q⟩:=(show ∃ t,u=Value.str y t from rx);cases q;exact W.kia_one W.kitx_str I.kIn True.intro e (fun z=>nomatch z) h | flt y=>obtain ⟨t,q⟩:=(show ∃ t,u=Value.float y t from rx);cases q;exact W.kia_one W.kitx_float I.kIn True.intro e (fun z=>nomatch z) h | @lst a xs ea=>
  cases (show u=Value.ref a from rx);obtain ⟨_,_,n,_,h1⟩:=(show wl X.prog X.w H s.heap a (.lst xs) from I.hok a _ ea);exact W.kia_one W.kitx_list I.kIn ⟨_,h1,rfl⟩ e (fun z=>nomatch z) h | @frz a ob xs ea=>
  cases (show u=Value.ref a from rx);obtain ⟨_,_,_,n,_,h1⟩:=(show wl X.prog X.w H s.heap a (.frz ob (.lst xs)) from I.hok a _ ea);exact W.kia_one W.kitx_list I.kIn ⟨_,h1,rfl⟩ e (fun z=>nomatch z) h | @tup a xs ea=>
  cases (show u=Value.ref a from rx);obtain ⟨_,_,_,p⟩:=(show wl X.prog X.w H s.heap a (.tup xs) from I.hok a _ ea);obtain ⟨o,h1,h2,_⟩:=p;exact W.kia_one W.kitx_tuple I.kIn ⟨o,h1,h2⟩ e (fun z=>nomatch z) h | @dK a kvs ea=>
  cases (show u=Value.ref a from rx);obtain ⟨_,_,vs,_,p⟩:=(show wl X.prog X.w H s.heap a (.dK kvs) from I.hok a _ ea);obtain ⟨o,es,ep,h1,h2,_⟩:=p;exact W.kia_one W.kitx_dict I.kIn ⟨o,h1,h2.1⟩ e (fun z=>nomatch z) h | @dT a kvs ea=>
  cases (show u=Value.ref a from rx);obtain ⟨_,_,xs,_,o,es,ep,h1,h2,_⟩:=(show wl X.prog X.w H s.heap a (.dT kvs) from I.hok a _ ea);exact W.kia_one W.kitx_dict I.kIn ⟨o,h1,h2.1⟩ e (fun z=>nomatch z) h | @ins a C dx fs ea cl ha hn htk hm=>
  cases (show u=Value.ref a from rx);obtain ⟨mA,Oo,_⟩:=zbQ I.hok ea;obtain ⟨od,J,_⟩:=Oo.look;exact W.kia_one (W.kitx_own (cl.get _) cl.hd ha hn htk hm) I.kIn J e (fun z=>nomatch z) h
end
structure z14(k:Nat)(A:Around):Prop where
 hd:A.handled=none
 dp:A.depth+3*k+5<recursionLimit
 un:A.units+16*k+200<cLine
theorem z14.mono{j k:Nat}{A:Around}(r:z14 k A)(h:j<=k):z14 j A:=⟨r.hd,by have:=r.dp;omega,by have:=r.un;omega⟩
theorem z14.deeper{k:Nat}{A:Around}(r:z14 (k+1) A)(env:Env):z14 k (A.deeper env):= ⟨r.hd,by have:=r.dp;show A.depth+1+3*k+5<_;omega,by have:=r.un;show A.units+3+16*k+200<_;omega⟩
theorem z14.depth{k:Nat}{A:Around}(r:z14 k A):A.depth<recursionLimit:=by have:=r.dp;omega
theorem z14.units{k:Nat}{A:Around}(r:z14 k A):A.units+64<cLine:=by have:=r.un;omega
def zm6:TA:=fun _ H Q=>Q [] H
def zl7(ta:TE)(tr:TA):TA:=fun O H Q=>ta O H fun x H1=>tr O H1 fun xs H2=>Q (x::xs) H2
section
variable {X:Cx}{e:Expr}{es:List Expr}{te:TE}{t:TA}{pos:Pos}
theorem jL:PA X [] zm6:=fun _ _ _ _ H Q I h=>Calls.spliced_nil ⟨[],H,I,.nil,h⟩
theorem wj(ha:PE X e te)(hr:PA X es t)(hs:starEach (e::es) X.env=(false,eval e X.env)::starEach es X.env:=by rfl):PA X (e::es) (zl7 te t):=by
 intro pos pins s O H Q I h;rw [hs];show wpAny _ _ (spliced ((false,eval e X.env)::backTo pos (starEach es X.env))) _ _ s;refine Calls.spliced_cons (thn (ha pins s O H _ I h) fun u s1 ⟨x,H1,I1,r1,q1⟩=>?_);exact thn (hr pos pins s1 O H1 _ I1 q1) fun us s2 ⟨xs,H2,I2,r2,q2⟩=>⟨x::xs,H2,I2,.cons r1 r2,q2⟩
def zmj(t:TA):TE:=fun O H Q=>t O H fun xs H1=>xs.length<=sizeLine/\∀ p,H1 p=none->Q (.ref p) (upd H1 p (.tup xs))
def zm9(t:TA):TE:=fun O H Q=>t O H fun xs H1=>xs.length<=sizeLine/\∀ p,H1 p=none->Q (.ref p) (upd H1 p (.lst xs))
theorem zff{x1}(h:PA X es t):PE X (.Tuple es x1 pos) (zmj t):=by
 intro pins s O H Q I hq;refine wpAny_Tuple_spliced (thn (h pos pins s O H _ I hq) fun us s1 ⟨xs,H1,I1,r,z,q⟩=>⟨by rw [<- r.length];exact z,?_⟩);have hf:H1 s1.heap.objs.size=none:=I1.hok.fresh (Nat.le_refl _);refine ⟨.ref s1.heap.objs.size,upd H1 s1.heap.objs.size (.tup xs),I1.laid (t':=s1.toks) (fun b u e=>Heap.get?_push_of_some _ e) (Nat.le_refl _) ?_,rfl,q _ hf⟩;exact ⟨z,us,r,⟨_,Heap.get?_push_size _ rfl,rfl,rfl,_,rfl⟩⟩
theorem zf9(h:PA X es t):PE X (.List es pos) (zm9 t):=by
 intro pins s O H Q I hq;refine wpAny_List_spliced (thn (h pos pins s O H _ I hq) fun us s1 ⟨xs,H1,I1,r,z,q⟩=>⟨by rw [<- r.length];exact z,?_⟩);have hf:H1 s1.heap.objs.size=none:=I1.hok.fresh (Nat.le_refl _);refine ⟨.ref s1.heap.objs.size,upd H1 s1.heap.objs.size (.lst xs),I1.laid (t':=s1.toks) (fun b u e=>Heap.get?_push_of_some _ e) (Nat.le_refl _) ?_,rfl,q _ hf⟩;exact ⟨z,us,0,r,Heap.get?_push_size _ rfl⟩
end
abbrev Sp:=List V->Hp->VK->XK->Prop
abbrev CXT:=List Env->Hp->Shared->XK->Value->Shared->Prop
structure zig(P:Program)(w:World)(K:W.Frag)(mg:Str->Option Value)(base:Heap)(A:Around)(outer:List Env)(s:Shared)(H:Hp):Prop where
 frames:A.frames=some outer
 mod:Mod K mg base
 bs:∀ b o,base.get? b=some o->s.heap.get? b=some o/\H b=none
 bsz:base.objs.size<=s.heap.objs.size
 funs:s.heap.FunFrames base outer
 frf:∀ b∈frs outer,H b=none
 hok:HOk P w H s.heap
 bare:AllBare s.gens
def CE(outer:List Env)(P:Program)(w:World)(H:Hp)(s:Shared)(Q:VK)(u:Value)(s':Shared):Prop:= ∃ v H',s'.os=s.os/\AllBare s'.gens/\Un (frs outer) [] H H' s.heap s'.heap/\HOk P w H' s'.heap/\wm v u/\Q v H'
def CR(CX:CXT)(outer:List Env)(P:Program)(w:World)(H:Hp)(s:Shared)(Q:VK)(E:XK)(r:Result)(s':Shared):Prop:= match r with
 | .ok (.ret u)=>CE outer P w H s Q u s' | .ok _=>False | .error e=>CX outer H s E e s'
structure z4U(P:Program)(w:World)(K:W.Frag)(mg:Str->Option Value)(base:Heap)(CX:CXT)(k:Nat)(f:Addr)(fd:FuncData)(ps:List Str)(sp:Sp):Prop where
 len:∀ vs H Q E,sp vs H Q E->vs.length=ps.length
 run:∀ (A:Around)(outer:List Env)(s:Shared)(H:Hp)(args:Args)(us:List Value)(vs:List V)(Q:VK)(E:XK),z14 k A->zig P w K mg base A outer s H->BindsTo s fd args (ps.zip us)->yY vs us->sp vs H Q E-> codeAny (model P w) A (.call (.ref f) args) (CR CX outer P w H s Q E) s
theorem z4U.mono{P:Program}{w:World}{K:W.Frag}{mg:Str->Option Value}{base:Heap}{CX:CXT}{j k:Nat}{f:Addr}{fd:FuncData}{ps:List Str}{sp:Sp}(F:z4U P w K mg base CX j f fd ps sp)(h:j<=k): z4U P w K mg base CX k f fd ps sp:=⟨F.len,fun A outer s H args us vs Q E hr=>F.run A outer s H args us vs Q E (hr.mono h)⟩
theorem z4U.imp{P:Program}{w:World}{K:W.Frag}{mg:Str->Option Value}{base:Heap}{CX:CXT}{k:Nat}{f:Addr}{fd:FuncData}{ps:List Str}{sp sp':Sp}(F:z4U P w K mg base CX k f fd ps sp) (h:∀ vs H Q E,sp' vs H Q E->sp vs H Q E):z4U P w K mg base CX k f fd ps sp':= ⟨fun vs H Q E q=>F.len vs H Q E (h _ _ _ _ q),fun A outer s H args us vs Q E hr he hb hv hs=>F.run A outer s H args us vs Q E hr he hb hv (h _ _ _ _ hs)⟩
section
variable {X:Cx}{pins:List (Addr×Obj)}{O:St}{H:Hp}{s s':Shared}
theorem Inv.env0(I:Inv X pins O H s):zig X.prog X.w X.K X.mg X.base X.A X.stack s H:= ⟨I.ok.frames,I.ok.mod,I.bs,Nat.le_trans I.ok.bsz I.sz,I.stack,I.stkFree,I.hok,I.bare⟩
theorem Inv.after {Q:VK} {u:Value} (I:Inv X pins O H s) (h:CE X.stack X.prog X.w H s Q u s'):EP X pins O Q u s':=by
 obtain ⟨v,H',os,bare,un,hok,r,q⟩:=h;obtain ⟨hh,g,d,t,os'⟩:=s';obtain rfl:os'=s.os:=os;exact ⟨v,H',I.call (h':=hh) (g':=g) (d':=d) (t':=t) (ch:=[]) un hok bare (fun b z=>absurd z (by simp)),r,q⟩
end
def zgZ(sp:Sp)(dvs:List V)(E:XK)(t:TA):TE:=fun O H Q=>t O H fun vs H1=>sp (vs++dvs) H1 Q E
def Binds(K:W.Frag)(fd:FuncData)(ps:List Str)(ds:List Value):Prop:= ∀ (s:Shared)(us:List Value),K.In s.heap->(us++ds).length=ps.length->BindsTo s fd ⟨us,[]⟩ (ps.zip (us++ds))
theorem Binds.all{K:W.Frag}{fd:FuncData}{ps:List Str}(h:∀ us:List Value,us.length=ps.length->bindArgs fd ⟨us,[]⟩=pure (ps.zip us)):Binds K fd ps []:=fun s us _ hl=>by
 rw [List.append_nil] at hl ⊢;exact .of_eq (h us hl)
def Passes(CX:CXT)(X:Cx)(E:XK):Prop:=∀ (pins:List (Addr×Obj))(O:St)(H:Hp)(s:Shared)(e:Value)(s':Shared),Inv X pins O H s->CX X.stack H s E e s'->X.xe e s'
section
variable {X:Cx}{CX:CXT}{k:Nat}{f C:Addr}{fd:FuncData}{ps:List Str}{sp:Sp}{dvs:List V}{ds:List Value}{E:XK}{x m:Str}{p pos apos:Pos}{e o:Expr}{es:List Expr}{ta:TE}{t:TA}
theorem zad{pins:List (Addr×Obj)}{O:St}{H:Hp}{s:Shared}{Q:VK}{us:List Value}{vs:List V}(F:z4U X.prog X.w X.K X.mg X.base CX k f fd ps sp)(hr:z14 k X.A)(hb:Binds X.K fd ps ds)(hd:yY dvs ds)(hx:Passes CX X E) (I:Inv X pins O H s)(r:yY vs us)(h:sp (vs++dvs) H Q E):wpAny (model X.prog X.w) X.A (call (.ref f) us) (EP X pins O Q) X.xe s:=by
 have r2:yY (vs++dvs) (us++ds):=r.append hd;have hl:(us++ds).length=ps.length:=by rw [<- r2.length];exact F.len _ _ _ _ h
 refine wpAny_call (codeAny_mono (F.run X.A X.stack s H ⟨us,[]⟩ (us++ds) (vs++dvs) Q E hr I.env0 (hb s us I.kIn hl) r2 h) fun r s' hq=>?_);cases r with
 | error e=>exact hx pins O H s e s' I hq | ok fl=> cases fl with
  | ret u=>exact I.after hq | next=>exact False.elim hq | brk=>exact False.elim hq | cont=>exact False.elim hq
theorem zfS (F:z4U X.prog X.w X.K X.mg X.base CX k f fd ps sp) (hr:z14 k X.A) (hg:Gl X x) (hm:X.mg x=some (.ref f)) (hk:W.keepIn X.K (.ref f)=true) (hb:Binds X.K fd ps ds) (hd:yY dvs ds) (hx:Passes CX X E) (ha:PA X (e::es) t) (hdb:(x==("__debug__":Str))=false:=by decide) (he:starEach (e::es) X.env=(false,eval e X.env)::starEach es X.env:=by rfl) (hpl:(backTo pos (starEach es X.env)).any (·.1)=false:=by rfl): PE X (.Call (.Name x p) (e::es) [] pos) (zgZ sp dvs E t):=by
 intro pins s O H Q I h;refine wpAny_Call_Name_kw (z1c I hg hm ?_ hdb);refine W.callWith_K (h₀:=X.base) I.ok.mod.kin hk (thn (ha pos pins s O H _ I h) fun us s1 ⟨vs,H1,I1,r,q⟩=>⟨I1.kIn,?_⟩) he hpl;exact zad F hr hb hd hx I1 r q
theorem zdv(F:z4U X.prog X.w X.K X.mg X.base CX k f fd ps sp)(hr:z14 k X.A)(hg:Gl X x)(hm:X.mg x=some (.ref f))(hk:W.keepIn X.K (.ref f)=true)(hb:Binds X.K fd ps ds)(hd:yY dvs ds)(hx:Passes CX X E) (hdb:(x==("__debug__":Str))=false:=by decide):PE X (.Call (.Name x p) [] [] pos) (zgZ sp dvs E zm6):=by
 intro pins s O H Q I h;refine wpAny_Call_Name_kw (z1c I hg hm ?_ hdb);exact W.callWith_K0 I.kIn hk (zad (us:=[]) F hr hb hd hx I .nil h)
end
structure zv(N P:List Str)(sc:Scope):Prop where
 kind:sc.kind=.function
 co:sc.isCoroutine=false
 gen:sc.isGenerator=false
 nd:N.Nodup
 pre:N.take P.length=P
 par:∀ x∈P,sc.names.lookup x=some .local\/sc.names.lookup x=some .cell
 nofree:∀ y∈sc.names,y.2≠.free
theorem z6T{kindOf:Str->Option NameKind}{x:Str}:∀ {binds:List (Str×Value)}{m:Str->Option Value},(∀ v,(x,v)∉binds)->bindL kindOf binds m x=m x
 | [],_,_=>rfl | (n,v)::r,m,h=>by
  unfold bindL;rw [z6T fun w hw=>h w (List.mem_cons_of_mem _ hw)];split
  ·have:x≠n:=by rintro rfl;exact h v List.mem_cons_self
   simp [this]
  ·rfl
theorem z7k{kindOf:Str->Option NameKind}{x:Str}:∀ {binds:List (Str×Value)}{m:Str->Option Value},(∀ v,(x,v)∉binds)->bindC kindOf binds m x=m x
 | [],_,_=>rfl | (n,v)::r,m,h=>by
  unfold bindC;rw [z7k fun w hw=>h w (List.mem_cons_of_mem _ hw)];split;·rfl
  ·have:x≠n:=by rintro rfl;exact h v List.mem_cons_self
   simp [this]
theorem z6W{kindOf:Str->Option NameKind}{x:Str}{v:Value}:∀ {P:List Str}{vs:List Value}{i:Nat}{m:Str->Option Value},P.Nodup->P[i]? = some x->vs[i]? = some v->kindOf x=some .local-> bindL kindOf (P.zip vs) m x=some v
 | [],_,_,_,_,h,_,_=>by simp at h | _::_,[],_,_,_,_,h,_=>by simp at h | p::P,w::vs,0,m,nd,h1,h2,hk=>by
  simp at h1 h2;subst h1;subst h2;show bindL kindOf ((p,w)::P.zip vs) m p=_;unfold bindL;rw [z6T fun v hv=>(List.nodup_cons.mp nd).1 (List.of_mem_zip hv).1,if_pos hk];simp | p::P,w::vs,i+1,m,nd,h1,h2,hk=>by
  show bindL kindOf ((p,w)::P.zip vs) m x=_;unfold bindL;exact z6W (i:=i) (List.nodup_cons.mp nd).2 (by simpa using h1) (by simpa using h2) hk
theorem z75{kindOf:Str->Option NameKind}{x:Str}{v:Value}:∀ {P:List Str}{vs:List Value}{i:Nat}{m:Str->Option Value},P.Nodup->P[i]? = some x->vs[i]? = some v->kindOf x≠some .local-> bindC kindOf (P.zip vs) m x=some v
 | [],_,_,_,_,h,_,_=>by simp at h | _::_,[],_,_,_,_,h,_=>by simp at h | p::P,w::vs,0,m,nd,h1,h2,hk=>by
  simp at h1 h2;subst h1;subst h2;show bindC kindOf ((p,w)::P.zip vs) m p=_;unfold bindC;rw [z7k fun v hv=>(List.nodup_cons.mp nd).1 (List.of_mem_zip hv).1,if_neg hk];simp | p::P,w::vs,i+1,m,nd,h1,h2,hk=>by
  show bindC kindOf ((p,w)::P.zip vs) m x=_;unfold bindC;exact z75 (i:=i) (List.nodup_cons.mp nd).2 (by simpa using h1) (by simpa using h2) hk
def start(N:List Str)(vs:List V):St:=vs.map some++List.replicate (N.length-vs.length) none
def z3l(CX:CXT)(P:Program)(w:World)(K:W.Frag)(mg:Str->Option Value)(base:Heap)(N:List Str)(qual:Str)(scope:Scope)(f:Addr)(cd:Value)(A:Around)(outer:List Env)(s:Shared)(H:Hp)(E:XK):Cx where
 prog:=P;w:=w;K:=K;mg:=mg;base:=base;A:=A.deeper (envOfC qual scope s.heap.objs.size f cd);N:=N;s₀:=s;H₀:=H;env:=envOfC qual scope s.heap.objs.size f cd;outer:=outer;stack:=envOfC qual scope s.heap.objs.size f cd::outer;ex:=[];calm:=A.handled.isNone;fn:=fun _=>true;pn:=[];xe:=fun e s'=>wpAny (model P w) (A.deeper (envOfC qual scope s.heap.objs.size f cd)) (leaving (envOfC qual scope s.heap.objs.size f cd) e) (fun _ s''=>CX outer H s E e s'') (fun e' s''=>CX outer H s E e' s'') s'
theorem z2E{sc:Scope}{n:Nat}{x:Str}(h:sc.names.lookup x=some .cell):∃ c,(cellsFrom n sc.names []).lookup x=some c:=by
 have q:=W.cellsFrom_some sc.names n [] (.inl h);exact Option.isSome_iff_exists.mp q
theorem z7r{CX:CXT}{P:Program}{w:World}{K:W.Frag}{mg:Str->Option Value}{base:Heap}{N ps:List Str}{qual:Str}{scope:Scope}{f:Addr}{cd:Value}{A:Around}{outer:List Env}{s s1:Shared}{H:Hp}{E:XK}{us:List Value}{vs:List V} (S:zv N ps scope)(e0:zig P w K mg base A outer s H)(hl:vs.length=ps.length)(r:yY vs us) (x:InCallC s s.heap.objs.size (bindL (envOfC qual scope s.heap.objs.size f cd).kindOf (ps.zip us) fun _=>none) (cellsFrom (s.heap.objs.size+1) scope.names []) (bindC (envOfC qual scope s.heap.objs.size f cd).kindOf (ps.zip us) fun _=>none) s1): Inv (z3l CX P w K mg base N qual scope f cd A outer s H E) [] (start N vs) H s1:=by
 have hpl:ps.length<=N.length:=by have:=congrArg List.length S.pre;rw [List.length_take] at this;omega
 obtain ⟨h1,tk,rfl,hk⟩:=x.done;have noA:∀ b:Addr,b∉(z3l CX P w K mg base N qual scope f cd A outer s H E).ex:=fun b z=>absurd (show b∈([]:List Addr) from z) (by simp);refine ⟨⟨e0.mod,S.kind,rfl,rfl,Nat.le_refl _,fun y z c h1 h2=>?_,fun y hy=>?_,fun y c _ h=>?_,fun h=>Option.isNone_iff_eq_none.mp h,Around.frames_deeper e0.frames,.inr ⟨rfl,rfl⟩,fun b z=>absurd z (noA b),e0.bs,e0.bsz,fun b _ _=>noA b,fun b z=>absurd z (noA b),e0.funs,e0.frf⟩, rfl,e0.bare,Un.kept hk,⟨_,x.toInCall.ns,fun i y v h1 h2 h3=>?_⟩,fun y c h=>⟨_,x.cell y c h⟩,e0.hok.fresh (Nat.le_refl _),fun y c h=>?_,fun p hp=>absurd (show p∈([]:List (Addr×Obj)) from hp) (by simp),e0.hok.kept hk,?_⟩;·exact name_of_addr x.apart (PySem.mem_of_lookup h1) (PySem.mem_of_lookup h2)
 ·have hy:scope.names.lookup y=some .cell\/scope.names.lookup y=some .free:=hy;rcases hy with hy | hy;·exact z2E hy
  ·exact absurd rfl (S.nofree _ (PySem.mem_of_lookup hy))
 ·exact Nat.le_of_lt (x.above y c (PySem.mem_of_lookup h))
 ·have hi:i<vs.length:=by
   unfold start at h2;by_cases hi:i<vs.length;·exact hi
   ·rw [List.getElem?_append_right (by simpa using hi)] at h2;rw [List.getElem?_replicate] at h2;split at h2<;>cases h2
  have ha:vs[i]? = some v:=by
   unfold start at h2;rw [List.getElem?_append_left (by simpa using hi),List.getElem?_map] at h2;cases e:vs[i]? with
   | none=>rw [e] at h2;cases h2 | some a=>rw [e] at h2;cases h2;rfl
  obtain ⟨u,hu,rv⟩:=r.get ha;have hp:ps[i]? = some y:=by rw [<- S.pre,List.getElem?_take_of_lt (by omega)];exact h1
  have ndP:ps.Nodup:=by rw [<- S.pre];exact S.nd.sublist (List.take_sublist _ _)
  refine ⟨u,rv,?_⟩;rcases S.par y (List.mem_of_getElem? hp) with k | k;·exact .inl ⟨k,z6W ndP hp hu k⟩
  ·obtain ⟨c,e⟩:=z2E (n:=s.heap.objs.size+1) k;refine .inr ⟨.inl k,c,e,?_⟩;have q:=x.cell y c e;rw [z75 ndP hp hu (by show scope.names.lookup y≠_;rw [k];decide)] at q;exact q
 ·exact e0.hok.fresh (Nat.le_of_lt (x.above y c (PySem.mem_of_lookup h)))
 ·unfold start;show _=N.length;rw [List.length_append,List.length_map,List.length_replicate];omega
theorem zhP {CX:CXT} {P:Program} {w:World} {K:W.Frag} {mg:Str->Option Value} {base:Heap} {k:Nat} {f:Addr} {name qual:Str} {params:Arguments} {body:List Stmt} {scope:Scope} {dV kV doc pm cdv ct oc:Value} {an od:Option Addr} {osl:Array (Option Value)} {N ps:List Str} {sp:Sp} (lk:K.lookup f=some ⟨oc,od,.func (W.fnOf name qual params body scope dV kV doc pm an cdv ct),osl⟩) (hcd:W.codeIn K cdv qual=true) (S:zv N ps scope) (len:∀ vs H Q E,sp vs H Q E->vs.length=ps.length) (hbody:∀ (A:Around) (outer:List Env) (s:Shared) (H:Hp) (vs:List V) (Q:VK) (E:XK),z14 k (A.deeper (envOfC qual scope s.heap.objs.size f cdv))->sp vs H Q E-> ∃ t,PSs (z3l CX P w K mg base N qual scope f cdv A outer s H E) body t/\t {nx:=fun _ H'=>Q .non H',rt:=Q} (start N vs) H): z4U P w K mg base CX (k+1) f (W.fnOf name qual params body scope dV kV doc pm an cdv ct) ps sp:=by
 refine ⟨len,fun A outer s H args us vs Q E hr e0 hb r hsp=>?_⟩;have hl:=len _ _ _ _ hsp;have KX:K.In s.heap:=e0.mod.kin.keeps fun b o e=>(e0.bs b o e).1;have lim:s.heap.NoLimit:=e0.mod.nolimit.keeps fun b o e=>(e0.bs b o e).1;have hkind:∀ y∈ps.zip us,scope.names.lookup y.1=some .local\/(scope.names.lookup y.1=some .cell/\((cellsFrom (s.heap.objs.size+1) scope.names []).lookup y.1).isSome=true):=fun ⟨n,v⟩ hy=>by
  rcases S.par n (List.of_mem_zip hy).1 with q | q;·exact .inl q
  ·exact .inr ⟨q,W.cellsFrom_some _ _ _ (.inl q)⟩
 refine codeAny_call_function hr.depth (KX _ _ lk) rfl S.co S.gen rfl (W.codeRec_of KX hcd) (hb _ _ _ _ ?_);refine wpAny_newFunctionEnv_cells S.kind hkind fun env he s1 x=>?_;subst he;refine ⟨lim.keeps x.toInCall.keep,codeAny_func ?_⟩;obtain ⟨t,ht,hq⟩:=hbody A outer s H vs Q E (hr.deeper _) hsp;have I:Inv (z3l CX P w K mg base N qual scope f cdv A outer s H E) [] (start N vs) H s1:=z7r S e0 hl r x;refine wpAny_mono (ht [] s1 (start N vs) H _ I hq) (fun fl s' hs=>?_) fun e s' hs=>hs;have fin:∀ {O':St} {H':Hp} {v:V} {u:Value},Inv (z3l CX P w K mg base N qual scope f cdv A outer s H E) [] O' H' s'->wm v u->Q v H'->CE outer P w H s Q u s':= fun {O' H' v u} J rv q=>⟨v,H',J.os,J.bare,J.base,J.hok,rv,q⟩;cases fl with
 | ret u=>
  obtain ⟨v,O',H',J,rv,q⟩:=hs;exact fin J rv q | next=>
  obtain ⟨O',H',J,q⟩:=hs;exact fin (v:=V.non) (u:=Value.none) J rfl q | brk=>
  obtain ⟨_,_,_,q⟩:=hs;exact False.elim q | cont=>
  obtain ⟨_,_,_,q⟩:=hs;exact False.elim q
section
variable {X:Cx}{x:Str}{p pos:Pos}{e:Expr}{es:List Expr}{t:TA}{id T:String}{r:List V->Hp->VK->Prop}
def tCB(r:List V->Hp->VK->Prop)(t:TA):TE:=fun O H Q=>t O H fun vs H1=>r vs H1 Q
theorem z11 (hc:wu X (.builtin id) r) (hg:Gl X x) (hm:X.mg x=none) (hv:bootBuiltins x=some (.builtin id)) (ha:PA X (e::es) t) (hn:x≠"__name__":=by decide) (hdb:(x==("__debug__":Str))=false:=by decide) (he:starEach (e::es) X.env=(false,eval e X.env)::starEach es X.env:=by rfl) (hpl:(backTo pos (starEach es X.env)).any (·.1)=false:=by rfl):PE X (.Call (.Name x p) (e::es) [] pos) (tCB r t):=by
 intro pins s O H Q I h;refine wpAny_Call_Name_kw (z1v I hg hm hv ?_ hn hdb);exact PyProof.Rows.callWith_builtin1 (thn (ha pos pins s O H _ I h) fun us s1 ⟨vs,H1,I1,r1,q1⟩=>hc pins s1 O H1 vs us Q I1 r1 q1) he hpl
theorem zbv (hc:wu X (.type T) r) (hg:Gl X x) (hm:X.mg x=none) (hv:bootBuiltins x=some (.type T)) (ha:PA X (e::es) t) (hn:x≠"__name__":=by decide) (hdb:(x==("__debug__":Str))=false:=by decide) (he:starEach (e::es) X.env=(false,eval e X.env)::starEach es X.env:=by rfl) (hpl:(backTo pos (starEach es X.env)).any (·.1)=false:=by rfl):PE X (.Call (.Name x p) (e::es) [] pos) (tCB r t):=by
 intro pins s O H Q I h;refine wpAny_Call_Name_kw (z1v I hg hm hv ?_ hn hdb);exact PyProof.Rows.callWith_type1 (thn (ha pos pins s O H _ I h) fun us s1 ⟨vs,H1,I1,r1,q1⟩=>hc pins s1 O H1 vs us Q I1 r1 q1) he hpl
end
end L2
namespace HT
def lexLt:List Int->List Int->Bool
 | [],[]=>false | [],_::_=>true | _::_,[]=>false | x::xs,y::ys=>if x=y then lexLt xs ys else decide (x<y)
section
open PySem.SeqAt
open PySem.AutoSeq1 (wpAny_loadPart')
open PySem.MeetsSeq PySem.MeetsSeq2 PySem.MeetsSeq3
end
section
variable {prog:Program}{w:World}{A:Around}{E:Value->Shared->Prop}{s:Shared}
theorem zgp {t b:Addr} {vs ws:List Value} {Q:Value->Shared->Prop} (ht:IsTup s.heap t vs.toArray) (hb:IsTup s.heap b ws.toArray) (hv:vs≠[]) (h1:ws=[]->Q (.ref t) s) (h2:ws≠[]->Q (.ref s.heap.objs.size) {s with heap:=s.heap.push {cls:=.type "tuple",data:=.seq (vs++ws).toArray}}) (hsz:vs.length+ws.length<=sizeLine):wpAny (model prog w) A (binaryOp .Add (.ref t) (.ref b)) Q E s:=by
 obtain ⟨⟨cls,dd,data,sl⟩,ho,hc,n,hd⟩:=id ht;obtain ⟨⟨cls2,dd2,data2,sl2⟩,ho2,hc2,n2,hd2⟩:=id hb;simp only at hc hd hc2 hd2;subst hc hd hc2 hd2;have e:vs.toArray++ws.toArray=(vs++ws).toArray:=by simp
 by_cases hw:ws=[]
 ·exact concat_meets ⟨_,ho,rfl⟩ ⟨_,ho2,rfl⟩ noFill_tuple_add seq_tuple_add PySem.F.slot_tuple_add PySem.F.entry_tuple_add (PySem.F.args_tuple_add_2 _ _) (tuple_addW1 t b vs.toArray ws.toArray n n2 dd dd2 sl sl2 (by simpa using hv) (by simp [hw])) ⟨ho,ho2,h1 hw⟩
 ·refine concat_meets ⟨_,ho,rfl⟩ ⟨_,ho2,rfl⟩ noFill_tuple_add seq_tuple_add PySem.F.slot_tuple_add PySem.F.entry_tuple_add (PySem.F.args_tuple_add_2 _ _) (tuple_addW2 t b vs.toArray ws.toArray n n2 dd dd2 sl sl2 (by simpa using hv) (by simpa using hw) (by rw [List.size_toArray,List.size_toArray];exact hsz)) ⟨ho,ho2,?_⟩;rw [e];exact h2 hw
def sIx(n d:Nat):Option Int->Nat
 | none=>d | some v=>if v<0 then (v+(n:Int)).toNat else min v.toNat n
theorem z9S(n d:Nat):sIx n d none=d:=rfl
theorem zcG(n d k:Nat):sIx n d (some (k:Int))=min k n:=by
 show (if (k:Int)<0 then ((k:Int)+(n:Int)).toNat else min (k:Int).toNat n)=min k n;rw [if_neg (by omega),Int.toNat_natCast]
theorem zjc(n d:Nat)(hd:d<=n)(o:Option Int):sIx n d o<=n:=by cases o with
 | none=>exact hd | some v=>
  show (if v<0 then (v+(n:Int)).toNat else min v.toNat n)<=n;by_cases hv:v<0;·rw [if_pos hv];omega
  ·rw [if_neg hv];exact Nat.min_le_right _ _
theorem zd0(v:Int)(n d:Nat):(if v<0 then max (v+(n:Int)) 0 else min v (n:Int))=((sIx n d (some v):Nat):Int):=by
 show (if v<0 then max (v+(n:Int)) 0 else min v (n:Int))=(((if v<0 then (v+(n:Int)).toNat else min v.toNat n):Nat):Int);by_cases hv:v<0;·simp only [if_pos hv];omega
 ·simp only [if_neg hv];omega
theorem zba(lo hi:Option Int)(n:Nat):Builtin.Slice.sliceAdjust lo hi 1 (n:Int)=(((sIx n 0 lo:Nat):Int),((sIx n n hi:Nat):Int)):=by
 have h1:¬ ((1:Int)<0):=by omega
 unfold Builtin.Slice.sliceAdjust;simp only [h1,if_false];refine Prod.ext ?_ ?_;·cases lo with
  | none=>rfl | some v=>exact zd0 v n 0
 ·cases hi with
  | none=>rfl | some v=>exact zd0 v n n
theorem zaT (i j:Nat):Builtin.Slice.slicePlaces (i:Int) (j:Int) 1=j-i:=by
 unfold Builtin.Slice.slicePlaces;have h1:(1:Int) > 0:=by omega
 simp only [h1,if_true,Int.ediv_one];split<;>omega
theorem z51{v:Value}{o:Option Int}{Q:Option Int->Shared->Prop}(p:IsPart v o)(h:Q o s):wpAny (model prog w) A (Builtin.Slice.slicePartIndex v) Q E s:=by cases p with
 | none=>exact slicePart_none h | int i t=>exact slicePart_int h
theorem jv{sl:Addr}{vl vu:Value}{lo hi:Option Int}{n:Nat}{Q:Int×Int×Nat->Shared->Prop}(hs:s.heap.IsSliceOf sl vl vu .none)(pl:IsPart vl lo)(pu:IsPart vu hi) (h:Q (((sIx n 0 lo:Nat):Int),1,sIx n n hi-sIx n 0 lo) s):wpAny (model prog w) A (Builtin.Slice.sliceApplied (.ref sl) (pure (n:Int))) Q E s:=by
 obtain ⟨os,hos,hcs,hds⟩:=id hs;unfold Builtin.Slice.sliceApplied Builtin.Slice.sliceFields;refine wpAny_bind (wpAny_bind (wpAny_field hos hds (x:=vl) rfl (wpAny_bind (wpAny_field hos hds (x:=vu) rfl (wpAny_bind (wpAny_field hos hds (x:=.none) rfl (wpAny_pure ?_)))))));refine wpAny_bind (slicePart_none ?_);show wpAny _ _ (if ((1:Int)==0)=true then _ else _) _ _ s;rw [if_neg (by decide)];refine wpAny_bind (z51 pl (wpAny_bind (z51 pu (wpAny_bind (wpAny_pure ?_)))));show wpAny _ _ (match Builtin.Slice.sliceAdjust lo hi 1 (n:Int) with | (lo,hi)=>pure (lo,(1:Int),Builtin.Slice.slicePlaces lo hi 1)) _ _ s;rw [zba lo hi n];show wpAny _ _ (pure (((sIx n 0 lo:Nat):Int),(1:Int),Builtin.Slice.slicePlaces ((sIx n 0 lo:Nat):Int) ((sIx n n hi:Nat):Int) 1)) _ _ s;rw [zaT];exact wpAny_pure h
theorem zej(xs:Array Value)(i k:Nat):((List.range k).filterMap fun (m:Nat)=>xs[((i:Int)+(m:Int)*1).toNat]?).toArray=((xs.toList.drop i).take k).toArray:=by
 have e:(fun (m:Nat)=>xs[((i:Int)+(m:Int)*1).toNat]?)=fun m=>xs[i+m]? := by
  funext m;have:((i:Int)+(m:Int)*1).toNat=i+m:=by omega
  rw [this]
 rw [e];have:=pick_run xs i k;rw [List.filterMap_map] at this;have e2:((fun x=>xs[x]?) ∘ fun x=>i+x)=fun m=>xs[i+m]? := rfl;rw [e2] at this;rw [this]
theorem z1g {t sl:Addr} {items:Array Value} {vl vu:Value} {lo hi:Option Int} {Q:Value->Shared->Prop} (ht:IsTup s.heap t items) (hs:s.heap.IsSliceOf sl vl vu .none) (pl:IsPart vl lo) (pu:IsPart vu hi) (hw:¬ (sIx items.size 0 lo=0/\sIx items.size items.size hi=items.size)) (h:Q (.ref s.heap.objs.size) {s with heap:=s.heap.push {cls:=.type "tuple",data:=.seq ((items.toList.drop (sIx items.size 0 lo)).take (sIx items.size items.size hi-sIx items.size 0 lo)).toArray}}) (hsz:items.size<=sizeLine):wpAny (model prog w) A (getItem (.ref t) (.ref sl)) Q E s:=by
 have htake:sizeOk (.seq ((items.toList.drop (sIx items.size 0 lo)).take (sIx items.size items.size hi-sIx items.size 0 lo)).toArray):=by
  show ((items.toList.drop (sIx items.size 0 lo)).take (sIx items.size items.size hi-sIx items.size 0 lo)).toArray.size<=sizeLine;rw [List.size_toArray,List.length_take,List.length_drop,Array.length_toList];omega
 have hj:sIx items.size items.size hi<=items.size:=zjc _ _ (Nat.le_refl _) hi;obtain ⟨os,hos,hcs,hds⟩:=id hs;have hTs:s.TypeIs (.ref sl) "slice":=⟨os,hos,hcs⟩;unfold getItem;try with_reducible refine wpAny_holding ?_
 first | refine wpAny_bind (wpAny_pure ?_) | skip
 refine wpAny_bind (wpAny_sequenceKey ht.typeIs (by decide) ?_);refine wpAny_bind (wpAny_callSpecial?_slot (name:=Str.ofString "__getitem__") ht.typeIs PyProof.Rows.slot_tuple_getitem (wpAny_call_entry PyProof.Rows.slot_tuple_getitem ht.typeIs entry_tuple_getitem ?_ (args_tuple_getitem _ _)));show wpAny _ _ (Builtin.Tuple.tupleItemsOf (.ref t) >>= _) _ _ s;refine wpAny_bind (tupleItemsOf_ ht ?_);refine wpAny_bind (wpAny_typeOf hTs ?_);rw [if_pos (by decide)];refine wpAny_bind (jv hs pl pu ?_);have hno:¬ ((((sIx items.size 0 lo:Nat):Int)==0&&(1:Int)==1&&(sIx items.size items.size hi-sIx items.size 0 lo)==items.size)=true):=by
  intro q;rw [Bool.and_eq_true,Bool.and_eq_true] at q;have q1:((sIx items.size 0 lo:Nat):Int)=0:=eq_of_beq q.1.1;have q2:sIx items.size items.size hi-sIx items.size 0 lo=items.size:=eq_of_beq q.2;exact hw ⟨by omega,by omega⟩
 show wpAny _ _ (if (((sIx items.size 0 lo:Nat):Int)==0&&(1:Int)==1&&(sIx items.size items.size hi-sIx items.size 0 lo)==items.size)=true then _ else _) _ _ s;rw [if_neg hno,zej];first
  | exact wpAny_bind (m:=Builtin.Tuple.tupleExact _) (wpAny_newObj_type (wpAny_pure ⟨_,rfl,wpAny_pure h⟩) htake) | exact wpAny_bind (m:=Builtin.Tuple.tupleExact _) (wpAny_newObj_type (wpAny_bind (wpAny_pure (wpAny_pure ⟨_,rfl,wpAny_pure h⟩))) htake) | exact wpAny_bind (wpAny_bind (m:=Builtin.Tuple.tupleExact _) (wpAny_newObj_type (wpAny_pure (wpAny_pure ⟨_,rfl,wpAny_pure h⟩)) htake)) | exact wpAny_bind (wpAny_bind (m:=Builtin.Tuple.tupleExact _) (wpAny_newObj_type (wpAny_pure ⟨_,rfl,wpAny_pure h⟩) htake))
end
end HT
namespace L2
open PySem.Spec
abbrev TO:=St->Hp->(Option Int->Hp->Prop)->Prop
def PO(X:Cx)(e:Option Expr)(t:TO):Prop:= ∀ (pins:List (Addr×Obj))(s:Shared)(O:St)(H:Hp)(Q:Option Int->Hp->Prop),Inv X pins O H s->t O H Q-> wpAny (model X.prog X.w) X.A (evalPart e X.env) (fun u s'=>∃ o H',Inv X pins O H' s'/\IsPart u o/\Q o H') X.xe s
def zhc:TO:=fun _ H Q=>Q none H
def zlj(t:TE):TO:=fun O H Q=>t O H fun x H1=>∃ i,x=.int i/\Q (some i) H1
section
variable {X:Cx}{e:Expr}{te:TE}{lo hi:Option Expr}{tl th:TO}{pos p2:Pos}
theorem zcJ:PO X none zhc:=by
 intro pins s O H Q I h;rw [evalPart_none];exact wpAny_pure ⟨none,H,I,.none,h⟩
theorem zfR(h:PE X e te):PO X (some e) (zlj te):=by
 intro pins s O H Q I hw;rw [evalPart_some];refine thn (h pins s O H _ I hw) fun u s1 ⟨x,H1,I1,r1,q1⟩=>?_;obtain ⟨i,rfl,q⟩:=q1;obtain ⟨t,rfl⟩:=r1;exact ⟨some i,H1,I1,.int i t,q⟩
def SlR(X:Cx)(r:V->Option Int->Option Int->Hp->VK->Prop):Prop:= ∀ (pins:List (Addr×Obj))(s:Shared)(O:St)(H:Hp)(x:V)(v vl vu:Value)(lo hi:Option Int)(sl:Addr)(Q:VK),Inv X pins O H s->wm x v->s.heap.IsSliceOf sl vl vu .none->IsPart vl lo->IsPart vu hi->r x lo hi H Q-> ∃ T id,typeLookup (.type T) "__getitem__"=pure (some (.builtin id))/\s.TypeIs v T/\wpAny (model X.prog X.w) X.A (getItem v (.ref sl)) (EP X pins O Q) X.xe s
theorem SlR.or{r r':V->Option Int->Option Int->Hp->VK->Prop}(h:SlR X r)(h':SlR X r'):SlR X (fun x lo hi H Q=>r x lo hi H Q\/r' x lo hi H Q):=by
 intro pins s O H x v vl vu lo hi sl Q I rx hs pl pu q;rcases q with q | q;·exact h pins s O H x v vl vu lo hi sl Q I rx hs pl pu q
 ·exact h' pins s O H x v vl vu lo hi sl Q I rx hs pl pu q
def tSl(r:V->Option Int->Option Int->Hp->VK->Prop)(te:TE)(tl th:TO):TE:=fun O H Q=>te O H fun x H1=>tl O H1 fun l H2=>th O H2 fun u H3=>r x l u H3 Q
theorem z9t{r:V->Option Int->Option Int->Hp->VK->Prop}(hr:SlR X r)(he:PE X e te)(hl:PO X lo tl)(hu:PO X hi th):PE X (.Subscript e (.Slice lo hi none p2) pos) (tSl r te tl th):=by
 intro pins s O H Q I h;refine Subscript_ (thn (he pins s O H _ I h) fun v s1 ⟨x,H1,I1,r1,q1⟩=>?_);refine wpAny_Slice (thn (hl pins s1 O H1 _ I1 q1) fun vl s2 ⟨l,H2,I2,pl,q2⟩=>thn (hu pins s2 O H2 _ I2 q2) fun vu s3 ⟨u,H3,I3,pu,q3⟩=>?_);rw [evalPart_none];refine wpAny_pure ?_;have I4:Inv X pins O H3 {s3 with heap:=s3.heap.push {cls:=.type "slice",data:=.fields #[vl,vu,.none]}}:=I3.kept (t':=s3.toks) fun b ob q=>Heap.get?_push_of_some _ q;obtain ⟨T,id,hT,ht,hg⟩:=hr pins {s3 with heap:=s3.heap.push {cls:=.type "slice",data:=.fields #[vl,vu,.none]}} O H3 x v vl vu l u s3.heap.objs.size Q I4 r1 (Heap.IsSliceOf.new ..) pl pu q3;show wpAny (model X.prog X.w) X.A (subscriptTail e (.Slice lo hi none p2) v (.ref s3.heap.objs.size)) (EP X pins O Q) X.xe {s3 with heap:=s3.heap.push {cls:=.type "slice",data:=.fields #[vl,vu,.none]}};exact tail_any (ops:=[.ref s3.heap.objs.size,v]) ht hT hg (by with_unfolding_all rfl)
def zfj(xs:List V)(lo hi:Option Int):List V:=(xs.drop (HT.sIx xs.length 0 lo)).take (HT.sIx xs.length xs.length hi-HT.sIx xs.length 0 lo)
theorem z3J(xs:List V)(lo hi:Option Int):(zfj xs lo hi).length<=xs.length:=by
 unfold zfj;rw [List.length_take,List.length_drop];omega
def zmx(K:W.Frag):V->Option Int->Option Int->Hp->VK->Prop:=fun x lo hi H Q=>∃ a xs,x=.ref a/\SqT K H a xs/\ ¬ (HT.sIx xs.length 0 lo=0/\HT.sIx xs.length xs.length hi=xs.length)/\∀ p,H p=none->Q (.ref p) (upd H p (.tup (zfj xs lo hi)))
theorem zhL:SlR X (zmx X.K):=by
 intro pins s O H x v vl vu lo hi sl Q I rx hs pl pu h;obtain ⟨a,xs,rfl,hx,hw,q⟩:=h;cases rx;obtain ⟨its,r,ht,hz⟩:=I.tuple hx;have hlen:its.toArray.size=xs.length:=by rw [List.size_toArray];exact r.length.symm
 refine ⟨"tuple",_,PyProof.Rows.slot_tuple_getitem.lookup,ht.typeIs,?_⟩;refine HT.z1g ht hs pl pu (by rw [hlen];exact hw) ?_ (by rw [hlen];exact hz);rw [hlen];refine ⟨.ref s.heap.objs.size,_,I.laid (t':=s.toks) (o:=.tup (zfj xs lo hi)) (fun b ob q=>Heap.get?_push_of_some _ q) (Nat.le_refl _) ?_,rfl,q _ (I.hok.fresh (Nat.le_refl _))⟩;exact ⟨Nat.le_trans (z3J xs lo hi) hz,_,(r.drop (HT.sIx xs.length 0 lo)).take (HT.sIx xs.length xs.length hi-HT.sIx xs.length 0 lo),zbb.new _ _⟩
def zkX(K:W.Frag):R2:=fun x y H Q=>∃ a b xs ys,x=.ref a/\y=.ref b/\SqT K H a xs/\SqT K H b ys/\xs≠[]/\xs.length+ys.length<=sizeLine/\ (ys=[]->Q (.ref a) H)/\(ys≠[]->∀ p,H p=none->Q (.ref p) (upd H p (.tup (xs++ys))))
theorem yY.nil_iff{xs:List V}{us:List Value}(r:yY xs us):us=[] ↔ xs=[]:=by cases r with
 | nil=>simp | cons _ _=>simp
theorem zfO:OpR X (binaryOp .Add) (zkX X.K):=by
 intro pins s O H x y v u Q I rx ry h;obtain ⟨a,b,xs,ys,rfl,rfl,ha,hb,hx,hz,q1,q2⟩:=h;cases rx;cases ry;obtain ⟨its,r1,p1,_⟩:=I.tuple ha;obtain ⟨its2,r2,p2,_⟩:=I.tuple hb;refine HT.zgp p1 p2 (fun z=>hx (r1.nil_iff.mp z)) (fun z=>⟨.ref a,H,I,rfl,q1 (r2.nil_iff.mp z)⟩) (fun z=>?_) (by rw [<- r1.length,<- r2.length];exact hz);refine ⟨.ref s.heap.objs.size,_,I.laid (t':=s.toks) (o:=.tup (xs++ys)) (fun b ob q=>Heap.get?_push_of_some _ q) (Nat.le_refl _) ?_,rfl,q2 (fun w=>z (r2.nil_iff.mpr w)) _ (I.hok.fresh (Nat.le_refl _))⟩;exact ⟨by rw [List.length_append];exact hz,_,r1.append r2,zbb.new _ _⟩
end
def ixN(n:Nat)(i:Int):Option Nat:=if 0<=i then (if i<n then some i.toNat else none) else if -(n:Int)<=i then some (i+n).toNat else none
def atI{α:Type}(xs:List α)(i:Int):Option α:=(ixN xs.length i).bind fun j=>xs[j]?
theorem zbE{n:Nat}{i:Int}{j:Nat}(h:ixN n i=some j):seqIndex? i n=some j/\j<n/\-(n:Int)<=i/\i<n:=by
 unfold ixN at h;by_cases h0:0<=i
 ·rw [if_pos h0] at h;by_cases h1:i<n
  ·rw [if_pos h1] at h;have e:i.toNat=j:=Option.some.inj h;exact ⟨by rw [seqIndex_of h0 h1,e],by omega,by omega,h1⟩
  ·rw [if_neg h1] at h;cases h
 ·rw [if_neg h0] at h;by_cases h1:-(n:Int)<=i
  ·rw [if_pos h1] at h;have e:(i+n).toNat=j:=Option.some.inj h;exact ⟨by rw [seqIndex_neg (by omega) h1,e],by omega,h1,by omega⟩
  ·rw [if_neg h1] at h;cases h
theorem zdb{α:Type}{xs:List α}{i:Int}{v:α}(h:atI xs i=some v):∃ j,seqIndex? i xs.length=some j/\xs[j]? = some v/\j<xs.length/\-(xs.length:Int)<=i/\i<xs.length:=by
 unfold atI at h;cases e:ixN xs.length i with
 | none=>rw [e] at h;cases h | some j=>
  rw [e] at h;obtain ⟨h1,h2,h3,h4⟩:=zbE e;exact ⟨j,h1,h,h2,h3,h4⟩
def z8i(b:Expr):Prop:=∀ o i,subscripted b false o i=operate [o,i] (getItem o i)
def IxR(X:Cx)(r:R2):Prop:= ∀ (value slice:Expr)(pins:List (Addr×Obj))(s:Shared)(O:St)(H:Hp)(x y:V)(v u:Value)(Q:VK),Inv X pins O H s->wm x v->wm y u->r x y H Q-> subscripted slice false v u=operate [v,u] (getItem v u)->wpAny (model X.prog X.w) X.A (subscriptTail value slice v u) (EP X pins O Q) X.xe s
def MtR (X:Cx) (id:String) (r:V->List V->Hp->VK->Prop):Prop:= ∀ (pins:List (Addr×Obj)) (s:Shared) (O:St) (H:Hp) (x:V) (xs:List V) (v:Value) (us:List Value) (Q:VK),Inv X pins O H s->wm x v->yY xs us->r x xs H Q-> wpAny (model X.prog X.w) X.A (call (.builtin id) (v::us)) (EP X pins O Q) X.xe s
section
variable {X:Cx}{a b:Expr}{ta tb:TE}{pos:Pos}
theorem IxR.or{r r':R2}(h:IxR X r)(h':IxR X r'):IxR X (fun x y H Q=>r x y H Q\/r' x y H Q):=by
 intro value slice pins s O H x y v u Q I rx ry q hs;rcases q with q | q;·exact h value slice pins s O H x y v u Q I rx ry q hs
 ·exact h' value slice pins s O H x y v u Q I rx ry q hs
theorem zju{r:R2}(hr:IxR X r)(ha:PE X a ta)(hb:PE X b tb)(hs:z8i b):PE X (.Subscript a b pos) (tOp r ta tb):=by
 intro pins s O H Q I h;exact Subscript_ (zkm ha hb I h fun v u s2 x y H2 I2 rx ry q=>hr a b pins s2 O H2 x y v u Q I2 rx ry q (hs _ _))
def zmR(K:W.Frag):R2:=fun x y H Q=>∃ p xs i v,x=.ref p/\y=.int i/\SqL K H p xs/\atI xs i=some v/\Q v H
def zmg(K:W.Frag):R2:=fun x y H Q=>∃ p xs i v,x=.ref p/\y=.int i/\SqT K H p xs/\atI xs i=some v/\Q v H
theorem zfL:IxR X (zmR X.K):=by
 intro value slice pins s O H x y v u Q I rx ry h hs;obtain ⟨p,xs,i,z,rfl,rfl,hq,he,q⟩:=h;cases rx;obtain ⟨t,rfl⟩:=ry;obtain ⟨its,r,pl,hz⟩:=I.list hq;obtain ⟨j,h1,h2,h3,h4,h5⟩:=zdb he;obtain ⟨w,ew,rw'⟩:=r.get h2;have hl:=r.length;have hn:=z9M;have fin:EP X pins O Q w s:=⟨z,H,I,rw',q⟩;by_cases h0:0<=i
 ·have hj:i.toNat=j:=by
   rw [seqIndex_of h0 h5] at h1;exact Option.some.inj h1
  exact item_listR pl.isList h0 (by omega) (by rw [hj];simpa using ew) fin hs
 ·have hj:(i+(its.toArray.size:Int)).toNat=j:=by
   rw [seqIndex_neg (by omega) h4] at h1;rw [List.size_toArray,<- hl];exact Option.some.inj h1
  exact subscriptTail_builtinR (x:=w) pl.isList.typeIs slot_list_getitem.lookup (wpAny_getItem_list_neg (Q:=fun r s'=>r=w/\EP X pins O Q r s') pl.isList (by omega) (by rw [List.size_toArray]<;>omega) (by omega) (by rw [hj];simpa using ew) ⟨rfl,fin⟩) hs
theorem zi0:IxR X (zmg X.K):=by
 intro value slice pins s O H x y v u Q I rx ry h hs;obtain ⟨p,xs,i,z,rfl,rfl,hq,he,q⟩:=h;cases rx;obtain ⟨t,rfl⟩:=ry;obtain ⟨its,r,pl,hz⟩:=I.tuple hq;obtain ⟨j,h1,h2,h3,h4,h5⟩:=zdb he;obtain ⟨w,ew,rw'⟩:=r.get h2;have hl:=r.length;have hn:=z9M;have fin:EP X pins O Q w s:=⟨z,H,I,rw',q⟩;exact subscriptTail_builtinR (x:=w) pl.typeIs slot_tuple_getitem.lookup (getItem_tuple (j:=j) (Q:=fun r s'=>r=w/\EP X pins O Q r s') pl (by omega) (by omega) (by rw [List.size_toArray,<- hl];exact h1) (by simpa using ew) ⟨rfl,fin⟩) hs
theorem zaA (its:List Value) (n j:Nat) (u:Value):Obj.mapSeq (·.setIfInBounds j u) {cls:=.type "list",data:=.seq its.toArray n}={cls:=.type "list",data:=.seq (its.set j u).toArray n}:=by simp [Obj.mapSeq]
theorem Inv.lst{pins:List (Addr×Obj)}{O:St}{H:Hp}{s:Shared}{p:Addr}{xs:List V}(I:Inv X pins O H s)(h:H p=some (.lst xs)): ∃ (its:List Value)(n:Nat),yY xs its/\s.heap.get? p=some {cls:=.type "list",data:=.seq its.toArray n}/\xs.length<=sizeLine:=by
 obtain ⟨z,its,n,r,e⟩:=I.hok p _ h;exact ⟨its,n,r,e,z⟩
theorem Inv.lstUpd {pins:List (Addr×Obj)} {O:St} {H:Hp} {s:Shared} {p:Addr} {xs ys:List V} {its its':List Value} {n n':Nat} {f:Obj->Obj} (I:Inv X pins O H s) (h:H p=some (.lst xs)) (ho:s.heap.get? p=some {cls:=.type "list",data:=.seq its.toArray n}) (hf:f {cls:=.type "list",data:=.seq its.toArray n}={cls:=.type "list",data:=.seq its'.toArray n'}) (r:yY ys its') (hz:ys.length<=sizeLine) (t:Nat): Inv X pins O (upd H p (.lst ys)) {s with heap:=s.heap.update p f,toks:=t}:=by
 have e:(s.heap.update p f).get? p=some {cls:=.type "list",data:=.seq its'.toArray n'}:=by rw [Heap.get?_update_self f ho (by rw [hf]<;>rfl),hf]
 refine I.write (x:=p) (e:=p) (by rw [h];trivial) (.inl rfl) (fun b u hb q=>(Heap.get?_update_other _ _ (Ne.symm hb)).trans q) ⟨_,e⟩ ?_;exact ⟨hz,its',n',r,e⟩
def zkt:V->V->V->Hp->(Hp->Prop)->Prop:=fun o i v H Q=>∃ p xs k j,o=.ref p/\i=.int k/\H p=some (.lst xs)/\ixN xs.length k=some j/\Q (upd H p (.lst (xs.set j v)))
theorem set_list:zlV X zkt:=by
 intro pins s O H o i v ov iv u Q I ro ri rv h;obtain ⟨p,xs,k,j,rfl,rfl,hp,hj,q⟩:=h;cases ro;obtain ⟨t,rfl⟩:=ri;obtain ⟨its,n,r,ho,hz⟩:=I.lst hp;obtain ⟨h1,h2,h3,h4⟩:=zbE hj;have hl:=r.length;have hn:=z9M;have I':Inv X pins O (upd H p (.lst (xs.set j v))) {s with heap:=s.heap.update p (Obj.mapSeq (·.setIfInBounds j u))}:= I.lstUpd hp ho (zaA its n j u) (r.set rv j) (by rw [List.length_set];exact hz) s.toks;by_cases h0:0<=k
 ·have hk:k.toNat=j:=by
   rw [seqIndex_of h0 h4] at h1;exact Option.some.inj h1
  exact W.ki_setAt ho h0 (by omega) (by rw [List.size_toArray,<- hl];exact h4) (by rw [hk];exact ⟨_,I',q⟩)
 ·have hk:(k+(its.toArray.size:Int)).toNat=j:=by
   rw [seqIndex_neg (by omega) h3] at h1;rw [List.size_toArray,<- hl];exact Option.some.inj h1
  exact W.ki_setBack ho (by omega) (by rw [List.size_toArray,<- hl];exact h3) (by omega) (by rw [hk];exact ⟨_,I',q⟩)
theorem z6K(lo hi:Option Int)(n:Nat):(sliceBounds lo hi none n).1=((HT.sIx n 0 lo:Nat):Int)/\(sliceBounds lo hi none n).2.1=((HT.sIx n n hi:Nat):Int)/\(sliceBounds lo hi none n).2.2=1:=by
 refine ⟨?_,?_,rfl⟩;·cases lo with
  | none=>simp [sliceBounds,HT.sIx] | some i=>
   simp only [sliceBounds,HT.sIx,Option.getD_none,show (1:Int) > 0 by decide,if_true];by_cases h:i<0;·simp only [h,if_true]<;>omega
   ·simp only [h,if_false]<;>omega
 ·cases hi with
  | none=>simp [sliceBounds,HT.sIx] | some i=>
   simp only [sliceBounds,HT.sIx,Option.getD_none,show (1:Int) > 0 by decide,if_true];by_cases h:i<0;·simp only [h,if_true]<;>omega
   ·simp only [h,if_false]<;>omega
theorem z5w(its:List Value)(lo hi:Option Int):slicePick its.toArray lo hi none=((its.drop (HT.sIx its.length 0 lo)).take (HT.sIx its.length its.length hi-HT.sIx its.length 0 lo)).toArray:=by
 obtain ⟨h1,h2,h3⟩:=z6K lo hi its.toArray.size;unfold slicePick;rw [h1,h2,h3];simp only [sliceRange_one,pick_run,List.size_toArray]<;>rfl
def zmS(K:W.Frag):V->Option Int->Option Int->Hp->VK->Prop:=fun x lo hi H Q=>∃ a xs,x=.ref a/\SqL K H a xs/\∀ p,H p=none->Q (.ref p) (upd H p (.lst (zfj xs lo hi)))
theorem zgC:SlR X (zmS X.K):=by
 intro pins s O H x v vl vu lo hi sl Q I rx hs pl pu h;obtain ⟨a,xs,rfl,hx,q⟩:=h;cases rx;obtain ⟨its,r,ht,hz⟩:=I.list hx;have hlen:=r.length;refine ⟨"list",_,slot_list_getitem.lookup,ht.isList.typeIs,?_⟩;refine wpAny_getItem_list_slice ht.isList hs pl pu .none (by simp) ?_ (by rw [List.size_toArray]<;>omega);rw [z5w,<- hlen];refine ⟨.ref s.heap.objs.size,_,I.laid (t':=s.toks) (o:=.lst (zfj xs lo hi)) (fun b ob q=>Heap.get?_push_of_some _ q) (Nat.le_refl _) ?_,rfl,q _ (I.hok.fresh (Nat.le_refl _))⟩;exact ⟨Nat.le_trans (z3J xs lo hi) hz,_,0,(r.drop (HT.sIx xs.length 0 lo)).take (HT.sIx xs.length xs.length hi-HT.sIx xs.length 0 lo),Heap.get?_push_size _ rfl⟩
def z4a:V->Bool
 | .non=>true | .bl _=>true | .int _=>true | .str _=>true | _=>false
def eqV:V->V->Bool
 | .non,.non=>true | .bl a,.bl b=>a==b | .bl a,.int b=>(if a then 1 else 0)==b | .int a,.bl b=>a==(if b then 1 else 0) | .int a,.int b=>a==b | .str a,.str b=>a==b | _,_=>false
theorem zjz{A:Around}{s:Shared}{y x:V}{u v:Value}(ry:wm y u)(rx:wm x v)(fy:z4a y=true)(fx:z4a x=true):SeqAt.EqAt A s u v (eqV y x):=by cases y with
 | non=>
  cases ry;cases x with
  | non=>cases rx;exact SeqAt.EqAt.same _ | bl b=>cases rx;exact SeqAt.EqAt.none_bool b | int b=>obtain ⟨t,rfl⟩:=rx;exact SeqAt.EqAt.none_int b t | str b=>obtain ⟨t,rfl⟩:=rx;exact SeqAt.EqAt.none_str b t | _=>exact absurd (show false=true from fx) Bool.false_ne_true
 | bl a=>
  cases ry;cases x with
  | non=>cases rx;exact SeqAt.EqAt.bool_none a | bl b=>cases rx;exact SeqAt.EqAt.bool_bool a b | int b=>obtain ⟨t,rfl⟩:=rx;exact SeqAt.EqAt.bool_int a b t | str b=>obtain ⟨t,rfl⟩:=rx;exact SeqAt.EqAt.bool_str a b t | _=>exact absurd (show false=true from fx) Bool.false_ne_true
 | int a=>
  obtain ⟨t',rfl⟩:=ry;cases x with
  | non=>cases rx;exact SeqAt.EqAt.int_none a t' | bl b=>cases rx;exact SeqAt.EqAt.int_bool a t' b | int b=>obtain ⟨t,rfl⟩:=rx;exact SeqAt.EqAt.int_int a t' b t | str b=>obtain ⟨t,rfl⟩:=rx;exact SeqAt.EqAt.int_str a t' b t | _=>exact absurd (show false=true from fx) Bool.false_ne_true
 | str a=>
  obtain ⟨t',rfl⟩:=ry;cases x with
  | non=>cases rx;exact SeqAt.EqAt.str_none a t' | bl b=>cases rx;exact SeqAt.EqAt.str_bool a t' b | int b=>obtain ⟨t,rfl⟩:=rx;exact SeqAt.EqAt.str_int a t' b t | str b=>obtain ⟨t,rfl⟩:=rx;exact SeqAt.EqAt.str_str a t' b t | _=>exact absurd (show false=true from fx) Bool.false_ne_true
 | _=>exact absurd (show false=true from fy) Bool.false_ne_true
def eqU(x:V)(u:Value):Bool:=match u with
 | .none=>eqV .non x | .bool b=>eqV (.bl b) x | .int i _=>eqV (.int i) x | .str z _=>eqV (.str z) x | _=>false
theorem zfi{x y:V}{u:Value}(r:wm y u)(f:z4a y=true):eqU x u=eqV y x:=by cases y with
 | non=>cases r;rfl | bl b=>cases r;rfl | int i=>obtain ⟨t,rfl⟩:=r;rfl | str z=>obtain ⟨t,rfl⟩:=r;rfl | _=>exact absurd (show false=true from f) Bool.false_ne_true
theorem z3g{x:V}:∀ {xs:List V}{us:List Value},yY xs us->xs.all z4a=true->us.any (eqU x)=xs.any fun y=>eqV y x
 | _,_,.nil,_=>rfl | y::xs,u::us,.cons r t,f=>by
  rw [List.all_cons,Bool.and_eq_true] at f;rw [List.any_cons,List.any_cons,zfi r f.1,z3g t f.2]
theorem z0Z{A:Around}{s:Shared}{x:V}{v:Value}(rx:wm x v)(fx:z4a x=true):∀ {xs:List V}{us:List Value},yY xs us->xs.all z4a=true->∀ u∈us,SeqAt.EqAt A s u v (eqU x u)
 | _,_,.nil,_=>fun u hu=>by cases hu | y::xs,u::us,.cons r t,f=>fun u' hu=>by
  rw [List.all_cons,Bool.and_eq_true] at f;rcases List.mem_cons.mp hu with rfl | hu;·rw [zfi r f.1];exact zjz r rx f.1 fx
  ·exact z0Z rx fx t f.2 u' hu
def inV(x:V)(xs:List V):Bool:=xs.any fun y=>eqV y x
def rIn(K:W.Frag)(neg:Bool):R2:=fun x y H Q=>∃ p xs,y=.ref p/\(SqL K H p xs\/SqT K H p xs)/\z4a x=true/\xs.all z4a=true/\Q (.bl (if neg then !inV x xs else inV x xs)) H
theorem zcA:OpR X (compareOp .In) (rIn X.K false):=by
 intro pins s O H x y v u Q I rx ry h;obtain ⟨p,xs,rfl,hq,fx,fs,q⟩:=h;cases ry;rcases hq with hq | hq
 ·obtain ⟨its,r,pl,hz⟩:=I.list hq;refine SeqAt.in_listAt (eqU x) pl.isList (fun w hw=>z0Z rx fx r fs w (by simpa using hw)) ⟨.bl _,H,I,rfl,?_⟩;rw [show its.toArray.any (eqU x)=its.any (eqU x) by simp,z3g r fs];exact q
 ·obtain ⟨its,r,pl,hz⟩:=I.tuple hq;refine SeqAt.in_tupleAt (eqU x) pl (fun w hw=>z0Z rx fx r fs w (by simpa using hw)) ⟨.bl _,H,I,rfl,?_⟩;rw [show its.toArray.any (eqU x)=its.any (eqU x) by simp,z3g r fs];exact q
theorem z7q:OpR X (compareOp .NotIn) (rIn X.K true):=by
 intro pins s O H x y v u Q I rx ry h;obtain ⟨p,xs,rfl,hq,fx,fs,q⟩:=h;cases ry;rcases hq with hq | hq
 ·obtain ⟨its,r,pl,hz⟩:=I.list hq;refine SeqAt.notIn_listAt (eqU x) pl.isList (fun w hw=>z0Z rx fx r fs w (by simpa using hw)) ⟨.bl _,H,I,rfl,?_⟩;rw [show its.toArray.any (eqU x)=its.any (eqU x) by simp,z3g r fs];exact q
 ·obtain ⟨its,r,pl,hz⟩:=I.tuple hq;refine SeqAt.notIn_tupleAt (eqU x) pl (fun w hw=>z0Z rx fx r fs w (by simpa using hw)) ⟨.bl _,H,I,rfl,?_⟩;rw [show its.toArray.any (eqU x)=its.any (eqU x) by simp,z3g r fs];exact q
theorem z7Q:wu X (.builtin "len") (fun xs H Q=>∃ p ys,xs=[.ref p]/\(SqL X.K H p ys\/SqT X.K H p ys)/\Q (.int ys.length) H):=by
 intro pins s O H xs us Q I r h;obtain ⟨p,ys,rfl,hq,q⟩:=h;obtain ⟨u,rfl,rx⟩:=vals1 r;cases rx;have hn:=z9M;rcases hq with hq | hq
 ·obtain ⟨its,r',pl,hz⟩:=I.list hq;have hlen:=r'.length;exact Calls.call_len_list pl.isList (by simp only [List.size_toArray]<;>omega) ⟨.int ys.length,H,I.tok _,⟨s.toks+1,by rw [List.size_toArray,hlen]⟩,q⟩
 ·obtain ⟨its,r',pl,hz⟩:=I.tuple hq;have hlen:=r'.length;exact len_tuple pl (by simp only [List.size_toArray]<;>omega) ⟨.int ys.length,H,I.tok _,⟨s.toks+1,by rw [List.size_toArray,hlen]⟩,q⟩
theorem z6S:wu X (.type "list") (fun xs H Q=>∃ p ys,xs=[.ref p]/\(SqL X.K H p ys\/SqT X.K H p ys)/\∀ l,H l=none->Q (.ref l) (upd H l (.lst ys))):=by
 intro pins s O H xs us Q I r h;obtain ⟨p,ys,rfl,hq,q⟩:=h;obtain ⟨u,rfl,rx⟩:=vals1 r;cases rx;have fin:∀ (its:List Value),yY ys its->ys.length<=sizeLine->∀ (h':Heap) (c':Nat),(∀ b o',s.heap.get? b=some o'->h'.get? b=some o')-> h'.get? s.heap.objs.size=some {cls:=.type "list",dict:=none,data:=.seq its.toArray c',slots:=#[]}->EP X pins O Q (.ref s.heap.objs.size) {s with heap:=h'}:=fun its r' hz h' c' kp e=> ⟨.ref s.heap.objs.size,_,I.laid (t':=s.toks) kp (Nat.le_refl _) (show wl X.prog X.w _ h' _ (.lst ys) from ⟨hz,its,c',r',e⟩),rfl,q _ (I.hok.fresh (Nat.le_refl _))⟩;rcases hq with hq | hq
 ·obtain ⟨its,r',pl,hz⟩:=I.list hq;have hlen:=r'.length;obtain ⟨o,ho,hc,n,hd⟩:=pl.isList;exact call_list_seq p (.inl rfl) ho hc hd (fun h' c' kp e=>fin its r' hz h' c' kp e) (by simp only [List.size_toArray]<;>omega)
 ·obtain ⟨its,r',pl,hz⟩:=I.tuple hq;have hlen:=r'.length;obtain ⟨o,ho,hc,n,hd⟩:=pl;exact call_list_seq p (.inr rfl) ho hc hd (fun h' c' kp e=>fin its r' hz h' c' kp e) (by simp only [List.size_toArray]<;>omega)
theorem z6m:wu X (.type "tuple") (fun xs H Q=>∃ p ys,xs=[.ref p]/\((SqL X.K H p ys/\∀ l,H l=none->Q (.ref l) (upd H l (.tup ys)))\/(SqT X.K H p ys/\Q (.ref p) H))):=by
 intro pins s O H xs us Q I r h;obtain ⟨p,ys,rfl,h⟩:=h;obtain ⟨u,rfl,rx⟩:=vals1 r;cases rx;rcases h with ⟨hq,q⟩ | ⟨hq,q⟩
 ·obtain ⟨its,r',pl,hz⟩:=I.list hq;have hlen:=r'.length;refine call_tuple_list pl.isList (fun h' kp=>?_) (by simp only [List.size_toArray]<;>omega);have I1:Inv X pins O H {s with heap:=h'}:=I.kept (t':=s.toks) kp;have I2:Inv X pins O (upd H h'.objs.size (.tup ys)) {s with heap:=h'.push {cls:=.type "tuple",data:=.seq its.toArray}}:= I1.laid (t':=s.toks) (fun b o e=>Heap.get?_push_of_some _ e) (Nat.le_refl _) (show wl X.prog X.w _ _ _ (.tup ys) from ⟨hz,its,r',zbb.new _ _⟩);exact ⟨.ref h'.objs.size,_,I2,rfl,q _ (I1.hok.fresh (Nat.le_refl _))⟩
 ·obtain ⟨its,r',pl,hz⟩:=I.tuple hq;exact call_tuple_same pl ⟨.ref p,H,I,rfl,q⟩
def tyV(K:W.Frag)(T:String)(x:V)(H:Hp):Prop:=match x with
 | .str _=>T="str" | .int _=>T="int" | .ref p=>(T="list"/\∃ xs,SqL K H p xs)\/(T="tuple"/\∃ o,K.lookup p=some o/\o.cls=.type "tuple"/\o.dict=none)\/ (T="dict"/\((∃ kvs,H p=some (.dK kvs))\/∃ kvs,H p=some (.dT kvs)))\/(T="set"/\∃ S n,H p=some (.set S n)) | _=>False
theorem zio{pins:List (Addr×Obj)}{O:St}{H:Hp}{s:Shared}{T:String}{x:V}{v:Value}(I:Inv X pins O H s)(r:wm x v)(ty:tyV X.K T x H): s.TypeIs v T/\∀ a,v=.ref a->∃ ob,s.heap.get? a=some ob/\ob.dict=none:=by cases x with
 | str z=>
  obtain ⟨t,rfl⟩:=r;cases (show T="str" from ty);exact ⟨typeIs_str s z t,fun _ e=>nomatch e⟩ | int i=>
  obtain ⟨t,rfl⟩:=r;cases (show T="int" from ty);exact ⟨typeIs_int s i t,fun _ e=>nomatch e⟩ | ref p=>
  cases r;rcases ty with ⟨rfl,xs,hq⟩ | ⟨rfl,o,hk,hc,hd⟩ | ⟨rfl,hk⟩ | ⟨rfl,S,n,hk⟩
  ·obtain ⟨its,_,pl,_⟩:=I.list hq;refine ⟨pl.isList.typeIs,fun a e=>?_⟩;cases e;obtain ⟨o,n,e,c,hd,_⟩:=pl;exact ⟨o,e,hd⟩
  ·refine ⟨⟨o,I.kIn p o hk,hc⟩,fun a e=>?_⟩;cases e;exact ⟨o,I.kIn _ o hk,hd⟩
  ·have z:∃ o,s.heap.get? p=some o/\o.ExactDict:=by
    rcases hk with ⟨kvs,hk⟩ | ⟨kvs,hk⟩
    ·obtain ⟨_,_,_,_,o,_,_,e,ex,_⟩:=I.hok p _ hk;exact ⟨o,e,ex⟩
    ·obtain ⟨_,_,_,_,o,_,_,e,ex,_⟩:=I.hok p _ hk;exact ⟨o,e,ex⟩
   obtain ⟨o,e,ex⟩:=z;refine ⟨⟨o,e,ex.1⟩,fun a e2=>?_⟩;cases e2;exact ⟨o,e,ex.2.1⟩
  ·obtain ⟨o,_,_,_,e,ex,_⟩:=I.hok p _ hk;refine ⟨⟨o,e,ex.1⟩,fun a e2=>?_⟩;cases e2;exact ⟨o,e,ex.2.1⟩ | _=>exact False.elim ty
def tBM(K:W.Frag)(T:String)(r:V->List V->Hp->VK->Prop)(to:TE)(t:TA):TE:=fun O H Q=>to O H fun x H1=>tyV K T x H1/\t O H1 fun xs H2=>r x xs H2 Q
variable {o e:Expr}{es:List Expr}{to:TE}{t:TA}{name:Str}{apos cpos:Pos}{T id:String}{r:V->List V->Hp->VK->Prop}
theorem zgU (pa:PlainAttrs T) (slot:Slot T name id) (hty:typeOf (.builtin id)=pure (.type "method_descriptor")) (hm:MtR X id r) (ho:PE X o to) (ha:PA X (e::es) t) (hbase:attributeBase o name X.env (eval o X.env)=eval o X.env:=by rfl) (hfew:((backTo cpos (starEach (e::es) X.env)).all (fun x=>!x.1)&&(backToKw cpos (keywordEach [] X.env)).all (fun x=>x.1.isSome) && decide ((e::es).length+([]:List Keyword).length+(if ([]:List Keyword).isEmpty then 0 else 1)<30))=true:=by rfl) (hline:(apos.endLine==cpos.line)=true:=by rfl) (hs:starEach (e::es) X.env=(false,eval e X.env)::starEach es X.env:=by rfl) (hplain:(backTo cpos (starEach es X.env)).any (·.1)=false:=by rfl): PE X (.Call (.Attribute o name apos) (e::es) [] cpos) (tBM X.K T r to t):=by
 intro pins s O H Q I h;refine wpAny_Call_method_late hbase hfew hline rfl (thn (ho pins s O H _ I h) fun v s1 ⟨x,H1,I1,r1,ty,q1⟩=>?_);obtain ⟨h1,h2⟩:=zio I1 r1 ty;refine ⟨T,id,pa,slot,hty,h1,h2,?_⟩;have hA:=ha cpos pins s1 O H1 _ I1 q1;rw [hs] at hA ⊢;refine Calls.callWith_builtin (by show (false||(backTo cpos (starEach es X.env)).any (·.1))=false;rw [hplain]<;>rfl) (Calls.evalArgs_plain ?_);exact thn hA fun us s2 ⟨vs,H2,I2,r2,q2⟩=>hm pins s2 O H2 x vs v us Q I2 r1 r2 q2
end
def MtM (X:Cx) (id:String) (r:V->List V->Hp->VK->Prop):Prop:= ∀ (pins:List (Addr×Obj)) (s:Shared) (O:St) (H:Hp) (x:V) (xs:List V) (v:Value) (us:List Value) (Q:VK),Inv X pins O H s->wm x v->yY xs us->r x xs H Q-> wpAny (model X.prog X.w) X.A (call (.builtin id) (v::us)) (EP X pins O Q) X.xe s
theorem yY.one:∀ {x:V}{us:List Value},yY [x] us->∃ u,us=[u]/\wm x u | _,_,.cons r .nil=>⟨_,rfl,r⟩
theorem yY.rep{xs:List V}{us:List Value}(h:yY xs us):∀ k:Nat,yY (List.replicate k xs).flatten (List.replicate k us).flatten
 | 0=>.nil | k+1=>by
  rw [List.replicate_succ,List.replicate_succ,List.flatten_cons,List.flatten_cons];exact yY.append h (yY.rep h k)
theorem foldl_rep(its:List Value):∀ (k:Nat)(acc:List Value), List.foldl (fun x1 x2=>x1++x2) acc.toArray (List.replicate k its.toArray)=(acc++(List.replicate k its).flatten).toArray
 | 0,acc=>by simp | k+1,acc=>by
  have e:acc.toArray++its.toArray=(acc++its).toArray:=by simp
  have e2:(acc++its)++(List.replicate k its).flatten=acc++(List.replicate (k+1) its).flatten:=by rw [List.replicate_succ,List.flatten_cons,List.append_assoc]
  rw [<- e2,<- foldl_rep its k (acc++its),<- e,List.replicate_succ,List.foldl_cons]
section
variable {X:Cx}{pins:List (Addr×Obj)}{O:St}{H:Hp}{s:Shared}{l b:Addr}{xs ys zs:List V}
theorem Inv.lset {its its':List Value} {n:Nat} {f:Array Value->Array Value} {t':Nat} (I:Inv X pins O H s) (hH:H l=some (.lst xs)) (e:s.heap.get? l=some {cls:=.type "list",data:=.seq its.toArray n}) (hf:f its.toArray=its'.toArray) (hv:yY ys its') (hz:ys.length<=sizeLine): Inv X pins O (upd H l (.lst ys)) {s with heap:=s.heap.update l (Obj.mapSeq f),toks:=t'}:=by
 have q:=PySem.IsL.update e f;rw [hf] at q;refine I.write (x:=l) (e:=l) (by rw [hH];exact trivial) (.inl rfl) (fun b' u hb hu=>(Heap.get?_update_other s.heap (Obj.mapSeq f) (Ne.symm hb)).trans hu) ⟨_,q⟩ ?_;exact ⟨hz,its',_,hv,q⟩
theorem Inv.lnew {its:List Value} {t':Nat} (I:Inv X pins O H s) (hv:yY ys its) (hz:ys.length<=sizeLine): Inv X pins O (upd H s.heap.objs.size (.lst ys)) {s with heap:=s.heap.push {cls:=.type "list",data:=.seq its.toArray},toks:=t'}:= I.laid (fun _ _ q=>Heap.get?_push_of_some _ q) (Nat.le_refl _) ⟨hz,its,0,hv,Heap.get?_push_size _ rfl⟩
theorem Inv.fresh(I:Inv X pins O H s):H s.heap.objs.size=none:=I.hok.fresh (Nat.le_refl _)
theorem Inv.lstM(I:Inv X pins O H s)(hH:H l=some (.lst xs)):xs.length<=sizeLine/\∃ (its:List Value)(n:Nat),yY xs its/\xs.length=its.length/\s.heap.get? l=some {cls:=.type "list",data:=.seq its.toArray n}:=by
 obtain ⟨z,its,n,r,e⟩:=I.hok l _ hH;exact ⟨z,its,n,r,r.length,e⟩
theorem zdA{n:Nat}(h:n<=sizeLine):Builtin.List.listTooLong n=false:=by
 unfold Builtin.List.listTooLong;exact decide_eq_false (by omega)
end
section
variable {X:Cx}
def zgR:V->List V->Hp->VK->Prop:=fun x vs H Q=>∃ l xs y,x=.ref l/\vs=[y]/\H l=some (.lst xs)/\xs.length<sizeLine/\Q .non (upd H l (.lst (xs++[y])))
theorem zcS:MtM X "list.append" zgR:=by
 intro pins s O H x vs v us Q I rx rv h;obtain ⟨l,xs,y,rfl,rfl,hH,hz,q⟩:=h;cases rx;obtain ⟨u,rfl,ru⟩:=rv.one;obtain ⟨z,its,n,r,hl,e⟩:=I.lstM hH;refine call_meets F.slot_list_append ⟨_,e,rfl⟩ F.entry_list_append (F.args_list_append_2 _ _) (PySem.list_append l its.toArray n u (by rw [List.size_toArray];omega)) ⟨e,?_⟩;refine ⟨.non,_,I.lset (its':=its++[u]) hH e (by simp) (r.append (.cons ru .nil)) ?_,rfl,q⟩;rw [List.length_append,List.length_singleton];omega
def zmZ:R2:=fun x y H Q=>∃ l k xs,x=.ref l/\y=.int k/\Rd H l (.lst xs)/\-(2 ^ 63)<=k/\k<2 ^ 63/\xs.length*k.toNat<=sizeLine/\ ∀ p,H p=none->Q (.ref p) (upd H p (.lst (List.replicate k.toNat xs).flatten))
theorem len_rep{α:Type}(xs:List α)(k:Nat):(List.replicate k xs).flatten.length=k*xs.length:=by induction k with
 | zero=>simp | succ k ih=>rw [List.replicate_succ,List.flatten_cons,List.length_append,ih,Nat.succ_mul,Nat.add_comm]
theorem zeQ:OpR X (binaryOp .Mult) zmZ:=by
 intro pins s O H x y v u Q I rx ry h;obtain ⟨l,k,xs,rfl,rfl,hH,h1,h2,hz,q⟩:=h;cases rx;obtain ⟨t,rfl⟩:=ry;obtain ⟨z,its,n,r,e⟩:=hH.ok I.hok;have hl:xs.length=its.length:=by have:=r.length;omega
 have hlen:its.toArray.size*k.toNat<=sizeLine:=by rw [List.size_toArray,<- hl];exact hz
 have hcap:¬ its.toArray.size*k.toNat > (2 ^ 63-1) / 8:=by
  have:(sizeLine:Nat)<=(2 ^ 63-1) / 8:=by decide
  omega
 have hfit:¬ (!Builtin.List.listFitsIndex k)=true:=by
  rw [fitsIndex_both h1 h2];exact Bool.false_ne_true
 have hlong:¬ Builtin.List.listTooLong (its.toArray.size*k.toNat)=true:=by
  rw [zdA hlen];exact Bool.false_ne_true
 have hnew:List.foldl (fun x1 x2=>x1++x2) #[] (List.replicate (if its.toArray.isEmpty=true then 0 else k.toNat) its.toArray)=(List.replicate k.toNat its).flatten.toArray:=by
  have f0:∀ m:Nat,List.foldl (fun x1 x2=>x1++x2) #[] (List.replicate m its.toArray)=(List.replicate m its).flatten.toArray:=fun m=>by
   have:=foldl_rep its m [];rw [List.nil_append] at this;exact this
  rw [f0];cases its with
  | nil=>simp | cons a r'=>rw [if_neg (by simp)]
 refine wpAny_binaryOp_repeat_ref (T:="list") (U:="int") (by decide) ⟨_,e,rfl⟩ (fun s'=>typeIs_int s' k t) noFill_list_mul F.fills_int_mul F.slot_int_rmul repeat_list F.slot_int_index.lookup (call_meets F.slot_int_rmul (typeIs_int s k t) F.entry_int_rmul (F.args_int_rmul_2 _ _) (int___rmul___int_list k t l its.toArray n) ⟨e,rfl,⟨_,e,rfl⟩,call_meets F.slot_list_mul ⟨_,e,rfl⟩ F.entry_list_mul (F.args_list_mul_2 _ _) (AutoListH.list___mul___list_int_3 l its.toArray n k t hfit hcap hlong) ⟨e,?_⟩⟩);rw [hnew];exact ⟨.ref _,_,I.lnew (t':=s.toks) (r.rep k.toNat) (by rw [len_rep,Nat.mul_comm];exact hz),rfl,q _ I.fresh⟩
end
end L2
namespace Att
open PySem.W PySem.Calls
theorem z2W{P:Params}{h:Heap}:∀ (ns:List Int)(vs:List Value),WellAll P h vs (ns.map WData.int)->IntsAre vs ns:=by
 intro ns;induction ns with
 | nil=>
  intro vs w;rw [List.map_nil] at w;cases w;exact .nil | cons n ns ih=>
  intro vs w;rw [List.map_cons] at w;cases w with | cons a b=>
   cases a;exact .cons _ _ (ih _ b)
theorem zc5 {l:OpenLaw} {n:Nat} (hn:l.most=some n) {P:Params} {h:Heap} {args:List WData} {vals:List Value} (hpre:l.row.toRowW.claim.pre args=true) (hwl:WellAll P h vals args): ∃ a vs ns,vals=[Value.ref a]/\args=[WData.list (ns.map WData.int)]/\h.get? a=some {cls:=.type "list",data:=.seq vs.toArray}/\IntsAre vs ns/\ns.length<=n:=by
 have hsh:WShape.hasAll [] args [.list .int]=true:=(pre_splitW hpre).1;have hc:l.pre.holds [] {args:=args}=true:=(pre_splitW hpre).2;obtain ⟨d,r,rfl,h1,h2⟩:=hasAllW_cons hsh;obtain rfl:=hasAllW_nil h2;obtain ⟨xs,rfl,h3⟩:=hasW_list h1;obtain ⟨ns,rfl⟩:=items_int h3;have hlen:ns.length<=n:=by
  unfold OpenLaw.pre at hc;have h4:(WTm.not (.lt (.lit (.int (n:Int))) (.len (.arg 0)))).holds [] {args:=[.list (ns.map .int)]}=true:=by
   have h4:=(holds_andW hc).1;rw [hn] at h4;exact h4
  have h5:=condW_of h4 (w_not (w_lt w_lit (w_len_list (w_arg rfl))));rw [List.length_map] at h5;refine Nat.le_of_not_lt fun q=>?_;have q':(n:Int)<((ns.length:Nat):Int):=by omega
  first
   | (rw [decide_eq_true q'] at h5;exact absurd h5 (by decide)) | (simp at h5;omega)
 cases hwl with | cons w1 w2=>
  cases w2;cases w1 with | list ho hall=>exact ⟨_,_,ns,rfl,rfl,ho,z2W ns _ hall,hlen⟩
theorem zbR (l:OpenLaw) (args:List WData):l.row.toRowW.claim.post args (.bool true) args=true:= postW_of (r:=l.row.toRowW) (X:=(true==true)) (show WShape.has [] (.bool true) .bool=true by first | rfl | decide | simp [WShape.has,WShape.arms,WShape.armsAll]) (show (WTm.eq .res (.lit (.bool true))).value [] {args:=args,res:=some (.bool true),after:=args}=some (.bool (true==true)) from w_eq_bool (w_res rfl) w_lit) rfl
theorem z41{l:OpenLaw}{n:Nat}{q:Program}{loose:List Str}{XP:(Str->Option Value)->Heap->Prop}{YP:World->Heap->Prop}{d:DefRec} (hn:l.most=some n)(hdf:d.params.defaults=[]) (call:∀ (w:World)(s₀ s₁:Shared)(mg mb:Str->Option Value)(fa:Addr)(o:Obj)(pm cd doc:Value)(a:Addr)(vs:List Value)(ns:List Int), Ground q loose [] XP w s₀ mg mb s₁.heap->YP w s₁.heap-> s₁.heap.get? fa=some o->o.data=.func (docDef d.name d.params d.body d.scope pm cd doc)->s₁.heap.CodeRec cd d.name->mg d.name=some (.ref fa)-> s₁.heap.get? a=some {cls:=.type "list",data:=.seq vs.toArray}->IntsAre vs ns->ns.length<=n->s₁.gens=#[]-> codeAny (model l.prog w) callerA (.call (.ref fa) ⟨[.ref a],[]⟩) (fun r s'=>r=.ok (.ret (.bool true))/\OldK s₁.heap s'.heap/\s'.os=s₁.os/\AllBare s'.gens) s₁): WalkO q loose XP YP l.row.toRowW d [] (fun f vs=>PySem.call f vs):=by
 intro w s₀ s₁ mg mb G Yy fa o pm cd doc dV kV ho hd hcd hD hmg hg args vals as hpre hlay hrd hwl hlo;obtain rfl:dV=.none:=Dflts.none hD hdf;obtain rfl:kV=.none:=Dflts.noKw hD;obtain ⟨a,vs,ns,rfl,rfl,hobj,hints,hlen⟩:=zc5 hn hpre hwl;refine enter_call (codeAny_mono (call w s₀ s₁ mg mb fa o pm cd doc a vs ns G Yy ho (fd_plain hd) hcd hmg hobj hints hlen hg) fun r s' hq=>?_);obtain ⟨rfl,h2,h3,h4⟩:=hq;exact ⟨.inl ⟨.bool true,.bool true,[],rfl,fun _=>rfl,.bool true,zbR l _,fun _=>⟨List.Pairwise.nil,fun _ hm=>(nomatch hm)⟩⟩,h2,h3,h4⟩
section
variable {prog:Program}{w:World}{A:Around}{E:Value->Shared->Prop}{s:Shared}{K:Frag}
def ledger(h:Heap)(L d:Addr):List (Addr×Obj):=(List.range h.objs.size).filterMap fun a=>if a=L\/a=d then none else (h.get? a).map fun o=>(a,o)
end
end Att
namespace L2
open PySem.Spec
theorem z7u:∀ {vs:List Value}{ns:List Int},IntsAre vs ns->yY (ns.map V.int) vs
 | _,_,.nil=>.nil | _,_,.cons n t h=>.cons ⟨t,rfl⟩ (z7u h)
def zjJ(H:Hp):Prop:=∀ b,H b=none\/∃ o xs,H b=some (.frz o (.lst xs))
theorem z9f {P:Program} {w:World} {K:W.Frag} {mg mb:Str->Option Value} {CX:CXT} {k:Nat} {fa a:Addr} {fd:FuncData} {x:Str} {sp:Sp} {s₁:Shared} {vs:List Value} {ns:List Int} (KX:K.In s₁.heap) (hns:s₁.heap.Ns mainGlobals mg) (hb:s₁.heap.Ns builtinsNs mb) (hbb:∀ x:Str,x≠"__name__"->mb x=bootBuiltins x) (hlim:s₁.heap.NoLimit) (hg:s₁.gens=#[]) (ha:s₁.heap.get? a=some {cls:=.type "list",data:=.seq vs.toArray}) (hi:IntsAre vs ns) (hl:ns.length<=sizeLine) (hr:z14 k callerA) (F:∀ base:Heap,K.In base->base.Ns mainGlobals mg->z4U P w K mg base CX k fa fd [x] sp) (hbind:∀ (s:Shared) (u:Value),BindsTo s fd ⟨[u],[]⟩ [(x,u)]) (hsp:∀ H:Hp,zjJ H->SqL K H a (ns.map V.int)->sp [.ref a] H (fun v _=>v=.bl true) fun _ _ _=>False) (hCX:∀ H e s',CX [] H s₁ (fun _ _ _=>False) e s'->False): codeAny (model P w) callerA (.call (.ref fa) ⟨[.ref a],[]⟩) (fun r s'=>r=.ok (.ret (.bool true))/\OldK s₁.heap s'.heap/\s'.os=s₁.os/\AllBare s'.gens) s₁:=by
 have rv:=z7u hi;have lenV:=hi.length;have core:∀ H:Hp,zjJ H->SqL K H a (ns.map V.int)->HOk P w H s₁.heap->(∀ b,H b≠none->b=a)->(H a≠none->K.lookup a=none)-> codeAny (model P w) callerA (.call (.ref fa) ⟨[.ref a],[]⟩) (fun r s'=>r=.ok (.ret (.bool true))/\OldK s₁.heap s'.heap/\s'.os=s₁.os/\AllBare s'.gens) s₁:=by
  intro H hO hS hok hA hK;have base_of:∀ {b:Addr} {o:Obj},s₁.heap.get? b=some o->H b=none->(zdz s₁.heap H).get? b=some o:=fun e n=>zdM e n;have noA:∀ {b:Addr} {o:Obj} {es:Array DictEntry} {ep:Nat},s₁.heap.get? b=some o->o.data=.dict es ep->H b=none:=fun {b o es ep} e d=>by cases q:H b with
   | none=>rfl | some u=>
    have e':b=a:=hA b (by rw [q];simp);subst e';rw [ha] at e;cases e;have d':Data.seq vs.toArray _=Data.dict es ep:=d;cases d'
  have nsK:∀ {b:Addr} {m:Str->Option Value},s₁.heap.Ns b m->(zdz s₁.heap H).Ns b m:=fun {b m} ⟨o,es,ep,e,d,r⟩=>⟨o,es,ep,base_of e (noA e d),d,r⟩;have hKb:K.In (zdz s₁.heap H):=fun b o e=>base_of (KX b o e) (by cases q:H b with
   | none=>rfl | some u=>
    have e':b=a:=hA b (by rw [q];simp);subst e';rw [hK (by rw [q];simp)] at e;cases e);have hM:Mod K mg (zdz s₁.heap H):=⟨hKb,nsK hns,⟨mb,nsK hb,hbb⟩,let ⟨mc,h1,h2⟩:=hlim;⟨mc,nsK h1,h2⟩⟩;have e0:zig P w K mg (zdz s₁.heap H) callerA [] s₁ H:=⟨rfl,hM,fun b o e=>zgO e,Nat.le_of_eq (zcm _ _),trivial,fun b hb=>absurd (show b∈([]:List Addr) from hb) (by simp),hok,.of_eq hg⟩;refine codeAny_mono ((F _ hKb (nsK hns)).run callerA [] s₁ H ⟨[.ref a],[]⟩ [.ref a] [.ref a] _ _ hr e0 (hbind s₁ (.ref a)) (.cons rfl .nil) (hsp H hO hS)) fun r s' h=>?_;cases r with
  | error e=>exact (hCX H e s' h).elim | ok fl=> cases fl with
   | next=>exact False.elim h | brk=>exact False.elim h | cont=>exact False.elim h | ret u=>
    obtain ⟨v,H',os,bare,un,hok',r',q⟩:=h;have q':v=.bl true:=q;subst q';obtain rfl:u=Value.bool true:=r';refine ⟨rfl,OldK.of_keep fun b o e=>?_,os,bare⟩;cases q:H b with
    | none=>exact un.keep b o e q (by intro z;exact absurd (show b∈([]:List Addr) from z) (by simp)) (by simp) | some u=>
     rcases hO b with z | ⟨ob,xs,z⟩;·rw [q] at z;cases z
     ·have z2:=un.frzs b ob _ z;obtain ⟨e1,_⟩:=hok b _ z;obtain ⟨e2,_⟩:=hok' b _ z2;rw [e] at e1;cases e1;exact e2
 cases hk:K.lookup a with
 | some o=>
  have e:=KX a o hk;rw [ha] at e;cases e;refine core (fun _=>none) (fun _=>.inl rfl) (.inr ⟨_,vs.toArray,_,hk,rfl,rfl,rfl,by rw [List.size_toArray,lenV];exact hl,by simpa using rv⟩) (fun b u z=>by have z':(none:Option HO)=some u:=z;cases z') (fun b z=>absurd rfl z) fun z=>absurd rfl z | none=>
  refine core (fun b=>if b=a then some (.frz {cls:=.type "list",data:=.seq vs.toArray} (.lst (ns.map V.int))) else none) (fun b=>?_) (.inl (.inr ⟨{cls:=.type "list",data:=.seq vs.toArray},if_pos rfl⟩)) (fun b u z=>?_) (fun b z=>?_) fun _=>hk
  ·by_cases hb:b=a;·exact .inr ⟨_,_,if_pos hb⟩
   ·exact .inl (if_neg hb)
  ·by_cases hb:b=a
   ·have z':=(if_pos hb).symm.trans z;cases z';subst hb;exact ⟨ha,by rw [List.length_map];exact hl,vs,_,rv,ha⟩
   ·have z':=(if_neg hb).symm.trans z;cases z'
  ·by_cases hb:b=a;·exact hb
   ·exact absurd (if_neg hb) z
abbrev KOf{K:W.Frag}{h:Heap}(_:K.In h):W.Frag:=K
theorem zjY{l:W.OpenLaw}{n k:Nat}{q:Program}{loose:List Str}{XP:(Str->Option Value)->Heap->Prop}{YP:World->Heap->Prop}{d:DefRec}{K:Params->W.Frag}{CX:World->CXT}{sp:World->Sp}{x:Str} (hn:l.most=some n)(hn2:n<=sizeLine)(hdf:d.params.defaults=[])(hr:z14 k callerA) (hY:∀ (w:World)(h:Heap),YP w h->(K w.params).In h) (F:∀ (w:World)(mg:Str->Option Value)(fa:Addr)(h:Heap),(K w.params).In h->h.Ns mainGlobals mg->mg d.name=some (.ref fa)-> ∃ fd:FuncData,(∀ (s:Shared)(u:Value),BindsTo s fd ⟨[u],[]⟩ [(x,u)])/\ ∀ base:Heap,(K w.params).In base->base.Ns mainGlobals mg->z4U l.prog w (K w.params) mg base (CX w) k fa fd [x] (sp w)) (hsp:∀ (w:World)(H:Hp)(a:Addr)(ns:List Int),ns.length<=n->zjJ H->SqL (K w.params) H a (ns.map V.int)->sp w [.ref a] H (fun v _=>v=.bl true) fun _ _ _=>False) (hCX:∀ (w:World)(H:Hp)(s:Shared)(e:Value)(s':Shared),CX w [] H s (fun _ _ _=>False) e s'->False): W.WalkO q loose XP YP l.row.toRowW d [] (fun f vs=>PySem.call f vs):=by
 refine Att.z41 hn hdf fun w s₀ s₁ mg mb fa o pm cd doc a vs ns G Yy ho hd hcd hmg hobj hints hlen hg=>?_;have KX:=hY w _ Yy;obtain ⟨fd,hb,hF⟩:=F w mg fa _ KX G.T.g hmg;exact z9f KX G.T.g G.T.b G.T.builtins G.T.nolimit hg hobj hints (Nat.le_trans hlen hn2) hr hF hb (fun H hO hS=>hsp w H a ns hlen hO hS) fun H e s'=>hCX w H s₁ e s'
def z1i(s:Stmt):Arguments:=match s with
 | .FunctionDef _ a _ _ _ _ _ _ _ _=>a | _=>{posonlyargs:=[],args:=[],vararg:=none,kwonlyargs:=[],kw_defaults:=[],kwarg:=none,defaults:=[]}
def vG(s:Stmt):List Stmt:=match s with
 | .FunctionDef _ _ b _ _ _ _ _ _ _=>b | _=>[]
def zg(s:Stmt):Scope:=match s with
 | .FunctionDef _ _ _ _ _ _ sc _ _ _=>sc | _=>{kind:=.function,names:=[],isGenerator:=false,isCoroutine:=false}
abbrev CX0:CXT:=fun _ _ _ _ _ _=>False
abbrev E0:XK:=fun _ _ _=>False
theorem zM{X:Cx}:Passes CX0 X E0:=fun _ _ _ _ _ _ _ h=>h.elim
structure Fun(K:W.Frag)(x qual:Str)(st:Stmt)(f:Addr)(fd:FuncData):Prop where
 ex:∃ (oc:Value)(od:Option Addr)(kV doc pm:Value)(an:Option Addr)(cdv ct:Value)(osl:Array (Option Value)), fd=W.fnOf x qual (z1i st) (vG st) (zg st) .none kV doc pm an cdv ct/\K.lookup f=some ⟨oc,od,.func fd,osl⟩/\W.codeIn K cdv qual=true
 kp:W.keepIn K (.ref f)=true
section
variable {P:Program}{w:World}{K:W.Frag}{mg:Str->Option Value}{base:Heap}
theorem Fun.ok{x qual:Str}{st:Stmt}{f:Addr}{fd:FuncData}{N ps:List Str}{k:Nat}{sp:Sp}(F:Fun K x qual st f fd)(S:zv N ps (zg st))(len:∀ vs H Q E,sp vs H Q E->vs.length=ps.length) (hbody:∀ (cdv:Value)(A:Around)(outer:List Env)(s:Shared)(H:Hp)(vs:List V)(Q:VK)(E:XK),z14 k (A.deeper (envOfC qual (zg st) s.heap.objs.size f cdv))->sp vs H Q E-> ∃ t,PSs (z3l CX0 P w K mg base N qual (zg st) f cdv A outer s H E).nox (vG st) t/\t {nx:=fun _ H'=>Q .non H',rt:=Q} (start N vs) H):z4U P w K mg base CX0 (k+1) f fd ps sp:=by
 obtain ⟨oc,od,kV,doc,pm,an,cdv,ct,osl,rfl,lk,hcd⟩:=F.ex;refine zhP lk hcd S len fun A outer s H vs Q E hr hsp=>?_;obtain ⟨t,h,q⟩:=hbody cdv A outer s H vs Q E hr hsp;exact ⟨t,h.nox,q⟩
theorem Fun.binds{x qual:Str}{st:Stmt}{f:Addr}{fd:FuncData}{ps:List Str}(F:Fun K x qual st f fd) (h:∀ (kV doc pm:Value)(an:Option Addr)(cdv ct:Value)(us:List Value),us.length=ps.length->bindArgs (W.fnOf x qual (z1i st) (vG st) (zg st) .none kV doc pm an cdv ct) ⟨us,[]⟩=pure (ps.zip us)):Binds K fd ps []:=by
 obtain ⟨oc,od,kV,doc,pm,an,cdv,ct,osl,rfl,lk,hcd⟩:=F.ex;exact .all (h kV doc pm an cdv ct)
theorem zjE{x qual:Str}{st:Stmt}{f:Addr}{oc:Value}{od an:Option Addr}{osl:Array (Option Value)}{kV doc pm cdv ct:Value}(l:K.lookup f=some ⟨oc,od,.func (W.fnOf x qual (z1i st) (vG st) (zg st) .none kV doc pm an cdv ct),osl⟩) (c:W.codeIn K cdv qual=true)(k:W.keepIn K (.ref f)=true):Fun K x qual st f (W.fnOf x qual (z1i st) (vG st) (zg st) .none kV doc pm an cdv ct):=⟨⟨oc,od,kV,doc,pm,an,cdv,ct,osl,rfl,l,c⟩,k⟩
end
end L2
set_option maxHeartbeats 4000000
namespace L2
open PySem.Spec
def z6q(env:Env):List (Str×NameKind)->List (Str×Addr)->List (Str×Addr)
 | [],acc=>acc | (n,k)::r,acc=>z6q env r (if k==.free then (match env.cells.lookup n with | some c=>(n,c)::acc | none=>acc) else acc)
theorem z42{env:Env}:∀ (names:List (Str×NameKind))(acc:List (Str×Addr)),(∀ x c,acc.lookup x=some c->env.cells.lookup x=some c)->∀ x c,(z6q env names acc).lookup x=some c->env.cells.lookup x=some c
 | [],acc,ha=>ha | (n,k)::r,acc,ha=>by
  unfold z6q;refine z42 r _ fun x c=>?_;split
  ·split
   ·rename_i c' hc;intro h;rw [List.lookup_cons] at h;split at h
    ·rename_i hb;cases h;rw [beq_iff_eq.mp hb];exact hc
    ·exact ha x c h
   ·exact ha x c
  ·exact ha x c
theorem z7U{env:Env}{x:Str}:∀ (names:List (Str×NameKind))(acc:List (Str×Addr)),(acc.lookup x).isSome=true->((z6q env names acc).lookup x).isSome=true
 | [],acc,ha=>ha | (n,k)::r,acc,ha=>by
  unfold z6q;refine z7U r _ ?_;split
  ·split
   ·rw [List.lookup_cons];split;·rfl
    ·exact ha
   ·exact ha
  ·exact ha
theorem z5r{env:Env}{x:Str}:∀ (names:List (Str×NameKind))(acc:List (Str×Addr)),(x,NameKind.free)∈names->(∃ c,env.cells.lookup x=some c)->∃ c,(z6q env names acc).lookup x=some c
 | [],acc,h,_=>nomatch h | (n,k)::r,acc,h,hc=>by
  rcases List.mem_cons.mp h with e | h
  ·cases e;obtain ⟨c,hc⟩:=hc;unfold z6q;have q:((z6q env r ((x,c)::acc)).lookup x).isSome=true:=z7U r _ (by simp);rw [if_pos (by rfl),hc];exact Option.isSome_iff_exists.mp q
  ·unfold z6q;exact z5r r _ h hc
theorem z4J{env:Env}(f:Str×NameKind->List (Str×Addr)->Sem (ForInStep (List (Str×Addr)))) (hf:∀ n k cs,f (n,k) cs=if k==.free then (do let a <- cellOf env n;pure (.yield ((n,a)::cs))) else pure (.yield cs)): ∀ (names:List (Str×NameKind))(acc:List (Str×Addr)),(∀ y∈names,y.2=.free->∃ c,env.cells.lookup y.1=some c)->forIn names acc f=pure (z6q env names acc)
 | [],acc,_=>rfl | (n,k)::r,acc,h=>by
  rw [List.forIn_cons,hf];have ih:=fun acc'=>z4J f hf r acc' fun y hy=>h y (List.mem_cons_of_mem _ hy);unfold z6q;by_cases hk:k=.free
  ·subst hk;obtain ⟨c,hc⟩:=h (n,.free) List.mem_cons_self rfl;have hc':env.cells.lookup n=some c:=hc;have e:cellOf env n=pure c:=by unfold cellOf;rw [hc']
   rw [if_pos (by rfl),if_pos (by rfl),e,hc',pure_bind,pure_bind];exact ih _
  ·have hb:(k==NameKind.free)=false:=by simpa using hk
   rw [hb,if_neg (by decide),if_neg (by decide),pure_bind];exact ih _
theorem jf{scope:Scope}{env:Env}(h:∀ y∈scope.names,y.2=.free->∃ c,env.cells.lookup y.1=some c):closureFor scope env=pure (z6q env scope.names []):=by
 simp only [closureFor];rw [z4J (env:=env) _ (fun n k cs=>by cases hk:k==NameKind.free<;>simp [hk]) scope.names [] h];simp
theorem vR:∀ (names:List (Str×NameKind))(n:Nat)(acc:List (Str×Addr)),cellsFrom n names acc=cellsFrom n names []++acc
 | [],_,_=>rfl | (x,k)::r,n,acc=>by
  unfold cellsFrom;split
  ·rw [vR r (n+1) ((x,n)::acc),vR r (n+1) [(x,n)]];simp
  ·exact vR r n acc
theorem qY{x:Str}{c:Addr}:∀ (names:List (Str×NameKind))(n:Nat)(acc:List (Str×Addr)),(x,c)∈cellsFrom n names acc->(x,c)∈acc\/(x,NameKind.cell)∈names
 | [],_,_,h=>.inl h | (y,k)::r,n,acc,h=>by
  unfold cellsFrom at h;split at h
  ·rename_i hk;rcases qY r _ _ h with q | q
   ·rcases List.mem_cons.mp q with e | q
    ·cases e;refine .inr ?_;rw [show k=NameKind.cell from beq_iff_eq.mp hk];exact List.mem_cons_self
    ·exact .inl q
   ·exact .inr (List.mem_cons_of_mem _ q)
  ·rcases qY r _ _ h with q | q;·exact .inl q
   ·exact .inr (List.mem_cons_of_mem _ q)
def zdQ(X:Cx)(scope:Scope)(C:Addr):Env:= {scope:=relabel scope X.env,locals:=C,globals:=X.env.globals,cells:=cellsFrom (C+1) scope.names []++z6q X.env scope.names [],qual:=X.env.qual,func:=none,code:=X.env.code,frame:=X.env.frame,builtins:=X.env.builtins}
def zT(X:Cx)(N':List Str)(scope:Scope)(ex:List Addr)(s:Shared)(H:Hp):Cx where
 prog:=X.prog;w:=X.w;K:=X.K;mg:=X.mg;base:=X.base;A:=X.A;N:=N';s₀:=s;H₀:=H;env:=zdQ X scope s.heap.objs.size;outer:=X.stack;stack:=X.stack;ex:=ex;fn:=fun x=>scope.names.lookup x==some .cell;calm:=X.calm;pn:=[];xe:=fun _ _=>False
theorem kY{env:Env}{x:Str}{k:NameKind}:∀ {names:List (Str×NameKind)},names.lookup x=some k-> (names.map fun (n,k)=>if (k==NameKind.free&&env.scope.kind==.function&&env.kindOf n==some .cell) then (n,NameKind.cell) else (n,k)).lookup x=some k\/ (k=.free/\(names.map fun (n,k)=>if (k==NameKind.free&&env.scope.kind==.function&&env.kindOf n==some .cell) then (n,NameKind.cell) else (n,k)).lookup x=some .cell)
 | [],h=>by simp at h | (n,k')::r,h=>by
  have ih:=@kY env x k r;show List.lookup x ((if (k'==NameKind.free&&env.scope.kind==.function&&env.kindOf n==some .cell)=true then (n,NameKind.cell) else (n,k'))::_)=_\/(_/\List.lookup x ((if (k'==NameKind.free&&env.scope.kind==.function&&env.kindOf n==some .cell)=true then (n,NameKind.cell) else (n,k'))::_)=_);cases hx:x==n with
  | true=>
   simp only [List.lookup_cons,hx] at h;cases h;by_cases hc:(k==NameKind.free&&env.scope.kind==.function&&env.kindOf n==some .cell)=true
   ·rw [if_pos hc];simp only [Bool.and_eq_true,beq_iff_eq] at hc;exact .inr ⟨hc.1.1,by simp [List.lookup_cons,hx]⟩
   ·rw [if_neg hc];exact .inl (by simp [List.lookup_cons,hx]) | false=>
   simp only [List.lookup_cons,hx] at h;by_cases hc:(k'==NameKind.free&&env.scope.kind==.function&&env.kindOf n==some .cell)=true;·rw [if_pos hc];simp only [List.lookup_cons,hx];exact ih h
   ·rw [if_neg hc];simp only [List.lookup_cons,hx];exact ih h
theorem qi{env:Env}{x:Str}{k:NameKind}:∀ {names:List (Str×NameKind)}, (names.map fun (n,k)=>if (k==NameKind.free&&env.scope.kind==.function&&env.kindOf n==some .cell) then (n,NameKind.cell) else (n,k)).lookup x=some k->(k=.cell\/k=.free)->(x,NameKind.cell)∈names\/(x,NameKind.free)∈names
 | [],h,_=>by simp at h | (n,k')::r,h,hk=>by
  have ih:=@qi env x k r;change List.lookup x ((if (k'==NameKind.free&&env.scope.kind==.function&&env.kindOf n==some .cell)=true then (n,NameKind.cell) else (n,k'))::_)=_ at h;have step:(List.lookup x (r.map fun (n,k)=>if (k==NameKind.free&&env.scope.kind==.function&&env.kindOf n==some .cell) then (n,NameKind.cell) else (n,k))=some k)->(x,NameKind.cell)∈(n,k')::r\/(x,NameKind.free)∈(n,k')::r:=fun q=> (ih q hk).elim (fun z=>.inl (List.mem_cons_of_mem _ z)) fun z=>.inr (List.mem_cons_of_mem _ z);by_cases hc:(k'==NameKind.free&&env.scope.kind==.function&&env.kindOf n==some .cell)=true
  ·rw [if_pos hc,List.lookup_cons] at h;split at h
   ·rename_i hb;simp only [Bool.and_eq_true,beq_iff_eq] at hc;rw [beq_iff_eq.mp hb,hc.1.1];exact .inr List.mem_cons_self
   ·exact step h
  ·rw [if_neg hc,List.lookup_cons] at h;split at h
   ·rename_i hb;cases h;rw [beq_iff_eq.mp hb];rcases hk with rfl | rfl;·exact .inl List.mem_cons_self
    ·exact .inr List.mem_cons_self
   ·exact step h
def inner(mp:List (Option Nat))(O:St):St:=mp.map fun o=>match o with | some j=>(O[j]?).getD none | none=>none
def z47(N:List Str)(names:List (Str×NameKind)):List Str->List (Option Nat)->Bool
 | [],[]=>true | _::r,none::mp=>z47 N names r mp | x::r,some j::mp=>N[j]? == some x&&names.lookup x==some .free&&z47 N names r mp | _,_=>false
theorem z5F{N:List Str}{names:List (Str×NameKind)}:∀ {N':List Str}{mp:List (Option Nat)},z47 N names N' mp=true->mp.length=N'.length
 | [],[],_=>rfl | _::_,none::_,h=>by
  simp only [z47] at h;simp only [List.length_cons];rw [z5F h] | _::_,some _::_,h=>by
  simp only [z47,Bool.and_eq_true] at h;simp only [List.length_cons];rw [z5F h.2] | [],none::_,h=>by cases h | [],some _::_,h=>by cases h | _::_,[],h=>by cases h
theorem z99{N:List Str}{names:List (Str×NameKind)}:∀ {N':List Str}{mp:List (Option Nat)}{i j:Nat}{x:Str},z47 N names N' mp=true->N'[i]? = some x->mp[i]? = some (some j)->N[j]? = some x/\names.lookup x=some .free
 | [],_,_,_,_,_,h,_=>by simp at h | _::_,[],_,_,_,_,_,h=>by simp at h | _::_,none::_,0,_,_,_,_,h=>by simp at h | _::_,some _::_,0,_,_,h,h1,h2=>by
  simp only [z47,Bool.and_eq_true,beq_iff_eq] at h;simp at h1 h2;subst h1 h2;exact h.1 | _::_,none::_,i+1,_,_,h,h1,h2=>by
  simp only [z47] at h;exact z99 (i:=i) h (by simpa using h1) (by simpa using h2) | _::_,some _::_,i+1,_,_,h,h1,h2=>by
  simp only [z47,Bool.and_eq_true] at h;exact z99 (i:=i) h.2 (by simpa using h1) (by simpa using h2)
section
variable {X:Cx}{pins:List (Addr×Obj)}{O:St}{H:Hp}{s s1:Shared}{scope:Scope}{N':List Str}{ex:List Addr}{mp:List (Option Nat)}
theorem zaM{α:Type}{x:Str}{l1 l2:List (Str×α)}{c:α}(h:(l1++l2).lookup x=some c):l1.lookup x=some c\/(l1.lookup x=none/\l2.lookup x=some c):=by
 rw [List.lookup_append] at h;cases e:l1.lookup x with
 | some d=>rw [e] at h;exact .inl h | none=>rw [e] at h;exact .inr ⟨rfl,h⟩
theorem zaI (I:Inv X pins O H s) (hkd:scope.kind=.function) (hnm:∀ y∈scope.names,scope.names.lookup y.1=some y.2) (hfr:∀ y∈scope.names,y.2=.free->X.env.kindOf y.1=some .cell\/X.env.kindOf y.1=some .free) (hmp:z47 X.N scope.names N' mp=true) (hex:∀ b∈ex,b<s.heap.objs.size/\H b=none/\b≠X.env.locals/\b∉X.fs/\(b∈X.ex\/X.s₀.heap.objs.size<=b)/\(∀ x c,X.env.cells.lookup x=some c->c≠b)) (e1:s1.heap=pushCells (s.heap.push {cls:=.type "dict",data:=.dict #[]}) scope.names) (e2:s1.os=s.os) (e3:s1.gens=s.gens): Inv (zT X N' scope ex s H) [] (inner mp O) H s1:=by
 have keep:∀ b o,s.heap.get? b=some o->s1.heap.get? b=some o:=fun b o e=>by rw [e1];exact pushCells_keeps _ _ b o (Heap.get?_push_of_some _ e)
 have ok:=cellsFrom_ok scope.names (s.heap.push {cls:=.type "dict",data:=.dict #[]}) (s.heap.objs.size+1) [] ⟨fun _ _ hm=>(nomatch hm),List.Pairwise.nil⟩ (by rw [Heap.size_push];exact Nat.le_refl _);rw [Heap.size_push,<- e1] at ok;have hclo:∀ x c,(z6q X.env scope.names []).lookup x=some c->X.env.cells.lookup x=some c:=z42 scope.names [] (fun x c h=>by simp at h);have clt:∀ x c,X.env.cells.lookup x=some c->c<s.heap.objs.size:=fun x c h=>by obtain ⟨v,q⟩:=I.cell x c h;exact q.lt
 have own:∀ x c,(cellsFrom (s.heap.objs.size+1) scope.names []).lookup x=some c->s1.heap.IsCell c none/\s.heap.objs.size+1<=c:=fun x c h=>ok.empty x c (PySem.mem_of_lookup h);have both:∀ x c,(zdQ X scope s.heap.objs.size).cells.lookup x=some c->((cellsFrom (s.heap.objs.size+1) scope.names []).lookup x=some c/\s1.heap.IsCell c none/\s.heap.objs.size+1<=c)\/(X.env.cells.lookup x=some c):=fun x c h=>by
  rcases zaM h with q | ⟨_,q⟩;·exact .inl ⟨q,own x c q⟩
  ·exact .inr (hclo x c q)
 refine ⟨⟨I.ok.mod,hkd,I.ok.glob,I.ok.blt,Nat.le_refl _,fun x y c h1 h2=>?_,fun x hx=>?_,fun x c hf h=>?_,I.ok.hd,I.ok.frames,.inl rfl,fun b hb=>⟨Nat.ne_of_lt (hex b hb).1,fun x c h=>?_⟩,fun b o e=>I.bs b o e,Nat.le_trans I.ok.bsz I.sz,fun b o e hb=>?_,fun b hb hf=>?_,I.stack,I.stkFree⟩, e2,by rw [e3];exact I.bare,Un.kept keep,?_,fun x c h=>?_,I.hok.fresh (Nat.le_refl _),fun x c h=>?_,fun p hp=>absurd (show p∈([]:List (Addr×Obj)) from hp) (by simp),I.hok.kept keep,?_⟩
 ·rcases both x c h1 with ⟨q1,_,l1⟩ | q1<;>rcases both y c h2 with ⟨q2,_,l2⟩ | q2;·exact name_of_addr ok.apart (PySem.mem_of_lookup q1) (PySem.mem_of_lookup q2)
  ·exact absurd (Nat.lt_of_lt_of_le (clt y c q2) (Nat.le_of_succ_le l1)) (Nat.lt_irrefl _)
  ·exact absurd (Nat.lt_of_lt_of_le (clt x c q1) (Nat.le_of_succ_le l2)) (Nat.lt_irrefl _)
  ·exact I.ok.inj x y c q1 q2
 ·have hx':(x,NameKind.cell)∈scope.names\/(x,NameKind.free)∈scope.names:=by
   rcases hx with hx | hx;·exact qi (env:=X.env) hx (.inl rfl)
   ·exact qi (env:=X.env) hx (.inr rfl)
  show ∃ c,(cellsFrom (s.heap.objs.size+1) scope.names []++z6q X.env scope.names []).lookup x=some c;rw [List.lookup_append];cases e:(cellsFrom (s.heap.objs.size+1) scope.names []).lookup x with
  | some c=>exact ⟨c,rfl⟩ | none=>
   rcases hx' with hx' | hx'
   ·obtain ⟨c,q⟩:=z2E (sc:=scope) (n:=s.heap.objs.size+1) (hnm (x,.cell) hx');rw [q] at e;cases e
   ·obtain ⟨c,q⟩:=z5r (env:=X.env) scope.names [] hx' (I.ok.has x (hfr (x,.free) hx' rfl));exact ⟨c,by simpa using q⟩
 ·have hf':scope.names.lookup x=some .cell:=beq_iff_eq.mp hf;obtain ⟨c',q⟩:=z2E (sc:=scope) (n:=s.heap.objs.size+1) hf';have h':(cellsFrom (s.heap.objs.size+1) scope.names []++z6q X.env scope.names []).lookup x=some c:=h;rw [List.lookup_append,q] at h';have e:c'=c:=Option.some.inj h';subst e;exact Nat.le_of_lt (Nat.lt_of_succ_le (own x c' q).2)
 ·rcases both x c h with ⟨_,_,l⟩ | q
  ·intro z;rw [z] at l;exact absurd (Nat.lt_of_lt_of_le (hex b hb).1 (Nat.le_of_succ_le l)) (Nat.lt_irrefl _)
  ·exact (hex b hb).2.2.2.2.2 x c q
 ·rcases (hex b hb).2.2.2.2.1 with z | z;·exact I.ok.noex b o e z
  ·exact absurd (Nat.lt_of_lt_of_le (Nat.lt_of_lt_of_le (Heap.lt_size e) I.ok.bsz) z) (Nat.lt_irrefl _)
 ·have q:=I.stkSub b hf;rcases List.mem_cons.mp q with z | z;·exact (hex b hb).2.2.1 z
  ·exact (hex b hb).2.2.2.1 z
 ·refine ⟨fun _=>none,?_,fun i x v h1 h2 h3=>?_⟩
  ·rw [e1];exact (Heap.Ns.new s.heap (.type "dict")).keeps (pushCells_keeps _ _)
  ·have h2':(inner mp O)[i]? = some (some v):=h2;unfold inner at h2';rw [List.getElem?_map] at h2';cases em:mp[i]? with
   | none=>rw [em] at h2';cases h2' | some o=>
    rw [em] at h2';cases o with
    | none=>cases h2' | some j=>
     obtain ⟨hj,hl⟩:=z99 hmp h1 em;have hmem:(x,NameKind.free)∈scope.names:=PySem.mem_of_lookup hl;have hv:O[j]? = some (some v):=by
      simp only [Option.map_some] at h2';cases eO:O[j]? with
      | none=>rw [eO] at h2';cases h2' | some o=>rw [eO] at h2';exact h2'
     obtain ⟨m,hn,hlook⟩:=I.loc;have kx:X.env.kindOf x=some .cell\/X.env.kindOf x=some .free:=hfr _ hmem rfl;obtain ⟨u,r,L⟩:=hlook j x v hj hv (by rcases kx with k | k;exact .inr (.inl k);exact .inr (.inr k));refine ⟨u,r,.inr ?_⟩;rcases L with ⟨k,_⟩ | ⟨_,c,hc,hcell⟩;·rcases kx with k' | k'<;>(rw [k] at k';cases k')
     ·have ncell:(x,NameKind.cell)∉scope.names:=fun z=>by
       have a:=hnm _ z;rw [hl] at a;cases a
      refine ⟨?_,c,?_,hcell.keeps keep⟩
      ·rcases kY (env:=X.env) hl with q | ⟨_,q⟩;·exact .inr q
       ·exact .inl q
      ·show (cellsFrom (s.heap.objs.size+1) scope.names []++z6q X.env scope.names []).lookup x=some c;rw [List.lookup_append];cases e:(cellsFrom (s.heap.objs.size+1) scope.names []).lookup x with
       | some c'=> exact absurd ((qY _ _ _ (PySem.mem_of_lookup e)).resolve_left (by simp)) ncell | none=>
        obtain ⟨c2,q⟩:=z5r (env:=X.env) scope.names [] hmem ⟨c,hc⟩;have q2:=hclo x c2 q;rw [hc] at q2;cases q2;simpa using q
 ·rcases both x c h with ⟨_,q,_⟩ | q;·exact ⟨_,q⟩
  ·obtain ⟨v,z⟩:=I.cell x c q;exact ⟨v,z.keeps keep⟩
 ·rcases both x c h with ⟨_,_,l⟩ | q;·exact I.hok.fresh (by omega)
  ·exact I.freeC x c q
 ·unfold inner;rw [List.length_map];exact z5F hmp
end
section
variable {M:Model}{A:Around}{E:Value->Shared->Prop}{s:Shared}
theorem z8C{scope:Scope}{env:Env}{cl:List (Str×Addr)}{Q:Env->Shared->Prop} (h:Q {scope:=scope,locals:=s.heap.objs.size,globals:=env.globals,cells:=cellsFrom (s.heap.objs.size+1) scope.names cl,qual:=env.qual,func:=none,code:=env.code,frame:=env.frame,builtins:=env.builtins} {s with heap:=pushCells (s.heap.push {cls:=.type "dict",data:=.dict #[]}) scope.names}): wpAny M A (newFunctionEnv scope env.globals cl [] env.qual none .none (some env)) Q E s:=by
 simp only [newFunctionEnv,Option.isSome_some,if_true];refine wpAny_bind (wpAny_alloc ?_);refine wpAny_bind (wpAny_layCells _ (fun name kind cells=>by cases hkc:kind==NameKind.cell<;>simp [hkc]) _ _ _ _ ?_);rw [show ({s with heap:=s.heap.push {cls:=.type "dict",data:=.dict #[]}}:Shared).heap.objs.size=s.heap.objs.size+1 from Heap.size_push ..];refine wpAny_bind ?_;rw [List.forIn_nil];exact wpAny_pure (wpAny_pure h)
end
section
variable {prog:Program}{w:World}{A:Around}{E:Value->Shared->Prop}{R:Result->Shared->Prop}{s:Shared}
theorem z6X{elt target iter:Expr}{ifs:List Expr}{scope:Scope}{pos:Pos}{it acc:Value}{env:Env}(I:Nat->Shared->Prop) (turn:∀ n s,I n s->wpAny (model prog w) A (pyNext it) (fun r s₁=>match r with
   | none=>R (.ok .next) s₁ | some v=>wpAny (model prog w) A (letOwnedTupleGo target it v) (fun _ s₁'=>wpAny (model prog w) A (assign target env v) (fun _ s₂=> wpAny (model prog w) A (forIn ifs true fun c r=>if r=true then do let ok <- isTrue c env (eval c env);pure (ForInStep.yield ok) else pure (ForInStep.yield r)) (fun ok s₃=> if ok=true then wpAny (model prog w) A (eval elt env) (fun x s₄=> wpAny (model prog w) A (call (.builtin "list.append") [acc,x]) (fun _ s₅=>∃ m,m<n/\I m s₅) (fun _ _=>False) s₄) (fun _ _=>False) s₃ else ∃ m,m<n/\I m s₃) (fun _ _=>False) s₂) (fun _ _=>False) s₁') (fun _ _=>False) s₁) (fun _ _=>False) s) (n:Nat)(h:I n s): codeAny (model prog w) A (.compLoop (.ListComp elt [⟨target,iter,ifs,0⟩] scope pos) 0 it acc env) R s:=by
 refine codeAny_loop rfl I (fun n s hI=>?_) n h;show wpAny _ A ((compTurn (.ListComp elt [⟨target,iter,ifs,0⟩] scope pos) 0 it acc env).onRaise (fun x=>do noteFrame x env;theTreesLotGoes x)) _ _ s;refine wpAny_noted ?_;rw [compTurn_list];refine wpAny_bind (wpAny_standAt (wpAny_bind (wpAny_mono (turn n s hI) (fun r s₁ h₁=>?_) fun _ _ h'=>h'.elim)));cases r with
 | none=>exact wpAny_pure h₁ | some v=>
  refine wpAny_bind (wpAny_mono h₁ (fun _ s₁' h₁'=>?_) fun _ _ h'=>h'.elim);refine wpAny_bind (wpAny_mono h₁' (fun _ s₂ h₂=>wpAny_bind (wpAny_mono h₂ (fun ok s₃ h₃=>?_) fun _ _ h'=>h'.elim)) fun _ _ h'=>h'.elim);cases ok with
  | false=>exact wpAny_pure ⟨rfl,h₃⟩ | true=> exact wpAny_bind (wpAny_bind (wpAny_mono h₃ (fun x s₄ h₄=>wpAny_bind (wpAny_mono h₄ (fun _ s₅ h₅=>wpAny_pure (wpAny_pure ⟨rfl,h₅⟩)) fun _ _ h'=>h'.elim)) fun _ _ h'=>h'.elim))
end
def z8G(X:Cx)(ifs:List Expr)(t:TT):Prop:= ∀ (pins:List (Addr×Obj))(s:Shared)(O:St)(H:Hp)(Q:Bool->Hp->Prop),Inv X pins O H s->t O H Q-> wpAny (model X.prog X.w) X.A (forIn ifs true fun c r=>if r=true then do let ok <- isTrue c X.env (eval c X.env);pure (ForInStep.yield ok) else pure (ForInStep.yield r)) (TP X pins O Q) X.xe s
theorem zdC{X:Cx}:z8G X [] (fun _ H Q=>Q true H):=fun _ _ _ H _ I h=>wpAny_tests_nil ⟨H,I,h⟩
theorem zeF{X:Cx}{c:Expr}{t:TT}(h:PT X c t):z8G X [c] t:=fun pins s O H Q I hq=>wpAny_tests_one (h pins s O H Q I hq)
theorem Inv.track {X:Cx} {pins:List (Addr×Obj)} {O:St} {H:Hp} {s:Shared} {a:Addr} {o:HO} (I:Inv X pins O H s) (f:z6s X pins H a) (new:wl X.prog X.w (upd H a o) s.heap a o):Inv X pins O (upd H a o) s:=by
 obtain ⟨f0,f1,f2,f3,f4,f5⟩:=f;have hs:HOk X.prog X.w (upd H a o) s.heap:=fun b u e=>by
  by_cases hb:b=a;·subst hb;rw [yV] at e;cases e;exact new
  ·rw [zS hb] at e;exact (I.hok b u e).stay (fun _ _ _ q=>q) (fun c q=>by rw [zS (xc q f0)];exact q) fun c xs q=>by rw [zS (xc q f0)];exact q
 exact I.step (h':=s.heap) (g':=s.gens) (d':=s.drawn) (t':=s.toks) (ch:=[a]) (fun b hb=>by
  have e:b=a:=by simpa using hb
  subst e;exact ⟨f3,f1,f4,f5⟩) (fun b o _ _ _ e _=>e) (fun b o _ _ _ e _=>⟨o.slots,e⟩) (fun b o hb _ n=>by rw [zS (fun z=>hb (by simp [z]))];exact n) (fun b o _ e=>⟨o,e⟩) (fun b xs q=>by rw [zS (xc q f0)];exact q) (fun b u xs q=>by rw [zS (xc q f0)];exact q) (fun b ps q=>⟨#[],by rw [zS (xc q f0),q];simp⟩) (fun _ q=>q) hs I.bare
def zdX(wi:TI)(mp:List (Option Nat))(g:TG)(ti:TT)(te:TE):TE:=fun O H Q=>wi O H fun J H1=>∃ W:Nat->Nat->List V->Hp->Prop,(∃ m,W 0 m [] H1)/\∀ i m ys H,W i m ys H-> (J.stop i H/\ys.length<=sizeLine/\∀ p,H p=none->Q (.ref p) (upd H p (.lst ys)))\/ (J.go i H/\∀ x H',J.yld i H x H'->g x (inner mp O) H' fun O2 H2=>(O2.length=(inner mp O).length/\∀ (i:Nat) v,(inner mp O)[i]? = some (some v)->O2[i]? = some (some v))/\ ti O2 H2 fun b H3=>if b=true then te O2 H3 fun y H4=>ys.length<=sizeLine/\∃ m',m'<m/\W (i+1) m' (ys++[y]) H4 else ∃ m',m'<m/\W (i+1) m' ys H3)
def z2C(X:Cx)(pins:List (Addr×Obj))(O:St)(C:Addr)(Q:VK)(acc:Value)(s':Shared):Prop:= ∃ v Hf,Inv X pins O Hf s'/\wm v acc/\Q v Hf/\(∃ m,s'.heap.Ns C m)/\z6s X pins Hf C
theorem z16 {X:Cx} {tg iter elt:Expr} {ifs:List Expr} {scope:Scope} {pos:Pos} {g:TG} {ti:TT} {te:TE} {N':List Str} {mp:List (Option Nat)} {pins:List (Addr×Obj)} {O:St} {Q:VK} {J:It} {H2:Hp} {s₂:Shared} {it:Addr} {fp:List Addr} {tn:Nat->Heap->Prop} {E:Value->Shared->Prop} {RR:Value->Addr->Result->Shared->Prop} (hc:X.calm=true) (hg:∀ ex s H,PG (zT X N' scope ex s H) tg g) (ht:∀ ex s H,z8G (zT X N' scope ex s H) ifs ti) (he:∀ ex s H,PE (zT X N' scope ex s H) elt te) (hkd:scope.kind=.function) (hnm:∀ y∈scope.names,scope.names.lookup y.1=some y.2) (hfr:∀ y∈scope.names,y.2=.free->X.env.kindOf y.1=some .cell\/X.env.kindOf y.1=some .free) (hmp:z47 X.N scope.names N' mp=true) (I2:Inv X pins O H2 s₂) (T:zh5 X.prog X.w X.K tg J fp it tn) (st2:tn 0 s₂.heap) (f2:∀ b∈fp,z6s X pins H2 b) (W:Nat->Nat->List V->Hp->Prop) (w0:∃ m,W 0 m [] H2) (turn:∀ i m ys H,W i m ys H-> (J.stop i H/\ys.length<=sizeLine/\∀ p,H p=none->Q (.ref p) (upd H p (.lst ys)))\/ (J.go i H/\∀ x H',J.yld i H x H'->g x (inner mp O) H' fun O2 H2=>(O2.length=(inner mp O).length/\∀ (i:Nat) v,(inner mp O)[i]? = some (some v)->O2[i]? = some (some v))/\ ti O2 H2 fun b H3=>if b=true then te O2 H3 fun y H4=>ys.length<=sizeLine/\∃ m',m'<m/\W (i+1) m' (ys++[y]) H4 else ∃ m',m'<m/\W (i+1) m' ys H3)) (hRR:∀ acc C s',z2C X pins O C Q acc s'->RR acc C (.ok .next) s'): wpAny (model X.prog X.w) X.A (newList []) (fun acc s₃=>wpAny (model X.prog X.w) X.A (newFunctionEnv scope X.env.globals (z6q X.env scope.names []) [] X.env.qual none .none (some X.env)) (fun cenv s₄=> codeAny (model X.prog X.w) X.A (.compStart (.ListComp elt [⟨tg,iter,ifs,0⟩] scope pos) 0 (.ref it) acc {cenv with scope:=relabel scope X.env}) (RR acc cenv.locals) s₄) E s₃) E s₂:=by
 refine wpAny_newObj_type ?_;have hf2:H2 s₂.heap.objs.size=none:=I2.hok.fresh (Nat.le_refl _);have fA:z6s X pins H2 s₂.heap.objs.size:=I2.fpOk (Nat.le_refl _) hf2;generalize hacc:s₂.heap.objs.size=acc at hf2 fA ⊢;have I3:Inv X pins O H2 {s₂ with heap:=s₂.heap.push {cls:=.type "list",data:=.seq ([]:List Value).toArray}}:=I2.kept (t':=s₂.toks) fun b o e=>Heap.get?_push_of_some _ e;have ha3:(s₂.heap.push {cls:=.type "list",data:=.seq ([]:List Value).toArray}).get? acc=some (LCg.lst []):=by rw [<- hacc];exact Heap.get?_push_size _ rfl
 have sz3:(s₂.heap.push {cls:=.type "list",data:=.seq ([]:List Value).toArray}).objs.size=acc+1:=by rw [Heap.size_push,hacc]
 have kp3:∀ b o,s₂.heap.get? b=some o->(s₂.heap.push {cls:=.type "list",data:=.seq ([]:List Value).toArray}).get? b=some o:=fun b o e=>Heap.get?_push_of_some _ e;show wpAny _ _ _ _ _ {s₂ with heap:=s₂.heap.push {cls:=.type "list",data:=.seq ([]:List Value).toArray}};generalize hs3:({s₂ with heap:=s₂.heap.push {cls:=.type "list",data:=.seq ([]:List Value).toArray}}:Shared)=s₃ at I3 ⊢;have ha3':s₃.heap.get? acc=some (LCg.lst []):=by rw [<- hs3];exact ha3
 have sz3':s₃.heap.objs.size=acc+1:=by rw [<- hs3];exact sz3
 have kp3':∀ b o,s₂.heap.get? b=some o->s₃.heap.get? b=some o:=by rw [<- hs3];exact kp3
 have flt:∀ b∈fp,b<acc:=fun b hb=>by
  obtain ⟨o,e,_⟩:=T.obj 0 _ st2 b hb;rw [<- hacc];exact Heap.lt_size e
 have fne:∀ b∈fp,b≠acc:=fun b hb=>Nat.ne_of_lt (flt b hb);have tn3:tn 0 s₃.heap:=T.keep 0 _ _ st2 fun b hb o e=>kp3' b o e;refine z8C ?_;rw [vR];have hex:∀ b∈acc::fp,b<s₃.heap.objs.size/\H2 b=none/\b≠X.env.locals/\b∉X.fs/\(b∈X.ex\/X.s₀.heap.objs.size<=b)/\(∀ x c,X.env.cells.lookup x=some c->c≠b):=fun b hb=>by
  rcases List.mem_cons.mp hb with z | hb
  ·subst z;exact ⟨by rw [sz3'];exact Nat.lt_succ_self _,hf2,fA.2.1,fA.2.2.1,fA.2.2.2.1,fA.2.2.2.2.1⟩
  ·have q:=f2 b hb;exact ⟨by rw [sz3'];exact Nat.lt_succ_of_lt (flt b hb),q.1,q.2.1,q.2.2.1,q.2.2.2.1,q.2.2.2.2.1⟩
 have I4:=zaI (N':=N') (mp:=mp) (ex:=acc::fp) (s1:={s₃ with heap:=pushCells (s₃.heap.push {cls:=.type "dict",data:=.dict #[]}) scope.names}) I3 hkd hnm hfr hmp hex rfl rfl rfl;have kp4:∀ b o,s₃.heap.get? b=some o->(pushCells (s₃.heap.push {cls:=.type "dict",data:=.dict #[]}) scope.names).get? b=some o:=fun b o e=>pushCells_keeps _ _ b o (Heap.get?_push_of_some _ e);generalize hs4:({s₃ with heap:=pushCells (s₃.heap.push {cls:=.type "dict",data:=.dict #[]}) scope.names}:Shared)=s₄ at I4 ⊢;have ha4:s₄.heap.get? acc=some (LCg.lst []):=by rw [<- hs4];exact kp4 _ _ ha3'
 have tn4:tn 0 s₄.heap:=T.keep 0 _ _ tn3 fun b hb o e=>by rw [<- hs4];exact kp4 b o e
 have Cne:acc≠s₃.heap.objs.size:=by rw [sz3'];exact Nat.ne_of_lt (Nat.lt_succ_self _)
 have celln:∀ b∈acc::fp,∀ x c,(zdQ X scope s₃.heap.objs.size).cells.lookup x=some c->c≠b:=fun b hb=>(I4.ok.exf b hb).2;have stat:∀ {H':Hp} {o:Obj},(∀ b∈fp,H' b=none)->∀ b∈fp,z6s (zT X N' scope (acc::fp) s₃ H2) [(acc,o)] H' b:=fun {H' o} hn b hb=> ⟨hn b hb,Nat.ne_of_lt (by show b<s₃.heap.objs.size;rw [sz3'];exact Nat.lt_succ_of_lt (flt b hb)),fun hf=>I4.ok.exfs b (List.mem_cons_of_mem _ hb) hf,.inl (List.mem_cons_of_mem _ hb),celln b (List.mem_cons_of_mem _ hb),fun p hp=>by
   have e:p=(acc,o):=by simpa [zT] using hp
   rw [e];exact Ne.symm (fne b hb)⟩;have pinA:∀ {O':St} {H':Hp} {s':Shared} {its:List Value},Inv (zT X N' scope (acc::fp) s₃ H2) [] O' H' s'->H' acc=none->s'.heap.get? acc=some (LCg.lst its)->Inv (zT X N' scope (acc::fp) s₃ H2) [(acc,LCg.lst its)] O' H' s':=fun {O' H' s' its} J' n' e'=> J'.pins_of fun p hp=>by
   have e:p=(acc,LCg.lst its):=by simpa using hp
   subst e;refine ⟨e',n',Cne,fun hf=>I4.ok.exfs acc List.mem_cons_self hf,fun v z=>?_⟩;have z':Data.seq _ _=Data.cell v:=z;cases z'
 obtain ⟨m0,w0⟩:=w0;have loop:codeAny (model X.prog X.w) X.A (.compLoop (.ListComp elt [⟨tg,iter,ifs,0⟩] scope pos) 0 (.ref it) (.ref acc) (zdQ X scope s₃.heap.objs.size)) (RR (.ref acc) s₃.heap.objs.size) s₄:=by
  refine z6X (fun n s'=>∃ i ys its H',Inv (zT X N' scope (acc::fp) s₃ H2) [] (inner mp O) H' s'/\tn i s'.heap/\(∀ b∈fp,H' b=none)/\H' acc=none/\s'.heap.get? acc=some (LCg.lst its)/\yY ys its/\W i n ys H') ?_ m0 ⟨0,[],[],H2,I4,tn4,fun b hb=>(f2 b hb).1,hf2,ha4,.nil,w0⟩;rintro n s5 ⟨i,ys,its,H5,I5,tn5,n5,na5,ea5,rv5,w5⟩;have I5':=pinA I5 na5 ea5;rcases turn i n ys H5 w5 with ⟨stop,hz,q⟩ | ⟨go,step⟩
  ·refine wpAny_mono (T.done (zT X N' scope (acc::fp) s₃ H2) rfl rfl rfl hc i _ s5 _ H5 (fun _ _=>False) I5' (stat n5) tn5 stop) (fun r s6 ⟨hr,I6⟩=>?_) fun _ _ z=>z;subst hr;have ea6:=(I6.pin (acc,LCg.lst its) (by simp)).1;have un:Un (frs X.stack) (acc::fp) H2 H5 s₃.heap s6.heap:=I6.base;have I7:Inv X pins O H5 s6:=I3.call' (s':=s6) (I6.os) un I6.hok I6.bare fun b hb=>by
    rcases List.mem_cons.mp hb with z | hb;·subst z;exact ⟨fA.2.2.2.1,fA.2.1,fA.2.2.2.2.1,fA.2.2.2.2.2⟩
    ·exact ⟨(f2 b hb).2.2.2.1,(f2 b hb).2.1,(f2 b hb).2.2.2.2.1,(f2 b hb).2.2.2.2.2⟩
   have C7:z6s X pins H5 s₃.heap.objs.size:=I3.fpOk (Nat.le_refl _) I6.free;refine hRR _ _ s6 ⟨.ref acc,upd H5 acc (.lst ys),I7.track ⟨na5,fA.2⟩ ?_,rfl,q acc na5,?_,?_,C7.2⟩;·exact ⟨hz,its,_,rv5,ea6⟩
   ·obtain ⟨m,hm,_⟩:=I6.loc;exact ⟨m,hm⟩
   ·rw [zS (Ne.symm Cne)];exact I6.free
  ·refine wpAny_mono (T.item (zT X N' scope (acc::fp) s₃ H2) rfl rfl rfl hc i _ s5 _ H5 (fun _ _=>False) I5' (stat n5) tn5 go) (fun r s6 ⟨u,hr,h6⟩=>?_) fun _ _ z=>z;subst hr;refine wpAny_mono h6 (fun _ s7 ⟨x,H7,I7,r7,y7,tn7,n7⟩=>?_) fun _ _ z=>z;have I7':=I7.pinned (stat n7) (T.obj _ _ tn7);refine wpAny_mono (hg _ _ _ _ s7 (inner mp O) H7 x u _ I7' r7 (step x H7 y7)) (fun _ s8 ⟨O8,H8,I8,⟨kl,kv⟩,q8⟩=>?_) fun _ _ z=>z;refine wpAny_mono (ht _ _ _ _ s8 O8 H8 _ I8 q8) (fun b s9 ⟨H9,I9,q9⟩=>?_) fun _ _ z=>z;have pinB:∀ {O':St} {H':Hp} {s':Shared},Inv (zT X N' scope (acc::fp) s₃ H2) ([(acc,LCg.lst its)]++z74 fp s7.heap) O' H' s'->(∀ b∈fp,H' b=none)/\H' acc=none/\s'.heap.get? acc=some (LCg.lst its)/\tn (i+1) s'.heap/\∀ b∈fp,∀ o,s7.heap.get? b=some o->s'.heap.get? b=some o:=fun {O' H' s'} J'=>by
    have z:=J'.pin (acc,LCg.lst its) (by simp [zT]);have zz:∀ b∈fp,∀ o,s7.heap.get? b=some o->s'.heap.get? b=some o/\H' b=none:=fun b hb o e=>by
     have y:=J'.pin (b,o) (List.mem_append_right _ (List.mem_append_right _ (qA hb e)));exact ⟨y.1,y.2.1⟩
    refine ⟨fun b hb=>?_,z.2.1,z.1,T.keep _ _ _ tn7 fun b hb o e=>(zz b hb o e).1,fun b hb o e=>(zz b hb o e).1⟩;obtain ⟨o,e,_⟩:=T.obj _ _ tn7 b hb;exact (zz b hb o e).2
   cases b with
   | false=>
    rw [if_neg (by decide)] at q9 ⊢;obtain ⟨m',lt,w9⟩:=q9;obtain ⟨z1,z2,z3,z4,_⟩:=pinB I9;exact ⟨m',lt,i+1,ys,its,H9,(I9.pins_of (pins':=[]) (fun p hp=>absurd hp (by simp))).weak kl.symm kv,z4,z1,z2,z3,rv5,w9⟩ | true=>
    rw [if_pos rfl] at q9 ⊢;refine wpAny_mono (he _ _ _ _ s9 O8 H9 _ I9 q9) (fun yv s10 ⟨y,H10,I10,r10,hz,m',lt,w10⟩=>?_) fun _ _ z=>z;obtain ⟨z1,z2,z3,z4,_⟩:=pinB I10;have zl:its.toArray.size<=sizeLine:=by rw [List.size_toArray,<- rv5.length];exact hz
    refine append_at (hsz:=zl) z3 fun h11 sb ea11=>?_;have I10':=(I10.pins_of (pins':=[]) (fun p hp=>absurd hp (by simp))).weak kl.symm kv;have I11:Inv (zT X N' scope (acc::fp) s₃ H2) [] (inner mp O) H10 {s10 with heap:=h11}:=I10'.turned (t':=s10.toks) (fun b o hb e=>(sb.2 b hb).trans e) z2 Cne (.inl List.mem_cons_self) (celln acc List.mem_cons_self) (fun p hp=>absurd hp (by simp [zT]));exact ⟨m',lt,i+1,ys++[y],its++[yv],H10,I11,T.keep _ _ _ z4 (fun b hb o e=>(sb.2 b (fne b hb)).trans e),z1,z2,ea11.trans (congrArg some (LCg.lst_snoc its yv)),rv5.append (.cons r10 .nil),w10⟩
 exact codeAny_compStart_list loop (T.self _ 0 _ _ _ tn4 loop)
section
variable {X:Cx}{tg iter elt:Expr}{ifs:List Expr}{scope:Scope}{pos spos py:Pos}{wi:TI}{g:TG}{ti:TT}{te:TE}{N':List Str}{mp:List (Option Nat)}
theorem z0h{pins:List (Addr×Obj)}{O:St}{H:Hp}{s:Shared}{h':Heap}{C:Addr}(I:Inv X pins O H s)(f:z6s X pins H C)(sb:Heap.SameBut C s.heap h'):Inv X pins O H {s with heap:=h'}:= I.turned (t':=s.toks) (fun b o hb e=>(sb.2 b hb).trans e) f.1 f.2.1 f.2.2.2.1 f.2.2.2.2.1 f.2.2.2.2.2
theorem zci (N':List Str) (mp:List (Option Nat)) (hc:X.calm=true) (hi:PI X tg iter wi) (hg:∀ ex s H,PG (zT X N' scope ex s H) tg g) (ht:∀ ex s H,z8G (zT X N' scope ex s H) ifs ti) (he:∀ ex s H,PE (zT X N' scope ex s H) elt te) (hkd:scope.kind=.function) (hnm:∀ y∈scope.names,scope.names.lookup y.1=some y.2) (hfr:∀ y∈scope.names,y.2=.free->X.env.kindOf y.1=some .cell\/X.env.kindOf y.1=some .free) (hmp:z47 X.N scope.names N' mp=true) (hs:∀ x,foldedSetIterable iter X.env x=pure x:=by intro _;rfl):PE X (.ListComp elt [⟨tg,iter,ifs,0⟩] scope pos) (zdX wi mp g ti te):=by
 intro pins s O H Q I h;rw [eval_ListComp];refine wpAny_comprehension_free (use:=none) rfl hs (jf fun y hy hf=>I.ok.has _ (hfr y hy hf)) hkd (fun y hy hl=>by rw [hnm y hy,hl]) (thn (hi pins s O H _ I h) fun xv s₁ h₁=>thn h₁ fun itv s₂ h₂=>?_);obtain ⟨it,fp,tn,J,H2,e,I2,T,st2,f2,W,w0,turn⟩:=h₂;subst e;refine z16 (N':=N') (mp:=mp) (O:=O) (pins:=pins) (Q:=Q) (RR:=fun acc C=>compPost (model X.prog X.w) X.A X.xe none (EP X pins O Q) acc C) hc hg ht he hkd hnm hfr hmp I2 T st2 f2 W w0 turn ?_;rintro acc C s' ⟨v,Hf,I3,r,q,⟨m,hm⟩,f⟩;exact ⟨m,hm,fun h' sb=>⟨v,Hf,z0h I3 f sb,r,q⟩⟩
theorem zas {i:Nat} {y:Str} (N':List Str) (mp:List (Option Nat)) (hN:X.N.Nodup) (hy:X.N[i]? = some y) (hyl:Loc X.env.scope y) (hc:X.calm=true) (hi:PI X tg iter wi) (hg:∀ ex s H,PG (zT X N' scope ex s H) tg g) (ht:∀ ex s H,z8G (zT X N' scope ex s H) ifs ti) (he:∀ ex s H,PE (zT X N' scope ex s H) elt te) (hkd:scope.kind=.function) (hnm:∀ y∈scope.names,scope.names.lookup y.1=some y.2) (hfr:∀ y∈scope.names,y.2=.free->X.env.kindOf y.1=some .cell\/X.env.kindOf y.1=some .free) (hmp:z47 X.N scope.names N' mp=true) (hs:∀ x,foldedSetIterable iter X.env x=pure x:=by intro _;rfl) (hsw:swapsWith (.ListComp elt [⟨tg,iter,ifs,0⟩] scope pos) (some (.Name y py)) spos.line X.env=pure true:=by rfl) (hf:X.fn y=true\/X.env.scope.names.lookup y=some .local:=by first | exact .inl rfl | exact .inr rfl | assumption): PS X (.Assign [.Name y py] (.ListComp elt [⟨tg,iter,ifs,0⟩] scope pos) spos) (zky (zdX wi mp g ti te) (zak i)):=by
 intro pins s O H D I h;rw [exec_Assign_Name_used _ _ _ _ hsw];refine wpAny_bind (wpAny_standAt (wpAny_bind ?_));show wpAny _ X.A (do let _ <- comprehension (.ListComp elt [⟨tg,iter,ifs,0⟩] scope pos) scope X.env _ (newList []) false (eval iter X.env) (some (assign (.Name y py) X.env))) _ _ s;refine wpAny_bind (wpAny_mono (wpAny_comprehension_free (use:=some (assign (.Name y py) X.env)) (Q:=fun _ s'=>SP X pins D .next s') rfl hs (jf fun y hy hf=>I.ok.has _ (hfr y hy hf)) hkd (fun y hy hl=>by rw [hnm y hy,hl]) (thn (hi pins s O H _ I h) fun xv s₁ h₁=>thn h₁ fun itv s₂ h₂=>?_)) (fun _ s' hq=>wpAny_pure (wpAny_pure hq)) fun _ _ e=>e);obtain ⟨it,fp,tn,J,H2,e,I2,T,st2,f2,W,w0,turn⟩:=h₂;subst e;refine z16 (N':=N') (mp:=mp) (O:=O) (pins:=pins) (Q:=fun v H'=>D.nx (O.set i (some v)) H') (RR:=fun acc C=>compPost (model X.prog X.w) X.A X.xe (some (assign (.Name y py) X.env)) (fun _ s'=>SP X pins D .next s') acc C) hc hg ht he hkd hnm hfr hmp I2 T st2 f2 W w0 turn ?_;rintro acc C s' ⟨v,Hf,I3,r,q,⟨m,hm⟩,f⟩;refine wpAny_assign_Name (z44 I3 hN hy hyl r (fun s'' I4 ⟨a,sb,ha⟩=>?_) hf);have hC:C≠a:=by
  rcases ha with z | z;·rw [z];exact f.2.1
  ·exact Ne.symm (f.2.2.2.2.1 y a z)
 exact ⟨m,hm.sameBut sb hC,fun h' sb'=>⟨_,Hf,z0h I4 f sb',q⟩⟩
end
end L2
set_option maxHeartbeats 4000000
namespace Dd
open PySem.Spec L2
theorem z9k(xs:List Expr)(k:Nat)(p:Pos)(es:List Expr)(env:Env):starEach (.Tuple xs k p::es) env=(false,eval (.Tuple xs k p) env)::starEach es env:=rfl
theorem zew(xs:List Expr)(p:Pos)(es:List Expr)(env:Env):starEach (.List xs p::es) env=(false,eval (.List xs p) env)::starEach es env:=rfl
theorem uh(f:Expr)(xs:List Expr)(ks:List Keyword)(p:Pos)(es:List Expr)(env:Env):starEach (.Call f xs ks p::es) env=(false,eval (.Call f xs ks p) env)::starEach es env:=rfl
theorem zdg(a:Expr)(o:Operator)(b:Expr)(p:Pos)(es:List Expr)(env:Env):starEach (.BinOp a o b p::es) env=(false,eval (.BinOp a o b p) env)::starEach es env:=rfl
theorem z2R(a b:Expr)(p:Pos)(es:List Expr)(env:Env):starEach (.Subscript a b p::es) env=(false,eval (.Subscript a b p) env)::starEach es env:=rfl
theorem zQ(a:Expr)(g:List Comprehension)(sc:Scope)(p:Pos)(es:List Expr)(env:Env):starEach (.ListComp a g sc p::es) env=(false,eval (.ListComp a g sc p) env)::starEach es env:=rfl
theorem z2K(a:Expr)(o:List CmpOp)(b:List Expr)(p:Pos)(es:List Expr)(env:Env):starEach (.Compare a o b p::es) env=(false,eval (.Compare a o b p) env)::starEach es env:=rfl
theorem z55(c:Const)(j:Nat)(p:Pos)(es:List Expr)(env:Env):starEach (.Constant c j p::es) env=(false,eval (.Constant c j p) env)::starEach es env:=rfl
theorem zq(x:Str)(p:Pos)(es:List Expr)(env:Env):starEach (.Name x p::es) env=(false,eval (.Name x p) env)::starEach es env:=rfl
theorem zfI(o:UnaryOp)(a:Expr)(p:Pos)(es:List Expr)(env:Env):starEach (.UnaryOp o a p::es) env=(false,eval (.UnaryOp o a p) env)::starEach es env:=rfl
inductive D where | non | bl (b:Bool) | int (i:Int) | str (x:Str) | tup (xs:List D) | lst (xs:List D) | dct | loc (l:Nat) | fn (x:Str) | exc (x:Str) | scr (xs:List D)
abbrev Sto:=List (List D)
abbrev Ev:=List (Option D)
inductive R(α:Type) where | ok (a:α)(s:Sto) | ex (c:Str)(s:Sto) | no
def R.bind{α β:Type}(r:R α)(k:α->Sto->R β):R β:=match r with
 | .ok a s=>k a s | .ex c s=>.ex c s | .no=>.no
@[simp] theorem R.bind_ok {α β:Type}(a:α)(s:Sto)(k:α->Sto->R β):(R.ok a s).bind k=k a s:=id rfl
@[simp] theorem R.bind_ex {α β:Type}(c:Str)(s:Sto)(k:α->Sto->R β):(R.ex c s:R α).bind k=.ex c s:=id rfl
@[simp] theorem R.bind_no {α β:Type}(k:α->Sto->R β):(R.no:R α).bind k=.no:=id rfl
def D.flat:D->Bool
 | .tup xs=>flats xs | .lst xs=>flats xs | .scr xs=>flats xs | .loc _=>false | _=>true
where flats:List D->Bool
 | []=>true | x::xs=>x.flat&&flats xs
def excO(C a:Addr):HO:=.ext fun h=>∃ o vs,h.get? a=some o/\o.cls=.ref C/\o.data=.fields vs
structure Gm where
 m:Str->Option Value
 K:W.Frag
abbrev gm(X:Cx):Gm:=⟨X.mg,X.K⟩
def KL(K:W.Frag)(a:Addr)(xs:List V):Prop:=∃ (o:Obj)(its:Array Value)(n:Nat),K.lookup a=some o/\o.cls=.type "list"/\o.dict=none/\o.data=.seq its n/\its.size<=sizeLine/\yY xs its.toList
section
variable (mg:Gm)
mutual
def Den(H:Hp)(Y:List Addr):D->V->Prop
 | .non,v=>v=.non | .bl b,v=>v=.bl b | .int i,v=>v=.int i | .str x,v=>v=.str x | .tup ds,v=>∃ a vs,v=.ref a/\H a=some (.tup vs)/\zF H Y ds vs | .lst ds,v=>∃ a o vs,v=.ref a/\H a=some (.frz o (.lst vs))/\zF H Y ds vs | .dct,v=>∃ a,v=.ref a/\H a=some (.dK []) | .loc l,v=>∃ a,v=.ref a/\Y[l]? = some a | .fn x,v=>∃ a,v=.ref a/\mg.m x=some (.ref a) | .exc x,v=>∃ a C,v=.ref a/\mg.m x=some (.ref C)/\H a=some (excO C a) | .scr ds,v=>∃ a vs,v=.ref a/\((∃ o,H a=some (.frz o (.lst vs)))\/KL mg.K a vs)/\zF H Y ds vs
def zF(H:Hp)(Y:List Addr):List D->List V->Prop
 | [],vs=>vs=[] | d::ds,vs=>∃ v r,vs=v::r/\Den H Y d v/\zF H Y ds r
end
structure Rep(H:Hp)(Y:List Addr)(s:Sto):Prop where
 len:Y.length=s.length
 nd:Y.Nodup
 at_:∀ (l:Nat)(xs:List D),s[l]? = some xs->∃ a vs,Y[l]? = some a/\H a=some (.lst vs)/\zF mg H Y xs vs
 flat:∀ xs∈s,D.flat.flats xs=true
structure vf(H:Hp)(Y:List Addr)(H':Hp)(Y':List Addr)(s':Sto):Prop where
 rep:Rep mg H' Y' s'
 pre:Y <+: Y'
 keep:∀ b o,H b=some o->b∉Y->H' b=some o
 new:∀ a∈Y',a∉Y->H a=none
 mt:∀ a∈Y,∃ vs,H a=some (.lst vs)
end
section
variable {mg:Gm}{H H' H1 H2:Hp}{Y Y' Y1 Y2:List Addr}{s s' s1 s2:Sto}
theorem Rep.mt(r:Rep mg H Y s):∀ a∈Y,∃ vs,H a=some (.lst vs):=fun a ha=>by
 obtain ⟨l,hl,e⟩:=List.mem_iff_getElem.mp ha;have hl':l<s.length:=by rw [<- r.len];exact hl
 obtain ⟨b,vs,e1,e2,_⟩:=r.at_ l s[l] (List.getElem?_eq_getElem hl');rw [List.getElem?_eq_getElem hl] at e1;have:Y[l]=b:=Option.some.inj e1;rw [<- e,this];exact ⟨vs,e2⟩
theorem vf.refl(r:Rep mg H Y s):vf mg H Y H Y s:=⟨r,List.prefix_refl _,fun _ _ h _=>h,fun a h1 h2=>absurd h1 h2,r.mt⟩
theorem vf.trans(a:vf mg H Y H1 Y1 s1)(b:vf mg H1 Y1 H2 Y2 s2):vf mg H Y H2 Y2 s2:=by
 refine ⟨b.rep,a.pre.trans b.pre,fun c o h n=>?_,fun c h1 h2=>?_,a.mt⟩
 ·refine b.keep c o (a.keep c o h n) fun z=>?_;rw [a.new c z n] at h;cases h
 ·by_cases h3:c∈Y1;·exact a.new c h3 h2
  ·cases e:H c with
   | none=>rfl | some o=>rw [<- b.new c h1 h3,a.keep c o e h2]
theorem vf.stay(stp:vf mg H Y H' Y' s'){b:Addr}{o:HO}(h:H b=some o)(hn:∀ vs,o≠.lst vs):H' b=some o:=stp.keep b o h fun z=>by
 obtain ⟨vs,e⟩:=stp.mt b z;rw [h] at e;exact hn vs (Option.some.inj e)
mutual
theorem Den.mono(stp:vf mg H Y H' Y' s'):∀ {d:D}{v:V},Den mg H Y d v->Den mg H' Y' d v
 | .non,_,h=>by simpa [Den] using h | .bl _,_,h=>by simpa [Den] using h | .int _,_,h=>by simpa [Den] using h | .str _,_,h=>by simpa [Den] using h | .tup ds,v,h=>by
  simp only [Den] at h ⊢;obtain ⟨a,vs,e,h1,h2⟩:=h;exact ⟨a,vs,e,stp.stay h1 (by intro vs z;cases z),zF.mono stp h2⟩ | .lst ds,v,h=>by
  simp only [Den] at h ⊢;obtain ⟨a,o,vs,e,h1,h2⟩:=h;exact ⟨a,o,vs,e,stp.stay h1 (by intro vs z;cases z),zF.mono stp h2⟩ | .dct,v,h=>by
  simp only [Den] at h ⊢;obtain ⟨a,e,h1⟩:=h;exact ⟨a,e,stp.stay h1 (by intro vs z;cases z)⟩ | .loc l,v,h=>by
  simp only [Den] at h ⊢;obtain ⟨a,e,h1⟩:=h;obtain ⟨t,ht⟩:=stp.pre;refine ⟨a,e,?_⟩;rw [<- ht,List.getElem?_append_left (List.getElem?_eq_some_iff.mp h1).1];exact h1 | .fn _,_,h=>by simpa [Den] using h | .exc x,v,h=>by
  simp only [Den] at h ⊢;obtain ⟨a,C,e,h1,h2⟩:=h;exact ⟨a,C,e,h1,stp.stay h2 (by intro vs z;cases z)⟩ | .scr ds,v,h=>by
  simp only [Den] at h ⊢;obtain ⟨a,vs,e,h1,h2⟩:=h;exact ⟨a,vs,e,h1.imp (fun ⟨o,h1⟩=>⟨o,stp.stay h1 (by intro vs z;cases z)⟩) id,zF.mono stp h2⟩
theorem zF.mono(stp:vf mg H Y H' Y' s'):∀ {ds:List D}{vs:List V},zF mg H Y ds vs->zF mg H' Y' ds vs
 | [],_,h=>by simpa [zF] using h | d::ds,vs,h=>by
  simp only [zF] at h ⊢;obtain ⟨v,r,e,h1,h2⟩:=h;exact ⟨v,r,e,Den.mono stp h1,zF.mono stp h2⟩
end
theorem zF.length:∀ {ds:List D}{vs:List V},zF mg H Y ds vs->vs.length=ds.length
 | [],_,h=>by simp only [zF] at h;rw [h];rfl | d::ds,vs,h=>by
  simp only [zF] at h;obtain ⟨v,r,rfl,_,h2⟩:=h;simp [zF.length h2]
theorem zF.get:∀ {ds:List D}{vs:List V}{i:Nat}{d:D},zF mg H Y ds vs->ds[i]? = some d->∃ v,vs[i]? = some v/\Den mg H Y d v
 | [],_,_,_,_,e=>by simp at e | d::ds,vs,0,d',h,e=>by
  simp only [zF] at h;obtain ⟨v,r,rfl,h1,_⟩:=h;simp at e;subst e;exact ⟨v,by simp,h1⟩ | d::ds,vs,i+1,d',h,e=>by
  simp only [zF] at h;obtain ⟨v,r,rfl,_,h2⟩:=h;obtain ⟨u,h3,h4⟩:=zF.get (i:=i) h2 (by simpa using e);exact ⟨u,by simpa using h3,h4⟩
theorem zF.append:∀ {ds es:List D}{vs us:List V},zF mg H Y ds vs->zF mg H Y es us->zF mg H Y (ds++es) (vs++us)
 | [],_,_,_,h,h'=>by simp only [zF] at h;subst h;simpa using h' | d::ds,_,_,_,h,h'=>by
  simp only [zF] at h;obtain ⟨v,r,rfl,h1,h2⟩:=h;simp only [List.cons_append,zF];exact ⟨v,_,rfl,h1,zF.append h2 h'⟩
theorem zF.nil:zF mg H Y [] []:=by simp [zF]
theorem zF.cons {d:D} {ds:List D} {v:V} {vs:List V} (h:Den mg H Y d v) (h':zF mg H Y ds vs):zF mg H Y (d::ds) (v::vs):=by
 simp only [zF];exact ⟨v,vs,rfl,h,h'⟩
theorem zF.one{d:D}{v:V}(h:Den mg H Y d v):zF mg H Y [d] [v]:=.cons h .nil
theorem zF.take:∀ {ds:List D}{vs:List V}(n:Nat),zF mg H Y ds vs->zF mg H Y (ds.take n) (vs.take n)
 | ds,vs,0,h=>by simp [zF] | [],vs,n+1,h=>by simp only [zF] at h;subst h;simp [zF] | d::ds,vs,n+1,h=>by
  simp only [zF] at h;obtain ⟨v,r,rfl,h1,h2⟩:=h;simp only [List.take_succ_cons];exact .cons h1 (zF.take n h2)
theorem zF.drop:∀ {ds:List D}{vs:List V}(n:Nat),zF mg H Y ds vs->zF mg H Y (ds.drop n) (vs.drop n)
 | ds,vs,0,h=>by simpa using h | [],vs,n+1,h=>by simp only [zF] at h;subst h;simp [zF] | d::ds,vs,n+1,h=>by
  simp only [zF] at h;obtain ⟨v,r,rfl,h1,h2⟩:=h;simpa using zF.drop n h2
theorem zF.set:∀ {ds:List D}{vs:List V}{d:D}{v:V}(n:Nat),zF mg H Y ds vs->Den mg H Y d v->zF mg H Y (ds.set n d) (vs.set n v)
 | [],vs,_,_,n,h,_=>by simp only [zF] at h;subst h;simp [zF] | d::ds,vs,_,_,0,h,h'=>by
  simp only [zF] at h;obtain ⟨v,r,rfl,h1,h2⟩:=h;simpa using zF.cons h' h2 | d::ds,vs,_,_,n+1,h,h'=>by
  simp only [zF] at h;obtain ⟨v,r,rfl,h1,h2⟩:=h;simpa using zF.cons h1 (zF.set n h2 h')
mutual
theorem Den.flatten(k:∀ b o,H b=some o->(∀ vs,o≠.lst vs)->H' b=some o):∀ {d:D}{v:V},d.flat=true->Den mg H Y d v->Den mg H' Y' d v
 | .non,_,_,h=>by simpa [Den] using h | .bl _,_,_,h=>by simpa [Den] using h | .int _,_,_,h=>by simpa [Den] using h | .str _,_,_,h=>by simpa [Den] using h | .tup ds,v,f,h=>by
  simp only [Den] at h ⊢;obtain ⟨a,vs,e,h1,h2⟩:=h;exact ⟨a,vs,e,k a _ h1 (by intro vs z;cases z),zF.flatten k (by simpa [D.flat] using f) h2⟩ | .lst ds,v,f,h=>by
  simp only [Den] at h ⊢;obtain ⟨a,o,vs,e,h1,h2⟩:=h;exact ⟨a,o,vs,e,k a _ h1 (by intro vs z;cases z),zF.flatten k (by simpa [D.flat] using f) h2⟩ | .dct,v,_,h=>by
  simp only [Den] at h ⊢;obtain ⟨a,e,h1⟩:=h;exact ⟨a,e,k a _ h1 (by intro vs z;cases z)⟩ | .loc l,v,f,h=>by simp [D.flat] at f | .fn _,_,_,h=>by simpa [Den] using h | .exc x,v,_,h=>by
  simp only [Den] at h ⊢;obtain ⟨a,C,e,h1,h2⟩:=h;exact ⟨a,C,e,h1,k a _ h2 (by intro vs z;cases z)⟩ | .scr ds,v,f,h=>by
  simp only [Den] at h ⊢;obtain ⟨a,vs,e,h1,h2⟩:=h;exact ⟨a,vs,e,h1.imp (fun ⟨o,h1⟩=>⟨o,k a _ h1 (by intro vs z;cases z)⟩) id,zF.flatten k (by simpa [D.flat] using f) h2⟩
theorem zF.flatten(k:∀ b o,H b=some o->(∀ vs,o≠.lst vs)->H' b=some o):∀ {ds:List D}{vs:List V},D.flat.flats ds=true->zF mg H Y ds vs->zF mg H' Y' ds vs
 | [],_,_,h=>by simpa [zF] using h | d::ds,vs,f,h=>by
  simp only [zF] at h ⊢;simp only [D.flat.flats,Bool.and_eq_true] at f;obtain ⟨v,r,e,h1,h2⟩:=h;exact ⟨v,r,e,Den.flatten k f.1 h1,zF.flatten k f.2 h2⟩
end
end
def okR{α β:Type}(mg:Gm)(E:XK)(H:Hp)(Y:List Addr)(Dn:Hp->List Addr->α->β->Prop)(r:R α)(Q:β->Hp->Prop):Prop:=match r with
 | .ok a s'=>∀ b H' Y',vf mg H Y H' Y' s'->Dn H' Y' a b->Q b H' | .ex c s'=>∀ H' Y' C,vf mg H Y H' Y' s'->mg.m c=some (.ref C)->E (.ref C) none H' | .no=>False
section
variable {α β α2 β2:Type}{mg:Gm}{E:XK}{H H' H1 H2:Hp}{Y Y' Y1 Y2:List Addr}{s s' s1 s2:Sto}{Dn:Hp->List Addr->α->β->Prop}{Dn2:Hp->List Addr->α2->β2->Prop}
theorem okR.rebase{r:R α}{Q:β->Hp->Prop}(h:okR mg E H Y Dn r Q)(stp:vf mg H Y H1 Y1 s1):okR mg E H1 Y1 Dn r Q:=by cases r with
 | ok a s'=>exact fun b H' Y' stp'=>h b H' Y' (stp.trans stp') | ex c s'=>exact fun H' Y' C stp'=>h H' Y' C (stp.trans stp') | no=>exact h
theorem okR.bind{r:R α}{k:α->Sto->R α2}{Q:β2->Hp->Prop}(h:okR mg E H Y Dn2 (r.bind k) Q): okR mg E H Y Dn r (fun b H1=>∃ Y1 s1 a,vf mg H Y H1 Y1 s1/\Dn H1 Y1 a b/\okR mg E H1 Y1 Dn2 (k a s1) Q):=by cases r with
 | ok a s'=>exact fun b H' Y' stp dn=>⟨Y',s',a,stp,dn,okR.rebase h stp⟩ | ex c s'=>exact h | no=>exact h
theorem okR.imp{r:R α}{Q Q':β->Hp->Prop}(h:okR mg E H Y Dn r Q)(i:∀ b H',Q b H'->Q' b H'):okR mg E H Y Dn r Q':=by cases r with
 | ok a s'=>exact fun b H' Y' stp dn=>i b H' (h b H' Y' stp dn) | ex c s'=>exact h | no=>exact h
theorem okR.here{a:α}{Q:β->Hp->Prop}{b:β}(h:okR mg E H Y Dn (.ok a s) Q)(r:Rep mg H Y s)(d:Dn H Y a b):Q b H:=h b H Y (.refl r) d
end
structure qm(mg:Gm)(H:Hp)(Y:List Addr)(Z:Ev)(O:L2.St):Prop where
 len:Z.length=O.length
 at_:∀ (i:Nat)(d:D),Z[i]? = some (some d)->∃ v,O[i]? = some (some v)/\Den mg H Y d v
theorem qm.mono{mg:Gm}{H H':Hp}{Y Y':List Addr}{s':Sto}{Z:Ev}{O:L2.St}(e:qm mg H Y Z O)(stp:vf mg H Y H' Y' s'):qm mg H' Y' Z O:= ⟨e.len,fun i d h=>let ⟨v,h1,h2⟩:=e.at_ i d h;⟨v,h1,h2.mono stp⟩⟩
theorem qm.set{mg:Gm}{H:Hp}{Y:List Addr}{Z:Ev}{O:L2.St}{d:D}{v:V}(e:qm mg H Y Z O)(h:Den mg H Y d v)(i:Nat):qm mg H Y (Z.set i (some d)) (O.set i (some v)):=by
 refine ⟨by simp [e.len],fun j d' hj=>?_⟩;by_cases hij:i=j
 ·subst hij;have hi:i<Z.length:=by
   have:=(List.getElem?_eq_some_iff.mp hj).1;simpa using this
  rw [List.getElem?_set_self hi] at hj;cases hj;exact ⟨v,by rw [List.getElem?_set_self (by rw [<- e.len];exact hi)],h⟩
 ·rw [List.getElem?_set_ne hij] at hj ⊢;exact e.at_ j d' hj
abbrev FE:=Ev->Sto->R D
abbrev FT:=Ev->Sto->R Bool
abbrev FA:=Ev->Sto->R (List D)
inductive Fl where | nx (Z:Ev) | rt (d:D) | bk (Z:Ev) | ct (Z:Ev)
inductive FlV where | nx (O:L2.St) | rt (v:V) | bk (O:L2.St) | ct (O:L2.St)
abbrev FS:=Ev->Sto->R Fl
def FlD(mg:Gm)(H:Hp)(Y:List Addr):Fl->FlV->Prop
 | .nx Z,.nx O=>qm mg H Y Z O | .rt d,.rt v=>Den mg H Y d v | .bk Z,.bk O=>qm mg H Y Z O | .ct Z,.ct O=>qm mg H Y Z O | _,_=>False
def z4Q(D:zhq):FlV->Hp->Prop
 | .nx O,H=>D.nx O H | .rt v,H=>D.rt v H | .bk O,H=>D.bk O H | .ct O,H=>D.ct O H
def bD(_:Hp)(_:List Addr)(a b:Bool):Prop:=a=b
def tE(mg:Gm)(E:XK)(f:FE):TE:=fun O H Q=>∃ Y Z s,Rep mg H Y s/\qm mg H Y Z O/\okR mg E H Y (Den mg) (f Z s) Q
def tT(mg:Gm)(E:XK)(f:FT):TT:=fun O H Q=>∃ Y Z s,Rep mg H Y s/\qm mg H Y Z O/\okR mg E H Y bD (f Z s) Q
def tA(mg:Gm)(E:XK)(f:FA):TA:=fun O H Q=>∃ Y Z s,Rep mg H Y s/\qm mg H Y Z O/\okR mg E H Y (zF mg) (f Z s) Q
def tS(mg:Gm)(E:XK)(f:FS):TS:=fun D O H=>∃ Y Z s,Rep mg H Y s/\qm mg H Y Z O/\okR mg E H Y (FlD mg) (f Z s) (z4Q D)
def RE(X:Cx)(E:XK)(e:Expr)(f:FE):Prop:=PE X e (tE (gm X) E f)
def RT(X:Cx)(E:XK)(e:Expr)(f:FT):Prop:=PT X e (tT (gm X) E f)
def RA(X:Cx)(E:XK)(es:List Expr)(f:FA):Prop:=PA X es (tA (gm X) E f)
def RS(X:Cx)(E:XK)(st:Stmt)(f:FS):Prop:=PS X st (tS (gm X) E f)
def RSs(X:Cx)(E:XK)(st:List Stmt)(f:FS):Prop:=PSs X st (tS (gm X) E f)
section
variable {X:Cx}{E:XK}{e a b c:Expr}{es:List Expr}{pos:Pos}
theorem zW{t t':TE}(h:PE X e t)(i:∀ O H Q,t' O H Q->t O H Q):PE X e t':=fun pins s O H Q I q=>h pins s O H Q I (i O H Q q)
theorem zc8{t t':TT}(h:PT X e t)(i:∀ O H Q,t' O H Q->t O H Q):PT X e t':=fun pins s O H Q I q=>h pins s O H Q I (i O H Q q)
theorem zfc{t t':TA}(h:PA X es t)(i:∀ O H Q,t' O H Q->t O H Q):PA X es t':=fun pos pins s O H Q I q=>h pos pins s O H Q I (i O H Q q)
theorem kG{st:Stmt}{t t':TS}(h:PS X st t)(i:∀ D O H,t' D O H->t D O H):PS X st t':=fun pins s O H D I q=>h pins s O H D I (i D O H q)
theorem zbn{st:List Stmt}{t t':TS}(h:PSs X st t)(i:∀ D O H,t' D O H->t D O H):PSs X st t':=fun pins s O H D I q=>h pins s O H D I (i D O H q)
theorem yz{α β:Type}{Dn:Hp->List Addr->α->β->Prop}{mg:Gm}{f:FE}{k:Ev->D->Sto->R α}{O:L2.St}{H:Hp}{Q:β->Hp->Prop}{Y:List Addr}{Z:Ev}{s:Sto}(r:Rep mg H Y s)(en:qm mg H Y Z O) (h:okR mg E H Y Dn ((f Z s).bind (k Z)) Q)(K:V->Hp->Prop) (hK:∀ v H1 Y1 s1 d,Rep mg H1 Y1 s1->qm mg H1 Y1 Z O->Den mg H1 Y1 d v->vf mg H Y H1 Y1 s1->okR mg E H1 Y1 Dn (k Z d s1) Q->K v H1):tE mg E f O H K:= ⟨Y,Z,s,r,en,(okR.bind (Dn:=Den mg) h).imp fun v H1 ⟨Y1,s1,d,stp,dn,q⟩=>hK v H1 Y1 s1 d stp.rep (en.mono stp) dn stp q⟩
theorem z3B{α β:Type}{Dn:Hp->List Addr->α->β->Prop}{mg:Gm}{f:FT}{k:Ev->Bool->Sto->R α}{O:L2.St}{H:Hp}{Q:β->Hp->Prop}{Y:List Addr}{Z:Ev}{s:Sto}(r:Rep mg H Y s)(en:qm mg H Y Z O) (h:okR mg E H Y Dn ((f Z s).bind (k Z)) Q)(K:Bool->Hp->Prop) (hK:∀ v H1 Y1 s1,Rep mg H1 Y1 s1->qm mg H1 Y1 Z O->vf mg H Y H1 Y1 s1->okR mg E H1 Y1 Dn (k Z v s1) Q->K v H1):tT mg E f O H K:= ⟨Y,Z,s,r,en,(okR.bind (Dn:=bD) h).imp fun v H1 ⟨Y1,s1,d,stp,dn,q⟩=>hK v H1 Y1 s1 stp.rep (en.mono stp) stp (by cases (show d=v from dn);exact q)⟩
theorem qf{α β:Type}{Dn:Hp->List Addr->α->β->Prop}{mg:Gm}{f:FA}{k:Ev->List D->Sto->R α}{O:L2.St}{H:Hp}{Q:β->Hp->Prop}{Y:List Addr}{Z:Ev}{s:Sto}(r:Rep mg H Y s)(en:qm mg H Y Z O) (h:okR mg E H Y Dn ((f Z s).bind (k Z)) Q)(K:List V->Hp->Prop) (hK:∀ v H1 Y1 s1 d,Rep mg H1 Y1 s1->qm mg H1 Y1 Z O->zF mg H1 Y1 d v->vf mg H Y H1 Y1 s1->okR mg E H1 Y1 Dn (k Z d s1) Q->K v H1):tA mg E f O H K:= ⟨Y,Z,s,r,en,(okR.bind (Dn:=zF mg) h).imp fun v H1 ⟨Y1,s1,d,stp,dn,q⟩=>hK v H1 Y1 s1 d stp.rep (en.mono stp) dn stp q⟩
def zc(i:Nat):FE:=fun Z s=>match Z[i]? with | some (some d)=>.ok d s | _=>.no
theorem zb(i:Nat){x:Str}(hN:X.N[i]? = some x:=by rfl)(hv:Vis X.env.scope x:=by first | exact Or.inl rfl | exact Or.inr (Or.inl rfl) | exact Or.inr (Or.inr rfl))(hd:(x==("__debug__":Str))=false:=by decide) (hcd:(x==("__classdict__":Str))=false:=by decide):RE X E (.Name x pos) (zc i):= zW (zeO hN hv hd hcd) fun O H Q ⟨Y,Z,s,r,en,h⟩=>by
  unfold zc at h;split at h
  ·rename_i d hd;obtain ⟨v,h1,h2⟩:=en.at_ i d hd;exact ⟨v,h1,h.here r h2⟩
  ·exact h.elim
def eC(d:D):FE:=fun _ s=>.ok d s
theorem zn{i:Int}{j:Nat}:RE X E (.Constant (.int i) j pos) (eC (.int i)):=zW zfC fun O H Q ⟨Y,Z,s,r,en,h⟩=>okR.here (b:=V.int i) h r (by simp [Den])
theorem z8b{i:Bool}{j:Nat}:RE X E (.Constant (.bool i) j pos) (eC (.bl i)):=zW zk1 fun O H Q ⟨Y,Z,s,r,en,h⟩=>okR.here (b:=V.bl i) h r (by simp [Den])
theorem zdq{j:Nat}:RE X E (.Constant .none j pos) (eC .non):=zW zjb fun O H Q ⟨Y,Z,s,r,en,h⟩=>okR.here (b:=V.non) h r (by simp [Den])
theorem xl{i:Str}{j:Nat}:RE X E (.Constant (.str i) j pos) (eC (.str i)):=zW zeT fun O H Q ⟨Y,Z,s,r,en,h⟩=>okR.here (b:=V.str i) h r (by simp [Den])
theorem zi2{x:Str}{i:Int}{t:Tok}(hg:Gl X x)(hm:X.mg x=some (.int i t))(hd:(x==("__debug__":Str))=false:=by decide):RE X E (.Name x pos) (eC (.int i)):= zW (z3v hg hm (show wm (.int i) (.int i t) from ⟨t,rfl⟩) hd) fun O H Q ⟨Y,Z,s,r,en,h⟩=>okR.here (b:=V.int i) h r (by simp [Den])
def OpF(X:Cx)(E:XK)(r:R2)(op:D->D->Sto->R D):Prop:= ∀ H Y s d1 d2 v1 v2 (Q:VK),Rep (gm X) H Y s->Den (gm X) H Y d1 v1->Den (gm X) H Y d2 v2->okR (gm X) E H Y (Den (gm X)) (op d1 d2 s) Q->r v1 v2 H Q
def eOp(op:D->D->Sto->R D)(fa fb:FE):FE:=fun Z s=>(fa Z s).bind fun x s1=>(fb Z s1).bind fun y s2=>op x y s2
theorem z9U{r:R2}{op:D->D->Sto->R D}{fa fb:FE}(ho:OpF X E r op){O:L2.St}{H:Hp}{Q:VK}(h:tE (gm X) E (eOp op fa fb) O H Q):tOp r (tE (gm X) E fa) (tE (gm X) E fb) O H Q:=by
 obtain ⟨Y,Z,s,r',en,h⟩:=h;refine yz (k:=fun Z x s1=>(fb Z s1).bind fun y s2=>op x y s2) r' en h _ fun v H1 Y1 s1 d r1 en1 dn stp h1=>?_;refine yz (k:=fun Z y s2=>op d y s2) r1 en1 h1 _ fun v2 H2 Y2 s2 d2 r2 en2 dn2 St2 h2=>?_;exact ho H2 Y2 s2 d d2 v v2 Q r2 (dn.mono St2) dn2 h2
theorem zn6{op:Operator}{r:R2}{fo:D->D->Sto->R D}{fa fb:FE}(ho:OpR X (binaryOp op) r/\OpF X E r fo)(ha:RE X E a fa)(hb:RE X E b fb):RE X E (.BinOp a op b pos) (eOp fo fa fb):= zW (zkT ho.1 ha hb) fun O H Q h=>z9U ho.2 h
theorem zjU{op:CmpOp}{r:R2}{fo:D->D->Sto->R D}{fa fb:FE}(ho:OpR X (compareOp op) r/\OpF X E r fo)(ha:RE X E a fa)(hb:RE X E b fb)(hm:behindInMarks op b=false):RE X E (.Compare a [op] [b] pos) (eOp fo fa fb):= zW (zbg ho.1 ha hb hm) fun O H Q h=>z9U ho.2 h
end
end Dd
namespace L2
open PySem.Spec
theorem Inv.freeze {X:Cx} {pins:List (Addr×Obj)} {O:L2.St} {H:Hp} {s:Shared} {a:Addr} {u:HO} {o:Obj} (I:Inv X pins O H s) (h:H a=some u) (e:s.heap.get? a=some o) (hu:∀ xs,u≠.tup xs) (hf:∀ o v,u≠.frz o v) (ht:∀ ps,u≠.tbl ps) (ho:∀ y,u≠.own y): Inv X pins O (upd H a (.frz o u)) s:=by
 have ne:∀ {b:Addr} {v:HO},H b=some v->v≠u->b≠a:=fun {b v} hb hv z=>by subst z;rw [h] at hb;exact hv (Option.some.inj hb).symm
 have stay:∀ b v,wl X.prog X.w H s.heap b v->wl X.prog X.w (upd H a (.frz o u)) s.heap b v:=fun b v q=> q.stay (fun _ _ _ q=>q) (fun c q=>by rw [zS (ne q (fun z=>ho b z.symm))];exact q) fun c xs q=>by rw [zS (ne q (fun z=>hu xs z.symm))];exact q
 have hok:HOk X.prog X.w (upd H a (.frz o u)) s.heap:=fun b v q=>by
  by_cases hb:b=a
  ·subst hb;rw [yV] at q;cases q;exact ⟨e,stay b u (I.hok b u h)⟩
  ·rw [zS hb] at q;exact stay b v (I.hok b v q)
 exact I.step (h':=s.heap) (g':=s.gens) (d':=s.drawn) (t':=s.toks) (ch:=[]) (fun b hb=>absurd hb (by simp)) (fun b o _ _ _ e _=>e) (fun b o _ _ _ e _=>⟨o.slots,e⟩) (fun b v _ _ n=>by rw [zS (fun z=>by subst z;rw [h] at n;cases n)];exact n) (fun b o _ e=>⟨o,e⟩) (fun b xs q=>by rw [zS (ne q (fun z=>hu xs z.symm))];exact q) (fun b o' v q=>by rw [zS (ne q (fun z=>hf o' v z.symm))];exact q) (fun b ps q=>⟨#[],by rw [zS (ne q (fun z=>ht ps z.symm)),q];simp⟩) (fun _ q=>q) hok I.bare
def zdf(Q:VK):VK:=fun v H=>∃ a xs,v=.ref a/\H a=some (.lst xs)/\∀ o,Q v (upd H a (.frz o (.lst xs)))
theorem EP.freeze{X:Cx}{pins:List (Addr×Obj)}{O:L2.St}{Q:VK}{u:Value}{s:Shared}(h:EP X pins O (zdf Q) u s):EP X pins O Q u s:=by
 obtain ⟨v,H',I,r,a,xs,rfl,ha,q⟩:=h;obtain ⟨its,n,rv,e,_⟩:=I.lst ha;exact ⟨_,_,I.freeze ha e (by intro _ z;cases z) (by intro _ _ z;cases z) (by intro _ z;cases z) (by intro _ z;cases z),r,q _⟩
theorem OpR.freeze{X:Cx}{f:Value->Value->Sem Value}{r:R2}(h:OpR X f r):OpR X f (fun x y H Q=>r x y H (zdf Q)):=fun pins s O H x y v u Q I rx ry q=>thn (h pins s O H x y v u _ I rx ry q) fun _ _ z=>z.freeze
theorem wu.freeze{X:Cx}{f:Value}{r:List V->Hp->VK->Prop}(h:wu X f r):wu X f (fun xs H Q=>r xs H (zdf Q)):=fun pins s O H xs us Q I rs q=>thn (h pins s O H xs us _ I rs q) fun _ _ z=>z.freeze
theorem PE.freeze{X:Cx}{e:Expr}{t:TE}(h:PE X e t):PE X e (fun O H Q=>t O H (zdf Q)):=fun pins s O H Q I q=>thn (h pins s O H _ I q) fun _ _ z=>z.freeze
theorem SlR.freeze{X:Cx}{r:V->Option Int->Option Int->Hp->VK->Prop}(h:SlR X r):SlR X (fun x lo hi H Q=>r x lo hi H (zdf Q)):=fun pins s O H x v vl vu lo hi sl Q I rx hs pl pu q=>by
 obtain ⟨T,id,h1,h2,h3⟩:=h pins s O H x v vl vu lo hi sl _ I rx hs pl pu q;exact ⟨T,id,h1,h2,thn h3 fun _ _ z=>z.freeze⟩
section
variable {X:Cx}
theorem zg4:OpR X (binaryOp .Add) (fun x y H Q=>∃ l b xs zs,x=.ref l/\y=.ref b/\Rd H l (.lst xs)/\Rd H b (.lst zs)/\xs.length+zs.length<=sizeLine/\∀ p,H p=none->Q (.ref p) (upd H p (.lst (xs++zs)))):=by
 intro pins s O H x y v u Q I rx ry h;obtain ⟨l,b,xs,zs,rfl,rfl,hH,hB,hz,q⟩:=h;cases rx;cases ry;obtain ⟨z,its,n,r,e⟩:=hH.ok I.hok;obtain ⟨z2,its2,n2,r2,e2⟩:=hB.ok I.hok;have hl:=r.length;have hl2:=r2.length;refine PySem.P.add_list e e2 ?_ (by rw [List.size_toArray,List.size_toArray];omega);have ea:its.toArray++its2.toArray=(its++its2).toArray:=by simp
 rw [ea];exact ⟨.ref _,_,I.lnew (t':=s.toks) (r.append r2) (by rw [List.length_append];omega),rfl,q _ I.fresh⟩
end
section
variable {X:Cx}
theorem zel:OpR X (binaryOp .Add) (fun x y H Q=>∃ a b ys,x=.ref a/\y=.ref b/\SqT X.K H a []/\SqT X.K H b ys/\Q (.ref b) H):=by
 intro pins s O H x y v u Q I rx ry h;obtain ⟨a,b,ys,rfl,rfl,ha,hb,q⟩:=h;cases rx;cases ry;obtain ⟨its,r1,p1,_⟩:=I.tuple ha;obtain ⟨its2,r2,p2,_⟩:=I.tuple hb;cases r1;obtain ⟨⟨cls,dd,data,sl⟩,ho,hc,n,hd⟩:=id p1;obtain ⟨⟨cls2,dd2,data2,sl2⟩,ho2,hc2,n2,hd2⟩:=id p2;simp only at hc hd hc2 hd2;subst hc hd hc2 hd2;exact concat_meets ⟨_,ho,rfl⟩ ⟨_,ho2,rfl⟩ noFill_tuple_add seq_tuple_add PySem.F.slot_tuple_add PySem.F.entry_tuple_add (PySem.F.args_tuple_add_2 _ _) (tuple_addW0 a b _ _ n n2 dd dd2 sl sl2 (by simp)) ⟨ho,ho2,⟨.ref b,H,I,rfl,q⟩⟩
theorem zfZ:SlR X (fun x lo hi H Q=>∃ a xs,x=.ref a/\SqT X.K H a xs/\(HT.sIx xs.length 0 lo=0/\HT.sIx xs.length xs.length hi=xs.length)/\Q (.ref a) H):=by
 intro pins s O H x v vl vu lo hi sl Q I rx hs pl pu h;obtain ⟨a,xs,rfl,hx,hw,q⟩:=h;cases rx;obtain ⟨its,r,ht,hz⟩:=I.tuple hx;have hlen:its.toArray.size=xs.length:=by rw [List.size_toArray];exact r.length.symm
 refine ⟨"tuple",_,PyProof.Rows.slot_tuple_getitem.lookup,ht.typeIs,?_⟩;obtain ⟨os,hos,hcs,hds⟩:=id hs;have hTs:s.TypeIs (.ref sl) "slice":=⟨os,hos,hcs⟩;obtain ⟨oa,hoa,hca,na,hda⟩:=id ht;unfold getItem;try with_reducible refine wpAny_holding ?_
 first | refine wpAny_bind (wpAny_pure ?_) | skip
 refine wpAny_bind (wpAny_sequenceKey ht.typeIs (by decide) ?_);refine wpAny_bind (wpAny_callSpecial?_slot (name:=Str.ofString "__getitem__") ht.typeIs PyProof.Rows.slot_tuple_getitem (wpAny_call_entry PyProof.Rows.slot_tuple_getitem ht.typeIs entry_tuple_getitem ?_ (args_tuple_getitem _ _)));show wpAny _ _ (Builtin.Tuple.tupleItemsOf (.ref a) >>= _) _ _ s;refine wpAny_bind (tupleItemsOf_ ht ?_);refine wpAny_bind (wpAny_typeOf hTs ?_);rw [if_pos (by decide)];refine wpAny_bind (HT.jv hs pl pu ?_);rw [hlen,hw.1,hw.2];show wpAny _ _ (if (((0:Nat):Int)==0&&(1:Int)==1&&(xs.length-0)==xs.length)=true then _ else _) _ _ s;rw [if_pos (by simp)];have hTa:s.TypeIs (.ref a) "tuple":=ht.typeIs;have fin:EP X pins O Q (.ref a) s:=⟨.ref a,H,I,rfl,q⟩;unfold Builtin.Tuple.tupleIsExact;refine wpAny_bind (wpAny_bind (wpAny_typeOf hTa (wpAny_pure ?_)));rw [if_pos (by decide)];exact wpAny_bind (wpAny_rule (wpAny_pure ⟨_,rfl,wpAny_pure fin⟩))
end
end L2
namespace Dd
open PySem.Spec L2
section
variable {mg:Gm}{H H' H1 H2:Hp}{Y Y' Y1 Y2:List Addr}{s s' s1 s2:Sto}
mutual
theorem Den.gen(k:∀ b o,H b=some o->(∀ vs,o≠.lst vs)->H' b=some o)(hi:∀ (l:Nat) a,Y[l]? = some a->Y'[l]? = some a):∀ {d:D}{v:V},Den mg H Y d v->Den mg H' Y' d v
 | .non,_,h=>by simpa [Den] using h | .bl _,_,h=>by simpa [Den] using h | .int _,_,h=>by simpa [Den] using h | .str _,_,h=>by simpa [Den] using h | .tup ds,v,h=>by
  simp only [Den] at h ⊢;obtain ⟨a,vs,e,h1,h2⟩:=h;exact ⟨a,vs,e,k a _ h1 (by intro vs z;cases z),zF.gen k hi h2⟩ | .lst ds,v,h=>by
  simp only [Den] at h ⊢;obtain ⟨a,o,vs,e,h1,h2⟩:=h;exact ⟨a,o,vs,e,k a _ h1 (by intro vs z;cases z),zF.gen k hi h2⟩ | .dct,v,h=>by
  simp only [Den] at h ⊢;obtain ⟨a,e,h1⟩:=h;exact ⟨a,e,k a _ h1 (by intro vs z;cases z)⟩ | .loc l,v,h=>by
  simp only [Den] at h ⊢;obtain ⟨a,e,h1⟩:=h;exact ⟨a,e,hi l a h1⟩ | .fn _,_,h=>by simpa [Den] using h | .exc x,v,h=>by
  simp only [Den] at h ⊢;obtain ⟨a,C,e,h1,h2⟩:=h;exact ⟨a,C,e,h1,k a _ h2 (by intro vs z;cases z)⟩ | .scr ds,v,h=>by
  simp only [Den] at h ⊢;obtain ⟨a,vs,e,h1,h2⟩:=h;exact ⟨a,vs,e,h1.imp (fun ⟨o,h1⟩=>⟨o,k a _ h1 (by intro vs z;cases z)⟩) id,zF.gen k hi h2⟩
theorem zF.gen(k:∀ b o,H b=some o->(∀ vs,o≠.lst vs)->H' b=some o)(hi:∀ (l:Nat) a,Y[l]? = some a->Y'[l]? = some a):∀ {ds:List D}{vs:List V},zF mg H Y ds vs->zF mg H' Y' ds vs
 | [],_,h=>by simpa [zF] using h | d::ds,vs,h=>by
  simp only [zF] at h ⊢;obtain ⟨v,r,e,h1,h2⟩:=h;exact ⟨v,r,e,Den.gen k hi h1,zF.gen k hi h2⟩
end
theorem z1j{p:Addr}{o:HO}(hp:H p=none):∀ b u,H b=some u->upd H p o b=some u:=fun b u h=>by rw [zS (xc h hp)];exact h
theorem vf.lay{p:Addr}{o:HO}(r:Rep mg H Y s)(hp:H p=none)(ho:∀ vs,o≠.lst vs):vf mg H Y (upd H p o) Y s:= ⟨⟨r.len,r.nd,fun l xs h=>let ⟨a,vs,h1,h2,h3⟩:=r.at_ l xs h;⟨a,vs,h1,z1j hp a _ h2,h3.gen (fun b u q _=>z1j hp b u q) fun _ _ q=>q⟩,r.flat⟩,List.prefix_refl _,fun b u h _=>z1j hp b u h,fun a h1 h2=>absurd h1 h2,r.mt⟩
theorem vf.layL{p:Addr}{xs:List D}{vs:List V}(r:Rep mg H Y s)(hp:H p=none)(hd:zF mg H Y xs vs)(hf:D.flat.flats xs=true):vf mg H Y (upd H p (.lst vs)) (Y++[p]) (s++[xs]):=by
 have pn:p∉Y:=fun z=>by obtain ⟨vs,e⟩:=r.mt p z;rw [hp] at e;cases e
 have hi:∀ (l:Nat) a,Y[l]? = some a->(Y++[p])[l]? = some a:=fun l a h=>by rw [List.getElem?_append_left (List.getElem?_eq_some_iff.mp h).1];exact h
 have mono:∀ {ds:List D}{ws:List V},zF mg H Y ds ws->zF mg (upd H p (.lst vs)) (Y++[p]) ds ws:=fun h=>h.gen (fun b u q _=>z1j hp b u q) hi;refine ⟨⟨by simp [r.len],?_,fun l ys h=>?_,fun ys h=>?_⟩,List.prefix_append _ _,fun b u h _=>z1j hp b u h,fun a h1 h2=>?_,r.mt⟩
 ·rw [List.nodup_append];exact ⟨r.nd,by simp,fun a ha b hb=>by
   have:b=p:=by simpa using hb
   subst this;exact fun z=>pn (z ▸ ha)⟩
 ·by_cases hl:l<s.length
  ·rw [List.getElem?_append_left hl] at h;obtain ⟨a,ws,h1,h2,h3⟩:=r.at_ l ys h;exact ⟨a,ws,hi l a h1,z1j hp a _ h2,mono h3⟩
  ·have hle:l<s.length+1:=by
    have:=(List.getElem?_eq_some_iff.mp h).1;simpa using this
   have e:l=s.length:=by omega
   subst e;simp at h;subst h;exact ⟨p,vs,by rw [<- r.len];simp,yV,mono hd⟩
 ·rcases List.mem_append.mp h with h | h;·exact r.flat ys h
  ·have:ys=xs:=by simpa using h
   rw [this];exact hf
 ·rcases List.mem_append.mp h1 with h | h;·exact absurd h h2
  ·have:a=p:=by simpa using h
   rw [this];exact hp
theorem vf.put{l:Nat}{a:Addr}{xs:List D}{vs:List V}(r:Rep mg H Y s)(ha:Y[l]? = some a)(hd:zF mg H Y xs vs)(hf:D.flat.flats xs=true):vf mg H Y (upd H a (.lst vs)) Y (s.set l xs):=by
 have hai:a∈Y:=List.mem_of_getElem? ha;obtain ⟨vs0,e0⟩:=r.mt a hai;have k:∀ b u,H b=some u->(∀ vs,u≠.lst vs)->upd H a (.lst vs) b=some u:=fun b u h hn=>by rw [zS (fun z=>by subst z;rw [e0] at h;exact hn vs0 (Option.some.inj h).symm)];exact h
 have hll:l<s.length:=by rw [<- r.len];exact (List.getElem?_eq_some_iff.mp ha).1
 refine ⟨⟨by simp [r.len],r.nd,fun j ys h=>?_,fun ys h=>?_⟩,List.prefix_refl _,fun b u h hn=>?_,fun a h1 h2=>absurd h1 h2,r.mt⟩
 ·by_cases hj:l=j
  ·subst hj;rw [List.getElem?_set_self hll] at h;cases h;exact ⟨a,vs,ha,yV,hd.gen k fun _ _ q=>q⟩
  ·rw [List.getElem?_set_ne hj] at h;obtain ⟨b,ws,h1,h2,h3⟩:=r.at_ j ys h;refine ⟨b,ws,h1,?_,h3.gen k fun _ _ q=>q⟩;rw [zS];·exact h2
   ·rintro rfl;have il:l<Y.length:=(List.getElem?_eq_some_iff.mp ha).1;have ij:j<Y.length:=(List.getElem?_eq_some_iff.mp h1).1;exact hj ((List.getElem_inj r.nd).mp (((List.getElem?_eq_some_iff.mp ha).2).trans ((List.getElem?_eq_some_iff.mp h1).2).symm))
 ·rcases List.mem_or_eq_of_mem_set h with h | h;·exact r.flat ys h
  ·rw [h];exact hf
 ·rw [zS (fun z=>by subst z;exact hn hai)];exact h
def listOf(s:Sto):D->Option (List D)
 | .lst xs=>some xs | .loc l=>s[l]? | _=>none
def zJ(s:Sto):D->Option (List D)
 | .tup xs=>some xs | .lst xs=>some xs | .scr xs=>some xs | .loc l=>s[l]? | _=>none
theorem yg{d:D}{xs:List D}{v:V}(r:Rep mg H Y s)(h:listOf s d=some xs)(dn:Den mg H Y d v):∃ a vs,v=.ref a/\Rd H a (.lst vs)/\zF mg H Y xs vs:=by cases d with
 | lst ys=>
  simp only [listOf,Option.some.injEq] at h;subst h;simp only [Den] at dn;obtain ⟨a,o,vs,e,h1,h2⟩:=dn;exact ⟨a,vs,e,.inr ⟨o,h1⟩,h2⟩ | loc l=>
  simp only [Den] at dn;obtain ⟨a,e,h1⟩:=dn;obtain ⟨b,vs,h2,h3,h4⟩:=r.at_ l xs h;rw [h1] at h2;cases h2;exact ⟨a,vs,e,.inl h3,h4⟩ | _=>simp [listOf] at h
theorem zfy{xs:List D}{v:V}(dn:Den mg H Y (.scr xs) v):∃ a vs,v=.ref a/\SqL mg.K H a vs/\zF mg H Y xs vs:=by
 simp only [Den] at dn;obtain ⟨a,vs,e,h1,h2⟩:=dn;exact ⟨a,vs,e,h1.elim (fun ⟨o,h⟩=>.inl (.inr ⟨o,h⟩)) .inr,h2⟩
theorem uP{K:W.Frag}{d:D}{xs:List D}{v:V}(r:Rep mg H Y s)(h:zJ s d=some xs)(dn:Den mg H Y d v)(hK:mg.K=K:=by rfl):∃ a vs,v=.ref a/\(SqL K H a vs\/SqT K H a vs)/\zF mg H Y xs vs:=by cases d with
 | tup ys=>
  simp only [zJ,Option.some.injEq] at h;subst h;simp only [Den] at dn;obtain ⟨a,vs,e,h1,h2⟩:=dn;exact ⟨a,vs,e,.inr (.inl (.inl h1)),h2⟩ | lst ys=>
  obtain ⟨a,vs,e,h1,h2⟩:=yg (d:=.lst ys) r h dn;exact ⟨a,vs,e,.inl (.inl h1),h2⟩ | scr ys=>
  simp only [zJ,Option.some.injEq] at h;subst h;subst hK;obtain ⟨a,vs,e,h1,h2⟩:=zfy dn;exact ⟨a,vs,e,.inl h1,h2⟩ | loc l=>
  obtain ⟨a,vs,e,h1,h2⟩:=yg (d:=.loc l) r h dn;exact ⟨a,vs,e,.inl (.inl h1),h2⟩ | _=>simp [zJ] at h
theorem jB{K:W.Frag}{xs:List D}{v:V}(dn:Den mg H Y (.tup xs) v):∃ a vs,v=.ref a/\SqT K H a vs/\zF mg H Y xs vs:=by
 simp only [Den] at dn;obtain ⟨a,vs,e,h1,h2⟩:=dn;exact ⟨a,vs,e,.inl (.inl h1),h2⟩
end
def cap:Nat:=100000
theorem jz{n:Nat}(h:n<=cap):n<=sizeLine:=Nat.le_trans h (by decide)
theorem zj4{n:Nat}(h:n<cap):n<sizeLine:=Nat.lt_of_lt_of_le h (by decide)
def BIG:Nat:=2 ^ 4096
def wS:D->D->Sto->R D
 | .int i,.int j,s=>.ok (.int (i+j)) s | .tup a,.tup b,s=>if a.length+b.length<=cap then .ok (.tup (a++b)) s else .no | x,y,s=>match listOf s x,listOf s y with
  | some a,some b=>if a.length+b.length<=cap then .ok (.lst (a++b)) s else .no | _,_=>.no
section
variable {X:Cx}{E:XK}
theorem yG{mg:Gm}{H:Hp}{Y:List Addr}{i:Int}{v:V}(h:Den mg H Y (.int i) v):v=.int i:=by simpa [Den] using h
theorem jC{mg:Gm}{H:Hp}{Y:List Addr}{i:Bool}{v:V}(h:Den mg H Y (.bl i) v):v=.bl i:=by simpa [Den] using h
theorem jR{mg:Gm}{H:Hp}{Y:List Addr}{i:Str}{v:V}(h:Den mg H Y (.str i) v):v=.str i:=by simpa [Den] using h
theorem yT{mg:Gm}{H:Hp}{Y:List Addr}{i:Int}:Den mg H Y (.int i) (.int i):=by simp [Den]
theorem xW{mg:Gm}{H:Hp}{Y:List Addr}{i:Bool}:Den mg H Y (.bl i) (.bl i):=by simp [Den]
theorem kZ{mg:Gm}{H:Hp}{Y:List Addr}{s:Sto}{xs:List D}{vs:List V}{Q:VK}(r:Rep mg H Y s)(h:okR mg E H Y (Den mg) (.ok (.lst xs) s) Q)(hd:zF mg H Y xs vs):∀ p,H p=none->zdf Q (.ref p) (upd H p (.lst vs)):=fun p hp=>by
 refine ⟨p,vs,rfl,yV,fun o=>?_⟩;rw [zge];have stp:=vf.lay (o:=.frz o (.lst vs)) r hp (by intro _ z;cases z);refine h _ _ _ stp ?_;simp only [Den];exact ⟨p,o,vs,rfl,yV,hd.mono stp⟩
theorem z23{mg:Gm}{H:Hp}{Y:List Addr}{s:Sto}{xs:List D}{vs:List V}{Q:VK}(r:Rep mg H Y s)(h:okR mg E H Y (Den mg) (.ok (.tup xs) s) Q)(hd:zF mg H Y xs vs):∀ p,H p=none->Q (.ref p) (upd H p (.tup vs)):=fun p hp=>by
 have stp:=vf.lay (o:=.tup vs) r hp (by intro _ z;cases z);refine h _ _ _ stp ?_;simp only [Den];exact ⟨p,vs,rfl,yV,hd.mono stp⟩
theorem xi:∃ r,OpR X (binaryOp .Add) r/\OpF X E r wS:=by
 refine ⟨_,zjm.or ((zel).or ((zfO).or (zg4.freeze))),?_⟩;intro H Y s d1 d2 v1 v2 Q r h1 h2 h;have lists:∀ a b,listOf s d1=some a->listOf s d2=some b->okR (gm X) E H Y (Den (gm X)) (if a.length+b.length<=cap then R.ok (D.lst (a++b)) s else .no) Q-> ∃ l b xs zs,v1=.ref l/\v2=.ref b/\Rd H l (.lst xs)/\Rd H b (.lst zs)/\xs.length+zs.length<=sizeLine/\∀ p,H p=none->zdf Q (.ref p) (upd H p (.lst (xs++zs))):=fun a b ha hb hq=>by
  obtain ⟨l,vs,e,q1,q2⟩:=yg r ha h1;obtain ⟨l',vs',e',q1',q2'⟩:=yg r hb h2;split at hq
  ·rename_i hl;exact ⟨l,l',vs,vs',e,e',q1,q1',by rw [q2.length,q2'.length];exact jz hl,kZ r hq (q2.append q2')⟩
  ·exact hq.elim
 unfold wS at h;split at h
 ·rename_i i j;cases yG h1;cases yG h2;exact .inl ⟨i,j,rfl,rfl,h.here r yT⟩
 ·rename_i a b;obtain ⟨l,vs,rfl,q1,q2⟩:=jB (K:=X.K) h1;obtain ⟨l',vs',rfl,q1',q2'⟩:=jB (K:=X.K) h2;split at h
  ·rename_i hl;cases a with
   | nil=>
    simp only [zF] at q2;subst q2;exact .inr (.inl ⟨l,l',vs',rfl,rfl,q1,q1',h.here r h2⟩) | cons x a=>
    have ne:vs≠[]:=fun z=>by have:=q2.length;rw [z] at this;simp at this
    refine .inr (.inr (.inl ⟨l,l',vs,vs',rfl,rfl,q1,q1',ne,by rw [q2.length,q2'.length];exact jz hl,fun z=>?_,fun z=>z23 r h (q2.append q2')⟩));have eb:b=[]:=by
     have:=q2'.length;rw [z] at this;exact List.length_eq_zero_iff.mp this.symm
    subst eb;rw [List.append_nil] at h;exact h.here r h1
  ·exact h.elim
 ·split at h
  ·rename_i a b ha hb;exact .inr (.inr (.inr (lists a b ha hb h)))
  ·exact h.elim
end
def dII(g:Int->Int->R D):D->D->Sto->R D
 | .int i,.int j,s=>match g i j with | .ok d _=>.ok d s | _=>.no
 | _,_,_=>.no
def iOk(d:D):R D:=.ok d []
def zd6:D->D->Sto->R D:=dII fun i j=>iOk (.int (i-j))
def va:D->D->Sto->R D:=dII fun i j=>if i.natAbs<BIG/\j.natAbs<BIG then iOk (.int (i*j)) else .no
def z7L:D->D->Sto->R D:=dII fun i j=>if 0<j/\j.natAbs<BIG then iOk (.int (i / j)) else .no
def zc0:D->D->Sto->R D:=dII fun i j=>if 0<j then iOk (.int (i % j)) else .no
def z9H:D->D->Sto->R D:=dII fun i j=>if 0<=j/\j<=1000/\i.natAbs<1000 then iOk (.int (i ^ j.toNat)) else .no
def dLt:D->D->Sto->R D:=dII fun i j=>iOk (.bl (decide (i<j)))
def dLe:D->D->Sto->R D:=dII fun i j=>iOk (.bl (decide (i<=j)))
def dGt:D->D->Sto->R D:=dII fun i j=>iOk (.bl (decide (j<i)))
def dGe:D->D->Sto->R D:=dII fun i j=>iOk (.bl (decide (j<=i)))
section
variable {X:Cx}{E:XK}
theorem z0T{g:Int->Int->R D}{r:R2}(h:∀ i j d t H Q,g i j=.ok d t->(∀ v,(∀ H Y,Den (gm X) H Y d v)->Q v H)->r (.int i) (.int j) H Q):OpF X E r (dII g):=by
 intro H Y s d1 d2 v1 v2 Q rp h1 h2 hq;unfold dII at hq;split at hq
 ·rename_i i j;cases yG h1;cases yG h2;split at hq
  ·rename_i d t e;exact h i j d t H Q e fun v hv=>hq.here rp (hv H Y)
  ·exact hq.elim
 ·exact hq.elim
theorem zav:∃ r,OpR X (binaryOp .Sub) r/\OpF X E r zd6:=⟨_,zjt,z0T fun i j d t H Q e q=>by
 simp only [iOk,R.ok.injEq] at e;exact ⟨i,j,rfl,rfl,q _ (by intro H Y;rw [<- e.1];exact yT)⟩⟩
theorem z9o{i:Int}(h:i.natAbs<BIG):Builtin.Int.intBits i<=2 ^ 20:=by
 have q:Builtin.Int.intBits i<=4096:=(PySem.intBits_le_iff (m:=4096)).mpr h;omega
theorem zgu:OpR X (binaryOp .Mult) (rI (fun i j=>i.natAbs<BIG/\j.natAbs<BIG) fun i j=>.int (i*j)):=opI fun _ _ _ _ _ _ _ hc q=>mul_int q (IntMulOk.of_bits (z9o hc.1) (z9o hc.2))
theorem jY:∃ r,OpR X (binaryOp .Mult) r/\OpF X E r va:=⟨_,zgu,z0T fun i j d t H Q e q=>by
 split at e
 ·rename_i hc;simp only [iOk,R.ok.injEq] at e;exact ⟨i,j,rfl,rfl,hc,q _ (by intro H Y;rw [<- e.1];exact yT)⟩
 ·cases e⟩
theorem zhh{j:Int}(h:j.natAbs<BIG):j.natAbs.log2<9000:=by
 by_cases h0:j.natAbs=0;·rw [h0];decide +kernel
 ·have:j.natAbs.log2<4096:=(Nat.log2_lt h0).mpr h;omega
theorem zeJ:OpR X (binaryOp .FloorDiv) (rI (fun _ j=>0<j/\j.natAbs<BIG) fun i j=>.int (i / j)):=opI fun i j _ _ _ _ _ hc q=>by
 refine floordiv_int (by omega) ?_ (.inl (PyProof.noPylong_of_log2 (zhh hc.2)));rw [Int.fdiv_eq_ediv_of_nonneg _ (by omega)];exact q
theorem zbT:∃ r,OpR X (binaryOp .FloorDiv) r/\OpF X E r z7L:=⟨_,zeJ,z0T fun i j d t H Q e q=>by
 split at e
 ·rename_i hc;simp only [iOk,R.ok.injEq] at e;exact ⟨i,j,rfl,rfl,hc,q _ (by intro H Y;rw [<- e.1];exact yT)⟩
 ·cases e⟩
theorem zdO:∃ r,OpR X (binaryOp .Mod) r/\OpF X E r zc0:=⟨_,zim,z0T fun i j d t H Q e q=>by
 split at e
 ·rename_i hc;simp only [iOk,R.ok.injEq] at e;exact ⟨i,j,rfl,rfl,hc,q _ (by intro H Y;rw [<- e.1];exact yT)⟩
 ·cases e⟩
theorem zaS:∃ r,OpR X (binaryOp .Pow) r/\OpF X E r z9H:=⟨_,zje,z0T fun i j d t H Q e q=>by
 split at e
 ·rename_i hc;simp only [iOk,R.ok.injEq] at e;exact ⟨i,j,rfl,rfl,⟨hc.1,by omega,by omega⟩,q _ (by intro H Y;rw [<- e.1];exact yT)⟩
 ·cases e⟩
theorem zlN:∃ r,OpR X (compareOp .Lt) r/\OpF X E r dLt:=⟨_,zlc,z0T fun i j d t H Q e q=>by
 simp only [iOk,R.ok.injEq] at e;exact ⟨i,j,rfl,rfl,q _ (by intro H Y;rw [<- e.1];exact xW)⟩⟩
theorem zlT:∃ r,OpR X (compareOp .LtE) r/\OpF X E r dLe:=⟨_,zln,z0T fun i j d t H Q e q=>by
 simp only [iOk,R.ok.injEq] at e;exact ⟨i,j,rfl,rfl,q _ (by intro H Y;rw [<- e.1];exact xW)⟩⟩
theorem zii:∃ r,OpR X (compareOp .Gt) r/\OpF X E r dGt:=⟨_,zka,z0T fun i j d t H Q e q=>by
 simp only [iOk,R.ok.injEq] at e;exact ⟨i,j,rfl,rfl,q _ (by intro H Y;rw [<- e.1];exact xW)⟩⟩
theorem zli:∃ r,OpR X (compareOp .GtE) r/\OpF X E r dGe:=⟨_,zkJ,z0T fun i j d t H Q e q=>by
 simp only [iOk,R.ok.injEq] at e;exact ⟨i,j,rfl,rfl,q _ (by intro H Y;rw [<- e.1];exact xW)⟩⟩
end
mutual
def ua:D->PyData
 | .non=>.none | .bl b=>.bool b | .int i=>.int i | .str x=>.str x | .tup xs=>.tuple (toPys xs) | .lst xs=>.list (toPys xs) | _=>.dict []
def toPys:List D->List PyData
 | []=>[] | d::ds=>ua d::toPys ds
end
def eqD(a b:D):Bool:=PyData.eqv (ua a) (ua b)
def z8X(d:D):Bool:=SeqAt.shaped (ua d)
def dEq(x y:D)(s:Sto):R D:=if z8X x=true/\z8X y=true then .ok (.bl (eqD x y)) s else .no
def dNe(x y:D)(s:Sto):R D:=if z8X x=true/\z8X y=true then .ok (.bl (!eqD x y)) s else .no
section
variable {P:Program}{w:World}{mg:Gm}{H:Hp}{Y:List Addr}{h:Heap}
mutual
theorem Den.reads(ok:HOk P w H h):∀ {d:D}{v:V}{u:Value},PyData.canLay0 (ua d)=true->Den mg H Y d v->wm v u->∃ as,Reads h u (ua d) as
 | .non,_,_,_,dn,r=>by simp only [Den] at dn;subst dn;cases r;exact ⟨_,by simpa [ua] using Reads.none⟩ | .bl b,_,_,_,dn,r=>by simp only [Den] at dn;subst dn;cases r;exact ⟨_,by simpa [ua] using Reads.bool b⟩ | .int i,_,_,_,dn,r=>by simp only [Den] at dn;subst dn;obtain ⟨t,rfl⟩:=r;exact ⟨_,by simpa [ua] using Reads.int i t⟩ | .str x,_,_,_,dn,r=>by simp only [Den] at dn;subst dn;obtain ⟨t,rfl⟩:=r;exact ⟨_,by simpa [ua] using Reads.str x t⟩ | .tup ds,_,_,c,dn,r=>by
  simp only [Den] at dn;obtain ⟨a,vs,rfl,h1,h2⟩:=dn;cases r;obtain ⟨_,its,rv,o,e,hc,_,n,hd⟩:=ok a _ h1;obtain ⟨as,q⟩:=zF.reads ok (by simpa [ua,PyData.canLay0] using c) h2 rv;rw [ua];exact ⟨as,Reads.tuple e hc hd (by simpa using q)⟩ | .lst ds,_,_,c,dn,r=>by
  simp only [Den] at dn;obtain ⟨a,o,vs,rfl,h1,h2⟩:=dn;cases r;obtain ⟨_,_,its,n,rv,e⟩:=ok a _ h1;obtain ⟨as,q⟩:=zF.reads ok (by simpa [ua,PyData.canLay0] using c) h2 rv;rw [ua];exact ⟨_,Reads.list e rfl rfl (by simpa using q)⟩ | .dct,_,_,c,_,_=>by simp [ua,PyData.canLay0] at c | .loc _,_,_,c,_,_=>by simp [ua,PyData.canLay0] at c | .fn _,_,_,c,_,_=>by simp [ua,PyData.canLay0] at c | .exc _,_,_,c,_,_=>by simp [ua,PyData.canLay0] at c
theorem zF.reads(ok:HOk P w H h):∀ {ds:List D}{vs:List V}{us:List Value},PyData.canLayAll0 (toPys ds)=true->zF mg H Y ds vs->yY vs us->∃ as,ReadsAll h us (toPys ds) as
 | [],_,_,_,dn,r=>by simp only [zF] at dn;subst dn;cases r;exact ⟨_,by simpa [toPys] using ReadsAll.nil⟩ | d::ds,_,_,c,dn,r=>by
  simp only [zF] at dn;obtain ⟨v,vs,rfl,h1,h2⟩:=dn;simp only [toPys,PyData.canLayAll0,Bool.and_eq_true] at c;cases r with | cons r1 r2=>
   obtain ⟨as,q⟩:=Den.reads ok c.1 h1 r1;obtain ⟨bs,q'⟩:=zF.reads ok c.2 h2 r2;rw [toPys];exact ⟨_,ReadsAll.cons q q'⟩
end
end
section
variable {X:Cx}{E:XK}
def zlQ(mg:Gm)(neg:Bool):R2:=fun x y H Q=>∃ Y d1 d2,Den mg H Y d1 x/\Den mg H Y d2 y/\z8X d1=true/\z8X d2=true/\Q (.bl (if neg then !eqD d1 d2 else eqD d1 d2)) H
theorem zic(hu:X.A.units+64<cLine):OpR X (compareOp .Eq) (zlQ (gm X) false):=by
 intro pins s O H x y v u Q I rx ry ⟨Y,d1,d2,h1,h2,p1,p2,q⟩;obtain ⟨as,ra⟩:=Den.reads I.hok (SeqAt.canLay_of_shaped p1) h1 rx;obtain ⟨bs,rb⟩:=Den.reads I.hok (SeqAt.canLay_of_shaped p2) h2 ry;exact SeqAt.compareEq_shaped ra rb p1 p2 hu ⟨.bl (eqD d1 d2),H,I,rfl,q⟩
theorem ziJ(hu:X.A.units+64<cLine):OpR X (compareOp .NotEq) (zlQ (gm X) true):=by
 intro pins s O H x y v u Q I rx ry ⟨Y,d1,d2,h1,h2,p1,p2,q⟩;obtain ⟨as,ra⟩:=Den.reads I.hok (SeqAt.canLay_of_shaped p1) h1 rx;obtain ⟨bs,rb⟩:=Den.reads I.hok (SeqAt.canLay_of_shaped p2) h2 ry;exact SeqAt.compareNe_shaped ra rb p1 p2 hu ⟨.bl (!eqD d1 d2),H,I,rfl,q⟩
theorem z59(hu:X.A.units+64<cLine):∃ r,OpR X (compareOp .Eq) r/\OpF X E r dEq:=⟨_,zic hu,fun H Y s d1 d2 v1 v2 Q r h1 h2 h=>by
 unfold dEq at h;split at h
 ·rename_i hc;exact ⟨Y,d1,d2,h1,h2,hc.1,hc.2,h.here r xW⟩
 ·exact h.elim⟩
theorem za7(hu:X.A.units+64<cLine):∃ r,OpR X (compareOp .NotEq) r/\OpF X E r dNe:=⟨_,ziJ hu,fun H Y s d1 d2 v1 v2 Q r h1 h2 h=>by
 unfold dNe at h;split at h
 ·rename_i hc;exact ⟨Y,d1,d2,h1,h2,hc.1,hc.2,h.here r xW⟩
 ·exact h.elim⟩
def z34:D->Option V
 | .non=>some .non | .bl b=>some (.bl b) | .int i=>some (.int i) | .str x=>some (.str x) | _=>none
theorem z6y{mg:Gm}{H:Hp}{Y:List Addr}{d:D}{v w:V}(h:z34 d=some w)(dn:Den mg H Y d v):v=w/\z4a v=true:=by cases d<;>simp only [z34,Option.some.injEq,reduceCtorEq] at h<;>(simp only [Den] at dn;subst dn;subst h;exact ⟨rfl,rfl⟩)
def kq:List D->Option (List V)
 | []=>some [] | d::ds=>match z34 d,kq ds with | some v,some vs=>some (v::vs) | _,_=>none
theorem z4W{mg:Gm}{H:Hp}{Y:List Addr}:∀ {ds:List D}{vs ws:List V},kq ds=some ws->zF mg H Y ds vs->vs=ws/\vs.all z4a=true
 | [],_,_,h,dn=>by simp only [kq,Option.some.injEq] at h;simp only [zF] at dn;subst dn;subst h;exact ⟨rfl,rfl⟩ | d::ds,_,_,h,dn=>by
  simp only [zF] at dn;obtain ⟨v,vs,rfl,h1,h2⟩:=dn;simp only [kq] at h;split at h
  ·rename_i w ws e1 e2;cases h;obtain ⟨a1,a2⟩:=z6y e1 h1;obtain ⟨b1,b2⟩:=z4W e2 h2;exact ⟨by rw [a1,b1],by rw [List.all_cons,a2,b2];rfl⟩
  ·cases h
def z9d(neg:Bool)(x y:D)(s:Sto):R D:=match z34 x,(zJ s y).bind kq with
 | some v,some vs=>.ok (.bl (if neg then !inV v vs else inV v vs)) s | _,_=>.no
theorem zfA{neg:Bool}:OpF X E (rIn X.K neg) (z9d neg):=fun H Y s d1 d2 v1 v2 Q r h1 h2 h=>by
 unfold z9d at h;split at h
 ·rename_i v vs e1 e2;cases e3:zJ s d2 with
  | none=>rw [e3] at e2;cases e2 | some xs=>
   rw [e3] at e2;obtain ⟨a,ws,rfl,q1,q2⟩:=uP (K:=X.K) r e3 h2;obtain ⟨b1,b2⟩:=z4W e2 q2;obtain ⟨a1,a2⟩:=z6y e1 h1;subst a1 b1;exact ⟨a,ws,rfl,q1,a2,b2,h.here r xW⟩
 ·exact h.elim
theorem zlF:∃ r,OpR X (compareOp .In) r/\OpF X E r (z9d false):=⟨_,zcA,zfA⟩
theorem zg0:∃ r,OpR X (compareOp .NotIn) r/\OpF X E r (z9d true):=⟨_,z7q,zfA⟩
def dIs:D->D->Sto->R D
 | .bl a,.bl b,s=>.ok (.bl (a==b)) s | .non,.non,s=>.ok (.bl true) s | .bl _,.non,s=>.ok (.bl false) s | .int _,.non,s=>.ok (.bl false) s | .str _,.non,s=>.ok (.bl false) s | .tup _,.non,s=>.ok (.bl false) s | .lst _,.non,s=>.ok (.bl false) s | _,_,_=>.no
theorem zjn:OpR X (compareOp .Is) (fun x y H Q=>∃ a b,x=.bl a/\y=.bl b/\Q (.bl (a==b)) H):=by
 intro pins s O H x y v u Q I rx ry ⟨a,b,e1,e2,q⟩;subst e1 e2;cases rx;cases ry;exact is_bool ⟨.bl (a==b),H,I,rfl,q⟩
theorem zmr:∃ r,OpR X (compareOp .Is) r/\OpF X E r dIs:=⟨_,zjn.or ziB,fun H Y s d1 d2 v1 v2 Q r h1 h2 h=>by
 unfold dIs at h;split at h
 ·cases jC h1;cases jC h2;exact .inl ⟨_,_,rfl,rfl,h.here r xW⟩
 ·simp only [Den] at h1 h2;subst h1 h2;exact .inr ⟨rfl,by have:=h.here r xW;simpa using this⟩
 ·simp only [Den] at h1 h2;subst h1 h2;exact .inr ⟨rfl,by have:=h.here r xW;simpa using this⟩
 ·simp only [Den] at h1 h2;subst h1 h2;exact .inr ⟨rfl,by have:=h.here r xW;simpa using this⟩
 ·simp only [Den] at h1 h2;subst h1 h2;exact .inr ⟨rfl,by have:=h.here r xW;simpa using this⟩
 ·simp only [Den] at h1 h2;obtain ⟨a,vs,rfl,_⟩:=h1;subst h2;exact .inr ⟨rfl,by have:=h.here r xW;simpa using this⟩
 ·simp only [Den] at h1 h2;obtain ⟨a,o,vs,rfl,_⟩:=h1;subst h2;exact .inr ⟨rfl,by have:=h.here r xW;simpa using this⟩
 ·exact h.elim⟩
def dIx(x y:D)(s:Sto):R D:=match y,zJ s x with
 | .int i,some xs=>match atI xs i with | some d=>.ok d s | none=>.no
 | _,_=>.no
theorem zds{mg:Gm}{H:Hp}{Y:List Addr}{xs:List D}{vs:List V}{i:Int}{d:D}(h:zF mg H Y xs vs)(e:atI xs i=some d):∃ v,atI vs i=some v/\Den mg H Y d v:=by
 unfold atI at e ⊢;rw [h.length];cases q:ixN xs.length i with
 | none=>rw [q] at e;cases e | some j=>
  rw [q] at e;exact h.get e
theorem zma:∃ r,IxR X r/\OpF X E r dIx:=⟨_,zfL.or zi0,fun H Y s d1 d2 v1 v2 Q r h1 h2 h=>by
 unfold dIx at h;split at h
 ·rename_i i xs e;split at h
  ·rename_i d e2;cases yG h2;obtain ⟨a,vs,rfl,q1,q2⟩:=uP (K:=X.K) r e h1;obtain ⟨v,e3,e4⟩:=zds q2 e2;rcases q1 with q1 | q1;·exact .inl ⟨a,vs,i,v,rfl,rfl,q1,e3,h.here r e4⟩
   ·exact .inr ⟨a,vs,i,v,rfl,rfl,q1,e3,h.here r e4⟩
  ·exact h.elim
 ·exact h.elim⟩
end
section
variable {X:Cx}{E:XK}{e a b c:Expr}{es:List Expr}{pos:Pos}
theorem zN{op:Operator}{fo:D->D->Sto->R D}{fa fb:FE}(ho:∃ r,OpR X (binaryOp op) r/\OpF X E r fo)(ha:RE X E a fa)(hb:RE X E b fb):RE X E (.BinOp a op b pos) (eOp fo fa fb):=let ⟨_,h⟩:=ho;zn6 h ha hb
theorem uO{op:CmpOp}{fo:D->D->Sto->R D}{fa fb:FE}(ho:∃ r,OpR X (compareOp op) r/\OpF X E r fo)(ha:RE X E a fa)(hb:RE X E b fb)(hm:behindInMarks op b=false:=by first | exact zf5 _ | rfl):RE X E (.Compare a [op] [b] pos) (eOp fo fa fb):=let ⟨_,h⟩:=ho;zjU h ha hb hm
def tOf(f:FE):FT:=fun Z s=>(f Z s).bind fun d s1=>match d with | .bl k=>.ok k s1 | _=>.no
theorem z9Y{f:FE}{O:L2.St}{H:Hp}{Q:Bool->Hp->Prop}(h:tT (gm X) E (tOf f) O H Q):zhC (tE (gm X) E f) O H Q:=by
 obtain ⟨Y,Z,s,r,en,h⟩:=h;refine yz (k:=fun Z d s1=>match d with | .bl k=>.ok k s1 | _=>.no) r en h _ fun v H1 Y1 s1 d r1 en1 dn stp h1=>?_;cases d with
 | bl k=>
  cases jC dn;exact ⟨k,rfl,h1.here (b:=k) r1 rfl⟩ | _=>exact h1.elim
theorem yp{op:CmpOp}{fo:D->D->Sto->R D}{fa fb:FE}(ho:∃ r,OpR X (compareOp op) r/\OpF X E r fo)(ha:RE X E a fa)(hb:RE X E b fb)(hm:behindInMarks op b=false:=by first | exact zf5 _ | rfl):RT X E (.Compare a [op] [b] pos) (tOf (eOp fo fa fb)):=by
 obtain ⟨r,h1,h2⟩:=ho;exact zc8 (zgv h1 ha hb hm) fun O H Q h=>by
  have q:=z9Y h;exact z9U h2 q
def zag(fo fo':D->D->Sto->R D)(fa fb fc:FE):FE:=fun Z s=>(fa Z s).bind fun x s1=>(fb Z s1).bind fun y s2=>(fo x y s2).bind fun z s3=>match z with
 | .bl true=>(fc Z s3).bind fun w s4=>fo' y w s4 | .bl false=>.ok (.bl false) s3 | _=>.no
theorem zcs{r r':R2}{fo fo':D->D->Sto->R D}{fa fb fc:FE}(ho:OpF X E r fo)(ho':OpF X E r' fo'){O:L2.St}{H:Hp}{Q:VK}(h:tE (gm X) E (zag fo fo' fa fb fc) O H Q):zfg r r' (tE (gm X) E fa) (tE (gm X) E fb) (tE (gm X) E fc) O H Q:=by
 obtain ⟨Y,Z,s,rp,en,h⟩:=h;refine yz (k:=fun Z x s1=>(fb Z s1).bind fun y s2=>(fo x y s2).bind fun z s3=>match z with
  | .bl true=>(fc Z s3).bind fun w s4=>fo' y w s4 | .bl false=>.ok (.bl false) s3 | _=>.no) rp en h _ fun v H1 Y1 s1 d r1 en1 dn stp h1=>?_;refine yz (k:=fun Z y s2=>(fo d y s2).bind fun z s3=>match z with
  | .bl true=>(fc Z s3).bind fun w s4=>fo' y w s4 | .bl false=>.ok (.bl false) s3 | _=>.no) r1 en1 h1 _ fun v2 H2 Y2 s2 d2 r2 en2 dn2 stp2 h2=>?_;refine ho H2 Y2 s2 d d2 v v2 _ r2 (dn.mono stp2) dn2 ((okR.bind (Dn:=Den (gm X)) h2).imp fun v3 H3 ⟨Y3,s3,d3,stp3,dn3,h3⟩=>?_);cases d3 with
 | bl k=>
  cases jC dn3;refine ⟨k,rfl,?_⟩;cases k with
  | true=>
   rw [if_pos rfl];refine yz (k:=fun Z w s4=>fo' d2 w s4) stp3.rep (en2.mono stp3) h3 _ fun v4 H4 Y4 s4 d4 r4 en4 dn4 stp4 h4=>?_;exact ho' H4 Y4 s4 d2 d4 v2 v4 Q r4 ((dn2.mono stp3).mono stp4) dn4 h4 | false=>
   rw [if_neg (by decide)];exact okR.here (b:=V.bl false) h3 stp3.rep xW
 | _=>exact h3.elim
theorem zgr{op op':CmpOp}{fo fo':D->D->Sto->R D}{fa fb fc:FE}(ho:∃ r,OpR X (compareOp op) r/\OpF X E r fo)(ho':∃ r,OpR X (compareOp op') r/\OpF X E r fo')(ha:RE X E a fa)(hb:RE X E b fb)(hc:RE X E c fc) (hm:lastMarks [op,op'] [b,c]=false:=by with_unfolding_all rfl):RE X E (.Compare a [op,op'] [b,c] pos) (zag fo fo' fa fb fc):=by
 obtain ⟨r,h1,h2⟩:=ho;obtain ⟨r',h1',h2'⟩:=ho';exact zW (zeD h1 h1' ha hb hc hm) fun O H Q h=>zcs h2 h2' h
def z89(fa fb:FE):FE:=fun Z s=>(fa Z s).bind fun x s1=>match x with | .bl true=>fb Z s1 | .bl false=>.ok (.bl false) s1 | _=>.no
def eOr(fa fb:FE):FE:=fun Z s=>(fa Z s).bind fun x s1=>match x with | .bl false=>fb Z s1 | .bl true=>.ok (.bl true) s1 | _=>.no
def zjq(fa:FE):FE:=fun Z s=>(fa Z s).bind fun x s1=>match x with | .bl k=>.ok (.bl (!k)) s1 | _=>.no
variable {qo:List Expr}
theorem z5Y{op:BoolOp}{f:FE}(h:RE X E a f):RE X E (.BoolOp op [a] pos) f:=zjg h
theorem z6n{fa fb:FE}(ha:RE X E a fa)(hb:RE X E (.BoolOp .And (b::qo) pos) fb):RE X E (.BoolOp .And (a::b::qo) pos) (z89 fa fb):= zW (zi9 ha hb) fun O H Q ⟨Y,Z,s,r,en,h⟩=>by
  refine yz (k:=fun Z x s1=>match x with | .bl true=>fb Z s1 | .bl false=>.ok (.bl false) s1 | _=>.no) r en h _ fun v H1 Y1 s1 d r1 en1 dn stp h1=>?_;cases d with
  | bl k=>
   cases jC dn;refine ⟨k,rfl,?_⟩;cases k with
   | true=>rw [if_pos rfl];exact ⟨Y1,Z,s1,r1,en1,h1⟩ | false=>rw [if_neg (by decide)];exact okR.here (b:=V.bl false) h1 r1 xW
  | _=>exact h1.elim
theorem zie{fa:FE}(ha:RE X E a fa):RE X E (.UnaryOp .Not a pos) (zjq fa):= zW (zj3 ha) fun O H Q ⟨Y,Z,s,r,en,h⟩=>by
  refine yz (k:=fun Z x s1=>match x with | .bl k=>R.ok (D.bl (!k)) s1 | _=>.no) r en h _ fun v H1 Y1 s1 d r1 en1 dn stp h1=>?_;cases d with
  | bl k=>
   cases jC dn;exact ⟨k,rfl,okR.here (b:=V.bl (!k)) h1 r1 xW⟩ | _=>exact h1.elim
def zhF(fa fb:FT):FT:=fun Z s=>(fa Z s).bind fun x s1=>if x=true then fb Z s1 else .ok false s1
def fOr(fa fb:FT):FT:=fun Z s=>(fa Z s).bind fun x s1=>if x=true then .ok true s1 else fb Z s1
def z40(fa:FT):FT:=fun Z s=>(fa Z s).bind fun x s1=>.ok (!x) s1
def RW(X:Cx)(E:XK)(e:Expr)(f:FT):Prop:=PW X e (tT (gm X) E f)
theorem RW.rt{f:FT}(h:RW X E e f):RT X E e f:=PW.pt h
theorem zfa{t t':TT}(h:PW X e t)(i:∀ O H Q,t' O H Q->t O H Q):PW X e t':=fun wh pins s O H Q I q=>h wh pins s O H Q I (i O H Q q)
theorem zf1{f:FT}(h:RT X E a f):RW X E (.BoolOp .And [a] pos) f:=zhp h
theorem z8U{f:FT}(h:RT X E a f):RW X E (.BoolOp .Or [a] pos) f:=ziU h
theorem w_and{fa fb:FT}(ha:RT X E a fa)(hb:RW X E (.BoolOp .And (b::qo) pos) fb):RW X E (.BoolOp .And (a::b::qo) pos) (zhF fa fb):= zfa (ziX ha hb) fun O H Q ⟨Y,Z,s,r,en,h⟩=>by
  refine z3B (k:=fun Z x s1=>if x=true then fb Z s1 else .ok false s1) r en h _ fun v H1 Y1 s1 r1 en1 stp h1=>?_;cases v with
  | true=>rw [if_pos rfl] at h1 ⊢;exact ⟨Y1,Z,s1,r1,en1,h1⟩ | false=>rw [if_neg (by decide)] at h1 ⊢;exact h1.here r1 rfl
theorem zf6{fa fb:FT}(ha:RT X E a fa)(hb:RW X E (.BoolOp .Or (b::qo) pos) fb):RW X E (.BoolOp .Or (a::b::qo) pos) (fOr fa fb):= zfa (zkI ha hb) fun O H Q ⟨Y,Z,s,r,en,h⟩=>by
  refine z3B (k:=fun Z x s1=>if x=true then .ok true s1 else fb Z s1) r en h _ fun v H1 Y1 s1 r1 en1 stp h1=>?_;cases v with
  | false=>rw [if_neg (by decide)] at h1 ⊢;exact ⟨Y1,Z,s1,r1,en1,h1⟩ | true=>rw [if_pos rfl] at h1 ⊢;exact h1.here r1 rfl
theorem kM{fa:FT}(ha:RT X E a fa):RT X E (.UnaryOp .Not a pos) (z40 fa):= zc8 (ziY ha) fun O H Q ⟨Y,Z,s,r,en,h⟩=>z3B (k:=fun Z x s1=>.ok (!x) s1) r en h _ fun v H1 Y1 s1 r1 en1 stp h1=>h1.here r1 rfl
theorem qE{f:FE}(h:RE X E a f)(he:∀ whole,isTrue a X.env whole=(do let v <- whole;standAt a.pos;holding [v] (truthy v)):=by intro _;rfl):RT X E a (tOf f):= zc8 (zhJ h he) fun O H Q h=>z9Y h
def eIf(ft:FT)(fa fb:FE):FE:=fun Z s=>(ft Z s).bind fun x s1=>if x=true then fa Z s1 else fb Z s1
theorem zkk{ft:FT}{fa fb:FE}(hc:RT X E c ft)(ha:RE X E a fa)(hb:RE X E b fb):RE X E (.IfExp c a b pos) (eIf ft fa fb):= zW (zek hc ha hb) fun O H Q ⟨Y,Z,s,r,en,h⟩=>z3B (k:=fun Z x s1=>if x=true then fa Z s1 else fb Z s1) r en h _ fun v H1 Y1 s1 r1 en1 stp h1=>by cases v with
  | true=>rw [if_pos rfl] at h1 ⊢;exact ⟨Y1,Z,s1,r1,en1,h1⟩ | false=>rw [if_neg (by decide)] at h1 ⊢;exact ⟨Y1,Z,s1,r1,en1,h1⟩
theorem uo {fa fb:FE} (ha:RE X E a fa) (hb:RE X E b fb) (hs:z8i b:=by intro _ _;rfl):RE X E (.Subscript a b pos) (eOp dIx fa fb):=by
 obtain ⟨r,h1,h2⟩:=zma (X:=X) (E:=E);exact zW (zju h1 ha hb hs) fun O H Q h=>z9U h2 h
def zh:FA:=fun _ s=>.ok [] s
def za(fa:FE)(fr:FA):FA:=fun Z s=>(fa Z s).bind fun x s1=>(fr Z s1).bind fun xs s2=>.ok (x::xs) s2
theorem zd:RA X E [] zh:=zfc jL fun O H Q ⟨Y,Z,s,r,en,h⟩=>h.here r zF.nil
theorem vZ{fa:FE}{fr:FA}(ha:RE X E e fa)(hr:RA X E es fr)(hs:starEach (e::es) X.env=(false,eval e X.env)::starEach es X.env:=by rfl):RA X E (e::es) (za fa fr):= zfc (wj ha hr hs) fun O H Q ⟨Y,Z,s,r,en,h⟩=>by
  refine yz (k:=fun Z x s1=>(fr Z s1).bind fun xs s2=>.ok (x::xs) s2) r en h _ fun v H1 Y1 s1 d r1 en1 dn stp h1=>?_;refine qf (k:=fun Z xs s2=>.ok (d::xs) s2) r1 en1 h1 _ fun vs H2 Y2 s2 ds r2 en2 dn2 stp2 h2=>?_;exact h2.here r2 (zF.cons (dn.mono stp2) dn2)
def uA(f:FA):FE:=fun Z s=>(f Z s).bind fun xs s1=>if xs.length<=cap then .ok (.tup xs) s1 else .no
theorem xQ{f:FA}{x1:Nat}(h:RA X E es f):RE X E (.Tuple es x1 pos) (uA f):= zW (zff h) fun O H Q ⟨Y,Z,s,r,en,h⟩=>by
  refine qf (k:=fun Z xs s1=>if xs.length<=cap then R.ok (D.tup xs) s1 else .no) r en h _ fun vs H2 Y2 s2 ds r2 en2 dn2 stp2 h2=>?_;split at h2
  ·rename_i hl;exact ⟨by rw [dn2.length];exact jz hl,z23 r2 h2 dn2⟩
  ·exact h2.elim
def qG(f:FA):FE:=fun Z s=>(f Z s).bind fun xs s1=>if xs.length<=cap then .ok (.lst xs) s1 else .no
theorem vp{f:FA}(h:RA X E es f):RE X E (.List es pos) (qG f):= zW (zf9 h).freeze fun O H Q ⟨Y,Z,s,r,en,h⟩=>by
  refine qf (k:=fun Z xs s1=>if xs.length<=cap then R.ok (D.lst xs) s1 else .no) r en h _ fun vs H2 Y2 s2 ds r2 en2 dn2 stp2 h2=>?_;split at h2
  ·rename_i hl;exact ⟨by rw [dn2.length];exact jz hl,kZ r2 h2 dn2⟩
  ·exact h2.elim
def zaf(f:FA):FE:=fun Z s=>(f Z s).bind fun xs s1=>if xs.length<=cap/\D.flat.flats xs=true then .ok (.loc s1.length) (s1++[xs]) else .no
theorem zd1{mg:Gm}{H:Hp}{Y:List Addr}{s:Sto}{xs:List D}{vs:List V}{Q:VK}(r:Rep mg H Y s)(h:okR mg E H Y (Den mg) (.ok (.loc s.length) (s++[xs])) Q)(hf:D.flat.flats xs=true)(hd:zF mg H Y xs vs):∀ p,H p=none->Q (.ref p) (upd H p (.lst vs)):=fun p hp=>by
 refine h _ _ _ (vf.layL r hp hd hf) ?_;simp only [Den];exact ⟨p,rfl,by rw [<- r.len];simp⟩
theorem z4y{f:FA}(h:RA X E es f):RE X E (.List es pos) (zaf f):= zW (zf9 h) fun O H Q ⟨Y,Z,s,r,en,h⟩=>by
  refine qf (k:=fun Z xs s1=>if xs.length<=cap/\D.flat.flats xs=true then R.ok (D.loc s1.length) (s1++[xs]) else .no) r en h _ fun vs H2 Y2 s2 ds r2 en2 dn2 stp2 h2=>?_;split at h2
  ·rename_i hl;exact ⟨by rw [dn2.length];exact jz hl.1,zd1 r2 h2 hl.2 dn2⟩
  ·exact h2.elim
def z1n(X:Cx)(E:XK)(r:List V->Hp->VK->Prop)(g:List D->Sto->R D):Prop:= ∀ H Y s ds vs (Q:VK),Rep (gm X) H Y s->zF (gm X) H Y ds vs->okR (gm X) E H Y (Den (gm X)) (g ds s) Q->r vs H Q
def ze(g:List D->Sto->R D)(f:FA):FE:=fun Z s=>(f Z s).bind fun xs s1=>g xs s1
theorem zK {x:Str} {p:Pos} {id:String} {g:List D->Sto->R D} {f:FA} (hc:∃ r,wu X (.builtin id) r/\z1n X E r g) (hg:Gl X x) (hm:X.mg x=none) (hv:bootBuiltins x=some (.builtin id)) (ha:RA X E (e::es) f) (hn:x≠"__name__":=by decide) (hdb:(x==("__debug__":Str))=false:=by decide) (he:starEach (e::es) X.env=(false,eval e X.env)::starEach es X.env:=by rfl) (hpl:(backTo pos (starEach es X.env)).any (·.1)=false:=by rfl):RE X E (.Call (.Name x p) (e::es) [] pos) (ze g f):=by
 obtain ⟨r,h1,h2⟩:=hc;exact zW (z11 h1 hg hm hv ha hn hdb he hpl) fun O H Q ⟨Y,Z,s,r,en,h⟩=> qf (k:=fun Z xs s1=>g xs s1) r en h _ fun vs H2 Y2 s2 ds r2 en2 dn2 stp2 h3=>h2 H2 Y2 s2 ds vs Q r2 dn2 h3
theorem yQ {x:Str} {p:Pos} {T:String} {g:List D->Sto->R D} {f:FA} (hc:∃ r,wu X (.type T) r/\z1n X E r g) (hg:Gl X x) (hm:X.mg x=none) (hv:bootBuiltins x=some (.type T)) (ha:RA X E (e::es) f) (hn:x≠"__name__":=by decide) (hdb:(x==("__debug__":Str))=false:=by decide) (he:starEach (e::es) X.env=(false,eval e X.env)::starEach es X.env:=by rfl) (hpl:(backTo pos (starEach es X.env)).any (·.1)=false:=by rfl):RE X E (.Call (.Name x p) (e::es) [] pos) (ze g f):=by
 obtain ⟨r,h1,h2⟩:=hc;exact zW (zbv h1 hg hm hv ha hn hdb he hpl) fun O H Q ⟨Y,Z,s,r,en,h⟩=> qf (k:=fun Z xs s1=>g xs s1) r en h _ fun vs H2 Y2 s2 ds r2 en2 dn2 stp2 h3=>h2 H2 Y2 s2 ds vs Q r2 dn2 h3
theorem z1s{mg:Gm}{H:Hp}{Y:List Addr}{d:D}{vs:List V}(h:zF mg H Y [d] vs):∃ v,vs=[v]/\Den mg H Y d v:=by
 simp only [zF] at h;obtain ⟨v,r,rfl,h1,rfl⟩:=h;exact ⟨v,rfl,h1⟩
theorem zar{mg:Gm}{H:Hp}{Y:List Addr}{d d':D}{vs:List V}(h:zF mg H Y [d,d'] vs):∃ v v',vs=[v,v']/\Den mg H Y d v/\Den mg H Y d' v':=by
 simp only [zF] at h;obtain ⟨v,r,rfl,h1,v',r',rfl,h2,rfl⟩:=h;exact ⟨v,v',rfl,h1,h2⟩
def yJ:List D->Sto->R D
 | [d],s=>match zJ s d with | some xs=>.ok (.int xs.length) s | none=>.no
 | _,_=>.no
theorem uw:∃ r,wu X (.builtin "len") r/\z1n X E r yJ:=⟨_,z7Q,fun H Y s ds vs Q r hd h=>by
 unfold yJ at h;split at h
 ·split at h
  ·rename_i d xs e;obtain ⟨v,rfl,dn⟩:=z1s hd;obtain ⟨a,ws,rfl,q1,q2⟩:=uP (K:=X.K) r e dn;exact ⟨a,ws,rfl,q1,by rw [q2.length];exact h.here r yT⟩
  ·exact h.elim
 ·exact h.elim⟩
def yc:List D->Sto->R D
 | [d],s=>match zJ s d with | some xs=>.ok (.tup xs) s | none=>.no
 | _,_=>.no
theorem xL:∃ r,wu X (.type "tuple") r/\z1n X E r yc:=⟨_,z6m,fun H Y s ds vs Q r hd h=>by match ds,hd,h with
 | [],_,h=>exact h.elim | _::_::_,_,h=>exact h.elim | [d],hd,h=>
  obtain ⟨v,rfl,dn⟩:=z1s hd;simp only [yc] at h;cases e:zJ s d with
  | none=>rw [e] at h;exact h.elim | some xs=>
   rw [e] at h;cases d with
   | tup ys=>
    simp only [zJ,Option.some.injEq] at e;subst e;obtain ⟨a,ws,rfl,q1,q2⟩:=jB (K:=X.K) dn;exact ⟨a,ws,rfl,.inr ⟨q1,h.here r dn⟩⟩ | lst ys=>
    obtain ⟨a,ws,rfl,q1,q2⟩:=yg (d:=.lst ys) r e dn;exact ⟨a,ws,rfl,.inl ⟨.inl q1,z23 r h q2⟩⟩ | loc l=>
    obtain ⟨a,ws,rfl,q1,q2⟩:=yg (d:=.loc l) r e dn;exact ⟨a,ws,rfl,.inl ⟨.inl q1,z23 r h q2⟩⟩ | scr ys=>
    simp only [zJ,Option.some.injEq] at e;subst e;obtain ⟨a,ws,rfl,q1,q2⟩:=zfy dn;exact ⟨a,ws,rfl,.inl ⟨q1,z23 r h q2⟩⟩ | _=>simp [zJ] at e⟩
def zaB:List D->Sto->R D
 | [d],s=>match zJ s d with | some xs=>.ok (.lst xs) s | none=>.no
 | _,_=>.no
theorem zj8:∃ r,wu X (.type "list") r/\z1n X E r zaB:=⟨_,z6S.freeze,fun H Y s ds vs Q r hd h=>by
 unfold zaB at h;split at h
 ·split at h
  ·rename_i d xs e;obtain ⟨v,rfl,dn⟩:=z1s hd;obtain ⟨a,ws,rfl,q1,q2⟩:=uP (K:=X.K) r e dn;exact ⟨a,ws,rfl,q1,kZ r h q2⟩
  ·exact h.elim
 ·exact h.elim⟩
def za5:List D->Sto->R D
 | [.int i],s=>.ok (.int i) s | [.bl b],s=>.ok (.int (if b then 1 else 0)) s | _,_=>.no
theorem zgk:∃ r,wu X (.type "int") r/\z1n X E r za5:=⟨_,zbX,fun H Y s ds vs Q r hd h=>by
 unfold za5 at h;split at h
 ·rename_i i;obtain ⟨v,rfl,dn⟩:=z1s hd;cases yG dn;exact .inl ⟨i,rfl,h.here r yT⟩
 ·rename_i b;obtain ⟨v,rfl,dn⟩:=z1s hd;cases jC dn;exact .inr ⟨b,rfl,h.here r yT⟩
 ·exact h.elim⟩
def zdS:List D->Sto->R D
 | [.int i,.int j],s=>.ok (.int (if j > i then j else i)) s | _,_=>.no
def zdL:List D->Sto->R D
 | [.int i,.int j],s=>.ok (.int (if j<i then j else i)) s | _,_=>.no
theorem zhS(hc:X.calm=true):∃ r,wu X (.builtin "max") r/\z1n X E r zdS:=⟨_,zbB hc,fun H Y s ds vs Q r hd h=>by
 unfold zdS at h;split at h
 ·rename_i i j;obtain ⟨v,v',rfl,d1,d2⟩:=zar hd;cases yG d1;cases yG d2;exact ⟨i,j,rfl,h.here r yT⟩
 ·exact h.elim⟩
theorem ziF(hc:X.calm=true):∃ r,wu X (.builtin "min") r/\z1n X E r zdL:=⟨_,zca hc,fun H Y s ds vs Q r hd h=>by
 unfold zdL at h;split at h
 ·rename_i i j;obtain ⟨v,v',rfl,d1,d2⟩:=zar hd;cases yG d1;cases yG d2;exact ⟨i,j,rfl,h.here r yT⟩
 ·exact h.elim⟩
abbrev FO:=Ev->Sto->R (Option Int)
def oD(_:Hp)(_:List Addr)(a b:Option Int):Prop:=a=b
def tO(mg:Gm)(E:XK)(f:FO):TO:=fun O H Q=>∃ Y Z s,Rep mg H Y s/\qm mg H Y Z O/\okR mg E H Y oD (f Z s) Q
def RO(X:Cx)(E:XK)(e:Option Expr)(f:FO):Prop:=PO X e (tO (gm X) E f)
theorem zeV{o:Option Expr}{t t':TO}(h:PO X o t)(i:∀ O H Q,t' O H Q->t O H Q):PO X o t':=fun pins s O H Q I q=>h pins s O H Q I (i O H Q q)
def yd:FO:=fun _ s=>.ok none s
def wF(f:FE):FO:=fun Z s=>(f Z s).bind fun d s1=>match d with | .int i=>.ok (some i) s1 | _=>.no
theorem wW:RO X E none yd:=zeV zcJ fun O H Q ⟨Y,Z,s,r,en,h⟩=>h.here (b:=none) r rfl
theorem wI{f:FE}(h:RE X E e f):RO X E (some e) (wF f):=zeV (zfR h) fun O H Q ⟨Y,Z,s,r,en,h⟩=>by
 refine yz (k:=fun Z d s1=>match d with | .int i=>.ok (some i) s1 | _=>.no) r en h _ fun v H1 Y1 s1 d r1 en1 dn stp h1=>?_;cases d with
 | int i=>cases yG dn;exact ⟨i,rfl,h1.here (b:=some i) r1 rfl⟩ | _=>exact h1.elim
def cutD(xs:List D)(lo hi:Option Int):List D:=(xs.drop (HT.sIx xs.length 0 lo)).take (HT.sIx xs.length xs.length hi-HT.sIx xs.length 0 lo)
theorem z5C{mg:Gm}{H:Hp}{Y:List Addr}{xs:List D}{vs:List V}(h:zF mg H Y xs vs)(lo hi:Option Int):zF mg H Y (cutD xs lo hi) (zfj vs lo hi):=by
 unfold cutD zfj;rw [h.length];exact (h.drop _).take _
def dSl(x:D)(lo hi:Option Int)(s:Sto):R D:=match x with
 | .tup xs=>.ok (.tup (cutD xs lo hi)) s | x=>match listOf s x with | some xs=>.ok (.lst (cutD xs lo hi)) s | none=>.no
def eSl(fe:FE)(fl fh:FO):FE:=fun Z s=>(fe Z s).bind fun x s1=>(fl Z s1).bind fun lo s2=>(fh Z s2).bind fun hi s3=>dSl x lo hi s3
theorem z98{α β:Type}{Dn:Hp->List Addr->α->β->Prop}{mg:Gm}{f:FO}{k:Ev->Option Int->Sto->R α}{O:L2.St}{H:Hp}{Q:β->Hp->Prop}{Y:List Addr}{Z:Ev}{s:Sto}(r:Rep mg H Y s)(en:qm mg H Y Z O) (h:okR mg E H Y Dn ((f Z s).bind (k Z)) Q)(K:Option Int->Hp->Prop) (hK:∀ v H1 Y1 s1,Rep mg H1 Y1 s1->qm mg H1 Y1 Z O->vf mg H Y H1 Y1 s1->okR mg E H1 Y1 Dn (k Z v s1) Q->K v H1):tO mg E f O H K:= ⟨Y,Z,s,r,en,(okR.bind (Dn:=oD) h).imp fun v H1 ⟨Y1,s1,d,stp,dn,q⟩=>hK v H1 Y1 s1 stp.rep (en.mono stp) stp (by cases (show d=v from dn);exact q)⟩
theorem xn{lo hi:Option Expr}{p2:Pos}{fe:FE}{fl fh:FO}(he:RE X E e fe)(hl:RO X E lo fl)(hh:RO X E hi fh):RE X E (.Subscript e (.Slice lo hi none p2) pos) (eSl fe fl fh):= zW (z9t ((zhL.or zfZ).or zgC.freeze) he hl hh) fun O H Q ⟨Y,Z,s,r,en,h⟩=>by
  refine yz (k:=fun Z x s1=>(fl Z s1).bind fun lo s2=>(fh Z s2).bind fun hi s3=>dSl x lo hi s3) r en h _ fun v H1 Y1 s1 d r1 en1 dn stp h1=>?_;refine z98 (k:=fun Z lo s2=>(fh Z s2).bind fun hi s3=>dSl d lo hi s3) r1 en1 h1 _ fun lo H2 Y2 s2 r2 en2 stp2 h2=>?_;refine z98 (k:=fun Z hi s3=>dSl d lo hi s3) r2 en2 h2 _ fun hi H3 Y3 s3 r3 en3 stp3 h3=>?_;have dn3:=(dn.mono stp2).mono stp3;cases d with
  | tup xs=>
   obtain ⟨a,vs,rfl,q1,q2⟩:=jB (K:=X.K) dn3;have h3':okR (gm X) E H3 Y3 (Den (gm X)) (.ok (.tup (cutD xs lo hi)) s3) Q:=h3;by_cases hw:HT.sIx vs.length 0 lo=0/\HT.sIx vs.length vs.length hi=vs.length
   ·refine .inl (.inr ⟨a,vs,rfl,q1,hw,?_⟩);have e:cutD xs lo hi=xs:=by
     unfold cutD;rw [<- q2.length,hw.1,hw.2];simp [q2.length]
    rw [e] at h3';exact h3'.here r3 dn3
   ·exact .inl (.inl ⟨a,vs,rfl,q1,hw,z23 r3 h3' (z5C q2 lo hi)⟩) | lst xs=>
   obtain ⟨a,vs,rfl,q1,q2⟩:=yg (d:=.lst xs) r3 rfl dn3;exact .inr ⟨a,vs,rfl,.inl q1,kZ r3 h3 (z5C q2 lo hi)⟩ | loc l=>
   simp only [dSl] at h3;split at h3
   ·rename_i xs e;obtain ⟨a,vs,rfl,q1,q2⟩:=yg (d:=.loc l) r3 e dn3;exact .inr ⟨a,vs,rfl,.inl q1,kZ r3 h3 (z5C q2 lo hi)⟩
   ·exact h3.elim | _=>exact h3.elim
end
abbrev Mir:=List D->Sto->R D
def zeK(mg:Gm)(M:Mir):Sp:=fun vs H Q E=>∃ Y s ds,Rep mg H Y s/\zF mg H Y ds vs/\okR mg E H Y (Den mg) (M ds s) Q
def Has(P:Program)(w:World)(K:W.Frag)(mg:Str->Option Value)(base:Heap)(CX:CXT)(x:Str)(n:Nat)(M:Mir):Prop:= ∃ f fd ps,z4U P w K mg base CX n f fd ps (zeK ⟨mg,K⟩ M)/\Binds K fd ps []/\W.keepIn K (.ref f)=true/\mg x=some (.ref f)
section
variable {X:Cx}{E:XK}{e a b c:Expr}{es:List Expr}{pos:Pos}{CX:CXT}
theorem zu {x:Str} {p:Pos} {n:Nat} {M:Mir} {f:FA} (F:Has X.prog X.w X.K X.mg X.base CX x n M) (hr:z14 n X.A) (hx:Passes CX X E) (hg:Gl X x) (ha:RA X E (e::es) f) (hdb:(x==("__debug__":Str))=false:=by decide) (he:starEach (e::es) X.env=(false,eval e X.env)::starEach es X.env:=by rfl) (hpl:(backTo pos (starEach es X.env)).any (·.1)=false:=by rfl):RE X E (.Call (.Name x p) (e::es) [] pos) (ze M f):=by
 obtain ⟨fa,fd,ps,F,hb,hk,hm⟩:=F;refine zW (zfS F hr hg hm hk hb .nil hx ha hdb he hpl) fun O H Q ⟨Y,Z,s,r,en,h⟩=>?_;refine qf (k:=fun Z xs s1=>M xs s1) r en h _ fun vs H2 Y2 s2 ds r2 en2 dn2 stp2 h3=>?_;rw [List.append_nil];exact ⟨Y2,s2,ds,r2,dn2,h3⟩
def zE(f g:FS):FS:=fun Z s=>(f Z s).bind fun fl s1=>match fl with | .nx Z'=>g Z' s1 | fl=>.ok fl s1
def xp:FS:=fun Z s=>.ok (.nx Z) s
variable {st:Stmt}{rs:List Stmt}
theorem zjB {mg:Gm} {f g:FS} {D:zhq} {O:L2.St} {H:Hp} (h:tS mg E (zE f g) D O H):zlP (tS mg E f) (tS mg E g) D O H:=by
 obtain ⟨Y,Z,s,r,en,h⟩:=h;refine ⟨Y,Z,s,r,en,(okR.bind (Dn:=FlD mg) h).imp fun fv H1 ⟨Y1,s1,fl,stp,dn,q⟩=>?_⟩;cases fl with
 | nx Z'=> cases fv with
  | nx O'=>exact ⟨Y1,Z',s1,stp.rep,dn,q⟩ | _=>exact (show False from dn).elim
 | rt d=> cases fv with
  | rt v=>exact okR.here (b:=FlV.rt v) (Q:=z4Q D) (s:=s1) (a:=Fl.rt d) q stp.rep dn | _=>exact (show False from dn).elim
 | bk Z'=> cases fv with
  | bk v=>exact okR.here (b:=FlV.bk v) (Q:=z4Q D) (s:=s1) (a:=Fl.bk Z') q stp.rep dn | _=>exact (show False from dn).elim
 | ct Z'=> cases fv with
  | ct v=>exact okR.here (b:=FlV.ct v) (Q:=z4Q D) (s:=s1) (a:=Fl.ct Z') q stp.rep dn | _=>exact (show False from dn).elim
theorem yI:RSs X E [] xp:=zbn zgl fun D O H ⟨Y,Z,s,r,en,h⟩=>okR.here (b:=FlV.nx O) h r en
theorem zf{f g:FS}(h1:RS X E st f)(h2:RSs X E rs g):RSs X E (st::rs) (zE f g):=zbn (zeE h1 h2) fun D O H h=>zjB h
theorem zj{f:FS}(h1:RS X E st f):RSs X E [st] f:=zh2 h1
def fNo:FS:=fun _ _=>.no
theorem z3q:RS X E st fNo:=kG zdP fun D O H ⟨_,_,_,_,_,h⟩=>h
def wQ(f:FE):FS:=fun Z s=>(f Z s).bind fun _ s1=>.ok (.nx Z) s1
theorem wP {f:FE} (he:RE X E e f) (hs:swapsWith e none pos.line X.env=pure false:=by rfl):RS X E (.Expr e pos) (wQ f):= kG (zhy he hs) fun D O H ⟨Y,Z,s,r,en,h⟩=>yz (k:=fun Z _ s1=>R.ok (Fl.nx Z) s1) r en h _ fun v H1 Y1 s1 d r1 en1 dn stp h1=>okR.here (b:=FlV.nx O) (Q:=z4Q D) h1 r1 en1
def xJ(f:FE):FS:=fun Z s=>(f Z s).bind fun d s1=>.ok (.rt d) s1
theorem zY {f:FE} (he:RE X E e f):RS X E (.Return (some e) pos) (xJ f):= kG (zjD he) fun D O H ⟨Y,Z,s,r,en,h⟩=>yz (k:=fun Z d s1=>R.ok (Fl.rt d) s1) r en h _ fun v H1 Y1 s1 d r1 en1 dn stp h1=>okR.here (b:=FlV.rt v) (Q:=z4Q D) h1 r1 dn
def fIf(ft:FT)(f g:FS):FS:=fun Z s=>(ft Z s).bind fun x s1=>if x=true then f Z s1 else g Z s1
theorem z0p{ft:FT}{f g:FS}{as bs:List Stmt}(hc:RT X E c ft)(ha:RSs X E as f)(hb:RSs X E bs g):RS X E (.If c as bs pos) (fIf ft f g):= kG (zkG hc ha hb) fun D O H ⟨Y,Z,s,r,en,h⟩=>z3B (k:=fun Z x s1=>if x=true then f Z s1 else g Z s1) r en h _ fun v H1 Y1 s1 r1 en1 stp h1=>by cases v with
  | true=>rw [if_pos rfl] at h1 ⊢;exact ⟨Y1,Z,s1,r1,en1,h1⟩ | false=>rw [if_neg (by decide)] at h1 ⊢;exact ⟨Y1,Z,s1,r1,en1,h1⟩
abbrev FG:=D->Ev->Sto->R Ev
def tG(mg:Gm)(E:XK)(f:FG):TG:=fun v O H Q=>∃ Y Z s d,Rep mg H Y s/\qm mg H Y Z O/\Den mg H Y d v/\okR mg E H Y (qm mg) (f d Z s) (fun O' H'=>Q O' H')
def RG(X:Cx)(E:XK)(tg:Expr)(f:FG):Prop:=PG X tg (tG (gm X) E f)
theorem zfH{tg:Expr}{t t':TG}(h:PG X tg t)(i:∀ v O H Q,t' v O H Q->t v O H Q):PG X tg t':=fun pins s O H v u Q I r q=>h pins s O H v u Q I r (i v O H Q q)
def yE(i:Nat):FG:=fun d Z s=>.ok (Z.set i (some d)) s
theorem kO(i:Nat){x:Str}(hN:X.N.Nodup)(hi:X.N[i]? = some x:=by rfl)(hx:Loc X.env.scope x:=by first | exact Or.inl rfl | exact Or.inr rfl)(hf:X.fn x=true\/X.env.scope.names.lookup x=some .local:=by first | exact .inl rfl | exact .inr rfl | assumption):RG X E (.Name x pos) (yE i):= zfH (zU hN hi hx hf) fun v O H Q ⟨Y,Z,s,d,r,en,dn,h⟩=>okR.here (b:=O.set i (some v)) h r (en.set dn i)
def wf(i j:Nat):FG:=fun d Z s=>match d with | .tup [x,y]=>.ok ((Z.set i (some x)).set j (some y)) s | _=>.no
theorem z25(i j:Nat){x y:Str}{px py:Pos}{kt:Nat}(hc:X.calm=true)(hN:X.N.Nodup)(hi:X.N[i]? = some x:=by rfl)(hj:X.N[j]? = some y:=by rfl)(hx:Loc X.env.scope x:=by first | exact Or.inl rfl | exact Or.inr rfl)(hy:Loc X.env.scope y:=by first | exact Or.inl rfl | exact Or.inr rfl) (hf:X.fn x=true\/X.env.scope.names.lookup x=some .local:=by first | exact .inl rfl | exact .inr rfl | assumption)(hf':X.fn y=true\/X.env.scope.names.lookup y=some .local:=by first | exact .inl rfl | exact .inr rfl | assumption): RG X E (.Tuple [.Name x px,.Name y py] kt pos) (wf i j):= zfH (zeS hc (z2M (zU hN hi hx hf) (z2M (zU hN hj hy hf') zcZ))) fun v O H Q ⟨Y,Z,s,d,r,en,dn,h⟩=>by
  unfold wf at h;split at h
  ·rename_i d1 d2;obtain ⟨p,vs,rfl,q1,q2⟩:=jB (K:=X.K) dn;obtain ⟨v1,v2,rfl,e1,e2⟩:=zar q2;exact ⟨p,[v1,v2],rfl,q1,rfl,v1,[v2],rfl,v2,[],rfl,rfl,okR.here h r ((en.set e1 i).set e2 j)⟩
  ·exact h.elim
def xx(i:Nat)(f:FE):FS:=fun Z s=>(f Z s).bind fun d s1=>.ok (.nx (Z.set i (some d))) s1
theorem yk (i:Nat) {x:Str} {pos':Pos} {f:FE} (hN:X.N.Nodup) (he:RE X E e f) (hi:X.N[i]? = some x:=by rfl) (hx:Loc X.env.scope x:=by first | exact Or.inl rfl | exact Or.inr rfl) (hs:swapsWith e (some (.Name x pos')) pos.line X.env=pure false:=by rfl) (hf:X.fn x=true\/X.env.scope.names.lookup x=some .local:=by first | exact .inl rfl | exact .inr rfl | assumption):RS X E (.Assign [.Name x pos'] e pos) (xx i f):= kG (zj9 hN hi hx he hs hf) fun D O H ⟨Y,Z,s,r,en,h⟩=>yz (k:=fun Z d s1=>R.ok (Fl.nx (Z.set i (some d))) s1) r en h _ fun v H1 Y1 s1 d r1 en1 dn stp h1=>okR.here (b:=FlV.nx (O.set i (some v))) (Q:=z4Q D) h1 r1 (en1.set dn i)
def zec(f:FE)(g:FG):FS:=fun Z s=>(f Z s).bind fun d s1=>(g d Z s1).bind fun Z' s2=>.ok (.nx Z') s2
theorem z8A {tg:Expr} {f:FE} {g:FG} (he:RE X E e f) (hg:RG X E tg g) (hs:swapsWithSole [tg] e pos.line X.env=pure false:=by rfl) (hw:swappedStores [tg] e X.env=pure none:=by rfl) (h1:(assignEach [tg] X.env).map (·.2)=[assign tg X.env]:=by rfl):RS X E (.Assign [tg] e pos) (zec f g):= kG (zfG he hg hs hw h1) fun D O H ⟨Y,Z,s,r,en,h⟩=>yz (k:=fun Z d s1=>(g d Z s1).bind fun Z' s2=>R.ok (Fl.nx Z') s2) r en h _ fun v H1 Y1 s1 d r1 en1 dn stp h1=> ⟨Y1,Z,s1,d,r1,en1,dn,(okR.bind (Dn:=qm (gm X)) h1).imp fun O' H' ⟨Y2,s2,Z',stp2,en2,q⟩=>okR.here (b:=FlV.nx O') (Q:=z4Q D) q stp2.rep en2⟩
def zmy(i j:Nat)(f:FA):FS:=fun Z s=>(f Z s).bind fun ds s1=>match ds with | [x,y]=>.ok (.nx ((Z.set i (some x)).set j (some y))) s1 | _=>.no
def z4t(fo fi fv:FE):FS:=fun Z s=>(fv Z s).bind fun d s1=>(fo Z s1).bind fun o s2=>(fi Z s2).bind fun i s3=>match o,i with
 | .loc l,.int k=>match s3[l]? with
  | some xs=>match ixN xs.length k with
   | some j=>if d.flat=true then .ok (.nx Z) (s3.set l (xs.set j d)) else .no | none=>.no
  | none=>.no
 | _,_=>.no
theorem z6E:∀ {xs:List D}{d:D}{j:Nat},D.flat.flats xs=true->d.flat=true->D.flat.flats (xs.set j d)=true
 | [],_,_,_,_=>rfl | x::xs,d,0,h,hd=>by
  simp only [D.flat.flats,Bool.and_eq_true,List.set_cons_zero] at h ⊢;exact ⟨hd,h.2⟩ | x::xs,d,j+1,h,hd=>by
  simp only [D.flat.flats,Bool.and_eq_true,List.set_cons_succ] at h ⊢;exact ⟨h.1,z6E h.2 hd⟩
theorem z1D:∀ {xs ys:List D},D.flat.flats xs=true->D.flat.flats ys=true->D.flat.flats (xs++ys)=true
 | [],_,_,h=>h | x::xs,ys,h,h'=>by
  simp only [D.flat.flats,Bool.and_eq_true,List.cons_append] at h ⊢;exact ⟨h.1,z1D h.2 h'⟩
theorem z57 {o i:Expr} {p1:Pos} {fo fi fv:FE} (hv:RE X E e fv) (ho:RE X E o fo) (hi:RE X E i fi) (ha:∀ v,assign (.Subscript o i p1) X.env v=(do
   let ov <- holding [v] (eval o X.env) let iv <- holding [v,ov] (eval i X.env)
   standAt p1
   holding [v,ov,iv] (setItem ov iv v)
   release [v,ov,iv] []):=by intro _;rfl) (hs:swapsWithSole [.Subscript o i p1] e pos.line X.env=pure false:=by rfl) (hw:swappedStores [.Subscript o i p1] e X.env=pure none:=by rfl) (h1:(assignEach [.Subscript o i p1] X.env).map (·.2)=[assign (.Subscript o i p1) X.env]:=by rfl):RS X E (.Assign [.Subscript o i p1] e pos) (z4t fo fi fv):= kG (zfG hv (zjC ho hi set_list ha) hs hw h1) fun D O H ⟨Y,Z,s,r,en,h⟩=>by
  unfold z4t at h;refine ⟨Y,Z,s,r,en,(okR.bind (Dn:=Den (gm X)) h).imp fun v H1 ⟨Y1,s1,d,stp,dn,h1⟩=>?_⟩;refine ⟨Y1,Z,s1,stp.rep,en.mono stp,(okR.bind (Dn:=Den (gm X)) h1).imp fun ov H2 ⟨Y2,s2,od,stp2,dn2,h2⟩=>?_⟩;refine ⟨Y2,Z,s2,stp2.rep,(en.mono stp).mono stp2,(okR.bind (Dn:=Den (gm X)) h2).imp fun iv H3 ⟨Y3,s3,id,stp3,dn3,h3⟩=>?_⟩;have en3:=((en.mono stp).mono stp2).mono stp3;have dv:=(dn.mono stp2).mono stp3;have dov:=dn2.mono stp3;cases od with
  | loc l=> cases id with
   | int k=>
    simp only at h3;split at h3
    ·rename_i xs ex;split at h3
     ·rename_i j ej;split at h3
      ·rename_i hf;cases yG dn3;obtain ⟨a,vs,e1,q1,q2⟩:=stp3.rep.at_ l xs ex;simp only [Den] at dov;obtain ⟨a',rfl,e2⟩:=dov;rw [e1] at e2;cases e2;have stp4:=vf.put (l:=l) (xs:=xs.set j d) stp3.rep e1 (q2.set j dv) (z6E (stp3.rep.flat xs (List.mem_of_getElem? ex)) hf);exact ⟨a,vs,k,j,rfl,rfl,q1,by rw [q2.length];exact ej,h3 (.nx O) _ _ stp4 (en3.mono stp4)⟩
      ·exact h3.elim
     ·exact h3.elim
    ·exact h3.elim | _=>exact h3.elim
  | _=>exact h3.elim
def z87(fo fv:FE):FE:=fun Z s=>(fo Z s).bind fun o s1=>match o with
 | .loc l=>(fv Z s1).bind fun d s2=>match s2[l]? with
  | some xs=>if d.flat=true/\xs.length<cap then .ok .non (s2.set l (xs++[d])) else .no | none=>.no
 | _=>.no
theorem vS {o:Expr} {apos:Pos} {fo fv:FE} (ho:RE X E o fo) (hv:RE X E e fv) (hbase:attributeBase o "append" X.env (eval o X.env)=eval o X.env:=by rfl) (hfew:((backTo pos (starEach [e] X.env)).all (fun x=>!x.1)&&(backToKw pos (keywordEach [] X.env)).all (fun x=>x.1.isSome) && decide ([e].length+([]:List Keyword).length+(if ([]:List Keyword).isEmpty then 0 else 1)<30))=true:=by rfl) (hline:(apos.endLine==pos.line)=true:=by rfl) (hs:starEach [e] X.env=(false,eval e X.env)::starEach [] X.env:=by rfl) (hplain:(backTo pos (starEach [] X.env)).any (·.1)=false:=by rfl): RE X E (.Call (.Attribute o "append" apos) [e] [] pos) (z87 fo fv):= zW (zgU PySem.F.plainAttrs_list PySem.F.slot_list_append PySem.F.type_list_append zcS ho (wj hv jL hs) hbase hfew hline hs hplain) fun O H Q ⟨Y,Z,s,r,en,h⟩=>by
  unfold z87 at h;refine ⟨Y,Z,s,r,en,(okR.bind (Dn:=Den (gm X)) h).imp fun ov H1 ⟨Y1,s1,od,stp,dn,h1⟩=>?_⟩;cases od with
  | loc l=>
   simp only at h1;have hty:tyV X.K "list" ov H1:=by
    simp only [Den] at dn;obtain ⟨a,rfl,e1⟩:=dn;obtain ⟨vs,e2⟩:=stp.rep.mt a (List.mem_of_getElem? e1);exact .inl ⟨rfl,vs,.inl (.inl e2)⟩
   refine ⟨hty,⟨Y1,Z,s1,stp.rep,en.mono stp,(okR.bind (Dn:=Den (gm X)) h1).imp fun v H2 ⟨Y2,s2,d,stp2,dn2,h2⟩=>?_⟩⟩;split at h2
   ·rename_i xs ex;split at h2
    ·rename_i hf;have dov:=dn.mono stp2;simp only [Den] at dov;obtain ⟨a,rfl,e1⟩:=dov;obtain ⟨b,vs,e2,q1,q2⟩:=stp2.rep.at_ l xs ex;rw [e1] at e2;cases e2;have stp3:=vf.put (l:=l) (xs:=xs++[d]) stp2.rep e1 (q2.append (zF.one dn2)) (z1D (stp2.rep.flat xs (List.mem_of_getElem? ex)) (by simp [D.flat.flats,hf.1]));refine ⟨a,vs,v,rfl,rfl,q1,by rw [q2.length];exact zj4 hf.2,h2 .non _ _ stp3 (by simp [Den])⟩
    ·exact h2.elim
   ·exact h2.elim | _=>exact h1.elim
end
end Dd
namespace L2
open PySem.Spec
theorem zix{X:Cx}{tg l:Expr}{tl:TE}(hl:PE X l tl):PI X tg l (fun O H R=>tl O H fun x H1=>∃ a,x=.ref a/\(((∃ xs,SqL X.K H1 a xs)/\R (Itl X.K a) H1)\/((∃ xs,SqT X.K H1 a xs)/\R (Itt X.K a) H1))):=by
 intro pins s O H R I h;refine thn (hl pins s O H _ I h) fun v s1 ⟨x,H1,I1,r1,q1⟩=>?_;obtain ⟨a,e,q⟩:=q1;subst e;cases r1;rcases q with ⟨⟨xs,hq⟩,q⟩ | ⟨⟨xs,hq⟩,q⟩
 ·obtain ⟨its,rv,p,hz⟩:=I1.list hq;refine wpAny_pyIter_list p.isList ?_;refine ⟨s1.heap.objs.size,[s1.heap.objs.size],_,_,H1,rfl,I1.kept (t':=s1.toks) fun b o e=>Heap.get?_push_of_some _ e,zcF a _,⟨_,Heap.get?_push_size _ rfl,rfl,rfl⟩,fun b hb=>?_,q⟩;have e:b=s1.heap.objs.size:=by simpa using hb
  subst e;exact I1.fpOk (Nat.le_refl _) (I1.hok.fresh (Nat.le_refl _))
 ·obtain ⟨its,rv,p,hz⟩:=I1.tuple hq;refine wpAny_pyIter_tuple (show s1.heap.IsTuple a its.toArray from p) ?_;refine ⟨s1.heap.objs.size,[s1.heap.objs.size],_,_,H1,rfl,I1.kept (t':=s1.toks) fun b o e=>Heap.get?_push_of_some _ e,zal a _,⟨_,Heap.get?_push_size _ rfl,rfl,rfl⟩,fun b hb=>?_,q⟩;have e:b=s1.heap.objs.size:=by simpa using hb
  subst e;exact I1.fpOk (Nat.le_refl _) (I1.hok.fresh (Nat.le_refl _))
theorem z2C.freeze{X:Cx}{pins:List (Addr×Obj)}{O:L2.St}{C:Addr}{Q:VK}{acc:Value}{s':Shared}(h:z2C X pins O C (zdf Q) acc s'):z2C X pins O C Q acc s':=by
 obtain ⟨v,Hf,I,r,⟨a,xs,rfl,ha,q⟩,hm,f⟩:=h;obtain ⟨its,n,rv,e,_⟩:=I.lst ha;refine ⟨_,_,I.freeze ha e (by intro _ z;cases z) (by intro _ _ z;cases z) (by intro _ z;cases z) (by intro _ z;cases z),r,q _,hm,?_,f.2⟩;rw [zS (fun z=>by have:=f.1;rw [z,ha] at this;cases this)];exact f.1
theorem z8J {X:Cx} {tg iter elt:Expr} {ifs:List Expr} {scope:Scope} {pos spos py:Pos} {wi:TI} {g:TG} {ti:TT} {te:TE} {i:Nat} {y:Str} (N':List Str) (mp:List (Option Nat)) (hN:X.N.Nodup) (hy:X.N[i]? = some y) (hyl:Loc X.env.scope y) (hc:X.calm=true) (hi:PI X tg iter wi) (hg:∀ ex s H,PG (zT X N' scope ex s H) tg g) (ht:∀ ex s H,z8G (zT X N' scope ex s H) ifs ti) (he:∀ ex s H,PE (zT X N' scope ex s H) elt te) (hkd:scope.kind=.function) (hnm:∀ y∈scope.names,scope.names.lookup y.1=some y.2) (hfr:∀ y∈scope.names,y.2=.free->X.env.kindOf y.1=some .cell\/X.env.kindOf y.1=some .free) (hmp:z47 X.N scope.names N' mp=true) (hs:∀ x,foldedSetIterable iter X.env x=pure x:=by intro _;rfl) (hsw:swapsWith (.ListComp elt [⟨tg,iter,ifs,0⟩] scope pos) (some (.Name y py)) spos.line X.env=pure true:=by rfl) (hf:X.fn y=true\/X.env.scope.names.lookup y=some .local:=by first | exact .inl rfl | exact .inr rfl | assumption): PS X (.Assign [.Name y py] (.ListComp elt [⟨tg,iter,ifs,0⟩] scope pos) spos) (fun D O H=>zdX wi mp g ti te O H (zdf fun v H'=>D.nx (O.set i (some v)) H')):=by
 intro pins s O H D I h;rw [exec_Assign_Name_used _ _ _ _ hsw];refine wpAny_bind (wpAny_standAt (wpAny_bind ?_));show wpAny _ X.A (do let _ <- comprehension (.ListComp elt [⟨tg,iter,ifs,0⟩] scope pos) scope X.env _ (newList []) false (eval iter X.env) (some (assign (.Name y py) X.env))) _ _ s;refine wpAny_bind (wpAny_mono (wpAny_comprehension_free (use:=some (assign (.Name y py) X.env)) (Q:=fun _ s'=>SP X pins D .next s') rfl hs (jf fun y hy hf=>I.ok.has _ (hfr y hy hf)) hkd (fun y hy hl=>by rw [hnm y hy,hl]) (thn (hi pins s O H _ I h) fun xv s₁ h₁=>thn h₁ fun itv s₂ h₂=>?_)) (fun _ s' hq=>wpAny_pure (wpAny_pure hq)) fun _ _ e=>e);obtain ⟨it,fp,tn,J,H2,e,I2,T,st2,f2,W,w0,turn⟩:=h₂;subst e;refine z16 (N':=N') (mp:=mp) (O:=O) (pins:=pins) (Q:=zdf fun v H'=>D.nx (O.set i (some v)) H') (RR:=fun acc C=>compPost (model X.prog X.w) X.A X.xe (some (assign (.Name y py) X.env)) (fun _ s'=>SP X pins D .next s') acc C) hc hg ht he hkd hnm hfr hmp I2 T st2 f2 W w0 turn ?_;intro acc C s' hd;obtain ⟨v,Hf,I3,r,q,⟨m,hm⟩,f⟩:=hd.freeze;refine wpAny_assign_Name (z44 I3 hN hy hyl r (fun s'' I4 ⟨a,sb,ha⟩=>?_) hf);have hC:C≠a:=by
  rcases ha with z | z;·rw [z];exact f.2.1
  ·exact Ne.symm (f.2.2.2.2.1 y a z)
 exact ⟨m,hm.sameBut sb hC,fun h' sb'=>⟨_,Hf,z0h I4 f sb',q⟩⟩
end L2
namespace Dd
open PySem.Spec L2
abbrev ItD:=List D×List (Nat×List D)
def okG(g:List (Nat×List D))(all:List D)(s:Sto):Prop:=∀ p∈g,s[p.1]? = some p.2
def zgc(mg:Gm)(H0:Hp)(Y0:List Addr)(a:ItD)(J:It):Prop:=∀ H Y s,vf mg H0 Y0 H Y s->okG a.2 a.1 s->∀ i:Nat, (∀ d,a.1[i]? = some d->J.go i H/\∀ x H',J.yld i H x H'->∃ Y',vf mg H Y H' Y' s/\Den mg H' Y' d x)/\(a.1.length<=i->J.stop i H)
abbrev FI:=Ev->Sto->R ItD
def tI(mg:Gm)(E:XK)(f:FI):TI:=fun O H Rr=>∃ Y Z s,Rep mg H Y s/\qm mg H Y Z O/\okR mg E H Y (zgc mg) (f Z s) Rr
def RI(X:Cx)(E:XK)(tg it:Expr)(f:FI):Prop:=PI X tg it (tI (gm X) E f)
section
variable {X:Cx}{E:XK}{e a b c tg:Expr}{es:List Expr}{pos:Pos}{CX:CXT}
theorem z9x{it:Expr}{t t':TI}(h:PI X tg it t)(i:∀ O H Q,t' O H Q->t O H Q):PI X tg it t':=fun pins s O H Q I q=>h pins s O H Q I (i O H Q q)
def yx(f:FE):FI:=fun Z s=>(f Z s).bind fun d s1=>match d with
 | .tup xs=>.ok (xs,[]) s1 | .lst xs=>.ok (xs,[]) s1 | .loc l=>match s1[l]? with | some xs=>.ok (xs,[(l,xs)]) s1 | none=>.no
 | _=>.no
theorem uU{f:FE}(h:RE X E e f):RI X E tg e (yx f):=z9x (zix h) fun O H Q ⟨Y,Z,s,r,en,h⟩=>by
 unfold yx at h;refine ⟨Y,Z,s,r,en,(okR.bind (Dn:=Den (gm X)) h).imp fun v H1 ⟨Y1,s1,d,stp,dn,h1⟩=>?_⟩;have lst:∀ (a:Addr)(xs:List D)(g:List (Nat×List D)),(∀ H2 Y2 s2,vf (gm X) H1 Y1 H2 Y2 s2->okG g xs s2->∃ ws,SqL X.K H2 a ws/\zF (gm X) H2 Y2 xs ws)->zgc (gm X) H1 Y1 (xs,g) (Itl X.K a):=fun a xs g hq H2 Y2 s2 stp2 hg i=>by
  obtain ⟨ws,q1,q2⟩:=hq H2 Y2 s2 stp2 hg;refine ⟨fun d hd=>?_,fun hl=>⟨ws,q1,by rw [q2.length];exact hl⟩⟩;obtain ⟨v,e1,e2⟩:=q2.get hd;refine ⟨⟨ws,v,q1,e1⟩,fun x H' ⟨e3,y⟩=>?_⟩;subst e3;have e4:=y ws q1;rw [e1] at e4;cases e4;exact ⟨Y2,.refl stp2.rep,e2⟩
 have tup:∀ (a:Addr)(xs:List D),(∀ H2 Y2 s2,vf (gm X) H1 Y1 H2 Y2 s2->∃ ws,SqT X.K H2 a ws/\zF (gm X) H2 Y2 xs ws)->zgc (gm X) H1 Y1 (xs,[]) (Itt X.K a):=fun a xs hq H2 Y2 s2 stp2 hg i=>by
  obtain ⟨ws,q1,q2⟩:=hq H2 Y2 s2 stp2;refine ⟨fun d hd=>?_,fun hl=>⟨ws,q1,by rw [q2.length];exact hl⟩⟩;obtain ⟨v,e1,e2⟩:=q2.get hd;refine ⟨⟨ws,v,q1,e1⟩,fun x H' ⟨e3,y⟩=>?_⟩;subst e3;have e4:=y ws q1;rw [e1] at e4;cases e4;exact ⟨Y2,.refl stp2.rep,e2⟩
 cases d with
 | tup xs=>
  have h1':okR (gm X) E H1 Y1 (zgc (gm X)) (.ok (xs,[]) s1) Q:=h1;obtain ⟨a,vs,rfl,q1,q2⟩:=jB (K:=X.K) dn;refine ⟨a,rfl,.inr ⟨⟨vs,q1⟩,h1'.here stp.rep (tup a xs fun H2 Y2 s2 stp2=>?_)⟩⟩;have dn2:=dn.mono stp2;obtain ⟨a',ws,e,q3,q4⟩:=jB (K:=X.K) dn2;cases e;exact ⟨ws,q3,q4⟩ | lst xs=>
  have h1':okR (gm X) E H1 Y1 (zgc (gm X)) (.ok (xs,[]) s1) Q:=h1;obtain ⟨a,vs,rfl,q1,q2⟩:=yg (d:=.lst xs) stp.rep rfl dn;refine ⟨a,rfl,.inl ⟨⟨vs,.inl q1⟩,h1'.here stp.rep (lst a xs [] fun H2 Y2 s2 stp2 _=>?_)⟩⟩;obtain ⟨a',ws,e,q3,q4⟩:=yg (d:=.lst xs) stp2.rep rfl (dn.mono stp2);cases e;exact ⟨ws,.inl q3,q4⟩ | loc l=>
  simp only at h1;split at h1
  ·rename_i xs ex;obtain ⟨a,vs,rfl,q1,q2⟩:=yg (d:=.loc l) stp.rep ex dn;refine ⟨a,rfl,.inl ⟨⟨vs,.inl q1⟩,h1.here stp.rep (lst a xs [(l,xs)] fun H2 Y2 s2 stp2 hg=>?_)⟩⟩;obtain ⟨a',ws,e,q3,q4⟩:=yg (d:=.loc l) stp2.rep (hg (l,xs) (by simp)) (dn.mono stp2);cases e;exact ⟨ws,.inl q3,q4⟩
  ·exact h1.elim | _=>exact h1.elim
end
section
variable {X:Cx}{E:XK}{e a b c tg:Expr}{es:List Expr}{pos:Pos}{CX:CXT}
def yK(n:Nat):List D:=(List.range n).map fun (k:Nat)=>D.int ((k:Nat):Int)
def qh(f:FA):FI:=fun Z s=>(f Z s).bind fun ds s1=>match ds with
 | [.int j]=>if -(2 ^ 62)<=j/\j<2 ^ 62 then .ok (yK j.toNat,[]) s1 else .no | _=>.no
theorem xm{p:Pos}{f:FA}(hg:Gl X "range")(hm:X.mg "range"=none)(ha:RA X E [a] f)(hs:starEach [a] X.env=[(false,eval a X.env)]:=by rfl):RI X E tg (.Call (.Name "range" p) [a] [] pos) (qh f):= z9x (zbm hg hm ha hs) fun O H Q ⟨Y,Z,s,r,en,h⟩=>by
  unfold qh at h;refine ⟨Y,Z,s,r,en,(okR.bind (Dn:=zF (gm X)) h).imp fun vs H1 ⟨Y1,s1,ds,stp,dn,h1⟩=>?_⟩;split at h1
  ·rename_i j;split at h1
   ·rename_i hj;obtain ⟨v,rfl,d1⟩:=z1s dn;cases yG d1;refine ⟨j,rfl,hj.1,hj.2,h1.here stp.rep fun H2 Y2 s2 stp2 _ i=>⟨fun d hd=>?_,fun hl=>?_⟩⟩
    ·have hi:i<j.toNat:=by
      have:=(List.getElem?_eq_some_iff.mp hd).1;simpa [yK] using this
     refine ⟨hi,fun x H' ⟨e1,e2⟩=>?_⟩;subst e1 e2;refine ⟨Y2,.refl stp2.rep,?_⟩;have e3:d=D.int i:=by
      simp only [yK,List.getElem?_map,List.getElem?_range hi,Option.map_some,Option.some.injEq] at hd;exact hd.symm
     rw [e3];simp [Den]
    ·have:(yK j.toNat).length=j.toNat:=by simp [yK]
     show j.toNat<=i;rw [<- this];exact hl
   ·exact h1.elim
  ·exact h1.elim
open Classical in
def yZ(g:List (Nat×List D))(all:List D)(body:D->Ev->Sto->R Fl):List D->Ev->Sto->R Fl
 | [],Z,s=>if okG g all s then .ok (.nx Z) s else .no | x::xs,Z,s=>if okG g all s then (body x Z s).bind fun fl s1=>match fl with
   | .nx Z'=>yZ g all body xs Z' s1 | .ct Z'=>yZ g all body xs Z' s1 | .bk Z'=>.ok (.nx Z') s1 | .rt d=>.ok (.rt d) s1 else .no
def z88(fi:FI)(fg:FG)(fb:FS):FS:=fun Z s=>(fi Z s).bind fun it s1=>yZ it.2 it.1 (fun d Z s=>(fg d Z s).bind fun Z' s'=>fb Z' s') it.1 Z s1
theorem z3m {iter:Expr} {body:List Stmt} {fi:FI} {fg:FG} {fb:FS} (hp:PassesOwn (model X.prog X.w) X.A X.env X.xe) (hc:X.calm=true) (hi:RI X E tg iter fi) (hg:RG X E tg fg) (hb:RSs X E body fb) (hs:∀ x,foldedSetIterable iter X.env x=pure x:=by intro _;rfl):RS X E (.For tg iter body [] pos) (z88 fi fg fb):= kG (zif hp hc hi hg hb hs) fun D O H ⟨Y,Z,s,r,en,h⟩=>by
  unfold z88 at h;refine ⟨Y,Z,s,r,en,(okR.bind (Dn:=zgc (gm X)) h).imp fun J H1 ⟨Y1,s1,it,stp,ok,h1⟩=>?_⟩;obtain ⟨items,g⟩:=it;simp only at h1;refine ⟨fun i m O H=>∃ Y Z s,vf (gm X) H1 Y1 H Y s/\qm (gm X) H Y Z O/\m=items.length-i/\i<=items.length/\ okR (gm X) E H Y (FlD (gm X)) (yZ g items (fun d Z s=>(fg d Z s).bind fun Z' s'=>fb Z' s') (items.drop i) Z s) (z4Q D), ⟨items.length,Y1,Z,s1,.refl stp.rep,en.mono stp,by simp,Nat.zero_le _,by simpa using h1⟩,?_⟩;rintro i m O H ⟨Y2,Z2,s2,stp2,en2,rfl,hil,h2⟩;by_cases hlt:i<items.length
  ·right;rw [List.drop_eq_getElem_cons hlt,yZ] at h2;split at h2
   ·rename_i hG;obtain ⟨go,yl⟩:=((ok H Y2 s2 stp2 hG i).1 items[i] (List.getElem?_eq_getElem hlt));refine ⟨go,fun O' H'=>∃ Y Z s,vf (gm X) H1 Y1 H' Y s/\qm (gm X) H' Y Z O'/\okR (gm X) E H' Y (FlD (gm X)) (yZ g items (fun d Z s=>(fg d Z s).bind fun Z' s'=>fb Z' s') (items.drop (i+1)) Z s) (z4Q D), fun O' H' ⟨Y3,Z3,s3,q1,q2,q3⟩=>⟨items.length-(i+1),by omega,Y3,Z3,s3,q1,q2,rfl,hlt,q3⟩,fun x H' y=>?_⟩;obtain ⟨Y3,stp3,dn3⟩:=yl x H' y;have h3:=okR.rebase h2 stp3;have h4:=okR.bind (Dn:=FlD (gm X)) h3;refine ⟨Y3,Z2,s2,items[i],stp3.rep,en2.mono stp3,dn3,(okR.bind (Dn:=qm (gm X)) h4).imp fun O5 H5 ⟨Y5,s5,Z5,stp5,en5,h5⟩=>?_⟩;refine ⟨Y5,Z5,s5,stp5.rep,en5,h5.imp fun fv H6 ⟨Y6,s6,fl,stp6,dn6,q6⟩=>?_⟩;have all6:vf (gm X) H1 Y1 H6 Y6 s6:=(stp2.trans stp3).trans stp6;cases fl with
    | nx Z'=> cases fv with
     | nx O'=>exact ⟨Y6,Z',s6,all6,dn6,q6⟩ | _=>exact (show False from dn6).elim
    | ct Z'=> cases fv with
     | ct O'=>exact ⟨Y6,Z',s6,all6,dn6,q6⟩ | _=>exact (show False from dn6).elim
    | bk Z'=> cases fv with
     | bk O'=>exact okR.here (b:=FlV.nx O') (Q:=z4Q D) (a:=Fl.nx Z') (s:=s6) q6 stp6.rep dn6 | _=>exact (show False from dn6).elim
    | rt d=> cases fv with
     | rt v=>exact okR.here (b:=FlV.rt v) (Q:=z4Q D) (a:=Fl.rt d) (s:=s6) q6 stp6.rep dn6 | _=>exact (show False from dn6).elim
   ·exact h2.elim
  ·left;have e:i=items.length:=by omega
   subst e;rw [List.drop_length,yZ] at h2;split at h2
   ·rename_i hG;exact ⟨(ok H Y2 s2 stp2 hG _).2 (Nat.le_refl _),okR.here (b:=FlV.nx O) (Q:=z4Q D) h2 stp2.rep en2⟩
   ·exact h2.elim
end
end Dd
namespace Zz
def Sit(b:Bool)(h:Heap)(it l:Addr)(k:Nat):Prop:=match b with
 | true=>h.IsListIter it l k | false=>h.IsTupleIter it l k
def Sco(b:Bool)(h:Heap)(l:Addr)(xs:Array Value):Prop:=match b with
 | true=>h.IsList l xs | false=>h.IsTuple l xs
theorem Sit.to{b:Bool}{h h':Heap}{it l:Addr}{k:Nat}(x:Sit b h it l k)(e:∀ o,h.get? it=some o->h'.get? it=some o):Sit b h' it l k:=by cases b with
 | true=>obtain ⟨o,ho,r⟩:=x;exact ⟨o,e _ ho,r⟩ | false=>obtain ⟨o,ho,r⟩:=x;exact ⟨o,e _ ho,r⟩
theorem Sco.to{b:Bool}{h h':Heap}{l:Addr}{xs:Array Value}(x:Sco b h l xs)(e:∀ o,h.get? l=some o->h'.get? l=some o):Sco b h' l xs:=by cases b with
 | true=>obtain ⟨o,ho,r⟩:=x;exact ⟨o,e _ ho,r⟩ | false=>obtain ⟨o,ho,r⟩:=x;exact ⟨o,e _ ho,r⟩
theorem Sit.lt{b:Bool}{h:Heap}{it l:Addr}{k:Nat}(x:Sit b h it l k):it<h.objs.size:=by cases b with
 | true=>obtain ⟨o,ho,r⟩:=x;exact Heap.lt_size ho | false=>obtain ⟨o,ho,r⟩:=x;exact Heap.lt_size ho
theorem Sit.ob{b:Bool}{h:Heap}{it l:Addr}{k:Nat}(x:Sit b h it l k):∃ o,h.get? it=some o/\∀ v,o.data≠.cell v:=by cases b with
 | true=>obtain ⟨o,ho,_,d⟩:=x;exact ⟨o,ho,fun v z=>by rw [d] at z;cases z⟩ | false=>obtain ⟨o,ho,_,d⟩:=x;exact ⟨o,ho,fun v z=>by rw [d] at z;cases z⟩
section
variable {P:Program}{w:World}{A:Around}{E:Value->Shared->Prop}{s:Shared}
theorem zid{it l:Addr}{k:Nat}{xs:Array Value}{x:Value}{R:Value->Shared->Prop}(h1:s.heap.IsTupleIter it l k)(h2:s.heap.IsTuple l xs)(e:xs[k]? = some x) (q:∀ h',h'.IsTupleIter it l (k+1)->Heap.SameBut it s.heap h'->R x {s with heap:=h'}):wpAny (model P w) A (Builtin.SmallTypes.nextOf (.ref it)) R E s:=by
 obtain ⟨o,ho,hc,hd⟩:=id h1;obtain ⟨ol,hol,_,nl,hdl⟩:=h2;unfold Builtin.SmallTypes.nextOf;refine wpAny_bind (wpAny_callSpecial?_slot (name:=Str.ofString "__next__") h1.typeIs F.slot_tuple_iterator_next (wpAny_call_entry F.slot_tuple_iterator_next h1.typeIs F.entry_tuple_iterator_next ?_ (F.args_tuple_iterator_next_1 _)));show wpAny _ _ (field (.ref it) 0 >>= _) _ _ s;refine wpAny_bind (wpAny_field ho hd (x:=.ref l) rfl ?_);show wpAny _ _ (if (Value.ref l==Value.none)=true then _ else _) _ _ s;rw [if_neg (show ¬ ((Value.ref l==Value.none)=true) from Bool.false_ne_true)];show wpAny _ _ (field (.ref it) 1 >>= _) _ _ s;refine wpAny_bind (wpAny_field ho hd (x:=.int k 0) rfl ?_);show wpAny _ _ (seqItems? (.ref l) >>= _) _ _ s;refine wpAny_bind (wpAny_seqItems hol hdl ?_);simp only [Int.toNat_natCast,e];refine wpAny_bind (wpAny_setField ho hd (by simp) (wpAny_pure ⟨x,rfl,wpAny_pure (q _ ?_ (Heap.SameBut.update ..))⟩));exact ⟨_,Heap.get?_update_self _ ho (Obj.isFreed_of_fields (Obj.data_mapFields hd _)),(Obj.cls_mapFields ..).trans hc,by rw [Obj.data_mapFields hd];simp [rawInt]⟩
theorem zaC {it l:Addr} {k:Nat} {xs:Array Value} {R:Value->Shared->Prop} (hh:A.handled=none) (h1:s.heap.IsTupleIter it l k) (h2:s.heap.IsTuple l xs) (e:xs[k]? = none) (q:∀ h' e,Heap.ExtBut it s.heap h'->(∃ o,h'.get? e=some o/\o.cls=.type "StopIteration")->E (.ref e) {s with heap:=h'}):wpAny (model P w) A (Builtin.SmallTypes.nextOf (.ref it)) R E s:=by
 obtain ⟨o,ho,hc,hd⟩:=id h1;obtain ⟨ol,hol,_,nl,hdl⟩:=h2;unfold Builtin.SmallTypes.nextOf;refine wpAny_bind (wpAny_callSpecial?_slot (name:=Str.ofString "__next__") h1.typeIs F.slot_tuple_iterator_next (wpAny_call_entry F.slot_tuple_iterator_next h1.typeIs F.entry_tuple_iterator_next ?_ (F.args_tuple_iterator_next_1 _)));show wpAny _ _ (field (.ref it) 0 >>= _) _ _ s;refine wpAny_bind (wpAny_field ho hd (x:=.ref l) rfl ?_);show wpAny _ _ (if (Value.ref l==Value.none)=true then _ else _) _ _ s;rw [if_neg (show ¬ ((Value.ref l==Value.none)=true) from Bool.false_ne_true)];show wpAny _ _ (field (.ref it) 1 >>= _) _ _ s;refine wpAny_bind (wpAny_field ho hd (x:=.int k 0) rfl ?_);show wpAny _ _ (seqItems? (.ref l) >>= _) _ _ s;refine wpAny_bind (wpAny_seqItems hol hdl ?_);simp only [Int.toNat_natCast,e];refine wpAny_bind (wpAny_rule (wpAny_bind (wpAny_setField ho hd (by simp) ?_)));show wpAny _ _ (newExc (.type "StopIteration") [] >>= _) _ _ _;refine wpAny_bind ?_;simp only [newExc,newTuple];refine wpAny_bind (wpAny_newObj_type ?_ (by size_fits));refine wpAny_bind (m:=firstArgMember _ _) (wpAny_of_eq (a:=Value.none) (by first | rfl | (simp only [firstArgMember];rfl)) ?_);refine wpAny_newObj_type ?_ (by size_fits);simp only [raiseNew];refine wpAny_bind (wpAny_handled ?_);first | rw [show A.in1.handled=none from hh] | rw [hh]
 refine wpAny_bind (wpAny_pure (wpAny_throw ?_));exact q _ _ (((Heap.SameBut.update ..).extBut.push _).push _) ⟨_,Heap.get?_push_size _ rfl,rfl⟩
theorem nx{b:Bool}{it l:Addr}{k:Nat}{xs:Array Value}{x:Value}{R:Value->Shared->Prop}(h1:Sit b s.heap it l k)(h2:Sco b s.heap l xs)(e:xs[k]? = some x) (q:∀ h',Sit b h' it l (k+1)->Heap.SameBut it s.heap h'->R x {s with heap:=h'}):wpAny (model P w) A (Builtin.SmallTypes.nextOf (.ref it)) R E s:=by cases b with
 | true=>exact wpAny_nextOf_list_item h1 h2 e q | false=>exact zid h1 h2 e q
theorem zd9 {b:Bool} {it l:Addr} {k:Nat} {xs:Array Value} {R:Value->Shared->Prop} (hh:A.handled=none) (h1:Sit b s.heap it l k) (h2:Sco b s.heap l xs) (e:xs[k]? = none) (q:∀ h' e,Heap.ExtBut it s.heap h'->(∃ o,h'.get? e=some o/\o.cls=.type "StopIteration")->E (.ref e) {s with heap:=h'}):wpAny (model P w) A (Builtin.SmallTypes.nextOf (.ref it)) R E s:=by cases b with
 | true=>exact wpAny_nextOf_list_end hh h1 h2 e q | false=>exact zaC hh h1 h2 e q
theorem zC{a:Addr}{h h':Heap}(hs:Heap.SameBut a h h'){b:Addr}{o:Obj}(n:b≠a)(e:h.get? b=some o):h'.get? b=some o:=hs.extBut _ _ n e
theorem zhu {z TI TO i1 i2 l1 l2:Addr} {b1 b2:Bool} {k:Nat} {xs ys:Array Value} {x y a b:Value} {Q:Option Value->Shared->Prop} (D:ZipApart z TI TO i1 i2 l1 l2) (hz:IsZip s.heap z TI TO .none) (hTI:IsPair s.heap TI (.ref i1) (.ref i2)) (hTO:IsPair s.heap TO a b) (h1:Sit b1 s.heap i1 l1 k) (h2:Sit b2 s.heap i2 l2 k) (c1:Sco b1 s.heap l1 xs) (c2:Sco b2 s.heap l2 ys) (ex:xs[k]? = some x) (ey:ys[k]? = some y) (q:∀ h',IsZip h' z TI TO (rawInt s.heap.objs.size)->IsPair h' TO x y->Sit b1 h' i1 l1 (k+1)->Sit b2 h' i2 l2 (k+1)->IsPair h' s.heap.objs.size x y->h'.objs.size=s.heap.objs.size+1-> (∀ c o,c≠z->c≠TO->c≠i1->c≠i2->s.heap.get? c=some o->h'.get? c=some o)->Q (some (.ref s.heap.objs.size)) {s with heap:=h'}):wpAny (model P w) A (pyNext (.ref z)) Q E s:=by
 have hT:s.TypeIs (.ref z) "zip":=⟨_,hz,rfl⟩;unfold pyNext;refine wpAny_bind (wpAny_attempt (wpAny_callSpecial?_slot (name:=Str.ofString "__next__") hT F.slot_zip_next (wpAny_call_entry F.slot_zip_next hT F.entry_zip_next (Q:=fun v s'=>wpAny (model P w) A (pure (some v)) Q E s') ?_ (F.args_zip_next_1 _))));show wpAny _ _ (field (.ref z) 2 >>= _) _ _ _;refine wpAny_bind (wpAny_field hz rfl (x:=.bool false) rfl ?_);show wpAny _ _ (field (.ref z) 3 >>= _) _ _ _;refine wpAny_bind (wpAny_field hz rfl (x:=.ref TI) rfl ?_);refine wpAny_bind (wpAny_seqItems hTI rfl ?_);show wpAny _ _ (Builtin.SmallTypes.ownedTupleIsFree (.ref z) >>= _) _ _ _;refine wpAny_bind ?_;unfold Builtin.SmallTypes.ownedTupleIsFree;refine wpAny_bind (wpAny_field hz rfl (x:=.none) rfl (wpAny_pure ?_));simp only [if_true];refine wpAny_bind (wpAny_rule ?_);refine wpAny_bind (wpAny_field hz rfl (x:=.ref TO) rfl ?_);refine wpAny_bind (wpAny_setField_rec hz (by simp) fun g1 z1 s1=>?_);replace z1:IsZip g1 z TI TO .ellipsis:=z1;refine wpAny_bind ?_;simp only [List.zipIdx_cons,List.zipIdx_nil,List.forIn_cons,List.forIn_nil];refine wpAny_bind (wpAny_bind (wpAny_onRaise ?_));show wpAny _ _ (Builtin.SmallTypes.nextOf (.ref i1) >>= _) _ _ _;refine wpAny_bind (nx (h1.to fun o e=>zC s1 D.i1z e) (c1.to fun o e=>zC s1 D.l1z e) ex fun g2 t2 s2=>wpAny_pure ?_);have o2:IsPair g2 TO a b:=zC s2 D.TOi1 (zC s1 D.TOz hTO);refine wpAny_bind (wpAny_seqItems o2 rfl ?_);refine wpAny_bind (wpAny_updateSeq_pair o2 fun g3 o3 s3=>?_);replace o3:IsPair g3 TO x b:=o3;refine wpAny_bind (wpAny_letGo (wpAny_pure ?_));refine wpAny_bind (wpAny_bind (wpAny_onRaise ?_));show wpAny _ _ (Builtin.SmallTypes.nextOf (.ref i2) >>= _) _ _ _;refine wpAny_bind (nx (h2.to fun o e=>zC s3 D.TOi2.symm (zC s2 D.i12.symm (zC s1 D.i2z e))) (c2.to fun o e=>zC s3 D.l2TO (zC s2 D.l2i1 (zC s1 D.l2z e))) ey fun g4 t4 s4=>wpAny_pure ?_);have o4:IsPair g4 TO x b:=zC s4 D.TOi2 o3;refine wpAny_bind (wpAny_seqItems o4 rfl ?_);refine wpAny_bind (wpAny_updateSeq_pair o4 fun g5 o5 s5=>?_);replace o5:IsPair g5 TO x y:=o5;refine wpAny_bind (wpAny_letGo (wpAny_pure (wpAny_pure ?_)));refine wpAny_bind (wpAny_seqItems o5 rfl ?_);refine wpAny_bind (wpAny_newTuple ?_);have sz:g5.objs.size=s.heap.objs.size:=by rw [s5.1,s4.1,s3.1,s2.1,s1.1]
 have z5:IsZip g5 z TI TO .ellipsis:=zC s5 D.TOz.symm (zC s4 D.i2z.symm (zC s3 D.TOz.symm (zC s2 D.i1z.symm z1)));have k5:∀ c o,c≠z->c≠TO->c≠i1->c≠i2->s.heap.get? c=some o->g5.get? c=some o:=fun c o n1 n2 n3 n4 e=>zC s5 n2 (zC s4 n4 (zC s3 n2 (zC s2 n3 (zC s1 n1 e))));have t5:Sit b1 g5 i1 l1 (k+1):=t2.to fun o e=>zC s5 D.TOi1.symm (zC s4 D.i12 (zC s3 D.TOi1.symm e));have u5:Sit b2 g5 i2 l2 (k+1):=t4.to fun o e=>zC s5 D.TOi2.symm e;have zl:z<g5.objs.size:=Heap.lt_size z5;show wpAny _ _ (Builtin.SmallTypes.ownedTupleHandOut (.ref z) (.ref g5.objs.size) >>= _) _ _ _;refine wpAny_bind ?_;unfold Builtin.SmallTypes.ownedTupleHandOut;have z6:IsZip (g5.push {cls:=.type "tuple",data:=.seq #[x,y]}) z TI TO .ellipsis:=Heap.get?_push_of_some _ z5;refine wpAny_bind (wpAny_setField_rec z6 (by simp) fun g7 z7 s7=>?_);replace z7:IsZip g7 z TI TO (rawInt g5.objs.size):=z7;refine wpAny_setField_rec z7 (by simp) fun g8 z8 s8=>?_;replace z8:IsZip g8 z TI TO (rawInt g5.objs.size):=z8;have up:∀ c o,c≠z->g5.get? c=some o->g8.get? c=some o:=fun c o n e=>zC s8 n (zC s7 n (Heap.get?_push_of_some _ e));have p8:IsPair g8 g5.objs.size x y:=zC s8 (Nat.ne_of_gt zl) (zC s7 (Nat.ne_of_gt zl) (Heap.get?_push_size _ rfl));have e8:g8.objs.size=g5.objs.size+1:=by rw [s8.1,s7.1,Heap.size_push]
 rw [sz] at z8 p8 e8;refine wpAny_pure ⟨_,rfl,wpAny_pure ?_⟩;show Q (some (.ref g5.objs.size)) _;rw [sz];exact q g8 z8 (up _ _ D.TOz o5) (t5.to fun o e=>up _ o D.i1z e) (u5.to fun o e=>up _ o D.i2z e) p8 e8 fun c o n1 n2 n3 n4 e=>up c o n1 (k5 c o n1 n2 n3 n4 e)
theorem zjh {z TI TO i1 i2 l1 l2:Addr} {b1 b2:Bool} {k:Nat} {xs ys:Array Value} {a b:Value} {Q:Option Value->Shared->Prop} (hh:A.handled=none) (D:ZipApart z TI TO i1 i2 l1 l2) (hz:IsZip s.heap z TI TO .none) (hTI:IsPair s.heap TI (.ref i1) (.ref i2)) (hTO:IsPair s.heap TO a b) (h1:Sit b1 s.heap i1 l1 k) (h2:Sit b2 s.heap i2 l2 k) (c1:Sco b1 s.heap l1 xs) (c2:Sco b2 s.heap l2 ys) (en:xs[k]? = none\/ys[k]? = none) (q:∀ h',(∀ c o,c≠z->c≠TO->c≠i1->c≠i2->s.heap.get? c=some o->h'.get? c=some o)->Q none {s with heap:=h'}):wpAny (model P w) A (pyNext (.ref z)) Q E s:=by
 have hT:s.TypeIs (.ref z) "zip":=⟨_,hz,rfl⟩;have fin:∀ h' e,(∀ c o,c≠z->c≠TO->c≠i1->c≠i2->s.heap.get? c=some o->h'.get? c=some o)->(∃ o,h'.get? e=some o/\o.cls=.type "StopIteration")-> wpAny (model P w) A (isInstance (.ref e) (.type "StopIteration") >>= fun b=>if b=true then (pure none:Sem (Option Value)) else throw (.ref e)) Q E {s with heap:=h'}:=fun h' e hk he=>by
  obtain ⟨o,ho,hc⟩:=he;refine wpAny_bind (wpAny_isInstance (T:="StopIteration") (b:=true) ⟨o,ho,hc⟩ isSubtype_stop ?_);exact wpAny_pure (q _ hk)
 unfold pyNext;refine wpAny_bind (wpAny_attempt (wpAny_callSpecial?_slot (name:=Str.ofString "__next__") hT F.slot_zip_next (wpAny_call_entry F.slot_zip_next hT F.entry_zip_next ?_ (F.args_zip_next_1 _))));show wpAny _ _ (field (.ref z) 2 >>= _) _ _ _;refine wpAny_bind (wpAny_field hz rfl (x:=.bool false) rfl ?_);show wpAny _ _ (field (.ref z) 3 >>= _) _ _ _;refine wpAny_bind (wpAny_field hz rfl (x:=.ref TI) rfl ?_);refine wpAny_bind (wpAny_seqItems hTI rfl ?_);show wpAny _ _ (Builtin.SmallTypes.ownedTupleIsFree (.ref z) >>= _) _ _ _;refine wpAny_bind ?_;unfold Builtin.SmallTypes.ownedTupleIsFree;refine wpAny_bind (wpAny_field hz rfl (x:=.none) rfl (wpAny_pure ?_));simp only [if_true];refine wpAny_bind (wpAny_rule ?_);refine wpAny_bind (wpAny_field hz rfl (x:=.ref TO) rfl ?_);refine wpAny_bind (wpAny_setField_rec hz (by simp) fun g1 z1 s1=>?_);replace z1:IsZip g1 z TI TO .ellipsis:=z1;refine wpAny_bind ?_;simp only [List.zipIdx_cons,List.zipIdx_nil,List.forIn_cons,List.forIn_nil];refine wpAny_bind (wpAny_bind (wpAny_onRaise ?_));show wpAny _ _ (Builtin.SmallTypes.nextOf (.ref i1) >>= _) _ _ _;cases ex:xs[k]? with
 | none=>
  refine wpAny_bind (zd9 hh (h1.to fun o e=>zC s1 D.i1z e) (c1.to fun o e=>zC s1 D.l1z e) ex fun g2 e s2 he=>?_);obtain ⟨oe,hoe,hce⟩:=he;have z2:IsZip g2 z TI TO .ellipsis:=s2 _ _ D.i1z.symm z1;have ez:e≠z:=fun t=>by subst t;rw [z2] at hoe;cases hoe;simp at hce
  exact wpAny_setField_rec z2 (by simp) fun g3 _ s3=>fin g3 e (fun c o n1 _ n3 _ t=>zC s3 n1 (s2 _ _ n3 (zC s1 n1 t))) ⟨oe,zC s3 ez hoe,hce⟩ | some x=>
  have ey:ys[k]? = none:=by rcases en with t | t;rw [ex] at t;cases t;exact t
  refine wpAny_bind (nx (h1.to fun o e=>zC s1 D.i1z e) (c1.to fun o e=>zC s1 D.l1z e) ex fun g2 t2 s2=>wpAny_pure ?_);have o2:IsPair g2 TO a b:=zC s2 D.TOi1 (zC s1 D.TOz hTO);refine wpAny_bind (wpAny_seqItems o2 rfl ?_);refine wpAny_bind (wpAny_updateSeq_pair o2 fun g3 o3 s3=>?_);refine wpAny_bind (wpAny_letGo (wpAny_pure ?_));refine wpAny_bind (wpAny_bind (wpAny_onRaise ?_));show wpAny _ _ (Builtin.SmallTypes.nextOf (.ref i2) >>= _) _ _ _;refine wpAny_bind (zd9 hh (h2.to fun o e=>zC s3 D.TOi2.symm (zC s2 D.i12.symm (zC s1 D.i2z e))) (c2.to fun o e=>zC s3 D.l2TO (zC s2 D.l2i1 (zC s1 D.l2z e))) ey fun g4 e s4 he=>?_);obtain ⟨oe,hoe,hce⟩:=he;have z4:IsZip g4 z TI TO .ellipsis:=s4 _ _ D.i2z.symm (zC s3 D.TOz.symm (zC s2 D.i1z.symm z1));have ez:e≠z:=fun t=>by subst t;rw [z4] at hoe;cases hoe;simp at hce
  exact wpAny_setField_rec z4 (by simp) fun g5 _ s5=>fin g5 e (fun c o n1 n2 n3 n4 t=>zC s5 n1 (s4 _ _ n4 (zC s3 n2 (zC s2 n3 (zC s1 n1 t))))) ⟨oe,zC s5 ez hoe,hce⟩
end
def itO(b:Bool)(l:Addr):Obj:=match b with
 | true=>{cls:=.type "list_iterator",data:=.fields #[.ref l,.int 0 0]} | false=>{cls:=.type "tuple_iterator",data:=.fields #[.ref l,.int 0 0]}
theorem z6P{b:Bool}{h:Heap}{a l:Addr}(e:h.get? a=some (itO b l)):Sit b h a l 0:=by cases b with
 | true=>exact ⟨_,e,rfl,rfl⟩ | false=>exact ⟨_,e,rfl,rfl⟩
theorem z2B(b:Bool)(l:Addr):(itO b l).isFreed=false:=by cases b<;>rfl
section
variable {P:Program}{w:World}{A:Around}{E:Value->Shared->Prop}{s:Shared}
theorem z5b {b:Bool} {l:Addr} {xs:Array Value} {Q:Value->Shared->Prop} (h:Sco b s.heap l xs) (q:Q (.ref s.heap.objs.size) {s with heap:=s.heap.push (itO b l)}):wpAny (model P w) A (pyIter (.ref l)) Q E s:=by cases b with
 | true=>exact wpAny_pyIter_list h q | false=>exact wpAny_pyIter_tuple h q
end
abbrev G1(b1:Bool)(h:Heap)(l1:Addr):Heap:=h.push (itO b1 l1)
abbrev G2(b1 b2:Bool)(h:Heap)(l1 l2:Addr):Heap:=(G1 b1 h l1).push (itO b2 l2)
abbrev G3(b1 b2:Bool)(h:Heap)(l1 l2:Addr):Heap:=(G2 b1 b2 h l1 l2).push {cls:=.type "tuple",data:=.seq #[.ref h.objs.size,.ref (G1 b1 h l1).objs.size]}
abbrev G4(b1 b2:Bool)(h:Heap)(l1 l2:Addr):Heap:=(G3 b1 b2 h l1 l2).push {cls:=.type "tuple",data:=.seq #[.none,.none]}
abbrev G5(b1 b2:Bool)(h:Heap)(l1 l2:Addr):Heap:=(G4 b1 b2 h l1 l2).push {cls:=.type "zip",data:=.fields #[.none,.bool false,.bool false,.ref (G2 b1 b2 h l1 l2).objs.size,.ref (G3 b1 b2 h l1 l2).objs.size]}
theorem zbG (b1 b2:Bool) (l1 l2:Addr) (xs ys:Array Value): Meets (Builtin.«zip.__new__» ⟨[.type "zip",.ref l1,.ref l2],[]⟩) (fun _ R s=>Sco b1 s.heap l1 xs/\Sco b2 s.heap l2 ys/\R (.ok (.ret (.ref (G4 b1 b2 s.heap l1 l2).objs.size))) {s with heap:=G5 b1 b2 s.heap l1 l2}):= .of_wp fun prog w A R s h=>by
  obtain ⟨hp,g,d,tk,os⟩:=s;obtain ⟨c1,c2,h⟩:=h;have hsub:=sub_zip;have q1:Sco b1 (Shared.heap ⟨hp,g,d,tk,os⟩) l1 xs:=c1;have q2:Sco b2 (Shared.heap ⟨hp.push (itO b1 l1),g,d,tk,os⟩) l2 ys:=c2.to fun o e=>Heap.get?_push_of_some _ e;wp_walk using z5b q1,z5b q2;exact ⟨_,rfl,h⟩
section
variable {P:Program}{w:World}{A:Around}{E:Value->Shared->Prop}{s:Shared}
theorem zex {b1 b2:Bool} {l1 l2:Addr} {xs ys:Array Value} {Q:Value->Shared->Prop} (c1:Sco b1 s.heap l1 xs) (c2:Sco b2 s.heap l2 ys) (h:∀ h',IsZip h' (s.heap.objs.size+4) (s.heap.objs.size+2) (s.heap.objs.size+3) .none->IsPair h' (s.heap.objs.size+2) (.ref s.heap.objs.size) (.ref (s.heap.objs.size+1))-> IsPair h' (s.heap.objs.size+3) .none .none->Sit b1 h' s.heap.objs.size l1 0->Sit b2 h' (s.heap.objs.size+1) l2 0->(∀ c o,s.heap.get? c=some o->h'.get? c=some o)->Q (.ref (s.heap.objs.size+4)) {s with heap:=h'}): wpAny (model P w) A (call (.type "zip") [.ref l1,.ref l2]) Q E s:=by
 refine callType_new F.called_zip (by decide) (F.typeCall_zip_2 _ _) (F.newCall_zip_2 _ _) (fun obj=>F.args_object_init_3 obj _ _) F.entry_zip_new (zbG b1 b2 l1 l2 xs ys) ⟨c1,c2,?_⟩;have z1:(G1 b1 s.heap l1).objs.size=s.heap.objs.size+1:=Heap.size_push ..;have z2:(G2 b1 b2 s.heap l1 l2).objs.size=s.heap.objs.size+2:=by rw [Heap.size_push,z1]
 have z3:(G3 b1 b2 s.heap l1 l2).objs.size=s.heap.objs.size+3:=by rw [Heap.size_push,z2]
 have z4:(G4 b1 b2 s.heap l1 l2).objs.size=s.heap.objs.size+4:=by rw [Heap.size_push,z3]
 have up:∀ {h:Heap} {o:Obj} {c:Addr} {u:Obj},h.get? c=some u->(h.push o).get? c=some u:=fun e=>Heap.get?_push_of_some _ e;have g5:(G5 b1 b2 s.heap l1 l2).get? (G4 b1 b2 s.heap l1 l2).objs.size=some _:=Heap.get?_push_size _ rfl;have g4:(G5 b1 b2 s.heap l1 l2).get? (G3 b1 b2 s.heap l1 l2).objs.size=some _:=up (Heap.get?_push_size _ rfl);have g3:(G5 b1 b2 s.heap l1 l2).get? (G2 b1 b2 s.heap l1 l2).objs.size=some _:=up (up (Heap.get?_push_size _ rfl));have g2:(G5 b1 b2 s.heap l1 l2).get? (G1 b1 s.heap l1).objs.size=some (itO b2 l2):=up (up (up (Heap.get?_push_size _ (z2B b2 l2))));have g1:(G5 b1 b2 s.heap l1 l2).get? s.heap.objs.size=some (itO b1 l1):=up (up (up (up (Heap.get?_push_size _ (z2B b1 l1)))));show _/\_;rw [z2,z3,z4] at g5;rw [z1,z2] at g3;rw [z3] at g4;rw [z1] at g2;rw [z4];exact ⟨⟨_,g5,rfl⟩,h _ g5 g3 g4 (z6P g1) (z6P g2) fun c o e=>up (up (up (up (up e))))⟩
end
end Zz
namespace L2
open PySem.Spec Zz
def Sq(b:Bool)(K:W.Frag)(H:Hp)(a:Addr)(xs:List V):Prop:=match b with
 | true=>SqL K H a xs | false=>SqT K H a xs
section
variable {X:Cx}{pins:List (Addr×Obj)}{O:St}{H:Hp}{s:Shared}{h':Heap}
theorem Inv.sq{b:Bool}{a:Addr}{xs:List V}(I:Inv X pins O H s)(h:Sq b X.K H a xs):∃ its:List Value,yY xs its/\Sco b s.heap a its.toArray:=by cases b with
 | true=>obtain ⟨its,r,p,_⟩:=I.list h;exact ⟨its,r,p.isList⟩ | false=>obtain ⟨its,r,p,_⟩:=I.tuple h;exact ⟨its,r,p⟩
theorem Inv.sq_inj{b:Bool}{a:Addr}{xs ys:List V}(I:Inv X pins O H s)(h:Sq b X.K H a xs)(h':Sq b X.K H a ys):xs=ys:=by cases b with
 | true=>exact I.list_inj h h' | false=>exact I.tuple_inj h h'
theorem Inv.turnedL {t':Nat} {ch:List Addr} (I:Inv X pins O H s) (k:∀ b o,b∉ch->s.heap.get? b=some o->h'.get? b=some o) (f:∀ b∈ch,z6s X pins H b):Inv X pins O H {s with heap:=h',toks:=t'}:=by
 have nit:∀ b u,H b=some u->b∉ch:=fun b u e z=>by rw [(f b z).1] at e;cases e
 refine I.step (g':=s.gens) (d':=s.drawn) (ch:=ch) (fun b hb=>⟨(f b hb).2.2.2.1,(f b hb).2.1,(f b hb).2.2.2.2.1,(f b hb).2.2.2.2.2⟩) (fun b o _ _ hc e _=>k b o hc e) (fun b o _ _ hc e _=>⟨o.slots,k b o hc e⟩) (fun _ _ _ _ n=>n) (fun b o hc e=>⟨o,k b o hc e⟩) (fun _ _ e=>e) (fun _ _ _ e=>e) (fun b ps e=>⟨#[],by rw [e];simp⟩) (fun m hm=>?_) (fun b u e=>?_) I.bare
 ·obtain ⟨o,es,ep,ho,r⟩:=hm;exact ⟨o,es,ep,k _ o (fun z=>(f _ z).2.1 rfl) ho,r⟩
 ·refine (I.hok b u e).stay (fun c v hc q=>k c v ?_ q) (fun _ q=>q) fun _ _ q=>q;rcases hc with z | z;·rw [z];exact nit b u e
  ·exact nit c _ z
end
def Itz(K:W.Frag)(b1 b2:Bool)(l1 l2:Addr):It:= ⟨fun i H=>∃ xs ys x y,Sq b1 K H l1 xs/\Sq b2 K H l2 ys/\xs[i]? = some x/\ys[i]? = some y, fun i H v H'=>∃ T x y,H T=none/\v=.ref T/\H'=upd H T (.tup [x,y])/\(∀ xs,Sq b1 K H l1 xs->xs[i]? = some x)/\∀ ys,Sq b2 K H l2 ys->ys[i]? = some y, fun i H=>∃ xs ys,Sq b1 K H l1 xs/\Sq b2 K H l2 ys/\(xs.length<=i\/ys.length<=i)⟩
theorem zep {P:Program} {w:World} {K:W.Frag} {elts:List Expr} {kt:Nat} {tp:Pos} {b1 b2:Bool} {z TI TO i1 i2 l1 l2:Addr} (D:ZipApart z TI TO i1 i2 l1 l2): zh5 P w K (.Tuple elts kt tp) (Itz K b1 b2 l1 l2) [z,TI,TO,i1,i2] z (fun i h=>IsZip h z TI TO .none/\IsPair h TI (.ref i1) (.ref i2)/\(∃ a b,IsPair h TO a b)/\Sit b1 h i1 l1 i/\Sit b2 h i2 l2 i) where
 mem:=by simp
 obj:=fun i h ⟨hz,hTI,⟨a,b,hTO⟩,h1,h2⟩ c hc=>by
  have hc':c=z\/c=TI\/c=TO\/c=i1\/c=i2:=by simpa using hc
  rcases hc' with rfl | rfl | rfl | rfl | rfl;·exact ⟨_,hz,fun v e=>by simp at e⟩
  ·exact ⟨_,hTI,fun v e=>by simp at e⟩
  ·exact ⟨_,hTO,fun v e=>by simp at e⟩
  ·exact h1.ob
  ·exact h2.ob
 keep:=fun i h h' ⟨hz,hTI,⟨a,b,hTO⟩,h1,h2⟩ k=>⟨k z (by simp) _ hz,k TI (by simp) _ hTI,⟨a,b,k TO (by simp) _ hTO⟩,h1.to fun o e=>k i1 (by simp) o e,h2.to fun o e=>k i2 (by simp) o e⟩;item:=by
  intro X hP hw hK hc i pins s O H E I hf ⟨hz,hTI,⟨a,b,hTO⟩,h1,h2⟩ ⟨xs,ys,x,y,qx,qy,ex,ey⟩;subst hP hw hK;obtain ⟨ix,rx,cx⟩:=I.sq qx;obtain ⟨iy,ry,cy⟩:=I.sq qy;obtain ⟨u,hu,ru⟩:=rx.get ex;obtain ⟨v,hv,rv⟩:=ry.get ey;refine zhu D hz hTI hTO h1 h2 cx cy (x:=u) (y:=v) (by simpa using hu) (by simpa using hv) fun g a1 a2 a3 a4 a5 a6 hk=>⟨_,rfl,?_⟩;have kk:∀ c o,c∉[z,TO,i1,i2]->s.heap.get? c=some o->g.get? c=some o:=fun c o n e=>hk c o (fun t=>n (by simp [t])) (fun t=>n (by simp [t])) (fun t=>n (by simp [t])) (fun t=>n (by simp [t])) e;have sub:∀ c∈[z,TO,i1,i2],c∈[z,TI,TO,i1,i2]:=fun c hc=>by
   have:c=z\/c=TO\/c=i1\/c=i2:=by simpa using hc
   rcases this with rfl | rfl | rfl | rfl<;>simp
  have I1:Inv X pins O H {s with heap:=g}:=I.turnedL (t':=s.toks) kk fun c hc=>hf c (sub c hc);refine wpAny_letOwnedTupleGo_zip a1 fun g2 z2 s2=>?_;obtain ⟨f0,f1,f2,f3,f4,f5⟩:=hf z (by simp);have I2:Inv X pins O H {s with heap:=g2}:=I1.turned (t':=s.toks) (fun c o n e=>zC s2 n e) f0 f1 f3 f4 f5;have new:z6s X pins H s.heap.objs.size:=I.fpOk (Nat.le_refl _) (I.hok.fresh (Nat.le_refl _));have ne:∀ {c:Addr} {o:Obj},s.heap.get? c=some o->c≠s.heap.objs.size:=fun e=>Nat.ne_of_lt (Heap.lt_size e);have p2:IsPair g2 s.heap.objs.size u v:=zC s2 (ne hz).symm a5;refine ⟨.ref s.heap.objs.size,upd H s.heap.objs.size (.tup [x,y]),I2.track new ⟨?_,[u,v],.cons ru (.cons rv .nil),⟨_,p2,rfl,rfl,_,rfl⟩⟩,rfl,⟨_,x,y,new.1,rfl,rfl,fun zs qz=>?_,fun zs qz=>?_⟩,⟨z2,?_,⟨_,_,zC s2 D.TOz a2⟩,a3.to fun o e=>zC s2 D.i1z e,a4.to fun o e=>zC s2 D.i2z e⟩,fun c hc=>?_⟩;·show 2<=sizeLine;decide
  ·rw [I.sq_inj qz qx];exact ex
  ·rw [I.sq_inj qz qy];exact ey
  ·exact zC s2 D.TIz (hk TI _ D.TIz D.TITO D.TIi1 D.TIi2 hTI)
  ·have hc':c=z\/c=TI\/c=TO\/c=i1\/c=i2:=by simpa using hc
   have:c≠s.heap.objs.size:=by
    rcases hc' with rfl | rfl | rfl | rfl | rfl;·exact ne hz
    ·exact ne hTI
    ·exact ne hTO
    ·exact Nat.ne_of_lt h1.lt
    ·exact Nat.ne_of_lt h2.lt
   rw [zS this];exact (hf c hc).1
 done:=by
  intro X hP hw hK hc i pins s O H E I hf ⟨hz,hTI,⟨a,b,hTO⟩,h1,h2⟩ ⟨xs,ys,qx,qy,hl⟩;subst hP hw hK;obtain ⟨ix,rx,cx⟩:=I.sq qx;obtain ⟨iy,ry,cy⟩:=I.sq qy;have lx:=rx.length;have ly:=ry.length;refine zjh (I.ok.hd hc) D hz hTI hTO h1 h2 cx cy ?_ fun g hk=>⟨rfl,?_⟩
  ·rcases hl with hl | hl;·exact .inl (by simp;omega)
   ·exact .inr (by simp;omega)
  ·exact I.turnedL (t':=s.toks) (ch:=[z,TO,i1,i2]) (fun c o n e=>hk c o (fun t=>n (by simp [t])) (fun t=>n (by simp [t])) (fun t=>n (by simp [t])) (fun t=>n (by simp [t])) e) fun c hc=>hf c (by
    have:c=z\/c=TO\/c=i1\/c=i2:=by simpa using hc
    rcases this with rfl | rfl | rfl | rfl<;>simp)
 self:=fun _ _ _ _ _ st h=>wpAny_pyIter_zip st.1 h
theorem zi4{X:Cx}{elts:List Expr}{kt:Nat}{tp:Pos}{a b:Expr}{ta:TA}{p pos:Pos}(hg:Gl X "zip")(hm:X.mg "zip"=none)(ha:PA X [a,b] ta)(hs:starEach [a,b] X.env=(false,eval a X.env)::starEach [b] X.env:=by rfl)(hpl:(backTo pos (starEach [b] X.env)).any (·.1)=false:=by rfl): PI X (.Tuple elts kt tp) (.Call (.Name "zip" p) [a,b] [] pos) (fun O H R=>ta O H fun vs H1=>∃ l1 l2 b1 b2,vs=[.ref l1,.ref l2]/\(∃ xs,Sq b1 X.K H1 l1 xs)/\(∃ ys,Sq b2 X.K H1 l2 ys)/\R (Itz X.K b1 b2 l1 l2) H1):=by
 intro pins s O H R I h;refine wpAny_Call_Name_kw (z1v I hg hm (u:=.type "zip") (by first | exact PySem.boot_zip | rfl | decide +kernel) ?_ (by decide) (by decide));refine PyProof.Rows.callWith_type1 (thn (ha pos pins s O H _ I h) fun us s1 ⟨vs,H1,I1,r1,q1⟩=>?_) hs hpl;obtain ⟨l1,l2,b1,b2,rfl,⟨xs,qx⟩,⟨ys,qy⟩,q⟩:=q1;cases r1 with | cons r1 r2=> cases r2 with | cons r2 r3=>
   cases r3;cases r1;cases r2;obtain ⟨ix,rx,cx⟩:=I1.sq qx;obtain ⟨iy,ry,cy⟩:=I1.sq qy;have lt1:l1<s1.heap.objs.size:=by cases b1 with
    | true=>obtain ⟨o,e,_⟩:=cx;exact Heap.lt_size e | false=>obtain ⟨o,e,_⟩:=cx;exact Heap.lt_size e
   have lt2:l2<s1.heap.objs.size:=by cases b2 with
    | true=>obtain ⟨o,e,_⟩:=cy;exact Heap.lt_size e | false=>obtain ⟨o,e,_⟩:=cy;exact Heap.lt_size e
   have D:ZipApart (s1.heap.objs.size+4) (s1.heap.objs.size+2) (s1.heap.objs.size+3) s1.heap.objs.size (s1.heap.objs.size+1) l1 l2:=by
    have e1:∀ k:Nat,l1≠s1.heap.objs.size+k:=fun k=>Nat.ne_of_lt (Nat.lt_of_lt_of_le lt1 (Nat.le_add_right _ _));have e2:∀ k:Nat,l2≠s1.heap.objs.size+k:=fun k=>Nat.ne_of_lt (Nat.lt_of_lt_of_le lt2 (Nat.le_add_right _ _));have nk:∀ (m j k:Nat),j≠k->m+j≠m+k:=fun m j k h z=>h (Nat.add_left_cancel z);exact ⟨nk _ 2 4 (by decide),nk _ 3 4 (by decide),nk _ 0 4 (by decide),nk _ 1 4 (by decide),nk _ 2 3 (by decide),nk _ 2 0 (by decide),nk _ 2 1 (by decide),nk _ 3 0 (by decide),nk _ 3 1 (by decide),nk _ 0 1 (by decide),e1 4,e1 3,e1 0,e1 1,e2 4,e2 3,e2 0,e2 1⟩
   refine zex cx cy fun g hz hTI hTO h1 h2 hk=>?_;refine wpAny_pyIter_zip hz ?_;refine ⟨_,_,_,_,H1,rfl,I1.kept (t':=s1.toks) hk,zep D,⟨hz,hTI,⟨_,_,hTO⟩,h1,h2⟩,fun c hc=>?_,q⟩;have hc':s1.heap.objs.size<=c:=by
    have:c=s1.heap.objs.size+4\/c=s1.heap.objs.size+2\/c=s1.heap.objs.size+3\/c=s1.heap.objs.size\/c=s1.heap.objs.size+1:=by simpa using hc
    rcases this with rfl | rfl | rfl | rfl | rfl<;>first | exact Nat.le_refl _ | exact Nat.le_add_right _ _
   exact I1.fpOk hc' (I1.hok.fresh hc')
end L2
namespace Zz
section
variable {P:Program}{w:World}{A:Around}{E:Value->Shared->Prop}{s:Shared}
theorem z5s {b : Bool} {l : Addr} {its : Array Value} {Q : Value → Shared → Prop} (hh : A.handled = none) (h : Sco b s.heap l its) (k : ∀ s2 : Shared, s2 = { s with heap := s.heap.push (itO b l) } → ∀ St : Nat → Heap → Prop, Walks P w A s.heap.objs.size [s.heap.objs.size, l] [s.heap.objs.size] its.size (fun i v => its[i]? = some v) St → St 0 s2.heap → (∀ c ∈ [s.heap.objs.size, l], c < s2.heap.objs.size) → (∀ h' : Heap, (∀ c o, c ∉ [s.heap.objs.size] → s2.heap.get? c = some o → h'.get? c = some o) → ∀ c o, s.heap.get? c = some o → h'.get? c = some o) → Q (.ref s.heap.objs.size) s2) : wpAny (model P w) A (pyIter (.ref l)) Q E s := by
  have lt : l < s.heap.objs.size := by cases b with
    | true => obtain ⟨o, e, _⟩ := h; exact Heap.lt_size e | false => obtain ⟨o, e, _⟩ := h; exact Heap.lt_size e
  have ne : l ≠ s.heap.objs.size := Nat.ne_of_lt lt;have bd : ∀ c ∈ [s.heap.objs.size, l], c < (s.heap.push (itO b l)).objs.size := fun c hc => by
    have : c = s.heap.objs.size ∨ c = l := by simpa using hc
    rw [Heap.size_push];rcases this with rfl | rfl;· exact Nat.lt_succ_self _
    · exact Nat.lt_succ_of_lt lt
  have old : ∀ h' : Heap, (∀ c o, c ∉ [s.heap.objs.size] → (s.heap.push (itO b l)).get? c = some o → h'.get? c = some o) → ∀ c o, s.heap.get? c = some o → h'.get? c = some o := fun h' hk c o e =>
    hk c o (fun z => by have : c = s.heap.objs.size := by simpa using z
                        exact absurd (this ▸ Heap.lt_size e) (Nat.lt_irrefl _)) (Heap.get?_push_of_some _ e);refine z5b h ?_;have g : (s.heap.push (itO b l)).get? s.heap.objs.size = some (itO b l) := Heap.get?_push_size _ (z2B b l);cases b with
  | true => exact k _ rfl _ (Walks.list hh _ l ne its) ⟨z6P (b := true) g, Sco.to (b := true) h fun o e => Heap.get?_push_of_some _ e⟩ bd old | false => exact k _ rfl _ (Walks.tuple hh _ l ne its) ⟨z6P (b := false) g, Sco.to (b := false) h fun o e => Heap.get?_push_of_some _ e⟩ bd old
end
end Zz
namespace L2
open PySem.Spec Zz
def maxL:List Int->Int
 | []=>0 | x::xs=>xs.foldl max x
def minL:List Int->Int
 | []=>0 | x::xs=>xs.foldl min x
theorem uH:∀ (xs:List Int)(x:Int),x<=xs.foldl max x/\(∀ y∈xs,y<=xs.foldl max x)/\(xs.foldl max x=x\/xs.foldl max x∈xs)
 | [],x=>⟨Int.le_refl _,by simp,.inl rfl⟩ | y::ys,x=>by
  obtain ⟨h1,h2,h3⟩:=uH ys (max x y);refine ⟨by simp only [List.foldl_cons];omega,fun z hz=>?_,?_⟩
  ·simp only [List.foldl_cons];rcases List.mem_cons.mp hz with rfl | hz;·omega
   ·exact h2 z hz
  ·simp only [List.foldl_cons];rcases h3 with h3 | h3
   ·rw [h3];rcases Int.le_total x y with h | h;·exact .inr (by rw [Int.max_eq_right h];simp)
    ·exact .inl (Int.max_eq_left h)
   ·exact .inr (List.mem_cons_of_mem _ h3)
theorem uS:∀ (xs:List Int)(x:Int),xs.foldl min x<=x/\(∀ y∈xs,xs.foldl min x<=y)/\(xs.foldl min x=x\/xs.foldl min x∈xs)
 | [],x=>⟨Int.le_refl _,by simp,.inl rfl⟩ | y::ys,x=>by
  obtain ⟨h1,h2,h3⟩:=uS ys (min x y);refine ⟨by simp only [List.foldl_cons];omega,fun z hz=>?_,?_⟩
  ·simp only [List.foldl_cons];rcases List.mem_cons.mp hz with rfl | hz;·omega
   ·exact h2 z hz
  ·simp only [List.foldl_cons];rcases h3 with h3 | h3
   ·rw [h3];rcases Int.le_total x y with h | h;·exact .inl (Int.min_eq_left h)
    ·exact .inr (by rw [Int.min_eq_right h];simp)
   ·exact .inr (List.mem_cons_of_mem _ h3)
theorem maxL_ge{xs:List Int}:∀ y∈xs,y<=maxL xs:=by cases xs with
 | nil=>simp | cons x xs=>intro y hy;rcases List.mem_cons.mp hy with rfl | hy;exact (uH xs y).1;exact (uH xs x).2.1 y hy
theorem maxL_mem{xs:List Int}(h:xs≠[]):maxL xs∈xs:=by cases xs with
 | nil=>exact absurd rfl h | cons x xs=>rcases (uH xs x).2.2 with e | e;exact (show xs.foldl max x∈x::xs by rw [e];simp);exact List.mem_cons_of_mem _ e
theorem minL_le{xs:List Int}:∀ y∈xs,minL xs<=y:=by cases xs with
 | nil=>simp | cons x xs=>intro y hy;rcases List.mem_cons.mp hy with rfl | hy;exact (uS xs y).1;exact (uS xs x).2.1 y hy
theorem minL_mem{xs:List Int}(h:xs≠[]):minL xs∈xs:=by cases xs with
 | nil=>exact absurd rfl h | cons x xs=>rcases (uS xs x).2.2 with e | e;exact (show xs.foldl min x∈x::xs by rw [e];simp);exact List.mem_cons_of_mem _ e
section
variable {X:Cx}
theorem z3V {ns:List Int} {its:List Value} (r:yY (ns.map V.int) its) {i:Nat} {v:Value} (e:its.toArray[i]? = some v):∃ t,v=.int (ns.getD i 0) t/\i<ns.length:=by
 have e':its[i]? = some v:=by simpa using e
 have hl:=r.length;have hi:i<ns.length:=by
  have:=(List.getElem?_eq_some_iff.mp e').1;simp at hl;omega
 obtain ⟨u,hu,ru⟩:=r.get (i:=i) (x:=V.int ns[i]) (by simp [hi]);rw [e'] at hu;cases hu;obtain ⟨t,rfl⟩:=ru;exact ⟨t,by simp [List.getD,hi],hi⟩
theorem getD_in{ns:List Int}{i:Nat}(h:i<ns.length):ns.getD i 0∈ns:=by
 rw [List.getD,List.getElem?_eq_getElem h];exact List.getElem_mem _
theorem zbS (hc:X.calm=true):wu X (.builtin "max") (fun xs H Q=>∃ b p ns,xs=[.ref p]/\Sq b X.K H p (ns.map V.int)/\ns≠[]/\Q (.int (maxL ns)) H):=by
 intro pins s O H xs us Q I r h;obtain ⟨b,p,ns,rfl,hq,hne,q⟩:=h;obtain ⟨u,rfl,ru⟩:=vals1 r;cases ru;obtain ⟨its,rv,co⟩:=I.sq hq;have hl:its.length=ns.length:=by have:=rv.length;simp at this;omega
 have hn:0<ns.length:=List.length_pos_iff.mpr hne;refine call_max_walk (z5s (I.ok.hd hc) co fun s2 e2 St W st bd old=>?_);subst e2;refine ⟨_,_,_,_,_,_,_,rfl,W,st,bd,by simpa [hl] using hn,CmpOf.ints_gt (fun i=>ns.getD i 0) (fun i v e=>let ⟨t,e1,_⟩:=z3V rv e;⟨t,e1⟩),fun v h' tk e hk=>?_⟩;obtain ⟨t,e1,lt⟩:=z3V rv e;obtain ⟨h1,h2⟩:=argBest_gt (fun i=>ns.getD i 0) (its.toArray.size-1);have em:ns.getD (argBest (fun i j=>decide (ns.getD i 0 > ns.getD j 0)) (its.toArray.size-1)) 0=maxL ns:=by
  refine Int.le_antisymm (maxL_ge _ ?_) ?_;·exact getD_in lt
  ·obtain ⟨j,hj,ej⟩:=List.mem_iff_getElem.mp (maxL_mem hne);have:=h2 j (by simp [hl];omega);simp only [List.getD,List.getElem?_eq_getElem hj,Option.getD_some,ej] at this;simpa [List.getD] using this
 rw [e1,em];exact ⟨.int (maxL ns),H,I.kept (t':=tk) (old h' hk),⟨t,rfl⟩,q⟩
theorem zbz (hc:X.calm=true):wu X (.builtin "min") (fun xs H Q=>∃ b p ns,xs=[.ref p]/\Sq b X.K H p (ns.map V.int)/\ns≠[]/\Q (.int (minL ns)) H):=by
 intro pins s O H xs us Q I r h;obtain ⟨b,p,ns,rfl,hq,hne,q⟩:=h;obtain ⟨u,rfl,ru⟩:=vals1 r;cases ru;obtain ⟨its,rv,co⟩:=I.sq hq;have hl:its.length=ns.length:=by have:=rv.length;simp at this;omega
 have hn:0<ns.length:=List.length_pos_iff.mpr hne;refine call_min_walk (z5s (I.ok.hd hc) co fun s2 e2 St W st bd old=>?_);subst e2;refine ⟨_,_,_,_,_,_,_,rfl,W,st,bd,by simpa [hl] using hn,CmpOf.ints_lt (fun i=>ns.getD i 0) (fun i v e=>let ⟨t,e1,_⟩:=z3V rv e;⟨t,e1⟩),fun v h' tk e hk=>?_⟩;obtain ⟨t,e1,lt⟩:=z3V rv e;obtain ⟨h1,h2⟩:=argBest_lt (fun i=>ns.getD i 0) (its.toArray.size-1);have em:ns.getD (argBest (fun i j=>decide (ns.getD i 0<ns.getD j 0)) (its.toArray.size-1)) 0=minL ns:=by
  refine Int.le_antisymm ?_ (minL_le _ ?_)
  ·obtain ⟨j,hj,ej⟩:=List.mem_iff_getElem.mp (minL_mem hne);have:=h2 j (by simp [hl];omega);simp only [List.getD,List.getElem?_eq_getElem hj,Option.getD_some,ej] at this;simpa [List.getD] using this
  ·exact getD_in lt
 rw [e1,em];exact ⟨.int (minL ns),H,I.kept (t':=tk) (old h' hk),⟨t,rfl⟩,q⟩
theorem all_range{bs:List Bool}:(List.range bs.length).all (fun i=>bs.getD i false)=bs.all id:=by
 rw [Bool.eq_iff_iff];simp only [List.all_eq_true,List.mem_range,id];constructor
 ·intro h x hx;obtain ⟨j,hj,ej⟩:=List.mem_iff_getElem.mp hx;have:=h j hj;simpa [List.getD,hj,ej] using this
 ·intro h i hi;simp only [List.getD,List.getElem?_eq_getElem hi,Option.getD_some];exact h _ (List.getElem_mem _)
theorem zcu (hc:X.calm=true):wu X (.builtin "all") (fun xs H Q=>∃ (b:Bool) (p:Addr) (bs:List Bool),xs=[.ref p]/\Sq b X.K H p (bs.map V.bl)/\Q (.bl (bs.all id)) H):=by
 intro pins s O H xs us Q I r h;obtain ⟨b,p,bs,rfl,hq,q⟩:=h;obtain ⟨u,rfl,ru⟩:=vals1 r;cases ru;obtain ⟨its,rv,co⟩:=I.sq hq;have hl:its.length=bs.length:=by have:=rv.length;simp at this;omega
 refine call_all_walk (z5s (I.ok.hd hc) co fun s2 e2 St W st bd old=>?_);subst e2;refine ⟨_,_,_,_,_,_,fun i=>bs.getD i false,rfl,W,st,fun i v s3 Q3 E3 e q3=>?_,fun h' tk hk=>?_⟩
 ·have e':its[i]? = some v:=by simpa using e
  have hi:i<bs.length:=by have:=(List.getElem?_eq_some_iff.mp e').1;omega
  obtain ⟨u,hu,ru⟩:=rv.get (i:=i) (x:=V.bl bs[i]) (by simp [hi]);rw [e'] at hu;cases hu;cases ru;have:bs.getD i false=bs[i]:=by simp [List.getD,hi]
  have q3:Q3 (bs.getD i false) s3:=q3;rw [this] at q3;exact wpAny_truthy_bool q3
 ·have ez:its.toArray.size=bs.length:=by simp [hl]
  rw [ez,all_range];exact ⟨.bl (bs.all id),H,I.kept (t':=tk) (old h' hk),rfl,q⟩
end
end L2
namespace L2
open PySem.Spec
theorem z8e{X:Cx}:wu X (.builtin "isinstance") (fun xs H Q=>∃ x t T b,xs=[x,.ty T]/\z8a X.K H x t/\W.kitOne X.K t (.type T)=some b/\Q (.bl b) H):=by
 intro pins s O H xs us Q I r h;obtain ⟨x,t,T,b,rfl,ht,hk,q⟩:=h;obtain ⟨u,v,rfl,ru,rv⟩:=vals2 r;cases rv;exact zcl I ru ht hk fun tk=>⟨.bl b,H,I.tok _,rfl,q⟩
end L2
namespace Dd
open PySem.Spec L2
def tyD:D->Option String
 | .non=>some "NoneType" | .bl _=>some "bool" | .int _=>some "int" | .str _=>some "str" | .tup _=>some "tuple" | .lst _=>some "list" | .loc _=>some "list" | .dct=>some "dict" | _=>none
def isT(T t:String):Bool:=t==T||(T=="int"&&t=="bool")
def gIs(T:String):D->Sto->R D:=fun d s=>match tyD d with | some t=>.ok (.bl (isT T t)) s | none=>.no
theorem z8Y{K:W.Frag}{t:String}(h:t∈["NoneType","bool","int","str","tuple","list","dict"])(T:String)(hT:T∈["int","bool","str","tuple","list"]):W.kitOne K (.type t) (.type T)=some (isT T t):=by
 have hh:t="NoneType"\/t="bool"\/t="int"\/t="str"\/t="tuple"\/t="list"\/t="dict":=by simpa using h
 have hh':T="int"\/T="bool"\/T="str"\/T="tuple"\/T="list":=by simpa using hT
 rcases hh with rfl | rfl | rfl | rfl | rfl | rfl | rfl<;>rcases hh' with rfl | rfl | rfl | rfl | rfl<;>kernel_rfl
theorem zfx{mg:Gm}{H:Hp}{Y:List Addr}{s:Sto}{d:D}{v:V}{t:String}(r:Rep mg H Y s)(dn:Den mg H Y d v)(e:tyD d=some t):z8a mg.K H v (.type t)/\t∈["NoneType","bool","int","str","tuple","list","dict"]:=by cases d with
 | non=>simp only [Den] at dn;subst dn;cases e;exact ⟨.non,by simp⟩ | bl b=>cases jC dn;cases e;exact ⟨.bl b,by simp⟩ | int b=>cases yG dn;cases e;exact ⟨.int b,by simp⟩ | str b=>cases jR dn;cases e;exact ⟨.str b,by simp⟩ | tup b=>
  cases e;simp only [Den] at dn;obtain ⟨a,vs,rfl,h1,_⟩:=dn;exact ⟨.tup h1,by simp⟩ | lst b=>
  cases e;simp only [Den] at dn;obtain ⟨a,o,vs,rfl,h1,_⟩:=dn;exact ⟨.frz h1,by simp⟩ | loc l=>
  cases e;simp only [Den] at dn;obtain ⟨a,rfl,h1⟩:=dn;obtain ⟨vs,h2⟩:=r.mt a (List.mem_of_getElem? h1);exact ⟨.lst h2,by simp⟩ | dct=>
  cases e;simp only [Den] at dn;obtain ⟨a,rfl,h1⟩:=dn;exact ⟨.dK h1,by simp⟩ | _=>cases e
section
variable {X:Cx}{E:XK}{e a b c tg:Expr}{es:List Expr}{pos:Pos}{CX:CXT}
def eIs(T:String)(f:FE):FE:=fun Z s=>(f Z s).bind fun d s1=>gIs T d s1
theorem z84{p p2:Pos}{T:String}{tn:Str}{f:FE}(hT:T∈["int","bool","str","tuple","list"])(hv:bootBuiltins tn=some (.type T))(hg:Gl X "isinstance")(hm:X.mg "isinstance"=none)(hg2:Gl X tn)(hm2:X.mg tn=none)(he:RE X E e f) (hn:tn≠"__name__":=by decide)(hd:(tn==("__debug__":Str))=false:=by decide) (hs:starEach [e,.Name tn p2] X.env=(false,eval e X.env)::starEach [.Name tn p2] X.env:=by rfl)(hpl:(backTo pos (starEach [.Name tn p2] X.env)).any (·.1)=false:=by rfl):RE X E (.Call (.Name "isinstance" p) [e,.Name tn p2] [] pos) (eIs T f):= zW (z11 z8e hg hm (by decide +kernel) (wj he (wj (z5E hg2 hm2 hv (show wm (.ty T) (.type T) from rfl) hn hd) jL) hs) (by decide) (by decide) hs hpl) fun O H Q ⟨Y,Z,s,r,en,h⟩=>by
  refine yz (k:=fun Z d s1=>gIs T d s1) r en h _ fun v H1 Y1 s1 d r1 en1 dn stp h1=>?_;unfold gIs at h1;split at h1
  ·rename_i t et;obtain ⟨q1,q2⟩:=zfx r1 dn et;exact ⟨v,.type t,T,isT T t,rfl,q1,z8Y q2 T hT,okR.here (b:=V.bl (isT T t)) h1 r1 xW⟩
  ·exact h1.elim
def znb:List D->Sto->R D
 | [.int i],s=>.ok (.int (if i<0 then -i else i)) s | _,_=>.no
def intsOf:List D->Option (List Int)
 | []=>some [] | .int i::r=>(intsOf r).map (i::·) | _=>none
def bools:List D->Option (List Bool)
 | []=>some [] | .bl i::r=>(bools r).map (i::·) | _=>none
theorem jU:∀ {xs:List D}{ns:List Int},intsOf xs=some ns->xs=ns.map D.int
 | [],ns,h=>by simp [intsOf] at h;subst h;rfl | .int i::r,ns,h=>by
  simp only [intsOf,Option.map_eq_some_iff] at h;obtain ⟨ms,h1,rfl⟩:=h;rw [jU h1];rfl
theorem vn(ns:List Int):intsOf (ns.map D.int)=some ns:=by induction ns with
 | nil=>rfl | cons n ns ih=>simp [intsOf,ih]
theorem z2F:∀ {xs:List D}{ns:List Bool},bools xs=some ns->xs=ns.map D.bl
 | [],ns,h=>by simp [bools] at h;subst h;rfl | .bl i::r,ns,h=>by
  simp only [bools,Option.map_eq_some_iff] at h;obtain ⟨ms,h1,rfl⟩:=h;rw [z2F h1];rfl
theorem z7M(ns:List Bool):bools (ns.map D.bl)=some ns:=by induction ns with
 | nil=>rfl | cons n ns ih=>simp [bools,ih]
theorem kB{mg:Gm}{H:Hp}{Y:List Addr}:∀ {ns:List Int}{vs:List V},zF mg H Y (ns.map D.int) vs->vs=ns.map V.int
 | [],vs,h=>by simpa [zF] using h | n::ns,vs,h=>by
  simp only [List.map_cons,zF] at h;obtain ⟨v,r,rfl,h1,h2⟩:=h;cases yG h1;rw [kB h2];rfl
theorem z2z{mg:Gm}{H:Hp}{Y:List Addr}:∀ {ns:List Bool}{vs:List V},zF mg H Y (ns.map D.bl) vs->vs=ns.map V.bl
 | [],vs,h=>by simpa [zF] using h | n::ns,vs,h=>by
  simp only [List.map_cons,zF] at h;obtain ⟨v,r,rfl,h1,h2⟩:=h;cases jC h1;rw [z2z h2];rfl
def vD:List D->Sto->R D
 | [d],s=>match (zJ s d).bind intsOf with | some (n::ns)=>.ok (.int (maxL (n::ns))) s | _=>.no
 | _,_=>.no
def z4j:List D->Sto->R D
 | [d],s=>match (zJ s d).bind intsOf with | some (n::ns)=>.ok (.int (minL (n::ns))) s | _=>.no
 | _,_=>.no
def zap:List D->Sto->R D
 | [d],s=>match (zJ s d).bind bools with | some ns=>.ok (.bl (ns.all id)) s | none=>.no
 | _,_=>.no
theorem z9p{K:W.Frag}{H:Hp}{a:Addr}{vs:List V}(h:SqL K H a vs\/SqT K H a vs):∃ b,Sq b K H a vs:=h.elim (fun h=>⟨true,h⟩) fun h=>⟨false,h⟩
theorem z1V(hc:X.calm=true):∃ r,wu X (.builtin "max") r/\z1n X E r vD:=⟨_,zbS hc,fun H Y s ds vs Q r hd h=>by
 unfold vD at h;split at h
 ·rename_i d;split at h
  ·rename_i n ns e;obtain ⟨xs,e1,e2⟩:=Option.bind_eq_some_iff.mp e;have:=jU e2;subst this;obtain ⟨v,rfl,dn⟩:=z1s hd;obtain ⟨a,ws,rfl,q1,q2⟩:=uP (K:=X.K) r e1 dn;cases kB q2;obtain ⟨b,q⟩:=z9p q1;exact ⟨b,a,n::ns,rfl,q,by simp,h.here r yT⟩
  ·exact h.elim
 ·exact h.elim⟩
theorem zfe(hc:X.calm=true):∃ r,wu X (.builtin "min") r/\z1n X E r z4j:=⟨_,zbz hc,fun H Y s ds vs Q r hd h=>by
 unfold z4j at h;split at h
 ·rename_i d;split at h
  ·rename_i n ns e;obtain ⟨xs,e1,e2⟩:=Option.bind_eq_some_iff.mp e;have:=jU e2;subst this;obtain ⟨v,rfl,dn⟩:=z1s hd;obtain ⟨a,ws,rfl,q1,q2⟩:=uP (K:=X.K) r e1 dn;cases kB q2;obtain ⟨b,q⟩:=z9p q1;exact ⟨b,a,n::ns,rfl,q,by simp,h.here r yT⟩
  ·exact h.elim
 ·exact h.elim⟩
theorem zgf(hc:X.calm=true):∃ r,wu X (.builtin "all") r/\z1n X E r zap:=⟨_,zcu hc,fun H Y s ds vs Q r hd h=>by
 unfold zap at h;split at h
 ·rename_i d;split at h
  ·rename_i ns e;obtain ⟨xs,e1,e2⟩:=Option.bind_eq_some_iff.mp e;have:=z2F e2;subst this;obtain ⟨v,rfl,dn⟩:=z1s hd;obtain ⟨a,ws,rfl,q1,q2⟩:=uP (K:=X.K) r e1 dn;cases z2z q2;obtain ⟨b,q⟩:=z9p q1;exact ⟨b,a,ns,rfl,q,h.here r xW⟩
  ·exact h.elim
 ·exact h.elim⟩
def z1f:List D->List D->List D
 | x::xs,y::ys=>.tup [x,y]::z1f xs ys | _,_=>[]
theorem z3c:∀ (xs ys:List D),(z1f xs ys).length=min xs.length ys.length
 | [],ys=>by simp [z1f] | x::xs,[]=>by simp [z1f] | x::xs,y::ys=>by simp only [z1f,List.length_cons,z3c xs ys];omega
theorem zd7:∀ {xs ys:List D}{i:Nat}{d:D},(z1f xs ys)[i]? = some d->∃ x y,xs[i]? = some x/\ys[i]? = some y/\d=.tup [x,y]
 | [],ys,i,d,h=>by simp [z1f] at h | x::xs,[],i,d,h=>by simp [z1f] at h | x::xs,y::ys,0,d,h=>by simp [z1f] at h;exact ⟨x,y,by simp,by simp,h.symm⟩ | x::xs,y::ys,i+1,d,h=>by
  simp only [z1f,List.getElem?_cons_succ] at h;obtain ⟨a,b,h1,h2,h3⟩:=zd7 h;exact ⟨a,b,by simpa using h1,by simpa using h2,h3⟩
def z46(s:Sto):D->Option (List D×List (Nat×List D))
 | .tup xs=>some (xs,[]) | .lst xs=>some (xs,[]) | .loc l=>(s[l]?).map fun xs=>(xs,[(l,xs)]) | _=>none
theorem z8q{mg:Gm}{H:Hp}{Y:List Addr}{s:Sto}{d:D}{xs:List D}{g:List (Nat×List D)}{v:V}(r:Rep mg H Y s)(h:z46 s d=some (xs,g))(dn:Den mg H Y d v):okG g [] s/\∃ (b:Bool)(a:Addr),v=.ref a/\ ∀ H2 Y2 s2,vf mg H Y H2 Y2 s2->okG g [] s2->∃ ws,Sq b mg.K H2 a ws/\zF mg H2 Y2 xs ws:=by cases d with
 | tup ys=>
  cases h;obtain ⟨a,vs,rfl,q1,q2⟩:=jB (K:=mg.K) dn;refine ⟨(by intro p hp;simp at hp),false,a,rfl,fun H2 Y2 s2 stp _=>?_⟩;obtain ⟨a',ws,e,q3,q4⟩:=jB (K:=mg.K) (dn.mono stp);cases e;exact ⟨ws,q3,q4⟩ | lst ys=>
  cases h;obtain ⟨a,vs,rfl,q1,q2⟩:=yg (d:=.lst xs) r rfl dn;refine ⟨(by intro p hp;simp at hp),true,a,rfl,fun H2 Y2 s2 stp _=>?_⟩;obtain ⟨a',ws,e,q3,q4⟩:=yg (d:=.lst xs) stp.rep rfl (dn.mono stp);cases e;exact ⟨ws,.inl q3,q4⟩ | loc l=>
  simp only [z46,Option.map_eq_some_iff] at h;obtain ⟨ys,ey,e2⟩:=h;cases e2;obtain ⟨a,vs,rfl,q1,q2⟩:=yg (d:=.loc l) r ey dn;have og:okG [(l,xs)] [] s:=fun p hp=>by
   have:p=(l,xs):=by simpa using hp
   subst this;exact ey
  refine ⟨og,true,a,rfl,fun H2 Y2 s2 stp hg=>?_⟩;obtain ⟨a',ws,e,q3,q4⟩:=yg (d:=.loc l) stp.rep (hg (l,xs) (by simp)) (dn.mono stp);cases e;exact ⟨ws,.inl q3,q4⟩ | _=>cases h
def z86(f:FA):FI:=fun Z s=>(f Z s).bind fun ds s1=>match ds with
 | [x,y]=>match z46 s1 x,z46 s1 y with
  | some p,some q=>.ok (z1f p.1 q.1,p.2++q.2) s1 | _,_=>.no
 | _=>.no
theorem zbW{p tp:Pos}{elts:List Expr}{kt:Nat}{f:FA}(hg:Gl X "zip")(hm:X.mg "zip"=none)(ha:RA X E [a,b] f)(hs:starEach [a,b] X.env=(false,eval a X.env)::starEach [b] X.env:=by rfl)(hpl:(backTo pos (starEach [b] X.env)).any (·.1)=false:=by rfl): RI X E (.Tuple elts kt tp) (.Call (.Name "zip" p) [a,b] [] pos) (z86 f):= z9x (zi4 hg hm ha hs hpl) fun O H Q ⟨Y,Z,s,r,en,h⟩=>by
  unfold z86 at h;refine ⟨Y,Z,s,r,en,(okR.bind (Dn:=zF (gm X)) h).imp fun vs H1 ⟨Y1,s1,ds,stp,dn,h1⟩=>?_⟩;split at h1
  ·rename_i x y;split at h1
   ·rename_i p q ex ey;obtain ⟨xs,gx⟩:=p;obtain ⟨ys,gy⟩:=q;obtain ⟨v,v',rfl,d1,d2⟩:=zar dn;obtain ⟨og1,b1,a1,rfl,k1⟩:=z8q stp.rep ex d1;obtain ⟨og2,b2,a2,rfl,k2⟩:=z8q stp.rep ey d2;obtain ⟨w1,q1,_⟩:=k1 H1 Y1 s1 (.refl stp.rep) og1;obtain ⟨w2,q2,_⟩:=k2 H1 Y1 s1 (.refl stp.rep) og2;refine ⟨a1,a2,b1,b2,rfl,⟨w1,q1⟩,⟨w2,q2⟩,h1.here stp.rep fun H2 Y2 s2 stp2 og i=>?_⟩;have h3:okG gx [] s2:=fun p hp=>og p (List.mem_append_left _ hp);have h4:okG gy [] s2:=fun p hp=>og p (List.mem_append_right _ hp);refine ⟨fun d hd=>?_,fun hl=>?_⟩
    ·obtain ⟨x,y,e1,e2,rfl⟩:=zd7 hd;obtain ⟨w1,q1,n1⟩:=k1 H2 Y2 s2 stp2 h3;obtain ⟨w2,q2,n2⟩:=k2 H2 Y2 s2 stp2 h4;obtain ⟨u1,g1,m1⟩:=n1.get e1;obtain ⟨u2,g2,m2⟩:=n2.get e2;refine ⟨⟨w1,w2,u1,u2,q1,q2,g1,g2⟩,fun z H' ⟨T,p,q,hT,ez,eH,hp,hq⟩=>?_⟩;subst ez eH;have e3:=hp w1 q1;have e4:=hq w2 q2;rw [g1] at e3;rw [g2] at e4;cases e3;cases e4;have st3:=vf.lay (o:=.tup [u1,u2]) stp2.rep hT (by intro _ z;cases z);refine ⟨Y2,st3,?_⟩;simp only [Den];exact ⟨T,[u1,u2],rfl,yV,(zF.cons m1 (zF.one m2)).mono st3⟩
    ·obtain ⟨w1,q1,n1⟩:=k1 H2 Y2 s2 stp2 h3;obtain ⟨w2,q2,n2⟩:=k2 H2 Y2 s2 stp2 h4;refine ⟨w1,w2,q1,q2,?_⟩;rw [n1.length,n2.length];simp only [z3c] at hl;omega
   ·exact h1.elim
  ·exact h1.elim
end
def xh(mp:List (Option Nat))(Z:Ev):Ev:=mp.map fun o=>match o with | some j=>(Z[j]?).getD none | none=>none
theorem qm.inner{mg:Gm}{H:Hp}{Y:List Addr}{Z:Ev}{O:L2.St}{mp:List (Option Nat)}(en:qm mg H Y Z O):qm mg H Y (xh mp Z) (inner mp O):=by
 refine ⟨by simp [xh,L2.inner],fun i d h=>?_⟩;simp only [xh,List.getElem?_map,Option.map_eq_some_iff] at h;obtain ⟨o,h1,h2⟩:=h;cases o with
 | none=>cases h2 | some j=>
  simp only at h2;have h3:Z[j]? = some (some d):=by cases e:Z[j]? with
   | none=>rw [e] at h2;cases h2 | some x=>rw [e] at h2;simp at h2;rw [h2]
  obtain ⟨v,h4,h5⟩:=en.at_ j d h3;exact ⟨v,by simp [L2.inner,h1,h4],h5⟩
open Classical in
def wR(g:List (Nat×List D))(all:List D)(body:D->Sto->R (Option D)):List D->List D->Sto->R (List D)
 | [],acc,s=>if okG g all s then .ok acc s else .no | x::xs,acc,s=>if okG g all s then (body x s).bind fun o s1=>match o with
   | some d=>if acc.length<cap then wR g all body xs (acc++[d]) s1 else .no | none=>wR g all body xs acc s1 else .no
def z8t(fi:FI)(mp:List (Option Nat))(fg:FG)(ft:FT)(fe:FE):FA:=fun Z s=>(fi Z s).bind fun it s1=>wR it.2 it.1 (fun d s=>(fg d (xh mp Z) s).bind fun Z' s'=>(ft Z' s').bind fun b s2=>if b=true then (fe Z' s2).bind fun d s3=>.ok (some d) s3 else .ok none s2) it.1 [] s1
def z4b(mg:Gm)(E:XK)(mp:List (Option Nat))(g:TG)(fg:FG):Prop:=∀ (O:L2.St) H Y Z s x d (Q:L2.St->Hp->Prop),Rep mg H Y s->qm mg H Y (xh mp Z) (inner mp O)->Den mg H Y d x->okR mg E H Y (qm mg) (fg d (xh mp Z) s) Q-> g x (inner mp O) H (fun O2 H2=>(O2.length=(inner mp O).length/\∀ (i:Nat) v,(inner mp O)[i]? = some (some v)->O2[i]? = some (some v))/\Q O2 H2)
theorem z3W{mp:List (Option Nat)}{i:Nat}(h:mp[i]? = some none)(O:L2.St):(inner mp O)[i]? = some none:=by simp [L2.inner,h]
theorem z5W{O:L2.St}{i:Nat}{v:V}(h:O[i]? = some none):(O.set i (some v)).length=O.length/\∀ (j:Nat) u,O[j]? = some (some u)->(O.set i (some v))[j]? = some (some u):=by
 refine ⟨by simp,fun j u e=>?_⟩;have:i≠j:=fun z=>by subst z;rw [h] at e;cases e
 rw [List.getElem?_set_ne this];exact e
section
variable {X:Cx}{E:XK}{e a b c tg iter elt:Expr}{es:List Expr}{pos:Pos}{CX:CXT}{mp:List (Option Nat)}
theorem zP(i:Nat)(h:mp[i]? = some none):z4b (gm X) E mp (zak i) (yE i):=fun O H Y Z s x d Q r en dn ok=>by
 refine ⟨z5W (z3W h O),?_⟩;exact okR.here (b:=(inner mp O).set i (some x)) ok r (en.set dn i)
theorem z2H{fi:FI}{g:TG}{fg:FG}{ft:FT}{fe:FE}{O:L2.St}{H:Hp}{Q:VK}{Y:List Addr}{Z:Ev}{s:Sto}{β:Type}{kR:List D->Sto->R β}{β2:Type}{Dn:Hp->List Addr->β->β2->Prop}{Q2:β2->Hp->Prop}(hg:z4b (gm X) E mp g fg)(r:Rep (gm X) H Y s)(en:qm (gm X) H Y Z O) (h:okR (gm X) E H Y Dn ((z8t fi mp fg ft fe Z s).bind kR) Q2) (fin:∀ H1 Y1 s1 xs vs,Rep (gm X) H1 Y1 s1->qm (gm X) H1 Y1 Z O->zF (gm X) H1 Y1 xs vs->okR (gm X) E H1 Y1 Dn (kR xs s1) Q2->xs.length<=cap->∀ p,H1 p=none->Q (.ref p) (upd H1 p (.lst vs))): zdX (tI (gm X) E fi) mp g (tT (gm X) E ft) (tE (gm X) E fe) O H Q:=by
 unfold z8t at h;have assoc:∀ {α γ δ:Type}(x:R α)(f:α->Sto->R γ)(k:γ->Sto->R δ),(x.bind f).bind k=x.bind fun a s=>(f a s).bind k:=fun x f k=>by cases x<;>rfl
 rw [assoc] at h;refine ⟨Y,Z,s,r,en,(okR.bind (Dn:=zgc (gm X)) h).imp fun J H1 ⟨Y1,s1,it,stp,ok,h1⟩=>?_⟩;obtain ⟨items,gd⟩:=it;simp only at h1;refine ⟨fun i m ys H=>∃ Y s acc,vf (gm X) H1 Y1 H Y s/\zF (gm X) H Y acc ys/\acc.length<=cap/\m=items.length-i/\i<=items.length/\ okR (gm X) E H Y Dn ((wR gd items (fun d s=>(fg d (xh mp Z) s).bind fun Z' s'=>(ft Z' s').bind fun b s2=>if b=true then (fe Z' s2).bind fun d s3=>.ok (some d) s3 else .ok none s2) (items.drop i) acc s).bind kR) Q2, ⟨items.length,Y1,s1,[],.refl stp.rep,zF.nil,Nat.zero_le _,by simp,Nat.zero_le _,by simpa using h1⟩,?_⟩;rintro i m ys H2 ⟨Y2,s2,acc,stp2,dn2,hcap,rfl,hil,h2⟩;have en2:qm (gm X) H2 Y2 Z O:=(en.mono stp).mono stp2;by_cases hlt:i<items.length
 ·right;rw [List.drop_eq_getElem_cons hlt,wR] at h2;split at h2
  ·rename_i hG;obtain ⟨go,yl⟩:=((ok H2 Y2 s2 stp2 hG i).1 items[i] (List.getElem?_eq_getElem hlt));refine ⟨go,fun x H' y=>?_⟩;obtain ⟨Y3,stp3,dn3⟩:=yl x H' y;have h3:=okR.rebase h2 stp3;rw [assoc,assoc] at h3;have h4:=okR.bind (Dn:=qm (gm X)) h3;refine hg O H' Y3 Z s2 x items[i] _ stp3.rep ((en2.mono stp3).inner) dn3 (h4.imp fun O4 H4 ⟨Y4,s4,Z4,stp4,en4,h5⟩=>?_);rw [assoc] at h5;refine ⟨Y4,Z4,s4,stp4.rep,en4,(okR.bind (Dn:=bD) h5).imp fun bb H5 ⟨Y5,s5,b',stp5,eb,h6⟩=>?_⟩;cases (show b'=bb from eb);have all5:vf (gm X) H1 Y1 H5 Y5 s5:=((stp2.trans stp3).trans stp4).trans stp5;cases bb with
   | true=>
    rw [if_pos rfl] at h6 ⊢;rw [assoc] at h6;refine ⟨Y5,Z4,s5,stp5.rep,en4.mono stp5,(okR.bind (Dn:=Den (gm X)) h6).imp fun y H6 ⟨Y6,s6,d6,stp6,dn6,h7⟩=>?_⟩;simp only [R.bind_ok] at h7;split at h7
    ·rename_i hc;have all6:=all5.trans stp6;have dny:zF (gm X) H6 Y6 acc ys:=(((dn2.mono stp3).mono stp4).mono stp5).mono stp6;refine ⟨by rw [dn2.length];exact jz hcap,items.length-(i+1),by omega,Y6,s6,acc++[d6],all6,dny.append (zF.one dn6),by simp;omega,rfl,hlt,h7⟩
    ·exact h7.elim | false=>
    rw [if_neg (by decide)] at h6 ⊢;simp only [R.bind_ok] at h6;exact ⟨items.length-(i+1),by omega,Y5,s5,acc,all5,((dn2.mono stp3).mono stp4).mono stp5,hcap,rfl,hlt,h6⟩
  ·exact h2.elim
 ·left;have e:i=items.length:=by omega
  subst e;rw [List.drop_length,wR] at h2;split at h2
  ·rename_i hG;simp only [R.bind_ok] at h2;exact ⟨(ok H2 Y2 s2 stp2 hG _).2 (Nat.le_refl _),by rw [dn2.length];exact jz hcap,fin H2 Y2 s2 acc ys stp2.rep en2 dn2 h2 hcap⟩
  ·exact h2.elim
def zA(fi:FI)(mp:List (Option Nat))(fg:FG)(ft:FT)(fe:FE):FE:=fun Z s=>(z8t fi mp fg ft fe Z s).bind fun xs s1=>.ok (.lst xs) s1
def z1O(fi:FI)(mp:List (Option Nat))(fg:FG)(ft:FT)(fe:FE):FE:=fun Z s=>(z8t fi mp fg ft fe Z s).bind fun xs s1=>if D.flat.flats xs=true then .ok (.loc s1.length) (s1++[xs]) else .no
def zX:FT:=fun _ s=>.ok true s
theorem yw{Yy:Cx}:z8G Yy [] (tT (gm Yy) E zX):=fun pins s O H Q I ⟨Y,Z,st,r,en,h⟩=>zdC pins s O H Q I (h.here (b:=true) r rfl)
theorem uX{Yy:Cx}{f:FT}(h:RT Yy E c f):z8G Yy [c] (tT (gm Yy) E f):=zeF h
section
variable {scope:Scope}{ifs:List Expr}{fi:FI}{fg:FG}{ft:FT}{fe:FE}{g:TG}{spos py:Pos}
theorem zij(N':List Str)(mp:List (Option Nat))(hc:X.calm=true)(hi:RI X E tg iter fi)(hg:∀ ex s H,PG (zT X N' scope ex s H) tg g)(hgt:z4b (gm X) E mp g fg)(ht:∀ ex s H,z8G (zT X N' scope ex s H) ifs (tT (gm X) E ft))(he:∀ ex s H,RE (zT X N' scope ex s H) E elt fe) (hkd:scope.kind=.function)(hnm:∀ y∈scope.names,scope.names.lookup y.1=some y.2) (hfr:∀ y∈scope.names,y.2=.free->X.env.kindOf y.1=some .cell\/X.env.kindOf y.1=some .free)(hmp:z47 X.N scope.names N' mp=true) (hs:∀ x,foldedSetIterable iter X.env x=pure x:=by intro _;rfl):RE X E (.ListComp elt [⟨tg,iter,ifs,0⟩] scope pos) (zA fi mp fg ft fe):= zW (zci (te:=tE (gm X) E fe) N' mp hc hi hg ht (fun ex s H=>he ex s H) hkd hnm hfr hmp hs).freeze fun O H Q ⟨Y,Z,s,r,en,h⟩=> z2H hgt r en h fun H1 Y1 s1 xs vs r1 en1 dn h1 hcap=>kZ r1 h1 dn
theorem zb0 {i:Nat} {y:Str} (N':List Str) (mp:List (Option Nat)) (hN:X.N.Nodup) (hc:X.calm=true) (hi:RI X E tg iter fi) (hg:∀ ex s H,PG (zT X N' scope ex s H) tg g) (hgt:z4b (gm X) E mp g fg) (ht:∀ ex s H,z8G (zT X N' scope ex s H) ifs (tT (gm X) E ft)) (he:∀ ex s H,RE (zT X N' scope ex s H) E elt fe) (hkd:scope.kind=.function) (hnm:∀ y∈scope.names,scope.names.lookup y.1=some y.2) (hfr:∀ y∈scope.names,y.2=.free->X.env.kindOf y.1=some .cell\/X.env.kindOf y.1=some .free) (hmp:z47 X.N scope.names N' mp=true) (hy:X.N[i]? = some y:=by rfl) (hyl:Loc X.env.scope y:=by first | exact Or.inl rfl | exact Or.inr rfl) (hs:∀ x,foldedSetIterable iter X.env x=pure x:=by intro _;rfl) (hsw:swapsWith (.ListComp elt [⟨tg,iter,ifs,0⟩] scope pos) (some (.Name y py)) spos.line X.env=pure true:=by rfl) (hf:X.fn y=true\/X.env.scope.names.lookup y=some .local:=by first | exact .inl rfl | exact .inr rfl | assumption): RS X E (.Assign [.Name y py] (.ListComp elt [⟨tg,iter,ifs,0⟩] scope pos) spos) (xx i (zA fi mp fg ft fe)):= kG (z8J (te:=tE (gm X) E fe) N' mp hN hy hyl hc hi hg ht (fun ex s H=>he ex s H) hkd hnm hfr hmp hs hsw hf) fun D O H ⟨Y,Z,s,r,en,h⟩=>by
  have assoc:∀ {α γ δ:Type} (x:R α) (f:α->Sto->R γ) (k:γ->Sto->R δ),(x.bind f).bind k=x.bind fun a s=>(f a s).bind k:=fun x f k=>by cases x<;>rfl
  unfold xx zA at h;rw [assoc] at h;refine z2H hgt r en h fun H1 Y1 s1 xs vs r1 en1 dn h1 hcap p hp=>?_;refine kZ (E:=E) (mg:=gm X) (xs:=xs) r1 (fun v H2 Y2 stp dn2=>?_) dn p hp;exact h1 (.nx (O.set i (some v))) H2 Y2 stp ((en1.mono stp).set dn2 i)
theorem zaw{i:Nat}{y:Str}(N':List Str)(mp:List (Option Nat))(hN:X.N.Nodup)(hc:X.calm=true)(hi:RI X E tg iter fi)(hg:∀ ex s H,PG (zT X N' scope ex s H) tg g)(hgt:z4b (gm X) E mp g fg)(ht:∀ ex s H,z8G (zT X N' scope ex s H) ifs (tT (gm X) E ft))(he:∀ ex s H,RE (zT X N' scope ex s H) E elt fe) (hkd:scope.kind=.function)(hnm:∀ y∈scope.names,scope.names.lookup y.1=some y.2) (hfr:∀ y∈scope.names,y.2=.free->X.env.kindOf y.1=some .cell\/X.env.kindOf y.1=some .free)(hmp:z47 X.N scope.names N' mp=true)(hy:X.N[i]? = some y:=by rfl)(hyl:Loc X.env.scope y:=by first | exact Or.inl rfl | exact Or.inr rfl) (hs:∀ x,foldedSetIterable iter X.env x=pure x:=by intro _;rfl) (hsw:swapsWith (.ListComp elt [⟨tg,iter,ifs,0⟩] scope pos) (some (.Name y py)) spos.line X.env=pure true:=by rfl) (hf:X.fn y=true\/X.env.scope.names.lookup y=some .local:=by first | exact .inl rfl | exact .inr rfl | assumption): RS X E (.Assign [.Name y py] (.ListComp elt [⟨tg,iter,ifs,0⟩] scope pos) spos) (xx i (z1O fi mp fg ft fe)):= kG (zas (te:=tE (gm X) E fe) N' mp hN hy hyl hc hi hg ht (fun ex s H=>he ex s H) hkd hnm hfr hmp hs hsw hf) fun D O H ⟨Y,Z,s,r,en,h⟩=>by
  have assoc:∀ {α γ δ:Type}(x:R α)(f:α->Sto->R γ)(k:γ->Sto->R δ),(x.bind f).bind k=x.bind fun a s=>(f a s).bind k:=fun x f k=>by cases x<;>rfl
  unfold xx z1O at h;rw [assoc] at h;refine z2H hgt r en h fun H1 Y1 s1 xs vs r1 en1 dn h1 hcap p hp=>?_;split at h1
  ·rename_i hf;have stp:=vf.layL (p:=p) r1 hp dn hf;refine h1 (.nx (O.set i (some (.ref p)))) _ _ stp ((en1.mono stp).set ?_ i);simp only [Den];exact ⟨p,rfl,by rw [<- r1.len];simp⟩
  ·exact h1.elim
end
end
section
variable {X:Cx}{E:XK}{e a b c tg iter elt:Expr}{es:List Expr}{pos:Pos}{CX:CXT}{mp:List (Option Nat)}
def zeN(K:W.Frag)(i j:Nat):TG:=zm5 K 2 (zgm (zak i) (zgm (zak j) zm4))
theorem uC(i j:Nat){x y:Str}{px py:Pos}{kt:Nat}(hc:X.calm=true)(hN:X.N.Nodup)(hi:X.N[i]? = some x:=by rfl)(hj:X.N[j]? = some y:=by rfl)(hx:Loc X.env.scope x:=by first | exact Or.inl rfl | exact Or.inr rfl)(hy:Loc X.env.scope y:=by first | exact Or.inl rfl | exact Or.inr rfl) (hf:X.fn x=true\/X.env.scope.names.lookup x=some .local:=by first | exact .inl rfl | exact .inr rfl | assumption)(hf':X.fn y=true\/X.env.scope.names.lookup y=some .local:=by first | exact .inl rfl | exact .inr rfl | assumption): PG X (.Tuple [.Name x px,.Name y py] kt pos) (zeN X.K i j):=zeS hc (z2M (zU hN hi hx hf) (z2M (zU hN hj hy hf') zcZ))
theorem uM(i j:Nat)(hij:i≠j)(h:mp[i]? = some none)(h':mp[j]? = some none):z4b (gm X) E mp (zeN X.K i j) (wf i j):=fun O H Y Z s x d Q r en dn ok=>by
 unfold wf at ok;split at ok
 ·rename_i d1 d2;obtain ⟨p,vs,rfl,q1,q2⟩:=jB (K:=X.K) dn;obtain ⟨v1,v2,rfl,e1,e2⟩:=zar q2;have k1:=z5W (v:=v1) (z3W h O);have own2:((inner mp O).set i (some v1))[j]? = some none:=by rw [List.getElem?_set_ne hij];exact z3W h' O
  have k2:=z5W (v:=v2) own2;exact ⟨p,[v1,v2],rfl,q1,rfl,v1,[v2],rfl,v2,[],rfl,rfl,⟨k2.1.trans k1.1,fun l u e=>k2.2 l u (k1.2 l u e)⟩,okR.here ok r ((en.set e1 i).set e2 j)⟩
 ·exact ok.elim
end
def zr(N:List Str)(ds:List D):Ev:=ds.map some++List.replicate (N.length-ds.length) none
theorem kL{mg:Gm}{H:Hp}{Y:List Addr}{N:List Str}:∀ {ds:List D}{vs:List V},zF mg H Y ds vs->qm mg H Y (zr N ds) (L2.start N vs):=fun {ds vs} h=>by
 have hl:=h.length;refine ⟨by simp [zr,L2.start,hl],fun i d e=>?_⟩;unfold zr at e;have hi:i<ds.length:=by
  by_cases hi:i<ds.length;·exact hi
  ·rw [List.getElem?_append_right (by simpa using hi),List.getElem?_replicate] at e;split at e<;>cases e
 rw [List.getElem?_append_left (by simpa using hi),List.getElem?_map] at e;have e':ds[i]? = some d:=by cases q:ds[i]? with
  | none=>rw [q] at e;cases e | some x=>rw [q] at e;simp at e;rw [e]
 obtain ⟨v,h1,h2⟩:=h.get e';refine ⟨v,?_,h2⟩;unfold L2.start;rw [List.getElem?_append_left (by simpa [hl] using hi),List.getElem?_map,h1];rfl
def Mof(N:List Str)(n:Nat)(fs:FS):Mir:=fun ds s=>if ds.length=n then (match fs (zr N ds) s with
 | .ok (.rt d) s'=>.ok d s' | .ok (.nx _) s'=>.ok .non s' | _=>.no) else .no
section
variable {P:Program}{w:World}{K:W.Frag}{mg:Str->Option Value}{base:Heap}
theorem Has.mono{CX:CXT}{x:Str}{n m:Nat}{M:Mir}(h:Has P w K mg base CX x n M)(hl:n<=m):Has P w K mg base CX x m M:=by
 obtain ⟨f,fd,ps,F,r⟩:=h;exact ⟨f,fd,ps,F.mono hl,r⟩
theorem zR{x qual:Str}{st:Stmt}{f:Addr}{fd:FuncData}{N ps:List Str}{k n:Nat}{fs:FS}(F:Fun K x qual st f fd)(hm:mg x=some (.ref f))(hb:Binds K fd ps [])(S:zv N ps (zg st))(hn:ps.length=n) (body:∀ (cdv:Value)(A:Around)(outer:List Env)(s:Shared)(H:Hp)(E:XK),z14 k (A.deeper (envOfC qual (zg st) s.heap.objs.size f cdv))->(z3l CX0 P w K mg base N qual (zg st) f cdv A outer s H E).nox.calm=true-> RSs (z3l CX0 P w K mg base N qual (zg st) f cdv A outer s H E).nox E0 (vG st) fs):Has P w K mg base CX0 x (k+1) (Mof N n fs):=by
 subst hn;refine ⟨f,fd,ps,F.ok S (fun vs H Q E h=>?_) (fun cdv A outer s H vs Q E hr h=>?_),hb,F.kp,hm⟩
 ·obtain ⟨Y,s,ds,_,dn,h⟩:=h;unfold Mof at h;split at h;·rename_i e;rw [dn.length];exact e
  ·exact h.elim
 ·obtain ⟨Y,st0,ds,r,dn,h⟩:=h;refine ⟨_,body cdv A outer s H E hr (by show A.handled.isNone=true;rw [show A.handled=none from hr.hd];rfl),Y,zr N ds,st0,r,kL dn,?_⟩;unfold Mof at h;split at h
  ·split at h
   ·rename_i d s' e;rw [e];intro fv H' Y' stp fd;cases fv with
    | rt v=>exact h v H' Y' stp fd | _=>exact (show False from fd).elim
   ·rename_i Z s' e;rw [e];intro fv H' Y' stp fd;cases fv with
    | nx v=>exact h .non H' Y' stp (by simp [Den]) | _=>exact (show False from fd).elim
   ·exact h.elim
  ·exact h.elim
theorem zit{x qual:Str}{st:Stmt}{f:Addr}{fd:FuncData}{ps:List Str}(F:Fun K x qual st f fd)(hm:mg x=some (.ref f))(hb:Binds K fd ps []):Has P w K mg base CX0 x 0 (fun _ _=>.no):= ⟨f,fd,ps,⟨fun vs H Q E h=>by obtain ⟨_,_,_,_,_,h⟩:=h;exact h.elim,fun A outer s H args us vs Q E _ _ _ _ h=>by obtain ⟨_,_,_,_,_,h⟩:=h;exact h.elim⟩,hb,F.kp,hm⟩
end
def zht(K:W.Frag):Sp:=fun vs H Q _=>∃ (a:Addr)(ns:List Int),vs=[.ref a]/\zjJ H/\SqL K H a (ns.map V.int)/\ns.length<=63/\∀ H',Q (.bl true) H'
theorem z1x{mg:Gm}{H:Hp}{Y:List Addr}:∀ (ns:List Int),zF mg H Y (ns.map D.int) (ns.map V.int)
 | []=>zF.nil | n::ns=>zF.cons yT (z1x ns)
theorem ziT{P:Program}{w:World}{K:W.Frag}{mg:Str->Option Value}{base:Heap}{x:Str}{n:Nat}{M:Mir}{f:Addr}{fd:FuncData}{ps:List Str}(F:z4U P w K mg base CX0 n f fd ps (zeK ⟨mg,K⟩ M)) (h:∀ ns:List Int,ns.length<=63->∃ s',M [.scr (ns.map D.int)] []=.ok (.bl true) s'):z4U P w K mg base CX0 n f fd ps (zht K):= F.imp fun vs H Q E ⟨a,ns,e,ho,hq,hl,q⟩=>by
  subst e;obtain ⟨s',hs⟩:=h ns hl;refine ⟨[],[],[.scr (ns.map D.int)],⟨rfl,List.nodup_nil,fun l xs z=>by simp at z,fun xs z=>by simp at z⟩,zF.one ?_,?_⟩
  ·simp only [Den];refine ⟨a,ns.map V.int,rfl,?_,z1x ns⟩;rcases hq with (z | z) | z
   ·rcases ho a with y | ⟨o,xs,y⟩;·rw [y] at z;cases z
    ·rw [y] at z;cases z
   ·exact .inl z
   ·exact .inr z
  ·rw [hs];intro v H' Y' stp dn;cases jC dn;exact q H'
section
variable {X:Cx}{E:XK}{e a b c tg iter elt:Expr}{es:List Expr}{pos:Pos}{CX:CXT}
def z5X(f:FE):FE:=fun Z s=>(f Z s).bind fun d s1=>match d with | .int i=>.ok (.int (-i)) s1 | _=>.no
theorem z7c{f:FE}(h:RE X E a f):RE X E (.UnaryOp .USub a pos) (z5X f):= zW (zhO zeZ h) fun O H Q ⟨Y,Z,s,r,en,h⟩=>by
  refine yz (k:=fun Z d s1=>match d with | .int i=>R.ok (D.int (-i)) s1 | _=>.no) r en h _ fun v H1 Y1 s1 d r1 en1 dn stp h1=>?_;cases d with
  | int i=>
   cases yG dn;exact ⟨i,rfl,okR.here (b:=V.int (-i)) h1 r1 yT⟩ | _=>exact h1.elim
def zcR(i:Int)(n:Nat):List D:=(List.range n).map fun (k:Nat)=>D.int (i+((k:Nat):Int))
def zlB(f:FA):FI:=fun Z s=>(f Z s).bind fun ds s1=>match ds with
 | [.int i,.int j]=>if -(2 ^ 62)<=i/\i<2 ^ 62/\-(2 ^ 62)<=j/\j<2 ^ 62 then .ok (zcR i (j-i).toNat,[]) s1 else .no | _=>.no
end
def isK(o:Option NameKind)(k:NameKind):Bool:=match o,k with
 | some .local,.local=>true | some .cell,.cell=>true | some .free,.free=>true | some .globalImplicit,.globalImplicit=>true | _,_=>false
theorem zbK{o:Option NameKind}{k:NameKind}(h:isK o k=true):o=some k:=by cases o with
 | none=>cases k<;>simp [isK] at h | some j=>cases j<;>cases k<;>first | rfl | simp [isK] at h
def isF(k:NameKind):Bool:=match k with | .free=>true | _=>false
theorem zj2{k:NameKind}(h:k=.free):isF k=true:=by subst h;rfl
def zbq(ko:Str->Option NameKind)(names:List (Str×NameKind)):Bool:=names.all fun y=>!isF y.2||(isK (ko y.1) .cell||isK (ko y.1) .free)
theorem z2P{ko:Str->Option NameKind}{names:List (Str×NameKind)}(h:zbq ko names=true):∀ y∈names,y.2=.free->ko y.1=some .cell\/ko y.1=some .free:=fun y hy hf=>by
 have:=List.all_eq_true.mp h y hy;rw [zj2 hf] at this;simp only [Bool.not_true,Bool.false_or,Bool.or_eq_true] at this;exact this.imp zbK zbK
def zcQ(names:List (Str×NameKind)):Bool:=names.all fun y=>isK (names.lookup y.1) y.2
theorem z2O{names:List (Str×NameKind)}(h:zcQ names=true):∀ y∈names,names.lookup y.1=some y.2:=fun y hy=>by
 have:=List.all_eq_true.mp h y hy;exact zbK this
section
variable {X:Cx}{E:XK}{e a b c tg iter elt:Expr}{es:List Expr}{pos:Pos}{CX:CXT}
variable {scope:Scope}{ifs:List Expr}{fi:FI}{fg:FG}{ft:FT}{fe:FE}{g:TG}{spos py:Pos}
theorem zlS{x:Str}{i:Int}(hg:Gl X x)(hm:∃ t,X.mg x=some (.int i t))(hd:(x==("__debug__":Str))=false:=by decide):RE X E (.Name x pos) (eC (.int i)):=let ⟨_,h⟩:=hm;zi2 hg h hd
theorem zZ(N':List Str)(mp:List (Option Nat))(hc:X.calm=true)(hi:RI X E tg iter fi)(hg:∀ ex s H,PG (zT X N' scope ex s H) tg g)(hgt:z4b (gm X) E mp g fg)(ht:∀ ex s H,z8G (zT X N' scope ex s H) ifs (tT (gm X) E ft))(he:∀ ex s H,RE (zT X N' scope ex s H) E elt fe) (hkd:scope.kind=.function:=by rfl)(hnm:zcQ scope.names=true:=by rfl)(hfr:zbq X.env.kindOf scope.names=true:=by rfl)(hmp:z47 X.N scope.names N' mp=true:=by rfl) (hs:∀ x,foldedSetIterable iter X.env x=pure x:=by intro _;rfl):RE X E (.ListComp elt [⟨tg,iter,ifs,0⟩] scope pos) (zA fi mp fg ft fe):= zij N' mp hc hi hg hgt ht he hkd (z2O hnm) (z2P hfr) hmp hs
theorem z8g(i:Nat){y:Str}(N':List Str)(mp:List (Option Nat))(hN:X.N.Nodup)(hc:X.calm=true)(hi:RI X E tg iter fi)(hg:∀ ex s H,PG (zT X N' scope ex s H) tg g)(hgt:z4b (gm X) E mp g fg)(ht:∀ ex s H,z8G (zT X N' scope ex s H) ifs (tT (gm X) E ft))(he:∀ ex s H,RE (zT X N' scope ex s H) E elt fe) (hkd:scope.kind=.function:=by rfl)(hnm:zcQ scope.names=true:=by rfl)(hfr:zbq X.env.kindOf scope.names=true:=by rfl)(hmp:z47 X.N scope.names N' mp=true:=by rfl)(hy:X.N[i]? = some y:=by rfl)(hyl:Loc X.env.scope y:=by first | exact Or.inl rfl | exact Or.inr rfl) (hs:∀ x,foldedSetIterable iter X.env x=pure x:=by intro _;rfl) (hsw:swapsWith (.ListComp elt [⟨tg,iter,ifs,0⟩] scope pos) (some (.Name y py)) spos.line X.env=pure true:=by rfl) (hf:X.fn y=true\/X.env.scope.names.lookup y=some .local:=by first | exact .inl rfl | exact .inr rfl | assumption): RS X E (.Assign [.Name y py] (.ListComp elt [⟨tg,iter,ifs,0⟩] scope pos) spos) (xx i (zA fi mp fg ft fe)):= zb0 N' mp hN hc hi hg hgt ht he hkd (z2O hnm) (z2P hfr) hmp hy hyl hs hsw hf
theorem zgn(i:Nat){y:Str}(N':List Str)(mp:List (Option Nat))(hN:X.N.Nodup)(hc:X.calm=true)(hi:RI X E tg iter fi)(hg:∀ ex s H,PG (zT X N' scope ex s H) tg g)(hgt:z4b (gm X) E mp g fg)(ht:∀ ex s H,z8G (zT X N' scope ex s H) ifs (tT (gm X) E ft))(he:∀ ex s H,RE (zT X N' scope ex s H) E elt fe) (hkd:scope.kind=.function:=by rfl)(hnm:zcQ scope.names=true:=by rfl)(hfr:zbq X.env.kindOf scope.names=true:=by rfl)(hmp:z47 X.N scope.names N' mp=true:=by rfl)(hy:X.N[i]? = some y:=by rfl)(hyl:Loc X.env.scope y:=by first | exact Or.inl rfl | exact Or.inr rfl) (hs:∀ x,foldedSetIterable iter X.env x=pure x:=by intro _;rfl) (hsw:swapsWith (.ListComp elt [⟨tg,iter,ifs,0⟩] scope pos) (some (.Name y py)) spos.line X.env=pure true:=by rfl) (hf:X.fn y=true\/X.env.scope.names.lookup y=some .local:=by first | exact .inl rfl | exact .inr rfl | assumption): RS X E (.Assign [.Name y py] (.ListComp elt [⟨tg,iter,ifs,0⟩] scope pos) spos) (xx i (z1O fi mp fg ft fe)):= zaw N' mp hN hc hi hg hgt ht he hkd (z2O hnm) (z2P hfr) hmp hy hyl hs hsw hf
end
theorem ziO{P:Program}{w:World}{K:W.Frag}{mg:Str->Option Value}{base:Heap}{x qual:Str}{st:Stmt}{f:Addr}{fd:FuncData}{N ps:List Str}{k n:Nat}{fs:FS}(F:Fun K x qual st f fd)(S:zv N ps (zg st))(hn:ps.length=n) (body:∀ (cdv:Value)(A:Around)(outer:List Env)(s:Shared)(H:Hp)(E:XK),z14 k (A.deeper (envOfC qual (zg st) s.heap.objs.size f cdv))->(z3l CX0 P w K mg base N qual (zg st) f cdv A outer s H E).nox.calm=true-> RSs (z3l CX0 P w K mg base N qual (zg st) f cdv A outer s H E).nox E0 (vG st) fs):z4U P w K mg base CX0 (k+1) f fd ps (zeK ⟨mg,K⟩ (Mof N n fs)):=by
 subst hn;refine F.ok S (fun vs H Q E h=>?_) (fun cdv A outer s H vs Q E hr h=>?_)
 ·obtain ⟨Y,s,ds,_,dn,h⟩:=h;unfold Mof at h;split at h;·rename_i e;rw [dn.length];exact e
  ·exact h.elim
 ·obtain ⟨Y,st0,ds,r,dn,h⟩:=h;refine ⟨_,body cdv A outer s H E hr (by show A.handled.isNone=true;rw [show A.handled=none from hr.hd];rfl),Y,zr N ds,st0,r,kL dn,?_⟩;unfold Mof at h;split at h
  ·split at h
   ·rename_i d s' e;rw [e];intro fv H' Y' stp fd;cases fv with
    | rt v=>exact h v H' Y' stp fd | _=>exact (show False from fd).elim
   ·rename_i Z s' e;rw [e];intro fv H' Y' stp fd;cases fv with
    | nx v=>exact h .non H' Y' stp (by simp [Den]) | _=>exact (show False from fd).elim
   ·exact h.elim
  ·exact h.elim
section
variable {all xs:List D}{Z:Ev}{s:Sto}
theorem z5o{body:D->Ev->Sto->R Fl}(I:Ev->Sto->Prop):∀ (xs:List D),(∀ x∈xs,∀ Z s,I Z s->∃ Z' s',body x Z s=.ok (.nx Z') s'/\I Z' s')->∀ Z s,I Z s->∃ Z' s',yZ [] all body xs Z s=.ok (.nx Z') s'/\I Z' s'
 | [],_,Z,s,h=>⟨Z,s,by simp [yZ,okG],h⟩ | x::xs,hb,Z,s,h=>by
  obtain ⟨Z1,s1,e1,h1⟩:=hb x (by simp) Z s h;obtain ⟨Z2,s2,e2,h2⟩:=z5o I xs (fun y hy=>hb y (by simp [hy])) Z1 s1 h1;exact ⟨Z2,s2,by simp [yZ,okG,e1,e2],h2⟩
theorem z7P{body:D->Sto->R (Option D)}(f:D->D):∀ (xs acc:List D),(∀ x∈xs,body x s=.ok (some (f x)) s)->acc.length+xs.length<=cap->wR [] all body xs acc s=.ok (acc++xs.map f) s
 | [],acc,_,_=>by simp [wR,okG] | x::xs,acc,hb,hl=>by
  have ih:=z7P f xs (acc++[f x]) (fun y hy=>hb y (by simp [hy])) (by simp at hl ⊢;omega);have hc:acc.length<cap:=by simp at hl;omega
  rw [wR];simp [okG,hb x (by simp),hc,ih]
end
section
variable (i j k n:Nat)(Z:Ev)(s:Sto)(f g fa fb fc:FE)(d x y:D)(ds:List D)(ar:FA)(op op':D->D->Sto->R D)(ft ft':FT)(fs fs':FS)(M:Mir)(T:String)(fl fh fo:FO)(fi:FI)(fg:FG)(mp:List (Option Nat))(N:List Str)
@[simp] theorem zO:zc i Z s=(match Z[i]? with | some (some d)=>.ok d s | _=>.no):=id rfl
@[simp] theorem z0v:eC d Z s=.ok d s:=id rfl
@[simp] theorem yn:eOp op fa fb Z s=(fa Z s).bind fun x s1=>(fb Z s1).bind fun y s2=>op x y s2:=id rfl
@[simp] theorem ye:ze M ar Z s=(ar Z s).bind fun xs s1=>M xs s1:=id rfl
@[simp] theorem zH:zh Z s=.ok [] s:=id rfl
@[simp] theorem zB:za f ar Z s=(f Z s).bind fun x s1=>(ar Z s1).bind fun xs s2=>.ok (x::xs) s2:=id rfl
@[simp] theorem z0G:uA ar Z s=(ar Z s).bind fun xs s1=>if xs.length<=cap then .ok (.tup xs) s1 else .no:=id rfl
@[simp] theorem jJ:qG ar Z s=(ar Z s).bind fun xs s1=>if xs.length<=cap then .ok (.lst xs) s1 else .no:=id rfl
@[simp] theorem z1J:zaf ar Z s=(ar Z s).bind fun xs s1=>if xs.length<=cap/\D.flat.flats xs=true then .ok (.loc s1.length) (s1++[xs]) else .no:=id rfl
@[simp] theorem zmL:eIs T f Z s=(f Z s).bind fun d s1=>gIs T d s1:=id rfl
@[simp] theorem zcy:z5X f Z s=(f Z s).bind fun d s1=>match d with | .int i=>.ok (.int (-i)) s1 | _=>.no:=id rfl
@[simp] theorem zlW:zjq f Z s=(f Z s).bind fun x s1=>match x with | .bl k=>.ok (.bl (!k)) s1 | _=>.no:=id rfl
@[simp] theorem z9j:z89 fa fb Z s=(fa Z s).bind fun x s1=>match x with | .bl true=>fb Z s1 | .bl false=>.ok (.bl false) s1 | _=>.no:=id rfl
@[simp] theorem zmh:eOr fa fb Z s=(fa Z s).bind fun x s1=>match x with | .bl false=>fb Z s1 | .bl true=>.ok (.bl true) s1 | _=>.no:=id rfl
@[simp] theorem ziE:eIf ft fa fb Z s=(ft Z s).bind fun x s1=>if x=true then fa Z s1 else fb Z s1:=id rfl
@[simp] theorem z5u:eSl f fl fh Z s=(f Z s).bind fun x s1=>(fl Z s1).bind fun lo s2=>(fh Z s2).bind fun hi s3=>dSl x lo hi s3:=id rfl
@[simp] theorem vB:yd Z s=.ok none s:=id rfl
@[simp] theorem jS:wF f Z s=(f Z s).bind fun d s1=>match d with | .int i=>.ok (some i) s1 | _=>.no:=id rfl
@[simp] theorem um:tOf f Z s=(f Z s).bind fun d s1=>match d with | .bl k=>.ok k s1 | _=>.no:=id rfl
@[simp] theorem zbV:zhF ft ft' Z s=(ft Z s).bind fun x s1=>if x=true then ft' Z s1 else .ok false s1:=id rfl
@[simp] theorem zmN:fOr ft ft' Z s=(ft Z s).bind fun x s1=>if x=true then .ok true s1 else ft' Z s1:=id rfl
@[simp] theorem z4Y:z40 ft Z s=(ft Z s).bind fun x s1=>.ok (!x) s1:=id rfl
@[simp] theorem zjR:zag op op' fa fb fc Z s=(fa Z s).bind fun x s1=>(fb Z s1).bind fun y s2=>(op x y s2).bind fun z s3=>match z with
 | .bl true=>(fc Z s3).bind fun w s4=>op' y w s4 | .bl false=>.ok (.bl false) s3 | _=>.no:=id rfl
@[simp] theorem zeU:zE fs fs' Z s=(fs Z s).bind fun fl s1=>match fl with | .nx Z'=>fs' Z' s1 | fl=>.ok fl s1:=id rfl
@[simp] theorem zkV:xp Z s=.ok (.nx Z) s:=id rfl
@[simp] theorem zmo:fNo Z s=.no:=id rfl
@[simp] theorem qK:wQ f Z s=(f Z s).bind fun _ s1=>.ok (.nx Z) s1:=id rfl
@[simp] theorem yo:xJ f Z s=(f Z s).bind fun d s1=>.ok (.rt d) s1:=id rfl
@[simp] theorem z2w:fIf ft fs fs' Z s=(ft Z s).bind fun x s1=>if x=true then fs Z s1 else fs' Z s1:=id rfl
@[simp] theorem zV:xx i f Z s=(f Z s).bind fun d s1=>.ok (.nx (Z.set i (some d))) s1:=id rfl
@[simp] theorem zda:zec f fg Z s=(f Z s).bind fun d s1=>(fg d Z s1).bind fun Z' s2=>.ok (.nx Z') s2:=id rfl
@[simp] theorem zlX:zmy i j ar Z s=(ar Z s).bind fun ds s1=>match ds with | [x,y]=>.ok (.nx ((Z.set i (some x)).set j (some y))) s1 | _=>.no:=id rfl
@[simp] theorem z0b:yE i d Z s=.ok (Z.set i (some d)) s:=id rfl
@[simp] theorem zbt:wf i j (.tup [x,y]) Z s=.ok ((Z.set i (some x)).set j (some y)) s:=id rfl
@[simp] theorem zga:z4t fa fb fc Z s=(fc Z s).bind fun d s1=>(fa Z s1).bind fun o s2=>(fb Z s2).bind fun i s3=>match o,i with
 | .loc l,.int k=>match s3[l]? with
  | some xs=>match ixN xs.length k with
   | some j=>if d.flat=true then .ok (.nx Z) (s3.set l (xs.set j d)) else .no | none=>.no
  | none=>.no
 | _,_=>.no:=id rfl
@[simp] theorem z1r:yx f Z s=(f Z s).bind fun d s1=>match d with
 | .tup xs=>.ok (xs,[]) s1 | .lst xs=>.ok (xs,[]) s1 | .loc l=>match s1[l]? with | some xs=>.ok (xs,[(l,xs)]) s1 | none=>.no
 | _=>.no:=id rfl
@[simp] theorem zf3:qh ar Z s=(ar Z s).bind fun ds s1=>match ds with
 | [.int j]=>if -(2 ^ 62)<=j/\j<2 ^ 62 then .ok (yK j.toNat,[]) s1 else .no | _=>.no:=id rfl
@[simp] theorem zkZ:zlB ar Z s=(ar Z s).bind fun ds s1=>match ds with
 | [.int i,.int j]=>if -(2 ^ 62)<=i/\i<2 ^ 62/\-(2 ^ 62)<=j/\j<2 ^ 62 then .ok (zcR i (j-i).toNat,[]) s1 else .no | _=>.no:=id rfl
@[simp] theorem zcL:z86 ar Z s=(ar Z s).bind fun ds s1=>match ds with
 | [x,y]=>match z46 s1 x,z46 s1 y with
  | some p,some q=>.ok (z1f p.1 q.1,p.2++q.2) s1 | _,_=>.no
 | _=>.no:=id rfl
@[simp] theorem z05:z88 fi fg fs Z s=(fi Z s).bind fun it s1=>yZ it.2 it.1 (fun d Z s=>(fg d Z s).bind fun Z' s'=>fs Z' s') it.1 Z s1:=id rfl
@[simp] theorem jd:z8t fi mp fg ft f Z s=(fi Z s).bind fun it s1=>wR it.2 it.1 (fun d s=>(fg d (xh mp Z) s).bind fun Z' s'=>(ft Z' s').bind fun b s2=>if b=true then (f Z' s2).bind fun d s3=>.ok (some d) s3 else .ok none s2) it.1 [] s1:=id rfl
@[simp] theorem jn:zA fi mp fg ft f Z s=(z8t fi mp fg ft f Z s).bind fun xs s1=>.ok (.lst xs) s1:=id rfl
@[simp] theorem z9L:z1O fi mp fg ft f Z s=(z8t fi mp fg ft f Z s).bind fun xs s1=>if D.flat.flats xs=true then .ok (.loc s1.length) (s1++[xs]) else .no:=id rfl
@[simp] theorem zcU:zX Z s=.ok true s:=id rfl
@[simp] theorem z3p:z87 fa fb Z s=(fa Z s).bind fun o s1=>match o with
 | .loc l=>(fb Z s1).bind fun d s2=>match s2[l]? with
  | some xs=>if d.flat=true/\xs.length<cap then .ok .non (s2.set l (xs++[d])) else .no | none=>.no
 | _=>.no:=id rfl
@[simp] theorem z82:xh [] Z=[]:=id rfl
@[simp] theorem zaL:xh (some i::mp) Z=(Z[i]?).getD none::xh mp Z:=id rfl
@[simp] theorem zaF:xh (none::mp) Z=none::xh mp Z:=id rfl
variable (a b:Int)(u v:Bool)(xs ys:List D)
@[simp] theorem zbj:wS (.int a) (.int b) s=.ok (.int (a+b)) s:=rfl
@[simp] theorem z3K:wS (.tup xs) (.tup ys) s=if xs.length+ys.length<=cap then .ok (.tup (xs++ys)) s else .no:=rfl
@[simp] theorem zf4:wS (.lst xs) (.lst ys) s=if xs.length+ys.length<=cap then .ok (.lst (xs++ys)) s else .no:=rfl
@[simp] theorem zir:zd6 (.int a) (.int b) s=.ok (.int (a-b)) s:=rfl
theorem zf7:va (.int a) (.int b) s=if a.natAbs<BIG/\b.natAbs<BIG then .ok (.int (a*b)) s else .no:=by
 simp only [va,dII,iOk];split<;>(rename_i h;split at h<;>simp_all)
theorem zce:z7L (.int a) (.int b) s=if 0<b/\b.natAbs<BIG then .ok (.int (a / b)) s else .no:=by
 simp only [z7L,dII,iOk];split<;>(rename_i h;split at h<;>simp_all)
theorem zj6:zc0 (.int a) (.int b) s=if 0<b then .ok (.int (a % b)) s else .no:=by
 simp only [zc0,dII,iOk];split<;>(rename_i h;split at h<;>simp_all)
theorem zbh:z9H (.int a) (.int b) s=if 0<=b/\b<=1000/\a.natAbs<1000 then .ok (.int (a ^ b.toNat)) s else .no:=by
 simp only [z9H,dII,iOk];split<;>(rename_i h;split at h<;>simp_all)
@[simp] theorem zmB:dLt (.int a) (.int b) s=.ok (.bl (decide (a<b))) s:=rfl
@[simp] theorem zn0:dLe (.int a) (.int b) s=.ok (.bl (decide (a<=b))) s:=rfl
@[simp] theorem zlA:dGt (.int a) (.int b) s=.ok (.bl (decide (b<a))) s:=rfl
@[simp] theorem zl0:dGe (.int a) (.int b) s=.ok (.bl (decide (b<=a))) s:=rfl
@[simp] theorem z81:dEq (.int a) (.int b) s=.ok (.bl (decide (a=b))) s:=by
 have:eqD (.int a) (.int b)=decide (a=b):=by
  simp only [eqD,ua,PyData.eqv];rw [Bool.eq_iff_iff];simp
 rw [dEq,this];rfl
@[simp] theorem zgX:dNe (.int a) (.int b) s=.ok (.bl (decide (a≠b))) s:=by
 have:eqD (.int a) (.int b)=decide (a=b):=by
  simp only [eqD,ua,PyData.eqv];rw [Bool.eq_iff_iff];simp
 rw [dNe,this,if_pos (by constructor<;>rfl)];simp
@[simp] theorem zhU:dEq (.bl u) (.bl v) s=.ok (.bl (u==v)) s:=by cases u<;>cases v<;>rfl
@[simp] theorem zmI:dNe (.bl u) (.bl v) s=.ok (.bl (u != v)) s:=by cases u<;>cases v<;>rfl
end
theorem zi{f g:FS}{Z Z':Ev}{s s':Sto}(h:f Z s=.ok (.nx Z') s'):zE f g Z s=g Z' s':=by simp [h]
theorem z9T{f g:FS}{Z:Ev}{s s':Sto}{d:D}(h:f Z s=.ok (.rt d) s'):zE f g Z s=.ok (.rt d) s':=by simp [h]
theorem z9V{all:List D}{body:D->Ev->Sto->R Fl}(I:Nat->Ev->Sto->Prop):∀ (xs:List D)(k:Nat),(∀ j x,xs[j]? = some x->∀ Z s,I (k+j) Z s->∃ Z' s',body x Z s=.ok (.nx Z') s'/\I (k+j+1) Z' s')-> ∀ Z s,I k Z s->∃ Z' s',yZ [] all body xs Z s=.ok (.nx Z') s'/\I (k+xs.length) Z' s'
 | [],k,_,Z,s,h=>⟨Z,s,by simp [yZ,okG],h⟩ | x::xs,k,hb,Z,s,h=>by
  obtain ⟨Z1,s1,e1,h1⟩:=hb 0 x (by simp) Z s h;obtain ⟨Z2,s2,e2,h2⟩:=z9V (all:=all) I xs (k+1) (fun j y hy Z s hi=>by
   have e:k+1+j=k+(j+1):=by omega
   rw [e] at hi ⊢;exact hb (j+1) y (by simpa using hy) Z s hi) Z1 s1 h1;refine ⟨Z2,s2,by simp [yZ,okG,e1,e2],?_⟩;have e:k+(x::xs).length=k+1+xs.length:=by simp;omega
  rw [e];exact h2
theorem z7m{n j:Nat}{x:D}(h:(yK n)[j]? = some x):j<n/\x=.int j:=by
 have hj:j<n:=by
  have:=(List.getElem?_eq_some_iff.mp h).1;simpa [yK] using this
 refine ⟨hj,?_⟩;simp only [yK,List.getElem?_map,List.getElem?_range hj,Option.map_some,Option.some.injEq] at h;exact h.symm
theorem zb6 {n:Nat} {x:D} (h:x∈yK n):∃ j:Nat,j<n/\x=.int j:=by
 obtain ⟨j,hj,e⟩:=List.mem_iff_getElem.mp h;have:=z7m (n:=n) (j:=j) (x:=x) (by rw [List.getElem?_eq_getElem hj,e]);exact ⟨j,this.1,this.2⟩
theorem yy:∀ (ns:List Int),D.flat.flats (ns.map D.int)=true
 | []=>rfl | n::ns=>by simp [D.flat.flats,D.flat,yy ns]
theorem z0O(i:Int):(D.int i).flat=true:=rfl
section
variable {X:Cx}{E:XK}{e:Expr}
def zmO(f:FE):FE:=fun Z s=>match f Z s with
 | .ok (.loc l) s1=>match s1[l]? with
  | some xs=>if s.length<=l/\l+1=s1.length then .ok (.lst xs) (s1.take l) else .no | none=>.no
 | .ok _ _=>.no | .ex c s1=>.ex c s1 | .no=>.no
end
@[simp] theorem zlH (f:FE)(Z:Ev)(s:Sto):zmO f Z s=(match f Z s with
 | .ok (.loc l) s1=>match s1[l]? with
  | some xs=>if s.length<=l/\l+1=s1.length then .ok (.lst xs) (s1.take l) else .no | none=>.no
 | .ok _ _=>.no | .ex c s1=>.ex c s1 | .no=>.no):=id rfl
end Dd
namespace Zz
open PySem.AutoSeq1 (wpAny_loadPart')
section
variable {P:Program}{w:World}{A:Around}{E:Value->Shared->Prop}{s:Shared}
theorem zfQ {e it l:Addr} {b:Bool} {k:Nat} {xs:Array Value} {x old:Value} {Q:Option Value->Shared->Prop} (he:IsEnum s.heap e it k old) (h1:Sit b s.heap it l k) (c1:Sco b s.heap l xs) (ex:xs[k]? = some x) (ne:e≠it) (q:∀ h',IsEnumOut h' e it ((k:Int)+1) x s.heap.objs.size->Sit b h' it l (k+1)->h'.get? s.heap.objs.size=some {cls:=.type "tuple",data:=.seq #[.int k s.toks,x]}-> (∀ c o,c≠e->c≠it->s.heap.get? c=some o->h'.get? c=some o)->Q (some (.ref s.heap.objs.size)) {s with heap:=h',toks:=s.toks+1}):wpAny (model P w) A (pyNext (.ref e)) Q E s:=by
 have hT:s.TypeIs (.ref e) "enumerate":=⟨_,he,rfl⟩;unfold pyNext;refine wpAny_bind (wpAny_attempt (wpAny_callSpecial?_slot (name:=Str.ofString "__next__") hT F.slot_enumerate_next (wpAny_call_entry F.slot_enumerate_next hT F.entry_enumerate_next (Q:=fun v s'=>wpAny (model P w) A (pure (some v)) Q E s') ?_ (F.args_enumerate_next_1 _))));obtain ⟨hp,g,d,tk,os⟩:=s;show wpAny _ _ (field (.ref e) 2 >>= _) _ _ _;refine wpAny_bind (wpAny_field he rfl (x:=.ref it) rfl ?_);refine wpAny_bind (nx h1 c1 ex fun g1 t1 s1=>?_);replace s1:Heap.SameBut it hp g1:=s1;have e1:IsEnum g1 e it k old:=(s1.2 e ne).trans he;show wpAny _ _ (field (.ref e) 3 >>= _) _ _ ⟨g1,g,d,tk,os⟩;refine wpAny_bind (wpAny_field e1 rfl (x:=rawInt k) rfl ?_);show wpAny _ _ (field (.ref e) 4 >>= _) _ _ ⟨g1,g,d,tk,os⟩;refine wpAny_bind (wpAny_field e1 rfl (x:=.none) rfl ?_);show wpAny _ _ (mkInt k >>= _) _ _ ⟨g1,g,d,tk,os⟩;refine wpAny_bind (wpAny_mkInt ?_);show wpAny _ _ (setField (.ref e) 3 (rawInt ((k:Int)+1)) >>= _) _ _ ⟨g1,g,d,tk+1,os⟩;refine wpAny_bind (wpAny_setField_rec e1 (by simp) fun g2 e2 s2=>?_);replace s2:Heap.SameBut e g1 g2:=s2;replace e2:IsEnum g2 e it ((k:Int)+1) old:=e2;show wpAny _ _ (setField (.ref e) 4 .none >>= _) _ _ ⟨g2,g,d,tk+1,os⟩;refine wpAny_bind (wpAny_setField_rec e2 (by simp) fun g3 e3 s3=>?_);replace s3:Heap.SameBut e g2 g3:=s3;replace e3:IsEnum g3 e it ((k:Int)+1) old:=e3;show wpAny _ _ (newTuple [.int k tk,x] >>= _) _ _ ⟨g3,g,d,tk+1,os⟩;refine wpAny_bind (wpAny_newTuple ?_);have e4:IsEnum (g3.push {cls:=.type "tuple",data:=.seq #[.int k tk,x]}) e it ((k:Int)+1) old:=Heap.get?_push_of_some _ e3;generalize hg4:g3.push {cls:=.type "tuple",data:=.seq #[.int k tk,x]}=g4 at e4;have sz:g3.objs.size=hp.objs.size:=by rw [s3.1,s2.1,s1.1]
 have el:e<hp.objs.size:=Heap.lt_size he;have t4:g4.get? hp.objs.size=some {cls:=.type "tuple",data:=.seq #[.int k tk,x]}:=by rw [<- hg4,<- sz];exact Heap.get?_push_size _ rfl
 have k4:∀ c o,c≠e->c≠it->hp.get? c=some o->g4.get? c=some o:=fun c o n1 n2 z=>by rw [<- hg4];exact Heap.get?_push_of_some _ (zC s3 n1 (zC s2 n1 (zC s1 n2 z)))
 have i4:Sit b g4 it l (k+1):=t1.to fun o z=>by rw [<- hg4];exact Heap.get?_push_of_some _ (zC s3 ne.symm (zC s2 ne.symm z))
 show wpAny _ _ (Builtin.SmallTypes.ownedTupleIsFree (.ref e) >>= _) _ _ ⟨g4,g,d,tk+1,os⟩;rw [sz];refine wpAny_bind ?_;unfold Builtin.SmallTypes.ownedTupleIsFree;refine wpAny_bind (wpAny_field e4 rfl (x:=.none) rfl (wpAny_pure ?_));simp only [if_true];refine wpAny_bind (wpAny_rule ?_);refine wpAny_bind (wpAny_field e4 rfl (x:=old) rfl ?_);refine wpAny_bind (wpAny_setField_rec e4 (by simp) fun g5 e5 s5=>?_);replace s5:Heap.SameBut e g4 g5:=s5;replace e5:IsEnum g5 e it ((k:Int)+1) x:=e5;show wpAny _ _ (Builtin.SmallTypes.ownedTupleHandOut (.ref e) (.ref hp.objs.size) >>= _) _ _ ⟨g5,g,d,tk+1,os⟩;refine wpAny_bind ?_;unfold Builtin.SmallTypes.ownedTupleHandOut;refine wpAny_bind (wpAny_setField_rec e5 (by simp) fun g6 e6 s6=>?_);replace s6:Heap.SameBut e g5 g6:=s6;replace e6:IsEnumOut g6 e it ((k:Int)+1) x hp.objs.size:=e6;refine wpAny_setField_rec e6 (by simp) fun g7 e7 s7=>?_;replace s7:Heap.SameBut e g6 g7:=s7;replace e7:IsEnumOut g7 e it ((k:Int)+1) x hp.objs.size:=e7;have up:∀ c o,c≠e->g4.get? c=some o->g7.get? c=some o:=fun c o n z=>zC s7 n (zC s6 n (zC s5 n z));refine wpAny_bind (wpAny_letGo (wpAny_pure ⟨_,rfl,wpAny_pure (q g7 e7 (i4.to fun o z=>up _ o ne.symm z) (up _ _ (Nat.ne_of_gt el) t4) fun c o n1 n2 z=>up c o n1 (k4 c o n1 n2 z))⟩))
theorem ziP {e it l:Addr} {b:Bool} {k:Nat} {xs:Array Value} {old:Value} {Q:Option Value->Shared->Prop} (hh:A.handled=none) (he:IsEnum s.heap e it k old) (h1:Sit b s.heap it l k) (c1:Sco b s.heap l xs) (ex:xs[k]? = none) (q:∀ h',Heap.ExtBut it s.heap h'->Q none {s with heap:=h'}):wpAny (model P w) A (pyNext (.ref e)) Q E s:=by
 have hT:s.TypeIs (.ref e) "enumerate":=⟨_,he,rfl⟩;unfold pyNext;refine wpAny_bind (wpAny_attempt (wpAny_callSpecial?_slot (name:=Str.ofString "__next__") hT F.slot_enumerate_next (wpAny_call_entry F.slot_enumerate_next hT F.entry_enumerate_next ?_ (F.args_enumerate_next_1 _))));show wpAny _ _ (field (.ref e) 2 >>= _) _ _ _;refine wpAny_bind (wpAny_field he rfl (x:=.ref it) rfl ?_);refine wpAny_bind (zd9 hh h1 c1 ex fun h' x he' hx'=>?_);obtain ⟨o,ho,hc⟩:=hx';refine wpAny_bind (wpAny_isInstance (T:="StopIteration") (b:=true) ⟨o,ho,hc⟩ isSubtype_stop ?_);exact wpAny_pure (q _ he')
end
theorem ze1(b:Bool)(l:Addr)(xs:Array Value): Meets (Builtin.«enumerate.__new__» ⟨[.type "enumerate",.ref l],[]⟩) (fun _ R s=>Sco b s.heap l xs/\R (.ok (.ret (.ref (s.heap.push (itO b l)).objs.size))) {s with heap:=(s.heap.push (itO b l)).push {cls:=.type "enumerate",data:=.fields #[.none,.bool false,.ref s.heap.objs.size,rawInt 0,.none,.none]}}):= .of_wp fun prog w A R s h=>by
  obtain ⟨hp,g,d,tk,os⟩:=s;obtain ⟨c1,h⟩:=h;have hsub:=sub_enumerate;have q1:Sco b (Shared.heap ⟨hp,g,d,tk,os⟩) l xs:=c1;obtain ⟨o,hl⟩:∃ o,hp.get? l=some o:=by cases b with
   | true=>obtain ⟨o,e,_⟩:=c1;exact ⟨o,e⟩ | false=>obtain ⟨o,e,_⟩:=c1;exact ⟨o,e⟩
  wp_walk using wpAny_loadPart' hl;refine wpAny_stack_any fun st=>wpAny_pure ?_;split
  ·rename_i c _ _ _ _ _;cases (c==Value.type "enumerate")
   ·wp_walk using wpAny_loadPart' hl,z5b q1;exact ⟨_,rfl,h⟩
   ·wp_walk using wpAny_loadPart' hl,z5b q1;exact ⟨_,rfl,h⟩
  ·wp_walk using wpAny_loadPart' hl,z5b q1;exact ⟨_,rfl,h⟩
section
variable {P:Program}{w:World}{A:Around}{E:Value->Shared->Prop}{s:Shared}
theorem zh9 {b:Bool} {l:Addr} {xs:Array Value} {Q:Value->Shared->Prop} (c1:Sco b s.heap l xs) (h:∀ h',IsEnum h' (s.heap.objs.size+1) s.heap.objs.size 0 .none->Sit b h' s.heap.objs.size l 0->(∀ c o,s.heap.get? c=some o->h'.get? c=some o)->Q (.ref (s.heap.objs.size+1)) {s with heap:=h'}): wpAny (model P w) A (call (.type "enumerate") [.ref l]) Q E s:=by
 refine callType_new F.called_enumerate (by decide) (F.typeCall_enumerate_1 _) (F.newCall_enumerate_1 _) (fun obj=>F.args_object_init_2 obj _) F.entry_enumerate_new (ze1 b l xs) ⟨c1,?_⟩;have z1:(s.heap.push (itO b l)).objs.size=s.heap.objs.size+1:=Heap.size_push ..;have g2:=Heap.get?_push_size (s.heap.push (itO b l)) (o:={cls:=.type "enumerate",data:=.fields #[.none,.bool false,.ref s.heap.objs.size,rawInt 0,.none,.none]}) rfl;have g1:((s.heap.push (itO b l)).push {cls:=.type "enumerate",data:=.fields #[.none,.bool false,.ref s.heap.objs.size,rawInt 0,.none,.none]}).get? s.heap.objs.size=some (itO b l):=Heap.get?_push_of_some _ (Heap.get?_push_size _ (z2B b l));show _/\_;rw [z1] at g2;rw [z1];exact ⟨⟨_,g2,rfl⟩,h _ g2 (z6P g1) fun c o e=>Heap.get?_push_of_some _ (Heap.get?_push_of_some _ e)⟩
end
end Zz
namespace L2
open PySem.Spec Zz
def Ite(K:W.Frag)(b:Bool)(l:Addr):It:= ⟨fun i H=>∃ xs x,Sq b K H l xs/\xs[i]? = some x, fun i H v H'=>∃ T x,H T=none/\v=.ref T/\H'=upd H T (.tup [.int i,x])/\∀ xs,Sq b K H l xs->xs[i]? = some x, fun i H=>∃ xs,Sq b K H l xs/\xs.length<=i⟩
theorem zbx {P:Program} {w:World} {K:W.Frag} {elts:List Expr} {kt:Nat} {tp:Pos} {b:Bool} {e it l:Addr} (ne:e≠it): zh5 P w K (.Tuple elts kt tp) (Ite K b l) [e,it] e (fun i h=>(∃ old,IsEnum h e it ((i:Nat):Int) old)/\Sit b h it l i) where
 mem:=by simp
 obj:=fun i h ⟨⟨old,he⟩,h1⟩ c hc=>by
  have hc':c=e\/c=it:=by simpa using hc
  rcases hc' with rfl | rfl;·exact ⟨_,he,fun v z=>by simp at z⟩
  ·exact h1.ob
 keep:=fun i h h' ⟨⟨old,he⟩,h1⟩ k=>⟨⟨old,k e (by simp) _ he⟩,h1.to fun o z=>k it (by simp) o z⟩;item:=by
  intro X hP hw hK hc i pins s O H E I hf ⟨⟨old,he⟩,h1⟩ ⟨xs,x,qx,ex⟩;subst hP hw hK;obtain ⟨ix,rx,cx⟩:=I.sq qx;obtain ⟨u,hu,ru⟩:=rx.get ex;refine zfQ he h1 cx (x:=u) (by simpa using hu) ne fun g a1 a2 a3 hk=>⟨_,rfl,?_⟩;have I1:Inv X pins O H {s with heap:=g,toks:=s.toks+1}:=I.turnedL (t':=s.toks+1) (ch:=[e,it]) (fun c o n z=>hk c o (fun t=>n (by simp [t])) (fun t=>n (by simp [t])) z) hf;refine wpAny_letOwnedTupleGo_enum a1 fun g2 e2 s2=>?_;obtain ⟨f0,f1,f2,f3,f4,f5⟩:=hf e (by simp);have I2:Inv X pins O H {s with heap:=g2,toks:=s.toks+1}:=I1.turned (t':=s.toks+1) (fun c o n z=>zC s2 n z) f0 f1 f3 f4 f5;have new:z6s X pins H s.heap.objs.size:=I.fpOk (Nat.le_refl _) (I.hok.fresh (Nat.le_refl _));have el:e≠s.heap.objs.size:=Nat.ne_of_lt (Heap.lt_size he);have p2:g2.get? s.heap.objs.size=some {cls:=.type "tuple",data:=.seq #[.int i s.toks,u]}:=zC s2 el.symm a3;refine ⟨.ref s.heap.objs.size,upd H s.heap.objs.size (.tup [.int i,x]),I2.track new ⟨?_,[.int i s.toks,u],.cons ⟨_,rfl⟩ (.cons ru .nil),⟨_,p2,rfl,rfl,_,rfl⟩⟩,rfl,⟨_,x,new.1,rfl,rfl,fun zs qz=>?_⟩,⟨⟨_,by simpa using e2⟩,a2.to fun o z=>zC s2 ne.symm z⟩,fun c hc=>?_⟩;·show 2<=sizeLine;decide
  ·rw [I.sq_inj qz qx];exact ex
  ·have hc':c=e\/c=it:=by simpa using hc
   have:c≠s.heap.objs.size:=by
    rcases hc' with rfl | rfl;·exact el
    ·exact Nat.ne_of_lt h1.lt
   rw [zS this];exact (hf c hc).1
 done:=by
  intro X hP hw hK hc i pins s O H E I hf ⟨⟨old,he⟩,h1⟩ ⟨xs,qx,hl⟩;subst hP hw hK;obtain ⟨ix,rx,cx⟩:=I.sq qx;have lx:=rx.length;obtain ⟨f0,f1,f2,f3,f4,f5⟩:=hf it (by simp);exact ziP (I.ok.hd hc) he h1 cx (by simp;omega) fun g hk=>⟨rfl,I.turned (t':=s.toks) (fun c o n z=>hk c o n z) f0 f1 f3 f4 f5⟩
 self:=fun _ _ _ _ _ ⟨⟨_,he⟩,_⟩ h=>wpAny_pyIter_enum he h
theorem zfK{X:Cx}{elts:List Expr}{kt:Nat}{tp:Pos}{a:Expr}{ta:TA}{p pos:Pos}(hg:Gl X "enumerate")(hm:X.mg "enumerate"=none)(ha:PA X [a] ta)(hs:starEach [a] X.env=(false,eval a X.env)::starEach [] X.env:=by rfl)(hpl:(backTo pos (starEach [] X.env)).any (·.1)=false:=by rfl): PI X (.Tuple elts kt tp) (.Call (.Name "enumerate" p) [a] [] pos) (fun O H R=>ta O H fun vs H1=>∃ l b,vs=[.ref l]/\(∃ xs,Sq b X.K H1 l xs)/\R (Ite X.K b l) H1):=by
 intro pins s O H R I h;refine wpAny_Call_Name_kw (z1v I hg hm (u:=.type "enumerate") (by decide +kernel) ?_ (by decide) (by decide));refine PyProof.Rows.callWith_type1 (thn (ha pos pins s O H _ I h) fun us s1 ⟨vs,H1,I1,r1,q1⟩=>?_) hs hpl;obtain ⟨l,b,rfl,⟨xs,qx⟩,q⟩:=q1;obtain ⟨u,rfl,ru⟩:=vals1 r1;cases ru;obtain ⟨ix,rx,cx⟩:=I1.sq qx;refine zh9 cx fun g he h1 hk=>?_;refine wpAny_pyIter_enum he ?_;refine ⟨_,_,_,_,H1,rfl,I1.kept (t':=s1.toks) hk,zbx (Nat.succ_ne_self _),⟨⟨_,he⟩,h1⟩,fun c hc=>?_,q⟩;have hc':s1.heap.objs.size<=c:=by
  have:c=s1.heap.objs.size+1\/c=s1.heap.objs.size:=by simpa using hc
  rcases this with rfl | rfl;·exact Nat.le_succ _
  ·exact Nat.le_refl _
 exact I1.fpOk hc' (I1.hok.fresh hc')
theorem z36(ns:List Int):∀ n,n<=ns.length->preSum (fun i=>ns.getD i 0) n=(ns.take n).sum
 | 0,_=>by simp [preSum] | n+1,h=>by
  rw [preSum,z36 ns n (by omega),<- List.take_append_getElem (show n<ns.length by omega),List.sum_append];have e:ns.getD n 0=ns[n]:=by simp [List.getD,List.getElem?_eq_getElem (show n<ns.length by omega)]
  rw [e];simp only [List.sum_cons,List.sum_nil,Int.add_zero]
theorem zbw{X:Cx}(hc:X.calm=true):wu X (.builtin "sum") (fun xs H Q=>∃ (b:Bool)(p:Addr)(ns:List Int),xs=[.ref p]/\Sq b X.K H p (ns.map V.int)/\Q (.int ns.sum) H):=by
 intro pins s O H xs us Q I r h;obtain ⟨b,p,ns,rfl,hq,q⟩:=h;obtain ⟨u,rfl,ru⟩:=vals1 r;cases ru;obtain ⟨its,rv,co⟩:=I.sq hq;have hl:its.length=ns.length:=by have:=rv.length;simp at this;omega
 refine call_sum_walkG (z5s (I.ok.hd hc) co fun s2 e2 St W st bd old=>?_);subst e2;refine ⟨_,_,_,_,_,_,(fun i=>ns.getD i 0),rfl,W,st,bd,(fun i v e=>let ⟨t,e1,_⟩:=z3V rv e;⟨t,e1⟩),fun h' tk t' hk=>?_⟩;have ez:its.toArray.size=ns.length:=by simp [hl]
 rw [ez,z36 ns _ (Nat.le_refl _),List.take_length];exact ⟨.int ns.sum,H,I.kept (t':=tk) (old h' hk),⟨t',rfl⟩,q⟩
end L2
namespace L2
open PySem.Spec
end L2
namespace Dd
open PySem.Spec L2
section
variable {X:Cx}{E:XK}{e a b c tg iter elt:Expr}{es:List Expr}{pos:Pos}{CX:CXT}
def zla(i j k:Nat)(f:FA):FS:=fun Z s=>(f Z s).bind fun ds s1=>match ds with | [x,y,z]=>.ok (.nx (((Z.set i (some x)).set j (some y)).set k (some z))) s1 | _=>.no
def zj1:List D->Sto->R D
 | [d],s=>match (zJ s d).bind intsOf with | some ns=>.ok (.int ns.sum) s | none=>.no
 | _,_=>.no
theorem zl2(hc:X.calm=true):∃ r,wu X (.builtin "sum") r/\z1n X E r zj1:=⟨_,zbw hc,fun H Y s ds vs Q r hd h=>by
 unfold zj1 at h;split at h
 ·rename_i d;split at h
  ·rename_i ns e;obtain ⟨xs,e1,e2⟩:=Option.bind_eq_some_iff.mp e;have:=jU e2;subst this;obtain ⟨v,rfl,dn⟩:=z1s hd;obtain ⟨a,ws,rfl,q1,q2⟩:=uP (K:=X.K) r e1 dn;cases kB q2;obtain ⟨b,q⟩:=z9p q1;exact ⟨b,a,ns,rfl,q,h.here r yT⟩
  ·exact h.elim
 ·exact h.elim⟩
def z3x:Nat->List D->List D
 | _,[]=>[] | i,x::xs=>.tup [.int i,x]::z3x (i+1) xs
theorem z1E:∀ (i:Nat)(xs:List D),(z3x i xs).length=xs.length
 | _,[]=>rfl | i,x::xs=>by simp [z3x,z1E (i+1) xs]
theorem za0:∀ {i k:Nat}{xs:List D}{d:D},(z3x i xs)[k]? = some d->∃ x,xs[k]? = some x/\d=.tup [.int ((i+k:Nat):Int),x]
 | _,_,[],_,h=>by simp [z3x] at h | i,0,x::xs,d,h=>by simp [z3x] at h;exact ⟨x,by simp,by simp [h]⟩ | i,k+1,x::xs,d,h=>by
  simp only [z3x,List.getElem?_cons_succ] at h;obtain ⟨y,h1,h2⟩:=za0 h;refine ⟨y,by simpa using h1,?_⟩;rw [h2,show i+1+k=i+(k+1) by omega]
def z8d(f:FA):FI:=fun Z s=>(f Z s).bind fun ds s1=>match ds with
 | [x]=>match z46 s1 x with
  | some p=>.ok (z3x 0 p.1,p.2) s1 | none=>.no
 | _=>.no
theorem zfh{p tp:Pos}{elts:List Expr}{kt:Nat}{f:FA}(hg:Gl X "enumerate")(hm:X.mg "enumerate"=none)(ha:RA X E [a] f)(hs:starEach [a] X.env=(false,eval a X.env)::starEach [] X.env:=by rfl)(hpl:(backTo pos (starEach [] X.env)).any (·.1)=false:=by rfl): RI X E (.Tuple elts kt tp) (.Call (.Name "enumerate" p) [a] [] pos) (z8d f):= z9x (zfK hg hm ha hs hpl) fun O H Q ⟨Y,Z,s,r,en,h⟩=>by
  unfold z8d at h;refine ⟨Y,Z,s,r,en,(okR.bind (Dn:=zF (gm X)) h).imp fun vs H1 ⟨Y1,s1,ds,stp,dn,h1⟩=>?_⟩;split at h1
  ·rename_i x;split at h1
   ·rename_i p ex;obtain ⟨xs,gx⟩:=p;obtain ⟨v,rfl,d1⟩:=z1s dn;obtain ⟨og1,b1,a1,rfl,k1⟩:=z8q stp.rep ex d1;obtain ⟨w1,q1,_⟩:=k1 H1 Y1 s1 (.refl stp.rep) og1;refine ⟨a1,b1,rfl,⟨w1,q1⟩,h1.here stp.rep fun H2 Y2 s2 stp2 og i=>⟨fun d hd=>?_,fun hl=>?_⟩⟩
    ·obtain ⟨x,e1,rfl⟩:=za0 hd;obtain ⟨w1,q1,n1⟩:=k1 H2 Y2 s2 stp2 og;obtain ⟨u1,g1,m1⟩:=n1.get e1;refine ⟨⟨w1,u1,q1,g1⟩,fun z H' ⟨T,p,hT,ez,eH,hp⟩=>?_⟩;subst ez eH;have e3:=hp w1 q1;rw [g1] at e3;cases e3;have st3:=vf.lay (o:=.tup [.int i,u1]) stp2.rep hT (by intro _ z;cases z);refine ⟨Y2,st3,?_⟩;simp only [Den,Nat.zero_add];exact ⟨T,[.int i,u1],rfl,yV,(zF.cons yT (zF.one m1)).mono st3⟩
    ·obtain ⟨w1,q1,n1⟩:=k1 H2 Y2 s2 stp2 og;refine ⟨w1,q1,?_⟩;rw [n1.length];simpa only [z1E] using hl
   ·exact h1.elim
  ·exact h1.elim
end
section
variable (i j k:Nat)(Z:Ev)(s:Sto)(ar:FA)
@[simp] theorem zkp:zla i j k ar Z s=(ar Z s).bind fun ds s1=>match ds with | [x,y,z]=>.ok (.nx (((Z.set i (some x)).set j (some y)).set k (some z))) s1 | _=>.no:=id rfl
@[simp] theorem zkd:z8d ar Z s=(ar Z s).bind fun ds s1=>match ds with
 | [x]=>match z46 s1 x with
  | some p=>.ok (z3x 0 p.1,p.2) s1 | none=>.no
 | _=>.no:=id rfl
end
end Dd
namespace L2
open PySem.Spec
def zfE(n:Nat):List V:=(List.range n).map fun k=>V.int ((k:Nat):Int)
theorem z3D:∀ {xs:List V}{us:List Value},us.length=xs.length->(∀ (j:Nat) u,us[j]? = some u->∃ x,xs[j]? = some x/\wm x u)->yY xs us
 | [],[],_,_=>.nil | [],_::_,h,_=>by simp at h | _::_,[],h,_=>by simp at h | x::xs,u::us,h,k=>by
  obtain ⟨y,e,r⟩:=k 0 u (by simp);have:y=x:=by simpa using e.symm
  subst this;exact .cons r (z3D (by simpa using h) fun j v hv=>k (j+1) v (by simpa using hv))
theorem z6t {X:Cx} {a:Expr} {ta:TA} {p p2 pos pos2:Pos} (hc:X.calm=true) (hg:Gl X "list") (hm:X.mg "list"=none) (hg2:Gl X "range") (hm2:X.mg "range"=none) (ha:PA X [a] ta) (hs2:starEach [a] X.env=[(false,eval a X.env)]:=by rfl) (hs:starEach [.Call (.Name "range" p2) [a] [] pos2] X.env=(false,eval (.Call (.Name "range" p2) [a] [] pos2) X.env)::starEach [] X.env:=by rfl) (hpl:(backTo pos (starEach [] X.env)).any (·.1)=false:=by rfl): PE X (.Call (.Name "list" p) [.Call (.Name "range" p2) [a] [] pos2] [] pos) (fun O H Q=>ta O H fun vs H1=>∃ j:Int,vs=[.int j]/\0<=j/\j<=1000/\∀ l,H1 l=none->Q (.ref l) (upd H1 l (.lst (zfE j.toNat)))):=by
 intro pins s O H Q I h;refine wpAny_Call_Name_kw (z1v I hg hm (u:=.type "list") (by decide +kernel) ?_ (by decide) (by decide));refine PyProof.Rows.callWith_type1 ?_ hs hpl;rw [hs];show wpAny _ _ (spliced ((false,eval (.Call (.Name "range" p2) [a] [] pos2) X.env)::backTo pos (starEach [] X.env))) _ _ s;refine Calls.spliced_cons (wpAny_Call_Name_kw (z1v I hg2 hm2 boot_range (PyProof.Rows.callWith_type1 (thn (ha pos2 pins s O H _ I h) fun us s1 ⟨vs,H1,I1,r1,q1⟩=>?_) hs2 rfl) (by decide) (by decide)));obtain ⟨j,e,q0,q2,q⟩:=q1;subst e;obtain ⟨u,rfl,⟨t,rfl⟩⟩:=vals1 r1;refine call_range_1 (Calls.spliced_nil ?_);have hsz:Builtin.Range.rangeSize 0 j 1=((j.toNat:Nat):Int):=by rw [rangeSize_one];split<;>omega
 refine call_list_range (I.ok.hd hc) (IsRange.new ..) (small_one (by omega) (by omega) (by omega) (by omega)) hsz (by omega) fun h' tk acc c' hk hS hacc=>?_;have I2:Inv X pins O H1 {s1 with heap:=s1.heap.push {cls:=.type "range",data:=.fields #[.int 0 s1.toks,.int j t,.int 1 (s1.toks+1)]},toks:=s1.toks+1+1}:=I1.kept fun b o e=>Heap.get?_push_of_some _ e;have hl:(zfE j.toNat).length=j.toNat:=by simp [zfE]
 have hv:yY (zfE j.toNat) acc.toList:=z3D (by simp [hacc.1,hl]) fun i v hv=>by
  obtain ⟨tk2,rfl⟩:=hacc.2 i v (by simpa using hv);have hi:i<j.toNat:=by
   have:=(List.getElem?_eq_some_iff.mp hv).1;simp [hacc.1] at this;omega
  exact ⟨.int i,by simp [zfE,hi],⟨tk2,by simp⟩⟩
 refine ⟨.ref _,upd H1 _ (.lst (zfE j.toNat)),I2.laid (t':=tk) hk (Nat.le_refl _) ?_,rfl,q _ (I2.hok.fresh (Nat.le_refl _))⟩;exact ⟨by rw [hl];exact Nat.le_trans (show j.toNat<=1000 by omega) (by decide),acc.toList,c',hv,by simpa using hS⟩
end L2
namespace Dd
open PySem.Spec L2
section
variable {X:Cx}{E:XK}{a:Expr}{pos:Pos}
theorem zdD{mg:Gm}{H:Hp}{Y:List Addr}(n:Nat):zF mg H Y (yK n) (zfE n):=by
 unfold yK zfE;induction (List.range n) with
 | nil=>exact zF.nil | cons k ks ih=>exact zF.cons yT ih
def eLR(f:FA):FE:=fun Z s=>(f Z s).bind fun ds s1=>match ds with
 | [.int j]=>if 0<=j/\j<=1000 then .ok (.lst (yK j.toNat)) s1 else .no | _=>.no
theorem z8x{p p2 pos2:Pos}{f:FA}(hc:X.calm=true)(hg:Gl X "list")(hm:X.mg "list"=none)(hg2:Gl X "range")(hm2:X.mg "range"=none)(ha:RA X E [a] f) (hs2:starEach [a] X.env=[(false,eval a X.env)]:=by rfl) (hs:starEach [.Call (.Name "range" p2) [a] [] pos2] X.env=(false,eval (.Call (.Name "range" p2) [a] [] pos2) X.env)::starEach [] X.env:=by rfl)(hpl:(backTo pos (starEach [] X.env)).any (·.1)=false:=by rfl): RE X E (.Call (.Name "list" p) [.Call (.Name "range" p2) [a] [] pos2] [] pos) (eLR f):= zW (z6t hc hg hm hg2 hm2 ha hs2 hs hpl).freeze fun O H Q ⟨Y,Z,s,r,en,h⟩=>by
  unfold eLR at h;refine ⟨Y,Z,s,r,en,(okR.bind (Dn:=zF (gm X)) h).imp fun vs H1 ⟨Y1,s1,ds,stp,dn,h1⟩=>?_⟩;split at h1
  ·rename_i j;split at h1
   ·rename_i hj;obtain ⟨v,rfl,d1⟩:=z1s dn;cases yG d1;exact ⟨j,rfl,hj.1,hj.2,kZ stp.rep h1 (zdD _)⟩
   ·exact h1.elim
  ·exact h1.elim
@[simp] theorem zlw (f:FA)(Z:Ev)(s:Sto):eLR f Z s=(f Z s).bind fun ds s1=>match ds with
 | [.int j]=>if 0<=j/\j<=1000 then .ok (.lst (yK j.toNat)) s1 else .no | _=>.no:=id rfl
end
def ug(ft:FT)(fb:FS):Nat->Ev->Sto->R Fl
 | 0,_,_=>.no | k+1,Z,s=>(ft Z s).bind fun b s1=>if b=true then (fb Z s1).bind fun fl s2=>match fl with
   | .nx Z'=>ug ft fb k Z' s2 | .ct Z'=>ug ft fb k Z' s2 | .bk Z'=>.ok (.nx Z') s2 | .rt d=>.ok (.rt d) s2 else .ok (.nx Z) s1
theorem z19{ft:FT}{fb:FS}:∀ {k:Nat}{Z:Ev}{s:Sto},ug ft fb k Z s≠.no->ug ft fb (k+1) Z s=ug ft fb k Z s
 | 0,Z,s,h=>absurd rfl h | k+1,Z,s,h=>by
  rw [ug] at h ⊢;conv=>rhs;rw [ug]
  cases e:ft Z s with
  | no=>rfl | ex c t=>rfl | ok b s1=>
   rw [e] at h;simp only [R.bind_ok] at h ⊢;cases b with
   | false=>rfl | true=>
    rw [if_pos rfl] at h ⊢;rw [if_pos rfl];cases e2:fb Z s1 with
    | no=>rfl | ex c t=>rfl | ok fl s2=>
     rw [e2] at h;simp only [R.bind_ok] at h ⊢;cases fl with
     | nx Z'=>exact z19 h | ct Z'=>exact z19 h | bk Z'=>rfl | rt d=>rfl
theorem z9O{ft:FT}{fb:FS}{k m:Nat}{Z:Ev}{s:Sto}(h:ug ft fb k Z s≠.no)(hm:k<=m):ug ft fb m Z s=ug ft fb k Z s:=by induction hm with
 | refl=>rfl | step _ ih=>rw [z19 (by rw [ih];exact h),ih]
open Classical in
def z4T(ft:FT)(fb:FS):FS:=fun Z s=>if h:∃ k,ug ft fb k Z s≠.no then ug ft fb h.choose Z s else .no
theorem zaa{ft:FT}{fb:FS}{k:Nat}{Z:Ev}{s:Sto}{r:R Fl}(h:ug ft fb k Z s=r)(hr:r≠.no):z4T ft fb Z s=r:=by
 subst h;have hx:∃ k,ug ft fb k Z s≠.no:=⟨k,hr⟩;unfold z4T;rw [dif_pos hx];rcases Nat.le_total k hx.choose with z | z;·exact z9O hr z
 ·exact (z9O hx.choose_spec z).symm
theorem zcr {X:Cx} {E:XK} {c:Expr} {body:List Stmt} {pos:Pos} {ft:FT} {fb:FS} (hp:PassesOwn (model X.prog X.w) X.A X.env X.xe) (hc:RT X E c ft) (hb:RSs X E body fb):RS X E (.While c body [] pos) (z4T ft fb):= kG (zeM hp hc hb) fun D O H ⟨Y,Z,s,r,en,h⟩=>by
  unfold z4T at h;split at h
  ·rename_i hx;refine ⟨fun m O H=>∃ Y Z s,Rep (gm X) H Y s/\qm (gm X) H Y Z O/\okR (gm X) E H Y (FlD (gm X)) (ug ft fb m Z s) (z4Q D),⟨_,Y,Z,s,r,en,h⟩,?_⟩;rintro m O H ⟨Y,Z,s,r,en,h⟩;cases m with
   | zero=>exact h.elim | succ m=>
    rw [ug] at h;refine ⟨Y,Z,s,r,en,(okR.bind (Dn:=bD) h).imp fun b H1 ⟨Y1,s1,b',stp,eb,h1⟩=>?_⟩;cases (show b'=b from eb);cases b with
    | false=>
     rw [if_neg (by decide)] at h1 ⊢;exact okR.here (b:=FlV.nx O) (Q:=z4Q D) h1 stp.rep (en.mono stp) | true=>
     rw [if_pos rfl] at h1 ⊢;refine ⟨fun O' H'=>∃ Y Z s,Rep (gm X) H' Y s/\qm (gm X) H' Y Z O'/\okR (gm X) E H' Y (FlD (gm X)) (ug ft fb m Z s) (z4Q D),fun O' H' q=>⟨m,Nat.lt_succ_self _,q⟩,Y1,Z,s1,stp.rep,en.mono stp,(okR.bind (Dn:=FlD (gm X)) h1).imp fun fv H2 ⟨Y2,s2,fl,stp2,dn,h2⟩=>?_⟩;cases fl with
     | nx Z'=> cases fv with
      | nx O'=>exact ⟨Y2,Z',s2,stp2.rep,dn,h2⟩ | _=>exact (show False from dn).elim
     | ct Z'=> cases fv with
      | ct O'=>exact ⟨Y2,Z',s2,stp2.rep,dn,h2⟩ | _=>exact (show False from dn).elim
     | bk Z'=> cases fv with
      | bk O'=>exact okR.here (b:=FlV.nx O') (Q:=z4Q D) (a:=Fl.nx Z') (s:=s2) h2 stp2.rep dn | _=>exact (show False from dn).elim
     | rt d=> cases fv with
      | rt v=>exact okR.here (b:=FlV.rt v) (Q:=z4Q D) (a:=Fl.rt d) (s:=s2) h2 stp2.rep dn | _=>exact (show False from dn).elim
  ·exact h.elim
end Dd
namespace PySem
open PySem.AutoSeq1 (wpAny_loadPart')
open MeetsSeq MeetsSeq2 SeqAt
theorem zaQ{M:Model}{A:Around}{E:Value->Shared->Prop}{s:Shared}{β:Type}(f:Nat->β->Sem (ForInStep β))(I:Nat->β->Shared->Prop)(Q:β->Shared->Prop)(n:Nat) (turn:∀ i b s,i<n->I i b s->wpAny M A (f i b) (fun r s'=>match r with | .yield b'=>I (i+1) b' s' | .done b'=>Q b' s') E s) (fin:∀ b s,I n b s->Q b s)(b:β)(h:I 0 b s):wpAny M A (forIn ([0:n]:Std.Legacy.Range) b f) Q E s:=by
 rw [Std.Legacy.Range.forIn_eq_forIn_range'];simp only [Std.Legacy.Range.size,Nat.sub_zero,Nat.add_sub_cancel,Nat.div_one];refine wpAny_forIn_list f (fun qo b s'=>∃ i,qo=List.range' i (n-i)/\i<=n/\I i b s') _ ?_ ?_ _ _ ⟨0,by simp,Nat.zero_le _,h⟩
 ·rintro x qo b s' ⟨i,hr,hi,hI⟩;have hlt:i<n:=by
   rcases Nat.lt_or_ge i n with h | h;·exact h
   ·rw [Nat.sub_eq_zero_of_le h] at hr;simp at hr
  obtain ⟨rfl,hrest⟩:x=i/\qo=List.range' (i+1) (n-(i+1)):=by
   have e:n-i=(n-(i+1))+1:=by omega
   rw [e,List.range'_succ] at hr;injection hr with h1 h2;exact ⟨h1,h2⟩
  refine wpAny_mono (turn x b s' hlt hI) (fun r s2 hr=>?_) fun _ _ h'=>h';cases r with
  | done b'=>exact hr | yield b'=>exact ⟨x+1,hrest,hlt,hr⟩
 ·rintro b s' ⟨i,hr,hi,hI⟩;have:i=n:=by
   have:=congrArg List.length hr;simp at this;omega
  subst this;exact fin _ _ hI
theorem z4E (l:Addr) (items:Array Value) (n:Nat) (dd:Option Addr) (sl:Array (Option Value)) (x:Value) (e:Value->Bool) (j:Nat) (hj:j<items.size) (hit:e items[j]=true) (hno:∀ m (hm:m<items.size),m<j->e items[m]=false): Meets (Builtin.«tuple.index» ⟨[.ref l,x],[]⟩) (fun A R s=>s.heap.get? l=some {cls:=.type "tuple",dict:=dd,data:=.seq items n,slots:=sl}/\(∀ y,y∈items->EqAt A.in1 s y x (e y))/\R (.ok (.ret (.int j s.toks))) {s with toks:=s.toks+1}):= .of_wp fun prog w A R s h=>by
  obtain ⟨hp,g,d,tk,os⟩:=s;obtain ⟨hl,he,h⟩:=h;have hm:min items.size items.size=items.size:=Nat.min_self _;wp_walk using wpAny_loadPart' hl,zaQ _ (fun i b s'=>b.1=none/\s'=⟨hp,g,d,tk,os⟩/\i<=j) _ _;case turn=>
   rintro i ⟨b1,b2⟩ s' hi ⟨hb,rfl,hij⟩;simp only at hb;subst hb;rw [hm] at hi;rw [Array.getElem?_eq_getElem hi];refine wpAny_bind (he _ (Array.getElem_mem hi) prog w _ _ ?_);rcases Nat.lt_or_eq_of_le hij with lt | rfl
   ·rw [hno i hi lt];wp_walk;exact ⟨rfl,rfl,lt⟩
   ·rw [hit];wp_walk;exact ⟨_,rfl,h⟩
  case fin=>
   rintro ⟨b1,b2⟩ s' ⟨hb,rfl,hij⟩;rw [hm] at hij;omega
  case h=>exact ⟨rfl,rfl,Nat.zero_le _⟩
end PySem
namespace L2
open PySem.Spec
section
variable {X:Cx}{o e:Expr}{to:TE}{t:TA}{name:Str}{apos cpos:Pos}{id:String}{r:V->List V->Hp->VK->Prop}
theorem ziG(slot:Slot "tuple" name id)(hty:typeOf (.builtin id)=pure (.type "method_descriptor"))(hm:MtR X id r)(ho:PE X o to)(ha:PA X [e] t) (hbase:attributeBase o name X.env (eval o X.env)=eval o X.env:=by rfl) (hfew:((backTo cpos (starEach [e] X.env)).all (fun x=>!x.1)&&(backToKw cpos (keywordEach [] X.env)).all (fun x=>x.1.isSome) && decide ([e].length+([]:List Keyword).length+(if ([]:List Keyword).isEmpty then 0 else 1)<30))=true:=by rfl) (hline:(apos.endLine==cpos.line)=true:=by rfl)(hs:starEach [e] X.env=(false,eval e X.env)::starEach [] X.env:=by rfl)(hplain:(backTo cpos (starEach [] X.env)).any (·.1)=false:=by rfl): PE X (.Call (.Attribute o name apos) [e] [] cpos) (fun O H Q=>to O H fun x H1=>(∃ p vs,x=.ref p/\H1 p=some (.tup vs))/\t O H1 fun xs H2=>r x xs H2 Q):=by
 intro pins s O H Q I h;refine wpAny_Call_method_late hbase hfew hline rfl (thn (ho pins s O H _ I h) fun v s1 ⟨x,H1,I1,r1,ty,q1⟩=>?_);obtain ⟨p,vs,rfl,hp⟩:=ty;cases r1;obtain ⟨_,its,_,ob,e1,c1,d1,n,w1⟩:=I1.hok p _ hp;refine ⟨"tuple",id,PySem.F.plainAttrs_tuple,slot,hty,⟨ob,e1,c1⟩,fun a e=>?_,?_⟩
 ·cases e;exact ⟨ob,e1,d1⟩
 have hA:=ha cpos pins s1 O H1 _ I1 q1;rw [hs] at hA ⊢;refine Calls.callWith_builtin (by show (false||(backTo cpos (starEach [] X.env)).any (·.1))=false;rw [hplain]<;>rfl) (Calls.evalArgs_plain ?_);exact thn hA fun us s2 ⟨vs,H2,I2,r2,q2⟩=>hm pins s2 O H2 (.ref p) vs _ us Q I2 rfl r2 q2
theorem z1C:∀ {ns:List Int}{its:List Value},yY (ns.map V.int) its->IntsAre its ns
 | [],_,.nil=>.nil | n::ns,_,.cons r rs=>by
  obtain ⟨t,rfl⟩:=r;exact .cons n t (z1C rs)
def zkh:V->List V->Hp->VK->Prop:=fun x vs H Q=>∃ (p:Addr)(ns:List Int)(k:Int),x=.ref p/\vs=[.int k]/\H p=some (.tup (ns.map V.int))/\k∈ns/\Q (.int (ns.idxOf k:Nat)) H
theorem z8L:MtR X "tuple.index" zkh:=by
 intro pins s O H x vs v us Q I rx rv h;obtain ⟨p,ns,k,rfl,rfl,hp,hk,q⟩:=h;cases rx;obtain ⟨u,rfl,⟨t,rfl⟩⟩:=vals1 rv;obtain ⟨_,its,r,ob,e1,c1,d1,n,w1⟩:=I.hok p _ hp;have hi:=z1C r;have hlen:=hi.length;have hj:ns.idxOf k<ns.length:=List.idxOf_lt_length_iff.mpr hk;obtain ⟨cls,dd,data,sl⟩:=ob;simp only at c1 d1 w1;subst c1 d1 w1;refine call_meets PySem.F.slot_tuple_index ⟨_,e1,rfl⟩ PySem.F.entry_tuple_index (PySem.F.args_tuple_index_2 _ _) (z4E p its.toArray n _ sl (.int k t) (isInt k) (ns.idxOf k) (by simpa [hlen] using hj) ?_ ?_) ⟨e1,fun y hy=>(eq_isInt k t hi y (by simpa using hy)).at _ _,?_⟩
 ·show isInt k its[ns.idxOf k]=true;rw [isInt_at k hi _ (by omega) hj];simpa using List.getElem_idxOf hj
 ·intro j hjs hlt;show isInt k its[j]=false;rw [isInt_at k hi j (by simpa using hjs) (by omega)];exact ne_of_lt_idxOf hlt _
 ·exact ⟨.int (ns.idxOf k:Nat),H,I.kept (fun b o e=>e),⟨s.toks,rfl⟩,q⟩
end
end L2
namespace Dd
open PySem.Spec L2
section
variable {X:Cx}{E:XK}{o e:Expr}{pos:Pos}
def ze7(fo fv:FE):FE:=fun Z s=>(fo Z s).bind fun o s1=>match o with
 | .tup ds=>(fv Z s1).bind fun d s2=>match intsOf ds,d with
  | some ns,.int k=>if k∈ns then .ok (.int (ns.idxOf k:Nat)) s2 else .no | _,_=>.no
 | _=>.no
theorem z8O{apos:Pos}{fo fv:FE}(ho:RE X E o fo)(hv:RE X E e fv)(hbase:attributeBase o "index" X.env (eval o X.env)=eval o X.env:=by rfl) (hfew:((backTo pos (starEach [e] X.env)).all (fun x=>!x.1)&&(backToKw pos (keywordEach [] X.env)).all (fun x=>x.1.isSome) && decide ([e].length+([]:List Keyword).length+(if ([]:List Keyword).isEmpty then 0 else 1)<30))=true:=by rfl) (hline:(apos.endLine==pos.line)=true:=by rfl)(hs:starEach [e] X.env=(false,eval e X.env)::starEach [] X.env:=by rfl)(hplain:(backTo pos (starEach [] X.env)).any (·.1)=false:=by rfl): RE X E (.Call (.Attribute o "index" apos) [e] [] pos) (ze7 fo fv):= zW (ziG PySem.F.slot_tuple_index PySem.F.type_tuple_index z8L ho (wj hv jL hs) hbase hfew hline hs hplain) fun O H Q ⟨Y,Z,s,r,en,h⟩=>by
  unfold ze7 at h;refine ⟨Y,Z,s,r,en,(okR.bind (Dn:=Den (gm X)) h).imp fun ov H1 ⟨Y1,s1,od,stp,dn,h1⟩=>?_⟩;cases od with
  | tup ds=>
   simp only at h1;have hty:∃ p vs,ov=.ref p/\H1 p=some (.tup vs):=by
    simp only [Den] at dn;obtain ⟨a,vs,rfl,e1,_⟩:=dn;exact ⟨a,vs,rfl,e1⟩
   refine ⟨hty,⟨Y1,Z,s1,stp.rep,en.mono stp,(okR.bind (Dn:=Den (gm X)) h1).imp fun v H2 ⟨Y2,s2,d,stp2,dn2,h2⟩=>?_⟩⟩;split at h2
   ·rename_i ns k ei;split at h2
    ·rename_i hk;have dov:=dn.mono stp2;simp only [Den] at dov;obtain ⟨a,vs,rfl,e1,e2⟩:=dov;rw [jU ei] at e2;cases kB e2;cases yG dn2;exact ⟨a,ns,k,rfl,rfl,e1,hk,okR.here h2 stp2.rep yT⟩
    ·exact h2.elim
   ·exact h2.elim | _=>exact h1.elim
@[simp] theorem ziZ (fo fv:FE)(Z:Ev)(s:Sto):ze7 fo fv Z s=(fo Z s).bind fun o s1=>match o with
 | .tup ds=>(fv Z s1).bind fun d s2=>match intsOf ds,d with
  | some ns,.int k=>if k∈ns then .ok (.int (ns.idxOf k:Nat)) s2 else .no | _,_=>.no
 | _=>.no:=id rfl
end
def zgM(P:Program)(w:World)(K:W.Frag)(mg:Str->Option Value)(x:Str)(tb:List (Str×Str)):Prop:= ∃ a o es ep,mg x=some (.ref a)/\(a==sysModules)=false/\K.lookup a=some o/\o.ExactDict/\o.data=.dict es ep/\PySem.KeysOf (xG P w) es/\ (∀ k y,tb.lookup k=some y->∃ f,findBy (xG P w).is es (.inr k)=some (.ref f)/\mg y=some (.ref f))/\∀ k,tb.lookup k=none->findBy (xG P w).is es (.inr k)=none
theorem z7p{P:Program}{w:World}{k:Str}{u:Value}(r:wm (.str k) u):(xG P w).is (.inr k) u=true:=by
 obtain ⟨t,e⟩:=(show ∃ t,u=Value.str k t from r);subst e;exact z3z k t
section
variable {X:Cx}{E:XK}{e a b c:Expr}{es:List Expr}{pos:Pos}{CX:CXT}
theorem za8{pins:List (Addr×Obj)}{O:L2.St}{H:Hp}{s:Shared}{o:Obj}{d:Addr}{en:Array DictEntry}{ep:Nat}(I:Inv X pins O H s)(hk:X.K.lookup d=some o)(hx:o.ExactDict)(hd:o.data=.dict en ep)(ks:PySem.KeysOf (xG X.prog X.w) en): s.heap.MapOf (xG X.prog X.w) d (fun k=>findBy (xG X.prog X.w).is en k):=⟨o,en,ep,I.kIn d o hk,hx,hd,ks,fun _=>rfl⟩
def zjS(tb:List (Str×Str))(f:FE):FE:=fun Z s=>(f Z s).bind fun d s1=>match d with
 | .str k=>match tb.lookup k with | some y=>.ok (.fn y) s1 | none=>.no
 | _=>.no
theorem zkL{x:Str}{p:Pos}{tb:List (Str×Str)}{f:FE}(hT:zgM X.prog X.w X.K X.mg x tb)(hg:Gl X x)(he:RE X E e f)(hs:z8i e)(hdb:(x==("__debug__":Str))=false:=by decide): RE X E (.Subscript (.Name x p) e pos) (zjS tb f):=by
 obtain ⟨d,o,en,ep,hm,hsm,hk,hx,hd,ks,h1,h2⟩:=hT;refine zW (zju (r:=fun v y H Q=>v=.ref d/\∃ k g,y=.str k/\findBy (xG X.prog X.w).is en (.inr k)=some (.ref g)/\Q (.ref g) H) ?_ (z3v hg hm (show wm (.ref d) (.ref d) from rfl) hdb) he hs) fun O H Q ⟨Y,Z,s,r,en',h⟩=>?_
 ·intro value slice pins s O H v y u u2 Q I rx ry h hs2;obtain ⟨rfl,k,g,rfl,hf,q⟩:=h;cases rx;have mp:=za8 I hk hx hd ks;exact subscriptTail_builtinR (x:=.ref g) mp.typeIs PySem.F.slot_dict_getitem.lookup (wpAny_getItem_of (Q:=fun r s'=>r=.ref g/\EP X pins O Q r s') (z7p ry) mp hf ⟨rfl,.ref g,H,I.tok _,rfl,q⟩) hs2
 ·unfold zjS at h;refine ⟨Y,Z,s,r,en',(okR.bind (Dn:=Den (gm X)) h).imp fun v H1 ⟨Y1,s1,dd,stp,dn,q⟩=>?_⟩;split at q
  ·rename_i k;split at q
   ·rename_i y hy;obtain ⟨g,e1,e2⟩:=h1 k y hy;cases jR dn;exact ⟨rfl,k,g,rfl,e1,okR.here (b:=V.ref g) q stp.rep (by simp only [Den];exact ⟨g,rfl,e2⟩)⟩
   ·exact q.elim
  ·exact q.elim
def zac(tb:List (Str×Str))(neg:Bool)(f:FE):FE:=fun Z s=>(f Z s).bind fun d s1=>match d with
 | .str k=>.ok (.bl (xor neg (tb.lookup k).isSome)) s1 | _=>.no
theorem zgK{x:Str}{p:Pos}{tb:List (Str×Str)}{f:FE}(hT:zgM X.prog X.w X.K X.mg x tb)(hg:Gl X x)(he:RE X E e f)(hm':behindInMarks .In (.Name x p)=false:=by rfl)(hdb:(x==("__debug__":Str))=false:=by decide): RE X E (.Compare e [.In] [.Name x p] pos) (zac tb false f):=by
 obtain ⟨d,o,en,ep,hm,hsm,hk,hx,hd,ks,h1,h2⟩:=hT;refine zW (zbg (r:=fun y v H Q=>v=.ref d/\∃ k,y=.str k/\Q (.bl (findBy (xG X.prog X.w).is en (.inr k)).isSome) H) ?_ he (z3v hg hm (show wm (.ref d) (.ref d) from rfl) hdb) hm') fun O H Q ⟨Y,Z,s,r,en',h⟩=>?_
 ·intro pins s O H y v u u2 Q I ry rx h;obtain ⟨rfl,k,rfl,q⟩:=h;cases rx;exact wpAny_in_of (z7p ry) hsm (za8 I hk hx hd ks) ⟨.bl _,H,I.tok _,rfl,q⟩
 ·unfold zac at h;refine ⟨Y,Z,s,r,en',(okR.bind (Dn:=Den (gm X)) h).imp fun v H1 ⟨Y1,s1,dd,stp,dn,q⟩=>?_⟩;split at q
  ·rename_i k;cases jR dn;have e0:(findBy (xG X.prog X.w).is en (.inr k)).isSome=(tb.lookup k).isSome:=by cases z:tb.lookup k with
    | none=>rw [h2 k z];rfl | some y=>obtain ⟨g,e1,_⟩:=h1 k y z;rw [e1];rfl
   exact ⟨rfl,k,rfl,okR.here (b:=V.bl _) q stp.rep (by simp [Den,e0])⟩
  ·exact q.elim
def z9X(i:Nat)(Ms:List (Str×Mir))(f:FA):FE:=fun Z s=>match Z[i]? with
 | some (some (.fn y))=>match Ms.lookup y with
  | some M=>(f Z s).bind fun xs s1=>M xs s1 | none=>.no
 | _=>.no
theorem zg9 (i:Nat) {x:Str} {p:Pos} {n:Nat} {Ms:List (Str×Mir)} {f:FA} (F:∀ y M,Ms.lookup y=some M->Has X.prog X.w X.K X.mg X.base CX y n M) (hr:z14 n X.A) (hxx:Passes CX X E) (ha:RA X E (e::es) f) (hN:X.N[i]? = some x:=by rfl) (hv:Vis X.env.scope x:=by first | exact Or.inl rfl | exact Or.inr (Or.inl rfl) | exact Or.inr (Or.inr rfl)) (hd:(x==("__debug__":Str))=false:=by decide) (hcd:(x==("__classdict__":Str))=false:=by decide) (he:starEach (e::es) X.env=(false,eval e X.env)::starEach es X.env:=by rfl) (hpl:(backTo pos (starEach es X.env)).any (·.1)=false:=by rfl):RE X E (.Call (.Name x p) (e::es) [] pos) (z9X i Ms f):=by
 intro pins s O H Q I ⟨Y,Z,st,r,en,h⟩;unfold z9X at h;split at h
 ·rename_i y hy;split at h
  ·rename_i M hM;obtain ⟨v,hv1,dv⟩:=en.at_ i (.fn y) hy;simp only [Den] at dv;obtain ⟨g,rfl,hmg⟩:=dv;obtain ⟨fa,fd,ps,Fk,hb,hk,hm⟩:=F y M hM;have e0:g=fa:=by rw [hmg] at hm;cases hm;rfl
   subst e0;refine wpAny_Call_Name_kw (thn (zeO (pos:=p) hN hv hd hcd pins s O H (fun v H1=>v=.ref g/\H1=H) I ⟨.ref g,hv1,rfl,rfl⟩) fun u s1 ⟨v,H1,I1,r1,e1,e2⟩=>?_);subst e1 e2;cases r1;have hA:=ha pos pins s1 O H1 (fun vs H2=>zeK (gm X) M (vs++[]) H2 Q E) I1 (qf (k:=fun Z xs s1=>M xs s1) r en h _ fun vs H2 Y2 s2 ds r2 en2 dn2 stp2 h3=>by
    rw [List.append_nil];exact ⟨Y2,s2,ds,r2,dn2,h3⟩);refine W.callWith_K (h₀:=X.base) I1.ok.mod.kin hk (thn hA fun us s2 ⟨vs,H2,I2,r2,q⟩=>⟨I2.kIn,?_⟩) he hpl;exact zad Fk hr hb .nil hxx I2 r2 q
  ·exact h.elim
 ·exact h.elim
@[simp] theorem zm2 (tb:List (Str×Str))(f:FE)(Z:Ev)(s:Sto):zjS tb f Z s=(f Z s).bind fun d s1=>match d with
 | .str k=>match tb.lookup k with | some y=>.ok (.fn y) s1 | none=>.no
 | _=>.no:=id rfl
@[simp] theorem zjM (tb:List (Str×Str))(neg:Bool)(f:FE)(Z:Ev)(s:Sto):zac tb neg f Z s=(f Z s).bind fun d s1=>match d with
 | .str k=>.ok (.bl (xor neg (tb.lookup k).isSome)) s1 | _=>.no:=id rfl
@[simp] theorem zdR (i:Nat)(Ms:List (Str×Mir))(f:FA)(Z:Ev)(s:Sto):z9X i Ms f Z s=match Z[i]? with
 | some (some (.fn y))=>match Ms.lookup y with
  | some M=>(f Z s).bind fun xs s1=>M xs s1 | none=>.no
 | _=>.no:=id rfl
end
theorem vf.cut{mg:Gm}{H H1:Hp}{Y Y1:List Addr}{s1:Sto}(stp:vf mg H Y H1 Y1 s1):vf mg H Y H1 (Y1.take Y.length) (s1.take Y.length):=by
 have fl:∀ {ds:List D}{ws:List V},D.flat.flats ds=true->zF mg H1 Y1 ds ws->zF mg H1 (Y1.take Y.length) ds ws:=fun f h=>h.flatten (fun _ _ h _=>h) f;refine ⟨⟨by simp [stp.rep.len],stp.rep.nd.sublist (List.take_sublist _ _),fun j ys h=>?_,fun ys h=>stp.rep.flat ys (List.mem_of_mem_take h)⟩,?_,stp.keep,fun c h1 h2=>stp.new c (List.mem_of_mem_take h1) h2,stp.mt⟩
 ·have hj:j<Y.length:=by
   have:=(List.getElem?_eq_some_iff.mp h).1;simp at this;omega
  rw [List.getElem?_take_of_lt hj] at h ⊢;obtain ⟨c,ws,q1,q2,q3⟩:=stp.rep.at_ j ys h;exact ⟨c,ws,q1,q2,fl (stp.rep.flat _ (List.mem_of_getElem? h)) q3⟩
 ·obtain ⟨t,ht⟩:=stp.pre;exact ⟨[],by rw [<- ht,List.take_append];simp⟩
theorem vf.frzC{mg:Gm}{H H1:Hp}{Y Y1:List Addr}{s1:Sto}{l:Nat}{xs:List D}(stp:vf mg H Y H1 Y1 s1)(hl:Y.length<=l)(hx:s1[l]? = some xs):∃ a vs,Y1[l]? = some a/\H1 a=some (.lst vs)/\ ∀ o,vf mg H Y (upd H1 a (.frz o (.lst vs))) (Y1.take Y.length) (s1.take Y.length)/\Den mg (upd H1 a (.frz o (.lst vs))) (Y1.take Y.length) (.lst xs) (.ref a):=by
 obtain ⟨a,vs,e1,e2,e3⟩:=stp.rep.at_ l xs hx;refine ⟨a,vs,e1,e2,fun o=>?_⟩;have il:l<Y1.length:=(List.getElem?_eq_some_iff.mp e1).1;have an:a∉Y:=fun z=>by
  obtain ⟨j,hj,ej⟩:=List.mem_iff_getElem.mp z;obtain ⟨t,ht⟩:=stp.pre;have:Y1[j]? = some a:=by rw [<- ht,List.getElem?_append_left hj,List.getElem?_eq_getElem hj,ej]
  have:=(List.getElem_inj stp.rep.nd).mp (((List.getElem?_eq_some_iff.mp this).2).trans ((List.getElem?_eq_some_iff.mp e1).2).symm);omega
 have a0:H a=none:=stp.new a (List.mem_of_getElem? e1) an;have k:∀ b u,H1 b=some u->(∀ vs,u≠.lst vs)->upd H1 a (.frz o (.lst vs)) b=some u:=fun b u h hn=>by rw [zS (fun z=>by subst z;rw [e2] at h;exact hn vs (Option.some.inj h).symm)];exact h
 have fl:∀ {ds:List D}{ws:List V},D.flat.flats ds=true->zF mg H1 Y1 ds ws->zF mg (upd H1 a (.frz o (.lst vs))) (Y1.take Y.length) ds ws:=fun f h=>h.flatten k f;have mem:∀ {j:Nat}{ys:List D},s1[j]? = some ys->D.flat.flats ys=true:=fun e=>stp.rep.flat _ (List.mem_of_getElem? e);refine ⟨⟨⟨by simp [stp.rep.len],stp.rep.nd.sublist (List.take_sublist _ _),fun j ys h=>?_,fun ys h=>stp.rep.flat ys (List.mem_of_mem_take h)⟩,?_,fun b u h n=>?_,fun c h1 h2=>stp.new c (List.mem_of_mem_take h1) h2,stp.mt⟩,?_⟩
 ·have hj:j<Y.length:=by
   have:=(List.getElem?_eq_some_iff.mp h).1;simp at this;omega
  rw [List.getElem?_take_of_lt hj] at h ⊢;obtain ⟨c,ws,q1,q2,q3⟩:=stp.rep.at_ j ys h;refine ⟨c,ws,q1,?_,fl (mem h) q3⟩;rw [zS (fun z=>by
   subst z;have:=(List.getElem_inj stp.rep.nd).mp (((List.getElem?_eq_some_iff.mp q1).2).trans ((List.getElem?_eq_some_iff.mp e1).2).symm);omega)];exact q2
 ·obtain ⟨t,ht⟩:=stp.pre;exact ⟨[],by rw [<- ht,List.take_append];simp⟩
 ·rw [zS (fun z=>by subst z;rw [a0] at h;cases h)];exact stp.keep b u h n
 ·simp only [Den];exact ⟨a,o,vs,rfl,yV,fl (mem hx) e3⟩
def zik(n:Nat):R D->R D
 | .ok (.loc l) s1=>match s1[l]? with
  | some xs=>if n<=l then .ok (.lst xs) (s1.take n) else .no | none=>.no
 | .ok _ _=>.no | .ex c s1=>.ex c s1 | .no=>.no
def z1m(f:FE):FE:=fun Z s=>zik s.length (f Z s)
section
variable {X:Cx}{E:XK}{e:Expr}
theorem zcg{f:FE}(h:RE X E e f):RE X E e (z1m f):= zW (PE.freeze h) fun O H Q ⟨Y,Z,s,r,en,h⟩=>by
  refine ⟨Y,Z,s,r,en,?_⟩;unfold z1m zik at h;split at h
  ·rename_i l s1 e1;rw [e1];split at h
   ·rename_i xs ex;split at h
    ·rename_i hl;intro v H1 Y1 stp dn;obtain ⟨a,vs,q1,q2,q3⟩:=stp.frzC (by rw [r.len];exact hl) ex;simp only [Den] at dn;obtain ⟨a',rfl,q4⟩:=dn;rw [q1] at q4;cases q4;rw [<- r.len] at h;exact ⟨a,vs,rfl,q2,fun o=>h _ _ _ (q3 o).1 (q3 o).2⟩
    ·exact h.elim
   ·exact h.elim
  ·exact h.elim
  ·rename_i e1;rw [e1];exact h
  ·exact h.elim
end
@[simp] theorem z1e (f:FE)(Z:Ev)(s:Sto):z1m f Z s=zik s.length (f Z s):=id rfl
@[simp] theorem z5I {s:Sto}{xs:List D}:zik s.length (.ok (.loc s.length) (s++[xs]))=.ok (.lst xs) s:=by simp [zik]
def zaU(n:Nat):R D->R D
 | .ok (.loc l) s1=>if l<n then .ok (.loc l) (s1.take n) else .ok (.loc l) s1 | .ok d s1=>if d.flat=true then .ok d (s1.take n) else .ok d s1 | r=>r
def z83(M:Mir):Mir:=fun ds s=>zaU s.length (M ds s)
theorem zg1{mg:Gm}{M:Mir}{vs:List V}{H:Hp}{Q:VK}{E:XK}(h:zeK mg (z83 M) vs H Q E):zeK mg M vs H Q E:=by
 obtain ⟨Y,s,ds,r,dn,h⟩:=h;refine ⟨Y,s,ds,r,dn,?_⟩;unfold z83 zaU at h;split at h
 ·rename_i l s1 e;rw [e];split at h
  ·rename_i hl;intro v H1 Y1 stp dv;rw [<- r.len] at h;refine h v H1 _ stp.cut ?_;simp only [Den] at dv ⊢;obtain ⟨a,rfl,e1⟩:=dv;exact ⟨a,rfl,by rw [List.getElem?_take_of_lt (by rw [r.len];exact hl)];exact e1⟩
  ·exact h
 ·rename_i d s1 hn e;rw [e];split at h
  ·rename_i hf;intro v H1 Y1 stp dv;rw [<- r.len] at h;exact h v H1 _ stp.cut (dv.flatten (fun _ _ h _=>h) hf)
  ·exact h
 ·exact h
section
variable {P:Program}{w:World}{K:W.Frag}{mg:Str->Option Value}{base:Heap}
theorem Has.tidy{CX:CXT}{x:Str}{n:Nat}{M:Mir}(h:Has P w K mg base CX x n M):Has P w K mg base CX x n (z83 M):=by
 obtain ⟨f,fd,ps,F,r⟩:=h;exact ⟨f,fd,ps,F.imp fun vs H Q E h=>zg1 h,r⟩
end
@[simp] theorem z8j (M:Mir)(ds:List D)(s:Sto):z83 M ds s=zaU s.length (M ds s):=id rfl
@[simp] theorem z4V {d:D}{n:Nat}{s1:Sto}(h:d.flat=true):zaU n (.ok d s1)=.ok d (s1.take n):=by cases d<;>first | (simp [D.flat] at h;done) | simp_all [zaU]
def zfm:D->D->Sto->R D
 | x,.int k,s=>match listOf s x with
  | some xs=>if xs.length*k.toNat<=cap/\-(2 ^ 62)<=k/\k<2 ^ 62 then .ok (.lst (List.replicate k.toNat xs).flatten) s else .no | none=>.no
 | _,_,_=>.no
theorem zF.flat_rep{mg:Gm}{H:Hp}{Y:List Addr}{xs:List D}{vs:List V}(h:zF mg H Y xs vs):∀ k:Nat,zF mg H Y (List.replicate k xs).flatten (List.replicate k vs).flatten
 | 0=>by simpa using zF.nil | k+1=>by
  rw [List.replicate_succ,List.replicate_succ,List.flatten_cons,List.flatten_cons];exact h.append (h.flat_rep k)
section
variable {X:Cx}{E:XK}
theorem zhZ:∃ r,OpR X (binaryOp .Mult) r/\OpF X E r zfm:=by
 refine ⟨_,zeQ.freeze,?_⟩;intro H Y s d1 d2 v1 v2 Q r h1 h2 h;unfold zfm at h;split at h
 ·rename_i k;cases yG h2;split at h
  ·rename_i xs hx;split at h
   ·rename_i hl;obtain ⟨l,vs,e,q1,q2⟩:=yg r hx h1;exact ⟨l,k,vs,e,rfl,q1,by omega,by omega,by rw [q2.length];exact jz hl.1,kZ r h (q2.flat_rep _)⟩
   ·exact h.elim
  ·exact h.elim
 ·exact h.elim
end
section
variable {X:Cx}{E:XK}{e a b c:Expr}{es:List Expr}{pos:Pos}{CX:CXT}
theorem zhl{x:Str}{p:Pos}{n:Nat}{M:Mir}(F:Has X.prog X.w X.K X.mg X.base CX x n M)(hr:z14 n X.A)(hx:Passes CX X E)(hg:Gl X x)(hdb:(x==("__debug__":Str))=false:=by decide):RE X E (.Call (.Name x p) [] [] pos) (ze M zh):=by
 obtain ⟨fa,fd,ps,F,hb,hk,hm⟩:=F;refine zW (zdv F hr hg hm hk hb .nil hx hdb) fun O H Q ⟨Y,Z,s,r,en,h⟩=>?_;exact ⟨Y,s,[],r,zF.nil,h⟩
end
section
variable {P:Program}{w:World}{K:W.Frag}{mg:Str->Option Value}{base:Heap}{CX:CXT}{n:Nat}
def zc7:List DictEntry->List (Str×Value)
 | []=>[] | e::es=>match e.key with
  | .str k _=>(k,e.val)::zc7 es | _=>zc7 es
theorem z1a {P:Program} {w:World} {k:Str}:∀ {es:List DictEntry},findBy (xG P w).is es.toArray (.inr k)=(zc7 es).lookup k
 | []=>by simp [findBy,zc7] | e::es=>by
  have ih:=z1a (P:=P) (w:=w) (k:=k) (es:=es);simp only [findBy,List.find?_toArray] at ih ⊢;rw [List.find?_cons];cases hk:e.key with
  | str y t=>
   simp only [zc7,hk,List.lookup_cons];by_cases z:k=y
   ·subst z;simp [z8T]
   ·have:(xG P w).is (.inr k) (.str y t)=false:=by
     rw [z4H];cases q:z8f (.inr k) (.str y t) with
     | false=>rfl | true=>
      rcases yH q with ⟨i,u,h1,h2⟩ | ⟨x,u,h1,h2⟩;·cases h2
      ·cases h1;cases h2;exact absurd rfl z
    rw [this,show (k==y)=false from by simpa using z];exact ih | _=>
   have:(xG P w).is (.inr k) e.key=false:=by
    rw [z4H];cases q:z8f (.inr k) e.key with
    | false=>rfl | true=>
     rcases yH q with ⟨i,u,h1,h2⟩ | ⟨x,u,h1,h2⟩;·cases h1
     ·rw [hk] at h2;cases h2
   rw [hk] at this;simp only [zc7,hk,this];exact ih
theorem z9m:∀ y M,([]:List (Str×Mir)).lookup y=some M->Has P w K mg base CX y n M:=fun y M h=>by simp at h
theorem uf{x:Str}{M0:Mir}{Ms:List (Str×Mir)}(h:Has P w K mg base CX x n M0)(hs:∀ y M,Ms.lookup y=some M->Has P w K mg base CX y n M):∀ y M,((x,M0)::Ms).lookup y=some M->Has P w K mg base CX y n M:=fun y M e=>by
 rw [List.lookup_cons] at e;split at e
 ·rename_i hb;cases e;have:y=x:=by simpa using hb
  subst this;exact h
 ·exact hs y M e
end
def Sub(K:W.Frag)(h:Heap):Prop:=∀ p∈K,h.get? p.1=some p.2
theorem Sub.in_{K:W.Frag}{h:Heap}(s:Sub K h):K.In h:=fun a o e=>by induction K with
 | nil=>simp at e | cons p K ih=>
  obtain ⟨b,u⟩:=p;rw [List.lookup_cons] at e;split at e
  ·rename_i hb;cases e;have:a=b:=by simpa using hb
   subst this;exact s (a,o) (by simp)
  ·exact ih (fun q hq=>s q (by simp [hq])) e
theorem z5R(h:Heap)(a:Addr):Sub (z93 h a) h:=fun p hp=>by
 unfold z93 at hp;split at hp
 ·rename_i o e;simp at hp;subst hp;exact e
 ·simp at hp
theorem Sub.app{K L:W.Frag}{h:Heap}(a:Sub K h)(b:Sub L h):Sub (K++L) h:=fun p hp=>(List.mem_append.mp hp).elim (a p) (b p)
theorem zgo(h:Heap)(ns:List Str):Sub (gat h ns) h:=by
 refine (z5R h _).app fun p hp=>?_;obtain ⟨x,_,hx⟩:=List.mem_flatMap.mp hp;unfold zlL at hx;split at hx
 ·rcases List.mem_append.mp hx with hx | hx;·exact z5R h _ p hx
  ·split at hx
   ·split at hx;·exact z5R h _ p hx
    ·simp at hx
   ·exact z5R h _ p hx
   ·simp at hx
 ·simp at hx
def zlE(K:W.Frag)(x:Str)(st:Stmt):Prop:=∃ f fd,W.nsIn K mainGlobals x=some (some (.ref f))/\Fun K x x st f fd
theorem dA(s:Stmt):dArgs s=z1i s:=by cases s<;>rfl
theorem dB(s:Stmt):zj5 s=vG s:=by cases s<;>rfl
theorem dS(s:Stmt):zf0 s=zg s:=by cases s<;>rfl
theorem zgb{K:W.Frag}{x:Str}{st:Stmt}(h:zh8 K x=zkE x st):zlE K x st:=by
 unfold zh8 zkE at h;rw [dA,dB,dS] at h;split at h
 ·rename_i f hf;split at h
  ·rename_i oc od fd sl hl;simp only [Option.some.injEq,Prod.mk.injEq] at h;obtain ⟨h1,h2,h3,h4,h5,h6,h7,h8,h9,h10,h11⟩:=h;obtain ⟨a1,a2,a3,a4,a5,a6,a7,a8,a9,a10,a11,a12,a13,a14,a15⟩:=fd;simp only at h1 h2 h3 h4 h5 h6 h7 h8 h9 h10;subst h1 h3 h4 h5 h6 h7 h8 h9;subst h2;exact ⟨f,_,hf,zjE hl h10 h11⟩
  ·cases h
 ·cases h
theorem zeq{K:W.Frag}{x:Str}(h:zhe K x=true):W.nsIn K mainGlobals x=some none:=by
 unfold zhe at h;split at h;·rename_i e;exact e
 ·cases h
theorem zei{K:W.Frag}{x:Str}{i:Int}(h:zho K x=some i):∃ t,W.nsIn K mainGlobals x=some (some (.int i t)):=by
 unfold zho at h;split at h;·rename_i j t e;cases h;exact ⟨t,e⟩
 ·cases h
theorem z9y{P:Program}{w:World}{K:W.Frag}{h:Heap}{mg:Str->Option Value}(X:K.In h)(G:h.Ns mainGlobals mg):∀ {es:List DictEntry}{tb:List (Str×Str)},zaG K es (tb.map (·.2))=tb.map (fun p=>(PyData.keyHash w.params p.1,some p.1,true))-> PySem.KeysOf (xG P w) es.toArray/\(∀ k y,tb.lookup k=some y->∃ f,(zc7 es).lookup k=some (.ref f)/\mg y=some (.ref f))/\∀ k,tb.lookup k=none->(zc7 es).lookup k=none
 | [],[],_=>⟨fun e he=>by simp at he,fun k y h=>by simp at h,fun k _=>by simp [zc7]⟩ | [],_::_,h=>by simp [zaG] at h | _::_,[],h=>by simp [zaG] at h | e::es,(k0,y0)::tb,h=>by
  simp only [List.map_cons,zaG,List.cons.injEq,Prod.mk.injEq] at h;obtain ⟨⟨h1,h2,h3⟩,h4⟩:=h;obtain ⟨i1,i2,i3⟩:=z9y (P:=P) X G h4;obtain ⟨hh,kk,vv⟩:=e;simp only at h1 h2 h3;cases kk with
  | str ks t=>
   simp only [zck,Option.some.injEq] at h2;subst h2;have hv:∃ f,vv=.ref f/\W.nsIn K mainGlobals y0=some (some (.ref f)):=by
    unfold sameRef at h3;split at h3
    ·rename_i f g e1;have:f=g:=by simpa using h3
     subst this;exact ⟨f,rfl,e1⟩
    ·cases h3
   obtain ⟨f,rfl,e1⟩:=hv;refine ⟨fun e he=>?_,fun k y hy=>?_,fun k hy=>?_⟩
   ·simp only [List.mem_toArray,List.mem_cons] at he;rcases he with rfl | he;·exact ⟨.inr ks,z3z ks t,h1⟩
    ·exact i1 e (by simpa using he)
   ·simp only [zc7,List.lookup_cons] at hy ⊢;by_cases z:k=ks
    ·subst z;simp at hy ⊢;subst hy;exact W.mg_of X G e1
    ·rw [show (k==ks)=false from by simpa using z] at hy ⊢;exact i2 k y hy
   ·simp only [zc7,List.lookup_cons] at hy ⊢;by_cases z:k=ks;·subst z;simp at hy
    ·rw [show (k==ks)=false from by simpa using z] at hy ⊢;exact i3 k hy | _=>simp [zck] at h2
theorem zgN{P:Program}{w:World}{K:W.Frag}{h:Heap}{mg:Str->Option Value}{x:Str}{tb:List (Str×Str)}(X:K.In h)(G:h.Ns mainGlobals mg)(e:zhg K x (tb.map (·.2))=zk5 w tb):zgM P w K mg x tb:=by
 unfold zhg zk5 at e;split at e
 ·rename_i a ha;split at e
  ·rename_i c d es ep sl hl;simp only [Option.some.injEq,Prod.mk.injEq] at e;obtain ⟨e1,e2,e3,e4,e5⟩:=e;obtain ⟨i1,i2,i3⟩:=z9y (P:=P) X G e5;have hc:c=.type "dict":=by
    unfold z7W at e1;split at e1
    ·rename_i n;have:n="dict":=by simpa using e1
     rw [this]
    ·cases e1
   have hd:d=none:=by simpa using e2
   have hs:sl=#[]:=by
    have:sl.size=0:=by simpa using e3
    exact Array.eq_empty_of_size_eq_zero this
   have ea:es.toList.toArray=es:=by simp
   rw [ea] at i1;refine ⟨a,_,es,ep,W.mg_of X G ha,e4,hl,⟨hc,hd,hs⟩,rfl,i1,fun k y hy=>?_,fun k hy=>?_⟩;·rw [<- ea,z1a];exact i2 k y hy
   ·rw [<- ea,z1a];exact i3 k hy
  ·cases e
 ·cases e
def saysS(q:Ask)(w:World)(h:Heap):Prop:=∃ K:W.Frag,K.In h/\zbc q K=valS q w
theorem zgx(q:Ask)(w:World)(s:Shared)(e:obsS q s=valS q w):saysS q w s.heap:=⟨_,(zgo _ _).in_,e⟩
theorem zao(q:Ask)(w:World)(h h':Heap)(x:saysS q w h)(k:∀ b o,h.get? b=some o->h'.get? b=some o):saysS q w h':=let ⟨K,a,b⟩:=x;⟨K,a.keeps k,b⟩
theorem z53{α β:Type}{f g:α->β}:∀ {l:List α},l.map f=l.map g->∀ x∈l,f x=g x:=fun h x hx=>List.map_inj_left.mp h x hx
theorem zlx{q:Ask}{w:World}{K:W.Frag}(e:zbc q K=valS q w)(x:Str)(st:Stmt)(hx:(x,st)∈q.fs):zlE K x st:=zgb (z53 (congrArg Prod.fst e) (x,st) hx)
theorem zjX{q:Ask}{w:World}{K:W.Frag}(e:zbc q K=valS q w)(x:Str)(hx:x∈q.bs):W.nsIn K mainGlobals x=some none:=zeq (z53 (congrArg (fun z=>z.2.1) e) x hx)
theorem zki{q:Ask}{w:World}{K:W.Frag}(e:zbc q K=valS q w)(x:Str)(i:Int)(hx:(x,i)∈q.cs):∃ t,W.nsIn K mainGlobals x=some (some (.int i t)):=zei (z53 (congrArg (fun z=>z.2.2.1) e) (x,i) hx)
theorem zkz{P:Program}{q:Ask}{w:World}{K:W.Frag}{h:Heap}{mg:Str->Option Value}(X:K.In h)(G:h.Ns mainGlobals mg)(e:zbc q K=valS q w)(x:Str)(tb:List (Str×Str))(hx:(x,tb)∈q.ts):zgM P w K mg x tb:=zgN X G (z53 (congrArg (fun z=>z.2.2.2.1) e) (x,tb) hx)
theorem zcM{p q:Program}{loose:List Str}{Xt:Shared->Bool}{α:Type}{Yf:Shared->α}{Ya:World->α}{N:Nat}{g0:Bool}(row:String) (bo:∀ w:World,(W.fencedOpening treeTable p w N).map (fun s=>(s.heap,s.gens,s.drawn,s.toks))=some (W.boot_heap w.params,Array.mk [],W.boot_drawn,W.boot_toks)) (hf:∀ (w:World)(os:OsState),(W.topFrom treeTable p (w.withFollow row false) N ⟨W.boot_heap w.params,Array.mk [],W.boot_drawn,W.boot_toks,os⟩).map (fun s=>(W.openSeen q loose (importedModules p.main.body) Xt g0 s,Yf s))=some (W.openGood q loose,Ya (w.withFollow row false))) (ht:∀ (w:World)(os:OsState),(W.topFrom treeTable p (w.withFollow row true) N ⟨W.boot_heap w.params,Array.mk [],W.boot_drawn,W.boot_toks,os⟩).map (fun s=>(W.openSeen q loose (importedModules p.main.body) Xt g0 s,Yf s))=some (W.openGood q loose,Ya (w.withFollow row true))):W.LeftO p q loose Xt Yf Ya N g0:= W.LeftO.of_split row fun w=>by
  obtain ⟨⟨h,gs,d,k,os⟩,e,e'⟩:=Option.map_eq_some_iff.mp (bo w);obtain ⟨rfl,rfl,rfl,rfl⟩:h=W.boot_heap w.params/\gs=Array.mk []/\d=W.boot_drawn/\k=W.boot_toks:=by simpa only [Prod.mk.injEq] using e'
  rw [e,Option.map_some,hf w os,ht w os]
theorem z7g{tb:String->Option Builtin}{p:Program}{w:World}{n₀:Nat}{ann:Option Value}:∀ {n:Nat}{s s':W.SharedT}{t:Thread},z3b tb p w n₀ ann n s t=some s'->W.topRun tb p w n₀ ann n s.abs t=some s'.abs
 | 0,_,_,_,h=>by cases h | n+1,s,s',t,h=>by
  unfold z3b at h;unfold W.topRun;cases he:W.through t with
  | true=>rw [he] at h;cases h;rfl | false=>
   rw [he] at h;cases hk:W.stepOk n₀ ann t with
   | false=>rw [hk] at h;cases h | true=>
    rw [hk] at h;cases hs:W.stepT (denote tb) p w s t with
    | none=>rw [hs] at h;cases h | some r=>obtain ⟨s₂,t₂⟩:=r;rw [hs] at h;rw [W.stepT_spec hs];exact z7g h
theorem z4O{p:Program}{w:World}{N:Nat}{h:Heap}{d:Drawn}{k:Nat}{os:OsState}{t0:W.BT}{m₀:Nat}{ann:Option Value}(ha:W.absHeap t0 m₀ h.life=h) (sz:(h.isNs mainGlobals&&(Array.mk []:Array GenState).size==0,h.objs.size,h.nsMap mainGlobals "__annotations__")=(true,m₀,ann)){α:Type}{f:Shared->α}{v:α} (hr:(z3b treeTable p w m₀ ann N ⟨t0,m₀,h.life,Array.mk [],d,k,os⟩ (W.topStub p)).map (fun sT=>(W.staticsOk (importedModules p.main.body) h sT.abs.heap&&W.namesBound p sT.abs.heap&&W.gensDone sT.abs&&W.laidKept h sT.abs.heap,f sT.abs))=some (true,v)): (W.topFrom treeTable p w N ⟨h,Array.mk [],d,k,os⟩).map f=some v:=by
 obtain ⟨sT,e1,e2⟩:=Option.map_eq_some_iff.mp hr;obtain ⟨e3,e4⟩:=Prod.mk.inj e2;obtain ⟨z1,z2,z3⟩:_/\_/\_:=by simpa only [Prod.mk.injEq] using sz
 have r:=z7g e1;have a0:(⟨t0,m₀,h.life,Array.mk [],d,k,os⟩:W.SharedT).abs=⟨h,Array.mk [],d,k,os⟩:=by
  show (⟨W.absHeap t0 m₀ h.life,Array.mk [],d,k,os⟩:Shared)=_;rw [ha]
 rw [a0] at r;have t:W.topFrom treeTable p w N ⟨h,Array.mk [],d,k,os⟩=some sT.abs:=by
  unfold W.topFrom;dsimp only;rw [z1,z2,z3];dsimp only;rw [r];show (match (W.staticsOk (importedModules p.main.body) h sT.abs.heap&&W.namesBound p sT.abs.heap&&W.gensDone sT.abs&&W.laidKept h sT.abs.heap) with | true=>some sT.abs | false=>none)=_;rw [e3]
 rw [t,Option.map_some,e4]
theorem z7j{α β γ δ:Type}{r:Option α}{f:α->β}{g:α->γ}{k:α->δ}{x:β}{y:γ}{z:δ}(h1:r.map (fun s=>(f s,k s))=some (x,z))(h2:r.map g=some y):r.map (fun s=>(f s,(g s,k s)))=some (x,(y,z)):=by
 obtain ⟨s,e1,e2⟩:=Option.map_eq_some_iff.mp h1;obtain ⟨s',e3,e4⟩:=Option.map_eq_some_iff.mp h2;rw [e1] at e3;cases e3;obtain ⟨e5,e6⟩:=Prod.mk.inj e2;rw [e1,Option.map_some,e4,e5,e6]
theorem walkY{l:W.OpenLaw}{n k:Nat}{q:Program}{loose:List Str}{XP:(Str->Option Value)->Heap->Prop}{YP:World->Heap->Prop}{d:DefRec}{x:Str} (hn:l.most=some n)(hn2:n<=sizeLine)(hn3:n<=63)(hdf:d.params.defaults=[])(hr:z14 k callerA) (F:∀ (w:World)(mg:Str->Option Value)(fa:Addr)(h:Heap),YP w h->h.Ns mainGlobals mg->mg d.name=some (.ref fa)->XP mg h-> ∃ K:W.Frag,K.In h/\∃ fd:FuncData,(∀ (s:Shared)(u:Value),BindsTo s fd ⟨[u],[]⟩ [(x,u)])/\ ∀ base:Heap,K.In base->base.Ns mainGlobals mg->z4U l.prog w K mg base CX0 k fa fd [x] (zht K)): W.WalkO q loose XP YP l.row.toRowW d [] (fun f vs=>PySem.call f vs):=by
 refine Att.z41 hn hdf fun w s₀ s₁ mg mb fa o pm cd doc a vs ns G Yy ho hd hcd hmg hobj hints hlen hg=>?_;obtain ⟨K,KX,fd,hb,hF⟩:=F w mg fa _ Yy G.T.g hmg G.X;exact z9f KX G.T.g G.T.b G.T.builtins G.T.nolimit hg hobj hints (Nat.le_trans hlen hn2) hr hF hb (fun H hO hS=>⟨a,ns,rfl,hO,hS,Nat.le_trans hlen hn3,fun _=>rfl⟩) fun H e s' z=>z
end Dd
namespace HT
open PySem.Spec
section
variable {prog:Program}{w:World}{A:Around}{s:Shared}{E:Value->Shared->Prop}
theorem zaJ (n:Nat):Builtin.Slice.sliceAdjust none none (-1) (n:Int)=((n:Int)-1,-1):=by
 unfold Builtin.Slice.sliceAdjust;simp
theorem zaj(n:Nat):Builtin.Slice.slicePlaces ((n:Int)-1) (-1) (-1)=n:=by
 unfold Builtin.Slice.slicePlaces;rw [if_neg (by decide)];by_cases h:n=0;·subst h;simp
 ·rw [if_pos (by omega)];simp
theorem z2b {sl:Addr} {t:Tok} {n:Nat} {Q:Int×Int×Nat->Shared->Prop} (hs:s.heap.IsSliceOf sl .none .none (.int (-1) t)) (h:Q ((n:Int)-1,-1,n) s):wpAny (model prog w) A (Builtin.Slice.sliceApplied (.ref sl) (pure (n:Int))) Q E s:=by
 obtain ⟨os,hos,hcs,hds⟩:=id hs;unfold Builtin.Slice.sliceApplied Builtin.Slice.sliceFields;refine wpAny_bind (wpAny_bind (wpAny_field hos hds (x:=.none) rfl (wpAny_bind (wpAny_field hos hds (x:=.none) rfl (wpAny_bind (wpAny_field hos hds (x:=.int (-1) t) rfl (wpAny_pure ?_)))))));refine wpAny_bind (slicePart_int ?_);show wpAny _ _ (if ((-1:Int)==0)=true then _ else _) _ _ s;rw [if_neg (by decide)];refine wpAny_bind (slicePart_none (wpAny_bind (slicePart_none (wpAny_bind (wpAny_pure ?_)))));show wpAny _ _ (match Builtin.Slice.sliceAdjust none none (-1) (n:Int) with | (lo,hi)=>pure (lo,(-1:Int),Builtin.Slice.slicePlaces lo hi (-1))) _ _ s;rw [zaJ n];show wpAny _ _ (pure ((n:Int)-1,(-1:Int),Builtin.Slice.slicePlaces ((n:Int)-1) (-1) (-1))) _ _ s;rw [zaj];exact wpAny_pure h
theorem zdn(xs:Array Value):((List.range xs.size).filterMap fun (m:Nat)=>xs[(((xs.size:Nat):Int)-1+(m:Int)*(-1)).toNat]?).toArray=xs.toList.reverse.toArray:=by
 congr 1;have key:∀ (k:Nat),k<=xs.size->(List.range k).filterMap (fun (m:Nat)=>xs[(((xs.size:Nat):Int)-1+(m:Int)*(-1)).toNat]?)=xs.toList.reverse.take k:=by
  intro k;induction k with
  | zero=>simp | succ k ih=>
   intro hk;rw [List.range_succ,List.filterMap_append,ih (by omega)];have h1:(((xs.size:Nat):Int)-1+(k:Int)*(-1)).toNat=xs.size-1-k:=by omega
   rw [List.filterMap_cons,h1,Array.getElem?_eq_getElem (by omega)];have hl:k<xs.toList.reverse.length:=by simp;omega
   rw [List.take_succ,List.getElem?_eq_getElem hl];simp
 rw [key _ (Nat.le_refl _),List.take_of_length_le (by simp)]
theorem z1b {t sl:Addr} {items:Array Value} {tk:Tok} {Q:Value->Shared->Prop} (ht:IsTup s.heap t items) (hs:s.heap.IsSliceOf sl .none .none (.int (-1) tk)) (h:Q (.ref s.heap.objs.size) {s with heap:=s.heap.push {cls:=.type "tuple",data:=.seq items.toList.reverse.toArray}}) (hsz:items.size<=sizeLine):wpAny (model prog w) A (getItem (.ref t) (.ref sl)) Q E s:=by
 have htake:sizeOk (.seq items.toList.reverse.toArray):=by
  show items.toList.reverse.toArray.size<=sizeLine;simpa using hsz
 obtain ⟨os,hos,hcs,hds⟩:=id hs;have hTs:s.TypeIs (.ref sl) "slice":=⟨os,hos,hcs⟩;unfold getItem;try with_reducible refine wpAny_holding ?_
 first | refine wpAny_bind (wpAny_pure ?_) | skip
 refine wpAny_bind (wpAny_sequenceKey ht.typeIs (by decide) ?_);refine wpAny_bind (wpAny_callSpecial?_slot (name:=Str.ofString "__getitem__") ht.typeIs PyProof.Rows.slot_tuple_getitem (wpAny_call_entry PyProof.Rows.slot_tuple_getitem ht.typeIs entry_tuple_getitem ?_ (args_tuple_getitem _ _)));show wpAny _ _ (Builtin.Tuple.tupleItemsOf (.ref t) >>= _) _ _ s;refine wpAny_bind (tupleItemsOf_ ht ?_);refine wpAny_bind (wpAny_typeOf hTs ?_);rw [if_pos (by decide)];refine wpAny_bind (z2b (n:=items.size) hs ?_);have hno:¬ ((((items.size:Nat):Int)-1==0&&(-1:Int)==1&&items.size==items.size)=true):=by simp
 show wpAny _ _ (if (((items.size:Nat):Int)-1==0&&(-1:Int)==1&&items.size==items.size)=true then _ else _) _ _ s;rw [if_neg hno,zdn];first
  | exact wpAny_bind (m:=Builtin.Tuple.tupleExact _) (wpAny_newObj_type (wpAny_pure ⟨_,rfl,wpAny_pure h⟩) htake) | exact wpAny_bind (m:=Builtin.Tuple.tupleExact _) (wpAny_newObj_type (wpAny_bind (wpAny_pure (wpAny_pure ⟨_,rfl,wpAny_pure h⟩))) htake) | exact wpAny_bind (wpAny_bind (m:=Builtin.Tuple.tupleExact _) (wpAny_newObj_type (wpAny_pure (wpAny_pure ⟨_,rfl,wpAny_pure h⟩)) htake)) | exact wpAny_bind (wpAny_bind (m:=Builtin.Tuple.tupleExact _) (wpAny_newObj_type (wpAny_pure ⟨_,rfl,wpAny_pure h⟩) htake))
end
end HT
namespace L2
open PySem.Spec
section
variable {X:Cx}{e m:Expr}{te:TE}{pos p2:Pos}
def zkj(K:W.Frag)(te:TE):TE:=fun O H Q=>te O H fun x H1=>∃ a xs,x=.ref a/\SqT K H1 a xs/\∀ p,H1 p=none->Q (.ref p) (upd H1 p (.tup xs.reverse))
theorem zhn (he:PE X e te) (hm:∀ (pins:List (Addr×Obj)) (s:Shared) (O:St) (H:Hp),Inv X pins O H s->wpAny (model X.prog X.w) X.A (evalPart (some m) X.env) (fun u s'=>∃ t,u=.int (-1) t/\Inv X pins O H s') X.xe s): PE X (.Subscript e (.Slice none none (some m) p2) pos) (zkj X.K te):=by
 intro pins s O H Q I h;refine Subscript_ (thn (he pins s O H _ I h) fun v s1 ⟨x,H1,I1,r1,q1⟩=>?_);refine wpAny_Slice ?_;rw [evalPart_none];refine wpAny_pure (wpAny_pure ?_);refine thn (hm pins s1 O H1 I1) fun u s3 ⟨t,eu,I3⟩=>?_;subst eu;have I4:Inv X pins O H1 {s3 with heap:=s3.heap.push {cls:=.type "slice",data:=.fields #[.none,.none,.int (-1) t]}}:=I3.kept (t':=s3.toks) fun b ob q=>Heap.get?_push_of_some _ q;obtain ⟨a,xs,rfl,hx,q⟩:=q1;cases r1;obtain ⟨its,r,ht,hz⟩:=I4.tuple hx;show wpAny (model X.prog X.w) X.A (subscriptTail e (.Slice none none (some m) p2) (.ref a) (.ref s3.heap.objs.size)) (EP X pins O Q) X.xe {s3 with heap:=s3.heap.push {cls:=.type "slice",data:=.fields #[.none,.none,.int (-1) t]}};refine tail_any (ops:=[.ref a,.ref s3.heap.objs.size]) ht.typeIs PyProof.Rows.slot_tuple_getitem.lookup ?_ (by with_unfolding_all rfl);have hlen:its.toArray.size=xs.length:=by rw [List.size_toArray];exact r.length.symm
 refine HT.z1b ht (Heap.IsSliceOf.new ..) ?_ (by rw [hlen];exact hz);refine ⟨.ref _,_,I4.laid (t':=s3.toks) (o:=.tup xs.reverse) (fun b ob q=>Heap.get?_push_of_some _ q) (Nat.le_refl _) ?_,rfl,q _ (I4.hok.fresh (Nat.le_refl _))⟩;have hr:yY xs.reverse its.reverse:=by
  clear hx hz ht q I4 hlen;induction r with
  | nil=>exact .nil | cons p _ ih=>rw [List.reverse_cons,List.reverse_cons];exact ih.append (.cons p .nil)
 refine ⟨by simpa using hz,its.reverse,hr,?_⟩;have e:its.toArray.toList.reverse.toArray=its.reverse.toArray:=by simp
 rw [e];exact zbb.new _ _
end
end L2
namespace Dd
open PySem.Spec L2
section
variable {X:Cx}{E:XK}{e:Expr}{pos p2 p3 p4:Pos}
theorem zF.rev{mg:Gm}{H:Hp}{Y:List Addr}:∀ {xs:List D}{vs:List V},zF mg H Y xs vs->zF mg H Y xs.reverse vs.reverse
 | [],vs,h=>by simp only [zF] at h;subst h;exact zF.nil | d::ds,vs,h=>by
  simp only [zF] at h;obtain ⟨v,r,rfl,h1,h2⟩:=h;rw [List.reverse_cons,List.reverse_cons];exact (zF.rev h2).append (.one h1)
def zhB(f:FE):FE:=fun Z s=>(f Z s).bind fun d s1=>match d with
 | .tup xs=>.ok (.tup xs.reverse) s1 | _=>.no
theorem zll {j:Nat} {f:FE} (he:RE X E e f):RE X E (.Subscript e (.Slice none none (some (.UnaryOp .USub (.Constant (.int 1) j p3) p4)) p2) pos) (zhB f):= zW (zhn he fun pins s O H I=>by
  rw [evalPart_some];refine thn ((zhO (pos:=p4) zeZ (zfC (i:=1) (j:=j) (pos:=p3))) pins s O H (fun v H1=>v=.int (-1)/\H1=H) I ?_) fun u s1 ⟨x,H1,I1,r1,e1,e2⟩=>?_;·exact ⟨1,rfl,rfl,rfl⟩
  ·subst e1 e2;obtain ⟨t,rfl⟩:=r1;exact ⟨t,rfl,I1⟩) fun O H Q ⟨Y,Z,s,r,en,h⟩=>by
  unfold zhB at h;refine ⟨Y,Z,s,r,en,(okR.bind (Dn:=Den (gm X)) h).imp fun v H1 ⟨Y1,s1,d,stp,dn,h1⟩=>?_⟩;cases d with
  | tup xs=>
   obtain ⟨a,vs,rfl,q1,q2⟩:=jB (K:=X.K) dn;exact ⟨a,vs,rfl,q1,z23 stp.rep h1 q2.rev⟩ | _=>exact h1.elim
@[simp] theorem zlY (f:FE)(Z:Ev)(s:Sto):zhB f Z s=(f Z s).bind fun d s1=>match d with
 | .tup xs=>.ok (.tup xs.reverse) s1 | _=>.no:=id rfl
end
section
variable {X:Cx}{E:XK}{e:Expr}{pos:Pos}
def zmz(i j k:Nat):FG:=fun d Z s=>match d with
 | .tup [x,y,z]=>.ok (((Z.set i (some x)).set j (some y)).set k (some z)) s | _=>.no
@[simp] theorem zlZ (i j k:Nat)(x y z:D)(Z:Ev)(s:Sto):zmz i j k (.tup [x,y,z]) Z s=.ok (((Z.set i (some x)).set j (some y)).set k (some z)) s:=id rfl
end
section
variable {X:Cx}{E:XK}{e a b c:Expr}{es:List Expr}{pos:Pos}
def zja:D->D->Sto->R D:=dII fun i j=>if 0<=j/\j<=100/\i.natAbs<BIG then iOk (.int (i ^ j.toNat)) else .no
def zbu(x y:D)(s:Sto):R D:=(dIs x y s).bind fun d s1=>match d with | .bl k=>.ok (.bl (!k)) s1 | _=>.no
variable {qo:List Expr}
def zmm(fa fb:FE):FE:=fun Z s=>(fa Z s).bind fun x s1=>match x with | .int i=>if i=0 then fb Z s1 else .ok (.int i) s1 | .non=>fb Z s1 | _=>.no
@[simp] theorem zlR (fa fb:FE)(Z:Ev)(s:Sto):zmm fa fb Z s=(fa Z s).bind fun x s1=>match x with | .int i=>if i=0 then fb Z s1 else .ok (.int i) s1 | .non=>fb Z s1 | _=>.no:=id rfl
@[simp] theorem zjP (x:Int)(s:Sto):zbu (.int x) .non s=.ok (.bl true) s:=id rfl
@[simp] theorem zi7 (s:Sto):zbu .non .non s=.ok (.bl false) s:=id rfl
@[simp] theorem ziQ (a b:Bool)(s:Sto):zbu (.bl a) (.bl b) s=.ok (.bl (!(a==b))) s:=id rfl
end
section
variable {X:Cx}{E:XK}{e o a b c:Expr}{es:List Expr}{pos:Pos}
def zbf:D->D->Sto->R D
 | x,.int k,s=>match listOf s x with
  | some xs=>if xs.length*k.toNat<=cap/\-(2 ^ 62)<=k/\k<2 ^ 62/\D.flat.flats (List.replicate k.toNat xs).flatten=true then .ok (.loc s.length) (s++[(List.replicate k.toNat xs).flatten]) else .no | none=>.no
 | _,_,_=>.no
theorem zhV:∃ r,OpR X (binaryOp .Mult) r/\OpF X E r zbf:=by
 refine ⟨_,zeQ,?_⟩;intro H Y s d1 d2 v1 v2 Q r h1 h2 h;unfold zbf at h;split at h
 ·rename_i k;cases yG h2;split at h
  ·rename_i xs hx;split at h
   ·rename_i hl;obtain ⟨l,vs,e,q1,q2⟩:=yg r hx h1;exact ⟨l,k,vs,e,rfl,q1,by omega,by omega,by rw [q2.length];exact jz hl.1,zd1 r h hl.2.2.2 (q2.flat_rep _)⟩
   ·exact h.elim
  ·exact h.elim
 ·exact h.elim
def zjw(fo fv:FE):FE:=fun Z s=>(fo Z s).bind fun o s1=>match o with
 | .loc l=>(fv Z s1).bind fun d s2=>match s2[l]?,d with
  | some xs,.int i=>if 0<=i/\i<2 ^ 62 then (match xs[i.toNat]? with | some y=>.ok y (s2.set l (xs.eraseIdx i.toNat)) | none=>.no) else .no | _,_=>.no
 | _=>.no
@[simp] theorem zjG (fo fv:FE)(Z:Ev)(s:Sto):zjw fo fv Z s=(fo Z s).bind fun o s1=>match o with
 | .loc l=>(fv Z s1).bind fun d s2=>match s2[l]?,d with
  | some xs,.int i=>if 0<=i/\i<2 ^ 62 then (match xs[i.toNat]? with | some y=>.ok y (s2.set l (xs.eraseIdx i.toNat)) | none=>.no) else .no | _,_=>.no
 | _=>.no:=id rfl
def see(s:Sto):D->D
 | .loc l=>match s[l]? with | some xs=>.lst xs | none=>.loc l
 | d=>d
def zez(neg:Bool)(x y:D)(s:Sto):R D:=if z8X (see s x)=true/\z8X (see s y)=true then .ok (.bl (if neg then !eqD (see s x) (see s y) else eqD (see s x) (see s y))) s else .no
theorem Den.readsS{P:Program}{w:World}{mg:Gm}{H:Hp}{Y:List Addr}{h:Heap}{s:Sto}(ok:HOk P w H h)(rp:Rep mg H Y s){d:D}{v:V}{u:Value}(c:PyData.canLay0 (ua (see s d))=true)(dn:Den mg H Y d v)(r:wm v u):∃ as,Reads h u (ua (see s d)) as:=by
 by_cases hl:∃ l xs,d=.loc l/\s[l]? = some xs
 ·obtain ⟨l,xs,rfl,hx⟩:=hl;have e0:see s (.loc l)=.lst xs:=by simp [see,hx]
  rw [e0] at c ⊢;simp only [Den] at dn;obtain ⟨a,rfl,e1⟩:=dn;cases r;obtain ⟨b,vs,e2,q1,q2⟩:=rp.at_ l xs hx;rw [e1] at e2;cases e2;obtain ⟨_,its,n,rv,e⟩:=ok a _ q1;obtain ⟨as,q⟩:=zF.reads ok (by simpa [ua,PyData.canLay0] using c) q2 rv;rw [ua];exact ⟨_,Reads.list e rfl rfl (by simpa using q)⟩
 ·have e0:see s d=d:=by cases d with
   | loc l=>
    simp only [see];split;·rename_i xs hx;exact absurd ⟨l,xs,rfl,hx⟩ hl
    ·rfl | _=>rfl
  rw [e0] at c ⊢;exact Den.reads ok c dn r
def zlG(mg:Gm)(neg:Bool):R2:=fun x y H Q=>∃ Y s d1 d2,Rep mg H Y s/\Den mg H Y d1 x/\Den mg H Y d2 y/\z8X (see s d1)=true/\z8X (see s d2)=true/\Q (.bl (if neg then !eqD (see s d1) (see s d2) else eqD (see s d1) (see s d2))) H
theorem zin(hu:X.A.units+64<cLine):OpR X (compareOp .Eq) (zlG (gm X) false):=by
 intro pins s O H x y v u Q I rx ry ⟨Y,st,d1,d2,rp,h1,h2,p1,p2,q⟩;obtain ⟨as,ra⟩:=Den.readsS I.hok rp (SeqAt.canLay_of_shaped p1) h1 rx;obtain ⟨bs,rb⟩:=Den.readsS I.hok rp (SeqAt.canLay_of_shaped p2) h2 ry;exact SeqAt.compareEq_shaped ra rb p1 p2 hu ⟨.bl (eqD (see st d1) (see st d2)),H,I,rfl,q⟩
theorem zgd{neg:Bool}:OpF X E (zlG (gm X) neg) (zez neg):=fun H Y s d1 d2 v1 v2 Q r h1 h2 h=>by
 unfold zez at h;split at h
 ·rename_i hc;exact ⟨Y,s,d1,d2,r,h1,h2,hc.1,hc.2,h.here r xW⟩
 ·exact h.elim
theorem zjs(hu:X.A.units+64<cLine):∃ r,OpR X (compareOp .Eq) r/\OpF X E r (zez false):=⟨_,zin hu,zgd⟩
end
structure Fly(P:Program)(w:World)(outer:List Env)(H:Hp)(s:Shared)(C ea:Addr)(H':Hp)(s':Shared):Prop where
 os:s'.os=s.os
 bare:AllBare s'.gens
 un:Un (frs outer) [] H H' s.heap s'.heap
 hok:HOk P w H' s'.heap
 fly:∃ B a0,Heap.FlyingW B outer ea (.ref C) a0 s'.heap/\∀ b o,s'.heap.get? b=some o->(H' b≠none\/((∃ o',s.heap.get? b=some o')/\b∉frs outer))->B.get? b=some o
def CX1(P:Program)(w:World):CXT:=fun outer H s E e s'=>∃ C ea H',e=.ref ea/\Fly P w outer H s C ea H' s'/\E (.ref C) none H'
theorem z9Q{env:Env}{l:List Env}{L:Addr}(h:env.frame=some L):frs (env::l)=L::frs l:=by unfold frs;rw [List.filterMap_cons,h]
theorem HOk.cov{P:Program}{w:World}{H:Hp}{h h' B:Heap}(x:HOk P w H h)(c:∀ b o,h.get? b=some o->H b≠none->B.get? b=some o)(k:B.StaysIn h'):HOk P w H h':=fun a o e=> (x a o e).stay (fun b u hb q=>by
  refine k b u (c b u q ?_);rcases hb with rfl | hb;·rw [e];simp
  ·rw [hb];simp) (fun _ q=>q) fun _ _ q=>q
theorem zdh{P:Program}{w:World}{H:Hp}{h:Heap}{a:Addr}{o:HO}(x:wl P w H h a o):∃ ob,h.get? a=some ob:=by cases o with
 | lst xs=>obtain ⟨_,_,_,_,e⟩:=x;exact ⟨_,e⟩ | tup xs=>obtain ⟨_,_,_,ob,e,_⟩:=x;exact ⟨_,e⟩ | dK kvs=>obtain ⟨_,_,_,_,o,_,_,e,_⟩:=x;exact ⟨_,e⟩ | dT kvs=>obtain ⟨_,_,_,_,o,_,_,e,_⟩:=x;exact ⟨_,e⟩ | set S n=>obtain ⟨o,_,_,_,e,_⟩:=x;exact ⟨_,e⟩ | ins C dx fs=>obtain ⟨_,_,_,e,_⟩:=x;exact ⟨_,e⟩ | own y=>exact x | xd fs=>obtain ⟨_,⟨_,_,_,e,_⟩,_⟩:=x;exact ⟨_,e⟩ | rng lo hi=>obtain ⟨_,_,_,e⟩:=x;exact ⟨_,e⟩ | frz ob u=>obtain ⟨e,_⟩:=x;exact ⟨_,e⟩ | tbl ps=>exact ⟨_,(show h.get? a=some _ from x)⟩ | met f y=>exact ⟨_,(show h.get? a=some _ from x)⟩ | ext φ=>obtain ⟨_,e,_⟩:=x;exact e
section
variable {X:Cx}{E:XK}{pins:List (Addr×Obj)}{O:L2.St}{H:Hp}{s:Shared}
theorem Inv.left{outer:List Env}{h' B:Heap}{C ea:Addr}{a0:Value}(I:Inv X pins O H s)(hex:X.ex=[])(ho:X.outer=outer)(fl:Heap.FlyingW B outer ea (.ref C) a0 h')(sm:s.heap.UpToSlots h') (c:∀ b o,s.heap.get? b=some o->(H b≠none\/((∃ o',X.s₀.heap.get? b=some o')/\b∉frs outer))->B.get? b=some o){g:Array GenState}{d:Drawn}{t:Nat}(hg:AllBare g): Fly X.prog X.w outer X.H₀ X.s₀ C ea H ⟨h',g,d,t,s.os⟩:=by
 subst ho;have k:=fl.1;refine ⟨I.os,hg,⟨fun b o e n nf ne=>?_,fun b o e n hf ne=>?_,fun b o e n ne=>?_,fun b o e ne=>?_,I.base.tups,I.base.frzs,I.base.tbls⟩,HOk.cov I.hok (fun b o e n=>c b o e (.inl n)) k,B,a0,fl,fun b o e q=>?_⟩
 ·have e1:=I.base.keep b o e n nf (by rw [hex];exact ne);exact k b o (c b o e1 (.inr ⟨⟨o,e⟩,nf⟩))
 ·obtain ⟨sl,e1⟩:=I.base.slot b o e n hf (by rw [hex];exact ne);obtain ⟨_,o2,e2,hnf⟩:=I.funs.mem hf;rw [e1] at e2;cases e2;obtain ⟨sl2,e3⟩:=sm b _ e1 hnf;exact ⟨sl2,e3⟩
 ·exact I.base.free b o e n (by rw [hex];exact ne)
 ·by_cases hf:b∈frs X.outer
  ·obtain ⟨_,o2,e2,hnf⟩:=I.funs.mem hf;obtain ⟨sl2,e3⟩:=sm b _ e2 hnf;exact ⟨_,e3⟩
  ·obtain ⟨o1,e1⟩:=I.base.there b o e (by rw [hex];exact ne);exact ⟨o1,k b o1 (c b o1 e1 (.inr ⟨⟨o,e⟩,hf⟩))⟩
 ·have zjL:∀ o1,s.heap.get? b=some o1->B.get? b=some o:=fun o1 e1=>by
   have e2:=c b o1 e1 (q.imp id fun z=>z);have e3:h'.get? b=some o1:=k b o1 e2;have:h'.get? b=some o:=e;rw [e3] at this;cases this;exact e2
  rcases q with q | ⟨⟨o',e'⟩,nf⟩;·cases z:H b with
   | none=>exact absurd z q | some u=>
    obtain ⟨o1,e1⟩:∃ o1,s.heap.get? b=some o1:=by exact zdh (I.hok b u z)
    exact zjL o1 e1
  ·obtain ⟨o1,e1⟩:=I.base.there b o' e' (by rw [hex];simp);exact zjL o1 e1
end
section
variable {P:Program}{w:World}{K:W.Frag}{mg:Str->Option Value}{base:Heap}{N:List Str}{qual:Str}{scope:Scope}{f:Addr}{cd:Value}{A:Around}{outer:List Env}{s:Shared}{H:Hp}{E:XK}
theorem uJ:(envOfC qual scope s.heap.objs.size f cd).frame=some s.heap.objs.size:=rfl
theorem z8s:Passes (CX1 P w) (z3l (CX1 P w) P w K mg base N qual scope f cd A outer s H E) E:=by
 intro pins O H1 s1 e s' I h;obtain ⟨C,ea,H',he,fl,hE⟩:=h;subst he;obtain ⟨h2,g2,d2,t2,os2⟩:=s';have eos:os2=s1.os:=fl.os;subst eos;have I':=I.call (h':=h2) (g':=g2) (d':=d2) (t':=t2) (ch:=[]) fl.un fl.hok fl.bare (fun b z=>absurd z (by simp));obtain ⟨B,a0,fw,cov⟩:=fl.fly;refine wpAny_leaves_onW (base:=B) (outer:=outer) I.ok.frames uJ fw fun h' fw' sm=>?_;refine ⟨C,ea,H',rfl,Inv.left I' rfl rfl fw' sm (fun b o e q=>cov b o e (q.imp id fun z=>?_)) I'.bare,hE⟩;obtain ⟨⟨o',e'⟩,nf⟩:=z;obtain ⟨o1,e1⟩:=I.base.there b o' e' (by show b∉([]:List Addr);simp);refine ⟨⟨o1,e1⟩,fun z=>?_⟩;rw [show (z3l (CX1 P w) P w K mg base N qual scope f cd A outer s H E).stack=envOfC qual scope s.heap.objs.size f cd::outer from rfl,z9Q uJ] at z;rcases List.mem_cons.mp z with z | z
 ·have:=Heap.lt_size e';rw [z] at this;exact absurd this (Nat.lt_irrefl _)
 ·exact nf z
theorem ziV {pins:List (Addr×Obj)} {O:L2.St} {H1:Hp} {s1:Shared} {h':Heap} {e C:Addr} {args:List Value} (I:Inv (z3l (CX1 P w) P w K mg base N qual scope f cd A outer s H E) pins O H1 s1) (hx:Heap.MadeExcOf s1.heap h' e (.ref C) args) (hE:E (.ref C) none H1): (z3l (CX1 P w) P w K mg base N qual scope f cd A outer s H E).xe (.ref e) {s1 with heap:=h'}:=by
 have hin:∀ env∈(envOfC qual scope s.heap.objs.size f cd::outer),∀ b,env.frame=some b->b∈frs (envOfC qual scope s.heap.objs.size f cd::outer):=fun env he b hb=>List.mem_filterMap.mpr ⟨env,he,hb⟩;refine wpAny_leaves_madeW (base:=W.hideAll s1.heap (frs (envOfC qual scope s.heap.objs.size f cd::outer))) (h:=s1.heap) (outer:=outer) I.ok.frames uJ (fun b o q=>W.of_hideAll _ q) (W.funFrames_hide I.stack hin) hx fun h'' t fw tup bt sm=>?_;refine ⟨C,e,H1,rfl,Inv.left I rfl rfl fw ((Heap.UpToSlots.of_keeps hx.keeps).trans sm) (fun b o eb q=>W.hideAll_get _ eb fun z=>?_) I.bare,hE⟩;rcases q with q | ⟨⟨o',e'⟩,nf⟩;·exact q (I.stkFree b z)
 ·rw [z9Q uJ] at z;rcases List.mem_cons.mp z with z | z
  ·have:=Heap.lt_size e';rw [show (z3l (CX1 P w) P w K mg base N qual scope f cd A outer s H E).s₀=s from rfl] at this;rw [z] at this;exact absurd this (Nat.lt_irrefl _)
  ·exact nf z
end
def zcj (X:Cx) (E:XK):Prop:=∀ (pins:List (Addr×Obj)) (O:L2.St) (H1:Hp) (s1:Shared) (h':Heap) (e C:Addr) (args:List Value),Inv X pins O H1 s1->Heap.MadeExcOf s1.heap h' e (.ref C) args->E (.ref C) none H1->X.xe (.ref e) {s1 with heap:=h'}
def zhA(K:W.Frag)(mg:Str->Option Value)(x:Str):Prop:=∃ C,mg x=some (.ref C)/\W.excIn K C bmV "ValueError.__new__"=true
theorem zcV{K:W.Frag}{h₀:Heap}{C:Addr}{bmB:List Value}{newId:String}(X:K.In h₀)(q:W.excIn K C bmB newId=true): ∃ bm N nm q bs hdct sn sub ab col dd k0 k1 k2 k3 k5 mN,h₀.get? C=some (excClassObj nm q C N bs bm hdct sn sub ab col dd k0 k1 k2 k3 k5 newId)/\h₀.Ns N mN/\mN "__init__"=none/\OwnTail h₀ bmB bm:=by
 unfold W.excIn at q;split at q
 ·rename_i dd cd sl ho;split at q
  ·rename_i C' bm k0 k1 k2 k3 n k5 hm hs;simp only [Bool.and_eq_true,beq_iff_eq,Bool.not_eq_true'] at q;obtain ⟨⟨⟨⟨⟨rfl,rfl⟩,hdel⟩,ht⟩,hok⟩,hni⟩:=q;obtain ⟨nm,bs,mro,ns,qn,hd,sn,sub,ab,col,del⟩:=cd;dsimp only at hm hdel hok hni;subst hm hdel;have hsl:sl=#[k0,k1,k2,k3,some (.builtin n),k5]:=by
    obtain ⟨l⟩:=sl;simp only at hs;rw [hs]
   subst hsl;exact ⟨bm,ns,nm,qn,bs,hd,sn,sub,ab,col,dd,k0,k1,k2,k3,k5,_,X _ _ ho,.of_isNs (W.isNs_of_in X hok),W.nsMap_none_of_in X hok hni,W.tail_of_in X ht⟩
  ·cases q
 ·cases q
section
variable {X:Cx}{E:XK}{pos:Pos}
def z9E(c:Str):FS:=fun _ s=>.ex c s
theorem zcP {x:Str} {np cpos p:Pos} {m:Str} {j:Nat} (hk:zhA X.K X.mg x) (hro:zcj X E) (hc:X.calm=true) (hg:Gl X x) (hd:(x==("__debug__":Str))=false:=by decide): RS X E (.Raise (some (.Call (.Name x np) [.Constant (.str m) j p] [] cpos)) none pos) (z9E x):=by
 intro pins s O H D I h;obtain ⟨Y,Z,st,r,en,h⟩:=h;obtain ⟨C,hm,hq⟩:=hk;have hE:E (.ref C) none H:=h H Y C (vf.refl r) hm;obtain ⟨tl,Nn,nm,q,bs,hdct,sn,sub,ab,col,dd,k0,k1,k2,k3,k5,mN,hC,hN,hni,T⟩:=zcV I.mod.kin hq;refine wpAny_Raise_call_subT (C:=C) (nm:=nm) (q:=q) (N:=Nn) (bs:=bs) (bm:=tl) (hdct:=hdct) (sn:=sn) (sub:=sub) (ab:=ab) (col:=col) (dd:=dd) (k0:=k0) (k1:=k1) (k2:=k2) (k3:=k3) (k5:=k5) PySem.F.excBase_ValueError (mN:=mN) (T.hasType PySem.F.excBase_ValueError.hasBase) (I.ok.hd hc) rfl hni (z1c I hg hm ⟨rfl,?_⟩ hd);refine Calls.evalArgs_plain (thn (wj (X:=X) (zeT (X:=X)) (jL (X:=X)) rfl cpos pins s O H (fun vs H1=>vs=[.str m]/\H1=H) I ⟨rfl,rfl⟩) fun us s2 h2=>?_);obtain ⟨vs,H1,I1,r1,e1,e2⟩:=h2;subst e1 e2;obtain ⟨u,rfl,ru⟩:=r1.one;exact ⟨rfl,by show (1:Nat)<=sizeLine;decide,I1.bk _ _ hC,hN.keeps I1.bk,T.keeps I1.bk,fun h' e mk=>hro pins O _ s2 h' e C [u] I1 mk hE⟩
end
def z2Q(N:List Str)(n:Nat)(fs:FS):Mir:=fun ds s=>if ds.length=n then (match fs (zr N ds) s with
 | .ok (.rt d) s'=>.ok d s' | .ok (.nx _) s'=>.ok .non s' | .ex c s'=>.ex c s' | _=>.no) else .no
section
variable {P:Program}{w:World}{K:W.Frag}{mg:Str->Option Value}{base:Heap}
theorem zhw{X:Cx}{E:XK}:Passes CX0 X E:=fun _ _ _ _ _ _ _ h=>h.elim
theorem jZ{x qual:Str}{st:Stmt}{f:Addr}{fd:FuncData}{N ps:List Str}{k n:Nat}{fs:FS}(F:Fun K x qual st f fd)(hm:mg x=some (.ref f))(hb:Binds K fd ps [])(S:zv N ps (zg st))(hn:ps.length=n) (body:∀ (cdv:Value)(A:Around)(outer:List Env)(s:Shared)(H:Hp)(E:XK),z14 k (A.deeper (envOfC qual (zg st) s.heap.objs.size f cdv))->(z3l (CX1 P w) P w K mg base N qual (zg st) f cdv A outer s H E).calm=true-> RSs (z3l (CX1 P w) P w K mg base N qual (zg st) f cdv A outer s H E) E (vG st) fs):Has P w K mg base (CX1 P w) x (k+1) (z2Q N n fs):=by
 subst hn;obtain ⟨oc,od,kV,doc,pm,an,cdv,ct,osl,rfl,lk,hcd⟩:=F.ex;refine ⟨f,_,ps,zhP lk hcd S (fun vs H Q E h=>?_) (fun A outer s H vs Q E hr h=>?_),hb,F.kp,hm⟩
 ·obtain ⟨Y,s,ds,_,dn,h⟩:=h;unfold z2Q at h;split at h;·rename_i e;rw [dn.length];exact e
  ·exact h.elim
 ·obtain ⟨Y,st0,ds,r,dn,h⟩:=h;refine ⟨_,body cdv A outer s H E hr (by show A.handled.isNone=true;rw [show A.handled=none from hr.hd];rfl),Y,zr N ds,st0,r,kL dn,?_⟩;unfold z2Q at h;split at h
  ·split at h
   ·rename_i d s' e;rw [e];intro fv H' Y' stp fd;cases fv with
    | rt v=>exact h v H' Y' stp fd | _=>exact (show False from fd).elim
   ·rename_i Z s' e;rw [e];intro fv H' Y' stp fd;cases fv with
    | nx v=>exact h .non H' Y' stp (by simp [Den]) | _=>exact (show False from fd).elim
   ·rename_i c s' e;rw [e];exact h
   ·exact h.elim
  ·exact h.elim
def zms(M:Mir):Mir:=fun ds s=>match M ds s with | .ex _ _=>.no | r=>r
end
def z2U(f:FS):FS:=fun Z s=>match f Z s with | .ex _ _=>.no | r=>r
theorem z5a{X:Cx}{E:XK}{st:Stmt}{f:FS}(h:RS X.nox E0 st f):RS X E st (z2U f):=fun pins s O H D I hw=>by
 obtain ⟨Y,Z,st0,r,en,q⟩:=hw;have q':okR (gm X) E0 H Y (FlD (gm X)) (f Z st0) (z4Q D):=by
  unfold z2U at q;cases e:f Z st0 with
  | ok d s'=>rw [e] at q;exact q | ex c s'=>rw [e] at q;exact q.elim | no=>rw [e] at q;exact q.elim
 exact wpAny_mono (h pins s O H D (I.wish _) ⟨Y,Z,st0,r,en,q'⟩) (fun _ _ q=>q.unwish) fun _ _ z=>False.elim z
@[simp] theorem zg5 (f:FS)(Z:Ev)(s:Sto):z2U f Z s=(match f Z s with | .ex _ _=>.no | r=>r):=id rfl
@[simp] theorem zm3 (M:Mir)(ds:List D)(s:Sto):zms M ds s=(match M ds s with | .ex _ _=>.no | r=>r):=id rfl
@[simp] theorem zjN (c:Str)(Z:Ev)(s:Sto):z9E c Z s=.ex c s:=id rfl
theorem z9s{P:Program}{w:World}{K:W.Frag}{mg:Str->Option Value}{base:Heap}{N:List Str}{qual:Str}{scope:Scope}{f:Addr}{cd:Value}{A:Around}{outer:List Env}{s:Shared}{H:Hp}{E:XK}: zcj (z3l (CX1 P w) P w K mg base N qual scope f cd A outer s H E) E:=fun _ _ _ _ _ _ _ _ I hx hE=>ziV I hx hE
end Dd
namespace PySem
open PySem.Sem (wp)
section
variable {M:Model}{A:Around}{E:Value->Shared->Prop}
theorem jm{h:Heap}{g:Array GenState}{d:Drawn}{t:Nat}{os:OsState}{e C D:Addr}{oe:Obj}{Q:Bool->Shared->Prop} {nm q:Str}{N:Addr}{bs bm:List Value}{hdct:Bool}{sn:List Str}{sub:List Value}{ab:Bool}{col:Option Bool}{dd:Option Addr}{k0 k1 k2 k3 k5:Option Value}{newId:String} {nm' q':Str}{N':Addr}{bs' bm':List Value}{hdct':Bool}{sn':List Str}{sub':List Value}{ab':Bool}{col':Option Bool}{dd':Option Addr}{k0' k1' k2' k3' k5':Option Value}{newId':String} (hC:h.get? C=some (excClassObj nm q C N bs bm hdct sn sub ab col dd k0 k1 k2 k3 k5 newId))(hD:h.get? D=some (excClassObj nm' q' D N' bs' bm' hdct' sn' sub' ab' col' dd' k0' k1' k2' k3' k5' newId')) (he:h.get? e=some oe)(hcls:oe.cls=.ref C)(hbase:bm'.contains (.type "BaseException")=true)(hsub:(Value.ref C::bm).contains (.ref D)=true) (hq:Q true ⟨h,g,d,t,os⟩):wpAny M A (excMatches (.ref e) (.ref D)) Q E ⟨h,g,d,t,os⟩:=by
 have hcB:(Value.ref D::bm').contains (.type "BaseException")=true:=by rw [List.contains_cons,hbase,Bool.or_true]
 have f:=tc_notTuple;unfold excMatches;repeat (first | (with_reducible refine wpAny_loadPart_at he ?_;rw [hcls]) | with_reducible refine wpAny_loadPart_at hD ?_ | with_reducible refine wpAny_loadPart_at hC ?_ | (with_reducible refine wpAny_isSubtype_exc hD ?_;rw [hcB]) | (with_reducible refine wpAny_isSubtype_exc hC ?_;rw [hsub]) | wp_step)
 exact hq
end
end PySem
namespace Dd
open PySem.Spec L2
theorem _root_.L2.Inv.locals{X:Cx}{pins:List (Addr×Obj)}{O:L2.St}{H:Hp}{s:Shared}{h':Heap}{m':Str->Option Value}{t:Nat}(I:L2.Inv X pins O H s)(hn:h'.Ns X.env.locals m')(sb:Heap.SameBut X.env.locals s.heap h'): L2.Inv X pins (List.replicate X.N.length none) H {s with heap:=h',toks:=t}:=by
 have k:∀ b o,b≠X.env.locals->s.heap.get? b=some o->h'.get? b=some o:=fun b o n e=>sb.extBut _ _ n e;have neL:∀ b o,X.s₀.heap.get? b=some o->b≠X.env.locals:=fun b o e=>Nat.ne_of_lt (Nat.lt_of_lt_of_le (Heap.lt_size e) I.ok.above);refine ⟨I.ok,I.os,I.bare,⟨fun b o e n nf ne=>k b o (neL b o e) (I.base.keep b o e n nf ne),fun b o e n hf ne=>?_,I.base.free,fun b o e ne=>?_,I.base.tups,I.base.frzs,I.base.tbls⟩,⟨m',hn,fun i x v h1 h2=>?_⟩,fun x c e=>?_,I.free,I.freeC,fun p hp=>?_,fun a o e=>?_,by simp⟩
 ·obtain ⟨sl,e1⟩:=I.base.slot b o e n hf ne;exact ⟨sl,k b _ (neL b o e) e1⟩
 ·obtain ⟨o1,e1⟩:=I.base.there b o e ne;exact ⟨o1,k b _ (neL b o e) e1⟩
 ·rw [List.getElem?_replicate] at h2;split at h2<;>cases h2
 ·obtain ⟨v,o,ho,hd⟩:=I.cell x c e;exact ⟨v,o,k c o (I.cne x c e) ho,hd⟩
 ·obtain ⟨q1,q2,q3,q4⟩:=I.pin p hp;exact ⟨k p.1 p.2 q3 q1,q2,q3,q4⟩
 ·refine (I.hok a o e).stay (fun b u hb q=>k b u (fun z=>?_) q) (fun _ q=>q) fun _ _ q=>q;have:=I.free;rw [<- z] at this;rcases hb with rfl | hb;·rw [e] at this;cases this
  ·rw [hb] at this;cases this
abbrev Cx.at_(X:Cx)(pn:List (Addr×Obj))(xe:Value->Shared->Prop):Cx:={X with pn:=pn,xe:=xe}
abbrev Cx.mk_(X:Cx)(e:Addr)(pn:List (Addr×Obj)):Cx:={X with A:=X.A.mark (some (.ref e)),calm:=false,pn:=pn,xe:=fun _ _=>False}
theorem Cx.ok_at{X:Cx}(ok:X.Ok){pn:List (Addr×Obj)}{xe:Value->Shared->Prop}:(Cx.at_ X pn xe).Ok:= ⟨ok.mod,ok.kind,ok.glob,ok.blt,ok.above,ok.inj,ok.has,ok.cab,ok.hd,ok.frames,ok.stk,ok.exf,ok.bs,ok.bsz,ok.noex,ok.exfs,ok.funs,ok.frf⟩
theorem Cx.ok_of{X:Cx}{pn:List (Addr×Obj)}{xe:Value->Shared->Prop}(ok:(Cx.at_ X pn xe).Ok):X.Ok:= ⟨ok.mod,ok.kind,ok.glob,ok.blt,ok.above,ok.inj,ok.has,ok.cab,ok.hd,ok.frames,ok.stk,ok.exf,ok.bs,ok.bsz,ok.noex,ok.exfs,ok.funs,ok.frf⟩
theorem Cx.ok_mk{X:Cx}(ok:X.Ok){e:Addr}{pn:List (Addr×Obj)}:(Cx.mk_ X e pn).Ok:= ⟨ok.mod,ok.kind,ok.glob,ok.blt,ok.above,ok.inj,ok.has,ok.cab,(fun h=>by cases h),ok.frames,ok.stk,ok.exf,ok.bs,ok.bsz,ok.noex,ok.exfs,ok.funs,ok.frf⟩
section
variable {X:Cx}{pins:List (Addr×Obj)}{O:L2.St}{H:Hp}{s:Shared}
theorem _root_.L2.Inv.at_(I:L2.Inv X pins O H s){xe:Value->Shared->Prop}:L2.Inv (Cx.at_ X (X.pn++pins) xe) [] O H s:= ⟨Cx.ok_at I.ok,I.os,I.bare,I.base,I.loc,I.cell,I.free,I.freeC,fun p hp=>I.pin p (by simpa using hp),I.hok,I.len⟩
theorem _root_.L2.Inv.of_at{xe:Value->Shared->Prop}{pins':List (Addr×Obj)}(I:L2.Inv (Cx.at_ X (X.pn++pins) xe) pins' O H s):L2.Inv X pins O H s:= ⟨Cx.ok_of I.ok,I.os,I.bare,I.base,I.loc,I.cell,I.free,I.freeC,fun p hp=>I.pin p (List.mem_append_left _ hp),I.hok,I.len⟩
theorem _root_.L2.Inv.mk_(I:L2.Inv X pins O H s){e:Addr}:L2.Inv (Cx.mk_ X e (X.pn++pins)) [] O H s:= ⟨Cx.ok_mk I.ok,I.os,I.bare,I.base,I.loc,I.cell,I.free,I.freeC,fun p hp=>I.pin p (by simpa using hp),I.hok,I.len⟩
theorem _root_.L2.Inv.of_mk{e:Addr}{pins':List (Addr×Obj)}(ok:X.Ok)(I:L2.Inv (Cx.mk_ X e (X.pn++pins)) pins' O H s):L2.Inv X pins O H s:= ⟨ok,I.os,I.bare,I.base,I.loc,I.cell,I.free,I.freeC,fun p hp=>I.pin p (List.mem_append_left _ hp),I.hok,I.len⟩
theorem Fly.land{P:Program}{w:World}{outer:List Env}{H H':Hp}{s s':Shared}{C ea:Addr}{h5 B:Heap}{a0:Value}(un:Un (frs outer) [] H H' s.heap s'.heap)(hok:HOk P w H' s'.heap)(fw:Heap.FlyingW B outer ea (.ref C) a0 s'.heap) (cov:∀ b o,s'.heap.get? b=some o->(H' b≠none\/((∃ o',s.heap.get? b=some o')/\b∉frs outer))->B.get? b=some o)(fw5:Heap.FlyingW B outer ea (.ref C) a0 h5)(sm:s'.heap.UpToSlots h5): s.heap.get? ea=none/\H' ea=none/\Un (frs outer) [] H (upd H' ea (excO C ea)) s.heap h5/\HOk P w (upd H' ea (excO C ea)) h5/\∃ oe,h5.get? ea=some oe/\oe.cls=.ref C:=by
 have k:=fw5.1;obtain ⟨oe,vs,T,oT,ts,he,⟨hcls,_⟩,hd,_⟩:=fw5.2.2.2;obtain ⟨oe',vs',_,_,_,he',_,hd',_⟩:=fw.2.2.2;have new:s.heap.get? ea=none:=by cases z:s.heap.get? ea with
  | none=>rfl | some o=>
   exfalso;obtain ⟨o1,e1⟩:=un.there ea o z (by simp);by_cases hf:ea∈frs outer
   ·obtain ⟨_,o2,e2,hnf⟩:=fw.2.2.1.mem hf;rw [he'] at e2;cases e2;exact hnf _ hd'
   ·have:=cov ea o1 e1 (.inr ⟨⟨o,z⟩,hf⟩);rw [fw.2.1] at this;cases this
 have hn:H' ea=none:=by cases z:H' ea with
  | none=>rfl | some u=>
   exfalso;have:=cov ea _ he' (.inl (by rw [z];simp));rw [fw.2.1] at this;cases this
 have ne:∀ b o,s.heap.get? b=some o->b≠ea:=fun b o e z=>by rw [z,new] at e;cases e
 have neH:∀ b u,H' b=some u->b≠ea:=fun b u e z=>by rw [z,hn] at e;cases e
 refine ⟨new,hn,⟨fun b o e n nf _=>?_,fun b o e n hf _=>?_,fun b o e n _=>?_,fun b o e _=>?_,fun b xs e=>?_,fun b o u e=>?_,fun b ps e=>?_⟩,fun a o e=>?_,oe,he,hcls⟩
 ·have e1:=un.keep b o e n nf (by simp);exact k b o (cov b o e1 (.inr ⟨⟨o,e⟩,nf⟩))
 ·obtain ⟨sl,e1⟩:=un.slot b o e n hf (by simp);obtain ⟨_,o2,e2,hnf⟩:=fw.2.2.1.mem hf;rw [e1] at e2;cases e2;obtain ⟨sl2,e3⟩:=sm b _ e1 hnf;exact ⟨sl2,e3⟩
 ·rw [zS (ne b o e)];exact un.free b o e n (by simp)
 ·by_cases hf:b∈frs outer
  ·obtain ⟨_,o2,e2,hnf⟩:=fw.2.2.1.mem hf;obtain ⟨sl2,e3⟩:=sm b _ e2 hnf;exact ⟨_,e3⟩
  ·obtain ⟨o1,e1⟩:=un.there b o e (by simp);exact ⟨o1,k b o1 (cov b o1 e1 (.inr ⟨⟨o,e⟩,hf⟩))⟩
 ·have q:=un.tups b xs e;rw [zS (neH b _ q)];exact q
 ·have q:=un.frzs b o u e;rw [zS (neH b _ q)];exact q
 ·obtain ⟨more,q⟩:=un.tbls b ps e;exact ⟨more,by rw [zS (neH b _ q)];exact q⟩
 ·by_cases z:a=ea
  ·subst z;rw [yV] at e;cases e;exact ⟨⟨oe,vs,he,hcls,hd⟩,⟨oe,he⟩,fun h1 h2 ⟨o,ws,q1,q2,q3⟩ st=>⟨o,ws,st o q1,q2,q3⟩⟩
  ·rw [zS z] at e;refine (HOk.cov hok (fun b o e n=>cov b o e (.inl n)) k a o e).stay (fun b u _ q=>q) (fun b q=>?_) fun b xs q=>?_;·rw [zS (neH b _ q)];exact q
   ·rw [zS (neH b _ q)];exact q
end
def zjT(K:W.Frag)(mg:Str->Option Value)(x y:Str):Prop:=∃ C D,mg x=some (.ref C)/\mg y=some (.ref D)/\W.excIn K C bmV "ValueError.__new__"=true/\W.excIn K D bmV "ValueError.__new__"=true/\ ∀ h₀:Heap,K.In h₀->∃ bm N nm q bs hdct sn sub ab col dd k0 k1 k2 k3 k5,h₀.get? C=some (excClassObj nm q C N bs bm hdct sn sub ab col dd k0 k1 k2 k3 k5 "ValueError.__new__")/\(Value.ref C::bm).contains (.ref D)=true
section
variable {prog:Program}{w:World}{A:Around}{E:Value->Shared->Prop}{s:Shared}{env:Env}
theorem z3n {e C D:Addr} {t:Expr} {n:Str} {b₀:Stmt} {suite:List Stmt} {pos:Pos} {qo:List ExceptHandler} {Q:Flow->Shared->Prop} (h:wpAny (model prog w) (A.mark (some (.ref e))) (eval t env) (fun c s₁=>c=.ref D/\ (∃ bm N nm q bs hdct sn sub ab col dd k0 k1 k2 k3 k5 newId,s₁.heap.get? C=some (excClassObj nm q C N bs bm hdct sn sub ab col dd k0 k1 k2 k3 k5 newId)/\(Value.ref C::bm).contains (.ref D)=true)/\ (∃ bm N nm q bs hdct sn sub ab col dd k0 k1 k2 k3 k5 newId,s₁.heap.get? D=some (excClassObj nm q D N bs bm hdct sn sub ab col dd k0 k1 k2 k3 k5 newId)/\bm.contains (.type "BaseException")=true)/\(∃ oe,s₁.heap.get? e=some oe/\oe.cls=.ref C)/\ wpAny (model prog w) (A.mark (some (.ref e))) (setFlight (.ref e) none) (fun _ s₂=> wpAny (model prog w) (A.mark (some (.ref e))) (storeName env n (.ref e)) (fun _ s₃=> wpAny (model prog w) (A.mark (some (.ref e))) (execs (b₀::suite) env) (fun f s₄=>wpAny (model prog w) A (do bindName env n .none;unbindBehindTheSuite env n pos) (fun _ s₅=>Q f s₅) E s₄) (AsSuiteRaised (model prog w) (A.mark (some (.ref e))) env n pos (notedBy (model prog w) (A.mark (some (.ref e))) env (cameBackBy (model prog w) A env E))) s₃) (notedBy (model prog w) (A.mark (some (.ref e))) env (cameBackBy (model prog w) A env E)) s₂) (notedBy (model prog w) (A.mark (some (.ref e))) env (cameBackBy (model prog w) A env E)) s₁) (notedBy (model prog w) (A.mark (some (.ref e))) env (cameBackBy (model prog w) A env E)) s): wpAny (model prog w) A (handleBy (.ref e) env (.ExceptHandler (some t) (some n) (b₀::suite) pos::qo)) Q E s:=by
 refine wpAny_handleBy_cons (codeAny_handlers_test (wpAny_mono h (fun c s₁ h₁=>?_) fun _ _ y=>y)) (by intro q;cases q);obtain ⟨rfl,⟨bm,N,nm,q,bs,hdct,sn,sub,ab,col,dd,k0,k1,k2,k3,k5,newId,hC,hsub⟩,⟨bm',N',nm',q',bs',hdct',sn',sub',ab',col',dd',k0',k1',k2',k3',k5',newId',hD,hbase⟩,⟨oe,he,hcls⟩,hk⟩:=h₁;obtain ⟨hh,g,d,tk,os⟩:=s₁;exact jm hC hD he hcls hbase hsub (codeAny_handlers_suite_as hk)
end
def zhK(cs:List Str)(fb:FS)(j:Nat)(fh:FS):FS:=fun Z s=>match fb Z s with
 | .ex c s1=>if c∈cs then (match fh ((List.replicate Z.length none).set j (some (.exc c))) s1 with
  | .ok (.rt d) s2=>.ok (.rt d) s2 | _=>.no) else .no | .ok (.rt d) s1=>.ok (.rt d) s1 | _=>.no
section
variable {X:Cx}{E:XK}{pos hpos np:Pos}
theorem zkN {cs:List Str} {y n:Str} {body:List Stmt} {b₀:Stmt} {suite:List Stmt} {j:Nat} {fb fh:FS} (hst:X.stack=X.env::X.outer) (hfr:X.env.frame=some X.env.locals) (hex:X.ex=[]) (hcs:∀ c∈cs,zjT X.K X.mg c y) (hg:Gl X y) (hN:X.N.Nodup) (hj:X.N[j]? = some n) (hloc:X.env.scope.names.lookup n=some .local) (hb:∀ (pn:List (Addr×Obj)) (xe:Value->Shared->Prop) (E1:XK),Passes (CX1 X.prog X.w) (Cx.at_ X pn xe) E1->RSs (Cx.at_ X pn xe) E1 body fb) (hh:∀ (e:Addr) (pn:List (Addr×Obj)),RSs (Cx.mk_ X e pn) E0 (b₀::suite) fh) (hdb:(y==("__debug__":Str))=false:=by decide): RS X E (.Try body [.ExceptHandler (some (.Name y np)) (some n) (b₀::suite) hpos] [] [] pos) (zhK cs fb j fh):=by
 intro pins s O H D I hw;obtain ⟨Y,Z,st0,r,en,h⟩:=hw;have hlen:Z.length=X.N.length:=by rw [en.len,I.len]
 refine wpAny_Try_except ?_;generalize hEb:(fun (e:Value) (s₁:Shared)=>wpAny (model X.prog X.w) X.A (noteFrame e X.env) (fun _ s₂=>wpAny (model X.prog X.w) X.A (setFlight e none) (fun _ s₃=>wpAny (model X.prog X.w) X.A (handleBy e X.env [.ExceptHandler (some (.Name y np)) (some n) (b₀::suite) hpos]) (SP X pins D) X.xe s₃) X.xe s₂) X.xe s₁)=Eb;let E1:XK:=fun v _ H'=>∃ c Y' st' C d s2,v=.ref C/\c∈cs/\X.mg c=some (.ref C)/\vf (gm X) H Y H' Y' st'/\fh ((List.replicate Z.length none).set j (some (.exc c))) st'=.ok (.rt d) s2/\okR (gm X) E H Y (FlD (gm X)) (.ok (.rt d) s2) (z4Q D);have pass:Passes (CX1 X.prog X.w) (Cx.at_ X (X.pn++pins) Eb) E1:=by
  intro pins' O' H1 s1 e s' I1 hcx;obtain ⟨C,ea,H',he,fl,hE⟩:=hcx;subst he;obtain ⟨c,Y',st',C',d,s2,eC,hcm,hmc,stp,efh,ok⟩:=hE;cases eC;have J1:=I1.of_at;obtain ⟨B,a0,fw,cov⟩:=fl.fly;have fw:Heap.FlyingW B (X.env::X.outer) ea (.ref C) a0 s'.heap:=by rw [<- hst];exact fw
  have un:Un (frs (X.env::X.outer)) [] H1 H' s1.heap s'.heap:=by rw [<- hst];exact fl.un
  have cov:∀ b o,s'.heap.get? b=some o->(H' b≠none\/((∃ o',s1.heap.get? b=some o')/\b∉frs (X.env::X.outer)))->B.get? b=some o:=by rw [<- hst];exact cov
  have land:∀ h5,Heap.FlyingW B (X.env::X.outer) ea (.ref C) a0 h5->s'.heap.UpToSlots h5->L2.Inv X pins O' (upd H' ea (excO C ea)) {s' with heap:=h5}/\H' ea=none/\∃ oe,h5.get? ea=some oe/\oe.cls=.ref C:=fun h5 fw5 sm=>by
   obtain ⟨_,hn,un5,hok5,oe⟩:=Fly.land un fl.hok fw cov fw5 sm;exact ⟨J1.call' (s':={s' with heap:=h5}) (ch:=[]) fl.os (by rw [hst];exact un5) hok5 fl.bare (fun b z=>absurd z (by simp)),hn,oe⟩
  rw [<- hEb];have hfrm:X.A.frames=some (X.env::X.outer):=by rw [<- hst];exact J1.ok.frames
  show wpAny (model X.prog X.w) X.A (noteFrame (.ref ea) X.env) _ _ s';refine wpAny_looks_onW (base:=B) hfrm hfr fw fun h4 held sm4=>?_;refine wpAny_landsW held fun h5 fw5 sm5=>?_;obtain ⟨I5,hn5,oe5⟩:=land h5 fw5 (sm4.trans sm5);obtain ⟨C2,D2,hm2,hmy,q1,q2,hsub⟩:=hcs c hcm;rw [hmc] at hm2;cases hm2;refine z3n (C:=C) (D:=D2) (z1c (X:=Cx.mk_ X ea (X.pn++pins)) I5.mk_ hg hmy ⟨rfl,?_,?_,oe5,?_⟩ hdb)
  ·obtain ⟨bm,N,nm,q,bs,hdct,sn,sub,ab,col,dd,k0,k1,k2,k3,k5,hC,hs⟩:=hsub _ I5.kIn;exact ⟨bm,N,nm,q,bs,hdct,sn,sub,ab,col,dd,k0,k1,k2,k3,k5,_,hC,hs⟩
  ·obtain ⟨bm,N,nm,q,bs,hdct,sn,sub,ab,col,dd,k0,k1,k2,k3,k5,mN,hC,hNs,hni,T⟩:=zcV I5.kIn q2;exact ⟨bm,N,nm,q,bs,hdct,sn,sub,ab,col,dd,k0,k1,k2,k3,k5,_,hC,T.hasType PySem.F.excBase_ValueError.hasBase⟩
  ·refine lands_againW fw5 fun h6 fw6 sm6=>?_;obtain ⟨I6,hn6,oe6⟩:=land h6 fw6 ((sm4.trans sm5).trans sm6);refine z63 (X:=Cx.mk_ X ea (X.pn++pins)) I6.mk_ hN hj (.inl hloc) (show wm (.ref ea) (.ref ea) from rfl) (fun s7 I7=>?_) (.inr hloc);have stl:vf (gm X) H' Y' (upd H' ea (excO C ea)) Y' st':=vf.lay stp.rep hn6 (by intro vs z;cases z);have stl2:=stp.trans stl;have enh:qm (gm X) (upd H' ea (excO C ea)) Y' ((List.replicate Z.length none).set j (some (.exc c))) (O'.set j (some (.ref ea))):=by
    refine ⟨by rw [List.length_set,List.length_replicate,List.length_set,hlen];exact J1.len.symm,fun i d' hi=>?_⟩;by_cases z:j=i
    ·subst z;have hjl:j<(List.replicate Z.length (none:Option Dd.D)).length:=by
      have:=(List.getElem?_eq_some_iff.mp hi).1;simpa using this
     rw [List.getElem?_set_self hjl] at hi;cases hi;refine ⟨.ref ea,by rw [List.getElem?_set_self (by rw [J1.len,<- hlen];simpa using hjl)],?_⟩;simp only [Den];exact ⟨ea,C,rfl,hmc,yV⟩
    ·rw [List.getElem?_set_ne z,List.getElem?_replicate] at hi;split at hi<;>cases hi
   have run:=hh ea (X.pn++pins) [] s7 (O'.set j (some (.ref ea))) (upd H' ea (excO C ea)) {nx:=fun _ _=>False,rt:=D.rt} I7 ⟨Y',_,st',stl2.rep,enh,by
    rw [efh];intro fv H2 Y2 stp2 fd;cases fv with
    | rt v=>exact ok (.rt v) H2 Y2 (stl2.trans stp2) fd | _=>exact (show False from fd).elim⟩;refine wpAny_mono run (fun fl s8 q8=>?_) fun _ _ z=>z.elim;cases fl with
   | ret u=>
    obtain ⟨v,O8,H8,I8,rv,q8⟩:=q8;have J8:=I8.of_mk J1.ok;obtain ⟨m,hn,_⟩:=J8.loc;refine wpAny_nameGoes (env:=X.env) hloc hn (by rw [J1.ok.kind];rfl) fun h9 m9 hn9 sb9=>?_;exact ⟨v,_,H8,J8.locals hn9 sb9,rv,q8⟩ | next=>obtain ⟨_,_,_,z⟩:=q8;exact z.elim | brk=>obtain ⟨_,_,_,z⟩:=q8;exact z.elim | cont=>obtain ⟨_,_,_,z⟩:=q8;exact z.elim
 have run:=hb (X.pn++pins) Eb E1 pass [] s O H {nx:=fun _ _=>False,rt:=D.rt} I.at_ ⟨Y,Z,st0,r,en,?_⟩
 ·refine wpAny_mono run (fun fl s1 q1=>?_) fun _ _ z=>z;cases fl with
  | ret u=>
   obtain ⟨v,O8,H8,I8,rv,q8⟩:=q1;exact ⟨v,O8,H8,I8.of_at,rv,q8⟩ | next=>obtain ⟨_,_,_,z⟩:=q1;exact z.elim | brk=>obtain ⟨_,_,_,z⟩:=q1;exact z.elim | cont=>obtain ⟨_,_,_,z⟩:=q1;exact z.elim
 ·unfold zhK at h;cases e:fb Z st0 with
  | no=>rw [e] at h;exact h.elim | ok fl s1=>
   rw [e] at h;cases fl with
   | rt d=>
    intro fv H2 Y2 stp2 fd;cases fv with
    | rt v=>exact h (.rt v) H2 Y2 stp2 fd | _=>exact (show False from fd).elim
   | _=>exact h.elim
  | ex c s1=>
   rw [e] at h;intro H' Y' C stp hmc;simp only at h;split at h
   ·rename_i hcm;cases e2:fh ((List.replicate Z.length none).set j (some (.exc c))) s1 with
    | no=>rw [e2] at h;exact h.elim | ex _ _=>rw [e2] at h;exact h.elim | ok fl s2=>
     rw [e2] at h;cases fl with
     | rt d=>exact ⟨c,Y',s1,C,d,s2,rfl,hcm,hmc,stp,e2,h⟩ | _=>exact h.elim
   ·exact h.elim
end
end Dd
namespace PySem
open PySem.Sem (wp)
open PySem.W
structure ExcCls(K:Frag)(C:Addr):Prop where
 ga:findIn K (.ref C) "__getattribute__"=some (some (.builtin "BaseException.__getattribute__"))
 gh:findIn K (.ref C) "__getattr__"=some none
 cl:findIn K (.ref C) "__class__"=some (some (.builtin "object.__class__"))
 ob:mroIn K C (.type "object")=some true
 be:mroIn K C (.type "BaseException")=some true
 ty:∃ d cd sl,K.lookup C=some ⟨.type "type",d,.cls cd,sl⟩
section
variable {prog:Program}{w:World}{A:Around}{E:Value->Shared->Prop}{K:Frag}{h:Heap}{g:Array GenState}{d:Drawn}{t:Nat}{os:OsState}{a C:Addr}{o:Obj}
theorem zhY{M:Model}(hx:h.get? a=some o)(hc:o.cls=.ref C):Looks M h (typeOf (.ref a)) (.ref C):=by
 intro A' Q' E' s' k q;unfold typeOf;refine wpAny_bind (wpAny_loadPart (k _ _ hx) ?_);rw [hc];exact wpAny_pure q
theorem z6e{R:Result->Shared->Prop}(X:K.In h)(Fx:ExcCls K C)(hx:h.get? a=some o)(hc:o.cls=.ref C)(hq:R (.ok (.ret (.ref C))) ⟨h,g,d,t,os⟩): codeAny (model prog w) A (.call (.builtin "getset_descriptor.__get__") ⟨[.builtin "object.__class__",.ref a,.ref C],[]⟩) R ⟨h,g,d,t,os⟩:=by
 have hT5:(⟨h,g,d,t,os⟩:Shared).TypeIs (.builtin "object.__class__") "getset_descriptor":=F.typeOf_object_class;have L1:=looks_mroIn (M:=model prog w) X Fx.ob;rw [<- F.owner_object_class] at L1;refine codeAny_call_builtin F.slot_gs_get.plain F.entry_gs_get (F.slot_gs_get.check _ _ _ _ _ _ _ _ hT5 (F.args_gs_get _ _ _) ?_);repeat (any_goals (first | assumption | (with_reducible refine wpAny_loadPart_at hx ?_;rw [hc]) | (with_reducible refine L1.at ?_) | wp_step))
 refine ⟨Code.quiet_builtin _ (by decide +kernel),codeAny_builtin F.entry_object_class ?_⟩;repeat (any_goals (first | assumption | (with_reducible refine wpAny_loadPart_at hx ?_;rw [hc]) | wp_step))
theorem z3u{tk:Tok}{Q:Fin->Shared->Prop}(X:K.In h)(Fx:ExcCls K C)(hx:h.get? a=some o)(hc:o.cls=.ref C)(hq:Q (.done (.ret (.ref C))) ⟨h,g,d,t,os⟩): wpAny (model prog w) A (Builtin.«object.__getattribute__» ⟨[.ref a,.str "__class__" tk],[]⟩) Q E ⟨h,g,d,t,os⟩:=by
 have hT5:(⟨h,g,d,t,os⟩:Shared).TypeIs (.builtin "object.__class__") "getset_descriptor":=F.typeOf_object_class;have L4:=looks_findIn (M:=model prog w) X Fx.cl;have f5:=F.typeOf_object_class;have f6:=F.slot_gs_get.lookup;have f7:=F.slot_gs_set.lookup;repeat (any_goals (first | assumption | (with_reducible refine wpAny_loadPart_at hx ?_;rw [hc]) | (with_reducible refine L4.at ?_) | wp_step))
 refine z6e X Fx hx hc ?_;repeat (any_goals (first | assumption | wp_step))
theorem z6H{M:Model}{nameV:Value}{Q:Unit->Shared->Prop}(X:K.In h)(Fx:ExcCls K C)(hx:h.get? a=some o)(hc:o.cls=.ref C)(hq:Q () ⟨h,g,d,t,os⟩):wpAny M A (checkBuiltinCall "BaseException.__getattribute__" ⟨[.ref a,nameV],[]⟩) Q E ⟨h,g,d,t,os⟩:=by
 have hk:builtinKind "BaseException.__getattribute__"=some .slot:=by decide +kernel
 have hsplit:splitId "BaseException.__getattribute__"=some ("BaseException","__getattribute__"):=by decide +kernel
 have L1:=looks_mroIn (M:=M) X Fx.be;have ha:=F.args_bexc_ga (.ref a) nameV;simp only [checkBuiltinCall,hk,hsplit];refine wpAny_bind ?_
 ·unfold isInstance;repeat (first | (with_reducible refine wpAny_loadPart_at hx ?_;rw [hc]) | (with_reducible refine L1.at ?_) | wp_step)
  exact hq
theorem z4w{tk:Tok}{R:Result->Shared->Prop}(X:K.In h)(Fx:ExcCls K C)(hx:h.get? a=some o)(hc:o.cls=.ref C)(hq:R (.ok (.ret (.ref C))) ⟨h,g,d,t,os⟩): codeAny (model prog w) A (.call (.builtin "BaseException.__getattribute__") ⟨[.ref a,.str "__class__" tk],[]⟩) R ⟨h,g,d,t,os⟩:= codeAny_call_builtin F.attrBase_ValueError.ga.plain F.entry_bexc_ga (z6H X Fx hx hc (z3u X Fx hx hc hq))
theorem z7f{tk:Tok}{fill expr:Bool}{Q:Value->Shared->Prop}(X:K.In h)(Fx:ExcCls K C)(hx:h.get? a=some o)(hc:o.cls=.ref C)(hq:Q (.ref C) ⟨h,g,d,t,os⟩): wpAny (model prog w) A (getAttrBy (.ref a) (.str "__class__" tk) fill expr) Q E ⟨h,g,d,t,os⟩:=by
 have f3:=F.attrBase_ValueError.ga.bind (.ref a);have hx0:(expr&&onTheHeap (Value.builtin "BaseException.__getattribute__"))=false:=by cases expr<;>rfl
 have hx2:(Value.builtin "BaseException.__getattribute__"==Value.builtin "object.__getattribute__")=false:=by decide +kernel
 have hx1:(onTheHeap (Value.ref C)&&Value.builtin "BaseException.__getattribute__"==Value.builtin "object.__getattribute__")=false:=by rw [hx2];rfl
 have L1:=looks_findIn (M:=model prog w) X Fx.ga;have L2:=looks_findIn (M:=model prog w) X Fx.gh;repeat (any_goals (first | assumption | (with_reducible refine wpAny_loadPart_at hx ?_;rw [hc]) | (with_reducible refine L1.at ?_) | (with_reducible refine L2.at ?_) | wp_step))
 refine z4w X Fx hx hc ?_;repeat (any_goals (first | assumption | wp_step))
theorem z4r{Q:Option Value->Shared->Prop}(X:K.In h)(Fx:ExcCls K C)(hx:h.get? a=some o)(hc:o.cls=.ref C)(hq:Q (some (.ref C)) ⟨h,g,d,t+1,os⟩):wpAny (model prog w) A (getAttr? (.ref a) "__class__") Q E ⟨h,g,d,t,os⟩:=by
 unfold getAttr? getAttrBy?;repeat (any_goals (first | assumption | with_reducible apply z7f X Fx hx hc | (with_reducible refine wpAny_loadPart_at hx ?_;rw [hc]) | wp_step))
end
theorem zet{K:Frag}{a C:Addr}(Fx:ExcCls K C):KitX K (.ref a) (.ref C) (fun h=>∃ o,h.get? a=some o/\o.cls=.ref C) where
 ty:=fun _ _ _ ⟨_,hx,hc⟩=>zhY hx hc;it:=fun _ _ X _=>by
  obtain ⟨dd,cd,sl,ho⟩:=Fx.ty;intro A' Q' E' s' k q;unfold isType loadHead;exact wpAny_bind (wpAny_loadPart (k _ _ (X _ _ ho)) (wpAny_pure q))
 ne:=fun h tp dd its n sl X htp=>by
  obtain ⟨d2,cd,sl2,ho⟩:=Fx.ty;cases e:(Value.ref C==Value.ref tp) with
  | false=>rfl | true=>
   have e:=eq_of_beq e;cases e;have:=X _ _ ho;rw [htp] at this;simp at this
 ca:=fun {prog w A E Q s} X p hq=>by
  obtain ⟨h,g,d,t,os⟩:=s;obtain ⟨o,hx,hc⟩:=p;exact z4r X Fx hx hc hq
end PySem
namespace L2
open PySem.Spec
section
variable {X:Cx}{pins:List (Addr×Obj)}{O:St}{H:Hp}{s:Shared}{A:Around}{E:Value->Shared->Prop}{Q:Value->Shared->Prop}{b:Bool}
theorem zaO {x:V} {u t:Value} {tp:Addr} {cs:List V} (I:Inv X pins O H s) (rx:wm x u) (ty:z8a X.K H x t) (ht:H tp=some (.tup cs)) (e:∀ its,yY cs its->W.kitAny X.K t its=some b) (h:∀ tk,Q (.bool b) {s with toks:=tk}): wpAny (model X.prog X.w) A (call (.builtin "isinstance") [u,.ref tp]) Q E s:=by
 obtain ⟨_,its,vi,o,g1,g2,_,n,g3⟩:=(show wl X.prog X.w H s.heap tp (.tup cs) from I.hok tp _ ht);have e:=e its vi;obtain ⟨oc,od,oD,os⟩:=o;cases g2;cases g3;cases ty with
 | non=>cases (show u=Value.none from rx);exact W.kia_tup W.kitx_none I.kIn True.intro g1 e (fun z=>nomatch z) h | bl y=>cases (show u=Value.bool y from rx);exact W.kia_tup W.kitx_bool I.kIn True.intro g1 e (fun z=>nomatch z) h | int i=>obtain ⟨t,q⟩:=(show ∃ t,u=Value.int i t from rx);cases q;exact W.kia_tup W.kitx_int I.kIn True.intro g1 e (fun z=>nomatch z) h | str y=>obtain ⟨t,q⟩:=(show ∃ t,u=Value.str y t from rx);cases q;exact W.kia_tup W.kitx_str I.kIn True.intro g1 e (fun z=>nomatch z) h | flt y=>obtain ⟨t,q⟩:=(show ∃ t,u=Value.float y t from rx);cases q;exact W.kia_tup W.kitx_float I.kIn True.intro g1 e (fun z=>nomatch z) h | @lst a xs ea=>
  cases (show u=Value.ref a from rx);obtain ⟨_,_,n,_,h1⟩:=(show wl X.prog X.w H s.heap a (.lst xs) from I.hok a _ ea);exact W.kia_tup W.kitx_list I.kIn ⟨_,h1,rfl⟩ g1 e (fun z=>nomatch z) h | @frz a ob xs ea=>
  cases (show u=Value.ref a from rx);obtain ⟨_,_,_,n,_,h1⟩:=(show wl X.prog X.w H s.heap a (.frz ob (.lst xs)) from I.hok a _ ea);exact W.kia_tup W.kitx_list I.kIn ⟨_,h1,rfl⟩ g1 e (fun z=>nomatch z) h | @tup a xs ea=>
  cases (show u=Value.ref a from rx);obtain ⟨_,_,_,p⟩:=(show wl X.prog X.w H s.heap a (.tup xs) from I.hok a _ ea);obtain ⟨o,h1,h2,_⟩:=p;exact W.kia_tup W.kitx_tuple I.kIn ⟨o,h1,h2⟩ g1 e (fun z=>nomatch z) h | @dK a kvs ea=>
  cases (show u=Value.ref a from rx);obtain ⟨_,_,vs,_,p⟩:=(show wl X.prog X.w H s.heap a (.dK kvs) from I.hok a _ ea);obtain ⟨o,es,ep,h1,h2,_⟩:=p;exact W.kia_tup W.kitx_dict I.kIn ⟨o,h1,h2.1⟩ g1 e (fun z=>nomatch z) h | @dT a kvs ea=>
  cases (show u=Value.ref a from rx);obtain ⟨_,_,xs,_,o,es,ep,h1,h2,_⟩:=(show wl X.prog X.w H s.heap a (.dT kvs) from I.hok a _ ea);exact W.kia_tup W.kitx_dict I.kIn ⟨o,h1,h2.1⟩ g1 e (fun z=>nomatch z) h | @ins a C dx fs ea cl ha hn htk hm=>
  cases (show u=Value.ref a from rx);obtain ⟨mA,Oo,_⟩:=zbQ I.hok ea;obtain ⟨od,J,_⟩:=Oo.look;exact W.kia_tup (W.kitx_own (cl.get _) cl.hd ha hn htk hm) I.kIn J g1 e (fun z=>nomatch z) h
end
theorem z6Z{X:Cx}:wu X (.builtin "isinstance") (fun xs H Q=>∃ x t tp T U b,xs=[x,.ref tp]/\H tp=some (.tup [.ty T,.ty U])/\z8a X.K H x t/\W.kitAny X.K t [.type T,.type U]=some b/\Q (.bl b) H):=by
 intro pins s O H xs us Q I r h;obtain ⟨x,t,tp,T,U,b,rfl,htp,ht,hk,q⟩:=h;obtain ⟨u,v,rfl,ru,rv⟩:=vals2 r;cases rv;refine zaO I ru ht htp (fun its vi=>?_) fun tk=>⟨.bl b,H,I.tok _,rfl,q⟩;obtain ⟨u1,u2,rfl,r1,r2⟩:=vals2 vi;cases r1;cases r2;exact hk
end L2
namespace Dd
open PySem.Spec L2
section
variable {X:Cx}{E:XK}{e a b c tg:Expr}{es:List Expr}{pos:Pos}{CX:CXT}
theorem zfU{K:W.Frag}{t T U:String}(h:t∈["NoneType","bool","int","str","tuple","list","dict"])(hT:T∈["int","bool","str","tuple","list"])(hU:U∈["int","bool","str","tuple","list"]):W.kitAny K (.type t) [.type T,.type U]=some (isT T t||isT U t):=by
 simp only [W.kitAny,z8Y h T hT,z8Y h U hU];cases isT T t<;>cases isT U t<;>rfl
def zfo(T U:String):D->Sto->R D:=fun d s=>match tyD d with | some t=>.ok (.bl (isT T t||isT U t)) s | none=>.no
def zdB(T U:String)(f:FE):FE:=fun Z s=>(f Z s).bind fun d s1=>zfo T U d s1
theorem zkW{p p1 p2 pt:Pos}{k:Nat}{T U:String}{tn un:Str}{f:FE}(hT:T∈["int","bool","str","tuple","list"])(hU:U∈["int","bool","str","tuple","list"])(hv:bootBuiltins tn=some (.type T))(hv2:bootBuiltins un=some (.type U))(hg:Gl X "isinstance")(hm:X.mg "isinstance"=none)(hg1:Gl X tn)(hm1:X.mg tn=none)(hg2:Gl X un)(hm2:X.mg un=none)(he:RE X E e f) (hn:tn≠"__name__":=by decide)(hd:(tn==("__debug__":Str))=false:=by decide)(hn2:un≠"__name__":=by decide)(hd2:(un==("__debug__":Str))=false:=by decide) (hs:starEach [e,.Tuple [.Name tn p1,.Name un p2] k pt] X.env=(false,eval e X.env)::starEach [.Tuple [.Name tn p1,.Name un p2] k pt] X.env:=by rfl)(hpl:(backTo pos (starEach [.Tuple [.Name tn p1,.Name un p2] k pt] X.env)).any (·.1)=false:=by rfl): RE X E (.Call (.Name "isinstance" p) [e,.Tuple [.Name tn p1,.Name un p2] k pt] [] pos) (zdB T U f):= zW (z11 z6Z hg hm (by decide +kernel) (wj he (wj (zff (wj (z5E hg1 hm1 hv (show wm (.ty T) (.type T) from rfl) hn hd) (wj (z5E hg2 hm2 hv2 (show wm (.ty U) (.type U) from rfl) hn2 hd2) jL (zq ..)) (zq ..))) jL (z9k ..)) hs) (by decide) (by decide) hs hpl) fun O H Q ⟨Y,Z,s,r,en,h⟩=>by
  refine yz (k:=fun Z d s1=>zfo T U d s1) r en h _ fun v H1 Y1 s1 d r1 en1 dn stp h1=>?_;unfold zfo at h1;split at h1
  ·rename_i t et;refine ⟨(show (2:Nat)<=sizeLine from by decide +kernel),fun tp htp=>?_⟩;have st2:=vf.lay (o:=.tup [.ty T,.ty U]) r1 htp (by intro _ z;cases z);obtain ⟨q1,q2⟩:=zfx st2.rep (dn.mono st2) et;exact ⟨v,.type t,tp,T,U,isT T t||isT U t,rfl,yV,q1,zfU q2 hT hU,h1 _ _ _ st2 xW⟩
  ·exact h1.elim
end
end Dd
namespace L2
open PySem.Spec
open MeetsSeq MeetsSeq2 SeqAt
def ziu(k:Bool):Value->Bool
 | .bool b=>b==k | _=>false
theorem z5H:∀ {bs:List Bool}{its:List Value},yY (bs.map V.bl) its->its=bs.map Value.bool
 | [],_,.nil=>rfl | b::bs,_,.cons r rs=>by
  cases r;rw [z5H rs];rfl
theorem zeX:∀ (bs:List Bool)(k:Bool)(m:Nat)(hm:m<bs.length),m<bs.idxOf k->(bs[m]==k)=false
 | [],k,m,hm,_=>absurd hm (by simp) | b::bs,k,m,hm,h=>by
  rw [List.idxOf_cons] at h;cases e:b==k with
  | true=>rw [e] at h;simp at h | false=>
   rw [e] at h;cases m with
   | zero=>simpa using e | succ m=>simpa using zeX bs k m (by simpa using hm) (by simpa using h)
section
variable {X:Cx}
def zkx:V->List V->Hp->VK->Prop:=fun x vs H Q=>∃ (p:Addr)(bs:List Bool)(k:Bool),x=.ref p/\vs=[.bl k]/\Rd H p (.lst (bs.map V.bl))/\Q (.int (bs.count k:Nat)) H
theorem z91:MtR X "list.count" zkx:=by
 intro pins s O H x vs v us Q I rx rv h;obtain ⟨p,bs,k,rfl,rfl,hp,q⟩:=h;cases rx;obtain ⟨u,rfl,ru⟩:=vals1 rv;cases ru;obtain ⟨_,its,n,r,e1⟩:=hp.ok I.hok;cases z5H r;refine call_meets PySem.F.slot_list_count ⟨_,e1,rfl⟩ PySem.F.entry_list_count (PySem.F.args_list_count_2 _ _) (list_countAt p _ n _ _ (.bool k) (ziu k)) ⟨e1,fun y hy=>?_,?_⟩
 ·obtain ⟨b,_,rfl⟩:=List.mem_map.mp (List.mem_toArray.mp hy);exact EqAt.bool_bool b k
 ·have e:(List.map Value.bool bs).countP (ziu k)=bs.count k:=by rw [List.countP_map];rfl
  refine ⟨.int (bs.count k:Nat),H,I.kept (fun b o e=>e),⟨s.toks,?_⟩,q⟩;rw [<- e]
def zlk:V->List V->Hp->VK->Prop:=fun x vs H Q=>∃ (p:Addr)(bs:List Bool)(k:Bool),x=.ref p/\vs=[.bl k]/\Rd H p (.lst (bs.map V.bl))/\k∈bs/\bs.length<2 ^ 62/\Q (.int (bs.idxOf k:Nat)) H
theorem z96:MtR X "list.index" zlk:=by
 intro pins s O H x vs v us Q I rx rv h;obtain ⟨p,bs,k,rfl,rfl,hp,hk,hl,q⟩:=h;cases rx;obtain ⟨u,rfl,ru⟩:=vals1 rv;cases ru;obtain ⟨_,its,n,r,e1⟩:=hp.ok I.hok;cases z5H r;have hj:bs.idxOf k<bs.length:=List.idxOf_lt_length_iff.mpr hk;refine call_meets PySem.F.slot_list_index ⟨_,e1,rfl⟩ PySem.F.entry_list_index (PySem.F.args_list_index_2 _ _) (list_indexAt p _ n _ _ (.bool k) (ziu k) (bs.idxOf k) (by simpa using hj) (by omega) ?_ ?_) ⟨e1,fun y hy=>?_,?_⟩
 ·have:=List.getElem_idxOf hj;simp [ziu,this]
 ·intro m hm hlt;have hm':m<bs.length:=by simpa using hm
  have:=zeX bs k m hm' hlt;simpa [ziu] using this
 ·obtain ⟨b,_,rfl⟩:=List.mem_map.mp (List.mem_toArray.mp hy);exact EqAt.bool_bool b k
 ·exact ⟨.int (bs.idxOf k:Nat),H,I.kept (fun b o e=>e),⟨s.toks,rfl⟩,q⟩
end
end L2
namespace Dd
open PySem.Spec L2
section
variable {X:Cx}{E:XK}{o e:Expr}{pos:Pos}
def zgj(fo fv:FE):FE:=fun Z s=>(fo Z s).bind fun o s1=>match o with
 | .lst ds=>(fv Z s1).bind fun d s2=>match bools ds,d with
  | some ns,.bl k=>.ok (.int (ns.count k:Nat)) s2 | _,_=>.no
 | _=>.no
theorem ze0{apos:Pos}{fo fv:FE}(ho:RE X E o fo)(hv:RE X E e fv)(hbase:attributeBase o "count" X.env (eval o X.env)=eval o X.env:=by rfl) (hfew:((backTo pos (starEach [e] X.env)).all (fun x=>!x.1)&&(backToKw pos (keywordEach [] X.env)).all (fun x=>x.1.isSome) && decide ([e].length+([]:List Keyword).length+(if ([]:List Keyword).isEmpty then 0 else 1)<30))=true:=by rfl) (hline:(apos.endLine==pos.line)=true:=by rfl)(hs:starEach [e] X.env=(false,eval e X.env)::starEach [] X.env:=by rfl)(hplain:(backTo pos (starEach [] X.env)).any (·.1)=false:=by rfl): RE X E (.Call (.Attribute o "count" apos) [e] [] pos) (zgj fo fv):= zW (zgU PySem.F.plainAttrs_list PySem.F.slot_list_count PySem.F.type_list_count z91 ho (wj hv jL hs) hbase hfew hline hs hplain) fun O H Q ⟨Y,Z,s,r,en,h⟩=>by
  unfold zgj at h;refine ⟨Y,Z,s,r,en,(okR.bind (Dn:=Den (gm X)) h).imp fun ov H1 ⟨Y1,s1,od,stp,dn,h1⟩=>?_⟩;cases od with
  | lst ds=>
   simp only at h1;have hty:tyV X.K "list" ov H1:=by
    simp only [Den] at dn;obtain ⟨a,ob,vs,rfl,e1,_⟩:=dn;exact .inl ⟨rfl,vs,.inl (.inr ⟨ob,e1⟩)⟩
   refine ⟨hty,⟨Y1,Z,s1,stp.rep,en.mono stp,(okR.bind (Dn:=Den (gm X)) h1).imp fun v H2 ⟨Y2,s2,d,stp2,dn2,h2⟩=>?_⟩⟩;split at h2
   ·rename_i ns k ei;cases jC dn2;have dov:=dn.mono stp2;simp only [Den] at dov;obtain ⟨a,ob,vs,rfl,e1,e2⟩:=dov;rw [z2F ei] at e2;cases z2z e2;exact ⟨a,ns,k,rfl,rfl,.inr ⟨ob,e1⟩,h2.here stp2.rep yT⟩
   ·exact h2.elim | _=>exact h1.elim
def zgY(fo fv:FE):FE:=fun Z s=>(fo Z s).bind fun o s1=>match o with
 | .lst ds=>(fv Z s1).bind fun d s2=>match bools ds,d with
  | some ns,.bl k=>if k∈ns/\ns.length<2 ^ 62 then .ok (.int (ns.idxOf k:Nat)) s2 else .no | _,_=>.no
 | _=>.no
theorem ze3{apos:Pos}{fo fv:FE}(ho:RE X E o fo)(hv:RE X E e fv)(hbase:attributeBase o "index" X.env (eval o X.env)=eval o X.env:=by rfl) (hfew:((backTo pos (starEach [e] X.env)).all (fun x=>!x.1)&&(backToKw pos (keywordEach [] X.env)).all (fun x=>x.1.isSome) && decide ([e].length+([]:List Keyword).length+(if ([]:List Keyword).isEmpty then 0 else 1)<30))=true:=by rfl) (hline:(apos.endLine==pos.line)=true:=by rfl)(hs:starEach [e] X.env=(false,eval e X.env)::starEach [] X.env:=by rfl)(hplain:(backTo pos (starEach [] X.env)).any (·.1)=false:=by rfl): RE X E (.Call (.Attribute o "index" apos) [e] [] pos) (zgY fo fv):= zW (zgU PySem.F.plainAttrs_list PySem.F.slot_list_index PySem.F.type_list_index z96 ho (wj hv jL hs) hbase hfew hline hs hplain) fun O H Q ⟨Y,Z,s,r,en,h⟩=>by
  unfold zgY at h;refine ⟨Y,Z,s,r,en,(okR.bind (Dn:=Den (gm X)) h).imp fun ov H1 ⟨Y1,s1,od,stp,dn,h1⟩=>?_⟩;cases od with
  | lst ds=>
   simp only at h1;have hty:tyV X.K "list" ov H1:=by
    simp only [Den] at dn;obtain ⟨a,ob,vs,rfl,e1,_⟩:=dn;exact .inl ⟨rfl,vs,.inl (.inr ⟨ob,e1⟩)⟩
   refine ⟨hty,⟨Y1,Z,s1,stp.rep,en.mono stp,(okR.bind (Dn:=Den (gm X)) h1).imp fun v H2 ⟨Y2,s2,d,stp2,dn2,h2⟩=>?_⟩⟩;split at h2
   ·rename_i ns k ei;split at h2
    ·rename_i hk;cases jC dn2;have dov:=dn.mono stp2;simp only [Den] at dov;obtain ⟨a,ob,vs,rfl,e1,e2⟩:=dov;rw [z2F ei] at e2;cases z2z e2;exact ⟨a,ns,k,rfl,rfl,.inr ⟨ob,e1⟩,hk.1,hk.2,h2.here stp2.rep yT⟩
    ·exact h2.elim
   ·exact h2.elim | _=>exact h1.elim
end
end Dd
namespace L2
open PySem.Spec
structure qr(k:Nat)(A:Around):Prop where
 dp:A.depth+3*k+5<recursionLimit
 un:A.units+16*k+200<cLine
theorem z14.h{k:Nat}{A:Around}(r:z14 k A):qr k A:=⟨r.dp,r.un⟩
theorem qr.mono{j k:Nat}{A:Around}(r:qr k A)(h:j<=k):qr j A:=⟨by have:=r.dp;omega,by have:=r.un;omega⟩
theorem qr.deeper{k:Nat}{A:Around}(r:qr (k+1) A)(env:Env):qr k (A.deeper env):= ⟨by have:=r.dp;show A.depth+1+3*k+5<_;omega,by have:=r.un;show A.units+3+16*k+200<_;omega⟩
theorem qr.depth{k:Nat}{A:Around}(r:qr k A):A.depth<recursionLimit:=by have:=r.dp;omega
theorem qr.units{k:Nat}{A:Around}(r:qr k A):A.units+64<cLine:=by have:=r.un;omega
structure zdc(P:Program)(w:World)(K:W.Frag)(mg:Str->Option Value)(base:Heap)(CX:CXT)(k:Nat)(f:Addr)(fd:FuncData)(ps:List Str)(sp:Sp):Prop where
 len:∀ vs H Q E,sp vs H Q E->vs.length=ps.length
 run:∀ (A:Around)(outer:List Env)(s:Shared)(H:Hp)(args:Args)(us:List Value)(vs:List V)(Q:VK)(E:XK),qr k A->zig P w K mg base A outer s H->BindsTo s fd args (ps.zip us)->yY vs us->sp vs H Q E-> codeAny (model P w) A (.call (.ref f) args) (CR CX outer P w H s Q E) s
theorem zjd {CX:CXT} {P:Program} {w:World} {K:W.Frag} {mg:Str->Option Value} {base:Heap} {k:Nat} {f:Addr} {name qual:Str} {params:Arguments} {body:List Stmt} {scope:Scope} {dV kV doc pm cdv ct oc:Value} {an od:Option Addr} {osl:Array (Option Value)} {N ps:List Str} {sp:Sp} (lk:K.lookup f=some ⟨oc,od,.func (W.fnOf name qual params body scope dV kV doc pm an cdv ct),osl⟩) (hcd:W.codeIn K cdv qual=true) (S:zv N ps scope) (len:∀ vs H Q E,sp vs H Q E->vs.length=ps.length) (hbody:∀ (A:Around) (outer:List Env) (s:Shared) (H:Hp) (vs:List V) (Q:VK) (E:XK),qr k (A.deeper (envOfC qual scope s.heap.objs.size f cdv))->sp vs H Q E-> ∃ t,PSs (z3l CX P w K mg base N qual scope f cdv A outer s H E) body t/\t {nx:=fun _ H'=>Q .non H',rt:=Q} (start N vs) H): zdc P w K mg base CX (k+1) f (W.fnOf name qual params body scope dV kV doc pm an cdv ct) ps sp:=by
 refine ⟨len,fun A outer s H args us vs Q E hr e0 hb r hsp=>?_⟩;have hl:=len _ _ _ _ hsp;have KX:K.In s.heap:=e0.mod.kin.keeps fun b o e=>(e0.bs b o e).1;have lim:s.heap.NoLimit:=e0.mod.nolimit.keeps fun b o e=>(e0.bs b o e).1;have hkind:∀ y∈ps.zip us,scope.names.lookup y.1=some .local\/(scope.names.lookup y.1=some .cell/\((cellsFrom (s.heap.objs.size+1) scope.names []).lookup y.1).isSome=true):=fun ⟨n,v⟩ hy=>by
  rcases S.par n (List.of_mem_zip hy).1 with q | q;·exact .inl q
  ·exact .inr ⟨q,W.cellsFrom_some _ _ _ (.inl q)⟩
 refine codeAny_call_function hr.depth (KX _ _ lk) rfl S.co S.gen rfl (W.codeRec_of KX hcd) (hb _ _ _ _ ?_);refine wpAny_newFunctionEnv_cells S.kind hkind fun env he s1 x=>?_;subst he;refine ⟨lim.keeps x.toInCall.keep,codeAny_func ?_⟩;obtain ⟨t,ht,hq⟩:=hbody A outer s H vs Q E (hr.deeper _) hsp;have I:Inv (z3l CX P w K mg base N qual scope f cdv A outer s H E) [] (start N vs) H s1:=z7r S e0 hl r x;refine wpAny_mono (ht [] s1 (start N vs) H _ I hq) (fun fl s' hs=>?_) fun e s' hs=>hs;have fin:∀ {O':St} {H':Hp} {v:V} {u:Value},Inv (z3l CX P w K mg base N qual scope f cdv A outer s H E) [] O' H' s'->wm v u->Q v H'->CE outer P w H s Q u s':= fun {O' H' v u} J rv q=>⟨v,H',J.os,J.bare,J.base,J.hok,rv,q⟩;cases fl with
 | ret u=>
  obtain ⟨v,O',H',J,rv,q⟩:=hs;exact fin J rv q | next=>
  obtain ⟨O',H',J,q⟩:=hs;exact fin (v:=V.non) (u:=Value.none) J rfl q | brk=>
  obtain ⟨_,_,_,q⟩:=hs;exact False.elim q | cont=>
  obtain ⟨_,_,_,q⟩:=hs;exact False.elim q
section
variable {X:Cx}{CX:CXT}{k:Nat}{f:Addr}{fd:FuncData}{ps:List Str}{sp:Sp}{ds:List Value}{dvs:List V}{E:XK}{x:Str}{p pos:Pos}{e:Expr}{es:List Expr}{t:TA}
theorem zh6{pins:List (Addr×Obj)}{O:St}{H:Hp}{s:Shared}{Q:VK}{us:List Value}{vs:List V}(F:zdc X.prog X.w X.K X.mg X.base CX k f fd ps sp)(hr:qr k X.A)(hb:Binds X.K fd ps ds)(hd:yY dvs ds)(hx:Passes CX X E) (I:Inv X pins O H s)(r:yY vs us)(h:sp (vs++dvs) H Q E):wpAny (model X.prog X.w) X.A (call (.ref f) us) (EP X pins O Q) X.xe s:=by
 have r2:yY (vs++dvs) (us++ds):=r.append hd;have hl:(us++ds).length=ps.length:=by rw [<- r2.length];exact F.len _ _ _ _ h
 refine wpAny_call (codeAny_mono (F.run X.A X.stack s H ⟨us,[]⟩ (us++ds) (vs++dvs) Q E hr I.env0 (hb s us I.kIn hl) r2 h) fun r s' hq=>?_);cases r with
 | error e=>exact hx pins O H s e s' I hq | ok fl=> cases fl with
  | ret u=>exact I.after hq | next=>exact False.elim hq | brk=>exact False.elim hq | cont=>exact False.elim hq
theorem zeb (F:zdc X.prog X.w X.K X.mg X.base CX k f fd ps sp) (hr:qr k X.A) (hg:Gl X x) (hm:X.mg x=some (.ref f)) (hk:W.keepIn X.K (.ref f)=true) (hb:Binds X.K fd ps ds) (hd:yY dvs ds) (hx:Passes CX X E) (ha:PA X (e::es) t) (hdb:(x==("__debug__":Str))=false:=by decide) (he:starEach (e::es) X.env=(false,eval e X.env)::starEach es X.env:=by rfl) (hpl:(backTo pos (starEach es X.env)).any (·.1)=false:=by rfl): PE X (.Call (.Name x p) (e::es) [] pos) (zgZ sp dvs E t):=by
 intro pins s O H Q I h;refine wpAny_Call_Name_kw (z1c I hg hm ?_ hdb);refine W.callWith_K (h₀:=X.base) I.ok.mod.kin hk (thn (ha pos pins s O H _ I h) fun us s1 ⟨vs,H1,I1,r,q⟩=>⟨I1.kIn,?_⟩) he hpl;exact zh6 F hr hb hd hx I1 r q
end
section
variable {P:Program}{w:World}{K:W.Frag}{mg:Str->Option Value}{base:Heap}
theorem Fun.okH{x qual:Str}{st:Stmt}{f:Addr}{fd:FuncData}{N ps:List Str}{k:Nat}{sp:Sp}(F:Fun K x qual st f fd)(S:zv N ps (zg st))(len:∀ vs H Q E,sp vs H Q E->vs.length=ps.length) (hbody:∀ (cdv:Value)(A:Around)(outer:List Env)(s:Shared)(H:Hp)(vs:List V)(Q:VK)(E:XK),qr k (A.deeper (envOfC qual (zg st) s.heap.objs.size f cdv))->sp vs H Q E-> ∃ t,PSs (z3l CX0 P w K mg base N qual (zg st) f cdv A outer s H E).nox (vG st) t/\t {nx:=fun _ H'=>Q .non H',rt:=Q} (start N vs) H):zdc P w K mg base CX0 (k+1) f fd ps sp:=by
 obtain ⟨oc,od,kV,doc,pm,an,cdv,ct,osl,rfl,lk,hcd⟩:=F.ex;refine zjd lk hcd S len fun A outer s H vs Q E hr hsp=>?_;obtain ⟨t,h,q⟩:=hbody cdv A outer s H vs Q E hr hsp;exact ⟨t,h.nox,q⟩
end
end L2
namespace Dd
open PySem.Spec L2
def zjO(P:Program)(w:World)(K:W.Frag)(mg:Str->Option Value)(base:Heap)(CX:CXT)(x:Str)(n:Nat)(M:Mir):Prop:= ∃ f fd ps,zdc P w K mg base CX n f fd ps (zeK ⟨mg,K⟩ M)/\Binds K fd ps []/\W.keepIn K (.ref f)=true/\mg x=some (.ref f)
section
variable {X:Cx}{E:XK}{e:Expr}{es:List Expr}{pos:Pos}{CX:CXT}
theorem zgi {x:Str} {p:Pos} {n:Nat} {M:Mir} {f:FA} (F:zjO X.prog X.w X.K X.mg X.base CX x n M) (hr:qr n X.A) (hx:Passes CX X E) (hg:Gl X x) (ha:RA X E (e::es) f) (hdb:(x==("__debug__":Str))=false:=by decide) (he:starEach (e::es) X.env=(false,eval e X.env)::starEach es X.env:=by rfl) (hpl:(backTo pos (starEach es X.env)).any (·.1)=false:=by rfl):RE X E (.Call (.Name x p) (e::es) [] pos) (ze M f):=by
 obtain ⟨fa,fd,ps,F,hb,hk,hm⟩:=F;refine zW (zeb F hr hg hm hk hb .nil hx ha hdb he hpl) fun O H Q ⟨Y,Z,s,r,en,h⟩=>?_;refine qf (k:=fun Z xs s1=>M xs s1) r en h _ fun vs H2 Y2 s2 ds r2 en2 dn2 stp2 h3=>?_;rw [List.append_nil];exact ⟨Y2,s2,ds,r2,dn2,h3⟩
end
section
variable {P:Program}{w:World}{K:W.Frag}{mg:Str->Option Value}{base:Heap}
theorem zhv{x qual:Str}{st:Stmt}{f:Addr}{fd:FuncData}{N ps:List Str}{k n:Nat}{fs:FS}(F:Fun K x qual st f fd)(hm:mg x=some (.ref f))(hb:Binds K fd ps [])(S:zv N ps (zg st))(hn:ps.length=n) (body:∀ (cdv:Value)(A:Around)(outer:List Env)(s:Shared)(H:Hp)(E:XK),qr k (A.deeper (envOfC qual (zg st) s.heap.objs.size f cdv))-> RSs (z3l CX0 P w K mg base N qual (zg st) f cdv A outer s H E).nox E0 (vG st) fs):zjO P w K mg base CX0 x (k+1) (Mof N n fs):=by
 subst hn;refine ⟨f,fd,ps,F.okH S (fun vs H Q E h=>?_) (fun cdv A outer s H vs Q E hr h=>?_),hb,F.kp,hm⟩
 ·obtain ⟨Y,s,ds,_,dn,h⟩:=h;unfold Mof at h;split at h;·rename_i e;rw [dn.length];exact e
  ·exact h.elim
 ·obtain ⟨Y,st0,ds,r,dn,h⟩:=h;refine ⟨_,body cdv A outer s H E hr,Y,zr N ds,st0,r,kL dn,?_⟩;unfold Mof at h;split at h
  ·split at h
   ·rename_i d s' e;rw [e];intro fv H' Y' stp fd;cases fv with
    | rt v=>exact h v H' Y' stp fd | _=>exact (show False from fd).elim
   ·rename_i Z s' e;rw [e];intro fv H' Y' stp fd;cases fv with
    | nx v=>exact h .non H' Y' stp (by simp [Den]) | _=>exact (show False from fd).elim
   ·exact h.elim
  ·exact h.elim
end
theorem z1U{X:Cx}:wu X (.builtin "isinstance") (fun xs H Q=>∃ (a C:Addr)(y:V)(b:Bool),xs=[.ref a,y]/\H a=some (excO C a)/\PySem.ExcCls X.K C/\(∀ c,wm y c->W.kitOne X.K (.ref C) c=some b)/\Q (.bl b) H):=by
 intro pins s O H xs us Q I r h;obtain ⟨a,C,y,b,rfl,ha,hc,hk,q⟩:=h;obtain ⟨u,v,rfl,ru,rv⟩:=vals2 r;cases ru;obtain ⟨⟨o,vs,h1,h2,_⟩,_⟩:=(show wl X.prog X.w H s.heap a (excO C a) from I.hok a _ ha);exact W.kia_one (PySem.zet hc) I.kIn ⟨o,h1,h2⟩ (hk v rv) (fun z=>nomatch z) fun tk=>⟨.bl b,H,I.tok _,rfl,q⟩
structure z7K(mg:Gm)(rs cs:List Str):Prop where
 cls:∀ c∈rs,∀ C,mg.m c=some (.ref C)->PySem.ExcCls mg.K C
 has:∀ d∈cs,∃ D,mg.m d=some (.ref D)
 one:∀ c∈rs,∀ d∈cs,∀ C D,mg.m c=some (.ref C)->mg.m d=some (.ref D)->W.kitOne mg.K (.ref C) (.ref D)=some (c==d)
 val:∀ c∈rs,∀ C,mg.m c=some (.ref C)->W.kitOne mg.K (.ref C) (.type "ValueError")=some true
def zl6(rs:List Str)(T:Str):D->Sto->R D
 | .exc c,s=>if c∈rs then .ok (.bl (c==T)) s else .no | _,_=>.no
def z6r(rs:List Str)(T:Str)(f:FE):FE:=fun Z s=>(f Z s).bind fun d s1=>zl6 rs T d s1
def zkU(rs:List Str):D->Sto->R D
 | .exc c,s=>if c∈rs then .ok (.bl true) s else .no | _,_=>.no
def zlM(rs:List Str)(f:FE):FE:=fun Z s=>(f Z s).bind fun d s1=>zkU rs d s1
section
variable {X:Cx}{E:XK}{e:Expr}{pos:Pos}
theorem jW{p p2:Pos}{T:Str}{rs cs:List Str}{f:FE}(FM:z7K (gm X) rs cs)(hT:T∈cs)(hg:Gl X "isinstance")(hm:X.mg "isinstance"=none)(hg2:Gl X T)(he:RE X E e f) (hd:(T==("__debug__":Str))=false:=by decide) (hs:starEach [e,.Name T p2] X.env=(false,eval e X.env)::starEach [.Name T p2] X.env:=by rfl)(hpl:(backTo pos (starEach [.Name T p2] X.env)).any (·.1)=false:=by rfl):RE X E (.Call (.Name "isinstance" p) [e,.Name T p2] [] pos) (z6r rs T f):=by
 obtain ⟨D,hD⟩:=FM.has T hT;exact zW (z11 z1U hg hm (by decide +kernel) (wj he (wj (z3v hg2 hD (show wm (.ref D) (.ref D) from rfl) hd) jL (zq ..)) hs) (by decide) (by decide) hs hpl) fun O H Q ⟨Y,Z,s,r,en,h⟩=>by
  refine yz (k:=fun Z d s1=>zl6 rs T d s1) r en h _ fun v H1 Y1 s1 d r1 en1 dn stp h1=>?_;unfold zl6 at h1;split at h1
  ·rename_i c;split at h1
   ·rename_i hc;simp only [Den] at dn;obtain ⟨a,C,rfl,hC,hH⟩:=dn;exact ⟨a,C,.ref D,c==T,rfl,hH,FM.cls c hc C hC,fun z hz=>by cases hz;exact FM.one c hc T hT C D hC hD,okR.here (b:=V.bl (c==T)) h1 r1 xW⟩
   ·exact h1.elim
  ·exact h1.elim
theorem zlD{p p2:Pos}{rs cs:List Str}{f:FE}(FM:z7K (gm X) rs cs)(hg:Gl X "isinstance")(hm:X.mg "isinstance"=none)(hg2:Gl X "ValueError")(hm2:X.mg "ValueError"=none)(he:RE X E e f) (hs:starEach [e,.Name "ValueError" p2] X.env=(false,eval e X.env)::starEach [.Name "ValueError" p2] X.env:=by rfl)(hpl:(backTo pos (starEach [.Name "ValueError" p2] X.env)).any (·.1)=false:=by rfl):RE X E (.Call (.Name "isinstance" p) [e,.Name "ValueError" p2] [] pos) (zlM rs f):= zW (z11 z1U hg hm (by decide +kernel) (wj he (wj (z5E hg2 hm2 (by decide +kernel) (show wm (.ty "ValueError") (.type "ValueError") from rfl)) jL (zq ..)) hs) (by decide) (by decide) hs hpl) fun O H Q ⟨Y,Z,s,r,en,h⟩=>by
  refine yz (k:=fun Z d s1=>zkU rs d s1) r en h _ fun v H1 Y1 s1 d r1 en1 dn stp h1=>?_;unfold zkU at h1;split at h1
  ·rename_i c;split at h1
   ·rename_i hc;simp only [Den] at dn;obtain ⟨a,C,rfl,hC,hH⟩:=dn;exact ⟨a,C,.ty "ValueError",true,rfl,hH,FM.cls c hc C hC,fun z hz=>by cases hz;exact FM.val c hc C hC,okR.here (b:=V.bl true) h1 r1 xW⟩
   ·exact h1.elim
  ·exact h1.elim
end
section
variable {X:Cx}{E:XK}{e a b:Expr}{es:List Expr}{pos:Pos}{CX:CXT}
theorem zlu{x:Str}{g:Addr}{p:Pos}(hg:Gl X x)(hm:X.mg x=some (.ref g))(hd:(x==("__debug__":Str))=false:=by decide):RE X E (.Name x p) (eC (.fn x)):= zW (z3v hg hm (show wm (.ref g) (.ref g) from rfl) hd) fun O H Q ⟨Y,Z,s,r,en,h⟩=>okR.here h r (by simp only [Den];exact ⟨g,rfl,hm⟩)
theorem zgI{x:Str}{p:Pos}{n:Nat}{M:Mir}(F:Has X.prog X.w X.K X.mg X.base CX x n M)(hg:Gl X x)(hd:(x==("__debug__":Str))=false:=by decide):RE X E (.Name x p) (eC (.fn x)):=by
 obtain ⟨f,_,_,_,_,_,hm⟩:=F;exact zlu hg hm hd
def z9N(g:FE)(Ms:List (Str×Mir))(f:FA):FE:=fun Z s=>(g Z s).bind fun d s1=>match d with
 | .fn y=>match Ms.lookup y with
  | some M=>(f Z s1).bind fun xs s2=>M xs s2 | none=>.no
 | _=>.no
theorem zdW(args:List Expr)(sp:Pos)(env:Env):eval (.Call (.Subscript a b sp) args [] pos) env=(do callWith pos (<- eval (.Subscript a b sp) env) [] (backTo pos (starEach args env)) (backToKw pos (keywordEach [] env))):=rfl
theorem zh7 {sp:Pos} {n:Nat} {Ms:List (Str×Mir)} {g:FE} {f:FA} (F:∀ y M,Ms.lookup y=some M->Has X.prog X.w X.K X.mg X.base CX y n M) (hr:z14 n X.A) (hxx:Passes CX X E) (hg:RE X E (.Subscript a b sp) g) (ha:RA X E (e::es) f) (he:starEach (e::es) X.env=(false,eval e X.env)::starEach es X.env:=by rfl) (hpl:(backTo pos (starEach es X.env)).any (·.1)=false:=by rfl):RE X E (.Call (.Subscript a b sp) (e::es) [] pos) (z9N g Ms f):=by
 intro pins s O H Q I ⟨Y,Z,st,r,en,h⟩;unfold z9N at h;rw [zdW];refine wpAny_bind (thn (hg pins s O H (fun v H1=>∃ Y1 s1 d,vf (gm X) H Y H1 Y1 s1/\Den (gm X) H1 Y1 d v/\okR (gm X) E H1 Y1 (Den (gm X)) (match d with
  | .fn y=>match Ms.lookup y with
   | some M=>(f Z s1).bind fun xs s2=>M xs s2 | none=>.no
  | _=>.no) Q) I ⟨Y,Z,st,r,en,(okR.bind (Dn:=Den (gm X)) h).imp fun v H1 q=>q⟩) fun u s1 ⟨v,H1,I1,r1,Y1,st1,d,stp,dn,h1⟩=>?_);split at h1
 ·rename_i y;split at h1
  ·rename_i M hM;simp only [Den] at dn;obtain ⟨gg,rfl,hmg⟩:=dn;cases r1;obtain ⟨fa,fd,ps,Fk,hb,hk,hm⟩:=F y M hM;have e0:gg=fa:=by
    have hmg':X.mg y=some (.ref gg):=hmg;rw [hmg'] at hm;cases hm;rfl
   subst e0;have hA:=ha pos pins s1 O H1 (fun vs H2=>zeK (gm X) M (vs++[]) H2 Q E) I1 (qf (k:=fun Z xs s1=>M xs s1) stp.rep (en.mono stp) h1 _ fun vs H2 Y2 s2 ds r2 en2 dn2 stp2 h3=>by
    rw [List.append_nil];exact ⟨Y2,s2,ds,r2,dn2,h3⟩);refine W.callWith_K (h₀:=X.base) I1.ok.mod.kin hk (thn hA fun us s2 ⟨vs,H2,I2,r2,q⟩=>⟨I2.kIn,?_⟩) he hpl;exact zad Fk hr hb .nil hxx I2 r2 q
  ·exact h1.elim
 ·exact h1.elim
end
end Dd
namespace PySem
open PySem.AutoSeq1 (wpAny_loadPart')
open MeetsSeq MeetsSeq2 SeqAt
theorem z7D (l:Addr) (items:Array Value) (n:Nat) (dd:Option Addr) (sl:Array (Option Value)) (x:Int) (u:Tok) (h2:2<=x) (hx:x<2 ^ 63) (hne:items.isEmpty=false) (hc:¬ (items.size:Int)*x > (2 ^ 63-1) / 8) (ht:Builtin.Tuple.tupleTooMany ((items.size:Int)*x)=false) (hs:((List.replicate x.toNat items).foldl (· ++ ·) #[]).size<=sizeLine): Meets (Builtin.«tuple.__mul__» ⟨[.ref l,.int x u],[]⟩) (fun A R s=>s.heap.get? l=some {cls:=.type "tuple",dict:=dd,data:=.seq items n,slots:=sl}/\R (.ok (.ret (.ref s.heap.objs.size))) {s with heap:=s.heap.push {cls:=.type "tuple",data:=.seq ((List.replicate x.toNat items).foldl (· ++ ·) #[])}}):= .of_wp fun prog w A R s h=>by
  obtain ⟨hp,g,d,tk,os⟩:=s;obtain ⟨hl,h⟩:=h;have e1:(x==1)=false:=by simp;omega
  have e2:decide (x<=0)=false:=by simp;omega
  have e3:decide (x < -(2 ^ 63))=false:=by simp;omega
  have e4:decide (x ≥ 2 ^ 63)=false:=by simp;omega
  wp_walk using wpAny_loadPart' hl;rw [if_neg (by simp;omega)];wp_walk using wpAny_loadPart' hl;rw [if_neg hc];wp_walk;exact ⟨_,rfl,h⟩
theorem z5M(l:Addr)(items:Array Value)(n:Nat)(dd:Option Addr)(sl:Array (Option Value))(u:Tok): Meets (Builtin.«tuple.__mul__» ⟨[.ref l,.int 1 u],[]⟩) (fun A R s=>s.heap.get? l=some {cls:=.type "tuple",dict:=dd,data:=.seq items n,slots:=sl}/\R (.ok (.ret (.ref l))) s):= .of_wp fun prog w A R s h=>by
  obtain ⟨hp,g,d,tk,os⟩:=s;obtain ⟨hl,h⟩:=h;wp_walk using wpAny_loadPart' hl;exact ⟨_,rfl,h⟩
theorem jt:fillsNumberSlot (.type "tuple") "mul"=pure false:= fillsNumberSlot_seq (id:="tuple.__mul__") (r:=some (.builtin "tuple.__rmul__")) F.slot_tuple_mul.lookup (by decide +kernel) F.slot_tuple_rmul.lookup (by decide +kernel)
theorem z27:seqRepeat? (.type "tuple")=pure (some (.builtin "tuple.__mul__")):=by
 unfold seqRepeat?;rw [seqSlot_of (T:="tuple") (name:="__mul__") (id:="tuple.__mul__") F.slot_tuple_mul.lookup (by decide +kernel),seqSlot_of (T:="tuple") (name:="__rmul__") (id:="tuple.__rmul__") F.slot_tuple_rmul.lookup (by decide +kernel)];rfl
theorem qp(a:Int)(t:Tok)(l:Addr)(items:Array Value)(n:Nat)(dd:Option Addr)(sl:Array (Option Value)): Meets (Builtin.«int.__rmul__» ⟨[.int a t,.ref l],[]⟩) (fun _ R s=>s.heap.get? l=some {cls:=.type "tuple",dict:=dd,data:=.seq items n,slots:=sl}/\R (.ok (.ret Value.notImplemented)) s):= .of_wp fun prog w A R s h=>by obtain ⟨hp,g,d,tk,os⟩:=s;obtain ⟨hl,h⟩:=h;wp_walk;exact ⟨_,rfl,h⟩
end PySem
namespace L2
open PySem.Spec
section
variable {X:Cx}
def zkO:R2:=fun x y H Q=>∃ l k xs,x=.ref l/\y=.int k/\H l=some (.tup xs)/\1<=k/\xs≠[]/\xs.length*k.toNat<=sizeLine/\ ((k=1->Q (.ref l) H)/\∀ p,H p=none->Q (.ref p) (upd H p (.tup (List.replicate k.toNat xs).flatten)))
theorem zgq:OpR X (binaryOp .Mult) zkO:=by
 intro pins s O H x y v u Q I rx ry h;obtain ⟨l,k,xs,rfl,rfl,hH,h1,hne,hz,q1,q⟩:=h;cases rx;obtain ⟨t,rfl⟩:=ry;obtain ⟨z,its,r,o,e,c1,d1,n,w1⟩:=(show wl X.prog X.w H s.heap l (.tup xs) from I.hok l _ hH);obtain ⟨cls,dd,data,sl⟩:=o;simp only at c1 d1 w1;subst c1 d1 w1;have hl:xs.length=its.length:=by have:=r.length;omega
 have hp:0<its.length:=by rw [<- hl];exact List.length_pos_iff.mpr hne
 have hk:((k.toNat:Nat):Int)=k:=by omega
 have hlen:its.length*k.toNat<=sizeLine:=by rw [<- hl];exact hz
 have hkle:k.toNat<=sizeLine:=Nat.le_trans (Nat.le_mul_of_pos_left _ hp) hlen;have hS:(sizeLine:Nat)<=(2 ^ 63-1) / 8:=by decide
 have hkb:k<2 ^ 63:=by
  have:k.toNat<=(2 ^ 63-1) / 8:=Nat.le_trans hkle hS;omega
 have hm:((its.toArray.size:Nat):Int)*k=((its.length*k.toNat:Nat):Int):=by rw [List.size_toArray,Int.natCast_mul,hk]
 by_cases ho:k=1
 ·subst ho;refine wpAny_binaryOp_repeat_ref (T:="tuple") (U:="int") (by decide) ⟨_,e,rfl⟩ (fun s'=>typeIs_int s' 1 t) jt F.fills_int_mul F.slot_int_rmul z27 F.slot_int_index.lookup (call_meets F.slot_int_rmul (typeIs_int s 1 t) F.entry_int_rmul (F.args_int_rmul_2 _ _) (qp 1 t l its.toArray n _ sl) ⟨e,rfl,⟨_,e,rfl⟩,call_meets F.slot_tuple_mul ⟨_,e,rfl⟩ F.entry_tuple_mul (F.args_tuple_mul_2 _ _) (z5M l its.toArray n _ sl t) ⟨e,?_⟩⟩);exact ⟨.ref l,H,I,rfl,q1 rfl⟩
 ·have hnew:List.foldl (fun x1 x2=>x1++x2) #[] (List.replicate k.toNat its.toArray)=(List.replicate k.toNat its).flatten.toArray:=by
   have:=foldl_rep its k.toNat [];rw [List.nil_append] at this;exact this
  refine wpAny_binaryOp_repeat_ref (T:="tuple") (U:="int") (by decide) ⟨_,e,rfl⟩ (fun s'=>typeIs_int s' k t) jt F.fills_int_mul F.slot_int_rmul z27 F.slot_int_index.lookup (call_meets F.slot_int_rmul (typeIs_int s k t) F.entry_int_rmul (F.args_int_rmul_2 _ _) (qp k t l its.toArray n _ sl) ⟨e,rfl,⟨_,e,rfl⟩,call_meets F.slot_tuple_mul ⟨_,e,rfl⟩ F.entry_tuple_mul (F.args_tuple_mul_2 _ _) (z7D l its.toArray n _ sl k t (by omega) hkb (by cases its with | nil=>simp at hp | cons a b=>rfl) (by rw [hm];have:=Nat.le_trans hlen hS;omega) (by rw [hm];unfold Builtin.Tuple.tupleTooMany;exact decide_eq_false (by omega)) (by rw [hnew,List.size_toArray,len_rep,Nat.mul_comm];exact hlen)) ⟨e,?_⟩⟩);rw [hnew];have hlz:(List.replicate k.toNat xs).flatten.length<=sizeLine:=by rw [len_rep,Nat.mul_comm];exact hz
  exact ⟨.ref _,_,I.laid (o:=.tup (List.replicate k.toNat xs).flatten) (t':=s.toks) (fun b u q=>Heap.get?_push_of_some _ q) (Nat.le_refl _) ⟨hlz,_,r.rep k.toNat,zbb.new _ _⟩,rfl,q _ I.fresh⟩
end
end L2
namespace Dd
open PySem.Spec L2
section
variable {X:Cx}{E:XK}
def zaE:D->D->Sto->R D
 | .tup xs,.int k,s=>if 1<=k/\xs≠[]/\xs.length*k.toNat<=cap then .ok (.tup (List.replicate k.toNat xs).flatten) s else .no | _,_,_=>.no
theorem zhI:∃ r,OpR X (binaryOp .Mult) r/\OpF X E r zaE:=by
 refine ⟨_,zgq,?_⟩;intro H Y s d1 d2 v1 v2 Q r h1 h2 h;unfold zaE at h;split at h
 ·rename_i xs k;cases yG h2;split at h
  ·rename_i hl;have hden:=h1;simp only [Den] at h1;obtain ⟨a,vs,rfl,e1,e2⟩:=h1;refine ⟨a,k,vs,rfl,rfl,e1,hl.1,fun z=>?_,by rw [e2.length];exact jz hl.2.2,fun hk=>?_,z23 r h (e2.flat_rep _)⟩
   ·subst z;have:=e2.length;exact hl.2.1 (List.length_eq_zero_iff.mp (by simpa using this.symm))
   ·subst hk;have e:(List.replicate (1:Int).toNat xs).flatten=xs:=by simp
    rw [e] at h;exact h.here r hden
  ·exact h.elim
 ·exact h.elim
@[simp] theorem zgS (xs:List D)(k:Int)(s:Sto):zaE (.tup xs) (.int k) s=if 1<=k/\xs≠[]/\xs.length*k.toNat<=cap then .ok (.tup (List.replicate k.toNat xs).flatten) s else .no:=id rfl
end
end Dd
namespace L2
open PySem.Spec
section
variable {X:Cx}{pos:Pos}
theorem Inv.far{pins:List (Addr×Obj)}{O:St}{H:Hp}{s:Shared}(I:Inv X pins O H s):(s.heap.objs.size==sysModules)=false:=by
 obtain ⟨o,es,ep,h,_⟩:=I.mod.glob.keeps I.bk;have h1:(mainGlobals:Nat)<s.heap.objs.size:=Heap.lt_size h;have e1:(1:Nat)<=(mainGlobals:Nat):=by decide
 have h2:(1:Nat)<s.heap.objs.size:=Nat.lt_of_le_of_lt e1 h1;have h3:s.heap.objs.size≠(1:Nat):=Nat.ne_of_gt h2;exact beq_false_of_ne h3
def zks:TE:=fun _ H Q=>∀ p,H p=none->Q (.ref p) (upd H p (.dK []))
theorem zfW:PE X (.Dict [] [] pos) zks:=by
 intro pins s O H Q I hq;refine wpAny_Dict_empty ?_;refine ⟨.ref s.heap.objs.size,upd H s.heap.objs.size (.dK []),I.laid (o:=.dK []) (t':=s.toks) (fun b u e=>Heap.get?_push_of_some _ e) (Nat.le_refl _) ⟨Nat.zero_le _,I.far,[],?_,Heap.DictOf.new _⟩,rfl,hq _ (I.hok.fresh (Nat.le_refl _))⟩;constructor
end
end L2
namespace Dd
open PySem.Spec L2
section
variable {X:Cx}{E:XK}{pos:Pos}
theorem ziM:RE X E (.Dict [] [] pos) (eC .dct):= zW zfW fun O H Q ⟨Y,Z,s,r,en,h⟩=>fun p hp=>by
  have stp:=vf.lay (o:=.dK []) r hp (by intro _ z;cases z);exact h _ _ _ stp (by simp only [Den];exact ⟨p,rfl,yV⟩)
end
structure XOk(K:W.Frag)(C:Addr):Prop where
 exc:W.excIn K C bmV "ValueError.__new__"=true
 cls:PySem.ExcCls K C
 val:W.kitOne K (.ref C) (.type "ValueError")=some true
theorem z6G{K:W.Frag}{C:Addr}(h:z3Y K C=true):∃ d cd sl,K.lookup C=some ⟨.type "type",d,.cls cd,sl⟩:=by
 unfold z3Y at h;split at h
 ·rename_i t d cd sl e;have:=beq_iff_eq.mp h;subst this;exact ⟨_,_,_,e⟩
 ·cases h
theorem uT{K:W.Frag}{x:Str}(h:z5D K x=true):∃ C,W.nsIn K mainGlobals x=some (some (.ref C))/\XOk K C:=by
 unfold z5D at h;split at h
 ·rename_i C e;simp only [Bool.and_eq_true] at h;obtain ⟨h1,h2,h3,h4,h5,h6,h7,h8⟩:=h;exact ⟨C,e,h1,⟨beq_iff_eq.mp h2,beq_iff_eq.mp h3,beq_iff_eq.mp h4,beq_iff_eq.mp h5,beq_iff_eq.mp h6,z6G h7⟩,beq_iff_eq.mp h8⟩
 ·cases h
section
variable {K:W.Frag}{mg:Str->Option Value}(G:∀ (x:Str)(v:Value),W.nsIn K mainGlobals x=some (some v)->mg x=some v)
include G
theorem zd3{x:Str}(h:z5D K x=true):zhA K mg x:=by
 obtain ⟨C,e,o⟩:=uT h;exact ⟨C,G x _ e,o.exc⟩
theorem zct{rs cs:List Str}(hr:∀ x∈rs,z5D K x=true)(hc:∀ y∈cs,z5D K y=true)(h:∀ x∈rs,∀ y∈cs,(z4R K x y).map (·.2)=some (some (x==y))):z7K ⟨mg,K⟩ rs cs:=by
 have un:∀ x C D,W.nsIn K mainGlobals x=some (some (.ref D))->mg x=some (.ref C)->C=D:=fun x C D e m=>by
  have:=G x _ e;rw [m] at this;cases this;rfl
 refine ⟨fun c hcm C m=>?_,fun d hd=>?_,fun c hcm d hd C D mC mD=>?_,fun c hcm C m=>?_⟩
 ·obtain ⟨D,e,o⟩:=uT (hr c hcm);cases un c C D e m;exact o.cls
 ·obtain ⟨D,e,o⟩:=uT (hc d hd);exact ⟨D,G d _ e⟩
 ·obtain ⟨C',e1,_⟩:=uT (hr c hcm);obtain ⟨D',e2,_⟩:=uT (hc d hd);cases un c C C' e1 mC;cases un d D D' e2 mD;have q:=h c hcm d hd;unfold z4R at q;rw [e1,e2] at q;simpa using q
 ·obtain ⟨D,e,o⟩:=uT (hr c hcm);cases un c C D e m;exact o.val
theorem zgL{x y:Str}(hx:z5D K x=true)(hy:z5D K y=true)(h:(z4R K x y).map (·.1)=some (some true)):zjT K mg x y:=by
 obtain ⟨C,e1,o1⟩:=uT hx;obtain ⟨D,e2,o2⟩:=uT hy;refine ⟨C,D,G x _ e1,G y _ e2,o1.exc,o2.exc,fun h₀ X=>?_⟩;unfold z4R at h;rw [e1,e2] at h;have hm:W.mroIn K C (.ref D)=some true:=by simpa using h
 obtain ⟨bm,N,nm,q,bs,hdct,sn,sub,ab,col,dd,k0,k1,k2,k3,k5,mN,hC,_⟩:=zcV X o1.exc;refine ⟨bm,N,nm,q,bs,hdct,sn,sub,ab,col,dd,k0,k1,k2,k3,k5,hC,?_⟩;obtain ⟨d',cd',sl',hl⟩:=o1.cls.ty;have h2:=X _ _ hl;rw [hC] at h2;unfold W.mroIn W.clsIn at hm;rw [hl] at hm;simp only [Option.bind_some] at hm;split at hm;·cases hm
 ·unfold excClassObj at h2;simp only [Option.some.injEq,Obj.mk.injEq,Data.cls.injEq] at h2;obtain ⟨_,_,h3,_⟩:=h2;have h4:cd'.mro=Value.ref C::bm:=by rw [<- h3]
  rw [h4] at hm;simpa using hm
end
theorem zaz{q:Ask}{w:World}{K:W.Frag}(e:zbc q K=valS q w)(x:Str)(hx:x∈q.xs):z5D K x=true:=z53 (congrArg (fun z=>z.2.2.2.2.2.1) e) x hx
theorem zil{q:Ask}{w:World}{K:W.Frag}(e:zbc q K=valS q w)(x y:Str)(b:Bool)(hx:((x,y),b)∈q.ps):z4R K x y=some (some b,some b):=z53 (congrArg (fun z=>z.2.2.2.2.2.2) e) ((x,y),b) hx
theorem zkY{k:Nat}{A:Around}{e:Option Value}(r:qr k A):qr k (A.mark e):=⟨r.dp,r.un⟩
def LeS(f g:FS):Prop:=∀ Z s a s',f Z s=.ok a s'->g Z s=.ok a s'
def LeM(M N:Mir):Prop:=∀ ds s d s',M ds s=.ok d s'->N ds s=.ok d s'
theorem LeS.rfl{f:FS}:LeS f f:=fun _ _ _ _ h=>h
theorem LeS.no{f g:FS}(h:LeS f g):LeS f (z2U g):=fun Z s a s' e=>by rw [zg5,h Z s a s' e]
theorem LeS.calm{f:FS}:LeS f (z2U f):=LeS.rfl.no
theorem LeS.fNo{g:FS}:LeS fNo g:=fun _ _ _ _ h=>by cases h
theorem LeM.mof{N:List Str}{n:Nat}{f g:FS}(h:LeS f g):LeM (Mof N n f) (z2Q N n g):=fun ds s d s' e=>by
 unfold Mof at e;unfold z2Q;split at e
 ·rename_i hl;rw [if_pos hl];split at e
  ·rename_i d' s1 e1;rw [h _ _ _ _ e1];exact e
  ·rename_i Z s1 e1;rw [h _ _ _ _ e1];exact e
  ·cases e
 ·cases e
def LeE(f g:FE):Prop:=∀ Z s a s',f Z s=.ok a s'->g Z s=.ok a s'
theorem z2D{α β:Type}{r:R α}{k:α->Sto->R β}{b:β}{s':Sto}(h:r.bind k=.ok b s'):∃ a s1,r=.ok a s1/\k a s1=.ok b s':=by cases r with
 | ok a s=>exact ⟨a,s,Eq.refl _,h⟩ | ex c s=>cases h | no=>cases h
theorem LeS.seq{f f' g g':FS}(h:LeS f f')(h2:LeS g g'):LeS (zE f g) (zE f' g'):=fun Z s a s' e=>by
 obtain ⟨fl,s1,e1,e2⟩:=z2D e;show (f' Z s).bind _=_;rw [h _ _ _ _ e1,R.bind_ok];cases fl with
 | nx Z'=>exact h2 _ _ _ _ e2 | _=>exact e2
theorem LeS.drop{f f':FE}(h:LeE f f'):LeS (wQ f) (wQ f'):=fun Z s a s' e=>by
 obtain ⟨d,s1,e1,e2⟩:=z2D e;show (f' Z s).bind _=_;rw [h _ _ _ _ e1,R.bind_ok];exact e2
theorem LeE.call{M M':Mir}{f:FA}(h:LeM M M'):LeE (ze M f) (ze M' f):=fun Z s a s' e=>by
 obtain ⟨d,s1,e1,e2⟩:=z2D e;show (f Z s).bind _=_;rw [e1,R.bind_ok];exact h _ _ _ _ e2
theorem LeS.if_{t:FT}{f f' g g':FS}(h:LeS f f')(h2:LeS g g'):LeS (fIf t f g) (fIf t f' g'):=fun Z s a s' e=>by
 obtain ⟨d,s1,e1,e2⟩:=z2D e;show (t Z s).bind _=_;rw [e1,R.bind_ok];cases d with
 | true=>exact h _ _ _ _ e2 | false=>exact h2 _ _ _ _ e2
theorem LeM.ok{M N:Mir}(h:LeM M N){ds:List D}{s s':Sto}{d:D}(e:M ds s=.ok d s'):N ds s=.ok d s':=h ds s d s' e
end Dd
namespace PySem
end PySem
namespace L2
open PySem.Spec
end L2
namespace Dd
open PySem.Spec L2
open PySem.W
def kev{α:Type}(n:Nat)(lt:Nat->Nat->Bool):KasT α->Option α
 | .ret a=>some a | .ask i j k=>if i<n/\j<n then kev n lt (k (lt i j)) else none
theorem zfr{α:Type}{n:Nat}{lt:Nat->Nat->Bool}{cmp:Nat->Nat->(Bool->Shared->Prop)->Shared->Prop}{Q:α->Shared->Prop}{s:Shared}(hc:∀ i j C,i<n->j<n->C (lt i j) s->cmp i j C s): ∀ (t:KasT α)(a:α),kev n lt t=some a->Q a s->t.kasWp cmp Q s
 | .ret a,b,e,h=>by
  simp only [kev,Option.some.injEq] at e;subst e;exact h | .ask i j k,b,e,h=>by
  unfold kev at e;split at e
  ·rename_i hij;exact hc i j _ hij.1 hij.2 (zfr hc (k (lt i j)) b e h)
  ·cases e
def lexLt(p q:Int×Int):Bool:=if p.1=q.1 then (if p.2=q.2 then false else decide (p.2<q.2)) else decide (p.1<q.1)
def z9z(h:Heap)(v:Value)(p:Int×Int):Prop:=∃ a o n t u,v=.ref a/\h.get? a=some o/\o.cls=.type "tuple"/\o.data=.seq #[.int p.1 t,.int p.2 u] n
inductive xO (h:Heap):List Value->List (Int×Int)->Prop | nil:xO h [] [] | cons {v p vs ps}:z9z h v p->xO h vs ps->xO h (v::vs) (p::ps)
theorem xO.length{h:Heap}:∀ {vs ps},xO h vs ps->vs.length=ps.length
 | _,_,.nil=>rfl | _,_,.cons _ r=>by simp [r.length]
theorem xO.at_{h:Heap}:∀ {vs ps},xO h vs ps->∀ i,i<ps.length->z9z h (vs.getD i .none) (ps.getD i (0,0))
 | _,_,.nil,i,hi=>by simp at hi | _,_,.cons p r,0,_=>by simpa using p | _,_,.cons p r,i+1,hi=>by simpa using r.at_ i (by simpa using hi)
theorem xO.mono{h h':Heap}(k:∀ b o,h.get? b=some o->h'.get? b=some o):∀ {vs ps},xO h vs ps->xO h' vs ps
 | _,_,.nil=>.nil | _,_,.cons ⟨a,o,n,t,u,e,g,c,d⟩ r=>.cons ⟨a,o,n,t,u,e,k _ _ g,c,d⟩ (r.mono k)
theorem xO.tups{h:Heap}:∀ {vs ps},xO h vs ps->∃ fs,KatTups h vs fs/\fs.length=ps.length/\∀ v∈fs,∃ i t,v=.int i t
 | _,_,.nil=>⟨[],KatTups.nil,rfl,fun v hv=>by cases hv⟩ | _,_,.cons (p:=p) ⟨a,o,n,t,u,e,g,c,d⟩ r=>by
  obtain ⟨fs,k,l,m⟩:=r.tups;subst e;refine ⟨.int p.1 t::fs,KatTups.cons g c d rfl k,by simp [l],fun v hv=>?_⟩;rcases List.mem_cons.mp hv with rfl | hv;·exact ⟨_,_,rfl⟩
  ·exact m v hv
section
variable {prog:Program}{w:World}{A:Around}{E:Value->Shared->Prop}{s:Shared}
theorem zgg{v u:Value}{p q:Int×Int}{C:Bool->Shared->Prop}(hv:z9z s.heap v p)(hu:z9z s.heap u q)(h:C (lexLt p q) s):wpAny (model prog w) A (keyLt' (tuples' true) v u) C E s:=by
 obtain ⟨a,o,n,t,t',rfl,g,c,d⟩:=hv;obtain ⟨b,o',n',x,x',rfl,g',c',d'⟩:=hu;refine kat_lt g d g' d' (kat_cons (wpAny_eqBool_int (kat_go (fun e=>kat_yes (kat_cons (wpAny_eqBool_int (kat_go (fun e2=>kat_yes (kat_nil ?_)) fun e2=>kat_no ?_)))) fun e=>kat_no ?_)))
 ·have e1:p.1=q.1:=by simpa using e
  have e3:p.2=q.2:=by simpa using e2
  simpa [lexLt,e1,e3] using h
 ·have e1:p.1=q.1:=by simpa using e
  have e3:¬ p.2=q.2:=by simpa using e2
  refine kat_one _ _ (PyProof.Rows.lt_int ?_);show C _ s;simpa [lexLt,e1,e3] using h
 ·have e1:¬ p.1=q.1:=by simpa using e
  have hb:(true&&((0:Nat)==0))=true:=rfl;rw [hb];refine oneLt_int ?_;simpa [lexLt,e1] using h
theorem zaY{vs:List Value}{ps:List (Int×Int)}{Q:SortKind->Shared->Prop}(hp:xO s.heap vs ps)(h0:0<ps.length)(h:Q (tuples' true) s):wpAny (model prog w) A (keyKind' vs.toArray) Q E s:=by
 obtain ⟨fs,k,l,m⟩:=hp.tups;refine kat_kind (T:=.type "int") k (by rw [l];exact h0) (fun v hv=>?_) rfl h;obtain ⟨i,t,rfl⟩:=m v hv;exact Looks.of_pure rfl
def zeA(vs:List Value)(p:Array Nat):Array Value:=List.toArray (p.toList.map fun i=>vs.getD i Value.none)
theorem z7E {a:Addr} {vs:List Value} {ps:List (Int×Int)} {n:Nat} {p:Array Nat} {P:PySem.Fin->Shared->Prop} (ho:s.heap.get? a=some (seqObj "list" vs.toArray n)) (hp:∀ h',(∀ b o,b≠a->s.heap.get? b=some o->h'.get? b=some o)->xO h' vs ps) (h2:2<=vs.length) (h64:vs.length<64) (he:kev ps.length (fun i j=>lexLt (ps.getD i (0,0)) (ps.getD j (0,0))) (kas_sort ps.length)=some p) (h:P (.done (.ret .none)) {s with heap:=sortedHeap s.heap a vs (zeA vs p)}):wpAny (model prog w) A (Builtin.«list.sort» ⟨[.ref a],[]⟩) P E s:=by
 have ha:a<s.heap.objs.size:=Heap.lt_size ho;have hline:vs.length<=sizeLine:=by rw [sizeLine_eq];omega
 have lenP:vs.length=ps.length:=(hp s.heap fun _ _ _ e=>e).length;obtain ⟨e1,g1⟩:∃ e1,(s.heap.update a (Obj.mapSeq fun _=>(#[]:Array Value))).get? a=some (seqObj "list" #[] e1):=⟨_,get?_update_seq ho fun _=>#[]⟩;have g2:(((s.heap.update a (Obj.mapSeq fun _=>(#[]:Array Value))).push (seqObj "tuple" vs.toArray 0)).push (seqObj "list" #[] 0)).get? a=some (seqObj "list" #[] e1):=Heap.get?_push_of_some _ (Heap.get?_push_of_some _ g1);have hp1:xO (((s.heap.update a (Obj.mapSeq fun _=>(#[]:Array Value))).push (seqObj "tuple" vs.toArray 0)).push (seqObj "list" #[] 0)) vs ps:=hp _ fun b o hb e=> Heap.get?_push_of_some _ (Heap.get?_push_of_some _ (((Heap.SameBut.update s.heap a (Obj.mapSeq fun _=>(#[]:Array Value))).2 b hb).trans e));rw [list_sort_plain];refine wpAny_bind (listItems_at ho rfl (wpAny_bind (listUpdate_at ho rfl (wpAny_bind (seqEpoch_at g1 rfl (wpAny_bind (wpAny_newTuple (wpAny_bind (wpAny_newList (wpAny_holding ?_) (Nat.zero_le _))) hline)))) (by rw [List.size_toArray];exact hline) (Nat.zero_le _))));have big:¬ vs.toArray.size<2:=by rw [List.size_toArray];omega
 dsimp only;rw [if_neg big,if_neg big];refine wpAny_bind (zaY (s:={s with heap:=((s.heap.update a (Obj.mapSeq fun _=>(#[]:Array Value))).push (seqObj "tuple" vs.toArray 0)).push (seqObj "list" #[] 0)}) hp1 (by omega) ?_);refine wpAny_bind (wpAny_mono (kat_run (ks:=vs) (vs:=vs) (G:=fun q s'=>q=p/\s'={s with heap:=((s.heap.update a (Obj.mapSeq fun _=>(#[]:Array Value))).push (seqObj "tuple" vs.toArray 0)).push (seqObj "list" #[] 0)}) (Q:=fun st' s'=>∃ q:Array Nat,q.size=vs.length/\arrOf st'=q.map (kas_item (vs.toArray.zip vs.toArray))/\failedOf st'=none/\q=p/\s'={s with heap:=((s.heap.update a (Obj.mapSeq fun _=>(#[]:Array Value))).push (seqObj "tuple" vs.toArray 0)).push (seqObj "list" #[] 0)}) rfl h2 h64 (fun q st' s' a1 a2 a3 a4=>⟨q,a1,a2,a3,a4⟩) (zfr (n:=ps.length) (fun i j C hi hj hC=>?_) _ p (by rw [lenP];exact he) ⟨rfl,rfl⟩)) ?_ fun _ _ z=>z);·exact zgg (hp1.at_ i hi) (hp1.at_ j hj) hC
 rintro ⟨⟨⟩,st'⟩ s' ⟨q,hq,har,hf,rfl,rfl⟩;dsimp only;have out:=kat_snds (ks:=vs) (vs:=vs) rfl har;rw [out,hf];refine wpAny_bind (seqEpoch_at g2 rfl (wpAny_bind (listUpdate_at g2 rfl ?_ (Nat.zero_le _) (by rw [List.size_toArray,List.length_map,Array.length_toList,hq];exact Nat.le_succ_of_le hline))));simp only [bne_self_eq_false,Bool.false_eq_true,if_false];exact wpAny_pure h
theorem zd4 {l:Addr} {vs:List Value} {ps:List (Int×Int)} {p:Array Nat} {Q:Value->Shared->Prop} (hl:s.heap.IsList l vs.toArray) (hp:xO s.heap vs ps) (h2:2<=vs.length) (h64:vs.length<64) (he:kev ps.length (fun i j=>lexLt (ps.getD i (0,0)) (ps.getD j (0,0))) (kas_sort ps.length)=some p) (h:Q (.ref (s.heap.objs.size+1)) {s with heap:=sortedAll s.heap vs (zeA vs p)}): wpAny (model prog w) A (call (.builtin "sorted") [.ref l]) Q E s:=by
 have hline:vs.length<=sizeLine:=by rw [sizeLine_eq];omega
 refine Calls.call_function_entry kind_sorted plain_sorted entry_sorted (args_sorted1 _) ?_;unfold Builtin.«sorted»;refine wpAny_bind (m:=checkCount "sorted" 1 1 _) (wpAny_pure (wpAny_bind (collect_list hl (wpAny_bind (wpAny_newList ?_ (by rw [sizeLine_eq];omega))) (by rw [sizeLine_eq];omega))));have sz:((s.heap.push (seqObj "list" #[] 0)).update s.heap.objs.size (Obj.mapSeq (· ++ vs.toArray))).objs.size=s.heap.objs.size+1:=by rw [Heap.size_update,size_push']
 have g:(((s.heap.push (seqObj "list" #[] 0)).update s.heap.objs.size (Obj.mapSeq (· ++ vs.toArray))).push (seqObj "list" vs.toArray 0)).get? (s.heap.objs.size+1)=some (seqObj "list" vs.toArray 0):=by
  rw [<- sz];exact Heap.get?_push_size _ rfl
 have keep:∀ b o,s.heap.get? b=some o->(((s.heap.push (seqObj "list" #[] 0)).update s.heap.objs.size (Obj.mapSeq (· ++ vs.toArray))).push (seqObj "list" vs.toArray 0)).get? b=some o/\b≠s.heap.objs.size+1:=fun b o q=>by
  have lt:b<s.heap.objs.size:=Heap.lt_size q;refine ⟨?_,Nat.ne_of_lt (Nat.lt_succ_of_lt lt)⟩;rw [Heap.get?_push_ne _ _ _ (by rw [sz];exact Nat.ne_of_lt (Nat.lt_succ_of_lt lt)),Heap.get?_update_ne _ _ _ _ (Nat.ne_of_lt lt),Heap.get?_push_ne _ _ _ (Nat.ne_of_lt lt)];exact q
 show wpAny (model prog w) _ _ _ _ {s with heap:=((s.heap.push (seqObj "list" #[] 0)).update s.heap.objs.size (Obj.mapSeq (· ++ vs.toArray))).push (seqObj "list" vs.toArray 0)};rw [sz];exact wpAny_bind (wpAny_holding (wpAny_call_entry slot_list_sort ⟨_,g,rfl⟩ entry_list_sort (z7E g (fun h' k=>hp.mono fun b o q=>k b o (keep b o q).2 (keep b o q).1) h2 h64 he ⟨_,rfl,wpAny_pure ⟨_,rfl,h⟩⟩) (args_list_sort _)))
end
section
variable {X:Cx}{E:XK}
def z1I:List D->Option (List (Int×Int))
 | []=>some [] | .tup [.int a,.int b]::r=>(z1I r).map fun t=>(a,b)::t | _=>none
def zhd(K:W.Frag):List V->Hp->VK->Prop:=fun xs H Q=>∃ (l:Addr)(ys:List V)(ps:List (Int×Int))(p:Array Nat),xs=[.ref l]/\SqL K H l ys/\ys.length=ps.length/\2<=ys.length/\ys.length<64/\ (∀ i,i<ps.length->∃ a,ys[i]? = some (.ref a)/\SqT K H a [.int (ps.getD i (0,0)).1,.int (ps.getD i (0,0)).2])/\ kev ps.length (fun i j=>lexLt (ps.getD i (0,0)) (ps.getD j (0,0))) (kas_sort ps.length)=some p/\(∀ i∈p.toList,i<ys.length)/\p.toList.length=ys.length/\∀ r,H r=none->Q (.ref r) (upd H r (.lst (p.toList.map fun i=>ys.getD i .non)))
theorem z9K{pins:List (Addr×Obj)}{O:L2.St}{H:Hp}{s:Shared}(I:Inv X pins O H s):∀ {ys:List V}{its:List Value}{ps:List (Int×Int)},yY ys its->ys.length=ps.length-> (∀ i,i<ps.length->∃ a,ys[i]? = some (.ref a)/\SqT X.K H a [.int (ps.getD i (0,0)).1,.int (ps.getD i (0,0)).2])->xO s.heap its ps
 | [],_,[],.nil,_,_=>.nil | [],_,_::_,_,l,_=>by simp at l | _::_,_,[],_,l,_=>by simp at l | y::ys,_,q::ps,.cons r rs,l,h=>by
  refine .cons ?_ (z9K I rs (by simpa using l) fun i hi=>by simpa using h (i+1) (by simpa using hi));obtain ⟨a,e,t⟩:=h 0 (by simp);simp only [List.getElem?_cons_zero,Option.some.injEq] at e;subst e;cases r;obtain ⟨its',r',pl,_⟩:=I.tuple t;obtain ⟨o,ho,hc,n,hd⟩:=pl;simp only [List.getD_cons_zero] at r';obtain ⟨u,us,rfl⟩:∃ u us,its'=u::us:=by cases r';exact ⟨_,_,rfl⟩
  cases r' with | cons r1 r2=>
   obtain ⟨t1,rfl⟩:=r1;obtain ⟨t2,rfl,t3,rfl⟩:=vals1 r2;exact ⟨a,o,n,t1,t3,rfl,ho,hc,hd⟩
theorem z6A:∀ {ys:List V}{its:List Value},yY ys its->∀ i,i<ys.length->wm (ys.getD i .non) (its.getD i .none)
 | [],_,.nil,i,hi=>by simp at hi | y::ys,_,.cons r rs,0,_=>by simpa using r | y::ys,_,.cons r rs,i+1,hi=>by simpa using z6A rs i (by simpa using hi)
theorem z9i{ys:List V}{its:List Value}(h:yY ys its):∀ (p:List Nat),(∀ i∈p,i<ys.length)->yY (p.map fun i=>ys.getD i .non) (p.map fun i=>its.getD i .none)
 | [],_=>.nil | i::p,hp=>.cons (z6A h i (hp i (.head _))) (z9i h p fun j hj=>hp j (.tail _ hj))
theorem z6w:wu X (.builtin "sorted") (zhd X.K):=by
 intro pins s O H xs us Q I r h;obtain ⟨l,ys,ps,p,rfl,hq,len,h2,h64,hps,he,hp,hpl,q⟩:=h;obtain ⟨u,rfl,rx⟩:=vals1 r;cases rx;obtain ⟨its,r',pl,hz⟩:=I.list hq;have hlen:=r'.length;refine zd4 (ps:=ps) (p:=p) pl.isList (z9K I r' len hps) (by omega) (by omega) he ?_;obtain ⟨c',e⟩:=sortedAll_at s.heap its (zeA its p);refine ⟨.ref (s.heap.objs.size+1),_,I.laid (t':=s.toks) (fun b o z=>sortedAll_old z) (Nat.le_succ _) (show wl X.prog X.w _ (sortedAll s.heap its (zeA its p)) _ (.lst (p.toList.map fun i=>ys.getD i .non)) from ⟨?_,_,c',z9i r' p.toList hp,e⟩),rfl,q _ (I.hok.fresh (Nat.le_succ _))⟩;rw [List.length_map,hpl];exact hz
def z3N:List D->Sto->R D
 | [d],s=>match listOf s d with
  | some xs=>match z1I xs with
   | some ps=>if 2<=xs.length/\xs.length<64 then match kev ps.length (fun i j=>lexLt (ps.getD i (0,0)) (ps.getD j (0,0))) (kas_sort ps.length) with
     | some p=>if p.toList.all (fun i=>decide (i<xs.length))=true/\p.toList.length=xs.length then .ok (.lst (p.toList.map fun i=>xs.getD i .non)) s else .no | none=>.no else .no | none=>.no
  | none=>.no
 | _,_=>.no
theorem z3M{mg:Gm}{H:Hp}{Y:List Addr}:∀ {xs:List D}{ps:List (Int×Int)}{vs:List V},z1I xs=some ps->zF mg H Y xs vs->xs.length=ps.length/\ ∀ i,i<ps.length->∃ a,vs[i]? = some (.ref a)/\SqT mg.K H a [.int (ps.getD i (0,0)).1,.int (ps.getD i (0,0)).2]
 | [],ps,vs,e,h=>by
  simp only [z1I,Option.some.injEq] at e;subst e;exact ⟨rfl,fun i hi=>by simp at hi⟩ | x::xs,ps,vs,e,h=>by
  unfold z1I at e;split at e;·simp at *
  ·rename_i a b r z;cases z;cases q:z1I xs with
   | none=>rw [q] at e;simp at e | some t=>
    rw [q] at e;simp only [Option.map_some,Option.some.injEq] at e;subst e;simp only [zF] at h;obtain ⟨v,ws,rfl,h1,h2⟩:=h;obtain ⟨l,k⟩:=z3M q h2;refine ⟨by simp [l],fun i hi=>?_⟩;cases i with
    | zero=>
     obtain ⟨c,us,rfl,q1,q2⟩:=jB (K:=mg.K) h1;obtain ⟨v1,v2,rfl,d1,d2⟩:=zar q2;cases yG d1;cases yG d2;exact ⟨c,rfl,q1⟩ | succ i=>simpa using k i (by simpa using hi)
  ·cases e
theorem z6L{mg:Gm}{H:Hp}{Y:List Addr}:∀ {xs:List D}{vs:List V},zF mg H Y xs vs->∀ i,i<xs.length->Den mg H Y (xs.getD i .non) (vs.getD i .non)
 | [],_,_,i,hi=>by simp at hi | x::xs,vs,h,i,hi=>by
  simp only [zF] at h;obtain ⟨v,ws,rfl,h1,h2⟩:=h;cases i with
  | zero=>simpa using h1 | succ i=>simpa using z6L h2 i (by simpa using hi)
theorem zae{mg:Gm}{H:Hp}{Y:List Addr}{xs:List D}{vs:List V}(h:zF mg H Y xs vs):∀ (p:List Nat),(∀ i∈p,i<xs.length)->zF mg H Y (p.map fun i=>xs.getD i .non) (p.map fun i=>vs.getD i .non)
 | [],_=>by simp [zF] | i::p,hp=>by
  simp only [List.map_cons,zF];exact ⟨_,_,rfl,z6L h i (hp i (.head _)),zae h p fun j hj=>hp j (.tail _ hj)⟩
theorem zeh:∃ r,wu X (.builtin "sorted") r/\z1n X E r z3N:=⟨_,z6w.freeze,fun H Y s ds vs Q r hd h=>by
 unfold z3N at h;split at h
 ·split at h
  ·rename_i d xs e;split at h
   ·rename_i ps eps;split at h
    ·rename_i h2;split at h
     ·rename_i p ep;split at h
      ·rename_i hp;obtain ⟨v,rfl,dn⟩:=z1s hd;obtain ⟨a,ws,rfl,q1,q2⟩:=yg r e dn;obtain ⟨l,k⟩:=z3M eps q2;have hl:=q2.length;have hin:∀ i∈p.toList,i<xs.length:=fun i hi=>by simpa using List.all_eq_true.mp hp.1 i hi
       exact ⟨a,ws,ps,p,rfl,.inl q1,by omega,by omega,by omega,k,ep,fun i hi=>by have:=hin i hi;omega,by rw [hp.2];omega,kZ r h (zae q2 _ hin)⟩
      ·exact h.elim
     ·exact h.elim
    ·exact h.elim
   ·exact h.elim
  ·exact h.elim
 ·exact h.elim⟩
end
end Dd
namespace L2
open PySem.Spec
section
variable {X:Cx}{v1 v2 e:Expr}{t1 t2 te:TE}{k1 k2:Str}{apos cpos dpos p1 p2:Pos}{j1 j2:Nat}
theorem zbo(hk:k1≠k2)(h1:PE X v1 t1)(h2:PE X v2 t2)(he:PE X e te) (hbase:attributeBase (.Dict [some (.Constant (.str k1) j1 p1),some (.Constant (.str k2) j2 p2)] [v1,v2] dpos) "get" X.env (eval (.Dict [some (.Constant (.str k1) j1 p1),some (.Constant (.str k2) j2 p2)] [v1,v2] dpos) X.env) = eval (.Dict [some (.Constant (.str k1) j1 p1),some (.Constant (.str k2) j2 p2)] [v1,v2] dpos) X.env:=by rfl) (hfew:((backTo cpos (starEach [e] X.env)).all (fun x=>!x.1)&&(backToKw cpos (keywordEach [] X.env)).all (fun x=>x.1.isSome) && decide ([e].length+([]:List Keyword).length+(if ([]:List Keyword).isEmpty then 0 else 1)<30))=true:=by rfl) (hline:(apos.endLine==cpos.line)=true:=by rfl)(hs:backTo cpos (starEach [e] X.env)=[(false,eval e X.env)]:=by rfl): PE X (.Call (.Attribute (.Dict [some (.Constant (.str k1) j1 p1),some (.Constant (.str k2) j2 p2)] [v1,v2] dpos) "get" apos) [e] [] cpos) (fun O H Q=>t1 O H fun x1 H1=>t2 O H1 fun x2 H2=>te O H2 fun y H3=>∃ k,y=.str k/\Q (if k=k1 then x1 else if k=k2 then x2 else .non) H3):=by
 intro pins s O H Q I h;refine wpAny_Call_method_late hbase hfew hline hs (wpAny_Dict_walk (knd:=strKind X.prog X.w) rfl rfl (by simp) (Nat.le_of_ble_eq_true rfl) ?_);have far:=I.far;have I0:Inv X pins O H {s with heap:=s.heap.push {cls:=.type "dict",data:=.dict #[]}}:=I.kept (t':=s.toks) fun b u z=>Heap.get?_push_of_some _ z;have fp:∀ b∈[s.heap.objs.size],z6s X pins H b:=fun b hb=>by
  cases List.mem_singleton.mp hb;exact I.fpOk (Nat.le_refl _) (I.hok.fresh (Nat.le_refl _))
 have g0:(s.heap.push {cls:=.type "dict",data:=.dict #[]}).get? s.heap.objs.size=some {cls:=.type "dict",data:=.dict #[]}:=Heap.get?_push_size _ rfl;have I1:=I0.pinned fp fun b hb=>by
  cases List.mem_singleton.mp hb;exact ⟨_,g0,by intro v z;cases z⟩
 have d0:(s.heap.push {cls:=.type "dict",data:=.dict #[]}).DictOf (strKind X.prog X.w) s.heap.objs.size []:=Heap.DictOf.new _;refine pairTrees_cons_walk (Calls.Constant_str (thn (h1 _ _ O H _ (I1.tok _) h) fun u1 s1 ⟨x1,H1,I2,r1,q1⟩=>?_));refine pairTrees_cons_walk (Calls.Constant_str (thn (h2 _ _ O H1 _ (I2.tok _) q1) fun u2 s2 ⟨x2,H2,I3,r2,q2⟩=>pairTrees_nil_walk ?_));have pin:=I3.pin _ (List.mem_append_right _ (List.mem_append_right _ (qA (.head _) g0)));refine ⟨[(k1,u1),(k2,u2)],⟨strKind_is _ _ _ _,rfl,strKind_is _ _ _ _,rfl,True.intro⟩,d0.at fun o z=>?_,fun h' dd sb=>?_⟩
 ·rw [g0] at z;cases z;exact pin.1
 have em:merged ([]:List (Str×Value)) [(k1,u1),(k2,u2)]=[(k1,u1),(k2,u2)]:=by simp [merged,stored,hk]
 rw [em] at dd;obtain ⟨f0,f1,f2,f3,f4,f5⟩:=fp _ (.head _);have I4:Inv X pins O H2 {s2 with heap:=h',toks:=s2.toks+2}:=I3.unpinned.turned (it:=s.heap.objs.size) (fun b o hb z=>(sb.2 b hb).trans z) pin.2.1 pin.2.2.1 f3 f4 f5;obtain ⟨od,es,ep,ho,hx,hd,_⟩:=dd;have fp2:∀ b∈[s.heap.objs.size],z6s X pins H2 b:=fun b hb=>by
  cases List.mem_singleton.mp hb;exact ⟨pin.2.1,f1,f2,f3,f4,f5⟩
 have I5:=I4.pinned fp2 fun b hb=>by
  cases List.mem_singleton.mp hb;exact ⟨_,ho,by intro v z;rw [hd] at z;cases z⟩
 have dd:h'.DictOf (strKind X.prog X.w) s.heap.objs.size [(k1,u1),(k2,u2)]:=⟨od,es,ep,ho,hx,hd,by assumption⟩;refine ⟨"dict","dict.get",PySem.F.plainAttrs_dict,PySem.F.slot_dict_get,PySem.F.type_dict_get,Heap.DictOf.typeIs (s:={s2 with heap:=h',toks:=s2.toks+2}) dd,fun a z=>?_,?_⟩
 ·cases z;exact ⟨od,ho,hx.2.1⟩
 refine Calls.callWith_builtin rfl (Calls.evalArgs_plain (Calls.spliced_cons (thn (he _ _ O H2 _ I5 q2) fun u3 s3 ⟨y,H3,I6,r3,k,ey,q3⟩=>Calls.spliced_nil ?_)));subst ey;obtain ⟨t,rfl⟩:=r3;have pin2:=I6.pin _ (List.mem_append_right _ (List.mem_append_right _ (qA (.head _) ho)));have dd3:s3.heap.DictOf (strKind X.prog X.w) s.heap.objs.size [(k1,u1),(k2,u2)]:=dd.at fun o z=>by
  have z':h'.get? s.heap.objs.size=some o:=z;rw [ho] at z';cases z';exact pin2.1
 refine call_meetsIn PySem.F.slot_dict_get dd3.typeIs PySem.F.entry_dict_get (PySem.F.args_dict_get_2 _ _) (meets_dict_get (strKind X.prog X.w) s.heap.objs.size (strKind_is _ _ k t) far) ⟨_,dd3.mapOf,_,H3,I6.unpinned.tok _,?_,q3⟩;by_cases c1:k=k1
 ·subst c1;simpa [valueAt] using r1
 ·by_cases c2:k=k2
  ·subst c2;simpa [valueAt,hk,c1] using r2
  ·have e1:¬ k1=k:=fun z=>c1 z.symm;have e2:¬ k2=k:=fun z=>c2 z.symm;simp only [valueAt,List.find?,e1,e2,c1,c2,decide_false,if_false,Option.map_none,Option.getD_none];rfl
end
open PySem.Builtin.Str
section
variable {X:Cx}{o e:Expr}{to te:TE}{apos cpos pos:Pos}
theorem zdj(ho:PE X o to)(hbase:attributeBase o "upper" X.env (eval o X.env)=eval o X.env:=by rfl)(hline:(apos.endLine==cpos.line)=true:=by rfl): PE X (.Call (.Attribute o "upper" apos) [] [] cpos) (fun O H Q=>to O H fun x H1=>∃ z,x=.str z/\tooLong (Txt.upper z).length=false/\Q (.str (Txt.upper z)) H1):=by
 intro pins s O H Q I h;refine Call_method0 hbase hline (thn (ho pins s O H _ I h) fun v s1 ⟨x,H1,I1,r1,z,ez,hz,q⟩=>?_);subst ez;obtain ⟨t,rfl⟩:=r1;exact SB.upper hz ⟨.str (Txt.upper z),H1,I1.tok _,⟨_,rfl⟩,q⟩
def zmX:V->Option Int->Option Int->Hp->VK->Prop:=fun x lo hi H Q=>∃ z i,x=.str z/\lo=some i/\hi=none/\z.length<=sizeLine/\Q (.str (Txt.slice z (some i) none)) H
theorem ziz:SlR X zmX:=by
 intro pins s O H x v vl vu lo hi sl Q I rx hs pl pu h;obtain ⟨z,i,rfl,rfl,rfl,hz,q⟩:=h;obtain ⟨t,rfl⟩:=rx;obtain ⟨ob,ho,hc,hd⟩:=hs;cases pl with | int i ti=> cases pu with | none=>
   refine ⟨"str",_,PySem.F.slot_str_getitem.lookup,typeIs_str _ _ _,wpAny_getItem_str_slice (l:=some (i,ti)) (u:=none) (st:=none) ⟨ob,ho,hc,hd⟩ rfl (post_val_or_str ⟨Nat.le_trans (Txt.slice_le z _ _) hz,fun t' k=>?_⟩)⟩;exact ⟨.str (Txt.slice z (some i) none),H,I.tok _,⟨_,rfl⟩,q⟩
end
end L2
namespace Dd
open PySem.Spec L2 PySem.Builtin.Str
section
variable {X:Cx}{E:XK}{o e v1 v2:Expr}{apos cpos dpos p1 p2 pos:Pos}{k1 k2:Str}{j1 j2:Nat}
theorem z95{mg:Gm}{H:Hp}{Y:List Addr}{z:Str}:Den mg H Y (.str z) (.str z):=by simp [Den]
def zfl(f:FE):FE:=fun Z s=>(f Z s).bind fun d s1=>match d with
 | .str z=>if tooLong (Txt.upper z).length=false then .ok (.str (Txt.upper z)) s1 else .no | _=>.no
theorem zgz{f:FE}(ho:RE X E o f)(hbase:attributeBase o "upper" X.env (eval o X.env)=eval o X.env:=by rfl)(hline:(apos.endLine==cpos.line)=true:=by rfl): RE X E (.Call (.Attribute o "upper" apos) [] [] cpos) (zfl f):=zW (zdj ho hbase hline) fun O H Q ⟨Y,Z,s,r,en,h⟩=>by
 refine yz (k:=fun Z d s1=>match d with | .str z=>if tooLong (Txt.upper z).length=false then R.ok (D.str (Txt.upper z)) s1 else .no | _=>.no) r en h _ fun v H1 Y1 s1 d r1 en1 dn stp h1=>?_;cases d with
 | str z=>
  cases jR dn;simp only at h1;split at h1
  ·rename_i hz;exact ⟨z,rfl,hz,h1.here r1 z95⟩
  ·exact h1.elim | _=>exact h1.elim
def zlK(f:FE)(fl:FO):FE:=fun Z s=>(f Z s).bind fun d s1=>(fl Z s1).bind fun lo s2=>match d,lo with
 | .str z,some i=>if z.length<=cap then .ok (.str (Txt.slice z (some i) none)) s2 else .no | _,_=>.no
theorem zdp{lo:Option Expr}{p2:Pos}{fe:FE}{fl:FO}(he:RE X E e fe)(hl:RO X E lo fl):RE X E (.Subscript e (.Slice lo none none p2) pos) (zlK fe fl):= zW (z9t ziz he hl zcJ) fun O H Q ⟨Y,Z,s,r,en,h⟩=>by
  refine yz (k:=fun Z d s1=>(fl Z s1).bind fun lo s2=>match d,lo with | .str z,some i=>if z.length<=cap then R.ok (D.str (Txt.slice z (some i) none)) s2 else .no | _,_=>.no) r en h _ fun v H1 Y1 s1 d r1 en1 dn stp h1=>?_;refine z98 (k:=fun Z lo s2=>match d,lo with | .str z,some i=>if z.length<=cap then R.ok (D.str (Txt.slice z (some i) none)) s2 else .no | _,_=>.no) r1 en1 h1 _ fun lo H2 Y2 s2 r2 en2 stp2 h2=>?_;cases d with
  | str z=>
   cases jR dn;cases lo with
   | none=>exact h2.elim | some i=>
    simp only at h2;split at h2
    ·rename_i hz;exact ⟨z,i,rfl,rfl,rfl,jz hz,h2.here r2 z95⟩
    ·exact h2.elim
  | _=>cases lo<;>exact h2.elim
def zef:D->D->Sto->R D
 | .str a,.str b,s=>if a.length+b.length<=cap then .ok (.str (a++b)) s else .no | _,_,_=>.no
theorem zfq:∃ r,OpR X (binaryOp .Add) r/\OpF X E r zef:=by
 refine ⟨_,zaK,?_⟩;intro H Y s d1 d2 v1 v2 Q r h1 h2 h;unfold zef at h;split at h
 ·rename_i a b;cases jR h1;cases jR h2;split at h
  ·rename_i hl;exact ⟨a,b,rfl,rfl,jz hl,h.here r z95⟩
  ·exact h.elim
 ·exact h.elim
def zdt(k1 k2:Str)(f1 f2 fe:FE):FE:=fun Z s=>(f1 Z s).bind fun x1 s1=>(f2 Z s1).bind fun x2 s2=>(fe Z s2).bind fun y s3=>match y with
 | .str k=>.ok (if k=k1 then x1 else if k=k2 then x2 else .non) s3 | _=>.no
theorem zhW{f1 f2 fe:FE}(hk:k1≠k2)(h1:RE X E v1 f1)(h2:RE X E v2 f2)(he:RE X E e fe) (hbase:attributeBase (.Dict [some (.Constant (.str k1) j1 p1),some (.Constant (.str k2) j2 p2)] [v1,v2] dpos) "get" X.env (eval (.Dict [some (.Constant (.str k1) j1 p1),some (.Constant (.str k2) j2 p2)] [v1,v2] dpos) X.env) = eval (.Dict [some (.Constant (.str k1) j1 p1),some (.Constant (.str k2) j2 p2)] [v1,v2] dpos) X.env:=by rfl) (hfew:((backTo cpos (starEach [e] X.env)).all (fun x=>!x.1)&&(backToKw cpos (keywordEach [] X.env)).all (fun x=>x.1.isSome) && decide ([e].length+([]:List Keyword).length+(if ([]:List Keyword).isEmpty then 0 else 1)<30))=true:=by rfl) (hline:(apos.endLine==cpos.line)=true:=by rfl)(hs:backTo cpos (starEach [e] X.env)=[(false,eval e X.env)]:=by rfl): RE X E (.Call (.Attribute (.Dict [some (.Constant (.str k1) j1 p1),some (.Constant (.str k2) j2 p2)] [v1,v2] dpos) "get" apos) [e] [] cpos) (zdt k1 k2 f1 f2 fe):= zW (zbo hk h1 h2 he hbase hfew hline hs) fun O H Q ⟨Y,Z,s,r,en,h⟩=>by
  refine yz (k:=fun Z x1 s1=>(f2 Z s1).bind fun x2 s2=>(fe Z s2).bind fun y s3=>match y with | .str k=>R.ok (if k=k1 then x1 else if k=k2 then x2 else D.non) s3 | _=>.no) r en h _ fun u1 H1 Y1 s1 x1 r1 en1 d1 st1 h1=>?_;refine yz (k:=fun Z x2 s2=>(fe Z s2).bind fun y s3=>match y with | .str k=>R.ok (if k=k1 then x1 else if k=k2 then x2 else D.non) s3 | _=>.no) r1 en1 h1 _ fun u2 H2 Y2 s2 x2 r2 en2 d2 st2 h2=>?_;refine yz (k:=fun Z y s3=>match y with | .str k=>R.ok (if k=k1 then x1 else if k=k2 then x2 else D.non) s3 | _=>.no) r2 en2 h2 _ fun u3 H3 Y3 s3 y r3 en3 d3 st3 h3=>?_;cases y with
  | str k=>
   cases jR d3;refine ⟨k,rfl,h3.here r3 ?_⟩;split;·exact (d1.mono st2).mono st3
   ·split;·exact d2.mono st3
    ·simp [Den] | _=>exact h3.elim
end
end Dd
namespace Dd
open PySem.Spec L2
section
variable {X:Cx}{E:XK}{e a b c tg iter elt:Expr}{es:List Expr}{pos:Pos}{CX:CXT}
variable {scope:Scope}{ifs:List Expr}{fi:FI}{fg:FG}{ft:FT}{fe:FE}{g:TG}{spos py:Pos}
theorem zdV(N':List Str)(mp:List (Option Nat))(hc:X.calm=true)(hi:RI X E tg iter fi)(hg:∀ ex s H,PG (zT X N' scope ex s H) tg g)(hgt:z4b (gm X) E mp g fg)(ht:∀ ex s H,z8G (zT X N' scope ex s H) ifs (tT (gm X) E ft))(he:∀ ex s H,RE (zT X N' scope ex s H) E elt fe) (hkd:scope.kind=.function:=by rfl)(hnm:zcQ scope.names=true:=by rfl)(hfr:zbq X.env.kindOf scope.names=true:=by rfl)(hmp:z47 X.N scope.names N' mp=true:=by rfl) (hs:∀ x,foldedSetIterable iter X.env x=pure x:=by intro _;rfl):RE X E (.ListComp elt [⟨tg,iter,ifs,0⟩] scope pos) (z1O fi mp fg ft fe):= zW (zci (te:=tE (gm X) E fe) N' mp hc hi hg ht (fun ex s H=>he ex s H) hkd (z2O hnm) (z2P hfr) hmp hs) fun O H Q ⟨Y,Z,s,r,en,h⟩=>by
  refine z2H hgt r en h fun H1 Y1 s1 xs vs r1 en1 dn h1 hcap=>?_;split at h1
  ·rename_i hf;exact zd1 r1 h1 hf dn
  ·exact h1.elim
end
section
variable {X:Cx}{E:XK}{es:List Expr}{fa:FE}{fr:FA}
theorem aN{x:Str}{p:Pos}(ha:RE X E (.Name x p) fa)(hr:RA X E es fr):RA X E ((.Name x p)::es) (za fa fr):=vZ ha hr (zq ..)
theorem aK{c:Const}{j:Nat}{p:Pos}(ha:RE X E (.Constant c j p) fa)(hr:RA X E es fr):RA X E ((.Constant c j p)::es) (za fa fr):=vZ ha hr (z55 ..)
theorem aQ{g:Expr}{xs:List Expr}{ks:List Keyword}{p:Pos}(ha:RE X E (.Call g xs ks p) fa)(hr:RA X E es fr):RA X E ((.Call g xs ks p)::es) (za fa fr):=vZ ha hr (uh ..)
theorem aT{xs:List Expr}{k:Nat}{p:Pos}(ha:RE X E (.Tuple xs k p) fa)(hr:RA X E es fr):RA X E ((.Tuple xs k p)::es) (za fa fr):=vZ ha hr (z9k ..)
theorem aS{a b:Expr}{p:Pos}(ha:RE X E (.Subscript a b p) fa)(hr:RA X E es fr):RA X E ((.Subscript a b p)::es) (za fa fr):=vZ ha hr (z2R ..)
theorem aB{a b:Expr}{o:Operator}{p:Pos}(ha:RE X E (.BinOp a o b p) fa)(hr:RA X E es fr):RA X E ((.BinOp a o b p)::es) (za fa fr):=vZ ha hr (zdg ..)
theorem aL{xs:List Expr}{p:Pos}(ha:RE X E (.List xs p) fa)(hr:RA X E es fr):RA X E ((.List xs p)::es) (za fa fr):=vZ ha hr (zew ..)
theorem aO{a:Expr}{g:List Comprehension}{sc:Scope}{p:Pos}(ha:RE X E (.ListComp a g sc p) fa)(hr:RA X E es fr):RA X E ((.ListComp a g sc p)::es) (za fa fr):=vZ ha hr (zQ ..)
theorem aM{a:Expr}{o:List CmpOp}{b:List Expr}{p:Pos}(ha:RE X E (.Compare a o b p) fa)(hr:RA X E es fr):RA X E ((.Compare a o b p)::es) (za fa fr):=vZ ha hr (z2K ..)
theorem aU{o:UnaryOp}{a:Expr}{p:Pos}(ha:RE X E (.UnaryOp o a p) fa)(hr:RA X E es fr):RA X E ((.UnaryOp o a p)::es) (za fa fr):=vZ ha hr (zfI ..)
end
section
variable {q:Ask}{w:World}{K:W.Frag}{h:Heap}{mg:Str->Option Value}
theorem zL(X:K.In h)(G:h.Ns mainGlobals mg)(e:zbc q K=valS q w)(i:Nat){x:Str}{st:Stmt}(hx:q.fs[i]? = some (x,st)):∃ f fd,mg x=some (.ref f)/\Fun K x x st f fd:=let ⟨f,fd,a,F⟩:=zlx e x st (List.mem_of_getElem? hx);⟨f,fd,W.mg_of X G a,F⟩
theorem vJ(X:K.In h)(G:h.Ns mainGlobals mg)(e:zbc q K=valS q w)(i:Nat){x:Str}(hx:q.bs[i]? = some x):mg x=none:=W.mg_none_of X G (zjX e x (List.mem_of_getElem? hx))
theorem zeW(X:K.In h)(G:h.Ns mainGlobals mg)(e:zbc q K=valS q w)(i:Nat){x:Str}{c:Int}(hx:q.cs[i]? = some (x,c)):∃ t,mg x=some (.int c t):=let ⟨t,z⟩:=zki e x c (List.mem_of_getElem? hx);⟨t,W.mg_of X G z⟩
end
end Dd
namespace Pg
open PySem.Spec L2 Dd
def qJ:List (Str×Str):=[("next","by_next"),("least","by_least"),("all","by_all"),("turn","by_turn")]
@[simp] def z6Q:FS:=(xJ (z89 (eIs "int" (zc 0)) (zjq (eIs "bool" (zc 0)))))
def z0s:FS:=z6Q
def wO:Mir:=Mof ["thing"] 1 z0s
@[simp] def z7n:FS:=(xJ (z89 (eIs "tuple" (zc 0)) (zag dLe dLe (eC (.int 2)) (ze yJ (za (zc 0) zh)) (eC (.int 4)))))
def ut:FS:=z7n
def ym:Mir:=Mof ["thing"] 1 ut
@[simp] def z4g:FS:=(xJ (eC (.bl false)))
@[simp] def z48:FS:=(fIf (fOr (z40 (tOf (eIs "tuple" (zc 0)))) (tOf (eOp dNe (ze yJ (za (zc 0) zh)) (zc 1)))) z4g xp)
@[simp] def z04:FS:=(xJ (ze zap (za (zA (yx (zc 0)) [none] (yE 0) zX (ze wO (za (zc 0) zh))) zh)))
def jc:FS:=(zE z48 z04)
def yb:Mir:=Mof ["thing","many"] 2 jc
@[simp] def zb1:FS:=(xJ (eC (.bl false)))
@[simp] def zau:FS:=(fIf (fOr (z40 (tOf (ze ym (za (zc 0) zh)))) (z40 (tOf (ze yb (za (zc 0) (za (ze yJ (za (zc 0) zh)) zh)))))) zb1 xp)
@[simp] def zah:FS:=(xJ (z89 (eOp dGe (ze z4j (za (zc 0) zh)) (eC (.int 0))) (eOp dGt (ze vD (za (zc 0) zh)) (eC (.int 0)))))
def uq:FS:=(zE zau zah)
def yj:Mir:=Mof ["thing"] 1 uq
@[simp] def z7h:FS:=fNo
@[simp] def z7G:FS:=(fIf (z40 (tOf (ze yj (za (zc 0) zh)))) z7h xp)
def z33:FS:=z7G
def xf:Mir:=Mof ["thing"] 1 z33
@[simp] def z5n:FS:=(fIf (z40 (tOf (ze yj (za (zc 0) zh)))) (z9E "NoLot") xp)
def z1S:FS:=z5n
def vU:Mir:=z2Q ["thing"] 1 z1S
@[simp] def z61:FS:=(wQ (ze xf (za (zc 0) zh)))
@[simp] def z0K:FS:=(xJ (eOp dEq (ze yJ (za (zA (yx (zc 0)) [none] (yE 0) (tOf (eOp dNe (zc 0) (eC (.int 0)))) (zc 0)) zh)) (eC (.int 1))))
def z1K:FS:=(zE z61 z0K)
def yF:Mir:=Mof ["lot"] 1 z1K
@[simp] def z7l:FS:=(xJ (ze zj1 (za (zA (z86 (za (zc 0) (za (zc 1) zh))) [none,none] (wf 0 1) zX (eOp va (zc 0) (zc 1))) zh)))
def z43:FS:=z7l
def qw:Mir:=Mof ["line","numbers"] 2 z43
@[simp] def z00:FS:=(xJ (ze yc (za (zA (qh (za (ze yJ (za (zc 0) zh)) zh)) [some 0,none] (yE 1) zX (ze yc (za (zA (yx (zc 0)) [some 1,none] (yE 1) zX (eOp dIx (zc 1) (zc 0))) zh))) zh)))
def z0X:FS:=z00
def yt:Mir:=Mof ["table"] 1 z0X
@[simp] def ke:FS:=(xx 1 (eLR (za (zc 0) zh)))
@[simp] def jI:FS:=(xJ (ze yc (za (zA (yx (zc 1)) [some 1,none] (yE 1) zX (ze yc (za (zA (yx (zc 0)) [some 1,none] (yE 1) zX (eIf (tOf (eOp dEq (zc 0) (zc 1))) (eC (.int 1)) (eC (.int 0)))) zh))) zh)))
def z06:FS:=(zE ke jI)
def yB:Mir:=Mof ["size","places"] 1 z06
@[simp] def z3j:FS:=(xJ (ze yc (za (zA (yx (zc 0)) [some 1,none] (yE 1) zX (ze qw (za (zc 1) (za (zc 0) zh)))) zh)))
def kS:FS:=z3j
def yM:Mir:=Mof ["lines","numbers"] 2 kS
@[simp] def z7v:FS:=(xJ (eC (.bl false)))
@[simp] def z6D:FS:=(fIf (z40 (tOf (ze ym (za (zc 0) zh)))) z7v xp)
@[simp] def z1B:FS:=(xJ (ze zap (za (zA (yx (zc 0)) [some 0,none] (yE 1) zX (ze yb (za (zc 1) (za (ze yJ (za (zc 0) zh)) zh)))) zh)))
def z3Q:FS:=(zE z6D z1B)
def vk:Mir:=Mof ["thing"] 1 z3Q
@[simp] def z4o:FS:=fNo
@[simp] def z4i:FS:=(fIf (z40 (tOf (ze vk (za (zc 0) zh)))) z4o xp)
def z0N:FS:=z4i
def yN:Mir:=Mof ["thing"] 1 z0N
@[simp] def z4f:FS:=(wQ (ze yN (za (zc 0) zh)))
@[simp] def z4z:FS:=(wQ (ze yN (za (zc 1) zh)))
@[simp] def z4n:FS:=fNo
@[simp] def z4e:FS:=(fIf (tOf (eOp dNe (ze yJ (za (zc 0) zh)) (ze yJ (za (zc 1) zh)))) z4n xp)
@[simp] def z01:FS:=(xJ (ze yt (za (ze yc (za (zA (yx (ze yt (za (zc 1) zh))) [some 0,none] (yE 1) zX (ze yM (za (zc 0) (za (zc 1) zh)))) zh)) zh)))
def z0x:FS:=(zE z4f (zE z4z (zE z4e z01)))
def xS:Mir:=Mof ["one","other"] 2 z0x
@[simp] def wg:FS:=(xx 2 (zaf (za (ze yB (za (zc 0) zh)) zh)))
@[simp] def yX:FS:=(wQ (z87 (zc 2) (ze xS (za (eOp dIx (zc 2) (z5X (eC (.int 1)))) (za (zc 3) zh)))))
@[simp] def wk:FS:=(z88 (yx (zc 1)) (yE 3) yX)
@[simp] def vK:FS:=(xJ (zc 2))
def ur:FS:=(zE wg (zE wk vK))
def xK:Mir:=Mof ["size","tables","products","table"] 2 ur
def kN:FS:=(zE (z2U wg) (zE (z2U wk) (z2U vK)))
def yO:Mir:=z2Q ["size","tables","products","table"] 2 kN
@[simp] def wY:FS:=(xx 1 (ze7 (zc 0) (ze vD (za (zc 0) zh))))
@[simp] def wU:FS:=(xJ (uA (za (zc 1) (za (eOp wS (eOp wS (eSl (zc 0) yd (wF (zc 1))) (uA (za (eC (.int 0)) zh))) (eSl (zc 0) (wF (eOp wS (zc 1) (eC (.int 1)))) yd)) zh))))
def vh:FS:=(zE wY wU)
def zD:Mir:=Mof ["lot","at"] 1 vh
@[simp] def kg:FS:=(xJ (ze7 (zc 0) (ze z4j (za (zA (yx (zc 0)) [none] (yE 0) (tOf (eOp dNe (zc 0) (eC (.int 0)))) (zc 0)) zh))))
def kW:FS:=kg
def yq:Mir:=Mof ["lot"] 1 kW
@[simp] def z3G:FS:=(xJ (zA (qh (za (ze yJ (za (zc 0) zh)) zh)) [some 1,none] (yE 1) (tOf (eOp dNe (zc 1) (zc 0))) (zc 1)))
def z56:FS:=z3G
def wr:Mir:=Mof ["lot","place"] 2 z56
@[simp] def z94:FS:=(xJ (z89 (eIs "str" (zc 0)) (zac qJ false (zc 0))))
def z4X:FS:=z94
def xo:Mir:=Mof ["thing"] 1 z4X
@[simp] def z76:FS:=(xJ (eIf (tOf (eOp dEq (zc 0) (eC (.str "turn")))) (eOp wS (eSl (zc 1) (wF (eC (.int 1))) yd) (eSl (zc 1) yd (wF (eC (.int 1))))) (zc 1)))
def za9:FS:=z76
def vH:Mir:=Mof ["rule","numbers"] 2 za9
@[simp] def z8h:FS:=(zec (ze zD (za (zc 0) zh)) (wf 1 2))
@[simp] def z3h:FS:=(xJ (uA (za (ze7 (zc 2) (ze vD (za (zc 2) zh))) (za (qG (za (zc 1) zh)) zh))))
def z4P:FS:=(zE z8h z3h)
def vC:Mir:=Mof ["lot","greatest","others"] 1 z4P
@[simp] def z6x:FS:=(zec (ze zD (za (zc 0) zh)) (wf 1 2))
@[simp] def z7A:FS:=(xJ (uA (za (ze yq (za (zc 2) zh)) (za (qG (za (zc 1) zh)) zh))))
def z3E:FS:=(zE z6x z7A)
def wM:Mir:=Mof ["lot","greatest","others"] 1 z3E
@[simp] def zaq:FS:=(xx 1 (ze yq (za (zc 0) zh)))
@[simp] def zam:FS:=(xJ (uA (za (zc 1) (za (ze wr (za (zc 0) (za (zc 1) zh))) zh))))
def z7X:FS:=(zE zaq zam)
def uI:Mir:=Mof ["lot","by"] 1 z7X
@[simp] def z8Q:FS:=(xJ (uA (za (eC (.int 0)) (za (qG zh) zh))))
@[simp] def z8c:FS:=(fIf (tOf (eOp dEq (eOp dIx (zc 0) (eC (.int 0))) (eC (.int 0)))) z8Q xp)
@[simp] def z8r:FS:=(xJ (uA (za (eC (.int 0)) (za (ze wr (za (zc 0) (za (eC (.int 0)) zh))) zh))))
def z4L:FS:=(zE z8c z8r)
def vA:Mir:=Mof ["lot"] 1 z4L
@[simp] def z6h:FS:=fNo
@[simp] def z64:FS:=(fIf (z40 (tOf (ze xo (za (zc 0) zh)))) z6h xp)
def z1y:FS:=z64
def wC:Mir:=Mof ["thing"] 1 z1y
@[simp] def z0a:FS:=(fIf (z40 (tOf (ze xo (za (zc 0) zh)))) (z9E "NoRule") xp)
def z13:FS:=z0a
def wG:Mir:=z2Q ["thing"] 1 z13
@[simp] def z7V:FS:=(xx 2 (zjS qJ (zc 0)))
@[simp] def z21:FS:=(zec (z9X 2 [("by_next",vC),("by_least",wM),("by_all",uI),("by_turn",vA)] (za (zc 1) zh)) (wf 3 4))
@[simp] def z1H:FS:=(xJ (uA (za (zc 3) (za (zA (qh (za (ze yJ (za (zc 1) zh)) zh)) [some 4,some 1,some 3,none] (yE 3) zX (eIf (tOf (eOp (z9d false) (zc 3) (zc 0))) (eOp z7L (eOp dIx (zc 1) (zc 3)) (eOp dIx (zc 1) (zc 2))) (eC (.int 0)))) zh))))
def z3H:FS:=(zE z7V (zE z21 z1H))
def xB:Mir:=Mof ["rule","lot","deal","by","divided"] 2 z3H
@[simp] def kz:FS:=(wQ (ze wC (za (zc 0) zh)))
@[simp] def kh:FS:=(wQ (ze xf (za (zc 1) zh)))
def vI:FS:=(zE kz kh)
def zG:Mir:=Mof ["rule","lot"] 2 vI
@[simp] def xF:FS:=(wQ (ze wG (za (zc 0) zh)))
@[simp] def ve:FS:=(wQ (ze vU (za (zc 1) zh)))
def xV:FS:=(zE xF ve)
def zy:Mir:=z2Q ["rule","lot"] 2 xV
@[simp] def z6c:FS:=(wQ (ze zG (za (zc 0) (za (zc 1) zh))))
@[simp] def z5x:FS:=fNo
@[simp] def z60:FS:=(fIf (tOf (ze yF (za (zc 1) zh))) z5x xp)
def z1w:FS:=(zE z6c z60)
def yS:Mir:=Mof ["rule","lot"] 2 z1w
@[simp] def zdH:FS:=(wQ (ze yS (za (zc 0) (za (zc 1) zh))))
@[simp] def zdF:FS:=(zec (ze xB (za (zc 0) (za (zc 1) zh))) (wf 2 3))
@[simp] def z9v:FS:=(xx 4 (ze yc (za (zA (z86 (za (zc 1) (za (zc 3) zh))) [some 1,some 2,none,none] (wf 2 3) zX (eOp zd6 (zc 2) (eOp va (zc 3) (eOp dIx (zc 0) (zc 1))))) zh)))
@[simp] def z9W:FS:=(xJ (ze vH (za (zc 0) (za (zc 4) zh))))
def zcX:FS:=(zE zdH (zE zdF (zE z9v z9W)))
def M_step:Mir:=Mof ["rule","lot","by","quotients","left"] 2 zcX
@[simp] def z4C:FS:=(wQ (ze yS (za (zc 0) (za (zc 1) zh))))
@[simp] def z4s:FS:=(zec (ze xB (za (zc 0) (za (zc 1) zh))) (wf 2 3))
@[simp] def z07:FS:=(xJ (ze yc (za (zA (z86 (za (ze yB (za (ze yJ (za (zc 1) zh)) zh)) (za (zc 3) zh))) [some 0,some 2,none,none] (wf 2 3) zX (ze vH (za (zc 0) (za (eOp wS (eOp wS (eSl (zc 2) yd (wF (zc 1))) (uA (za (eOp wS (eOp dIx (zc 2) (zc 1)) (zc 3)) zh))) (eSl (zc 2) (wF (eOp wS (zc 1) (eC (.int 1)))) yd)) zh)))) zh)))
def z0E:FS:=(zE z4C (zE z4s z07))
def xP:Mir:=Mof ["rule","lot","by","quotients"] 2 z0E
@[simp] def zgJ:FS:=(wQ (ze zG (za (zc 0) (za (zc 1) zh))))
@[simp] def z8m:FS:=(xx 2 (zaf (za (zc 1) zh)))
@[simp] def z5V:FS:=(wQ (z87 (zc 2) (ze M_step (za (zc 0) (za (eOp dIx (zc 2) (z5X (eC (.int 1)))) zh)))))
@[simp] def z8V:FS:=(z4T (z40 (tOf (ze yF (za (eOp dIx (zc 2) (z5X (eC (.int 1)))) zh)))) z5V)
@[simp] def zbl:FS:=(xJ (zc 2))
def zfF:FS:=(zE zgJ (zE z8m (zE z8V zbl)))
def zeu:Mir:=Mof ["rule","lot","lots"] 2 zfF
@[simp] def z9g:FS:=(wQ (ze zy (za (zc 0) (za (zc 1) zh))))
def zcq:FS:=(zE z9g (zE (z2U z8m) (zE (z2U z8V) (z2U zbl))))
def X_run:Mir:=z2Q ["rule","lot","lots"] 2 zcq
@[simp] def uV:FS:=(xJ (z1O (yx (eSl (z1m (ze X_run (za (zc 0) (za (zc 1) zh)))) yd (wF (z5X (eC (.int 1)))))) [some 0,none] (yE 1) zX (ze xP (za (zc 0) (za (zc 1) zh)))))
def jq:FS:=uV
def ya:Mir:=z2Q ["rule","lot"] 2 jq
@[simp] def vF:FS:=(xx 2 (z1m (ze ya (za (zc 0) (za (zc 1) zh)))))
@[simp] def jy:FS:=(xJ (ze yO (za (ze yJ (za (zc 1) zh)) (za (zc 2) zh))))
def uk:FS:=(zE vF jy)
def yi:Mir:=z2Q ["rule","lot","tables"] 2 uk
@[simp] def vE:FS:=(xJ (eOp dIx (z1m (ze yi (za (zc 0) (za (zc 1) zh)))) (z5X (eC (.int 1)))))
def uz:FS:=vE
def yf:Mir:=z2Q ["rule","lot"] 2 uz
@[simp] def z2h:FS:=(xJ (eOp dIx (zc 0) (zc 1)))
@[simp] def z2n:FS:=(fIf (tOf (eOp dLt (zc 1) (ze yJ (za (zc 0) zh)))) z2h xp)
@[simp] def z2x:FS:=(xJ (eC (.int 0)))
def ux:FS:=(zE z2n z2x)
def xy:Mir:=Mof ["_law_script","_law_k"] 2 ux
@[simp] def z0d:FS:=(xJ (eOp dEq (ze yJ (za (zA (yx (zc 0)) [none] (yE 0) (tOf (eOp dGt (zc 0) (eC (.int 0)))) (zc 0)) zh)) (eC (.int 1))))
def z0P:FS:=z0d
def xj:Mir:=Mof ["_law_lot_here"] 1 z0P
@[simp] def z7F:FS:=(xx 2 (zaf zh))
@[simp] def z7C:FS:=(xx 4 (eC (.int 0)))
@[simp] def z70:FS:=(xx 4 (eOp wS (zc 4) (eOp va (zc 5) (zc 6))))
@[simp] def z7R:FS:=(z88 (z86 (za (zc 3) (za (zc 1) zh))) (wf 5 6) z70)
@[simp] def z71:FS:=(wQ (z87 (zc 2) (zc 4)))
@[simp] def z6V:FS:=(z88 (yx (zc 0)) (yE 3) (zE z7C (zE z7R z71)))
@[simp] def z7B:FS:=(xJ (ze yc (za (zc 2) zh)))
def z92:FS:=(zE z7F (zE z6V z7B))
def z1d:Mir:=z83 (Mof ["_law_table","_law_numbers","_law_found","_law_line","_law_total","_law_one","_law_other"] 2 z92)
@[simp] def ui:FS:=(xx 2 (zaf zh))
@[simp] def wX:FS:=(xx 4 (eC (.int 0)))
@[simp] def ud:FS:=(xx 4 (eOp wS (zc 4) (eOp va (zc 5) (zc 6))))
@[simp] def xN:FS:=(z88 (z86 (za (zc 3) (za (zc 1) zh))) (wf 5 6) ud)
@[simp] def xX:FS:=(wQ (z87 (zc 2) (zc 4)))
@[simp] def uj:FS:=(z88 (yx (zc 0)) (yE 3) (zE wX (zE xN xX)))
@[simp] def vY:FS:=(xJ (ze yc (za (zc 2) zh)))
def z02:FS:=(zE ui (zE uj vY))
def wZ:Mir:=z83 (Mof ["_law_table_here","_law_numbers","_law_found","_law_line","_law_total","_law_one","_law_other"] 2 z02)
@[simp] def kU:FS:=(xJ (ze yc (za (zA (qh (za (zc 0) zh)) [some 0,none] (yE 1) zX (ze yc (za (zA (qh (za (zc 0) zh)) [some 1,none] (yE 1) zX (ze za5 (za (eOp dEq (zc 0) (zc 1)) zh))) zh))) zh)))
def z0V:FS:=kU
def wK:Mir:=Mof ["_law_size"] 1 z0V
@[simp] def z7T:FS:=(xJ (zaf (za (eOp zd6 (zc 0) (eOp z9H (eC (.int 10)) (eC (.int 18)))) zh)))
@[simp] def z6v:FS:=(fIf (tOf (eOp dGe (zc 0) (eOp z9H (eC (.int 10)) (eC (.int 18))))) z7T xp)
@[simp] def z6B:FS:=(xx 1 (eC (.int 0)))
@[simp] def z1L:FS:=(xx 3 (eOp zc0 (eOp va (eOp wS (eOp wS (eOp zc0 (zc 0) (eC (.int 2147483629))) (eOp va (eC (.int 7919)) (zc 2))) (eC (.int 1))) (eC (.int 48271))) (eC (.int 2147483647))))
@[simp] def z1Z:FS:=(xx 3 (eOp zc0 (eOp wS (eOp wS (eOp va (zc 3) (zc 3)) (eOp va (eC (.int 69621)) (zc 2))) (eC (.int 7))) (eC (.int 2147483587))))
@[simp] def z1z:FS:=(xx 1 (eOp wS (eOp va (zc 1) (eC (.int 2147483587))) (zc 3)))
@[simp] def z1M:FS:=(z88 (qh (za (eC (.int 64)) zh)) (yE 2) (zE z1L (zE z1Z z1z)))
@[simp] def z7O:FS:=(xJ (zaf (za (zc 1) zh)))
def z0g:FS:=(zE z6v (zE z6B (zE z1M z7O)))
def vV:Mir:=Mof ["_law_cell","_law_number","_law_j","_law_more"] 1 z0g
@[simp] def z2e:FS:=(xx 2 (ze yJ (za (zc 0) zh)))
@[simp] def z2k:FS:=(xx 3 (zA (qh (za (zc 2) zh)) [some 0,some 1,none] (yE 2) zX (ze z1d (za (zc 0) (za (zA (yx (zc 1)) [some 2,none] (yE 1) zX (eOp dIx (zc 1) (zc 0))) zh)))))
@[simp] def z2c:FS:=(xJ (ze yc (za (zA (qh (za (zc 2) zh)) [some 3,none] (yE 1) zX (ze yc (za (zA (yx (zc 0)) [some 1,none] (yE 1) zX (eOp dIx (zc 1) (zc 0))) zh))) zh)))
def z3y:FS:=(zE z2e (zE z2k z2c))
def vx:Mir:=Mof ["_law_one","_law_other","_law_size","_law_sides"] 2 z3y
@[simp] def wB:FS:=(xx 2 (ze yJ (za (zc 0) zh)))
@[simp] def wE:FS:=(xx 3 (zA (qh (za (zc 2) zh)) [some 0,some 1,none] (yE 2) zX (ze wZ (za (zc 0) (za (zA (yx (zc 1)) [some 2,none] (yE 1) zX (eOp dIx (zc 1) (zc 0))) zh)))))
@[simp] def wy:FS:=(xJ (ze yc (za (zA (qh (za (zc 2) zh)) [some 3,none] (yE 1) zX (ze yc (za (zA (yx (zc 0)) [some 1,none] (yE 1) zX (eOp dIx (zc 1) (zc 0))) zh))) zh)))
def uF:FS:=(zE wB (zE wE wy))
def wa:Mir:=Mof ["_law_one","_law_other","_law_size","_law_sides"] 2 uF
@[simp] def kP:FS:=(xJ (qG (za (eC (.str "all")) (za (eC (.str "least")) (za (eC (.str "next")) (za (eC (.str "turn")) zh))))))
def z0L:FS:=kP
def wJ:Mir:=Mof [] 0 z0L
@[simp] def qH:FS:=(xx 2 (ze yJ (za (zc 1) zh)))
@[simp] def vP:FS:=(xx 3 (ze z3N (za (zA (z8d (za (zc 1) zh)) [none,none] (wf 0 1) (tOf (eOp dGt (zc 1) (eC (.int 0)))) (uA (za (zc 1) (za (zc 0) zh)))) zh)))
@[simp] def ja:FS:=(xx 4 (eOp dIx (zA (qh (za (zc 2) zh)) [some 1,none] (yE 1) (tOf (eOp dEq (eOp dIx (zc 0) (zc 1)) (ze vD (za (zc 0) zh)))) (zc 1)) (eC (.int 0))))
@[simp] def qP:FS:=(xx 5 (zdt "all" "turn" (eOp dIx (eOp dIx (zc 3) (eC (.int 0))) (eC (.int 1))) (eC (.int 0)) (zc 0)))
@[simp] def qS:FS:=(xx 5 (eOp dIx (zA (yx (zc 3)) [some 4,none,none] (wf 1 2) (tOf (eOp dNe (zc 2) (zc 0))) (zc 2)) (eC (.int 0))))
@[simp] def wc:FS:=(fIf (tOf (eOp dEq (zc 0) (eC (.str "least")))) qS xp)
@[simp] def ji:FS:=(xx 6 (ze vD (za (zA (yx (zc 3)) [some 4,none,none] (wf 1 2) (tOf (eOp dNe (zc 2) (zc 0))) (zc 1)) zh)))
@[simp] def qL:FS:=(xx 5 (eOp dIx (zA (qh (za (zc 2) zh)) [some 6,some 4,some 1,none] (yE 3) (zhF (tOf (eOp dEq (eOp dIx (zc 2) (zc 3)) (zc 0))) (tOf (eOp dNe (zc 3) (zc 1)))) (zc 3)) (eC (.int 0))))
@[simp] def we:FS:=(fIf (tOf (eOp dEq (zc 0) (eC (.str "next")))) (zE ji qL) xp)
@[simp] def vw:FS:=(xx 7 (zA (qh (za (zc 2) zh)) [some 5,none] (yE 1) (tOf (eOp dNe (zc 1) (zc 0))) (zc 1)))
@[simp] def kX:FS:=(xx 7 (qG (za (zc 4) zh)))
@[simp] def xE:FS:=(fIf (tOf (eOp (z9d false) (zc 0) (uA (za (eC (.str "next")) (za (eC (.str "least")) zh))))) kX xp)
@[simp] def xu:FS:=(xx 8 (eOp zbf (zaf (za (eC (.int 0)) zh)) (zc 2)))
@[simp] def z09:FS:=(z4t (zc 8) (zc 9) (eOp z7L (eOp dIx (zc 1) (zc 9)) (eOp dIx (zc 1) (zc 5))))
@[simp] def xw:FS:=(fIf (tOf (eOp dGt (eOp dIx (zc 1) (zc 5)) (eC (.int 0)))) z09 xp)
@[simp] def xA:FS:=(z88 (yx (zc 7)) (yE 9) xw)
@[simp] def xC:FS:=(xx 10 (zA (z8d (za (zc 1) zh)) [some 8,some 1,some 5,none,none] (wf 3 4) zX (eOp zd6 (zc 4) (eOp va (eOp dIx (zc 0) (zc 3)) (eOp dIx (zc 1) (zc 2))))))
@[simp] def xq:FS:=(xx 11 (zaf zh))
@[simp] def wx:FS:=(xx 12 (z1O (qh (za (zc 2) zh)) [some 9,none] (yE 1) zX (ze za5 (za (eOp dEq (zc 0) (zc 1)) zh))))
@[simp] def ww:FS:=(z4t (zc 12) (zc 5) (eOp wS (eOp dIx (zc 12) (zc 5)) (eOp dIx (zc 8) (zc 9))))
@[simp] def z03:FS:=(xx 12 (eOp wS (eSl (zc 12) (wF (eC (.int 1))) yd) (eSl (zc 12) yd (wF (eC (.int 1))))))
@[simp] def yR:FS:=(fIf (tOf (eOp dEq (zc 0) (eC (.str "turn")))) z03 xp)
@[simp] def wv:FS:=(wQ (z87 (zc 11) (ze yc (za (zc 12) zh))))
@[simp] def xz:FS:=(z88 (qh (za (zc 2) zh)) (yE 9) (zE wx (zE ww (zE yR wv))))
@[simp] def kQ:FS:=(xx 10 (eOp wS (eSl (zc 10) (wF (eC (.int 1))) yd) (eSl (zc 10) yd (wF (eC (.int 1))))))
@[simp] def yD:FS:=(fIf (tOf (eOp dEq (zc 0) (eC (.str "turn")))) kQ xp)
@[simp] def xD:FS:=(xJ (uA (za (ze yc (za (zc 10) zh)) (za (ze yc (za (zc 11) zh)) zh))))
def z1u:FS:=(zE qH (zE vP (zE ja (zE qP (zE wc (zE we (zE vw (zE xE (zE xu (zE xA (zE xC (zE xq (zE xz (zE yD xD))))))))))))))
def wH:Mir:=z83 (Mof ["_law_rule","_law_lot_here","_law_size","_law_order","_law_top","_law_by","_law_most","_law_some","_law_quotients","_law_place","_law_later","_law_lines","_law_line"] 2 z1u)
@[simp] def z6a:FS:=(xx 2 (eOp zc0 (eOp dIx (zc 0) (eC (.int 0))) (zc 1)))
@[simp] def z5g:FS:=(z4t (zc 0) (eC (.int 0)) (eOp z7L (eOp dIx (zc 0) (eC (.int 0))) (zc 1)))
@[simp] def z5v:FS:=(xJ (zc 2))
def z24:FS:=(zE z6a (zE z5g z5v))
def zp:Mir:=Mof ["_law_pot_here","_law_far","_law_found"] 2 z24
@[simp] def z4D:FS:=(xJ (z89 (eIs "int" (zc 0)) (zjq (eIs "bool" (zc 0)))))
def z0S:FS:=z4D
def xk:Mir:=Mof ["_law_thing"] 1 z0S
@[simp] def z15:FS:=(xJ (z89 (eIs "int" (zc 0)) (zjq (eIs "bool" (zc 0)))))
def ju:FS:=z15
def ka:Mir:=Mof ["_law_found"] 1 ju
@[simp] def z3O:FS:=(xJ (eC (.bl false)))
@[simp] def kC:FS:=(fIf (fOr (z40 (tOf (eIs "tuple" (zc 0)))) (tOf (eOp (z9d true) (ze yJ (za (zc 0) zh)) (uA (za (eC (.int 2)) (za (eC (.int 3)) (za (eC (.int 4)) zh))))))) z3O xp)
@[simp] def z3r:FS:=(xJ (eC (.bl false)))
@[simp] def xT:FS:=(fIf (fOr (z40 (tOf (ze xk (za (zc 1) zh)))) (tOf (eOp dLt (zc 1) (eC (.int 0))))) z3r xp)
@[simp] def xU:FS:=(z88 (yx (zc 0)) (yE 1) xT)
@[simp] def vb:FS:=(xJ (eOp dGt (ze vD (za (zc 0) zh)) (eC (.int 0))))
def vy:FS:=(zE kC (zE xU vb))
def yr:Mir:=Mof ["_law_thing","_law_number"] 1 vy
@[simp] def kD:FS:=(xx 1 (eOp wS (eC (.int 2)) (ze zp (za (zc 0) (za (eC (.int 3)) zh)))))
@[simp] def jN:FS:=(xx 2 (eOp dIx (qG (za (eC (.int 13)) (za (eC (.int 1000)) (za (eOp z9H (eC (.int 10)) (eC (.int 6))) (za (eOp z9H (eC (.int 10)) (eC (.int 30))) (za (eC (.int 3)) (za (eC (.int 60)) zh))))))) (ze zp (za (zc 0) (za (eC (.int 6)) zh)))))
@[simp] def jK:FS:=(xx 3 (ze zp (za (zc 0) (za (eC (.int 4)) zh))))
@[simp] def kF:FS:=(xx 4 (zaf zh))
@[simp] def uN:FS:=(xx 6 (eOp wS (ze zp (za (zc 0) (za (zc 2) zh))) (eC (.int 1))))
@[simp] def uB:FS:=(wQ (z87 (zc 4) (eOp va (zc 6) (ze za5 (za (eOp dGe (ze zp (za (zc 0) (za (eC (.int 4)) zh))) (zc 3)) zh)))))
@[simp] def ky:FS:=(z88 (qh (za (zc 1) zh)) (yE 5) (zE uN uB))
@[simp] def z1F:FS:=(z4t (zc 4) (ze zp (za (zc 0) (za (zc 1) zh))) (eOp wS (eC (.int 1)) (ze zp (za (zc 0) (za (zc 2) zh)))))
@[simp] def uG:FS:=(fIf (tOf (eOp dEq (ze vD (za (zc 4) zh)) (eC (.int 0)))) z1F xp)
@[simp] def jl:FS:=(xx 7 (eOp wS (eC (.int 1)) (ze zp (za (zc 0) (za (eC (.int 12)) zh)))))
@[simp] def z0H:FS:=(z4t (zc 4) (ze zp (za (zc 0) (za (zc 1) zh))) (eOp dIx (zc 4) (ze zp (za (zc 0) (za (zc 1) zh)))))
@[simp] def vT:FS:=(fIf (tOf (eOp dEq (ze zp (za (zc 0) (za (eC (.int 3)) zh))) (eC (.int 0)))) z0H xp)
@[simp] def z0A:FS:=(z4t (zc 4) (eC (.int 0)) (eC (.int 1)))
@[simp] def vO:FS:=(fIf (tOf (eOp dEq (ze vD (za (zc 4) zh)) (eC (.int 0)))) z0A xp)
@[simp] def z0B:FS:=(xJ (ze yc (za (zA (yx (zc 4)) [some 7,none] (yE 1) zX (eOp va (zc 1) (zc 0))) zh)))
def z38:FS:=(zE kD (zE jN (zE jK (zE kF (zE ky (zE uG (zE jl (zE vT (zE vO z0B)))))))))
def qD:Mir:=z83 (Mof ["_law_pot_here","_law_size","_law_far","_law_thin","_law_numbers","_law_place","_law_number","_law_more"] 1 z38)
@[simp] def jF:FS:=(xx 2 (qG (za (zfl (zc 1)) (za (eOp zef (zc 1) (eC (.str " "))) (za (zlK (zc 1) (wF (eC (.int 1)))) (za (eOp zef (zc 1) (eC (.str "s"))) (za (eC (.str "")) (za (eC .non) (za (eC (.int 3)) (za (uA (za (zc 1) zh)) (za (qG (za (zc 1) zh)) (za (eC (.bl true)) (za (eC .dct) zh)))))))))))))
@[simp] def jE:FS:=(xJ (eOp dIx (zc 2) (ze zp (za (zc 0) (za (eC (.int 11)) zh)))))
def jM:FS:=(zE jF jE)
def wn:Mir:=Mof ["_law_pot_here","_law_rule","_law_some"] 2 jM
@[simp] def z20:FS:=(xx 1 (qG (za (eC .non) (za (eC (.bl true)) (za (eC (.bl false)) (za (z5X (eC (.int 1))) (za (eC (.int 0)) (za (eC (.int 7)) (za (eOp z9H (eC (.int 10)) (eC (.int 30))) (za (eC (.str "")) (za (eC (.str "1:0")) (za (uA zh) (za (uA (za (eC (.int 0)) (za (eC (.int 0)) zh))) (za (uA (za (eC (.int 1)) zh)) (za (qG (za (eC (.int 1)) (za (eC (.int 0)) zh))) (za (eC .dct) zh))))))))))))))))
@[simp] def z1W:FS:=(xJ (eOp dIx (eOp wS (zc 1) (qG (za (uA (za (uA (za (eC (.int 1)) (za (eC (.int 0)) zh))) (za (uA (za (eC (.int 0)) (za (eC (.int 1)) zh))) zh))) (za (uA (za (eC (.bl true)) (za (eC (.int 2)) zh))) zh)))) (ze zp (za (zc 0) (za (eC (.int 16)) zh)))))
def z3I:FS:=(zE z20 z1W)
def qt:Mir:=Mof ["_law_pot_here","_law_some"] 1 z3I
@[simp] def ku:FS:=(xx 2 (zaf (za (zc 1) zh)))
@[simp] def km:FS:=(xx 3 (zaf zh))
@[simp] def uK:FS:=(zec (ze wH (za (zc 0) (za (eOp dIx (zc 2) (z5X (eC (.int 1)))) zh))) (wf 4 5))
@[simp] def uQ:FS:=(wQ (z87 (zc 2) (zc 4)))
@[simp] def uD:FS:=(wQ (z87 (zc 3) (zc 5)))
@[simp] def jP:FS:=(z4T (z40 (tOf (ze xj (za (eOp dIx (zc 2) (z5X (eC (.int 1)))) zh)))) (zE uK (zE uQ uD)))
@[simp] def z26:FS:=(xJ (uA (za (zc 2) (za (zc 3) zh))))
def z3d:FS:=(zE ku (zE km (zE jP z26)))
def vW:Mir:=Mof ["_law_rule","_law_lot_here","_law_lots","_law_tables","_law_later","_law_table"] 2 z3d
@[simp] def z5T (Mr:Mir):FS:=(xJ (eC (.bl false)))
@[simp] def qO (Mr:Mir):FS:=(fIf (fOr (tOf (eOp dNe (eIs "list" (zc 1)) (eIs "list" (zc 0)))) (tOf (eOp dNe (eIs "tuple" (zc 1)) (eIs "tuple" (zc 0))))) (z5T Mr) xp)
@[simp] def wT (Mr:Mir):FS:=(xJ (z89 (eOp dEq (ze yJ (za (zc 0) zh)) (ze yJ (za (zc 1) zh))) (ze zap (za (zA (z86 (za (zc 0) (za (zc 1) zh))) [none,none] (wf 0 1) zX (ze Mr (za (zc 0) (za (zc 1) zh)))) zh))))
@[simp] def wV (Mr:Mir):FS:=(fIf (tOf (zdB "list" "tuple" (zc 1))) (zE (qO Mr) (wT Mr)) xp)
@[simp] def z5z (Mr:Mir):FS:=(xJ (z89 (eOp dEq (zc 0) (zc 1)) (eOp dEq (eIs "bool" (zc 0)) (eIs "bool" (zc 1)))))
@[simp] def z5U (Mr:Mir):FS:=(fIf (fOr (tOf (eOp dIs (zc 1) (eC .non))) (fOr (tOf (eIs "bool" (zc 1))) (tOf (eIs "str" (zc 1))))) (z5z Mr) xp)
@[simp] def z5B (Mr:Mir):FS:=(xJ (z89 (ze xk (za (zc 0) zh)) (eOp dEq (zc 0) (zc 1))))
def wL(Mr:Mir):FS:=(zE (wV Mr) (zE (z5U Mr) (z5B Mr)))
def zt:Nat->Mir
 | 0=>fun _ _=>.no | k+1=>Mof ["_law_found","_law_due"] 2 (wL (zt k))
def jo:Mir:=zt 5
@[simp] def z2i (Mr:Mir):FS:=(xJ (eOp dIs (zc 0) (eC .non)))
@[simp] def jA (Mr:Mir):FS:=(fIf (tOf (eOp dIs (zc 1) (eC .non))) (z2i Mr) xp)
@[simp] def z2f (Mr:Mir):FS:=(xJ (z89 (eIs "bool" (zc 0)) (eOp dEq (zc 0) (zc 1))))
@[simp] def jD (Mr:Mir):FS:=(fIf (tOf (eIs "bool" (zc 1))) (z2f Mr) xp)
@[simp] def z29 (Mr:Mir):FS:=(xJ (z89 (ze ka (za (zc 0) zh)) (eOp dEq (zc 0) (zc 1))))
@[simp] def js (Mr:Mir):FS:=(fIf (tOf (eIs "int" (zc 1))) (z29 Mr) xp)
@[simp] def z2a (Mr:Mir):FS:=(xJ (z89 (eIs "str" (zc 0)) (eOp dEq (zc 0) (zc 1))))
@[simp] def jx (Mr:Mir):FS:=(fIf (tOf (eIs "str" (zc 1))) (z2a Mr) xp)
@[simp] def z18 (Mr:Mir):FS:=(xJ (eC (.bl false)))
@[simp] def jw (Mr:Mir):FS:=(fIf (fOr (tOf (eOp dNe (eIs "tuple" (zc 1)) (eIs "tuple" (zc 0)))) (tOf (eOp dNe (eIs "list" (zc 1)) (eIs "list" (zc 0))))) (z18 Mr) xp)
@[simp] def vm (Mr:Mir):FS:=(xJ (z89 (eOp dEq (ze yJ (za (zc 0) zh)) (ze yJ (za (zc 1) zh))) (ze zap (za (zA (z86 (za (zc 0) (za (zc 1) zh))) [none,none] (wf 0 1) zX (ze Mr (za (zc 0) (za (zc 1) zh)))) zh))))
def xb(Mr:Mir):FS:=(zE (jA Mr) (zE (jD Mr) (zE (js Mr) (zE (jx Mr) (zE (jw Mr) (vm Mr))))))
@[simp] def qM:FS:=(xx 2 (ze zp (za (zc 0) (za (ze yJ (za (zc 1) zh)) zh))))
@[simp] def jk:FS:=(xx 3 (qG (za (eOp wS (eOp dIx (zc 1) (zc 2)) (eC (.int 1))) (za (eOp zd6 (eOp dIx (zc 1) (zc 2)) (eC (.int 1))) (za (eOp zd6 (eC (.int 0)) (eOp dIx (zc 1) (zc 2))) (za (eC (.int 0)) (za (eC (.bl true)) (za (eC .non) (za (eC (.str "1")) (za (uA (za (eC (.int 1)) zh)) (za (eOp z9H (eC (.int 10)) (eC (.int 30))) (za (eOp dIx (zc 1) (eOp zd6 (zc 2) (eC (.int 1)))) zh))))))))))))
@[simp] def jp:FS:=(xx 3 (eOp dIx (zc 3) (ze zp (za (zc 0) (za (eC (.int 10)) zh)))))
@[simp] def qF:FS:=(xx 4 (qG (za (eOp wS (eOp wS (eSl (zc 1) yd (wF (zc 2))) (uA (za (zc 3) zh))) (eSl (zc 1) (wF (eOp wS (zc 2) (eC (.int 1)))) yd)) (za (eOp wS (eOp wS (eSl (zc 1) yd (wF (zc 2))) (uA (za (zc 3) zh))) (eSl (zc 1) (wF (eOp wS (zc 2) (eC (.int 1)))) yd)) (za (eOp wS (eSl (zc 1) yd (wF (zc 2))) (eSl (zc 1) (wF (eOp wS (zc 2) (eC (.int 1)))) yd)) (za (ze zaB (za (zc 1) zh)) zh))))))
@[simp] def vQ:FS:=(xx 4 (eOp wS (zc 4) (qG (za (eOp wS (eOp wS (eSl (zc 1) yd (wF (zc 2))) (uA (za (eC (.int 0)) zh))) (eSl (zc 1) (wF (zc 2)) yd)) (za (zhB (zc 1)) (za (eOp wS (zc 1) (zc 1)) (za (eOp zaE (uA (za (eC (.int 0)) zh)) (ze yJ (za (zc 1) zh))) (za (ze qt (za (zc 0) zh)) (za (uA (za (zc 1) zh)) zh)))))))))
@[simp] def z0z:FS:=(xJ (eOp dIx (zc 4) (ze zp (za (zc 0) (za (eC (.int 10)) zh)))))
def z1t:FS:=(zE qM (zE jk (zE jp (zE qF (zE vQ z0z)))))
def ul:Mir:=Mof ["_law_pot_here","_law_row","_law_at","_law_odd_here","_law_some"] 2 z1t
end Pg
namespace K12
open PySem.Spec L2 Dd Pg
def rsX:List Str:=["NoLot","NoRule"]
def csX:List Str:=["NoLot","NoTable","NoTuple","NotAlike","NotFair","NoText","NoRule","Ended","NoBottom","NoRoot","NoCube","NoSize","NoNumber","TooMany","NoStep","NoDeed","NoRow"]
@[simp] def z28:FS:=(xx 1 (qG (za (z6r rsX "NoLot" (zc 0)) (za (z6r rsX "NoTable" (zc 0)) (za (z6r rsX "NoTuple" (zc 0)) (za (z6r rsX "NotAlike" (zc 0)) zh))))))
@[simp] def z2q:FS:=(xx 1 (eOp wS (zc 1) (qG (za (z6r rsX "NotFair" (zc 0)) (za (z6r rsX "NoText" (zc 0)) (za (z6r rsX "NoRule" (zc 0)) (za (z6r rsX "Ended" (zc 0)) zh)))))))
@[simp] def z2r:FS:=(xx 1 (eOp wS (zc 1) (qG (za (z6r rsX "NoBottom" (zc 0)) (za (z6r rsX "NoRoot" (zc 0)) (za (z6r rsX "NoCube" (zc 0)) (za (z6r rsX "NoSize" (zc 0)) zh)))))))
@[simp] def z2s:FS:=(xx 1 (eOp wS (zc 1) (qG (za (z6r rsX "NoNumber" (zc 0)) (za (z6r rsX "TooMany" (zc 0)) (za (z6r rsX "NoStep" (zc 0)) (za (z6r rsX "NoDeed" (zc 0)) zh)))))))
@[simp] def z2d:FS:=(xx 1 (eOp wS (zc 1) (qG (za (z6r rsX "NoRow" (zc 0)) zh))))
@[simp] def z2p:FS:=(xJ (eC (.str "other")))
@[simp] def z2j:FS:=(fIf (fOr (tOf (eOp dNe (zgj (zc 1) (eC (.bl true))) (eC (.int 1)))) (z40 (tOf (zlM rsX (zc 0))))) z2p xp)
@[simp] def z2g:FS:=(xx 2 (qG (za (eC (.str "lot")) (za (eC (.str "table")) (za (eC (.str "tuple")) (za (eC (.str "alike")) (za (eC (.str "fair")) (za (eC (.str "text")) (za (eC (.str "rule")) (za (eC (.str "ended")) (za (eC (.str "bottom")) zh)))))))))))
@[simp] def z2t:FS:=(xx 2 (eOp wS (zc 2) (qG (za (eC (.str "root")) (za (eC (.str "cube")) (za (eC (.str "size")) (za (eC (.str "number")) (za (eC (.str "many")) (za (eC (.str "step")) (za (eC (.str "deed")) (za (eC (.str "row")) zh)))))))))))
@[simp] def z1o:FS:=(xJ (eOp dIx (zc 2) (zgY (zc 1) (eC (.bl true)))))
def z3Z:FS:=(zE z28 (zE z2q (zE z2r (zE z2s (zE z2d (zE z2j (zE z2g (zE z2t z1o))))))))
def yU:Mir:=Mof ["_law_e","_law_some","_law_words"] 1 z3Z
@[simp] def yP:FS:=(xJ (z9N (eOp dIx (qG (za (eC (.fn "run")) (za (eC (.fn "tables_of")) (za (eC (.fn "whole_table")) zh)))) (zc 0)) [("run",Pg.X_run),("tables_of",Pg.ya),("whole_table",Pg.yf)] (za (zc 1) (za (zc 2) zh))))
@[simp] def qZ:FS:=(xJ (ze yU (za (zc 3) zh)))
@[simp] def je:FS:=(zhK rsX yP 3 qZ)
def kf:FS:=je
def zx:Mir:=Mof ["_law_way","_law_rule","_law_lot_here","_law_e"] 3 kf
@[simp] def z3t:FS:=(xx 2 (ze Pg.vV (za (ze Pg.xy (za (zc 0) (za (zc 1) zh))) zh)))
@[simp] def z3R:FS:=(xx 3 (ze Pg.qD (za (zc 2) zh)))
@[simp] def z2T:FS:=(xx 4 (eOp dIx (ze Pg.wJ zh) (ze Pg.zp (za (zc 2) (za (eC (.int 4)) zh)))))
@[simp] def z3S:FS:=(zec (ze Pg.vW (za (zc 4) (za (zc 3) zh))) (wf 5 6))
@[simp] def z35:FS:=(xx 7 (ze Pg.wK (za (ze yJ (za (zc 3) zh)) zh)))
@[simp] def z67:FS:=(xx 7 (ze Pg.vx (za (zc 7) (za (zc 8) zh))))
@[simp] def z3X:FS:=(z88 (yx (zc 6)) (yE 8) z67)
@[simp] def z0Q:FS:=(xx 10 (zA (qh (za (eC (.int 3)) zh)) [some 4,some 3,none] (yE 2) zX (ze zx (za (zc 2) (za (zc 0) (za (zc 1) zh))))))
@[simp] def zea:FS:=(xJ (eC (.bl false)))
@[simp] def z0U:FS:=(fIf (z40 (tOf (ze Pg.jo (za (zc 10) (za (qG (za (zc 5) (za (zc 6) (za (zc 7) zh)))) zh))))) zea xp)
@[simp] def z10:FS:=(wQ (z87 (eOp dIx (zc 10) (eC (.int 0))) (uA zh)))
@[simp] def z0I:FS:=(wQ (z87 (eOp dIx (zc 10) (eC (.int 1))) (uA zh)))
@[simp] def z3s:FS:=(z88 (qh (za (eC (.int 2)) zh)) (yE 9) (zE z0Q (zE z0U (zE z10 z0I))))
@[simp] def z2N:FS:=(xx 11 (ze Pg.ul (za (zc 2) (za (zc 3) zh))))
@[simp] def zdE:FS:=(xJ (eC (.bl false)))
@[simp] def z2J:FS:=(fIf (zhF (z40 (tOf (ze Pg.yr (za (zc 11) zh)))) (tOf (eOp dNe (zA (qh (za (eC (.int 3)) zh)) [some 4,some 11,none] (yE 2) zX (ze zx (za (zc 2) (za (zc 0) (za (zc 1) zh))))) (eOp zfm (qG (za (eC (.str "lot")) zh)) (eC (.int 3)))))) zdE xp)
@[simp] def z2I:FS:=(xx 12 (ze Pg.wn (za (zc 2) (za (zc 4) zh))))
@[simp] def ze4:FS:=(xJ (eC (.bl false)))
@[simp] def z2G:FS:=(fIf (tOf (eOp dNe (zA (qh (za (eC (.int 3)) zh)) [some 12,some 3,some 11,some 2,none] (yE 4) zX (ze zx (za (zc 4) (za (zc 0) (za (eOp dIx (qG (za (zc 1) (za (zc 2) zh))) (ze Pg.zp (za (zc 3) (za (eC (.int 2)) zh)))) zh))))) (eOp zfm (qG (za (eC (.str "rule")) zh)) (eC (.int 3))))) ze4 xp)
@[simp] def z8k:FS:=(z88 (qh (za (ze zdS (za (eC (.int 1)) (za (ze zdL (za (ze yJ (za (zc 0) zh)) (za (eC (.int 8)) zh))) zh))) zh)) (yE 1) (zE z3t (zE z3R (zE z2T (zE z3S (zE z35 (zE z3X (zE z3s (zE z2N (zE z2J (zE z2I z2G)))))))))))
@[simp] def z5d:FS:=(xJ (z89 (eOp (zez false) (ze zx (za (eC (.int 1)) (za (eC (.str "all")) (za (uA (za (eC (.int 0)) (za (eC (.int 7)) zh))) zh)))) (qG zh)) (eOp (zez false) (ze zx (za (eC (.int 2)) (za (eC (.str "turn")) (za (uA (za (eC (.int 3)) (za (eC (.int 0)) zh))) zh)))) (uA (za (uA (za (eC (.int 1)) (za (eC (.int 0)) zh))) (za (uA (za (eC (.int 0)) (za (eC (.int 1)) zh))) zh))))))
def zft:FS:=(zE z8k z5d)
def zgB:Mir:=Mof ["_law_script","_law_k","_law_pot_here","_law_lot_here","_law_rule","_law_lots","_law_tables","_law_whole_here","_law_table","_law_turn","_law_found","_law_bad","_law_none"] 1 zft
end K12
set_option maxHeartbeats 6000000
namespace K12
open PySem.Spec L2 Dd Pg
structure Txt(mg:Str->Option Value):Prop where
 LEAST_SIZE_:∃ t,mg "LEAST_SIZE"=some (.int 2 t)
 MOST_SIZE_:∃ t,mg "MOST_SIZE"=some (.int 4 t)
 ValueError_:mg "ValueError"=none
 all_:mg "all"=none
 bool_:mg "bool"=none
 enumerate_:mg "enumerate"=none
 int_:mg "int"=none
 isinstance_:mg "isinstance"=none
 len_:mg "len"=none
 list_:mg "list"=none
 max_:mg "max"=none
 min_:mg "min"=none
 range_:mg "range"=none
 sorted_:mg "sorted"=none
 str_:mg "str"=none
 sum_:mg "sum"=none
 tuple_:mg "tuple"=none
 zip_:mg "zip"=none
theorem zbU:bootBuiltins "all"=some (.builtin "all"):=by decide +kernel
theorem z3f:bootBuiltins "bool"=some (.type "bool"):=by decide +kernel
theorem z7S:bootBuiltins "int"=some (.type "int"):=by decide +kernel
theorem xZ:bootBuiltins "len"=some (.builtin "len"):=by decide +kernel
theorem z5Z:bootBuiltins "list"=some (.type "list"):=by decide +kernel
theorem z12:bootBuiltins "max"=some (.builtin "max"):=by decide +kernel
theorem zcE:bootBuiltins "min"=some (.builtin "min"):=by decide +kernel
theorem zbH:bootBuiltins "sorted"=some (.builtin "sorted"):=by decide +kernel
theorem zf2:bootBuiltins "str"=some (.type "str"):=by decide +kernel
theorem ziR:bootBuiltins "sum"=some (.builtin "sum"):=by decide +kernel
theorem yh:bootBuiltins "tuple"=some (.type "tuple"):=by decide +kernel
theorem zmV:(["_law_rule","_law_lot_here","_law_way"]:List Str).Nodup:=by decide +kernel
theorem zmM:(["_law_rule","_law_bad","_law_way"]:List Str).Nodup:=by decide +kernel
theorem zn3:(["_law_none","_law_lot_here","_law_bad","_law_pot_here","_law_way"]:List Str).Nodup:=by decide +kernel
theorem zmn:(["_law_one","_law_other","_law_at"]:List Str).Nodup:=by decide +kernel
theorem zmp:(["_law_at","_law_line"]:List Str).Nodup:=by decide +kernel
theorem zmC:(["_law_sides","_law_at"]:List Str).Nodup:=by decide +kernel
theorem zmk:(["_law_at","_law_side"]:List Str).Nodup:=by decide +kernel
theorem zmJ:(["_law_one","_law_other"]:List Str).Nodup:=by decide +kernel
theorem zmK:(["rule","ahead"]:List Str).Nodup:=by decide +kernel
theorem zmi:(["rule","by","line","quotient"]:List Str).Nodup:=by decide +kernel
theorem ziq:(["number"]:List Str).Nodup:=by decide +kernel
theorem zlh:(["part"]:List Str).Nodup:=by decide +kernel
theorem zkw:(["divided","lot","by","at"]:List Str).Nodup:=by decide +kernel
theorem zjW:(["place","at"]:List Str).Nodup:=by decide +kernel
theorem zl9:(["places","line"]:List Str).Nodup:=by decide +kernel
theorem zk3:(["line","column"]:List Str).Nodup:=by decide +kernel
theorem zkl:(["one","column"]:List Str).Nodup:=by decide +kernel
theorem zlb:(["numbers","line"]:List Str).Nodup:=by decide +kernel
theorem zle:(["one","other"]:List Str).Nodup:=by decide +kernel
theorem zlv:(["table","at"]:List Str).Nodup:=by decide +kernel
theorem zku:(["at","line"]:List Str).Nodup:=by decide +kernel
theorem zkQ:(["thing","line"]:List Str).Nodup:=by decide +kernel
theorem zkq:(["lot","by","number","quotient"]:List Str).Nodup:=by decide +kernel
theorem zkS:(["_law_size","_law_line"]:List Str).Nodup:=by decide +kernel
theorem zk2:(["_law_line","_law_column"]:List Str).Nodup:=by decide +kernel
theorem zly:(["_law_place","_law_number"]:List Str).Nodup:=by decide +kernel
theorem zkn:(["_law_lot_here","_law_place"]:List Str).Nodup:=by decide +kernel
theorem zj7:(["_law_top","_law_number","_law_place"]:List Str).Nodup:=by decide +kernel
theorem zlz:(["_law_most","_law_top","_law_lot_here","_law_place"]:List Str).Nodup:=by decide +kernel
theorem zkC:(["_law_by","_law_place"]:List Str).Nodup:=by decide +kernel
theorem zld:(["_law_quotients","_law_lot_here","_law_by","_law_place","_law_number"]:List Str).Nodup:=by decide +kernel
theorem zls:(["_law_place","_law_column"]:List Str).Nodup:=by decide +kernel
theorem zk9:(["_law_number"]:List Str).Nodup:=by decide +kernel
theorem zlr:(["_law_more","_law_number"]:List Str).Nodup:=by decide +kernel
section
local macro_rules | `(tactic| trivial)=>`(tactic| exact ⟨rfl,rfl,rfl,by decide +kernel,rfl,by decide +kernel,by decide +kernel⟩)
theorem z8I:zv ["thing"] ["thing"] (zg z0n):=by trivial
theorem z8Z:zv ["thing"] ["thing"] (zg z0t):=by trivial
theorem z90:zv ["line","numbers"] ["line","numbers"] (zg z0k):=by trivial
theorem z08:zv ["size","places"] ["size"] (zg qa):=by trivial
theorem z6f:zv ["table"] ["table"] (zg qI):=by trivial
theorem vd:zv ["lot","at"] ["lot"] (zg xH):=by trivial
theorem z49:zv ["lot"] ["lot"] (zg qj):=by trivial
theorem zaV:zv ["lot","place"] ["lot","place"] (zg z17):=by trivial
theorem zan:zv ["thing"] ["thing"] (zg z1k):=by trivial
theorem zeg:zv ["rule","numbers"] ["rule","numbers"] (zg z5K):=by trivial
theorem z3T:zv ["_law_script","_law_k"] ["_law_script","_law_k"] (zg uu):=by trivial
theorem vj:zv ["_law_cell","_law_number","_law_j","_law_more"] ["_law_cell"] (zg z0q):=by trivial
theorem z1Y:zv ["_law_pot_here","_law_far","_law_found"] ["_law_pot_here","_law_far"] (zg jO):=by trivial
theorem z5q:zv [] [] (zg jh):=by trivial
theorem zI:zv ["_law_rule","_law_lot_here","_law_size","_law_order","_law_top","_law_by","_law_most","_law_some","_law_quotients","_law_place","_law_later","_law_lines","_law_line"] ["_law_rule","_law_lot_here"] (zg kr):=by trivial
theorem z5y:zv ["_law_lot_here"] ["_law_lot_here"] (zg jr):=by trivial
theorem z5J:zv ["_law_size"] ["_law_size"] (zg jj):=by trivial
theorem vt:zv ["_law_table","_law_numbers","_law_found","_law_line","_law_total","_law_one","_law_other"] ["_law_table","_law_numbers"] (zg z0i):=by trivial
theorem z5f:zv ["_law_thing"] ["_law_thing"] (zg jg):=by trivial
theorem yu:zv ["_law_e","_law_some","_law_words"] ["_law_e"] (zg uy):=by trivial
theorem z6o:zv ["thing","many"] ["thing","many"] (zg qV):=by trivial
theorem z4k:zv ["lines","numbers"] ["lines","numbers"] (zg qd):=by trivial
theorem z4K:zv ["lot","greatest","others"] ["lot"] (zg z1h):=by trivial
theorem z30:zv ["lot","greatest","others"] ["lot"] (zg z0u):=by trivial
theorem z7b:zv ["lot","by"] ["lot"] (zg z2S):=by trivial
theorem zaD:zv ["lot"] ["lot"] (zg z1p):=by trivial
theorem z1R:zv ["thing"] ["thing"] (zg uE):=by trivial
theorem xR:zv ["_law_pot_here","_law_size","_law_far","_law_thin","_law_numbers","_law_place","_law_number","_law_more"] ["_law_pot_here"] (zg z0l):=by trivial
theorem qR:zv ["_law_rule","_law_lot_here","_law_lots","_law_tables","_law_later","_law_table"] ["_law_rule","_law_lot_here"] (zg z0f):=by trivial
theorem ub:zv ["_law_one","_law_other","_law_size","_law_sides"] ["_law_one","_law_other"] (zg ue):=by trivial
theorem jT:zv ["_law_pot_here","_law_rule","_law_some"] ["_law_pot_here","_law_rule"] (zg uc):=by trivial
theorem kT:zv ["_law_thing","_law_number"] ["_law_thing"] (zg qg):=by trivial
theorem z37:zv ["_law_pot_here","_law_some"] ["_law_pot_here"] (zg z0r):=by trivial
theorem z72:zv ["_law_found","_law_due"] ["_law_found","_law_due"] (zg uR):=by trivial
theorem zbs:zv ["thing"] ["thing"] (zg z2Y):=by trivial
theorem z8z:zv ["thing"] ["thing"] (zg z0m):=by trivial
theorem z0o:zv ["rule","lot","deal","by","divided"] ["rule","lot"] (zg z0j):=by trivial
theorem wN:zv ["_law_pot_here","_law_row","_law_at","_law_odd_here","_law_some"] ["_law_pot_here","_law_row"] (zg kc):=by trivial
theorem z3w:zv ["thing"] ["thing"] (zg qU):=by trivial
theorem z5O:zv ["thing"] ["thing"] (zg qT):=by trivial
theorem z6F:zv ["lot"] ["lot"] (zg jV):=by trivial
theorem z5S:zv ["one","other"] ["one","other"] (zg qQ):=by trivial
theorem vM:zv ["rule","lot"] ["rule","lot"] (zg yW):=by trivial
theorem wD:zv ["size","tables","products","table"] ["size","tables"] (zg wA):=by trivial
theorem z7z:zv ["rule","lot"] ["rule","lot"] (zg jX):=by trivial
theorem z8w:zv ["rule","lot","by","quotients","left"] ["rule","lot"] (zg z8y):=by trivial
theorem z0R:zv ["rule","lot","by","quotients"] ["rule","lot"] (zg qX):=by trivial
theorem zeY:zv ["rule","lot","lots"] ["rule","lot"] (zg zbP):=by trivial
theorem z7w:zv ["rule","lot"] ["rule","lot"] (zg kA):=by trivial
theorem z0c:zv ["rule","lot","tables"] ["rule","lot"] (zg uW):=by trivial
theorem z4F:zv ["rule","lot"] ["rule","lot"] (zg uY):=by trivial
theorem z1A:zv ["_law_way","_law_rule","_law_lot_here","_law_e"] ["_law_way","_law_rule","_law_lot_here"] (zg kE):=by trivial
theorem qC:zv ["_law_script","_law_k","_law_pot_here","_law_lot_here","_law_rule","_law_lots","_law_tables","_law_whole_here","_law_table","_law_turn","_law_found","_law_bad","_law_none"] ["_law_script"] (zg z58):=by trivial
end
section
variable {P:Program}{w:World}{K:W.Frag}{mg:Str->Option Value}{base:Heap}(T:Txt mg){f:Addr}{fd:FuncData}
include T
local macro_rules | `(tactic| trivial)=>`(tactic| first | exact (fun _ _ _ _ _ _ us hl=>match us,hl with | [],_=>rfl) | exact (fun _ _ _ _ _ _ us hl=>match us,hl with | [_],_=>rfl) | exact (fun _ _ _ _ _ _ us hl=>match us,hl with | [_,_],_=>rfl) | exact (fun _ _ _ _ _ _ us hl=>match us,hl with | [_,_,_],_=>rfl))
theorem z7a(F:Fun K "is_whole" "is_whole" z0n f fd)(hm:mg "is_whole"=some (.ref f))  : Has P w K mg base CX0 "is_whole" 1 Pg.wO:= (zR F hm (F.binds (ps:=["thing"]) (by trivial)) z8I rfl fun cdv A outer s H E hr hc=> have hu:=hr.units;(zj (zY (z6n (z84 (by decide) z7S (by rfl) T.isinstance_ (by rfl) T.int_ (zb 0)) (z5Y (zie (z84 (by decide) z3f (by rfl) T.isinstance_ (by rfl) T.bool_ (zb 0))))))))
theorem z6M (F:Fun K "has_size" "has_size" z0t f fd) (hm:mg "has_size"=some (.ref f))  : Has P w K mg base CX0 "has_size" 1 Pg.ym:= (zR F hm (F.binds (ps:=["thing"]) (by trivial)) z8Z rfl fun cdv A outer s H E hr hc=> have hu:=hr.units;(zj (zY (z6n (z84 (by decide) yh (by rfl) T.isinstance_ (by rfl) T.tuple_ (zb 0)) (z5Y (zgr zlT zlT (zlS (by rfl) T.LEAST_SIZE_) (zK uw (by rfl) T.len_ xZ (aN (zb 0) zd) (he:=(zq ..))) (zlS (by rfl) T.MOST_SIZE_)))))))
theorem z7N (F:Fun K "together" "together" z0k f fd) (hm:mg "together"=some (.ref f))  : Has P w K mg base CX0 "together" 1 Pg.qw:= (zR F hm (F.binds (ps:=["line","numbers"]) (by trivial)) z90 rfl fun cdv A outer s H E hr hc=> have hu:=hr.units;(zj (zY (zK (zl2 (by exact hc)) (by rfl) T.sum_ ziR (aO (zZ ["one","other"] [none,none] (by exact hc) (zbW (by rfl) T.zip_ (aN (zb 0) (aN (zb 1) zd))) (fun _ _ _=>uC 0 1 (by exact hc) zle) (uM 0 1 (by decide) (by rfl) (by rfl)) (fun _ _ _=>yw) (fun _ _ _=>(zN jY (zb 0) (zb 1)))) zd) (he:=(zQ ..))))))
theorem z32 (F:Fun K "like_places" "like_places" qa f fd) (hm:mg "like_places"=some (.ref f))  : Has P w K mg base CX0 "like_places" 1 Pg.yB:= (zR F hm (F.binds (ps:=["size"]) (by trivial)) z08 rfl fun cdv A outer s H E hr hc=> have hu:=hr.units;(zf (yk 1 z08.nd (z8x (by exact hc) (by rfl) T.list_ (by rfl) T.range_ (aN (zb 0) zd))) (zj (zY (yQ xL (by rfl) T.tuple_ yh (aO (zZ ["places","line"] [some 1,none] (by exact hc) (uU (zb 1)) (fun _ _ _=>zU (i:=1) zl9 (by rfl) (by first | exact Or.inl rfl | exact Or.inr rfl)) (zP 1 (by rfl)) (fun _ _ _=>yw) (fun _ _ _=>(yQ xL (by rfl) T.tuple_ yh (aO (zZ ["line","column"] [some 1,none] (by exact hc) (uU (zb 0)) (fun _ _ _=>zU (i:=1) zk3 (by rfl) (by first | exact Or.inl rfl | exact Or.inr rfl)) (zP 1 (by rfl)) (fun _ _ _=>yw) (fun _ _ _=>(zkk (yp (z59 hu) (zb 0) (zb 1)) zn zn))) zd) (he:=(zQ ..))))) zd) (he:=(zQ ..)))))))
theorem z4m (F:Fun K "columns_of" "columns_of" qI f fd) (hm:mg "columns_of"=some (.ref f))  : Has P w K mg base CX0 "columns_of" 1 Pg.yt:= (zR F hm (F.binds (ps:=["table"]) (by trivial)) z6f rfl fun cdv A outer s H E hr hc=> have hu:=hr.units;(zj (zY (yQ xL (by rfl) T.tuple_ yh (aO (zZ ["table","at"] [some 0,none] (by exact hc) (xm (by rfl) T.range_ (aQ (zK uw (by rfl) T.len_ xZ (aN (zb 0) zd) (he:=(zq ..))) zd)) (fun _ _ _=>zU (i:=1) zlv (by rfl) (by first | exact Or.inl rfl | exact Or.inr rfl)) (zP 1 (by rfl)) (fun _ _ _=>yw) (fun _ _ _=>(yQ xL (by rfl) T.tuple_ yh (aO (zZ ["at","line"] [some 1,none] (by exact hc) (uU (zb 0)) (fun _ _ _=>zU (i:=1) zku (by rfl) (by first | exact Or.inl rfl | exact Or.inr rfl)) (zP 1 (by rfl)) (fun _ _ _=>yw) (fun _ _ _=>(uo (zb 1) (zb 0)))) zd) (he:=(zQ ..))))) zd) (he:=(zQ ..))))))
theorem jb (F:Fun K "greatest_and_others" "greatest_and_others" xH f fd) (hm:mg "greatest_and_others"=some (.ref f))  : Has P w K mg base CX0 "greatest_and_others" 1 Pg.zD:= (zR F hm (F.binds (ps:=["lot"]) (by trivial)) vd rfl fun cdv A outer s H E hr hc=> have hu:=hr.units;(zf (yk 1 vd.nd (z8O (zb 0) (zK (z1V (by exact hc)) (by rfl) T.max_ z12 (aN (zb 0) zd) (he:=(zq ..))))) (zj (zY (xQ (aN (zb 1) (aB (zN xi (zN xi (xn (zb 0) wW (wI (zb 1))) (xQ (aK zn zd))) (xn (zb 0) (wI (zN xi (zb 1) zn)) wW)) zd)))))))
theorem z31 (F:Fun K "least_place" "least_place" qj f fd) (hm:mg "least_place"=some (.ref f))  : Has P w K mg base CX0 "least_place" 1 Pg.yq:= (zR F hm (F.binds (ps:=["lot"]) (by trivial)) z49 rfl fun cdv A outer s H E hr hc=> have hu:=hr.units;(zj (zY (z8O (zb 0) (zK (zfe (by exact hc)) (by rfl) T.min_ zcE (aO (zZ ["number"] [none] (by exact hc) (uU (zb 0)) (fun _ _ _=>zU (i:=0) ziq (by rfl) (by first | exact Or.inl rfl | exact Or.inr rfl)) (zP 0 (by rfl)) (fun _ _ _=>uX (yp (za7 hu) (zb 0) zn)) (fun _ _ _=>(zb 0))) zd) (he:=(zQ ..)))))))
theorem z8F (F:Fun K "all_but" "all_but" z17 f fd) (hm:mg "all_but"=some (.ref f))  : Has P w K mg base CX0 "all_but" 1 Pg.wr:= (zR F hm (F.binds (ps:=["lot","place"]) (by trivial)) zaV rfl fun cdv A outer s H E hr hc=> have hu:=hr.units;(zj (zY (zZ ["place","at"] [some 1,none] (by exact hc) (xm (by rfl) T.range_ (aQ (zK uw (by rfl) T.len_ xZ (aN (zb 0) zd) (he:=(zq ..))) zd)) (fun _ _ _=>zU (i:=1) zjW (by rfl) (by first | exact Or.inl rfl | exact Or.inr rfl)) (zP 1 (by rfl)) (fun _ _ _=>uX (yp (za7 hu) (zb 1) (zb 0))) (fun _ _ _=>(zb 1))))))
theorem z8o(F:Fun K "is_rule" "is_rule" z1k f fd)(hm:mg "is_rule"=some (.ref f))(T_RULES:zgM P w K mg "RULES" qJ):Has P w K mg base CX0 "is_rule" 1 Pg.xo:= (zR F hm (F.binds (ps:=["thing"]) (by trivial)) zan rfl fun cdv A outer s H E hr hc=> have hu:=hr.units;(zj (zY (z6n (z84 (by decide) zf2 (by rfl) T.isinstance_ (by rfl) T.str_ (zb 0)) (z5Y (zgK T_RULES (by rfl) (zb 0)))))))
theorem zbk(F:Fun K "moved" "moved" z5K f fd)(hm:mg "moved"=some (.ref f))  : Has P w K mg base CX0 "moved" 1 Pg.vH:= (zR F hm (F.binds (ps:=["rule","numbers"]) (by trivial)) zeg rfl fun cdv A outer s H E hr hc=> have hu:=hr.units;(zj (zY (zkk (yp (z59 hu) (zb 0) xl) (zN xi (xn (zb 1) (wI zn) wW) (xn (zb 1) wW (wI zn))) (zb 1)))))
theorem z2y (F:Fun K "_law_cell_at" "_law_cell_at" uu f fd) (hm:mg "_law_cell_at"=some (.ref f))  : Has P w K mg base CX0 "_law_cell_at" 1 Pg.xy:= (zR F hm (F.binds (ps:=["_law_script","_law_k"]) (by trivial)) z3T rfl fun cdv A outer s H E hr hc=> have hu:=hr.units;(zf (z0p (yp zlN (zb 1) (zK uw (by rfl) T.len_ xZ (aN (zb 0) zd) (he:=(zq ..)))) (zj (zY (uo (zb 0) (zb 1)))) yI) (zj (zY zn))))
theorem z79(F:Fun K "_law_pot" "_law_pot" z0q f fd)(hm:mg "_law_pot"=some (.ref f))  : Has P w K mg base CX0 "_law_pot" 1 Pg.vV:= (zR F hm (F.binds (ps:=["_law_cell"]) (by trivial)) vj rfl fun cdv A outer s H E hr hc=> have hu:=hr.units;(zf (z0p (yp zli (zb 0) (zN zaS zn zn)) (zj (zY (z4y (aB (zN zav (zb 0) (zN zaS zn zn)) zd)))) yI) (zf (yk 1 vj.nd zn) (zf (z3m PassesOwn.never hc (xm (by rfl) T.range_ (aK zn zd)) (kO 2 vj.nd) (zf (yk 3 vj.nd (zN zdO (zN jY (zN xi (zN xi (zN zdO (zb 0) zn) (zN jY zn (zb 2))) zn) zn) zn)) (zf (yk 3 vj.nd (zN zdO (zN xi (zN xi (zN jY (zb 3) (zb 3)) (zN jY zn (zb 2))) zn) zn)) (zj (yk 1 vj.nd (zN xi (zN jY (zb 1) zn) (zb 3))))))) (zj (zY (z4y (aN (zb 1) zd))))))))
theorem z5P(F:Fun K "_law_take" "_law_take" jO f fd)(hm:mg "_law_take"=some (.ref f))  : Has P w K mg base CX0 "_law_take" 1 Pg.zp:= (zR F hm (F.binds (ps:=["_law_pot_here","_law_far"]) (by trivial)) z1Y rfl fun cdv A outer s H E hr hc=> have hu:=hr.units;(zf (yk 2 z1Y.nd (zN zdO (uo (zb 0) zn) (zb 1))) (zf (z57 (zN zbT (uo (zb 0) zn) (zb 1)) (zb 0) zn) (zj (zY (zb 2))))))
theorem z4B(F:Fun K "_law_rules" "_law_rules" jh f fd)(hm:mg "_law_rules"=some (.ref f))  : Has P w K mg base CX0 "_law_rules" 1 Pg.wJ:= (zR F hm (F.binds (ps:=[]) (by trivial)) z5q rfl fun cdv A outer s H E hr hc=> have hu:=hr.units;(zj (zY (vp (aK xl (aK xl (aK xl (aK xl zd))))))))
theorem z6p (F:Fun K "_law_step" "_law_step" kr f fd) (hm:mg "_law_step"=some (.ref f))  : Has P w K mg base CX0 "_law_step" 1 Pg.wH:= (zR F hm (F.binds (ps:=["_law_rule","_law_lot_here"]) (by trivial)) zI rfl fun cdv A outer s H E hr hc=> have hu:=hr.units;(zf (yk 2 zI.nd (zK uw (by rfl) T.len_ xZ (aN (zb 1) zd) (he:=(zq ..)))) (zf (yk 3 zI.nd (zK zeh (by rfl) T.sorted_ zbH (aO (zZ ["_law_place","_law_number"] [none,none] (by exact hc) (zfh (by rfl) T.enumerate_ (aN (zb 1) zd)) (fun _ _ _=>uC 0 1 (by exact hc) zly) (uM 0 1 (by decide) (by rfl) (by rfl)) (fun _ _ _=>uX (yp zii (zb 1) zn)) (fun _ _ _=>(xQ (aN (zb 1) (aN (zb 0) zd))))) zd) (he:=(zQ ..)))) (zf (yk 4 zI.nd (uo (zZ ["_law_lot_here","_law_place"] [some 1,none] (by exact hc) (xm (by rfl) T.range_ (aN (zb 2) zd)) (fun _ _ _=>zU (i:=1) zkn (by rfl) (by first | exact Or.inl rfl | exact Or.inr rfl)) (zP 1 (by rfl)) (fun _ _ _=>uX (yp (z59 hu) (uo (zb 0) (zb 1)) (zK (z1V (by exact hc)) (by rfl) T.max_ z12 (aN (zb 0) zd) (he:=(zq ..))))) (fun _ _ _=>(zb 1))) zn)) (zf (yk 5 zI.nd (zhW (by decide) (uo (uo (zb 3) zn) zn) zn (zb 0))) (zf (z0p (yp (z59 hu) (zb 0) xl) (zj (yk 5 zI.nd (uo (zZ ["_law_top","_law_number","_law_place"] [some 4,none,none] (by exact hc) (uU (zb 3)) (fun _ _ _=>uC 1 2 (by exact hc) zj7) (uM 1 2 (by decide) (by rfl) (by rfl)) (fun _ _ _=>uX (yp (za7 hu) (zb 2) (zb 0))) (fun _ _ _=>(zb 2))) zn))) yI) (zf (z0p (yp (z59 hu) (zb 0) xl) (zf (yk 6 zI.nd (zK (z1V (by exact hc)) (by rfl) T.max_ z12 (aO (zZ ["_law_top","_law_number","_law_place"] [some 4,none,none] (by exact hc) (uU (zb 3)) (fun _ _ _=>uC 1 2 (by exact hc) zj7) (uM 1 2 (by decide) (by rfl) (by rfl)) (fun _ _ _=>uX (yp (za7 hu) (zb 2) (zb 0))) (fun _ _ _=>(zb 1))) zd) (he:=(zQ ..)))) (zj (yk 5 zI.nd (uo (zZ ["_law_most","_law_top","_law_lot_here","_law_place"] [some 6,some 4,some 1,none] (by exact hc) (xm (by rfl) T.range_ (aN (zb 2) zd)) (fun _ _ _=>zU (i:=3) zlz (by rfl) (by first | exact Or.inl rfl | exact Or.inr rfl)) (zP 3 (by rfl)) (fun _ _ _=>uX (RW.rt (w_and (yp (z59 hu) (uo (zb 2) (zb 3)) (zb 0)) (zf1 (yp (za7 hu) (zb 3) (zb 1)))))) (fun _ _ _=>(zb 3))) zn)))) yI) (zf (z8g 7 ["_law_by","_law_place"] [some 5,none] zI.nd hc (xm (by rfl) T.range_ (aN (zb 2) zd)) (fun _ _ _=>zU (i:=1) zkC (by rfl) (by first | exact Or.inl rfl | exact Or.inr rfl)) (zP 1 (by rfl)) (fun _ _ _=>uX (yp (za7 hu) (zb 1) (zb 0))) (fun _ _ _=>(zb 1))) (zf (z0p (yp zlF (zb 0) (xQ (aK xl (aK xl zd)))) (zj (yk 7 zI.nd (vp (aN (zb 4) zd)))) yI) (zf (yk 8 zI.nd (zN zhV (z4y (aK zn zd)) (zb 2))) (zf (z3m PassesOwn.never hc (uU (zb 7)) (kO 9 zI.nd) (zj (z0p (yp zii (uo (zb 1) (zb 5)) zn) (zj (z57 (zN zbT (uo (zb 1) (zb 9)) (uo (zb 1) (zb 5))) (zb 8) (zb 9))) yI))) (zf (z8g 10 ["_law_quotients","_law_lot_here","_law_by","_law_place","_law_number"] [some 8,some 1,some 5,none,none] zI.nd hc (zfh (by rfl) T.enumerate_ (aN (zb 1) zd)) (fun _ _ _=>uC 3 4 (by exact hc) zld) (uM 3 4 (by decide) (by rfl) (by rfl)) (fun _ _ _=>yw) (fun _ _ _=>(zN zav (zb 4) (zN jY (uo (zb 0) (zb 3)) (uo (zb 1) (zb 2)))))) (zf (yk 11 zI.nd (z4y zd)) (zf (z3m PassesOwn.never hc (xm (by rfl) T.range_ (aN (zb 2) zd)) (kO 9 zI.nd) (zf (zgn 12 ["_law_place","_law_column"] [some 9,none] zI.nd hc (xm (by rfl) T.range_ (aN (zb 2) zd)) (fun _ _ _=>zU (i:=1) zls (by rfl) (by first | exact Or.inl rfl | exact Or.inr rfl)) (zP 1 (by rfl)) (fun _ _ _=>yw) (fun _ _ _=>(yQ zgk (by rfl) T.int_ z7S (aM (uO (z59 hu) (zb 0) (zb 1)) zd) (he:=(z2K ..))))) (zf (z57 (zN xi (uo (zb 12) (zb 5)) (uo (zb 8) (zb 9))) (zb 12) (zb 5)) (zf (z0p (yp (z59 hu) (zb 0) xl) (zj (yk 12 zI.nd (zN xi (xn (zb 12) (wI zn) wW) (xn (zb 12) wW (wI zn))))) yI) (zj (wP (vS (zb 11) (yQ xL (by rfl) T.tuple_ yh (aN (zb 12) zd) (he:=(zq ..)))))))))) (zf (z0p (yp (z59 hu) (zb 0) xl) (zj (yk 10 zI.nd (zN xi (xn (zb 10) (wI zn) wW) (xn (zb 10) wW (wI zn))))) yI) (zj (zY (xQ (aQ (yQ xL (by rfl) T.tuple_ yh (aN (zb 10) zd) (he:=(zq ..))) (aQ (yQ xL (by rfl) T.tuple_ yh (aN (zb 11) zd) (he:=(zq ..))) zd)))))))))))))))))))).tidy
theorem z4q (F:Fun K "_law_ended" "_law_ended" jr f fd) (hm:mg "_law_ended"=some (.ref f))  : Has P w K mg base CX0 "_law_ended" 1 Pg.xj:= (zR F hm (F.binds (ps:=["_law_lot_here"]) (by trivial)) z5y rfl fun cdv A outer s H E hr hc=> have hu:=hr.units;(zj (zY (uO (z59 hu) (zK uw (by rfl) T.len_ xZ (aO (zZ ["_law_number"] [none] (by exact hc) (uU (zb 0)) (fun _ _ _=>zU (i:=0) zk9 (by rfl) (by first | exact Or.inl rfl | exact Or.inr rfl)) (zP 0 (by rfl)) (fun _ _ _=>uX (yp zii (zb 0) zn)) (fun _ _ _=>(zb 0))) zd) (he:=(zQ ..))) zn))))
theorem z4u (F:Fun K "_law_plain" "_law_plain" jj f fd) (hm:mg "_law_plain"=some (.ref f))  : Has P w K mg base CX0 "_law_plain" 1 Pg.wK:= (zR F hm (F.binds (ps:=["_law_size"]) (by trivial)) z5J rfl fun cdv A outer s H E hr hc=> have hu:=hr.units;(zj (zY (yQ xL (by rfl) T.tuple_ yh (aO (zZ ["_law_size","_law_line"] [some 0,none] (by exact hc) (xm (by rfl) T.range_ (aN (zb 0) zd)) (fun _ _ _=>zU (i:=1) zkS (by rfl) (by first | exact Or.inl rfl | exact Or.inr rfl)) (zP 1 (by rfl)) (fun _ _ _=>yw) (fun _ _ _=>(yQ xL (by rfl) T.tuple_ yh (aO (zZ ["_law_line","_law_column"] [some 1,none] (by exact hc) (xm (by rfl) T.range_ (aN (zb 0) zd)) (fun _ _ _=>zU (i:=1) zk2 (by rfl) (by first | exact Or.inl rfl | exact Or.inr rfl)) (zP 1 (by rfl)) (fun _ _ _=>yw) (fun _ _ _=>(yQ zgk (by rfl) T.int_ z7S (aM (uO (z59 hu) (zb 0) (zb 1)) zd) (he:=(z2K ..))))) zd) (he:=(zQ ..))))) zd) (he:=(zQ ..))))))
theorem z77 (F:Fun K "_law_led" "_law_led" z0i f fd) (hm:mg "_law_led"=some (.ref f))  : Has P w K mg base CX0 "_law_led" 1 Pg.z1d:= (zR F hm (F.binds (ps:=["_law_table","_law_numbers"]) (by trivial)) vt rfl fun cdv A outer s H E hr hc=> have hu:=hr.units;(zf (yk 2 vt.nd (z4y zd)) (zf (z3m PassesOwn.never hc (uU (zb 0)) (kO 3 vt.nd) (zf (yk 4 vt.nd zn) (zf (z3m PassesOwn.never hc (zbW (by rfl) T.zip_ (aN (zb 3) (aN (zb 1) zd))) (z25 5 6 hc vt.nd) (zj (yk 4 vt.nd (zN xi (zb 4) (zN jY (zb 5) (zb 6)))))) (zj (wP (vS (zb 2) (zb 4))))))) (zj (zY (yQ xL (by rfl) T.tuple_ yh (aN (zb 2) zd) (he:=(zq ..)))))))).tidy
theorem z4x(F:Fun K "_law_whole" "_law_whole" jg f fd)(hm:mg "_law_whole"=some (.ref f))  : Has P w K mg base CX0 "_law_whole" 1 Pg.xk:= (zR F hm (F.binds (ps:=["_law_thing"]) (by trivial)) z5f rfl fun cdv A outer s H E hr hc=> have hu:=hr.units;(zj (zY (z6n (z84 (by decide) z7S (by rfl) T.isinstance_ (by rfl) T.int_ (zb 0)) (z5Y (zie (z84 (by decide) z3f (by rfl) T.isinstance_ (by rfl) T.bool_ (zb 0))))))))
theorem z2m(F:Fun K "_law_kind_of" "_law_kind_of" uy f fd)(hm:mg "_law_kind_of"=some (.ref f))(FM:z7K ⟨mg,K⟩ rsX csX):zjO P w K mg base CX0 "_law_kind_of" 1 yU:= zhv F hm (F.binds (ps:=["_law_e"]) (by trivial)) yu rfl fun cdv A outer s H E hr=> have hu:=hr.units;(zf (yk 1 yu.nd (vp (aQ (jW FM (by decide) (by rfl) T.isinstance_ (by rfl) (zb 0)) (aQ (jW FM (by decide) (by rfl) T.isinstance_ (by rfl) (zb 0)) (aQ (jW FM (by decide) (by rfl) T.isinstance_ (by rfl) (zb 0)) (aQ (jW FM (by decide) (by rfl) T.isinstance_ (by rfl) (zb 0)) zd)))))) (zf (yk 1 yu.nd (zN xi (zb 1) (vp (aQ (jW FM (by decide) (by rfl) T.isinstance_ (by rfl) (zb 0)) (aQ (jW FM (by decide) (by rfl) T.isinstance_ (by rfl) (zb 0)) (aQ (jW FM (by decide) (by rfl) T.isinstance_ (by rfl) (zb 0)) (aQ (jW FM (by decide) (by rfl) T.isinstance_ (by rfl) (zb 0)) zd))))))) (zf (yk 1 yu.nd (zN xi (zb 1) (vp (aQ (jW FM (by decide) (by rfl) T.isinstance_ (by rfl) (zb 0)) (aQ (jW FM (by decide) (by rfl) T.isinstance_ (by rfl) (zb 0)) (aQ (jW FM (by decide) (by rfl) T.isinstance_ (by rfl) (zb 0)) (aQ (jW FM (by decide) (by rfl) T.isinstance_ (by rfl) (zb 0)) zd))))))) (zf (yk 1 yu.nd (zN xi (zb 1) (vp (aQ (jW FM (by decide) (by rfl) T.isinstance_ (by rfl) (zb 0)) (aQ (jW FM (by decide) (by rfl) T.isinstance_ (by rfl) (zb 0)) (aQ (jW FM (by decide) (by rfl) T.isinstance_ (by rfl) (zb 0)) (aQ (jW FM (by decide) (by rfl) T.isinstance_ (by rfl) (zb 0)) zd))))))) (zf (yk 1 yu.nd (zN xi (zb 1) (vp (aQ (jW FM (by decide) (by rfl) T.isinstance_ (by rfl) (zb 0)) zd)))) (zf (z0p (RW.rt (zf6 (yp (za7 hu) (ze0 (zb 1) z8b) zn) (z8U (kM (qE (zlD FM (by rfl) T.isinstance_ (by rfl) T.ValueError_ (zb 0))))))) (zj (zY xl)) yI) (zf (yk 2 yu.nd (vp (aK xl (aK xl (aK xl (aK xl (aK xl (aK xl (aK xl (aK xl (aK xl zd))))))))))) (zf (yk 2 yu.nd (zN xi (zb 2) (vp (aK xl (aK xl (aK xl (aK xl (aK xl (aK xl (aK xl (aK xl zd))))))))))) (zj (zY (uo (zb 2) (ze3 (zb 1) z8b))))))))))))
theorem z4l (F:Fun K "are_wholes" "are_wholes" qV f fd) (hm:mg "are_wholes"=some (.ref f)) (H_is_whole:Has P w K mg base CX0 "is_whole" 1 Pg.wO):Has P w K mg base CX0 "are_wholes" 2 Pg.yb:= (zR F hm (F.binds (ps:=["thing","many"]) (by trivial)) z6o rfl fun cdv A outer s H E hr hc=> have hu:=hr.units;(zf (z0p (RW.rt (zf6 (kM (qE (z84 (by decide) yh (by rfl) T.isinstance_ (by rfl) T.tuple_ (zb 0)))) (z8U (yp (za7 hu) (zK uw (by rfl) T.len_ xZ (aN (zb 0) zd) (he:=(zq ..))) (zb 1))))) (zj (zY z8b)) yI) (zj (zY (zK (zgf (by exact hc)) (by rfl) T.all_ zbU (aO (zZ ["part"] [none] (by exact hc) (uU (zb 0)) (fun _ _ _=>zU (i:=0) zlh (by rfl) (by first | exact Or.inl rfl | exact Or.inr rfl)) (zP 0 (by rfl)) (fun _ _ _=>yw) (fun _ _ _=>(zu H_is_whole (hr.mono (by decide)) zM (by rfl) (aN (zb 0) zd)))) zd) (he:=(zQ ..)))))))
theorem z39 (F:Fun K "lines_times" "lines_times" qd f fd) (hm:mg "lines_times"=some (.ref f)) (H_together:Has P w K mg base CX0 "together" 1 Pg.qw):Has P w K mg base CX0 "lines_times" 2 Pg.yM:= (zR F hm (F.binds (ps:=["lines","numbers"]) (by trivial)) z4k rfl fun cdv A outer s H E hr hc=> have hu:=hr.units;(zj (zY (yQ xL (by rfl) T.tuple_ yh (aO (zZ ["numbers","line"] [some 1,none] (by exact hc) (uU (zb 0)) (fun _ _ _=>zU (i:=1) zlb (by rfl) (by first | exact Or.inl rfl | exact Or.inr rfl)) (zP 1 (by rfl)) (fun _ _ _=>yw) (fun _ _ _=>(zu H_together (hr.mono (by decide)) zM (by rfl) (aN (zb 1) (aN (zb 0) zd))))) zd) (he:=(zQ ..))))))
theorem z8N (F:Fun K "by_next" "by_next" z1h f fd) (hm:mg "by_next"=some (.ref f)) (H_greatest_and_others:Has P w K mg base CX0 "greatest_and_others" 1 Pg.zD):Has P w K mg base CX0 "by_next" 2 Pg.vC:= (zR F hm (F.binds (ps:=["lot"]) (by trivial)) z4K rfl fun cdv A outer s H E hr hc=> have hu:=hr.units;(zf (z8A (zu H_greatest_and_others (hr.mono (by decide)) zM (by rfl) (aN (zb 0) zd)) (z25 1 2 hc z4K.nd)) (zj (zY (xQ (aQ (z8O (zb 2) (zK (z1V (by exact hc)) (by rfl) T.max_ z12 (aN (zb 2) zd) (he:=(zq ..)))) (aL (vp (aN (zb 1) zd)) zd)))))))
theorem z6u(F:Fun K "by_least" "by_least" z0u f fd)(hm:mg "by_least"=some (.ref f))(H_greatest_and_others:Has P w K mg base CX0 "greatest_and_others" 1 Pg.zD)(H_least_place:Has P w K mg base CX0 "least_place" 1 Pg.yq):Has P w K mg base CX0 "by_least" 2 Pg.wM:= (zR F hm (F.binds (ps:=["lot"]) (by trivial)) z30 rfl fun cdv A outer s H E hr hc=> have hu:=hr.units;(zf (z8A (zu H_greatest_and_others (hr.mono (by decide)) zM (by rfl) (aN (zb 0) zd)) (z25 1 2 hc z30.nd)) (zj (zY (xQ (aQ (zu H_least_place (hr.mono (by decide)) zM (by rfl) (aN (zb 2) zd)) (aL (vp (aN (zb 1) zd)) zd)))))))
theorem zb7(F:Fun K "by_all" "by_all" z2S f fd)(hm:mg "by_all"=some (.ref f))(H_least_place:Has P w K mg base CX0 "least_place" 1 Pg.yq)(H_all_but:Has P w K mg base CX0 "all_but" 1 Pg.wr):Has P w K mg base CX0 "by_all" 2 Pg.uI:= (zR F hm (F.binds (ps:=["lot"]) (by trivial)) z7b rfl fun cdv A outer s H E hr hc=> have hu:=hr.units;(zf (yk 1 z7b.nd (zu H_least_place (hr.mono (by decide)) zM (by rfl) (aN (zb 0) zd))) (zj (zY (xQ (aN (zb 1) (aQ (zu H_all_but (hr.mono (by decide)) zM (by rfl) (aN (zb 0) (aN (zb 1) zd))) zd)))))))
theorem z8v(F:Fun K "by_turn" "by_turn" z1p f fd)(hm:mg "by_turn"=some (.ref f))(H_all_but:Has P w K mg base CX0 "all_but" 1 Pg.wr):Has P w K mg base CX0 "by_turn" 2 Pg.vA:= (zR F hm (F.binds (ps:=["lot"]) (by trivial)) zaD rfl fun cdv A outer s H E hr hc=> have hu:=hr.units;(zf (z0p (yp (z59 hu) (uo (zb 0) zn) zn) (zj (zY (xQ (aK zn (aL (vp zd) zd))))) yI) (zj (zY (xQ (aK zn (aQ (zu H_all_but (hr.mono (by decide)) zM (by rfl) (aN (zb 0) (aK zn zd))) zd)))))))
theorem z4A(F:Fun K "want_rule" "want_rule" uE f fd)(hm:mg "want_rule"=some (.ref f))(E_NoRule:zhA K mg "NoRule")(H_is_rule:Has P w K mg base CX0 "is_rule" 1 Pg.xo):Has P w K mg base (CX1 P w) "want_rule" 2 Pg.wG:= (jZ F hm (F.binds (ps:=["thing"]) (by trivial)) z1R rfl fun cdv A outer s H E hr hc=> have hu:=hr.units;(zj (z0p (kM (qE (zu H_is_rule (hr.mono (by decide)) zhw (by rfl) (aN (zb 0) zd)))) (zj (zcP E_NoRule z9s hc (by rfl))) yI)))
theorem z5l(F:Fun K "want_rule" "want_rule" uE f fd)(hm:mg "want_rule"=some (.ref f))(H_is_rule:Has P w K mg base CX0 "is_rule" 1 Pg.xo):Has P w K mg base CX0 "want_rule" 2 Pg.wC:= (zR F hm (F.binds (ps:=["thing"]) (by trivial)) z1R rfl fun cdv A outer s H E hr hc=> have hu:=hr.units;(zj (z0p (kM (qE (zu H_is_rule (hr.mono (by decide)) zM (by rfl) (aN (zb 0) zd)))) (zj z3q) yI)))
theorem z7H (F:Fun K "_law_lot" "_law_lot" z0l f fd) (hm:mg "_law_lot"=some (.ref f)) (H__law_take:Has P w K mg base CX0 "_law_take" 1 Pg.zp):Has P w K mg base CX0 "_law_lot" 2 Pg.qD:= (zR F hm (F.binds (ps:=["_law_pot_here"]) (by trivial)) xR rfl fun cdv A outer s H E hr hc=> have hu:=hr.units;(zf (yk 1 xR.nd (zN xi zn (zu H__law_take (hr.mono (by decide)) zM (by rfl) (aN (zb 0) (aK zn zd))))) (zf (yk 2 xR.nd (uo (vp (aK zn (aK zn (aB (zN zaS zn zn) (aB (zN zaS zn zn) (aK zn (aK zn zd))))))) (zu H__law_take (hr.mono (by decide)) zM (by rfl) (aN (zb 0) (aK zn zd))))) (zf (yk 3 xR.nd (zu H__law_take (hr.mono (by decide)) zM (by rfl) (aN (zb 0) (aK zn zd)))) (zf (yk 4 xR.nd (z4y zd)) (zf (z3m PassesOwn.never hc (xm (by rfl) T.range_ (aN (zb 1) zd)) (kO 5 xR.nd) (zf (yk 6 xR.nd (zN xi (zu H__law_take (hr.mono (by decide)) zM (by rfl) (aN (zb 0) (aN (zb 2) zd))) zn)) (zj (wP (vS (zb 4) (zN jY (zb 6) (yQ zgk (by rfl) T.int_ z7S (aM (uO zli (zu H__law_take (hr.mono (by decide)) zM (by rfl) (aN (zb 0) (aK zn zd))) (zb 3)) zd) (he:=(z2K ..))))))))) (zf (z0p (yp (z59 hu) (zK (z1V (by exact hc)) (by rfl) T.max_ z12 (aN (zb 4) zd) (he:=(zq ..))) zn) (zj (z57 (zN xi zn (zu H__law_take (hr.mono (by decide)) zM (by rfl) (aN (zb 0) (aN (zb 2) zd)))) (zb 4) (zu H__law_take (hr.mono (by decide)) zM (by rfl) (aN (zb 0) (aN (zb 1) zd))))) yI) (zf (yk 7 xR.nd (zN xi zn (zu H__law_take (hr.mono (by decide)) zM (by rfl) (aN (zb 0) (aK zn zd))))) (zf (z0p (yp (z59 hu) (zu H__law_take (hr.mono (by decide)) zM (by rfl) (aN (zb 0) (aK zn zd))) zn) (zj (z57 (uo (zb 4) (zu H__law_take (hr.mono (by decide)) zM (by rfl) (aN (zb 0) (aN (zb 1) zd)))) (zb 4) (zu H__law_take (hr.mono (by decide)) zM (by rfl) (aN (zb 0) (aN (zb 1) zd))))) yI) (zf (z0p (yp (z59 hu) (zK (z1V (by exact hc)) (by rfl) T.max_ z12 (aN (zb 4) zd) (he:=(zq ..))) zn) (zj (z57 zn (zb 4) zn)) yI) (zj (zY (yQ xL (by rfl) T.tuple_ yh (aO (zZ ["_law_more","_law_number"] [some 7,none] (by exact hc) (uU (zb 4)) (fun _ _ _=>zU (i:=1) zlr (by rfl) (by first | exact Or.inl rfl | exact Or.inr rfl)) (zP 1 (by rfl)) (fun _ _ _=>yw) (fun _ _ _=>(zN jY (zb 1) (zb 0)))) zd) (he:=(zQ ..))))))))))))))).tidy
theorem z78 (F:Fun K "_law_run" "_law_run" z0f f fd) (hm:mg "_law_run"=some (.ref f)) (H__law_step:Has P w K mg base CX0 "_law_step" 1 Pg.wH) (H__law_ended:Has P w K mg base CX0 "_law_ended" 1 Pg.xj):Has P w K mg base CX0 "_law_run" 2 Pg.vW:= (zR F hm (F.binds (ps:=["_law_rule","_law_lot_here"]) (by trivial)) qR rfl fun cdv A outer s H E hr hc=> have hu:=hr.units;(zf (yk 2 qR.nd (z4y (aN (zb 1) zd))) (zf (yk 3 qR.nd (z4y zd)) (zf (zcr PassesOwn.never (kM (qE (zu H__law_ended (hr.mono (by decide)) zM (by rfl) (aS (uo (zb 2) (z7c zn)) zd) (he:=(z2R ..))))) (zf (z8A (zu H__law_step (hr.mono (by decide)) zM (by rfl) (aN (zb 0) (aS (uo (zb 2) (z7c zn)) zd))) (z25 4 5 hc qR.nd)) (zf (wP (vS (zb 2) (zb 4))) (zj (wP (vS (zb 3) (zb 5))))))) (zj (zY (xQ (aN (zb 2) (aN (zb 3) zd)))))))))
theorem z2v (F:Fun K "_law_product" "_law_product" ue f fd) (hm:mg "_law_product"=some (.ref f)) (H__law_led:Has P w K mg base CX0 "_law_led" 1 Pg.z1d):Has P w K mg base CX0 "_law_product" 2 Pg.vx:= (zR F hm (F.binds (ps:=["_law_one","_law_other"]) (by trivial)) ub rfl fun cdv A outer s H E hr hc=> have hu:=hr.units;(zf (yk 2 ub.nd (zK uw (by rfl) T.len_ xZ (aN (zb 0) zd) (he:=(zq ..)))) (zf (yk 3 ub.nd (zZ ["_law_one","_law_other","_law_at"] [some 0,some 1,none] (by exact hc) (xm (by rfl) T.range_ (aN (zb 2) zd)) (fun _ _ _=>zU (i:=2) zmn (by rfl) (by first | exact Or.inl rfl | exact Or.inr rfl)) (zP 2 (by rfl)) (fun _ _ _=>yw) (fun _ _ _=>(zu H__law_led (hr.mono (by decide)) zM (by rfl) (aN (zb 0) (aO (zZ ["_law_at","_law_line"] [some 2,none] (by exact hc) (uU (zb 1)) (fun _ _ _=>zU (i:=1) zmp (by rfl) (by first | exact Or.inl rfl | exact Or.inr rfl)) (zP 1 (by rfl)) (fun _ _ _=>yw) (fun _ _ _=>(uo (zb 1) (zb 0)))) zd)))))) (zj (zY (yQ xL (by rfl) T.tuple_ yh (aO (zZ ["_law_sides","_law_at"] [some 3,none] (by exact hc) (xm (by rfl) T.range_ (aN (zb 2) zd)) (fun _ _ _=>zU (i:=1) zmC (by rfl) (by first | exact Or.inl rfl | exact Or.inr rfl)) (zP 1 (by rfl)) (fun _ _ _=>yw) (fun _ _ _=>(yQ xL (by rfl) T.tuple_ yh (aO (zZ ["_law_at","_law_side"] [some 1,none] (by exact hc) (uU (zb 0)) (fun _ _ _=>zU (i:=1) zmk (by rfl) (by first | exact Or.inl rfl | exact Or.inr rfl)) (zP 1 (by rfl)) (fun _ _ _=>yw) (fun _ _ _=>(uo (zb 1) (zb 0)))) zd) (he:=(zQ ..))))) zd) (he:=(zQ ..))))))))
theorem z2o(F:Fun K "_law_no_rule" "_law_no_rule" uc f fd)(hm:mg "_law_no_rule"=some (.ref f))(H__law_take:Has P w K mg base CX0 "_law_take" 1 Pg.zp):Has P w K mg base CX0 "_law_no_rule" 2 Pg.wn:= (zR F hm (F.binds (ps:=["_law_pot_here","_law_rule"]) (by trivial)) jT rfl fun cdv A outer s H E hr hc=> have hu:=hr.units;(zf (yk 2 jT.nd (vp (aQ (zgz (zb 1)) (aB (zN zfq (zb 1) xl) (aS (zdp (zb 1) (wI zn)) (aB (zN zfq (zb 1) xl) (aK xl (aK zdq (aK zn (aT (xQ (aN (zb 1) zd)) (aL (vp (aN (zb 1) zd)) (aK z8b (vZ ziM zd (by rfl)))))))))))))) (zj (zY (uo (zb 2) (zu H__law_take (hr.mono (by decide)) zM (by rfl) (aN (zb 0) (aK zn zd))))))))
theorem z3P (F:Fun K "_law_is_lot" "_law_is_lot" qg f fd) (hm:mg "_law_is_lot"=some (.ref f)) (H__law_whole:Has P w K mg base CX0 "_law_whole" 1 Pg.xk):Has P w K mg base CX0 "_law_is_lot" 2 Pg.yr:= (zR F hm (F.binds (ps:=["_law_thing"]) (by trivial)) kT rfl fun cdv A outer s H E hr hc=> have hu:=hr.units;(zf (z0p (RW.rt (zf6 (kM (qE (z84 (by decide) yh (by rfl) T.isinstance_ (by rfl) T.tuple_ (zb 0)))) (z8U (yp zg0 (zK uw (by rfl) T.len_ xZ (aN (zb 0) zd) (he:=(zq ..))) (xQ (aK zn (aK zn (aK zn zd)))))))) (zj (zY z8b)) yI) (zf (z3m PassesOwn.never hc (uU (zb 0)) (kO 1 kT.nd) (zj (z0p (RW.rt (zf6 (kM (qE (zu H__law_whole (hr.mono (by decide)) zM (by rfl) (aN (zb 1) zd)))) (z8U (yp zlN (zb 1) zn)))) (zj (zY z8b)) yI))) (zj (zY (uO zii (zK (z1V (by exact hc)) (by rfl) T.max_ z12 (aN (zb 0) zd) (he:=(zq ..))) zn))))))
theorem z6C (F:Fun K "_law_odd" "_law_odd" z0r f fd) (hm:mg "_law_odd"=some (.ref f)) (H__law_take:Has P w K mg base CX0 "_law_take" 1 Pg.zp):Has P w K mg base CX0 "_law_odd" 2 Pg.qt:= (zR F hm (F.binds (ps:=["_law_pot_here"]) (by trivial)) z37 rfl fun cdv A outer s H E hr hc=> have hu:=hr.units;(zf (by refine yk (i:=1) (hN:=?_) (he:=?_) (hi:=?_) (hx:=?_) (hs:=?_) (hf:=?_);exact z37.nd;exact (vp (aK zdq (aK z8b (aK z8b (aU (z7c zn) (aK zn (aK zn (aB (zN zaS zn zn) (aK xl (aK xl (aT (xQ zd) (aT (xQ (aK zn (aK zn zd))) (aT (xQ (aK zn zd)) (aL (vp (aK zn (aK zn zd))) (vZ ziM zd (by rfl))))))))))))))));rfl;(first | exact Or.inl rfl | exact Or.inr rfl);rfl;(first | exact .inl rfl | exact .inr rfl | assumption)) (zj (zY (uo (zN xi (zb 1) (vp (aT (xQ (aT (xQ (aK zn (aK zn zd))) (aT (xQ (aK zn (aK zn zd))) zd))) (aT (xQ (aK z8b (aK zn zd))) zd)))) (zu H__law_take (hr.mono (by decide)) zM (by rfl) (aN (zb 0) (aK zn zd))))))))
theorem wo (F:Fun K "_law_same" "_law_same" uR f fd) (hm:mg "_law_same"=some (.ref f)) (H__law_whole:Has P w K mg base CX0 "_law_whole" 1 Pg.xk) (k:Nat) (Hr:Has P w K mg base CX0 "_law_same" (k+1) (Pg.zt k)):Has P w K mg base CX0 "_law_same" (k+1+1) (Pg.zt (k+1)):= (zR F hm (F.binds (ps:=["_law_found","_law_due"]) (by trivial)) z72 rfl fun cdv A outer s H E hr hc=> have hu:=hr.units;(zf (z0p (qE (zkW (by decide) (by decide) z5Z yh (by rfl) T.isinstance_ (by rfl) T.list_ (by rfl) T.tuple_ (zb 1))) (zf (z0p (RW.rt (zf6 (yp (za7 hu) (z84 (by decide) z5Z (by rfl) T.isinstance_ (by rfl) T.list_ (zb 1)) (z84 (by decide) z5Z (by rfl) T.isinstance_ (by rfl) T.list_ (zb 0))) (z8U (yp (za7 hu) (z84 (by decide) yh (by rfl) T.isinstance_ (by rfl) T.tuple_ (zb 1)) (z84 (by decide) yh (by rfl) T.isinstance_ (by rfl) T.tuple_ (zb 0)))))) (zj (zY z8b)) yI) (zj (zY (z6n (uO (z59 hu) (zK uw (by rfl) T.len_ xZ (aN (zb 0) zd) (he:=(zq ..))) (zK uw (by rfl) T.len_ xZ (aN (zb 1) zd) (he:=(zq ..)))) (z5Y (zK (zgf (by exact hc)) (by rfl) T.all_ zbU (aO (zZ ["_law_one","_law_other"] [none,none] (by exact hc) (zbW (by rfl) T.zip_ (aN (zb 0) (aN (zb 1) zd))) (fun _ _ _=>uC 0 1 (by exact hc) zmJ) (uM 0 1 (by decide) (by rfl) (by rfl)) (fun _ _ _=>yw) (fun _ _ _=>(zu Hr hr zM (by rfl) (aN (zb 0) (aN (zb 1) zd))))) zd) (he:=(zQ ..)))))))) yI) (zf (z0p (RW.rt (zf6 (yp zmr (zb 1) zdq) (zf6 (qE (z84 (by decide) z3f (by rfl) T.isinstance_ (by rfl) T.bool_ (zb 1))) (z8U (qE (z84 (by decide) zf2 (by rfl) T.isinstance_ (by rfl) T.str_ (zb 1))))))) (zj (zY (z6n (uO (z59 hu) (zb 0) (zb 1)) (z5Y (uO (z59 hu) (z84 (by decide) z3f (by rfl) T.isinstance_ (by rfl) T.bool_ (zb 0)) (z84 (by decide) z3f (by rfl) T.isinstance_ (by rfl) T.bool_ (zb 1))))))) yI) (zj (zY (z6n (zu H__law_whole (hr.mono (by omega)) zM (by rfl) (aN (zb 0) zd)) (z5Y (uO (z59 hu) (zb 0) (zb 1)))))))))
theorem z6d(F:Fun K "_law_same" "_law_same" uR f fd)(hm:mg "_law_same"=some (.ref f))(H__law_whole:Has P w K mg base CX0 "_law_whole" 1 Pg.xk):Has P w K mg base CX0 "_law_same" 6 Pg.jo:= (wo T F hm H__law_whole 4 (wo T F hm H__law_whole 3 (wo T F hm H__law_whole 2 (wo T F hm H__law_whole 1 (wo T F hm H__law_whole 0 ((zit F hm (F.binds (ps:=["_law_found","_law_due"]) (by trivial))).mono (by decide)))))))
theorem zb4 (F:Fun K "is_lot" "is_lot" z2Y f fd) (hm:mg "is_lot"=some (.ref f)) (H_has_size:Has P w K mg base CX0 "has_size" 1 Pg.ym) (H_are_wholes:Has P w K mg base CX0 "are_wholes" 2 Pg.yb):Has P w K mg base CX0 "is_lot" 3 Pg.yj:= (zR F hm (F.binds (ps:=["thing"]) (by trivial)) zbs rfl fun cdv A outer s H E hr hc=> have hu:=hr.units;(zf (z0p (RW.rt (zf6 (kM (qE (zu H_has_size (hr.mono (by decide)) zM (by rfl) (aN (zb 0) zd)))) (z8U (kM (qE (zu H_are_wholes (hr.mono (by decide)) zM (by rfl) (aN (zb 0) (aQ (zK uw (by rfl) T.len_ xZ (aN (zb 0) zd) (he:=(zq ..))) zd)))))))) (zj (zY z8b)) yI) (zj (zY (z6n (uO zli (zK (zfe (by exact hc)) (by rfl) T.min_ zcE (aN (zb 0) zd) (he:=(zq ..))) zn) (z5Y (uO zii (zK (z1V (by exact hc)) (by rfl) T.max_ z12 (aN (zb 0) zd) (he:=(zq ..))) zn)))))))
theorem z7I (F:Fun K "is_table" "is_table" z0m f fd) (hm:mg "is_table"=some (.ref f)) (H_has_size:Has P w K mg base CX0 "has_size" 1 Pg.ym) (H_are_wholes:Has P w K mg base CX0 "are_wholes" 2 Pg.yb):Has P w K mg base CX0 "is_table" 3 Pg.vk:= (zR F hm (F.binds (ps:=["thing"]) (by trivial)) z8z rfl fun cdv A outer s H E hr hc=> have hu:=hr.units;(zf (z0p (kM (qE (zu H_has_size (hr.mono (by decide)) zM (by rfl) (aN (zb 0) zd)))) (zj (zY z8b)) yI) (zj (zY (zK (zgf (by exact hc)) (by rfl) T.all_ zbU (aO (zZ ["thing","line"] [some 0,none] (by exact hc) (uU (zb 0)) (fun _ _ _=>zU (i:=1) zkQ (by rfl) (by first | exact Or.inl rfl | exact Or.inr rfl)) (zP 1 (by rfl)) (fun _ _ _=>yw) (fun _ _ _=>(zu H_are_wholes (hr.mono (by decide)) zM (by rfl) (aN (zb 1) (aQ (zK uw (by rfl) T.len_ xZ (aN (zb 0) zd) (he:=(zq ..))) zd))))) zd) (he:=(zQ ..)))))))
theorem z6R (F:Fun K "division" "division" z0j f fd) (hm:mg "division"=some (.ref f)) (T_RULES:zgM P w K mg "RULES" qJ) (H_by_next:Has P w K mg base CX0 "by_next" 2 Pg.vC) (H_by_least:Has P w K mg base CX0 "by_least" 2 Pg.wM) (H_by_all:Has P w K mg base CX0 "by_all" 2 Pg.uI) (H_by_turn:Has P w K mg base CX0 "by_turn" 2 Pg.vA):Has P w K mg base CX0 "division" 3 Pg.xB:= (zR F hm (F.binds (ps:=["rule","lot"]) (by trivial)) z0o rfl fun cdv A outer s H E hr hc=> have hu:=hr.units;(zf (yk 2 z0o.nd (zkL T_RULES (by rfl) (zb 0) (fun _ _=>rfl))) (zf (z8A (zg9 (n:=2) 2 (uf (Has.mono H_by_next (by decide)) (uf (Has.mono H_by_least (by decide)) (uf (Has.mono H_by_all (by decide)) (uf (Has.mono H_by_turn (by decide)) z9m)))) (hr.mono (by decide)) zM (aN (zb 1) zd) (he:=(zq ..))) (z25 3 4 hc z0o.nd)) (zj (zY (xQ (aN (zb 3) (aO (zZ ["divided","lot","by","at"] [some 4,some 1,some 3,none] (by exact hc) (xm (by rfl) T.range_ (aQ (zK uw (by rfl) T.len_ xZ (aN (zb 1) zd) (he:=(zq ..))) zd)) (fun _ _ _=>zU (i:=3) zkw (by rfl) (by first | exact Or.inl rfl | exact Or.inr rfl)) (zP 3 (by rfl)) (fun _ _ _=>yw) (fun _ _ _=>(zkk (yp zlF (zb 3) (zb 0)) (zN zbT (uo (zb 1) (zb 3)) (uo (zb 1) (zb 2))) zn))) zd))))))))
theorem z6b (F:Fun K "_law_bent" "_law_bent" kc f fd) (hm:mg "_law_bent"=some (.ref f)) (H__law_take:Has P w K mg base CX0 "_law_take" 1 Pg.zp) (H__law_odd:Has P w K mg base CX0 "_law_odd" 2 Pg.qt):Has P w K mg base CX0 "_law_bent" 3 Pg.ul:= (zR F hm (F.binds (ps:=["_law_pot_here","_law_row"]) (by trivial)) wN rfl fun cdv A outer s H E hr hc=> have hu:=hr.units;(zf (yk 2 wN.nd (zu H__law_take (hr.mono (by decide)) zM (by rfl) (aN (zb 0) (aQ (zK uw (by rfl) T.len_ xZ (aN (zb 1) zd) (he:=(zq ..))) zd)))) (zf (yk 3 wN.nd (vp (aB (zN xi (uo (zb 1) (zb 2)) zn) (aB (zN zav (uo (zb 1) (zb 2)) zn) (aB (zN zav zn (uo (zb 1) (zb 2))) (aK zn (aK z8b (aK zdq (aK xl (aT (xQ (aK zn zd)) (aB (zN zaS zn zn) (aS (uo (zb 1) (zN zav (zb 2) zn)) zd)))))))))))) (zf (yk 3 wN.nd (uo (zb 3) (zu H__law_take (hr.mono (by decide)) zM (by rfl) (aN (zb 0) (aK zn zd))))) (zf (yk 4 wN.nd (vp (aB (zN xi (zN xi (xn (zb 1) wW (wI (zb 2))) (xQ (aN (zb 3) zd))) (xn (zb 1) (wI (zN xi (zb 2) zn)) wW)) (aB (zN xi (zN xi (xn (zb 1) wW (wI (zb 2))) (xQ (aN (zb 3) zd))) (xn (zb 1) (wI (zN xi (zb 2) zn)) wW)) (aB (zN xi (xn (zb 1) wW (wI (zb 2))) (xn (zb 1) (wI (zN xi (zb 2) zn)) wW)) (aQ (yQ zj8 (by rfl) T.list_ z5Z (aN (zb 1) zd) (he:=(zq ..))) zd)))))) (zf (yk 4 wN.nd (zN xi (zb 4) (vp (aB (zN xi (zN xi (xn (zb 1) wW (wI (zb 2))) (xQ (aK zn zd))) (xn (zb 1) (wI (zb 2)) wW)) (aS (zll (zb 1)) (aB (zN xi (zb 1) (zb 1)) (aB (zN zhI (xQ (aK zn zd)) (zK uw (by rfl) T.len_ xZ (aN (zb 1) zd) (he:=(zq ..)))) (aQ (zu H__law_odd (hr.mono (by decide)) zM (by rfl) (aN (zb 0) zd)) (aT (xQ (aN (zb 1) zd)) zd))))))))) (zj (zY (uo (zb 4) (zu H__law_take (hr.mono (by decide)) zM (by rfl) (aN (zb 0) (aK zn zd))))))))))))
theorem z5h(F:Fun K "want_lot" "want_lot" qU f fd)(hm:mg "want_lot"=some (.ref f))(E_NoLot:zhA K mg "NoLot")(H_is_lot:Has P w K mg base CX0 "is_lot" 3 Pg.yj):Has P w K mg base (CX1 P w) "want_lot" 4 Pg.vU:= (jZ F hm (F.binds (ps:=["thing"]) (by trivial)) z3w rfl fun cdv A outer s H E hr hc=> have hu:=hr.units;(zj (z0p (kM (qE (zu H_is_lot (hr.mono (by decide)) zhw (by rfl) (aN (zb 0) zd)))) (zj (zcP E_NoLot z9s hc (by rfl))) yI)))
theorem z73(F:Fun K "want_lot" "want_lot" qU f fd)(hm:mg "want_lot"=some (.ref f))(H_is_lot:Has P w K mg base CX0 "is_lot" 3 Pg.yj):Has P w K mg base CX0 "want_lot" 4 Pg.xf:= (zR F hm (F.binds (ps:=["thing"]) (by trivial)) z3w rfl fun cdv A outer s H E hr hc=> have hu:=hr.units;(zj (z0p (kM (qE (zu H_is_lot (hr.mono (by decide)) zM (by rfl) (aN (zb 0) zd)))) (zj z3q) yI)))
theorem z4c(F:Fun K "want_table" "want_table" qT f fd)(hm:mg "want_table"=some (.ref f))(H_is_table:Has P w K mg base CX0 "is_table" 3 Pg.vk):Has P w K mg base CX0 "want_table" 4 Pg.yN:= (zR F hm (F.binds (ps:=["thing"]) (by trivial)) z5O rfl fun cdv A outer s H E hr hc=> have hu:=hr.units;(zj (z0p (kM (qE (zu H_is_table (hr.mono (by decide)) zM (by rfl) (aN (zb 0) zd)))) (zj z3q) yI)))
theorem z5G (F:Fun K "has_ended" "has_ended" jV f fd) (hm:mg "has_ended"=some (.ref f)) (H_want_lot:Has P w K mg base CX0 "want_lot" 4 Pg.xf):Has P w K mg base CX0 "has_ended" 5 Pg.yF:= (zR F hm (F.binds (ps:=["lot"]) (by trivial)) z6F rfl fun cdv A outer s H E hr hc=> have hu:=hr.units;(zf (wP (zu H_want_lot (hr.mono (by decide)) zM (by rfl) (aN (zb 0) zd))) (zj (zY (uO (z59 hu) (zK uw (by rfl) T.len_ xZ (aO (zZ ["number"] [none] (by exact hc) (uU (zb 0)) (fun _ _ _=>zU (i:=0) ziq (by rfl) (by first | exact Or.inl rfl | exact Or.inr rfl)) (zP 0 (by rfl)) (fun _ _ _=>uX (yp (za7 hu) (zb 0) zn)) (fun _ _ _=>(zb 0))) zd) (he:=(zQ ..))) zn)))))
theorem z4v (F:Fun K "multiplied" "multiplied" qQ f fd) (hm:mg "multiplied"=some (.ref f)) (H_columns_of:Has P w K mg base CX0 "columns_of" 1 Pg.yt) (H_lines_times:Has P w K mg base CX0 "lines_times" 2 Pg.yM) (H_want_table:Has P w K mg base CX0 "want_table" 4 Pg.yN):Has P w K mg base CX0 "multiplied" 5 Pg.xS:= (zR F hm (F.binds (ps:=["one","other"]) (by trivial)) z5S rfl fun cdv A outer s H E hr hc=> have hu:=hr.units;(zf (wP (zu H_want_table (hr.mono (by decide)) zM (by rfl) (aN (zb 0) zd))) (zf (wP (zu H_want_table (hr.mono (by decide)) zM (by rfl) (aN (zb 1) zd))) (zf (z0p (yp (za7 hu) (zK uw (by rfl) T.len_ xZ (aN (zb 0) zd) (he:=(zq ..))) (zK uw (by rfl) T.len_ xZ (aN (zb 1) zd) (he:=(zq ..)))) (zj z3q) yI) (zj (zY (zu H_columns_of (hr.mono (by decide)) zM (by rfl) (aQ (yQ xL (by rfl) T.tuple_ yh (aO (zZ ["one","column"] [some 0,none] (by exact hc) (uU (zu H_columns_of (hr.mono (by decide)) zM (by rfl) (aN (zb 1) zd))) (fun _ _ _=>zU (i:=1) zkl (by rfl) (by first | exact Or.inl rfl | exact Or.inr rfl)) (zP 1 (by rfl)) (fun _ _ _=>yw) (fun _ _ _=>(zu H_lines_times (hr.mono (by decide)) zM (by rfl) (aN (zb 0) (aN (zb 1) zd))))) zd) (he:=(zQ ..))) zd) (he:=(uh ..)))))))))
theorem jG(F:Fun K "want_rule_and_lot" "want_rule_and_lot" yW f fd)(hm:mg "want_rule_and_lot"=some (.ref f))(HX_want_rule:Has P w K mg base (CX1 P w) "want_rule" 2 Pg.wG)(HX_want_lot:Has P w K mg base (CX1 P w) "want_lot" 4 Pg.vU):Has P w K mg base (CX1 P w) "want_rule_and_lot" 5 Pg.zy:= (jZ F hm (F.binds (ps:=["rule","lot"]) (by trivial)) vM rfl fun cdv A outer s H E hr hc=> have hu:=hr.units;(zf (wP (zu HX_want_rule (hr.mono (by decide)) z8s (by rfl) (aN (zb 0) zd))) (zj (wP (zu HX_want_lot (hr.mono (by decide)) z8s (by rfl) (aN (zb 1) zd))))))
theorem kH(F:Fun K "want_rule_and_lot" "want_rule_and_lot" yW f fd)(hm:mg "want_rule_and_lot"=some (.ref f))(H_want_rule:Has P w K mg base CX0 "want_rule" 2 Pg.wC)(H_want_lot:Has P w K mg base CX0 "want_lot" 4 Pg.xf):Has P w K mg base CX0 "want_rule_and_lot" 5 Pg.zG:= (zR F hm (F.binds (ps:=["rule","lot"]) (by trivial)) vM rfl fun cdv A outer s H E hr hc=> have hu:=hr.units;(zf (wP (zu H_want_rule (hr.mono (by decide)) zM (by rfl) (aN (zb 0) zd))) (zj (wP (zu H_want_lot (hr.mono (by decide)) zM (by rfl) (aN (zb 1) zd))))))
theorem jQ (F:Fun K "growing_products" "growing_products" wA f fd) (hm:mg "growing_products"=some (.ref f)) (H_like_places:Has P w K mg base CX0 "like_places" 1 Pg.yB) (H_multiplied:Has P w K mg base CX0 "multiplied" 5 Pg.xS):Has P w K mg base (CX1 P w) "growing_products" 6 Pg.yO:= (jZ F hm (F.binds (ps:=["size","tables"]) (by trivial)) wD rfl fun cdv A outer s H E hr hc=> have hu:=hr.units;(zf (z5a (yk 2 wD.nd (z4y (aQ (zu H_like_places (hr.mono (by decide)) zM (by rfl) (aN (zb 0) zd)) zd)))) (zf (z5a (z3m PassesOwn.never hc (uU (zb 1)) (kO 3 wD.nd) (zj (wP (vS (zb 2) (zu H_multiplied (hr.mono (by decide)) zM (by rfl) (aS (uo (zb 2) (z7c zn)) (aN (zb 3) zd)) (he:=(z2R ..)))))))) (zj (z5a (zY (zb 2)))))))
theorem z6k(F:Fun K "want_step" "want_step" jX f fd)(hm:mg "want_step"=some (.ref f))(H_has_ended:Has P w K mg base CX0 "has_ended" 5 Pg.yF)(H_want_rule_and_lot:Has P w K mg base CX0 "want_rule_and_lot" 5 Pg.zG):Has P w K mg base CX0 "want_step" 6 Pg.yS:= (zR F hm (F.binds (ps:=["rule","lot"]) (by trivial)) z7z rfl fun cdv A outer s H E hr hc=> have hu:=hr.units;(zf (wP (zu H_want_rule_and_lot (hr.mono (by decide)) zM (by rfl) (aN (zb 0) (aN (zb 1) zd)))) (zj (z0p (qE (zu H_has_ended (hr.mono (by decide)) zM (by rfl) (aN (zb 1) zd))) (zj z3q) yI))))
theorem zdy (F:Fun K "step" "step" z8y f fd) (hm:mg "step"=some (.ref f)) (H_moved:Has P w K mg base CX0 "moved" 1 Pg.vH) (H_division:Has P w K mg base CX0 "division" 3 Pg.xB) (H_want_step:Has P w K mg base CX0 "want_step" 6 Pg.yS):Has P w K mg base CX0 "step" 7 Pg.M_step:= (zR F hm (F.binds (ps:=["rule","lot"]) (by trivial)) z8w rfl fun cdv A outer s H E hr hc=> have hu:=hr.units;(zf (wP (zu H_want_step (hr.mono (by decide)) zM (by rfl) (aN (zb 0) (aN (zb 1) zd)))) (zf (z8A (zu H_division (hr.mono (by decide)) zM (by rfl) (aN (zb 0) (aN (zb 1) zd))) (z25 2 3 hc z8w.nd)) (zf (yk 4 z8w.nd (yQ xL (by rfl) T.tuple_ yh (aO (zZ ["lot","by","number","quotient"] [some 1,some 2,none,none] (by exact hc) (zbW (by rfl) T.zip_ (aN (zb 1) (aN (zb 3) zd))) (fun _ _ _=>uC 2 3 (by exact hc) zkq) (uM 2 3 (by decide) (by rfl) (by rfl)) (fun _ _ _=>yw) (fun _ _ _=>(zN zav (zb 2) (zN jY (zb 3) (uo (zb 0) (zb 1)))))) zd) (he:=(zQ ..)))) (zj (zY (zu H_moved (hr.mono (by decide)) zM (by rfl) (aN (zb 0) (aN (zb 4) zd)))))))))
theorem z4p (F:Fun K "step_table" "step_table" qX f fd) (hm:mg "step_table"=some (.ref f)) (H_like_places:Has P w K mg base CX0 "like_places" 1 Pg.yB) (H_moved:Has P w K mg base CX0 "moved" 1 Pg.vH) (H_division:Has P w K mg base CX0 "division" 3 Pg.xB) (H_want_step:Has P w K mg base CX0 "want_step" 6 Pg.yS):Has P w K mg base CX0 "step_table" 7 Pg.xP:= (zR F hm (F.binds (ps:=["rule","lot"]) (by trivial)) z0R rfl fun cdv A outer s H E hr hc=> have hu:=hr.units;(zf (wP (zu H_want_step (hr.mono (by decide)) zM (by rfl) (aN (zb 0) (aN (zb 1) zd)))) (zf (z8A (zu H_division (hr.mono (by decide)) zM (by rfl) (aN (zb 0) (aN (zb 1) zd))) (z25 2 3 hc z0R.nd)) (zj (zY (yQ xL (by rfl) T.tuple_ yh (aO (zZ ["rule","by","line","quotient"] [some 0,some 2,none,none] (by exact hc) (zbW (by rfl) T.zip_ (aQ (zu H_like_places (hr.mono (by decide)) zM (by rfl) (aQ (zK uw (by rfl) T.len_ xZ (aN (zb 1) zd) (he:=(zq ..))) zd) (he:=(uh ..))) (aN (zb 3) zd))) (fun _ _ _=>uC 2 3 (by exact hc) zmi) (uM 2 3 (by decide) (by rfl) (by rfl)) (fun _ _ _=>yw) (fun _ _ _=>(zu H_moved (hr.mono (by decide)) zM (by rfl) (aN (zb 0) (aB (zN xi (zN xi (xn (zb 2) wW (wI (zb 1))) (xQ (aB (zN xi (uo (zb 2) (zb 1)) (zb 3)) zd))) (xn (zb 2) (wI (zN xi (zb 1) zn)) wW)) zd))))) zd) (he:=(zQ ..))))))))
theorem zdY (F:Fun K "run" "run" zbP f fd) (hm:mg "run"=some (.ref f)) (H_has_ended:Has P w K mg base CX0 "has_ended" 5 Pg.yF) (H_step:Has P w K mg base CX0 "step" 7 Pg.M_step) (HX_want_rule_and_lot:Has P w K mg base (CX1 P w) "want_rule_and_lot" 5 Pg.zy):Has P w K mg base (CX1 P w) "run" 8 Pg.X_run:= (jZ F hm (F.binds (ps:=["rule","lot"]) (by trivial)) zeY rfl fun cdv A outer s H E hr hc=> have hu:=hr.units;(zf (wP (zu HX_want_rule_and_lot (hr.mono (by decide)) z8s (by rfl) (aN (zb 0) (aN (zb 1) zd)))) (zf (z5a (yk 2 zeY.nd (z4y (aN (zb 1) zd)))) (zf (z5a (zcr PassesOwn.never (kM (qE (zu H_has_ended (hr.mono (by decide)) zM (by rfl) (aS (uo (zb 2) (z7c zn)) zd) (he:=(z2R ..))))) (zj (wP (vS (zb 2) (zu H_step (hr.mono (by decide)) zM (by rfl) (aN (zb 0) (aS (uo (zb 2) (z7c zn)) zd)))))))) (zj (z5a (zY (zb 2))))))))
theorem z4d(F:Fun K "tables_of" "tables_of" kA f fd)(hm:mg "tables_of"=some (.ref f))(H_step_table:Has P w K mg base CX0 "step_table" 7 Pg.xP)(HX_run:Has P w K mg base (CX1 P w) "run" 8 Pg.X_run):Has P w K mg base (CX1 P w) "tables_of" 9 Pg.ya:= (jZ F hm (F.binds (ps:=["rule","lot"]) (by trivial)) z7w rfl fun cdv A outer s H E hr hc=> have hu:=hr.units;(zj (zY (zdV ["rule","ahead"] [some 0,none] (by exact hc) (uU (xn (zcg (zu HX_run (hr.mono (by decide)) z8s (by rfl) (aN (zb 0) (aN (zb 1) zd)))) wW (wI (z7c zn)))) (fun _ _ _=>zU (i:=1) zmK (by rfl) (by first | exact Or.inl rfl | exact Or.inr rfl)) (zP 1 (by rfl)) (fun _ _ _=>yw) (fun _ _ _=>(zu H_step_table (hr.mono (by decide)) zhw (by rfl) (aN (zb 0) (aN (zb 1) zd))))))))
theorem z2l (F:Fun K "products_of" "products_of" uW f fd) (hm:mg "products_of"=some (.ref f)) (HX_growing_products:Has P w K mg base (CX1 P w) "growing_products" 6 Pg.yO) (HX_tables_of:Has P w K mg base (CX1 P w) "tables_of" 9 Pg.ya):Has P w K mg base (CX1 P w) "products_of" 10 Pg.yi:= (jZ F hm (F.binds (ps:=["rule","lot"]) (by trivial)) z0c rfl fun cdv A outer s H E hr hc=> have hu:=hr.units;(zf (yk 2 z0c.nd (zcg (zu HX_tables_of (hr.mono (by decide)) z8s (by rfl) (aN (zb 0) (aN (zb 1) zd))))) (zj (zY (zu HX_growing_products (hr.mono (by decide)) z8s (by rfl) (aQ (zK uw (by rfl) T.len_ xZ (aN (zb 1) zd) (he:=(zq ..))) (aN (zb 2) zd)) (he:=(uh ..)))))))
theorem z2u(F:Fun K "whole_table" "whole_table" uY f fd)(hm:mg "whole_table"=some (.ref f))(HX_products_of:Has P w K mg base (CX1 P w) "products_of" 10 Pg.yi):Has P w K mg base (CX1 P w) "whole_table" 11 Pg.yf:= (jZ F hm (F.binds (ps:=["rule","lot"]) (by trivial)) z4F rfl fun cdv A outer s H E hr hc=> have hu:=hr.units;(zj (zY (uo (zcg (zu HX_products_of (hr.mono (by decide)) z8s (by rfl) (aN (zb 0) (aN (zb 1) zd)))) (z7c zn)))))
theorem z5i (F:Fun K "_law_told" "_law_told" kE f fd) (hm:mg "_law_told"=some (.ref f)) (KS:∀ c∈rsX,zjT K mg c "DrawError") (H__law_kind_of:zjO P w K mg base CX0 "_law_kind_of" 1 yU) (HX_run:Has P w K mg base (CX1 P w) "run" 8 Pg.X_run) (HX_tables_of:Has P w K mg base (CX1 P w) "tables_of" 9 Pg.ya) (HX_whole_table:Has P w K mg base (CX1 P w) "whole_table" 11 Pg.yf):Has P w K mg base CX0 "_law_told" 12 zx:= (zR F hm (F.binds (ps:=["_law_way","_law_rule","_law_lot_here"]) (by trivial)) z1A rfl fun cdv A outer s H E hr hc=> have hu:=hr.units;(zj (zkN rfl rfl rfl KS (by rfl) z1A.nd (by rfl) (by rfl) (fun pn xe E1 hp=>(zj (zY (zh7 (n:=11) (uf (Has.mono HX_run (by decide)) (uf (Has.mono HX_tables_of (by decide)) (uf (Has.mono HX_whole_table (by decide)) z9m))) (hr.mono (by decide)) hp (uo (vp (vZ (zgI HX_run (by rfl)) (vZ (zgI HX_tables_of (by rfl)) (vZ (zgI HX_whole_table (by rfl)) zd (zq ..)) (zq ..)) (zq ..))) (zb 0)) (aN (zb 1) (aN (zb 2) zd)) (he:=(zq ..)))))) (fun e pn=>(zj (zY (zgi H__law_kind_of (zkY (hr.h.mono (by decide))) zM (by rfl) (aN (zb 3) zd) (he:=(zq ..)))))))))
theorem zaR (F:Fun K "law" "law" z58 f fd) (hm:mg "law"=some (.ref f)) (H__law_cell_at:Has P w K mg base CX0 "_law_cell_at" 1 Pg.xy) (H__law_pot:Has P w K mg base CX0 "_law_pot" 1 Pg.vV) (H__law_take:Has P w K mg base CX0 "_law_take" 1 Pg.zp) (H__law_rules:Has P w K mg base CX0 "_law_rules" 1 Pg.wJ) (H__law_plain:Has P w K mg base CX0 "_law_plain" 1 Pg.wK) (H__law_lot:Has P w K mg base CX0 "_law_lot" 2 Pg.qD) (H__law_run:Has P w K mg base CX0 "_law_run" 2 Pg.vW) (H__law_product:Has P w K mg base CX0 "_law_product" 2 Pg.vx) (H__law_no_rule:Has P w K mg base CX0 "_law_no_rule" 2 Pg.wn) (H__law_is_lot:Has P w K mg base CX0 "_law_is_lot" 2 Pg.yr) (H__law_same:Has P w K mg base CX0 "_law_same" 6 Pg.jo) (H__law_bent:Has P w K mg base CX0 "_law_bent" 3 Pg.ul) (H__law_told:Has P w K mg base CX0 "_law_told" 12 zx):z4U P w K mg base CX0 13 f fd ["_law_script"] (zeK ⟨mg,K⟩ zgB):= ziO F qC rfl fun cdv A outer s H E hr hc=> have hu:=hr.units;(zf (z3m PassesOwn.never hc (xm (by rfl) T.range_ (aQ (zK (zhS (by exact hc)) (by rfl) T.max_ z12 (aK zn (aQ (zK (ziF (by exact hc)) (by rfl) T.min_ zcE (aQ (zK uw (by rfl) T.len_ xZ (aN (zb 0) zd) (he:=(zq ..))) (aK zn zd)) (he:=(uh ..))) zd)) (he:=(z55 ..))) zd)) (kO 1 qC.nd) (zf (yk 2 qC.nd (zu H__law_pot (hr.mono (by decide)) zM (by rfl) (aQ (zu H__law_cell_at (hr.mono (by decide)) zM (by rfl) (aN (zb 0) (aN (zb 1) zd))) zd) (he:=(uh ..)))) (zf (yk 3 qC.nd (zu H__law_lot (hr.mono (by decide)) zM (by rfl) (aN (zb 2) zd))) (zf (yk 4 qC.nd (uo (zhl H__law_rules (hr.mono (by decide)) zM (by rfl)) (zu H__law_take (hr.mono (by decide)) zM (by rfl) (aN (zb 2) (aK zn zd))))) (zf (z8A (zu H__law_run (hr.mono (by decide)) zM (by rfl) (aN (zb 4) (aN (zb 3) zd))) (z25 5 6 hc qC.nd)) (zf (yk 7 qC.nd (zu H__law_plain (hr.mono (by decide)) zM (by rfl) (aQ (zK uw (by rfl) T.len_ xZ (aN (zb 3) zd) (he:=(zq ..))) zd) (he:=(uh ..)))) (zf (z3m PassesOwn.never hc (uU (zb 6)) (kO 8 qC.nd) (zj (yk 7 qC.nd (zu H__law_product (hr.mono (by decide)) zM (by rfl) (aN (zb 7) (aN (zb 8) zd)))))) (zf (z3m PassesOwn.never hc (xm (by rfl) T.range_ (aK zn zd)) (kO 9 qC.nd) (zf (z8g 10 ["_law_rule","_law_lot_here","_law_way"] [some 4,some 3,none] qC.nd hc (xm (by rfl) T.range_ (aK zn zd)) (fun _ _ _=>zU (i:=2) zmV (by rfl) (by first | exact Or.inl rfl | exact Or.inr rfl)) (zP 2 (by rfl)) (fun _ _ _=>yw) (fun _ _ _=>(zu H__law_told (hr.mono (by decide)) zM (by rfl) (aN (zb 2) (aN (zb 0) (aN (zb 1) zd)))))) (zf (z0p (kM (qE (zu H__law_same (hr.mono (by decide)) zM (by rfl) (aN (zb 10) (aL (vp (aN (zb 5) (aN (zb 6) (aN (zb 7) zd)))) zd))))) (zj (zY z8b)) yI) (zf (wP (vS (uo (zb 10) zn) (xQ zd))) (zj (wP (vS (uo (zb 10) zn) (xQ zd)))))))) (zf (yk 11 qC.nd (zu H__law_bent (hr.mono (by decide)) zM (by rfl) (aN (zb 2) (aN (zb 3) zd)))) (zf (z0p (RW.rt (w_and (kM (qE (zu H__law_is_lot (hr.mono (by decide)) zM (by rfl) (aN (zb 11) zd)))) (zf1 (yp (za7 hu) (zZ ["_law_rule","_law_bad","_law_way"] [some 4,some 11,none] (by exact hc) (xm (by rfl) T.range_ (aK zn zd)) (fun _ _ _=>zU (i:=2) zmM (by rfl) (by first | exact Or.inl rfl | exact Or.inr rfl)) (zP 2 (by rfl)) (fun _ _ _=>yw) (fun _ _ _=>(zu H__law_told (hr.mono (by decide)) zM (by rfl) (aN (zb 2) (aN (zb 0) (aN (zb 1) zd)))))) (zN zhZ (vp (aK xl zd)) zn))))) (zj (zY z8b)) yI) (zf (yk 12 qC.nd (zu H__law_no_rule (hr.mono (by decide)) zM (by rfl) (aN (zb 2) (aN (zb 4) zd)))) (zj (z0p (yp (za7 hu) (zZ ["_law_none","_law_lot_here","_law_bad","_law_pot_here","_law_way"] [some 12,some 3,some 11,some 2,none] (by exact hc) (xm (by rfl) T.range_ (aK zn zd)) (fun _ _ _=>zU (i:=4) zn3 (by rfl) (by first | exact Or.inl rfl | exact Or.inr rfl)) (zP 4 (by rfl)) (fun _ _ _=>yw) (fun _ _ _=>(zu H__law_told (hr.mono (by decide)) zM (by rfl) (aN (zb 4) (aN (zb 0) (aS (uo (vp (aN (zb 1) (aN (zb 2) zd))) (zu H__law_take (hr.mono (by decide)) zM (by rfl) (aN (zb 3) (aK zn zd)))) zd)))))) (zN zhZ (vp (aK xl zd)) zn)) (zj (zY z8b)) yI))))))))))))) (zj (zY (z6n (uO (zjs hu) (zu H__law_told (hr.mono (by decide)) zM (by rfl) (aK zn (aK xl (aT (xQ (aK zn (aK zn zd))) zd)))) (vp zd)) (z5Y (uO (zjs hu) (zu H__law_told (hr.mono (by decide)) zM (by rfl) (aK zn (aK xl (aT (xQ (aK zn (aK zn zd))) zd)))) (xQ (aT (xQ (aK zn (aK zn zd))) (aT (xQ (aK zn (aK zn zd))) zd)))))))))
end
end K12
set_option maxRecDepth 1000000
set_option maxHeartbeats 4000000
namespace Pm
abbrev Tb:=List (List Int)
def dot(r v:List Int):Int:=(List.zipWith (fun a b=>a*b) r v).sum
def mv(T:Tb)(v:List Int):List Int:=T.map fun r=>dot r v
def yC(T:Tb):Tb:=(List.range T.length).map fun j=>T.map fun r=>r.getD j 0
def z0w(A B:Tb):Tb:=yC ((yC B).map (mv A))
def zm8(T:Tb)(i j:Nat):Tb:=(T.take i++T.drop (i+1)).map fun r=>r.take j++r.drop (j+1)
def sg(i j:Nat):Int:=if (i+j) % 2=0 then 1 else -1
def det:Nat->Tb->Int
 | 0,_=>0 | k+1,T=>if T.length=1 then (T.getD 0 []).getD 0 0 else ((List.range T.length).map fun j=>sg 0 j*(T.getD 0 []).getD j 0*det k (zm8 T 0 j)).sum
def zjL(T:Tb):Tb:=(List.range T.length).map fun i=>(List.range T.length).map fun j=>det 4 T*sg i j*det 4 (zm8 T j i)
def one(n:Nat):Tb:=(List.range n).map fun i=>(List.range n).map fun j=>if i=j then 1 else 0
structure Tab(n:Nat)(T:Tb):Prop where
 len:T.length=n
 row:∀ r∈T,r.length=n
theorem z8K{α:Type}{l:List α}(h:l.length=2):∃ a b,l=[a,b]:=by match l,h with | [a,b],_=>exact ⟨a,b,rfl⟩
theorem z6Y{α:Type}{l:List α}(h:l.length=3):∃ a b c,l=[a,b,c]:=by match l,h with | [a,b,c],_=>exact ⟨a,b,c,rfl⟩
theorem z5p{α:Type}{l:List α}(h:l.length=4):∃ a b c d,l=[a,b,c,d]:=by match l,h with | [a,b,c,d],_=>exact ⟨a,b,c,d,rfl⟩
theorem zg2{T:Tb}(h:Tab 2 T):∃ a b c d,T=[[a,b],[c,d]]:=by
 obtain ⟨r,q,rfl⟩:=z8K h.len;obtain ⟨a,b,rfl⟩:=z8K (h.row r (by simp));obtain ⟨c,d,rfl⟩:=z8K (h.row q (by simp));exact ⟨a,b,c,d,rfl⟩
theorem zhb{T:Tb}(h:Tab 3 T):∃ a b c d e f g i j,T=[[a,b,c],[d,e,f],[g,i,j]]:=by
 obtain ⟨r,q,p,rfl⟩:=z6Y h.len;obtain ⟨a,b,c,rfl⟩:=z6Y (h.row r (by simp));obtain ⟨d,e,f,rfl⟩:=z6Y (h.row q (by simp));obtain ⟨g,i,j,rfl⟩:=z6Y (h.row p (by simp));exact ⟨a,b,c,d,e,f,g,i,j,rfl⟩
theorem zfX{T:Tb}(h:Tab 4 T):∃ a b c d e f g i j k l m n o p q,T=[[a,b,c,d],[e,f,g,i],[j,k,l,m],[n,o,p,q]]:=by
 obtain ⟨r1,r2,r3,r4,rfl⟩:=z5p h.len;obtain ⟨a,b,c,d,rfl⟩:=z5p (h.row r1 (by simp));obtain ⟨e,f,g,i,rfl⟩:=z5p (h.row r2 (by simp));obtain ⟨j,k,l,m,rfl⟩:=z5p (h.row r3 (by simp));obtain ⟨n,o,p,q,rfl⟩:=z5p (h.row r4 (by simp));exact ⟨a,b,c,d,e,f,g,i,j,k,l,m,n,o,p,q,rfl⟩
theorem zhr(a b c d A B C D:Int):z0w [[a,b],[c,d]] [[A,B],[C,D]]=[[a*A+(b*C+0),a*B+(b*D+0)],[c*A+(d*C+0),c*B+(d*D+0)]]:=rfl
theorem zha(a b c d e f g i j A B C D E F G I J:Int):z0w [[a,b,c],[d,e,f],[g,i,j]] [[A,B,C],[D,E,F],[G,I,J]]= [[a*A+(b*D+(c*G+0)),a*B+(b*E+(c*I+0)),a*C+(b*F+(c*J+0))],[d*A+(e*D+(f*G+0)),d*B+(e*E+(f*I+0)),d*C+(e*F+(f*J+0))],[g*A+(i*D+(j*G+0)),g*B+(i*E+(j*I+0)),g*C+(i*F+(j*J+0))]]:=rfl
theorem zfV(a b c d e f g i j k l m n o p q A B C D E F G I J K L M N Oo P Q:Int):z0w [[a,b,c,d],[e,f,g,i],[j,k,l,m],[n,o,p,q]] [[A,B,C,D],[E,F,G,I],[J,K,L,M],[N,Oo,P,Q]]= [[a*A+(b*E+(c*J+(d*N+0))),a*B+(b*F+(c*K+(d*Oo+0))),a*C+(b*G+(c*L+(d*P+0))),a*D+(b*I+(c*M+(d*Q+0)))], [e*A+(f*E+(g*J+(i*N+0))),e*B+(f*F+(g*K+(i*Oo+0))),e*C+(f*G+(g*L+(i*P+0))),e*D+(f*I+(g*M+(i*Q+0)))], [j*A+(k*E+(l*J+(m*N+0))),j*B+(k*F+(l*K+(m*Oo+0))),j*C+(k*G+(l*L+(m*P+0))),j*D+(k*I+(l*M+(m*Q+0)))], [n*A+(o*E+(p*J+(q*N+0))),n*B+(o*F+(p*K+(q*Oo+0))),n*C+(o*G+(p*L+(q*P+0))),n*D+(o*I+(p*M+(q*Q+0)))]]:=rfl
def d2(a b c d:Int):Int:=a*d-b*c
def d3(a b c d e f g h i:Int):Int:=a*d2 e f h i-b*d2 d f g i+c*d2 d e g h
def d4(a b c d e f g h i j k l m n o p:Int):Int:=a*d3 f g h j k l n o p-b*d3 e g h i k l m o p+c*d3 e f h i j l m n p-d*d3 e f g i j k m n o
theorem assoc{n:Nat}{A B C:Tb}(hn:n=2\/n=3\/n=4)(ha:Tab n A)(hb:Tab n B)(hc:Tab n C):z0w (z0w A B) C=z0w A (z0w B C):=by
 rcases hn with rfl | rfl | rfl
 ·obtain ⟨a,b,c,d,rfl⟩:=zg2 ha;obtain ⟨e,f,g,h,rfl⟩:=zg2 hb;obtain ⟨i,j,k,l,rfl⟩:=zg2 hc;simp only [zhr,List.cons.injEq,and_true];and_intros<;>grind
 ·obtain ⟨a1,a2,a3,a4,a5,a6,a7,a8,a9,rfl⟩:=zhb ha;obtain ⟨b1,b2,b3,b4,b5,b6,b7,b8,b9,rfl⟩:=zhb hb;obtain ⟨c1,c2,c3,c4,c5,c6,c7,c8,c9,rfl⟩:=zhb hc;simp only [zha,List.cons.injEq,and_true];and_intros<;>grind
 ·obtain ⟨a1,a2,a3,a4,a5,a6,a7,a8,a9,a10,a11,a12,a13,a14,a15,a16,rfl⟩:=zfX ha;obtain ⟨b1,b2,b3,b4,b5,b6,b7,b8,b9,b10,b11,b12,b13,b14,b15,b16,rfl⟩:=zfX hb;obtain ⟨c1,c2,c3,c4,c5,c6,c7,c8,c9,c10,c11,c12,c13,c14,c15,c16,rfl⟩:=zfX hc;simp only [zfV,List.cons.injEq,and_true];and_intros<;>grind
end Pm
set_option maxRecDepth 1000000
set_option maxHeartbeats 40000000
namespace Pm
theorem zm1:one 2=[[1,0],[0,1]]:=rfl
theorem zm0:one 3=[[1,0,0],[0,1,0],[0,0,1]]:=rfl
theorem zlJ:one 4=[[1,0,0,0],[0,1,0,0],[0,0,1,0],[0,0,0,1]]:=rfl
theorem zeH{n:Nat}{A:Tb}(hn:n=2\/n=3\/n=4)(ha:Tab n A):z0w (one n) A=A/\z0w A (one n)=A:=by
 rcases hn with rfl | rfl | rfl
 ·obtain ⟨a,b,c,d,rfl⟩:=zg2 ha;rw [zm1,zhr,zhr];simp
 ·obtain ⟨a1,a2,a3,a4,a5,a6,a7,a8,a9,rfl⟩:=zhb ha;rw [zm0,zha,zha];simp
 ·obtain ⟨a1,a2,a3,a4,a5,a6,a7,a8,a9,a10,a11,a12,a13,a14,a15,a16,rfl⟩:=zfX ha;rw [zlJ,zfV,zfV];simp
theorem zjk{n:Nat}{v:List Int}(hn:n=2\/n=3\/n=4)(hv:v.length=n):mv (one n) v=v:=by
 rcases hn with rfl | rfl | rfl
 ·obtain ⟨x,y,rfl⟩:=z8K hv;rw [zm1];simp [mv,dot]
 ·obtain ⟨x,y,z,rfl⟩:=z6Y hv;rw [zm0];simp [mv,dot]
 ·obtain ⟨x,y,z,u,rfl⟩:=z5p hv;rw [zlJ];simp [mv,dot]
end Pm
set_option maxRecDepth 1000000
set_option maxHeartbeats 40000000
namespace Pm
abbrev Sz(n:Nat):Prop:=n=2\/n=3\/n=4
theorem za1{n:Nat}{A B:Tb}(ha:Tab n A)(hb:Tab n B):Tab n (z0w A B):=by
 have l1:(yC B).length=n:=by simp [yC,hb.len]
 refine ⟨by simp [z0w,yC,hb.len],fun r hr=>?_⟩;simp only [z0w] at hr;rw [yC] at hr;obtain ⟨j,_,rfl⟩:=List.mem_map.mp hr;simp [l1]
theorem z8H(n:Nat):Tab n (one n):=by
 refine ⟨by simp [one],fun r hr=>?_⟩;simp only [one] at hr;obtain ⟨j,_,rfl⟩:=List.mem_map.mp hr;simp
def zkK(A:Tb):Prop:=det 4 A=1\/det 4 A=-1
def Bd(m:Nat)(T:Tb):Prop:=∀ r∈T,∀ x∈r,x.natAbs<2 ^ m
theorem zero_lt_two(m:Nat):(0:Int).natAbs<2 ^ m:=Nat.two_pow_pos _
theorem zfM{m:Nat}{r:List Int}(hr:∀ x∈r,x.natAbs<2 ^ m)(j:Nat):(r.getD j 0).natAbs<2 ^ m:=by
 by_cases h:j<r.length
 ·rw [List.getD,List.getElem?_eq_getElem h];exact hr _ (List.getElem_mem _)
 ·rw [List.getD,List.getElem?_eq_none (by omega)];exact zero_lt_two m
theorem zhi{m:Nat}{T:Tb}(h:Bd m T):Bd m (yC T):=fun r hr x hx=>by
 simp only [yC] at hr;obtain ⟨j,_,rfl⟩:=List.mem_map.mp hr;obtain ⟨q,hq,rfl⟩:=List.mem_map.mp hx;exact zfM (h q hq) j
theorem Tab.le{n:Nat}{T:Tb}(h:Tab n T)(hn:Sz n):∀ r∈T,r.length<=4:=fun r hr=>by rw [h.row r hr];omega
end Pm
namespace Pg
open PySem.Spec L2 Dd Pm
abbrev iL(ns:List Int):List D:=ns.map D.int
theorem zlI{i:Int}{m:Nat}(h:i.natAbs<2 ^ m)(hm:m<=2000):i.natAbs<BIG:=Nat.lt_of_lt_of_le h (Nat.pow_le_pow_right (by decide) (by omega))
theorem zbi{a b:Int}{m k:Nat}(s:Sto)(ha:a.natAbs<2 ^ m)(hm:m<=2000)(hb:b.natAbs<2 ^ k)(hk:k<=2000):va (.int a) (.int b) s=.ok (.int (a*b)) s:=by rw [zf7,if_pos ⟨zlI ha hm,zlI hb hk⟩]
theorem z9e{a b:Int}(s:Sto)(hb:0<b):zc0 (.int a) (.int b) s=.ok (.int (a % b)) s:=by rw [zj6,if_pos hb]
theorem z6j{xs:List D}(s:Sto)(h:∀ x∈xs,x=.bl true):zap [.lst xs] s=.ok (.bl true) s:=by
 have e:xs=(xs.map fun _=>true).map D.bl:=by
  rw [List.map_map];conv=>lhs;rw [<- List.map_id xs]
  exact List.map_congr_left fun x hx=>h x hx
 have b:bools xs=some (xs.map fun _=>true):=by
  conv=>lhs;rw [e]
  exact z7M _
 simp [zap,zJ,b]
theorem z4N{ns:List Int}(s:Sto)(h:ns≠[]):vD [.tup (iL ns)] s=.ok (.int (maxL ns)) s:=by cases ns with
 | nil=>exact absurd rfl h | cons n ns=>simp only [vD,zJ,Option.bind_some,vn]
theorem zeR{ns:List Int}(s:Sto)(h:ns≠[]):z4j [.tup (iL ns)] s=.ok (.int (minL ns)) s:=by cases ns with
 | nil=>exact absurd rfl h | cons n ns=>simp only [z4j,zJ,Option.bind_some,vn]
theorem ziA{ns:List Int}(s:Sto)(h:ns≠[]):vD [.lst (iL ns)] s=.ok (.int (maxL ns)) s:=by cases ns with
 | nil=>exact absurd rfl h | cons n ns=>simp only [vD,zJ,Option.bind_some,vn]
theorem zdT{ns:List Int}{l:Nat}{s:Sto}(h:ns≠[])(e:s[l]? = some (iL ns)):vD [.loc l] s=.ok (.int (maxL ns)) s:=by cases ns with
 | nil=>exact absurd rfl h | cons n ns=>simp only [vD,zJ,e,Option.bind_some,vn]
theorem zat(i:Int)(s:Sto):wO [.int i] s=.ok (.bl true) s:=by simp [wO,Mof,z0s,zr,gIs,tyD,isT]
theorem z1q(xs:List D)(s:Sto)(h:2<=xs.length/\xs.length<=4):ym [.tup xs] s=.ok (.bl true) s:=by
 have h1:(2:Int)<=xs.length:=by omega
 have h2:(xs.length:Int)<=4:=by omega
 simp [ym,Mof,ut,zr,gIs,tyD,isT,yJ,zJ,h1,h2]
theorem z1G (ns:List Int) (s:Sto) (h:ns.length<=1000):yb [.tup (iL ns),.int ns.length] s=.ok (.bl true) s:=by
 simp [yb,Mof,jc,zr,gIs,tyD,isT,yJ,zJ];rw [z7P (fun _=>D.bl true) (iL ns) [] (by intro x hx;obtain ⟨n,_,rfl⟩:=List.mem_map.mp hx;simp [zat]) (by simp [cap];omega)];simp only [R.bind_ok,List.nil_append];rw [z6j s (by intro x hx;obtain ⟨_,_,rfl⟩:=List.mem_map.mp hx;rfl)];simp
theorem qW{α:Type}{all:List D}{s:Sto}{body:D->Sto->R (Option D)}(g f:α->D):∀ (l:List α)(acc:List D),(∀ a∈l,body (g a) s=.ok (some (f a)) s)->acc.length+l.length<=cap->wR [] all body (l.map g) acc s=.ok (acc++l.map f) s
 | [],acc,_,_=>by simp [wR,okG] | x::xs,acc,hb,hl=>by
  have ih:=qW (all:=all) g f xs (acc++[f x]) (fun y hy=>hb y (by simp [hy])) (by simp at hl ⊢;omega);have hc:acc.length<cap:=by simp at hl;omega
  rw [List.map_cons,wR];simp [okG,hb x (by simp),hc,ih]
theorem zjy(ns:List Int)(s:Sto):zj1 [.lst (iL ns)] s=.ok (.int ns.sum) s:=by simp only [zj1,zJ,Option.bind_some,vn]
theorem zw:∀ (r v:List Int),List.zipWith (fun a b=>a*b) r v=(List.zip r v).map fun p=>p.1*p.2
 | [],_=>by simp | _::_,[]=>by simp | a::r,b::v=>by simp [zw r v]
theorem z5A:∀ (r v:List Int),z1f (iL r) (iL v)=(List.zip r v).map fun p=>D.tup [.int p.1,.int p.2]
 | [],_=>by simp [z1f] | _::_,[]=>by simp [z1f] | a::r,b::v=>by
  have:=z5A r v;simp only [iL] at this;simp [z1f,this]
theorem zay{r v:List Int}{m k:Nat}(s:Sto)(hr:∀ x∈r,x.natAbs<2 ^ m)(hv:∀ x∈v,x.natAbs<2 ^ k)(hm:m<=2000)(hk:k<=2000)(hl:r.length<=4):qw [.tup (iL r),.tup (iL v)] s=.ok (.int (dot r v)) s:=by
 have ez:=z5A r v;simp only [iL] at ez;simp [qw,Mof,z43,zr,z46,ez,-List.map_map];rw [qW _ (fun p:Int×Int=>D.int (p.1*p.2)) _ [] (by
  intro p hp;have h1:=hr p.1 (List.of_mem_zip hp).1;have h2:=hv p.2 (List.of_mem_zip hp).2;simp [zbi s h1 hm h2 hk]) (by simp [cap];omega)];simp only [R.bind_ok,List.nil_append];have e:(List.zip r v).map (fun p:Int×Int=>D.int (p.1*p.2))=iL ((List.zip r v).map fun p=>p.1*p.2):=by simp [Function.comp_def]
 rw [e,zjy];simp [dot,zw]
abbrev rD(r:List Int):D:=.tup (iL r)
abbrev tD(T:Tb):D:=.tup (T.map rD)
theorem z6l{T:Tb}{v:List Int}{m k:Nat}(s:Sto)(h:Bd m T)(hv:∀ x∈v,x.natAbs<2 ^ k)(hm:m<=2000)(hk:k<=2000)(hl:∀ r∈T,r.length<=4)(hT:T.length<=4):yM [tD T,.tup (iL v)] s=.ok (.tup (iL (mv T v))) s:=by
 simp only [yM,Mof,kS,zr,tD];simp [-List.map_map];rw [qW rD (fun r=>D.int (dot r v)) T [] (by
  intro r hr;have:=zay s (h r hr) hv hm hk (hl r hr);simp only [iL] at this;simp [this]) (by simp [cap];omega)];simp [yc,zJ,mv,Function.comp_def]
theorem z6U{xs:List D}{j:Nat}{d:D}(s:Sto)(h:xs[j]? = some d):dIx (.tup xs) (.int j) s=.ok d s:=by
 have hj:j<xs.length:=(List.getElem?_eq_some_iff.mp h).1;have e:ixN xs.length (j:Int)=some j:=by
  unfold ixN;rw [if_pos (by omega),if_pos (by omega)];simp
 simp only [dIx,zJ,atI,e,Option.bind_some,h]
theorem z9u{n:Nat}{ar:FA}{Z:Ev}{s s1:Sto}(hn:n<=1000)(h:ar Z s=.ok [.int n] s1):qh ar Z s=.ok (yK n,[]) s1:=by
 have c62:-(2 ^ 62)<=(n:Int)/\(n:Int)<2 ^ 62:=by omega
 rw [zf3,h,R.bind_ok];simp only;rw [if_pos c62,Int.toNat_natCast]
theorem zmD {T:Tb} {k:Nat} (s:Sto) (hk:∀ r∈T,k<r.length) (hT:T.length<=4):zA (yx (zc 0)) [some 1,none] (yE 1) zX (eOp dIx (zc 1) (zc 0)) [some (tD T),some (.int k)] s=.ok (.lst (iL (T.map fun r=>r.getD k 0))) s:=by
 simp [-List.map_map];rw [qW rD (fun r=>D.int (r.getD k 0)) T [] (by
  intro r hrr;have hkr:k<r.length:=hk r hrr;have:=z6U (xs:=iL r) (j:=k) (d:=.int (r.getD k 0)) s (by simp [List.getElem?_map,List.getElem?_eq_getElem hkr,List.getD]);simp only [iL] at this;simp [this]) (by simp [cap];omega)];simp [Function.comp_def]
theorem zmA {T:Tb} (s:Sto) (hr:∀ r∈T,T.length<=r.length) (hT:T.length<=4): zA (qh (za (ze yJ (za (zc 0) zh)) zh)) [some 0,none] (yE 1) zX (ze yc (za (zA (yx (zc 0)) [some 1,none] (yE 1) zX (eOp dIx (zc 1) (zc 0))) zh)) [some (tD T)] s=.ok (.lst ((yC T).map rD)) s:=by
 rw [jn,jd,z9u (n:=T.length) (s1:=s) (by omega) (by simp [yJ,zJ])];rw [R.bind_ok];simp only [yK];rw [qW (fun k:Nat=>D.int (k:Int)) (fun k:Nat=>rD (T.map fun r=>r.getD k 0)) (List.range T.length) [] (by
  intro k hk;have hk':k<T.length:=by simpa using hk
  rw [z0b,R.bind_ok,zcU,R.bind_ok,if_pos rfl,ye,zB];rw [show (xh [some 0,none] [some (tD T)]).set 1 (some (.int (k:Int)))=[some (tD T),some (.int (k:Int))] from rfl];rw [zmD s (fun r hrr=>Nat.lt_of_lt_of_le hk' (hr r hrr)) hT];simp [yc,zJ]) (by simp [cap];omega)];simp [yC,Function.comp_def]
theorem zk0{d:D}(s:Sto)(x:List D)(h:zA (qh (za (ze yJ (za (zc 0) zh)) zh)) [some 0,none] (yE 1) zX (ze yc (za (zA (yx (zc 0)) [some 1,none] (yE 1) zX (eOp dIx (zc 1) (zc 0))) zh)) [some d] s=.ok (.lst x) s):yt [d] s=.ok (.tup x) s:=by
 have st:zr ["table"] [d]=[some d]:=rfl;simp only [yt,Mof,z0X,st,List.length_cons,List.length_nil,if_true,z00,yo,ye,zB,h,R.bind_ok,zH,yc,zJ]
theorem z1T{T:Tb}(s:Sto)(hr:∀ r∈T,T.length<=r.length)(hT:T.length<=4):yt [tD T] s=.ok (tD (yC T)) s:=zk0 s _ (zmA s hr hT)
theorem zb3 {n:Nat} {T:Tb} (s:Sto) (hn:Sz n) (h:Tab n T):vk [tD T] s=.ok (.bl true) s:=by
 have hl:=h.len;have hs:=z1q (T.map rD) s (by simp [hl];omega);have key:∀ d:D,ym [d] s=.ok (.bl true) s->zA (yx (zc 0)) [some 0,none] (yE 1) zX (ze yb (za (zc 1) (za (ze yJ (za (zc 0) zh)) zh))) [some d] s=.ok (.lst (T.map fun _=>D.bl true)) s->vk [d] s=.ok (.bl true) s:=fun d h1 h2=>by
  have st:zr ["thing"] [d]=[some d]:=rfl;simp only [vk,Mof,z3Q,st,List.length_cons,List.length_nil,if_true];rw [zi (Z':=[some d]) (s':=s) (by simp [h1])];simp only [z1B,yo,ye,zB,h2,R.bind_ok,zH];rw [z6j s (by intro x hx;obtain ⟨_,_,rfl⟩:=List.mem_map.mp hx;rfl)];rfl
 refine key _ hs ?_;rw [jn,jd];simp only [z1r,zO,List.getElem?_cons_zero,R.bind_ok];rw [qW rD (fun _=>D.bl true) T [] (by
  intro r hr;have hw:=z1G r s (by have:=h.row r hr;omega);rw [h.row r hr,<- hl] at hw;simp only [iL] at hw;simp [yJ,zJ,hw]) (by simp [cap];omega)];simp
theorem z22{n:Nat}{T:Tb}(s:Sto)(hn:Sz n)(h:Tab n T):yN [tD T] s=.ok .non s:=by
 have key:∀ d:D,vk [d] s=.ok (.bl true) s->yN [d] s=.ok .non s:=fun d h1=>by simp [yN,Mof,z0N,zr,h1]
 exact key _ (zb3 s hn h)
theorem zlC{d e c:D}{cs:List (List Int)}(s:Sto)(f:List Int->D)(hc:yt [e] s=.ok (.tup (cs.map rD)) s)(h:∀ r∈cs,yM [d,rD r] s=.ok (f r) s)(hl:cs.length<=4): zA (yx (ze yt (za (zc 1) zh))) [some 0,none] (yE 1) zX (ze yM (za (zc 0) (za (zc 1) zh))) [some d,some e] s=.ok (.lst (cs.map f)) s:=by
 rw [jn,jd];simp only [z1r,ye,zB,zH,zO,List.getElem?_cons_zero,List.getElem?_cons_succ,R.bind_ok,hc];rw [qW rD f cs [] (by
  intro c hc;simp only [z0b,R.bind_ok,zcU,if_true,zaL,zaF,z82,List.getElem?_cons_zero,Option.getD_some,List.set_cons_succ,List.set_cons_zero,ye,zB,zH,zO,List.getElem?_cons_succ,h c hc]) (by simp [cap];omega)];rw [R.bind_ok,List.nil_append]
theorem zkg {d e f:D} {x:List D} {n:Int} (s:Sto) (h1:yN [d] s=.ok .non s) (h2:yN [e] s=.ok .non s) (h3:yJ [d] s=.ok (.int n) s) (h4:yJ [e] s=.ok (.int n) s) (h5:zA (yx (ze yt (za (zc 1) zh))) [some 0,none] (yE 1) zX (ze yM (za (zc 0) (za (zc 1) zh))) [some d,some e] s=.ok (.lst x) s) (h6:yt [.tup x] s=.ok f s):xS [d,e] s=.ok f s:=by
 have st:zr ["one","other"] [d,e]=[some d,some e]:=rfl;simp only [xS,Mof,z0x,st,List.length_cons,List.length_nil,if_true];rw [zi (Z':=[some d,some e]) (s':=s) (by simp [h1]),zi (Z':=[some d,some e]) (s':=s) (by simp [h2]),zi (Z':=[some d,some e]) (s':=s) (by simp [h3,h4])];have g:yc [.lst x] s=.ok (.tup x) s:=by simp [yc,zJ]
 simp only [z01,yo,ye,zB,h5,R.bind_ok,zH];rw [g,R.bind_ok,R.bind_ok,h6,R.bind_ok]
theorem z6N{n:Nat}{A B:Tb}{m k:Nat}(s:Sto)(hn:Sz n)(ha:Tab n A)(hb:Tab n B)(hA:Bd m A)(hB:Bd k B)(hm:m<=2000)(hk:k<=2000):xS [tD A,tD B] s=.ok (tD (z0w A B)) s:=by
 have w1:=z22 s hn ha;have w2:=z22 s hn hb;have n4:n<=4:=by omega
 have c1:=z1T (T:=B) s (fun r hr=>by rw [hb.row r hr,hb.len];omega) (by rw [hb.len];omega);have lc:(yC B).length=n:=by simp [yC,hb.len]
 have c2:=z1T (T:=(yC B).map (mv A)) s (fun r hr=>by
  obtain ⟨c,_,rfl⟩:=List.mem_map.mp hr;simp [mv,ha.len,lc]) (by simp [lc];omega);have g1:yJ [tD A] s=.ok (.int n) s:=by simp [yJ,zJ,ha.len]
 have g2:yJ [tD B] s=.ok (.int n) s:=by simp [yJ,zJ,hb.len]
 refine zkg s w1 w2 g1 g2 (zlC (c:=.non) s (fun r=>rD (mv A r)) c1 (fun r hr=>z6l s hA (zhi hB r hr) hm hk (ha.le hn) (by rw [ha.len];omega)) (by omega)) ?_;have e:(yC B).map (fun r=>rD (mv A r))=((yC B).map (mv A)).map rD:=by rw [List.map_map];rfl
 rw [e];exact c2
theorem z3L(xs:List D)(i:Nat)(s:Sto):dSl (.tup xs) none (some (i:Int)) s=.ok (.tup (xs.take i)) s:=by
 have e:Dd.cutD xs none (some (i:Int))=xs.take i:=by
  unfold Dd.cutD;rw [HT.z9S,HT.zcG];simp [List.take_eq_take_min]
 simp only [dSl,e]
theorem z1l(xs:List D)(i:Nat)(s:Sto):dSl (.tup xs) (some (i:Int)) none s=.ok (.tup (xs.drop i)) s:=by
 have e:Dd.cutD xs (some (i:Int)) none=xs.drop i:=by
  unfold Dd.cutD;rw [HT.z9S,HT.zcG];by_cases h:i<=xs.length
  ·rw [Nat.min_eq_left h];exact List.take_of_length_le (by simp)
  ·rw [Nat.min_eq_right (by omega)];simp [List.drop_of_length_le (show xs.length<=i by omega)]
 simp only [dSl,e]
theorem z5c {r:List Int} {j:Nat} (s:Sto) (h:j<r.length):dIx (rD r) (.int (j:Int)) s=.ok (.int (r.getD j 0)) s:=z6U (xs:=iL r) (j:=j) (d:=.int (r.getD j 0)) s (by simp [List.getElem?_map,List.getElem?_eq_getElem h,List.getD])
end Pg
namespace Pm
open L2 (maxL minL maxL_ge maxL_mem minL_le minL_mem)
inductive Rl where | nx | le | al | tu deriving DecidableEq
structure Lot(n:Nat)(v:List Int):Prop where
 sz:Sz n
 len:v.length=n
 nn:∀ x∈v,0<=x
 pos:∃ x∈v,0<x
def nz(v:List Int):List Int:=v.filter fun x=>decide (x≠0)
def ended(v:List Int):Bool:=decide ((nz v).length=1)
def gp(v:List Int):Nat:=v.idxOf (maxL v)
def others(v:List Int):List Int:=v.take (gp v)++[0]++v.drop (gp v+1)
def lp(v:List Int):Nat:=v.idxOf (minL (nz v))
def wq(v:List Int)(p:Nat):List Nat:=(List.range v.length).filter fun i=>decide (i≠p)
def deal:Rl->List Int->Nat×List Nat
 | .nx,v=>((others v).idxOf (maxL (others v)),[gp v]) | .le,v=>(lp (others v),[gp v]) | .al,v=>(lp v,wq v (lp v)) | .tu,v=>(0,if v.getD 0 0=0 then [] else wq v 0)
def yA(v:List Int)(d:Nat×List Nat):List Int:=(List.range v.length).map fun i=>if i∈d.2 then v.getD i 0 / v.getD d.1 0 else 0
def rot{α:Type}(xs:List α):List α:=xs.drop 1++xs.take 1
def mvd{α:Type}(r:Rl)(xs:List α):List α:=if r=.tu then rot xs else xs
def left(v qs:List Int)(b:Nat):List Int:=List.zipWith (fun x q=>x-q*v.getD b 0) v qs
def stp(r:Rl)(v:List Int):List Int:=mvd r (left v (yA v (deal r v)) (deal r v).1)
def yL(b:Nat)(line:List Int)(q:Int):List Int:=line.take b++[line.getD b 0+q]++line.drop (b+1)
def z45(r:Rl)(b:Nat)(qs:List Int):Tb:=List.zipWith (fun line q=>mvd r (yL b line q)) (one qs.length) qs
def uL(r:Rl)(v:List Int):Tb:=z45 r (deal r v).1 (yA v (deal r v))
@[simp] theorem zgQ:dot [] []=0:=rfl
@[simp] theorem dot_cons (a b:Int) (r v:List Int):dot (a::r) (b::v)=a*b+dot r v:=rfl
theorem vX:∀ {r c r' c':List Int},r.length=c.length->dot (r++r') (c++c')=dot r c+dot r' c'
 | [],[],_,_,_=>by simp | a::r,b::c,r',c',h=>by
  have:=vX (r:=r) (c:=c) (r':=r') (c':=c') (by simpa using h);simp only [List.cons_append,dot_cons,this];omega | [],_::_,_,_,h=>by simp at h | _::_,[],_,_,h=>by simp at h
def zbC(z:Int)(c q:List Int):List Int:=List.zipWith (fun x q=>x-q*z) c q
theorem z8u (z:Int):∀ {r c q:List Int},r.length=c.length->c.length=q.length->dot r (zbC z c q)=dot r c-dot r q*z
 | [],[],[],_,_=>by simp [zbC] | a::r,b::c,p::q,h1,h2=>by
  have:=z8u z (r:=r) (c:=c) (q:=q) (by simpa using h1) (by simpa using h2);simp only [zbC] at this;simp only [zbC,List.zipWith_cons_cons,dot_cons,this];grind | [],_::_,_,h,_=>by simp at h | _::_,[],_,h,_=>by simp at h | _,[],_::_,_,h=>by simp at h | _,_::_,[],_,h=>by simp at h
theorem z9B:∀ {r c:List Int},(∀ x∈r,0<=x)->(∀ x∈c,0<=x)->0<=dot r c
 | [],[],_,_=>by simp | [],_::_,_,_=>by simp [dot] | _::_,[],_,_=>by simp [dot] | a::r,b::c,h1,h2=>by
  have i:=z9B (r:=r) (c:=c) (fun x hx=>h1 x (by simp [hx])) fun x hx=>h2 x (by simp [hx]);have j:=Int.mul_nonneg (h1 a (by simp)) (h2 b (by simp));simp only [dot_cons];omega
theorem zhk{r c:List Int}(h:r.length=c.length):dot (rot r) (rot c)=dot r c:=by match r,c,h with
 | [],[],_=>rfl | a::r,b::c,h=>
  show dot (r++[a]) (c++[b])=_;rw [vX (by simpa using h)];simp only [dot_cons,zgQ];omega | [],_::_,h=>simp at h | _::_,[],h=>simp at h
theorem zhj{r c:List Int}(l:Rl)(h:r.length=c.length):dot (mvd l r) (mvd l c)=dot r c:=by
 unfold mvd;split;·exact zhk h
 ·rfl
theorem zcO{α:Type}{x:α}{xs:List α}:x∈rot xs ↔ x∈xs:=by cases xs with
 | nil=>simp [rot] | cons a xs=>simp [rot,or_comm]
theorem z6i{α:Type}{x:α}{xs:List α}{l:Rl}:x∈mvd l xs ↔ x∈xs:=by
 unfold mvd;split;·exact zcO
 ·rfl
theorem zgh{α:Type}(xs:List α):(rot xs).length=xs.length:=by cases xs<;>simp [rot]
theorem z5t{α:Type}{l:Rl}(xs:List α):(mvd l xs).length=xs.length:=by
 unfold mvd;split;·exact zgh xs
 ·rfl
structure Qs(v:List Int)(b:Nat)(qs:List Int):Prop where
 lt:b<v.length
 len:qs.length=v.length
 zero:qs[b]? = some 0
 nn:∀ q∈qs,0<=q
 fit:∀ i,0<=v.getD i 0-qs.getD i 0*v.getD b 0
 pos:(∀ q∈qs,q=0)\/0<v.getD b 0
theorem z2A{α:Type}{v:List α}{b:Nat}(h:b<v.length):∃ v1 z v2,v=v1++z::v2/\v1.length=b:= ⟨v.take b,v[b],v.drop (b+1),by rw [<- List.drop_eq_getElem_cons h,List.take_append_drop],by simp;omega⟩
def z65(b:Nat)(qs r:List Int):List Int:=r.set b (r.getD b 0+dot r qs)
theorem getD_at{α:Type}{v1 v2:List α}{z d:α}{b:Nat}(h:v1.length=b):(v1++z::v2).getD b d=z:=by
 subst h;simp [List.getD]
theorem Qs.split {v qs r:List Int} {b:Nat} (h:Qs v b qs) (hr:r.length=v.length):∃ v1 z v2 q1 q2 r1 y r2,v=v1++z::v2/\qs=q1++0::q2/\r=r1++y::r2/\v1.length=b/\q1.length=b/\r1.length=b/\q2.length=v2.length/\r2.length=v2.length:=by
 obtain ⟨v1,z,v2,rfl,e1⟩:=z2A h.lt;obtain ⟨q1,p,q2,rfl,e2⟩:=z2A (v:=qs) (b:=b) (by rw [h.len];exact h.lt);obtain ⟨r1,y,r2,rfl,e3⟩:=z2A (v:=r) (b:=b) (by rw [hr];exact h.lt);have hz:=h.zero;rw [<- e2] at hz;simp at hz;subst hz;have l1:=h.len;simp at l1 hr;exact ⟨v1,z,v2,q1,q2,r1,y,r2,rfl,rfl,rfl,e1,e2,e3,by omega,by omega⟩
theorem z4I {v1 v2 q1 q2:List Int} {z:Int} {b:Nat} (h1:v1.length=b) (h2:q1.length=b):left (v1++z::v2) (q1++0::q2) b=zbC z v1 q1++z::zbC z v2 q2:=by
 unfold left zbC;rw [getD_at h1,List.zipWith_append (by omega)];simp
theorem zgw{v qs r:List Int}{b:Nat}(h:Qs v b qs)(hr:r.length=v.length):dot (z65 b qs r) (left v qs b)=dot r v:=by
 obtain ⟨v1,z,v2,q1,q2,r1,y,r2,rfl,rfl,rfl,e1,e2,e3,e4,e5⟩:=h.split hr;rw [z4I e1 e2];unfold z65;rw [getD_at e3,<- e3,List.set_append_right _ _ (by omega)];simp only [Nat.sub_self,List.set_cons_zero];rw [vX (by simp [zbC];omega),vX (by omega),vX (by omega)];simp only [dot_cons];rw [z8u z (by omega) (by omega),z8u z (by omega) (by omega)];grind
theorem vz{v qs:List Int}{b:Nat}(h:qs.length=v.length):(left v qs b).length=v.length:=by simp [left,h]
theorem zbp{v qs:List Int}{b:Nat}(h:Qs v b qs):∀ x∈left v qs b,0<=x:=fun x hx=>by
 obtain ⟨i,hi,e⟩:=List.mem_iff_getElem.mp hx;have:=h.fit i;have hl:=vz (b:=b) h.len;have h1:i<v.length:=by omega
 have h2:i<qs.length:=by rw [h.len];exact h1
 simp only [List.getD,List.getElem?_eq_getElem h1,List.getElem?_eq_getElem h2,Option.getD_some] at this;rw [<- e];simpa [left,List.getD] using this
structure zl5(B:Int)(r c:List Int)(x:Int):Prop where
 len:r.length=c.length
 nn:∀ y∈r,0<=y/\y<=B
 dot:dot r c=x
theorem ze2 {B x:Int} {v qs r:List Int} {b:Nat} (l:Rl) (h:Qs v b qs) (hx:x<=B) (I:zl5 B r v x):zl5 B (mvd l (z65 b qs r)) (mvd l (left v qs b)) x:=by
 have hd:=zgw h I.len;have rl:(z65 b qs r).length=r.length:=by simp [z65]
 have ll:=vz (b:=b) h.len;refine ⟨by rw [z5t,z5t,rl,ll,I.len],fun y hy=>?_,by rw [zhj l (by rw [rl,ll,I.len]),hd,I.dot]⟩;rw [z6i] at hy;have ln:=zbp h;obtain ⟨v1,z,v2,q1,q2,r1,u,r2,rfl,rfl,rfl,e1,e2,e3,e4,e5⟩:=h.split I.len;rw [z4I e1 e2] at hd ln;have ev:(r1++u::r2).set b ((r1++u::r2).getD b 0+Pm.dot (r1++u::r2) (q1++0::q2))=r1++(u+Pm.dot (r1++u::r2) (q1++0::q2))::r2:=by
  rw [getD_at e3,<- e3,List.set_append_right _ _ (by omega)];simp only [Nat.sub_self,List.set_cons_zero]
 unfold z65 at hy hd;rw [ev] at hy hd;have dq:0<=Pm.dot (r1++u::r2) (q1++0::q2):=z9B (fun x hx=>(I.nn x hx).1) h.nn;have hu:=I.nn u (by simp);rcases List.mem_append.mp hy with hy | hy;·exact I.nn y (by simp [hy])
 ·rcases List.mem_cons.mp hy with rfl | hy
  ·refine ⟨by omega,?_⟩;rcases h.pos with h0 | h0
   ·have dz:Pm.dot (r1++u::r2) (q1++0::q2)=0:=by
     have:∀ (r q:List Int),(∀ x∈q,x=0)->Pm.dot r q=0:=by
      intro r;induction r with
      | nil=>intro q _;cases q<;>simp [Pm.dot] | cons a r ih=>
       intro q hq;cases q with
       | nil=>simp [Pm.dot] | cons p q=>rw [dot_cons,ih q (fun x hx=>hq x (by simp [hx])),hq p (by simp)];simp
     exact this _ _ h0
    omega
   ·rw [getD_at e1] at h0;rw [vX (by simp [zbC];omega),dot_cons] at hd;have n1:0<=Pm.dot r1 (zbC z v1 q1):=z9B (fun x hx=>(I.nn x (by simp [hx])).1) fun x hx=>ln x (by simp [hx]);have n2:0<=Pm.dot r2 (zbC z v2 q2):=z9B (fun x hx=>(I.nn x (by simp [hx])).1) fun x hx=>ln x (by simp [hx]);have dt:=I.dot;generalize Pm.dot (r1++u::r2) (q1++0::q2)=dd at *;have m1:(u+dd)*1<=(u+dd)*z:=Int.mul_le_mul_of_nonneg_left (by omega) (by omega);omega
  ·exact I.nn y (by simp [hy])
theorem z1X{α:Type}(xs:List α):mvd .tu xs=rot xs:=by simp [mvd]
theorem z0F{α:Type}{r:Rl}(h:r≠.tu)(xs:List α):mvd r xs=xs:=by simp [mvd,h]
theorem zjQ{n b:Nat}{qs:List Int}(P:Tb->Prop)(r:Rl)(hn:Sz n)(hq:qs.length=n)(hb:b<n)(hz:qs[b]? = some 0) (p20:∀ q,P [[1,0],[q,1]])(p21:∀ q,P [[1,q],[0,1]]) (p30:∀ p q,P [[1,0,0],[p,1,0],[q,0,1]])(p31:∀ p q,P [[1,p,0],[0,1,0],[0,q,1]])(p32:∀ p q,P [[1,0,p],[0,1,q],[0,0,1]]) (p40:∀ p q s,P [[1,0,0,0],[p,1,0,0],[q,0,1,0],[s,0,0,1]])(p41:∀ p q s,P [[1,p,0,0],[0,1,0,0],[0,q,1,0],[0,s,0,1]]) (p42:∀ p q s,P [[1,0,p,0],[0,1,q,0],[0,0,1,0],[0,0,s,1]])(p43:∀ p q s,P [[1,0,0,p],[0,1,0,q],[0,0,1,s],[0,0,0,1]]) (t:∀ T,Tab n T->P T->P (T.map rot)):P (z45 r b qs):=by
 have main:P (List.zipWith (fun line q=>yL b line q) (one qs.length) qs):=by
  rcases hn with rfl | rfl | rfl
  ·obtain ⟨x,y,rfl⟩:=z8K hq;match b,hb with
   | 0,_=>simp at hz;subst hz;simpa [one,yL,List.range,List.range.loop] using p20 y | 1,_=>simp at hz;subst hz;simpa [one,yL,List.range,List.range.loop] using p21 x
  ·obtain ⟨x,y,z,rfl⟩:=z6Y hq;match b,hb with
   | 0,_=>simp at hz;subst hz;simpa [one,yL,List.range,List.range.loop] using p30 y z | 1,_=>simp at hz;subst hz;simpa [one,yL,List.range,List.range.loop] using p31 x z | 2,_=>simp at hz;subst hz;simpa [one,yL,List.range,List.range.loop] using p32 x y
  ·obtain ⟨x,y,z,w,rfl⟩:=z5p hq;match b,hb with
   | 0,_=>simp at hz;subst hz;simpa [one,yL,List.range,List.range.loop] using p40 y z w | 1,_=>simp at hz;subst hz;simpa [one,yL,List.range,List.range.loop] using p41 x z w | 2,_=>simp at hz;subst hz;simpa [one,yL,List.range,List.range.loop] using p42 x y w | 3,_=>simp at hz;subst hz;simpa [one,yL,List.range,List.range.loop] using p43 x y z
 have tb:Tab n (List.zipWith (fun line q=>yL b line q) (one qs.length) qs):=by
  refine ⟨by simp [one,hq],fun l hl=>?_⟩;obtain ⟨i,hi,rfl⟩:=List.mem_iff_getElem.mp hl;simp at hi;simp [yL,one];omega
 by_cases hr:r=.tu
 ·subst hr;have:z45 .tu b qs=(List.zipWith (fun line q=>yL b line q) (one qs.length) qs).map rot:=by
   unfold z45;rw [List.map_zipWith];simp only [z1X]
  rw [this];exact t _ tb main
 ·have:z45 r b qs=List.zipWith (fun line q=>yL b line q) (one qs.length) qs:=by
   unfold z45;simp only [z0F hr]
  rw [this];exact main
theorem zdx{n b:Nat}{qs:List Int}(r:Rl)(hn:Sz n)(hq:qs.length=n)(hb:b<n):Tab n (z45 r b qs):=by
 refine ⟨by simp [z45,one,hq],fun l hl=>?_⟩;obtain ⟨i,hi,rfl⟩:=List.mem_iff_getElem.mp hl;simp [z45] at hi;simp [z45,z5t,yL,one];omega
def z85(T:Tb)(r:List Int):List Int:=(yC T).map (dot r)
theorem z6O{n:Nat}{A T:Tb}(hn:Sz n)(ha:Tab n A)(ht:Tab n T):z0w A T=A.map (z85 T):=by
 rcases hn with rfl | rfl | rfl
 ·obtain ⟨a,b,c,d,rfl⟩:=zg2 ha;obtain ⟨e,f,g,h,rfl⟩:=zg2 ht;rfl
 ·obtain ⟨a1,a2,a3,a4,a5,a6,a7,a8,a9,rfl⟩:=zhb ha;obtain ⟨b1,b2,b3,b4,b5,b6,b7,b8,b9,rfl⟩:=zhb ht;rfl
 ·obtain ⟨a1,a2,a3,a4,a5,a6,a7,a8,a9,a10,a11,a12,a13,a14,a15,a16,rfl⟩:=zfX ha;obtain ⟨b1,b2,b3,b4,b5,b6,b7,b8,b9,b10,b11,b12,b13,b14,b15,b16,rfl⟩:=zfX ht;rfl
theorem zeG{n:Nat}{T:Tb}{r:List Int}(hn:Sz n)(h:Tab n T):z85 (T.map rot) r=rot (z85 T r):=by
 rcases hn with rfl | rfl | rfl
 ·obtain ⟨a,b,c,d,rfl⟩:=zg2 h;rfl
 ·obtain ⟨a,b,c,d,e,f,g,i,j,rfl⟩:=zhb h;rfl
 ·obtain ⟨a,b,c,d,e,f,g,i,j,k,l,m,n,o,p,q,rfl⟩:=zfX h;rfl
theorem zd2{n b:Nat}{qs row:List Int}(r:Rl)(hn:Sz n)(hq:qs.length=n)(hb:b<n)(hz:qs[b]? = some 0)(hr:row.length=n):z85 (z45 r b qs) row=mvd r (z65 b qs row):=by
 have main:z85 (List.zipWith (fun line q=>yL b line q) (one qs.length) qs) row=z65 b qs row:=by
  rcases hn with rfl | rfl | rfl
  ·obtain ⟨x,y,rfl⟩:=z8K hq;obtain ⟨x',y',rfl⟩:=z8K hr;match b,hb with
   | 0,_=>simp at hz;subst hz;simp [one,yL,List.range,List.range.loop,z85,yC,z65,dot] | 1,_=>simp at hz;subst hz;simp [one,yL,List.range,List.range.loop,z85,yC,z65,dot];try omega
  ·obtain ⟨x,y,z,rfl⟩:=z6Y hq;obtain ⟨x',y',z',rfl⟩:=z6Y hr;match b,hb with
   | 0,_=>simp at hz;subst hz;simp [one,yL,List.range,List.range.loop,z85,yC,z65,dot]<;>try omega | 1,_=>simp at hz;subst hz;simp [one,yL,List.range,List.range.loop,z85,yC,z65,dot]<;>try omega | 2,_=>simp at hz;subst hz;simp [one,yL,List.range,List.range.loop,z85,yC,z65,dot]<;>try omega
  ·obtain ⟨x,y,z,w,rfl⟩:=z5p hq;obtain ⟨x',y',z',w',rfl⟩:=z5p hr;match b,hb with
   | 0,_=>simp at hz;subst hz;simp [one,yL,List.range,List.range.loop,z85,yC,z65,dot]<;>try omega | 1,_=>simp at hz;subst hz;simp [one,yL,List.range,List.range.loop,z85,yC,z65,dot]<;>try omega | 2,_=>simp at hz;subst hz;simp [one,yL,List.range,List.range.loop,z85,yC,z65,dot]<;>try omega | 3,_=>simp at hz;subst hz;simp [one,yL,List.range,List.range.loop,z85,yC,z65,dot]<;>try omega
 have tb:Tab n (List.zipWith (fun line q=>yL b line q) (one qs.length) qs):=by
  refine ⟨by simp [one,hq],fun l hl=>?_⟩;obtain ⟨i,hi,rfl⟩:=List.mem_iff_getElem.mp hl;simp at hi;simp [yL,one];omega
 by_cases h:r=.tu
 ·subst h;have e:z45 .tu b qs=(List.zipWith (fun line q=>yL b line q) (one qs.length) qs).map rot:=by
   unfold z45;rw [List.map_zipWith];simp only [z1X]
  rw [e,zeG hn tb,main,z1X]
 ·have e:z45 r b qs=List.zipWith (fun line q=>yL b line q) (one qs.length) qs:=by
   unfold z45;simp only [z0F h]
  rw [e,main,z0F h]
theorem qu{v:List Int}{x:Int}:x∈nz v ↔ x∈v/\x≠0:=by simp [nz]
theorem getD_mem{v:List Int}{i:Nat}(h:i<v.length):v.getD i 0∈v:=by simp [List.getD,List.getElem?_eq_getElem h]
theorem vc{v:List Int}(h:∀ x∈v,0<=x)(i:Nat):0<=v.getD i 0:=by
 by_cases hi:i<v.length;·exact h _ (getD_mem hi)
 ·simp [List.getD,List.getElem?_eq_none (Nat.not_lt.mp hi)]
theorem z7Z{v:List Int}{x:Int}(h:x∈v):v.idxOf x<v.length/\v.getD (v.idxOf x) 0=x:=by
 have hl:=List.idxOf_lt_length_of_mem h;exact ⟨hl,by simp [List.getD,List.getElem?_eq_getElem hl,List.getElem_idxOf hl]⟩
theorem Lot.ne{n:Nat}{v:List Int}(h:Lot n v):v≠[]:=fun z=>by
 obtain ⟨x,hx,_⟩:=h.pos;rw [z] at hx;simp at hx
theorem Lot.nzne{n:Nat}{v:List Int}(h:Lot n v):nz v≠[]:=fun z=>by
 obtain ⟨x,hx,h0⟩:=h.pos;have:x∈nz v:=qu.mpr ⟨hx,by omega⟩;rw [z] at this;simp at this
theorem z8S{v:List Int}(h:nz v≠[]):lp v<v.length/\v.getD (lp v) 0=minL (nz v)/\minL (nz v)≠0:=by
 have m:=qu.mp (minL_mem h);have:=z7Z m.1;exact ⟨this.1,this.2,m.2⟩
theorem z8R{v:List Int}(h:v≠[]):gp v<v.length/\v.getD (gp v) 0=maxL v:=z7Z (maxL_mem h)
theorem others_eq{v:List Int}(h:v≠[]):others v=v.set (gp v) 0:=by
 have:=(z8R h).1;unfold others;rw [List.set_eq_take_append_cons_drop,if_pos this];simp
theorem vq{v:List Int}(h:v≠[])(i:Nat):(others v).getD i 0=if i=gp v then 0 else v.getD i 0:=by
 have hg:=(z8R h).1;rw [others_eq h];by_cases e:i=gp v
 ·subst e;simp [List.getD,hg]
 ·simp [List.getD,e,List.getElem?_set_ne (Ne.symm e)]
theorem wb{v:List Int}(h:v≠[]):(others v).length=v.length:=by rw [others_eq h];simp
theorem zcx:∀ {v:List Int}{p:Nat},(nz v).length≠1->v.getD p 0≠0->∃ j,j≠p/\j<v.length/\v.getD j 0≠0:=by
 intro v p he hp;have hpl:p<v.length:=by
  apply Classical.byContradiction;intro z;exact hp (by simp [List.getD,List.getElem?_eq_none (Nat.not_lt.mp z)])
 apply Classical.byContradiction;intro hn;apply he;obtain ⟨v1,z,v2,rfl,e1⟩:=z2A hpl;rw [getD_at e1] at hp;have f1:∀ x∈v1,x=0:=fun x hx=>by
  obtain ⟨j,hj,rfl⟩:=List.mem_iff_getElem.mp hx;apply Classical.byContradiction;intro z0;exact hn ⟨j,by omega,by simp;omega,by simpa [List.getD,List.getElem?_append_left hj,List.getElem?_eq_getElem hj] using z0⟩
 have f2:∀ x∈v2,x=0:=fun x hx=>by
  obtain ⟨j,hj,rfl⟩:=List.mem_iff_getElem.mp hx;apply Classical.byContradiction;intro z0;refine hn ⟨v1.length+1+j,by omega,by simp;omega,?_⟩;have:(v1++z::v2)[v1.length+1+j]? = some v2[j]:=by rw [List.getElem?_append_right (by omega),show v1.length+1+j-v1.length=j+1 by omega,List.getElem?_cons_succ,List.getElem?_eq_getElem hj]
  rw [List.getD,this];simpa using z0
 have g1:v1.filter (fun x=>decide (x≠0))=[]:=List.filter_eq_nil_iff.mpr fun x hx=>by simp [f1 x hx]
 have g2:v2.filter (fun x=>decide (x≠0))=[]:=List.filter_eq_nil_iff.mpr fun x hx=>by simp [f2 x hx]
 simp only [nz,List.filter_append,List.filter_cons,g1,g2];simp [hp]
theorem z5N{v:List Int}(he:ended v=false):(nz v).length≠1:=by simpa [ended] using he
structure Dl(v:List Int)(b:Nat)(dv:List Nat):Prop where
 lt:b<v.length
 nb:b∉dv
 pos:dv=[]\/0<v.getD b 0
theorem vo{v:List Int}{p i:Nat}:i∈wq v p ↔ i<v.length/\i≠p:=by simp [wq]
theorem z8P{n:Nat}{v:List Int}(h:Lot n v){b:Nat}(hb:b<v.length)(h0:(others v).getD b 0≠0):Dl v b [gp v]/\0<v.getD b 0/\v.getD b 0<=v.getD (gp v) 0:=by
 have hg:=z8R h.ne;rw [vq h.ne] at h0;have ne:b≠gp v:=fun e=>by rw [if_pos e] at h0;exact h0 rfl
 rw [if_neg ne] at h0;have p0:0<v.getD b 0:=by have:=vc h.nn b;omega
 refine ⟨⟨hb,by simpa using ne,.inr p0⟩,p0,?_⟩;rw [hg.2];exact maxL_ge _ (getD_mem hb)
theorem qq {n:Nat} {v:List Int} (h:Lot n v) (he:ended v=false):nz (others v)≠[]:=by
 have hg:=z8R h.ne;have mx:0<maxL v:=by
  obtain ⟨x,hx,h0⟩:=h.pos;have:=maxL_ge (xs:=v) x hx;omega
 obtain ⟨j,h1,h2,h3⟩:=zcx (p:=gp v) (z5N he) (by rw [hg.2];omega);intro z;have:v.getD j 0∈nz (others v):=qu.mpr ⟨by
  have:=getD_mem (v:=others v) (i:=j) (by rw [wb h.ne];exact h2);rw [vq h.ne,if_neg h1] at this;exact this,h3⟩;rw [z] at this;simp at this
theorem qe{n:Nat}{v:List Int}(r:Rl)(h:Lot n v)(he:ended v=false):Dl v (deal r v).1 (deal r v).2:=by cases r with
 | nx=>
  have ne:others v≠[]:=fun z=>by
   have:=wb h.ne;rw [z] at this;exact h.ne (List.length_eq_zero_iff.mp this.symm)
  have a:=z7Z (maxL_mem ne);have nn:=qq h he;refine (z8P h (by rw [<- wb h.ne];exact a.1) ?_).1;show (others v).getD ((others v).idxOf (maxL (others v))) 0≠0;rw [a.2];have m:=qu.mp (minL_mem nn);have m1:=maxL_ge _ m.1;have m2:0<=minL (nz (others v)):=by
   obtain ⟨i,hi,e⟩:=List.mem_iff_getElem.mp m.1;have:=vq h.ne i;have e2:(others v).getD i 0=minL (nz (others v)):=by simp [List.getD,List.getElem?_eq_getElem hi,e]
   rw [e2] at this;rw [this];split;·omega
   ·exact vc h.nn i
  omega | le=>
  have a:=z8S (qq h he);refine (z8P h (by rw [<- wb h.ne];exact a.1) ?_).1;show (others v).getD (lp (others v)) 0≠0;rw [a.2.1];exact a.2.2 | al=>
  have a:=z8S h.nzne;refine ⟨a.1,by simp [deal,vo],.inr ?_⟩;show 0<v.getD (lp v) 0;have:=vc h.nn (lp v);have b:=a.2.1;have c:=a.2.2;omega | tu=>
  have l0:0<v.length:=by have:=h.sz;rw [h.len];omega
  refine ⟨l0,?_,?_⟩
  ·show 0∉(if v.getD 0 0=0 then [] else wq v 0);split<;>simp [vo]
  ·show (if v.getD 0 0=0 then [] else wq v 0)=[]\/0<v.getD 0 0;split;·exact .inl rfl
   ·have:=vc h.nn 0;exact .inr (by omega)
theorem xa(v:List Int)(d:Nat×List Nat):(yA v d).length=v.length:=by simp [yA]
theorem zai(v:List Int)(d:Nat×List Nat)(i:Nat):(yA v d).getD i 0=if i<v.length/\i∈d.2 then v.getD i 0 / v.getD d.1 0 else 0:=by
 unfold yA;by_cases hi:i<v.length;·simp [List.getD,hi]
 ·simp [List.getD,hi]
theorem qN{v:List Int}{d:Nat×List Nat}(i:Nat):v.getD i 0-(yA v d).getD i 0*v.getD d.1 0=if i<v.length/\i∈d.2 then v.getD i 0 % v.getD d.1 0 else v.getD i 0:=by
 rw [zai];split
 ·have:=Int.mul_ediv_add_emod (v.getD i 0) (v.getD d.1 0);have e:=Int.mul_comm (v.getD i 0 / v.getD d.1 0) (v.getD d.1 0);omega
 ·omega
theorem zem{v:List Int}{d:Nat×List Nat}(hv:∀ x∈v,0<=x)(h:Dl v d.1 d.2):Qs v d.1 (yA v d):=by
 refine ⟨h.lt,xa _ _,?_,fun q hq=>?_,fun i=>?_,?_⟩;·simp [yA,h.lt,h.nb]
 ·obtain ⟨i,hi,rfl⟩:=List.mem_iff_getElem.mp hq;simp only [yA,List.getElem_map,List.getElem_range];split;·exact Int.ediv_nonneg (vc hv _) (vc hv _)
  ·omega
 ·rw [qN];split
  ·rename_i hi;rcases h.pos with z | z;·rw [z] at hi;simp at hi
   ·exact Int.emod_nonneg _ (by omega)
  ·exact vc hv i
 ·rcases h.pos with z | z
  ·refine .inl fun q hq=>?_;obtain ⟨i,hi,rfl⟩:=List.mem_iff_getElem.mp hq;simp [yA,z]
  ·exact .inr z
def bl(n:Nat):Nat:=if n=0 then 0 else bl (n / 2)+1
termination_by n
decreasing_by omega
theorem z8M:bl 0=0:=by rw [bl];simp
theorem z9w{n:Nat}(h:n≠0):bl n=bl (n / 2)+1:=by rw [bl,if_neg h]
theorem zbA:∀ (b a:Nat),a<=b->bl a<=bl b:=by
 intro b;induction b using Nat.strongRecOn with | ind b ih=>
  intro a h;by_cases h0:a=0;·subst h0;rw [z8M];omega
  ·rw [z9w h0,z9w (show b≠0 by omega)];have:=ih (b / 2) (by omega) (a / 2) (by omega);omega
theorem zfT{a b:Nat}(h:2*a<b):bl a<bl b:=by
 rw [z9w (show b≠0 by omega)];have:=zbA (b / 2) a (by omega);omega
theorem zji:∀ (k n:Nat),n<2 ^ k->bl n<=k
 | 0,n,h=>by simp at h;subst h;rw [z8M];omega | k+1,n,h=>by
  by_cases h0:n=0;·subst h0;rw [z8M];omega
  ·rw [z9w h0];have:=zji k (n / 2) (by rw [Nat.pow_succ] at h;omega);omega
def wt(v:List Int):Nat:=(v.map fun x=>bl x.toNat).sum
theorem ziN:∀ {u v:List Int},u.length=v.length->(∀ i,bl (u.getD i 0).toNat<=bl (v.getD i 0).toNat)->wt u<=wt v/\((∃ i,bl (u.getD i 0).toNat<bl (v.getD i 0).toNat)->wt u<wt v)
 | [],[],_,_=>⟨by simp,fun ⟨i,h⟩=>by simp at h⟩ | a::u,b::v,hl,h=>by
  have ih:=ziN (u:=u) (v:=v) (by simpa using hl) fun i=>by simpa using h (i+1)
  have h0:bl a.toNat<=bl b.toNat:=by simpa using h 0
  simp only [wt,List.map_cons,List.sum_cons] at ih ⊢;refine ⟨by omega,fun ⟨i,hi⟩=>?_⟩;cases i with
  | zero=>
   have:bl a.toNat<bl b.toNat:=by simpa using hi
   omega | succ i=>
   have:=ih.2 ⟨i,by simpa using hi⟩;omega
 | [],_::_,h,_=>by simp at h | _::_,[],h,_=>by simp at h
theorem qB{v qs:List Int}{b:Nat}(h:qs.length=v.length)(i:Nat):(left v qs b).getD i 0=v.getD i 0-qs.getD i 0*v.getD b 0:=by
 unfold left;by_cases hi:i<v.length
 ·have h2:i<qs.length:=by omega
  simp [List.getD,List.getElem?_zipWith,List.getElem?_eq_getElem hi,List.getElem?_eq_getElem h2]
 ·have h2:¬ i<qs.length:=by omega
  simp [List.getD,List.getElem?_zipWith,List.getElem?_eq_none (Nat.not_lt.mp hi),List.getElem?_eq_none (Nat.not_lt.mp h2)]
theorem z68{u v:List Int}(hl:u.length=v.length)(h:∀ i,u.getD i 0=v.getD i 0):u=v:=by
 refine List.ext_getElem hl fun i h1 h2=>?_;have:=h i;simpa [List.getD,List.getElem?_eq_getElem h1,List.getElem?_eq_getElem h2] using this
theorem zdl{a b:Int}(h0:0<b)(h:b<=a):2*(a % b)<a:=by
 have h1:=Int.mul_ediv_add_emod a b;have h2:=Int.emod_lt_of_pos a h0;have h3:=Int.emod_nonneg a (show b≠0 by omega);have h4:1<=a / b:=by
  have:=Int.ediv_le_ediv h0 h;rwa [Int.ediv_self (by omega)] at this
 have h5:b*1<=b*(a / b):=Int.mul_le_mul_of_nonneg_left h4 (by omega);omega
theorem zcW{a b:Int}(ha:0<=a)(h0:0<b):a % b<=a:=by
 have h1:=Int.mul_ediv_add_emod a b;have h2:0<=a / b:=Int.ediv_nonneg ha (by omega);have h3:0<=b*(a / b):=Int.mul_nonneg (by omega) h2;omega
theorem zgt {v:List Int} {d:Nat×List Nat} (hv:∀ x∈v,0<=x) (h:Dl v d.1 d.2):wt (left v (yA v d) d.1)<=wt v/\((∃ i,i<v.length/\i∈d.2/\v.getD d.1 0<=v.getD i 0)->wt (left v (yA v d) d.1)<wt v):=by
 have hl:=xa v d;have key:∀ i,(left v (yA v d) d.1).getD i 0=if i<v.length/\i∈d.2 then v.getD i 0 % v.getD d.1 0 else v.getD i 0:=fun i=>by rw [qB hl,qN]
 have p:∀ i,i<v.length/\i∈d.2->0<v.getD d.1 0:=fun i hi=>by
  rcases h.pos with z | z;·rw [z] at hi;simp at hi
  ·exact z
 have w:=ziN (u:=left v (yA v d) d.1) (v:=v) (vz hl) fun i=>by
  rw [key];split
  ·rename_i hi;have:=zcW (vc hv i) (p i hi);exact zbA _ _ (by omega)
  ·exact Nat.le_refl _
 refine ⟨w.1,fun ⟨i,h1,h2,h3⟩=>w.2 ⟨i,?_⟩⟩;rw [key,if_pos ⟨h1,h2⟩];have h0:=p i ⟨h1,h2⟩;have:=zdl h0 h3;have:=Int.emod_nonneg (v.getD i 0) (show v.getD d.1 0≠0 by omega);exact zfT (by omega)
theorem zfv(v:List Int):wt (rot v)=wt v:=by cases v with
 | nil=>rfl | cons a v=>simp [rot,wt];omega
theorem zaX{a b:List Int}(h:∀ x,x∈a ↔ x∈b)(ha:a≠[]):minL a=minL b:=by
 have hb:b≠[]:=fun z=>by
  have:=(h _).mp (minL_mem ha);rw [z] at this;simp at this
 have h1:=minL_le (xs:=b) _ ((h _).mp (minL_mem ha));have h2:=minL_le (xs:=a) _ ((h _).mpr (minL_mem hb));omega
theorem zhR{v:List Int}(h:nz v≠[])(h0:v.getD 0 0≠minL (nz v)):lp (rot v)<lp v:=by cases v with
 | nil=>simp [nz] at h | cons a t=>
  have e:minL (nz (rot (a::t)))=minL (nz (a::t)):=(zaX (fun x=>by rw [qu,qu,zcO]) h).symm;have m:=(qu.mp (minL_mem h)).1;have ha:a≠minL (nz (a::t)):=by simpa using h0
  unfold lp;rw [e];generalize minL (nz (a::t))=m' at *;have mt:m'∈t:=(List.mem_cons.mp m).resolve_left fun z=>ha z.symm;show List.idxOf m' (t++[a])<_;rw [List.idxOf_append,if_pos mt,List.idxOf_cons];rw [show (a==m')=false from by simpa using ha];simp
def mu(r:Rl)(v:List Int):Nat:=5*wt v+(if r=.tu then lp v else 0)
theorem Lot.step{n:Nat}{v:List Int}(r:Rl)(h:Lot n v)(he:ended v=false):Lot n (stp r v):=by
 have dl:=qe r h he;have q:=zem h.nn dl;refine ⟨h.sz,by rw [stp,z5t,vz q.len,h.len],fun x hx=>zbp q x (z6i.mp hx),?_⟩;have fin:∀ x∈left v (yA v (deal r v)) (deal r v).1,0<x->∃ x∈stp r v,0<x:=fun x hx h0=>⟨x,z6i.mpr hx,h0⟩;rcases dl.pos with z | z
 ·obtain ⟨x,hx,h0⟩:=h.pos;refine fin x ?_ h0;have:left v (yA v (deal r v)) (deal r v).1=v:=z68 (vz q.len) fun i=>by rw [qB q.len,qN,z];simp
  rw [this];exact hx
 ·refine fin (v.getD (deal r v).1 0) ?_ z;have:(left v (yA v (deal r v)) (deal r v).1).getD (deal r v).1 0=v.getD (deal r v).1 0:=by rw [qB q.len,qN,if_neg (fun w=>dl.nb w.2)]
  rw [<- this];exact getD_mem (by rw [vz q.len];exact dl.lt)
theorem zi1{n:Nat}{v:List Int}(h:Lot n v):lp v<4:=by
 have:=(z8S h.nzne).1;have:=h.len;have:=h.sz;omega
theorem zkB{n:Nat}{v:List Int}(r:Rl)(h:Lot n v)(he:ended v=false):mu r (stp r v)<mu r v:=by
 have dl:=qe r h he;have w:=zgt h.nn dl;have mn:∀ j,j<v.length->v.getD j 0≠0->minL (nz v)<=v.getD j 0:=fun j hj h0=>minL_le _ (qu.mpr ⟨getD_mem hj,h0⟩);have ge:∀ {b:Nat},b<v.length->(others v).getD b 0≠0->v.getD b 0<=v.getD (gp v) 0:=fun hb h0=>(z8P h hb h0).2.2;cases r with
 | nx=>
  have g:=z8R h.ne;have:wt (stp .nx v)<wt v:=by
   rw [stp,z0F (by decide)];refine w.2 ⟨gp v,g.1,by simp [deal],?_⟩;rw [g.2];exact maxL_ge _ (getD_mem dl.lt)
  simp only [mu];rw [if_neg (by decide),if_neg (by decide)];omega | le=>
  have g:=z8R h.ne;have:wt (stp .le v)<wt v:=by
   rw [stp,z0F (by decide)];refine w.2 ⟨gp v,g.1,by simp [deal],?_⟩;rw [g.2];exact maxL_ge _ (getD_mem dl.lt)
  simp only [mu];rw [if_neg (by decide),if_neg (by decide)];omega | al=>
  have l:=z8S h.nzne;obtain ⟨j,h1,h2,h3⟩:=zcx (p:=lp v) (z5N he) (by rw [l.2.1];exact l.2.2);have:wt (stp .al v)<wt v:=by
   rw [stp,z0F (by decide)];refine w.2 ⟨j,h2,by simp [deal,vo,h1,h2],?_⟩;show v.getD (lp v) 0<=_;rw [l.2.1];exact mn j h2 h3
  simp only [mu];rw [if_neg (by decide),if_neg (by decide)];omega | tu=>
  simp only [mu];rw [if_pos trivial,if_pos trivial];have st:Lot n (stp .tu v):=h.step .tu he;have l4:=zi1 st;have same:left v (yA v (deal .tu v)) (deal .tu v).1=v->v.getD 0 0≠minL (nz v)->5*wt (stp .tu v)+lp (stp .tu v)<5*wt v+lp v:=fun e h0=>by
   have e2:stp .tu v=rot v:=by rw [stp,z1X,e]
   have:=zhR h.nzne h0;rw [e2,zfv];omega
  by_cases z:v.getD 0 0=0
  ·refine same (z68 (vz (xa _ _)) fun i=>?_) fun q=>?_
   ·rw [qB (xa _ _),qN];rw [show (deal .tu v).2=[] from by show (if v.getD 0 0=0 then [] else wq v 0)=[];rw [if_pos z]];simp
   ·exact (z8S h.nzne).2.2 (by rw [<- q,z])
  ·by_cases ex:∃ i,i<v.length/\i≠0/\v.getD 0 0<=v.getD i 0
   ·obtain ⟨i,h1,h2,h3⟩:=ex;have:wt (stp .tu v)<wt v:=by
     rw [stp,z1X,zfv];refine w.2 ⟨i,h1,?_,h3⟩;show i∈(if v.getD 0 0=0 then [] else wq v 0);rw [if_neg z];exact vo.mpr ⟨h1,h2⟩
    omega
   ·have nn0:=vc h.nn 0;refine same (z68 (vz (xa _ _)) fun i=>?_) fun q=>?_
    ·rw [qB (xa _ _),qN];split
     ·rename_i hi;have i0:i≠0:=by
       have:=hi.2;simp only [deal,if_neg z,vo] at this;exact this.2
      have:¬ v.getD 0 0<=v.getD i 0:=fun w=>ex ⟨i,hi.1,i0,w⟩;show v.getD i 0 % v.getD 0 0=_;exact Int.emod_eq_of_lt (vc h.nn i) (by omega)
     ·rfl
    ·obtain ⟨j,h1,h2,h3⟩:=zcx (p:=0) (z5N he) z;have:=mn j h2 h3;exact ex ⟨j,h2,h1,by omega⟩
inductive Run(r:Rl):List Int->List (List Int)->Prop | done {v:List Int}:ended v=true->Run r v [v] | step {v:List Int}{ls:List (List Int)}:ended v=false->Run r (stp r v) ls->Run r v (v::ls)
theorem zfk{n:Nat}{r:Rl}:∀ (k:Nat)(v:List Int),Lot n v->mu r v<=k->∃ ls,Run r v ls/\ls.length<=k+1
 | k,v,h,hk=>by cases he:ended v with
  | true=>exact ⟨[v],.done he,by simp⟩ | false=>
   have lt:=zkB r h he;match k,hk with
   | 0,hk=>omega | k+1,hk=>
    obtain ⟨ls,h1,h2⟩:=zfk (r:=r) k (stp r v) (h.step r he) (by omega);exact ⟨v::ls,.step he h1,by simp;omega⟩
theorem ziW{m:Nat}:∀ {v:List Int},(∀ x∈v,x.toNat<2 ^ m)->wt v<=v.length*m
 | [],_=>by simp [wt] | a::v,h=>by
  have ih:=ziW (v:=v) fun x hx=>h x (by simp [hx]);have:=zji m a.toNat (h a (by simp));simp only [wt,List.map_cons,List.sum_cons,List.length_cons,Nat.succ_mul] at ih ⊢;omega
theorem zjZ{n m:Nat}{v:List Int}{r:Rl}(h:Lot n v)(hb:∀ x∈v,x.toNat<2 ^ m):mu r v<=20*m+3:=by
 have w:=ziW hb;have l:=zi1 h;have:v.length*m<=4*m:=Nat.mul_le_mul_right m (by have:=h.len;have:=h.sz;omega);unfold mu;split<;>omega
def cg(a b:Int):Int:=(Int.gcd a b:Int)
def zkA(v:List Int):Int:=v.foldl cg 0
structure PI(n:Nat)(B:Int)(P:Tb)(c x:List Int):Prop where
 tab:Tab n P
 nn:∀ row∈P,∀ y∈row,0<=y/\y<=B
 eq:mv P c=x
theorem z0J{n:Nat}{v:List Int}(r:Rl)(h:Lot n v)(he:ended v=false):Tab n (uL r v):=by
 have dl:=qe r h he;exact zdx r h.sz (by rw [xa,h.len]) (by rw [<- h.len];exact dl.lt)
theorem PI.step{n:Nat}{B:Int}{P:Tb}{c x:List Int}(r:Rl)(I:PI n B P c x)(hx:∀ y∈x,y<=B)(h:Lot n c)(he:ended c=false):PI n B (z0w P (uL r c)) (stp r c) x:=by
 have dl:=qe r h he;have q:=zem h.nn dl;have tt:=z0J r h he;have hq:(yA c (deal r c)).length=n:=by rw [xa,h.len]
 have hb:(deal r c).1<n:=by rw [<- h.len];exact dl.lt
 have rows:∀ row∈P,z85 (uL r c) row=mvd r (z65 (deal r c).1 (yA c (deal r c)) row):=fun row hr=>zd2 r h.sz hq hb q.zero (I.tab.row row hr);have ri:∀ row∈P,zl5 B (mvd r (z65 (deal r c).1 (yA c (deal r c)) row)) (stp r c) (dot row c):=fun row hr=>by
  have:dot row c∈x:=by rw [<- I.eq];exact List.mem_map.mpr ⟨row,hr,rfl⟩
  exact ze2 r q (hx _ this) ⟨by rw [I.tab.row row hr,h.len],I.nn row hr,rfl⟩
 refine ⟨za1 I.tab tt,fun row hr y hy=>?_,?_⟩
 ·rw [z6O h.sz I.tab tt] at hr;obtain ⟨w,hw,rfl⟩:=List.mem_map.mp hr;rw [rows w hw] at hy;exact (ri w hw).nn y hy
 ·rw [z6O h.sz I.tab tt,<- I.eq];unfold mv;rw [List.map_map];refine List.map_congr_left fun w hw=>?_;show dot (z85 (uL r c) w) (stp r c)=dot w c;rw [rows w hw];exact (ri w hw).dot
theorem ziD(n:Nat):∀ row∈one n,∀ y∈row,0<=y/\y<=1:=fun row hr y hy=>by
 simp only [one] at hr;obtain ⟨i,_,rfl⟩:=List.mem_map.mp hr;obtain ⟨j,_,rfl⟩:=List.mem_map.mp hy;split<;>omega
theorem PI.start{n:Nat}{B:Int}{v:List Int}(h:Lot n v)(hx:∀ y∈v,y<=B):PI n B (one n) v v:=by
 have b1:1<=B:=by
  obtain ⟨y,hy,h0⟩:=h.pos;have:=hx y hy;omega
 refine ⟨z8H n,fun row hr y hy=>?_,zjk h.sz h.len⟩;have:=ziD n row hr y hy;omega
theorem zgW{n:Nat}{v:List Int}{B:Int}(r:Rl)(h:Lot n v)(he:ended v=false)(hb:∀ y∈v,y<=B):∀ row∈uL r v,∀ y∈row,0<=y/\y<=B:=by
 have:=(PI.start h hb).step r hb h he;have e:=this.nn;rw [(zeH h.sz (z0J r h he)).1] at e;exact e
theorem zis{n:Nat}{v:List Int}{B:Int}(r:Rl)(h:Lot n v)(he:ended v=false)(hb:∀ y∈v,y<=B):∀ y∈stp r v,y<=B:=fun y hy=>by
 have dl:=qe r h he;have q:=zem h.nn dl;have hy:=z6i.mp hy;obtain ⟨i,hi,rfl⟩:=List.mem_iff_getElem.mp hy;have e:(left v (yA v (deal r v)) (deal r v).1)[i]=(left v (yA v (deal r v)) (deal r v).1).getD i 0:=by simp [List.getD,List.getElem?_eq_getElem hi]
 have hi':i<v.length:=by rw [<- vz (b:=(deal r v).1) q.len];exact hi
 have b:=hb _ (getD_mem hi');rw [e,qB q.len,qN];split
 ·rename_i w;rcases dl.pos with z | z;·rw [z] at w;simp at w
  ·have:=zcW (vc h.nn i) z;omega
 ·exact b
def scl(k:Int)(v:List Int):List Int:=v.map fun x=>x*k
section
variable {k:Int}(hk:0<k)
include hk
theorem zg6{x y:Int}:x*k=y*k ↔ x=y:=⟨fun h=>Int.eq_of_mul_eq_mul_right (by omega) h,fun h=>by rw [h]⟩
theorem zgG{x:Int}{v:List Int}:x*k∈scl k v ↔ x∈v:=by
 unfold scl;rw [List.mem_map];exact ⟨fun ⟨y,hy,e⟩=>by rw [<- (zg6 hk).mp e];exact hy,fun h=>⟨x,h,rfl⟩⟩
theorem zhm(v:List Int):(scl k v).length=v.length:=by simp [scl]
end
def zm(r:Rl)(ls:List (List Int)):List Tb:=ls.dropLast.map (uL r)
theorem Run.ne{r:Rl}{v:List Int}{ls:List (List Int)}(R:Run r v ls):ls≠[]:=by cases R<;>simp
theorem Run.tabs_cons{r:Rl}{v:List Int}{ls:List (List Int)}(h:Run r (stp r v) ls):zm r (v::ls)=uL r v::zm r ls:=by
 obtain ⟨a,t,rfl⟩:=List.exists_cons_of_ne_nil h.ne;simp [zm]
def wd(n:Nat)(ts:List Tb):Tb:=ts.foldl z0w (one n)
end Pm
namespace Pg
open PySem.Spec L2 Dd Pm
theorem z0y{α:Type}{all:List D}{s:Sto}{body:D->Sto->R (Option D)}(g f:α->D)(p:α->Bool):∀ (l:List α)(acc:List D),(∀ a∈l,body (g a) s=.ok (if p a=true then some (f a) else none) s)->acc.length+l.length<=cap->wR [] all body (l.map g) acc s=.ok (acc++(l.filter p).map f) s
 | [],acc,_,_=>by simp [wR,okG] | x::xs,acc,hb,hl=>by
  have og:okG [] all s:=by intro p hp;simp at hp
  rw [List.map_cons,wR,if_pos og,hb x (by simp)];cases hp:p x with
  | true=>
   have ih:=z0y (all:=all) g f p xs (acc++[f x]) (fun y hy=>hb y (by simp [hy])) (by simp at hl ⊢;omega);have hc:acc.length<cap:=by simp at hl;omega
   simp [hc,ih,hp] | false=>
   have ih:=z0y (all:=all) g f p xs acc (fun y hy=>hb y (by simp [hy])) (by simp at hl ⊢;omega);simp [ih,hp]
theorem vN{α:Type}{fi:FI}{mp:List (Option Nat)}{fg:FG}{ft:FT}{fe:FE}{Z:Ev}{s:Sto}(g f:α->D)(p:α->Bool)(ev:α->Ev)(l:List α) (hi:fi Z s=.ok (l.map g,[]) s)(hg:∀ a∈l,fg (g a) (xh mp Z) s=.ok (ev a) s)(ht:∀ a∈l,ft (ev a) s=.ok (p a) s)(he:∀ a∈l,p a=true->fe (ev a) s=.ok (f a) s)(hl:l.length<=cap): zA fi mp fg ft fe Z s=.ok (.lst ((l.filter p).map f)) s:=by
 rw [jn,jd,hi,R.bind_ok];rw [z0y g f p l [] (by
  intro a ha;simp only [hg a ha,ht a ha,R.bind_ok];cases hp:p a with
  | true=>simp [he a ha hp] | false=>simp) (by simpa using hl)];rfl
theorem comp_map{α:Type}{fi:FI}{mp:List (Option Nat)}{fg:FG}{fe:FE}{Z:Ev}{s:Sto}(g f:α->D)(ev:α->Ev)(l:List α) (hi:fi Z s=.ok (l.map g,[]) s)(hg:∀ a∈l,fg (g a) (xh mp Z) s=.ok (ev a) s)(he:∀ a∈l,fe (ev a) s=.ok (f a) s)(hl:l.length<=cap): zA fi mp fg zX fe Z s=.ok (.lst (l.map f)) s:=by
 have:=vN (ft:=zX) g f (fun _=>true) ev l hi hg (fun a _=>rfl) (fun a ha _=>he a ha) hl;rw [show l.filter (fun _=>true)=l from List.filter_eq_self.mpr (by simp)] at this;exact this
theorem z66{f:FE}{Z:Ev}{s:Sto}{xs:List D}(h:f Z s=.ok (.tup xs) s):yx f Z s=.ok (xs,[]) s:=by simp [h]
theorem kI{f:FE}{Z:Ev}{s:Sto}{xs:List D}(h:f Z s=.ok (.lst xs) s):yx f Z s=.ok (xs,[]) s:=by simp [h]
structure LotB(n m:Nat)(v:List Int):Prop extends Lot n v where bd:∀ x∈v,x<2 ^ m
theorem LotB.abs{n m:Nat}{v:List Int}(h:LotB n m v):∀ x∈v,x.natAbs<2 ^ m:=fun x hx=>by
 have h1:=h.bd x hx;have h2:=h.nn x hx;have e:((x.natAbs:Nat):Int)=x:=Int.natAbs_of_nonneg h2;have:((x.natAbs:Nat):Int)<((2 ^ m:Nat):Int):=by rw [e];simpa using h1
 omega
theorem LotB.toN{n m:Nat}{v:List Int}(h:LotB n m v):∀ x∈v,x.toNat<2 ^ m:=fun x hx=>by
 have h1:=h.abs x hx;have h2:=h.nn x hx;omega
theorem _root_.Pm.Lot.le4{n:Nat}{v:List Int}(h:Lot n v):v.length<=4/\2<=v.length:=by have:=h.len;have:=h.sz;omega
theorem za6{n:Nat}{v:List Int}(h:Lot n v)(s:Sto):yj [rD v] s=.ok (.bl true) s:=by
 have l4:=h.le4;have h1:=z1q (iL v) s (by simp;omega);have h2:=z1G v s (by omega);have g1:=z4N s h.ne;have g2:=zeR s h.ne;have mn:0<=minL v:=h.nn _ (minL_mem h.ne);have mx:0<maxL v:=by obtain ⟨x,hx,h0⟩:=h.pos;have:=maxL_ge (xs:=v) x hx;omega
 have gl:yJ [rD v] s=.ok (.int v.length) s:=by simp [yJ,zJ]
 have key:∀ d:D,ym [d] s=.ok (.bl true) s->yJ [d] s=.ok (.int v.length) s->yb [d,.int v.length] s=.ok (.bl true) s->vD [d] s=.ok (.int (maxL v)) s->z4j [d] s=.ok (.int (minL v)) s->yj [d] s=.ok (.bl true) s:=fun d a1 a2 a3 a4 a5=>by simp [yj,Mof,uq,zr,a1,a2,a3,a4,a5,mn,mx]
 exact key _ h1 gl h2 g1 g2
theorem z4M{n:Nat}{v:List Int}(h:Lot n v)(s:Sto):xf [rD v] s=.ok .non s:=by
 have h1:=za6 h s;have key:∀ d:D,yj [d] s=.ok (.bl true) s->xf [d] s=.ok .non s:=fun d a1=>by simp [xf,Mof,z33,zr,a1]
 exact key _ h1
theorem nzC{v:List Int}{f:FE}{Z:Ev}{s:Sto}{mp:List (Option Nat)}(hf:f Z s=.ok (rD v) s)(hl:v.length<=4):zA (yx f) [none] (yE 0) (tOf (eOp dNe (zc 0) (eC (.int 0)))) (zc 0) Z s=.ok (.lst (iL (nz v))) s:=by
 rw [vN D.int D.int (fun x=>decide (x≠0)) (fun x=>[some (.int x)]) v (z66 hf) (fun a _=>by simp) (fun a _=>by simp) (fun a _ _=>by simp) (by simp [cap];omega)];rfl
theorem z2X {n:Nat} {v:List Int} (h:Lot n v) (s:Sto):yF [rD v] s=.ok (.bl (ended v)) s:=by
 have h1:=z4M h s;have key:∀ d:D,xf [d] s=.ok .non s->zA (yx (zc 0)) [none] (yE 0) (tOf (eOp dNe (zc 0) (eC (.int 0)))) (zc 0) [some d] s=.ok (.lst (iL (nz v))) s->yF [d] s=.ok (.bl (ended v)) s:=fun d a1 a2=>by
  have st:zr ["lot"] [d]=[some d]:=rfl;simp only [yF,Mof,z1K,st,List.length_cons,List.length_nil,if_true];rw [zi (Z':=[some d]) (s':=s) (by simp [a1])];simp only [z0K,yo,yn,ye,zB,zH,z0v,a2,R.bind_ok];simp only [yJ,zJ,R.bind_ok,z81,List.length_map];have:decide (((nz v).length:Int)=1)=ended v:=by
   unfold ended;by_cases e:(nz v).length=1;·simp [e]
   ·have:¬ ((nz v).length:Int)=1:=by omega
    simp [e,this]
  rw [this]
 exact key _ h1 (nzC (mp:=[]) (by simp) h.le4.1)
def nmR:Rl->Str | .nx=>"next" | .le=>"least" | .al=>"all" | .tu=>"turn"
theorem zcB{fo fv:FE}{Z:Ev}{s:Sto}{v:List Int}{k:Int}(h1:fo Z s=.ok (rD v) s)(h2:fv Z s=.ok (.int k) s)(hk:k∈v):ze7 fo fv Z s=.ok (.int (v.idxOf k:Nat)) s:=by simp only [ziZ,h1,h2,R.bind_ok,vn,if_pos hk]
theorem z4G {n:Nat} {v:List Int} (h:Lot n v) (s:Sto):zD [rD v] s=.ok (.tup [.int (gp v:Nat),rD (others v)]) s:=by
 have l4:=h.le4;have g1:=z4N s h.ne;have key:∀ d:D,d=rD v->zD [d] s=.ok (.tup [.int (gp v:Nat),rD (others v)]) s:=fun d hd=>by
  have st:zr ["lot","at"] [d]=[some d,none]:=rfl;have gm:vD [d] s=.ok (.int (maxL v)) s:=by rw [hd];exact g1
  have i1:ze7 (zc 0) (ze vD (za (zc 0) zh)) [some d,none] s=.ok (.int (gp v:Nat)) s:=zcB (by simp [hd]) (by simp [gm]) (maxL_mem h.ne);simp only [zD,Mof,vh,st,List.length_cons,List.length_nil,if_true];rw [zi (Z':=[some d,some (.int (gp v:Nat))]) (s':=s) (by rw [wY,zV,i1];simp)];have e1:=z3L (iL v) (gp v) s;have e2:=z1l (iL v) (gp v+1) s;rw [show (((gp v+1:Nat):Int))=((gp v:Nat):Int)+1 from rfl] at e2;simp only [wU,yo,z0G,zB,zH,zO,yn,z5u,vB,jS,z0v,List.getElem?_cons_zero,List.getElem?_cons_succ,R.bind_ok,zbj,hd,e1,e2];rw [if_pos (by simp [cap]),R.bind_ok,z3K,if_pos (by simp [cap];omega),R.bind_ok,e2,R.bind_ok,z3K,if_pos (by simp [cap];omega),R.bind_ok,R.bind_ok,R.bind_ok,if_pos (by simp [cap])];simp [others,List.map_take,List.map_drop]
 exact key _ rfl
theorem z0D {v:List Int} (h:nz v≠[]) (hl:v.length<=4) (s:Sto):yq [rD v] s=.ok (.int (lp v:Nat)) s:=by
 have key:∀ d:D,d=rD v->yq [d] s=.ok (.int (lp v:Nat)) s:=fun d hd=>by
  have st:zr ["lot"] [d]=[some d]:=rfl;have c:=nzC (mp:=[]) (f:=zc 0) (Z:=[some d]) (s:=s) (v:=v) (by simp [hd]) hl;have gm:z4j [.lst (iL (nz v))] s=.ok (.int (minL (nz v))) s:=by
   obtain ⟨a,t,e⟩:=List.exists_cons_of_ne_nil h;rw [e];simp only [z4j,zJ,Option.bind_some,iL];rw [vn]
  simp only [yq,Mof,kW,st,List.length_cons,List.length_nil,if_true,kg,yo];rw [zcB (v:=v) (k:=minL (nz v)) (by simp [hd]) (by rw [ye,zB,c];simp only [R.bind_ok,zH,gm]) (qu.mp (minL_mem h)).1];rfl
 exact key _ rfl
abbrev nL(l:List Nat):List D:=l.map fun i=>D.int ((i:Nat):Int)
theorem z7s {v:List Int} (p:Nat) (hl:v.length<=4) (s:Sto):wr [rD v,.int (p:Nat)] s=.ok (.lst (nL (wq v p))) s:=by
 have key:∀ d:D,yJ [d] s=.ok (.int v.length) s->wr [d,.int (p:Nat)] s=.ok (.lst (nL (wq v p))) s:=fun d hd=>by
  have st:zr ["lot","place"] [d,.int (p:Nat)]=[some d,some (.int (p:Nat))]:=rfl;have ir:qh (za (ze yJ (za (zc 0) zh)) zh) [some d,some (.int (p:Nat))] s=.ok ((List.range v.length).map fun i=>D.int ((i:Nat):Int),[]) s:=by
   rw [z9u (n:=v.length) (s1:=s) (by omega) (by simp [hd])];rfl
  simp only [wr,Mof,z56,st,List.length_cons,List.length_nil,if_true,z3G,yo];rw [vN (fun i:Nat=>D.int ((i:Nat):Int)) (fun i:Nat=>D.int ((i:Nat):Int)) (fun i=>decide (i≠p)) (fun i=>[some (.int (p:Nat)),some (.int (i:Nat))]) (List.range v.length) ir (fun a _=>by simp) (fun a _=>by
   have:decide (((a:Nat):Int)≠(p:Nat))=decide (a≠p):=by
    by_cases e:a=p;·simp [e]
    ·have:¬ ((a:Nat):Int)=(p:Nat):=by omega
     simp [e,this]
   simp only [um,yn,zO,List.getElem?_cons_succ,List.getElem?_cons_zero,R.bind_ok,zgX,this]) (fun a _ _=>by simp) (by simp [cap];omega)];rfl
 exact key _ (by simp [yJ,zJ])
abbrev z2Z(d:Nat×List Nat):D:=.tup [.int ((d.1:Nat):Int),.lst (nL d.2)]
theorem zbd {n:Nat} {v:List Int} (h:Lot n v) (s:Sto):vC [rD v] s=.ok (z2Z (deal .nx v)) s:=by
 have ne:others v≠[]:=fun z=>by
  have:=wb h.ne;rw [z] at this;exact h.ne (List.length_eq_zero_iff.mp this.symm)
 have g:=z4G h s;have g1:=z4N (ns:=others v) s ne;have key:∀ d e:D,e=rD (others v)->zD [d] s=.ok (.tup [.int (gp v:Nat),e]) s->vC [d] s=.ok (z2Z (deal .nx v)) s:=fun d e he hg=>by
  have st:zr ["lot","greatest","others"] [d]=[some d,none,none]:=rfl;have gm:vD [e] s=.ok (.int (maxL (others v))) s:=by rw [he];exact g1
  simp only [vC,Mof,z4P,st,List.length_cons,List.length_nil,if_true];rw [zi (Z':=[some d,some (.int (gp v:Nat)),some e]) (s':=s) (by simp [hg])];have ix:ze7 (zc 2) (ze vD (za (zc 2) zh)) [some d,some (.int (gp v:Nat)),some e] s=.ok (.int ((others v).idxOf (maxL (others v)):Nat)) s:=zcB (v:=others v) (by simp [he]) (by simp [gm]) (maxL_mem ne);simp only [z3h,yo,z0G,zB,ix,R.bind_ok,zH,jJ,zO,List.getElem?_cons_zero,List.getElem?_cons_succ];simp [cap,deal]
 exact key _ _ rfl g
theorem zb9 {n:Nat} {v:List Int} (h:Lot n v) (he:ended v=false) (s:Sto):wM [rD v] s=.ok (z2Z (deal .le v)) s:=by
 have g:=z4G h s;have lpo:=z0D (qq h he) (by rw [wb h.ne];exact h.le4.1) s;have key:∀ d e:D,yq [e] s=.ok (.int (lp (others v):Nat)) s->zD [d] s=.ok (.tup [.int (gp v:Nat),e]) s->wM [d] s=.ok (z2Z (deal .le v)) s:=fun d e he hg=>by
  have st:zr ["lot","greatest","others"] [d]=[some d,none,none]:=rfl;simp only [wM,Mof,z3E,st,List.length_cons,List.length_nil,if_true];rw [zi (Z':=[some d,some (.int (gp v:Nat)),some e]) (s':=s) (by simp [hg])];simp [he,cap,deal]
 exact key _ _ lpo g
theorem zdr {n:Nat} {v:List Int} (h:Lot n v) (s:Sto):uI [rD v] s=.ok (z2Z (deal .al v)) s:=by
 have lpo:=z0D h.nzne h.le4.1 s;have ab:=z7s (v:=v) (lp v) h.le4.1 s;have key:∀ d:D,yq [d] s=.ok (.int (lp v:Nat)) s->wr [d,.int (lp v:Nat)] s=.ok (.lst (nL (wq v (lp v)))) s->uI [d] s=.ok (z2Z (deal .al v)) s:=fun d h1 h2=>by
  have st:zr ["lot","by"] [d]=[some d,none]:=rfl;simp only [uI,Mof,z7X,st,List.length_cons,List.length_nil,if_true];rw [zi (Z':=[some d,some (.int (lp v:Nat))]) (s':=s) (by simp [h1])];simp [h2,cap,deal]
 exact key _ lpo ab
theorem zbO {n:Nat} {v:List Int} (h:Lot n v) (s:Sto):vA [rD v] s=.ok (z2Z (deal .tu v)) s:=by
 have ab:=z7s (v:=v) 0 h.le4.1 s;have i0:dIx (rD v) (.int 0) s=.ok (.int (v.getD 0 0)) s:=z5c (j:=0) s (by have:=h.le4.2;omega);have key:∀ d:D,dIx d (.int 0) s=.ok (.int (v.getD 0 0)) s->wr [d,.int 0] s=.ok (.lst (nL (wq v 0))) s->vA [d] s=.ok (z2Z (deal .tu v)) s:=fun d h1 h2=>by
  have st:zr ["lot"] [d]=[some d]:=rfl;simp only [vA,Mof,z4L,st,List.length_cons,List.length_nil,if_true];by_cases z:v.getD 0 0=0;·rw [z9T (d:=z2Z (deal .tu v)) (s':=s) (by
    rw [z] at h1;have e:deal .tu v=(0,[]):=by show (0,if v.getD 0 0=0 then [] else wq v 0)=_;rw [if_pos z]
    rw [e];simp [h1,cap])]
  ·rw [zi (Z':=[some d]) (s':=s) (by
    have:¬ v.getD 0 0=0:=z;generalize v.getD 0 0=y at *;simp [h1,this])];have e:deal .tu v=(0,wq v 0):=by show (0,if v.getD 0 0=0 then [] else wq v 0)=_;rw [if_neg z]
   rw [e];simp [h2,cap]
 exact key _ i0 ab
theorem zdd(r:Rl)(s:Sto):xo [.str (nmR r)] s=.ok (.bl true) s:=by
 have l:∀ r,(qJ.lookup (nmR r)).isSome=true:=fun r=>by cases r<;>decide
 have l:=l r;obtain ⟨y,l⟩:=Option.isSome_iff_exists.mp l;generalize nmR r=x at *;simp [xo,Mof,z4X,zr,gIs,tyD,isT,l]
theorem z3e(r:Rl)(s:Sto):wC [.str (nmR r)] s=.ok .non s:=by
 have l:=zdd r s;generalize nmR r=x at *;simp [wC,Mof,z1y,zr,l]
theorem z6z{n:Nat}{v:List Int}(r:Rl)(h:Lot n v)(s:Sto):zG [.str (nmR r),rD v] s=.ok .non s:=by
 have h1:=z3e r s;have h2:=z4M h s;have key:∀ d e:D,wC [d] s=.ok .non s->xf [e] s=.ok .non s->zG [d,e] s=.ok .non s:=fun d e a1 a2=>by simp [zG,Mof,vI,zr,a1,a2]
 exact key _ _ h1 h2
theorem z3i{n:Nat}{v:List Int}(r:Rl)(h:Lot n v)(he:ended v=false)(s:Sto):yS [.str (nmR r),rD v] s=.ok .non s:=by
 have h1:=z6z r h s;have h2:=z2X h s;rw [he] at h2;have key:∀ d e:D,zG [d,e] s=.ok .non s->yF [e] s=.ok (.bl false) s->yS [d,e] s=.ok .non s:=fun d e a1 a2=>by simp [yS,Mof,z1w,zr,a1,a2]
 exact key _ _ h1 h2
def dfR:Rl->Str | .nx=>"by_next" | .le=>"by_least" | .al=>"by_all" | .tu=>"by_turn"
def MR:Rl->Mir | .nx=>vC | .le=>wM | .al=>uI | .tu=>vA
theorem zml{n:Nat}{v:List Int}(r:Rl)(h:Lot n v)(he:ended v=false)(s:Sto):MR r [rD v] s=.ok (z2Z (deal r v)) s:=by cases r with
 | nx=>exact zbd h s | le=>exact zb9 h he s | al=>exact zdr h s | tu=>exact zbO h s
theorem zl1(r:Rl):qJ.lookup (nmR r)=some (dfR r):=by cases r<;>decide
theorem zmv(r:Rl):([("by_next",vC),("by_least",wM),("by_all",uI),("by_turn",vA)]:List (Str×Mir)).lookup (dfR r)=some (MR r):=by
 cases r;·rfl
 ·rfl
 ·rfl
 ·rfl
theorem zkF(i:Nat)(l:List Nat)(s:Sto):z9d false (.int ((i:Nat):Int)) (.lst (nL l)) s=.ok (.bl (decide (i∈l))) s:=by
 have e:∀ l:List Nat,kq (nL l)=some (l.map fun j=>V.int ((j:Nat):Int)):=by
  intro l;induction l with
  | nil=>rfl | cons a l ih=>simp only [nL] at ih;simp [nL,kq,z34,ih]
 have e2:∀ l:List Nat,inV (.int ((i:Nat):Int)) (l.map fun j=>V.int ((j:Nat):Int))=decide (i∈l):=by
  intro l;induction l with
  | nil=>rfl | cons a l ih=>
   simp only [inV,List.map_cons,List.any_cons] at ih ⊢;rw [ih];by_cases q:i=a;·subst q;simp [eqV]
   ·have q':¬ ((a:Nat):Int)=i:=by omega
    simp [eqV,q,q']
 simp only [z9d,z34,zJ,Option.bind_some,e,e2];rfl
theorem z0W(x:List D)(s:Sto):yc [.lst x] s=.ok (.tup x) s:=by simp [yc,zJ]
theorem z54 {n m:Nat} {v:List Int} (r:Rl) (h:LotB n m v) (he:ended v=false) (hm:m<=1999) (s:Sto):xB [.str (nmR r),rD v] s=.ok (.tup [.int ((deal r v).1:Nat),.lst (iL (yA v (deal r v)))]) s:=by
 have dl:=qe r h.toLot he;have l4:=h.toLot.le4;have by_:=zml r h.toLot he s;have ixs:∀ i,i<v.length->dIx (rD v) (.int ((i:Nat):Int)) s=.ok (.int (v.getD i 0)) s:=fun i hi=>z5c s hi;have gl:yJ [rD v] s=.ok (.int v.length) s:=by simp [yJ,zJ]
 have key:∀ d e:D,e=.str (nmR r)->MR r [d] s=.ok (z2Z (deal r v)) s->yJ [d] s=.ok (.int v.length) s->(∀ i,i<v.length->dIx d (.int ((i:Nat):Int)) s=.ok (.int (v.getD i 0)) s)->xB [e,d] s=.ok (.tup [.int ((deal r v).1:Nat),.lst (iL (yA v (deal r v)))]) s:=fun d e he' h1 h2 h3=>by
  have st:zr ["rule","lot","deal","by","divided"] [e,d]=[some e,some d,none,none,none]:=rfl;simp only [xB,Mof,z3H,st,List.length_cons,List.length_nil,if_true];have lk:=zl1 r;have lm:=zmv r;rw [zi (Z':=[some e,some d,some (.fn (dfR r)),none,none]) (s':=s) (by
   generalize dfR r=y at *;simp [he',lk])];rw [zi (Z':=[some e,some d,some (.fn (dfR r)),some (.int ((deal r v).1:Nat)),some (.lst (nL (deal r v).2))]) (s':=s) (by
   rw [z21,zda,zdR];simp only [List.getElem?_cons_zero,List.getElem?_cons_succ];rw [lm];simp only [zB,zH,zO,List.getElem?_cons_zero,List.getElem?_cons_succ,R.bind_ok,h1,zbt,List.set_cons_succ,List.set_cons_zero])];have ir:qh (za (ze yJ (za (zc 1) zh)) zh) [some e,some d,some (.fn (dfR r)),some (.int ((deal r v).1:Nat)),some (.lst (nL (deal r v).2))] s=.ok ((List.range v.length).map fun i=>D.int ((i:Nat):Int),[]) s:=by
   rw [z9u (n:=v.length) (s1:=s) (by omega) (by simp [h2])];rfl
  have c:=comp_map (mp:=[some 4,some 1,some 3,none]) (fg:=yE 3) (fe:=eIf (tOf (eOp (z9d false) (zc 3) (zc 0))) (eOp z7L (eOp dIx (zc 1) (zc 3)) (eOp dIx (zc 1) (zc 2))) (eC (.int 0))) (fun i:Nat=>D.int ((i:Nat):Int)) (fun i:Nat=>D.int (if i∈(deal r v).2 then v.getD i 0 / v.getD (deal r v).1 0 else 0)) (fun i=>[some (.lst (nL (deal r v).2)),some d,some (.int ((deal r v).1:Nat)),some (.int (i:Nat))]) (List.range v.length) ir (fun a _=>by simp) (fun i hi=>by
    have hi':i<v.length:=by simpa using hi
    have i1:=zkF i (deal r v).2 s;have e1:=h3 i hi';have e2:=h3 _ dl.lt;simp only [ziE,um,yn,zO,z0v,List.getElem?_cons_zero,List.getElem?_cons_succ,R.bind_ok,i1,e1,e2];by_cases q:i∈(deal r v).2
    ·have p0:0<v.getD (deal r v).1 0:=by
      rcases dl.pos with z | z;·rw [z] at q;simp at q
      ·exact z
     have p1:v.getD (deal r v).1 0<2 ^ 2000:=Int.lt_of_lt_of_le (h.bd _ (Pm.getD_mem dl.lt)) (by
      have:(2:Nat) ^ m<=2 ^ 2000:=Nat.pow_le_pow_right (by decide) (by omega);have:=Int.ofNat_le.mpr this;simpa using this);have big:(v.getD (deal r v).1 0).natAbs<BIG:=Nat.lt_of_lt_of_le (h.abs _ (Pm.getD_mem dl.lt)) (Nat.pow_le_pow_right (by decide) (by omega));simp only [q,decide_true,if_true];rw [zce,if_pos ⟨p0,big⟩]
    ·simp only [q,decide_false,if_false];rfl) (by simp [cap];omega);simp only [z1H,yo,z0G,zB,c,R.bind_ok,zH,zO,List.getElem?_cons_zero,List.getElem?_cons_succ];rw [if_pos (by simp [cap])];simp [yA,Function.comp_def]
 exact key _ _ rfl by_ gl ixs
theorem eq_str{a b:Str}(ha:PyData.strOk a=true)(hb:PyData.strOk b=true)(s:Sto):dEq (.str a) (.str b) s=.ok (.bl (a==b)) s:=by simp [dEq,z8X,eqD,ua,PyData.eqv,SeqAt.shaped,PyData.canLay0,PyData.depth,ha,hb]
theorem zbM(r:Rl):PyData.strOk (nmR r)=true:=by cases r<;>decide +kernel
theorem zc4(r:Rl)(s:Sto):dEq (.str (nmR r)) (.str "turn") s=.ok (.bl (decide (r=.tu))) s:=by
 rw [eq_str (zbM r) (by decide +kernel)];congr 2;cases r<;>decide +kernel
theorem zbY(r:Rl)(xs:List D)(hl:xs.length<=4)(s:Sto):vH [.str (nmR r),.tup xs] s=.ok (.tup (mvd r xs)) s:=by
 have e1:=z3L xs 1 s;have e2:=z1l xs 1 s;have cp:(xs.drop 1).length+(xs.take 1).length<=cap:=by simp [cap];omega
 have key:∀ d e:D,d=.str (nmR r)->e=.tup xs->vH [d,e] s=.ok (.tup (mvd r xs)) s:=fun d e hd he=>by
  have st:zr ["rule","numbers"] [d,e]=[some d,some e]:=rfl;have t:tOf (eOp dEq (zc 0) (eC (.str "turn"))) [some d,some e] s=.ok (decide (r=.tu)) s:=by simp only [um,yn,zO,z0v,List.getElem?_cons_zero,R.bind_ok,hd,zc4]
  simp only [vH,Mof,za9,st,List.length_cons,List.length_nil,if_true,z76,yo,ziE,t,R.bind_ok];by_cases q:r=.tu
  ·simp only [q,decide_true,if_true];subst q;rw [z1X];simp only [yn,z5u,zO,vB,jS,z0v,List.getElem?_cons_zero,List.getElem?_cons_succ,R.bind_ok,he];rw [show (1:Int)=((1:Nat):Int) from rfl,e2,R.bind_ok,e1,R.bind_ok,z3K,if_pos cp];rfl
  ·simp only [q,decide_false];rw [z0F q];simp [he]
 exact key _ _ rfl rfl
theorem z5e{α β:Type}(f:α->D)(g:β->D):∀ (l:List α)(k:List β),z1f (l.map f) (k.map g)=(l.zip k).map fun p=>D.tup [f p.1,g p.2]
 | [],_=>by simp [z1f] | _::_,[]=>by simp [z1f] | a::l,b::k=>by simp [z1f,z5e f g l k]
theorem zcc{α β:Type}(r:Rl)(f:α->β)(xs:List α):mvd r (xs.map f)=(mvd r xs).map f:=by unfold mvd rot;split<;>simp [List.map_take,List.map_drop]
theorem LotB.q{n m:Nat}{v:List Int}(r:Rl)(h:LotB n m v)(he:ended v=false):Qs v (deal r v).1 (yA v (deal r v)):=zem h.nn (qe r h.toLot he)
theorem zjj{n m:Nat}{v:List Int}(r:Rl)(h:LotB n m v)(he:ended v=false):∀ q∈yA v (deal r v),0<=q/\q<2 ^ m:=fun q hq=>by
 have Q:=h.q r he;refine ⟨Q.nn q hq,?_⟩;obtain ⟨i,hi,rfl⟩:=List.mem_iff_getElem.mp hq;have hi':i<v.length:=by rw [<- Q.len];exact hi
 simp only [yA,List.getElem_map,List.getElem_range];have b:=h.bd _ (Pm.getD_mem hi');have n0:=vc h.nn i;split
 ·have:=Int.ediv_le_self (v.getD (deal r v).1 0) n0;omega
 ·omega
theorem zhE {n m:Nat} {v:List Int} (r:Rl) (h:LotB n m v) (he:ended v=false) (hm:m<=1999) (s:Sto):M_step [.str (nmR r),rD v] s=.ok (rD (stp r v)) s:=by
 have l4:=h.toLot.le4;have w:=z3i r h.toLot he s;have dv:=z54 r h he hm s;have Q:=h.q r he;have dl:=qe r h.toLot he;have ix:dIx (rD v) (.int ((deal r v).1:Nat)) s=.ok (.int (v.getD (deal r v).1 0)) s:=z5c s dl.lt;have mo:=zbY r (iL (left v (yA v (deal r v)) (deal r v).1)) (by simp [vz Q.len];omega) s;have key:∀ d e:D,e=rD v->yS [d,e] s=.ok .non s->xB [d,e] s=.ok (.tup [.int ((deal r v).1:Nat),.lst (iL (yA v (deal r v)))]) s->vH [d,.tup (iL (left v (yA v (deal r v)) (deal r v).1))] s=.ok (.tup (mvd r (iL (left v (yA v (deal r v)) (deal r v).1)))) s-> M_step [d,e] s=.ok (rD (stp r v)) s:=fun d e hd h1 h2 h3=>by
  have st:zr ["rule","lot","by","quotients","left"] [d,e]=[some d,some e,none,none,none]:=rfl;have ixe:dIx e (.int ((deal r v).1:Nat)) s=.ok (.int (v.getD (deal r v).1 0)) s:=by rw [hd];exact ix
  simp only [M_step,Mof,zcX,st,List.length_cons,List.length_nil,if_true];rw [zi (Z':=[some d,some e,none,none,none]) (s':=s) (by simp [h1])];rw [zi (Z':=[some d,some e,some (.int ((deal r v).1:Nat)),some (.lst (iL (yA v (deal r v)))),none]) (s':=s) (by simp [h2])];have ir:z86 (za (zc 1) (za (zc 3) zh)) [some d,some e,some (.int ((deal r v).1:Nat)),some (.lst (iL (yA v (deal r v)))),none] s=.ok ((v.zip (yA v (deal r v))).map fun p=>D.tup [.int p.1,.int p.2],[]) s:=by simp only [zcL,zB,zH,zO,List.getElem?_cons_zero,List.getElem?_cons_succ,R.bind_ok,hd,z46,z5e,List.append_nil]
  have c:=comp_map (mp:=[some 1,some 2,none,none]) (fg:=wf 2 3) (fe:=eOp zd6 (zc 2) (eOp va (zc 3) (eOp dIx (zc 0) (zc 1)))) (fun p:Int×Int=>D.tup [.int p.1,.int p.2]) (fun p:Int×Int=>D.int (p.1-p.2*v.getD (deal r v).1 0)) (fun p=>[some e,some (.int ((deal r v).1:Nat)),some (.int p.1),some (.int p.2)]) _ ir (fun p _=>by simp) (fun p hp=>by
    have hq:=zjj r h he p.2 (List.of_mem_zip hp).2;have ab:p.2.natAbs<2 ^ m:=by
     have e1:((p.2.natAbs:Nat):Int)=p.2:=Int.natAbs_of_nonneg hq.1;have:((p.2.natAbs:Nat):Int)<((2 ^ m:Nat):Int):=by rw [e1];simpa using hq.2
     omega
    have mu:=zbi (a:=p.2) (b:=v.getD (deal r v).1 0) s ab (by omega) (h.abs _ (Pm.getD_mem dl.lt)) (by omega);simp only [yn,zO,List.getElem?_cons_zero,List.getElem?_cons_succ,R.bind_ok,ixe,mu,zir]) (by simp [cap];omega);have el:(v.zip (yA v (deal r v))).map (fun p:Int×Int=>D.int (p.1-p.2*v.getD (deal r v).1 0))=iL (left v (yA v (deal r v)) (deal r v).1):=by
   unfold left;show _=List.map D.int _;rw [List.zip,List.map_zipWith,List.map_zipWith]
  rw [el] at c;rw [zi (Z':=[some d,some e,some (.int ((deal r v).1:Nat)),some (.lst (iL (yA v (deal r v)))),some (.tup (iL (left v (yA v (deal r v)) (deal r v).1)))]) (s':=s) (by
   rw [z9v,zV,ye,zB,c];simp only [R.bind_ok,zH,z0W,List.set_cons_succ,List.set_cons_zero])];simp only [z9W,yo,ye,zB,zH,zO,List.getElem?_cons_zero,List.getElem?_cons_succ,R.bind_ok,h3];rw [zcc];rfl
 exact key _ _ rfl w dv mo
theorem wz{M:Mir}{f:FE}{Z:Ev}{s:Sto}{x:D}(h:f Z s=.ok x s):ze M (za f zh) Z s=M [x] s:=by simp only [ye,zB,zH,h,R.bind_ok]
theorem call2{M:Mir}{f g:FE}{Z:Ev}{s:Sto}{x y:D}(h:f Z s=.ok x s)(h2:g Z s=.ok y s):ze M (za f (za g zh)) Z s=M [x,y] s:=by simp only [ye,zB,zH,h,h2,R.bind_ok]
theorem zi5{M:Mir}{f g k:FE}{Z:Ev}{s:Sto}{x y z:D}(h:f Z s=.ok x s)(h2:g Z s=.ok y s)(h3:k Z s=.ok z s):ze M (za f (za g (za k zh))) Z s=M [x,y,z] s:=by simp only [ye,zB,zH,h,h2,h3,R.bind_ok]
theorem op2{o:D->D->Sto->R D}{f g:FE}{Z:Ev}{s:Sto}{x y:D}(h:f Z s=.ok x s)(h2:g Z s=.ok y s):eOp o f g Z s=o x y s:=by simp only [yn,h,h2,R.bind_ok]
theorem z0Y {n:Nat} (hn:n<=4) (s:Sto):yB [.int ((n:Nat):Int)] s=.ok (tD (one n)) s:=by
 have st:zr ["size","places"] [.int ((n:Nat):Int)]=[some (.int ((n:Nat):Int)),none]:=rfl;simp only [yB,Mof,z06,st,List.length_cons,List.length_nil,if_true];rw [zi (Z':=[some (.int ((n:Nat):Int)),some (.lst (yK n))]) (s':=s) (by
  have hc:(0:Int)<=n/\(n:Int)<=1000:=by omega
  simp only [ke,zV,zlw,zB,zH,zO,List.getElem?_cons_zero,R.bind_ok,if_pos hc,Int.toNat_natCast];rfl)];have inner:∀ i:Nat,zA (yx (zc 0)) [some 1,none] (yE 1) zX (eIf (tOf (eOp dEq (zc 0) (zc 1))) (eC (.int 1)) (eC (.int 0))) [some (.lst (yK n)),some (.int ((i:Nat):Int))] s=.ok (.lst (iL ((List.range n).map fun j=>if i=j then 1 else 0))) s:=fun i=>by
  rw [comp_map (fun k:Nat=>D.int (k:Int)) (fun j:Nat=>D.int (if i=j then 1 else 0)) (fun j=>[some (.int ((i:Nat):Int)),some (.int ((j:Nat):Int))]) (List.range n) (kI (by simp [yK])) (fun a _=>by simp) (fun j _=>by
   by_cases q:i=j;·subst q;simp
   ·have:¬ ((i:Nat):Int)=j:=by omega
    simp [q,this]) (by simp [cap];omega)];simp [Function.comp_def]
 have outer:=comp_map (fi:=yx (zc 1)) (mp:=[some 1,none]) (fg:=yE 1) (fe:=ze yc (za (zA (yx (zc 0)) [some 1,none] (yE 1) zX (eIf (tOf (eOp dEq (zc 0) (zc 1))) (eC (.int 1)) (eC (.int 0)))) zh)) (Z:=[some (.int ((n:Nat):Int)),some (.lst (yK n))]) (s:=s) (fun k:Nat=>D.int (k:Int)) (fun i:Nat=>rD ((List.range n).map fun j=>if i=j then 1 else 0)) (fun i=>[some (.lst (yK n)),some (.int ((i:Nat):Int))]) (List.range n) (kI (by simp [yK])) (fun a _=>by simp) (fun i _=>by
   rw [ye,zB,inner i];simp only [R.bind_ok,zH,z0W]) (by simp [cap];omega);simp only [jI,yo];rw [ye,zB,outer];simp only [R.bind_ok,zH,z0W];simp [one,Function.comp_def]
theorem z3F{x d:D}{xs:List D}{s:Sto}(h:zJ s x=some (xs++[d])):dIx x (.int (-1)) s=.ok d s:=by
 have e:ixN (xs++[d]).length (-1)=some xs.length:=by
  unfold ixN;rw [if_neg (by omega),if_pos (by simp;omega)];congr 1;simp;omega
 simp only [dIx,h,atI,e,Option.bind_some];simp
theorem zdo(xs:List D)(d:D):Dd.cutD (xs++[d]) none (some (-1))=xs:=by
 have e1:HT.sIx (xs++[d]).length (xs++[d]).length (some (-1))=xs.length:=by
  unfold HT.sIx;simp only;rw [if_pos (by omega)];simp;omega
 unfold Dd.cutD;rw [e1];simp [HT.sIx]
theorem z80 {n m:Nat} {v:List Int} (r:Rl) (h:LotB n m v) (he:ended v=false) (hm:m<=1999) (s:Sto):xP [.str (nmR r),rD v] s=.ok (tD (uL r v)) s:=by
 have l4:=h.toLot.le4;have w:=z3i r h.toLot he s;have dv:=z54 r h he hm s;have Q:=h.q r he;have dl:=qe r h.toLot he;have lpl:=z0Y (n:=v.length) l4.1 s;have gl:yJ [rD v] s=.ok (.int v.length) s:=by simp [yJ,zJ]
 have mo:∀ xs:List D,xs.length<=4->vH [.str (nmR r),.tup xs] s=.ok (.tup (mvd r xs)) s:=fun xs hx=>zbY r xs hx s;have key:∀ d e:D,yJ [e] s=.ok (.int v.length) s->yS [d,e] s=.ok .non s->xB [d,e] s=.ok (.tup [.int ((deal r v).1:Nat),.lst (iL (yA v (deal r v)))]) s->(∀ xs:List D,xs.length<=4->vH [d,.tup xs] s=.ok (.tup (mvd r xs)) s)-> xP [d,e] s=.ok (tD (uL r v)) s:=fun d e h0 h1 h2 h3=>by
  have st:zr ["rule","lot","by","quotients"] [d,e]=[some d,some e,none,none]:=rfl;simp only [xP,Mof,z0E,st,List.length_cons,List.length_nil,if_true];rw [zi (Z':=[some d,some e,none,none]) (s':=s) (by simp [h1])];rw [zi (Z':=[some d,some e,some (.int ((deal r v).1:Nat)),some (.lst (iL (yA v (deal r v))))]) (s':=s) (by simp [h2])];have ir:z86 (za (ze yB (za (ze yJ (za (zc 1) zh)) zh)) (za (zc 3) zh)) [some d,some e,some (.int ((deal r v).1:Nat)),some (.lst (iL (yA v (deal r v))))] s=.ok (((one v.length).zip (yA v (deal r v))).map fun p=>D.tup [rD p.1,.int p.2],[]) s:=by simp only [zcL,zB,zH,zO,ye,List.getElem?_cons_zero,List.getElem?_cons_succ,R.bind_ok,h0,lpl,z46,z5e,List.append_nil]
  have c:=comp_map (mp:=[some 0,some 2,none,none]) (fg:=wf 2 3) (fe:=ze vH (za (zc 0) (za (eOp wS (eOp wS (eSl (zc 2) yd (wF (zc 1))) (uA (za (eOp wS (eOp dIx (zc 2) (zc 1)) (zc 3)) zh))) (eSl (zc 2) (wF (eOp wS (zc 1) (eC (.int 1)))) yd)) zh))) (fun p:List Int×Int=>D.tup [rD p.1,.int p.2]) (fun p:List Int×Int=>rD (mvd r (yL (deal r v).1 p.1 p.2))) (fun p=>[some d,some (.int ((deal r v).1:Nat)),some (rD p.1),some (.int p.2)]) _ ir (fun p _=>by simp) (fun p hp=>by
    have hl:p.1.length=v.length:=(z8H v.length).row p.1 (List.of_mem_zip hp).1;have hb:(deal r v).1<p.1.length:=by rw [hl];exact dl.lt
    have e1:=z3L (iL p.1) (deal r v).1 s;have e2:=z1l (iL p.1) ((deal r v).1+1) s;have e3:=z5c (r:=p.1) (j:=(deal r v).1) s hb;rw [show ((((deal r v).1+1:Nat):Int))=(((deal r v).1:Nat):Int)+1 from rfl] at e2;generalize (deal r v).1=b at *;have f1:eSl (zc 2) yd (wF (zc 1)) [some d,some (.int ((b:Nat):Int)),some (rD p.1),some (.int p.2)] s=.ok (.tup ((iL p.1).take b)) s:=by simp only [z5u,zO,vB,jS,List.getElem?_cons_zero,List.getElem?_cons_succ,R.bind_ok];exact e1
    have f2:eSl (zc 2) (wF (eOp wS (zc 1) (eC (.int 1)))) yd [some d,some (.int ((b:Nat):Int)),some (rD p.1),some (.int p.2)] s=.ok (.tup ((iL p.1).drop (b+1))) s:=by simp only [z5u,yn,z0v,zbj,zO,vB,jS,List.getElem?_cons_zero,List.getElem?_cons_succ,R.bind_ok];exact e2
    have f3:uA (za (eOp wS (eOp dIx (zc 2) (zc 1)) (zc 3)) zh) [some d,some (.int ((b:Nat):Int)),some (rD p.1),some (.int p.2)] s=.ok (.tup [.int (p.1.getD b 0+p.2)]) s:=by
     simp only [z0G,zB,zH,yn,zO,List.getElem?_cons_zero,List.getElem?_cons_succ,R.bind_ok,e3,zbj];rw [if_pos (by simp [cap])]
    have f4:eOp wS (eOp wS (eSl (zc 2) yd (wF (zc 1))) (uA (za (eOp wS (eOp dIx (zc 2) (zc 1)) (zc 3)) zh))) (eSl (zc 2) (wF (eOp wS (zc 1) (eC (.int 1)))) yd) [some d,some (.int ((b:Nat):Int)),some (rD p.1),some (.int p.2)] s=.ok (.tup (iL (yL b p.1 p.2))) s:=by
     rw [yn,yn,f1,R.bind_ok,f3,R.bind_ok,z3K,if_pos (by simp [cap];omega),R.bind_ok,f2,R.bind_ok,z3K,if_pos (by simp [cap];omega)];simp [yL,List.map_take,List.map_drop]
    rw [call2 (x:=d) (by simp) f4,h3 _ (by simp [yL];omega),zcc]) (by simp [cap,one];omega);simp only [z07,yo];rw [ye,zB,c];simp only [R.bind_ok,zH,z0W];unfold uL z45;rw [xa];simp only [tD];rw [List.map_zipWith,List.zip,List.map_zipWith]
 exact key _ _ gl w dv mo
theorem _root_.Pg.LotB.step{n m:Nat}{v:List Int}(r:Rl)(h:LotB n m v)(he:ended v=false):LotB n m (stp r v):=by
 refine ⟨h.toLot.step r he,fun x hx=>?_⟩;have:=zis (B:=2 ^ m-1) r h.toLot he (fun y hy=>by have:=h.bd y hy;omega) x hx;omega
theorem zes {n m:Nat} {r:Rl} {d e:D} (hd:d=.str (nmR r)) (hm:m<=1999) (s:Sto) {c:List Int} {ls:List (List Int)} (Rn:Run r c ls):∀ (pre:List (List Int)),LotB n m c->pre.length+ls.length<=50000-> ug (z40 (tOf (ze yF (za (eOp dIx (zc 2) (z5X (eC (.int 1)))) zh)))) z5V (ls.length+1) [some d,some e,some (.loc s.length)] (s++[(pre++[c]).map rD])=.ok (.nx [some d,some e,some (.loc s.length)]) (s++[(pre++ls).map rD]):=by
 have tst:∀ (pre:List (List Int)) (c:List Int),LotB n m c->z40 (tOf (ze yF (za (eOp dIx (zc 2) (z5X (eC (.int 1)))) zh))) [some d,some e,some (.loc s.length)] (s++[(pre++[c]).map rD])=.ok (!ended c) (s++[(pre++[c]).map rD]):=fun pre c h=>by
  have ix:=z3F (x:=.loc s.length) (d:=rD c) (xs:=pre.map rD) (s:=s++[(pre++[c]).map rD]) (by simp [zJ]);have hE:=z2X h.toLot (s++[(pre++[c]).map rD]);generalize (s++[(pre++[c]).map rD])=S at *;simp only [z4Y,um,ye,zB,zH,yn,zO,zcy,z0v,List.getElem?_cons_zero,List.getElem?_cons_succ,R.bind_ok];rw [ix];simp only [R.bind_ok];rw [hE];simp only [R.bind_ok]
 induction Rn with
 | @done v hend=>
  intro pre h hl;rw [ug,tst pre v h,hend];rfl | @step v ls hend Rn ih=>
  intro pre h hl;have ih:=ih (pre++[v]) (h.step r hend) (by simp at hl ⊢;omega);rw [List.length_cons,ug,tst pre v h,hend,R.bind_ok,if_pos (by rfl)];have stp':=zhE r h hend hm (s++[(pre++[v]).map rD]);rw [<- hd] at stp';have ix:=z3F (x:=.loc s.length) (d:=rD v) (xs:=pre.map rD) (s:=s++[(pre++[v]).map rD]) (by simp [zJ]);have body:z5V [some d,some e,some (.loc s.length)] (s++[(pre++[v]).map rD])=.ok (.nx [some d,some e,some (.loc s.length)]) (s++[(pre++[v]++[stp r v]).map rD]):=by
   have gt:(s++[(pre++[v]).map rD])[s.length]? = some ((pre++[v]).map rD):=by simp
   have st2:(s++[(pre++[v]).map rD]).set s.length ((pre++[v]).map rD++[rD (stp r v)])=s++[(pre++[v]++[stp r v]).map rD]:=by rw [List.set_append_right _ _ (by omega)];simp
   have fl:(rD (stp r v)).flat=true:=yy _;have ln:((pre++[v]).map rD).length<cap:=by simp [cap] at hl ⊢;omega
   generalize (s++[(pre++[v]).map rD])=S at *;simp only [z5V,qK,z3p,ye,zB,zH,yn,zO,zcy,z0v,List.getElem?_cons_zero,List.getElem?_cons_succ,R.bind_ok];rw [ix];simp only [R.bind_ok];rw [stp'];simp only [R.bind_ok];rw [gt];simp only;rw [if_pos ⟨fl,ln⟩,st2];rfl
  rw [body,R.bind_ok];simp only;rw [ih];simp
theorem zlo {n m:Nat} {v:List Int} {ls:List (List Int)} (r:Rl) (h:LotB n m v) (Rn:Run r v ls) (hm:m<=1999) (hl:ls.length<=50000) (s:Sto):zeu [.str (nmR r),rD v] s=.ok (.loc s.length) (s++[ls.map rD]):=by
 have w:=z6z r h.toLot s;have fl:(rD v).flat=true:=yy _;have key:∀ d e:D,d=.str (nmR r)->e=rD v->zeu [d,e] s=.ok (.loc s.length) (s++[ls.map rD]):=fun d e hd he=>by
  have st:zr ["rule","lot","lots"] [d,e]=[some d,some e,none]:=rfl;have w':zG [d,e] s=.ok .non s:=by rw [hd,he];exact w
  have fe:e.flat=true:=by rw [he];exact fl
  simp only [zeu,Mof,zfF,st,List.length_cons,List.length_nil,if_true];rw [zi (Z':=[some d,some e,none]) (s':=s) (by simp [w'])];rw [zi (Z':=[some d,some e,some (.loc s.length)]) (s':=s++[[e]]) (by
   simp only [z8m,zV,z1J,zB,zH,zO,List.getElem?_cons_succ,List.getElem?_cons_zero,R.bind_ok];rw [if_pos ⟨by simp [cap],by simp [D.flat.flats,fe]⟩];rfl)];have lp:=zes (e:=e) hd hm s Rn [] h (by simpa using hl);rw [List.nil_append,List.nil_append] at lp;rw [show ([v]:List (List Int)).map rD=[e] from by rw [he];rfl] at lp;rw [zi (Z':=[some d,some e,some (.loc s.length)]) (s':=s++[ls.map rD]) (by rw [z8V];exact zaa lp (by simp))];simp
 exact key _ _ rfl rfl
theorem z7o{n m:Nat}{r:Rl}{v:List Int}{ls:List (List Int)}(h:LotB n m v)(Rn:Run r v ls):∀ a∈ls.dropLast,LotB n m a/\ended a=false:=by induction Rn with
 | done e=>simp | step e R2 ih=>
  intro a ha;rw [List.dropLast_cons_of_ne_nil R2.ne] at ha;rcases List.mem_cons.mp ha with rfl | ha;·exact ⟨h,e⟩
  ·exact ih (h.step r e) a ha
theorem zhQ {n m : Nat} {B : Int} {P : Tb} {c x : List Int} (I : PI n B P c x) (hB : B < 2 ^ m) : Bd m P := fun row hr y hy => by
  have := I.nn row hr y hy;have e1 : ((y.natAbs : Nat) : Int) = y := Int.natAbs_of_nonneg this.1
  have : ((y.natAbs : Nat) : Int) < ((2 ^ m : Nat) : Int) := by rw [e1]; have e2 : ((2 ^ m : Nat) : Int) = 2 ^ m := by simp
                                                                rw [e2]; omega
  omega
theorem zbZ{n m:Nat}{v:List Int}(r:Rl)(h:LotB n m v)(he:ended v=false):Bd m (uL r v):=fun row hr y hy=>by
 have:=zgW (B:=2 ^ m-1) r h.toLot he (fun y hy=>by have:=h.bd y hy;omega) row hr y hy;have e1:((y.natAbs:Nat):Int)=y:=Int.natAbs_of_nonneg this.1;have e2:((2 ^ m:Nat):Int)=2 ^ m:=by simp
 have:((y.natAbs:Nat):Int)<((2 ^ m:Nat):Int):=by rw [e1,e2];omega
 omega
def z0e:Tb->List Tb->List Tb
 | P,[]=>[P] | P,T::ts=>P::z0e (z0w P T) ts
theorem z4Z:∀ (ts:List Tb)(P:Tb),(z0e P ts).getLast? = some (ts.foldl z0w P)
 | [],P=>rfl | T::ts,P=>by rw [z0e,List.getLast?_cons,z4Z ts];rfl
theorem zab(T:Tb):(tD T).flat=true:=by
 show D.flat.flats (T.map rD)=true;induction T with
 | nil=>rfl | cons r T ih=>simp only [List.map_cons,D.flat.flats,ih,Bool.and_true];exact yy r
theorem zcw {n m:Nat} {r:Rl} {x:List Int} {B:Int} (d t:D) (hn:Sz n) (hB:B<2 ^ m) (hm:m<=1999) (hx:∀ y∈x,y<=B) (s:Sto) {c:List Int} {ls:List (List Int)} (Rn:Run r c ls):∀ (P:Tb) (pre:List Tb) (all:List D) (z:Option D),LotB n m c->PI n B P c x->pre.length+ls.length<=50000-> ∃ z',yZ [] all (fun d Z s=>(yE 3 d Z s).bind fun Z' s'=>yX Z' s') ((zm r ls).map tD) [some d,some t,some (.loc s.length),z] (s++[(pre++[P]).map tD])=.ok (.nx [some d,some t,some (.loc s.length),z']) (s++[(pre++z0e P (zm r ls)).map tD]):=by induction Rn with
 | done he=>intro P pre all z h I hl;exact ⟨z,by simp [zm,yZ,okG,z0e]⟩ | @step v ls he R2 ih=>
  intro P pre all z h I hl;have tb:=z0J r h.toLot he;have mm:=z6N (s++[(pre++[P]).map tD]) hn I.tab tb (zhQ I hB) (zbZ r h he) (by omega) (by omega);obtain ⟨z',ih⟩:=ih (z0w P (uL r v)) (pre++[P]) all (some (tD (uL r v))) (h.step r he) (I.step r hx h.toLot he) (by simp at hl ⊢;omega);refine ⟨z',?_⟩;have ix:=z3F (x:=.loc s.length) (d:=tD P) (xs:=pre.map tD) (s:=s++[(pre++[P]).map tD]) (by simp [zJ]);have body:yX [some d,some t,some (.loc s.length),some (tD (uL r v))] (s++[(pre++[P]).map tD])=.ok (.nx [some d,some t,some (.loc s.length),some (tD (uL r v))]) (s++[(pre++[P]++[z0w P (uL r v)]).map tD]):=by
   have gt:(s++[(pre++[P]).map tD])[s.length]? = some ((pre++[P]).map tD):=by simp
   have st2:(s++[(pre++[P]).map tD]).set s.length ((pre++[P]).map tD++[tD (z0w P (uL r v))])=s++[(pre++[P]++[z0w P (uL r v)]).map tD]:=by rw [List.set_append_right _ _ (by omega)];simp
   have fl:=zab (z0w P (uL r v));have ln:((pre++[P]).map tD).length<cap:=by simp [cap] at hl ⊢;omega
   generalize (s++[(pre++[P]).map tD])=S at *;have ee:eOp dIx (zc 2) (z5X (eC (.int 1))) [some d,some t,some (.loc s.length),some (tD (uL r v))] S=.ok (tD P) S:=by rw [op2 (x:=.loc s.length) (y:=.int (-1)) (by simp) (by simp)];exact ix
   have cc:ze xS (za (eOp dIx (zc 2) (z5X (eC (.int 1)))) (za (zc 3) zh)) [some d,some t,some (.loc s.length),some (tD (uL r v))] S=.ok (tD (z0w P (uL r v))) S:=by rw [call2 ee (y:=tD (uL r v)) (by simp)];exact mm
   rw [yX,qK,z3p];simp only [zO,List.getElem?_cons_zero,List.getElem?_cons_succ,R.bind_ok];rw [cc];simp only [R.bind_ok];rw [gt];simp only;rw [if_pos ⟨fl,ln⟩,st2];rfl
  rw [R2.tabs_cons,List.map_cons,yZ,if_pos (by intro p hp;simp at hp),z0b,R.bind_ok];simp only [List.set_cons_succ,List.set_cons_zero];rw [body,R.bind_ok];simp only;rw [ih,z0e];simp
theorem zc3 {n m:Nat} {v:List Int} {ls:List (List Int)} (r:Rl) (h:LotB n m v) (Rn:Run r v ls) (hm:m<=1999) (hl:ls.length<=50000) (s:Sto):xK [.int n,.lst ((zm r ls).map tD)] s=.ok (.loc s.length) (s++[(z0e (one n) (zm r ls)).map tD]):=by
 have lpl:=z0Y (n:=n) (by have:=h.sz;omega) s;have key:∀ d t:D,d=.int n->t=.lst ((zm r ls).map tD)->xK [d,t] s=.ok (.loc s.length) (s++[(z0e (one n) (zm r ls)).map tD]):=fun d t hd ht=>by
  have st:zr ["size","tables","products","table"] [d,t]=[some d,some t,none,none]:=rfl;simp only [xK,Mof,ur,st,List.length_cons,List.length_nil,if_true];rw [zi (Z':=[some d,some t,some (.loc s.length),none]) (s':=s++[[tD (one n)]]) (by
   have c2:ze yB (za (zc 0) zh) [some d,some t,none,none] s=.ok (tD (one n)) s:=by rw [wz (x:=d) (by simp),hd];exact lpl
   have fl:=zab (one n);rw [wg,zV,z1J,zB,c2];generalize tD (one n)=o at *;simp only [R.bind_ok,zH];rw [if_pos ⟨by simp [cap],by simp [D.flat.flats,fl]⟩];rfl)];obtain ⟨z',lp⟩:=zcw d t h.sz (B:=2 ^ m-1) (m:=m) (x:=v) (by omega) hm (fun y hy=>by have:=h.bd y hy;omega) s Rn (one n) [] ((zm r ls).map tD) none h (PI.start h.toLot fun y hy=>by have:=h.bd y hy;omega) (by simpa using hl);rw [zi (Z':=[some d,some t,some (.loc s.length),z']) (s':=s++[(z0e (one n) (zm r ls)).map tD]) (by
   rw [wk,z05,kI (xs:=(zm r ls).map tD) (by simp [ht]),R.bind_ok];exact lp)];simp
 exact key _ _ rfl rfl
theorem zcn{i:Int}(h0:0<=i)(h:i<2 ^ 2000):i.natAbs<BIG:=by
 have e:(i.natAbs:Int)=i:=Int.natAbs_of_nonneg h0;have k:(2:Int) ^ 2000<=((BIG:Nat):Int):=by decide +kernel
 exact Int.ofNat_lt.mp (Int.lt_of_lt_of_le (by rw [e];exact h) k)
theorem kj{a b:Int}(s:Sto)(ha:0<=a)(ha':a<2 ^ 2000)(hb:0<=b)(hb':b<2 ^ 2000):va (.int a) (.int b) s=.ok (.int (a*b)) s:=by rw [zf7,if_pos ⟨zcn ha ha',zcn hb hb'⟩]
theorem zd5{a b:Int}(s:Sto)(hb:0<b)(hb':b<2 ^ 2000):z7L (.int a) (.int b) s=.ok (.int (a / b)) s:=by rw [zce,if_pos ⟨hb,zcn (by omega) hb'⟩]
theorem zjf(ns:List Int)(k:Nat)(s:Sto):∃ c,xy [.scr (iL ns),.int k] s=.ok (.int c) s:=by
 by_cases h:k<ns.length
 ·have hk:(k:Int)<ns.length:=by omega
  refine ⟨ns[k],?_⟩;have e:ixN (iL ns).length (k:Int)=some k:=by
   unfold ixN;rw [if_pos (by omega),if_pos (by simpa using hk)];simp
  have ix:dIx (.scr (iL ns)) (.int k) s=.ok (.int ns[k]) s:=by
   simp only [dIx,zJ,atI,e,Option.bind_some];simp [h]
  simp only [iL] at ix;simp [xy,Mof,ux,zr,yJ,zJ,hk,ix]
 ·have hk:¬ (k:Int)<ns.length:=by omega
  exact ⟨0,by simp [xy,Mof,ux,zr,yJ,zJ,hk]⟩
def Pot(s:Sto)(l:Nat):Prop:=∃ p:Int,s[l]? = some [.int p]
theorem Pot.lt{s:Sto}{l:Nat}(h:Pot s l):l<s.length:=by
 obtain ⟨p,e⟩:=h;exact (List.getElem?_eq_some_iff.mp e).1
theorem Pot.app{s:Sto}{l:Nat}(h:Pot s l)(t:Sto):Pot (s++t) l:=by
 obtain ⟨p,e⟩:=h;exact ⟨p,by rw [List.getElem?_append_left (List.getElem?_eq_some_iff.mp e).1];exact e⟩
structure vL(s s':Sto)(l:Nat):Prop where
 pot:Pot s' l
 len:s'.length=s.length
 oth:∀ m,m≠l->s'[m]? = s[m]?
theorem zia{s:Sto}{l:Nat}{far:Int}(h:Pot s l)(h0:0<far)(h1:far<2 ^ 2000):∃ r s',zp [.loc l,.int far] s=.ok (.int r) s'/\0<=r/\r<far/\vL s s' l:=by
 obtain ⟨p,e⟩:=h;have hl:l<s.length:=(List.getElem?_eq_some_iff.mp e).1;refine ⟨p % far,s.set l [.int (p / far)],?_,Int.emod_nonneg _ (by omega),Int.emod_lt_of_pos _ h0,⟨p / far,by rw [List.getElem?_set_self hl]⟩,by simp,fun m hm=>List.getElem?_set_ne (Ne.symm hm)⟩;have ix:dIx (.loc l) (.int 0) s=.ok (.int p) s:=by simp [dIx,zJ,e,atI,ixN]
 simp [zp,Mof,z24,zr,ix,z9e s h0,zd5 s h0 h1,e,ixN,z0O,List.replicate]
theorem zhT(s:Sto):z9H (.int 10) (.int 18) s=.ok (.int 1000000000000000000) s:=by rw [zbh];rfl
theorem zme(s:Sto):z9H (.int 10) (.int 6) s=.ok (.int 1000000) s:=by rw [zbh];rfl
theorem pow_step{m r j:Nat}(h:m<2147483648 ^ j)(hr:r<2147483587):m*2147483587+r<2147483648 ^ (j+1):=by
 rw [Nat.pow_succ];generalize 2147483648 ^ j=B at h;omega
theorem zjr{m j:Nat}(h:m<2147483648 ^ j)(hj:j<=64):((m:Nat):Int)<2 ^ 2000:=by
 have h1:2147483648 ^ j<=2147483648 ^ 64:=Nat.pow_le_pow_right (by decide) hj;have h2:2147483648 ^ 64<=2 ^ 2000:=by decide +kernel
 have h3:m<2 ^ 2000:=Nat.lt_of_lt_of_le h (Nat.le_trans h1 h2);have h4:((2 ^ 2000:Nat):Int)=2 ^ 2000:=by decide +kernel
 rw [<- h4];exact Int.ofNat_lt.mpr h3
theorem zk6 (c:Int) (s:Sto):∃ p:Int,vV [.int c] s=.ok (.loc s.length) (s++[[.int p]]):=by
 by_cases h:1000000000000000000<=c;·exact ⟨c-1000000000000000000,by simp [vV,Mof,z0g,zr,zhT,h,D.flat.flats,z0O,cap,List.replicate]⟩
 ·have lp:∃ Z' s',z1M [some (.int c),some (.int 0),none,none] s=.ok (.nx Z') s'/\∃ (m:Nat) (a b:Option D),Z'=[some (.int c),some (.int m),a,b]/\s'=s:=by
   obtain ⟨Z',s',e,m,a,b,e1,e2,_⟩:=z9V (all:=yK 64) (body:=fun d Z s=>(yE 2 d Z s).bind fun Z' s'=>(zE z1L (zE z1Z z1z)) Z' s') (fun j Z s'=>∃ (m:Nat) (a b:Option D),Z=[some (.int c),some (.int m),a,b]/\s'=s/\m<2147483648 ^ j) (yK 64) 0 (fun j x hx Z s' hi=>by
    obtain ⟨m,a,b,rfl,rfl,hm⟩:=hi;obtain ⟨hj,rfl⟩:=z7m hx;rw [Nat.zero_add] at hm;have r0:=Int.emod_nonneg c (show (2147483629:Int)≠0 by decide);have r1:=Int.emod_lt_of_pos c (show (0:Int)<2147483629 by decide);have a1:zc0 (.int c) (.int 2147483629) s'=.ok (.int (c % 2147483629)) s':=z9e s' (by decide);have a2:va (.int 7919) (.int j) s'=.ok (.int (7919*j)) s':=kj s' (by decide) (by decide +kernel) (by omega) (by omega);have a3:va (.int (c % 2147483629+7919*j+1)) (.int 48271) s'=.ok (.int ((c % 2147483629+7919*j+1)*48271)) s':=kj s' (by omega) (by omega) (by decide) (by decide +kernel);generalize hx1:(c % 2147483629+7919*(j:Int)+1)*48271 % 2147483647=x1;have b0:0<=x1:=by rw [<- hx1];exact Int.emod_nonneg _ (by decide)
    have b1:x1<2147483647:=by rw [<- hx1];exact Int.emod_lt_of_pos _ (by decide)
    have a4:zc0 (.int ((c % 2147483629+7919*j+1)*48271)) (.int 2147483647) s'=.ok (.int x1) s':=by rw [<- hx1];exact z9e s' (by decide)
    have a5:va (.int x1) (.int x1) s'=.ok (.int (x1*x1)) s':=kj s' b0 (by omega) b0 (by omega);have a6:va (.int 69621) (.int j) s'=.ok (.int (69621*j)) s':=kj s' (by decide) (by decide +kernel) (by omega) (by omega);generalize hx2:(x1*x1+69621*(j:Int)+7) % 2147483587=x2;have c0:0<=x2:=by rw [<- hx2];exact Int.emod_nonneg _ (by decide)
    have c1:x2<2147483587:=by rw [<- hx2];exact Int.emod_lt_of_pos _ (by decide)
    have a7:zc0 (.int (x1*x1+69621*j+7)) (.int 2147483587) s'=.ok (.int x2) s':=by rw [<- hx2];exact z9e s' (by decide)
    have a8:va (.int m) (.int 2147483587) s'=.ok (.int (m*2147483587)) s':=kj s' (by omega) (zjr hm (by omega)) (by decide) (by decide +kernel);obtain ⟨y,rfl⟩:=Int.eq_ofNat_of_zero_le c0;refine ⟨[some (.int c),some (.int ((m*2147483587+y:Nat):Int)),some (.int j),some (.int y)],s',?_,m*2147483587+y,_,_,rfl,rfl,?_⟩;·simp [a1,a2,a3,a4,a5,a6,a7,a8]
    ·rw [Nat.zero_add];exact pow_step hm (by omega)) [some (.int c),some (.int 0),none,none] s ⟨0,none,none,rfl,rfl,by decide⟩;exact ⟨Z',s',by simpa using e,m,a,b,e1,e2⟩
  obtain ⟨Z',s',e,m,a,b,rfl,rfl⟩:=lp;refine ⟨m,?_⟩;have st:zr ["_law_cell","_law_number","_law_j","_law_more"] [.int c]=[some (.int c),none,none,none]:=rfl;simp only [vV,Mof,z0g,st,List.length_cons,List.length_nil,if_true];rw [zi (Z':=[some (.int c),none,none,none]) (s':=s') (by simp [zhT,h])];rw [zi (Z':=[some (.int c),some (.int 0),none,none]) (s':=s') (by simp)];rw [zi e];simp [D.flat.flats,z0O,cap]
theorem z0C{α:Type}{gd:List (Nat×List D)}{all:List D}{s:Sto}{body:D->Sto->R (Option D)}(hg:okG gd all s)(g f:α->D):∀ (l:List α)(acc:List D),(∀ a∈l,body (g a) s=.ok (some (f a)) s)->acc.length+l.length<=cap->wR gd all body (l.map g) acc s=.ok (acc++l.map f) s
 | [],acc,_,_=>by simp [wR,hg] | x::xs,acc,hb,hl=>by
  have ih:=z0C (all:=all) hg g f xs (acc++[f x]) (fun y hy=>hb y (by simp [hy])) (by simp at hl ⊢;omega);have hc:acc.length<cap:=by simp at hl;omega
  rw [List.map_cons,wR,if_pos hg,hb x (by simp)];simp [hc,ih]
structure LS(s0:Sto)(l:Nat)(s:Sto)(xs:List Int):Prop where
 pot:Pot s l
 len:s.length=s0.length+1
 at_:s[s0.length]? = some (iL xs)
 oth:∀ m,m≠l->m<s0.length->s[m]? = s0[m]?
theorem LS.drawn{s0 s s':Sto}{l:Nat}{xs:List Int}(h:LS s0 l s xs)(hl:l<s0.length)(d:vL s s' l):LS s0 l s' xs:= ⟨d.pot,by rw [d.len,h.len],by rw [d.oth _ (by omega)];exact h.at_,fun m h1 h2=>by rw [d.oth m h1];exact h.oth m h1 h2⟩
theorem LS.set{s0 s:Sto}{l:Nat}{xs:List Int}(h:LS s0 l s xs)(hl:l<s0.length)(ys:List Int):LS s0 l (s.set s0.length (iL ys)) ys:=by
 refine ⟨?_,by simp [h.len],List.getElem?_set_self (by rw [h.len];omega),fun m h1 h2=>?_⟩
 ·obtain ⟨p,e⟩:=h.pot;exact ⟨p,by rw [List.getElem?_set_ne (by omega)];exact e⟩
 ·rw [List.getElem?_set_ne (by omega)];exact h.oth m h1 h2
theorem LS.fin{s0 s:Sto}{l:Nat}{xs:List Int}(h:LS s0 l s xs)(hl:l<s0.length):vL s0 (s.take s0.length) l:=by
 obtain ⟨p,e⟩:=h.pot;refine ⟨⟨p,by rw [List.getElem?_take_of_lt hl];exact e⟩,by simp [h.len],fun m h1=>?_⟩;by_cases h2:m<s0.length;·rw [List.getElem?_take_of_lt h2];exact h.oth m h1 h2
 ·rw [List.getElem?_eq_none (by simp [h.len];omega),List.getElem?_eq_none (by omega)]
theorem LS.start{s0 s:Sto}{l:Nat}(d:vL s0 s l)(h:Pot s0 l)(xs:List Int):LS s0 l (s++[iL xs]) xs:= ⟨d.pot.app _,by simp [d.len],by rw [<- d.len];simp,fun m h1 h2=>by rw [List.getElem?_append_left (by rw [d.len];exact h2)];exact d.oth m h1⟩
theorem vL.trans{s s1 s2:Sto}{l:Nat}(a:vL s s1 l)(b:vL s1 s2 l):vL s s2 l:=⟨b.pot,by rw [b.len,a.len],fun m h=>by rw [b.oth m h,a.oth m h]⟩
theorem vg{s:Sto}{l:Nat}{far:Int}{f g:FE}{Z:Ev}(h:Pot s l)(h0:0<far)(h1:far<2 ^ 2000)(hf:f Z s=.ok (.loc l) s)(hg:g Z s=.ok (.int far) s):∃ r s',ze zp (za f (za g zh)) Z s=.ok (.int r) s'/\0<=r/\r<far/\vL s s' l:=by
 obtain ⟨r,s',e,a,b,c⟩:=zia h h0 h1;exact ⟨r,s',by rw [call2 hf hg,e],a,b,c⟩
theorem zgT(s:Sto):z9H (.int 10) (.int 30) s=.ok (.int 1000000000000000000000000000000) s:=by rw [zbh];rfl
theorem uv{xs:List D}{i:Int}{d:D}{s:Sto}(h0:0<=i)(h:xs[i.toNat]? = some d):dIx (.lst xs) (.int i) s=.ok d s:=by
 have hj:i.toNat<xs.length:=(List.getElem?_eq_some_iff.mp h).1;have e:ixN xs.length i=some i.toNat:=by
  unfold ixN;rw [if_pos h0,if_pos (by omega)]
 simp only [dIx,zJ,atI,e,Option.bind_some,h]
theorem z9n{xs:List D}{l:Nat}{i:Int}{d:D}{s:Sto}(hl:s[l]? = some xs)(h0:0<=i)(h:xs[i.toNat]? = some d):dIx (.loc l) (.int i) s=.ok d s:=by
 have hj:i.toNat<xs.length:=(List.getElem?_eq_some_iff.mp h).1;have e:ixN xs.length i=some i.toNat:=by
  unfold ixN;rw [if_pos h0,if_pos (by omega)]
 simp only [dIx,zJ,hl,atI,e,Option.bind_some,h]
theorem zeP{fa fb:FE}{Z:Ev}{s s2:Sto}{L:Nat}{xs:List Int}{x:Int}(ha:fa Z s=.ok (.loc L) s)(hb:fb Z s=.ok (.int x) s2)(at_:s2[L]? = some (iL xs))(hl:xs.length<1000):wQ (z87 fa fb) Z s=.ok (.nx Z) (s2.set L (iL (xs++[x]))):=by
 rw [qK,z3p,ha,R.bind_ok];simp only;rw [hb,R.bind_ok];simp only [at_];rw [if_pos ⟨z0O x,by simp [cap];omega⟩];simp
theorem z3A{fa fb fc:FE}{Z:Ev}{s s1 s2:Sto}{L:Nat}{xs:List Int}{i x:Int}(hc:fc Z s=.ok (.int x) s1)(ha:fa Z s1=.ok (.loc L) s1)(hb:fb Z s1=.ok (.int i) s2)(at_:s2[L]? = some (iL xs))(h0:0<=i)(h1:i<xs.length):z4t fa fb fc Z s=.ok (.nx Z) (s2.set L (iL (xs.set i.toNat x))):=by
 have e:ixN (iL xs).length i=some i.toNat:=by
  unfold ixN;rw [if_pos h0,if_pos (by simp;omega)]
 rw [zga,hc,R.bind_ok,ha,R.bind_ok,hb,R.bind_ok];simp only [at_,e,z0O,if_true,iL,List.map_set]
theorem zc6{xs:List Int}{i:Nat}{x B:Int}(h:∀ y∈xs,0<=y/\y<=B)(hx:0<=x/\x<=B):∀ y∈xs.set i x,0<=y/\y<=B:=fun y hy=>by
 rcases List.mem_or_eq_of_mem_set hy with h2 | h2;·exact h y h2
 ·rw [h2];exact hx
theorem zh0{r:Int}(s:Sto)(h0:0<=r)(h1:r<6):∃ far:Int,dIx (.lst [.int 13,.int 1000,.int 1000000,.int 1000000000000000000000000000000,.int 3,.int 60]) (.int r) s=.ok (.int far) s/\3<=far/\far<=1000000000000000000000000000000:=by
 have:r=0\/r=1\/r=2\/r=3\/r=4\/r=5:=by omega
 rcases this with rfl | rfl | rfl | rfl | rfl | rfl;·exact ⟨13,uv (by decide) rfl,by decide,by decide⟩
 ·exact ⟨1000,uv (by decide) rfl,by decide,by decide⟩
 ·exact ⟨1000000,uv (by decide) rfl,by decide,by decide⟩
 ·exact ⟨1000000000000000000000000000000,uv (by decide) rfl,by decide,by decide⟩
 ·exact ⟨3,uv (by decide) rfl,by decide,by decide⟩
 ·exact ⟨60,uv (by decide) rfl,by decide,by decide⟩
theorem bB:(1000000000000000000000000000000:Int)<2 ^ 2000:=by decide +kernel
theorem jH{x:Int}(h:x<=1000):x<2 ^ 2000:=Int.lt_of_le_of_lt h (by decide +kernel)
theorem z9C {s0:Sto} {l:Nat} {far thin:Int} (hl:l<s0.length) (f0:3<=far) (f1:far<=1000000000000000000000000000000) (a1:Option D):∀ (k j:Nat) (all:List D) (s:Sto) (xs:List Int) (p q:Option D),LS s0 l s xs->(∀ y∈xs,0<=y/\y<=1000000000000000000000000000000)->xs.length=j->j+k<=4-> ∃ s' ys p' q',yZ [] all (fun d Z s=>(yE 5 d Z s).bind fun Z' s'=>(zE uN uB) Z' s') ((List.range' j k).map fun i=>D.int ((i:Nat):Int)) [some (.loc l),a1,some (.int far),some (.int thin),some (.loc s0.length),p,q,none] s=.ok (.nx [some (.loc l),a1,some (.int far),some (.int thin),some (.loc s0.length),p',q',none]) s'/\LS s0 l s' ys/\(∀ y∈ys,0<=y/\y<=1000000000000000000000000000000)/\ys.length=j+k
 | 0,j,all,s,xs,p,q,h,hx,hj,_=>⟨s,xs,p,q,by simp [yZ,okG],h,hx,by omega⟩ | k+1,j,all,s,xs,p,q,h,hx,hj,hk=>by
  obtain ⟨r1,s1,e1,r1a,r1b,d1⟩:=vg (Z:=[some (.loc l),a1,some (.int far),some (.int thin),some (.loc s0.length),some (.int ((j:Nat):Int)),q,none]) (f:=zc 0) (g:=zc 2) h.pot (by omega) (Int.lt_of_le_of_lt f1 bB) (by simp) (by simp);have h1:=h.drawn hl d1;obtain ⟨r2,s2,e2,r2a,r2b,d2⟩:=vg (Z:=[some (.loc l),a1,some (.int far),some (.int thin),some (.loc s0.length),some (.int ((j:Nat):Int)),some (.int (r1+1)),none]) (f:=zc 0) (g:=eC (.int 4)) (far:=4) h1.pot (by decide) (jH (by decide)) (by simp) (by simp);have h2:=h1.drawn hl d2;have hv:∃ x:Int,va (.int (r1+1)) (.int (if decide (thin<=r2)=true then 1 else 0)) s2=.ok (.int x) s2/\0<=x/\x<=1000000000000000000000000000000:=by
   refine ⟨(r1+1)*(if decide (thin<=r2)=true then 1 else 0),kj s2 (by omega) (Int.lt_of_le_of_lt (show r1+1<=1000000000000000000000000000000 by omega) bB) (by split<;>decide) (by split<;>exact jH (by decide)),?_⟩;split<;>omega
  obtain ⟨x,ex,x0,x1⟩:=hv;have h3:=h2.set hl (xs++[x]);obtain ⟨s',ys,p',q',e3,h4,y4,l4⟩:=z9C hl f0 f1 a1 k (j+1) all (s2.set s0.length (iL (xs++[x]))) (xs++[x]) (some (.int ((j:Nat):Int))) (some (.int (r1+1))) h3 (by
   intro y hy;rcases List.mem_append.mp hy with hy | hy;·exact hx y hy
   ·simp at hy;subst hy;exact ⟨x0,x1⟩) (by simp [hj]) (by omega);refine ⟨s',ys,p',q',?_,h4,y4,by omega⟩;have b1:uN [some (.loc l),a1,some (.int far),some (.int thin),some (.loc s0.length),some (.int ((j:Nat):Int)),q,none] s=.ok (.nx [some (.loc l),a1,some (.int far),some (.int thin),some (.loc s0.length),some (.int ((j:Nat):Int)),some (.int (r1+1)),none]) s1:=by
   rw [uN,zV,yn,e1];simp
  have b2:uB [some (.loc l),a1,some (.int far),some (.int thin),some (.loc s0.length),some (.int ((j:Nat):Int)),some (.int (r1+1)),none] s1=.ok (.nx [some (.loc l),a1,some (.int far),some (.int thin),some (.loc s0.length),some (.int ((j:Nat):Int)),some (.int (r1+1)),none]) (s2.set s0.length (iL (xs++[x]))):=by
   have ev:eOp va (zc 6) (ze za5 (za (eOp dGe (ze zp (za (zc 0) (za (eC (.int 4)) zh))) (zc 3)) zh)) [some (.loc l),a1,some (.int far),some (.int thin),some (.loc s0.length),some (.int ((j:Nat):Int)),some (.int (r1+1)),none] s1=.ok (.int x) s2:=by
    have g:ze za5 (za (eOp dGe (ze zp (za (zc 0) (za (eC (.int 4)) zh))) (zc 3)) zh) [some (.loc l),a1,some (.int far),some (.int thin),some (.loc s0.length),some (.int ((j:Nat):Int)),some (.int (r1+1)),none] s1=.ok (.int (if decide (thin<=r2)=true then 1 else 0)) s2:=by
     rw [ye,zB,yn,e2];simp only [R.bind_ok,zO,List.getElem?_cons_zero,List.getElem?_cons_succ,zl0,zH,za5]
    rw [yn];simp only [zO,List.getElem?_cons_zero,List.getElem?_cons_succ,R.bind_ok];rw [g,R.bind_ok,ex]
   rw [uB];exact zeP (by simp) ev h2.at_ (by omega)
  rw [List.range'_succ,List.map_cons,yZ,if_pos (by intro p hp;simp at hp),z0b,R.bind_ok];simp only [List.set_cons_succ,List.set_cons_zero];rw [zeU,b1,R.bind_ok];simp only;rw [b2,R.bind_ok];simp only;exact e3
theorem z9a{v:List Int}{n:Nat}{s:Sto}:zaU n (.ok (rD v) s)=.ok (rD v) (s.take n):=z4V (yy v)
theorem zbF{ns:List Int}{L:Nat}{s:Sto}{f:FE}{Z:Ev}(h:ns≠[])(e:s[L]? = some (iL ns))(hf:f Z s=.ok (.loc L) s):tOf (eOp dEq (ze vD (za f zh)) (eC (.int 0))) Z s=.ok (decide (maxL ns=0)) s:=by
 rw [um,yn,wz hf,zdT h e];simp
theorem zaN{ns:List Int}(h:ns≠[])(hn:∀ y∈ns,0<=y)(hm:maxL ns≠0):∃ x∈ns,0<x:=⟨maxL ns,maxL_mem h,by have:=hn _ (maxL_mem h);omega⟩
theorem zkD {s:Sto} {l:Nat} (h:Pot s l):∃ n v s',qD [.loc l] s=.ok (rD v) s'/\LotB n 104 v/\vL s s' l:=by
 have hl:=h.lt;have st:zr ["_law_pot_here","_law_size","_law_far","_law_thin","_law_numbers","_law_place","_law_number","_law_more"] [.loc l]=[some (.loc l),none,none,none,none,none,none,none]:=rfl;obtain ⟨r1,s1,e1,a1,b1,d1⟩:=vg (Z:=[some (.loc l),none,none,none,none,none,none,none]) (f:=zc 0) (g:=eC (.int 3)) (far:=3) h (by decide) (jH (by decide)) (by simp) (by simp);obtain ⟨n,hn⟩:∃ n:Nat,2+r1=(n:Int):=⟨(2+r1).toNat,by omega⟩;have hsz:Sz n:=by unfold Sz;omega
 have p1:kD [some (.loc l),none,none,none,none,none,none,none] s=.ok (.nx [some (.loc l),some (.int n),none,none,none,none,none,none]) s1:=by
  rw [kD,zV,yn,z0v,R.bind_ok,e1];simp [hn]
 obtain ⟨r2,s2,e2,a2,b2,d2⟩:=vg (Z:=[some (.loc l),some (.int n),none,none,none,none,none,none]) (f:=zc 0) (g:=eC (.int 6)) (far:=6) d1.pot (by decide) (jH (by decide)) (by simp) (by simp);obtain ⟨far,ef,f0,f1⟩:=zh0 s2 a2 b2;have p2:jN [some (.loc l),some (.int n),none,none,none,none,none,none] s1=.ok (.nx [some (.loc l),some (.int n),some (.int far),none,none,none,none,none]) s2:=by
  rw [jN,zV,yn];have:qG (za (eC (.int 13)) (za (eC (.int 1000)) (za (eOp z9H (eC (.int 10)) (eC (.int 6))) (za (eOp z9H (eC (.int 10)) (eC (.int 30))) (za (eC (.int 3)) (za (eC (.int 60)) zh)))))) [some (.loc l),some (.int n),none,none,none,none,none,none] s1=.ok (.lst [.int 13,.int 1000,.int 1000000,.int 1000000000000000000000000000000,.int 3,.int 60]) s1:=by
   simp only [jJ,zB,zH,z0v,yn,R.bind_ok,zme,zgT];rw [if_pos (by simp [cap])]
  rw [this,R.bind_ok,e2,R.bind_ok,ef];simp
 obtain ⟨thin,s3,e3,a3,b3,d3⟩:=vg (Z:=[some (.loc l),some (.int n),some (.int far),none,none,none,none,none]) (f:=zc 0) (g:=eC (.int 4)) (far:=4) d2.pot (by decide) (jH (by decide)) (by simp) (by simp);have p3:jK [some (.loc l),some (.int n),some (.int far),none,none,none,none,none] s2=.ok (.nx [some (.loc l),some (.int n),some (.int far),some (.int thin),none,none,none,none]) s3:=by
  rw [jK,zV,e3];simp
 have dd:=(d1.trans d2).trans d3;have p4:kF [some (.loc l),some (.int n),some (.int far),some (.int thin),none,none,none,none] s3=.ok (.nx [some (.loc l),some (.int n),some (.int far),some (.int thin),some (.loc s.length),none,none,none]) (s3++[iL []]):=by
  rw [kF,zV,z1J,zH,R.bind_ok,if_pos ⟨by simp,rfl⟩,dd.len];simp
 have L0:=LS.start dd h [];obtain ⟨s5,xs,p',q',e5,L5,x5,n5⟩:=z9C (thin:=thin) hl f0 f1 (some (.int n)) n 0 (yK n) (s3++[iL []]) [] none none L0 (by simp) rfl (by unfold Sz at hsz;omega);have p5:ky [some (.loc l),some (.int n),some (.int far),some (.int thin),some (.loc s.length),none,none,none] (s3++[iL []])=.ok (.nx [some (.loc l),some (.int n),some (.int far),some (.int thin),some (.loc s.length),p',q',none]) s5:=by
  rw [ky,z05,z9u (n:=n) (s1:=s3++[iL []]) (by unfold Sz at hsz;omega) (by simp),R.bind_ok];rw [show (yK n)=(List.range' 0 n).map (fun i=>D.int ((i:Nat):Int)) from by rw [yK,List.range_eq_range']] at e5 ⊢;exact e5
 rw [Nat.zero_add] at n5;have ne5:xs≠[]:=fun z=>by rw [z] at n5;simp at n5;unfold Sz at hsz;omega
 have s8:∃ s6 ys,uG [some (.loc l),some (.int n),some (.int far),some (.int thin),some (.loc s.length),p',q',none] s5=.ok (.nx [some (.loc l),some (.int n),some (.int far),some (.int thin),some (.loc s.length),p',q',none]) s6/\LS s l s6 ys/\(∀ y∈ys,0<=y/\y<=1000000000000000000000000000000)/\ys.length=n:=by
  have t:=zbF (f:=zc 4) (Z:=[some (.loc l),some (.int n),some (.int far),some (.int thin),some (.loc s.length),p',q',none]) ne5 L5.at_ (by simp);by_cases z:maxL xs=0
  ·obtain ⟨ra,sa,ea,aa,ba,da⟩:=vg (Z:=[some (.loc l),some (.int n),some (.int far),some (.int thin),some (.loc s.length),p',q',none]) (f:=zc 0) (g:=zc 2) (far:=far) L5.pot (by omega) (Int.lt_of_le_of_lt f1 bB) (by simp) (by simp);have La:=L5.drawn hl da;obtain ⟨rb,sb,eb,ab,bb,db⟩:=vg (Z:=[some (.loc l),some (.int n),some (.int far),some (.int thin),some (.loc s.length),p',q',none]) (f:=zc 0) (g:=zc 1) (far:=n) La.pot (by unfold Sz at hsz;omega) (jH (by unfold Sz at hsz;omega)) (by simp) (by simp);have Lb:=La.drawn hl db;refine ⟨_,_,?_,Lb.set hl (xs.set rb.toNat (1+ra)),zc6 x5 (by omega),by simp [n5]⟩;rw [uG,z2w,t,R.bind_ok,if_pos (by simpa using z),z1F];exact z3A (by rw [yn,z0v,R.bind_ok,ea];simp) (by simp) eb Lb.at_ ab (by omega)
  ·refine ⟨s5,xs,?_,L5,x5,n5⟩;rw [uG,z2w,t,R.bind_ok,if_neg (by simpa using z)];rfl
 obtain ⟨s6,ys,p8,L6,x6,n6⟩:=s8;obtain ⟨r7,s7,e7,a7,b7,d7⟩:=vg (Z:=[some (.loc l),some (.int n),some (.int far),some (.int thin),some (.loc s.length),p',q',none]) (f:=zc 0) (g:=eC (.int 12)) (far:=12) L6.pot (by decide) (jH (by decide)) (by simp) (by simp);have L7:=L6.drawn hl d7;have p10:jl [some (.loc l),some (.int n),some (.int far),some (.int thin),some (.loc s.length),p',q',none] s6=.ok (.nx [some (.loc l),some (.int n),some (.int far),some (.int thin),some (.loc s.length),p',q',some (.int (1+r7))]) s7:=by
  rw [jl,zV,yn,z0v,R.bind_ok,e7];simp
 have s11:∃ s8 zs,vT [some (.loc l),some (.int n),some (.int far),some (.int thin),some (.loc s.length),p',q',some (.int (1+r7))] s7=.ok (.nx [some (.loc l),some (.int n),some (.int far),some (.int thin),some (.loc s.length),p',q',some (.int (1+r7))]) s8/\LS s l s8 zs/\(∀ y∈zs,0<=y/\y<=1000000000000000000000000000000)/\zs.length=n:=by
  obtain ⟨rt,st,et,_,_,dt⟩:=vg (Z:=[some (.loc l),some (.int n),some (.int far),some (.int thin),some (.loc s.length),p',q',some (.int (1+r7))]) (f:=zc 0) (g:=eC (.int 3)) (far:=3) L7.pot (by decide) (jH (by decide)) (by simp) (by simp);have Lt:=L7.drawn hl dt;have t:tOf (eOp dEq (ze zp (za (zc 0) (za (eC (.int 3)) zh))) (eC (.int 0))) [some (.loc l),some (.int n),some (.int far),some (.int thin),some (.loc s.length),p',q',some (.int (1+r7))] s7=.ok (decide (rt=0)) st:=by rw [um,yn,et];simp
  by_cases z:rt=0
  ·obtain ⟨ra,sa,ea,aa,ba,da⟩:=vg (Z:=[some (.loc l),some (.int n),some (.int far),some (.int thin),some (.loc s.length),p',q',some (.int (1+r7))]) (f:=zc 0) (g:=zc 1) (far:=n) Lt.pot (by unfold Sz at hsz;omega) (jH (by unfold Sz at hsz;omega)) (by simp) (by simp);have La:=Lt.drawn hl da;obtain ⟨rb,sb,eb,ab,bb,db⟩:=vg (Z:=[some (.loc l),some (.int n),some (.int far),some (.int thin),some (.loc s.length),p',q',some (.int (1+r7))]) (f:=zc 0) (g:=zc 1) (far:=n) La.pot (by unfold Sz at hsz;omega) (jH (by unfold Sz at hsz;omega)) (by simp) (by simp);have Lb:=La.drawn hl db;have hra:ra.toNat<ys.length:=by omega
   have ix:=z9n (d:=.int ys[ra.toNat]) La.at_ aa (by simp [hra]);have my:=x6 ys[ra.toNat] (List.getElem_mem hra);refine ⟨_,_,?_,Lb.set hl (ys.set rb.toNat ys[ra.toNat]),zc6 x6 my,by simp [n6]⟩;rw [vT,z2w,t,R.bind_ok,if_pos (by simpa using z),z0H];exact z3A (by
    rw [yn];simp only [zO,List.getElem?_cons_zero,List.getElem?_cons_succ,R.bind_ok];rw [ea,R.bind_ok];exact ix) (by simp) eb Lb.at_ ab (by omega)
  ·refine ⟨st,ys,?_,Lt,x6,n6⟩;rw [vT,z2w,t,R.bind_ok,if_neg (by simpa using z)];rfl
 obtain ⟨s8,zs,p11,L8,x8,n8⟩:=s11;have ne8:zs≠[]:=fun z=>by rw [z] at n8;simp at n8;unfold Sz at hsz;omega
 have s13:∃ s9 ws,vO [some (.loc l),some (.int n),some (.int far),some (.int thin),some (.loc s.length),p',q',some (.int (1+r7))] s8=.ok (.nx [some (.loc l),some (.int n),some (.int far),some (.int thin),some (.loc s.length),p',q',some (.int (1+r7))]) s9/\LS s l s9 ws/\(∀ y∈ws,0<=y/\y<=1000000000000000000000000000000)/\ws.length=n/\∃ x∈ws,0<x:=by
  have t:=zbF (f:=zc 4) (Z:=[some (.loc l),some (.int n),some (.int far),some (.int thin),some (.loc s.length),p',q',some (.int (1+r7))]) ne8 L8.at_ (by simp);by_cases z:maxL zs=0
  ·refine ⟨_,_,?_,L8.set hl (zs.set (0:Int).toNat 1),zc6 x8 (by omega),by simp [n8],1,?_,by decide⟩
   ·rw [vO,z2w,t,R.bind_ok,if_pos (by simpa using z),z0A];exact z3A (s1:=s8) (s2:=s8) (L:=s.length) (i:=0) (x:=1) (by simp) (by simp) (by simp) L8.at_ (by decide) (by unfold Sz at hsz;omega)
   ·exact List.mem_set (by unfold Sz at hsz;omega) _
  ·refine ⟨s8,zs,?_,L8,x8,n8,zaN ne8 (fun y hy=>(x8 y hy).1) z⟩;rw [vO,z2w,t,R.bind_ok,if_neg (by simpa using z)];rfl
 obtain ⟨s9,ws,p13,L9,x9,n9,w9⟩:=s13;have hk:(0:Int)<1+r7:=by omega
 refine ⟨n,scl (1+r7) ws,s9.take s.length,?_,⟨⟨hsz,by rw [zhm hk,n9],fun x hx=>?_,?_⟩,fun x hx=>?_⟩,L9.fin hl⟩
 ·simp only [qD,z8j,Mof,z38,st,List.length_cons,List.length_nil,if_true];rw [zi p1,zi p2,zi p3,zi p4,zi p5,zi p8,zi p10,zi p11,zi p13];have c:zA (yx (zc 4)) [some 7,none] (yE 1) zX (eOp va (zc 1) (zc 0)) [some (.loc l),some (.int n),some (.int far),some (.int thin),some (.loc s.length),p',q',some (.int (1+r7))] s9=.ok (.lst (iL (scl (1+r7) ws))) s9:=by
   rw [jn,jd,z1r];simp only [zO,List.getElem?_cons_zero,List.getElem?_cons_succ,R.bind_ok,L9.at_];rw [z0C (by
    intro p hp;simp at hp;subst hp;exact L9.at_) D.int (fun y=>D.int (y*(1+r7))) ws [] (by
    intro y hy;have mm:=kj (a:=y) (b:=1+r7) s9 (x9 y hy).1 (Int.lt_of_le_of_lt (x9 y hy).2 bB) (by omega) (jH (by omega));simp [mm]) (by unfold Sz at hsz;simp [cap];omega)];simp [scl,Function.comp_def]
  rw [z0B,yo,wz c,z0W];simp only [R.bind_ok];exact z9a
 ·obtain ⟨y,hy,rfl⟩:=List.mem_map.mp hx;exact Int.mul_nonneg (x9 y hy).1 (by omega)
 ·obtain ⟨y,hy,h0⟩:=w9;exact ⟨y*(1+r7),(zgG hk).mpr hy,Int.mul_pos h0 hk⟩
 ·obtain ⟨y,hy,rfl⟩:=List.mem_map.mp hx;have b:=x9 y hy;have m1:y*(1+r7)<=1000000000000000000000000000000*(1+r7):=Int.mul_le_mul_of_nonneg_right b.2 (by omega);have:(2:Int) ^ 104=20282409603651670423947251286016:=by decide
  omega
instance (A:Tb):Decidable (zkK A):=by unfold zkK;infer_instance
def okD:Nat->D->Bool
 | _,.non=>true | _,.bl _=>true | _,.int _=>true | _,.str x=>PyData.strOk x | k+1,.tup xs=>xs.all (okD k) | k+1,.lst xs=>xs.all (okD k) | _,_=>false
theorem zkM{k:Nat}:∀ (xs:List D),(∀ x∈xs,PyData.canLay0 (ua x)=true/\PyData.depth (ua x)<=2*k+3/\PyData.eqv (ua x) (ua x)=true)->PyData.canLayAll0 (toPys xs)=true/\PyData.depthAll (toPys xs)<=2*k+4/\PyData.eqvAll (toPys xs) (toPys xs)=true
 | [],_=>⟨rfl,by simp [toPys,PyData.depthAll],by simp [toPys,PyData.eqvAll]⟩ | x::xs,h=>by
  have h1:=h x (by simp);have h2:=zkM xs fun y hy=>h y (by simp [hy]);refine ⟨by simp [toPys,PyData.canLayAll0,h1.1,h2.1],?_,by simp [toPys,PyData.eqvAll,h1.2.2,h2.2.2]⟩;simp only [toPys,PyData.depthAll];omega
theorem zcd:∀ (k:Nat)(d:D),okD k d=true->PyData.canLay0 (ua d)=true/\PyData.depth (ua d)<=2*k+3/\PyData.eqv (ua d) (ua d)=true:=by
 intro k;induction k with
 | zero=>
  intro d h;cases d with
  | str x=>simp only [okD] at h;simp [ua,PyData.canLay0,PyData.depth,PyData.eqv,h] | non=>simp [ua,PyData.canLay0,PyData.depth,PyData.eqv] | bl b=>simp [ua,PyData.canLay0,PyData.depth,PyData.eqv] | int i=>simp [ua,PyData.canLay0,PyData.depth,PyData.eqv] | _=>simp [okD] at h
 | succ k ih=>
  intro d h;cases d with
  | str x=>simp only [okD] at h;simp [ua,PyData.canLay0,PyData.depth,PyData.eqv,h] | non=>simp [ua,PyData.canLay0,PyData.depth,PyData.eqv] | bl b=>simp [ua,PyData.canLay0,PyData.depth,PyData.eqv] | int i=>simp [ua,PyData.canLay0,PyData.depth,PyData.eqv] | tup xs=>
   simp only [okD,List.all_eq_true] at h;have q:=zkM (k:=k) xs fun x hx=>ih x (h x hx);refine ⟨by simp only [ua,PyData.canLay0,q.1],?_,by simp only [ua,PyData.eqv,q.2.2]⟩;simp only [ua,PyData.depth];omega | lst xs=>
   simp only [okD,List.all_eq_true] at h;have q:=zkM (k:=k) xs fun x hx=>ih x (h x hx);refine ⟨by simp only [ua,PyData.canLay0,q.1],?_,by simp only [ua,PyData.eqv,q.2.2]⟩;simp only [ua,PyData.depth];omega | _=>simp [okD] at h
theorem zfB{k:Nat}{d:D}(h:okD k d=true)(hk:k<=10):z8X d=true:=by
 have q:=zcd k d h;simp only [z8X,SeqAt.shaped,q.1];simp;omega
theorem eq_self{k:Nat}{d:D}(h:okD k d=true)(hk:k<=10)(s:Sto):dEq d d s=.ok (.bl true) s:=by
 have q:=zcd k d h;have o:=zfB h hk;rw [dEq,if_pos ⟨o,o⟩];simp only [eqD,q.2.2]
theorem ne_self{k:Nat}{d:D}(h:okD k d=true)(hk:k<=10)(s:Sto):dNe d d s=.ok (.bl false) s:=by
 have q:=zcd k d h;have o:=zfB h hk;rw [dNe,if_pos ⟨o,o⟩];simp only [eqD,q.2.2];rfl
end Pg
namespace Pn
open PySem.Spec L2 Dd Pm Pg
def isI:D->Bool
 | .int _=>true | _=>false
def okI:D->Bool
 | .int i=>decide (0<=i) | _=>false
theorem z8n{d:D}(h:(tyD d).isSome=true)(s:Sto):wO [d] s=.ok (.bl (isI d)) s:=by cases d<;>simp [tyD] at h<;>simp [wO,Mof,z0s,zr,gIs,tyD,isT,isI]
theorem z1P{d:D}(h:(tyD d).isSome=true)(s:Sto):xk [d] s=.ok (.bl (isI d)) s:=by cases d<;>simp [tyD] at h<;>simp [xk,Mof,z0S,zr,gIs,tyD,isT,isI]
def Kd:D->Prop
 | .tup xs=>∀ x∈xs,(tyD x).isSome=true | .scr _=>False | d=>(tyD d).isSome=true
theorem Kd.ty{d:D}(h:Kd d):(tyD d).isSome=true:=by cases d<;>first | rfl | exact h | exact (show False from h).elim
theorem all_ints:∀ {xs:List D},xs.all isI=true->∃ v:List Int,xs=iL v
 | [],_=>⟨[],rfl⟩ | x::xs,h=>by
  rw [List.all_cons,Bool.and_eq_true] at h;obtain ⟨v,rfl⟩:=all_ints h.2;cases x with
  | int i=>exact ⟨i::v,rfl⟩ | _=>simp [isI] at h
theorem zfw:∀ {v w:List Int},iL v=iL w->v=w
 | [],[],_=>rfl | [],_::_,h=>by simp at h | _::_,[],h=>by simp at h | a::v,b::w,h=>by
  simp only [iL,List.map_cons,List.cons.injEq,D.int.injEq] at h;rw [h.1,zfw (v:=v) (w:=w) h.2]
theorem zco(v:List Int):(iL v).all okI=v.all fun x=>decide (0<=x):=by
 simp only [iL,List.all_map];rfl
theorem z6g{α:Type}(l:List α)(p:α->Bool)(s:Sto):zap [.lst (l.map fun x=>D.bl (p x))] s=.ok (.bl (l.all p)) s:=by
 have b:bools (l.map fun x=>D.bl (p x))=some (l.map p):=by
  rw [show (l.map fun x=>D.bl (p x))=(l.map p).map D.bl by rw [List.map_map];rfl];exact z7M _
 simp [zap,zJ,b]
theorem z5j {xs:List D} (hk:∀ x∈xs,(tyD x).isSome=true) (s:Sto) (h:xs.length<=1000):yb [.tup xs,.int xs.length] s=.ok (.bl (xs.all isI)) s:=by
 have st:zr ["thing","many"] [.tup xs,.int xs.length]=[some (.tup xs),some (.int xs.length)]:=rfl;simp only [yb,Mof,jc,st,List.length_cons,List.length_nil,if_true];rw [zi (Z':=[some (.tup xs),some (.int xs.length)]) (s':=s) (by simp [gIs,tyD,isT,yJ,zJ])];have c:=comp_map (fi:=yx (zc 0)) (mp:=[none]) (fg:=yE 0) (fe:=ze wO (za (zc 0) zh)) (Z:=[some (.tup xs),some (.int xs.length)]) (s:=s) (fun x=>x) (fun x=>D.bl (isI x)) (fun x=>[some x]) xs (by simp) (fun a _=>by simp) (fun a ha=>by simp [z8n (hk a ha)]) (by simp [cap];omega);simp only [z04,yo,ye,zB,zH,c,R.bind_ok,z6g]
theorem z1N{t:Option D}(s:Sto):∀ (xs all:List D)(z:Option D),(∀ x∈xs,(tyD x).isSome=true)-> if xs.all okI=true then ∃ z',yZ [] all (fun d Z s=>(yE 1 d Z s).bind fun Z' s'=>xT Z' s') xs [t,z] s=.ok (.nx [t,z']) s else yZ [] all (fun d Z s=>(yE 1 d Z s).bind fun Z' s'=>xT Z' s') xs [t,z] s=.ok (.rt (.bl false)) s
 | [],all,z,_=>by simp [yZ,okG] | x::xs,all,z,hk=>by
  have hx:=hk x (by simp);have ih:=z1N (t:=t) s xs all (some x) fun y hy=>hk y (by simp [hy]);have og:okG [] all s:=by intro p hp;simp at hp
  have step:xT [t,some x] s=if okI x=true then .ok (.nx [t,some x]) s else .ok (.rt (.bl false)) s:=by
   have w:=z1P hx s;cases x with
   | int i=>
    by_cases h0:0<=i
    ·have:¬ i<0:=by omega
     simp [w,isI,okI,h0,this]
    ·have:i<0:=by omega
     simp [w,isI,okI,h0,this] | _=>simp [w,isI,okI]
  simp only [yZ,if_pos og,z0b,R.bind_ok,List.set_cons_succ,List.set_cons_zero,step];cases h:okI x with
  | true=>
   simp only [if_true,R.bind_ok,List.all_cons,h,Bool.true_and];exact ih | false=>simp [h]
theorem zfP{xs:List D}(h:xs.all okI=true):xs.all isI=true:=by
 rw [List.all_eq_true] at h ⊢;intro x hx;have:=h x hx;cases x<;>simp_all [okI,isI]
theorem zdk{d:D}(hd:Kd d)(s:Sto):(∃ n v,d=rD v/\Lot n v/\yj [d] s=.ok (.bl true) s/\yr [d] s=.ok (.bl true) s)\/(yj [d] s=.ok (.bl false) s/\yr [d] s=.ok (.bl false) s):=by cases d with
  | tup xs=>
    have hk:∀ x∈xs,(tyD x).isSome=true:=hd;by_cases hs:2<=xs.length/\xs.length<=4
    · have h1:=z1q xs s hs;have h2:=z5j hk s (by omega);have gl:yJ [.tup xs] s=.ok (.int xs.length) s:=by simp [yJ,zJ]
      have lf:kC [some (.tup xs),none] s=.ok (.nx [some (.tup xs),none]) s:=by
        have:z9d true (.int (xs.length:Int)) (.tup [.int 2,.int 3,.int 4]) s=.ok (.bl false) s:=by
          have hc:xs.length=2\/xs.length=3\/xs.length=4:=by omega
          rcases hc with hc | hc | hc<;>rw [hc]<;>rfl
        simp [gIs,tyD,isT,gl,this,cap]
      have lp:=z1N (t:=some (.tup xs)) s xs xs none hk;have st:zr ["_law_thing","_law_number"] [.tup xs]=[some (.tup xs),none]:=rfl;have lw:yr [.tup xs] s=(match zE xU vb [some (.tup xs),none] s with | .ok (.rt d) s'=>.ok d s' | .ok (.nx _) s'=>.ok .non s' | _=>.no):=by
        simp only [yr,Mof,vy,st,List.length_cons,List.length_nil,if_true];rw [zi lf]<;>(generalize zE xU vb [some (.tup xs),none] s=r;cases r with
          | ok fl _=>cases fl<;>rfl | _=>rfl)
      have q3:xU [some (.tup xs),none] s=yZ [] xs (fun d Z s=>(yE 1 d Z s).bind fun Z' s'=>xT Z' s') xs [some (.tup xs),none] s:=by
        rw [xU,z05];simp only [z1r,zO,List.getElem?_cons_zero,R.bind_ok]
      have pg:∀ b,(∀ v:List Int,xs=iL v->(decide (0<=minL v)&&decide (0<maxL v))=b)->(xs.all isI=false->b=false)->yj [.tup xs] s=.ok (.bl b) s:=fun b hb hb2=>by cases hi:xs.all isI with
        | false=>
          rw [hi] at h2;rw [hb2 hi];have key:∀ d:D,ym [d] s=.ok (.bl true) s->yJ [d] s=.ok (.int xs.length) s->yb [d,.int xs.length] s=.ok (.bl false) s->yj [d] s=.ok (.bl false) s:=fun d a1 a2 a3=>by simp [yj,Mof,uq,zr,a1,a2,a3]
          exact key _ h1 gl h2 | true=>
          rw [hi] at h2;obtain ⟨v,rfl⟩:=all_ints hi;have ne:v≠[]:=by rintro rfl;simp at hs
          have g1:=z4N s ne;have g2:=zeR s ne;have hb:=hb v rfl;have key:∀ d:D,ym [d] s=.ok (.bl true) s->yJ [d] s=.ok (.int (iL v).length) s->yb [d,.int (iL v).length] s=.ok (.bl true) s->vD [d] s=.ok (.int (maxL v)) s->z4j [d] s=.ok (.int (minL v)) s->yj [d] s=.ok (.bl b) s:=fun d a1 a2 a3 a4 a5=>by
            rw [<- hb];by_cases z:0<=minL v;· simp [yj,Mof,uq,zr,a1,a2,a3,a4,a5,z,-List.length_map]
            · simp [yj,Mof,uq,zr,a1,a2,a3,a4,a5,z,-List.length_map]
          exact key _ h1 gl h2 g1 g2
      cases ho:xs.all okI with
      | false=>
        right;rw [ho,if_neg (by decide)] at lp;refine ⟨pg false (fun v hv=>?_) (fun _=>rfl),?_⟩
        · subst hv;rw [zco] at ho;rw [Bool.and_eq_false_iff];left;rw [decide_eq_false_iff_not];intro z;have ne:v≠[]:=by rintro rfl;simp at hs
          have:v.all (fun x=>decide (0<=x))=true:=by
            rw [List.all_eq_true];intro x hx;have:=minL_le (xs:=v) x hx;exact decide_eq_true (by omega)
          rw [this] at ho;cases ho
        · rw [lw,z9T (by rw [q3];exact lp)] | true=>
        rw [ho,if_pos rfl] at lp;obtain ⟨z',lp⟩:=lp;obtain ⟨v,rfl⟩:=all_ints (zfP ho);have ne:v≠[]:=by rintro rfl;simp at hs
        rw [zco,List.all_eq_true] at ho;have nn:∀ x∈v,0<=x:=fun x hx=>of_decide_eq_true (ho x hx);have mn:0<=minL v:=nn _ (minL_mem ne);have g1:=z4N s ne;have lw2:yr [.tup (iL v)] s=.ok (.bl (decide (0<maxL v))) s:=by
          rw [lw,zi (by rw [q3];exact lp)];have key:∀ d:D,vD [d] s=.ok (.int (maxL v)) s->vb [some d,z'] s=.ok (.rt (.bl (decide (0<maxL v)))) s:=fun d a=>by simp [a]
          rw [key _ g1]
        by_cases mx:0<maxL v
        · left;have hv:Lot v.length v:=by refine ⟨?_,?_,nn,⟨maxL v,maxL_mem ne,mx⟩⟩<;>first | rfl | (simp at hs;omega) | skip
          refine ⟨v.length,v,rfl,hv,za6 hv s,?_⟩;rw [lw2,decide_eq_true mx]
        · right;refine ⟨pg false (fun w hw=>?_) (fun _=>rfl),?_⟩
          · have:v=w:=zfw hw;subst this;rw [decide_eq_false mx,Bool.and_false]
          · rw [lw2,decide_eq_false mx]
    · right;have e:(decide ((2:Int)<=xs.length)&&decide ((xs.length:Int)<=4))=false:=by
        by_cases a:(2:Int)<=xs.length
        · have:¬ (xs.length:Int)<=4:=by omega
          simp [a,this]
        · simp [a]
      constructor
      · have h1:ym [.tup xs] s=.ok (.bl false) s:=by
          by_cases a:(2:Int)<=xs.length
          · have:¬ (xs.length:Int)<=4:=by omega
            simp [ym,Mof,ut,zr,gIs,tyD,isT,yJ,zJ,a,this]
          · simp [ym,Mof,ut,zr,gIs,tyD,isT,yJ,zJ,a]
        have key:∀ d:D,ym [d] s=.ok (.bl false) s->yj [d] s=.ok (.bl false) s:=fun d a1=>by simp [yj,Mof,uq,zr,a1]
        exact key _ h1
      · have gl:yJ [.tup xs] s=.ok (.int xs.length) s:=by simp [yJ,zJ]
        have q:z9d true (.int (xs.length:Int)) (.tup [.int 2,.int 3,.int 4]) s=.ok (.bl true) s:=by
          have h2:xs.length≠2:=by omega
          have h3:xs.length≠3:=by omega
          have h4:xs.length≠4:=by omega
          generalize xs.length=m at h2 h3 h4;have g2:¬ (2:Int)=m:=by omega
          have g3:¬ (3:Int)=m:=by omega
          have g4:¬ (4:Int)=m:=by omega
          have e:inV (.int (m:Int)) [.int 2,.int 3,.int 4]=false:=by simp [inV,eqV,g2,g3,g4]
          simp [z9d,z34,zJ,kq,e]
        simp [yr,Mof,vy,zr,gIs,tyD,isT,gl,q,cap] | scr _=>exact hd.elim | _=>
    right;have hd:=hd.ty;first
    | (exfalso;simp [tyD] at hd;done)
    | (constructor;· simp [yj,Mof,uq,ym,ut,zr,gIs,tyD,isT]
       · simp [yr,Mof,vy,zr,gIs,tyD,isT])
theorem z8E:LeM xf vU:=LeM.mof (LeS.if_ LeS.fNo LeS.rfl)
theorem z5m{d:D}{s:Sto}(h:yj [d] s=.ok (.bl false) s):vU [d] s=.ex "NoLot" s:=by
 have st:zr ["thing"] [d]=[some d]:=rfl;simp [vU,z2Q,z1S,st,h]
theorem zcC{f g:FS}{Z:Ev}{s s':Sto}{c:Str}(h:f Z s=.ex c s'):zE f g Z s=.ex c s':=by rw [zeU,h,R.bind_ex]
theorem z8p{f:FE}{Z:Ev}{s s':Sto}{c:Str}(h:f Z s=.ex c s'):wQ f Z s=.ex c s':=by rw [qK,h,R.bind_ex]
theorem zcD(k:Nat)(b:Bool)(s:Sto):zt (k+1) [.bl b,.bl b] s=.ok (.bl true) s:=by
 have e:dEq (.bl b) (.bl b) s=.ok (.bl true) s:=by rw [zhU];simp
 have d1:dIs (.bl b) .non s=.ok (.bl false) s:=rfl;simp [zt,Mof,wL,zr,zfo,zdB,gIs,tyD,isT,d1]
theorem same_int(k:Nat)(i:Int)(s:Sto):zt (k+1) [.int i,.int i] s=.ok (.bl true) s:=by
 have d1:dIs (.int i) .non s=.ok (.bl false) s:=rfl;have w:=z1P (d:=.int i) rfl s;simp [zt,Mof,wL,zr,zfo,zdB,gIs,tyD,isT,d1,w,isI]
theorem same_str (k:Nat) {x:Str} (hx:PyData.strOk x=true) (s:Sto):zt (k+1) [.str x,.str x] s=.ok (.bl true) s:=by
 have d1:dIs (.str x) .non s=.ok (.bl false) s:=rfl;have e:=eq_self (k:=0) (d:=.str x) hx (by decide) s;have e2:dEq (.bl false) (.bl false) s=.ok (.bl true) s:=by rw [zhU];rfl
 simp [zt,Mof,wL,zr,zfo,zdB,gIs,tyD,isT,d1,e]
def qc:Nat->D->Prop
 | _,.bl _=>True | _,.int _=>True | _,.str x=>PyData.strOk x=true | k+1,.tup xs=>xs.length<=cap/\∀ x∈xs,qc k x | k+1,.lst xs=>xs.length<=cap/\∀ x∈xs,qc k x | _,_=>False
theorem z7i:∀ xs:List D,z1f xs xs=xs.map fun x=>D.tup [x,x]
 | []=>rfl | x::xs=>by rw [z1f,z7i xs];rfl
theorem z5k {k:Nat} {xs:List D} {s:Sto} (hl:xs.length<=cap) (h:∀ x∈xs,zt k [x,x] s=.ok (.bl true) s) (d:D) (hd:d=.tup xs\/d=.lst xs):zt (k+1) [d,d] s=.ok (.bl true) s:=by
 have st:zr ["_law_found","_law_due"] [d,d]=[some d,some d]:=rfl;have g:z46 s d=some (xs,[]):=by rcases hd with rfl | rfl<;>rfl
 have c:=comp_map (fi:=z86 (za (zc 0) (za (zc 1) zh))) (mp:=[none,none]) (fg:=wf 0 1) (fe:=ze (zt k) (za (zc 0) (za (zc 1) zh))) (Z:=[some d,some d]) (s:=s) (fun x=>D.tup [x,x]) (fun x=>D.bl true) (fun x=>[some x,some x]) xs (by simp [g,z7i]) (fun a _=>by simp) (fun a ha=>by simp [h a ha]) hl;have ga:=z6g xs (fun _=>true) s;have ga:zap [.lst (xs.map fun _=>D.bl true)] s=.ok (.bl true) s:=by rw [ga];simp
 have gl:yJ [d] s=.ok (.int xs.length) s:=by rcases hd with rfl | rfl<;>simp [yJ,zJ]
 have q4:wT (zt k) [some d,some d] s=.ok (.rt (.bl true)) s:=by simp only [wT,yo,z9j,yn,ye,zB,zH,c,R.bind_ok,ga,zO,List.getElem?_cons_zero,List.getElem?_cons_succ,gl,z81,decide_true]
 have q2:qO (zt k) [some d,some d] s=.ok (.nx [some d,some d]) s:=by rcases hd with rfl | rfl<;>simp [gIs,tyD,isT]
 have q1:wV (zt k) [some d,some d] s=.ok (.rt (.bl true)) s:=by
  rw [wV,z2w];have t:tOf (zdB "list" "tuple" (zc 1)) [some d,some d] s=.ok true s:=by rcases hd with rfl | rfl<;>simp [zdB,zfo,tyD,isT]
  rw [t,R.bind_ok,if_pos rfl,zi q2,q4]
 simp only [zt,Mof,wL,st,List.length_cons,List.length_nil,if_true];rw [z9T q1]
theorem z0M:∀ (k:Nat)(d:D)(s:Sto),qc k d->zt (k+1) [d,d] s=.ok (.bl true) s
 | k,.bl b,s,_=>zcD k b s | k,.int i,s,_=>same_int k i s | k,.str x,s,h=>same_str k (by unfold qc at h;exact h) s | k+1,.tup xs,s,h=>by unfold qc at h;exact z5k h.1 (fun x hx=>z0M k x s (h.2 x hx)) _ (.inl rfl) | k+1,.lst xs,s,h=>by unfold qc at h;exact z5k h.1 (fun x hx=>z0M k x s (h.2 x hx)) _ (.inr rfl) | 0,.tup xs,s,h=>by simp [qc] at h | 0,.lst xs,s,h=>by simp [qc] at h | k,.non,s,h=>by simp [qc] at h | k,.dct,s,h=>by simp [qc] at h | k,.loc _,s,h=>by simp [qc] at h | k,.fn _,s,h=>by simp [qc] at h | k,.exc _,s,h=>by simp [qc] at h | k,.scr _,s,h=>by simp [qc] at h
structure Bn(m:Nat)(d:D):Prop where
 kd:Kd d
 bd:∀ xs i,d=.tup xs->D.int i∈xs->i.natAbs<2 ^ m
theorem Bn.tup{m:Nat}{xs:List D}(h:∀ x∈xs,(tyD x).isSome=true/\∀ i,x=.int i->i.natAbs<2 ^ m):Bn m (.tup xs):= ⟨fun x hx=>(h x hx).1,fun ys i e hi=>by cases e;exact (h _ hi).2 i rfl⟩
theorem Bn.other{m:Nat}{d:D}(h:Kd d)(hn:∀ xs,d≠.tup xs):Bn m d:=⟨h,fun xs i e _=>absurd e (hn xs)⟩
def zde:List D:=[.non,.bl true,.bl false,.int (-1),.int 0,.int 7,.int 1000000000000000000000000000000,.str "",.str "1:0",.tup [],.tup [.int 0,.int 0],.tup [.int 1],.lst [.int 1,.int 0],.dct,.tup [.tup [.int 1,.int 0],.tup [.int 0,.int 1]],.tup [.bl true,.int 2]]
theorem zlg {s:Sto} {l:Nat} (h:Pot s l):∃ d s',qt [.loc l] s=.ok d s'/\d∈zde/\vL s s' l:=by
 have st:zr ["_law_pot_here","_law_some"] [.loc l]=[some (.loc l),none]:=rfl;have q1:z20 [some (.loc l),none] s=.ok (.nx [some (.loc l),some (.lst [.non,.bl true,.bl false,.int (-1),.int 0,.int 7,.int 1000000000000000000000000000000,.str "",.str "1:0",.tup [],.tup [.int 0,.int 0],.tup [.int 1],.lst [.int 1,.int 0],.dct])]) s:=by simp [zgT,cap]
 obtain ⟨r,s',e,a,b,dr⟩:=vg (f:=zc 0) (g:=eC (.int 16)) (far:=16) (Z:=[some (.loc l),some (.lst [.non,.bl true,.bl false,.int (-1),.int 0,.int 7,.int 1000000000000000000000000000000,.str "",.str "1:0",.tup [],.tup [.int 0,.int 0],.tup [.int 1],.lst [.int 1,.int 0],.dct])]) h (by decide) (jH (by decide)) (by simp) (by simp);have hr:r.toNat<zde.length:=by simp [zde];omega
 have ix:=uv (xs:=zde) (d:=zde[r.toNat]) (s:=s') a (by simp [hr]);refine ⟨zde[r.toNat],s',?_,List.getElem_mem hr,dr⟩;simp only [qt,Mof,z3I,st,List.length_cons,List.length_nil,if_true];rw [zi q1,z1W,yo,yn];have c:eOp wS (zc 1) (qG (za (uA (za (uA (za (eC (.int 1)) (za (eC (.int 0)) zh))) (za (uA (za (eC (.int 0)) (za (eC (.int 1)) zh))) zh))) (za (uA (za (eC (.bl true)) (za (eC (.int 2)) zh))) zh))) [some (.loc l),some (.lst [.non,.bl true,.bl false,.int (-1),.int 0,.int 7,.int 1000000000000000000000000000000,.str "",.str "1:0",.tup [],.tup [.int 0,.int 0],.tup [.int 1],.lst [.int 1,.int 0],.dct])] s=.ok (.lst zde) s:=by simp [cap,zde]
 rw [c,R.bind_ok,e,R.bind_ok,ix,R.bind_ok]
theorem zi8{m:Nat}{d:D}(h:d∈zde)(hm:2<=m):Bn m d:=by
 have h2:2 ^ 2<=2 ^ m:=Nat.pow_le_pow_right (by decide) hm;simp only [zde,List.mem_cons,List.not_mem_nil,or_false] at h;rcases h with rfl | rfl | rfl | rfl | rfl | rfl | rfl | rfl | rfl | rfl | rfl | rfl | rfl | rfl | rfl | rfl;case inr.inr.inr.inr.inr.inr.inr.inr.inr.inl=>exact Bn.tup (by simp)
 case inr.inr.inr.inr.inr.inr.inr.inr.inr.inr.inl=>exact Bn.tup (by simp [tyD];omega)
 case inr.inr.inr.inr.inr.inr.inr.inr.inr.inr.inr.inl=>exact Bn.tup (by simp [tyD];omega)
 case inr.inr.inr.inr.inr.inr.inr.inr.inr.inr.inr.inr.inr.inr.inl=>exact Bn.tup (by simp [tyD])
 case inr.inr.inr.inr.inr.inr.inr.inr.inr.inr.inr.inr.inr.inr.inr=>exact Bn.tup (by simp [tyD];omega)
 all_goals exact Bn.other rfl (by intro xs e;cases e)
theorem zg7 {v:List Int} {k:Nat} (hk:k<v.length) (s:Sto):∃ y∈v,dIx (rD v) (.int ((k:Int)-1)) s=.ok (.int y) s:=by cases k with
 | zero=>
  have hl:v.length-1<v.length:=by omega
  refine ⟨v[v.length-1],List.getElem_mem hl,?_⟩;have e:ixN (iL v).length (((0:Nat):Int)-1)=some (v.length-1):=by
   unfold ixN;rw [if_neg (by omega),if_pos (by simp;omega)];congr 1;simp;omega
  simp only [dIx,zJ,atI,e,Option.bind_some];simp [hl] | succ k=>
  have hl:k<v.length:=by omega
  refine ⟨v[k],List.getElem_mem hl,?_⟩;have:=z6U (xs:=iL v) (j:=k) (d:=.int v[k]) s (by simp [hl]);rw [show (((k+1:Nat):Int)-1)=(k:Int) by omega];exact this
theorem zi3 {s:Sto} {l m:Nat} {v:List Int} (h:Pot s l) (hv:∀ x∈v,x.natAbs<2 ^ m) (hm:104<=m) (h1:1<=v.length) (h4:v.length<=4):∃ d s',ul [.loc l,rD v] s=.ok d s'/\Bn (m+1) d/\vL s s' l:=by
 have st:zr ["_law_pot_here","_law_row","_law_at","_law_odd_here","_law_some"] [.loc l,rD v]=[some (.loc l),some (rD v),none,none,none]:=rfl;have gl:∀ s,yJ [rD v] s=.ok (.int v.length) s:=fun s=>by simp [yJ,zJ]
 obtain ⟨r1,s1,e1,a1,b1,d1⟩:=vg (f:=zc 0) (g:=ze yJ (za (zc 1) zh)) (far:=v.length) (Z:=[some (.loc l),some (rD v),none,none,none]) h (by omega) (jH (by omega)) (by simp) (by simp only [ye,zB,zH,zO,List.getElem?_cons_succ,List.getElem?_cons_zero,R.bind_ok,gl]);obtain ⟨k,rfl⟩:∃ k:Nat,r1=k:=⟨r1.toNat,by omega⟩;have hk:k<v.length:=by omega
 have q1:qM [some (.loc l),some (rD v),none,none,none] s=.ok (.nx [some (.loc l),some (rD v),some (.int k),none,none]) s1:=by rw [qM,zV,e1];rfl
 have ixk:∀ s,dIx (rD v) (.int k) s=.ok (.int v[k]) s:=fun s=>z6U (xs:=iL v) (j:=k) (d:=.int v[k]) s (by simp [hk]);obtain ⟨y,hy,ixp⟩:=zg7 hk s1;have bp:∀ {i:Int},i.natAbs<2 ^ m->i.natAbs+1<2 ^ (m+1):=fun {i} hi=>by
  have:2 ^ (m+1)=2 ^ m*2:=Nat.pow_succ ..;have:0<2 ^ m:=Nat.pow_pos (by decide);omega
 have hx:=bp (hv _ (List.getElem_mem hk));let L10:List D:=[.int (v[k]+1),.int (v[k]-1),.int (0-v[k]),.int 0,.bl true,.non,.str "1",.tup [.int 1],.int 1000000000000000000000000000000,.int y];have hL:∀ e∈L10,(tyD e).isSome=true/\∀ i,e=.int i->i.natAbs<2 ^ (m+1):=by
  have p30:(1000000000000000000000000000000:Int).natAbs<2 ^ (m+1):=Nat.lt_of_lt_of_le (by decide:(1000000000000000000000000000000:Int).natAbs<2 ^ 105) (Nat.pow_le_pow_right (by decide) (by omega));have hy2:=bp (hv _ hy);intro e he;simp only [L10,List.mem_cons,List.not_mem_nil,or_false] at he;rcases he with rfl | rfl | rfl | rfl | rfl | rfl | rfl | rfl | rfl | rfl;all_goals refine ⟨rfl,fun i hi=>?_⟩
  all_goals first | cases hi | skip
  all_goals first | exact p30 | omega
 have q2:jk [some (.loc l),some (rD v),some (.int k),none,none] s1=.ok (.nx [some (.loc l),some (rD v),some (.int k),some (.lst L10),none]) s1:=by
  have key:∀ d:D,dIx d (.int k) s1=.ok (.int v[k]) s1->dIx d (.int ((k:Int)-1)) s1=.ok (.int y) s1->jk [some (.loc l),some d,some (.int k),none,none] s1=.ok (.nx [some (.loc l),some d,some (.int k),some (.lst L10),none]) s1:=fun d c1 c2=>by simp [c1,c2,zgT,cap,L10]
  exact key _ (ixk s1) ixp
 obtain ⟨r2,s2,e2,a2,b2,d2⟩:=vg (f:=zc 0) (g:=eC (.int 10)) (far:=10) (Z:=[some (.loc l),some (rD v),some (.int k),some (.lst L10),none]) d1.pot (by decide) (jH (by decide)) (by simp) (by simp);have hr2:r2.toNat<L10.length:=by simp [L10];omega
 have ix2:=uv (xs:=L10) (d:=L10[r2.toNat]) (s:=s2) a2 (by simp [hr2]);have he:=hL _ (List.getElem_mem hr2);generalize L10[r2.toNat]=e at ix2 he;have q3:jp [some (.loc l),some (rD v),some (.int k),some (.lst L10),none] s1=.ok (.nx [some (.loc l),some (rD v),some (.int k),some e,none]) s2:=by
  rw [jp,zV,yn];simp only [zO,List.getElem?_cons_succ,List.getElem?_cons_zero,R.bind_ok];rw [e2,R.bind_ok,ix2];rfl
 have sk:∀ s,dSl (rD v) none (some (k:Int)) s=.ok (.tup ((iL v).take k)) s:=fun s=>z3L _ _ _;have sd:∀ s,dSl (rD v) (some (k:Int)) none s=.ok (.tup ((iL v).drop k)) s:=fun s=>z1l _ _ _;have sd1:∀ s,dSl (rD v) (some ((k:Int)+1)) none s=.ok (.tup ((iL v).drop (k+1))) s:=fun s=>z1l (iL v) (k+1) s;have lv:(iL v).length=v.length:=by simp
 generalize hT:(iL v).take k=T at sk;generalize hU:(iL v).drop k=U at sd;generalize hW:(iL v).drop (k+1)=W at sd1;have lT:T.length<=4:=by rw [<- hT,List.length_take];omega
 have lU:U.length<=4:=by rw [<- hU,List.length_drop];omega
 have lW:W.length<=4:=by rw [<- hW,List.length_drop];omega
 have hrow:∀ x∈iL v,(tyD x).isSome=true/\∀ i,x=.int i->i.natAbs<2 ^ (m+1):=fun x hx=>by
  obtain ⟨z,hz,rfl⟩:=List.mem_map.mp hx;refine ⟨rfl,fun i q=>?_⟩;cases q;have:=bp (hv _ hz);omega
 have iT:∀ x∈T,x∈iL v:=fun x hx=>List.mem_of_mem_take (hT ▸ hx);have iU:∀ x∈U,x∈iL v:=fun x hx=>List.mem_of_mem_drop (hU ▸ hx);have iW:∀ x∈W,x∈iL v:=fun x hx=>List.mem_of_mem_drop (hW ▸ hx);have q4:qF [some (.loc l),some (rD v),some (.int k),some e,none] s2=.ok (.nx [some (.loc l),some (rD v),some (.int k),some e,some (.lst [.tup (T++[e]++W),.tup (T++[e]++W),.tup (T++W),.lst (iL v)])]) s2:=by
  have g:zaB [rD v] s2=.ok (.lst (iL v)) s2:=by simp [zaB,zJ]
  have c1:T.length+1<=cap:=by simp [cap];omega
  have c2:T.length+1+W.length<=cap:=by simp [cap];omega
  have c3:T.length+W.length<=cap:=by simp [cap];omega
  have c4:(1:Nat)<=cap:=by decide
  have c5:(4:Nat)<=cap:=by decide
  have key:∀ (d g:D),dSl d none (some (k:Int)) s2=.ok (.tup T) s2->dSl d (some ((k:Int)+1)) none s2=.ok (.tup W) s2->zaB [d] s2=.ok g s2->qF [some (.loc l),some d,some (.int k),some e,none] s2=.ok (.nx [some (.loc l),some d,some (.int k),some e,some (.lst [.tup (T++[e]++W),.tup (T++[e]++W),.tup (T++W),g])]) s2:=fun d g x1 x2 x3=>by simp [x1,x2,x3,c1,c2,c3,c4,c5]
  exact key _ _ (sk s2) (sd1 s2) g
 obtain ⟨o,s3,e3,ho,d3⟩:=zlg (l:=l) (d1.trans d2).pot;let M10:List D:=[.tup (T++[e]++W),.tup (T++[e]++W),.tup (T++W),.lst (iL v),.tup (T++[.int 0]++U),.tup (iL v).reverse,.tup (iL v++iL v),.tup (List.replicate v.length (.int 0)),o,.tup [rD v]];have q5:vQ [some (.loc l),some (rD v),some (.int k),some e,some (.lst [.tup (T++[e]++W),.tup (T++[e]++W),.tup (T++W),.lst (iL v)])] s2=.ok (.nx [some (.loc l),some (rD v),some (.int k),some e,some (.lst M10)]) s3:=by
  have c1:T.length+1<=cap:=by simp [cap];omega
  have c2:T.length+1+U.length<=cap:=by simp [cap];omega
  have c4:(1:Nat)<=cap:=by decide
  have c5:(6:Nat)<=cap:=by decide
  have c6:(10:Nat)<=cap:=by decide
  have rp:zaE (.tup [.int 0]) (.int v.length) s2=.ok (.tup (List.replicate v.length (.int 0))) s2:=by
   rw [zgS,if_pos ⟨by omega,by simp,by simp [cap];omega⟩];congr 2;rw [Int.toNat_natCast];generalize v.length=n;induction n with
   | zero=>rfl | succ n ih=>rw [List.replicate_succ,List.flatten_cons,ih];rfl
  have ad:wS (rD v) (rD v) s2=.ok (.tup (iL v++iL v)) s2:=by rw [z3K,if_pos (by simp [cap];omega)]
  have rv:zhB (zc 1) [some (.loc l),some (rD v),some (.int k),some e,some (.lst [.tup (T++[e]++W),.tup (T++[e]++W),.tup (T++W),.lst (iL v)])] s2=.ok (.tup (iL v).reverse) s2:=by simp
  have key:∀ (d g rv aa rr x4:D) (z:List D),z.length=4->x4=.lst z->dSl d none (some (k:Int)) s2=.ok (.tup T) s2->dSl d (some (k:Int)) none s2=.ok (.tup U) s2->yJ [d] s2=.ok (.int v.length) s2->wS d d s2=.ok aa s2->zaE (.tup [.int 0]) (.int v.length) s2=.ok rr s2-> zhB (zc 1) [some (.loc l),some d,some (.int k),some e,some x4] s2=.ok rv s2->vQ [some (.loc l),some d,some (.int k),some e,some x4] s2=.ok (.nx [some (.loc l),some d,some (.int k),some e,some (.lst (z++[.tup (T++[.int 0]++U),rv,aa,rr,o,.tup [d]]))]) s3:=fun d g rv aa rr x4 z hz hx4 x1 x2 x3 x5 x6 x7=>by
   subst hx4;rw [vQ,zV,yn];simp only [jJ,zB,zH,x7,yn,z5u,vB,jS,zO,z0G,z0v,ye,List.getElem?_cons_succ,List.getElem?_cons_zero,R.bind_ok,x1,x2,x3,x5,x6,e3,z3K,List.length_append,List.length_cons,List.length_nil,Nat.zero_add,if_pos c1,if_pos c2,if_pos c4,if_pos c5,zf4,hz,Nat.reduceAdd,if_pos c6,List.set_cons_succ,List.set_cons_zero]
  exact key _ (.lst []) _ _ _ _ _ rfl rfl (sk s2) (sd s2) (gl s2) ad rp rv
 obtain ⟨r4,s4,e4,a4,b4,d4⟩:=vg (f:=zc 0) (g:=eC (.int 10)) (far:=10) (Z:=[some (.loc l),some (rD v),some (.int k),some e,some (.lst M10)]) d3.pot (by decide) (jH (by decide)) (by simp) (by simp);have hr4:r4.toNat<M10.length:=by simp [M10];omega
 have ix4:=uv (xs:=M10) (d:=M10[r4.toNat]) (s:=s4) a4 (by simp [hr4]);have hM:∀ d∈M10,Bn (m+1) d:=by
  have bent:Bn (m+1) (.tup (T++[e]++W)):=Bn.tup fun x hx=>by
   simp only [List.mem_append,List.mem_cons,List.not_mem_nil,or_false] at hx;rcases hx with (hx | rfl) | hx;·exact hrow x (iT x hx)
   ·exact he
   ·exact hrow x (iW x hx)
  intro d hd;simp only [M10,List.mem_cons,List.not_mem_nil,or_false] at hd;rcases hd with rfl | rfl | rfl | rfl | rfl | rfl | rfl | rfl | rfl | rfl;·exact bent
  ·exact bent
  ·refine Bn.tup fun x hx=>?_;rcases List.mem_append.mp hx with hx | hx;·exact hrow x (iT x hx)
   ·exact hrow x (iW x hx)
  ·exact Bn.other rfl (by intro xs q;cases q)
  ·refine Bn.tup fun x hx=>?_;simp only [List.mem_append,List.mem_cons,List.not_mem_nil,or_false] at hx;rcases hx with (hx | rfl) | hx;·exact hrow x (iT x hx)
   ·exact ⟨rfl,fun i q=>by cases q;exact Nat.pow_pos (by decide)⟩
   ·exact hrow x (iU x hx)
  ·exact Bn.tup fun x hx=>hrow x (List.mem_reverse.mp hx)
  ·exact Bn.tup fun x hx=>(List.mem_append.mp hx).elim (hrow x) (hrow x)
  ·refine Bn.tup fun x hx=>?_;rw [(List.mem_replicate.mp hx).2];exact ⟨rfl,fun i q=>by cases q;exact Nat.pow_pos (by decide)⟩
  ·exact zi8 ho (by omega)
  ·refine Bn.tup fun x hx=>?_;simp only [List.mem_cons,List.not_mem_nil,or_false] at hx;subst hx;exact ⟨rfl,fun i q=>by cases q⟩
 refine ⟨M10[r4.toNat],s4,?_,hM _ (List.getElem_mem hr4),((d1.trans d2).trans d3).trans d4⟩;simp only [ul,Mof,z1t,st,List.length_cons,List.length_nil,if_true];rw [zi q1,zi q2,zi q3,zi q4,zi q5,z0z,yo,yn];simp only [zO,List.getElem?_cons_succ,List.getElem?_cons_zero,R.bind_ok];rw [e4,R.bind_ok,ix4,R.bind_ok]
end Pn
namespace Pm
end Pm
namespace Pg
open PySem.Spec L2 Dd Pm
theorem vr{i:Nat}{Z:Ev}{s:Sto}{d:D}(h:Z[i]? = some (some d)):zc i Z s=.ok d s:=by rw [zO,h]
theorem zfD{f g:FS}{t:FT}{Z:Ev}{s:Sto}(h:t Z s=.ok false s):fIf t f g Z s=g Z s:=by rw [z2w,h,R.bind_ok,if_neg (by decide)]
theorem zbD{f:FE}{Z:Ev}{s:Sto}{b:Bool}(h:f Z s=.ok (.bl b) s):tOf f Z s=.ok b s:=by rw [um,h];rfl
theorem zkP{t:FT}{Z:Ev}{s:Sto}(h:t Z s=.ok true s):z40 t Z s=.ok false s:=by rw [z4Y,h];rfl
structure Sh(r:Rl)(n:Nat)(v:List Int)(ls:List (List Int))(z:List Int)(k:Nat)(B:Tb)(b:List Int):Prop where
 run:Run r v ls
 len:ls.length<=50000
 last:ls.getLast? = some z
 lot:Lot n z
 kn:k<n
 zk:z.getD k 0=zkA v
 zo:∀ j,j≠k->z.getD j 0=0
 g0:0<zkA v
 B_:B=zjL (wd n (zm r ls))
 tab:Tab n B
 bd:Bd 318 B
 fair:zkK (wd n (zm r ls))
 ptab:Tab n (wd n (zm r ls))
 pbd:Bd 104 (wd n (zm r ls))
 mvB:mv B v=z
 at_:B[k]? = some b
 fz:B.filter (fun x=>decide (dot x v=0))=B.eraseIdx k
 fn:B.filter (fun x=>decide (dot x v≠0))=[b]
 det:((Pm.det 4 (v::B.eraseIdx k)).natAbs:Int)*zkA v=dot v v
end Pg
namespace Pm
end Pm
namespace Pg
open PySem.Spec L2 Dd Pm
variable (Mr:Mir)
abbrev w1:FT:=tOf (eOp dLe (eOp zja (zc 1) (eC (.int 3))) (zc 0))
abbrev w2:FT:=tOf (eOp dGt (eOp zja (zc 1) (eC (.int 3))) (zc 0))
end Pg
namespace Pm
end Pm
namespace Pg
open PySem.Spec L2 Dd Pm
theorem za2:∀ xs:List D,z1f xs xs=xs.map fun x=>D.tup [x,x]
 | []=>rfl | x::xs=>by simp [z1f,za2 xs]
section
variable (Mr:Mir)
theorem same_int(i:Int)(s:Sto):Mof ["_law_found","_law_due"] 2 (xb Mr) [.int i,.int i] s=.ok (.bl true) s:=by simp [Mof,xb,zr,gIs,tyD,isT,dIs,ka,ju]
theorem zcD(i:Bool)(s:Sto):Mof ["_law_found","_law_due"] 2 (xb Mr) [.bl i,.bl i] s=.ok (.bl true) s:=by simp [Mof,xb,zr,gIs,tyD,isT,dIs]
theorem z5k {xs:List D} {d:D} (hd:d=.tup xs\/d=.lst xs) (hl:xs.length<=cap) (s:Sto) (h:∀ x∈xs,Mr [x,x] s=.ok (.bl true) s):Mof ["_law_found","_law_due"] 2 (xb Mr) [d,d] s=.ok (.bl true) s:=by
 have st:zr ["_law_found","_law_due"] [d,d]=[some d,some d]:=rfl;have cp:=comp_map (fi:=z86 (za (zc 0) (za (zc 1) zh))) (mp:=[none,none]) (fg:=wf 0 1) (fe:=ze Mr (za (zc 0) (za (zc 1) zh))) (Z:=[some d,some d]) (s:=s) (fun x=>D.tup [x,x]) (fun _=>D.bl true) (fun x=>[some x,some x]) xs (by rcases hd with rfl | rfl<;>simp [z46,za2]) (fun x _=>by simp) (fun x hx=>by rw [call2 (x:=x) (y:=x) (by simp) (by simp)];exact h x hx) hl;have ga:ze zap (za (zA (z86 (za (zc 0) (za (zc 1) zh))) [none,none] (wf 0 1) zX (ze Mr (za (zc 0) (za (zc 1) zh)))) zh) [some d,some d] s=.ok (.bl true) s:=by
  rw [wz cp];exact z6j s (by intro x hx;obtain ⟨_,_,rfl⟩:=List.mem_map.mp hx;rfl)
 simp only [Mof,xb,st,List.length_cons,List.length_nil,if_true];have e1:ze yJ (za (zc 0) zh) [some d,some d] s=.ok (.int xs.length) s:=by rcases hd with rfl | rfl<;>simp [yJ,zJ]
 have e2:ze yJ (za (zc 1) zh) [some d,some d] s=.ok (.int xs.length) s:=by rcases hd with rfl | rfl<;>simp [yJ,zJ]
 have f1:jA Mr [some d,some d] s=.ok (.nx [some d,some d]) s:=by rcases hd with rfl | rfl<;>simp [dIs]
 have f3:jD Mr [some d,some d] s=.ok (.nx [some d,some d]) s:=by rcases hd with rfl | rfl<;>simp [gIs,tyD,isT]
 have f5:js Mr [some d,some d] s=.ok (.nx [some d,some d]) s:=by rcases hd with rfl | rfl<;>simp [gIs,tyD,isT]
 have f7:jx Mr [some d,some d] s=.ok (.nx [some d,some d]) s:=by rcases hd with rfl | rfl<;>simp [gIs,tyD,isT]
 have f9:jw Mr [some d,some d] s=.ok (.nx [some d,some d]) s:=by rcases hd with rfl | rfl<;>simp [gIs,tyD,isT]
 have f11:vm Mr [some d,some d] s=.ok (.rt (.bl true)) s:=by
  rw [vm,yo,z9j,op2 e1 e2,z81];simp only [R.bind_ok,decide_true];rw [ga];rfl
 rw [zi f1,zi f3,zi f5,zi f7,zi f9,f11]
end
abbrev v1:FT:=tOf (eOp dLe (eOp va (eOp va (zc 2) (zc 2)) (zc 2)) (zc 0))
abbrev v2:FT:=tOf (eOp dGt (eOp zd6 (zc 2) (zc 1)) (eC (.int 1)))
theorem uZ{ar:FA}{Z:Ev}{s s1:Sto}{n:Nat}(hn:n<=1000)(h:ar Z s=.ok [.int n] s1):qh ar Z s=.ok ((List.range n).map fun k:Nat=>D.int ((k:Nat):Int),[]) s1:=by
 rw [zf3,h,Dd.R.bind_ok];simp only;rw [if_pos ⟨by omega,by omega⟩];simp [yK]
theorem three{ys:List D}{Q:D->Prop}(h:ys.length=3)(hq:∀ y∈ys,Q y):∃ a b c,ys=[a,b,c]/\Q a/\Q b/\Q c:=by match ys,h with | [a,b,c],_=>exact ⟨a,b,c,rfl,hq a (by simp),hq b (by simp),hq c (by simp)⟩
end Pg
namespace Pn
open PySem.Spec L2 Dd Pm Pg
theorem z0C{α:Type}{gd:List (Nat×List D)}{all:List D}{s:Sto}{body:D->Sto->R (Option D)}(hg:okG gd all s)(g f:α->D):∀ (l:List α)(acc:List D),(∀ a∈l,body (g a) s=.ok (some (f a)) s)->acc.length+l.length<=cap->wR gd all body (l.map g) acc s=.ok (acc++l.map f) s
 | [],acc,_,_=>by simp [wR,hg] | x::xs,acc,hb,hl=>by
  have ih:=z0C (all:=all) hg g f xs (acc++[f x]) (fun y hy=>hb y (by simp [hy])) (by simp at hl ⊢;omega);have hc:acc.length<cap:=by simp at hl;omega
  rw [List.map_cons,wR,if_pos hg,hb x (by simp)];simp [hc,ih]
theorem zfu {t v f ln:Option D} {m k:Nat} (s:Sto) (hm:m<=2000) (hk:k<=2000):∀ (ps:List (Int×Int)) (tot:Int) (all:List D) (a b:Option D),(∀ p∈ps,p.1.natAbs<2 ^ m/\p.2.natAbs<2 ^ k)-> ∃ a' b',yZ [] all (fun d Z s=>(wf 5 6 d Z s).bind fun Z' s'=>ud Z' s') (ps.map fun p=>D.tup [.int p.1,.int p.2]) [t,v,f,ln,some (.int tot),a,b] s=.ok (.nx [t,v,f,ln,some (.int (tot+(ps.map fun p=>p.1*p.2).sum)),a',b']) s
 | [],tot,all,a,b,_=>⟨a,b,by simp [yZ,okG]⟩ | p::ps,tot,all,a,b,h=>by
  obtain ⟨h1,h2⟩:=h p (by simp);obtain ⟨a',b',ih⟩:=zfu (t:=t) (v:=v) (f:=f) (ln:=ln) s hm hk ps (tot+p.1*p.2) all (some (.int p.1)) (some (.int p.2)) fun q hq=>h q (by simp [hq]);refine ⟨a',b',?_⟩;have og:okG [] all s:=by intro p hp;simp at hp
  have mm:=zbi s h1 hm h2 hk;have e:ud [t,v,f,ln,some (.int tot),some (.int p.1),some (.int p.2)] s=.ok (.nx [t,v,f,ln,some (.int (tot+p.1*p.2)),some (.int p.1),some (.int p.2)]) s:=by simp [mm]
  rw [List.map_cons,yZ,if_pos og,zbt,R.bind_ok];simp only [List.set_cons_succ,List.set_cons_zero];rw [e,R.bind_ok];simp only [List.map_cons,List.sum_cons];rw [<- Int.add_assoc];exact ih
theorem zgV(r v:List Int):((List.zip r v).map fun p=>p.1*p.2).sum=dot r v:=by unfold dot;rw [zw]
theorem zh4{s:Sto}{x y:List D}:(s++[x]).set s.length y=s++[y]:=by simp
abbrev zk7:D->Ev->Sto->R Fl:=fun d Z s=>(yE 3 d Z s).bind fun Z' s'=>(zE wX (zE xN xX)) Z' s'
theorem zdi {T v:D} {r vs:List Int} {m k:Nat} {s:Sto} {acc:List Int} (a3 a4 a5 a6:Option D) (hv:z46 (s++[iL acc]) v=some (iL vs,[])) (hr:∀ x∈r,x.natAbs<2 ^ m) (hvs:∀ x∈vs,x.natAbs<2 ^ k) (hm:m<=2000) (hk:k<=2000) (ha:acc.length<1000): ∃ b4 b5 b6,zk7 (rD r) [some T,some v,some (.loc s.length),a3,a4,a5,a6] (s++[iL acc])=.ok (.nx [some T,some v,some (.loc s.length),some (rD r),b4,b5,b6]) (s++[iL (acc++[dot r vs])]):=by
 obtain ⟨a',b',lp⟩:=zfu (t:=some T) (v:=some v) (f:=some (.loc s.length)) (ln:=some (rD r)) (m:=m) (k:=k) (s++[iL acc]) hm hk (List.zip r vs) 0 (z1f (iL r) (iL vs)) a5 a6 fun p hp=>⟨hr _ (List.of_mem_zip hp).1,hvs _ (List.of_mem_zip hp).2⟩;refine ⟨some (.int (dot r vs)),a',b',?_⟩;rw [show zk7 (rD r) [some T,some v,some (.loc s.length),a3,a4,a5,a6] (s++[iL acc])=zE wX (zE xN xX) [some T,some v,some (.loc s.length),some (rD r),a4,a5,a6] (s++[iL acc]) from rfl];have f3:wX [some T,some v,some (.loc s.length),some (rD r),a4,a5,a6] (s++[iL acc])=.ok (.nx [some T,some v,some (.loc s.length),some (rD r),some (.int 0),a5,a6]) (s++[iL acc]):=rfl;have f4:xN [some T,some v,some (.loc s.length),some (rD r),some (.int 0),a5,a6] (s++[iL acc])=.ok (.nx [some T,some v,some (.loc s.length),some (rD r),some (.int (dot r vs)),a',b']) (s++[iL acc]):=by
  rw [xN,z05,zcL];simp only [zB,zH,zO,List.getElem?_cons_zero,List.getElem?_cons_succ,R.bind_ok,hv,show z46 (s++[iL acc]) (rD r)=some (iL r,[]) from rfl,List.append_nil];rw [z5A] at lp ⊢;rw [zgV,Int.zero_add] at lp;exact lp
 have f6:xX [some T,some v,some (.loc s.length),some (rD r),some (.int (dot r vs)),a',b'] (s++[iL acc])=.ok (.nx [some T,some v,some (.loc s.length),some (rD r),some (.int (dot r vs)),a',b']) (s++[iL (acc++[dot r vs])]):=by rw [xX,zeP (L:=s.length) (xs:=acc) (x:=dot r vs) (s2:=s++[iL acc]) rfl rfl (by simp) ha,zh4]
 rw [zi f3,zi f4,f6]
theorem z9q {T v:D} {vs:List Int} {m k:Nat} {s:Sto} (hv:∀ acc,z46 (s++[iL acc]) v=some (iL vs,[])) (hvs:∀ x∈vs,x.natAbs<2 ^ k) (hm:m<=2000) (hk:k<=2000):∀ (Rs acc:List (List Int)) (ac:List Int) (all:List D) (a3 a4 a5 a6:Option D),(∀ r∈Rs,∀ x∈r,x.natAbs<2 ^ m)->ac.length+Rs.length<=1000-> ∃ b3 b4 b5 b6,yZ [] all zk7 (Rs.map rD) [some T,some v,some (.loc s.length),a3,a4,a5,a6] (s++[iL ac])=.ok (.nx [some T,some v,some (.loc s.length),b3,b4,b5,b6]) (s++[iL (ac++mv Rs vs)])
 | [],acc,ac,all,a3,a4,a5,a6,_,_=>⟨a3,a4,a5,a6,by simp [yZ,okG,mv]⟩ | r::Rs,acc,ac,all,a3,a4,a5,a6,h,hl=>by
  obtain ⟨b4,b5,b6,e⟩:=zdi (T:=T) (v:=v) (r:=r) (vs:=vs) (m:=m) (k:=k) (s:=s) (acc:=ac) a3 a4 a5 a6 (hv ac) (h r (by simp)) hvs hm hk (by simp at hl;omega);obtain ⟨c3,c4,c5,c6,ih⟩:=z9q hv hvs hm hk Rs acc (ac++[dot r vs]) all (some (rD r)) b4 b5 b6 (fun q hq=>h q (by simp [hq])) (by simp at hl ⊢;omega);refine ⟨c3,c4,c5,c6,?_⟩;have og:okG [] all (s++[iL ac]):=by intro p hp;simp at hp
  rw [List.map_cons,yZ,if_pos og,e,R.bind_ok];simp only [mv,List.map_cons] at ih ⊢;rw [ih,List.append_assoc,List.singleton_append]
theorem zkf{A:Tb}{v:D}{vs:List Int}{m k:Nat}(s:Sto)(hv:v=.tup (iL vs)\/v=.lst (iL vs))(hA:Bd m A)(hvs:∀ x∈vs,x.natAbs<2 ^ k)(hm:m<=2000)(hk:k<=2000)(hl:A.length<=1000):wZ [tD A,v] s=.ok (rD (mv A vs)) s:=by
 have sv:∀ acc,z46 (s++[iL acc]) v=some (iL vs,[]):=fun acc=>by rcases hv with rfl | rfl<;>rfl
 obtain ⟨b3,b4,b5,b6,lp⟩:=z9q (T:=tD A) sv hvs hm hk A [] [] (A.map rD) none none none none hA (by simp;omega);have f1:ui [some (tD A),some v,none,none,none,none,none] s=.ok (.nx [some (tD A),some v,some (.loc s.length),none,none,none,none]) (s++[iL []]):=by rw [ui,zV,z1J,zH,R.bind_ok,if_pos ⟨by decide,rfl⟩];rfl
 have f2:uj [some (tD A),some v,some (.loc s.length),none,none,none,none] (s++[iL []])=.ok (.nx [some (tD A),some v,some (.loc s.length),b3,b4,b5,b6]) (s++[iL (mv A vs)]):=by
  rw [uj,z05,z66 (xs:=A.map rD) (vr rfl),R.bind_ok];exact lp
 have f7:vY [some (tD A),some v,some (.loc s.length),b3,b4,b5,b6] (s++[iL (mv A vs)])=.ok (.rt (rD (mv A vs))) (s++[iL (mv A vs)]):=by
  rw [vY,yo,wz (x:=.loc s.length) (vr rfl)];have:(s++[iL (mv A vs)])[s.length]? = some (iL (mv A vs)):=by simp
  simp only [yc,zJ,this,R.bind_ok]
 simp only [wZ,z8j,Mof,z02];rw [show zr ["_law_table_here","_law_numbers","_law_found","_law_line","_law_total","_law_one","_law_other"] [tD A,v]=[some (tD A),some v,none,none,none,none,none] from rfl];simp only [List.length_cons,List.length_nil,if_true];rw [zi f1,zi f2,f7];simp only [];rw [z9a,List.take_left'];rfl
theorem zjo {B:Tb} {n j:Nat} {f g:FE} {mp:List (Option Nat)} {d:D} {Z:Ev} (s:Sto) (hd:d=.tup (B.map rD)\/d=.lst (B.map rD)) (hb:∀ r∈B,r.length=n) (hj:j<n) (hl:B.length<=1000) (hf:f Z s=.ok d s) (hm:xh mp Z=[some (.int (j:Int)),none]): zA (yx f) mp (yE 1) zX (eOp dIx (zc 1) (zc 0)) Z s=.ok (.lst (iL (B.map fun r=>r.getD j 0))) s:=by
 have hi:yx f Z s=.ok (B.map rD,[]) s:=by rcases hd with rfl | rfl<;>simp [hf]
 rw [comp_map (fi:=yx f) (mp:=mp) (fg:=yE 1) (fe:=eOp dIx (zc 1) (zc 0)) (Z:=Z) (s:=s) rD (fun r=>D.int (r.getD j 0)) (fun r=>[some (.int (j:Int)),some (rD r)]) B hi (fun a _=>by rw [hm];rfl) (fun r hr=>by
    have hkr:j<r.length:=by rw [hb r hr];exact hj
    have:=z6U (xs:=iL r) (j:=j) (d:=.int (r.getD j 0)) s (by simp [List.getElem?_map,List.getElem?_eq_getElem hkr,List.getD]);rw [op2 (x:=rD r) (y:=.int (j:Int)) rfl rfl];exact this) (by simp [cap];omega)];rw [show iL (B.map fun r=>r.getD j 0)=B.map fun r=>D.int (r.getD j 0) by rw [iL,List.map_map];rfl]
theorem zhX{B:Tb}{n j k:Nat}(hb:∀ r∈B,r.length=n)(hj:j<n)(hB:Bd k B):∀ x∈(B.map fun r=>r.getD j 0),x.natAbs<2 ^ k:=fun x hx=>by
 obtain ⟨r,hr,rfl⟩:=List.mem_map.mp hx;have hkr:j<r.length:=by rw [hb r hr];exact hj
 exact hB r hr _ (by rw [List.getD_eq_getElem?_getD,List.getElem?_eq_getElem hkr];exact List.getElem_mem hkr)
theorem ze8 {n:Nat} {A B:Tb} {m k:Nat} {dA dB:D} (s:Sto) (hdA:dA=tD A) (hdB:dB=.tup (B.map rD)) (n4:n<=4) (ha:A.length=n) (hbl:B.length=n) (hb:∀ r∈B,r.length=n) (hA:Bd m A) (hB:Bd k B) (hm:m<=2000) (hk:k<=2000): zA (qh (za (zc 2) zh)) [some 0,some 1,none] (yE 2) zX (ze wZ (za (zc 0) (za (zA (yx (zc 1)) [some 2,none] (yE 1) zX (eOp dIx (zc 1) (zc 0))) zh))) [some dA,some dB,some (.int n),none] s=.ok (.lst (((yC B).map (mv A)).map rD)) s:=by
 rw [comp_map (fun j:Nat=>D.int (j:Int)) (fun j=>rD (mv A (B.map fun r=>r.getD j 0))) (fun j=>[some dA,some dB,some (.int (j:Int))]) (List.range n) (uZ (by omega) (by simp)) (fun a _=>by simp) (fun j hj=>?_) (by simp [cap];omega)];·rw [yC,hbl,List.map_map,List.map_map];rfl
 ·have hj':j<n:=by simpa using hj
  have ci:=zjo (f:=zc 1) (g:=zc 0) (mp:=[some 2,none]) (Z:=[some dA,some dB,some (.int (j:Int))]) s (.inl hdB) hb hj' (by omega) rfl rfl;rw [call2 (x:=dA) (y:=.lst (iL (B.map fun r=>r.getD j 0))) rfl ci,hdA];exact zkf s (.inr rfl) hA (zhX hb hj' hB) hm hk (by omega)
theorem zdu {n:Nat} {S:Tb} {dA dB dS:D} (s:Sto) (hdS:dS=.lst (S.map rD)) (n4:n<=4) (lS:S.length=n) (rS:∀ r∈S,r.length=n): zA (qh (za (zc 2) zh)) [some 3,none] (yE 1) zX (ze yc (za (zA (yx (zc 0)) [some 1,none] (yE 1) zX (eOp dIx (zc 1) (zc 0))) zh)) [some dA,some dB,some (.int n),some dS] s=.ok (.lst ((yC S).map rD)) s:=by
 rw [comp_map (fun j:Nat=>D.int (j:Int)) (fun j=>rD (S.map fun r=>r.getD j 0)) (fun j=>[some dS,some (.int (j:Int))]) (List.range n) (uZ (by omega) (by simp)) (fun a _=>by simp) (fun j hj=>?_) (by simp [cap];omega)];·rw [yC,lS,List.map_map];rfl
 ·have hj':j<n:=by simpa using hj
  have ci:=zjo (f:=zc 0) (g:=zc 0) (mp:=[some 1,none]) (Z:=[some dS,some (.int (j:Int))]) s (.inr hdS) rS hj' (by omega) rfl rfl;rw [wz ci];rfl
theorem zi6{n:Nat}{dA dB dS:D}{xs:List D}(s:Sto)(g1:yJ [dA] s=.ok (.int n) s) (c2:zA (qh (za (zc 2) zh)) [some 0,some 1,none] (yE 2) zX (ze wZ (za (zc 0) (za (zA (yx (zc 1)) [some 2,none] (yE 1) zX (eOp dIx (zc 1) (zc 0))) zh))) [some dA,some dB,some (.int n),none] s=.ok dS s) (c3:zA (qh (za (zc 2) zh)) [some 3,none] (yE 1) zX (ze yc (za (zA (yx (zc 0)) [some 1,none] (yE 1) zX (eOp dIx (zc 1) (zc 0))) zh)) [some dA,some dB,some (.int n),some dS] s=.ok (.lst xs) s):wa [dA,dB] s=.ok (.tup xs) s:=by
 have st:zr ["_law_one","_law_other","_law_size","_law_sides"] [dA,dB]=[some dA,some dB,none,none]:=rfl;have f1:wB [some dA,some dB,none,none] s=.ok (.nx [some dA,some dB,some (.int n),none]) s:=by rw [wB,zV,wz (x:=dA) (vr rfl),g1];rfl
 have f2:wE [some dA,some dB,some (.int n),none] s=.ok (.nx [some dA,some dB,some (.int n),some dS]) s:=by rw [wE,zV,c2];rfl
 have f3:wy [some dA,some dB,some (.int n),some dS] s=.ok (.rt (.tup xs)) s:=by rw [wy,yo,wz c3];rfl
 simp only [wa,Mof,uF,st,List.length_cons,List.length_nil,if_true];rw [zi f1,zi f2,f3]
theorem zfN{n:Nat}{A B:Tb}{m k:Nat}(s:Sto)(hn:Sz n)(ha:Tab n A)(hb:Tab n B)(hA:Bd m A)(hB:Bd k B)(hm:m<=2000)(hk:k<=2000):wa [tD A,tD B] s=.ok (tD (z0w A B)) s:=by
 have n4:n<=4:=by unfold Sz at hn;omega
 have g1:yJ [tD A] s=.ok (.int n) s:=by simp [yJ,zJ,ha.len]
 exact zi6 s g1 (ze8 s rfl rfl n4 ha.len hb.len hb.row hA hB hm hk) (zdu (S:=(yC B).map (mv A)) s rfl n4 (by simp [yC,hb.len]) (fun r hr=>by
  obtain ⟨c,_,rfl⟩:=List.mem_map.mp hr;simp [mv,ha.len]))
theorem z7e{α:Type}{n:Nat}{lt lt':Nat->Nat->Bool}(h:∀ i j,i<n->j<n->lt i j=lt' i j):∀ t:W.KasT α,kev n lt t=kev n lt' t
 | .ret a=>rfl | .ask i j k=>by
  unfold kev;split
  ·rename_i hij;rw [h i j hij.1 hij.2];exact z7e h _
  ·rfl
def mt(a b c d e f:Bool):Nat->Nat->Bool
 | 0,1=>a | 0,2=>b | 0,3=>c | 1,2=>d | 1,3=>e | 2,3=>f | 1,0=>!a | 2,0=>!b | 3,0=>!c | 2,1=>!d | 3,1=>!e | 3,2=>!f | _,_=>false
def trn(n:Nat)(lt:Nat->Nat->Bool):Bool:=(List.range n).all fun i=>(List.range n).all fun j=>(List.range n).all fun k=>!(lt i j&&lt j k)||lt i k
def gud(n:Nat)(lt:Nat->Nat->Bool):Bool:=match kev n lt (W.kas_sort n) with
 | none=>false | some p=>decide (p.toList.Perm (List.range n))&&decide (p.toList.Pairwise fun i j=>lt i j=true)
theorem zmU:∀ a b c d e f:Bool,trn 2 (mt a b c d e f)=true->gud 2 (mt a b c d e f)=true:=by decide +kernel
theorem zmW:∀ a b c d e f:Bool,trn 3 (mt a b c d e f)=true->gud 3 (mt a b c d e f)=true:=by decide +kernel
theorem zmd:∀ a b c d e f:Bool,trn 4 (mt a b c d e f)=true->gud 4 (mt a b c d e f)=true:=by decide +kernel
theorem z3k{n:Nat}{lt lt':Nat->Nat->Bool}(h:∀ i j,i<n->j<n->lt i j=lt' i j)(g:gud n lt'=true):∃ p,kev n lt (W.kas_sort n)=some p/\p.toList.Perm (List.range n)/\p.toList.Pairwise fun i j=>lt i j=true:=by
 unfold gud at g;rw [<- z7e h] at g;cases e:kev n lt (W.kas_sort n) with
 | none=>rw [e] at g;cases g | some p=>
  rw [e] at g;simp only [Bool.and_eq_true,decide_eq_true_eq] at g;refine ⟨p,rfl,g.1,?_⟩;refine List.Pairwise.imp_of_mem (fun {i j} hi hj q=>?_) g.2;rw [h i j (List.mem_range.mp (g.1.mem_iff.mp hi)) (List.mem_range.mp (g.1.mem_iff.mp hj))];exact q
theorem zax{n:Nat}{lt:Nat->Nat->Bool}(h2:2<=n)(h4:n<=4)(irr:∀ i,lt i i=false)(tot:∀ i j,i<n->j<n->i≠j->lt j i=!lt i j)(tr:∀ i j k,lt i j=true->lt j k=true->lt i k=true): ∃ p,kev n lt (W.kas_sort n)=some p/\p.toList.Perm (List.range n)/\p.toList.Pairwise fun i j=>lt i j=true:=by
 have eqm:∀ i j,i<n->j<n->lt i j=mt (lt 0 1) (lt 0 2) (lt 0 3) (lt 1 2) (lt 1 3) (lt 2 3) i j:=fun i j hi hj=>by
  have hi':i=0\/i=1\/i=2\/i=3:=by omega
  have hj':j=0\/j=1\/j=2\/j=3:=by omega
  by_cases e:i=j
  ·subst e;rw [irr];rcases hi' with rfl | rfl | rfl | rfl<;>rfl
  ·have q:=tot j i hj hi (fun z=>e z.symm);rcases hi' with rfl | rfl | rfl | rfl<;>rcases hj' with rfl | rfl | rfl | rfl<;>first | exact absurd rfl e | rfl | exact q
 have tm:trn n (mt (lt 0 1) (lt 0 2) (lt 0 3) (lt 1 2) (lt 1 3) (lt 2 3))=true:=by
  simp only [trn,List.all_eq_true,List.mem_range];intro i hi j hj k hk;rw [<- eqm i j hi hj,<- eqm j k hj hk,<- eqm i k hi hk];cases a:lt i j<;>cases b:lt j k<;>simp;exact tr i j k a b
 have hn:n=2\/n=3\/n=4:=by omega
 rcases hn with rfl | rfl | rfl;·exact z3k eqm (zmU _ _ _ _ _ _ tm)
 ·exact z3k eqm (zmW _ _ _ _ _ _ tm)
 ·exact z3k eqm (zmd _ _ _ _ _ _ tm)
theorem zcH(p:Int×Int):lexLt p p=false:=by simp [Dd.lexLt]
theorem zgA{p q:Int×Int}(h:p≠q):lexLt q p=!lexLt p q:=by
 obtain ⟨a,b⟩:=p;obtain ⟨c,d⟩:=q;simp only [Dd.lexLt];by_cases e:a=c
 ·subst e;have:b≠d:=fun z=>h (by rw [z]);simp only [if_true,this,this.symm,if_false];by_cases l:b<d;·simp [l];omega
  ·simp [l];omega
 ·have e':¬ c=a:=fun z=>e z.symm;simp only [e,e',if_false];by_cases l:a<c;·simp [l];omega
  ·simp [l];omega
theorem zbJ{p q:Int×Int}:Dd.lexLt p q=true ↔ p.1<q.1\/(p.1=q.1/\p.2<q.2):=by
 obtain ⟨a,b⟩:=p;obtain ⟨c,d⟩:=q;simp only [Dd.lexLt];by_cases e:a=c
 ·subst e;by_cases e2:b=d
  ·subst e2;simp
  ·simp [e2]
 ·simp [e]
theorem ziS{p q r:Int×Int}(h:Dd.lexLt p q=true)(h':Dd.lexLt q r=true):Dd.lexLt p r=true:=by
 rw [zbJ] at *;omega
abbrev pD(p:Int×Int):D:=.tup [.int p.1,.int p.2]
theorem z4S:∀ ps:List (Int×Int),z1I (ps.map pD)=some ps
 | []=>rfl | p::ps=>by simp [z1I,z4S ps]
theorem z7Y {ps:List (Int×Int)} (h2:2<=ps.length) (h4:ps.length<=4) (nd:ps.Nodup) (s:Sto): ∃ qs:List (Int×Int),z3N [.lst (ps.map pD)] s=.ok (.lst (qs.map pD)) s/\qs.Perm ps/\qs.Pairwise fun a b=>Dd.lexLt a b=true:=by
 obtain ⟨p,e,pm,pw⟩:=zax (n:=ps.length) (lt:=fun i j=>Dd.lexLt (ps.getD i (0,0)) (ps.getD j (0,0))) h2 h4 (fun i=>zcH _) (fun i j hi hj hij=>zgA fun z=>hij (by
  rw [List.getD_eq_getElem?_getD,List.getD_eq_getElem?_getD,List.getElem?_eq_getElem hi,List.getElem?_eq_getElem hj] at z;exact (List.getElem_inj nd).mp (by simpa using z))) (fun i j k a b=>ziS a b);have hin:∀ i∈p.toList,i<ps.length:=fun i hi=>List.mem_range.mp (pm.mem_iff.mp hi);have hlen:p.toList.length=ps.length:=by rw [pm.length_eq,List.length_range]
 refine ⟨p.toList.map fun i=>ps.getD i (0,0),?_,?_,?_⟩
 ·have em:(p.toList.map fun i=>(ps.map pD).getD i .non)=(p.toList.map fun i=>ps.getD i (0,0)).map pD:=by
   rw [List.map_map];refine List.map_congr_left fun i hi=>?_;have:=hin i hi;simp [List.getD_eq_getElem?_getD,this]
  have all:p.toList.all (fun i=>decide (i<(ps.map pD).length))=true:=by
   rw [List.all_eq_true];intro i hi;simpa using hin i hi
  simp only [z3N,Dd.listOf,z4S,List.length_map];rw [if_pos ⟨h2,by omega⟩,e];simp only;rw [if_pos ⟨by simpa using all,hlen⟩,em]
 ·have:=pm.map fun i=>ps.getD i (0,0);refine this.trans ?_;have:(List.range ps.length).map (fun i=>ps.getD i (0,0))=ps:=by
   apply List.ext_getElem;·simp
   ·intro i h1 h2;simp [List.getD_eq_getElem?_getD,h2]
  rw [this]
 ·rw [List.pairwise_map];exact pw
end Pn
namespace Pm
open L2 (maxL minL maxL_ge maxL_mem minL_le minL_mem)
abbrev enP(v:List Int):List (Int×Nat):=v.zipIdx
def z69(v:List Int):List (Int×Int):=((enP v).filter fun p=>decide (0<p.1)).map fun p=>(p.1,(p.2:Int))
theorem z8D{v:List Int}{p:Int×Nat}:p∈enP v ↔ v[p.2]? = some p.1:=by
 obtain ⟨x,i⟩:=p;exact List.mem_zipIdx_iff_getElem?
theorem kJ{v:List Int}{a:Int×Int}:a∈z69 v ↔ ∃ i:Nat,a.2=i/\v[i]? = some a.1/\0<a.1:=by
 unfold z69;simp only [List.mem_map,List.mem_filter,decide_eq_true_eq];constructor
 ·rintro ⟨p,⟨hp,h0⟩,rfl⟩;exact ⟨p.2,rfl,z8D.mp hp,h0⟩
 ·rintro ⟨i,e,g,h0⟩;exact ⟨(a.1,i),⟨z8D.mpr g,h0⟩,by rw [<- e]⟩
theorem zcv{x:Int}:∀ {v:List Int}{i:Nat},v[i]? = some x->v.idxOf x<=i
 | [],i,h=>by simp at h | y::v,0,h=>by
  simp only [List.getElem?_cons_zero,Option.some.injEq] at h;subst h;simp | y::v,i+1,h=>by
  simp only [List.getElem?_cons_succ] at h;have:=zcv h;rw [List.idxOf_cons];cases y==x<;>simp<;>omega
theorem getD_get{v:List Int}{i:Nat}(h:i<v.length):v[i]? = some (v.getD i 0):=by simp [List.getD_eq_getElem?_getD,h]
theorem z9P{w:List Int}{qs:List (Int×Int)}(hw:∀ x∈w,0<=x)(hn:nz w≠[])(hm:∀ a,a∈qs ↔ a∈z69 w)(pw:qs.Pairwise fun a b=>Dd.lexLt a b=true):∃ qo,qs=(minL (nz w),((lp w:Nat):Int))::qo:=by
 obtain ⟨l1,l2,l3⟩:=z8S hn;have mem:=minL_mem hn;have m0:0<minL (nz w):=by
  have:=hw _ (qu.mp mem).1;omega
 have hin:(minL (nz w),((lp w:Nat):Int))∈z69 w:=kJ.mpr ⟨lp w,rfl,by rw [getD_get l1,l2],m0⟩;cases qs with
 | nil=>exact absurd ((hm _).mpr hin) (by simp) | cons a qo=>
  refine ⟨qo,?_⟩;have ha:a∈z69 w:=(hm a).mp (.head _);obtain ⟨i,e,g,h0⟩:=kJ.mp ha;have an:a.1∈nz w:=qu.mpr ⟨List.mem_of_getElem? g,by omega⟩;have le1:=minL_le _ an;rcases List.mem_cons.mp ((hm _).mpr hin) with z | z;·rw [z]
  ·have lx:=Pn.zbJ.mp ((List.pairwise_cons.mp pw).1 _ z);simp only at lx;exfalso;rcases lx with q | ⟨q,q2⟩;·omega
   ·have:w.idxOf a.1<=i:=zcv g;rw [q] at this;have e2:lp w=w.idxOf (minL (nz w)):=rfl;omega
theorem z2V{n:Nat}{v:List Int}(h:Lot n v)(a:Int×Int):a∈z69 (others v) ↔ a∈z69 v/\a.2≠((gp v:Nat):Int):=by
 have ne:=h.ne;rw [kJ,kJ];constructor
 ·rintro ⟨i,e,g,h0⟩;have hi:i<(others v).length:=by
   have:=(List.getElem?_eq_some_iff.mp g).1;exact this
  have g2:=vq ne i;rw [getD_get hi,Option.some.injEq,g2] at g;split at g;·omega
  ·rename_i q;rw [wb ne] at hi;exact ⟨⟨i,e,by rw [getD_get hi,g],h0⟩,by omega⟩
 ·rintro ⟨⟨i,e,g,h0⟩,hg⟩;have hi:i<v.length:=(List.getElem?_eq_some_iff.mp g).1;rw [getD_get hi,Option.some.injEq] at g;refine ⟨i,e,?_,h0⟩;rw [getD_get (by rw [wb ne];exact hi),vq ne i,if_neg (by omega),g]
theorem z3o{n:Nat}{v:List Int}(h:Lot n v):∀ x∈others v,0<=x:=fun x hx=>by
 rw [others_eq h.ne] at hx;rcases List.mem_or_eq_of_mem_set hx with q | q;·exact h.nn x q
 ·omega
theorem zhx{w:List Int}{qs:List (Int×Int)}(hw:∀ x∈w,0<=x)(hn:nz w≠[])(hm:∀ a,a∈qs ↔ a∈z69 w):qs.map Prod.fst≠[]/\maxL (qs.map Prod.fst)=maxL w/\0<maxL w:=by
 have wne:w≠[]:=fun z=>hn (by rw [z];rfl);obtain ⟨y,hy⟩:=List.exists_mem_of_ne_nil _ hn;obtain ⟨y1,y2⟩:=qu.mp hy;have p0:0<maxL w:=by
  have:=hw y y1;have:=maxL_ge (xs:=w) y y1;omega
 have mw:=maxL_mem wne;obtain ⟨i1,i2⟩:=z7Z mw;have hin:(maxL w,((w.idxOf (maxL w):Nat):Int))∈qs:=(hm _).mpr (kJ.mpr ⟨_,rfl,by rw [getD_get i1,i2],p0⟩);have hin':maxL w∈qs.map Prod.fst:=List.mem_map.mpr ⟨_,hin,rfl⟩;have ne:qs.map Prod.fst≠[]:=List.ne_nil_of_mem hin';refine ⟨ne,?_,p0⟩;have h1:=maxL_ge _ hin';have h2:=maxL_mem ne;obtain ⟨a,ha,e⟩:=List.mem_map.mp h2;obtain ⟨i,_,g,_⟩:=kJ.mp ((hm a).mp ha);have h3:=maxL_ge (xs:=w) a.1 (List.mem_of_getElem? g);omega
theorem z9Z {w:List Int} {k:Int} (hk:k∈w) (p:Nat->Bool) (hp:∀ i,i<w.length->p i=decide (w.getD i 0=k)):∃ qo,(List.range w.length).filter p=w.idxOf k::qo:=by
 obtain ⟨i1,i2⟩:=z7Z hk;have f:(List.range w.length).find? p=some (w.idxOf k):=by
  rw [List.find?_range_eq_some];refine ⟨by rw [hp _ i1,i2];simp,by simpa using i1,fun j hj=>?_⟩;rw [hp j (by omega)];simp only [Bool.not_eq_true',decide_eq_false_iff_not];intro z;have:=zcv (v:=w) (i:=j) (x:=k) (by rw [getD_get (by omega),z]);omega
 have hd:=List.head?_filter (p:=p) (l:=List.range w.length);rw [f] at hd;cases e:(List.range w.length).filter p with
 | nil=>rw [e] at hd;simp at hd | cons a qo=>
  rw [e] at hd;simp only [List.head?_cons,Option.some.injEq] at hd;exact ⟨qo,by rw [hd]⟩
def zcN(v:List Int)(z:Int)(ps:List Nat)(xs:List Int):List Int:=ps.foldl (fun xs p=>xs.set p (v.getD p 0 / z)) xs
theorem z9c(v:List Int)(z:Int):∀ (ps:List Nat)(xs:List Int),(zcN v z ps xs).length=xs.length
 | [],xs=>rfl | p::ps,xs=>by
  have:=z9c v z ps (xs.set p (v.getD p 0 / z));simpa [zcN] using this
theorem za3(v:List Int)(z:Int):∀ (ps:List Nat)(xs:List Int)(i:Nat),i<xs.length->(zcN v z ps xs).getD i 0=if i∈ps then v.getD i 0 / z else xs.getD i 0
 | [],xs,i,_=>by simp [zcN] | p::ps,xs,i,hi=>by
  have ih:=za3 v z ps (xs.set p (v.getD p 0 / z)) i (by simpa using hi);have e:zcN v z (p::ps) xs=zcN v z ps (xs.set p (v.getD p 0 / z)):=rfl;rw [e,ih];by_cases q:i∈ps;·simp [q]
  ·by_cases q2:i=p
   ·subst q2;simp [q,hi,List.getD_eq_getElem?_getD]
   ·have q3:¬ p=i:=fun z=>q2 z.symm;simp [q,q2,List.getD_eq_getElem?_getD,q3]
theorem kK(v:List Int)(b:Nat)(ps:List Nat):zcN v (v.getD b 0) ps (List.replicate v.length 0)=yA v (b,ps):=by
 apply List.ext_getElem;·rw [z9c,xa];simp
 ·intro i h1 h2;have hi:i<v.length:=by rw [xa] at h2;exact h2
  have:=za3 v (v.getD b 0) ps (List.replicate v.length 0) i (by simpa using hi);rw [List.getD_eq_getElem?_getD,List.getElem?_eq_getElem h1,Option.getD_some] at this;rw [this];simp [yA,hi]
theorem zcI(v:List Int)(b:Nat):yA v (b,[])=List.replicate v.length 0:=by
 apply List.ext_getElem;·rw [xa];simp
 ·intro i h1 h2;simp [yA]
end Pm
namespace Pg
open PySem.Spec L2 Dd Pm
end Pg
namespace Po
open PySem.Spec L2 Dd Pm Pg Pn
theorem z7y:∀ (v:List Int)(k:Nat),z3x k (iL v)=(v.zipIdx k).map fun p=>D.tup [.int ((p.2:Nat):Int),.int p.1]
 | [],k=>rfl | x::v,k=>by simp [z3x,z7y v (k+1)]
theorem z9r{v:List Int}{f:FE}{Z:Ev}{s:Sto}(hf:f Z s=.ok (rD v) s):z8d (za f zh) Z s=.ok ((enP v).map fun p=>D.tup [.int ((p.2:Nat):Int),.int p.1],[]) s:=by simp only [z8d,zB,hf,R.bind_ok,zH,z46,z7y]
theorem zen{v:List Int}(h:∀ x∈v,0<=x):(z69 v).length=(nz v).length:=by
 have key:∀ (v:List Int)(k:Nat),(∀ x∈v,0<=x)->((v.zipIdx k).filter fun p=>decide (0<p.1)).length=(nz v).length:=by
  intro v;induction v with
  | nil=>intro k _;rfl | cons x v ih=>
   intro k hx;have h0:=hx x (.head _);have ih:=ih (k+1) fun y hy=>hx y (.tail _ hy);rw [List.zipIdx_cons];by_cases q:x=0
   ·subst q;simpa [nz,List.filter_cons] using ih
   ·have q2:0<x:=by omega
    simp only [nz,List.filter_cons,q2,q,decide_true,ne_eq,not_false_eq_true,if_true,List.length_cons];simpa [nz] using ih
 simpa [z69] using key v 0 h
theorem zgD(v:List Int):(z69 v).Nodup:=by
 have h0:(enP v).Nodup:=List.Pairwise.of_map (S:=fun a b:Nat=>a≠b) Prod.snd (fun a b h z=>h (by rw [z])) (by rw [List.zipIdx_map_snd];exact List.nodup_range');unfold z69;refine List.Pairwise.map _ (fun a b hab z=>hab ?_) (h0.filter _);simp only [Prod.mk.injEq] at z;exact Prod.ext z.1 (by omega)
theorem zf8{n:Nat}{v:List Int}(h:Lot n v)(he:ended v=false):2<=(z69 v).length/\(z69 v).length<=4:=by
 have l4:=h.le4;rw [zen h.nn];have h1:(nz v).length≠1:=by simpa [ended] using he
 have h2:(nz v).length≠0:=fun z=>h.nzne (List.length_eq_zero_iff.mp z);have h3:(nz v).length<=v.length:=List.length_filter_le _ _;omega
theorem zdI {n:Nat} {v:List Int} (h:Lot n v) (he:ended v=false) (Z:Ev) (s:Sto) (h1:Z[1]? = some (some (rD v))): ∃ qs:List (Int×Int),vP Z s=.ok (.nx (Z.set 3 (some (.lst (qs.map pD))))) s/\(∀ a,a∈qs ↔ a∈z69 v)/\qs.Pairwise fun a b=>Dd.lexLt a b=true:=by
 have l2:=zf8 h he;obtain ⟨qs,e,pm,pw⟩:=z7Y l2.1 l2.2 (zgD v) s;refine ⟨qs,?_,fun a=>pm.mem_iff,pw⟩;have l4:=h.le4;have c:=vN (s:=s) (mp:=[none,none]) (fg:=wf 0 1) (ft:=tOf (eOp dGt (zc 1) (eC (.int 0)))) (fe:=uA (za (zc 1) (za (zc 0) zh))) (fun p:Int×Nat=>D.tup [.int ((p.2:Nat):Int),.int p.1]) (fun p=>pD (p.1,((p.2:Nat):Int))) (fun p=>decide (0<p.1)) (fun p=>[some (.int ((p.2:Nat):Int)),some (.int p.1)]) (enP v) (z9r (vr h1)) (fun p _=>by simp) (fun p _=>by simp) (fun p _ _=>by simp [cap]) (by simp [enP,cap];omega);have em:List.map (fun p:Int×Nat=>pD (p.1,((p.2:Nat):Int))) ((enP v).filter fun p=>decide (0<p.1))=(z69 v).map pD:=by simp [z69,Function.comp_def]
 rw [em] at c;rw [vP,zV,wz c,e];rfl
theorem z3U{v:List Int}{k:Nat}{qo:List Nat}{f:FE}{Z:Ev}{s:Sto}(hf:f Z s=.ok (.lst (nL (k::qo))) s):eOp dIx f (eC (.int 0)) Z s=.ok (.int ((k:Nat):Int)) s:=by
 rw [yn,hf,R.bind_ok,z0v,R.bind_ok];exact uv (Int.le_refl _) rfl
abbrev EV(a0 a1 a2 a3 a4 a5 a6 a7 a8 a9 a10 a11 a12:Option D):Ev:=[a0,a1,a2,a3,a4,a5,a6,a7,a8,a9,a10,a11,a12]
structure LD(d:D)(v:List Int):Prop where
 eq:d=rD v
 ix:∀ (s:Sto)(i:Nat),i<v.length->dIx d (.int ((i:Nat):Int)) s=.ok (.int (v.getD i 0)) s
 mx:∀ s:Sto,vD [d] s=.ok (.int (maxL v)) s
 len:∀ s:Sto,yJ [d] s=.ok (.int v.length) s
theorem LD.of{n:Nat}{v:List Int}(h:Lot n v):LD (rD v) v:=⟨rfl,fun s i hi=>z5c s hi,fun s=>z4N s h.ne,fun s=>by simp [yJ,zJ]⟩
section
variable {n:Nat}{v:List Int}{d e:D}(h:Lot n v)(D:LD d v)(he:ended v=false){a0 a1 a2 a3 a4 a5 a6 a7 a8 a9 a10 a11 a12:Option Dd.D}(s:Sto)
include h D
theorem zmG:qH (EV a0 (some d) a2 a3 a4 a5 a6 a7 a8 a9 a10 a11 a12) s=.ok (.nx (EV a0 (some d) (some (.int ((v.length:Nat):Int))) a3 a4 a5 a6 a7 a8 a9 a10 a11 a12)) s:=by
 rw [qH,zV,wz (x:=d) (vr rfl),D.len];rfl
theorem zmf:ja (EV a0 (some d) (some (.int ((v.length:Nat):Int))) a3 a4 a5 a6 a7 a8 a9 a10 a11 a12) s=.ok (.nx (EV a0 (some d) (some (.int ((v.length:Nat):Int))) a3 (some (.int ((gp v:Nat):Int))) a5 a6 a7 a8 a9 a10 a11 a12)) s:=by
 have l4:=h.le4;obtain ⟨qo,e⟩:=z9Z (w:=v) (maxL_mem h.ne) (fun i=>decide (v.getD i 0=maxL v)) (fun i _=>rfl);have c:=vN (s:=s) (mp:=[some 1,none]) (fg:=yE 1) (ft:=tOf (eOp dEq (eOp dIx (zc 0) (zc 1)) (ze vD (za (zc 0) zh)))) (fe:=zc 1) (fun i:Nat=>Dd.D.int ((i:Nat):Int)) (fun i:Nat=>Dd.D.int ((i:Nat):Int)) (fun i=>decide (v.getD i 0=maxL v)) (fun i=>[some d,some (.int ((i:Nat):Int))]) (List.range v.length) (uZ (n:=v.length) (Z:=EV a0 (some d) (some (.int ((v.length:Nat):Int))) a3 a4 a5 a6 a7 a8 a9 a10 a11 a12) (ar:=za (zc 2) zh) (by omega) (by simp)) (fun i _=>by simp) (fun i hi=>by
   have hi':i<v.length:=by simpa using hi
   have e1:=D.ix s i hi';have e2:=D.mx s;simp only [um,yn,zO,ye,zB,zH,List.getElem?_cons_zero,List.getElem?_cons_succ,R.bind_ok,e1,e2,z81]) (fun i _ _=>by simp) (by simp [cap];omega);rw [e] at c;rw [ja,zV,z3U (v:=v) c];rfl
end
def zfs(v:List Int):Rl->D
 | .al=>.int ((lp v:Nat):Int) | .tu=>.int 0 | _=>.non
theorem zkR(r:Rl)(s:Sto):dEq (.str (nmR r)) (.str "least") s=.ok (.bl (decide (r=.le))) s:=by
 rw [Pg.eq_str (zbM r) (by decide +kernel)];congr 2;cases r<;>decide +kernel
theorem zk8(r:Rl)(s:Sto):dEq (.str (nmR r)) (.str "next") s=.ok (.bl (decide (r=.nx))) s:=by
 rw [Pg.eq_str (zbM r) (by decide +kernel)];congr 2;cases r<;>decide +kernel
structure RD(e:D)(r:Rl):Prop where
 eq:e=.str (nmR r)
 le:∀ s:Sto,dEq e (.str "least") s=.ok (.bl (decide (r=.le))) s
 nx:∀ s:Sto,dEq e (.str "next") s=.ok (.bl (decide (r=.nx))) s
 tu:∀ s:Sto,dEq e (.str "turn") s=.ok (.bl (decide (r=.tu))) s
 in_:∀ s:Sto,z9d false e (.tup [.str "next",.str "least"]) s=.ok (.bl (decide (r=.nx\/r=.le))) s
theorem RD.of(r:Rl):RD (.str (nmR r)) r:=⟨rfl,zkR r,zk8 r,zc4 r,fun s=>by cases r<;>rfl⟩
section
variable {n:Nat}{v:List Int}{d e:D}(h:Lot n v){a0 a1 a2 a3 a4 a5 a6 a7 a8 a9 a10 a11 a12:Option Dd.D}(s:Sto){qs:List (Int×Int)}
theorem zmc {r:Rl} {m:Int} {qo:List (Int×Int)} (E:RD e r) (hq:qs=(m,((lp v:Nat):Int))::qo):qP (EV (some e) a1 a2 (some (.lst (qs.map pD))) a4 a5 a6 a7 a8 a9 a10 a11 a12) s=.ok (.nx (EV (some e) a1 a2 (some (.lst (qs.map pD))) a4 (some (zfs v r)) a6 a7 a8 a9 a10 a11 a12)) s:=by
 have i1:dIx (.lst (qs.map pD)) (.int 0) s=.ok (pD (m,((lp v:Nat):Int))) s:=by
  rw [hq];exact uv (Int.le_refl _) rfl
 have i2:dIx (pD (m,((lp v:Nat):Int))) (.int 1) s=.ok (.int ((lp v:Nat):Int)) s:=z5c (r:=[m,((lp v:Nat):Int)]) (j:=1) s (by simp);have hg:(if nmR r="all" then D.int ((lp v:Nat):Int) else if nmR r="turn" then .int 0 else .non)=zfs v r:=by
  cases r;·rw [if_neg (by decide),if_neg (by decide)];rfl
  ·rw [if_neg (by decide),if_neg (by decide)];rfl
  ·rw [if_pos (by decide)];rfl
  ·rw [if_neg (by decide),if_pos (by decide)];rfl
 rw [qP,zV];have:zdt "all" "turn" (eOp dIx (eOp dIx (zc 3) (eC (.int 0))) (eC (.int 1))) (eC (.int 0)) (zc 0) (EV (some e) a1 a2 (some (.lst (qs.map pD))) a4 a5 a6 a7 a8 a9 a10 a11 a12) s=.ok (zfs v r) s:=by
  unfold zdt;rw [yn,yn,vr (d:=.lst (qs.map pD)) rfl,R.bind_ok,z0v,R.bind_ok,i1,R.bind_ok,z0v,R.bind_ok,i2,R.bind_ok,z0v,R.bind_ok,vr (d:=e) rfl,R.bind_ok,E.eq];simp only;rw [hg]
 rw [this];rfl
theorem zbN(g:Int×Int->D)(fe:FE)(hfe:∀ a:Int×Int,fe [some (.int ((gp v:Nat):Int)),some (.int a.1),some (.int a.2)] s=.ok (g a) s)(hl:qs.length<=4): zA (yx (zc 3)) [some 4,none,none] (wf 1 2) (tOf (eOp dNe (zc 2) (zc 0))) fe (EV a0 a1 a2 (some (.lst (qs.map pD))) (some (.int ((gp v:Nat):Int))) a5 a6 a7 a8 a9 a10 a11 a12) s = .ok (.lst ((qs.filter fun a=>decide (a.2≠((gp v:Nat):Int))).map g)) s:= vN (s:=s) pD g (fun a=>decide (a.2≠((gp v:Nat):Int))) (fun a=>[some (.int ((gp v:Nat):Int)),some (.int a.1),some (.int a.2)]) qs (kI (vr rfl)) (fun a _=>by simp) (fun a _=>by simp) (fun a _ _=>hfe a) (by simp [cap];omega)
variable (he:ended v=false)(hm:∀ a,a∈qs ↔ a∈z69 v)(pw:qs.Pairwise fun a b=>Dd.lexLt a b=true)(hl:qs.length<=4)
include h he hm pw
theorem zeL:∃ qo,(qs.filter fun a=>decide (a.2≠((gp v:Nat):Int)))=(minL (nz (others v)),((lp (others v):Nat):Int))::qo:= z9P (z3o h) (qq h he) (fun a=>by rw [z2V h,<- hm];simp) (pw.filter _)
theorem zgE:(qs.filter fun a=>decide (a.2≠((gp v:Nat):Int))).map Prod.fst≠[]/\maxL ((qs.filter fun a=>decide (a.2≠((gp v:Nat):Int))).map Prod.fst)=maxL (others v)/\0<maxL (others v):= zhx (z3o h) (qq h he) (fun a=>by rw [z2V h,<- hm];simp)
include hl
theorem zmF:qS (EV a0 a1 a2 (some (.lst (qs.map pD))) (some (.int ((gp v:Nat):Int))) a5 a6 a7 a8 a9 a10 a11 a12) s=.ok (.nx (EV a0 a1 a2 (some (.lst (qs.map pD))) (some (.int ((gp v:Nat):Int))) (some (.int ((lp (others v):Nat):Int))) a6 a7 a8 a9 a10 a11 a12)) s:=by
 obtain ⟨qo,e⟩:=zeL h he hm pw;have c:=zbN (v:=v) (a0:=a0) (a1:=a1) (a2:=a2) (a5:=a5) (a6:=a6) (a7:=a7) (a8:=a8) (a9:=a9) (a10:=a10) (a11:=a11) (a12:=a12) s (fun a=>.int a.2) (zc 2) (fun a=>vr rfl) hl;rw [e] at c;rw [qS,zV,yn,c,R.bind_ok,z0v,R.bind_ok,uv (d:=.int ((lp (others v):Nat):Int)) (Int.le_refl _) rfl];rfl
theorem zn7:ji (EV a0 a1 a2 (some (.lst (qs.map pD))) (some (.int ((gp v:Nat):Int))) a5 a6 a7 a8 a9 a10 a11 a12) s=.ok (.nx (EV a0 a1 a2 (some (.lst (qs.map pD))) (some (.int ((gp v:Nat):Int))) a5 (some (.int (maxL (others v)))) a7 a8 a9 a10 a11 a12)) s:=by
 obtain ⟨ne,e,_⟩:=zgE h he hm pw;have c:=zbN (v:=v) (a0:=a0) (a1:=a1) (a2:=a2) (a5:=a5) (a6:=a6) (a7:=a7) (a8:=a8) (a9:=a9) (a10:=a10) (a11:=a11) (a12:=a12) s (fun a=>.int a.1) (zc 1) (fun a=>vr rfl) hl;have em:((qs.filter fun a=>decide (a.2≠((gp v:Nat):Int))).map fun a=>D.int a.1)=iL ((qs.filter fun a=>decide (a.2≠((gp v:Nat):Int))).map Prod.fst):=by simp [Function.comp_def]
 rw [em] at c;rw [ji,zV,wz c,ziA s ne,e];rfl
omit pw hl hm
theorem zmH (D:LD d v):qL (EV a0 (some d) (some (.int ((v.length:Nat):Int))) a3 (some (.int ((gp v:Nat):Int))) a5 (some (.int (maxL (others v)))) a7 a8 a9 a10 a11 a12) s = .ok (.nx (EV a0 (some d) (some (.int ((v.length:Nat):Int))) a3 (some (.int ((gp v:Nat):Int))) (some (.int (((others v).idxOf (maxL (others v)):Nat):Int))) (some (.int (maxL (others v)))) a7 a8 a9 a10 a11 a12)) s:=by
 have l4:=h.le4;have ol:=wb h.ne;have one:others v≠[]:=fun z=>by rw [z] at ol;simp at ol;omega
 have pos:0<maxL (others v):=by
  obtain ⟨y,hy⟩:=List.exists_mem_of_ne_nil _ (qq h he);obtain ⟨y1,y2⟩:=qu.mp hy;have:=z3o h y y1;have:=maxL_ge (xs:=others v) y y1;omega
 obtain ⟨qo,e⟩:=z9Z (w:=others v) (maxL_mem one) (fun i=>decide (v.getD i 0=maxL (others v))&&decide (i≠gp v)) (fun i _=>by
  rw [vq h.ne];by_cases q:i=gp v
  ·simp only [q,if_true,ne_eq,not_true_eq_false,decide_false,Bool.and_false];symm;simp;omega
  ·simp [q]);rw [ol] at e;have c:=vN (s:=s) (mp:=[some 6,some 4,some 1,none]) (fg:=yE 3) (ft:=zhF (tOf (eOp dEq (eOp dIx (zc 2) (zc 3)) (zc 0))) (tOf (eOp dNe (zc 3) (zc 1)))) (fe:=zc 3) (fun i:Nat=>Dd.D.int ((i:Nat):Int)) (fun i:Nat=>Dd.D.int ((i:Nat):Int)) (fun i=>decide (v.getD i 0=maxL (others v))&&decide (i≠gp v)) (fun i=>[some (.int (maxL (others v))),some (.int ((gp v:Nat):Int)),some d,some (.int ((i:Nat):Int))]) (List.range v.length) (uZ (n:=v.length) (Z:=EV a0 (some d) (some (.int ((v.length:Nat):Int))) a3 (some (.int ((gp v:Nat):Int))) a5 (some (.int (maxL (others v)))) a7 a8 a9 a10 a11 a12) (ar:=za (zc 2) zh) (by omega) (by simp)) (fun i _=>by simp) (fun i hi=>by
   have hi':i<v.length:=by simpa using hi
   have e1:=D.ix s i hi';have e3:decide (((i:Nat):Int)≠((gp v:Nat):Int))=decide (i≠gp v):=by
    by_cases q:i=gp v;·simp [q]
    ·have:¬ ((i:Nat):Int)=((gp v:Nat):Int):=by omega
     simp [q,this]
   simp only [zbV,um,yn,zO,List.getElem?_cons_zero,List.getElem?_cons_succ,R.bind_ok,e1,z81,zgX,e3];cases decide (v.getD i 0=maxL (others v))<;>simp) (fun i _ _=>by simp) (by simp [cap];omega);rw [e] at c;rw [qL,zV,z3U (v:=v) c];rfl
omit he
theorem zkH (b:Nat):vw (EV a0 a1 (some (.int ((v.length:Nat):Int))) a3 a4 (some (.int ((b:Nat):Int))) a6 a7 a8 a9 a10 a11 a12) s=.ok (.nx (EV a0 a1 (some (.int ((v.length:Nat):Int))) a3 a4 (some (.int ((b:Nat):Int))) a6 (some (.lst (nL (wq v b)))) a8 a9 a10 a11 a12)) s:=by
 have l4:=h.le4;have c:=vN (s:=s) (mp:=[some 5,none]) (fg:=yE 1) (ft:=tOf (eOp dNe (zc 1) (zc 0))) (fe:=zc 1) (fun i:Nat=>Dd.D.int ((i:Nat):Int)) (fun i:Nat=>Dd.D.int ((i:Nat):Int)) (fun i=>decide (i≠b)) (fun i=>[some (.int ((b:Nat):Int)),some (.int ((i:Nat):Int))]) (List.range v.length) (uZ (n:=v.length) (Z:=EV a0 a1 (some (.int ((v.length:Nat):Int))) a3 a4 (some (.int ((b:Nat):Int))) a6 a7 a8 a9 a10 a11 a12) (ar:=za (zc 2) zh) (by omega) (by simp)) (fun i _=>by simp) (fun i hi=>by
   have e3:decide (((i:Nat):Int)≠((b:Nat):Int))=decide (i≠b):=by
    by_cases q:i=b;·simp [q]
    ·have:¬ ((i:Nat):Int)=((b:Nat):Int):=by omega
     simp [q,this]
   simp only [um,yn,zO,List.getElem?_cons_zero,List.getElem?_cons_succ,R.bind_ok,zgX,e3]) (fun i _ _=>by simp) (by simp [cap];omega);rw [vw,zV,c];rfl
end
theorem zev(n:Nat):(List.replicate n [D.int 0]).flatten=iL (List.replicate n 0):=by induction n with
 | zero=>rfl | succ n ih=>simp [List.replicate_succ,ih]
theorem zhz{fa fb:FE}{Z:Ev}{s s2:Sto}{L:Nat}{xs:List D}{x:D}(ha:fa Z s=.ok (.loc L) s)(hb:fb Z s=.ok x s2)(at_:s2[L]? = some xs)(hl:xs.length<1000)(hx:x.flat=true):wQ (z87 fa fb) Z s=.ok (.nx Z) (s2.set L (xs++[x])):=by
 rw [qK,z3p,ha,R.bind_ok];simp only;rw [hb,R.bind_ok];simp only [at_];rw [if_pos ⟨hx,by simp [cap];omega⟩];rfl
theorem zaW{f g:FS}{t:FT}{Z:Ev}{s:Sto}(h:t Z s=.ok true s):fIf t f g Z s=f Z s:=by rw [z2w,h,R.bind_ok,if_pos rfl]
section
variable {n m:Nat}{v:List Int}{d e:D}(h:LotB n m v)(D:LD d v)(hm:m<=1999){a0 a1 a2 a3 a4 a5 a6 a7 a8 a9 a10 a11 a12:Option Dd.D}(s:Sto){b:Nat}(hb:b<v.length)
include h hm in
theorem zfz{i:Nat}(hi:i<v.length):0<=v.getD i 0/\v.getD i 0<2 ^ 2000:=by
 refine ⟨h.nn _ (Pm.getD_mem hi),Int.lt_of_lt_of_le (h.bd _ (Pm.getD_mem hi)) ?_⟩;have:(2:Nat) ^ m<=2 ^ 2000:=Nat.pow_le_pow_right (by decide) (by omega);have:=Int.ofNat_le.mpr this;simpa using this
include h in
theorem zl4:xu (EV a0 a1 (some (.int ((v.length:Nat):Int))) a3 a4 a5 a6 a7 a8 a9 a10 a11 a12) s=.ok (.nx (EV a0 a1 (some (.int ((v.length:Nat):Int))) a3 a4 a5 a6 a7 (some (.loc (s++[[Dd.D.int 0]]).length)) a9 a10 a11 a12)) ((s++[[Dd.D.int 0]])++[iL (List.replicate v.length 0)]):=by
 have l4:=h.toLot.le4;have e0:zaf (za (eC (.int 0)) zh) (EV a0 a1 (some (.int ((v.length:Nat):Int))) a3 a4 a5 a6 a7 a8 a9 a10 a11 a12) s=.ok (.loc s.length) (s++[[Dd.D.int 0]]):=by
  simp only [z1J,zB,zH,z0v,R.bind_ok];rw [if_pos ⟨by simp [cap],yy [0]⟩]
 have e1:zbf (.loc s.length) (.int ((v.length:Nat):Int)) (s++[[Dd.D.int 0]])=.ok (.loc (s++[[Dd.D.int 0]]).length) ((s++[[Dd.D.int 0]])++[iL (List.replicate v.length 0)]):=by
  have lo:Dd.listOf (s++[[Dd.D.int 0]]) (.loc s.length)=some [Dd.D.int 0]:=by simp [Dd.listOf]
  simp only [zbf,lo,Int.toNat_natCast,zev];rw [if_pos ⟨by simp [cap];omega,by omega,by omega,yy _⟩]
 rw [xu,zV,yn,e0,R.bind_ok,vr (d:=.int ((v.length:Nat):Int)) rfl,R.bind_ok,e1];rfl
include h D hm hb
theorem zgP {S0:Sto} {all:List Dd.D}:∀ (ps:List Nat) (xs:List Int) (p9:Option Dd.D),(∀ i∈ps,i<v.length)->xs.length=v.length-> ∃ p9',yZ [] all (fun d Z s=>(yE 9 d Z s).bind fun Z' s'=>xw Z' s') (nL ps) (EV a0 (some d) a2 a3 a4 (some (.int ((b:Nat):Int))) a6 a7 (some (.loc S0.length)) p9 a10 a11 a12) (S0++[iL xs]) = .ok (.nx (EV a0 (some d) a2 a3 a4 (some (.int ((b:Nat):Int))) a6 a7 (some (.loc S0.length)) p9' a10 a11 a12)) (S0++[iL (if 0<v.getD b 0 then zcN v (v.getD b 0) ps xs else xs)])
 | [],xs,p9,_,_=>⟨p9,by simp [yZ,okG,zcN]⟩ | i::ps,xs,p9,hi,hl=>by
  have i0:=hi i (.head _);have B:=zfz h hm hb;have S:=(S0++[iL xs]);have ixb:=D.ix (S0++[iL xs]) b hb;have ixi:=D.ix (S0++[iL xs]) i i0;have tst:tOf (eOp dGt (eOp dIx (zc 1) (zc 5)) (eC (.int 0))) (EV a0 (some d) a2 a3 a4 (some (.int ((b:Nat):Int))) a6 a7 (some (.loc S0.length)) (some (.int ((i:Nat):Int))) a10 a11 a12) (S0++[iL xs])=.ok (decide (0<v.getD b 0)) (S0++[iL xs]):=by simp only [um,yn,zO,z0v,List.getElem?_cons_zero,List.getElem?_cons_succ,R.bind_ok,ixb,zlA]
  by_cases q:0<v.getD b 0
  ·obtain ⟨p9',ih⟩:=zgP (S0:=S0) (all:=all) ps (xs.set i (v.getD i 0 / v.getD b 0)) (some (.int ((i:Nat):Int))) (fun j hj=>hi j (.tail _ hj)) (by simpa using hl);refine ⟨p9',?_⟩;have body:xw (EV a0 (some d) a2 a3 a4 (some (.int ((b:Nat):Int))) a6 a7 (some (.loc S0.length)) (some (.int ((i:Nat):Int))) a10 a11 a12) (S0++[iL xs])=.ok (.nx (EV a0 (some d) a2 a3 a4 (some (.int ((b:Nat):Int))) a6 a7 (some (.loc S0.length)) (some (.int ((i:Nat):Int))) a10 a11 a12)) (S0++[iL (xs.set i (v.getD i 0 / v.getD b 0))]):=by
    rw [xw,zaW (by rw [tst];simp only [q,decide_true]),z09];rw [z3A (s1:=S0++[iL xs]) (s2:=S0++[iL xs]) (L:=S0.length) (xs:=xs) (i:=((i:Nat):Int)) (x:=v.getD i 0 / v.getD b 0) (by
     rw [yn,op2 (x:=d) (y:=.int ((i:Nat):Int)) (vr rfl) (vr rfl),ixi,R.bind_ok,op2 (x:=d) (y:=.int ((b:Nat):Int)) (vr rfl) (vr rfl),ixb,R.bind_ok];exact zd5 _ q B.2) (vr rfl) (vr rfl) (by simp) (by omega) (by omega)];congr 1;rw [List.set_append_right _ _ (by omega)];simp
   rw [show nL (i::ps)=Dd.D.int ((i:Nat):Int)::nL ps from rfl,yZ,if_pos (by intro p hp;simp at hp),z0b,R.bind_ok];simp only [List.set_cons_succ,List.set_cons_zero];rw [body,R.bind_ok];simp only;rw [ih];simp only [q,if_true];rfl
  ·obtain ⟨p9',ih⟩:=zgP (S0:=S0) (all:=all) ps xs (some (.int ((i:Nat):Int))) (fun j hj=>hi j (.tail _ hj)) hl;refine ⟨p9',?_⟩;have body:xw (EV a0 (some d) a2 a3 a4 (some (.int ((b:Nat):Int))) a6 a7 (some (.loc S0.length)) (some (.int ((i:Nat):Int))) a10 a11 a12) (S0++[iL xs])=.ok (.nx (EV a0 (some d) a2 a3 a4 (some (.int ((b:Nat):Int))) a6 a7 (some (.loc S0.length)) (some (.int ((i:Nat):Int))) a10 a11 a12)) (S0++[iL xs]):=by
    rw [xw,zfD (by rw [tst];simp only [q,decide_false])];rfl
   rw [show nL (i::ps)=Dd.D.int ((i:Nat):Int)::nL ps from rfl,yZ,if_pos (by intro p hp;simp at hp),z0b,R.bind_ok];simp only [List.set_cons_succ,List.set_cons_zero];rw [body,R.bind_ok];simp only;rw [ih];simp only [q,if_false]
omit h D hm
theorem zcK(Q:List Int)(hQ:Q.length=v.length)(z:Int):((enP v).map fun p:Int×Nat=>Dd.D.int (p.1-Q.getD p.2 0*z))=iL (List.zipWith (fun x q=>x-q*z) v Q):=by
 apply List.ext_getElem;·simp [enP,hQ]
 ·intro i h1 h2;have hi:i<v.length:=by simpa [enP] using h1
  simp [enP,List.getD_eq_getElem?_getD,hQ,hi]
include h D hm
theorem zlf {Q:List Int} {L:Nat} (hs:s[L]? = some (iL Q)) (hQ:Q.length=v.length) (hq:∀ q∈Q,0<=q/\q<2 ^ m): xC (EV a0 (some d) a2 a3 a4 (some (.int ((b:Nat):Int))) a6 a7 (some (.loc L)) a9 a10 a11 a12) s=.ok (.nx (EV a0 (some d) a2 a3 a4 (some (.int ((b:Nat):Int))) a6 a7 (some (.loc L)) a9 (some (.lst (iL (left v Q b)))) a11 a12)) s:=by
 have l4:=h.toLot.le4;have B:=zfz h hm hb;have ixb:=D.ix s b hb;have c:=comp_map (s:=s) (mp:=[some 8,some 1,some 5,none,none]) (fg:=wf 3 4) (fe:=eOp zd6 (zc 4) (eOp va (eOp dIx (zc 0) (zc 3)) (eOp dIx (zc 1) (zc 2)))) (fun p:Int×Nat=>Dd.D.tup [.int ((p.2:Nat):Int),.int p.1]) (fun p=>Dd.D.int (p.1-Q.getD p.2 0*v.getD b 0)) (fun p=>[some (.loc L),some d,some (.int ((b:Nat):Int)),some (.int ((p.2:Nat):Int)),some (.int p.1)]) (enP v) (z9r (f:=zc 1) (Z:=EV a0 (some d) a2 a3 a4 (some (.int ((b:Nat):Int))) a6 a7 (some (.loc L)) a9 a10 a11 a12) (by rw [<- D.eq];exact vr rfl)) (fun p _=>by simp) (fun p hp=>by
   have g:=z8D.mp hp;have hi:p.2<Q.length:=by rw [hQ];exact (List.getElem?_eq_some_iff.mp g).1
   have e1:=z9n (s:=s) (l:=L) (i:=((p.2:Nat):Int)) (d:=.int (Q.getD p.2 0)) hs (by omega) (by simp [List.getD_eq_getElem?_getD,hi]);have q1:=hq _ (Pm.getD_mem hi);have q2:Q.getD p.2 0<2 ^ 2000:=Int.lt_of_lt_of_le q1.2 (by
    have:(2:Nat) ^ m<=2 ^ 2000:=Nat.pow_le_pow_right (by decide) (by omega);have:=Int.ofNat_le.mpr this;simpa using this);rw [yn,vr (d:=.int p.1) rfl,R.bind_ok,yn,op2 (x:=.loc L) (y:=.int ((p.2:Nat):Int)) (vr rfl) (vr rfl),e1,R.bind_ok,op2 (x:=d) (y:=.int ((b:Nat):Int)) (vr rfl) (vr rfl),ixb,R.bind_ok,kj s q1.1 q2 B.1 B.2,R.bind_ok];simp) (by simp [enP,cap];omega);rw [zcK hb Q hQ] at c;rw [xC,zV,c];rfl
end
theorem z7d{α:Type}{fi:FI}{mp:List (Option Nat)}{fg:FG}{fe:FE}{Z:Ev}{s:Sto}(g f:α->D)(ev:α->Ev)(l:List α) (hi:fi Z s=.ok (l.map g,[]) s)(hg:∀ a∈l,fg (g a) (xh mp Z) s=.ok (ev a) s)(he:∀ a∈l,fe (ev a) s=.ok (f a) s)(hl:l.length<=cap)(hf:D.flat.flats (l.map f)=true): z1O fi mp fg zX fe Z s=.ok (.loc s.length) (s++[l.map f]):=by
 rw [z9L,jd,hi,R.bind_ok];rw [z0y g f (fun _=>true) l [] (by
  intro a ha;simp only [hg a ha,R.bind_ok];simp [he a ha]) (by simpa using hl)];rw [show l.filter (fun _=>true)=l from List.filter_eq_self.mpr (by simp)];simp only [List.nil_append,R.bind_ok];rw [if_pos hf]
theorem z9G(xs:List D)(k:Nat):cutD xs none (some ((k:Nat):Int))=xs.take k:=by
 have:=z3L xs k [];simpa [dSl] using this
theorem z9h(xs:List D)(k:Nat):cutD xs (some ((k:Nat):Int)) none=xs.drop k:=by
 have:=z1l xs k [];simpa [dSl] using this
theorem z7J{line:List Int}{b:Nat}(hb:b<line.length)(q:Int):yL b line q=line.set b (line.getD b 0+q):=by
 unfold yL;rw [List.set_eq_take_append_cons_drop,if_pos hb];simp
def xg(n i:Nat):List Int:=(List.range n).map fun c=>if i=c then 1 else 0
theorem zfp{x:D}{xs:List D}{k:Nat}{Z:Ev}{s:Sto}(hx:Z[k]? = some (some x))(hl:Dd.listOf s x=some xs)(h:x=.lst xs\/∃ l,x=.loc l)(hc:xs.length<=4):eOp wS (eSl (zc k) (wF (eC (.int 1))) yd) (eSl (zc k) yd (wF (eC (.int 1)))) Z s=.ok (.lst (rot xs)) s:=by
 have d1:dSl x (some 1) none s=.ok (.lst (xs.drop 1)) s:=by
  rcases h with rfl | ⟨l,rfl⟩
  ·have:=z9h xs 1;simp only [dSl,hl];exact congrArg (fun z=>R.ok (D.lst z) s) this
  ·have:=z9h xs 1;simp only [dSl,hl];exact congrArg (fun z=>R.ok (D.lst z) s) this
 have d2:dSl x none (some 1) s=.ok (.lst (xs.take 1)) s:=by
  rcases h with rfl | ⟨l,rfl⟩
  ·have:=z9G xs 1;simp only [dSl,hl];exact congrArg (fun z=>R.ok (D.lst z) s) this
  ·have:=z9G xs 1;simp only [dSl,hl];exact congrArg (fun z=>R.ok (D.lst z) s) this
 rw [yn,z5u,vr hx,R.bind_ok,jS,z0v,R.bind_ok];simp only [R.bind_ok,vB];rw [d1,R.bind_ok,z5u,vr hx,R.bind_ok];simp only [R.bind_ok,vB,jS,z0v];rw [d2,R.bind_ok,zf4,if_pos (by simp [cap];omega)];rfl
section
variable {n m:Nat}{v:List Int}{d e:D}{r:Rl}(h:LotB n m v)(E:RD e r){a0 a1 a2 a3 a4 a5 a6 a7 a8 a9 a10 a11 a12:Option Dd.D}{b:Nat}(hb:b<v.length){Q:List Int}(hQ:Q.length=v.length)
include h E hb hQ
theorem zkb {S:Sto} {L i:Nat} (hL:S[L]? = some (iL Q)) (hi:i<v.length) (A:List D) (hA:A.length<1000) (J:Sto) (p12:Option D): ∃ J' p12',(zE wx (zE ww (zE yR wv))) (EV (some e) a1 (some (.int ((v.length:Nat):Int))) a3 a4 (some (.int ((b:Nat):Int))) a6 a7 (some (.loc L)) (some (.int ((i:Nat):Int))) a10 (some (.loc S.length)) p12) (S++A::J) = .ok (.nx (EV (some e) a1 (some (.int ((v.length:Nat):Int))) a3 a4 (some (.int ((b:Nat):Int))) a6 a7 (some (.loc L)) (some (.int ((i:Nat):Int))) a10 (some (.loc S.length)) p12')) (S++(A++[rD (mvd r (yL b (xg v.length i) (Q.getD i 0)))])::J'):=by
 have l4:=h.toLot.le4;have ln:(xg v.length i).length=v.length:=by simp [xg]
 have hL':L<S.length:=(List.getElem?_eq_some_iff.mp hL).1;have em:((List.range v.length).map fun c:Nat=>D.int (if i=c then 1 else 0))=iL (xg v.length i):=by simp [xg,Function.comp_def]
 have c:=z7d (s:=S++A::J) (mp:=[some 9,none]) (fg:=yE 1) (fe:=ze za5 (za (eOp dEq (zc 0) (zc 1)) zh)) (fun c:Nat=>D.int ((c:Nat):Int)) (fun c:Nat=>D.int (if i=c then 1 else 0)) (fun c=>[some (.int ((i:Nat):Int)),some (.int ((c:Nat):Int))]) (List.range v.length) (uZ (n:=v.length) (Z:=EV (some e) a1 (some (.int ((v.length:Nat):Int))) a3 a4 (some (.int ((b:Nat):Int))) a6 a7 (some (.loc L)) (some (.int ((i:Nat):Int))) a10 (some (.loc S.length)) p12) (ar:=za (zc 2) zh) (by omega) (by simp)) (fun c _=>by simp) (fun c _=>by
   rw [wz (x:=.bl (decide (((i:Nat):Int)=((c:Nat):Int)))) (by simp)];by_cases q:i=c;·simp [za5,q]
   ·have:¬ ((i:Nat):Int)=((c:Nat):Int):=by omega
    simp [za5,q,this]) (by simp [cap];omega) (by rw [em];exact yy _);rw [em] at c;have f20:wx (EV (some e) a1 (some (.int ((v.length:Nat):Int))) a3 a4 (some (.int ((b:Nat):Int))) a6 a7 (some (.loc L)) (some (.int ((i:Nat):Int))) a10 (some (.loc S.length)) p12) (S++A::J) = .ok (.nx (EV (some e) a1 (some (.int ((v.length:Nat):Int))) a3 a4 (some (.int ((b:Nat):Int))) a6 a7 (some (.loc L)) (some (.int ((i:Nat):Int))) a10 (some (.loc S.length)) (some (.loc (S++A::J).length)))) ((S++A::J)++[iL (xg v.length i)]):=by
  rw [wx,zV,c];rfl
 have aT:((S++A::J)++[iL (xg v.length i)])[(S++A::J).length]? = some (iL (xg v.length i)):=by simp
 have aL:((S++A::J)++[iL (xg v.length i)])[L]? = some (iL Q):=by rw [List.append_assoc,List.getElem?_append_left hL',hL]
 have i1:=z9n (i:=((b:Nat):Int)) (d:=.int ((xg v.length i).getD b 0)) aT (by omega) (by simp [List.getD_eq_getElem?_getD,ln,hb]);have i2:=z9n (i:=((i:Nat):Int)) (d:=.int (Q.getD i 0)) aL (by omega) (by simp [List.getD_eq_getElem?_getD,hQ,hi]);have hs21:((S++A::J)++[iL (xg v.length i)]).set (S++A::J).length (iL ((xg v.length i).set ((b:Nat):Int).toNat ((xg v.length i).getD b 0+Q.getD i 0)))=(S++A::J)++[iL (yL b (xg v.length i) (Q.getD i 0))]:=by
  rw [List.set_append_right _ _ (by omega),z7J (by rw [ln];exact hb)];simp
 have f21:ww (EV (some e) a1 (some (.int ((v.length:Nat):Int))) a3 a4 (some (.int ((b:Nat):Int))) a6 a7 (some (.loc L)) (some (.int ((i:Nat):Int))) a10 (some (.loc S.length)) (some (.loc (S++A::J).length))) ((S++A::J)++[iL (xg v.length i)]) = .ok (.nx (EV (some e) a1 (some (.int ((v.length:Nat):Int))) a3 a4 (some (.int ((b:Nat):Int))) a6 a7 (some (.loc L)) (some (.int ((i:Nat):Int))) a10 (some (.loc S.length)) (some (.loc (S++A::J).length)))) ((S++A::J)++[iL (yL b (xg v.length i) (Q.getD i 0))]):=by rw [ww,z3A (s1:=(S++A::J)++[iL (xg v.length i)]) (s2:=(S++A::J)++[iL (xg v.length i)]) (L:=(S++A::J).length) (xs:=xg v.length i) (i:=((b:Nat):Int)) (x:=(xg v.length i).getD b 0+Q.getD i 0) (by
   rw [yn,op2 (x:=.loc (S++A::J).length) (y:=.int ((b:Nat):Int)) (vr rfl) (vr rfl),i1,R.bind_ok,op2 (x:=.loc L) (y:=.int ((i:Nat):Int)) (vr rfl) (vr rfl),i2,R.bind_ok];simp) (vr rfl) (vr rfl) aT (by omega) (by omega),hs21]
 have lt4:(iL (yL b (xg v.length i) (Q.getD i 0))).length<=4:=by
  rw [z7J (by rw [ln];exact hb)];simp [ln];omega
 generalize hW:iL (yL b (xg v.length i) (Q.getD i 0))=W at *;have aW:((S++A::J)++[W])[(S++A::J).length]? = some W:=by simp
 have ot:=E.tu ((S++A::J)++[W]);have aA:((S++A::J)++[W])[S.length]? = some A:=by simp
 have fin:∀ (x:D) (row:List Int),x.flat=true->x=rD row->∀ Z:Ev,Z[11]? = some (some (.loc S.length))->(∃ y,Z[12]? = some (some y)/\yc [y] ((S++A::J)++[W])=.ok x ((S++A::J)++[W]))->wv Z ((S++A::J)++[W])=.ok (.nx Z) (S++(A++[x])::(J++[W])):=fun x row fx hx Z h11 ⟨y,h12,g⟩=>by
  rw [wv,zhz (s2:=(S++A::J)++[W]) (L:=S.length) (xs:=A) (x:=x) (vr h11) (by rw [wz (vr h12)];exact g) aA hA fx];have hs24:((S++A::J)++[W]).set S.length (A++[x])=S++(A++[x])::(J++[W]):=by
   rw [List.append_assoc,List.set_append_right _ _ (by omega)];simp
  rw [hs24]
 by_cases q:r=.tu
 ·refine ⟨J++[W],some (.lst (rot W)),?_⟩;have f22:yR (EV (some e) a1 (some (.int ((v.length:Nat):Int))) a3 a4 (some (.int ((b:Nat):Int))) a6 a7 (some (.loc L)) (some (.int ((i:Nat):Int))) a10 (some (.loc S.length)) (some (.loc (S++A::J).length))) ((S++A::J)++[W]) = .ok (.nx (EV (some e) a1 (some (.int ((v.length:Nat):Int))) a3 a4 (some (.int ((b:Nat):Int))) a6 a7 (some (.loc L)) (some (.int ((i:Nat):Int))) a10 (some (.loc S.length)) (some (.lst (rot W))))) ((S++A::J)++[W]):=by
   rw [yR,zaW (by rw [um,op2 (x:=e) (y:=.str "turn") (vr rfl) rfl,ot];simp [q]),z03,zV,zfp (x:=.loc (S++A::J).length) (xs:=W) (k:=12) rfl (by simp [Dd.listOf]) (.inr ⟨_,rfl⟩) lt4];rfl
  rw [zi f20,zi f21,zi f22];have e1:rD (mvd r (yL b (xg v.length i) (Q.getD i 0)))=.tup (rot W):=by
   rw [q,z1X,<- hW];simp [rot,List.map_take,List.map_drop]
  rw [e1];exact fin (.tup (rot W)) _ (by rw [<- e1];exact yy _) e1.symm _ rfl ⟨_,rfl,z0W _ _⟩
 ·refine ⟨J++[W],some (.loc (S++A::J).length),?_⟩;have f22:yR (EV (some e) a1 (some (.int ((v.length:Nat):Int))) a3 a4 (some (.int ((b:Nat):Int))) a6 a7 (some (.loc L)) (some (.int ((i:Nat):Int))) a10 (some (.loc S.length)) (some (.loc (S++A::J).length))) ((S++A::J)++[W]) = .ok (.nx (EV (some e) a1 (some (.int ((v.length:Nat):Int))) a3 a4 (some (.int ((b:Nat):Int))) a6 a7 (some (.loc L)) (some (.int ((i:Nat):Int))) a10 (some (.loc S.length)) (some (.loc (S++A::J).length)))) ((S++A::J)++[W]):=by
   rw [yR,zfD (by rw [um,op2 (x:=e) (y:=.str "turn") (vr rfl) rfl,ot];simp [q])];rfl
  rw [zi f20,zi f21,zi f22];have e1:rD (mvd r (yL b (xg v.length i) (Q.getD i 0)))=.tup W:=by rw [z0F q,<- hW]
  rw [e1];exact fin (.tup W) _ (by rw [<- e1];exact yy _) (by rw [<- e1]) _ rfl ⟨_,rfl,by simp [yc,zJ]⟩
end
def z8W(r:Rl)(b n:Nat)(Q:List Int)(i:Nat):D:=rD (mvd r (yL b (xg n i) (Q.getD i 0)))
theorem zc2(r:Rl)(b:Nat)(Q:List Int):tD (z45 r b Q)=.tup ((List.range Q.length).map (z8W r b Q.length Q)):=by
 show D.tup _=D.tup _;congr 1;apply List.ext_getElem;·simp [z45,one]
 ·intro i h1 h2;have hi:i<Q.length:=by simpa using h2
  simp [z45,one,z8W,xg,hi]
section
variable {n m:Nat}{v:List Int}{d e:D}{r:Rl}(h:LotB n m v)(E:RD e r){a0 a1 a2 a3 a4 a5 a6 a7 a8 a9 a10 a11 a12:Option Dd.D}{b:Nat}(hb:b<v.length){Q:List Int}(hQ:Q.length=v.length)
include h E hb hQ
theorem zhH {S:Sto} {L:Nat} {all:List D} (hL:S[L]? = some (iL Q)):∀ (k j:Nat) (J:Sto) (p9 p12:Option D),j+k=v.length-> ∃ J' p9' p12',yZ [] all (fun d Z s=>(yE 9 d Z s).bind fun Z' s'=>(zE wx (zE ww (zE yR wv))) Z' s') ((List.range' j k).map fun i=>D.int ((i:Nat):Int)) (EV (some e) a1 (some (.int ((v.length:Nat):Int))) a3 a4 (some (.int ((b:Nat):Int))) a6 a7 (some (.loc L)) p9 a10 (some (.loc S.length)) p12) (S++((List.range j).map (z8W r b v.length Q))::J) = .ok (.nx (EV (some e) a1 (some (.int ((v.length:Nat):Int))) a3 a4 (some (.int ((b:Nat):Int))) a6 a7 (some (.loc L)) p9' a10 (some (.loc S.length)) p12')) (S++((List.range (j+k)).map (z8W r b v.length Q))::J')
 | 0,j,J,p9,p12,_=>⟨J,p9,p12,by simp [yZ,okG]⟩ | k+1,j,J,p9,p12,hj=>by
  have l4:=h.toLot.le4;obtain ⟨J1,q12,e1⟩:=zkb (a1:=a1) (a3:=a3) (a4:=a4) (a6:=a6) (a7:=a7) (a10:=a10) h E hb hQ hL (i:=j) (by omega) ((List.range j).map (z8W r b v.length Q)) (by simp;omega) J p12;obtain ⟨J2,q9,r12,e2⟩:=zhH hL k (j+1) J1 (some (.int ((j:Nat):Int))) q12 (by omega);refine ⟨J2,q9,r12,?_⟩;have es:(List.range j).map (z8W r b v.length Q)++[rD (mvd r (yL b (xg v.length j) (Q.getD j 0)))]=(List.range (j+1)).map (z8W r b v.length Q):=by
   rw [List.range_succ,List.map_append];rfl
  rw [es] at e1;rw [List.range'_succ,List.map_cons,yZ,if_pos (by intro p hp;simp at hp),z0b,R.bind_ok];simp only [List.set_cons_succ,List.set_cons_zero];rw [e1,R.bind_ok];simp only;rw [e2,show j+1+k=j+(k+1) by omega]
theorem zl3 (D:LD d v) (hm:m<=1999) {ps:List Nat} (hps:∀ i∈ps,i<v.length) (hq:∀ q∈Q,0<=q/\q<2 ^ m) (eQ:(if 0<v.getD b 0 then zcN v (v.getD b 0) ps (List.replicate v.length 0) else List.replicate v.length 0)=Q) (s:Sto): ∃ s',(zE xu (zE xA (zE xC (zE xq (zE xz (zE yD xD)))))) (EV (some e) (some d) (some (.int ((v.length:Nat):Int))) a3 a4 (some (.int ((b:Nat):Int))) a6 (some (.lst (nL ps))) a8 a9 a10 a11 a12) s = .ok (.rt (.tup [rD (mvd r (left v Q b)),tD (z45 r b Q)])) s'/\s'.take s.length=s:=by
 have l4:=h.toLot.le4;have f13:=zl4 (a0:=some e) (a1:=some d) (a3:=a3) (a4:=a4) (a5:=some (.int ((b:Nat):Int))) (a6:=a6) (a7:=some (.lst (nL ps))) (a8:=a8) (a9:=a9) (a10:=a10) (a11:=a11) (a12:=a12) h s;obtain ⟨p9,f14⟩:=zgP (a0:=some e) (a2:=some (.int ((v.length:Nat):Int))) (a3:=a3) (a4:=a4) (a6:=a6) (a7:=some (.lst (nL ps))) (a10:=a10) (a11:=a11) (a12:=a12) h D hm hb (S0:=s++[[Dd.D.int 0]]) (all:=nL ps) ps (List.replicate v.length 0) a9 hps (by simp);rw [eQ] at f14;have g14:xA (EV (some e) (some d) (some (.int ((v.length:Nat):Int))) a3 a4 (some (.int ((b:Nat):Int))) a6 (some (.lst (nL ps))) (some (.loc (s++[[Dd.D.int 0]]).length)) a9 a10 a11 a12) ((s++[[Dd.D.int 0]])++[iL (List.replicate v.length 0)]) = .ok (.nx (EV (some e) (some d) (some (.int ((v.length:Nat):Int))) a3 a4 (some (.int ((b:Nat):Int))) a6 (some (.lst (nL ps))) (some (.loc (s++[[Dd.D.int 0]]).length)) p9 a10 a11 a12)) ((s++[[Dd.D.int 0]])++[iL Q]):=by
  rw [xA,z05,kI (xs:=nL ps) (vr rfl),R.bind_ok];exact f14
 generalize hS:(s++[[Dd.D.int 0]])++[iL Q]=S at *;have hL:S[(s++[[Dd.D.int 0]]).length]? = some (iL Q):=by rw [<- hS];simp
 have hpre:s <+: S:=by
  rw [<- hS,List.append_assoc];exact List.prefix_append _ _
 generalize hLL:(s++[[Dd.D.int 0]]).length=L at *;have f17:=zlf (a0:=some e) (a2:=some (.int ((v.length:Nat):Int))) (a3:=a3) (a4:=a4) (a6:=a6) (a7:=some (.lst (nL ps))) (a9:=p9) (a10:=a10) (a11:=a11) (a12:=a12) h D hm S hb hL hQ hq;have f18:xq (EV (some e) (some d) (some (.int ((v.length:Nat):Int))) a3 a4 (some (.int ((b:Nat):Int))) a6 (some (.lst (nL ps))) (some (.loc L)) p9 (some (.lst (iL (left v Q b)))) a11 a12) S = .ok (.nx (EV (some e) (some d) (some (.int ((v.length:Nat):Int))) a3 a4 (some (.int ((b:Nat):Int))) a6 (some (.lst (nL ps))) (some (.loc L)) p9 (some (.lst (iL (left v Q b)))) (some (.loc S.length)) a12)) (S++((List.range 0).map (z8W r b v.length Q))::[]):=by
  rw [xq,zV,z1J,zH,R.bind_ok,if_pos ⟨by simp,rfl⟩];rfl
 obtain ⟨J,q9,q12,f19⟩:=zhH (a1:=some d) (a3:=a3) (a4:=a4) (a6:=a6) (a7:=some (.lst (nL ps))) (a10:=some (.lst (iL (left v Q b)))) h E hb hQ (all:=(List.range v.length).map fun i:Nat=>Dd.D.int ((i:Nat):Int)) hL v.length 0 [] p9 a12 (by omega);have g19:xz (EV (some e) (some d) (some (.int ((v.length:Nat):Int))) a3 a4 (some (.int ((b:Nat):Int))) a6 (some (.lst (nL ps))) (some (.loc L)) p9 (some (.lst (iL (left v Q b)))) (some (.loc S.length)) a12) (S++((List.range 0).map (z8W r b v.length Q))::[]) = .ok (.nx (EV (some e) (some d) (some (.int ((v.length:Nat):Int))) a3 a4 (some (.int ((b:Nat):Int))) a6 (some (.lst (nL ps))) (some (.loc L)) q9 (some (.lst (iL (left v Q b)))) (some (.loc S.length)) q12)) (S++((List.range (0+v.length)).map (z8W r b v.length Q))::J):=by
  rw [xz,z05,uZ (n:=v.length) (s1:=S++((List.range 0).map (z8W r b v.length Q))::[]) (by omega) (by simp),R.bind_ok];rw [List.range_eq_range'] at f19 ⊢;exact f19
 rw [Nat.zero_add] at g19;have aM:(S++((List.range v.length).map (z8W r b v.length Q))::J)[S.length]? = some ((List.range v.length).map (z8W r b v.length Q)):=by simp
 refine ⟨S++((List.range v.length).map (z8W r b v.length Q))::J,?_,?_⟩
 ·generalize hT:S++((List.range v.length).map (z8W r b v.length Q))::J=T at *;have ot:=E.tu T;have fin:∀ w:List Int,xD (EV (some e) (some d) (some (.int ((v.length:Nat):Int))) a3 a4 (some (.int ((b:Nat):Int))) a6 (some (.lst (nL ps))) (some (.loc L)) q9 (some (.lst (iL w))) (some (.loc S.length)) q12) T=.ok (.rt (.tup [rD w,tD (z45 r b Q)])) T:=fun w=>by
   have e1:yc [.lst (iL w)] T=.ok (rD w) T:=z0W _ _;have e2:yc [.loc S.length] T=.ok (tD (z45 r b Q)) T:=by
    rw [zc2,hQ];simp only [yc,zJ,aM]
   rw [xD,yo,z0G,zB,wz (x:=.lst (iL w)) (vr rfl),e1,R.bind_ok,zB,wz (x:=.loc S.length) (vr rfl),e2,R.bind_ok,zH];simp only [R.bind_ok];rw [if_pos (by simp [cap])];rfl
  rw [zi f13,zi g14,zi f17,zi f18,zi g19];have lw:(left v Q b).length=v.length:=by simp [left,hQ]
  by_cases q:r=.tu
  ·have f25:yD (EV (some e) (some d) (some (.int ((v.length:Nat):Int))) a3 a4 (some (.int ((b:Nat):Int))) a6 (some (.lst (nL ps))) (some (.loc L)) q9 (some (.lst (iL (left v Q b)))) (some (.loc S.length)) q12) T=.ok (.nx (EV (some e) (some d) (some (.int ((v.length:Nat):Int))) a3 a4 (some (.int ((b:Nat):Int))) a6 (some (.lst (nL ps))) (some (.loc L)) q9 (some (.lst (iL (mvd r (left v Q b))))) (some (.loc S.length)) q12)) T:=by
    have e3:rot (iL (left v Q b))=iL (mvd r (left v Q b)):=by
     rw [q,z1X];simp [rot,List.map_take,List.map_drop]
    rw [yD,zaW (by rw [um,op2 (x:=e) (y:=.str "turn") (vr rfl) rfl,ot];simp [q]),kQ,zV,zfp (x:=.lst (iL (left v Q b))) (xs:=iL (left v Q b)) (k:=10) rfl (by simp [Dd.listOf]) (.inl rfl) (by simp [lw];omega),e3];rfl
   rw [zi f25];exact fin _
  ·have f25:yD (EV (some e) (some d) (some (.int ((v.length:Nat):Int))) a3 a4 (some (.int ((b:Nat):Int))) a6 (some (.lst (nL ps))) (some (.loc L)) q9 (some (.lst (iL (left v Q b)))) (some (.loc S.length)) q12) T=.ok (.nx (EV (some e) (some d) (some (.int ((v.length:Nat):Int))) a3 a4 (some (.int ((b:Nat):Int))) a6 (some (.lst (nL ps))) (some (.loc L)) q9 (some (.lst (iL (left v Q b)))) (some (.loc S.length)) q12)) T:=by
    rw [yD,zfD (by rw [um,op2 (x:=e) (y:=.str "turn") (vr rfl) rfl,ot];simp [q])];rfl
   rw [zi f25,z0F q];exact fin _
 ·obtain ⟨t,rfl⟩:=hpre;rw [List.append_assoc];simp
end
theorem zdN(w:List Int)(T:Tb):(D.tup [rD w,tD T]).flat=true:=by
 have h1:(rD w).flat=true:=yy _;have h2:(tD T).flat=true:=by
  show D.flat.flats (T.map rD)=true;induction T with
  | nil=>rfl | cons r T ih=>
   show ((rD r).flat&&D.flat.flats (T.map rD))=true;rw [ih,Bool.and_true];exact yy r
 show ((rD w).flat&&((tD T).flat&&D.flat.flats []))=true;rw [h1,h2];rfl
section
variable {n m:Nat}{v:List Int}(r:Rl)(h:LotB n m v)(he:ended v=false)(hm:m<=1999)
include h he hm
theorem zgF (s:Sto):wH [.str (nmR r),rD v] s=.ok (.tup [rD (stp r v),tD (uL r v)]) s:=by
 have key:∀ d e:D,LD d v->RD e r->wH [e,d] s=.ok (.tup [rD (stp r v),tD (uL r v)]) s:=fun d e D E=>by
  have l4:=h.toLot.le4;have st:zr ["_law_rule","_law_lot_here","_law_size","_law_order","_law_top","_law_by","_law_most","_law_some","_law_quotients","_law_place","_law_later","_law_lines","_law_line"] [e,d]=EV (some e) (some d) none none none none none none none none none none none:=rfl;have f1:=zmG (a0:=some e) (a2:=none) (a3:=none) (a4:=none) (a5:=none) (a6:=none) (a7:=none) (a8:=none) (a9:=none) (a10:=none) (a11:=none) (a12:=none) h.toLot D s;obtain ⟨qs,f2,hmm,pw⟩:=zdI h.toLot he (EV (some e) (some d) (some (.int ((v.length:Nat):Int))) none none none none none none none none none none) s (by rw [<- D.eq];rfl);have f2':vP (EV (some e) (some d) (some (.int ((v.length:Nat):Int))) none none none none none none none none none none) s=.ok (.nx (EV (some e) (some d) (some (.int ((v.length:Nat):Int))) (some (.lst (qs.map pD))) none none none none none none none none none)) s:=f2;have ql:qs.length<=4:=by
   have nd:qs.Nodup:=pw.imp fun {a b} q z=>by rw [z,zcH] at q;cases q
   have h2:=zf8 h.toLot he;have:qs.length<=(z69 v).length:=List.Nodup.length_le_of_subset nd fun a ha=>(hmm a).mp ha;omega
  have f3:=zmf (a0:=some e) (a3:=some (.lst (qs.map pD))) (a4:=none) (a5:=none) (a6:=none) (a7:=none) (a8:=none) (a9:=none) (a10:=none) (a11:=none) (a12:=none) h.toLot D s;obtain ⟨qo,eh⟩:=z9P h.nn h.toLot.nzne hmm pw;have f4:=zmc (v:=v) (a1:=some d) (a2:=some (.int ((v.length:Nat):Int))) (a4:=some (.int ((gp v:Nat):Int))) (a5:=none) (a6:=none) (a7:=none) (a8:=none) (a9:=none) (a10:=none) (a11:=none) (a12:=none) s E eh;have dl:=qe r h.toLot he;have qb:=zjj r h he;have fin:∀ (a6:Option Dd.D) (ps:List Nat),(∀ i∈ps,i<v.length)->(if 0<v.getD (deal r v).1 0 then zcN v (v.getD (deal r v).1 0) ps (List.replicate v.length 0) else List.replicate v.length 0)=yA v (deal r v)-> (zE wc (zE we (zE vw (zE xE (zE xu (zE xA (zE xC (zE xq (zE xz (zE yD xD)))))))))) (EV (some e) (some d) (some (.int ((v.length:Nat):Int))) (some (.lst (qs.map pD))) (some (.int ((gp v:Nat):Int))) (some (zfs v r)) none none none none none none none) s = (zE xu (zE xA (zE xC (zE xq (zE xz (zE yD xD)))))) (EV (some e) (some d) (some (.int ((v.length:Nat):Int))) (some (.lst (qs.map pD))) (some (.int ((gp v:Nat):Int))) (some (.int (((deal r v).1:Nat):Int))) a6 (some (.lst (nL ps))) none none none none none) s-> wH [e,d] s=.ok (.tup [rD (stp r v),tD (uL r v)]) s:=fun a6 ps hps eQ eF=>by
   obtain ⟨s',et,tk⟩:=zl3 (a3:=some (.lst (qs.map pD))) (a4:=some (.int ((gp v:Nat):Int))) (a6:=a6) (a8:=none) (a9:=none) (a10:=none) (a11:=none) (a12:=none) h E dl.lt (Q:=yA v (deal r v)) (xa _ _) D hm hps qb eQ s;simp only [wH,z8j,Mof,z1u,st,List.length_cons,List.length_nil,if_true];rw [zi f1,zi f2',zi f3,zi f4,eF,et];simp only;rw [z4V (zdN _ _),tk];rfl
  have ol:=E.le s;have on:=E.nx s;have oi:=E.in_ s;have no5:r≠.le->∀ x,wc (EV (some e) (some d) (some (.int ((v.length:Nat):Int))) (some (.lst (qs.map pD))) (some (.int ((gp v:Nat):Int))) x none none none none none none none) s=.ok (.nx (EV (some e) (some d) (some (.int ((v.length:Nat):Int))) (some (.lst (qs.map pD))) (some (.int ((gp v:Nat):Int))) x none none none none none none none)) s:=fun q x=>by
   rw [wc,zfD (by rw [um,op2 (x:=e) (y:=.str "least") (vr rfl) rfl,ol];simp [q])];rfl
  have no7:r≠.nx->∀ x,we (EV (some e) (some d) (some (.int ((v.length:Nat):Int))) (some (.lst (qs.map pD))) (some (.int ((gp v:Nat):Int))) x none none none none none none none) s=.ok (.nx (EV (some e) (some d) (some (.int ((v.length:Nat):Int))) (some (.lst (qs.map pD))) (some (.int ((gp v:Nat):Int))) x none none none none none none none)) s:=fun q x=>by
   rw [we,zfD (by rw [um,op2 (x:=e) (y:=.str "next") (vr rfl) rfl,on];simp [q])];rfl
  have row11:∀ (x6:Option Dd.D) (b:Nat) (z:Option Dd.D),(r=.nx\/r=.le)->xE (EV (some e) (some d) (some (.int ((v.length:Nat):Int))) (some (.lst (qs.map pD))) (some (.int ((gp v:Nat):Int))) (some (.int ((b:Nat):Int))) x6 z none none none none none) s = .ok (.nx (EV (some e) (some d) (some (.int ((v.length:Nat):Int))) (some (.lst (qs.map pD))) (some (.int ((gp v:Nat):Int))) (some (.int ((b:Nat):Int))) x6 (some (.lst (nL [gp v]))) none none none none none)) s:=fun x6 b z q=>by
   rw [xE,zaW (by rw [um,op2 (x:=e) (y:=.tup [.str "next",.str "least"]) (vr rfl) rfl,oi];simp [q]),kX,zV,jJ,zB,vr (d:=.int ((gp v:Nat):Int)) rfl];simp only [R.bind_ok,zH];rw [if_pos (by simp [cap])];rfl
  have no11:∀ (x6:Option Dd.D) (b:Nat) (z:Option Dd.D),¬ (r=.nx\/r=.le)->xE (EV (some e) (some d) (some (.int ((v.length:Nat):Int))) (some (.lst (qs.map pD))) (some (.int ((gp v:Nat):Int))) (some (.int ((b:Nat):Int))) x6 z none none none none none) s = .ok (.nx (EV (some e) (some d) (some (.int ((v.length:Nat):Int))) (some (.lst (qs.map pD))) (some (.int ((gp v:Nat):Int))) (some (.int ((b:Nat):Int))) x6 z none none none none none)) s:=fun x6 b z q=>by
   rw [xE,zfD (by rw [um,op2 (x:=e) (y:=.tup [.str "next",.str "least"]) (vr rfl) rfl,oi];simp [q])];rfl
  have row10:=fun (x6:Option Dd.D) (b:Nat)=>zkH (a0:=some e) (a1:=some d) (a3:=some (.lst (qs.map pD))) (a4:=some (.int ((gp v:Nat):Int))) (a6:=x6) (a7:=none) (a8:=none) (a9:=none) (a10:=none) (a11:=none) (a12:=none) h.toLot s b;have gpl:=(z8R h.toLot.ne).1;have posd:(deal r v).2≠[]->0<v.getD (deal r v).1 0:=fun q=>dl.pos.resolve_left q;cases hr:r with
  | nx=>
   subst hr;have p0:=posd (by simp [deal]);refine fin (some (.int (maxL (others v)))) [gp v] (by simpa using gpl) (by rw [if_pos p0,kK];rfl) ?_;have f7:we (EV (some e) (some d) (some (.int ((v.length:Nat):Int))) (some (.lst (qs.map pD))) (some (.int ((gp v:Nat):Int))) (some (zfs v .nx)) none none none none none none none) s=.ok (.nx (EV (some e) (some d) (some (.int ((v.length:Nat):Int))) (some (.lst (qs.map pD))) (some (.int ((gp v:Nat):Int))) (some (.int (((deal .nx v).1:Nat):Int))) (some (.int (maxL (others v)))) none none none none none none)) s:=by
    rw [we,zaW (by rw [um,op2 (x:=e) (y:=.str "next") (vr rfl) rfl,on];simp),zi (zn7 h.toLot s he hmm pw ql)];exact zmH h.toLot s he D
   rw [zi (no5 (by decide) _),zi f7,zi (row10 _ _),zi (row11 _ _ _ (.inl rfl))] | le=>
   subst hr;have p0:=posd (by simp [deal]);refine fin none [gp v] (by simpa using gpl) (by rw [if_pos p0,kK];rfl) ?_;have f5:wc (EV (some e) (some d) (some (.int ((v.length:Nat):Int))) (some (.lst (qs.map pD))) (some (.int ((gp v:Nat):Int))) (some (zfs v .le)) none none none none none none none) s=.ok (.nx (EV (some e) (some d) (some (.int ((v.length:Nat):Int))) (some (.lst (qs.map pD))) (some (.int ((gp v:Nat):Int))) (some (.int (((deal .le v).1:Nat):Int))) none none none none none none none)) s:=by
    rw [wc,zaW (by rw [um,op2 (x:=e) (y:=.str "least") (vr rfl) rfl,ol];simp)];exact zmF h.toLot s he hmm pw ql
   rw [zi f5,zi (no7 (by decide) _),zi (row10 _ _),zi (row11 _ _ _ (.inr rfl))] | al=>
   subst hr;have p0:0<v.getD (deal .al v).1 0:=by
    obtain ⟨_,l2,l3⟩:=z8S h.toLot.nzne;have:=Pm.vc h.nn (lp v);show 0<v.getD (lp v) 0;omega
   refine fin none (wq v (lp v)) (fun i hi=>(vo.mp hi).1) (by rw [if_pos p0,kK];rfl) ?_;rw [zi (no5 (by decide) _),zi (no7 (by decide) _),show zfs v .al=Dd.D.int ((lp v:Nat):Int) from rfl,zi (row10 none (lp v)),zi (no11 _ _ _ (by decide))];rfl | tu=>
   subst hr;refine fin none (wq v 0) (fun i hi=>(vo.mp hi).1) ?_ ?_
   ·by_cases q:v.getD 0 0=0
    ·have e2:deal .tu v=(0,[]):=by
      show (0,if v.getD 0 0=0 then [] else wq v 0)=_;rw [if_pos q]
     rw [e2,if_neg (by show ¬ 0<v.getD 0 0;omega),zcI]
    ·have e2:deal .tu v=(0,wq v 0):=by
      show (0,if v.getD 0 0=0 then [] else wq v 0)=_;rw [if_neg q]
     have:=Pm.vc h.nn 0;rw [e2,if_pos (by show 0<v.getD 0 0;omega),kK]
   rw [zi (no5 (by decide) _),zi (no7 (by decide) _),show zfs v .tu=Dd.D.int ((0:Nat):Int) from rfl,zi (row10 none 0),zi (no11 _ _ _ (by decide))];rfl
 exact key _ _ (LD.of h.toLot) (RD.of r)
end
end Po
namespace Pn
open PySem.Spec L2 Dd Pm Pg
theorem z1Q:LeM wC wG:=LeM.mof (LeS.if_ LeS.fNo LeS.rfl)
theorem zb2:LeM zG zy:=LeM.mof (LeS.seq (LeS.drop (LeE.call z1Q)) (LeS.drop (LeE.call z8E)))
theorem z9l{M:Mir}{f:FE}{Z:Ev}{s:Sto}{x:D}{c:Str}(h:f Z s=.ok x s)(hx:M [x] s=.ex c s):ze M (za f zh) Z s=.ex c s:=by rw [wz h,hx]
theorem z2L{M:Mir}{f g:FE}{Z:Ev}{s:Sto}{x y:D}{c:Str}(h:f Z s=.ok x s)(h2:g Z s=.ok y s)(hx:M [x,y] s=.ex c s):ze M (za f (za g zh)) Z s=.ex c s:=by rw [call2 h h2,hx]
section
variable {d y:D}{s:Sto}
theorem z4h (h:xo [d] s=.ok (.bl false) s):wG [d] s=.ex "NoRule" s:=by
 have st:zr ["thing"] [d]=[some d]:=rfl;simp only [wG,z2Q,z13,st,List.length_cons,List.length_nil,if_true,z0a,z2w,z4Y,um,wz (x:=d) (vr (Z:=[some d]) (i:=0) (s:=s) rfl),h,R.bind_ok];rfl
theorem zc9 (h:xo [d] s=.ok (.bl false) s):zy [d,y] s=.ex "NoRule" s:=by
 have st:zr ["rule","lot"] [d,y]=[some d,some y]:=rfl;simp only [zy,z2Q,xV,st,List.length_cons,List.length_nil,if_true];rw [zcC (c:="NoRule") (s':=s) (by rw [xF];exact z8p (z9l (x:=d) (vr rfl) (z4h h)))]
theorem zeo {r:Rl} (h:yj [y] s=.ok (.bl false) s):zy [.str (nmR r),y] s=.ex "NoLot" s:=by
 have k:=z1Q.ok (z3e r s);have key:∀ d:D,wG [d] s=.ok .non s->zy [d,y] s=.ex "NoLot" s:=fun d k=>by
  have st:zr ["rule","lot"] [d,y]=[some d,some y]:=rfl;simp only [zy,z2Q,xV,st,List.length_cons,List.length_nil,if_true];rw [zi (Z':=[some d,some y]) (s':=s) (by rw [xF,qK,wz (x:=d) (vr rfl),k];rfl),ve,z8p (z9l (x:=y) (vr rfl) (z5m h))]
 exact key _ k
end
end Pn
namespace Po
open PySem.Spec L2 Dd Pm Pg Pn
theorem zn9(Z:Ev)(s:Sto):qh (za (eC (.int 2)) zh) Z s=.ok (([0,1]:List Int).map D.int,[]) s:=by simp;rfl
theorem z9A(k:Nat){v:List Int}(h:v.length<=1000):qc (k+1) (rD v):=by
 simp only [qc];refine ⟨by simp [cap];omega,fun x hx=>?_⟩;obtain ⟨y,_,rfl⟩:=List.mem_map.mp hx;cases k<;>trivial
theorem zdm(k:Nat){T:Tb}(h:T.length<=1000)(h2:∀ r∈T,r.length<=1000):qc (k+2) (tD T):=by
 simp only [qc];refine ⟨by simp [cap];omega,fun x hx=>?_⟩;obtain ⟨r,hr,rfl⟩:=List.mem_map.mp hx;exact z9A k (h2 r hr)
theorem twice(x:Str)(Z:Ev)(s:Sto):eOp zfm (qG (za (eC (.str x)) zh)) (eC (.int 2)) Z s=.ok (.lst [.str x,.str x]) s:=by
 have c1:(1:Nat)<=cap:=by decide
 simp only [yn,jJ,zB,zH,z0v,R.bind_ok,List.length_cons,List.length_nil,Nat.zero_add,if_pos c1];rfl
def only(v:List Int)(k:Nat):List Int:=(enP v).map fun p=>p.1*(if p.2=k then 1 else 0)
theorem zeB {n:Nat} {v:List Int} (h:Lot n v) (s:Sto):xj [rD v] s=.ok (.bl (ended v)) s:=by
 have l4:=h.le4;have key:∀ d:D,d=rD v->xj [d] s=.ok (.bl (ended v)) s:=fun d hd=>by
  have st:zr ["_law_lot_here"] [d]=[some d]:=rfl;have c:=vN (s:=s) (Z:=[some d]) (fi:=yx (zc 0)) (mp:=[none]) (fg:=yE 0) (ft:=tOf (eOp dGt (zc 0) (eC (.int 0)))) (fe:=zc 0) D.int D.int (fun x=>decide (0<x)) (fun x=>[some (.int x)]) v (z66 (by rw [show D.tup (v.map D.int)=d from hd.symm];exact vr rfl)) (fun x _=>by simp) (fun x _=>by simp) (fun x _ _=>by simp) (by simp [cap];omega);have e:v.filter (fun x=>decide (0<x))=nz v:=by
   refine List.filter_congr fun x hx=>?_;have:=h.nn x hx;by_cases q:x=0;·simp [q]
   ·have:0<x:=by omega
    simp [q,this]
  rw [e] at c;have lb:decide (((nz v).length:Int)=1)=ended v:=by
   unfold ended;by_cases e:(nz v).length=1;·simp [e]
   ·have:¬ ((nz v).length:Int)=1:=by omega
    simp [e,this]
  simp only [xj,Mof,z0P,st,List.length_cons,List.length_nil,if_true,z0d,yo,yn,wz c,yJ,zJ,R.bind_ok,z0v,z81,List.length_map,lb]
 exact key _ rfl
def rls:List Rl:=[.al,.le,.nx,.tu]
theorem zeI(s:Sto):wJ [] s=.ok (.lst (rls.map fun r=>D.str (nmR r))) s:=by
 have c4:(4:Nat)<=cap:=by decide
 have st:zr [] []=[]:=rfl;simp only [wJ,Mof,z0L,st,List.length_nil,if_true,kP,yo,jJ,zB,zH,z0v,R.bind_ok,List.length_cons,Nat.zero_add,Nat.reduceAdd,if_pos c4];rfl
open PySem.Builtin.Str
def noR(r:Rl):List D:=[.str (Txt.upper (nmR r)),.str (nmR r++" "),.str (Txt.slice (nmR r) (some 1) none),.str (nmR r++"s"),.str "",.non,.int 3,.tup [.str (nmR r)],.lst [.str (nmR r)],.bl true,.dct]
theorem zjl{r:Rl}{d:D}(h:d∈noR r)(s:Sto):xo [d] s=.ok (.bl false) s:=by
 simp only [noR,List.mem_cons,List.not_mem_nil,or_false] at h;cases r<;>rcases h with rfl | rfl | rfl | rfl | rfl | rfl | rfl | rfl | rfl | rfl | rfl<;>kernel_rfl
theorem zby {s:Sto} {l:Nat} (r:Rl) (h:Pot s l):∃ d s',wn [.loc l,.str (nmR r)] s=.ok d s'/\d∈noR r/\vL s s' l:=by
 have st:zr ["_law_pot_here","_law_rule","_law_some"] [.loc l,.str (nmR r)]=[some (.loc l),some (.str (nmR r)),none]:=rfl;have q1:jF [some (.loc l),some (.str (nmR r)),none] s=.ok (.nx [some (.loc l),some (.str (nmR r)),some (.lst (noR r))]) s:=by cases r<;>kernel_rfl
 obtain ⟨x,s',e,a,b,dr⟩:=vg (f:=zc 0) (g:=eC (.int 11)) (far:=11) (Z:=[some (.loc l),some (.str (nmR r)),some (.lst (noR r))]) h (by decide) (jH (by decide)) (by simp) (by simp);have hr:x.toNat<(noR r).length:=by simp [noR];omega
 have ix:=uv (xs:=noR r) (d:=(noR r)[x.toNat]) (s:=s') a (by simp [hr]);refine ⟨(noR r)[x.toNat],s',?_,List.getElem_mem hr,dr⟩;simp only [wn,Mof,jM,st,List.length_cons,List.length_nil,if_true];rw [zi q1,jE,yo,yn];simp only [zO,List.getElem?_cons_succ,List.getElem?_cons_zero,R.bind_ok];rw [e,R.bind_ok,ix,R.bind_ok]
theorem zjv {s:Sto} {l:Nat} {f:FE} {Z:Ev} (h:Pot s l) (hf:f Z s=.ok (.loc l) s):∃ r s',eOp dIx (ze wJ zh) (ze zp (za f (za (eC (.int 4)) zh))) Z s=.ok (.str (nmR r)) s'/\vL s s' l:=by
 obtain ⟨x,s',e,a,b,dr⟩:=vg (f:=f) (g:=eC (.int 4)) (far:=4) (Z:=Z) h (by decide) (jH (by decide)) hf (by simp);have hr:x.toNat<rls.length:=by simp [rls];omega
 refine ⟨rls[x.toNat],s',?_,dr⟩;have ix:=uv (xs:=rls.map fun r=>D.str (nmR r)) (d:=.str (nmR rls[x.toNat])) (s:=s') a (by simp [hr]);rw [yn,ye,zH,R.bind_ok,zeI,R.bind_ok,e,R.bind_ok,ix]
end Po
namespace Po
open PySem.Spec L2 Dd Pm Pg Pn
theorem zbe{α:Type}{G:List (Nat×List D)}{all:List D}{body:D->Sto->R (Option D)}{s:Sto}(og:okG G all s)(g f:α->D):∀ (l:List α)(acc:List D),(∀ x∈l,body (g x) s=.ok (some (f x)) s)->acc.length+l.length<=cap->wR G all body (l.map g) acc s=.ok (acc++l.map f) s
 | [],acc,_,_=>by simp [wR,og] | x::xs,acc,hb,hl=>by
  have ih:=zbe (all:=all) og g f xs (acc++[f x]) (fun y hy=>hb y (by simp [hy])) (by simp at hl ⊢;omega);have hc:acc.length<cap:=by simp at hl;omega
  rw [List.map_cons,wR,if_pos og,hb x (by simp),R.bind_ok];simp only [if_pos hc,ih];simp
theorem zcb{α:Type}{G:List (Nat×List D)}{fi:FI}{mp:List (Option Nat)}{fg:FG}{fe:FE}{Z:Ev}{s:Sto}(g f:α->D)(ev:α->Ev)(l:List α) (hi:fi Z s=.ok (l.map g,G) s)(og:okG G (l.map g) s)(hg:∀ a∈l,fg (g a) (xh mp Z) s=.ok (ev a) s)(he:∀ a∈l,fe (ev a) s=.ok (f a) s)(hl:l.length<=cap): zA fi mp fg zX fe Z s=.ok (.lst (l.map f)) s:=by
 rw [jn,jd,hi,R.bind_ok];rw [zbe og g f l [] (by
  intro a ha;simp only [hg a ha,R.bind_ok];show (R.ok true s).bind _=_;simp [he a ha]) (by simpa using hl)];rfl
theorem z52:∀ ps:List (D×D),z1f (ps.map Prod.fst) (ps.map Prod.snd)=ps.map fun p=>D.tup [p.1,p.2]
 | []=>rfl | p::ps=>by rw [List.map_cons,List.map_cons,z1f,z52 ps];rfl
theorem z50 {k:Nat} {ps:List (D×D)} {G1 G2:List (Nat×List D)} {s:Sto} {d e:D} (hd:tyD d=some "list") (he:tyD e=some "list") (gd:z46 s d=some (ps.map Prod.fst,G1)) (ge:z46 s e=some (ps.map Prod.snd,G2)) (og:∀ p∈G1++G2,s[p.1]? = some p.2) (ld:zJ s d=some (ps.map Prod.fst)) (le:zJ s e=some (ps.map Prod.snd)) (hl:ps.length<=cap) (h:∀ p∈ps,zt k [p.1,p.2] s=.ok (.bl true) s):zt (k+1) [d,e] s=.ok (.bl true) s:=by
 have st:zr ["_law_found","_law_due"] [d,e]=[some d,some e]:=rfl;have c:=zcb (G:=G1++G2) (fi:=z86 (za (zc 0) (za (zc 1) zh))) (mp:=[none,none]) (fg:=wf 0 1) (fe:=ze (zt k) (za (zc 0) (za (zc 1) zh))) (Z:=[some d,some e]) (s:=s) (fun p:D×D=>D.tup [p.1,p.2]) (fun x=>D.bl true) (fun p=>[some p.1,some p.2]) ps (by simp [gd,ge,z52]) og (fun a _=>by simp) (fun a ha=>by simp [h a ha]) hl;have ga:=z6g ps (fun _=>true) s;have ga:zap [.lst (ps.map fun _=>D.bl true)] s=.ok (.bl true) s:=by rw [ga];simp
 have gl:yJ [d] s=.ok (.int ps.length) s:=by simp [yJ,ld]
 have gl2:yJ [e] s=.ok (.int ps.length) s:=by simp [yJ,le]
 have q4:wT (zt k) [some d,some e] s=.ok (.rt (.bl true)) s:=by simp only [wT,yo,z9j,yn,ye,zB,zH,c,R.bind_ok,ga,zO,List.getElem?_cons_zero,List.getElem?_cons_succ,gl,gl2,z81,decide_true]
 have q2:qO (zt k) [some d,some e] s=.ok (.nx [some d,some e]) s:=by simp [gIs,hd,he,isT]
 have q1:wV (zt k) [some d,some e] s=.ok (.rt (.bl true)) s:=by
  rw [wV,z2w];have t:tOf (zdB "list" "tuple" (zc 1)) [some d,some e] s=.ok true s:=by simp [zdB,zfo,he,isT]
  rw [t,R.bind_ok,if_pos rfl,zi q2,q4]
 simp only [zt,Mof,wL,st,List.length_cons,List.length_nil,if_true];rw [z9T q1]
theorem z6J {k a b:Nat} {xs:List D} {s:Sto} (ha:s[a]? = some xs) (hb:s[b]? = some xs) (hl:xs.length<=cap) (h:∀ x∈xs,qc k x):zt (k+2) [.loc a,.loc b] s=.ok (.bl true) s:=by
 have e1:(xs.map fun x=>(x,x)).map Prod.fst=xs:=by rw [List.map_map];exact List.map_id _
 have e2:(xs.map fun x=>(x,x)).map Prod.snd=xs:=by rw [List.map_map];exact List.map_id _
 refine z50 (ps:=xs.map fun x=>(x,x)) (G1:=[(a,xs)]) (G2:=[(b,xs)]) rfl rfl (by simp [z46,ha,e1]) (by simp [z46,hb,e2]) (fun p hp=>?_) (by simp [zJ,ha,e1]) (by simp [zJ,hb,e2]) (by simpa using hl) (fun p hp=>?_)
 ·simp only [List.cons_append,List.nil_append,List.mem_cons,List.not_mem_nil,or_false] at hp;rcases hp with rfl | rfl<;>assumption
 ·obtain ⟨x,hx,rfl⟩:=List.mem_map.mp hp;exact z0M k x s (h x hx)
section
variable {n m:Nat}{r:Rl}{v:List Int}{ls:List (List Int)}
abbrev RV(d e:D)(L:Nat)(a4 a5:Option D):Ev:=[some d,some e,some (.loc L),some (.loc (L+1)),a4,a5]
theorem z5L{s:Sto}{x y z:List D}:(s++[x,y]).set s.length z=s++[z,y]/\(s++[x,y]).set (s.length+1) z=s++[x,z]:=by
 constructor;·rw [List.set_append_right _ _ (by omega)];simp
 ·rw [List.set_append_right _ _ (by omega)];simp
theorem qk{s:Sto}{x y:List D}:(s++[x,y])[s.length]? = some x/\(s++[x,y])[s.length+1]? = some y:=by
 constructor;·simp
 ·rw [List.getElem?_append_right (by omega)];simp
theorem zcY {d e:D} (hd:d=.str (nmR r)) (hm:m<=1999) (s:Sto) {c:List Int} (Rn:Run r c ls):∀ (pre:List (List Int)) (pt:List Tb) (a4 a5:Option D),LotB n m c->pre.length+ls.length<=50000->pt.length+ls.length<=50000-> ∃ b4 b5,ug (z40 (tOf (ze xj (za (eOp dIx (zc 2) (z5X (eC (.int 1)))) zh)))) (zE uK (zE uQ uD)) (ls.length+1) (RV d e s.length a4 a5) (s++[(pre++[c]).map rD,pt.map tD])=.ok (.nx (RV d e s.length b4 b5)) (s++[(pre++ls).map rD,(pt++zm r ls).map tD]):=by
 have tst:∀ (pre:List (List Int)) (pt:List Tb) (c:List Int) (a4 a5:Option D),LotB n m c->eOp dIx (zc 2) (z5X (eC (.int 1))) (RV d e s.length a4 a5) (s++[(pre++[c]).map rD,pt.map tD])=.ok (rD c) (s++[(pre++[c]).map rD,pt.map tD])/\z40 (tOf (ze xj (za (eOp dIx (zc 2) (z5X (eC (.int 1)))) zh))) (RV d e s.length a4 a5) (s++[(pre++[c]).map rD,pt.map tD])=.ok (!ended c) (s++[(pre++[c]).map rD,pt.map tD]):=fun pre pt c a4 a5 h=>by
  have ix:=z3F (x:=.loc s.length) (d:=rD c) (xs:=pre.map rD) (s:=s++[(pre++[c]).map rD,pt.map tD]) (by rw [zJ,qk.1];simp);have hE:=zeB h.toLot (s++[(pre++[c]).map rD,pt.map tD]);generalize (s++[(pre++[c]).map rD,pt.map tD])=S at *;have e1:eOp dIx (zc 2) (z5X (eC (.int 1))) (RV d e s.length a4 a5) S=.ok (rD c) S:=by rw [op2 (x:=.loc s.length) (y:=.int (-1)) (vr rfl) (by simp),ix]
  refine ⟨e1,?_⟩;rw [z4Y,zbD (b:=ended c) (by rw [wz e1,hE]),R.bind_ok]
 induction Rn with
 | @done v hend=>
  intro pre pt a4 a5 h hl hl2;refine ⟨a4,a5,?_⟩;rw [ug,(tst pre pt v a4 a5 h).2,hend];simp [zm] | @step v ls hend Rn ih=>
  intro pre pt a4 a5 h hl hl2;obtain ⟨b4,b5,ih⟩:=ih (pre++[v]) (pt++[uL r v]) (some (rD (stp r v))) (some (tD (uL r v))) (h.step r hend) (by simp at hl ⊢;omega) (by simp at hl2 ⊢;omega);refine ⟨b4,b5,?_⟩;rw [List.length_cons,ug,(tst pre pt v a4 a5 h).2,hend,R.bind_ok,if_pos (by rfl)];have ls':=zgF r h hend hm (s++[(pre++[v]).map rD,pt.map tD]);rw [<- hd] at ls';have f4:uK (RV d e s.length a4 a5) (s++[(pre++[v]).map rD,pt.map tD])=.ok (.nx (RV d e s.length (some (rD (stp r v))) (some (tD (uL r v))))) (s++[(pre++[v]).map rD,pt.map tD]):=by
   have e1:=(tst pre pt v a4 a5 h).1;generalize (s++[(pre++[v]).map rD,pt.map tD])=S at *;rw [uK,zda,call2 (x:=d) (y:=rD v) (vr rfl) e1,ls',R.bind_ok];rfl
  have f5:uQ (RV d e s.length (some (rD (stp r v))) (some (tD (uL r v)))) (s++[(pre++[v]).map rD,pt.map tD])=.ok (.nx (RV d e s.length (some (rD (stp r v))) (some (tD (uL r v))))) (s++[(pre++[v]++[stp r v]).map rD,pt.map tD]):=by
   have fl:(rD (stp r v)).flat=true:=yy _;have ln:((pre++[v]).map rD).length<cap:=by simp [cap] at hl ⊢;omega
   rw [uQ,qK,z3p];simp only [zO,List.getElem?_cons_zero,List.getElem?_cons_succ,R.bind_ok,qk.1,if_pos (show (rD (stp r v)).flat=true/\((pre++[v]).map rD).length<cap from ⟨fl,ln⟩),z5L.1];simp
  have f6:uD (RV d e s.length (some (rD (stp r v))) (some (tD (uL r v)))) (s++[(pre++[v]++[stp r v]).map rD,pt.map tD])=.ok (.nx (RV d e s.length (some (rD (stp r v))) (some (tD (uL r v))))) (s++[(pre++[v]++[stp r v]).map rD,(pt++[uL r v]).map tD]):=by
   have fl:(tD (uL r v)).flat=true:=zab _;have ln:(pt.map tD).length<cap:=by simp [cap] at hl2 ⊢;omega
   rw [uD,qK,z3p];simp only [zO,List.getElem?_cons_zero,List.getElem?_cons_succ,R.bind_ok,qk.2,if_pos (show (tD (uL r v)).flat=true/\(pt.map tD).length<cap from ⟨fl,ln⟩),z5L.2];simp
  rw [zi f4,zi f5,f6,R.bind_ok];simp only;rw [ih,Rn.tabs_cons];simp
theorem ziI(r:Rl)(h:LotB n m v)(Rn:Run r v ls)(hm:m<=1999)(hl:ls.length<=50000)(s:Sto):vW [.str (nmR r),rD v] s=.ok (.tup [.loc s.length,.loc (s.length+1)]) (s++[ls.map rD,(zm r ls).map tD]):=by
 have fl:(rD v).flat=true:=yy _;have key:∀ d e:D,d=.str (nmR r)->e=rD v->vW [d,e] s=.ok (.tup [.loc s.length,.loc (s.length+1)]) (s++[ls.map rD,(zm r ls).map tD]):=fun d e hd he=>by
  have st:zr ["_law_rule","_law_lot_here","_law_lots","_law_tables","_law_later","_law_table"] [d,e]=[some d,some e,none,none,none,none]:=rfl;have fe:e.flat=true:=by rw [he];exact fl
  have f1:ku [some d,some e,none,none,none,none] s=.ok (.nx [some d,some e,some (.loc s.length),none,none,none]) (s++[[e]]):=by
   simp only [ku,zV,z1J,zB,zH,zO,List.getElem?_cons_succ,List.getElem?_cons_zero,R.bind_ok];rw [if_pos ⟨by simp [cap],by simp [D.flat.flats,fe]⟩];rfl
  have f2:km [some d,some e,some (.loc s.length),none,none,none] (s++[[e]])=.ok (.nx (RV d e s.length none none)) (s++[[e],[]]):=by
   simp only [km,zV,z1J,zH,R.bind_ok];rw [if_pos ⟨by simp [cap],by simp [D.flat.flats]⟩];simp [RV]
  obtain ⟨b4,b5,lp⟩:=zcY (e:=e) hd hm s Rn [] [] none none h (by simpa using hl) (by simpa using hl);rw [List.nil_append,List.nil_append,List.nil_append,show ([v]:List (List Int)).map rD=[e] from by rw [he];rfl,List.map_nil] at lp;have f3:jP (RV d e s.length none none) (s++[[e],[]])=.ok (.nx (RV d e s.length b4 b5)) (s++[ls.map rD,(zm r ls).map tD]):=by rw [jP];exact zaa lp (by simp)
  simp only [vW,Mof,z3d,st,List.length_cons,List.length_nil,if_true];rw [zi f1,zi f2,zi f3,z26,yo,z0G];simp [RV,cap]
 exact key _ _ rfl rfl
end
theorem ziL:LeM zeu X_run:=LeM.mof (LeS.seq (LeS.drop (LeE.call zb2)) (LeS.seq LeS.calm (LeS.seq LeS.calm LeS.calm)))
theorem zaH:LeM xK yO:=LeM.mof (LeS.seq LeS.calm (LeS.seq LeS.calm LeS.calm))
theorem zbL:∀ ts:List Tb,D.flat.flats (ts.map tD)=true
 | []=>rfl | T::ts=>by simp only [List.map_cons,D.flat.flats,zbL ts,Bool.and_true];exact zab T
section
variable {n m:Nat}{r:Rl}{v:List Int}{ls:List (List Int)}{d e:D}{c:Str}{s:Sto}
theorem x_run(r:Rl)(h:LotB n m v)(Rn:Run r v ls)(hm:m<=1999)(hl:ls.length<=50000)(s:Sto):X_run [.str (nmR r),rD v] s=.ok (.loc s.length) (s++[ls.map rD]):=ziL.ok (zlo r h Rn hm hl s)
theorem z9D (h:zy [d,e] s=.ex c s):X_run [d,e] s=.ex c s:=by
 have st:zr ["rule","lot","lots"] [d,e]=[some d,some e,none]:=rfl;simp only [X_run,z2Q,zcq,st,List.length_cons,List.length_nil,if_true];rw [zcC (c:=c) (s':=s) (by rw [z9g];exact z8p (z2L (x:=d) (y:=e) (vr rfl) (vr rfl) h))]
theorem z5Q (r:Rl) (h:LotB n m v) (Rn:Run r v ls) (hm:m<=1999) (hl:ls.length<=50000) (s:Sto):ya [.str (nmR r),rD v] s=.ok (.loc s.length) (s++[(zm r ls).map tD]):=by
 have xr:=x_run r h Rn hm hl s;have key:∀ d e:D,d=.str (nmR r)->X_run [d,e] s=.ok (.loc s.length) (s++[ls.map rD])->ya [d,e] s=.ok (.loc s.length) (s++[(zm r ls).map tD]):=fun d e hd he=>by
  have st:zr ["rule","lot"] [d,e]=[some d,some e]:=rfl;have f1:z1m (ze X_run (za (zc 0) (za (zc 1) zh))) [some d,some e] s=.ok (.lst (ls.map rD)) s:=by rw [z1e,call2 (x:=d) (y:=e) (vr rfl) (vr rfl),he,z5I]
  obtain ⟨z,hz⟩:∃ z,ls=ls.dropLast++[z]:=⟨ls.getLast Rn.ne,(List.dropLast_concat_getLast Rn.ne).symm⟩;have sl:eSl (z1m (ze X_run (za (zc 0) (za (zc 1) zh)))) yd (wF (z5X (eC (.int 1)))) [some d,some e] s=.ok (.lst (ls.dropLast.map rD)) s:=by
   rw [z5u,f1];simp only [R.bind_ok,vB,jS,zcy,z0v,dSl,Dd.listOf];have c:=zdo (ls.dropLast.map rD) (rD z);rw [show ls.dropLast.map rD++[rD z]=ls.map rD from by rw [show [rD z]=[z].map rD from rfl,<- List.map_append,<- hz]] at c;rw [c]
  have ends:=z7o h Rn;have ht:ls.dropLast.map (fun a=>tD (uL r a))=(zm r ls).map tD:=by simp [zm,Function.comp_def]
  have c:=z7d (s:=s) (mp:=[some 0,none]) (fg:=yE 1) (fe:=ze xP (za (zc 0) (za (zc 1) zh))) rD (fun a=>tD (uL r a)) (fun a=>[some d,some (rD a)]) ls.dropLast (kI sl) (fun a _=>by simp) (fun a ha=>by
   have:=z80 r (ends a ha).1 (ends a ha).2 hm s;rw [call2 (x:=d) (y:=rD a) (by simp) (by simp),hd];exact this) (by simp [cap];omega) (by rw [ht];exact zbL _);simp only [ya,z2Q,jq,st,List.length_cons,List.length_nil,if_true,uV,yo];rw [c,ht];rfl
 exact key _ _ rfl xr
theorem z3a (h:zy [d,e] s=.ex c s):ya [d,e] s=.ex c s:=by
 have st:zr ["rule","lot"] [d,e]=[some d,some e]:=rfl;have f1:z1m (ze X_run (za (zc 0) (za (zc 1) zh))) [some d,some e] s=.ex c s:=by rw [z1e,z2L (x:=d) (y:=e) (vr rfl) (vr rfl) (z9D h)];rfl
 simp only [ya,z2Q,jq,st,List.length_cons,List.length_nil,if_true,uV,yo,z9L,jd,z1r,z5u,f1,R.bind_ex]
theorem zb5 (r:Rl) (h:LotB n m v) (Rn:Run r v ls) (hm:m<=1999) (hl:ls.length<=50000) (s:Sto):yi [.str (nmR r),rD v] s=.ok (.loc s.length) (s++[(z0e (one n) (zm r ls)).map tD]):=by
 have tb:=z5Q r h Rn hm hl s;have gl:yJ [rD v] s=.ok (.int n) s:=by simp [yJ,zJ,h.len]
 have gr:=zaH.ok (zc3 r h Rn hm hl s);have key:∀ d e t:D,yO [.int n,t] s=.ok (.loc s.length) (s++[(z0e (one n) (zm r ls)).map tD])->z1m (ze ya (za (zc 0) (za (zc 1) zh))) [some d,some e,none] s=.ok t s->yJ [e] s=.ok (.int n) s->yi [d,e] s=.ok (.loc s.length) (s++[(z0e (one n) (zm r ls)).map tD]):=fun d e t ht h1 h2=>by
  have st:zr ["rule","lot","tables"] [d,e]=[some d,some e,none]:=rfl;simp only [yi,z2Q,uk,st,List.length_cons,List.length_nil,if_true];rw [zi (Z':=[some d,some e,some t]) (s':=s) (by rw [vF,zV,h1];rfl)];have c1:ze yJ (za (zc 1) zh) [some d,some e,some t] s=.ok (.int n) s:=by rw [wz (x:=e) (by simp)];exact h2
  rw [jy,yo,call2 c1 (y:=t) (by simp),ht];rfl
 exact key _ _ _ gr (by rw [z1e,call2 (x:=.str (nmR r)) (y:=rD v) (vr rfl) (vr rfl),tb,z5I]) gl
theorem z62 (h:zy [d,e] s=.ex c s):yi [d,e] s=.ex c s:=by
 have st:zr ["rule","lot","tables"] [d,e]=[some d,some e,none]:=rfl;have f1:z1m (ze ya (za (zc 0) (za (zc 1) zh))) [some d,some e,none] s=.ex c s:=by rw [z1e,z2L (x:=d) (y:=e) (vr rfl) (vr rfl) (z3a h)];rfl
 simp only [yi,z2Q,uk,st,List.length_cons,List.length_nil,if_true];rw [zcC (c:=c) (s':=s) (by rw [vF,zV,f1];rfl)]
theorem zch (r:Rl) (h:LotB n m v) (Rn:Run r v ls) (hm:m<=1999) (hl:ls.length<=50000) (s:Sto):yf [.str (nmR r),rD v] s=.ok (tD (wd n (zm r ls))) s:=by
 have pr:=zb5 r h Rn hm hl s;have la:=z4Z (zm r ls) (one n);obtain ⟨pre,hp⟩:=List.getLast?_eq_some_iff.mp la;have key:∀ d e:D,yi [d,e] s=.ok (.loc s.length) (s++[(z0e (one n) (zm r ls)).map tD])->yf [d,e] s=.ok (tD (wd n (zm r ls))) s:=fun d e h1=>by
  have st:zr ["rule","lot"] [d,e]=[some d,some e]:=rfl;have f1:z1m (ze yi (za (zc 0) (za (zc 1) zh))) [some d,some e] s=.ok (.lst ((z0e (one n) (zm r ls)).map tD)) s:=by rw [z1e,call2 (x:=d) (y:=e) (by simp) (by simp),h1,z5I]
  have ix:=z3F (x:=.lst ((z0e (one n) (zm r ls)).map tD)) (d:=tD (wd n (zm r ls))) (xs:=pre.map tD) (s:=s) (by rw [hp];simp [zJ,wd]);simp only [yf,z2Q,uz,st,List.length_cons,List.length_nil,if_true,vE,yo];rw [op2 f1 (y:=.int (-1)) (by simp),ix];rfl
 exact key _ _ pr
theorem zaP (h:zy [d,e] s=.ex c s):yf [d,e] s=.ex c s:=by
 have st:zr ["rule","lot"] [d,e]=[some d,some e]:=rfl;have f1:z1m (ze yi (za (zc 0) (za (zc 1) zh))) [some d,some e] s=.ex c s:=by rw [z1e,z2L (x:=d) (y:=e) (vr rfl) (vr rfl) (z62 h)];rfl
 simp only [yf,z2Q,uz,st,List.length_cons,List.length_nil,if_true,vE,yo,yn,f1,R.bind_ex]
end
theorem ze6:vx=wa:=rfl
theorem zdG {n:Nat} (hn:n<=4) (s:Sto):wK [.int ((n:Nat):Int)] s=.ok (tD (one n)) s:=by
 have key:∀ d:D,d=.int ((n:Nat):Int)->wK [d] s=.ok (tD (one n)) s:=fun d hd=>by
  have st:zr ["_law_size"] [d]=[some d]:=rfl;have inner:∀ i:Nat,zA (qh (za (zc 0) zh)) [some 1,none] (yE 1) zX (ze za5 (za (eOp dEq (zc 0) (zc 1)) zh)) [some d,some (.int ((i:Nat):Int))] s=.ok (.lst ((List.range n).map fun j=>D.int (if i=j then 1 else 0))) s:=fun i=> comp_map (fun j:Nat=>D.int (j:Int)) (fun j=>D.int (if i=j then 1 else 0)) (fun j=>[some (.int ((i:Nat):Int)),some (.int (j:Int))]) (List.range n) (uZ (by omega) (by simp [hd])) (fun a _=>by simp) (fun j _=>by
    rw [wz (x:=.bl (decide (i=j))) (by
     rw [yn,vr (d:=.int ((i:Nat):Int)) rfl,R.bind_ok,vr (d:=.int ((j:Nat):Int)) rfl,R.bind_ok,z81];congr 2;exact decide_eq_decide.mpr (by omega))];by_cases q:i=j<;>simp [q,za5]) (by simp [cap];omega);have outer:=comp_map (s:=s) (fi:=qh (za (zc 0) zh)) (mp:=[some 0,none]) (fg:=yE 1) (fe:=ze yc (za (zA (qh (za (zc 0) zh)) [some 1,none] (yE 1) zX (ze za5 (za (eOp dEq (zc 0) (zc 1)) zh))) zh)) (Z:=[some d]) (fun i:Nat=>D.int (i:Int)) (fun i=>rD ((List.range n).map fun j=>if i=j then 1 else 0)) (fun i=>[some d,some (.int (i:Int))]) (List.range n) (uZ (by omega) (by simp [hd])) (fun a _=>by simp) (fun i _=>by rw [wz (inner i),z0W];simp [List.map_map,Function.comp_def]) (by simp [cap];omega);have e2:(List.range n).map (fun i=>rD ((List.range n).map fun j=>if i=j then (1:Int) else 0))=(one n).map rD:=by rw [one,List.map_map];rfl
  rw [e2] at outer;simp only [wK,Mof,z0V,st,List.length_cons,List.length_nil,if_true,kU,yo];rw [wz outer,z0W];rfl
 exact key _ rfl
theorem og0(all:List D)(s:Sto):okG [] all s:=by intro p hp;simp at hp
theorem zgs{all:List D}{body:D->Sto->R (Option D)}{x0 x1 x2 y0 y1 y2:D}{s0 s1 s2 s3:Sto}(h0:body x0 s0=.ok (some y0) s1)(h1:body x1 s1=.ok (some y1) s2)(h2:body x2 s2=.ok (some y2) s3):wR [] all body [x0,x1,x2] [] s0=.ok [y0,y1,y2] s3:=by
 have c0:([]:List D).length<cap:=by decide
 have c1:([]++[y0]:List D).length<cap:=by show 1<cap;decide
 have c2:([]++[y0]++[y1]:List D).length<cap:=by show 2<cap;decide
 rw [wR,if_pos (og0 _ _),h0,R.bind_ok];simp only [if_pos c0];rw [wR,if_pos (og0 _ _),h1,R.bind_ok];simp only [if_pos c1];rw [wR,if_pos (og0 _ _),h2,R.bind_ok];simp only [if_pos c2];rw [wR,if_pos (og0 _ _)];rfl
theorem zn8(Z:Ev)(s:Sto):qh (za (eC (.int 3)) zh) Z s=.ok ([.int 0,.int 1,.int 2],[]) s:=by simp;rfl
theorem zg8{mp:List (Option Nat)}{fe:FE}{j:Nat}{Z:Ev}{y0 y1 y2:D}{s0 s1 s2 s3:Sto}(h0:fe ((xh mp Z).set j (some (.int 0))) s0=.ok y0 s1)(h1:fe ((xh mp Z).set j (some (.int 1))) s1=.ok y1 s2)(h2:fe ((xh mp Z).set j (some (.int 2))) s2=.ok y2 s3): zA (qh (za (eC (.int 3)) zh)) mp (yE j) zX fe Z s0=.ok (.lst [y0,y1,y2]) s3:=by
 rw [jn,jd,zn8,R.bind_ok];have b:∀ (x:D)(s s':Sto)(y:D),fe ((xh mp Z).set j (some x)) s=.ok y s'->((yE j x (xh mp Z) s).bind fun Z' s'=>(zX Z' s').bind fun b s2=>if b=true then (fe Z' s2).bind fun d s3=>.ok (some d) s3 else .ok none s2)=.ok (some y) s':=fun x s s' y e=>by
  rw [z0b,R.bind_ok];show (R.ok true s).bind _=_;rw [R.bind_ok,if_pos rfl,e,R.bind_ok]
 rw [zgs (b _ _ _ _ h0) (b _ _ _ _ h1) (b _ _ _ _ h2)];rfl
theorem zfd(x:Str)(Z:Ev)(s:Sto):eOp zfm (qG (za (eC (.str x)) zh)) (eC (.int 3)) Z s=.ok (.lst [.str x,.str x,.str x]) s:=by
 have c1:(1:Nat)<=cap:=by decide
 simp only [yn,jJ,zB,zH,z0v,R.bind_ok,List.length_cons,List.length_nil,Nat.zero_add,if_pos c1];rfl
theorem z9F{x:Str}(hx:PyData.strOk x=true)(s:Sto):dNe (.lst [.str x,.str x,.str x]) (.lst [.str x,.str x,.str x]) s=.ok (.bl false) s:= ne_self (k:=2) (by simp [okD,hx]) (by decide) s
theorem za4{n m:Nat}{r:Rl}{v:List Int}{ls:List (List Int)}(h:LotB n m v)(Rn:Run r v ls):∀ T∈zm r ls,Tab n T:=fun T hT=>by
 obtain ⟨a,ha,rfl⟩:=List.mem_map.mp hT;have:=z7o h Rn a ha;exact z0J r this.1.toLot this.2
theorem zee{n m:Nat}{r:Rl}{v:List Int}{ls:List (List Int)}(h:LotB n m v)(Rn:Run r v ls):∀ a∈ls,a.length=n:=by induction Rn with
 | done e=>intro a ha;simp at ha;subst ha;exact h.len | step e R2 ih=>
  intro a ha;rcases List.mem_cons.mp ha with rfl | ha;·exact h.len
  ·exact ih (h.step r e) a ha
theorem z9J{n:Nat}:∀ (ts:List Tb)(P:Tb),Tab n P->(∀ T∈ts,Tab n T)->Tab n (ts.foldl z0w P)
 | [],P,h,_=>h | T::ts,P,h,hT=>z9J ts (z0w P T) (za1 h (hT T (by simp))) fun U hU=>hT U (by simp [hU])
theorem zbI{n m:Nat}{r:Rl}{v:List Int}{ls:List (List Int)}(h:LotB n m v)(Rn:Run r v ls):Tab n (wd n (zm r ls)):=z9J _ _ (z8H n) (za4 h Rn)
theorem ziC{n:Nat}{v:List Int}(r:Rl)(h:LotB n 104 v):∃ ls,Run r v ls/\ls.length<=50000:=by
 obtain ⟨ls,Rn,ll⟩:=zfk (r:=r) (20*104+3) v h.toLot (zjZ (r:=r) h.toLot h.toN);exact ⟨ls,Rn,by omega⟩
theorem zdK{n:Nat}{a:List Int}(k:Nat)(hn:Sz n)(h:a.length=n):qc (k+1) (rD a):=z9A k (by unfold Sz at hn;omega)
theorem z7x{n:Nat}{T:Tb}(k:Nat)(hn:Sz n)(h:Tab n T):qc (k+2) (tD T):=zdm k (by have:=h.len;unfold Sz at hn;omega) fun r hr=>by have:=h.row r hr;unfold Sz at hn;omega
theorem zcT {n m:Nat} {r:Rl} {v:List Int} {ls:List (List Int)} {S:Sto} {a b c d:Nat} (h:LotB n m v) (Rn:Run r v ls) (hl:ls.length<=50000) (pt:Tab n (wd n (zm r ls))) (ha:S[a]? = some (ls.map rD)) (hb:S[b]? = some ((zm r ls).map tD)) (hc:S[c]? = some (ls.map rD)) (hd:S[d]? = some ((zm r ls).map tD)): jo [.lst [.loc a,.loc b,tD (wd n (zm r ls))],.lst [.loc c,.loc d,tD (wd n (zm r ls))]] S=.ok (.bl true) S:=by
 have ht:(zm r ls).length<=50000:=by simp [zm];omega
 have s1:zt 4 [.loc a,.loc c] S=.ok (.bl true) S:=z6J (k:=2) ha hc (by simp [cap];omega) fun x hx=>by
  obtain ⟨z,hz,rfl⟩:=List.mem_map.mp hx;exact zdK 1 h.sz (zee h Rn z hz)
 have s2:zt 4 [.loc b,.loc d] S=.ok (.bl true) S:=z6J (k:=2) hb hd (by simp [cap];omega) fun x hx=>by
  obtain ⟨z,hz,rfl⟩:=List.mem_map.mp hx;exact z7x 0 h.sz (za4 h Rn z hz)
 have s3:zt 4 [tD (wd n (zm r ls)),tD (wd n (zm r ls))] S=.ok (.bl true) S:=z0M 3 _ S (z7x 1 h.sz pt);generalize tD (wd n (zm r ls))=P at *;exact z50 (k:=4) (ps:=[(.loc a,.loc c),(.loc b,.loc d),(P,P)]) (G1:=[]) (G2:=[]) rfl rfl rfl rfl (by simp) rfl rfl (show 3<=cap by decide) fun p hp=>by
  simp only [List.mem_cons,List.not_mem_nil,or_false] at hp;rcases hp with rfl | rfl | rfl;·exact s1
  ·exact s2
  ·exact s3
end Po
namespace K12
open PySem.Spec L2 Dd Pm Pg Pn Po
theorem ze5(s:Sto):yU [.exc "NoLot"] s=.ok (.str "lot") s:=by kernel_rfl
theorem zbr(s:Sto):yU [.exc "NoRule"] s=.ok (.str "rule") s:=by kernel_rfl
theorem z3C{w:Int}{d e:D}{s s':Sto}{r:D}(h:yP [some (.int w),some d,some e,none] s=.ok (.rt r) s'):zx [.int w,d,e] s=.ok r s':=by
 have st:zr ["_law_way","_law_rule","_law_lot_here","_law_e"] [.int w,d,e]=[some (.int w),some d,some e,none]:=rfl;simp only [zx,Mof,kf,st,List.length_cons,List.length_nil,if_true,je,zhK];rw [h]
theorem z97{w:Int}{d e:D}{s:Sto}{c x:Str}(hc:c∈rsX)(hk:yU [.exc c] s=.ok (.str x) s)(h:yP [some (.int w),some d,some e,none] s=.ex c s):zx [.int w,d,e] s=.ok (.str x) s:=by
 have st:zr ["_law_way","_law_rule","_law_lot_here","_law_e"] [.int w,d,e]=[some (.int w),some d,some e,none]:=rfl;have e':qZ ((List.replicate 4 none).set 3 (some (.exc c))) s=.ok (.rt (.str x)) s:=by rw [qZ,yo,wz (x:=.exc c) (by rfl),hk];rfl
 simp only [zx,Mof,kf,st,List.length_cons,List.length_nil,if_true,je,zhK];rw [h];simp only [if_pos hc,Nat.zero_add,Nat.reduceAdd];rw [e']
theorem zg3{w:Int}{d e:D}{s:Sto}{x:Str}{X:Mir}(h0:dIx (.lst [.fn "run",.fn "tables_of",.fn "whole_table"]) (.int w) s=.ok (.fn x) s)(hx:List.lookup x [("run",X_run),("tables_of",ya),("whole_table",yf)]=some X):yP [some (.int w),some d,some e,none] s=(X [d,e] s).bind fun r s1=>.ok (.rt r) s1:=by
 have c2:(3:Nat)<=cap:=by decide
 rw [yP,yo];simp only [z9N,yn,jJ,zB,zH,z0v,zO,List.getElem?_cons_zero,List.getElem?_cons_succ,R.bind_ok,List.length_cons,List.length_nil,Nat.zero_add,Nat.reduceAdd,if_pos c2,h0,hx]
theorem zfb{d e:D}{s:Sto}:yP [some (.int 0),some d,some e,none] s=(X_run [d,e] s).bind fun r s1=>.ok (.rt r) s1:=zg3 rfl rfl
theorem zcp{d e:D}{s:Sto}:yP [some (.int 1),some d,some e,none] s=(ya [d,e] s).bind fun r s1=>.ok (.rt r) s1:=zg3 rfl rfl
theorem zd8{d e:D}{s:Sto}:yP [some (.int 2),some d,some e,none] s=(yf [d,e] s).bind fun r s1=>.ok (.rt r) s1:=zg3 rfl rfl
def zjF(d e a:D)(s:Sto):Prop:=zx [.int 0,d,e] s=.ok a s/\zx [.int 1,d,e] s=.ok a s/\zx [.int 2,d,e] s=.ok a s
theorem z9I{d e:D}{c x:Str}{s:Sto}(hc:c∈rsX)(hk:yU [.exc c] s=.ok (.str x) s)(h:zy [d,e] s=.ex c s):zjF d e (.str x) s:= ⟨z97 hc hk (by rw [zfb,z9D h];rfl),z97 hc hk (by rw [zcp,z3a h];rfl),z97 hc hk (by rw [zd8,zaP h];rfl)⟩
theorem zdZ{d:D}(r:Rl){s:Sto}(h:yj [d] s=.ok (.bl false) s):zjF (.str (nmR r)) d (.str "lot") s:= z9I (by decide +kernel) (ze5 s) (zeo h)
theorem zc1{d e:D}{s:Sto}(h:xo [d] s=.ok (.bl false) s):zjF d e (.str "rule") s:= z9I (by decide +kernel) (zbr s) (zc9 h)
theorem zdJ {n m:Nat} {v:List Int} {ls:List (List Int)} {r:Rl} {Z:Ev} {s:Sto} (h:LotB n m v) (Rn:Run r v ls) (hm:m<=1999) (hl:ls.length<=50000) (hd:Z[4]? = some (some (.str (nmR r)))) (he:Z[3]? = some (some (rD v))): zA (qh (za (eC (.int 3)) zh)) [some 4,some 3,none] (yE 2) zX (ze zx (za (zc 2) (za (zc 0) (za (zc 1) zh)))) Z s=.ok (.lst [.loc s.length,.loc (s.length+1),tD (wd n (zm r ls))]) (s++[ls.map rD,(zm r ls).map tD]):=by
 have t0:zx [.int 0,.str (nmR r),rD v] s=.ok (.loc s.length) (s++[ls.map rD]):=z3C (by rw [zfb,x_run r h Rn hm hl s];rfl);have t1:zx [.int 1,.str (nmR r),rD v] (s++[ls.map rD])=.ok (.loc (s.length+1)) (s++[ls.map rD,(zm r ls).map tD]):=z3C (by rw [zcp,z5Q r h Rn hm hl _,R.bind_ok];simp);have t2:zx [.int 2,.str (nmR r),rD v] (s++[ls.map rD,(zm r ls).map tD])=.ok (tD (wd n (zm r ls))) (s++[ls.map rD,(zm r ls).map tD]):=z3C (by rw [zd8,zch r h Rn hm hl _];rfl);generalize tD (wd n (zm r ls))=P at *;have i:xh [some 4,some 3,none] Z=[some (.str (nmR r)),some (rD v),none]:=by simp [hd,he]
 have key:∀ (d e:D) (w:Int) (s0 s1:Sto) (y:D),zx [.int w,d,e] s0=.ok y s1->ze zx (za (zc 2) (za (zc 0) (za (zc 1) zh))) (([some d,some e,none]:Ev).set 2 (some (.int w))) s0=.ok y s1:=fun d e w s0 s1 y q=>by rw [zi5 (x:=.int w) (y:=d) (z:=e) rfl rfl rfl,q]
 exact zg8 (by rw [i];exact key _ _ _ _ _ _ t0) (by rw [i];exact key _ _ _ _ _ _ t1) (by rw [i];exact key _ _ _ _ _ _ t2)
theorem zhs {Z:Ev} {i j:Nat} {d e:D} {x:Str} {s:Sto} (hx:PyData.strOk x=true) (hd:Z[i]? = some (some d)) (he:Z[j]? = some (some e)) (h:zjF d e (.str x) s): tOf (eOp dNe (zA (qh (za (eC (.int 3)) zh)) [some i,some j,none] (yE 2) zX (ze zx (za (zc 2) (za (zc 0) (za (zc 1) zh))))) (eOp zfm (qG (za (eC (.str x)) zh)) (eC (.int 3)))) Z s=.ok false s:=by
 have i':xh [some i,some j,none] Z=[some d,some e,none]:=by simp [hd,he]
 have key:∀ (w:Int),zx [.int w,d,e] s=.ok (.str x) s->ze zx (za (zc 2) (za (zc 0) (za (zc 1) zh))) (([some d,some e,none]:Ev).set 2 (some (.int w))) s=.ok (.str x) s:=fun w q=>by rw [zi5 (x:=.int w) (y:=d) (z:=e) rfl rfl rfl,q]
 have c:=zg8 (Z:=Z) (mp:=[some i,some j,none]) (j:=2) (fe:=ze zx (za (zc 2) (za (zc 0) (za (zc 1) zh)))) (by rw [i'];exact key _ h.1) (by rw [i'];exact key _ h.2.1) (by rw [i'];exact key _ h.2.2);exact zbD (by rw [op2 c (zfd x Z s),z9F hx])
abbrev Sh(sc:D)(a1 a2 a3 a4 a5 a6 a7 a8 a9 a10 a11 a12:Option D):Ev:=[some sc,a1,a2,a3,a4,a5,a6,a7,a8,a9,a10,a11,a12]
theorem zaZ {n m:Nat} {r:Rl} {x:List Int} {B:Int} {G:List (Nat×List D)} {all:List D} {sc:D} {a1 a2 a3 a4 a5 a6 a9 a10 a11 a12:Option D} {S:Sto} (og:okG G all S) (hn:Sz n) (hB:B<2 ^ m) (hm:m<=1999) (hx:∀ y∈x,y<=B) {c:List Int} {ls:List (List Int)} (Rn:Run r c ls):∀ (P:Tb) (z:Option D),LotB n m c->PI n B P c x-> ∃ z',yZ G all (fun d Z s=>(yE 8 d Z s).bind fun Z' s'=>z67 Z' s') ((zm r ls).map tD) (Sh sc a1 a2 a3 a4 a5 a6 (some (tD P)) z a9 a10 a11 a12) S=.ok (.nx (Sh sc a1 a2 a3 a4 a5 a6 (some (tD ((zm r ls).foldl z0w P))) z' a9 a10 a11 a12)) S:=by induction Rn with
 | done he=>intro P z h I;exact ⟨z,by simp [zm,yZ,og]⟩ | @step v ls he R2 ih=>
  intro P z h I;have tb:=z0J r h.toLot he;have mm:=zfN S hn I.tab tb (zhQ I hB) (zbZ r h he) (by omega) (by omega);rw [<- ze6] at mm;obtain ⟨z',ih⟩:=ih (z0w P (uL r v)) (some (tD (uL r v))) (h.step r he) (I.step r hx h.toLot he);refine ⟨z',?_⟩;have body:z67 (Sh sc a1 a2 a3 a4 a5 a6 (some (tD P)) (some (tD (uL r v))) a9 a10 a11 a12) S=.ok (.nx (Sh sc a1 a2 a3 a4 a5 a6 (some (tD (z0w P (uL r v)))) (some (tD (uL r v))) a9 a10 a11 a12)) S:=by rw [z67,zV,call2 (x:=tD P) (y:=tD (uL r v)) (vr rfl) (vr rfl),mm];rfl
  rw [R2.tabs_cons,List.map_cons,yZ,if_pos og,z0b,R.bind_ok];simp only [List.set_cons_succ,List.set_cons_zero];rw [body,R.bind_ok];simp only;rw [ih];rfl
abbrev zh1:D->Ev->Sto->R Fl:=fun d Z s=>(yE 9 d Z s).bind fun Z' s'=>(zE z0Q (zE z0U (zE z10 z0I))) Z' s'
section
variable {sc:D}{a1 a2 a8 a9 a10 a11 a12:Option D}{n:Nat}{v:List Int}{r:Rl}{ls:List (List Int)}{L:Nat}
theorem zfn{Z:Ev}{S:Sto}{l:Nat}{xs:List D}{f:FE}(hf:f Z S=.ok (.loc l) S)(hx:S[l]? = some xs)(hl:xs.length<=50001):wQ (z87 f (uA zh)) Z S=.ok (.nx Z) (S.set l (xs++[.tup []])):=by
 have c0:([]:List D).length<=cap:=by decide
 have fl:(D.tup []).flat=true:=rfl;have ln:xs.length<cap:=by simp [cap];omega
 rw [qK,z3p,hf,R.bind_ok];simp only [z0G,zH,R.bind_ok,if_pos c0,hx,if_pos (show (D.tup []).flat=true/\xs.length<cap from ⟨fl,ln⟩)]
theorem zfY {d:D} (h:LotB n 104 v) (Rn:Run r v ls) (hl:ls.length<=50000) (pt:Tab n (wd n (zm r ls))) (S:Sto) (h1:S[L]? = some (ls.map rD)) (h2:S[L+1]? = some ((zm r ls).map tD)): ∃ b10 t,zh1 d (Sh sc a1 a2 (some (rD v)) (some (.str (nmR r))) (some (.loc L)) (some (.loc (L+1))) (some (tD (wd n (zm r ls)))) a8 a9 a10 a11 a12) S = .ok (.nx (Sh sc a1 a2 (some (rD v)) (some (.str (nmR r))) (some (.loc L)) (some (.loc (L+1))) (some (tD (wd n (zm r ls)))) a8 (some d) b10 a11 a12)) (S++t):=by
 rw [show zh1 d (Sh sc a1 a2 (some (rD v)) (some (.str (nmR r))) (some (.loc L)) (some (.loc (L+1))) (some (tD (wd n (zm r ls)))) a8 a9 a10 a11 a12) S=(zE z0Q (zE z0U (zE z10 z0I))) (Sh sc a1 a2 (some (rD v)) (some (.str (nmR r))) (some (.loc L)) (some (.loc (L+1))) (some (tD (wd n (zm r ls)))) a8 (some d) a10 a11 a12) S from rfl];have ht:(zm r ls).length<=50000:=by simp [zm];omega
 have lL:L+1<S.length:=(List.getElem?_eq_some_iff.mp h2).1;have all:=zdJ (Z:=Sh sc a1 a2 (some (rD v)) (some (.str (nmR r))) (some (.loc L)) (some (.loc (L+1))) (some (tD (wd n (zm r ls)))) a8 (some d) a10 a11 a12) (s:=S) h Rn (by decide) hl rfl rfl;have f10:z0Q (Sh sc a1 a2 (some (rD v)) (some (.str (nmR r))) (some (.loc L)) (some (.loc (L+1))) (some (tD (wd n (zm r ls)))) a8 (some d) a10 a11 a12) S=.ok (.nx (Sh sc a1 a2 (some (rD v)) (some (.str (nmR r))) (some (.loc L)) (some (.loc (L+1))) (some (tD (wd n (zm r ls)))) a8 (some d) (some (.lst [.loc S.length,.loc (S.length+1),tD (wd n (zm r ls))])) a11 a12)) (S++[ls.map rD,(zm r ls).map tD]):=by rw [z0Q,zV,all];rfl
 have sm:=zcT (S:=S++[ls.map rD,(zm r ls).map tD]) (a:=S.length) (b:=S.length+1) (c:=L) (d:=L+1) h Rn hl pt qk.1 qk.2 (by rw [List.getElem?_append_left (by omega)];exact h1) (by rw [List.getElem?_append_left (by omega)];exact h2);generalize hA:ls.map rD=A at *;generalize hB:(zm r ls).map tD=B at *;have lA:A.length<=50000:=by rw [<- hA];simpa using hl
 have lB:B.length<=50000:=by rw [<- hB];simpa using ht
 generalize tD (wd n (zm r ls))=P at *;have f11:z0U (Sh sc a1 a2 (some (rD v)) (some (.str (nmR r))) (some (.loc L)) (some (.loc (L+1))) (some P) a8 (some d) (some (.lst [.loc S.length,.loc (S.length+1),P])) a11 a12) (S++[A,B])=.ok (.nx (Sh sc a1 a2 (some (rD v)) (some (.str (nmR r))) (some (.loc L)) (some (.loc (L+1))) (some P) a8 (some d) (some (.lst [.loc S.length,.loc (S.length+1),P])) a11 a12)) (S++[A,B]):=by
  have c3:(3:Nat)<=cap:=by decide
  have e3:qG (za (zc 5) (za (zc 6) (za (zc 7) zh))) (Sh sc a1 a2 (some (rD v)) (some (.str (nmR r))) (some (.loc L)) (some (.loc (L+1))) (some P) a8 (some d) (some (.lst [.loc S.length,.loc (S.length+1),P])) a11 a12) (S++[A,B])=.ok (.lst [.loc L,.loc (L+1),P]) (S++[A,B]):=by simp only [jJ,zB,zH,zO,List.getElem?_cons_zero,List.getElem?_cons_succ,R.bind_ok,List.length_cons,List.length_nil,Nat.zero_add,Nat.reduceAdd,if_pos c3]
  rw [z0U,zfD (zkP (zbD (by rw [call2 (x:=.lst [.loc S.length,.loc (S.length+1),P]) (vr rfl) e3,sm])))];rfl
 have f13:z10 (Sh sc a1 a2 (some (rD v)) (some (.str (nmR r))) (some (.loc L)) (some (.loc (L+1))) (some P) a8 (some d) (some (.lst [.loc S.length,.loc (S.length+1),P])) a11 a12) (S++[A,B])=.ok (.nx (Sh sc a1 a2 (some (rD v)) (some (.str (nmR r))) (some (.loc L)) (some (.loc (L+1))) (some P) a8 (some d) (some (.lst [.loc S.length,.loc (S.length+1),P])) a11 a12)) (S++[A++[.tup []],B]):=by rw [z10,zfn (l:=S.length) (xs:=A) (by rw [op2 (x:=.lst [.loc S.length,.loc (S.length+1),P]) (y:=.int 0) (vr rfl) rfl];rfl) qk.1 (by omega),z5L.1]
 have f14:z0I (Sh sc a1 a2 (some (rD v)) (some (.str (nmR r))) (some (.loc L)) (some (.loc (L+1))) (some P) a8 (some d) (some (.lst [.loc S.length,.loc (S.length+1),P])) a11 a12) (S++[A++[.tup []],B])=.ok (.nx (Sh sc a1 a2 (some (rD v)) (some (.str (nmR r))) (some (.loc L)) (some (.loc (L+1))) (some P) a8 (some d) (some (.lst [.loc S.length,.loc (S.length+1),P])) a11 a12)) (S++[A++[.tup []],B++[.tup []]]):=by rw [z0I,zfn (l:=S.length+1) (xs:=B) (by rw [op2 (x:=.lst [.loc S.length,.loc (S.length+1),P]) (y:=.int 1) (vr rfl) rfl];rfl) qk.2 (by omega),z5L.2]
 exact ⟨_,_,by rw [zi f10,zi f11,zi f13,f14]⟩
theorem zgy (h:LotB n 104 v) (Rn:Run r v ls) (hl:ls.length<=50000) (pt:Tab n (wd n (zm r ls))) (S:Sto) (h1:S[L]? = some (ls.map rD)) (h2:S[L+1]? = some ((zm r ls).map tD)): ∃ b9 b10 t,z3s (Sh sc a1 a2 (some (rD v)) (some (.str (nmR r))) (some (.loc L)) (some (.loc (L+1))) (some (tD (wd n (zm r ls)))) a8 a9 a10 a11 a12) S = .ok (.nx (Sh sc a1 a2 (some (rD v)) (some (.str (nmR r))) (some (.loc L)) (some (.loc (L+1))) (some (tD (wd n (zm r ls)))) a8 b9 b10 a11 a12)) (S++t):=by
 obtain ⟨Z',s',e,b9,b10,t,rfl,hs⟩:=z5o (all:=([0,1]:List Int).map D.int) (body:=zh1) (fun Z s1=>∃ x9 x10 t,Z=Sh sc a1 a2 (some (rD v)) (some (.str (nmR r))) (some (.loc L)) (some (.loc (L+1))) (some (tD (wd n (zm r ls)))) a8 x9 x10 a11 a12/\s1=S++t) (([0,1]:List Int).map D.int) (fun x hx Z s1 hI=>by
  obtain ⟨x9,x10,t,rfl,rfl⟩:=hI;have lL:L+1<S.length:=(List.getElem?_eq_some_iff.mp h2).1;obtain ⟨b10,t2,e⟩:=zfY (L:=L) (sc:=sc) (a1:=a1) (a2:=a2) (a8:=a8) (a9:=x9) (a10:=x10) (a11:=a11) (a12:=a12) (d:=x) h Rn hl pt (S++t) (by rw [List.getElem?_append_left (by omega)];exact h1) (by rw [List.getElem?_append_left (by omega)];exact h2);exact ⟨_,_,e,some x,b10,t++t2,rfl,by rw [List.append_assoc]⟩) _ S ⟨a9,a10,[],rfl,by simp⟩;rw [hs] at e;refine ⟨b9,b10,t,?_⟩;rw [z3s,z05,zn9,R.bind_ok];exact e
end
abbrev zeC:FS:=zE z2N (zE z2J (zE z2I z2G))
abbrev zhf:D->Ev->Sto->R Fl:=fun d Z s=>(yE 1 d Z s).bind fun Z' s'=>(zE z3t (zE z3R (zE z2T (zE z3S (zE z35 (zE z3X (zE z3s zeC))))))) Z' s'
def ShL(ns:List Int)(Z:Ev):Prop:=∃ a1 a2 a3 a4 a5 a6 a7 a8 a9 a10 a11 a12,Z=Sh (.scr (iL ns)) a1 a2 a3 a4 a5 a6 a7 a8 a9 a10 a11 a12
theorem zjV {s:Sto} {l:Nat} {x y d0:D} {a4:Option D} (h:Pot s l):∃ z s',eOp dIx (qG (za (zc 1) (za (zc 2) zh))) (ze Pg.zp (za (zc 3) (za (eC (.int 2)) zh))) [some d0,some x,some y,some (.loc l),a4] s=.ok z s'/\vL s s' l:=by
 have c2:(2:Nat)<=cap:=by decide
 obtain ⟨q,s',e,p0,p1,dr⟩:=vg (f:=zc 3) (g:=eC (.int 2)) (far:=2) (Z:=[some d0,some x,some y,some (.loc l),a4]) h (by decide) (jH (by decide)) rfl rfl;have hr:q.toNat<([x,y]:List D).length:=by simp;omega
 have ix:=uv (xs:=[x,y]) (d:=[x,y][q.toNat]) (s:=s') p0 (by simp [hr]);refine ⟨[x,y][q.toNat],s',?_,dr⟩;rw [yn];simp only [jJ,zB,zH,zO,List.getElem?_cons_zero,List.getElem?_cons_succ,R.bind_ok,List.length_cons,List.length_nil,Nat.zero_add,Nat.reduceAdd,if_pos c2];rw [e,R.bind_ok,ix]
theorem zlt {s:Sto} {l:Nat} {x y no:D} (h:Pot s l) (hno:∀ s,xo [no] s=.ok (.bl false) s) {Z:Ev} (i1:Z[12]? = some (some no)) (i2:Z[3]? = some (some x)) (i3:Z[11]? = some (some y)) (i4:Z[2]? = some (some (.loc l))): ∃ s',tOf (eOp dNe (zA (qh (za (eC (.int 3)) zh)) [some 12,some 3,some 11,some 2,none] (yE 4) zX (ze zx (za (zc 4) (za (zc 0) (za (eOp dIx (qG (za (zc 1) (za (zc 2) zh))) (ze Pg.zp (za (zc 3) (za (eC (.int 2)) zh)))) zh))))) (eOp zfm (qG (za (eC (.str "rule")) zh)) (eC (.int 3)))) Z s=.ok false s':=by
 have i':xh [some 12,some 3,some 11,some 2,none] Z=[some no,some x,some y,some (.loc l),none]:=by simp [i1,i2,i3,i4]
 have key:∀ (w:Int),w=0\/w=1\/w=2->∀ s,Pot s l->∃ s',ze zx (za (zc 4) (za (zc 0) (za (eOp dIx (qG (za (zc 1) (za (zc 2) zh))) (ze Pg.zp (za (zc 3) (za (eC (.int 2)) zh)))) zh))) (([some no,some x,some y,some (.loc l),none]:Ev).set 4 (some (.int w))) s=.ok (.str "rule") s'/\vL s s' l:=fun w hw s hp=>by
  obtain ⟨z,s',e,dr⟩:=zjV (x:=x) (y:=y) (d0:=no) (a4:=some (.int w)) hp;refine ⟨s',?_,dr⟩;have t:=zc1 (e:=z) (hno s');have tw:zx [.int w,no,z] s'=.ok (.str "rule") s':=by
   rcases hw with rfl | rfl | rfl;·exact t.1
   ·exact t.2.1
   ·exact t.2.2
  rw [show (([some no,some x,some y,some (.loc l),none]:Ev).set 4 (some (.int w)))=[some no,some x,some y,some (.loc l),some (.int w)] from rfl];rw [ye,zB,vr (d:=.int w) rfl,R.bind_ok,zB,vr (d:=no) rfl,R.bind_ok,zB,e,R.bind_ok,zH,R.bind_ok,R.bind_ok,R.bind_ok,R.bind_ok,tw]
 obtain ⟨s1,e0,d1⟩:=key 0 (by simp) s h;obtain ⟨s2,e1,d2⟩:=key 1 (by simp) s1 d1.pot;obtain ⟨s3,e2,d3⟩:=key 2 (by simp) s2 d2.pot;refine ⟨s3,?_⟩;have c:=zg8 (Z:=Z) (mp:=[some 12,some 3,some 11,some 2,none]) (j:=4) (by rw [i'];exact e0) (by rw [i'];exact e1) (by rw [i'];exact e2);rw [um,yn,c,R.bind_ok,zfd,R.bind_ok,z9F (by decide +kernel),R.bind_ok]
theorem zjA {sc:D} {a1 a5 a6 a7 a8 a9 a10 a11 a12:Option D} {n l:Nat} {v:List Int} {r:Rl} {s:Sto} (h:LotB n 104 v) (hp:Pot s l): ∃ b11 b12 s',zeC (Sh sc a1 (some (.loc l)) (some (rD v)) (some (.str (nmR r))) a5 a6 a7 a8 a9 a10 a11 a12) s=.ok (.nx (Sh sc a1 (some (.loc l)) (some (rD v)) (some (.str (nmR r))) a5 a6 a7 a8 a9 a10 b11 b12)) s':=by
 have l4:=h.toLot.le4;obtain ⟨bad,s3,e6,kb,d3⟩:=zi3 (m:=104) hp h.abs (by decide) (by omega) (by omega);have f15:z2N (Sh sc a1 (some (.loc l)) (some (rD v)) (some (.str (nmR r))) a5 a6 a7 a8 a9 a10 a11 a12) s=.ok (.nx (Sh sc a1 (some (.loc l)) (some (rD v)) (some (.str (nmR r))) a5 a6 a7 a8 a9 a10 (some bad) a12)) s3:=by rw [z2N,zV,call2 (x:=.loc l) (y:=rD v) (vr rfl) (vr rfl),e6];rfl
 have f16:z2J (Sh sc a1 (some (.loc l)) (some (rD v)) (some (.str (nmR r))) a5 a6 a7 a8 a9 a10 (some bad) a12) s3=.ok (.nx (Sh sc a1 (some (.loc l)) (some (rD v)) (some (.str (nmR r))) a5 a6 a7 a8 a9 a10 (some bad) a12)) s3:=by
  rw [z2J,zfD];·rfl
  ·rcases zdk kb.kd s3 with ⟨n',v',rfl,hv,h1,h2⟩ | ⟨h1,h2⟩
   ·rw [zbV,z4Y,zbD (b:=true) (by rw [wz (x:=rD v') (vr rfl),h2])];rfl
   ·rw [zbV,z4Y,zbD (b:=false) (by rw [wz (x:=bad) (vr rfl),h2])];simp only [R.bind_ok,Bool.not_false,if_true];exact zhs (by decide +kernel) rfl rfl (zdZ r h1)
 obtain ⟨no,s5,e9,hno,d5⟩:=zby r d3.pot;have f18:z2I (Sh sc a1 (some (.loc l)) (some (rD v)) (some (.str (nmR r))) a5 a6 a7 a8 a9 a10 (some bad) a12) s3=.ok (.nx (Sh sc a1 (some (.loc l)) (some (rD v)) (some (.str (nmR r))) a5 a6 a7 a8 a9 a10 (some bad) (some no))) s5:=by rw [z2I,zV,call2 (x:=.loc l) (y:=.str (nmR r)) (vr rfl) (vr rfl),e9];rfl
 obtain ⟨s6,e19⟩:=zlt (x:=rD v) (y:=bad) (no:=no) (Z:=Sh sc a1 (some (.loc l)) (some (rD v)) (some (.str (nmR r))) a5 a6 a7 a8 a9 a10 (some bad) (some no)) d5.pot (fun s=>zjl hno s) rfl rfl rfl rfl;have f19:z2G (Sh sc a1 (some (.loc l)) (some (rD v)) (some (.str (nmR r))) a5 a6 a7 a8 a9 a10 (some bad) (some no)) s5=.ok (.nx (Sh sc a1 (some (.loc l)) (some (rD v)) (some (.str (nmR r))) a5 a6 a7 a8 a9 a10 (some bad) (some no))) s6:=by
  rw [z2G,z2w,e19,R.bind_ok];rfl
 exact ⟨_,_,_,by unfold zeC;rw [zi f15,zi f16,zi f18,f19]⟩
theorem zgH (ns:List Int) (j:Nat) (Z:Ev) (s:Sto) (h:ShL ns Z):∃ Z' s',zhf (.int j) Z s=.ok (.nx Z') s'/\ShL ns Z':=by
 obtain ⟨a1,a2,a3,a4,a5,a6,a7,a8,a9,a10,a11,a12,rfl⟩:=h;rw [show zhf (.int j) (Sh (.scr (iL ns)) a1 a2 a3 a4 a5 a6 a7 a8 a9 a10 a11 a12) s=(zE z3t (zE z3R (zE z2T (zE z3S (zE z35 (zE z3X (zE z3s zeC))))))) (Sh (.scr (iL ns)) (some (.int j)) a2 a3 a4 a5 a6 a7 a8 a9 a10 a11 a12) s from rfl];obtain ⟨c,e1⟩:=zjf ns j s;obtain ⟨q,e2⟩:=zk6 c s;have hp:Pot (s++[[.int q]]) s.length:=⟨q,by simp⟩;obtain ⟨n,v,s1,e3,hv,d1⟩:=zkD hp;have l4:=hv.toLot.le4;have f2:z3t (Sh (.scr (iL ns)) (some (.int j)) a2 a3 a4 a5 a6 a7 a8 a9 a10 a11 a12) s=.ok (.nx (Sh (.scr (iL ns)) (some (.int j)) (some (.loc s.length)) a3 a4 a5 a6 a7 a8 a9 a10 a11 a12)) (s++[[.int q]]):=by rw [z3t,zV,wz (x:=.int c) (by rw [call2 (x:=.scr (iL ns)) (y:=.int j) (vr rfl) (vr rfl),e1]),e2];rfl
 have f3:z3R (Sh (.scr (iL ns)) (some (.int j)) (some (.loc s.length)) a3 a4 a5 a6 a7 a8 a9 a10 a11 a12) (s++[[.int q]])=.ok (.nx (Sh (.scr (iL ns)) (some (.int j)) (some (.loc s.length)) (some (rD v)) a4 a5 a6 a7 a8 a9 a10 a11 a12)) s1:=by rw [z3R,zV,wz (x:=.loc s.length) (vr rfl),e3];rfl
 obtain ⟨r,s2,e4,d2⟩:=zjv (f:=zc 2) (Z:=Sh (.scr (iL ns)) (some (.int j)) (some (.loc s.length)) (some (rD v)) a4 a5 a6 a7 a8 a9 a10 a11 a12) d1.pot (vr rfl);have f4:z2T (Sh (.scr (iL ns)) (some (.int j)) (some (.loc s.length)) (some (rD v)) a4 a5 a6 a7 a8 a9 a10 a11 a12) s1=.ok (.nx (Sh (.scr (iL ns)) (some (.int j)) (some (.loc s.length)) (some (rD v)) (some (.str (nmR r))) a5 a6 a7 a8 a9 a10 a11 a12)) s2:=by rw [z2T,zV,e4];rfl
 obtain ⟨ls,Rn,hl⟩:=ziC r hv;have lr:=ziI r hv Rn (by decide) hl s2;have f5:z3S (Sh (.scr (iL ns)) (some (.int j)) (some (.loc s.length)) (some (rD v)) (some (.str (nmR r))) a5 a6 a7 a8 a9 a10 a11 a12) s2=.ok (.nx (Sh (.scr (iL ns)) (some (.int j)) (some (.loc s.length)) (some (rD v)) (some (.str (nmR r))) (some (.loc s2.length)) (some (.loc (s2.length+1))) a7 a8 a9 a10 a11 a12)) (s2++[ls.map rD,(zm r ls).map tD]):=by
  rw [z3S,zda,call2 (x:=.str (nmR r)) (y:=rD v) (vr rfl) (vr rfl),lr,R.bind_ok];rfl
 have lpl:=zdG (n:=n) (by have:=hv.sz;unfold Sz at this;omega) (s2++[ls.map rD,(zm r ls).map tD]);have f6:z35 (Sh (.scr (iL ns)) (some (.int j)) (some (.loc s.length)) (some (rD v)) (some (.str (nmR r))) (some (.loc s2.length)) (some (.loc (s2.length+1))) a7 a8 a9 a10 a11 a12) (s2++[ls.map rD,(zm r ls).map tD])=.ok (.nx (Sh (.scr (iL ns)) (some (.int j)) (some (.loc s.length)) (some (rD v)) (some (.str (nmR r))) (some (.loc s2.length)) (some (.loc (s2.length+1))) (some (tD (one n))) a8 a9 a10 a11 a12)) (s2++[ls.map rD,(zm r ls).map tD]):=by
  have gl:∀ s,yJ [rD v] s=.ok (.int n) s:=fun s=>by simp [yJ,zJ,hv.len]
  rw [z35,zV,wz (x:=.int n) (by rw [wz (x:=rD v) (vr rfl),gl]),lpl];rfl
 have g2:(s2++[ls.map rD,(zm r ls).map tD])[s2.length+1]? = some ((zm r ls).map tD):=qk.2;obtain ⟨b8,lp⟩:=zaZ (G:=[(s2.length+1,(zm r ls).map tD)]) (all:=(zm r ls).map tD) (sc:=.scr (iL ns)) (a1:=some (.int j)) (a2:=some (.loc s.length)) (a3:=some (rD v)) (a4:=some (.str (nmR r))) (a5:=some (.loc s2.length)) (a6:=some (.loc (s2.length+1))) (a9:=a9) (a10:=a10) (a11:=a11) (a12:=a12) (S:=s2++[ls.map rD,(zm r ls).map tD]) (by
   intro p hp;simp only [List.mem_cons,List.not_mem_nil,or_false] at hp;subst hp;exact g2) hv.sz (B:=2 ^ 104-1) (m:=104) (x:=v) (by decide) (by decide) (fun y hy=>by have:=hv.bd y hy;omega) Rn (one n) a8 hv (PI.start hv.toLot fun y hy=>by have:=hv.bd y hy;omega);have f7:z3X (Sh (.scr (iL ns)) (some (.int j)) (some (.loc s.length)) (some (rD v)) (some (.str (nmR r))) (some (.loc s2.length)) (some (.loc (s2.length+1))) (some (tD (one n))) a8 a9 a10 a11 a12) (s2++[ls.map rD,(zm r ls).map tD])=.ok (.nx (Sh (.scr (iL ns)) (some (.int j)) (some (.loc s.length)) (some (rD v)) (some (.str (nmR r))) (some (.loc s2.length)) (some (.loc (s2.length+1))) (some (tD (wd n (zm r ls)))) b8 a9 a10 a11 a12)) (s2++[ls.map rD,(zm r ls).map tD]):=by
  have i:yx (zc 6) (Sh (.scr (iL ns)) (some (.int j)) (some (.loc s.length)) (some (rD v)) (some (.str (nmR r))) (some (.loc s2.length)) (some (.loc (s2.length+1))) (some (tD (one n))) a8 a9 a10 a11 a12) (s2++[ls.map rD,(zm r ls).map tD])=.ok ((zm r ls).map tD,[(s2.length+1,(zm r ls).map tD)]) (s2++[ls.map rD,(zm r ls).map tD]):=by
   rw [z1r,vr (d:=.loc (s2.length+1)) rfl,R.bind_ok];simp only [g2]
  rw [z3X,z05,i,R.bind_ok];exact lp
 obtain ⟨b9,b10,t,f9⟩:=zgy (L:=s2.length) (sc:=.scr (iL ns)) (a1:=some (.int j)) (a2:=some (.loc s.length)) (a8:=b8) (a9:=a9) (a10:=a10) (a11:=a11) (a12:=a12) hv Rn hl (zbI hv Rn) (s2++[ls.map rD,(zm r ls).map tD]) qk.1 qk.2;have pt:Pot ((s2++[ls.map rD,(zm r ls).map tD])++t) s.length:=(d2.pot.app _).app _;obtain ⟨b11,b12,s',er⟩:=zjA (sc:=.scr (iL ns)) (a1:=some (.int j)) (a5:=some (.loc s2.length)) (a6:=some (.loc (s2.length+1))) (a7:=some (tD (wd n (zm r ls)))) (a8:=b8) (a9:=b9) (a10:=b10) (a11:=a11) (a12:=a12) (r:=r) hv pt;exact ⟨_,s',by rw [zi f2,zi f3,zi f4,zi f5,zi f6,zi f7,zi f9,er],_,_,_,_,_,_,_,_,_,_,_,_,rfl⟩
theorem zib(n:Nat)(b:Nat):∃ k:Nat,(if (if ((b:Nat):Int)<(n:Int) then ((b:Nat):Int) else n) > 1 then (if ((b:Nat):Int)<(n:Int) then ((b:Nat):Int) else n) else 1)=(k:Int)/\k<=b+1:=by
 by_cases h:((b:Nat):Int)<n
 ·rw [if_pos h];by_cases h2:((b:Nat):Int) > 1;·exact ⟨b,by rw [if_pos h2],by omega⟩
  ·exact ⟨1,by rw [if_neg h2];rfl,by omega⟩
 ·rw [if_neg h];by_cases h2:((n:Nat):Int) > 1;·exact ⟨n,by rw [if_pos h2],by omega⟩
  ·exact ⟨1,by rw [if_neg h2];rfl,by omega⟩
theorem zhG (ns:List Int):∃ Z' s',z8k (Sh (.scr (iL ns)) none none none none none none none none none none none none) []=.ok (.nx Z') s':=by
 obtain ⟨k,ek,hk⟩:=zib ns.length 8;rw [show ((8:Nat):Int)=8 from rfl] at ek;obtain ⟨Z',s',e,_⟩:=z5o (all:=yK k) (body:=zhf) (fun Z _=>ShL ns Z) (yK k) (fun x hx Z s hI=>by
  obtain ⟨j,_,rfl⟩:=zb6 hx;exact zgH ns j Z s hI) (Sh (.scr (iL ns)) none none none none none none none none none none none none) [] ⟨_,_,_,_,_,_,_,_,_,_,_,_,rfl⟩;refine ⟨Z',s',?_⟩;unfold z8k;rw [z05,uZ (n:=k) (s1:=[]) (by omega) (by simp only [ye,zB,zH,z0v,zO,List.getElem?_cons_zero,R.bind_ok,yJ,zJ,List.length_map,zdL,zdS,ek]),R.bind_ok];exact e
theorem zkv (Z:Ev) (s:Sto):∃ s',z5d Z s=.ok (.rt (.bl true)) s':=by
 have v1:LotB 2 104 [0,7]:=⟨⟨by simp [Sz],rfl,by simp,7,by simp,by decide⟩,by simp⟩;have v2:LotB 2 104 [3,0]:=⟨⟨by simp [Sz],rfl,by simp,3,by simp,by decide⟩,by simp⟩;have R1:Run .al [0,7] [[0,7]]:=.done (by decide +kernel);have R2:Run .tu [3,0] [[3,0]]:=.done (by decide +kernel);have t1:zx [.int 1,.str "all",.tup [.int 0,.int 7]] s=.ok (.loc s.length) (s++[[]]):=z3C (by
  have:=z5Q .al v1 R1 (by decide) (by decide) s;rw [zcp,show ya [.str "all",.tup [.int 0,.int 7]] s=.ok (.loc s.length) (s++[[]]) from this];rfl);have t2:zx [.int 2,.str "turn",.tup [.int 3,.int 0]] (s++[[]])=.ok (.tup [.tup [.int 1,.int 0],.tup [.int 0,.int 1]]) (s++[[]]):=z3C (by
  have:=zch .tu v2 R2 (by decide) (by decide) (s++[[]]);rw [zd8,show yf [.str "turn",.tup [.int 3,.int 0]] (s++[[]])=.ok (.tup [.tup [.int 1,.int 0],.tup [.int 0,.int 1]]) (s++[[]]) from this];rfl);refine ⟨s++[[]],?_⟩;have c0:([]:List D).length<=cap:=by decide
 have c2:(2:Nat)<=cap:=by decide
 have q1:zez false (.loc s.length) (.lst []) (s++[[]])=.ok (.bl true) (s++[[]]):=by
  have e:see (s++[[]]) (.loc s.length)=.lst []:=by simp [see]
  have e':see (s++[[]]) (.lst [])=.lst []:=rfl;have:=eq_self (k:=1) (d:=.lst []) (by decide +kernel) (by decide) s;rw [dEq] at this;rw [zez,e,e'];by_cases p:z8X (.lst [])=true
  ·rw [if_pos ⟨p,p⟩] at this ⊢;simpa using this
  ·rw [if_neg (fun z=>p z.1)] at this;cases this
 have q2:zez false (.tup [.tup [.int 1,.int 0],.tup [.int 0,.int 1]]) (.tup [.tup [.int 1,.int 0],.tup [.int 0,.int 1]]) (s++[[]])=.ok (.bl true) (s++[[]]):=by
  have:=eq_self (k:=3) (d:=.tup [.tup [.int 1,.int 0],.tup [.int 0,.int 1]]) (by decide +kernel) (by decide) s;rw [dEq] at this;rw [zez,show see (s++[[]]) (.tup [.tup [.int 1,.int 0],.tup [.int 0,.int 1]])=.tup [.tup [.int 1,.int 0],.tup [.int 0,.int 1]] from rfl];by_cases p:z8X (.tup [.tup [.int 1,.int 0],.tup [.int 0,.int 1]])=true
  ·rw [if_pos ⟨p,p⟩] at this ⊢;simpa using this
  ·rw [if_neg (fun z=>p z.1)] at this;cases this
 rw [z5d,yo,z9j];simp only [yn,ye,zB,zH,z0G,jJ,z0v,R.bind_ok,List.length_cons,List.length_nil,Nat.zero_add,Nat.reduceAdd,if_pos c2,if_pos (Nat.zero_le cap),t1,t2,q1,q2]
theorem zdU:∀ ns:List Int,ns.length<=63->∃ s',zgB [.scr (ns.map D.int)] []=.ok (.bl true) s':=fun ns hn=>by
 obtain ⟨Z',s',e⟩:=zhG ns;obtain ⟨s'',e2⟩:=zkv Z' s';refine ⟨s'',?_⟩;have st:zr ["_law_script","_law_k","_law_pot_here","_law_lot_here","_law_rule","_law_lots","_law_tables","_law_whole_here","_law_table","_law_turn","_law_found","_law_bad","_law_none"] [.scr (ns.map D.int)]=Sh (.scr (iL ns)) none none none none none none none none none none none none:=rfl;unfold zgB Mof zft;rw [if_pos (by rfl),st,zi e,e2]
end K12
namespace K12
open PySem.Spec L2 Dd Pg
theorem zjK:∀ x∈rsX,x∈askQ.xs:=by decide +kernel
theorem zn1:∀ x∈csX,x∈askQ.xs:=by decide +kernel
theorem zn2:∀ x∈rsX,∀ y∈csX,((x,y),x==y)∈askQ.ps:=by decide +kernel
theorem zmu:("DrawError":Str)∈askQ.xs:=by decide +kernel
theorem zmt:∀ x∈rsX,((x,("DrawError":Str)),true)∈askQ.ps:=by decide +kernel
theorem all_mk {P:Program} {w:World} {K:W.Frag} {h:Heap} {mg:Str->Option Value} {fa:Addr} (X:K.In h) (G:h.Ns mainGlobals mg) (hfa:mg "law"=some (.ref fa)) (e:zbc askQ K=valS askQ w) : ∃ fd:FuncData,(∀ (s:Shared) (v:Value),BindsTo s fd ⟨[v],[]⟩ [("_law_script",v)])/\∀ base:Heap,K.In base->base.Ns mainGlobals mg->z4U P w K mg base CX0 13 fa fd ["_law_script"] (zht K):=by
 obtain ⟨f0,d0,a0,F0⟩:=zL X G e 0 rfl;obtain ⟨f1,d1,a1,F1⟩:=zL X G e 1 rfl;obtain ⟨f2,d2,a2,F2⟩:=zL X G e 2 rfl;obtain ⟨f3,d3,a3,F3⟩:=zL X G e 3 rfl;obtain ⟨f4,d4,a4,F4⟩:=zL X G e 4 rfl;obtain ⟨f5,d5,a5,F5⟩:=zL X G e 5 rfl;obtain ⟨f6,d6,a6,F6⟩:=zL X G e 6 rfl;obtain ⟨f7,d7,a7,F7⟩:=zL X G e 7 rfl;obtain ⟨f8,d8,a8,F8⟩:=zL X G e 8 rfl;obtain ⟨f9,d9,a9,F9⟩:=zL X G e 9 rfl;obtain ⟨f10,d10,a10,F10⟩:=zL X G e 10 rfl;obtain ⟨f11,d11,a11,F11⟩:=zL X G e 11 rfl;obtain ⟨f12,d12,a12,F12⟩:=zL X G e 12 rfl;obtain ⟨f13,d13,a13,F13⟩:=zL X G e 13 rfl;obtain ⟨f14,d14,a14,F14⟩:=zL X G e 14 rfl;obtain ⟨f15,d15,a15,F15⟩:=zL X G e 15 rfl;obtain ⟨f16,d16,a16,F16⟩:=zL X G e 16 rfl;obtain ⟨f17,d17,a17,F17⟩:=zL X G e 17 rfl;obtain ⟨f18,d18,a18,F18⟩:=zL X G e 18 rfl;obtain ⟨f19,d19,a19,F19⟩:=zL X G e 19 rfl;obtain ⟨f20,d20,a20,F20⟩:=zL X G e 20 rfl;obtain ⟨f21,d21,a21,F21⟩:=zL X G e 21 rfl;obtain ⟨f22,d22,a22,F22⟩:=zL X G e 22 rfl;obtain ⟨f23,d23,a23,F23⟩:=zL X G e 23 rfl;obtain ⟨f24,d24,a24,F24⟩:=zL X G e 24 rfl;obtain ⟨f25,d25,a25,F25⟩:=zL X G e 25 rfl;obtain ⟨f26,d26,a26,F26⟩:=zL X G e 26 rfl;obtain ⟨f27,d27,a27,F27⟩:=zL X G e 27 rfl;obtain ⟨f28,d28,a28,F28⟩:=zL X G e 28 rfl;obtain ⟨f29,d29,a29,F29⟩:=zL X G e 29 rfl;obtain ⟨f30,d30,a30,F30⟩:=zL X G e 30 rfl;obtain ⟨f31,d31,a31,F31⟩:=zL X G e 31 rfl;obtain ⟨f32,d32,a32,F32⟩:=zL X G e 32 rfl;obtain ⟨f33,d33,a33,F33⟩:=zL X G e 33 rfl;obtain ⟨f34,d34,a34,F34⟩:=zL X G e 34 rfl;obtain ⟨f35,d35,a35,F35⟩:=zL X G e 35 rfl;obtain ⟨f36,d36,a36,F36⟩:=zL X G e 36 rfl;obtain ⟨f37,d37,a37,F37⟩:=zL X G e 37 rfl;obtain ⟨f38,d38,a38,F38⟩:=zL X G e 38 rfl;obtain ⟨f39,d39,a39,F39⟩:=zL X G e 39 rfl;obtain ⟨f40,d40,a40,F40⟩:=zL X G e 40 rfl;obtain ⟨f41,d41,a41,F41⟩:=zL X G e 41 rfl;obtain ⟨f42,d42,a42,F42⟩:=zL X G e 42 rfl;obtain ⟨f43,d43,a43,F43⟩:=zL X G e 43 rfl;obtain ⟨f44,d44,a44,F44⟩:=zL X G e 44 rfl;obtain ⟨f45,d45,a45,F45⟩:=zL X G e 45 rfl;obtain ⟨f46,d46,a46,F46⟩:=zL X G e 46 rfl;obtain ⟨f47,d47,a47,F47⟩:=zL X G e 47 rfl;obtain ⟨f48,d48,a48,F48⟩:=zL X G e 48 rfl;obtain ⟨f49,d49,a49,F49⟩:=zL X G e 49 rfl;obtain ⟨f50,d50,a50,F50⟩:=zL X G e 50 rfl;obtain ⟨f51,d51,a51,F51⟩:=zL X G e 51 rfl;obtain ⟨f52,d52,a52,F52⟩:=zL X G e 52 rfl;have e0:=hfa.symm.trans a52;cases e0;obtain ⟨oc,od,kV,doc,pm,an,cdv,ct,osl,rfl,hl,hc⟩:=F52.ex;have T:Txt mg:=⟨zeW X G e 0 rfl,zeW X G e 1 rfl,vJ X G e 0 rfl,vJ X G e 1 rfl,vJ X G e 2 rfl,vJ X G e 3 rfl,vJ X G e 4 rfl,vJ X G e 5 rfl,vJ X G e 6 rfl,vJ X G e 7 rfl,vJ X G e 8 rfl,vJ X G e 9 rfl,vJ X G e 10 rfl,vJ X G e 11 rfl,vJ X G e 12 rfl,vJ X G e 13 rfl,vJ X G e 14 rfl,vJ X G e 15 rfl⟩;have T_RULES:zgM P w K mg "RULES" qJ:=zkz X G e "RULES" z9b (List.mem_of_getElem? (i:=0) rfl);have GG:∀ (x:Str) (v:Value),W.nsIn K mainGlobals x=some (some v)->mg x=some v:=fun x v h=>W.mg_of X G h;have E_NoLot:zhA K mg "NoLot":=zd3 GG (zaz e "NoLot" (zjK _ (by decide +kernel)));have E_NoRule:zhA K mg "NoRule":=zd3 GG (zaz e "NoRule" (zjK _ (by decide +kernel)));have FM:z7K ⟨mg,K⟩ rsX csX:=zct GG (fun x hx=>zaz e x (zjK x hx)) (fun x hx=>zaz e x (zn1 x hx)) (fun x hx y hy=>by rw [zil e x y (x==y) (zn2 x hx y hy)];rfl);have KS:∀ c∈rsX,zjT K mg c "DrawError":=fun x hx=>zgL GG (zaz e x (zjK x hx)) (zaz e "DrawError" zmu) (by rw [zil e x "DrawError" true (zmt x hx)];rfl);refine ⟨W.fnOf "law" "law" (z1i z58) (vG z58) (zg z58) .none kV doc pm an cdv ct,fun s v=>.of_eq rfl,fun base _ _=>?_⟩;have H0:=z7a (P:=P) (w:=w) (base:=base) T F0 a0;have H1:=z6M (P:=P) (w:=w) (base:=base) T F1 a1;have H2:=z7N (P:=P) (w:=w) (base:=base) T F2 a2;have H3:=z32 (P:=P) (w:=w) (base:=base) T F3 a3;have H4:=z4m (P:=P) (w:=w) (base:=base) T F4 a4;have H5:=jb (P:=P) (w:=w) (base:=base) T F5 a5;have H6:=z31 (P:=P) (w:=w) (base:=base) T F6 a6;have H7:=z8F (P:=P) (w:=w) (base:=base) T F7 a7;have H8:=z8o (P:=P) (w:=w) (base:=base) T F8 a8 T_RULES;have H9:=zbk (P:=P) (w:=w) (base:=base) T F9 a9;have H10:=z2y (P:=P) (w:=w) (base:=base) T F10 a10;have H11:=z79 (P:=P) (w:=w) (base:=base) T F11 a11;have H12:=z5P (P:=P) (w:=w) (base:=base) T F12 a12;have H13:=z4B (P:=P) (w:=w) (base:=base) T F13 a13;have H14:=z6p (P:=P) (w:=w) (base:=base) T F14 a14;have H15:=z4q (P:=P) (w:=w) (base:=base) T F15 a15;have H16:=z4u (P:=P) (w:=w) (base:=base) T F16 a16;have H17:=z77 (P:=P) (w:=w) (base:=base) T F17 a17;have H18:=z4x (P:=P) (w:=w) (base:=base) T F18 a18;have H19:=z2m (P:=P) (w:=w) (base:=base) T F19 a19 FM;have H20:=z4l (P:=P) (w:=w) (base:=base) T F20 a20 H0;have H21:=z39 (P:=P) (w:=w) (base:=base) T F21 a21 H2;have H22:=z8N (P:=P) (w:=w) (base:=base) T F22 a22 H5;have H23:=z6u (P:=P) (w:=w) (base:=base) T F23 a23 H5 H6;have H24:=zb7 (P:=P) (w:=w) (base:=base) T F24 a24 H6 H7;have H25:=z8v (P:=P) (w:=w) (base:=base) T F25 a25 H7;have HX26:=z4A (P:=P) (w:=w) (base:=base) T F26 a26 E_NoRule H8;have H26:=z5l (P:=P) (w:=w) (base:=base) T F26 a26 H8;have H27:=z7H (P:=P) (w:=w) (base:=base) T F27 a27 H12;have H28:=z78 (P:=P) (w:=w) (base:=base) T F28 a28 H14 H15;have H29:=z2v (P:=P) (w:=w) (base:=base) T F29 a29 H17;have H30:=z2o (P:=P) (w:=w) (base:=base) T F30 a30 H12;have H31:=z3P (P:=P) (w:=w) (base:=base) T F31 a31 H18;have H32:=z6C (P:=P) (w:=w) (base:=base) T F32 a32 H12;have H33:=z6d (P:=P) (w:=w) (base:=base) T F33 a33 H18;have H34:=zb4 (P:=P) (w:=w) (base:=base) T F34 a34 H1 H20;have H35:=z7I (P:=P) (w:=w) (base:=base) T F35 a35 H1 H20;have H36:=z6R (P:=P) (w:=w) (base:=base) T F36 a36 T_RULES H22 H23 H24 H25;have H37:=z6b (P:=P) (w:=w) (base:=base) T F37 a37 H12 H32;have HX38:=z5h (P:=P) (w:=w) (base:=base) T F38 a38 E_NoLot H34;have H38:=z73 (P:=P) (w:=w) (base:=base) T F38 a38 H34;have H39:=z4c (P:=P) (w:=w) (base:=base) T F39 a39 H35;have H40:=z5G (P:=P) (w:=w) (base:=base) T F40 a40 H38;have H41:=z4v (P:=P) (w:=w) (base:=base) T F41 a41 H4 H21 H39;have HX42:=jG (P:=P) (w:=w) (base:=base) T F42 a42 HX26 HX38;have H42:=kH (P:=P) (w:=w) (base:=base) T F42 a42 H26 H38;have HX43:=jQ (P:=P) (w:=w) (base:=base) T F43 a43 H3 H41;have H44:=z6k (P:=P) (w:=w) (base:=base) T F44 a44 H40 H42;have H45:=zdy (P:=P) (w:=w) (base:=base) T F45 a45 H9 H36 H44;have H46:=z4p (P:=P) (w:=w) (base:=base) T F46 a46 H3 H9 H36 H44;have HX47:=zdY (P:=P) (w:=w) (base:=base) T F47 a47 H40 H45 HX42;have HX48:=z4d (P:=P) (w:=w) (base:=base) T F48 a48 H46 HX47;have HX49:=z2l (P:=P) (w:=w) (base:=base) T F49 a49 HX43 HX48;have HX50:=z2u (P:=P) (w:=w) (base:=base) T F50 a50 HX49;have H51:=z5i (P:=P) (w:=w) (base:=base) T F51 a51 KS H19 HX47 HX48 HX50;have H52:=zaR (P:=P) (w:=w) (base:=base) T F52 a52 H10 H11 H12 H13 H16 H27 H28 H29 H30 H31 H33 H37 H51;exact ziT (x:="law") H52 zdU
theorem boot_:∀ w:World,(W.fencedOpening treeTable PySem.Challenge.pw_drawndown_k12_runs_told w 11072).map (fun s=>(s.heap,s.gens,s.drawn,s.toks))=some (W.boot_heap w.params,Array.mk [],W.boot_drawn,W.boot_toks):= W.boot_open (by kernel_rfl) (by decide) (fun s=>by kernel_rfl)
theorem left_:W.LeftO PySem.Challenge.pw_drawndown_k12_runs_told qv looseQ xtQ (obsS askQ) (valS askQ) 11072:=zcM "special-get-raises" boot_ (fun w os=>z4O (f:=fun s=>(seenQ s,obsS askQ s)) (zlO w) (bsz w) (z7j (z6I w os) (z7t w os))) (fun w os=>z4O (f:=fun s=>(seenQ s,obsS askQ s)) (zlO w) (bsz w) (z7j (z8B w os) (z8l w os)))
end K12
open PySem.W
set_option maxRecDepth 100000 in
set_option maxHeartbeats 0 in
theorem PySem.Challenge.cw_drawndown_k12_runs_told_holds : PySem.Challenge.rw_drawndown_k12_runs_told.Holds := by
  w_on; o_law
  refine holds_open (q := K12.qv) (loose := K12.looseQ) (Xt := K12.xtQ) (XP := XL K12.qv K12.lvQ) (Yf := Dd.obsS K12.askQ) (Ya := Dd.valS K12.askQ) (YP := Dd.saysS K12.askQ) (N := 11072) K12.left_ (Dd.zgx K12.askQ) (Dd.zao K12.askQ) (fun s e => xl_of s (Bool.and_eq_true_iff.mp e).1) XL.keeps (by rfl) (by rfl) (by rfl) (fun s e => recFacts_of (Bool.and_eq_true_iff.mp e).2) (by rfl) (by first | assumption | decide +kernel) (by decide +kernel) ⟨rfl, rfl, rfl, rfl, rfl, by decide +kernel⟩ ?hw ?hc
  (case hw => w_witness2)
  refine Dd.walkY (l := PySem.Challenge.rw_drawndown_k12_runs_told) (n := 63) (k := 13) (x := "_law_script") rfl (by decide) (by decide) rfl ⟨rfl, by decide, by decide⟩ ?F
  case F =>
    intro w mg fa h Yy G hmg XP
    obtain ⟨K, KX, e⟩ := Yy
    exact ⟨K, KX, K12.all_mk KX G hmg e ⟩
