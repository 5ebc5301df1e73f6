import PyProof.Rows.All
import Wide.All
import OpenK.AllK
import Wide.FinOn
import Lean
import PyProof.EqAt
import PyProof.EqKinds
import PyProof.TupleCall
import PyProof.ExcArgsOwn
import PyProof.ExcAttrAll.ValueError
import PyProof.ListMulRoad
import PySem.Challenge.RW_drawndown_k44_no_nearest
set_option Elab.async false
set_option linter.all false
set_option maxRecDepth 100000
set_option maxHeartbeats 1000000
set_option exponentiation.threshold 5000
open PySem PyProof.Rows
noncomputable section
namespace Dd
open PySem.Spec
def dArgs(s:Stmt):Arguments:=match s with
 | .FunctionDef _ a _ _ _ _ _ _ _ _=>a | _=>{posonlyargs:=[],args:=[],vararg:=none,kwonlyargs:=[],kw_defaults:=[],kwarg:=none,defaults:=[]}
def zgJ(s:Stmt):List Stmt:=match s with
 | .FunctionDef _ _ b _ _ _ _ _ _ _=>b | _=>[]
def zdI(s:Stmt):Scope:=match s with
 | .FunctionDef _ _ _ _ _ _ sc _ _ _=>sc | _=>{kind:=.function,names:=[],isGenerator:=false,isCoroutine:=false}
def z7N(h:Heap)(a:Addr):W.Frag:=match h.get? a with | some o=>[(a,o)] | none=>[]
def zkZ(h:Heap)(g:W.Frag)(x:Str):W.Frag:=match W.nsIn g mainGlobals x with
 | some (some (.ref f))=>z7N h f++(match h.get? f with
   | some ⟨_,_,.func fd,_⟩=>(match fd.code with | .ref c=>z7N h c | _=>[]) | some ⟨_,_,.cls cd,_⟩=>z7N h cd.ns | _=>[]) | _=>[]
def gat(h:Heap)(ns:List Str):W.Frag:=z7N h mainGlobals++ns.flatMap (zkZ h (z7N h mainGlobals))
abbrev FV:=Str×Str×Arguments×FuncBody×Scope×Addr×List (Str×Addr)×Value×Addr×Bool×Bool
def zeC(K:W.Frag)(x:Str):Option FV:=match W.nsIn K mainGlobals x with
 | some (some (.ref f))=>(match K.lookup f with
   | some ⟨_,_,.func fd,_⟩=>some (fd.name,fd.qualname,fd.params,fd.body,fd.scope,fd.globals,fd.closure,fd.defaults,fd.builtins,W.codeIn K fd.code fd.qualname,W.keepIn K (.ref f)) | _=>none) | _=>none
def zjV(x:Str)(st:Stmt):Option FV:=some (x,x,dArgs st,.stmts (zgJ st),zdI st,mainGlobals,[],.none,builtinsNs,true,true)
def zfA(K:W.Frag)(x:Str):Bool:=match W.nsIn K mainGlobals x with | some none=>true | _=>false
def zfz(K:W.Frag)(x:Str):Option Int:=match W.nsIn K mainGlobals x with | some (some (.int i _))=>some i | _=>none
def sameRef:Value->Option (Option Value)->Bool
 | .ref f,some (some (.ref g))=>f==g | _,_=>false
def zb9:Value->Option Str
 | .str k _=>some k | _=>none
def z5V:Value->Bool
 | .type c=>c=="dict" | _=>false
def z9l(K:W.Frag):List DictEntry->List Str->List (Int×Option Str×Bool)
 | e::es,y::ys=>(e.hash,zb9 e.key,sameRef e.val (W.nsIn K mainGlobals y))::z9l K es ys | [],[]=>[] | _,_=>[(0,none,false)]
def zeW(K:W.Frag)(x:Str)(ys:List Str):Option (Bool×Bool×Bool×Bool×List (Int×Option Str×Bool)):=match W.nsIn K mainGlobals x with
 | some (some (.ref a))=>(match K.lookup a with
   | some ⟨c,d,.dict es _,sl⟩=>some (z5V c,d.isNone,sl.size==0,a==sysModules,z9l K es.toList ys) | _=>none) | _=>none
def zj8(w:World)(tb:List (Str×Str)):Option (Bool×Bool×Bool×Bool×List (Int×Option Str×Bool)):=some (true,true,true,false,tb.map fun p=>(PyData.keyHash w.params p.1,some p.1,true))
def zgS:List Value->Option (List Int)
 | []=>some [] | .int i _::r=>(zgS r).map (i::·) | _=>none
def zc8:Value->Bool
 | .type c=>c=="tuple" | _=>false
def zkr(K:W.Frag)(x:Str):Option (Bool×Option (List Int)):=match W.nsIn K mainGlobals x with
 | some (some (.ref a))=>(match K.lookup a with
   | some ⟨c,_,.seq its _,_⟩=>some (zc8 c,zgS its.toList) | _=>none) | _=>none
def bmV:List Value:=[.type "ValueError",.type "Exception",.type "BaseException",.type "object"]
def z2e(K:W.Frag)(C:Addr):Bool:=match K.lookup C with | some ⟨.type t,_,.cls _,_⟩=>t=="type" | _=>false
def z59(K:W.Frag)(x:Str):Bool:=match W.nsIn K mainGlobals x with
 | some (some (.ref C))=>W.excIn K C bmV "ValueError.__new__"&&(W.findIn K (.ref C) "__getattribute__"==some (some (.builtin "BaseException.__getattribute__"))&&(W.findIn K (.ref C) "__getattr__"==some none && (W.findIn K (.ref C) "__class__"==some (some (.builtin "object.__class__"))&&(W.mroIn K C (.type "object")==some true&&(W.mroIn K C (.type "BaseException")==some true&&(z2e K C&&W.kitOne K (.ref C) (.type "ValueError")==some true)))))) | _=>false
def z3N(K:W.Frag)(x y:Str):Option (Option Bool×Option Bool):=match W.nsIn K mainGlobals x,W.nsIn K mainGlobals y with
 | some (some (.ref C)),some (some (.ref D))=>some (W.mroIn K C (.ref D),W.kitOne K (.ref C) (.ref D)) | _,_=>none
abbrev Obs:=List (Option FV)×List Bool×List (Option Int)×List (Option (Bool×Bool×Bool×Bool×List (Int×Option Str×Bool)))×List (Option (Bool×Option (List Int)))×List Bool×List (Option (Option Bool×Option Bool))
structure Ask where
 fs:List (Str×Stmt)
 bs:List Str
 cs:List (Str×Int)
 ts:List (Str×List (Str×Str))
 us:List (Str×List Int)
 xs:List Str
 ps:List ((Str×Str)×Bool)
def z9S(q:Ask)(K:W.Frag):Obs:=(q.fs.map fun p=>zeC K p.1,q.bs.map (zfA K),q.cs.map fun p=>zfz K p.1,q.ts.map (fun p=>zeW K p.1 (p.2.map (·.2))),q.us.map (fun p=>zkr K p.1),q.xs.map (z59 K),q.ps.map fun p=>z3N K p.1.1 p.1.2)
def obsS(q:Ask)(s:Shared):Obs:=z9S q (gat s.heap (q.fs.map (·.1)++q.ts.map (·.1)++q.us.map (·.1)++q.xs))
def valS(q:Ask)(w:World):Obs:=(q.fs.map fun p=>zjV p.1 p.2,q.bs.map fun _=>true,q.cs.map fun p=>some p.2,q.ts.map (fun p=>zj8 w p.2),q.us.map (fun p=>some (true,some p.2)),q.xs.map fun _=>true,q.ps.map fun p=>some (some p.2,some p.2))
def z2Y(tb:String->Option Builtin)(p:Program)(w:World)(n₀:Nat)(ann:Option Value):Nat->W.SharedT->Thread->Option W.SharedT
 | 0,_,_=>none | n+1,s,t=>match W.through t with
  | true=>some s | false=>match W.stepOk n₀ ann t with
   | false=>none | true=>match W.stepT (denote tb) p w s t with
    | some (s',t')=>z2Y tb p w n₀ ann n s' t' | none=>none
def zih(l:List Obj):W.BT×Nat:=l.foldl (fun a o=>(a.1.ins a.2 o,a.2+1)) (W.BT.nil,0)
def zhD(P:Params):W.BT:=(zih (W.boot_heap P).objs.toList).1
end Dd
namespace K44
open PySem.Spec Dd
def top(i:Nat):Stmt:=PySem.Challenge.pw_drawndown_k44_no_nearest.main.body.getD i (.Pass ⟨0,0,0,0⟩)
abbrev jX:Stmt:=top 22
abbrev ku:Stmt:=top 24
abbrev kD:Stmt:=top 34
abbrev uB:Stmt:=top 36
abbrev uW:Stmt:=top 38
abbrev xl:Stmt:=top 40
abbrev ux:Stmt:=top 41
abbrev z0t:Stmt:=top 42
abbrev z0F:Stmt:=top 48
abbrev z53:Stmt:=top 55
abbrev vd:Stmt:=top 64
abbrev vL:Stmt:=top 70
abbrev kF:Stmt:=top 71
abbrev qR:Stmt:=top 72
abbrev vY:Stmt:=top 73
abbrev qi:Stmt:=top 75
abbrev qe:Stmt:=top 23
abbrev wF:Stmt:=top 25
abbrev uu:Stmt:=top 35
abbrev z0q:Stmt:=top 43
abbrev km:Stmt:=top 44
abbrev z2p:Stmt:=top 45
abbrev z0p:Stmt:=top 46
abbrev uj:Stmt:=top 49
abbrev kj:Stmt:=top 74
abbrev uA:Stmt:=top 77
abbrev vF:Stmt:=top 79
abbrev z31:Stmt:=top 27
abbrev kg:Stmt:=top 31
abbrev ke:Stmt:=top 54
abbrev qp:Stmt:=top 76
abbrev qA:Stmt:=top 28
abbrev qh:Stmt:=top 32
abbrev ji:Stmt:=top 29
abbrev qd:Stmt:=top 33
abbrev xN:Stmt:=top 50
abbrev wJ:Stmt:=top 62
abbrev xV:Stmt:=top 37
abbrev jh:Stmt:=top 51
abbrev z5r:Stmt:=top 63
abbrev z7z:Stmt:=top 52
abbrev qk:Stmt:=top 53
abbrev kN:Stmt:=top 65
abbrev zbV:Stmt:=top 56
abbrev z1I:Stmt:=top 66
abbrev jd:Stmt:=top 57
abbrev z0H:Stmt:=top 67
abbrev ut:Stmt:=top 58
abbrev z0z:Stmt:=top 68
abbrev qV:Stmt:=top 78
abbrev z3R:Stmt:=top 80
def z8X:List (Str×Str):=[("next","by_next"),("least","by_least"),("all","by_all"),("turn","by_turn")]
def askQ:Ask:=⟨[(("is_whole":Str),jX), (("has_size":Str),ku), (("together":Str),kD), (("like_places":Str),uB), (("columns_of":Str),uW), (("greatest_and_others":Str),xl), (("least_place":Str),ux), (("all_but":Str),z0t), (("is_rule":Str),z0F), (("moved":Str),z53), (("nearest_whole":Str),vd), (("_law_cell_at":Str),vL), (("_law_pot":Str),kF), (("_law_take":Str),qR), (("_law_kind_of":Str),vY), (("_law_rules":Str),qi), (("are_wholes":Str),qe), (("want_number":Str),wF), (("lines_times":Str),uu), (("by_next":Str),z0q), (("by_least":Str),km), (("by_all":Str),z2p), (("by_turn":Str),z0p), (("want_rule":Str),uj), (("_law_lot":Str),kj), (("_law_no_lot":Str),uA), (("_law_no_rule":Str),vF), (("is_lot":Str),z31), (("is_table":Str),kg), (("division":Str),ke), (("_law_parts":Str),qp), (("want_lot":Str),qA), (("want_table":Str),qh), (("has_ended":Str),ji), (("multiplied":Str),qd), (("want_rule_and_lot":Str),xN), (("want_bottom":Str),wJ), (("growing_products":Str),xV), (("want_step":Str),jh), (("tops":Str),z5r), (("step":Str),z7z), (("step_table":Str),qk), (("errors":Str),kN), (("run":Str),zbV), (("worst":Str),z1I), (("tables_of":Str),jd), (("records":Str),z0H), (("products_of":Str),ut), (("columns":Str),z0z), (("_law_told":Str),qV), (("law":Str),z3R)], [("ValueError":Str),("abs":Str),("all":Str),("bool":Str),("divmod":Str),("int":Str),("isinstance":Str),("len":Str),("list":Str),("max":Str),("min":Str),("range":Str),("str":Str),("sum":Str),("tuple":Str),("zip":Str)], [(("LEAST_SIZE":Str),(2:Int)),(("MOST_RECORDS":Str),(1000:Int)),(("MOST_SIZE":Str),(4:Int))], [(("RULES":Str),z8X)], [], [("DrawError":Str),("Ended":Str),("NoBottom":Str),("NoCube":Str),("NoDeed":Str),("NoLot":Str),("NoNumber":Str),("NoRoot":Str),("NoRow":Str),("NoRule":Str),("NoSize":Str),("NoStep":Str),("NoTable":Str),("NoText":Str),("NoTuple":Str),("NotAlike":Str),("NotFair":Str),("TooMany":Str)], [((("NoBottom":Str),("NoLot":Str)),false),((("NoBottom":Str),("NoRule":Str)),false),((("NoBottom":Str),("Ended":Str)),false),((("NoBottom":Str),("NoBottom":Str)),true),((("NoBottom":Str),("NoRoot":Str)),false),((("NoBottom":Str),("NoCube":Str)),false),((("NoBottom":Str),("NoSize":Str)),false),((("NoBottom":Str),("NoNumber":Str)),false),((("NoBottom":Str),("TooMany":Str)),false),((("NoBottom":Str),("NoTable":Str)),false),((("NoBottom":Str),("NoTuple":Str)),false),((("NoBottom":Str),("NotAlike":Str)),false),((("NoBottom":Str),("NotFair":Str)),false),((("NoBottom":Str),("NoText":Str)),false),((("NoBottom":Str),("NoStep":Str)),false),((("NoBottom":Str),("NoDeed":Str)),false),((("NoBottom":Str),("NoRow":Str)),false),((("NoLot":Str),("NoLot":Str)),true),((("NoLot":Str),("NoRule":Str)),false),((("NoLot":Str),("Ended":Str)),false),((("NoLot":Str),("NoBottom":Str)),false),((("NoLot":Str),("NoRoot":Str)),false),((("NoLot":Str),("NoCube":Str)),false),((("NoLot":Str),("NoSize":Str)),false),((("NoLot":Str),("NoNumber":Str)),false),((("NoLot":Str),("TooMany":Str)),false),((("NoLot":Str),("NoTable":Str)),false),((("NoLot":Str),("NoTuple":Str)),false),((("NoLot":Str),("NotAlike":Str)),false),((("NoLot":Str),("NotFair":Str)),false),((("NoLot":Str),("NoText":Str)),false),((("NoLot":Str),("NoStep":Str)),false),((("NoLot":Str),("NoDeed":Str)),false),((("NoLot":Str),("NoRow":Str)),false),((("NoNumber":Str),("NoLot":Str)),false),((("NoNumber":Str),("NoRule":Str)),false),((("NoNumber":Str),("Ended":Str)),false),((("NoNumber":Str),("NoBottom":Str)),false),((("NoNumber":Str),("NoRoot":Str)),false),((("NoNumber":Str),("NoCube":Str)),false),((("NoNumber":Str),("NoSize":Str)),false),((("NoNumber":Str),("NoNumber":Str)),true),((("NoNumber":Str),("TooMany":Str)),false),((("NoNumber":Str),("NoTable":Str)),false),((("NoNumber":Str),("NoTuple":Str)),false),((("NoNumber":Str),("NotAlike":Str)),false),((("NoNumber":Str),("NotFair":Str)),false),((("NoNumber":Str),("NoText":Str)),false),((("NoNumber":Str),("NoStep":Str)),false),((("NoNumber":Str),("NoDeed":Str)),false),((("NoNumber":Str),("NoRow":Str)),false),((("NoRule":Str),("NoLot":Str)),false),((("NoRule":Str),("NoRule":Str)),true),((("NoRule":Str),("Ended":Str)),false),((("NoRule":Str),("NoBottom":Str)),false),((("NoRule":Str),("NoRoot":Str)),false),((("NoRule":Str),("NoCube":Str)),false),((("NoRule":Str),("NoSize":Str)),false),((("NoRule":Str),("NoNumber":Str)),false),((("NoRule":Str),("TooMany":Str)),false),((("NoRule":Str),("NoTable":Str)),false),((("NoRule":Str),("NoTuple":Str)),false),((("NoRule":Str),("NotAlike":Str)),false),((("NoRule":Str),("NotFair":Str)),false),((("NoRule":Str),("NoText":Str)),false),((("NoRule":Str),("NoStep":Str)),false),((("NoRule":Str),("NoDeed":Str)),false),((("NoRule":Str),("NoRow":Str)),false),((("NoBottom":Str),("DrawError":Str)),true),((("NoLot":Str),("DrawError":Str)),true),((("NoNumber":Str),("DrawError":Str)),true),((("NoRule":Str),("DrawError":Str)),true)]⟩
def qv:Program:=W.view PySem.Challenge.pw_drawndown_k44_no_nearest [80]
def looseQ:List Str:=[("DrawError":Str),("NoLot":Str),("NoTable":Str),("NoTuple":Str),("NotAlike":Str),("NotFair":Str),("NoText":Str),("NoRule":Str),("Ended":Str),("NoBottom":Str),("NoRoot":Str),("NoCube":Str),("NoSize":Str),("NoNumber":Str),("TooMany":Str),("NoStep":Str),("NoDeed":Str),("NoRow":Str),("LEAST_SIZE":Str),("MOST_SIZE":Str),("is_whole":Str),("are_wholes":Str),("has_size":Str),("want_number":Str),("is_lot":Str),("want_lot":Str),("has_ended":Str),("is_table":Str),("want_table":Str),("multiplied":Str),("together":Str),("lines_times":Str),("like_places":Str),("growing_products":Str),("columns_of":Str),("greatest_and_others":Str),("least_place":Str),("all_but":Str),("by_next":Str),("by_least":Str),("by_all":Str),("by_turn":Str),("RULES":Str),("is_rule":Str),("want_rule":Str),("want_rule_and_lot":Str),("want_step":Str),("step":Str),("step_table":Str),("division":Str),("moved":Str),("run":Str),("tables_of":Str),("products_of":Str),("MOST_BOTTOM":Str),("MOST_RECORDS":Str),("want_bottom":Str),("tops":Str),("nearest_whole":Str),("errors":Str),("worst":Str),("records":Str),("columns":Str),("_law_cell_at":Str),("_law_pot":Str),("_law_take":Str),("_law_kind_of":Str),("_law_lot":Str),("_law_rules":Str),("_law_parts":Str),("_law_no_lot":Str),("_law_told":Str),("_law_no_rule":Str)]
def lvQ:List (Str×W.WData):=[(("MOST_BOTTOM":Str),.int (10 ^ 12))]
def xtQ:Shared->Bool:=fun s=>W.xlAt qv lvQ s&&W.recOk (W.RowW.records (W.OpenRow.toRowW (W.OpenLaw.row PySem.Challenge.rw_drawndown_k44_no_nearest))) s
theorem zkT:∀ w:World,W.absHeap (zhD w.params) 11 (W.boot_heap w.params).life=W.boot_heap w.params:=by
 intro w;kernel_rfl
theorem bsz:∀ w:World,((W.boot_heap w.params).isNs mainGlobals&&(Array.mk []:Array GenState).size==0,(W.boot_heap w.params).objs.size,(W.boot_heap w.params).nsMap mainGlobals "__annotations__")=(true,11,(some (.ref 6))):=by
 intro w;kernel_rfl
def ziO(w v:World)(os:OsState):Option W.SharedT:=z2Y treeTable PySem.Challenge.pw_drawndown_k44_no_nearest v 11 (some (.ref 6)) 11038 ⟨zhD w.params,11,(W.boot_heap w.params).life,Array.mk [],W.boot_drawn,W.boot_toks,os⟩ (W.topStub PySem.Challenge.pw_drawndown_k44_no_nearest)
def zhK(w:World)(s:W.SharedT):Bool:=W.staticsOk (importedModules PySem.Challenge.pw_drawndown_k44_no_nearest.main.body) (W.boot_heap w.params) s.abs.heap&&W.namesBound PySem.Challenge.pw_drawndown_k44_no_nearest s.abs.heap&&W.gensDone s.abs&&W.laidKept (W.boot_heap w.params) s.abs.heap
def seenQ(s:Shared):=W.openSeen qv looseQ (importedModules PySem.Challenge.pw_drawndown_k44_no_nearest.main.body) xtQ true s
set_option maxRecDepth 1000000 in
theorem z6B:∀ (w:World)(os:OsState),(ziO w (w.withFollow "special-get-raises" false) os).map (fun s=>(zhK w s,obsS askQ s.abs))=some (true,valS askQ (w.withFollow "special-get-raises" false)):=by
 intro w os;kernel_rfl
set_option maxRecDepth 1000000 in
theorem z5Z:∀ (w:World)(os:OsState),(ziO w (w.withFollow "special-get-raises" false) os).map (fun s=>seenQ s.abs)=some (W.openGood qv looseQ):=by
 intro w os;kernel_rfl
set_option maxRecDepth 1000000 in
theorem z7x:∀ (w:World)(os:OsState),(ziO w (w.withFollow "special-get-raises" true) os).map (fun s=>(zhK w s,obsS askQ s.abs))=some (true,valS askQ (w.withFollow "special-get-raises" true)):=by
 intro w os;kernel_rfl
set_option maxRecDepth 1000000 in
theorem z78:∀ (w:World)(os:OsState),(ziO w (w.withFollow "special-get-raises" true) os).map (fun s=>seenQ s.abs)=some (W.openGood qv looseQ):=by
 intro w os;kernel_rfl
end K44
namespace L2
open PySem.Spec
abbrev Key:=Sum Int Str
def z5n:Key->Value->Bool
 | .inl k,v=>Value.isInt k v | .inr x,v=>Value.isStrOf x v
def zlr(w:World):Key->Int
 | .inl k=>hashInt k | .inr x=>hashStr w x
theorem yB:∀ {k:Key} {v:Value},z5n k v=true->(∃ i t,k=Sum.inl i/\v=Value.int i t)\/(∃ x t,k=Sum.inr x/\v=Value.str x t)
 | .inl i,v,h=>by
  obtain ⟨t,e⟩:=Value.isInt_shape (k:=i) (v:=v) h;exact .inl ⟨i,t,rfl,e⟩ | .inr x,v,h=>by
  obtain ⟨t,e⟩:=Value.isStrOf_shape (x:=x) (v:=v) h;exact .inr ⟨x,t,rfl,e⟩
theorem zaa(i:Int)(t:Tok):z5n (.inl i) (.int i t)=true:=by simp [z5n,Value.isInt]
theorem z3b(x:Str)(t:Tok):z5n (.inr x) (.str x t)=true:=by simp [z5n,Value.isStrOf]
theorem zhc(a b:Int):decide ((Sum.inl a:Key)=Sum.inl b)=(a==b):=by
 by_cases e:a=b;·subst e;simp
 ·have h:¬ (Sum.inl a:Key)=Sum.inl b:=fun q=>e (Sum.inl.inj q);rw [decide_eq_false h];exact (beq_eq_false_iff_ne.mpr e).symm
theorem ziz(a b:Str):decide ((Sum.inr a:Key)=Sum.inr b)=decide (a=b):=by
 by_cases e:a=b;·subst e;simp
 ·have h:¬ (Sum.inr a:Key)=Sum.inr b:=fun q=>e (Sum.inr.inj q);rw [decide_eq_false h,decide_eq_false e]
theorem zgI(a:Int)(b:Str):decide ((Sum.inl a:Key)=Sum.inr b)=false:=decide_eq_false (fun q=>nomatch q)
theorem zh9(a:Str)(b:Int):decide ((Sum.inr a:Key)=Sum.inl b)=false:=decide_eq_false (fun q=>nomatch q)
def yd(prog:Program)(w:World):PySem.KeyKind prog w Key where
 is:=z5n;hash:=zlr w;inj:=fun v a b ha hb=>by
  rcases yB ha with ⟨i,t,rfl,rfl⟩ | ⟨x,t,rfl,rfl⟩
  ·rcases yB hb with ⟨j,u,rfl,e⟩ | ⟨y,u,rfl,e⟩;·injection e with e1 _;rw [e1]
   ·exact nomatch e
  ·rcases yB hb with ⟨j,u,rfl,e⟩ | ⟨y,u,rfl,e⟩;·exact nomatch e
   ·injection e with e1 _;rw [e1]
 byValue:=fun k v h=>by rcases yB h with ⟨i,t,rfl,rfl⟩ | ⟨x,t,rfl,rfl⟩<;>rfl
 pyHash:=fun hv h=>by
  rcases yB hv with ⟨i,t,rfl,rfl⟩ | ⟨x,t,rfl,rfl⟩;·exact wpAny_pyHash_int h
  ·exact wpAny_pyHash_str h
 eqBool:=fun hu hv h=>by
  rcases yB hu with ⟨i,t,rfl,rfl⟩ | ⟨x,t,rfl,rfl⟩
  ·rcases yB hv with ⟨j,u,rfl,rfl⟩ | ⟨y,u,rfl,rfl⟩;·rw [zhc] at h;exact wpAny_eqBool_int h
   ·rw [zgI] at h;exact SeqAt.EqAt.int_str i t y u _ _ _ _ h
  ·rcases yB hv with ⟨j,u,rfl,rfl⟩ | ⟨y,u,rfl,rfl⟩;·rw [zh9] at h;exact SeqAt.EqAt.str_int x t j u _ _ _ _ h
   ·rw [ziz] at h;exact wpAny_eqBool_str h
 «strs» := fun k x t v h=>by
  rcases yB h with ⟨i,u,rfl,e⟩ | ⟨y,u,rfl,e⟩;·exact nomatch e
  ·injection e with e1 _;subst e1;cases v<;>rfl
theorem z46(prog:Program)(w:World)(k:Key)(v:Value):(yd prog w).is k v=z5n k v:=rfl
theorem z7l(prog:Program)(w:World)(i:Int)(t:Tok):(yd prog w).is (.inl i) (.int i t)=true:=zaa i t
theorem z2g(prog:Program)(w:World)(x:Str)(t:Tok):(yd prog w).is (.inr x) (.str x t)=true:=z3b x t
inductive V where | non | bl (b:Bool) | int (i:Int) | str (x:Str) | byt (b:Array UInt8) | flt (b:UInt64) | ref (a:Addr) | ty (n:String) deriving DecidableEq
def xx:V->Value->Prop
 | .non,u=>u=Value.none | .bl b,u=>u=Value.bool b | .int i,u=>∃ t,u=Value.int i t | .str x,u=>∃ t,u=Value.str x t | .byt b,u=>∃ t,u=Value.bytes b t | .flt b,u=>∃ t,u=Value.float b t | .ref a,u=>u=Value.ref a | .ty n,u=>u=Value.type n
abbrev yW:List V->List Value->Prop:=Paired xx
theorem yW.length{xs:List V}{us:List Value}(r:yW xs us):xs.length=us.length:=Paired.length r
theorem yW.get:∀ {xs:List V} {us:List Value} {i:Nat} {x:V},yW xs us->xs[i]? = some x->∃ u,us[i]? = some u/\xx x u
 | _,_,_,_,.nil,e=>by simp at e | _,_,0,_,.cons r _,e=>by simp at e;subst e;exact ⟨_,rfl,r⟩ | _,_,i+1,x,.cons _ t,e=>by
  obtain ⟨u,h1,h2⟩:=yW.get (i:=i) (x:=x) t (by simpa using e);exact ⟨u,by simpa using h1,h2⟩
theorem yW.set{x:V}{u:Value}(r:xx x u):∀ {xs:List V}{us:List Value}(i:Nat),yW xs us->yW (xs.set i x) (us.set i u)
 | _,_,_,.nil=>.nil | _,_,0,.cons _ t=>.cons r t | _,_,i+1,.cons q t=>.cons q (yW.set r i t)
theorem yW.append:∀ {xs ys:List V}{us ws:List Value},yW xs us->yW ys ws->yW (xs++ys) (us++ws)
 | _,_,_,_,.nil,s=>s | _,_,_,_,.cons r t,s=>.cons r (yW.append t s)
theorem yW.take:∀ {xs:List V}{us:List Value}(n:Nat),yW xs us->yW (xs.take n) (us.take n)
 | _,_,0,_=>.nil | _,_,_+1,.nil=>.nil | _,_,n+1,.cons r t=>.cons r (yW.take n t)
theorem yW.drop:∀ {xs:List V}{us:List Value}(n:Nat),yW xs us->yW (xs.drop n) (us.drop n)
 | _,_,0,r=>r | _,_,_+1,.nil=>.nil | _,_,n+1,.cons _ t=>yW.drop n t
def zgl:Option V->Option Value->Prop
 | some v,some u=>xx v u | none,none=>True | _,_=>False
def KV{κ:Type}:List (κ×V)->List (κ×Value)->Prop:=Paired fun (p:κ×V)(q:κ×Value)=>p.1=q.1/\xx p.2 q.2
def kV:Key->V
 | .inl i=>.int i | .inr x=>.str x
inductive HO where | lst (xs:List V) | tup (xs:List V) | dK (kvs:List (Key×V)) | dT (kvs:List (List Key×V)) | set (S:Int->Bool)(n:Nat) | ins (C dx:Addr)(fs:List (Str×V)) | own (x:Addr) | xd (fs:List (Str×V)) | met (f x:Addr) | rng (lo hi:Int) | frz (o:Obj)(u:HO) | tbl (ps:Array Value) | ext (φ:Heap->Prop)
abbrev Hp:=Addr->Option HO
def upd(H:Hp)(a:Addr)(o:HO):Hp:=fun b=>if b=a then some o else H b
theorem yg{H:Hp}{a:Addr}{o:HO}:upd H a o a=some o:=by unfold upd;rw [if_pos rfl]
theorem zF{H:Hp}{a b:Addr}{o:HO}(h:b≠a):upd H a o b=H b:=by unfold upd;rw [if_neg h]
theorem zfI{H:Hp}{a:Addr}{o u:HO}:upd (upd H a o) a u=upd H a u:=by funext b;unfold upd;split<;>rfl
theorem zjJ{H:Hp}{a b:Addr}{o u:HO}(h:H a=some o)(h':H b=some u)(d:o≠u):a≠b:=by intro e;subst e;rw [h] at h';exact d (Option.some.inj h')
theorem yT{H:Hp}{a b:Addr}{o:HO}(h:H a=some o)(h':H b=none):a≠b:=by intro e;subst e;rw [h] at h';cases h'
def zam(h:Heap)(a:Addr)(items:Array Value):Prop:=∃ o,h.get? a=some o/\o.cls=.type "tuple"/\o.dict=none/\∃ n,o.data=.seq items n
theorem zam.tup{h:Heap}{a:Addr}{items:Array Value}(x:zam h a items):IsTup h a items:=let ⟨o,e,c,_,r⟩:=x;⟨o,e,c,r⟩
theorem zam.new(h:Heap)(items:Array Value):zam (h.push {cls:=.type "tuple",data:=.seq items}) h.objs.size items:=⟨_,Heap.get?_push_size _ rfl,rfl,rfl,_,rfl⟩
theorem zam.lt{h:Heap}{a:Addr}{items:Array Value}(x:zam h a items):a<h.objs.size:=x.tup.lt
section
variable (P:Program)(w:World)
def xL(H:Hp)(h:Heap)(a:Addr):HO->Prop
 | .lst xs=>xs.length<=sizeLine/\∃ (its:List Value)(n:Nat),yW xs its/\h.get? a=some {cls:=.type "list",data:=.seq its.toArray n} | .tup xs=>xs.length<=sizeLine/\∃ its:List Value,yW xs its/\zam h a its.toArray | .dK kvs=>kvs.length<=sizeLine/\(a==sysModules)=false/\∃ vs,KV kvs vs/\h.DictOf (yd P w) a vs | .dT kvs=>kvs.length<=sizeLine/\(a==sysModules)=false/\∃ xs:List (List Key×Addr×Value), Paired (fun (p:List Key×V)(q:List Key×Addr×Value)=>p.1=q.1/\H q.2.1=some (.tup (p.1.map kV))/\xx p.2 q.2.2) kvs xs/\ ∃ o es ep,h.get? a=some o/\o.ExactDict/\o.data=.dict es ep/\es.toList=xs.map (entryOfKey (tupleKind (yd P w)))/\(xs.map (·.1)).Nodup | .set S n=>h.SetOf (intKind P w) a S n | .ins C dx fs=>H dx=some (.own a)/\fs.length<=1000/\dx≠a/\h.get? a=some (W.instObj C dx)/\ ∃ mA,h.Ns1 dx mA/\(∀ f,zgl (fs.lookup f) (mA f))/\PySem.Within mA (fs.map (·.1)) | .own _=>∃ o,h.get? a=some o | .xd fs=>∃ mA,h.Ns1 a mA/\∀ f,zgl (fs.lookup f) (mA f) | .rng lo hi=>∃ t u v,h.get? a=some {cls:=.type "range",data:=.fields #[.int lo t,.int hi u,.int 1 v]} | .frz o u=>h.get? a=some o/\xL H h a u | .tbl ps=>h.get? a=some {cls:=.none,data:=.fields ps} | .met f x=>h.get? a=some (W.methodObj (.ref f) (.ref x)) | .ext φ=>φ h/\(∃ o,h.get? a=some o)/\∀ h1 h2:Heap,φ h1->(∀ o,h1.get? a=some o->h2.get? a=some o)->φ h2
def HOk(H:Hp)(h:Heap):Prop:=∀ a o,H a=some o->xL P w H h a o
end
section
variable {P:Program}{w:World}{H H':Hp}{h h':Heap}{a:Addr}{o:HO}
theorem xL.lt(x:xL P w H h a o):a<h.objs.size:=by cases o with
 | lst xs=>obtain ⟨_,_,_,_,e⟩:=x;exact Heap.lt_size e | tup xs=>obtain ⟨_,_,_,p⟩:=x;exact p.lt | dK kvs=>obtain ⟨_,_,_,_,o,_,_,e,_⟩:=x;exact Heap.lt_size e | dT kvs=>obtain ⟨_,_,_,_,o,_,_,e,_⟩:=x;exact Heap.lt_size e | set S n=>obtain ⟨o,_,_,_,e,_⟩:=x;exact Heap.lt_size e | ins C dx fs=>obtain ⟨_,_,_,e,_⟩:=x;exact Heap.lt_size e | own y=>obtain ⟨_,e⟩:=x;exact Heap.lt_size e | xd fs=>obtain ⟨_,⟨_,_,_,e,_⟩,_⟩:=x;exact Heap.lt_size e | rng lo hi=>obtain ⟨_,_,_,e⟩:=x;exact Heap.lt_size e | frz ob u=>obtain ⟨e,_⟩:=x;exact Heap.lt_size e | tbl ps=>exact Heap.lt_size (show h.get? a=some _ from x) | met f y=>exact Heap.lt_size (show h.get? a=some _ from x) | ext φ=>obtain ⟨_,⟨_,e⟩,_⟩:=x;exact Heap.lt_size e
theorem Paired.mapP{α β:Type}{F G:α->β->Prop}:∀ {l₁:List α}{l₂:List β},Paired F l₁ l₂->(∀ a b,F a b->G a b)->Paired G l₁ l₂
 | _,_,.nil,_=>.nil | _,_,.cons r t,f=>.cons (f _ _ r) (Paired.mapP t f)
theorem xL.stay(x:xL P w H h a o)(k:∀ b u,(b=a\/H b=some (.own a))->h.get? b=some u->h'.get? b=some u) (ho:∀ b,H b=some (.own a)->H' b=some (.own a))(ht:∀ b xs,H b=some (.tup xs)->H' b=some (.tup xs)):xL P w H' h' a o:=by induction o with
 | lst xs=>obtain ⟨z,its,n,r,e⟩:=x;exact ⟨z,its,n,r,k _ _ (.inl rfl) e⟩ | tup xs=>obtain ⟨z,its,r,ob,e,c⟩:=x;exact ⟨z,its,r,ob,k _ _ (.inl rfl) e,c⟩ | dK kvs=>obtain ⟨z,y,vs,r,ob,es,ep,e,c⟩:=x;exact ⟨z,y,vs,r,ob,es,ep,k _ _ (.inl rfl) e,c⟩ | dT kvs=>
  obtain ⟨z,y,xs,r,ob,es,ep,e,c⟩:=x;exact ⟨z,y,xs,Paired.mapP r fun p q z=>⟨z.1,ht _ _ z.2.1,z.2.2⟩,ob,es,ep,k _ _ (.inl rfl) e,c⟩ | set S n=>obtain ⟨ob,es,ep,t,e,c⟩:=x;exact ⟨ob,es,ep,t,k _ _ (.inl rfl) e,c⟩ | ins C dx fs=>
  obtain ⟨d,z,ne,e,mA,⟨od,es,ep,e2,c⟩,r⟩:=x;exact ⟨ho _ d,z,ne,k _ _ (.inl rfl) e,mA,⟨od,es,ep,k _ _ (.inr d) e2,c⟩,r⟩ | own y=>obtain ⟨ob,e⟩:=x;exact ⟨ob,k _ _ (.inl rfl) e⟩ | xd fs=>obtain ⟨mA,⟨od,es,ep,e,c⟩,r⟩:=x;exact ⟨mA,⟨od,es,ep,k _ _ (.inl rfl) e,c⟩,r⟩ | rng lo hi=>obtain ⟨t,u,v,e⟩:=x;exact ⟨t,u,v,k _ _ (.inl rfl) e⟩ | frz ob u ih=>obtain ⟨e,q⟩:=x;exact ⟨k _ _ (.inl rfl) e,ih q⟩ | tbl ps=>
  have e:h.get? a=some {cls:=.none,data:=.fields ps}:=x;show h'.get? a=some {cls:=.none,data:=.fields ps};exact k a _ (.inl rfl) e | met f y=>
  have e:h.get? a=some (W.methodObj (.ref f) (.ref y)):=x;show h'.get? a=some (W.methodObj (.ref f) (.ref y));exact k a _ (.inl rfl) e | ext φ=>obtain ⟨p,⟨o,e⟩,st⟩:=x;exact ⟨st _ _ p fun o q=>k _ _ (.inl rfl) q,⟨o,k _ _ (.inl rfl) e⟩,st⟩
theorem HOk.lt(x:HOk P w H h)(e:H a=some o):a<h.objs.size:=(x a o e).lt
theorem HOk.fresh(x:HOk P w H h)(e:h.objs.size<=a):H a=none:=by cases q:H a with
 | none=>rfl | some u=>exact absurd (Nat.lt_of_lt_of_le (x.lt q) e) (Nat.lt_irrefl _)
theorem HOk.kept(x:HOk P w H h)(k:∀ b u,h.get? b=some u->h'.get? b=some u):HOk P w H h':=fun a o e=> (x a o e).stay (fun b u _ q=>k b u q) (fun _ q=>q) fun _ _ q=>q
theorem HOk.laid(x:HOk P w H h)(k:∀ b u,h.get? b=some u->h'.get? b=some u)(hp:h.objs.size<=a)(new:xL P w (upd H a o) h' a o):HOk P w (upd H a o) h':=fun b u e=>by
 have hn:=x.fresh hp;by_cases hb:b=a;·subst hb;rw [yg] at e;cases e;exact new
 ·rw [zF hb] at e;exact (x b u e).stay (fun c v _ q=>k c v q) (fun c q=>by rw [zF (yT q hn)];exact q) fun c xs q=>by rw [zF (yT q hn)];exact q
end
def Rd(H:Hp)(a:Addr)(u:HO):Prop:=H a=some u\/∃ o,H a=some (.frz o u)
theorem Rd.ok{P:Program}{w:World}{H:Hp}{h:Heap}{a:Addr}{u:HO}(r:Rd H a u)(x:HOk P w H h):xL P w H h a u:=by
 rcases r with r | ⟨o,r⟩;·exact x a u r
 ·obtain ⟨_,q⟩:=x a _ r;exact q
def Mut:Option HO->Prop
 | some (.lst _)=>True | some (.dK _)=>True | some (.dT _)=>True | some (.set _ _)=>True | some (.ins _ _ _)=>True | some (.ext _)=>True | _=>False
section
variable {P:Program}{w:World}{H:Hp}{h h':Heap}{x e:Addr}{o':HO}
theorem HOk.write(ok:HOk P w H h)(mu:Mut (H x))(he:e=x\/H e=some (.own x))(k:∀ b u,b≠e->h.get? b=some u->h'.get? b=some u)(heo:∃ u,h'.get? e=some u) (new:xL P w (upd H x o') h' x o'):HOk P w (upd H x o') h':=fun b u q=>by
 have nown:∀ c y,H c=some (.own y)->c≠x:=fun c y r z=>by subst z;rw [r] at mu;exact mu
 have ntup:∀ c xs,H c=some (.tup xs)->c≠x:=fun c xs r z=>by subst z;rw [r] at mu;exact mu
 by_cases hb:b=x;·subst hb;rw [yg] at q;cases q;exact new
 ·rw [zF hb] at q;by_cases hbe:b=e
  ·have q':H b=some (.own x):=by
    rcases he with z | z;·exact absurd (hbe.trans z) hb
    ·rw [hbe];exact z
   rw [q] at q';cases q';obtain ⟨v,hv⟩:=heo;exact ⟨v,by rw [hbe];exact hv⟩
  ·refine (ok b u q).stay (fun c v hc r=>k c v ?_ r) (fun c r=>by rw [zF (nown c b r)];exact r) fun c xs r=>by rw [zF (ntup c xs r)];exact r
   rcases hc with rfl | hc;·exact hbe
   ·rintro rfl;rcases he with z | z;·exact nown c b hc z
    ·rw [hc] at z;cases z;exact hb rfl
end
structure Un(fs ex:List Addr)(H H':Hp)(h h':Heap):Prop where
 keep:∀ b o,h.get? b=some o->H b=none->b∉fs->b∉ex->h'.get? b=some o
 slot:∀ b o,h.get? b=some o->H b=none->b∈fs->b∉ex->∃ sl,h'.get? b=some {o with slots:=sl}
 free:∀ b o,h.get? b=some o->H b=none->b∉ex->H' b=none
 there:∀ b o,h.get? b=some o->b∉ex->∃ o',h'.get? b=some o'
 tups:∀ b xs,H b=some (.tup xs)->H' b=some (.tup xs)
 frzs:∀ b o u,H b=some (.frz o u)->H' b=some (.frz o u)
 tbls:∀ b ps,H b=some (.tbl ps)->∃ more,H' b=some (.tbl (ps++more))
section
variable {fs fs' ex ex':List Addr}{H H1 H2:Hp}{h h1 h2 h':Heap}{a x e:Addr}{o:HO}
theorem Un.any(u:Un fs ex H H1 h h1){b:Addr}{ob:Obj}(q:h.get? b=some ob)(n:H b=none)(hx:b∉ex):∃ sl,h1.get? b=some {ob with slots:=sl}:=by
 by_cases hb:b∈fs;·exact u.slot b ob q n hb hx
 ·exact ⟨ob.slots,u.keep b ob q n hb hx⟩
theorem Un.kept(k:∀ b u,h.get? b=some u->h'.get? b=some u):Un fs ex H H h h':= ⟨fun b ob q _ _ _=>k b ob q,fun b ob q _ _ _=>⟨ob.slots,k b ob q⟩,fun _ _ _ n _=>n,fun b ob q _=>⟨ob,k b ob q⟩,fun _ _ q=>q,fun _ _ _ q=>q,fun _ ps q=>⟨#[],by rw [q];simp⟩⟩
theorem Un.refl:Un fs ex H H h h:=Un.kept fun _ _ q=>q
theorem Un.laid(k:∀ b u,h.get? b=some u->h'.get? b=some u)(hp:h.objs.size<=a)(hn:H a=none):Un fs ex H (upd H a o) h h' where
 keep:=fun b u q _ _ _=>k b u q;slot:=fun b u q _ _ _=>⟨u.slots,k b u q⟩;free:=fun b u q n _=>by rw [zF (Nat.ne_of_lt (Nat.lt_of_lt_of_le (Heap.lt_size q) hp))];exact n
 there:=fun b u q _=>⟨u,k b u q⟩;tups:=fun b xs q=>by rw [zF (yT q hn)];exact q
 frzs:=fun b u xs q=>by rw [zF (yT q hn)];exact q
 tbls:=fun b ps q=>⟨#[],by rw [zF (yT q hn),q];simp⟩
theorem Un.write(mu:Mut (H x))(he:e=x\/H e=some (.own x))(k:∀ b u,b≠e->h.get? b=some u->h'.get? b=some u)(heo:∃ u,h'.get? e=some u):Un fs ex H (upd H x o) h h':=by
 have hx:∀ b,H b=none->b≠x:=fun b n z=>by subst z;rw [n] at mu;exact mu
 have hb:∀ b,H b=none->b≠e:=fun b n z=>by
  subst z;rcases he with r | r;·exact hx b n r
  ·rw [n] at r;cases r
 have hm:∀ b u,H b=some u->¬ Mut (some u)->b≠x:=fun b u q nm z=>by subst z;rw [q] at mu;exact nm mu
 refine ⟨fun b u q n _ _=>k b u (hb b n) q,fun b u q n _ _=>⟨u.slots,k b u (hb b n) q⟩,fun b u q n _=>by rw [zF (hx b n)];exact n,fun b u q _=>?_, fun b xs q=>by rw [zF (hm b _ q fun z=>z)];exact q,fun b u xs q=>by rw [zF (hm b _ q fun z=>z)];exact q,fun b ps q=>⟨#[],by rw [zF (hm b _ q fun z=>z),q];simp⟩⟩;by_cases hbe:b=e;·subst hbe;exact heo
 ·exact ⟨u,k b u hbe q⟩
end
def trk(h:Heap)(H:Hp):List Addr:=(List.range h.objs.size).filter fun a=>(H a).isSome
def zcB(h:Heap)(H:Hp):Heap:=W.hideAll h (trk h H)
theorem z9Z(h:Heap)(H:Hp):(zcB h H).objs.size=h.objs.size:=W.hideAll_size _ _
theorem zdm{h:Heap}{H:Hp}{b:Addr}{o:Obj}(e:h.get? b=some o)(n:H b=none):(zcB h H).get? b=some o:= W.hideAll_get _ e fun hm=>by
  have q:(H b).isSome=true:=(List.mem_filter.mp hm).2;rw [n] at q;simp at q
theorem zet{h:Heap}{H:Hp}{b:Addr}{o:Obj}(e:(zcB h H).get? b=some o):h.get? b=some o/\H b=none:=by
 have e':h.get? b=some o:=W.of_hideAll (trk h H) e;refine ⟨e',?_⟩;cases q:H b with
 | none=>rfl | some x=>
  have hm:b∈trk h H:=List.mem_filter.mpr ⟨List.mem_range.mpr (Heap.lt_size e'),by simp [q]⟩;have z:(zcB h H).get? b=none:=W.hideAll_none (trk h H) hm;rw [z] at e;cases e
def zfg(g h:Heap)(L:Addr):List (Addr×Obj):=(List.range h.objs.size).filterMap fun a=>if a=L\/(g.get? a).isSome=true then none else (h.get? a).map fun o=>(a,o)
def rest(g h:Heap)(L d:Addr):List (Addr×Obj):=(zfg g h L).filter fun p=>decide (p.1≠d)
structure Mod(K:W.Frag)(mg:Str->Option Value)(base:Heap):Prop where
 kin:K.In base
 glob:base.Ns mainGlobals mg
 blt:∃ mb,base.Ns builtinsNs mb/\∀ x:Str,x≠"__name__"->mb x=bootBuiltins x
 nolimit:base.NoLimit
structure Cx where
 prog:Program
 w:World
 K:W.Frag
 mg:Str->Option Value
 base:Heap
 A:Around
 N:List Str
 s₀:Shared
 H₀:Hp
 env:Env
 outer:List Env
 stack:List Env
 ex:List Addr
 fn:Str->Bool
 calm:Bool
 pn:List (Addr×Obj)
 xe:Value->Shared->Prop
def frs(l:List Env):List Addr:=l.filterMap (·.frame)
abbrev Cx.fs(X:Cx):List Addr:=frs X.outer
def Vis(sc:Scope)(x:Str):Prop:=sc.names.lookup x=some .local\/sc.names.lookup x=some .cell\/sc.names.lookup x=some .free
def Loc(sc:Scope)(x:Str):Prop:=sc.names.lookup x=some .local\/sc.names.lookup x=some .cell
def zlk(env:Env)(h:Heap)(m:Str->Option Value)(x:Str)(u:Value):Prop:= (env.kindOf x=some .local/\m x=some u)\/((env.kindOf x=some .cell\/env.kindOf x=some .free)/\∃ c,env.cells.lookup x=some c/\h.IsCell c (some u))
structure Cx.Ok(X:Cx):Prop where
 mod:Mod X.K X.mg X.base
 kind:X.env.scope.kind=.function
 glob:X.env.globals=mainGlobals
 blt:X.env.builtins=builtinsNs
 above:X.s₀.heap.objs.size<=X.env.locals
 inj:∀ x y c,X.env.cells.lookup x=some c->X.env.cells.lookup y=some c->x=y
 has:∀ x,(X.env.kindOf x=some .cell\/X.env.kindOf x=some .free)->∃ c,X.env.cells.lookup x=some c
 cab:∀ x c,X.fn x=true->X.env.cells.lookup x=some c->X.s₀.heap.objs.size<=c
 hd:X.calm=true->X.A.handled=none
 frames:X.A.frames=some X.stack
 stk:X.stack=X.outer\/(X.stack=X.env::X.outer/\X.env.frame=some X.env.locals)
 exf:∀ b∈X.ex,b≠X.env.locals/\∀ x c,X.env.cells.lookup x=some c->c≠b
 bs:∀ b o,X.base.get? b=some o->X.s₀.heap.get? b=some o/\X.H₀ b=none
 bsz:X.base.objs.size<=X.s₀.heap.objs.size
 noex:∀ b o,X.base.get? b=some o->b∉X.ex
 exfs:∀ b∈X.ex,b∉X.fs
 funs:X.s₀.heap.FunFrames X.base X.outer
 frf:∀ b∈X.fs,X.H₀ b=none
structure Inv(X:Cx)(pins:List (Addr×Obj))(O:List (Option V))(H:Hp)(s:Shared):Prop where
 ok:X.Ok
 os:s.os=X.s₀.os
 bare:AllBare s.gens
 base:Un X.fs X.ex X.H₀ H X.s₀.heap s.heap
 loc:∃ m,s.heap.Ns X.env.locals m/\∀ (i:Nat)(x:Str)(v:V),X.N[i]? = some x->O[i]? = some (some v)->Vis X.env.scope x->∃ u,xx v u/\zlk X.env s.heap m x u
 cell:∀ x c,X.env.cells.lookup x=some c->∃ v,s.heap.IsCell c v
 free:H X.env.locals=none
 freeC:∀ x c,X.env.cells.lookup x=some c->H c=none
 pin:∀ p∈X.pn++pins,s.heap.get? p.1=some p.2/\H p.1=none/\p.1≠X.env.locals/\p.1∉X.fs/\∀ v,p.2.data≠.cell v
 hok:HOk X.prog X.w H s.heap
 len:O.length=X.N.length
section
variable {X:Cx}{pins:List (Addr×Obj)}{O:List (Option V)}{H H':Hp}{s:Shared}{h':Heap}
theorem Cx.Ok.nofr(ok:X.Ok){b:Addr}{o:Obj}(e:X.base.get? b=some o):b∉X.fs:=fun hb=>by
 have:=(ok.funs.mem hb).1;rw [e] at this;cases this
theorem Inv.bs(I:Inv X pins O H s):∀ b o,X.base.get? b=some o->s.heap.get? b=some o/\H b=none:=fun b o e=> ⟨I.base.keep b o (I.ok.bs b o e).1 (I.ok.bs b o e).2 (I.ok.nofr e) (I.ok.noex b o e),I.base.free b o (I.ok.bs b o e).1 (I.ok.bs b o e).2 (I.ok.noex b o e)⟩
theorem Inv.bk(I:Inv X pins O H s):∀ b o,X.base.get? b=some o->s.heap.get? b=some o:=fun b o e=>(I.bs b o e).1
theorem Inv.mod(I:Inv X pins O H s):Mod X.K X.mg X.base:=I.ok.mod
theorem Inv.kIn(I:Inv X pins O H s):X.K.In s.heap:=I.ok.mod.kin.keeps I.bk
theorem Inv.fr(I:Inv X pins O H s):∃ m,Fr X.base X.env.locals s.heap m:= let ⟨m,hn,_⟩:=I.loc;⟨m,hn,I.bk,Nat.le_trans I.ok.bsz I.ok.above⟩
theorem Inv.lt(I:Inv X pins O H s):X.env.locals<s.heap.objs.size:=let ⟨_,hn,_⟩:=I.loc;hn.lt
theorem Inv.sz(I:Inv X pins O H s):X.s₀.heap.objs.size<=s.heap.objs.size:=Nat.le_trans I.ok.above (Nat.le_of_lt I.lt)
theorem Inv.nofs(I:Inv X pins O H s){a:Addr}(h:s.heap.objs.size<=a):a∉X.fs:=fun hb=>by
 obtain ⟨_,o,ho,_⟩:=I.ok.funs.mem hb;exact absurd (Nat.lt_of_lt_of_le (Heap.lt_size ho) (Nat.le_trans I.sz h)) (Nat.lt_irrefl _)
theorem Inv.cne(I:Inv X pins O H s):∀ x c,X.env.cells.lookup x=some c->c≠X.env.locals:=fun x c e z=>by
 obtain ⟨v,o,ho,hd⟩:=I.cell x c e;obtain ⟨m,⟨o',es,ep,ho',hd',_⟩,_⟩:=I.loc;rw [z,ho'] at ho;cases ho;rw [hd'] at hd;cases hd
theorem Inv.funs(I:Inv X pins O H s):s.heap.FunFrames X.base X.outer:=by
 have all:∀ (l:List Env),(∀ b∈frs l,b∈X.fs)->X.s₀.heap.FunFrames X.base l->s.heap.FunFrames X.base l:=by
  intro l;induction l with
  | nil=>intro _ _;trivial | cons env r ih=>
   intro hs hl;obtain ⟨hk,⟨L,o,hf,hn,ho,hd⟩,hr⟩:=hl;have hL:L∈X.fs:=hs L (by unfold frs;rw [List.filterMap_cons,hf];exact List.mem_cons_self);obtain ⟨sl,e⟩:=I.base.slot L o ho (I.ok.frf L hL) hL fun z=>I.ok.exfs L z hL;exact ⟨hk,⟨L,_,hf,hn,e,hd⟩,ih (fun b hb=>hs b (by unfold frs;rw [List.filterMap_cons,hf];exact List.mem_cons_of_mem _ hb)) hr⟩
 exact all X.outer (fun _ hb=>hb) I.ok.funs
theorem Inv.stack(I:Inv X pins O H s):s.heap.FunFrames X.base X.stack:=by
 rcases I.ok.stk with e | ⟨e,hf⟩;·rw [e];exact I.funs
 ·rw [e];obtain ⟨m,hn,_⟩:=I.loc;refine .cons (by rw [I.ok.kind];decide) hf hn ?_ I.funs;exact Heap.get?_none_of_le (Nat.le_trans I.ok.bsz I.ok.above)
theorem Inv.stkSub(I:Inv X pins O H s):∀ b∈frs X.stack,b∈X.env.locals::X.fs:=fun b hb=>by
 rcases I.ok.stk with e | ⟨e,hf⟩;·rw [e] at hb;exact List.mem_cons_of_mem _ hb
 ·rw [e] at hb;unfold frs at hb;rw [List.filterMap_cons,hf] at hb;exact hb
theorem Inv.stkFree(I:Inv X pins O H s):∀ b∈frs X.stack,H b=none:=fun b hb=>by
 rcases List.mem_cons.mp (I.stkSub b hb) with e | hb;·rw [e];exact I.free
 ·obtain ⟨_,o,ho,_⟩:=I.ok.funs.mem hb;exact I.base.free b o ho (I.ok.frf b hb) fun z=>I.ok.exfs b z hb
theorem Inv.step{g':Array GenState}{t':Nat}{d':Drawn}{ch:List Addr}(I:Inv X pins O H s) (hch:∀ b∈ch,(b∈X.ex\/X.s₀.heap.objs.size<=b)/\b≠X.env.locals/\(∀ x c,X.env.cells.lookup x=some c->c≠b)/\∀ p∈X.pn++pins,p.1≠b) (keep:∀ b o,b≠X.env.locals->b∉X.fs->b∉ch->s.heap.get? b=some o->H b=none->h'.get? b=some o) (slot:∀ b o,b≠X.env.locals->b∈X.fs->b∉ch->s.heap.get? b=some o->H b=none->∃ sl,h'.get? b=some {o with slots:=sl})(free:∀ b o,b∉ch->s.heap.get? b=some o->H b=none->H' b=none) (there:∀ b o,b∉ch->s.heap.get? b=some o->∃ o',h'.get? b=some o') (tups:∀ b xs,H b=some (.tup xs)->H' b=some (.tup xs))(frzs:∀ b o u,H b=some (.frz o u)->H' b=some (.frz o u))(tbls:∀ b ps,H b=some (.tbl ps)->∃ more,H' b=some (.tbl (ps++more))) (ns:∀ m,s.heap.Ns X.env.locals m->h'.Ns X.env.locals m)(hok:HOk X.prog X.w H' h')(hg:AllBare g'): Inv X pins O H' {s with heap:=h',gens:=g',drawn:=d',toks:=t'}:=by
 have neL:∀ b o,X.s₀.heap.get? b=some o->b≠X.env.locals:=fun b o e=>Nat.ne_of_lt (Nat.lt_of_lt_of_le (Heap.lt_size e) I.ok.above);have neC:∀ b o,X.s₀.heap.get? b=some o->b∉X.ex->b∉ch:=fun b o e hx hb=>by
  rcases (hch b hb).1 with z | z;·exact hx z
  ·exact absurd (Nat.lt_of_lt_of_le (Heap.lt_size e) z) (Nat.lt_irrefl _)
 have cellK:∀ x c,X.env.cells.lookup x=some c->∀ v,s.heap.IsCell c v->h'.IsCell c v:=fun x c e v ⟨o,ho,hd⟩=>by
  have nch:c∉ch:=fun z=>(hch c z).2.2.1 x c e rfl;by_cases hc:c∈X.fs
  ·obtain ⟨sl,q⟩:=slot c o (I.cne x c e) hc nch ho (I.freeC x c e);exact ⟨_,q,hd⟩
  ·exact ⟨o,keep c o (I.cne x c e) hc nch ho (I.freeC x c e),hd⟩
 refine ⟨I.ok,I.os,hg,⟨fun b o e n hb hx=>?_,fun b o e n hb hx=>?_,fun b o e n hx=>?_,fun b o e hx=>?_,fun b xs e=>tups b xs (I.base.tups b xs e),fun b o xs e=>frzs b o xs (I.base.frzs b o xs e),fun b ps e=>?_⟩,?_,fun x c e=>?_,?_,fun x c e=>?_,fun p hp=>?_,hok,I.len⟩;·exact keep b o (neL b o e) hb (neC b o e hx) (I.base.keep b o e n hb hx) (I.base.free b o e n hx)
 ·obtain ⟨sl,e1⟩:=I.base.slot b o e n hb hx;obtain ⟨sl',e2⟩:=slot b _ (neL b o e) hb (neC b o e hx) e1 (I.base.free b o e n hx);exact ⟨sl',e2⟩
 ·obtain ⟨o',e1⟩:=I.base.there b o e hx;exact free b o' (neC b o e hx) e1 (I.base.free b o e n hx)
 ·obtain ⟨o',e1⟩:=I.base.there b o e hx;exact there b o' (neC b o e hx) e1
 ·obtain ⟨m1,e1⟩:=I.base.tbls b ps e;obtain ⟨m2,e2⟩:=tbls b _ e1;exact ⟨m1++m2,by rw [e2,Array.append_assoc]⟩
 ·obtain ⟨m,hn,hl⟩:=I.loc;refine ⟨m,ns m hn,fun i x v e1 e2 e3=>?_⟩;obtain ⟨u,r,l⟩:=hl i x v e1 e2 e3;refine ⟨u,r,?_⟩;rcases l with l | ⟨k,c,e,z⟩;·exact .inl l
  ·exact .inr ⟨k,c,e,cellK x c e _ z⟩
 ·obtain ⟨v,z⟩:=I.cell x c e;exact ⟨v,cellK x c e v z⟩
 ·obtain ⟨m,⟨o,_,_,ho,_⟩,_⟩:=I.loc;exact free _ o (fun z=>(hch _ z).2.1 rfl) ho I.free
 ·obtain ⟨v,o,ho,hd⟩:=I.cell x c e;exact free c o (fun z=>(hch c z).2.2.1 x c e rfl) ho (I.freeC x c e)
 ·obtain ⟨e,n,ne,nf,d⟩:=I.pin p hp;have nch:p.1∉ch:=fun z=>(hch p.1 z).2.2.2 p hp rfl;exact ⟨keep p.1 p.2 ne nf nch e n,free p.1 p.2 nch e n,ne,nf,d⟩
theorem Inv.un {t':Nat} (I:Inv X pins O H s) (u:Un X.fs [] H H' s.heap h') (hok:HOk X.prog X.w H' h'):Inv X pins O H' {s with heap:=h',toks:=t'}:=by
 obtain ⟨m,⟨o,es,ep,ho,r⟩,_⟩:=id I.loc;obtain ⟨sl,hL⟩:=u.any ho I.free (by simp);exact I.step (g':=s.gens) (d':=s.drawn) (ch:=[]) (fun _ z=>nomatch z) (fun b o _ hb _ e n=>u.keep b o e n hb (by simp)) (fun b o _ hb _ e n=>u.slot b o e n hb (by simp)) (fun b o _ e n=>u.free b o e n (by simp)) (fun b o _ e=>u.there b o e (by simp)) u.tups u.frzs u.tbls (fun m' hm=>by
  obtain ⟨o',es',ep',ho',r'⟩:=hm;rw [ho] at ho';cases ho';exact ⟨_,es',ep',hL,r'⟩) hok I.bare
theorem Inv.call{g':Array GenState}{t':Nat}{d':Drawn}{ch:List Addr}(I:Inv X pins O H s)(u:Un (frs X.stack) ch H H' s.heap h')(hok:HOk X.prog X.w H' h')(hg:AllBare g') (hch:∀ b∈ch,(b∈X.ex\/X.s₀.heap.objs.size<=b)/\b≠X.env.locals/\(∀ x c,X.env.cells.lookup x=some c->c≠b)/\∀ p∈X.pn++pins,p.1≠b): Inv X pins O H' {s with heap:=h',gens:=g',drawn:=d',toks:=t'}:=by
 obtain ⟨m,⟨o,es,ep,ho,r⟩,_⟩:=id I.loc;obtain ⟨sl,hL⟩:=u.any ho I.free fun z=>(hch _ z).2.1 rfl;exact I.step (ch:=ch) hch (fun b o hL hb hc e n=>u.keep b o e n (fun z=>(List.mem_cons.mp (I.stkSub b z)).elim hL hb) hc) (fun b o _ _ hc e n=>u.any e n hc) (fun b o hc e n=>u.free b o e n hc) (fun b o hc e=>u.there b o e hc) u.tups u.frzs u.tbls (fun m' hm=>by
  obtain ⟨o',es',ep',ho',r'⟩:=hm;rw [ho] at ho';cases ho';exact ⟨_,es',ep',hL,r'⟩) hok hg
theorem Inv.turned {t':Nat} {it:Addr} (I:Inv X pins O H s) (k:∀ b o,b≠it->s.heap.get? b=some o->h'.get? b=some o) (hn:H it=none) (hL:it≠X.env.locals) (h1:it∈X.ex\/X.s₀.heap.objs.size<=it) (h2:∀ x c,X.env.cells.lookup x=some c->c≠it) (h3:∀ p∈X.pn++pins,p.1≠it):Inv X pins O H {s with heap:=h',toks:=t'}:=by
 have nit:∀ b u,H b=some u->b≠it:=fun b u e z=>by rw [z,hn] at e;cases e
 refine I.step (g':=s.gens) (d':=s.drawn) (ch:=[it]) (fun b hb=>?_) (fun b o _ _ hc e _=>k b o (fun z=>hc (by simp [z])) e) (fun b o _ _ hc e _=>⟨o.slots,k b o (fun z=>hc (by simp [z])) e⟩) (fun _ _ _ _ n=>n) (fun b o hc e=>⟨o,k b o (fun z=>hc (by simp [z])) e⟩) (fun _ _ e=>e) (fun _ _ _ e=>e) (fun b ps e=>⟨#[],by rw [e];simp⟩) (fun m hm=>?_) (fun b u e=>?_) I.bare
 ·have e:b=it:=by simpa using hb
  subst e;exact ⟨h1,hL,h2,h3⟩
 ·obtain ⟨o,es,ep,ho,r⟩:=hm;exact ⟨o,es,ep,k _ o (Ne.symm hL) ho,r⟩
 ·refine (I.hok b u e).stay (fun c v hc q=>k c v ?_ q) (fun _ q=>q) fun _ _ q=>q;rcases hc with z | z;·rw [z];exact nit b u e
  ·exact nit c _ z
theorem Inv.tok (I:Inv X pins O H s) (t:Nat):Inv X pins O H {s with toks:=t}:=I.un (h':=s.heap) (t':=t) Un.refl I.hok
theorem Inv.kept{t':Nat}(I:Inv X pins O H s)(k:∀ b u,s.heap.get? b=some u->h'.get? b=some u):Inv X pins O H {s with heap:=h',toks:=t'}:=I.un (Un.kept k) (I.hok.kept k)
theorem Inv.laid {a:Addr} {o:HO} {t':Nat} (I:Inv X pins O H s) (k:∀ b u,s.heap.get? b=some u->h'.get? b=some u) (hp:s.heap.objs.size<=a) (new:xL X.prog X.w (upd H a o) h' a o): Inv X pins O (upd H a o) {s with heap:=h',toks:=t'}:=I.un (Un.laid k hp (I.hok.fresh hp)) (I.hok.laid k hp new)
theorem Inv.write {x e:Addr} {o:HO} {t':Nat} (I:Inv X pins O H s) (mu:Mut (H x)) (he:e=x\/H e=some (.own x)) (k:∀ b u,b≠e->s.heap.get? b=some u->h'.get? b=some u) (heo:∃ u,h'.get? e=some u) (new:xL X.prog X.w (upd H x o) h' x o):Inv X pins O (upd H x o) {s with heap:=h',toks:=t'}:=I.un (Un.write mu he k heo) (I.hok.write mu he k heo new)
theorem Inv.weak{O':List (Option V)}(I:Inv X pins O H s)(hl:O'.length=O.length)(w:∀ (i:Nat) v,O'[i]? = some (some v)->O[i]? = some (some v)):Inv X pins O' H s:= ⟨I.ok,I.os,I.bare,I.base,let ⟨m,hn,hl'⟩:=I.loc;⟨m,hn,fun i x v e1 e2 e3=>hl' i x v e1 (w i v e2) e3⟩,I.cell,I.free,I.freeC,I.pin,I.hok,hl.trans I.len⟩
theorem Inv.pins_of{pins':List (Addr×Obj)}(I:Inv X pins O H s)(h:∀ p∈pins',s.heap.get? p.1=some p.2/\H p.1=none/\p.1≠X.env.locals/\p.1∉X.fs/\∀ v,p.2.data≠.cell v):Inv X pins' O H s:= ⟨I.ok,I.os,I.bare,I.base,I.loc,I.cell,I.free,I.freeC,fun p hp=>(List.mem_append.mp hp).elim (fun z=>I.pin p (List.mem_append_left _ z)) (h p),I.hok,I.len⟩
theorem z8q{N:List Str}(hN:N.Nodup){i j:Nat}{x:Str}(a:N[i]? = some x)(b:N[j]? = some x):i=j:=by
 obtain ⟨h1,e1⟩:=List.getElem?_eq_some_iff.mp a;obtain ⟨h2,e2⟩:=List.getElem?_eq_some_iff.mp b;exact (List.getElem_inj hN).mp (e1.trans e2.symm)
theorem z2s{M:Model}{A:Around}{E:Value->Shared->Prop}{i:Nat}{x:Str}{v:V}{u:Value}{Q:Unit->Shared->Prop}(I:Inv X pins O H s)(hN:X.N.Nodup)(hi:X.N[i]? = some x)(hx:Loc X.env.scope x)(r:xx v u) (h:∀ s',Inv X pins (O.set i (some v)) H s'->(∃ a,Heap.SameBut a s.heap s'.heap/\(a=X.env.locals\/X.env.cells.lookup x=some a))->Q () s')(hf:X.fn x=true\/X.env.scope.names.lookup x=some .local:=by first | exact .inl rfl | exact .inr rfl | assumption):wpAny M A (storeName X.env x u) Q E s:=by
 obtain ⟨m,hn,hl⟩:=id I.loc;have hcls:(X.env.scope.kind==.class||(X.env.scope.kind==.module&&X.env.locals != X.env.globals))=false:=by rw [I.ok.kind];rfl
 have hiO:i<O.length:=by rw [I.len];exact (List.getElem?_eq_some_iff.mp hi).1
 have cne:=I.cne;have tracked:∀ {a:Addr}{h':Heap},(∃ o,s.heap.get? a=some o/\H a=none)->Heap.SameBut a s.heap h'->HOk X.prog X.w H h':=fun {a h'} ha hs b ob e=>by
  obtain ⟨_,_,hfree⟩:=ha;refine (I.hok b ob e).stay (fun c w' hc q=>(hs.2 c ?_).trans q) (fun _ q=>q) fun _ _ q=>q;rintro rfl;rcases hc with rfl | hc;·rw [hfree] at e;cases e
  ·rw [hfree] at hc;cases hc
 rcases hx with hk | hk
 ·refine wpAny_storeName_local hk hn (fun h' hn' hs=>?_) hcls;obtain ⟨oL,_,_,hoL,_⟩:=id hn;refine h _ ⟨I.ok,I.os,I.bare,⟨fun b o e n hb hx=>?_,fun b o e n hb hx=>?_,I.base.free,fun b o e hx=>?_,I.base.tups,I.base.frzs,I.base.tbls⟩,⟨_,hn',fun j y v' e1 e2 e3=>?_⟩,fun y c e=>?_,I.free,I.freeC,fun p hp=>?_,tracked ⟨oL,hoL,I.free⟩ hs,by simpa using I.len⟩ ⟨_,hs,.inl rfl⟩;·exact (hs.2 b (Nat.ne_of_lt (Nat.lt_of_lt_of_le (Heap.lt_size e) I.ok.above))).trans (I.base.keep b o e n hb hx)
  ·obtain ⟨sl,e1⟩:=I.base.slot b o e n hb hx;exact ⟨sl,(hs.2 b (Nat.ne_of_lt (Nat.lt_of_lt_of_le (Heap.lt_size e) I.ok.above))).trans e1⟩
  ·obtain ⟨o',e1⟩:=I.base.there b o e hx;exact ⟨o',(hs.2 b (Nat.ne_of_lt (Nat.lt_of_lt_of_le (Heap.lt_size e) I.ok.above))).trans e1⟩
  ·by_cases hj:j=i
   ·subst hj;rw [hi] at e1;cases e1;rw [List.getElem?_set_self hiO] at e2;cases e2;exact ⟨u,r,.inl ⟨hk,by simp⟩⟩
   ·rw [List.getElem?_set_ne (Ne.symm hj)] at e2;obtain ⟨u',r',q⟩:=hl j y v' e1 e2 e3;refine ⟨u',r',?_⟩;rcases q with ⟨k,e⟩ | ⟨k,c,e,z⟩
    ·refine .inl ⟨k,?_⟩;have:y≠x:=fun e=>hj (z8q hN e1 (e ▸ hi));simp [this,e]
    ·exact .inr ⟨k,c,e,z.sameBut hs (cne y c e)⟩
  ·obtain ⟨w',z⟩:=I.cell y c e;exact ⟨w',z.sameBut hs (cne y c e)⟩
  ·obtain ⟨e,n,ne,nf,d⟩:=I.pin p hp;exact ⟨(hs.2 p.1 ne).trans e,n,ne,nf,d⟩
 ·have hfn:X.fn x=true:=by
   rcases hf with z | z;·exact z
   ·rw [z] at hk;cases hk
  obtain ⟨c,hc⟩:=I.ok.has x (.inl hk);obtain ⟨w',z⟩:=I.cell x c hc;refine wpAny_storeName_cell I.ok.kind hk hc z (fun h' hc' hs=>?_);obtain ⟨oc,hoc,hocd⟩:=id z;refine h {s with heap:=h'} ⟨I.ok,I.os,I.bare,⟨fun b o e n hb hx=>?_,fun b o e n hb hx=>?_,I.base.free,fun b o e hx=>?_,I.base.tups,I.base.frzs,I.base.tbls⟩,⟨m,hn.sameBut hs (Ne.symm (cne x c hc)),fun j y v' e1 e2 e3=>?_⟩,fun y c' e=>?_,I.free,I.freeC,fun p hp=>?_,tracked ⟨oc,hoc,I.freeC x c hc⟩ hs,by simpa using I.len⟩ ⟨c,hs,.inr hc⟩;·exact (hs.2 b (Nat.ne_of_lt (Nat.lt_of_lt_of_le (Heap.lt_size e) (I.ok.cab x c hfn hc)))).trans (I.base.keep b o e n hb hx)
  ·obtain ⟨sl,e1⟩:=I.base.slot b o e n hb hx;exact ⟨sl,(hs.2 b (Nat.ne_of_lt (Nat.lt_of_lt_of_le (Heap.lt_size e) (I.ok.cab x c hfn hc)))).trans e1⟩
  ·obtain ⟨o',e1⟩:=I.base.there b o e hx;exact ⟨o',(hs.2 b (Nat.ne_of_lt (Nat.lt_of_lt_of_le (Heap.lt_size e) (I.ok.cab x c hfn hc)))).trans e1⟩
  ·by_cases hj:j=i
   ·subst hj;rw [hi] at e1;cases e1;rw [List.getElem?_set_self hiO] at e2;cases e2;exact ⟨u,r,.inr ⟨.inl hk,c,hc,hc'⟩⟩
   ·rw [List.getElem?_set_ne (Ne.symm hj)] at e2;obtain ⟨u',r',q⟩:=hl j y v' e1 e2 e3;refine ⟨u',r',?_⟩;rcases q with q | ⟨k,c',e,z'⟩;·exact .inl q
    ·refine .inr ⟨k,c',e,z'.sameBut hs ?_⟩;rintro rfl;exact hj (z8q hN e1 (I.ok.inj _ _ _ e hc ▸ hi))
  ·by_cases hcc:c'=c;·subst hcc;exact ⟨_,hc'⟩
   ·obtain ⟨w2,z2⟩:=I.cell y c' e;exact ⟨w2,z2.sameBut hs hcc⟩
  ·obtain ⟨e,n,ne,nf,d⟩:=I.pin p hp;refine ⟨(hs.2 p.1 ?_).trans e,n,ne,nf,d⟩;intro q;rw [q,hoc] at e;have q':oc=p.2:=Option.some.inj e;exact d w' (by rw [<- q'];exact hocd)
theorem kQ{M:Model}{A:Around}{E:Value->Shared->Prop}{i:Nat}{x:Str}{v:V}{u:Value}{Q:Unit->Shared->Prop}(I:Inv X pins O H s)(hN:X.N.Nodup)(hi:X.N[i]? = some x)(hx:Loc X.env.scope x)(r:xx v u) (h:∀ s',Inv X pins (O.set i (some v)) H s'->Q () s')(hf:X.fn x=true\/X.env.scope.names.lookup x=some .local:=by first | exact .inl rfl | exact .inr rfl | assumption):wpAny M A (storeName X.env x u) Q E s:= z2s I hN hi hx r (fun s' I' _=>h s' I') hf
theorem Inv.call' {s':Shared} {ch:List Addr} (I:Inv X pins O H s) (ho:s'.os=s.os) (u:Un (frs X.stack) ch H H' s.heap s'.heap) (hok:HOk X.prog X.w H' s'.heap) (hg:AllBare s'.gens) (hch:∀ b∈ch,(b∈X.ex\/X.s₀.heap.objs.size<=b)/\b≠X.env.locals/\(∀ x c,X.env.cells.lookup x=some c->c≠b)/\∀ p∈X.pn++pins,p.1≠b):Inv X pins O H' s':=by
 obtain ⟨h',g',d',t',o'⟩:=s';have e:o'=s.os:=ho;subst e;exact I.call (g':=g') (t':=t') (d':=d') u hok hg hch
end
abbrev XK:=Value->Option Addr->Hp->Prop
abbrev St:=List (Option V)
abbrev VK:=V->Hp->Prop
abbrev TE:=St->Hp->VK->Prop
abbrev TT:=St->Hp->(Bool->Hp->Prop)->Prop
abbrev TA:=St->Hp->(List V->Hp->Prop)->Prop
structure zeD where
 nx:St->Hp->Prop
 rt:VK
 bk:St->Hp->Prop:=fun _ _=>False
 ct:St->Hp->Prop:=fun _ _=>False
abbrev TS:=zeD->St->Hp->Prop
def EP(X:Cx)(pins:List (Addr×Obj))(O:St)(Q:VK)(u:Value)(s':Shared):Prop:=∃ v H',Inv X pins O H' s'/\xx v u/\Q v H'
def TP(X:Cx)(pins:List (Addr×Obj))(O:St)(Q:Bool->Hp->Prop)(b:Bool)(s':Shared):Prop:=∃ H',Inv X pins O H' s'/\Q b H'
def AP(X:Cx)(pins:List (Addr×Obj))(O:St)(Q:List V->Hp->Prop)(us:List Value)(s':Shared):Prop:=∃ vs H',Inv X pins O H' s'/\yW vs us/\Q vs H'
def SP(X:Cx)(pins:List (Addr×Obj))(D:zeD)(f:Flow)(s':Shared):Prop:= match f with
 | .next=>∃ O' H',Inv X pins O' H' s'/\D.nx O' H' | .brk=>∃ O' H',Inv X pins O' H' s'/\D.bk O' H' | .cont=>∃ O' H',Inv X pins O' H' s'/\D.ct O' H' | .ret u=>∃ v O' H',Inv X pins O' H' s'/\xx v u/\D.rt v H'
def PE(X:Cx)(e:Expr)(t:TE):Prop:= ∀ (pins:List (Addr×Obj))(s:Shared)(O:St)(H:Hp)(Q:VK),Inv X pins O H s->t O H Q->wpAny (model X.prog X.w) X.A (eval e X.env) (EP X pins O Q) X.xe s
def PT(X:Cx)(e:Expr)(t:TT):Prop:= ∀ (pins:List (Addr×Obj))(s:Shared)(O:St)(H:Hp)(Q:Bool->Hp->Prop),Inv X pins O H s->t O H Q->wpAny (model X.prog X.w) X.A (isTrue e X.env (eval e X.env)) (TP X pins O Q) X.xe s
def PW(X:Cx)(e:Expr)(t:TT):Prop:= ∀ (whole:Sem Value)(pins:List (Addr×Obj))(s:Shared)(O:St)(H:Hp)(Q:Bool->Hp->Prop),Inv X pins O H s->t O H Q->wpAny (model X.prog X.w) X.A (isTrue e X.env whole) (TP X pins O Q) X.xe s
theorem PW.pt{X:Cx}{e:Expr}{t:TT}(h:PW X e t):PT X e t:=h _
def PA(X:Cx)(es:List Expr)(t:TA):Prop:= ∀ (pos:Pos)(pins:List (Addr×Obj))(s:Shared)(O:St)(H:Hp)(Q:List V->Hp->Prop),Inv X pins O H s->t O H Q->wpAny (model X.prog X.w) X.A (spliced (backTo pos (starEach es X.env))) (AP X pins O Q) X.xe s
def PS(X:Cx)(st:Stmt)(t:TS):Prop:= ∀ (pins:List (Addr×Obj))(s:Shared)(O:St)(H:Hp)(D:zeD),Inv X pins O H s->t D O H->wpAny (model X.prog X.w) X.A (exec st X.env) (SP X pins D) X.xe s
def PSs(X:Cx)(st:List Stmt)(t:TS):Prop:= ∀ (pins:List (Addr×Obj))(s:Shared)(O:St)(H:Hp)(D:zeD),Inv X pins O H s->t D O H->wpAny (model X.prog X.w) X.A (execs st X.env) (SP X pins D) X.xe s
theorem thn{α:Type}{t:Sem α}{Q Q':α->Shared->Prop}{M:Model}{A:Around}{E:Value->Shared->Prop}{s:Shared}(h:wpAny M A t Q E s)(hQ:∀ a s,Q a s->Q' a s):wpAny M A t Q' E s:=wpAny_mono h hQ fun _ _ x=>x
section
variable {X:Cx}
theorem bin{a b:Expr}{ta tb:TE}(ha:PE X a ta)(hb:PE X b tb){pins:List (Addr×Obj)}{s:Shared}{O:St}{H:Hp}{R:V->V->Hp->Prop}(I:Inv X pins O H s)(h:ta O H fun x H1=>tb O H1 fun y H2=>R x y H2) {α:Type}{Q:α->Shared->Prop}{f:Value->Value->Sem α} (hf:∀ v u s2 x y H2,Inv X pins O H2 s2->xx x v->xx y u->R x y H2->wpAny (model X.prog X.w) X.A (f v u) Q X.xe s2): wpAny (model X.prog X.w) X.A (eval a X.env) (fun v s₁=>wpAny (model X.prog X.w) X.A (eval b X.env) (fun u s₂=>wpAny (model X.prog X.w) X.A (f v u) Q X.xe s₂) X.xe s₁) X.xe s:=by
 refine thn (ha pins s O H _ I h) fun v s1 ⟨x,H1,I1,r1,q1⟩=>?_;refine thn (hb pins s1 O H1 _ I1 q1) fun u s2 ⟨y,H2,I2,r2,q2⟩=>?_;exact hf v u s2 x y H2 I2 r1 r2 q2
def zlS(i:Nat):TE:=fun O H Q=>∃ v,O[i]? = some (some v)/\Q v H
def tC(v:V):TE:=fun _ H Q=>Q v H
theorem zdY{i:Nat}{x:Str}{pos:Pos}(hN:X.N[i]? = some x)(hv:Vis X.env.scope x)(hd:(x==("__debug__":Str))=false:=by decide)(hcd:(x==("__classdict__":Str))=false:=by decide):PE X (.Name x pos) (zlS i):=by
 intro pins s O H Q I h;obtain ⟨v,e,h⟩:=h;obtain ⟨m,hn,hl⟩:=I.loc;obtain ⟨u,r,l⟩:=hl i x v hN e hv;have fin:EP X pins O Q u s:=⟨v,H,I,r,h⟩;rcases l with ⟨hk,hm⟩ | ⟨hk,c,hc,hcell⟩;·exact wpAny_Name (wpAny_loadName_local I.ok.kind hk hn hm fin) hd
 ·rcases hk with hk | hk;·exact wpAny_Name (wpAny_loadName_cell I.ok.kind hk hc hcell fin) hd
  ·exact wpAny_Name (wpAny_loadName_free I.ok.kind hk hc hcell fin hcd) hd
theorem zhT{i j pos}:PE X (.Constant (.int i) j pos) (tC (.int i)):=fun _ _ _ H _ I h=>wpAny_Constant_int ⟨.int i,H,I.tok _,⟨_,rfl⟩,h⟩
theorem zk7{b j pos}:PE X (.Constant (.bool b) j pos) (tC (.bl b)):=fun _ _ _ H _ I h=>Constant_bool ⟨.bl b,H,I,rfl,h⟩
theorem zio{j pos}:PE X (.Constant .none j pos) (tC .non):=fun _ _ _ H _ I h=>Constant_none ⟨.non,H,I,rfl,h⟩
theorem zeg{x j pos}:PE X (.Constant (.str x) j pos) (tC (.str x)):=fun _ _ _ H _ I h=>Calls.Constant_str ⟨.str x,H,I.tok _,⟨_,rfl⟩,h⟩
def Gl(X:Cx)(x:Str):Prop:=X.env.kindOf x=some .globalImplicit
theorem z0I{E:Value->Shared->Prop}{pins:List (Addr×Obj)}{s:Shared}{O:St}{H:Hp}{x:Str}{u:Value}{pos:Pos}{Q:Value->Shared->Prop}(I:Inv X pins O H s)(hg:Gl X x)(hm:X.mg x=some u)(h:Q u s) (hd:(x==("__debug__":Str))=false:=by decide):wpAny (model X.prog X.w) X.A (eval (.Name x pos) X.env) Q E s:= Calls.Name_function_global I.ok.kind hg (Calls.loadGlobal_global (by rw [I.ok.glob];exact I.mod.glob.keeps I.bk) hm h) hd
theorem z18{E:Value->Shared->Prop}{pins:List (Addr×Obj)}{s:Shared}{O:St}{H:Hp}{x:Str}{u:Value}{pos:Pos}{Q:Value->Shared->Prop}(I:Inv X pins O H s)(hg:Gl X x)(hm:X.mg x=none)(hv:bootBuiltins x=some u)(h:Q u s) (hn:x≠"__name__":=by decide)(hd:(x==("__debug__":Str))=false:=by decide):wpAny (model X.prog X.w) X.A (eval (.Name x pos) X.env) Q E s:=by
 obtain ⟨mb,h1,h2⟩:=I.mod.blt;exact Calls.Name_function_global I.ok.kind hg (Calls.loadGlobal_builtin (by rw [I.ok.glob];exact I.mod.glob.keeps I.bk) hm (by rw [I.ok.blt];exact h1.keeps I.bk) ((h2 x hn).trans hv) h) hd
theorem z2F{x:Str}{v:V}{u:Value}{pos:Pos}(hg:Gl X x)(hm:X.mg x=some u)(r:xx v u)(hd:(x==("__debug__":Str))=false:=by decide):PE X (.Name x pos) (tC v):= fun _ _ _ H _ I h=>z0I I hg hm ⟨v,H,I,r,h⟩ hd
theorem zaC{x:Str}{v:V}{u:Value}{pos:Pos}(hg:Gl X x)(hm:X.mg x=none)(hv:bootBuiltins x=some u)(r:xx v u)(hn:x≠"__name__":=by decide)(hd:(x==("__debug__":Str))=false:=by decide):PE X (.Name x pos) (tC v):= fun _ _ _ H _ I h=>z18 I hg hm hv ⟨v,H,I,r,h⟩ hn hd
variable {a b:Expr}{ta tb:TE}{pos:Pos}
def PC(X:Cx)(op:CmpOp)(a b:Expr)(t:TE):Prop:= ∀ (pins:List (Addr×Obj))(s:Shared)(O:St)(H:Hp)(Q:VK),Inv X pins O H s->t O H Q-> wpAny (model X.prog X.w) X.A (eval a X.env) (fun v s₁=>wpAny (model X.prog X.w) X.A (eval b X.env) (fun u s₂=>wpAny (model X.prog X.w) X.A (compareOp op v u) (EP X pins O Q) X.xe s₂) X.xe s₁) X.xe s
theorem zch(b:Expr){op:CmpOp}(h:op≠.In)(h2:op≠.NotIn):behindInMarks op b=false:=by
 have e1:(op==CmpOp.In)=false:=by cases op<;>first | rfl | exact absurd rfl h
 have e2:(op==CmpOp.NotIn)=false:=by cases op<;>first | rfl | exact absurd rfl h2
 cases b<;>simp [behindInMarks,e1,e2]
def tB(t:TE):TT:=fun O H Q=>t O H fun x H1=>∃ c,x=.bl c/\Q c H1
theorem zkO{op:CmpOp}{t:TE}(h:PC X op a b t)(h1:behindInMarks op b=false:=by first | exact zch _ (by decide) (by decide) | rfl):PT X (.Compare a [op] [b] pos) (tB t):=by
 intro pins s O H Q I hw;refine wpAny_isTrue_Compare1 (thn (h pins s O H _ I hw) fun v s1 h1=>thn h1 fun u s2 h2=>thn h2 fun c s3 ⟨x,H1,I1,r1,q1⟩=>?_) h1;obtain ⟨d,rfl,q⟩:=q1;cases r1;exact wpAny_truthy_bool ⟨H1,I1,q⟩
theorem ziF{e:Expr}{t:TE}(h:PE X e t)(he:∀ whole,isTrue e X.env whole=(do let v <- whole;standAt e.pos;holding [v] (truthy v)):=by intro _;rfl):PT X e (tB t):=by
 intro pins s O H Q I hw;refine isTrue_plain (thn (h pins s O H _ I hw) fun v s1 ⟨x,H1,I1,r1,q1⟩=>?_) (he _);obtain ⟨d,rfl,q⟩:=q1;cases r1;exact wpAny_truthy_bool ⟨H1,I1,q⟩
variable {tA tB':TT}{rest:List Expr}
def tOr(t u:TT):TT:=fun O H Q=>t O H fun c H1=>if c=true then Q true H1 else u O H1 Q
def zlP(t:TT):TT:=fun O H Q=>t O H fun c H1=>Q (!c) H1
theorem zh5(ha:PT X a tA):PW X (.BoolOp .Or [a] pos) tA:=by
 intro wh pins s O H Q I h;refine isTrue_or (thn (ha pins s O H Q I h) fun c s1 e=>?_);cases c with
 | false=>exact isTrue_or_nil e | true=>exact e
theorem zjk(ha:PT X a tA)(hb:PW X (.BoolOp .Or (b::rest) pos) tB'):PW X (.BoolOp .Or (a::b::rest) pos) (tOr tA tB'):=by
 intro wh pins s O H Q I h;refine isTrue_or (thn (ha pins s O H _ I h) fun c s1 ⟨H1,I1,q1⟩=>?_);cases c with
 | true=>exact ⟨H1,I1,q1⟩ | false=>exact hb wh pins s1 O H1 Q I1 q1
theorem zgs(ha:PT X a tA):PT X (.UnaryOp .Not a pos) (zlP tA):=by
 intro pins s O H Q I h;exact isTrue_not (ha pins s O H (fun c H1=>Q (!c) H1) I h)
def zjv(ta tb:TE):TE:=fun O H Q=>ta O H fun x H1=>∃ c,x=.bl c/\if c=true then tb O H1 Q else Q (.bl false) H1
def zkh(ta:TE):TE:=fun O H Q=>ta O H fun x H1=>∃ c,x=.bl c/\Q (.bl (!c)) H1
theorem zic{op}{t:TE}(h:PE X a t):PE X (.BoolOp op [a] pos) t:=fun pins s O H Q I hw=>BoolOp_one (h pins s O H Q I hw)
theorem zik(ha:PE X a ta)(hb:PE X (.BoolOp .And (b::rest) pos) tb):PE X (.BoolOp .And (a::b::rest) pos) (zjv ta tb):=by
 intro pins s O H Q I h;refine BoolOp_and (thn (ha pins s O H _ I h) fun v s1 ⟨x,H1,I1,r1,q1⟩=>?_);obtain ⟨c,rfl,q1⟩:=q1;cases r1;refine wpAny_truthy_bool ?_;cases c with
 | true=>exact hb pins s1 O H1 Q I1 q1 | false=>exact ⟨.bl false,H1,I1,rfl,q1⟩
theorem zgV(ha:PE X a ta):PE X (.UnaryOp .Not a pos) (zkh ta):=by
 intro pins s O H Q I h;refine UnaryOp_ (thn (ha pins s O H _ I h) fun v s1 ⟨x,H1,I1,r1,q1⟩=>?_);obtain ⟨c,rfl,q1⟩:=q1;cases r1;exact not_of (wpAny_truthy_bool ⟨.bl (!c),H1,I1,rfl,q1⟩)
def tIf(t:TT)(ta tb:TE):TE:=fun O H Q=>t O H fun c H1=>if c=true then ta O H1 Q else tb O H1 Q
theorem zcf{c:Expr}(hc:PT X c tA)(ha:PE X a ta)(hb:PE X b tb):PE X (.IfExp c a b pos) (tIf tA ta tb):=by
 intro pins s O H Q I h;refine wpAny_IfExp (thn (hc pins s O H _ I h) fun d s1 ⟨H1,I1,q1⟩=>?_);cases d with
 | true=>exact ha pins s1 O H1 Q I1 q1 | false=>exact hb pins s1 O H1 Q I1 q1
end
def SqL(K:W.Frag)(H:Hp)(a:Addr)(xs:List V):Prop:= Rd H a (.lst xs)\/ ∃ (o:Obj)(its:Array Value)(n:Nat),K.lookup a=some o/\o.cls=.type "list"/\o.dict=none/\o.data=.seq its n/\its.size<=sizeLine/\yW xs its.toList
def SqT(K:W.Frag)(H:Hp)(a:Addr)(xs:List V):Prop:= Rd H a (.tup xs)\/ ∃ (o:Obj)(its:Array Value)(n:Nat),K.lookup a=some o/\o.cls=.type "tuple"/\o.data=.seq its n/\its.size<=sizeLine/\yW xs its.toList
def zm7:Value->Option V
 | .none=>some .non | .bool b=>some (.bl b) | .int i _=>some (.int i) | .str x _=>some (.str x) | .bytes b _=>some (.byt b) | .float b _=>some (.flt b) | .ref a=>some (.ref a) | .type n=>some (.ty n) | _=>none
theorem xx.abs{x:V}{u:Value}(r:xx x u):zm7 u=some x:=by cases x with
 | non=>cases r;rfl | bl _=>cases r;rfl | int _=>obtain ⟨t,rfl⟩:=r;rfl | str _=>obtain ⟨t,rfl⟩:=r;rfl | byt _=>obtain ⟨t,rfl⟩:=r;rfl | flt _=>obtain ⟨t,rfl⟩:=r;rfl | ref _=>cases r;rfl | ty _=>cases r;rfl
theorem xx.inj{x y:V}{u:Value}(r:xx x u)(q:xx y u):x=y:=Option.some.inj (r.abs.symm.trans q.abs)
theorem yW.inj:∀ {xs ys:List V}{us:List Value},yW xs us->yW ys us->xs=ys
 | _,_,_,.nil,.nil=>rfl | _,_,_,.cons r t,.cons r' t'=>by rw [r.inj r',yW.inj t t']
section
variable {X:Cx}{pins:List (Addr×Obj)}{O:St}{H:Hp}{s:Shared}{a:Addr}{xs ys:List V}
theorem SqL.of{K:W.Frag}(h:H a=some (.lst xs)):SqL K H a xs:=.inl (.inl h)
theorem Inv.list(I:Inv X pins O H s)(h:SqL X.K H a xs):∃ its:List Value,yW xs its/\PlainL s.heap a its.toArray/\xs.length<=sizeLine:=by
 rcases h with h | ⟨o,its,n,hk,hc,hd,hs,hz,r⟩
 ·obtain ⟨z,its,n,r,e⟩:=h.ok I.hok;exact ⟨its,r,⟨_,n,e,rfl,rfl,rfl⟩,z⟩
 ·refine ⟨its.toList,r,⟨o,n,I.kIn a o hk,hc,hd,by simpa using hs⟩,?_⟩;have e:=r.length;simp only [Array.length_toList] at e;omega
theorem Inv.tuple(I:Inv X pins O H s)(h:SqT X.K H a xs):∃ its:List Value,yW xs its/\IsTup s.heap a its.toArray/\xs.length<=sizeLine:=by
 rcases h with h | ⟨o,its,n,hk,hc,hs,hz,r⟩
 ·obtain ⟨z,its,r,p⟩:=h.ok I.hok;exact ⟨its,r,p.tup,z⟩
 ·refine ⟨its.toList,r,⟨o,I.kIn a o hk,hc,n,by simpa using hs⟩,?_⟩;have e:=r.length;simp only [Array.length_toList] at e;omega
theorem Inv.list_inj(I:Inv X pins O H s)(h:SqL X.K H a xs)(h':SqL X.K H a ys):xs=ys:=by
 obtain ⟨its,r,⟨o,n,e,_,_,d⟩,_⟩:=I.list h;obtain ⟨its',r',⟨o',n',e',_,_,d'⟩,_⟩:=I.list h';rw [e] at e';cases e';rw [d] at d';injection d' with d1 _;have:its=its':=by simpa using congrArg Array.toList d1
 subst this;exact r.inj r'
theorem Inv.tuple_inj(I:Inv X pins O H s)(h:SqT X.K H a xs)(h':SqT X.K H a ys):xs=ys:=by
 obtain ⟨its,r,⟨o,e,_,n,d⟩,_⟩:=I.tuple h;obtain ⟨its',r',⟨o',e',_,n',d'⟩,_⟩:=I.tuple h';rw [e] at e';cases e';rw [d] at d';injection d' with d1 _;have:its=its':=by simpa using congrArg Array.toList d1
 subst this;exact r.inj r'
end
abbrev Cx.wish(X:Cx)(E:Value->Shared->Prop):Cx:={X with xe:=E}
abbrev Cx.nox(X:Cx):Cx:=X.wish fun _ _=>False
theorem Cx.Ok.wish{X:Cx}(ok:X.Ok)(E:Value->Shared->Prop):(X.wish E).Ok:= ⟨ok.mod,ok.kind,ok.glob,ok.blt,ok.above,ok.inj,ok.has,ok.cab,ok.hd,ok.frames,ok.stk,ok.exf,ok.bs,ok.bsz,ok.noex,ok.exfs,ok.funs,ok.frf⟩
theorem Cx.Ok.unwish{X:Cx}{E:Value->Shared->Prop}(ok:(X.wish E).Ok):X.Ok:= ⟨ok.mod,ok.kind,ok.glob,ok.blt,ok.above,ok.inj,ok.has,ok.cab,ok.hd,ok.frames,ok.stk,ok.exf,ok.bs,ok.bsz,ok.noex,ok.exfs,ok.funs,ok.frf⟩
section
variable {X:Cx}{pins:List (Addr×Obj)}{O:St}{H:Hp}{s:Shared}{E:Value->Shared->Prop}
theorem Inv.wish(I:Inv X pins O H s)(E:Value->Shared->Prop):Inv (X.wish E) pins O H s:=⟨I.ok.wish E,I.os,I.bare,I.base,I.loc,I.cell,I.free,I.freeC,I.pin,I.hok,I.len⟩
theorem Inv.unwish(I:Inv (X.wish E) pins O H s):Inv X pins O H s:=⟨I.ok.unwish,I.os,I.bare,I.base,I.loc,I.cell,I.free,I.freeC,I.pin,I.hok,I.len⟩
theorem SP.unwish{D:zeD}{f:Flow}{s':Shared}(h:SP (X.wish E) pins D f s'):SP X pins D f s':=by cases f with
 | next=>obtain ⟨O',H',I,q⟩:=h;exact ⟨O',H',I.unwish,q⟩ | brk=>obtain ⟨O',H',I,q⟩:=h;exact ⟨O',H',I.unwish,q⟩ | cont=>obtain ⟨O',H',I,q⟩:=h;exact ⟨O',H',I.unwish,q⟩ | ret u=>obtain ⟨v,O',H',I,r,q⟩:=h;exact ⟨v,O',H',I.unwish,r,q⟩
theorem PSs.nox{st:List Stmt}{t:TS}(h:PSs X.nox st t):PSs X st t:=fun pins s O H D I hw=> wpAny_mono (h pins s O H D (I.wish _) hw) (fun _ _ q=>q.unwish) fun _ _ z=>False.elim z
end
section
variable {X:Cx}{st:Stmt}{rest:List Stmt}{t u:TS}{e:Expr}{te:TE}{pos:Pos}
def zkf:TS:=fun D O H=>D.nx O H
def zkR(t u:TS):TS:=fun D O H=>t {D with nx:=u D} O H
theorem zgh:PSs X [] zkf:=fun _ _ O H _ I h=>wpAny_execs_nil ⟨O,H,I,h⟩
theorem zcw(h1:PS X st t)(h2:PSs X rest u):PSs X (st::rest) (zkR t u):=by
 intro pins s O H D I h;refine wpAny_execs_cons (thn (h1 pins s O H {D with nx:=u D} I h) fun f s1 q=>?_);cases f with
 | next=>
  obtain ⟨O',H',I',q⟩:=q;exact h2 pins s1 O' H' D I' q | ret v=>exact q | brk=>exact q | cont=>exact q
theorem zfN(h1:PS X st t):PSs X [st] t:=by
 intro pins s O H D I h;refine wpAny_execs_cons (thn (h1 pins s O H D I h) fun f s1 q=>?_);cases f with
 | next=>exact wpAny_execs_nil q | ret v=>exact q | brk=>exact q | cont=>exact q
theorem Inv.quiet{pins:List (Addr×Obj)}{O:St}{H:Hp}{s:Shared}(I:Inv X pins O H s):interactive X.env=false:=by simp [interactive,I.ok.kind]
def zky(te:TE):TS:=fun D O H=>te O H fun _ H1=>D.nx O H1
theorem zfL(he:PE X e te)(hs:swapsWith e none pos.line X.env=pure false:=by rfl):PS X (.Expr e pos) (zky te):=by
 intro pins s O H D I h;exact wpAny_Expr_any (thn (he pins s O H _ I h) fun v s1 ⟨x,H1,I1,r1,q1⟩=>⟨O,H1,I1,q1⟩) I.quiet hs
def zlt(te:TE):TS:=fun D O H=>te O H D.rt
theorem zhU(he:PE X e te):PS X (.Return (some e) pos) (zlt te):=by
 intro pins s O H D I h;exact wpAny_Return_some (thn (he pins s O H _ I h) fun v s1 ⟨x,H1,I1,r1,q1⟩=>⟨x,O,H1,I1,r1,q1⟩)
def zlM(c:TT)(t u:TS):TS:=fun D O H=>c O H fun b H1=>if b=true then t D O H1 else u D O H1
theorem zki{c:Expr}{a b:List Stmt}{tc:TT}(hc:PT X c tc)(ha:PSs X a t)(hb:PSs X b u):PS X (.If c a b pos) (zlM tc t u):=by
 intro pins s O H D I h;refine wpAny_If (thn (hc pins s O H _ I h) fun d s1 ⟨H1,I1,q1⟩=>?_);cases d with
 | true=>exact ha pins s1 O H1 D I1 q1 | false=>exact hb pins s1 O H1 D I1 q1
def zhs:TS:=fun _ _ _=>False
theorem zda:PS X st zhs:=fun _ _ _ _ _ _ h=>h.elim
end
abbrev TG:=V->St->Hp->(St->Hp->Prop)->Prop
abbrev TGs:=List V->St->Hp->(St->Hp->Prop)->Prop
def PG(X:Cx)(target:Expr)(t:TG):Prop:= ∀ (pins:List (Addr×Obj))(s:Shared)(O:St)(H:Hp)(v:V)(u:Value)(Q:St->Hp->Prop),Inv X pins O H s->xx v u->t v O H Q-> wpAny (model X.prog X.w) X.A (assign target X.env u) (fun _ s'=>∃ O' H',Inv X pins O' H' s'/\Q O' H') X.xe s
def PGs(X:Cx)(ts:List Expr)(t:TGs):Prop:= ∀ (pins:List (Addr×Obj))(s:Shared)(O:St)(H:Hp)(vs:List V)(us:List Value)(Q:St->Hp->Prop),Inv X pins O H s->yW vs us->t vs O H Q-> wpAny (model X.prog X.w) X.A (assignInOrder ((assignEach ts X.env).map (·.2)) us) (fun _ s'=>∃ O' H',Inv X pins O' H' s'/\Q O' H') X.xe s
abbrev zjo:=V->V->V->Hp->(Hp->Prop)->Prop
def zkJ(X:Cx)(t:zjo):Prop:= ∀ (pins:List (Addr×Obj))(s:Shared)(O:St)(H:Hp)(o i v:V)(ov iv u:Value)(Q:Hp->Prop),Inv X pins O H s->xx o ov->xx i iv->xx v u->t o i v H Q-> wpAny (model X.prog X.w) X.A (setItem ov iv u) (fun _ s'=>∃ H',Inv X pins O H' s'/\Q H') X.xe s
section
variable {X:Cx}{pos:Pos}
def z9R(i:Nat):TG:=fun v O H Q=>Q (O.set i (some v)) H
theorem yq{i:Nat}{x:Str}(hN:X.N.Nodup)(hi:X.N[i]? = some x)(hx:Loc X.env.scope x)(hf:X.fn x=true\/X.env.scope.names.lookup x=some .local:=by first | exact .inl rfl | exact .inr rfl | assumption):PG X (.Name x pos) (z9R i):=by
 intro pins s O H v u Q I r h;exact wpAny_assign_Name (kQ I hN hi hx r (fun s' I'=>⟨_,H,I',h⟩) hf)
def zl5:TGs:=fun vs O H Q=>vs=[]/\Q O H
def zft(t:TG)(u:TGs):TGs:=fun vs O H Q=>∃ v r,vs=v::r/\t v O H fun O' H'=>u r O' H' Q
theorem zbY:PGs X [] zl5:=by
 intro pins s O H vs us Q I r h;obtain ⟨e,h⟩:=h;subst e;cases r;exact assignInOrder_nil ⟨O,H,I,h⟩
theorem z1O{e:Expr}{es:List Expr}{t:TG}{u:TGs}(h1:PG X e t)(h2:PGs X es u) (hs:(assignEach (e::es) X.env).map (·.2)=assign e X.env::(assignEach es X.env).map (·.2):=by rfl):PGs X (e::es) (zft t u):=by
 intro pins s O H vs us Q I r h;obtain ⟨v,vr,e1,h⟩:=h;subst e1;cases r with | cons r rr=>
  rw [hs];refine assignInOrder_cons (thn (h1 pins s O H _ _ _ I r h) fun _ s1 ⟨O1,H1,I1,q1⟩=>?_);exact h2 pins s1 O1 H1 _ _ Q I1 rr q1
def zl1(K:W.Frag)(n:Nat)(t:TGs):TG:=fun v O H Q=>∃ a xs,v=.ref a/\SqT K H a xs/\xs.length=n/\t xs O H Q
theorem zdT{es:List Expr}{k:Nat}{t:TGs}{n:Nat}(hc:X.calm=true)(h:PGs X es t) (hn:(assignEach es X.env).length=n:=by rfl)(hst:(assignEach es X.env).findIdx? (·.1)=none:=by rfl):PG X (.Tuple es k pos) (zl1 X.K n t):=by
 intro pins s O H v u Q I r hw;obtain ⟨a,xs,e1,hq,hl,hw⟩:=hw;subst e1;cases r;obtain ⟨its,rv,ht,hz⟩:=I.tuple hq;refine assign_Tuple_tuple (I.ok.hd hc) ht (by simp [hn,<- hl,rv.length]) hst fun h' hx=>?_;have I1:Inv X pins O H {s with heap:=h'}:=I.kept (t':=s.toks) fun b o e=>hx b o (Nat.ne_of_lt (Heap.lt_size e)) e;exact h pins _ O H xs _ Q I1 (by simpa using rv) hw
def zm6(to ti:TE)(t:zjo):TG:=fun v O H Q=>to O H fun o H1=>ti O H1 fun i H2=>t o i v H2 fun H3=>Q O H3
theorem zie{o i:Expr}{to ti:TE}{t:zjo}(ho:PE X o to)(hi:PE X i ti)(hs:zkJ X t) (ha:∀ v,assign (.Subscript o i pos) X.env v=(do
   let ov <- holding [v] (eval o X.env) let iv <- holding [v,ov] (eval i X.env)
   standAt pos
   holding [v,ov,iv] (setItem ov iv v)
   release [v,ov,iv] []):=by intro _;rfl):PG X (.Subscript o i pos) (zm6 to ti t):=by
 intro pins s O H v u Q I r h;rw [ha];refine wpAny_bind (wpAny_holding (thn (ho pins s O H _ I h) fun ov s1 ⟨x,H1,I1,r1,q1⟩=>?_));refine wpAny_bind (wpAny_holding (thn (hi pins s1 O H1 _ I1 q1) fun iv s2 ⟨y,H2,I2,r2,q2⟩=>?_));refine wpAny_bind (wpAny_standAt (wpAny_bind (wpAny_holding (thn (hs pins s2 O H2 x y v ov iv u _ I2 r1 r2 r q2) fun _ s3 ⟨H3,I3,q3⟩=>?_))));exact wpAny_release ⟨O,H3,I3,q3⟩
def zj9(te:TE)(g:TG):TS:=fun D O H=>te O H fun x H1=>g x O H1 D.nx
theorem zea{tg e:Expr}{te:TE}{g:TG}(he:PE X e te)(hg:PG X tg g)(hs:swapsWithSole [tg] e pos.line X.env=pure false:=by rfl)(hw:swappedStores [tg] e X.env=pure none:=by rfl) (h1:(assignEach [tg] X.env).map (·.2)=[assign tg X.env]:=by rfl):PS X (.Assign [tg] e pos) (zj9 te g):=by
 intro pins s O H D I h;refine wpAny_Assign_stores (thn (he pins s O H _ I h) fun v s1 ⟨x,H1,I1,r1,q1⟩=>?_) hs hw;rw [h1];exact thn (hg pins s1 O H1 x v _ I1 r1 q1) fun _ s2 q=>q
theorem zhb{i:Nat}{x:Str}{e:Expr}{te:TE}{pos':Pos}(hN:X.N.Nodup)(hi:X.N[i]? = some x)(hx:Loc X.env.scope x)(he:PE X e te)(hs:swapsWith e (some (.Name x pos')) pos.line X.env=pure false:=by rfl)(hf:X.fn x=true\/X.env.scope.names.lookup x=some .local:=by first | exact .inl rfl | exact .inr rfl | assumption): PS X (.Assign [.Name x pos'] e pos) (zj9 te (z9R i)):=by
 intro pins s O H D I h;refine wpAny_Assign_Name (thn (he pins s O H _ I h) fun v s1 ⟨y,H1,I1,r1,q1⟩=>?_) hs;exact kQ I1 hN hi hx r1 (fun s2 I2=>⟨_,H1,I2,q1⟩) hf
def zma(i j:Nat)(ta:TA):TS:=fun D O H=>ta O H fun vs H1=>∃ v w,vs=[v,w]/\D.nx ((O.set i (some v)).set j (some w)) H1
theorem zh6 {i j:Nat} {x y:Str} {a b:Expr} {ta:TA} {px py pt:Pos} {kt k2 pt2} (hc:X.calm=true) (hN:X.N.Nodup) (hi:X.N[i]? = some x) (hj:X.N[j]? = some y) (hij:i≠j) (hx:X.env.scope.names.lookup x=some .local) (hy:X.env.scope.names.lookup y=some .local) (ha:PA X [a,b] ta) (hw:swappedStores [.Tuple [.Name x px,.Name y py] kt pt] (.Tuple [a,b] k2 pt2) X.env=pure (some [x,y])) (hs:swapsWithSole [.Tuple [.Name x px,.Name y py] kt pt] (.Tuple [a,b] k2 pt2) pos.line X.env=pure false:=by rfl): PS X (.Assign [.Tuple [.Name x px,.Name y py] kt pt] (.Tuple [a,b] k2 pt2) pos) (zma i j ta):=by
 intro pins s O H D I h;rw [exec_Assign_arm];refine wpAny_bind (wpAny_standAt ?_);rw [hs];refine wpAny_bind (wpAny_pure ?_);rw [if_neg (by decide)];refine wpAny_bind (Tuple_ (thn (ha _ pins s O H _ I h) fun us s1 ⟨vs,H1,I1,r1,q1⟩=>?_));obtain ⟨v,w,e1,q1⟩:=q1;subst e1;obtain ⟨u1,u2,rfl,rv,rw'⟩:∃ u1 u2,us=[u1,u2]/\xx v u1/\xx w u2:=by cases r1 with | cons p q=> cases q with | cons p' q'=>
    cases q';exact ⟨_,_,rfl,p,p'⟩
 refine wpAny_newObj_type ?_ (by show 2<=sizeLine;decide);have I2:Inv X pins O H1 {s1 with heap:=s1.heap.push {cls:=.type "tuple",data:=.seq [u1,u2].toArray}}:=I1.kept (t':=s1.toks) fun b o e=>Heap.get?_push_of_some _ e;rw [hw];refine wpAny_bind (wpAny_pure ?_);show wpAny (model X.prog X.w) X.A (do rule "assign.swapped-stores";let items <- unpackItems (.ref s1.heap.objs.size) 2 none;assignInOrder [fun v=>bindName X.env y v,fun v=>bindName X.env x v] items.reverse;pure Flow.next) _ _ _;refine wpAny_bind (wpAny_rule (wpAny_bind (unpackItems_tuple (items:=#[u1,u2]) (I.ok.hd hc) (IsTup.new s1.heap _) fun h' hx'=>?_)));have I3:=I2.kept (h':=h') (t':=s1.toks) fun b o e=>hx' b o (Nat.ne_of_lt (Heap.lt_size e)) e;show wpAny _ _ (assignInOrder [fun v=>bindName X.env y v,fun v=>bindName X.env x v] [u2,u1] >>= fun _=>pure Flow.next) _ _ _;refine wpAny_bind (assignInOrder_cons (wpAny_bindName (kQ I3 hN hj (.inl hy) rw' (fun s2 I4=>?_) (.inr hy))));refine assignInOrder_cons (wpAny_bindName (kQ I4 hN hi (.inl hx) rv (fun s3 I5=>assignInOrder_nil (wpAny_pure ?_)) (.inr hx)));rw [List.set_comm _ _ (Ne.symm hij)] at I5;exact ⟨_,H1,I5,q1⟩
end
section
variable {X:Cx}{pos:Pos}
def zhO(c:TT)(tb:TS):TS:=fun D O H=>∃ W:Nat->St->Hp->Prop,(∃ m,W m O H)/\∀ m O H,W m O H-> c O H fun b H1=>if b=true then ∃ N:St->Hp->Prop,(∀ O' H',N O' H'->∃ m',m'<m/\W m' O' H')/\tb {D with nx:=N,ct:=N,bk:=D.nx} O H1 else D.nx O H1
theorem zcH{c:Expr}{body:List Stmt}{tc:TT}{tb:TS}(hp:PassesOwn (model X.prog X.w) X.A X.env X.xe)(hc:PT X c tc)(hb:PSs X body tb):PS X (.While c body [] pos) (zhO tc tb):=by
 intro pins s O H D I h;obtain ⟨W,⟨m0,w0⟩,turn⟩:=h;refine wpAny_While (codeAny_whileLoop (fun n s'=>∃ O' H',Inv X pins O' H' s'/\W n O' H') ?_ m0 ⟨O,H,I,w0⟩);rintro n s1 ⟨O1,H1,I1,w1⟩;refine wpAny_passesOwn hp (thn (hc pins s1 O1 H1 _ I1 (turn n O1 H1 w1)) fun b s2 ⟨H2,I2,q2⟩=>?_);cases b with
 | true=>
  obtain ⟨N,hN,q2⟩:=q2;rw [if_pos rfl];refine wpAny_passesOwn hp (thn (hb pins s2 O1 H2 _ I2 q2) fun f s3 q3=>?_);cases f with
  | next=>
   obtain ⟨O3,H3,I3,n3⟩:=q3;obtain ⟨m',hm,w3⟩:=hN O3 H3 n3;exact ⟨m',hm,O3,H3,I3,w3⟩ | cont=>
   obtain ⟨O3,H3,I3,n3⟩:=q3;obtain ⟨m',hm,w3⟩:=hN O3 H3 n3;exact ⟨m',hm,O3,H3,I3,w3⟩ | brk=>exact q3 | ret v=>exact q3
 | false=>
  rw [if_neg Bool.false_ne_true];exact wpAny_execs_nil ⟨O1,H2,I2,q2⟩
end
structure It where
 go:Nat->Hp->Prop
 yld:Nat->Hp->V->Hp->Prop
 stop:Nat->Hp->Prop
def z7L(X:Cx)(pins:List (Addr×Obj))(H:Hp)(b:Addr):Prop:= H b=none/\b≠X.env.locals/\b∉X.fs/\(b∈X.ex\/X.s₀.heap.objs.size<=b)/\(∀ x c,X.env.cells.lookup x=some c->c≠b)/\∀ p∈X.pn++pins,p.1≠b
theorem Inv.fpOk{X:Cx}{pins:List (Addr×Obj)}{O:St}{H H':Hp}{s:Shared}{b:Addr}(I:Inv X pins O H s)(hb:s.heap.objs.size<=b)(hn:H' b=none):z7L X pins H' b:=by
 refine ⟨hn,Nat.ne_of_gt (Nat.lt_of_lt_of_le I.lt hb),I.nofs hb,.inr (Nat.le_trans I.sz hb),fun x c e z=>?_,fun p hp z=>?_⟩
 ·obtain ⟨v,q⟩:=I.cell x c e;exact absurd (Nat.lt_of_lt_of_le q.lt (by rw [z];exact hb)) (Nat.lt_irrefl _)
 ·exact absurd (Nat.lt_of_lt_of_le (Heap.lt_size (I.pin p hp).1) (by rw [z];exact hb)) (Nat.lt_irrefl _)
structure zgk(P:Program)(w:World)(K:W.Frag)(tg:Expr)(J:It)(fp:List Addr)(it:Addr)(tn:Nat->Heap->Prop):Prop where
 mem:it∈fp
 obj:∀ i h,tn i h->∀ b∈fp,∃ o,h.get? b=some o/\∀ v,o.data≠.cell v
 keep:∀ i h h',tn i h->(∀ b∈fp,∀ o,h.get? b=some o->h'.get? b=some o)->tn i h'
 item:∀ (X:Cx),X.prog=P->X.w=w->X.K=K->X.calm=true->∀ (i:Nat)(pins:List (Addr×Obj))(s:Shared)(O:St)(H:Hp)(E:Value->Shared->Prop),Inv X pins O H s->(∀ b∈fp,z7L X pins H b)->tn i s.heap->J.go i H-> wpAny (model P w) X.A (pyNext (.ref it)) (fun r s1=>∃ u,r=some u/\ wpAny (model P w) X.A (letOwnedTupleGo tg (.ref it) u) (fun _ s2=>∃ x H',Inv X pins O H' s2/\xx x u/\J.yld i H x H'/\tn (i+1) s2.heap/\∀ b∈fp,H' b=none) E s1) E s
 done:∀ (X:Cx),X.prog=P->X.w=w->X.K=K->X.calm=true->∀ (i:Nat)(pins:List (Addr×Obj))(s:Shared)(O:St)(H:Hp)(E:Value->Shared->Prop),Inv X pins O H s->(∀ b∈fp,z7L X pins H b)->tn i s.heap->J.stop i H-> wpAny (model P w) X.A (pyNext (.ref it)) (fun r s1=>r=none/\Inv X pins O H s1) E s
 self:∀ (A:Around)(i:Nat)(s:Shared)(Q:Value->Shared->Prop)(E:Value->Shared->Prop),tn i s.heap->Q (.ref it) s->wpAny (model P w) A (pyIter (.ref it)) Q E s
abbrev TI:=St->Hp->(It->Hp->Prop)->Prop
def PIE(X:Cx)(pins:List (Addr×Obj))(O:St)(tg:Expr)(R:It->Hp->Prop)(itv:Value)(s2:Shared):Prop:= ∃ (it:Addr)(fp:List Addr)(tn:Nat->Heap->Prop)(J:It)(H':Hp),itv=.ref it/\Inv X pins O H' s2/\zgk X.prog X.w X.K tg J fp it tn/\tn 0 s2.heap/\(∀ b∈fp,z7L X pins H' b)/\R J H'
def PI(X:Cx)(tg iter:Expr)(wi:TI):Prop:= ∀ (pins:List (Addr×Obj))(s:Shared)(O:St)(H:Hp)(R:It->Hp->Prop),Inv X pins O H s->wi O H R-> wpAny (model X.prog X.w) X.A (eval iter X.env) (fun v s1=>wpAny (model X.prog X.w) X.A (pyIter v) (PIE X pins O tg R) X.xe s1) X.xe s
theorem zeZ{M:Model}{A:Around}{E:Value->Shared->Prop}{s:Shared}{tg:Expr}{it:Addr}{u:Value}{o:Obj}{n:String}{vs:Array Value}{Q:Unit->Shared->Prop}(ho:s.heap.get? it=some o)(hc:o.cls=.type n)(hd:o.data=.fields vs) (hn:["enumerate","zip","dict_itemiterator","dict_reverseitemiterator","odict_iterator","itertools.zip_longest","itertools.pairwise"].contains n=false)(hQ:Q () s):wpAny M A (letOwnedTupleGo tg (.ref it) u) Q E s:=by
  unfold letOwnedTupleGo;cases tg<;>first
    | exact wpAny_pure hQ | (cases u<;>first
        | exact wpAny_pure hQ
        | (refine wpAny_bind (wpAny_load ho ?_);rw [hc,hd];show wpAny M A (if (["enumerate","zip","dict_itemiterator","dict_reverseitemiterator","odict_iterator","itertools.zip_longest","itertools.pairwise"].contains n&&vs[0]? == some (rawInt _))=true then _ else _) Q E s;rw [if_neg (by intro h;rw [hn,Bool.false_and] at h;cases h)];exact wpAny_pure hQ))
def Itl(K:W.Frag)(a:Addr):It:= ⟨fun i H=>∃ xs x,SqL K H a xs/\xs[i]? = some x,fun i H x H'=>H'=H/\∀ xs,SqL K H a xs->xs[i]? = some x,fun i H=>∃ xs,SqL K H a xs/\xs.length<=i⟩
def Itt(K:W.Frag)(a:Addr):It:= ⟨fun i H=>∃ xs x,SqT K H a xs/\xs[i]? = some x,fun i H x H'=>H'=H/\∀ xs,SqT K H a xs->xs[i]? = some x,fun i H=>∃ xs,SqT K H a xs/\xs.length<=i⟩
def Itr(lo:Int)(n:Nat):It:=⟨fun i _=>i<n,fun i H x H'=>H'=H/\x=.int (lo+i),fun i _=>n<=i⟩
theorem zaV{P:Program}{w:World}{K:W.Frag}{tg:Expr}(a it:Addr):zgk P w K tg (Itl K a) [it] it (fun i h=>h.IsListIter it a i) where
 mem:=by simp
 obj:=fun i h st b hb=>by
  have e:b=it:=by simpa using hb
  subst e;obtain ⟨o,e,c,d⟩:=st;exact ⟨o,e,fun v z=>by rw [d] at z;cases z⟩
 keep:=fun i h h' st k=>st.at fun o e=>k it (by simp) o e;item:=by
  intro X hP hw hK hc i pins s O H E I hf st hg;subst hP hw hK;obtain ⟨xs,x,hq,hx⟩:=hg;obtain ⟨its,rv,p,hz⟩:=I.list hq;obtain ⟨u,hu,ru⟩:=rv.get hx;obtain ⟨f0,f1,f2,f3,f4,f5⟩:=hf it (by simp);refine wpAny_pyNext_list_item st p.isList (x:=u) (by simpa using hu) fun h' st' sb=>?_;have I1:Inv X pins O H {s with heap:=h'}:=I.turned (t':=s.toks) (fun b o hb e=>(sb.2 b hb).trans e) f0 f1 f3 f4 f5;obtain ⟨o,e,c,d⟩:=id st';exact ⟨u,rfl,zeZ (s:={s with heap:=h'}) e c d (by decide) ⟨x,H,I1,ru,⟨rfl,fun ys hy=>by rw [I.list_inj hy hq];exact hx⟩,st',fun b hb=>(hf b hb).1⟩⟩
 done:=by
  intro X hP hw hK hc i pins s O H E I hf st hg;subst hP hw hK;obtain ⟨xs,hq,hx⟩:=hg;obtain ⟨its,rv,p,hz⟩:=I.list hq;obtain ⟨f0,f1,f2,f3,f4,f5⟩:=hf it (by simp);have hl:=rv.length;exact wpAny_pyNext_list_end (I.ok.hd hc) st p.isList (by simp;omega) fun h' eb=>⟨rfl,I.turned (t':=s.toks) (fun b o hb e=>eb b o hb e) f0 f1 f3 f4 f5⟩
 self:=fun _ _ _ _ _ st h=>wpAny_pyIter_listiter st h
theorem z9P {P:Program} {w:World} {K:W.Frag} {tg:Expr} (a it:Addr):zgk P w K tg (Itt K a) [it] it (fun i h=>h.IsTupleIter it a i) where
 mem:=by simp
 obj:=fun i h st b hb=>by
  have e:b=it:=by simpa using hb
  subst e;obtain ⟨o,e,c,d⟩:=st;exact ⟨o,e,fun v z=>by rw [d] at z;cases z⟩
 keep:=fun i h h' st k=>st.at fun o e=>k it (by simp) o e;item:=by
  intro X hP hw hK hc i pins s O H E I hf st hg;subst hP hw hK;obtain ⟨xs,x,hq,hx⟩:=hg;obtain ⟨its,rv,p,hz⟩:=I.tuple hq;obtain ⟨u,hu,ru⟩:=rv.get hx;obtain ⟨f0,f1,f2,f3,f4,f5⟩:=hf it (by simp);refine wpAny_pyNext_tuple_item st (show s.heap.IsTuple a its.toArray from p) (x:=u) (by simpa using hu) fun h' st' sb=>?_;have I1:Inv X pins O H {s with heap:=h'}:=I.turned (t':=s.toks) (fun b o hb e=>(sb.2 b hb).trans e) f0 f1 f3 f4 f5;obtain ⟨o,e,c,d⟩:=id st';exact ⟨u,rfl,zeZ (s:={s with heap:=h'}) e c d (by decide) ⟨x,H,I1,ru,⟨rfl,fun ys hy=>by rw [I.tuple_inj hy hq];exact hx⟩,st',fun b hb=>(hf b hb).1⟩⟩
 done:=by
  intro X hP hw hK hc i pins s O H E I hf st hg;subst hP hw hK;obtain ⟨xs,hq,hx⟩:=hg;obtain ⟨its,rv,p,hz⟩:=I.tuple hq;obtain ⟨f0,f1,f2,f3,f4,f5⟩:=hf it (by simp);have hl:=rv.length;exact wpAny_pyNext_tuple_end (I.ok.hd hc) st (show s.heap.IsTuple a its.toArray from p) (by simp;omega) fun h' eb=>⟨rfl,I.turned (t':=s.toks) (fun b o hb e=>eb b o hb e) f0 f1 f3 f4 f5⟩
 self:=fun _ _ _ _ _ st h=>wpAny_pyIter_tupleiter st h
theorem z9I {P:Program} {w:World} {K:W.Frag} {tg:Expr} (it:Addr) (lo:Int) (n:Nat):zgk P w K tg (Itr lo n) [it] it (fun i h=>IsRangeIter h it (lo+(i:Nat)*1) ((n:Int)-(i:Nat)) 1) where
 mem:=by simp
 obj:=fun i h st b hb=>by
  have e:b=it:=by simpa using hb
  subst e;exact ⟨_,st,fun v z=>by
   have z':Data.fields _=Data.cell v:=z;cases z'⟩
 keep:=fun i h h' st k=>k it (by simp) _ st;item:=by
  intro X hP hw hK hc i pins s O H E I hf st hg;subst hP hw hK;obtain ⟨f0,f1,f2,f3,f4,f5⟩:=hf it (by simp);have W:=Walks.range (prog:=X.prog) (w:=X.w) (I.ok.hd hc) it lo 1 n;refine W.item i s _ _ hg st fun v h' tk hv st' kk=>?_;obtain ⟨t,rfl⟩:=hv;have I1:Inv X pins O H {s with heap:=h',toks:=tk}:=I.turned (fun b o hb e=>kk b o (by simpa using hb) e) f0 f1 f3 f4 f5;refine ⟨_,rfl,zeZ (s:={s with heap:=h',toks:=tk}) (n:="range_iterator") st' rfl rfl (by decide) ⟨.int (lo+i),H,I1,⟨t,?_⟩,⟨rfl,rfl⟩,st',fun b hb=>(hf b hb).1⟩⟩;rw [Int.mul_one]
 done:=by
  intro X hP hw hK hc i pins s O H E I hf st hg;subst hP hw hK;obtain ⟨f0,f1,f2,f3,f4,f5⟩:=hf it (by simp);exact wpAny_pyNext_range_end (I.ok.hd hc) st (by have:n<=i:=hg;omega) fun h' eb=>⟨rfl,I.turned (t':=s.toks) (fun b o hb e=>eb b o hb e) f0 f1 f3 f4 f5⟩
 self:=fun _ _ _ _ _ st h=>wpAny_pyIter_rangeiter st h
section
variable {X:Cx}{tg:Expr}
theorem z85{pins:List (Addr×Obj)}{O:St}{H:Hp}{s:Shared}{R:It->Hp->Prop}{E:Value->Shared->Prop}{lo hi:Int}{t u v:Tok}{tk:Nat}(I:Inv X pins O H s)(h1:-(2 ^ 62)<=lo)(h2:lo<2 ^ 62)(h3:-(2 ^ 62)<=hi)(h4:hi<2 ^ 62) (q:R (Itr lo (hi-lo).toNat) H):wpAny (model X.prog X.w) X.A (pyIter (.ref s.heap.objs.size)) (PIE X pins O tg R) E {s with heap:=s.heap.push {cls:=.type "range",data:=.fields #[.int lo t,.int hi u,.int 1 v]},toks:=tk}:=by
 refine wpAny_pyIter_range (IsRange.new ..) (small_one h1 h2 h3 h4) ?_;have I1:Inv X pins O H {s with heap:=s.heap.push {cls:=.type "range",data:=.fields #[.int lo t,.int hi u,.int 1 v]},toks:=tk}:=I.kept fun b o e=>Heap.get?_push_of_some _ e;refine ⟨(s.heap.push {cls:=.type "range",data:=.fields #[.int lo t,.int hi u,.int 1 v]}).objs.size,[(s.heap.push {cls:=.type "range",data:=.fields #[.int lo t,.int hi u,.int 1 v]}).objs.size],_,_,H,rfl, I1.kept (t':=tk) fun b o e=>Heap.get?_push_of_some _ e,z9I _ lo (hi-lo).toNat,?_,fun b hb=>?_,q⟩
 ·have e1:lo+((0:Nat):Int)*1=lo:=by simp
  have e2:(((hi-lo).toNat:Nat):Int)-((0:Nat):Int)=Builtin.Range.rangeSize lo hi 1:=by rw [rangeSize_one];split<;>omega
  show IsRangeIter _ _ (lo+((0:Nat):Int)*1) ((((hi-lo).toNat:Nat):Int)-((0:Nat):Int)) 1;rw [e1,e2];exact Heap.get?_push_size _ rfl
 ·have e:b=(s.heap.push {cls:=.type "range",data:=.fields #[.int lo t,.int hi u,.int 1 v]}).objs.size:=by simpa using hb
  subst e;exact I1.fpOk (Nat.le_refl _) (I1.hok.fresh (Nat.le_refl _))
def zjm(ta:TA):TI:=fun O H R=>ta O H fun vs H1=>∃ j:Int,vs=[.int j]/\-(2 ^ 62)<=j/\j<2 ^ 62/\R (Itr 0 j.toNat) H1
def zjq(ta:TA):TI:=fun O H R=>ta O H fun vs H1=>∃ i j:Int,vs=[.int i,.int j]/\(-(2 ^ 62)<=i/\i<2 ^ 62/\-(2 ^ 62)<=j/\j<2 ^ 62)/\R (Itr i (j-i).toNat) H1
theorem zc0{a:Expr}{ta:TA}{p pos:Pos}(hg:Gl X "range")(hm:X.mg "range"=none)(ha:PA X [a] ta)(hs:starEach [a] X.env=[(false,eval a X.env)]:=by rfl):PI X tg (.Call (.Name "range" p) [a] [] pos) (zjm ta):=by
 intro pins s O H R I h;refine Call_ (z18 I hg hm boot_range (PyProof.Rows.callWith_type1 (thn (ha pos pins s O H _ I h) fun us s1 ⟨vs,H1,I1,r1,q1⟩=>?_) hs rfl));obtain ⟨j,e,q1,q2,q⟩:=q1;subst e;cases r1 with | cons r rr=>
  cases rr;obtain ⟨t,rfl⟩:=r;exact call_range_1 (z85 I1 (by omega) (by omega) q1 q2 (by simpa using q))
theorem zbn{a b:Expr}{ta:TA}{p pos:Pos}(hg:Gl X "range")(hm:X.mg "range"=none)(ha:PA X [a,b] ta)(hs:starEach [a,b] X.env=[(false,eval a X.env),(false,eval b X.env)]:=by rfl)(hs2:starEach [b] X.env=[(false,eval b X.env)]:=by rfl): PI X tg (.Call (.Name "range" p) [a,b] [] pos) (zjq ta):=by
 intro pins s O H R I h;refine Call_ (z18 I hg hm boot_range (PyProof.Rows.callWith_type1 (thn (ha pos pins s O H _ I h) fun us s1 ⟨vs,H1,I1,r1,q1⟩=>?_) (by rw [hs,hs2]) (by rw [hs2];rfl)));obtain ⟨i,j,e,⟨q1,q2,q3,q4⟩,q⟩:=q1;subst e;cases r1 with | cons r rr=> cases rr with | cons r' rr=>
   cases rr;obtain ⟨t,rfl⟩:=r;obtain ⟨t',rfl⟩:=r';exact call_range_2 (z85 I1 q1 q2 q3 q4 q)
def zlq(wi:TI)(g:TG)(tb:TS):TS:=fun D O H=>wi O H fun J H1=>∃ W:Nat->Nat->St->Hp->Prop,(∃ m,W 0 m O H1)/\∀ i m O H,W i m O H-> (J.stop i H/\D.nx O H)\/(J.go i H/\∃ N:St->Hp->Prop,(∀ O' H',N O' H'->∃ m',m'<m/\W (i+1) m' O' H')/\∀ x H',J.yld i H x H'->g x O H' fun O2 H2=>tb {D with nx:=N,ct:=N,bk:=D.nx} O2 H2)
def z65(fp:List Addr)(h:Heap):List (Addr×Obj):=fp.filterMap fun b=>(h.get? b).map fun o=>(b,o)
theorem z0v{fp:List Addr}{h:Heap}{b:Addr}{o:Obj}(hb:b∈fp)(e:h.get? b=some o):(b,o)∈z65 fp h:=List.mem_filterMap.mpr ⟨b,hb,by rw [e];rfl⟩
theorem zbH{fp:List Addr}{h:Heap}{p:Addr×Obj}(hp:p∈z65 fp h):p.1∈fp/\h.get? p.1=some p.2:=by
 obtain ⟨b,hb,e⟩:=List.mem_filterMap.mp hp;cases q:h.get? b with
 | none=>rw [q] at e;cases e | some o=>
  rw [q] at e;have e':(b,o)=p:=Option.some.inj e;subst e';exact ⟨hb,q⟩
theorem Inv.pinned{pins:List (Addr×Obj)}{O:St}{H:Hp}{s:Shared}{fp:List Addr}(I:Inv X pins O H s)(hf:∀ b∈fp,z7L X pins H b)(ho:∀ b∈fp,∃ o,s.heap.get? b=some o/\∀ v,o.data≠.cell v):Inv X (pins++z65 fp s.heap) O H s:= I.pins_of fun p hp=>(List.mem_append.mp hp).elim (fun z=>I.pin p (List.mem_append_right _ z)) fun z=>by
  obtain ⟨hb,e⟩:=zbH z;obtain ⟨f0,f1,f2,_⟩:=hf p.1 hb;obtain ⟨o,e',d⟩:=ho p.1 hb;rw [e] at e';cases e';exact ⟨e,f0,f1,f2,d⟩
theorem Inv.unpinned{pins pl:List (Addr×Obj)}{O:St}{H:Hp}{s:Shared}(I:Inv X (pins++pl) O H s):Inv X pins O H s:=I.pins_of fun p hp=>I.pin p (List.mem_append_right _ (List.mem_append_left _ hp))
theorem zhy{iter:Expr}{body:List Stmt}{wi:TI}{g:TG}{tb:TS}{pos:Pos}(hp:PassesOwn (model X.prog X.w) X.A X.env X.xe)(hc:X.calm=true)(hi:PI X tg iter wi)(hg:PG X tg g)(hb:PSs X body tb) (hs:∀ x,foldedSetIterable iter X.env x=pure x:=by intro _;rfl):PS X (.For tg iter body [] pos) (zlq wi g tb):=by
 intro pins s O H D I h;refine wpAny_For (thn (hi pins s O H _ I h) fun v s1 h1=>thn h1 fun itv s2 h2=>?_) hs;obtain ⟨it,fp,tn,J,H2,e,I2,T,st2,f2,W,⟨m0,w0⟩,turn⟩:=h2;subst e;have stat:∀ {H':Hp},(∀ b∈fp,H' b=none)->∀ b∈fp,z7L X pins H' b:=fun hn b hb=>⟨hn b hb,(f2 b hb).2⟩;refine codeAny_forLoop_any (fun n s'=>∃ i O' H',Inv X pins O' H' s'/\tn i s'.heap/\(∀ b∈fp,H' b=none)/\W i n O' H') ?_ m0 ⟨0,O,H2,I2,st2,fun b hb=>(f2 b hb).1,w0⟩;rintro n s3 ⟨i,O3,H3,I3,st3,fr3,w3⟩;rcases turn i n O3 H3 w3 with ⟨stop,qn⟩ | ⟨go,N,hN,step⟩
 ·refine wpAny_passesOwn hp (thn (T.done X rfl rfl rfl hc i pins s3 O3 H3 X.xe I3 (stat fr3) st3 stop) fun r s4 ⟨hr,I4⟩=>?_);subst hr;exact wpAny_execs_nil ⟨O3,H3,I4,qn⟩
 ·refine wpAny_passesOwn hp (thn (T.item X rfl rfl rfl hc i pins s3 O3 H3 X.xe I3 (stat fr3) st3 go) fun r s4 ⟨u,hr,h4⟩=>?_);subst hr;refine wpAny_passesOwn hp (thn h4 fun _ s5 ⟨x,H5,I5,r5,y5,st5,fr5⟩=>?_);have I5':=I5.pinned (stat fr5) (T.obj _ _ st5);refine wpAny_passesOwn hp (thn (hg _ s5 O3 H5 x u _ I5' r5 (step x H5 y5)) fun _ s6 ⟨O6,H6,I6,q6⟩=>?_);refine wpAny_passesOwn hp (thn (hb _ s6 O6 H6 _ I6 q6) fun f s7 q7=>?_);have again:∀ {O7:St}{H7:Hp},Inv X (pins++z65 fp s5.heap) O7 H7 s7->N O7 H7->∃ m,m<n/\∃ i O' H',Inv X pins O' H' s7/\tn i s7.heap/\(∀ b∈fp,H' b=none)/\W i m O' H':=fun {O7 H7} I7 n7=>by
   obtain ⟨m',hm,w7⟩:=hN O7 H7 n7;refine ⟨m',hm,i+1,O7,H7,I7.unpinned,T.keep _ _ _ st5 fun b hb o e=>(I7.pin (b,o) (List.mem_append_right _ (List.mem_append_right _ (z0v hb e)))).1,fun b hb=>?_,w7⟩;obtain ⟨o,e,d⟩:=T.obj _ _ st5 b hb;exact (I7.pin (b,o) (List.mem_append_right _ (List.mem_append_right _ (z0v hb e)))).2.1
  cases f with
  | next=>obtain ⟨O7,H7,I7,n7⟩:=q7;exact again I7 n7 | cont=>obtain ⟨O7,H7,I7,n7⟩:=q7;exact again I7 n7 | brk=>obtain ⟨O7,H7,I7,q7⟩:=q7;exact ⟨O7,H7,I7.unpinned,q7⟩ | ret v=>obtain ⟨x7,O7,H7,I7,r7,q7⟩:=q7;exact ⟨x7,O7,H7,I7.unpinned,r7,q7⟩
end
abbrev R2:=V->V->Hp->VK->Prop
def OpR(X:Cx)(f:Value->Value->Sem Value)(r:R2):Prop:= ∀ (pins:List (Addr×Obj))(s:Shared)(O:St)(H:Hp)(x y:V)(v u:Value)(Q:VK),Inv X pins O H s->xx x v->xx y u->r x y H Q-> wpAny (model X.prog X.w) X.A (f v u) (EP X pins O Q) X.xe s
def UnR(X:Cx)(f:Value->Sem Value)(r:V->Hp->VK->Prop):Prop:= ∀ (pins:List (Addr×Obj))(s:Shared)(O:St)(H:Hp)(x:V)(v:Value)(Q:VK),Inv X pins O H s->xx x v->r x H Q-> wpAny (model X.prog X.w) X.A (f v) (EP X pins O Q) X.xe s
def xz(X:Cx)(f:Value)(r:List V->Hp->VK->Prop):Prop:= ∀ (pins:List (Addr×Obj))(s:Shared)(O:St)(H:Hp)(xs:List V)(us:List Value)(Q:VK),Inv X pins O H s->yW xs us->r xs H Q-> wpAny (model X.prog X.w) X.A (call f us) (EP X pins O Q) X.xe s
def tOp(r:R2)(ta tb:TE):TE:=fun O H Q=>ta O H fun x H1=>tb O H1 fun y H2=>r x y H2 Q
def tUn(r:V->Hp->VK->Prop)(ta:TE):TE:=fun O H Q=>ta O H fun x H1=>r x H1 Q
def rI(C:Int->Int->Prop)(g:Int->Int->V):R2:=fun x y H Q=>∃ i j,x=.int i/\y=.int j/\C i j/\Q (g i j) H
def rI0(g:Int->Int->V):R2:=fun x y H Q=>∃ i j,x=.int i/\y=.int j/\Q (g i j) H
def rU(g:Int->V):V->Hp->VK->Prop:=fun x H Q=>∃ i,x=.int i/\Q (g i) H
section
variable {X:Cx}{a b c:Expr}{ta tb tc:TE}{pos:Pos}
theorem zjy(ha:PE X a ta)(hb:PE X b tb){pins:List (Addr×Obj)}{s:Shared}{O:St}{H:Hp}{R:V->V->Hp->Prop}(I:Inv X pins O H s) (h:ta O H fun x H1=>tb O H1 fun y H2=>R x y H2){Q:Value->Shared->Prop}{f:Value->Value->Sem Value} (hf:∀ v u s2 x y H2,Inv X pins O H2 s2->xx x v->xx y u->R x y H2->wpAny (model X.prog X.w) X.A (f v u) Q X.xe s2): wpAny (model X.prog X.w) X.A (eval a X.env) (fun v s₁=>wpAny (model X.prog X.w) X.A (eval b X.env) (fun u s₂=>wpAny (model X.prog X.w) X.A (f v u) Q X.xe s₂) X.xe s₁) X.xe s:=by
 refine thn (ha pins s O H _ I h) fun v s1 ⟨x,H1,I1,r1,q1⟩=>?_;refine thn (hb pins s1 O H1 _ I1 q1) fun u s2 ⟨y,H2,I2,r2,q2⟩=>?_;exact hf v u s2 x y H2 I2 r1 r2 q2
theorem zjU{op:Operator}{r:R2}(ho:OpR X (binaryOp op) r)(ha:PE X a ta)(hb:PE X b tb):PE X (.BinOp a op b pos) (tOp r ta tb):=by
 intro pins s O H Q I h;exact wpAny_BinOp (zjy ha hb I h fun v u s2 x y H2 I2 rx ry q=>ho pins s2 O H2 x y v u Q I2 rx ry q)
theorem zkq{op:UnaryOp}{r:V->Hp->VK->Prop}(ho:UnR X (unaryOp op) r)(ha:PE X a ta):PE X (.UnaryOp op a pos) (tUn r ta):=by
 intro pins s O H Q I h;exact UnaryOp_ (thn (ha pins s O H _ I h) fun v s1 ⟨x,H1,I1,r1,q1⟩=>ho pins s1 O H1 x v Q I1 r1 q1)
theorem opI {f:Value->Value->Sem Value} {C:Int->Int->Prop} {g:Int->Int->Int} (rule:∀ (i j:Int) (t u:Tok) (s:Shared) (Q:Value->Shared->Prop) (E:Value->Shared->Prop),C i j->Q (.int (g i j) s.toks) {s with toks:=s.toks+1}->wpAny (model X.prog X.w) X.A (f (.int i t) (.int j u)) Q E s): OpR X f (rI C fun i j=>.int (g i j)):=by
 intro pins s O H x y v u Q I rx ry h;obtain ⟨i,j,rfl,rfl,hc,q⟩:=h;obtain ⟨t,rfl⟩:=rx;obtain ⟨t',rfl⟩:=ry;exact rule i j t t' s _ _ hc ⟨.int (g i j),H,I.tok _,⟨_,rfl⟩,q⟩
theorem zl0 {f:Value->Value->Sem Value} {g:Int->Int->Int} (rule:∀ (i j:Int) (t u:Tok) (s:Shared) (Q:Value->Shared->Prop) (E:Value->Shared->Prop),Q (.int (g i j) s.toks) {s with toks:=s.toks+1}->wpAny (model X.prog X.w) X.A (f (.int i t) (.int j u)) Q E s): OpR X f (rI0 fun i j=>.int (g i j)):=by
 intro pins s O H x y v u Q I rx ry h;obtain ⟨i,j,rfl,rfl,q⟩:=h;obtain ⟨t,rfl⟩:=rx;obtain ⟨t',rfl⟩:=ry;exact rule i j t t' s _ _ ⟨.int (g i j),H,I.tok _,⟨_,rfl⟩,q⟩
theorem ziK{f:Value->Value->Sem Value}{g:Int->Int->Bool} (rule:∀ (i j:Int)(t u:Tok)(s:Shared)(Q:Value->Shared->Prop)(E:Value->Shared->Prop),Q (.bool (g i j)) s->wpAny (model X.prog X.w) X.A (f (.int i t) (.int j u)) Q E s): OpR X f (rI0 fun i j=>.bl (g i j)):=by
 intro pins s O H x y v u Q I rx ry h;obtain ⟨i,j,rfl,rfl,q⟩:=h;obtain ⟨t,rfl⟩:=rx;obtain ⟨t',rfl⟩:=ry;exact rule i j t t' s _ _ ⟨.bl (g i j),H,I,rfl,q⟩
def zlR(i j:Int):Prop:=0<=j/\j<=1000000/\i.natAbs<2 ^ 64
theorem zgz:OpR X (binaryOp .Add) (rI0 fun i j=>.int (i+j)):=zl0 fun _ _ _ _ _ _ _ q=>add_int q
theorem zhL:OpR X (binaryOp .Sub) (rI0 fun i j=>.int (i-j)):=zl0 fun _ _ _ _ _ _ _ q=>sub_int q
theorem zhh:OpR X (binaryOp .Mod) (rI (fun _ j=>0<j) fun i j=>.int (i % j)):=opI fun i j _ _ _ _ _ hc q=>by
 have h1:(0:Int)<j:=hc;exact mod_int' (by omega) (by rw [Int.fmod_eq_emod_of_nonneg i (by omega)];exact q)
theorem zi8:OpR X (binaryOp .Pow) (rI zlR fun i j=>.int (i ^ j.toNat)):=opI fun _ _ _ _ _ _ _ hc q=>pow_int_small hc.1 hc.2.1 hc.2.2 q
theorem unI {f:Value->Sem Value} {g:Int->Int} (rule:∀ (i:Int) (t:Tok) (s:Shared) (Q:Value->Shared->Prop) (E:Value->Shared->Prop),Q (.int (g i) s.toks) {s with toks:=s.toks+1}->wpAny (model X.prog X.w) X.A (f (.int i t)) Q E s): UnR X f (rU fun i=>.int (g i)):=by
 intro pins s O H x v Q I rx h;obtain ⟨i,rfl,q⟩:=h;obtain ⟨t,rfl⟩:=rx;exact rule i t s _ _ ⟨.int (g i),H,I.tok _,⟨_,rfl⟩,q⟩
theorem zib:UnR X (unaryOp .USub) (rU fun i=>.int (-i)):=unI fun _ _ _ _ _ q=>neg_int q
end
section
variable {X:Cx}{a b c:Expr}{ta tb tc:TE}{pos:Pos}
theorem zkx:OpR X (compareOp .Lt) (rI0 fun i j=>.bl (decide (i<j))):=ziK fun _ _ _ _ _ _ _ q=>lt_int q
theorem zjK:OpR X (compareOp .LtE) (rI0 fun i j=>.bl (decide (i<=j))):=ziK fun _ _ _ _ _ _ _ q=>le_int q
theorem zkv:OpR X (compareOp .Gt) (rI0 fun i j=>.bl (decide (j<i))):=ziK fun _ _ _ _ _ _ _ q=>gt_int q
theorem zjn:OpR X (compareOp .GtE) (rI0 fun i j=>.bl (decide (j<=i))):=ziK fun _ _ _ _ _ _ _ q=>ge_int q
theorem OpR.or{f:Value->Value->Sem Value}{r r':R2}(h:OpR X f r)(h':OpR X f r'):OpR X f (fun x y H Q=>r x y H Q\/r' x y H Q):=by
 intro pins s O H x y v u Q I rx ry q;rcases q with q | q;·exact h pins s O H x y v u Q I rx ry q
 ·exact h' pins s O H x y v u Q I rx ry q
theorem zdH(b:Expr){op:CmpOp}(h:op≠.In:=by decide)(h2:op≠.NotIn:=by decide):behindInMarks op b=false:=by
 have e1:(op==CmpOp.In)=false:=by cases op<;>first | rfl | exact absurd rfl h
 have e2:(op==CmpOp.NotIn)=false:=by cases op<;>first | rfl | exact absurd rfl h2
 cases b<;>simp [behindInMarks,e1,e2]
theorem zbI{op:CmpOp}{r:R2}(ho:OpR X (compareOp op) r)(ha:PE X a ta)(hb:PE X b tb)(hm:behindInMarks op b=false):PE X (.Compare a [op] [b] pos) (tOp r ta tb):=by
 intro pins s O H Q I h;exact wpAny_Compare1 (zjy ha hb I h fun v u s2 x y H2 I2 rx ry q=>ho pins s2 O H2 x y v u Q I2 rx ry q) hm
def zf4(t:TE):TT:=fun O H Q=>t O H fun x H'=>∃ k,x=.bl k/\Q k H'
theorem zfn{op:CmpOp}{r:R2}(ho:OpR X (compareOp op) r)(ha:PE X a ta)(hb:PE X b tb)(hm:behindInMarks op b=false):PT X (.Compare a [op] [b] pos) (zf4 (tOp r ta tb)):=by
 intro pins s O H Q I h;refine wpAny_isTrue_Compare1 (thn (ha pins s O H _ I h) fun v s1 ⟨x,H1,I1,r1,q1⟩=>thn (hb pins s1 O H1 _ I1 q1) fun u s2 ⟨y,H2,I2,r2,q2⟩=> thn (ho pins s2 O H2 x y v u _ I2 r1 r2 q2) fun c s3 ⟨z,H3,I3,r3,k,e,q3⟩=>?_) hm;subst e;cases r3;exact wpAny_truthy_bool ⟨H3,I3,q3⟩
def za2(r r':R2)(ta tb tc:TE):TE:=fun O H Q=>ta O H fun x H1=>tb O H1 fun y H2=>r x y H2 fun z H3=>∃ k,z=.bl k/\ (if k=true then tc O H3 fun w' H4=>r' y w' H4 Q else Q (.bl false) H3)
theorem zcp{op op':CmpOp}{r r':R2}(ho:OpR X (compareOp op) r)(ho':OpR X (compareOp op') r')(ha:PE X a ta)(hb:PE X b tb)(hc:PE X c tc) (hm:lastMarks [op,op'] [b,c]=false:=by with_unfolding_all rfl):PE X (.Compare a [op,op'] [b,c] pos) (za2 r r' ta tb tc):=by
 intro pins s O H Q I h;refine Compare_chain (thn (ha pins s O H _ I h) fun v s1 ⟨x,H1,I1,r1,q1⟩=>chain_link (thn (hb pins s1 O H1 _ I1 q1) fun u s2 ⟨y,H2,I2,r2,q2⟩=> thn (ho pins s2 O H2 x y v u _ I2 r1 r2 q2) fun d s3 ⟨z,H3,I3,r3,k,e,q3⟩=>?_)) hm;subst e;cases r3;refine wpAny_truthy_bool ?_;cases k with
 | false=>exact ite_ff ⟨.bl false,H3,I3,rfl,q3⟩ | true=>exact ite_tt (chain_last (thn (hc pins s3 O H3 _ I3 q3) fun w' s4 ⟨z',H4,I4,r4,q4⟩=>ho' pins s4 O H4 y z' u w' Q I4 r2 r4 q4))
theorem zcF{op op':CmpOp}{r r':R2}(ho:OpR X (compareOp op) r)(ho':OpR X (compareOp op') r')(ha:PE X a ta)(hb:PE X b tb)(hc:PE X c tc) (hm:lastMarks [op,op'] [b,c]=false:=by with_unfolding_all rfl):PT X (.Compare a [op,op'] [b,c] pos) (zf4 (za2 r r' ta tb tc)):=by
 intro pins s O H Q I h;refine isTrue_chain (thn (ha pins s O H _ I h) fun v s1 ⟨x,H1,I1,r1,q1⟩=>test_link (thn (hb pins s1 O H1 _ I1 q1) fun u s2 ⟨y,H2,I2,r2,q2⟩=> thn (ho pins s2 O H2 x y v u _ I2 r1 r2 q2) fun d s3 ⟨z,H3,I3,r3,k,e,q3⟩=>?_)) hm;subst e;cases r3;refine wpAny_truthy_bool ?_;cases k with
 | false=>
  obtain ⟨k',e',q'⟩:=q3;cases e';exact ite_ff ⟨H3,I3,q'⟩ | true=>
  refine ite_tt (test_last (thn (hc pins s3 O H3 _ I3 q3) fun w' s4 ⟨z',H4,I4,r4,q4⟩=>thn (ho' pins s4 O H4 y z' u w' _ I4 r2 r4 q4) fun d' s5 ⟨z2,H5,I5,r5,k2,e2,q5⟩=>?_));subst e2;cases r5;exact wpAny_truthy_bool ⟨H5,I5,q5⟩
theorem z6o:(sizeLine:Nat)<2 ^ 63:=by rw [sizeLine_eq];decide
theorem z9J:OpR X (binaryOp .Add) (fun x y H Q=>∃ i j,x=.str i/\y=.str j/\i.length+j.length<=sizeLine/\Q (.str (i++j)) H):=by
 intro pins s O H x y v u Q I rx ry h;obtain ⟨i,j,rfl,rfl,hz,q⟩:=h;obtain ⟨t,rfl⟩:=rx;obtain ⟨t',rfl⟩:=ry;exact add_str (fun t' tk=>⟨.str (i++j),H,I.tok _,⟨_,rfl⟩,q⟩) hz
theorem vals1{x:V}{us:List Value}(r:yW [x] us):∃ u,us=[u]/\xx x u:=by cases r with | cons r1 r2=>cases r2;exact ⟨_,rfl,r1⟩
theorem vals2{x y:V}{us:List Value}(r:yW [x,y] us):∃ u w',us=[u,w']/\xx x u/\xx y w':=by cases r with | cons r1 r2=> cases r2 with | cons r3 r4=>cases r4;exact ⟨_,_,rfl,r1,r3⟩
theorem zd5:xz X (.builtin "abs") (fun xs H Q=>∃ i,xs=[.int i]/\Q (.int (if i<0 then -i else i)) H):=by
 intro pins s O H xs us Q I r h;obtain ⟨i,rfl,q⟩:=h;obtain ⟨u,rfl,t,rfl⟩:=vals1 r;exact call_abs_int fun u tk=>⟨.int (if i<0 then -i else i),H,I.tok _,⟨_,rfl⟩,q⟩
theorem zaF(hc:X.calm=true):xz X (.builtin "max") (fun xs H Q=>∃ i j,xs=[.int i,.int j]/\Q (.int (if j > i then j else i)) H):=by
 intro pins s O H xs us Q I r h;obtain ⟨i,j,rfl,q⟩:=h;obtain ⟨u,w',rfl,⟨t,rfl⟩,⟨t',rfl⟩⟩:=vals2 r;refine max_two_ints (I.ok.hd hc) fun h' tk k=>⟨_,H,I.kept k,?_,q⟩;by_cases hj:j > i;·rw [if_pos hj,if_pos hj];exact ⟨_,rfl⟩
 ·rw [if_neg hj,if_neg hj];exact ⟨_,rfl⟩
theorem zbK(hc:X.calm=true):xz X (.builtin "min") (fun xs H Q=>∃ i j,xs=[.int i,.int j]/\Q (.int (if j<i then j else i)) H):=by
 intro pins s O H xs us Q I r h;obtain ⟨i,j,rfl,q⟩:=h;obtain ⟨u,w',rfl,⟨t,rfl⟩,⟨t',rfl⟩⟩:=vals2 r;refine min_two_ints (I.ok.hd hc) fun h' tk k=>⟨_,H,I.kept k,?_,q⟩;by_cases hj:j<i;·rw [if_pos hj,if_pos hj];exact ⟨_,rfl⟩
 ·rw [if_neg hj,if_neg hj];exact ⟨_,rfl⟩
end
structure zkb(h:Heap)(x dx C:Addr)(mA:Str->Option Value):Prop where
 obj:h.get? x=some (W.instObj C dx)
 ns:h.Ns1 dx mA
 ne:dx≠x
theorem zaS{h:Heap}{dx:Addr}{mA:Str->Option Value}(n:h.Ns1 dx mA):∃ od,h.get? dx=some od/\∀ name,W.lookIn name od=some (mA name):=by
 obtain ⟨o,es,ep,ho,hd,hk,_,hm⟩:=n;refine ⟨o,ho,fun name=>?_⟩;have e:=hm name;unfold nsFind findBy at e;rw [<- Array.find?_toList] at e;unfold W.lookIn;rw [hd];dsimp only;split
 ·rename_i y q;rw [q] at e;exact congrArg some e
 ·rename_i q;rw [q] at e;have a:es.toList.any (·.refKey)=false:=by
   rw [List.any_eq_false];intro y hy;obtain ⟨z,t,hkey⟩:=hk y (Array.mem_toList_iff.mp hy);simp [DictEntry.refKey,hkey]
  have a':¬ es.toList.any (·.refKey)=true:=by rw [a];exact Bool.false_ne_true
  rw [if_neg a'];exact congrArg some e
theorem zkb.look{h:Heap}{x dx C:Addr}{mA:Str->Option Value}(I:zkb h x dx C mA):∃ od,W.InstAt h x (W.instObj C dx) C (some od)/\∀ name,W.lookIn name od=some (mA name):= let ⟨od,ho,hl⟩:=zaS I.ns;⟨od,⟨I.obj,rfl,rfl,ho⟩,hl⟩
section
variable {P:Program}{w:World}{H H':Hp}{h h':Heap}{a C dx:Addr}{fs fs':List (Str×V)}
theorem zeE(hok:HOk P w H h)(e:H a=some (.ins C dx fs)):∃ mA,zkb h a dx C mA/\(∀ f,zgl (fs.lookup f) (mA f))/\PySem.Within mA (fs.map (·.1))/\fs.length<=1000/\H dx=some (.own a):=by
 obtain ⟨d,z,ne,ob,mA,n,r,q⟩:=(show xL P w H h a (.ins C dx fs) from hok a _ e);exact ⟨mA,⟨ob,n,ne⟩,r,q,z,d⟩
end
structure Cls(K:W.Frag)(C:Addr):Prop where
 pg:W.plainGet K C Str.empty=true
 hd:W.hasDictIn K C=true
 po:W.plainOver K C=true
 sa:W.findIn K (.ref C) "__setattr__"=some (some (.builtin "object.__setattr__"))
theorem Cls.get{K:W.Frag}{C:Addr}(c:Cls K C)(f:Str):W.plainGet K C f=true:=c.pg
section
variable {X:Cx}{pins:List (Addr×Obj)}{O:St}{H:Hp}{s:Shared}{A:Around}{E:Value->Shared->Prop}{Q:Value->Shared->Prop}{c:Value}{b:Bool}
inductive z8z(K:W.Frag)(H:Hp):V->Value->Prop where | non:z8z K H .non (.type "NoneType") | bl (x:Bool):z8z K H (.bl x) (.type "bool") | int (i:Int):z8z K H (.int i) (.type "int") | str (x:Str):z8z K H (.str x) (.type "str") | flt (x:UInt64):z8z K H (.flt x) (.type "float") | lst {a:Addr}{xs:List V}(e:H a=some (.lst xs)):z8z K H (.ref a) (.type "list") | frz {a:Addr}{o:Obj}{xs:List V}(e:H a=some (.frz o (.lst xs))):z8z K H (.ref a) (.type "list") | tup {a:Addr}{xs:List V}(e:H a=some (.tup xs)):z8z K H (.ref a) (.type "tuple") | dK {a:Addr}{kvs:List (Key×V)}(e:H a=some (.dK kvs)):z8z K H (.ref a) (.type "dict") | dT {a:Addr}{kvs:List (List Key×V)}(e:H a=some (.dT kvs)):z8z K H (.ref a) (.type "dict") | ins {a C dx:Addr}{fs:List (Str×V)}(e:H a=some (.ins C dx fs))(cl:Cls K C)(ha:W.findIn K (.ref C) "__class__"=some (some (.builtin "object.__class__"))) (hn:W.specialIn K (.builtin "object.__class__") "__get__"=some (some (.builtin "getset_descriptor.__get__")))(htk:W.takesIn K (.builtin "object.__class__")=some true) (hm:W.mroIn K C (.type "object")=some true):z8z K H (.ref a) (.ref C)
theorem zaH {x:V} {u t:Value} (I:Inv X pins O H s) (rx:xx x u) (ty:z8z X.K H x t) (e:W.kitOne X.K t c=some b) (h:∀ tk,Q (.bool b) {s with toks:=tk}): wpAny (model X.prog X.w) A (call (.builtin "isinstance") [u,c]) Q E s:=by cases ty with
 | non=>cases (show u=Value.none from rx);exact W.kia_one W.kitx_none I.kIn True.intro e (fun z=>nomatch z) h | bl y=>cases (show u=Value.bool y from rx);exact W.kia_one W.kitx_bool I.kIn True.intro e (fun z=>nomatch z) h | int i=>obtain ⟨t,q⟩:=(show ∃ t,u=Value.int i t from rx);cases q;exact W.kia_one W.kitx_int I.kIn True.intro e (fun z=>nomatch z) h | str y=>obtain ⟨t,q⟩:=(show ∃ t,u=Value.str y t from rx);cases q;exact W.kia_one W.kitx_str I.kIn True.intro e (fun z=>nomatch z) h | flt y=>obtain ⟨t,q⟩:=(show ∃ t,u=Value.float y t from rx);cases q;exact W.kia_one W.kitx_float I.kIn True.intro e (fun z=>nomatch z) h | @lst a xs ea=>
  cases (show u=Value.ref a from rx);obtain ⟨_,_,n,_,h1⟩:=(show xL X.prog X.w H s.heap a (.lst xs) from I.hok a _ ea);exact W.kia_one W.kitx_list I.kIn ⟨_,h1,rfl⟩ e (fun z=>nomatch z) h | @frz a ob xs ea=>
  cases (show u=Value.ref a from rx);obtain ⟨_,_,_,n,_,h1⟩:=(show xL X.prog X.w H s.heap a (.frz ob (.lst xs)) from I.hok a _ ea);exact W.kia_one W.kitx_list I.kIn ⟨_,h1,rfl⟩ e (fun z=>nomatch z) h | @tup a xs ea=>
  cases (show u=Value.ref a from rx);obtain ⟨_,_,_,p⟩:=(show xL X.prog X.w H s.heap a (.tup xs) from I.hok a _ ea);obtain ⟨o,h1,h2,_⟩:=p;exact W.kia_one W.kitx_tuple I.kIn ⟨o,h1,h2⟩ e (fun z=>nomatch z) h | @dK a kvs ea=>
  cases (show u=Value.ref a from rx);obtain ⟨_,_,vs,_,p⟩:=(show xL X.prog X.w H s.heap a (.dK kvs) from I.hok a _ ea);obtain ⟨o,es,ep,h1,h2,_⟩:=p;exact W.kia_one W.kitx_dict I.kIn ⟨o,h1,h2.1⟩ e (fun z=>nomatch z) h | @dT a kvs ea=>
  cases (show u=Value.ref a from rx);obtain ⟨_,_,xs,_,o,es,ep,h1,h2,_⟩:=(show xL X.prog X.w H s.heap a (.dT kvs) from I.hok a _ ea);exact W.kia_one W.kitx_dict I.kIn ⟨o,h1,h2.1⟩ e (fun z=>nomatch z) h | @ins a C dx fs ea cl ha hn htk hm=>
  cases (show u=Value.ref a from rx);obtain ⟨mA,Oo,_⟩:=zeE I.hok ea;obtain ⟨od,J,_⟩:=Oo.look;exact W.kia_one (W.kitx_own (cl.get _) cl.hd ha hn htk hm) I.kIn J e (fun z=>nomatch z) h
end
structure z0l(k:Nat)(A:Around):Prop where
 hd:A.handled=none
 dp:A.depth+3*k+5<recursionLimit
 un:A.units+16*k+200<cLine
 gd:A.guards=some []
theorem z0l.mono{j k:Nat}{A:Around}(r:z0l k A)(h:j<=k):z0l j A:=⟨r.hd,by have:=r.dp;omega,by have:=r.un;omega,r.gd⟩
theorem z0l.deeper{k:Nat}{A:Around}(r:z0l (k+1) A)(env:Env):z0l k (A.deeper env):= ⟨r.hd,by have:=r.dp;show A.depth+1+3*k+5<_;omega,by have:=r.un;show A.units+3+16*k+200<_;omega,r.gd⟩
theorem z0l.depth{k:Nat}{A:Around}(r:z0l k A):A.depth<recursionLimit:=by have:=r.dp;omega
theorem z0l.units{k:Nat}{A:Around}(r:z0l k A):A.units+64<cLine:=by have:=r.un;omega
def zkN:TA:=fun _ H Q=>Q [] H
def zjz(ta:TE)(tr:TA):TA:=fun O H Q=>ta O H fun x H1=>tr O H1 fun xs H2=>Q (x::xs) H2
section
variable {X:Cx}{e:Expr}{es:List Expr}{te:TE}{t:TA}{pos:Pos}
theorem kI:PA X [] zkN:=fun _ _ _ _ H Q I h=>Calls.spliced_nil ⟨[],H,I,.nil,h⟩
theorem va(ha:PE X e te)(hr:PA X es t)(hs:starEach (e::es) X.env=(false,eval e X.env)::starEach es X.env:=by rfl):PA X (e::es) (zjz te t):=by
 intro pos pins s O H Q I h;rw [hs];show wpAny _ _ (spliced ((false,eval e X.env)::backTo pos (starEach es X.env))) _ _ s;refine Calls.spliced_cons (thn (ha pins s O H _ I h) fun u s1 ⟨x,H1,I1,r1,q1⟩=>?_);exact thn (hr pos pins s1 O H1 _ I1 q1) fun us s2 ⟨xs,H2,I2,r2,q2⟩=>⟨x::xs,H2,I2,.cons r1 r2,q2⟩
def zlL(t:TA):TE:=fun O H Q=>t O H fun xs H1=>xs.length<=sizeLine/\∀ p,H1 p=none->Q (.ref p) (upd H1 p (.tup xs))
def zlx(t:TA):TE:=fun O H Q=>t O H fun xs H1=>xs.length<=sizeLine/\∀ p,H1 p=none->Q (.ref p) (upd H1 p (.lst xs))
theorem ziw{x1}(h:PA X es t):PE X (.Tuple es x1 pos) (zlL t):=by
 intro pins s O H Q I hq;refine wpAny_Tuple_spliced (thn (h pos pins s O H _ I hq) fun us s1 ⟨xs,H1,I1,r,z,q⟩=>⟨by rw [<- r.length];exact z,?_⟩);have hf:H1 s1.heap.objs.size=none:=I1.hok.fresh (Nat.le_refl _);refine ⟨.ref s1.heap.objs.size,upd H1 s1.heap.objs.size (.tup xs),I1.laid (t':=s1.toks) (fun b u e=>Heap.get?_push_of_some _ e) (Nat.le_refl _) ?_,rfl,q _ hf⟩;exact ⟨z,us,r,⟨_,Heap.get?_push_size _ rfl,rfl,rfl,_,rfl⟩⟩
theorem ze1(h:PA X es t):PE X (.List es pos) (zlx t):=by
 intro pins s O H Q I hq;refine wpAny_List_spliced (thn (h pos pins s O H _ I hq) fun us s1 ⟨xs,H1,I1,r,z,q⟩=>⟨by rw [<- r.length];exact z,?_⟩);have hf:H1 s1.heap.objs.size=none:=I1.hok.fresh (Nat.le_refl _);refine ⟨.ref s1.heap.objs.size,upd H1 s1.heap.objs.size (.lst xs),I1.laid (t':=s1.toks) (fun b u e=>Heap.get?_push_of_some _ e) (Nat.le_refl _) ?_,rfl,q _ hf⟩;exact ⟨z,us,0,r,Heap.get?_push_size _ rfl⟩
end
abbrev Sp:=List V->Hp->VK->XK->Prop
abbrev CXT:=List Env->Hp->Shared->XK->Value->Shared->Prop
structure zgu(P:Program)(w:World)(K:W.Frag)(mg:Str->Option Value)(base:Heap)(A:Around)(outer:List Env)(s:Shared)(H:Hp):Prop where
 frames:A.frames=some outer
 mod:Mod K mg base
 bs:∀ b o,base.get? b=some o->s.heap.get? b=some o/\H b=none
 bsz:base.objs.size<=s.heap.objs.size
 funs:s.heap.FunFrames base outer
 frf:∀ b∈frs outer,H b=none
 hok:HOk P w H s.heap
 bare:AllBare s.gens
def CE(outer:List Env)(P:Program)(w:World)(H:Hp)(s:Shared)(Q:VK)(u:Value)(s':Shared):Prop:= ∃ v H',s'.os=s.os/\AllBare s'.gens/\Un (frs outer) [] H H' s.heap s'.heap/\HOk P w H' s'.heap/\xx v u/\Q v H'
def CR(CX:CXT)(outer:List Env)(P:Program)(w:World)(H:Hp)(s:Shared)(Q:VK)(E:XK)(r:Result)(s':Shared):Prop:= match r with
 | .ok (.ret u)=>CE outer P w H s Q u s' | .ok _=>False | .error e=>CX outer H s E e s'
structure z4h(P:Program)(w:World)(K:W.Frag)(mg:Str->Option Value)(base:Heap)(CX:CXT)(k:Nat)(f:Addr)(fd:FuncData)(ps:List Str)(sp:Sp):Prop where
 len:∀ vs H Q E,sp vs H Q E->vs.length=ps.length
 run:∀ (A:Around)(outer:List Env)(s:Shared)(H:Hp)(args:Args)(us:List Value)(vs:List V)(Q:VK)(E:XK),z0l k A->zgu P w K mg base A outer s H->BindsTo s fd args (ps.zip us)->yW vs us->sp vs H Q E-> codeAny (model P w) A (.call (.ref f) args) (CR CX outer P w H s Q E) s
theorem z4h.mono{P:Program}{w:World}{K:W.Frag}{mg:Str->Option Value}{base:Heap}{CX:CXT}{j k:Nat}{f:Addr}{fd:FuncData}{ps:List Str}{sp:Sp}(F:z4h P w K mg base CX j f fd ps sp)(h:j<=k): z4h P w K mg base CX k f fd ps sp:=⟨F.len,fun A outer s H args us vs Q E hr=>F.run A outer s H args us vs Q E (hr.mono h)⟩
theorem z4h.imp{P:Program}{w:World}{K:W.Frag}{mg:Str->Option Value}{base:Heap}{CX:CXT}{k:Nat}{f:Addr}{fd:FuncData}{ps:List Str}{sp sp':Sp}(F:z4h P w K mg base CX k f fd ps sp) (h:∀ vs H Q E,sp' vs H Q E->sp vs H Q E):z4h P w K mg base CX k f fd ps sp':= ⟨fun vs H Q E q=>F.len vs H Q E (h _ _ _ _ q),fun A outer s H args us vs Q E hr he hb hv hs=>F.run A outer s H args us vs Q E hr he hb hv (h _ _ _ _ hs)⟩
section
variable {X:Cx}{pins:List (Addr×Obj)}{O:St}{H:Hp}{s s':Shared}
theorem Inv.env0(I:Inv X pins O H s):zgu X.prog X.w X.K X.mg X.base X.A X.stack s H:= ⟨I.ok.frames,I.ok.mod,I.bs,Nat.le_trans I.ok.bsz I.sz,I.stack,I.stkFree,I.hok,I.bare⟩
theorem Inv.after {Q:VK} {u:Value} (I:Inv X pins O H s) (h:CE X.stack X.prog X.w H s Q u s'):EP X pins O Q u s':=by
 obtain ⟨v,H',os,bare,un,hok,r,q⟩:=h;obtain ⟨hh,g,d,t,os'⟩:=s';obtain rfl:os'=s.os:=os;exact ⟨v,H',I.call (h':=hh) (g':=g) (d':=d) (t':=t) (ch:=[]) un hok bare (fun b z=>absurd z (by simp)),r,q⟩
end
def zge(sp:Sp)(dvs:List V)(E:XK)(t:TA):TE:=fun O H Q=>t O H fun vs H1=>sp (vs++dvs) H1 Q E
def Binds(K:W.Frag)(fd:FuncData)(ps:List Str)(ds:List Value):Prop:= ∀ (s:Shared)(us:List Value),K.In s.heap->(us++ds).length=ps.length->BindsTo s fd ⟨us,[]⟩ (ps.zip (us++ds))
theorem Binds.all{K:W.Frag}{fd:FuncData}{ps:List Str}(h:∀ us:List Value,us.length=ps.length->bindArgs fd ⟨us,[]⟩=pure (ps.zip us)):Binds K fd ps []:=fun s us _ hl=>by
 rw [List.append_nil] at hl ⊢;exact .of_eq (h us hl)
def Passes(CX:CXT)(X:Cx)(E:XK):Prop:=∀ (pins:List (Addr×Obj))(O:St)(H:Hp)(s:Shared)(e:Value)(s':Shared),Inv X pins O H s->CX X.stack H s E e s'->X.xe e s'
section
variable {X:Cx}{CX:CXT}{k:Nat}{f C:Addr}{fd:FuncData}{ps:List Str}{sp:Sp}{dvs:List V}{ds:List Value}{E:XK}{x m:Str}{p pos apos:Pos}{e o:Expr}{es:List Expr}{ta:TE}{t:TA}
theorem z8l{pins:List (Addr×Obj)}{O:St}{H:Hp}{s:Shared}{Q:VK}{us:List Value}{vs:List V}(F:z4h X.prog X.w X.K X.mg X.base CX k f fd ps sp)(hr:z0l k X.A)(hb:Binds X.K fd ps ds)(hd:yW dvs ds)(hx:Passes CX X E) (I:Inv X pins O H s)(r:yW vs us)(h:sp (vs++dvs) H Q E):wpAny (model X.prog X.w) X.A (call (.ref f) us) (EP X pins O Q) X.xe s:=by
 have r2:yW (vs++dvs) (us++ds):=r.append hd;have hl:(us++ds).length=ps.length:=by rw [<- r2.length];exact F.len _ _ _ _ h
 refine wpAny_call (codeAny_mono (F.run X.A X.stack s H ⟨us,[]⟩ (us++ds) (vs++dvs) Q E hr I.env0 (hb s us I.kIn hl) r2 h) fun r s' hq=>?_);cases r with
 | error e=>exact hx pins O H s e s' I hq | ok fl=> cases fl with
  | ret u=>exact I.after hq | next=>exact False.elim hq | brk=>exact False.elim hq | cont=>exact False.elim hq
theorem zfw (F:z4h X.prog X.w X.K X.mg X.base CX k f fd ps sp) (hr:z0l k X.A) (hg:Gl X x) (hm:X.mg x=some (.ref f)) (hk:W.keepIn X.K (.ref f)=true) (hb:Binds X.K fd ps ds) (hd:yW dvs ds) (hx:Passes CX X E) (ha:PA X (e::es) t) (hdb:(x==("__debug__":Str))=false:=by decide) (he:starEach (e::es) X.env=(false,eval e X.env)::starEach es X.env:=by rfl) (hpl:(backTo pos (starEach es X.env)).any (·.1)=false:=by rfl): PE X (.Call (.Name x p) (e::es) [] pos) (zge sp dvs E t):=by
 intro pins s O H Q I h;refine wpAny_Call_Name_kw (z0I I hg hm ?_ hdb);refine W.callWith_K (h₀:=X.base) I.ok.mod.kin hk (thn (ha pos pins s O H _ I h) fun us s1 ⟨vs,H1,I1,r,q⟩=>⟨I1.kIn,?_⟩) he hpl;exact z8l F hr hb hd hx I1 r q
theorem zcs(F:z4h X.prog X.w X.K X.mg X.base CX k f fd ps sp)(hr:z0l k X.A)(hg:Gl X x)(hm:X.mg x=some (.ref f))(hk:W.keepIn X.K (.ref f)=true)(hb:Binds X.K fd ps ds)(hd:yW dvs ds)(hx:Passes CX X E) (hdb:(x==("__debug__":Str))=false:=by decide):PE X (.Call (.Name x p) [] [] pos) (zge sp dvs E zkN):=by
 intro pins s O H Q I h;refine wpAny_Call_Name_kw (z0I I hg hm ?_ hdb);exact W.callWith_K0 I.kIn hk (z8l (us:=[]) F hr hb hd hx I .nil h)
end
structure zv(N P:List Str)(sc:Scope):Prop where
 kind:sc.kind=.function
 co:sc.isCoroutine=false
 gen:sc.isGenerator=false
 nd:N.Nodup
 pre:N.take P.length=P
 par:∀ x∈P,sc.names.lookup x=some .local\/sc.names.lookup x=some .cell
 nofree:∀ y∈sc.names,y.2≠.free
theorem z5x{kindOf:Str->Option NameKind}{x:Str}:∀ {binds:List (Str×Value)}{m:Str->Option Value},(∀ v,(x,v)∉binds)->bindL kindOf binds m x=m x
 | [],_,_=>rfl | (n,v)::r,m,h=>by
  unfold bindL;rw [z5x fun w hw=>h w (List.mem_cons_of_mem _ hw)];split
  ·have:x≠n:=by rintro rfl;exact h v List.mem_cons_self
   simp [this]
  ·rfl
theorem z6j{kindOf:Str->Option NameKind}{x:Str}:∀ {binds:List (Str×Value)}{m:Str->Option Value},(∀ v,(x,v)∉binds)->bindC kindOf binds m x=m x
 | [],_,_=>rfl | (n,v)::r,m,h=>by
  unfold bindC;rw [z6j fun w hw=>h w (List.mem_cons_of_mem _ hw)];split;·rfl
  ·have:x≠n:=by rintro rfl;exact h v List.mem_cons_self
   simp [this]
theorem z6u{kindOf:Str->Option NameKind}{x:Str}{v:Value}:∀ {P:List Str}{vs:List Value}{i:Nat}{m:Str->Option Value},P.Nodup->P[i]? = some x->vs[i]? = some v->kindOf x=some .local-> bindL kindOf (P.zip vs) m x=some v
 | [],_,_,_,_,h,_,_=>by simp at h | _::_,[],_,_,_,_,h,_=>by simp at h | p::P,w::vs,0,m,nd,h1,h2,hk=>by
  simp at h1 h2;subst h1;subst h2;show bindL kindOf ((p,w)::P.zip vs) m p=_;unfold bindL;rw [z5x fun v hv=>(List.nodup_cons.mp nd).1 (List.of_mem_zip hv).1,if_pos hk];simp | p::P,w::vs,i+1,m,nd,h1,h2,hk=>by
  show bindL kindOf ((p,w)::P.zip vs) m x=_;unfold bindL;exact z6u (i:=i) (List.nodup_cons.mp nd).2 (by simpa using h1) (by simpa using h2) hk
theorem z69{kindOf:Str->Option NameKind}{x:Str}{v:Value}:∀ {P:List Str}{vs:List Value}{i:Nat}{m:Str->Option Value},P.Nodup->P[i]? = some x->vs[i]? = some v->kindOf x≠some .local-> bindC kindOf (P.zip vs) m x=some v
 | [],_,_,_,_,h,_,_=>by simp at h | _::_,[],_,_,_,_,h,_=>by simp at h | p::P,w::vs,0,m,nd,h1,h2,hk=>by
  simp at h1 h2;subst h1;subst h2;show bindC kindOf ((p,w)::P.zip vs) m p=_;unfold bindC;rw [z6j fun v hv=>(List.nodup_cons.mp nd).1 (List.of_mem_zip hv).1,if_neg hk];simp | p::P,w::vs,i+1,m,nd,h1,h2,hk=>by
  show bindC kindOf ((p,w)::P.zip vs) m x=_;unfold bindC;exact z69 (i:=i) (List.nodup_cons.mp nd).2 (by simpa using h1) (by simpa using h2) hk
def start(N:List Str)(vs:List V):St:=vs.map some++List.replicate (N.length-vs.length) none
def z2c(CX:CXT)(P:Program)(w:World)(K:W.Frag)(mg:Str->Option Value)(base:Heap)(N:List Str)(qual:Str)(scope:Scope)(f:Addr)(cd:Value)(A:Around)(outer:List Env)(s:Shared)(H:Hp)(E:XK):Cx where
 prog:=P;w:=w;K:=K;mg:=mg;base:=base;A:=A.deeper (envOfC qual scope s.heap.objs.size f cd);N:=N;s₀:=s;H₀:=H;env:=envOfC qual scope s.heap.objs.size f cd;outer:=outer;stack:=envOfC qual scope s.heap.objs.size f cd::outer;ex:=[];calm:=A.handled.isNone;fn:=fun _=>true;pn:=[];xe:=fun e s'=>wpAny (model P w) (A.deeper (envOfC qual scope s.heap.objs.size f cd)) (leaving (envOfC qual scope s.heap.objs.size f cd) e) (fun _ s''=>CX outer H s E e s'') (fun e' s''=>CX outer H s E e' s'') s'
theorem z1D{sc:Scope}{n:Nat}{x:Str}(h:sc.names.lookup x=some .cell):∃ c,(cellsFrom n sc.names []).lookup x=some c:=by
 have q:=W.cellsFrom_some sc.names n [] (.inl h);exact Option.isSome_iff_exists.mp q
theorem z5Y{CX:CXT}{P:Program}{w:World}{K:W.Frag}{mg:Str->Option Value}{base:Heap}{N ps:List Str}{qual:Str}{scope:Scope}{f:Addr}{cd:Value}{A:Around}{outer:List Env}{s s1:Shared}{H:Hp}{E:XK}{us:List Value}{vs:List V} (S:zv N ps scope)(e0:zgu P w K mg base A outer s H)(hl:vs.length=ps.length)(r:yW vs us) (x:InCallC s s.heap.objs.size (bindL (envOfC qual scope s.heap.objs.size f cd).kindOf (ps.zip us) fun _=>none) (cellsFrom (s.heap.objs.size+1) scope.names []) (bindC (envOfC qual scope s.heap.objs.size f cd).kindOf (ps.zip us) fun _=>none) s1): Inv (z2c CX P w K mg base N qual scope f cd A outer s H E) [] (start N vs) H s1:=by
 have hpl:ps.length<=N.length:=by have:=congrArg List.length S.pre;rw [List.length_take] at this;omega
 obtain ⟨h1,tk,rfl,hk⟩:=x.done;have noA:∀ b:Addr,b∉(z2c CX P w K mg base N qual scope f cd A outer s H E).ex:=fun b z=>absurd (show b∈([]:List Addr) from z) (by simp);refine ⟨⟨e0.mod,S.kind,rfl,rfl,Nat.le_refl _,fun y z c h1 h2=>?_,fun y hy=>?_,fun y c _ h=>?_,fun h=>Option.isNone_iff_eq_none.mp h,Around.frames_deeper e0.frames,.inr ⟨rfl,rfl⟩,fun b z=>absurd z (noA b),e0.bs,e0.bsz,fun b _ _=>noA b,fun b z=>absurd z (noA b),e0.funs,e0.frf⟩, rfl,e0.bare,Un.kept hk,⟨_,x.toInCall.ns,fun i y v h1 h2 h3=>?_⟩,fun y c h=>⟨_,x.cell y c h⟩,e0.hok.fresh (Nat.le_refl _),fun y c h=>?_,fun p hp=>absurd (show p∈([]:List (Addr×Obj)) from hp) (by simp),e0.hok.kept hk,?_⟩;·exact name_of_addr x.apart (PySem.mem_of_lookup h1) (PySem.mem_of_lookup h2)
 ·have hy:scope.names.lookup y=some .cell\/scope.names.lookup y=some .free:=hy;rcases hy with hy | hy;·exact z1D hy
  ·exact absurd rfl (S.nofree _ (PySem.mem_of_lookup hy))
 ·exact Nat.le_of_lt (x.above y c (PySem.mem_of_lookup h))
 ·have hi:i<vs.length:=by
   unfold start at h2;by_cases hi:i<vs.length;·exact hi
   ·rw [List.getElem?_append_right (by simpa using hi)] at h2;rw [List.getElem?_replicate] at h2;split at h2<;>cases h2
  have ha:vs[i]? = some v:=by
   unfold start at h2;rw [List.getElem?_append_left (by simpa using hi),List.getElem?_map] at h2;cases e:vs[i]? with
   | none=>rw [e] at h2;cases h2 | some a=>rw [e] at h2;cases h2;rfl
  obtain ⟨u,hu,rv⟩:=r.get ha;have hp:ps[i]? = some y:=by rw [<- S.pre,List.getElem?_take_of_lt (by omega)];exact h1
  have ndP:ps.Nodup:=by rw [<- S.pre];exact S.nd.sublist (List.take_sublist _ _)
  refine ⟨u,rv,?_⟩;rcases S.par y (List.mem_of_getElem? hp) with k | k;·exact .inl ⟨k,z6u ndP hp hu k⟩
  ·obtain ⟨c,e⟩:=z1D (n:=s.heap.objs.size+1) k;refine .inr ⟨.inl k,c,e,?_⟩;have q:=x.cell y c e;rw [z69 ndP hp hu (by show scope.names.lookup y≠_;rw [k];decide)] at q;exact q
 ·exact e0.hok.fresh (Nat.le_of_lt (x.above y c (PySem.mem_of_lookup h)))
 ·unfold start;show _=N.length;rw [List.length_append,List.length_map,List.length_replicate];omega
theorem ziA {CX:CXT} {P:Program} {w:World} {K:W.Frag} {mg:Str->Option Value} {base:Heap} {k:Nat} {f:Addr} {name qual:Str} {params:Arguments} {body:List Stmt} {scope:Scope} {dV kV doc pm cdv ct oc:Value} {an od:Option Addr} {osl:Array (Option Value)} {N ps:List Str} {sp:Sp} (lk:K.lookup f=some ⟨oc,od,.func (W.fnOf name qual params body scope dV kV doc pm an cdv ct),osl⟩) (hcd:W.codeIn K cdv qual=true) (S:zv N ps scope) (len:∀ vs H Q E,sp vs H Q E->vs.length=ps.length) (hbody:∀ (A:Around) (outer:List Env) (s:Shared) (H:Hp) (vs:List V) (Q:VK) (E:XK),z0l k (A.deeper (envOfC qual scope s.heap.objs.size f cdv))->sp vs H Q E-> ∃ t,PSs (z2c CX P w K mg base N qual scope f cdv A outer s H E) body t/\t {nx:=fun _ H'=>Q .non H',rt:=Q} (start N vs) H): z4h P w K mg base CX (k+1) f (W.fnOf name qual params body scope dV kV doc pm an cdv ct) ps sp:=by
 refine ⟨len,fun A outer s H args us vs Q E hr e0 hb r hsp=>?_⟩;have hl:=len _ _ _ _ hsp;have KX:K.In s.heap:=e0.mod.kin.keeps fun b o e=>(e0.bs b o e).1;have lim:s.heap.NoLimit:=e0.mod.nolimit.keeps fun b o e=>(e0.bs b o e).1;have hkind:∀ y∈ps.zip us,scope.names.lookup y.1=some .local\/(scope.names.lookup y.1=some .cell/\((cellsFrom (s.heap.objs.size+1) scope.names []).lookup y.1).isSome=true):=fun ⟨n,v⟩ hy=>by
  rcases S.par n (List.of_mem_zip hy).1 with q | q;·exact .inl q
  ·exact .inr ⟨q,W.cellsFrom_some _ _ _ (.inl q)⟩
 refine codeAny_call_function hr.depth (KX _ _ lk) rfl S.co S.gen rfl (W.codeRec_of KX hcd) (hb _ _ _ _ ?_);refine wpAny_newFunctionEnv_cells S.kind hkind fun env he s1 x=>?_;subst he;refine ⟨lim.keeps x.toInCall.keep,codeAny_func ?_⟩;obtain ⟨t,ht,hq⟩:=hbody A outer s H vs Q E (hr.deeper _) hsp;have I:Inv (z2c CX P w K mg base N qual scope f cdv A outer s H E) [] (start N vs) H s1:=z5Y S e0 hl r x;refine wpAny_mono (ht [] s1 (start N vs) H _ I hq) (fun fl s' hs=>?_) fun e s' hs=>hs;have fin:∀ {O':St} {H':Hp} {v:V} {u:Value},Inv (z2c CX P w K mg base N qual scope f cdv A outer s H E) [] O' H' s'->xx v u->Q v H'->CE outer P w H s Q u s':= fun {O' H' v u} J rv q=>⟨v,H',J.os,J.bare,J.base,J.hok,rv,q⟩;cases fl with
 | ret u=>
  obtain ⟨v,O',H',J,rv,q⟩:=hs;exact fin J rv q | next=>
  obtain ⟨O',H',J,q⟩:=hs;exact fin (v:=V.non) (u:=Value.none) J rfl q | brk=>
  obtain ⟨_,_,_,q⟩:=hs;exact False.elim q | cont=>
  obtain ⟨_,_,_,q⟩:=hs;exact False.elim q
section
variable {X:Cx}{x:Str}{p pos:Pos}{e:Expr}{es:List Expr}{t:TA}{id T:String}{r:List V->Hp->VK->Prop}
def tCB(r:List V->Hp->VK->Prop)(t:TA):TE:=fun O H Q=>t O H fun vs H1=>r vs H1 Q
theorem z1J (hc:xz X (.builtin id) r) (hg:Gl X x) (hm:X.mg x=none) (hv:bootBuiltins x=some (.builtin id)) (ha:PA X (e::es) t) (hn:x≠"__name__":=by decide) (hdb:(x==("__debug__":Str))=false:=by decide) (he:starEach (e::es) X.env=(false,eval e X.env)::starEach es X.env:=by rfl) (hpl:(backTo pos (starEach es X.env)).any (·.1)=false:=by rfl):PE X (.Call (.Name x p) (e::es) [] pos) (tCB r t):=by
 intro pins s O H Q I h;refine wpAny_Call_Name_kw (z18 I hg hm hv ?_ hn hdb);exact PyProof.Rows.callWith_builtin1 (thn (ha pos pins s O H _ I h) fun us s1 ⟨vs,H1,I1,r1,q1⟩=>hc pins s1 O H1 vs us Q I1 r1 q1) he hpl
theorem zbD (hc:xz X (.type T) r) (hg:Gl X x) (hm:X.mg x=none) (hv:bootBuiltins x=some (.type T)) (ha:PA X (e::es) t) (hn:x≠"__name__":=by decide) (hdb:(x==("__debug__":Str))=false:=by decide) (he:starEach (e::es) X.env=(false,eval e X.env)::starEach es X.env:=by rfl) (hpl:(backTo pos (starEach es X.env)).any (·.1)=false:=by rfl):PE X (.Call (.Name x p) (e::es) [] pos) (tCB r t):=by
 intro pins s O H Q I h;refine wpAny_Call_Name_kw (z18 I hg hm hv ?_ hn hdb);exact PyProof.Rows.callWith_type1 (thn (ha pos pins s O H _ I h) fun us s1 ⟨vs,H1,I1,r1,q1⟩=>hc pins s1 O H1 vs us Q I1 r1 q1) he hpl
end
end L2
namespace HT
def lexLt:List Int->List Int->Bool
 | [],[]=>false | [],_::_=>true | _::_,[]=>false | x::xs,y::ys=>if x=y then lexLt xs ys else decide (x<y)
section
open PySem.SeqAt
open PySem.AutoSeq1 (wpAny_loadPart')
open PySem.MeetsSeq PySem.MeetsSeq2 PySem.MeetsSeq3
end
section
variable {prog:Program}{w:World}{A:Around}{E:Value->Shared->Prop}{s:Shared}
theorem zfe {t b:Addr} {vs ws:List Value} {Q:Value->Shared->Prop} (ht:IsTup s.heap t vs.toArray) (hb:IsTup s.heap b ws.toArray) (hv:vs≠[]) (h1:ws=[]->Q (.ref t) s) (h2:ws≠[]->Q (.ref s.heap.objs.size) {s with heap:=s.heap.push {cls:=.type "tuple",data:=.seq (vs++ws).toArray}}) (hsz:vs.length+ws.length<=sizeLine):wpAny (model prog w) A (binaryOp .Add (.ref t) (.ref b)) Q E s:=by
 obtain ⟨⟨cls,dd,data,sl⟩,ho,hc,n,hd⟩:=id ht;obtain ⟨⟨cls2,dd2,data2,sl2⟩,ho2,hc2,n2,hd2⟩:=id hb;simp only at hc hd hc2 hd2;subst hc hd hc2 hd2;have e:vs.toArray++ws.toArray=(vs++ws).toArray:=by simp
 by_cases hw:ws=[]
 ·exact concat_meets ⟨_,ho,rfl⟩ ⟨_,ho2,rfl⟩ noFill_tuple_add seq_tuple_add PySem.F.slot_tuple_add PySem.F.entry_tuple_add (PySem.F.args_tuple_add_2 _ _) (tuple_addW1 t b vs.toArray ws.toArray n n2 dd dd2 sl sl2 (by simpa using hv) (by simp [hw])) ⟨ho,ho2,h1 hw⟩
 ·refine concat_meets ⟨_,ho,rfl⟩ ⟨_,ho2,rfl⟩ noFill_tuple_add seq_tuple_add PySem.F.slot_tuple_add PySem.F.entry_tuple_add (PySem.F.args_tuple_add_2 _ _) (tuple_addW2 t b vs.toArray ws.toArray n n2 dd dd2 sl sl2 (by simpa using hv) (by simpa using hw) (by rw [List.size_toArray,List.size_toArray];exact hsz)) ⟨ho,ho2,?_⟩;rw [e];exact h2 hw
def sIx(n d:Nat):Option Int->Nat
 | none=>d | some v=>if v<0 then (v+(n:Int)).toNat else min v.toNat n
theorem z88(n d:Nat):sIx n d none=d:=rfl
theorem zag(n d k:Nat):sIx n d (some (k:Int))=min k n:=by
 show (if (k:Int)<0 then ((k:Int)+(n:Int)).toNat else min (k:Int).toNat n)=min k n;rw [if_neg (by omega),Int.toNat_natCast]
theorem zgP(n d:Nat)(hd:d<=n)(o:Option Int):sIx n d o<=n:=by cases o with
 | none=>exact hd | some v=>
  show (if v<0 then (v+(n:Int)).toNat else min v.toNat n)<=n;by_cases hv:v<0;·rw [if_pos hv];omega
  ·rw [if_neg hv];exact Nat.min_le_right _ _
theorem zbT(v:Int)(n d:Nat):(if v<0 then max (v+(n:Int)) 0 else min v (n:Int))=((sIx n d (some v):Nat):Int):=by
 show (if v<0 then max (v+(n:Int)) 0 else min v (n:Int))=(((if v<0 then (v+(n:Int)).toNat else min v.toNat n):Nat):Int);by_cases hv:v<0;·simp only [if_pos hv];omega
 ·simp only [if_neg hv];omega
theorem z9s(lo hi:Option Int)(n:Nat):Builtin.Slice.sliceAdjust lo hi 1 (n:Int)=(((sIx n 0 lo:Nat):Int),((sIx n n hi:Nat):Int)):=by
 have h1:¬ ((1:Int)<0):=by omega
 unfold Builtin.Slice.sliceAdjust;simp only [h1,if_false];refine Prod.ext ?_ ?_;·cases lo with
  | none=>rfl | some v=>exact zbT v n 0
 ·cases hi with
  | none=>rfl | some v=>exact zbT v n n
theorem z96 (i j:Nat):Builtin.Slice.slicePlaces (i:Int) (j:Int) 1=j-i:=by
 unfold Builtin.Slice.slicePlaces;have h1:(1:Int) > 0:=by omega
 simp only [h1,if_true,Int.ediv_one];split<;>omega
theorem z43{v:Value}{o:Option Int}{Q:Option Int->Shared->Prop}(p:IsPart v o)(h:Q o s):wpAny (model prog w) A (Builtin.Slice.slicePartIndex v) Q E s:=by cases p with
 | none=>exact slicePart_none h | int i t=>exact slicePart_int h
theorem qG{sl:Addr}{vl vu:Value}{lo hi:Option Int}{n:Nat}{Q:Int×Int×Nat->Shared->Prop}(hs:s.heap.IsSliceOf sl vl vu .none)(pl:IsPart vl lo)(pu:IsPart vu hi) (h:Q (((sIx n 0 lo:Nat):Int),1,sIx n n hi-sIx n 0 lo) s):wpAny (model prog w) A (Builtin.Slice.sliceApplied (.ref sl) (pure (n:Int))) Q E s:=by
 obtain ⟨os,hos,hcs,hds⟩:=id hs;unfold Builtin.Slice.sliceApplied Builtin.Slice.sliceFields;refine wpAny_bind (wpAny_bind (wpAny_field hos hds (x:=vl) rfl (wpAny_bind (wpAny_field hos hds (x:=vu) rfl (wpAny_bind (wpAny_field hos hds (x:=.none) rfl (wpAny_pure ?_)))))));refine wpAny_bind (slicePart_none ?_);show wpAny _ _ (if ((1:Int)==0)=true then _ else _) _ _ s;rw [if_neg (by decide)];refine wpAny_bind (z43 pl (wpAny_bind (z43 pu (wpAny_bind (wpAny_pure ?_)))));show wpAny _ _ (match Builtin.Slice.sliceAdjust lo hi 1 (n:Int) with | (lo,hi)=>pure (lo,(1:Int),Builtin.Slice.slicePlaces lo hi 1)) _ _ s;rw [z9s lo hi n];show wpAny _ _ (pure (((sIx n 0 lo:Nat):Int),(1:Int),Builtin.Slice.slicePlaces ((sIx n 0 lo:Nat):Int) ((sIx n n hi:Nat):Int) 1)) _ _ s;rw [z96];exact wpAny_pure h
theorem zcU(xs:Array Value)(i k:Nat):((List.range k).filterMap fun (m:Nat)=>xs[((i:Int)+(m:Int)*1).toNat]?).toArray=((xs.toList.drop i).take k).toArray:=by
 have e:(fun (m:Nat)=>xs[((i:Int)+(m:Int)*1).toNat]?)=fun m=>xs[i+m]? := by
  funext m;have:((i:Int)+(m:Int)*1).toNat=i+m:=by omega
  rw [this]
 rw [e];have:=pick_run xs i k;rw [List.filterMap_map] at this;have e2:((fun x=>xs[x]?) ∘ fun x=>i+x)=fun m=>xs[i+m]? := rfl;rw [e2] at this;rw [this]
theorem z0K {t sl:Addr} {items:Array Value} {vl vu:Value} {lo hi:Option Int} {Q:Value->Shared->Prop} (ht:IsTup s.heap t items) (hs:s.heap.IsSliceOf sl vl vu .none) (pl:IsPart vl lo) (pu:IsPart vu hi) (hw:¬ (sIx items.size 0 lo=0/\sIx items.size items.size hi=items.size)) (h:Q (.ref s.heap.objs.size) {s with heap:=s.heap.push {cls:=.type "tuple",data:=.seq ((items.toList.drop (sIx items.size 0 lo)).take (sIx items.size items.size hi-sIx items.size 0 lo)).toArray}}) (hsz:items.size<=sizeLine):wpAny (model prog w) A (getItem (.ref t) (.ref sl)) Q E s:=by
 have htake:sizeOk (.seq ((items.toList.drop (sIx items.size 0 lo)).take (sIx items.size items.size hi-sIx items.size 0 lo)).toArray):=by
  show ((items.toList.drop (sIx items.size 0 lo)).take (sIx items.size items.size hi-sIx items.size 0 lo)).toArray.size<=sizeLine;rw [List.size_toArray,List.length_take,List.length_drop,Array.length_toList];omega
 have hj:sIx items.size items.size hi<=items.size:=zgP _ _ (Nat.le_refl _) hi;obtain ⟨os,hos,hcs,hds⟩:=id hs;have hTs:s.TypeIs (.ref sl) "slice":=⟨os,hos,hcs⟩;unfold getItem;try with_reducible refine wpAny_holding ?_
 first | refine wpAny_bind (wpAny_pure ?_) | skip
 refine wpAny_bind (wpAny_sequenceKey ht.typeIs (by decide) ?_);refine wpAny_bind (wpAny_callSpecial?_slot (name:=Str.ofString "__getitem__") ht.typeIs PyProof.Rows.slot_tuple_getitem (wpAny_call_entry PyProof.Rows.slot_tuple_getitem ht.typeIs entry_tuple_getitem ?_ (args_tuple_getitem _ _)));show wpAny _ _ (Builtin.Tuple.tupleItemsOf (.ref t) >>= _) _ _ s;refine wpAny_bind (tupleItemsOf_ ht ?_);refine wpAny_bind (wpAny_typeOf hTs ?_);rw [if_pos (by decide)];refine wpAny_bind (qG hs pl pu ?_);have hno:¬ ((((sIx items.size 0 lo:Nat):Int)==0&&(1:Int)==1&&(sIx items.size items.size hi-sIx items.size 0 lo)==items.size)=true):=by
  intro q;rw [Bool.and_eq_true,Bool.and_eq_true] at q;have q1:((sIx items.size 0 lo:Nat):Int)=0:=eq_of_beq q.1.1;have q2:sIx items.size items.size hi-sIx items.size 0 lo=items.size:=eq_of_beq q.2;exact hw ⟨by omega,by omega⟩
 show wpAny _ _ (if (((sIx items.size 0 lo:Nat):Int)==0&&(1:Int)==1&&(sIx items.size items.size hi-sIx items.size 0 lo)==items.size)=true then _ else _) _ _ s;rw [if_neg hno,zcU];first
  | exact wpAny_bind (m:=Builtin.Tuple.tupleExact _) (wpAny_newObj_type (wpAny_pure ⟨_,rfl,wpAny_pure h⟩) htake) | exact wpAny_bind (m:=Builtin.Tuple.tupleExact _) (wpAny_newObj_type (wpAny_bind (wpAny_pure (wpAny_pure ⟨_,rfl,wpAny_pure h⟩))) htake) | exact wpAny_bind (wpAny_bind (m:=Builtin.Tuple.tupleExact _) (wpAny_newObj_type (wpAny_pure (wpAny_pure ⟨_,rfl,wpAny_pure h⟩)) htake)) | exact wpAny_bind (wpAny_bind (m:=Builtin.Tuple.tupleExact _) (wpAny_newObj_type (wpAny_pure ⟨_,rfl,wpAny_pure h⟩) htake))
end
end HT
namespace L2
open PySem.Spec
abbrev TO:=St->Hp->(Option Int->Hp->Prop)->Prop
def PO(X:Cx)(e:Option Expr)(t:TO):Prop:= ∀ (pins:List (Addr×Obj))(s:Shared)(O:St)(H:Hp)(Q:Option Int->Hp->Prop),Inv X pins O H s->t O H Q-> wpAny (model X.prog X.w) X.A (evalPart e X.env) (fun u s'=>∃ o H',Inv X pins O H' s'/\IsPart u o/\Q o H') X.xe s
def zfu:TO:=fun _ H Q=>Q none H
def zjR(t:TE):TO:=fun O H Q=>t O H fun x H1=>∃ i,x=.int i/\Q (some i) H1
section
variable {X:Cx}{e:Expr}{te:TE}{lo hi:Option Expr}{tl th:TO}{pos p2:Pos}
theorem z7w:PO X none zfu:=by
 intro pins s O H Q I h;rw [evalPart_none];exact wpAny_pure ⟨none,H,I,.none,h⟩
theorem zeR(h:PE X e te):PO X (some e) (zjR te):=by
 intro pins s O H Q I hw;rw [evalPart_some];refine thn (h pins s O H _ I hw) fun u s1 ⟨x,H1,I1,r1,q1⟩=>?_;obtain ⟨i,rfl,q⟩:=q1;obtain ⟨t,rfl⟩:=r1;exact ⟨some i,H1,I1,.int i t,q⟩
def SlR(X:Cx)(r:V->Option Int->Option Int->Hp->VK->Prop):Prop:= ∀ (pins:List (Addr×Obj))(s:Shared)(O:St)(H:Hp)(x:V)(v vl vu:Value)(lo hi:Option Int)(sl:Addr)(Q:VK),Inv X pins O H s->xx x v->s.heap.IsSliceOf sl vl vu .none->IsPart vl lo->IsPart vu hi->r x lo hi H Q-> ∃ T id,typeLookup (.type T) "__getitem__"=pure (some (.builtin id))/\s.TypeIs v T/\wpAny (model X.prog X.w) X.A (getItem v (.ref sl)) (EP X pins O Q) X.xe s
theorem SlR.or{r r':V->Option Int->Option Int->Hp->VK->Prop}(h:SlR X r)(h':SlR X r'):SlR X (fun x lo hi H Q=>r x lo hi H Q\/r' x lo hi H Q):=by
 intro pins s O H x v vl vu lo hi sl Q I rx hs pl pu q;rcases q with q | q;·exact h pins s O H x v vl vu lo hi sl Q I rx hs pl pu q
 ·exact h' pins s O H x v vl vu lo hi sl Q I rx hs pl pu q
def tSl(r:V->Option Int->Option Int->Hp->VK->Prop)(te:TE)(tl th:TO):TE:=fun O H Q=>te O H fun x H1=>tl O H1 fun l H2=>th O H2 fun u H3=>r x l u H3 Q
theorem z54{r:V->Option Int->Option Int->Hp->VK->Prop}(hr:SlR X r)(he:PE X e te)(hl:PO X lo tl)(hu:PO X hi th):PE X (.Subscript e (.Slice lo hi none p2) pos) (tSl r te tl th):=by
 intro pins s O H Q I h;refine Subscript_ (thn (he pins s O H _ I h) fun v s1 ⟨x,H1,I1,r1,q1⟩=>?_);refine wpAny_Slice (thn (hl pins s1 O H1 _ I1 q1) fun vl s2 ⟨l,H2,I2,pl,q2⟩=>thn (hu pins s2 O H2 _ I2 q2) fun vu s3 ⟨u,H3,I3,pu,q3⟩=>?_);rw [evalPart_none];refine wpAny_pure ?_;have I4:Inv X pins O H3 {s3 with heap:=s3.heap.push {cls:=.type "slice",data:=.fields #[vl,vu,.none]}}:=I3.kept (t':=s3.toks) fun b ob q=>Heap.get?_push_of_some _ q;obtain ⟨T,id,hT,ht,hg⟩:=hr pins {s3 with heap:=s3.heap.push {cls:=.type "slice",data:=.fields #[vl,vu,.none]}} O H3 x v vl vu l u s3.heap.objs.size Q I4 r1 (Heap.IsSliceOf.new ..) pl pu q3;show wpAny (model X.prog X.w) X.A (subscriptTail e (.Slice lo hi none p2) v (.ref s3.heap.objs.size)) (EP X pins O Q) X.xe {s3 with heap:=s3.heap.push {cls:=.type "slice",data:=.fields #[vl,vu,.none]}};exact tail_any (ops:=[.ref s3.heap.objs.size,v]) ht hT hg (by with_unfolding_all rfl)
def zen(xs:List V)(lo hi:Option Int):List V:=(xs.drop (HT.sIx xs.length 0 lo)).take (HT.sIx xs.length xs.length hi-HT.sIx xs.length 0 lo)
theorem z2E(xs:List V)(lo hi:Option Int):(zen xs lo hi).length<=xs.length:=by
 unfold zen;rw [List.length_take,List.length_drop];omega
def zls(K:W.Frag):V->Option Int->Option Int->Hp->VK->Prop:=fun x lo hi H Q=>∃ a xs,x=.ref a/\SqT K H a xs/\ ¬ (HT.sIx xs.length 0 lo=0/\HT.sIx xs.length xs.length hi=xs.length)/\∀ p,H p=none->Q (.ref p) (upd H p (.tup (zen xs lo hi)))
theorem zh8:SlR X (zls X.K):=by
 intro pins s O H x v vl vu lo hi sl Q I rx hs pl pu h;obtain ⟨a,xs,rfl,hx,hw,q⟩:=h;cases rx;obtain ⟨its,r,ht,hz⟩:=I.tuple hx;have hlen:its.toArray.size=xs.length:=by rw [List.size_toArray];exact r.length.symm
 refine ⟨"tuple",_,PyProof.Rows.slot_tuple_getitem.lookup,ht.typeIs,?_⟩;refine HT.z0K ht hs pl pu (by rw [hlen];exact hw) ?_ (by rw [hlen];exact hz);rw [hlen];refine ⟨.ref s.heap.objs.size,_,I.laid (t':=s.toks) (o:=.tup (zen xs lo hi)) (fun b ob q=>Heap.get?_push_of_some _ q) (Nat.le_refl _) ?_,rfl,q _ (I.hok.fresh (Nat.le_refl _))⟩;exact ⟨Nat.le_trans (z2E xs lo hi) hz,_,(r.drop (HT.sIx xs.length 0 lo)).take (HT.sIx xs.length xs.length hi-HT.sIx xs.length 0 lo),zam.new _ _⟩
def zj5(K:W.Frag):R2:=fun x y H Q=>∃ a b xs ys,x=.ref a/\y=.ref b/\SqT K H a xs/\SqT K H b ys/\xs≠[]/\xs.length+ys.length<=sizeLine/\ (ys=[]->Q (.ref a) H)/\(ys≠[]->∀ p,H p=none->Q (.ref p) (upd H p (.tup (xs++ys))))
theorem yW.nil_iff{xs:List V}{us:List Value}(r:yW xs us):us=[] ↔ xs=[]:=by cases r with
 | nil=>simp | cons _ _=>simp
theorem zf7:OpR X (binaryOp .Add) (zj5 X.K):=by
 intro pins s O H x y v u Q I rx ry h;obtain ⟨a,b,xs,ys,rfl,rfl,ha,hb,hx,hz,q1,q2⟩:=h;cases rx;cases ry;obtain ⟨its,r1,p1,_⟩:=I.tuple ha;obtain ⟨its2,r2,p2,_⟩:=I.tuple hb;refine HT.zfe p1 p2 (fun z=>hx (r1.nil_iff.mp z)) (fun z=>⟨.ref a,H,I,rfl,q1 (r2.nil_iff.mp z)⟩) (fun z=>?_) (by rw [<- r1.length,<- r2.length];exact hz);refine ⟨.ref s.heap.objs.size,_,I.laid (t':=s.toks) (o:=.tup (xs++ys)) (fun b ob q=>Heap.get?_push_of_some _ q) (Nat.le_refl _) ?_,rfl,q2 (fun w=>z (r2.nil_iff.mpr w)) _ (I.hok.fresh (Nat.le_refl _))⟩;exact ⟨by rw [List.length_append];exact hz,_,r1.append r2,zam.new _ _⟩
end
def ixN(n:Nat)(i:Int):Option Nat:=if 0<=i then (if i<n then some i.toNat else none) else if -(n:Int)<=i then some (i+n).toNat else none
def atI{α:Type}(xs:List α)(i:Int):Option α:=(ixN xs.length i).bind fun j=>xs[j]?
theorem zad{n:Nat}{i:Int}{j:Nat}(h:ixN n i=some j):seqIndex? i n=some j/\j<n/\-(n:Int)<=i/\i<n:=by
 unfold ixN at h;by_cases h0:0<=i
 ·rw [if_pos h0] at h;by_cases h1:i<n
  ·rw [if_pos h1] at h;have e:i.toNat=j:=Option.some.inj h;exact ⟨by rw [seqIndex_of h0 h1,e],by omega,by omega,h1⟩
  ·rw [if_neg h1] at h;cases h
 ·rw [if_neg h0] at h;by_cases h1:-(n:Int)<=i
  ·rw [if_pos h1] at h;have e:(i+n).toNat=j:=Option.some.inj h;exact ⟨by rw [seqIndex_neg (by omega) h1,e],by omega,h1,by omega⟩
  ·rw [if_neg h1] at h;cases h
theorem z7Q{α:Type}{xs:List α}{i:Int}{v:α}(h:atI xs i=some v):∃ j,seqIndex? i xs.length=some j/\xs[j]? = some v/\j<xs.length/\-(xs.length:Int)<=i/\i<xs.length:=by
 unfold atI at h;cases e:ixN xs.length i with
 | none=>rw [e] at h;cases h | some j=>
  rw [e] at h;obtain ⟨h1,h2,h3,h4⟩:=zad e;exact ⟨j,h1,h,h2,h3,h4⟩
def z5p(b:Expr):Prop:=∀ o i,subscripted b false o i=operate [o,i] (getItem o i)
def IxR(X:Cx)(r:R2):Prop:= ∀ (value slice:Expr)(pins:List (Addr×Obj))(s:Shared)(O:St)(H:Hp)(x y:V)(v u:Value)(Q:VK),Inv X pins O H s->xx x v->xx y u->r x y H Q-> subscripted slice false v u=operate [v,u] (getItem v u)->wpAny (model X.prog X.w) X.A (subscriptTail value slice v u) (EP X pins O Q) X.xe s
def MtR (X:Cx) (id:String) (r:V->List V->Hp->VK->Prop):Prop:= ∀ (pins:List (Addr×Obj)) (s:Shared) (O:St) (H:Hp) (x:V) (xs:List V) (v:Value) (us:List Value) (Q:VK),Inv X pins O H s->xx x v->yW xs us->r x xs H Q-> wpAny (model X.prog X.w) X.A (call (.builtin id) (v::us)) (EP X pins O Q) X.xe s
section
variable {X:Cx}{a b:Expr}{ta tb:TE}{pos:Pos}
theorem IxR.or{r r':R2}(h:IxR X r)(h':IxR X r'):IxR X (fun x y H Q=>r x y H Q\/r' x y H Q):=by
 intro value slice pins s O H x y v u Q I rx ry q hs;rcases q with q | q;·exact h value slice pins s O H x y v u Q I rx ry q hs
 ·exact h' value slice pins s O H x y v u Q I rx ry q hs
theorem zfo{r:R2}(hr:IxR X r)(ha:PE X a ta)(hb:PE X b tb)(hs:z5p b):PE X (.Subscript a b pos) (tOp r ta tb):=by
 intro pins s O H Q I h;exact Subscript_ (zjy ha hb I h fun v u s2 x y H2 I2 rx ry q=>hr a b pins s2 O H2 x y v u Q I2 rx ry q (hs _ _))
def zll(K:W.Frag):R2:=fun x y H Q=>∃ p xs i v,x=.ref p/\y=.int i/\SqL K H p xs/\atI xs i=some v/\Q v H
def zle(K:W.Frag):R2:=fun x y H Q=>∃ p xs i v,x=.ref p/\y=.int i/\SqT K H p xs/\atI xs i=some v/\Q v H
def zlI:R2:=fun x y H Q=>∃ z i c,x=.str z/\y=.int i/\z.length<=sizeLine/\atI z.cps.toList i=some c/\Q (.str ⟨#[c]⟩) H
theorem zfi:IxR X (zll X.K):=by
 intro value slice pins s O H x y v u Q I rx ry h hs;obtain ⟨p,xs,i,z,rfl,rfl,hq,he,q⟩:=h;cases rx;obtain ⟨t,rfl⟩:=ry;obtain ⟨its,r,pl,hz⟩:=I.list hq;obtain ⟨j,h1,h2,h3,h4,h5⟩:=z7Q he;obtain ⟨w,ew,rw'⟩:=r.get h2;have hl:=r.length;have hn:=z6o;have fin:EP X pins O Q w s:=⟨z,H,I,rw',q⟩;by_cases h0:0<=i
 ·have hj:i.toNat=j:=by
   rw [seqIndex_of h0 h5] at h1;exact Option.some.inj h1
  exact item_listR pl.isList h0 (by omega) (by rw [hj];simpa using ew) fin hs
 ·have hj:(i+(its.toArray.size:Int)).toNat=j:=by
   rw [seqIndex_neg (by omega) h4] at h1;rw [List.size_toArray,<- hl];exact Option.some.inj h1
  exact subscriptTail_builtinR (x:=w) pl.isList.typeIs slot_list_getitem.lookup (wpAny_getItem_list_neg (Q:=fun r s'=>r=w/\EP X pins O Q r s') pl.isList (by omega) (by rw [List.size_toArray]<;>omega) (by omega) (by rw [hj];simpa using ew) ⟨rfl,fin⟩) hs
theorem zhP:IxR X (zle X.K):=by
 intro value slice pins s O H x y v u Q I rx ry h hs;obtain ⟨p,xs,i,z,rfl,rfl,hq,he,q⟩:=h;cases rx;obtain ⟨t,rfl⟩:=ry;obtain ⟨its,r,pl,hz⟩:=I.tuple hq;obtain ⟨j,h1,h2,h3,h4,h5⟩:=z7Q he;obtain ⟨w,ew,rw'⟩:=r.get h2;have hl:=r.length;have hn:=z6o;have fin:EP X pins O Q w s:=⟨z,H,I,rw',q⟩;exact subscriptTail_builtinR (x:=w) pl.typeIs slot_tuple_getitem.lookup (getItem_tuple (j:=j) (Q:=fun r s'=>r=w/\EP X pins O Q r s') pl (by omega) (by omega) (by rw [List.size_toArray,<- hl];exact h1) (by simpa using ew) ⟨rfl,fin⟩) hs
theorem zgE:IxR X zlI:=by
 intro value slice pins s O H x y v u Q I rx ry h hs;obtain ⟨z,i,c,rfl,rfl,hz,he,q⟩:=h;obtain ⟨t,rfl⟩:=rx;obtain ⟨t',rfl⟩:=ry;obtain ⟨j,h1,h2,h3,h4,h5⟩:=z7Q he;have hl:z.cps.toList.length=z.length:=by simp [Str.length]
 rw [hl] at h1 h4 h5;have hn:=z6o;exact tail_any (typeIs_str s z t) slot_str_getitem.lookup (getItem_str (c:=c) (by
  have e1:decide (i < -(2 ^ 63:Int))=false:=decide_eq_false (by omega);have e2:decide (i ≥ 2 ^ 63)=false:=decide_eq_false (by omega);rw [e1,e2,Bool.or_false]) (by rw [h1];simpa using h2) ⟨.str ⟨#[c]⟩,H,I.tok _,⟨_,rfl⟩,q⟩) hs
theorem z9C (its:List Value) (n j:Nat) (u:Value):Obj.mapSeq (·.setIfInBounds j u) {cls:=.type "list",data:=.seq its.toArray n}={cls:=.type "list",data:=.seq (its.set j u).toArray n}:=by simp [Obj.mapSeq]
theorem Inv.lst{pins:List (Addr×Obj)}{O:St}{H:Hp}{s:Shared}{p:Addr}{xs:List V}(I:Inv X pins O H s)(h:H p=some (.lst xs)): ∃ (its:List Value)(n:Nat),yW xs its/\s.heap.get? p=some {cls:=.type "list",data:=.seq its.toArray n}/\xs.length<=sizeLine:=by
 obtain ⟨z,its,n,r,e⟩:=I.hok p _ h;exact ⟨its,n,r,e,z⟩
theorem Inv.lstUpd {pins:List (Addr×Obj)} {O:St} {H:Hp} {s:Shared} {p:Addr} {xs ys:List V} {its its':List Value} {n n':Nat} {f:Obj->Obj} (I:Inv X pins O H s) (h:H p=some (.lst xs)) (ho:s.heap.get? p=some {cls:=.type "list",data:=.seq its.toArray n}) (hf:f {cls:=.type "list",data:=.seq its.toArray n}={cls:=.type "list",data:=.seq its'.toArray n'}) (r:yW ys its') (hz:ys.length<=sizeLine) (t:Nat): Inv X pins O (upd H p (.lst ys)) {s with heap:=s.heap.update p f,toks:=t}:=by
 have e:(s.heap.update p f).get? p=some {cls:=.type "list",data:=.seq its'.toArray n'}:=by rw [Heap.get?_update_self f ho (by rw [hf]<;>rfl),hf]
 refine I.write (x:=p) (e:=p) (by rw [h];trivial) (.inl rfl) (fun b u hb q=>(Heap.get?_update_other _ _ (Ne.symm hb)).trans q) ⟨_,e⟩ ?_;exact ⟨hz,its',n',r,e⟩
def zje:V->V->V->Hp->(Hp->Prop)->Prop:=fun o i v H Q=>∃ p xs k j,o=.ref p/\i=.int k/\H p=some (.lst xs)/\ixN xs.length k=some j/\Q (upd H p (.lst (xs.set j v)))
theorem set_list:zkJ X zje:=by
 intro pins s O H o i v ov iv u Q I ro ri rv h;obtain ⟨p,xs,k,j,rfl,rfl,hp,hj,q⟩:=h;cases ro;obtain ⟨t,rfl⟩:=ri;obtain ⟨its,n,r,ho,hz⟩:=I.lst hp;obtain ⟨h1,h2,h3,h4⟩:=zad hj;have hl:=r.length;have hn:=z6o;have I':Inv X pins O (upd H p (.lst (xs.set j v))) {s with heap:=s.heap.update p (Obj.mapSeq (·.setIfInBounds j u))}:= I.lstUpd hp ho (z9C its n j u) (r.set rv j) (by rw [List.length_set];exact hz) s.toks;by_cases h0:0<=k
 ·have hk:k.toNat=j:=by
   rw [seqIndex_of h0 h4] at h1;exact Option.some.inj h1
  exact W.ki_setAt ho h0 (by omega) (by rw [List.size_toArray,<- hl];exact h4) (by rw [hk];exact ⟨_,I',q⟩)
 ·have hk:(k+(its.toArray.size:Int)).toNat=j:=by
   rw [seqIndex_neg (by omega) h3] at h1;rw [List.size_toArray,<- hl];exact Option.some.inj h1
  exact W.ki_setBack ho (by omega) (by rw [List.size_toArray,<- hl];exact h3) (by omega) (by rw [hk];exact ⟨_,I',q⟩)
theorem z6d(lo hi:Option Int)(n:Nat):(sliceBounds lo hi none n).1=((HT.sIx n 0 lo:Nat):Int)/\(sliceBounds lo hi none n).2.1=((HT.sIx n n hi:Nat):Int)/\(sliceBounds lo hi none n).2.2=1:=by
 refine ⟨?_,?_,rfl⟩;·cases lo with
  | none=>simp [sliceBounds,HT.sIx] | some i=>
   simp only [sliceBounds,HT.sIx,Option.getD_none,show (1:Int) > 0 by decide,if_true];by_cases h:i<0;·simp only [h,if_true]<;>omega
   ·simp only [h,if_false]<;>omega
 ·cases hi with
  | none=>simp [sliceBounds,HT.sIx] | some i=>
   simp only [sliceBounds,HT.sIx,Option.getD_none,show (1:Int) > 0 by decide,if_true];by_cases h:i<0;·simp only [h,if_true]<;>omega
   ·simp only [h,if_false]<;>omega
theorem z4F(its:List Value)(lo hi:Option Int):slicePick its.toArray lo hi none=((its.drop (HT.sIx its.length 0 lo)).take (HT.sIx its.length its.length hi-HT.sIx its.length 0 lo)).toArray:=by
 obtain ⟨h1,h2,h3⟩:=z6d lo hi its.toArray.size;unfold slicePick;rw [h1,h2,h3];simp only [sliceRange_one,pick_run,List.size_toArray]<;>rfl
def zlV(K:W.Frag):V->Option Int->Option Int->Hp->VK->Prop:=fun x lo hi H Q=>∃ a xs,x=.ref a/\SqL K H a xs/\∀ p,H p=none->Q (.ref p) (upd H p (.lst (zen xs lo hi)))
theorem zfG:SlR X (zlV X.K):=by
 intro pins s O H x v vl vu lo hi sl Q I rx hs pl pu h;obtain ⟨a,xs,rfl,hx,q⟩:=h;cases rx;obtain ⟨its,r,ht,hz⟩:=I.list hx;have hlen:=r.length;refine ⟨"list",_,slot_list_getitem.lookup,ht.isList.typeIs,?_⟩;refine wpAny_getItem_list_slice ht.isList hs pl pu .none (by simp) ?_ (by rw [List.size_toArray]<;>omega);rw [z4F,<- hlen];refine ⟨.ref s.heap.objs.size,_,I.laid (t':=s.toks) (o:=.lst (zen xs lo hi)) (fun b ob q=>Heap.get?_push_of_some _ q) (Nat.le_refl _) ?_,rfl,q _ (I.hok.fresh (Nat.le_refl _))⟩;exact ⟨Nat.le_trans (z2E xs lo hi) hz,_,0,(r.drop (HT.sIx xs.length 0 lo)).take (HT.sIx xs.length xs.length hi-HT.sIx xs.length 0 lo),Heap.get?_push_size _ rfl⟩
def z3w:V->Bool
 | .non=>true | .bl _=>true | .int _=>true | .str _=>true | _=>false
def eqV:V->V->Bool
 | .non,.non=>true | .bl a,.bl b=>a==b | .bl a,.int b=>(if a then 1 else 0)==b | .int a,.bl b=>a==(if b then 1 else 0) | .int a,.int b=>a==b | .str a,.str b=>a==b | _,_=>false
theorem zh1{A:Around}{s:Shared}{y x:V}{u v:Value}(ry:xx y u)(rx:xx x v)(fy:z3w y=true)(fx:z3w x=true):SeqAt.EqAt A s u v (eqV y x):=by cases y with
 | non=>
  cases ry;cases x with
  | non=>cases rx;exact SeqAt.EqAt.same _ | bl b=>cases rx;exact SeqAt.EqAt.none_bool b | int b=>obtain ⟨t,rfl⟩:=rx;exact SeqAt.EqAt.none_int b t | str b=>obtain ⟨t,rfl⟩:=rx;exact SeqAt.EqAt.none_str b t | _=>exact absurd (show false=true from fx) Bool.false_ne_true
 | bl a=>
  cases ry;cases x with
  | non=>cases rx;exact SeqAt.EqAt.bool_none a | bl b=>cases rx;exact SeqAt.EqAt.bool_bool a b | int b=>obtain ⟨t,rfl⟩:=rx;exact SeqAt.EqAt.bool_int a b t | str b=>obtain ⟨t,rfl⟩:=rx;exact SeqAt.EqAt.bool_str a b t | _=>exact absurd (show false=true from fx) Bool.false_ne_true
 | int a=>
  obtain ⟨t',rfl⟩:=ry;cases x with
  | non=>cases rx;exact SeqAt.EqAt.int_none a t' | bl b=>cases rx;exact SeqAt.EqAt.int_bool a t' b | int b=>obtain ⟨t,rfl⟩:=rx;exact SeqAt.EqAt.int_int a t' b t | str b=>obtain ⟨t,rfl⟩:=rx;exact SeqAt.EqAt.int_str a t' b t | _=>exact absurd (show false=true from fx) Bool.false_ne_true
 | str a=>
  obtain ⟨t',rfl⟩:=ry;cases x with
  | non=>cases rx;exact SeqAt.EqAt.str_none a t' | bl b=>cases rx;exact SeqAt.EqAt.str_bool a t' b | int b=>obtain ⟨t,rfl⟩:=rx;exact SeqAt.EqAt.str_int a t' b t | str b=>obtain ⟨t,rfl⟩:=rx;exact SeqAt.EqAt.str_str a t' b t | _=>exact absurd (show false=true from fx) Bool.false_ne_true
 | _=>exact absurd (show false=true from fy) Bool.false_ne_true
def eqU(x:V)(u:Value):Bool:=match u with
 | .none=>eqV .non x | .bool b=>eqV (.bl b) x | .int i _=>eqV (.int i) x | .str z _=>eqV (.str z) x | _=>false
theorem zem{x y:V}{u:Value}(r:xx y u)(f:z3w y=true):eqU x u=eqV y x:=by cases y with
 | non=>cases r;rfl | bl b=>cases r;rfl | int i=>obtain ⟨t,rfl⟩:=r;rfl | str z=>obtain ⟨t,rfl⟩:=r;rfl | _=>exact absurd (show false=true from f) Bool.false_ne_true
theorem z80{x:V}:∀ {xs:List V}{us:List Value},yW xs us->xs.all z3w=true->us.any (eqU x)=xs.any fun y=>eqV y x
 | _,_,.nil,_=>rfl | y::xs,u::us,.cons r t,f=>by
  rw [List.all_cons,Bool.and_eq_true] at f;rw [List.any_cons,List.any_cons,zem r f.1,z80 t f.2]
theorem z58{A:Around}{s:Shared}{x:V}{v:Value}(rx:xx x v)(fx:z3w x=true):∀ {xs:List V}{us:List Value},yW xs us->xs.all z3w=true->∀ u∈us,SeqAt.EqAt A s u v (eqU x u)
 | _,_,.nil,_=>fun u hu=>by cases hu | y::xs,u::us,.cons r t,f=>fun u' hu=>by
  rw [List.all_cons,Bool.and_eq_true] at f;rcases List.mem_cons.mp hu with rfl | hu;·rw [zem r f.1];exact zh1 r rx f.1 fx
  ·exact z58 rx fx t f.2 u' hu
def inV(x:V)(xs:List V):Bool:=xs.any fun y=>eqV y x
def rIn(K:W.Frag)(neg:Bool):R2:=fun x y H Q=>∃ p xs,y=.ref p/\(SqL K H p xs\/SqT K H p xs)/\z3w x=true/\xs.all z3w=true/\Q (.bl (if neg then !inV x xs else inV x xs)) H
theorem zab:OpR X (compareOp .In) (rIn X.K false):=by
 intro pins s O H x y v u Q I rx ry h;obtain ⟨p,xs,rfl,hq,fx,fs,q⟩:=h;cases ry;rcases hq with hq | hq
 ·obtain ⟨its,r,pl,hz⟩:=I.list hq;refine SeqAt.in_listAt (eqU x) pl.isList (fun w hw=>z58 rx fx r fs w (by simpa using hw)) ⟨.bl _,H,I,rfl,?_⟩;rw [show its.toArray.any (eqU x)=its.any (eqU x) by simp,z80 r fs];exact q
 ·obtain ⟨its,r,pl,hz⟩:=I.tuple hq;refine SeqAt.in_tupleAt (eqU x) pl (fun w hw=>z58 rx fx r fs w (by simpa using hw)) ⟨.bl _,H,I,rfl,?_⟩;rw [show its.toArray.any (eqU x)=its.any (eqU x) by simp,z80 r fs];exact q
theorem z5M:xz X (.builtin "len") (fun xs H Q=>∃ p ys,xs=[.ref p]/\(SqL X.K H p ys\/SqT X.K H p ys)/\Q (.int ys.length) H):=by
 intro pins s O H xs us Q I r h;obtain ⟨p,ys,rfl,hq,q⟩:=h;obtain ⟨u,rfl,rx⟩:=vals1 r;cases rx;have hn:=z6o;rcases hq with hq | hq
 ·obtain ⟨its,r',pl,hz⟩:=I.list hq;have hlen:=r'.length;exact Calls.call_len_list pl.isList (by simp only [List.size_toArray]<;>omega) ⟨.int ys.length,H,I.tok _,⟨s.toks+1,by rw [List.size_toArray,hlen]⟩,q⟩
 ·obtain ⟨its,r',pl,hz⟩:=I.tuple hq;have hlen:=r'.length;exact len_tuple pl (by simp only [List.size_toArray]<;>omega) ⟨.int ys.length,H,I.tok _,⟨s.toks+1,by rw [List.size_toArray,hlen]⟩,q⟩
theorem z5y:xz X (.type "list") (fun xs H Q=>∃ p ys,xs=[.ref p]/\(SqL X.K H p ys\/SqT X.K H p ys)/\∀ l,H l=none->Q (.ref l) (upd H l (.lst ys))):=by
 intro pins s O H xs us Q I r h;obtain ⟨p,ys,rfl,hq,q⟩:=h;obtain ⟨u,rfl,rx⟩:=vals1 r;cases rx;have fin:∀ (its:List Value),yW ys its->ys.length<=sizeLine->∀ (h':Heap) (c':Nat),(∀ b o',s.heap.get? b=some o'->h'.get? b=some o')-> h'.get? s.heap.objs.size=some {cls:=.type "list",dict:=none,data:=.seq its.toArray c',slots:=#[]}->EP X pins O Q (.ref s.heap.objs.size) {s with heap:=h'}:=fun its r' hz h' c' kp e=> ⟨.ref s.heap.objs.size,_,I.laid (t':=s.toks) kp (Nat.le_refl _) (show xL X.prog X.w _ h' _ (.lst ys) from ⟨hz,its,c',r',e⟩),rfl,q _ (I.hok.fresh (Nat.le_refl _))⟩;rcases hq with hq | hq
 ·obtain ⟨its,r',pl,hz⟩:=I.list hq;have hlen:=r'.length;obtain ⟨o,ho,hc,n,hd⟩:=pl.isList;exact call_list_seq p (.inl rfl) ho hc hd (fun h' c' kp e=>fin its r' hz h' c' kp e) (by simp only [List.size_toArray]<;>omega)
 ·obtain ⟨its,r',pl,hz⟩:=I.tuple hq;have hlen:=r'.length;obtain ⟨o,ho,hc,n,hd⟩:=pl;exact call_list_seq p (.inr rfl) ho hc hd (fun h' c' kp e=>fin its r' hz h' c' kp e) (by simp only [List.size_toArray]<;>omega)
theorem z4Z:xz X (.type "tuple") (fun xs H Q=>∃ p ys,xs=[.ref p]/\((SqL X.K H p ys/\∀ l,H l=none->Q (.ref l) (upd H l (.tup ys)))\/(SqT X.K H p ys/\Q (.ref p) H))):=by
 intro pins s O H xs us Q I r h;obtain ⟨p,ys,rfl,h⟩:=h;obtain ⟨u,rfl,rx⟩:=vals1 r;cases rx;rcases h with ⟨hq,q⟩ | ⟨hq,q⟩
 ·obtain ⟨its,r',pl,hz⟩:=I.list hq;have hlen:=r'.length;refine call_tuple_list pl.isList (fun h' kp=>?_) (by simp only [List.size_toArray]<;>omega);have I1:Inv X pins O H {s with heap:=h'}:=I.kept (t':=s.toks) kp;have I2:Inv X pins O (upd H h'.objs.size (.tup ys)) {s with heap:=h'.push {cls:=.type "tuple",data:=.seq its.toArray}}:= I1.laid (t':=s.toks) (fun b o e=>Heap.get?_push_of_some _ e) (Nat.le_refl _) (show xL X.prog X.w _ _ _ (.tup ys) from ⟨hz,its,r',zam.new _ _⟩);exact ⟨.ref h'.objs.size,_,I2,rfl,q _ (I1.hok.fresh (Nat.le_refl _))⟩
 ·obtain ⟨its,r',pl,hz⟩:=I.tuple hq;exact call_tuple_same pl ⟨.ref p,H,I,rfl,q⟩
def tyV(K:W.Frag)(T:String)(x:V)(H:Hp):Prop:=match x with
 | .str _=>T="str" | .int _=>T="int" | .ref p=>(T="list"/\∃ xs,SqL K H p xs)\/(T="tuple"/\∃ o,K.lookup p=some o/\o.cls=.type "tuple"/\o.dict=none)\/ (T="dict"/\((∃ kvs,H p=some (.dK kvs))\/∃ kvs,H p=some (.dT kvs)))\/(T="set"/\∃ S n,H p=some (.set S n)) | _=>False
theorem zgw{pins:List (Addr×Obj)}{O:St}{H:Hp}{s:Shared}{T:String}{x:V}{v:Value}(I:Inv X pins O H s)(r:xx x v)(ty:tyV X.K T x H): s.TypeIs v T/\∀ a,v=.ref a->∃ ob,s.heap.get? a=some ob/\ob.dict=none:=by cases x with
 | str z=>
  obtain ⟨t,rfl⟩:=r;cases (show T="str" from ty);exact ⟨typeIs_str s z t,fun _ e=>nomatch e⟩ | int i=>
  obtain ⟨t,rfl⟩:=r;cases (show T="int" from ty);exact ⟨typeIs_int s i t,fun _ e=>nomatch e⟩ | ref p=>
  cases r;rcases ty with ⟨rfl,xs,hq⟩ | ⟨rfl,o,hk,hc,hd⟩ | ⟨rfl,hk⟩ | ⟨rfl,S,n,hk⟩
  ·obtain ⟨its,_,pl,_⟩:=I.list hq;refine ⟨pl.isList.typeIs,fun a e=>?_⟩;cases e;obtain ⟨o,n,e,c,hd,_⟩:=pl;exact ⟨o,e,hd⟩
  ·refine ⟨⟨o,I.kIn p o hk,hc⟩,fun a e=>?_⟩;cases e;exact ⟨o,I.kIn _ o hk,hd⟩
  ·have z:∃ o,s.heap.get? p=some o/\o.ExactDict:=by
    rcases hk with ⟨kvs,hk⟩ | ⟨kvs,hk⟩
    ·obtain ⟨_,_,_,_,o,_,_,e,ex,_⟩:=I.hok p _ hk;exact ⟨o,e,ex⟩
    ·obtain ⟨_,_,_,_,o,_,_,e,ex,_⟩:=I.hok p _ hk;exact ⟨o,e,ex⟩
   obtain ⟨o,e,ex⟩:=z;refine ⟨⟨o,e,ex.1⟩,fun a e2=>?_⟩;cases e2;exact ⟨o,e,ex.2.1⟩
  ·obtain ⟨o,_,_,_,e,ex,_⟩:=I.hok p _ hk;refine ⟨⟨o,e,ex.1⟩,fun a e2=>?_⟩;cases e2;exact ⟨o,e,ex.2.1⟩ | _=>exact False.elim ty
def tBM(K:W.Frag)(T:String)(r:V->List V->Hp->VK->Prop)(to:TE)(t:TA):TE:=fun O H Q=>to O H fun x H1=>tyV K T x H1/\t O H1 fun xs H2=>r x xs H2 Q
variable {o e:Expr}{es:List Expr}{to:TE}{t:TA}{name:Str}{apos cpos:Pos}{T id:String}{r:V->List V->Hp->VK->Prop}
theorem zex (pa:PlainAttrs T) (slot:Slot T name id) (hty:typeOf (.builtin id)=pure (.type "method_descriptor")) (hm:MtR X id r) (ho:PE X o to) (ha:PA X (e::es) t) (hbase:attributeBase o name X.env (eval o X.env)=eval o X.env:=by rfl) (hfew:((backTo cpos (starEach (e::es) X.env)).all (fun x=>!x.1)&&(backToKw cpos (keywordEach [] X.env)).all (fun x=>x.1.isSome) && decide ((e::es).length+([]:List Keyword).length+(if ([]:List Keyword).isEmpty then 0 else 1)<30))=true:=by rfl) (hline:(apos.endLine==cpos.line)=true:=by rfl) (hs:starEach (e::es) X.env=(false,eval e X.env)::starEach es X.env:=by rfl) (hplain:(backTo cpos (starEach es X.env)).any (·.1)=false:=by rfl): PE X (.Call (.Attribute o name apos) (e::es) [] cpos) (tBM X.K T r to t):=by
 intro pins s O H Q I h;refine wpAny_Call_method_late hbase hfew hline rfl (thn (ho pins s O H _ I h) fun v s1 ⟨x,H1,I1,r1,ty,q1⟩=>?_);obtain ⟨h1,h2⟩:=zgw I1 r1 ty;refine ⟨T,id,pa,slot,hty,h1,h2,?_⟩;have hA:=ha cpos pins s1 O H1 _ I1 q1;rw [hs] at hA ⊢;refine Calls.callWith_builtin (by show (false||(backTo cpos (starEach es X.env)).any (·.1))=false;rw [hplain]<;>rfl) (Calls.evalArgs_plain ?_);exact thn hA fun us s2 ⟨vs,H2,I2,r2,q2⟩=>hm pins s2 O H2 x vs v us Q I2 r1 r2 q2
end
def MtM (X:Cx) (id:String) (r:V->List V->Hp->VK->Prop):Prop:= ∀ (pins:List (Addr×Obj)) (s:Shared) (O:St) (H:Hp) (x:V) (xs:List V) (v:Value) (us:List Value) (Q:VK),Inv X pins O H s->xx x v->yW xs us->r x xs H Q-> wpAny (model X.prog X.w) X.A (call (.builtin id) (v::us)) (EP X pins O Q) X.xe s
theorem yW.one:∀ {x:V}{us:List Value},yW [x] us->∃ u,us=[u]/\xx x u | _,_,.cons r .nil=>⟨_,rfl,r⟩
theorem yW.rep{xs:List V}{us:List Value}(h:yW xs us):∀ k:Nat,yW (List.replicate k xs).flatten (List.replicate k us).flatten
 | 0=>.nil | k+1=>by
  rw [List.replicate_succ,List.replicate_succ,List.flatten_cons,List.flatten_cons];exact yW.append h (yW.rep h k)
theorem foldl_rep(its:List Value):∀ (k:Nat)(acc:List Value), List.foldl (fun x1 x2=>x1++x2) acc.toArray (List.replicate k its.toArray)=(acc++(List.replicate k its).flatten).toArray
 | 0,acc=>by simp | k+1,acc=>by
  have e:acc.toArray++its.toArray=(acc++its).toArray:=by simp
  have e2:(acc++its)++(List.replicate k its).flatten=acc++(List.replicate (k+1) its).flatten:=by rw [List.replicate_succ,List.flatten_cons,List.append_assoc]
  rw [<- e2,<- foldl_rep its k (acc++its),<- e,List.replicate_succ,List.foldl_cons]
section
variable {X:Cx}{pins:List (Addr×Obj)}{O:St}{H:Hp}{s:Shared}{l b:Addr}{xs ys zs:List V}
theorem Inv.lset {its its':List Value} {n:Nat} {f:Array Value->Array Value} {t':Nat} (I:Inv X pins O H s) (hH:H l=some (.lst xs)) (e:s.heap.get? l=some {cls:=.type "list",data:=.seq its.toArray n}) (hf:f its.toArray=its'.toArray) (hv:yW ys its') (hz:ys.length<=sizeLine): Inv X pins O (upd H l (.lst ys)) {s with heap:=s.heap.update l (Obj.mapSeq f),toks:=t'}:=by
 have q:=PySem.IsL.update e f;rw [hf] at q;refine I.write (x:=l) (e:=l) (by rw [hH];exact trivial) (.inl rfl) (fun b' u hb hu=>(Heap.get?_update_other s.heap (Obj.mapSeq f) (Ne.symm hb)).trans hu) ⟨_,q⟩ ?_;exact ⟨hz,its',_,hv,q⟩
theorem Inv.lnew {its:List Value} {t':Nat} (I:Inv X pins O H s) (hv:yW ys its) (hz:ys.length<=sizeLine): Inv X pins O (upd H s.heap.objs.size (.lst ys)) {s with heap:=s.heap.push {cls:=.type "list",data:=.seq its.toArray},toks:=t'}:= I.laid (fun _ _ q=>Heap.get?_push_of_some _ q) (Nat.le_refl _) ⟨hz,its,0,hv,Heap.get?_push_size _ rfl⟩
theorem Inv.fresh(I:Inv X pins O H s):H s.heap.objs.size=none:=I.hok.fresh (Nat.le_refl _)
theorem Inv.lstM(I:Inv X pins O H s)(hH:H l=some (.lst xs)):xs.length<=sizeLine/\∃ (its:List Value)(n:Nat),yW xs its/\xs.length=its.length/\s.heap.get? l=some {cls:=.type "list",data:=.seq its.toArray n}:=by
 obtain ⟨z,its,n,r,e⟩:=I.hok l _ hH;exact ⟨z,its,n,r,r.length,e⟩
theorem zdz{n:Nat}(h:n<=sizeLine):Builtin.List.listTooLong n=false:=by
 unfold Builtin.List.listTooLong;exact decide_eq_false (by omega)
end
section
variable {X:Cx}
def zf2:V->List V->Hp->VK->Prop:=fun x vs H Q=>∃ l xs y,x=.ref l/\vs=[y]/\H l=some (.lst xs)/\xs.length<sizeLine/\Q .non (upd H l (.lst (xs++[y])))
theorem zbr:MtM X "list.append" zf2:=by
 intro pins s O H x vs v us Q I rx rv h;obtain ⟨l,xs,y,rfl,rfl,hH,hz,q⟩:=h;cases rx;obtain ⟨u,rfl,ru⟩:=rv.one;obtain ⟨z,its,n,r,hl,e⟩:=I.lstM hH;refine call_meets F.slot_list_append ⟨_,e,rfl⟩ F.entry_list_append (F.args_list_append_2 _ _) (PySem.list_append l its.toArray n u (by rw [List.size_toArray];omega)) ⟨e,?_⟩;refine ⟨.non,_,I.lset (its':=its++[u]) hH e (by simp) (r.append (.cons ru .nil)) ?_,rfl,q⟩;rw [List.length_append,List.length_singleton];omega
def zlU:R2:=fun x y H Q=>∃ l k xs,x=.ref l/\y=.int k/\Rd H l (.lst xs)/\-(2 ^ 63)<=k/\k<2 ^ 63/\xs.length*k.toNat<=sizeLine/\ ∀ p,H p=none->Q (.ref p) (upd H p (.lst (List.replicate k.toNat xs).flatten))
theorem len_rep{α:Type}(xs:List α)(k:Nat):(List.replicate k xs).flatten.length=k*xs.length:=by induction k with
 | zero=>simp | succ k ih=>rw [List.replicate_succ,List.flatten_cons,List.length_append,ih,Nat.succ_mul,Nat.add_comm]
theorem zht:OpR X (binaryOp .Mult) zlU:=by
 intro pins s O H x y v u Q I rx ry h;obtain ⟨l,k,xs,rfl,rfl,hH,h1,h2,hz,q⟩:=h;cases rx;obtain ⟨t,rfl⟩:=ry;obtain ⟨z,its,n,r,e⟩:=hH.ok I.hok;have hl:xs.length=its.length:=by have:=r.length;omega
 have hlen:its.toArray.size*k.toNat<=sizeLine:=by rw [List.size_toArray,<- hl];exact hz
 have hcap:¬ its.toArray.size*k.toNat > (2 ^ 63-1) / 8:=by
  have:(sizeLine:Nat)<=(2 ^ 63-1) / 8:=by decide
  omega
 have hfit:¬ (!Builtin.List.listFitsIndex k)=true:=by
  rw [fitsIndex_both h1 h2];exact Bool.false_ne_true
 have hlong:¬ Builtin.List.listTooLong (its.toArray.size*k.toNat)=true:=by
  rw [zdz hlen];exact Bool.false_ne_true
 have hnew:List.foldl (fun x1 x2=>x1++x2) #[] (List.replicate (if its.toArray.isEmpty=true then 0 else k.toNat) its.toArray)=(List.replicate k.toNat its).flatten.toArray:=by
  have f0:∀ m:Nat,List.foldl (fun x1 x2=>x1++x2) #[] (List.replicate m its.toArray)=(List.replicate m its).flatten.toArray:=fun m=>by
   have:=foldl_rep its m [];rw [List.nil_append] at this;exact this
  rw [f0];cases its with
  | nil=>simp | cons a r'=>rw [if_neg (by simp)]
 refine wpAny_binaryOp_repeat_ref (T:="list") (U:="int") (by decide) ⟨_,e,rfl⟩ (fun s'=>typeIs_int s' k t) noFill_list_mul F.fills_int_mul F.slot_int_rmul repeat_list F.slot_int_index.lookup (call_meets F.slot_int_rmul (typeIs_int s k t) F.entry_int_rmul (F.args_int_rmul_2 _ _) (int___rmul___int_list k t l its.toArray n) ⟨e,rfl,⟨_,e,rfl⟩,call_meets F.slot_list_mul ⟨_,e,rfl⟩ F.entry_list_mul (F.args_list_mul_2 _ _) (AutoListH.list___mul___list_int_3 l its.toArray n k t hfit hcap hlong) ⟨e,?_⟩⟩);rw [hnew];exact ⟨.ref _,_,I.lnew (t':=s.toks) (r.rep k.toNat) (by rw [len_rep,Nat.mul_comm];exact hz),rfl,q _ I.fresh⟩
end
end L2
namespace Att
open PySem.W PySem.Calls
theorem z1Y{P:Params}{h:Heap}:∀ (ns:List Int)(vs:List Value),WellAll P h vs (ns.map WData.int)->IntsAre vs ns:=by
 intro ns;induction ns with
 | nil=>
  intro vs w;rw [List.map_nil] at w;cases w;exact .nil | cons n ns ih=>
  intro vs w;rw [List.map_cons] at w;cases w with | cons a b=>
   cases a;exact .cons _ _ (ih _ b)
theorem zbl {l:OpenLaw} {n:Nat} (hn:l.most=some n) {P:Params} {h:Heap} {args:List WData} {vals:List Value} (hpre:l.row.toRowW.claim.pre args=true) (hwl:WellAll P h vals args): ∃ a vs ns,vals=[Value.ref a]/\args=[WData.list (ns.map WData.int)]/\h.get? a=some {cls:=.type "list",data:=.seq vs.toArray}/\IntsAre vs ns/\ns.length<=n:=by
 have hsh:WShape.hasAll [] args [.list .int]=true:=(pre_splitW hpre).1;have hc:l.pre.holds [] {args:=args}=true:=(pre_splitW hpre).2;obtain ⟨d,r,rfl,h1,h2⟩:=hasAllW_cons hsh;obtain rfl:=hasAllW_nil h2;obtain ⟨xs,rfl,h3⟩:=hasW_list h1;obtain ⟨ns,rfl⟩:=items_int h3;have hlen:ns.length<=n:=by
  unfold OpenLaw.pre at hc;have h4:(WTm.not (.lt (.lit (.int (n:Int))) (.len (.arg 0)))).holds [] {args:=[.list (ns.map .int)]}=true:=by
   have h4:=(holds_andW hc).1;rw [hn] at h4;exact h4
  have h5:=condW_of h4 (w_not (w_lt w_lit (w_len_list (w_arg rfl))));rw [List.length_map] at h5;refine Nat.le_of_not_lt fun q=>?_;have q':(n:Int)<((ns.length:Nat):Int):=by omega
  first
   | (rw [decide_eq_true q'] at h5;exact absurd h5 (by decide)) | (simp at h5;omega)
 cases hwl with | cons w1 w2=>
  cases w2;cases w1 with | list ho hall=>exact ⟨_,_,ns,rfl,rfl,ho,z1Y ns _ hall,hlen⟩
theorem zba (l:OpenLaw) (args:List WData):l.row.toRowW.claim.post args (.bool true) args=true:= postW_of (r:=l.row.toRowW) (X:=(true==true)) (show WShape.has [] (.bool true) .bool=true by first | rfl | decide | simp [WShape.has,WShape.arms,WShape.armsAll]) (show (WTm.eq .res (.lit (.bool true))).value [] {args:=args,res:=some (.bool true),after:=args}=some (.bool (true==true)) from w_eq_bool (w_res rfl) w_lit) rfl
theorem z2i{l:OpenLaw}{n:Nat}{q:Program}{loose:List Str}{XP:(Str->Option Value)->Heap->Prop}{YP:World->Heap->Prop}{d:DefRec} (hn:l.most=some n)(hdf:d.params.defaults=[]) (call:∀ (w:World)(s₀ s₁:Shared)(mg mb:Str->Option Value)(fa:Addr)(o:Obj)(pm cd doc:Value)(a:Addr)(vs:List Value)(ns:List Int), Ground q loose [] XP w s₀ mg mb s₁.heap->YP w s₁.heap-> s₁.heap.get? fa=some o->o.data=.func (docDef d.name d.params d.body d.scope pm cd doc)->s₁.heap.CodeRec cd d.name->mg d.name=some (.ref fa)-> s₁.heap.get? a=some {cls:=.type "list",data:=.seq vs.toArray}->IntsAre vs ns->ns.length<=n->s₁.gens=#[]-> codeAny (model l.prog w) callerA (.call (.ref fa) ⟨[.ref a],[]⟩) (fun r s'=>r=.ok (.ret (.bool true))/\OldK s₁.heap s'.heap/\s'.os=s₁.os/\AllBare s'.gens) s₁): WalkO q loose XP YP l.row.toRowW d [] (fun f vs=>PySem.call f vs):=by
 intro w s₀ s₁ mg mb G Yy fa o pm cd doc dV kV ho hd hcd hD hmg hg args vals as hpre hlay hrd hwl hlo;obtain rfl:dV=.none:=Dflts.none hD hdf;obtain rfl:kV=.none:=Dflts.noKw hD;obtain ⟨a,vs,ns,rfl,rfl,hobj,hints,hlen⟩:=zbl hn hpre hwl;refine enter_call (codeAny_mono (call w s₀ s₁ mg mb fa o pm cd doc a vs ns G Yy ho (fd_plain hd) hcd hmg hobj hints hlen hg) fun r s' hq=>?_);obtain ⟨rfl,h2,h3,h4⟩:=hq;exact ⟨.inl ⟨.bool true,.bool true,[],rfl,fun _=>rfl,.bool true,zba l _,fun _=>⟨List.Pairwise.nil,fun _ hm=>(nomatch hm)⟩⟩,h2,h3,h4⟩
section
variable {prog:Program}{w:World}{A:Around}{E:Value->Shared->Prop}{s:Shared}{K:Frag}
def ledger(h:Heap)(L d:Addr):List (Addr×Obj):=(List.range h.objs.size).filterMap fun a=>if a=L\/a=d then none else (h.get? a).map fun o=>(a,o)
end
end Att
namespace L2
open PySem.Spec
theorem z6a:∀ {vs:List Value}{ns:List Int},IntsAre vs ns->yW (ns.map V.int) vs
 | _,_,.nil=>.nil | _,_,.cons n t h=>.cons ⟨t,rfl⟩ (z6a h)
def ziT(H:Hp):Prop:=∀ b,H b=none\/∃ o xs,H b=some (.frz o (.lst xs))
theorem z8Z {P:Program} {w:World} {K:W.Frag} {mg mb:Str->Option Value} {CX:CXT} {k:Nat} {fa a:Addr} {fd:FuncData} {x:Str} {sp:Sp} {s₁:Shared} {vs:List Value} {ns:List Int} (KX:K.In s₁.heap) (hns:s₁.heap.Ns mainGlobals mg) (hb:s₁.heap.Ns builtinsNs mb) (hbb:∀ x:Str,x≠"__name__"->mb x=bootBuiltins x) (hlim:s₁.heap.NoLimit) (hg:s₁.gens=#[]) (ha:s₁.heap.get? a=some {cls:=.type "list",data:=.seq vs.toArray}) (hi:IntsAre vs ns) (hl:ns.length<=sizeLine) (hr:z0l k callerA) (F:∀ base:Heap,K.In base->base.Ns mainGlobals mg->z4h P w K mg base CX k fa fd [x] sp) (hbind:∀ (s:Shared) (u:Value),BindsTo s fd ⟨[u],[]⟩ [(x,u)]) (hsp:∀ H:Hp,ziT H->SqL K H a (ns.map V.int)->sp [.ref a] H (fun v _=>v=.bl true) fun _ _ _=>False) (hCX:∀ H e s',CX [] H s₁ (fun _ _ _=>False) e s'->False): codeAny (model P w) callerA (.call (.ref fa) ⟨[.ref a],[]⟩) (fun r s'=>r=.ok (.ret (.bool true))/\OldK s₁.heap s'.heap/\s'.os=s₁.os/\AllBare s'.gens) s₁:=by
 have rv:=z6a hi;have lenV:=hi.length;have core:∀ H:Hp,ziT H->SqL K H a (ns.map V.int)->HOk P w H s₁.heap->(∀ b,H b≠none->b=a)->(H a≠none->K.lookup a=none)-> codeAny (model P w) callerA (.call (.ref fa) ⟨[.ref a],[]⟩) (fun r s'=>r=.ok (.ret (.bool true))/\OldK s₁.heap s'.heap/\s'.os=s₁.os/\AllBare s'.gens) s₁:=by
  intro H hO hS hok hA hK;have base_of:∀ {b:Addr} {o:Obj},s₁.heap.get? b=some o->H b=none->(zcB s₁.heap H).get? b=some o:=fun e n=>zdm e n;have noA:∀ {b:Addr} {o:Obj} {es:Array DictEntry} {ep:Nat},s₁.heap.get? b=some o->o.data=.dict es ep->H b=none:=fun {b o es ep} e d=>by cases q:H b with
   | none=>rfl | some u=>
    have e':b=a:=hA b (by rw [q];simp);subst e';rw [ha] at e;cases e;have d':Data.seq vs.toArray _=Data.dict es ep:=d;cases d'
  have nsK:∀ {b:Addr} {m:Str->Option Value},s₁.heap.Ns b m->(zcB s₁.heap H).Ns b m:=fun {b m} ⟨o,es,ep,e,d,r⟩=>⟨o,es,ep,base_of e (noA e d),d,r⟩;have hKb:K.In (zcB s₁.heap H):=fun b o e=>base_of (KX b o e) (by cases q:H b with
   | none=>rfl | some u=>
    have e':b=a:=hA b (by rw [q];simp);subst e';rw [hK (by rw [q];simp)] at e;cases e);have hM:Mod K mg (zcB s₁.heap H):=⟨hKb,nsK hns,⟨mb,nsK hb,hbb⟩,let ⟨mc,h1,h2⟩:=hlim;⟨mc,nsK h1,h2⟩⟩;have e0:zgu P w K mg (zcB s₁.heap H) callerA [] s₁ H:=⟨rfl,hM,fun b o e=>zet e,Nat.le_of_eq (z9Z _ _),trivial,fun b hb=>absurd (show b∈([]:List Addr) from hb) (by simp),hok,.of_eq hg⟩;refine codeAny_mono ((F _ hKb (nsK hns)).run callerA [] s₁ H ⟨[.ref a],[]⟩ [.ref a] [.ref a] _ _ hr e0 (hbind s₁ (.ref a)) (.cons rfl .nil) (hsp H hO hS)) fun r s' h=>?_;cases r with
  | error e=>exact (hCX H e s' h).elim | ok fl=> cases fl with
   | next=>exact False.elim h | brk=>exact False.elim h | cont=>exact False.elim h | ret u=>
    obtain ⟨v,H',os,bare,un,hok',r',q⟩:=h;have q':v=.bl true:=q;subst q';obtain rfl:u=Value.bool true:=r';refine ⟨rfl,OldK.of_keep fun b o e=>?_,os,bare⟩;cases q:H b with
    | none=>exact un.keep b o e q (by intro z;exact absurd (show b∈([]:List Addr) from z) (by simp)) (by simp) | some u=>
     rcases hO b with z | ⟨ob,xs,z⟩;·rw [q] at z;cases z
     ·have z2:=un.frzs b ob _ z;obtain ⟨e1,_⟩:=hok b _ z;obtain ⟨e2,_⟩:=hok' b _ z2;rw [e] at e1;cases e1;exact e2
 cases hk:K.lookup a with
 | some o=>
  have e:=KX a o hk;rw [ha] at e;cases e;refine core (fun _=>none) (fun _=>.inl rfl) (.inr ⟨_,vs.toArray,_,hk,rfl,rfl,rfl,by rw [List.size_toArray,lenV];exact hl,by simpa using rv⟩) (fun b u z=>by have z':(none:Option HO)=some u:=z;cases z') (fun b z=>absurd rfl z) fun z=>absurd rfl z | none=>
  refine core (fun b=>if b=a then some (.frz {cls:=.type "list",data:=.seq vs.toArray} (.lst (ns.map V.int))) else none) (fun b=>?_) (.inl (.inr ⟨{cls:=.type "list",data:=.seq vs.toArray},if_pos rfl⟩)) (fun b u z=>?_) (fun b z=>?_) fun _=>hk
  ·by_cases hb:b=a;·exact .inr ⟨_,_,if_pos hb⟩
   ·exact .inl (if_neg hb)
  ·by_cases hb:b=a
   ·have z':=(if_pos hb).symm.trans z;cases z';subst hb;exact ⟨ha,by rw [List.length_map];exact hl,vs,_,rv,ha⟩
   ·have z':=(if_neg hb).symm.trans z;cases z'
  ·by_cases hb:b=a;·exact hb
   ·exact absurd (if_neg hb) z
abbrev KOf{K:W.Frag}{h:Heap}(_:K.In h):W.Frag:=K
theorem zj3{l:W.OpenLaw}{n k:Nat}{q:Program}{loose:List Str}{XP:(Str->Option Value)->Heap->Prop}{YP:World->Heap->Prop}{d:DefRec}{K:Params->W.Frag}{CX:World->CXT}{sp:World->Sp}{x:Str} (hn:l.most=some n)(hn2:n<=sizeLine)(hdf:d.params.defaults=[])(hr:z0l k callerA) (hY:∀ (w:World)(h:Heap),YP w h->(K w.params).In h) (F:∀ (w:World)(mg:Str->Option Value)(fa:Addr)(h:Heap),(K w.params).In h->h.Ns mainGlobals mg->mg d.name=some (.ref fa)-> ∃ fd:FuncData,(∀ (s:Shared)(u:Value),BindsTo s fd ⟨[u],[]⟩ [(x,u)])/\ ∀ base:Heap,(K w.params).In base->base.Ns mainGlobals mg->z4h l.prog w (K w.params) mg base (CX w) k fa fd [x] (sp w)) (hsp:∀ (w:World)(H:Hp)(a:Addr)(ns:List Int),ns.length<=n->ziT H->SqL (K w.params) H a (ns.map V.int)->sp w [.ref a] H (fun v _=>v=.bl true) fun _ _ _=>False) (hCX:∀ (w:World)(H:Hp)(s:Shared)(e:Value)(s':Shared),CX w [] H s (fun _ _ _=>False) e s'->False): W.WalkO q loose XP YP l.row.toRowW d [] (fun f vs=>PySem.call f vs):=by
 refine Att.z2i hn hdf fun w s₀ s₁ mg mb fa o pm cd doc a vs ns G Yy ho hd hcd hmg hobj hints hlen hg=>?_;have KX:=hY w _ Yy;obtain ⟨fd,hb,hF⟩:=F w mg fa _ KX G.T.g hmg;exact z8Z KX G.T.g G.T.b G.T.builtins G.T.nolimit hg hobj hints (Nat.le_trans hlen hn2) hr hF hb (fun H hO hS=>hsp w H a ns hlen hO hS) fun H e s'=>hCX w H s₁ e s'
def z0o(s:Stmt):Arguments:=match s with
 | .FunctionDef _ a _ _ _ _ _ _ _ _=>a | _=>{posonlyargs:=[],args:=[],vararg:=none,kwonlyargs:=[],kw_defaults:=[],kwarg:=none,defaults:=[]}
def wY(s:Stmt):List Stmt:=match s with
 | .FunctionDef _ _ b _ _ _ _ _ _ _=>b | _=>[]
def zf(s:Stmt):Scope:=match s with
 | .FunctionDef _ _ _ _ _ _ sc _ _ _=>sc | _=>{kind:=.function,names:=[],isGenerator:=false,isCoroutine:=false}
abbrev CX0:CXT:=fun _ _ _ _ _ _=>False
abbrev E0:XK:=fun _ _ _=>False
theorem zB{X:Cx}:Passes CX0 X E0:=fun _ _ _ _ _ _ _ h=>h.elim
structure Fun(K:W.Frag)(x qual:Str)(st:Stmt)(f:Addr)(fd:FuncData):Prop where
 ex:∃ (oc:Value)(od:Option Addr)(kV doc pm:Value)(an:Option Addr)(cdv ct:Value)(osl:Array (Option Value)), fd=W.fnOf x qual (z0o st) (wY st) (zf st) .none kV doc pm an cdv ct/\K.lookup f=some ⟨oc,od,.func fd,osl⟩/\W.codeIn K cdv qual=true
 kp:W.keepIn K (.ref f)=true
section
variable {P:Program}{w:World}{K:W.Frag}{mg:Str->Option Value}{base:Heap}
theorem Fun.ok{x qual:Str}{st:Stmt}{f:Addr}{fd:FuncData}{N ps:List Str}{k:Nat}{sp:Sp}(F:Fun K x qual st f fd)(S:zv N ps (zf st))(len:∀ vs H Q E,sp vs H Q E->vs.length=ps.length) (hbody:∀ (cdv:Value)(A:Around)(outer:List Env)(s:Shared)(H:Hp)(vs:List V)(Q:VK)(E:XK),z0l k (A.deeper (envOfC qual (zf st) s.heap.objs.size f cdv))->sp vs H Q E-> ∃ t,PSs (z2c CX0 P w K mg base N qual (zf st) f cdv A outer s H E).nox (wY st) t/\t {nx:=fun _ H'=>Q .non H',rt:=Q} (start N vs) H):z4h P w K mg base CX0 (k+1) f fd ps sp:=by
 obtain ⟨oc,od,kV,doc,pm,an,cdv,ct,osl,rfl,lk,hcd⟩:=F.ex;refine ziA lk hcd S len fun A outer s H vs Q E hr hsp=>?_;obtain ⟨t,h,q⟩:=hbody cdv A outer s H vs Q E hr hsp;exact ⟨t,h.nox,q⟩
theorem Fun.binds{x qual:Str}{st:Stmt}{f:Addr}{fd:FuncData}{ps:List Str}(F:Fun K x qual st f fd) (h:∀ (kV doc pm:Value)(an:Option Addr)(cdv ct:Value)(us:List Value),us.length=ps.length->bindArgs (W.fnOf x qual (z0o st) (wY st) (zf st) .none kV doc pm an cdv ct) ⟨us,[]⟩=pure (ps.zip us)):Binds K fd ps []:=by
 obtain ⟨oc,od,kV,doc,pm,an,cdv,ct,osl,rfl,lk,hcd⟩:=F.ex;exact .all (h kV doc pm an cdv ct)
theorem zir{x qual:Str}{st:Stmt}{f:Addr}{oc:Value}{od an:Option Addr}{osl:Array (Option Value)}{kV doc pm cdv ct:Value}(l:K.lookup f=some ⟨oc,od,.func (W.fnOf x qual (z0o st) (wY st) (zf st) .none kV doc pm an cdv ct),osl⟩) (c:W.codeIn K cdv qual=true)(k:W.keepIn K (.ref f)=true):Fun K x qual st f (W.fnOf x qual (z0o st) (wY st) (zf st) .none kV doc pm an cdv ct):=⟨⟨oc,od,kV,doc,pm,an,cdv,ct,osl,rfl,l,c⟩,k⟩
end
end L2
set_option maxHeartbeats 4000000
namespace L2
open PySem.Spec
def z5w(env:Env):List (Str×NameKind)->List (Str×Addr)->List (Str×Addr)
 | [],acc=>acc | (n,k)::r,acc=>z5w env r (if k==.free then (match env.cells.lookup n with | some c=>(n,c)::acc | none=>acc) else acc)
theorem z2Z{env:Env}:∀ (names:List (Str×NameKind))(acc:List (Str×Addr)),(∀ x c,acc.lookup x=some c->env.cells.lookup x=some c)->∀ x c,(z5w env names acc).lookup x=some c->env.cells.lookup x=some c
 | [],acc,ha=>ha | (n,k)::r,acc,ha=>by
  unfold z5w;refine z2Z r _ fun x c=>?_;split
  ·split
   ·rename_i c' hc;intro h;rw [List.lookup_cons] at h;split at h
    ·rename_i hb;cases h;rw [beq_iff_eq.mp hb];exact hc
    ·exact ha x c h
   ·exact ha x c
  ·exact ha x c
theorem z6X{env:Env}{x:Str}:∀ (names:List (Str×NameKind))(acc:List (Str×Addr)),(acc.lookup x).isSome=true->((z5w env names acc).lookup x).isSome=true
 | [],acc,ha=>ha | (n,k)::r,acc,ha=>by
  unfold z5w;refine z6X r _ ?_;split
  ·split
   ·rw [List.lookup_cons];split;·rfl
    ·exact ha
   ·exact ha
  ·exact ha
theorem z4G{env:Env}{x:Str}:∀ (names:List (Str×NameKind))(acc:List (Str×Addr)),(x,NameKind.free)∈names->(∃ c,env.cells.lookup x=some c)->∃ c,(z5w env names acc).lookup x=some c
 | [],acc,h,_=>nomatch h | (n,k)::r,acc,h,hc=>by
  rcases List.mem_cons.mp h with e | h
  ·cases e;obtain ⟨c,hc⟩:=hc;unfold z5w;have q:((z5w env r ((x,c)::acc)).lookup x).isSome=true:=z6X r _ (by simp);rw [if_pos (by rfl),hc];exact Option.isSome_iff_exists.mp q
  ·unfold z5w;exact z4G r _ h hc
theorem z3Y{env:Env}(f:Str×NameKind->List (Str×Addr)->Sem (ForInStep (List (Str×Addr)))) (hf:∀ n k cs,f (n,k) cs=if k==.free then (do let a <- cellOf env n;pure (.yield ((n,a)::cs))) else pure (.yield cs)): ∀ (names:List (Str×NameKind))(acc:List (Str×Addr)),(∀ y∈names,y.2=.free->∃ c,env.cells.lookup y.1=some c)->forIn names acc f=pure (z5w env names acc)
 | [],acc,_=>rfl | (n,k)::r,acc,h=>by
  rw [List.forIn_cons,hf];have ih:=fun acc'=>z3Y f hf r acc' fun y hy=>h y (List.mem_cons_of_mem _ hy);unfold z5w;by_cases hk:k=.free
  ·subst hk;obtain ⟨c,hc⟩:=h (n,.free) List.mem_cons_self rfl;have hc':env.cells.lookup n=some c:=hc;have e:cellOf env n=pure c:=by unfold cellOf;rw [hc']
   rw [if_pos (by rfl),if_pos (by rfl),e,hc',pure_bind,pure_bind];exact ih _
  ·have hb:(k==NameKind.free)=false:=by simpa using hk
   rw [hb,if_neg (by decide),if_neg (by decide),pure_bind];exact ih _
theorem uV{scope:Scope}{env:Env}(h:∀ y∈scope.names,y.2=.free->∃ c,env.cells.lookup y.1=some c):closureFor scope env=pure (z5w env scope.names []):=by
 simp only [closureFor];rw [z3Y (env:=env) _ (fun n k cs=>by cases hk:k==NameKind.free<;>simp [hk]) scope.names [] h];simp
theorem vy:∀ (names:List (Str×NameKind))(n:Nat)(acc:List (Str×Addr)),cellsFrom n names acc=cellsFrom n names []++acc
 | [],_,_=>rfl | (x,k)::r,n,acc=>by
  unfold cellsFrom;split
  ·rw [vy r (n+1) ((x,n)::acc),vy r (n+1) [(x,n)]];simp
  ·exact vy r n acc
theorem qu{x:Str}{c:Addr}:∀ (names:List (Str×NameKind))(n:Nat)(acc:List (Str×Addr)),(x,c)∈cellsFrom n names acc->(x,c)∈acc\/(x,NameKind.cell)∈names
 | [],_,_,h=>.inl h | (y,k)::r,n,acc,h=>by
  unfold cellsFrom at h;split at h
  ·rename_i hk;rcases qu r _ _ h with q | q
   ·rcases List.mem_cons.mp q with e | q
    ·cases e;refine .inr ?_;rw [show k=NameKind.cell from beq_iff_eq.mp hk];exact List.mem_cons_self
    ·exact .inl q
   ·exact .inr (List.mem_cons_of_mem _ q)
  ·rcases qu r _ _ h with q | q;·exact .inl q
   ·exact .inr (List.mem_cons_of_mem _ q)
def zcZ(X:Cx)(scope:Scope)(C:Addr):Env:= {scope:=relabel scope X.env,locals:=C,globals:=X.env.globals,cells:=cellsFrom (C+1) scope.names []++z5w X.env scope.names [],qual:=X.env.qual,func:=none,code:=X.env.code,frame:=X.env.frame,builtins:=X.env.builtins}
def zU(X:Cx)(N':List Str)(scope:Scope)(ex:List Addr)(s:Shared)(H:Hp):Cx where
 prog:=X.prog;w:=X.w;K:=X.K;mg:=X.mg;base:=X.base;A:=X.A;N:=N';s₀:=s;H₀:=H;env:=zcZ X scope s.heap.objs.size;outer:=X.stack;stack:=X.stack;ex:=ex;fn:=fun x=>scope.names.lookup x==some .cell;calm:=X.calm;pn:=[];xe:=fun _ _=>False
theorem jz{env:Env}{x:Str}{k:NameKind}:∀ {names:List (Str×NameKind)},names.lookup x=some k-> (names.map fun (n,k)=>if (k==NameKind.free&&env.scope.kind==.function&&env.kindOf n==some .cell) then (n,NameKind.cell) else (n,k)).lookup x=some k\/ (k=.free/\(names.map fun (n,k)=>if (k==NameKind.free&&env.scope.kind==.function&&env.kindOf n==some .cell) then (n,NameKind.cell) else (n,k)).lookup x=some .cell)
 | [],h=>by simp at h | (n,k')::r,h=>by
  have ih:=@jz env x k r;show List.lookup x ((if (k'==NameKind.free&&env.scope.kind==.function&&env.kindOf n==some .cell)=true then (n,NameKind.cell) else (n,k'))::_)=_\/(_/\List.lookup x ((if (k'==NameKind.free&&env.scope.kind==.function&&env.kindOf n==some .cell)=true then (n,NameKind.cell) else (n,k'))::_)=_);cases hx:x==n with
  | true=>
   simp only [List.lookup_cons,hx] at h;cases h;by_cases hc:(k==NameKind.free&&env.scope.kind==.function&&env.kindOf n==some .cell)=true
   ·rw [if_pos hc];simp only [Bool.and_eq_true,beq_iff_eq] at hc;exact .inr ⟨hc.1.1,by simp [List.lookup_cons,hx]⟩
   ·rw [if_neg hc];exact .inl (by simp [List.lookup_cons,hx]) | false=>
   simp only [List.lookup_cons,hx] at h;by_cases hc:(k'==NameKind.free&&env.scope.kind==.function&&env.kindOf n==some .cell)=true;·rw [if_pos hc];simp only [List.lookup_cons,hx];exact ih h
   ·rw [if_neg hc];simp only [List.lookup_cons,hx];exact ih h
theorem ur{env:Env}{x:Str}{k:NameKind}:∀ {names:List (Str×NameKind)}, (names.map fun (n,k)=>if (k==NameKind.free&&env.scope.kind==.function&&env.kindOf n==some .cell) then (n,NameKind.cell) else (n,k)).lookup x=some k->(k=.cell\/k=.free)->(x,NameKind.cell)∈names\/(x,NameKind.free)∈names
 | [],h,_=>by simp at h | (n,k')::r,h,hk=>by
  have ih:=@ur env x k r;change List.lookup x ((if (k'==NameKind.free&&env.scope.kind==.function&&env.kindOf n==some .cell)=true then (n,NameKind.cell) else (n,k'))::_)=_ at h;have step:(List.lookup x (r.map fun (n,k)=>if (k==NameKind.free&&env.scope.kind==.function&&env.kindOf n==some .cell) then (n,NameKind.cell) else (n,k))=some k)->(x,NameKind.cell)∈(n,k')::r\/(x,NameKind.free)∈(n,k')::r:=fun q=> (ih q hk).elim (fun z=>.inl (List.mem_cons_of_mem _ z)) fun z=>.inr (List.mem_cons_of_mem _ z);by_cases hc:(k'==NameKind.free&&env.scope.kind==.function&&env.kindOf n==some .cell)=true
  ·rw [if_pos hc,List.lookup_cons] at h;split at h
   ·rename_i hb;simp only [Bool.and_eq_true,beq_iff_eq] at hc;rw [beq_iff_eq.mp hb,hc.1.1];exact .inr List.mem_cons_self
   ·exact step h
  ·rw [if_neg hc,List.lookup_cons] at h;split at h
   ·rename_i hb;cases h;rw [beq_iff_eq.mp hb];rcases hk with rfl | rfl;·exact .inl List.mem_cons_self
    ·exact .inr List.mem_cons_self
   ·exact step h
def inner(mp:List (Option Nat))(O:St):St:=mp.map fun o=>match o with | some j=>(O[j]?).getD none | none=>none
def z3L(N:List Str)(names:List (Str×NameKind)):List Str->List (Option Nat)->Bool
 | [],[]=>true | _::r,none::mp=>z3L N names r mp | x::r,some j::mp=>N[j]? == some x&&names.lookup x==some .free&&z3L N names r mp | _,_=>false
theorem z4V{N:List Str}{names:List (Str×NameKind)}:∀ {N':List Str}{mp:List (Option Nat)},z3L N names N' mp=true->mp.length=N'.length
 | [],[],_=>rfl | _::_,none::_,h=>by
  simp only [z3L] at h;simp only [List.length_cons];rw [z4V h] | _::_,some _::_,h=>by
  simp only [z3L,Bool.and_eq_true] at h;simp only [List.length_cons];rw [z4V h.2] | [],none::_,h=>by cases h | [],some _::_,h=>by cases h | _::_,[],h=>by cases h
theorem z7g{N:List Str}{names:List (Str×NameKind)}:∀ {N':List Str}{mp:List (Option Nat)}{i j:Nat}{x:Str},z3L N names N' mp=true->N'[i]? = some x->mp[i]? = some (some j)->N[j]? = some x/\names.lookup x=some .free
 | [],_,_,_,_,_,h,_=>by simp at h | _::_,[],_,_,_,_,_,h=>by simp at h | _::_,none::_,0,_,_,_,_,h=>by simp at h | _::_,some _::_,0,_,_,h,h1,h2=>by
  simp only [z3L,Bool.and_eq_true,beq_iff_eq] at h;simp at h1 h2;subst h1 h2;exact h.1 | _::_,none::_,i+1,_,_,h,h1,h2=>by
  simp only [z3L] at h;exact z7g (i:=i) h (by simpa using h1) (by simpa using h2) | _::_,some _::_,i+1,_,_,h,h1,h2=>by
  simp only [z3L,Bool.and_eq_true] at h;exact z7g (i:=i) h.2 (by simpa using h1) (by simpa using h2)
section
variable {X:Cx}{pins:List (Addr×Obj)}{O:St}{H:Hp}{s s1:Shared}{scope:Scope}{N':List Str}{ex:List Addr}{mp:List (Option Nat)}
theorem z9G{α:Type}{x:Str}{l1 l2:List (Str×α)}{c:α}(h:(l1++l2).lookup x=some c):l1.lookup x=some c\/(l1.lookup x=none/\l2.lookup x=some c):=by
 rw [List.lookup_append] at h;cases e:l1.lookup x with
 | some d=>rw [e] at h;exact .inl h | none=>rw [e] at h;exact .inr ⟨rfl,h⟩
theorem z9n (I:Inv X pins O H s) (hkd:scope.kind=.function) (hnm:∀ y∈scope.names,scope.names.lookup y.1=some y.2) (hfr:∀ y∈scope.names,y.2=.free->X.env.kindOf y.1=some .cell\/X.env.kindOf y.1=some .free) (hmp:z3L X.N scope.names N' mp=true) (hex:∀ b∈ex,b<s.heap.objs.size/\H b=none/\b≠X.env.locals/\b∉X.fs/\(b∈X.ex\/X.s₀.heap.objs.size<=b)/\(∀ x c,X.env.cells.lookup x=some c->c≠b)) (e1:s1.heap=pushCells (s.heap.push {cls:=.type "dict",data:=.dict #[]}) scope.names) (e2:s1.os=s.os) (e3:s1.gens=s.gens): Inv (zU X N' scope ex s H) [] (inner mp O) H s1:=by
 have keep:∀ b o,s.heap.get? b=some o->s1.heap.get? b=some o:=fun b o e=>by rw [e1];exact pushCells_keeps _ _ b o (Heap.get?_push_of_some _ e)
 have ok:=cellsFrom_ok scope.names (s.heap.push {cls:=.type "dict",data:=.dict #[]}) (s.heap.objs.size+1) [] ⟨fun _ _ hm=>(nomatch hm),List.Pairwise.nil⟩ (by rw [Heap.size_push];exact Nat.le_refl _);rw [Heap.size_push,<- e1] at ok;have hclo:∀ x c,(z5w X.env scope.names []).lookup x=some c->X.env.cells.lookup x=some c:=z2Z scope.names [] (fun x c h=>by simp at h);have clt:∀ x c,X.env.cells.lookup x=some c->c<s.heap.objs.size:=fun x c h=>by obtain ⟨v,q⟩:=I.cell x c h;exact q.lt
 have own:∀ x c,(cellsFrom (s.heap.objs.size+1) scope.names []).lookup x=some c->s1.heap.IsCell c none/\s.heap.objs.size+1<=c:=fun x c h=>ok.empty x c (PySem.mem_of_lookup h);have both:∀ x c,(zcZ X scope s.heap.objs.size).cells.lookup x=some c->((cellsFrom (s.heap.objs.size+1) scope.names []).lookup x=some c/\s1.heap.IsCell c none/\s.heap.objs.size+1<=c)\/(X.env.cells.lookup x=some c):=fun x c h=>by
  rcases z9G h with q | ⟨_,q⟩;·exact .inl ⟨q,own x c q⟩
  ·exact .inr (hclo x c q)
 refine ⟨⟨I.ok.mod,hkd,I.ok.glob,I.ok.blt,Nat.le_refl _,fun x y c h1 h2=>?_,fun x hx=>?_,fun x c hf h=>?_,I.ok.hd,I.ok.frames,.inl rfl,fun b hb=>⟨Nat.ne_of_lt (hex b hb).1,fun x c h=>?_⟩,fun b o e=>I.bs b o e,Nat.le_trans I.ok.bsz I.sz,fun b o e hb=>?_,fun b hb hf=>?_,I.stack,I.stkFree⟩, e2,by rw [e3];exact I.bare,Un.kept keep,?_,fun x c h=>?_,I.hok.fresh (Nat.le_refl _),fun x c h=>?_,fun p hp=>absurd (show p∈([]:List (Addr×Obj)) from hp) (by simp),I.hok.kept keep,?_⟩
 ·rcases both x c h1 with ⟨q1,_,l1⟩ | q1<;>rcases both y c h2 with ⟨q2,_,l2⟩ | q2;·exact name_of_addr ok.apart (PySem.mem_of_lookup q1) (PySem.mem_of_lookup q2)
  ·exact absurd (Nat.lt_of_lt_of_le (clt y c q2) (Nat.le_of_succ_le l1)) (Nat.lt_irrefl _)
  ·exact absurd (Nat.lt_of_lt_of_le (clt x c q1) (Nat.le_of_succ_le l2)) (Nat.lt_irrefl _)
  ·exact I.ok.inj x y c q1 q2
 ·have hx':(x,NameKind.cell)∈scope.names\/(x,NameKind.free)∈scope.names:=by
   rcases hx with hx | hx;·exact ur (env:=X.env) hx (.inl rfl)
   ·exact ur (env:=X.env) hx (.inr rfl)
  show ∃ c,(cellsFrom (s.heap.objs.size+1) scope.names []++z5w X.env scope.names []).lookup x=some c;rw [List.lookup_append];cases e:(cellsFrom (s.heap.objs.size+1) scope.names []).lookup x with
  | some c=>exact ⟨c,rfl⟩ | none=>
   rcases hx' with hx' | hx'
   ·obtain ⟨c,q⟩:=z1D (sc:=scope) (n:=s.heap.objs.size+1) (hnm (x,.cell) hx');rw [q] at e;cases e
   ·obtain ⟨c,q⟩:=z4G (env:=X.env) scope.names [] hx' (I.ok.has x (hfr (x,.free) hx' rfl));exact ⟨c,by simpa using q⟩
 ·have hf':scope.names.lookup x=some .cell:=beq_iff_eq.mp hf;obtain ⟨c',q⟩:=z1D (sc:=scope) (n:=s.heap.objs.size+1) hf';have h':(cellsFrom (s.heap.objs.size+1) scope.names []++z5w X.env scope.names []).lookup x=some c:=h;rw [List.lookup_append,q] at h';have e:c'=c:=Option.some.inj h';subst e;exact Nat.le_of_lt (Nat.lt_of_succ_le (own x c' q).2)
 ·rcases both x c h with ⟨_,_,l⟩ | q
  ·intro z;rw [z] at l;exact absurd (Nat.lt_of_lt_of_le (hex b hb).1 (Nat.le_of_succ_le l)) (Nat.lt_irrefl _)
  ·exact (hex b hb).2.2.2.2.2 x c q
 ·rcases (hex b hb).2.2.2.2.1 with z | z;·exact I.ok.noex b o e z
  ·exact absurd (Nat.lt_of_lt_of_le (Nat.lt_of_lt_of_le (Heap.lt_size e) I.ok.bsz) z) (Nat.lt_irrefl _)
 ·have q:=I.stkSub b hf;rcases List.mem_cons.mp q with z | z;·exact (hex b hb).2.2.1 z
  ·exact (hex b hb).2.2.2.1 z
 ·refine ⟨fun _=>none,?_,fun i x v h1 h2 h3=>?_⟩
  ·rw [e1];exact (Heap.Ns.new s.heap (.type "dict")).keeps (pushCells_keeps _ _)
  ·have h2':(inner mp O)[i]? = some (some v):=h2;unfold inner at h2';rw [List.getElem?_map] at h2';cases em:mp[i]? with
   | none=>rw [em] at h2';cases h2' | some o=>
    rw [em] at h2';cases o with
    | none=>cases h2' | some j=>
     obtain ⟨hj,hl⟩:=z7g hmp h1 em;have hmem:(x,NameKind.free)∈scope.names:=PySem.mem_of_lookup hl;have hv:O[j]? = some (some v):=by
      simp only [Option.map_some] at h2';cases eO:O[j]? with
      | none=>rw [eO] at h2';cases h2' | some o=>rw [eO] at h2';exact h2'
     obtain ⟨m,hn,hlook⟩:=I.loc;have kx:X.env.kindOf x=some .cell\/X.env.kindOf x=some .free:=hfr _ hmem rfl;obtain ⟨u,r,L⟩:=hlook j x v hj hv (by rcases kx with k | k;exact .inr (.inl k);exact .inr (.inr k));refine ⟨u,r,.inr ?_⟩;rcases L with ⟨k,_⟩ | ⟨_,c,hc,hcell⟩;·rcases kx with k' | k'<;>(rw [k] at k';cases k')
     ·have ncell:(x,NameKind.cell)∉scope.names:=fun z=>by
       have a:=hnm _ z;rw [hl] at a;cases a
      refine ⟨?_,c,?_,hcell.keeps keep⟩
      ·rcases jz (env:=X.env) hl with q | ⟨_,q⟩;·exact .inr q
       ·exact .inl q
      ·show (cellsFrom (s.heap.objs.size+1) scope.names []++z5w X.env scope.names []).lookup x=some c;rw [List.lookup_append];cases e:(cellsFrom (s.heap.objs.size+1) scope.names []).lookup x with
       | some c'=> exact absurd ((qu _ _ _ (PySem.mem_of_lookup e)).resolve_left (by simp)) ncell | none=>
        obtain ⟨c2,q⟩:=z4G (env:=X.env) scope.names [] hmem ⟨c,hc⟩;have q2:=hclo x c2 q;rw [hc] at q2;cases q2;simpa using q
 ·rcases both x c h with ⟨_,q,_⟩ | q;·exact ⟨_,q⟩
  ·obtain ⟨v,z⟩:=I.cell x c q;exact ⟨v,z.keeps keep⟩
 ·rcases both x c h with ⟨_,_,l⟩ | q;·exact I.hok.fresh (by omega)
  ·exact I.freeC x c q
 ·unfold inner;rw [List.length_map];exact z4V hmp
end
section
variable {M:Model}{A:Around}{E:Value->Shared->Prop}{s:Shared}
theorem z7h{scope:Scope}{env:Env}{cl:List (Str×Addr)}{Q:Env->Shared->Prop} (h:Q {scope:=scope,locals:=s.heap.objs.size,globals:=env.globals,cells:=cellsFrom (s.heap.objs.size+1) scope.names cl,qual:=env.qual,func:=none,code:=env.code,frame:=env.frame,builtins:=env.builtins} {s with heap:=pushCells (s.heap.push {cls:=.type "dict",data:=.dict #[]}) scope.names}): wpAny M A (newFunctionEnv scope env.globals cl [] env.qual none .none (some env)) Q E s:=by
 simp only [newFunctionEnv,Option.isSome_some,if_true];refine wpAny_bind (wpAny_alloc ?_);refine wpAny_bind (wpAny_layCells _ (fun name kind cells=>by cases hkc:kind==NameKind.cell<;>simp [hkc]) _ _ _ _ ?_);rw [show ({s with heap:=s.heap.push {cls:=.type "dict",data:=.dict #[]}}:Shared).heap.objs.size=s.heap.objs.size+1 from Heap.size_push ..];refine wpAny_bind ?_;rw [List.forIn_nil];exact wpAny_pure (wpAny_pure h)
end
section
variable {prog:Program}{w:World}{A:Around}{E:Value->Shared->Prop}{R:Result->Shared->Prop}{s:Shared}
theorem z5P{elt target iter:Expr}{ifs:List Expr}{scope:Scope}{pos:Pos}{it acc:Value}{env:Env}(I:Nat->Shared->Prop) (turn:∀ n s,I n s->wpAny (model prog w) A (pyNext it) (fun r s₁=>match r with
   | none=>R (.ok .next) s₁ | some v=>wpAny (model prog w) A (letOwnedTupleGo target it v) (fun _ s₁'=>wpAny (model prog w) A (assign target env v) (fun _ s₂=> wpAny (model prog w) A (forIn ifs true fun c r=>if r=true then do let ok <- isTrue c env (eval c env);pure (ForInStep.yield ok) else pure (ForInStep.yield r)) (fun ok s₃=> if ok=true then wpAny (model prog w) A (eval elt env) (fun x s₄=> wpAny (model prog w) A (call (.builtin "list.append") [acc,x]) (fun _ s₅=>∃ m,m<n/\I m s₅) (fun _ _=>False) s₄) (fun _ _=>False) s₃ else ∃ m,m<n/\I m s₃) (fun _ _=>False) s₂) (fun _ _=>False) s₁') (fun _ _=>False) s₁) (fun _ _=>False) s) (n:Nat)(h:I n s): codeAny (model prog w) A (.compLoop (.ListComp elt [⟨target,iter,ifs,0⟩] scope pos) 0 it acc env) R s:=by
 refine codeAny_loop rfl I (fun n s hI=>?_) n h;show wpAny _ A ((compTurn (.ListComp elt [⟨target,iter,ifs,0⟩] scope pos) 0 it acc env).onRaise (fun x=>do noteFrame x env;theTreesLotGoes x)) _ _ s;refine wpAny_noted ?_;rw [compTurn_list];refine wpAny_bind (wpAny_standAt (wpAny_bind (wpAny_mono (turn n s hI) (fun r s₁ h₁=>?_) fun _ _ h'=>h'.elim)));cases r with
 | none=>exact wpAny_pure h₁ | some v=>
  refine wpAny_bind (wpAny_mono h₁ (fun _ s₁' h₁'=>?_) fun _ _ h'=>h'.elim);refine wpAny_bind (wpAny_mono h₁' (fun _ s₂ h₂=>wpAny_bind (wpAny_mono h₂ (fun ok s₃ h₃=>?_) fun _ _ h'=>h'.elim)) fun _ _ h'=>h'.elim);cases ok with
  | false=>exact wpAny_pure ⟨rfl,h₃⟩ | true=> exact wpAny_bind (wpAny_bind (wpAny_mono h₃ (fun x s₄ h₄=>wpAny_bind (wpAny_mono h₄ (fun _ s₅ h₅=>wpAny_pure (wpAny_pure ⟨rfl,h₅⟩)) fun _ _ h'=>h'.elim)) fun _ _ h'=>h'.elim))
end
def z8d(X:Cx)(ifs:List Expr)(t:TT):Prop:= ∀ (pins:List (Addr×Obj))(s:Shared)(O:St)(H:Hp)(Q:Bool->Hp->Prop),Inv X pins O H s->t O H Q-> wpAny (model X.prog X.w) X.A (forIn ifs true fun c r=>if r=true then do let ok <- isTrue c X.env (eval c X.env);pure (ForInStep.yield ok) else pure (ForInStep.yield r)) (TP X pins O Q) X.xe s
theorem zd8{X:Cx}:z8d X [] (fun _ H Q=>Q true H):=fun _ _ _ H _ I h=>wpAny_tests_nil ⟨H,I,h⟩
theorem zcm{X:Cx}{c:Expr}{t:TT}(h:PT X c t):z8d X [c] t:=fun pins s O H Q I hq=>wpAny_tests_one (h pins s O H Q I hq)
theorem Inv.track {X:Cx} {pins:List (Addr×Obj)} {O:St} {H:Hp} {s:Shared} {a:Addr} {o:HO} (I:Inv X pins O H s) (f:z7L X pins H a) (new:xL X.prog X.w (upd H a o) s.heap a o):Inv X pins O (upd H a o) s:=by
 obtain ⟨f0,f1,f2,f3,f4,f5⟩:=f;have hs:HOk X.prog X.w (upd H a o) s.heap:=fun b u e=>by
  by_cases hb:b=a;·subst hb;rw [yg] at e;cases e;exact new
  ·rw [zF hb] at e;exact (I.hok b u e).stay (fun _ _ _ q=>q) (fun c q=>by rw [zF (yT q f0)];exact q) fun c xs q=>by rw [zF (yT q f0)];exact q
 exact I.step (h':=s.heap) (g':=s.gens) (d':=s.drawn) (t':=s.toks) (ch:=[a]) (fun b hb=>by
  have e:b=a:=by simpa using hb
  subst e;exact ⟨f3,f1,f4,f5⟩) (fun b o _ _ _ e _=>e) (fun b o _ _ _ e _=>⟨o.slots,e⟩) (fun b o hb _ n=>by rw [zF (fun z=>hb (by simp [z]))];exact n) (fun b o _ e=>⟨o,e⟩) (fun b xs q=>by rw [zF (yT q f0)];exact q) (fun b u xs q=>by rw [zF (yT q f0)];exact q) (fun b ps q=>⟨#[],by rw [zF (yT q f0),q];simp⟩) (fun _ q=>q) hs I.bare
def zdt(wi:TI)(mp:List (Option Nat))(g:TG)(ti:TT)(te:TE):TE:=fun O H Q=>wi O H fun J H1=>∃ W:Nat->Nat->List V->Hp->Prop,(∃ m,W 0 m [] H1)/\∀ i m ys H,W i m ys H-> (J.stop i H/\ys.length<=sizeLine/\∀ p,H p=none->Q (.ref p) (upd H p (.lst ys)))\/ (J.go i H/\∀ x H',J.yld i H x H'->g x (inner mp O) H' fun O2 H2=>(O2.length=(inner mp O).length/\∀ (i:Nat) v,(inner mp O)[i]? = some (some v)->O2[i]? = some (some v))/\ ti O2 H2 fun b H3=>if b=true then te O2 H3 fun y H4=>ys.length<=sizeLine/\∃ m',m'<m/\W (i+1) m' (ys++[y]) H4 else ∃ m',m'<m/\W (i+1) m' ys H3)
def z1L(X:Cx)(pins:List (Addr×Obj))(O:St)(C:Addr)(Q:VK)(acc:Value)(s':Shared):Prop:= ∃ v Hf,Inv X pins O Hf s'/\xx v acc/\Q v Hf/\(∃ m,s'.heap.Ns C m)/\z7L X pins Hf C
theorem z0n {X:Cx} {tg iter elt:Expr} {ifs:List Expr} {scope:Scope} {pos:Pos} {g:TG} {ti:TT} {te:TE} {N':List Str} {mp:List (Option Nat)} {pins:List (Addr×Obj)} {O:St} {Q:VK} {J:It} {H2:Hp} {s₂:Shared} {it:Addr} {fp:List Addr} {tn:Nat->Heap->Prop} {E:Value->Shared->Prop} {RR:Value->Addr->Result->Shared->Prop} (hc:X.calm=true) (hg:∀ ex s H,PG (zU X N' scope ex s H) tg g) (ht:∀ ex s H,z8d (zU X N' scope ex s H) ifs ti) (he:∀ ex s H,PE (zU X N' scope ex s H) elt te) (hkd:scope.kind=.function) (hnm:∀ y∈scope.names,scope.names.lookup y.1=some y.2) (hfr:∀ y∈scope.names,y.2=.free->X.env.kindOf y.1=some .cell\/X.env.kindOf y.1=some .free) (hmp:z3L X.N scope.names N' mp=true) (I2:Inv X pins O H2 s₂) (T:zgk X.prog X.w X.K tg J fp it tn) (st2:tn 0 s₂.heap) (f2:∀ b∈fp,z7L X pins H2 b) (W:Nat->Nat->List V->Hp->Prop) (w0:∃ m,W 0 m [] H2) (turn:∀ i m ys H,W i m ys H-> (J.stop i H/\ys.length<=sizeLine/\∀ p,H p=none->Q (.ref p) (upd H p (.lst ys)))\/ (J.go i H/\∀ x H',J.yld i H x H'->g x (inner mp O) H' fun O2 H2=>(O2.length=(inner mp O).length/\∀ (i:Nat) v,(inner mp O)[i]? = some (some v)->O2[i]? = some (some v))/\ ti O2 H2 fun b H3=>if b=true then te O2 H3 fun y H4=>ys.length<=sizeLine/\∃ m',m'<m/\W (i+1) m' (ys++[y]) H4 else ∃ m',m'<m/\W (i+1) m' ys H3)) (hRR:∀ acc C s',z1L X pins O C Q acc s'->RR acc C (.ok .next) s'): wpAny (model X.prog X.w) X.A (newList []) (fun acc s₃=>wpAny (model X.prog X.w) X.A (newFunctionEnv scope X.env.globals (z5w X.env scope.names []) [] X.env.qual none .none (some X.env)) (fun cenv s₄=> codeAny (model X.prog X.w) X.A (.compStart (.ListComp elt [⟨tg,iter,ifs,0⟩] scope pos) 0 (.ref it) acc {cenv with scope:=relabel scope X.env}) (RR acc cenv.locals) s₄) E s₃) E s₂:=by
 refine wpAny_newObj_type ?_;have hf2:H2 s₂.heap.objs.size=none:=I2.hok.fresh (Nat.le_refl _);have fA:z7L X pins H2 s₂.heap.objs.size:=I2.fpOk (Nat.le_refl _) hf2;generalize hacc:s₂.heap.objs.size=acc at hf2 fA ⊢;have I3:Inv X pins O H2 {s₂ with heap:=s₂.heap.push {cls:=.type "list",data:=.seq ([]:List Value).toArray}}:=I2.kept (t':=s₂.toks) fun b o e=>Heap.get?_push_of_some _ e;have ha3:(s₂.heap.push {cls:=.type "list",data:=.seq ([]:List Value).toArray}).get? acc=some (LCg.lst []):=by rw [<- hacc];exact Heap.get?_push_size _ rfl
 have sz3:(s₂.heap.push {cls:=.type "list",data:=.seq ([]:List Value).toArray}).objs.size=acc+1:=by rw [Heap.size_push,hacc]
 have kp3:∀ b o,s₂.heap.get? b=some o->(s₂.heap.push {cls:=.type "list",data:=.seq ([]:List Value).toArray}).get? b=some o:=fun b o e=>Heap.get?_push_of_some _ e;show wpAny _ _ _ _ _ {s₂ with heap:=s₂.heap.push {cls:=.type "list",data:=.seq ([]:List Value).toArray}};generalize hs3:({s₂ with heap:=s₂.heap.push {cls:=.type "list",data:=.seq ([]:List Value).toArray}}:Shared)=s₃ at I3 ⊢;have ha3':s₃.heap.get? acc=some (LCg.lst []):=by rw [<- hs3];exact ha3
 have sz3':s₃.heap.objs.size=acc+1:=by rw [<- hs3];exact sz3
 have kp3':∀ b o,s₂.heap.get? b=some o->s₃.heap.get? b=some o:=by rw [<- hs3];exact kp3
 have flt:∀ b∈fp,b<acc:=fun b hb=>by
  obtain ⟨o,e,_⟩:=T.obj 0 _ st2 b hb;rw [<- hacc];exact Heap.lt_size e
 have fne:∀ b∈fp,b≠acc:=fun b hb=>Nat.ne_of_lt (flt b hb);have tn3:tn 0 s₃.heap:=T.keep 0 _ _ st2 fun b hb o e=>kp3' b o e;refine z7h ?_;rw [vy];have hex:∀ b∈acc::fp,b<s₃.heap.objs.size/\H2 b=none/\b≠X.env.locals/\b∉X.fs/\(b∈X.ex\/X.s₀.heap.objs.size<=b)/\(∀ x c,X.env.cells.lookup x=some c->c≠b):=fun b hb=>by
  rcases List.mem_cons.mp hb with z | hb
  ·subst z;exact ⟨by rw [sz3'];exact Nat.lt_succ_self _,hf2,fA.2.1,fA.2.2.1,fA.2.2.2.1,fA.2.2.2.2.1⟩
  ·have q:=f2 b hb;exact ⟨by rw [sz3'];exact Nat.lt_succ_of_lt (flt b hb),q.1,q.2.1,q.2.2.1,q.2.2.2.1,q.2.2.2.2.1⟩
 have I4:=z9n (N':=N') (mp:=mp) (ex:=acc::fp) (s1:={s₃ with heap:=pushCells (s₃.heap.push {cls:=.type "dict",data:=.dict #[]}) scope.names}) I3 hkd hnm hfr hmp hex rfl rfl rfl;have kp4:∀ b o,s₃.heap.get? b=some o->(pushCells (s₃.heap.push {cls:=.type "dict",data:=.dict #[]}) scope.names).get? b=some o:=fun b o e=>pushCells_keeps _ _ b o (Heap.get?_push_of_some _ e);generalize hs4:({s₃ with heap:=pushCells (s₃.heap.push {cls:=.type "dict",data:=.dict #[]}) scope.names}:Shared)=s₄ at I4 ⊢;have ha4:s₄.heap.get? acc=some (LCg.lst []):=by rw [<- hs4];exact kp4 _ _ ha3'
 have tn4:tn 0 s₄.heap:=T.keep 0 _ _ tn3 fun b hb o e=>by rw [<- hs4];exact kp4 b o e
 have Cne:acc≠s₃.heap.objs.size:=by rw [sz3'];exact Nat.ne_of_lt (Nat.lt_succ_self _)
 have celln:∀ b∈acc::fp,∀ x c,(zcZ X scope s₃.heap.objs.size).cells.lookup x=some c->c≠b:=fun b hb=>(I4.ok.exf b hb).2;have stat:∀ {H':Hp} {o:Obj},(∀ b∈fp,H' b=none)->∀ b∈fp,z7L (zU X N' scope (acc::fp) s₃ H2) [(acc,o)] H' b:=fun {H' o} hn b hb=> ⟨hn b hb,Nat.ne_of_lt (by show b<s₃.heap.objs.size;rw [sz3'];exact Nat.lt_succ_of_lt (flt b hb)),fun hf=>I4.ok.exfs b (List.mem_cons_of_mem _ hb) hf,.inl (List.mem_cons_of_mem _ hb),celln b (List.mem_cons_of_mem _ hb),fun p hp=>by
   have e:p=(acc,o):=by simpa [zU] using hp
   rw [e];exact Ne.symm (fne b hb)⟩;have pinA:∀ {O':St} {H':Hp} {s':Shared} {its:List Value},Inv (zU X N' scope (acc::fp) s₃ H2) [] O' H' s'->H' acc=none->s'.heap.get? acc=some (LCg.lst its)->Inv (zU X N' scope (acc::fp) s₃ H2) [(acc,LCg.lst its)] O' H' s':=fun {O' H' s' its} J' n' e'=> J'.pins_of fun p hp=>by
   have e:p=(acc,LCg.lst its):=by simpa using hp
   subst e;refine ⟨e',n',Cne,fun hf=>I4.ok.exfs acc List.mem_cons_self hf,fun v z=>?_⟩;have z':Data.seq _ _=Data.cell v:=z;cases z'
 obtain ⟨m0,w0⟩:=w0;have loop:codeAny (model X.prog X.w) X.A (.compLoop (.ListComp elt [⟨tg,iter,ifs,0⟩] scope pos) 0 (.ref it) (.ref acc) (zcZ X scope s₃.heap.objs.size)) (RR (.ref acc) s₃.heap.objs.size) s₄:=by
  refine z5P (fun n s'=>∃ i ys its H',Inv (zU X N' scope (acc::fp) s₃ H2) [] (inner mp O) H' s'/\tn i s'.heap/\(∀ b∈fp,H' b=none)/\H' acc=none/\s'.heap.get? acc=some (LCg.lst its)/\yW ys its/\W i n ys H') ?_ m0 ⟨0,[],[],H2,I4,tn4,fun b hb=>(f2 b hb).1,hf2,ha4,.nil,w0⟩;rintro n s5 ⟨i,ys,its,H5,I5,tn5,n5,na5,ea5,rv5,w5⟩;have I5':=pinA I5 na5 ea5;rcases turn i n ys H5 w5 with ⟨stop,hz,q⟩ | ⟨go,step⟩
  ·refine wpAny_mono (T.done (zU X N' scope (acc::fp) s₃ H2) rfl rfl rfl hc i _ s5 _ H5 (fun _ _=>False) I5' (stat n5) tn5 stop) (fun r s6 ⟨hr,I6⟩=>?_) fun _ _ z=>z;subst hr;have ea6:=(I6.pin (acc,LCg.lst its) (by simp)).1;have un:Un (frs X.stack) (acc::fp) H2 H5 s₃.heap s6.heap:=I6.base;have I7:Inv X pins O H5 s6:=I3.call' (s':=s6) (I6.os) un I6.hok I6.bare fun b hb=>by
    rcases List.mem_cons.mp hb with z | hb;·subst z;exact ⟨fA.2.2.2.1,fA.2.1,fA.2.2.2.2.1,fA.2.2.2.2.2⟩
    ·exact ⟨(f2 b hb).2.2.2.1,(f2 b hb).2.1,(f2 b hb).2.2.2.2.1,(f2 b hb).2.2.2.2.2⟩
   have C7:z7L X pins H5 s₃.heap.objs.size:=I3.fpOk (Nat.le_refl _) I6.free;refine hRR _ _ s6 ⟨.ref acc,upd H5 acc (.lst ys),I7.track ⟨na5,fA.2⟩ ?_,rfl,q acc na5,?_,?_,C7.2⟩;·exact ⟨hz,its,_,rv5,ea6⟩
   ·obtain ⟨m,hm,_⟩:=I6.loc;exact ⟨m,hm⟩
   ·rw [zF (Ne.symm Cne)];exact I6.free
  ·refine wpAny_mono (T.item (zU X N' scope (acc::fp) s₃ H2) rfl rfl rfl hc i _ s5 _ H5 (fun _ _=>False) I5' (stat n5) tn5 go) (fun r s6 ⟨u,hr,h6⟩=>?_) fun _ _ z=>z;subst hr;refine wpAny_mono h6 (fun _ s7 ⟨x,H7,I7,r7,y7,tn7,n7⟩=>?_) fun _ _ z=>z;have I7':=I7.pinned (stat n7) (T.obj _ _ tn7);refine wpAny_mono (hg _ _ _ _ s7 (inner mp O) H7 x u _ I7' r7 (step x H7 y7)) (fun _ s8 ⟨O8,H8,I8,⟨kl,kv⟩,q8⟩=>?_) fun _ _ z=>z;refine wpAny_mono (ht _ _ _ _ s8 O8 H8 _ I8 q8) (fun b s9 ⟨H9,I9,q9⟩=>?_) fun _ _ z=>z;have pinB:∀ {O':St} {H':Hp} {s':Shared},Inv (zU X N' scope (acc::fp) s₃ H2) ([(acc,LCg.lst its)]++z65 fp s7.heap) O' H' s'->(∀ b∈fp,H' b=none)/\H' acc=none/\s'.heap.get? acc=some (LCg.lst its)/\tn (i+1) s'.heap/\∀ b∈fp,∀ o,s7.heap.get? b=some o->s'.heap.get? b=some o:=fun {O' H' s'} J'=>by
    have z:=J'.pin (acc,LCg.lst its) (by simp [zU]);have zz:∀ b∈fp,∀ o,s7.heap.get? b=some o->s'.heap.get? b=some o/\H' b=none:=fun b hb o e=>by
     have y:=J'.pin (b,o) (List.mem_append_right _ (List.mem_append_right _ (z0v hb e)));exact ⟨y.1,y.2.1⟩
    refine ⟨fun b hb=>?_,z.2.1,z.1,T.keep _ _ _ tn7 fun b hb o e=>(zz b hb o e).1,fun b hb o e=>(zz b hb o e).1⟩;obtain ⟨o,e,_⟩:=T.obj _ _ tn7 b hb;exact (zz b hb o e).2
   cases b with
   | false=>
    rw [if_neg (by decide)] at q9 ⊢;obtain ⟨m',lt,w9⟩:=q9;obtain ⟨z1,z2,z3,z4,_⟩:=pinB I9;exact ⟨m',lt,i+1,ys,its,H9,(I9.pins_of (pins':=[]) (fun p hp=>absurd hp (by simp))).weak kl.symm kv,z4,z1,z2,z3,rv5,w9⟩ | true=>
    rw [if_pos rfl] at q9 ⊢;refine wpAny_mono (he _ _ _ _ s9 O8 H9 _ I9 q9) (fun yv s10 ⟨y,H10,I10,r10,hz,m',lt,w10⟩=>?_) fun _ _ z=>z;obtain ⟨z1,z2,z3,z4,_⟩:=pinB I10;have zl:its.toArray.size<=sizeLine:=by rw [List.size_toArray,<- rv5.length];exact hz
    refine append_at (hsz:=zl) z3 fun h11 sb ea11=>?_;have I10':=(I10.pins_of (pins':=[]) (fun p hp=>absurd hp (by simp))).weak kl.symm kv;have I11:Inv (zU X N' scope (acc::fp) s₃ H2) [] (inner mp O) H10 {s10 with heap:=h11}:=I10'.turned (t':=s10.toks) (fun b o hb e=>(sb.2 b hb).trans e) z2 Cne (.inl List.mem_cons_self) (celln acc List.mem_cons_self) (fun p hp=>absurd hp (by simp [zU]));exact ⟨m',lt,i+1,ys++[y],its++[yv],H10,I11,T.keep _ _ _ z4 (fun b hb o e=>(sb.2 b (fne b hb)).trans e),z1,z2,ea11.trans (congrArg some (LCg.lst_snoc its yv)),rv5.append (.cons r10 .nil),w10⟩
 exact codeAny_compStart_list loop (T.self _ 0 _ _ _ tn4 loop)
section
variable {X:Cx}{tg iter elt:Expr}{ifs:List Expr}{scope:Scope}{pos spos py:Pos}{wi:TI}{g:TG}{ti:TT}{te:TE}{N':List Str}{mp:List (Option Nat)}
theorem jU{pins:List (Addr×Obj)}{O:St}{H:Hp}{s:Shared}{h':Heap}{C:Addr}(I:Inv X pins O H s)(f:z7L X pins H C)(sb:Heap.SameBut C s.heap h'):Inv X pins O H {s with heap:=h'}:= I.turned (t':=s.toks) (fun b o hb e=>(sb.2 b hb).trans e) f.1 f.2.1 f.2.2.2.1 f.2.2.2.2.1 f.2.2.2.2.2
theorem zeY (N':List Str) (mp:List (Option Nat)) (hc:X.calm=true) (hi:PI X tg iter wi) (hg:∀ ex s H,PG (zU X N' scope ex s H) tg g) (ht:∀ ex s H,z8d (zU X N' scope ex s H) ifs ti) (he:∀ ex s H,PE (zU X N' scope ex s H) elt te) (hkd:scope.kind=.function) (hnm:∀ y∈scope.names,scope.names.lookup y.1=some y.2) (hfr:∀ y∈scope.names,y.2=.free->X.env.kindOf y.1=some .cell\/X.env.kindOf y.1=some .free) (hmp:z3L X.N scope.names N' mp=true) (hs:∀ x,foldedSetIterable iter X.env x=pure x:=by intro _;rfl):PE X (.ListComp elt [⟨tg,iter,ifs,0⟩] scope pos) (zdt wi mp g ti te):=by
 intro pins s O H Q I h;rw [eval_ListComp];refine wpAny_comprehension_free (use:=none) rfl hs (uV fun y hy hf=>I.ok.has _ (hfr y hy hf)) hkd (fun y hy hl=>by rw [hnm y hy,hl]) (thn (hi pins s O H _ I h) fun xv s₁ h₁=>thn h₁ fun itv s₂ h₂=>?_);obtain ⟨it,fp,tn,J,H2,e,I2,T,st2,f2,W,w0,turn⟩:=h₂;subst e;refine z0n (N':=N') (mp:=mp) (O:=O) (pins:=pins) (Q:=Q) (RR:=fun acc C=>compPost (model X.prog X.w) X.A X.xe none (EP X pins O Q) acc C) hc hg ht he hkd hnm hfr hmp I2 T st2 f2 W w0 turn ?_;rintro acc C s' ⟨v,Hf,I3,r,q,⟨m,hm⟩,f⟩;exact ⟨m,hm,fun h' sb=>⟨v,Hf,jU I3 f sb,r,q⟩⟩
theorem z9F {i:Nat} {y:Str} (N':List Str) (mp:List (Option Nat)) (hN:X.N.Nodup) (hy:X.N[i]? = some y) (hyl:Loc X.env.scope y) (hc:X.calm=true) (hi:PI X tg iter wi) (hg:∀ ex s H,PG (zU X N' scope ex s H) tg g) (ht:∀ ex s H,z8d (zU X N' scope ex s H) ifs ti) (he:∀ ex s H,PE (zU X N' scope ex s H) elt te) (hkd:scope.kind=.function) (hnm:∀ y∈scope.names,scope.names.lookup y.1=some y.2) (hfr:∀ y∈scope.names,y.2=.free->X.env.kindOf y.1=some .cell\/X.env.kindOf y.1=some .free) (hmp:z3L X.N scope.names N' mp=true) (hs:∀ x,foldedSetIterable iter X.env x=pure x:=by intro _;rfl) (hsw:swapsWith (.ListComp elt [⟨tg,iter,ifs,0⟩] scope pos) (some (.Name y py)) spos.line X.env=pure true:=by rfl) (hf:X.fn y=true\/X.env.scope.names.lookup y=some .local:=by first | exact .inl rfl | exact .inr rfl | assumption): PS X (.Assign [.Name y py] (.ListComp elt [⟨tg,iter,ifs,0⟩] scope pos) spos) (zj9 (zdt wi mp g ti te) (z9R i)):=by
 intro pins s O H D I h;rw [exec_Assign_Name_used _ _ _ _ hsw];refine wpAny_bind (wpAny_standAt (wpAny_bind ?_));show wpAny _ X.A (do let _ <- comprehension (.ListComp elt [⟨tg,iter,ifs,0⟩] scope pos) scope X.env _ (newList []) false (eval iter X.env) (some (assign (.Name y py) X.env))) _ _ s;refine wpAny_bind (wpAny_mono (wpAny_comprehension_free (use:=some (assign (.Name y py) X.env)) (Q:=fun _ s'=>SP X pins D .next s') rfl hs (uV fun y hy hf=>I.ok.has _ (hfr y hy hf)) hkd (fun y hy hl=>by rw [hnm y hy,hl]) (thn (hi pins s O H _ I h) fun xv s₁ h₁=>thn h₁ fun itv s₂ h₂=>?_)) (fun _ s' hq=>wpAny_pure (wpAny_pure hq)) fun _ _ e=>e);obtain ⟨it,fp,tn,J,H2,e,I2,T,st2,f2,W,w0,turn⟩:=h₂;subst e;refine z0n (N':=N') (mp:=mp) (O:=O) (pins:=pins) (Q:=fun v H'=>D.nx (O.set i (some v)) H') (RR:=fun acc C=>compPost (model X.prog X.w) X.A X.xe (some (assign (.Name y py) X.env)) (fun _ s'=>SP X pins D .next s') acc C) hc hg ht he hkd hnm hfr hmp I2 T st2 f2 W w0 turn ?_;rintro acc C s' ⟨v,Hf,I3,r,q,⟨m,hm⟩,f⟩;refine wpAny_assign_Name (z2s I3 hN hy hyl r (fun s'' I4 ⟨a,sb,ha⟩=>?_) hf);have hC:C≠a:=by
  rcases ha with z | z;·rw [z];exact f.2.1
  ·exact Ne.symm (f.2.2.2.2.1 y a z)
 exact ⟨m,hm.sameBut sb hC,fun h' sb'=>⟨_,Hf,jU I4 f sb',q⟩⟩
end
section
variable {κ:Type} [DecidableEq κ]
def zg6(kvs:List (κ×V))(k:κ):Option V:=(kvs.find? fun kv=>decide (kv.1=k)).map (·.2)
def z40(kvs:List (κ×V))(k:κ)(v:V):List (κ×V):= if (kvs.any fun kv=>decide (kv.1=k))=true then kvs.map (fun kv=>if kv.1=k then (kv.1,v) else kv) else kvs++[(k,v)]
theorem z8i{p:κ×V}{r:List (κ×V)}{k:κ}(e:p.1=k):zg6 (p::r) k=some p.2:=by simp [zg6,List.find?_cons,e]
theorem z90{p:κ×V}{r:List (κ×V)}{k:κ}(e:¬ p.1=k):zg6 (p::r) k=zg6 r k:=by simp [zg6,List.find?_cons,e]
theorem z8C(k:κ):∀ kvs:List (κ×V),(kvs.any fun kv=>decide (kv.1=k))=(zg6 kvs k).isSome
 | []=>rfl | p::r=>by
  rw [List.any_cons];by_cases e:p.1=k;·simp only [z8i e,decide_eq_true e,Bool.true_or,Option.isSome_some]
  ·rw [z90 e,decide_eq_false e,Bool.false_or];exact z8C k r
theorem z2N(kvs:List (κ×V))(k:κ)(v:V):(z40 kvs k v).length<=kvs.length+1:=by
 unfold z40;split;·rw [List.length_map];omega
 ·rw [List.length_append,List.length_cons,List.length_nil];omega
theorem zgl.isSome_eq{o:Option V}{u:Option Value}(r:zgl o u):o.isSome=u.isSome:=by cases o with
 | none=>cases u with
  | none=>rfl | some _=>exact (show False from r).elim
 | some _=>cases u with
  | none=>exact (show False from r).elim | some _=>rfl
theorem KV.any{kvs:List (κ×V)}{vs:List (κ×Value)}(r:KV kvs vs)(k:κ):(kvs.any fun kv=>decide (kv.1=k))=vs.any fun kv=>decide (kv.1=k):=by
 unfold KV at r;induction r with
 | nil=>rfl | cons h t ih=>rw [List.any_cons,List.any_cons,ih,h.1]
theorem KV.repl{kvs:List (κ×V)}{vs:List (κ×Value)}(r:KV kvs vs)(k:κ){y:V}{u:Value}(ry:xx y u): KV (kvs.map fun kv=>if kv.1=k then (kv.1,y) else kv) (vs.map fun kv=>if kv.1=k then (kv.1,u) else kv):=by
 unfold KV at r ⊢;induction r with
 | nil=>exact .nil | @cons p q ps qs h t ih=>
  rw [List.map_cons,List.map_cons];refine .cons ?_ ih;obtain ⟨h1,h2⟩:=h;by_cases e:p.1=k;·rw [if_pos e,if_pos (h1.symm.trans e)];exact ⟨h1,ry⟩
  ·rw [if_neg e,if_neg (fun z=>e (h1.trans z))];exact ⟨h1,h2⟩
theorem KV.put{kvs:List (κ×V)}{vs:List (κ×Value)}(r:KV kvs vs)(k:κ){y:V}{u:Value}(ry:xx y u):KV (z40 kvs k y) (stored vs k u):=by
 unfold z40 stored;rw [r.any k];by_cases e:(vs.any fun kv=>decide (kv.1=k))=true;·rw [if_pos e,if_pos e];exact r.repl k ry
 ·rw [if_neg e,if_neg e];exact Paired.snoc r ⟨rfl,ry⟩
theorem KV.length{kvs:List (κ×V)}{vs:List (κ×Value)}(r:KV kvs vs):kvs.length=vs.length:=Paired.length r
end
theorem zhu{P:Program}{w:World}{k:Key}{u:Value}(r:xx (kV k) u):(yd P w).is k u=true:=by cases k with
 | inl i=>obtain ⟨t,e⟩:=(show ∃ t,u=Value.int i t from r);subst e;exact z7l P w i t | inr x=>obtain ⟨t,e⟩:=(show ∃ t,u=Value.str x t from r);subst e;exact z2g P w x t
theorem z5L{P:Program}{w:World}:∀ {ks:List Key}{us:List Value},yW (ks.map kV) us->ItemsAre (yd P w) ks us
 | [],_,r=>by rw [List.map_nil] at r;cases r;exact .nil | k::ks,_,r=>by
  rw [List.map_cons] at r;cases r with | cons h t=>exact .cons (zhu h) (z5L t)
abbrev KT(H:Hp):List (List Key×V)->List (List Key×Addr×Value)->Prop:=Paired fun p q=>p.1=q.1/\H q.2.1=some (.tup (p.1.map kV))/\xx p.2 q.2.2
theorem KT.val{H:Hp}{kvs:List (List Key×V)}{xs:List (List Key×Addr×Value)}(r:KT H kvs xs)(k:List Key):zgl (zg6 kvs k) ((atKey xs k).map (·.2)):=by induction r with
 | nil=>exact True.intro | @cons p q ps qs h t ih=>
  obtain ⟨h1,_,h2⟩:=h;by_cases e:p.1=k
  ·have e':q.1=k:=h1.symm.trans e;have b:atKey (q::qs) k=some q.2:=by simp [atKey,List.find?_cons,e']
   rw [z8i e,b];exact h2
  ·have e':¬ q.1=k:=fun z=>e (h1.trans z);have b:atKey (q::qs) k=atKey qs k:=by simp [atKey,List.find?_cons,e']
   rw [z90 e,b];exact ih
theorem KT.repl{H:Hp}{kvs:List (List Key×V)}{xs:List (List Key×Addr×Value)}(r:KT H kvs xs)(k:List Key){y:V}{u:Value}(ry:xx y u): KT H (kvs.map fun kv=>if kv.1=k then (kv.1,y) else kv) (xs.map (putAt k u)):=by induction r with
 | nil=>exact .nil | @cons p q ps qs h t ih=>
  rw [List.map_cons,List.map_cons];refine .cons ?_ ih;obtain ⟨h1,h2,h3⟩:=h;unfold putAt;by_cases e:p.1=k;·rw [if_pos e,if_pos (h1.symm.trans e)];exact ⟨h1,h2,ry⟩
  ·rw [if_neg e,if_neg (fun z=>e (h1.trans z))];exact ⟨h1,h2,h3⟩
theorem KT.put{H:Hp}{kvs:List (List Key×V)}{xs:List (List Key×Addr×Value)}(r:KT H kvs xs)(k:List Key){b:Addr}{y:V}{u:Value}(hb:H b=some (.tup (k.map kV)))(ry:xx y u): KT H (z40 kvs k y) (storedH xs k b u):=by
 have e:(kvs.any fun kv=>decide (kv.1=k))=(atKey xs k).isSome:=by rw [z8C,(r.val k).isSome_eq,Option.isSome_map]
 unfold z40 storedH;rw [e];by_cases q:(atKey xs k).isSome=true;·rw [if_pos q,if_pos q];exact r.repl k ry
 ·rw [if_neg q,if_neg q];exact Paired.snoc r ⟨rfl,hb,ry⟩
theorem KT.keeps{H H':Hp}{kvs:List (List Key×V)}{xs:List (List Key×Addr×Value)}(r:KT H kvs xs)(ht:∀ b ys,H b=some (.tup ys)->H' b=some (.tup ys)):KT H' kvs xs:= Paired.mapP r fun _ _ z=>⟨z.1,ht _ _ z.2.1,z.2.2⟩
section
variable {P:Program}{w:World}{H:Hp}{h:Heap}{a:Addr}
theorem zhZ{u:HO}(ok:HOk P w H h)(e:Rd H a u):xL P w H h a u:=e.ok ok
theorem zjj{kvs:List (Key×V)}(ok:HOk P w H h)(e:Rd H a (.dK kvs)):kvs.length<=sizeLine/\(a==sysModules)=false/\∃ vs,KV kvs vs/\h.DictOf (yd P w) a vs:= show xL P w H h a (.dK kvs) from zhZ ok e
theorem zka{kvs:List (Key×V)}(ok:HOk P w H h)(e:H a=some (.dK kvs)):kvs.length<=sizeLine/\(a==sysModules)=false/\∃ vs,KV kvs vs/\h.DictOf (yd P w) a vs:=zjj ok (.inl e)
theorem ze8{ks:List Key}(ok:HOk P w H h)(e:H a=some (.tup (ks.map kV))):(tupleKind (yd P w)).is h ks a:=by
 obtain ⟨_,its,r,o,h1,h2,_,n,h3⟩:=(show xL P w H h a (.tup (ks.map kV)) from ok a _ e);exact ⟨o,its.toArray,n,h1,h2,h3,by simpa using z5L r⟩
theorem zko{kvs:List (List Key×V)}(ok:HOk P w H h)(e:Rd H a (.dT kvs)):kvs.length<=sizeLine/\(a==sysModules)=false/\ ∃ xs,KT H kvs xs/\h.DictOfH (tupleKind (yd P w)) a xs:=by
 obtain ⟨z,y,xs,r,o,es,ep,h1,h2,h3,h4,h5⟩:=(show xL P w H h a (.dT kvs) from zhZ ok e);refine ⟨z,y,xs,r,o,es,ep,h1,h2,h3,h4,fun x hx=>?_,h5⟩;have all:∀ {l:List (List Key×V)}{m:List (List Key×Addr×Value)},KT H l m->∀ x∈m,(tupleKind (yd P w)).is h x.1 x.2.1:=by
  intro l m q;induction q with
  | nil=>intro x hx;exact nomatch hx | @cons p q ps qs hq t ih=>
   intro x hx;rcases List.mem_cons.mp hx with e | hx
   ·subst e;exact ze8 ok (by rw [<- hq.1];exact hq.2.1)
   ·exact ih x hx
 exact all r x hx
theorem zhg{kvs:List (List Key×V)}(ok:HOk P w H h)(e:H a=some (.dT kvs)):kvs.length<=sizeLine/\(a==sysModules)=false/\ ∃ xs,KT H kvs xs/\h.DictOfH (tupleKind (yd P w)) a xs:=zko ok (.inl e)
end
def zis(H:Hp)(a:Addr)(y v:V)(H':Hp):Prop:= (∃ kvs k,H a=some (.dK kvs)/\y=kV k/\kvs.length<sizeLine/\H'=upd H a (.dK (z40 kvs k v)))\/ ∃ kvs k b,H a=some (.dT kvs)/\y=.ref b/\H b=some (.tup (k.map kV))/\kvs.length<sizeLine/\H'=upd H a (.dT (z40 kvs k v))
theorem zis.t{H:Hp}{a b:Addr}{kvs:List (List Key×V)}{k:List Key}{v:V}(e:H a=some (.dT kvs))(eb:H b=some (.tup (k.map kV)))(hl:kvs.length<sizeLine): zis H a (.ref b) v (upd H a (.dT (z40 kvs k v))):=.inr ⟨kvs,k,b,e,rfl,eb,hl,rfl⟩
section
variable {X:Cx}{pins:List (Addr×Obj)}{O:St}{H:Hp}{s:Shared}{a:Addr}{y v:V}{u r:Value}{o:Option V}{A:Around}{E:Value->Shared->Prop}
theorem Inv.big(I:Inv X pins O H s):sysModules<s.heap.objs.size:=by
 have h:mainGlobals<s.heap.objs.size:=(I.mod.glob.keeps I.bk).lt;exact Nat.lt_trans (by decide) h
theorem zbJ {h':Heap} {t':Nat} {ob:HO} (I:Inv X pins O H s) (mu:Mut (H a)) (hs:Heap.SameBut a s.heap h') (he:∃ q,h'.get? a=some q) (new:xL X.prog X.w (upd H a ob) h' a ob): Inv X pins O (upd H a ob) {s with heap:=h',toks:=t'}:= I.write (x:=a) (e:=a) mu (.inl rfl) (fun b q hb z=>(hs.2 b hb).trans z) he new
theorem zho{P:Program}{w:World}{H':Hp}{h':Heap}{kvs:List (Key×V)}{vs:List (Key×Value)}(z:kvs.length<=sizeLine)(hd:(a==sysModules)=false)(rel:KV kvs vs)(dd:h'.DictOf (yd P w) a vs): xL P w H' h' a (.dK kvs):=⟨z,hd,vs,rel,dd⟩
theorem zbA{H':Hp}{Q:Unit->Shared->Prop}(hu:A.units+1<cLine)(I:Inv X pins O H s)(g:zis H a y v H')(ry:xx y u)(rv:xx v r)(h:∀ s',Inv X pins O H' s'->Q () s'): wpAny (model X.prog X.w) A (setItem (.ref a) u r) Q E s:=by
 rcases g with ⟨kvs,k,e,ey,l,eH⟩ | ⟨kvs,k,b,e,ey,eb,l,eH⟩
 ·subst ey eH;obtain ⟨z,hd,vs,rel,dd⟩:=zka I.hok e;have hz:vs.length<=sizeLine:=by rw [<- rel.length];exact z
  have hl:(z40 kvs k v).length<=sizeLine:=by have:=z2N kvs k v;omega
  refine wpAny_setItem_pairs (hsz:=hz) (zhu ry) dd fun h' dd' hs=>h _ ?_;have he:∃ q,h'.get? a=some q:=let ⟨q,_,_,hq,_⟩:=dd';⟨q,hq⟩;exact zbJ I (by rw [e];exact True.intro) hs he (zho hl hd (rel.put k rv) dd')
 ·subst ey eH;cases (show u=Value.ref b from ry);obtain ⟨z,hd,xs,rel,dd⟩:=zhg I.hok e;have hz:xs.length<=sizeLine:=by rw [<- Paired.length rel];exact z
  have hl:(z40 kvs k v).length<=sizeLine:=by have:=z2N kvs k v;omega
  refine wpAny_setItem_heap (hsz:=hz) (tupleKind_room_in1 hu) (ze8 I.hok eb) dd fun h' dd' hs=>h _ ?_;obtain ⟨q,es,ep,hq,h2,h3,h4,_,h5⟩:=dd';refine zbJ I (by rw [e];exact True.intro) hs ⟨q,hq⟩ ⟨hl,hd,_,(rel.put k eb rv).keeps fun c ys ec=>?_,q,es,ep,hq,h2,h3,h4,h5⟩;rw [zF (zjJ ec e (fun z=>nomatch z))];exact ec
end
def zjA(td ty tv:TE):TS:=fun D O H=>tv O H fun v H1=>td O H1 fun x H2=>ty O H2 fun y H3=>∃ a H4,x=.ref a/\zis H3 a y v H4/\D.nx O H4
section
variable {X:Cx}{o i e value:Expr}{pos pos' tpos:Pos}{td ty tv:TE}
theorem zgd(hu:X.A.units+1<cLine)(ho:PE X o td)(hi:PE X i ty)(hv:PE X value tv)(hs:swapsWith value (some (.Subscript o i pos')) pos.line X.env=pure false): PS X (.Assign [.Subscript o i pos'] value pos) (zjA td ty tv):=by
 intro pins s O H D I h;refine wpAny_Assign_Subscript (thn (hv pins s O H _ I h) fun r s1 ⟨v,H1,I1,rv,q1⟩=>thn (ho pins s1 O H1 _ I1 q1) fun u s2 ⟨x,H2,I2,rx,q2⟩=>thn (hi pins s2 O H2 _ I2 q2) fun iv s3 ⟨y,H3,I3,ry,a,H4,ex,g,q3⟩=>?_) hs;subst ex;obtain rfl:u=Value.ref a:=rx;exact zbA hu I3 g ry rv fun s4 I4=>⟨O,H4,I4,q3⟩
end
theorem zcb{P:Program}{w:World}{H:Hp}(h:Heap)(hb:sysModules<h.objs.size):xL P w H (h.push {cls:=.type "dict",data:=.dict #[]}) h.objs.size (.dT []):= ⟨Nat.zero_le _,beq_eq_false_iff_ne.mpr (Ne.symm (Nat.ne_of_lt hb)),[],.nil,_,#[],0,Heap.get?_push_size _ rfl,⟨rfl,rfl,rfl⟩,rfl,rfl,List.nodup_nil⟩
def zij:TE:=fun _ H Q=>∀ p,H p=none->Q (.ref p) (upd H p (.dT []))
section
variable {X:Cx}{pos:Pos}
theorem zdn:PE X (.Dict [] [] pos) zij:=fun pins s O H Q I h=> wpAny_Dict_empty ⟨.ref s.heap.objs.size,_,I.laid (a:=s.heap.objs.size) (o:=.dT []) (t':=s.toks) (fun _ _ q=>Heap.get?_push_of_some _ q) (Nat.le_refl _) (zcb s.heap I.big),rfl,h _ (I.hok.fresh (Nat.le_refl _))⟩
end
end L2
set_option maxHeartbeats 4000000
namespace Dd
open PySem.Spec L2
theorem zdu(xs:List Expr)(k:Nat)(p:Pos)(es:List Expr)(env:Env):starEach (.Tuple xs k p::es) env=(false,eval (.Tuple xs k p) env)::starEach es env:=rfl
theorem zds(xs:List Expr)(p:Pos)(es:List Expr)(env:Env):starEach (.List xs p::es) env=(false,eval (.List xs p) env)::starEach es env:=rfl
theorem uJ(f:Expr)(xs:List Expr)(ks:List Keyword)(p:Pos)(es:List Expr)(env:Env):starEach (.Call f xs ks p::es) env=(false,eval (.Call f xs ks p) env)::starEach es env:=rfl
theorem z1K(a:Expr)(o:Operator)(b:Expr)(p:Pos)(es:List Expr)(env:Env):starEach (.BinOp a o b p::es) env=(false,eval (.BinOp a o b p) env)::starEach es env:=rfl
theorem z5h(a b:Expr)(p:Pos)(es:List Expr)(env:Env):starEach (.Subscript a b p::es) env=(false,eval (.Subscript a b p) env)::starEach es env:=rfl
theorem zY(a:Expr)(g:List Comprehension)(sc:Scope)(p:Pos)(es:List Expr)(env:Env):starEach (.ListComp a g sc p::es) env=(false,eval (.ListComp a g sc p) env)::starEach es env:=rfl
theorem z44(c:Const)(j:Nat)(p:Pos)(es:List Expr)(env:Env):starEach (.Constant c j p::es) env=(false,eval (.Constant c j p) env)::starEach es env:=rfl
theorem zx(x:Str)(p:Pos)(es:List Expr)(env:Env):starEach (.Name x p::es) env=(false,eval (.Name x p) env)::starEach es env:=rfl
theorem zfD(o:UnaryOp)(a:Expr)(p:Pos)(es:List Expr)(env:Env):starEach (.UnaryOp o a p::es) env=(false,eval (.UnaryOp o a p) env)::starEach es env:=rfl
inductive D where | non | bl (b:Bool) | int (i:Int) | str (x:Str) | tup (xs:List D) | lst (xs:List D) | dct | loc (l:Nat) | dlo (l:Nat) | fn (x:Str) | exc (x:Str) | scr (xs:List D)
abbrev Sto:=List (List D)
abbrev Ev:=List (Option D)
inductive R(α:Type) where | ok (a:α)(s:Sto) | ex (c:Str)(s:Sto) | no
def R.bind{α β:Type}(r:R α)(k:α->Sto->R β):R β:=match r with
 | .ok a s=>k a s | .ex c s=>.ex c s | .no=>.no
@[simp] theorem R.bind_ok {α β:Type}(a:α)(s:Sto)(k:α->Sto->R β):(R.ok a s).bind k=k a s:=id rfl
@[simp] theorem R.bind_ex {α β:Type}(c:Str)(s:Sto)(k:α->Sto->R β):(R.ex c s:R α).bind k=.ex c s:=id rfl
@[simp] theorem R.bind_no {α β:Type}(k:α->Sto->R β):(R.no:R α).bind k=.no:=id rfl
def D.flat:D->Bool
 | .tup xs=>flats xs | .lst xs=>flats xs | .scr xs=>flats xs | .loc _=>false | .dlo _=>false | _=>true
where flats:List D->Bool
 | []=>true | x::xs=>x.flat&&flats xs
def excO(C a:Addr):HO:=.ext fun h=>∃ o vs,h.get? a=some o/\o.cls=.ref C/\o.data=.fields vs
structure Gm where
 m:Str->Option Value
 K:W.Frag
abbrev gm(X:Cx):Gm:=⟨X.mg,X.K⟩
def IsL(H:Hp)(a:Addr):Prop:=∃ vs,H a=some (.lst vs)
def IsC(H:Hp)(a:Addr):Prop:=∃ kvs,H a=some (.dT kvs)
theorem IsL.notC{H:Hp}{a:Addr}(h:IsL H a)(h':IsC H a):False:=by obtain ⟨_,e⟩:=h;obtain ⟨_,e'⟩:=h';rw [e] at e';cases e'
def z74:Key->D
 | .inl i=>.int i | .inr x=>.str x
def zct:V->Option D
 | .int i=>some (.int i) | .bl b=>some (.bl b) | _=>none
def zfb:List D->List (List Key×V)->Prop
 | [],kvs=>kvs=[] | d::ds,kvs=>∃ k v x r,kvs=(k,v)::r/\zct v=some x/\d=.tup [.tup (k.map z74),x]/\zfb ds r
def KL(K:W.Frag)(a:Addr)(xs:List V):Prop:=∃ (o:Obj)(its:Array Value)(n:Nat),K.lookup a=some o/\o.cls=.type "list"/\o.dict=none/\o.data=.seq its n/\its.size<=sizeLine/\yW xs its.toList
section
variable (mg:Gm)
mutual
def Den(H:Hp)(Y:List Addr):D->V->Prop
 | .non,v=>v=.non | .bl b,v=>v=.bl b | .int i,v=>v=.int i | .str x,v=>v=.str x | .tup ds,v=>∃ a vs,v=.ref a/\H a=some (.tup vs)/\zD H Y ds vs | .lst ds,v=>∃ a o vs,v=.ref a/\H a=some (.frz o (.lst vs))/\zD H Y ds vs | .dct,v=>∃ a,v=.ref a/\H a=some (.dK []) | .loc l,v=>∃ a,v=.ref a/\Y[l]? = some a/\IsL H a | .dlo l,v=>∃ a,v=.ref a/\Y[l]? = some a/\IsC H a | .fn x,v=>∃ a,v=.ref a/\mg.m x=some (.ref a) | .exc x,v=>∃ a C,v=.ref a/\mg.m x=some (.ref C)/\H a=some (excO C a) | .scr ds,v=>∃ a vs,v=.ref a/\((∃ o,H a=some (.frz o (.lst vs)))\/KL mg.K a vs)/\zD H Y ds vs
def zD(H:Hp)(Y:List Addr):List D->List V->Prop
 | [],vs=>vs=[] | d::ds,vs=>∃ v r,vs=v::r/\Den H Y d v/\zD H Y ds r
end
def uP(H:Hp)(Y:List Addr)(xs:List D)(a:Addr):Prop:=(∃ vs,H a=some (.lst vs)/\zD mg H Y xs vs)\/∃ kvs,H a=some (.dT kvs)/\zfb xs kvs
structure Rep(H:Hp)(Y:List Addr)(s:Sto):Prop where
 len:Y.length=s.length
 nd:Y.Nodup
 cell:∀ (l:Nat)(xs:List D),s[l]? = some xs->∃ a,Y[l]? = some a/\uP mg H Y xs a
 flat:∀ xs∈s,D.flat.flats xs=true
structure xZ(H:Hp)(Y:List Addr)(H':Hp)(Y':List Addr)(s':Sto):Prop where
 rep:Rep mg H' Y' s'
 pre:Y <+: Y'
 keep:∀ b o,H b=some o->b∉Y->H' b=some o
 new:∀ a∈Y',a∉Y->H a=none
 mt:∀ a∈Y,(IsL H a/\IsL H' a)\/(IsC H a/\IsC H' a)
end
section
variable {mg:Gm}{H H' H1 H2:Hp}{Y Y' Y1 Y2:List Addr}{s s' s1 s2:Sto}
theorem uP.kind{xs:List D}{a:Addr}(h:uP mg H Y xs a):IsL H a\/IsC H a:=h.imp (fun ⟨vs,e,_⟩=>⟨vs,e⟩) fun ⟨k,e,_⟩=>⟨k,e⟩
theorem Rep.mt(r:Rep mg H Y s):∀ a∈Y,IsL H a\/IsC H a:=fun a ha=>by
 obtain ⟨l,hl,e⟩:=List.mem_iff_getElem.mp ha;have hl':l<s.length:=by rw [<- r.len];exact hl
 obtain ⟨b,e1,c⟩:=r.cell l s[l] (List.getElem?_eq_getElem hl');rw [List.getElem?_eq_getElem hl] at e1;have:Y[l]=b:=Option.some.inj e1;rw [<- e,this];exact c.kind
theorem Rep.at_(r:Rep mg H Y s){l:Nat}{xs:List D}{a:Addr}(h:s[l]? = some xs)(ha:Y[l]? = some a)(k:IsL H a):∃ vs,H a=some (.lst vs)/\zD mg H Y xs vs:=by
 obtain ⟨b,e1,c⟩:=r.cell l xs h;rw [ha] at e1;cases e1;rcases c with c | ⟨kvs,e,_⟩;·exact c
 ·exact (k.notC ⟨kvs,e⟩).elim
theorem Rep.dic(r:Rep mg H Y s){l:Nat}{xs:List D}{a:Addr}(h:s[l]? = some xs)(ha:Y[l]? = some a)(k:IsC H a):∃ kvs,H a=some (.dT kvs)/\zfb xs kvs:=by
 obtain ⟨b,e1,c⟩:=r.cell l xs h;rw [ha] at e1;cases e1;rcases c with ⟨vs,e,_⟩ | c;·exact (IsL.notC ⟨vs,e⟩ k).elim
 ·exact c
theorem xZ.refl(r:Rep mg H Y s):xZ mg H Y H Y s:=⟨r,List.prefix_refl _,fun _ _ h _=>h,fun a h1 h2=>absurd h1 h2,fun a ha=>(r.mt a ha).imp (fun h=>⟨h,h⟩) fun h=>⟨h,h⟩⟩
theorem xZ.trans(a:xZ mg H Y H1 Y1 s1)(b:xZ mg H1 Y1 H2 Y2 s2):xZ mg H Y H2 Y2 s2:=by
 refine ⟨b.rep,a.pre.trans b.pre,fun c o h n=>?_,fun c h1 h2=>?_,fun c hc=>?_⟩
 ·refine b.keep c o (a.keep c o h n) fun z=>?_;rw [a.new c z n] at h;cases h
 ·by_cases h3:c∈Y1;·exact a.new c h3 h2
  ·cases e:H c with
   | none=>rfl | some o=>rw [<- b.new c h1 h3,a.keep c o e h2]
 ·have hc1:c∈Y1:=a.pre.subset hc;rcases a.mt c hc with ⟨k1,k2⟩ | ⟨k1,k2⟩
  ·rcases b.mt c hc1 with ⟨_,q⟩ | ⟨q,_⟩;·exact .inl ⟨k1,q⟩
   ·exact (k2.notC q).elim
  ·rcases b.mt c hc1 with ⟨q,_⟩ | ⟨_,q⟩;·exact (q.notC k2).elim
   ·exact .inr ⟨k1,q⟩
theorem xZ.stay(stp:xZ mg H Y H' Y' s'){b:Addr}{o:HO}(h:H b=some o)(hn:∀ vs,o≠.lst vs)(hn2:∀ kvs,o≠.dT kvs:=by intro vs z;cases z):H' b=some o:=stp.keep b o h fun z=>by
 rcases stp.mt b z with ⟨⟨vs,e⟩,_⟩ | ⟨⟨vs,e⟩,_⟩
 ·rw [h] at e;exact hn vs (Option.some.inj e)
 ·rw [h] at e;exact hn2 vs (Option.some.inj e)
mutual
theorem Den.mono(stp:xZ mg H Y H' Y' s'):∀ {d:D}{v:V},Den mg H Y d v->Den mg H' Y' d v
 | .non,_,h=>by simpa [Den] using h | .bl _,_,h=>by simpa [Den] using h | .int _,_,h=>by simpa [Den] using h | .str _,_,h=>by simpa [Den] using h | .tup ds,v,h=>by
  simp only [Den] at h ⊢;obtain ⟨a,vs,e,h1,h2⟩:=h;exact ⟨a,vs,e,stp.stay h1 (by intro vs z;cases z),zD.mono stp h2⟩ | .lst ds,v,h=>by
  simp only [Den] at h ⊢;obtain ⟨a,o,vs,e,h1,h2⟩:=h;exact ⟨a,o,vs,e,stp.stay h1 (by intro vs z;cases z),zD.mono stp h2⟩ | .dct,v,h=>by
  simp only [Den] at h ⊢;obtain ⟨a,e,h1⟩:=h;exact ⟨a,e,stp.stay h1 (by intro vs z;cases z)⟩ | .loc l,v,h=>by
  simp only [Den] at h ⊢;obtain ⟨a,e,h1,k⟩:=h;obtain ⟨t,ht⟩:=stp.pre;refine ⟨a,e,?_,?_⟩
  ·rw [<- ht,List.getElem?_append_left (List.getElem?_eq_some_iff.mp h1).1];exact h1
  ·rcases stp.mt a (List.mem_of_getElem? h1) with ⟨_,q⟩ | ⟨q,_⟩;·exact q
   ·exact (k.notC q).elim | .dlo l,v,h=>by
  simp only [Den] at h ⊢;obtain ⟨a,e,h1,k⟩:=h;obtain ⟨t,ht⟩:=stp.pre;refine ⟨a,e,?_,?_⟩
  ·rw [<- ht,List.getElem?_append_left (List.getElem?_eq_some_iff.mp h1).1];exact h1
  ·rcases stp.mt a (List.mem_of_getElem? h1) with ⟨q,_⟩ | ⟨_,q⟩;·exact (q.notC k).elim
   ·exact q | .fn _,_,h=>by simpa [Den] using h | .exc x,v,h=>by
  simp only [Den] at h ⊢;obtain ⟨a,C,e,h1,h2⟩:=h;exact ⟨a,C,e,h1,stp.stay h2 (by intro vs z;cases z)⟩ | .scr ds,v,h=>by
  simp only [Den] at h ⊢;obtain ⟨a,vs,e,h1,h2⟩:=h;exact ⟨a,vs,e,h1.imp (fun ⟨o,h1⟩=>⟨o,stp.stay h1 (by intro vs z;cases z)⟩) id,zD.mono stp h2⟩
theorem zD.mono(stp:xZ mg H Y H' Y' s'):∀ {ds:List D}{vs:List V},zD mg H Y ds vs->zD mg H' Y' ds vs
 | [],_,h=>by simpa [zD] using h | d::ds,vs,h=>by
  simp only [zD] at h ⊢;obtain ⟨v,r,e,h1,h2⟩:=h;exact ⟨v,r,e,Den.mono stp h1,zD.mono stp h2⟩
end
theorem zD.length:∀ {ds:List D}{vs:List V},zD mg H Y ds vs->vs.length=ds.length
 | [],_,h=>by simp only [zD] at h;rw [h];rfl | d::ds,vs,h=>by
  simp only [zD] at h;obtain ⟨v,r,rfl,_,h2⟩:=h;simp [zD.length h2]
theorem zD.get:∀ {ds:List D}{vs:List V}{i:Nat}{d:D},zD mg H Y ds vs->ds[i]? = some d->∃ v,vs[i]? = some v/\Den mg H Y d v
 | [],_,_,_,_,e=>by simp at e | d::ds,vs,0,d',h,e=>by
  simp only [zD] at h;obtain ⟨v,r,rfl,h1,_⟩:=h;simp at e;subst e;exact ⟨v,by simp,h1⟩ | d::ds,vs,i+1,d',h,e=>by
  simp only [zD] at h;obtain ⟨v,r,rfl,_,h2⟩:=h;obtain ⟨u,h3,h4⟩:=zD.get (i:=i) h2 (by simpa using e);exact ⟨u,by simpa using h3,h4⟩
theorem zD.append:∀ {ds es:List D}{vs us:List V},zD mg H Y ds vs->zD mg H Y es us->zD mg H Y (ds++es) (vs++us)
 | [],_,_,_,h,h'=>by simp only [zD] at h;subst h;simpa using h' | d::ds,_,_,_,h,h'=>by
  simp only [zD] at h;obtain ⟨v,r,rfl,h1,h2⟩:=h;simp only [List.cons_append,zD];exact ⟨v,_,rfl,h1,zD.append h2 h'⟩
theorem zD.nil:zD mg H Y [] []:=by simp [zD]
theorem zD.cons {d:D} {ds:List D} {v:V} {vs:List V} (h:Den mg H Y d v) (h':zD mg H Y ds vs):zD mg H Y (d::ds) (v::vs):=by
 simp only [zD];exact ⟨v,vs,rfl,h,h'⟩
theorem zD.one{d:D}{v:V}(h:Den mg H Y d v):zD mg H Y [d] [v]:=.cons h .nil
theorem zD.take:∀ {ds:List D}{vs:List V}(n:Nat),zD mg H Y ds vs->zD mg H Y (ds.take n) (vs.take n)
 | ds,vs,0,h=>by simp [zD] | [],vs,n+1,h=>by simp only [zD] at h;subst h;simp [zD] | d::ds,vs,n+1,h=>by
  simp only [zD] at h;obtain ⟨v,r,rfl,h1,h2⟩:=h;simp only [List.take_succ_cons];exact .cons h1 (zD.take n h2)
theorem zD.drop:∀ {ds:List D}{vs:List V}(n:Nat),zD mg H Y ds vs->zD mg H Y (ds.drop n) (vs.drop n)
 | ds,vs,0,h=>by simpa using h | [],vs,n+1,h=>by simp only [zD] at h;subst h;simp [zD] | d::ds,vs,n+1,h=>by
  simp only [zD] at h;obtain ⟨v,r,rfl,h1,h2⟩:=h;simpa using zD.drop n h2
theorem zD.set:∀ {ds:List D}{vs:List V}{d:D}{v:V}(n:Nat),zD mg H Y ds vs->Den mg H Y d v->zD mg H Y (ds.set n d) (vs.set n v)
 | [],vs,_,_,n,h,_=>by simp only [zD] at h;subst h;simp [zD] | d::ds,vs,_,_,0,h,h'=>by
  simp only [zD] at h;obtain ⟨v,r,rfl,h1,h2⟩:=h;simpa using zD.cons h' h2 | d::ds,vs,_,_,n+1,h,h'=>by
  simp only [zD] at h;obtain ⟨v,r,rfl,h1,h2⟩:=h;simpa using zD.cons h1 (zD.set n h2 h')
mutual
theorem Den.flatten(k:∀ b o,H b=some o->(∀ vs,o≠.lst vs)->(∀ kvs,o≠.dT kvs)->H' b=some o):∀ {d:D}{v:V},d.flat=true->Den mg H Y d v->Den mg H' Y' d v
 | .non,_,_,h=>by simpa [Den] using h | .bl _,_,_,h=>by simpa [Den] using h | .int _,_,_,h=>by simpa [Den] using h | .str _,_,_,h=>by simpa [Den] using h | .tup ds,v,f,h=>by
  simp only [Den] at h ⊢;obtain ⟨a,vs,e,h1,h2⟩:=h;exact ⟨a,vs,e,k a _ h1 (by intro vs z;cases z) (by intro vs z;cases z),zD.flatten k (by simpa [D.flat] using f) h2⟩ | .lst ds,v,f,h=>by
  simp only [Den] at h ⊢;obtain ⟨a,o,vs,e,h1,h2⟩:=h;exact ⟨a,o,vs,e,k a _ h1 (by intro vs z;cases z) (by intro vs z;cases z),zD.flatten k (by simpa [D.flat] using f) h2⟩ | .dct,v,_,h=>by
  simp only [Den] at h ⊢;obtain ⟨a,e,h1⟩:=h;exact ⟨a,e,k a _ h1 (by intro vs z;cases z) (by intro vs z;cases z)⟩ | .loc l,v,f,h=>by simp [D.flat] at f | .dlo l,v,f,h=>by simp [D.flat] at f | .fn _,_,_,h=>by simpa [Den] using h | .exc x,v,_,h=>by
  simp only [Den] at h ⊢;obtain ⟨a,C,e,h1,h2⟩:=h;exact ⟨a,C,e,h1,k a _ h2 (by intro vs z;cases z) (by intro vs z;cases z)⟩ | .scr ds,v,f,h=>by
  simp only [Den] at h ⊢;obtain ⟨a,vs,e,h1,h2⟩:=h;exact ⟨a,vs,e,h1.imp (fun ⟨o,h1⟩=>⟨o,k a _ h1 (by intro vs z;cases z) (by intro vs z;cases z)⟩) id,zD.flatten k (by simpa [D.flat] using f) h2⟩
theorem zD.flatten(k:∀ b o,H b=some o->(∀ vs,o≠.lst vs)->(∀ kvs,o≠.dT kvs)->H' b=some o):∀ {ds:List D}{vs:List V},D.flat.flats ds=true->zD mg H Y ds vs->zD mg H' Y' ds vs
 | [],_,_,h=>by simpa [zD] using h | d::ds,vs,f,h=>by
  simp only [zD] at h ⊢;simp only [D.flat.flats,Bool.and_eq_true] at f;obtain ⟨v,r,e,h1,h2⟩:=h;exact ⟨v,r,e,Den.flatten k f.1 h1,zD.flatten k f.2 h2⟩
end
end
def okR{α β:Type}(mg:Gm)(E:XK)(H:Hp)(Y:List Addr)(Dn:Hp->List Addr->α->β->Prop)(r:R α)(Q:β->Hp->Prop):Prop:=match r with
 | .ok a s'=>∀ b H' Y',xZ mg H Y H' Y' s'->Dn H' Y' a b->Q b H' | .ex c s'=>∀ H' Y' C,xZ mg H Y H' Y' s'->mg.m c=some (.ref C)->E (.ref C) none H' | .no=>False
section
variable {α β α2 β2:Type}{mg:Gm}{E:XK}{H H' H1 H2:Hp}{Y Y' Y1 Y2:List Addr}{s s' s1 s2:Sto}{Dn:Hp->List Addr->α->β->Prop}{Dn2:Hp->List Addr->α2->β2->Prop}
theorem okR.rebase{r:R α}{Q:β->Hp->Prop}(h:okR mg E H Y Dn r Q)(stp:xZ mg H Y H1 Y1 s1):okR mg E H1 Y1 Dn r Q:=by cases r with
 | ok a s'=>exact fun b H' Y' stp'=>h b H' Y' (stp.trans stp') | ex c s'=>exact fun H' Y' C stp'=>h H' Y' C (stp.trans stp') | no=>exact h
theorem okR.bind{r:R α}{k:α->Sto->R α2}{Q:β2->Hp->Prop}(h:okR mg E H Y Dn2 (r.bind k) Q): okR mg E H Y Dn r (fun b H1=>∃ Y1 s1 a,xZ mg H Y H1 Y1 s1/\Dn H1 Y1 a b/\okR mg E H1 Y1 Dn2 (k a s1) Q):=by cases r with
 | ok a s'=>exact fun b H' Y' stp dn=>⟨Y',s',a,stp,dn,okR.rebase h stp⟩ | ex c s'=>exact h | no=>exact h
theorem okR.imp{r:R α}{Q Q':β->Hp->Prop}(h:okR mg E H Y Dn r Q)(i:∀ b H',Q b H'->Q' b H'):okR mg E H Y Dn r Q':=by cases r with
 | ok a s'=>exact fun b H' Y' stp dn=>i b H' (h b H' Y' stp dn) | ex c s'=>exact h | no=>exact h
theorem okR.here{a:α}{Q:β->Hp->Prop}{b:β}(h:okR mg E H Y Dn (.ok a s) Q)(r:Rep mg H Y s)(d:Dn H Y a b):Q b H:=h b H Y (.refl r) d
end
structure uC(mg:Gm)(H:Hp)(Y:List Addr)(Z:Ev)(O:L2.St):Prop where
 len:Z.length=O.length
 at_:∀ (i:Nat)(d:D),Z[i]? = some (some d)->∃ v,O[i]? = some (some v)/\Den mg H Y d v
theorem uC.mono{mg:Gm}{H H':Hp}{Y Y':List Addr}{s':Sto}{Z:Ev}{O:L2.St}(e:uC mg H Y Z O)(stp:xZ mg H Y H' Y' s'):uC mg H' Y' Z O:= ⟨e.len,fun i d h=>let ⟨v,h1,h2⟩:=e.at_ i d h;⟨v,h1,h2.mono stp⟩⟩
theorem uC.set{mg:Gm}{H:Hp}{Y:List Addr}{Z:Ev}{O:L2.St}{d:D}{v:V}(e:uC mg H Y Z O)(h:Den mg H Y d v)(i:Nat):uC mg H Y (Z.set i (some d)) (O.set i (some v)):=by
 refine ⟨by simp [e.len],fun j d' hj=>?_⟩;by_cases hij:i=j
 ·subst hij;have hi:i<Z.length:=by
   have:=(List.getElem?_eq_some_iff.mp hj).1;simpa using this
  rw [List.getElem?_set_self hi] at hj;cases hj;exact ⟨v,by rw [List.getElem?_set_self (by rw [<- e.len];exact hi)],h⟩
 ·rw [List.getElem?_set_ne hij] at hj ⊢;exact e.at_ j d' hj
abbrev FE:=Ev->Sto->R D
abbrev FT:=Ev->Sto->R Bool
abbrev FA:=Ev->Sto->R (List D)
inductive Fl where | nx (Z:Ev) | rt (d:D) | bk (Z:Ev) | ct (Z:Ev)
inductive FlV where | nx (O:L2.St) | rt (v:V) | bk (O:L2.St) | ct (O:L2.St)
abbrev FS:=Ev->Sto->R Fl
def FlD(mg:Gm)(H:Hp)(Y:List Addr):Fl->FlV->Prop
 | .nx Z,.nx O=>uC mg H Y Z O | .rt d,.rt v=>Den mg H Y d v | .bk Z,.bk O=>uC mg H Y Z O | .ct Z,.ct O=>uC mg H Y Z O | _,_=>False
def z3o(D:zeD):FlV->Hp->Prop
 | .nx O,H=>D.nx O H | .rt v,H=>D.rt v H | .bk O,H=>D.bk O H | .ct O,H=>D.ct O H
def bD(_:Hp)(_:List Addr)(a b:Bool):Prop:=a=b
def tE(mg:Gm)(E:XK)(f:FE):TE:=fun O H Q=>∃ Y Z s,Rep mg H Y s/\uC mg H Y Z O/\okR mg E H Y (Den mg) (f Z s) Q
def tT(mg:Gm)(E:XK)(f:FT):TT:=fun O H Q=>∃ Y Z s,Rep mg H Y s/\uC mg H Y Z O/\okR mg E H Y bD (f Z s) Q
def tA(mg:Gm)(E:XK)(f:FA):TA:=fun O H Q=>∃ Y Z s,Rep mg H Y s/\uC mg H Y Z O/\okR mg E H Y (zD mg) (f Z s) Q
def tS(mg:Gm)(E:XK)(f:FS):TS:=fun D O H=>∃ Y Z s,Rep mg H Y s/\uC mg H Y Z O/\okR mg E H Y (FlD mg) (f Z s) (z3o D)
def RE(X:Cx)(E:XK)(e:Expr)(f:FE):Prop:=PE X e (tE (gm X) E f)
def RT(X:Cx)(E:XK)(e:Expr)(f:FT):Prop:=PT X e (tT (gm X) E f)
def RA(X:Cx)(E:XK)(es:List Expr)(f:FA):Prop:=PA X es (tA (gm X) E f)
def RS(X:Cx)(E:XK)(st:Stmt)(f:FS):Prop:=PS X st (tS (gm X) E f)
def RSs(X:Cx)(E:XK)(st:List Stmt)(f:FS):Prop:=PSs X st (tS (gm X) E f)
section
variable {X:Cx}{E:XK}{e a b c:Expr}{es:List Expr}{pos:Pos}
theorem zV{t t':TE}(h:PE X e t)(i:∀ O H Q,t' O H Q->t O H Q):PE X e t':=fun pins s O H Q I q=>h pins s O H Q I (i O H Q q)
theorem z8N{t t':TT}(h:PT X e t)(i:∀ O H Q,t' O H Q->t O H Q):PT X e t':=fun pins s O H Q I q=>h pins s O H Q I (i O H Q q)
theorem ze0{t t':TA}(h:PA X es t)(i:∀ O H Q,t' O H Q->t O H Q):PA X es t':=fun pos pins s O H Q I q=>h pos pins s O H Q I (i O H Q q)
theorem uN{st:Stmt}{t t':TS}(h:PS X st t)(i:∀ D O H,t' D O H->t D O H):PS X st t':=fun pins s O H D I q=>h pins s O H D I (i D O H q)
theorem zbe{st:List Stmt}{t t':TS}(h:PSs X st t)(i:∀ D O H,t' D O H->t D O H):PSs X st t':=fun pins s O H D I q=>h pins s O H D I (i D O H q)
theorem yr{α β:Type}{Dn:Hp->List Addr->α->β->Prop}{mg:Gm}{f:FE}{k:Ev->D->Sto->R α}{O:L2.St}{H:Hp}{Q:β->Hp->Prop}{Y:List Addr}{Z:Ev}{s:Sto}(r:Rep mg H Y s)(en:uC mg H Y Z O) (h:okR mg E H Y Dn ((f Z s).bind (k Z)) Q)(K:V->Hp->Prop) (hK:∀ v H1 Y1 s1 d,Rep mg H1 Y1 s1->uC mg H1 Y1 Z O->Den mg H1 Y1 d v->xZ mg H Y H1 Y1 s1->okR mg E H1 Y1 Dn (k Z d s1) Q->K v H1):tE mg E f O H K:= ⟨Y,Z,s,r,en,(okR.bind (Dn:=Den mg) h).imp fun v H1 ⟨Y1,s1,d,stp,dn,q⟩=>hK v H1 Y1 s1 d stp.rep (en.mono stp) dn stp q⟩
theorem z5m{α β:Type}{Dn:Hp->List Addr->α->β->Prop}{mg:Gm}{f:FT}{k:Ev->Bool->Sto->R α}{O:L2.St}{H:Hp}{Q:β->Hp->Prop}{Y:List Addr}{Z:Ev}{s:Sto}(r:Rep mg H Y s)(en:uC mg H Y Z O) (h:okR mg E H Y Dn ((f Z s).bind (k Z)) Q)(K:Bool->Hp->Prop) (hK:∀ v H1 Y1 s1,Rep mg H1 Y1 s1->uC mg H1 Y1 Z O->xZ mg H Y H1 Y1 s1->okR mg E H1 Y1 Dn (k Z v s1) Q->K v H1):tT mg E f O H K:= ⟨Y,Z,s,r,en,(okR.bind (Dn:=bD) h).imp fun v H1 ⟨Y1,s1,d,stp,dn,q⟩=>hK v H1 Y1 s1 stp.rep (en.mono stp) stp (by cases (show d=v from dn);exact q)⟩
theorem vZ{α β:Type}{Dn:Hp->List Addr->α->β->Prop}{mg:Gm}{f:FA}{k:Ev->List D->Sto->R α}{O:L2.St}{H:Hp}{Q:β->Hp->Prop}{Y:List Addr}{Z:Ev}{s:Sto}(r:Rep mg H Y s)(en:uC mg H Y Z O) (h:okR mg E H Y Dn ((f Z s).bind (k Z)) Q)(K:List V->Hp->Prop) (hK:∀ v H1 Y1 s1 d,Rep mg H1 Y1 s1->uC mg H1 Y1 Z O->zD mg H1 Y1 d v->xZ mg H Y H1 Y1 s1->okR mg E H1 Y1 Dn (k Z d s1) Q->K v H1):tA mg E f O H K:= ⟨Y,Z,s,r,en,(okR.bind (Dn:=zD mg) h).imp fun v H1 ⟨Y1,s1,d,stp,dn,q⟩=>hK v H1 Y1 s1 d stp.rep (en.mono stp) dn stp q⟩
def zc(i:Nat):FE:=fun Z s=>match Z[i]? with | some (some d)=>.ok d s | _=>.no
theorem zb(i:Nat){x:Str}(hN:X.N[i]? = some x:=by rfl)(hv:Vis X.env.scope x:=by first | exact Or.inl rfl | exact Or.inr (Or.inl rfl) | exact Or.inr (Or.inr rfl))(hd:(x==("__debug__":Str))=false:=by decide) (hcd:(x==("__classdict__":Str))=false:=by decide):RE X E (.Name x pos) (zc i):= zV (zdY hN hv hd hcd) fun O H Q ⟨Y,Z,s,r,en,h⟩=>by
  unfold zc at h;split at h
  ·rename_i d hd;obtain ⟨v,h1,h2⟩:=en.at_ i d hd;exact ⟨v,h1,h.here r h2⟩
  ·exact h.elim
def eC(d:D):FE:=fun _ s=>.ok d s
theorem zm{i:Int}{j:Nat}:RE X E (.Constant (.int i) j pos) (eC (.int i)):=zV zhT fun O H Q ⟨Y,Z,s,r,en,h⟩=>okR.here (b:=V.int i) h r (by simp [Den])
theorem z9v{i:Bool}{j:Nat}:RE X E (.Constant (.bool i) j pos) (eC (.bl i)):=zV zk7 fun O H Q ⟨Y,Z,s,r,en,h⟩=>okR.here (b:=V.bl i) h r (by simp [Den])
theorem zbp{j:Nat}:RE X E (.Constant .none j pos) (eC .non):=zV zio fun O H Q ⟨Y,Z,s,r,en,h⟩=>okR.here (b:=V.non) h r (by simp [Den])
theorem xp{i:Str}{j:Nat}:RE X E (.Constant (.str i) j pos) (eC (.str i)):=zV zeg fun O H Q ⟨Y,Z,s,r,en,h⟩=>okR.here (b:=V.str i) h r (by simp [Den])
theorem zi6{x:Str}{i:Int}{t:Tok}(hg:Gl X x)(hm:X.mg x=some (.int i t))(hd:(x==("__debug__":Str))=false:=by decide):RE X E (.Name x pos) (eC (.int i)):= zV (z2F hg hm (show xx (.int i) (.int i t) from ⟨t,rfl⟩) hd) fun O H Q ⟨Y,Z,s,r,en,h⟩=>okR.here (b:=V.int i) h r (by simp [Den])
def OpF(X:Cx)(E:XK)(r:R2)(op:D->D->Sto->R D):Prop:= ∀ H Y s d1 d2 v1 v2 (Q:VK),Rep (gm X) H Y s->Den (gm X) H Y d1 v1->Den (gm X) H Y d2 v2->okR (gm X) E H Y (Den (gm X)) (op d1 d2 s) Q->r v1 v2 H Q
def eOp(op:D->D->Sto->R D)(fa fb:FE):FE:=fun Z s=>(fa Z s).bind fun x s1=>(fb Z s1).bind fun y s2=>op x y s2
theorem z5Q{r:R2}{op:D->D->Sto->R D}{fa fb:FE}(ho:OpF X E r op){O:L2.St}{H:Hp}{Q:VK}(h:tE (gm X) E (eOp op fa fb) O H Q):tOp r (tE (gm X) E fa) (tE (gm X) E fb) O H Q:=by
 obtain ⟨Y,Z,s,r',en,h⟩:=h;refine yr (k:=fun Z x s1=>(fb Z s1).bind fun y s2=>op x y s2) r' en h _ fun v H1 Y1 s1 d r1 en1 dn stp h1=>?_;refine yr (k:=fun Z y s2=>op d y s2) r1 en1 h1 _ fun v2 H2 Y2 s2 d2 r2 en2 dn2 St2 h2=>?_;exact ho H2 Y2 s2 d d2 v v2 Q r2 (dn.mono St2) dn2 h2
theorem zlo{op:Operator}{r:R2}{fo:D->D->Sto->R D}{fa fb:FE}(ho:OpR X (binaryOp op) r/\OpF X E r fo)(ha:RE X E a fa)(hb:RE X E b fb):RE X E (.BinOp a op b pos) (eOp fo fa fb):= zV (zjU ho.1 ha hb) fun O H Q h=>z5Q ho.2 h
theorem zja{op:CmpOp}{r:R2}{fo:D->D->Sto->R D}{fa fb:FE}(ho:OpR X (compareOp op) r/\OpF X E r fo)(ha:RE X E a fa)(hb:RE X E b fb)(hm:behindInMarks op b=false):RE X E (.Compare a [op] [b] pos) (eOp fo fa fb):= zV (zbI ho.1 ha hb hm) fun O H Q h=>z5Q ho.2 h
end
end Dd
namespace L2
open PySem.Spec
theorem Inv.freeze {X:Cx} {pins:List (Addr×Obj)} {O:L2.St} {H:Hp} {s:Shared} {a:Addr} {u:HO} {o:Obj} (I:Inv X pins O H s) (h:H a=some u) (e:s.heap.get? a=some o) (hu:∀ xs,u≠.tup xs) (hf:∀ o v,u≠.frz o v) (ht:∀ ps,u≠.tbl ps) (ho:∀ y,u≠.own y): Inv X pins O (upd H a (.frz o u)) s:=by
 have ne:∀ {b:Addr} {v:HO},H b=some v->v≠u->b≠a:=fun {b v} hb hv z=>by subst z;rw [h] at hb;exact hv (Option.some.inj hb).symm
 have stay:∀ b v,xL X.prog X.w H s.heap b v->xL X.prog X.w (upd H a (.frz o u)) s.heap b v:=fun b v q=> q.stay (fun _ _ _ q=>q) (fun c q=>by rw [zF (ne q (fun z=>ho b z.symm))];exact q) fun c xs q=>by rw [zF (ne q (fun z=>hu xs z.symm))];exact q
 have hok:HOk X.prog X.w (upd H a (.frz o u)) s.heap:=fun b v q=>by
  by_cases hb:b=a
  ·subst hb;rw [yg] at q;cases q;exact ⟨e,stay b u (I.hok b u h)⟩
  ·rw [zF hb] at q;exact stay b v (I.hok b v q)
 exact I.step (h':=s.heap) (g':=s.gens) (d':=s.drawn) (t':=s.toks) (ch:=[]) (fun b hb=>absurd hb (by simp)) (fun b o _ _ _ e _=>e) (fun b o _ _ _ e _=>⟨o.slots,e⟩) (fun b v _ _ n=>by rw [zF (fun z=>by subst z;rw [h] at n;cases n)];exact n) (fun b o _ e=>⟨o,e⟩) (fun b xs q=>by rw [zF (ne q (fun z=>hu xs z.symm))];exact q) (fun b o' v q=>by rw [zF (ne q (fun z=>hf o' v z.symm))];exact q) (fun b ps q=>⟨#[],by rw [zF (ne q (fun z=>ht ps z.symm)),q];simp⟩) (fun _ q=>q) hok I.bare
def zc6(Q:VK):VK:=fun v H=>∃ a xs,v=.ref a/\H a=some (.lst xs)/\∀ o,Q v (upd H a (.frz o (.lst xs)))
theorem EP.freeze{X:Cx}{pins:List (Addr×Obj)}{O:L2.St}{Q:VK}{u:Value}{s:Shared}(h:EP X pins O (zc6 Q) u s):EP X pins O Q u s:=by
 obtain ⟨v,H',I,r,a,xs,rfl,ha,q⟩:=h;obtain ⟨its,n,rv,e,_⟩:=I.lst ha;exact ⟨_,_,I.freeze ha e (by intro _ z;cases z) (by intro _ _ z;cases z) (by intro _ z;cases z) (by intro _ z;cases z),r,q _⟩
theorem OpR.freeze{X:Cx}{f:Value->Value->Sem Value}{r:R2}(h:OpR X f r):OpR X f (fun x y H Q=>r x y H (zc6 Q)):=fun pins s O H x y v u Q I rx ry q=>thn (h pins s O H x y v u _ I rx ry q) fun _ _ z=>z.freeze
theorem xz.freeze{X:Cx}{f:Value}{r:List V->Hp->VK->Prop}(h:xz X f r):xz X f (fun xs H Q=>r xs H (zc6 Q)):=fun pins s O H xs us Q I rs q=>thn (h pins s O H xs us _ I rs q) fun _ _ z=>z.freeze
theorem PE.freeze{X:Cx}{e:Expr}{t:TE}(h:PE X e t):PE X e (fun O H Q=>t O H (zc6 Q)):=fun pins s O H Q I q=>thn (h pins s O H _ I q) fun _ _ z=>z.freeze
theorem SlR.freeze{X:Cx}{r:V->Option Int->Option Int->Hp->VK->Prop}(h:SlR X r):SlR X (fun x lo hi H Q=>r x lo hi H (zc6 Q)):=fun pins s O H x v vl vu lo hi sl Q I rx hs pl pu q=>by
 obtain ⟨T,id,h1,h2,h3⟩:=h pins s O H x v vl vu lo hi sl _ I rx hs pl pu q;exact ⟨T,id,h1,h2,thn h3 fun _ _ z=>z.freeze⟩
section
variable {X:Cx}
theorem zal:OpR X (binaryOp .Add) (fun x y H Q=>∃ l b xs zs,x=.ref l/\y=.ref b/\Rd H l (.lst xs)/\Rd H b (.lst zs)/\xs.length+zs.length<=sizeLine/\∀ p,H p=none->Q (.ref p) (upd H p (.lst (xs++zs)))):=by
 intro pins s O H x y v u Q I rx ry h;obtain ⟨l,b,xs,zs,rfl,rfl,hH,hB,hz,q⟩:=h;cases rx;cases ry;obtain ⟨z,its,n,r,e⟩:=hH.ok I.hok;obtain ⟨z2,its2,n2,r2,e2⟩:=hB.ok I.hok;have hl:=r.length;have hl2:=r2.length;refine PySem.P.add_list e e2 ?_ (by rw [List.size_toArray,List.size_toArray];omega);have ea:its.toArray++its2.toArray=(its++its2).toArray:=by simp
 rw [ea];exact ⟨.ref _,_,I.lnew (t':=s.toks) (r.append r2) (by rw [List.length_append];omega),rfl,q _ I.fresh⟩
end
section
variable {X:Cx}
theorem zdq:OpR X (binaryOp .Add) (fun x y H Q=>∃ a b ys,x=.ref a/\y=.ref b/\SqT X.K H a []/\SqT X.K H b ys/\Q (.ref b) H):=by
 intro pins s O H x y v u Q I rx ry h;obtain ⟨a,b,ys,rfl,rfl,ha,hb,q⟩:=h;cases rx;cases ry;obtain ⟨its,r1,p1,_⟩:=I.tuple ha;obtain ⟨its2,r2,p2,_⟩:=I.tuple hb;cases r1;obtain ⟨⟨cls,dd,data,sl⟩,ho,hc,n,hd⟩:=id p1;obtain ⟨⟨cls2,dd2,data2,sl2⟩,ho2,hc2,n2,hd2⟩:=id p2;simp only at hc hd hc2 hd2;subst hc hd hc2 hd2;exact concat_meets ⟨_,ho,rfl⟩ ⟨_,ho2,rfl⟩ noFill_tuple_add seq_tuple_add PySem.F.slot_tuple_add PySem.F.entry_tuple_add (PySem.F.args_tuple_add_2 _ _) (tuple_addW0 a b _ _ n n2 dd dd2 sl sl2 (by simp)) ⟨ho,ho2,⟨.ref b,H,I,rfl,q⟩⟩
theorem zfS:SlR X (fun x lo hi H Q=>∃ a xs,x=.ref a/\SqT X.K H a xs/\(HT.sIx xs.length 0 lo=0/\HT.sIx xs.length xs.length hi=xs.length)/\Q (.ref a) H):=by
 intro pins s O H x v vl vu lo hi sl Q I rx hs pl pu h;obtain ⟨a,xs,rfl,hx,hw,q⟩:=h;cases rx;obtain ⟨its,r,ht,hz⟩:=I.tuple hx;have hlen:its.toArray.size=xs.length:=by rw [List.size_toArray];exact r.length.symm
 refine ⟨"tuple",_,PyProof.Rows.slot_tuple_getitem.lookup,ht.typeIs,?_⟩;obtain ⟨os,hos,hcs,hds⟩:=id hs;have hTs:s.TypeIs (.ref sl) "slice":=⟨os,hos,hcs⟩;obtain ⟨oa,hoa,hca,na,hda⟩:=id ht;unfold getItem;try with_reducible refine wpAny_holding ?_
 first | refine wpAny_bind (wpAny_pure ?_) | skip
 refine wpAny_bind (wpAny_sequenceKey ht.typeIs (by decide) ?_);refine wpAny_bind (wpAny_callSpecial?_slot (name:=Str.ofString "__getitem__") ht.typeIs PyProof.Rows.slot_tuple_getitem (wpAny_call_entry PyProof.Rows.slot_tuple_getitem ht.typeIs entry_tuple_getitem ?_ (args_tuple_getitem _ _)));show wpAny _ _ (Builtin.Tuple.tupleItemsOf (.ref a) >>= _) _ _ s;refine wpAny_bind (tupleItemsOf_ ht ?_);refine wpAny_bind (wpAny_typeOf hTs ?_);rw [if_pos (by decide)];refine wpAny_bind (HT.qG hs pl pu ?_);rw [hlen,hw.1,hw.2];show wpAny _ _ (if (((0:Nat):Int)==0&&(1:Int)==1&&(xs.length-0)==xs.length)=true then _ else _) _ _ s;rw [if_pos (by simp)];have hTa:s.TypeIs (.ref a) "tuple":=ht.typeIs;have fin:EP X pins O Q (.ref a) s:=⟨.ref a,H,I,rfl,q⟩;unfold Builtin.Tuple.tupleIsExact;refine wpAny_bind (wpAny_bind (wpAny_typeOf hTa (wpAny_pure ?_)));rw [if_pos (by decide)];exact wpAny_bind (wpAny_rule (wpAny_pure ⟨_,rfl,wpAny_pure fin⟩))
end
end L2
namespace Dd
open PySem.Spec L2
section
variable {mg:Gm}{H H' H1 H2:Hp}{Y Y' Y1 Y2:List Addr}{s s' s1 s2:Sto}
structure Kp(H H':Hp):Prop where
 k:∀ b o,H b=some o->(∀ vs,o≠.lst vs)->(∀ kvs,o≠.dT kvs)->H' b=some o
 l:∀ a,IsL H a->IsL H' a
 c:∀ a,IsC H a->IsC H' a
mutual
theorem Den.gen(k:Kp H H')(hi:∀ (l:Nat) a,Y[l]? = some a->Y'[l]? = some a):∀ {d:D}{v:V},Den mg H Y d v->Den mg H' Y' d v
 | .non,_,h=>by simpa [Den] using h | .bl _,_,h=>by simpa [Den] using h | .int _,_,h=>by simpa [Den] using h | .str _,_,h=>by simpa [Den] using h | .tup ds,v,h=>by
  simp only [Den] at h ⊢;obtain ⟨a,vs,e,h1,h2⟩:=h;exact ⟨a,vs,e,k.k a _ h1 (by intro vs z;cases z) (by intro vs z;cases z),zD.gen k hi h2⟩ | .lst ds,v,h=>by
  simp only [Den] at h ⊢;obtain ⟨a,o,vs,e,h1,h2⟩:=h;exact ⟨a,o,vs,e,k.k a _ h1 (by intro vs z;cases z) (by intro vs z;cases z),zD.gen k hi h2⟩ | .dct,v,h=>by
  simp only [Den] at h ⊢;obtain ⟨a,e,h1⟩:=h;exact ⟨a,e,k.k a _ h1 (by intro vs z;cases z) (by intro vs z;cases z)⟩ | .loc l,v,h=>by
  simp only [Den] at h ⊢;obtain ⟨a,e,h1,q⟩:=h;exact ⟨a,e,hi l a h1,k.l a q⟩ | .dlo l,v,h=>by
  simp only [Den] at h ⊢;obtain ⟨a,e,h1,q⟩:=h;exact ⟨a,e,hi l a h1,k.c a q⟩ | .fn _,_,h=>by simpa [Den] using h | .exc x,v,h=>by
  simp only [Den] at h ⊢;obtain ⟨a,C,e,h1,h2⟩:=h;exact ⟨a,C,e,h1,k.k a _ h2 (by intro vs z;cases z) (by intro vs z;cases z)⟩ | .scr ds,v,h=>by
  simp only [Den] at h ⊢;obtain ⟨a,vs,e,h1,h2⟩:=h;exact ⟨a,vs,e,h1.imp (fun ⟨o,h1⟩=>⟨o,k.k a _ h1 (by intro vs z;cases z) (by intro vs z;cases z)⟩) id,zD.gen k hi h2⟩
theorem zD.gen(k:Kp H H')(hi:∀ (l:Nat) a,Y[l]? = some a->Y'[l]? = some a):∀ {ds:List D}{vs:List V},zD mg H Y ds vs->zD mg H' Y' ds vs
 | [],_,h=>by simpa [zD] using h | d::ds,vs,h=>by
  simp only [zD] at h ⊢;obtain ⟨v,r,e,h1,h2⟩:=h;exact ⟨v,r,e,Den.gen k hi h1,zD.gen k hi h2⟩
end
theorem z26{p:Addr}{o:HO}(hp:H p=none):∀ b u,H b=some u->upd H p o b=some u:=fun b u h=>by rw [zF (yT h hp)];exact h
theorem Kp.new{p:Addr}{o:HO}(hp:H p=none):Kp H (upd H p o):=⟨fun b u h _ _=>z26 hp b u h,fun a ⟨vs,e⟩=>⟨vs,z26 hp a _ e⟩,fun a ⟨vs,e⟩=>⟨vs,z26 hp a _ e⟩⟩
theorem Kp.putL{a:Addr}{vs:List V}(h:IsL H a):Kp H (upd H a (.lst vs)):=by
 obtain ⟨ws,e⟩:=h;refine ⟨fun b o q n1 n2=>?_,fun b ⟨us,q⟩=>?_,fun b ⟨us,q⟩=>?_⟩;·rw [zF (fun z=>by subst z;rw [e] at q;exact n1 ws (Option.some.inj q).symm)];exact q
 ·by_cases z:b=a;·subst z;exact ⟨vs,yg⟩
  ·exact ⟨us,by rw [zF z];exact q⟩
 ·rw [IsC,zF (fun z=>by subst z;rw [e] at q;cases q)];exact ⟨us,q⟩
theorem Kp.putC{a:Addr}{kvs:List (List Key×V)}(h:IsC H a):Kp H (upd H a (.dT kvs)):=by
 obtain ⟨ws,e⟩:=h;refine ⟨fun b o q n1 n2=>?_,fun b ⟨us,q⟩=>?_,fun b ⟨us,q⟩=>?_⟩;·rw [zF (fun z=>by subst z;rw [e] at q;exact n2 ws (Option.some.inj q).symm)];exact q
 ·rw [IsL,zF (fun z=>by subst z;rw [e] at q;cases q)];exact ⟨us,q⟩
 ·by_cases z:b=a;·subst z;exact ⟨kvs,yg⟩
  ·exact ⟨us,by rw [zF z];exact q⟩
theorem uP.gen{xs:List D}{a:Addr}(k:Kp H H')(hi:∀ (l:Nat) a,Y[l]? = some a->Y'[l]? = some a)(e:H' a=H a)(h:uP mg H Y xs a):uP mg H' Y' xs a:=by
 rcases h with ⟨vs,h1,h2⟩ | ⟨kvs,h1,h2⟩;·exact .inl ⟨vs,e.trans h1,h2.gen k hi⟩
 ·exact .inr ⟨kvs,e.trans h1,h2⟩
theorem uP.ne{xs:List D}{a p:Addr}(h:uP mg H Y xs a)(hp:H p=none):a≠p:=by
 rintro rfl;rcases h.kind with ⟨_,e⟩ | ⟨_,e⟩<;>rw [hp] at e<;>cases e
theorem Rep.notin{p:Addr}(r:Rep mg H Y s)(hp:H p=none):p∉Y:=fun z=>by rcases r.mt p z with ⟨_,e⟩ | ⟨_,e⟩<;>rw [hp] at e<;>cases e
theorem xZ.lay{p:Addr}{o:HO}(r:Rep mg H Y s)(hp:H p=none)(ho:∀ vs,o≠.lst vs):xZ mg H Y (upd H p o) Y s:= ⟨⟨r.len,r.nd,fun l xs h=>let ⟨a,h1,h2⟩:=r.cell l xs h;⟨a,h1,h2.gen (.new hp) (fun _ _ q=>q) (zF (h2.ne hp))⟩,r.flat⟩,List.prefix_refl _,fun b u h _=>z26 hp b u h,fun a h1 h2=>absurd h1 h2,fun a ha=>(r.mt a ha).imp (fun h=>⟨h,(Kp.new hp).l a h⟩) fun h=>⟨h,(Kp.new hp).c a h⟩⟩
theorem xZ.layC{p:Addr}{o:HO}{xs:List D}(r:Rep mg H Y s)(hp:H p=none)(hc:uP mg (upd H p o) (Y++[p]) xs p)(hf:D.flat.flats xs=true):xZ mg H Y (upd H p o) (Y++[p]) (s++[xs]):=by
 have pn:p∉Y:=r.notin hp;have hi:∀ (l:Nat) a,Y[l]? = some a->(Y++[p])[l]? = some a:=fun l a h=>by rw [List.getElem?_append_left (List.getElem?_eq_some_iff.mp h).1];exact h
 refine ⟨⟨by simp [r.len],?_,fun l ys h=>?_,fun ys h=>?_⟩,List.prefix_append _ _,fun b u h _=>z26 hp b u h,fun a h1 h2=>?_,fun a ha=>(r.mt a ha).imp (fun h=>⟨h,(Kp.new hp).l a h⟩) fun h=>⟨h,(Kp.new hp).c a h⟩⟩
 ·rw [List.nodup_append];exact ⟨r.nd,by simp,fun a ha b hb=>by
   have:b=p:=by simpa using hb
   subst this;exact fun z=>pn (z ▸ ha)⟩
 ·by_cases hl:l<s.length
  ·rw [List.getElem?_append_left hl] at h;obtain ⟨a,h1,h2⟩:=r.cell l ys h;exact ⟨a,hi l a h1,h2.gen (.new hp) hi (zF (h2.ne hp))⟩
  ·have h0:l=s.length:=by
    have:=(List.getElem?_eq_some_iff.mp h).1;simp at this;omega
   subst h0;simp at h;subst h;exact ⟨p,by rw [<- r.len];simp,hc⟩
 ·rcases List.mem_append.mp h with h | h;·exact r.flat ys h
  ·have:ys=xs:=by simpa using h
   rw [this];exact hf
 ·rcases List.mem_append.mp h1 with h | h;·exact absurd h h2
  ·have:a=p:=by simpa using h
   rw [this];exact hp
theorem xZ.layL{p:Addr}{xs:List D}{vs:List V}(r:Rep mg H Y s)(hp:H p=none)(hd:zD mg H Y xs vs)(hf:D.flat.flats xs=true):xZ mg H Y (upd H p (.lst vs)) (Y++[p]) (s++[xs]):= xZ.layC r hp (.inl ⟨vs,yg,hd.gen (.new hp) fun l a h=>by rw [List.getElem?_append_left (List.getElem?_eq_some_iff.mp h).1];exact h⟩) hf
theorem xZ.putC{l:Nat}{a:Addr}{o:HO}{xs:List D}(r:Rep mg H Y s)(ha:Y[l]? = some a)(k:Kp H (upd H a o))(hc:uP mg (upd H a o) Y xs a)(hf:D.flat.flats xs=true):xZ mg H Y (upd H a o) Y (s.set l xs):=by
 have hai:a∈Y:=List.mem_of_getElem? ha;have hll:l<s.length:=by rw [<- r.len];exact (List.getElem?_eq_some_iff.mp ha).1
 refine ⟨⟨by simp [r.len],r.nd,fun j ys h=>?_,fun ys h=>?_⟩,List.prefix_refl _,fun b u h hn=>?_,fun a h1 h2=>absurd h1 h2,fun b hb=>(r.mt b hb).imp (fun h=>⟨h,k.l b h⟩) fun h=>⟨h,k.c b h⟩⟩
 ·by_cases hj:l=j
  ·subst hj;rw [List.getElem?_set_self hll] at h;cases h;exact ⟨a,ha,hc⟩
  ·rw [List.getElem?_set_ne hj] at h;obtain ⟨b,h1,h2⟩:=r.cell j ys h;refine ⟨b,h1,h2.gen k (fun _ _ q=>q) (zF ?_)⟩;rintro rfl;have il:l<Y.length:=(List.getElem?_eq_some_iff.mp ha).1;have ij:j<Y.length:=(List.getElem?_eq_some_iff.mp h1).1;exact hj ((List.getElem_inj r.nd).mp (((List.getElem?_eq_some_iff.mp ha).2).trans ((List.getElem?_eq_some_iff.mp h1).2).symm))
 ·rcases List.mem_or_eq_of_mem_set h with h | h;·exact r.flat ys h
  ·rw [h];exact hf
 ·rw [zF (fun z=>by subst z;exact hn hai)];exact h
theorem xZ.put{l:Nat}{a:Addr}{xs:List D}{vs:List V}(r:Rep mg H Y s)(ha:Y[l]? = some a)(ka:IsL H a)(hd:zD mg H Y xs vs)(hf:D.flat.flats xs=true):xZ mg H Y (upd H a (.lst vs)) Y (s.set l xs):= xZ.putC r ha (.putL ka) (.inl ⟨vs,yg,hd.gen (.putL ka) fun _ _ q=>q⟩) hf
def listOf(s:Sto):D->Option (List D)
 | .lst xs=>some xs | .loc l=>s[l]? | _=>none
def zL(s:Sto):D->Option (List D)
 | .tup xs=>some xs | .lst xs=>some xs | .scr xs=>some xs | .loc l=>s[l]? | _=>none
theorem zT{d:D}{xs:List D}{v:V}(r:Rep mg H Y s)(h:listOf s d=some xs)(dn:Den mg H Y d v):∃ a vs,v=.ref a/\Rd H a (.lst vs)/\zD mg H Y xs vs:=by cases d with
 | lst ys=>
  simp only [listOf,Option.some.injEq] at h;subst h;simp only [Den] at dn;obtain ⟨a,o,vs,e,h1,h2⟩:=dn;exact ⟨a,vs,e,.inr ⟨o,h1⟩,h2⟩ | loc l=>
  simp only [Den] at dn;obtain ⟨a,e,h1,k⟩:=dn;obtain ⟨vs,h3,h4⟩:=r.at_ h h1 k;exact ⟨a,vs,e,.inl h3,h4⟩ | _=>simp [listOf] at h
theorem zeo{xs:List D}{v:V}(dn:Den mg H Y (.scr xs) v):∃ a vs,v=.ref a/\SqL mg.K H a vs/\zD mg H Y xs vs:=by
 simp only [Den] at dn;obtain ⟨a,vs,e,h1,h2⟩:=dn;exact ⟨a,vs,e,h1.elim (fun ⟨o,h⟩=>.inl (.inr ⟨o,h⟩)) .inr,h2⟩
theorem uk{K:W.Frag}{d:D}{xs:List D}{v:V}(r:Rep mg H Y s)(h:zL s d=some xs)(dn:Den mg H Y d v)(hK:mg.K=K:=by rfl):∃ a vs,v=.ref a/\(SqL K H a vs\/SqT K H a vs)/\zD mg H Y xs vs:=by cases d with
 | tup ys=>
  simp only [zL,Option.some.injEq] at h;subst h;simp only [Den] at dn;obtain ⟨a,vs,e,h1,h2⟩:=dn;exact ⟨a,vs,e,.inr (.inl (.inl h1)),h2⟩ | lst ys=>
  obtain ⟨a,vs,e,h1,h2⟩:=zT (d:=.lst ys) r h dn;exact ⟨a,vs,e,.inl (.inl h1),h2⟩ | scr ys=>
  simp only [zL,Option.some.injEq] at h;subst h;subst hK;obtain ⟨a,vs,e,h1,h2⟩:=zeo dn;exact ⟨a,vs,e,.inl h1,h2⟩ | loc l=>
  obtain ⟨a,vs,e,h1,h2⟩:=zT (d:=.loc l) r h dn;exact ⟨a,vs,e,.inl (.inl h1),h2⟩ | _=>simp [zL] at h
theorem jG{K:W.Frag}{xs:List D}{v:V}(dn:Den mg H Y (.tup xs) v):∃ a vs,v=.ref a/\SqT K H a vs/\zD mg H Y xs vs:=by
 simp only [Den] at dn;obtain ⟨a,vs,e,h1,h2⟩:=dn;exact ⟨a,vs,e,.inl (.inl h1),h2⟩
end
def cap:Nat:=100000
theorem vJ{n:Nat}(h:n<=cap):n<=sizeLine:=Nat.le_trans h (by decide)
theorem ziq{n:Nat}(h:n<cap):n<sizeLine:=Nat.lt_of_lt_of_le h (by decide)
def BIG:Nat:=2 ^ 4096
def xG:D->D->Sto->R D
 | .int i,.int j,s=>.ok (.int (i+j)) s | .tup a,.tup b,s=>if a.length+b.length<=cap then .ok (.tup (a++b)) s else .no | x,y,s=>match listOf s x,listOf s y with
  | some a,some b=>if a.length+b.length<=cap then .ok (.lst (a++b)) s else .no | _,_=>.no
section
variable {X:Cx}{E:XK}
theorem ye{mg:Gm}{H:Hp}{Y:List Addr}{i:Int}{v:V}(h:Den mg H Y (.int i) v):v=.int i:=by simpa [Den] using h
theorem jS{mg:Gm}{H:Hp}{Y:List Addr}{i:Bool}{v:V}(h:Den mg H Y (.bl i) v):v=.bl i:=by simpa [Den] using h
theorem vP{mg:Gm}{H:Hp}{Y:List Addr}{i:Str}{v:V}(h:Den mg H Y (.str i) v):v=.str i:=by simpa [Den] using h
theorem yA{mg:Gm}{H:Hp}{Y:List Addr}{i:Int}:Den mg H Y (.int i) (.int i):=by simp [Den]
theorem um{mg:Gm}{H:Hp}{Y:List Addr}{i:Bool}:Den mg H Y (.bl i) (.bl i):=by simp [Den]
theorem z08{mg:Gm}{H:Hp}{Y:List Addr}{s:Sto}{xs:List D}{vs:List V}{Q:VK}(r:Rep mg H Y s)(h:okR mg E H Y (Den mg) (.ok (.lst xs) s) Q)(hd:zD mg H Y xs vs):∀ p,H p=none->zc6 Q (.ref p) (upd H p (.lst vs)):=fun p hp=>by
 refine ⟨p,vs,rfl,yg,fun o=>?_⟩;rw [zfI];have stp:=xZ.lay (o:=.frz o (.lst vs)) r hp (by intro _ z;cases z);refine h _ _ _ stp ?_;simp only [Den];exact ⟨p,o,vs,rfl,yg,hd.mono stp⟩
theorem z0O{mg:Gm}{H:Hp}{Y:List Addr}{s:Sto}{xs:List D}{vs:List V}{Q:VK}(r:Rep mg H Y s)(h:okR mg E H Y (Den mg) (.ok (.tup xs) s) Q)(hd:zD mg H Y xs vs):∀ p,H p=none->Q (.ref p) (upd H p (.tup vs)):=fun p hp=>by
 have stp:=xZ.lay (o:=.tup vs) r hp (by intro _ z;cases z);refine h _ _ _ stp ?_;simp only [Den];exact ⟨p,vs,rfl,yg,hd.mono stp⟩
theorem xh:∃ r,OpR X (binaryOp .Add) r/\OpF X E r xG:=by
 refine ⟨_,zgz.or ((zdq).or ((zf7).or (zal.freeze))),?_⟩;intro H Y s d1 d2 v1 v2 Q r h1 h2 h;have lists:∀ a b,listOf s d1=some a->listOf s d2=some b->okR (gm X) E H Y (Den (gm X)) (if a.length+b.length<=cap then R.ok (D.lst (a++b)) s else .no) Q-> ∃ l b xs zs,v1=.ref l/\v2=.ref b/\Rd H l (.lst xs)/\Rd H b (.lst zs)/\xs.length+zs.length<=sizeLine/\∀ p,H p=none->zc6 Q (.ref p) (upd H p (.lst (xs++zs))):=fun a b ha hb hq=>by
  obtain ⟨l,vs,e,q1,q2⟩:=zT r ha h1;obtain ⟨l',vs',e',q1',q2'⟩:=zT r hb h2;split at hq
  ·rename_i hl;exact ⟨l,l',vs,vs',e,e',q1,q1',by rw [q2.length,q2'.length];exact vJ hl,z08 r hq (q2.append q2')⟩
  ·exact hq.elim
 unfold xG at h;split at h
 ·rename_i i j;cases ye h1;cases ye h2;exact .inl ⟨i,j,rfl,rfl,h.here r yA⟩
 ·rename_i a b;obtain ⟨l,vs,rfl,q1,q2⟩:=jG (K:=X.K) h1;obtain ⟨l',vs',rfl,q1',q2'⟩:=jG (K:=X.K) h2;split at h
  ·rename_i hl;cases a with
   | nil=>
    simp only [zD] at q2;subst q2;exact .inr (.inl ⟨l,l',vs',rfl,rfl,q1,q1',h.here r h2⟩) | cons x a=>
    have ne:vs≠[]:=fun z=>by have:=q2.length;rw [z] at this;simp at this
    refine .inr (.inr (.inl ⟨l,l',vs,vs',rfl,rfl,q1,q1',ne,by rw [q2.length,q2'.length];exact vJ hl,fun z=>?_,fun z=>z0O r h (q2.append q2')⟩));have eb:b=[]:=by
     have:=q2'.length;rw [z] at this;exact List.length_eq_zero_iff.mp this.symm
    subst eb;rw [List.append_nil] at h;exact h.here r h1
  ·exact h.elim
 ·split at h
  ·rename_i a b ha hb;exact .inr (.inr (.inr (lists a b ha hb h)))
  ·exact h.elim
end
def dII(g:Int->Int->R D):D->D->Sto->R D
 | .int i,.int j,s=>match g i j with | .ok d _=>.ok d s | _=>.no
 | _,_,_=>.no
def iOk(d:D):R D:=.ok d []
def zc3:D->D->Sto->R D:=dII fun i j=>iOk (.int (i-j))
def xP:D->D->Sto->R D:=dII fun i j=>if i.natAbs<BIG/\j.natAbs<BIG then iOk (.int (i*j)) else .no
def z7v:D->D->Sto->R D:=dII fun i j=>if 0<j/\j.natAbs<BIG then iOk (.int (i / j)) else .no
def zap:D->D->Sto->R D:=dII fun i j=>if 0<j then iOk (.int (i % j)) else .no
def z1N:D->D->Sto->R D:=dII fun i j=>if 0<=j/\j<=1000/\i.natAbs<1000 then iOk (.int (i ^ j.toNat)) else .no
def dLt:D->D->Sto->R D:=dII fun i j=>iOk (.bl (decide (i<j)))
def dLe:D->D->Sto->R D:=dII fun i j=>iOk (.bl (decide (i<=j)))
def dGt:D->D->Sto->R D:=dII fun i j=>iOk (.bl (decide (j<i)))
def dGe:D->D->Sto->R D:=dII fun i j=>iOk (.bl (decide (j<=i)))
section
variable {X:Cx}{E:XK}
theorem z0g{g:Int->Int->R D}{r:R2}(h:∀ i j d t H Q,g i j=.ok d t->(∀ v,(∀ H Y,Den (gm X) H Y d v)->Q v H)->r (.int i) (.int j) H Q):OpF X E r (dII g):=by
 intro H Y s d1 d2 v1 v2 Q rp h1 h2 hq;unfold dII at hq;split at hq
 ·rename_i i j;cases ye h1;cases ye h2;split at hq
  ·rename_i d t e;exact h i j d t H Q e fun v hv=>hq.here rp (hv H Y)
  ·exact hq.elim
 ·exact hq.elim
theorem zbt:∃ r,OpR X (binaryOp .Sub) r/\OpF X E r zc3:=⟨_,zhL,z0g fun i j d t H Q e q=>by
 simp only [iOk,R.ok.injEq] at e;exact ⟨i,j,rfl,rfl,q _ (by intro H Y;rw [<- e.1];exact yA)⟩⟩
theorem z8o{i:Int}(h:i.natAbs<BIG):Builtin.Int.intBits i<=2 ^ 20:=by
 have q:Builtin.Int.intBits i<=4096:=(PySem.intBits_le_iff (m:=4096)).mpr h;omega
theorem zf5:OpR X (binaryOp .Mult) (rI (fun i j=>i.natAbs<BIG/\j.natAbs<BIG) fun i j=>.int (i*j)):=opI fun _ _ _ _ _ _ _ hc q=>mul_int q (IntMulOk.of_bits (z8o hc.1) (z8o hc.2))
theorem uo:∃ r,OpR X (binaryOp .Mult) r/\OpF X E r xP:=⟨_,zf5,z0g fun i j d t H Q e q=>by
 split at e
 ·rename_i hc;simp only [iOk,R.ok.injEq] at e;exact ⟨i,j,rfl,rfl,hc,q _ (by intro H Y;rw [<- e.1];exact yA)⟩
 ·cases e⟩
theorem zc2{j:Int}(h:j.natAbs<BIG):j.natAbs.log2<9000:=by
 by_cases h0:j.natAbs=0;·rw [h0];decide +kernel
 ·have:j.natAbs.log2<4096:=(Nat.log2_lt h0).mpr h;omega
theorem zdr:OpR X (binaryOp .FloorDiv) (rI (fun _ j=>0<j/\j.natAbs<BIG) fun i j=>.int (i / j)):=opI fun i j _ _ _ _ _ hc q=>by
 refine floordiv_int (by omega) ?_ (.inl (PyProof.noPylong_of_log2 (zc2 hc.2)));rw [Int.fdiv_eq_ediv_of_nonneg _ (by omega)];exact q
theorem zdU:∃ r,OpR X (binaryOp .FloorDiv) r/\OpF X E r z7v:=⟨_,zdr,z0g fun i j d t H Q e q=>by
 split at e
 ·rename_i hc;simp only [iOk,R.ok.injEq] at e;exact ⟨i,j,rfl,rfl,hc,q _ (by intro H Y;rw [<- e.1];exact yA)⟩
 ·cases e⟩
theorem zdE:∃ r,OpR X (binaryOp .Mod) r/\OpF X E r zap:=⟨_,zhh,z0g fun i j d t H Q e q=>by
 split at e
 ·rename_i hc;simp only [iOk,R.ok.injEq] at e;exact ⟨i,j,rfl,rfl,hc,q _ (by intro H Y;rw [<- e.1];exact yA)⟩
 ·cases e⟩
theorem z4y:∃ r,OpR X (binaryOp .Pow) r/\OpF X E r z1N:=⟨_,zi8,z0g fun i j d t H Q e q=>by
 split at e
 ·rename_i hc;simp only [iOk,R.ok.injEq] at e;exact ⟨i,j,rfl,rfl,⟨hc.1,by omega,by omega⟩,q _ (by intro H Y;rw [<- e.1];exact yA)⟩
 ·cases e⟩
theorem zkA:∃ r,OpR X (compareOp .Lt) r/\OpF X E r dLt:=⟨_,zkx,z0g fun i j d t H Q e q=>by
 simp only [iOk,R.ok.injEq] at e;exact ⟨i,j,rfl,rfl,q _ (by intro H Y;rw [<- e.1];exact um)⟩⟩
theorem zgi:∃ r,OpR X (compareOp .LtE) r/\OpF X E r dLe:=⟨_,zjK,z0g fun i j d t H Q e q=>by
 simp only [iOk,R.ok.injEq] at e;exact ⟨i,j,rfl,rfl,q _ (by intro H Y;rw [<- e.1];exact um)⟩⟩
theorem zkM:∃ r,OpR X (compareOp .Gt) r/\OpF X E r dGt:=⟨_,zkv,z0g fun i j d t H Q e q=>by
 simp only [iOk,R.ok.injEq] at e;exact ⟨i,j,rfl,rfl,q _ (by intro H Y;rw [<- e.1];exact um)⟩⟩
theorem zkI:∃ r,OpR X (compareOp .GtE) r/\OpF X E r dGe:=⟨_,zjn,z0g fun i j d t H Q e q=>by
 simp only [iOk,R.ok.injEq] at e;exact ⟨i,j,rfl,rfl,q _ (by intro H Y;rw [<- e.1];exact um)⟩⟩
end
mutual
def uc:D->PyData
 | .non=>.none | .bl b=>.bool b | .int i=>.int i | .str x=>.str x | .tup xs=>.tuple (toPys xs) | .lst xs=>.list (toPys xs) | _=>.dict []
def toPys:List D->List PyData
 | []=>[] | d::ds=>uc d::toPys ds
end
def eqD(a b:D):Bool:=PyData.eqv (uc a) (uc b)
def z9X(d:D):Bool:=SeqAt.shaped (uc d)
def dEq(x y:D)(s:Sto):R D:=if z9X x=true/\z9X y=true then .ok (.bl (eqD x y)) s else .no
def dNe(x y:D)(s:Sto):R D:=if z9X x=true/\z9X y=true then .ok (.bl (!eqD x y)) s else .no
section
variable {P:Program}{w:World}{mg:Gm}{H:Hp}{Y:List Addr}{h:Heap}
mutual
theorem Den.reads(ok:HOk P w H h):∀ {d:D}{v:V}{u:Value},PyData.canLay0 (uc d)=true->Den mg H Y d v->xx v u->∃ as,Reads h u (uc d) as
 | .non,_,_,_,dn,r=>by simp only [Den] at dn;subst dn;cases r;exact ⟨_,by simpa [uc] using Reads.none⟩ | .bl b,_,_,_,dn,r=>by simp only [Den] at dn;subst dn;cases r;exact ⟨_,by simpa [uc] using Reads.bool b⟩ | .int i,_,_,_,dn,r=>by simp only [Den] at dn;subst dn;obtain ⟨t,rfl⟩:=r;exact ⟨_,by simpa [uc] using Reads.int i t⟩ | .str x,_,_,_,dn,r=>by simp only [Den] at dn;subst dn;obtain ⟨t,rfl⟩:=r;exact ⟨_,by simpa [uc] using Reads.str x t⟩ | .tup ds,_,_,c,dn,r=>by
  simp only [Den] at dn;obtain ⟨a,vs,rfl,h1,h2⟩:=dn;cases r;obtain ⟨_,its,rv,o,e,hc,_,n,hd⟩:=ok a _ h1;obtain ⟨as,q⟩:=zD.reads ok (by simpa [uc,PyData.canLay0] using c) h2 rv;rw [uc];exact ⟨as,Reads.tuple e hc hd (by simpa using q)⟩ | .lst ds,_,_,c,dn,r=>by
  simp only [Den] at dn;obtain ⟨a,o,vs,rfl,h1,h2⟩:=dn;cases r;obtain ⟨_,_,its,n,rv,e⟩:=ok a _ h1;obtain ⟨as,q⟩:=zD.reads ok (by simpa [uc,PyData.canLay0] using c) h2 rv;rw [uc];exact ⟨_,Reads.list e rfl rfl (by simpa using q)⟩ | .dct,_,_,c,_,_=>by simp [uc,PyData.canLay0] at c | .loc _,_,_,c,_,_=>by simp [uc,PyData.canLay0] at c | .fn _,_,_,c,_,_=>by simp [uc,PyData.canLay0] at c | .exc _,_,_,c,_,_=>by simp [uc,PyData.canLay0] at c
theorem zD.reads(ok:HOk P w H h):∀ {ds:List D}{vs:List V}{us:List Value},PyData.canLayAll0 (toPys ds)=true->zD mg H Y ds vs->yW vs us->∃ as,ReadsAll h us (toPys ds) as
 | [],_,_,_,dn,r=>by simp only [zD] at dn;subst dn;cases r;exact ⟨_,by simpa [toPys] using ReadsAll.nil⟩ | d::ds,_,_,c,dn,r=>by
  simp only [zD] at dn;obtain ⟨v,vs,rfl,h1,h2⟩:=dn;simp only [toPys,PyData.canLayAll0,Bool.and_eq_true] at c;cases r with | cons r1 r2=>
   obtain ⟨as,q⟩:=Den.reads ok c.1 h1 r1;obtain ⟨bs,q'⟩:=zD.reads ok c.2 h2 r2;rw [toPys];exact ⟨_,ReadsAll.cons q q'⟩
end
end
section
variable {X:Cx}{E:XK}
def zl4(mg:Gm)(neg:Bool):R2:=fun x y H Q=>∃ Y d1 d2,Den mg H Y d1 x/\Den mg H Y d2 y/\z9X d1=true/\z9X d2=true/\Q (.bl (if neg then !eqD d1 d2 else eqD d1 d2)) H
theorem zig(hu:X.A.units+64<cLine):OpR X (compareOp .Eq) (zl4 (gm X) false):=by
 intro pins s O H x y v u Q I rx ry ⟨Y,d1,d2,h1,h2,p1,p2,q⟩;obtain ⟨as,ra⟩:=Den.reads I.hok (SeqAt.canLay_of_shaped p1) h1 rx;obtain ⟨bs,rb⟩:=Den.reads I.hok (SeqAt.canLay_of_shaped p2) h2 ry;exact SeqAt.compareEq_shaped ra rb p1 p2 hu ⟨.bl (eqD d1 d2),H,I,rfl,q⟩
theorem zgx(hu:X.A.units+64<cLine):OpR X (compareOp .NotEq) (zl4 (gm X) true):=by
 intro pins s O H x y v u Q I rx ry ⟨Y,d1,d2,h1,h2,p1,p2,q⟩;obtain ⟨as,ra⟩:=Den.reads I.hok (SeqAt.canLay_of_shaped p1) h1 rx;obtain ⟨bs,rb⟩:=Den.reads I.hok (SeqAt.canLay_of_shaped p2) h2 ry;exact SeqAt.compareNe_shaped ra rb p1 p2 hu ⟨.bl (!eqD d1 d2),H,I,rfl,q⟩
theorem z9O(hu:X.A.units+64<cLine):∃ r,OpR X (compareOp .Eq) r/\OpF X E r dEq:=⟨_,zig hu,fun H Y s d1 d2 v1 v2 Q r h1 h2 h=>by
 unfold dEq at h;split at h
 ·rename_i hc;exact ⟨Y,d1,d2,h1,h2,hc.1,hc.2,h.here r um⟩
 ·exact h.elim⟩
theorem zcj(hu:X.A.units+64<cLine):∃ r,OpR X (compareOp .NotEq) r/\OpF X E r dNe:=⟨_,zgx hu,fun H Y s d1 d2 v1 v2 Q r h1 h2 h=>by
 unfold dNe at h;split at h
 ·rename_i hc;exact ⟨Y,d1,d2,h1,h2,hc.1,hc.2,h.here r um⟩
 ·exact h.elim⟩
def z2k:D->Option V
 | .non=>some .non | .bl b=>some (.bl b) | .int i=>some (.int i) | .str x=>some (.str x) | _=>none
theorem z6y{mg:Gm}{H:Hp}{Y:List Addr}{d:D}{v w:V}(h:z2k d=some w)(dn:Den mg H Y d v):v=w/\z3w v=true:=by cases d<;>simp only [z2k,Option.some.injEq,reduceCtorEq] at h<;>(simp only [Den] at dn;subst dn;subst h;exact ⟨rfl,rfl⟩)
def jj:List D->Option (List V)
 | []=>some [] | d::ds=>match z2k d,jj ds with | some v,some vs=>some (v::vs) | _,_=>none
theorem z3S{mg:Gm}{H:Hp}{Y:List Addr}:∀ {ds:List D}{vs ws:List V},jj ds=some ws->zD mg H Y ds vs->vs=ws/\vs.all z3w=true
 | [],_,_,h,dn=>by simp only [jj,Option.some.injEq] at h;simp only [zD] at dn;subst dn;subst h;exact ⟨rfl,rfl⟩ | d::ds,_,_,h,dn=>by
  simp only [zD] at dn;obtain ⟨v,vs,rfl,h1,h2⟩:=dn;simp only [jj] at h;split at h
  ·rename_i w ws e1 e2;cases h;obtain ⟨a1,a2⟩:=z6y e1 h1;obtain ⟨b1,b2⟩:=z3S e2 h2;exact ⟨by rw [a1,b1],by rw [List.all_cons,a2,b2];rfl⟩
  ·cases h
def z9T(neg:Bool)(x y:D)(s:Sto):R D:=match z2k x,(zL s y).bind jj with
 | some v,some vs=>.ok (.bl (if neg then !inV v vs else inV v vs)) s | _,_=>.no
theorem zhE{neg:Bool}:OpF X E (rIn X.K neg) (z9T neg):=fun H Y s d1 d2 v1 v2 Q r h1 h2 h=>by
 unfold z9T at h;split at h
 ·rename_i v vs e1 e2;cases e3:zL s d2 with
  | none=>rw [e3] at e2;cases e2 | some xs=>
   rw [e3] at e2;obtain ⟨a,ws,rfl,q1,q2⟩:=uk (K:=X.K) r e3 h2;obtain ⟨b1,b2⟩:=z3S e2 q2;obtain ⟨a1,a2⟩:=z6y e1 h1;subst a1 b1;exact ⟨a,ws,rfl,q1,a2,b2,h.here r um⟩
 ·exact h.elim
theorem zlE:∃ r,OpR X (compareOp .In) r/\OpF X E r (z9T false):=⟨_,zab,zhE⟩
def dIs:D->D->Sto->R D
 | .bl a,.bl b,s=>.ok (.bl (a==b)) s | .non,.non,s=>.ok (.bl true) s | .bl _,.non,s=>.ok (.bl false) s | .int _,.non,s=>.ok (.bl false) s | .str _,.non,s=>.ok (.bl false) s | .tup _,.non,s=>.ok (.bl false) s | .lst _,.non,s=>.ok (.bl false) s | _,_,_=>.no
def dIx(x y:D)(s:Sto):R D:=match y,zL s x with
 | .int i,some xs=>match atI xs i with | some d=>.ok d s | none=>.no
 | _,_=>.no
theorem zcA{mg:Gm}{H:Hp}{Y:List Addr}{xs:List D}{vs:List V}{i:Int}{d:D}(h:zD mg H Y xs vs)(e:atI xs i=some d):∃ v,atI vs i=some v/\Den mg H Y d v:=by
 unfold atI at e ⊢;rw [h.length];cases q:ixN xs.length i with
 | none=>rw [q] at e;cases e | some j=>
  rw [q] at e;exact h.get e
theorem zm1:∃ r,IxR X r/\OpF X E r dIx:=⟨_,zfi.or zhP,fun H Y s d1 d2 v1 v2 Q r h1 h2 h=>by
 unfold dIx at h;split at h
 ·rename_i i xs e;split at h
  ·rename_i d e2;cases ye h2;obtain ⟨a,vs,rfl,q1,q2⟩:=uk (K:=X.K) r e h1;obtain ⟨v,e3,e4⟩:=zcA q2 e2;rcases q1 with q1 | q1;·exact .inl ⟨a,vs,i,v,rfl,rfl,q1,e3,h.here r e4⟩
   ·exact .inr ⟨a,vs,i,v,rfl,rfl,q1,e3,h.here r e4⟩
  ·exact h.elim
 ·exact h.elim⟩
end
section
variable {X:Cx}{E:XK}{e a b c:Expr}{es:List Expr}{pos:Pos}
theorem zH{op:Operator}{fo:D->D->Sto->R D}{fa fb:FE}(ho:∃ r,OpR X (binaryOp op) r/\OpF X E r fo)(ha:RE X E a fa)(hb:RE X E b fb):RE X E (.BinOp a op b pos) (eOp fo fa fb):=let ⟨_,h⟩:=ho;zlo h ha hb
theorem z6W{op:CmpOp}{fo:D->D->Sto->R D}{fa fb:FE}(ho:∃ r,OpR X (compareOp op) r/\OpF X E r fo)(ha:RE X E a fa)(hb:RE X E b fb)(hm:behindInMarks op b=false:=by first | exact zdH _ | rfl):RE X E (.Compare a [op] [b] pos) (eOp fo fa fb):=let ⟨_,h⟩:=ho;zja h ha hb hm
def tOf(f:FE):FT:=fun Z s=>(f Z s).bind fun d s1=>match d with | .bl k=>.ok k s1 | _=>.no
theorem z4P{f:FE}{O:L2.St}{H:Hp}{Q:Bool->Hp->Prop}(h:tT (gm X) E (tOf f) O H Q):zf4 (tE (gm X) E f) O H Q:=by
 obtain ⟨Y,Z,s,r,en,h⟩:=h;refine yr (k:=fun Z d s1=>match d with | .bl k=>.ok k s1 | _=>.no) r en h _ fun v H1 Y1 s1 d r1 en1 dn stp h1=>?_;cases d with
 | bl k=>
  cases jS dn;exact ⟨k,rfl,h1.here (b:=k) r1 rfl⟩ | _=>exact h1.elim
theorem xo{op:CmpOp}{fo:D->D->Sto->R D}{fa fb:FE}(ho:∃ r,OpR X (compareOp op) r/\OpF X E r fo)(ha:RE X E a fa)(hb:RE X E b fb)(hm:behindInMarks op b=false:=by first | exact zdH _ | rfl):RT X E (.Compare a [op] [b] pos) (tOf (eOp fo fa fb)):=by
 obtain ⟨r,h1,h2⟩:=ho;exact z8N (zfn h1 ha hb hm) fun O H Q h=>by
  have q:=z4P h;exact z5Q h2 q
def z2B(fo fo':D->D->Sto->R D)(fa fb fc:FE):FE:=fun Z s=>(fa Z s).bind fun x s1=>(fb Z s1).bind fun y s2=>(fo x y s2).bind fun z s3=>match z with
 | .bl true=>(fc Z s3).bind fun w s4=>fo' y w s4 | .bl false=>.ok (.bl false) s3 | _=>.no
theorem z6L{r r':R2}{fo fo':D->D->Sto->R D}{fa fb fc:FE}(ho:OpF X E r fo)(ho':OpF X E r' fo'){O:L2.St}{H:Hp}{Q:VK}(h:tE (gm X) E (z2B fo fo' fa fb fc) O H Q):za2 r r' (tE (gm X) E fa) (tE (gm X) E fb) (tE (gm X) E fc) O H Q:=by
 obtain ⟨Y,Z,s,rp,en,h⟩:=h;refine yr (k:=fun Z x s1=>(fb Z s1).bind fun y s2=>(fo x y s2).bind fun z s3=>match z with
  | .bl true=>(fc Z s3).bind fun w s4=>fo' y w s4 | .bl false=>.ok (.bl false) s3 | _=>.no) rp en h _ fun v H1 Y1 s1 d r1 en1 dn stp h1=>?_;refine yr (k:=fun Z y s2=>(fo d y s2).bind fun z s3=>match z with
  | .bl true=>(fc Z s3).bind fun w s4=>fo' y w s4 | .bl false=>.ok (.bl false) s3 | _=>.no) r1 en1 h1 _ fun v2 H2 Y2 s2 d2 r2 en2 dn2 stp2 h2=>?_;refine ho H2 Y2 s2 d d2 v v2 _ r2 (dn.mono stp2) dn2 ((okR.bind (Dn:=Den (gm X)) h2).imp fun v3 H3 ⟨Y3,s3,d3,stp3,dn3,h3⟩=>?_);cases d3 with
 | bl k=>
  cases jS dn3;refine ⟨k,rfl,?_⟩;cases k with
  | true=>
   rw [if_pos rfl];refine yr (k:=fun Z w s4=>fo' d2 w s4) stp3.rep (en2.mono stp3) h3 _ fun v4 H4 Y4 s4 d4 r4 en4 dn4 stp4 h4=>?_;exact ho' H4 Y4 s4 d2 d4 v2 v4 Q r4 ((dn2.mono stp3).mono stp4) dn4 h4 | false=>
   rw [if_neg (by decide)];exact okR.here (b:=V.bl false) h3 stp3.rep um
 | _=>exact h3.elim
theorem zfR{op op':CmpOp}{fo fo':D->D->Sto->R D}{fa fb fc:FE}(ho:∃ r,OpR X (compareOp op) r/\OpF X E r fo)(ho':∃ r,OpR X (compareOp op') r/\OpF X E r fo')(ha:RE X E a fa)(hb:RE X E b fb)(hc:RE X E c fc) (hm:lastMarks [op,op'] [b,c]=false:=by with_unfolding_all rfl):RE X E (.Compare a [op,op'] [b,c] pos) (z2B fo fo' fa fb fc):=by
 obtain ⟨r,h1,h2⟩:=ho;obtain ⟨r',h1',h2'⟩:=ho';exact zV (zcp h1 h1' ha hb hc hm) fun O H Q h=>z6L h2 h2' h
def zel(fa fb:FE):FE:=fun Z s=>(fa Z s).bind fun x s1=>match x with | .bl true=>fb Z s1 | .bl false=>.ok (.bl false) s1 | _=>.no
def eOr(fa fb:FE):FE:=fun Z s=>(fa Z s).bind fun x s1=>match x with | .bl false=>fb Z s1 | .bl true=>.ok (.bl true) s1 | _=>.no
def ziS(fa:FE):FE:=fun Z s=>(fa Z s).bind fun x s1=>match x with | .bl k=>.ok (.bl (!k)) s1 | _=>.no
variable {rest:List Expr}
theorem zao{op:BoolOp}{f:FE}(h:RE X E a f):RE X E (.BoolOp op [a] pos) f:=zic h
theorem zbi{fa fb:FE}(ha:RE X E a fa)(hb:RE X E (.BoolOp .And (b::rest) pos) fb):RE X E (.BoolOp .And (a::b::rest) pos) (zel fa fb):= zV (zik ha hb) fun O H Q ⟨Y,Z,s,r,en,h⟩=>by
  refine yr (k:=fun Z x s1=>match x with | .bl true=>fb Z s1 | .bl false=>.ok (.bl false) s1 | _=>.no) r en h _ fun v H1 Y1 s1 d r1 en1 dn stp h1=>?_;cases d with
  | bl k=>
   cases jS dn;refine ⟨k,rfl,?_⟩;cases k with
   | true=>rw [if_pos rfl];exact ⟨Y1,Z,s1,r1,en1,h1⟩ | false=>rw [if_neg (by decide)];exact okR.here (b:=V.bl false) h1 r1 um
  | _=>exact h1.elim
theorem zkl{fa:FE}(ha:RE X E a fa):RE X E (.UnaryOp .Not a pos) (ziS fa):= zV (zgV ha) fun O H Q ⟨Y,Z,s,r,en,h⟩=>by
  refine yr (k:=fun Z x s1=>match x with | .bl k=>R.ok (D.bl (!k)) s1 | _=>.no) r en h _ fun v H1 Y1 s1 d r1 en1 dn stp h1=>?_;cases d with
  | bl k=>
   cases jS dn;exact ⟨k,rfl,okR.here (b:=V.bl (!k)) h1 r1 um⟩ | _=>exact h1.elim
def zlA(fa fb:FT):FT:=fun Z s=>(fa Z s).bind fun x s1=>if x=true then fb Z s1 else .ok false s1
def fOr(fa fb:FT):FT:=fun Z s=>(fa Z s).bind fun x s1=>if x=true then .ok true s1 else fb Z s1
def z3d(fa:FT):FT:=fun Z s=>(fa Z s).bind fun x s1=>.ok (!x) s1
def RW(X:Cx)(E:XK)(e:Expr)(f:FT):Prop:=PW X e (tT (gm X) E f)
theorem RW.rt{f:FT}(h:RW X E e f):RT X E e f:=PW.pt h
theorem zgp{t t':TT}(h:PW X e t)(i:∀ O H Q,t' O H Q->t O H Q):PW X e t':=fun wh pins s O H Q I q=>h wh pins s O H Q I (i O H Q q)
theorem zbX{f:FT}(h:RT X E a f):RW X E (.BoolOp .Or [a] pos) f:=zh5 h
theorem ziD{fa fb:FT}(ha:RT X E a fa)(hb:RW X E (.BoolOp .Or (b::rest) pos) fb):RW X E (.BoolOp .Or (a::b::rest) pos) (fOr fa fb):= zgp (zjk ha hb) fun O H Q ⟨Y,Z,s,r,en,h⟩=>by
  refine z5m (k:=fun Z x s1=>if x=true then .ok true s1 else fb Z s1) r en h _ fun v H1 Y1 s1 r1 en1 stp h1=>?_;cases v with
  | false=>rw [if_neg (by decide)] at h1 ⊢;exact ⟨Y1,Z,s1,r1,en1,h1⟩ | true=>rw [if_pos rfl] at h1 ⊢;exact h1.here r1 rfl
theorem kB{fa:FT}(ha:RT X E a fa):RT X E (.UnaryOp .Not a pos) (z3d fa):= z8N (zgs ha) fun O H Q ⟨Y,Z,s,r,en,h⟩=>z5m (k:=fun Z x s1=>.ok (!x) s1) r en h _ fun v H1 Y1 s1 r1 en1 stp h1=>h1.here r1 rfl
theorem kL{f:FE}(h:RE X E a f)(he:∀ whole,isTrue a X.env whole=(do let v <- whole;standAt a.pos;holding [v] (truthy v)):=by intro _;rfl):RT X E a (tOf f):= z8N (ziF h he) fun O H Q h=>z4P h
def eIf(ft:FT)(fa fb:FE):FE:=fun Z s=>(ft Z s).bind fun x s1=>if x=true then fa Z s1 else fb Z s1
theorem ziX{ft:FT}{fa fb:FE}(hc:RT X E c ft)(ha:RE X E a fa)(hb:RE X E b fb):RE X E (.IfExp c a b pos) (eIf ft fa fb):= zV (zcf hc ha hb) fun O H Q ⟨Y,Z,s,r,en,h⟩=>z5m (k:=fun Z x s1=>if x=true then fa Z s1 else fb Z s1) r en h _ fun v H1 Y1 s1 r1 en1 stp h1=>by cases v with
  | true=>rw [if_pos rfl] at h1 ⊢;exact ⟨Y1,Z,s1,r1,en1,h1⟩ | false=>rw [if_neg (by decide)] at h1 ⊢;exact ⟨Y1,Z,s1,r1,en1,h1⟩
theorem jl {fa fb:FE} (ha:RE X E a fa) (hb:RE X E b fb) (hs:z5p b:=by intro _ _;rfl):RE X E (.Subscript a b pos) (eOp dIx fa fb):=by
 obtain ⟨r,h1,h2⟩:=zm1 (X:=X) (E:=E);exact zV (zfo h1 ha hb hs) fun O H Q h=>z5Q h2 h
def zj:FA:=fun _ s=>.ok [] s
def za(fa:FE)(fr:FA):FA:=fun Z s=>(fa Z s).bind fun x s1=>(fr Z s1).bind fun xs s2=>.ok (x::xs) s2
theorem zd:RA X E [] zj:=ze0 kI fun O H Q ⟨Y,Z,s,r,en,h⟩=>h.here r zD.nil
theorem vE{fa:FE}{fr:FA}(ha:RE X E e fa)(hr:RA X E es fr)(hs:starEach (e::es) X.env=(false,eval e X.env)::starEach es X.env:=by rfl):RA X E (e::es) (za fa fr):= ze0 (va ha hr hs) fun O H Q ⟨Y,Z,s,r,en,h⟩=>by
  refine yr (k:=fun Z x s1=>(fr Z s1).bind fun xs s2=>.ok (x::xs) s2) r en h _ fun v H1 Y1 s1 d r1 en1 dn stp h1=>?_;refine vZ (k:=fun Z xs s2=>.ok (d::xs) s2) r1 en1 h1 _ fun vs H2 Y2 s2 ds r2 en2 dn2 stp2 h2=>?_;exact h2.here r2 (zD.cons (dn.mono stp2) dn2)
def wT(f:FA):FE:=fun Z s=>(f Z s).bind fun xs s1=>if xs.length<=cap then .ok (.tup xs) s1 else .no
theorem ww{f:FA}{x1:Nat}(h:RA X E es f):RE X E (.Tuple es x1 pos) (wT f):= zV (ziw h) fun O H Q ⟨Y,Z,s,r,en,h⟩=>by
  refine vZ (k:=fun Z xs s1=>if xs.length<=cap then R.ok (D.tup xs) s1 else .no) r en h _ fun vs H2 Y2 s2 ds r2 en2 dn2 stp2 h2=>?_;split at h2
  ·rename_i hl;exact ⟨by rw [dn2.length];exact vJ hl,z0O r2 h2 dn2⟩
  ·exact h2.elim
def vB(f:FA):FE:=fun Z s=>(f Z s).bind fun xs s1=>if xs.length<=cap then .ok (.lst xs) s1 else .no
theorem wd{f:FA}(h:RA X E es f):RE X E (.List es pos) (vB f):= zV (ze1 h).freeze fun O H Q ⟨Y,Z,s,r,en,h⟩=>by
  refine vZ (k:=fun Z xs s1=>if xs.length<=cap then R.ok (D.lst xs) s1 else .no) r en h _ fun vs H2 Y2 s2 ds r2 en2 dn2 stp2 h2=>?_;split at h2
  ·rename_i hl;exact ⟨by rw [dn2.length];exact vJ hl,z08 r2 h2 dn2⟩
  ·exact h2.elim
def z9V(f:FA):FE:=fun Z s=>(f Z s).bind fun xs s1=>if xs.length<=cap/\D.flat.flats xs=true then .ok (.loc s1.length) (s1++[xs]) else .no
theorem zav{mg:Gm}{H:Hp}{Y:List Addr}{s:Sto}{xs:List D}{vs:List V}{Q:VK}(r:Rep mg H Y s)(h:okR mg E H Y (Den mg) (.ok (.loc s.length) (s++[xs])) Q)(hf:D.flat.flats xs=true)(hd:zD mg H Y xs vs):∀ p,H p=none->Q (.ref p) (upd H p (.lst vs)):=fun p hp=>by
 refine h _ _ _ (xZ.layL r hp hd hf) ?_;simp only [Den];exact ⟨p,rfl,by rw [<- r.len];simp,vs,yg⟩
theorem z9H{f:FA}(h:RA X E es f):RE X E (.List es pos) (z9V f):= zV (ze1 h) fun O H Q ⟨Y,Z,s,r,en,h⟩=>by
  refine vZ (k:=fun Z xs s1=>if xs.length<=cap/\D.flat.flats xs=true then R.ok (D.loc s1.length) (s1++[xs]) else .no) r en h _ fun vs H2 Y2 s2 ds r2 en2 dn2 stp2 h2=>?_;split at h2
  ·rename_i hl;exact ⟨by rw [dn2.length];exact vJ hl.1,zav r2 h2 hl.2 dn2⟩
  ·exact h2.elim
def kA(X:Cx)(E:XK)(r:List V->Hp->VK->Prop)(g:List D->Sto->R D):Prop:= ∀ H Y s ds vs (Q:VK),Rep (gm X) H Y s->zD (gm X) H Y ds vs->okR (gm X) E H Y (Den (gm X)) (g ds s) Q->r vs H Q
def ze(g:List D->Sto->R D)(f:FA):FE:=fun Z s=>(f Z s).bind fun xs s1=>g xs s1
theorem zN {x:Str} {p:Pos} {id:String} {g:List D->Sto->R D} {f:FA} (hc:∃ r,xz X (.builtin id) r/\kA X E r g) (hg:Gl X x) (hm:X.mg x=none) (hv:bootBuiltins x=some (.builtin id)) (ha:RA X E (e::es) f) (hn:x≠"__name__":=by decide) (hdb:(x==("__debug__":Str))=false:=by decide) (he:starEach (e::es) X.env=(false,eval e X.env)::starEach es X.env:=by rfl) (hpl:(backTo pos (starEach es X.env)).any (·.1)=false:=by rfl):RE X E (.Call (.Name x p) (e::es) [] pos) (ze g f):=by
 obtain ⟨r,h1,h2⟩:=hc;exact zV (z1J h1 hg hm hv ha hn hdb he hpl) fun O H Q ⟨Y,Z,s,r,en,h⟩=> vZ (k:=fun Z xs s1=>g xs s1) r en h _ fun vs H2 Y2 s2 ds r2 en2 dn2 stp2 h3=>h2 H2 Y2 s2 ds vs Q r2 dn2 h3
theorem xT {x:Str} {p:Pos} {T:String} {g:List D->Sto->R D} {f:FA} (hc:∃ r,xz X (.type T) r/\kA X E r g) (hg:Gl X x) (hm:X.mg x=none) (hv:bootBuiltins x=some (.type T)) (ha:RA X E (e::es) f) (hn:x≠"__name__":=by decide) (hdb:(x==("__debug__":Str))=false:=by decide) (he:starEach (e::es) X.env=(false,eval e X.env)::starEach es X.env:=by rfl) (hpl:(backTo pos (starEach es X.env)).any (·.1)=false:=by rfl):RE X E (.Call (.Name x p) (e::es) [] pos) (ze g f):=by
 obtain ⟨r,h1,h2⟩:=hc;exact zV (zbD h1 hg hm hv ha hn hdb he hpl) fun O H Q ⟨Y,Z,s,r,en,h⟩=> vZ (k:=fun Z xs s1=>g xs s1) r en h _ fun vs H2 Y2 s2 ds r2 en2 dn2 stp2 h3=>h2 H2 Y2 s2 ds vs Q r2 dn2 h3
theorem z1q{mg:Gm}{H:Hp}{Y:List Addr}{d:D}{vs:List V}(h:zD mg H Y [d] vs):∃ v,vs=[v]/\Den mg H Y d v:=by
 simp only [zD] at h;obtain ⟨v,r,rfl,h1,rfl⟩:=h;exact ⟨v,rfl,h1⟩
theorem z60{mg:Gm}{H:Hp}{Y:List Addr}{d d':D}{vs:List V}(h:zD mg H Y [d,d'] vs):∃ v v',vs=[v,v']/\Den mg H Y d v/\Den mg H Y d' v':=by
 simp only [zD] at h;obtain ⟨v,r,rfl,h1,v',r',rfl,h2,rfl⟩:=h;exact ⟨v,v',rfl,h1,h2⟩
def xK:List D->Sto->R D
 | [d],s=>match zL s d with | some xs=>.ok (.int xs.length) s | none=>.no
 | _,_=>.no
theorem ju:∃ r,xz X (.builtin "len") r/\kA X E r xK:=⟨_,z5M,fun H Y s ds vs Q r hd h=>by
 unfold xK at h;split at h
 ·split at h
  ·rename_i d xs e;obtain ⟨v,rfl,dn⟩:=z1q hd;obtain ⟨a,ws,rfl,q1,q2⟩:=uk (K:=X.K) r e dn;exact ⟨a,ws,rfl,q1,by rw [q2.length];exact h.here r yA⟩
  ·exact h.elim
 ·exact h.elim⟩
def yR:List D->Sto->R D
 | [d],s=>match zL s d with | some xs=>.ok (.tup xs) s | none=>.no
 | _,_=>.no
theorem wC:∃ r,xz X (.type "tuple") r/\kA X E r yR:=⟨_,z4Z,fun H Y s ds vs Q r hd h=>by match ds,hd,h with
 | [],_,h=>exact h.elim | _::_::_,_,h=>exact h.elim | [d],hd,h=>
  obtain ⟨v,rfl,dn⟩:=z1q hd;simp only [yR] at h;cases e:zL s d with
  | none=>rw [e] at h;exact h.elim | some xs=>
   rw [e] at h;cases d with
   | tup ys=>
    simp only [zL,Option.some.injEq] at e;subst e;obtain ⟨a,ws,rfl,q1,q2⟩:=jG (K:=X.K) dn;exact ⟨a,ws,rfl,.inr ⟨q1,h.here r dn⟩⟩ | lst ys=>
    obtain ⟨a,ws,rfl,q1,q2⟩:=zT (d:=.lst ys) r e dn;exact ⟨a,ws,rfl,.inl ⟨.inl q1,z0O r h q2⟩⟩ | loc l=>
    obtain ⟨a,ws,rfl,q1,q2⟩:=zT (d:=.loc l) r e dn;exact ⟨a,ws,rfl,.inl ⟨.inl q1,z0O r h q2⟩⟩ | scr ys=>
    simp only [zL,Option.some.injEq] at e;subst e;obtain ⟨a,ws,rfl,q1,q2⟩:=zeo dn;exact ⟨a,ws,rfl,.inl ⟨q1,z0O r h q2⟩⟩ | _=>simp [zL] at e⟩
def z9r:List D->Sto->R D
 | [d],s=>match zL s d with | some xs=>.ok (.lst xs) s | none=>.no
 | _,_=>.no
theorem zgA:∃ r,xz X (.type "list") r/\kA X E r z9r:=⟨_,z5y.freeze,fun H Y s ds vs Q r hd h=>by
 unfold z9r at h;split at h
 ·split at h
  ·rename_i d xs e;obtain ⟨v,rfl,dn⟩:=z1q hd;obtain ⟨a,ws,rfl,q1,q2⟩:=uk (K:=X.K) r e dn;exact ⟨a,ws,rfl,q1,z08 r h q2⟩
  ·exact h.elim
 ·exact h.elim⟩
def zcL:List D->Sto->R D
 | [.int i,.int j],s=>.ok (.int (if j > i then j else i)) s | _,_=>.no
def z7P:List D->Sto->R D
 | [.int i,.int j],s=>.ok (.int (if j<i then j else i)) s | _,_=>.no
theorem zhN(hc:X.calm=true):∃ r,xz X (.builtin "max") r/\kA X E r zcL:=⟨_,zaF hc,fun H Y s ds vs Q r hd h=>by
 unfold zcL at h;split at h
 ·rename_i i j;obtain ⟨v,v',rfl,d1,d2⟩:=z60 hd;cases ye d1;cases ye d2;exact ⟨i,j,rfl,h.here r yA⟩
 ·exact h.elim⟩
theorem zej(hc:X.calm=true):∃ r,xz X (.builtin "min") r/\kA X E r z7P:=⟨_,zbK hc,fun H Y s ds vs Q r hd h=>by
 unfold z7P at h;split at h
 ·rename_i i j;obtain ⟨v,v',rfl,d1,d2⟩:=z60 hd;cases ye d1;cases ye d2;exact ⟨i,j,rfl,h.here r yA⟩
 ·exact h.elim⟩
abbrev FO:=Ev->Sto->R (Option Int)
def oD(_:Hp)(_:List Addr)(a b:Option Int):Prop:=a=b
def tO(mg:Gm)(E:XK)(f:FO):TO:=fun O H Q=>∃ Y Z s,Rep mg H Y s/\uC mg H Y Z O/\okR mg E H Y oD (f Z s) Q
def RO(X:Cx)(E:XK)(e:Option Expr)(f:FO):Prop:=PO X e (tO (gm X) E f)
theorem ze3{o:Option Expr}{t t':TO}(h:PO X o t)(i:∀ O H Q,t' O H Q->t O H Q):PO X o t':=fun pins s O H Q I q=>h pins s O H Q I (i O H Q q)
def zW:FO:=fun _ s=>.ok none s
def yE(f:FE):FO:=fun Z s=>(f Z s).bind fun d s1=>match d with | .int i=>.ok (some i) s1 | _=>.no
theorem wS:RO X E none zW:=ze3 z7w fun O H Q ⟨Y,Z,s,r,en,h⟩=>h.here (b:=none) r rfl
theorem xA{f:FE}(h:RE X E e f):RO X E (some e) (yE f):=ze3 (zeR h) fun O H Q ⟨Y,Z,s,r,en,h⟩=>by
 refine yr (k:=fun Z d s1=>match d with | .int i=>.ok (some i) s1 | _=>.no) r en h _ fun v H1 Y1 s1 d r1 en1 dn stp h1=>?_;cases d with
 | int i=>cases ye dn;exact ⟨i,rfl,h1.here (b:=some i) r1 rfl⟩ | _=>exact h1.elim
def cutD(xs:List D)(lo hi:Option Int):List D:=(xs.drop (HT.sIx xs.length 0 lo)).take (HT.sIx xs.length xs.length hi-HT.sIx xs.length 0 lo)
theorem z5a{mg:Gm}{H:Hp}{Y:List Addr}{xs:List D}{vs:List V}(h:zD mg H Y xs vs)(lo hi:Option Int):zD mg H Y (cutD xs lo hi) (zen vs lo hi):=by
 unfold cutD zen;rw [h.length];exact (h.drop _).take _
def dSl(x:D)(lo hi:Option Int)(s:Sto):R D:=match x with
 | .tup xs=>.ok (.tup (cutD xs lo hi)) s | x=>match listOf s x with | some xs=>.ok (.lst (cutD xs lo hi)) s | none=>.no
def eSl(fe:FE)(fl fh:FO):FE:=fun Z s=>(fe Z s).bind fun x s1=>(fl Z s1).bind fun lo s2=>(fh Z s2).bind fun hi s3=>dSl x lo hi s3
theorem z5j{α β:Type}{Dn:Hp->List Addr->α->β->Prop}{mg:Gm}{f:FO}{k:Ev->Option Int->Sto->R α}{O:L2.St}{H:Hp}{Q:β->Hp->Prop}{Y:List Addr}{Z:Ev}{s:Sto}(r:Rep mg H Y s)(en:uC mg H Y Z O) (h:okR mg E H Y Dn ((f Z s).bind (k Z)) Q)(K:Option Int->Hp->Prop) (hK:∀ v H1 Y1 s1,Rep mg H1 Y1 s1->uC mg H1 Y1 Z O->xZ mg H Y H1 Y1 s1->okR mg E H1 Y1 Dn (k Z v s1) Q->K v H1):tO mg E f O H K:= ⟨Y,Z,s,r,en,(okR.bind (Dn:=oD) h).imp fun v H1 ⟨Y1,s1,d,stp,dn,q⟩=>hK v H1 Y1 s1 stp.rep (en.mono stp) stp (by cases (show d=v from dn);exact q)⟩
theorem xm{lo hi:Option Expr}{p2:Pos}{fe:FE}{fl fh:FO}(he:RE X E e fe)(hl:RO X E lo fl)(hh:RO X E hi fh):RE X E (.Subscript e (.Slice lo hi none p2) pos) (eSl fe fl fh):= zV (z54 ((zh8.or zfS).or zfG.freeze) he hl hh) fun O H Q ⟨Y,Z,s,r,en,h⟩=>by
  refine yr (k:=fun Z x s1=>(fl Z s1).bind fun lo s2=>(fh Z s2).bind fun hi s3=>dSl x lo hi s3) r en h _ fun v H1 Y1 s1 d r1 en1 dn stp h1=>?_;refine z5j (k:=fun Z lo s2=>(fh Z s2).bind fun hi s3=>dSl d lo hi s3) r1 en1 h1 _ fun lo H2 Y2 s2 r2 en2 stp2 h2=>?_;refine z5j (k:=fun Z hi s3=>dSl d lo hi s3) r2 en2 h2 _ fun hi H3 Y3 s3 r3 en3 stp3 h3=>?_;have dn3:=(dn.mono stp2).mono stp3;cases d with
  | tup xs=>
   obtain ⟨a,vs,rfl,q1,q2⟩:=jG (K:=X.K) dn3;have h3':okR (gm X) E H3 Y3 (Den (gm X)) (.ok (.tup (cutD xs lo hi)) s3) Q:=h3;by_cases hw:HT.sIx vs.length 0 lo=0/\HT.sIx vs.length vs.length hi=vs.length
   ·refine .inl (.inr ⟨a,vs,rfl,q1,hw,?_⟩);have e:cutD xs lo hi=xs:=by
     unfold cutD;rw [<- q2.length,hw.1,hw.2];simp [q2.length]
    rw [e] at h3';exact h3'.here r3 dn3
   ·exact .inl (.inl ⟨a,vs,rfl,q1,hw,z0O r3 h3' (z5a q2 lo hi)⟩) | lst xs=>
   obtain ⟨a,vs,rfl,q1,q2⟩:=zT (d:=.lst xs) r3 rfl dn3;exact .inr ⟨a,vs,rfl,.inl q1,z08 r3 h3 (z5a q2 lo hi)⟩ | loc l=>
   simp only [dSl] at h3;split at h3
   ·rename_i xs e;obtain ⟨a,vs,rfl,q1,q2⟩:=zT (d:=.loc l) r3 e dn3;exact .inr ⟨a,vs,rfl,.inl q1,z08 r3 h3 (z5a q2 lo hi)⟩
   ·exact h3.elim | _=>exact h3.elim
end
abbrev Mir:=List D->Sto->R D
def zdw(mg:Gm)(M:Mir):Sp:=fun vs H Q E=>∃ Y s ds,Rep mg H Y s/\zD mg H Y ds vs/\okR mg E H Y (Den mg) (M ds s) Q
def Has(P:Program)(w:World)(K:W.Frag)(mg:Str->Option Value)(base:Heap)(CX:CXT)(x:Str)(n:Nat)(M:Mir):Prop:= ∃ f fd ps,z4h P w K mg base CX n f fd ps (zdw ⟨mg,K⟩ M)/\Binds K fd ps []/\W.keepIn K (.ref f)=true/\mg x=some (.ref f)
section
variable {X:Cx}{E:XK}{e a b c:Expr}{es:List Expr}{pos:Pos}{CX:CXT}
theorem zn {x:Str} {p:Pos} {n:Nat} {M:Mir} {f:FA} (F:Has X.prog X.w X.K X.mg X.base CX x n M) (hr:z0l n X.A) (hx:Passes CX X E) (hg:Gl X x) (ha:RA X E (e::es) f) (hdb:(x==("__debug__":Str))=false:=by decide) (he:starEach (e::es) X.env=(false,eval e X.env)::starEach es X.env:=by rfl) (hpl:(backTo pos (starEach es X.env)).any (·.1)=false:=by rfl):RE X E (.Call (.Name x p) (e::es) [] pos) (ze M f):=by
 obtain ⟨fa,fd,ps,F,hb,hk,hm⟩:=F;refine zV (zfw F hr hg hm hk hb .nil hx ha hdb he hpl) fun O H Q ⟨Y,Z,s,r,en,h⟩=>?_;refine vZ (k:=fun Z xs s1=>M xs s1) r en h _ fun vs H2 Y2 s2 ds r2 en2 dn2 stp2 h3=>?_;rw [List.append_nil];exact ⟨Y2,s2,ds,r2,dn2,h3⟩
def zQ(f g:FS):FS:=fun Z s=>(f Z s).bind fun fl s1=>match fl with | .nx Z'=>g Z' s1 | fl=>.ok fl s1
def wa:FS:=fun Z s=>.ok (.nx Z) s
variable {st:Stmt}{rs:List Stmt}
theorem zgZ {mg:Gm} {f g:FS} {D:zeD} {O:L2.St} {H:Hp} (h:tS mg E (zQ f g) D O H):zkR (tS mg E f) (tS mg E g) D O H:=by
 obtain ⟨Y,Z,s,r,en,h⟩:=h;refine ⟨Y,Z,s,r,en,(okR.bind (Dn:=FlD mg) h).imp fun fv H1 ⟨Y1,s1,fl,stp,dn,q⟩=>?_⟩;cases fl with
 | nx Z'=> cases fv with
  | nx O'=>exact ⟨Y1,Z',s1,stp.rep,dn,q⟩ | _=>exact (show False from dn).elim
 | rt d=> cases fv with
  | rt v=>exact okR.here (b:=FlV.rt v) (Q:=z3o D) (s:=s1) (a:=Fl.rt d) q stp.rep dn | _=>exact (show False from dn).elim
 | bk Z'=> cases fv with
  | bk v=>exact okR.here (b:=FlV.bk v) (Q:=z3o D) (s:=s1) (a:=Fl.bk Z') q stp.rep dn | _=>exact (show False from dn).elim
 | ct Z'=> cases fv with
  | ct v=>exact okR.here (b:=FlV.ct v) (Q:=z3o D) (s:=s1) (a:=Fl.ct Z') q stp.rep dn | _=>exact (show False from dn).elim
theorem yV:RSs X E [] wa:=zbe zgh fun D O H ⟨Y,Z,s,r,en,h⟩=>okR.here (b:=FlV.nx O) h r en
theorem zh{f g:FS}(h1:RS X E st f)(h2:RSs X E rs g):RSs X E (st::rs) (zQ f g):=zbe (zcw h1 h2) fun D O H h=>zgZ h
theorem zp{f:FS}(h1:RS X E st f):RSs X E [st] f:=zfN h1
def fNo:FS:=fun _ _=>.no
theorem kz:RS X E st fNo:=uN zda fun D O H ⟨_,_,_,_,_,h⟩=>h
def xE(f:FE):FS:=fun Z s=>(f Z s).bind fun _ s1=>.ok (.nx Z) s1
theorem xg {f:FE} (he:RE X E e f) (hs:swapsWith e none pos.line X.env=pure false:=by rfl):RS X E (.Expr e pos) (xE f):= uN (zfL he hs) fun D O H ⟨Y,Z,s,r,en,h⟩=>yr (k:=fun Z _ s1=>R.ok (Fl.nx Z) s1) r en h _ fun v H1 Y1 s1 d r1 en1 dn stp h1=>okR.here (b:=FlV.nx O) (Q:=z3o D) h1 r1 en1
def xR(f:FE):FS:=fun Z s=>(f Z s).bind fun d s1=>.ok (.rt d) s1
theorem yc {f:FE} (he:RE X E e f):RS X E (.Return (some e) pos) (xR f):= uN (zhU he) fun D O H ⟨Y,Z,s,r,en,h⟩=>yr (k:=fun Z d s1=>R.ok (Fl.rt d) s1) r en h _ fun v H1 Y1 s1 d r1 en1 dn stp h1=>okR.here (b:=FlV.rt v) (Q:=z3o D) h1 r1 dn
def fIf(ft:FT)(f g:FS):FS:=fun Z s=>(ft Z s).bind fun x s1=>if x=true then f Z s1 else g Z s1
theorem z0J{ft:FT}{f g:FS}{as bs:List Stmt}(hc:RT X E c ft)(ha:RSs X E as f)(hb:RSs X E bs g):RS X E (.If c as bs pos) (fIf ft f g):= uN (zki hc ha hb) fun D O H ⟨Y,Z,s,r,en,h⟩=>z5m (k:=fun Z x s1=>if x=true then f Z s1 else g Z s1) r en h _ fun v H1 Y1 s1 r1 en1 stp h1=>by cases v with
  | true=>rw [if_pos rfl] at h1 ⊢;exact ⟨Y1,Z,s1,r1,en1,h1⟩ | false=>rw [if_neg (by decide)] at h1 ⊢;exact ⟨Y1,Z,s1,r1,en1,h1⟩
abbrev FG:=D->Ev->Sto->R Ev
def tG(mg:Gm)(E:XK)(f:FG):TG:=fun v O H Q=>∃ Y Z s d,Rep mg H Y s/\uC mg H Y Z O/\Den mg H Y d v/\okR mg E H Y (uC mg) (f d Z s) (fun O' H'=>Q O' H')
def RG(X:Cx)(E:XK)(tg:Expr)(f:FG):Prop:=PG X tg (tG (gm X) E f)
theorem zeb{tg:Expr}{t t':TG}(h:PG X tg t)(i:∀ v O H Q,t' v O H Q->t v O H Q):PG X tg t':=fun pins s O H v u Q I r q=>h pins s O H v u Q I r (i v O H Q q)
def wb(i:Nat):FG:=fun d Z s=>.ok (Z.set i (some d)) s
theorem z4a(i:Nat){x:Str}(hN:X.N.Nodup)(hi:X.N[i]? = some x:=by rfl)(hx:Loc X.env.scope x:=by first | exact Or.inl rfl | exact Or.inr rfl)(hf:X.fn x=true\/X.env.scope.names.lookup x=some .local:=by first | exact .inl rfl | exact .inr rfl | assumption):RG X E (.Name x pos) (wb i):= zeb (yq hN hi hx hf) fun v O H Q ⟨Y,Z,s,d,r,en,dn,h⟩=>okR.here (b:=O.set i (some v)) h r (en.set dn i)
def uM(i j:Nat):FG:=fun d Z s=>match d with | .tup [x,y]=>.ok ((Z.set i (some x)).set j (some y)) s | _=>.no
theorem z0W(i j:Nat){x y:Str}{px py:Pos}{kt:Nat}(hc:X.calm=true)(hN:X.N.Nodup)(hi:X.N[i]? = some x:=by rfl)(hj:X.N[j]? = some y:=by rfl)(hx:Loc X.env.scope x:=by first | exact Or.inl rfl | exact Or.inr rfl)(hy:Loc X.env.scope y:=by first | exact Or.inl rfl | exact Or.inr rfl) (hf:X.fn x=true\/X.env.scope.names.lookup x=some .local:=by first | exact .inl rfl | exact .inr rfl | assumption)(hf':X.fn y=true\/X.env.scope.names.lookup y=some .local:=by first | exact .inl rfl | exact .inr rfl | assumption): RG X E (.Tuple [.Name x px,.Name y py] kt pos) (uM i j):= zeb (zdT hc (z1O (yq hN hi hx hf) (z1O (yq hN hj hy hf') zbY))) fun v O H Q ⟨Y,Z,s,d,r,en,dn,h⟩=>by
  unfold uM at h;split at h
  ·rename_i d1 d2;obtain ⟨p,vs,rfl,q1,q2⟩:=jG (K:=X.K) dn;obtain ⟨v1,v2,rfl,e1,e2⟩:=z60 q2;exact ⟨p,[v1,v2],rfl,q1,rfl,v1,[v2],rfl,v2,[],rfl,rfl,okR.here h r ((en.set e1 i).set e2 j)⟩
  ·exact h.elim
def wx(i:Nat)(f:FE):FS:=fun Z s=>(f Z s).bind fun d s1=>.ok (.nx (Z.set i (some d))) s1
theorem yQ (i:Nat) {x:Str} {pos':Pos} {f:FE} (hN:X.N.Nodup) (he:RE X E e f) (hi:X.N[i]? = some x:=by rfl) (hx:Loc X.env.scope x:=by first | exact Or.inl rfl | exact Or.inr rfl) (hs:swapsWith e (some (.Name x pos')) pos.line X.env=pure false:=by rfl) (hf:X.fn x=true\/X.env.scope.names.lookup x=some .local:=by first | exact .inl rfl | exact .inr rfl | assumption):RS X E (.Assign [.Name x pos'] e pos) (wx i f):= uN (zhb hN hi hx he hs hf) fun D O H ⟨Y,Z,s,r,en,h⟩=>yr (k:=fun Z d s1=>R.ok (Fl.nx (Z.set i (some d))) s1) r en h _ fun v H1 Y1 s1 d r1 en1 dn stp h1=>okR.here (b:=FlV.nx (O.set i (some v))) (Q:=z3o D) h1 r1 (en1.set dn i)
def zcx(f:FE)(g:FG):FS:=fun Z s=>(f Z s).bind fun d s1=>(g d Z s1).bind fun Z' s2=>.ok (.nx Z') s2
theorem z83 {tg:Expr} {f:FE} {g:FG} (he:RE X E e f) (hg:RG X E tg g) (hs:swapsWithSole [tg] e pos.line X.env=pure false:=by rfl) (hw:swappedStores [tg] e X.env=pure none:=by rfl) (h1:(assignEach [tg] X.env).map (·.2)=[assign tg X.env]:=by rfl):RS X E (.Assign [tg] e pos) (zcx f g):= uN (zea he hg hs hw h1) fun D O H ⟨Y,Z,s,r,en,h⟩=>yr (k:=fun Z d s1=>(g d Z s1).bind fun Z' s2=>R.ok (Fl.nx Z') s2) r en h _ fun v H1 Y1 s1 d r1 en1 dn stp h1=> ⟨Y1,Z,s1,d,r1,en1,dn,(okR.bind (Dn:=uC (gm X)) h1).imp fun O' H' ⟨Y2,s2,Z',stp2,en2,q⟩=>okR.here (b:=FlV.nx O') (Q:=z3o D) q stp2.rep en2⟩
def ziP(i j:Nat)(f:FA):FS:=fun Z s=>(f Z s).bind fun ds s1=>match ds with | [x,y]=>.ok (.nx ((Z.set i (some x)).set j (some y))) s1 | _=>.no
theorem zh4 (i j:Nat) {x y:Str} {px py pt:Pos} {kt k2:Nat} {pt2:Pos} {f:FA} (hc:X.calm=true) (hN:X.N.Nodup) (ha:RA X E [a,b] f) (hi:X.N[i]? = some x:=by rfl) (hj:X.N[j]? = some y:=by rfl) (hij:i≠j:=by decide) (hx:X.env.scope.names.lookup x=some .local:=by rfl) (hy:X.env.scope.names.lookup y=some .local:=by rfl) (hw:swappedStores [.Tuple [.Name x px,.Name y py] kt pt] (.Tuple [a,b] k2 pt2) X.env=pure (some [x,y]):=by rfl) (hs:swapsWithSole [.Tuple [.Name x px,.Name y py] kt pt] (.Tuple [a,b] k2 pt2) pos.line X.env=pure false:=by rfl): RS X E (.Assign [.Tuple [.Name x px,.Name y py] kt pt] (.Tuple [a,b] k2 pt2) pos) (ziP i j f):= uN (zh6 hc hN hi hj hij hx hy ha hw hs) fun D O H ⟨Y,Z,s,r,en,h⟩=>by
  refine vZ (k:=fun Z ds s1=>match ds with | [x,y]=>R.ok (Fl.nx ((Z.set i (some x)).set j (some y))) s1 | _=>.no) r en h _ fun vs H1 Y1 s1 ds r1 en1 dn stp h1=>?_;match ds,dn,h1 with
  | [],_,h1=>exact h1.elim | [_],_,h1=>exact h1.elim | _::_::_::_,_,h1=>exact h1.elim | [d1,d2],dn,h1=>
   obtain ⟨v1,v2,rfl,e1,e2⟩:=z60 dn;exact ⟨v1,v2,rfl,okR.here (b:=FlV.nx ((O.set i (some v1)).set j (some v2))) (Q:=z3o D) h1 r1 ((en1.set e1 i).set e2 j)⟩
def z5X(fo fi fv:FE):FS:=fun Z s=>(fv Z s).bind fun d s1=>(fo Z s1).bind fun o s2=>(fi Z s2).bind fun i s3=>match o,i with
 | .loc l,.int k=>match s3[l]? with
  | some xs=>match ixN xs.length k with
   | some j=>if d.flat=true then .ok (.nx Z) (s3.set l (xs.set j d)) else .no | none=>.no
  | none=>.no
 | _,_=>.no
theorem z6x:∀ {xs:List D}{d:D}{j:Nat},D.flat.flats xs=true->d.flat=true->D.flat.flats (xs.set j d)=true
 | [],_,_,_,_=>rfl | x::xs,d,0,h,hd=>by
  simp only [D.flat.flats,Bool.and_eq_true,List.set_cons_zero] at h ⊢;exact ⟨hd,h.2⟩ | x::xs,d,j+1,h,hd=>by
  simp only [D.flat.flats,Bool.and_eq_true,List.set_cons_succ] at h ⊢;exact ⟨h.1,z6x h.2 hd⟩
theorem z17:∀ {xs ys:List D},D.flat.flats xs=true->D.flat.flats ys=true->D.flat.flats (xs++ys)=true
 | [],_,_,h=>h | x::xs,ys,h,h'=>by
  simp only [D.flat.flats,Bool.and_eq_true,List.cons_append] at h ⊢;exact ⟨h.1,z17 h.2 h'⟩
theorem z8A {o i:Expr} {p1:Pos} {fo fi fv:FE} (hv:RE X E e fv) (ho:RE X E o fo) (hi:RE X E i fi) (ha:∀ v,assign (.Subscript o i p1) X.env v=(do
   let ov <- holding [v] (eval o X.env) let iv <- holding [v,ov] (eval i X.env)
   standAt p1
   holding [v,ov,iv] (setItem ov iv v)
   release [v,ov,iv] []):=by intro _;rfl) (hs:swapsWithSole [.Subscript o i p1] e pos.line X.env=pure false:=by rfl) (hw:swappedStores [.Subscript o i p1] e X.env=pure none:=by rfl) (h1:(assignEach [.Subscript o i p1] X.env).map (·.2)=[assign (.Subscript o i p1) X.env]:=by rfl):RS X E (.Assign [.Subscript o i p1] e pos) (z5X fo fi fv):= uN (zea hv (zie ho hi set_list ha) hs hw h1) fun D O H ⟨Y,Z,s,r,en,h⟩=>by
  unfold z5X at h;refine ⟨Y,Z,s,r,en,(okR.bind (Dn:=Den (gm X)) h).imp fun v H1 ⟨Y1,s1,d,stp,dn,h1⟩=>?_⟩;refine ⟨Y1,Z,s1,stp.rep,en.mono stp,(okR.bind (Dn:=Den (gm X)) h1).imp fun ov H2 ⟨Y2,s2,od,stp2,dn2,h2⟩=>?_⟩;refine ⟨Y2,Z,s2,stp2.rep,(en.mono stp).mono stp2,(okR.bind (Dn:=Den (gm X)) h2).imp fun iv H3 ⟨Y3,s3,id,stp3,dn3,h3⟩=>?_⟩;have en3:=((en.mono stp).mono stp2).mono stp3;have dv:=(dn.mono stp2).mono stp3;have dov:=dn2.mono stp3;cases od with
  | loc l=> cases id with
   | int k=>
    simp only at h3;split at h3
    ·rename_i xs ex;split at h3
     ·rename_i j ej;split at h3
      ·rename_i hf;cases ye dn3;simp only [Den] at dov;obtain ⟨a,rfl,e1,ka⟩:=dov;obtain ⟨vs,q1,q2⟩:=stp3.rep.at_ ex e1 ka;have stp4:=xZ.put (l:=l) (xs:=xs.set j d) stp3.rep e1 ka (q2.set j dv) (z6x (stp3.rep.flat xs (List.mem_of_getElem? ex)) hf);exact ⟨a,vs,k,j,rfl,rfl,q1,by rw [q2.length];exact ej,h3 (.nx O) _ _ stp4 (en3.mono stp4)⟩
      ·exact h3.elim
     ·exact h3.elim
    ·exact h3.elim | _=>exact h3.elim
  | _=>exact h3.elim
def zeF(fo fv:FE):FE:=fun Z s=>(fo Z s).bind fun o s1=>match o with
 | .loc l=>(fv Z s1).bind fun d s2=>match s2[l]? with
  | some xs=>if d.flat=true/\xs.length<cap then .ok .non (s2.set l (xs++[d])) else .no | none=>.no
 | _=>.no
theorem z1E {o:Expr} {apos:Pos} {fo fv:FE} (ho:RE X E o fo) (hv:RE X E e fv) (hbase:attributeBase o "append" X.env (eval o X.env)=eval o X.env:=by rfl) (hfew:((backTo pos (starEach [e] X.env)).all (fun x=>!x.1)&&(backToKw pos (keywordEach [] X.env)).all (fun x=>x.1.isSome) && decide ([e].length+([]:List Keyword).length+(if ([]:List Keyword).isEmpty then 0 else 1)<30))=true:=by rfl) (hline:(apos.endLine==pos.line)=true:=by rfl) (hs:starEach [e] X.env=(false,eval e X.env)::starEach [] X.env:=by rfl) (hplain:(backTo pos (starEach [] X.env)).any (·.1)=false:=by rfl): RE X E (.Call (.Attribute o "append" apos) [e] [] pos) (zeF fo fv):= zV (zex PySem.F.plainAttrs_list PySem.F.slot_list_append PySem.F.type_list_append zbr ho (va hv kI hs) hbase hfew hline hs hplain) fun O H Q ⟨Y,Z,s,r,en,h⟩=>by
  unfold zeF at h;refine ⟨Y,Z,s,r,en,(okR.bind (Dn:=Den (gm X)) h).imp fun ov H1 ⟨Y1,s1,od,stp,dn,h1⟩=>?_⟩;cases od with
  | loc l=>
   simp only at h1;have hty:tyV X.K "list" ov H1:=by
    simp only [Den] at dn;obtain ⟨a,rfl,e1,vs,e2⟩:=dn;exact .inl ⟨rfl,vs,.inl (.inl e2)⟩
   refine ⟨hty,⟨Y1,Z,s1,stp.rep,en.mono stp,(okR.bind (Dn:=Den (gm X)) h1).imp fun v H2 ⟨Y2,s2,d,stp2,dn2,h2⟩=>?_⟩⟩;split at h2
   ·rename_i xs ex;split at h2
    ·rename_i hf;have dov:=dn.mono stp2;simp only [Den] at dov;obtain ⟨a,rfl,e1,ka⟩:=dov;obtain ⟨vs,q1,q2⟩:=stp2.rep.at_ ex e1 ka;have stp3:=xZ.put (l:=l) (xs:=xs++[d]) stp2.rep e1 ka (q2.append (zD.one dn2)) (z17 (stp2.rep.flat xs (List.mem_of_getElem? ex)) (by simp [D.flat.flats,hf.1]));refine ⟨a,vs,v,rfl,rfl,q1,by rw [q2.length];exact ziq hf.2,h2 .non _ _ stp3 (by simp [Den])⟩
    ·exact h2.elim
   ·exact h2.elim | _=>exact h1.elim
end
end Dd
namespace L2
open PySem.Spec
theorem zi2{X:Cx}{tg l:Expr}{tl:TE}(hl:PE X l tl):PI X tg l (fun O H R=>tl O H fun x H1=>∃ a,x=.ref a/\(((∃ xs,SqL X.K H1 a xs)/\R (Itl X.K a) H1)\/((∃ xs,SqT X.K H1 a xs)/\R (Itt X.K a) H1))):=by
 intro pins s O H R I h;refine thn (hl pins s O H _ I h) fun v s1 ⟨x,H1,I1,r1,q1⟩=>?_;obtain ⟨a,e,q⟩:=q1;subst e;cases r1;rcases q with ⟨⟨xs,hq⟩,q⟩ | ⟨⟨xs,hq⟩,q⟩
 ·obtain ⟨its,rv,p,hz⟩:=I1.list hq;refine wpAny_pyIter_list p.isList ?_;refine ⟨s1.heap.objs.size,[s1.heap.objs.size],_,_,H1,rfl,I1.kept (t':=s1.toks) fun b o e=>Heap.get?_push_of_some _ e,zaV a _,⟨_,Heap.get?_push_size _ rfl,rfl,rfl⟩,fun b hb=>?_,q⟩;have e:b=s1.heap.objs.size:=by simpa using hb
  subst e;exact I1.fpOk (Nat.le_refl _) (I1.hok.fresh (Nat.le_refl _))
 ·obtain ⟨its,rv,p,hz⟩:=I1.tuple hq;refine wpAny_pyIter_tuple (show s1.heap.IsTuple a its.toArray from p) ?_;refine ⟨s1.heap.objs.size,[s1.heap.objs.size],_,_,H1,rfl,I1.kept (t':=s1.toks) fun b o e=>Heap.get?_push_of_some _ e,z9P a _,⟨_,Heap.get?_push_size _ rfl,rfl,rfl⟩,fun b hb=>?_,q⟩;have e:b=s1.heap.objs.size:=by simpa using hb
  subst e;exact I1.fpOk (Nat.le_refl _) (I1.hok.fresh (Nat.le_refl _))
theorem z1L.freeze{X:Cx}{pins:List (Addr×Obj)}{O:L2.St}{C:Addr}{Q:VK}{acc:Value}{s':Shared}(h:z1L X pins O C (zc6 Q) acc s'):z1L X pins O C Q acc s':=by
 obtain ⟨v,Hf,I,r,⟨a,xs,rfl,ha,q⟩,hm,f⟩:=h;obtain ⟨its,n,rv,e,_⟩:=I.lst ha;refine ⟨_,_,I.freeze ha e (by intro _ z;cases z) (by intro _ _ z;cases z) (by intro _ z;cases z) (by intro _ z;cases z),r,q _,hm,?_,f.2⟩;rw [zF (fun z=>by have:=f.1;rw [z,ha] at this;cases this)];exact f.1
theorem z81 {X:Cx} {tg iter elt:Expr} {ifs:List Expr} {scope:Scope} {pos spos py:Pos} {wi:TI} {g:TG} {ti:TT} {te:TE} {i:Nat} {y:Str} (N':List Str) (mp:List (Option Nat)) (hN:X.N.Nodup) (hy:X.N[i]? = some y) (hyl:Loc X.env.scope y) (hc:X.calm=true) (hi:PI X tg iter wi) (hg:∀ ex s H,PG (zU X N' scope ex s H) tg g) (ht:∀ ex s H,z8d (zU X N' scope ex s H) ifs ti) (he:∀ ex s H,PE (zU X N' scope ex s H) elt te) (hkd:scope.kind=.function) (hnm:∀ y∈scope.names,scope.names.lookup y.1=some y.2) (hfr:∀ y∈scope.names,y.2=.free->X.env.kindOf y.1=some .cell\/X.env.kindOf y.1=some .free) (hmp:z3L X.N scope.names N' mp=true) (hs:∀ x,foldedSetIterable iter X.env x=pure x:=by intro _;rfl) (hsw:swapsWith (.ListComp elt [⟨tg,iter,ifs,0⟩] scope pos) (some (.Name y py)) spos.line X.env=pure true:=by rfl) (hf:X.fn y=true\/X.env.scope.names.lookup y=some .local:=by first | exact .inl rfl | exact .inr rfl | assumption): PS X (.Assign [.Name y py] (.ListComp elt [⟨tg,iter,ifs,0⟩] scope pos) spos) (fun D O H=>zdt wi mp g ti te O H (zc6 fun v H'=>D.nx (O.set i (some v)) H')):=by
 intro pins s O H D I h;rw [exec_Assign_Name_used _ _ _ _ hsw];refine wpAny_bind (wpAny_standAt (wpAny_bind ?_));show wpAny _ X.A (do let _ <- comprehension (.ListComp elt [⟨tg,iter,ifs,0⟩] scope pos) scope X.env _ (newList []) false (eval iter X.env) (some (assign (.Name y py) X.env))) _ _ s;refine wpAny_bind (wpAny_mono (wpAny_comprehension_free (use:=some (assign (.Name y py) X.env)) (Q:=fun _ s'=>SP X pins D .next s') rfl hs (uV fun y hy hf=>I.ok.has _ (hfr y hy hf)) hkd (fun y hy hl=>by rw [hnm y hy,hl]) (thn (hi pins s O H _ I h) fun xv s₁ h₁=>thn h₁ fun itv s₂ h₂=>?_)) (fun _ s' hq=>wpAny_pure (wpAny_pure hq)) fun _ _ e=>e);obtain ⟨it,fp,tn,J,H2,e,I2,T,st2,f2,W,w0,turn⟩:=h₂;subst e;refine z0n (N':=N') (mp:=mp) (O:=O) (pins:=pins) (Q:=zc6 fun v H'=>D.nx (O.set i (some v)) H') (RR:=fun acc C=>compPost (model X.prog X.w) X.A X.xe (some (assign (.Name y py) X.env)) (fun _ s'=>SP X pins D .next s') acc C) hc hg ht he hkd hnm hfr hmp I2 T st2 f2 W w0 turn ?_;intro acc C s' hd;obtain ⟨v,Hf,I3,r,q,⟨m,hm⟩,f⟩:=hd.freeze;refine wpAny_assign_Name (z2s I3 hN hy hyl r (fun s'' I4 ⟨a,sb,ha⟩=>?_) hf);have hC:C≠a:=by
  rcases ha with z | z;·rw [z];exact f.2.1
  ·exact Ne.symm (f.2.2.2.2.1 y a z)
 exact ⟨m,hm.sameBut sb hC,fun h' sb'=>⟨_,Hf,jU I4 f sb',q⟩⟩
end L2
namespace Dd
open PySem.Spec L2
abbrev ItD:=List D×List (Nat×List D)
def okG(g:List (Nat×List D))(all:List D)(s:Sto):Prop:=∀ p∈g,s[p.1]? = some p.2
def zfj(mg:Gm)(H0:Hp)(Y0:List Addr)(a:ItD)(J:It):Prop:=∀ H Y s,xZ mg H0 Y0 H Y s->okG a.2 a.1 s->∀ i:Nat, (∀ d,a.1[i]? = some d->J.go i H/\∀ x H',J.yld i H x H'->∃ Y',xZ mg H Y H' Y' s/\Den mg H' Y' d x)/\(a.1.length<=i->J.stop i H)
abbrev FI:=Ev->Sto->R ItD
def tI(mg:Gm)(E:XK)(f:FI):TI:=fun O H Rr=>∃ Y Z s,Rep mg H Y s/\uC mg H Y Z O/\okR mg E H Y (zfj mg) (f Z s) Rr
def RI(X:Cx)(E:XK)(tg it:Expr)(f:FI):Prop:=PI X tg it (tI (gm X) E f)
section
variable {X:Cx}{E:XK}{e a b c tg:Expr}{es:List Expr}{pos:Pos}{CX:CXT}
theorem z8p{it:Expr}{t t':TI}(h:PI X tg it t)(i:∀ O H Q,t' O H Q->t O H Q):PI X tg it t':=fun pins s O H Q I q=>h pins s O H Q I (i O H Q q)
def yF(f:FE):FI:=fun Z s=>(f Z s).bind fun d s1=>match d with
 | .tup xs=>.ok (xs,[]) s1 | .lst xs=>.ok (xs,[]) s1 | .loc l=>match s1[l]? with | some xs=>.ok (xs,[(l,xs)]) s1 | none=>.no
 | _=>.no
theorem uU{f:FE}(h:RE X E e f):RI X E tg e (yF f):=z8p (zi2 h) fun O H Q ⟨Y,Z,s,r,en,h⟩=>by
 unfold yF at h;refine ⟨Y,Z,s,r,en,(okR.bind (Dn:=Den (gm X)) h).imp fun v H1 ⟨Y1,s1,d,stp,dn,h1⟩=>?_⟩;have lst:∀ (a:Addr)(xs:List D)(g:List (Nat×List D)),(∀ H2 Y2 s2,xZ (gm X) H1 Y1 H2 Y2 s2->okG g xs s2->∃ ws,SqL X.K H2 a ws/\zD (gm X) H2 Y2 xs ws)->zfj (gm X) H1 Y1 (xs,g) (Itl X.K a):=fun a xs g hq H2 Y2 s2 stp2 hg i=>by
  obtain ⟨ws,q1,q2⟩:=hq H2 Y2 s2 stp2 hg;refine ⟨fun d hd=>?_,fun hl=>⟨ws,q1,by rw [q2.length];exact hl⟩⟩;obtain ⟨v,e1,e2⟩:=q2.get hd;refine ⟨⟨ws,v,q1,e1⟩,fun x H' ⟨e3,y⟩=>?_⟩;subst e3;have e4:=y ws q1;rw [e1] at e4;cases e4;exact ⟨Y2,.refl stp2.rep,e2⟩
 have tup:∀ (a:Addr)(xs:List D),(∀ H2 Y2 s2,xZ (gm X) H1 Y1 H2 Y2 s2->∃ ws,SqT X.K H2 a ws/\zD (gm X) H2 Y2 xs ws)->zfj (gm X) H1 Y1 (xs,[]) (Itt X.K a):=fun a xs hq H2 Y2 s2 stp2 hg i=>by
  obtain ⟨ws,q1,q2⟩:=hq H2 Y2 s2 stp2;refine ⟨fun d hd=>?_,fun hl=>⟨ws,q1,by rw [q2.length];exact hl⟩⟩;obtain ⟨v,e1,e2⟩:=q2.get hd;refine ⟨⟨ws,v,q1,e1⟩,fun x H' ⟨e3,y⟩=>?_⟩;subst e3;have e4:=y ws q1;rw [e1] at e4;cases e4;exact ⟨Y2,.refl stp2.rep,e2⟩
 cases d with
 | tup xs=>
  have h1':okR (gm X) E H1 Y1 (zfj (gm X)) (.ok (xs,[]) s1) Q:=h1;obtain ⟨a,vs,rfl,q1,q2⟩:=jG (K:=X.K) dn;refine ⟨a,rfl,.inr ⟨⟨vs,q1⟩,h1'.here stp.rep (tup a xs fun H2 Y2 s2 stp2=>?_)⟩⟩;have dn2:=dn.mono stp2;obtain ⟨a',ws,e,q3,q4⟩:=jG (K:=X.K) dn2;cases e;exact ⟨ws,q3,q4⟩ | lst xs=>
  have h1':okR (gm X) E H1 Y1 (zfj (gm X)) (.ok (xs,[]) s1) Q:=h1;obtain ⟨a,vs,rfl,q1,q2⟩:=zT (d:=.lst xs) stp.rep rfl dn;refine ⟨a,rfl,.inl ⟨⟨vs,.inl q1⟩,h1'.here stp.rep (lst a xs [] fun H2 Y2 s2 stp2 _=>?_)⟩⟩;obtain ⟨a',ws,e,q3,q4⟩:=zT (d:=.lst xs) stp2.rep rfl (dn.mono stp2);cases e;exact ⟨ws,.inl q3,q4⟩ | loc l=>
  simp only at h1;split at h1
  ·rename_i xs ex;obtain ⟨a,vs,rfl,q1,q2⟩:=zT (d:=.loc l) stp.rep ex dn;refine ⟨a,rfl,.inl ⟨⟨vs,.inl q1⟩,h1.here stp.rep (lst a xs [(l,xs)] fun H2 Y2 s2 stp2 hg=>?_)⟩⟩;obtain ⟨a',ws,e,q3,q4⟩:=zT (d:=.loc l) stp2.rep (hg (l,xs) (by simp)) (dn.mono stp2);cases e;exact ⟨ws,.inl q3,q4⟩
  ·exact h1.elim | _=>exact h1.elim
end
section
variable {X:Cx}{E:XK}{e a b c tg:Expr}{es:List Expr}{pos:Pos}{CX:CXT}
def yP(n:Nat):List D:=(List.range n).map fun (k:Nat)=>D.int ((k:Nat):Int)
def z73(f:FA):FI:=fun Z s=>(f Z s).bind fun ds s1=>match ds with
 | [.int j]=>if -(2 ^ 62)<=j/\j<2 ^ 62 then .ok (yP j.toNat,[]) s1 else .no | _=>.no
theorem z0L{p:Pos}{f:FA}(hg:Gl X "range")(hm:X.mg "range"=none)(ha:RA X E [a] f)(hs:starEach [a] X.env=[(false,eval a X.env)]:=by rfl):RI X E tg (.Call (.Name "range" p) [a] [] pos) (z73 f):= z8p (zc0 hg hm ha hs) fun O H Q ⟨Y,Z,s,r,en,h⟩=>by
  unfold z73 at h;refine ⟨Y,Z,s,r,en,(okR.bind (Dn:=zD (gm X)) h).imp fun vs H1 ⟨Y1,s1,ds,stp,dn,h1⟩=>?_⟩;split at h1
  ·rename_i j;split at h1
   ·rename_i hj;obtain ⟨v,rfl,d1⟩:=z1q dn;cases ye d1;refine ⟨j,rfl,hj.1,hj.2,h1.here stp.rep fun H2 Y2 s2 stp2 _ i=>⟨fun d hd=>?_,fun hl=>?_⟩⟩
    ·have hi:i<j.toNat:=by
      have:=(List.getElem?_eq_some_iff.mp hd).1;simpa [yP] using this
     refine ⟨hi,fun x H' ⟨e1,e2⟩=>?_⟩;subst e1 e2;refine ⟨Y2,.refl stp2.rep,?_⟩;have e3:d=D.int i:=by
      simp only [yP,List.getElem?_map,List.getElem?_range hi,Option.map_some,Option.some.injEq] at hd;exact hd.symm
     rw [e3];simp [Den]
    ·have:(yP j.toNat).length=j.toNat:=by simp [yP]
     show j.toNat<=i;rw [<- this];exact hl
   ·exact h1.elim
  ·exact h1.elim
open Classical in
def xJ(g:List (Nat×List D))(all:List D)(body:D->Ev->Sto->R Fl):List D->Ev->Sto->R Fl
 | [],Z,s=>if okG g all s then .ok (.nx Z) s else .no | x::xs,Z,s=>if okG g all s then (body x Z s).bind fun fl s1=>match fl with
   | .nx Z'=>xJ g all body xs Z' s1 | .ct Z'=>xJ g all body xs Z' s1 | .bk Z'=>.ok (.nx Z') s1 | .rt d=>.ok (.rt d) s1 else .no
def zaU(fi:FI)(fg:FG)(fb:FS):FS:=fun Z s=>(fi Z s).bind fun it s1=>xJ it.2 it.1 (fun d Z s=>(fg d Z s).bind fun Z' s'=>fb Z' s') it.1 Z s1
theorem z7k {iter:Expr} {body:List Stmt} {fi:FI} {fg:FG} {fb:FS} (hp:PassesOwn (model X.prog X.w) X.A X.env X.xe) (hc:X.calm=true) (hi:RI X E tg iter fi) (hg:RG X E tg fg) (hb:RSs X E body fb) (hs:∀ x,foldedSetIterable iter X.env x=pure x:=by intro _;rfl):RS X E (.For tg iter body [] pos) (zaU fi fg fb):= uN (zhy hp hc hi hg hb hs) fun D O H ⟨Y,Z,s,r,en,h⟩=>by
  unfold zaU at h;refine ⟨Y,Z,s,r,en,(okR.bind (Dn:=zfj (gm X)) h).imp fun J H1 ⟨Y1,s1,it,stp,ok,h1⟩=>?_⟩;obtain ⟨items,g⟩:=it;simp only at h1;refine ⟨fun i m O H=>∃ Y Z s,xZ (gm X) H1 Y1 H Y s/\uC (gm X) H Y Z O/\m=items.length-i/\i<=items.length/\ okR (gm X) E H Y (FlD (gm X)) (xJ g items (fun d Z s=>(fg d Z s).bind fun Z' s'=>fb Z' s') (items.drop i) Z s) (z3o D), ⟨items.length,Y1,Z,s1,.refl stp.rep,en.mono stp,by simp,Nat.zero_le _,by simpa using h1⟩,?_⟩;rintro i m O H ⟨Y2,Z2,s2,stp2,en2,rfl,hil,h2⟩;by_cases hlt:i<items.length
  ·right;rw [List.drop_eq_getElem_cons hlt,xJ] at h2;split at h2
   ·rename_i hG;obtain ⟨go,yl⟩:=((ok H Y2 s2 stp2 hG i).1 items[i] (List.getElem?_eq_getElem hlt));refine ⟨go,fun O' H'=>∃ Y Z s,xZ (gm X) H1 Y1 H' Y s/\uC (gm X) H' Y Z O'/\okR (gm X) E H' Y (FlD (gm X)) (xJ g items (fun d Z s=>(fg d Z s).bind fun Z' s'=>fb Z' s') (items.drop (i+1)) Z s) (z3o D), fun O' H' ⟨Y3,Z3,s3,q1,q2,q3⟩=>⟨items.length-(i+1),by omega,Y3,Z3,s3,q1,q2,rfl,hlt,q3⟩,fun x H' y=>?_⟩;obtain ⟨Y3,stp3,dn3⟩:=yl x H' y;have h3:=okR.rebase h2 stp3;have h4:=okR.bind (Dn:=FlD (gm X)) h3;refine ⟨Y3,Z2,s2,items[i],stp3.rep,en2.mono stp3,dn3,(okR.bind (Dn:=uC (gm X)) h4).imp fun O5 H5 ⟨Y5,s5,Z5,stp5,en5,h5⟩=>?_⟩;refine ⟨Y5,Z5,s5,stp5.rep,en5,h5.imp fun fv H6 ⟨Y6,s6,fl,stp6,dn6,q6⟩=>?_⟩;have all6:xZ (gm X) H1 Y1 H6 Y6 s6:=(stp2.trans stp3).trans stp6;cases fl with
    | nx Z'=> cases fv with
     | nx O'=>exact ⟨Y6,Z',s6,all6,dn6,q6⟩ | _=>exact (show False from dn6).elim
    | ct Z'=> cases fv with
     | ct O'=>exact ⟨Y6,Z',s6,all6,dn6,q6⟩ | _=>exact (show False from dn6).elim
    | bk Z'=> cases fv with
     | bk O'=>exact okR.here (b:=FlV.nx O') (Q:=z3o D) (a:=Fl.nx Z') (s:=s6) q6 stp6.rep dn6 | _=>exact (show False from dn6).elim
    | rt d=> cases fv with
     | rt v=>exact okR.here (b:=FlV.rt v) (Q:=z3o D) (a:=Fl.rt d) (s:=s6) q6 stp6.rep dn6 | _=>exact (show False from dn6).elim
   ·exact h2.elim
  ·left;have e:i=items.length:=by omega
   subst e;rw [List.drop_length,xJ] at h2;split at h2
   ·rename_i hG;exact ⟨(ok H Y2 s2 stp2 hG _).2 (Nat.le_refl _),okR.here (b:=FlV.nx O) (Q:=z3o D) h2 stp2.rep en2⟩
   ·exact h2.elim
end
end Dd
namespace Zz
def Sit(b:Bool)(h:Heap)(it l:Addr)(k:Nat):Prop:=match b with
 | true=>h.IsListIter it l k | false=>h.IsTupleIter it l k
def Sco(b:Bool)(h:Heap)(l:Addr)(xs:Array Value):Prop:=match b with
 | true=>h.IsList l xs | false=>h.IsTuple l xs
theorem Sit.to{b:Bool}{h h':Heap}{it l:Addr}{k:Nat}(x:Sit b h it l k)(e:∀ o,h.get? it=some o->h'.get? it=some o):Sit b h' it l k:=by cases b with
 | true=>obtain ⟨o,ho,r⟩:=x;exact ⟨o,e _ ho,r⟩ | false=>obtain ⟨o,ho,r⟩:=x;exact ⟨o,e _ ho,r⟩
theorem Sco.to{b:Bool}{h h':Heap}{l:Addr}{xs:Array Value}(x:Sco b h l xs)(e:∀ o,h.get? l=some o->h'.get? l=some o):Sco b h' l xs:=by cases b with
 | true=>obtain ⟨o,ho,r⟩:=x;exact ⟨o,e _ ho,r⟩ | false=>obtain ⟨o,ho,r⟩:=x;exact ⟨o,e _ ho,r⟩
theorem Sit.lt{b:Bool}{h:Heap}{it l:Addr}{k:Nat}(x:Sit b h it l k):it<h.objs.size:=by cases b with
 | true=>obtain ⟨o,ho,r⟩:=x;exact Heap.lt_size ho | false=>obtain ⟨o,ho,r⟩:=x;exact Heap.lt_size ho
theorem Sit.ob{b:Bool}{h:Heap}{it l:Addr}{k:Nat}(x:Sit b h it l k):∃ o,h.get? it=some o/\∀ v,o.data≠.cell v:=by cases b with
 | true=>obtain ⟨o,ho,_,d⟩:=x;exact ⟨o,ho,fun v z=>by rw [d] at z;cases z⟩ | false=>obtain ⟨o,ho,_,d⟩:=x;exact ⟨o,ho,fun v z=>by rw [d] at z;cases z⟩
section
variable {P:Program}{w:World}{A:Around}{E:Value->Shared->Prop}{s:Shared}
theorem zhB{it l:Addr}{k:Nat}{xs:Array Value}{x:Value}{R:Value->Shared->Prop}(h1:s.heap.IsTupleIter it l k)(h2:s.heap.IsTuple l xs)(e:xs[k]? = some x) (q:∀ h',h'.IsTupleIter it l (k+1)->Heap.SameBut it s.heap h'->R x {s with heap:=h'}):wpAny (model P w) A (Builtin.SmallTypes.nextOf (.ref it)) R E s:=by
 obtain ⟨o,ho,hc,hd⟩:=id h1;obtain ⟨ol,hol,_,nl,hdl⟩:=h2;unfold Builtin.SmallTypes.nextOf;refine wpAny_bind (wpAny_callSpecial?_slot (name:=Str.ofString "__next__") h1.typeIs F.slot_tuple_iterator_next (wpAny_call_entry F.slot_tuple_iterator_next h1.typeIs F.entry_tuple_iterator_next ?_ (F.args_tuple_iterator_next_1 _)));show wpAny _ _ (field (.ref it) 0 >>= _) _ _ s;refine wpAny_bind (wpAny_field ho hd (x:=.ref l) rfl ?_);show wpAny _ _ (if (Value.ref l==Value.none)=true then _ else _) _ _ s;rw [if_neg (show ¬ ((Value.ref l==Value.none)=true) from Bool.false_ne_true)];show wpAny _ _ (field (.ref it) 1 >>= _) _ _ s;refine wpAny_bind (wpAny_field ho hd (x:=.int k 0) rfl ?_);show wpAny _ _ (seqItems? (.ref l) >>= _) _ _ s;refine wpAny_bind (wpAny_seqItems hol hdl ?_);simp only [Int.toNat_natCast,e];refine wpAny_bind (wpAny_setField ho hd (by simp) (wpAny_pure ⟨x,rfl,wpAny_pure (q _ ?_ (Heap.SameBut.update ..))⟩));exact ⟨_,Heap.get?_update_self _ ho (Obj.isFreed_of_fields (Obj.data_mapFields hd _)),(Obj.cls_mapFields ..).trans hc,by rw [Obj.data_mapFields hd];simp [rawInt]⟩
theorem z9p {it l:Addr} {k:Nat} {xs:Array Value} {R:Value->Shared->Prop} (hh:A.handled=none) (h1:s.heap.IsTupleIter it l k) (h2:s.heap.IsTuple l xs) (e:xs[k]? = none) (q:∀ h' e,Heap.ExtBut it s.heap h'->(∃ o,h'.get? e=some o/\o.cls=.type "StopIteration")->E (.ref e) {s with heap:=h'}):wpAny (model P w) A (Builtin.SmallTypes.nextOf (.ref it)) R E s:=by
 obtain ⟨o,ho,hc,hd⟩:=id h1;obtain ⟨ol,hol,_,nl,hdl⟩:=h2;unfold Builtin.SmallTypes.nextOf;refine wpAny_bind (wpAny_callSpecial?_slot (name:=Str.ofString "__next__") h1.typeIs F.slot_tuple_iterator_next (wpAny_call_entry F.slot_tuple_iterator_next h1.typeIs F.entry_tuple_iterator_next ?_ (F.args_tuple_iterator_next_1 _)));show wpAny _ _ (field (.ref it) 0 >>= _) _ _ s;refine wpAny_bind (wpAny_field ho hd (x:=.ref l) rfl ?_);show wpAny _ _ (if (Value.ref l==Value.none)=true then _ else _) _ _ s;rw [if_neg (show ¬ ((Value.ref l==Value.none)=true) from Bool.false_ne_true)];show wpAny _ _ (field (.ref it) 1 >>= _) _ _ s;refine wpAny_bind (wpAny_field ho hd (x:=.int k 0) rfl ?_);show wpAny _ _ (seqItems? (.ref l) >>= _) _ _ s;refine wpAny_bind (wpAny_seqItems hol hdl ?_);simp only [Int.toNat_natCast,e];refine wpAny_bind (wpAny_rule (wpAny_bind (wpAny_setField ho hd (by simp) ?_)));show wpAny _ _ (newExc (.type "StopIteration") [] >>= _) _ _ _;refine wpAny_bind ?_;simp only [newExc,newTuple];refine wpAny_bind (wpAny_newObj_type ?_ (by size_fits));refine wpAny_bind (m:=firstArgMember _ _) (wpAny_of_eq (a:=Value.none) (by first | rfl | (simp only [firstArgMember];rfl)) ?_);refine wpAny_newObj_type ?_ (by size_fits);simp only [raiseNew];refine wpAny_bind (wpAny_handled ?_);first | rw [show A.in1.handled=none from hh] | rw [hh]
 refine wpAny_bind (wpAny_pure (wpAny_throw ?_));exact q _ _ (((Heap.SameBut.update ..).extBut.push _).push _) ⟨_,Heap.get?_push_size _ rfl,rfl⟩
theorem nx{b:Bool}{it l:Addr}{k:Nat}{xs:Array Value}{x:Value}{R:Value->Shared->Prop}(h1:Sit b s.heap it l k)(h2:Sco b s.heap l xs)(e:xs[k]? = some x) (q:∀ h',Sit b h' it l (k+1)->Heap.SameBut it s.heap h'->R x {s with heap:=h'}):wpAny (model P w) A (Builtin.SmallTypes.nextOf (.ref it)) R E s:=by cases b with
 | true=>exact wpAny_nextOf_list_item h1 h2 e q | false=>exact zhB h1 h2 e q
theorem zeh {b:Bool} {it l:Addr} {k:Nat} {xs:Array Value} {R:Value->Shared->Prop} (hh:A.handled=none) (h1:Sit b s.heap it l k) (h2:Sco b s.heap l xs) (e:xs[k]? = none) (q:∀ h' e,Heap.ExtBut it s.heap h'->(∃ o,h'.get? e=some o/\o.cls=.type "StopIteration")->E (.ref e) {s with heap:=h'}):wpAny (model P w) A (Builtin.SmallTypes.nextOf (.ref it)) R E s:=by cases b with
 | true=>exact wpAny_nextOf_list_end hh h1 h2 e q | false=>exact z9p hh h1 h2 e q
theorem zE{a:Addr}{h h':Heap}(hs:Heap.SameBut a h h'){b:Addr}{o:Obj}(n:b≠a)(e:h.get? b=some o):h'.get? b=some o:=hs.extBut _ _ n e
theorem zeu {z TI TO i1 i2 l1 l2:Addr} {b1 b2:Bool} {k:Nat} {xs ys:Array Value} {x y a b:Value} {Q:Option Value->Shared->Prop} (D:ZipApart z TI TO i1 i2 l1 l2) (hz:IsZip s.heap z TI TO .none) (hTI:IsPair s.heap TI (.ref i1) (.ref i2)) (hTO:IsPair s.heap TO a b) (h1:Sit b1 s.heap i1 l1 k) (h2:Sit b2 s.heap i2 l2 k) (c1:Sco b1 s.heap l1 xs) (c2:Sco b2 s.heap l2 ys) (ex:xs[k]? = some x) (ey:ys[k]? = some y) (q:∀ h',IsZip h' z TI TO (rawInt s.heap.objs.size)->IsPair h' TO x y->Sit b1 h' i1 l1 (k+1)->Sit b2 h' i2 l2 (k+1)->IsPair h' s.heap.objs.size x y->h'.objs.size=s.heap.objs.size+1-> (∀ c o,c≠z->c≠TO->c≠i1->c≠i2->s.heap.get? c=some o->h'.get? c=some o)->Q (some (.ref s.heap.objs.size)) {s with heap:=h'}):wpAny (model P w) A (pyNext (.ref z)) Q E s:=by
 have hT:s.TypeIs (.ref z) "zip":=⟨_,hz,rfl⟩;unfold pyNext;refine wpAny_bind (wpAny_attempt (wpAny_callSpecial?_slot (name:=Str.ofString "__next__") hT F.slot_zip_next (wpAny_call_entry F.slot_zip_next hT F.entry_zip_next (Q:=fun v s'=>wpAny (model P w) A (pure (some v)) Q E s') ?_ (F.args_zip_next_1 _))));show wpAny _ _ (field (.ref z) 2 >>= _) _ _ _;refine wpAny_bind (wpAny_field hz rfl (x:=.bool false) rfl ?_);show wpAny _ _ (field (.ref z) 3 >>= _) _ _ _;refine wpAny_bind (wpAny_field hz rfl (x:=.ref TI) rfl ?_);refine wpAny_bind (wpAny_seqItems hTI rfl ?_);show wpAny _ _ (Builtin.SmallTypes.ownedTupleIsFree (.ref z) >>= _) _ _ _;refine wpAny_bind ?_;unfold Builtin.SmallTypes.ownedTupleIsFree;refine wpAny_bind (wpAny_field hz rfl (x:=.none) rfl (wpAny_pure ?_));simp only [if_true];refine wpAny_bind (wpAny_rule ?_);refine wpAny_bind (wpAny_field hz rfl (x:=.ref TO) rfl ?_);refine wpAny_bind (wpAny_setField_rec hz (by simp) fun g1 z1 s1=>?_);replace z1:IsZip g1 z TI TO .ellipsis:=z1;refine wpAny_bind ?_;simp only [List.zipIdx_cons,List.zipIdx_nil,List.forIn_cons,List.forIn_nil];refine wpAny_bind (wpAny_bind (wpAny_onRaise ?_));show wpAny _ _ (Builtin.SmallTypes.nextOf (.ref i1) >>= _) _ _ _;refine wpAny_bind (nx (h1.to fun o e=>zE s1 D.i1z e) (c1.to fun o e=>zE s1 D.l1z e) ex fun g2 t2 s2=>wpAny_pure ?_);have o2:IsPair g2 TO a b:=zE s2 D.TOi1 (zE s1 D.TOz hTO);refine wpAny_bind (wpAny_seqItems o2 rfl ?_);refine wpAny_bind (wpAny_updateSeq_pair o2 fun g3 o3 s3=>?_);replace o3:IsPair g3 TO x b:=o3;refine wpAny_bind (wpAny_letGo (wpAny_pure ?_));refine wpAny_bind (wpAny_bind (wpAny_onRaise ?_));show wpAny _ _ (Builtin.SmallTypes.nextOf (.ref i2) >>= _) _ _ _;refine wpAny_bind (nx (h2.to fun o e=>zE s3 D.TOi2.symm (zE s2 D.i12.symm (zE s1 D.i2z e))) (c2.to fun o e=>zE s3 D.l2TO (zE s2 D.l2i1 (zE s1 D.l2z e))) ey fun g4 t4 s4=>wpAny_pure ?_);have o4:IsPair g4 TO x b:=zE s4 D.TOi2 o3;refine wpAny_bind (wpAny_seqItems o4 rfl ?_);refine wpAny_bind (wpAny_updateSeq_pair o4 fun g5 o5 s5=>?_);replace o5:IsPair g5 TO x y:=o5;refine wpAny_bind (wpAny_letGo (wpAny_pure (wpAny_pure ?_)));refine wpAny_bind (wpAny_seqItems o5 rfl ?_);refine wpAny_bind (wpAny_newTuple ?_);have sz:g5.objs.size=s.heap.objs.size:=by rw [s5.1,s4.1,s3.1,s2.1,s1.1]
 have z5:IsZip g5 z TI TO .ellipsis:=zE s5 D.TOz.symm (zE s4 D.i2z.symm (zE s3 D.TOz.symm (zE s2 D.i1z.symm z1)));have k5:∀ c o,c≠z->c≠TO->c≠i1->c≠i2->s.heap.get? c=some o->g5.get? c=some o:=fun c o n1 n2 n3 n4 e=>zE s5 n2 (zE s4 n4 (zE s3 n2 (zE s2 n3 (zE s1 n1 e))));have t5:Sit b1 g5 i1 l1 (k+1):=t2.to fun o e=>zE s5 D.TOi1.symm (zE s4 D.i12 (zE s3 D.TOi1.symm e));have u5:Sit b2 g5 i2 l2 (k+1):=t4.to fun o e=>zE s5 D.TOi2.symm e;have zl:z<g5.objs.size:=Heap.lt_size z5;show wpAny _ _ (Builtin.SmallTypes.ownedTupleHandOut (.ref z) (.ref g5.objs.size) >>= _) _ _ _;refine wpAny_bind ?_;unfold Builtin.SmallTypes.ownedTupleHandOut;have z6:IsZip (g5.push {cls:=.type "tuple",data:=.seq #[x,y]}) z TI TO .ellipsis:=Heap.get?_push_of_some _ z5;refine wpAny_bind (wpAny_setField_rec z6 (by simp) fun g7 z7 s7=>?_);replace z7:IsZip g7 z TI TO (rawInt g5.objs.size):=z7;refine wpAny_setField_rec z7 (by simp) fun g8 z8 s8=>?_;replace z8:IsZip g8 z TI TO (rawInt g5.objs.size):=z8;have up:∀ c o,c≠z->g5.get? c=some o->g8.get? c=some o:=fun c o n e=>zE s8 n (zE s7 n (Heap.get?_push_of_some _ e));have p8:IsPair g8 g5.objs.size x y:=zE s8 (Nat.ne_of_gt zl) (zE s7 (Nat.ne_of_gt zl) (Heap.get?_push_size _ rfl));have e8:g8.objs.size=g5.objs.size+1:=by rw [s8.1,s7.1,Heap.size_push]
 rw [sz] at z8 p8 e8;refine wpAny_pure ⟨_,rfl,wpAny_pure ?_⟩;show Q (some (.ref g5.objs.size)) _;rw [sz];exact q g8 z8 (up _ _ D.TOz o5) (t5.to fun o e=>up _ o D.i1z e) (u5.to fun o e=>up _ o D.i2z e) p8 e8 fun c o n1 n2 n3 n4 e=>up c o n1 (k5 c o n1 n2 n3 n4 e)
theorem zh7 {z TI TO i1 i2 l1 l2:Addr} {b1 b2:Bool} {k:Nat} {xs ys:Array Value} {a b:Value} {Q:Option Value->Shared->Prop} (hh:A.handled=none) (D:ZipApart z TI TO i1 i2 l1 l2) (hz:IsZip s.heap z TI TO .none) (hTI:IsPair s.heap TI (.ref i1) (.ref i2)) (hTO:IsPair s.heap TO a b) (h1:Sit b1 s.heap i1 l1 k) (h2:Sit b2 s.heap i2 l2 k) (c1:Sco b1 s.heap l1 xs) (c2:Sco b2 s.heap l2 ys) (en:xs[k]? = none\/ys[k]? = none) (q:∀ h',(∀ c o,c≠z->c≠TO->c≠i1->c≠i2->s.heap.get? c=some o->h'.get? c=some o)->Q none {s with heap:=h'}):wpAny (model P w) A (pyNext (.ref z)) Q E s:=by
 have hT:s.TypeIs (.ref z) "zip":=⟨_,hz,rfl⟩;have fin:∀ h' e,(∀ c o,c≠z->c≠TO->c≠i1->c≠i2->s.heap.get? c=some o->h'.get? c=some o)->(∃ o,h'.get? e=some o/\o.cls=.type "StopIteration")-> wpAny (model P w) A (isInstance (.ref e) (.type "StopIteration") >>= fun b=>if b=true then (pure none:Sem (Option Value)) else throw (.ref e)) Q E {s with heap:=h'}:=fun h' e hk he=>by
  obtain ⟨o,ho,hc⟩:=he;refine wpAny_bind (wpAny_isInstance (T:="StopIteration") (b:=true) ⟨o,ho,hc⟩ isSubtype_stop ?_);exact wpAny_pure (q _ hk)
 unfold pyNext;refine wpAny_bind (wpAny_attempt (wpAny_callSpecial?_slot (name:=Str.ofString "__next__") hT F.slot_zip_next (wpAny_call_entry F.slot_zip_next hT F.entry_zip_next ?_ (F.args_zip_next_1 _))));show wpAny _ _ (field (.ref z) 2 >>= _) _ _ _;refine wpAny_bind (wpAny_field hz rfl (x:=.bool false) rfl ?_);show wpAny _ _ (field (.ref z) 3 >>= _) _ _ _;refine wpAny_bind (wpAny_field hz rfl (x:=.ref TI) rfl ?_);refine wpAny_bind (wpAny_seqItems hTI rfl ?_);show wpAny _ _ (Builtin.SmallTypes.ownedTupleIsFree (.ref z) >>= _) _ _ _;refine wpAny_bind ?_;unfold Builtin.SmallTypes.ownedTupleIsFree;refine wpAny_bind (wpAny_field hz rfl (x:=.none) rfl (wpAny_pure ?_));simp only [if_true];refine wpAny_bind (wpAny_rule ?_);refine wpAny_bind (wpAny_field hz rfl (x:=.ref TO) rfl ?_);refine wpAny_bind (wpAny_setField_rec hz (by simp) fun g1 z1 s1=>?_);replace z1:IsZip g1 z TI TO .ellipsis:=z1;refine wpAny_bind ?_;simp only [List.zipIdx_cons,List.zipIdx_nil,List.forIn_cons,List.forIn_nil];refine wpAny_bind (wpAny_bind (wpAny_onRaise ?_));show wpAny _ _ (Builtin.SmallTypes.nextOf (.ref i1) >>= _) _ _ _;cases ex:xs[k]? with
 | none=>
  refine wpAny_bind (zeh hh (h1.to fun o e=>zE s1 D.i1z e) (c1.to fun o e=>zE s1 D.l1z e) ex fun g2 e s2 he=>?_);obtain ⟨oe,hoe,hce⟩:=he;have z2:IsZip g2 z TI TO .ellipsis:=s2 _ _ D.i1z.symm z1;have ez:e≠z:=fun t=>by subst t;rw [z2] at hoe;cases hoe;simp at hce
  exact wpAny_setField_rec z2 (by simp) fun g3 _ s3=>fin g3 e (fun c o n1 _ n3 _ t=>zE s3 n1 (s2 _ _ n3 (zE s1 n1 t))) ⟨oe,zE s3 ez hoe,hce⟩ | some x=>
  have ey:ys[k]? = none:=by rcases en with t | t;rw [ex] at t;cases t;exact t
  refine wpAny_bind (nx (h1.to fun o e=>zE s1 D.i1z e) (c1.to fun o e=>zE s1 D.l1z e) ex fun g2 t2 s2=>wpAny_pure ?_);have o2:IsPair g2 TO a b:=zE s2 D.TOi1 (zE s1 D.TOz hTO);refine wpAny_bind (wpAny_seqItems o2 rfl ?_);refine wpAny_bind (wpAny_updateSeq_pair o2 fun g3 o3 s3=>?_);refine wpAny_bind (wpAny_letGo (wpAny_pure ?_));refine wpAny_bind (wpAny_bind (wpAny_onRaise ?_));show wpAny _ _ (Builtin.SmallTypes.nextOf (.ref i2) >>= _) _ _ _;refine wpAny_bind (zeh hh (h2.to fun o e=>zE s3 D.TOi2.symm (zE s2 D.i12.symm (zE s1 D.i2z e))) (c2.to fun o e=>zE s3 D.l2TO (zE s2 D.l2i1 (zE s1 D.l2z e))) ey fun g4 e s4 he=>?_);obtain ⟨oe,hoe,hce⟩:=he;have z4:IsZip g4 z TI TO .ellipsis:=s4 _ _ D.i2z.symm (zE s3 D.TOz.symm (zE s2 D.i1z.symm z1));have ez:e≠z:=fun t=>by subst t;rw [z4] at hoe;cases hoe;simp at hce
  exact wpAny_setField_rec z4 (by simp) fun g5 _ s5=>fin g5 e (fun c o n1 n2 n3 n4 t=>zE s5 n1 (s4 _ _ n4 (zE s3 n2 (zE s2 n3 (zE s1 n1 t))))) ⟨oe,zE s5 ez hoe,hce⟩
end
def itO(b:Bool)(l:Addr):Obj:=match b with
 | true=>{cls:=.type "list_iterator",data:=.fields #[.ref l,.int 0 0]} | false=>{cls:=.type "tuple_iterator",data:=.fields #[.ref l,.int 0 0]}
theorem z8S{b:Bool}{h:Heap}{a l:Addr}(e:h.get? a=some (itO b l)):Sit b h a l 0:=by cases b with
 | true=>exact ⟨_,e,rfl,rfl⟩ | false=>exact ⟨_,e,rfl,rfl⟩
theorem z4k(b:Bool)(l:Addr):(itO b l).isFreed=false:=by cases b<;>rfl
section
variable {P:Program}{w:World}{A:Around}{E:Value->Shared->Prop}{s:Shared}
theorem zbN {b:Bool} {l:Addr} {xs:Array Value} {Q:Value->Shared->Prop} (h:Sco b s.heap l xs) (q:Q (.ref s.heap.objs.size) {s with heap:=s.heap.push (itO b l)}):wpAny (model P w) A (pyIter (.ref l)) Q E s:=by cases b with
 | true=>exact wpAny_pyIter_list h q | false=>exact wpAny_pyIter_tuple h q
end
abbrev G1(b1:Bool)(h:Heap)(l1:Addr):Heap:=h.push (itO b1 l1)
abbrev G2(b1 b2:Bool)(h:Heap)(l1 l2:Addr):Heap:=(G1 b1 h l1).push (itO b2 l2)
abbrev G3(b1 b2:Bool)(h:Heap)(l1 l2:Addr):Heap:=(G2 b1 b2 h l1 l2).push {cls:=.type "tuple",data:=.seq #[.ref h.objs.size,.ref (G1 b1 h l1).objs.size]}
abbrev G4(b1 b2:Bool)(h:Heap)(l1 l2:Addr):Heap:=(G3 b1 b2 h l1 l2).push {cls:=.type "tuple",data:=.seq #[.none,.none]}
abbrev G5(b1 b2:Bool)(h:Heap)(l1 l2:Addr):Heap:=(G4 b1 b2 h l1 l2).push {cls:=.type "zip",data:=.fields #[.none,.bool false,.bool false,.ref (G2 b1 b2 h l1 l2).objs.size,.ref (G3 b1 b2 h l1 l2).objs.size]}
theorem zbO (b1 b2:Bool) (l1 l2:Addr) (xs ys:Array Value): Meets (Builtin.«zip.__new__» ⟨[.type "zip",.ref l1,.ref l2],[]⟩) (fun _ R s=>Sco b1 s.heap l1 xs/\Sco b2 s.heap l2 ys/\R (.ok (.ret (.ref (G4 b1 b2 s.heap l1 l2).objs.size))) {s with heap:=G5 b1 b2 s.heap l1 l2}):= .of_wp fun prog w A R s h=>by
  obtain ⟨hp,g,d,tk,os⟩:=s;obtain ⟨c1,c2,h⟩:=h;have hsub:=sub_zip;have q1:Sco b1 (Shared.heap ⟨hp,g,d,tk,os⟩) l1 xs:=c1;have q2:Sco b2 (Shared.heap ⟨hp.push (itO b1 l1),g,d,tk,os⟩) l2 ys:=c2.to fun o e=>Heap.get?_push_of_some _ e;wp_walk using zbN q1,zbN q2;exact ⟨_,rfl,h⟩
section
variable {P:Program}{w:World}{A:Around}{E:Value->Shared->Prop}{s:Shared}
theorem zcR {b1 b2:Bool} {l1 l2:Addr} {xs ys:Array Value} {Q:Value->Shared->Prop} (c1:Sco b1 s.heap l1 xs) (c2:Sco b2 s.heap l2 ys) (h:∀ h',IsZip h' (s.heap.objs.size+4) (s.heap.objs.size+2) (s.heap.objs.size+3) .none->IsPair h' (s.heap.objs.size+2) (.ref s.heap.objs.size) (.ref (s.heap.objs.size+1))-> IsPair h' (s.heap.objs.size+3) .none .none->Sit b1 h' s.heap.objs.size l1 0->Sit b2 h' (s.heap.objs.size+1) l2 0->(∀ c o,s.heap.get? c=some o->h'.get? c=some o)->Q (.ref (s.heap.objs.size+4)) {s with heap:=h'}): wpAny (model P w) A (call (.type "zip") [.ref l1,.ref l2]) Q E s:=by
 refine callType_new F.called_zip (by decide) (F.typeCall_zip_2 _ _) (F.newCall_zip_2 _ _) (fun obj=>F.args_object_init_3 obj _ _) F.entry_zip_new (zbO b1 b2 l1 l2 xs ys) ⟨c1,c2,?_⟩;have z1:(G1 b1 s.heap l1).objs.size=s.heap.objs.size+1:=Heap.size_push ..;have z2:(G2 b1 b2 s.heap l1 l2).objs.size=s.heap.objs.size+2:=by rw [Heap.size_push,z1]
 have z3:(G3 b1 b2 s.heap l1 l2).objs.size=s.heap.objs.size+3:=by rw [Heap.size_push,z2]
 have z4:(G4 b1 b2 s.heap l1 l2).objs.size=s.heap.objs.size+4:=by rw [Heap.size_push,z3]
 have up:∀ {h:Heap} {o:Obj} {c:Addr} {u:Obj},h.get? c=some u->(h.push o).get? c=some u:=fun e=>Heap.get?_push_of_some _ e;have g5:(G5 b1 b2 s.heap l1 l2).get? (G4 b1 b2 s.heap l1 l2).objs.size=some _:=Heap.get?_push_size _ rfl;have g4:(G5 b1 b2 s.heap l1 l2).get? (G3 b1 b2 s.heap l1 l2).objs.size=some _:=up (Heap.get?_push_size _ rfl);have g3:(G5 b1 b2 s.heap l1 l2).get? (G2 b1 b2 s.heap l1 l2).objs.size=some _:=up (up (Heap.get?_push_size _ rfl));have g2:(G5 b1 b2 s.heap l1 l2).get? (G1 b1 s.heap l1).objs.size=some (itO b2 l2):=up (up (up (Heap.get?_push_size _ (z4k b2 l2))));have g1:(G5 b1 b2 s.heap l1 l2).get? s.heap.objs.size=some (itO b1 l1):=up (up (up (up (Heap.get?_push_size _ (z4k b1 l1)))));show _/\_;rw [z2,z3,z4] at g5;rw [z1,z2] at g3;rw [z3] at g4;rw [z1] at g2;rw [z4];exact ⟨⟨_,g5,rfl⟩,h _ g5 g3 g4 (z8S g1) (z8S g2) fun c o e=>up (up (up (up (up e))))⟩
end
end Zz
namespace L2
open PySem.Spec Zz
def Sq(b:Bool)(K:W.Frag)(H:Hp)(a:Addr)(xs:List V):Prop:=match b with
 | true=>SqL K H a xs | false=>SqT K H a xs
section
variable {X:Cx}{pins:List (Addr×Obj)}{O:St}{H:Hp}{s:Shared}{h':Heap}
theorem Inv.sq{b:Bool}{a:Addr}{xs:List V}(I:Inv X pins O H s)(h:Sq b X.K H a xs):∃ its:List Value,yW xs its/\Sco b s.heap a its.toArray:=by cases b with
 | true=>obtain ⟨its,r,p,_⟩:=I.list h;exact ⟨its,r,p.isList⟩ | false=>obtain ⟨its,r,p,_⟩:=I.tuple h;exact ⟨its,r,p⟩
theorem Inv.sq_inj{b:Bool}{a:Addr}{xs ys:List V}(I:Inv X pins O H s)(h:Sq b X.K H a xs)(h':Sq b X.K H a ys):xs=ys:=by cases b with
 | true=>exact I.list_inj h h' | false=>exact I.tuple_inj h h'
theorem Inv.turnedL {t':Nat} {ch:List Addr} (I:Inv X pins O H s) (k:∀ b o,b∉ch->s.heap.get? b=some o->h'.get? b=some o) (f:∀ b∈ch,z7L X pins H b):Inv X pins O H {s with heap:=h',toks:=t'}:=by
 have nit:∀ b u,H b=some u->b∉ch:=fun b u e z=>by rw [(f b z).1] at e;cases e
 refine I.step (g':=s.gens) (d':=s.drawn) (ch:=ch) (fun b hb=>⟨(f b hb).2.2.2.1,(f b hb).2.1,(f b hb).2.2.2.2.1,(f b hb).2.2.2.2.2⟩) (fun b o _ _ hc e _=>k b o hc e) (fun b o _ _ hc e _=>⟨o.slots,k b o hc e⟩) (fun _ _ _ _ n=>n) (fun b o hc e=>⟨o,k b o hc e⟩) (fun _ _ e=>e) (fun _ _ _ e=>e) (fun b ps e=>⟨#[],by rw [e];simp⟩) (fun m hm=>?_) (fun b u e=>?_) I.bare
 ·obtain ⟨o,es,ep,ho,r⟩:=hm;exact ⟨o,es,ep,k _ o (fun z=>(f _ z).2.1 rfl) ho,r⟩
 ·refine (I.hok b u e).stay (fun c v hc q=>k c v ?_ q) (fun _ q=>q) fun _ _ q=>q;rcases hc with z | z;·rw [z];exact nit b u e
  ·exact nit c _ z
end
def Itz(K:W.Frag)(b1 b2:Bool)(l1 l2:Addr):It:= ⟨fun i H=>∃ xs ys x y,Sq b1 K H l1 xs/\Sq b2 K H l2 ys/\xs[i]? = some x/\ys[i]? = some y, fun i H v H'=>∃ T x y,H T=none/\v=.ref T/\H'=upd H T (.tup [x,y])/\(∀ xs,Sq b1 K H l1 xs->xs[i]? = some x)/\∀ ys,Sq b2 K H l2 ys->ys[i]? = some y, fun i H=>∃ xs ys,Sq b1 K H l1 xs/\Sq b2 K H l2 ys/\(xs.length<=i\/ys.length<=i)⟩
theorem zdg {P:Program} {w:World} {K:W.Frag} {elts:List Expr} {kt:Nat} {tp:Pos} {b1 b2:Bool} {z TI TO i1 i2 l1 l2:Addr} (D:ZipApart z TI TO i1 i2 l1 l2): zgk P w K (.Tuple elts kt tp) (Itz K b1 b2 l1 l2) [z,TI,TO,i1,i2] z (fun i h=>IsZip h z TI TO .none/\IsPair h TI (.ref i1) (.ref i2)/\(∃ a b,IsPair h TO a b)/\Sit b1 h i1 l1 i/\Sit b2 h i2 l2 i) where
 mem:=by simp
 obj:=fun i h ⟨hz,hTI,⟨a,b,hTO⟩,h1,h2⟩ c hc=>by
  have hc':c=z\/c=TI\/c=TO\/c=i1\/c=i2:=by simpa using hc
  rcases hc' with rfl | rfl | rfl | rfl | rfl;·exact ⟨_,hz,fun v e=>by simp at e⟩
  ·exact ⟨_,hTI,fun v e=>by simp at e⟩
  ·exact ⟨_,hTO,fun v e=>by simp at e⟩
  ·exact h1.ob
  ·exact h2.ob
 keep:=fun i h h' ⟨hz,hTI,⟨a,b,hTO⟩,h1,h2⟩ k=>⟨k z (by simp) _ hz,k TI (by simp) _ hTI,⟨a,b,k TO (by simp) _ hTO⟩,h1.to fun o e=>k i1 (by simp) o e,h2.to fun o e=>k i2 (by simp) o e⟩;item:=by
  intro X hP hw hK hc i pins s O H E I hf ⟨hz,hTI,⟨a,b,hTO⟩,h1,h2⟩ ⟨xs,ys,x,y,qx,qy,ex,ey⟩;subst hP hw hK;obtain ⟨ix,rx,cx⟩:=I.sq qx;obtain ⟨iy,ry,cy⟩:=I.sq qy;obtain ⟨u,hu,ru⟩:=rx.get ex;obtain ⟨v,hv,rv⟩:=ry.get ey;refine zeu D hz hTI hTO h1 h2 cx cy (x:=u) (y:=v) (by simpa using hu) (by simpa using hv) fun g a1 a2 a3 a4 a5 a6 hk=>⟨_,rfl,?_⟩;have kk:∀ c o,c∉[z,TO,i1,i2]->s.heap.get? c=some o->g.get? c=some o:=fun c o n e=>hk c o (fun t=>n (by simp [t])) (fun t=>n (by simp [t])) (fun t=>n (by simp [t])) (fun t=>n (by simp [t])) e;have sub:∀ c∈[z,TO,i1,i2],c∈[z,TI,TO,i1,i2]:=fun c hc=>by
   have:c=z\/c=TO\/c=i1\/c=i2:=by simpa using hc
   rcases this with rfl | rfl | rfl | rfl<;>simp
  have I1:Inv X pins O H {s with heap:=g}:=I.turnedL (t':=s.toks) kk fun c hc=>hf c (sub c hc);refine wpAny_letOwnedTupleGo_zip a1 fun g2 z2 s2=>?_;obtain ⟨f0,f1,f2,f3,f4,f5⟩:=hf z (by simp);have I2:Inv X pins O H {s with heap:=g2}:=I1.turned (t':=s.toks) (fun c o n e=>zE s2 n e) f0 f1 f3 f4 f5;have new:z7L X pins H s.heap.objs.size:=I.fpOk (Nat.le_refl _) (I.hok.fresh (Nat.le_refl _));have ne:∀ {c:Addr} {o:Obj},s.heap.get? c=some o->c≠s.heap.objs.size:=fun e=>Nat.ne_of_lt (Heap.lt_size e);have p2:IsPair g2 s.heap.objs.size u v:=zE s2 (ne hz).symm a5;refine ⟨.ref s.heap.objs.size,upd H s.heap.objs.size (.tup [x,y]),I2.track new ⟨?_,[u,v],.cons ru (.cons rv .nil),⟨_,p2,rfl,rfl,_,rfl⟩⟩,rfl,⟨_,x,y,new.1,rfl,rfl,fun zs qz=>?_,fun zs qz=>?_⟩,⟨z2,?_,⟨_,_,zE s2 D.TOz a2⟩,a3.to fun o e=>zE s2 D.i1z e,a4.to fun o e=>zE s2 D.i2z e⟩,fun c hc=>?_⟩;·show 2<=sizeLine;decide
  ·rw [I.sq_inj qz qx];exact ex
  ·rw [I.sq_inj qz qy];exact ey
  ·exact zE s2 D.TIz (hk TI _ D.TIz D.TITO D.TIi1 D.TIi2 hTI)
  ·have hc':c=z\/c=TI\/c=TO\/c=i1\/c=i2:=by simpa using hc
   have:c≠s.heap.objs.size:=by
    rcases hc' with rfl | rfl | rfl | rfl | rfl;·exact ne hz
    ·exact ne hTI
    ·exact ne hTO
    ·exact Nat.ne_of_lt h1.lt
    ·exact Nat.ne_of_lt h2.lt
   rw [zF this];exact (hf c hc).1
 done:=by
  intro X hP hw hK hc i pins s O H E I hf ⟨hz,hTI,⟨a,b,hTO⟩,h1,h2⟩ ⟨xs,ys,qx,qy,hl⟩;subst hP hw hK;obtain ⟨ix,rx,cx⟩:=I.sq qx;obtain ⟨iy,ry,cy⟩:=I.sq qy;have lx:=rx.length;have ly:=ry.length;refine zh7 (I.ok.hd hc) D hz hTI hTO h1 h2 cx cy ?_ fun g hk=>⟨rfl,?_⟩
  ·rcases hl with hl | hl;·exact .inl (by simp;omega)
   ·exact .inr (by simp;omega)
  ·exact I.turnedL (t':=s.toks) (ch:=[z,TO,i1,i2]) (fun c o n e=>hk c o (fun t=>n (by simp [t])) (fun t=>n (by simp [t])) (fun t=>n (by simp [t])) (fun t=>n (by simp [t])) e) fun c hc=>hf c (by
    have:c=z\/c=TO\/c=i1\/c=i2:=by simpa using hc
    rcases this with rfl | rfl | rfl | rfl<;>simp)
 self:=fun _ _ _ _ _ st h=>wpAny_pyIter_zip st.1 h
theorem zgq{X:Cx}{elts:List Expr}{kt:Nat}{tp:Pos}{a b:Expr}{ta:TA}{p pos:Pos}(hg:Gl X "zip")(hm:X.mg "zip"=none)(ha:PA X [a,b] ta)(hs:starEach [a,b] X.env=(false,eval a X.env)::starEach [b] X.env:=by rfl)(hpl:(backTo pos (starEach [b] X.env)).any (·.1)=false:=by rfl): PI X (.Tuple elts kt tp) (.Call (.Name "zip" p) [a,b] [] pos) (fun O H R=>ta O H fun vs H1=>∃ l1 l2 b1 b2,vs=[.ref l1,.ref l2]/\(∃ xs,Sq b1 X.K H1 l1 xs)/\(∃ ys,Sq b2 X.K H1 l2 ys)/\R (Itz X.K b1 b2 l1 l2) H1):=by
 intro pins s O H R I h;refine wpAny_Call_Name_kw (z18 I hg hm (u:=.type "zip") (by first | exact PySem.boot_zip | rfl | decide +kernel) ?_ (by decide) (by decide));refine PyProof.Rows.callWith_type1 (thn (ha pos pins s O H _ I h) fun us s1 ⟨vs,H1,I1,r1,q1⟩=>?_) hs hpl;obtain ⟨l1,l2,b1,b2,rfl,⟨xs,qx⟩,⟨ys,qy⟩,q⟩:=q1;cases r1 with | cons r1 r2=> cases r2 with | cons r2 r3=>
   cases r3;cases r1;cases r2;obtain ⟨ix,rx,cx⟩:=I1.sq qx;obtain ⟨iy,ry,cy⟩:=I1.sq qy;have lt1:l1<s1.heap.objs.size:=by cases b1 with
    | true=>obtain ⟨o,e,_⟩:=cx;exact Heap.lt_size e | false=>obtain ⟨o,e,_⟩:=cx;exact Heap.lt_size e
   have lt2:l2<s1.heap.objs.size:=by cases b2 with
    | true=>obtain ⟨o,e,_⟩:=cy;exact Heap.lt_size e | false=>obtain ⟨o,e,_⟩:=cy;exact Heap.lt_size e
   have D:ZipApart (s1.heap.objs.size+4) (s1.heap.objs.size+2) (s1.heap.objs.size+3) s1.heap.objs.size (s1.heap.objs.size+1) l1 l2:=by
    have e1:∀ k:Nat,l1≠s1.heap.objs.size+k:=fun k=>Nat.ne_of_lt (Nat.lt_of_lt_of_le lt1 (Nat.le_add_right _ _));have e2:∀ k:Nat,l2≠s1.heap.objs.size+k:=fun k=>Nat.ne_of_lt (Nat.lt_of_lt_of_le lt2 (Nat.le_add_right _ _));have nk:∀ (m j k:Nat),j≠k->m+j≠m+k:=fun m j k h z=>h (Nat.add_left_cancel z);exact ⟨nk _ 2 4 (by decide),nk _ 3 4 (by decide),nk _ 0 4 (by decide),nk _ 1 4 (by decide),nk _ 2 3 (by decide),nk _ 2 0 (by decide),nk _ 2 1 (by decide),nk _ 3 0 (by decide),nk _ 3 1 (by decide),nk _ 0 1 (by decide),e1 4,e1 3,e1 0,e1 1,e2 4,e2 3,e2 0,e2 1⟩
   refine zcR cx cy fun g hz hTI hTO h1 h2 hk=>?_;refine wpAny_pyIter_zip hz ?_;refine ⟨_,_,_,_,H1,rfl,I1.kept (t':=s1.toks) hk,zdg D,⟨hz,hTI,⟨_,_,hTO⟩,h1,h2⟩,fun c hc=>?_,q⟩;have hc':s1.heap.objs.size<=c:=by
    have:c=s1.heap.objs.size+4\/c=s1.heap.objs.size+2\/c=s1.heap.objs.size+3\/c=s1.heap.objs.size\/c=s1.heap.objs.size+1:=by simpa using hc
    rcases this with rfl | rfl | rfl | rfl | rfl<;>first | exact Nat.le_refl _ | exact Nat.le_add_right _ _
   exact I1.fpOk hc' (I1.hok.fresh hc')
end L2
namespace Zz
section
variable {P:Program}{w:World}{A:Around}{E:Value->Shared->Prop}{s:Shared}
theorem z4C {b : Bool} {l : Addr} {its : Array Value} {Q : Value → Shared → Prop} (hh : A.handled = none) (h : Sco b s.heap l its) (k : ∀ s2 : Shared, s2 = { s with heap := s.heap.push (itO b l) } → ∀ St : Nat → Heap → Prop, Walks P w A s.heap.objs.size [s.heap.objs.size, l] [s.heap.objs.size] its.size (fun i v => its[i]? = some v) St → St 0 s2.heap → (∀ c ∈ [s.heap.objs.size, l], c < s2.heap.objs.size) → (∀ h' : Heap, (∀ c o, c ∉ [s.heap.objs.size] → s2.heap.get? c = some o → h'.get? c = some o) → ∀ c o, s.heap.get? c = some o → h'.get? c = some o) → Q (.ref s.heap.objs.size) s2) : wpAny (model P w) A (pyIter (.ref l)) Q E s := by
  have lt : l < s.heap.objs.size := by cases b with
    | true => obtain ⟨o, e, _⟩ := h; exact Heap.lt_size e | false => obtain ⟨o, e, _⟩ := h; exact Heap.lt_size e
  have ne : l ≠ s.heap.objs.size := Nat.ne_of_lt lt;have bd : ∀ c ∈ [s.heap.objs.size, l], c < (s.heap.push (itO b l)).objs.size := fun c hc => by
    have : c = s.heap.objs.size ∨ c = l := by simpa using hc
    rw [Heap.size_push];rcases this with rfl | rfl;· exact Nat.lt_succ_self _
    · exact Nat.lt_succ_of_lt lt
  have old : ∀ h' : Heap, (∀ c o, c ∉ [s.heap.objs.size] → (s.heap.push (itO b l)).get? c = some o → h'.get? c = some o) → ∀ c o, s.heap.get? c = some o → h'.get? c = some o := fun h' hk c o e =>
    hk c o (fun z => by have : c = s.heap.objs.size := by simpa using z
                        exact absurd (this ▸ Heap.lt_size e) (Nat.lt_irrefl _)) (Heap.get?_push_of_some _ e);refine zbN h ?_;have g : (s.heap.push (itO b l)).get? s.heap.objs.size = some (itO b l) := Heap.get?_push_size _ (z4k b l);cases b with
  | true => exact k _ rfl _ (Walks.list hh _ l ne its) ⟨z8S (b := true) g, Sco.to (b := true) h fun o e => Heap.get?_push_of_some _ e⟩ bd old | false => exact k _ rfl _ (Walks.tuple hh _ l ne its) ⟨z8S (b := false) g, Sco.to (b := false) h fun o e => Heap.get?_push_of_some _ e⟩ bd old
end
end Zz
namespace L2
open PySem.Spec Zz
def maxL:List Int->Int
 | []=>0 | x::xs=>xs.foldl max x
def minL:List Int->Int
 | []=>0 | x::xs=>xs.foldl min x
theorem uf:∀ (xs:List Int)(x:Int),x<=xs.foldl max x/\(∀ y∈xs,y<=xs.foldl max x)/\(xs.foldl max x=x\/xs.foldl max x∈xs)
 | [],x=>⟨Int.le_refl _,by simp,.inl rfl⟩ | y::ys,x=>by
  obtain ⟨h1,h2,h3⟩:=uf ys (max x y);refine ⟨by simp only [List.foldl_cons];omega,fun z hz=>?_,?_⟩
  ·simp only [List.foldl_cons];rcases List.mem_cons.mp hz with rfl | hz;·omega
   ·exact h2 z hz
  ·simp only [List.foldl_cons];rcases h3 with h3 | h3
   ·rw [h3];rcases Int.le_total x y with h | h;·exact .inr (by rw [Int.max_eq_right h];simp)
    ·exact .inl (Int.max_eq_left h)
   ·exact .inr (List.mem_cons_of_mem _ h3)
theorem uq:∀ (xs:List Int)(x:Int),xs.foldl min x<=x/\(∀ y∈xs,xs.foldl min x<=y)/\(xs.foldl min x=x\/xs.foldl min x∈xs)
 | [],x=>⟨Int.le_refl _,by simp,.inl rfl⟩ | y::ys,x=>by
  obtain ⟨h1,h2,h3⟩:=uq ys (min x y);refine ⟨by simp only [List.foldl_cons];omega,fun z hz=>?_,?_⟩
  ·simp only [List.foldl_cons];rcases List.mem_cons.mp hz with rfl | hz;·omega
   ·exact h2 z hz
  ·simp only [List.foldl_cons];rcases h3 with h3 | h3
   ·rw [h3];rcases Int.le_total x y with h | h;·exact .inl (Int.min_eq_left h)
    ·exact .inr (by rw [Int.min_eq_right h];simp)
   ·exact .inr (List.mem_cons_of_mem _ h3)
theorem maxL_ge{xs:List Int}:∀ y∈xs,y<=maxL xs:=by cases xs with
 | nil=>simp | cons x xs=>intro y hy;rcases List.mem_cons.mp hy with rfl | hy;exact (uf xs y).1;exact (uf xs x).2.1 y hy
theorem maxL_mem{xs:List Int}(h:xs≠[]):maxL xs∈xs:=by cases xs with
 | nil=>exact absurd rfl h | cons x xs=>rcases (uf xs x).2.2 with e | e;exact (show xs.foldl max x∈x::xs by rw [e];simp);exact List.mem_cons_of_mem _ e
theorem minL_le{xs:List Int}:∀ y∈xs,minL xs<=y:=by cases xs with
 | nil=>simp | cons x xs=>intro y hy;rcases List.mem_cons.mp hy with rfl | hy;exact (uq xs y).1;exact (uq xs x).2.1 y hy
theorem minL_mem{xs:List Int}(h:xs≠[]):minL xs∈xs:=by cases xs with
 | nil=>exact absurd rfl h | cons x xs=>rcases (uq xs x).2.2 with e | e;exact (show xs.foldl min x∈x::xs by rw [e];simp);exact List.mem_cons_of_mem _ e
section
variable {X:Cx}
theorem z21 {ns:List Int} {its:List Value} (r:yW (ns.map V.int) its) {i:Nat} {v:Value} (e:its.toArray[i]? = some v):∃ t,v=.int (ns.getD i 0) t/\i<ns.length:=by
 have e':its[i]? = some v:=by simpa using e
 have hl:=r.length;have hi:i<ns.length:=by
  have:=(List.getElem?_eq_some_iff.mp e').1;simp at hl;omega
 obtain ⟨u,hu,ru⟩:=r.get (i:=i) (x:=V.int ns[i]) (by simp [hi]);rw [e'] at hu;cases hu;obtain ⟨t,rfl⟩:=ru;exact ⟨t,by simp [List.getD,hi],hi⟩
theorem getD_in{ns:List Int}{i:Nat}(h:i<ns.length):ns.getD i 0∈ns:=by
 rw [List.getD,List.getElem?_eq_getElem h];exact List.getElem_mem _
theorem zan (hc:X.calm=true):xz X (.builtin "max") (fun xs H Q=>∃ b p ns,xs=[.ref p]/\Sq b X.K H p (ns.map V.int)/\ns≠[]/\Q (.int (maxL ns)) H):=by
 intro pins s O H xs us Q I r h;obtain ⟨b,p,ns,rfl,hq,hne,q⟩:=h;obtain ⟨u,rfl,ru⟩:=vals1 r;cases ru;obtain ⟨its,rv,co⟩:=I.sq hq;have hl:its.length=ns.length:=by have:=rv.length;simp at this;omega
 have hn:0<ns.length:=List.length_pos_iff.mpr hne;refine call_max_walk (z4C (I.ok.hd hc) co fun s2 e2 St W st bd old=>?_);subst e2;refine ⟨_,_,_,_,_,_,_,rfl,W,st,bd,by simpa [hl] using hn,CmpOf.ints_gt (fun i=>ns.getD i 0) (fun i v e=>let ⟨t,e1,_⟩:=z21 rv e;⟨t,e1⟩),fun v h' tk e hk=>?_⟩;obtain ⟨t,e1,lt⟩:=z21 rv e;obtain ⟨h1,h2⟩:=argBest_gt (fun i=>ns.getD i 0) (its.toArray.size-1);have em:ns.getD (argBest (fun i j=>decide (ns.getD i 0 > ns.getD j 0)) (its.toArray.size-1)) 0=maxL ns:=by
  refine Int.le_antisymm (maxL_ge _ ?_) ?_;·exact getD_in lt
  ·obtain ⟨j,hj,ej⟩:=List.mem_iff_getElem.mp (maxL_mem hne);have:=h2 j (by simp [hl];omega);simp only [List.getD,List.getElem?_eq_getElem hj,Option.getD_some,ej] at this;simpa [List.getD] using this
 rw [e1,em];exact ⟨.int (maxL ns),H,I.kept (t':=tk) (old h' hk),⟨t,rfl⟩,q⟩
theorem za9 (hc:X.calm=true):xz X (.builtin "min") (fun xs H Q=>∃ b p ns,xs=[.ref p]/\Sq b X.K H p (ns.map V.int)/\ns≠[]/\Q (.int (minL ns)) H):=by
 intro pins s O H xs us Q I r h;obtain ⟨b,p,ns,rfl,hq,hne,q⟩:=h;obtain ⟨u,rfl,ru⟩:=vals1 r;cases ru;obtain ⟨its,rv,co⟩:=I.sq hq;have hl:its.length=ns.length:=by have:=rv.length;simp at this;omega
 have hn:0<ns.length:=List.length_pos_iff.mpr hne;refine call_min_walk (z4C (I.ok.hd hc) co fun s2 e2 St W st bd old=>?_);subst e2;refine ⟨_,_,_,_,_,_,_,rfl,W,st,bd,by simpa [hl] using hn,CmpOf.ints_lt (fun i=>ns.getD i 0) (fun i v e=>let ⟨t,e1,_⟩:=z21 rv e;⟨t,e1⟩),fun v h' tk e hk=>?_⟩;obtain ⟨t,e1,lt⟩:=z21 rv e;obtain ⟨h1,h2⟩:=argBest_lt (fun i=>ns.getD i 0) (its.toArray.size-1);have em:ns.getD (argBest (fun i j=>decide (ns.getD i 0<ns.getD j 0)) (its.toArray.size-1)) 0=minL ns:=by
  refine Int.le_antisymm ?_ (minL_le _ ?_)
  ·obtain ⟨j,hj,ej⟩:=List.mem_iff_getElem.mp (minL_mem hne);have:=h2 j (by simp [hl];omega);simp only [List.getD,List.getElem?_eq_getElem hj,Option.getD_some,ej] at this;simpa [List.getD] using this
  ·exact getD_in lt
 rw [e1,em];exact ⟨.int (minL ns),H,I.kept (t':=tk) (old h' hk),⟨t,rfl⟩,q⟩
theorem all_range{bs:List Bool}:(List.range bs.length).all (fun i=>bs.getD i false)=bs.all id:=by
 rw [Bool.eq_iff_iff];simp only [List.all_eq_true,List.mem_range,id];constructor
 ·intro h x hx;obtain ⟨j,hj,ej⟩:=List.mem_iff_getElem.mp hx;have:=h j hj;simpa [List.getD,hj,ej] using this
 ·intro h i hi;simp only [List.getD,List.getElem?_eq_getElem hi,Option.getD_some];exact h _ (List.getElem_mem _)
theorem zb5 (hc:X.calm=true):xz X (.builtin "all") (fun xs H Q=>∃ (b:Bool) (p:Addr) (bs:List Bool),xs=[.ref p]/\Sq b X.K H p (bs.map V.bl)/\Q (.bl (bs.all id)) H):=by
 intro pins s O H xs us Q I r h;obtain ⟨b,p,bs,rfl,hq,q⟩:=h;obtain ⟨u,rfl,ru⟩:=vals1 r;cases ru;obtain ⟨its,rv,co⟩:=I.sq hq;have hl:its.length=bs.length:=by have:=rv.length;simp at this;omega
 refine call_all_walk (z4C (I.ok.hd hc) co fun s2 e2 St W st bd old=>?_);subst e2;refine ⟨_,_,_,_,_,_,fun i=>bs.getD i false,rfl,W,st,fun i v s3 Q3 E3 e q3=>?_,fun h' tk hk=>?_⟩
 ·have e':its[i]? = some v:=by simpa using e
  have hi:i<bs.length:=by have:=(List.getElem?_eq_some_iff.mp e').1;omega
  obtain ⟨u,hu,ru⟩:=rv.get (i:=i) (x:=V.bl bs[i]) (by simp [hi]);rw [e'] at hu;cases hu;cases ru;have:bs.getD i false=bs[i]:=by simp [List.getD,hi]
  have q3:Q3 (bs.getD i false) s3:=q3;rw [this] at q3;exact wpAny_truthy_bool q3
 ·have ez:its.toArray.size=bs.length:=by simp [hl]
  rw [ez,all_range];exact ⟨.bl (bs.all id),H,I.kept (t':=tk) (old h' hk),rfl,q⟩
theorem z6F:xz X (.builtin "divmod") (fun xs H Q=>∃ i j,xs=[.int i,.int j]/\(0<j/\j.natAbs<Dd.BIG)/\∀ p,H p=none->Q (.ref p) (upd H p (.tup [.int (i / j),.int (i % j)]))):=by
 intro pins s O H xs us Q I r h;obtain ⟨i,j,rfl,⟨h1,h2⟩,q⟩:=h;obtain ⟨u,w',rfl,⟨t,rfl⟩,⟨t',rfl⟩⟩:=vals2 r;refine divmod_int (by omega) ?_ (.inl (PyProof.noPylong_of_log2 (Dd.zc2 h2)));rw [Int.fdiv_eq_ediv_of_nonneg i (by omega),Int.fmod_eq_emod_of_nonneg i (by omega)];refine ⟨.ref s.heap.objs.size,_,I.laid (o:=.tup [.int (i / j),.int (i % j)]) (fun b o e=>Heap.get?_push_of_some _ e) (Nat.le_refl _) ⟨?_,[.int (i / j) s.toks,.int (i % j) (s.toks+1)],.cons ⟨_,rfl⟩ (.cons ⟨_,rfl⟩ .nil),⟨_,Heap.get?_push_size s.heap rfl,rfl,rfl,0,rfl⟩⟩,rfl,q _ (I.hok.fresh (Nat.le_refl _))⟩;show 2<=sizeLine;decide
end
end L2
namespace L2
open PySem.Spec
theorem z7t{X:Cx}:xz X (.builtin "isinstance") (fun xs H Q=>∃ x t T b,xs=[x,.ty T]/\z8z X.K H x t/\W.kitOne X.K t (.type T)=some b/\Q (.bl b) H):=by
 intro pins s O H xs us Q I r h;obtain ⟨x,t,T,b,rfl,ht,hk,q⟩:=h;obtain ⟨u,v,rfl,ru,rv⟩:=vals2 r;cases rv;exact zaH I ru ht hk fun tk=>⟨.bl b,H,I.tok _,rfl,q⟩
end L2
namespace Dd
open PySem.Spec L2
def tyD:D->Option String
 | .non=>some "NoneType" | .bl _=>some "bool" | .int _=>some "int" | .str _=>some "str" | .tup _=>some "tuple" | .lst _=>some "list" | .loc _=>some "list" | .dct=>some "dict" | _=>none
def isT(T t:String):Bool:=t==T||(T=="int"&&t=="bool")
def gIs(T:String):D->Sto->R D:=fun d s=>match tyD d with | some t=>.ok (.bl (isT T t)) s | none=>.no
theorem zg9{K:W.Frag}{t:String}(h:t∈["NoneType","bool","int","str","tuple","list","dict"])(T:String)(hT:T∈["int","bool","str","tuple","list"]):W.kitOne K (.type t) (.type T)=some (isT T t):=by
 have hh:t="NoneType"\/t="bool"\/t="int"\/t="str"\/t="tuple"\/t="list"\/t="dict":=by simpa using h
 have hh':T="int"\/T="bool"\/T="str"\/T="tuple"\/T="list":=by simpa using hT
 rcases hh with rfl | rfl | rfl | rfl | rfl | rfl | rfl<;>rcases hh' with rfl | rfl | rfl | rfl | rfl<;>kernel_rfl
theorem zi4{mg:Gm}{H:Hp}{Y:List Addr}{s:Sto}{d:D}{v:V}{t:String}(r:Rep mg H Y s)(dn:Den mg H Y d v)(e:tyD d=some t):z8z mg.K H v (.type t)/\t∈["NoneType","bool","int","str","tuple","list","dict"]:=by cases d with
 | non=>simp only [Den] at dn;subst dn;cases e;exact ⟨.non,by simp⟩ | bl b=>cases jS dn;cases e;exact ⟨.bl b,by simp⟩ | int b=>cases ye dn;cases e;exact ⟨.int b,by simp⟩ | str b=>cases vP dn;cases e;exact ⟨.str b,by simp⟩ | tup b=>
  cases e;simp only [Den] at dn;obtain ⟨a,vs,rfl,h1,_⟩:=dn;exact ⟨.tup h1,by simp⟩ | lst b=>
  cases e;simp only [Den] at dn;obtain ⟨a,o,vs,rfl,h1,_⟩:=dn;exact ⟨.frz h1,by simp⟩ | loc l=>
  cases e;simp only [Den] at dn;obtain ⟨a,rfl,h1,vs,h2⟩:=dn;exact ⟨.lst h2,by simp⟩ | dct=>
  cases e;simp only [Den] at dn;obtain ⟨a,rfl,h1⟩:=dn;exact ⟨.dK h1,by simp⟩ | _=>cases e
section
variable {X:Cx}{E:XK}{e a b c tg:Expr}{es:List Expr}{pos:Pos}{CX:CXT}
def eIs(T:String)(f:FE):FE:=fun Z s=>(f Z s).bind fun d s1=>gIs T d s1
theorem zhi{p p2:Pos}{T:String}{tn:Str}{f:FE}(hT:T∈["int","bool","str","tuple","list"])(hv:bootBuiltins tn=some (.type T))(hg:Gl X "isinstance")(hm:X.mg "isinstance"=none)(hg2:Gl X tn)(hm2:X.mg tn=none)(he:RE X E e f) (hn:tn≠"__name__":=by decide)(hd:(tn==("__debug__":Str))=false:=by decide) (hs:starEach [e,.Name tn p2] X.env=(false,eval e X.env)::starEach [.Name tn p2] X.env:=by rfl)(hpl:(backTo pos (starEach [.Name tn p2] X.env)).any (·.1)=false:=by rfl):RE X E (.Call (.Name "isinstance" p) [e,.Name tn p2] [] pos) (eIs T f):= zV (z1J z7t hg hm (by decide +kernel) (va he (va (zaC hg2 hm2 hv (show xx (.ty T) (.type T) from rfl) hn hd) kI) hs) (by decide) (by decide) hs hpl) fun O H Q ⟨Y,Z,s,r,en,h⟩=>by
  refine yr (k:=fun Z d s1=>gIs T d s1) r en h _ fun v H1 Y1 s1 d r1 en1 dn stp h1=>?_;unfold gIs at h1;split at h1
  ·rename_i t et;obtain ⟨q1,q2⟩:=zi4 r1 dn et;exact ⟨v,.type t,T,isT T t,rfl,q1,zg9 q2 T hT,okR.here (b:=V.bl (isT T t)) h1 r1 um⟩
  ·exact h1.elim
def zgn:List D->Sto->R D
 | [.int i],s=>.ok (.int (if i<0 then -i else i)) s | _,_=>.no
theorem zhF:∃ r,xz X (.builtin "abs") r/\kA X E r zgn:=⟨_,zd5,fun H Y s ds vs Q r hd h=>by
 unfold zgn at h;split at h
 ·rename_i i;obtain ⟨v,rfl,dn⟩:=z1q hd;cases ye dn;exact ⟨i,rfl,h.here r yA⟩
 ·exact h.elim⟩
def z1Z:List D->Sto->R D
 | [.int i,.int j],s=>if 0<j/\j.natAbs<BIG then .ok (.tup [.int (i / j),.int (i % j)]) s else .no | _,_=>.no
theorem zcr:∃ r,xz X (.builtin "divmod") r/\kA X E r z1Z:=⟨_,z6F,fun H Y s ds vs Q r hd h=>by
 unfold z1Z at h;split at h
 ·rename_i i j;split at h
  ·rename_i hj;obtain ⟨v,v',rfl,d1,d2⟩:=z60 hd;cases ye d1;cases ye d2;exact ⟨i,j,rfl,hj,z0O r h (zD.cons yA (zD.one yA))⟩
  ·exact h.elim
 ·exact h.elim⟩
def intsOf:List D->Option (List Int)
 | []=>some [] | .int i::r=>(intsOf r).map (i::·) | _=>none
def bools:List D->Option (List Bool)
 | []=>some [] | .bl i::r=>(bools r).map (i::·) | _=>none
theorem qU:∀ {xs:List D}{ns:List Int},intsOf xs=some ns->xs=ns.map D.int
 | [],ns,h=>by simp [intsOf] at h;subst h;rfl | .int i::r,ns,h=>by
  simp only [intsOf,Option.map_eq_some_iff] at h;obtain ⟨ms,h1,rfl⟩:=h;rw [qU h1];rfl
theorem wB(ns:List Int):intsOf (ns.map D.int)=some ns:=by induction ns with
 | nil=>rfl | cons n ns ih=>simp [intsOf,ih]
theorem z1Q:∀ {xs:List D}{ns:List Bool},bools xs=some ns->xs=ns.map D.bl
 | [],ns,h=>by simp [bools] at h;subst h;rfl | .bl i::r,ns,h=>by
  simp only [bools,Option.map_eq_some_iff] at h;obtain ⟨ms,h1,rfl⟩:=h;rw [z1Q h1];rfl
theorem z2Q(ns:List Bool):bools (ns.map D.bl)=some ns:=by induction ns with
 | nil=>rfl | cons n ns ih=>simp [bools,ih]
theorem qW{mg:Gm}{H:Hp}{Y:List Addr}:∀ {ns:List Int}{vs:List V},zD mg H Y (ns.map D.int) vs->vs=ns.map V.int
 | [],vs,h=>by simpa [zD] using h | n::ns,vs,h=>by
  simp only [List.map_cons,zD] at h;obtain ⟨v,r,rfl,h1,h2⟩:=h;cases ye h1;rw [qW h2];rfl
theorem z1C{mg:Gm}{H:Hp}{Y:List Addr}:∀ {ns:List Bool}{vs:List V},zD mg H Y (ns.map D.bl) vs->vs=ns.map V.bl
 | [],vs,h=>by simpa [zD] using h | n::ns,vs,h=>by
  simp only [List.map_cons,zD] at h;obtain ⟨v,r,rfl,h1,h2⟩:=h;cases jS h1;rw [z1C h2];rfl
def vx:List D->Sto->R D
 | [d],s=>match (zL s d).bind intsOf with | some (n::ns)=>.ok (.int (maxL (n::ns))) s | _=>.no
 | _,_=>.no
def z3m:List D->Sto->R D
 | [d],s=>match (zL s d).bind intsOf with | some (n::ns)=>.ok (.int (minL (n::ns))) s | _=>.no
 | _,_=>.no
def zdM:List D->Sto->R D
 | [d],s=>match (zL s d).bind bools with | some ns=>.ok (.bl (ns.all id)) s | none=>.no
 | _,_=>.no
theorem z8c{K:W.Frag}{H:Hp}{a:Addr}{vs:List V}(h:SqL K H a vs\/SqT K H a vs):∃ b,Sq b K H a vs:=h.elim (fun h=>⟨true,h⟩) fun h=>⟨false,h⟩
theorem z47(hc:X.calm=true):∃ r,xz X (.builtin "max") r/\kA X E r vx:=⟨_,zan hc,fun H Y s ds vs Q r hd h=>by
 unfold vx at h;split at h
 ·rename_i d;split at h
  ·rename_i n ns e;obtain ⟨xs,e1,e2⟩:=Option.bind_eq_some_iff.mp e;have:=qU e2;subst this;obtain ⟨v,rfl,dn⟩:=z1q hd;obtain ⟨a,ws,rfl,q1,q2⟩:=uk (K:=X.K) r e1 dn;cases qW q2;obtain ⟨b,q⟩:=z8c q1;exact ⟨b,a,n::ns,rfl,q,by simp,h.here r yA⟩
  ·exact h.elim
 ·exact h.elim⟩
theorem zdZ(hc:X.calm=true):∃ r,xz X (.builtin "min") r/\kA X E r z3m:=⟨_,za9 hc,fun H Y s ds vs Q r hd h=>by
 unfold z3m at h;split at h
 ·rename_i d;split at h
  ·rename_i n ns e;obtain ⟨xs,e1,e2⟩:=Option.bind_eq_some_iff.mp e;have:=qU e2;subst this;obtain ⟨v,rfl,dn⟩:=z1q hd;obtain ⟨a,ws,rfl,q1,q2⟩:=uk (K:=X.K) r e1 dn;cases qW q2;obtain ⟨b,q⟩:=z8c q1;exact ⟨b,a,n::ns,rfl,q,by simp,h.here r yA⟩
  ·exact h.elim
 ·exact h.elim⟩
theorem zhn(hc:X.calm=true):∃ r,xz X (.builtin "all") r/\kA X E r zdM:=⟨_,zb5 hc,fun H Y s ds vs Q r hd h=>by
 unfold zdM at h;split at h
 ·rename_i d;split at h
  ·rename_i ns e;obtain ⟨xs,e1,e2⟩:=Option.bind_eq_some_iff.mp e;have:=z1Q e2;subst this;obtain ⟨v,rfl,dn⟩:=z1q hd;obtain ⟨a,ws,rfl,q1,q2⟩:=uk (K:=X.K) r e1 dn;cases z1C q2;obtain ⟨b,q⟩:=z8c q1;exact ⟨b,a,ns,rfl,q,h.here r um⟩
  ·exact h.elim
 ·exact h.elim⟩
def z4c:List D->List D->List D
 | x::xs,y::ys=>.tup [x,y]::z4c xs ys | _,_=>[]
theorem z3c:∀ (xs ys:List D),(z4c xs ys).length=min xs.length ys.length
 | [],ys=>by simp [z4c] | x::xs,[]=>by simp [z4c] | x::xs,y::ys=>by simp only [z4c,List.length_cons,z3c xs ys];omega
theorem zby:∀ {xs ys:List D}{i:Nat}{d:D},(z4c xs ys)[i]? = some d->∃ x y,xs[i]? = some x/\ys[i]? = some y/\d=.tup [x,y]
 | [],ys,i,d,h=>by simp [z4c] at h | x::xs,[],i,d,h=>by simp [z4c] at h | x::xs,y::ys,0,d,h=>by simp [z4c] at h;exact ⟨x,y,by simp,by simp,h.symm⟩ | x::xs,y::ys,i+1,d,h=>by
  simp only [z4c,List.getElem?_cons_succ] at h;obtain ⟨a,b,h1,h2,h3⟩:=zby h;exact ⟨a,b,by simpa using h1,by simpa using h2,h3⟩
def z9U(s:Sto):D->Option (List D×List (Nat×List D))
 | .tup xs=>some (xs,[]) | .lst xs=>some (xs,[]) | .loc l=>(s[l]?).map fun xs=>(xs,[(l,xs)]) | _=>none
theorem zaY{mg:Gm}{H:Hp}{Y:List Addr}{s:Sto}{d:D}{xs:List D}{g:List (Nat×List D)}{v:V}(r:Rep mg H Y s)(h:z9U s d=some (xs,g))(dn:Den mg H Y d v):okG g [] s/\∃ (b:Bool)(a:Addr),v=.ref a/\ ∀ H2 Y2 s2,xZ mg H Y H2 Y2 s2->okG g [] s2->∃ ws,Sq b mg.K H2 a ws/\zD mg H2 Y2 xs ws:=by cases d with
 | tup ys=>
  cases h;obtain ⟨a,vs,rfl,q1,q2⟩:=jG (K:=mg.K) dn;refine ⟨(by intro p hp;simp at hp),false,a,rfl,fun H2 Y2 s2 stp _=>?_⟩;obtain ⟨a',ws,e,q3,q4⟩:=jG (K:=mg.K) (dn.mono stp);cases e;exact ⟨ws,q3,q4⟩ | lst ys=>
  cases h;obtain ⟨a,vs,rfl,q1,q2⟩:=zT (d:=.lst xs) r rfl dn;refine ⟨(by intro p hp;simp at hp),true,a,rfl,fun H2 Y2 s2 stp _=>?_⟩;obtain ⟨a',ws,e,q3,q4⟩:=zT (d:=.lst xs) stp.rep rfl (dn.mono stp);cases e;exact ⟨ws,.inl q3,q4⟩ | loc l=>
  simp only [z9U,Option.map_eq_some_iff] at h;obtain ⟨ys,ey,e2⟩:=h;cases e2;obtain ⟨a,vs,rfl,q1,q2⟩:=zT (d:=.loc l) r ey dn;have og:okG [(l,xs)] [] s:=fun p hp=>by
   have:p=(l,xs):=by simpa using hp
   subst this;exact ey
  refine ⟨og,true,a,rfl,fun H2 Y2 s2 stp hg=>?_⟩;obtain ⟨a',ws,e,q3,q4⟩:=zT (d:=.loc l) stp.rep (hg (l,xs) (by simp)) (dn.mono stp);cases e;exact ⟨ws,.inl q3,q4⟩ | _=>cases h
def zbh(f:FA):FI:=fun Z s=>(f Z s).bind fun ds s1=>match ds with
 | [x,y]=>match z9U s1 x,z9U s1 y with
  | some p,some q=>.ok (z4c p.1 q.1,p.2++q.2) s1 | _,_=>.no
 | _=>.no
theorem zb8{p tp:Pos}{elts:List Expr}{kt:Nat}{f:FA}(hg:Gl X "zip")(hm:X.mg "zip"=none)(ha:RA X E [a,b] f)(hs:starEach [a,b] X.env=(false,eval a X.env)::starEach [b] X.env:=by rfl)(hpl:(backTo pos (starEach [b] X.env)).any (·.1)=false:=by rfl): RI X E (.Tuple elts kt tp) (.Call (.Name "zip" p) [a,b] [] pos) (zbh f):= z8p (zgq hg hm ha hs hpl) fun O H Q ⟨Y,Z,s,r,en,h⟩=>by
  unfold zbh at h;refine ⟨Y,Z,s,r,en,(okR.bind (Dn:=zD (gm X)) h).imp fun vs H1 ⟨Y1,s1,ds,stp,dn,h1⟩=>?_⟩;split at h1
  ·rename_i x y;split at h1
   ·rename_i p q ex ey;obtain ⟨xs,gx⟩:=p;obtain ⟨ys,gy⟩:=q;obtain ⟨v,v',rfl,d1,d2⟩:=z60 dn;obtain ⟨og1,b1,a1,rfl,k1⟩:=zaY stp.rep ex d1;obtain ⟨og2,b2,a2,rfl,k2⟩:=zaY stp.rep ey d2;obtain ⟨w1,q1,_⟩:=k1 H1 Y1 s1 (.refl stp.rep) og1;obtain ⟨w2,q2,_⟩:=k2 H1 Y1 s1 (.refl stp.rep) og2;refine ⟨a1,a2,b1,b2,rfl,⟨w1,q1⟩,⟨w2,q2⟩,h1.here stp.rep fun H2 Y2 s2 stp2 og i=>?_⟩;have h3:okG gx [] s2:=fun p hp=>og p (List.mem_append_left _ hp);have h4:okG gy [] s2:=fun p hp=>og p (List.mem_append_right _ hp);refine ⟨fun d hd=>?_,fun hl=>?_⟩
    ·obtain ⟨x,y,e1,e2,rfl⟩:=zby hd;obtain ⟨w1,q1,n1⟩:=k1 H2 Y2 s2 stp2 h3;obtain ⟨w2,q2,n2⟩:=k2 H2 Y2 s2 stp2 h4;obtain ⟨u1,g1,m1⟩:=n1.get e1;obtain ⟨u2,g2,m2⟩:=n2.get e2;refine ⟨⟨w1,w2,u1,u2,q1,q2,g1,g2⟩,fun z H' ⟨T,p,q,hT,ez,eH,hp,hq⟩=>?_⟩;subst ez eH;have e3:=hp w1 q1;have e4:=hq w2 q2;rw [g1] at e3;rw [g2] at e4;cases e3;cases e4;have st3:=xZ.lay (o:=.tup [u1,u2]) stp2.rep hT (by intro _ z;cases z);refine ⟨Y2,st3,?_⟩;simp only [Den];exact ⟨T,[u1,u2],rfl,yg,(zD.cons m1 (zD.one m2)).mono st3⟩
    ·obtain ⟨w1,q1,n1⟩:=k1 H2 Y2 s2 stp2 h3;obtain ⟨w2,q2,n2⟩:=k2 H2 Y2 s2 stp2 h4;refine ⟨w1,w2,q1,q2,?_⟩;rw [n1.length,n2.length];simp only [z3c] at hl;omega
   ·exact h1.elim
  ·exact h1.elim
end
def wv(mp:List (Option Nat))(Z:Ev):Ev:=mp.map fun o=>match o with | some j=>(Z[j]?).getD none | none=>none
theorem uC.inner{mg:Gm}{H:Hp}{Y:List Addr}{Z:Ev}{O:L2.St}{mp:List (Option Nat)}(en:uC mg H Y Z O):uC mg H Y (wv mp Z) (inner mp O):=by
 refine ⟨by simp [wv,L2.inner],fun i d h=>?_⟩;simp only [wv,List.getElem?_map,Option.map_eq_some_iff] at h;obtain ⟨o,h1,h2⟩:=h;cases o with
 | none=>cases h2 | some j=>
  simp only at h2;have h3:Z[j]? = some (some d):=by cases e:Z[j]? with
   | none=>rw [e] at h2;cases h2 | some x=>rw [e] at h2;simp at h2;rw [h2]
  obtain ⟨v,h4,h5⟩:=en.at_ j d h3;exact ⟨v,by simp [L2.inner,h1,h4],h5⟩
open Classical in
def qg(g:List (Nat×List D))(all:List D)(body:D->Sto->R (Option D)):List D->List D->Sto->R (List D)
 | [],acc,s=>if okG g all s then .ok acc s else .no | x::xs,acc,s=>if okG g all s then (body x s).bind fun o s1=>match o with
   | some d=>if acc.length<cap then qg g all body xs (acc++[d]) s1 else .no | none=>qg g all body xs acc s1 else .no
def z6r(fi:FI)(mp:List (Option Nat))(fg:FG)(ft:FT)(fe:FE):FA:=fun Z s=>(fi Z s).bind fun it s1=>qg it.2 it.1 (fun d s=>(fg d (wv mp Z) s).bind fun Z' s'=>(ft Z' s').bind fun b s2=>if b=true then (fe Z' s2).bind fun d s3=>.ok (some d) s3 else .ok none s2) it.1 [] s1
def z4t(mg:Gm)(E:XK)(mp:List (Option Nat))(g:TG)(fg:FG):Prop:=∀ (O:L2.St) H Y Z s x d (Q:L2.St->Hp->Prop),Rep mg H Y s->uC mg H Y (wv mp Z) (inner mp O)->Den mg H Y d x->okR mg E H Y (uC mg) (fg d (wv mp Z) s) Q-> g x (inner mp O) H (fun O2 H2=>(O2.length=(inner mp O).length/\∀ (i:Nat) v,(inner mp O)[i]? = some (some v)->O2[i]? = some (some v))/\Q O2 H2)
theorem z1V{mp:List (Option Nat)}{i:Nat}(h:mp[i]? = some none)(O:L2.St):(inner mp O)[i]? = some none:=by simp [L2.inner,h]
theorem z4Q{O:L2.St}{i:Nat}{v:V}(h:O[i]? = some none):(O.set i (some v)).length=O.length/\∀ (j:Nat) u,O[j]? = some (some u)->(O.set i (some v))[j]? = some (some u):=by
 refine ⟨by simp,fun j u e=>?_⟩;have:i≠j:=fun z=>by subst z;rw [h] at e;cases e
 rw [List.getElem?_set_ne this];exact e
section
variable {X:Cx}{E:XK}{e a b c tg iter elt:Expr}{es:List Expr}{pos:Pos}{CX:CXT}{mp:List (Option Nat)}
theorem yn(i:Nat)(h:mp[i]? = some none):z4t (gm X) E mp (z9R i) (wb i):=fun O H Y Z s x d Q r en dn ok=>by
 refine ⟨z4Q (z1V h O),?_⟩;exact okR.here (b:=(inner mp O).set i (some x)) ok r (en.set dn i)
theorem z4q{fi:FI}{g:TG}{fg:FG}{ft:FT}{fe:FE}{O:L2.St}{H:Hp}{Q:VK}{Y:List Addr}{Z:Ev}{s:Sto}{β:Type}{kR:List D->Sto->R β}{β2:Type}{Dn:Hp->List Addr->β->β2->Prop}{Q2:β2->Hp->Prop}(hg:z4t (gm X) E mp g fg)(r:Rep (gm X) H Y s)(en:uC (gm X) H Y Z O) (h:okR (gm X) E H Y Dn ((z6r fi mp fg ft fe Z s).bind kR) Q2) (fin:∀ H1 Y1 s1 xs vs,Rep (gm X) H1 Y1 s1->uC (gm X) H1 Y1 Z O->zD (gm X) H1 Y1 xs vs->okR (gm X) E H1 Y1 Dn (kR xs s1) Q2->xs.length<=cap->∀ p,H1 p=none->Q (.ref p) (upd H1 p (.lst vs))): zdt (tI (gm X) E fi) mp g (tT (gm X) E ft) (tE (gm X) E fe) O H Q:=by
 unfold z6r at h;have assoc:∀ {α γ δ:Type}(x:R α)(f:α->Sto->R γ)(k:γ->Sto->R δ),(x.bind f).bind k=x.bind fun a s=>(f a s).bind k:=fun x f k=>by cases x<;>rfl
 rw [assoc] at h;refine ⟨Y,Z,s,r,en,(okR.bind (Dn:=zfj (gm X)) h).imp fun J H1 ⟨Y1,s1,it,stp,ok,h1⟩=>?_⟩;obtain ⟨items,gd⟩:=it;simp only at h1;refine ⟨fun i m ys H=>∃ Y s acc,xZ (gm X) H1 Y1 H Y s/\zD (gm X) H Y acc ys/\acc.length<=cap/\m=items.length-i/\i<=items.length/\ okR (gm X) E H Y Dn ((qg gd items (fun d s=>(fg d (wv mp Z) s).bind fun Z' s'=>(ft Z' s').bind fun b s2=>if b=true then (fe Z' s2).bind fun d s3=>.ok (some d) s3 else .ok none s2) (items.drop i) acc s).bind kR) Q2, ⟨items.length,Y1,s1,[],.refl stp.rep,zD.nil,Nat.zero_le _,by simp,Nat.zero_le _,by simpa using h1⟩,?_⟩;rintro i m ys H2 ⟨Y2,s2,acc,stp2,dn2,hcap,rfl,hil,h2⟩;have en2:uC (gm X) H2 Y2 Z O:=(en.mono stp).mono stp2;by_cases hlt:i<items.length
 ·right;rw [List.drop_eq_getElem_cons hlt,qg] at h2;split at h2
  ·rename_i hG;obtain ⟨go,yl⟩:=((ok H2 Y2 s2 stp2 hG i).1 items[i] (List.getElem?_eq_getElem hlt));refine ⟨go,fun x H' y=>?_⟩;obtain ⟨Y3,stp3,dn3⟩:=yl x H' y;have h3:=okR.rebase h2 stp3;rw [assoc,assoc] at h3;have h4:=okR.bind (Dn:=uC (gm X)) h3;refine hg O H' Y3 Z s2 x items[i] _ stp3.rep ((en2.mono stp3).inner) dn3 (h4.imp fun O4 H4 ⟨Y4,s4,Z4,stp4,en4,h5⟩=>?_);rw [assoc] at h5;refine ⟨Y4,Z4,s4,stp4.rep,en4,(okR.bind (Dn:=bD) h5).imp fun bb H5 ⟨Y5,s5,b',stp5,eb,h6⟩=>?_⟩;cases (show b'=bb from eb);have all5:xZ (gm X) H1 Y1 H5 Y5 s5:=((stp2.trans stp3).trans stp4).trans stp5;cases bb with
   | true=>
    rw [if_pos rfl] at h6 ⊢;rw [assoc] at h6;refine ⟨Y5,Z4,s5,stp5.rep,en4.mono stp5,(okR.bind (Dn:=Den (gm X)) h6).imp fun y H6 ⟨Y6,s6,d6,stp6,dn6,h7⟩=>?_⟩;simp only [R.bind_ok] at h7;split at h7
    ·rename_i hc;have all6:=all5.trans stp6;have dny:zD (gm X) H6 Y6 acc ys:=(((dn2.mono stp3).mono stp4).mono stp5).mono stp6;refine ⟨by rw [dn2.length];exact vJ hcap,items.length-(i+1),by omega,Y6,s6,acc++[d6],all6,dny.append (zD.one dn6),by simp;omega,rfl,hlt,h7⟩
    ·exact h7.elim | false=>
    rw [if_neg (by decide)] at h6 ⊢;simp only [R.bind_ok] at h6;exact ⟨items.length-(i+1),by omega,Y5,s5,acc,all5,((dn2.mono stp3).mono stp4).mono stp5,hcap,rfl,hlt,h6⟩
  ·exact h2.elim
 ·left;have e:i=items.length:=by omega
  subst e;rw [List.drop_length,qg] at h2;split at h2
  ·rename_i hG;simp only [R.bind_ok] at h2;exact ⟨(ok H2 Y2 s2 stp2 hG _).2 (Nat.le_refl _),by rw [dn2.length];exact vJ hcap,fin H2 Y2 s2 acc ys stp2.rep en2 dn2 h2 hcap⟩
  ·exact h2.elim
def zK(fi:FI)(mp:List (Option Nat))(fg:FG)(ft:FT)(fe:FE):FE:=fun Z s=>(z6r fi mp fg ft fe Z s).bind fun xs s1=>.ok (.lst xs) s1
def z3Z(fi:FI)(mp:List (Option Nat))(fg:FG)(ft:FT)(fe:FE):FE:=fun Z s=>(z6r fi mp fg ft fe Z s).bind fun xs s1=>if D.flat.flats xs=true then .ok (.loc s1.length) (s1++[xs]) else .no
def yU:FT:=fun _ s=>.ok true s
theorem yG{Yy:Cx}:z8d Yy [] (tT (gm Yy) E yU):=fun pins s O H Q I ⟨Y,Z,st,r,en,h⟩=>zd8 pins s O H Q I (h.here (b:=true) r rfl)
theorem z7B{Yy:Cx}{f:FT}(h:RT Yy E c f):z8d Yy [c] (tT (gm Yy) E f):=zcm h
section
variable {scope:Scope}{ifs:List Expr}{fi:FI}{fg:FG}{ft:FT}{fe:FE}{g:TG}{spos py:Pos}
theorem zia(N':List Str)(mp:List (Option Nat))(hc:X.calm=true)(hi:RI X E tg iter fi)(hg:∀ ex s H,PG (zU X N' scope ex s H) tg g)(hgt:z4t (gm X) E mp g fg)(ht:∀ ex s H,z8d (zU X N' scope ex s H) ifs (tT (gm X) E ft))(he:∀ ex s H,RE (zU X N' scope ex s H) E elt fe) (hkd:scope.kind=.function)(hnm:∀ y∈scope.names,scope.names.lookup y.1=some y.2) (hfr:∀ y∈scope.names,y.2=.free->X.env.kindOf y.1=some .cell\/X.env.kindOf y.1=some .free)(hmp:z3L X.N scope.names N' mp=true) (hs:∀ x,foldedSetIterable iter X.env x=pure x:=by intro _;rfl):RE X E (.ListComp elt [⟨tg,iter,ifs,0⟩] scope pos) (zK fi mp fg ft fe):= zV (zeY (te:=tE (gm X) E fe) N' mp hc hi hg ht (fun ex s H=>he ex s H) hkd hnm hfr hmp hs).freeze fun O H Q ⟨Y,Z,s,r,en,h⟩=> z4q hgt r en h fun H1 Y1 s1 xs vs r1 en1 dn h1 hcap=>z08 r1 h1 dn
theorem z93 {i:Nat} {y:Str} (N':List Str) (mp:List (Option Nat)) (hN:X.N.Nodup) (hc:X.calm=true) (hi:RI X E tg iter fi) (hg:∀ ex s H,PG (zU X N' scope ex s H) tg g) (hgt:z4t (gm X) E mp g fg) (ht:∀ ex s H,z8d (zU X N' scope ex s H) ifs (tT (gm X) E ft)) (he:∀ ex s H,RE (zU X N' scope ex s H) E elt fe) (hkd:scope.kind=.function) (hnm:∀ y∈scope.names,scope.names.lookup y.1=some y.2) (hfr:∀ y∈scope.names,y.2=.free->X.env.kindOf y.1=some .cell\/X.env.kindOf y.1=some .free) (hmp:z3L X.N scope.names N' mp=true) (hy:X.N[i]? = some y:=by rfl) (hyl:Loc X.env.scope y:=by first | exact Or.inl rfl | exact Or.inr rfl) (hs:∀ x,foldedSetIterable iter X.env x=pure x:=by intro _;rfl) (hsw:swapsWith (.ListComp elt [⟨tg,iter,ifs,0⟩] scope pos) (some (.Name y py)) spos.line X.env=pure true:=by rfl) (hf:X.fn y=true\/X.env.scope.names.lookup y=some .local:=by first | exact .inl rfl | exact .inr rfl | assumption): RS X E (.Assign [.Name y py] (.ListComp elt [⟨tg,iter,ifs,0⟩] scope pos) spos) (wx i (zK fi mp fg ft fe)):= uN (z81 (te:=tE (gm X) E fe) N' mp hN hy hyl hc hi hg ht (fun ex s H=>he ex s H) hkd hnm hfr hmp hs hsw hf) fun D O H ⟨Y,Z,s,r,en,h⟩=>by
  have assoc:∀ {α γ δ:Type} (x:R α) (f:α->Sto->R γ) (k:γ->Sto->R δ),(x.bind f).bind k=x.bind fun a s=>(f a s).bind k:=fun x f k=>by cases x<;>rfl
  unfold wx zK at h;rw [assoc] at h;refine z4q hgt r en h fun H1 Y1 s1 xs vs r1 en1 dn h1 hcap p hp=>?_;refine z08 (E:=E) (mg:=gm X) (xs:=xs) r1 (fun v H2 Y2 stp dn2=>?_) dn p hp;exact h1 (.nx (O.set i (some v))) H2 Y2 stp ((en1.mono stp).set dn2 i)
theorem z91{i:Nat}{y:Str}(N':List Str)(mp:List (Option Nat))(hN:X.N.Nodup)(hc:X.calm=true)(hi:RI X E tg iter fi)(hg:∀ ex s H,PG (zU X N' scope ex s H) tg g)(hgt:z4t (gm X) E mp g fg)(ht:∀ ex s H,z8d (zU X N' scope ex s H) ifs (tT (gm X) E ft))(he:∀ ex s H,RE (zU X N' scope ex s H) E elt fe) (hkd:scope.kind=.function)(hnm:∀ y∈scope.names,scope.names.lookup y.1=some y.2) (hfr:∀ y∈scope.names,y.2=.free->X.env.kindOf y.1=some .cell\/X.env.kindOf y.1=some .free)(hmp:z3L X.N scope.names N' mp=true)(hy:X.N[i]? = some y:=by rfl)(hyl:Loc X.env.scope y:=by first | exact Or.inl rfl | exact Or.inr rfl) (hs:∀ x,foldedSetIterable iter X.env x=pure x:=by intro _;rfl) (hsw:swapsWith (.ListComp elt [⟨tg,iter,ifs,0⟩] scope pos) (some (.Name y py)) spos.line X.env=pure true:=by rfl) (hf:X.fn y=true\/X.env.scope.names.lookup y=some .local:=by first | exact .inl rfl | exact .inr rfl | assumption): RS X E (.Assign [.Name y py] (.ListComp elt [⟨tg,iter,ifs,0⟩] scope pos) spos) (wx i (z3Z fi mp fg ft fe)):= uN (z9F (te:=tE (gm X) E fe) N' mp hN hy hyl hc hi hg ht (fun ex s H=>he ex s H) hkd hnm hfr hmp hs hsw hf) fun D O H ⟨Y,Z,s,r,en,h⟩=>by
  have assoc:∀ {α γ δ:Type}(x:R α)(f:α->Sto->R γ)(k:γ->Sto->R δ),(x.bind f).bind k=x.bind fun a s=>(f a s).bind k:=fun x f k=>by cases x<;>rfl
  unfold wx z3Z at h;rw [assoc] at h;refine z4q hgt r en h fun H1 Y1 s1 xs vs r1 en1 dn h1 hcap p hp=>?_;split at h1
  ·rename_i hf;have stp:=xZ.layL (p:=p) r1 hp dn hf;refine h1 (.nx (O.set i (some (.ref p)))) _ _ stp ((en1.mono stp).set ?_ i);simp only [Den];exact ⟨p,rfl,by rw [<- r1.len];simp,vs,yg⟩
  ·exact h1.elim
end
end
section
variable {X:Cx}{E:XK}{e a b c tg iter elt:Expr}{es:List Expr}{pos:Pos}{CX:CXT}{mp:List (Option Nat)}
def zdN(K:W.Frag)(i j:Nat):TG:=zl1 K 2 (zft (z9R i) (zft (z9R j) zl5))
theorem z0i(i j:Nat){x y:Str}{px py:Pos}{kt:Nat}(hc:X.calm=true)(hN:X.N.Nodup)(hi:X.N[i]? = some x:=by rfl)(hj:X.N[j]? = some y:=by rfl)(hx:Loc X.env.scope x:=by first | exact Or.inl rfl | exact Or.inr rfl)(hy:Loc X.env.scope y:=by first | exact Or.inl rfl | exact Or.inr rfl) (hf:X.fn x=true\/X.env.scope.names.lookup x=some .local:=by first | exact .inl rfl | exact .inr rfl | assumption)(hf':X.fn y=true\/X.env.scope.names.lookup y=some .local:=by first | exact .inl rfl | exact .inr rfl | assumption): PG X (.Tuple [.Name x px,.Name y py] kt pos) (zdN X.K i j):=zdT hc (z1O (yq hN hi hx hf) (z1O (yq hN hj hy hf') zbY))
theorem kO(i j:Nat)(hij:i≠j)(h:mp[i]? = some none)(h':mp[j]? = some none):z4t (gm X) E mp (zdN X.K i j) (uM i j):=fun O H Y Z s x d Q r en dn ok=>by
 unfold uM at ok;split at ok
 ·rename_i d1 d2;obtain ⟨p,vs,rfl,q1,q2⟩:=jG (K:=X.K) dn;obtain ⟨v1,v2,rfl,e1,e2⟩:=z60 q2;have k1:=z4Q (v:=v1) (z1V h O);have own2:((inner mp O).set i (some v1))[j]? = some none:=by rw [List.getElem?_set_ne hij];exact z1V h' O
  have k2:=z4Q (v:=v2) own2;exact ⟨p,[v1,v2],rfl,q1,rfl,v1,[v2],rfl,v2,[],rfl,rfl,⟨k2.1.trans k1.1,fun l u e=>k2.2 l u (k1.2 l u e)⟩,okR.here ok r ((en.set e1 i).set e2 j)⟩
 ·exact ok.elim
end
def zr(N:List Str)(ds:List D):Ev:=ds.map some++List.replicate (N.length-ds.length) none
theorem jo{mg:Gm}{H:Hp}{Y:List Addr}{N:List Str}:∀ {ds:List D}{vs:List V},zD mg H Y ds vs->uC mg H Y (zr N ds) (L2.start N vs):=fun {ds vs} h=>by
 have hl:=h.length;refine ⟨by simp [zr,L2.start,hl],fun i d e=>?_⟩;unfold zr at e;have hi:i<ds.length:=by
  by_cases hi:i<ds.length;·exact hi
  ·rw [List.getElem?_append_right (by simpa using hi),List.getElem?_replicate] at e;split at e<;>cases e
 rw [List.getElem?_append_left (by simpa using hi),List.getElem?_map] at e;have e':ds[i]? = some d:=by cases q:ds[i]? with
  | none=>rw [q] at e;cases e | some x=>rw [q] at e;simp at e;rw [e]
 obtain ⟨v,h1,h2⟩:=h.get e';refine ⟨v,?_,h2⟩;unfold L2.start;rw [List.getElem?_append_left (by simpa [hl] using hi),List.getElem?_map,h1];rfl
def Mof(N:List Str)(n:Nat)(fs:FS):Mir:=fun ds s=>if ds.length=n then (match fs (zr N ds) s with
 | .ok (.rt d) s'=>.ok d s' | .ok (.nx _) s'=>.ok .non s' | _=>.no) else .no
section
variable {P:Program}{w:World}{K:W.Frag}{mg:Str->Option Value}{base:Heap}
theorem Has.mono{CX:CXT}{x:Str}{n m:Nat}{M:Mir}(h:Has P w K mg base CX x n M)(hl:n<=m):Has P w K mg base CX x m M:=by
 obtain ⟨f,fd,ps,F,r⟩:=h;exact ⟨f,fd,ps,F.mono hl,r⟩
theorem zM{x qual:Str}{st:Stmt}{f:Addr}{fd:FuncData}{N ps:List Str}{k n:Nat}{fs:FS}(F:Fun K x qual st f fd)(hm:mg x=some (.ref f))(hb:Binds K fd ps [])(S:zv N ps (zf st))(hn:ps.length=n) (body:∀ (cdv:Value)(A:Around)(outer:List Env)(s:Shared)(H:Hp)(E:XK),z0l k (A.deeper (envOfC qual (zf st) s.heap.objs.size f cdv))->(z2c CX0 P w K mg base N qual (zf st) f cdv A outer s H E).nox.calm=true-> RSs (z2c CX0 P w K mg base N qual (zf st) f cdv A outer s H E).nox E0 (wY st) fs):Has P w K mg base CX0 x (k+1) (Mof N n fs):=by
 subst hn;refine ⟨f,fd,ps,F.ok S (fun vs H Q E h=>?_) (fun cdv A outer s H vs Q E hr h=>?_),hb,F.kp,hm⟩
 ·obtain ⟨Y,s,ds,_,dn,h⟩:=h;unfold Mof at h;split at h;·rename_i e;rw [dn.length];exact e
  ·exact h.elim
 ·obtain ⟨Y,st0,ds,r,dn,h⟩:=h;refine ⟨_,body cdv A outer s H E hr (by show A.handled.isNone=true;rw [show A.handled=none from hr.hd];rfl),Y,zr N ds,st0,r,jo dn,?_⟩;unfold Mof at h;split at h
  ·split at h
   ·rename_i d s' e;rw [e];intro fv H' Y' stp fd;cases fv with
    | rt v=>exact h v H' Y' stp fd | _=>exact (show False from fd).elim
   ·rename_i Z s' e;rw [e];intro fv H' Y' stp fd;cases fv with
    | nx v=>exact h .non H' Y' stp (by simp [Den]) | _=>exact (show False from fd).elim
   ·exact h.elim
  ·exact h.elim
end
def zeN(K:W.Frag):Sp:=fun vs H Q _=>∃ (a:Addr)(ns:List Int),vs=[.ref a]/\ziT H/\SqL K H a (ns.map V.int)/\ns.length<=63/\∀ H',Q (.bl true) H'
theorem z0U{mg:Gm}{H:Hp}{Y:List Addr}:∀ (ns:List Int),zD mg H Y (ns.map D.int) (ns.map V.int)
 | []=>zD.nil | n::ns=>zD.cons yA (z0U ns)
theorem zhv{P:Program}{w:World}{K:W.Frag}{mg:Str->Option Value}{base:Heap}{x:Str}{n:Nat}{M:Mir}{f:Addr}{fd:FuncData}{ps:List Str}(F:z4h P w K mg base CX0 n f fd ps (zdw ⟨mg,K⟩ M)) (h:∀ ns:List Int,ns.length<=63->∃ s',M [.scr (ns.map D.int)] []=.ok (.bl true) s'):z4h P w K mg base CX0 n f fd ps (zeN K):= F.imp fun vs H Q E ⟨a,ns,e,ho,hq,hl,q⟩=>by
  subst e;obtain ⟨s',hs⟩:=h ns hl;refine ⟨[],[],[.scr (ns.map D.int)],⟨rfl,List.nodup_nil,fun l xs z=>by simp at z,fun xs z=>by simp at z⟩,zD.one ?_,?_⟩
  ·simp only [Den];refine ⟨a,ns.map V.int,rfl,?_,z0U ns⟩;rcases hq with (z | z) | z
   ·rcases ho a with y | ⟨o,xs,y⟩;·rw [y] at z;cases z
    ·rw [y] at z;cases z
   ·exact .inl z
   ·exact .inr z
  ·rw [hs];intro v H' Y' stp dn;cases jS dn;exact q H'
section
variable {X:Cx}{E:XK}{e a b c tg iter elt:Expr}{es:List Expr}{pos:Pos}{CX:CXT}
def ua(f:FE):FE:=fun Z s=>(f Z s).bind fun d s1=>match d with | .int i=>.ok (.int (-i)) s1 | _=>.no
theorem ud{f:FE}(h:RE X E a f):RE X E (.UnaryOp .USub a pos) (ua f):= zV (zkq zib h) fun O H Q ⟨Y,Z,s,r,en,h⟩=>by
  refine yr (k:=fun Z d s1=>match d with | .int i=>R.ok (D.int (-i)) s1 | _=>.no) r en h _ fun v H1 Y1 s1 d r1 en1 dn stp h1=>?_;cases d with
  | int i=>
   cases ye dn;exact ⟨i,rfl,okR.here (b:=V.int (-i)) h1 r1 yA⟩ | _=>exact h1.elim
theorem zaO{op op':CmpOp}{fo fo':D->D->Sto->R D}{fa fb fc:FE}(ho:∃ r,OpR X (compareOp op) r/\OpF X E r fo)(ho':∃ r,OpR X (compareOp op') r/\OpF X E r fo')(ha:RE X E a fa)(hb:RE X E b fb)(hc:RE X E c fc) (hm:lastMarks [op,op'] [b,c]=false:=by with_unfolding_all rfl):RT X E (.Compare a [op,op'] [b,c] pos) (tOf (z2B fo fo' fa fb fc)):=by
 obtain ⟨r,h1,h2⟩:=ho;obtain ⟨r',h1',h2'⟩:=ho';exact z8N (zcF h1 h1' ha hb hc hm) fun O H Q h=>by
  have q:=z4P h;exact z6L h2 h2' q
def uw(i:Int)(n:Nat):List D:=(List.range n).map fun (k:Nat)=>D.int (i+((k:Nat):Int))
def zbf(f:FA):FI:=fun Z s=>(f Z s).bind fun ds s1=>match ds with
 | [.int i,.int j]=>if -(2 ^ 62)<=i/\i<2 ^ 62/\-(2 ^ 62)<=j/\j<2 ^ 62 then .ok (uw i (j-i).toNat,[]) s1 else .no | _=>.no
theorem zcJ{p:Pos}{f:FA}(hg:Gl X "range")(hm:X.mg "range"=none)(ha:RA X E [a,b] f)(hs:starEach [a,b] X.env=[(false,eval a X.env),(false,eval b X.env)]:=by rfl)(hs2:starEach [b] X.env=[(false,eval b X.env)]:=by rfl):RI X E tg (.Call (.Name "range" p) [a,b] [] pos) (zbf f):= z8p (zbn hg hm ha hs hs2) fun O H Q ⟨Y,Z,s,r,en,h⟩=>by
  unfold zbf at h;refine ⟨Y,Z,s,r,en,(okR.bind (Dn:=zD (gm X)) h).imp fun vs H1 ⟨Y1,s1,ds,stp,dn,h1⟩=>?_⟩;split at h1
  ·rename_i i j;split at h1
   ·rename_i hj;obtain ⟨v,v',rfl,d1,d2⟩:=z60 dn;cases ye d1;cases ye d2;refine ⟨i,j,rfl,hj,h1.here stp.rep fun H2 Y2 s2 stp2 _ k=>⟨fun d hd=>?_,fun hl=>?_⟩⟩
    ·have hi:k<(j-i).toNat:=by
      have:=(List.getElem?_eq_some_iff.mp hd).1;simpa [uw] using this
     refine ⟨hi,fun x H' ⟨e1,e2⟩=>?_⟩;subst e1 e2;refine ⟨Y2,.refl stp2.rep,?_⟩;have e3:d=D.int (i+k):=by
      simp only [uw,List.getElem?_map,List.getElem?_range hi,Option.map_some,Option.some.injEq] at hd;exact hd.symm
     rw [e3];exact yA
    ·have:(uw i (j-i).toNat).length=(j-i).toNat:=by simp [uw]
     show (j-i).toNat<=k;rw [<- this];exact hl
   ·exact h1.elim
  ·exact h1.elim
end
def isK(o:Option NameKind)(k:NameKind):Bool:=match o,k with
 | some .local,.local=>true | some .cell,.cell=>true | some .free,.free=>true | some .globalImplicit,.globalImplicit=>true | _,_=>false
theorem zbL{o:Option NameKind}{k:NameKind}(h:isK o k=true):o=some k:=by cases o with
 | none=>cases k<;>simp [isK] at h | some j=>cases j<;>cases k<;>first | rfl | simp [isK] at h
def isF(k:NameKind):Bool:=match k with | .free=>true | _=>false
theorem zgC{k:NameKind}(h:k=.free):isF k=true:=by subst h;rfl
def zdd(ko:Str->Option NameKind)(names:List (Str×NameKind)):Bool:=names.all fun y=>!isF y.2||(isK (ko y.1) .cell||isK (ko y.1) .free)
theorem z4O{ko:Str->Option NameKind}{names:List (Str×NameKind)}(h:zdd ko names=true):∀ y∈names,y.2=.free->ko y.1=some .cell\/ko y.1=some .free:=fun y hy hf=>by
 have:=List.all_eq_true.mp h y hy;rw [zgC hf] at this;simp only [Bool.not_true,Bool.false_or,Bool.or_eq_true] at this;exact this.imp zbL zbL
def zco(names:List (Str×NameKind)):Bool:=names.all fun y=>isK (names.lookup y.1) y.2
theorem z50{names:List (Str×NameKind)}(h:zco names=true):∀ y∈names,names.lookup y.1=some y.2:=fun y hy=>by
 have:=List.all_eq_true.mp h y hy;exact zbL this
section
variable {X:Cx}{E:XK}{e a b c tg iter elt:Expr}{es:List Expr}{pos:Pos}{CX:CXT}
variable {scope:Scope}{ifs:List Expr}{fi:FI}{fg:FG}{ft:FT}{fe:FE}{g:TG}{spos py:Pos}
theorem zgv{x:Str}{i:Int}(hg:Gl X x)(hm:∃ t,X.mg x=some (.int i t))(hd:(x==("__debug__":Str))=false:=by decide):RE X E (.Name x pos) (eC (.int i)):=let ⟨_,h⟩:=hm;zi6 hg h hd
theorem yD(N':List Str)(mp:List (Option Nat))(hc:X.calm=true)(hi:RI X E tg iter fi)(hg:∀ ex s H,PG (zU X N' scope ex s H) tg g)(hgt:z4t (gm X) E mp g fg)(ht:∀ ex s H,z8d (zU X N' scope ex s H) ifs (tT (gm X) E ft))(he:∀ ex s H,RE (zU X N' scope ex s H) E elt fe) (hkd:scope.kind=.function:=by rfl)(hnm:zco scope.names=true:=by rfl)(hfr:zdd X.env.kindOf scope.names=true:=by rfl)(hmp:z3L X.N scope.names N' mp=true:=by rfl) (hs:∀ x,foldedSetIterable iter X.env x=pure x:=by intro _;rfl):RE X E (.ListComp elt [⟨tg,iter,ifs,0⟩] scope pos) (zK fi mp fg ft fe):= zia N' mp hc hi hg hgt ht he hkd (z50 hnm) (z4O hfr) hmp hs
theorem zgc(i:Nat){y:Str}(N':List Str)(mp:List (Option Nat))(hN:X.N.Nodup)(hc:X.calm=true)(hi:RI X E tg iter fi)(hg:∀ ex s H,PG (zU X N' scope ex s H) tg g)(hgt:z4t (gm X) E mp g fg)(ht:∀ ex s H,z8d (zU X N' scope ex s H) ifs (tT (gm X) E ft))(he:∀ ex s H,RE (zU X N' scope ex s H) E elt fe) (hkd:scope.kind=.function:=by rfl)(hnm:zco scope.names=true:=by rfl)(hfr:zdd X.env.kindOf scope.names=true:=by rfl)(hmp:z3L X.N scope.names N' mp=true:=by rfl)(hy:X.N[i]? = some y:=by rfl)(hyl:Loc X.env.scope y:=by first | exact Or.inl rfl | exact Or.inr rfl) (hs:∀ x,foldedSetIterable iter X.env x=pure x:=by intro _;rfl) (hsw:swapsWith (.ListComp elt [⟨tg,iter,ifs,0⟩] scope pos) (some (.Name y py)) spos.line X.env=pure true:=by rfl) (hf:X.fn y=true\/X.env.scope.names.lookup y=some .local:=by first | exact .inl rfl | exact .inr rfl | assumption): RS X E (.Assign [.Name y py] (.ListComp elt [⟨tg,iter,ifs,0⟩] scope pos) spos) (wx i (zK fi mp fg ft fe)):= z93 N' mp hN hc hi hg hgt ht he hkd (z50 hnm) (z4O hfr) hmp hy hyl hs hsw hf
theorem zfv(i:Nat){y:Str}(N':List Str)(mp:List (Option Nat))(hN:X.N.Nodup)(hc:X.calm=true)(hi:RI X E tg iter fi)(hg:∀ ex s H,PG (zU X N' scope ex s H) tg g)(hgt:z4t (gm X) E mp g fg)(ht:∀ ex s H,z8d (zU X N' scope ex s H) ifs (tT (gm X) E ft))(he:∀ ex s H,RE (zU X N' scope ex s H) E elt fe) (hkd:scope.kind=.function:=by rfl)(hnm:zco scope.names=true:=by rfl)(hfr:zdd X.env.kindOf scope.names=true:=by rfl)(hmp:z3L X.N scope.names N' mp=true:=by rfl)(hy:X.N[i]? = some y:=by rfl)(hyl:Loc X.env.scope y:=by first | exact Or.inl rfl | exact Or.inr rfl) (hs:∀ x,foldedSetIterable iter X.env x=pure x:=by intro _;rfl) (hsw:swapsWith (.ListComp elt [⟨tg,iter,ifs,0⟩] scope pos) (some (.Name y py)) spos.line X.env=pure true:=by rfl) (hf:X.fn y=true\/X.env.scope.names.lookup y=some .local:=by first | exact .inl rfl | exact .inr rfl | assumption): RS X E (.Assign [.Name y py] (.ListComp elt [⟨tg,iter,ifs,0⟩] scope pos) spos) (wx i (z3Z fi mp fg ft fe)):= z91 N' mp hN hc hi hg hgt ht he hkd (z50 hnm) (z4O hfr) hmp hy hyl hs hsw hf
end
theorem zaf{mg:Str->Option Value}{h:Heap}{x:Str}{v:Value}{i:Int}(h1:mg x=some v)(r:W.ReadsLit h v (.int i) []):∃ t,mg x=some (.int i t):=by
 cases r;exact ⟨_,h1⟩
theorem zhl{P:Program}{w:World}{K:W.Frag}{mg:Str->Option Value}{base:Heap}{x qual:Str}{st:Stmt}{f:Addr}{fd:FuncData}{N ps:List Str}{k n:Nat}{fs:FS}(F:Fun K x qual st f fd)(S:zv N ps (zf st))(hn:ps.length=n) (body:∀ (cdv:Value)(A:Around)(outer:List Env)(s:Shared)(H:Hp)(E:XK),z0l k (A.deeper (envOfC qual (zf st) s.heap.objs.size f cdv))->(z2c CX0 P w K mg base N qual (zf st) f cdv A outer s H E).nox.calm=true-> RSs (z2c CX0 P w K mg base N qual (zf st) f cdv A outer s H E).nox E0 (wY st) fs):z4h P w K mg base CX0 (k+1) f fd ps (zdw ⟨mg,K⟩ (Mof N n fs)):=by
 subst hn;refine F.ok S (fun vs H Q E h=>?_) (fun cdv A outer s H vs Q E hr h=>?_)
 ·obtain ⟨Y,s,ds,_,dn,h⟩:=h;unfold Mof at h;split at h;·rename_i e;rw [dn.length];exact e
  ·exact h.elim
 ·obtain ⟨Y,st0,ds,r,dn,h⟩:=h;refine ⟨_,body cdv A outer s H E hr (by show A.handled.isNone=true;rw [show A.handled=none from hr.hd];rfl),Y,zr N ds,st0,r,jo dn,?_⟩;unfold Mof at h;split at h
  ·split at h
   ·rename_i d s' e;rw [e];intro fv H' Y' stp fd;cases fv with
    | rt v=>exact h v H' Y' stp fd | _=>exact (show False from fd).elim
   ·rename_i Z s' e;rw [e];intro fv H' Y' stp fd;cases fv with
    | nx v=>exact h .non H' Y' stp (by simp [Den]) | _=>exact (show False from fd).elim
   ·exact h.elim
  ·exact h.elim
section
variable {all xs:List D}{Z:Ev}{s:Sto}
theorem z8t{body:D->Ev->Sto->R Fl}(I:Ev->Sto->Prop):∀ (xs:List D),(∀ x∈xs,∀ Z s,I Z s->∃ Z' s',body x Z s=.ok (.nx Z') s'/\I Z' s')->∀ Z s,I Z s->∃ Z' s',xJ [] all body xs Z s=.ok (.nx Z') s'/\I Z' s'
 | [],_,Z,s,h=>⟨Z,s,by simp [xJ,okG],h⟩ | x::xs,hb,Z,s,h=>by
  obtain ⟨Z1,s1,e1,h1⟩:=hb x (by simp) Z s h;obtain ⟨Z2,s2,e2,h2⟩:=z8t I xs (fun y hy=>hb y (by simp [hy])) Z1 s1 h1;exact ⟨Z2,s2,by simp [xJ,okG,e1,e2],h2⟩
theorem z5H{body:D->Sto->R (Option D)}(f:D->D):∀ (xs acc:List D),(∀ x∈xs,body x s=.ok (some (f x)) s)->acc.length+xs.length<=cap->qg [] all body xs acc s=.ok (acc++xs.map f) s
 | [],acc,_,_=>by simp [qg,okG] | x::xs,acc,hb,hl=>by
  have ih:=z5H f xs (acc++[f x]) (fun y hy=>hb y (by simp [hy])) (by simp at hl ⊢;omega);have hc:acc.length<cap:=by simp at hl;omega
  rw [qg];simp [okG,hb x (by simp),hc,ih]
end
section
variable (i j k n:Nat)(Z:Ev)(s:Sto)(f g fa fb fc:FE)(d x y:D)(ds:List D)(ar:FA)(op op':D->D->Sto->R D)(ft ft':FT)(fs fs':FS)(M:Mir)(T:String)(fl fh fo:FO)(fi:FI)(fg:FG)(mp:List (Option Nat))(N:List Str)
@[simp] theorem zP:zc i Z s=(match Z[i]? with | some (some d)=>.ok d s | _=>.no):=id rfl
@[simp] theorem jn:eC d Z s=.ok d s:=id rfl
@[simp] theorem xc:eOp op fa fb Z s=(fa Z s).bind fun x s1=>(fb Z s1).bind fun y s2=>op x y s2:=id rfl
@[simp] theorem ym:ze M ar Z s=(ar Z s).bind fun xs s1=>M xs s1:=id rfl
@[simp] theorem zG:zj Z s=.ok [] s:=id rfl
@[simp] theorem zt:za f ar Z s=(f Z s).bind fun x s1=>(ar Z s1).bind fun xs s2=>.ok (x::xs) s2:=id rfl
@[simp] theorem uE:wT ar Z s=(ar Z s).bind fun xs s1=>if xs.length<=cap then .ok (.tup xs) s1 else .no:=id rfl
@[simp] theorem ui:vB ar Z s=(ar Z s).bind fun xs s1=>if xs.length<=cap then .ok (.lst xs) s1 else .no:=id rfl
@[simp] theorem z89:z9V ar Z s=(ar Z s).bind fun xs s1=>if xs.length<=cap/\D.flat.flats xs=true then .ok (.loc s1.length) (s1++[xs]) else .no:=id rfl
@[simp] theorem zl9:eIs T f Z s=(f Z s).bind fun d s1=>gIs T d s1:=id rfl
@[simp] theorem z2u:ua f Z s=(f Z s).bind fun d s1=>match d with | .int i=>.ok (.int (-i)) s1 | _=>.no:=id rfl
@[simp] theorem zl2:ziS f Z s=(f Z s).bind fun x s1=>match x with | .bl k=>.ok (.bl (!k)) s1 | _=>.no:=id rfl
@[simp] theorem zgG:zel fa fb Z s=(fa Z s).bind fun x s1=>match x with | .bl true=>fb Z s1 | .bl false=>.ok (.bl false) s1 | _=>.no:=id rfl
@[simp] theorem zla:eOr fa fb Z s=(fa Z s).bind fun x s1=>match x with | .bl false=>fb Z s1 | .bl true=>.ok (.bl true) s1 | _=>.no:=id rfl
@[simp] theorem zg0:eIf ft fa fb Z s=(ft Z s).bind fun x s1=>if x=true then fa Z s1 else fb Z s1:=id rfl
@[simp] theorem z36:eSl f fl fh Z s=(f Z s).bind fun x s1=>(fl Z s1).bind fun lo s2=>(fh Z s2).bind fun hi s3=>dSl x lo hi s3:=id rfl
@[simp] theorem xQ:zW Z s=.ok none s:=id rfl
@[simp] theorem wA:yE f Z s=(f Z s).bind fun d s1=>match d with | .int i=>.ok (some i) s1 | _=>.no:=id rfl
@[simp] theorem z82:tOf f Z s=(f Z s).bind fun d s1=>match d with | .bl k=>.ok k s1 | _=>.no:=id rfl
@[simp] theorem zkV:zlA ft ft' Z s=(ft Z s).bind fun x s1=>if x=true then ft' Z s1 else .ok false s1:=id rfl
@[simp] theorem zjh:fOr ft ft' Z s=(ft Z s).bind fun x s1=>if x=true then .ok true s1 else ft' Z s1:=id rfl
@[simp] theorem za7:z3d ft Z s=(ft Z s).bind fun x s1=>.ok (!x) s1:=id rfl
@[simp] theorem ziU:z2B op op' fa fb fc Z s=(fa Z s).bind fun x s1=>(fb Z s1).bind fun y s2=>(op x y s2).bind fun z s3=>match z with
 | .bl true=>(fc Z s3).bind fun w s4=>op' y w s4 | .bl false=>.ok (.bl false) s3 | _=>.no:=id rfl
@[simp] theorem zif:zQ fs fs' Z s=(fs Z s).bind fun fl s1=>match fl with | .nx Z'=>fs' Z' s1 | fl=>.ok fl s1:=id rfl
@[simp] theorem zk8:wa Z s=.ok (.nx Z) s:=id rfl
@[simp] theorem zlZ:fNo Z s=.no:=id rfl
@[simp] theorem qa:xE f Z s=(f Z s).bind fun _ s1=>.ok (.nx Z) s1:=id rfl
@[simp] theorem yC:xR f Z s=(f Z s).bind fun d s1=>.ok (.rt d) s1:=id rfl
@[simp] theorem jr:fIf ft fs fs' Z s=(ft Z s).bind fun x s1=>if x=true then fs Z s1 else fs' Z s1:=id rfl
@[simp] theorem yo:wx i f Z s=(f Z s).bind fun d s1=>.ok (.nx (Z.set i (some d))) s1:=id rfl
@[simp] theorem zak:zcx f fg Z s=(f Z s).bind fun d s1=>(fg d Z s1).bind fun Z' s2=>.ok (.nx Z') s2:=id rfl
@[simp] theorem zei:ziP i j ar Z s=(ar Z s).bind fun ds s1=>match ds with | [x,y]=>.ok (.nx ((Z.set i (some x)).set j (some y))) s1 | _=>.no:=id rfl
@[simp] theorem z1W:wb i d Z s=.ok (Z.set i (some d)) s:=id rfl
@[simp] theorem zeA:uM i j (.tup [x,y]) Z s=.ok ((Z.set i (some x)).set j (some y)) s:=id rfl
@[simp] theorem zfP:z5X fa fb fc Z s=(fc Z s).bind fun d s1=>(fa Z s1).bind fun o s2=>(fb Z s2).bind fun i s3=>match o,i with
 | .loc l,.int k=>match s3[l]? with
  | some xs=>match ixN xs.length k with
   | some j=>if d.flat=true then .ok (.nx Z) (s3.set l (xs.set j d)) else .no | none=>.no
  | none=>.no
 | _,_=>.no:=id rfl
@[simp] theorem z7b:yF f Z s=(f Z s).bind fun d s1=>match d with
 | .tup xs=>.ok (xs,[]) s1 | .lst xs=>.ok (xs,[]) s1 | .loc l=>match s1[l]? with | some xs=>.ok (xs,[(l,xs)]) s1 | none=>.no
 | _=>.no:=id rfl
@[simp] theorem zdV:z73 ar Z s=(ar Z s).bind fun ds s1=>match ds with
 | [.int j]=>if -(2 ^ 62)<=j/\j<2 ^ 62 then .ok (yP j.toNat,[]) s1 else .no | _=>.no:=id rfl
@[simp] theorem zf1:zbf ar Z s=(ar Z s).bind fun ds s1=>match ds with
 | [.int i,.int j]=>if -(2 ^ 62)<=i/\i<2 ^ 62/\-(2 ^ 62)<=j/\j<2 ^ 62 then .ok (uw i (j-i).toNat,[]) s1 else .no | _=>.no:=id rfl
@[simp] theorem zaN:zbh ar Z s=(ar Z s).bind fun ds s1=>match ds with
 | [x,y]=>match z9U s1 x,z9U s1 y with
  | some p,some q=>.ok (z4c p.1 q.1,p.2++q.2) s1 | _,_=>.no
 | _=>.no:=id rfl
@[simp] theorem z38:zaU fi fg fs Z s=(fi Z s).bind fun it s1=>xJ it.2 it.1 (fun d Z s=>(fg d Z s).bind fun Z' s'=>fs Z' s') it.1 Z s1:=id rfl
@[simp] theorem z0A:z6r fi mp fg ft f Z s=(fi Z s).bind fun it s1=>qg it.2 it.1 (fun d s=>(fg d (wv mp Z) s).bind fun Z' s'=>(ft Z' s').bind fun b s2=>if b=true then (f Z' s2).bind fun d s3=>.ok (some d) s3 else .ok none s2) it.1 [] s1:=id rfl
@[simp] theorem z07:zK fi mp fg ft f Z s=(z6r fi mp fg ft f Z s).bind fun xs s1=>.ok (.lst xs) s1:=id rfl
@[simp] theorem zd7:z3Z fi mp fg ft f Z s=(z6r fi mp fg ft f Z s).bind fun xs s1=>if D.flat.flats xs=true then .ok (.loc s1.length) (s1++[xs]) else .no:=id rfl
@[simp] theorem zbs:yU Z s=.ok true s:=id rfl
@[simp] theorem z8O:zeF fa fb Z s=(fa Z s).bind fun o s1=>match o with
 | .loc l=>(fb Z s1).bind fun d s2=>match s2[l]? with
  | some xs=>if d.flat=true/\xs.length<cap then .ok .non (s2.set l (xs++[d])) else .no | none=>.no
 | _=>.no:=id rfl
@[simp] theorem z6G:wv [] Z=[]:=id rfl
@[simp] theorem z9q:wv (some i::mp) Z=(Z[i]?).getD none::wv mp Z:=id rfl
@[simp] theorem z9x:wv (none::mp) Z=none::wv mp Z:=id rfl
variable (a b:Int)(u v:Bool)(xs ys:List D)
@[simp] theorem z41:xG (.int a) (.int b) s=.ok (.int (a+b)) s:=rfl
@[simp] theorem qK:xG (.tup xs) (.tup ys) s=if xs.length+ys.length<=cap then .ok (.tup (xs++ys)) s else .no:=rfl
@[simp] theorem z5T:xG (.lst xs) (.lst ys) s=if xs.length+ys.length<=cap then .ok (.lst (xs++ys)) s else .no:=rfl
@[simp] theorem zhm:zc3 (.int a) (.int b) s=.ok (.int (a-b)) s:=rfl
theorem z4f:xP (.int a) (.int b) s=if a.natAbs<BIG/\b.natAbs<BIG then .ok (.int (a*b)) s else .no:=by
 simp only [xP,dII,iOk];split<;>(rename_i h;split at h<;>simp_all)
theorem zaA:z7v (.int a) (.int b) s=if 0<b/\b.natAbs<BIG then .ok (.int (a / b)) s else .no:=by
 simp only [z7v,dII,iOk];split<;>(rename_i h;split at h<;>simp_all)
theorem zgU:zap (.int a) (.int b) s=if 0<b then .ok (.int (a % b)) s else .no:=by
 simp only [zap,dII,iOk];split<;>(rename_i h;split at h<;>simp_all)
theorem z8x:z1N (.int a) (.int b) s=if 0<=b/\b<=1000/\a.natAbs<1000 then .ok (.int (a ^ b.toNat)) s else .no:=by
 simp only [z1N,dII,iOk];split<;>(rename_i h;split at h<;>simp_all)
@[simp] theorem zlY:dLt (.int a) (.int b) s=.ok (.bl (decide (a<b))) s:=rfl
@[simp] theorem zlz:dLe (.int a) (.int b) s=.ok (.bl (decide (a<=b))) s:=rfl
@[simp] theorem zm5:dGt (.int a) (.int b) s=.ok (.bl (decide (b<a))) s:=rfl
@[simp] theorem zlN:dGe (.int a) (.int b) s=.ok (.bl (decide (b<=a))) s:=rfl
@[simp] theorem z7E:dEq (.int a) (.int b) s=.ok (.bl (decide (a=b))) s:=by
 have:eqD (.int a) (.int b)=decide (a=b):=by
  simp only [eqD,uc,PyData.eqv];rw [Bool.eq_iff_iff];simp
 rw [dEq,this];rfl
@[simp] theorem zkg:dNe (.int a) (.int b) s=.ok (.bl (decide (a≠b))) s:=by
 have:eqD (.int a) (.int b)=decide (a=b):=by
  simp only [eqD,uc,PyData.eqv];rw [Bool.eq_iff_iff];simp
 rw [dNe,this,if_pos (by constructor<;>rfl)];simp
@[simp] theorem zlD:dEq (.bl u) (.bl v) s=.ok (.bl (u==v)) s:=by cases u<;>cases v<;>rfl
@[simp] theorem zmb:dNe (.bl u) (.bl v) s=.ok (.bl (u != v)) s:=by cases u<;>cases v<;>rfl
end
theorem zu{f g:FS}{Z Z':Ev}{s s':Sto}(h:f Z s=.ok (.nx Z') s'):zQ f g Z s=g Z' s':=by simp [h]
theorem zbq{f g:FS}{Z:Ev}{s s':Sto}{d:D}(h:f Z s=.ok (.rt d) s'):zQ f g Z s=.ok (.rt d) s':=by simp [h]
theorem z5e{all:List D}{body:D->Ev->Sto->R Fl}(I:Nat->Ev->Sto->Prop):∀ (xs:List D)(k:Nat),(∀ j x,xs[j]? = some x->∀ Z s,I (k+j) Z s->∃ Z' s',body x Z s=.ok (.nx Z') s'/\I (k+j+1) Z' s')-> ∀ Z s,I k Z s->∃ Z' s',xJ [] all body xs Z s=.ok (.nx Z') s'/\I (k+xs.length) Z' s'
 | [],k,_,Z,s,h=>⟨Z,s,by simp [xJ,okG],h⟩ | x::xs,k,hb,Z,s,h=>by
  obtain ⟨Z1,s1,e1,h1⟩:=hb 0 x (by simp) Z s h;obtain ⟨Z2,s2,e2,h2⟩:=z5e (all:=all) I xs (k+1) (fun j y hy Z s hi=>by
   have e:k+1+j=k+(j+1):=by omega
   rw [e] at hi ⊢;exact hb (j+1) y (by simpa using hy) Z s hi) Z1 s1 h1;refine ⟨Z2,s2,by simp [xJ,okG,e1,e2],?_⟩;have e:k+(x::xs).length=k+1+xs.length:=by simp;omega
  rw [e];exact h2
theorem z5J{n j:Nat}{x:D}(h:(yP n)[j]? = some x):j<n/\x=.int j:=by
 have hj:j<n:=by
  have:=(List.getElem?_eq_some_iff.mp h).1;simpa [yP] using this
 refine ⟨hj,?_⟩;simp only [yP,List.getElem?_map,List.getElem?_range hj,Option.map_some,Option.some.injEq] at h;exact h.symm
theorem z9a {n:Nat} {x:D} (h:x∈yP n):∃ j:Nat,j<n/\x=.int j:=by
 obtain ⟨j,hj,e⟩:=List.mem_iff_getElem.mp h;have:=z5J (n:=n) (j:=j) (x:=x) (by rw [List.getElem?_eq_getElem hj,e]);exact ⟨j,this.1,this.2⟩
theorem ints_of{P:Int->Prop}:∀ {ys:List D},(∀ y∈ys,∃ n,y=.int n/\P n)->∃ ns:List Int,ys=ns.map D.int/\∀ n∈ns,P n
 | [],_=>⟨[],rfl,by simp⟩ | y::ys,h=>by
  obtain ⟨n,rfl,hn⟩:=h y (by simp);obtain ⟨ns,rfl,hs⟩:=ints_of (ys:=ys) fun z hz=>h z (by simp [hz]);refine ⟨n::ns,rfl,fun m hm=>?_⟩;rcases List.mem_cons.mp hm with rfl | hm;·exact hn
  ·exact hs m hm
theorem uF:∀ (ns:List Int),D.flat.flats (ns.map D.int)=true
 | []=>rfl | n::ns=>by simp [D.flat.flats,D.flat,uF ns]
theorem z1A(i:Int):(D.int i).flat=true:=rfl
theorem uP.flatten{mg:Gm}{H H':Hp}{Y Y':List Addr}{ys:List D}{c:Addr}(k:∀ b o,H b=some o->(∀ vs,o≠.lst vs)->(∀ kvs,o≠.dT kvs)->H' b=some o)(f:D.flat.flats ys=true)(e:H' c=H c)(h:uP mg H Y ys c):uP mg H' Y' ys c:=by
 rcases h with ⟨vs,h1,h2⟩ | ⟨kvs,h1,h2⟩;·exact .inl ⟨vs,e.trans h1,h2.flatten k f⟩
 ·exact .inr ⟨kvs,e.trans h1,h2⟩
section
variable {X:Cx}{E:XK}{e:Expr}
def zlp(f:FE):FE:=fun Z s=>match f Z s with
 | .ok (.loc l) s1=>match s1[l]? with
  | some xs=>if s.length<=l/\l+1=s1.length then .ok (.lst xs) (s1.take l) else .no | none=>.no
 | .ok _ _=>.no | .ex c s1=>.ex c s1 | .no=>.no
end
@[simp] theorem zl3 (f:FE)(Z:Ev)(s:Sto):zlp f Z s=(match f Z s with
 | .ok (.loc l) s1=>match s1[l]? with
  | some xs=>if s.length<=l/\l+1=s1.length then .ok (.lst xs) (s1.take l) else .no | none=>.no
 | .ok _ _=>.no | .ex c s1=>.ex c s1 | .no=>.no):=id rfl
end Dd
namespace Zz
open PySem.AutoSeq1 (wpAny_loadPart')
end Zz
namespace L2
open PySem.Spec Zz
theorem z39(ns:List Int):∀ n,n<=ns.length->preSum (fun i=>ns.getD i 0) n=(ns.take n).sum
 | 0,_=>by simp [preSum] | n+1,h=>by
  rw [preSum,z39 ns n (by omega),<- List.take_append_getElem (show n<ns.length by omega),List.sum_append];have e:ns.getD n 0=ns[n]:=by simp [List.getD,List.getElem?_eq_getElem (show n<ns.length by omega)]
  rw [e];simp only [List.sum_cons,List.sum_nil,Int.add_zero]
theorem zbm{X:Cx}(hc:X.calm=true):xz X (.builtin "sum") (fun xs H Q=>∃ (b:Bool)(p:Addr)(ns:List Int),xs=[.ref p]/\Sq b X.K H p (ns.map V.int)/\Q (.int ns.sum) H):=by
 intro pins s O H xs us Q I r h;obtain ⟨b,p,ns,rfl,hq,q⟩:=h;obtain ⟨u,rfl,ru⟩:=vals1 r;cases ru;obtain ⟨its,rv,co⟩:=I.sq hq;have hl:its.length=ns.length:=by have:=rv.length;simp at this;omega
 refine call_sum_walkG (z4C (I.ok.hd hc) co fun s2 e2 St W st bd old=>?_);subst e2;refine ⟨_,_,_,_,_,_,(fun i=>ns.getD i 0),rfl,W,st,bd,(fun i v e=>let ⟨t,e1,_⟩:=z21 rv e;⟨t,e1⟩),fun h' tk t' hk=>?_⟩;have ez:its.toArray.size=ns.length:=by simp [hl]
 rw [ez,z39 ns _ (Nat.le_refl _),List.take_length];exact ⟨.int ns.sum,H,I.kept (t':=tk) (old h' hk),⟨t',rfl⟩,q⟩
end L2
namespace L2
open PySem.Spec
end L2
namespace Dd
open PySem.Spec L2
section
variable {X:Cx}{E:XK}{e a b c tg iter elt:Expr}{es:List Expr}{pos:Pos}{CX:CXT}
def zjH(i j k:Nat)(f:FA):FS:=fun Z s=>(f Z s).bind fun ds s1=>match ds with | [x,y,z]=>.ok (.nx (((Z.set i (some x)).set j (some y)).set k (some z))) s1 | _=>.no
def zhH:List D->Sto->R D
 | [d],s=>match (zL s d).bind intsOf with | some ns=>.ok (.int ns.sum) s | none=>.no
 | _,_=>.no
theorem zk9(hc:X.calm=true):∃ r,xz X (.builtin "sum") r/\kA X E r zhH:=⟨_,zbm hc,fun H Y s ds vs Q r hd h=>by
 unfold zhH at h;split at h
 ·rename_i d;split at h
  ·rename_i ns e;obtain ⟨xs,e1,e2⟩:=Option.bind_eq_some_iff.mp e;have:=qU e2;subst this;obtain ⟨v,rfl,dn⟩:=z1q hd;obtain ⟨a,ws,rfl,q1,q2⟩:=uk (K:=X.K) r e1 dn;cases qW q2;obtain ⟨b,q⟩:=z8c q1;exact ⟨b,a,ns,rfl,q,h.here r yA⟩
  ·exact h.elim
 ·exact h.elim⟩
def zfr:Nat->List D->List D
 | _,[]=>[] | i,x::xs=>.tup [.int i,x]::zfr (i+1) xs
def zk6(f:FA):FI:=fun Z s=>(f Z s).bind fun ds s1=>match ds with
 | [x]=>match z9U s1 x with
  | some p=>.ok (zfr 0 p.1,p.2) s1 | none=>.no
 | _=>.no
def zcl(x y:D)(s:Sto):R D:=match listOf s x,listOf s y with
 | some a,some b=>if a.length+b.length<=cap/\D.flat.flats (a++b)=true then .ok (.loc s.length) (s++[a++b]) else .no | _,_=>.no
theorem zhw:∃ r,OpR X (binaryOp .Add) r/\OpF X E r zcl:=⟨_,zal,fun H Y s d1 d2 v1 v2 Q r h1 h2 h=>by
 unfold zcl at h;split at h
 ·rename_i xs ys ex ey;split at h
  ·rename_i hc;obtain ⟨l,vs,e,q1,q2⟩:=zT r ex h1;obtain ⟨l',vs',e',q1',q2'⟩:=zT r ey h2;exact ⟨l,l',vs,vs',e,e',q1,q1',by rw [q2.length,q2'.length];exact vJ hc.1,zav r h hc.2 (q2.append q2')⟩
  ·exact h.elim
 ·exact h.elim⟩
end
section
variable (i j k:Nat)(Z:Ev)(s:Sto)(ar:FA)
@[simp] theorem zk4:zjH i j k ar Z s=(ar Z s).bind fun ds s1=>match ds with | [x,y,z]=>.ok (.nx (((Z.set i (some x)).set j (some y)).set k (some z))) s1 | _=>.no:=id rfl
@[simp] theorem zjY:zk6 ar Z s=(ar Z s).bind fun ds s1=>match ds with
 | [x]=>match z9U s1 x with
  | some p=>.ok (zfr 0 p.1,p.2) s1 | none=>.no
 | _=>.no:=id rfl
end
end Dd
namespace L2
open PySem.Spec
def zee(n:Nat):List V:=(List.range n).map fun k=>V.int ((k:Nat):Int)
theorem kr:∀ {xs:List V}{us:List Value},us.length=xs.length->(∀ (j:Nat) u,us[j]? = some u->∃ x,xs[j]? = some x/\xx x u)->yW xs us
 | [],[],_,_=>.nil | [],_::_,h,_=>by simp at h | _::_,[],h,_=>by simp at h | x::xs,u::us,h,k=>by
  obtain ⟨y,e,r⟩:=k 0 u (by simp);have:y=x:=by simpa using e.symm
  subst this;exact .cons r (kr (by simpa using h) fun j v hv=>k (j+1) v (by simpa using hv))
theorem z61 {X:Cx} {a:Expr} {ta:TA} {p p2 pos pos2:Pos} (hc:X.calm=true) (hg:Gl X "list") (hm:X.mg "list"=none) (hg2:Gl X "range") (hm2:X.mg "range"=none) (ha:PA X [a] ta) (hs2:starEach [a] X.env=[(false,eval a X.env)]:=by rfl) (hs:starEach [.Call (.Name "range" p2) [a] [] pos2] X.env=(false,eval (.Call (.Name "range" p2) [a] [] pos2) X.env)::starEach [] X.env:=by rfl) (hpl:(backTo pos (starEach [] X.env)).any (·.1)=false:=by rfl): PE X (.Call (.Name "list" p) [.Call (.Name "range" p2) [a] [] pos2] [] pos) (fun O H Q=>ta O H fun vs H1=>∃ j:Int,vs=[.int j]/\0<=j/\j<=1000/\∀ l,H1 l=none->Q (.ref l) (upd H1 l (.lst (zee j.toNat)))):=by
 intro pins s O H Q I h;refine wpAny_Call_Name_kw (z18 I hg hm (u:=.type "list") (by decide +kernel) ?_ (by decide) (by decide));refine PyProof.Rows.callWith_type1 ?_ hs hpl;rw [hs];show wpAny _ _ (spliced ((false,eval (.Call (.Name "range" p2) [a] [] pos2) X.env)::backTo pos (starEach [] X.env))) _ _ s;refine Calls.spliced_cons (wpAny_Call_Name_kw (z18 I hg2 hm2 boot_range (PyProof.Rows.callWith_type1 (thn (ha pos2 pins s O H _ I h) fun us s1 ⟨vs,H1,I1,r1,q1⟩=>?_) hs2 rfl) (by decide) (by decide)));obtain ⟨j,e,q0,q2,q⟩:=q1;subst e;obtain ⟨u,rfl,⟨t,rfl⟩⟩:=vals1 r1;refine call_range_1 (Calls.spliced_nil ?_);have hsz:Builtin.Range.rangeSize 0 j 1=((j.toNat:Nat):Int):=by rw [rangeSize_one];split<;>omega
 refine call_list_range (I.ok.hd hc) (IsRange.new ..) (small_one (by omega) (by omega) (by omega) (by omega)) hsz (by omega) fun h' tk acc c' hk hS hacc=>?_;have I2:Inv X pins O H1 {s1 with heap:=s1.heap.push {cls:=.type "range",data:=.fields #[.int 0 s1.toks,.int j t,.int 1 (s1.toks+1)]},toks:=s1.toks+1+1}:=I1.kept fun b o e=>Heap.get?_push_of_some _ e;have hl:(zee j.toNat).length=j.toNat:=by simp [zee]
 have hv:yW (zee j.toNat) acc.toList:=kr (by simp [hacc.1,hl]) fun i v hv=>by
  obtain ⟨tk2,rfl⟩:=hacc.2 i v (by simpa using hv);have hi:i<j.toNat:=by
   have:=(List.getElem?_eq_some_iff.mp hv).1;simp [hacc.1] at this;omega
  exact ⟨.int i,by simp [zee,hi],⟨tk2,by simp⟩⟩
 refine ⟨.ref _,upd H1 _ (.lst (zee j.toNat)),I2.laid (t':=tk) hk (Nat.le_refl _) ?_,rfl,q _ (I2.hok.fresh (Nat.le_refl _))⟩;exact ⟨by rw [hl];exact Nat.le_trans (show j.toNat<=1000 by omega) (by decide),acc.toList,c',hv,by simpa using hS⟩
end L2
namespace Dd
open PySem.Spec L2
section
variable {X:Cx}{E:XK}{a:Expr}{pos:Pos}
theorem zdf{mg:Gm}{H:Hp}{Y:List Addr}(n:Nat):zD mg H Y (yP n) (zee n):=by
 unfold yP zee;induction (List.range n) with
 | nil=>exact zD.nil | cons k ks ih=>exact zD.cons yA ih
def eLR(f:FA):FE:=fun Z s=>(f Z s).bind fun ds s1=>match ds with
 | [.int j]=>if 0<=j/\j<=1000 then .ok (.lst (yP j.toNat)) s1 else .no | _=>.no
theorem z7i{p p2 pos2:Pos}{f:FA}(hc:X.calm=true)(hg:Gl X "list")(hm:X.mg "list"=none)(hg2:Gl X "range")(hm2:X.mg "range"=none)(ha:RA X E [a] f) (hs2:starEach [a] X.env=[(false,eval a X.env)]:=by rfl) (hs:starEach [.Call (.Name "range" p2) [a] [] pos2] X.env=(false,eval (.Call (.Name "range" p2) [a] [] pos2) X.env)::starEach [] X.env:=by rfl)(hpl:(backTo pos (starEach [] X.env)).any (·.1)=false:=by rfl): RE X E (.Call (.Name "list" p) [.Call (.Name "range" p2) [a] [] pos2] [] pos) (eLR f):= zV (z61 hc hg hm hg2 hm2 ha hs2 hs hpl).freeze fun O H Q ⟨Y,Z,s,r,en,h⟩=>by
  unfold eLR at h;refine ⟨Y,Z,s,r,en,(okR.bind (Dn:=zD (gm X)) h).imp fun vs H1 ⟨Y1,s1,ds,stp,dn,h1⟩=>?_⟩;split at h1
  ·rename_i j;split at h1
   ·rename_i hj;obtain ⟨v,rfl,d1⟩:=z1q dn;cases ye d1;exact ⟨j,rfl,hj.1,hj.2,z08 stp.rep h1 (zdf _)⟩
   ·exact h1.elim
  ·exact h1.elim
@[simp] theorem zkw (f:FA)(Z:Ev)(s:Sto):eLR f Z s=(f Z s).bind fun ds s1=>match ds with
 | [.int j]=>if 0<=j/\j<=1000 then .ok (.lst (yP j.toNat)) s1 else .no | _=>.no:=id rfl
end
def uH(ft:FT)(fb:FS):Nat->Ev->Sto->R Fl
 | 0,_,_=>.no | k+1,Z,s=>(ft Z s).bind fun b s1=>if b=true then (fb Z s1).bind fun fl s2=>match fl with
   | .nx Z'=>uH ft fb k Z' s2 | .ct Z'=>uH ft fb k Z' s2 | .bk Z'=>.ok (.nx Z') s2 | .rt d=>.ok (.rt d) s2 else .ok (.nx Z) s1
theorem z0y{ft:FT}{fb:FS}:∀ {k:Nat}{Z:Ev}{s:Sto},uH ft fb k Z s≠.no->uH ft fb (k+1) Z s=uH ft fb k Z s
 | 0,Z,s,h=>absurd rfl h | k+1,Z,s,h=>by
  rw [uH] at h ⊢;conv=>rhs;rw [uH]
  cases e:ft Z s with
  | no=>rfl | ex c t=>rfl | ok b s1=>
   rw [e] at h;simp only [R.bind_ok] at h ⊢;cases b with
   | false=>rfl | true=>
    rw [if_pos rfl] at h ⊢;rw [if_pos rfl];cases e2:fb Z s1 with
    | no=>rfl | ex c t=>rfl | ok fl s2=>
     rw [e2] at h;simp only [R.bind_ok] at h ⊢;cases fl with
     | nx Z'=>exact z0y h | ct Z'=>exact z0y h | bk Z'=>rfl | rt d=>rfl
theorem z8y{ft:FT}{fb:FS}{k m:Nat}{Z:Ev}{s:Sto}(h:uH ft fb k Z s≠.no)(hm:k<=m):uH ft fb m Z s=uH ft fb k Z s:=by induction hm with
 | refl=>rfl | step _ ih=>rw [z0y (by rw [ih];exact h),ih]
open Classical in
def z6s(ft:FT)(fb:FS):FS:=fun Z s=>if h:∃ k,uH ft fb k Z s≠.no then uH ft fb h.choose Z s else .no
theorem zc9{ft:FT}{fb:FS}{k:Nat}{Z:Ev}{s:Sto}{r:R Fl}(h:uH ft fb k Z s=r)(hr:r≠.no):z6s ft fb Z s=r:=by
 subst h;have hx:∃ k,uH ft fb k Z s≠.no:=⟨k,hr⟩;unfold z6s;rw [dif_pos hx];rcases Nat.le_total k hx.choose with z | z;·exact z8y hr z
 ·exact (z8y hx.choose_spec z).symm
theorem zfB {X:Cx} {E:XK} {c:Expr} {body:List Stmt} {pos:Pos} {ft:FT} {fb:FS} (hp:PassesOwn (model X.prog X.w) X.A X.env X.xe) (hc:RT X E c ft) (hb:RSs X E body fb):RS X E (.While c body [] pos) (z6s ft fb):= uN (zcH hp hc hb) fun D O H ⟨Y,Z,s,r,en,h⟩=>by
  unfold z6s at h;split at h
  ·rename_i hx;refine ⟨fun m O H=>∃ Y Z s,Rep (gm X) H Y s/\uC (gm X) H Y Z O/\okR (gm X) E H Y (FlD (gm X)) (uH ft fb m Z s) (z3o D),⟨_,Y,Z,s,r,en,h⟩,?_⟩;rintro m O H ⟨Y,Z,s,r,en,h⟩;cases m with
   | zero=>exact h.elim | succ m=>
    rw [uH] at h;refine ⟨Y,Z,s,r,en,(okR.bind (Dn:=bD) h).imp fun b H1 ⟨Y1,s1,b',stp,eb,h1⟩=>?_⟩;cases (show b'=b from eb);cases b with
    | false=>
     rw [if_neg (by decide)] at h1 ⊢;exact okR.here (b:=FlV.nx O) (Q:=z3o D) h1 stp.rep (en.mono stp) | true=>
     rw [if_pos rfl] at h1 ⊢;refine ⟨fun O' H'=>∃ Y Z s,Rep (gm X) H' Y s/\uC (gm X) H' Y Z O'/\okR (gm X) E H' Y (FlD (gm X)) (uH ft fb m Z s) (z3o D),fun O' H' q=>⟨m,Nat.lt_succ_self _,q⟩,Y1,Z,s1,stp.rep,en.mono stp,(okR.bind (Dn:=FlD (gm X)) h1).imp fun fv H2 ⟨Y2,s2,fl,stp2,dn,h2⟩=>?_⟩;cases fl with
     | nx Z'=> cases fv with
      | nx O'=>exact ⟨Y2,Z',s2,stp2.rep,dn,h2⟩ | _=>exact (show False from dn).elim
     | ct Z'=> cases fv with
      | ct O'=>exact ⟨Y2,Z',s2,stp2.rep,dn,h2⟩ | _=>exact (show False from dn).elim
     | bk Z'=> cases fv with
      | bk O'=>exact okR.here (b:=FlV.nx O') (Q:=z3o D) (a:=Fl.nx Z') (s:=s2) h2 stp2.rep dn | _=>exact (show False from dn).elim
     | rt d=> cases fv with
      | rt v=>exact okR.here (b:=FlV.rt v) (Q:=z3o D) (a:=Fl.rt d) (s:=s2) h2 stp2.rep dn | _=>exact (show False from dn).elim
  ·exact h.elim
end Dd
namespace PySem
open PySem.AutoSeq1 (wpAny_loadPart')
open MeetsSeq MeetsSeq2 SeqAt
theorem z95{M:Model}{A:Around}{E:Value->Shared->Prop}{s:Shared}{β:Type}(f:Nat->β->Sem (ForInStep β))(I:Nat->β->Shared->Prop)(Q:β->Shared->Prop)(n:Nat) (turn:∀ i b s,i<n->I i b s->wpAny M A (f i b) (fun r s'=>match r with | .yield b'=>I (i+1) b' s' | .done b'=>Q b' s') E s) (fin:∀ b s,I n b s->Q b s)(b:β)(h:I 0 b s):wpAny M A (forIn ([0:n]:Std.Legacy.Range) b f) Q E s:=by
 rw [Std.Legacy.Range.forIn_eq_forIn_range'];simp only [Std.Legacy.Range.size,Nat.sub_zero,Nat.add_sub_cancel,Nat.div_one];refine wpAny_forIn_list f (fun rest b s'=>∃ i,rest=List.range' i (n-i)/\i<=n/\I i b s') _ ?_ ?_ _ _ ⟨0,by simp,Nat.zero_le _,h⟩
 ·rintro x rest b s' ⟨i,hr,hi,hI⟩;have hlt:i<n:=by
   rcases Nat.lt_or_ge i n with h | h;·exact h
   ·rw [Nat.sub_eq_zero_of_le h] at hr;simp at hr
  obtain ⟨rfl,hrest⟩:x=i/\rest=List.range' (i+1) (n-(i+1)):=by
   have e:n-i=(n-(i+1))+1:=by omega
   rw [e,List.range'_succ] at hr;injection hr with h1 h2;exact ⟨h1,h2⟩
  refine wpAny_mono (turn x b s' hlt hI) (fun r s2 hr=>?_) fun _ _ h'=>h';cases r with
  | done b'=>exact hr | yield b'=>exact ⟨x+1,hrest,hlt,hr⟩
 ·rintro b s' ⟨i,hr,hi,hI⟩;have:i=n:=by
   have:=congrArg List.length hr;simp at this;omega
  subst this;exact fin _ _ hI
theorem z3h (l:Addr) (items:Array Value) (n:Nat) (dd:Option Addr) (sl:Array (Option Value)) (x:Value) (e:Value->Bool) (j:Nat) (hj:j<items.size) (hit:e items[j]=true) (hno:∀ m (hm:m<items.size),m<j->e items[m]=false): Meets (Builtin.«tuple.index» ⟨[.ref l,x],[]⟩) (fun A R s=>s.heap.get? l=some {cls:=.type "tuple",dict:=dd,data:=.seq items n,slots:=sl}/\(∀ y,y∈items->EqAt A.in1 s y x (e y))/\R (.ok (.ret (.int j s.toks))) {s with toks:=s.toks+1}):= .of_wp fun prog w A R s h=>by
  obtain ⟨hp,g,d,tk,os⟩:=s;obtain ⟨hl,he,h⟩:=h;have hm:min items.size items.size=items.size:=Nat.min_self _;wp_walk using wpAny_loadPart' hl,z95 _ (fun i b s'=>b.1=none/\s'=⟨hp,g,d,tk,os⟩/\i<=j) _ _;case turn=>
   rintro i ⟨b1,b2⟩ s' hi ⟨hb,rfl,hij⟩;simp only at hb;subst hb;rw [hm] at hi;rw [Array.getElem?_eq_getElem hi];refine wpAny_bind (he _ (Array.getElem_mem hi) prog w _ _ ?_);rcases Nat.lt_or_eq_of_le hij with lt | rfl
   ·rw [hno i hi lt];wp_walk;exact ⟨rfl,rfl,lt⟩
   ·rw [hit];wp_walk;exact ⟨_,rfl,h⟩
  case fin=>
   rintro ⟨b1,b2⟩ s' ⟨hb,rfl,hij⟩;rw [hm] at hij;omega
  case h=>exact ⟨rfl,rfl,Nat.zero_le _⟩
end PySem
namespace L2
open PySem.Spec
section
variable {X:Cx}{o e:Expr}{to:TE}{t:TA}{name:Str}{apos cpos:Pos}{id:String}{r:V->List V->Hp->VK->Prop}
theorem zit(slot:Slot "tuple" name id)(hty:typeOf (.builtin id)=pure (.type "method_descriptor"))(hm:MtR X id r)(ho:PE X o to)(ha:PA X [e] t) (hbase:attributeBase o name X.env (eval o X.env)=eval o X.env:=by rfl) (hfew:((backTo cpos (starEach [e] X.env)).all (fun x=>!x.1)&&(backToKw cpos (keywordEach [] X.env)).all (fun x=>x.1.isSome) && decide ([e].length+([]:List Keyword).length+(if ([]:List Keyword).isEmpty then 0 else 1)<30))=true:=by rfl) (hline:(apos.endLine==cpos.line)=true:=by rfl)(hs:starEach [e] X.env=(false,eval e X.env)::starEach [] X.env:=by rfl)(hplain:(backTo cpos (starEach [] X.env)).any (·.1)=false:=by rfl): PE X (.Call (.Attribute o name apos) [e] [] cpos) (fun O H Q=>to O H fun x H1=>(∃ p vs,x=.ref p/\H1 p=some (.tup vs))/\t O H1 fun xs H2=>r x xs H2 Q):=by
 intro pins s O H Q I h;refine wpAny_Call_method_late hbase hfew hline rfl (thn (ho pins s O H _ I h) fun v s1 ⟨x,H1,I1,r1,ty,q1⟩=>?_);obtain ⟨p,vs,rfl,hp⟩:=ty;cases r1;obtain ⟨_,its,_,ob,e1,c1,d1,n,w1⟩:=I1.hok p _ hp;refine ⟨"tuple",id,PySem.F.plainAttrs_tuple,slot,hty,⟨ob,e1,c1⟩,fun a e=>?_,?_⟩
 ·cases e;exact ⟨ob,e1,d1⟩
 have hA:=ha cpos pins s1 O H1 _ I1 q1;rw [hs] at hA ⊢;refine Calls.callWith_builtin (by show (false||(backTo cpos (starEach [] X.env)).any (·.1))=false;rw [hplain]<;>rfl) (Calls.evalArgs_plain ?_);exact thn hA fun us s2 ⟨vs,H2,I2,r2,q2⟩=>hm pins s2 O H2 (.ref p) vs _ us Q I2 rfl r2 q2
theorem z10:∀ {ns:List Int}{its:List Value},yW (ns.map V.int) its->IntsAre its ns
 | [],_,.nil=>.nil | n::ns,_,.cons r rs=>by
  obtain ⟨t,rfl⟩:=r;exact .cons n t (z10 rs)
def zkm:V->List V->Hp->VK->Prop:=fun x vs H Q=>∃ (p:Addr)(ns:List Int)(k:Int),x=.ref p/\vs=[.int k]/\H p=some (.tup (ns.map V.int))/\k∈ns/\Q (.int (ns.idxOf k:Nat)) H
theorem z7G:MtR X "tuple.index" zkm:=by
 intro pins s O H x vs v us Q I rx rv h;obtain ⟨p,ns,k,rfl,rfl,hp,hk,q⟩:=h;cases rx;obtain ⟨u,rfl,⟨t,rfl⟩⟩:=vals1 rv;obtain ⟨_,its,r,ob,e1,c1,d1,n,w1⟩:=I.hok p _ hp;have hi:=z10 r;have hlen:=hi.length;have hj:ns.idxOf k<ns.length:=List.idxOf_lt_length_iff.mpr hk;obtain ⟨cls,dd,data,sl⟩:=ob;simp only at c1 d1 w1;subst c1 d1 w1;refine call_meets PySem.F.slot_tuple_index ⟨_,e1,rfl⟩ PySem.F.entry_tuple_index (PySem.F.args_tuple_index_2 _ _) (z3h p its.toArray n _ sl (.int k t) (isInt k) (ns.idxOf k) (by simpa [hlen] using hj) ?_ ?_) ⟨e1,fun y hy=>(eq_isInt k t hi y (by simpa using hy)).at _ _,?_⟩
 ·show isInt k its[ns.idxOf k]=true;rw [isInt_at k hi _ (by omega) hj];simpa using List.getElem_idxOf hj
 ·intro j hjs hlt;show isInt k its[j]=false;rw [isInt_at k hi j (by simpa using hjs) (by omega)];exact ne_of_lt_idxOf hlt _
 ·exact ⟨.int (ns.idxOf k:Nat),H,I.kept (fun b o e=>e),⟨s.toks,rfl⟩,q⟩
end
end L2
namespace Dd
open PySem.Spec L2
section
variable {X:Cx}{E:XK}{o e:Expr}{pos:Pos}
def zck(fo fv:FE):FE:=fun Z s=>(fo Z s).bind fun o s1=>match o with
 | .tup ds=>(fv Z s1).bind fun d s2=>match intsOf ds,d with
  | some ns,.int k=>if k∈ns then .ok (.int (ns.idxOf k:Nat)) s2 else .no | _,_=>.no
 | _=>.no
theorem z7H{apos:Pos}{fo fv:FE}(ho:RE X E o fo)(hv:RE X E e fv)(hbase:attributeBase o "index" X.env (eval o X.env)=eval o X.env:=by rfl) (hfew:((backTo pos (starEach [e] X.env)).all (fun x=>!x.1)&&(backToKw pos (keywordEach [] X.env)).all (fun x=>x.1.isSome) && decide ([e].length+([]:List Keyword).length+(if ([]:List Keyword).isEmpty then 0 else 1)<30))=true:=by rfl) (hline:(apos.endLine==pos.line)=true:=by rfl)(hs:starEach [e] X.env=(false,eval e X.env)::starEach [] X.env:=by rfl)(hplain:(backTo pos (starEach [] X.env)).any (·.1)=false:=by rfl): RE X E (.Call (.Attribute o "index" apos) [e] [] pos) (zck fo fv):= zV (zit PySem.F.slot_tuple_index PySem.F.type_tuple_index z7G ho (va hv kI hs) hbase hfew hline hs hplain) fun O H Q ⟨Y,Z,s,r,en,h⟩=>by
  unfold zck at h;refine ⟨Y,Z,s,r,en,(okR.bind (Dn:=Den (gm X)) h).imp fun ov H1 ⟨Y1,s1,od,stp,dn,h1⟩=>?_⟩;cases od with
  | tup ds=>
   simp only at h1;have hty:∃ p vs,ov=.ref p/\H1 p=some (.tup vs):=by
    simp only [Den] at dn;obtain ⟨a,vs,rfl,e1,_⟩:=dn;exact ⟨a,vs,rfl,e1⟩
   refine ⟨hty,⟨Y1,Z,s1,stp.rep,en.mono stp,(okR.bind (Dn:=Den (gm X)) h1).imp fun v H2 ⟨Y2,s2,d,stp2,dn2,h2⟩=>?_⟩⟩;split at h2
   ·rename_i ns k ei;split at h2
    ·rename_i hk;have dov:=dn.mono stp2;simp only [Den] at dov;obtain ⟨a,vs,rfl,e1,e2⟩:=dov;rw [qU ei] at e2;cases qW e2;cases ye dn2;exact ⟨a,ns,k,rfl,rfl,e1,hk,okR.here h2 stp2.rep yA⟩
    ·exact h2.elim
   ·exact h2.elim | _=>exact h1.elim
@[simp] theorem ziy (fo fv:FE)(Z:Ev)(s:Sto):zck fo fv Z s=(fo Z s).bind fun o s1=>match o with
 | .tup ds=>(fv Z s1).bind fun d s2=>match intsOf ds,d with
  | some ns,.int k=>if k∈ns then .ok (.int (ns.idxOf k:Nat)) s2 else .no | _,_=>.no
 | _=>.no:=id rfl
end
def zfH(P:Program)(w:World)(K:W.Frag)(mg:Str->Option Value)(x:Str)(tb:List (Str×Str)):Prop:= ∃ a o es ep,mg x=some (.ref a)/\(a==sysModules)=false/\K.lookup a=some o/\o.ExactDict/\o.data=.dict es ep/\PySem.KeysOf (yd P w) es/\ (∀ k y,tb.lookup k=some y->∃ f,findBy (yd P w).is es (.inr k)=some (.ref f)/\mg y=some (.ref f))/\∀ k,tb.lookup k=none->findBy (yd P w).is es (.inr k)=none
theorem z6m{P:Program}{w:World}{k:Str}{u:Value}(r:xx (.str k) u):(yd P w).is (.inr k) u=true:=by
 obtain ⟨t,e⟩:=(show ∃ t,u=Value.str k t from r);subst e;exact z3b k t
section
variable {X:Cx}{E:XK}{e a b c:Expr}{es:List Expr}{pos:Pos}{CX:CXT}
theorem z86{pins:List (Addr×Obj)}{O:L2.St}{H:Hp}{s:Shared}{o:Obj}{d:Addr}{en:Array DictEntry}{ep:Nat}(I:Inv X pins O H s)(hk:X.K.lookup d=some o)(hx:o.ExactDict)(hd:o.data=.dict en ep)(ks:PySem.KeysOf (yd X.prog X.w) en): s.heap.MapOf (yd X.prog X.w) d (fun k=>findBy (yd X.prog X.w).is en k):=⟨o,en,ep,I.kIn d o hk,hx,hd,ks,fun _=>rfl⟩
def zj2(tb:List (Str×Str))(f:FE):FE:=fun Z s=>(f Z s).bind fun d s1=>match d with
 | .str k=>match tb.lookup k with | some y=>.ok (.fn y) s1 | none=>.no
 | _=>.no
theorem zjx{x:Str}{p:Pos}{tb:List (Str×Str)}{f:FE}(hT:zfH X.prog X.w X.K X.mg x tb)(hg:Gl X x)(he:RE X E e f)(hs:z5p e)(hdb:(x==("__debug__":Str))=false:=by decide): RE X E (.Subscript (.Name x p) e pos) (zj2 tb f):=by
 obtain ⟨d,o,en,ep,hm,hsm,hk,hx,hd,ks,h1,h2⟩:=hT;refine zV (zfo (r:=fun v y H Q=>v=.ref d/\∃ k g,y=.str k/\findBy (yd X.prog X.w).is en (.inr k)=some (.ref g)/\Q (.ref g) H) ?_ (z2F hg hm (show xx (.ref d) (.ref d) from rfl) hdb) he hs) fun O H Q ⟨Y,Z,s,r,en',h⟩=>?_
 ·intro value slice pins s O H v y u u2 Q I rx ry h hs2;obtain ⟨rfl,k,g,rfl,hf,q⟩:=h;cases rx;have mp:=z86 I hk hx hd ks;exact subscriptTail_builtinR (x:=.ref g) mp.typeIs PySem.F.slot_dict_getitem.lookup (wpAny_getItem_of (Q:=fun r s'=>r=.ref g/\EP X pins O Q r s') (z6m ry) mp hf ⟨rfl,.ref g,H,I.tok _,rfl,q⟩) hs2
 ·unfold zj2 at h;refine ⟨Y,Z,s,r,en',(okR.bind (Dn:=Den (gm X)) h).imp fun v H1 ⟨Y1,s1,dd,stp,dn,q⟩=>?_⟩;split at q
  ·rename_i k;split at q
   ·rename_i y hy;obtain ⟨g,e1,e2⟩:=h1 k y hy;cases vP dn;exact ⟨rfl,k,g,rfl,e1,okR.here (b:=V.ref g) q stp.rep (by simp only [Den];exact ⟨g,rfl,e2⟩)⟩
   ·exact q.elim
  ·exact q.elim
def z8v(tb:List (Str×Str))(neg:Bool)(f:FE):FE:=fun Z s=>(f Z s).bind fun d s1=>match d with
 | .str k=>.ok (.bl (xor neg (tb.lookup k).isSome)) s1 | _=>.no
theorem zga{x:Str}{p:Pos}{tb:List (Str×Str)}{f:FE}(hT:zfH X.prog X.w X.K X.mg x tb)(hg:Gl X x)(he:RE X E e f)(hm':behindInMarks .In (.Name x p)=false:=by rfl)(hdb:(x==("__debug__":Str))=false:=by decide): RE X E (.Compare e [.In] [.Name x p] pos) (z8v tb false f):=by
 obtain ⟨d,o,en,ep,hm,hsm,hk,hx,hd,ks,h1,h2⟩:=hT;refine zV (zbI (r:=fun y v H Q=>v=.ref d/\∃ k,y=.str k/\Q (.bl (findBy (yd X.prog X.w).is en (.inr k)).isSome) H) ?_ he (z2F hg hm (show xx (.ref d) (.ref d) from rfl) hdb) hm') fun O H Q ⟨Y,Z,s,r,en',h⟩=>?_
 ·intro pins s O H y v u u2 Q I ry rx h;obtain ⟨rfl,k,rfl,q⟩:=h;cases rx;exact wpAny_in_of (z6m ry) hsm (z86 I hk hx hd ks) ⟨.bl _,H,I.tok _,rfl,q⟩
 ·unfold z8v at h;refine ⟨Y,Z,s,r,en',(okR.bind (Dn:=Den (gm X)) h).imp fun v H1 ⟨Y1,s1,dd,stp,dn,q⟩=>?_⟩;split at q
  ·rename_i k;cases vP dn;have e0:(findBy (yd X.prog X.w).is en (.inr k)).isSome=(tb.lookup k).isSome:=by cases z:tb.lookup k with
    | none=>rw [h2 k z];rfl | some y=>obtain ⟨g,e1,_⟩:=h1 k y z;rw [e1];rfl
   exact ⟨rfl,k,rfl,okR.here (b:=V.bl _) q stp.rep (by simp [Den,e0])⟩
  ·exact q.elim
def z8K(i:Nat)(Ms:List (Str×Mir))(f:FA):FE:=fun Z s=>match Z[i]? with
 | some (some (.fn y))=>match Ms.lookup y with
  | some M=>(f Z s).bind fun xs s1=>M xs s1 | none=>.no
 | _=>.no
theorem zfU (i:Nat) {x:Str} {p:Pos} {n:Nat} {Ms:List (Str×Mir)} {f:FA} (F:∀ y M,Ms.lookup y=some M->Has X.prog X.w X.K X.mg X.base CX y n M) (hr:z0l n X.A) (hxx:Passes CX X E) (ha:RA X E (e::es) f) (hN:X.N[i]? = some x:=by rfl) (hv:Vis X.env.scope x:=by first | exact Or.inl rfl | exact Or.inr (Or.inl rfl) | exact Or.inr (Or.inr rfl)) (hd:(x==("__debug__":Str))=false:=by decide) (hcd:(x==("__classdict__":Str))=false:=by decide) (he:starEach (e::es) X.env=(false,eval e X.env)::starEach es X.env:=by rfl) (hpl:(backTo pos (starEach es X.env)).any (·.1)=false:=by rfl):RE X E (.Call (.Name x p) (e::es) [] pos) (z8K i Ms f):=by
 intro pins s O H Q I ⟨Y,Z,st,r,en,h⟩;unfold z8K at h;split at h
 ·rename_i y hy;split at h
  ·rename_i M hM;obtain ⟨v,hv1,dv⟩:=en.at_ i (.fn y) hy;simp only [Den] at dv;obtain ⟨g,rfl,hmg⟩:=dv;obtain ⟨fa,fd,ps,Fk,hb,hk,hm⟩:=F y M hM;have e0:g=fa:=by rw [hmg] at hm;cases hm;rfl
   subst e0;refine wpAny_Call_Name_kw (thn (zdY (pos:=p) hN hv hd hcd pins s O H (fun v H1=>v=.ref g/\H1=H) I ⟨.ref g,hv1,rfl,rfl⟩) fun u s1 ⟨v,H1,I1,r1,e1,e2⟩=>?_);subst e1 e2;cases r1;have hA:=ha pos pins s1 O H1 (fun vs H2=>zdw (gm X) M (vs++[]) H2 Q E) I1 (vZ (k:=fun Z xs s1=>M xs s1) r en h _ fun vs H2 Y2 s2 ds r2 en2 dn2 stp2 h3=>by
    rw [List.append_nil];exact ⟨Y2,s2,ds,r2,dn2,h3⟩);refine W.callWith_K (h₀:=X.base) I1.ok.mod.kin hk (thn hA fun us s2 ⟨vs,H2,I2,r2,q⟩=>⟨I2.kIn,?_⟩) he hpl;exact z8l Fk hr hb .nil hxx I2 r2 q
  ·exact h.elim
 ·exact h.elim
@[simp] theorem zkD (tb:List (Str×Str))(f:FE)(Z:Ev)(s:Sto):zj2 tb f Z s=(f Z s).bind fun d s1=>match d with
 | .str k=>match tb.lookup k with | some y=>.ok (.fn y) s1 | none=>.no
 | _=>.no:=id rfl
@[simp] theorem ziM (tb:List (Str×Str))(neg:Bool)(f:FE)(Z:Ev)(s:Sto):z8v tb neg f Z s=(f Z s).bind fun d s1=>match d with
 | .str k=>.ok (.bl (xor neg (tb.lookup k).isSome)) s1 | _=>.no:=id rfl
@[simp] theorem zcy (i:Nat)(Ms:List (Str×Mir))(f:FA)(Z:Ev)(s:Sto):z8K i Ms f Z s=match Z[i]? with
 | some (some (.fn y))=>match Ms.lookup y with
  | some M=>(f Z s).bind fun xs s1=>M xs s1 | none=>.no
 | _=>.no:=id rfl
end
theorem xZ.cut{mg:Gm}{H H1:Hp}{Y Y1:List Addr}{s1:Sto}(stp:xZ mg H Y H1 Y1 s1):xZ mg H Y H1 (Y1.take Y.length) (s1.take Y.length):=by
 have fl:∀ {ds:List D}{ws:List V},D.flat.flats ds=true->zD mg H1 Y1 ds ws->zD mg H1 (Y1.take Y.length) ds ws:=fun f h=>h.flatten (fun _ _ h _ _=>h) f;refine ⟨⟨by simp [stp.rep.len],stp.rep.nd.sublist (List.take_sublist _ _),fun j ys h=>?_,fun ys h=>stp.rep.flat ys (List.mem_of_mem_take h)⟩,?_,stp.keep,fun c h1 h2=>stp.new c (List.mem_of_mem_take h1) h2,stp.mt⟩
 ·have hj:j<Y.length:=by
   have:=(List.getElem?_eq_some_iff.mp h).1;simp at this;omega
  rw [List.getElem?_take_of_lt hj] at h ⊢;obtain ⟨c,q1,q2⟩:=stp.rep.cell j ys h;exact ⟨c,q1,q2.flatten (fun _ _ h _ _=>h) (stp.rep.flat _ (List.mem_of_getElem? h)) rfl⟩
 ·obtain ⟨t,ht⟩:=stp.pre;exact ⟨[],by rw [<- ht,List.take_append];simp⟩
theorem xZ.frzC{mg:Gm}{H H1:Hp}{Y Y1:List Addr}{s1:Sto}{l:Nat}{xs:List D}(stp:xZ mg H Y H1 Y1 s1){a:Addr}(hl:Y.length<=l)(hx:s1[l]? = some xs)(e1:Y1[l]? = some a)(ka:IsL H1 a):∃ vs,H1 a=some (.lst vs)/\ ∀ o,xZ mg H Y (upd H1 a (.frz o (.lst vs))) (Y1.take Y.length) (s1.take Y.length)/\Den mg (upd H1 a (.frz o (.lst vs))) (Y1.take Y.length) (.lst xs) (.ref a):=by
 obtain ⟨vs,e2,e3⟩:=stp.rep.at_ hx e1 ka;refine ⟨vs,e2,fun o=>?_⟩;have il:l<Y1.length:=(List.getElem?_eq_some_iff.mp e1).1;have an:a∉Y:=fun z=>by
  obtain ⟨j,hj,ej⟩:=List.mem_iff_getElem.mp z;obtain ⟨t,ht⟩:=stp.pre;have:Y1[j]? = some a:=by rw [<- ht,List.getElem?_append_left hj,List.getElem?_eq_getElem hj,ej]
  have:=(List.getElem_inj stp.rep.nd).mp (((List.getElem?_eq_some_iff.mp this).2).trans ((List.getElem?_eq_some_iff.mp e1).2).symm);omega
 have a0:H a=none:=stp.new a (List.mem_of_getElem? e1) an;have k:∀ b u,H1 b=some u->(∀ vs,u≠.lst vs)->(∀ kvs,u≠.dT kvs)->upd H1 a (.frz o (.lst vs)) b=some u:=fun b u h hn _=>by rw [zF (fun z=>by subst z;rw [e2] at h;exact hn vs (Option.some.inj h).symm)];exact h
 have fl:∀ {ds:List D}{ws:List V},D.flat.flats ds=true->zD mg H1 Y1 ds ws->zD mg (upd H1 a (.frz o (.lst vs))) (Y1.take Y.length) ds ws:=fun f h=>h.flatten k f;have mem:∀ {j:Nat}{ys:List D},s1[j]? = some ys->D.flat.flats ys=true:=fun e=>stp.rep.flat _ (List.mem_of_getElem? e);refine ⟨⟨⟨by simp [stp.rep.len],stp.rep.nd.sublist (List.take_sublist _ _),fun j ys h=>?_,fun ys h=>stp.rep.flat ys (List.mem_of_mem_take h)⟩,?_,fun b u h n=>?_,fun c h1 h2=>stp.new c (List.mem_of_mem_take h1) h2,fun b hb=>?_⟩,?_⟩
 ·have hj:j<Y.length:=by
   have:=(List.getElem?_eq_some_iff.mp h).1;simp at this;omega
  rw [List.getElem?_take_of_lt hj] at h ⊢;obtain ⟨c,q1,q2⟩:=stp.rep.cell j ys h;refine ⟨c,q1,q2.flatten k (mem h) (zF fun z=>?_)⟩;subst z;have:=(List.getElem_inj stp.rep.nd).mp (((List.getElem?_eq_some_iff.mp q1).2).trans ((List.getElem?_eq_some_iff.mp e1).2).symm);omega
 ·obtain ⟨t,ht⟩:=stp.pre;exact ⟨[],by rw [<- ht,List.take_append];simp⟩
 ·rw [zF (fun z=>by subst z;rw [a0] at h;cases h)];exact stp.keep b u h n
 ·have ne:b≠a:=fun z=>an (z ▸ hb);rcases stp.mt b hb with ⟨q1,q2⟩ | ⟨q1,q2⟩;·exact .inl ⟨q1,by rw [IsL,zF ne];exact q2⟩
  ·exact .inr ⟨q1,by rw [IsC,zF ne];exact q2⟩
 ·simp only [Den];exact ⟨a,o,vs,rfl,yg,fl (mem hx) e3⟩
def zgF(n:Nat):R D->R D
 | .ok (.loc l) s1=>match s1[l]? with
  | some xs=>if n<=l then .ok (.lst xs) (s1.take n) else .no | none=>.no
 | .ok _ _=>.no | .ex c s1=>.ex c s1 | .no=>.no
def z4H(f:FE):FE:=fun Z s=>zgF s.length (f Z s)
section
variable {X:Cx}{E:XK}{e:Expr}
theorem zer{f:FE}(h:RE X E e f):RE X E e (z4H f):= zV (PE.freeze h) fun O H Q ⟨Y,Z,s,r,en,h⟩=>by
  refine ⟨Y,Z,s,r,en,?_⟩;unfold z4H zgF at h;split at h
  ·rename_i l s1 e1;rw [e1];split at h
   ·rename_i xs ex;split at h
    ·rename_i hl;intro v H1 Y1 stp dn;simp only [Den] at dn;obtain ⟨a,rfl,q1,ka⟩:=dn;obtain ⟨vs,q2,q3⟩:=stp.frzC (by rw [r.len];exact hl) ex q1 ka;rw [<- r.len] at h;exact ⟨a,vs,rfl,q2,fun o=>h _ _ _ (q3 o).1 (q3 o).2⟩
    ·exact h.elim
   ·exact h.elim
  ·exact h.elim
  ·rename_i e1;rw [e1];exact h
  ·exact h.elim
end
@[simp] theorem zbz (f:FE)(Z:Ev)(s:Sto):z4H f Z s=zgF s.length (f Z s):=id rfl
@[simp] theorem z8F {s:Sto}{xs:List D}:zgF s.length (.ok (.loc s.length) (s++[xs]))=.ok (.lst xs) s:=by simp [zgF]
def z92(n:Nat):R D->R D
 | .ok (.loc l) s1=>if l<n then .ok (.loc l) (s1.take n) else .ok (.loc l) s1 | .ok d s1=>if d.flat=true then .ok d (s1.take n) else .ok d s1 | r=>r
def z9y(M:Mir):Mir:=fun ds s=>z92 s.length (M ds s)
theorem zfy{mg:Gm}{M:Mir}{vs:List V}{H:Hp}{Q:VK}{E:XK}(h:zdw mg (z9y M) vs H Q E):zdw mg M vs H Q E:=by
 obtain ⟨Y,s,ds,r,dn,h⟩:=h;refine ⟨Y,s,ds,r,dn,?_⟩;unfold z9y z92 at h;split at h
 ·rename_i l s1 e;rw [e];split at h
  ·rename_i hl;intro v H1 Y1 stp dv;rw [<- r.len] at h;refine h v H1 _ stp.cut ?_;simp only [Den] at dv ⊢;obtain ⟨a,rfl,e1,ka⟩:=dv;exact ⟨a,rfl,by rw [List.getElem?_take_of_lt (by rw [r.len];exact hl)];exact e1,ka⟩
  ·exact h
 ·rename_i d s1 hn e;rw [e];split at h
  ·rename_i hf;intro v H1 Y1 stp dv;rw [<- r.len] at h;exact h v H1 _ stp.cut (dv.flatten (fun _ _ h _ _=>h) hf)
  ·exact h
 ·exact h
section
variable {P:Program}{w:World}{K:W.Frag}{mg:Str->Option Value}{base:Heap}
theorem Has.tidy{CX:CXT}{x:Str}{n:Nat}{M:Mir}(h:Has P w K mg base CX x n M):Has P w K mg base CX x n (z9y M):=by
 obtain ⟨f,fd,ps,F,r⟩:=h;exact ⟨f,fd,ps,F.imp fun vs H Q E h=>zfy h,r⟩
end
@[simp] theorem z7O (M:Mir)(ds:List D)(s:Sto):z9y M ds s=z92 s.length (M ds s):=id rfl
@[simp] theorem z0x {d:D}{n:Nat}{s1:Sto}(h:d.flat=true):z92 n (.ok d s1)=.ok d (s1.take n):=by cases d<;>first | (simp [D.flat] at h;done) | simp_all [z92]
def zgX:D->D->Sto->R D
 | x,.int k,s=>match listOf s x with
  | some xs=>if xs.length*k.toNat<=cap/\-(2 ^ 62)<=k/\k<2 ^ 62 then .ok (.lst (List.replicate k.toNat xs).flatten) s else .no | none=>.no
 | _,_,_=>.no
theorem zD.flat_rep{mg:Gm}{H:Hp}{Y:List Addr}{xs:List D}{vs:List V}(h:zD mg H Y xs vs):∀ k:Nat,zD mg H Y (List.replicate k xs).flatten (List.replicate k vs).flatten
 | 0=>by simpa using zD.nil | k+1=>by
  rw [List.replicate_succ,List.replicate_succ,List.flatten_cons,List.flatten_cons];exact h.append (h.flat_rep k)
section
variable {X:Cx}{E:XK}
theorem zgM:∃ r,OpR X (binaryOp .Mult) r/\OpF X E r zgX:=by
 refine ⟨_,zht.freeze,?_⟩;intro H Y s d1 d2 v1 v2 Q r h1 h2 h;unfold zgX at h;split at h
 ·rename_i k;cases ye h2;split at h
  ·rename_i xs hx;split at h
   ·rename_i hl;obtain ⟨l,vs,e,q1,q2⟩:=zT r hx h1;exact ⟨l,k,vs,e,rfl,q1,by omega,by omega,by rw [q2.length];exact vJ hl.1,z08 r h (q2.flat_rep _)⟩
   ·exact h.elim
  ·exact h.elim
 ·exact h.elim
end
section
variable {X:Cx}{E:XK}{e a b c:Expr}{es:List Expr}{pos:Pos}{CX:CXT}
theorem zac{x:Str}{p:Pos}{n:Nat}{M:Mir}(F:Has X.prog X.w X.K X.mg X.base CX x n M)(hr:z0l n X.A)(hx:Passes CX X E)(hg:Gl X x)(hdb:(x==("__debug__":Str))=false:=by decide):RE X E (.Call (.Name x p) [] [] pos) (ze M zj):=by
 obtain ⟨fa,fd,ps,F,hb,hk,hm⟩:=F;refine zV (zcs F hr hg hm hk hb .nil hx hdb) fun O H Q ⟨Y,Z,s,r,en,h⟩=>?_;exact ⟨Y,s,[],r,zD.nil,h⟩
end
section
variable {P:Program}{w:World}{K:W.Frag}{mg:Str->Option Value}{base:Heap}{CX:CXT}{n:Nat}
def zaE:List DictEntry->List (Str×Value)
 | []=>[] | e::es=>match e.key with
  | .str k _=>(k,e.val)::zaE es | _=>zaE es
theorem z0w {P:Program} {w:World} {k:Str}:∀ {es:List DictEntry},findBy (yd P w).is es.toArray (.inr k)=(zaE es).lookup k
 | []=>by simp [findBy,zaE] | e::es=>by
  have ih:=z0w (P:=P) (w:=w) (k:=k) (es:=es);simp only [findBy,List.find?_toArray] at ih ⊢;rw [List.find?_cons];cases hk:e.key with
  | str y t=>
   simp only [zaE,hk,List.lookup_cons];by_cases z:k=y
   ·subst z;simp [z2g]
   ·have:(yd P w).is (.inr k) (.str y t)=false:=by
     rw [z46];cases q:z5n (.inr k) (.str y t) with
     | false=>rfl | true=>
      rcases yB q with ⟨i,u,h1,h2⟩ | ⟨x,u,h1,h2⟩;·cases h2
      ·cases h1;cases h2;exact absurd rfl z
    rw [this,show (k==y)=false from by simpa using z];exact ih | _=>
   have:(yd P w).is (.inr k) e.key=false:=by
    rw [z46];cases q:z5n (.inr k) e.key with
    | false=>rfl | true=>
     rcases yB q with ⟨i,u,h1,h2⟩ | ⟨x,u,h1,h2⟩;·cases h1
     ·rw [hk] at h2;cases h2
   rw [hk] at this;simp only [zaE,hk,this];exact ih
theorem z8h:∀ y M,([]:List (Str×Mir)).lookup y=some M->Has P w K mg base CX y n M:=fun y M h=>by simp at h
theorem wV{x:Str}{M0:Mir}{Ms:List (Str×Mir)}(h:Has P w K mg base CX x n M0)(hs:∀ y M,Ms.lookup y=some M->Has P w K mg base CX y n M):∀ y M,((x,M0)::Ms).lookup y=some M->Has P w K mg base CX y n M:=fun y M e=>by
 rw [List.lookup_cons] at e;split at e
 ·rename_i hb;cases e;have:y=x:=by simpa using hb
  subst this;exact h
 ·exact hs y M e
end
def Sub(K:W.Frag)(h:Heap):Prop:=∀ p∈K,h.get? p.1=some p.2
theorem Sub.in_{K:W.Frag}{h:Heap}(s:Sub K h):K.In h:=fun a o e=>by induction K with
 | nil=>simp at e | cons p K ih=>
  obtain ⟨b,u⟩:=p;rw [List.lookup_cons] at e;split at e
  ·rename_i hb;cases e;have:a=b:=by simpa using hb
   subst this;exact s (a,o) (by simp)
  ·exact ih (fun q hq=>s q (by simp [hq])) e
theorem z4z(h:Heap)(a:Addr):Sub (z7N h a) h:=fun p hp=>by
 unfold z7N at hp;split at hp
 ·rename_i o e;simp at hp;subst hp;exact e
 ·simp at hp
theorem Sub.app{K L:W.Frag}{h:Heap}(a:Sub K h)(b:Sub L h):Sub (K++L) h:=fun p hp=>(List.mem_append.mp hp).elim (a p) (b p)
theorem zfp(h:Heap)(ns:List Str):Sub (gat h ns) h:=by
 refine (z4z h _).app fun p hp=>?_;obtain ⟨x,_,hx⟩:=List.mem_flatMap.mp hp;unfold zkZ at hx;split at hx
 ·rcases List.mem_append.mp hx with hx | hx;·exact z4z h _ p hx
  ·split at hx
   ·split at hx;·exact z4z h _ p hx
    ·simp at hx
   ·exact z4z h _ p hx
   ·simp at hx
 ·simp at hx
def zkP(K:W.Frag)(x:Str)(st:Stmt):Prop:=∃ f fd,W.nsIn K mainGlobals x=some (some (.ref f))/\Fun K x x st f fd
theorem dA(s:Stmt):dArgs s=z0o s:=by cases s<;>rfl
theorem dB(s:Stmt):zgJ s=wY s:=by cases s<;>rfl
theorem dS(s:Stmt):zdI s=zf s:=by cases s<;>rfl
theorem zfh{K:W.Frag}{x:Str}{st:Stmt}(h:zeC K x=zjV x st):zkP K x st:=by
 unfold zeC zjV at h;rw [dA,dB,dS] at h;split at h
 ·rename_i f hf;split at h
  ·rename_i oc od fd sl hl;simp only [Option.some.injEq,Prod.mk.injEq] at h;obtain ⟨h1,h2,h3,h4,h5,h6,h7,h8,h9,h10,h11⟩:=h;obtain ⟨a1,a2,a3,a4,a5,a6,a7,a8,a9,a10,a11,a12,a13,a14,a15⟩:=fd;simp only at h1 h2 h3 h4 h5 h6 h7 h8 h9 h10;subst h1 h3 h4 h5 h6 h7 h8 h9;subst h2;exact ⟨f,_,hf,zir hl h10 h11⟩
  ·cases h
 ·cases h
theorem zci{K:W.Frag}{x:Str}(h:zfA K x=true):W.nsIn K mainGlobals x=some none:=by
 unfold zfA at h;split at h;·rename_i e;exact e
 ·cases h
theorem zc7{K:W.Frag}{x:Str}{i:Int}(h:zfz K x=some i):∃ t,W.nsIn K mainGlobals x=some (some (.int i t)):=by
 unfold zfz at h;split at h;·rename_i j t e;cases h;exact ⟨t,e⟩
 ·cases h
theorem z8M{P:Program}{w:World}{K:W.Frag}{h:Heap}{mg:Str->Option Value}(X:K.In h)(G:h.Ns mainGlobals mg):∀ {es:List DictEntry}{tb:List (Str×Str)},z9l K es (tb.map (·.2))=tb.map (fun p=>(PyData.keyHash w.params p.1,some p.1,true))-> PySem.KeysOf (yd P w) es.toArray/\(∀ k y,tb.lookup k=some y->∃ f,(zaE es).lookup k=some (.ref f)/\mg y=some (.ref f))/\∀ k,tb.lookup k=none->(zaE es).lookup k=none
 | [],[],_=>⟨fun e he=>by simp at he,fun k y h=>by simp at h,fun k _=>by simp [zaE]⟩ | [],_::_,h=>by simp [z9l] at h | _::_,[],h=>by simp [z9l] at h | e::es,(k0,y0)::tb,h=>by
  simp only [List.map_cons,z9l,List.cons.injEq,Prod.mk.injEq] at h;obtain ⟨⟨h1,h2,h3⟩,h4⟩:=h;obtain ⟨i1,i2,i3⟩:=z8M (P:=P) X G h4;obtain ⟨hh,kk,vv⟩:=e;simp only at h1 h2 h3;cases kk with
  | str ks t=>
   simp only [zb9,Option.some.injEq] at h2;subst h2;have hv:∃ f,vv=.ref f/\W.nsIn K mainGlobals y0=some (some (.ref f)):=by
    unfold sameRef at h3;split at h3
    ·rename_i f g e1;have:f=g:=by simpa using h3
     subst this;exact ⟨f,rfl,e1⟩
    ·cases h3
   obtain ⟨f,rfl,e1⟩:=hv;refine ⟨fun e he=>?_,fun k y hy=>?_,fun k hy=>?_⟩
   ·simp only [List.mem_toArray,List.mem_cons] at he;rcases he with rfl | he;·exact ⟨.inr ks,z3b ks t,h1⟩
    ·exact i1 e (by simpa using he)
   ·simp only [zaE,List.lookup_cons] at hy ⊢;by_cases z:k=ks
    ·subst z;simp at hy ⊢;subst hy;exact W.mg_of X G e1
    ·rw [show (k==ks)=false from by simpa using z] at hy ⊢;exact i2 k y hy
   ·simp only [zaE,List.lookup_cons] at hy ⊢;by_cases z:k=ks;·subst z;simp at hy
    ·rw [show (k==ks)=false from by simpa using z] at hy ⊢;exact i3 k hy | _=>simp [zb9] at h2
theorem zg1{P:Program}{w:World}{K:W.Frag}{h:Heap}{mg:Str->Option Value}{x:Str}{tb:List (Str×Str)}(X:K.In h)(G:h.Ns mainGlobals mg)(e:zeW K x (tb.map (·.2))=zj8 w tb):zfH P w K mg x tb:=by
 unfold zeW zj8 at e;split at e
 ·rename_i a ha;split at e
  ·rename_i c d es ep sl hl;simp only [Option.some.injEq,Prod.mk.injEq] at e;obtain ⟨e1,e2,e3,e4,e5⟩:=e;obtain ⟨i1,i2,i3⟩:=z8M (P:=P) X G e5;have hc:c=.type "dict":=by
    unfold z5V at e1;split at e1
    ·rename_i n;have:n="dict":=by simpa using e1
     rw [this]
    ·cases e1
   have hd:d=none:=by simpa using e2
   have hs:sl=#[]:=by
    have:sl.size=0:=by simpa using e3
    exact Array.eq_empty_of_size_eq_zero this
   have ea:es.toList.toArray=es:=by simp
   rw [ea] at i1;refine ⟨a,_,es,ep,W.mg_of X G ha,e4,hl,⟨hc,hd,hs⟩,rfl,i1,fun k y hy=>?_,fun k hy=>?_⟩;·rw [<- ea,z0w];exact i2 k y hy
   ·rw [<- ea,z0w];exact i3 k hy
  ·cases e
 ·cases e
def saysS(q:Ask)(w:World)(h:Heap):Prop:=∃ K:W.Frag,K.In h/\z9S q K=valS q w
theorem zey(q:Ask)(w:World)(s:Shared)(e:obsS q s=valS q w):saysS q w s.heap:=⟨_,(zfp _ _).in_,e⟩
theorem z9z(q:Ask)(w:World)(h h':Heap)(x:saysS q w h)(k:∀ b o,h.get? b=some o->h'.get? b=some o):saysS q w h':=let ⟨K,a,b⟩:=x;⟨K,a.keeps k,b⟩
theorem z3X{α β:Type}{f g:α->β}:∀ {l:List α},l.map f=l.map g->∀ x∈l,f x=g x:=fun h x hx=>List.map_inj_left.mp h x hx
theorem zjS{q:Ask}{w:World}{K:W.Frag}(e:z9S q K=valS q w)(x:Str)(st:Stmt)(hx:(x,st)∈q.fs):zkP K x st:=zfh (z3X (congrArg Prod.fst e) (x,st) hx)
theorem zk3{q:Ask}{w:World}{K:W.Frag}(e:z9S q K=valS q w)(x:Str)(hx:x∈q.bs):W.nsIn K mainGlobals x=some none:=zci (z3X (congrArg (fun z=>z.2.1) e) x hx)
theorem zjd{q:Ask}{w:World}{K:W.Frag}(e:z9S q K=valS q w)(x:Str)(i:Int)(hx:(x,i)∈q.cs):∃ t,W.nsIn K mainGlobals x=some (some (.int i t)):=zc7 (z3X (congrArg (fun z=>z.2.2.1) e) (x,i) hx)
theorem zjE{P:Program}{q:Ask}{w:World}{K:W.Frag}{h:Heap}{mg:Str->Option Value}(X:K.In h)(G:h.Ns mainGlobals mg)(e:z9S q K=valS q w)(x:Str)(tb:List (Str×Str))(hx:(x,tb)∈q.ts):zfH P w K mg x tb:=zg1 X G (z3X (congrArg (fun z=>z.2.2.2.1) e) (x,tb) hx)
theorem za6{p q:Program}{loose:List Str}{Xt:Shared->Bool}{α:Type}{Yf:Shared->α}{Ya:World->α}{N:Nat}{g0:Bool}(row:String) (bo:∀ w:World,(W.fencedOpening treeTable p w N).map (fun s=>(s.heap,s.gens,s.drawn,s.toks))=some (W.boot_heap w.params,Array.mk [],W.boot_drawn,W.boot_toks)) (hf:∀ (w:World)(os:OsState),(W.topFrom treeTable p (w.withFollow row false) N ⟨W.boot_heap w.params,Array.mk [],W.boot_drawn,W.boot_toks,os⟩).map (fun s=>(W.openSeen q loose (importedModules p.main.body) Xt g0 s,Yf s))=some (W.openGood q loose,Ya (w.withFollow row false))) (ht:∀ (w:World)(os:OsState),(W.topFrom treeTable p (w.withFollow row true) N ⟨W.boot_heap w.params,Array.mk [],W.boot_drawn,W.boot_toks,os⟩).map (fun s=>(W.openSeen q loose (importedModules p.main.body) Xt g0 s,Yf s))=some (W.openGood q loose,Ya (w.withFollow row true))):W.LeftO p q loose Xt Yf Ya N g0:= W.LeftO.of_split row fun w=>by
  obtain ⟨⟨h,gs,d,k,os⟩,e,e'⟩:=Option.map_eq_some_iff.mp (bo w);obtain ⟨rfl,rfl,rfl,rfl⟩:h=W.boot_heap w.params/\gs=Array.mk []/\d=W.boot_drawn/\k=W.boot_toks:=by simpa only [Prod.mk.injEq] using e'
  rw [e,Option.map_some,hf w os,ht w os]
theorem z5I{tb:String->Option Builtin}{p:Program}{w:World}{n₀:Nat}{ann:Option Value}:∀ {n:Nat}{s s':W.SharedT}{t:Thread},z2Y tb p w n₀ ann n s t=some s'->W.topRun tb p w n₀ ann n s.abs t=some s'.abs
 | 0,_,_,_,h=>by cases h | n+1,s,s',t,h=>by
  unfold z2Y at h;unfold W.topRun;cases he:W.through t with
  | true=>rw [he] at h;cases h;rfl | false=>
   rw [he] at h;cases hk:W.stepOk n₀ ann t with
   | false=>rw [hk] at h;cases h | true=>
    rw [hk] at h;cases hs:W.stepT (denote tb) p w s t with
    | none=>rw [hs] at h;cases h | some r=>obtain ⟨s₂,t₂⟩:=r;rw [hs] at h;rw [W.stepT_spec hs];exact z5I h
theorem z42{p:Program}{w:World}{N:Nat}{h:Heap}{d:Drawn}{k:Nat}{os:OsState}{t0:W.BT}{m₀:Nat}{ann:Option Value}(ha:W.absHeap t0 m₀ h.life=h) (sz:(h.isNs mainGlobals&&(Array.mk []:Array GenState).size==0,h.objs.size,h.nsMap mainGlobals "__annotations__")=(true,m₀,ann)){α:Type}{f:Shared->α}{v:α} (hr:(z2Y treeTable p w m₀ ann N ⟨t0,m₀,h.life,Array.mk [],d,k,os⟩ (W.topStub p)).map (fun sT=>(W.staticsOk (importedModules p.main.body) h sT.abs.heap&&W.namesBound p sT.abs.heap&&W.gensDone sT.abs&&W.laidKept h sT.abs.heap,f sT.abs))=some (true,v)): (W.topFrom treeTable p w N ⟨h,Array.mk [],d,k,os⟩).map f=some v:=by
 obtain ⟨sT,e1,e2⟩:=Option.map_eq_some_iff.mp hr;obtain ⟨e3,e4⟩:=Prod.mk.inj e2;obtain ⟨z1,z2,z3⟩:_/\_/\_:=by simpa only [Prod.mk.injEq] using sz
 have r:=z5I e1;have a0:(⟨t0,m₀,h.life,Array.mk [],d,k,os⟩:W.SharedT).abs=⟨h,Array.mk [],d,k,os⟩:=by
  show (⟨W.absHeap t0 m₀ h.life,Array.mk [],d,k,os⟩:Shared)=_;rw [ha]
 rw [a0] at r;have t:W.topFrom treeTable p w N ⟨h,Array.mk [],d,k,os⟩=some sT.abs:=by
  unfold W.topFrom;dsimp only;rw [z1,z2,z3];dsimp only;rw [r];show (match (W.staticsOk (importedModules p.main.body) h sT.abs.heap&&W.namesBound p sT.abs.heap&&W.gensDone sT.abs&&W.laidKept h sT.abs.heap) with | true=>some sT.abs | false=>none)=_;rw [e3]
 rw [t,Option.map_some,e4]
theorem z5O{α β γ δ:Type}{r:Option α}{f:α->β}{g:α->γ}{k:α->δ}{x:β}{y:γ}{z:δ}(h1:r.map (fun s=>(f s,k s))=some (x,z))(h2:r.map g=some y):r.map (fun s=>(f s,(g s,k s)))=some (x,(y,z)):=by
 obtain ⟨s,e1,e2⟩:=Option.map_eq_some_iff.mp h1;obtain ⟨s',e3,e4⟩:=Option.map_eq_some_iff.mp h2;rw [e1] at e3;cases e3;obtain ⟨e5,e6⟩:=Prod.mk.inj e2;rw [e1,Option.map_some,e4,e5,e6]
theorem walkY{l:W.OpenLaw}{n k:Nat}{q:Program}{loose:List Str}{XP:(Str->Option Value)->Heap->Prop}{YP:World->Heap->Prop}{d:DefRec}{x:Str} (hn:l.most=some n)(hn2:n<=sizeLine)(hn3:n<=63)(hdf:d.params.defaults=[])(hr:z0l k callerA) (F:∀ (w:World)(mg:Str->Option Value)(fa:Addr)(h:Heap),YP w h->h.Ns mainGlobals mg->mg d.name=some (.ref fa)->XP mg h-> ∃ K:W.Frag,K.In h/\∃ fd:FuncData,(∀ (s:Shared)(u:Value),BindsTo s fd ⟨[u],[]⟩ [(x,u)])/\ ∀ base:Heap,K.In base->base.Ns mainGlobals mg->z4h l.prog w K mg base CX0 k fa fd [x] (zeN K)): W.WalkO q loose XP YP l.row.toRowW d [] (fun f vs=>PySem.call f vs):=by
 refine Att.z2i hn hdf fun w s₀ s₁ mg mb fa o pm cd doc a vs ns G Yy ho hd hcd hmg hobj hints hlen hg=>?_;obtain ⟨K,KX,fd,hb,hF⟩:=F w mg fa _ Yy G.T.g hmg G.X;exact z8Z KX G.T.g G.T.b G.T.builtins G.T.nolimit hg hobj hints (Nat.le_trans hlen hn2) hr hF hb (fun H hO hS=>⟨a,ns,rfl,hO,hS,Nat.le_trans hlen hn3,fun _=>rfl⟩) fun H e s' z=>z
end Dd
namespace HT
open PySem.Spec
end HT
namespace L2
open PySem.Spec
end L2
namespace Dd
open PySem.Spec L2
section
variable {X:Cx}{E:XK}{e:Expr}{pos p2 p3 p4:Pos}
def zlB(f:FE):FE:=fun Z s=>(f Z s).bind fun d s1=>match d with
 | .tup xs=>.ok (.tup xs.reverse) s1 | _=>.no
@[simp] theorem zkz (f:FE)(Z:Ev)(s:Sto):zlB f Z s=(f Z s).bind fun d s1=>match d with
 | .tup xs=>.ok (.tup xs.reverse) s1 | _=>.no:=id rfl
end
section
variable {X:Cx}{E:XK}{e:Expr}{pos:Pos}
def zm8(i j k:Nat):FG:=fun d Z s=>match d with
 | .tup [x,y,z]=>.ok (((Z.set i (some x)).set j (some y)).set k (some z)) s | _=>.no
@[simp] theorem zkQ (i j k:Nat)(x y z:D)(Z:Ev)(s:Sto):zm8 i j k (.tup [x,y,z]) Z s=.ok (((Z.set i (some x)).set j (some y)).set k (some z)) s:=id rfl
end
section
variable {X:Cx}{E:XK}{e a b c:Expr}{es:List Expr}{pos:Pos}
def zgt:D->D->Sto->R D:=dII fun i j=>if 0<=j/\j<=100/\i.natAbs<BIG then iOk (.int (i ^ j.toNat)) else .no
def zbj(x y:D)(s:Sto):R D:=(dIs x y s).bind fun d s1=>match d with | .bl k=>.ok (.bl (!k)) s1 | _=>.no
variable {rest:List Expr}
def zlf(fa fb:FE):FE:=fun Z s=>(fa Z s).bind fun x s1=>match x with | .int i=>if i=0 then fb Z s1 else .ok (.int i) s1 | .non=>fb Z s1 | _=>.no
@[simp] theorem zkB (fa fb:FE)(Z:Ev)(s:Sto):zlf fa fb Z s=(fa Z s).bind fun x s1=>match x with | .int i=>if i=0 then fb Z s1 else .ok (.int i) s1 | .non=>fb Z s1 | _=>.no:=id rfl
@[simp] theorem zj0 (x:Int)(s:Sto):zbj (.int x) .non s=.ok (.bl true) s:=id rfl
@[simp] theorem zhG (s:Sto):zbj .non .non s=.ok (.bl false) s:=id rfl
@[simp] theorem zgN (a b:Bool)(s:Sto):zbj (.bl a) (.bl b) s=.ok (.bl (!(a==b))) s:=id rfl
end
section
variable {X:Cx}{E:XK}{e o a b c:Expr}{es:List Expr}{pos:Pos}
def zil(fo fv:FE):FE:=fun Z s=>(fo Z s).bind fun o s1=>match o with
 | .loc l=>(fv Z s1).bind fun d s2=>match s2[l]?,d with
  | some xs,.int i=>if 0<=i/\i<2 ^ 62 then (match xs[i.toNat]? with | some y=>.ok y (s2.set l (xs.eraseIdx i.toNat)) | none=>.no) else .no | _,_=>.no
 | _=>.no
@[simp] theorem ziY (fo fv:FE)(Z:Ev)(s:Sto):zil fo fv Z s=(fo Z s).bind fun o s1=>match o with
 | .loc l=>(fv Z s1).bind fun d s2=>match s2[l]?,d with
  | some xs,.int i=>if 0<=i/\i<2 ^ 62 then (match xs[i.toNat]? with | some y=>.ok y (s2.set l (xs.eraseIdx i.toNat)) | none=>.no) else .no | _,_=>.no
 | _=>.no:=id rfl
end
structure Fly(P:Program)(w:World)(outer:List Env)(H:Hp)(s:Shared)(C ea:Addr)(H':Hp)(s':Shared):Prop where
 os:s'.os=s.os
 bare:AllBare s'.gens
 un:Un (frs outer) [] H H' s.heap s'.heap
 hok:HOk P w H' s'.heap
 fly:∃ B a0,Heap.FlyingW B outer ea (.ref C) a0 s'.heap/\∀ b o,s'.heap.get? b=some o->(H' b≠none\/((∃ o',s.heap.get? b=some o')/\b∉frs outer))->B.get? b=some o
def CX1(P:Program)(w:World):CXT:=fun outer H s E e s'=>∃ C ea H',e=.ref ea/\Fly P w outer H s C ea H' s'/\E (.ref C) none H'
theorem z8P{env:Env}{l:List Env}{L:Addr}(h:env.frame=some L):frs (env::l)=L::frs l:=by unfold frs;rw [List.filterMap_cons,h]
theorem HOk.cov{P:Program}{w:World}{H:Hp}{h h' B:Heap}(x:HOk P w H h)(c:∀ b o,h.get? b=some o->H b≠none->B.get? b=some o)(k:B.StaysIn h'):HOk P w H h':=fun a o e=> (x a o e).stay (fun b u hb q=>by
  refine k b u (c b u q ?_);rcases hb with rfl | hb;·rw [e];simp
  ·rw [hb];simp) (fun _ q=>q) fun _ _ q=>q
theorem zcC{P:Program}{w:World}{H:Hp}{h:Heap}{a:Addr}{o:HO}(x:xL P w H h a o):∃ ob,h.get? a=some ob:=by cases o with
 | lst xs=>obtain ⟨_,_,_,_,e⟩:=x;exact ⟨_,e⟩ | tup xs=>obtain ⟨_,_,_,ob,e,_⟩:=x;exact ⟨_,e⟩ | dK kvs=>obtain ⟨_,_,_,_,o,_,_,e,_⟩:=x;exact ⟨_,e⟩ | dT kvs=>obtain ⟨_,_,_,_,o,_,_,e,_⟩:=x;exact ⟨_,e⟩ | set S n=>obtain ⟨o,_,_,_,e,_⟩:=x;exact ⟨_,e⟩ | ins C dx fs=>obtain ⟨_,_,_,e,_⟩:=x;exact ⟨_,e⟩ | own y=>exact x | xd fs=>obtain ⟨_,⟨_,_,_,e,_⟩,_⟩:=x;exact ⟨_,e⟩ | rng lo hi=>obtain ⟨_,_,_,e⟩:=x;exact ⟨_,e⟩ | frz ob u=>obtain ⟨e,_⟩:=x;exact ⟨_,e⟩ | tbl ps=>exact ⟨_,(show h.get? a=some _ from x)⟩ | met f y=>exact ⟨_,(show h.get? a=some _ from x)⟩ | ext φ=>obtain ⟨_,e,_⟩:=x;exact e
section
variable {X:Cx}{E:XK}{pins:List (Addr×Obj)}{O:L2.St}{H:Hp}{s:Shared}
theorem Inv.left{outer:List Env}{h' B:Heap}{C ea:Addr}{a0:Value}(I:Inv X pins O H s)(hex:X.ex=[])(ho:X.outer=outer)(fl:Heap.FlyingW B outer ea (.ref C) a0 h')(sm:s.heap.UpToSlots h') (c:∀ b o,s.heap.get? b=some o->(H b≠none\/((∃ o',X.s₀.heap.get? b=some o')/\b∉frs outer))->B.get? b=some o){g:Array GenState}{d:Drawn}{t:Nat}(hg:AllBare g): Fly X.prog X.w outer X.H₀ X.s₀ C ea H ⟨h',g,d,t,s.os⟩:=by
 subst ho;have k:=fl.1;refine ⟨I.os,hg,⟨fun b o e n nf ne=>?_,fun b o e n hf ne=>?_,fun b o e n ne=>?_,fun b o e ne=>?_,I.base.tups,I.base.frzs,I.base.tbls⟩,HOk.cov I.hok (fun b o e n=>c b o e (.inl n)) k,B,a0,fl,fun b o e q=>?_⟩
 ·have e1:=I.base.keep b o e n nf (by rw [hex];exact ne);exact k b o (c b o e1 (.inr ⟨⟨o,e⟩,nf⟩))
 ·obtain ⟨sl,e1⟩:=I.base.slot b o e n hf (by rw [hex];exact ne);obtain ⟨_,o2,e2,hnf⟩:=I.funs.mem hf;rw [e1] at e2;cases e2;obtain ⟨sl2,e3⟩:=sm b _ e1 hnf;exact ⟨sl2,e3⟩
 ·exact I.base.free b o e n (by rw [hex];exact ne)
 ·by_cases hf:b∈frs X.outer
  ·obtain ⟨_,o2,e2,hnf⟩:=I.funs.mem hf;obtain ⟨sl2,e3⟩:=sm b _ e2 hnf;exact ⟨_,e3⟩
  ·obtain ⟨o1,e1⟩:=I.base.there b o e (by rw [hex];exact ne);exact ⟨o1,k b o1 (c b o1 e1 (.inr ⟨⟨o,e⟩,hf⟩))⟩
 ·have ziJ:∀ o1,s.heap.get? b=some o1->B.get? b=some o:=fun o1 e1=>by
   have e2:=c b o1 e1 (q.imp id fun z=>z);have e3:h'.get? b=some o1:=k b o1 e2;have:h'.get? b=some o:=e;rw [e3] at this;cases this;exact e2
  rcases q with q | ⟨⟨o',e'⟩,nf⟩;·cases z:H b with
   | none=>exact absurd z q | some u=>
    obtain ⟨o1,e1⟩:∃ o1,s.heap.get? b=some o1:=by exact zcC (I.hok b u z)
    exact ziJ o1 e1
  ·obtain ⟨o1,e1⟩:=I.base.there b o' e' (by rw [hex];simp);exact ziJ o1 e1
end
section
variable {P:Program}{w:World}{K:W.Frag}{mg:Str->Option Value}{base:Heap}{N:List Str}{qual:Str}{scope:Scope}{f:Addr}{cd:Value}{A:Around}{outer:List Env}{s:Shared}{H:Hp}{E:XK}
theorem ue:(envOfC qual scope s.heap.objs.size f cd).frame=some s.heap.objs.size:=rfl
theorem z3C:Passes (CX1 P w) (z2c (CX1 P w) P w K mg base N qual scope f cd A outer s H E) E:=by
 intro pins O H1 s1 e s' I h;obtain ⟨C,ea,H',he,fl,hE⟩:=h;subst he;obtain ⟨h2,g2,d2,t2,os2⟩:=s';have eos:os2=s1.os:=fl.os;subst eos;have I':=I.call (h':=h2) (g':=g2) (d':=d2) (t':=t2) (ch:=[]) fl.un fl.hok fl.bare (fun b z=>absurd z (by simp));obtain ⟨B,a0,fw,cov⟩:=fl.fly;refine wpAny_leaves_onW (base:=B) (outer:=outer) I.ok.frames ue fw fun h' fw' sm=>?_;refine ⟨C,ea,H',rfl,Inv.left I' rfl rfl fw' sm (fun b o e q=>cov b o e (q.imp id fun z=>?_)) I'.bare,hE⟩;obtain ⟨⟨o',e'⟩,nf⟩:=z;obtain ⟨o1,e1⟩:=I.base.there b o' e' (by show b∉([]:List Addr);simp);refine ⟨⟨o1,e1⟩,fun z=>?_⟩;rw [show (z2c (CX1 P w) P w K mg base N qual scope f cd A outer s H E).stack=envOfC qual scope s.heap.objs.size f cd::outer from rfl,z8P ue] at z;rcases List.mem_cons.mp z with z | z
 ·have:=Heap.lt_size e';rw [z] at this;exact absurd this (Nat.lt_irrefl _)
 ·exact nf z
theorem zhr {pins:List (Addr×Obj)} {O:L2.St} {H1:Hp} {s1:Shared} {h':Heap} {e C:Addr} {args:List Value} (I:Inv (z2c (CX1 P w) P w K mg base N qual scope f cd A outer s H E) pins O H1 s1) (hx:Heap.MadeExcOf s1.heap h' e (.ref C) args) (hE:E (.ref C) none H1): (z2c (CX1 P w) P w K mg base N qual scope f cd A outer s H E).xe (.ref e) {s1 with heap:=h'}:=by
 have hin:∀ env∈(envOfC qual scope s.heap.objs.size f cd::outer),∀ b,env.frame=some b->b∈frs (envOfC qual scope s.heap.objs.size f cd::outer):=fun env he b hb=>List.mem_filterMap.mpr ⟨env,he,hb⟩;refine wpAny_leaves_madeW (base:=W.hideAll s1.heap (frs (envOfC qual scope s.heap.objs.size f cd::outer))) (h:=s1.heap) (outer:=outer) I.ok.frames ue (fun b o q=>W.of_hideAll _ q) (W.funFrames_hide I.stack hin) hx fun h'' t fw tup bt sm=>?_;refine ⟨C,e,H1,rfl,Inv.left I rfl rfl fw ((Heap.UpToSlots.of_keeps hx.keeps).trans sm) (fun b o eb q=>W.hideAll_get _ eb fun z=>?_) I.bare,hE⟩;rcases q with q | ⟨⟨o',e'⟩,nf⟩;·exact q (I.stkFree b z)
 ·rw [z8P ue] at z;rcases List.mem_cons.mp z with z | z
  ·have:=Heap.lt_size e';rw [show (z2c (CX1 P w) P w K mg base N qual scope f cd A outer s H E).s₀=s from rfl] at this;rw [z] at this;exact absurd this (Nat.lt_irrefl _)
  ·exact nf z
end
def zbk (X:Cx) (E:XK):Prop:=∀ (pins:List (Addr×Obj)) (O:L2.St) (H1:Hp) (s1:Shared) (h':Heap) (e C:Addr) (args:List Value),Inv X pins O H1 s1->Heap.MadeExcOf s1.heap h' e (.ref C) args->E (.ref C) none H1->X.xe (.ref e) {s1 with heap:=h'}
def zc4(K:W.Frag)(mg:Str->Option Value)(x:Str):Prop:=∃ C,mg x=some (.ref C)/\W.excIn K C bmV "ValueError.__new__"=true
theorem zb7{K:W.Frag}{h₀:Heap}{C:Addr}{bmB:List Value}{newId:String}(X:K.In h₀)(q:W.excIn K C bmB newId=true): ∃ bm N nm q bs hdct sn sub ab col dd k0 k1 k2 k3 k5 mN,h₀.get? C=some (excClassObj nm q C N bs bm hdct sn sub ab col dd k0 k1 k2 k3 k5 newId)/\h₀.Ns N mN/\mN "__init__"=none/\OwnTail h₀ bmB bm:=by
 unfold W.excIn at q;split at q
 ·rename_i dd cd sl ho;split at q
  ·rename_i C' bm k0 k1 k2 k3 n k5 hm hs;simp only [Bool.and_eq_true,beq_iff_eq,Bool.not_eq_true'] at q;obtain ⟨⟨⟨⟨⟨rfl,rfl⟩,hdel⟩,ht⟩,hok⟩,hni⟩:=q;obtain ⟨nm,bs,mro,ns,qn,hd,sn,sub,ab,col,del⟩:=cd;dsimp only at hm hdel hok hni;subst hm hdel;have hsl:sl=#[k0,k1,k2,k3,some (.builtin n),k5]:=by
    obtain ⟨l⟩:=sl;simp only at hs;rw [hs]
   subst hsl;exact ⟨bm,ns,nm,qn,bs,hd,sn,sub,ab,col,dd,k0,k1,k2,k3,k5,_,X _ _ ho,.of_isNs (W.isNs_of_in X hok),W.nsMap_none_of_in X hok hni,W.tail_of_in X ht⟩
  ·cases q
 ·cases q
section
variable {X:Cx}{E:XK}{pos:Pos}
def z3V(c:Str):FS:=fun _ s=>.ex c s
theorem z4J {x:Str} {np cpos p:Pos} {m:Str} {j:Nat} (hk:zc4 X.K X.mg x) (hro:zbk X E) (hc:X.calm=true) (hg:Gl X x) (hd:(x==("__debug__":Str))=false:=by decide): RS X E (.Raise (some (.Call (.Name x np) [.Constant (.str m) j p] [] cpos)) none pos) (z3V x):=by
 intro pins s O H D I h;obtain ⟨Y,Z,st,r,en,h⟩:=h;obtain ⟨C,hm,hq⟩:=hk;have hE:E (.ref C) none H:=h H Y C (xZ.refl r) hm;obtain ⟨tl,Nn,nm,q,bs,hdct,sn,sub,ab,col,dd,k0,k1,k2,k3,k5,mN,hC,hN,hni,T⟩:=zb7 I.mod.kin hq;refine wpAny_Raise_call_subT (C:=C) (nm:=nm) (q:=q) (N:=Nn) (bs:=bs) (bm:=tl) (hdct:=hdct) (sn:=sn) (sub:=sub) (ab:=ab) (col:=col) (dd:=dd) (k0:=k0) (k1:=k1) (k2:=k2) (k3:=k3) (k5:=k5) PySem.F.excBase_ValueError (mN:=mN) (T.hasType PySem.F.excBase_ValueError.hasBase) (I.ok.hd hc) rfl hni (z0I I hg hm ⟨rfl,?_⟩ hd);refine Calls.evalArgs_plain (thn (va (X:=X) (zeg (X:=X)) (kI (X:=X)) rfl cpos pins s O H (fun vs H1=>vs=[.str m]/\H1=H) I ⟨rfl,rfl⟩) fun us s2 h2=>?_);obtain ⟨vs,H1,I1,r1,e1,e2⟩:=h2;subst e1 e2;obtain ⟨u,rfl,ru⟩:=r1.one;exact ⟨rfl,by show (1:Nat)<=sizeLine;decide,I1.bk _ _ hC,hN.keeps I1.bk,T.keeps I1.bk,fun h' e mk=>hro pins O _ s2 h' e C [u] I1 mk hE⟩
end
def kU(N:List Str)(n:Nat)(fs:FS):Mir:=fun ds s=>if ds.length=n then (match fs (zr N ds) s with
 | .ok (.rt d) s'=>.ok d s' | .ok (.nx _) s'=>.ok .non s' | .ex c s'=>.ex c s' | _=>.no) else .no
section
variable {P:Program}{w:World}{K:W.Frag}{mg:Str->Option Value}{base:Heap}
theorem zeJ{X:Cx}{E:XK}:Passes CX0 X E:=fun _ _ _ _ _ _ _ h=>h.elim
theorem uY{x qual:Str}{st:Stmt}{f:Addr}{fd:FuncData}{N ps:List Str}{k n:Nat}{fs:FS}(F:Fun K x qual st f fd)(hm:mg x=some (.ref f))(hb:Binds K fd ps [])(S:zv N ps (zf st))(hn:ps.length=n) (body:∀ (cdv:Value)(A:Around)(outer:List Env)(s:Shared)(H:Hp)(E:XK),z0l k (A.deeper (envOfC qual (zf st) s.heap.objs.size f cdv))->(z2c (CX1 P w) P w K mg base N qual (zf st) f cdv A outer s H E).calm=true-> RSs (z2c (CX1 P w) P w K mg base N qual (zf st) f cdv A outer s H E) E (wY st) fs):Has P w K mg base (CX1 P w) x (k+1) (kU N n fs):=by
 subst hn;obtain ⟨oc,od,kV,doc,pm,an,cdv,ct,osl,rfl,lk,hcd⟩:=F.ex;refine ⟨f,_,ps,ziA lk hcd S (fun vs H Q E h=>?_) (fun A outer s H vs Q E hr h=>?_),hb,F.kp,hm⟩
 ·obtain ⟨Y,s,ds,_,dn,h⟩:=h;unfold kU at h;split at h;·rename_i e;rw [dn.length];exact e
  ·exact h.elim
 ·obtain ⟨Y,st0,ds,r,dn,h⟩:=h;refine ⟨_,body cdv A outer s H E hr (by show A.handled.isNone=true;rw [show A.handled=none from hr.hd];rfl),Y,zr N ds,st0,r,jo dn,?_⟩;unfold kU at h;split at h
  ·split at h
   ·rename_i d s' e;rw [e];intro fv H' Y' stp fd;cases fv with
    | rt v=>exact h v H' Y' stp fd | _=>exact (show False from fd).elim
   ·rename_i Z s' e;rw [e];intro fv H' Y' stp fd;cases fv with
    | nx v=>exact h .non H' Y' stp (by simp [Den]) | _=>exact (show False from fd).elim
   ·rename_i c s' e;rw [e];exact h
   ·exact h.elim
  ·exact h.elim
def zlJ(M:Mir):Mir:=fun ds s=>match M ds s with | .ex _ _=>.no | r=>r
end
def z1j(f:FS):FS:=fun Z s=>match f Z s with | .ex _ _=>.no | r=>r
theorem z2r{X:Cx}{E:XK}{st:Stmt}{f:FS}(h:RS X.nox E0 st f):RS X E st (z1j f):=fun pins s O H D I hw=>by
 obtain ⟨Y,Z,st0,r,en,q⟩:=hw;have q':okR (gm X) E0 H Y (FlD (gm X)) (f Z st0) (z3o D):=by
  unfold z1j at q;cases e:f Z st0 with
  | ok d s'=>rw [e] at q;exact q | ex c s'=>rw [e] at q;exact q.elim | no=>rw [e] at q;exact q.elim
 exact wpAny_mono (h pins s O H D (I.wish _) ⟨Y,Z,st0,r,en,q'⟩) (fun _ _ q=>q.unwish) fun _ _ z=>False.elim z
@[simp] theorem zg4 (f:FS)(Z:Ev)(s:Sto):z1j f Z s=(match f Z s with | .ex _ _=>.no | r=>r):=id rfl
@[simp] theorem zkG (M:Mir)(ds:List D)(s:Sto):zlJ M ds s=(match M ds s with | .ex _ _=>.no | r=>r):=id rfl
@[simp] theorem ziR (c:Str)(Z:Ev)(s:Sto):z3V c Z s=.ex c s:=id rfl
theorem z1M{P:Program}{w:World}{K:W.Frag}{mg:Str->Option Value}{base:Heap}{N:List Str}{qual:Str}{scope:Scope}{f:Addr}{cd:Value}{A:Around}{outer:List Env}{s:Shared}{H:Hp}{E:XK}: zbk (z2c (CX1 P w) P w K mg base N qual scope f cd A outer s H E) E:=fun _ _ _ _ _ _ _ _ I hx hE=>zhr I hx hE
end Dd
namespace PySem
open PySem.Sem (wp)
section
variable {M:Model}{A:Around}{E:Value->Shared->Prop}
theorem qj{h:Heap}{g:Array GenState}{d:Drawn}{t:Nat}{os:OsState}{e C D:Addr}{oe:Obj}{Q:Bool->Shared->Prop} {nm q:Str}{N:Addr}{bs bm:List Value}{hdct:Bool}{sn:List Str}{sub:List Value}{ab:Bool}{col:Option Bool}{dd:Option Addr}{k0 k1 k2 k3 k5:Option Value}{newId:String} {nm' q':Str}{N':Addr}{bs' bm':List Value}{hdct':Bool}{sn':List Str}{sub':List Value}{ab':Bool}{col':Option Bool}{dd':Option Addr}{k0' k1' k2' k3' k5':Option Value}{newId':String} (hC:h.get? C=some (excClassObj nm q C N bs bm hdct sn sub ab col dd k0 k1 k2 k3 k5 newId))(hD:h.get? D=some (excClassObj nm' q' D N' bs' bm' hdct' sn' sub' ab' col' dd' k0' k1' k2' k3' k5' newId')) (he:h.get? e=some oe)(hcls:oe.cls=.ref C)(hbase:bm'.contains (.type "BaseException")=true)(hsub:(Value.ref C::bm).contains (.ref D)=true) (hq:Q true ⟨h,g,d,t,os⟩):wpAny M A (excMatches (.ref e) (.ref D)) Q E ⟨h,g,d,t,os⟩:=by
 have hcB:(Value.ref D::bm').contains (.type "BaseException")=true:=by rw [List.contains_cons,hbase,Bool.or_true]
 have f:=tc_notTuple;unfold excMatches;repeat (first | (with_reducible refine wpAny_loadPart_at he ?_;rw [hcls]) | with_reducible refine wpAny_loadPart_at hD ?_ | with_reducible refine wpAny_loadPart_at hC ?_ | (with_reducible refine wpAny_isSubtype_exc hD ?_;rw [hcB]) | (with_reducible refine wpAny_isSubtype_exc hC ?_;rw [hsub]) | wp_step)
 exact hq
end
end PySem
namespace Dd
open PySem.Spec L2
theorem _root_.L2.Inv.locals{X:Cx}{pins:List (Addr×Obj)}{O:L2.St}{H:Hp}{s:Shared}{h':Heap}{m':Str->Option Value}{t:Nat}(I:L2.Inv X pins O H s)(hn:h'.Ns X.env.locals m')(sb:Heap.SameBut X.env.locals s.heap h'): L2.Inv X pins (List.replicate X.N.length none) H {s with heap:=h',toks:=t}:=by
 have k:∀ b o,b≠X.env.locals->s.heap.get? b=some o->h'.get? b=some o:=fun b o n e=>sb.extBut _ _ n e;have neL:∀ b o,X.s₀.heap.get? b=some o->b≠X.env.locals:=fun b o e=>Nat.ne_of_lt (Nat.lt_of_lt_of_le (Heap.lt_size e) I.ok.above);refine ⟨I.ok,I.os,I.bare,⟨fun b o e n nf ne=>k b o (neL b o e) (I.base.keep b o e n nf ne),fun b o e n hf ne=>?_,I.base.free,fun b o e ne=>?_,I.base.tups,I.base.frzs,I.base.tbls⟩,⟨m',hn,fun i x v h1 h2=>?_⟩,fun x c e=>?_,I.free,I.freeC,fun p hp=>?_,fun a o e=>?_,by simp⟩
 ·obtain ⟨sl,e1⟩:=I.base.slot b o e n hf ne;exact ⟨sl,k b _ (neL b o e) e1⟩
 ·obtain ⟨o1,e1⟩:=I.base.there b o e ne;exact ⟨o1,k b _ (neL b o e) e1⟩
 ·rw [List.getElem?_replicate] at h2;split at h2<;>cases h2
 ·obtain ⟨v,o,ho,hd⟩:=I.cell x c e;exact ⟨v,o,k c o (I.cne x c e) ho,hd⟩
 ·obtain ⟨q1,q2,q3,q4⟩:=I.pin p hp;exact ⟨k p.1 p.2 q3 q1,q2,q3,q4⟩
 ·refine (I.hok a o e).stay (fun b u hb q=>k b u (fun z=>?_) q) (fun _ q=>q) fun _ _ q=>q;have:=I.free;rw [<- z] at this;rcases hb with rfl | hb;·rw [e] at this;cases this
  ·rw [hb] at this;cases this
abbrev Cx.at_(X:Cx)(pn:List (Addr×Obj))(xe:Value->Shared->Prop):Cx:={X with pn:=pn,xe:=xe}
abbrev Cx.mk_(X:Cx)(e:Addr)(pn:List (Addr×Obj)):Cx:={X with A:=X.A.mark (some (.ref e)),calm:=false,pn:=pn,xe:=fun _ _=>False}
theorem Cx.ok_at{X:Cx}(ok:X.Ok){pn:List (Addr×Obj)}{xe:Value->Shared->Prop}:(Cx.at_ X pn xe).Ok:= ⟨ok.mod,ok.kind,ok.glob,ok.blt,ok.above,ok.inj,ok.has,ok.cab,ok.hd,ok.frames,ok.stk,ok.exf,ok.bs,ok.bsz,ok.noex,ok.exfs,ok.funs,ok.frf⟩
theorem Cx.ok_of{X:Cx}{pn:List (Addr×Obj)}{xe:Value->Shared->Prop}(ok:(Cx.at_ X pn xe).Ok):X.Ok:= ⟨ok.mod,ok.kind,ok.glob,ok.blt,ok.above,ok.inj,ok.has,ok.cab,ok.hd,ok.frames,ok.stk,ok.exf,ok.bs,ok.bsz,ok.noex,ok.exfs,ok.funs,ok.frf⟩
theorem Cx.ok_mk{X:Cx}(ok:X.Ok){e:Addr}{pn:List (Addr×Obj)}:(Cx.mk_ X e pn).Ok:= ⟨ok.mod,ok.kind,ok.glob,ok.blt,ok.above,ok.inj,ok.has,ok.cab,(fun h=>by cases h),ok.frames,ok.stk,ok.exf,ok.bs,ok.bsz,ok.noex,ok.exfs,ok.funs,ok.frf⟩
section
variable {X:Cx}{pins:List (Addr×Obj)}{O:L2.St}{H:Hp}{s:Shared}
theorem _root_.L2.Inv.at_(I:L2.Inv X pins O H s){xe:Value->Shared->Prop}:L2.Inv (Cx.at_ X (X.pn++pins) xe) [] O H s:= ⟨Cx.ok_at I.ok,I.os,I.bare,I.base,I.loc,I.cell,I.free,I.freeC,fun p hp=>I.pin p (by simpa using hp),I.hok,I.len⟩
theorem _root_.L2.Inv.of_at{xe:Value->Shared->Prop}{pins':List (Addr×Obj)}(I:L2.Inv (Cx.at_ X (X.pn++pins) xe) pins' O H s):L2.Inv X pins O H s:= ⟨Cx.ok_of I.ok,I.os,I.bare,I.base,I.loc,I.cell,I.free,I.freeC,fun p hp=>I.pin p (List.mem_append_left _ hp),I.hok,I.len⟩
theorem _root_.L2.Inv.mk_(I:L2.Inv X pins O H s){e:Addr}:L2.Inv (Cx.mk_ X e (X.pn++pins)) [] O H s:= ⟨Cx.ok_mk I.ok,I.os,I.bare,I.base,I.loc,I.cell,I.free,I.freeC,fun p hp=>I.pin p (by simpa using hp),I.hok,I.len⟩
theorem _root_.L2.Inv.of_mk{e:Addr}{pins':List (Addr×Obj)}(ok:X.Ok)(I:L2.Inv (Cx.mk_ X e (X.pn++pins)) pins' O H s):L2.Inv X pins O H s:= ⟨ok,I.os,I.bare,I.base,I.loc,I.cell,I.free,I.freeC,fun p hp=>I.pin p (List.mem_append_left _ hp),I.hok,I.len⟩
theorem Fly.land{P:Program}{w:World}{outer:List Env}{H H':Hp}{s s':Shared}{C ea:Addr}{h5 B:Heap}{a0:Value}(un:Un (frs outer) [] H H' s.heap s'.heap)(hok:HOk P w H' s'.heap)(fw:Heap.FlyingW B outer ea (.ref C) a0 s'.heap) (cov:∀ b o,s'.heap.get? b=some o->(H' b≠none\/((∃ o',s.heap.get? b=some o')/\b∉frs outer))->B.get? b=some o)(fw5:Heap.FlyingW B outer ea (.ref C) a0 h5)(sm:s'.heap.UpToSlots h5): s.heap.get? ea=none/\H' ea=none/\Un (frs outer) [] H (upd H' ea (excO C ea)) s.heap h5/\HOk P w (upd H' ea (excO C ea)) h5/\∃ oe,h5.get? ea=some oe/\oe.cls=.ref C:=by
 have k:=fw5.1;obtain ⟨oe,vs,T,oT,ts,he,⟨hcls,_⟩,hd,_⟩:=fw5.2.2.2;obtain ⟨oe',vs',_,_,_,he',_,hd',_⟩:=fw.2.2.2;have new:s.heap.get? ea=none:=by cases z:s.heap.get? ea with
  | none=>rfl | some o=>
   exfalso;obtain ⟨o1,e1⟩:=un.there ea o z (by simp);by_cases hf:ea∈frs outer
   ·obtain ⟨_,o2,e2,hnf⟩:=fw.2.2.1.mem hf;rw [he'] at e2;cases e2;exact hnf _ hd'
   ·have:=cov ea o1 e1 (.inr ⟨⟨o,z⟩,hf⟩);rw [fw.2.1] at this;cases this
 have hn:H' ea=none:=by cases z:H' ea with
  | none=>rfl | some u=>
   exfalso;have:=cov ea _ he' (.inl (by rw [z];simp));rw [fw.2.1] at this;cases this
 have ne:∀ b o,s.heap.get? b=some o->b≠ea:=fun b o e z=>by rw [z,new] at e;cases e
 have neH:∀ b u,H' b=some u->b≠ea:=fun b u e z=>by rw [z,hn] at e;cases e
 refine ⟨new,hn,⟨fun b o e n nf _=>?_,fun b o e n hf _=>?_,fun b o e n _=>?_,fun b o e _=>?_,fun b xs e=>?_,fun b o u e=>?_,fun b ps e=>?_⟩,fun a o e=>?_,oe,he,hcls⟩
 ·have e1:=un.keep b o e n nf (by simp);exact k b o (cov b o e1 (.inr ⟨⟨o,e⟩,nf⟩))
 ·obtain ⟨sl,e1⟩:=un.slot b o e n hf (by simp);obtain ⟨_,o2,e2,hnf⟩:=fw.2.2.1.mem hf;rw [e1] at e2;cases e2;obtain ⟨sl2,e3⟩:=sm b _ e1 hnf;exact ⟨sl2,e3⟩
 ·rw [zF (ne b o e)];exact un.free b o e n (by simp)
 ·by_cases hf:b∈frs outer
  ·obtain ⟨_,o2,e2,hnf⟩:=fw.2.2.1.mem hf;obtain ⟨sl2,e3⟩:=sm b _ e2 hnf;exact ⟨_,e3⟩
  ·obtain ⟨o1,e1⟩:=un.there b o e (by simp);exact ⟨o1,k b o1 (cov b o1 e1 (.inr ⟨⟨o,e⟩,hf⟩))⟩
 ·have q:=un.tups b xs e;rw [zF (neH b _ q)];exact q
 ·have q:=un.frzs b o u e;rw [zF (neH b _ q)];exact q
 ·obtain ⟨more,q⟩:=un.tbls b ps e;exact ⟨more,by rw [zF (neH b _ q)];exact q⟩
 ·by_cases z:a=ea
  ·subst z;rw [yg] at e;cases e;exact ⟨⟨oe,vs,he,hcls,hd⟩,⟨oe,he⟩,fun h1 h2 ⟨o,ws,q1,q2,q3⟩ st=>⟨o,ws,st o q1,q2,q3⟩⟩
  ·rw [zF z] at e;refine (HOk.cov hok (fun b o e n=>cov b o e (.inl n)) k a o e).stay (fun b u _ q=>q) (fun b q=>?_) fun b xs q=>?_;·rw [zF (neH b _ q)];exact q
   ·rw [zF (neH b _ q)];exact q
end
def ziN(K:W.Frag)(mg:Str->Option Value)(x y:Str):Prop:=∃ C D,mg x=some (.ref C)/\mg y=some (.ref D)/\W.excIn K C bmV "ValueError.__new__"=true/\W.excIn K D bmV "ValueError.__new__"=true/\ ∀ h₀:Heap,K.In h₀->∃ bm N nm q bs hdct sn sub ab col dd k0 k1 k2 k3 k5,h₀.get? C=some (excClassObj nm q C N bs bm hdct sn sub ab col dd k0 k1 k2 k3 k5 "ValueError.__new__")/\(Value.ref C::bm).contains (.ref D)=true
section
variable {prog:Program}{w:World}{A:Around}{E:Value->Shared->Prop}{s:Shared}{env:Env}
theorem z37 {e C D:Addr} {t:Expr} {n:Str} {b₀:Stmt} {suite:List Stmt} {pos:Pos} {rest:List ExceptHandler} {Q:Flow->Shared->Prop} (h:wpAny (model prog w) (A.mark (some (.ref e))) (eval t env) (fun c s₁=>c=.ref D/\ (∃ bm N nm q bs hdct sn sub ab col dd k0 k1 k2 k3 k5 newId,s₁.heap.get? C=some (excClassObj nm q C N bs bm hdct sn sub ab col dd k0 k1 k2 k3 k5 newId)/\(Value.ref C::bm).contains (.ref D)=true)/\ (∃ bm N nm q bs hdct sn sub ab col dd k0 k1 k2 k3 k5 newId,s₁.heap.get? D=some (excClassObj nm q D N bs bm hdct sn sub ab col dd k0 k1 k2 k3 k5 newId)/\bm.contains (.type "BaseException")=true)/\(∃ oe,s₁.heap.get? e=some oe/\oe.cls=.ref C)/\ wpAny (model prog w) (A.mark (some (.ref e))) (setFlight (.ref e) none) (fun _ s₂=> wpAny (model prog w) (A.mark (some (.ref e))) (storeName env n (.ref e)) (fun _ s₃=> wpAny (model prog w) (A.mark (some (.ref e))) (execs (b₀::suite) env) (fun f s₄=>wpAny (model prog w) A (do bindName env n .none;unbindBehindTheSuite env n pos) (fun _ s₅=>Q f s₅) E s₄) (AsSuiteRaised (model prog w) (A.mark (some (.ref e))) env n pos (notedBy (model prog w) (A.mark (some (.ref e))) env (cameBackBy (model prog w) A env E))) s₃) (notedBy (model prog w) (A.mark (some (.ref e))) env (cameBackBy (model prog w) A env E)) s₂) (notedBy (model prog w) (A.mark (some (.ref e))) env (cameBackBy (model prog w) A env E)) s₁) (notedBy (model prog w) (A.mark (some (.ref e))) env (cameBackBy (model prog w) A env E)) s): wpAny (model prog w) A (handleBy (.ref e) env (.ExceptHandler (some t) (some n) (b₀::suite) pos::rest)) Q E s:=by
 refine wpAny_handleBy_cons (codeAny_handlers_test (wpAny_mono h (fun c s₁ h₁=>?_) fun _ _ y=>y)) (by intro q;cases q);obtain ⟨rfl,⟨bm,N,nm,q,bs,hdct,sn,sub,ab,col,dd,k0,k1,k2,k3,k5,newId,hC,hsub⟩,⟨bm',N',nm',q',bs',hdct',sn',sub',ab',col',dd',k0',k1',k2',k3',k5',newId',hD,hbase⟩,⟨oe,he,hcls⟩,hk⟩:=h₁;obtain ⟨hh,g,d,tk,os⟩:=s₁;exact qj hC hD he hcls hbase hsub (codeAny_handlers_suite_as hk)
end
end Dd
namespace PySem
open PySem.Sem (wp)
open PySem.W
structure ExcCls(K:Frag)(C:Addr):Prop where
 ga:findIn K (.ref C) "__getattribute__"=some (some (.builtin "BaseException.__getattribute__"))
 gh:findIn K (.ref C) "__getattr__"=some none
 cl:findIn K (.ref C) "__class__"=some (some (.builtin "object.__class__"))
 ob:mroIn K C (.type "object")=some true
 be:mroIn K C (.type "BaseException")=some true
 ty:∃ d cd sl,K.lookup C=some ⟨.type "type",d,.cls cd,sl⟩
section
variable {prog:Program}{w:World}{A:Around}{E:Value->Shared->Prop}{K:Frag}{h:Heap}{g:Array GenState}{d:Drawn}{t:Nat}{os:OsState}{a C:Addr}{o:Obj}
theorem zi0{M:Model}(hx:h.get? a=some o)(hc:o.cls=.ref C):Looks M h (typeOf (.ref a)) (.ref C):=by
 intro A' Q' E' s' k q;unfold typeOf;refine wpAny_bind (wpAny_loadPart (k _ _ hx) ?_);rw [hc];exact wpAny_pure q
theorem z4L{R:Result->Shared->Prop}(X:K.In h)(Fx:ExcCls K C)(hx:h.get? a=some o)(hc:o.cls=.ref C)(hq:R (.ok (.ret (.ref C))) ⟨h,g,d,t,os⟩): codeAny (model prog w) A (.call (.builtin "getset_descriptor.__get__") ⟨[.builtin "object.__class__",.ref a,.ref C],[]⟩) R ⟨h,g,d,t,os⟩:=by
 have hT5:(⟨h,g,d,t,os⟩:Shared).TypeIs (.builtin "object.__class__") "getset_descriptor":=F.typeOf_object_class;have L1:=looks_mroIn (M:=model prog w) X Fx.ob;rw [<- F.owner_object_class] at L1;refine codeAny_call_builtin F.slot_gs_get.plain F.entry_gs_get (F.slot_gs_get.check _ _ _ _ _ _ _ _ hT5 (F.args_gs_get _ _ _) ?_);repeat (any_goals (first | assumption | (with_reducible refine wpAny_loadPart_at hx ?_;rw [hc]) | (with_reducible refine L1.at ?_) | wp_step))
 refine ⟨Code.quiet_builtin _ (by decide +kernel),codeAny_builtin F.entry_object_class ?_⟩;repeat (any_goals (first | assumption | (with_reducible refine wpAny_loadPart_at hx ?_;rw [hc]) | wp_step))
theorem z2m{tk:Tok}{Q:Fin->Shared->Prop}(X:K.In h)(Fx:ExcCls K C)(hx:h.get? a=some o)(hc:o.cls=.ref C)(hq:Q (.done (.ret (.ref C))) ⟨h,g,d,t,os⟩): wpAny (model prog w) A (Builtin.«object.__getattribute__» ⟨[.ref a,.str "__class__" tk],[]⟩) Q E ⟨h,g,d,t,os⟩:=by
 have hT5:(⟨h,g,d,t,os⟩:Shared).TypeIs (.builtin "object.__class__") "getset_descriptor":=F.typeOf_object_class;have L4:=looks_findIn (M:=model prog w) X Fx.cl;have f5:=F.typeOf_object_class;have f6:=F.slot_gs_get.lookup;have f7:=F.slot_gs_set.lookup;repeat (any_goals (first | assumption | (with_reducible refine wpAny_loadPart_at hx ?_;rw [hc]) | (with_reducible refine L4.at ?_) | wp_step))
 refine z4L X Fx hx hc ?_;repeat (any_goals (first | assumption | wp_step))
theorem z5C{M:Model}{nameV:Value}{Q:Unit->Shared->Prop}(X:K.In h)(Fx:ExcCls K C)(hx:h.get? a=some o)(hc:o.cls=.ref C)(hq:Q () ⟨h,g,d,t,os⟩):wpAny M A (checkBuiltinCall "BaseException.__getattribute__" ⟨[.ref a,nameV],[]⟩) Q E ⟨h,g,d,t,os⟩:=by
 have hk:builtinKind "BaseException.__getattribute__"=some .slot:=by decide +kernel
 have hsplit:splitId "BaseException.__getattribute__"=some ("BaseException","__getattribute__"):=by decide +kernel
 have L1:=looks_mroIn (M:=M) X Fx.be;have ha:=F.args_bexc_ga (.ref a) nameV;simp only [checkBuiltinCall,hk,hsplit];refine wpAny_bind ?_
 ·unfold isInstance;repeat (first | (with_reducible refine wpAny_loadPart_at hx ?_;rw [hc]) | (with_reducible refine L1.at ?_) | wp_step)
  exact hq
theorem z3k{tk:Tok}{R:Result->Shared->Prop}(X:K.In h)(Fx:ExcCls K C)(hx:h.get? a=some o)(hc:o.cls=.ref C)(hq:R (.ok (.ret (.ref C))) ⟨h,g,d,t,os⟩): codeAny (model prog w) A (.call (.builtin "BaseException.__getattribute__") ⟨[.ref a,.str "__class__" tk],[]⟩) R ⟨h,g,d,t,os⟩:= codeAny_call_builtin F.attrBase_ValueError.ga.plain F.entry_bexc_ga (z5C X Fx hx hc (z2m X Fx hx hc hq))
theorem z5E{tk:Tok}{fill expr:Bool}{Q:Value->Shared->Prop}(X:K.In h)(Fx:ExcCls K C)(hx:h.get? a=some o)(hc:o.cls=.ref C)(hq:Q (.ref C) ⟨h,g,d,t,os⟩): wpAny (model prog w) A (getAttrBy (.ref a) (.str "__class__" tk) fill expr) Q E ⟨h,g,d,t,os⟩:=by
 have f3:=F.attrBase_ValueError.ga.bind (.ref a);have hx0:(expr&&onTheHeap (Value.builtin "BaseException.__getattribute__"))=false:=by cases expr<;>rfl
 have hx2:(Value.builtin "BaseException.__getattribute__"==Value.builtin "object.__getattribute__")=false:=by decide +kernel
 have hx1:(onTheHeap (Value.ref C)&&Value.builtin "BaseException.__getattribute__"==Value.builtin "object.__getattribute__")=false:=by rw [hx2];rfl
 have L1:=looks_findIn (M:=model prog w) X Fx.ga;have L2:=looks_findIn (M:=model prog w) X Fx.gh;repeat (any_goals (first | assumption | (with_reducible refine wpAny_loadPart_at hx ?_;rw [hc]) | (with_reducible refine L1.at ?_) | (with_reducible refine L2.at ?_) | wp_step))
 refine z3k X Fx hx hc ?_;repeat (any_goals (first | assumption | wp_step))
theorem z3z{Q:Option Value->Shared->Prop}(X:K.In h)(Fx:ExcCls K C)(hx:h.get? a=some o)(hc:o.cls=.ref C)(hq:Q (some (.ref C)) ⟨h,g,d,t+1,os⟩):wpAny (model prog w) A (getAttr? (.ref a) "__class__") Q E ⟨h,g,d,t,os⟩:=by
 unfold getAttr? getAttrBy?;repeat (any_goals (first | assumption | with_reducible apply z5E X Fx hx hc | (with_reducible refine wpAny_loadPart_at hx ?_;rw [hc]) | wp_step))
end
theorem zde{K:Frag}{a C:Addr}(Fx:ExcCls K C):KitX K (.ref a) (.ref C) (fun h=>∃ o,h.get? a=some o/\o.cls=.ref C) where
 ty:=fun _ _ _ ⟨_,hx,hc⟩=>zi0 hx hc;it:=fun _ _ X _=>by
  obtain ⟨dd,cd,sl,ho⟩:=Fx.ty;intro A' Q' E' s' k q;unfold isType loadHead;exact wpAny_bind (wpAny_loadPart (k _ _ (X _ _ ho)) (wpAny_pure q))
 ne:=fun h tp dd its n sl X htp=>by
  obtain ⟨d2,cd,sl2,ho⟩:=Fx.ty;cases e:(Value.ref C==Value.ref tp) with
  | false=>rfl | true=>
   have e:=eq_of_beq e;cases e;have:=X _ _ ho;rw [htp] at this;simp at this
 ca:=fun {prog w A E Q s} X p hq=>by
  obtain ⟨h,g,d,t,os⟩:=s;obtain ⟨o,hx,hc⟩:=p;exact z3z X Fx hx hc hq
end PySem
namespace L2
open PySem.Spec
end L2
namespace Dd
open PySem.Spec L2
end Dd
namespace L2
open PySem.Spec
open MeetsSeq MeetsSeq2 SeqAt
def zhW(k:Bool):Value->Bool
 | .bool b=>b==k | _=>false
theorem z52:∀ {bs:List Bool}{its:List Value},yW (bs.map V.bl) its->its=bs.map Value.bool
 | [],_,.nil=>rfl | b::bs,_,.cons r rs=>by
  cases r;rw [z52 rs];rfl
theorem zes:∀ (bs:List Bool)(k:Bool)(m:Nat)(hm:m<bs.length),m<bs.idxOf k->(bs[m]==k)=false
 | [],k,m,hm,_=>absurd hm (by simp) | b::bs,k,m,hm,h=>by
  rw [List.idxOf_cons] at h;cases e:b==k with
  | true=>rw [e] at h;simp at h | false=>
   rw [e] at h;cases m with
   | zero=>simpa using e | succ m=>simpa using zes bs k m (by simpa using hm) (by simpa using h)
section
variable {X:Cx}
def zji:V->List V->Hp->VK->Prop:=fun x vs H Q=>∃ (p:Addr)(bs:List Bool)(k:Bool),x=.ref p/\vs=[.bl k]/\Rd H p (.lst (bs.map V.bl))/\Q (.int (bs.count k:Nat)) H
theorem z7U:MtR X "list.count" zji:=by
 intro pins s O H x vs v us Q I rx rv h;obtain ⟨p,bs,k,rfl,rfl,hp,q⟩:=h;cases rx;obtain ⟨u,rfl,ru⟩:=vals1 rv;cases ru;obtain ⟨_,its,n,r,e1⟩:=hp.ok I.hok;cases z52 r;refine call_meets PySem.F.slot_list_count ⟨_,e1,rfl⟩ PySem.F.entry_list_count (PySem.F.args_list_count_2 _ _) (list_countAt p _ n _ _ (.bool k) (zhW k)) ⟨e1,fun y hy=>?_,?_⟩
 ·obtain ⟨b,_,rfl⟩:=List.mem_map.mp (List.mem_toArray.mp hy);exact EqAt.bool_bool b k
 ·have e:(List.map Value.bool bs).countP (zhW k)=bs.count k:=by rw [List.countP_map];rfl
  refine ⟨.int (bs.count k:Nat),H,I.kept (fun b o e=>e),⟨s.toks,?_⟩,q⟩;rw [<- e]
def zjr:V->List V->Hp->VK->Prop:=fun x vs H Q=>∃ (p:Addr)(bs:List Bool)(k:Bool),x=.ref p/\vs=[.bl k]/\Rd H p (.lst (bs.map V.bl))/\k∈bs/\bs.length<2 ^ 62/\Q (.int (bs.idxOf k:Nat)) H
theorem z7p:MtR X "list.index" zjr:=by
 intro pins s O H x vs v us Q I rx rv h;obtain ⟨p,bs,k,rfl,rfl,hp,hk,hl,q⟩:=h;cases rx;obtain ⟨u,rfl,ru⟩:=vals1 rv;cases ru;obtain ⟨_,its,n,r,e1⟩:=hp.ok I.hok;cases z52 r;have hj:bs.idxOf k<bs.length:=List.idxOf_lt_length_iff.mpr hk;refine call_meets PySem.F.slot_list_index ⟨_,e1,rfl⟩ PySem.F.entry_list_index (PySem.F.args_list_index_2 _ _) (list_indexAt p _ n _ _ (.bool k) (zhW k) (bs.idxOf k) (by simpa using hj) (by omega) ?_ ?_) ⟨e1,fun y hy=>?_,?_⟩
 ·have:=List.getElem_idxOf hj;simp [zhW,this]
 ·intro m hm hlt;have hm':m<bs.length:=by simpa using hm
  have:=zes bs k m hm' hlt;simpa [zhW] using this
 ·obtain ⟨b,_,rfl⟩:=List.mem_map.mp (List.mem_toArray.mp hy);exact EqAt.bool_bool b k
 ·exact ⟨.int (bs.idxOf k:Nat),H,I.kept (fun b o e=>e),⟨s.toks,rfl⟩,q⟩
end
end L2
namespace Dd
open PySem.Spec L2
end Dd
namespace L2
open PySem.Spec
structure uL(k:Nat)(A:Around):Prop where
 dp:A.depth+3*k+5<recursionLimit
 un:A.units+16*k+200<cLine
 gd:A.guards=some []
theorem z0l.h{k:Nat}{A:Around}(r:z0l k A):uL k A:=⟨r.dp,r.un,r.gd⟩
theorem uL.mono{j k:Nat}{A:Around}(r:uL k A)(h:j<=k):uL j A:=⟨by have:=r.dp;omega,by have:=r.un;omega,r.gd⟩
theorem uL.deeper{k:Nat}{A:Around}(r:uL (k+1) A)(env:Env):uL k (A.deeper env):= ⟨by have:=r.dp;show A.depth+1+3*k+5<_;omega,by have:=r.un;show A.units+3+16*k+200<_;omega,r.gd⟩
theorem uL.depth{k:Nat}{A:Around}(r:uL k A):A.depth<recursionLimit:=by have:=r.dp;omega
theorem uL.units{k:Nat}{A:Around}(r:uL k A):A.units+64<cLine:=by have:=r.un;omega
structure zau(P:Program)(w:World)(K:W.Frag)(mg:Str->Option Value)(base:Heap)(CX:CXT)(k:Nat)(f:Addr)(fd:FuncData)(ps:List Str)(sp:Sp):Prop where
 len:∀ vs H Q E,sp vs H Q E->vs.length=ps.length
 run:∀ (A:Around)(outer:List Env)(s:Shared)(H:Hp)(args:Args)(us:List Value)(vs:List V)(Q:VK)(E:XK),uL k A->zgu P w K mg base A outer s H->BindsTo s fd args (ps.zip us)->yW vs us->sp vs H Q E-> codeAny (model P w) A (.call (.ref f) args) (CR CX outer P w H s Q E) s
theorem zhf {CX:CXT} {P:Program} {w:World} {K:W.Frag} {mg:Str->Option Value} {base:Heap} {k:Nat} {f:Addr} {name qual:Str} {params:Arguments} {body:List Stmt} {scope:Scope} {dV kV doc pm cdv ct oc:Value} {an od:Option Addr} {osl:Array (Option Value)} {N ps:List Str} {sp:Sp} (lk:K.lookup f=some ⟨oc,od,.func (W.fnOf name qual params body scope dV kV doc pm an cdv ct),osl⟩) (hcd:W.codeIn K cdv qual=true) (S:zv N ps scope) (len:∀ vs H Q E,sp vs H Q E->vs.length=ps.length) (hbody:∀ (A:Around) (outer:List Env) (s:Shared) (H:Hp) (vs:List V) (Q:VK) (E:XK),uL k (A.deeper (envOfC qual scope s.heap.objs.size f cdv))->sp vs H Q E-> ∃ t,PSs (z2c CX P w K mg base N qual scope f cdv A outer s H E) body t/\t {nx:=fun _ H'=>Q .non H',rt:=Q} (start N vs) H): zau P w K mg base CX (k+1) f (W.fnOf name qual params body scope dV kV doc pm an cdv ct) ps sp:=by
 refine ⟨len,fun A outer s H args us vs Q E hr e0 hb r hsp=>?_⟩;have hl:=len _ _ _ _ hsp;have KX:K.In s.heap:=e0.mod.kin.keeps fun b o e=>(e0.bs b o e).1;have lim:s.heap.NoLimit:=e0.mod.nolimit.keeps fun b o e=>(e0.bs b o e).1;have hkind:∀ y∈ps.zip us,scope.names.lookup y.1=some .local\/(scope.names.lookup y.1=some .cell/\((cellsFrom (s.heap.objs.size+1) scope.names []).lookup y.1).isSome=true):=fun ⟨n,v⟩ hy=>by
  rcases S.par n (List.of_mem_zip hy).1 with q | q;·exact .inl q
  ·exact .inr ⟨q,W.cellsFrom_some _ _ _ (.inl q)⟩
 refine codeAny_call_function hr.depth (KX _ _ lk) rfl S.co S.gen rfl (W.codeRec_of KX hcd) (hb _ _ _ _ ?_);refine wpAny_newFunctionEnv_cells S.kind hkind fun env he s1 x=>?_;subst he;refine ⟨lim.keeps x.toInCall.keep,codeAny_func ?_⟩;obtain ⟨t,ht,hq⟩:=hbody A outer s H vs Q E (hr.deeper _) hsp;have I:Inv (z2c CX P w K mg base N qual scope f cdv A outer s H E) [] (start N vs) H s1:=z5Y S e0 hl r x;refine wpAny_mono (ht [] s1 (start N vs) H _ I hq) (fun fl s' hs=>?_) fun e s' hs=>hs;have fin:∀ {O':St} {H':Hp} {v:V} {u:Value},Inv (z2c CX P w K mg base N qual scope f cdv A outer s H E) [] O' H' s'->xx v u->Q v H'->CE outer P w H s Q u s':= fun {O' H' v u} J rv q=>⟨v,H',J.os,J.bare,J.base,J.hok,rv,q⟩;cases fl with
 | ret u=>
  obtain ⟨v,O',H',J,rv,q⟩:=hs;exact fin J rv q | next=>
  obtain ⟨O',H',J,q⟩:=hs;exact fin (v:=V.non) (u:=Value.none) J rfl q | brk=>
  obtain ⟨_,_,_,q⟩:=hs;exact False.elim q | cont=>
  obtain ⟨_,_,_,q⟩:=hs;exact False.elim q
section
variable {X:Cx}{CX:CXT}{k:Nat}{f:Addr}{fd:FuncData}{ps:List Str}{sp:Sp}{ds:List Value}{dvs:List V}{E:XK}{x:Str}{p pos:Pos}{e:Expr}{es:List Expr}{t:TA}
theorem zfO{pins:List (Addr×Obj)}{O:St}{H:Hp}{s:Shared}{Q:VK}{us:List Value}{vs:List V}(F:zau X.prog X.w X.K X.mg X.base CX k f fd ps sp)(hr:uL k X.A)(hb:Binds X.K fd ps ds)(hd:yW dvs ds)(hx:Passes CX X E) (I:Inv X pins O H s)(r:yW vs us)(h:sp (vs++dvs) H Q E):wpAny (model X.prog X.w) X.A (call (.ref f) us) (EP X pins O Q) X.xe s:=by
 have r2:yW (vs++dvs) (us++ds):=r.append hd;have hl:(us++ds).length=ps.length:=by rw [<- r2.length];exact F.len _ _ _ _ h
 refine wpAny_call (codeAny_mono (F.run X.A X.stack s H ⟨us,[]⟩ (us++ds) (vs++dvs) Q E hr I.env0 (hb s us I.kIn hl) r2 h) fun r s' hq=>?_);cases r with
 | error e=>exact hx pins O H s e s' I hq | ok fl=> cases fl with
  | ret u=>exact I.after hq | next=>exact False.elim hq | brk=>exact False.elim hq | cont=>exact False.elim hq
theorem zdo (F:zau X.prog X.w X.K X.mg X.base CX k f fd ps sp) (hr:uL k X.A) (hg:Gl X x) (hm:X.mg x=some (.ref f)) (hk:W.keepIn X.K (.ref f)=true) (hb:Binds X.K fd ps ds) (hd:yW dvs ds) (hx:Passes CX X E) (ha:PA X (e::es) t) (hdb:(x==("__debug__":Str))=false:=by decide) (he:starEach (e::es) X.env=(false,eval e X.env)::starEach es X.env:=by rfl) (hpl:(backTo pos (starEach es X.env)).any (·.1)=false:=by rfl): PE X (.Call (.Name x p) (e::es) [] pos) (zge sp dvs E t):=by
 intro pins s O H Q I h;refine wpAny_Call_Name_kw (z0I I hg hm ?_ hdb);refine W.callWith_K (h₀:=X.base) I.ok.mod.kin hk (thn (ha pos pins s O H _ I h) fun us s1 ⟨vs,H1,I1,r,q⟩=>⟨I1.kIn,?_⟩) he hpl;exact zfO F hr hb hd hx I1 r q
end
section
variable {P:Program}{w:World}{K:W.Frag}{mg:Str->Option Value}{base:Heap}
theorem Fun.okH{x qual:Str}{st:Stmt}{f:Addr}{fd:FuncData}{N ps:List Str}{k:Nat}{sp:Sp}(F:Fun K x qual st f fd)(S:zv N ps (zf st))(len:∀ vs H Q E,sp vs H Q E->vs.length=ps.length) (hbody:∀ (cdv:Value)(A:Around)(outer:List Env)(s:Shared)(H:Hp)(vs:List V)(Q:VK)(E:XK),uL k (A.deeper (envOfC qual (zf st) s.heap.objs.size f cdv))->sp vs H Q E-> ∃ t,PSs (z2c CX0 P w K mg base N qual (zf st) f cdv A outer s H E).nox (wY st) t/\t {nx:=fun _ H'=>Q .non H',rt:=Q} (start N vs) H):zau P w K mg base CX0 (k+1) f fd ps sp:=by
 obtain ⟨oc,od,kV,doc,pm,an,cdv,ct,osl,rfl,lk,hcd⟩:=F.ex;refine zhf lk hcd S len fun A outer s H vs Q E hr hsp=>?_;obtain ⟨t,h,q⟩:=hbody cdv A outer s H vs Q E hr hsp;exact ⟨t,h.nox,q⟩
end
end L2
namespace Dd
open PySem.Spec L2
def ziQ(P:Program)(w:World)(K:W.Frag)(mg:Str->Option Value)(base:Heap)(CX:CXT)(x:Str)(n:Nat)(M:Mir):Prop:= ∃ f fd ps,zau P w K mg base CX n f fd ps (zdw ⟨mg,K⟩ M)/\Binds K fd ps []/\W.keepIn K (.ref f)=true/\mg x=some (.ref f)
section
variable {X:Cx}{E:XK}{e:Expr}{es:List Expr}{pos:Pos}{CX:CXT}
theorem zf6 {x:Str} {p:Pos} {n:Nat} {M:Mir} {f:FA} (F:ziQ X.prog X.w X.K X.mg X.base CX x n M) (hr:uL n X.A) (hx:Passes CX X E) (hg:Gl X x) (ha:RA X E (e::es) f) (hdb:(x==("__debug__":Str))=false:=by decide) (he:starEach (e::es) X.env=(false,eval e X.env)::starEach es X.env:=by rfl) (hpl:(backTo pos (starEach es X.env)).any (·.1)=false:=by rfl):RE X E (.Call (.Name x p) (e::es) [] pos) (ze M f):=by
 obtain ⟨fa,fd,ps,F,hb,hk,hm⟩:=F;refine zV (zdo F hr hg hm hk hb .nil hx ha hdb he hpl) fun O H Q ⟨Y,Z,s,r,en,h⟩=>?_;refine vZ (k:=fun Z xs s1=>M xs s1) r en h _ fun vs H2 Y2 s2 ds r2 en2 dn2 stp2 h3=>?_;rw [List.append_nil];exact ⟨Y2,s2,ds,r2,dn2,h3⟩
end
section
variable {P:Program}{w:World}{K:W.Frag}{mg:Str->Option Value}{base:Heap}
theorem zez{x qual:Str}{st:Stmt}{f:Addr}{fd:FuncData}{N ps:List Str}{k n:Nat}{fs:FS}(F:Fun K x qual st f fd)(hm:mg x=some (.ref f))(hb:Binds K fd ps [])(S:zv N ps (zf st))(hn:ps.length=n) (body:∀ (cdv:Value)(A:Around)(outer:List Env)(s:Shared)(H:Hp)(E:XK),uL k (A.deeper (envOfC qual (zf st) s.heap.objs.size f cdv))-> RSs (z2c CX0 P w K mg base N qual (zf st) f cdv A outer s H E).nox E0 (wY st) fs):ziQ P w K mg base CX0 x (k+1) (Mof N n fs):=by
 subst hn;refine ⟨f,fd,ps,F.okH S (fun vs H Q E h=>?_) (fun cdv A outer s H vs Q E hr h=>?_),hb,F.kp,hm⟩
 ·obtain ⟨Y,s,ds,_,dn,h⟩:=h;unfold Mof at h;split at h;·rename_i e;rw [dn.length];exact e
  ·exact h.elim
 ·obtain ⟨Y,st0,ds,r,dn,h⟩:=h;refine ⟨_,body cdv A outer s H E hr,Y,zr N ds,st0,r,jo dn,?_⟩;unfold Mof at h;split at h
  ·split at h
   ·rename_i d s' e;rw [e];intro fv H' Y' stp fd;cases fv with
    | rt v=>exact h v H' Y' stp fd | _=>exact (show False from fd).elim
   ·rename_i Z s' e;rw [e];intro fv H' Y' stp fd;cases fv with
    | nx v=>exact h .non H' Y' stp (by simp [Den]) | _=>exact (show False from fd).elim
   ·exact h.elim
  ·exact h.elim
end
theorem z0S{X:Cx}:xz X (.builtin "isinstance") (fun xs H Q=>∃ (a C:Addr)(y:V)(b:Bool),xs=[.ref a,y]/\H a=some (excO C a)/\PySem.ExcCls X.K C/\(∀ c,xx y c->W.kitOne X.K (.ref C) c=some b)/\Q (.bl b) H):=by
 intro pins s O H xs us Q I r h;obtain ⟨a,C,y,b,rfl,ha,hc,hk,q⟩:=h;obtain ⟨u,v,rfl,ru,rv⟩:=vals2 r;cases ru;obtain ⟨⟨o,vs,h1,h2,_⟩,_⟩:=(show xL X.prog X.w H s.heap a (excO C a) from I.hok a _ ha);exact W.kia_one (PySem.zde hc) I.kIn ⟨o,h1,h2⟩ (hk v rv) (fun z=>nomatch z) fun tk=>⟨.bl b,H,I.tok _,rfl,q⟩
structure z6Y(mg:Gm)(rs cs:List Str):Prop where
 cls:∀ c∈rs,∀ C,mg.m c=some (.ref C)->PySem.ExcCls mg.K C
 has:∀ d∈cs,∃ D,mg.m d=some (.ref D)
 one:∀ c∈rs,∀ d∈cs,∀ C D,mg.m c=some (.ref C)->mg.m d=some (.ref D)->W.kitOne mg.K (.ref C) (.ref D)=some (c==d)
 val:∀ c∈rs,∀ C,mg.m c=some (.ref C)->W.kitOne mg.K (.ref C) (.type "ValueError")=some true
def ziW(rs:List Str)(T:Str):D->Sto->R D
 | .exc c,s=>if c∈rs then .ok (.bl (c==T)) s else .no | _,_=>.no
def z1B(rs:List Str)(T:Str)(f:FE):FE:=fun Z s=>(f Z s).bind fun d s1=>ziW rs T d s1
def ziZ(rs:List Str):D->Sto->R D
 | .exc c,s=>if c∈rs then .ok (.bl true) s else .no | _,_=>.no
def zl8(rs:List Str)(f:FE):FE:=fun Z s=>(f Z s).bind fun d s1=>ziZ rs d s1
section
variable {X:Cx}{E:XK}{e:Expr}{pos:Pos}
theorem qY{p p2:Pos}{T:Str}{rs cs:List Str}{f:FE}(FM:z6Y (gm X) rs cs)(hT:T∈cs)(hg:Gl X "isinstance")(hm:X.mg "isinstance"=none)(hg2:Gl X T)(he:RE X E e f) (hd:(T==("__debug__":Str))=false:=by decide) (hs:starEach [e,.Name T p2] X.env=(false,eval e X.env)::starEach [.Name T p2] X.env:=by rfl)(hpl:(backTo pos (starEach [.Name T p2] X.env)).any (·.1)=false:=by rfl):RE X E (.Call (.Name "isinstance" p) [e,.Name T p2] [] pos) (z1B rs T f):=by
 obtain ⟨D,hD⟩:=FM.has T hT;exact zV (z1J z0S hg hm (by decide +kernel) (va he (va (z2F hg2 hD (show xx (.ref D) (.ref D) from rfl) hd) kI (zx ..)) hs) (by decide) (by decide) hs hpl) fun O H Q ⟨Y,Z,s,r,en,h⟩=>by
  refine yr (k:=fun Z d s1=>ziW rs T d s1) r en h _ fun v H1 Y1 s1 d r1 en1 dn stp h1=>?_;unfold ziW at h1;split at h1
  ·rename_i c;split at h1
   ·rename_i hc;simp only [Den] at dn;obtain ⟨a,C,rfl,hC,hH⟩:=dn;exact ⟨a,C,.ref D,c==T,rfl,hH,FM.cls c hc C hC,fun z hz=>by cases hz;exact FM.one c hc T hT C D hC hD,okR.here (b:=V.bl (c==T)) h1 r1 um⟩
   ·exact h1.elim
  ·exact h1.elim
theorem zjb{p p2:Pos}{rs cs:List Str}{f:FE}(FM:z6Y (gm X) rs cs)(hg:Gl X "isinstance")(hm:X.mg "isinstance"=none)(hg2:Gl X "ValueError")(hm2:X.mg "ValueError"=none)(he:RE X E e f) (hs:starEach [e,.Name "ValueError" p2] X.env=(false,eval e X.env)::starEach [.Name "ValueError" p2] X.env:=by rfl)(hpl:(backTo pos (starEach [.Name "ValueError" p2] X.env)).any (·.1)=false:=by rfl):RE X E (.Call (.Name "isinstance" p) [e,.Name "ValueError" p2] [] pos) (zl8 rs f):= zV (z1J z0S hg hm (by decide +kernel) (va he (va (zaC hg2 hm2 (by decide +kernel) (show xx (.ty "ValueError") (.type "ValueError") from rfl)) kI (zx ..)) hs) (by decide) (by decide) hs hpl) fun O H Q ⟨Y,Z,s,r,en,h⟩=>by
  refine yr (k:=fun Z d s1=>ziZ rs d s1) r en h _ fun v H1 Y1 s1 d r1 en1 dn stp h1=>?_;unfold ziZ at h1;split at h1
  ·rename_i c;split at h1
   ·rename_i hc;simp only [Den] at dn;obtain ⟨a,C,rfl,hC,hH⟩:=dn;exact ⟨a,C,.ty "ValueError",true,rfl,hH,FM.cls c hc C hC,fun z hz=>by cases hz;exact FM.val c hc C hC,okR.here (b:=V.bl true) h1 r1 um⟩
   ·exact h1.elim
  ·exact h1.elim
end
section
variable {X:Cx}{E:XK}{e a b:Expr}{es:List Expr}{pos:Pos}{CX:CXT}
theorem zkn{x:Str}{g:Addr}{p:Pos}(hg:Gl X x)(hm:X.mg x=some (.ref g))(hd:(x==("__debug__":Str))=false:=by decide):RE X E (.Name x p) (eC (.fn x)):= zV (z2F hg hm (show xx (.ref g) (.ref g) from rfl) hd) fun O H Q ⟨Y,Z,s,r,en,h⟩=>okR.here h r (by simp only [Den];exact ⟨g,rfl,hm⟩)
theorem zca{x:Str}{p:Pos}{n:Nat}{M:Mir}(F:Has X.prog X.w X.K X.mg X.base CX x n M)(hg:Gl X x)(hd:(x==("__debug__":Str))=false:=by decide):RE X E (.Name x p) (eC (.fn x)):=by
 obtain ⟨f,_,_,_,_,_,hm⟩:=F;exact zkn hg hm hd
def z8R(g:FE)(Ms:List (Str×Mir))(f:FA):FE:=fun Z s=>(g Z s).bind fun d s1=>match d with
 | .fn y=>match Ms.lookup y with
  | some M=>(f Z s1).bind fun xs s2=>M xs s2 | none=>.no
 | _=>.no
theorem zdj(args:List Expr)(sp:Pos)(env:Env):eval (.Call (.Subscript a b sp) args [] pos) env=(do callWith pos (<- eval (.Subscript a b sp) env) [] (backTo pos (starEach args env)) (backToKw pos (keywordEach [] env))):=rfl
theorem zew {sp:Pos} {n:Nat} {Ms:List (Str×Mir)} {g:FE} {f:FA} (F:∀ y M,Ms.lookup y=some M->Has X.prog X.w X.K X.mg X.base CX y n M) (hr:z0l n X.A) (hxx:Passes CX X E) (hg:RE X E (.Subscript a b sp) g) (ha:RA X E (e::es) f) (he:starEach (e::es) X.env=(false,eval e X.env)::starEach es X.env:=by rfl) (hpl:(backTo pos (starEach es X.env)).any (·.1)=false:=by rfl):RE X E (.Call (.Subscript a b sp) (e::es) [] pos) (z8R g Ms f):=by
 intro pins s O H Q I ⟨Y,Z,st,r,en,h⟩;unfold z8R at h;rw [zdj];refine wpAny_bind (thn (hg pins s O H (fun v H1=>∃ Y1 s1 d,xZ (gm X) H Y H1 Y1 s1/\Den (gm X) H1 Y1 d v/\okR (gm X) E H1 Y1 (Den (gm X)) (match d with
  | .fn y=>match Ms.lookup y with
   | some M=>(f Z s1).bind fun xs s2=>M xs s2 | none=>.no
  | _=>.no) Q) I ⟨Y,Z,st,r,en,(okR.bind (Dn:=Den (gm X)) h).imp fun v H1 q=>q⟩) fun u s1 ⟨v,H1,I1,r1,Y1,st1,d,stp,dn,h1⟩=>?_);split at h1
 ·rename_i y;split at h1
  ·rename_i M hM;simp only [Den] at dn;obtain ⟨gg,rfl,hmg⟩:=dn;cases r1;obtain ⟨fa,fd,ps,Fk,hb,hk,hm⟩:=F y M hM;have e0:gg=fa:=by
    have hmg':X.mg y=some (.ref gg):=hmg;rw [hmg'] at hm;cases hm;rfl
   subst e0;have hA:=ha pos pins s1 O H1 (fun vs H2=>zdw (gm X) M (vs++[]) H2 Q E) I1 (vZ (k:=fun Z xs s1=>M xs s1) stp.rep (en.mono stp) h1 _ fun vs H2 Y2 s2 ds r2 en2 dn2 stp2 h3=>by
    rw [List.append_nil];exact ⟨Y2,s2,ds,r2,dn2,h3⟩);refine W.callWith_K (h₀:=X.base) I1.ok.mod.kin hk (thn hA fun us s2 ⟨vs,H2,I2,r2,q⟩=>⟨I2.kIn,?_⟩) he hpl;exact z8l Fk hr hb .nil hxx I2 r2 q
  ·exact h1.elim
 ·exact h1.elim
end
end Dd
namespace PySem
open PySem.AutoSeq1 (wpAny_loadPart')
open MeetsSeq MeetsSeq2 SeqAt
theorem z62 (l:Addr) (items:Array Value) (n:Nat) (dd:Option Addr) (sl:Array (Option Value)) (x:Int) (u:Tok) (h2:2<=x) (hx:x<2 ^ 63) (hne:items.isEmpty=false) (hc:¬ (items.size:Int)*x > (2 ^ 63-1) / 8) (ht:Builtin.Tuple.tupleTooMany ((items.size:Int)*x)=false) (hs:((List.replicate x.toNat items).foldl (· ++ ·) #[]).size<=sizeLine): Meets (Builtin.«tuple.__mul__» ⟨[.ref l,.int x u],[]⟩) (fun A R s=>s.heap.get? l=some {cls:=.type "tuple",dict:=dd,data:=.seq items n,slots:=sl}/\R (.ok (.ret (.ref s.heap.objs.size))) {s with heap:=s.heap.push {cls:=.type "tuple",data:=.seq ((List.replicate x.toNat items).foldl (· ++ ·) #[])}}):= .of_wp fun prog w A R s h=>by
  obtain ⟨hp,g,d,tk,os⟩:=s;obtain ⟨hl,h⟩:=h;have e1:(x==1)=false:=by simp;omega
  have e2:decide (x<=0)=false:=by simp;omega
  have e3:decide (x < -(2 ^ 63))=false:=by simp;omega
  have e4:decide (x ≥ 2 ^ 63)=false:=by simp;omega
  wp_walk using wpAny_loadPart' hl;rw [if_neg (by simp;omega)];wp_walk using wpAny_loadPart' hl;rw [if_neg hc];wp_walk;exact ⟨_,rfl,h⟩
theorem z4R(l:Addr)(items:Array Value)(n:Nat)(dd:Option Addr)(sl:Array (Option Value))(u:Tok): Meets (Builtin.«tuple.__mul__» ⟨[.ref l,.int 1 u],[]⟩) (fun A R s=>s.heap.get? l=some {cls:=.type "tuple",dict:=dd,data:=.seq items n,slots:=sl}/\R (.ok (.ret (.ref l))) s):= .of_wp fun prog w A R s h=>by
  obtain ⟨hp,g,d,tk,os⟩:=s;obtain ⟨hl,h⟩:=h;wp_walk using wpAny_loadPart' hl;exact ⟨_,rfl,h⟩
theorem qE:fillsNumberSlot (.type "tuple") "mul"=pure false:= fillsNumberSlot_seq (id:="tuple.__mul__") (r:=some (.builtin "tuple.__rmul__")) F.slot_tuple_mul.lookup (by decide +kernel) F.slot_tuple_rmul.lookup (by decide +kernel)
theorem z14:seqRepeat? (.type "tuple")=pure (some (.builtin "tuple.__mul__")):=by
 unfold seqRepeat?;rw [seqSlot_of (T:="tuple") (name:="__mul__") (id:="tuple.__mul__") F.slot_tuple_mul.lookup (by decide +kernel),seqSlot_of (T:="tuple") (name:="__rmul__") (id:="tuple.__rmul__") F.slot_tuple_rmul.lookup (by decide +kernel)];rfl
theorem uR(a:Int)(t:Tok)(l:Addr)(items:Array Value)(n:Nat)(dd:Option Addr)(sl:Array (Option Value)): Meets (Builtin.«int.__rmul__» ⟨[.int a t,.ref l],[]⟩) (fun _ R s=>s.heap.get? l=some {cls:=.type "tuple",dict:=dd,data:=.seq items n,slots:=sl}/\R (.ok (.ret Value.notImplemented)) s):= .of_wp fun prog w A R s h=>by obtain ⟨hp,g,d,tk,os⟩:=s;obtain ⟨hl,h⟩:=h;wp_walk;exact ⟨_,rfl,h⟩
end PySem
namespace L2
open PySem.Spec
section
variable {X:Cx}
def zkk:R2:=fun x y H Q=>∃ l k xs,x=.ref l/\y=.int k/\H l=some (.tup xs)/\1<=k/\xs≠[]/\xs.length*k.toNat<=sizeLine/\ ((k=1->Q (.ref l) H)/\∀ p,H p=none->Q (.ref p) (upd H p (.tup (List.replicate k.toNat xs).flatten)))
theorem zfs:OpR X (binaryOp .Mult) zkk:=by
 intro pins s O H x y v u Q I rx ry h;obtain ⟨l,k,xs,rfl,rfl,hH,h1,hne,hz,q1,q⟩:=h;cases rx;obtain ⟨t,rfl⟩:=ry;obtain ⟨z,its,r,o,e,c1,d1,n,w1⟩:=(show xL X.prog X.w H s.heap l (.tup xs) from I.hok l _ hH);obtain ⟨cls,dd,data,sl⟩:=o;simp only at c1 d1 w1;subst c1 d1 w1;have hl:xs.length=its.length:=by have:=r.length;omega
 have hp:0<its.length:=by rw [<- hl];exact List.length_pos_iff.mpr hne
 have hk:((k.toNat:Nat):Int)=k:=by omega
 have hlen:its.length*k.toNat<=sizeLine:=by rw [<- hl];exact hz
 have hkle:k.toNat<=sizeLine:=Nat.le_trans (Nat.le_mul_of_pos_left _ hp) hlen;have hS:(sizeLine:Nat)<=(2 ^ 63-1) / 8:=by decide
 have hkb:k<2 ^ 63:=by
  have:k.toNat<=(2 ^ 63-1) / 8:=Nat.le_trans hkle hS;omega
 have hm:((its.toArray.size:Nat):Int)*k=((its.length*k.toNat:Nat):Int):=by rw [List.size_toArray,Int.natCast_mul,hk]
 by_cases ho:k=1
 ·subst ho;refine wpAny_binaryOp_repeat_ref (T:="tuple") (U:="int") (by decide) ⟨_,e,rfl⟩ (fun s'=>typeIs_int s' 1 t) qE F.fills_int_mul F.slot_int_rmul z14 F.slot_int_index.lookup (call_meets F.slot_int_rmul (typeIs_int s 1 t) F.entry_int_rmul (F.args_int_rmul_2 _ _) (uR 1 t l its.toArray n _ sl) ⟨e,rfl,⟨_,e,rfl⟩,call_meets F.slot_tuple_mul ⟨_,e,rfl⟩ F.entry_tuple_mul (F.args_tuple_mul_2 _ _) (z4R l its.toArray n _ sl t) ⟨e,?_⟩⟩);exact ⟨.ref l,H,I,rfl,q1 rfl⟩
 ·have hnew:List.foldl (fun x1 x2=>x1++x2) #[] (List.replicate k.toNat its.toArray)=(List.replicate k.toNat its).flatten.toArray:=by
   have:=foldl_rep its k.toNat [];rw [List.nil_append] at this;exact this
  refine wpAny_binaryOp_repeat_ref (T:="tuple") (U:="int") (by decide) ⟨_,e,rfl⟩ (fun s'=>typeIs_int s' k t) qE F.fills_int_mul F.slot_int_rmul z14 F.slot_int_index.lookup (call_meets F.slot_int_rmul (typeIs_int s k t) F.entry_int_rmul (F.args_int_rmul_2 _ _) (uR k t l its.toArray n _ sl) ⟨e,rfl,⟨_,e,rfl⟩,call_meets F.slot_tuple_mul ⟨_,e,rfl⟩ F.entry_tuple_mul (F.args_tuple_mul_2 _ _) (z62 l its.toArray n _ sl k t (by omega) hkb (by cases its with | nil=>simp at hp | cons a b=>rfl) (by rw [hm];have:=Nat.le_trans hlen hS;omega) (by rw [hm];unfold Builtin.Tuple.tupleTooMany;exact decide_eq_false (by omega)) (by rw [hnew,List.size_toArray,len_rep,Nat.mul_comm];exact hlen)) ⟨e,?_⟩⟩);rw [hnew];have hlz:(List.replicate k.toNat xs).flatten.length<=sizeLine:=by rw [len_rep,Nat.mul_comm];exact hz
  exact ⟨.ref _,_,I.laid (o:=.tup (List.replicate k.toNat xs).flatten) (t':=s.toks) (fun b u q=>Heap.get?_push_of_some _ q) (Nat.le_refl _) ⟨hlz,_,r.rep k.toNat,zam.new _ _⟩,rfl,q _ I.fresh⟩
end
end L2
namespace Dd
open PySem.Spec L2
section
variable {X:Cx}{E:XK}
def z9M:D->D->Sto->R D
 | .tup xs,.int k,s=>if 1<=k/\xs≠[]/\xs.length*k.toNat<=cap then .ok (.tup (List.replicate k.toNat xs).flatten) s else .no | _,_,_=>.no
theorem zgT:∃ r,OpR X (binaryOp .Mult) r/\OpF X E r z9M:=by
 refine ⟨_,zfs,?_⟩;intro H Y s d1 d2 v1 v2 Q r h1 h2 h;unfold z9M at h;split at h
 ·rename_i xs k;cases ye h2;split at h
  ·rename_i hl;have hden:=h1;simp only [Den] at h1;obtain ⟨a,vs,rfl,e1,e2⟩:=h1;refine ⟨a,k,vs,rfl,rfl,e1,hl.1,fun z=>?_,by rw [e2.length];exact vJ hl.2.2,fun hk=>?_,z0O r h (e2.flat_rep _)⟩
   ·subst z;have:=e2.length;exact hl.2.1 (List.length_eq_zero_iff.mp (by simpa using this.symm))
   ·subst hk;have e:(List.replicate (1:Int).toNat xs).flatten=xs:=by simp
    rw [e] at h;exact h.here r hden
  ·exact h.elim
 ·exact h.elim
@[simp] theorem zeH (xs:List D)(k:Int)(s:Sto):z9M (.tup xs) (.int k) s=if 1<=k/\xs≠[]/\xs.length*k.toNat<=cap then .ok (.tup (List.replicate k.toNat xs).flatten) s else .no:=id rfl
end
end Dd
namespace L2
open PySem.Spec
section
variable {X:Cx}{pos:Pos}
theorem Inv.far{pins:List (Addr×Obj)}{O:St}{H:Hp}{s:Shared}(I:Inv X pins O H s):(s.heap.objs.size==sysModules)=false:=by
 obtain ⟨o,es,ep,h,_⟩:=I.mod.glob.keeps I.bk;have h1:(mainGlobals:Nat)<s.heap.objs.size:=Heap.lt_size h;have e1:(1:Nat)<=(mainGlobals:Nat):=by decide
 have h2:(1:Nat)<s.heap.objs.size:=Nat.lt_of_le_of_lt e1 h1;have h3:s.heap.objs.size≠(1:Nat):=Nat.ne_of_gt h2;exact beq_false_of_ne h3
def zk1:TE:=fun _ H Q=>∀ p,H p=none->Q (.ref p) (upd H p (.dK []))
theorem zfl:PE X (.Dict [] [] pos) zk1:=by
 intro pins s O H Q I hq;refine wpAny_Dict_empty ?_;refine ⟨.ref s.heap.objs.size,upd H s.heap.objs.size (.dK []),I.laid (o:=.dK []) (t':=s.toks) (fun b u e=>Heap.get?_push_of_some _ e) (Nat.le_refl _) ⟨Nat.zero_le _,I.far,[],?_,Heap.DictOf.new _⟩,rfl,hq _ (I.hok.fresh (Nat.le_refl _))⟩;constructor
end
end L2
namespace Dd
open PySem.Spec L2
section
variable {X:Cx}{E:XK}{pos:Pos}
theorem zi1:RE X E (.Dict [] [] pos) (eC .dct):= zV zfl fun O H Q ⟨Y,Z,s,r,en,h⟩=>fun p hp=>by
  have stp:=xZ.lay (o:=.dK []) r hp (by intro _ z;cases z);exact h _ _ _ stp (by simp only [Den];exact ⟨p,rfl,yg⟩)
end
structure XOk(K:W.Frag)(C:Addr):Prop where
 exc:W.excIn K C bmV "ValueError.__new__"=true
 cls:PySem.ExcCls K C
 val:W.kitOne K (.ref C) (.type "ValueError")=some true
theorem z5F{K:W.Frag}{C:Addr}(h:z2e K C=true):∃ d cd sl,K.lookup C=some ⟨.type "type",d,.cls cd,sl⟩:=by
 unfold z2e at h;split at h
 ·rename_i t d cd sl e;have:=beq_iff_eq.mp h;subst this;exact ⟨_,_,_,e⟩
 ·cases h
theorem ug{K:W.Frag}{x:Str}(h:z59 K x=true):∃ C,W.nsIn K mainGlobals x=some (some (.ref C))/\XOk K C:=by
 unfold z59 at h;split at h
 ·rename_i C e;simp only [Bool.and_eq_true] at h;obtain ⟨h1,h2,h3,h4,h5,h6,h7,h8⟩:=h;exact ⟨C,e,h1,⟨beq_iff_eq.mp h2,beq_iff_eq.mp h3,beq_iff_eq.mp h4,beq_iff_eq.mp h5,beq_iff_eq.mp h6,z5F h7⟩,beq_iff_eq.mp h8⟩
 ·cases h
section
variable {K:W.Frag}{mg:Str->Option Value}(G:∀ (x:Str)(v:Value),W.nsIn K mainGlobals x=some (some v)->mg x=some v)
include G
theorem z5f{x:Str}(h:z59 K x=true):zc4 K mg x:=by
 obtain ⟨C,e,o⟩:=ug h;exact ⟨C,G x _ e,o.exc⟩
theorem zbU{rs cs:List Str}(hr:∀ x∈rs,z59 K x=true)(hc:∀ y∈cs,z59 K y=true)(h:∀ x∈rs,∀ y∈cs,(z3N K x y).map (·.2)=some (some (x==y))):z6Y ⟨mg,K⟩ rs cs:=by
 have un:∀ x C D,W.nsIn K mainGlobals x=some (some (.ref D))->mg x=some (.ref C)->C=D:=fun x C D e m=>by
  have:=G x _ e;rw [m] at this;cases this;rfl
 refine ⟨fun c hcm C m=>?_,fun d hd=>?_,fun c hcm d hd C D mC mD=>?_,fun c hcm C m=>?_⟩
 ·obtain ⟨D,e,o⟩:=ug (hr c hcm);cases un c C D e m;exact o.cls
 ·obtain ⟨D,e,o⟩:=ug (hc d hd);exact ⟨D,G d _ e⟩
 ·obtain ⟨C',e1,_⟩:=ug (hr c hcm);obtain ⟨D',e2,_⟩:=ug (hc d hd);cases un c C C' e1 mC;cases un d D D' e2 mD;have q:=h c hcm d hd;unfold z3N at q;rw [e1,e2] at q;simpa using q
 ·obtain ⟨D,e,o⟩:=ug (hr c hcm);cases un c C D e m;exact o.val
theorem zev{x y:Str}(hx:z59 K x=true)(hy:z59 K y=true)(h:(z3N K x y).map (·.1)=some (some true)):ziN K mg x y:=by
 obtain ⟨C,e1,o1⟩:=ug hx;obtain ⟨D,e2,o2⟩:=ug hy;refine ⟨C,D,G x _ e1,G y _ e2,o1.exc,o2.exc,fun h₀ X=>?_⟩;unfold z3N at h;rw [e1,e2] at h;have hm:W.mroIn K C (.ref D)=some true:=by simpa using h
 obtain ⟨bm,N,nm,q,bs,hdct,sn,sub,ab,col,dd,k0,k1,k2,k3,k5,mN,hC,_⟩:=zb7 X o1.exc;refine ⟨bm,N,nm,q,bs,hdct,sn,sub,ab,col,dd,k0,k1,k2,k3,k5,hC,?_⟩;obtain ⟨d',cd',sl',hl⟩:=o1.cls.ty;have h2:=X _ _ hl;rw [hC] at h2;unfold W.mroIn W.clsIn at hm;rw [hl] at hm;simp only [Option.bind_some] at hm;split at hm;·cases hm
 ·unfold excClassObj at h2;simp only [Option.some.injEq,Obj.mk.injEq,Data.cls.injEq] at h2;obtain ⟨_,_,h3,_⟩:=h2;have h4:cd'.mro=Value.ref C::bm:=by rw [<- h3]
  rw [h4] at hm;simpa using hm
end
theorem z5B{q:Ask}{w:World}{K:W.Frag}(e:z9S q K=valS q w)(x:Str)(hx:x∈q.xs):z59 K x=true:=z3X (congrArg (fun z=>z.2.2.2.2.2.1) e) x hx
theorem zhq{q:Ask}{w:World}{K:W.Frag}(e:z9S q K=valS q w)(x y:Str)(b:Bool)(hx:((x,y),b)∈q.ps):z3N K x y=some (some b,some b):=z3X (congrArg (fun z=>z.2.2.2.2.2.2) e) ((x,y),b) hx
theorem zjw{k:Nat}{A:Around}{e:Option Value}(r:uL k A):uL k (A.mark e):=⟨r.dp,r.un,r.gd⟩
def LeS(f g:FS):Prop:=∀ Z s a s',f Z s=.ok a s'->g Z s=.ok a s'
def LeM(M N:Mir):Prop:=∀ ds s d s',M ds s=.ok d s'->N ds s=.ok d s'
theorem LeS.rfl{f:FS}:LeS f f:=fun _ _ _ _ h=>h
theorem LeS.no{f g:FS}(h:LeS f g):LeS f (z1j g):=fun Z s a s' e=>by rw [zg4,h Z s a s' e]
theorem LeS.calm{f:FS}:LeS f (z1j f):=LeS.rfl.no
theorem LeS.fNo{g:FS}:LeS fNo g:=fun _ _ _ _ h=>by cases h
theorem LeM.mof{N:List Str}{n:Nat}{f g:FS}(h:LeS f g):LeM (Mof N n f) (kU N n g):=fun ds s d s' e=>by
 unfold Mof at e;unfold kU;split at e
 ·rename_i hl;rw [if_pos hl];split at e
  ·rename_i d' s1 e1;rw [h _ _ _ _ e1];exact e
  ·rename_i Z s1 e1;rw [h _ _ _ _ e1];exact e
  ·cases e
 ·cases e
def LeE(f g:FE):Prop:=∀ Z s a s',f Z s=.ok a s'->g Z s=.ok a s'
def LeA(f g:FA):Prop:=∀ Z s a s',f Z s=.ok a s'->g Z s=.ok a s'
theorem LeE.rfl{f:FE}:LeE f f:=fun _ _ _ _ h=>h
theorem LeA.rfl{f:FA}:LeA f f:=fun _ _ _ _ h=>h
theorem xn{α β:Type}{r:R α}{k:α->Sto->R β}{b:β}{s':Sto}(h:r.bind k=.ok b s'):∃ a s1,r=.ok a s1/\k a s1=.ok b s':=by cases r with
 | ok a s=>exact ⟨a,s,Eq.refl _,h⟩ | ex c s=>cases h | no=>cases h
theorem LeS.seq{f f' g g':FS}(h:LeS f f')(h2:LeS g g'):LeS (zQ f g) (zQ f' g'):=fun Z s a s' e=>by
 obtain ⟨fl,s1,e1,e2⟩:=xn e;show (f' Z s).bind _=_;rw [h _ _ _ _ e1,R.bind_ok];cases fl with
 | nx Z'=>exact h2 _ _ _ _ e2 | _=>exact e2
theorem LeS.drop{f f':FE}(h:LeE f f'):LeS (xE f) (xE f'):=fun Z s a s' e=>by
 obtain ⟨d,s1,e1,e2⟩:=xn e;show (f' Z s).bind _=_;rw [h _ _ _ _ e1,R.bind_ok];exact e2
theorem LeS.ret{f f':FE}(h:LeE f f'):LeS (xR f) (xR f'):=fun Z s a s' e=>by
 obtain ⟨d,s1,e1,e2⟩:=xn e;show (f' Z s).bind _=_;rw [h _ _ _ _ e1,R.bind_ok];exact e2
theorem LeS.set{i:Nat}{f f':FE}(h:LeE f f'):LeS (wx i f) (wx i f'):=fun Z s a s' e=>by
 obtain ⟨d,s1,e1,e2⟩:=xn e;show (f' Z s).bind _=_;rw [h _ _ _ _ e1,R.bind_ok];exact e2
theorem LeE.call{M M':Mir}{f:FA}(h:LeM M M'):LeE (ze M f) (ze M' f):=fun Z s a s' e=>by
 obtain ⟨d,s1,e1,e2⟩:=xn e;show (f Z s).bind _=_;rw [e1,R.bind_ok];exact h _ _ _ _ e2
theorem LeS.if_{t:FT}{f f' g g':FS}(h:LeS f f')(h2:LeS g g'):LeS (fIf t f g) (fIf t f' g'):=fun Z s a s' e=>by
 obtain ⟨d,s1,e1,e2⟩:=xn e;show (t Z s).bind _=_;rw [e1,R.bind_ok];cases d with
 | true=>exact h _ _ _ _ e2 | false=>exact h2 _ _ _ _ e2
theorem LeM.ok{M N:Mir}(h:LeM M N){ds:List D}{s s':Sto}{d:D}(e:M ds s=.ok d s'):N ds s=.ok d s':=h ds s d s' e
def zbM(cs:List Str)(fb:FS)(j:Nat)(fh:FS):FS:=fun Z s=>match fb Z s with
 | .ex c s1=>if c∈cs then (match fh ((List.replicate Z.length none).set j (some (.exc c))) s1 with
  | .ok (.rt d) s2=>.ok (.rt d) s2 | _=>.no) else .no | .ok (.rt d) s1=>.ok (.rt d) s1 | .ok (.nx Z') s1=>.ok (.nx Z') s1 | _=>.no
section
variable {X:Cx}{E:XK}{pos hpos np:Pos}
theorem zh0 {cs:List Str} {y n:Str} {body:List Stmt} {b₀:Stmt} {suite:List Stmt} {j:Nat} {fb fh:FS} (hst:X.stack=X.env::X.outer) (hfr:X.env.frame=some X.env.locals) (hex:X.ex=[]) (hcs:∀ c∈cs,ziN X.K X.mg c y) (hg:Gl X y) (hN:X.N.Nodup) (hj:X.N[j]? = some n) (hloc:X.env.scope.names.lookup n=some .local) (hb:∀ (pn:List (Addr×Obj)) (xe:Value->Shared->Prop) (E1:XK),Passes (CX1 X.prog X.w) (Cx.at_ X pn xe) E1->RSs (Cx.at_ X pn xe) E1 body fb) (hh:∀ (e:Addr) (pn:List (Addr×Obj)),RSs (Cx.mk_ X e pn) E0 (b₀::suite) fh) (hdb:(y==("__debug__":Str))=false:=by decide): RS X E (.Try body [.ExceptHandler (some (.Name y np)) (some n) (b₀::suite) hpos] [] [] pos) (zbM cs fb j fh):=by
 intro pins s O H D I hw;obtain ⟨Y,Z,st0,r,en,h⟩:=hw;have hlen:Z.length=X.N.length:=by rw [en.len,I.len]
 refine wpAny_Try_except ?_;generalize hEb:(fun (e:Value) (s₁:Shared)=>wpAny (model X.prog X.w) X.A (noteFrame e X.env) (fun _ s₂=>wpAny (model X.prog X.w) X.A (setFlight e none) (fun _ s₃=>wpAny (model X.prog X.w) X.A (handleBy e X.env [.ExceptHandler (some (.Name y np)) (some n) (b₀::suite) hpos]) (SP X pins D) X.xe s₃) X.xe s₂) X.xe s₁)=Eb;let E1:XK:=fun v _ H'=>∃ c Y' st' C d s2,v=.ref C/\c∈cs/\X.mg c=some (.ref C)/\xZ (gm X) H Y H' Y' st'/\fh ((List.replicate Z.length none).set j (some (.exc c))) st'=.ok (.rt d) s2/\okR (gm X) E H Y (FlD (gm X)) (.ok (.rt d) s2) (z3o D);have pass:Passes (CX1 X.prog X.w) (Cx.at_ X (X.pn++pins) Eb) E1:=by
  intro pins' O' H1 s1 e s' I1 hcx;obtain ⟨C,ea,H',he,fl,hE⟩:=hcx;subst he;obtain ⟨c,Y',st',C',d,s2,eC,hcm,hmc,stp,efh,ok⟩:=hE;cases eC;have J1:=I1.of_at;obtain ⟨B,a0,fw,cov⟩:=fl.fly;have fw:Heap.FlyingW B (X.env::X.outer) ea (.ref C) a0 s'.heap:=by rw [<- hst];exact fw
  have un:Un (frs (X.env::X.outer)) [] H1 H' s1.heap s'.heap:=by rw [<- hst];exact fl.un
  have cov:∀ b o,s'.heap.get? b=some o->(H' b≠none\/((∃ o',s1.heap.get? b=some o')/\b∉frs (X.env::X.outer)))->B.get? b=some o:=by rw [<- hst];exact cov
  have land:∀ h5,Heap.FlyingW B (X.env::X.outer) ea (.ref C) a0 h5->s'.heap.UpToSlots h5->L2.Inv X pins O' (upd H' ea (excO C ea)) {s' with heap:=h5}/\H' ea=none/\∃ oe,h5.get? ea=some oe/\oe.cls=.ref C:=fun h5 fw5 sm=>by
   obtain ⟨_,hn,un5,hok5,oe⟩:=Fly.land un fl.hok fw cov fw5 sm;exact ⟨J1.call' (s':={s' with heap:=h5}) (ch:=[]) fl.os (by rw [hst];exact un5) hok5 fl.bare (fun b z=>absurd z (by simp)),hn,oe⟩
  rw [<- hEb];have hfrm:X.A.frames=some (X.env::X.outer):=by rw [<- hst];exact J1.ok.frames
  show wpAny (model X.prog X.w) X.A (noteFrame (.ref ea) X.env) _ _ s';refine wpAny_looks_onW (base:=B) hfrm hfr fw fun h4 held sm4=>?_;refine wpAny_landsW held fun h5 fw5 sm5=>?_;obtain ⟨I5,hn5,oe5⟩:=land h5 fw5 (sm4.trans sm5);obtain ⟨C2,D2,hm2,hmy,q1,q2,hsub⟩:=hcs c hcm;rw [hmc] at hm2;cases hm2;refine z37 (C:=C) (D:=D2) (z0I (X:=Cx.mk_ X ea (X.pn++pins)) I5.mk_ hg hmy ⟨rfl,?_,?_,oe5,?_⟩ hdb)
  ·obtain ⟨bm,N,nm,q,bs,hdct,sn,sub,ab,col,dd,k0,k1,k2,k3,k5,hC,hs⟩:=hsub _ I5.kIn;exact ⟨bm,N,nm,q,bs,hdct,sn,sub,ab,col,dd,k0,k1,k2,k3,k5,_,hC,hs⟩
  ·obtain ⟨bm,N,nm,q,bs,hdct,sn,sub,ab,col,dd,k0,k1,k2,k3,k5,mN,hC,hNs,hni,T⟩:=zb7 I5.kIn q2;exact ⟨bm,N,nm,q,bs,hdct,sn,sub,ab,col,dd,k0,k1,k2,k3,k5,_,hC,T.hasType PySem.F.excBase_ValueError.hasBase⟩
  ·refine lands_againW fw5 fun h6 fw6 sm6=>?_;obtain ⟨I6,hn6,oe6⟩:=land h6 fw6 ((sm4.trans sm5).trans sm6);refine kQ (X:=Cx.mk_ X ea (X.pn++pins)) I6.mk_ hN hj (.inl hloc) (show xx (.ref ea) (.ref ea) from rfl) (fun s7 I7=>?_) (.inr hloc);have stl:xZ (gm X) H' Y' (upd H' ea (excO C ea)) Y' st':=xZ.lay stp.rep hn6 (by intro vs z;cases z);have stl2:=stp.trans stl;have enh:uC (gm X) (upd H' ea (excO C ea)) Y' ((List.replicate Z.length none).set j (some (.exc c))) (O'.set j (some (.ref ea))):=by
    refine ⟨by rw [List.length_set,List.length_replicate,List.length_set,hlen];exact J1.len.symm,fun i d' hi=>?_⟩;by_cases z:j=i
    ·subst z;have hjl:j<(List.replicate Z.length (none:Option Dd.D)).length:=by
      have:=(List.getElem?_eq_some_iff.mp hi).1;simpa using this
     rw [List.getElem?_set_self hjl] at hi;cases hi;refine ⟨.ref ea,by rw [List.getElem?_set_self (by rw [J1.len,<- hlen];simpa using hjl)],?_⟩;simp only [Den];exact ⟨ea,C,rfl,hmc,yg⟩
    ·rw [List.getElem?_set_ne z,List.getElem?_replicate] at hi;split at hi<;>cases hi
   have run:=hh ea (X.pn++pins) [] s7 (O'.set j (some (.ref ea))) (upd H' ea (excO C ea)) {nx:=fun _ _=>False,rt:=D.rt} I7 ⟨Y',_,st',stl2.rep,enh,by
    rw [efh];intro fv H2 Y2 stp2 fd;cases fv with
    | rt v=>exact ok (.rt v) H2 Y2 (stl2.trans stp2) fd | _=>exact (show False from fd).elim⟩;refine wpAny_mono run (fun fl s8 q8=>?_) fun _ _ z=>z.elim;cases fl with
   | ret u=>
    obtain ⟨v,O8,H8,I8,rv,q8⟩:=q8;have J8:=I8.of_mk J1.ok;obtain ⟨m,hn,_⟩:=J8.loc;refine wpAny_nameGoes (env:=X.env) hloc hn (by rw [J1.ok.kind];rfl) fun h9 m9 hn9 sb9=>?_;exact ⟨v,_,H8,J8.locals hn9 sb9,rv,q8⟩ | next=>obtain ⟨_,_,_,z⟩:=q8;exact z.elim | brk=>obtain ⟨_,_,_,z⟩:=q8;exact z.elim | cont=>obtain ⟨_,_,_,z⟩:=q8;exact z.elim
 have run:=hb (X.pn++pins) Eb E1 pass [] s O H {nx:=D.nx,rt:=D.rt} I.at_ ⟨Y,Z,st0,r,en,?_⟩
 ·refine wpAny_mono run (fun fl s1 q1=>?_) fun _ _ z=>z;cases fl with
  | ret u=>
   obtain ⟨v,O8,H8,I8,rv,q8⟩:=q1;exact ⟨v,O8,H8,I8.of_at,rv,q8⟩ | next=>
   obtain ⟨O8,H8,I8,q8⟩:=q1;exact (show wpAny (model X.prog X.w) X.A (pure Flow.next) (SP X pins D) X.xe s1 from wpAny_pure ⟨O8,H8,I8.of_at,q8⟩) | brk=>obtain ⟨_,_,_,z⟩:=q1;exact z.elim | cont=>obtain ⟨_,_,_,z⟩:=q1;exact z.elim
 ·unfold zbM at h;cases e:fb Z st0 with
  | no=>rw [e] at h;exact h.elim | ok fl s1=>
   rw [e] at h;cases fl with
   | rt d=>
    intro fv H2 Y2 stp2 fd;cases fv with
    | rt v=>exact h (.rt v) H2 Y2 stp2 fd | _=>exact (show False from fd).elim
   | nx Z'=>
    intro fv H2 Y2 stp2 fd;cases fv with
    | nx v=>exact h (.nx v) H2 Y2 stp2 fd | _=>exact (show False from fd).elim
   | _=>exact h.elim
  | ex c s1=>
   rw [e] at h;intro H' Y' C stp hmc;simp only at h;split at h
   ·rename_i hcm;cases e2:fh ((List.replicate Z.length none).set j (some (.exc c))) s1 with
    | no=>rw [e2] at h;exact h.elim | ex _ _=>rw [e2] at h;exact h.elim | ok fl s2=>
     rw [e2] at h;cases fl with
     | rt d=>exact ⟨c,Y',s1,C,d,s2,rfl,hcm,hmc,stp,e2,h⟩ | _=>exact h.elim
   ·exact h.elim
end
section
variable {X:Cx}{E:XK}{o e:Expr}{pos:Pos}
def zar(fo fv:FE):FE:=fun Z s=>(fo Z s).bind fun o s1=>match o with
 | .loc l=>(fv Z s1).bind fun d s2=>match (s2[l]?).bind bools,d with
  | some ns,.bl k=>.ok (.int (ns.count k:Nat)) s2 | _,_=>.no
 | _=>.no
theorem zbg{apos:Pos}{fo fv:FE}(ho:RE X E o fo)(hv:RE X E e fv)(hbase:attributeBase o "count" X.env (eval o X.env)=eval o X.env:=by rfl) (hfew:((backTo pos (starEach [e] X.env)).all (fun x=>!x.1)&&(backToKw pos (keywordEach [] X.env)).all (fun x=>x.1.isSome) && decide ([e].length+([]:List Keyword).length+(if ([]:List Keyword).isEmpty then 0 else 1)<30))=true:=by rfl) (hline:(apos.endLine==pos.line)=true:=by rfl)(hs:starEach [e] X.env=(false,eval e X.env)::starEach [] X.env:=by rfl)(hplain:(backTo pos (starEach [] X.env)).any (·.1)=false:=by rfl): RE X E (.Call (.Attribute o "count" apos) [e] [] pos) (zar fo fv):= zV (zex PySem.F.plainAttrs_list PySem.F.slot_list_count PySem.F.type_list_count z7U ho (va hv kI hs) hbase hfew hline hs hplain) fun O H Q ⟨Y,Z,s,r,en,h⟩=>by
  unfold zar at h;refine ⟨Y,Z,s,r,en,(okR.bind (Dn:=Den (gm X)) h).imp fun ov H1 ⟨Y1,s1,od,stp,dn,h1⟩=>?_⟩;cases od with
  | loc l=>
   simp only at h1;have hty:tyV X.K "list" ov H1:=by
    simp only [Den] at dn;obtain ⟨a,rfl,e1,vs,e2⟩:=dn;exact .inl ⟨rfl,vs,SqL.of e2⟩
   refine ⟨hty,⟨Y1,Z,s1,stp.rep,en.mono stp,(okR.bind (Dn:=Den (gm X)) h1).imp fun v H2 ⟨Y2,s2,d,stp2,dn2,h2⟩=>?_⟩⟩;split at h2
   ·rename_i ns k ei;cases jS dn2;have dov:=dn.mono stp2;cases ex:s2[l]? with
    | none=>rw [ex] at ei;cases ei | some xs=>
     rw [ex] at ei;have ei:bools xs=some ns:=ei;obtain ⟨a,vs,rfl,rd,e2⟩:=zT (d:=.loc l) stp2.rep ex dov;rw [z1Q ei] at e2;cases z1C e2;exact ⟨a,ns,k,rfl,rfl,rd,h2.here stp2.rep yA⟩
   ·exact h2.elim | _=>exact h1.elim
def z8u(fo fv:FE):FE:=fun Z s=>(fo Z s).bind fun o s1=>match o with
 | .loc l=>(fv Z s1).bind fun d s2=>match (s2[l]?).bind bools,d with
  | some ns,.bl k=>if k∈ns/\ns.length<2 ^ 62 then .ok (.int (ns.idxOf k:Nat)) s2 else .no | _,_=>.no
 | _=>.no
theorem zb6{apos:Pos}{fo fv:FE}(ho:RE X E o fo)(hv:RE X E e fv)(hbase:attributeBase o "index" X.env (eval o X.env)=eval o X.env:=by rfl) (hfew:((backTo pos (starEach [e] X.env)).all (fun x=>!x.1)&&(backToKw pos (keywordEach [] X.env)).all (fun x=>x.1.isSome) && decide ([e].length+([]:List Keyword).length+(if ([]:List Keyword).isEmpty then 0 else 1)<30))=true:=by rfl) (hline:(apos.endLine==pos.line)=true:=by rfl)(hs:starEach [e] X.env=(false,eval e X.env)::starEach [] X.env:=by rfl)(hplain:(backTo pos (starEach [] X.env)).any (·.1)=false:=by rfl): RE X E (.Call (.Attribute o "index" apos) [e] [] pos) (z8u fo fv):= zV (zex PySem.F.plainAttrs_list PySem.F.slot_list_index PySem.F.type_list_index z7p ho (va hv kI hs) hbase hfew hline hs hplain) fun O H Q ⟨Y,Z,s,r,en,h⟩=>by
  unfold z8u at h;refine ⟨Y,Z,s,r,en,(okR.bind (Dn:=Den (gm X)) h).imp fun ov H1 ⟨Y1,s1,od,stp,dn,h1⟩=>?_⟩;cases od with
  | loc l=>
   simp only at h1;have hty:tyV X.K "list" ov H1:=by
    simp only [Den] at dn;obtain ⟨a,rfl,e1,vs,e2⟩:=dn;exact .inl ⟨rfl,vs,SqL.of e2⟩
   refine ⟨hty,⟨Y1,Z,s1,stp.rep,en.mono stp,(okR.bind (Dn:=Den (gm X)) h1).imp fun v H2 ⟨Y2,s2,d,stp2,dn2,h2⟩=>?_⟩⟩;split at h2
   ·rename_i ns k ei;split at h2
    ·rename_i hk;cases jS dn2;have dov:=dn.mono stp2;cases ex:s2[l]? with
     | none=>rw [ex] at ei;cases ei | some xs=>
      rw [ex] at ei;have ei:bools xs=some ns:=ei;obtain ⟨a,vs,rfl,rd,e2⟩:=zT (d:=.loc l) stp2.rep ex dov;rw [z1Q ei] at e2;cases z1C e2;exact ⟨a,ns,k,rfl,rfl,rd,hk.1,hk.2,h2.here stp2.rep yA⟩
    ·exact h2.elim
   ·exact h2.elim | _=>exact h1.elim
end
end Dd
namespace PySem
end PySem
namespace L2
open PySem.Spec
end L2
namespace Dd
open PySem.Spec L2
open PySem.W
def lexLt(p q:Int×Int):Bool:=if p.1=q.1 then (if p.2=q.2 then false else decide (p.2<q.2)) else decide (p.1<q.1)
end Dd
namespace L2
open PySem.Spec
open PySem.Builtin.Str
section
variable {X:Cx}{o e:Expr}{to te:TE}{apos cpos pos:Pos}
theorem zdx(ho:PE X o to)(hbase:attributeBase o "upper" X.env (eval o X.env)=eval o X.env:=by rfl)(hline:(apos.endLine==cpos.line)=true:=by rfl): PE X (.Call (.Attribute o "upper" apos) [] [] cpos) (fun O H Q=>to O H fun x H1=>∃ z,x=.str z/\tooLong (Txt.upper z).length=false/\Q (.str (Txt.upper z)) H1):=by
 intro pins s O H Q I h;refine Call_method0 hbase hline (thn (ho pins s O H _ I h) fun v s1 ⟨x,H1,I1,r1,z,ez,hz,q⟩=>?_);subst ez;obtain ⟨t,rfl⟩:=r1;exact SB.upper hz ⟨.str (Txt.upper z),H1,I1.tok _,⟨_,rfl⟩,q⟩
def zlT:V->Option Int->Option Int->Hp->VK->Prop:=fun x lo hi H Q=>∃ z i,x=.str z/\lo=some i/\hi=none/\z.length<=sizeLine/\Q (.str (Txt.slice z (some i) none)) H
theorem ziG:SlR X zlT:=by
 intro pins s O H x v vl vu lo hi sl Q I rx hs pl pu h;obtain ⟨z,i,rfl,rfl,rfl,hz,q⟩:=h;obtain ⟨t,rfl⟩:=rx;obtain ⟨ob,ho,hc,hd⟩:=hs;cases pl with | int i ti=> cases pu with | none=>
   refine ⟨"str",_,PySem.F.slot_str_getitem.lookup,typeIs_str _ _ _,wpAny_getItem_str_slice (l:=some (i,ti)) (u:=none) (st:=none) ⟨ob,ho,hc,hd⟩ rfl (post_val_or_str ⟨Nat.le_trans (Txt.slice_le z _ _) hz,fun t' k=>?_⟩)⟩;exact ⟨.str (Txt.slice z (some i) none),H,I.tok _,⟨_,rfl⟩,q⟩
end
end L2
namespace Dd
open PySem.Spec L2 PySem.Builtin.Str
section
variable {X:Cx}{E:XK}{o e v1 v2:Expr}{apos cpos dpos p1 p2 pos:Pos}{k1 k2:Str}{j1 j2:Nat}
theorem z1T{mg:Gm}{H:Hp}{Y:List Addr}{z:Str}:Den mg H Y (.str z) (.str z):=by simp [Den]
def z8I(f:FE):FE:=fun Z s=>(f Z s).bind fun d s1=>match d with
 | .str z=>if tooLong (Txt.upper z).length=false then .ok (.str (Txt.upper z)) s1 else .no | _=>.no
theorem zg5{f:FE}(ho:RE X E o f)(hbase:attributeBase o "upper" X.env (eval o X.env)=eval o X.env:=by rfl)(hline:(apos.endLine==cpos.line)=true:=by rfl): RE X E (.Call (.Attribute o "upper" apos) [] [] cpos) (z8I f):=zV (zdx ho hbase hline) fun O H Q ⟨Y,Z,s,r,en,h⟩=>by
 refine yr (k:=fun Z d s1=>match d with | .str z=>if tooLong (Txt.upper z).length=false then R.ok (D.str (Txt.upper z)) s1 else .no | _=>.no) r en h _ fun v H1 Y1 s1 d r1 en1 dn stp h1=>?_;cases d with
 | str z=>
  cases vP dn;simp only at h1;split at h1
  ·rename_i hz;exact ⟨z,rfl,hz,h1.here r1 z1T⟩
  ·exact h1.elim | _=>exact h1.elim
def zgy(f:FE)(fl:FO):FE:=fun Z s=>(f Z s).bind fun d s1=>(fl Z s1).bind fun lo s2=>match d,lo with
 | .str z,some i=>if z.length<=cap then .ok (.str (Txt.slice z (some i) none)) s2 else .no | _,_=>.no
theorem z8g{lo:Option Expr}{p2:Pos}{fe:FE}{fl:FO}(he:RE X E e fe)(hl:RO X E lo fl):RE X E (.Subscript e (.Slice lo none none p2) pos) (zgy fe fl):= zV (z54 ziG he hl z7w) fun O H Q ⟨Y,Z,s,r,en,h⟩=>by
  refine yr (k:=fun Z d s1=>(fl Z s1).bind fun lo s2=>match d,lo with | .str z,some i=>if z.length<=cap then R.ok (D.str (Txt.slice z (some i) none)) s2 else .no | _,_=>.no) r en h _ fun v H1 Y1 s1 d r1 en1 dn stp h1=>?_;refine z5j (k:=fun Z lo s2=>match d,lo with | .str z,some i=>if z.length<=cap then R.ok (D.str (Txt.slice z (some i) none)) s2 else .no | _,_=>.no) r1 en1 h1 _ fun lo H2 Y2 s2 r2 en2 stp2 h2=>?_;cases d with
  | str z=>
   cases vP dn;cases lo with
   | none=>exact h2.elim | some i=>
    simp only at h2;split at h2
    ·rename_i hz;exact ⟨z,i,rfl,rfl,rfl,vJ hz,h2.here r2 z1T⟩
    ·exact h2.elim
  | _=>cases lo<;>exact h2.elim
def uG:D->D->Sto->R D
 | .str a,.str b,s=>if a.length+b.length<=cap then .ok (.str (a++b)) s else .no | _,_,_=>.no
theorem z8e:∃ r,OpR X (binaryOp .Add) r/\OpF X E r uG:=by
 refine ⟨_,z9J,?_⟩;intro H Y s d1 d2 v1 v2 Q r h1 h2 h;unfold uG at h;split at h
 ·rename_i a b;cases vP h1;cases vP h2;split at h
  ·rename_i hl;exact ⟨a,b,rfl,rfl,vJ hl,h.here r z1T⟩
  ·exact h.elim
 ·exact h.elim
end
end Dd
namespace Dd
open PySem.Spec L2
section
variable {X:Cx}{E:XK}{es:List Expr}{fa:FE}{fr:FA}
theorem aN{x:Str}{p:Pos}(ha:RE X E (.Name x p) fa)(hr:RA X E es fr):RA X E ((.Name x p)::es) (za fa fr):=vE ha hr (zx ..)
theorem aK{c:Const}{j:Nat}{p:Pos}(ha:RE X E (.Constant c j p) fa)(hr:RA X E es fr):RA X E ((.Constant c j p)::es) (za fa fr):=vE ha hr (z44 ..)
theorem aQ{g:Expr}{xs:List Expr}{ks:List Keyword}{p:Pos}(ha:RE X E (.Call g xs ks p) fa)(hr:RA X E es fr):RA X E ((.Call g xs ks p)::es) (za fa fr):=vE ha hr (uJ ..)
theorem aT{xs:List Expr}{k:Nat}{p:Pos}(ha:RE X E (.Tuple xs k p) fa)(hr:RA X E es fr):RA X E ((.Tuple xs k p)::es) (za fa fr):=vE ha hr (zdu ..)
theorem aS{a b:Expr}{p:Pos}(ha:RE X E (.Subscript a b p) fa)(hr:RA X E es fr):RA X E ((.Subscript a b p)::es) (za fa fr):=vE ha hr (z5h ..)
theorem aB{a b:Expr}{o:Operator}{p:Pos}(ha:RE X E (.BinOp a o b p) fa)(hr:RA X E es fr):RA X E ((.BinOp a o b p)::es) (za fa fr):=vE ha hr (z1K ..)
theorem aL{xs:List Expr}{p:Pos}(ha:RE X E (.List xs p) fa)(hr:RA X E es fr):RA X E ((.List xs p)::es) (za fa fr):=vE ha hr (zds ..)
theorem aO{a:Expr}{g:List Comprehension}{sc:Scope}{p:Pos}(ha:RE X E (.ListComp a g sc p) fa)(hr:RA X E es fr):RA X E ((.ListComp a g sc p)::es) (za fa fr):=vE ha hr (zY ..)
theorem aU{o:UnaryOp}{a:Expr}{p:Pos}(ha:RE X E (.UnaryOp o a p) fa)(hr:RA X E es fr):RA X E ((.UnaryOp o a p)::es) (za fa fr):=vE ha hr (zfD ..)
end
section
variable {q:Ask}{w:World}{K:W.Frag}{h:Heap}{mg:Str->Option Value}
theorem zJ(X:K.In h)(G:h.Ns mainGlobals mg)(e:z9S q K=valS q w)(i:Nat){x:Str}{st:Stmt}(hx:q.fs[i]? = some (x,st)):∃ f fd,mg x=some (.ref f)/\Fun K x x st f fd:=let ⟨f,fd,a,F⟩:=zjS e x st (List.mem_of_getElem? hx);⟨f,fd,W.mg_of X G a,F⟩
theorem vp(X:K.In h)(G:h.Ns mainGlobals mg)(e:z9S q K=valS q w)(i:Nat){x:Str}(hx:q.bs[i]? = some x):mg x=none:=W.mg_none_of X G (zk3 e x (List.mem_of_getElem? hx))
theorem zbd(X:K.In h)(G:h.Ns mainGlobals mg)(e:z9S q K=valS q w)(i:Nat){x:Str}{c:Int}(hx:q.cs[i]? = some (x,c)):∃ t,mg x=some (.int c t):=let ⟨t,z⟩:=zjd e x c (List.mem_of_getElem? hx);⟨t,W.mg_of X G z⟩
end
open PySem.W
end Dd
namespace Dd
open PySem.Spec L2
section
variable {X:Cx}{E:XK}{e:Expr}{pos pos':Pos}
def zkE(i:Nat)(f:FE):FS:=fun Z s=>match Z[i]? with
 | some (some (.int a))=>(f Z s).bind fun d s1=>match d with | .int b=>.ok (.nx (Z.set i (some (.int (a+b))))) s1 | _=>.no
 | _=>.no
@[simp] theorem zl6 {i:Nat}{f:FE}{Z:Ev}{s:Sto}{a b:Int}{s1:Sto}(h:Z[i]? = some (some (.int a)))(hf:f Z s=.ok (.int b) s1):zkE i f Z s=.ok (.nx (Z.set i (some (.int (a+b))))) s1:=by simp only [zkE,h,hf,R.bind_ok]
end
open PySem.W
end Dd
namespace Dd
open PySem.Spec L2
section
variable {X:Cx}{E:XK}{tg:Expr}{p:Pos}{x:Str}{ks:List Str}
def zkd(ks:List Str):FI:=fun _ s=>.ok (ks.map D.str,[]) s
@[simp] theorem zjX (ks:List Str)(Z:Ev)(s:Sto):zkd ks Z s=.ok (ks.map D.str,[]) s:=id rfl
end
end Dd
namespace L2
open PySem.Spec
end L2
namespace Dd
open PySem.Spec L2
section
variable {X:Cx}{E:XK}{e:Expr}{pos p2 p3 p4:Pos}
def zjg(f:FE):FE:=fun Z s=>(f Z s).bind fun d s1=>match listOf s1 d with
 | some xs=>.ok (.lst xs.reverse) s1 | none=>.no
@[simp] theorem zkc (f:FE)(Z:Ev)(s:Sto):zjg f Z s=(f Z s).bind fun d s1=>match listOf s1 d with
 | some xs=>.ok (.lst xs.reverse) s1 | none=>.no:=id rfl
end
def z0E:List D->Option (List Key)
 | []=>some [] | .int i::r=>(z0E r).map (Sum.inl i::·) | .str x::r=>(z0E r).map (Sum.inr x::·) | _=>none
def vV:D->Option V
 | .int i=>some (.int i) | .bl b=>some (.bl b) | _=>none
def vD:V->D
 | .int i=>.int i | .bl b=>.bl b | _=>.non
def ub(kvs:List (List Key×V)):List D:=kvs.map fun p=>.tup [.tup (p.1.map z74),vD p.2]
def z9k:List D->Option (List (List Key×V))
 | []=>some [] | .tup [.tup ks,.int i]::r=>(z0E ks).bind fun k=>(z9k r).map ((k,V.int i)::·) | .tup [.tup ks,.bl b]::r=>(z0E ks).bind fun k=>(z9k r).map ((k,V.bl b)::·) | _=>none
theorem z1H:∀ k:List Key,z0E (k.map z74)=some k
 | []=>rfl | .inl i::k=>by simp [z74,z0E,z1H k] | .inr x::k=>by simp [z74,z0E,z1H k]
theorem z7r:∀ {ds:List D}{k:List Key},z0E ds=some k->ds=k.map z74
 | [],k,e=>by simp [z0E] at e;subst e;rfl | .int i::r,k,e=>by
  simp only [z0E,Option.map_eq_some_iff] at e;obtain ⟨a,h1,rfl⟩:=e;rw [z7r h1];rfl | .str i::r,k,e=>by
  simp only [z0E,Option.map_eq_some_iff] at e;obtain ⟨a,h1,rfl⟩:=e;rw [z7r h1];rfl | .non::_,_,e=>by simp [z0E] at e | .bl _::_,_,e=>by simp [z0E] at e | .tup _::_,_,e=>by simp [z0E] at e | .lst _::_,_,e=>by simp [z0E] at e | .dct::_,_,e=>by simp [z0E] at e | .loc _::_,_,e=>by simp [z0E] at e | .dlo _::_,_,e=>by simp [z0E] at e | .fn _::_,_,e=>by simp [z0E] at e | .exc _::_,_,e=>by simp [z0E] at e | .scr _::_,_,e=>by simp [z0E] at e
theorem z4E{mg:Gm}{H:Hp}{Y:List Addr}:∀ {k:List Key}{vs:List V},zD mg H Y (k.map z74) vs->vs=k.map kV
 | [],_,h=>by simpa [zD] using h | .inl i::k,vs,h=>by
  simp only [List.map_cons,zD] at h;obtain ⟨v,r,rfl,h1,h2⟩:=h;rw [ye h1,z4E h2];rfl | .inr i::k,vs,h=>by
  simp only [List.map_cons,zD] at h;obtain ⟨v,r,rfl,h1,h2⟩:=h;rw [vP h1,z4E h2];rfl
theorem z4D{mg:Gm}{H:Hp}{Y:List Addr}:∀ (k:List Key),zD mg H Y (k.map z74) (k.map kV)
 | []=>by simp [zD] | .inl i::k=>by simp only [List.map_cons];exact zD.cons (by simp [z74,kV,Den]) (z4D k) | .inr i::k=>by simp only [List.map_cons];exact zD.cons (by simp [z74,kV,Den]) (z4D k)
theorem zaT{v:V}{x:D}(h:zct v=some x):x=vD v:=by cases v<;>simp [zct] at h<;>simp [vD,h]
theorem zgB{d:D}{u:V}(h:vV d=some u):zct u=some d/\vD u=d:=by cases d<;>simp [vV] at h<;>subst h<;>exact ⟨rfl,rfl⟩
theorem zhp{mg:Gm}{H:Hp}{Y:List Addr}{d:D}{u v:V}(h:vV d=some u)(dn:Den mg H Y d v):v=u:=by cases d with
 | int i=>simp [vV] at h;subst h;exact ye dn | bl b=>simp [vV] at h;subst h;exact jS dn | _=>simp [vV] at h
def zg7(kvs:List (List Key×V)):Prop:=∀ p∈kvs,(zct p.2).isSome=true
theorem z5q:∀ {xs:List D}{kvs:List (List Key×V)},zfb xs kvs->xs=ub kvs/\zg7 kvs/\z9k xs=some kvs
 | [],kvs,h=>by simp only [zfb] at h;subst h;exact ⟨rfl,(fun p hp=>by simp at hp),rfl⟩ | d::ds,kvs,h=>by
  simp only [zfb] at h;obtain ⟨k,v,x,r,rfl,h1,rfl,h2⟩:=h;obtain ⟨i1,i2,i3⟩:=z5q h2;refine ⟨?_,fun p hp=>?_,?_⟩
  ·rw [zaT h1];show _::ds=ub ((k,v)::r);rw [ub,List.map_cons];congr 1
  ·rcases List.mem_cons.mp hp with rfl | hp;·rw [h1];rfl
   ·exact i2 p hp
  ·cases v with
   | int i=>simp only [zct,Option.some.injEq] at h1;subst h1;simp [z9k,z1H,i3] | bl b=>simp only [zct,Option.some.injEq] at h1;subst h1;simp [z9k,z1H,i3] | _=>simp [zct] at h1
theorem z7f:∀ {kvs:List (List Key×V)},zg7 kvs->zfb (ub kvs) kvs
 | [],_=>rfl | (k,v)::r,h=>by
  obtain ⟨x,hx⟩:=Option.isSome_iff_exists.mp (h (k,v) (by simp));refine ⟨k,v,x,r,rfl,hx,?_,z7f fun p hp=>h p (by simp [hp])⟩;rw [zaT hx]
theorem dec_enc{kvs:List (List Key×V)}(h:zg7 kvs):z9k (ub kvs)=some kvs:=(z5q (z7f h)).2.2
theorem z1P:∀ k:List Key,D.flat.flats (k.map z74)=true
 | []=>rfl | .inl i::k=>by simp [z74,D.flat.flats,D.flat,z1P k] | .inr i::k=>by simp [z74,D.flat.flats,D.flat,z1P k]
theorem z8r:∀ kvs:List (List Key×V),D.flat.flats (ub kvs)=true
 | []=>rfl | (k,v)::r=>by
  have:(vD v).flat=true:=by cases v<;>rfl
  simp only [ub,List.map_cons,D.flat.flats,D.flat,z1P,this,Bool.and_true,Bool.true_and];exact z8r r
theorem zg7.put{kvs:List (List Key×V)}{k:List Key}{u:V}(h:zg7 kvs)(hu:(zct u).isSome=true):zg7 (z40 kvs k u):=by
 unfold z40;split
 ·intro p hp;obtain ⟨q,hq,rfl⟩:=List.mem_map.mp hp;split;·exact hu
  ·exact h q hq
 ·intro p hp;rcases List.mem_append.mp hp with hp | hp;·exact h p hp
  ·simp only [List.mem_cons,List.not_mem_nil,or_false] at hp;subst hp;exact hu
section
variable {X:Cx}{E:XK}{o i e value:Expr}{pos pos':Pos}
def zi5:FE:=fun _ s=>.ok (.dlo s.length) (s++[[]])
theorem zgQ:RE X E (.Dict [] [] pos) zi5:=zV zdn fun O H Q ⟨Y,Z,s,r,en,h⟩ p hp=>by
 refine h _ _ _ (xZ.layC r hp (o:=.dT []) (.inr ⟨[],yg,rfl⟩) rfl) ?_;simp only [Den];exact ⟨p,rfl,by rw [<- r.len];simp,[],yg⟩
def zbC(fo fk fv:FE):FS:=fun Z s=>(fv Z s).bind fun v s1=>(fo Z s1).bind fun o s2=>(fk Z s2).bind fun k s3=>match o,k,vV v with
 | .dlo l,.tup ks,some u=>match (s3[l]?).bind z9k,z0E ks with
  | some kvs,some key=>if kvs.length<cap then .ok (.nx Z) (s3.set l (ub (z40 kvs key u))) else .no | _,_=>.no
 | _,_,_=>.no
theorem zhM {fo fk fv:FE} (hu:X.A.units+64<cLine) (hv:RE X E value fv) (ho:RE X E o fo) (hi:RE X E i fk) (hs:swapsWith value (some (.Subscript o i pos')) pos.line X.env=pure false:=by rfl): RS X E (.Assign [.Subscript o i pos'] value pos) (zbC fo fk fv):= uN (zgd (by omega) ho hi hv hs) fun D O H ⟨Y,Z,s,r,en,h⟩=>by
  unfold zbC at h;refine yr (k:=fun Z v s1=>(fo Z s1).bind fun o s2=>(fk Z s2).bind fun k s3=>match o,k,vV v with
   | .dlo l,.tup ks,some u=>match (s3[l]?).bind z9k,z0E ks with
    | some kvs,some key=>if kvs.length<cap then R.ok (Fl.nx Z) (s3.set l (ub (z40 kvs key u))) else .no | _,_=>.no
   | _,_,_=>.no) r en h _ fun v H1 Y1 s1 d r1 en1 dn stp h1=>?_;refine yr (k:=fun Z o s2=>(fk Z s2).bind fun k s3=>match o,k,vV d with
   | .dlo l,.tup ks,some u=>match (s3[l]?).bind z9k,z0E ks with
    | some kvs,some key=>if kvs.length<cap then R.ok (Fl.nx Z) (s3.set l (ub (z40 kvs key u))) else .no | _,_=>.no
   | _,_,_=>.no) r1 en1 h1 _ fun v2 H2 Y2 s2 od r2 en2 dn2 stp2 h2=>?_;refine yr (k:=fun Z k s3=>match od,k,vV d with
   | .dlo l,.tup ks,some u=>match (s3[l]?).bind z9k,z0E ks with
    | some kvs,some key=>if kvs.length<cap then R.ok (Fl.nx Z) (s3.set l (ub (z40 kvs key u))) else .no | _,_=>.no
   | _,_,_=>.no) r2 en2 h2 _ fun v3 H3 Y3 s3 kd r3 en3 dn3 stp3 h3=>?_;split at h3
  ·rename_i l ks u eu;split at h3
   ·rename_i kvs key ek edk;split at h3
    ·rename_i hl;have dv:=(dn.mono stp2).mono stp3;obtain rfl:u=v:=(zhp eu dv).symm;have dov:=dn2.mono stp3;simp only [Den] at dov;obtain ⟨a,rfl,e1,ka⟩:=dov;obtain ⟨xs,ex,edc⟩:=Option.bind_eq_some_iff.mp ek;obtain ⟨kvs',q1,q2⟩:=r3.dic ex e1 ka;obtain ⟨z1,z2,z3⟩:=z5q q2;rw [z3] at edc;cases edc;rw [z7r edk] at dn3;simp only [Den] at dn3;obtain ⟨b,vs,rfl,hb,hd⟩:=dn3;rw [z4E hd] at hb;have ap:=z2.put (k:=key) (u:=u) (by rw [(zgB eu).1];rfl);have stp4:=xZ.putC (l:=l) (o:=.dT (z40 kvs key u)) r3 e1 (.putC ka) (.inr ⟨_,yg,z7f ap⟩) (z8r _);exact ⟨a,_,rfl,zis.t q1 hb (Nat.lt_of_lt_of_le hl (by decide)),h3 (.nx O) _ _ stp4 (en3.mono stp4)⟩
    ·exact h3.elim
   ·exact h3.elim
  ·exact h3.elim
end
theorem zdp {prog:Program} {w:World} {A:Around} {E:Value->Shared->Prop} {s:Shared} {it d:Addr} {i ep:Nat} {o:Obj} {es:Array DictEntry} {e:DictEntry} {Q:Option Value->Shared->Prop} (hit:s.heap.IsKeyIter it d i es.size ep) (hod:s.heap.get? d=some o) (hdd:o.data=.dict es ep) (he:es[i]? = some e) (hQ:∀ h':Heap,h'.IsKeyIter it d (i+1) es.size ep->Heap.SameBut it s.heap h'->Q (some e.key) {s with heap:=h'}):wpAny (model prog w) A (pyNext (.ref it)) Q E s:=by
 obtain ⟨oi,ho,hc,hd⟩:=id hit;refine wpAny_bind (wpAny_attempt (wpAny_callSpecial?_slot hit.typeIs F.slot_dict_keyiterator_next (wpAny_call_entry F.slot_dict_keyiterator_next hit.typeIs F.entry_dict_keyiterator_next ?_ (F.args_dict_keyiterator_next_1 _))));refine wpAny_bind (wpAny_pure (wpAny_bind (wpAny_bind (wpAny_bind (wpAny_typeNameOfWhole_keyiter hit.typeIs (wpAny_pure (wpAny_bind (wpAny_fieldsOf ho hd ?_))))))));have hown:Builtin.Dict_items.ownsTuple "dict_keyiterator"=false:=by decide +kernel
 rw [hown];simp only [Bool.false_eq_true,if_false,List.drop_zero];show wpAny _ _ (if (Value.ref d==Value.none)=true then _ else _) _ _ _;rw [if_neg (by simp)];refine wpAny_bind (wpAny_pure (wpAny_bind (wpAny_dictEntries hod hdd ?_)));rw [if_neg (by simp)];refine wpAny_bind (wpAny_pure (wpAny_bind (wpAny_dictEpoch hod hdd ?_)));rw [if_neg (by simp)];refine wpAny_pure ?_;have hi:(if (i:Int)<0 then none else es[(i:Int).toNat]?)=some e:=by rw [if_neg (by omega)];simpa using he
 show wpAny _ _ (match (if (i:Int)<0 then none else es[(i:Int).toNat]?) with | some e=>_ | none=>_) _ _ _;rw [hi];refine wpAny_bind (wpAny_bind (wpAny_typeNameOfWhole_keyiter hit.typeIs (wpAny_pure ?_)));rw [hown];refine wpAny_bind (wpAny_isOneOf_keyiter hit.typeIs ?_);refine wpAny_bind (wpAny_setField ho hd (show 1<4 by decide) ?_);have st':∀ g:Array Value->Array Value,g #[Value.ref d,Value.int (i:Int) 0,Value.int (es.size:Int) 0,Value.int (ep:Int) 0]=#[Value.ref d,Value.int ((i+1:Nat):Int) 0,Value.int (es.size:Int) 0,Value.int (ep:Int) 0]->(s.heap.update it (Obj.mapFields g)).IsKeyIter it d (i+1) es.size ep:=fun g hg=>by
  obtain ⟨c0,d0,da,sl⟩:=oi;simp only at hc hd;subst hc hd;refine ⟨_,Heap.get?_update_self _ ho rfl,rfl,?_⟩;show Data.fields (g _)=_;rw [hg]
 have st2:=st' (fun x=>x.setIfInBounds 1 (rawInt ((i:Int)+1))) (by simp [rawInt]);refine wpAny_bind (wpAny_holding ?_);refine wpAny_bind (wpAny_isOneOf_keyiter st2.typeIs ?_);rw [if_pos (by decide +kernel)];refine wpAny_pure (wpAny_pure ⟨_,rfl,wpAny_pure ?_⟩);exact hQ _ st2 (Heap.SameBut.update ..)
theorem zfa {prog:Program} {w:World} {A:Around} {E:Value->Shared->Prop} {s:Shared} {it d:Addr} {i ep:Nat} {o:Obj} {es:Array DictEntry} {Q:Option Value->Shared->Prop} (hh:A.handled=none) (hit:s.heap.IsKeyIter it d i es.size ep) (hod:s.heap.get? d=some o) (hdd:o.data=.dict es ep) (he:es[i]? = none) (hQ:∀ h':Heap,Heap.ExtBut it s.heap h'->Q none {s with heap:=h'}):wpAny (model prog w) A (pyNext (.ref it)) Q E s:=by
 obtain ⟨oi,ho,hc,hd⟩:=id hit;refine wpAny_bind (wpAny_attempt (wpAny_callSpecial?_slot hit.typeIs F.slot_dict_keyiterator_next (wpAny_call_entry F.slot_dict_keyiterator_next hit.typeIs F.entry_dict_keyiterator_next ?_ (F.args_dict_keyiterator_next_1 _))));refine wpAny_bind (wpAny_pure (wpAny_bind (wpAny_bind (wpAny_bind (wpAny_typeNameOfWhole_keyiter hit.typeIs (wpAny_pure (wpAny_bind (wpAny_fieldsOf ho hd ?_))))))));have hown:Builtin.Dict_items.ownsTuple "dict_keyiterator"=false:=by decide +kernel
 rw [hown];simp only [Bool.false_eq_true,if_false,List.drop_zero];show wpAny _ _ (if (Value.ref d==Value.none)=true then _ else _) _ _ _;rw [if_neg (by simp)];refine wpAny_bind (wpAny_pure (wpAny_bind (wpAny_dictEntries hod hdd ?_)));rw [if_neg (by simp)];refine wpAny_bind (wpAny_pure (wpAny_bind (wpAny_dictEpoch hod hdd ?_)));rw [if_neg (by simp)];refine wpAny_pure ?_;have hi:(if (i:Int)<0 then none else es[(i:Int).toNat]?)=none:=by rw [if_neg (by omega)];simpa using he
 show wpAny _ _ (match (if (i:Int)<0 then none else es[(i:Int).toNat]?) with | some e=>_ | none=>_) _ _ _;rw [hi];refine wpAny_bind (wpAny_bind (wpAny_typeNameOfWhole_keyiter hit.typeIs (wpAny_pure ?_)));rw [hown];refine wpAny_bind (wpAny_setField ho hd (show 0<4 by decide) ?_);show wpAny _ _ (newExc (.type "StopIteration") [] >>= _) _ _ _;refine wpAny_bind ?_;simp only [newExc,newTuple];refine wpAny_bind (wpAny_newObj_type ?_ (by size_fits));refine wpAny_bind (m:=firstArgMember _ _) (wpAny_of_eq (a:=Value.none) (by first | rfl | (simp only [firstArgMember];rfl)) ?_);refine wpAny_newObj_type ?_ (by size_fits);simp only [raiseNew];refine wpAny_bind (wpAny_handled ?_);first | rw [show A.in1.handled=none from hh] | rw [hh]
 refine wpAny_bind (wpAny_pure (wpAny_throw ?_));refine wpAny_bind (wpAny_isInstance (T:="StopIteration") (b:=true) ⟨_,Heap.get?_push_size _ rfl,rfl⟩ isSubtype_stop ?_);exact wpAny_pure (hQ _ (((Heap.SameBut.update ..).extBut.push _).push _))
section
variable {prog:Program}{w:World}{A:Around}{E:Value->Shared->Prop}{s:Shared}{d:Addr}{es:Array DictEntry}{ep:Nat}
def ze4(h:Heap)(d:Addr)(es:Array DictEntry)(ep:Nat):Prop:=∃ o,h.get? d=some o/\o.ExactDict/\o.data=.dict es ep
theorem ze4.typeIs(h:ze4 s.heap d es ep):s.TypeIs (.ref d) "dict":=let ⟨o,ho,hc,_⟩:=h;⟨o,ho,hc.1⟩
theorem ze4.at{h h':Heap}(x:ze4 h d es ep)(e:∀ o,h.get? d=some o->h'.get? d=some o):ze4 h' d es ep:=let ⟨o,ho,r⟩:=x;⟨o,e o ho,r⟩
theorem zcn {Q:Value->Shared->Prop} (hd:(d==sysModules)=false) (hm:ze4 s.heap d es ep) (hQ:Q (.ref s.heap.objs.size) {s with heap:=s.heap.push {cls:=.type "dict_keyiterator",data:=.fields #[.ref d,.int 0 0,.int es.size 0,.int ep 0]}}): wpAny (model prog w) A (pyIter (.ref d)) Q E s:=by
 obtain ⟨o,ho,hc,hdat⟩:=id hm;have hT:=hm.typeIs;refine wpAny_pyIter_slot hT F.slot_dict_iter (wpAny_call_entry F.slot_dict_iter hT F.entry_dict_iter ?_ (F.args_dict_iter_1 _));unfold Builtin.«dict.__iter__»;refine wpAny_bind ?_;unfold Builtin.Dict.dictSlotNone;refine wpAny_bind (wpAny_notOrdered_dict hT ?_);show wpAny _ _ (pure (Value.ref d)) _ _ s;refine wpAny_pure ?_;show wpAny _ _ (Builtin.Dict.showsAll d >>= _) _ _ s;unfold Builtin.Dict.showsAll;rw [if_neg (by rw [hd];exact Bool.false_ne_true)];refine wpAny_bind (wpAny_pure (wpAny_bind (wpAny_dictEntries ho hdat (wpAny_bind (wpAny_dictEpoch ho hdat ?_)))));refine wpAny_bind (wpAny_newObj_type (wpAny_pure ⟨_,rfl,"dict_keyiterator",_,⟨_,Heap.get?_push_size _ rfl,rfl⟩,F.slot_dict_keyiterator_next.lookup,?_⟩));simpa [rawInt] using hQ
theorem zaJ(hh:A.handled=none)(I d:Addr)(hne:d≠I)(es:Array DictEntry)(ep:Nat): Walks prog w A I [I,d] [I] es.size (fun i v=>∃ e,es[i]? = some e/\v=e.key) (fun i h=>h.IsKeyIter I d i es.size ep/\ze4 h d es ep) where
 sub:=fun b hb=>by simp at hb;simp [hb]
 frame:=fun _ _ _ st hk=>⟨st.1.at fun o e=>hk I (by simp) o e,st.2.at fun o e=>hk d (by simp) o e⟩;item:=fun i s Q E hi st hQ=>by
  obtain ⟨e,hx⟩:∃ p,es[i]? = some p:=⟨es[i],by simp [hi]⟩;obtain ⟨o,ho,hc,hdat⟩:=id st.2;refine zdp st.1 ho hdat hx fun h' hit' hs'=>?_;exact hQ e.key h' s.toks ⟨e,hx,rfl⟩ ⟨hit',st.2.at fun o e=>hs'.extBut d o hne e⟩ fun b o hb e=>hs'.extBut b o (fun h=>hb (by simp [h])) e
 done:=fun s Q E st hQ=>by
  obtain ⟨o,ho,hc,hdat⟩:=id st.2;exact zfa hh st.1 ho hdat (by simp) fun h' he'=>hQ h' s.toks fun b o hb e=>he' b o (fun h=>hb (by simp [h])) e
 self:=fun _ _ _ _ st hQ=>wpAny_pyIter_keyiter st.1 hQ
theorem zfT(lo:(d==sysModules)=false):W.KdlSrc prog w "dict" d d es.size (fun i v=>∃ e,es[i]? = some e/\v=e.key) (fun h=>ze4 h d es ep) where
 type:=fun _ hm=>hm.typeIs;there:=fun _ hm=>⟨Heap.lt_size hm.choose_spec.1,Heap.lt_size hm.choose_spec.1⟩;keep:=fun _ _ hm hk=>hm.at fun o e=>hk d (.inl rfl) o e;notList:=by decide
 notTuple:=by decide
 hint:=fun _ _ _ _ hm hq=>W.kdl_hint_dict hm.typeIs hq;iter:=fun _ _ hh hm=>⟨_,_,(fun _ _ hq=>zcn lo hm hq),zaJ hh _ d (Nat.ne_of_lt (Heap.lt_size hm.choose_spec.1)) es ep,⟨⟨_,Heap.get?_push_size _ rfl,rfl,rfl⟩,hm.at fun o e=>Heap.get?_push_of_some _ e⟩⟩
end
def zax(H:Hp)(kvs:List (List Key×V))(ys:List V):Prop:=Paired (fun (p:List Key×V)(y:V)=>∃ b,y=.ref b/\H b=some (.tup (p.1.map kV))) kvs ys
theorem zgR{H:Hp}{kvs:List (List Key×V)}{xs:List (List Key×Addr×Value)}(r:KT H kvs xs):zax H kvs (xs.map fun x=>.ref x.2.1):=by induction r with
 | nil=>exact .nil | @cons p q ps qs h t ih=>exact .cons ⟨q.2.1,rfl,h.2.1⟩ ih
theorem z9h{X:Cx}(hc:X.calm=true):xz X (.type "list") (fun xs H Q=>∃ a kvs,xs=[.ref a]/\H a=some (.dT kvs)/\∀ ys,zax H kvs ys->∀ l,H l=none->Q (.ref l) (upd H l (.lst ys))):=by
 intro pins s O H xs us Q I rs ⟨a,kvs,e,ea,q⟩;subst e;obtain ⟨u,rfl,ru⟩:=vals1 rs;cases (show u=Value.ref a from ru);obtain ⟨z,lo,xs,rel,o,es,ep,h1,h2,h3,h4,h5,h6⟩:=zhg I.hok ea;have hl:xs.length=kvs.length:=(Paired.length rel).symm;have hsz:es.size=xs.length:=size_of_entries h4;refine W.kdl_call (zfT lo) (I.ok.hd hc) ⟨o,h1,h2,h3⟩ (by omega) fun h' tk acc c' hk hS hacc=>?_;have hv:yW (xs.map fun x=>V.ref x.2.1) acc.toList:=kr (by simp [hacc.1,hsz]) fun i v hv=>by
  obtain ⟨e,he,rfl⟩:=hacc.2 i v (by simpa using hv);rw [entry_at h4] at he;obtain ⟨x,hx,rfl⟩:=Option.map_eq_some_iff.mp he;exact ⟨.ref x.2.1,by simp [hx],rfl⟩
 refine ⟨.ref _,upd H _ (.lst (xs.map fun x=>V.ref x.2.1)),I.laid (t':=tk) hk (Nat.le_refl _) ?_,rfl,q _ (zgR rel) _ (I.hok.fresh (Nat.le_refl _))⟩;exact ⟨by simpa [hl] using z,acc.toList,c',hv,by simpa using hS⟩
def z7R(kvs:List (List Key×V)):List D:=kvs.map fun p=>.tup (p.1.map z74)
theorem z8s{mg:Gm}{H:Hp}{Y:List Addr}:∀ {kvs:List (List Key×V)}{ys:List V},zax H kvs ys->zD mg H Y (z7R kvs) ys
 | [],_,h=>by cases h;exact zD.nil | p::kvs,_,h=>by cases h with | @cons _ y _ ys h t=>
  obtain ⟨b,rfl,hb⟩:=h;refine zD.cons ?_ (z8s t);simp only [Den];exact ⟨b,_,rfl,hb,z4D _⟩
def zl7:List D->Sto->R D
 | [.dlo l],s=>match (s[l]?).bind z9k with | some kvs=>.ok (.lst (z7R kvs)) s | none=>.no
 | _,_=>.no
variable {X:Cx}{E:XK}
theorem z4g:∀ kvs:List (List Key×V),D.flat.flats (z7R kvs)=true
 | []=>rfl | (k,v)::r=>by
  simp only [z7R,List.map_cons,D.flat.flats,D.flat,z1P,Bool.true_and];exact z4g r
def z2z:List D->Sto->R D
 | [.dlo l],s=>match (s[l]?).bind z9k with | some kvs=>.ok (.loc s.length) (s++[z7R kvs]) | none=>.no
 | _,_=>.no
theorem zce(hc:X.calm=true):∃ r,xz X (.type "list") r/\kA X E r z2z:=⟨_,z9h hc,fun H Y s ds vs Q r hd h=>by
 unfold z2z at h;split at h
 ·rename_i l;split at h
  ·rename_i kvs e;obtain ⟨v,rfl,dn⟩:=z1q hd;simp only [Den] at dn;obtain ⟨a,rfl,e1,ka⟩:=dn;obtain ⟨xs,ex,edc⟩:=Option.bind_eq_some_iff.mp e;obtain ⟨kvs',q1,q2⟩:=r.dic ex e1 ka;obtain ⟨z1,z2,z3⟩:=z5q q2;rw [z3] at edc;cases edc;exact ⟨a,_,rfl,q1,fun ys hy=>zav r h (z4g _) (z8s hy)⟩
  ·exact h.elim
 ·exact h.elim⟩
end Dd
namespace L2
open PySem.Spec PySem.Builtin.Str
variable {X:Cx}
def zjM:V->Option Int->Option Int->Hp->VK->Prop:=fun x lo hi H Q=>∃ z i,x=.str z/\lo=none/\hi=some i/\z.length<=sizeLine/\Q (.str (Txt.slice z none (some i))) H
theorem zfJ:SlR X zjM:=by
 intro pins s O H x v vl vu lo hi sl Q I rx hs pl pu h;obtain ⟨z,i,rfl,rfl,rfl,hz,q⟩:=h;obtain ⟨t,rfl⟩:=rx;obtain ⟨ob,ho,hc,hd⟩:=hs;cases pu with | int i ti=> cases pl with | none=>
   refine ⟨"str",_,PySem.F.slot_str_getitem.lookup,typeIs_str _ _ _,wpAny_getItem_str_slice (l:=none) (u:=some (i,ti)) (st:=none) ⟨ob,ho,hc,hd⟩ rfl (post_val_or_str ⟨Nat.le_trans (Txt.slice_le z _ _) hz,fun t' k=>?_⟩)⟩;exact ⟨.str (Txt.slice z none (some i)),H,I.tok _,⟨_,rfl⟩,q⟩
theorem za4:xz X (.builtin "len") (fun xs H Q=>∃ z:Str,xs=[.str z]/\z.length<=sizeLine/\Q (.int z.length) H):=by
 intro pins s O H xs us Q I rs ⟨z,e,hz,q⟩;subst e;obtain ⟨u,rfl,t,rfl⟩:=vals1 rs;exact P.len_str (by have:z.length<=2 ^ 40:=Nat.le_trans hz (by decide);omega) ⟨.int z.length,H,I.tok _,⟨_,rfl⟩,q⟩
end L2
namespace Dd
open PySem.Spec L2 PySem.Builtin.Str
section
variable {X:Cx}{E:XK}{a b e:Expr}{pos:Pos}
def ziI(f:FE)(fh:FO):FE:=fun Z s=>(f Z s).bind fun d s1=>(fh Z s1).bind fun hi s2=>match d,hi with
 | .str z,some i=>if z.length<=cap then .ok (.str (Txt.slice z none (some i))) s2 else .no | _,_=>.no
theorem z8J{hi:Option Expr}{p2:Pos}{fe:FE}{fh:FO}(he:RE X E e fe)(hl:RO X E hi fh):RE X E (.Subscript e (.Slice none hi none p2) pos) (ziI fe fh):= zV (z54 zfJ he z7w hl) fun O H Q ⟨Y,Z,s,r,en,h⟩=>by
  refine yr (k:=fun Z d s1=>(fh Z s1).bind fun hi s2=>match d,hi with | .str z,some i=>if z.length<=cap then R.ok (D.str (Txt.slice z none (some i))) s2 else .no | _,_=>.no) r en h _ fun v H1 Y1 s1 d r1 en1 dn stp h1=>?_;refine z5j (k:=fun Z hi s2=>match d,hi with | .str z,some i=>if z.length<=cap then R.ok (D.str (Txt.slice z none (some i))) s2 else .no | _,_=>.no) r1 en1 h1 _ fun lo H2 Y2 s2 r2 en2 stp2 h2=>?_;cases d with
  | str z=>
   cases vP dn;cases lo with
   | none=>exact h2.elim | some i=>
    simp only at h2;split at h2
    ·rename_i hz;exact ⟨z,i,rfl,rfl,rfl,vJ hz,h2.here r2 z1T⟩
    ·exact h2.elim
  | _=>cases lo<;>exact h2.elim
def zhR:D->D->Sto->R D
 | .str z,.int i,s=>if z.length<=cap then match atI z.cps.toList i with | some c=>.ok (.str ⟨#[c]⟩) s | none=>.no else .no | _,_,_=>.no
theorem zjZ{fa fb:FE}(ha:RE X E a fa)(hb:RE X E b fb)(hs:z5p b:=by intro _ _;rfl):RE X E (.Subscript a b pos) (eOp zhR fa fb):=by
 refine zV (zfo zgE ha hb hs) fun O H Q h=>z5Q (fun H Y s d1 d2 v1 v2 Q r h1 h2 h=>?_) h;unfold zhR at h;split at h
 ·split at h
  ·rename_i z i hz;split at h
   ·rename_i c e;cases vP h1;cases ye h2;exact ⟨z,i,c,rfl,rfl,vJ hz,e,h.here r z1T⟩
   ·exact h.elim
  ·exact h.elim
 ·exact h.elim
def z9N:List D->Sto->R D
 | [.str z],s=>if z.length<=cap then .ok (.int z.length) s else .no | _,_=>.no
theorem ziH:∃ r,xz X (.builtin "len") r/\kA X E r z9N:=⟨_,za4,fun H Y s ds vs Q r hd h=>by
 unfold z9N at h;split at h
 ·split at h
  ·rename_i z hz;obtain ⟨v,rfl,dn⟩:=z1q hd;cases vP dn;exact ⟨z,rfl,vJ hz,h.here r yA⟩
  ·exact h.elim
 ·exact h.elim⟩
end
end Dd
namespace Pg
open PySem.Spec L2 Dd
def wK:List (Str×Str):=[("next","by_next"),("least","by_least"),("all","by_all"),("turn","by_turn")]
@[simp] def z6U:FS:=(xR (zel (eIs "int" (zc 0)) (ziS (eIs "bool" (zc 0)))))
def kb:FS:=z6U
def yy:Mir:=Mof ["thing"] 1 kb
@[simp] def z6l:FS:=(xR (zel (eIs "tuple" (zc 0)) (z2B dLe dLe (eC (.int 2)) (ze xK (za (zc 0) zj)) (eC (.int 4)))))
def vH:FS:=z6l
def yb:Mir:=Mof ["thing"] 1 vH
@[simp] def z3D:FS:=(xR (eC (.bl false)))
@[simp] def z3x:FS:=(fIf (fOr (z3d (tOf (eIs "tuple" (zc 0)))) (tOf (eOp dNe (ze xK (za (zc 0) zj)) (zc 1)))) z3D wa)
@[simp] def jP:FS:=(xR (ze zdM (za (zK (yF (zc 0)) [none] (wb 0) yU (ze yy (za (zc 0) zj))) zj)))
def qc:FS:=(zQ z3x jP)
def zX:Mir:=Mof ["thing","many"] 2 qc
@[simp] def z2v:FS:=fNo
@[simp] def qL:FS:=(fIf (fOr (z3d (tOf (ze yy (za (zc 0) zj)))) (z3d (tOf (z2B dLe dLe (zc 1) (zc 0) (zc 2))))) z2v wa)
def jC:FS:=qL
def yY:Mir:=Mof ["thing","least","most"] 3 jC
@[simp] def z1m:FS:=(fIf (fOr (z3d (tOf (ze yy (za (zc 0) zj)))) (z3d (tOf (z2B dLe dLe (zc 1) (zc 0) (zc 2))))) (z3V "NoNumber") wa)
def wm:FS:=z1m
def zI:Mir:=kU ["thing","least","most"] 3 wm
@[simp] def z9b:FS:=(xR (eC (.bl false)))
@[simp] def z9c:FS:=(fIf (fOr (z3d (tOf (ze yb (za (zc 0) zj)))) (z3d (tOf (ze zX (za (zc 0) (za (ze xK (za (zc 0) zj)) zj)))))) z9b wa)
@[simp] def z9m:FS:=(xR (zel (eOp dGe (ze z3m (za (zc 0) zj)) (eC (.int 0))) (eOp dGt (ze vx (za (zc 0) zj)) (eC (.int 0)))))
def vG:FS:=(zQ z9c z9m)
def yh:Mir:=Mof ["thing"] 1 vG
@[simp] def z6b:FS:=fNo
@[simp] def z5U:FS:=(fIf (z3d (tOf (ze yh (za (zc 0) zj)))) z6b wa)
def z2d:FS:=z5U
def yp:Mir:=Mof ["thing"] 1 z2d
@[simp] def z4l:FS:=(fIf (z3d (tOf (ze yh (za (zc 0) zj)))) (z3V "NoLot") wa)
def z1b:FS:=z4l
def xj:Mir:=kU ["thing"] 1 z1b
@[simp] def z5o:FS:=(xE (ze yp (za (zc 0) zj)))
@[simp] def z0e:FS:=(xR (eOp dEq (ze xK (za (zK (yF (zc 0)) [none] (wb 0) (tOf (eOp dNe (zc 0) (eC (.int 0)))) (zc 0)) zj)) (eC (.int 1))))
def z1c:FS:=(zQ z5o z0e)
def yz:Mir:=Mof ["lot"] 1 z1c
@[simp] def z6c:FS:=(xR (ze zhH (za (zK (zbh (za (zc 0) (za (zc 1) zj))) [none,none] (uM 0 1) yU (eOp xP (zc 0) (zc 1))) zj)))
def z2U:FS:=z6c
def uD:Mir:=Mof ["line","numbers"] 2 z2U
@[simp] def jQ:FS:=(xR (ze yR (za (zK (z73 (za (ze xK (za (zc 0) zj)) zj)) [some 0,none] (wb 1) yU (ze yR (za (zK (yF (zc 0)) [some 1,none] (wb 1) yU (eOp dIx (zc 1) (zc 0))) zj))) zj)))
def z0j:FS:=jQ
def zR:Mir:=Mof ["table"] 1 z0j
@[simp] def jg:FS:=(wx 1 (eLR (za (zc 0) zj)))
@[simp] def qQ:FS:=(xR (ze yR (za (zK (yF (zc 1)) [some 1,none] (wb 1) yU (ze yR (za (zK (yF (zc 0)) [some 1,none] (wb 1) yU (eIf (tOf (eOp dEq (zc 0) (zc 1))) (eC (.int 1)) (eC (.int 0)))) zj))) zj)))
def jK:FS:=(zQ jg qQ)
def yt:Mir:=Mof ["size","places"] 1 jK
@[simp] def z2a:FS:=(xR (ze yR (za (zK (yF (zc 0)) [some 1,none] (wb 1) yU (ze uD (za (zc 1) (za (zc 0) zj)))) zj)))
def jx:FS:=z2a
def yL:Mir:=Mof ["lines","numbers"] 2 jx
@[simp] def z68:FS:=(xR (eC (.bl false)))
@[simp] def z6V:FS:=(fIf (z3d (tOf (ze yb (za (zc 0) zj)))) z68 wa)
@[simp] def z15:FS:=(xR (ze zdM (za (zK (yF (zc 0)) [some 0,none] (wb 1) yU (ze zX (za (zc 1) (za (ze xK (za (zc 0) zj)) zj)))) zj)))
def z25:FS:=(zQ z6V z15)
def wD:Mir:=Mof ["thing"] 1 z25
@[simp] def z3J:FS:=fNo
@[simp] def z3F:FS:=(fIf (z3d (tOf (ze wD (za (zc 0) zj)))) z3J wa)
def z09:FS:=z3F
def yK:Mir:=Mof ["thing"] 1 z09
@[simp] def z3H:FS:=(xE (ze yK (za (zc 0) zj)))
@[simp] def z3f:FS:=(xE (ze yK (za (zc 1) zj)))
@[simp] def z3y:FS:=fNo
@[simp] def z3E:FS:=(fIf (tOf (eOp dNe (ze xK (za (zc 0) zj)) (ze xK (za (zc 1) zj)))) z3y wa)
@[simp] def jM:FS:=(xR (ze zR (za (ze yR (za (zK (yF (ze zR (za (zc 1) zj))) [some 0,none] (wb 1) yU (ze yL (za (zc 0) (za (zc 1) zj)))) zj)) zj)))
def z05:FS:=(zQ z3H (zQ z3f (zQ z3E jM)))
def xu:Mir:=Mof ["one","other"] 2 z05
@[simp] def vq:FS:=(wx 2 (z9V (za (ze yt (za (zc 0) zj)) zj)))
@[simp] def yO:FS:=(xE (zeF (zc 2) (ze xu (za (eOp dIx (zc 2) (ua (eC (.int 1)))) (za (zc 3) zj)))))
@[simp] def vt:FS:=(zaU (yF (zc 1)) (wb 3) yO)
@[simp] def js:FS:=(xR (zc 2))
def vM:FS:=(zQ vq (zQ vt js))
def ya:Mir:=Mof ["size","tables","products","table"] 2 vM
@[simp] def wq:FS:=(wx 1 (zck (zc 0) (ze vx (za (zc 0) zj))))
@[simp] def wu:FS:=(xR (wT (za (zc 1) (za (eOp xG (eOp xG (eSl (zc 0) zW (yE (zc 1))) (wT (za (eC (.int 0)) zj))) (eSl (zc 0) (yE (eOp xG (zc 1) (eC (.int 1)))) zW)) zj))))
def wy:FS:=(zQ wq wu)
def zA:Mir:=Mof ["lot","at"] 1 wy
@[simp] def qZ:FS:=(xR (zck (zc 0) (ze z3m (za (zK (yF (zc 0)) [none] (wb 0) (tOf (eOp dNe (zc 0) (eC (.int 0)))) (zc 0)) zj))))
def jO:FS:=qZ
def yi:Mir:=Mof ["lot"] 1 jO
@[simp] def z27:FS:=(xR (zK (z73 (za (ze xK (za (zc 0) zj)) zj)) [some 1,none] (wb 1) (tOf (eOp dNe (zc 1) (zc 0))) (zc 1)))
def z4e:FS:=z27
def xO:Mir:=Mof ["lot","place"] 2 z4e
@[simp] def z7J:FS:=(xR (zel (eIs "str" (zc 0)) (z8v wK false (zc 0))))
def z0s:FS:=z7J
def xr:Mir:=Mof ["thing"] 1 z0s
@[simp] def z5D:FS:=(xR (eIf (tOf (eOp dEq (zc 0) (eC (.str "turn")))) (eOp xG (eSl (zc 1) (yE (eC (.int 1))) zW) (eSl (zc 1) zW (yE (eC (.int 1))))) (zc 1)))
def z8k:FS:=z5D
def wX:Mir:=Mof ["rule","numbers"] 2 z8k
@[simp] def z7n:FS:=(zcx (ze zA (za (zc 0) zj)) (uM 1 2))
@[simp] def z2t:FS:=(xR (wT (za (zck (zc 2) (ze vx (za (zc 2) zj))) (za (vB (za (zc 1) zj)) zj))))
def z4i:FS:=(zQ z7n z2t)
def wU:Mir:=Mof ["lot","greatest","others"] 1 z4i
@[simp] def z6C:FS:=(zcx (ze zA (za (zc 0) zj)) (uM 1 2))
@[simp] def z66:FS:=(xR (wT (za (ze yi (za (zc 2) zj)) (za (vB (za (zc 1) zj)) zj))))
def z2V:FS:=(zQ z6C z66)
def xW:Mir:=Mof ["lot","greatest","others"] 1 z2V
@[simp] def z9B:FS:=(wx 1 (ze yi (za (zc 0) zj)))
@[simp] def z9d:FS:=(xR (wT (za (zc 1) (za (ze xO (za (zc 0) (za (zc 1) zj))) zj))))
def z6p:FS:=(zQ z9B z9d)
def uh:Mir:=Mof ["lot","by"] 1 z6p
@[simp] def z7A:FS:=(xR (wT (za (eC (.int 0)) (za (vB zj) zj))))
@[simp] def z7d:FS:=(fIf (tOf (eOp dEq (eOp dIx (zc 0) (eC (.int 0))) (eC (.int 0)))) z7A wa)
@[simp] def z7a:FS:=(xR (wT (za (eC (.int 0)) (za (ze xO (za (zc 0) (za (eC (.int 0)) zj))) zj))))
def z3T:FS:=(zQ z7d z7a)
def wR:Mir:=Mof ["lot"] 1 z3T
@[simp] def z4p:FS:=fNo
@[simp] def z5v:FS:=(fIf (z3d (tOf (ze xr (za (zc 0) zj)))) z4p wa)
def z19:FS:=z5v
def xf:Mir:=Mof ["thing"] 1 z19
@[simp] def jH:FS:=(fIf (z3d (tOf (ze xr (za (zc 0) zj)))) (z3V "NoRule") wa)
def z0k:FS:=jH
def yN:Mir:=kU ["thing"] 1 z0k
@[simp] def z5z:FS:=(wx 2 (zj2 wK (zc 0)))
@[simp] def z1a:FS:=(zcx (z8K 2 [("by_next",wU),("by_least",xW),("by_all",uh),("by_turn",wR)] (za (zc 1) zj)) (uM 3 4))
@[simp] def z16:FS:=(xR (wT (za (zc 3) (za (zK (z73 (za (ze xK (za (zc 1) zj)) zj)) [some 4,some 1,some 3,none] (wb 3) yU (eIf (tOf (eOp (z9T false) (zc 3) (zc 0))) (eOp z7v (eOp dIx (zc 1) (zc 3)) (eOp dIx (zc 1) (zc 2))) (eC (.int 0)))) zj))))
def z28:FS:=(zQ z5z (zQ z1a z16))
def xi:Mir:=Mof ["rule","lot","deal","by","divided"] 2 z28
@[simp] def qS:FS:=(xE (ze xf (za (zc 0) zj)))
@[simp] def qM:FS:=(xE (ze yp (za (zc 1) zj)))
def vw:FS:=(zQ qS qM)
def zC:Mir:=Mof ["rule","lot"] 2 vw
@[simp] def z4j:FS:=(xE (ze zC (za (zc 0) (za (zc 1) zj))))
@[simp] def z4A:FS:=fNo
@[simp] def z4B:FS:=(fIf (tOf (ze yz (za (zc 1) zj))) z4A wa)
def z0M:FS:=(zQ z4j z4B)
def yM:Mir:=Mof ["rule","lot"] 2 z0M
@[simp] def zdc:FS:=(xE (ze yM (za (zc 0) (za (zc 1) zj))))
@[simp] def zd1:FS:=(zcx (ze xi (za (zc 0) (za (zc 1) zj))) (uM 2 3))
@[simp] def z8n:FS:=(wx 4 (ze yR (za (zK (zbh (za (zc 1) (za (zc 3) zj))) [some 1,some 2,none,none] (uM 2 3) yU (eOp zc3 (zc 2) (eOp xP (zc 3) (eOp dIx (zc 0) (zc 1))))) zj)))
@[simp] def z8Y:FS:=(xR (ze wX (za (zc 0) (za (zc 4) zj))))
def zbW:FS:=(zQ zdc (zQ zd1 (zQ z8n z8Y)))
def M_step:Mir:=Mof ["rule","lot","by","quotients","left"] 2 zbW
@[simp] def z3q:FS:=(xE (ze yM (za (zc 0) (za (zc 1) zj))))
@[simp] def z3g:FS:=(zcx (ze xi (za (zc 0) (za (zc 1) zj))) (uM 2 3))
@[simp] def jR:FS:=(xR (ze yR (za (zK (zbh (za (ze yt (za (ze xK (za (zc 1) zj)) zj)) (za (zc 3) zj))) [some 0,some 2,none,none] (uM 2 3) yU (ze wX (za (zc 0) (za (eOp xG (eOp xG (eSl (zc 2) zW (yE (zc 1))) (wT (za (eOp xG (eOp dIx (zc 2) (zc 1)) (zc 3)) zj))) (eSl (zc 2) (yE (eOp xG (zc 1) (eC (.int 1)))) zW)) zj)))) zj)))
def kP:FS:=(zQ z3q (zQ z3g jR))
def xB:Mir:=Mof ["rule","lot","by","quotients"] 2 kP
@[simp] def zeL:FS:=(xE (ze zC (za (zc 0) (za (zc 1) zj))))
@[simp] def zbv:FS:=(wx 2 (z9V (za (zc 1) zj)))
@[simp] def z5i:FS:=(xE (zeF (zc 2) (ze M_step (za (zc 0) (za (eOp dIx (zc 2) (ua (eC (.int 1)))) zj)))))
@[simp] def za1:FS:=(z6s (z3d (tOf (ze yz (za (eOp dIx (zc 2) (ua (eC (.int 1)))) zj)))) z5i)
@[simp] def zeT:FS:=(xR (zc 2))
def zdG:FS:=(zQ zeL (zQ zbv (zQ za1 zeT)))
def M_run:Mir:=Mof ["rule","lot","lots"] 2 zdG
@[simp] def kW:FS:=(xR (zK (yF (eSl (z4H (ze M_run (za (zc 0) (za (zc 1) zj)))) zW (yE (ua (eC (.int 1)))))) [some 0,none] (wb 1) yU (ze xB (za (zc 0) (za (zc 1) zj)))))
def z0V:FS:=kW
def xU:Mir:=Mof ["rule","lot"] 2 z0V
@[simp] def z20:FS:=(wx 2 (ze xU (za (zc 0) (za (zc 1) zj))))
@[simp] def qN:FS:=(xR (ze ya (za (ze xK (za (zc 1) zj)) (za (zc 2) zj))))
def jE:FS:=(zQ z20 qN)
def yu:Mir:=Mof ["rule","lot","tables"] 2 jE
@[simp] def uI:FS:=(zcx (ze z1Z (za (zc 0) (za (zc 1) zj))) (uM 2 3))
@[simp] def uO:FS:=(xR (eIf (tOf (eOp dGt (eOp xP (eC (.int 2)) (zc 3)) (zc 1))) (eOp xG (zc 2) (eC (.int 1))) (zc 2)))
def qD:FS:=(zQ uI uO)
def yj:Mir:=Mof ["number","by","whole","rest"] 2 qD
@[simp] def z2C:FS:=(xE (ze yp (za (zc 0) zj)))
@[simp] def z2x:FS:=fNo
@[simp] def qT:FS:=(fIf (tOf (eOp dEq (eOp dIx (zc 0) (ua (eC (.int 1)))) (eC (.int 0)))) z2x wa)
def jF:FS:=(zQ z2C qT)
def zO:Mir:=Mof ["lot"] 1 jF
@[simp] def qI:FS:=(xE (ze xj (za (zc 0) zj)))
@[simp] def qB:FS:=(fIf (tOf (eOp dEq (eOp dIx (zc 0) (ua (eC (.int 1)))) (eC (.int 0)))) (z3V "NoBottom") wa)
def vW:FS:=(zQ qI qB)
def zy:Mir:=kU ["lot"] 1 vW
@[simp] def zcT:FS:=(xE (ze zO (za (zc 0) zj)))
@[simp] def z84:FS:=(xE (ze yY (za (zc 1) (za (eC (.int 1)) (za (eC (.int (10 ^ 12))) zj)))))
@[simp] def z5b:FS:=(xR (ze yR (za (zK (yF (eSl (zc 0) zW (yE (ua (eC (.int 1)))))) [some 1,some 0,none] (wb 2) yU (ze yj (za (eOp xP (zc 0) (zc 2)) (za (eOp dIx (zc 1) (ua (eC (.int 1)))) zj)))) zj)))
def zaX:FS:=(zQ zcT (zQ z84 z5b))
def M_tops:Mir:=Mof ["lot","bottom"] 2 zaX
@[simp] def z64:FS:=(xE (ze zy (za (zc 0) zj)))
@[simp] def z6i:FS:=(xE (ze zI (za (zc 1) (za (eC (.int 1)) (za (eC (.int (10 ^ 12))) zj)))))
def z4N:FS:=(zQ z64 (zQ z6i (z1j z5b)))
def X_tops:Mir:=kU ["lot","bottom"] 2 z4N
@[simp] def z48:FS:=(wx 2 (ze M_tops (za (zc 0) (za (zc 1) zj))))
@[simp] def z0G:FS:=(xR (ze yR (za (zK (zbh (za (eSl (zc 0) zW (yE (ua (eC (.int 1))))) (za (zc 2) zj))) [some 1,some 0,none,none] (uM 2 3) yU (eOp zc3 (eOp xP (zc 0) (zc 2)) (eOp xP (zc 3) (eOp dIx (zc 1) (ua (eC (.int 1))))))) zj)))
def z6I:FS:=(zQ z48 z0G)
def wL:Mir:=Mof ["lot","bottom","found"] 2 z6I
@[simp] def z2T:FS:=(wx 2 (ze X_tops (za (zc 0) (za (zc 1) zj))))
def z4b:FS:=(zQ z2T (z1j z0G))
def xa:Mir:=kU ["lot","bottom","found"] 2 z4b
@[simp] def z5A:FS:=(xR (ze vx (za (zK (yF (ze wL (za (zc 0) (za (zc 1) zj)))) [none] (wb 0) yU (ze zgn (za (zc 0) zj))) zj)))
def z8Q:FS:=z5A
def vf:Mir:=Mof ["lot","bottom"] 2 z8Q
@[simp] def z45:FS:=(xR (ze vx (za (zK (yF (ze xa (za (zc 0) (za (zc 1) zj)))) [none] (wb 0) yU (ze zgn (za (zc 0) zj))) zj)))
def z6t:FS:=z45
def uv:Mir:=kU ["lot","bottom"] 2 z6t
@[simp] def z7Z:FS:=(xE (ze zO (za (zc 0) zj)))
@[simp] def z2j:FS:=(xE (ze yY (za (zc 1) (za (eC (.int 1)) (za (eC (.int 1000)) zj)))))
@[simp] def kq:FS:=(wx 2 (z9V (za (wT (za (eC (.int 1)) (za (ze vf (za (zc 0) (za (eC (.int 1)) zj))) zj))) zj)))
@[simp] def qr:FS:=(wx 4 (ze vf (za (zc 0) (za (zc 3) zj))))
@[simp] def z23:FS:=(xE (zeF (zc 2) (wT (za (zc 3) (za (zc 4) zj)))))
@[simp] def qo:FS:=(fIf (tOf (eOp dLt (zc 4) (eOp dIx (eOp dIx (zc 2) (ua (eC (.int 1)))) (eC (.int 1))))) z23 wa)
@[simp] def kC:FS:=(zaU (zbf (za (eC (.int 2)) (za (eOp xG (zc 1) (eC (.int 1))) zj))) (wb 3) (zQ qr qo))
@[simp] def z2l:FS:=(xR (zc 2))
def z3W:FS:=(zQ z7Z (zQ z2j (zQ kq (zQ kC z2l))))
def kZ:Mir:=Mof ["lot","most","found","bottom","of_bottom"] 2 z3W
@[simp] def z1i:FS:=(xE (ze zy (za (zc 0) zj)))
@[simp] def z0N:FS:=(xE (ze zI (za (zc 1) (za (eC (.int 1)) (za (eC (.int 1000)) zj)))))
@[simp] def z6O:FS:=(wx 2 (z9V (za (wT (za (eC (.int 1)) (za (ze uv (za (zc 0) (za (eC (.int 1)) zj))) zj))) zj)))
def jY:FS:=(zQ z1i (zQ z0N (zQ z6O (zQ (z1j kC) (z1j z2l)))))
def xw:Mir:=kU ["lot","most","found","bottom","of_bottom"] 2 jY
@[simp] def z7X:FS:=(xE (ze xf (za (zc 0) zj)))
@[simp] def z7Y:FS:=(xE (ze zO (za (zc 1) zj)))
@[simp] def z2w:FS:=(wx 2 zi5)
@[simp] def z2M:FS:=(zbC (zc 2) (zc 4) (eC (.bl true)))
@[simp] def ql:FS:=(fIf (tOf (eOp dNe (eOp dIx (zc 4) (ua (eC (.int 1)))) (eC (.int 0)))) z2M wa)
@[simp] def qq:FS:=(zaU (yF (ze zR (za (zc 3) zj))) (wb 4) ql)
@[simp] def kh:FS:=(zaU (yF (eSl (z4H (ze yu (za (zc 0) (za (zc 1) zj)))) (yE (eC (.int 1))) zW)) (wb 3) qq)
@[simp] def jT:FS:=(xR (ze z2z (za (zc 2) zj)))
def z3M:FS:=(zQ z7X (zQ z7Y (zQ z2w (zQ kh jT))))
def z01:Mir:=Mof ["rule","lot","found","product","column"] 2 z3M
@[simp] def z0P:FS:=(xE (ze yN (za (zc 0) zj)))
@[simp] def z0Y:FS:=(xE (ze zy (za (zc 1) zj)))
def jZ:FS:=(zQ z0P (zQ z0Y (zQ (z1j z2w) (zQ (z1j kh) (z1j jT)))))
def wf:Mir:=kU ["rule","lot","found","product","column"] 2 jZ
@[simp] def z1u:FS:=(xR (eOp dIx (zc 0) (zc 1)))
@[simp] def z1k:FS:=(fIf (tOf (eOp dLt (zc 1) (ze xK (za (zc 0) zj)))) z1u wa)
@[simp] def z1p:FS:=(xR (eC (.int 0)))
def vK:FS:=(zQ z1k z1p)
def xk:Mir:=Mof ["_law_script","_law_k"] 2 vK
@[simp] def z6h:FS:=(xR (z9V (za (eOp zc3 (zc 0) (eOp z1N (eC (.int 10)) (eC (.int 18)))) zj)))
@[simp] def z6f:FS:=(fIf (tOf (eOp dGe (zc 0) (eOp z1N (eC (.int 10)) (eC (.int 18))))) z6h wa)
@[simp] def z6R:FS:=(wx 1 (eC (.int 0)))
@[simp] def z11:FS:=(wx 3 (eOp zap (eOp xP (eOp xG (eOp xG (eOp zap (zc 0) (eC (.int 2147483629))) (eOp xP (eC (.int 7919)) (zc 2))) (eC (.int 1))) (eC (.int 48271))) (eC (.int 2147483647))))
@[simp] def z0R:FS:=(wx 3 (eOp zap (eOp xG (eOp xG (eOp xP (zc 3) (zc 3)) (eOp xP (eC (.int 69621)) (zc 2))) (eC (.int 7))) (eC (.int 2147483587))))
@[simp] def z1d:FS:=(wx 1 (eOp xG (eOp xP (zc 1) (eC (.int 2147483587))) (zc 3)))
@[simp] def z1g:FS:=(zaU (z73 (za (eC (.int 64)) zj)) (wb 2) (zQ z11 (zQ z0R z1d)))
@[simp] def z6S:FS:=(xR (z9V (za (zc 1) zj)))
def jV:FS:=(zQ z6f (zQ z6R (zQ z1g z6S)))
def vA:Mir:=Mof ["_law_cell","_law_number","_law_j","_law_more"] 1 jV
@[simp] def uK:FS:=(xR (vB (za (eC (.str "next")) (za (eC (.str "least")) (za (eC (.str "all")) (za (eC (.str "turn")) zj))))))
def qJ:FS:=uK
def yk:Mir:=Mof [] 0 qJ
@[simp] def z4s:FS:=(wx 2 (eOp zap (eOp dIx (zc 0) (eC (.int 0))) (zc 1)))
@[simp] def z4W:FS:=(z5X (zc 0) (eC (.int 0)) (eOp z7v (eOp dIx (zc 0) (eC (.int 0))) (zc 1)))
@[simp] def z4Y:FS:=(xR (zc 2))
def z1h:FS:=(zQ z4s (zQ z4W z4Y))
def zq:Mir:=Mof ["_law_pot_here","_law_far","_law_found"] 2 z1h
@[simp] def z3v:FS:=(xR (zel (eIs "int" (zc 0)) (ziS (eIs "bool" (zc 0)))))
def z04:FS:=z3v
def jc:Mir:=Mof ["_law_thing"] 1 z04
@[simp] def z2I:FS:=(xR (eC (.bl false)))
@[simp] def jb:FS:=(fIf (fOr (z3d (tOf (eIs "tuple" (zc 0)))) (tOf (eOp (z9T true) (ze xK (za (zc 0) zj)) (wT (za (eC (.int 2)) (za (eC (.int 3)) (za (eC (.int 4)) zj))))))) z2I wa)
@[simp] def z1S:FS:=(xR (eC (.bl false)))
@[simp] def xD:FS:=(fIf (fOr (z3d (tOf (ze jc (za (zc 1) zj)))) (tOf (eOp dLt (zc 1) (eC (.int 0))))) z1S wa)
@[simp] def xy:FS:=(zaU (yF (zc 0)) (wb 1) xD)
@[simp] def wc:FS:=(xR (eOp dGt (ze vx (za (zc 0) zj)) (eC (.int 0))))
def wH:FS:=(zQ jb (zQ xy wc))
def yZ:Mir:=Mof ["_law_thing","_law_number"] 1 wH
@[simp] def vU:FS:=(wx 3 (ze z7P (za (eOp xG (zc 2) (eC (.int 1))) (za (eOp dIx (vB (za (eC (.int 4)) (za (eC (.int 31)) (za (eC (.int 1001)) (za (eOp z1N (eC (.int 10)) (eC (.int 15))) (za (eOp z1N (eC (.int 10)) (eC (.int 39))) zj)))))) (ze zq (za (zc 0) (za (eC (.int 5)) zj)))) zj))))
@[simp] def vS:FS:=(wx 4 (z3Z (z73 (za (zc 1) zj)) [some 0,some 3,none] (wb 2) yU (ze zq (za (zc 0) (za (zc 1) zj)))))
@[simp] def vR:FS:=(wx 5 (ze zq (za (zc 0) (za (eC (.int 6)) zj))))
@[simp] def vX:FS:=(ziP 6 7 (za (ze zq (za (zc 0) (za (zc 1) zj))) (za (ze zq (za (zc 0) (za (zc 1) zj))) zj)))
@[simp] def ja:FS:=(z5X (zc 4) (zc 6) (eC (.int 0)))
@[simp] def wj:FS:=(fIf (tOf (eOp dEq (zc 5) (eC (.int 0)))) ja wa)
@[simp] def jf:FS:=(z5X (zc 4) (zc 6) (eOp dIx (zc 4) (zc 7)))
@[simp] def we:FS:=(fIf (tOf (eOp dEq (zc 5) (eC (.int 1)))) jf wa)
@[simp] def qC:FS:=(z5X (zc 4) (zc 7) (eOp xG (eC (.int 1)) (ze zq (za (zc 0) (za (eOp zc3 (zc 3) (eC (.int 1))) zj)))))
@[simp] def wr:FS:=(fIf (tOf (eOp dEq (ze vx (za (zc 4) zj)) (eC (.int 0)))) qC wa)
@[simp] def qH:FS:=(xR (ze yR (za (zc 4) zj)))
def jD:FS:=(zQ vU (zQ vS (zQ vR (zQ vX (zQ wj (zQ we (zQ wr qH)))))))
def wg:Mir:=z9y (Mof ["_law_pot_here","_law_size","_law_most","_law_far","_law_found","_law_way","_law_at","_law_to"] 3 jD)
@[simp] def vN:FS:=(wx 2 (ze zq (za (zc 0) (za (ze xK (za (zc 1) zj)) zj))))
@[simp] def vQ:FS:=(wx 3 (eOp dIx (vB (za (ua (eC (.int 1))) (za (eC (.bl true)) (za (eC .non) (za (eC (.str "1")) (za (wT (za (eC (.int 1)) zj)) (za (eC (.bl false)) (za (vB (za (eC (.int 1)) zj)) zj)))))))) (ze zq (za (zc 0) (za (eC (.int 7)) zj)))))
@[simp] def wk:FS:=(wx 4 (vB (za (eOp xG (eOp xG (eSl (zc 1) zW (yE (zc 2))) (wT (za (zc 3) zj))) (eSl (zc 1) (yE (eOp xG (zc 2) (eC (.int 1)))) zW)) (za (eOp z9M (wT (za (eC (.int 0)) zj)) (ze xK (za (zc 1) zj))) (za (ze z9r (za (zc 1) zj)) (za (eSl (eOp xG (eOp xG (zc 1) (zc 1)) (zc 1)) zW (yE (eC (.int 5)))) (za (eSl (zc 1) zW (yE (eC (.int 1)))) (za (wT zj) (za (eC .non) zj)))))))))
@[simp] def wl:FS:=(xR (eOp dIx (eOp xG (zc 4) (vB (za (eC (.int 7)) (za (eC (.str "1:2")) (za (eC .dct) (za (wT (za (zc 1) zj)) zj)))))) (ze zq (za (zc 0) (za (eC (.int 11)) zj)))))
def jL:FS:=(zQ vN (zQ vQ (zQ wk wl)))
def xH:Mir:=Mof ["_law_pot_here","_law_lot_here","_law_at","_law_odd","_law_some"] 2 jL
@[simp] def yI:FS:=(wx 2 (vB (za (z8I (zc 1)) (za (eOp uG (zc 1) (eC (.str " "))) (za (zgy (zc 1) (yE (eC (.int 1)))) (za (eOp uG (zc 1) (eC (.str "s"))) (za (eC (.str "")) (za (eC .non) (za (eC (.int 3)) (za (wT (za (zc 1) zj)) (za (vB (za (zc 1) zj)) (za (eC (.bl true)) (za (eC .dct) zj)))))))))))))
@[simp] def yJ:FS:=(xR (eOp dIx (zc 2) (ze zq (za (zc 0) (za (eC (.int 11)) zj)))))
def xC:FS:=(zQ yI yJ)
def yx:Mir:=Mof ["_law_pot_here","_law_rule","_law_some"] 2 xC
@[simp] def uz:FS:=(wx 1 (ze wg (za (zc 0) (za (eOp xG (eC (.int 2)) (ze zq (za (zc 0) (za (eC (.int 3)) zj)))) (za (eOp z1N (eC (.int 10)) (eC (.int 39))) zj)))))
@[simp] def wM:FS:=(wx 1 (eOp xG (eSl (zc 1) zW (yE (ua (eC (.int 1))))) (wT (za (eOp xG (eC (.int 1)) (ze zq (za (zc 0) (za (eC (.int 30)) zj)))) zj))))
@[simp] def wN:FS:=(fIf (tOf (eOp dEq (eOp dIx (zc 1) (ua (eC (.int 1)))) (eC (.int 0)))) wM wa)
@[simp] def jI:FS:=(xR (zc 1))
def z0c:FS:=(zQ uz (zQ wN jI))
def xX:Mir:=Mof ["_law_pot_here","_law_lot_here"] 1 z0c
end Pg
namespace K44
open PySem.Spec L2 Dd Pg
def rsX:List Str:=["NoBottom","NoLot","NoNumber","NoRule"]
def csX:List Str:=["NoLot","NoRule","Ended","NoBottom","NoRoot","NoCube","NoSize","NoNumber","TooMany","NoTable","NoTuple","NotAlike","NotFair","NoText","NoStep","NoDeed","NoRow"]
@[simp] def vm:FS:=(wx 1 (vB (za (z1B rsX "NoLot" (zc 0)) (za (z1B rsX "NoRule" (zc 0)) (za (z1B rsX "Ended" (zc 0)) (za (z1B rsX "NoBottom" (zc 0)) zj))))))
@[simp] def vb:FS:=(wx 1 (eOp xG (zc 1) (vB (za (z1B rsX "NoRoot" (zc 0)) (za (z1B rsX "NoCube" (zc 0)) (za (z1B rsX "NoSize" (zc 0)) (za (z1B rsX "NoNumber" (zc 0)) zj)))))))
@[simp] def vn:FS:=(wx 1 (eOp xG (zc 1) (vB (za (z1B rsX "TooMany" (zc 0)) (za (z1B rsX "NoTable" (zc 0)) (za (z1B rsX "NoTuple" (zc 0)) (za (z1B rsX "NotAlike" (zc 0)) zj)))))))
@[simp] def wW:FS:=(wx 1 (eOp zcl (zc 1) (z9V (za (z1B rsX "NotFair" (zc 0)) (za (z1B rsX "NoText" (zc 0)) (za (z1B rsX "NoStep" (zc 0)) (za (z1B rsX "NoDeed" (zc 0)) zj)))))))
@[simp] def vg:FS:=(xE (zeF (zc 1) (z1B rsX "NoRow" (zc 0))))
@[simp] def z1s:FS:=(xR (eC (.str "other")))
@[simp] def vk:FS:=(fIf (fOr (tOf (eOp dNe (zar (zc 1) (eC (.bl true))) (eC (.int 1)))) (z3d (tOf (zl8 rsX (zc 0))))) z1s wa)
@[simp] def vh:FS:=(wx 2 (vB (za (eC (.str "lot")) (za (eC (.str "rule")) (za (eC (.str "ended")) (za (eC (.str "bottom")) (za (eC (.str "root")) (za (eC (.str "cube")) (za (eC (.str "size")) (za (eC (.str "number")) (za (eC (.str "many")) zj)))))))))))
@[simp] def vi:FS:=(xR (eOp dIx (eOp xG (zc 2) (eOp zgX (vB (za (eC (.str "no")) zj)) (eC (.int 8)))) (z8u (zc 1) (eC (.bl true)))))
def je:FS:=(zQ vm (zQ vb (zQ vn (zQ wW (zQ vg (zQ vk (zQ vh vi)))))))
def zS:Mir:=Mof ["_law_e","_law_some","_law_words"] 1 je
@[simp] def yI:FS:=(wx 1 (eOp dIx (ze Pg.yk zj) (ze Pg.zq (za (zc 0) (za (eC (.int 4)) zj)))))
@[simp] def yJ:FS:=(wx 2 (ze Pg.zq (za (zc 0) (za (ze z9N (za (zc 1) zj)) zj))))
@[simp] def vj:FS:=(wx 3 (eOp zhR (eC (.str "abcdefghijklmnopqrstuvwxyz")) (ze Pg.zq (za (zc 0) (za (eC (.int 26)) zj)))))
@[simp] def ve:FS:=(wx 4 (vB (za (eOp uG (ziI (zc 1) (yE (zc 2))) (zgy (zc 1) (yE (eOp xG (zc 2) (eC (.int 1)))))) (za (eOp uG (eOp uG (ziI (zc 1) (yE (zc 2))) (zc 3)) (zgy (zc 1) (yE (zc 2)))) (za (z8I (zc 1)) (za (eOp uG (zc 1) (eC (.str " "))) (za (eC (.str "")) (za (eC .non) (za (eC (.int 3)) zj)))))))))
@[simp] def wZ:FS:=(xR (eOp dIx (eOp xG (zc 4) (vB (za (wT (za (zc 1) zj)) (za (vB (za (zc 1) zj)) (za (eC (.bl true)) (za (eC .dct) zj)))))) (ze Pg.zq (za (zc 0) (za (eC (.int 11)) zj)))))
def xC:FS:=(zQ yI (zQ yJ (zQ vj (zQ ve wZ))))
def yx:Mir:=Mof ["_law_pot_here","_law_name","_law_spot","_law_letter","_law_some"] 1 xC
@[simp] def z0a:FS:=(xE (ze Pg.wf (za (zc 2) (za (zc 1) zj))))
@[simp] def kM:FS:=(xE (z8R (eOp dIx (vB (za (eC (.fn "tops")) (za (eC (.fn "errors")) (za (eC (.fn "worst")) (za (eC (.fn "records")) zj))))) (zc 0)) [("tops",Pg.X_tops),("errors",Pg.xa),("worst",Pg.uv),("records",Pg.xw)] (za (zc 1) (za (zc 2) zj))))
@[simp] def zZ:FS:=(fIf (tOf (eOp dEq (zc 0) (eC (.int 4)))) z0a kM)
@[simp] def qf:FS:=(xR (ze zS (za (zc 3) zj)))
@[simp] def qt:FS:=(zbM rsX zZ 3 qf)
@[simp] def z0b:FS:=(xR (eC (.str "told")))
def qX:FS:=(zQ qt z0b)
def zg:Mir:=z9y (Mof ["_law_way","_law_one","_law_other","_law_e"] 3 qX)
@[simp] def z2G:FS:=(wx 2 (ze Pg.vA (za (ze Pg.xk (za (zc 0) (za (zc 1) zj))) zj)))
@[simp] def z1X:FS:=(wx 3 (ze Pg.xX (za (zc 2) zj)))
@[simp] def z2K:FS:=(ziP 4 5 (za (ze Pg.xH (za (zc 2) (za (zc 3) zj))) (za (eOp xG (eOp xG (wT (za (eOp xG (eC (.int 1)) (eOp dIx (zc 3) (eC (.int 0)))) zj)) (eSl (zc 3) (yE (eC (.int 1))) (yE (ua (eC (.int 1)))))) (wT (za (eC (.int 0)) zj))) zj)))
@[simp] def z30:FS:=(wx 6 (eOp dIx (vB (za (eC (.int 0)) (za (eOp xG (eOp z1N (eC (.int 10)) (eC (.int 12))) (eC (.int 1))) (za (ua (eC (.int 1))) (za (eC (.bl true)) (za (eC .non) (za (eC (.str "1")) (za (wT (za (eC (.int 1)) zj)) (za (eOp z1N (eC (.int 10)) (eC (.int 39))) zj))))))))) (ze Pg.zq (za (zc 2) (za (eC (.int 8)) zj)))))
@[simp] def z34:FS:=(wx 7 (eOp dIx (vB (za (eC (.int 0)) (za (eC (.int 1001)) (za (ua (eC (.int 1))) (za (eC (.bl false)) (za (eC .non) (za (eC (.str "1")) (za (vB (za (eC (.int 1)) zj)) (za (eOp z1N (eC (.int 10)) (eC (.int 39))) zj))))))))) (ze Pg.zq (za (zc 2) (za (eC (.int 8)) zj)))))
@[simp] def z32:FS:=(wx 10 (vB (za (ze zg (za (zc 8) (za (zc 4) (za (zc 9) zj)))) (za (ze zg (za (zc 8) (za (zc 4) (za (eC (.int 1)) zj)))) (za (ze zg (za (zc 8) (za (zc 5) (za (zc 9) zj)))) zj)))))
@[simp] def z24:FS:=(wx 10 (eOp xG (zc 10) (vB (za (ze zg (za (zc 8) (za (zc 5) (za (eC (.int 1)) zj)))) (za (ze zg (za (zc 8) (za (zc 3) (za (zc 9) zj)))) (za (ze zg (za (zc 8) (za (zc 3) (za (eC (.int 1)) zj)))) zj))))))
@[simp] def zdC:FS:=(xR (eC (.bl false)))
@[simp] def z1G:FS:=(fIf (tOf (eOp dNe (zc 10) (vB (za (eC (.str "lot")) (za (eC (.str "lot")) (za (eC (.str "bottom")) (za (eC (.str "bottom")) (za (eC (.str "number")) (za (eC (.str "told")) zj))))))))) zdC wa)
@[simp] def z2L:FS:=(zaU (yF (vB (za (wT (za (eC (.int 0)) (za (zc 6) zj))) (za (wT (za (eC (.int 1)) (za (zc 6) zj))) (za (wT (za (eC (.int 2)) (za (zc 6) zj))) (za (wT (za (eC (.int 3)) (za (zc 7) zj))) zj)))))) (uM 8 9) (zQ z32 (zQ z24 z1G)))
@[simp] def kX:FS:=(zcx (wT (za (ze yx (za (zc 2) zj)) (za (eOp dIx (ze Pg.yk zj) (ze Pg.zq (za (zc 2) (za (eC (.int 4)) zj)))) zj))) (uM 11 12))
@[simp] def kH:FS:=(wx 10 (zK (yF (vB (za (zc 4) (za (zc 5) (za (zc 3) zj))))) [some 11,none] (wb 1) yU (ze zg (za (eC (.int 4)) (za (zc 1) (za (zc 0) zj))))))
@[simp] def kT:FS:=(wx 10 (eOp xG (zc 10) (zK (yF (vB (za (zc 4) (za (zc 5) (za (zc 3) zj))))) [some 12,none] (wb 1) yU (ze zg (za (eC (.int 4)) (za (zc 1) (za (zc 0) zj)))))))
@[simp] def zd6:FS:=(xR (eC (.bl false)))
@[simp] def kK:FS:=(fIf (tOf (eOp dNe (zc 10) (eOp xG (eOp zgX (vB (za (eC (.str "rule")) zj)) (eC (.int 3))) (vB (za (eC (.str "lot")) (za (eC (.str "bottom")) (za (eC (.str "told")) zj))))))) zd6 wa)
@[simp] def z7q:FS:=(zaU (z73 (za (ze zcL (za (eC (.int 1)) (za (ze z7P (za (ze xK (za (zc 0) zj)) (za (eC (.int 8)) zj))) zj))) zj)) (wb 1) (zQ z2G (zQ z1X (zQ z2K (zQ z30 (zQ z34 (zQ z2L (zQ kX (zQ kH (zQ kT kK))))))))))
@[simp] def z4T:FS:=(xR (zel (eOp dEq (ze zg (za (eC (.int 0)) (za (wT (za (eC (.int 1)) (za (eC (.int 2)) zj))) (za (eOp z1N (eC (.int 10)) (eC (.int 12))) zj)))) (eC (.str "told"))) (eOp dEq (ze zg (za (eC (.int 3)) (za (wT (za (eC (.int 1)) (za (eC (.int 2)) zj))) (za (eC (.int 1000)) zj)))) (eC (.str "told")))))
def zdK:FS:=(zQ z7q z4T)
def zeB:Mir:=Mof ["_law_script","_law_at","_law_pot_here","_law_lot_here","_law_none","_law_bare","_law_bad","_law_far","_law_way","_law_odd","_law_told_here","_law_rule","_law_word"] 1 zdK
end K44
set_option maxHeartbeats 6000000
namespace K44
open PySem.Spec L2 Dd Pg
structure Txt(mg:Str->Option Value):Prop where
 LEAST_SIZE_:∃ t,mg "LEAST_SIZE"=some (.int 2 t)
 MOST_BOTTOM_:∃ t,mg "MOST_BOTTOM"=some (.int (10 ^ 12) t)
 MOST_RECORDS_:∃ t,mg "MOST_RECORDS"=some (.int 1000 t)
 MOST_SIZE_:∃ t,mg "MOST_SIZE"=some (.int 4 t)
 ValueError_:mg "ValueError"=none
 abs_:mg "abs"=none
 all_:mg "all"=none
 bool_:mg "bool"=none
 divmod_:mg "divmod"=none
 int_:mg "int"=none
 isinstance_:mg "isinstance"=none
 len_:mg "len"=none
 list_:mg "list"=none
 max_:mg "max"=none
 min_:mg "min"=none
 range_:mg "range"=none
 str_:mg "str"=none
 sum_:mg "sum"=none
 tuple_:mg "tuple"=none
 zip_:mg "zip"=none
theorem zdP:bootBuiltins "abs"=some (.builtin "abs"):=by decide +kernel
theorem zdS:bootBuiltins "all"=some (.builtin "all"):=by decide +kernel
theorem zfK:bootBuiltins "bool"=some (.type "bool"):=by decide +kernel
theorem zae:bootBuiltins "divmod"=some (.builtin "divmod"):=by decide +kernel
theorem zhk:bootBuiltins "int"=some (.type "int"):=by decide +kernel
theorem wP:bootBuiltins "len"=some (.builtin "len"):=by decide +kernel
theorem zaQ:bootBuiltins "list"=some (.type "list"):=by decide +kernel
theorem z2y:bootBuiltins "max"=some (.builtin "max"):=by decide +kernel
theorem z8T:bootBuiltins "min"=some (.builtin "min"):=by decide +kernel
theorem ziu:bootBuiltins "str"=some (.type "str"):=by decide +kernel
theorem zhY:bootBuiltins "sum"=some (.builtin "sum"):=by decide +kernel
theorem yX:bootBuiltins "tuple"=some (.type "tuple"):=by decide +kernel
theorem zlX:(["_law_rule","_law_one"]:List Str).Nodup:=by decide +kernel
theorem zlK:(["_law_word","_law_one"]:List Str).Nodup:=by decide +kernel
theorem zm0:(["_law_pot_here","_law_far","_law_place"]:List Str).Nodup:=by decide +kernel
theorem zkK:(["error"]:List Str).Nodup:=by decide +kernel
theorem zkF:(["bottom","lot","part","top"]:List Str).Nodup:=by decide +kernel
theorem zkL:(["bottom","lot","part"]:List Str).Nodup:=by decide +kernel
theorem zld:(["part"]:List Str).Nodup:=by decide +kernel
theorem zlH:(["one","column"]:List Str).Nodup:=by decide +kernel
theorem zm9:(["numbers","line"]:List Str).Nodup:=by decide +kernel
theorem zlG:(["one","other"]:List Str).Nodup:=by decide +kernel
theorem zjI:(["table","at"]:List Str).Nodup:=by decide +kernel
theorem zjp:(["at","line"]:List Str).Nodup:=by decide +kernel
theorem zjT:(["thing","line"]:List Str).Nodup:=by decide +kernel
theorem zjO:(["places","line"]:List Str).Nodup:=by decide +kernel
theorem zjt:(["line","column"]:List Str).Nodup:=by decide +kernel
theorem zjf:(["rule","ahead"]:List Str).Nodup:=by decide +kernel
theorem zhC:(["number"]:List Str).Nodup:=by decide +kernel
theorem zjG:(["lot","by","number","quotient"]:List Str).Nodup:=by decide +kernel
theorem zj7:(["divided","lot","by","at"]:List Str).Nodup:=by decide +kernel
theorem zjc:(["place","at"]:List Str).Nodup:=by decide +kernel
theorem zjC:(["rule","by","line","quotient"]:List Str).Nodup:=by decide +kernel
section
local macro_rules | `(tactic| trivial)=>`(tactic| exact ⟨rfl,rfl,rfl,by decide +kernel,rfl,by decide +kernel,by decide +kernel⟩)
theorem z7S:zv ["thing"] ["thing"] (zf jX):=by trivial
theorem z77:zv ["thing"] ["thing"] (zf ku):=by trivial
theorem z7o:zv ["line","numbers"] ["line","numbers"] (zf kD):=by trivial
theorem jB:zv ["size","places"] ["size"] (zf uB):=by trivial
theorem z4K:zv ["table"] ["table"] (zf uW):=by trivial
theorem wz:zv ["lot","at"] ["lot"] (zf xl):=by trivial
theorem z3n:zv ["lot"] ["lot"] (zf ux):=by trivial
theorem z9u:zv ["lot","place"] ["lot","place"] (zf z0t):=by trivial
theorem z9f:zv ["thing"] ["thing"] (zf z0F):=by trivial
theorem zcY:zv ["rule","numbers"] ["rule","numbers"] (zf z53):=by trivial
theorem qF:zv ["number","by","whole","rest"] ["number","by"] (zf vd):=by trivial
theorem z2W:zv ["_law_script","_law_k"] ["_law_script","_law_k"] (zf vL):=by trivial
theorem wE:zv ["_law_cell","_law_number","_law_j","_law_more"] ["_law_cell"] (zf kF):=by trivial
theorem z0Q:zv ["_law_pot_here","_law_far","_law_found"] ["_law_pot_here","_law_far"] (zf qR):=by trivial
theorem yS:zv ["_law_e","_law_some","_law_words"] ["_law_e"] (zf vY):=by trivial
theorem z5l:zv [] [] (zf qi):=by trivial
theorem z5u:zv ["thing","many"] ["thing","many"] (zf qe):=by trivial
theorem jy:zv ["thing","least","most"] ["thing","least","most"] (zf wF):=by trivial
theorem z3B:zv ["lines","numbers"] ["lines","numbers"] (zf uu):=by trivial
theorem z3U:zv ["lot","greatest","others"] ["lot"] (zf z0q):=by trivial
theorem z2b:zv ["lot","greatest","others"] ["lot"] (zf km):=by trivial
theorem z6D:zv ["lot","by"] ["lot"] (zf z2p):=by trivial
theorem z9g:zv ["lot"] ["lot"] (zf z0p):=by trivial
theorem z0Z:zv ["thing"] ["thing"] (zf uj):=by trivial
theorem vT:zv ["_law_pot_here","_law_size","_law_most","_law_far","_law_found","_law_way","_law_at","_law_to"] ["_law_pot_here","_law_size","_law_most"] (zf kj):=by trivial
theorem wG:zv ["_law_pot_here","_law_lot_here","_law_at","_law_odd","_law_some"] ["_law_pot_here","_law_lot_here"] (zf uA):=by trivial
theorem xq:zv ["_law_pot_here","_law_name","_law_spot","_law_letter","_law_some"] ["_law_pot_here"] (zf vF):=by trivial
theorem za8:zv ["thing"] ["thing"] (zf z31):=by trivial
theorem z7M:zv ["thing"] ["thing"] (zf kg):=by trivial
theorem kf:zv ["rule","lot","deal","by","divided"] ["rule","lot"] (zf ke):=by trivial
theorem qw:zv ["_law_pot_here","_law_lot_here"] ["_law_pot_here"] (zf qp):=by trivial
theorem z2f:zv ["thing"] ["thing"] (zf qA):=by trivial
theorem z5k:zv ["thing"] ["thing"] (zf qh):=by trivial
theorem z6P:zv ["lot"] ["lot"] (zf ji):=by trivial
theorem z4r:zv ["one","other"] ["one","other"] (zf qd):=by trivial
theorem jw:zv ["rule","lot"] ["rule","lot"] (zf xN):=by trivial
theorem jJ:zv ["lot"] ["lot"] (zf wJ):=by trivial
theorem xS:zv ["size","tables","products","table"] ["size","tables"] (zf xV):=by trivial
theorem z6n:zv ["rule","lot"] ["rule","lot"] (zf jh):=by trivial
theorem zaD:zv ["lot","bottom"] ["lot","bottom"] (zf z5r):=by trivial
theorem z7C:zv ["rule","lot","by","quotients","left"] ["rule","lot"] (zf z7z):=by trivial
theorem kY:zv ["rule","lot","by","quotients"] ["rule","lot"] (zf qk):=by trivial
theorem kS:zv ["lot","bottom","found"] ["lot","bottom"] (zf kN):=by trivial
theorem zdF:zv ["rule","lot","lots"] ["rule","lot"] (zf zbV):=by trivial
theorem z87:zv ["lot","bottom"] ["lot","bottom"] (zf z1I):=by trivial
theorem z6K:zv ["rule","lot"] ["rule","lot"] (zf jd):=by trivial
theorem jp:zv ["lot","most","found","bottom","of_bottom"] ["lot","most"] (zf z0H):=by trivial
theorem jA:zv ["rule","lot","tables"] ["rule","lot"] (zf ut):=by trivial
theorem jk:zv ["rule","lot","found","product","column"] ["rule","lot"] (zf z0z):=by trivial
theorem z1e:zv ["_law_way","_law_one","_law_other","_law_e"] ["_law_way","_law_one","_law_other"] (zf qV):=by trivial
theorem uS:zv ["_law_script","_law_at","_law_pot_here","_law_lot_here","_law_none","_law_bare","_law_bad","_law_far","_law_way","_law_odd","_law_told_here","_law_rule","_law_word"] ["_law_script"] (zf z3R):=by trivial
end
section
variable {P:Program}{w:World}{K:W.Frag}{mg:Str->Option Value}{base:Heap}(T:Txt mg){f:Addr}{fd:FuncData}
include T
local macro_rules | `(tactic| trivial)=>`(tactic| first | exact (fun _ _ _ _ _ _ us hl=>match us,hl with | [],_=>rfl) | exact (fun _ _ _ _ _ _ us hl=>match us,hl with | [_],_=>rfl) | exact (fun _ _ _ _ _ _ us hl=>match us,hl with | [_,_],_=>rfl) | exact (fun _ _ _ _ _ _ us hl=>match us,hl with | [_,_,_],_=>rfl))
theorem z6q(F:Fun K "is_whole" "is_whole" jX f fd)(hm:mg "is_whole"=some (.ref f))  : Has P w K mg base CX0 "is_whole" 1 Pg.yy:= (zM F hm (F.binds (ps:=["thing"]) (by trivial)) z7S rfl fun cdv A outer s H E hr hc=> have hu:=hr.units;(zp (yc (zbi (zhi (by decide) zhk (by rfl) T.isinstance_ (by rfl) T.int_ (zb 0)) (zao (zkl (zhi (by decide) zfK (by rfl) T.isinstance_ (by rfl) T.bool_ (zb 0))))))))
theorem z5S (F:Fun K "has_size" "has_size" ku f fd) (hm:mg "has_size"=some (.ref f))  : Has P w K mg base CX0 "has_size" 1 Pg.yb:= (zM F hm (F.binds (ps:=["thing"]) (by trivial)) z77 rfl fun cdv A outer s H E hr hc=> have hu:=hr.units;(zp (yc (zbi (zhi (by decide) yX (by rfl) T.isinstance_ (by rfl) T.tuple_ (zb 0)) (zao (zfR zgi zgi (zgv (by rfl) T.LEAST_SIZE_) (zN ju (by rfl) T.len_ wP (aN (zb 0) zd) (he:=(zx ..))) (zgv (by rfl) T.MOST_SIZE_)))))))
theorem z6E (F:Fun K "together" "together" kD f fd) (hm:mg "together"=some (.ref f))  : Has P w K mg base CX0 "together" 1 Pg.uD:= (zM F hm (F.binds (ps:=["line","numbers"]) (by trivial)) z7o rfl fun cdv A outer s H E hr hc=> have hu:=hr.units;(zp (yc (zN (zk9 (by exact hc)) (by rfl) T.sum_ zhY (aO (yD ["one","other"] [none,none] (by exact hc) (zb8 (by rfl) T.zip_ (aN (zb 0) (aN (zb 1) zd))) (fun _ _ _=>z0i 0 1 (by exact hc) zlG) (kO 0 1 (by decide) (by rfl) (by rfl)) (fun _ _ _=>yG) (fun _ _ _=>(zH uo (zb 0) (zb 1)))) zd) (he:=(zY ..))))))
theorem z2S (F:Fun K "like_places" "like_places" uB f fd) (hm:mg "like_places"=some (.ref f))  : Has P w K mg base CX0 "like_places" 1 Pg.yt:= (zM F hm (F.binds (ps:=["size"]) (by trivial)) jB rfl fun cdv A outer s H E hr hc=> have hu:=hr.units;(zh (yQ 1 jB.nd (z7i (by exact hc) (by rfl) T.list_ (by rfl) T.range_ (aN (zb 0) zd))) (zp (yc (xT wC (by rfl) T.tuple_ yX (aO (yD ["places","line"] [some 1,none] (by exact hc) (uU (zb 1)) (fun _ _ _=>yq (i:=1) zjO (by rfl) (by first | exact Or.inl rfl | exact Or.inr rfl)) (yn 1 (by rfl)) (fun _ _ _=>yG) (fun _ _ _=>(xT wC (by rfl) T.tuple_ yX (aO (yD ["line","column"] [some 1,none] (by exact hc) (uU (zb 0)) (fun _ _ _=>yq (i:=1) zjt (by rfl) (by first | exact Or.inl rfl | exact Or.inr rfl)) (yn 1 (by rfl)) (fun _ _ _=>yG) (fun _ _ _=>(ziX (xo (z9O hu) (zb 0) (zb 1)) zm zm))) zd) (he:=(zY ..))))) zd) (he:=(zY ..)))))))
theorem z3A (F:Fun K "columns_of" "columns_of" uW f fd) (hm:mg "columns_of"=some (.ref f))  : Has P w K mg base CX0 "columns_of" 1 Pg.zR:= (zM F hm (F.binds (ps:=["table"]) (by trivial)) z4K rfl fun cdv A outer s H E hr hc=> have hu:=hr.units;(zp (yc (xT wC (by rfl) T.tuple_ yX (aO (yD ["table","at"] [some 0,none] (by exact hc) (z0L (by rfl) T.range_ (aQ (zN ju (by rfl) T.len_ wP (aN (zb 0) zd) (he:=(zx ..))) zd)) (fun _ _ _=>yq (i:=1) zjI (by rfl) (by first | exact Or.inl rfl | exact Or.inr rfl)) (yn 1 (by rfl)) (fun _ _ _=>yG) (fun _ _ _=>(xT wC (by rfl) T.tuple_ yX (aO (yD ["at","line"] [some 1,none] (by exact hc) (uU (zb 0)) (fun _ _ _=>yq (i:=1) zjp (by rfl) (by first | exact Or.inl rfl | exact Or.inr rfl)) (yn 1 (by rfl)) (fun _ _ _=>yG) (fun _ _ _=>(jl (zb 1) (zb 0)))) zd) (he:=(zY ..))))) zd) (he:=(zY ..))))))
theorem uX (F:Fun K "greatest_and_others" "greatest_and_others" xl f fd) (hm:mg "greatest_and_others"=some (.ref f))  : Has P w K mg base CX0 "greatest_and_others" 1 Pg.zA:= (zM F hm (F.binds (ps:=["lot"]) (by trivial)) wz rfl fun cdv A outer s H E hr hc=> have hu:=hr.units;(zh (yQ 1 wz.nd (z7H (zb 0) (zN (z47 (by exact hc)) (by rfl) T.max_ z2y (aN (zb 0) zd) (he:=(zx ..))))) (zp (yc (ww (aN (zb 1) (aB (zH xh (zH xh (xm (zb 0) wS (xA (zb 1))) (ww (aK zm zd))) (xm (zb 0) (xA (zH xh (zb 1) zm)) wS)) zd)))))))
theorem z2q (F:Fun K "least_place" "least_place" ux f fd) (hm:mg "least_place"=some (.ref f))  : Has P w K mg base CX0 "least_place" 1 Pg.yi:= (zM F hm (F.binds (ps:=["lot"]) (by trivial)) z3n rfl fun cdv A outer s H E hr hc=> have hu:=hr.units;(zp (yc (z7H (zb 0) (zN (zdZ (by exact hc)) (by rfl) T.min_ z8T (aO (yD ["number"] [none] (by exact hc) (uU (zb 0)) (fun _ _ _=>yq (i:=0) zhC (by rfl) (by first | exact Or.inl rfl | exact Or.inr rfl)) (yn 0 (by rfl)) (fun _ _ _=>z7B (xo (zcj hu) (zb 0) zm)) (fun _ _ _=>(zb 0))) zd) (he:=(zY ..)))))))
theorem z7u (F:Fun K "all_but" "all_but" z0t f fd) (hm:mg "all_but"=some (.ref f))  : Has P w K mg base CX0 "all_but" 1 Pg.xO:= (zM F hm (F.binds (ps:=["lot","place"]) (by trivial)) z9u rfl fun cdv A outer s H E hr hc=> have hu:=hr.units;(zp (yc (yD ["place","at"] [some 1,none] (by exact hc) (z0L (by rfl) T.range_ (aQ (zN ju (by rfl) T.len_ wP (aN (zb 0) zd) (he:=(zx ..))) zd)) (fun _ _ _=>yq (i:=1) zjc (by rfl) (by first | exact Or.inl rfl | exact Or.inr rfl)) (yn 1 (by rfl)) (fun _ _ _=>z7B (xo (zcj hu) (zb 1) (zb 0))) (fun _ _ _=>(zb 1))))))
theorem z7j(F:Fun K "is_rule" "is_rule" z0F f fd)(hm:mg "is_rule"=some (.ref f))(T_RULES:zfH P w K mg "RULES" wK):Has P w K mg base CX0 "is_rule" 1 Pg.xr:= (zM F hm (F.binds (ps:=["thing"]) (by trivial)) z9f rfl fun cdv A outer s H E hr hc=> have hu:=hr.units;(zp (yc (zbi (zhi (by decide) ziu (by rfl) T.isinstance_ (by rfl) T.str_ (zb 0)) (zao (zga T_RULES (by rfl) (zb 0)))))))
theorem zaw(F:Fun K "moved" "moved" z53 f fd)(hm:mg "moved"=some (.ref f))  : Has P w K mg base CX0 "moved" 1 Pg.wX:= (zM F hm (F.binds (ps:=["rule","numbers"]) (by trivial)) zcY rfl fun cdv A outer s H E hr hc=> have hu:=hr.units;(zp (yc (ziX (xo (z9O hu) (zb 0) xp) (zH xh (xm (zb 1) (xA zm) wS) (xm (zb 1) wS (xA zm))) (zb 1)))))
theorem z0D (F:Fun K "nearest_whole" "nearest_whole" vd f fd) (hm:mg "nearest_whole"=some (.ref f))  : Has P w K mg base CX0 "nearest_whole" 1 Pg.yj:= (zM F hm (F.binds (ps:=["number","by"]) (by trivial)) qF rfl fun cdv A outer s H E hr hc=> have hu:=hr.units;(zh (z83 (zN zcr (by rfl) T.divmod_ zae (aN (zb 0) (aN (zb 1) zd)) (he:=(zx ..))) (z0W 2 3 hc qF.nd)) (zp (yc (ziX (xo zkM (zH uo zm (zb 3)) (zb 1)) (zH xh (zb 2) zm) (zb 2))))))
theorem z1t (F:Fun K "_law_cell_at" "_law_cell_at" vL f fd) (hm:mg "_law_cell_at"=some (.ref f))  : Has P w K mg base CX0 "_law_cell_at" 1 Pg.xk:= (zM F hm (F.binds (ps:=["_law_script","_law_k"]) (by trivial)) z2W rfl fun cdv A outer s H E hr hc=> have hu:=hr.units;(zh (z0J (xo zkA (zb 1) (zN ju (by rfl) T.len_ wP (aN (zb 0) zd) (he:=(zx ..)))) (zp (yc (jl (zb 0) (zb 1)))) yV) (zp (yc zm))))
theorem z6z(F:Fun K "_law_pot" "_law_pot" kF f fd)(hm:mg "_law_pot"=some (.ref f))  : Has P w K mg base CX0 "_law_pot" 1 Pg.vA:= (zM F hm (F.binds (ps:=["_law_cell"]) (by trivial)) wE rfl fun cdv A outer s H E hr hc=> have hu:=hr.units;(zh (z0J (xo zkI (zb 0) (zH z4y zm zm)) (zp (yc (z9H (aB (zH zbt (zb 0) (zH z4y zm zm)) zd)))) yV) (zh (yQ 1 wE.nd zm) (zh (z7k PassesOwn.never hc (z0L (by rfl) T.range_ (aK zm zd)) (z4a 2 wE.nd) (zh (yQ 3 wE.nd (zH zdE (zH uo (zH xh (zH xh (zH zdE (zb 0) zm) (zH uo zm (zb 2))) zm) zm) zm)) (zh (yQ 3 wE.nd (zH zdE (zH xh (zH xh (zH uo (zb 3) (zb 3)) (zH uo zm (zb 2))) zm) zm)) (zp (yQ 1 wE.nd (zH xh (zH uo (zb 1) zm) (zb 3))))))) (zp (yc (z9H (aN (zb 1) zd))))))))
theorem z4u(F:Fun K "_law_take" "_law_take" qR f fd)(hm:mg "_law_take"=some (.ref f))  : Has P w K mg base CX0 "_law_take" 1 Pg.zq:= (zM F hm (F.binds (ps:=["_law_pot_here","_law_far"]) (by trivial)) z0Q rfl fun cdv A outer s H E hr hc=> have hu:=hr.units;(zh (yQ 2 z0Q.nd (zH zdE (jl (zb 0) zm) (zb 1))) (zh (z8A (zH zdU (jl (zb 0) zm) (zb 1)) (zb 0) zm) (zp (yc (zb 2))))))
theorem z1o(F:Fun K "_law_kind_of" "_law_kind_of" vY f fd)(hm:mg "_law_kind_of"=some (.ref f))(FM:z6Y ⟨mg,K⟩ rsX csX):ziQ P w K mg base CX0 "_law_kind_of" 1 zS:= zez F hm (F.binds (ps:=["_law_e"]) (by trivial)) yS rfl fun cdv A outer s H E hr=> have hu:=hr.units;(zh (yQ 1 yS.nd (wd (aQ (qY FM (by decide) (by rfl) T.isinstance_ (by rfl) (zb 0)) (aQ (qY FM (by decide) (by rfl) T.isinstance_ (by rfl) (zb 0)) (aQ (qY FM (by decide) (by rfl) T.isinstance_ (by rfl) (zb 0)) (aQ (qY FM (by decide) (by rfl) T.isinstance_ (by rfl) (zb 0)) zd)))))) (zh (yQ 1 yS.nd (zH xh (zb 1) (wd (aQ (qY FM (by decide) (by rfl) T.isinstance_ (by rfl) (zb 0)) (aQ (qY FM (by decide) (by rfl) T.isinstance_ (by rfl) (zb 0)) (aQ (qY FM (by decide) (by rfl) T.isinstance_ (by rfl) (zb 0)) (aQ (qY FM (by decide) (by rfl) T.isinstance_ (by rfl) (zb 0)) zd))))))) (zh (yQ 1 yS.nd (zH xh (zb 1) (wd (aQ (qY FM (by decide) (by rfl) T.isinstance_ (by rfl) (zb 0)) (aQ (qY FM (by decide) (by rfl) T.isinstance_ (by rfl) (zb 0)) (aQ (qY FM (by decide) (by rfl) T.isinstance_ (by rfl) (zb 0)) (aQ (qY FM (by decide) (by rfl) T.isinstance_ (by rfl) (zb 0)) zd))))))) (zh (yQ 1 yS.nd (zH zhw (zb 1) (z9H (aQ (qY FM (by decide) (by rfl) T.isinstance_ (by rfl) (zb 0)) (aQ (qY FM (by decide) (by rfl) T.isinstance_ (by rfl) (zb 0)) (aQ (qY FM (by decide) (by rfl) T.isinstance_ (by rfl) (zb 0)) (aQ (qY FM (by decide) (by rfl) T.isinstance_ (by rfl) (zb 0)) zd))))))) (zh (xg (z1E (zb 1) (qY FM (by decide) (by rfl) T.isinstance_ (by rfl) (zb 0)))) (zh (z0J (RW.rt (ziD (xo (zcj hu) (zbg (zb 1) z9v) zm) (zbX (kB (kL (zjb FM (by rfl) T.isinstance_ (by rfl) T.ValueError_ (zb 0))))))) (zp (yc xp)) yV) (zh (yQ 2 yS.nd (wd (aK xp (aK xp (aK xp (aK xp (aK xp (aK xp (aK xp (aK xp (aK xp zd))))))))))) (zp (yc (jl (zH xh (zb 2) (zH zgM (wd (aK xp zd)) zm)) (zb6 (zb 1) z9v)))))))))))
theorem z3p(F:Fun K "_law_rules" "_law_rules" qi f fd)(hm:mg "_law_rules"=some (.ref f))  : Has P w K mg base CX0 "_law_rules" 1 Pg.yk:= (zM F hm (F.binds (ps:=[]) (by trivial)) z5l rfl fun cdv A outer s H E hr hc=> have hu:=hr.units;(zp (yc (wd (aK xp (aK xp (aK xp (aK xp zd))))))))
theorem z3I (F:Fun K "are_wholes" "are_wholes" qe f fd) (hm:mg "are_wholes"=some (.ref f)) (H_is_whole:Has P w K mg base CX0 "is_whole" 1 Pg.yy):Has P w K mg base CX0 "are_wholes" 2 Pg.zX:= (zM F hm (F.binds (ps:=["thing","many"]) (by trivial)) z5u rfl fun cdv A outer s H E hr hc=> have hu:=hr.units;(zh (z0J (RW.rt (ziD (kB (kL (zhi (by decide) yX (by rfl) T.isinstance_ (by rfl) T.tuple_ (zb 0)))) (zbX (xo (zcj hu) (zN ju (by rfl) T.len_ wP (aN (zb 0) zd) (he:=(zx ..))) (zb 1))))) (zp (yc z9v)) yV) (zp (yc (zN (zhn (by exact hc)) (by rfl) T.all_ zdS (aO (yD ["part"] [none] (by exact hc) (uU (zb 0)) (fun _ _ _=>yq (i:=0) zld (by rfl) (by first | exact Or.inl rfl | exact Or.inr rfl)) (yn 0 (by rfl)) (fun _ _ _=>yG) (fun _ _ _=>(zn H_is_whole (hr.mono (by decide)) zB (by rfl) (aN (zb 0) zd)))) zd) (he:=(zY ..)))))))
theorem z1l(F:Fun K "want_number" "want_number" wF f fd)(hm:mg "want_number"=some (.ref f))(E_NoNumber:zc4 K mg "NoNumber")(H_is_whole:Has P w K mg base CX0 "is_whole" 1 Pg.yy):Has P w K mg base (CX1 P w) "want_number" 2 Pg.zI:= (uY F hm (F.binds (ps:=["thing","least","most"]) (by trivial)) jy rfl fun cdv A outer s H E hr hc=> have hu:=hr.units;(zp (z0J (RW.rt (ziD (kB (kL (zn H_is_whole (hr.mono (by decide)) zeJ (by rfl) (aN (zb 0) zd)))) (zbX (kB (zaO zgi zgi (zb 1) (zb 0) (zb 2)))))) (zp (z4J E_NoNumber z1M hc (by rfl))) yV)))
theorem z2X(F:Fun K "want_number" "want_number" wF f fd)(hm:mg "want_number"=some (.ref f))(H_is_whole:Has P w K mg base CX0 "is_whole" 1 Pg.yy):Has P w K mg base CX0 "want_number" 2 Pg.yY:= (zM F hm (F.binds (ps:=["thing","least","most"]) (by trivial)) jy rfl fun cdv A outer s H E hr hc=> have hu:=hr.units;(zp (z0J (RW.rt (ziD (kB (kL (zn H_is_whole (hr.mono (by decide)) zB (by rfl) (aN (zb 0) zd)))) (zbX (kB (zaO zgi zgi (zb 1) (zb 0) (zb 2)))))) (zp kz) yV)))
theorem z29 (F:Fun K "lines_times" "lines_times" uu f fd) (hm:mg "lines_times"=some (.ref f)) (H_together:Has P w K mg base CX0 "together" 1 Pg.uD):Has P w K mg base CX0 "lines_times" 2 Pg.yL:= (zM F hm (F.binds (ps:=["lines","numbers"]) (by trivial)) z3B rfl fun cdv A outer s H E hr hc=> have hu:=hr.units;(zp (yc (xT wC (by rfl) T.tuple_ yX (aO (yD ["numbers","line"] [some 1,none] (by exact hc) (uU (zb 0)) (fun _ _ _=>yq (i:=1) zm9 (by rfl) (by first | exact Or.inl rfl | exact Or.inr rfl)) (yn 1 (by rfl)) (fun _ _ _=>yG) (fun _ _ _=>(zn H_together (hr.mono (by decide)) zB (by rfl) (aN (zb 1) (aN (zb 0) zd))))) zd) (he:=(zY ..))))))
theorem z7F (F:Fun K "by_next" "by_next" z0q f fd) (hm:mg "by_next"=some (.ref f)) (H_greatest_and_others:Has P w K mg base CX0 "greatest_and_others" 1 Pg.zA):Has P w K mg base CX0 "by_next" 2 Pg.wU:= (zM F hm (F.binds (ps:=["lot"]) (by trivial)) z3U rfl fun cdv A outer s H E hr hc=> have hu:=hr.units;(zh (z83 (zn H_greatest_and_others (hr.mono (by decide)) zB (by rfl) (aN (zb 0) zd)) (z0W 1 2 hc z3U.nd)) (zp (yc (ww (aQ (z7H (zb 2) (zN (z47 (by exact hc)) (by rfl) T.max_ z2y (aN (zb 2) zd) (he:=(zx ..)))) (aL (wd (aN (zb 1) zd)) zd)))))))
theorem z6v(F:Fun K "by_least" "by_least" km f fd)(hm:mg "by_least"=some (.ref f))(H_greatest_and_others:Has P w K mg base CX0 "greatest_and_others" 1 Pg.zA)(H_least_place:Has P w K mg base CX0 "least_place" 1 Pg.yi):Has P w K mg base CX0 "by_least" 2 Pg.xW:= (zM F hm (F.binds (ps:=["lot"]) (by trivial)) z2b rfl fun cdv A outer s H E hr hc=> have hu:=hr.units;(zh (z83 (zn H_greatest_and_others (hr.mono (by decide)) zB (by rfl) (aN (zb 0) zd)) (z0W 1 2 hc z2b.nd)) (zp (yc (ww (aQ (zn H_least_place (hr.mono (by decide)) zB (by rfl) (aN (zb 2) zd)) (aL (wd (aN (zb 1) zd)) zd)))))))
theorem z94(F:Fun K "by_all" "by_all" z2p f fd)(hm:mg "by_all"=some (.ref f))(H_least_place:Has P w K mg base CX0 "least_place" 1 Pg.yi)(H_all_but:Has P w K mg base CX0 "all_but" 1 Pg.xO):Has P w K mg base CX0 "by_all" 2 Pg.uh:= (zM F hm (F.binds (ps:=["lot"]) (by trivial)) z6D rfl fun cdv A outer s H E hr hc=> have hu:=hr.units;(zh (yQ 1 z6D.nd (zn H_least_place (hr.mono (by decide)) zB (by rfl) (aN (zb 0) zd))) (zp (yc (ww (aN (zb 1) (aQ (zn H_all_but (hr.mono (by decide)) zB (by rfl) (aN (zb 0) (aN (zb 1) zd))) zd)))))))
theorem z7m(F:Fun K "by_turn" "by_turn" z0p f fd)(hm:mg "by_turn"=some (.ref f))(H_all_but:Has P w K mg base CX0 "all_but" 1 Pg.xO):Has P w K mg base CX0 "by_turn" 2 Pg.wR:= (zM F hm (F.binds (ps:=["lot"]) (by trivial)) z9g rfl fun cdv A outer s H E hr hc=> have hu:=hr.units;(zh (z0J (xo (z9O hu) (jl (zb 0) zm) zm) (zp (yc (ww (aK zm (aL (wd zd) zd))))) yV) (zp (yc (ww (aK zm (aQ (zn H_all_but (hr.mono (by decide)) zB (by rfl) (aN (zb 0) (aK zm zd))) zd)))))))
theorem z3G(F:Fun K "want_rule" "want_rule" uj f fd)(hm:mg "want_rule"=some (.ref f))(E_NoRule:zc4 K mg "NoRule")(H_is_rule:Has P w K mg base CX0 "is_rule" 1 Pg.xr):Has P w K mg base (CX1 P w) "want_rule" 2 Pg.yN:= (uY F hm (F.binds (ps:=["thing"]) (by trivial)) z0Z rfl fun cdv A outer s H E hr hc=> have hu:=hr.units;(zp (z0J (kB (kL (zn H_is_rule (hr.mono (by decide)) zeJ (by rfl) (aN (zb 0) zd)))) (zp (z4J E_NoRule z1M hc (by rfl))) yV)))
theorem z4n(F:Fun K "want_rule" "want_rule" uj f fd)(hm:mg "want_rule"=some (.ref f))(H_is_rule:Has P w K mg base CX0 "is_rule" 1 Pg.xr):Has P w K mg base CX0 "want_rule" 2 Pg.xf:= (zM F hm (F.binds (ps:=["thing"]) (by trivial)) z0Z rfl fun cdv A outer s H E hr hc=> have hu:=hr.units;(zp (z0J (kB (kL (zn H_is_rule (hr.mono (by decide)) zB (by rfl) (aN (zb 0) zd)))) (zp kz) yV)))
theorem z71 (F:Fun K "_law_lot" "_law_lot" kj f fd) (hm:mg "_law_lot"=some (.ref f)) (H__law_take:Has P w K mg base CX0 "_law_take" 1 Pg.zq):Has P w K mg base CX0 "_law_lot" 2 Pg.wg:= (zM F hm (F.binds (ps:=["_law_pot_here","_law_size","_law_most"]) (by trivial)) vT rfl fun cdv A outer s H E hr hc=> have hu:=hr.units;(zh (yQ 3 vT.nd (zN (zej (by exact hc)) (by rfl) T.min_ z8T (aB (zH xh (zb 2) zm) (aS (jl (wd (aK zm (aK zm (aK zm (aB (zH z4y zm zm) (aB (zH z4y zm zm) zd)))))) (zn H__law_take (hr.mono (by decide)) zB (by rfl) (aN (zb 0) (aK zm zd)))) zd)) (he:=(z1K ..)))) (zh (zfv 4 ["_law_pot_here","_law_far","_law_place"] [some 0,some 3,none] vT.nd hc (z0L (by rfl) T.range_ (aN (zb 1) zd)) (fun _ _ _=>yq (i:=2) zm0 (by rfl) (by first | exact Or.inl rfl | exact Or.inr rfl)) (yn 2 (by rfl)) (fun _ _ _=>yG) (fun _ _ _=>(zn H__law_take (hr.mono (by decide)) zB (by rfl) (aN (zb 0) (aN (zb 1) zd))))) (zh (yQ 5 vT.nd (zn H__law_take (hr.mono (by decide)) zB (by rfl) (aN (zb 0) (aK zm zd)))) (zh (zh4 6 7 hc vT.nd (aQ (zn H__law_take (hr.mono (by decide)) zB (by rfl) (aN (zb 0) (aN (zb 1) zd))) (aQ (zn H__law_take (hr.mono (by decide)) zB (by rfl) (aN (zb 0) (aN (zb 1) zd))) zd))) (zh (z0J (xo (z9O hu) (zb 5) zm) (zp (z8A zm (zb 4) (zb 6))) yV) (zh (z0J (xo (z9O hu) (zb 5) zm) (zp (z8A (jl (zb 4) (zb 7)) (zb 4) (zb 6))) yV) (zh (z0J (xo (z9O hu) (zN (z47 (by exact hc)) (by rfl) T.max_ z2y (aN (zb 4) zd) (he:=(zx ..))) zm) (zp (z8A (zH xh zm (zn H__law_take (hr.mono (by decide)) zB (by rfl) (aN (zb 0) (aB (zH zbt (zb 3) zm) zd)))) (zb 4) (zb 7))) yV) (zp (yc (xT wC (by rfl) T.tuple_ yX (aN (zb 4) zd) (he:=(zx ..))))))))))))).tidy
theorem z2J (F:Fun K "_law_no_lot" "_law_no_lot" uA f fd) (hm:mg "_law_no_lot"=some (.ref f)) (H__law_take:Has P w K mg base CX0 "_law_take" 1 Pg.zq):Has P w K mg base CX0 "_law_no_lot" 2 Pg.xH:= (zM F hm (F.binds (ps:=["_law_pot_here","_law_lot_here"]) (by trivial)) wG rfl fun cdv A outer s H E hr hc=> have hu:=hr.units;(zh (yQ 2 wG.nd (zn H__law_take (hr.mono (by decide)) zB (by rfl) (aN (zb 0) (aQ (zN ju (by rfl) T.len_ wP (aN (zb 1) zd) (he:=(zx ..))) zd)))) (zh (yQ 3 wG.nd (jl (wd (aU (ud zm) (aK z9v (aK zbp (aK xp (aT (ww (aK zm zd)) (aK z9v (aL (wd (aK zm zd)) zd)))))))) (zn H__law_take (hr.mono (by decide)) zB (by rfl) (aN (zb 0) (aK zm zd))))) (zh (yQ 4 wG.nd (wd (aB (zH xh (zH xh (xm (zb 1) wS (xA (zb 2))) (ww (aN (zb 3) zd))) (xm (zb 1) (xA (zH xh (zb 2) zm)) wS)) (aB (zH zgT (ww (aK zm zd)) (zN ju (by rfl) T.len_ wP (aN (zb 1) zd) (he:=(zx ..)))) (aQ (xT zgA (by rfl) T.list_ zaQ (aN (zb 1) zd) (he:=(zx ..))) (aS (xm (zH xh (zH xh (zb 1) (zb 1)) (zb 1)) wS (xA zm)) (aS (xm (zb 1) wS (xA zm)) (aT (ww zd) (aK zbp zd))))))))) (zp (yc (jl (zH xh (zb 4) (wd (aK zm (aK xp (vE zi1 (aT (ww (aN (zb 1) zd)) zd) (by rfl)))))) (zn H__law_take (hr.mono (by decide)) zB (by rfl) (aN (zb 0) (aK zm zd))))))))))
theorem z1n (F:Fun K "_law_no_rule" "_law_no_rule" vF f fd) (hm:mg "_law_no_rule"=some (.ref f)) (H__law_take:Has P w K mg base CX0 "_law_take" 1 Pg.zq) (H__law_rules:Has P w K mg base CX0 "_law_rules" 1 Pg.yk):Has P w K mg base CX0 "_law_no_rule" 2 yx:= (zM F hm (F.binds (ps:=["_law_pot_here"]) (by trivial)) xq rfl fun cdv A outer s H E hr hc=> have hu:=hr.units;(zh (yQ 1 xq.nd (jl (zac H__law_rules (hr.mono (by decide)) zB (by rfl)) (zn H__law_take (hr.mono (by decide)) zB (by rfl) (aN (zb 0) (aK zm zd))))) (zh (yQ 2 xq.nd (zn H__law_take (hr.mono (by decide)) zB (by rfl) (aN (zb 0) (aQ (zN ziH (by rfl) T.len_ wP (aN (zb 1) zd) (he:=(zx ..))) zd)))) (zh (yQ 3 xq.nd (zjZ xp (zn H__law_take (hr.mono (by decide)) zB (by rfl) (aN (zb 0) (aK zm zd))))) (zh (yQ 4 xq.nd (wd (aB (zH z8e (z8J (zb 1) (xA (zb 2))) (z8g (zb 1) (xA (zH xh (zb 2) zm)))) (aB (zH z8e (zH z8e (z8J (zb 1) (xA (zb 2))) (zb 3)) (z8g (zb 1) (xA (zb 2)))) (aQ (zg5 (zb 1)) (aB (zH z8e (zb 1) xp) (aK xp (aK zbp (aK zm zd))))))))) (zp (yc (jl (zH xh (zb 4) (wd (aT (ww (aN (zb 1) zd)) (aL (wd (aN (zb 1) zd)) (aK z9v (vE zi1 zd (by rfl))))))) (zn H__law_take (hr.mono (by decide)) zB (by rfl) (aN (zb 0) (aK zm zd)))))))))))
theorem z9L (F:Fun K "is_lot" "is_lot" z31 f fd) (hm:mg "is_lot"=some (.ref f)) (H_has_size:Has P w K mg base CX0 "has_size" 1 Pg.yb) (H_are_wholes:Has P w K mg base CX0 "are_wholes" 2 Pg.zX):Has P w K mg base CX0 "is_lot" 3 Pg.yh:= (zM F hm (F.binds (ps:=["thing"]) (by trivial)) za8 rfl fun cdv A outer s H E hr hc=> have hu:=hr.units;(zh (z0J (RW.rt (ziD (kB (kL (zn H_has_size (hr.mono (by decide)) zB (by rfl) (aN (zb 0) zd)))) (zbX (kB (kL (zn H_are_wholes (hr.mono (by decide)) zB (by rfl) (aN (zb 0) (aQ (zN ju (by rfl) T.len_ wP (aN (zb 0) zd) (he:=(zx ..))) zd)))))))) (zp (yc z9v)) yV) (zp (yc (zbi (z6W zkI (zN (zdZ (by exact hc)) (by rfl) T.min_ z8T (aN (zb 0) zd) (he:=(zx ..))) zm) (zao (z6W zkM (zN (z47 (by exact hc)) (by rfl) T.max_ z2y (aN (zb 0) zd) (he:=(zx ..))) zm)))))))
theorem z6N (F:Fun K "is_table" "is_table" kg f fd) (hm:mg "is_table"=some (.ref f)) (H_has_size:Has P w K mg base CX0 "has_size" 1 Pg.yb) (H_are_wholes:Has P w K mg base CX0 "are_wholes" 2 Pg.zX):Has P w K mg base CX0 "is_table" 3 Pg.wD:= (zM F hm (F.binds (ps:=["thing"]) (by trivial)) z7M rfl fun cdv A outer s H E hr hc=> have hu:=hr.units;(zh (z0J (kB (kL (zn H_has_size (hr.mono (by decide)) zB (by rfl) (aN (zb 0) zd)))) (zp (yc z9v)) yV) (zp (yc (zN (zhn (by exact hc)) (by rfl) T.all_ zdS (aO (yD ["thing","line"] [some 0,none] (by exact hc) (uU (zb 0)) (fun _ _ _=>yq (i:=1) zjT (by rfl) (by first | exact Or.inl rfl | exact Or.inr rfl)) (yn 1 (by rfl)) (fun _ _ _=>yG) (fun _ _ _=>(zn H_are_wholes (hr.mono (by decide)) zB (by rfl) (aN (zb 1) (aQ (zN ju (by rfl) T.len_ wP (aN (zb 0) zd) (he:=(zx ..))) zd))))) zd) (he:=(zY ..)))))))
theorem z6A (F:Fun K "division" "division" ke f fd) (hm:mg "division"=some (.ref f)) (T_RULES:zfH P w K mg "RULES" wK) (H_by_next:Has P w K mg base CX0 "by_next" 2 Pg.wU) (H_by_least:Has P w K mg base CX0 "by_least" 2 Pg.xW) (H_by_all:Has P w K mg base CX0 "by_all" 2 Pg.uh) (H_by_turn:Has P w K mg base CX0 "by_turn" 2 Pg.wR):Has P w K mg base CX0 "division" 3 Pg.xi:= (zM F hm (F.binds (ps:=["rule","lot"]) (by trivial)) kf rfl fun cdv A outer s H E hr hc=> have hu:=hr.units;(zh (yQ 2 kf.nd (zjx T_RULES (by rfl) (zb 0) (fun _ _=>rfl))) (zh (z83 (zfU (n:=2) 2 (wV (Has.mono H_by_next (by decide)) (wV (Has.mono H_by_least (by decide)) (wV (Has.mono H_by_all (by decide)) (wV (Has.mono H_by_turn (by decide)) z8h)))) (hr.mono (by decide)) zB (aN (zb 1) zd) (he:=(zx ..))) (z0W 3 4 hc kf.nd)) (zp (yc (ww (aN (zb 3) (aO (yD ["divided","lot","by","at"] [some 4,some 1,some 3,none] (by exact hc) (z0L (by rfl) T.range_ (aQ (zN ju (by rfl) T.len_ wP (aN (zb 1) zd) (he:=(zx ..))) zd)) (fun _ _ _=>yq (i:=3) zj7 (by rfl) (by first | exact Or.inl rfl | exact Or.inr rfl)) (yn 3 (by rfl)) (fun _ _ _=>yG) (fun _ _ _=>(ziX (xo zlE (zb 3) (zb 0)) (zH zdU (jl (zb 1) (zb 3)) (jl (zb 1) (zb 2))) zm))) zd))))))))
theorem z3i(F:Fun K "_law_parts" "_law_parts" qp f fd)(hm:mg "_law_parts"=some (.ref f))(H__law_take:Has P w K mg base CX0 "_law_take" 1 Pg.zq)(H__law_lot:Has P w K mg base CX0 "_law_lot" 2 Pg.wg):Has P w K mg base CX0 "_law_parts" 3 Pg.xX:= (zM F hm (F.binds (ps:=["_law_pot_here"]) (by trivial)) qw rfl fun cdv A outer s H E hr hc=> have hu:=hr.units;(zh (yQ 1 qw.nd (zn H__law_lot (hr.mono (by decide)) zB (by rfl) (aN (zb 0) (aB (zH xh zm (zn H__law_take (hr.mono (by decide)) zB (by rfl) (aN (zb 0) (aK zm zd)))) (aB (zH z4y zm zm) zd))))) (zh (z0J (xo (z9O hu) (jl (zb 1) (ud zm)) zm) (zp (yQ 1 qw.nd (zH xh (xm (zb 1) wS (xA (ud zm))) (ww (aB (zH xh zm (zn H__law_take (hr.mono (by decide)) zB (by rfl) (aN (zb 0) (aK zm zd)))) zd))))) yV) (zp (yc (zb 1))))))
theorem z5s(F:Fun K "want_lot" "want_lot" qA f fd)(hm:mg "want_lot"=some (.ref f))(E_NoLot:zc4 K mg "NoLot")(H_is_lot:Has P w K mg base CX0 "is_lot" 3 Pg.yh):Has P w K mg base (CX1 P w) "want_lot" 4 Pg.xj:= (uY F hm (F.binds (ps:=["thing"]) (by trivial)) z2f rfl fun cdv A outer s H E hr hc=> have hu:=hr.units;(zp (z0J (kB (kL (zn H_is_lot (hr.mono (by decide)) zeJ (by rfl) (aN (zb 0) zd)))) (zp (z4J E_NoLot z1M hc (by rfl))) yV)))
theorem z5W(F:Fun K "want_lot" "want_lot" qA f fd)(hm:mg "want_lot"=some (.ref f))(H_is_lot:Has P w K mg base CX0 "is_lot" 3 Pg.yh):Has P w K mg base CX0 "want_lot" 4 Pg.yp:= (zM F hm (F.binds (ps:=["thing"]) (by trivial)) z2f rfl fun cdv A outer s H E hr hc=> have hu:=hr.units;(zp (z0J (kB (kL (zn H_is_lot (hr.mono (by decide)) zB (by rfl) (aN (zb 0) zd)))) (zp kz) yV)))
theorem z3r(F:Fun K "want_table" "want_table" qh f fd)(hm:mg "want_table"=some (.ref f))(H_is_table:Has P w K mg base CX0 "is_table" 3 Pg.wD):Has P w K mg base CX0 "want_table" 4 Pg.yK:= (zM F hm (F.binds (ps:=["thing"]) (by trivial)) z5k rfl fun cdv A outer s H E hr hc=> have hu:=hr.units;(zp (z0J (kB (kL (zn H_is_table (hr.mono (by decide)) zB (by rfl) (aN (zb 0) zd)))) (zp kz) yV)))
theorem z4x (F:Fun K "has_ended" "has_ended" ji f fd) (hm:mg "has_ended"=some (.ref f)) (H_want_lot:Has P w K mg base CX0 "want_lot" 4 Pg.yp):Has P w K mg base CX0 "has_ended" 5 Pg.yz:= (zM F hm (F.binds (ps:=["lot"]) (by trivial)) z6P rfl fun cdv A outer s H E hr hc=> have hu:=hr.units;(zh (xg (zn H_want_lot (hr.mono (by decide)) zB (by rfl) (aN (zb 0) zd))) (zp (yc (z6W (z9O hu) (zN ju (by rfl) T.len_ wP (aO (yD ["number"] [none] (by exact hc) (uU (zb 0)) (fun _ _ _=>yq (i:=0) zhC (by rfl) (by first | exact Or.inl rfl | exact Or.inr rfl)) (yn 0 (by rfl)) (fun _ _ _=>z7B (xo (zcj hu) (zb 0) zm)) (fun _ _ _=>(zb 0))) zd) (he:=(zY ..))) zm)))))
theorem z3j (F:Fun K "multiplied" "multiplied" qd f fd) (hm:mg "multiplied"=some (.ref f)) (H_columns_of:Has P w K mg base CX0 "columns_of" 1 Pg.zR) (H_lines_times:Has P w K mg base CX0 "lines_times" 2 Pg.yL) (H_want_table:Has P w K mg base CX0 "want_table" 4 Pg.yK):Has P w K mg base CX0 "multiplied" 5 Pg.xu:= (zM F hm (F.binds (ps:=["one","other"]) (by trivial)) z4r rfl fun cdv A outer s H E hr hc=> have hu:=hr.units;(zh (xg (zn H_want_table (hr.mono (by decide)) zB (by rfl) (aN (zb 0) zd))) (zh (xg (zn H_want_table (hr.mono (by decide)) zB (by rfl) (aN (zb 1) zd))) (zh (z0J (xo (zcj hu) (zN ju (by rfl) T.len_ wP (aN (zb 0) zd) (he:=(zx ..))) (zN ju (by rfl) T.len_ wP (aN (zb 1) zd) (he:=(zx ..)))) (zp kz) yV) (zp (yc (zn H_columns_of (hr.mono (by decide)) zB (by rfl) (aQ (xT wC (by rfl) T.tuple_ yX (aO (yD ["one","column"] [some 0,none] (by exact hc) (uU (zn H_columns_of (hr.mono (by decide)) zB (by rfl) (aN (zb 1) zd))) (fun _ _ _=>yq (i:=1) zlH (by rfl) (by first | exact Or.inl rfl | exact Or.inr rfl)) (yn 1 (by rfl)) (fun _ _ _=>yG) (fun _ _ _=>(zn H_lines_times (hr.mono (by decide)) zB (by rfl) (aN (zb 0) (aN (zb 1) zd))))) zd) (he:=(zY ..))) zd) (he:=(uJ ..)))))))))
theorem qO(F:Fun K "want_rule_and_lot" "want_rule_and_lot" xN f fd)(hm:mg "want_rule_and_lot"=some (.ref f))(H_want_rule:Has P w K mg base CX0 "want_rule" 2 Pg.xf)(H_want_lot:Has P w K mg base CX0 "want_lot" 4 Pg.yp):Has P w K mg base CX0 "want_rule_and_lot" 5 Pg.zC:= (zM F hm (F.binds (ps:=["rule","lot"]) (by trivial)) jw rfl fun cdv A outer s H E hr hc=> have hu:=hr.units;(zh (xg (zn H_want_rule (hr.mono (by decide)) zB (by rfl) (aN (zb 0) zd))) (zp (xg (zn H_want_lot (hr.mono (by decide)) zB (by rfl) (aN (zb 1) zd))))))
theorem z1r(F:Fun K "want_bottom" "want_bottom" wJ f fd)(hm:mg "want_bottom"=some (.ref f))(E_NoBottom:zc4 K mg "NoBottom")(HX_want_lot:Has P w K mg base (CX1 P w) "want_lot" 4 Pg.xj):Has P w K mg base (CX1 P w) "want_bottom" 5 Pg.zy:= (uY F hm (F.binds (ps:=["lot"]) (by trivial)) jJ rfl fun cdv A outer s H E hr hc=> have hu:=hr.units;(zh (xg (zn HX_want_lot (hr.mono (by decide)) z3C (by rfl) (aN (zb 0) zd))) (zp (z0J (xo (z9O hu) (jl (zb 0) (ud zm)) zm) (zp (z4J E_NoBottom z1M hc (by rfl))) yV))))
theorem z1U(F:Fun K "want_bottom" "want_bottom" wJ f fd)(hm:mg "want_bottom"=some (.ref f))(H_want_lot:Has P w K mg base CX0 "want_lot" 4 Pg.yp):Has P w K mg base CX0 "want_bottom" 5 Pg.zO:= (zM F hm (F.binds (ps:=["lot"]) (by trivial)) jJ rfl fun cdv A outer s H E hr hc=> have hu:=hr.units;(zh (xg (zn H_want_lot (hr.mono (by decide)) zB (by rfl) (aN (zb 0) zd))) (zp (z0J (xo (z9O hu) (jl (zb 0) (ud zm)) zm) (zp kz) yV))))
theorem jq (F:Fun K "growing_products" "growing_products" xV f fd) (hm:mg "growing_products"=some (.ref f)) (H_like_places:Has P w K mg base CX0 "like_places" 1 Pg.yt) (H_multiplied:Has P w K mg base CX0 "multiplied" 5 Pg.xu):Has P w K mg base CX0 "growing_products" 6 Pg.ya:= (zM F hm (F.binds (ps:=["size","tables"]) (by trivial)) xS rfl fun cdv A outer s H E hr hc=> have hu:=hr.units;(zh (yQ 2 xS.nd (z9H (aQ (zn H_like_places (hr.mono (by decide)) zB (by rfl) (aN (zb 0) zd)) zd))) (zh (z7k PassesOwn.never hc (uU (zb 1)) (z4a 3 xS.nd) (zp (xg (z1E (zb 2) (zn H_multiplied (hr.mono (by decide)) zB (by rfl) (aS (jl (zb 2) (ud zm)) (aN (zb 3) zd)) (he:=(z5h ..))))))) (zp (yc (zb 2))))))
theorem z4w(F:Fun K "want_step" "want_step" jh f fd)(hm:mg "want_step"=some (.ref f))(H_has_ended:Has P w K mg base CX0 "has_ended" 5 Pg.yz)(H_want_rule_and_lot:Has P w K mg base CX0 "want_rule_and_lot" 5 Pg.zC):Has P w K mg base CX0 "want_step" 6 Pg.yM:= (zM F hm (F.binds (ps:=["rule","lot"]) (by trivial)) z6n rfl fun cdv A outer s H E hr hc=> have hu:=hr.units;(zh (xg (zn H_want_rule_and_lot (hr.mono (by decide)) zB (by rfl) (aN (zb 0) (aN (zb 1) zd)))) (zp (z0J (kL (zn H_has_ended (hr.mono (by decide)) zB (by rfl) (aN (zb 1) zd))) (zp kz) yV))))
theorem zaZ (F:Fun K "tops" "tops" z5r f fd) (hm:mg "tops"=some (.ref f)) (H_nearest_whole:Has P w K mg base CX0 "nearest_whole" 1 Pg.yj) (HX_want_number:Has P w K mg base (CX1 P w) "want_number" 2 Pg.zI) (HX_want_bottom:Has P w K mg base (CX1 P w) "want_bottom" 5 Pg.zy):Has P w K mg base (CX1 P w) "tops" 6 Pg.X_tops:= (uY F hm (F.binds (ps:=["lot","bottom"]) (by trivial)) zaD rfl fun cdv A outer s H E hr hc=> have hu:=hr.units;(zh (xg (zn HX_want_bottom (hr.mono (by decide)) z3C (by rfl) (aN (zb 0) zd))) (zh (xg (zn HX_want_number (hr.mono (by decide)) z3C (by rfl) (aN (zb 1) (aK zm (aN (zgv (by rfl) T.MOST_BOTTOM_) zd))))) (zp (z2r (yc (xT wC (by rfl) T.tuple_ yX (aO (yD ["bottom","lot","part"] [some 1,some 0,none] (by exact hc) (uU (xm (zb 0) wS (xA (ud zm)))) (fun _ _ _=>yq (i:=2) zkL (by rfl) (by first | exact Or.inl rfl | exact Or.inr rfl)) (yn 2 (by rfl)) (fun _ _ _=>yG) (fun _ _ _=>(zn H_nearest_whole (hr.mono (by decide)) zB (by rfl) (aB (zH uo (zb 0) (zb 2)) (aS (jl (zb 1) (ud zm)) zd)) (he:=(z1K ..))))) zd) (he:=(zY ..)))))))))
theorem zd0 (F:Fun K "tops" "tops" z5r f fd) (hm:mg "tops"=some (.ref f)) (H_nearest_whole:Has P w K mg base CX0 "nearest_whole" 1 Pg.yj) (H_want_number:Has P w K mg base CX0 "want_number" 2 Pg.yY) (H_want_bottom:Has P w K mg base CX0 "want_bottom" 5 Pg.zO):Has P w K mg base CX0 "tops" 6 Pg.M_tops:= (zM F hm (F.binds (ps:=["lot","bottom"]) (by trivial)) zaD rfl fun cdv A outer s H E hr hc=> have hu:=hr.units;(zh (xg (zn H_want_bottom (hr.mono (by decide)) zB (by rfl) (aN (zb 0) zd))) (zh (xg (zn H_want_number (hr.mono (by decide)) zB (by rfl) (aN (zb 1) (aK zm (aN (zgv (by rfl) T.MOST_BOTTOM_) zd))))) (zp (yc (xT wC (by rfl) T.tuple_ yX (aO (yD ["bottom","lot","part"] [some 1,some 0,none] (by exact hc) (uU (xm (zb 0) wS (xA (ud zm)))) (fun _ _ _=>yq (i:=2) zkL (by rfl) (by first | exact Or.inl rfl | exact Or.inr rfl)) (yn 2 (by rfl)) (fun _ _ _=>yG) (fun _ _ _=>(zn H_nearest_whole (hr.mono (by decide)) zB (by rfl) (aB (zH uo (zb 0) (zb 2)) (aS (jl (zb 1) (ud zm)) zd)) (he:=(z1K ..))))) zd) (he:=(zY ..))))))))
theorem zdD (F:Fun K "step" "step" z7z f fd) (hm:mg "step"=some (.ref f)) (H_moved:Has P w K mg base CX0 "moved" 1 Pg.wX) (H_division:Has P w K mg base CX0 "division" 3 Pg.xi) (H_want_step:Has P w K mg base CX0 "want_step" 6 Pg.yM):Has P w K mg base CX0 "step" 7 Pg.M_step:= (zM F hm (F.binds (ps:=["rule","lot"]) (by trivial)) z7C rfl fun cdv A outer s H E hr hc=> have hu:=hr.units;(zh (xg (zn H_want_step (hr.mono (by decide)) zB (by rfl) (aN (zb 0) (aN (zb 1) zd)))) (zh (z83 (zn H_division (hr.mono (by decide)) zB (by rfl) (aN (zb 0) (aN (zb 1) zd))) (z0W 2 3 hc z7C.nd)) (zh (yQ 4 z7C.nd (xT wC (by rfl) T.tuple_ yX (aO (yD ["lot","by","number","quotient"] [some 1,some 2,none,none] (by exact hc) (zb8 (by rfl) T.zip_ (aN (zb 1) (aN (zb 3) zd))) (fun _ _ _=>z0i 2 3 (by exact hc) zjG) (kO 2 3 (by decide) (by rfl) (by rfl)) (fun _ _ _=>yG) (fun _ _ _=>(zH zbt (zb 2) (zH uo (zb 3) (jl (zb 0) (zb 1)))))) zd) (he:=(zY ..)))) (zp (yc (zn H_moved (hr.mono (by decide)) zB (by rfl) (aN (zb 0) (aN (zb 4) zd)))))))))
theorem z3l (F:Fun K "step_table" "step_table" qk f fd) (hm:mg "step_table"=some (.ref f)) (H_like_places:Has P w K mg base CX0 "like_places" 1 Pg.yt) (H_moved:Has P w K mg base CX0 "moved" 1 Pg.wX) (H_division:Has P w K mg base CX0 "division" 3 Pg.xi) (H_want_step:Has P w K mg base CX0 "want_step" 6 Pg.yM):Has P w K mg base CX0 "step_table" 7 Pg.xB:= (zM F hm (F.binds (ps:=["rule","lot"]) (by trivial)) kY rfl fun cdv A outer s H E hr hc=> have hu:=hr.units;(zh (xg (zn H_want_step (hr.mono (by decide)) zB (by rfl) (aN (zb 0) (aN (zb 1) zd)))) (zh (z83 (zn H_division (hr.mono (by decide)) zB (by rfl) (aN (zb 0) (aN (zb 1) zd))) (z0W 2 3 hc kY.nd)) (zp (yc (xT wC (by rfl) T.tuple_ yX (aO (yD ["rule","by","line","quotient"] [some 0,some 2,none,none] (by exact hc) (zb8 (by rfl) T.zip_ (aQ (zn H_like_places (hr.mono (by decide)) zB (by rfl) (aQ (zN ju (by rfl) T.len_ wP (aN (zb 1) zd) (he:=(zx ..))) zd) (he:=(uJ ..))) (aN (zb 3) zd))) (fun _ _ _=>z0i 2 3 (by exact hc) zjC) (kO 2 3 (by decide) (by rfl) (by rfl)) (fun _ _ _=>yG) (fun _ _ _=>(zn H_moved (hr.mono (by decide)) zB (by rfl) (aN (zb 0) (aB (zH xh (zH xh (xm (zb 2) wS (xA (zb 1))) (ww (aB (zH xh (jl (zb 2) (zb 1)) (zb 3)) zd))) (xm (zb 2) (xA (zH xh (zb 1) zm)) wS)) zd))))) zd) (he:=(zY ..))))))))
theorem z7y (F:Fun K "errors" "errors" kN f fd) (hm:mg "errors"=some (.ref f)) (HX_tops:Has P w K mg base (CX1 P w) "tops" 6 Pg.X_tops):Has P w K mg base (CX1 P w) "errors" 7 Pg.xa:= (uY F hm (F.binds (ps:=["lot","bottom"]) (by trivial)) kS rfl fun cdv A outer s H E hr hc=> have hu:=hr.units;(zh (yQ 2 kS.nd (zn HX_tops (hr.mono (by decide)) z3C (by rfl) (aN (zb 0) (aN (zb 1) zd)))) (zp (z2r (yc (xT wC (by rfl) T.tuple_ yX (aO (yD ["bottom","lot","part","top"] [some 1,some 0,none,none] (by exact hc) (zb8 (by rfl) T.zip_ (aS (xm (zb 0) wS (xA (ud zm))) (aN (zb 2) zd))) (fun _ _ _=>z0i 2 3 (by exact hc) zkF) (kO 2 3 (by decide) (by rfl) (by rfl)) (fun _ _ _=>yG) (fun _ _ _=>(zH zbt (zH uo (zb 0) (zb 2)) (zH uo (zb 3) (jl (zb 1) (ud zm)))))) zd) (he:=(zY ..))))))))
theorem z9E (F:Fun K "errors" "errors" kN f fd) (hm:mg "errors"=some (.ref f)) (H_tops:Has P w K mg base CX0 "tops" 6 Pg.M_tops):Has P w K mg base CX0 "errors" 7 Pg.wL:= (zM F hm (F.binds (ps:=["lot","bottom"]) (by trivial)) kS rfl fun cdv A outer s H E hr hc=> have hu:=hr.units;(zh (yQ 2 kS.nd (zn H_tops (hr.mono (by decide)) zB (by rfl) (aN (zb 0) (aN (zb 1) zd)))) (zp (yc (xT wC (by rfl) T.tuple_ yX (aO (yD ["bottom","lot","part","top"] [some 1,some 0,none,none] (by exact hc) (zb8 (by rfl) T.zip_ (aS (xm (zb 0) wS (xA (ud zm))) (aN (zb 2) zd))) (fun _ _ _=>z0i 2 3 (by exact hc) zkF) (kO 2 3 (by decide) (by rfl) (by rfl)) (fun _ _ _=>yG) (fun _ _ _=>(zH zbt (zH uo (zb 0) (zb 2)) (zH uo (zb 3) (jl (zb 1) (ud zm)))))) zd) (he:=(zY ..)))))))
theorem zfk (F:Fun K "run" "run" zbV f fd) (hm:mg "run"=some (.ref f)) (H_has_ended:Has P w K mg base CX0 "has_ended" 5 Pg.yz) (H_want_rule_and_lot:Has P w K mg base CX0 "want_rule_and_lot" 5 Pg.zC) (H_step:Has P w K mg base CX0 "step" 7 Pg.M_step):Has P w K mg base CX0 "run" 8 Pg.M_run:= (zM F hm (F.binds (ps:=["rule","lot"]) (by trivial)) zdF rfl fun cdv A outer s H E hr hc=> have hu:=hr.units;(zh (xg (zn H_want_rule_and_lot (hr.mono (by decide)) zB (by rfl) (aN (zb 0) (aN (zb 1) zd)))) (zh (yQ 2 zdF.nd (z9H (aN (zb 1) zd))) (zh (zfB PassesOwn.never (kB (kL (zn H_has_ended (hr.mono (by decide)) zB (by rfl) (aS (jl (zb 2) (ud zm)) zd) (he:=(z5h ..))))) (zp (xg (z1E (zb 2) (zn H_step (hr.mono (by decide)) zB (by rfl) (aN (zb 0) (aS (jl (zb 2) (ud zm)) zd))))))) (zp (yc (zb 2)))))))
theorem z9t (F:Fun K "worst" "worst" z1I f fd) (hm:mg "worst"=some (.ref f)) (HX_errors:Has P w K mg base (CX1 P w) "errors" 7 Pg.xa):Has P w K mg base (CX1 P w) "worst" 8 Pg.uv:= (uY F hm (F.binds (ps:=["lot","bottom"]) (by trivial)) z87 rfl fun cdv A outer s H E hr hc=> have hu:=hr.units;(zp (yc (zN (z47 (by exact hc)) (by rfl) T.max_ z2y (aO (yD ["error"] [none] (by exact hc) (uU (zn HX_errors (hr.mono (by decide)) z3C (by rfl) (aN (zb 0) (aN (zb 1) zd)))) (fun _ _ _=>yq (i:=0) zkK (by rfl) (by first | exact Or.inl rfl | exact Or.inr rfl)) (yn 0 (by rfl)) (fun _ _ _=>yG) (fun _ _ _=>(zN zhF (by rfl) T.abs_ zdP (aN (zb 0) zd) (he:=(zx ..))))) zd) (he:=(zY ..))))))
theorem zah (F:Fun K "worst" "worst" z1I f fd) (hm:mg "worst"=some (.ref f)) (H_errors:Has P w K mg base CX0 "errors" 7 Pg.wL):Has P w K mg base CX0 "worst" 8 Pg.vf:= (zM F hm (F.binds (ps:=["lot","bottom"]) (by trivial)) z87 rfl fun cdv A outer s H E hr hc=> have hu:=hr.units;(zp (yc (zN (z47 (by exact hc)) (by rfl) T.max_ z2y (aO (yD ["error"] [none] (by exact hc) (uU (zn H_errors (hr.mono (by decide)) zB (by rfl) (aN (zb 0) (aN (zb 1) zd)))) (fun _ _ _=>yq (i:=0) zkK (by rfl) (by first | exact Or.inl rfl | exact Or.inr rfl)) (yn 0 (by rfl)) (fun _ _ _=>yG) (fun _ _ _=>(zN zhF (by rfl) T.abs_ zdP (aN (zb 0) zd) (he:=(zx ..))))) zd) (he:=(zY ..))))))
theorem z51(F:Fun K "tables_of" "tables_of" jd f fd)(hm:mg "tables_of"=some (.ref f))(H_step_table:Has P w K mg base CX0 "step_table" 7 Pg.xB)(H_run:Has P w K mg base CX0 "run" 8 Pg.M_run):Has P w K mg base CX0 "tables_of" 9 Pg.xU:= (zM F hm (F.binds (ps:=["rule","lot"]) (by trivial)) z6K rfl fun cdv A outer s H E hr hc=> have hu:=hr.units;(zp (yc (yD ["rule","ahead"] [some 0,none] (by exact hc) (uU (xm (zer (zn H_run (hr.mono (by decide)) zB (by rfl) (aN (zb 0) (aN (zb 1) zd)))) wS (xA (ud zm)))) (fun _ _ _=>yq (i:=1) zjf (by rfl) (by first | exact Or.inl rfl | exact Or.inr rfl)) (yn 1 (by rfl)) (fun _ _ _=>yG) (fun _ _ _=>(zn H_step_table (hr.mono (by decide)) zB (by rfl) (aN (zb 0) (aN (zb 1) zd))))))))
theorem z6M(F:Fun K "records" "records" z0H f fd)(hm:mg "records"=some (.ref f))(H_worst:Has P w K mg base CX0 "worst" 8 Pg.vf)(HX_want_number:Has P w K mg base (CX1 P w) "want_number" 2 Pg.zI)(HX_want_bottom:Has P w K mg base (CX1 P w) "want_bottom" 5 Pg.zy)(HX_worst:Has P w K mg base (CX1 P w) "worst" 8 Pg.uv):Has P w K mg base (CX1 P w) "records" 9 Pg.xw:= (uY F hm (F.binds (ps:=["lot","most"]) (by trivial)) jp rfl fun cdv A outer s H E hr hc=> have hu:=hr.units;(zh (xg (zn HX_want_bottom (hr.mono (by decide)) z3C (by rfl) (aN (zb 0) zd))) (zh (xg (zn HX_want_number (hr.mono (by decide)) z3C (by rfl) (aN (zb 1) (aK zm (aN (zgv (by rfl) T.MOST_RECORDS_) zd))))) (zh (yQ 2 jp.nd (z9H (aT (ww (aK zm (aQ (zn HX_worst (hr.mono (by decide)) z3C (by rfl) (aN (zb 0) (aK zm zd))) zd))) zd))) (zh (z2r (z7k PassesOwn.never hc (zcJ (by rfl) T.range_ (aK zm (aB (zH xh (zb 1) zm) zd))) (z4a 3 jp.nd) (zh (yQ 4 jp.nd (zn H_worst (hr.mono (by decide)) zB (by rfl) (aN (zb 0) (aN (zb 3) zd)))) (zp (z0J (xo zkA (zb 4) (jl (jl (zb 2) (ud zm)) zm)) (zp (xg (z1E (zb 2) (ww (aN (zb 3) (aN (zb 4) zd)))))) yV))))) (zp (z2r (yc (zb 2)))))))))
theorem z2R (F:Fun K "products_of" "products_of" ut f fd) (hm:mg "products_of"=some (.ref f)) (H_growing_products:Has P w K mg base CX0 "growing_products" 6 Pg.ya) (H_tables_of:Has P w K mg base CX0 "tables_of" 9 Pg.xU):Has P w K mg base CX0 "products_of" 10 Pg.yu:= (zM F hm (F.binds (ps:=["rule","lot"]) (by trivial)) jA rfl fun cdv A outer s H E hr hc=> have hu:=hr.units;(zh (yQ 2 jA.nd (zn H_tables_of (hr.mono (by decide)) zB (by rfl) (aN (zb 0) (aN (zb 1) zd)))) (zp (yc (zn H_growing_products (hr.mono (by decide)) zB (by rfl) (aQ (zN ju (by rfl) T.len_ wP (aN (zb 1) zd) (he:=(zx ..))) (aN (zb 2) zd)) (he:=(uJ ..)))))))
theorem z6w (F:Fun K "columns" "columns" z0z f fd) (hm:mg "columns"=some (.ref f)) (H_columns_of:Has P w K mg base CX0 "columns_of" 1 Pg.zR) (H_products_of:Has P w K mg base CX0 "products_of" 10 Pg.yu) (HX_want_rule:Has P w K mg base (CX1 P w) "want_rule" 2 Pg.yN) (HX_want_bottom:Has P w K mg base (CX1 P w) "want_bottom" 5 Pg.zy):Has P w K mg base (CX1 P w) "columns" 11 Pg.wf:= (uY F hm (F.binds (ps:=["rule","lot"]) (by trivial)) jk rfl fun cdv A outer s H E hr hc=> have hu:=hr.units;(zh (xg (zn HX_want_rule (hr.mono (by decide)) z3C (by rfl) (aN (zb 0) zd))) (zh (xg (zn HX_want_bottom (hr.mono (by decide)) z3C (by rfl) (aN (zb 1) zd))) (zh (z2r (yQ 2 jk.nd zgQ)) (zh (z2r (z7k PassesOwn.never hc (uU (xm (zer (zn H_products_of (hr.mono (by decide)) zB (by rfl) (aN (zb 0) (aN (zb 1) zd)))) (xA zm) wS)) (z4a 3 jk.nd) (zp (z7k PassesOwn.never hc (uU (zn H_columns_of (hr.mono (by decide)) zB (by rfl) (aN (zb 3) zd))) (z4a 4 jk.nd) (zp (z0J (xo (zcj hu) (jl (zb 4) (ud zm)) zm) (zp (zhM hu z9v (zb 2) (zb 4))) yV)))))) (zp (z2r (yc (xT (zce (by exact hc)) (by rfl) T.list_ zaQ (aN (zb 2) zd) (he:=(zx ..)))))))))))
theorem z5t (F:Fun K "_law_told" "_law_told" qV f fd) (hm:mg "_law_told"=some (.ref f)) (KS:∀ c∈rsX,ziN K mg c "DrawError") (H__law_kind_of:ziQ P w K mg base CX0 "_law_kind_of" 1 zS) (HX_tops:Has P w K mg base (CX1 P w) "tops" 6 Pg.X_tops) (HX_errors:Has P w K mg base (CX1 P w) "errors" 7 Pg.xa) (HX_worst:Has P w K mg base (CX1 P w) "worst" 8 Pg.uv) (HX_records:Has P w K mg base (CX1 P w) "records" 9 Pg.xw) (HX_columns:Has P w K mg base (CX1 P w) "columns" 11 Pg.wf):Has P w K mg base CX0 "_law_told" 12 zg:= (zM F hm (F.binds (ps:=["_law_way","_law_one","_law_other"]) (by trivial)) z1e rfl fun cdv A outer s H E hr hc=> have hu:=hr.units;(zh (zh0 rfl rfl rfl KS (by rfl) z1e.nd (by rfl) (by rfl) (fun pn xe E1 hp=>(zp (z0J (xo (z9O hu) (zb 0) zm) (zp (xg (zn HX_columns (hr.mono (by decide)) hp (by rfl) (aN (zb 2) (aN (zb 1) zd))))) (zp (xg (zew (n:=9) (wV (Has.mono HX_tops (by decide)) (wV (Has.mono HX_errors (by decide)) (wV (Has.mono HX_worst (by decide)) (wV (Has.mono HX_records (by decide)) z8h)))) (hr.mono (by decide)) hp (jl (wd (vE (zca HX_tops (by rfl)) (vE (zca HX_errors (by rfl)) (vE (zca HX_worst (by rfl)) (vE (zca HX_records (by rfl)) zd (zx ..)) (zx ..)) (zx ..)) (zx ..))) (zb 0)) (aN (zb 1) (aN (zb 2) zd)) (he:=(zx ..)))))))) (fun e pn=>(zp (yc (zf6 H__law_kind_of (zjw (hr.h.mono (by decide))) zB (by rfl) (aN (zb 3) zd) (he:=(zx ..))))))) (zp (yc xp)))).tidy
theorem z9D (F:Fun K "law" "law" z3R f fd) (hm:mg "law"=some (.ref f)) (H__law_cell_at:Has P w K mg base CX0 "_law_cell_at" 1 Pg.xk) (H__law_pot:Has P w K mg base CX0 "_law_pot" 1 Pg.vA) (H__law_take:Has P w K mg base CX0 "_law_take" 1 Pg.zq) (H__law_rules:Has P w K mg base CX0 "_law_rules" 1 Pg.yk) (H__law_no_lot:Has P w K mg base CX0 "_law_no_lot" 2 Pg.xH) (H__law_no_rule:Has P w K mg base CX0 "_law_no_rule" 2 yx) (H__law_parts:Has P w K mg base CX0 "_law_parts" 3 Pg.xX) (H__law_told:Has P w K mg base CX0 "_law_told" 12 zg):z4h P w K mg base CX0 13 f fd ["_law_script"] (zdw ⟨mg,K⟩ zeB):= zhl F uS rfl fun cdv A outer s H E hr hc=>by
  have hu:=hr.units;refine zh ?_ ?_
  ·refine z7k PassesOwn.never hc (z0L (by rfl) T.range_ (aQ (zN (zhN (by exact hc)) (by rfl) T.max_ z2y (aK zm (aQ (zN (zej (by exact hc)) (by rfl) T.min_ z8T (aQ (zN ju (by rfl) T.len_ wP (aN (zb 0) zd) (he:=(zx ..))) (aK zm zd)) (he:=(uJ ..))) zd)) (he:=(z44 ..))) zd)) (z4a 1 uS.nd) ?_;refine zh ?_ ?_;·exact (yQ 2 uS.nd (zn H__law_pot (hr.mono (by decide)) zB (by rfl) (aQ (zn H__law_cell_at (hr.mono (by decide)) zB (by rfl) (aN (zb 0) (aN (zb 1) zd))) zd) (he:=(uJ ..))))
   refine zh ?_ ?_;·exact (yQ 3 uS.nd (zn H__law_parts (hr.mono (by decide)) zB (by rfl) (aN (zb 2) zd)))
   refine zh ?_ ?_;·exact (zh4 4 5 hc uS.nd (aQ (zn H__law_no_lot (hr.mono (by decide)) zB (by rfl) (aN (zb 2) (aN (zb 3) zd))) (aB (zH xh (zH xh (ww (aB (zH xh zm (jl (zb 3) zm)) zd)) (xm (zb 3) (xA zm) (xA (ud zm)))) (ww (aK zm zd))) zd)))
   refine zh ?_ ?_;·exact (yQ 6 uS.nd (jl (wd (aK zm (aB (zH xh (zH z4y zm zm) zm) (aU (ud zm) (aK z9v (aK zbp (aK xp (aT (ww (aK zm zd)) (aB (zH z4y zm zm) zd))))))))) (zn H__law_take (hr.mono (by decide)) zB (by rfl) (aN (zb 2) (aK zm zd)))))
   refine zh ?_ ?_;·exact (yQ 7 uS.nd (jl (wd (aK zm (aK zm (aU (ud zm) (aK z9v (aK zbp (aK xp (aL (wd (aK zm zd)) (aB (zH z4y zm zm) zd))))))))) (zn H__law_take (hr.mono (by decide)) zB (by rfl) (aN (zb 2) (aK zm zd)))))
   refine zh ?_ ?_
   ·refine z7k PassesOwn.never hc (uU (wd (aT (ww (aK zm (aN (zb 6) zd))) (aT (ww (aK zm (aN (zb 6) zd))) (aT (ww (aK zm (aN (zb 6) zd))) (aT (ww (aK zm (aN (zb 7) zd))) zd)))))) (z0W 8 9 hc uS.nd) ?_;refine zh ?_ ?_;·exact (yQ 10 uS.nd (wd (aQ (zn H__law_told (hr.mono (by decide)) zB (by rfl) (aN (zb 8) (aN (zb 4) (aN (zb 9) zd)))) (aQ (zn H__law_told (hr.mono (by decide)) zB (by rfl) (aN (zb 8) (aN (zb 4) (aK zm zd)))) (aQ (zn H__law_told (hr.mono (by decide)) zB (by rfl) (aN (zb 8) (aN (zb 5) (aN (zb 9) zd)))) zd)))))
    refine zh ?_ ?_;·exact (yQ 10 uS.nd (zH xh (zb 10) (wd (aQ (zn H__law_told (hr.mono (by decide)) zB (by rfl) (aN (zb 8) (aN (zb 5) (aK zm zd)))) (aQ (zn H__law_told (hr.mono (by decide)) zB (by rfl) (aN (zb 8) (aN (zb 3) (aN (zb 9) zd)))) (aQ (zn H__law_told (hr.mono (by decide)) zB (by rfl) (aN (zb 8) (aN (zb 3) (aK zm zd)))) zd))))))
    refine zp ?_;refine z0J (xo (zcj hu) (zb 10) (wd (aK xp (aK xp (aK xp (aK xp (aK xp (aK xp zd)))))))) ?_ ?_
    ·refine zp ?_;exact (yc z9v)
    ·exact yV
   refine zh ?_ ?_;·exact (z83 (ww (aQ (zn H__law_no_rule (hr.mono (by decide)) zB (by rfl) (aN (zb 2) zd)) (aS (jl (zac H__law_rules (hr.mono (by decide)) zB (by rfl)) (zn H__law_take (hr.mono (by decide)) zB (by rfl) (aN (zb 2) (aK zm zd)))) zd))) (z0W 11 12 hc uS.nd))
   refine zh ?_ ?_;·exact (zgc 10 ["_law_rule","_law_one"] [some 11,none] uS.nd hc (uU (wd (aN (zb 4) (aN (zb 5) (aN (zb 3) zd))))) (fun _ _ _=>yq (i:=1) zlX (by rfl) (by first | exact Or.inl rfl | exact Or.inr rfl)) (yn 1 (by rfl)) (fun _ _ _=>yG) (fun _ _ _=>(zn H__law_told (hr.mono (by decide)) zB (by rfl) (aK zm (aN (zb 1) (aN (zb 0) zd))))))
   refine zh ?_ ?_;·exact (yQ 10 uS.nd (zH xh (zb 10) (yD ["_law_word","_law_one"] [some 12,none] (by exact hc) (uU (wd (aN (zb 4) (aN (zb 5) (aN (zb 3) zd))))) (fun _ _ _=>yq (i:=1) zlK (by rfl) (by first | exact Or.inl rfl | exact Or.inr rfl)) (yn 1 (by rfl)) (fun _ _ _=>yG) (fun _ _ _=>(zn H__law_told (hr.mono (by decide)) zB (by rfl) (aK zm (aN (zb 1) (aN (zb 0) zd))))))))
   refine zp ?_;refine z0J (xo (zcj hu) (zb 10) (zH xh (zH zgM (wd (aK xp zd)) zm) (wd (aK xp (aK xp (aK xp zd)))))) ?_ ?_
   ·refine zp ?_;exact (yc z9v)
   ·exact yV
  refine zp ?_;exact (yc (zbi (z6W (z9O hu) (zn H__law_told (hr.mono (by decide)) zB (by rfl) (aK zm (aT (ww (aK zm (aK zm zd))) (aB (zH z4y zm zm) zd)))) xp) (zao (z6W (z9O hu) (zn H__law_told (hr.mono (by decide)) zB (by rfl) (aK zm (aT (ww (aK zm (aK zm zd))) (aK zm zd)))) xp))))
end
end K44
set_option maxRecDepth 1000000
set_option maxHeartbeats 4000000
namespace Pm
abbrev Tb:=List (List Int)
def dot(r v:List Int):Int:=(List.zipWith (fun a b=>a*b) r v).sum
def mv(T:Tb)(v:List Int):List Int:=T.map fun r=>dot r v
def yf(T:Tb):Tb:=(List.range T.length).map fun j=>T.map fun r=>r.getD j 0
def z1R(A B:Tb):Tb:=yf ((yf B).map (mv A))
def zkS(T:Tb)(i j:Nat):Tb:=(T.take i++T.drop (i+1)).map fun r=>r.take j++r.drop (j+1)
def sg(i j:Nat):Int:=if (i+j) % 2=0 then 1 else -1
def det:Nat->Tb->Int
 | 0,_=>0 | k+1,T=>if T.length=1 then (T.getD 0 []).getD 0 0 else ((List.range T.length).map fun j=>sg 0 j*(T.getD 0 []).getD j 0*det k (zkS T 0 j)).sum
def ziJ(T:Tb):Tb:=(List.range T.length).map fun i=>(List.range T.length).map fun j=>det 4 T*sg i j*det 4 (zkS T j i)
def one(n:Nat):Tb:=(List.range n).map fun i=>(List.range n).map fun j=>if i=j then 1 else 0
structure Tab(n:Nat)(T:Tb):Prop where
 len:T.length=n
 row:∀ r∈T,r.length=n
theorem z7W{α:Type}{l:List α}(h:l.length=2):∃ a b,l=[a,b]:=by match l,h with | [a,b],_=>exact ⟨a,b,rfl⟩
theorem z6Z{α:Type}{l:List α}(h:l.length=3):∃ a b c,l=[a,b,c]:=by match l,h with | [a,b,c],_=>exact ⟨a,b,c,rfl⟩
theorem z4X{α:Type}{l:List α}(h:l.length=4):∃ a b c d,l=[a,b,c,d]:=by match l,h with | [a,b,c,d],_=>exact ⟨a,b,c,d,rfl⟩
theorem zfq{T:Tb}(h:Tab 2 T):∃ a b c d,T=[[a,b],[c,d]]:=by
 obtain ⟨r,q,rfl⟩:=z7W h.len;obtain ⟨a,b,rfl⟩:=z7W (h.row r (by simp));obtain ⟨c,d,rfl⟩:=z7W (h.row q (by simp));exact ⟨a,b,c,d,rfl⟩
theorem zeP{T:Tb}(h:Tab 3 T):∃ a b c d e f g i j,T=[[a,b,c],[d,e,f],[g,i,j]]:=by
 obtain ⟨r,q,p,rfl⟩:=z6Z h.len;obtain ⟨a,b,c,rfl⟩:=z6Z (h.row r (by simp));obtain ⟨d,e,f,rfl⟩:=z6Z (h.row q (by simp));obtain ⟨g,i,j,rfl⟩:=z6Z (h.row p (by simp));exact ⟨a,b,c,d,e,f,g,i,j,rfl⟩
theorem zfX{T:Tb}(h:Tab 4 T):∃ a b c d e f g i j k l m n o p q,T=[[a,b,c,d],[e,f,g,i],[j,k,l,m],[n,o,p,q]]:=by
 obtain ⟨r1,r2,r3,r4,rfl⟩:=z4X h.len;obtain ⟨a,b,c,d,rfl⟩:=z4X (h.row r1 (by simp));obtain ⟨e,f,g,i,rfl⟩:=z4X (h.row r2 (by simp));obtain ⟨j,k,l,m,rfl⟩:=z4X (h.row r3 (by simp));obtain ⟨n,o,p,q,rfl⟩:=z4X (h.row r4 (by simp));exact ⟨a,b,c,d,e,f,g,i,j,k,l,m,n,o,p,q,rfl⟩
theorem zfM(a b c d A B C D:Int):z1R [[a,b],[c,d]] [[A,B],[C,D]]=[[a*A+(b*C+0),a*B+(b*D+0)],[c*A+(d*C+0),c*B+(d*D+0)]]:=rfl
theorem zg2(a b c d e f g i j A B C D E F G I J:Int):z1R [[a,b,c],[d,e,f],[g,i,j]] [[A,B,C],[D,E,F],[G,I,J]]= [[a*A+(b*D+(c*G+0)),a*B+(b*E+(c*I+0)),a*C+(b*F+(c*J+0))],[d*A+(e*D+(f*G+0)),d*B+(e*E+(f*I+0)),d*C+(e*F+(f*J+0))],[g*A+(i*D+(j*G+0)),g*B+(i*E+(j*I+0)),g*C+(i*F+(j*J+0))]]:=rfl
theorem zg3(a b c d e f g i j k l m n o p q A B C D E F G I J K L M N Oo P Q:Int):z1R [[a,b,c,d],[e,f,g,i],[j,k,l,m],[n,o,p,q]] [[A,B,C,D],[E,F,G,I],[J,K,L,M],[N,Oo,P,Q]]= [[a*A+(b*E+(c*J+(d*N+0))),a*B+(b*F+(c*K+(d*Oo+0))),a*C+(b*G+(c*L+(d*P+0))),a*D+(b*I+(c*M+(d*Q+0)))], [e*A+(f*E+(g*J+(i*N+0))),e*B+(f*F+(g*K+(i*Oo+0))),e*C+(f*G+(g*L+(i*P+0))),e*D+(f*I+(g*M+(i*Q+0)))], [j*A+(k*E+(l*J+(m*N+0))),j*B+(k*F+(l*K+(m*Oo+0))),j*C+(k*G+(l*L+(m*P+0))),j*D+(k*I+(l*M+(m*Q+0)))], [n*A+(o*E+(p*J+(q*N+0))),n*B+(o*F+(p*K+(q*Oo+0))),n*C+(o*G+(p*L+(q*P+0))),n*D+(o*I+(p*M+(q*Q+0)))]]:=rfl
def d2(a b c d:Int):Int:=a*d-b*c
def d3(a b c d e f g h i:Int):Int:=a*d2 e f h i-b*d2 d f g i+c*d2 d e g h
def d4(a b c d e f g h i j k l m n o p:Int):Int:=a*d3 f g h j k l n o p-b*d3 e g h i k l m o p+c*d3 e f h i j l m n p-d*d3 e f g i j k m n o
theorem assoc{n:Nat}{A B C:Tb}(hn:n=2\/n=3\/n=4)(ha:Tab n A)(hb:Tab n B)(hc:Tab n C):z1R (z1R A B) C=z1R A (z1R B C):=by
 rcases hn with rfl | rfl | rfl
 ·obtain ⟨a,b,c,d,rfl⟩:=zfq ha;obtain ⟨e,f,g,h,rfl⟩:=zfq hb;obtain ⟨i,j,k,l,rfl⟩:=zfq hc;simp only [zfM,List.cons.injEq,and_true];and_intros<;>grind
 ·obtain ⟨a1,a2,a3,a4,a5,a6,a7,a8,a9,rfl⟩:=zeP ha;obtain ⟨b1,b2,b3,b4,b5,b6,b7,b8,b9,rfl⟩:=zeP hb;obtain ⟨c1,c2,c3,c4,c5,c6,c7,c8,c9,rfl⟩:=zeP hc;simp only [zg2,List.cons.injEq,and_true];and_intros<;>grind
 ·obtain ⟨a1,a2,a3,a4,a5,a6,a7,a8,a9,a10,a11,a12,a13,a14,a15,a16,rfl⟩:=zfX ha;obtain ⟨b1,b2,b3,b4,b5,b6,b7,b8,b9,b10,b11,b12,b13,b14,b15,b16,rfl⟩:=zfX hb;obtain ⟨c1,c2,c3,c4,c5,c6,c7,c8,c9,c10,c11,c12,c13,c14,c15,c16,rfl⟩:=zfX hc;simp only [zg3,List.cons.injEq,and_true];and_intros<;>grind
end Pm
set_option maxRecDepth 1000000
set_option maxHeartbeats 40000000
namespace Pm
theorem zkU:one 2=[[1,0],[0,1]]:=rfl
theorem zkX:one 3=[[1,0,0],[0,1,0],[0,0,1]]:=rfl
theorem zkW:one 4=[[1,0,0,0],[0,1,0,0],[0,0,1,0],[0,0,0,1]]:=rfl
theorem zcD{n:Nat}{A:Tb}(hn:n=2\/n=3\/n=4)(ha:Tab n A):z1R (one n) A=A/\z1R A (one n)=A:=by
 rcases hn with rfl | rfl | rfl
 ·obtain ⟨a,b,c,d,rfl⟩:=zfq ha;rw [zkU,zfM,zfM];simp
 ·obtain ⟨a1,a2,a3,a4,a5,a6,a7,a8,a9,rfl⟩:=zeP ha;rw [zkX,zg2,zg2];simp
 ·obtain ⟨a1,a2,a3,a4,a5,a6,a7,a8,a9,a10,a11,a12,a13,a14,a15,a16,rfl⟩:=zfX ha;rw [zkW,zg3,zg3];simp
theorem zhI{n:Nat}{v:List Int}(hn:n=2\/n=3\/n=4)(hv:v.length=n):mv (one n) v=v:=by
 rcases hn with rfl | rfl | rfl
 ·obtain ⟨x,y,rfl⟩:=z7W hv;rw [zkU];simp [mv,dot]
 ·obtain ⟨x,y,z,rfl⟩:=z6Z hv;rw [zkX];simp [mv,dot]
 ·obtain ⟨x,y,z,u,rfl⟩:=z4X hv;rw [zkW];simp [mv,dot]
end Pm
set_option maxRecDepth 1000000
set_option maxHeartbeats 40000000
namespace Pm
abbrev Sz(n:Nat):Prop:=n=2\/n=3\/n=4
theorem z8H{n:Nat}{A B:Tb}(ha:Tab n A)(hb:Tab n B):Tab n (z1R A B):=by
 have l1:(yf B).length=n:=by simp [yf,hb.len]
 refine ⟨by simp [z1R,yf,hb.len],fun r hr=>?_⟩;simp only [z1R] at hr;rw [yf] at hr;obtain ⟨j,_,rfl⟩:=List.mem_map.mp hr;simp [l1]
theorem z7D(n:Nat):Tab n (one n):=by
 refine ⟨by simp [one],fun r hr=>?_⟩;simp only [one] at hr;obtain ⟨j,_,rfl⟩:=List.mem_map.mp hr;simp
def zjB(A:Tb):Prop:=det 4 A=1\/det 4 A=-1
def Bd(m:Nat)(T:Tb):Prop:=∀ r∈T,∀ x∈r,x.natAbs<2 ^ m
theorem zero_lt_two(m:Nat):(0:Int).natAbs<2 ^ m:=Nat.two_pow_pos _
theorem zfE{m:Nat}{r:List Int}(hr:∀ x∈r,x.natAbs<2 ^ m)(j:Nat):(r.getD j 0).natAbs<2 ^ m:=by
 by_cases h:j<r.length
 ·rw [List.getD,List.getElem?_eq_getElem h];exact hr _ (List.getElem_mem _)
 ·rw [List.getD,List.getElem?_eq_none (by omega)];exact zero_lt_two m
theorem zfc{m:Nat}{T:Tb}(h:Bd m T):Bd m (yf T):=fun r hr x hx=>by
 simp only [yf] at hr;obtain ⟨j,_,rfl⟩:=List.mem_map.mp hr;obtain ⟨q,hq,rfl⟩:=List.mem_map.mp hx;exact zfE (h q hq) j
theorem Tab.le{n:Nat}{T:Tb}(h:Tab n T)(hn:Sz n):∀ r∈T,r.length<=4:=fun r hr=>by rw [h.row r hr];omega
end Pm
namespace Pg
open PySem.Spec L2 Dd Pm
abbrev iL(ns:List Int):List D:=ns.map D.int
theorem zkH{i:Int}{m:Nat}(h:i.natAbs<2 ^ m)(hm:m<=2000):i.natAbs<BIG:=Nat.lt_of_lt_of_le h (Nat.pow_le_pow_right (by decide) (by omega))
theorem ze6{a b:Int}{m k:Nat}(s:Sto)(ha:a.natAbs<2 ^ m)(hm:m<=2000)(hb:b.natAbs<2 ^ k)(hk:k<=2000):xP (.int a) (.int b) s=.ok (.int (a*b)) s:=by rw [z4f,if_pos ⟨zkH ha hm,zkH hb hk⟩]
theorem z8L{a b:Int}(s:Sto)(hb:0<b):zap (.int a) (.int b) s=.ok (.int (a % b)) s:=by rw [zgU,if_pos hb]
theorem z8B{xs:List D}(s:Sto)(h:∀ x∈xs,x=.bl true):zdM [.lst xs] s=.ok (.bl true) s:=by
 have e:xs=(xs.map fun _=>true).map D.bl:=by
  rw [List.map_map];conv=>lhs;rw [<- List.map_id xs]
  exact List.map_congr_left fun x hx=>h x hx
 have b:bools xs=some (xs.map fun _=>true):=by
  conv=>lhs;rw [e]
  exact z2Q _
 simp [zdM,zL,b]
theorem z67{ns:List Int}(s:Sto)(h:ns≠[]):vx [.tup (iL ns)] s=.ok (.int (maxL ns)) s:=by cases ns with
 | nil=>exact absurd rfl h | cons n ns=>simp only [vx,zL,Option.bind_some,wB]
theorem ze2{ns:List Int}(s:Sto)(h:ns≠[]):z3m [.tup (iL ns)] s=.ok (.int (minL ns)) s:=by cases ns with
 | nil=>exact absurd rfl h | cons n ns=>simp only [z3m,zL,Option.bind_some,wB]
theorem zhX{ns:List Int}(s:Sto)(h:ns≠[]):vx [.lst (iL ns)] s=.ok (.int (maxL ns)) s:=by cases ns with
 | nil=>exact absurd rfl h | cons n ns=>simp only [vx,zL,Option.bind_some,wB]
theorem zcd{ns:List Int}{l:Nat}{s:Sto}(h:ns≠[])(e:s[l]? = some (iL ns)):vx [.loc l] s=.ok (.int (maxL ns)) s:=by cases ns with
 | nil=>exact absurd rfl h | cons n ns=>simp only [vx,zL,e,Option.bind_some,wB]
theorem z5g(ps:List Int)(q:Int)(s:Sto):dIx (.tup (iL (ps++[q]))) (.int (-1)) s=.ok (.int q) s:=by
 have e:ixN (iL (ps++[q])).length (-1)=some ps.length:=by
  unfold ixN;rw [if_neg (by omega),if_pos (by simp;omega)];congr 1;simp;omega
 simp only [dIx,zL,atI,e,Option.bind_some];simp
theorem z7s(ps:List Int)(q:Int)(s:Sto):dSl (.tup (iL (ps++[q]))) none (some (-1)) s=.ok (.tup (iL ps)) s:=by
 have e:Dd.cutD (iL (ps++[q])) none (some (-1))=iL ps:=by
  have e1:HT.sIx (iL (ps++[q])).length (iL (ps++[q])).length (some (-1))=ps.length:=by
   unfold HT.sIx;simp only;rw [if_pos (by omega)];simp;omega
  unfold Dd.cutD;rw [e1];simp [HT.sIx]
 simp only [dSl,e]
theorem z3K(i:Int)(s:Sto):yy [.int i] s=.ok (.bl true) s:=by simp [yy,Mof,kb,zr,gIs,tyD,isT]
theorem z0r(xs:List D)(s:Sto)(h:2<=xs.length/\xs.length<=4):yb [.tup xs] s=.ok (.bl true) s:=by
 have h1:(2:Int)<=xs.length:=by omega
 have h2:(xs.length:Int)<=4:=by omega
 simp [yb,Mof,vH,zr,gIs,tyD,isT,xK,zL,h1,h2]
theorem z13 (ns:List Int) (s:Sto) (h:ns.length<=1000):zX [.tup (iL ns),.int ns.length] s=.ok (.bl true) s:=by
 simp [zX,Mof,qc,zr,gIs,tyD,isT,xK,zL];rw [z5H (fun _=>D.bl true) (iL ns) [] (by intro x hx;obtain ⟨n,_,rfl⟩:=List.mem_map.mp hx;simp [z3K]) (by simp [cap];omega)];simp only [R.bind_ok,List.nil_append];rw [z8B s (by intro x hx;obtain ⟨_,_,rfl⟩:=List.mem_map.mp hx;rfl)];simp
theorem qb{α:Type}{all:List D}{s:Sto}{body:D->Sto->R (Option D)}(g f:α->D):∀ (l:List α)(acc:List D),(∀ a∈l,body (g a) s=.ok (some (f a)) s)->acc.length+l.length<=cap->qg [] all body (l.map g) acc s=.ok (acc++l.map f) s
 | [],acc,_,_=>by simp [qg,okG] | x::xs,acc,hb,hl=>by
  have ih:=qb (all:=all) g f xs (acc++[f x]) (fun y hy=>hb y (by simp [hy])) (by simp at hl ⊢;omega);have hc:acc.length<cap:=by simp at hl;omega
  rw [List.map_cons,qg];simp [okG,hb x (by simp),hc,ih]
theorem zi7(ns:List Int)(s:Sto):zhH [.lst (iL ns)] s=.ok (.int ns.sum) s:=by simp only [zhH,zL,Option.bind_some,wB]
theorem zw:∀ (r v:List Int),List.zipWith (fun a b=>a*b) r v=(List.zip r v).map fun p=>p.1*p.2
 | [],_=>by simp | _::_,[]=>by simp | a::r,b::v=>by simp [zw r v]
theorem z4o:∀ (r v:List Int),z4c (iL r) (iL v)=(List.zip r v).map fun p=>D.tup [.int p.1,.int p.2]
 | [],_=>by simp [z4c] | _::_,[]=>by simp [z4c] | a::r,b::v=>by
  have:=z4o r v;simp only [iL] at this;simp [z4c,this]
theorem z97{r v:List Int}{m k:Nat}(s:Sto)(hr:∀ x∈r,x.natAbs<2 ^ m)(hv:∀ x∈v,x.natAbs<2 ^ k)(hm:m<=2000)(hk:k<=2000)(hl:r.length<=4):uD [.tup (iL r),.tup (iL v)] s=.ok (.int (dot r v)) s:=by
 have ez:=z4o r v;simp only [iL] at ez;simp [uD,Mof,z2U,zr,z9U,ez,-List.map_map];rw [qb _ (fun p:Int×Int=>D.int (p.1*p.2)) _ [] (by
  intro p hp;have h1:=hr p.1 (List.of_mem_zip hp).1;have h2:=hv p.2 (List.of_mem_zip hp).2;simp [ze6 s h1 hm h2 hk]) (by simp [cap];omega)];simp only [R.bind_ok,List.nil_append];have e:(List.zip r v).map (fun p:Int×Int=>D.int (p.1*p.2))=iL ((List.zip r v).map fun p=>p.1*p.2):=by simp [Function.comp_def]
 rw [e,zi7];simp [dot,zw]
abbrev rD(r:List Int):D:=.tup (iL r)
abbrev tD(T:Tb):D:=.tup (T.map rD)
theorem z4U{T:Tb}{v:List Int}{m k:Nat}(s:Sto)(h:Bd m T)(hv:∀ x∈v,x.natAbs<2 ^ k)(hm:m<=2000)(hk:k<=2000)(hl:∀ r∈T,r.length<=4)(hT:T.length<=4):yL [tD T,.tup (iL v)] s=.ok (.tup (iL (mv T v))) s:=by
 simp only [yL,Mof,jx,zr,tD];simp [-List.map_map];rw [qb rD (fun r=>D.int (dot r v)) T [] (by
  intro r hr;have:=z97 s (h r hr) hv hm hk (hl r hr);simp only [iL] at this;simp [this]) (by simp [cap];omega)];simp [yR,zL,mv,Function.comp_def]
theorem zep{xs:List D}{j:Nat}{d:D}(s:Sto)(h:xs[j]? = some d):dIx (.tup xs) (.int j) s=.ok d s:=by
 have hj:j<xs.length:=(List.getElem?_eq_some_iff.mp h).1;have e:ixN xs.length (j:Int)=some j:=by
  unfold ixN;rw [if_pos (by omega),if_pos (by omega)];simp
 simp only [dIx,zL,atI,e,Option.bind_some,h]
theorem zaz{n:Nat}{ar:FA}{Z:Ev}{s s1:Sto}(hn:n<=1000)(h:ar Z s=.ok [.int n] s1):z73 ar Z s=.ok (yP n,[]) s1:=by
 have c62:-(2 ^ 62)<=(n:Int)/\(n:Int)<2 ^ 62:=by omega
 rw [zdV,h,R.bind_ok];simp only;rw [if_pos c62,Int.toNat_natCast]
theorem zlh {T:Tb} {k:Nat} (s:Sto) (hk:∀ r∈T,k<r.length) (hT:T.length<=4):zK (yF (zc 0)) [some 1,none] (wb 1) yU (eOp dIx (zc 1) (zc 0)) [some (tD T),some (.int k)] s=.ok (.lst (iL (T.map fun r=>r.getD k 0))) s:=by
 simp [-List.map_map];rw [qb rD (fun r=>D.int (r.getD k 0)) T [] (by
  intro r hrr;have hkr:k<r.length:=hk r hrr;have:=zep (xs:=iL r) (j:=k) (d:=.int (r.getD k 0)) s (by simp [List.getElem?_map,List.getElem?_eq_getElem hkr,List.getD]);simp only [iL] at this;simp [this]) (by simp [cap];omega)];simp [Function.comp_def]
theorem zli {T:Tb} (s:Sto) (hr:∀ r∈T,T.length<=r.length) (hT:T.length<=4): zK (z73 (za (ze xK (za (zc 0) zj)) zj)) [some 0,none] (wb 1) yU (ze yR (za (zK (yF (zc 0)) [some 1,none] (wb 1) yU (eOp dIx (zc 1) (zc 0))) zj)) [some (tD T)] s=.ok (.lst ((yf T).map rD)) s:=by
 rw [z07,z0A,zaz (n:=T.length) (s1:=s) (by omega) (by simp [xK,zL])];rw [R.bind_ok];simp only [yP];rw [qb (fun k:Nat=>D.int (k:Int)) (fun k:Nat=>rD (T.map fun r=>r.getD k 0)) (List.range T.length) [] (by
  intro k hk;have hk':k<T.length:=by simpa using hk
  rw [z1W,R.bind_ok,zbs,R.bind_ok,if_pos rfl,ym,zt];rw [show (wv [some 0,none] [some (tD T)]).set 1 (some (.int (k:Int)))=[some (tD T),some (.int (k:Int))] from rfl];rw [zlh s (fun r hrr=>Nat.lt_of_lt_of_le hk' (hr r hrr)) hT];simp [yR,zL]) (by simp [cap];omega)];simp [yf,Function.comp_def]
theorem zjD{d:D}(s:Sto)(x:List D)(h:zK (z73 (za (ze xK (za (zc 0) zj)) zj)) [some 0,none] (wb 1) yU (ze yR (za (zK (yF (zc 0)) [some 1,none] (wb 1) yU (eOp dIx (zc 1) (zc 0))) zj)) [some d] s=.ok (.lst x) s):zR [d] s=.ok (.tup x) s:=by
 have st:zr ["table"] [d]=[some d]:=rfl;simp only [zR,Mof,z0j,st,List.length_cons,List.length_nil,if_true,jQ,yC,ym,zt,h,R.bind_ok,zG,yR,zL]
theorem qP{T:Tb}(s:Sto)(hr:∀ r∈T,T.length<=r.length)(hT:T.length<=4):zR [tD T] s=.ok (tD (yf T)) s:=zjD s _ (zli s hr hT)
theorem z98 {n:Nat} {T:Tb} (s:Sto) (hn:Sz n) (h:Tab n T):wD [tD T] s=.ok (.bl true) s:=by
 have hl:=h.len;have hs:=z0r (T.map rD) s (by simp [hl];omega);have key:∀ d:D,yb [d] s=.ok (.bl true) s->zK (yF (zc 0)) [some 0,none] (wb 1) yU (ze zX (za (zc 1) (za (ze xK (za (zc 0) zj)) zj))) [some d] s=.ok (.lst (T.map fun _=>D.bl true)) s->wD [d] s=.ok (.bl true) s:=fun d h1 h2=>by
  have st:zr ["thing"] [d]=[some d]:=rfl;simp only [wD,Mof,z25,st,List.length_cons,List.length_nil,if_true];rw [zu (Z':=[some d]) (s':=s) (by simp [h1])];simp only [z15,yC,ym,zt,h2,R.bind_ok,zG];rw [z8B s (by intro x hx;obtain ⟨_,_,rfl⟩:=List.mem_map.mp hx;rfl)];rfl
 refine key _ hs ?_;rw [z07,z0A];simp only [z7b,zP,List.getElem?_cons_zero,R.bind_ok];rw [qb rD (fun _=>D.bl true) T [] (by
  intro r hr;have hw:=z13 r s (by have:=h.row r hr;omega);rw [h.row r hr,<- hl] at hw;simp only [iL] at hw;simp [xK,zL,hw]) (by simp [cap];omega)];simp
theorem z0X{n:Nat}{T:Tb}(s:Sto)(hn:Sz n)(h:Tab n T):yK [tD T] s=.ok .non s:=by
 have key:∀ d:D,wD [d] s=.ok (.bl true) s->yK [d] s=.ok .non s:=fun d h1=>by simp [yK,Mof,z09,zr,h1]
 exact key _ (z98 s hn h)
theorem zjL{d e c:D}{cs:List (List Int)}(s:Sto)(f:List Int->D)(hc:zR [e] s=.ok (.tup (cs.map rD)) s)(h:∀ r∈cs,yL [d,rD r] s=.ok (f r) s)(hl:cs.length<=4): zK (yF (ze zR (za (zc 1) zj))) [some 0,none] (wb 1) yU (ze yL (za (zc 0) (za (zc 1) zj))) [some d,some e] s=.ok (.lst (cs.map f)) s:=by
 rw [z07,z0A];simp only [z7b,ym,zt,zG,zP,List.getElem?_cons_zero,List.getElem?_cons_succ,R.bind_ok,hc];rw [qb rD f cs [] (by
  intro c hc;simp only [z1W,R.bind_ok,zbs,if_true,z9q,z9x,z6G,List.getElem?_cons_zero,Option.getD_some,List.set_cons_succ,List.set_cons_zero,ym,zt,zG,zP,List.getElem?_cons_succ,h c hc]) (by simp [cap];omega)];rw [R.bind_ok,List.nil_append]
theorem zju {d e f:D} {x:List D} {n:Int} (s:Sto) (h1:yK [d] s=.ok .non s) (h2:yK [e] s=.ok .non s) (h3:xK [d] s=.ok (.int n) s) (h4:xK [e] s=.ok (.int n) s) (h5:zK (yF (ze zR (za (zc 1) zj))) [some 0,none] (wb 1) yU (ze yL (za (zc 0) (za (zc 1) zj))) [some d,some e] s=.ok (.lst x) s) (h6:zR [.tup x] s=.ok f s):xu [d,e] s=.ok f s:=by
 have st:zr ["one","other"] [d,e]=[some d,some e]:=rfl;simp only [xu,Mof,z05,st,List.length_cons,List.length_nil,if_true];rw [zu (Z':=[some d,some e]) (s':=s) (by simp [h1]),zu (Z':=[some d,some e]) (s':=s) (by simp [h2]),zu (Z':=[some d,some e]) (s':=s) (by simp [h3,h4])];have g:yR [.lst x] s=.ok (.tup x) s:=by simp [yR,zL]
 simp only [jM,yC,ym,zt,h5,R.bind_ok,zG];rw [g,R.bind_ok,R.bind_ok,h6,R.bind_ok]
theorem z70{n:Nat}{A B:Tb}{m k:Nat}(s:Sto)(hn:Sz n)(ha:Tab n A)(hb:Tab n B)(hA:Bd m A)(hB:Bd k B)(hm:m<=2000)(hk:k<=2000):xu [tD A,tD B] s=.ok (tD (z1R A B)) s:=by
 have w1:=z0X s hn ha;have w2:=z0X s hn hb;have n4:n<=4:=by omega
 have c1:=qP (T:=B) s (fun r hr=>by rw [hb.row r hr,hb.len];omega) (by rw [hb.len];omega);have lc:(yf B).length=n:=by simp [yf,hb.len]
 have c2:=qP (T:=(yf B).map (mv A)) s (fun r hr=>by
  obtain ⟨c,_,rfl⟩:=List.mem_map.mp hr;simp [mv,ha.len,lc]) (by simp [lc];omega);have g1:xK [tD A] s=.ok (.int n) s:=by simp [xK,zL,ha.len]
 have g2:xK [tD B] s=.ok (.int n) s:=by simp [xK,zL,hb.len]
 refine zju s w1 w2 g1 g2 (zjL (c:=.non) s (fun r=>rD (mv A r)) c1 (fun r hr=>z4U s hA (zfc hB r hr) hm hk (ha.le hn) (by rw [ha.len];omega)) (by omega)) ?_;have e:(yf B).map (fun r=>rD (mv A r))=((yf B).map (mv A)).map rD:=by rw [List.map_map];rfl
 rw [e];exact c2
theorem z0u(xs:List D)(i:Nat)(s:Sto):dSl (.tup xs) none (some (i:Int)) s=.ok (.tup (xs.take i)) s:=by
 have e:Dd.cutD xs none (some (i:Int))=xs.take i:=by
  unfold Dd.cutD;rw [HT.z88,HT.zag];simp [List.take_eq_take_min]
 simp only [dSl,e]
theorem z0B(xs:List D)(i:Nat)(s:Sto):dSl (.tup xs) (some (i:Int)) none s=.ok (.tup (xs.drop i)) s:=by
 have e:Dd.cutD xs (some (i:Int)) none=xs.drop i:=by
  unfold Dd.cutD;rw [HT.z88,HT.zag];by_cases h:i<=xs.length
  ·rw [Nat.min_eq_left h];exact List.take_of_length_le (by simp)
  ·rw [Nat.min_eq_right (by omega)];simp [List.drop_of_length_le (show xs.length<=i by omega)]
 simp only [dSl,e]
theorem z8a {r:List Int} {j:Nat} (s:Sto) (h:j<r.length):dIx (rD r) (.int (j:Int)) s=.ok (.int (r.getD j 0)) s:=zep (xs:=iL r) (j:=j) (d:=.int (r.getD j 0)) s (by simp [List.getElem?_map,List.getElem?_eq_getElem h,List.getD])
theorem z06{i:Int}(h0:0<=i)(h:i<2 ^ 2000):i.natAbs<BIG:=by
 have e:(i.natAbs:Int)=i:=Int.natAbs_of_nonneg h0;have k:(2:Int) ^ 2000<=((BIG:Nat):Int):=by decide +kernel
 exact Int.ofNat_lt.mp (Int.lt_of_lt_of_le (by rw [e];exact h) k)
theorem z2O{a b:Int}(s:Sto)(ha:0<=a)(ha':a<2 ^ 2000)(hb:0<=b)(hb':b<2 ^ 2000):xP (.int a) (.int b) s=.ok (.int (a*b)) s:=by rw [z4f,if_pos ⟨z06 ha ha',z06 hb hb'⟩]
theorem zg8{a b:Int}(s:Sto)(hb:0<b)(hb':b<2 ^ 2000):z7v (.int a) (.int b) s=.ok (.int (a / b)) s:=by rw [zaA,if_pos ⟨hb,z06 (by omega) hb'⟩]
theorem zi9(ns:List Int)(k:Nat)(s:Sto):∃ c,xk [.scr (iL ns),.int k] s=.ok (.int c) s:=by
 by_cases h:k<ns.length
 ·have hk:(k:Int)<ns.length:=by omega
  refine ⟨ns[k],?_⟩;have e:ixN (iL ns).length (k:Int)=some k:=by
   unfold ixN;rw [if_pos (by omega),if_pos (by simpa using hk)];simp
  have ix:dIx (.scr (iL ns)) (.int k) s=.ok (.int ns[k]) s:=by
   simp only [dIx,zL,atI,e,Option.bind_some];simp [h]
  simp only [iL] at ix;simp [xk,Mof,vK,zr,xK,zL,hk,ix]
 ·have hk:¬ (k:Int)<ns.length:=by omega
  exact ⟨0,by simp [xk,Mof,vK,zr,xK,zL,hk]⟩
def Pot(s:Sto)(l:Nat):Prop:=∃ p:Int,s[l]? = some [.int p]
theorem Pot.lt{s:Sto}{l:Nat}(h:Pot s l):l<s.length:=by
 obtain ⟨p,e⟩:=h;exact (List.getElem?_eq_some_iff.mp e).1
theorem Pot.app{s:Sto}{l:Nat}(h:Pot s l)(t:Sto):Pot (s++t) l:=by
 obtain ⟨p,e⟩:=h;exact ⟨p,by rw [List.getElem?_append_left (List.getElem?_eq_some_iff.mp e).1];exact e⟩
structure vo(s s':Sto)(l:Nat):Prop where
 pot:Pot s' l
 len:s'.length=s.length
 oth:∀ m,m≠l->s'[m]? = s[m]?
theorem ze5{s:Sto}{l:Nat}{far:Int}(h:Pot s l)(h0:0<far)(h1:far<2 ^ 2000):∃ r s',zq [.loc l,.int far] s=.ok (.int r) s'/\0<=r/\r<far/\vo s s' l:=by
 obtain ⟨p,e⟩:=h;have hl:l<s.length:=(List.getElem?_eq_some_iff.mp e).1;refine ⟨p % far,s.set l [.int (p / far)],?_,Int.emod_nonneg _ (by omega),Int.emod_lt_of_pos _ h0,⟨p / far,by rw [List.getElem?_set_self hl]⟩,by simp,fun m hm=>List.getElem?_set_ne (Ne.symm hm)⟩;have ix:dIx (.loc l) (.int 0) s=.ok (.int p) s:=by simp [dIx,zL,e,atI,ixN]
 simp [zq,Mof,z1h,zr,ix,z8L s h0,zg8 s h0 h1,e,ixN,z1A,List.replicate]
theorem zgL(s:Sto):z1N (.int 10) (.int 18) s=.ok (.int 1000000000000000000) s:=by rw [z8x];rfl
theorem zhd(s:Sto):z1N (.int 10) (.int 12) s=.ok (.int 1000000000000) s:=by rw [z8x];rfl
theorem zk5(s:Sto):z1N (.int 10) (.int 15) s=.ok (.int 1000000000000000) s:=by rw [z8x];rfl
theorem zcK(s:Sto):z1N (.int 10) (.int 39) s=.ok (.int 1000000000000000000000000000000000000000) s:=by rw [z8x];rfl
theorem pow_step{m r j:Nat}(h:m<2147483648 ^ j)(hr:r<2147483587):m*2147483587+r<2147483648 ^ (j+1):=by
 rw [Nat.pow_succ];generalize 2147483648 ^ j=B at h;omega
theorem zid{m j:Nat}(h:m<2147483648 ^ j)(hj:j<=64):((m:Nat):Int)<2 ^ 2000:=by
 have h1:2147483648 ^ j<=2147483648 ^ 64:=Nat.pow_le_pow_right (by decide) hj;have h2:2147483648 ^ 64<=2 ^ 2000:=by decide +kernel
 have h3:m<2 ^ 2000:=Nat.lt_of_lt_of_le h (Nat.le_trans h1 h2);have h4:((2 ^ 2000:Nat):Int)=2 ^ 2000:=by decide +kernel
 rw [<- h4];exact Int.ofNat_lt.mpr h3
theorem zks (c:Int) (s:Sto):∃ p:Int,vA [.int c] s=.ok (.loc s.length) (s++[[.int p]]):=by
 by_cases h:1000000000000000000<=c;·exact ⟨c-1000000000000000000,by simp [vA,Mof,jV,zr,zgL,h,D.flat.flats,z1A,cap,List.replicate]⟩
 ·have lp:∃ Z' s',z1g [some (.int c),some (.int 0),none,none] s=.ok (.nx Z') s'/\∃ (m:Nat) (a b:Option D),Z'=[some (.int c),some (.int m),a,b]/\s'=s:=by
   obtain ⟨Z',s',e,m,a,b,e1,e2,_⟩:=z5e (all:=yP 64) (body:=fun d Z s=>(wb 2 d Z s).bind fun Z' s'=>(zQ z11 (zQ z0R z1d)) Z' s') (fun j Z s'=>∃ (m:Nat) (a b:Option D),Z=[some (.int c),some (.int m),a,b]/\s'=s/\m<2147483648 ^ j) (yP 64) 0 (fun j x hx Z s' hi=>by
    obtain ⟨m,a,b,rfl,rfl,hm⟩:=hi;obtain ⟨hj,rfl⟩:=z5J hx;rw [Nat.zero_add] at hm;have r0:=Int.emod_nonneg c (show (2147483629:Int)≠0 by decide);have r1:=Int.emod_lt_of_pos c (show (0:Int)<2147483629 by decide);have a1:zap (.int c) (.int 2147483629) s'=.ok (.int (c % 2147483629)) s':=z8L s' (by decide);have a2:xP (.int 7919) (.int j) s'=.ok (.int (7919*j)) s':=z2O s' (by decide) (by decide +kernel) (by omega) (by omega);have a3:xP (.int (c % 2147483629+7919*j+1)) (.int 48271) s'=.ok (.int ((c % 2147483629+7919*j+1)*48271)) s':=z2O s' (by omega) (by omega) (by decide) (by decide +kernel);generalize hx1:(c % 2147483629+7919*(j:Int)+1)*48271 % 2147483647=x1;have b0:0<=x1:=by rw [<- hx1];exact Int.emod_nonneg _ (by decide)
    have b1:x1<2147483647:=by rw [<- hx1];exact Int.emod_lt_of_pos _ (by decide)
    have a4:zap (.int ((c % 2147483629+7919*j+1)*48271)) (.int 2147483647) s'=.ok (.int x1) s':=by rw [<- hx1];exact z8L s' (by decide)
    have a5:xP (.int x1) (.int x1) s'=.ok (.int (x1*x1)) s':=z2O s' b0 (by omega) b0 (by omega);have a6:xP (.int 69621) (.int j) s'=.ok (.int (69621*j)) s':=z2O s' (by decide) (by decide +kernel) (by omega) (by omega);generalize hx2:(x1*x1+69621*(j:Int)+7) % 2147483587=x2;have c0:0<=x2:=by rw [<- hx2];exact Int.emod_nonneg _ (by decide)
    have c1:x2<2147483587:=by rw [<- hx2];exact Int.emod_lt_of_pos _ (by decide)
    have a7:zap (.int (x1*x1+69621*j+7)) (.int 2147483587) s'=.ok (.int x2) s':=by rw [<- hx2];exact z8L s' (by decide)
    have a8:xP (.int m) (.int 2147483587) s'=.ok (.int (m*2147483587)) s':=z2O s' (by omega) (zid hm (by omega)) (by decide) (by decide +kernel);obtain ⟨y,rfl⟩:=Int.eq_ofNat_of_zero_le c0;refine ⟨[some (.int c),some (.int ((m*2147483587+y:Nat):Int)),some (.int j),some (.int y)],s',?_,m*2147483587+y,_,_,rfl,rfl,?_⟩;·simp [a1,a2,a3,a4,a5,a6,a7,a8]
    ·rw [Nat.zero_add];exact pow_step hm (by omega)) [some (.int c),some (.int 0),none,none] s ⟨0,none,none,rfl,rfl,by decide⟩;exact ⟨Z',s',by simpa using e,m,a,b,e1,e2⟩
  obtain ⟨Z',s',e,m,a,b,rfl,rfl⟩:=lp;refine ⟨m,?_⟩;have st:zr ["_law_cell","_law_number","_law_j","_law_more"] [.int c]=[some (.int c),none,none,none]:=rfl;simp only [vA,Mof,jV,st,List.length_cons,List.length_nil,if_true];rw [zu (Z':=[some (.int c),none,none,none]) (s':=s') (by simp [zgL,h])];rw [zu (Z':=[some (.int c),some (.int 0),none,none]) (s':=s') (by simp)];rw [zu e];simp [D.flat.flats,z1A,cap]
end Pg
namespace Pm
open L2 (maxL minL maxL_ge maxL_mem minL_le minL_mem)
inductive Rl where | nx | le | al | tu deriving DecidableEq
structure Lot(n:Nat)(v:List Int):Prop where
 sz:Sz n
 len:v.length=n
 nn:∀ x∈v,0<=x
 pos:∃ x∈v,0<x
def nz(v:List Int):List Int:=v.filter fun x=>decide (x≠0)
def ended(v:List Int):Bool:=decide ((nz v).length=1)
def gp(v:List Int):Nat:=v.idxOf (maxL v)
def others(v:List Int):List Int:=v.take (gp v)++[0]++v.drop (gp v+1)
def lp(v:List Int):Nat:=v.idxOf (minL (nz v))
def vI(v:List Int)(p:Nat):List Nat:=(List.range v.length).filter fun i=>decide (i≠p)
def deal:Rl->List Int->Nat×List Nat
 | .nx,v=>((others v).idxOf (maxL (others v)),[gp v]) | .le,v=>(lp (others v),[gp v]) | .al,v=>(lp v,vI v (lp v)) | .tu,v=>(0,if v.getD 0 0=0 then [] else vI v 0)
def yH(v:List Int)(d:Nat×List Nat):List Int:=(List.range v.length).map fun i=>if i∈d.2 then v.getD i 0 / v.getD d.1 0 else 0
def rot{α:Type}(xs:List α):List α:=xs.drop 1++xs.take 1
def mvd{α:Type}(r:Rl)(xs:List α):List α:=if r=.tu then rot xs else xs
def left(v qs:List Int)(b:Nat):List Int:=List.zipWith (fun x q=>x-q*v.getD b 0) v qs
def stp(r:Rl)(v:List Int):List Int:=mvd r (left v (yH v (deal r v)) (deal r v).1)
def xF(b:Nat)(line:List Int)(q:Int):List Int:=line.take b++[line.getD b 0+q]++line.drop (b+1)
def z75(r:Rl)(b:Nat)(qs:List Int):Tb:=List.zipWith (fun line q=>mvd r (xF b line q)) (one qs.length) qs
def z1z(r:Rl)(v:List Int):Tb:=z75 r (deal r v).1 (yH v (deal r v))
@[simp] theorem zeG:dot [] []=0:=rfl
@[simp] theorem dot_cons (a b:Int) (r v:List Int):dot (a::r) (b::v)=a*b+dot r v:=rfl
theorem vz:∀ {r c r' c':List Int},r.length=c.length->dot (r++r') (c++c')=dot r c+dot r' c'
 | [],[],_,_,_=>by simp | a::r,b::c,r',c',h=>by
  have:=vz (r:=r) (c:=c) (r':=r') (c':=c') (by simpa using h);simp only [List.cons_append,dot_cons,this];omega | [],_::_,_,_,h=>by simp at h | _::_,[],_,_,h=>by simp at h
def zb0(z:Int)(c q:List Int):List Int:=List.zipWith (fun x q=>x-q*z) c q
theorem z7V (z:Int):∀ {r c q:List Int},r.length=c.length->c.length=q.length->dot r (zb0 z c q)=dot r c-dot r q*z
 | [],[],[],_,_=>by simp [zb0] | a::r,b::c,p::q,h1,h2=>by
  have:=z7V z (r:=r) (c:=c) (q:=q) (by simpa using h1) (by simpa using h2);simp only [zb0] at this;simp only [zb0,List.zipWith_cons_cons,dot_cons,this];grind | [],_::_,_,h,_=>by simp at h | _::_,[],_,h,_=>by simp at h | _,[],_::_,_,h=>by simp at h | _,_::_,[],_,h=>by simp at h
theorem z8U:∀ {r c:List Int},(∀ x∈r,0<=x)->(∀ x∈c,0<=x)->0<=dot r c
 | [],[],_,_=>by simp | [],_::_,_,_=>by simp [dot] | _::_,[],_,_=>by simp [dot] | a::r,b::c,h1,h2=>by
  have i:=z8U (r:=r) (c:=c) (fun x hx=>h1 x (by simp [hx])) fun x hx=>h2 x (by simp [hx]);have j:=Int.mul_nonneg (h1 a (by simp)) (h2 b (by simp));simp only [dot_cons];omega
theorem zfx{r c:List Int}(h:r.length=c.length):dot (rot r) (rot c)=dot r c:=by match r,c,h with
 | [],[],_=>rfl | a::r,b::c,h=>
  show dot (r++[a]) (c++[b])=_;rw [vz (by simpa using h)];simp only [dot_cons,zeG];omega | [],_::_,h=>simp at h | _::_,[],h=>simp at h
theorem zf0{r c:List Int}(l:Rl)(h:r.length=c.length):dot (mvd l r) (mvd l c)=dot r c:=by
 unfold mvd;split;·exact zfx h
 ·rfl
theorem zaG{α:Type}{x:α}{xs:List α}:x∈rot xs ↔ x∈xs:=by cases xs with
 | nil=>simp [rot] | cons a xs=>simp [rot,or_comm]
theorem z5d{α:Type}{x:α}{xs:List α}{l:Rl}:x∈mvd l xs ↔ x∈xs:=by
 unfold mvd;split;·exact zaG
 ·rfl
theorem zfQ{α:Type}(xs:List α):(rot xs).length=xs.length:=by cases xs<;>simp [rot]
theorem z55{α:Type}{l:Rl}(xs:List α):(mvd l xs).length=xs.length:=by
 unfold mvd;split;·exact zfQ xs
 ·rfl
structure Qs(v:List Int)(b:Nat)(qs:List Int):Prop where
 lt:b<v.length
 len:qs.length=v.length
 zero:qs[b]? = some 0
 nn:∀ q∈qs,0<=q
 fit:∀ i,0<=v.getD i 0-qs.getD i 0*v.getD b 0
 pos:(∀ q∈qs,q=0)\/0<v.getD b 0
theorem z1x{α:Type}{v:List α}{b:Nat}(h:b<v.length):∃ v1 z v2,v=v1++z::v2/\v1.length=b:= ⟨v.take b,v[b],v.drop (b+1),by rw [<- List.drop_eq_getElem_cons h,List.take_append_drop],by simp;omega⟩
def z4v(b:Nat)(qs r:List Int):List Int:=r.set b (r.getD b 0+dot r qs)
theorem getD_at{α:Type}{v1 v2:List α}{z d:α}{b:Nat}(h:v1.length=b):(v1++z::v2).getD b d=z:=by
 subst h;simp [List.getD]
theorem Qs.split {v qs r:List Int} {b:Nat} (h:Qs v b qs) (hr:r.length=v.length):∃ v1 z v2 q1 q2 r1 y r2,v=v1++z::v2/\qs=q1++0::q2/\r=r1++y::r2/\v1.length=b/\q1.length=b/\r1.length=b/\q2.length=v2.length/\r2.length=v2.length:=by
 obtain ⟨v1,z,v2,rfl,e1⟩:=z1x h.lt;obtain ⟨q1,p,q2,rfl,e2⟩:=z1x (v:=qs) (b:=b) (by rw [h.len];exact h.lt);obtain ⟨r1,y,r2,rfl,e3⟩:=z1x (v:=r) (b:=b) (by rw [hr];exact h.lt);have hz:=h.zero;rw [<- e2] at hz;simp at hz;subst hz;have l1:=h.len;simp at l1 hr;exact ⟨v1,z,v2,q1,q2,r1,y,r2,rfl,rfl,rfl,e1,e2,e3,by omega,by omega⟩
theorem z49 {v1 v2 q1 q2:List Int} {z:Int} {b:Nat} (h1:v1.length=b) (h2:q1.length=b):left (v1++z::v2) (q1++0::q2) b=zb0 z v1 q1++z::zb0 z v2 q2:=by
 unfold left zb0;rw [getD_at h1,List.zipWith_append (by omega)];simp
theorem zeM{v qs r:List Int}{b:Nat}(h:Qs v b qs)(hr:r.length=v.length):dot (z4v b qs r) (left v qs b)=dot r v:=by
 obtain ⟨v1,z,v2,q1,q2,r1,y,r2,rfl,rfl,rfl,e1,e2,e3,e4,e5⟩:=h.split hr;rw [z49 e1 e2];unfold z4v;rw [getD_at e3,<- e3,List.set_append_right _ _ (by omega)];simp only [Nat.sub_self,List.set_cons_zero];rw [vz (by simp [zb0];omega),vz (by omega),vz (by omega)];simp only [dot_cons];rw [z7V z (by omega) (by omega),z7V z (by omega) (by omega)];grind
theorem wO{v qs:List Int}{b:Nat}(h:qs.length=v.length):(left v qs b).length=v.length:=by simp [left,h]
theorem z9W{v qs:List Int}{b:Nat}(h:Qs v b qs):∀ x∈left v qs b,0<=x:=fun x hx=>by
 obtain ⟨i,hi,e⟩:=List.mem_iff_getElem.mp hx;have:=h.fit i;have hl:=wO (b:=b) h.len;have h1:i<v.length:=by omega
 have h2:i<qs.length:=by rw [h.len];exact h1
 simp only [List.getD,List.getElem?_eq_getElem h1,List.getElem?_eq_getElem h2,Option.getD_some] at this;rw [<- e];simpa [left,List.getD] using this
structure zjW(B:Int)(r c:List Int)(x:Int):Prop where
 len:r.length=c.length
 nn:∀ y∈r,0<=y/\y<=B
 dot:dot r c=x
theorem zcW {B x:Int} {v qs r:List Int} {b:Nat} (l:Rl) (h:Qs v b qs) (hx:x<=B) (I:zjW B r v x):zjW B (mvd l (z4v b qs r)) (mvd l (left v qs b)) x:=by
 have hd:=zeM h I.len;have rl:(z4v b qs r).length=r.length:=by simp [z4v]
 have ll:=wO (b:=b) h.len;refine ⟨by rw [z55,z55,rl,ll,I.len],fun y hy=>?_,by rw [zf0 l (by rw [rl,ll,I.len]),hd,I.dot]⟩;rw [z5d] at hy;have ln:=z9W h;obtain ⟨v1,z,v2,q1,q2,r1,u,r2,rfl,rfl,rfl,e1,e2,e3,e4,e5⟩:=h.split I.len;rw [z49 e1 e2] at hd ln;have ev:(r1++u::r2).set b ((r1++u::r2).getD b 0+Pm.dot (r1++u::r2) (q1++0::q2))=r1++(u+Pm.dot (r1++u::r2) (q1++0::q2))::r2:=by
  rw [getD_at e3,<- e3,List.set_append_right _ _ (by omega)];simp only [Nat.sub_self,List.set_cons_zero]
 unfold z4v at hy hd;rw [ev] at hy hd;have dq:0<=Pm.dot (r1++u::r2) (q1++0::q2):=z8U (fun x hx=>(I.nn x hx).1) h.nn;have hu:=I.nn u (by simp);rcases List.mem_append.mp hy with hy | hy;·exact I.nn y (by simp [hy])
 ·rcases List.mem_cons.mp hy with rfl | hy
  ·refine ⟨by omega,?_⟩;rcases h.pos with h0 | h0
   ·have dz:Pm.dot (r1++u::r2) (q1++0::q2)=0:=by
     have:∀ (r q:List Int),(∀ x∈q,x=0)->Pm.dot r q=0:=by
      intro r;induction r with
      | nil=>intro q _;cases q<;>simp [Pm.dot] | cons a r ih=>
       intro q hq;cases q with
       | nil=>simp [Pm.dot] | cons p q=>rw [dot_cons,ih q (fun x hx=>hq x (by simp [hx])),hq p (by simp)];simp
     exact this _ _ h0
    omega
   ·rw [getD_at e1] at h0;rw [vz (by simp [zb0];omega),dot_cons] at hd;have n1:0<=Pm.dot r1 (zb0 z v1 q1):=z8U (fun x hx=>(I.nn x (by simp [hx])).1) fun x hx=>ln x (by simp [hx]);have n2:0<=Pm.dot r2 (zb0 z v2 q2):=z8U (fun x hx=>(I.nn x (by simp [hx])).1) fun x hx=>ln x (by simp [hx]);have dt:=I.dot;generalize Pm.dot (r1++u::r2) (q1++0::q2)=dd at *;have m1:(u+dd)*1<=(u+dd)*z:=Int.mul_le_mul_of_nonneg_left (by omega) (by omega);omega
  ·exact I.nn y (by simp [hy])
theorem z3O{α:Type}(xs:List α):mvd .tu xs=rot xs:=by simp [mvd]
theorem z2A{α:Type}{r:Rl}(h:r≠.tu)(xs:List α):mvd r xs=xs:=by simp [mvd,h]
theorem ziL{n b:Nat}{qs:List Int}(P:Tb->Prop)(r:Rl)(hn:Sz n)(hq:qs.length=n)(hb:b<n)(hz:qs[b]? = some 0) (p20:∀ q,P [[1,0],[q,1]])(p21:∀ q,P [[1,q],[0,1]]) (p30:∀ p q,P [[1,0,0],[p,1,0],[q,0,1]])(p31:∀ p q,P [[1,p,0],[0,1,0],[0,q,1]])(p32:∀ p q,P [[1,0,p],[0,1,q],[0,0,1]]) (p40:∀ p q s,P [[1,0,0,0],[p,1,0,0],[q,0,1,0],[s,0,0,1]])(p41:∀ p q s,P [[1,p,0,0],[0,1,0,0],[0,q,1,0],[0,s,0,1]]) (p42:∀ p q s,P [[1,0,p,0],[0,1,q,0],[0,0,1,0],[0,0,s,1]])(p43:∀ p q s,P [[1,0,0,p],[0,1,0,q],[0,0,1,s],[0,0,0,1]]) (t:∀ T,Tab n T->P T->P (T.map rot)):P (z75 r b qs):=by
 have main:P (List.zipWith (fun line q=>xF b line q) (one qs.length) qs):=by
  rcases hn with rfl | rfl | rfl
  ·obtain ⟨x,y,rfl⟩:=z7W hq;match b,hb with
   | 0,_=>simp at hz;subst hz;simpa [one,xF,List.range,List.range.loop] using p20 y | 1,_=>simp at hz;subst hz;simpa [one,xF,List.range,List.range.loop] using p21 x
  ·obtain ⟨x,y,z,rfl⟩:=z6Z hq;match b,hb with
   | 0,_=>simp at hz;subst hz;simpa [one,xF,List.range,List.range.loop] using p30 y z | 1,_=>simp at hz;subst hz;simpa [one,xF,List.range,List.range.loop] using p31 x z | 2,_=>simp at hz;subst hz;simpa [one,xF,List.range,List.range.loop] using p32 x y
  ·obtain ⟨x,y,z,w,rfl⟩:=z4X hq;match b,hb with
   | 0,_=>simp at hz;subst hz;simpa [one,xF,List.range,List.range.loop] using p40 y z w | 1,_=>simp at hz;subst hz;simpa [one,xF,List.range,List.range.loop] using p41 x z w | 2,_=>simp at hz;subst hz;simpa [one,xF,List.range,List.range.loop] using p42 x y w | 3,_=>simp at hz;subst hz;simpa [one,xF,List.range,List.range.loop] using p43 x y z
 have tb:Tab n (List.zipWith (fun line q=>xF b line q) (one qs.length) qs):=by
  refine ⟨by simp [one,hq],fun l hl=>?_⟩;obtain ⟨i,hi,rfl⟩:=List.mem_iff_getElem.mp hl;simp at hi;simp [xF,one];omega
 by_cases hr:r=.tu
 ·subst hr;have:z75 .tu b qs=(List.zipWith (fun line q=>xF b line q) (one qs.length) qs).map rot:=by
   unfold z75;rw [List.map_zipWith];simp only [z3O]
  rw [this];exact t _ tb main
 ·have:z75 r b qs=List.zipWith (fun line q=>xF b line q) (one qs.length) qs:=by
   unfold z75;simp only [z2A hr]
  rw [this];exact main
theorem zdi{n b:Nat}{qs:List Int}(r:Rl)(hn:Sz n)(hq:qs.length=n)(hb:b<n):Tab n (z75 r b qs):=by
 refine ⟨by simp [z75,one,hq],fun l hl=>?_⟩;obtain ⟨i,hi,rfl⟩:=List.mem_iff_getElem.mp hl;simp [z75] at hi;simp [z75,z55,xF,one];omega
def z72(T:Tb)(r:List Int):List Int:=(yf T).map (dot r)
theorem z6g{n:Nat}{A T:Tb}(hn:Sz n)(ha:Tab n A)(ht:Tab n T):z1R A T=A.map (z72 T):=by
 rcases hn with rfl | rfl | rfl
 ·obtain ⟨a,b,c,d,rfl⟩:=zfq ha;obtain ⟨e,f,g,h,rfl⟩:=zfq ht;rfl
 ·obtain ⟨a1,a2,a3,a4,a5,a6,a7,a8,a9,rfl⟩:=zeP ha;obtain ⟨b1,b2,b3,b4,b5,b6,b7,b8,b9,rfl⟩:=zeP ht;rfl
 ·obtain ⟨a1,a2,a3,a4,a5,a6,a7,a8,a9,a10,a11,a12,a13,a14,a15,a16,rfl⟩:=zfX ha;obtain ⟨b1,b2,b3,b4,b5,b6,b7,b8,b9,b10,b11,b12,b13,b14,b15,b16,rfl⟩:=zfX ht;rfl
theorem zcz{n:Nat}{T:Tb}{r:List Int}(hn:Sz n)(h:Tab n T):z72 (T.map rot) r=rot (z72 T r):=by
 rcases hn with rfl | rfl | rfl
 ·obtain ⟨a,b,c,d,rfl⟩:=zfq h;rfl
 ·obtain ⟨a,b,c,d,e,f,g,i,j,rfl⟩:=zeP h;rfl
 ·obtain ⟨a,b,c,d,e,f,g,i,j,k,l,m,n,o,p,q,rfl⟩:=zfX h;rfl
theorem zbE{n b:Nat}{qs row:List Int}(r:Rl)(hn:Sz n)(hq:qs.length=n)(hb:b<n)(hz:qs[b]? = some 0)(hr:row.length=n):z72 (z75 r b qs) row=mvd r (z4v b qs row):=by
 have main:z72 (List.zipWith (fun line q=>xF b line q) (one qs.length) qs) row=z4v b qs row:=by
  rcases hn with rfl | rfl | rfl
  ·obtain ⟨x,y,rfl⟩:=z7W hq;obtain ⟨x',y',rfl⟩:=z7W hr;match b,hb with
   | 0,_=>simp at hz;subst hz;simp [one,xF,List.range,List.range.loop,z72,yf,z4v,dot] | 1,_=>simp at hz;subst hz;simp [one,xF,List.range,List.range.loop,z72,yf,z4v,dot];try omega
  ·obtain ⟨x,y,z,rfl⟩:=z6Z hq;obtain ⟨x',y',z',rfl⟩:=z6Z hr;match b,hb with
   | 0,_=>simp at hz;subst hz;simp [one,xF,List.range,List.range.loop,z72,yf,z4v,dot]<;>try omega | 1,_=>simp at hz;subst hz;simp [one,xF,List.range,List.range.loop,z72,yf,z4v,dot]<;>try omega | 2,_=>simp at hz;subst hz;simp [one,xF,List.range,List.range.loop,z72,yf,z4v,dot]<;>try omega
  ·obtain ⟨x,y,z,w,rfl⟩:=z4X hq;obtain ⟨x',y',z',w',rfl⟩:=z4X hr;match b,hb with
   | 0,_=>simp at hz;subst hz;simp [one,xF,List.range,List.range.loop,z72,yf,z4v,dot]<;>try omega | 1,_=>simp at hz;subst hz;simp [one,xF,List.range,List.range.loop,z72,yf,z4v,dot]<;>try omega | 2,_=>simp at hz;subst hz;simp [one,xF,List.range,List.range.loop,z72,yf,z4v,dot]<;>try omega | 3,_=>simp at hz;subst hz;simp [one,xF,List.range,List.range.loop,z72,yf,z4v,dot]<;>try omega
 have tb:Tab n (List.zipWith (fun line q=>xF b line q) (one qs.length) qs):=by
  refine ⟨by simp [one,hq],fun l hl=>?_⟩;obtain ⟨i,hi,rfl⟩:=List.mem_iff_getElem.mp hl;simp at hi;simp [xF,one];omega
 by_cases h:r=.tu
 ·subst h;have e:z75 .tu b qs=(List.zipWith (fun line q=>xF b line q) (one qs.length) qs).map rot:=by
   unfold z75;rw [List.map_zipWith];simp only [z3O]
  rw [e,zcz hn tb,main,z3O]
 ·have e:z75 r b qs=List.zipWith (fun line q=>xF b line q) (one qs.length) qs:=by
   unfold z75;simp only [z2A h]
  rw [e,main,z2A h]
theorem z0h{v:List Int}{x:Int}:x∈nz v ↔ x∈v/\x≠0:=by simp [nz]
theorem getD_mem{v:List Int}{i:Nat}(h:i<v.length):v.getD i 0∈v:=by simp [List.getD,List.getElem?_eq_getElem h]
theorem vc{v:List Int}(h:∀ x∈v,0<=x)(i:Nat):0<=v.getD i 0:=by
 by_cases hi:i<v.length;·exact h _ (getD_mem hi)
 ·simp [List.getD,List.getElem?_eq_none (Nat.not_lt.mp hi)]
theorem zb4{v:List Int}{x:Int}(h:x∈v):v.idxOf x<v.length/\v.getD (v.idxOf x) 0=x:=by
 have hl:=List.idxOf_lt_length_of_mem h;exact ⟨hl,by simp [List.getD,List.getElem?_eq_getElem hl,List.getElem_idxOf hl]⟩
theorem Lot.ne{n:Nat}{v:List Int}(h:Lot n v):v≠[]:=fun z=>by
 obtain ⟨x,hx,_⟩:=h.pos;rw [z] at hx;simp at hx
theorem Lot.nzne{n:Nat}{v:List Int}(h:Lot n v):nz v≠[]:=fun z=>by
 obtain ⟨x,hx,h0⟩:=h.pos;have:x∈nz v:=z0h.mpr ⟨hx,by omega⟩;rw [z] at this;simp at this
theorem zbF{v:List Int}(h:nz v≠[]):lp v<v.length/\v.getD (lp v) 0=minL (nz v)/\minL (nz v)≠0:=by
 have m:=z0h.mp (minL_mem h);have:=zb4 m.1;exact ⟨this.1,this.2,m.2⟩
theorem z9o{v:List Int}(h:v≠[]):gp v<v.length/\v.getD (gp v) 0=maxL v:=zb4 (maxL_mem h)
theorem others_eq{v:List Int}(h:v≠[]):others v=v.set (gp v) 0:=by
 have:=(z9o h).1;unfold others;rw [List.set_eq_take_append_cons_drop,if_pos this];simp
theorem jW{v:List Int}(h:v≠[])(i:Nat):(others v).getD i 0=if i=gp v then 0 else v.getD i 0:=by
 have hg:=(z9o h).1;rw [others_eq h];by_cases e:i=gp v
 ·subst e;simp [List.getD,hg]
 ·simp [List.getD,e,List.getElem?_set_ne (Ne.symm e)]
theorem vC{v:List Int}(h:v≠[]):(others v).length=v.length:=by rw [others_eq h];simp
theorem zbQ:∀ {v:List Int}{p:Nat},(nz v).length≠1->v.getD p 0≠0->∃ j,j≠p/\j<v.length/\v.getD j 0≠0:=by
 intro v p he hp;have hpl:p<v.length:=by
  apply Classical.byContradiction;intro z;exact hp (by simp [List.getD,List.getElem?_eq_none (Nat.not_lt.mp z)])
 apply Classical.byContradiction;intro hn;apply he;obtain ⟨v1,z,v2,rfl,e1⟩:=z1x hpl;rw [getD_at e1] at hp;have f1:∀ x∈v1,x=0:=fun x hx=>by
  obtain ⟨j,hj,rfl⟩:=List.mem_iff_getElem.mp hx;apply Classical.byContradiction;intro z0;exact hn ⟨j,by omega,by simp;omega,by simpa [List.getD,List.getElem?_append_left hj,List.getElem?_eq_getElem hj] using z0⟩
 have f2:∀ x∈v2,x=0:=fun x hx=>by
  obtain ⟨j,hj,rfl⟩:=List.mem_iff_getElem.mp hx;apply Classical.byContradiction;intro z0;refine hn ⟨v1.length+1+j,by omega,by simp;omega,?_⟩;have:(v1++z::v2)[v1.length+1+j]? = some v2[j]:=by rw [List.getElem?_append_right (by omega),show v1.length+1+j-v1.length=j+1 by omega,List.getElem?_cons_succ,List.getElem?_eq_getElem hj]
  rw [List.getD,this];simpa using z0
 have g1:v1.filter (fun x=>decide (x≠0))=[]:=List.filter_eq_nil_iff.mpr fun x hx=>by simp [f1 x hx]
 have g2:v2.filter (fun x=>decide (x≠0))=[]:=List.filter_eq_nil_iff.mpr fun x hx=>by simp [f2 x hx]
 simp only [nz,List.filter_append,List.filter_cons,g1,g2];simp [hp]
theorem z56{v:List Int}(he:ended v=false):(nz v).length≠1:=by simpa [ended] using he
structure Dl(v:List Int)(b:Nat)(dv:List Nat):Prop where
 lt:b<v.length
 nb:b∉dv
 pos:dv=[]\/0<v.getD b 0
theorem uT{v:List Int}{p i:Nat}:i∈vI v p ↔ i<v.length/\i≠p:=by simp [vI]
theorem z7I{n:Nat}{v:List Int}(h:Lot n v){b:Nat}(hb:b<v.length)(h0:(others v).getD b 0≠0):Dl v b [gp v]/\0<v.getD b 0/\v.getD b 0<=v.getD (gp v) 0:=by
 have hg:=z9o h.ne;rw [jW h.ne] at h0;have ne:b≠gp v:=fun e=>by rw [if_pos e] at h0;exact h0 rfl
 rw [if_neg ne] at h0;have p0:0<v.getD b 0:=by have:=vc h.nn b;omega
 refine ⟨⟨hb,by simpa using ne,.inr p0⟩,p0,?_⟩;rw [hg.2];exact maxL_ge _ (getD_mem hb)
theorem z2P {n:Nat} {v:List Int} (h:Lot n v) (he:ended v=false):nz (others v)≠[]:=by
 have hg:=z9o h.ne;have mx:0<maxL v:=by
  obtain ⟨x,hx,h0⟩:=h.pos;have:=maxL_ge (xs:=v) x hx;omega
 obtain ⟨j,h1,h2,h3⟩:=zbQ (p:=gp v) (z56 he) (by rw [hg.2];omega);intro z;have:v.getD j 0∈nz (others v):=z0h.mpr ⟨by
  have:=getD_mem (v:=others v) (i:=j) (by rw [vC h.ne];exact h2);rw [jW h.ne,if_neg h1] at this;exact this,h3⟩;rw [z] at this;simp at this
theorem qm{n:Nat}{v:List Int}(r:Rl)(h:Lot n v)(he:ended v=false):Dl v (deal r v).1 (deal r v).2:=by cases r with
 | nx=>
  have ne:others v≠[]:=fun z=>by
   have:=vC h.ne;rw [z] at this;exact h.ne (List.length_eq_zero_iff.mp this.symm)
  have a:=zb4 (maxL_mem ne);have nn:=z2P h he;refine (z7I h (by rw [<- vC h.ne];exact a.1) ?_).1;show (others v).getD ((others v).idxOf (maxL (others v))) 0≠0;rw [a.2];have m:=z0h.mp (minL_mem nn);have m1:=maxL_ge _ m.1;have m2:0<=minL (nz (others v)):=by
   obtain ⟨i,hi,e⟩:=List.mem_iff_getElem.mp m.1;have:=jW h.ne i;have e2:(others v).getD i 0=minL (nz (others v)):=by simp [List.getD,List.getElem?_eq_getElem hi,e]
   rw [e2] at this;rw [this];split;·omega
   ·exact vc h.nn i
  omega | le=>
  have a:=zbF (z2P h he);refine (z7I h (by rw [<- vC h.ne];exact a.1) ?_).1;show (others v).getD (lp (others v)) 0≠0;rw [a.2.1];exact a.2.2 | al=>
  have a:=zbF h.nzne;refine ⟨a.1,by simp [deal,uT],.inr ?_⟩;show 0<v.getD (lp v) 0;have:=vc h.nn (lp v);have b:=a.2.1;have c:=a.2.2;omega | tu=>
  have l0:0<v.length:=by have:=h.sz;rw [h.len];omega
  refine ⟨l0,?_,?_⟩
  ·show 0∉(if v.getD 0 0=0 then [] else vI v 0);split<;>simp [uT]
  ·show (if v.getD 0 0=0 then [] else vI v 0)=[]\/0<v.getD 0 0;split;·exact .inl rfl
   ·have:=vc h.nn 0;exact .inr (by omega)
theorem wn(v:List Int)(d:Nat×List Nat):(yH v d).length=v.length:=by simp [yH]
theorem z9j(v:List Int)(d:Nat×List Nat)(i:Nat):(yH v d).getD i 0=if i<v.length/\i∈d.2 then v.getD i 0 / v.getD d.1 0 else 0:=by
 unfold yH;by_cases hi:i<v.length;·simp [List.getD,hi]
 ·simp [List.getD,hi]
theorem uZ{v:List Int}{d:Nat×List Nat}(i:Nat):v.getD i 0-(yH v d).getD i 0*v.getD d.1 0=if i<v.length/\i∈d.2 then v.getD i 0 % v.getD d.1 0 else v.getD i 0:=by
 rw [z9j];split
 ·have:=Int.mul_ediv_add_emod (v.getD i 0) (v.getD d.1 0);have e:=Int.mul_comm (v.getD i 0 / v.getD d.1 0) (v.getD d.1 0);omega
 ·omega
theorem zcO{v:List Int}{d:Nat×List Nat}(hv:∀ x∈v,0<=x)(h:Dl v d.1 d.2):Qs v d.1 (yH v d):=by
 refine ⟨h.lt,wn _ _,?_,fun q hq=>?_,fun i=>?_,?_⟩;·simp [yH,h.lt,h.nb]
 ·obtain ⟨i,hi,rfl⟩:=List.mem_iff_getElem.mp hq;simp only [yH,List.getElem_map,List.getElem_range];split;·exact Int.ediv_nonneg (vc hv _) (vc hv _)
  ·omega
 ·rw [uZ];split
  ·rename_i hi;rcases h.pos with z | z;·rw [z] at hi;simp at hi
   ·exact Int.emod_nonneg _ (by omega)
  ·exact vc hv i
 ·rcases h.pos with z | z
  ·refine .inl fun q hq=>?_;obtain ⟨i,hi,rfl⟩:=List.mem_iff_getElem.mp hq;simp [yH,z]
  ·exact .inr z
def bl(n:Nat):Nat:=if n=0 then 0 else bl (n / 2)+1
termination_by n
decreasing_by omega
theorem z7e:bl 0=0:=by rw [bl];simp
theorem z8f{n:Nat}(h:n≠0):bl n=bl (n / 2)+1:=by rw [bl,if_neg h]
theorem zb3:∀ (b a:Nat),a<=b->bl a<=bl b:=by
 intro b;induction b using Nat.strongRecOn with | ind b ih=>
  intro a h;by_cases h0:a=0;·subst h0;rw [z7e];omega
  ·rw [z8f h0,z8f (show b≠0 by omega)];have:=ih (b / 2) (by omega) (a / 2) (by omega);omega
theorem zfF{a b:Nat}(h:2*a<b):bl a<bl b:=by
 rw [z8f (show b≠0 by omega)];have:=zb3 (b / 2) a (by omega);omega
theorem zix:∀ (k n:Nat),n<2 ^ k->bl n<=k
 | 0,n,h=>by simp at h;subst h;rw [z7e];omega | k+1,n,h=>by
  by_cases h0:n=0;·subst h0;rw [z7e];omega
  ·rw [z8f h0];have:=zix k (n / 2) (by rw [Nat.pow_succ] at h;omega);omega
def wt(v:List Int):Nat:=(v.map fun x=>bl x.toNat).sum
theorem zin:∀ {u v:List Int},u.length=v.length->(∀ i,bl (u.getD i 0).toNat<=bl (v.getD i 0).toNat)->wt u<=wt v/\((∃ i,bl (u.getD i 0).toNat<bl (v.getD i 0).toNat)->wt u<wt v)
 | [],[],_,_=>⟨by simp,fun ⟨i,h⟩=>by simp at h⟩ | a::u,b::v,hl,h=>by
  have ih:=zin (u:=u) (v:=v) (by simpa using hl) fun i=>by simpa using h (i+1)
  have h0:bl a.toNat<=bl b.toNat:=by simpa using h 0
  simp only [wt,List.map_cons,List.sum_cons] at ih ⊢;refine ⟨by omega,fun ⟨i,hi⟩=>?_⟩;cases i with
  | zero=>
   have:bl a.toNat<bl b.toNat:=by simpa using hi
   omega | succ i=>
   have:=ih.2 ⟨i,by simpa using hi⟩;omega
 | [],_::_,h,_=>by simp at h | _::_,[],h,_=>by simp at h
theorem uQ{v qs:List Int}{b:Nat}(h:qs.length=v.length)(i:Nat):(left v qs b).getD i 0=v.getD i 0-qs.getD i 0*v.getD b 0:=by
 unfold left;by_cases hi:i<v.length
 ·have h2:i<qs.length:=by omega
  simp [List.getD,List.getElem?_zipWith,List.getElem?_eq_getElem hi,List.getElem?_eq_getElem h2]
 ·have h2:¬ i<qs.length:=by omega
  simp [List.getD,List.getElem?_zipWith,List.getElem?_eq_none (Nat.not_lt.mp hi),List.getElem?_eq_none (Nat.not_lt.mp h2)]
theorem z4S{u v:List Int}(hl:u.length=v.length)(h:∀ i,u.getD i 0=v.getD i 0):u=v:=by
 refine List.ext_getElem hl fun i h1 h2=>?_;have:=h i;simpa [List.getD,List.getElem?_eq_getElem h1,List.getElem?_eq_getElem h2] using this
theorem zcN{a b:Int}(h0:0<b)(h:b<=a):2*(a % b)<a:=by
 have h1:=Int.mul_ediv_add_emod a b;have h2:=Int.emod_lt_of_pos a h0;have h3:=Int.emod_nonneg a (show b≠0 by omega);have h4:1<=a / b:=by
  have:=Int.ediv_le_ediv h0 h;rwa [Int.ediv_self (by omega)] at this
 have h5:b*1<=b*(a / b):=Int.mul_le_mul_of_nonneg_left h4 (by omega);omega
theorem zbw{a b:Int}(ha:0<=a)(h0:0<b):a % b<=a:=by
 have h1:=Int.mul_ediv_add_emod a b;have h2:0<=a / b:=Int.ediv_nonneg ha (by omega);have h3:0<=b*(a / b):=Int.mul_nonneg (by omega) h2;omega
theorem zeI {v:List Int} {d:Nat×List Nat} (hv:∀ x∈v,0<=x) (h:Dl v d.1 d.2):wt (left v (yH v d) d.1)<=wt v/\((∃ i,i<v.length/\i∈d.2/\v.getD d.1 0<=v.getD i 0)->wt (left v (yH v d) d.1)<wt v):=by
 have hl:=wn v d;have key:∀ i,(left v (yH v d) d.1).getD i 0=if i<v.length/\i∈d.2 then v.getD i 0 % v.getD d.1 0 else v.getD i 0:=fun i=>by rw [uQ hl,uZ]
 have p:∀ i,i<v.length/\i∈d.2->0<v.getD d.1 0:=fun i hi=>by
  rcases h.pos with z | z;·rw [z] at hi;simp at hi
  ·exact z
 have w:=zin (u:=left v (yH v d) d.1) (v:=v) (wO hl) fun i=>by
  rw [key];split
  ·rename_i hi;have:=zbw (vc hv i) (p i hi);exact zb3 _ _ (by omega)
  ·exact Nat.le_refl _
 refine ⟨w.1,fun ⟨i,h1,h2,h3⟩=>w.2 ⟨i,?_⟩⟩;rw [key,if_pos ⟨h1,h2⟩];have h0:=p i ⟨h1,h2⟩;have:=zcN h0 h3;have:=Int.emod_nonneg (v.getD i 0) (show v.getD d.1 0≠0 by omega);exact zfF (by omega)
theorem ze7(v:List Int):wt (rot v)=wt v:=by cases v with
 | nil=>rfl | cons a v=>simp [rot,wt];omega
theorem z9Q{a b:List Int}(h:∀ x,x∈a ↔ x∈b)(ha:a≠[]):minL a=minL b:=by
 have hb:b≠[]:=fun z=>by
  have:=(h _).mp (minL_mem ha);rw [z] at this;simp at this
 have h1:=minL_le (xs:=b) _ ((h _).mp (minL_mem ha));have h2:=minL_le (xs:=a) _ ((h _).mpr (minL_mem hb));omega
theorem zi3{v:List Int}(h:nz v≠[])(h0:v.getD 0 0≠minL (nz v)):lp (rot v)<lp v:=by cases v with
 | nil=>simp [nz] at h | cons a t=>
  have e:minL (nz (rot (a::t)))=minL (nz (a::t)):=(z9Q (fun x=>by rw [z0h,z0h,zaG]) h).symm;have m:=(z0h.mp (minL_mem h)).1;have ha:a≠minL (nz (a::t)):=by simpa using h0
  unfold lp;rw [e];generalize minL (nz (a::t))=m' at *;have mt:m'∈t:=(List.mem_cons.mp m).resolve_left fun z=>ha z.symm;show List.idxOf m' (t++[a])<_;rw [List.idxOf_append,if_pos mt,List.idxOf_cons];rw [show (a==m')=false from by simpa using ha];simp
def mu(r:Rl)(v:List Int):Nat:=5*wt v+(if r=.tu then lp v else 0)
theorem Lot.step{n:Nat}{v:List Int}(r:Rl)(h:Lot n v)(he:ended v=false):Lot n (stp r v):=by
 have dl:=qm r h he;have q:=zcO h.nn dl;refine ⟨h.sz,by rw [stp,z55,wO q.len,h.len],fun x hx=>z9W q x (z5d.mp hx),?_⟩;have fin:∀ x∈left v (yH v (deal r v)) (deal r v).1,0<x->∃ x∈stp r v,0<x:=fun x hx h0=>⟨x,z5d.mpr hx,h0⟩;rcases dl.pos with z | z
 ·obtain ⟨x,hx,h0⟩:=h.pos;refine fin x ?_ h0;have:left v (yH v (deal r v)) (deal r v).1=v:=z4S (wO q.len) fun i=>by rw [uQ q.len,uZ,z];simp
  rw [this];exact hx
 ·refine fin (v.getD (deal r v).1 0) ?_ z;have:(left v (yH v (deal r v)) (deal r v).1).getD (deal r v).1 0=v.getD (deal r v).1 0:=by rw [uQ q.len,uZ,if_neg (fun w=>dl.nb w.2)]
  rw [<- this];exact getD_mem (by rw [wO q.len];exact dl.lt)
theorem zgr{n:Nat}{v:List Int}(h:Lot n v):lp v<4:=by
 have:=(zbF h.nzne).1;have:=h.len;have:=h.sz;omega
theorem zk0{n:Nat}{v:List Int}(r:Rl)(h:Lot n v)(he:ended v=false):mu r (stp r v)<mu r v:=by
 have dl:=qm r h he;have w:=zeI h.nn dl;have mn:∀ j,j<v.length->v.getD j 0≠0->minL (nz v)<=v.getD j 0:=fun j hj h0=>minL_le _ (z0h.mpr ⟨getD_mem hj,h0⟩);have ge:∀ {b:Nat},b<v.length->(others v).getD b 0≠0->v.getD b 0<=v.getD (gp v) 0:=fun hb h0=>(z7I h hb h0).2.2;cases r with
 | nx=>
  have g:=z9o h.ne;have:wt (stp .nx v)<wt v:=by
   rw [stp,z2A (by decide)];refine w.2 ⟨gp v,g.1,by simp [deal],?_⟩;rw [g.2];exact maxL_ge _ (getD_mem dl.lt)
  simp only [mu];rw [if_neg (by decide),if_neg (by decide)];omega | le=>
  have g:=z9o h.ne;have:wt (stp .le v)<wt v:=by
   rw [stp,z2A (by decide)];refine w.2 ⟨gp v,g.1,by simp [deal],?_⟩;rw [g.2];exact maxL_ge _ (getD_mem dl.lt)
  simp only [mu];rw [if_neg (by decide),if_neg (by decide)];omega | al=>
  have l:=zbF h.nzne;obtain ⟨j,h1,h2,h3⟩:=zbQ (p:=lp v) (z56 he) (by rw [l.2.1];exact l.2.2);have:wt (stp .al v)<wt v:=by
   rw [stp,z2A (by decide)];refine w.2 ⟨j,h2,by simp [deal,uT,h1,h2],?_⟩;show v.getD (lp v) 0<=_;rw [l.2.1];exact mn j h2 h3
  simp only [mu];rw [if_neg (by decide),if_neg (by decide)];omega | tu=>
  simp only [mu];rw [if_pos trivial,if_pos trivial];have st:Lot n (stp .tu v):=h.step .tu he;have l4:=zgr st;have same:left v (yH v (deal .tu v)) (deal .tu v).1=v->v.getD 0 0≠minL (nz v)->5*wt (stp .tu v)+lp (stp .tu v)<5*wt v+lp v:=fun e h0=>by
   have e2:stp .tu v=rot v:=by rw [stp,z3O,e]
   have:=zi3 h.nzne h0;rw [e2,ze7];omega
  by_cases z:v.getD 0 0=0
  ·refine same (z4S (wO (wn _ _)) fun i=>?_) fun q=>?_
   ·rw [uQ (wn _ _),uZ];rw [show (deal .tu v).2=[] from by show (if v.getD 0 0=0 then [] else vI v 0)=[];rw [if_pos z]];simp
   ·exact (zbF h.nzne).2.2 (by rw [<- q,z])
  ·by_cases ex:∃ i,i<v.length/\i≠0/\v.getD 0 0<=v.getD i 0
   ·obtain ⟨i,h1,h2,h3⟩:=ex;have:wt (stp .tu v)<wt v:=by
     rw [stp,z3O,ze7];refine w.2 ⟨i,h1,?_,h3⟩;show i∈(if v.getD 0 0=0 then [] else vI v 0);rw [if_neg z];exact uT.mpr ⟨h1,h2⟩
    omega
   ·have nn0:=vc h.nn 0;refine same (z4S (wO (wn _ _)) fun i=>?_) fun q=>?_
    ·rw [uQ (wn _ _),uZ];split
     ·rename_i hi;have i0:i≠0:=by
       have:=hi.2;simp only [deal,if_neg z,uT] at this;exact this.2
      have:¬ v.getD 0 0<=v.getD i 0:=fun w=>ex ⟨i,hi.1,i0,w⟩;show v.getD i 0 % v.getD 0 0=_;exact Int.emod_eq_of_lt (vc h.nn i) (by omega)
     ·rfl
    ·obtain ⟨j,h1,h2,h3⟩:=zbQ (p:=0) (z56 he) z;have:=mn j h2 h3;exact ex ⟨j,h2,h1,by omega⟩
inductive Run(r:Rl):List Int->List (List Int)->Prop | done {v:List Int}:ended v=true->Run r v [v] | step {v:List Int}{ls:List (List Int)}:ended v=false->Run r (stp r v) ls->Run r v (v::ls)
theorem zdR{n:Nat}{r:Rl}:∀ (k:Nat)(v:List Int),Lot n v->mu r v<=k->∃ ls,Run r v ls/\ls.length<=k+1
 | k,v,h,hk=>by cases he:ended v with
  | true=>exact ⟨[v],.done he,by simp⟩ | false=>
   have lt:=zk0 r h he;match k,hk with
   | 0,hk=>omega | k+1,hk=>
    obtain ⟨ls,h1,h2⟩:=zdR (r:=r) k (stp r v) (h.step r he) (by omega);exact ⟨v::ls,.step he h1,by simp;omega⟩
theorem zhS{m:Nat}:∀ {v:List Int},(∀ x∈v,x.toNat<2 ^ m)->wt v<=v.length*m
 | [],_=>by simp [wt] | a::v,h=>by
  have ih:=zhS (v:=v) fun x hx=>h x (by simp [hx]);have:=zix m a.toNat (h a (by simp));simp only [wt,List.map_cons,List.sum_cons,List.length_cons,Nat.succ_mul] at ih ⊢;omega
theorem zjP{n m:Nat}{v:List Int}{r:Rl}(h:Lot n v)(hb:∀ x∈v,x.toNat<2 ^ m):mu r v<=20*m+3:=by
 have w:=zhS hb;have l:=zgr h;have:v.length*m<=4*m:=Nat.mul_le_mul_right m (by have:=h.len;have:=h.sz;omega);unfold mu;split<;>omega
def cg(a b:Int):Int:=(Int.gcd a b:Int)
def zkj(v:List Int):Int:=v.foldl cg 0
structure PI(n:Nat)(B:Int)(P:Tb)(c x:List Int):Prop where
 tab:Tab n P
 nn:∀ row∈P,∀ y∈row,0<=y/\y<=B
 eq:mv P c=x
theorem z1y{n:Nat}{v:List Int}(r:Rl)(h:Lot n v)(he:ended v=false):Tab n (z1z r v):=by
 have dl:=qm r h he;exact zdi r h.sz (by rw [wn,h.len]) (by rw [<- h.len];exact dl.lt)
theorem PI.step{n:Nat}{B:Int}{P:Tb}{c x:List Int}(r:Rl)(I:PI n B P c x)(hx:∀ y∈x,y<=B)(h:Lot n c)(he:ended c=false):PI n B (z1R P (z1z r c)) (stp r c) x:=by
 have dl:=qm r h he;have q:=zcO h.nn dl;have tt:=z1y r h he;have hq:(yH c (deal r c)).length=n:=by rw [wn,h.len]
 have hb:(deal r c).1<n:=by rw [<- h.len];exact dl.lt
 have rows:∀ row∈P,z72 (z1z r c) row=mvd r (z4v (deal r c).1 (yH c (deal r c)) row):=fun row hr=>zbE r h.sz hq hb q.zero (I.tab.row row hr);have ri:∀ row∈P,zjW B (mvd r (z4v (deal r c).1 (yH c (deal r c)) row)) (stp r c) (dot row c):=fun row hr=>by
  have:dot row c∈x:=by rw [<- I.eq];exact List.mem_map.mpr ⟨row,hr,rfl⟩
  exact zcW r q (hx _ this) ⟨by rw [I.tab.row row hr,h.len],I.nn row hr,rfl⟩
 refine ⟨z8H I.tab tt,fun row hr y hy=>?_,?_⟩
 ·rw [z6g h.sz I.tab tt] at hr;obtain ⟨w,hw,rfl⟩:=List.mem_map.mp hr;rw [rows w hw] at hy;exact (ri w hw).nn y hy
 ·rw [z6g h.sz I.tab tt,<- I.eq];unfold mv;rw [List.map_map];refine List.map_congr_left fun w hw=>?_;show dot (z72 (z1z r c) w) (stp r c)=dot w c;rw [rows w hw];exact (ri w hw).dot
theorem zgH(n:Nat):∀ row∈one n,∀ y∈row,0<=y/\y<=1:=fun row hr y hy=>by
 simp only [one] at hr;obtain ⟨i,_,rfl⟩:=List.mem_map.mp hr;obtain ⟨j,_,rfl⟩:=List.mem_map.mp hy;split<;>omega
theorem PI.start{n:Nat}{B:Int}{v:List Int}(h:Lot n v)(hx:∀ y∈v,y<=B):PI n B (one n) v v:=by
 have b1:1<=B:=by
  obtain ⟨y,hy,h0⟩:=h.pos;have:=hx y hy;omega
 refine ⟨z7D n,fun row hr y hy=>?_,zhI h.sz h.len⟩;have:=zgH n row hr y hy;omega
theorem zgb{n:Nat}{v:List Int}{B:Int}(r:Rl)(h:Lot n v)(he:ended v=false)(hb:∀ y∈v,y<=B):∀ row∈z1z r v,∀ y∈row,0<=y/\y<=B:=by
 have:=(PI.start h hb).step r hb h he;have e:=this.nn;rw [(zcD h.sz (z1y r h he)).1] at e;exact e
theorem zhx{n:Nat}{v:List Int}{B:Int}(r:Rl)(h:Lot n v)(he:ended v=false)(hb:∀ y∈v,y<=B):∀ y∈stp r v,y<=B:=fun y hy=>by
 have dl:=qm r h he;have q:=zcO h.nn dl;have hy:=z5d.mp hy;obtain ⟨i,hi,rfl⟩:=List.mem_iff_getElem.mp hy;have e:(left v (yH v (deal r v)) (deal r v).1)[i]=(left v (yH v (deal r v)) (deal r v).1).getD i 0:=by simp [List.getD,List.getElem?_eq_getElem hi]
 have hi':i<v.length:=by rw [<- wO (b:=(deal r v).1) q.len];exact hi
 have b:=hb _ (getD_mem hi');rw [e,uQ q.len,uZ];split
 ·rename_i w;rcases dl.pos with z | z;·rw [z] at w;simp at w
  ·have:=zbw (vc h.nn i) z;omega
 ·exact b
section
variable {k:Int}(hk:0<k)
include hk
end
def yw(r:Rl)(ls:List (List Int)):List Tb:=ls.dropLast.map (z1z r)
theorem Run.ne{r:Rl}{v:List Int}{ls:List (List Int)}(R:Run r v ls):ls≠[]:=by cases R<;>simp
theorem Run.tabs_cons{r:Rl}{v:List Int}{ls:List (List Int)}(h:Run r (stp r v) ls):yw r (v::ls)=z1z r v::yw r ls:=by
 obtain ⟨a,t,rfl⟩:=List.exists_cons_of_ne_nil h.ne;simp [yw]
def zcS(n:Nat)(ts:List Tb):Tb:=ts.foldl z1R (one n)
end Pm
namespace Pg
open PySem.Spec L2 Dd Pm
theorem z3a{α:Type}{all:List D}{s:Sto}{body:D->Sto->R (Option D)}(g f:α->D)(p:α->Bool):∀ (l:List α)(acc:List D),(∀ a∈l,body (g a) s=.ok (if p a=true then some (f a) else none) s)->acc.length+l.length<=cap->qg [] all body (l.map g) acc s=.ok (acc++(l.filter p).map f) s
 | [],acc,_,_=>by simp [qg,okG] | x::xs,acc,hb,hl=>by
  have og:okG [] all s:=by intro p hp;simp at hp
  rw [List.map_cons,qg,if_pos og,hb x (by simp)];cases hp:p x with
  | true=>
   have ih:=z3a (all:=all) g f p xs (acc++[f x]) (fun y hy=>hb y (by simp [hy])) (by simp at hl ⊢;omega);have hc:acc.length<cap:=by simp at hl;omega
   simp [hc,ih,hp] | false=>
   have ih:=z3a (all:=all) g f p xs acc (fun y hy=>hb y (by simp [hy])) (by simp at hl ⊢;omega);simp [ih,hp]
theorem z4m{α:Type}{fi:FI}{mp:List (Option Nat)}{fg:FG}{ft:FT}{fe:FE}{Z:Ev}{s:Sto}(g f:α->D)(p:α->Bool)(ev:α->Ev)(l:List α) (hi:fi Z s=.ok (l.map g,[]) s)(hg:∀ a∈l,fg (g a) (wv mp Z) s=.ok (ev a) s)(ht:∀ a∈l,ft (ev a) s=.ok (p a) s)(he:∀ a∈l,p a=true->fe (ev a) s=.ok (f a) s)(hl:l.length<=cap): zK fi mp fg ft fe Z s=.ok (.lst ((l.filter p).map f)) s:=by
 rw [z07,z0A,hi,R.bind_ok];rw [z3a g f p l [] (by
  intro a ha;simp only [hg a ha,ht a ha,R.bind_ok];cases hp:p a with
  | true=>simp [he a ha hp] | false=>simp) (by simpa using hl)];rfl
theorem comp_map{α:Type}{fi:FI}{mp:List (Option Nat)}{fg:FG}{fe:FE}{Z:Ev}{s:Sto}(g f:α->D)(ev:α->Ev)(l:List α) (hi:fi Z s=.ok (l.map g,[]) s)(hg:∀ a∈l,fg (g a) (wv mp Z) s=.ok (ev a) s)(he:∀ a∈l,fe (ev a) s=.ok (f a) s)(hl:l.length<=cap): zK fi mp fg yU fe Z s=.ok (.lst (l.map f)) s:=by
 have:=z4m (ft:=yU) g f (fun _=>true) ev l hi hg (fun a _=>rfl) (fun a ha _=>he a ha) hl;rw [show l.filter (fun _=>true)=l from List.filter_eq_self.mpr (by simp)] at this;exact this
theorem z1v{f:FE}{Z:Ev}{s:Sto}{xs:List D}(h:f Z s=.ok (.tup xs) s):yF f Z s=.ok (xs,[]) s:=by simp [h]
theorem ul{f:FE}{Z:Ev}{s:Sto}{xs:List D}(h:f Z s=.ok (.lst xs) s):yF f Z s=.ok (xs,[]) s:=by simp [h]
structure LotB(n m:Nat)(v:List Int):Prop extends Lot n v where bd:∀ x∈v,x<2 ^ m
theorem LotB.abs{n m:Nat}{v:List Int}(h:LotB n m v):∀ x∈v,x.natAbs<2 ^ m:=fun x hx=>by
 have h1:=h.bd x hx;have h2:=h.nn x hx;have e:((x.natAbs:Nat):Int)=x:=Int.natAbs_of_nonneg h2;have:((x.natAbs:Nat):Int)<((2 ^ m:Nat):Int):=by rw [e];simpa using h1
 omega
theorem LotB.toN{n m:Nat}{v:List Int}(h:LotB n m v):∀ x∈v,x.toNat<2 ^ m:=fun x hx=>by
 have h1:=h.abs x hx;have h2:=h.nn x hx;omega
theorem _root_.Pm.Lot.le4{n:Nat}{v:List Int}(h:Lot n v):v.length<=4/\2<=v.length:=by have:=h.len;have:=h.sz;omega
theorem z8D{n:Nat}{v:List Int}(h:Lot n v)(s:Sto):yh [rD v] s=.ok (.bl true) s:=by
 have l4:=h.le4;have h1:=z0r (iL v) s (by simp;omega);have h2:=z13 v s (by omega);have g1:=z67 s h.ne;have g2:=ze2 s h.ne;have mn:0<=minL v:=h.nn _ (minL_mem h.ne);have mx:0<maxL v:=by obtain ⟨x,hx,h0⟩:=h.pos;have:=maxL_ge (xs:=v) x hx;omega
 have gl:xK [rD v] s=.ok (.int v.length) s:=by simp [xK,zL]
 have key:∀ d:D,yb [d] s=.ok (.bl true) s->xK [d] s=.ok (.int v.length) s->zX [d,.int v.length] s=.ok (.bl true) s->vx [d] s=.ok (.int (maxL v)) s->z3m [d] s=.ok (.int (minL v)) s->yh [d] s=.ok (.bl true) s:=fun d a1 a2 a3 a4 a5=>by simp [yh,Mof,vG,zr,a1,a2,a3,a4,a5,mn,mx]
 exact key _ h1 gl h2 g1 g2
theorem jm{n:Nat}{v:List Int}(h:Lot n v)(s:Sto):yp [rD v] s=.ok .non s:=by
 have h1:=z8D h s;have key:∀ d:D,yh [d] s=.ok (.bl true) s->yp [d] s=.ok .non s:=fun d a1=>by simp [yp,Mof,z2d,zr,a1]
 exact key _ h1
theorem nzC{v:List Int}{f:FE}{Z:Ev}{s:Sto}{mp:List (Option Nat)}(hf:f Z s=.ok (rD v) s)(hl:v.length<=4):zK (yF f) [none] (wb 0) (tOf (eOp dNe (zc 0) (eC (.int 0)))) (zc 0) Z s=.ok (.lst (iL (nz v))) s:=by
 rw [z4m D.int D.int (fun x=>decide (x≠0)) (fun x=>[some (.int x)]) v (z1v hf) (fun a _=>by simp) (fun a _=>by simp) (fun a _ _=>by simp) (by simp [cap];omega)];rfl
theorem z2o {n:Nat} {v:List Int} (h:Lot n v) (s:Sto):yz [rD v] s=.ok (.bl (ended v)) s:=by
 have h1:=jm h s;have key:∀ d:D,yp [d] s=.ok .non s->zK (yF (zc 0)) [none] (wb 0) (tOf (eOp dNe (zc 0) (eC (.int 0)))) (zc 0) [some d] s=.ok (.lst (iL (nz v))) s->yz [d] s=.ok (.bl (ended v)) s:=fun d a1 a2=>by
  have st:zr ["lot"] [d]=[some d]:=rfl;simp only [yz,Mof,z1c,st,List.length_cons,List.length_nil,if_true];rw [zu (Z':=[some d]) (s':=s) (by simp [a1])];simp only [z0e,yC,xc,ym,zt,zG,jn,a2,R.bind_ok];simp only [xK,zL,R.bind_ok,z7E,List.length_map];have:decide (((nz v).length:Int)=1)=ended v:=by
   unfold ended;by_cases e:(nz v).length=1;·simp [e]
   ·have:¬ ((nz v).length:Int)=1:=by omega
    simp [e,this]
  rw [this]
 exact key _ h1 (nzC (mp:=[]) (by simp) h.le4.1)
def nmR:Rl->Str | .nx=>"next" | .le=>"least" | .al=>"all" | .tu=>"turn"
theorem zaq{fo fv:FE}{Z:Ev}{s:Sto}{v:List Int}{k:Int}(h1:fo Z s=.ok (rD v) s)(h2:fv Z s=.ok (.int k) s)(hk:k∈v):zck fo fv Z s=.ok (.int (v.idxOf k:Nat)) s:=by simp only [ziy,h1,h2,R.bind_ok,wB,if_pos hk]
theorem z3P {n:Nat} {v:List Int} (h:Lot n v) (s:Sto):zA [rD v] s=.ok (.tup [.int (gp v:Nat),rD (others v)]) s:=by
 have l4:=h.le4;have g1:=z67 s h.ne;have key:∀ d:D,d=rD v->zA [d] s=.ok (.tup [.int (gp v:Nat),rD (others v)]) s:=fun d hd=>by
  have st:zr ["lot","at"] [d]=[some d,none]:=rfl;have gm:vx [d] s=.ok (.int (maxL v)) s:=by rw [hd];exact g1
  have i1:zck (zc 0) (ze vx (za (zc 0) zj)) [some d,none] s=.ok (.int (gp v:Nat)) s:=zaq (by simp [hd]) (by simp [gm]) (maxL_mem h.ne);simp only [zA,Mof,wy,st,List.length_cons,List.length_nil,if_true];rw [zu (Z':=[some d,some (.int (gp v:Nat))]) (s':=s) (by rw [wq,yo,i1];simp)];have e1:=z0u (iL v) (gp v) s;have e2:=z0B (iL v) (gp v+1) s;rw [show (((gp v+1:Nat):Int))=((gp v:Nat):Int)+1 from rfl] at e2;simp only [wu,yC,uE,zt,zG,zP,xc,z36,xQ,wA,jn,List.getElem?_cons_zero,List.getElem?_cons_succ,R.bind_ok,z41,hd,e1,e2];rw [if_pos (by simp [cap]),R.bind_ok,qK,if_pos (by simp [cap];omega),R.bind_ok,e2,R.bind_ok,qK,if_pos (by simp [cap];omega),R.bind_ok,R.bind_ok,R.bind_ok,if_pos (by simp [cap])];simp [others,List.map_take,List.map_drop]
 exact key _ rfl
theorem z0d {v:List Int} (h:nz v≠[]) (hl:v.length<=4) (s:Sto):yi [rD v] s=.ok (.int (lp v:Nat)) s:=by
 have key:∀ d:D,d=rD v->yi [d] s=.ok (.int (lp v:Nat)) s:=fun d hd=>by
  have st:zr ["lot"] [d]=[some d]:=rfl;have c:=nzC (mp:=[]) (f:=zc 0) (Z:=[some d]) (s:=s) (v:=v) (by simp [hd]) hl;have gm:z3m [.lst (iL (nz v))] s=.ok (.int (minL (nz v))) s:=by
   obtain ⟨a,t,e⟩:=List.exists_cons_of_ne_nil h;rw [e];simp only [z3m,zL,Option.bind_some,iL];rw [wB]
  simp only [yi,Mof,jO,st,List.length_cons,List.length_nil,if_true,qZ,yC];rw [zaq (v:=v) (k:=minL (nz v)) (by simp [hd]) (by rw [ym,zt,c];simp only [R.bind_ok,zG,gm]) (z0h.mp (minL_mem h)).1];rfl
 exact key _ rfl
abbrev nL(l:List Nat):List D:=l.map fun i=>D.int ((i:Nat):Int)
theorem z6T {v:List Int} (p:Nat) (hl:v.length<=4) (s:Sto):xO [rD v,.int (p:Nat)] s=.ok (.lst (nL (vI v p))) s:=by
 have key:∀ d:D,xK [d] s=.ok (.int v.length) s->xO [d,.int (p:Nat)] s=.ok (.lst (nL (vI v p))) s:=fun d hd=>by
  have st:zr ["lot","place"] [d,.int (p:Nat)]=[some d,some (.int (p:Nat))]:=rfl;have ir:z73 (za (ze xK (za (zc 0) zj)) zj) [some d,some (.int (p:Nat))] s=.ok ((List.range v.length).map fun i=>D.int ((i:Nat):Int),[]) s:=by
   rw [zaz (n:=v.length) (s1:=s) (by omega) (by simp [hd])];rfl
  simp only [xO,Mof,z4e,st,List.length_cons,List.length_nil,if_true,z27,yC];rw [z4m (fun i:Nat=>D.int ((i:Nat):Int)) (fun i:Nat=>D.int ((i:Nat):Int)) (fun i=>decide (i≠p)) (fun i=>[some (.int (p:Nat)),some (.int (i:Nat))]) (List.range v.length) ir (fun a _=>by simp) (fun a _=>by
   have:decide (((a:Nat):Int)≠(p:Nat))=decide (a≠p):=by
    by_cases e:a=p;·simp [e]
    ·have:¬ ((a:Nat):Int)=(p:Nat):=by omega
     simp [e,this]
   simp only [z82,xc,zP,List.getElem?_cons_succ,List.getElem?_cons_zero,R.bind_ok,zkg,this]) (fun a _ _=>by simp) (by simp [cap];omega)];rfl
 exact key _ (by simp [xK,zL])
abbrev z2h(d:Nat×List Nat):D:=.tup [.int ((d.1:Nat):Int),.lst (nL d.2)]
theorem zaI {n:Nat} {v:List Int} (h:Lot n v) (s:Sto):wU [rD v] s=.ok (z2h (deal .nx v)) s:=by
 have ne:others v≠[]:=fun z=>by
  have:=vC h.ne;rw [z] at this;exact h.ne (List.length_eq_zero_iff.mp this.symm)
 have g:=z3P h s;have g1:=z67 (ns:=others v) s ne;have key:∀ d e:D,e=rD (others v)->zA [d] s=.ok (.tup [.int (gp v:Nat),e]) s->wU [d] s=.ok (z2h (deal .nx v)) s:=fun d e he hg=>by
  have st:zr ["lot","greatest","others"] [d]=[some d,none,none]:=rfl;have gm:vx [e] s=.ok (.int (maxL (others v))) s:=by rw [he];exact g1
  simp only [wU,Mof,z4i,st,List.length_cons,List.length_nil,if_true];rw [zu (Z':=[some d,some (.int (gp v:Nat)),some e]) (s':=s) (by simp [hg])];have ix:zck (zc 2) (ze vx (za (zc 2) zj)) [some d,some (.int (gp v:Nat)),some e] s=.ok (.int ((others v).idxOf (maxL (others v)):Nat)) s:=zaq (v:=others v) (by simp [he]) (by simp [gm]) (maxL_mem ne);simp only [z2t,yC,uE,zt,ix,R.bind_ok,zG,ui,zP,List.getElem?_cons_zero,List.getElem?_cons_succ];simp [cap,deal]
 exact key _ _ rfl g
theorem z9K {n:Nat} {v:List Int} (h:Lot n v) (he:ended v=false) (s:Sto):xW [rD v] s=.ok (z2h (deal .le v)) s:=by
 have g:=z3P h s;have lpo:=z0d (z2P h he) (by rw [vC h.ne];exact h.le4.1) s;have key:∀ d e:D,yi [e] s=.ok (.int (lp (others v):Nat)) s->zA [d] s=.ok (.tup [.int (gp v:Nat),e]) s->xW [d] s=.ok (z2h (deal .le v)) s:=fun d e he hg=>by
  have st:zr ["lot","greatest","others"] [d]=[some d,none,none]:=rfl;simp only [xW,Mof,z2V,st,List.length_cons,List.length_nil,if_true];rw [zu (Z':=[some d,some (.int (gp v:Nat)),some e]) (s':=s) (by simp [hg])];simp [he,cap,deal]
 exact key _ _ lpo g
theorem zd3 {n:Nat} {v:List Int} (h:Lot n v) (s:Sto):uh [rD v] s=.ok (z2h (deal .al v)) s:=by
 have lpo:=z0d h.nzne h.le4.1 s;have ab:=z6T (v:=v) (lp v) h.le4.1 s;have key:∀ d:D,yi [d] s=.ok (.int (lp v:Nat)) s->xO [d,.int (lp v:Nat)] s=.ok (.lst (nL (vI v (lp v)))) s->uh [d] s=.ok (z2h (deal .al v)) s:=fun d h1 h2=>by
  have st:zr ["lot","by"] [d]=[some d,none]:=rfl;simp only [uh,Mof,z6p,st,List.length_cons,List.length_nil,if_true];rw [zu (Z':=[some d,some (.int (lp v:Nat))]) (s':=s) (by simp [h1])];simp [h2,cap,deal]
 exact key _ lpo ab
theorem zbB {n:Nat} {v:List Int} (h:Lot n v) (s:Sto):wR [rD v] s=.ok (z2h (deal .tu v)) s:=by
 have ab:=z6T (v:=v) 0 h.le4.1 s;have i0:dIx (rD v) (.int 0) s=.ok (.int (v.getD 0 0)) s:=z8a (j:=0) s (by have:=h.le4.2;omega);have key:∀ d:D,dIx d (.int 0) s=.ok (.int (v.getD 0 0)) s->xO [d,.int 0] s=.ok (.lst (nL (vI v 0))) s->wR [d] s=.ok (z2h (deal .tu v)) s:=fun d h1 h2=>by
  have st:zr ["lot"] [d]=[some d]:=rfl;simp only [wR,Mof,z3T,st,List.length_cons,List.length_nil,if_true];by_cases z:v.getD 0 0=0;·rw [zbq (d:=z2h (deal .tu v)) (s':=s) (by
    rw [z] at h1;have e:deal .tu v=(0,[]):=by show (0,if v.getD 0 0=0 then [] else vI v 0)=_;rw [if_pos z]
    rw [e];simp [h1,cap])]
  ·rw [zu (Z':=[some d]) (s':=s) (by
    have:¬ v.getD 0 0=0:=z;generalize v.getD 0 0=y at *;simp [h1,this])];have e:deal .tu v=(0,vI v 0):=by show (0,if v.getD 0 0=0 then [] else vI v 0)=_;rw [if_neg z]
   rw [e];simp [h2,cap]
 exact key _ i0 ab
theorem za3(r:Rl)(s:Sto):xr [.str (nmR r)] s=.ok (.bl true) s:=by
 have l:∀ r,(wK.lookup (nmR r)).isSome=true:=fun r=>by cases r<;>decide
 have l:=l r;obtain ⟨y,l⟩:=Option.isSome_iff_exists.mp l;generalize nmR r=x at *;simp [xr,Mof,z0s,zr,gIs,tyD,isT,l]
theorem kG(r:Rl)(s:Sto):xf [.str (nmR r)] s=.ok .non s:=by
 have l:=za3 r s;generalize nmR r=x at *;simp [xf,Mof,z19,zr,l]
theorem z5N{n:Nat}{v:List Int}(r:Rl)(h:Lot n v)(s:Sto):zC [.str (nmR r),rD v] s=.ok .non s:=by
 have h1:=kG r s;have h2:=jm h s;have key:∀ d e:D,xf [d] s=.ok .non s->yp [e] s=.ok .non s->zC [d,e] s=.ok .non s:=fun d e a1 a2=>by simp [zC,Mof,vw,zr,a1,a2]
 exact key _ _ h1 h2
theorem z2n{n:Nat}{v:List Int}(r:Rl)(h:Lot n v)(he:ended v=false)(s:Sto):yM [.str (nmR r),rD v] s=.ok .non s:=by
 have h1:=z5N r h s;have h2:=z2o h s;rw [he] at h2;have key:∀ d e:D,zC [d,e] s=.ok .non s->yz [e] s=.ok (.bl false) s->yM [d,e] s=.ok .non s:=fun d e a1 a2=>by simp [yM,Mof,z0M,zr,a1,a2]
 exact key _ _ h1 h2
def dfR:Rl->Str | .nx=>"by_next" | .le=>"by_least" | .al=>"by_all" | .tu=>"by_turn"
def MR:Rl->Mir | .nx=>wU | .le=>xW | .al=>uh | .tu=>wR
theorem zlv{n:Nat}{v:List Int}(r:Rl)(h:Lot n v)(he:ended v=false)(s:Sto):MR r [rD v] s=.ok (z2h (deal r v)) s:=by cases r with
 | nx=>exact zaI h s | le=>exact z9K h he s | al=>exact zd3 h s | tu=>exact zbB h s
theorem zjF(r:Rl):wK.lookup (nmR r)=some (dfR r):=by cases r<;>decide
theorem zlO(r:Rl):([("by_next",wU),("by_least",xW),("by_all",uh),("by_turn",wR)]:List (Str×Mir)).lookup (dfR r)=some (MR r):=by
 cases r;·rfl
 ·rfl
 ·rfl
 ·rfl
theorem zkp(i:Nat)(l:List Nat)(s:Sto):z9T false (.int ((i:Nat):Int)) (.lst (nL l)) s=.ok (.bl (decide (i∈l))) s:=by
 have e:∀ l:List Nat,jj (nL l)=some (l.map fun j=>V.int ((j:Nat):Int)):=by
  intro l;induction l with
  | nil=>rfl | cons a l ih=>simp only [nL] at ih;simp [nL,jj,z2k,ih]
 have e2:∀ l:List Nat,inV (.int ((i:Nat):Int)) (l.map fun j=>V.int ((j:Nat):Int))=decide (i∈l):=by
  intro l;induction l with
  | nil=>rfl | cons a l ih=>
   simp only [inV,List.map_cons,List.any_cons] at ih ⊢;rw [ih];by_cases q:i=a;·subst q;simp [eqV]
   ·have q':¬ ((a:Nat):Int)=i:=by omega
    simp [eqV,q,q']
 simp only [z9T,z2k,zL,Option.bind_some,e,e2];rfl
theorem z8m(x:List D)(s:Sto):yR [.lst x] s=.ok (.tup x) s:=by simp [yR,zL]
theorem z3Q {n m:Nat} {v:List Int} (r:Rl) (h:LotB n m v) (he:ended v=false) (hm:m<=1999) (s:Sto):xi [.str (nmR r),rD v] s=.ok (.tup [.int ((deal r v).1:Nat),.lst (iL (yH v (deal r v)))]) s:=by
 have dl:=qm r h.toLot he;have l4:=h.toLot.le4;have by_:=zlv r h.toLot he s;have ixs:∀ i,i<v.length->dIx (rD v) (.int ((i:Nat):Int)) s=.ok (.int (v.getD i 0)) s:=fun i hi=>z8a s hi;have gl:xK [rD v] s=.ok (.int v.length) s:=by simp [xK,zL]
 have key:∀ d e:D,e=.str (nmR r)->MR r [d] s=.ok (z2h (deal r v)) s->xK [d] s=.ok (.int v.length) s->(∀ i,i<v.length->dIx d (.int ((i:Nat):Int)) s=.ok (.int (v.getD i 0)) s)->xi [e,d] s=.ok (.tup [.int ((deal r v).1:Nat),.lst (iL (yH v (deal r v)))]) s:=fun d e he' h1 h2 h3=>by
  have st:zr ["rule","lot","deal","by","divided"] [e,d]=[some e,some d,none,none,none]:=rfl;simp only [xi,Mof,z28,st,List.length_cons,List.length_nil,if_true];have lk:=zjF r;have lm:=zlO r;rw [zu (Z':=[some e,some d,some (.fn (dfR r)),none,none]) (s':=s) (by
   generalize dfR r=y at *;simp [he',lk])];rw [zu (Z':=[some e,some d,some (.fn (dfR r)),some (.int ((deal r v).1:Nat)),some (.lst (nL (deal r v).2))]) (s':=s) (by
   rw [z1a,zak,zcy];simp only [List.getElem?_cons_zero,List.getElem?_cons_succ];rw [lm];simp only [zt,zG,zP,List.getElem?_cons_zero,List.getElem?_cons_succ,R.bind_ok,h1,zeA,List.set_cons_succ,List.set_cons_zero])];have ir:z73 (za (ze xK (za (zc 1) zj)) zj) [some e,some d,some (.fn (dfR r)),some (.int ((deal r v).1:Nat)),some (.lst (nL (deal r v).2))] s=.ok ((List.range v.length).map fun i=>D.int ((i:Nat):Int),[]) s:=by
   rw [zaz (n:=v.length) (s1:=s) (by omega) (by simp [h2])];rfl
  have c:=comp_map (mp:=[some 4,some 1,some 3,none]) (fg:=wb 3) (fe:=eIf (tOf (eOp (z9T false) (zc 3) (zc 0))) (eOp z7v (eOp dIx (zc 1) (zc 3)) (eOp dIx (zc 1) (zc 2))) (eC (.int 0))) (fun i:Nat=>D.int ((i:Nat):Int)) (fun i:Nat=>D.int (if i∈(deal r v).2 then v.getD i 0 / v.getD (deal r v).1 0 else 0)) (fun i=>[some (.lst (nL (deal r v).2)),some d,some (.int ((deal r v).1:Nat)),some (.int (i:Nat))]) (List.range v.length) ir (fun a _=>by simp) (fun i hi=>by
    have hi':i<v.length:=by simpa using hi
    have i1:=zkp i (deal r v).2 s;have e1:=h3 i hi';have e2:=h3 _ dl.lt;simp only [zg0,z82,xc,zP,jn,List.getElem?_cons_zero,List.getElem?_cons_succ,R.bind_ok,i1,e1,e2];by_cases q:i∈(deal r v).2
    ·have p0:0<v.getD (deal r v).1 0:=by
      rcases dl.pos with z | z;·rw [z] at q;simp at q
      ·exact z
     have p1:v.getD (deal r v).1 0<2 ^ 2000:=Int.lt_of_lt_of_le (h.bd _ (Pm.getD_mem dl.lt)) (by
      have:(2:Nat) ^ m<=2 ^ 2000:=Nat.pow_le_pow_right (by decide) (by omega);have:=Int.ofNat_le.mpr this;simpa using this);have big:(v.getD (deal r v).1 0).natAbs<BIG:=Nat.lt_of_lt_of_le (h.abs _ (Pm.getD_mem dl.lt)) (Nat.pow_le_pow_right (by decide) (by omega));simp only [q,decide_true,if_true];rw [zaA,if_pos ⟨p0,big⟩]
    ·simp only [q,decide_false,if_false];rfl) (by simp [cap];omega);simp only [z16,yC,uE,zt,c,R.bind_ok,zG,zP,List.getElem?_cons_zero,List.getElem?_cons_succ];rw [if_pos (by simp [cap])];simp [yH,Function.comp_def]
 exact key _ _ rfl by_ gl ixs
theorem eq_str{a b:Str}(ha:PyData.strOk a=true)(hb:PyData.strOk b=true)(s:Sto):dEq (.str a) (.str b) s=.ok (.bl (a==b)) s:=by simp [dEq,z9X,eqD,uc,PyData.eqv,SeqAt.shaped,PyData.canLay0,PyData.depth,ha,hb]
theorem zhA(r:Rl):PyData.strOk (nmR r)=true:=by cases r<;>decide +kernel
theorem zfY(r:Rl)(s:Sto):dEq (.str (nmR r)) (.str "turn") s=.ok (.bl (decide (r=.tu))) s:=by
 rw [eq_str (zhA r) (by decide +kernel)];congr 2;cases r<;>decide +kernel
theorem zaK(r:Rl)(xs:List D)(hl:xs.length<=4)(s:Sto):wX [.str (nmR r),.tup xs] s=.ok (.tup (mvd r xs)) s:=by
 have e1:=z0u xs 1 s;have e2:=z0B xs 1 s;have cp:(xs.drop 1).length+(xs.take 1).length<=cap:=by simp [cap];omega
 have key:∀ d e:D,d=.str (nmR r)->e=.tup xs->wX [d,e] s=.ok (.tup (mvd r xs)) s:=fun d e hd he=>by
  have st:zr ["rule","numbers"] [d,e]=[some d,some e]:=rfl;have t:tOf (eOp dEq (zc 0) (eC (.str "turn"))) [some d,some e] s=.ok (decide (r=.tu)) s:=by simp only [z82,xc,zP,jn,List.getElem?_cons_zero,R.bind_ok,hd,zfY]
  simp only [wX,Mof,z8k,st,List.length_cons,List.length_nil,if_true,z5D,yC,zg0,t,R.bind_ok];by_cases q:r=.tu
  ·simp only [q,decide_true,if_true];subst q;rw [z3O];simp only [xc,z36,zP,xQ,wA,jn,List.getElem?_cons_zero,List.getElem?_cons_succ,R.bind_ok,he];rw [show (1:Int)=((1:Nat):Int) from rfl,e2,R.bind_ok,e1,R.bind_ok,qK,if_pos cp];rfl
  ·simp only [q,decide_false];rw [z2A q];simp [he]
 exact key _ _ rfl rfl
theorem z5c{α β:Type}(f:α->D)(g:β->D):∀ (l:List α)(k:List β),z4c (l.map f) (k.map g)=(l.zip k).map fun p=>D.tup [f p.1,g p.2]
 | [],_=>by simp [z4c] | _::_,[]=>by simp [z4c] | a::l,b::k=>by simp [z4c,z5c f g l k]
theorem za0{α β:Type}(r:Rl)(f:α->β)(xs:List α):mvd r (xs.map f)=(mvd r xs).map f:=by unfold mvd rot;split<;>simp [List.map_take,List.map_drop]
theorem LotB.q{n m:Nat}{v:List Int}(r:Rl)(h:LotB n m v)(he:ended v=false):Qs v (deal r v).1 (yH v (deal r v)):=zcO h.nn (qm r h.toLot he)
theorem zj6{n m:Nat}{v:List Int}(r:Rl)(h:LotB n m v)(he:ended v=false):∀ q∈yH v (deal r v),0<=q/\q<2 ^ m:=fun q hq=>by
 have Q:=h.q r he;refine ⟨Q.nn q hq,?_⟩;obtain ⟨i,hi,rfl⟩:=List.mem_iff_getElem.mp hq;have hi':i<v.length:=by rw [<- Q.len];exact hi
 simp only [yH,List.getElem_map,List.getElem_range];have b:=h.bd _ (Pm.getD_mem hi');have n0:=vc h.nn i;split
 ·have:=Int.ediv_le_self (v.getD (deal r v).1 0) n0;omega
 ·omega
theorem zhV {n m:Nat} {v:List Int} (r:Rl) (h:LotB n m v) (he:ended v=false) (hm:m<=1999) (s:Sto):M_step [.str (nmR r),rD v] s=.ok (rD (stp r v)) s:=by
 have l4:=h.toLot.le4;have w:=z2n r h.toLot he s;have dv:=z3Q r h he hm s;have Q:=h.q r he;have dl:=qm r h.toLot he;have ix:dIx (rD v) (.int ((deal r v).1:Nat)) s=.ok (.int (v.getD (deal r v).1 0)) s:=z8a s dl.lt;have mo:=zaK r (iL (left v (yH v (deal r v)) (deal r v).1)) (by simp [wO Q.len];omega) s;have key:∀ d e:D,e=rD v->yM [d,e] s=.ok .non s->xi [d,e] s=.ok (.tup [.int ((deal r v).1:Nat),.lst (iL (yH v (deal r v)))]) s->wX [d,.tup (iL (left v (yH v (deal r v)) (deal r v).1))] s=.ok (.tup (mvd r (iL (left v (yH v (deal r v)) (deal r v).1)))) s-> M_step [d,e] s=.ok (rD (stp r v)) s:=fun d e hd h1 h2 h3=>by
  have st:zr ["rule","lot","by","quotients","left"] [d,e]=[some d,some e,none,none,none]:=rfl;have ixe:dIx e (.int ((deal r v).1:Nat)) s=.ok (.int (v.getD (deal r v).1 0)) s:=by rw [hd];exact ix
  simp only [M_step,Mof,zbW,st,List.length_cons,List.length_nil,if_true];rw [zu (Z':=[some d,some e,none,none,none]) (s':=s) (by simp [h1])];rw [zu (Z':=[some d,some e,some (.int ((deal r v).1:Nat)),some (.lst (iL (yH v (deal r v)))),none]) (s':=s) (by simp [h2])];have ir:zbh (za (zc 1) (za (zc 3) zj)) [some d,some e,some (.int ((deal r v).1:Nat)),some (.lst (iL (yH v (deal r v)))),none] s=.ok ((v.zip (yH v (deal r v))).map fun p=>D.tup [.int p.1,.int p.2],[]) s:=by simp only [zaN,zt,zG,zP,List.getElem?_cons_zero,List.getElem?_cons_succ,R.bind_ok,hd,z9U,z5c,List.append_nil]
  have c:=comp_map (mp:=[some 1,some 2,none,none]) (fg:=uM 2 3) (fe:=eOp zc3 (zc 2) (eOp xP (zc 3) (eOp dIx (zc 0) (zc 1)))) (fun p:Int×Int=>D.tup [.int p.1,.int p.2]) (fun p:Int×Int=>D.int (p.1-p.2*v.getD (deal r v).1 0)) (fun p=>[some e,some (.int ((deal r v).1:Nat)),some (.int p.1),some (.int p.2)]) _ ir (fun p _=>by simp) (fun p hp=>by
    have hq:=zj6 r h he p.2 (List.of_mem_zip hp).2;have ab:p.2.natAbs<2 ^ m:=by
     have e1:((p.2.natAbs:Nat):Int)=p.2:=Int.natAbs_of_nonneg hq.1;have:((p.2.natAbs:Nat):Int)<((2 ^ m:Nat):Int):=by rw [e1];simpa using hq.2
     omega
    have mu:=ze6 (a:=p.2) (b:=v.getD (deal r v).1 0) s ab (by omega) (h.abs _ (Pm.getD_mem dl.lt)) (by omega);simp only [xc,zP,List.getElem?_cons_zero,List.getElem?_cons_succ,R.bind_ok,ixe,mu,zhm]) (by simp [cap];omega);have el:(v.zip (yH v (deal r v))).map (fun p:Int×Int=>D.int (p.1-p.2*v.getD (deal r v).1 0))=iL (left v (yH v (deal r v)) (deal r v).1):=by
   unfold left;show _=List.map D.int _;rw [List.zip,List.map_zipWith,List.map_zipWith]
  rw [el] at c;rw [zu (Z':=[some d,some e,some (.int ((deal r v).1:Nat)),some (.lst (iL (yH v (deal r v)))),some (.tup (iL (left v (yH v (deal r v)) (deal r v).1)))]) (s':=s) (by
   rw [z8n,yo,ym,zt,c];simp only [R.bind_ok,zG,z8m,List.set_cons_succ,List.set_cons_zero])];simp only [z8Y,yC,ym,zt,zG,zP,List.getElem?_cons_zero,List.getElem?_cons_succ,R.bind_ok,h3];rw [za0];rfl
 exact key _ _ rfl w dv mo
theorem vO{M:Mir}{f:FE}{Z:Ev}{s:Sto}{x:D}(h:f Z s=.ok x s):ze M (za f zj) Z s=M [x] s:=by simp only [ym,zt,zG,h,R.bind_ok]
theorem call2{M:Mir}{f g:FE}{Z:Ev}{s:Sto}{x y:D}(h:f Z s=.ok x s)(h2:g Z s=.ok y s):ze M (za f (za g zj)) Z s=M [x,y] s:=by simp only [ym,zt,zG,h,h2,R.bind_ok]
theorem z02{M:Mir}{f g k:FE}{Z:Ev}{s:Sto}{x y z:D}(h:f Z s=.ok x s)(h2:g Z s=.ok y s)(h3:k Z s=.ok z s):ze M (za f (za g (za k zj))) Z s=M [x,y,z] s:=by simp only [ym,zt,zG,h,h2,h3,R.bind_ok]
theorem op2{o:D->D->Sto->R D}{f g:FE}{Z:Ev}{s:Sto}{x y:D}(h:f Z s=.ok x s)(h2:g Z s=.ok y s):eOp o f g Z s=o x y s:=by simp only [xc,h,h2,R.bind_ok]
theorem z0f {n:Nat} (hn:n<=4) (s:Sto):yt [.int ((n:Nat):Int)] s=.ok (tD (one n)) s:=by
 have st:zr ["size","places"] [.int ((n:Nat):Int)]=[some (.int ((n:Nat):Int)),none]:=rfl;simp only [yt,Mof,jK,st,List.length_cons,List.length_nil,if_true];rw [zu (Z':=[some (.int ((n:Nat):Int)),some (.lst (yP n))]) (s':=s) (by
  have hc:(0:Int)<=n/\(n:Int)<=1000:=by omega
  simp only [jg,yo,zkw,zt,zG,zP,List.getElem?_cons_zero,R.bind_ok,if_pos hc,Int.toNat_natCast];rfl)];have inner:∀ i:Nat,zK (yF (zc 0)) [some 1,none] (wb 1) yU (eIf (tOf (eOp dEq (zc 0) (zc 1))) (eC (.int 1)) (eC (.int 0))) [some (.lst (yP n)),some (.int ((i:Nat):Int))] s=.ok (.lst (iL ((List.range n).map fun j=>if i=j then 1 else 0))) s:=fun i=>by
  rw [comp_map (fun k:Nat=>D.int (k:Int)) (fun j:Nat=>D.int (if i=j then 1 else 0)) (fun j=>[some (.int ((i:Nat):Int)),some (.int ((j:Nat):Int))]) (List.range n) (ul (by simp [yP])) (fun a _=>by simp) (fun j _=>by
   by_cases q:i=j;·subst q;simp
   ·have:¬ ((i:Nat):Int)=j:=by omega
    simp [q,this]) (by simp [cap];omega)];simp [Function.comp_def]
 have outer:=comp_map (fi:=yF (zc 1)) (mp:=[some 1,none]) (fg:=wb 1) (fe:=ze yR (za (zK (yF (zc 0)) [some 1,none] (wb 1) yU (eIf (tOf (eOp dEq (zc 0) (zc 1))) (eC (.int 1)) (eC (.int 0)))) zj)) (Z:=[some (.int ((n:Nat):Int)),some (.lst (yP n))]) (s:=s) (fun k:Nat=>D.int (k:Int)) (fun i:Nat=>rD ((List.range n).map fun j=>if i=j then 1 else 0)) (fun i=>[some (.lst (yP n)),some (.int ((i:Nat):Int))]) (List.range n) (ul (by simp [yP])) (fun a _=>by simp) (fun i _=>by
   rw [ym,zt,inner i];simp only [R.bind_ok,zG,z8m]) (by simp [cap];omega);simp only [qQ,yC];rw [ym,zt,outer];simp only [R.bind_ok,zG,z8m];simp [one,Function.comp_def]
theorem z0C{x d:D}{xs:List D}{s:Sto}(h:zL s x=some (xs++[d])):dIx x (.int (-1)) s=.ok d s:=by
 have e:ixN (xs++[d]).length (-1)=some xs.length:=by
  unfold ixN;rw [if_neg (by omega),if_pos (by simp;omega)];congr 1;simp;omega
 simp only [dIx,h,atI,e,Option.bind_some];simp
theorem zcg(xs:List D)(d:D):Dd.cutD (xs++[d]) none (some (-1))=xs:=by
 have e1:HT.sIx (xs++[d]).length (xs++[d]).length (some (-1))=xs.length:=by
  unfold HT.sIx;simp only;rw [if_pos (by omega)];simp;omega
 unfold Dd.cutD;rw [e1];simp [HT.sIx]
theorem z5G {n m:Nat} {v:List Int} (r:Rl) (h:LotB n m v) (he:ended v=false) (hm:m<=1999) (s:Sto):xB [.str (nmR r),rD v] s=.ok (tD (z1z r v)) s:=by
 have l4:=h.toLot.le4;have w:=z2n r h.toLot he s;have dv:=z3Q r h he hm s;have Q:=h.q r he;have dl:=qm r h.toLot he;have lpl:=z0f (n:=v.length) l4.1 s;have gl:xK [rD v] s=.ok (.int v.length) s:=by simp [xK,zL]
 have mo:∀ xs:List D,xs.length<=4->wX [.str (nmR r),.tup xs] s=.ok (.tup (mvd r xs)) s:=fun xs hx=>zaK r xs hx s;have key:∀ d e:D,xK [e] s=.ok (.int v.length) s->yM [d,e] s=.ok .non s->xi [d,e] s=.ok (.tup [.int ((deal r v).1:Nat),.lst (iL (yH v (deal r v)))]) s->(∀ xs:List D,xs.length<=4->wX [d,.tup xs] s=.ok (.tup (mvd r xs)) s)-> xB [d,e] s=.ok (tD (z1z r v)) s:=fun d e h0 h1 h2 h3=>by
  have st:zr ["rule","lot","by","quotients"] [d,e]=[some d,some e,none,none]:=rfl;simp only [xB,Mof,kP,st,List.length_cons,List.length_nil,if_true];rw [zu (Z':=[some d,some e,none,none]) (s':=s) (by simp [h1])];rw [zu (Z':=[some d,some e,some (.int ((deal r v).1:Nat)),some (.lst (iL (yH v (deal r v))))]) (s':=s) (by simp [h2])];have ir:zbh (za (ze yt (za (ze xK (za (zc 1) zj)) zj)) (za (zc 3) zj)) [some d,some e,some (.int ((deal r v).1:Nat)),some (.lst (iL (yH v (deal r v))))] s=.ok (((one v.length).zip (yH v (deal r v))).map fun p=>D.tup [rD p.1,.int p.2],[]) s:=by simp only [zaN,zt,zG,zP,ym,List.getElem?_cons_zero,List.getElem?_cons_succ,R.bind_ok,h0,lpl,z9U,z5c,List.append_nil]
  have c:=comp_map (mp:=[some 0,some 2,none,none]) (fg:=uM 2 3) (fe:=ze wX (za (zc 0) (za (eOp xG (eOp xG (eSl (zc 2) zW (yE (zc 1))) (wT (za (eOp xG (eOp dIx (zc 2) (zc 1)) (zc 3)) zj))) (eSl (zc 2) (yE (eOp xG (zc 1) (eC (.int 1)))) zW)) zj))) (fun p:List Int×Int=>D.tup [rD p.1,.int p.2]) (fun p:List Int×Int=>rD (mvd r (xF (deal r v).1 p.1 p.2))) (fun p=>[some d,some (.int ((deal r v).1:Nat)),some (rD p.1),some (.int p.2)]) _ ir (fun p _=>by simp) (fun p hp=>by
    have hl:p.1.length=v.length:=(z7D v.length).row p.1 (List.of_mem_zip hp).1;have hb:(deal r v).1<p.1.length:=by rw [hl];exact dl.lt
    have e1:=z0u (iL p.1) (deal r v).1 s;have e2:=z0B (iL p.1) ((deal r v).1+1) s;have e3:=z8a (r:=p.1) (j:=(deal r v).1) s hb;rw [show ((((deal r v).1+1:Nat):Int))=(((deal r v).1:Nat):Int)+1 from rfl] at e2;generalize (deal r v).1=b at *;have f1:eSl (zc 2) zW (yE (zc 1)) [some d,some (.int ((b:Nat):Int)),some (rD p.1),some (.int p.2)] s=.ok (.tup ((iL p.1).take b)) s:=by simp only [z36,zP,xQ,wA,List.getElem?_cons_zero,List.getElem?_cons_succ,R.bind_ok];exact e1
    have f2:eSl (zc 2) (yE (eOp xG (zc 1) (eC (.int 1)))) zW [some d,some (.int ((b:Nat):Int)),some (rD p.1),some (.int p.2)] s=.ok (.tup ((iL p.1).drop (b+1))) s:=by simp only [z36,xc,jn,z41,zP,xQ,wA,List.getElem?_cons_zero,List.getElem?_cons_succ,R.bind_ok];exact e2
    have f3:wT (za (eOp xG (eOp dIx (zc 2) (zc 1)) (zc 3)) zj) [some d,some (.int ((b:Nat):Int)),some (rD p.1),some (.int p.2)] s=.ok (.tup [.int (p.1.getD b 0+p.2)]) s:=by
     simp only [uE,zt,zG,xc,zP,List.getElem?_cons_zero,List.getElem?_cons_succ,R.bind_ok,e3,z41];rw [if_pos (by simp [cap])]
    have f4:eOp xG (eOp xG (eSl (zc 2) zW (yE (zc 1))) (wT (za (eOp xG (eOp dIx (zc 2) (zc 1)) (zc 3)) zj))) (eSl (zc 2) (yE (eOp xG (zc 1) (eC (.int 1)))) zW) [some d,some (.int ((b:Nat):Int)),some (rD p.1),some (.int p.2)] s=.ok (.tup (iL (xF b p.1 p.2))) s:=by
     rw [xc,xc,f1,R.bind_ok,f3,R.bind_ok,qK,if_pos (by simp [cap];omega),R.bind_ok,f2,R.bind_ok,qK,if_pos (by simp [cap];omega)];simp [xF,List.map_take,List.map_drop]
    rw [call2 (x:=d) (by simp) f4,h3 _ (by simp [xF];omega),za0]) (by simp [cap,one];omega);simp only [jR,yC];rw [ym,zt,c];simp only [R.bind_ok,zG,z8m];unfold z1z z75;rw [wn];simp only [tD];rw [List.map_zipWith,List.zip,List.map_zipWith]
 exact key _ _ gl w dv mo
theorem _root_.Pg.LotB.step{n m:Nat}{v:List Int}(r:Rl)(h:LotB n m v)(he:ended v=false):LotB n m (stp r v):=by
 refine ⟨h.toLot.step r he,fun x hx=>?_⟩;have:=zhx (B:=2 ^ m-1) r h.toLot he (fun y hy=>by have:=h.bd y hy;omega) x hx;omega
theorem zcG {n m:Nat} {r:Rl} {d e:D} (hd:d=.str (nmR r)) (hm:m<=1999) (s:Sto) {c:List Int} {ls:List (List Int)} (Rn:Run r c ls):∀ (pre:List (List Int)),LotB n m c->pre.length+ls.length<=50000-> uH (z3d (tOf (ze yz (za (eOp dIx (zc 2) (ua (eC (.int 1)))) zj)))) z5i (ls.length+1) [some d,some e,some (.loc s.length)] (s++[(pre++[c]).map rD])=.ok (.nx [some d,some e,some (.loc s.length)]) (s++[(pre++ls).map rD]):=by
 have tst:∀ (pre:List (List Int)) (c:List Int),LotB n m c->z3d (tOf (ze yz (za (eOp dIx (zc 2) (ua (eC (.int 1)))) zj))) [some d,some e,some (.loc s.length)] (s++[(pre++[c]).map rD])=.ok (!ended c) (s++[(pre++[c]).map rD]):=fun pre c h=>by
  have ix:=z0C (x:=.loc s.length) (d:=rD c) (xs:=pre.map rD) (s:=s++[(pre++[c]).map rD]) (by simp [zL]);have hE:=z2o h.toLot (s++[(pre++[c]).map rD]);generalize (s++[(pre++[c]).map rD])=S at *;simp only [za7,z82,ym,zt,zG,xc,zP,z2u,jn,List.getElem?_cons_zero,List.getElem?_cons_succ,R.bind_ok];rw [ix];simp only [R.bind_ok];rw [hE];simp only [R.bind_ok]
 induction Rn with
 | @done v hend=>
  intro pre h hl;rw [uH,tst pre v h,hend];rfl | @step v ls hend Rn ih=>
  intro pre h hl;have ih:=ih (pre++[v]) (h.step r hend) (by simp at hl ⊢;omega);rw [List.length_cons,uH,tst pre v h,hend,R.bind_ok,if_pos (by rfl)];have stp':=zhV r h hend hm (s++[(pre++[v]).map rD]);rw [<- hd] at stp';have ix:=z0C (x:=.loc s.length) (d:=rD v) (xs:=pre.map rD) (s:=s++[(pre++[v]).map rD]) (by simp [zL]);have body:z5i [some d,some e,some (.loc s.length)] (s++[(pre++[v]).map rD])=.ok (.nx [some d,some e,some (.loc s.length)]) (s++[(pre++[v]++[stp r v]).map rD]):=by
   have gt:(s++[(pre++[v]).map rD])[s.length]? = some ((pre++[v]).map rD):=by simp
   have st2:(s++[(pre++[v]).map rD]).set s.length ((pre++[v]).map rD++[rD (stp r v)])=s++[(pre++[v]++[stp r v]).map rD]:=by rw [List.set_append_right _ _ (by omega)];simp
   have fl:(rD (stp r v)).flat=true:=uF _;have ln:((pre++[v]).map rD).length<cap:=by simp [cap] at hl ⊢;omega
   generalize (s++[(pre++[v]).map rD])=S at *;simp only [z5i,qa,z8O,ym,zt,zG,xc,zP,z2u,jn,List.getElem?_cons_zero,List.getElem?_cons_succ,R.bind_ok];rw [ix];simp only [R.bind_ok];rw [stp'];simp only [R.bind_ok];rw [gt];simp only;rw [if_pos ⟨fl,ln⟩,st2];rfl
  rw [body,R.bind_ok];simp only;rw [ih];simp
theorem zke {n m:Nat} {v:List Int} {ls:List (List Int)} (r:Rl) (h:LotB n m v) (Rn:Run r v ls) (hm:m<=1999) (hl:ls.length<=50000) (s:Sto):M_run [.str (nmR r),rD v] s=.ok (.loc s.length) (s++[ls.map rD]):=by
 have w:=z5N r h.toLot s;have fl:(rD v).flat=true:=uF _;have key:∀ d e:D,d=.str (nmR r)->e=rD v->M_run [d,e] s=.ok (.loc s.length) (s++[ls.map rD]):=fun d e hd he=>by
  have st:zr ["rule","lot","lots"] [d,e]=[some d,some e,none]:=rfl;have w':zC [d,e] s=.ok .non s:=by rw [hd,he];exact w
  have fe:e.flat=true:=by rw [he];exact fl
  simp only [M_run,Mof,zdG,st,List.length_cons,List.length_nil,if_true];rw [zu (Z':=[some d,some e,none]) (s':=s) (by simp [w'])];rw [zu (Z':=[some d,some e,some (.loc s.length)]) (s':=s++[[e]]) (by
   simp only [zbv,yo,z89,zt,zG,zP,List.getElem?_cons_succ,List.getElem?_cons_zero,R.bind_ok];rw [if_pos ⟨by simp [cap],by simp [D.flat.flats,fe]⟩];rfl)];have lp:=zcG (e:=e) hd hm s Rn [] h (by simpa using hl);rw [List.nil_append,List.nil_append] at lp;rw [show ([v]:List (List Int)).map rD=[e] from by rw [he];rfl] at lp;rw [zu (Z':=[some d,some e,some (.loc s.length)]) (s':=s++[ls.map rD]) (by rw [za1];exact zc9 lp (by simp))];simp
 exact key _ _ rfl rfl
theorem zb1{n m:Nat}{r:Rl}{v:List Int}{ls:List (List Int)}(h:LotB n m v)(Rn:Run r v ls):∀ a∈ls.dropLast,LotB n m a/\ended a=false:=by induction Rn with
 | done e=>simp | step e R2 ih=>
  intro a ha;rw [List.dropLast_cons_of_ne_nil R2.ne] at ha;rcases List.mem_cons.mp ha with rfl | ha;·exact ⟨h,e⟩
  ·exact ih (h.step r e) a ha
theorem zf9{n m:Nat}{v:List Int}{ls:List (List Int)}(r:Rl)(h:LotB n m v)(Rn:Run r v ls)(hm:m<=1999)(hl:ls.length<=50000){f g:FE}{Z:Ev}{s:Sto}(hf:f Z s=.ok (.str (nmR r)) s)(hg:g Z s=.ok (rD v) s):z4H (ze M_run (za f (za g zj))) Z s=.ok (.lst (ls.map rD)) s:=by rw [zbz,call2 hf hg,zke r h Rn hm hl s,z8F]
theorem z7K {n m:Nat} {v:List Int} {ls:List (List Int)} (r:Rl) (h:LotB n m v) (Rn:Run r v ls) (hm:m<=1999) (hl:ls.length<=50000) (s:Sto):xU [.str (nmR r),rD v] s=.ok (.lst ((yw r ls).map tD)) s:=by
 have fz:=fun (f g:FE) (Z:Ev) (hf:f Z s=.ok (.str (nmR r)) s) (hg:g Z s=.ok (rD v) s)=>zf9 r h Rn hm hl hf hg;have key:∀ d e:D,d=.str (nmR r)->e=rD v->xU [d,e] s=.ok (.lst ((yw r ls).map tD)) s:=fun d e hd he=>by
  have st:zr ["rule","lot"] [d,e]=[some d,some e]:=rfl;have f1:=fz (zc 0) (zc 1) [some d,some e] (by simp [hd]) (by simp [he]);obtain ⟨z,hz⟩:∃ z,ls=ls.dropLast++[z]:=⟨ls.getLast Rn.ne,(List.dropLast_concat_getLast Rn.ne).symm⟩;have sl:eSl (z4H (ze M_run (za (zc 0) (za (zc 1) zj)))) zW (yE (ua (eC (.int 1)))) [some d,some e] s=.ok (.lst (ls.dropLast.map rD)) s:=by
   rw [z36,f1];simp only [R.bind_ok,xQ,wA,z2u,jn,dSl,Dd.listOf];have c:=zcg (ls.dropLast.map rD) (rD z);rw [show ls.dropLast.map rD++[rD z]=ls.map rD from by rw [show [rD z]=[z].map rD from rfl,<- List.map_append,<- hz]] at c;rw [c]
  have ends:=zb1 h Rn;have c:=comp_map (mp:=[some 0,none]) (fg:=wb 1) (fe:=ze xB (za (zc 0) (za (zc 1) zj))) rD (fun a=>tD (z1z r a)) (fun a=>[some d,some (rD a)]) ls.dropLast (ul sl) (fun a _=>by simp) (fun a ha=>by
   have:=z5G r (ends a ha).1 (ends a ha).2 hm s;rw [call2 (x:=d) (y:=rD a) (by simp) (by simp),hd];exact this) (by simp [cap];omega);simp only [xU,Mof,z0V,st,List.length_cons,List.length_nil,if_true,kW,yC];rw [c];simp [yw,Function.comp_def]
 exact key _ _ rfl rfl
theorem zjl {n m : Nat} {B : Int} {P : Tb} {c x : List Int} (I : PI n B P c x) (hB : B < 2 ^ m) : Bd m P := fun row hr y hy => by
  have := I.nn row hr y hy;have e1 : ((y.natAbs : Nat) : Int) = y := Int.natAbs_of_nonneg this.1
  have : ((y.natAbs : Nat) : Int) < ((2 ^ m : Nat) : Int) := by rw [e1]; have e2 : ((2 ^ m : Nat) : Int) = 2 ^ m := by simp
                                                                rw [e2]; omega
  omega
theorem zfW{n m:Nat}{v:List Int}(r:Rl)(h:LotB n m v)(he:ended v=false):Bd m (z1z r v):=fun row hr y hy=>by
 have:=zgb (B:=2 ^ m-1) r h.toLot he (fun y hy=>by have:=h.bd y hy;omega) row hr y hy;have e1:((y.natAbs:Nat):Int)=y:=Int.natAbs_of_nonneg this.1;have e2:((2 ^ m:Nat):Int)=2 ^ m:=by simp
 have:((y.natAbs:Nat):Int)<((2 ^ m:Nat):Int):=by rw [e1,e2];omega
 omega
def uy:Tb->List Tb->List Tb
 | P,[]=>[P] | P,T::ts=>P::uy (z1R P T) ts
theorem z9w:∀ (ts:List Tb)(P:Tb),(uy P ts).getLast? = some (ts.foldl z1R P)
 | [],P=>rfl | T::ts,P=>by rw [uy,List.getLast?_cons,z9w ts];rfl
theorem z63:∀ (ts:List Tb)(P:Tb),(uy P ts).length=ts.length+1
 | [],P=>rfl | T::ts,P=>by rw [uy,List.length_cons,z63 ts];rfl
theorem zdL(T:Tb):(tD T).flat=true:=by
 show D.flat.flats (T.map rD)=true;induction T with
 | nil=>rfl | cons r T ih=>simp only [List.map_cons,D.flat.flats,ih,Bool.and_true];exact uF r
theorem zaR {n m:Nat} {r:Rl} {x:List Int} {B:Int} (d t:D) (hn:Sz n) (hB:B<2 ^ m) (hm:m<=1999) (hx:∀ y∈x,y<=B) (s:Sto) {c:List Int} {ls:List (List Int)} (Rn:Run r c ls):∀ (P:Tb) (pre:List Tb) (all:List D) (z:Option D),LotB n m c->PI n B P c x->pre.length+ls.length<=50000-> ∃ z',xJ [] all (fun d Z s=>(wb 3 d Z s).bind fun Z' s'=>yO Z' s') ((yw r ls).map tD) [some d,some t,some (.loc s.length),z] (s++[(pre++[P]).map tD])=.ok (.nx [some d,some t,some (.loc s.length),z']) (s++[(pre++uy P (yw r ls)).map tD]):=by induction Rn with
 | done he=>intro P pre all z h I hl;exact ⟨z,by simp [yw,xJ,okG,uy]⟩ | @step v ls he R2 ih=>
  intro P pre all z h I hl;have tb:=z1y r h.toLot he;have mm:=z70 (s++[(pre++[P]).map tD]) hn I.tab tb (zjl I hB) (zfW r h he) (by omega) (by omega);obtain ⟨z',ih⟩:=ih (z1R P (z1z r v)) (pre++[P]) all (some (tD (z1z r v))) (h.step r he) (I.step r hx h.toLot he) (by simp at hl ⊢;omega);refine ⟨z',?_⟩;have ix:=z0C (x:=.loc s.length) (d:=tD P) (xs:=pre.map tD) (s:=s++[(pre++[P]).map tD]) (by simp [zL]);have body:yO [some d,some t,some (.loc s.length),some (tD (z1z r v))] (s++[(pre++[P]).map tD])=.ok (.nx [some d,some t,some (.loc s.length),some (tD (z1z r v))]) (s++[(pre++[P]++[z1R P (z1z r v)]).map tD]):=by
   have gt:(s++[(pre++[P]).map tD])[s.length]? = some ((pre++[P]).map tD):=by simp
   have st2:(s++[(pre++[P]).map tD]).set s.length ((pre++[P]).map tD++[tD (z1R P (z1z r v))])=s++[(pre++[P]++[z1R P (z1z r v)]).map tD]:=by rw [List.set_append_right _ _ (by omega)];simp
   have fl:=zdL (z1R P (z1z r v));have ln:((pre++[P]).map tD).length<cap:=by simp [cap] at hl ⊢;omega
   generalize (s++[(pre++[P]).map tD])=S at *;have ee:eOp dIx (zc 2) (ua (eC (.int 1))) [some d,some t,some (.loc s.length),some (tD (z1z r v))] S=.ok (tD P) S:=by rw [op2 (x:=.loc s.length) (y:=.int (-1)) (by simp) (by simp)];exact ix
   have cc:ze xu (za (eOp dIx (zc 2) (ua (eC (.int 1)))) (za (zc 3) zj)) [some d,some t,some (.loc s.length),some (tD (z1z r v))] S=.ok (tD (z1R P (z1z r v))) S:=by rw [call2 ee (y:=tD (z1z r v)) (by simp)];exact mm
   rw [yO,qa,z8O];simp only [zP,List.getElem?_cons_zero,List.getElem?_cons_succ,R.bind_ok];rw [cc];simp only [R.bind_ok];rw [gt];simp only;rw [if_pos ⟨fl,ln⟩,st2];rfl
  rw [R2.tabs_cons,List.map_cons,xJ,if_pos (by intro p hp;simp at hp),z1W,R.bind_ok];simp only [List.set_cons_succ,List.set_cons_zero];rw [body,R.bind_ok];simp only;rw [ih,uy];simp
theorem zbx {n m:Nat} {v:List Int} {ls:List (List Int)} (r:Rl) (h:LotB n m v) (Rn:Run r v ls) (hm:m<=1999) (hl:ls.length<=50000) (s:Sto):ya [.int n,.lst ((yw r ls).map tD)] s=.ok (.loc s.length) (s++[(uy (one n) (yw r ls)).map tD]):=by
 have lpl:=z0f (n:=n) (by have:=h.sz;omega) s;have key:∀ d t:D,d=.int n->t=.lst ((yw r ls).map tD)->ya [d,t] s=.ok (.loc s.length) (s++[(uy (one n) (yw r ls)).map tD]):=fun d t hd ht=>by
  have st:zr ["size","tables","products","table"] [d,t]=[some d,some t,none,none]:=rfl;simp only [ya,Mof,vM,st,List.length_cons,List.length_nil,if_true];rw [zu (Z':=[some d,some t,some (.loc s.length),none]) (s':=s++[[tD (one n)]]) (by
   have c2:ze yt (za (zc 0) zj) [some d,some t,none,none] s=.ok (tD (one n)) s:=by rw [vO (x:=d) (by simp),hd];exact lpl
   have fl:=zdL (one n);rw [vq,yo,z89,zt,c2];generalize tD (one n)=o at *;simp only [R.bind_ok,zG];rw [if_pos ⟨by simp [cap],by simp [D.flat.flats,fl]⟩];rfl)];obtain ⟨z',lp⟩:=zaR d t h.sz (B:=2 ^ m-1) (m:=m) (x:=v) (by omega) hm (fun y hy=>by have:=h.bd y hy;omega) s Rn (one n) [] ((yw r ls).map tD) none h (PI.start h.toLot fun y hy=>by have:=h.bd y hy;omega) (by simpa using hl);rw [zu (Z':=[some d,some t,some (.loc s.length),z']) (s':=s++[(uy (one n) (yw r ls)).map tD]) (by
   rw [vt,z38,ul (xs:=(yw r ls).map tD) (by simp [ht]),R.bind_ok];exact lp)];simp
 exact key _ _ rfl rfl
theorem z57 {n m:Nat} {v:List Int} {ls:List (List Int)} (r:Rl) (h:LotB n m v) (Rn:Run r v ls) (hm:m<=1999) (hl:ls.length<=50000) (s:Sto):yu [.str (nmR r),rD v] s=.ok (.loc s.length) (s++[(uy (one n) (yw r ls)).map tD]):=by
 have tb:=z7K r h Rn hm hl s;have gl:xK [rD v] s=.ok (.int n) s:=by simp [xK,zL,h.len]
 have gr:=zbx r h Rn hm hl s;have key:∀ d e t:D,ya [.int n,t] s=.ok (.loc s.length) (s++[(uy (one n) (yw r ls)).map tD])->xU [d,e] s=.ok t s->xK [e] s=.ok (.int n) s->yu [d,e] s=.ok (.loc s.length) (s++[(uy (one n) (yw r ls)).map tD]):=fun d e t ht h1 h2=>by
  have st:zr ["rule","lot","tables"] [d,e]=[some d,some e,none]:=rfl;simp only [yu,Mof,jE,st,List.length_cons,List.length_nil,if_true];rw [zu (Z':=[some d,some e,some t]) (s':=s) (by simp [h1])];have c1:ze xK (za (zc 1) zj) [some d,some e,some t] s=.ok (.int n) s:=by rw [vO (x:=e) (by simp)];exact h2
  rw [qN,yC,call2 c1 (y:=t) (by simp),ht];rfl
 exact key _ _ _ gr tb gl
structure LS(s0:Sto)(l:Nat)(s:Sto)(xs:List Int):Prop where
 pot:Pot s l
 len:s.length=s0.length+1
 at_:s[s0.length]? = some (iL xs)
 oth:∀ m,m≠l->m<s0.length->s[m]? = s0[m]?
theorem LS.drawn{s0 s s':Sto}{l:Nat}{xs:List Int}(h:LS s0 l s xs)(hl:l<s0.length)(d:vo s s' l):LS s0 l s' xs:= ⟨d.pot,by rw [d.len,h.len],by rw [d.oth _ (by omega)];exact h.at_,fun m h1 h2=>by rw [d.oth m h1];exact h.oth m h1 h2⟩
theorem LS.set{s0 s:Sto}{l:Nat}{xs:List Int}(h:LS s0 l s xs)(hl:l<s0.length)(ys:List Int):LS s0 l (s.set s0.length (iL ys)) ys:=by
 refine ⟨?_,by simp [h.len],List.getElem?_set_self (by rw [h.len];omega),fun m h1 h2=>?_⟩
 ·obtain ⟨p,e⟩:=h.pot;exact ⟨p,by rw [List.getElem?_set_ne (by omega)];exact e⟩
 ·rw [List.getElem?_set_ne (by omega)];exact h.oth m h1 h2
theorem LS.fin{s0 s:Sto}{l:Nat}{xs:List Int}(h:LS s0 l s xs)(hl:l<s0.length):vo s0 (s.take s0.length) l:=by
 obtain ⟨p,e⟩:=h.pot;refine ⟨⟨p,by rw [List.getElem?_take_of_lt hl];exact e⟩,by simp [h.len],fun m h1=>?_⟩;by_cases h2:m<s0.length;·rw [List.getElem?_take_of_lt h2];exact h.oth m h1 h2
 ·rw [List.getElem?_eq_none (by simp [h.len];omega),List.getElem?_eq_none (by omega)]
theorem LS.start{s0 s:Sto}{l:Nat}(d:vo s0 s l)(h:Pot s0 l)(xs:List Int):LS s0 l (s++[iL xs]) xs:= ⟨d.pot.app _,by simp [d.len],by rw [<- d.len];simp,fun m h1 h2=>by rw [List.getElem?_append_left (by rw [d.len];exact h2)];exact d.oth m h1⟩
theorem vo.trans{s s1 s2:Sto}{l:Nat}(a:vo s s1 l)(b:vo s1 s2 l):vo s s2 l:=⟨b.pot,by rw [b.len,a.len],fun m h=>by rw [b.oth m h,a.oth m h]⟩
theorem wQ{s:Sto}{l:Nat}{far:Int}{f g:FE}{Z:Ev}(h:Pot s l)(h0:0<far)(h1:far<2 ^ 2000)(hf:f Z s=.ok (.loc l) s)(hg:g Z s=.ok (.int far) s):∃ r s',ze zq (za f (za g zj)) Z s=.ok (.int r) s'/\0<=r/\r<far/\vo s s' l:=by
 obtain ⟨r,s',e,a,b,c⟩:=ze5 h h0 h1;exact ⟨r,s',by rw [call2 hf hg,e],a,b,c⟩
theorem z0T{xs:List D}{i:Int}{d:D}{s:Sto}(h0:0<=i)(h:xs[i.toNat]? = some d):dIx (.lst xs) (.int i) s=.ok d s:=by
 have hj:i.toNat<xs.length:=(List.getElem?_eq_some_iff.mp h).1;have e:ixN xs.length i=some i.toNat:=by
  unfold ixN;rw [if_pos h0,if_pos (by omega)]
 simp only [dIx,zL,atI,e,Option.bind_some,h]
theorem zii{xs:List D}{l:Nat}{i:Int}{d:D}{s:Sto}(hl:s[l]? = some xs)(h0:0<=i)(h:xs[i.toNat]? = some d):dIx (.loc l) (.int i) s=.ok d s:=by
 have hj:i.toNat<xs.length:=(List.getElem?_eq_some_iff.mp h).1;have e:ixN xs.length i=some i.toNat:=by
  unfold ixN;rw [if_pos h0,if_pos (by omega)]
 simp only [dIx,zL,hl,atI,e,Option.bind_some,h]
theorem z7T{fa fb fc:FE}{Z:Ev}{s s1 s2:Sto}{L:Nat}{xs:List Int}{i x:Int}(hc:fc Z s=.ok (.int x) s1)(ha:fa Z s1=.ok (.loc L) s1)(hb:fb Z s1=.ok (.int i) s2)(at_:s2[L]? = some (iL xs))(h0:0<=i)(h1:i<xs.length):z5X fa fb fc Z s=.ok (.nx Z) (s2.set L (iL (xs.set i.toNat x))):=by
 have e:ixN (iL xs).length i=some i.toNat:=by
  unfold ixN;rw [if_pos h0,if_pos (by simp;omega)]
 rw [zfP,hc,R.bind_ok,ha,R.bind_ok,hb,R.bind_ok];simp only [at_,e,z1A,if_true,iL,List.map_set]
theorem zbR{xs:List Int}{i:Nat}{x B:Int}(h:∀ y∈xs,0<=y/\y<=B)(hx:0<=x/\x<=B):∀ y∈xs.set i x,0<=y/\y<=B:=fun y hy=>by
 rcases List.mem_or_eq_of_mem_set hy with h2 | h2;·exact h y h2
 ·rw [h2];exact hx
theorem jt{x:Int}(h:x<=1000):x<2 ^ 2000:=Int.lt_of_le_of_lt h (by decide +kernel)
theorem zdB{v:List Int}{n:Nat}{s:Sto}:z92 n (.ok (rD v) s)=.ok (rD v) (s.take n):=z0x (uF v)
theorem zf3{ns:List Int}{L:Nat}{s:Sto}{f:FE}{Z:Ev}(h:ns≠[])(e:s[L]? = some (iL ns))(hf:f Z s=.ok (.loc L) s):tOf (eOp dEq (ze vx (za f zj)) (eC (.int 0))) Z s=.ok (decide (maxL ns=0)) s:=by
 rw [z82,xc,vO hf,zcd h e];simp
theorem z9i{ns:List Int}(h:ns≠[])(hn:∀ y∈ns,0<=y)(hm:maxL ns≠0):∃ x∈ns,0<x:=⟨maxL ns,maxL_mem h,by have:=hn _ (maxL_mem h);omega⟩
instance (A:Tb):Decidable (zjB A):=by unfold zjB;infer_instance
def okD:Nat->D->Bool
 | _,.non=>true | _,.bl _=>true | _,.int _=>true | _,.str x=>PyData.strOk x | k+1,.tup xs=>xs.all (okD k) | k+1,.lst xs=>xs.all (okD k) | _,_=>false
theorem zk2{k:Nat}:∀ (xs:List D),(∀ x∈xs,PyData.canLay0 (uc x)=true/\PyData.depth (uc x)<=2*k+3/\PyData.eqv (uc x) (uc x)=true)->PyData.canLayAll0 (toPys xs)=true/\PyData.depthAll (toPys xs)<=2*k+4/\PyData.eqvAll (toPys xs) (toPys xs)=true
 | [],_=>⟨rfl,by simp [toPys,PyData.depthAll],by simp [toPys,PyData.eqvAll]⟩ | x::xs,h=>by
  have h1:=h x (by simp);have h2:=zk2 xs fun y hy=>h y (by simp [hy]);refine ⟨by simp [toPys,PyData.canLayAll0,h1.1,h2.1],?_,by simp [toPys,PyData.eqvAll,h1.2.2,h2.2.2]⟩;simp only [toPys,PyData.depthAll];omega
theorem zai:∀ (k:Nat)(d:D),okD k d=true->PyData.canLay0 (uc d)=true/\PyData.depth (uc d)<=2*k+3/\PyData.eqv (uc d) (uc d)=true:=by
 intro k;induction k with
 | zero=>
  intro d h;cases d with
  | str x=>simp only [okD] at h;simp [uc,PyData.canLay0,PyData.depth,PyData.eqv,h] | non=>simp [uc,PyData.canLay0,PyData.depth,PyData.eqv] | bl b=>simp [uc,PyData.canLay0,PyData.depth,PyData.eqv] | int i=>simp [uc,PyData.canLay0,PyData.depth,PyData.eqv] | _=>simp [okD] at h
 | succ k ih=>
  intro d h;cases d with
  | str x=>simp only [okD] at h;simp [uc,PyData.canLay0,PyData.depth,PyData.eqv,h] | non=>simp [uc,PyData.canLay0,PyData.depth,PyData.eqv] | bl b=>simp [uc,PyData.canLay0,PyData.depth,PyData.eqv] | int i=>simp [uc,PyData.canLay0,PyData.depth,PyData.eqv] | tup xs=>
   simp only [okD,List.all_eq_true] at h;have q:=zk2 (k:=k) xs fun x hx=>ih x (h x hx);refine ⟨by simp only [uc,PyData.canLay0,q.1],?_,by simp only [uc,PyData.eqv,q.2.2]⟩;simp only [uc,PyData.depth];omega | lst xs=>
   simp only [okD,List.all_eq_true] at h;have q:=zk2 (k:=k) xs fun x hx=>ih x (h x hx);refine ⟨by simp only [uc,PyData.canLay0,q.1],?_,by simp only [uc,PyData.eqv,q.2.2]⟩;simp only [uc,PyData.depth];omega | _=>simp [okD] at h
theorem zek{k:Nat}{d:D}(h:okD k d=true)(hk:k<=10):z9X d=true:=by
 have q:=zai k d h;simp only [z9X,SeqAt.shaped,q.1];simp;omega
theorem eq_self{k:Nat}{d:D}(h:okD k d=true)(hk:k<=10)(s:Sto):dEq d d s=.ok (.bl true) s:=by
 have q:=zai k d h;have o:=zek h hk;rw [dEq,if_pos ⟨o,o⟩];simp only [eqD,q.2.2]
theorem ne_self{k:Nat}{d:D}(h:okD k d=true)(hk:k<=10)(s:Sto):dNe d d s=.ok (.bl false) s:=by
 have q:=zai k d h;have o:=zek h hk;rw [dNe,if_pos ⟨o,o⟩];simp only [eqD,q.2.2];rfl
end Pg
namespace Pm
end Pm
namespace Pg
open PySem.Spec L2 Dd Pm
theorem vr{i:Nat}{Z:Ev}{s:Sto}{d:D}(h:Z[i]? = some (some d)):zc i Z s=.ok d s:=by rw [zP,h]
theorem zgK{f g:FS}{t:FT}{Z:Ev}{s:Sto}(h:t Z s=.ok false s):fIf t f g Z s=g Z s:=by rw [jr,h,R.bind_ok,if_neg (by decide)]
theorem zh2{t u:FT}{Z:Ev}{s:Sto}(h:t Z s=.ok false s)(h2:u Z s=.ok false s):fOr t u Z s=.ok false s:=by rw [zjh,h,R.bind_ok,if_neg (by decide),h2]
theorem jv{f:FE}{Z:Ev}{s:Sto}{b:Bool}(h:f Z s=.ok (.bl b) s):tOf f Z s=.ok b s:=by rw [z82,h];rfl
theorem zeK{t:FT}{Z:Ev}{s:Sto}(h:t Z s=.ok true s):z3d t Z s=.ok false s:=by rw [za7,h];rfl
structure Sh(r:Rl)(n:Nat)(v:List Int)(ls:List (List Int))(z:List Int)(k:Nat)(B:Tb)(b:List Int):Prop where
 run:Run r v ls
 len:ls.length<=50000
 last:ls.getLast? = some z
 lot:Lot n z
 kn:k<n
 zk:z.getD k 0=zkj v
 zo:∀ j,j≠k->z.getD j 0=0
 g0:0<zkj v
 B_:B=ziJ (zcS n (yw r ls))
 tab:Tab n B
 bd:Bd 318 B
 fair:zjB (zcS n (yw r ls))
 ptab:Tab n (zcS n (yw r ls))
 pbd:Bd 104 (zcS n (yw r ls))
 mvB:mv B v=z
 at_:B[k]? = some b
 fz:B.filter (fun x=>decide (dot x v=0))=B.eraseIdx k
 fn:B.filter (fun x=>decide (dot x v≠0))=[b]
 det:((Pm.det 4 (v::B.eraseIdx k)).natAbs:Int)*zkj v=dot v v
end Pg
namespace Pm
def nrm(r a b c:Int):Int:=a*a*a+r*(b*b*b)+r*r*(c*c*c)-3*r*(a*b*c)
end Pm
namespace Pg
open PySem.Spec L2 Dd Pm
variable (Mr:Mir)
abbrev w1:FT:=tOf (eOp dLe (eOp zgt (zc 1) (eC (.int 3))) (zc 0))
abbrev w2:FT:=tOf (eOp dGt (eOp zgt (zc 1) (eC (.int 3))) (zc 0))
end Pg
namespace Pm
section
variable {r F G:Int}
structure A3(N:Nat)(a b c:Int):Prop where
 a:a.natAbs<=N
 b:b.natAbs<=N
 c:c.natAbs<=N
end
end Pm
namespace Pg
open PySem.Spec L2 Dd Pm
abbrev cD(a b c:Int):D:=.tup [.int a,.int b,.int c]
abbrev v1:FT:=tOf (eOp dLe (eOp xP (eOp xP (zc 2) (zc 2)) (zc 2)) (zc 0))
abbrev v2:FT:=tOf (eOp dGt (eOp zc3 (zc 2) (zc 1)) (eC (.int 1)))
theorem zaB{ar:FA}{Z:Ev}{s s1:Sto}{n:Nat}(hn:n<=1000)(h:ar Z s=.ok [.int n] s1):z73 ar Z s=.ok ((List.range n).map fun k:Nat=>D.int ((k:Nat):Int),[]) s1:=by
 rw [zdV,h,Dd.R.bind_ok];simp only;rw [if_pos ⟨by omega,by omega⟩];simp [yP]
theorem three{ys:List D}{Q:D->Prop}(h:ys.length=3)(hq:∀ y∈ys,Q y):∃ a b c,ys=[a,b,c]/\Q a/\Q b/\Q c:=by match ys,h with | [a,b,c],_=>exact ⟨a,b,c,rfl,hq a (by simp),hq b (by simp),hq c (by simp)⟩
end Pg
namespace Pm
abbrev P3:=Int×Int×Int
def nP(r:Int)(p:P3):Int:=nrm r p.1 p.2.1 p.2.2
def aP(N:Nat)(p:P3):Prop:=A3 N p.1 p.2.1 p.2.2
end Pm
namespace Pg
open PySem.Spec L2 Dd Pm
abbrev cP(p:P3):D:=cD p.1 p.2.1 p.2.2
theorem z8G{α:Type}{all:List D}{body:D->Sto->R (Option D)}(g:α->D)(P:Nat->Sto->Prop)(Q:D->Prop):∀ (l:List α)(j:Nat)(acc:List D)(s:Sto),(∀ i a,l[i]? = some a->∀ s,P (j+i) s->∃ y s',body (g a) s=.ok (some y) s'/\Q y/\P (j+i+1) s')->acc.length+l.length<=cap->P j s->(∀ y∈acc,Q y)->∃ ys s',qg [] all body (l.map g) acc s=.ok ys s'/\ys.length=acc.length+l.length/\(∀ y∈ys,Q y)/\P (j+l.length) s'
 | [],j,acc,s,_,_,hP,hQ=>⟨acc,s,by simp [qg,okG],by simp,hQ,hP⟩ | x::xs,j,acc,s,hb,hl,hP,hQ=>by
  obtain ⟨y,s1,e,hy,hP1⟩:=hb 0 x (by simp) s hP;obtain ⟨ys,s2,e2,h1,h2,h3⟩:=z8G (all:=all) g P Q xs (j+1) (acc++[y]) s1 (fun i a ha s h=>by
   have:=hb (i+1) a (by simpa using ha) s (by rw [show j+(i+1)=j+1+i by omega];exact h);rw [show j+(i+1)+1=j+1+i+1 by omega] at this;exact this) (by simp at hl ⊢;omega) hP1 (by
   intro z hz;rcases List.mem_append.mp hz with hz | hz;·exact hQ z hz
   ·simp at hz;rw [hz];exact hy);refine ⟨ys,s2,?_,by simp at h1 ⊢;omega,h2,by rw [List.length_cons,show j+(xs.length+1)=j+1+xs.length by omega];exact h3⟩;rw [List.map_cons,qg,if_pos (by intro p hp;simp at hp),e];have hc:acc.length<cap:=by simp at hl;omega
  simp [hc,e2]
theorem zcV {α:Type} {fi:FI} {mp:List (Option Nat)} {fg:FG} {fe:FE} {Z:Ev} {s s0:Sto} (g:α->D) (ev:α->Ev) (P:Nat->Sto->Prop) (Q:D->Prop) (l:List α) (hi:fi Z s=.ok (l.map g,[]) s0) (hg:∀ a∈l,∀ s,fg (g a) (wv mp Z) s=.ok (ev a) s) (he:∀ i a,l[i]? = some a->∀ s,P i s->∃ y s',fe (ev a) s=.ok y s'/\Q y/\P (i+1) s') (hl:l.length<=cap) (hP:P 0 s0): ∃ ys s',z6r fi mp fg yU fe Z s=.ok ys s'/\ys.length=l.length/\(∀ y∈ys,Q y)/\P l.length s':=by
 obtain ⟨ys,s',e,h1,h2,h3⟩:=z8G (all:=l.map g) (body:=fun d s=>(fg d (wv mp Z) s).bind fun Z' s1=>(yU Z' s1).bind fun t s2=>if t=true then (fe Z' s2).bind fun y s3=>.ok (some y) s3 else .ok none s2) g P Q l 0 [] s0 (fun i a ha s hP=>by
  rw [Nat.zero_add] at hP ⊢;obtain ⟨y,s',e,hq,hp⟩:=he i a ha s hP;exact ⟨y,s',by simp [hg a (List.mem_of_getElem? ha) s,e],hq,hp⟩) (by simpa using hl) hP (by simp);refine ⟨ys,s',?_,by simpa using h1,h2,by simpa using h3⟩;rw [z0A,hi,Dd.R.bind_ok];exact e
theorem zdy{α:Type}{fi:FI}{mp:List (Option Nat)}{fg:FG}{fe:FE}{Z:Ev}{s s0:Sto}(g:α->D)(ev:α->Ev)(P:Nat->Sto->Prop)(Q:D->Prop)(l:List α) (hi:fi Z s=.ok (l.map g,[]) s0)(hg:∀ a∈l,∀ s,fg (g a) (wv mp Z) s=.ok (ev a) s)(he:∀ i a,l[i]? = some a->∀ s,P i s->∃ y s',fe (ev a) s=.ok y s'/\Q y/\P (i+1) s')(hl:l.length<=cap)(hP:P 0 s0)(hf:∀ y,Q y->y.flat=true): ∃ ys s',z3Z fi mp fg yU fe Z s=.ok (.loc s'.length) (s'++[ys])/\ys.length=l.length/\(∀ y∈ys,Q y)/\P l.length s':=by
 obtain ⟨ys,s',e,h1,h2,h3⟩:=zcV g ev P Q l hi hg he hl hP;have fl:∀ zs:List D,(∀ y∈zs,Q y)->D.flat.flats zs=true:=fun zs=>by induction zs with
  | nil=>intro _;rfl | cons z zs ih=>intro hz;simp only [D.flat.flats,Bool.and_eq_true];exact ⟨hf z (hz z (by simp)),ih fun y hy=>hz y (by simp [hy])⟩
 exact ⟨ys,s',by rw [zd7,e,Dd.R.bind_ok,if_pos (fl ys h2)],h1,h2,h3⟩
def IsC(r:Int)(N:Nat)(y:D):Prop:=∃ p:P3,y=cP p/\aP N p/\0<=nP r p
end Pg
namespace Pp
open PySem.Spec L2 Dd
def ky(c:List Int):List Key:=c.map Sum.inl
def kvC(F:List (List Int)):List (List Key×V):=F.map fun c=>(ky c,V.bl true)
def zgo(F:List (List Int))(c:List Int):List (List Int):=if c∈F then F else F++[c]
theorem zec:∀ {a b:List Int},ky a=ky b->a=b
 | [],[],_=>rfl | [],_::_,h=>by simp [ky] at h | _::_,[],h=>by simp [ky] at h | x::a,y::b,h=>by
  simp only [ky,List.map_cons,List.cons.injEq,Sum.inl.injEq] at h;rw [h.1,zec (a:=a) (b:=b) h.2]
theorem zff(F:List (List Int))(c:List Int):((kvC F).any fun kv=>decide (kv.1=ky c))=decide (c∈F):=by induction F with
 | nil=>simp [kvC] | cons a F ih=>
  have e:kvC (a::F)=(ky a,V.bl true)::kvC F:=rfl;rw [e,List.any_cons,ih];by_cases h:a=c;·subst h;simp
  ·have:¬ ky a=ky c:=fun z=>h (zec z);have h':¬ c=a:=fun z=>h z.symm;simp [this,h']
theorem zfd(F:List (List Int))(c:List Int):z40 (kvC F) (ky c) (V.bl true)=kvC (zgo F c):=by
 unfold z40 zgo;rw [zff];by_cases h:c∈F
 ·simp only [h,decide_true,if_true];clear h;induction F with
  | nil=>rfl | cons a F ih=>
   have e:kvC (a::F)=(ky a,V.bl true)::kvC F:=rfl;rw [e,List.map_cons,ih];split<;>rfl
 ·simp only [h,decide_false,Bool.false_eq_true,if_false];simp [kvC]
theorem zeX(c:List Int):(ky c).map z74=c.map D.int:=by simp [ky,z74]
theorem zcv(F:List (List Int)):z7R (kvC F)=F.map fun c=>D.tup (c.map D.int):=by
 simp only [z7R,kvC,List.map_map];congr 1;funext c;simp [zeX]
theorem zd4(F:List (List Int)):zg7 (kvC F):=fun p hp=>by
 obtain ⟨c,_,rfl⟩:=List.mem_map.mp hp;rfl
theorem zbG(F:List (List Int)):z9k (ub (kvC F))=some (kvC F):=dec_enc (zd4 F)
theorem z5R:∀ c:List Int,z0E (c.map D.int)=some (ky c)
 | []=>rfl | i::c=>by simp [z0E,z5R c,ky]
theorem zeU(F:List (List Int)):(kvC F).length=F.length:=by simp [kvC]
theorem zcP(F:List (List Int))(c:List Int):(zgo F c).length<=F.length+1:=by unfold zgo;split<;>simp
theorem zcE{Z:Ev}{S:Sto}{i j l:Nat}{F:List (List Int)}{c:List Int}(hi:Z[i]? = some (some (.dlo l)))(hj:Z[j]? = some (some (.tup (c.map D.int))))(hS:S[l]? = some (ub (kvC F)))(hl:F.length<cap): zbC (zc i) (zc j) (eC (.bl true)) Z S=.ok (.nx Z) (S.set l (ub (kvC (zgo F c)))):=by
 have e1:zc i Z S=.ok (.dlo l) S:=by rw [zP,hi]
 have e2:zc j Z S=.ok (.tup (c.map D.int)) S:=by rw [zP,hj]
 have e3:eC (.bl true) Z S=.ok (.bl true) S:=by simp
 unfold zbC;rw [e3,R.bind_ok,e1,R.bind_ok,e2,R.bind_ok];simp only [vV];rw [hS];simp only [Option.bind_some,zbG,z5R];rw [if_pos (by rw [zeU];exact hl),zfd]
open Pm Pg
def zc5(F:List (List Int))(c:List Int):List (List Int):=if c.getLast? = some 0 then F else zgo F c
def ziV(F:List (List Int))(P:Tb):List (List Int):=(yf P).foldl zc5 F
def zcI(F:List (List Int))(Ps:List Tb):List (List Int):=Ps.foldl ziV F
theorem z8j(F:List (List Int))(c:List Int):(zc5 F c).length<=F.length+1:=by
 unfold zc5;split;·omega
 ·exact zcP F c
abbrev evC(d e p z:Option D)(l:Nat):Ev:=[d,e,some (.dlo l),p,z]
theorem zay(s:Sto)(a b:List D):(s++[a]).set s.length b=s++[b]:=by rw [List.set_append_right _ _ (by omega)];simp
theorem zm3 (d e p:Option D) {s:Sto} {F:List (List Int)} {c:List Int} (hc:c≠[]) (hl:F.length<cap): ql (evC d e p (some (rD c)) s.length) (s++[ub (kvC F)])=.ok (.nx (evC d e p (some (rD c)) s.length)) (s++[ub (kvC (zc5 F c))]):=by
 obtain ⟨pre,x,rfl⟩:∃ pre x,c=pre++[x]:=⟨c.dropLast,c.getLast hc,(List.dropLast_concat_getLast hc).symm⟩;have put:=zcE (Z:=evC d e p (some (rD (pre++[x]))) s.length) (S:=s++[ub (kvC F)]) (i:=2) (j:=4) (l:=s.length) (F:=F) (c:=pre++[x]) rfl rfl (by simp) hl;rw [zay] at put;have ix:=z0C (x:=rD (pre++[x])) (d:=.int x) (xs:=iL pre) (s:=s++[ub (kvC F)]) (by simp [zL,iL]);have ee:eOp dIx (zc 4) (ua (eC (.int 1))) (evC d e p (some (rD (pre++[x]))) s.length) (s++[ub (kvC F)])=.ok (.int x) (s++[ub (kvC F)]):=by rw [op2 (x:=rD (pre++[x])) (y:=.int (-1)) (by simp) (by simp)];exact ix
 have tt:tOf (eOp dNe (eOp dIx (zc 4) (ua (eC (.int 1)))) (eC (.int 0))) (evC d e p (some (rD (pre++[x]))) s.length) (s++[ub (kvC F)])=.ok (!decide (x=0)) (s++[ub (kvC F)]):=by
  refine jv ?_;rw [op2 ee (y:=.int 0) (by simp)];simp [dNe,z9X,SeqAt.shaped,uc,PyData.canLay0,PyData.depth,eqD,PyData.eqv];by_cases hx:x=0<;>simp [hx]
 unfold ql;rw [jr,tt,R.bind_ok];by_cases hx:x=0
 ·subst hx;simp [zc5]
 ·rw [if_pos (by simp [hx])];unfold z2M;rw [put,zc5,if_neg (by simp [hx])]
theorem ziE (d e p:Option D) (s:Sto) (all:List D):∀ (cs:List (List Int)) (F:List (List Int)) (z:Option D),(∀ c∈cs,c≠[])->F.length+cs.length<cap-> ∃ z',xJ [] all (fun x Z s=>(wb 4 x Z s).bind fun Z' s'=>ql Z' s') (cs.map rD) (evC d e p z s.length) (s++[ub (kvC F)])=.ok (.nx (evC d e p z' s.length)) (s++[ub (kvC (cs.foldl zc5 F))])
 | [],F,z,_,_=>⟨z,by simp [xJ,okG]⟩ | c::cs,F,z,h,hl=>by
  have b:=zm3 d e p (s:=s) (F:=F) (h c (by simp)) (by simp at hl;omega);obtain ⟨z',ih⟩:=ziE d e p s all cs (zc5 F c) (some (rD c)) (fun y hy=>h y (by simp [hy])) (by have:=z8j F c;simp at hl;omega);refine ⟨z',?_⟩;rw [List.map_cons,xJ,if_pos (by intro p hp;simp at hp),z1W,R.bind_ok];simp only [evC,List.set_cons_succ,List.set_cons_zero] at b ih ⊢;rw [b,R.bind_ok];simp only;rw [ih,List.foldl_cons]
theorem zly(d e z:Option D){n:Nat}{P:Tb}{s:Sto}{F:List (List Int)}(hn:Sz n)(hP:Tab n P)(hl:F.length+4<cap): ∃ z',qq (evC d e (some (tD P)) z s.length) (s++[ub (kvC F)])=.ok (.nx (evC d e (some (tD P)) z' s.length)) (s++[ub (kvC (ziV F P))]):=by
 have hn':n<=4/\2<=n:=by have:=hn;simp only [Sz] at this;omega
 have cl:(yf P).length=n:=by rw [yf];simp [hP.len]
 have cc:=qP (T:=P) (s++[ub (kvC F)]) (fun r hr=>by rw [hP.row r hr,hP.len];omega) (by rw [hP.len];omega);obtain ⟨z',lp⟩:=ziE d e (some (tD P)) s ((yf P).map rD) (yf P) F z (fun c hc=>by
  simp only [yf,List.mem_map] at hc;obtain ⟨j,hj,rfl⟩:=hc;intro z;have:P.length=0:=by simpa using congrArg List.length z
  rw [hP.len] at this;omega) (by rw [cl];omega);refine ⟨z',?_⟩;have c1:ze zR (za (zc 3) zj) (evC d e (some (tD P)) z s.length) (s++[ub (kvC F)])=.ok (.tup ((yf P).map rD)) (s++[ub (kvC F)]):=by rw [vO (x:=tD P) (by simp)];exact cc
 rw [qq,z38,z1v c1,R.bind_ok];exact lp
theorem zcM{n:Nat}{P:Tb}(F:List (List Int))(hP:P.length=n):(ziV F P).length<=F.length+n:=by
 have:∀ (cs:List (List Int))(F:List (List Int)),(cs.foldl zc5 F).length<=F.length+cs.length:=by
  intro cs;induction cs with
  | nil=>intro F;simp | cons c cs ih=>intro F;rw [List.foldl_cons];have:=ih (zc5 F c);have:=z8j F c;simp;omega
 have h:=this (yf P) F;have cl:(yf P).length=n:=by rw [yf];simp [hP]
 rw [cl] at h;exact h
theorem zhJ {n:Nat} (d e:Option D) (s:Sto) (all:List D) (hn:Sz n):∀ (Ps:List Tb) (F:List (List Int)) (p z:Option D),(∀ P∈Ps,Tab n P)->F.length+4*Ps.length+4<cap-> ∃ p' z',xJ [] all (fun x Z s=>(wb 3 x Z s).bind fun Z' s'=>qq Z' s') (Ps.map tD) (evC d e p z s.length) (s++[ub (kvC F)])=.ok (.nx (evC d e p' z' s.length)) (s++[ub (kvC (zcI F Ps))])
 | [],F,p,z,_,_=>⟨p,z,by simp [xJ,okG,zcI]⟩ | P::Ps,F,p,z,h,hl=>by
  obtain ⟨z1,b⟩:=zly d e z (s:=s) (F:=F) hn (h P (by simp)) (by simp at hl;omega);have hn':n<=4/\2<=n:=by have:=hn;simp only [Sz] at this;omega
  obtain ⟨p',z',ih⟩:=zhJ d e s all hn Ps (ziV F P) (some (tD P)) z1 (fun y hy=>h y (by simp [hy])) (by have:=zcM F (h P (by simp)).len;simp at hl;omega);refine ⟨p',z',?_⟩;rw [List.map_cons,xJ,if_pos (by intro p hp;simp at hp),z1W,R.bind_ok];simp only [evC,List.set_cons_succ,List.set_cons_zero] at b ih ⊢;rw [b,R.bind_ok];simp only;rw [ih];rfl
theorem kJ {n:Nat} {v:List Int} (h:Lot n v) (h0:v.getLast? ≠ some 0) (s:Sto):zO [rD v] s=.ok .non s:=by
 have w:=jm h s;have ne:v≠[]:=by intro z;have:=h.len;have:=h.sz;subst z;simp at *;omega
 obtain ⟨pre,x,rfl⟩:∃ pre x,v=pre++[x]:=⟨v.dropLast,v.getLast ne,(List.dropLast_concat_getLast ne).symm⟩;have ix:=z0C (x:=rD (pre++[x])) (d:=.int x) (xs:=iL pre) (s:=s) (by simp [zL,iL]);have hx:x≠0:=fun z=>h0 (by simp [z]);have key:∀ d:D,yp [d] s=.ok .non s->dIx d (.int (-1)) s=.ok (.int x) s->zO [d] s=.ok .non s:=fun d h1 h2=>by
  have st:zr ["lot"] [d]=[some d]:=rfl;simp only [zO,Mof,jF,st,List.length_cons,List.length_nil,if_true];rw [zu (Z':=[some d]) (s':=s) (by simp [h1])];have ee:eOp dIx (zc 0) (ua (eC (.int 1))) [some d] s=.ok (.int x) s:=by rw [op2 (x:=d) (y:=.int (-1)) (by simp) (by simp)];exact h2
  have tt:tOf (eOp dEq (eOp dIx (zc 0) (ua (eC (.int 1)))) (eC (.int 0))) [some d] s=.ok false s:=by
   refine jv ?_;rw [op2 ee (y:=.int 0) (by simp)];simp [dEq,z9X,SeqAt.shaped,uc,PyData.canLay0,PyData.depth,eqD,PyData.eqv,hx]
  unfold qT;rw [zgK tt];rfl
 exact key _ w ix
theorem z8E(xs:List D)(i:Nat):Dd.cutD xs (some (i:Int)) none=xs.drop i:=by
 have:=z0B xs i [];simpa [dSl] using this
theorem zd2{n m:Nat}{r:Rl}{c:List Int}{ls:List (List Int)}(Rn:Run r c ls):LotB n m c->∀ P:Tb,Tab n P->∀ Q∈uy P (yw r ls),Tab n Q:=by induction Rn with
 | done he=>intro h P hP Q hQ;simp [yw,uy] at hQ;subst hQ;exact hP | @step v ls he R2 ih=>
  intro h P hP Q hQ;rw [R2.tabs_cons,uy] at hQ;rcases List.mem_cons.mp hQ with rfl | hQ;·exact hP
  ·exact ih (h.step r he) _ (z8H hP (z1y r h.toLot he)) Q hQ
def zjs(n:Nat)(r:Rl)(ls:List (List Int)):List (List Int):=zcI [] ((uy (one n) (yw r ls)).drop 1)
theorem zbP {n m:Nat} {v:List Int} {ls:List (List Int)} (r:Rl) (h:LotB n m v) (h0:v.getLast? ≠ some 0) (Rn:Run r v ls) (hm:m<=1999) (hl:ls.length<=20000) (s:Sto): z01 [.str (nmR r),rD v] s=.ok (.loc (s.length+1)) (s++[ub (kvC (zjs n r ls))]++[(zjs n r ls).map rD]):=by
 have w1:=kG r s;have w2:=kJ h.toLot h0 s;have pr:=z57 r h Rn hm (by omega) (s++[ub (kvC [])]);have tl:(yw r ls).length<=20000:=by simp [yw];omega
 have lp:=fun d e=>zhJ (n:=n) d e s (((uy (one n) (yw r ls)).drop 1).map tD) h.sz ((uy (one n) (yw r ls)).drop 1) [] none none (fun P hP=>zd2 Rn h (one n) (z7D n) P (List.mem_of_mem_drop hP)) (by
  have:=z63 (yw r ls) (one n);simp [cap];omega);unfold zjs;generalize uy (one n) (yw r ls)=Ps at pr lp ⊢;have key:∀ d e:D,xf [d] s=.ok .non s->zO [e] s=.ok .non s->yu [d,e] (s++[ub (kvC [])])=.ok (.loc (s++[ub (kvC [])]).length) (s++[ub (kvC [])]++[Ps.map tD])-> z01 [d,e] s=.ok (.loc (s.length+1)) (s++[ub (kvC (zcI [] (Ps.drop 1)))]++[(zcI [] (Ps.drop 1)).map rD]):=fun d e h1 h2 h3=>by
  have st:zr ["rule","lot","found","product","column"] [d,e]=[some d,some e,none,none,none]:=rfl;simp only [z01,Mof,z3M,st,List.length_cons,List.length_nil,if_true];rw [zu (Z':=[some d,some e,none,none,none]) (s':=s) (by simp [h1])];rw [zu (Z':=[some d,some e,none,none,none]) (s':=s) (by simp [h2])];rw [zu (Z':=evC (some d) (some e) none none s.length) (s':=s++[ub (kvC [])]) (by rfl)];obtain ⟨p',z',lp⟩:=lp (some d) (some e);have f1:z4H (ze yu (za (zc 0) (za (zc 1) zj))) (evC (some d) (some e) none none s.length) (s++[ub (kvC [])])=.ok (.lst (Ps.map tD)) (s++[ub (kvC [])]):=by rw [zbz,call2 (x:=d) (y:=e) (by simp) (by simp),h3,z8F]
  have f2:eSl (z4H (ze yu (za (zc 0) (za (zc 1) zj)))) (yE (eC (.int 1))) zW (evC (some d) (some e) none none s.length) (s++[ub (kvC [])])=.ok (.lst ((Ps.drop 1).map tD)) (s++[ub (kvC [])]):=by
   rw [z36,f1,R.bind_ok];simp only [R.bind_ok,xQ,wA,jn,dSl,Dd.listOf];rw [show (1:Int)=((1:Nat):Int) from rfl,z8E,List.map_drop]
  rw [zu (Z':=evC (some d) (some e) p' z' s.length) (s':=s++[ub (kvC (zcI [] (Ps.drop 1)))]) (by
   rw [kh,z38,ul f2,R.bind_ok];exact lp)];rw [jT,yC,vO (x:=.dlo s.length) (by simp)];have e1:z2z [.dlo s.length] (s++[ub (kvC (zcI [] (Ps.drop 1)))])=.ok (.loc (s.length+1)) (s++[ub (kvC (zcI [] (Ps.drop 1)))]++[(zcI [] (Ps.drop 1)).map rD]):=by
   unfold z2z;simp only [List.getElem?_append_right (Nat.le_refl _),Nat.sub_self,List.getElem?_cons_zero,Option.bind_some,zbG,zcv,List.length_append,List.length_cons,List.length_nil]
  rw [e1];rfl
 exact key _ _ w1 w2 pr
end Pp
namespace Pn
open PySem.Spec L2 Dd Pm Pg
def isI:D->Bool
 | .int _=>true | _=>false
def okI:D->Bool
 | .int i=>decide (0<=i) | _=>false
theorem kc{d:D}(h:(tyD d).isSome=true)(s:Sto):yy [d] s=.ok (.bl (isI d)) s:=by cases d<;>simp [tyD] at h<;>simp [yy,Mof,kb,zr,gIs,tyD,isT,isI]
theorem z6J{d:D}(h:(tyD d).isSome=true)(s:Sto):jc [d] s=.ok (.bl (isI d)) s:=by cases d<;>simp [tyD] at h<;>simp [jc,Mof,z04,zr,gIs,tyD,isT,isI]
def Kd:D->Prop
 | .tup xs=>∀ x∈xs,(tyD x).isSome=true | .scr _=>False | d=>(tyD d).isSome=true
theorem Kd.ty{d:D}(h:Kd d):(tyD d).isSome=true:=by cases d<;>first | rfl | exact h | exact (show False from h).elim
theorem all_ints:∀ {xs:List D},xs.all isI=true->∃ v:List Int,xs=iL v
 | [],_=>⟨[],rfl⟩ | x::xs,h=>by
  rw [List.all_cons,Bool.and_eq_true] at h;obtain ⟨v,rfl⟩:=all_ints h.2;cases x with
  | int i=>exact ⟨i::v,rfl⟩ | _=>simp [isI] at h
theorem za5:∀ {v w:List Int},iL v=iL w->v=w
 | [],[],_=>rfl | [],_::_,h=>by simp at h | _::_,[],h=>by simp at h | a::v,b::w,h=>by
  simp only [iL,List.map_cons,List.cons.injEq,D.int.injEq] at h;rw [h.1,za5 (v:=v) (w:=w) h.2]
theorem zas(v:List Int):(iL v).all okI=v.all fun x=>decide (0<=x):=by
 simp only [iL,List.all_map];rfl
theorem zcX{α:Type}(l:List α)(p:α->Bool)(s:Sto):zdM [.lst (l.map fun x=>D.bl (p x))] s=.ok (.bl (l.all p)) s:=by
 have b:bools (l.map fun x=>D.bl (p x))=some (l.map p):=by
  rw [show (l.map fun x=>D.bl (p x))=(l.map p).map D.bl by rw [List.map_map];rfl];exact z2Q _
 simp [zdM,zL,b]
theorem z4M {xs:List D} (hk:∀ x∈xs,(tyD x).isSome=true) (s:Sto) (h:xs.length<=1000):zX [.tup xs,.int xs.length] s=.ok (.bl (xs.all isI)) s:=by
 have st:zr ["thing","many"] [.tup xs,.int xs.length]=[some (.tup xs),some (.int xs.length)]:=rfl;simp only [zX,Mof,qc,st,List.length_cons,List.length_nil,if_true];rw [zu (Z':=[some (.tup xs),some (.int xs.length)]) (s':=s) (by simp [gIs,tyD,isT,xK,zL])];have c:=comp_map (fi:=yF (zc 0)) (mp:=[none]) (fg:=wb 0) (fe:=ze yy (za (zc 0) zj)) (Z:=[some (.tup xs),some (.int xs.length)]) (s:=s) (fun x=>x) (fun x=>D.bl (isI x)) (fun x=>[some x]) xs (by simp) (fun a _=>by simp) (fun a ha=>by simp [kc (hk a ha)]) (by simp [cap];omega);simp only [jP,yC,ym,zt,zG,c,R.bind_ok,zcX]
theorem z1f{t:Option D}(s:Sto):∀ (xs all:List D)(z:Option D),(∀ x∈xs,(tyD x).isSome=true)-> if xs.all okI=true then ∃ z',xJ [] all (fun d Z s=>(wb 1 d Z s).bind fun Z' s'=>xD Z' s') xs [t,z] s=.ok (.nx [t,z']) s else xJ [] all (fun d Z s=>(wb 1 d Z s).bind fun Z' s'=>xD Z' s') xs [t,z] s=.ok (.rt (.bl false)) s
 | [],all,z,_=>by simp [xJ,okG] | x::xs,all,z,hk=>by
  have hx:=hk x (by simp);have ih:=z1f (t:=t) s xs all (some x) fun y hy=>hk y (by simp [hy]);have og:okG [] all s:=by intro p hp;simp at hp
  have step:xD [t,some x] s=if okI x=true then .ok (.nx [t,some x]) s else .ok (.rt (.bl false)) s:=by
   have w:=z6J hx s;cases x with
   | int i=>
    by_cases h0:0<=i
    ·have:¬ i<0:=by omega
     simp [w,isI,okI,h0,this]
    ·have:i<0:=by omega
     simp [w,isI,okI,h0,this] | _=>simp [w,isI,okI]
  simp only [xJ,if_pos og,z1W,R.bind_ok,List.set_cons_succ,List.set_cons_zero,step];cases h:okI x with
  | true=>
   simp only [if_true,R.bind_ok,List.all_cons,h,Bool.true_and];exact ih | false=>simp [h]
theorem zeQ{xs:List D}(h:xs.all okI=true):xs.all isI=true:=by
 rw [List.all_eq_true] at h ⊢;intro x hx;have:=h x hx;cases x<;>simp_all [okI,isI]
theorem zd9{d:D}(hd:Kd d)(s:Sto):(∃ n v,d=rD v/\Lot n v/\yh [d] s=.ok (.bl true) s/\yZ [d] s=.ok (.bl true) s)\/(yh [d] s=.ok (.bl false) s/\yZ [d] s=.ok (.bl false) s):=by cases d with
  | tup xs=>
    have hk:∀ x∈xs,(tyD x).isSome=true:=hd;by_cases hs:2<=xs.length/\xs.length<=4
    · have h1:=z0r xs s hs;have h2:=z4M hk s (by omega);have gl:xK [.tup xs] s=.ok (.int xs.length) s:=by simp [xK,zL]
      have lf:jb [some (.tup xs),none] s=.ok (.nx [some (.tup xs),none]) s:=by
        have:z9T true (.int (xs.length:Int)) (.tup [.int 2,.int 3,.int 4]) s=.ok (.bl false) s:=by
          have hc:xs.length=2\/xs.length=3\/xs.length=4:=by omega
          rcases hc with hc | hc | hc<;>rw [hc]<;>rfl
        simp [gIs,tyD,isT,gl,this,cap]
      have lp:=z1f (t:=some (.tup xs)) s xs xs none hk;have st:zr ["_law_thing","_law_number"] [.tup xs]=[some (.tup xs),none]:=rfl;have lw:yZ [.tup xs] s=(match zQ xy wc [some (.tup xs),none] s with | .ok (.rt d) s'=>.ok d s' | .ok (.nx _) s'=>.ok .non s' | _=>.no):=by
        simp only [yZ,Mof,wH,st,List.length_cons,List.length_nil,if_true];rw [zu lf]<;>(generalize zQ xy wc [some (.tup xs),none] s=r;cases r with
          | ok fl _=>cases fl<;>rfl | _=>rfl)
      have q3:xy [some (.tup xs),none] s=xJ [] xs (fun d Z s=>(wb 1 d Z s).bind fun Z' s'=>xD Z' s') xs [some (.tup xs),none] s:=by
        rw [xy,z38];simp only [z7b,zP,List.getElem?_cons_zero,R.bind_ok]
      have pg:∀ b,(∀ v:List Int,xs=iL v->(decide (0<=minL v)&&decide (0<maxL v))=b)->(xs.all isI=false->b=false)->yh [.tup xs] s=.ok (.bl b) s:=fun b hb hb2=>by cases hi:xs.all isI with
        | false=>
          rw [hi] at h2;rw [hb2 hi];have key:∀ d:D,yb [d] s=.ok (.bl true) s->xK [d] s=.ok (.int xs.length) s->zX [d,.int xs.length] s=.ok (.bl false) s->yh [d] s=.ok (.bl false) s:=fun d a1 a2 a3=>by simp [yh,Mof,vG,zr,a1,a2,a3]
          exact key _ h1 gl h2 | true=>
          rw [hi] at h2;obtain ⟨v,rfl⟩:=all_ints hi;have ne:v≠[]:=by rintro rfl;simp at hs
          have g1:=z67 s ne;have g2:=ze2 s ne;have hb:=hb v rfl;have key:∀ d:D,yb [d] s=.ok (.bl true) s->xK [d] s=.ok (.int (iL v).length) s->zX [d,.int (iL v).length] s=.ok (.bl true) s->vx [d] s=.ok (.int (maxL v)) s->z3m [d] s=.ok (.int (minL v)) s->yh [d] s=.ok (.bl b) s:=fun d a1 a2 a3 a4 a5=>by
            rw [<- hb];by_cases z:0<=minL v;· simp [yh,Mof,vG,zr,a1,a2,a3,a4,a5,z,-List.length_map]
            · simp [yh,Mof,vG,zr,a1,a2,a3,a4,a5,z,-List.length_map]
          exact key _ h1 gl h2 g1 g2
      cases ho:xs.all okI with
      | false=>
        right;rw [ho,if_neg (by decide)] at lp;refine ⟨pg false (fun v hv=>?_) (fun _=>rfl),?_⟩
        · subst hv;rw [zas] at ho;rw [Bool.and_eq_false_iff];left;rw [decide_eq_false_iff_not];intro z;have ne:v≠[]:=by rintro rfl;simp at hs
          have:v.all (fun x=>decide (0<=x))=true:=by
            rw [List.all_eq_true];intro x hx;have:=minL_le (xs:=v) x hx;exact decide_eq_true (by omega)
          rw [this] at ho;cases ho
        · rw [lw,zbq (by rw [q3];exact lp)] | true=>
        rw [ho,if_pos rfl] at lp;obtain ⟨z',lp⟩:=lp;obtain ⟨v,rfl⟩:=all_ints (zeQ ho);have ne:v≠[]:=by rintro rfl;simp at hs
        rw [zas,List.all_eq_true] at ho;have nn:∀ x∈v,0<=x:=fun x hx=>of_decide_eq_true (ho x hx);have mn:0<=minL v:=nn _ (minL_mem ne);have g1:=z67 s ne;have lw2:yZ [.tup (iL v)] s=.ok (.bl (decide (0<maxL v))) s:=by
          rw [lw,zu (by rw [q3];exact lp)];have key:∀ d:D,vx [d] s=.ok (.int (maxL v)) s->wc [some d,z'] s=.ok (.rt (.bl (decide (0<maxL v)))) s:=fun d a=>by simp [a]
          rw [key _ g1]
        by_cases mx:0<maxL v
        · left;have hv:Lot v.length v:=by refine ⟨?_,?_,nn,⟨maxL v,maxL_mem ne,mx⟩⟩<;>first | rfl | (simp at hs;omega) | skip
          refine ⟨v.length,v,rfl,hv,z8D hv s,?_⟩;rw [lw2,decide_eq_true mx]
        · right;refine ⟨pg false (fun w hw=>?_) (fun _=>rfl),?_⟩
          · have:v=w:=za5 hw;subst this;rw [decide_eq_false mx,Bool.and_false]
          · rw [lw2,decide_eq_false mx]
    · right;have e:(decide ((2:Int)<=xs.length)&&decide ((xs.length:Int)<=4))=false:=by
        by_cases a:(2:Int)<=xs.length
        · have:¬ (xs.length:Int)<=4:=by omega
          simp [a,this]
        · simp [a]
      constructor
      · have h1:yb [.tup xs] s=.ok (.bl false) s:=by
          by_cases a:(2:Int)<=xs.length
          · have:¬ (xs.length:Int)<=4:=by omega
            simp [yb,Mof,vH,zr,gIs,tyD,isT,xK,zL,a,this]
          · simp [yb,Mof,vH,zr,gIs,tyD,isT,xK,zL,a]
        have key:∀ d:D,yb [d] s=.ok (.bl false) s->yh [d] s=.ok (.bl false) s:=fun d a1=>by simp [yh,Mof,vG,zr,a1]
        exact key _ h1
      · have gl:xK [.tup xs] s=.ok (.int xs.length) s:=by simp [xK,zL]
        have q:z9T true (.int (xs.length:Int)) (.tup [.int 2,.int 3,.int 4]) s=.ok (.bl true) s:=by
          have h2:xs.length≠2:=by omega
          have h3:xs.length≠3:=by omega
          have h4:xs.length≠4:=by omega
          generalize xs.length=m at h2 h3 h4;have g2:¬ (2:Int)=m:=by omega
          have g3:¬ (3:Int)=m:=by omega
          have g4:¬ (4:Int)=m:=by omega
          have e:inV (.int (m:Int)) [.int 2,.int 3,.int 4]=false:=by simp [inV,eqV,g2,g3,g4]
          simp [z9T,z2k,zL,jj,e]
        simp [yZ,Mof,wH,zr,gIs,tyD,isT,gl,q,cap] | scr _=>exact hd.elim | _=>
    right;have hd:=hd.ty;first
    | (exfalso;simp [tyD] at hd;done)
    | (constructor;· simp [yh,Mof,vG,yb,vH,zr,gIs,tyD,isT]
       · simp [yZ,Mof,wH,zr,gIs,tyD,isT])
end Pn
namespace Pp
open PySem.Spec L2 Dd Pm Pg Pn
def z7c(a c:Int):Int:=if c<2*(a % c) then a / c+1 else a / c
theorem zgY {a c:Int} (hc:0<c) (hb:c.natAbs<BIG) (s:Sto):yj [.int a,.int c] s=.ok (.int (z7c a c)) s:=by
 have st:zr ["number","by","whole","rest"] [.int a,.int c]=[some (.int a),some (.int c),none,none]:=rfl;have b1:(0:Int)<=a % c:=Int.emod_nonneg _ (by omega);have b2:a % c<c:=Int.emod_lt_of_pos _ hc;have b3:(a % c).natAbs<BIG:=by omega
 have b4:(2:Int).natAbs<BIG:=by decide +kernel
 have g:z1Z [.int a,.int c] s=.ok (.tup [.int (a / c),.int (a % c)]) s:=by simp only [z1Z];rw [if_pos ⟨hc,hb⟩]
 simp only [yj,Mof,qD,st,List.length_cons,List.length_nil,if_true];generalize ha:a / c=A at g;generalize hr:a % c=B at g b1 b2 b3;rw [zu (Z':=[some (.int a),some (.int c),some (.int A),some (.int B)]) (s':=s) (by
  rw [uI,zak,call2 (x:=.int a) (y:=.int c) (by simp) (by simp),g];rfl)];have m:xP (.int 2) (.int B) s=.ok (.int (2*B)) s:=by rw [z4f,if_pos ⟨b4,b3⟩]
 have t:tOf (eOp dGt (eOp xP (eC (.int 2)) (zc 3)) (zc 1)) [some (.int a),some (.int c),some (.int A),some (.int B)] s=.ok (decide (c<2*B)) s:=by
  refine jv ?_;rw [op2 (x:=.int (2*B)) (y:=.int c) (by rw [op2 (x:=.int 2) (y:=.int B) (by simp) (by simp),m]) (by simp)];rfl
 rw [uO,yC];simp only [zg0,t,R.bind_ok];unfold z7c;rw [ha,hr];by_cases h:c<2*B;·simp [h]
 ·simp [h]
structure Bot(n m:Nat)(ps:List Int)(q:Int):Prop where
 lot:LotB n m (ps++[q])
 pos:0<q
def z3s(b q:Int)(p:Int):Int:=z7c (b*p) q
theorem zfZ{a c:Int}(hc:0<c)(ha:0<=a):0<=z7c a c/\z7c a c<=a+1:=by
 have h1:0<=a / c:=Int.ediv_nonneg ha (by omega);have h2:a / c<=a:=Int.ediv_le_self _ ha;unfold z7c;split<;>omega
theorem Bot.q_bd{n m:Nat}{ps:List Int}{q:Int}(h:Bot n m ps q):q<2 ^ m:=by have:=h.lot.bd q (by simp);omega
theorem Bot.p_bd{n m:Nat}{ps:List Int}{q p:Int}(h:Bot n m ps q)(hp:p∈ps):0<=p/\p<2 ^ m:=by
 have h1:=h.lot.bd p (by simp [hp]);have h2:=h.lot.toLot.nn p (by simp [hp]);exact ⟨h2,by omega⟩
theorem Bot.want{n m:Nat}{ps:List Int}{q:Int}(h:Bot n m ps q)(s:Sto):zO [rD (ps++[q])] s=.ok .non s:= kJ h.lot.toLot (by have:=h.pos;simp;omega) s
theorem z4d{x a b:Int}(h1:a<=x)(h2:x<=b)(s:Sto):yY [.int x,.int a,.int b] s=.ok .non s:=by
 have w:yy [.int x] s=.ok (.bl true) s:=kc (by rfl) s;have st:zr ["thing","least","most"] [.int x,.int a,.int b]=[some (.int x),some (.int a),some (.int b)]:=rfl;simp only [yY,Mof,jC,st,List.length_cons,List.length_nil,if_true];rw [qL,zgK];·rfl
 ·refine zh2 (zeK (jv ?_)) (zeK (jv ?_));·rw [vO (x:=.int x) (by simp)];exact w
  ·simp [h1,h2]
theorem z06{m:Nat}{x:Int}(h0:0<=x)(h:x<2 ^ m)(hm:m<=4000):x.natAbs<BIG:=by
 have h1:x.natAbs<2 ^ m:=by
  have:((x.natAbs:Nat):Int)<((2 ^ m:Nat):Int):=by rw [Int.natAbs_of_nonneg h0];push_cast;exact h
  exact_mod_cast this
 have h2:(2:Nat) ^ m<=2 ^ 4000:=Nat.pow_le_pow_right (by decide) hm;have h3:(2:Nat) ^ 4000<BIG:=by decide +kernel
 exact Nat.lt_of_lt_of_le h1 (Nat.le_trans h2 (Nat.le_of_lt h3))
theorem zdQ {n m:Nat} {ps:List Int} {q b:Int} (h:Bot n m ps q) (hm:m<=1999) (hb1:1<=b) (hb2:b<=10 ^ 12) (s:Sto):M_tops [rD (ps++[q]),.int b] s=.ok (rD (ps.map (z3s b q))) s:=by
 have w1:=h.want s;have w2:=z4d hb1 hb2 s;have sl:=z7s ps q s;have ix:=z5g ps q s;have hl:ps.length<=cap:=by have h1:=h.lot.len;have h2:=h.lot.sz;simp [cap] at *;omega
 have bb:b.natAbs<BIG:=by
  have:(10:Nat) ^ 12<BIG:=by decide +kernel
  omega
 have mu:∀ p∈ps,xP (.int b) (.int p) s=.ok (.int (b*p)) s:=fun p hp=>by
  have:=h.p_bd hp;rw [z4f,if_pos ⟨bb,z06 this.1 this.2 (by omega)⟩]
 have nr:∀ p∈ps,yj [.int (b*p),.int q] s=.ok (.int (z3s b q p)) s:=fun p hp=>zgY h.pos (z06 (by have:=h.pos;omega) h.q_bd (by omega)) s;have key:∀ d:D,zO [d] s=.ok .non s->dSl d none (some (-1)) s=.ok (.tup (iL ps)) s->dIx d (.int (-1)) s=.ok (.int q) s->M_tops [d,.int b] s=.ok (rD (ps.map (z3s b q))) s:=fun d h1 h2 h3=>by
  have st:zr ["lot","bottom"] [d,.int b]=[some d,some (.int b)]:=rfl;simp only [M_tops,Mof,zaX,st,List.length_cons,List.length_nil,if_true];rw [zu (Z':=[some d,some (.int b)]) (s':=s) (by simp [h1])];rw [zu (Z':=[some d,some (.int b)]) (s':=s) (by rw [z84,qa,z02 (x:=.int b) (y:=.int 1) (z:=.int (10 ^ 12)) (by simp) (by simp) (by simp),w2];rfl)];have e1:eSl (zc 0) zW (yE (ua (eC (.int 1)))) [some d,some (.int b)] s=.ok (.tup (iL ps)) s:=by simp only [z36,zP,List.getElem?_cons_zero,R.bind_ok,xQ,wA,z2u,jn];exact h2
  have cm:zK (yF (eSl (zc 0) zW (yE (ua (eC (.int 1)))))) [some 1,some 0,none] (wb 2) yU (ze yj (za (eOp xP (zc 0) (zc 2)) (za (eOp dIx (zc 1) (ua (eC (.int 1)))) zj))) [some d,some (.int b)] s=.ok (.lst (ps.map fun p=>D.int (z3s b q p))) s:=by
   refine comp_map (fun p=>D.int p) (fun p=>D.int (z3s b q p)) (fun p=>[some (.int b),some d,some (.int p)]) ps (z1v e1) (fun p hp=>by rfl) (fun p hp=>?_) hl;rw [call2 (x:=.int (b*p)) (y:=.int q) (by rw [op2 (x:=.int b) (y:=.int p) (by simp) (by simp)];exact mu p hp) (by rw [op2 (x:=d) (y:=.int (-1)) (by simp) (by simp)];exact h3)];exact nr p hp
  rw [z5b,yC,vO cm];simp [yR,zL,iL,Function.comp_def]
 exact key _ w1 sl ix
def z76(b q p:Int):Int:=b*p-z3s b q p*q
theorem zip_map{α β:Type}(f:α->β):∀ l:List α,List.zip l (l.map f)=l.map fun p=>(p,f p)
 | []=>rfl | x::l=>by simp [zip_map f l]
theorem z8V {n m:Nat} {ps:List Int} {q b:Int} (h:Bot n m ps q) (hm:m<=1999) (hb1:1<=b) (hb2:b<=10 ^ 12) (s:Sto):wL [rD (ps++[q]),.int b] s=.ok (rD (ps.map (z76 b q))) s:=by
 have tp:=zdQ h hm hb1 hb2 s;have sl:=z7s ps q s;have ix:=z5g ps q s;have hl:ps.length<=cap:=by have h1:=h.lot.len;have h2:=h.lot.sz;simp [cap] at *;omega
 have bb:b.natAbs<BIG:=by
  have:(10:Nat) ^ 12<BIG:=by decide +kernel
  omega
 have mu:∀ p∈ps,xP (.int b) (.int p) s=.ok (.int (b*p)) s:=fun p hp=>by
  have:=h.p_bd hp;rw [z4f,if_pos ⟨bb,z06 this.1 this.2 (by omega)⟩]
 have mt:∀ p∈ps,xP (.int (z3s b q p)) (.int q) s=.ok (.int (z3s b q p*q)) s:=fun p hp=>by
  have hp':=h.p_bd hp;have h0:0<=b*p:=Int.mul_nonneg (by omega) hp'.1;have nb:=zfZ (a:=b*p) h.pos h0;have b2:b*p<=10 ^ 12*(2 ^ m-1):=Int.mul_le_mul hb2 (by omega) hp'.1 (by decide);have e40:(10:Int) ^ 12*2 ^ m<=2 ^ (m+40):=by
   rw [Int.pow_add,Int.mul_comm];exact Int.mul_le_mul_of_nonneg_left (by decide) (Int.le_of_lt (Int.pow_pos (by decide)))
  have nb2:=nb.2;have e12:(10:Int) ^ 12*(2 ^ m-1)=10 ^ 12*2 ^ m-10 ^ 12:=by rw [Int.mul_sub,Int.mul_one]
  have lt40:z7c (b*p) q<2 ^ (m+40):=by omega
  have bt:(z3s b q p).natAbs<BIG:=z06 (m:=m+40) nb.1 lt40 (by omega);have q0:(0:Int)<=q:=Int.le_of_lt h.pos;rw [z4f,if_pos ⟨bt,z06 q0 h.q_bd (by omega)⟩]
 have ez:=z4o ps (ps.map (z3s b q));rw [zip_map,List.map_map] at ez;have key:∀ d:D,M_tops [d,.int b] s=.ok (rD (ps.map (z3s b q))) s->dSl d none (some (-1)) s=.ok (.tup (iL ps)) s->dIx d (.int (-1)) s=.ok (.int q) s->wL [d,.int b] s=.ok (rD (ps.map (z76 b q))) s:=fun d h1 h2 h3=>by
  have st:zr ["lot","bottom","found"] [d,.int b]=[some d,some (.int b),none]:=rfl;simp only [wL,Mof,z6I,st,List.length_cons,List.length_nil,if_true];rw [zu (Z':=[some d,some (.int b),some (rD (ps.map (z3s b q)))]) (s':=s) (by rw [z48,yo,call2 (x:=d) (y:=.int b) (by simp) (by simp),h1];rfl)];have e1:eSl (zc 0) zW (yE (ua (eC (.int 1)))) [some d,some (.int b),some (rD (ps.map (z3s b q)))] s=.ok (.tup (iL ps)) s:=by simp only [z36,zP,List.getElem?_cons_zero,R.bind_ok,xQ,wA,z2u,jn];exact h2
  have zi:zbh (za (eSl (zc 0) zW (yE (ua (eC (.int 1))))) (za (zc 2) zj)) [some d,some (.int b),some (rD (ps.map (z3s b q)))] s=.ok (ps.map (fun p=>D.tup [.int p,.int (z3s b q p)]),[]) s:=by
   rw [zaN,zt,e1];simp only [R.bind_ok,zt,zG,zP,List.getElem?_cons_succ,List.getElem?_cons_zero,z9U];rw [ez];rfl
  have cm:zK (zbh (za (eSl (zc 0) zW (yE (ua (eC (.int 1))))) (za (zc 2) zj))) [some 1,some 0,none,none] (uM 2 3) yU (eOp zc3 (eOp xP (zc 0) (zc 2)) (eOp xP (zc 3) (eOp dIx (zc 1) (ua (eC (.int 1)))))) [some d,some (.int b),some (rD (ps.map (z3s b q)))] s=.ok (.lst (ps.map fun p=>D.int (z76 b q p))) s:=by
   refine comp_map (fun p=>D.tup [.int p,.int (z3s b q p)]) (fun p=>D.int (z76 b q p)) (fun p=>[some (.int b),some d,some (.int p),some (.int (z3s b q p))]) ps zi (fun p hp=>by rfl) (fun p hp=>?_) hl;rw [op2 (x:=.int (b*p)) (y:=.int (z3s b q p*q)) (by rw [op2 (x:=.int b) (y:=.int p) (by simp) (by simp)];exact mu p hp) (by rw [op2 (x:=.int (z3s b q p)) (y:=.int q) (by simp) (by rw [op2 (x:=d) (y:=.int (-1)) (by simp) (by simp)];exact h3)];exact mt p hp)];rfl
  rw [z0G,yC,vO cm];simp [yR,zL,iL,Function.comp_def]
 exact key _ tp sl ix
def zgj(i:Int):Int:=if i<0 then -i else i
def z3e(b:Int)(ps:List Int)(q:Int):Int:=maxL (ps.map fun p=>zgj (z76 b q p))
theorem Bot.ne{n m:Nat}{ps:List Int}{q:Int}(h:Bot n m ps q):ps≠[]:=by
 have h1:=h.lot.len;have h2:=h.lot.sz;intro z;subst z;simp at h1;omega
theorem zaj {n m:Nat} {ps:List Int} {q b:Int} (h:Bot n m ps q) (hm:m<=1999) (hb1:1<=b) (hb2:b<=10 ^ 12) (s:Sto):vf [rD (ps++[q]),.int b] s=.ok (.int (z3e b ps q)) s:=by
 have er:=z8V h hm hb1 hb2 s;have hl:ps.length<=cap:=by have h1:=h.lot.len;have h2:=h.lot.sz;simp [cap] at *;omega
 have mx:=zhX (ns:=ps.map fun p=>zgj (z76 b q p)) s (by simpa using h.ne);have key:∀ d:D,wL [d,.int b] s=.ok (rD (ps.map (z76 b q))) s->vf [d,.int b] s=.ok (.int (z3e b ps q)) s:=fun d h1=>by
  have st:zr ["lot","bottom"] [d,.int b]=[some d,some (.int b)]:=rfl;have e1:ze wL (za (zc 0) (za (zc 1) zj)) [some d,some (.int b)] s=.ok (.tup (iL (ps.map (z76 b q)))) s:=by rw [call2 (x:=d) (y:=.int b) (by simp) (by simp)];exact h1
  have cm:zK (yF (ze wL (za (zc 0) (za (zc 1) zj)))) [none] (wb 0) yU (ze zgn (za (zc 0) zj)) [some d,some (.int b)] s=.ok (.lst (ps.map fun p=>D.int (zgj (z76 b q p)))) s:=by
   refine comp_map (fun p=>D.int (z76 b q p)) (fun p=>D.int (zgj (z76 b q p))) (fun p=>[some (.int (z76 b q p))]) ps (by rw [z1v e1];simp [iL,Function.comp_def]) (fun p hp=>by rfl) (fun p hp=>?_) hl;rw [vO (x:=.int (z76 b q p)) (by simp)];rfl
  simp only [vf,Mof,z8Q,st,List.length_cons,List.length_nil,if_true];rw [z5A,yC,vO cm];have e2:(ps.map fun p=>D.int (zgj (z76 b q p)))=iL (ps.map fun p=>zgj (z76 b q p)):=by simp [iL,Function.comp_def]
  rw [e2,mx];rfl
 exact key _ er
def zlb(xs:List D):Prop:=D.flat.flats xs=true/\∃ (pre:List D)(a w:Int),xs=pre++[.tup [.int a,.int w]]
theorem z6e:∀ (xs ys:List D),D.flat.flats (xs++ys)=(D.flat.flats xs&&D.flat.flats ys)
 | [],ys=>by simp [D.flat.flats] | x::xs,ys=>by simp [D.flat.flats,z6e xs ys,Bool.and_assoc]
theorem zat {n m:Nat} {ps:List Int} {q k:Int} (h:Bot n m ps q) (hm:m<=1999) (hk1:1<=k) (hk2:k<=1000) (s:Sto):∃ xs,kZ [rD (ps++[q]),.int k] s=.ok (.loc s.length) (s++[xs]):=by
 have w1:=h.want s;have w2:=z4d hk1 hk2 s;have wo:∀ (b:Int) (S:Sto),1<=b->b<=1001->vf [rD (ps++[q]),.int b] S=.ok (.int (z3e b ps q)) S:=fun b S h1 h2=>zaj h hm h1 (by omega) S;have key:∀ d:D,zO [d] s=.ok .non s->(∀ (b:Int) (S:Sto),1<=b->b<=1001->vf [d,.int b] S=.ok (.int (z3e b ps q)) S)->∃ xs,kZ [d,.int k] s=.ok (.loc s.length) (s++[xs]):=fun d h1 h2=>by
  have st:zr ["lot","most","found","bottom","of_bottom"] [d,.int k]=[some d,some (.int k),none,none,none]:=rfl;have q3:kq [some d,some (.int k),none,none,none] s=.ok (.nx [some d,some (.int k),some (.loc s.length),none,none]) (s++[[.tup [.int 1,.int (z3e 1 ps q)]]]):=by
   have c:ze vf (za (zc 0) (za (eC (.int 1)) zj)) [some d,some (.int k),none,none,none] s=.ok (.int (z3e 1 ps q)) s:=by rw [call2 (x:=d) (y:=.int 1) (by simp) (by simp)];exact h2 1 s (by decide) (by decide)
   have et:wT (za (eC (.int 1)) (za (ze vf (za (zc 0) (za (eC (.int 1)) zj))) zj)) [some d,some (.int k),none,none,none] s=.ok (.tup [.int 1,.int (z3e 1 ps q)]) s:=by
    simp only [uE,zt,zG,jn,R.bind_ok,c];rw [if_pos (by simp [cap])]
   rw [kq,yo,z89,zt,et];simp only [R.bind_ok,zG];rw [if_pos ⟨by simp [cap],by rfl⟩];rfl
  obtain ⟨Z',S',lp,a3,a4,xs,hZ,hS,hx,hn⟩:=z5e (all:=uw 2 (k+1-2).toNat) (body:=fun x Z s=>(wb 3 x Z s).bind fun Z' s'=>zQ qr qo Z' s') (fun i Z S=>∃ a3 a4 xs,Z=[some d,some (.int k),some (.loc s.length),a3,a4]/\S=s++[xs]/\zlb xs/\xs.length<=i+1) (uw 2 (k+1-2).toNat) 0 (by
   intro j x hx Z S ⟨a3,a4,xs,hZ,hS,⟨fx,pre,a,w,ex⟩,hn⟩;subst hZ hS;obtain ⟨b,rfl,hb⟩:∃ b:Int,x=.int b/\2<=b/\b<=1000/\(j:Int)=b-2:=by
    simp only [uw,List.getElem?_map,Option.map_eq_some_iff] at hx;obtain ⟨i,hi,rfl⟩:=hx;have hj:=(List.getElem?_eq_some_iff.mp hi).1;have he:i=j:=by simpa using ((List.getElem?_eq_some_iff.mp hi).2).symm
    simp at hj;exact ⟨2+i,rfl,by omega,by omega,by omega⟩
   have f5:qr [some d,some (.int k),some (.loc s.length),some (.int b),a4] (s++[xs])=.ok (.nx [some d,some (.int k),some (.loc s.length),some (.int b),some (.int (z3e b ps q))]) (s++[xs]):=by rw [qr,yo,call2 (x:=d) (y:=.int b) (by simp) (by simp),h2 b _ (by omega) (by omega)];rfl
   have i1:=z0C (x:=.loc s.length) (d:=.tup [.int a,.int w]) (xs:=pre) (s:=s++[xs]) (by simp [zL,ex]);have t6:tOf (eOp dLt (zc 4) (eOp dIx (eOp dIx (zc 2) (ua (eC (.int 1)))) (eC (.int 1)))) [some d,some (.int k),some (.loc s.length),some (.int b),some (.int (z3e b ps q))] (s++[xs])=.ok (decide (z3e b ps q<w)) (s++[xs]):=by
    refine jv ?_;rw [op2 (x:=.int (z3e b ps q)) (y:=.int w) (by simp) (by
     rw [op2 (x:=.tup [.int a,.int w]) (y:=.int 1) (by rw [op2 (x:=.loc s.length) (y:=.int (-1)) (by simp) (by simp)];exact i1) (by simp)];rfl)];rfl
   have gt:(s++[xs])[s.length]? = some xs:=by simp
   rw [z1W,R.bind_ok];simp only [List.set_cons_succ,List.set_cons_zero];rw [zu f5];by_cases hw:z3e b ps q<w
   ·have et:wT (za (zc 3) (za (zc 4) zj)) [some d,some (.int k),some (.loc s.length),some (.int b),some (.int (z3e b ps q))] (s++[xs])=.ok (.tup [.int b,.int (z3e b ps q)]) (s++[xs]):=by
     simp only [uE,zt,zG,zP,R.bind_ok,List.getElem?_cons_succ,List.getElem?_cons_zero];rw [if_pos (by simp [cap])]
    refine ⟨[some d,some (.int k),some (.loc s.length),some (.int b),some (.int (z3e b ps q))],s++[xs++[.tup [.int b,.int (z3e b ps q)]]],?_,_,_,_,rfl,rfl,⟨by rw [z6e,fx];rfl,xs,b,z3e b ps q,rfl⟩,by simp;omega⟩;rw [qo,jr,t6,R.bind_ok,if_pos (by simpa using hw),z23,qa,z8O];simp only [zP,List.getElem?_cons_zero,List.getElem?_cons_succ,R.bind_ok];rw [et];simp only [R.bind_ok];rw [gt];simp only;rw [if_pos ⟨rfl,by simp [cap];omega⟩,zay];rfl
   ·refine ⟨[some d,some (.int k),some (.loc s.length),some (.int b),some (.int (z3e b ps q))],s++[xs],?_,_,_,_,rfl,rfl,⟨fx,pre,a,w,ex⟩,by omega⟩;rw [qo,jr,t6,R.bind_ok,if_neg (by simpa using hw)];rfl) [some d,some (.int k),some (.loc s.length),none,none] (s++[[.tup [.int 1,.int (z3e 1 ps q)]]]) ⟨none,none,_,rfl,rfl,⟨rfl,[],1,z3e 1 ps q,rfl⟩,by simp⟩;refine ⟨xs,?_⟩;simp only [kZ,Mof,z3W,st,List.length_cons,List.length_nil,if_true];rw [zu (Z':=[some d,some (.int k),none,none,none]) (s':=s) (by simp [h1])];rw [zu (Z':=[some d,some (.int k),none,none,none]) (s':=s) (by rw [z2j,qa,z02 (x:=.int k) (y:=.int 1) (z:=.int 1000) (by simp) (by simp) (by simp),w2];rfl)];rw [zu q3];have it:zbf (za (eC (.int 2)) (za (eOp xG (zc 1) (eC (.int 1))) zj)) [some d,some (.int k),some (.loc s.length),none,none] (s++[[.tup [.int 1,.int (z3e 1 ps q)]]])=.ok (uw 2 (k+1-2).toNat,[]) (s++[[.tup [.int 1,.int (z3e 1 ps q)]]]):=by
   simp only [zf1,zt,zG,jn,xc,zP,R.bind_ok,List.getElem?_cons_succ,List.getElem?_cons_zero,z41];rw [if_pos (by omega)]
  rw [zu (Z':=Z') (s':=S') (by rw [kC,z38,it,R.bind_ok];exact lp),hZ,hS];simp
 exact key _ w1 wo
abbrev T39:Int:=1000000000000000000000000000000000000000
theorem t39:T39<2 ^ 2000:=by decide +kernel
theorem zm2{r:Int}(s:Sto)(h0:0<=r)(h1:r<5):∃ far:Int,dIx (.lst [.int 4,.int 31,.int 1001,.int 1000000000000000,.int T39]) (.int r) s=.ok (.int far) s/\4<=far/\far<=T39:=by
 obtain ⟨k,rfl⟩:=Int.eq_ofNat_of_zero_le h0;have:k=0\/k=1\/k=2\/k=3\/k=4:=by omega
 rcases this with rfl | rfl | rfl | rfl | rfl;·exact ⟨4,rfl,by decide,by decide⟩
 ·exact ⟨31,rfl,by decide,by decide⟩
 ·exact ⟨1001,rfl,by decide,by decide⟩
 ·exact ⟨1000000000000000,rfl,by decide,by decide⟩
 ·exact ⟨T39,rfl,by decide,by decide⟩
theorem ints_of:∀ ys:List D,(∀ y∈ys,∃ x:Int,y=.int x/\0<=x/\x<=T39)->∃ xs:List Int,ys=iL xs/\∀ x∈xs,0<=x/\x<=T39
 | [],_=>⟨[],rfl,by simp⟩ | y::ys,h=>by
  obtain ⟨x,rfl,hx⟩:=h y (by simp);obtain ⟨xs,rfl,hs⟩:=ints_of ys fun z hz=>h z (by simp [hz]);exact ⟨x::xs,rfl,fun z hz=>by rcases List.mem_cons.mp hz with rfl | hz;exact hx;exact hs z hz⟩
abbrev EvL(l:Nat)(n:Nat)(a3 a4 a5 a6 a7:Option D):Ev:=[some (.loc l),some (.int n),some (.int T39),a3,a4,a5,a6,a7]
theorem ziB {s:Sto} {l n:Nat} (h:Pot s l) (hsz:Sz n):∃ v s',wg [.loc l,.int n,.int T39] s=.ok (rD v) s'/\LotB n 131 v/\vo s s' l:=by
 have hl:=h.lt;have hn:2<=n/\n<=4:=by unfold Sz at hsz;omega
 have st:zr ["_law_pot_here","_law_size","_law_most","_law_far","_law_found","_law_way","_law_at","_law_to"] [.loc l,.int n,.int T39]=EvL l n none none none none none:=rfl;obtain ⟨r1,s1,e1,a1,b1,d1⟩:=wQ (Z:=EvL l n none none none none none) (f:=zc 0) (g:=eC (.int 5)) (far:=5) h (by decide) (jt (by decide)) (by simp) (by simp);obtain ⟨far,ef,f0,f1⟩:=zm2 s1 a1 b1;have p1:vU (EvL l n none none none none none) s=.ok (.nx (EvL l n (some (.int far)) none none none none)) s1:=by
  have x1:eOp xG (zc 2) (eC (.int 1)) (EvL l n none none none none none) s=.ok (.int (T39+1)) s:=by simp
  have x2:eOp dIx (vB (za (eC (.int 4)) (za (eC (.int 31)) (za (eC (.int 1001)) (za (eOp z1N (eC (.int 10)) (eC (.int 15))) (za (eOp z1N (eC (.int 10)) (eC (.int 39))) zj)))))) (ze zq (za (zc 0) (za (eC (.int 5)) zj))) (EvL l n none none none none none) s=.ok (.int far) s1:=by
   rw [xc];have:vB (za (eC (.int 4)) (za (eC (.int 31)) (za (eC (.int 1001)) (za (eOp z1N (eC (.int 10)) (eC (.int 15))) (za (eOp z1N (eC (.int 10)) (eC (.int 39))) zj))))) (EvL l n none none none none none) s=.ok (.lst [.int 4,.int 31,.int 1001,.int 1000000000000000,.int T39]) s:=by
    simp only [ui,zt,zG,jn,xc,R.bind_ok,zk5,zcK];rw [if_pos (by simp [cap])]
   rw [this,R.bind_ok,e1,R.bind_ok,ef]
  have x3:z7P [.int (T39+1),.int far] s1=.ok (.int far) s1:=by
   simp only [z7P];congr 2;omega
  rw [vU,yo,ym,zt,x1,R.bind_ok,zt,x2];simp only [R.bind_ok,zG,x3];rfl
 obtain ⟨ys,s2,e2,y1,y2,d2⟩:=zdy (fi:=z73 (za (zc 1) zj)) (mp:=[some 0,some 3,none]) (fg:=wb 2) (fe:=ze zq (za (zc 0) (za (zc 1) zj))) (Z:=EvL l n (some (.int far)) none none none none) (s:=s1) (s0:=s1) (fun k:Nat=>D.int ((k:Nat):Int)) (fun k=>[some (.loc l),some (.int far),some (.int ((k:Nat):Int))]) (fun _ s'=>vo s s' l) (fun y=>∃ x:Int,y=.int x/\0<=x/\x<=T39) (List.range n) (zaB (n:=n) (by omega) (by simp)) (fun k _ s=>by simp) (fun i k _ s' hd=>by
   obtain ⟨x,s'',e,x0,x1,d⟩:=ze5 hd.pot (far:=far) (by omega) (Int.lt_of_le_of_lt f1 t39);exact ⟨.int x,s'',by rw [call2 (x:=.loc l) (y:=.int far) (vr rfl) (vr rfl)];exact e,⟨x,rfl,x0,by omega⟩,hd.trans d⟩) (by simp [cap];omega) d1 (fun y ⟨x,hx,_⟩=>by subst hx;rfl);obtain ⟨xs,rfl,x2⟩:=ints_of ys y2;have n2:xs.length=n:=by simpa using y1
 have p2:vS (EvL l n (some (.int far)) none none none none) s1=.ok (.nx (EvL l n (some (.int far)) (some (.loc s.length)) none none none)) (s2++[iL xs]):=by
  rw [vS,yo,e2,R.bind_ok,d2.len];rfl
 have L2:=LS.start d2 h xs;obtain ⟨way,s3,e3,a3,b3,d3⟩:=wQ (Z:=EvL l n (some (.int far)) (some (.loc s.length)) none none none) (f:=zc 0) (g:=eC (.int 6)) (far:=6) L2.pot (by decide) (jt (by decide)) (by simp) (by simp);have L3:=L2.drawn hl d3;have p3:vR (EvL l n (some (.int far)) (some (.loc s.length)) none none none) (s2++[iL xs])=.ok (.nx (EvL l n (some (.int far)) (some (.loc s.length)) (some (.int way)) none none)) s3:=by rw [vR,yo,e3];rfl
 obtain ⟨at_,s4,e4,a4,b4,d4⟩:=wQ (Z:=EvL l n (some (.int far)) (some (.loc s.length)) (some (.int way)) none none) (f:=zc 0) (g:=zc 1) (far:=n) L3.pot (by omega) (jt (by omega)) (by simp) (by simp);have L4:=L3.drawn hl d4;obtain ⟨to,s5,e5,a5,b5,d5⟩:=wQ (Z:=EvL l n (some (.int far)) (some (.loc s.length)) (some (.int way)) none none) (f:=zc 0) (g:=zc 1) (far:=n) L4.pot (by omega) (jt (by omega)) (by simp) (by simp);have L5:=L4.drawn hl d5;have p4:vX (EvL l n (some (.int far)) (some (.loc s.length)) (some (.int way)) none none) s3=.ok (.nx (EvL l n (some (.int far)) (some (.loc s.length)) (some (.int way)) (some (.int at_)) (some (.int to)))) s5:=by
  rw [vX,zei,zt,e4,R.bind_ok,zt,e5];rfl
 let E:=EvL l n (some (.int far)) (some (.loc s.length)) (some (.int way)) (some (.int at_)) (some (.int to));have s5':∃ s6 ys,wj E s5=.ok (.nx E) s6/\LS s l s6 ys/\(∀ y∈ys,0<=y/\y<=T39)/\ys.length=n:=by
  have t:tOf (eOp dEq (zc 5) (eC (.int 0))) E s5=.ok (decide (way=0)) s5:=jv (by rw [op2 (x:=.int way) (y:=.int 0) (vr rfl) rfl,z7E]);by_cases z:way=0
  ·refine ⟨_,_,?_,L5.set hl (xs.set at_.toNat 0),zbR x2 (by omega),by simp [n2]⟩;rw [wj,jr,t,R.bind_ok,if_pos (by simpa using z),ja];exact z7T (s1:=s5) (s2:=s5) (x:=0) rfl (vr rfl) (vr rfl) L5.at_ a4 (by omega)
  ·refine ⟨s5,xs,?_,L5,x2,n2⟩;rw [wj,jr,t,R.bind_ok,if_neg (by simpa using z)];rfl
 obtain ⟨s6,ys,p5,L6,x6,n6⟩:=s5';have s7':∃ s7 zs,we E s6=.ok (.nx E) s7/\LS s l s7 zs/\(∀ y∈zs,0<=y/\y<=T39)/\zs.length=n:=by
  have t:tOf (eOp dEq (zc 5) (eC (.int 1))) E s6=.ok (decide (way=1)) s6:=jv (by rw [op2 (x:=.int way) (y:=.int 1) (vr rfl) rfl,z7E]);by_cases z:way=1
  ·have hra:to.toNat<ys.length:=by omega
   have ix:=zii (d:=.int ys[to.toNat]) L6.at_ a5 (by simp [hra]);have my:=x6 ys[to.toNat] (List.getElem_mem hra);refine ⟨_,_,?_,L6.set hl (ys.set at_.toNat ys[to.toNat]),zbR x6 my,by simp [n6]⟩;rw [we,jr,t,R.bind_ok,if_pos (by simpa using z),jf];exact z7T (s1:=s6) (s2:=s6) (x:=ys[to.toNat]) (by rw [op2 (x:=.loc s.length) (y:=.int to) (vr rfl) (vr rfl)];exact ix) (vr rfl) (vr rfl) L6.at_ a4 (by omega)
  ·refine ⟨s6,ys,?_,L6,x6,n6⟩;rw [we,jr,t,R.bind_ok,if_neg (by simpa using z)];rfl
 obtain ⟨s7,zs,p7,L7,x7,n7⟩:=s7';have ne7:zs≠[]:=fun z=>by rw [z] at n7;simp at n7;omega
 have s9':∃ s9 ws,wr E s7=.ok (.nx E) s9/\LS s l s9 ws/\(∀ y∈ws,0<=y/\y<=T39)/\ws.length=n/\∃ x∈ws,0<x:=by
  have t:=zf3 (f:=zc 4) (Z:=E) ne7 L7.at_ (vr rfl);by_cases z:maxL zs=0
  ·obtain ⟨ra,sa,ea,aa,ba,da⟩:=wQ (Z:=E) (f:=zc 0) (g:=eOp zc3 (zc 3) (eC (.int 1))) (far:=far-1) L7.pot (by omega) (Int.lt_trans (by omega) t39) (vr rfl) (by rw [op2 (x:=.int far) (y:=.int 1) (vr rfl) rfl];rfl);have La:=L7.drawn hl da;refine ⟨_,_,?_,La.set hl (zs.set to.toNat (1+ra)),zbR x7 (by omega),by simp [n7],1+ra,List.mem_set (by omega) _,by omega⟩;rw [wr,jr,t,R.bind_ok,if_pos (by simpa using z),qC];exact z7T (s1:=sa) (s2:=sa) (x:=1+ra) (by rw [xc,jn,R.bind_ok,ea];rfl) (vr rfl) (vr rfl) La.at_ a5 (by omega)
  ·refine ⟨s7,zs,?_,L7,x7,n7,z9i ne7 (fun y hy=>(x7 y hy).1) z⟩;rw [wr,jr,t,R.bind_ok,if_neg (by simpa using z)];rfl
 obtain ⟨s9,ws,p9,L9,x9,n9,w9⟩:=s9';refine ⟨ws,s9.take s.length,?_,⟨⟨hsz,n9,fun x hx=>(x9 x hx).1,w9⟩,fun x hx=>?_⟩,L9.fin hl⟩
 ·simp only [wg,z7O,Mof,jD,st,List.length_cons,List.length_nil,if_true];rw [zu p1,zu p2,zu p3,zu p4,zu p5,zu p7,zu p9];have c:yR [.loc s.length] s9=.ok (rD ws) s9:=by simp only [yR,zL,L9.at_]
  rw [qH,yC,vO (x:=.loc s.length) (vr rfl),c];simp only [R.bind_ok];exact zdB
 ·have b:x<=1000000000000000000000000000000000000000:=(x9 x hx).2;have:(2:Int) ^ 131=2722258935367507707706996859454145691648:=by decide
  omega
theorem zeO {s:Sto} {l:Nat} (h:Pot s l):∃ n ps q s',xX [.loc l] s=.ok (rD (ps++[q])) s'/\Bot n 131 ps q/\vo s s' l:=by
 obtain ⟨r1,s1,e1,a1,b1,d1⟩:=wQ (Z:=[some (.loc l),none]) (f:=zc 0) (g:=eC (.int 3)) (far:=3) h (by decide) (jt (by decide)) (by simp) (by simp);obtain ⟨n,hn⟩:∃ n:Nat,2+r1=(n:Int):=⟨(2+r1).toNat,by omega⟩;have hsz:Sz n:=by unfold Sz;omega
 obtain ⟨v,s2,e2,lv,d2⟩:=ziB d1.pot hsz;have ne:v≠[]:=by intro z;have:=lv.len;unfold Sz at hsz;subst z;simp at this;omega
 obtain ⟨ps,q,rfl⟩:∃ pre x,v=pre++[x]:=⟨v.dropLast,v.getLast ne,(List.dropLast_concat_getLast ne).symm⟩;have st:zr ["_law_pot_here","_law_lot_here"] [.loc l]=[some (.loc l),none]:=rfl;have p1:uz [some (.loc l),none] s=.ok (.nx [some (.loc l),some (rD (ps++[q]))]) s2:=by
  have x1:eOp xG (eC (.int 2)) (ze zq (za (zc 0) (za (eC (.int 3)) zj))) [some (.loc l),none] s=.ok (.int n) s1:=by rw [xc,jn,R.bind_ok,e1];simp [hn]
  rw [uz,yo,ym,zt,vr (d:=.loc l) rfl,R.bind_ok,zt,x1];simp only [R.bind_ok,zt,zG,xc,jn,zcK];rw [e2];rfl
 have ix:=z5g ps q s2;have sl:=z7s ps q s2;have hq0:0<=q:=lv.toLot.nn q (by simp);have lp:ps.length+1=n:=by simpa using lv.len
 have fin:∀ (d:D) (s':Sto),zQ wN jI [some (.loc l),some (rD (ps++[q]))] s2=.ok (.rt d) s'->xX [.loc l] s=.ok d s':=fun d s' hh=>by
  simp only [xX,Mof,z0c,st,List.length_cons,List.length_nil,if_true];rw [zu p1,hh]
 have tt:∀ d:D,dIx d (.int (-1)) s2=.ok (.int q) s2->tOf (eOp dEq (eOp dIx (zc 1) (ua (eC (.int 1)))) (eC (.int 0))) [some (.loc l),some d] s2=.ok (decide (q=0)) s2:=fun d hd=>by
  refine jv ?_;rw [op2 (x:=.int q) (y:=.int 0) (by rw [op2 (x:=d) (y:=.int (-1)) (by simp) (by simp)];exact hd) (by simp),z7E]
 by_cases z:q=0
 ·obtain ⟨r3,s3,e3,a3,b3,d3⟩:=wQ (Z:=[some (.loc l),some (rD (ps++[q]))]) (f:=zc 0) (g:=eC (.int 30)) (far:=30) d2.pot (by decide) (jt (by decide)) (by simp) (by simp);have p3:wM [some (.loc l),some (rD (ps++[q]))] s2=.ok (.nx [some (.loc l),some (rD (ps++[1+r3]))]) s3:=by
   have key:∀ d:D,dSl d none (some (-1)) s2=.ok (.tup (iL ps)) s2->ze zq (za (zc 0) (za (eC (.int 30)) zj)) [some (.loc l),some d] s2=.ok (.int r3) s3->wM [some (.loc l),some d] s2=.ok (.nx [some (.loc l),some (rD (ps++[1+r3]))]) s3:=fun d h1 h2=>by
    have x1:eSl (zc 1) zW (yE (ua (eC (.int 1)))) [some (.loc l),some d] s2=.ok (.tup (iL ps)) s2:=by simp only [z36,zP,List.getElem?_cons_zero,List.getElem?_cons_succ,R.bind_ok,xQ,wA,z2u,jn];exact h1
    have x2:wT (za (eOp xG (eC (.int 1)) (ze zq (za (zc 0) (za (eC (.int 30)) zj)))) zj) [some (.loc l),some d] s2=.ok (.tup [.int (1+r3)]) s3:=by
     rw [uE,zt,xc,jn,R.bind_ok,h2];simp [cap]
    rw [wM,yo,xc,x1,R.bind_ok,x2,R.bind_ok,qK,if_pos (by simp [cap,iL];unfold Sz at hsz;omega)];simp [iL]
   exact key _ sl e3
  refine ⟨n,ps,1+r3,s3,fin _ _ ?_,⟨⟨⟨hsz,by simpa using lp,fun x hx=>?_,1+r3,by simp,by omega⟩,fun x hx=>?_⟩,by omega⟩,(d1.trans d2).trans d3⟩
  ·rw [zu (Z':=[some (.loc l),some (rD (ps++[1+r3]))]) (s':=s3) (by rw [wN,jr,tt _ ix,R.bind_ok,if_pos (by simpa using z)];exact p3)];generalize rD (ps++[1+r3])=d;rfl
  ·rcases List.mem_append.mp hx with hx | hx;·exact lv.toLot.nn x (by simp [hx])
   ·simp at hx;omega
  ·rcases List.mem_append.mp hx with hx | hx;·exact lv.bd x (by simp [hx])
   ·have:(2:Int) ^ 131=2722258935367507707706996859454145691648:=by decide
    simp at hx;omega
 ·refine ⟨n,ps,q,s2,fin _ _ ?_,⟨lv,by omega⟩,d1.trans d2⟩;rw [zu (Z':=[some (.loc l),some (rD (ps++[q]))]) (s':=s2) (by rw [wN,jr,tt _ ix,R.bind_ok,if_neg (by simpa using z)];rfl)];generalize rD (ps++[q])=d;rfl
end Pp
namespace Pn
open PySem.Spec L2 Dd Pm Pg
theorem z2H:LeM yp xj:=LeM.mof (LeS.if_ LeS.fNo LeS.rfl)
theorem z4I{d:D}{s:Sto}(h:yh [d] s=.ok (.bl false) s):xj [d] s=.ex "NoLot" s:=by
 have st:zr ["thing"] [d]=[some d]:=rfl;simp [xj,kU,z1b,st,h]
theorem z3u{n:Nat}{v:List Int}(h:Lot n v)(s:Sto):xj [rD v] s=.ok .non s:=z2H.ok (jm h s)
theorem z12{f g:FS}{Z:Ev}{s s':Sto}{c:Str}(h:f Z s=.ex c s'):zQ f g Z s=.ex c s':=by rw [zif,h,R.bind_ex]
theorem kE{f:FE}{Z:Ev}{s s':Sto}{c:Str}(h:f Z s=.ex c s'):xE f Z s=.ex c s':=by rw [qa,h,R.bind_ex]
theorem zfm{s:Sto}{x y:List D}:(s++[x]).set s.length y=s++[y]:=by simp
def mt(a b c d e f:Bool):Nat->Nat->Bool
 | 0,1=>a | 0,2=>b | 0,3=>c | 1,2=>d | 1,3=>e | 2,3=>f | 1,0=>!a | 2,0=>!b | 3,0=>!c | 2,1=>!d | 3,1=>!e | 3,2=>!f | _,_=>false
end Pn
namespace Pm
open L2 (maxL minL maxL_ge maxL_mem minL_le minL_mem)
abbrev enP(v:List Int):List (Int×Nat):=v.zipIdx
def zlw(v:List Int):List (Int×Int):=((enP v).filter fun p=>decide (0<p.1)).map fun p=>(p.1,(p.2:Int))
end Pm
namespace Pg
open PySem.Spec L2 Dd Pm
end Pg
namespace Po
open PySem.Spec L2 Dd Pm Pg Pn
structure LD(d:D)(v:List Int):Prop where
 eq:d=rD v
 ix:∀ (s:Sto)(i:Nat),i<v.length->dIx d (.int ((i:Nat):Int)) s=.ok (.int (v.getD i 0)) s
 mx:∀ s:Sto,vx [d] s=.ok (.int (maxL v)) s
 len:∀ s:Sto,xK [d] s=.ok (.int v.length) s
section
variable {n:Nat}{v:List Int}{d e:D}(h:Lot n v)(D:LD d v)(he:ended v=false){a0 a1 a2 a3 a4 a5 a6 a7 a8 a9 a10 a11 a12:Option Dd.D}(s:Sto)
include h D
end
structure RD(e:D)(r:Rl):Prop where
 eq:e=.str (nmR r)
 le:∀ s:Sto,dEq e (.str "least") s=.ok (.bl (decide (r=.le))) s
 nx:∀ s:Sto,dEq e (.str "next") s=.ok (.bl (decide (r=.nx))) s
 tu:∀ s:Sto,dEq e (.str "turn") s=.ok (.bl (decide (r=.tu))) s
 in_:∀ s:Sto,z9T false e (.tup [.str "next",.str "least"]) s=.ok (.bl (decide (r=.nx\/r=.le))) s
section
variable {n:Nat}{v:List Int}{d e:D}(h:Lot n v){a0 a1 a2 a3 a4 a5 a6 a7 a8 a9 a10 a11 a12:Option Dd.D}(s:Sto){qs:List (Int×Int)}
variable (he:ended v=false)(hm:∀ a,a∈qs ↔ a∈zlw v)(pw:qs.Pairwise fun a b=>Dd.lexLt a b=true)(hl:qs.length<=4)
include h he hm pw
include hl
omit pw hl hm
omit he
end
section
variable {n m:Nat}{v:List Int}{d e:D}(h:LotB n m v)(D:LD d v)(hm:m<=1999){a0 a1 a2 a3 a4 a5 a6 a7 a8 a9 a10 a11 a12:Option Dd.D}(s:Sto){b:Nat}(hb:b<v.length)
include h hm in
include h in
include h D hm hb
omit h D hm
include h D hm
end
theorem z8E(xs:List D)(k:Nat):cutD xs (some ((k:Nat):Int)) none=xs.drop k:=by
 have:=z0B xs k [];simpa [dSl] using this
section
variable {n m:Nat}{v:List Int}{d e:D}{r:Rl}(h:LotB n m v)(E:RD e r){a0 a1 a2 a3 a4 a5 a6 a7 a8 a9 a10 a11 a12:Option Dd.D}{b:Nat}(hb:b<v.length){Q:List Int}(hQ:Q.length=v.length)
include h E hb hQ
end
section
variable {n m:Nat}{v:List Int}{d e:D}{r:Rl}(h:LotB n m v)(E:RD e r){a0 a1 a2 a3 a4 a5 a6 a7 a8 a9 a10 a11 a12:Option Dd.D}{b:Nat}(hb:b<v.length){Q:List Int}(hQ:Q.length=v.length)
include h E hb hQ
end
section
variable {n m:Nat}{v:List Int}(r:Rl)(h:LotB n m v)(he:ended v=false)(hm:m<=1999)
include h he hm
end
end Po
namespace Pn
open PySem.Spec L2 Dd Pm Pg
section
variable {d y:D}{s:Sto}
theorem z3t (h:xr [d] s=.ok (.bl false) s):yN [d] s=.ex "NoRule" s:=by
 have st:zr ["thing"] [d]=[some d]:=rfl;simp only [yN,kU,z0k,st,List.length_cons,List.length_nil,if_true,jH,jr,za7,z82,vO (x:=d) (vr (Z:=[some d]) (i:=0) (s:=s) rfl),h,R.bind_ok];rfl
end
theorem z35{x:Str}(h:wK.lookup x=none)(s:Sto):xr [.str x] s=.ok (.bl false) s:=by simp [xr,Mof,z0s,zr,gIs,tyD,isT,h]
end Pn
namespace Po
open PySem.Spec L2 Dd Pm Pg Pn
def only(v:List Int)(k:Nat):List Int:=(enP v).map fun p=>p.1*(if p.2=k then 1 else 0)
open PySem.Builtin.Str
def noR(r:Rl):List D:=[.str (Txt.upper (nmR r)),.str (nmR r++" "),.str (Txt.slice (nmR r) (some 1) none),.str (nmR r++"s"),.str "",.non,.int 3,.tup [.str (nmR r)],.lst [.str (nmR r)],.bl true,.dct]
theorem noR_is{r:Rl}{d:D}(h:d∈noR r)(s:Sto):xr [d] s=.ok (.bl false) s:=by
 simp only [noR,List.mem_cons,List.not_mem_nil,or_false] at h;cases r<;>rcases h with rfl | rfl | rfl | rfl | rfl | rfl | rfl | rfl | rfl | rfl | rfl<;>kernel_rfl
theorem z6H {s:Sto} {l:Nat} (r:Rl) (h:Pot s l):∃ d s',yx [.loc l,.str (nmR r)] s=.ok d s'/\d∈noR r/\vo s s' l:=by
 have st:zr ["_law_pot_here","_law_rule","_law_some"] [.loc l,.str (nmR r)]=[some (.loc l),some (.str (nmR r)),none]:=rfl;have q1:yI [some (.loc l),some (.str (nmR r)),none] s=.ok (.nx [some (.loc l),some (.str (nmR r)),some (.lst (noR r))]) s:=by cases r<;>kernel_rfl
 obtain ⟨x,s',e,a,b,dr⟩:=wQ (f:=zc 0) (g:=eC (.int 11)) (far:=11) (Z:=[some (.loc l),some (.str (nmR r)),some (.lst (noR r))]) h (by decide) (jt (by decide)) (by simp) (by simp);have hr:x.toNat<(noR r).length:=by simp [noR];omega
 have ix:=z0T (xs:=noR r) (d:=(noR r)[x.toNat]) (s:=s') a (by simp [hr]);refine ⟨(noR r)[x.toNat],s',?_,List.getElem_mem hr,dr⟩;simp only [yx,Mof,xC,st,List.length_cons,List.length_nil,if_true];rw [zu q1,yJ,yC,xc];simp only [zP,List.getElem?_cons_succ,List.getElem?_cons_zero,R.bind_ok];rw [e,R.bind_ok,ix,R.bind_ok]
end Po
namespace Po
open PySem.Spec L2 Dd Pm Pg Pn
end Po
namespace Pp
open PySem.Spec L2 Dd Pm Pg Pn
theorem z1w{f f':FE}{g g':FA}(h:LeE f f')(h2:LeA g g'):LeA (za f g) (za f' g'):=fun Z s a s' e=>by
 obtain ⟨d,s1,e1,e2⟩:=xn e;obtain ⟨ds,s2,e3,e4⟩:=xn e2;show (f' Z s).bind _=_;rw [h _ _ _ _ e1,R.bind_ok,h2 _ _ _ _ e3,R.bind_ok];exact e4
theorem zdv{M:Mir}{f f':FA}(h:LeA f f'):LeE (ze M f) (ze M f'):=fun Z s a s' e=>by
 obtain ⟨d,s1,e1,e2⟩:=xn e;show (f' Z s).bind _=_;rw [h _ _ _ _ e1,R.bind_ok];exact e2
theorem zfV{f f':FA}(h:LeA f f'):LeE (wT f) (wT f'):=fun Z s a s' e=>by
 obtain ⟨d,s1,e1,e2⟩:=xn e;show (f' Z s).bind _=_;rw [h _ _ _ _ e1,R.bind_ok];exact e2
theorem zfC{f f':FA}(h:LeA f f'):LeE (z9V f) (z9V f'):=fun Z s a s' e=>by
 obtain ⟨d,s1,e1,e2⟩:=xn e;show (f' Z s).bind _=_;rw [h _ _ _ _ e1,R.bind_ok];exact e2
theorem zf8{f f':FE}(h:LeE f f'):∀ Z s a s',yF f Z s=.ok a s'->yF f' Z s=.ok a s':=fun Z s a s' e=>by
 obtain ⟨d,s1,e1,e2⟩:=xn e;show (f' Z s).bind _=_;rw [h _ _ _ _ e1,R.bind_ok];exact e2
theorem zgf{fi fi':FI}{mp:List (Option Nat)}{fg:FG}{ft:FT}{fe:FE}(h:∀ Z s a s',fi Z s=.ok a s'->fi' Z s=.ok a s'):LeE (zK fi mp fg ft fe) (zK fi' mp fg ft fe):=fun Z s a s' e=>by
 obtain ⟨xs,s1,e1,e2⟩:=xn e;obtain ⟨it,s2,e3,e4⟩:=xn e1;show (((fi' Z s).bind _).bind _)=_;rw [h _ _ _ _ e3,R.bind_ok,e4,R.bind_ok];exact e2
theorem jN:LeM yY zI:=LeM.mof (LeS.if_ LeS.fNo LeS.rfl)
theorem wI:LeM zO zy:=LeM.mof (LeS.seq (LeS.drop (LeE.call z2H)) (LeS.if_ LeS.fNo LeS.rfl))
theorem zbZ:LeM M_tops X_tops:=LeM.mof (LeS.seq (LeS.drop (LeE.call wI)) (LeS.seq (LeS.drop (LeE.call jN)) LeS.calm))
theorem z5K:LeM wL xa:=LeM.mof (LeS.seq (LeS.set (LeE.call zbZ)) LeS.calm)
theorem z8W:LeM vf uv:=LeM.mof (LeS.ret (zdv (z1w (zgf (zf8 (LeE.call z5K))) LeA.rfl)))
theorem z9A:LeM kZ xw:=LeM.mof (LeS.seq (LeS.drop (LeE.call wI)) (LeS.seq (LeS.drop (LeE.call jN)) (LeS.seq (LeS.set (zfC (z1w (zfV (z1w LeE.rfl (z1w (LeE.call z8W) LeA.rfl))) LeA.rfl))) (LeS.seq LeS.calm LeS.calm))))
theorem z03:LeM xf yN:=LeM.mof (LeS.if_ LeS.fNo LeS.rfl)
theorem z9e:LeM z01 wf:=LeM.mof (LeS.seq (LeS.drop (LeE.call z03)) (LeS.seq (LeS.drop (LeE.call wI)) (LeS.seq LeS.calm (LeS.seq LeS.calm LeS.calm))))
theorem zhj{i:Nat}{f:FE}{Z:Ev}{s s':Sto}{c:Str}(h:f Z s=.ex c s'):wx i f Z s=.ex c s':=by rw [yo,h,R.bind_ex]
section
variable {d e:D}{s:Sto}{c:Str}
theorem zdJ (h:xj [d] s=.ex c s):zy [d] s=.ex c s:=by
 have st:zr ["lot"] [d]=[some d]:=rfl;simp only [zy,kU,vW,st,List.length_cons,List.length_nil,if_true];rw [z12 (s':=s) (c:=c) (by rw [qI];exact kE (by rw [vO (x:=d) rfl,h]))]
theorem z9Y {n:Nat} {ps:List Int} (h:Lot n (ps++[0])) (s:Sto):zy [rD (ps++[0])] s=.ex "NoBottom" s:=by
 have w:=z3u h s;have ix:=z5g ps 0 s;have key:∀ d:D,xj [d] s=.ok .non s->dIx d (.int (-1)) s=.ok (.int 0) s->zy [d] s=.ex "NoBottom" s:=fun d h1 h2=>by
  have st:zr ["lot"] [d]=[some d]:=rfl;simp only [zy,kU,vW,st,List.length_cons,List.length_nil,if_true];rw [zu (Z':=[some d]) (s':=s) (by simp [h1])];have ee:eOp dIx (zc 0) (ua (eC (.int 1))) [some d] s=.ok (.int 0) s:=by rw [op2 (x:=d) (y:=.int (-1)) (by simp) (by simp)];exact h2
  rw [qB,jr,jv (b:=true) (by rw [op2 ee (y:=.int 0) (by simp),z7E];rfl),R.bind_ok,if_pos rfl];rfl
 exact key _ w ix
theorem zlF (h:zy [d] s=.ex c s):X_tops [d,e] s=.ex c s:=by
 have st:zr ["lot","bottom"] [d,e]=[some d,some e]:=rfl;simp only [X_tops,kU,z4N,st,List.length_cons,List.length_nil,if_true];rw [z12 (s':=s) (c:=c) (by rw [z64];exact kE (by rw [vO (x:=d) rfl,h]))]
theorem zlj (h0:zy [d] s=.ok .non s) (h:zI [e,.int 1,.int (10 ^ 12)] s=.ex c s):X_tops [d,e] s=.ex c s:=by
 have st:zr ["lot","bottom"] [d,e]=[some d,some e]:=rfl;simp only [X_tops,kU,z4N,st,List.length_cons,List.length_nil,if_true];rw [zu (Z':=[some d,some e]) (s':=s) (by simp [h0])];rw [z12 (s':=s) (c:=c) (by rw [z6i];exact kE (by rw [z02 (x:=e) (y:=.int 1) (z:=.int (10 ^ 12)) rfl rfl rfl,h]))]
theorem zj1 (h:X_tops [d,e] s=.ex c s):xa [d,e] s=.ex c s:=by
 have st:zr ["lot","bottom","found"] [d,e]=[some d,some e,none]:=rfl;simp only [xa,kU,z4b,st,List.length_cons,List.length_nil,if_true];rw [z12 (s':=s) (c:=c) (by rw [z2T];exact zhj (by rw [call2 (x:=d) (y:=e) rfl rfl,h]))]
theorem zkY (h:xa [d,e] s=.ex c s):uv [d,e] s=.ex c s:=by
 have st:zr ["lot","bottom"] [d,e]=[some d,some e]:=rfl;have e1:ze xa (za (zc 0) (za (zc 1) zj)) [some d,some e] s=.ex c s:=by rw [call2 (x:=d) (y:=e) rfl rfl,h]
 have e2:zK (yF (ze xa (za (zc 0) (za (zc 1) zj)))) [none] (wb 0) yU (ze zgn (za (zc 0) zj)) [some d,some e] s=.ex c s:=by
  rw [z07,z0A];show (((yF _ _ s).bind _).bind _)=_;rw [show yF (ze xa (za (zc 0) (za (zc 1) zj))) [some d,some e] s=.ex c s by
   show (ze xa _ _ s).bind _=_;rw [e1,R.bind_ex],R.bind_ex,R.bind_ex]
 simp only [uv,kU,z6t,st,List.length_cons,List.length_nil,if_true];rw [z45,yC,ym,zt,e2];rfl
theorem zlu (h:zy [d] s=.ex c s):xw [d,e] s=.ex c s:=by
 have st:zr ["lot","most","found","bottom","of_bottom"] [d,e]=[some d,some e,none,none,none]:=rfl;simp only [xw,kU,jY,st,List.length_cons,List.length_nil,if_true];rw [z12 (s':=s) (c:=c) (by rw [z1i];exact kE (by rw [vO (x:=d) rfl,h]))]
theorem zlc (h0:zy [d] s=.ok .non s) (h:zI [e,.int 1,.int 1000] s=.ex c s):xw [d,e] s=.ex c s:=by
 have st:zr ["lot","most","found","bottom","of_bottom"] [d,e]=[some d,some e,none,none,none]:=rfl;simp only [xw,kU,jY,st,List.length_cons,List.length_nil,if_true];rw [zu (Z':=[some d,some e,none,none,none]) (s':=s) (by simp [h0])];rw [z12 (s':=s) (c:=c) (by rw [z0N];exact kE (by rw [z02 (x:=e) (y:=.int 1) (z:=.int 1000) rfl rfl rfl,h]))]
theorem zlm (h:yN [d] s=.ex c s):wf [d,e] s=.ex c s:=by
 have st:zr ["rule","lot","found","product","column"] [d,e]=[some d,some e,none,none,none]:=rfl;simp only [wf,kU,jZ,st,List.length_cons,List.length_nil,if_true];rw [z12 (s':=s) (c:=c) (by rw [z0P];exact kE (by rw [vO (x:=d) rfl,h]))]
theorem zkC (h0:yN [d] s=.ok .non s) (h:zy [e] s=.ex c s):wf [d,e] s=.ex c s:=by
 have st:zr ["rule","lot","found","product","column"] [d,e]=[some d,some e,none,none,none]:=rfl;simp only [wf,kU,jZ,st,List.length_cons,List.length_nil,if_true];rw [zu (Z':=[some d,some e,none,none,none]) (s':=s) (by simp [h0])];rw [z12 (s':=s) (c:=c) (by rw [z0Y];exact kE (by rw [vO (x:=e) rfl,h]))]
end
def NoL(d:D):Prop:=Kd d/\∀ n v,d=rD v->¬ Lot n v
theorem NoL.x{d:D}(h:NoL d)(s:Sto):xj [d] s=.ex "NoLot" s:=by
 rcases zd9 h.1 s with ⟨n,v,e,lt,_⟩ | ⟨e,_⟩;·exact absurd lt (h.2 n v e)
 ·exact z4I e
theorem NoL.other{d:D}(h:Kd d)(hn:∀ xs,d≠.tup xs):NoL d:=⟨h,fun n v e=>absurd e (hn _)⟩
theorem NoL.len{xs:List D}(h:∀ x∈xs,(tyD x).isSome=true)(hl:xs.length<2\/4<xs.length):NoL (.tup xs):=⟨h,fun n v e lt=>by
 have e':xs=iL v:=by simpa using e
 have h1:=lt.len;have h2:=lt.sz;rw [e'] at hl;simp only [iL,List.length_map] at hl;unfold Sz at h2;omega⟩
theorem NoL.odd{xs:List D}{o:D}(h:∀ x∈xs,(tyD x).isSome=true)(ho:o∈xs)(hi:okI o=false):NoL (.tup xs):=⟨h,fun n v e lt=>by
 have e':xs=iL v:=by simpa using e
 rw [e'] at ho;obtain ⟨x,hx,rfl⟩:=List.mem_map.mp ho;have:=lt.nn x hx;simp [okI] at hi;omega⟩
def zcQ:List D:=[.int (-1),.bl true,.non,.str "1",.tup [.int 1],.bl false,.lst [.int 1]]
theorem zeS{o:D}(h:o∈zcQ):(tyD o).isSome=true/\okI o=false:=by
 simp only [zcQ,List.mem_cons,List.not_mem_nil,or_false] at h;rcases h with rfl | rfl | rfl | rfl | rfl | rfl | rfl<;>exact ⟨rfl,rfl⟩
theorem zdl {s:Sto} {l n m:Nat} {v:List Int} (h:Pot s l) (hv:LotB n m v):∃ d s',xH [.loc l,rD v] s=.ok d s'/\NoL d/\vo s s' l:=by
 have hn:2<=v.length/\v.length<=4:=by have h1:=hv.len;have h2:=hv.sz;unfold Sz at h2;omega
 have st:∀ d:D,zr ["_law_pot_here","_law_lot_here","_law_at","_law_odd","_law_some"] [.loc l,d]=[some (.loc l),some d,none,none,none]:=fun d=>rfl;have gl:∀ s,xK [rD v] s=.ok (.int v.length) s:=fun s=>by simp [xK,zL]
 obtain ⟨r1,s1,e1,a1,b1,d1⟩:=wQ (Z:=[some (.loc l),some (rD v),none,none,none]) (f:=zc 0) (g:=ze xK (za (zc 1) zj)) (far:=v.length) h (by omega) (jt (by omega)) (by simp) (by rw [vO (x:=rD v) (by simp)];exact gl s);obtain ⟨k,rfl⟩:=Int.eq_ofNat_of_zero_le a1;have q1:vN [some (.loc l),some (rD v),none,none,none] s=.ok (.nx [some (.loc l),some (rD v),some (.int k),none,none]) s1:=by rw [vN,yo,e1];rfl
 obtain ⟨r2,s2,e2,a2,b2,d2⟩:=wQ (Z:=[some (.loc l),some (rD v),some (.int k),none,none]) (f:=zc 0) (g:=eC (.int 7)) (far:=7) d1.pot (by decide) (jt (by decide)) (by simp) (by simp);have hr2:r2.toNat<zcQ.length:=by simp [zcQ];omega
 have ix2:=z0T (xs:=zcQ) (d:=zcQ[r2.toNat]) (s:=s2) a2 (by simp [hr2]);have ho:=zeS (List.getElem_mem hr2);generalize zcQ[r2.toNat]=o at ix2 ho;have q2:vQ [some (.loc l),some (rD v),some (.int k),none,none] s1=.ok (.nx [some (.loc l),some (rD v),some (.int k),some o,none]) s2:=by
  have c7:(7:Nat)<=cap:=by decide
  have x1:vB (za (ua (eC (.int 1))) (za (eC (.bl true)) (za (eC .non) (za (eC (.str "1")) (za (wT (za (eC (.int 1)) zj)) (za (eC (.bl false)) (za (vB (za (eC (.int 1)) zj)) zj))))))) [some (.loc l),some (rD v),some (.int k),none,none] s1=.ok (.lst zcQ) s1:=by simp [cap,zcQ]
  rw [vQ,yo,xc,x1,R.bind_ok,e2,R.bind_ok,ix2];rfl
 have sk:dSl (rD v) none (some (k:Int)) s2=.ok (.tup ((iL v).take k)) s2:=z0u _ _ _;have sd1:dSl (rD v) (some ((k:Int)+1)) none s2=.ok (.tup ((iL v).drop (k+1))) s2:=z0B (iL v) (k+1) s2;have s1':dSl (rD v) none (some 1) s2=.ok (.tup ((iL v).take 1)) s2:=z0u (iL v) 1 s2;have s5':dSl (.tup (iL v++iL v++iL v)) none (some 5) s2=.ok (.tup ((iL v++iL v++iL v).take 5)) s2:=z0u (iL v++iL v++iL v) 5 s2;have lv:(iL v).length=v.length:=by simp
 have iT:∀ x∈(iL v).take k,x∈iL v:=fun x hx=>List.mem_of_mem_take hx;have iW:∀ x∈(iL v).drop (k+1),x∈iL v:=fun x hx=>List.mem_of_mem_drop hx;have lT:((iL v).take k).length<=4:=by rw [List.length_take];omega
 have lW:((iL v).drop (k+1)).length<=4:=by rw [List.length_drop];omega
 generalize (iL v).take k=T at sk iT lT;generalize (iL v).drop (k+1)=W at sd1 iW lW;have ad:xG (rD v) (rD v) s2=.ok (.tup (iL v++iL v)) s2:=by rw [qK,if_pos (by simp [cap];omega)]
 have ad2:xG (.tup (iL v++iL v)) (rD v) s2=.ok (.tup (iL v++iL v++iL v)) s2:=by rw [qK,if_pos (by simp [cap];omega)]
 have rp:z9M (.tup [.int 0]) (.int v.length) s2=.ok (rD (List.replicate v.length 0)) s2:=by
  rw [zeH,if_pos ⟨by omega,by simp,by simp [cap];omega⟩];congr 2;rw [Int.toNat_natCast];generalize v.length=n;induction n with
  | zero=>rfl | succ n ih=>rw [List.replicate_succ,List.flatten_cons,ih];rfl
 have gls:z9r [rD v] s2=.ok (.lst (iL v)) s2:=by simp [z9r,zL]
 let M7:List D:=[.tup (T++[o]++W),rD (List.replicate v.length 0),.lst (iL v),.tup ((iL v++iL v++iL v).take 5),.tup ((iL v).take 1),.tup [],.non];have q3:wk [some (.loc l),some (rD v),some (.int k),some o,none] s2=.ok (.nx [some (.loc l),some (rD v),some (.int k),some o,some (.lst M7)]) s2:=by
  have c1:T.length+1<=cap:=by simp [cap];omega
  have c2:T.length+1+W.length<=cap:=by simp [cap];omega
  have c4:(1:Nat)<=cap:=by decide
  have c0:(0:Nat)<=cap:=by decide
  have c7:(7:Nat)<=cap:=by decide
  have key:∀ (d z g aa bb cc y:D),dSl d none (some (k:Int)) s2=.ok (.tup T) s2->dSl d (some ((k:Int)+1)) none s2=.ok (.tup W) s2->xK [d] s2=.ok (.int v.length) s2->z9M (.tup [.int 0]) (.int v.length) s2=.ok z s2->z9r [d] s2=.ok g s2->xG d d s2=.ok aa s2->xG aa d s2=.ok bb s2->dSl bb none (some 5) s2=.ok cc s2->dSl d none (some 1) s2=.ok y s2-> wk [some (.loc l),some d,some (.int k),some o,none] s2=.ok (.nx [some (.loc l),some d,some (.int k),some o,some (.lst [.tup (T++[o]++W),z,g,cc,y,.tup [],.non])]) s2:=fun d z g aa bb cc y x1 x2 x3 x4 x5 x6 x7 x8 x9=>by
   rw [wk,yo];simp only [ui,zt,zG,xc,z36,xQ,wA,zP,uE,jn,ym,List.getElem?_cons_succ,List.getElem?_cons_zero,R.bind_ok,x1,x2,x3,x4,x5,x6,x7,x8,x9,z41,qK,List.length_append,List.length_cons,List.length_nil,Nat.zero_add,if_pos c1,if_pos c2,if_pos c4,if_pos c0,Nat.reduceAdd,if_pos c7,List.set_cons_succ,List.set_cons_zero]
  exact key _ _ _ _ _ _ _ sk sd1 (gl s2) rp gls ad ad2 s5' s1'
 let M11:List D:=M7++[.int 7,.str "1:2",.dct,.tup [rD v]];obtain ⟨r4,s4,e4,a4,b4,d4⟩:=wQ (f:=zc 0) (g:=eC (.int 11)) (far:=11) (Z:=[some (.loc l),some (rD v),some (.int k),some o,some (.lst M7)]) (d1.trans d2).pot (by decide) (jt (by decide)) (by simp) (by simp);have hr4:r4.toNat<M11.length:=by simp [M11,M7];omega
 have ix4:=z0T (xs:=M11) (d:=M11[r4.toNat]) (s:=s4) a4 (by simp [hr4]);have hrow:∀ x∈iL v,(tyD x).isSome=true:=fun x hx=>by obtain ⟨z,hz,rfl⟩:=List.mem_map.mp hx;rfl
 have hM:∀ d∈M11,NoL d:=by
  intro d hd;simp only [M11,M7,List.mem_append,List.mem_cons,List.not_mem_nil,or_false] at hd;rcases hd with (rfl | rfl | rfl | rfl | rfl | rfl | rfl) | rfl | rfl | rfl | rfl
  ·refine NoL.odd (o:=o) (fun x hx=>?_) (by simp) ho.2;simp only [List.mem_append,List.mem_cons,List.not_mem_nil,or_false] at hx;rcases hx with (hx | rfl) | hx;·exact hrow x (iT x hx)
   ·exact ho.1
   ·exact hrow x (iW x hx)
  ·refine ⟨fun x hx=>by obtain ⟨z,hz,rfl⟩:=List.mem_map.mp hx;rfl,fun n' v' e lt=>?_⟩;have e':List.replicate v.length 0=v':=za5 (by simpa using e);obtain ⟨x,hx,h0⟩:=lt.pos;rw [<- e'] at hx;have:=List.eq_of_mem_replicate hx;omega
  ·exact NoL.other rfl (by intro xs q;cases q)
  ·refine NoL.len (fun x hx=>?_) (.inr (by simp;omega));have hx:=List.mem_of_mem_take hx;simp only [List.mem_append] at hx;rcases hx with (hx | hx) | hx<;>exact hrow x hx
  ·exact NoL.len (fun x hx=>hrow x (List.mem_of_mem_take hx)) (.inl (by simp;omega))
  ·exact NoL.len (fun x hx=>by cases hx) (.inl (by decide))
  ·exact NoL.other rfl (by intro xs q;cases q)
  ·exact NoL.other rfl (by intro xs q;cases q)
  ·exact NoL.other rfl (by intro xs q;cases q)
  ·exact NoL.other rfl (by intro xs q;cases q)
  ·exact NoL.len (fun x hx=>by simp only [List.mem_cons,List.not_mem_nil,or_false] at hx;subst hx;rfl) (.inl (by simp))
 refine ⟨M11[r4.toNat],s4,?_,hM _ (List.getElem_mem hr4),(d1.trans d2).trans d4⟩;have q4:wl [some (.loc l),some (rD v),some (.int k),some o,some (.lst M7)] s2=.ok (.rt M11[r4.toNat]) s4:=by
  have lM:M7.length=7:=rfl;have key:∀ (d x y:D) (z:List D),z.length=7->x=.lst z->ze zq (za (zc 0) (za (eC (.int 11)) zj)) [some (.loc l),some d,some (.int k),some o,some x] s2=.ok (.int r4) s4->dIx (.lst (z++[.int 7,.str "1:2",.dct,.tup [d]])) (.int r4) s4=.ok y s4-> wl [some (.loc l),some d,some (.int k),some o,some x] s2=.ok (.rt y) s4:=fun d x y z hz hx x1 x2=>by
   subst hx;have c4:(4:Nat)<=cap:=by decide
   have c1:(1:Nat)<=cap:=by decide
   have c11:(11:Nat)<=cap:=by decide
   rw [wl,yC];simp only [ui,zt,zG,xc,zP,uE,jn,List.getElem?_cons_succ,List.getElem?_cons_zero,R.bind_ok,x1,x2,z5T,List.length_cons,List.length_nil,hz,Nat.zero_add,Nat.reduceAdd,if_pos c1,if_pos c4,if_pos c11]
  exact key _ _ _ M7 lM rfl e4 ix4
 simp only [xH,Mof,jL,st,List.length_cons,List.length_nil,if_true];rw [zu q1,zu q2,zu q3,q4]
end Pp
namespace K44
open PySem.Spec L2 Dd Pm Pg Pn Pp
theorem isx{c T:Str}{Z:Ev}{s:Sto}(hc:c∈rsX)(h:Z[0]? = some (some (.exc c))):z1B rsX T (zc 0) Z s=.ok (.bl (c==T)) s:=by
 show (zc 0 Z s).bind _=_;rw [vr h,R.bind_ok,ziW,if_pos hc]
def zdk(c:Str):List Bool:=[c=="NoLot",c=="NoRule",c=="Ended",c=="NoBottom",c=="NoRoot",c=="NoCube",c=="NoSize",c=="NoNumber",c=="TooMany",c=="NoTable",c=="NoTuple",c=="NotAlike"]
def bl4(c:Str):List Bool:=[c=="NotFair",c=="NoText",c=="NoStep",c=="NoDeed"]
theorem zcq {c w:Str} {k:Nat} (hc:c∈rsX) (h1:(zdk c++bl4 c++[c=="NoRow"]).count true=1) (hk:(zdk c++bl4 c++[c=="NoRow"]).idxOf true=k) (hm:true∈zdk c++bl4 c++[c=="NoRow"]) (hw:([.str "lot",.str "rule",.str "ended",.str "bottom",.str "root",.str "cube",.str "size",.str "number",.str "many",.str "no",.str "no",.str "no",.str "no",.str "no",.str "no",.str "no",.str "no"]:List D)[k]? = some (.str w)) (s:Sto): ∃ more,zS [.exc c] s=.ok (.str w) (s++more):=by
 have st:zr ["_law_e","_law_some","_law_words"] [.exc c]=[some (.exc c),none,none]:=rfl;have c4:(4:Nat)<=cap:=by decide
 have c8:(8:Nat)<=cap:=by decide
 have c12:(12:Nat)<=cap:=by decide
 have c16:(16:Nat)<=cap:=by decide
 have x:∀ T (a b:Option D) s,z1B rsX T (zc 0) [some (.exc c),a,b] s=.ok (.bl (c==T)) s:=fun T a b s=>isx hc rfl;have f1:vm [some (.exc c),none,none] s=.ok (.nx [some (.exc c),some (.lst [.bl (c=="NoLot"),.bl (c=="NoRule"),.bl (c=="Ended"),.bl (c=="NoBottom")]),none]) s:=by
  rw [vm,yo];simp only [ui,zt,zG,x,R.bind_ok,List.length_cons,List.length_nil,Nat.zero_add,Nat.reduceAdd,if_pos c4];rfl
 have f2:vb [some (.exc c),some (.lst [.bl (c=="NoLot"),.bl (c=="NoRule"),.bl (c=="Ended"),.bl (c=="NoBottom")]),none] s=.ok (.nx [some (.exc c),some (.lst [.bl (c=="NoLot"),.bl (c=="NoRule"),.bl (c=="Ended"),.bl (c=="NoBottom"),.bl (c=="NoRoot"),.bl (c=="NoCube"),.bl (c=="NoSize"),.bl (c=="NoNumber")]),none]) s:=by
  rw [vb,yo,xc];simp only [ui,zt,zG,x,R.bind_ok,zP,List.getElem?_cons_succ,List.getElem?_cons_zero,List.length_cons,List.length_nil,Nat.zero_add,Nat.reduceAdd,if_pos c4,z5T,if_pos c8];rfl
 have q3:vn [some (.exc c),some (.lst [.bl (c=="NoLot"),.bl (c=="NoRule"),.bl (c=="Ended"),.bl (c=="NoBottom"),.bl (c=="NoRoot"),.bl (c=="NoCube"),.bl (c=="NoSize"),.bl (c=="NoNumber")]),none] s=.ok (.nx [some (.exc c),some (.lst ((zdk c).map D.bl)),none]) s:=by
  rw [vn,yo,xc];simp only [ui,zt,zG,x,R.bind_ok,zP,List.getElem?_cons_succ,List.getElem?_cons_zero,List.length_cons,List.length_nil,Nat.zero_add,Nat.reduceAdd,if_pos c4,z5T,if_pos c12];rfl
 have l12:((zdk c).map D.bl).length=12:=rfl;have fl:D.flat.flats ((zdk c).map D.bl++(bl4 c).map D.bl)=true:=rfl;have fl4:D.flat.flats ((bl4 c).map D.bl)=true:=rfl;generalize hL:(zdk c).map D.bl=L at q3 l12 fl;have at1:(s++[(bl4 c).map D.bl])[s.length]? = some ((bl4 c).map D.bl):=by simp
 have q4:wW [some (.exc c),some (.lst L),none] s=.ok (.nx [some (.exc c),some (.loc (s.length+1)),none]) (s++[(bl4 c).map D.bl]++[L++(bl4 c).map D.bl]):=by
  rw [wW,yo,xc,vr (d:=.lst L) rfl,R.bind_ok];have e:z9V (za (z1B rsX "NotFair" (zc 0)) (za (z1B rsX "NoText" (zc 0)) (za (z1B rsX "NoStep" (zc 0)) (za (z1B rsX "NoDeed" (zc 0)) zj)))) [some (.exc c),some (.lst L),none] s=.ok (.loc s.length) (s++[(bl4 c).map D.bl]):=by
   simp only [z89,zt,zG,x,R.bind_ok,List.length_cons,List.length_nil,Nat.zero_add,Nat.reduceAdd];rw [if_pos ⟨c4,rfl⟩];rfl
  rw [e,R.bind_ok];simp only [zcl,Dd.listOf,at1];rw [if_pos ⟨by rw [l12];show 12+4<=cap;decide,fl⟩];simp
 let ns:=zdk c++bl4 c++[c=="NoRow"];have hns:L++(bl4 c).map D.bl++[.bl (c=="NoRow")]=ns.map D.bl:=by rw [<- hL];simp [ns]
 have q5:vg [some (.exc c),some (.loc (s.length+1)),none] (s++[(bl4 c).map D.bl]++[L++(bl4 c).map D.bl])=.ok (.nx [some (.exc c),some (.loc (s.length+1)),none]) (s++[(bl4 c).map D.bl]++[ns.map D.bl]):=by
  have at2:(s++[(bl4 c).map D.bl]++[L++(bl4 c).map D.bl])[s.length+1]? = some (L++(bl4 c).map D.bl):=by rw [List.getElem?_append_right (by simp)];simp
  rw [vg,qa,z8O,vr (d:=.loc (s.length+1)) rfl,R.bind_ok];simp only;rw [x,R.bind_ok];simp only [at2];rw [if_pos ⟨rfl,by rw [List.length_append,l12];show 12+4<cap;decide⟩,R.bind_ok,hns];have:=zfm (s:=s++[(bl4 c).map D.bl]) (x:=L++(bl4 c).map D.bl) (y:=ns.map D.bl);rw [List.length_append] at this;rw [show s.length+1=s.length+[(bl4 c).map D.bl].length from rfl,this]
 have at3:(s++[(bl4 c).map D.bl]++[ns.map D.bl])[s.length+1]? = some (ns.map D.bl):=by rw [List.getElem?_append_right (by simp)];simp
 have bn:bools (ns.map D.bl)=some ns:=z2Q _;refine ⟨[(bl4 c).map D.bl]++[ns.map D.bl],?_⟩;rw [<- List.append_assoc];generalize s++[(bl4 c).map D.bl]++[ns.map D.bl]=s' at q5 at3;have q6:vk [some (.exc c),some (.loc (s.length+1)),none] s'=.ok (.nx [some (.exc c),some (.loc (s.length+1)),none]) s':=by
  rw [vk,zgK];·rfl
  ·refine zh2 (jv ?_) (zeK (jv ?_))
   ·rw [op2 (x:=.int 1) (y:=.int 1) (by
     show (zc 1 _ s').bind _=_;rw [vr (d:=.loc (s.length+1)) rfl,R.bind_ok];simp only [jn,R.bind_ok,at3,Option.bind_some,bn];rw [show ns.count true=1 from h1];rfl) rfl];rfl
   ·show (zc 0 _ s').bind _=_;rw [vr (d:=.exc c) rfl,R.bind_ok,ziZ,if_pos hc]
 have q8:vh [some (.exc c),some (.loc (s.length+1)),none] s'=.ok (.nx [some (.exc c),some (.loc (s.length+1)),some (.lst [.str "lot",.str "rule",.str "ended",.str "bottom",.str "root",.str "cube",.str "size",.str "number",.str "many"])]) s':=by
  rw [vh,yo];rfl
 have q9:vi [some (.exc c),some (.loc (s.length+1)),some (.lst [.str "lot",.str "rule",.str "ended",.str "bottom",.str "root",.str "cube",.str "size",.str "number",.str "many"])] s'=.ok (.rt (.str w)) s':=by
  have e1:eOp xG (zc 2) (eOp zgX (vB (za (eC (.str "no")) zj)) (eC (.int 8))) [some (.exc c),some (.loc (s.length+1)),some (.lst [.str "lot",.str "rule",.str "ended",.str "bottom",.str "root",.str "cube",.str "size",.str "number",.str "many"])] s'=.ok (.lst [.str "lot",.str "rule",.str "ended",.str "bottom",.str "root",.str "cube",.str "size",.str "number",.str "many",.str "no",.str "no",.str "no",.str "no",.str "no",.str "no",.str "no",.str "no"]) s':=rfl;have e2:z8u (zc 1) (eC (.bl true)) [some (.exc c),some (.loc (s.length+1)),some (.lst [.str "lot",.str "rule",.str "ended",.str "bottom",.str "root",.str "cube",.str "size",.str "number",.str "many"])] s'=.ok (.int (k:Nat)) s':=by
   show (zc 1 _ s').bind _=_;rw [vr (d:=.loc (s.length+1)) rfl,R.bind_ok];simp only [jn,R.bind_ok,at3,Option.bind_some,bn];rw [if_pos ⟨hm,by simp [ns,zdk,bl4]⟩,show ns.idxOf true=k from hk]
  rw [vi,yC,op2 e1 e2,z0T (d:=.str w) (by omega) (by simpa using hw)];rfl
 simp only [zS,Mof,je,st,List.length_cons,List.length_nil,if_true];rw [zu f1,zu f2,zu q3,zu q4,zu q5,zu q6,zu q8,q9]
theorem z8w(s:Sto):∃ more,zS [.exc "NoLot"] s=.ok (.str "lot") (s++more):=zcq (k:=0) (by decide +kernel) (by decide +kernel) (by decide +kernel) (by decide +kernel) rfl s
theorem zbb(s:Sto):∃ more,zS [.exc "NoRule"] s=.ok (.str "rule") (s++more):=zcq (k:=1) (by decide +kernel) (by decide +kernel) (by decide +kernel) (by decide +kernel) rfl s
theorem z2D(s:Sto):∃ more,zS [.exc "NoBottom"] s=.ok (.str "bottom") (s++more):=zcq (k:=3) (by decide +kernel) (by decide +kernel) (by decide +kernel) (by decide +kernel) rfl s
theorem z33(s:Sto):∃ more,zS [.exc "NoNumber"] s=.ok (.str "number") (s++more):=zcq (k:=7) (by decide +kernel) (by decide +kernel) (by decide +kernel) (by decide +kernel) rfl s
theorem z22 {w x y:D} {s more:Sto} (h:zZ [some w,some x,some y,none] s=.ok (.nx [some w,some x,some y,none]) (s++more)):zg [w,x,y] s=.ok (.str "told") s:=by
 have st:zr ["_law_way","_law_one","_law_other","_law_e"] [w,x,y]=[some w,some x,some y,none]:=rfl;simp only [zg,z7O,Mof,qX,st,List.length_cons,List.length_nil,if_true];rw [zu (Z':=[some w,some x,some y,none]) (s':=s++more) (by simp only [qt,zbM];rw [h])];simp only [z0b,yC,jn,R.bind_ok];rw [z0x rfl,List.take_left'];rfl
theorem z0m {w x y:D} {s:Sto} {c k:Str} (hc:c∈rsX) (hk:∃ more,zS [.exc c] s=.ok (.str k) (s++more)) (h:zZ [some w,some x,some y,none] s=.ex c s):zg [w,x,y] s=.ok (.str k) s:=by
 have st:zr ["_law_way","_law_one","_law_other","_law_e"] [w,x,y]=[some w,some x,some y,none]:=rfl;obtain ⟨more,hk⟩:=hk;have e9:qf ((List.replicate 4 none).set 3 (some (.exc c))) s=.ok (.rt (.str k)) (s++more):=by rw [qf,yC,vO (x:=.exc c) (by rfl),hk];rfl
 simp only [zg,z7O,Mof,qX,st,List.length_cons,List.length_nil,if_true];rw [zbq (s':=s++more) (d:=.str k) (by
  simp only [qt,zbM];rw [h];simp only [if_pos hc,List.length_cons,List.length_nil,Nat.zero_add,Nat.reduceAdd];rw [e9])];simp only [];rw [z0x rfl,List.take_left'];rfl
section
variable {x y:D}{s:Sto}
theorem zdh {k:Nat} {f:Str} {X:Mir} (h:(k:Int)≠4) (h0:dIx (.lst [.fn "tops",.fn "errors",.fn "worst",.fn "records"]) (.int k) s=.ok (.fn f) s) (hx:List.lookup f [("tops",X_tops),("errors",xa),("worst",uv),("records",xw)]=some X): zZ [some (.int k),some x,some y,none] s=(X [x,y] s).bind fun _ s1=>.ok (.nx [some (.int k),some x,some y,none]) s1:=by
 have c4:(4:Nat)<=cap:=by decide
 rw [zZ,jr,jv (b:=false) (by rw [op2 (x:=.int k) (y:=.int 4) rfl rfl,z7E,decide_eq_false h]),R.bind_ok,if_neg (by decide),kM,qa];simp only [z8R,xc,ui,zt,zG,jn,zP,List.getElem?_cons_zero,List.getElem?_cons_succ,R.bind_ok,List.length_cons,List.length_nil,Nat.zero_add,Nat.reduceAdd,if_pos c4,h0,hx]
theorem w0:zZ [some (.int 0),some x,some y,none] s=(X_tops [x,y] s).bind fun _ s1=>.ok (.nx [some (.int 0),some x,some y,none]) s1:=zdh (k:=0) (by decide) rfl rfl
theorem w1:zZ [some (.int 1),some x,some y,none] s=(xa [x,y] s).bind fun _ s1=>.ok (.nx [some (.int 1),some x,some y,none]) s1:=zdh (k:=1) (by decide) rfl rfl
theorem w2:zZ [some (.int 2),some x,some y,none] s=(uv [x,y] s).bind fun _ s1=>.ok (.nx [some (.int 2),some x,some y,none]) s1:=zdh (k:=2) (by decide) rfl rfl
theorem w3:zZ [some (.int 3),some x,some y,none] s=(xw [x,y] s).bind fun _ s1=>.ok (.nx [some (.int 3),some x,some y,none]) s1:=zdh (k:=3) (by decide) rfl rfl
theorem w4:zZ [some (.int 4),some x,some y,none] s=(wf [y,x] s).bind fun _ s1=>.ok (.nx [some (.int 4),some x,some y,none]) s1:=by rw [zZ,jr,jv (b:=true) (by rw [op2 (x:=.int 4) (y:=.int 4) rfl rfl,z7E];rfl),R.bind_ok,if_pos rfl,z0a,qa,call2 (x:=y) (y:=x) rfl rfl]
end
open PySem.Builtin.Str
def zef:List Rl:=[.nx,.le,.al,.tu]
theorem zdb(s:Sto):yk [] s=.ok (.lst (zef.map fun r=>D.str (nmR r))) s:=by
 have c4:(4:Nat)<=cap:=by decide
 have st:zr [] []=[]:=rfl;simp only [yk,Mof,qJ,st,List.length_nil,if_true,uK,yC,ui,zt,zG,jn,R.bind_ok,List.length_cons,Nat.zero_add,Nat.reduceAdd,if_pos c4];rfl
theorem zaW {s:Sto} {l:Nat} {f:FE} {Z:Ev} (h:Pot s l) (hf:f Z s=.ok (.loc l) s):∃ r s',eOp dIx (ze Pg.yk zj) (ze Pg.zq (za f (za (eC (.int 4)) zj))) Z s=.ok (.str (nmR r)) s'/\vo s s' l:=by
 obtain ⟨x,s',e,a,b,dr⟩:=wQ (f:=f) (g:=eC (.int 4)) (far:=4) (Z:=Z) h (by decide) (jt (by decide)) hf (by simp);have hr:x.toNat<zef.length:=by simp [zef];omega
 refine ⟨zef[x.toNat],s',?_,dr⟩;have ix:=z0T (xs:=zef.map fun r=>D.str (nmR r)) (d:=.str (nmR zef[x.toNat])) (s:=s') a (by simp [hr]);rw [xc,ym,zG,R.bind_ok,zdb,R.bind_ok,e,R.bind_ok,ix]
def tA(r:Rl)(k:Nat):Str:=Txt.slice (nmR r) none (some (k:Int))
def tB(r:Rl)(k:Nat):Str:=Txt.slice (nmR r) (some (k:Int)) none
def tL(j:Nat):Str:=⟨#[97+j]⟩
def okK(r:Rl)(k j:Nat):Bool:=decide ((tA r k).length+(tB r (k+1)).length<=cap)&&decide ((tA r k).length+(tL j).length<=cap)&&decide ((tA r k++tL j).length+(tB r k).length<=cap)&&decide (tooLong (Txt.upper (nmR r)).length=false)&&decide ((nmR r).length+(" ":Str).length<=cap)&&(wK.lookup (tA r k++tB r (k+1))).isNone&&(wK.lookup (tA r k++tL j++tB r k)).isNone&&decide ((nmR r).length<=5)
theorem zbS:∀ r∈zef,∀ k<(nmR r).length,∀ j<26,okK r k j=true:=by decide +kernel
theorem zeq(r:Rl):r∈zef:=by cases r<;>decide
def no7(r:Rl)(k j:Nat):List D:=[.str (tA r k++tB r (k+1)),.str (tA r k++tL j++tB r k),.str (Txt.upper (nmR r)),.str (nmR r++" "),.str "",.non,.int 3]
def no4(r:Rl):List D:=[.tup [.str (nmR r)],.lst [.str (nmR r)],.bl true,.dct]
def zjN(d:D):Prop:=∀ s,yN [d] s=.ex "NoRule" s
theorem zha{r:Rl}{k j:Nat}(hk:k<(nmR r).length)(hj:j<26){d:D}(h:d∈no7 r k j++no4 r):zjN d:=fun s=>by
 refine Pn.z3t ?_;have ok:=zbS r (zeq r) k hk j hj;simp only [okK,Bool.and_eq_true,decide_eq_true_eq,Option.isNone_iff_eq_none] at ok;simp only [no7,no4,List.mem_append,List.mem_cons,List.not_mem_nil,or_false] at h;rcases h with (rfl | rfl | h) | h;·exact Pn.z35 ok.1.1.2 s
 ·exact Pn.z35 ok.1.2 s
 ·exact Po.noR_is (r:=r) (by simp only [Po.noR,List.mem_cons,List.not_mem_nil,or_false];rcases h with rfl | rfl | rfl | rfl | rfl<;>simp) s
 ·exact Po.noR_is (r:=r) (by simp only [Po.noR,List.mem_cons,List.not_mem_nil,or_false];rcases h with rfl | rfl | rfl | rfl<;>simp) s
theorem zaP{j:Nat}(hj:j<26)(s:Sto):zhR (.str "abcdefghijklmnopqrstuvwxyz") (.int (j:Int)) s=.ok (.str (tL j)) s:=by
 have all:∀ j:Nat,j<26->(("abcdefghijklmnopqrstuvwxyz":Str).length<=cap)/\atI ("abcdefghijklmnopqrstuvwxyz":Str).cps.toList (j:Int)=some (97+j):=by decide +kernel
 have h:=all j hj;simp only [zhR];rw [if_pos h.1,h.2];rfl
theorem z6H {s:Sto} {l:Nat} (h:Pot s l):∃ d s',yx [.loc l] s=.ok d s'/\zjN d/\vo s s' l:=by
 have st:zr ["_law_pot_here","_law_name","_law_spot","_law_letter","_law_some"] [.loc l]=[some (.loc l),none,none,none,none]:=rfl;obtain ⟨r,s1,e1,d1⟩:=zaW (f:=zc 0) (Z:=[some (.loc l),none,none,none,none]) h (by simp);have q1:yI [some (.loc l),none,none,none,none] s=.ok (.nx [some (.loc l),some (.str (nmR r)),none,none,none]) s1:=by rw [yI,yo,e1];rfl
 have hlen:0<(nmR r).length/\(nmR r).length<=5:=by cases r<;>decide +kernel
 have gl:z9N [.str (nmR r)] s1=.ok (.int (nmR r).length) s1:=by simp only [z9N];rw [if_pos (by simp [cap];omega)]
 obtain ⟨r2,s2,e2,a2,b2,d2⟩:=wQ (f:=zc 0) (g:=ze z9N (za (zc 1) zj)) (far:=(nmR r).length) (Z:=[some (.loc l),some (.str (nmR r)),none,none,none]) d1.pot (by omega) (jt (by omega)) (by simp) (by rw [vO (x:=.str (nmR r)) (by simp)];exact gl);obtain ⟨k,rfl⟩:=Int.eq_ofNat_of_zero_le a2;have hk:k<(nmR r).length:=by omega
 have q2:yJ [some (.loc l),some (.str (nmR r)),none,none,none] s1=.ok (.nx [some (.loc l),some (.str (nmR r)),some (.int k),none,none]) s2:=by rw [yJ,yo,e2];rfl
 obtain ⟨r3,s3,e3,a3,b3,d3⟩:=wQ (f:=zc 0) (g:=eC (.int 26)) (far:=26) (Z:=[some (.loc l),some (.str (nmR r)),some (.int k),none,none]) d2.pot (by decide) (jt (by decide)) (by simp) (by simp);obtain ⟨j,rfl⟩:=Int.eq_ofNat_of_zero_le a3;have hj:j<26:=by omega
 have q3:vj [some (.loc l),some (.str (nmR r)),some (.int k),none,none] s2=.ok (.nx [some (.loc l),some (.str (nmR r)),some (.int k),some (.str (tL j)),none]) s3:=by rw [vj,yo,xc,jn,R.bind_ok,e3,R.bind_ok,zaP hj s3];rfl
 have ok:=zbS r (zeq r) k hk j hj;simp only [okK,Bool.and_eq_true,decide_eq_true_eq,Option.isNone_iff_eq_none] at ok;obtain ⟨⟨⟨⟨⟨⟨⟨o1,o2⟩,o3⟩,o4⟩,o5⟩,_⟩,_⟩,o6⟩:=ok;have c6:(nmR r).length<=cap:=by simp [cap];omega
 have q4:ve [some (.loc l),some (.str (nmR r)),some (.int k),some (.str (tL j)),none] s3=.ok (.nx [some (.loc l),some (.str (nmR r)),some (.int k),some (.str (tL j)),some (.lst (no7 r k j))]) s3:=by
  have x0:∀ Z:Ev,Z=[some (.loc l),some (.str (nmR r)),some (.int k),some (.str (tL j)),none]->ziI (zc 1) (yE (zc 2)) Z s3=.ok (.str (tA r k)) s3:=fun Z hZ=>by
   subst hZ;show (zc 1 _ s3).bind _=_;rw [vr (d:=.str (nmR r)) rfl,R.bind_ok];show ((yE (zc 2) _ s3).bind _)=_;rw [wA,vr (d:=.int k) rfl,R.bind_ok,R.bind_ok];simp only;rw [if_pos c6];rfl
  have xb:∀ (f:FE) (i:Nat) (Z:Ev),Z=[some (.loc l),some (.str (nmR r)),some (.int k),some (.str (tL j)),none]->f Z s3=.ok (.int i) s3->zgy (zc 1) (yE f) Z s3=.ok (.str (tB r i)) s3:=fun f i Z hZ hf=>by
   subst hZ;show (zc 1 _ s3).bind _=_;rw [vr (d:=.str (nmR r)) rfl,R.bind_ok];show ((yE f _ s3).bind _)=_;rw [wA,hf,R.bind_ok,R.bind_ok];simp only;rw [if_pos c6];rfl
  have y0:=x0 _ rfl;have y1:=xb (eOp xG (zc 2) (eC (.int 1))) (k+1) _ rfl (by simp);have y2:=xb (zc 2) k _ rfl (by simp);have y3:z8I (zc 1) [some (.loc l),some (.str (nmR r)),some (.int k),some (.str (tL j)),none] s3=.ok (.str (Txt.upper (nmR r))) s3:=by
   show (zc 1 _ s3).bind _=_;rw [vr (d:=.str (nmR r)) rfl,R.bind_ok];simp only;rw [if_pos o4]
  have z1:uG (.str (tA r k)) (.str (tB r (k+1))) s3=.ok (.str (tA r k++tB r (k+1))) s3:=by simp only [uG];rw [if_pos o1]
  have z2:uG (.str (tA r k)) (.str (tL j)) s3=.ok (.str (tA r k++tL j)) s3:=by simp only [uG];rw [if_pos o2]
  have z3:uG (.str (tA r k++tL j)) (.str (tB r k)) s3=.ok (.str (tA r k++tL j++tB r k)) s3:=by simp only [uG];rw [if_pos o3]
  have z4:uG (.str (nmR r)) (.str " ") s3=.ok (.str (nmR r++" ")) s3:=by simp only [uG];rw [if_pos o5]
  have c7:(7:Nat)<=cap:=by decide
  have v1:=op2 (o:=uG) y0 y1;rw [z1] at v1;have v2:=op2 (o:=uG) y0 (vr (i:=3) (d:=.str (tL j)) (Z:=[some (.loc l),some (.str (nmR r)),some (.int k),some (.str (tL j)),none]) (s:=s3) rfl);rw [z2] at v2;have v3:=op2 (o:=uG) v2 y2;rw [z3] at v3;have v4:eOp uG (zc 1) (eC (.str " ")) [some (.loc l),some (.str (nmR r)),some (.int k),some (.str (tL j)),none] s3=.ok (.str (nmR r++" ")) s3:=by rw [op2 (x:=.str (nmR r)) (y:=.str " ") (vr rfl) rfl,z4]
  rw [ve,yo];simp only [ui,zt,zG,v1,v3,y3,v4,jn,R.bind_ok,List.length_cons,List.length_nil,Nat.zero_add,Nat.reduceAdd,if_pos c7,List.set_cons_succ,List.set_cons_zero];rfl
 obtain ⟨r4,s4,e4,a4,b4,d4⟩:=wQ (f:=zc 0) (g:=eC (.int 11)) (far:=11) (Z:=[some (.loc l),some (.str (nmR r)),some (.int k),some (.str (tL j)),some (.lst (no7 r k j))]) d3.pot (by decide) (jt (by decide)) (by simp) (by simp);have hr4:r4.toNat<(no7 r k j++no4 r).length:=by simp [no7,no4];omega
 have ix4:=z0T (xs:=no7 r k j++no4 r) (d:=(no7 r k j++no4 r)[r4.toNat]) (s:=s4) a4 (by simp [hr4]);have nd:=zha hk hj (List.getElem_mem hr4);generalize (no7 r k j++no4 r)[r4.toNat]=d at ix4 nd;refine ⟨d,s4,?_,nd,((d1.trans d2).trans d3).trans d4⟩;have l7:(no7 r k j).length=7:=rfl;clear hr4 nd;generalize no7 r k j=N7 at q4 e4 ix4 l7;have q5:wZ [some (.loc l),some (.str (nmR r)),some (.int k),some (.str (tL j)),some (.lst N7)] s3=.ok (.rt d) s4:=by
  have c4:(4:Nat)<=cap:=by decide
  have c1:(1:Nat)<=cap:=by decide
  have c11:(11:Nat)<=cap:=by decide
  have x1:eOp xG (zc 4) (vB (za (wT (za (zc 1) zj)) (za (vB (za (zc 1) zj)) (za (eC (.bl true)) (za (eC .dct) zj))))) [some (.loc l),some (.str (nmR r)),some (.int k),some (.str (tL j)),some (.lst N7)] s3=.ok (.lst (N7++no4 r)) s3:=by
   simp only [ui,zt,zG,xc,zP,uE,jn,List.getElem?_cons_succ,List.getElem?_cons_zero,R.bind_ok,z5T,List.length_cons,List.length_nil,l7,Nat.zero_add,Nat.reduceAdd,if_pos c1,if_pos c4,if_pos c11];rfl
  rw [wZ,yC,xc,x1,R.bind_ok,e4,R.bind_ok,ix4];rfl
 simp only [yx,Mof,xC,st,List.length_cons,List.length_nil,if_true];rw [zu q1,zu q2,zu q3,zu q4,q5]
end K44
namespace K44
open PySem.Spec L2 Dd Pm Pg Pn Pp
theorem z6k{n a b:Int}(hn:¬ (a<=n/\n<=b))(s:Sto):zI [.int n,.int a,.int b] s=.ex "NoNumber" s:=by
 have i:=z3K n s;by_cases h:a<=n
 ·have hb:¬ n<=b:=fun z=>hn ⟨h,z⟩;simp [zI,kU,wm,zr,i,h,hb]
 ·simp [zI,kU,wm,zr,i,h]
theorem z6Q{d a b:D}(h1:(tyD d).isSome=true)(h2:isI d=false)(s:Sto):zI [d,a,b] s=.ex "NoNumber" s:=by
 have i:=kc h1 s;rw [h2] at i;simp [zI,kU,wm,zr,i]
def zb2:List D:=[.int 0,.int 1000000000001,.int (-1),.bl true,.non,.str "1",.tup [.int 1],.int 1000000000000000000000000000000000000000]
def zaM:List D:=[.int 0,.int 1001,.int (-1),.bl false,.non,.str "1",.lst [.int 1],.int 1000000000000000000000000000000000000000]
theorem zgD{d:D}(h:d∈zb2)(s:Sto):zI [d,.int 1,.int (10 ^ 12)] s=.ex "NoNumber" s:=by
 simp only [zb2,List.mem_cons,List.not_mem_nil,or_false] at h;rcases h with rfl | rfl | rfl | rfl | rfl | rfl | rfl | rfl;·exact z6k (by decide) s
 ·exact z6k (by decide) s
 ·exact z6k (by decide) s
 ·exact z6Q rfl rfl s
 ·exact z6Q rfl rfl s
 ·exact z6Q rfl rfl s
 ·exact z6Q rfl rfl s
 ·exact z6k (by decide) s
theorem zim{d:D}(h:d∈zaM)(s:Sto):zI [d,.int 1,.int 1000] s=.ex "NoNumber" s:=by
 simp only [zaM,List.mem_cons,List.not_mem_nil,or_false] at h;rcases h with rfl | rfl | rfl | rfl | rfl | rfl | rfl | rfl;·exact z6k (by decide) s
 ·exact z6k (by decide) s
 ·exact z6k (by decide) s
 ·exact z6Q rfl rfl s
 ·exact z6Q rfl rfl s
 ·exact z6Q rfl rfl s
 ·exact z6Q rfl rfl s
 ·exact z6k (by decide) s
theorem hL:("NoLot":Str)∈rsX:=by decide +kernel
theorem hB:("NoBottom":Str)∈rsX:=by decide +kernel
theorem hN:("NoNumber":Str)∈rsX:=by decide +kernel
theorem hR:("NoRule":Str)∈rsX:=by decide +kernel
theorem zdO{c k:Str}{d y:D}{s:Sto}(hc:c∈rsX)(hk:∃ more,zS [.exc c] s=.ok (.str k) (s++more))(h:zy [d] s=.ex c s){w:Nat}(hw:w<4):zg [.int w,d,y] s=.ok (.str k) s:=by
 refine z0m hc hk ?_;have t:X_tops [d,y] s=.ex c s:=zlF h;match w,hw with
 | 0,_=>exact (w0).trans (by rw [t];rfl) | 1,_=>exact (w1).trans (by rw [zj1 t];rfl) | 2,_=>exact (w2).trans (by rw [zkY (zj1 t)];rfl) | 3,_=>exact (w3).trans (by rw [zlu h];rfl)
theorem z1F{d y:D}(h:NoL d)(s:Sto){w:Nat}(hw:w<4):zg [.int w,d,y] s=.ok (.str "lot") s:=zdO hL (z8w s) (zdJ (h.x s)) hw
theorem z00{n:Nat}{ps:List Int}{y:D}(h:Lot n (ps++[0]))(s:Sto){w:Nat}(hw:w<4):zg [.int w,rD (ps++[0]),y] s=.ok (.str "bottom") s:=zdO hB (z2D s) (z9Y h s) hw
section
variable {n m:Nat}{ps:List Int}{q:Int}
theorem zgO(h:Bot n m ps q)(s:Sto):zy [rD (ps++[q])] s=.ok .non s:=wI.ok (h.want s)
theorem zdA(h:Bot n m ps q){y:D}(s:Sto){w:Nat}(hw:w<3)(hy:y∈zb2):zg [.int w,rD (ps++[q]),y] s=.ok (.str "number") s:=by
 refine z0m hN (z33 s) ?_;have t:X_tops [rD (ps++[q]),y] s=.ex "NoNumber" s:=zlj (zgO h s) (zgD hy s);generalize rD (ps++[q])=d at t;match w,hw with
 | 0,_=>exact (w0).trans (by rw [t];rfl) | 1,_=>exact (w1).trans (by rw [zj1 t];rfl) | 2,_=>exact (w2).trans (by rw [zkY (zj1 t)];rfl)
theorem zc1(h:Bot n m ps q){y:D}(s:Sto)(hy:y∈zaM):zg [.int 3,rD (ps++[q]),y] s=.ok (.str "number") s:=by
 refine z0m hN (z33 s) ?_;have t:xw [rD (ps++[q]),y] s=.ex "NoNumber" s:=zlc (zgO h s) (zim hy s);generalize rD (ps++[q])=d at t;exact (w3).trans (by rw [t];rfl)
theorem zdW(h:Bot n m ps q)(hm:m<=1999){b:Int}(h1:1<=b)(h2:b<=10 ^ 12)(s:Sto):zg [.int 0,rD (ps++[q]),.int b] s=.ok (.str "told") s:=by
 have t:=zbZ.ok (zdQ h hm h1 h2 s);generalize rD (ps++[q])=d at t;generalize rD (ps.map (z3s b q))=e at t;exact z22 (more:=[]) ((w0).trans (by rw [t,List.append_nil];rfl))
theorem zhQ(h:Bot n m ps q)(hm:m<=1999){b:Int}(h1:1<=b)(h2:b<=10 ^ 12)(s:Sto):zg [.int 1,rD (ps++[q]),.int b] s=.ok (.str "told") s:=by
 have t:=z5K.ok (z8V h hm h1 h2 s);generalize rD (ps++[q])=d at t;generalize rD (ps.map (z76 b q))=e at t;exact z22 (more:=[]) ((w1).trans (by rw [t,List.append_nil];rfl))
theorem zh3(h:Bot n m ps q)(hm:m<=1999){b:Int}(h1:1<=b)(h2:b<=10 ^ 12)(s:Sto):zg [.int 2,rD (ps++[q]),.int b] s=.ok (.str "told") s:=by
 have t:=z8W.ok (zaj h hm h1 h2 s);generalize rD (ps++[q])=d at t;exact z22 (more:=[]) ((w2).trans (by rw [t,List.append_nil];rfl))
theorem zdX(h:Bot n m ps q)(hm:m<=1999){b:Int}(h1:1<=b)(h2:b<=1000)(s:Sto):zg [.int 3,rD (ps++[q]),.int b] s=.ok (.str "told") s:=by
 obtain ⟨xs,t⟩:=zat h hm h1 h2 s;have t:=z9A.ok t;generalize rD (ps++[q])=d at t;exact z22 (more:=[xs]) ((w3).trans (by rw [t];rfl))
theorem z8b(h:Bot n m ps q)(hm:m<=1999)(s:Sto){w:Nat}(hw:w<4):zg [.int w,rD (ps++[q]),.int 1] s=.ok (.str "told") s:=by match w,hw with
 | 0,_=>exact zdW h hm (by decide) (by decide) s | 1,_=>exact zhQ h hm (by decide) (by decide) s | 2,_=>exact zh3 h hm (by decide) (by decide) s | 3,_=>exact zdX h hm (by decide) (by decide) s
theorem zbu(r:Rl)(h:Bot n m ps q)(hm:m<=900)(s:Sto):zg [.int 4,rD (ps++[q]),.str (nmR r)] s=.ok (.str "told") s:=by
 obtain ⟨ls,Rn,ll⟩:=zdR (r:=r) (20*m+3) (ps++[q]) h.lot.toLot (zjP (r:=r) h.lot.toLot h.lot.toN);have t:=z9e.ok (zbP r h.lot (by have:=h.pos;simp;omega) Rn (by omega) (by omega) s);generalize rD (ps++[q])=d at t;exact z22 (more:=[_,_]) ((w4).trans (by rw [t];simp only [R.bind_ok,List.append_assoc];rfl))
end
theorem zbo{d y:D}(h:zjN y)(s:Sto):zg [.int 4,d,y] s=.ok (.str "rule") s:= z0m hR (zbb s) ((w4).trans (by rw [zlm (h s)];rfl))
theorem zhe(r:Rl)(s:Sto):yN [.str (nmR r)] s=.ok .non s:=z03.ok (kG r s)
theorem z99{d:D}(r:Rl)(h:NoL d)(s:Sto):zg [.int 4,d,.str (nmR r)] s=.ok (.str "lot") s:= z0m hL (z8w s) ((w4).trans (by rw [zkC (zhe r s) (zdJ (h.x s))];rfl))
theorem z79{n:Nat}{ps:List Int}(r:Rl)(h:Lot n (ps++[0]))(s:Sto):zg [.int 4,rD (ps++[0]),.str (nmR r)] s=.ok (.str "bottom") s:=by
 have t:=zkC (zhe r s) (z9Y h s);generalize rD (ps++[0])=d at t;exact z0m hB (z2D s) ((w4).trans (by rw [t];rfl))
abbrev Sh(sc:D)(a1 a2 a3 a4 a5 a6 a7 a8 a9 a10 a11 a12:Option D):Ev:=[some sc,a1,a2,a3,a4,a5,a6,a7,a8,a9,a10,a11,a12]
theorem zbc{xs:List D}(h:okD 1 (.lst xs)=true)(s:Sto):dNe (.lst xs) (.lst xs) s=.ok (.bl false) s:=ne_self (k:=1) h (by decide) s
structure zaL(non bare lot:D)(w:Nat)(odd:D):Prop where
 t1:∀ s,zg [.int w,non,odd] s=.ok (.str "lot") s
 t2:∀ s,zg [.int w,non,.int 1] s=.ok (.str "lot") s
 t3:∀ s,zg [.int w,bare,odd] s=.ok (.str "bottom") s
 t4:∀ s,zg [.int w,bare,.int 1] s=.ok (.str "bottom") s
 t5:∀ s,zg [.int w,lot,odd] s=.ok (.str "number") s
 t6:∀ s,zg [.int w,lot,.int 1] s=.ok (.str "told") s
section
variable {sc non bare lot odd:D}{w:Nat}{a1 a2 a6 a7 a11 a12:Option D}{s:Sto}
def six:List D:=[.str "lot",.str "lot",.str "bottom",.str "bottom",.str "number",.str "told"]
theorem zcu (T:zaL non bare lot w odd) (a10:Option D):(zQ z32 (zQ z24 z1G)) (Sh sc a1 a2 (some lot) (some non) (some bare) a6 a7 (some (.int w)) (some odd) a10 a11 a12) s=.ok (.nx (Sh sc a1 a2 (some lot) (some non) (some bare) a6 a7 (some (.int w)) (some odd) (some (.lst six)) a11 a12)) s:=by
 have c3:(3:Nat)<=cap:=by decide
 have c6:(6:Nat)<=cap:=by decide
 have h8:z32 (Sh sc a1 a2 (some lot) (some non) (some bare) a6 a7 (some (.int w)) (some odd) a10 a11 a12) s=.ok (.nx (Sh sc a1 a2 (some lot) (some non) (some bare) a6 a7 (some (.int w)) (some odd) (some (.lst [.str "lot",.str "lot",.str "bottom"])) a11 a12)) s:=by
  rw [z32,yo,ui,zt,z02 (x:=.int w) (y:=non) (z:=odd) rfl rfl rfl,T.t1,R.bind_ok,zt,z02 (x:=.int w) (y:=non) (z:=.int 1) rfl rfl rfl,T.t2,R.bind_ok,zt,z02 (x:=.int w) (y:=bare) (z:=odd) rfl rfl rfl,T.t3,R.bind_ok,zG];simp only [R.bind_ok,List.length_cons,List.length_nil,Nat.zero_add,Nat.reduceAdd,if_pos c3];rfl
 have h9:z24 (Sh sc a1 a2 (some lot) (some non) (some bare) a6 a7 (some (.int w)) (some odd) (some (.lst [.str "lot",.str "lot",.str "bottom"])) a11 a12) s=.ok (.nx (Sh sc a1 a2 (some lot) (some non) (some bare) a6 a7 (some (.int w)) (some odd) (some (.lst six)) a11 a12)) s:=by
  rw [z24,yo,xc,vr (d:=.lst [.str "lot",.str "lot",.str "bottom"]) rfl,R.bind_ok,ui,zt,z02 (x:=.int w) (y:=bare) (z:=.int 1) rfl rfl rfl,T.t4,R.bind_ok,zt,z02 (x:=.int w) (y:=lot) (z:=odd) rfl rfl rfl,T.t5,R.bind_ok,zt,z02 (x:=.int w) (y:=lot) (z:=.int 1) rfl rfl rfl,T.t6,R.bind_ok,zG];simp only [R.bind_ok,List.length_cons,List.length_nil,Nat.zero_add,Nat.reduceAdd,if_pos c3,z5T,if_pos c6];rfl
 rw [zu h8,zu h9,z1G,zgK];·rfl
 ·refine jv ?_;rw [op2 (x:=.lst six) (y:=.lst six) (vr rfl) rfl];exact zbc (by decide +kernel) s
theorem zln {bad far:D} (hb:∀ w,w<3->zaL non bare lot w bad) (hf:zaL non bare lot 3 far) (a8 a9 a10:Option D): z2L (Sh sc a1 a2 (some lot) (some non) (some bare) (some bad) (some far) a8 a9 a10 a11 a12) s=.ok (.nx (Sh sc a1 a2 (some lot) (some non) (some bare) (some bad) (some far) (some (.int 3)) (some far) (some (.lst six)) a11 a12)) s:=by
 have c4:(4:Nat)<=cap:=by decide
 have c2:(2:Nat)<=cap:=by decide
 have it:vB (za (wT (za (eC (.int 0)) (za (zc 6) zj))) (za (wT (za (eC (.int 1)) (za (zc 6) zj))) (za (wT (za (eC (.int 2)) (za (zc 6) zj))) (za (wT (za (eC (.int 3)) (za (zc 7) zj))) zj)))) (Sh sc a1 a2 (some lot) (some non) (some bare) (some bad) (some far) a8 a9 a10 a11 a12) s=.ok (.lst [.tup [.int 0,bad],.tup [.int 1,bad],.tup [.int 2,bad],.tup [.int 3,far]]) s:=by simp only [ui,zt,zG,uE,jn,zP,List.getElem?_cons_succ,List.getElem?_cons_zero,R.bind_ok,List.length_cons,List.length_nil,Nat.zero_add,Nat.reduceAdd,if_pos c4,if_pos c2]
 have b0:=fun a10=>zcu (sc:=sc) (a1:=a1) (a2:=a2) (a6:=some bad) (a7:=some far) (a11:=a11) (a12:=a12) (s:=s) (hb 0 (by decide)) a10;have b1:=fun a10=>zcu (sc:=sc) (a1:=a1) (a2:=a2) (a6:=some bad) (a7:=some far) (a11:=a11) (a12:=a12) (s:=s) (hb 1 (by decide)) a10;have b2:=fun a10=>zcu (sc:=sc) (a1:=a1) (a2:=a2) (a6:=some bad) (a7:=some far) (a11:=a11) (a12:=a12) (s:=s) (hb 2 (by decide)) a10;have b3:=fun a10=>zcu (sc:=sc) (a1:=a1) (a2:=a2) (a6:=some bad) (a7:=some far) (a11:=a11) (a12:=a12) (s:=s) hf a10;rw [z2L,z38,ul it,R.bind_ok];generalize (zQ z32 (zQ z24 z1G))=body at *;have ok:∀ all:List D,okG [] all s=true:=fun all=>by simp [okG]
 show xJ [] _ _ [_,_,_,_] _ s=_;rw [xJ,if_pos (by intro p hp;simp at hp)];show ((body (Sh sc a1 a2 (some lot) (some non) (some bare) (some bad) (some far) (some (.int ((0:Nat):Int))) (some bad) a10 a11 a12) s).bind _)=_;rw [b0,R.bind_ok];simp only;rw [xJ,if_pos (by intro p hp;simp at hp)];show ((body (Sh sc a1 a2 (some lot) (some non) (some bare) (some bad) (some far) (some (.int ((1:Nat):Int))) (some bad) (some (.lst six)) a11 a12) s).bind _)=_;rw [b1,R.bind_ok];simp only;rw [xJ,if_pos (by intro p hp;simp at hp)];show ((body (Sh sc a1 a2 (some lot) (some non) (some bare) (some bad) (some far) (some (.int ((2:Nat):Int))) (some bad) (some (.lst six)) a11 a12) s).bind _)=_;rw [b2,R.bind_ok];simp only;rw [xJ,if_pos (by intro p hp;simp at hp)];show ((body (Sh sc a1 a2 (some lot) (some non) (some bare) (some bad) (some far) (some (.int ((3:Nat):Int))) (some far) (some (.lst six)) a11 a12) s).bind _)=_;rw [b3,R.bind_ok];simp only;rw [xJ,if_pos (by intro p hp;simp at hp)];rfl
theorem zkt {rule:D} (h:∀ d s,zg [.int 4,d,rule] s=.ok (.str "rule") s) (a8 a9 a10:Option D): kH (Sh sc a1 a2 (some lot) (some non) (some bare) a6 a7 a8 a9 a10 (some rule) a12) s=.ok (.nx (Sh sc a1 a2 (some lot) (some non) (some bare) a6 a7 a8 a9 (some (.lst [.str "rule",.str "rule",.str "rule"])) (some rule) a12)) s:=by
 have it:vB (za (zc 4) (za (zc 5) (za (zc 3) zj))) (Sh sc a1 a2 (some lot) (some non) (some bare) a6 a7 a8 a9 a10 (some rule) a12) s=.ok (.lst ([non,bare,lot].map id)) s:=rfl;have c:=comp_map (fi:=yF (vB (za (zc 4) (za (zc 5) (za (zc 3) zj))))) (mp:=[some 11,none]) (fg:=wb 1) (fe:=ze zg (za (eC (.int 4)) (za (zc 1) (za (zc 0) zj)))) (Z:=Sh sc a1 a2 (some lot) (some non) (some bare) a6 a7 a8 a9 a10 (some rule) a12) (s:=s) id (fun _=>D.str "rule") (fun d=>[some rule,some d]) [non,bare,lot] (ul it) (fun d _=>rfl) (fun d _=>by rw [z02 (x:=.int 4) (y:=d) (z:=rule) rfl rfl rfl];exact h d s) (show 3<=cap by decide);rw [kH,yo,c];rfl
theorem zj4 {word:D} (h1:∀ s,zg [.int 4,non,word] s=.ok (.str "lot") s) (h2:∀ s,zg [.int 4,bare,word] s=.ok (.str "bottom") s) (h3:∀ s,zg [.int 4,lot,word] s=.ok (.str "told") s) (a8 a9:Option D): kT (Sh sc a1 a2 (some lot) (some non) (some bare) a6 a7 a8 a9 (some (.lst [.str "rule",.str "rule",.str "rule"])) a11 (some word)) s=.ok (.nx (Sh sc a1 a2 (some lot) (some non) (some bare) a6 a7 a8 a9 (some (.lst [.str "rule",.str "rule",.str "rule",.str "lot",.str "bottom",.str "told"])) a11 (some word))) s:=by
 have it:vB (za (zc 4) (za (zc 5) (za (zc 3) zj))) (Sh sc a1 a2 (some lot) (some non) (some bare) a6 a7 a8 a9 (some (.lst [.str "rule",.str "rule",.str "rule"])) a11 (some word)) s=.ok (.lst (([(non,"lot"),(bare,"bottom"),(lot,"told")]:List (D×Str)).map Prod.fst)) s:=rfl;have c:=comp_map (fi:=yF (vB (za (zc 4) (za (zc 5) (za (zc 3) zj))))) (mp:=[some 12,none]) (fg:=wb 1) (fe:=ze zg (za (eC (.int 4)) (za (zc 1) (za (zc 0) zj)))) (Z:=Sh sc a1 a2 (some lot) (some non) (some bare) a6 a7 a8 a9 (some (.lst [.str "rule",.str "rule",.str "rule"])) a11 (some word)) (s:=s) Prod.fst (fun p:D×Str=>D.str p.2) (fun p=>[some word,some p.1]) ([(non,"lot"),(bare,"bottom"),(lot,"told")]:List (D×Str)) (ul it) (fun d _=>rfl) (fun p hp=>by
  rw [z02 (x:=.int 4) (y:=p.1) (z:=word) rfl rfl rfl];simp only [List.mem_cons,List.not_mem_nil,or_false] at hp;rcases hp with rfl | rfl | rfl;·exact h1 s
  ·exact h2 s
  ·exact h3 s) (show 3<=cap by decide);rw [kT,yo,op2 (x:=.lst [.str "rule",.str "rule",.str "rule"]) (vr rfl) c];rfl
theorem zjQ (a3 a4 a5 a8 a9:Option D):kK (Sh sc a1 a2 a3 a4 a5 a6 a7 a8 a9 (some (.lst [.str "rule",.str "rule",.str "rule",.str "lot",.str "bottom",.str "told"])) a11 a12) s=.ok (.nx (Sh sc a1 a2 a3 a4 a5 a6 a7 a8 a9 (some (.lst [.str "rule",.str "rule",.str "rule",.str "lot",.str "bottom",.str "told"])) a11 a12)) s:=by
 rw [kK,zgK];·rfl
 ·refine jv ?_;rw [op2 (x:=.lst [.str "rule",.str "rule",.str "rule",.str "lot",.str "bottom",.str "told"]) (y:=.lst [.str "rule",.str "rule",.str "rule",.str "lot",.str "bottom",.str "told"]) (vr rfl) rfl];exact zbc (by decide +kernel) s
end
theorem zku (Z:Ev) (s:Sto):z4T Z s=.ok (.rt (.bl true)) s:=by
 have B:Bot 2 5 [1] 2:=⟨⟨⟨by unfold Sz;omega,rfl,by decide,1,by decide,by decide⟩,by decide⟩,by decide⟩;have t0:=zdW B (by decide) (b:=10 ^ 12) (by decide) (by decide) s;have t3:=zdX B (by decide) (b:=1000) (by decide) (by decide) s;have e0:eOp dEq (ze zg (za (eC (.int 0)) (za (wT (za (eC (.int 1)) (za (eC (.int 2)) zj))) (za (eOp z1N (eC (.int 10)) (eC (.int 12))) zj)))) (eC (.str "told")) Z s=.ok (.bl true) s:=by
  rw [op2 (x:=.str "told") (y:=.str "told") (by rw [z02 (x:=.int 0) (y:=rD ([1]++[2])) (z:=.int (10 ^ 12)) rfl rfl (by rw [op2 (x:=.int 10) (y:=.int 12) rfl rfl,zhd];rfl)];exact t0) rfl];exact eq_self (k:=0) (by decide +kernel) (by decide) s
 have e3:eOp dEq (ze zg (za (eC (.int 3)) (za (wT (za (eC (.int 1)) (za (eC (.int 2)) zj))) (za (eC (.int 1000)) zj)))) (eC (.str "told")) Z s=.ok (.bl true) s:=by
  rw [op2 (x:=.str "told") (y:=.str "told") (by rw [z02 (x:=.int 3) (y:=rD ([1]++[2])) (z:=.int 1000) rfl rfl rfl];exact t3) rfl];exact eq_self (k:=0) (by decide +kernel) (by decide) s
 rw [z4T,yC,zgG,e0];simp only [R.bind_ok];rw [e3];rfl
theorem zgW(p:Int)(rest:List Int)(q:Int)(s:Sto):dSl (.tup (iL (p::rest++[q]))) (some 1) (some (-1)) s=.ok (.tup (iL rest)) s:=by
 have e:Dd.cutD (iL (p::rest++[q])) (some 1) (some (-1))=iL rest:=by
  have e1:HT.sIx (iL (p::rest++[q])).length (iL (p::rest++[q])).length (some (-1))=rest.length+1:=by
   unfold HT.sIx;simp only;rw [if_pos (by omega)];simp;omega
  have e2:HT.sIx (iL (p::rest++[q])).length 0 (some 1)=1:=by
   unfold HT.sIx;simp only;rw [if_neg (by omega)];simp
  unfold Dd.cutD;rw [e1,e2];simp [iL]
 simp only [dSl,e]
abbrev zgg:D->Ev->Sto->R Fl:=fun d Z s=>(wb 1 d Z s).bind fun Z' s'=>(zQ z2G (zQ z1X (zQ z2K (zQ z30 (zQ z34 (zQ z2L (zQ kX (zQ kH (zQ kT kK))))))))) Z' s'
def ShL(ns:List Int)(Z:Ev):Prop:=∃ a1 a2 a3 a4 a5 a6 a7 a8 a9 a10 a11 a12,Z=Sh (.scr (iL ns)) a1 a2 a3 a4 a5 a6 a7 a8 a9 a10 a11 a12
theorem zm4 {sc d non:D} {l:Nat} {p:Int} {rest:List Int} {s s1:Sto} (a1 a4 a5 a6 a7 a8 a9 a10 a11 a12:Option D) (hr:rest.length<=4) (h1:∀ s,dIx d (.int 0) s=.ok (.int p) s) (h2:∀ s,dSl d (some 1) (some (-1)) s=.ok (.tup (iL rest)) s) (h3:xH [.loc l,d] s=.ok non s1): z2K (Sh sc a1 (some (.loc l)) (some d) a4 a5 a6 a7 a8 a9 a10 a11 a12) s=.ok (.nx (Sh sc a1 (some (.loc l)) (some d) (some non) (some (rD ((1+p)::rest++[0]))) a6 a7 a8 a9 a10 a11 a12)) s1:=by
 have c1:(1:Nat)<=cap:=by decide
 have x1:wT (za (eOp xG (eC (.int 1)) (eOp dIx (zc 3) (eC (.int 0)))) zj) (Sh sc a1 (some (.loc l)) (some d) a4 a5 a6 a7 a8 a9 a10 a11 a12) s1=.ok (.tup [.int (1+p)]) s1:=by simp only [uE,zt,zG,xc,jn,zP,List.getElem?_cons_succ,List.getElem?_cons_zero,R.bind_ok,h1,z41,List.length_cons,List.length_nil,Nat.zero_add,if_pos c1]
 have x2:eSl (zc 3) (yE (eC (.int 1))) (yE (ua (eC (.int 1)))) (Sh sc a1 (some (.loc l)) (some d) a4 a5 a6 a7 a8 a9 a10 a11 a12) s1=.ok (.tup (iL rest)) s1:=by simp only [z36,zP,List.getElem?_cons_zero,List.getElem?_cons_succ,R.bind_ok,wA,z2u,jn];exact h2 s1
 have x3:eOp xG (eOp xG (wT (za (eOp xG (eC (.int 1)) (eOp dIx (zc 3) (eC (.int 0)))) zj)) (eSl (zc 3) (yE (eC (.int 1))) (yE (ua (eC (.int 1)))))) (wT (za (eC (.int 0)) zj)) (Sh sc a1 (some (.loc l)) (some d) a4 a5 a6 a7 a8 a9 a10 a11 a12) s1=.ok (rD ((1+p)::rest++[0])) s1:=by
  rw [op2 (x:=.tup ([.int (1+p)]++iL rest)) (y:=.tup [.int 0]) (by rw [op2 x1 x2,qK,if_pos (by simp [cap];omega)]) rfl,qK,if_pos (by simp [cap];omega)];simp [iL]
 rw [z2K,zei,zt,call2 (x:=.loc l) (y:=d) (vr rfl) (vr rfl),h3,R.bind_ok,zt,x3];rfl
theorem zeV (ns:List Int) (j:Nat) (Z:Ev) (s:Sto) (h:ShL ns Z):∃ Z' s',zgg (.int j) Z s=.ok (.nx Z') s'/\ShL ns Z':=by
 obtain ⟨a1,a2,a3,a4,a5,a6,a7,a8,a9,a10,a11,a12,rfl⟩:=h;rw [show zgg (.int j) (Sh (.scr (iL ns)) a1 a2 a3 a4 a5 a6 a7 a8 a9 a10 a11 a12) s=(zQ z2G (zQ z1X (zQ z2K (zQ z30 (zQ z34 (zQ z2L (zQ kX (zQ kH (zQ kT kK))))))))) (Sh (.scr (iL ns)) (some (.int j)) a2 a3 a4 a5 a6 a7 a8 a9 a10 a11 a12) s from rfl];obtain ⟨c,e1⟩:=zi9 ns j s;obtain ⟨q0,e2⟩:=zks c s;have p0:Pot (s++[[.int q0]]) s.length:=⟨q0,by simp⟩;have g2:z2G (Sh (.scr (iL ns)) (some (.int j)) a2 a3 a4 a5 a6 a7 a8 a9 a10 a11 a12) s=.ok (.nx (Sh (.scr (iL ns)) (some (.int j)) (some (.loc s.length)) a3 a4 a5 a6 a7 a8 a9 a10 a11 a12)) (s++[[.int q0]]):=by rw [z2G,yo,vO (x:=.int c) (by rw [call2 (x:=.scr (iL ns)) (y:=.int j) (vr rfl) (vr rfl),e1]),e2];rfl
 generalize s.length=l at p0 g2;generalize s++[[D.int q0]]=s0 at p0 g2;generalize hsc:D.scr (iL ns)=sc at g2;obtain ⟨n,ps,q,s1,e3,B,d1⟩:=zeO p0;obtain ⟨non,s2,e4,hno,d2⟩:=zdl d1.pot B.lot;obtain ⟨p,rest,rfl⟩:∃ p rest,ps=p::rest:=by cases ps with
  | nil=>exact absurd rfl B.ne | cons p rest=>exact ⟨p,rest,rfl⟩
 have i0:∀ s,dIx (rD (p::rest++[q])) (.int 0) s=.ok (.int p) s:=fun s=>by
  simp [dIx,zL,atI,ixN,iL];rw [if_pos (by omega)];rfl
 have sm:∀ s,dSl (rD (p::rest++[q])) (some 1) (some (-1)) s=.ok (.tup (iL rest)) s:=fun s=>zgW p rest q s;have pb:=B.p_bd (p:=p) (by simp);have Lb:Lot n ((1+p)::rest++[0]):=⟨B.lot.sz,by have:=B.lot.len;simpa using this,fun x hx=>by
  simp only [List.cons_append,List.mem_cons,List.mem_append,List.not_mem_nil,or_false] at hx;rcases hx with rfl | hx | rfl;·omega
  ·exact (B.p_bd (p:=x) (by simp [hx])).1
  ·omega,1+p,by simp,by omega⟩;have hrest:rest.length<=4:=by have h1:=B.lot.len;have h2:=B.lot.sz;unfold Sz at h2;simp at h1;omega
 have tb:∀ (w:Nat) (o:D),w<3->o∈zb2->zaL non (rD ((1+p)::rest++[0])) (rD (p::rest++[q])) w o:=fun w o hw ho=>⟨fun s=>z1F hno s (by omega),fun s=>z1F hno s (by omega),fun s=>z00 Lb s (by omega),fun s=>z00 Lb s (by omega),fun s=>zdA B s hw ho,fun s=>z8b B (by decide) s (by omega)⟩;have tf:∀ o:D,o∈zaM->zaL non (rD ((1+p)::rest++[0])) (rD (p::rest++[q])) 3 o:=fun o ho=>⟨fun s=>z1F hno s (by omega),fun s=>z1F hno s (by omega),fun s=>z00 Lb s (by omega),fun s=>z00 Lb s (by omega),fun s=>zc1 B s ho,fun s=>z8b B (by decide) s (by omega)⟩;have tc1:∀ (r:Rl) s,zg [.int 4,non,.str (nmR r)] s=.ok (.str "lot") s:=fun r s=>z99 r hno s;have tc2:∀ (r:Rl) s,zg [.int 4,rD ((1+p)::rest++[0]),.str (nmR r)] s=.ok (.str "bottom") s:=fun r s=>z79 r Lb s;have tc3:∀ (r:Rl) s,zg [.int 4,rD (p::rest++[q]),.str (nmR r)] s=.ok (.str "told") s:=fun r s=>zbu r B (by decide) s;have g4:=fun a4 a5 a6 a7 a8 a9 a10 a11 a12=>zm4 (sc:=sc) (some (.int j)) a4 a5 a6 a7 a8 a9 a10 a11 a12 hrest i0 sm e4;generalize rD (p::rest++[q])=lot at *;generalize rD ((1+p)::rest++[0])=bare at *;have g3:z1X (Sh sc (some (.int j)) (some (.loc l)) a3 a4 a5 a6 a7 a8 a9 a10 a11 a12) s0=.ok (.nx (Sh sc (some (.int j)) (some (.loc l)) (some lot) a4 a5 a6 a7 a8 a9 a10 a11 a12)) s1:=by rw [z1X,yo,vO (x:=.loc l) (vr rfl),e3];rfl
 obtain ⟨r5,s3,e5,b5,b5',d3⟩:=wQ (f:=zc 2) (g:=eC (.int 8)) (far:=8) (Z:=Sh sc (some (.int j)) (some (.loc l)) (some lot) (some non) (some bare) a6 a7 a8 a9 a10 a11 a12) d2.pot (by decide) (jt (by decide)) (vr rfl) rfl;have hr5:r5.toNat<zb2.length:=by simp [zb2];omega
 have ix5:=z0T (xs:=zb2) (d:=zb2[r5.toNat]) (s:=s3) b5 (by simp [hr5]);have hb:=List.getElem_mem hr5;generalize zb2[r5.toNat]=bad at ix5 hb;have g5:z30 (Sh sc (some (.int j)) (some (.loc l)) (some lot) (some non) (some bare) a6 a7 a8 a9 a10 a11 a12) s2=.ok (.nx (Sh sc (some (.int j)) (some (.loc l)) (some lot) (some non) (some bare) (some bad) a7 a8 a9 a10 a11 a12)) s3:=by
  have e:∀ Z:Ev,vB (za (eC (.int 0)) (za (eOp xG (eOp z1N (eC (.int 10)) (eC (.int 12))) (eC (.int 1))) (za (ua (eC (.int 1))) (za (eC (.bl true)) (za (eC .non) (za (eC (.str "1")) (za (wT (za (eC (.int 1)) zj)) (za (eOp z1N (eC (.int 10)) (eC (.int 39))) zj)))))))) Z s2=.ok (.lst zb2) s2:=fun Z=>by simp [zhd,zcK,cap,zb2]
  rw [z30,yo,xc,e,R.bind_ok,e5,R.bind_ok,ix5];rfl
 obtain ⟨r6,s4,e6,b6,b6',d4⟩:=wQ (f:=zc 2) (g:=eC (.int 8)) (far:=8) (Z:=Sh sc (some (.int j)) (some (.loc l)) (some lot) (some non) (some bare) (some bad) a7 a8 a9 a10 a11 a12) d3.pot (by decide) (jt (by decide)) (vr rfl) rfl;have hr6:r6.toNat<zaM.length:=by simp [zaM];omega
 have ix6:=z0T (xs:=zaM) (d:=zaM[r6.toNat]) (s:=s4) b6 (by simp [hr6]);have hf:=List.getElem_mem hr6;generalize zaM[r6.toNat]=far at ix6 hf;have g6:z34 (Sh sc (some (.int j)) (some (.loc l)) (some lot) (some non) (some bare) (some bad) a7 a8 a9 a10 a11 a12) s3=.ok (.nx (Sh sc (some (.int j)) (some (.loc l)) (some lot) (some non) (some bare) (some bad) (some far) a8 a9 a10 a11 a12)) s4:=by
  have e:∀ Z:Ev,vB (za (eC (.int 0)) (za (eC (.int 1001)) (za (ua (eC (.int 1))) (za (eC (.bl false)) (za (eC .non) (za (eC (.str "1")) (za (vB (za (eC (.int 1)) zj)) (za (eOp z1N (eC (.int 10)) (eC (.int 39))) zj)))))))) Z s3=.ok (.lst zaM) s3:=fun Z=>by simp [zcK,cap,zaM]
  rw [z34,yo,xc,e,R.bind_ok,e6,R.bind_ok,ix6];rfl
 have g7:=zln (sc:=sc) (a1:=some (.int j)) (a2:=some (.loc l)) (a11:=a11) (a12:=a12) (s:=s4) (bad:=bad) (far:=far) (fun w hw=>tb w bad hw hb) (tf far hf) a8 a9 a10;obtain ⟨rule,s5,e7,hru,d5⟩:=z6H d4.pot;obtain ⟨r,s6,e8,d6⟩:=zaW (f:=zc 2) (Z:=Sh sc (some (.int j)) (some (.loc l)) (some lot) (some non) (some bare) (some bad) (some far) (some (.int 3)) (some far) (some (.lst six)) a11 a12) d5.pot (vr rfl);have g12:kX (Sh sc (some (.int j)) (some (.loc l)) (some lot) (some non) (some bare) (some bad) (some far) (some (.int 3)) (some far) (some (.lst six)) a11 a12) s4=.ok (.nx (Sh sc (some (.int j)) (some (.loc l)) (some lot) (some non) (some bare) (some bad) (some far) (some (.int 3)) (some far) (some (.lst six)) (some rule) (some (.str (nmR r))))) s6:=by
  rw [kX,zak,uE,zt,vO (x:=.loc l) (vr rfl),e7,R.bind_ok,zt,e8];simp only [zG,R.bind_ok];rw [if_pos (by simp [cap])];rfl
 have g13:=zkt (sc:=sc) (a1:=some (.int j)) (a2:=some (.loc l)) (lot:=lot) (non:=non) (bare:=bare) (a6:=some bad) (a7:=some far) (a12:=some (.str (nmR r))) (s:=s6) (fun d s=>zbo hru s) (some (.int 3)) (some far) (some (.lst six));have g14:=zj4 (sc:=sc) (a1:=some (.int j)) (a2:=some (.loc l)) (lot:=lot) (non:=non) (bare:=bare) (a6:=some bad) (a7:=some far) (a11:=some rule) (s:=s6) (tc1 r) (tc2 r) (tc3 r) (some (.int 3)) (some far);refine ⟨Sh sc (some (.int j)) (some (.loc l)) (some lot) (some non) (some bare) (some bad) (some far) (some (.int 3)) (some far) (some (.lst [.str "rule",.str "rule",.str "rule",.str "lot",.str "bottom",.str "told"])) (some rule) (some (.str (nmR r))),s6,?_,?_⟩;·rw [zu g2,zu g3,zu (g4 _ _ _ _ _ _ _ _ _),zu g5,zu g6,zu g7,zu g12,zu g13,zu g14,zjQ]
 ·rw [<- hsc];exact ⟨_,_,_,_,_,_,_,_,_,_,_,_,rfl⟩
theorem ziC(n:Nat)(b:Nat):∃ k:Nat,(if (if ((b:Nat):Int)<(n:Int) then ((b:Nat):Int) else n) > 1 then (if ((b:Nat):Int)<(n:Int) then ((b:Nat):Int) else n) else 1)=(k:Int)/\k<=b+1:=by
 by_cases h:((b:Nat):Int)<n
 ·rw [if_pos h];by_cases h2:((b:Nat):Int) > 1;·exact ⟨b,by rw [if_pos h2],by omega⟩
  ·exact ⟨1,by rw [if_neg h2];rfl,by omega⟩
 ·rw [if_neg h];by_cases h2:((n:Nat):Int) > 1;·exact ⟨n,by rw [if_pos h2],by omega⟩
  ·exact ⟨1,by rw [if_neg h2];rfl,by omega⟩
theorem zhz (ns:List Int):∃ Z' s',z7q (Sh (.scr (iL ns)) none none none none none none none none none none none none) []=.ok (.nx Z') s':=by
 obtain ⟨k,ek,hk⟩:=ziC ns.length 8;rw [show ((8:Nat):Int)=8 from rfl] at ek;obtain ⟨Z',s',e,_⟩:=z8t (all:=yP k) (body:=zgg) (fun Z _=>ShL ns Z) (yP k) (fun x hx Z s hI=>by
  obtain ⟨j,_,rfl⟩:=z9a hx;exact zeV ns j Z s hI) (Sh (.scr (iL ns)) none none none none none none none none none none none none) [] ⟨_,_,_,_,_,_,_,_,_,_,_,_,rfl⟩;refine ⟨Z',s',?_⟩;unfold z7q;rw [z38,zaB (n:=k) (s1:=[]) (by omega) (by simp only [ym,zt,zG,jn,zP,List.getElem?_cons_zero,R.bind_ok,xK,zL,List.length_map,z7P,zcL,ek]),R.bind_ok];exact e
theorem zcc:∀ ns:List Int,ns.length<=63->∃ s',zeB [.scr (ns.map D.int)] []=.ok (.bl true) s':=fun ns hn=>by
 obtain ⟨Z',s',e⟩:=zhz ns;refine ⟨s',?_⟩;have st:zr ["_law_script","_law_at","_law_pot_here","_law_lot_here","_law_none","_law_bare","_law_bad","_law_far","_law_way","_law_odd","_law_told_here","_law_rule","_law_word"] [.scr (ns.map D.int)]=Sh (.scr (iL ns)) none none none none none none none none none none none none:=rfl;unfold zeB Mof zdK;rw [if_pos (by rfl),st,zu e,zku]
end K44
namespace K44
open PySem.Spec L2 Dd Pg
theorem zgm:∀ x∈rsX,x∈askQ.xs:=by decide +kernel
theorem zlW:∀ x∈csX,x∈askQ.xs:=by decide +kernel
theorem zlQ:∀ x∈rsX,∀ y∈csX,((x,y),x==y)∈askQ.ps:=by decide +kernel
theorem zlC:("DrawError":Str)∈askQ.xs:=by decide +kernel
theorem zlg:∀ x∈rsX,((x,("DrawError":Str)),true)∈askQ.ps:=by decide +kernel
theorem all_mk {P:Program} {w:World} {K:W.Frag} {h:Heap} {mg:Str->Option Value} {fa:Addr} (X:K.In h) (G:h.Ns mainGlobals mg) (hfa:mg "law"=some (.ref fa)) (e:z9S askQ K=valS askQ w) (lo_MOST_BOTTOM:∃ t,mg "MOST_BOTTOM"=some (.int (10 ^ 12) t)) : ∃ fd:FuncData,(∀ (s:Shared) (v:Value),BindsTo s fd ⟨[v],[]⟩ [("_law_script",v)])/\∀ base:Heap,K.In base->base.Ns mainGlobals mg->z4h P w K mg base CX0 13 fa fd ["_law_script"] (zeN K):=by
 obtain ⟨f0,d0,a0,F0⟩:=zJ X G e 0 rfl;obtain ⟨f1,d1,a1,F1⟩:=zJ X G e 1 rfl;obtain ⟨f2,d2,a2,F2⟩:=zJ X G e 2 rfl;obtain ⟨f3,d3,a3,F3⟩:=zJ X G e 3 rfl;obtain ⟨f4,d4,a4,F4⟩:=zJ X G e 4 rfl;obtain ⟨f5,d5,a5,F5⟩:=zJ X G e 5 rfl;obtain ⟨f6,d6,a6,F6⟩:=zJ X G e 6 rfl;obtain ⟨f7,d7,a7,F7⟩:=zJ X G e 7 rfl;obtain ⟨f8,d8,a8,F8⟩:=zJ X G e 8 rfl;obtain ⟨f9,d9,a9,F9⟩:=zJ X G e 9 rfl;obtain ⟨f10,d10,a10,F10⟩:=zJ X G e 10 rfl;obtain ⟨f11,d11,a11,F11⟩:=zJ X G e 11 rfl;obtain ⟨f12,d12,a12,F12⟩:=zJ X G e 12 rfl;obtain ⟨f13,d13,a13,F13⟩:=zJ X G e 13 rfl;obtain ⟨f14,d14,a14,F14⟩:=zJ X G e 14 rfl;obtain ⟨f15,d15,a15,F15⟩:=zJ X G e 15 rfl;obtain ⟨f16,d16,a16,F16⟩:=zJ X G e 16 rfl;obtain ⟨f17,d17,a17,F17⟩:=zJ X G e 17 rfl;obtain ⟨f18,d18,a18,F18⟩:=zJ X G e 18 rfl;obtain ⟨f19,d19,a19,F19⟩:=zJ X G e 19 rfl;obtain ⟨f20,d20,a20,F20⟩:=zJ X G e 20 rfl;obtain ⟨f21,d21,a21,F21⟩:=zJ X G e 21 rfl;obtain ⟨f22,d22,a22,F22⟩:=zJ X G e 22 rfl;obtain ⟨f23,d23,a23,F23⟩:=zJ X G e 23 rfl;obtain ⟨f24,d24,a24,F24⟩:=zJ X G e 24 rfl;obtain ⟨f25,d25,a25,F25⟩:=zJ X G e 25 rfl;obtain ⟨f26,d26,a26,F26⟩:=zJ X G e 26 rfl;obtain ⟨f27,d27,a27,F27⟩:=zJ X G e 27 rfl;obtain ⟨f28,d28,a28,F28⟩:=zJ X G e 28 rfl;obtain ⟨f29,d29,a29,F29⟩:=zJ X G e 29 rfl;obtain ⟨f30,d30,a30,F30⟩:=zJ X G e 30 rfl;obtain ⟨f31,d31,a31,F31⟩:=zJ X G e 31 rfl;obtain ⟨f32,d32,a32,F32⟩:=zJ X G e 32 rfl;obtain ⟨f33,d33,a33,F33⟩:=zJ X G e 33 rfl;obtain ⟨f34,d34,a34,F34⟩:=zJ X G e 34 rfl;obtain ⟨f35,d35,a35,F35⟩:=zJ X G e 35 rfl;obtain ⟨f36,d36,a36,F36⟩:=zJ X G e 36 rfl;obtain ⟨f37,d37,a37,F37⟩:=zJ X G e 37 rfl;obtain ⟨f38,d38,a38,F38⟩:=zJ X G e 38 rfl;obtain ⟨f39,d39,a39,F39⟩:=zJ X G e 39 rfl;obtain ⟨f40,d40,a40,F40⟩:=zJ X G e 40 rfl;obtain ⟨f41,d41,a41,F41⟩:=zJ X G e 41 rfl;obtain ⟨f42,d42,a42,F42⟩:=zJ X G e 42 rfl;obtain ⟨f43,d43,a43,F43⟩:=zJ X G e 43 rfl;obtain ⟨f44,d44,a44,F44⟩:=zJ X G e 44 rfl;obtain ⟨f45,d45,a45,F45⟩:=zJ X G e 45 rfl;obtain ⟨f46,d46,a46,F46⟩:=zJ X G e 46 rfl;obtain ⟨f47,d47,a47,F47⟩:=zJ X G e 47 rfl;obtain ⟨f48,d48,a48,F48⟩:=zJ X G e 48 rfl;obtain ⟨f49,d49,a49,F49⟩:=zJ X G e 49 rfl;obtain ⟨f50,d50,a50,F50⟩:=zJ X G e 50 rfl;have e0:=hfa.symm.trans a50;cases e0;obtain ⟨oc,od,kV,doc,pm,an,cdv,ct,osl,rfl,hl,hc⟩:=F50.ex;have T:Txt mg:=⟨zbd X G e 0 rfl,lo_MOST_BOTTOM,zbd X G e 1 rfl,zbd X G e 2 rfl,vp X G e 0 rfl,vp X G e 1 rfl,vp X G e 2 rfl,vp X G e 3 rfl,vp X G e 4 rfl,vp X G e 5 rfl,vp X G e 6 rfl,vp X G e 7 rfl,vp X G e 8 rfl,vp X G e 9 rfl,vp X G e 10 rfl,vp X G e 11 rfl,vp X G e 12 rfl,vp X G e 13 rfl,vp X G e 14 rfl,vp X G e 15 rfl⟩;have T_RULES:zfH P w K mg "RULES" wK:=zjE X G e "RULES" z8X (List.mem_of_getElem? (i:=0) rfl);have GG:∀ (x:Str) (v:Value),W.nsIn K mainGlobals x=some (some v)->mg x=some v:=fun x v h=>W.mg_of X G h;have E_NoBottom:zc4 K mg "NoBottom":=z5f GG (z5B e "NoBottom" (zgm _ (by decide +kernel)));have E_NoLot:zc4 K mg "NoLot":=z5f GG (z5B e "NoLot" (zgm _ (by decide +kernel)));have E_NoNumber:zc4 K mg "NoNumber":=z5f GG (z5B e "NoNumber" (zgm _ (by decide +kernel)));have E_NoRule:zc4 K mg "NoRule":=z5f GG (z5B e "NoRule" (zgm _ (by decide +kernel)));have FM:z6Y ⟨mg,K⟩ rsX csX:=zbU GG (fun x hx=>z5B e x (zgm x hx)) (fun x hx=>z5B e x (zlW x hx)) (fun x hx y hy=>by rw [zhq e x y (x==y) (zlQ x hx y hy)];rfl);have KS:∀ c∈rsX,ziN K mg c "DrawError":=fun x hx=>zev GG (z5B e x (zgm x hx)) (z5B e "DrawError" zlC) (by rw [zhq e x "DrawError" true (zlg x hx)];rfl);refine ⟨W.fnOf "law" "law" (z0o z3R) (wY z3R) (zf z3R) .none kV doc pm an cdv ct,fun s v=>.of_eq rfl,fun base _ _=>?_⟩;have H0:=z6q (P:=P) (w:=w) (base:=base) T F0 a0;have H1:=z5S (P:=P) (w:=w) (base:=base) T F1 a1;have H2:=z6E (P:=P) (w:=w) (base:=base) T F2 a2;have H3:=z2S (P:=P) (w:=w) (base:=base) T F3 a3;have H4:=z3A (P:=P) (w:=w) (base:=base) T F4 a4;have H5:=uX (P:=P) (w:=w) (base:=base) T F5 a5;have H6:=z2q (P:=P) (w:=w) (base:=base) T F6 a6;have H7:=z7u (P:=P) (w:=w) (base:=base) T F7 a7;have H8:=z7j (P:=P) (w:=w) (base:=base) T F8 a8 T_RULES;have H9:=zaw (P:=P) (w:=w) (base:=base) T F9 a9;have H10:=z0D (P:=P) (w:=w) (base:=base) T F10 a10;have H11:=z1t (P:=P) (w:=w) (base:=base) T F11 a11;have H12:=z6z (P:=P) (w:=w) (base:=base) T F12 a12;have H13:=z4u (P:=P) (w:=w) (base:=base) T F13 a13;have H14:=z1o (P:=P) (w:=w) (base:=base) T F14 a14 FM;have H15:=z3p (P:=P) (w:=w) (base:=base) T F15 a15;have H16:=z3I (P:=P) (w:=w) (base:=base) T F16 a16 H0;have HX17:=z1l (P:=P) (w:=w) (base:=base) T F17 a17 E_NoNumber H0;have H17:=z2X (P:=P) (w:=w) (base:=base) T F17 a17 H0;have H18:=z29 (P:=P) (w:=w) (base:=base) T F18 a18 H2;have H19:=z7F (P:=P) (w:=w) (base:=base) T F19 a19 H5;have H20:=z6v (P:=P) (w:=w) (base:=base) T F20 a20 H5 H6;have H21:=z94 (P:=P) (w:=w) (base:=base) T F21 a21 H6 H7;have H22:=z7m (P:=P) (w:=w) (base:=base) T F22 a22 H7;have HX23:=z3G (P:=P) (w:=w) (base:=base) T F23 a23 E_NoRule H8;have H23:=z4n (P:=P) (w:=w) (base:=base) T F23 a23 H8;have H24:=z71 (P:=P) (w:=w) (base:=base) T F24 a24 H13;have H25:=z2J (P:=P) (w:=w) (base:=base) T F25 a25 H13;have H26:=z1n (P:=P) (w:=w) (base:=base) T F26 a26 H13 H15;have H27:=z9L (P:=P) (w:=w) (base:=base) T F27 a27 H1 H16;have H28:=z6N (P:=P) (w:=w) (base:=base) T F28 a28 H1 H16;have H29:=z6A (P:=P) (w:=w) (base:=base) T F29 a29 T_RULES H19 H20 H21 H22;have H30:=z3i (P:=P) (w:=w) (base:=base) T F30 a30 H13 H24;have HX31:=z5s (P:=P) (w:=w) (base:=base) T F31 a31 E_NoLot H27;have H31:=z5W (P:=P) (w:=w) (base:=base) T F31 a31 H27;have H32:=z3r (P:=P) (w:=w) (base:=base) T F32 a32 H28;have H33:=z4x (P:=P) (w:=w) (base:=base) T F33 a33 H31;have H34:=z3j (P:=P) (w:=w) (base:=base) T F34 a34 H4 H18 H32;have H35:=qO (P:=P) (w:=w) (base:=base) T F35 a35 H23 H31;have HX36:=z1r (P:=P) (w:=w) (base:=base) T F36 a36 E_NoBottom HX31;have H36:=z1U (P:=P) (w:=w) (base:=base) T F36 a36 H31;have H37:=jq (P:=P) (w:=w) (base:=base) T F37 a37 H3 H34;have H38:=z4w (P:=P) (w:=w) (base:=base) T F38 a38 H33 H35;have HX39:=zaZ (P:=P) (w:=w) (base:=base) T F39 a39 H10 HX17 HX36;have H39:=zd0 (P:=P) (w:=w) (base:=base) T F39 a39 H10 H17 H36;have H40:=zdD (P:=P) (w:=w) (base:=base) T F40 a40 H9 H29 H38;have H41:=z3l (P:=P) (w:=w) (base:=base) T F41 a41 H3 H9 H29 H38;have HX42:=z7y (P:=P) (w:=w) (base:=base) T F42 a42 HX39;have H42:=z9E (P:=P) (w:=w) (base:=base) T F42 a42 H39;have H43:=zfk (P:=P) (w:=w) (base:=base) T F43 a43 H33 H35 H40;have HX44:=z9t (P:=P) (w:=w) (base:=base) T F44 a44 HX42;have H44:=zah (P:=P) (w:=w) (base:=base) T F44 a44 H42;have H45:=z51 (P:=P) (w:=w) (base:=base) T F45 a45 H41 H43;have HX46:=z6M (P:=P) (w:=w) (base:=base) T F46 a46 H44 HX17 HX36 HX44;have H47:=z2R (P:=P) (w:=w) (base:=base) T F47 a47 H37 H45;have HX48:=z6w (P:=P) (w:=w) (base:=base) T F48 a48 H4 H47 HX23 HX36;have H49:=z5t (P:=P) (w:=w) (base:=base) T F49 a49 KS H14 HX39 HX42 HX44 HX46 HX48;have H50:=z9D (P:=P) (w:=w) (base:=base) T F50 a50 H11 H12 H13 H15 H25 H26 H30 H49;exact zhv (x:="law") H50 zcc
theorem boot_:∀ w:World,(W.fencedOpening treeTable PySem.Challenge.pw_drawndown_k44_no_nearest w 11038).map (fun s=>(s.heap,s.gens,s.drawn,s.toks))=some (W.boot_heap w.params,Array.mk [],W.boot_drawn,W.boot_toks):= W.boot_open (by kernel_rfl) (by decide) (fun s=>by kernel_rfl)
theorem left_:W.LeftO PySem.Challenge.pw_drawndown_k44_no_nearest qv looseQ xtQ (obsS askQ) (valS askQ) 11038:=za6 "special-get-raises" boot_ (fun w os=>z42 (f:=fun s=>(seenQ s,obsS askQ s)) (zkT w) (bsz w) (z5O (z6B w os) (z5Z w os))) (fun w os=>z42 (f:=fun s=>(seenQ s,obsS askQ s)) (zkT w) (bsz w) (z5O (z7x w os) (z78 w os)))
end K44
open PySem.W
set_option maxRecDepth 100000 in
set_option maxHeartbeats 0 in
theorem PySem.Challenge.cw_drawndown_k44_no_nearest_holds : PySem.Challenge.rw_drawndown_k44_no_nearest.Holds := by
  w_on; o_law
  refine holds_open (q := K44.qv) (loose := K44.looseQ) (Xt := K44.xtQ) (XP := XL K44.qv K44.lvQ) (Yf := Dd.obsS K44.askQ) (Ya := Dd.valS K44.askQ) (YP := Dd.saysS K44.askQ) (N := 11038) K44.left_ (Dd.zey K44.askQ) (Dd.z9z K44.askQ) (fun s e => xl_of s (Bool.and_eq_true_iff.mp e).1) XL.keeps (by rfl) (by rfl) (by rfl) (fun s e => recFacts_of (Bool.and_eq_true_iff.mp e).2) (by rfl) (by first | assumption | decide +kernel) (by decide +kernel) ⟨rfl, rfl, rfl, rfl, rfl, by decide +kernel⟩ ?hw ?hc
  (case hw => w_witness2)
  refine Dd.walkY (l := PySem.Challenge.rw_drawndown_k44_no_nearest) (n := 63) (k := 13) (x := "_law_script") rfl (by decide) (by decide) rfl ⟨rfl, by decide, by decide, rfl⟩ ?F
  case F =>
    intro w mg fa h Yy G hmg XP
    obtain ⟨K, KX, e⟩ := Yy
    have lo_MOST_BOTTOM : ∃ t, mg "MOST_BOTTOM" = some (.int (10 ^ 12) t) := by
      obtain ⟨v, h1, h2⟩ := XP.2.val ("MOST_BOTTOM", .int (10 ^ 12)) (by simp [K44.lvQ])
      exact Dd.zaf h1 h2
    exact ⟨K, KX, K44.all_mk KX G hmg e lo_MOST_BOTTOM⟩
