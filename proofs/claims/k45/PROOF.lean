import PyProof.Rows.All
import Wide.All
import OpenK.AllK
import Wide.FinOn
import Lean
import PyProof.EqAt
import PyProof.EqKinds
import PyProof.TupleCall
import PyProof.ExcArgsOwn
import PyProof.ExcAttrAll.ValueError
import PyProof.ListMulRoad
import PySem.Challenge.RW_drawndown_k45_whole_nearest
set_option Elab.async false
set_option linter.all false
set_option maxRecDepth 100000
set_option maxHeartbeats 1000000
set_option exponentiation.threshold 5000
open PySem PyProof.Rows
noncomputable section
namespace Dd
open PySem.Spec
def dArgs(s:Stmt):Arguments:=match s with
 | .FunctionDef _ a _ _ _ _ _ _ _ _=>a | _=>{posonlyargs:=[],args:=[],vararg:=none,kwonlyargs:=[],kw_defaults:=[],kwarg:=none,defaults:=[]}
def zfy(s:Stmt):List Stmt:=match s with
 | .FunctionDef _ _ b _ _ _ _ _ _ _=>b | _=>[]
def zcb(s:Stmt):Scope:=match s with
 | .FunctionDef _ _ _ _ _ _ sc _ _ _=>sc | _=>{kind:=.function,names:=[],isGenerator:=false,isCoroutine:=false}
def z5V(h:Heap)(a:Addr):W.Frag:=match h.get? a with | some o=>[(a,o)] | none=>[]
def ziQ(h:Heap)(g:W.Frag)(x:Str):W.Frag:=match W.nsIn g mainGlobals x with
 | some (some (.ref f))=>z5V h f++(match h.get? f with
   | some ⟨_,_,.func fd,_⟩=>(match fd.code with | .ref c=>z5V h c | _=>[]) | some ⟨_,_,.cls cd,_⟩=>z5V h cd.ns | _=>[]) | _=>[]
def gat(h:Heap)(ns:List Str):W.Frag:=z5V h mainGlobals++ns.flatMap (ziQ h (z5V h mainGlobals))
abbrev FV:=Str×Str×Arguments×FuncBody×Scope×Addr×List (Str×Addr)×Value×Addr×Bool×Bool
def ze8(K:W.Frag)(x:Str):Option FV:=match W.nsIn K mainGlobals x with
 | some (some (.ref f))=>(match K.lookup f with
   | some ⟨_,_,.func fd,_⟩=>some (fd.name,fd.qualname,fd.params,fd.body,fd.scope,fd.globals,fd.closure,fd.defaults,fd.builtins,W.codeIn K fd.code fd.qualname,W.keepIn K (.ref f)) | _=>none) | _=>none
def zhD(x:Str)(st:Stmt):Option FV:=some (x,x,dArgs st,.stmts (zfy st),zcb st,mainGlobals,[],.none,builtinsNs,true,true)
def zdv(K:W.Frag)(x:Str):Bool:=match W.nsIn K mainGlobals x with | some none=>true | _=>false
def zez(K:W.Frag)(x:Str):Option Int:=match W.nsIn K mainGlobals x with | some (some (.int i _))=>some i | _=>none
def sameRef:Value->Option (Option Value)->Bool
 | .ref f,some (some (.ref g))=>f==g | _,_=>false
def zaf:Value->Option Str
 | .str k _=>some k | _=>none
def z4H:Value->Bool
 | .type c=>c=="dict" | _=>false
def z7N(K:W.Frag):List DictEntry->List Str->List (Int×Option Str×Bool)
 | e::es,y::ys=>(e.hash,zaf e.key,sameRef e.val (W.nsIn K mainGlobals y))::z7N K es ys | [],[]=>[] | _,_=>[(0,none,false)]
def ze1(K:W.Frag)(x:Str)(ys:List Str):Option (Bool×Bool×Bool×Bool×List (Int×Option Str×Bool)):=match W.nsIn K mainGlobals x with
 | some (some (.ref a))=>(match K.lookup a with
   | some ⟨c,d,.dict es _,sl⟩=>some (z4H c,d.isNone,sl.size==0,a==sysModules,z7N K es.toList ys) | _=>none) | _=>none
def zhr(w:World)(tb:List (Str×Str)):Option (Bool×Bool×Bool×Bool×List (Int×Option Str×Bool)):=some (true,true,true,false,tb.map fun p=>(PyData.keyHash w.params p.1,some p.1,true))
def zgl:List Value->Option (List Int)
 | []=>some [] | .int i _::r=>(zgl r).map (i::·) | _=>none
def zaY:Value->Bool
 | .type c=>c=="tuple" | _=>false
def zhh(K:W.Frag)(x:Str):Option (Bool×Option (List Int)):=match W.nsIn K mainGlobals x with
 | some (some (.ref a))=>(match K.lookup a with
   | some ⟨c,_,.seq its _,_⟩=>some (zaY c,zgl its.toList) | _=>none) | _=>none
def bmV:List Value:=[.type "ValueError",.type "Exception",.type "BaseException",.type "object"]
def z9V(K:W.Frag)(C:Addr):Bool:=match K.lookup C with | some ⟨.type t,_,.cls _,_⟩=>t=="type" | _=>false
def zhf(K:W.Frag)(x:Str):Bool:=match W.nsIn K mainGlobals x with
 | some (some (.ref C))=>W.excIn K C bmV "ValueError.__new__"&&(W.findIn K (.ref C) "__getattribute__"==some (some (.builtin "BaseException.__getattribute__"))&&(W.findIn K (.ref C) "__getattr__"==some none && (W.findIn K (.ref C) "__class__"==some (some (.builtin "object.__class__"))&&(W.mroIn K C (.type "object")==some true&&(W.mroIn K C (.type "BaseException")==some true&&(z9V K C&&W.kitOne K (.ref C) (.type "ValueError")==some true)))))) | _=>false
def zfa(K:W.Frag)(x y:Str):Option (Option Bool×Option Bool):=match W.nsIn K mainGlobals x,W.nsIn K mainGlobals y with
 | some (some (.ref C)),some (some (.ref D))=>some (W.mroIn K C (.ref D),W.kitOne K (.ref C) (.ref D)) | _,_=>none
abbrev Obs:=List (Option FV)×List Bool×List (Option Int)×List (Option (Bool×Bool×Bool×Bool×List (Int×Option Str×Bool)))×List (Option (Bool×Option (List Int)))×List Bool×List (Option (Option Bool×Option Bool))
structure Ask where
 fs:List (Str×Stmt)
 bs:List Str
 cs:List (Str×Int)
 ts:List (Str×List (Str×Str))
 us:List (Str×List Int)
 xs:List Str
 ps:List ((Str×Str)×Bool)
def zay(q:Ask)(K:W.Frag):Obs:=(q.fs.map fun p=>ze8 K p.1,q.bs.map (zdv K),q.cs.map fun p=>zez K p.1,q.ts.map (fun p=>ze1 K p.1 (p.2.map (·.2))),q.us.map (fun p=>zhh K p.1),q.xs.map (zhf K),q.ps.map fun p=>zfa K p.1.1 p.1.2)
def obsS(q:Ask)(s:Shared):Obs:=zay q (gat s.heap (q.fs.map (·.1)++q.ts.map (·.1)++q.us.map (·.1)++q.xs))
def valS(q:Ask)(w:World):Obs:=(q.fs.map fun p=>zhD p.1 p.2,q.bs.map fun _=>true,q.cs.map fun p=>some p.2,q.ts.map (fun p=>zhr w p.2),q.us.map (fun p=>some (true,some p.2)),q.xs.map fun _=>true,q.ps.map fun p=>some (some p.2,some p.2))
def z1I(tb:String->Option Builtin)(p:Program)(w:World)(n₀:Nat)(ann:Option Value):Nat->W.SharedT->Thread->Option W.SharedT
 | 0,_,_=>none | n+1,s,t=>match W.through t with
  | true=>some s | false=>match W.stepOk n₀ ann t with
   | false=>none | true=>match W.stepT (denote tb) p w s t with
    | some (s',t')=>z1I tb p w n₀ ann n s' t' | none=>none
def zfk(l:List Obj):W.BT×Nat:=l.foldl (fun a o=>(a.1.ins a.2 o,a.2+1)) (W.BT.nil,0)
def zf4(P:Params):W.BT:=(zfk (W.boot_heap P).objs.toList).1
end Dd
namespace K45
open PySem.Spec Dd
def top(i:Nat):Stmt:=PySem.Challenge.pw_drawndown_k45_whole_nearest.main.body.getD i (.Pass ⟨0,0,0,0⟩)
abbrev jw:Stmt:=top 12
abbrev jr:Stmt:=top 14
abbrev wF:Stmt:=top 20
abbrev jj:Stmt:=top 26
abbrev vP:Stmt:=top 28
abbrev ur:Stmt:=top 30
abbrev yY:Stmt:=top 32
abbrev vO:Stmt:=top 33
abbrev kU:Stmt:=top 34
abbrev kz:Stmt:=top 40
abbrev z3P:Stmt:=top 47
abbrev wH:Stmt:=top 56
abbrev vf:Stmt:=top 62
abbrev jA:Stmt:=top 63
abbrev qE:Stmt:=top 64
abbrev uf:Stmt:=top 66
abbrev ue:Stmt:=top 13
abbrev vJ:Stmt:=top 15
abbrev vN:Stmt:=top 27
abbrev kJ:Stmt:=top 35
abbrev jm:Stmt:=top 36
abbrev z12:Stmt:=top 37
abbrev kT:Stmt:=top 38
abbrev qo:Stmt:=top 41
abbrev jv:Stmt:=top 65
abbrev z1T:Stmt:=top 17
abbrev jp:Stmt:=top 23
abbrev ju:Stmt:=top 46
abbrev ut:Stmt:=top 67
abbrev jl:Stmt:=top 18
abbrev uw:Stmt:=top 24
abbrev z0V:Stmt:=top 19
abbrev qh:Stmt:=top 21
abbrev uk:Stmt:=top 25
abbrev xz:Stmt:=top 42
abbrev vH:Stmt:=top 54
abbrev xE:Stmt:=top 29
abbrev qC:Stmt:=top 43
abbrev z5M:Stmt:=top 55
abbrev z5R:Stmt:=top 44
abbrev ux:Stmt:=top 45
abbrev z1z:Stmt:=top 57
abbrev z9U:Stmt:=top 48
abbrev z3j:Stmt:=top 58
abbrev ql:Stmt:=top 49
abbrev km:Stmt:=top 59
abbrev xy:Stmt:=top 68
abbrev vK:Stmt:=top 50
abbrev xf:Stmt:=top 69
abbrev kP:Stmt:=top 60
abbrev z2u:Stmt:=top 70
def z7m:List (Str×Str):=[("next","by_next"),("least","by_least"),("all","by_all"),("turn","by_turn")]
def askQ:Ask:=⟨[(("is_whole":Str),jw), (("has_size":Str),jr), (("common_of_two":Str),wF), (("together":Str),jj), (("like_places":Str),vP), (("columns_of":Str),ur), (("greatest_and_others":Str),yY), (("least_place":Str),vO), (("all_but":Str),kU), (("is_rule":Str),kz), (("moved":Str),z3P), (("nearest_whole":Str),wH), (("_law_cell_at":Str),vf), (("_law_pot":Str),jA), (("_law_take":Str),qE), (("_law_rules":Str),uf), (("are_wholes":Str),ue), (("want_number":Str),vJ), (("lines_times":Str),vN), (("by_next":Str),kJ), (("by_least":Str),jm), (("by_all":Str),z12), (("by_turn":Str),kT), (("want_rule":Str),qo), (("_law_lot":Str),jv), (("is_lot":Str),z1T), (("is_table":Str),jp), (("division":Str),ju), (("_law_parts":Str),ut), (("want_lot":Str),jl), (("want_table":Str),uw), (("common":Str),z0V), (("has_ended":Str),qh), (("multiplied":Str),uk), (("want_rule_and_lot":Str),xz), (("want_bottom":Str),vH), (("growing_products":Str),xE), (("want_step":Str),qC), (("tops":Str),z5M), (("step":Str),z5R), (("step_table":Str),ux), (("errors":Str),z1z), (("run":Str),z9U), (("worst":Str),z3j), (("tables_of":Str),ql), (("records":Str),km), (("_law_bottom_right":Str),xy), (("products_of":Str),vK), (("_law_records_right":Str),xf), (("columns":Str),kP), (("law":Str),z2u)], [("abs":Str),("all":Str),("bool":Str),("divmod":Str),("int":Str),("isinstance":Str),("len":Str),("list":Str),("max":Str),("min":Str),("range":Str),("str":Str),("sum":Str),("tuple":Str),("zip":Str)], [(("LEAST_SIZE":Str),(2:Int)),(("MOST_RECORDS":Str),(1000:Int)),(("MOST_SIZE":Str),(4:Int))], [(("RULES":Str),z7m)], [], [], []⟩
def qv:Program:=W.view PySem.Challenge.pw_drawndown_k45_whole_nearest [70]
def looseQ:List Str:=[("DrawError":Str),("NoLot":Str),("NoTable":Str),("NotAlike":Str),("NoRule":Str),("Ended":Str),("NoBottom":Str),("NoNumber":Str),("LEAST_SIZE":Str),("MOST_SIZE":Str),("is_whole":Str),("are_wholes":Str),("has_size":Str),("want_number":Str),("is_lot":Str),("want_lot":Str),("common":Str),("common_of_two":Str),("has_ended":Str),("is_table":Str),("want_table":Str),("multiplied":Str),("together":Str),("lines_times":Str),("like_places":Str),("growing_products":Str),("columns_of":Str),("greatest_and_others":Str),("least_place":Str),("all_but":Str),("by_next":Str),("by_least":Str),("by_all":Str),("by_turn":Str),("RULES":Str),("is_rule":Str),("want_rule":Str),("want_rule_and_lot":Str),("want_step":Str),("step":Str),("step_table":Str),("division":Str),("moved":Str),("run":Str),("tables_of":Str),("products_of":Str),("MOST_BOTTOM":Str),("MOST_RECORDS":Str),("want_bottom":Str),("tops":Str),("nearest_whole":Str),("errors":Str),("worst":Str),("records":Str),("columns":Str),("_law_cell_at":Str),("_law_pot":Str),("_law_take":Str),("_law_lot":Str),("_law_rules":Str),("_law_parts":Str),("_law_bottom_right":Str),("_law_records_right":Str)]
def lvQ:List (Str×W.WData):=[(("MOST_BOTTOM":Str),.int (10 ^ 12))]
def xtQ:Shared->Bool:=fun s=>W.xlAt qv lvQ s&&W.recOk (W.RowW.records (W.OpenRow.toRowW (W.OpenLaw.row PySem.Challenge.rw_drawndown_k45_whole_nearest))) s
theorem ziM:∀ w:World,W.absHeap (zf4 w.params) 11 (W.boot_heap w.params).life=W.boot_heap w.params:=by
 intro w;kernel_rfl
theorem bsz:∀ w:World,((W.boot_heap w.params).isNs mainGlobals&&(Array.mk []:Array GenState).size==0,(W.boot_heap w.params).objs.size,(W.boot_heap w.params).nsMap mainGlobals "__annotations__")=(true,11,(some (.ref 6))):=by
 intro w;kernel_rfl
def zgO(w v:World)(os:OsState):Option W.SharedT:=z1I treeTable PySem.Challenge.pw_drawndown_k45_whole_nearest v 11 (some (.ref 6)) 6760 ⟨zf4 w.params,11,(W.boot_heap w.params).life,Array.mk [],W.boot_drawn,W.boot_toks,os⟩ (W.topStub PySem.Challenge.pw_drawndown_k45_whole_nearest)
def zge(w:World)(s:W.SharedT):Bool:=W.staticsOk (importedModules PySem.Challenge.pw_drawndown_k45_whole_nearest.main.body) (W.boot_heap w.params) s.abs.heap&&W.namesBound PySem.Challenge.pw_drawndown_k45_whole_nearest s.abs.heap&&W.gensDone s.abs&&W.laidKept (W.boot_heap w.params) s.abs.heap
def seenQ(s:Shared):=W.openSeen qv looseQ (importedModules PySem.Challenge.pw_drawndown_k45_whole_nearest.main.body) xtQ true s
set_option maxRecDepth 1000000 in
theorem z4a:∀ (w:World)(os:OsState),(zgO w (w.withFollow "special-get-raises" false) os).map (fun s=>(zge w s,obsS askQ s.abs))=some (true,valS askQ (w.withFollow "special-get-raises" false)):=by
 intro w os;kernel_rfl
set_option maxRecDepth 1000000 in
theorem z4F:∀ (w:World)(os:OsState),(zgO w (w.withFollow "special-get-raises" false) os).map (fun s=>seenQ s.abs)=some (W.openGood qv looseQ):=by
 intro w os;kernel_rfl
set_option maxRecDepth 1000000 in
theorem z64:∀ (w:World)(os:OsState),(zgO w (w.withFollow "special-get-raises" true) os).map (fun s=>(zge w s,obsS askQ s.abs))=some (true,valS askQ (w.withFollow "special-get-raises" true)):=by
 intro w os;kernel_rfl
set_option maxRecDepth 1000000 in
theorem z6g:∀ (w:World)(os:OsState),(zgO w (w.withFollow "special-get-raises" true) os).map (fun s=>seenQ s.abs)=some (W.openGood qv looseQ):=by
 intro w os;kernel_rfl
end K45
namespace L2
open PySem.Spec
abbrev Key:=Sum Int Str
def z3K:Key->Value->Bool
 | .inl k,v=>Value.isInt k v | .inr x,v=>Value.isStrOf x v
def zjT(w:World):Key->Int
 | .inl k=>hashInt k | .inr x=>hashStr w x
theorem yt:∀ {k:Key} {v:Value},z3K k v=true->(∃ i t,k=Sum.inl i/\v=Value.int i t)\/(∃ x t,k=Sum.inr x/\v=Value.str x t)
 | .inl i,v,h=>by
  obtain ⟨t,e⟩:=Value.isInt_shape (k:=i) (v:=v) h;exact .inl ⟨i,t,rfl,e⟩ | .inr x,v,h=>by
  obtain ⟨t,e⟩:=Value.isStrOf_shape (x:=x) (v:=v) h;exact .inr ⟨x,t,rfl,e⟩
theorem z8N(i:Int)(t:Tok):z3K (.inl i) (.int i t)=true:=by simp [z3K,Value.isInt]
theorem z1G(x:Str)(t:Tok):z3K (.inr x) (.str x t)=true:=by simp [z3K,Value.isStrOf]
theorem zgv(a b:Int):decide ((Sum.inl a:Key)=Sum.inl b)=(a==b):=by
 by_cases e:a=b;·subst e;simp
 ·have h:¬ (Sum.inl a:Key)=Sum.inl b:=fun q=>e (Sum.inl.inj q);rw [decide_eq_false h];exact (beq_eq_false_iff_ne.mpr e).symm
theorem zgA(a b:Str):decide ((Sum.inr a:Key)=Sum.inr b)=decide (a=b):=by
 by_cases e:a=b;·subst e;simp
 ·have h:¬ (Sum.inr a:Key)=Sum.inr b:=fun q=>e (Sum.inr.inj q);rw [decide_eq_false h,decide_eq_false e]
theorem zfe(a:Int)(b:Str):decide ((Sum.inl a:Key)=Sum.inr b)=false:=decide_eq_false (fun q=>nomatch q)
theorem zfl(a:Str)(b:Int):decide ((Sum.inr a:Key)=Sum.inl b)=false:=decide_eq_false (fun q=>nomatch q)
def ya(prog:Program)(w:World):PySem.KeyKind prog w Key where
 is:=z3K;hash:=zjT w;inj:=fun v a b ha hb=>by
  rcases yt ha with ⟨i,t,rfl,rfl⟩ | ⟨x,t,rfl,rfl⟩
  ·rcases yt hb with ⟨j,u,rfl,e⟩ | ⟨y,u,rfl,e⟩;·injection e with e1 _;rw [e1]
   ·exact nomatch e
  ·rcases yt hb with ⟨j,u,rfl,e⟩ | ⟨y,u,rfl,e⟩;·exact nomatch e
   ·injection e with e1 _;rw [e1]
 byValue:=fun k v h=>by rcases yt h with ⟨i,t,rfl,rfl⟩ | ⟨x,t,rfl,rfl⟩<;>rfl
 pyHash:=fun hv h=>by
  rcases yt hv with ⟨i,t,rfl,rfl⟩ | ⟨x,t,rfl,rfl⟩;·exact wpAny_pyHash_int h
  ·exact wpAny_pyHash_str h
 eqBool:=fun hu hv h=>by
  rcases yt hu with ⟨i,t,rfl,rfl⟩ | ⟨x,t,rfl,rfl⟩
  ·rcases yt hv with ⟨j,u,rfl,rfl⟩ | ⟨y,u,rfl,rfl⟩;·rw [zgv] at h;exact wpAny_eqBool_int h
   ·rw [zfe] at h;exact SeqAt.EqAt.int_str i t y u _ _ _ _ h
  ·rcases yt hv with ⟨j,u,rfl,rfl⟩ | ⟨y,u,rfl,rfl⟩;·rw [zfl] at h;exact SeqAt.EqAt.str_int x t j u _ _ _ _ h
   ·rw [zgA] at h;exact wpAny_eqBool_str h
 «strs» := fun k x t v h=>by
  rcases yt h with ⟨i,u,rfl,e⟩ | ⟨y,u,rfl,e⟩;·exact nomatch e
  ·injection e with e1 _;subst e1;cases v<;>rfl
theorem z2r(prog:Program)(w:World)(k:Key)(v:Value):(ya prog w).is k v=z3K k v:=rfl
theorem z5D(prog:Program)(w:World)(i:Int)(t:Tok):(ya prog w).is (.inl i) (.int i t)=true:=z8N i t
theorem z16(prog:Program)(w:World)(x:Str)(t:Tok):(ya prog w).is (.inr x) (.str x t)=true:=z1G x t
inductive V where | non | bl (b:Bool) | int (i:Int) | str (x:Str) | byt (b:Array UInt8) | flt (b:UInt64) | ref (a:Addr) | ty (n:String) deriving DecidableEq
def xn:V->Value->Prop
 | .non,u=>u=Value.none | .bl b,u=>u=Value.bool b | .int i,u=>∃ t,u=Value.int i t | .str x,u=>∃ t,u=Value.str x t | .byt b,u=>∃ t,u=Value.bytes b t | .flt b,u=>∃ t,u=Value.float b t | .ref a,u=>u=Value.ref a | .ty n,u=>u=Value.type n
abbrev xp:List V->List Value->Prop:=Paired xn
theorem xp.length{xs:List V}{us:List Value}(r:xp xs us):xs.length=us.length:=Paired.length r
theorem xp.get:∀ {xs:List V} {us:List Value} {i:Nat} {x:V},xp xs us->xs[i]? = some x->∃ u,us[i]? = some u/\xn x u
 | _,_,_,_,.nil,e=>by simp at e | _,_,0,_,.cons r _,e=>by simp at e;subst e;exact ⟨_,rfl,r⟩ | _,_,i+1,x,.cons _ t,e=>by
  obtain ⟨u,h1,h2⟩:=xp.get (i:=i) (x:=x) t (by simpa using e);exact ⟨u,by simpa using h1,h2⟩
theorem xp.set{x:V}{u:Value}(r:xn x u):∀ {xs:List V}{us:List Value}(i:Nat),xp xs us->xp (xs.set i x) (us.set i u)
 | _,_,_,.nil=>.nil | _,_,0,.cons _ t=>.cons r t | _,_,i+1,.cons q t=>.cons q (xp.set r i t)
theorem xp.append:∀ {xs ys:List V}{us ws:List Value},xp xs us->xp ys ws->xp (xs++ys) (us++ws)
 | _,_,_,_,.nil,s=>s | _,_,_,_,.cons r t,s=>.cons r (xp.append t s)
theorem xp.take:∀ {xs:List V}{us:List Value}(n:Nat),xp xs us->xp (xs.take n) (us.take n)
 | _,_,0,_=>.nil | _,_,_+1,.nil=>.nil | _,_,n+1,.cons r t=>.cons r (xp.take n t)
theorem xp.drop:∀ {xs:List V}{us:List Value}(n:Nat),xp xs us->xp (xs.drop n) (us.drop n)
 | _,_,0,r=>r | _,_,_+1,.nil=>.nil | _,_,n+1,.cons _ t=>xp.drop n t
def zeH:Option V->Option Value->Prop
 | some v,some u=>xn v u | none,none=>True | _,_=>False
def KV{κ:Type}:List (κ×V)->List (κ×Value)->Prop:=Paired fun (p:κ×V)(q:κ×Value)=>p.1=q.1/\xn p.2 q.2
def kV:Key->V
 | .inl i=>.int i | .inr x=>.str x
inductive HO where | lst (xs:List V) | tup (xs:List V) | dK (kvs:List (Key×V)) | dT (kvs:List (List Key×V)) | set (S:Int->Bool)(n:Nat) | ins (C dx:Addr)(fs:List (Str×V)) | own (x:Addr) | xd (fs:List (Str×V)) | met (f x:Addr) | rng (lo hi:Int) | frz (o:Obj)(u:HO) | tbl (ps:Array Value) | ext (φ:Heap->Prop)
abbrev Hp:=Addr->Option HO
def upd(H:Hp)(a:Addr)(o:HO):Hp:=fun b=>if b=a then some o else H b
theorem yn{H:Hp}{a:Addr}{o:HO}:upd H a o a=some o:=by unfold upd;rw [if_pos rfl]
theorem zH{H:Hp}{a b:Addr}{o:HO}(h:b≠a):upd H a o b=H b:=by unfold upd;rw [if_neg h]
theorem zd7{H:Hp}{a:Addr}{o u:HO}:upd (upd H a o) a u=upd H a u:=by funext b;unfold upd;split<;>rfl
theorem zhg{H:Hp}{a b:Addr}{o u:HO}(h:H a=some o)(h':H b=some u)(d:o≠u):a≠b:=by intro e;subst e;rw [h] at h';exact d (Option.some.inj h')
theorem yK{H:Hp}{a b:Addr}{o:HO}(h:H a=some o)(h':H b=none):a≠b:=by intro e;subst e;rw [h] at h';cases h'
def zax(h:Heap)(a:Addr)(items:Array Value):Prop:=∃ o,h.get? a=some o/\o.cls=.type "tuple"/\o.dict=none/\∃ n,o.data=.seq items n
theorem zax.tup{h:Heap}{a:Addr}{items:Array Value}(x:zax h a items):IsTup h a items:=let ⟨o,e,c,_,r⟩:=x;⟨o,e,c,r⟩
theorem zax.new(h:Heap)(items:Array Value):zax (h.push {cls:=.type "tuple",data:=.seq items}) h.objs.size items:=⟨_,Heap.get?_push_size _ rfl,rfl,rfl,_,rfl⟩
theorem zax.lt{h:Heap}{a:Addr}{items:Array Value}(x:zax h a items):a<h.objs.size:=x.tup.lt
section
variable (P:Program)(w:World)
def xP(H:Hp)(h:Heap)(a:Addr):HO->Prop
 | .lst xs=>xs.length<=sizeLine/\∃ (its:List Value)(n:Nat),xp xs its/\h.get? a=some {cls:=.type "list",data:=.seq its.toArray n} | .tup xs=>xs.length<=sizeLine/\∃ its:List Value,xp xs its/\zax h a its.toArray | .dK kvs=>kvs.length<=sizeLine/\(a==sysModules)=false/\∃ vs,KV kvs vs/\h.DictOf (ya P w) a vs | .dT kvs=>kvs.length<=sizeLine/\(a==sysModules)=false/\∃ xs:List (List Key×Addr×Value), Paired (fun (p:List Key×V)(q:List Key×Addr×Value)=>p.1=q.1/\H q.2.1=some (.tup (p.1.map kV))/\xn p.2 q.2.2) kvs xs/\ ∃ o es ep,h.get? a=some o/\o.ExactDict/\o.data=.dict es ep/\es.toList=xs.map (entryOfKey (tupleKind (ya P w)))/\(xs.map (·.1)).Nodup | .set S n=>h.SetOf (intKind P w) a S n | .ins C dx fs=>H dx=some (.own a)/\fs.length<=1000/\dx≠a/\h.get? a=some (W.instObj C dx)/\ ∃ mA,h.Ns1 dx mA/\(∀ f,zeH (fs.lookup f) (mA f))/\PySem.Within mA (fs.map (·.1)) | .own _=>∃ o,h.get? a=some o | .xd fs=>∃ mA,h.Ns1 a mA/\∀ f,zeH (fs.lookup f) (mA f) | .rng lo hi=>∃ t u v,h.get? a=some {cls:=.type "range",data:=.fields #[.int lo t,.int hi u,.int 1 v]} | .frz o u=>h.get? a=some o/\xP H h a u | .tbl ps=>h.get? a=some {cls:=.none,data:=.fields ps} | .met f x=>h.get? a=some (W.methodObj (.ref f) (.ref x)) | .ext φ=>φ h/\(∃ o,h.get? a=some o)/\∀ h1 h2:Heap,φ h1->(∀ o,h1.get? a=some o->h2.get? a=some o)->φ h2
def HOk(H:Hp)(h:Heap):Prop:=∀ a o,H a=some o->xP P w H h a o
end
section
variable {P:Program}{w:World}{H H':Hp}{h h':Heap}{a:Addr}{o:HO}
theorem xP.lt(x:xP P w H h a o):a<h.objs.size:=by cases o with
 | lst xs=>obtain ⟨_,_,_,_,e⟩:=x;exact Heap.lt_size e | tup xs=>obtain ⟨_,_,_,p⟩:=x;exact p.lt | dK kvs=>obtain ⟨_,_,_,_,o,_,_,e,_⟩:=x;exact Heap.lt_size e | dT kvs=>obtain ⟨_,_,_,_,o,_,_,e,_⟩:=x;exact Heap.lt_size e | set S n=>obtain ⟨o,_,_,_,e,_⟩:=x;exact Heap.lt_size e | ins C dx fs=>obtain ⟨_,_,_,e,_⟩:=x;exact Heap.lt_size e | own y=>obtain ⟨_,e⟩:=x;exact Heap.lt_size e | xd fs=>obtain ⟨_,⟨_,_,_,e,_⟩,_⟩:=x;exact Heap.lt_size e | rng lo hi=>obtain ⟨_,_,_,e⟩:=x;exact Heap.lt_size e | frz ob u=>obtain ⟨e,_⟩:=x;exact Heap.lt_size e | tbl ps=>exact Heap.lt_size (show h.get? a=some _ from x) | met f y=>exact Heap.lt_size (show h.get? a=some _ from x) | ext φ=>obtain ⟨_,⟨_,e⟩,_⟩:=x;exact Heap.lt_size e
theorem Paired.mapP{α β:Type}{F G:α->β->Prop}:∀ {l₁:List α}{l₂:List β},Paired F l₁ l₂->(∀ a b,F a b->G a b)->Paired G l₁ l₂
 | _,_,.nil,_=>.nil | _,_,.cons r t,f=>.cons (f _ _ r) (Paired.mapP t f)
theorem xP.stay(x:xP P w H h a o)(k:∀ b u,(b=a\/H b=some (.own a))->h.get? b=some u->h'.get? b=some u) (ho:∀ b,H b=some (.own a)->H' b=some (.own a))(ht:∀ b xs,H b=some (.tup xs)->H' b=some (.tup xs)):xP P w H' h' a o:=by induction o with
 | lst xs=>obtain ⟨z,its,n,r,e⟩:=x;exact ⟨z,its,n,r,k _ _ (.inl rfl) e⟩ | tup xs=>obtain ⟨z,its,r,ob,e,c⟩:=x;exact ⟨z,its,r,ob,k _ _ (.inl rfl) e,c⟩ | dK kvs=>obtain ⟨z,y,vs,r,ob,es,ep,e,c⟩:=x;exact ⟨z,y,vs,r,ob,es,ep,k _ _ (.inl rfl) e,c⟩ | dT kvs=>
  obtain ⟨z,y,xs,r,ob,es,ep,e,c⟩:=x;exact ⟨z,y,xs,Paired.mapP r fun p q z=>⟨z.1,ht _ _ z.2.1,z.2.2⟩,ob,es,ep,k _ _ (.inl rfl) e,c⟩ | set S n=>obtain ⟨ob,es,ep,t,e,c⟩:=x;exact ⟨ob,es,ep,t,k _ _ (.inl rfl) e,c⟩ | ins C dx fs=>
  obtain ⟨d,z,ne,e,mA,⟨od,es,ep,e2,c⟩,r⟩:=x;exact ⟨ho _ d,z,ne,k _ _ (.inl rfl) e,mA,⟨od,es,ep,k _ _ (.inr d) e2,c⟩,r⟩ | own y=>obtain ⟨ob,e⟩:=x;exact ⟨ob,k _ _ (.inl rfl) e⟩ | xd fs=>obtain ⟨mA,⟨od,es,ep,e,c⟩,r⟩:=x;exact ⟨mA,⟨od,es,ep,k _ _ (.inl rfl) e,c⟩,r⟩ | rng lo hi=>obtain ⟨t,u,v,e⟩:=x;exact ⟨t,u,v,k _ _ (.inl rfl) e⟩ | frz ob u ih=>obtain ⟨e,q⟩:=x;exact ⟨k _ _ (.inl rfl) e,ih q⟩ | tbl ps=>
  have e:h.get? a=some {cls:=.none,data:=.fields ps}:=x;show h'.get? a=some {cls:=.none,data:=.fields ps};exact k a _ (.inl rfl) e | met f y=>
  have e:h.get? a=some (W.methodObj (.ref f) (.ref y)):=x;show h'.get? a=some (W.methodObj (.ref f) (.ref y));exact k a _ (.inl rfl) e | ext φ=>obtain ⟨p,⟨o,e⟩,st⟩:=x;exact ⟨st _ _ p fun o q=>k _ _ (.inl rfl) q,⟨o,k _ _ (.inl rfl) e⟩,st⟩
theorem HOk.lt(x:HOk P w H h)(e:H a=some o):a<h.objs.size:=(x a o e).lt
theorem HOk.fresh(x:HOk P w H h)(e:h.objs.size<=a):H a=none:=by cases q:H a with
 | none=>rfl | some u=>exact absurd (Nat.lt_of_lt_of_le (x.lt q) e) (Nat.lt_irrefl _)
theorem HOk.kept(x:HOk P w H h)(k:∀ b u,h.get? b=some u->h'.get? b=some u):HOk P w H h':=fun a o e=> (x a o e).stay (fun b u _ q=>k b u q) (fun _ q=>q) fun _ _ q=>q
theorem HOk.laid(x:HOk P w H h)(k:∀ b u,h.get? b=some u->h'.get? b=some u)(hp:h.objs.size<=a)(new:xP P w (upd H a o) h' a o):HOk P w (upd H a o) h':=fun b u e=>by
 have hn:=x.fresh hp;by_cases hb:b=a;·subst hb;rw [yn] at e;cases e;exact new
 ·rw [zH hb] at e;exact (x b u e).stay (fun c v _ q=>k c v q) (fun c q=>by rw [zH (yK q hn)];exact q) fun c xs q=>by rw [zH (yK q hn)];exact q
end
def Rd(H:Hp)(a:Addr)(u:HO):Prop:=H a=some u\/∃ o,H a=some (.frz o u)
theorem Rd.ok{P:Program}{w:World}{H:Hp}{h:Heap}{a:Addr}{u:HO}(r:Rd H a u)(x:HOk P w H h):xP P w H h a u:=by
 rcases r with r | ⟨o,r⟩;·exact x a u r
 ·obtain ⟨_,q⟩:=x a _ r;exact q
def Mut:Option HO->Prop
 | some (.lst _)=>True | some (.dK _)=>True | some (.dT _)=>True | some (.set _ _)=>True | some (.ins _ _ _)=>True | some (.ext _)=>True | _=>False
section
variable {P:Program}{w:World}{H:Hp}{h h':Heap}{x e:Addr}{o':HO}
theorem HOk.write(ok:HOk P w H h)(mu:Mut (H x))(he:e=x\/H e=some (.own x))(k:∀ b u,b≠e->h.get? b=some u->h'.get? b=some u)(heo:∃ u,h'.get? e=some u) (new:xP P w (upd H x o') h' x o'):HOk P w (upd H x o') h':=fun b u q=>by
 have nown:∀ c y,H c=some (.own y)->c≠x:=fun c y r z=>by subst z;rw [r] at mu;exact mu
 have ntup:∀ c xs,H c=some (.tup xs)->c≠x:=fun c xs r z=>by subst z;rw [r] at mu;exact mu
 by_cases hb:b=x;·subst hb;rw [yn] at q;cases q;exact new
 ·rw [zH hb] at q;by_cases hbe:b=e
  ·have q':H b=some (.own x):=by
    rcases he with z | z;·exact absurd (hbe.trans z) hb
    ·rw [hbe];exact z
   rw [q] at q';cases q';obtain ⟨v,hv⟩:=heo;exact ⟨v,by rw [hbe];exact hv⟩
  ·refine (ok b u q).stay (fun c v hc r=>k c v ?_ r) (fun c r=>by rw [zH (nown c b r)];exact r) fun c xs r=>by rw [zH (ntup c xs r)];exact r
   rcases hc with rfl | hc;·exact hbe
   ·rintro rfl;rcases he with z | z;·exact nown c b hc z
    ·rw [hc] at z;cases z;exact hb rfl
end
structure Un(fs ex:List Addr)(H H':Hp)(h h':Heap):Prop where
 keep:∀ b o,h.get? b=some o->H b=none->b∉fs->b∉ex->h'.get? b=some o
 slot:∀ b o,h.get? b=some o->H b=none->b∈fs->b∉ex->∃ sl,h'.get? b=some {o with slots:=sl}
 free:∀ b o,h.get? b=some o->H b=none->b∉ex->H' b=none
 there:∀ b o,h.get? b=some o->b∉ex->∃ o',h'.get? b=some o'
 tups:∀ b xs,H b=some (.tup xs)->H' b=some (.tup xs)
 frzs:∀ b o u,H b=some (.frz o u)->H' b=some (.frz o u)
 tbls:∀ b ps,H b=some (.tbl ps)->∃ more,H' b=some (.tbl (ps++more))
section
variable {fs fs' ex ex':List Addr}{H H1 H2:Hp}{h h1 h2 h':Heap}{a x e:Addr}{o:HO}
theorem Un.any(u:Un fs ex H H1 h h1){b:Addr}{ob:Obj}(q:h.get? b=some ob)(n:H b=none)(hx:b∉ex):∃ sl,h1.get? b=some {ob with slots:=sl}:=by
 by_cases hb:b∈fs;·exact u.slot b ob q n hb hx
 ·exact ⟨ob.slots,u.keep b ob q n hb hx⟩
theorem Un.kept(k:∀ b u,h.get? b=some u->h'.get? b=some u):Un fs ex H H h h':= ⟨fun b ob q _ _ _=>k b ob q,fun b ob q _ _ _=>⟨ob.slots,k b ob q⟩,fun _ _ _ n _=>n,fun b ob q _=>⟨ob,k b ob q⟩,fun _ _ q=>q,fun _ _ _ q=>q,fun _ ps q=>⟨#[],by rw [q];simp⟩⟩
theorem Un.refl:Un fs ex H H h h:=Un.kept fun _ _ q=>q
theorem Un.laid(k:∀ b u,h.get? b=some u->h'.get? b=some u)(hp:h.objs.size<=a)(hn:H a=none):Un fs ex H (upd H a o) h h' where
 keep:=fun b u q _ _ _=>k b u q;slot:=fun b u q _ _ _=>⟨u.slots,k b u q⟩;free:=fun b u q n _=>by rw [zH (Nat.ne_of_lt (Nat.lt_of_lt_of_le (Heap.lt_size q) hp))];exact n
 there:=fun b u q _=>⟨u,k b u q⟩;tups:=fun b xs q=>by rw [zH (yK q hn)];exact q
 frzs:=fun b u xs q=>by rw [zH (yK q hn)];exact q
 tbls:=fun b ps q=>⟨#[],by rw [zH (yK q hn),q];simp⟩
theorem Un.write(mu:Mut (H x))(he:e=x\/H e=some (.own x))(k:∀ b u,b≠e->h.get? b=some u->h'.get? b=some u)(heo:∃ u,h'.get? e=some u):Un fs ex H (upd H x o) h h':=by
 have hx:∀ b,H b=none->b≠x:=fun b n z=>by subst z;rw [n] at mu;exact mu
 have hb:∀ b,H b=none->b≠e:=fun b n z=>by
  subst z;rcases he with r | r;·exact hx b n r
  ·rw [n] at r;cases r
 have hm:∀ b u,H b=some u->¬ Mut (some u)->b≠x:=fun b u q nm z=>by subst z;rw [q] at mu;exact nm mu
 refine ⟨fun b u q n _ _=>k b u (hb b n) q,fun b u q n _ _=>⟨u.slots,k b u (hb b n) q⟩,fun b u q n _=>by rw [zH (hx b n)];exact n,fun b u q _=>?_, fun b xs q=>by rw [zH (hm b _ q fun z=>z)];exact q,fun b u xs q=>by rw [zH (hm b _ q fun z=>z)];exact q,fun b ps q=>⟨#[],by rw [zH (hm b _ q fun z=>z),q];simp⟩⟩;by_cases hbe:b=e;·subst hbe;exact heo
 ·exact ⟨u,k b u hbe q⟩
end
def trk(h:Heap)(H:Hp):List Addr:=(List.range h.objs.size).filter fun a=>(H a).isSome
def zb7(h:Heap)(H:Hp):Heap:=W.hideAll h (trk h H)
theorem z8B(h:Heap)(H:Hp):(zb7 h H).objs.size=h.objs.size:=W.hideAll_size _ _
theorem zb6{h:Heap}{H:Hp}{b:Addr}{o:Obj}(e:h.get? b=some o)(n:H b=none):(zb7 h H).get? b=some o:= W.hideAll_get _ e fun hm=>by
  have q:(H b).isSome=true:=(List.mem_filter.mp hm).2;rw [n] at q;simp at q
theorem zeB{h:Heap}{H:Hp}{b:Addr}{o:Obj}(e:(zb7 h H).get? b=some o):h.get? b=some o/\H b=none:=by
 have e':h.get? b=some o:=W.of_hideAll (trk h H) e;refine ⟨e',?_⟩;cases q:H b with
 | none=>rfl | some x=>
  have hm:b∈trk h H:=List.mem_filter.mpr ⟨List.mem_range.mpr (Heap.lt_size e'),by simp [q]⟩;have z:(zb7 h H).get? b=none:=W.hideAll_none (trk h H) hm;rw [z] at e;cases e
def zea(g h:Heap)(L:Addr):List (Addr×Obj):=(List.range h.objs.size).filterMap fun a=>if a=L\/(g.get? a).isSome=true then none else (h.get? a).map fun o=>(a,o)
def rest(g h:Heap)(L d:Addr):List (Addr×Obj):=(zea g h L).filter fun p=>decide (p.1≠d)
structure Mod(K:W.Frag)(mg:Str->Option Value)(base:Heap):Prop where
 kin:K.In base
 glob:base.Ns mainGlobals mg
 blt:∃ mb,base.Ns builtinsNs mb/\∀ x:Str,x≠"__name__"->mb x=bootBuiltins x
 nolimit:base.NoLimit
structure Cx where
 prog:Program
 w:World
 K:W.Frag
 mg:Str->Option Value
 base:Heap
 A:Around
 N:List Str
 s₀:Shared
 H₀:Hp
 env:Env
 outer:List Env
 stack:List Env
 ex:List Addr
 fn:Str->Bool
 calm:Bool
 pn:List (Addr×Obj)
 xe:Value->Shared->Prop
def frs(l:List Env):List Addr:=l.filterMap (·.frame)
abbrev Cx.fs(X:Cx):List Addr:=frs X.outer
def Vis(sc:Scope)(x:Str):Prop:=sc.names.lookup x=some .local\/sc.names.lookup x=some .cell\/sc.names.lookup x=some .free
def Loc(sc:Scope)(x:Str):Prop:=sc.names.lookup x=some .local\/sc.names.lookup x=some .cell
def zjs(env:Env)(h:Heap)(m:Str->Option Value)(x:Str)(u:Value):Prop:= (env.kindOf x=some .local/\m x=some u)\/((env.kindOf x=some .cell\/env.kindOf x=some .free)/\∃ c,env.cells.lookup x=some c/\h.IsCell c (some u))
structure Cx.Ok(X:Cx):Prop where
 mod:Mod X.K X.mg X.base
 kind:X.env.scope.kind=.function
 glob:X.env.globals=mainGlobals
 blt:X.env.builtins=builtinsNs
 above:X.s₀.heap.objs.size<=X.env.locals
 inj:∀ x y c,X.env.cells.lookup x=some c->X.env.cells.lookup y=some c->x=y
 has:∀ x,(X.env.kindOf x=some .cell\/X.env.kindOf x=some .free)->∃ c,X.env.cells.lookup x=some c
 cab:∀ x c,X.fn x=true->X.env.cells.lookup x=some c->X.s₀.heap.objs.size<=c
 hd:X.calm=true->X.A.handled=none
 frames:X.A.frames=some X.stack
 stk:X.stack=X.outer\/(X.stack=X.env::X.outer/\X.env.frame=some X.env.locals)
 exf:∀ b∈X.ex,b≠X.env.locals/\∀ x c,X.env.cells.lookup x=some c->c≠b
 bs:∀ b o,X.base.get? b=some o->X.s₀.heap.get? b=some o/\X.H₀ b=none
 bsz:X.base.objs.size<=X.s₀.heap.objs.size
 noex:∀ b o,X.base.get? b=some o->b∉X.ex
 exfs:∀ b∈X.ex,b∉X.fs
 funs:X.s₀.heap.FunFrames X.base X.outer
 frf:∀ b∈X.fs,X.H₀ b=none
structure Inv(X:Cx)(pins:List (Addr×Obj))(O:List (Option V))(H:Hp)(s:Shared):Prop where
 ok:X.Ok
 os:s.os=X.s₀.os
 bare:AllBare s.gens
 base:Un X.fs X.ex X.H₀ H X.s₀.heap s.heap
 loc:∃ m,s.heap.Ns X.env.locals m/\∀ (i:Nat)(x:Str)(v:V),X.N[i]? = some x->O[i]? = some (some v)->Vis X.env.scope x->∃ u,xn v u/\zjs X.env s.heap m x u
 cell:∀ x c,X.env.cells.lookup x=some c->∃ v,s.heap.IsCell c v
 free:H X.env.locals=none
 freeC:∀ x c,X.env.cells.lookup x=some c->H c=none
 pin:∀ p∈X.pn++pins,s.heap.get? p.1=some p.2/\H p.1=none/\p.1≠X.env.locals/\p.1∉X.fs/\∀ v,p.2.data≠.cell v
 hok:HOk X.prog X.w H s.heap
 len:O.length=X.N.length
section
variable {X:Cx}{pins:List (Addr×Obj)}{O:List (Option V)}{H H':Hp}{s:Shared}{h':Heap}
theorem Cx.Ok.nofr(ok:X.Ok){b:Addr}{o:Obj}(e:X.base.get? b=some o):b∉X.fs:=fun hb=>by
 have:=(ok.funs.mem hb).1;rw [e] at this;cases this
theorem Inv.bs(I:Inv X pins O H s):∀ b o,X.base.get? b=some o->s.heap.get? b=some o/\H b=none:=fun b o e=> ⟨I.base.keep b o (I.ok.bs b o e).1 (I.ok.bs b o e).2 (I.ok.nofr e) (I.ok.noex b o e),I.base.free b o (I.ok.bs b o e).1 (I.ok.bs b o e).2 (I.ok.noex b o e)⟩
theorem Inv.bk(I:Inv X pins O H s):∀ b o,X.base.get? b=some o->s.heap.get? b=some o:=fun b o e=>(I.bs b o e).1
theorem Inv.mod(I:Inv X pins O H s):Mod X.K X.mg X.base:=I.ok.mod
theorem Inv.kIn(I:Inv X pins O H s):X.K.In s.heap:=I.ok.mod.kin.keeps I.bk
theorem Inv.fr(I:Inv X pins O H s):∃ m,Fr X.base X.env.locals s.heap m:= let ⟨m,hn,_⟩:=I.loc;⟨m,hn,I.bk,Nat.le_trans I.ok.bsz I.ok.above⟩
theorem Inv.lt(I:Inv X pins O H s):X.env.locals<s.heap.objs.size:=let ⟨_,hn,_⟩:=I.loc;hn.lt
theorem Inv.sz(I:Inv X pins O H s):X.s₀.heap.objs.size<=s.heap.objs.size:=Nat.le_trans I.ok.above (Nat.le_of_lt I.lt)
theorem Inv.nofs(I:Inv X pins O H s){a:Addr}(h:s.heap.objs.size<=a):a∉X.fs:=fun hb=>by
 obtain ⟨_,o,ho,_⟩:=I.ok.funs.mem hb;exact absurd (Nat.lt_of_lt_of_le (Heap.lt_size ho) (Nat.le_trans I.sz h)) (Nat.lt_irrefl _)
theorem Inv.cne(I:Inv X pins O H s):∀ x c,X.env.cells.lookup x=some c->c≠X.env.locals:=fun x c e z=>by
 obtain ⟨v,o,ho,hd⟩:=I.cell x c e;obtain ⟨m,⟨o',es,ep,ho',hd',_⟩,_⟩:=I.loc;rw [z,ho'] at ho;cases ho;rw [hd'] at hd;cases hd
theorem Inv.funs(I:Inv X pins O H s):s.heap.FunFrames X.base X.outer:=by
 have all:∀ (l:List Env),(∀ b∈frs l,b∈X.fs)->X.s₀.heap.FunFrames X.base l->s.heap.FunFrames X.base l:=by
  intro l;induction l with
  | nil=>intro _ _;trivial | cons env r ih=>
   intro hs hl;obtain ⟨hk,⟨L,o,hf,hn,ho,hd⟩,hr⟩:=hl;have hL:L∈X.fs:=hs L (by unfold frs;rw [List.filterMap_cons,hf];exact List.mem_cons_self);obtain ⟨sl,e⟩:=I.base.slot L o ho (I.ok.frf L hL) hL fun z=>I.ok.exfs L z hL;exact ⟨hk,⟨L,_,hf,hn,e,hd⟩,ih (fun b hb=>hs b (by unfold frs;rw [List.filterMap_cons,hf];exact List.mem_cons_of_mem _ hb)) hr⟩
 exact all X.outer (fun _ hb=>hb) I.ok.funs
theorem Inv.stack(I:Inv X pins O H s):s.heap.FunFrames X.base X.stack:=by
 rcases I.ok.stk with e | ⟨e,hf⟩;·rw [e];exact I.funs
 ·rw [e];obtain ⟨m,hn,_⟩:=I.loc;refine .cons (by rw [I.ok.kind];decide) hf hn ?_ I.funs;exact Heap.get?_none_of_le (Nat.le_trans I.ok.bsz I.ok.above)
theorem Inv.stkSub(I:Inv X pins O H s):∀ b∈frs X.stack,b∈X.env.locals::X.fs:=fun b hb=>by
 rcases I.ok.stk with e | ⟨e,hf⟩;·rw [e] at hb;exact List.mem_cons_of_mem _ hb
 ·rw [e] at hb;unfold frs at hb;rw [List.filterMap_cons,hf] at hb;exact hb
theorem Inv.stkFree(I:Inv X pins O H s):∀ b∈frs X.stack,H b=none:=fun b hb=>by
 rcases List.mem_cons.mp (I.stkSub b hb) with e | hb;·rw [e];exact I.free
 ·obtain ⟨_,o,ho,_⟩:=I.ok.funs.mem hb;exact I.base.free b o ho (I.ok.frf b hb) fun z=>I.ok.exfs b z hb
theorem Inv.step{g':Array GenState}{t':Nat}{d':Drawn}{ch:List Addr}(I:Inv X pins O H s) (hch:∀ b∈ch,(b∈X.ex\/X.s₀.heap.objs.size<=b)/\b≠X.env.locals/\(∀ x c,X.env.cells.lookup x=some c->c≠b)/\∀ p∈X.pn++pins,p.1≠b) (keep:∀ b o,b≠X.env.locals->b∉X.fs->b∉ch->s.heap.get? b=some o->H b=none->h'.get? b=some o) (slot:∀ b o,b≠X.env.locals->b∈X.fs->b∉ch->s.heap.get? b=some o->H b=none->∃ sl,h'.get? b=some {o with slots:=sl})(free:∀ b o,b∉ch->s.heap.get? b=some o->H b=none->H' b=none) (there:∀ b o,b∉ch->s.heap.get? b=some o->∃ o',h'.get? b=some o') (tups:∀ b xs,H b=some (.tup xs)->H' b=some (.tup xs))(frzs:∀ b o u,H b=some (.frz o u)->H' b=some (.frz o u))(tbls:∀ b ps,H b=some (.tbl ps)->∃ more,H' b=some (.tbl (ps++more))) (ns:∀ m,s.heap.Ns X.env.locals m->h'.Ns X.env.locals m)(hok:HOk X.prog X.w H' h')(hg:AllBare g'): Inv X pins O H' {s with heap:=h',gens:=g',drawn:=d',toks:=t'}:=by
 have neL:∀ b o,X.s₀.heap.get? b=some o->b≠X.env.locals:=fun b o e=>Nat.ne_of_lt (Nat.lt_of_lt_of_le (Heap.lt_size e) I.ok.above);have neC:∀ b o,X.s₀.heap.get? b=some o->b∉X.ex->b∉ch:=fun b o e hx hb=>by
  rcases (hch b hb).1 with z | z;·exact hx z
  ·exact absurd (Nat.lt_of_lt_of_le (Heap.lt_size e) z) (Nat.lt_irrefl _)
 have cellK:∀ x c,X.env.cells.lookup x=some c->∀ v,s.heap.IsCell c v->h'.IsCell c v:=fun x c e v ⟨o,ho,hd⟩=>by
  have nch:c∉ch:=fun z=>(hch c z).2.2.1 x c e rfl;by_cases hc:c∈X.fs
  ·obtain ⟨sl,q⟩:=slot c o (I.cne x c e) hc nch ho (I.freeC x c e);exact ⟨_,q,hd⟩
  ·exact ⟨o,keep c o (I.cne x c e) hc nch ho (I.freeC x c e),hd⟩
 refine ⟨I.ok,I.os,hg,⟨fun b o e n hb hx=>?_,fun b o e n hb hx=>?_,fun b o e n hx=>?_,fun b o e hx=>?_,fun b xs e=>tups b xs (I.base.tups b xs e),fun b o xs e=>frzs b o xs (I.base.frzs b o xs e),fun b ps e=>?_⟩,?_,fun x c e=>?_,?_,fun x c e=>?_,fun p hp=>?_,hok,I.len⟩;·exact keep b o (neL b o e) hb (neC b o e hx) (I.base.keep b o e n hb hx) (I.base.free b o e n hx)
 ·obtain ⟨sl,e1⟩:=I.base.slot b o e n hb hx;obtain ⟨sl',e2⟩:=slot b _ (neL b o e) hb (neC b o e hx) e1 (I.base.free b o e n hx);exact ⟨sl',e2⟩
 ·obtain ⟨o',e1⟩:=I.base.there b o e hx;exact free b o' (neC b o e hx) e1 (I.base.free b o e n hx)
 ·obtain ⟨o',e1⟩:=I.base.there b o e hx;exact there b o' (neC b o e hx) e1
 ·obtain ⟨m1,e1⟩:=I.base.tbls b ps e;obtain ⟨m2,e2⟩:=tbls b _ e1;exact ⟨m1++m2,by rw [e2,Array.append_assoc]⟩
 ·obtain ⟨m,hn,hl⟩:=I.loc;refine ⟨m,ns m hn,fun i x v e1 e2 e3=>?_⟩;obtain ⟨u,r,l⟩:=hl i x v e1 e2 e3;refine ⟨u,r,?_⟩;rcases l with l | ⟨k,c,e,z⟩;·exact .inl l
  ·exact .inr ⟨k,c,e,cellK x c e _ z⟩
 ·obtain ⟨v,z⟩:=I.cell x c e;exact ⟨v,cellK x c e v z⟩
 ·obtain ⟨m,⟨o,_,_,ho,_⟩,_⟩:=I.loc;exact free _ o (fun z=>(hch _ z).2.1 rfl) ho I.free
 ·obtain ⟨v,o,ho,hd⟩:=I.cell x c e;exact free c o (fun z=>(hch c z).2.2.1 x c e rfl) ho (I.freeC x c e)
 ·obtain ⟨e,n,ne,nf,d⟩:=I.pin p hp;have nch:p.1∉ch:=fun z=>(hch p.1 z).2.2.2 p hp rfl;exact ⟨keep p.1 p.2 ne nf nch e n,free p.1 p.2 nch e n,ne,nf,d⟩
theorem Inv.un {t':Nat} (I:Inv X pins O H s) (u:Un X.fs [] H H' s.heap h') (hok:HOk X.prog X.w H' h'):Inv X pins O H' {s with heap:=h',toks:=t'}:=by
 obtain ⟨m,⟨o,es,ep,ho,r⟩,_⟩:=id I.loc;obtain ⟨sl,hL⟩:=u.any ho I.free (by simp);exact I.step (g':=s.gens) (d':=s.drawn) (ch:=[]) (fun _ z=>nomatch z) (fun b o _ hb _ e n=>u.keep b o e n hb (by simp)) (fun b o _ hb _ e n=>u.slot b o e n hb (by simp)) (fun b o _ e n=>u.free b o e n (by simp)) (fun b o _ e=>u.there b o e (by simp)) u.tups u.frzs u.tbls (fun m' hm=>by
  obtain ⟨o',es',ep',ho',r'⟩:=hm;rw [ho] at ho';cases ho';exact ⟨_,es',ep',hL,r'⟩) hok I.bare
theorem Inv.call{g':Array GenState}{t':Nat}{d':Drawn}{ch:List Addr}(I:Inv X pins O H s)(u:Un (frs X.stack) ch H H' s.heap h')(hok:HOk X.prog X.w H' h')(hg:AllBare g') (hch:∀ b∈ch,(b∈X.ex\/X.s₀.heap.objs.size<=b)/\b≠X.env.locals/\(∀ x c,X.env.cells.lookup x=some c->c≠b)/\∀ p∈X.pn++pins,p.1≠b): Inv X pins O H' {s with heap:=h',gens:=g',drawn:=d',toks:=t'}:=by
 obtain ⟨m,⟨o,es,ep,ho,r⟩,_⟩:=id I.loc;obtain ⟨sl,hL⟩:=u.any ho I.free fun z=>(hch _ z).2.1 rfl;exact I.step (ch:=ch) hch (fun b o hL hb hc e n=>u.keep b o e n (fun z=>(List.mem_cons.mp (I.stkSub b z)).elim hL hb) hc) (fun b o _ _ hc e n=>u.any e n hc) (fun b o hc e n=>u.free b o e n hc) (fun b o hc e=>u.there b o e hc) u.tups u.frzs u.tbls (fun m' hm=>by
  obtain ⟨o',es',ep',ho',r'⟩:=hm;rw [ho] at ho';cases ho';exact ⟨_,es',ep',hL,r'⟩) hok hg
theorem Inv.turned {t':Nat} {it:Addr} (I:Inv X pins O H s) (k:∀ b o,b≠it->s.heap.get? b=some o->h'.get? b=some o) (hn:H it=none) (hL:it≠X.env.locals) (h1:it∈X.ex\/X.s₀.heap.objs.size<=it) (h2:∀ x c,X.env.cells.lookup x=some c->c≠it) (h3:∀ p∈X.pn++pins,p.1≠it):Inv X pins O H {s with heap:=h',toks:=t'}:=by
 have nit:∀ b u,H b=some u->b≠it:=fun b u e z=>by rw [z,hn] at e;cases e
 refine I.step (g':=s.gens) (d':=s.drawn) (ch:=[it]) (fun b hb=>?_) (fun b o _ _ hc e _=>k b o (fun z=>hc (by simp [z])) e) (fun b o _ _ hc e _=>⟨o.slots,k b o (fun z=>hc (by simp [z])) e⟩) (fun _ _ _ _ n=>n) (fun b o hc e=>⟨o,k b o (fun z=>hc (by simp [z])) e⟩) (fun _ _ e=>e) (fun _ _ _ e=>e) (fun b ps e=>⟨#[],by rw [e];simp⟩) (fun m hm=>?_) (fun b u e=>?_) I.bare
 ·have e:b=it:=by simpa using hb
  subst e;exact ⟨h1,hL,h2,h3⟩
 ·obtain ⟨o,es,ep,ho,r⟩:=hm;exact ⟨o,es,ep,k _ o (Ne.symm hL) ho,r⟩
 ·refine (I.hok b u e).stay (fun c v hc q=>k c v ?_ q) (fun _ q=>q) fun _ _ q=>q;rcases hc with z | z;·rw [z];exact nit b u e
  ·exact nit c _ z
theorem Inv.tok (I:Inv X pins O H s) (t:Nat):Inv X pins O H {s with toks:=t}:=I.un (h':=s.heap) (t':=t) Un.refl I.hok
theorem Inv.kept{t':Nat}(I:Inv X pins O H s)(k:∀ b u,s.heap.get? b=some u->h'.get? b=some u):Inv X pins O H {s with heap:=h',toks:=t'}:=I.un (Un.kept k) (I.hok.kept k)
theorem Inv.laid {a:Addr} {o:HO} {t':Nat} (I:Inv X pins O H s) (k:∀ b u,s.heap.get? b=some u->h'.get? b=some u) (hp:s.heap.objs.size<=a) (new:xP X.prog X.w (upd H a o) h' a o): Inv X pins O (upd H a o) {s with heap:=h',toks:=t'}:=I.un (Un.laid k hp (I.hok.fresh hp)) (I.hok.laid k hp new)
theorem Inv.write {x e:Addr} {o:HO} {t':Nat} (I:Inv X pins O H s) (mu:Mut (H x)) (he:e=x\/H e=some (.own x)) (k:∀ b u,b≠e->s.heap.get? b=some u->h'.get? b=some u) (heo:∃ u,h'.get? e=some u) (new:xP X.prog X.w (upd H x o) h' x o):Inv X pins O (upd H x o) {s with heap:=h',toks:=t'}:=I.un (Un.write mu he k heo) (I.hok.write mu he k heo new)
theorem Inv.weak{O':List (Option V)}(I:Inv X pins O H s)(hl:O'.length=O.length)(w:∀ (i:Nat) v,O'[i]? = some (some v)->O[i]? = some (some v)):Inv X pins O' H s:= ⟨I.ok,I.os,I.bare,I.base,let ⟨m,hn,hl'⟩:=I.loc;⟨m,hn,fun i x v e1 e2 e3=>hl' i x v e1 (w i v e2) e3⟩,I.cell,I.free,I.freeC,I.pin,I.hok,hl.trans I.len⟩
theorem Inv.pins_of{pins':List (Addr×Obj)}(I:Inv X pins O H s)(h:∀ p∈pins',s.heap.get? p.1=some p.2/\H p.1=none/\p.1≠X.env.locals/\p.1∉X.fs/\∀ v,p.2.data≠.cell v):Inv X pins' O H s:= ⟨I.ok,I.os,I.bare,I.base,I.loc,I.cell,I.free,I.freeC,fun p hp=>(List.mem_append.mp hp).elim (fun z=>I.pin p (List.mem_append_left _ z)) (h p),I.hok,I.len⟩
theorem z6L{N:List Str}(hN:N.Nodup){i j:Nat}{x:Str}(a:N[i]? = some x)(b:N[j]? = some x):i=j:=by
 obtain ⟨h1,e1⟩:=List.getElem?_eq_some_iff.mp a;obtain ⟨h2,e2⟩:=List.getElem?_eq_some_iff.mp b;exact (List.getElem_inj hN).mp (e1.trans e2.symm)
theorem z59{M:Model}{A:Around}{E:Value->Shared->Prop}{i:Nat}{x:Str}{v:V}{u:Value}{Q:Unit->Shared->Prop}(I:Inv X pins O H s)(hN:X.N.Nodup)(hi:X.N[i]? = some x)(hx:Loc X.env.scope x)(r:xn v u) (h:∀ s',Inv X pins (O.set i (some v)) H s'->(∃ a,Heap.SameBut a s.heap s'.heap/\(a=X.env.locals\/X.env.cells.lookup x=some a))->Q () s')(hf:X.fn x=true\/X.env.scope.names.lookup x=some .local:=by first | exact .inl rfl | exact .inr rfl | assumption):wpAny M A (storeName X.env x u) Q E s:=by
 obtain ⟨m,hn,hl⟩:=id I.loc;have hcls:(X.env.scope.kind==.class||(X.env.scope.kind==.module&&X.env.locals != X.env.globals))=false:=by rw [I.ok.kind];rfl
 have hiO:i<O.length:=by rw [I.len];exact (List.getElem?_eq_some_iff.mp hi).1
 have cne:=I.cne;have tracked:∀ {a:Addr}{h':Heap},(∃ o,s.heap.get? a=some o/\H a=none)->Heap.SameBut a s.heap h'->HOk X.prog X.w H h':=fun {a h'} ha hs b ob e=>by
  obtain ⟨_,_,hfree⟩:=ha;refine (I.hok b ob e).stay (fun c w' hc q=>(hs.2 c ?_).trans q) (fun _ q=>q) fun _ _ q=>q;rintro rfl;rcases hc with rfl | hc;·rw [hfree] at e;cases e
  ·rw [hfree] at hc;cases hc
 rcases hx with hk | hk
 ·refine wpAny_storeName_local hk hn (fun h' hn' hs=>?_) hcls;obtain ⟨oL,_,_,hoL,_⟩:=id hn;refine h _ ⟨I.ok,I.os,I.bare,⟨fun b o e n hb hx=>?_,fun b o e n hb hx=>?_,I.base.free,fun b o e hx=>?_,I.base.tups,I.base.frzs,I.base.tbls⟩,⟨_,hn',fun j y v' e1 e2 e3=>?_⟩,fun y c e=>?_,I.free,I.freeC,fun p hp=>?_,tracked ⟨oL,hoL,I.free⟩ hs,by simpa using I.len⟩ ⟨_,hs,.inl rfl⟩;·exact (hs.2 b (Nat.ne_of_lt (Nat.lt_of_lt_of_le (Heap.lt_size e) I.ok.above))).trans (I.base.keep b o e n hb hx)
  ·obtain ⟨sl,e1⟩:=I.base.slot b o e n hb hx;exact ⟨sl,(hs.2 b (Nat.ne_of_lt (Nat.lt_of_lt_of_le (Heap.lt_size e) I.ok.above))).trans e1⟩
  ·obtain ⟨o',e1⟩:=I.base.there b o e hx;exact ⟨o',(hs.2 b (Nat.ne_of_lt (Nat.lt_of_lt_of_le (Heap.lt_size e) I.ok.above))).trans e1⟩
  ·by_cases hj:j=i
   ·subst hj;rw [hi] at e1;cases e1;rw [List.getElem?_set_self hiO] at e2;cases e2;exact ⟨u,r,.inl ⟨hk,by simp⟩⟩
   ·rw [List.getElem?_set_ne (Ne.symm hj)] at e2;obtain ⟨u',r',q⟩:=hl j y v' e1 e2 e3;refine ⟨u',r',?_⟩;rcases q with ⟨k,e⟩ | ⟨k,c,e,z⟩
    ·refine .inl ⟨k,?_⟩;have:y≠x:=fun e=>hj (z6L hN e1 (e ▸ hi));simp [this,e]
    ·exact .inr ⟨k,c,e,z.sameBut hs (cne y c e)⟩
  ·obtain ⟨w',z⟩:=I.cell y c e;exact ⟨w',z.sameBut hs (cne y c e)⟩
  ·obtain ⟨e,n,ne,nf,d⟩:=I.pin p hp;exact ⟨(hs.2 p.1 ne).trans e,n,ne,nf,d⟩
 ·have hfn:X.fn x=true:=by
   rcases hf with z | z;·exact z
   ·rw [z] at hk;cases hk
  obtain ⟨c,hc⟩:=I.ok.has x (.inl hk);obtain ⟨w',z⟩:=I.cell x c hc;refine wpAny_storeName_cell I.ok.kind hk hc z (fun h' hc' hs=>?_);obtain ⟨oc,hoc,hocd⟩:=id z;refine h {s with heap:=h'} ⟨I.ok,I.os,I.bare,⟨fun b o e n hb hx=>?_,fun b o e n hb hx=>?_,I.base.free,fun b o e hx=>?_,I.base.tups,I.base.frzs,I.base.tbls⟩,⟨m,hn.sameBut hs (Ne.symm (cne x c hc)),fun j y v' e1 e2 e3=>?_⟩,fun y c' e=>?_,I.free,I.freeC,fun p hp=>?_,tracked ⟨oc,hoc,I.freeC x c hc⟩ hs,by simpa using I.len⟩ ⟨c,hs,.inr hc⟩;·exact (hs.2 b (Nat.ne_of_lt (Nat.lt_of_lt_of_le (Heap.lt_size e) (I.ok.cab x c hfn hc)))).trans (I.base.keep b o e n hb hx)
  ·obtain ⟨sl,e1⟩:=I.base.slot b o e n hb hx;exact ⟨sl,(hs.2 b (Nat.ne_of_lt (Nat.lt_of_lt_of_le (Heap.lt_size e) (I.ok.cab x c hfn hc)))).trans e1⟩
  ·obtain ⟨o',e1⟩:=I.base.there b o e hx;exact ⟨o',(hs.2 b (Nat.ne_of_lt (Nat.lt_of_lt_of_le (Heap.lt_size e) (I.ok.cab x c hfn hc)))).trans e1⟩
  ·by_cases hj:j=i
   ·subst hj;rw [hi] at e1;cases e1;rw [List.getElem?_set_self hiO] at e2;cases e2;exact ⟨u,r,.inr ⟨.inl hk,c,hc,hc'⟩⟩
   ·rw [List.getElem?_set_ne (Ne.symm hj)] at e2;obtain ⟨u',r',q⟩:=hl j y v' e1 e2 e3;refine ⟨u',r',?_⟩;rcases q with q | ⟨k,c',e,z'⟩;·exact .inl q
    ·refine .inr ⟨k,c',e,z'.sameBut hs ?_⟩;rintro rfl;exact hj (z6L hN e1 (I.ok.inj _ _ _ e hc ▸ hi))
  ·by_cases hcc:c'=c;·subst hcc;exact ⟨_,hc'⟩
   ·obtain ⟨w2,z2⟩:=I.cell y c' e;exact ⟨w2,z2.sameBut hs hcc⟩
  ·obtain ⟨e,n,ne,nf,d⟩:=I.pin p hp;refine ⟨(hs.2 p.1 ?_).trans e,n,ne,nf,d⟩;intro q;rw [q,hoc] at e;have q':oc=p.2:=Option.some.inj e;exact d w' (by rw [<- q'];exact hocd)
theorem z0C{M:Model}{A:Around}{E:Value->Shared->Prop}{i:Nat}{x:Str}{v:V}{u:Value}{Q:Unit->Shared->Prop}(I:Inv X pins O H s)(hN:X.N.Nodup)(hi:X.N[i]? = some x)(hx:Loc X.env.scope x)(r:xn v u) (h:∀ s',Inv X pins (O.set i (some v)) H s'->Q () s')(hf:X.fn x=true\/X.env.scope.names.lookup x=some .local:=by first | exact .inl rfl | exact .inr rfl | assumption):wpAny M A (storeName X.env x u) Q E s:= z59 I hN hi hx r (fun s' I' _=>h s' I') hf
theorem Inv.call' {s':Shared} {ch:List Addr} (I:Inv X pins O H s) (ho:s'.os=s.os) (u:Un (frs X.stack) ch H H' s.heap s'.heap) (hok:HOk X.prog X.w H' s'.heap) (hg:AllBare s'.gens) (hch:∀ b∈ch,(b∈X.ex\/X.s₀.heap.objs.size<=b)/\b≠X.env.locals/\(∀ x c,X.env.cells.lookup x=some c->c≠b)/\∀ p∈X.pn++pins,p.1≠b):Inv X pins O H' s':=by
 obtain ⟨h',g',d',t',o'⟩:=s';have e:o'=s.os:=ho;subst e;exact I.call (g':=g') (t':=t') (d':=d') u hok hg hch
end
abbrev XK:=Value->Option Addr->Hp->Prop
abbrev St:=List (Option V)
abbrev VK:=V->Hp->Prop
abbrev TE:=St->Hp->VK->Prop
abbrev TT:=St->Hp->(Bool->Hp->Prop)->Prop
abbrev TA:=St->Hp->(List V->Hp->Prop)->Prop
structure zdN where
 nx:St->Hp->Prop
 rt:VK
 bk:St->Hp->Prop:=fun _ _=>False
 ct:St->Hp->Prop:=fun _ _=>False
abbrev TS:=zdN->St->Hp->Prop
def EP(X:Cx)(pins:List (Addr×Obj))(O:St)(Q:VK)(u:Value)(s':Shared):Prop:=∃ v H',Inv X pins O H' s'/\xn v u/\Q v H'
def TP(X:Cx)(pins:List (Addr×Obj))(O:St)(Q:Bool->Hp->Prop)(b:Bool)(s':Shared):Prop:=∃ H',Inv X pins O H' s'/\Q b H'
def AP(X:Cx)(pins:List (Addr×Obj))(O:St)(Q:List V->Hp->Prop)(us:List Value)(s':Shared):Prop:=∃ vs H',Inv X pins O H' s'/\xp vs us/\Q vs H'
def SP(X:Cx)(pins:List (Addr×Obj))(D:zdN)(f:Flow)(s':Shared):Prop:= match f with
 | .next=>∃ O' H',Inv X pins O' H' s'/\D.nx O' H' | .brk=>∃ O' H',Inv X pins O' H' s'/\D.bk O' H' | .cont=>∃ O' H',Inv X pins O' H' s'/\D.ct O' H' | .ret u=>∃ v O' H',Inv X pins O' H' s'/\xn v u/\D.rt v H'
def PE(X:Cx)(e:Expr)(t:TE):Prop:= ∀ (pins:List (Addr×Obj))(s:Shared)(O:St)(H:Hp)(Q:VK),Inv X pins O H s->t O H Q->wpAny (model X.prog X.w) X.A (eval e X.env) (EP X pins O Q) X.xe s
def PT(X:Cx)(e:Expr)(t:TT):Prop:= ∀ (pins:List (Addr×Obj))(s:Shared)(O:St)(H:Hp)(Q:Bool->Hp->Prop),Inv X pins O H s->t O H Q->wpAny (model X.prog X.w) X.A (isTrue e X.env (eval e X.env)) (TP X pins O Q) X.xe s
def PW(X:Cx)(e:Expr)(t:TT):Prop:= ∀ (whole:Sem Value)(pins:List (Addr×Obj))(s:Shared)(O:St)(H:Hp)(Q:Bool->Hp->Prop),Inv X pins O H s->t O H Q->wpAny (model X.prog X.w) X.A (isTrue e X.env whole) (TP X pins O Q) X.xe s
theorem PW.pt{X:Cx}{e:Expr}{t:TT}(h:PW X e t):PT X e t:=h _
def PA(X:Cx)(es:List Expr)(t:TA):Prop:= ∀ (pos:Pos)(pins:List (Addr×Obj))(s:Shared)(O:St)(H:Hp)(Q:List V->Hp->Prop),Inv X pins O H s->t O H Q->wpAny (model X.prog X.w) X.A (spliced (backTo pos (starEach es X.env))) (AP X pins O Q) X.xe s
def PS(X:Cx)(st:Stmt)(t:TS):Prop:= ∀ (pins:List (Addr×Obj))(s:Shared)(O:St)(H:Hp)(D:zdN),Inv X pins O H s->t D O H->wpAny (model X.prog X.w) X.A (exec st X.env) (SP X pins D) X.xe s
def PSs(X:Cx)(st:List Stmt)(t:TS):Prop:= ∀ (pins:List (Addr×Obj))(s:Shared)(O:St)(H:Hp)(D:zdN),Inv X pins O H s->t D O H->wpAny (model X.prog X.w) X.A (execs st X.env) (SP X pins D) X.xe s
theorem thn{α:Type}{t:Sem α}{Q Q':α->Shared->Prop}{M:Model}{A:Around}{E:Value->Shared->Prop}{s:Shared}(h:wpAny M A t Q E s)(hQ:∀ a s,Q a s->Q' a s):wpAny M A t Q' E s:=wpAny_mono h hQ fun _ _ x=>x
section
variable {X:Cx}
theorem bin{a b:Expr}{ta tb:TE}(ha:PE X a ta)(hb:PE X b tb){pins:List (Addr×Obj)}{s:Shared}{O:St}{H:Hp}{R:V->V->Hp->Prop}(I:Inv X pins O H s)(h:ta O H fun x H1=>tb O H1 fun y H2=>R x y H2) {α:Type}{Q:α->Shared->Prop}{f:Value->Value->Sem α} (hf:∀ v u s2 x y H2,Inv X pins O H2 s2->xn x v->xn y u->R x y H2->wpAny (model X.prog X.w) X.A (f v u) Q X.xe s2): wpAny (model X.prog X.w) X.A (eval a X.env) (fun v s₁=>wpAny (model X.prog X.w) X.A (eval b X.env) (fun u s₂=>wpAny (model X.prog X.w) X.A (f v u) Q X.xe s₂) X.xe s₁) X.xe s:=by
 refine thn (ha pins s O H _ I h) fun v s1 ⟨x,H1,I1,r1,q1⟩=>?_;refine thn (hb pins s1 O H1 _ I1 q1) fun u s2 ⟨y,H2,I2,r2,q2⟩=>?_;exact hf v u s2 x y H2 I2 r1 r2 q2
def zjN(i:Nat):TE:=fun O H Q=>∃ v,O[i]? = some (some v)/\Q v H
def tC(v:V):TE:=fun _ H Q=>Q v H
theorem zce{i:Nat}{x:Str}{pos:Pos}(hN:X.N[i]? = some x)(hv:Vis X.env.scope x)(hd:(x==("__debug__":Str))=false:=by decide)(hcd:(x==("__classdict__":Str))=false:=by decide):PE X (.Name x pos) (zjN i):=by
 intro pins s O H Q I h;obtain ⟨v,e,h⟩:=h;obtain ⟨m,hn,hl⟩:=I.loc;obtain ⟨u,r,l⟩:=hl i x v hN e hv;have fin:EP X pins O Q u s:=⟨v,H,I,r,h⟩;rcases l with ⟨hk,hm⟩ | ⟨hk,c,hc,hcell⟩;·exact wpAny_Name (wpAny_loadName_local I.ok.kind hk hn hm fin) hd
 ·rcases hk with hk | hk;·exact wpAny_Name (wpAny_loadName_cell I.ok.kind hk hc hcell fin) hd
  ·exact wpAny_Name (wpAny_loadName_free I.ok.kind hk hc hcell fin hcd) hd
theorem zgB{i j pos}:PE X (.Constant (.int i) j pos) (tC (.int i)):=fun _ _ _ H _ I h=>wpAny_Constant_int ⟨.int i,H,I.tok _,⟨_,rfl⟩,h⟩
theorem zi3{b j pos}:PE X (.Constant (.bool b) j pos) (tC (.bl b)):=fun _ _ _ H _ I h=>Constant_bool ⟨.bl b,H,I,rfl,h⟩
theorem zfN{x j pos}:PE X (.Constant (.str x) j pos) (tC (.str x)):=fun _ _ _ H _ I h=>Calls.Constant_str ⟨.str x,H,I.tok _,⟨_,rfl⟩,h⟩
def Gl(X:Cx)(x:Str):Prop:=X.env.kindOf x=some .globalImplicit
theorem z6w{E:Value->Shared->Prop}{pins:List (Addr×Obj)}{s:Shared}{O:St}{H:Hp}{x:Str}{u:Value}{pos:Pos}{Q:Value->Shared->Prop}(I:Inv X pins O H s)(hg:Gl X x)(hm:X.mg x=some u)(h:Q u s) (hd:(x==("__debug__":Str))=false:=by decide):wpAny (model X.prog X.w) X.A (eval (.Name x pos) X.env) Q E s:= Calls.Name_function_global I.ok.kind hg (Calls.loadGlobal_global (by rw [I.ok.glob];exact I.mod.glob.keeps I.bk) hm h) hd
theorem jX{E:Value->Shared->Prop}{pins:List (Addr×Obj)}{s:Shared}{O:St}{H:Hp}{x:Str}{u:Value}{pos:Pos}{Q:Value->Shared->Prop}(I:Inv X pins O H s)(hg:Gl X x)(hm:X.mg x=none)(hv:bootBuiltins x=some u)(h:Q u s) (hn:x≠"__name__":=by decide)(hd:(x==("__debug__":Str))=false:=by decide):wpAny (model X.prog X.w) X.A (eval (.Name x pos) X.env) Q E s:=by
 obtain ⟨mb,h1,h2⟩:=I.mod.blt;exact Calls.Name_function_global I.ok.kind hg (Calls.loadGlobal_builtin (by rw [I.ok.glob];exact I.mod.glob.keeps I.bk) hm (by rw [I.ok.blt];exact h1.keeps I.bk) ((h2 x hn).trans hv) h) hd
theorem z6d{x:Str}{v:V}{u:Value}{pos:Pos}(hg:Gl X x)(hm:X.mg x=some u)(r:xn v u)(hd:(x==("__debug__":Str))=false:=by decide):PE X (.Name x pos) (tC v):= fun _ _ _ H _ I h=>z6w I hg hm ⟨v,H,I,r,h⟩ hd
theorem zdx{x:Str}{v:V}{u:Value}{pos:Pos}(hg:Gl X x)(hm:X.mg x=none)(hv:bootBuiltins x=some u)(r:xn v u)(hn:x≠"__name__":=by decide)(hd:(x==("__debug__":Str))=false:=by decide):PE X (.Name x pos) (tC v):= fun _ _ _ H _ I h=>jX I hg hm hv ⟨v,H,I,r,h⟩ hn hd
variable {a b:Expr}{ta tb:TE}{pos:Pos}
def PC(X:Cx)(op:CmpOp)(a b:Expr)(t:TE):Prop:= ∀ (pins:List (Addr×Obj))(s:Shared)(O:St)(H:Hp)(Q:VK),Inv X pins O H s->t O H Q-> wpAny (model X.prog X.w) X.A (eval a X.env) (fun v s₁=>wpAny (model X.prog X.w) X.A (eval b X.env) (fun u s₂=>wpAny (model X.prog X.w) X.A (compareOp op v u) (EP X pins O Q) X.xe s₂) X.xe s₁) X.xe s
theorem zbS(b:Expr){op:CmpOp}(h:op≠.In)(h2:op≠.NotIn):behindInMarks op b=false:=by
 have e1:(op==CmpOp.In)=false:=by cases op<;>first | rfl | exact absurd rfl h
 have e2:(op==CmpOp.NotIn)=false:=by cases op<;>first | rfl | exact absurd rfl h2
 cases b<;>simp [behindInMarks,e1,e2]
def tB(t:TE):TT:=fun O H Q=>t O H fun x H1=>∃ c,x=.bl c/\Q c H1
theorem zj3{op:CmpOp}{t:TE}(h:PC X op a b t)(h1:behindInMarks op b=false:=by first | exact zbS _ (by decide) (by decide) | rfl):PT X (.Compare a [op] [b] pos) (tB t):=by
 intro pins s O H Q I hw;refine wpAny_isTrue_Compare1 (thn (h pins s O H _ I hw) fun v s1 h1=>thn h1 fun u s2 h2=>thn h2 fun c s3 ⟨x,H1,I1,r1,q1⟩=>?_) h1;obtain ⟨d,rfl,q⟩:=q1;cases r1;exact wpAny_truthy_bool ⟨H1,I1,q⟩
theorem zgk{e:Expr}{t:TE}(h:PE X e t)(he:∀ whole,isTrue e X.env whole=(do let v <- whole;standAt e.pos;holding [v] (truthy v)):=by intro _;rfl):PT X e (tB t):=by
 intro pins s O H Q I hw;refine isTrue_plain (thn (h pins s O H _ I hw) fun v s1 ⟨x,H1,I1,r1,q1⟩=>?_) (he _);obtain ⟨d,rfl,q⟩:=q1;cases r1;exact wpAny_truthy_bool ⟨H1,I1,q⟩
variable {tA tB':TT}{rest:List Expr}
def zj8(t u:TT):TT:=fun O H Q=>t O H fun c H1=>if c=true then u O H1 Q else Q false H1
def tOr(t u:TT):TT:=fun O H Q=>t O H fun c H1=>if c=true then Q true H1 else u O H1 Q
def zjP(t:TT):TT:=fun O H Q=>t O H fun c H1=>Q (!c) H1
theorem ze0(ha:PT X a tA):PW X (.BoolOp .And [a] pos) tA:=by
 intro wh pins s O H Q I h;refine isTrue_and (thn (ha pins s O H Q I h) fun c s1 e=>?_);cases c with
 | true=>exact isTrue_and_nil e | false=>exact e
theorem zfH(ha:PT X a tA):PW X (.BoolOp .Or [a] pos) tA:=by
 intro wh pins s O H Q I h;refine isTrue_or (thn (ha pins s O H Q I h) fun c s1 e=>?_);cases c with
 | false=>exact isTrue_or_nil e | true=>exact e
theorem zfF(ha:PT X a tA)(hb:PW X (.BoolOp .And (b::rest) pos) tB'):PW X (.BoolOp .And (a::b::rest) pos) (zj8 tA tB'):=by
 intro wh pins s O H Q I h;refine isTrue_and (thn (ha pins s O H _ I h) fun c s1 ⟨H1,I1,q1⟩=>?_);cases c with
 | true=>exact hb wh pins s1 O H1 Q I1 q1 | false=>exact ⟨H1,I1,q1⟩
theorem zi5(ha:PT X a tA)(hb:PW X (.BoolOp .Or (b::rest) pos) tB'):PW X (.BoolOp .Or (a::b::rest) pos) (tOr tA tB'):=by
 intro wh pins s O H Q I h;refine isTrue_or (thn (ha pins s O H _ I h) fun c s1 ⟨H1,I1,q1⟩=>?_);cases c with
 | true=>exact ⟨H1,I1,q1⟩ | false=>exact hb wh pins s1 O H1 Q I1 q1
theorem zfc(ha:PT X a tA):PT X (.UnaryOp .Not a pos) (zjP tA):=by
 intro pins s O H Q I h;exact isTrue_not (ha pins s O H (fun c H1=>Q (!c) H1) I h)
def zhw(ta tb:TE):TE:=fun O H Q=>ta O H fun x H1=>∃ c,x=.bl c/\if c=true then tb O H1 Q else Q (.bl false) H1
def zhY(ta:TE):TE:=fun O H Q=>ta O H fun x H1=>∃ c,x=.bl c/\Q (.bl (!c)) H1
theorem zfs{op}{t:TE}(h:PE X a t):PE X (.BoolOp op [a] pos) t:=fun pins s O H Q I hw=>BoolOp_one (h pins s O H Q I hw)
theorem zeM(ha:PE X a ta)(hb:PE X (.BoolOp .And (b::rest) pos) tb):PE X (.BoolOp .And (a::b::rest) pos) (zhw ta tb):=by
 intro pins s O H Q I h;refine BoolOp_and (thn (ha pins s O H _ I h) fun v s1 ⟨x,H1,I1,r1,q1⟩=>?_);obtain ⟨c,rfl,q1⟩:=q1;cases r1;refine wpAny_truthy_bool ?_;cases c with
 | true=>exact hb pins s1 O H1 Q I1 q1 | false=>exact ⟨.bl false,H1,I1,rfl,q1⟩
theorem zgp(ha:PE X a ta):PE X (.UnaryOp .Not a pos) (zhY ta):=by
 intro pins s O H Q I h;refine UnaryOp_ (thn (ha pins s O H _ I h) fun v s1 ⟨x,H1,I1,r1,q1⟩=>?_);obtain ⟨c,rfl,q1⟩:=q1;cases r1;exact not_of (wpAny_truthy_bool ⟨.bl (!c),H1,I1,rfl,q1⟩)
def tIf(t:TT)(ta tb:TE):TE:=fun O H Q=>t O H fun c H1=>if c=true then ta O H1 Q else tb O H1 Q
theorem zb5{c:Expr}(hc:PT X c tA)(ha:PE X a ta)(hb:PE X b tb):PE X (.IfExp c a b pos) (tIf tA ta tb):=by
 intro pins s O H Q I h;refine wpAny_IfExp (thn (hc pins s O H _ I h) fun d s1 ⟨H1,I1,q1⟩=>?_);cases d with
 | true=>exact ha pins s1 O H1 Q I1 q1 | false=>exact hb pins s1 O H1 Q I1 q1
end
def SqL(K:W.Frag)(H:Hp)(a:Addr)(xs:List V):Prop:= Rd H a (.lst xs)\/ ∃ (o:Obj)(its:Array Value)(n:Nat),K.lookup a=some o/\o.cls=.type "list"/\o.dict=none/\o.data=.seq its n/\its.size<=sizeLine/\xp xs its.toList
def SqT(K:W.Frag)(H:Hp)(a:Addr)(xs:List V):Prop:= Rd H a (.tup xs)\/ ∃ (o:Obj)(its:Array Value)(n:Nat),K.lookup a=some o/\o.cls=.type "tuple"/\o.data=.seq its n/\its.size<=sizeLine/\xp xs its.toList
def zjV:Value->Option V
 | .none=>some .non | .bool b=>some (.bl b) | .int i _=>some (.int i) | .str x _=>some (.str x) | .bytes b _=>some (.byt b) | .float b _=>some (.flt b) | .ref a=>some (.ref a) | .type n=>some (.ty n) | _=>none
theorem xn.abs{x:V}{u:Value}(r:xn x u):zjV u=some x:=by cases x with
 | non=>cases r;rfl | bl _=>cases r;rfl | int _=>obtain ⟨t,rfl⟩:=r;rfl | str _=>obtain ⟨t,rfl⟩:=r;rfl | byt _=>obtain ⟨t,rfl⟩:=r;rfl | flt _=>obtain ⟨t,rfl⟩:=r;rfl | ref _=>cases r;rfl | ty _=>cases r;rfl
theorem xn.inj{x y:V}{u:Value}(r:xn x u)(q:xn y u):x=y:=Option.some.inj (r.abs.symm.trans q.abs)
theorem xp.inj:∀ {xs ys:List V}{us:List Value},xp xs us->xp ys us->xs=ys
 | _,_,_,.nil,.nil=>rfl | _,_,_,.cons r t,.cons r' t'=>by rw [r.inj r',xp.inj t t']
section
variable {X:Cx}{pins:List (Addr×Obj)}{O:St}{H:Hp}{s:Shared}{a:Addr}{xs ys:List V}
theorem Inv.list(I:Inv X pins O H s)(h:SqL X.K H a xs):∃ its:List Value,xp xs its/\PlainL s.heap a its.toArray/\xs.length<=sizeLine:=by
 rcases h with h | ⟨o,its,n,hk,hc,hd,hs,hz,r⟩
 ·obtain ⟨z,its,n,r,e⟩:=h.ok I.hok;exact ⟨its,r,⟨_,n,e,rfl,rfl,rfl⟩,z⟩
 ·refine ⟨its.toList,r,⟨o,n,I.kIn a o hk,hc,hd,by simpa using hs⟩,?_⟩;have e:=r.length;simp only [Array.length_toList] at e;omega
theorem Inv.tuple(I:Inv X pins O H s)(h:SqT X.K H a xs):∃ its:List Value,xp xs its/\IsTup s.heap a its.toArray/\xs.length<=sizeLine:=by
 rcases h with h | ⟨o,its,n,hk,hc,hs,hz,r⟩
 ·obtain ⟨z,its,r,p⟩:=h.ok I.hok;exact ⟨its,r,p.tup,z⟩
 ·refine ⟨its.toList,r,⟨o,I.kIn a o hk,hc,n,by simpa using hs⟩,?_⟩;have e:=r.length;simp only [Array.length_toList] at e;omega
theorem Inv.list_inj(I:Inv X pins O H s)(h:SqL X.K H a xs)(h':SqL X.K H a ys):xs=ys:=by
 obtain ⟨its,r,⟨o,n,e,_,_,d⟩,_⟩:=I.list h;obtain ⟨its',r',⟨o',n',e',_,_,d'⟩,_⟩:=I.list h';rw [e] at e';cases e';rw [d] at d';injection d' with d1 _;have:its=its':=by simpa using congrArg Array.toList d1
 subst this;exact r.inj r'
theorem Inv.tuple_inj(I:Inv X pins O H s)(h:SqT X.K H a xs)(h':SqT X.K H a ys):xs=ys:=by
 obtain ⟨its,r,⟨o,e,_,n,d⟩,_⟩:=I.tuple h;obtain ⟨its',r',⟨o',e',_,n',d'⟩,_⟩:=I.tuple h';rw [e] at e';cases e';rw [d] at d';injection d' with d1 _;have:its=its':=by simpa using congrArg Array.toList d1
 subst this;exact r.inj r'
end
abbrev Cx.wish(X:Cx)(E:Value->Shared->Prop):Cx:={X with xe:=E}
abbrev Cx.nox(X:Cx):Cx:=X.wish fun _ _=>False
theorem Cx.Ok.wish{X:Cx}(ok:X.Ok)(E:Value->Shared->Prop):(X.wish E).Ok:= ⟨ok.mod,ok.kind,ok.glob,ok.blt,ok.above,ok.inj,ok.has,ok.cab,ok.hd,ok.frames,ok.stk,ok.exf,ok.bs,ok.bsz,ok.noex,ok.exfs,ok.funs,ok.frf⟩
theorem Cx.Ok.unwish{X:Cx}{E:Value->Shared->Prop}(ok:(X.wish E).Ok):X.Ok:= ⟨ok.mod,ok.kind,ok.glob,ok.blt,ok.above,ok.inj,ok.has,ok.cab,ok.hd,ok.frames,ok.stk,ok.exf,ok.bs,ok.bsz,ok.noex,ok.exfs,ok.funs,ok.frf⟩
section
variable {X:Cx}{pins:List (Addr×Obj)}{O:St}{H:Hp}{s:Shared}{E:Value->Shared->Prop}
theorem Inv.wish(I:Inv X pins O H s)(E:Value->Shared->Prop):Inv (X.wish E) pins O H s:=⟨I.ok.wish E,I.os,I.bare,I.base,I.loc,I.cell,I.free,I.freeC,I.pin,I.hok,I.len⟩
theorem Inv.unwish(I:Inv (X.wish E) pins O H s):Inv X pins O H s:=⟨I.ok.unwish,I.os,I.bare,I.base,I.loc,I.cell,I.free,I.freeC,I.pin,I.hok,I.len⟩
theorem SP.unwish{D:zdN}{f:Flow}{s':Shared}(h:SP (X.wish E) pins D f s'):SP X pins D f s':=by cases f with
 | next=>obtain ⟨O',H',I,q⟩:=h;exact ⟨O',H',I.unwish,q⟩ | brk=>obtain ⟨O',H',I,q⟩:=h;exact ⟨O',H',I.unwish,q⟩ | cont=>obtain ⟨O',H',I,q⟩:=h;exact ⟨O',H',I.unwish,q⟩ | ret u=>obtain ⟨v,O',H',I,r,q⟩:=h;exact ⟨v,O',H',I.unwish,r,q⟩
theorem PSs.nox{st:List Stmt}{t:TS}(h:PSs X.nox st t):PSs X st t:=fun pins s O H D I hw=> wpAny_mono (h pins s O H D (I.wish _) hw) (fun _ _ q=>q.unwish) fun _ _ z=>False.elim z
end
section
variable {X:Cx}{st:Stmt}{rest:List Stmt}{t u:TS}{e:Expr}{te:TE}{pos:Pos}
def zhK:TS:=fun D O H=>D.nx O H
def ziK(t u:TS):TS:=fun D O H=>t {D with nx:=u D} O H
theorem zd3:PSs X [] zhK:=fun _ _ O H _ I h=>wpAny_execs_nil ⟨O,H,I,h⟩
theorem zaD(h1:PS X st t)(h2:PSs X rest u):PSs X (st::rest) (ziK t u):=by
 intro pins s O H D I h;refine wpAny_execs_cons (thn (h1 pins s O H {D with nx:=u D} I h) fun f s1 q=>?_);cases f with
 | next=>
  obtain ⟨O',H',I',q⟩:=q;exact h2 pins s1 O' H' D I' q | ret v=>exact q | brk=>exact q | cont=>exact q
theorem zd0(h1:PS X st t):PSs X [st] t:=by
 intro pins s O H D I h;refine wpAny_execs_cons (thn (h1 pins s O H D I h) fun f s1 q=>?_);cases f with
 | next=>exact wpAny_execs_nil q | ret v=>exact q | brk=>exact q | cont=>exact q
theorem Inv.quiet{pins:List (Addr×Obj)}{O:St}{H:Hp}{s:Shared}(I:Inv X pins O H s):interactive X.env=false:=by simp [interactive,I.ok.kind]
def zi1(te:TE):TS:=fun D O H=>te O H fun _ H1=>D.nx O H1
theorem zdV(he:PE X e te)(hs:swapsWith e none pos.line X.env=pure false:=by rfl):PS X (.Expr e pos) (zi1 te):=by
 intro pins s O H D I h;exact wpAny_Expr_any (thn (he pins s O H _ I h) fun v s1 ⟨x,H1,I1,r1,q1⟩=>⟨O,H1,I1,q1⟩) I.quiet hs
def zjt(te:TE):TS:=fun D O H=>te O H D.rt
theorem zfd(he:PE X e te):PS X (.Return (some e) pos) (zjt te):=by
 intro pins s O H D I h;exact wpAny_Return_some (thn (he pins s O H _ I h) fun v s1 ⟨x,H1,I1,r1,q1⟩=>⟨x,O,H1,I1,r1,q1⟩)
def zjR(c:TT)(t u:TS):TS:=fun D O H=>c O H fun b H1=>if b=true then t D O H1 else u D O H1
theorem zir{c:Expr}{a b:List Stmt}{tc:TT}(hc:PT X c tc)(ha:PSs X a t)(hb:PSs X b u):PS X (.If c a b pos) (zjR tc t u):=by
 intro pins s O H D I h;refine wpAny_If (thn (hc pins s O H _ I h) fun d s1 ⟨H1,I1,q1⟩=>?_);cases d with
 | true=>exact ha pins s1 O H1 D I1 q1 | false=>exact hb pins s1 O H1 D I1 q1
def zf1:TS:=fun _ _ _=>False
theorem zaO:PS X st zf1:=fun _ _ _ _ _ _ h=>h.elim
end
abbrev TG:=V->St->Hp->(St->Hp->Prop)->Prop
abbrev TGs:=List V->St->Hp->(St->Hp->Prop)->Prop
def PG(X:Cx)(target:Expr)(t:TG):Prop:= ∀ (pins:List (Addr×Obj))(s:Shared)(O:St)(H:Hp)(v:V)(u:Value)(Q:St->Hp->Prop),Inv X pins O H s->xn v u->t v O H Q-> wpAny (model X.prog X.w) X.A (assign target X.env u) (fun _ s'=>∃ O' H',Inv X pins O' H' s'/\Q O' H') X.xe s
def PGs(X:Cx)(ts:List Expr)(t:TGs):Prop:= ∀ (pins:List (Addr×Obj))(s:Shared)(O:St)(H:Hp)(vs:List V)(us:List Value)(Q:St->Hp->Prop),Inv X pins O H s->xp vs us->t vs O H Q-> wpAny (model X.prog X.w) X.A (assignInOrder ((assignEach ts X.env).map (·.2)) us) (fun _ s'=>∃ O' H',Inv X pins O' H' s'/\Q O' H') X.xe s
abbrev zi8:=V->V->V->Hp->(Hp->Prop)->Prop
def ziY(X:Cx)(t:zi8):Prop:= ∀ (pins:List (Addr×Obj))(s:Shared)(O:St)(H:Hp)(o i v:V)(ov iv u:Value)(Q:Hp->Prop),Inv X pins O H s->xn o ov->xn i iv->xn v u->t o i v H Q-> wpAny (model X.prog X.w) X.A (setItem ov iv u) (fun _ s'=>∃ H',Inv X pins O H' s'/\Q H') X.xe s
section
variable {X:Cx}{pos:Pos}
def z7O(i:Nat):TG:=fun v O H Q=>Q (O.set i (some v)) H
theorem zX{i:Nat}{x:Str}(hN:X.N.Nodup)(hi:X.N[i]? = some x)(hx:Loc X.env.scope x)(hf:X.fn x=true\/X.env.scope.names.lookup x=some .local:=by first | exact .inl rfl | exact .inr rfl | assumption):PG X (.Name x pos) (z7O i):=by
 intro pins s O H v u Q I r h;exact wpAny_assign_Name (z0C I hN hi hx r (fun s' I'=>⟨_,H,I',h⟩) hf)
def ziO:TGs:=fun vs O H Q=>vs=[]/\Q O H
def zdK(t:TG)(u:TGs):TGs:=fun vs O H Q=>∃ v r,vs=v::r/\t v O H fun O' H'=>u r O' H' Q
theorem kK:PGs X [] ziO:=by
 intro pins s O H vs us Q I r h;obtain ⟨e,h⟩:=h;subst e;cases r;exact assignInOrder_nil ⟨O,H,I,h⟩
theorem xx{e:Expr}{es:List Expr}{t:TG}{u:TGs}(h1:PG X e t)(h2:PGs X es u) (hs:(assignEach (e::es) X.env).map (·.2)=assign e X.env::(assignEach es X.env).map (·.2):=by rfl):PGs X (e::es) (zdK t u):=by
 intro pins s O H vs us Q I r h;obtain ⟨v,vr,e1,h⟩:=h;subst e1;cases r with | cons r rr=>
  rw [hs];refine assignInOrder_cons (thn (h1 pins s O H _ _ _ I r h) fun _ s1 ⟨O1,H1,I1,q1⟩=>?_);exact h2 pins s1 O1 H1 _ _ Q I1 rr q1
def ziZ(K:W.Frag)(n:Nat)(t:TGs):TG:=fun v O H Q=>∃ a xs,v=.ref a/\SqT K H a xs/\xs.length=n/\t xs O H Q
theorem z2W{es:List Expr}{k:Nat}{t:TGs}{n:Nat}(hc:X.calm=true)(h:PGs X es t) (hn:(assignEach es X.env).length=n:=by rfl)(hst:(assignEach es X.env).findIdx? (·.1)=none:=by rfl):PG X (.Tuple es k pos) (ziZ X.K n t):=by
 intro pins s O H v u Q I r hw;obtain ⟨a,xs,e1,hq,hl,hw⟩:=hw;subst e1;cases r;obtain ⟨its,rv,ht,hz⟩:=I.tuple hq;refine assign_Tuple_tuple (I.ok.hd hc) ht (by simp [hn,<- hl,rv.length]) hst fun h' hx=>?_;have I1:Inv X pins O H {s with heap:=h'}:=I.kept (t':=s.toks) fun b o e=>hx b o (Nat.ne_of_lt (Heap.lt_size e)) e;exact h pins _ O H xs _ Q I1 (by simpa using rv) hw
def zjL(to ti:TE)(t:zi8):TG:=fun v O H Q=>to O H fun o H1=>ti O H1 fun i H2=>t o i v H2 fun H3=>Q O H3
theorem zeI{o i:Expr}{to ti:TE}{t:zi8}(ho:PE X o to)(hi:PE X i ti)(hs:ziY X t) (ha:∀ v,assign (.Subscript o i pos) X.env v=(do
   let ov <- holding [v] (eval o X.env) let iv <- holding [v,ov] (eval i X.env)
   standAt pos
   holding [v,ov,iv] (setItem ov iv v)
   release [v,ov,iv] []):=by intro _;rfl):PG X (.Subscript o i pos) (zjL to ti t):=by
 intro pins s O H v u Q I r h;rw [ha];refine wpAny_bind (wpAny_holding (thn (ho pins s O H _ I h) fun ov s1 ⟨x,H1,I1,r1,q1⟩=>?_));refine wpAny_bind (wpAny_holding (thn (hi pins s1 O H1 _ I1 q1) fun iv s2 ⟨y,H2,I2,r2,q2⟩=>?_));refine wpAny_bind (wpAny_standAt (wpAny_bind (wpAny_holding (thn (hs pins s2 O H2 x y v ov iv u _ I2 r1 r2 r q2) fun _ s3 ⟨H3,I3,q3⟩=>?_))));exact wpAny_release ⟨O,H3,I3,q3⟩
def zhv(te:TE)(g:TG):TS:=fun D O H=>te O H fun x H1=>g x O H1 D.nx
theorem zcg{tg e:Expr}{te:TE}{g:TG}(he:PE X e te)(hg:PG X tg g)(hs:swapsWithSole [tg] e pos.line X.env=pure false:=by rfl)(hw:swappedStores [tg] e X.env=pure none:=by rfl) (h1:(assignEach [tg] X.env).map (·.2)=[assign tg X.env]:=by rfl):PS X (.Assign [tg] e pos) (zhv te g):=by
 intro pins s O H D I h;refine wpAny_Assign_stores (thn (he pins s O H _ I h) fun v s1 ⟨x,H1,I1,r1,q1⟩=>?_) hs hw;rw [h1];exact thn (hg pins s1 O H1 x v _ I1 r1 q1) fun _ s2 q=>q
theorem zgy{i:Nat}{x:Str}{e:Expr}{te:TE}{pos':Pos}(hN:X.N.Nodup)(hi:X.N[i]? = some x)(hx:Loc X.env.scope x)(he:PE X e te)(hs:swapsWith e (some (.Name x pos')) pos.line X.env=pure false:=by rfl)(hf:X.fn x=true\/X.env.scope.names.lookup x=some .local:=by first | exact .inl rfl | exact .inr rfl | assumption): PS X (.Assign [.Name x pos'] e pos) (zhv te (z7O i)):=by
 intro pins s O H D I h;refine wpAny_Assign_Name (thn (he pins s O H _ I h) fun v s1 ⟨y,H1,I1,r1,q1⟩=>?_) hs;exact z0C I1 hN hi hx r1 (fun s2 I2=>⟨_,H1,I2,q1⟩) hf
def zjh(i j:Nat)(ta:TA):TS:=fun D O H=>ta O H fun vs H1=>∃ v w,vs=[v,w]/\D.nx ((O.set i (some v)).set j (some w)) H1
theorem zfM {i j:Nat} {x y:Str} {a b:Expr} {ta:TA} {px py pt:Pos} {kt k2 pt2} (hc:X.calm=true) (hN:X.N.Nodup) (hi:X.N[i]? = some x) (hj:X.N[j]? = some y) (hij:i≠j) (hx:X.env.scope.names.lookup x=some .local) (hy:X.env.scope.names.lookup y=some .local) (ha:PA X [a,b] ta) (hw:swappedStores [.Tuple [.Name x px,.Name y py] kt pt] (.Tuple [a,b] k2 pt2) X.env=pure (some [x,y])) (hs:swapsWithSole [.Tuple [.Name x px,.Name y py] kt pt] (.Tuple [a,b] k2 pt2) pos.line X.env=pure false:=by rfl): PS X (.Assign [.Tuple [.Name x px,.Name y py] kt pt] (.Tuple [a,b] k2 pt2) pos) (zjh i j ta):=by
 intro pins s O H D I h;rw [exec_Assign_arm];refine wpAny_bind (wpAny_standAt ?_);rw [hs];refine wpAny_bind (wpAny_pure ?_);rw [if_neg (by decide)];refine wpAny_bind (Tuple_ (thn (ha _ pins s O H _ I h) fun us s1 ⟨vs,H1,I1,r1,q1⟩=>?_));obtain ⟨v,w,e1,q1⟩:=q1;subst e1;obtain ⟨u1,u2,rfl,rv,rw'⟩:∃ u1 u2,us=[u1,u2]/\xn v u1/\xn w u2:=by cases r1 with | cons p q=> cases q with | cons p' q'=>
    cases q';exact ⟨_,_,rfl,p,p'⟩
 refine wpAny_newObj_type ?_ (by show 2<=sizeLine;decide);have I2:Inv X pins O H1 {s1 with heap:=s1.heap.push {cls:=.type "tuple",data:=.seq [u1,u2].toArray}}:=I1.kept (t':=s1.toks) fun b o e=>Heap.get?_push_of_some _ e;rw [hw];refine wpAny_bind (wpAny_pure ?_);show wpAny (model X.prog X.w) X.A (do rule "assign.swapped-stores";let items <- unpackItems (.ref s1.heap.objs.size) 2 none;assignInOrder [fun v=>bindName X.env y v,fun v=>bindName X.env x v] items.reverse;pure Flow.next) _ _ _;refine wpAny_bind (wpAny_rule (wpAny_bind (unpackItems_tuple (items:=#[u1,u2]) (I.ok.hd hc) (IsTup.new s1.heap _) fun h' hx'=>?_)));have I3:=I2.kept (h':=h') (t':=s1.toks) fun b o e=>hx' b o (Nat.ne_of_lt (Heap.lt_size e)) e;show wpAny _ _ (assignInOrder [fun v=>bindName X.env y v,fun v=>bindName X.env x v] [u2,u1] >>= fun _=>pure Flow.next) _ _ _;refine wpAny_bind (assignInOrder_cons (wpAny_bindName (z0C I3 hN hj (.inl hy) rw' (fun s2 I4=>?_) (.inr hy))));refine assignInOrder_cons (wpAny_bindName (z0C I4 hN hi (.inl hx) rv (fun s3 I5=>assignInOrder_nil (wpAny_pure ?_)) (.inr hx)));rw [List.set_comm _ _ (Ne.symm hij)] at I5;exact ⟨_,H1,I5,q1⟩
end
section
variable {X:Cx}{pos:Pos}
def zfj(c:TT)(tb:TS):TS:=fun D O H=>∃ W:Nat->St->Hp->Prop,(∃ m,W m O H)/\∀ m O H,W m O H-> c O H fun b H1=>if b=true then ∃ N:St->Hp->Prop,(∀ O' H',N O' H'->∃ m',m'<m/\W m' O' H')/\tb {D with nx:=N,ct:=N,bk:=D.nx} O H1 else D.nx O H1
theorem zbK{c:Expr}{body:List Stmt}{tc:TT}{tb:TS}(hp:PassesOwn (model X.prog X.w) X.A X.env X.xe)(hc:PT X c tc)(hb:PSs X body tb):PS X (.While c body [] pos) (zfj tc tb):=by
 intro pins s O H D I h;obtain ⟨W,⟨m0,w0⟩,turn⟩:=h;refine wpAny_While (codeAny_whileLoop (fun n s'=>∃ O' H',Inv X pins O' H' s'/\W n O' H') ?_ m0 ⟨O,H,I,w0⟩);rintro n s1 ⟨O1,H1,I1,w1⟩;refine wpAny_passesOwn hp (thn (hc pins s1 O1 H1 _ I1 (turn n O1 H1 w1)) fun b s2 ⟨H2,I2,q2⟩=>?_);cases b with
 | true=>
  obtain ⟨N,hN,q2⟩:=q2;rw [if_pos rfl];refine wpAny_passesOwn hp (thn (hb pins s2 O1 H2 _ I2 q2) fun f s3 q3=>?_);cases f with
  | next=>
   obtain ⟨O3,H3,I3,n3⟩:=q3;obtain ⟨m',hm,w3⟩:=hN O3 H3 n3;exact ⟨m',hm,O3,H3,I3,w3⟩ | cont=>
   obtain ⟨O3,H3,I3,n3⟩:=q3;obtain ⟨m',hm,w3⟩:=hN O3 H3 n3;exact ⟨m',hm,O3,H3,I3,w3⟩ | brk=>exact q3 | ret v=>exact q3
 | false=>
  rw [if_neg Bool.false_ne_true];exact wpAny_execs_nil ⟨O1,H2,I2,q2⟩
end
structure It where
 go:Nat->Hp->Prop
 yld:Nat->Hp->V->Hp->Prop
 stop:Nat->Hp->Prop
def z5A(X:Cx)(pins:List (Addr×Obj))(H:Hp)(b:Addr):Prop:= H b=none/\b≠X.env.locals/\b∉X.fs/\(b∈X.ex\/X.s₀.heap.objs.size<=b)/\(∀ x c,X.env.cells.lookup x=some c->c≠b)/\∀ p∈X.pn++pins,p.1≠b
theorem Inv.fpOk{X:Cx}{pins:List (Addr×Obj)}{O:St}{H H':Hp}{s:Shared}{b:Addr}(I:Inv X pins O H s)(hb:s.heap.objs.size<=b)(hn:H' b=none):z5A X pins H' b:=by
 refine ⟨hn,Nat.ne_of_gt (Nat.lt_of_lt_of_le I.lt hb),I.nofs hb,.inr (Nat.le_trans I.sz hb),fun x c e z=>?_,fun p hp z=>?_⟩
 ·obtain ⟨v,q⟩:=I.cell x c e;exact absurd (Nat.lt_of_lt_of_le q.lt (by rw [z];exact hb)) (Nat.lt_irrefl _)
 ·exact absurd (Nat.lt_of_lt_of_le (Heap.lt_size (I.pin p hp).1) (by rw [z];exact hb)) (Nat.lt_irrefl _)
structure zdm(P:Program)(w:World)(K:W.Frag)(tg:Expr)(J:It)(fp:List Addr)(it:Addr)(tn:Nat->Heap->Prop):Prop where
 mem:it∈fp
 obj:∀ i h,tn i h->∀ b∈fp,∃ o,h.get? b=some o/\∀ v,o.data≠.cell v
 keep:∀ i h h',tn i h->(∀ b∈fp,∀ o,h.get? b=some o->h'.get? b=some o)->tn i h'
 item:∀ (X:Cx),X.prog=P->X.w=w->X.K=K->X.calm=true->∀ (i:Nat)(pins:List (Addr×Obj))(s:Shared)(O:St)(H:Hp)(E:Value->Shared->Prop),Inv X pins O H s->(∀ b∈fp,z5A X pins H b)->tn i s.heap->J.go i H-> wpAny (model P w) X.A (pyNext (.ref it)) (fun r s1=>∃ u,r=some u/\ wpAny (model P w) X.A (letOwnedTupleGo tg (.ref it) u) (fun _ s2=>∃ x H',Inv X pins O H' s2/\xn x u/\J.yld i H x H'/\tn (i+1) s2.heap/\∀ b∈fp,H' b=none) E s1) E s
 done:∀ (X:Cx),X.prog=P->X.w=w->X.K=K->X.calm=true->∀ (i:Nat)(pins:List (Addr×Obj))(s:Shared)(O:St)(H:Hp)(E:Value->Shared->Prop),Inv X pins O H s->(∀ b∈fp,z5A X pins H b)->tn i s.heap->J.stop i H-> wpAny (model P w) X.A (pyNext (.ref it)) (fun r s1=>r=none/\Inv X pins O H s1) E s
 self:∀ (A:Around)(i:Nat)(s:Shared)(Q:Value->Shared->Prop)(E:Value->Shared->Prop),tn i s.heap->Q (.ref it) s->wpAny (model P w) A (pyIter (.ref it)) Q E s
abbrev TI:=St->Hp->(It->Hp->Prop)->Prop
def PIE(X:Cx)(pins:List (Addr×Obj))(O:St)(tg:Expr)(R:It->Hp->Prop)(itv:Value)(s2:Shared):Prop:= ∃ (it:Addr)(fp:List Addr)(tn:Nat->Heap->Prop)(J:It)(H':Hp),itv=.ref it/\Inv X pins O H' s2/\zdm X.prog X.w X.K tg J fp it tn/\tn 0 s2.heap/\(∀ b∈fp,z5A X pins H' b)/\R J H'
def PI(X:Cx)(tg iter:Expr)(wi:TI):Prop:= ∀ (pins:List (Addr×Obj))(s:Shared)(O:St)(H:Hp)(R:It->Hp->Prop),Inv X pins O H s->wi O H R-> wpAny (model X.prog X.w) X.A (eval iter X.env) (fun v s1=>wpAny (model X.prog X.w) X.A (pyIter v) (PIE X pins O tg R) X.xe s1) X.xe s
theorem zcS{M:Model}{A:Around}{E:Value->Shared->Prop}{s:Shared}{tg:Expr}{it:Addr}{u:Value}{o:Obj}{n:String}{vs:Array Value}{Q:Unit->Shared->Prop}(ho:s.heap.get? it=some o)(hc:o.cls=.type n)(hd:o.data=.fields vs) (hn:["enumerate","zip","dict_itemiterator","dict_reverseitemiterator","odict_iterator","itertools.zip_longest","itertools.pairwise"].contains n=false)(hQ:Q () s):wpAny M A (letOwnedTupleGo tg (.ref it) u) Q E s:=by
  unfold letOwnedTupleGo;cases tg<;>first
    | exact wpAny_pure hQ | (cases u<;>first
        | exact wpAny_pure hQ
        | (refine wpAny_bind (wpAny_load ho ?_);rw [hc,hd];show wpAny M A (if (["enumerate","zip","dict_itemiterator","dict_reverseitemiterator","odict_iterator","itertools.zip_longest","itertools.pairwise"].contains n&&vs[0]? == some (rawInt _))=true then _ else _) Q E s;rw [if_neg (by intro h;rw [hn,Bool.false_and] at h;cases h)];exact wpAny_pure hQ))
def Itl(K:W.Frag)(a:Addr):It:= ⟨fun i H=>∃ xs x,SqL K H a xs/\xs[i]? = some x,fun i H x H'=>H'=H/\∀ xs,SqL K H a xs->xs[i]? = some x,fun i H=>∃ xs,SqL K H a xs/\xs.length<=i⟩
def Itt(K:W.Frag)(a:Addr):It:= ⟨fun i H=>∃ xs x,SqT K H a xs/\xs[i]? = some x,fun i H x H'=>H'=H/\∀ xs,SqT K H a xs->xs[i]? = some x,fun i H=>∃ xs,SqT K H a xs/\xs.length<=i⟩
def Itr(lo:Int)(n:Nat):It:=⟨fun i _=>i<n,fun i H x H'=>H'=H/\x=.int (lo+i),fun i _=>n<=i⟩
theorem z9H{P:Program}{w:World}{K:W.Frag}{tg:Expr}(a it:Addr):zdm P w K tg (Itl K a) [it] it (fun i h=>h.IsListIter it a i) where
 mem:=by simp
 obj:=fun i h st b hb=>by
  have e:b=it:=by simpa using hb
  subst e;obtain ⟨o,e,c,d⟩:=st;exact ⟨o,e,fun v z=>by rw [d] at z;cases z⟩
 keep:=fun i h h' st k=>st.at fun o e=>k it (by simp) o e;item:=by
  intro X hP hw hK hc i pins s O H E I hf st hg;subst hP hw hK;obtain ⟨xs,x,hq,hx⟩:=hg;obtain ⟨its,rv,p,hz⟩:=I.list hq;obtain ⟨u,hu,ru⟩:=rv.get hx;obtain ⟨f0,f1,f2,f3,f4,f5⟩:=hf it (by simp);refine wpAny_pyNext_list_item st p.isList (x:=u) (by simpa using hu) fun h' st' sb=>?_;have I1:Inv X pins O H {s with heap:=h'}:=I.turned (t':=s.toks) (fun b o hb e=>(sb.2 b hb).trans e) f0 f1 f3 f4 f5;obtain ⟨o,e,c,d⟩:=id st';exact ⟨u,rfl,zcS (s:={s with heap:=h'}) e c d (by decide) ⟨x,H,I1,ru,⟨rfl,fun ys hy=>by rw [I.list_inj hy hq];exact hx⟩,st',fun b hb=>(hf b hb).1⟩⟩
 done:=by
  intro X hP hw hK hc i pins s O H E I hf st hg;subst hP hw hK;obtain ⟨xs,hq,hx⟩:=hg;obtain ⟨its,rv,p,hz⟩:=I.list hq;obtain ⟨f0,f1,f2,f3,f4,f5⟩:=hf it (by simp);have hl:=rv.length;exact wpAny_pyNext_list_end (I.ok.hd hc) st p.isList (by simp;omega) fun h' eb=>⟨rfl,I.turned (t':=s.toks) (fun b o hb e=>eb b o hb e) f0 f1 f3 f4 f5⟩
 self:=fun _ _ _ _ _ st h=>wpAny_pyIter_listiter st h
theorem z8q {P:Program} {w:World} {K:W.Frag} {tg:Expr} (a it:Addr):zdm P w K tg (Itt K a) [it] it (fun i h=>h.IsTupleIter it a i) where
 mem:=by simp
 obj:=fun i h st b hb=>by
  have e:b=it:=by simpa using hb
  subst e;obtain ⟨o,e,c,d⟩:=st;exact ⟨o,e,fun v z=>by rw [d] at z;cases z⟩
 keep:=fun i h h' st k=>st.at fun o e=>k it (by simp) o e;item:=by
  intro X hP hw hK hc i pins s O H E I hf st hg;subst hP hw hK;obtain ⟨xs,x,hq,hx⟩:=hg;obtain ⟨its,rv,p,hz⟩:=I.tuple hq;obtain ⟨u,hu,ru⟩:=rv.get hx;obtain ⟨f0,f1,f2,f3,f4,f5⟩:=hf it (by simp);refine wpAny_pyNext_tuple_item st (show s.heap.IsTuple a its.toArray from p) (x:=u) (by simpa using hu) fun h' st' sb=>?_;have I1:Inv X pins O H {s with heap:=h'}:=I.turned (t':=s.toks) (fun b o hb e=>(sb.2 b hb).trans e) f0 f1 f3 f4 f5;obtain ⟨o,e,c,d⟩:=id st';exact ⟨u,rfl,zcS (s:={s with heap:=h'}) e c d (by decide) ⟨x,H,I1,ru,⟨rfl,fun ys hy=>by rw [I.tuple_inj hy hq];exact hx⟩,st',fun b hb=>(hf b hb).1⟩⟩
 done:=by
  intro X hP hw hK hc i pins s O H E I hf st hg;subst hP hw hK;obtain ⟨xs,hq,hx⟩:=hg;obtain ⟨its,rv,p,hz⟩:=I.tuple hq;obtain ⟨f0,f1,f2,f3,f4,f5⟩:=hf it (by simp);have hl:=rv.length;exact wpAny_pyNext_tuple_end (I.ok.hd hc) st (show s.heap.IsTuple a its.toArray from p) (by simp;omega) fun h' eb=>⟨rfl,I.turned (t':=s.toks) (fun b o hb e=>eb b o hb e) f0 f1 f3 f4 f5⟩
 self:=fun _ _ _ _ _ st h=>wpAny_pyIter_tupleiter st h
theorem z81 {P:Program} {w:World} {K:W.Frag} {tg:Expr} (it:Addr) (lo:Int) (n:Nat):zdm P w K tg (Itr lo n) [it] it (fun i h=>IsRangeIter h it (lo+(i:Nat)*1) ((n:Int)-(i:Nat)) 1) where
 mem:=by simp
 obj:=fun i h st b hb=>by
  have e:b=it:=by simpa using hb
  subst e;exact ⟨_,st,fun v z=>by
   have z':Data.fields _=Data.cell v:=z;cases z'⟩
 keep:=fun i h h' st k=>k it (by simp) _ st;item:=by
  intro X hP hw hK hc i pins s O H E I hf st hg;subst hP hw hK;obtain ⟨f0,f1,f2,f3,f4,f5⟩:=hf it (by simp);have W:=Walks.range (prog:=X.prog) (w:=X.w) (I.ok.hd hc) it lo 1 n;refine W.item i s _ _ hg st fun v h' tk hv st' kk=>?_;obtain ⟨t,rfl⟩:=hv;have I1:Inv X pins O H {s with heap:=h',toks:=tk}:=I.turned (fun b o hb e=>kk b o (by simpa using hb) e) f0 f1 f3 f4 f5;refine ⟨_,rfl,zcS (s:={s with heap:=h',toks:=tk}) (n:="range_iterator") st' rfl rfl (by decide) ⟨.int (lo+i),H,I1,⟨t,?_⟩,⟨rfl,rfl⟩,st',fun b hb=>(hf b hb).1⟩⟩;rw [Int.mul_one]
 done:=by
  intro X hP hw hK hc i pins s O H E I hf st hg;subst hP hw hK;obtain ⟨f0,f1,f2,f3,f4,f5⟩:=hf it (by simp);exact wpAny_pyNext_range_end (I.ok.hd hc) st (by have:n<=i:=hg;omega) fun h' eb=>⟨rfl,I.turned (t':=s.toks) (fun b o hb e=>eb b o hb e) f0 f1 f3 f4 f5⟩
 self:=fun _ _ _ _ _ st h=>wpAny_pyIter_rangeiter st h
section
variable {X:Cx}{tg:Expr}
theorem z6E{pins:List (Addr×Obj)}{O:St}{H:Hp}{s:Shared}{R:It->Hp->Prop}{E:Value->Shared->Prop}{lo hi:Int}{t u v:Tok}{tk:Nat}(I:Inv X pins O H s)(h1:-(2 ^ 62)<=lo)(h2:lo<2 ^ 62)(h3:-(2 ^ 62)<=hi)(h4:hi<2 ^ 62) (q:R (Itr lo (hi-lo).toNat) H):wpAny (model X.prog X.w) X.A (pyIter (.ref s.heap.objs.size)) (PIE X pins O tg R) E {s with heap:=s.heap.push {cls:=.type "range",data:=.fields #[.int lo t,.int hi u,.int 1 v]},toks:=tk}:=by
 refine wpAny_pyIter_range (IsRange.new ..) (small_one h1 h2 h3 h4) ?_;have I1:Inv X pins O H {s with heap:=s.heap.push {cls:=.type "range",data:=.fields #[.int lo t,.int hi u,.int 1 v]},toks:=tk}:=I.kept fun b o e=>Heap.get?_push_of_some _ e;refine ⟨(s.heap.push {cls:=.type "range",data:=.fields #[.int lo t,.int hi u,.int 1 v]}).objs.size,[(s.heap.push {cls:=.type "range",data:=.fields #[.int lo t,.int hi u,.int 1 v]}).objs.size],_,_,H,rfl, I1.kept (t':=tk) fun b o e=>Heap.get?_push_of_some _ e,z81 _ lo (hi-lo).toNat,?_,fun b hb=>?_,q⟩
 ·have e1:lo+((0:Nat):Int)*1=lo:=by simp
  have e2:(((hi-lo).toNat:Nat):Int)-((0:Nat):Int)=Builtin.Range.rangeSize lo hi 1:=by rw [rangeSize_one];split<;>omega
  show IsRangeIter _ _ (lo+((0:Nat):Int)*1) ((((hi-lo).toNat:Nat):Int)-((0:Nat):Int)) 1;rw [e1,e2];exact Heap.get?_push_size _ rfl
 ·have e:b=(s.heap.push {cls:=.type "range",data:=.fields #[.int lo t,.int hi u,.int 1 v]}).objs.size:=by simpa using hb
  subst e;exact I1.fpOk (Nat.le_refl _) (I1.hok.fresh (Nat.le_refl _))
def zhi(ta:TA):TI:=fun O H R=>ta O H fun vs H1=>∃ j:Int,vs=[.int j]/\-(2 ^ 62)<=j/\j<2 ^ 62/\R (Itr 0 j.toNat) H1
def zhR(ta:TA):TI:=fun O H R=>ta O H fun vs H1=>∃ i j:Int,vs=[.int i,.int j]/\(-(2 ^ 62)<=i/\i<2 ^ 62/\-(2 ^ 62)<=j/\j<2 ^ 62)/\R (Itr i (j-i).toNat) H1
theorem zap{a:Expr}{ta:TA}{p pos:Pos}(hg:Gl X "range")(hm:X.mg "range"=none)(ha:PA X [a] ta)(hs:starEach [a] X.env=[(false,eval a X.env)]:=by rfl):PI X tg (.Call (.Name "range" p) [a] [] pos) (zhi ta):=by
 intro pins s O H R I h;refine Call_ (jX I hg hm boot_range (PyProof.Rows.callWith_type1 (thn (ha pos pins s O H _ I h) fun us s1 ⟨vs,H1,I1,r1,q1⟩=>?_) hs rfl));obtain ⟨j,e,q1,q2,q⟩:=q1;subst e;cases r1 with | cons r rr=>
  cases rr;obtain ⟨t,rfl⟩:=r;exact call_range_1 (z6E I1 (by omega) (by omega) q1 q2 (by simpa using q))
theorem z9f{a b:Expr}{ta:TA}{p pos:Pos}(hg:Gl X "range")(hm:X.mg "range"=none)(ha:PA X [a,b] ta)(hs:starEach [a,b] X.env=[(false,eval a X.env),(false,eval b X.env)]:=by rfl)(hs2:starEach [b] X.env=[(false,eval b X.env)]:=by rfl): PI X tg (.Call (.Name "range" p) [a,b] [] pos) (zhR ta):=by
 intro pins s O H R I h;refine Call_ (jX I hg hm boot_range (PyProof.Rows.callWith_type1 (thn (ha pos pins s O H _ I h) fun us s1 ⟨vs,H1,I1,r1,q1⟩=>?_) (by rw [hs,hs2]) (by rw [hs2];rfl)));obtain ⟨i,j,e,⟨q1,q2,q3,q4⟩,q⟩:=q1;subst e;cases r1 with | cons r rr=> cases rr with | cons r' rr=>
   cases rr;obtain ⟨t,rfl⟩:=r;obtain ⟨t',rfl⟩:=r';exact call_range_2 (z6E I1 q1 q2 q3 q4 q)
def zjK(wi:TI)(g:TG)(tb:TS):TS:=fun D O H=>wi O H fun J H1=>∃ W:Nat->Nat->St->Hp->Prop,(∃ m,W 0 m O H1)/\∀ i m O H,W i m O H-> (J.stop i H/\D.nx O H)\/(J.go i H/\∃ N:St->Hp->Prop,(∀ O' H',N O' H'->∃ m',m'<m/\W (i+1) m' O' H')/\∀ x H',J.yld i H x H'->g x O H' fun O2 H2=>tb {D with nx:=N,ct:=N,bk:=D.nx} O2 H2)
def z5d(fp:List Addr)(h:Heap):List (Addr×Obj):=fp.filterMap fun b=>(h.get? b).map fun o=>(b,o)
theorem kL{fp:List Addr}{h:Heap}{b:Addr}{o:Obj}(hb:b∈fp)(e:h.get? b=some o):(b,o)∈z5d fp h:=List.mem_filterMap.mpr ⟨b,hb,by rw [e];rfl⟩
theorem z9u{fp:List Addr}{h:Heap}{p:Addr×Obj}(hp:p∈z5d fp h):p.1∈fp/\h.get? p.1=some p.2:=by
 obtain ⟨b,hb,e⟩:=List.mem_filterMap.mp hp;cases q:h.get? b with
 | none=>rw [q] at e;cases e | some o=>
  rw [q] at e;have e':(b,o)=p:=Option.some.inj e;subst e';exact ⟨hb,q⟩
theorem Inv.pinned{pins:List (Addr×Obj)}{O:St}{H:Hp}{s:Shared}{fp:List Addr}(I:Inv X pins O H s)(hf:∀ b∈fp,z5A X pins H b)(ho:∀ b∈fp,∃ o,s.heap.get? b=some o/\∀ v,o.data≠.cell v):Inv X (pins++z5d fp s.heap) O H s:= I.pins_of fun p hp=>(List.mem_append.mp hp).elim (fun z=>I.pin p (List.mem_append_right _ z)) fun z=>by
  obtain ⟨hb,e⟩:=z9u z;obtain ⟨f0,f1,f2,_⟩:=hf p.1 hb;obtain ⟨o,e',d⟩:=ho p.1 hb;rw [e] at e';cases e';exact ⟨e,f0,f1,f2,d⟩
theorem Inv.unpinned{pins pl:List (Addr×Obj)}{O:St}{H:Hp}{s:Shared}(I:Inv X (pins++pl) O H s):Inv X pins O H s:=I.pins_of fun p hp=>I.pin p (List.mem_append_right _ (List.mem_append_left _ hp))
theorem zfQ{iter:Expr}{body:List Stmt}{wi:TI}{g:TG}{tb:TS}{pos:Pos}(hp:PassesOwn (model X.prog X.w) X.A X.env X.xe)(hc:X.calm=true)(hi:PI X tg iter wi)(hg:PG X tg g)(hb:PSs X body tb) (hs:∀ x,foldedSetIterable iter X.env x=pure x:=by intro _;rfl):PS X (.For tg iter body [] pos) (zjK wi g tb):=by
 intro pins s O H D I h;refine wpAny_For (thn (hi pins s O H _ I h) fun v s1 h1=>thn h1 fun itv s2 h2=>?_) hs;obtain ⟨it,fp,tn,J,H2,e,I2,T,st2,f2,W,⟨m0,w0⟩,turn⟩:=h2;subst e;have stat:∀ {H':Hp},(∀ b∈fp,H' b=none)->∀ b∈fp,z5A X pins H' b:=fun hn b hb=>⟨hn b hb,(f2 b hb).2⟩;refine codeAny_forLoop_any (fun n s'=>∃ i O' H',Inv X pins O' H' s'/\tn i s'.heap/\(∀ b∈fp,H' b=none)/\W i n O' H') ?_ m0 ⟨0,O,H2,I2,st2,fun b hb=>(f2 b hb).1,w0⟩;rintro n s3 ⟨i,O3,H3,I3,st3,fr3,w3⟩;rcases turn i n O3 H3 w3 with ⟨stop,qn⟩ | ⟨go,N,hN,step⟩
 ·refine wpAny_passesOwn hp (thn (T.done X rfl rfl rfl hc i pins s3 O3 H3 X.xe I3 (stat fr3) st3 stop) fun r s4 ⟨hr,I4⟩=>?_);subst hr;exact wpAny_execs_nil ⟨O3,H3,I4,qn⟩
 ·refine wpAny_passesOwn hp (thn (T.item X rfl rfl rfl hc i pins s3 O3 H3 X.xe I3 (stat fr3) st3 go) fun r s4 ⟨u,hr,h4⟩=>?_);subst hr;refine wpAny_passesOwn hp (thn h4 fun _ s5 ⟨x,H5,I5,r5,y5,st5,fr5⟩=>?_);have I5':=I5.pinned (stat fr5) (T.obj _ _ st5);refine wpAny_passesOwn hp (thn (hg _ s5 O3 H5 x u _ I5' r5 (step x H5 y5)) fun _ s6 ⟨O6,H6,I6,q6⟩=>?_);refine wpAny_passesOwn hp (thn (hb _ s6 O6 H6 _ I6 q6) fun f s7 q7=>?_);have again:∀ {O7:St}{H7:Hp},Inv X (pins++z5d fp s5.heap) O7 H7 s7->N O7 H7->∃ m,m<n/\∃ i O' H',Inv X pins O' H' s7/\tn i s7.heap/\(∀ b∈fp,H' b=none)/\W i m O' H':=fun {O7 H7} I7 n7=>by
   obtain ⟨m',hm,w7⟩:=hN O7 H7 n7;refine ⟨m',hm,i+1,O7,H7,I7.unpinned,T.keep _ _ _ st5 fun b hb o e=>(I7.pin (b,o) (List.mem_append_right _ (List.mem_append_right _ (kL hb e)))).1,fun b hb=>?_,w7⟩;obtain ⟨o,e,d⟩:=T.obj _ _ st5 b hb;exact (I7.pin (b,o) (List.mem_append_right _ (List.mem_append_right _ (kL hb e)))).2.1
  cases f with
  | next=>obtain ⟨O7,H7,I7,n7⟩:=q7;exact again I7 n7 | cont=>obtain ⟨O7,H7,I7,n7⟩:=q7;exact again I7 n7 | brk=>obtain ⟨O7,H7,I7,q7⟩:=q7;exact ⟨O7,H7,I7.unpinned,q7⟩ | ret v=>obtain ⟨x7,O7,H7,I7,r7,q7⟩:=q7;exact ⟨x7,O7,H7,I7.unpinned,r7,q7⟩
end
abbrev R2:=V->V->Hp->VK->Prop
def OpR(X:Cx)(f:Value->Value->Sem Value)(r:R2):Prop:= ∀ (pins:List (Addr×Obj))(s:Shared)(O:St)(H:Hp)(x y:V)(v u:Value)(Q:VK),Inv X pins O H s->xn x v->xn y u->r x y H Q-> wpAny (model X.prog X.w) X.A (f v u) (EP X pins O Q) X.xe s
def UnR(X:Cx)(f:Value->Sem Value)(r:V->Hp->VK->Prop):Prop:= ∀ (pins:List (Addr×Obj))(s:Shared)(O:St)(H:Hp)(x:V)(v:Value)(Q:VK),Inv X pins O H s->xn x v->r x H Q-> wpAny (model X.prog X.w) X.A (f v) (EP X pins O Q) X.xe s
def wl(X:Cx)(f:Value)(r:List V->Hp->VK->Prop):Prop:= ∀ (pins:List (Addr×Obj))(s:Shared)(O:St)(H:Hp)(xs:List V)(us:List Value)(Q:VK),Inv X pins O H s->xp xs us->r xs H Q-> wpAny (model X.prog X.w) X.A (call f us) (EP X pins O Q) X.xe s
def tOp(r:R2)(ta tb:TE):TE:=fun O H Q=>ta O H fun x H1=>tb O H1 fun y H2=>r x y H2 Q
def tUn(r:V->Hp->VK->Prop)(ta:TE):TE:=fun O H Q=>ta O H fun x H1=>r x H1 Q
def rI(C:Int->Int->Prop)(g:Int->Int->V):R2:=fun x y H Q=>∃ i j,x=.int i/\y=.int j/\C i j/\Q (g i j) H
def rI0(g:Int->Int->V):R2:=fun x y H Q=>∃ i j,x=.int i/\y=.int j/\Q (g i j) H
def rU(g:Int->V):V->Hp->VK->Prop:=fun x H Q=>∃ i,x=.int i/\Q (g i) H
section
variable {X:Cx}{a b c:Expr}{ta tb tc:TE}{pos:Pos}
theorem zio(ha:PE X a ta)(hb:PE X b tb){pins:List (Addr×Obj)}{s:Shared}{O:St}{H:Hp}{R:V->V->Hp->Prop}(I:Inv X pins O H s) (h:ta O H fun x H1=>tb O H1 fun y H2=>R x y H2){Q:Value->Shared->Prop}{f:Value->Value->Sem Value} (hf:∀ v u s2 x y H2,Inv X pins O H2 s2->xn x v->xn y u->R x y H2->wpAny (model X.prog X.w) X.A (f v u) Q X.xe s2): wpAny (model X.prog X.w) X.A (eval a X.env) (fun v s₁=>wpAny (model X.prog X.w) X.A (eval b X.env) (fun u s₂=>wpAny (model X.prog X.w) X.A (f v u) Q X.xe s₂) X.xe s₁) X.xe s:=by
 refine thn (ha pins s O H _ I h) fun v s1 ⟨x,H1,I1,r1,q1⟩=>?_;refine thn (hb pins s1 O H1 _ I1 q1) fun u s2 ⟨y,H2,I2,r2,q2⟩=>?_;exact hf v u s2 x y H2 I2 r1 r2 q2
theorem zh4{op:Operator}{r:R2}(ho:OpR X (binaryOp op) r)(ha:PE X a ta)(hb:PE X b tb):PE X (.BinOp a op b pos) (tOp r ta tb):=by
 intro pins s O H Q I h;exact wpAny_BinOp (zio ha hb I h fun v u s2 x y H2 I2 rx ry q=>ho pins s2 O H2 x y v u Q I2 rx ry q)
theorem zig{op:UnaryOp}{r:V->Hp->VK->Prop}(ho:UnR X (unaryOp op) r)(ha:PE X a ta):PE X (.UnaryOp op a pos) (tUn r ta):=by
 intro pins s O H Q I h;exact UnaryOp_ (thn (ha pins s O H _ I h) fun v s1 ⟨x,H1,I1,r1,q1⟩=>ho pins s1 O H1 x v Q I1 r1 q1)
theorem opI {f:Value->Value->Sem Value} {C:Int->Int->Prop} {g:Int->Int->Int} (rule:∀ (i j:Int) (t u:Tok) (s:Shared) (Q:Value->Shared->Prop) (E:Value->Shared->Prop),C i j->Q (.int (g i j) s.toks) {s with toks:=s.toks+1}->wpAny (model X.prog X.w) X.A (f (.int i t) (.int j u)) Q E s): OpR X f (rI C fun i j=>.int (g i j)):=by
 intro pins s O H x y v u Q I rx ry h;obtain ⟨i,j,rfl,rfl,hc,q⟩:=h;obtain ⟨t,rfl⟩:=rx;obtain ⟨t',rfl⟩:=ry;exact rule i j t t' s _ _ hc ⟨.int (g i j),H,I.tok _,⟨_,rfl⟩,q⟩
theorem ziT {f:Value->Value->Sem Value} {g:Int->Int->Int} (rule:∀ (i j:Int) (t u:Tok) (s:Shared) (Q:Value->Shared->Prop) (E:Value->Shared->Prop),Q (.int (g i j) s.toks) {s with toks:=s.toks+1}->wpAny (model X.prog X.w) X.A (f (.int i t) (.int j u)) Q E s): OpR X f (rI0 fun i j=>.int (g i j)):=by
 intro pins s O H x y v u Q I rx ry h;obtain ⟨i,j,rfl,rfl,q⟩:=h;obtain ⟨t,rfl⟩:=rx;obtain ⟨t',rfl⟩:=ry;exact rule i j t t' s _ _ ⟨.int (g i j),H,I.tok _,⟨_,rfl⟩,q⟩
theorem zh1{f:Value->Value->Sem Value}{g:Int->Int->Bool} (rule:∀ (i j:Int)(t u:Tok)(s:Shared)(Q:Value->Shared->Prop)(E:Value->Shared->Prop),Q (.bool (g i j)) s->wpAny (model X.prog X.w) X.A (f (.int i t) (.int j u)) Q E s): OpR X f (rI0 fun i j=>.bl (g i j)):=by
 intro pins s O H x y v u Q I rx ry h;obtain ⟨i,j,rfl,rfl,q⟩:=h;obtain ⟨t,rfl⟩:=rx;obtain ⟨t',rfl⟩:=ry;exact rule i j t t' s _ _ ⟨.bl (g i j),H,I,rfl,q⟩
def zjl(i j:Int):Prop:=0<=j/\j<=1000000/\i.natAbs<2 ^ 64
theorem zfP:OpR X (binaryOp .Add) (rI0 fun i j=>.int (i+j)):=ziT fun _ _ _ _ _ _ _ q=>add_int q
theorem zeT:OpR X (binaryOp .Sub) (rI0 fun i j=>.int (i-j)):=ziT fun _ _ _ _ _ _ _ q=>sub_int q
theorem zf6:OpR X (binaryOp .Mod) (rI (fun _ j=>0<j) fun i j=>.int (i % j)):=opI fun i j _ _ _ _ _ hc q=>by
 have h1:(0:Int)<j:=hc;exact mod_int' (by omega) (by rw [Int.fmod_eq_emod_of_nonneg i (by omega)];exact q)
theorem zgn:OpR X (binaryOp .Pow) (rI zjl fun i j=>.int (i ^ j.toNat)):=opI fun _ _ _ _ _ _ _ hc q=>pow_int_small hc.1 hc.2.1 hc.2.2 q
theorem unI {f:Value->Sem Value} {g:Int->Int} (rule:∀ (i:Int) (t:Tok) (s:Shared) (Q:Value->Shared->Prop) (E:Value->Shared->Prop),Q (.int (g i) s.toks) {s with toks:=s.toks+1}->wpAny (model X.prog X.w) X.A (f (.int i t)) Q E s): UnR X f (rU fun i=>.int (g i)):=by
 intro pins s O H x v Q I rx h;obtain ⟨i,rfl,q⟩:=h;obtain ⟨t,rfl⟩:=rx;exact rule i t s _ _ ⟨.int (g i),H,I.tok _,⟨_,rfl⟩,q⟩
theorem zft:UnR X (unaryOp .USub) (rU fun i=>.int (-i)):=unI fun _ _ _ _ _ q=>neg_int q
end
section
variable {X:Cx}{a b c:Expr}{ta tb tc:TE}{pos:Pos}
theorem zih:OpR X (compareOp .Lt) (rI0 fun i j=>.bl (decide (i<j))):=zh1 fun _ _ _ _ _ _ _ q=>lt_int q
theorem zh6:OpR X (compareOp .LtE) (rI0 fun i j=>.bl (decide (i<=j))):=zh1 fun _ _ _ _ _ _ _ q=>le_int q
theorem zhM:OpR X (compareOp .Gt) (rI0 fun i j=>.bl (decide (j<i))):=zh1 fun _ _ _ _ _ _ _ q=>gt_int q
theorem zhW:OpR X (compareOp .GtE) (rI0 fun i j=>.bl (decide (j<=i))):=zh1 fun _ _ _ _ _ _ _ q=>ge_int q
theorem OpR.or{f:Value->Value->Sem Value}{r r':R2}(h:OpR X f r)(h':OpR X f r'):OpR X f (fun x y H Q=>r x y H Q\/r' x y H Q):=by
 intro pins s O H x y v u Q I rx ry q;rcases q with q | q;·exact h pins s O H x y v u Q I rx ry q
 ·exact h' pins s O H x y v u Q I rx ry q
theorem zcv(b:Expr){op:CmpOp}(h:op≠.In:=by decide)(h2:op≠.NotIn:=by decide):behindInMarks op b=false:=by
 have e1:(op==CmpOp.In)=false:=by cases op<;>first | rfl | exact absurd rfl h
 have e2:(op==CmpOp.NotIn)=false:=by cases op<;>first | rfl | exact absurd rfl h2
 cases b<;>simp [behindInMarks,e1,e2]
theorem za4{op:CmpOp}{r:R2}(ho:OpR X (compareOp op) r)(ha:PE X a ta)(hb:PE X b tb)(hm:behindInMarks op b=false):PE X (.Compare a [op] [b] pos) (tOp r ta tb):=by
 intro pins s O H Q I h;exact wpAny_Compare1 (zio ha hb I h fun v u s2 x y H2 I2 rx ry q=>ho pins s2 O H2 x y v u Q I2 rx ry q) hm
def zdz(t:TE):TT:=fun O H Q=>t O H fun x H'=>∃ k,x=.bl k/\Q k H'
theorem zdi{op:CmpOp}{r:R2}(ho:OpR X (compareOp op) r)(ha:PE X a ta)(hb:PE X b tb)(hm:behindInMarks op b=false):PT X (.Compare a [op] [b] pos) (zdz (tOp r ta tb)):=by
 intro pins s O H Q I h;refine wpAny_isTrue_Compare1 (thn (ha pins s O H _ I h) fun v s1 ⟨x,H1,I1,r1,q1⟩=>thn (hb pins s1 O H1 _ I1 q1) fun u s2 ⟨y,H2,I2,r2,q2⟩=> thn (ho pins s2 O H2 x y v u _ I2 r1 r2 q2) fun c s3 ⟨z,H3,I3,r3,k,e,q3⟩=>?_) hm;subst e;cases r3;exact wpAny_truthy_bool ⟨H3,I3,q3⟩
def z8W(r r':R2)(ta tb tc:TE):TE:=fun O H Q=>ta O H fun x H1=>tb O H1 fun y H2=>r x y H2 fun z H3=>∃ k,z=.bl k/\ (if k=true then tc O H3 fun w' H4=>r' y w' H4 Q else Q (.bl false) H3)
theorem zbp{op op':CmpOp}{r r':R2}(ho:OpR X (compareOp op) r)(ho':OpR X (compareOp op') r')(ha:PE X a ta)(hb:PE X b tb)(hc:PE X c tc) (hm:lastMarks [op,op'] [b,c]=false:=by with_unfolding_all rfl):PE X (.Compare a [op,op'] [b,c] pos) (z8W r r' ta tb tc):=by
 intro pins s O H Q I h;refine Compare_chain (thn (ha pins s O H _ I h) fun v s1 ⟨x,H1,I1,r1,q1⟩=>chain_link (thn (hb pins s1 O H1 _ I1 q1) fun u s2 ⟨y,H2,I2,r2,q2⟩=> thn (ho pins s2 O H2 x y v u _ I2 r1 r2 q2) fun d s3 ⟨z,H3,I3,r3,k,e,q3⟩=>?_)) hm;subst e;cases r3;refine wpAny_truthy_bool ?_;cases k with
 | false=>exact ite_ff ⟨.bl false,H3,I3,rfl,q3⟩ | true=>exact ite_tt (chain_last (thn (hc pins s3 O H3 _ I3 q3) fun w' s4 ⟨z',H4,I4,r4,q4⟩=>ho' pins s4 O H4 y z' u w' Q I4 r2 r4 q4))
theorem zbx{op op':CmpOp}{r r':R2}(ho:OpR X (compareOp op) r)(ho':OpR X (compareOp op') r')(ha:PE X a ta)(hb:PE X b tb)(hc:PE X c tc) (hm:lastMarks [op,op'] [b,c]=false:=by with_unfolding_all rfl):PT X (.Compare a [op,op'] [b,c] pos) (zdz (z8W r r' ta tb tc)):=by
 intro pins s O H Q I h;refine isTrue_chain (thn (ha pins s O H _ I h) fun v s1 ⟨x,H1,I1,r1,q1⟩=>test_link (thn (hb pins s1 O H1 _ I1 q1) fun u s2 ⟨y,H2,I2,r2,q2⟩=> thn (ho pins s2 O H2 x y v u _ I2 r1 r2 q2) fun d s3 ⟨z,H3,I3,r3,k,e,q3⟩=>?_)) hm;subst e;cases r3;refine wpAny_truthy_bool ?_;cases k with
 | false=>
  obtain ⟨k',e',q'⟩:=q3;cases e';exact ite_ff ⟨H3,I3,q'⟩ | true=>
  refine ite_tt (test_last (thn (hc pins s3 O H3 _ I3 q3) fun w' s4 ⟨z',H4,I4,r4,q4⟩=>thn (ho' pins s4 O H4 y z' u w' _ I4 r2 r4 q4) fun d' s5 ⟨z2,H5,I5,r5,k2,e2,q5⟩=>?_));subst e2;cases r5;exact wpAny_truthy_bool ⟨H5,I5,q5⟩
theorem z70:(sizeLine:Nat)<2 ^ 63:=by rw [sizeLine_eq];decide
theorem vals1{x:V}{us:List Value}(r:xp [x] us):∃ u,us=[u]/\xn x u:=by cases r with | cons r1 r2=>cases r2;exact ⟨_,rfl,r1⟩
theorem vals2{x y:V}{us:List Value}(r:xp [x,y] us):∃ u w',us=[u,w']/\xn x u/\xn y w':=by cases r with | cons r1 r2=> cases r2 with | cons r3 r4=>cases r4;exact ⟨_,_,rfl,r1,r3⟩
theorem zaZ:wl X (.builtin "abs") (fun xs H Q=>∃ i,xs=[.int i]/\Q (.int (if i<0 then -i else i)) H):=by
 intro pins s O H xs us Q I r h;obtain ⟨i,rfl,q⟩:=h;obtain ⟨u,rfl,t,rfl⟩:=vals1 r;exact call_abs_int fun u tk=>⟨.int (if i<0 then -i else i),H,I.tok _,⟨_,rfl⟩,q⟩
theorem z9I(hc:X.calm=true):wl X (.builtin "max") (fun xs H Q=>∃ i j,xs=[.int i,.int j]/\Q (.int (if j > i then j else i)) H):=by
 intro pins s O H xs us Q I r h;obtain ⟨i,j,rfl,q⟩:=h;obtain ⟨u,w',rfl,⟨t,rfl⟩,⟨t',rfl⟩⟩:=vals2 r;refine max_two_ints (I.ok.hd hc) fun h' tk k=>⟨_,H,I.kept k,?_,q⟩;by_cases hj:j > i;·rw [if_pos hj,if_pos hj];exact ⟨_,rfl⟩
 ·rw [if_neg hj,if_neg hj];exact ⟨_,rfl⟩
theorem z8J(hc:X.calm=true):wl X (.builtin "min") (fun xs H Q=>∃ i j,xs=[.int i,.int j]/\Q (.int (if j<i then j else i)) H):=by
 intro pins s O H xs us Q I r h;obtain ⟨i,j,rfl,q⟩:=h;obtain ⟨u,w',rfl,⟨t,rfl⟩,⟨t',rfl⟩⟩:=vals2 r;refine min_two_ints (I.ok.hd hc) fun h' tk k=>⟨_,H,I.kept k,?_,q⟩;by_cases hj:j<i;·rw [if_pos hj,if_pos hj];exact ⟨_,rfl⟩
 ·rw [if_neg hj,if_neg hj];exact ⟨_,rfl⟩
end
structure zix(h:Heap)(x dx C:Addr)(mA:Str->Option Value):Prop where
 obj:h.get? x=some (W.instObj C dx)
 ns:h.Ns1 dx mA
 ne:dx≠x
theorem za0{h:Heap}{dx:Addr}{mA:Str->Option Value}(n:h.Ns1 dx mA):∃ od,h.get? dx=some od/\∀ name,W.lookIn name od=some (mA name):=by
 obtain ⟨o,es,ep,ho,hd,hk,_,hm⟩:=n;refine ⟨o,ho,fun name=>?_⟩;have e:=hm name;unfold nsFind findBy at e;rw [<- Array.find?_toList] at e;unfold W.lookIn;rw [hd];dsimp only;split
 ·rename_i y q;rw [q] at e;exact congrArg some e
 ·rename_i q;rw [q] at e;have a:es.toList.any (·.refKey)=false:=by
   rw [List.any_eq_false];intro y hy;obtain ⟨z,t,hkey⟩:=hk y (Array.mem_toList_iff.mp hy);simp [DictEntry.refKey,hkey]
  have a':¬ es.toList.any (·.refKey)=true:=by rw [a];exact Bool.false_ne_true
  rw [if_neg a'];exact congrArg some e
theorem zix.look{h:Heap}{x dx C:Addr}{mA:Str->Option Value}(I:zix h x dx C mA):∃ od,W.InstAt h x (W.instObj C dx) C (some od)/\∀ name,W.lookIn name od=some (mA name):= let ⟨od,ho,hl⟩:=za0 I.ns;⟨od,⟨I.obj,rfl,rfl,ho⟩,hl⟩
section
variable {P:Program}{w:World}{H H':Hp}{h h':Heap}{a C dx:Addr}{fs fs':List (Str×V)}
theorem zdH(hok:HOk P w H h)(e:H a=some (.ins C dx fs)):∃ mA,zix h a dx C mA/\(∀ f,zeH (fs.lookup f) (mA f))/\PySem.Within mA (fs.map (·.1))/\fs.length<=1000/\H dx=some (.own a):=by
 obtain ⟨d,z,ne,ob,mA,n,r,q⟩:=(show xP P w H h a (.ins C dx fs) from hok a _ e);exact ⟨mA,⟨ob,n,ne⟩,r,q,z,d⟩
end
structure Cls(K:W.Frag)(C:Addr):Prop where
 pg:W.plainGet K C Str.empty=true
 hd:W.hasDictIn K C=true
 po:W.plainOver K C=true
 sa:W.findIn K (.ref C) "__setattr__"=some (some (.builtin "object.__setattr__"))
theorem Cls.get{K:W.Frag}{C:Addr}(c:Cls K C)(f:Str):W.plainGet K C f=true:=c.pg
section
variable {X:Cx}{pins:List (Addr×Obj)}{O:St}{H:Hp}{s:Shared}{A:Around}{E:Value->Shared->Prop}{Q:Value->Shared->Prop}{c:Value}{b:Bool}
inductive z7I(K:W.Frag)(H:Hp):V->Value->Prop where | non:z7I K H .non (.type "NoneType") | bl (x:Bool):z7I K H (.bl x) (.type "bool") | int (i:Int):z7I K H (.int i) (.type "int") | str (x:Str):z7I K H (.str x) (.type "str") | flt (x:UInt64):z7I K H (.flt x) (.type "float") | lst {a:Addr}{xs:List V}(e:H a=some (.lst xs)):z7I K H (.ref a) (.type "list") | frz {a:Addr}{o:Obj}{xs:List V}(e:H a=some (.frz o (.lst xs))):z7I K H (.ref a) (.type "list") | tup {a:Addr}{xs:List V}(e:H a=some (.tup xs)):z7I K H (.ref a) (.type "tuple") | dK {a:Addr}{kvs:List (Key×V)}(e:H a=some (.dK kvs)):z7I K H (.ref a) (.type "dict") | dT {a:Addr}{kvs:List (List Key×V)}(e:H a=some (.dT kvs)):z7I K H (.ref a) (.type "dict") | ins {a C dx:Addr}{fs:List (Str×V)}(e:H a=some (.ins C dx fs))(cl:Cls K C)(ha:W.findIn K (.ref C) "__class__"=some (some (.builtin "object.__class__"))) (hn:W.specialIn K (.builtin "object.__class__") "__get__"=some (some (.builtin "getset_descriptor.__get__")))(htk:W.takesIn K (.builtin "object.__class__")=some true) (hm:W.mroIn K C (.type "object")=some true):z7I K H (.ref a) (.ref C)
theorem z9j {x:V} {u t:Value} (I:Inv X pins O H s) (rx:xn x u) (ty:z7I X.K H x t) (e:W.kitOne X.K t c=some b) (h:∀ tk,Q (.bool b) {s with toks:=tk}): wpAny (model X.prog X.w) A (call (.builtin "isinstance") [u,c]) Q E s:=by cases ty with
 | non=>cases (show u=Value.none from rx);exact W.kia_one W.kitx_none I.kIn True.intro e (fun z=>nomatch z) h | bl y=>cases (show u=Value.bool y from rx);exact W.kia_one W.kitx_bool I.kIn True.intro e (fun z=>nomatch z) h | int i=>obtain ⟨t,q⟩:=(show ∃ t,u=Value.int i t from rx);cases q;exact W.kia_one W.kitx_int I.kIn True.intro e (fun z=>nomatch z) h | str y=>obtain ⟨t,q⟩:=(show ∃ t,u=Value.str y t from rx);cases q;exact W.kia_one W.kitx_str I.kIn True.intro e (fun z=>nomatch z) h | flt y=>obtain ⟨t,q⟩:=(show ∃ t,u=Value.float y t from rx);cases q;exact W.kia_one W.kitx_float I.kIn True.intro e (fun z=>nomatch z) h | @lst a xs ea=>
  cases (show u=Value.ref a from rx);obtain ⟨_,_,n,_,h1⟩:=(show xP X.prog X.w H s.heap a (.lst xs) from I.hok a _ ea);exact W.kia_one W.kitx_list I.kIn ⟨_,h1,rfl⟩ e (fun z=>nomatch z) h | @frz a ob xs ea=>
  cases (show u=Value.ref a from rx);obtain ⟨_,_,_,n,_,h1⟩:=(show xP X.prog X.w H s.heap a (.frz ob (.lst xs)) from I.hok a _ ea);exact W.kia_one W.kitx_list I.kIn ⟨_,h1,rfl⟩ e (fun z=>nomatch z) h | @tup a xs ea=>
  cases (show u=Value.ref a from rx);obtain ⟨_,_,_,p⟩:=(show xP X.prog X.w H s.heap a (.tup xs) from I.hok a _ ea);obtain ⟨o,h1,h2,_⟩:=p;exact W.kia_one W.kitx_tuple I.kIn ⟨o,h1,h2⟩ e (fun z=>nomatch z) h | @dK a kvs ea=>
  cases (show u=Value.ref a from rx);obtain ⟨_,_,vs,_,p⟩:=(show xP X.prog X.w H s.heap a (.dK kvs) from I.hok a _ ea);obtain ⟨o,es,ep,h1,h2,_⟩:=p;exact W.kia_one W.kitx_dict I.kIn ⟨o,h1,h2.1⟩ e (fun z=>nomatch z) h | @dT a kvs ea=>
  cases (show u=Value.ref a from rx);obtain ⟨_,_,xs,_,o,es,ep,h1,h2,_⟩:=(show xP X.prog X.w H s.heap a (.dT kvs) from I.hok a _ ea);exact W.kia_one W.kitx_dict I.kIn ⟨o,h1,h2.1⟩ e (fun z=>nomatch z) h | @ins a C dx fs ea cl ha hn htk hm=>
  cases (show u=Value.ref a from rx);obtain ⟨mA,Oo,_⟩:=zdH I.hok ea;obtain ⟨od,J,_⟩:=Oo.look;exact W.kia_one (W.kitx_own (cl.get _) cl.hd ha hn htk hm) I.kIn J e (fun z=>nomatch z) h
end
structure z0B(k:Nat)(A:Around):Prop where
 hd:A.handled=none
 dp:A.depth+3*k+5<recursionLimit
 un:A.units+16*k+200<cLine
 gd:A.guards=some []
theorem z0B.mono{j k:Nat}{A:Around}(r:z0B k A)(h:j<=k):z0B j A:=⟨r.hd,by have:=r.dp;omega,by have:=r.un;omega,r.gd⟩
theorem z0B.deeper{k:Nat}{A:Around}(r:z0B (k+1) A)(env:Env):z0B k (A.deeper env):= ⟨r.hd,by have:=r.dp;show A.depth+1+3*k+5<_;omega,by have:=r.un;show A.units+3+16*k+200<_;omega,r.gd⟩
theorem z0B.depth{k:Nat}{A:Around}(r:z0B k A):A.depth<recursionLimit:=by have:=r.dp;omega
theorem z0B.units{k:Nat}{A:Around}(r:z0B k A):A.units+64<cLine:=by have:=r.un;omega
def ziN:TA:=fun _ H Q=>Q [] H
def zhI(ta:TE)(tr:TA):TA:=fun O H Q=>ta O H fun x H1=>tr O H1 fun xs H2=>Q (x::xs) H2
section
variable {X:Cx}{e:Expr}{es:List Expr}{te:TE}{t:TA}{pos:Pos}
theorem z76:PA X [] ziN:=fun _ _ _ _ H Q I h=>Calls.spliced_nil ⟨[],H,I,.nil,h⟩
theorem z1u(ha:PE X e te)(hr:PA X es t)(hs:starEach (e::es) X.env=(false,eval e X.env)::starEach es X.env:=by rfl):PA X (e::es) (zhI te t):=by
 intro pos pins s O H Q I h;rw [hs];show wpAny _ _ (spliced ((false,eval e X.env)::backTo pos (starEach es X.env))) _ _ s;refine Calls.spliced_cons (thn (ha pins s O H _ I h) fun u s1 ⟨x,H1,I1,r1,q1⟩=>?_);exact thn (hr pos pins s1 O H1 _ I1 q1) fun us s2 ⟨xs,H2,I2,r2,q2⟩=>⟨x::xs,H2,I2,.cons r1 r2,q2⟩
def zju(t:TA):TE:=fun O H Q=>t O H fun xs H1=>xs.length<=sizeLine/\∀ p,H1 p=none->Q (.ref p) (upd H1 p (.tup xs))
def zjf(t:TA):TE:=fun O H Q=>t O H fun xs H1=>xs.length<=sizeLine/\∀ p,H1 p=none->Q (.ref p) (upd H1 p (.lst xs))
theorem zfb{x1}(h:PA X es t):PE X (.Tuple es x1 pos) (zju t):=by
 intro pins s O H Q I hq;refine wpAny_Tuple_spliced (thn (h pos pins s O H _ I hq) fun us s1 ⟨xs,H1,I1,r,z,q⟩=>⟨by rw [<- r.length];exact z,?_⟩);have hf:H1 s1.heap.objs.size=none:=I1.hok.fresh (Nat.le_refl _);refine ⟨.ref s1.heap.objs.size,upd H1 s1.heap.objs.size (.tup xs),I1.laid (t':=s1.toks) (fun b u e=>Heap.get?_push_of_some _ e) (Nat.le_refl _) ?_,rfl,q _ hf⟩;exact ⟨z,us,r,⟨_,Heap.get?_push_size _ rfl,rfl,rfl,_,rfl⟩⟩
theorem zcw(h:PA X es t):PE X (.List es pos) (zjf t):=by
 intro pins s O H Q I hq;refine wpAny_List_spliced (thn (h pos pins s O H _ I hq) fun us s1 ⟨xs,H1,I1,r,z,q⟩=>⟨by rw [<- r.length];exact z,?_⟩);have hf:H1 s1.heap.objs.size=none:=I1.hok.fresh (Nat.le_refl _);refine ⟨.ref s1.heap.objs.size,upd H1 s1.heap.objs.size (.lst xs),I1.laid (t':=s1.toks) (fun b u e=>Heap.get?_push_of_some _ e) (Nat.le_refl _) ?_,rfl,q _ hf⟩;exact ⟨z,us,0,r,Heap.get?_push_size _ rfl⟩
end
abbrev Sp:=List V->Hp->VK->XK->Prop
abbrev CXT:=List Env->Hp->Shared->XK->Value->Shared->Prop
structure zgS(P:Program)(w:World)(K:W.Frag)(mg:Str->Option Value)(base:Heap)(A:Around)(outer:List Env)(s:Shared)(H:Hp):Prop where
 frames:A.frames=some outer
 mod:Mod K mg base
 bs:∀ b o,base.get? b=some o->s.heap.get? b=some o/\H b=none
 bsz:base.objs.size<=s.heap.objs.size
 funs:s.heap.FunFrames base outer
 frf:∀ b∈frs outer,H b=none
 hok:HOk P w H s.heap
 bare:AllBare s.gens
def CE(outer:List Env)(P:Program)(w:World)(H:Hp)(s:Shared)(Q:VK)(u:Value)(s':Shared):Prop:= ∃ v H',s'.os=s.os/\AllBare s'.gens/\Un (frs outer) [] H H' s.heap s'.heap/\HOk P w H' s'.heap/\xn v u/\Q v H'
def CR(CX:CXT)(outer:List Env)(P:Program)(w:World)(H:Hp)(s:Shared)(Q:VK)(E:XK)(r:Result)(s':Shared):Prop:= match r with
 | .ok (.ret u)=>CE outer P w H s Q u s' | .ok _=>False | .error e=>CX outer H s E e s'
structure z2I(P:Program)(w:World)(K:W.Frag)(mg:Str->Option Value)(base:Heap)(CX:CXT)(k:Nat)(f:Addr)(fd:FuncData)(ps:List Str)(sp:Sp):Prop where
 len:∀ vs H Q E,sp vs H Q E->vs.length=ps.length
 run:∀ (A:Around)(outer:List Env)(s:Shared)(H:Hp)(args:Args)(us:List Value)(vs:List V)(Q:VK)(E:XK),z0B k A->zgS P w K mg base A outer s H->BindsTo s fd args (ps.zip us)->xp vs us->sp vs H Q E-> codeAny (model P w) A (.call (.ref f) args) (CR CX outer P w H s Q E) s
theorem z2I.mono{P:Program}{w:World}{K:W.Frag}{mg:Str->Option Value}{base:Heap}{CX:CXT}{j k:Nat}{f:Addr}{fd:FuncData}{ps:List Str}{sp:Sp}(F:z2I P w K mg base CX j f fd ps sp)(h:j<=k): z2I P w K mg base CX k f fd ps sp:=⟨F.len,fun A outer s H args us vs Q E hr=>F.run A outer s H args us vs Q E (hr.mono h)⟩
theorem z2I.imp{P:Program}{w:World}{K:W.Frag}{mg:Str->Option Value}{base:Heap}{CX:CXT}{k:Nat}{f:Addr}{fd:FuncData}{ps:List Str}{sp sp':Sp}(F:z2I P w K mg base CX k f fd ps sp) (h:∀ vs H Q E,sp' vs H Q E->sp vs H Q E):z2I P w K mg base CX k f fd ps sp':= ⟨fun vs H Q E q=>F.len vs H Q E (h _ _ _ _ q),fun A outer s H args us vs Q E hr he hb hv hs=>F.run A outer s H args us vs Q E hr he hb hv (h _ _ _ _ hs)⟩
section
variable {X:Cx}{pins:List (Addr×Obj)}{O:St}{H:Hp}{s s':Shared}
theorem Inv.env0(I:Inv X pins O H s):zgS X.prog X.w X.K X.mg X.base X.A X.stack s H:= ⟨I.ok.frames,I.ok.mod,I.bs,Nat.le_trans I.ok.bsz I.sz,I.stack,I.stkFree,I.hok,I.bare⟩
theorem Inv.after {Q:VK} {u:Value} (I:Inv X pins O H s) (h:CE X.stack X.prog X.w H s Q u s'):EP X pins O Q u s':=by
 obtain ⟨v,H',os,bare,un,hok,r,q⟩:=h;obtain ⟨hh,g,d,t,os'⟩:=s';obtain rfl:os'=s.os:=os;exact ⟨v,H',I.call (h':=hh) (g':=g) (d':=d) (t':=t) (ch:=[]) un hok bare (fun b z=>absurd z (by simp)),r,q⟩
end
def zfg(sp:Sp)(dvs:List V)(E:XK)(t:TA):TE:=fun O H Q=>t O H fun vs H1=>sp (vs++dvs) H1 Q E
def Binds(K:W.Frag)(fd:FuncData)(ps:List Str)(ds:List Value):Prop:= ∀ (s:Shared)(us:List Value),K.In s.heap->(us++ds).length=ps.length->BindsTo s fd ⟨us,[]⟩ (ps.zip (us++ds))
theorem Binds.all{K:W.Frag}{fd:FuncData}{ps:List Str}(h:∀ us:List Value,us.length=ps.length->bindArgs fd ⟨us,[]⟩=pure (ps.zip us)):Binds K fd ps []:=fun s us _ hl=>by
 rw [List.append_nil] at hl ⊢;exact .of_eq (h us hl)
def Passes(CX:CXT)(X:Cx)(E:XK):Prop:=∀ (pins:List (Addr×Obj))(O:St)(H:Hp)(s:Shared)(e:Value)(s':Shared),Inv X pins O H s->CX X.stack H s E e s'->X.xe e s'
section
variable {X:Cx}{CX:CXT}{k:Nat}{f C:Addr}{fd:FuncData}{ps:List Str}{sp:Sp}{dvs:List V}{ds:List Value}{E:XK}{x m:Str}{p pos apos:Pos}{e o:Expr}{es:List Expr}{ta:TE}{t:TA}
theorem zav{pins:List (Addr×Obj)}{O:St}{H:Hp}{s:Shared}{Q:VK}{us:List Value}{vs:List V}(F:z2I X.prog X.w X.K X.mg X.base CX k f fd ps sp)(hr:z0B k X.A)(hb:Binds X.K fd ps ds)(hd:xp dvs ds)(hx:Passes CX X E) (I:Inv X pins O H s)(r:xp vs us)(h:sp (vs++dvs) H Q E):wpAny (model X.prog X.w) X.A (call (.ref f) us) (EP X pins O Q) X.xe s:=by
 have r2:xp (vs++dvs) (us++ds):=r.append hd;have hl:(us++ds).length=ps.length:=by rw [<- r2.length];exact F.len _ _ _ _ h
 refine wpAny_call (codeAny_mono (F.run X.A X.stack s H ⟨us,[]⟩ (us++ds) (vs++dvs) Q E hr I.env0 (hb s us I.kIn hl) r2 h) fun r s' hq=>?_);cases r with
 | error e=>exact hx pins O H s e s' I hq | ok fl=> cases fl with
  | ret u=>exact I.after hq | next=>exact False.elim hq | brk=>exact False.elim hq | cont=>exact False.elim hq
theorem zdb (F:z2I X.prog X.w X.K X.mg X.base CX k f fd ps sp) (hr:z0B k X.A) (hg:Gl X x) (hm:X.mg x=some (.ref f)) (hk:W.keepIn X.K (.ref f)=true) (hb:Binds X.K fd ps ds) (hd:xp dvs ds) (hx:Passes CX X E) (ha:PA X (e::es) t) (hdb:(x==("__debug__":Str))=false:=by decide) (he:starEach (e::es) X.env=(false,eval e X.env)::starEach es X.env:=by rfl) (hpl:(backTo pos (starEach es X.env)).any (·.1)=false:=by rfl): PE X (.Call (.Name x p) (e::es) [] pos) (zfg sp dvs E t):=by
 intro pins s O H Q I h;refine wpAny_Call_Name_kw (z6w I hg hm ?_ hdb);refine W.callWith_K (h₀:=X.base) I.ok.mod.kin hk (thn (ha pos pins s O H _ I h) fun us s1 ⟨vs,H1,I1,r,q⟩=>⟨I1.kIn,?_⟩) he hpl;exact zav F hr hb hd hx I1 r q
theorem zaC(F:z2I X.prog X.w X.K X.mg X.base CX k f fd ps sp)(hr:z0B k X.A)(hg:Gl X x)(hm:X.mg x=some (.ref f))(hk:W.keepIn X.K (.ref f)=true)(hb:Binds X.K fd ps ds)(hd:xp dvs ds)(hx:Passes CX X E) (hdb:(x==("__debug__":Str))=false:=by decide):PE X (.Call (.Name x p) [] [] pos) (zfg sp dvs E ziN):=by
 intro pins s O H Q I h;refine wpAny_Call_Name_kw (z6w I hg hm ?_ hdb);exact W.callWith_K0 I.kIn hk (zav (us:=[]) F hr hb hd hx I .nil h)
end
structure zr(N P:List Str)(sc:Scope):Prop where
 kind:sc.kind=.function
 co:sc.isCoroutine=false
 gen:sc.isGenerator=false
 nd:N.Nodup
 pre:N.take P.length=P
 par:∀ x∈P,sc.names.lookup x=some .local\/sc.names.lookup x=some .cell
 nofree:∀ y∈sc.names,y.2≠.free
theorem z4P{kindOf:Str->Option NameKind}{x:Str}:∀ {binds:List (Str×Value)}{m:Str->Option Value},(∀ v,(x,v)∉binds)->bindL kindOf binds m x=m x
 | [],_,_=>rfl | (n,v)::r,m,h=>by
  unfold bindL;rw [z4P fun w hw=>h w (List.mem_cons_of_mem _ hw)];split
  ·have:x≠n:=by rintro rfl;exact h v List.mem_cons_self
   simp [this]
  ·rfl
theorem z5s{kindOf:Str->Option NameKind}{x:Str}:∀ {binds:List (Str×Value)}{m:Str->Option Value},(∀ v,(x,v)∉binds)->bindC kindOf binds m x=m x
 | [],_,_=>rfl | (n,v)::r,m,h=>by
  unfold bindC;rw [z5s fun w hw=>h w (List.mem_cons_of_mem _ hw)];split;·rfl
  ·have:x≠n:=by rintro rfl;exact h v List.mem_cons_self
   simp [this]
theorem z4v{kindOf:Str->Option NameKind}{x:Str}{v:Value}:∀ {P:List Str}{vs:List Value}{i:Nat}{m:Str->Option Value},P.Nodup->P[i]? = some x->vs[i]? = some v->kindOf x=some .local-> bindL kindOf (P.zip vs) m x=some v
 | [],_,_,_,_,h,_,_=>by simp at h | _::_,[],_,_,_,_,h,_=>by simp at h | p::P,w::vs,0,m,nd,h1,h2,hk=>by
  simp at h1 h2;subst h1;subst h2;show bindL kindOf ((p,w)::P.zip vs) m p=_;unfold bindL;rw [z4P fun v hv=>(List.nodup_cons.mp nd).1 (List.of_mem_zip hv).1,if_pos hk];simp | p::P,w::vs,i+1,m,nd,h1,h2,hk=>by
  show bindL kindOf ((p,w)::P.zip vs) m x=_;unfold bindL;exact z4v (i:=i) (List.nodup_cons.mp nd).2 (by simpa using h1) (by simpa using h2) hk
theorem z5p{kindOf:Str->Option NameKind}{x:Str}{v:Value}:∀ {P:List Str}{vs:List Value}{i:Nat}{m:Str->Option Value},P.Nodup->P[i]? = some x->vs[i]? = some v->kindOf x≠some .local-> bindC kindOf (P.zip vs) m x=some v
 | [],_,_,_,_,h,_,_=>by simp at h | _::_,[],_,_,_,_,h,_=>by simp at h | p::P,w::vs,0,m,nd,h1,h2,hk=>by
  simp at h1 h2;subst h1;subst h2;show bindC kindOf ((p,w)::P.zip vs) m p=_;unfold bindC;rw [z5s fun v hv=>(List.nodup_cons.mp nd).1 (List.of_mem_zip hv).1,if_neg hk];simp | p::P,w::vs,i+1,m,nd,h1,h2,hk=>by
  show bindC kindOf ((p,w)::P.zip vs) m x=_;unfold bindC;exact z5p (i:=i) (List.nodup_cons.mp nd).2 (by simpa using h1) (by simpa using h2) hk
def start(N:List Str)(vs:List V):St:=vs.map some++List.replicate (N.length-vs.length) none
def zaz(CX:CXT)(P:Program)(w:World)(K:W.Frag)(mg:Str->Option Value)(base:Heap)(N:List Str)(qual:Str)(scope:Scope)(f:Addr)(cd:Value)(A:Around)(outer:List Env)(s:Shared)(H:Hp)(E:XK):Cx where
 prog:=P;w:=w;K:=K;mg:=mg;base:=base;A:=A.deeper (envOfC qual scope s.heap.objs.size f cd);N:=N;s₀:=s;H₀:=H;env:=envOfC qual scope s.heap.objs.size f cd;outer:=outer;stack:=envOfC qual scope s.heap.objs.size f cd::outer;ex:=[];calm:=A.handled.isNone;fn:=fun _=>true;pn:=[];xe:=fun e s'=>wpAny (model P w) (A.deeper (envOfC qual scope s.heap.objs.size f cd)) (leaving (envOfC qual scope s.heap.objs.size f cd) e) (fun _ s''=>CX outer H s E e s'') (fun e' s''=>CX outer H s E e' s'') s'
theorem z0v{sc:Scope}{n:Nat}{x:Str}(h:sc.names.lookup x=some .cell):∃ c,(cellsFrom n sc.names []).lookup x=some c:=by
 have q:=W.cellsFrom_some sc.names n [] (.inl h);exact Option.isSome_iff_exists.mp q
theorem z9y{CX:CXT}{P:Program}{w:World}{K:W.Frag}{mg:Str->Option Value}{base:Heap}{N ps:List Str}{qual:Str}{scope:Scope}{f:Addr}{cd:Value}{A:Around}{outer:List Env}{s s1:Shared}{H:Hp}{E:XK}{us:List Value}{vs:List V} (S:zr N ps scope)(e0:zgS P w K mg base A outer s H)(hl:vs.length=ps.length)(r:xp vs us) (x:InCallC s s.heap.objs.size (bindL (envOfC qual scope s.heap.objs.size f cd).kindOf (ps.zip us) fun _=>none) (cellsFrom (s.heap.objs.size+1) scope.names []) (bindC (envOfC qual scope s.heap.objs.size f cd).kindOf (ps.zip us) fun _=>none) s1): Inv (zaz CX P w K mg base N qual scope f cd A outer s H E) [] (start N vs) H s1:=by
 have hpl:ps.length<=N.length:=by have:=congrArg List.length S.pre;rw [List.length_take] at this;omega
 obtain ⟨h1,tk,rfl,hk⟩:=x.done;have noA:∀ b:Addr,b∉(zaz CX P w K mg base N qual scope f cd A outer s H E).ex:=fun b z=>absurd (show b∈([]:List Addr) from z) (by simp);refine ⟨⟨e0.mod,S.kind,rfl,rfl,Nat.le_refl _,fun y z c h1 h2=>?_,fun y hy=>?_,fun y c _ h=>?_,fun h=>Option.isNone_iff_eq_none.mp h,Around.frames_deeper e0.frames,.inr ⟨rfl,rfl⟩,fun b z=>absurd z (noA b),e0.bs,e0.bsz,fun b _ _=>noA b,fun b z=>absurd z (noA b),e0.funs,e0.frf⟩, rfl,e0.bare,Un.kept hk,⟨_,x.toInCall.ns,fun i y v h1 h2 h3=>?_⟩,fun y c h=>⟨_,x.cell y c h⟩,e0.hok.fresh (Nat.le_refl _),fun y c h=>?_,fun p hp=>absurd (show p∈([]:List (Addr×Obj)) from hp) (by simp),e0.hok.kept hk,?_⟩;·exact name_of_addr x.apart (PySem.mem_of_lookup h1) (PySem.mem_of_lookup h2)
 ·have hy:scope.names.lookup y=some .cell\/scope.names.lookup y=some .free:=hy;rcases hy with hy | hy;·exact z0v hy
  ·exact absurd rfl (S.nofree _ (PySem.mem_of_lookup hy))
 ·exact Nat.le_of_lt (x.above y c (PySem.mem_of_lookup h))
 ·have hi:i<vs.length:=by
   unfold start at h2;by_cases hi:i<vs.length;·exact hi
   ·rw [List.getElem?_append_right (by simpa using hi)] at h2;rw [List.getElem?_replicate] at h2;split at h2<;>cases h2
  have ha:vs[i]? = some v:=by
   unfold start at h2;rw [List.getElem?_append_left (by simpa using hi),List.getElem?_map] at h2;cases e:vs[i]? with
   | none=>rw [e] at h2;cases h2 | some a=>rw [e] at h2;cases h2;rfl
  obtain ⟨u,hu,rv⟩:=r.get ha;have hp:ps[i]? = some y:=by rw [<- S.pre,List.getElem?_take_of_lt (by omega)];exact h1
  have ndP:ps.Nodup:=by rw [<- S.pre];exact S.nd.sublist (List.take_sublist _ _)
  refine ⟨u,rv,?_⟩;rcases S.par y (List.mem_of_getElem? hp) with k | k;·exact .inl ⟨k,z4v ndP hp hu k⟩
  ·obtain ⟨c,e⟩:=z0v (n:=s.heap.objs.size+1) k;refine .inr ⟨.inl k,c,e,?_⟩;have q:=x.cell y c e;rw [z5p ndP hp hu (by show scope.names.lookup y≠_;rw [k];decide)] at q;exact q
 ·exact e0.hok.fresh (Nat.le_of_lt (x.above y c (PySem.mem_of_lookup h)))
 ·unfold start;show _=N.length;rw [List.length_append,List.length_map,List.length_replicate];omega
theorem zh9 {CX:CXT} {P:Program} {w:World} {K:W.Frag} {mg:Str->Option Value} {base:Heap} {k:Nat} {f:Addr} {name qual:Str} {params:Arguments} {body:List Stmt} {scope:Scope} {dV kV doc pm cdv ct oc:Value} {an od:Option Addr} {osl:Array (Option Value)} {N ps:List Str} {sp:Sp} (lk:K.lookup f=some ⟨oc,od,.func (W.fnOf name qual params body scope dV kV doc pm an cdv ct),osl⟩) (hcd:W.codeIn K cdv qual=true) (S:zr N ps scope) (len:∀ vs H Q E,sp vs H Q E->vs.length=ps.length) (hbody:∀ (A:Around) (outer:List Env) (s:Shared) (H:Hp) (vs:List V) (Q:VK) (E:XK),z0B k (A.deeper (envOfC qual scope s.heap.objs.size f cdv))->sp vs H Q E-> ∃ t,PSs (zaz CX P w K mg base N qual scope f cdv A outer s H E) body t/\t {nx:=fun _ H'=>Q .non H',rt:=Q} (start N vs) H): z2I P w K mg base CX (k+1) f (W.fnOf name qual params body scope dV kV doc pm an cdv ct) ps sp:=by
 refine ⟨len,fun A outer s H args us vs Q E hr e0 hb r hsp=>?_⟩;have hl:=len _ _ _ _ hsp;have KX:K.In s.heap:=e0.mod.kin.keeps fun b o e=>(e0.bs b o e).1;have lim:s.heap.NoLimit:=e0.mod.nolimit.keeps fun b o e=>(e0.bs b o e).1;have hkind:∀ y∈ps.zip us,scope.names.lookup y.1=some .local\/(scope.names.lookup y.1=some .cell/\((cellsFrom (s.heap.objs.size+1) scope.names []).lookup y.1).isSome=true):=fun ⟨n,v⟩ hy=>by
  rcases S.par n (List.of_mem_zip hy).1 with q | q;·exact .inl q
  ·exact .inr ⟨q,W.cellsFrom_some _ _ _ (.inl q)⟩
 refine codeAny_call_function hr.depth (KX _ _ lk) rfl S.co S.gen rfl (W.codeRec_of KX hcd) (hb _ _ _ _ ?_);refine wpAny_newFunctionEnv_cells S.kind hkind fun env he s1 x=>?_;subst he;refine ⟨lim.keeps x.toInCall.keep,codeAny_func ?_⟩;obtain ⟨t,ht,hq⟩:=hbody A outer s H vs Q E (hr.deeper _) hsp;have I:Inv (zaz CX P w K mg base N qual scope f cdv A outer s H E) [] (start N vs) H s1:=z9y S e0 hl r x;refine wpAny_mono (ht [] s1 (start N vs) H _ I hq) (fun fl s' hs=>?_) fun e s' hs=>hs;have fin:∀ {O':St} {H':Hp} {v:V} {u:Value},Inv (zaz CX P w K mg base N qual scope f cdv A outer s H E) [] O' H' s'->xn v u->Q v H'->CE outer P w H s Q u s':= fun {O' H' v u} J rv q=>⟨v,H',J.os,J.bare,J.base,J.hok,rv,q⟩;cases fl with
 | ret u=>
  obtain ⟨v,O',H',J,rv,q⟩:=hs;exact fin J rv q | next=>
  obtain ⟨O',H',J,q⟩:=hs;exact fin (v:=V.non) (u:=Value.none) J rfl q | brk=>
  obtain ⟨_,_,_,q⟩:=hs;exact False.elim q | cont=>
  obtain ⟨_,_,_,q⟩:=hs;exact False.elim q
section
variable {X:Cx}{x:Str}{p pos:Pos}{e:Expr}{es:List Expr}{t:TA}{id T:String}{r:List V->Hp->VK->Prop}
def tCB(r:List V->Hp->VK->Prop)(t:TA):TE:=fun O H Q=>t O H fun vs H1=>r vs H1 Q
theorem z7A (hc:wl X (.builtin id) r) (hg:Gl X x) (hm:X.mg x=none) (hv:bootBuiltins x=some (.builtin id)) (ha:PA X (e::es) t) (hn:x≠"__name__":=by decide) (hdb:(x==("__debug__":Str))=false:=by decide) (he:starEach (e::es) X.env=(false,eval e X.env)::starEach es X.env:=by rfl) (hpl:(backTo pos (starEach es X.env)).any (·.1)=false:=by rfl):PE X (.Call (.Name x p) (e::es) [] pos) (tCB r t):=by
 intro pins s O H Q I h;refine wpAny_Call_Name_kw (jX I hg hm hv ?_ hn hdb);exact PyProof.Rows.callWith_builtin1 (thn (ha pos pins s O H _ I h) fun us s1 ⟨vs,H1,I1,r1,q1⟩=>hc pins s1 O H1 vs us Q I1 r1 q1) he hpl
theorem za5 (hc:wl X (.type T) r) (hg:Gl X x) (hm:X.mg x=none) (hv:bootBuiltins x=some (.type T)) (ha:PA X (e::es) t) (hn:x≠"__name__":=by decide) (hdb:(x==("__debug__":Str))=false:=by decide) (he:starEach (e::es) X.env=(false,eval e X.env)::starEach es X.env:=by rfl) (hpl:(backTo pos (starEach es X.env)).any (·.1)=false:=by rfl):PE X (.Call (.Name x p) (e::es) [] pos) (tCB r t):=by
 intro pins s O H Q I h;refine wpAny_Call_Name_kw (jX I hg hm hv ?_ hn hdb);exact PyProof.Rows.callWith_type1 (thn (ha pos pins s O H _ I h) fun us s1 ⟨vs,H1,I1,r1,q1⟩=>hc pins s1 O H1 vs us Q I1 r1 q1) he hpl
end
end L2
namespace HT
section
open PySem.SeqAt
open PySem.AutoSeq1 (wpAny_loadPart')
open PySem.MeetsSeq PySem.MeetsSeq2 PySem.MeetsSeq3
end
section
variable {prog:Program}{w:World}{A:Around}{E:Value->Shared->Prop}{s:Shared}
theorem zdZ {t b:Addr} {vs ws:List Value} {Q:Value->Shared->Prop} (ht:IsTup s.heap t vs.toArray) (hb:IsTup s.heap b ws.toArray) (hv:vs≠[]) (h1:ws=[]->Q (.ref t) s) (h2:ws≠[]->Q (.ref s.heap.objs.size) {s with heap:=s.heap.push {cls:=.type "tuple",data:=.seq (vs++ws).toArray}}) (hsz:vs.length+ws.length<=sizeLine):wpAny (model prog w) A (binaryOp .Add (.ref t) (.ref b)) Q E s:=by
 obtain ⟨⟨cls,dd,data,sl⟩,ho,hc,n,hd⟩:=id ht;obtain ⟨⟨cls2,dd2,data2,sl2⟩,ho2,hc2,n2,hd2⟩:=id hb;simp only at hc hd hc2 hd2;subst hc hd hc2 hd2;have e:vs.toArray++ws.toArray=(vs++ws).toArray:=by simp
 by_cases hw:ws=[]
 ·exact concat_meets ⟨_,ho,rfl⟩ ⟨_,ho2,rfl⟩ noFill_tuple_add seq_tuple_add PySem.F.slot_tuple_add PySem.F.entry_tuple_add (PySem.F.args_tuple_add_2 _ _) (tuple_addW1 t b vs.toArray ws.toArray n n2 dd dd2 sl sl2 (by simpa using hv) (by simp [hw])) ⟨ho,ho2,h1 hw⟩
 ·refine concat_meets ⟨_,ho,rfl⟩ ⟨_,ho2,rfl⟩ noFill_tuple_add seq_tuple_add PySem.F.slot_tuple_add PySem.F.entry_tuple_add (PySem.F.args_tuple_add_2 _ _) (tuple_addW2 t b vs.toArray ws.toArray n n2 dd dd2 sl sl2 (by simpa using hv) (by simpa using hw) (by rw [List.size_toArray,List.size_toArray];exact hsz)) ⟨ho,ho2,?_⟩;rw [e];exact h2 hw
def sIx(n d:Nat):Option Int->Nat
 | none=>d | some v=>if v<0 then (v+(n:Int)).toNat else min v.toNat n
theorem z6T(n d:Nat):sIx n d none=d:=rfl
theorem z9v(n d k:Nat):sIx n d (some (k:Int))=min k n:=by
 show (if (k:Int)<0 then ((k:Int)+(n:Int)).toNat else min (k:Int).toNat n)=min k n;rw [if_neg (by omega),Int.toNat_natCast]
theorem zfD(n d:Nat)(hd:d<=n)(o:Option Int):sIx n d o<=n:=by cases o with
 | none=>exact hd | some v=>
  show (if v<0 then (v+(n:Int)).toNat else min v.toNat n)<=n;by_cases hv:v<0;·rw [if_pos hv];omega
  ·rw [if_neg hv];exact Nat.min_le_right _ _
theorem z8P(v:Int)(n d:Nat):(if v<0 then max (v+(n:Int)) 0 else min v (n:Int))=((sIx n d (some v):Nat):Int):=by
 show (if v<0 then max (v+(n:Int)) 0 else min v (n:Int))=(((if v<0 then (v+(n:Int)).toNat else min v.toNat n):Nat):Int);by_cases hv:v<0;·simp only [if_pos hv];omega
 ·simp only [if_neg hv];omega
theorem z7W(lo hi:Option Int)(n:Nat):Builtin.Slice.sliceAdjust lo hi 1 (n:Int)=(((sIx n 0 lo:Nat):Int),((sIx n n hi:Nat):Int)):=by
 have h1:¬ ((1:Int)<0):=by omega
 unfold Builtin.Slice.sliceAdjust;simp only [h1,if_false];refine Prod.ext ?_ ?_;·cases lo with
  | none=>rfl | some v=>exact z8P v n 0
 ·cases hi with
  | none=>rfl | some v=>exact z8P v n n
theorem z8e (i j:Nat):Builtin.Slice.slicePlaces (i:Int) (j:Int) 1=j-i:=by
 unfold Builtin.Slice.slicePlaces;have h1:(1:Int) > 0:=by omega
 simp only [h1,if_true,Int.ediv_one];split<;>omega
theorem z33{v:Value}{o:Option Int}{Q:Option Int->Shared->Prop}(p:IsPart v o)(h:Q o s):wpAny (model prog w) A (Builtin.Slice.slicePartIndex v) Q E s:=by cases p with
 | none=>exact slicePart_none h | int i t=>exact slicePart_int h
theorem uP{sl:Addr}{vl vu:Value}{lo hi:Option Int}{n:Nat}{Q:Int×Int×Nat->Shared->Prop}(hs:s.heap.IsSliceOf sl vl vu .none)(pl:IsPart vl lo)(pu:IsPart vu hi) (h:Q (((sIx n 0 lo:Nat):Int),1,sIx n n hi-sIx n 0 lo) s):wpAny (model prog w) A (Builtin.Slice.sliceApplied (.ref sl) (pure (n:Int))) Q E s:=by
 obtain ⟨os,hos,hcs,hds⟩:=id hs;unfold Builtin.Slice.sliceApplied Builtin.Slice.sliceFields;refine wpAny_bind (wpAny_bind (wpAny_field hos hds (x:=vl) rfl (wpAny_bind (wpAny_field hos hds (x:=vu) rfl (wpAny_bind (wpAny_field hos hds (x:=.none) rfl (wpAny_pure ?_)))))));refine wpAny_bind (slicePart_none ?_);show wpAny _ _ (if ((1:Int)==0)=true then _ else _) _ _ s;rw [if_neg (by decide)];refine wpAny_bind (z33 pl (wpAny_bind (z33 pu (wpAny_bind (wpAny_pure ?_)))));show wpAny _ _ (match Builtin.Slice.sliceAdjust lo hi 1 (n:Int) with | (lo,hi)=>pure (lo,(1:Int),Builtin.Slice.slicePlaces lo hi 1)) _ _ s;rw [z7W lo hi n];show wpAny _ _ (pure (((sIx n 0 lo:Nat):Int),(1:Int),Builtin.Slice.slicePlaces ((sIx n 0 lo:Nat):Int) ((sIx n n hi:Nat):Int) 1)) _ _ s;rw [z8e];exact wpAny_pure h
theorem zbi(xs:Array Value)(i k:Nat):((List.range k).filterMap fun (m:Nat)=>xs[((i:Int)+(m:Int)*1).toNat]?).toArray=((xs.toList.drop i).take k).toArray:=by
 have e:(fun (m:Nat)=>xs[((i:Int)+(m:Int)*1).toNat]?)=fun m=>xs[i+m]? := by
  funext m;have:((i:Int)+(m:Int)*1).toNat=i+m:=by omega
  rw [this]
 rw [e];have:=pick_run xs i k;rw [List.filterMap_map] at this;have e2:((fun x=>xs[x]?) ∘ fun x=>i+x)=fun m=>xs[i+m]? := rfl;rw [e2] at this;rw [this]
theorem kE {t sl:Addr} {items:Array Value} {vl vu:Value} {lo hi:Option Int} {Q:Value->Shared->Prop} (ht:IsTup s.heap t items) (hs:s.heap.IsSliceOf sl vl vu .none) (pl:IsPart vl lo) (pu:IsPart vu hi) (hw:¬ (sIx items.size 0 lo=0/\sIx items.size items.size hi=items.size)) (h:Q (.ref s.heap.objs.size) {s with heap:=s.heap.push {cls:=.type "tuple",data:=.seq ((items.toList.drop (sIx items.size 0 lo)).take (sIx items.size items.size hi-sIx items.size 0 lo)).toArray}}) (hsz:items.size<=sizeLine):wpAny (model prog w) A (getItem (.ref t) (.ref sl)) Q E s:=by
 have htake:sizeOk (.seq ((items.toList.drop (sIx items.size 0 lo)).take (sIx items.size items.size hi-sIx items.size 0 lo)).toArray):=by
  show ((items.toList.drop (sIx items.size 0 lo)).take (sIx items.size items.size hi-sIx items.size 0 lo)).toArray.size<=sizeLine;rw [List.size_toArray,List.length_take,List.length_drop,Array.length_toList];omega
 have hj:sIx items.size items.size hi<=items.size:=zfD _ _ (Nat.le_refl _) hi;obtain ⟨os,hos,hcs,hds⟩:=id hs;have hTs:s.TypeIs (.ref sl) "slice":=⟨os,hos,hcs⟩;unfold getItem;try with_reducible refine wpAny_holding ?_
 first | refine wpAny_bind (wpAny_pure ?_) | skip
 refine wpAny_bind (wpAny_sequenceKey ht.typeIs (by decide) ?_);refine wpAny_bind (wpAny_callSpecial?_slot (name:=Str.ofString "__getitem__") ht.typeIs PyProof.Rows.slot_tuple_getitem (wpAny_call_entry PyProof.Rows.slot_tuple_getitem ht.typeIs entry_tuple_getitem ?_ (args_tuple_getitem _ _)));show wpAny _ _ (Builtin.Tuple.tupleItemsOf (.ref t) >>= _) _ _ s;refine wpAny_bind (tupleItemsOf_ ht ?_);refine wpAny_bind (wpAny_typeOf hTs ?_);rw [if_pos (by decide)];refine wpAny_bind (uP hs pl pu ?_);have hno:¬ ((((sIx items.size 0 lo:Nat):Int)==0&&(1:Int)==1&&(sIx items.size items.size hi-sIx items.size 0 lo)==items.size)=true):=by
  intro q;rw [Bool.and_eq_true,Bool.and_eq_true] at q;have q1:((sIx items.size 0 lo:Nat):Int)=0:=eq_of_beq q.1.1;have q2:sIx items.size items.size hi-sIx items.size 0 lo=items.size:=eq_of_beq q.2;exact hw ⟨by omega,by omega⟩
 show wpAny _ _ (if (((sIx items.size 0 lo:Nat):Int)==0&&(1:Int)==1&&(sIx items.size items.size hi-sIx items.size 0 lo)==items.size)=true then _ else _) _ _ s;rw [if_neg hno,zbi];first
  | exact wpAny_bind (m:=Builtin.Tuple.tupleExact _) (wpAny_newObj_type (wpAny_pure ⟨_,rfl,wpAny_pure h⟩) htake) | exact wpAny_bind (m:=Builtin.Tuple.tupleExact _) (wpAny_newObj_type (wpAny_bind (wpAny_pure (wpAny_pure ⟨_,rfl,wpAny_pure h⟩))) htake) | exact wpAny_bind (wpAny_bind (m:=Builtin.Tuple.tupleExact _) (wpAny_newObj_type (wpAny_pure (wpAny_pure ⟨_,rfl,wpAny_pure h⟩)) htake)) | exact wpAny_bind (wpAny_bind (m:=Builtin.Tuple.tupleExact _) (wpAny_newObj_type (wpAny_pure ⟨_,rfl,wpAny_pure h⟩) htake))
end
end HT
namespace L2
open PySem.Spec
abbrev TO:=St->Hp->(Option Int->Hp->Prop)->Prop
def PO(X:Cx)(e:Option Expr)(t:TO):Prop:= ∀ (pins:List (Addr×Obj))(s:Shared)(O:St)(H:Hp)(Q:Option Int->Hp->Prop),Inv X pins O H s->t O H Q-> wpAny (model X.prog X.w) X.A (evalPart e X.env) (fun u s'=>∃ o H',Inv X pins O H' s'/\IsPart u o/\Q o H') X.xe s
def zeo:TO:=fun _ H Q=>Q none H
def zhC(t:TE):TO:=fun O H Q=>t O H fun x H1=>∃ i,x=.int i/\Q (some i) H1
section
variable {X:Cx}{e:Expr}{te:TE}{lo hi:Option Expr}{tl th:TO}{pos p2:Pos}
theorem zdo:PO X none zeo:=by
 intro pins s O H Q I h;rw [evalPart_none];exact wpAny_pure ⟨none,H,I,.none,h⟩
theorem zdY(h:PE X e te):PO X (some e) (zhC te):=by
 intro pins s O H Q I hw;rw [evalPart_some];refine thn (h pins s O H _ I hw) fun u s1 ⟨x,H1,I1,r1,q1⟩=>?_;obtain ⟨i,rfl,q⟩:=q1;obtain ⟨t,rfl⟩:=r1;exact ⟨some i,H1,I1,.int i t,q⟩
def SlR(X:Cx)(r:V->Option Int->Option Int->Hp->VK->Prop):Prop:= ∀ (pins:List (Addr×Obj))(s:Shared)(O:St)(H:Hp)(x:V)(v vl vu:Value)(lo hi:Option Int)(sl:Addr)(Q:VK),Inv X pins O H s->xn x v->s.heap.IsSliceOf sl vl vu .none->IsPart vl lo->IsPart vu hi->r x lo hi H Q-> ∃ T id,typeLookup (.type T) "__getitem__"=pure (some (.builtin id))/\s.TypeIs v T/\wpAny (model X.prog X.w) X.A (getItem v (.ref sl)) (EP X pins O Q) X.xe s
theorem SlR.or{r r':V->Option Int->Option Int->Hp->VK->Prop}(h:SlR X r)(h':SlR X r'):SlR X (fun x lo hi H Q=>r x lo hi H Q\/r' x lo hi H Q):=by
 intro pins s O H x v vl vu lo hi sl Q I rx hs pl pu q;rcases q with q | q;·exact h pins s O H x v vl vu lo hi sl Q I rx hs pl pu q
 ·exact h' pins s O H x v vl vu lo hi sl Q I rx hs pl pu q
def tSl(r:V->Option Int->Option Int->Hp->VK->Prop)(te:TE)(tl th:TO):TE:=fun O H Q=>te O H fun x H1=>tl O H1 fun l H2=>th O H2 fun u H3=>r x l u H3 Q
theorem zba{r:V->Option Int->Option Int->Hp->VK->Prop}(hr:SlR X r)(he:PE X e te)(hl:PO X lo tl)(hu:PO X hi th):PE X (.Subscript e (.Slice lo hi none p2) pos) (tSl r te tl th):=by
 intro pins s O H Q I h;refine Subscript_ (thn (he pins s O H _ I h) fun v s1 ⟨x,H1,I1,r1,q1⟩=>?_);refine wpAny_Slice (thn (hl pins s1 O H1 _ I1 q1) fun vl s2 ⟨l,H2,I2,pl,q2⟩=>thn (hu pins s2 O H2 _ I2 q2) fun vu s3 ⟨u,H3,I3,pu,q3⟩=>?_);rw [evalPart_none];refine wpAny_pure ?_;have I4:Inv X pins O H3 {s3 with heap:=s3.heap.push {cls:=.type "slice",data:=.fields #[vl,vu,.none]}}:=I3.kept (t':=s3.toks) fun b ob q=>Heap.get?_push_of_some _ q;obtain ⟨T,id,hT,ht,hg⟩:=hr pins {s3 with heap:=s3.heap.push {cls:=.type "slice",data:=.fields #[vl,vu,.none]}} O H3 x v vl vu l u s3.heap.objs.size Q I4 r1 (Heap.IsSliceOf.new ..) pl pu q3;show wpAny (model X.prog X.w) X.A (subscriptTail e (.Slice lo hi none p2) v (.ref s3.heap.objs.size)) (EP X pins O Q) X.xe {s3 with heap:=s3.heap.push {cls:=.type "slice",data:=.fields #[vl,vu,.none]}};exact tail_any (ops:=[.ref s3.heap.objs.size,v]) ht hT hg (by with_unfolding_all rfl)
def zc7(xs:List V)(lo hi:Option Int):List V:=(xs.drop (HT.sIx xs.length 0 lo)).take (HT.sIx xs.length xs.length hi-HT.sIx xs.length 0 lo)
theorem z0R(xs:List V)(lo hi:Option Int):(zc7 xs lo hi).length<=xs.length:=by
 unfold zc7;rw [List.length_take,List.length_drop];omega
def zjI(K:W.Frag):V->Option Int->Option Int->Hp->VK->Prop:=fun x lo hi H Q=>∃ a xs,x=.ref a/\SqT K H a xs/\ ¬ (HT.sIx xs.length 0 lo=0/\HT.sIx xs.length xs.length hi=xs.length)/\∀ p,H p=none->Q (.ref p) (upd H p (.tup (zc7 xs lo hi)))
theorem zfv:SlR X (zjI X.K):=by
 intro pins s O H x v vl vu lo hi sl Q I rx hs pl pu h;obtain ⟨a,xs,rfl,hx,hw,q⟩:=h;cases rx;obtain ⟨its,r,ht,hz⟩:=I.tuple hx;have hlen:its.toArray.size=xs.length:=by rw [List.size_toArray];exact r.length.symm
 refine ⟨"tuple",_,PyProof.Rows.slot_tuple_getitem.lookup,ht.typeIs,?_⟩;refine HT.kE ht hs pl pu (by rw [hlen];exact hw) ?_ (by rw [hlen];exact hz);rw [hlen];refine ⟨.ref s.heap.objs.size,_,I.laid (t':=s.toks) (o:=.tup (zc7 xs lo hi)) (fun b ob q=>Heap.get?_push_of_some _ q) (Nat.le_refl _) ?_,rfl,q _ (I.hok.fresh (Nat.le_refl _))⟩;exact ⟨Nat.le_trans (z0R xs lo hi) hz,_,(r.drop (HT.sIx xs.length 0 lo)).take (HT.sIx xs.length xs.length hi-HT.sIx xs.length 0 lo),zax.new _ _⟩
def zhE(K:W.Frag):R2:=fun x y H Q=>∃ a b xs ys,x=.ref a/\y=.ref b/\SqT K H a xs/\SqT K H b ys/\xs≠[]/\xs.length+ys.length<=sizeLine/\ (ys=[]->Q (.ref a) H)/\(ys≠[]->∀ p,H p=none->Q (.ref p) (upd H p (.tup (xs++ys))))
theorem xp.nil_iff{xs:List V}{us:List Value}(r:xp xs us):us=[] ↔ xs=[]:=by cases r with
 | nil=>simp | cons _ _=>simp
theorem zdg:OpR X (binaryOp .Add) (zhE X.K):=by
 intro pins s O H x y v u Q I rx ry h;obtain ⟨a,b,xs,ys,rfl,rfl,ha,hb,hx,hz,q1,q2⟩:=h;cases rx;cases ry;obtain ⟨its,r1,p1,_⟩:=I.tuple ha;obtain ⟨its2,r2,p2,_⟩:=I.tuple hb;refine HT.zdZ p1 p2 (fun z=>hx (r1.nil_iff.mp z)) (fun z=>⟨.ref a,H,I,rfl,q1 (r2.nil_iff.mp z)⟩) (fun z=>?_) (by rw [<- r1.length,<- r2.length];exact hz);refine ⟨.ref s.heap.objs.size,_,I.laid (t':=s.toks) (o:=.tup (xs++ys)) (fun b ob q=>Heap.get?_push_of_some _ q) (Nat.le_refl _) ?_,rfl,q2 (fun w=>z (r2.nil_iff.mpr w)) _ (I.hok.fresh (Nat.le_refl _))⟩;exact ⟨by rw [List.length_append];exact hz,_,r1.append r2,zax.new _ _⟩
end
def ixN(n:Nat)(i:Int):Option Nat:=if 0<=i then (if i<n then some i.toNat else none) else if -(n:Int)<=i then some (i+n).toNat else none
def atI{α:Type}(xs:List α)(i:Int):Option α:=(ixN xs.length i).bind fun j=>xs[j]?
theorem z98{n:Nat}{i:Int}{j:Nat}(h:ixN n i=some j):seqIndex? i n=some j/\j<n/\-(n:Int)<=i/\i<n:=by
 unfold ixN at h;by_cases h0:0<=i
 ·rw [if_pos h0] at h;by_cases h1:i<n
  ·rw [if_pos h1] at h;have e:i.toNat=j:=Option.some.inj h;exact ⟨by rw [seqIndex_of h0 h1,e],by omega,by omega,h1⟩
  ·rw [if_neg h1] at h;cases h
 ·rw [if_neg h0] at h;by_cases h1:-(n:Int)<=i
  ·rw [if_pos h1] at h;have e:(i+n).toNat=j:=Option.some.inj h;exact ⟨by rw [seqIndex_neg (by omega) h1,e],by omega,h1,by omega⟩
  ·rw [if_neg h1] at h;cases h
theorem z8U{α:Type}{xs:List α}{i:Int}{v:α}(h:atI xs i=some v):∃ j,seqIndex? i xs.length=some j/\xs[j]? = some v/\j<xs.length/\-(xs.length:Int)<=i/\i<xs.length:=by
 unfold atI at h;cases e:ixN xs.length i with
 | none=>rw [e] at h;cases h | some j=>
  rw [e] at h;obtain ⟨h1,h2,h3,h4⟩:=z98 e;exact ⟨j,h1,h,h2,h3,h4⟩
def z6a(b:Expr):Prop:=∀ o i,subscripted b false o i=operate [o,i] (getItem o i)
def IxR(X:Cx)(r:R2):Prop:= ∀ (value slice:Expr)(pins:List (Addr×Obj))(s:Shared)(O:St)(H:Hp)(x y:V)(v u:Value)(Q:VK),Inv X pins O H s->xn x v->xn y u->r x y H Q-> subscripted slice false v u=operate [v,u] (getItem v u)->wpAny (model X.prog X.w) X.A (subscriptTail value slice v u) (EP X pins O Q) X.xe s
def MtR (X:Cx) (id:String) (r:V->List V->Hp->VK->Prop):Prop:= ∀ (pins:List (Addr×Obj)) (s:Shared) (O:St) (H:Hp) (x:V) (xs:List V) (v:Value) (us:List Value) (Q:VK),Inv X pins O H s->xn x v->xp xs us->r x xs H Q-> wpAny (model X.prog X.w) X.A (call (.builtin id) (v::us)) (EP X pins O Q) X.xe s
section
variable {X:Cx}{a b:Expr}{ta tb:TE}{pos:Pos}
theorem IxR.or{r r':R2}(h:IxR X r)(h':IxR X r'):IxR X (fun x y H Q=>r x y H Q\/r' x y H Q):=by
 intro value slice pins s O H x y v u Q I rx ry q hs;rcases q with q | q;·exact h value slice pins s O H x y v u Q I rx ry q hs
 ·exact h' value slice pins s O H x y v u Q I rx ry q hs
theorem zfC{r:R2}(hr:IxR X r)(ha:PE X a ta)(hb:PE X b tb)(hs:z6a b):PE X (.Subscript a b pos) (tOp r ta tb):=by
 intro pins s O H Q I h;exact Subscript_ (zio ha hb I h fun v u s2 x y H2 I2 rx ry q=>hr a b pins s2 O H2 x y v u Q I2 rx ry q (hs _ _))
def zjF(K:W.Frag):R2:=fun x y H Q=>∃ p xs i v,x=.ref p/\y=.int i/\SqL K H p xs/\atI xs i=some v/\Q v H
def zjb(K:W.Frag):R2:=fun x y H Q=>∃ p xs i v,x=.ref p/\y=.int i/\SqT K H p xs/\atI xs i=some v/\Q v H
theorem zdt:IxR X (zjF X.K):=by
 intro value slice pins s O H x y v u Q I rx ry h hs;obtain ⟨p,xs,i,z,rfl,rfl,hq,he,q⟩:=h;cases rx;obtain ⟨t,rfl⟩:=ry;obtain ⟨its,r,pl,hz⟩:=I.list hq;obtain ⟨j,h1,h2,h3,h4,h5⟩:=z8U he;obtain ⟨w,ew,rw'⟩:=r.get h2;have hl:=r.length;have hn:=z70;have fin:EP X pins O Q w s:=⟨z,H,I,rw',q⟩;by_cases h0:0<=i
 ·have hj:i.toNat=j:=by
   rw [seqIndex_of h0 h5] at h1;exact Option.some.inj h1
  exact item_listR pl.isList h0 (by omega) (by rw [hj];simpa using ew) fin hs
 ·have hj:(i+(its.toArray.size:Int)).toNat=j:=by
   rw [seqIndex_neg (by omega) h4] at h1;rw [List.size_toArray,<- hl];exact Option.some.inj h1
  exact subscriptTail_builtinR (x:=w) pl.isList.typeIs slot_list_getitem.lookup (wpAny_getItem_list_neg (Q:=fun r s'=>r=w/\EP X pins O Q r s') pl.isList (by omega) (by rw [List.size_toArray]<;>omega) (by omega) (by rw [hj];simpa using ew) ⟨rfl,fin⟩) hs
theorem zfZ:IxR X (zjb X.K):=by
 intro value slice pins s O H x y v u Q I rx ry h hs;obtain ⟨p,xs,i,z,rfl,rfl,hq,he,q⟩:=h;cases rx;obtain ⟨t,rfl⟩:=ry;obtain ⟨its,r,pl,hz⟩:=I.tuple hq;obtain ⟨j,h1,h2,h3,h4,h5⟩:=z8U he;obtain ⟨w,ew,rw'⟩:=r.get h2;have hl:=r.length;have hn:=z70;have fin:EP X pins O Q w s:=⟨z,H,I,rw',q⟩;exact subscriptTail_builtinR (x:=w) pl.typeIs slot_tuple_getitem.lookup (getItem_tuple (j:=j) (Q:=fun r s'=>r=w/\EP X pins O Q r s') pl (by omega) (by omega) (by rw [List.size_toArray,<- hl];exact h1) (by simpa using ew) ⟨rfl,fin⟩) hs
theorem z7U (its:List Value) (n j:Nat) (u:Value):Obj.mapSeq (·.setIfInBounds j u) {cls:=.type "list",data:=.seq its.toArray n}={cls:=.type "list",data:=.seq (its.set j u).toArray n}:=by simp [Obj.mapSeq]
theorem Inv.lst{pins:List (Addr×Obj)}{O:St}{H:Hp}{s:Shared}{p:Addr}{xs:List V}(I:Inv X pins O H s)(h:H p=some (.lst xs)): ∃ (its:List Value)(n:Nat),xp xs its/\s.heap.get? p=some {cls:=.type "list",data:=.seq its.toArray n}/\xs.length<=sizeLine:=by
 obtain ⟨z,its,n,r,e⟩:=I.hok p _ h;exact ⟨its,n,r,e,z⟩
theorem Inv.lstUpd {pins:List (Addr×Obj)} {O:St} {H:Hp} {s:Shared} {p:Addr} {xs ys:List V} {its its':List Value} {n n':Nat} {f:Obj->Obj} (I:Inv X pins O H s) (h:H p=some (.lst xs)) (ho:s.heap.get? p=some {cls:=.type "list",data:=.seq its.toArray n}) (hf:f {cls:=.type "list",data:=.seq its.toArray n}={cls:=.type "list",data:=.seq its'.toArray n'}) (r:xp ys its') (hz:ys.length<=sizeLine) (t:Nat): Inv X pins O (upd H p (.lst ys)) {s with heap:=s.heap.update p f,toks:=t}:=by
 have e:(s.heap.update p f).get? p=some {cls:=.type "list",data:=.seq its'.toArray n'}:=by rw [Heap.get?_update_self f ho (by rw [hf]<;>rfl),hf]
 refine I.write (x:=p) (e:=p) (by rw [h];trivial) (.inl rfl) (fun b u hb q=>(Heap.get?_update_other _ _ (Ne.symm hb)).trans q) ⟨_,e⟩ ?_;exact ⟨hz,its',n',r,e⟩
def zhl:V->V->V->Hp->(Hp->Prop)->Prop:=fun o i v H Q=>∃ p xs k j,o=.ref p/\i=.int k/\H p=some (.lst xs)/\ixN xs.length k=some j/\Q (upd H p (.lst (xs.set j v)))
theorem set_list:ziY X zhl:=by
 intro pins s O H o i v ov iv u Q I ro ri rv h;obtain ⟨p,xs,k,j,rfl,rfl,hp,hj,q⟩:=h;cases ro;obtain ⟨t,rfl⟩:=ri;obtain ⟨its,n,r,ho,hz⟩:=I.lst hp;obtain ⟨h1,h2,h3,h4⟩:=z98 hj;have hl:=r.length;have hn:=z70;have I':Inv X pins O (upd H p (.lst (xs.set j v))) {s with heap:=s.heap.update p (Obj.mapSeq (·.setIfInBounds j u))}:= I.lstUpd hp ho (z7U its n j u) (r.set rv j) (by rw [List.length_set];exact hz) s.toks;by_cases h0:0<=k
 ·have hk:k.toNat=j:=by
   rw [seqIndex_of h0 h4] at h1;exact Option.some.inj h1
  exact W.ki_setAt ho h0 (by omega) (by rw [List.size_toArray,<- hl];exact h4) (by rw [hk];exact ⟨_,I',q⟩)
 ·have hk:(k+(its.toArray.size:Int)).toNat=j:=by
   rw [seqIndex_neg (by omega) h3] at h1;rw [List.size_toArray,<- hl];exact Option.some.inj h1
  exact W.ki_setBack ho (by omega) (by rw [List.size_toArray,<- hl];exact h3) (by omega) (by rw [hk];exact ⟨_,I',q⟩)
theorem z4R(lo hi:Option Int)(n:Nat):(sliceBounds lo hi none n).1=((HT.sIx n 0 lo:Nat):Int)/\(sliceBounds lo hi none n).2.1=((HT.sIx n n hi:Nat):Int)/\(sliceBounds lo hi none n).2.2=1:=by
 refine ⟨?_,?_,rfl⟩;·cases lo with
  | none=>simp [sliceBounds,HT.sIx] | some i=>
   simp only [sliceBounds,HT.sIx,Option.getD_none,show (1:Int) > 0 by decide,if_true];by_cases h:i<0;·simp only [h,if_true]<;>omega
   ·simp only [h,if_false]<;>omega
 ·cases hi with
  | none=>simp [sliceBounds,HT.sIx] | some i=>
   simp only [sliceBounds,HT.sIx,Option.getD_none,show (1:Int) > 0 by decide,if_true];by_cases h:i<0;·simp only [h,if_true]<;>omega
   ·simp only [h,if_false]<;>omega
theorem z3g(its:List Value)(lo hi:Option Int):slicePick its.toArray lo hi none=((its.drop (HT.sIx its.length 0 lo)).take (HT.sIx its.length its.length hi-HT.sIx its.length 0 lo)).toArray:=by
 obtain ⟨h1,h2,h3⟩:=z4R lo hi its.toArray.size;unfold slicePick;rw [h1,h2,h3];simp only [sliceRange_one,pick_run,List.size_toArray]<;>rfl
def zjq(K:W.Frag):V->Option Int->Option Int->Hp->VK->Prop:=fun x lo hi H Q=>∃ a xs,x=.ref a/\SqL K H a xs/\∀ p,H p=none->Q (.ref p) (upd H p (.lst (zc7 xs lo hi)))
theorem zcX:SlR X (zjq X.K):=by
 intro pins s O H x v vl vu lo hi sl Q I rx hs pl pu h;obtain ⟨a,xs,rfl,hx,q⟩:=h;cases rx;obtain ⟨its,r,ht,hz⟩:=I.list hx;have hlen:=r.length;refine ⟨"list",_,slot_list_getitem.lookup,ht.isList.typeIs,?_⟩;refine wpAny_getItem_list_slice ht.isList hs pl pu .none (by simp) ?_ (by rw [List.size_toArray]<;>omega);rw [z3g,<- hlen];refine ⟨.ref s.heap.objs.size,_,I.laid (t':=s.toks) (o:=.lst (zc7 xs lo hi)) (fun b ob q=>Heap.get?_push_of_some _ q) (Nat.le_refl _) ?_,rfl,q _ (I.hok.fresh (Nat.le_refl _))⟩;exact ⟨Nat.le_trans (z0R xs lo hi) hz,_,0,(r.drop (HT.sIx xs.length 0 lo)).take (HT.sIx xs.length xs.length hi-HT.sIx xs.length 0 lo),Heap.get?_push_size _ rfl⟩
def z2k:V->Bool
 | .non=>true | .bl _=>true | .int _=>true | .str _=>true | _=>false
def eqV:V->V->Bool
 | .non,.non=>true | .bl a,.bl b=>a==b | .bl a,.int b=>(if a then 1 else 0)==b | .int a,.bl b=>a==(if b then 1 else 0) | .int a,.int b=>a==b | .str a,.str b=>a==b | _,_=>false
theorem zfA{A:Around}{s:Shared}{y x:V}{u v:Value}(ry:xn y u)(rx:xn x v)(fy:z2k y=true)(fx:z2k x=true):SeqAt.EqAt A s u v (eqV y x):=by cases y with
 | non=>
  cases ry;cases x with
  | non=>cases rx;exact SeqAt.EqAt.same _ | bl b=>cases rx;exact SeqAt.EqAt.none_bool b | int b=>obtain ⟨t,rfl⟩:=rx;exact SeqAt.EqAt.none_int b t | str b=>obtain ⟨t,rfl⟩:=rx;exact SeqAt.EqAt.none_str b t | _=>exact absurd (show false=true from fx) Bool.false_ne_true
 | bl a=>
  cases ry;cases x with
  | non=>cases rx;exact SeqAt.EqAt.bool_none a | bl b=>cases rx;exact SeqAt.EqAt.bool_bool a b | int b=>obtain ⟨t,rfl⟩:=rx;exact SeqAt.EqAt.bool_int a b t | str b=>obtain ⟨t,rfl⟩:=rx;exact SeqAt.EqAt.bool_str a b t | _=>exact absurd (show false=true from fx) Bool.false_ne_true
 | int a=>
  obtain ⟨t',rfl⟩:=ry;cases x with
  | non=>cases rx;exact SeqAt.EqAt.int_none a t' | bl b=>cases rx;exact SeqAt.EqAt.int_bool a t' b | int b=>obtain ⟨t,rfl⟩:=rx;exact SeqAt.EqAt.int_int a t' b t | str b=>obtain ⟨t,rfl⟩:=rx;exact SeqAt.EqAt.int_str a t' b t | _=>exact absurd (show false=true from fx) Bool.false_ne_true
 | str a=>
  obtain ⟨t',rfl⟩:=ry;cases x with
  | non=>cases rx;exact SeqAt.EqAt.str_none a t' | bl b=>cases rx;exact SeqAt.EqAt.str_bool a t' b | int b=>obtain ⟨t,rfl⟩:=rx;exact SeqAt.EqAt.str_int a t' b t | str b=>obtain ⟨t,rfl⟩:=rx;exact SeqAt.EqAt.str_str a t' b t | _=>exact absurd (show false=true from fx) Bool.false_ne_true
 | _=>exact absurd (show false=true from fy) Bool.false_ne_true
def eqU(x:V)(u:Value):Bool:=match u with
 | .none=>eqV .non x | .bool b=>eqV (.bl b) x | .int i _=>eqV (.int i) x | .str z _=>eqV (.str z) x | _=>false
theorem zca{x y:V}{u:Value}(r:xn y u)(f:z2k y=true):eqU x u=eqV y x:=by cases y with
 | non=>cases r;rfl | bl b=>cases r;rfl | int i=>obtain ⟨t,rfl⟩:=r;rfl | str z=>obtain ⟨t,rfl⟩:=r;rfl | _=>exact absurd (show false=true from f) Bool.false_ne_true
theorem z66{x:V}:∀ {xs:List V}{us:List Value},xp xs us->xs.all z2k=true->us.any (eqU x)=xs.any fun y=>eqV y x
 | _,_,.nil,_=>rfl | y::xs,u::us,.cons r t,f=>by
  rw [List.all_cons,Bool.and_eq_true] at f;rw [List.any_cons,List.any_cons,zca r f.1,z66 t f.2]
theorem z3h{A:Around}{s:Shared}{x:V}{v:Value}(rx:xn x v)(fx:z2k x=true):∀ {xs:List V}{us:List Value},xp xs us->xs.all z2k=true->∀ u∈us,SeqAt.EqAt A s u v (eqU x u)
 | _,_,.nil,_=>fun u hu=>by cases hu | y::xs,u::us,.cons r t,f=>fun u' hu=>by
  rw [List.all_cons,Bool.and_eq_true] at f;rcases List.mem_cons.mp hu with rfl | hu;·rw [zca r f.1];exact zfA r rx f.1 fx
  ·exact z3h rx fx t f.2 u' hu
def inV(x:V)(xs:List V):Bool:=xs.any fun y=>eqV y x
def rIn(K:W.Frag)(neg:Bool):R2:=fun x y H Q=>∃ p xs,y=.ref p/\(SqL K H p xs\/SqT K H p xs)/\z2k x=true/\xs.all z2k=true/\Q (.bl (if neg then !inV x xs else inV x xs)) H
theorem zaa:OpR X (compareOp .In) (rIn X.K false):=by
 intro pins s O H x y v u Q I rx ry h;obtain ⟨p,xs,rfl,hq,fx,fs,q⟩:=h;cases ry;rcases hq with hq | hq
 ·obtain ⟨its,r,pl,hz⟩:=I.list hq;refine SeqAt.in_listAt (eqU x) pl.isList (fun w hw=>z3h rx fx r fs w (by simpa using hw)) ⟨.bl _,H,I,rfl,?_⟩;rw [show its.toArray.any (eqU x)=its.any (eqU x) by simp,z66 r fs];exact q
 ·obtain ⟨its,r,pl,hz⟩:=I.tuple hq;refine SeqAt.in_tupleAt (eqU x) pl (fun w hw=>z3h rx fx r fs w (by simpa using hw)) ⟨.bl _,H,I,rfl,?_⟩;rw [show its.toArray.any (eqU x)=its.any (eqU x) by simp,z66 r fs];exact q
theorem z4D:wl X (.builtin "len") (fun xs H Q=>∃ p ys,xs=[.ref p]/\(SqL X.K H p ys\/SqT X.K H p ys)/\Q (.int ys.length) H):=by
 intro pins s O H xs us Q I r h;obtain ⟨p,ys,rfl,hq,q⟩:=h;obtain ⟨u,rfl,rx⟩:=vals1 r;cases rx;have hn:=z70;rcases hq with hq | hq
 ·obtain ⟨its,r',pl,hz⟩:=I.list hq;have hlen:=r'.length;exact Calls.call_len_list pl.isList (by simp only [List.size_toArray]<;>omega) ⟨.int ys.length,H,I.tok _,⟨s.toks+1,by rw [List.size_toArray,hlen]⟩,q⟩
 ·obtain ⟨its,r',pl,hz⟩:=I.tuple hq;have hlen:=r'.length;exact len_tuple pl (by simp only [List.size_toArray]<;>omega) ⟨.int ys.length,H,I.tok _,⟨s.toks+1,by rw [List.size_toArray,hlen]⟩,q⟩
theorem z3W:wl X (.type "tuple") (fun xs H Q=>∃ p ys,xs=[.ref p]/\((SqL X.K H p ys/\∀ l,H l=none->Q (.ref l) (upd H l (.tup ys)))\/(SqT X.K H p ys/\Q (.ref p) H))):=by
 intro pins s O H xs us Q I r h;obtain ⟨p,ys,rfl,h⟩:=h;obtain ⟨u,rfl,rx⟩:=vals1 r;cases rx;rcases h with ⟨hq,q⟩ | ⟨hq,q⟩
 ·obtain ⟨its,r',pl,hz⟩:=I.list hq;have hlen:=r'.length;refine call_tuple_list pl.isList (fun h' kp=>?_) (by simp only [List.size_toArray]<;>omega);have I1:Inv X pins O H {s with heap:=h'}:=I.kept (t':=s.toks) kp;have I2:Inv X pins O (upd H h'.objs.size (.tup ys)) {s with heap:=h'.push {cls:=.type "tuple",data:=.seq its.toArray}}:= I1.laid (t':=s.toks) (fun b o e=>Heap.get?_push_of_some _ e) (Nat.le_refl _) (show xP X.prog X.w _ _ _ (.tup ys) from ⟨hz,its,r',zax.new _ _⟩);exact ⟨.ref h'.objs.size,_,I2,rfl,q _ (I1.hok.fresh (Nat.le_refl _))⟩
 ·obtain ⟨its,r',pl,hz⟩:=I.tuple hq;exact call_tuple_same pl ⟨.ref p,H,I,rfl,q⟩
def tyV(K:W.Frag)(T:String)(x:V)(H:Hp):Prop:=match x with
 | .str _=>T="str" | .int _=>T="int" | .ref p=>(T="list"/\∃ xs,SqL K H p xs)\/(T="tuple"/\∃ o,K.lookup p=some o/\o.cls=.type "tuple"/\o.dict=none)\/ (T="dict"/\((∃ kvs,H p=some (.dK kvs))\/∃ kvs,H p=some (.dT kvs)))\/(T="set"/\∃ S n,H p=some (.set S n)) | _=>False
theorem zfm{pins:List (Addr×Obj)}{O:St}{H:Hp}{s:Shared}{T:String}{x:V}{v:Value}(I:Inv X pins O H s)(r:xn x v)(ty:tyV X.K T x H): s.TypeIs v T/\∀ a,v=.ref a->∃ ob,s.heap.get? a=some ob/\ob.dict=none:=by cases x with
 | str z=>
  obtain ⟨t,rfl⟩:=r;cases (show T="str" from ty);exact ⟨typeIs_str s z t,fun _ e=>nomatch e⟩ | int i=>
  obtain ⟨t,rfl⟩:=r;cases (show T="int" from ty);exact ⟨typeIs_int s i t,fun _ e=>nomatch e⟩ | ref p=>
  cases r;rcases ty with ⟨rfl,xs,hq⟩ | ⟨rfl,o,hk,hc,hd⟩ | ⟨rfl,hk⟩ | ⟨rfl,S,n,hk⟩
  ·obtain ⟨its,_,pl,_⟩:=I.list hq;refine ⟨pl.isList.typeIs,fun a e=>?_⟩;cases e;obtain ⟨o,n,e,c,hd,_⟩:=pl;exact ⟨o,e,hd⟩
  ·refine ⟨⟨o,I.kIn p o hk,hc⟩,fun a e=>?_⟩;cases e;exact ⟨o,I.kIn _ o hk,hd⟩
  ·have z:∃ o,s.heap.get? p=some o/\o.ExactDict:=by
    rcases hk with ⟨kvs,hk⟩ | ⟨kvs,hk⟩
    ·obtain ⟨_,_,_,_,o,_,_,e,ex,_⟩:=I.hok p _ hk;exact ⟨o,e,ex⟩
    ·obtain ⟨_,_,_,_,o,_,_,e,ex,_⟩:=I.hok p _ hk;exact ⟨o,e,ex⟩
   obtain ⟨o,e,ex⟩:=z;refine ⟨⟨o,e,ex.1⟩,fun a e2=>?_⟩;cases e2;exact ⟨o,e,ex.2.1⟩
  ·obtain ⟨o,_,_,_,e,ex,_⟩:=I.hok p _ hk;refine ⟨⟨o,e,ex.1⟩,fun a e2=>?_⟩;cases e2;exact ⟨o,e,ex.2.1⟩ | _=>exact False.elim ty
def tBM(K:W.Frag)(T:String)(r:V->List V->Hp->VK->Prop)(to:TE)(t:TA):TE:=fun O H Q=>to O H fun x H1=>tyV K T x H1/\t O H1 fun xs H2=>r x xs H2 Q
variable {o e:Expr}{es:List Expr}{to:TE}{t:TA}{name:Str}{apos cpos:Pos}{T id:String}{r:V->List V->Hp->VK->Prop}
theorem zik (pa:PlainAttrs T) (slot:Slot T name id) (hty:typeOf (.builtin id)=pure (.type "method_descriptor")) (hm:MtR X id r) (ho:PE X o to) (ha:PA X (e::es) t) (hbase:attributeBase o name X.env (eval o X.env)=eval o X.env:=by rfl) (hfew:((backTo cpos (starEach (e::es) X.env)).all (fun x=>!x.1)&&(backToKw cpos (keywordEach [] X.env)).all (fun x=>x.1.isSome) && decide ((e::es).length+([]:List Keyword).length+(if ([]:List Keyword).isEmpty then 0 else 1)<30))=true:=by rfl) (hline:(apos.endLine==cpos.line)=true:=by rfl) (hs:starEach (e::es) X.env=(false,eval e X.env)::starEach es X.env:=by rfl) (hplain:(backTo cpos (starEach es X.env)).any (·.1)=false:=by rfl): PE X (.Call (.Attribute o name apos) (e::es) [] cpos) (tBM X.K T r to t):=by
 intro pins s O H Q I h;refine wpAny_Call_method_late hbase hfew hline rfl (thn (ho pins s O H _ I h) fun v s1 ⟨x,H1,I1,r1,ty,q1⟩=>?_);obtain ⟨h1,h2⟩:=zfm I1 r1 ty;refine ⟨T,id,pa,slot,hty,h1,h2,?_⟩;have hA:=ha cpos pins s1 O H1 _ I1 q1;rw [hs] at hA ⊢;refine Calls.callWith_builtin (by show (false||(backTo cpos (starEach es X.env)).any (·.1))=false;rw [hplain]<;>rfl) (Calls.evalArgs_plain ?_);exact thn hA fun us s2 ⟨vs,H2,I2,r2,q2⟩=>hm pins s2 O H2 x vs v us Q I2 r1 r2 q2
end
def MtM (X:Cx) (id:String) (r:V->List V->Hp->VK->Prop):Prop:= ∀ (pins:List (Addr×Obj)) (s:Shared) (O:St) (H:Hp) (x:V) (xs:List V) (v:Value) (us:List Value) (Q:VK),Inv X pins O H s->xn x v->xp xs us->r x xs H Q-> wpAny (model X.prog X.w) X.A (call (.builtin id) (v::us)) (EP X pins O Q) X.xe s
theorem xp.one:∀ {x:V}{us:List Value},xp [x] us->∃ u,us=[u]/\xn x u | _,_,.cons r .nil=>⟨_,rfl,r⟩
section
variable {X:Cx}{pins:List (Addr×Obj)}{O:St}{H:Hp}{s:Shared}{l b:Addr}{xs ys zs:List V}
theorem Inv.lset {its its':List Value} {n:Nat} {f:Array Value->Array Value} {t':Nat} (I:Inv X pins O H s) (hH:H l=some (.lst xs)) (e:s.heap.get? l=some {cls:=.type "list",data:=.seq its.toArray n}) (hf:f its.toArray=its'.toArray) (hv:xp ys its') (hz:ys.length<=sizeLine): Inv X pins O (upd H l (.lst ys)) {s with heap:=s.heap.update l (Obj.mapSeq f),toks:=t'}:=by
 have q:=PySem.IsL.update e f;rw [hf] at q;refine I.write (x:=l) (e:=l) (by rw [hH];exact trivial) (.inl rfl) (fun b' u hb hu=>(Heap.get?_update_other s.heap (Obj.mapSeq f) (Ne.symm hb)).trans hu) ⟨_,q⟩ ?_;exact ⟨hz,its',_,hv,q⟩
theorem Inv.lnew {its:List Value} {t':Nat} (I:Inv X pins O H s) (hv:xp ys its) (hz:ys.length<=sizeLine): Inv X pins O (upd H s.heap.objs.size (.lst ys)) {s with heap:=s.heap.push {cls:=.type "list",data:=.seq its.toArray},toks:=t'}:= I.laid (fun _ _ q=>Heap.get?_push_of_some _ q) (Nat.le_refl _) ⟨hz,its,0,hv,Heap.get?_push_size _ rfl⟩
theorem Inv.fresh(I:Inv X pins O H s):H s.heap.objs.size=none:=I.hok.fresh (Nat.le_refl _)
theorem Inv.lstM(I:Inv X pins O H s)(hH:H l=some (.lst xs)):xs.length<=sizeLine/\∃ (its:List Value)(n:Nat),xp xs its/\xs.length=its.length/\s.heap.get? l=some {cls:=.type "list",data:=.seq its.toArray n}:=by
 obtain ⟨z,its,n,r,e⟩:=I.hok l _ hH;exact ⟨z,its,n,r,r.length,e⟩
end
section
variable {X:Cx}
def zdT:V->List V->Hp->VK->Prop:=fun x vs H Q=>∃ l xs y,x=.ref l/\vs=[y]/\H l=some (.lst xs)/\xs.length<sizeLine/\Q .non (upd H l (.lst (xs++[y])))
theorem z9J:MtM X "list.append" zdT:=by
 intro pins s O H x vs v us Q I rx rv h;obtain ⟨l,xs,y,rfl,rfl,hH,hz,q⟩:=h;cases rx;obtain ⟨u,rfl,ru⟩:=rv.one;obtain ⟨z,its,n,r,hl,e⟩:=I.lstM hH;refine call_meets F.slot_list_append ⟨_,e,rfl⟩ F.entry_list_append (F.args_list_append_2 _ _) (PySem.list_append l its.toArray n u (by rw [List.size_toArray];omega)) ⟨e,?_⟩;refine ⟨.non,_,I.lset (its':=its++[u]) hH e (by simp) (r.append (.cons ru .nil)) ?_,rfl,q⟩;rw [List.length_append,List.length_singleton];omega
end
end L2
namespace Att
open PySem.W PySem.Calls
theorem z1L{P:Params}{h:Heap}:∀ (ns:List Int)(vs:List Value),WellAll P h vs (ns.map WData.int)->IntsAre vs ns:=by
 intro ns;induction ns with
 | nil=>
  intro vs w;rw [List.map_nil] at w;cases w;exact .nil | cons n ns ih=>
  intro vs w;rw [List.map_cons] at w;cases w with | cons a b=>
   cases a;exact .cons _ _ (ih _ b)
theorem zao {l:OpenLaw} {n:Nat} (hn:l.most=some n) {P:Params} {h:Heap} {args:List WData} {vals:List Value} (hpre:l.row.toRowW.claim.pre args=true) (hwl:WellAll P h vals args): ∃ a vs ns,vals=[Value.ref a]/\args=[WData.list (ns.map WData.int)]/\h.get? a=some {cls:=.type "list",data:=.seq vs.toArray}/\IntsAre vs ns/\ns.length<=n:=by
 have hsh:WShape.hasAll [] args [.list .int]=true:=(pre_splitW hpre).1;have hc:l.pre.holds [] {args:=args}=true:=(pre_splitW hpre).2;obtain ⟨d,r,rfl,h1,h2⟩:=hasAllW_cons hsh;obtain rfl:=hasAllW_nil h2;obtain ⟨xs,rfl,h3⟩:=hasW_list h1;obtain ⟨ns,rfl⟩:=items_int h3;have hlen:ns.length<=n:=by
  unfold OpenLaw.pre at hc;have h4:(WTm.not (.lt (.lit (.int (n:Int))) (.len (.arg 0)))).holds [] {args:=[.list (ns.map .int)]}=true:=by
   have h4:=(holds_andW hc).1;rw [hn] at h4;exact h4
  have h5:=condW_of h4 (w_not (w_lt w_lit (w_len_list (w_arg rfl))));rw [List.length_map] at h5;refine Nat.le_of_not_lt fun q=>?_;have q':(n:Int)<((ns.length:Nat):Int):=by omega
  first
   | (rw [decide_eq_true q'] at h5;exact absurd h5 (by decide)) | (simp at h5;omega)
 cases hwl with | cons w1 w2=>
  cases w2;cases w1 with | list ho hall=>exact ⟨_,_,ns,rfl,rfl,ho,z1L ns _ hall,hlen⟩
theorem z9K (l:OpenLaw) (args:List WData):l.row.toRowW.claim.post args (.bool true) args=true:= postW_of (r:=l.row.toRowW) (X:=(true==true)) (show WShape.has [] (.bool true) .bool=true by first | rfl | decide | simp [WShape.has,WShape.arms,WShape.armsAll]) (show (WTm.eq .res (.lit (.bool true))).value [] {args:=args,res:=some (.bool true),after:=args}=some (.bool (true==true)) from w_eq_bool (w_res rfl) w_lit) rfl
theorem z1c{l:OpenLaw}{n:Nat}{q:Program}{loose:List Str}{XP:(Str->Option Value)->Heap->Prop}{YP:World->Heap->Prop}{d:DefRec} (hn:l.most=some n)(hdf:d.params.defaults=[]) (call:∀ (w:World)(s₀ s₁:Shared)(mg mb:Str->Option Value)(fa:Addr)(o:Obj)(pm cd doc:Value)(a:Addr)(vs:List Value)(ns:List Int), Ground q loose [] XP w s₀ mg mb s₁.heap->YP w s₁.heap-> s₁.heap.get? fa=some o->o.data=.func (docDef d.name d.params d.body d.scope pm cd doc)->s₁.heap.CodeRec cd d.name->mg d.name=some (.ref fa)-> s₁.heap.get? a=some {cls:=.type "list",data:=.seq vs.toArray}->IntsAre vs ns->ns.length<=n->s₁.gens=#[]-> codeAny (model l.prog w) callerA (.call (.ref fa) ⟨[.ref a],[]⟩) (fun r s'=>r=.ok (.ret (.bool true))/\OldK s₁.heap s'.heap/\s'.os=s₁.os/\AllBare s'.gens) s₁): WalkO q loose XP YP l.row.toRowW d [] (fun f vs=>PySem.call f vs):=by
 intro w s₀ s₁ mg mb G Yy fa o pm cd doc dV kV ho hd hcd hD hmg hg args vals as hpre hlay hrd hwl hlo;obtain rfl:dV=.none:=Dflts.none hD hdf;obtain rfl:kV=.none:=Dflts.noKw hD;obtain ⟨a,vs,ns,rfl,rfl,hobj,hints,hlen⟩:=zao hn hpre hwl;refine enter_call (codeAny_mono (call w s₀ s₁ mg mb fa o pm cd doc a vs ns G Yy ho (fd_plain hd) hcd hmg hobj hints hlen hg) fun r s' hq=>?_);obtain ⟨rfl,h2,h3,h4⟩:=hq;exact ⟨.inl ⟨.bool true,.bool true,[],rfl,fun _=>rfl,.bool true,z9K l _,fun _=>⟨List.Pairwise.nil,fun _ hm=>(nomatch hm)⟩⟩,h2,h3,h4⟩
section
variable {prog:Program}{w:World}{A:Around}{E:Value->Shared->Prop}{s:Shared}{K:Frag}
def ledger(h:Heap)(L d:Addr):List (Addr×Obj):=(List.range h.objs.size).filterMap fun a=>if a=L\/a=d then none else (h.get? a).map fun o=>(a,o)
end
end Att
namespace L2
open PySem.Spec
theorem z4h:∀ {vs:List Value}{ns:List Int},IntsAre vs ns->xp (ns.map V.int) vs
 | _,_,.nil=>.nil | _,_,.cons n t h=>.cons ⟨t,rfl⟩ (z4h h)
def zgV(H:Hp):Prop:=∀ b,H b=none\/∃ o xs,H b=some (.frz o (.lst xs))
theorem z79 {P:Program} {w:World} {K:W.Frag} {mg mb:Str->Option Value} {CX:CXT} {k:Nat} {fa a:Addr} {fd:FuncData} {x:Str} {sp:Sp} {s₁:Shared} {vs:List Value} {ns:List Int} (KX:K.In s₁.heap) (hns:s₁.heap.Ns mainGlobals mg) (hb:s₁.heap.Ns builtinsNs mb) (hbb:∀ x:Str,x≠"__name__"->mb x=bootBuiltins x) (hlim:s₁.heap.NoLimit) (hg:s₁.gens=#[]) (ha:s₁.heap.get? a=some {cls:=.type "list",data:=.seq vs.toArray}) (hi:IntsAre vs ns) (hl:ns.length<=sizeLine) (hr:z0B k callerA) (F:∀ base:Heap,K.In base->base.Ns mainGlobals mg->z2I P w K mg base CX k fa fd [x] sp) (hbind:∀ (s:Shared) (u:Value),BindsTo s fd ⟨[u],[]⟩ [(x,u)]) (hsp:∀ H:Hp,zgV H->SqL K H a (ns.map V.int)->sp [.ref a] H (fun v _=>v=.bl true) fun _ _ _=>False) (hCX:∀ H e s',CX [] H s₁ (fun _ _ _=>False) e s'->False): codeAny (model P w) callerA (.call (.ref fa) ⟨[.ref a],[]⟩) (fun r s'=>r=.ok (.ret (.bool true))/\OldK s₁.heap s'.heap/\s'.os=s₁.os/\AllBare s'.gens) s₁:=by
 have rv:=z4h hi;have lenV:=hi.length;have core:∀ H:Hp,zgV H->SqL K H a (ns.map V.int)->HOk P w H s₁.heap->(∀ b,H b≠none->b=a)->(H a≠none->K.lookup a=none)-> codeAny (model P w) callerA (.call (.ref fa) ⟨[.ref a],[]⟩) (fun r s'=>r=.ok (.ret (.bool true))/\OldK s₁.heap s'.heap/\s'.os=s₁.os/\AllBare s'.gens) s₁:=by
  intro H hO hS hok hA hK;have base_of:∀ {b:Addr} {o:Obj},s₁.heap.get? b=some o->H b=none->(zb7 s₁.heap H).get? b=some o:=fun e n=>zb6 e n;have noA:∀ {b:Addr} {o:Obj} {es:Array DictEntry} {ep:Nat},s₁.heap.get? b=some o->o.data=.dict es ep->H b=none:=fun {b o es ep} e d=>by cases q:H b with
   | none=>rfl | some u=>
    have e':b=a:=hA b (by rw [q];simp);subst e';rw [ha] at e;cases e;have d':Data.seq vs.toArray _=Data.dict es ep:=d;cases d'
  have nsK:∀ {b:Addr} {m:Str->Option Value},s₁.heap.Ns b m->(zb7 s₁.heap H).Ns b m:=fun {b m} ⟨o,es,ep,e,d,r⟩=>⟨o,es,ep,base_of e (noA e d),d,r⟩;have hKb:K.In (zb7 s₁.heap H):=fun b o e=>base_of (KX b o e) (by cases q:H b with
   | none=>rfl | some u=>
    have e':b=a:=hA b (by rw [q];simp);subst e';rw [hK (by rw [q];simp)] at e;cases e);have hM:Mod K mg (zb7 s₁.heap H):=⟨hKb,nsK hns,⟨mb,nsK hb,hbb⟩,let ⟨mc,h1,h2⟩:=hlim;⟨mc,nsK h1,h2⟩⟩;have e0:zgS P w K mg (zb7 s₁.heap H) callerA [] s₁ H:=⟨rfl,hM,fun b o e=>zeB e,Nat.le_of_eq (z8B _ _),trivial,fun b hb=>absurd (show b∈([]:List Addr) from hb) (by simp),hok,.of_eq hg⟩;refine codeAny_mono ((F _ hKb (nsK hns)).run callerA [] s₁ H ⟨[.ref a],[]⟩ [.ref a] [.ref a] _ _ hr e0 (hbind s₁ (.ref a)) (.cons rfl .nil) (hsp H hO hS)) fun r s' h=>?_;cases r with
  | error e=>exact (hCX H e s' h).elim | ok fl=> cases fl with
   | next=>exact False.elim h | brk=>exact False.elim h | cont=>exact False.elim h | ret u=>
    obtain ⟨v,H',os,bare,un,hok',r',q⟩:=h;have q':v=.bl true:=q;subst q';obtain rfl:u=Value.bool true:=r';refine ⟨rfl,OldK.of_keep fun b o e=>?_,os,bare⟩;cases q:H b with
    | none=>exact un.keep b o e q (by intro z;exact absurd (show b∈([]:List Addr) from z) (by simp)) (by simp) | some u=>
     rcases hO b with z | ⟨ob,xs,z⟩;·rw [q] at z;cases z
     ·have z2:=un.frzs b ob _ z;obtain ⟨e1,_⟩:=hok b _ z;obtain ⟨e2,_⟩:=hok' b _ z2;rw [e] at e1;cases e1;exact e2
 cases hk:K.lookup a with
 | some o=>
  have e:=KX a o hk;rw [ha] at e;cases e;refine core (fun _=>none) (fun _=>.inl rfl) (.inr ⟨_,vs.toArray,_,hk,rfl,rfl,rfl,by rw [List.size_toArray,lenV];exact hl,by simpa using rv⟩) (fun b u z=>by have z':(none:Option HO)=some u:=z;cases z') (fun b z=>absurd rfl z) fun z=>absurd rfl z | none=>
  refine core (fun b=>if b=a then some (.frz {cls:=.type "list",data:=.seq vs.toArray} (.lst (ns.map V.int))) else none) (fun b=>?_) (.inl (.inr ⟨{cls:=.type "list",data:=.seq vs.toArray},if_pos rfl⟩)) (fun b u z=>?_) (fun b z=>?_) fun _=>hk
  ·by_cases hb:b=a;·exact .inr ⟨_,_,if_pos hb⟩
   ·exact .inl (if_neg hb)
  ·by_cases hb:b=a
   ·have z':=(if_pos hb).symm.trans z;cases z';subst hb;exact ⟨ha,by rw [List.length_map];exact hl,vs,_,rv,ha⟩
   ·have z':=(if_neg hb).symm.trans z;cases z'
  ·by_cases hb:b=a;·exact hb
   ·exact absurd (if_neg hb) z
abbrev KOf{K:W.Frag}{h:Heap}(_:K.In h):W.Frag:=K
theorem zis{l:W.OpenLaw}{n k:Nat}{q:Program}{loose:List Str}{XP:(Str->Option Value)->Heap->Prop}{YP:World->Heap->Prop}{d:DefRec}{K:Params->W.Frag}{CX:World->CXT}{sp:World->Sp}{x:Str} (hn:l.most=some n)(hn2:n<=sizeLine)(hdf:d.params.defaults=[])(hr:z0B k callerA) (hY:∀ (w:World)(h:Heap),YP w h->(K w.params).In h) (F:∀ (w:World)(mg:Str->Option Value)(fa:Addr)(h:Heap),(K w.params).In h->h.Ns mainGlobals mg->mg d.name=some (.ref fa)-> ∃ fd:FuncData,(∀ (s:Shared)(u:Value),BindsTo s fd ⟨[u],[]⟩ [(x,u)])/\ ∀ base:Heap,(K w.params).In base->base.Ns mainGlobals mg->z2I l.prog w (K w.params) mg base (CX w) k fa fd [x] (sp w)) (hsp:∀ (w:World)(H:Hp)(a:Addr)(ns:List Int),ns.length<=n->zgV H->SqL (K w.params) H a (ns.map V.int)->sp w [.ref a] H (fun v _=>v=.bl true) fun _ _ _=>False) (hCX:∀ (w:World)(H:Hp)(s:Shared)(e:Value)(s':Shared),CX w [] H s (fun _ _ _=>False) e s'->False): W.WalkO q loose XP YP l.row.toRowW d [] (fun f vs=>PySem.call f vs):=by
 refine Att.z1c hn hdf fun w s₀ s₁ mg mb fa o pm cd doc a vs ns G Yy ho hd hcd hmg hobj hints hlen hg=>?_;have KX:=hY w _ Yy;obtain ⟨fd,hb,hF⟩:=F w mg fa _ KX G.T.g hmg;exact z79 KX G.T.g G.T.b G.T.builtins G.T.nolimit hg hobj hints (Nat.le_trans hlen hn2) hr hF hb (fun H hO hS=>hsp w H a ns hlen hO hS) fun H e s'=>hCX w H s₁ e s'
def kF(s:Stmt):Arguments:=match s with
 | .FunctionDef _ a _ _ _ _ _ _ _ _=>a | _=>{posonlyargs:=[],args:=[],vararg:=none,kwonlyargs:=[],kw_defaults:=[],kwarg:=none,defaults:=[]}
def uF(s:Stmt):List Stmt:=match s with
 | .FunctionDef _ _ b _ _ _ _ _ _ _=>b | _=>[]
def zg(s:Stmt):Scope:=match s with
 | .FunctionDef _ _ _ _ _ _ sc _ _ _=>sc | _=>{kind:=.function,names:=[],isGenerator:=false,isCoroutine:=false}
abbrev CX0:CXT:=fun _ _ _ _ _ _=>False
abbrev E0:XK:=fun _ _ _=>False
theorem zy{X:Cx}:Passes CX0 X E0:=fun _ _ _ _ _ _ _ h=>h.elim
structure Fun(K:W.Frag)(x qual:Str)(st:Stmt)(f:Addr)(fd:FuncData):Prop where
 ex:∃ (oc:Value)(od:Option Addr)(kV doc pm:Value)(an:Option Addr)(cdv ct:Value)(osl:Array (Option Value)), fd=W.fnOf x qual (kF st) (uF st) (zg st) .none kV doc pm an cdv ct/\K.lookup f=some ⟨oc,od,.func fd,osl⟩/\W.codeIn K cdv qual=true
 kp:W.keepIn K (.ref f)=true
section
variable {P:Program}{w:World}{K:W.Frag}{mg:Str->Option Value}{base:Heap}
theorem Fun.ok{x qual:Str}{st:Stmt}{f:Addr}{fd:FuncData}{N ps:List Str}{k:Nat}{sp:Sp}(F:Fun K x qual st f fd)(S:zr N ps (zg st))(len:∀ vs H Q E,sp vs H Q E->vs.length=ps.length) (hbody:∀ (cdv:Value)(A:Around)(outer:List Env)(s:Shared)(H:Hp)(vs:List V)(Q:VK)(E:XK),z0B k (A.deeper (envOfC qual (zg st) s.heap.objs.size f cdv))->sp vs H Q E-> ∃ t,PSs (zaz CX0 P w K mg base N qual (zg st) f cdv A outer s H E).nox (uF st) t/\t {nx:=fun _ H'=>Q .non H',rt:=Q} (start N vs) H):z2I P w K mg base CX0 (k+1) f fd ps sp:=by
 obtain ⟨oc,od,kV,doc,pm,an,cdv,ct,osl,rfl,lk,hcd⟩:=F.ex;refine zh9 lk hcd S len fun A outer s H vs Q E hr hsp=>?_;obtain ⟨t,h,q⟩:=hbody cdv A outer s H vs Q E hr hsp;exact ⟨t,h.nox,q⟩
theorem Fun.binds{x qual:Str}{st:Stmt}{f:Addr}{fd:FuncData}{ps:List Str}(F:Fun K x qual st f fd) (h:∀ (kV doc pm:Value)(an:Option Addr)(cdv ct:Value)(us:List Value),us.length=ps.length->bindArgs (W.fnOf x qual (kF st) (uF st) (zg st) .none kV doc pm an cdv ct) ⟨us,[]⟩=pure (ps.zip us)):Binds K fd ps []:=by
 obtain ⟨oc,od,kV,doc,pm,an,cdv,ct,osl,rfl,lk,hcd⟩:=F.ex;exact .all (h kV doc pm an cdv ct)
theorem zgh{x qual:Str}{st:Stmt}{f:Addr}{oc:Value}{od an:Option Addr}{osl:Array (Option Value)}{kV doc pm cdv ct:Value}(l:K.lookup f=some ⟨oc,od,.func (W.fnOf x qual (kF st) (uF st) (zg st) .none kV doc pm an cdv ct),osl⟩) (c:W.codeIn K cdv qual=true)(k:W.keepIn K (.ref f)=true):Fun K x qual st f (W.fnOf x qual (kF st) (uF st) (zg st) .none kV doc pm an cdv ct):=⟨⟨oc,od,kV,doc,pm,an,cdv,ct,osl,rfl,l,c⟩,k⟩
end
end L2
set_option maxHeartbeats 4000000
namespace L2
open PySem.Spec
def z47(env:Env):List (Str×NameKind)->List (Str×Addr)->List (Str×Addr)
 | [],acc=>acc | (n,k)::r,acc=>z47 env r (if k==.free then (match env.cells.lookup n with | some c=>(n,c)::acc | none=>acc) else acc)
theorem z1P{env:Env}:∀ (names:List (Str×NameKind))(acc:List (Str×Addr)),(∀ x c,acc.lookup x=some c->env.cells.lookup x=some c)->∀ x c,(z47 env names acc).lookup x=some c->env.cells.lookup x=some c
 | [],acc,ha=>ha | (n,k)::r,acc,ha=>by
  unfold z47;refine z1P r _ fun x c=>?_;split
  ·split
   ·rename_i c' hc;intro h;rw [List.lookup_cons] at h;split at h
    ·rename_i hb;cases h;rw [beq_iff_eq.mp hb];exact hc
    ·exact ha x c h
   ·exact ha x c
  ·exact ha x c
theorem z4Q{env:Env}{x:Str}:∀ (names:List (Str×NameKind))(acc:List (Str×Addr)),(acc.lookup x).isSome=true->((z47 env names acc).lookup x).isSome=true
 | [],acc,ha=>ha | (n,k)::r,acc,ha=>by
  unfold z47;refine z4Q r _ ?_;split
  ·split
   ·rw [List.lookup_cons];split;·rfl
    ·exact ha
   ·exact ha
  ·exact ha
theorem z39{env:Env}{x:Str}:∀ (names:List (Str×NameKind))(acc:List (Str×Addr)),(x,NameKind.free)∈names->(∃ c,env.cells.lookup x=some c)->∃ c,(z47 env names acc).lookup x=some c
 | [],acc,h,_=>nomatch h | (n,k)::r,acc,h,hc=>by
  rcases List.mem_cons.mp h with e | h
  ·cases e;obtain ⟨c,hc⟩:=hc;unfold z47;have q:((z47 env r ((x,c)::acc)).lookup x).isSome=true:=z4Q r _ (by simp);rw [if_pos (by rfl),hc];exact Option.isSome_iff_exists.mp q
  ·unfold z47;exact z39 r _ h hc
theorem z2y{env:Env}(f:Str×NameKind->List (Str×Addr)->Sem (ForInStep (List (Str×Addr)))) (hf:∀ n k cs,f (n,k) cs=if k==.free then (do let a <- cellOf env n;pure (.yield ((n,a)::cs))) else pure (.yield cs)): ∀ (names:List (Str×NameKind))(acc:List (Str×Addr)),(∀ y∈names,y.2=.free->∃ c,env.cells.lookup y.1=some c)->forIn names acc f=pure (z47 env names acc)
 | [],acc,_=>rfl | (n,k)::r,acc,h=>by
  rw [List.forIn_cons,hf];have ih:=fun acc'=>z2y f hf r acc' fun y hy=>h y (List.mem_cons_of_mem _ hy);unfold z47;by_cases hk:k=.free
  ·subst hk;obtain ⟨c,hc⟩:=h (n,.free) List.mem_cons_self rfl;have hc':env.cells.lookup n=some c:=hc;have e:cellOf env n=pure c:=by unfold cellOf;rw [hc']
   rw [if_pos (by rfl),if_pos (by rfl),e,hc',pure_bind,pure_bind];exact ih _
  ·have hb:(k==NameKind.free)=false:=by simpa using hk
   rw [hb,if_neg (by decide),if_neg (by decide),pure_bind];exact ih _
theorem jY{scope:Scope}{env:Env}(h:∀ y∈scope.names,y.2=.free->∃ c,env.cells.lookup y.1=some c):closureFor scope env=pure (z47 env scope.names []):=by
 simp only [closureFor];rw [z2y (env:=env) _ (fun n k cs=>by cases hk:k==NameKind.free<;>simp [hk]) scope.names [] h];simp
theorem wT:∀ (names:List (Str×NameKind))(n:Nat)(acc:List (Str×Addr)),cellsFrom n names acc=cellsFrom n names []++acc
 | [],_,_=>rfl | (x,k)::r,n,acc=>by
  unfold cellsFrom;split
  ·rw [wT r (n+1) ((x,n)::acc),wT r (n+1) [(x,n)]];simp
  ·exact wT r n acc
theorem uh{x:Str}{c:Addr}:∀ (names:List (Str×NameKind))(n:Nat)(acc:List (Str×Addr)),(x,c)∈cellsFrom n names acc->(x,c)∈acc\/(x,NameKind.cell)∈names
 | [],_,_,h=>.inl h | (y,k)::r,n,acc,h=>by
  unfold cellsFrom at h;split at h
  ·rename_i hk;rcases uh r _ _ h with q | q
   ·rcases List.mem_cons.mp q with e | q
    ·cases e;refine .inr ?_;rw [show k=NameKind.cell from beq_iff_eq.mp hk];exact List.mem_cons_self
    ·exact .inl q
   ·exact .inr (List.mem_cons_of_mem _ q)
  ·rcases uh r _ _ h with q | q;·exact .inl q
   ·exact .inr (List.mem_cons_of_mem _ q)
def zbV(X:Cx)(scope:Scope)(C:Addr):Env:= {scope:=relabel scope X.env,locals:=C,globals:=X.env.globals,cells:=cellsFrom (C+1) scope.names []++z47 X.env scope.names [],qual:=X.env.qual,func:=none,code:=X.env.code,frame:=X.env.frame,builtins:=X.env.builtins}
def yi(X:Cx)(N':List Str)(scope:Scope)(ex:List Addr)(s:Shared)(H:Hp):Cx where
 prog:=X.prog;w:=X.w;K:=X.K;mg:=X.mg;base:=X.base;A:=X.A;N:=N';s₀:=s;H₀:=H;env:=zbV X scope s.heap.objs.size;outer:=X.stack;stack:=X.stack;ex:=ex;fn:=fun x=>scope.names.lookup x==some .cell;calm:=X.calm;pn:=[];xe:=fun _ _=>False
theorem jb{env:Env}{x:Str}{k:NameKind}:∀ {names:List (Str×NameKind)},names.lookup x=some k-> (names.map fun (n,k)=>if (k==NameKind.free&&env.scope.kind==.function&&env.kindOf n==some .cell) then (n,NameKind.cell) else (n,k)).lookup x=some k\/ (k=.free/\(names.map fun (n,k)=>if (k==NameKind.free&&env.scope.kind==.function&&env.kindOf n==some .cell) then (n,NameKind.cell) else (n,k)).lookup x=some .cell)
 | [],h=>by simp at h | (n,k')::r,h=>by
  have ih:=@jb env x k r;show List.lookup x ((if (k'==NameKind.free&&env.scope.kind==.function&&env.kindOf n==some .cell)=true then (n,NameKind.cell) else (n,k'))::_)=_\/(_/\List.lookup x ((if (k'==NameKind.free&&env.scope.kind==.function&&env.kindOf n==some .cell)=true then (n,NameKind.cell) else (n,k'))::_)=_);cases hx:x==n with
  | true=>
   simp only [List.lookup_cons,hx] at h;cases h;by_cases hc:(k==NameKind.free&&env.scope.kind==.function&&env.kindOf n==some .cell)=true
   ·rw [if_pos hc];simp only [Bool.and_eq_true,beq_iff_eq] at hc;exact .inr ⟨hc.1.1,by simp [List.lookup_cons,hx]⟩
   ·rw [if_neg hc];exact .inl (by simp [List.lookup_cons,hx]) | false=>
   simp only [List.lookup_cons,hx] at h;by_cases hc:(k'==NameKind.free&&env.scope.kind==.function&&env.kindOf n==some .cell)=true;·rw [if_pos hc];simp only [List.lookup_cons,hx];exact ih h
   ·rw [if_neg hc];simp only [List.lookup_cons,hx];exact ih h
theorem vL{env:Env}{x:Str}{k:NameKind}:∀ {names:List (Str×NameKind)}, (names.map fun (n,k)=>if (k==NameKind.free&&env.scope.kind==.function&&env.kindOf n==some .cell) then (n,NameKind.cell) else (n,k)).lookup x=some k->(k=.cell\/k=.free)->(x,NameKind.cell)∈names\/(x,NameKind.free)∈names
 | [],h,_=>by simp at h | (n,k')::r,h,hk=>by
  have ih:=@vL env x k r;change List.lookup x ((if (k'==NameKind.free&&env.scope.kind==.function&&env.kindOf n==some .cell)=true then (n,NameKind.cell) else (n,k'))::_)=_ at h;have step:(List.lookup x (r.map fun (n,k)=>if (k==NameKind.free&&env.scope.kind==.function&&env.kindOf n==some .cell) then (n,NameKind.cell) else (n,k))=some k)->(x,NameKind.cell)∈(n,k')::r\/(x,NameKind.free)∈(n,k')::r:=fun q=> (ih q hk).elim (fun z=>.inl (List.mem_cons_of_mem _ z)) fun z=>.inr (List.mem_cons_of_mem _ z);by_cases hc:(k'==NameKind.free&&env.scope.kind==.function&&env.kindOf n==some .cell)=true
  ·rw [if_pos hc,List.lookup_cons] at h;split at h
   ·rename_i hb;simp only [Bool.and_eq_true,beq_iff_eq] at hc;rw [beq_iff_eq.mp hb,hc.1.1];exact .inr List.mem_cons_self
   ·exact step h
  ·rw [if_neg hc,List.lookup_cons] at h;split at h
   ·rename_i hb;cases h;rw [beq_iff_eq.mp hb];rcases hk with rfl | rfl;·exact .inl List.mem_cons_self
    ·exact .inr List.mem_cons_self
   ·exact step h
def inner(mp:List (Option Nat))(O:St):St:=mp.map fun o=>match o with | some j=>(O[j]?).getD none | none=>none
def z49(N:List Str)(names:List (Str×NameKind)):List Str->List (Option Nat)->Bool
 | [],[]=>true | _::r,none::mp=>z49 N names r mp | x::r,some j::mp=>N[j]? == some x&&names.lookup x==some .free&&z49 N names r mp | _,_=>false
theorem z3d{N:List Str}{names:List (Str×NameKind)}:∀ {N':List Str}{mp:List (Option Nat)},z49 N names N' mp=true->mp.length=N'.length
 | [],[],_=>rfl | _::_,none::_,h=>by
  simp only [z49] at h;simp only [List.length_cons];rw [z3d h] | _::_,some _::_,h=>by
  simp only [z49,Bool.and_eq_true] at h;simp only [List.length_cons];rw [z3d h.2] | [],none::_,h=>by cases h | [],some _::_,h=>by cases h | _::_,[],h=>by cases h
theorem z6y{N:List Str}{names:List (Str×NameKind)}:∀ {N':List Str}{mp:List (Option Nat)}{i j:Nat}{x:Str},z49 N names N' mp=true->N'[i]? = some x->mp[i]? = some (some j)->N[j]? = some x/\names.lookup x=some .free
 | [],_,_,_,_,_,h,_=>by simp at h | _::_,[],_,_,_,_,_,h=>by simp at h | _::_,none::_,0,_,_,_,_,h=>by simp at h | _::_,some _::_,0,_,_,h,h1,h2=>by
  simp only [z49,Bool.and_eq_true,beq_iff_eq] at h;simp at h1 h2;subst h1 h2;exact h.1 | _::_,none::_,i+1,_,_,h,h1,h2=>by
  simp only [z49] at h;exact z6y (i:=i) h (by simpa using h1) (by simpa using h2) | _::_,some _::_,i+1,_,_,h,h1,h2=>by
  simp only [z49,Bool.and_eq_true] at h;exact z6y (i:=i) h.2 (by simpa using h1) (by simpa using h2)
section
variable {X:Cx}{pins:List (Addr×Obj)}{O:St}{H:Hp}{s s1:Shared}{scope:Scope}{N':List Str}{ex:List Addr}{mp:List (Option Nat)}
theorem z8p{α:Type}{x:Str}{l1 l2:List (Str×α)}{c:α}(h:(l1++l2).lookup x=some c):l1.lookup x=some c\/(l1.lookup x=none/\l2.lookup x=some c):=by
 rw [List.lookup_append] at h;cases e:l1.lookup x with
 | some d=>rw [e] at h;exact .inl h | none=>rw [e] at h;exact .inr ⟨rfl,h⟩
theorem z8s (I:Inv X pins O H s) (hkd:scope.kind=.function) (hnm:∀ y∈scope.names,scope.names.lookup y.1=some y.2) (hfr:∀ y∈scope.names,y.2=.free->X.env.kindOf y.1=some .cell\/X.env.kindOf y.1=some .free) (hmp:z49 X.N scope.names N' mp=true) (hex:∀ b∈ex,b<s.heap.objs.size/\H b=none/\b≠X.env.locals/\b∉X.fs/\(b∈X.ex\/X.s₀.heap.objs.size<=b)/\(∀ x c,X.env.cells.lookup x=some c->c≠b)) (e1:s1.heap=pushCells (s.heap.push {cls:=.type "dict",data:=.dict #[]}) scope.names) (e2:s1.os=s.os) (e3:s1.gens=s.gens): Inv (yi X N' scope ex s H) [] (inner mp O) H s1:=by
 have keep:∀ b o,s.heap.get? b=some o->s1.heap.get? b=some o:=fun b o e=>by rw [e1];exact pushCells_keeps _ _ b o (Heap.get?_push_of_some _ e)
 have ok:=cellsFrom_ok scope.names (s.heap.push {cls:=.type "dict",data:=.dict #[]}) (s.heap.objs.size+1) [] ⟨fun _ _ hm=>(nomatch hm),List.Pairwise.nil⟩ (by rw [Heap.size_push];exact Nat.le_refl _);rw [Heap.size_push,<- e1] at ok;have hclo:∀ x c,(z47 X.env scope.names []).lookup x=some c->X.env.cells.lookup x=some c:=z1P scope.names [] (fun x c h=>by simp at h);have clt:∀ x c,X.env.cells.lookup x=some c->c<s.heap.objs.size:=fun x c h=>by obtain ⟨v,q⟩:=I.cell x c h;exact q.lt
 have own:∀ x c,(cellsFrom (s.heap.objs.size+1) scope.names []).lookup x=some c->s1.heap.IsCell c none/\s.heap.objs.size+1<=c:=fun x c h=>ok.empty x c (PySem.mem_of_lookup h);have both:∀ x c,(zbV X scope s.heap.objs.size).cells.lookup x=some c->((cellsFrom (s.heap.objs.size+1) scope.names []).lookup x=some c/\s1.heap.IsCell c none/\s.heap.objs.size+1<=c)\/(X.env.cells.lookup x=some c):=fun x c h=>by
  rcases z8p h with q | ⟨_,q⟩;·exact .inl ⟨q,own x c q⟩
  ·exact .inr (hclo x c q)
 refine ⟨⟨I.ok.mod,hkd,I.ok.glob,I.ok.blt,Nat.le_refl _,fun x y c h1 h2=>?_,fun x hx=>?_,fun x c hf h=>?_,I.ok.hd,I.ok.frames,.inl rfl,fun b hb=>⟨Nat.ne_of_lt (hex b hb).1,fun x c h=>?_⟩,fun b o e=>I.bs b o e,Nat.le_trans I.ok.bsz I.sz,fun b o e hb=>?_,fun b hb hf=>?_,I.stack,I.stkFree⟩, e2,by rw [e3];exact I.bare,Un.kept keep,?_,fun x c h=>?_,I.hok.fresh (Nat.le_refl _),fun x c h=>?_,fun p hp=>absurd (show p∈([]:List (Addr×Obj)) from hp) (by simp),I.hok.kept keep,?_⟩
 ·rcases both x c h1 with ⟨q1,_,l1⟩ | q1<;>rcases both y c h2 with ⟨q2,_,l2⟩ | q2;·exact name_of_addr ok.apart (PySem.mem_of_lookup q1) (PySem.mem_of_lookup q2)
  ·exact absurd (Nat.lt_of_lt_of_le (clt y c q2) (Nat.le_of_succ_le l1)) (Nat.lt_irrefl _)
  ·exact absurd (Nat.lt_of_lt_of_le (clt x c q1) (Nat.le_of_succ_le l2)) (Nat.lt_irrefl _)
  ·exact I.ok.inj x y c q1 q2
 ·have hx':(x,NameKind.cell)∈scope.names\/(x,NameKind.free)∈scope.names:=by
   rcases hx with hx | hx;·exact vL (env:=X.env) hx (.inl rfl)
   ·exact vL (env:=X.env) hx (.inr rfl)
  show ∃ c,(cellsFrom (s.heap.objs.size+1) scope.names []++z47 X.env scope.names []).lookup x=some c;rw [List.lookup_append];cases e:(cellsFrom (s.heap.objs.size+1) scope.names []).lookup x with
  | some c=>exact ⟨c,rfl⟩ | none=>
   rcases hx' with hx' | hx'
   ·obtain ⟨c,q⟩:=z0v (sc:=scope) (n:=s.heap.objs.size+1) (hnm (x,.cell) hx');rw [q] at e;cases e
   ·obtain ⟨c,q⟩:=z39 (env:=X.env) scope.names [] hx' (I.ok.has x (hfr (x,.free) hx' rfl));exact ⟨c,by simpa using q⟩
 ·have hf':scope.names.lookup x=some .cell:=beq_iff_eq.mp hf;obtain ⟨c',q⟩:=z0v (sc:=scope) (n:=s.heap.objs.size+1) hf';have h':(cellsFrom (s.heap.objs.size+1) scope.names []++z47 X.env scope.names []).lookup x=some c:=h;rw [List.lookup_append,q] at h';have e:c'=c:=Option.some.inj h';subst e;exact Nat.le_of_lt (Nat.lt_of_succ_le (own x c' q).2)
 ·rcases both x c h with ⟨_,_,l⟩ | q
  ·intro z;rw [z] at l;exact absurd (Nat.lt_of_lt_of_le (hex b hb).1 (Nat.le_of_succ_le l)) (Nat.lt_irrefl _)
  ·exact (hex b hb).2.2.2.2.2 x c q
 ·rcases (hex b hb).2.2.2.2.1 with z | z;·exact I.ok.noex b o e z
  ·exact absurd (Nat.lt_of_lt_of_le (Nat.lt_of_lt_of_le (Heap.lt_size e) I.ok.bsz) z) (Nat.lt_irrefl _)
 ·have q:=I.stkSub b hf;rcases List.mem_cons.mp q with z | z;·exact (hex b hb).2.2.1 z
  ·exact (hex b hb).2.2.2.1 z
 ·refine ⟨fun _=>none,?_,fun i x v h1 h2 h3=>?_⟩
  ·rw [e1];exact (Heap.Ns.new s.heap (.type "dict")).keeps (pushCells_keeps _ _)
  ·have h2':(inner mp O)[i]? = some (some v):=h2;unfold inner at h2';rw [List.getElem?_map] at h2';cases em:mp[i]? with
   | none=>rw [em] at h2';cases h2' | some o=>
    rw [em] at h2';cases o with
    | none=>cases h2' | some j=>
     obtain ⟨hj,hl⟩:=z6y hmp h1 em;have hmem:(x,NameKind.free)∈scope.names:=PySem.mem_of_lookup hl;have hv:O[j]? = some (some v):=by
      simp only [Option.map_some] at h2';cases eO:O[j]? with
      | none=>rw [eO] at h2';cases h2' | some o=>rw [eO] at h2';exact h2'
     obtain ⟨m,hn,hlook⟩:=I.loc;have kx:X.env.kindOf x=some .cell\/X.env.kindOf x=some .free:=hfr _ hmem rfl;obtain ⟨u,r,L⟩:=hlook j x v hj hv (by rcases kx with k | k;exact .inr (.inl k);exact .inr (.inr k));refine ⟨u,r,.inr ?_⟩;rcases L with ⟨k,_⟩ | ⟨_,c,hc,hcell⟩;·rcases kx with k' | k'<;>(rw [k] at k';cases k')
     ·have ncell:(x,NameKind.cell)∉scope.names:=fun z=>by
       have a:=hnm _ z;rw [hl] at a;cases a
      refine ⟨?_,c,?_,hcell.keeps keep⟩
      ·rcases jb (env:=X.env) hl with q | ⟨_,q⟩;·exact .inr q
       ·exact .inl q
      ·show (cellsFrom (s.heap.objs.size+1) scope.names []++z47 X.env scope.names []).lookup x=some c;rw [List.lookup_append];cases e:(cellsFrom (s.heap.objs.size+1) scope.names []).lookup x with
       | some c'=> exact absurd ((uh _ _ _ (PySem.mem_of_lookup e)).resolve_left (by simp)) ncell | none=>
        obtain ⟨c2,q⟩:=z39 (env:=X.env) scope.names [] hmem ⟨c,hc⟩;have q2:=hclo x c2 q;rw [hc] at q2;cases q2;simpa using q
 ·rcases both x c h with ⟨_,q,_⟩ | q;·exact ⟨_,q⟩
  ·obtain ⟨v,z⟩:=I.cell x c q;exact ⟨v,z.keeps keep⟩
 ·rcases both x c h with ⟨_,_,l⟩ | q;·exact I.hok.fresh (by omega)
  ·exact I.freeC x c q
 ·unfold inner;rw [List.length_map];exact z3d hmp
end
section
variable {M:Model}{A:Around}{E:Value->Shared->Prop}{s:Shared}
theorem z6t{scope:Scope}{env:Env}{cl:List (Str×Addr)}{Q:Env->Shared->Prop} (h:Q {scope:=scope,locals:=s.heap.objs.size,globals:=env.globals,cells:=cellsFrom (s.heap.objs.size+1) scope.names cl,qual:=env.qual,func:=none,code:=env.code,frame:=env.frame,builtins:=env.builtins} {s with heap:=pushCells (s.heap.push {cls:=.type "dict",data:=.dict #[]}) scope.names}): wpAny M A (newFunctionEnv scope env.globals cl [] env.qual none .none (some env)) Q E s:=by
 simp only [newFunctionEnv,Option.isSome_some,if_true];refine wpAny_bind (wpAny_alloc ?_);refine wpAny_bind (wpAny_layCells _ (fun name kind cells=>by cases hkc:kind==NameKind.cell<;>simp [hkc]) _ _ _ _ ?_);rw [show ({s with heap:=s.heap.push {cls:=.type "dict",data:=.dict #[]}}:Shared).heap.objs.size=s.heap.objs.size+1 from Heap.size_push ..];refine wpAny_bind ?_;rw [List.forIn_nil];exact wpAny_pure (wpAny_pure h)
end
section
variable {prog:Program}{w:World}{A:Around}{E:Value->Shared->Prop}{R:Result->Shared->Prop}{s:Shared}
theorem z4y{elt target iter:Expr}{ifs:List Expr}{scope:Scope}{pos:Pos}{it acc:Value}{env:Env}(I:Nat->Shared->Prop) (turn:∀ n s,I n s->wpAny (model prog w) A (pyNext it) (fun r s₁=>match r with
   | none=>R (.ok .next) s₁ | some v=>wpAny (model prog w) A (letOwnedTupleGo target it v) (fun _ s₁'=>wpAny (model prog w) A (assign target env v) (fun _ s₂=> wpAny (model prog w) A (forIn ifs true fun c r=>if r=true then do let ok <- isTrue c env (eval c env);pure (ForInStep.yield ok) else pure (ForInStep.yield r)) (fun ok s₃=> if ok=true then wpAny (model prog w) A (eval elt env) (fun x s₄=> wpAny (model prog w) A (call (.builtin "list.append") [acc,x]) (fun _ s₅=>∃ m,m<n/\I m s₅) (fun _ _=>False) s₄) (fun _ _=>False) s₃ else ∃ m,m<n/\I m s₃) (fun _ _=>False) s₂) (fun _ _=>False) s₁') (fun _ _=>False) s₁) (fun _ _=>False) s) (n:Nat)(h:I n s): codeAny (model prog w) A (.compLoop (.ListComp elt [⟨target,iter,ifs,0⟩] scope pos) 0 it acc env) R s:=by
 refine codeAny_loop rfl I (fun n s hI=>?_) n h;show wpAny _ A ((compTurn (.ListComp elt [⟨target,iter,ifs,0⟩] scope pos) 0 it acc env).onRaise (fun x=>do noteFrame x env;theTreesLotGoes x)) _ _ s;refine wpAny_noted ?_;rw [compTurn_list];refine wpAny_bind (wpAny_standAt (wpAny_bind (wpAny_mono (turn n s hI) (fun r s₁ h₁=>?_) fun _ _ h'=>h'.elim)));cases r with
 | none=>exact wpAny_pure h₁ | some v=>
  refine wpAny_bind (wpAny_mono h₁ (fun _ s₁' h₁'=>?_) fun _ _ h'=>h'.elim);refine wpAny_bind (wpAny_mono h₁' (fun _ s₂ h₂=>wpAny_bind (wpAny_mono h₂ (fun ok s₃ h₃=>?_) fun _ _ h'=>h'.elim)) fun _ _ h'=>h'.elim);cases ok with
  | false=>exact wpAny_pure ⟨rfl,h₃⟩ | true=> exact wpAny_bind (wpAny_bind (wpAny_mono h₃ (fun x s₄ h₄=>wpAny_bind (wpAny_mono h₄ (fun _ s₅ h₅=>wpAny_pure (wpAny_pure ⟨rfl,h₅⟩)) fun _ _ h'=>h'.elim)) fun _ _ h'=>h'.elim))
end
def z8L(X:Cx)(ifs:List Expr)(t:TT):Prop:= ∀ (pins:List (Addr×Obj))(s:Shared)(O:St)(H:Hp)(Q:Bool->Hp->Prop),Inv X pins O H s->t O H Q-> wpAny (model X.prog X.w) X.A (forIn ifs true fun c r=>if r=true then do let ok <- isTrue c X.env (eval c X.env);pure (ForInStep.yield ok) else pure (ForInStep.yield r)) (TP X pins O Q) X.xe s
theorem zbH{X:Cx}:z8L X [] (fun _ H Q=>Q true H):=fun _ _ _ H _ I h=>wpAny_tests_nil ⟨H,I,h⟩
theorem zbU{X:Cx}{c:Expr}{t:TT}(h:PT X c t):z8L X [c] t:=fun pins s O H Q I hq=>wpAny_tests_one (h pins s O H Q I hq)
theorem Inv.track {X:Cx} {pins:List (Addr×Obj)} {O:St} {H:Hp} {s:Shared} {a:Addr} {o:HO} (I:Inv X pins O H s) (f:z5A X pins H a) (new:xP X.prog X.w (upd H a o) s.heap a o):Inv X pins O (upd H a o) s:=by
 obtain ⟨f0,f1,f2,f3,f4,f5⟩:=f;have hs:HOk X.prog X.w (upd H a o) s.heap:=fun b u e=>by
  by_cases hb:b=a;·subst hb;rw [yn] at e;cases e;exact new
  ·rw [zH hb] at e;exact (I.hok b u e).stay (fun _ _ _ q=>q) (fun c q=>by rw [zH (yK q f0)];exact q) fun c xs q=>by rw [zH (yK q f0)];exact q
 exact I.step (h':=s.heap) (g':=s.gens) (d':=s.drawn) (t':=s.toks) (ch:=[a]) (fun b hb=>by
  have e:b=a:=by simpa using hb
  subst e;exact ⟨f3,f1,f4,f5⟩) (fun b o _ _ _ e _=>e) (fun b o _ _ _ e _=>⟨o.slots,e⟩) (fun b o hb _ n=>by rw [zH (fun z=>hb (by simp [z]))];exact n) (fun b o _ e=>⟨o,e⟩) (fun b xs q=>by rw [zH (yK q f0)];exact q) (fun b u xs q=>by rw [zH (yK q f0)];exact q) (fun b ps q=>⟨#[],by rw [zH (yK q f0),q];simp⟩) (fun _ q=>q) hs I.bare
def zey(wi:TI)(mp:List (Option Nat))(g:TG)(ti:TT)(te:TE):TE:=fun O H Q=>wi O H fun J H1=>∃ W:Nat->Nat->List V->Hp->Prop,(∃ m,W 0 m [] H1)/\∀ i m ys H,W i m ys H-> (J.stop i H/\ys.length<=sizeLine/\∀ p,H p=none->Q (.ref p) (upd H p (.lst ys)))\/ (J.go i H/\∀ x H',J.yld i H x H'->g x (inner mp O) H' fun O2 H2=>(O2.length=(inner mp O).length/\∀ (i:Nat) v,(inner mp O)[i]? = some (some v)->O2[i]? = some (some v))/\ ti O2 H2 fun b H3=>if b=true then te O2 H3 fun y H4=>ys.length<=sizeLine/\∃ m',m'<m/\W (i+1) m' (ys++[y]) H4 else ∃ m',m'<m/\W (i+1) m' ys H3)
def zaU(X:Cx)(pins:List (Addr×Obj))(O:St)(C:Addr)(Q:VK)(acc:Value)(s':Shared):Prop:= ∃ v Hf,Inv X pins O Hf s'/\xn v acc/\Q v Hf/\(∃ m,s'.heap.Ns C m)/\z5A X pins Hf C
theorem z2M {X:Cx} {tg iter elt:Expr} {ifs:List Expr} {scope:Scope} {pos:Pos} {g:TG} {ti:TT} {te:TE} {N':List Str} {mp:List (Option Nat)} {pins:List (Addr×Obj)} {O:St} {Q:VK} {J:It} {H2:Hp} {s₂:Shared} {it:Addr} {fp:List Addr} {tn:Nat->Heap->Prop} {E:Value->Shared->Prop} {RR:Value->Addr->Result->Shared->Prop} (hc:X.calm=true) (hg:∀ ex s H,PG (yi X N' scope ex s H) tg g) (ht:∀ ex s H,z8L (yi X N' scope ex s H) ifs ti) (he:∀ ex s H,PE (yi X N' scope ex s H) elt te) (hkd:scope.kind=.function) (hnm:∀ y∈scope.names,scope.names.lookup y.1=some y.2) (hfr:∀ y∈scope.names,y.2=.free->X.env.kindOf y.1=some .cell\/X.env.kindOf y.1=some .free) (hmp:z49 X.N scope.names N' mp=true) (I2:Inv X pins O H2 s₂) (T:zdm X.prog X.w X.K tg J fp it tn) (st2:tn 0 s₂.heap) (f2:∀ b∈fp,z5A X pins H2 b) (W:Nat->Nat->List V->Hp->Prop) (w0:∃ m,W 0 m [] H2) (turn:∀ i m ys H,W i m ys H-> (J.stop i H/\ys.length<=sizeLine/\∀ p,H p=none->Q (.ref p) (upd H p (.lst ys)))\/ (J.go i H/\∀ x H',J.yld i H x H'->g x (inner mp O) H' fun O2 H2=>(O2.length=(inner mp O).length/\∀ (i:Nat) v,(inner mp O)[i]? = some (some v)->O2[i]? = some (some v))/\ ti O2 H2 fun b H3=>if b=true then te O2 H3 fun y H4=>ys.length<=sizeLine/\∃ m',m'<m/\W (i+1) m' (ys++[y]) H4 else ∃ m',m'<m/\W (i+1) m' ys H3)) (hRR:∀ acc C s',zaU X pins O C Q acc s'->RR acc C (.ok .next) s'): wpAny (model X.prog X.w) X.A (newList []) (fun acc s₃=>wpAny (model X.prog X.w) X.A (newFunctionEnv scope X.env.globals (z47 X.env scope.names []) [] X.env.qual none .none (some X.env)) (fun cenv s₄=> codeAny (model X.prog X.w) X.A (.compStart (.ListComp elt [⟨tg,iter,ifs,0⟩] scope pos) 0 (.ref it) acc {cenv with scope:=relabel scope X.env}) (RR acc cenv.locals) s₄) E s₃) E s₂:=by
 refine wpAny_newObj_type ?_;have hf2:H2 s₂.heap.objs.size=none:=I2.hok.fresh (Nat.le_refl _);have fA:z5A X pins H2 s₂.heap.objs.size:=I2.fpOk (Nat.le_refl _) hf2;generalize hacc:s₂.heap.objs.size=acc at hf2 fA ⊢;have I3:Inv X pins O H2 {s₂ with heap:=s₂.heap.push {cls:=.type "list",data:=.seq ([]:List Value).toArray}}:=I2.kept (t':=s₂.toks) fun b o e=>Heap.get?_push_of_some _ e;have ha3:(s₂.heap.push {cls:=.type "list",data:=.seq ([]:List Value).toArray}).get? acc=some (LCg.lst []):=by rw [<- hacc];exact Heap.get?_push_size _ rfl
 have sz3:(s₂.heap.push {cls:=.type "list",data:=.seq ([]:List Value).toArray}).objs.size=acc+1:=by rw [Heap.size_push,hacc]
 have kp3:∀ b o,s₂.heap.get? b=some o->(s₂.heap.push {cls:=.type "list",data:=.seq ([]:List Value).toArray}).get? b=some o:=fun b o e=>Heap.get?_push_of_some _ e;show wpAny _ _ _ _ _ {s₂ with heap:=s₂.heap.push {cls:=.type "list",data:=.seq ([]:List Value).toArray}};generalize hs3:({s₂ with heap:=s₂.heap.push {cls:=.type "list",data:=.seq ([]:List Value).toArray}}:Shared)=s₃ at I3 ⊢;have ha3':s₃.heap.get? acc=some (LCg.lst []):=by rw [<- hs3];exact ha3
 have sz3':s₃.heap.objs.size=acc+1:=by rw [<- hs3];exact sz3
 have kp3':∀ b o,s₂.heap.get? b=some o->s₃.heap.get? b=some o:=by rw [<- hs3];exact kp3
 have flt:∀ b∈fp,b<acc:=fun b hb=>by
  obtain ⟨o,e,_⟩:=T.obj 0 _ st2 b hb;rw [<- hacc];exact Heap.lt_size e
 have fne:∀ b∈fp,b≠acc:=fun b hb=>Nat.ne_of_lt (flt b hb);have tn3:tn 0 s₃.heap:=T.keep 0 _ _ st2 fun b hb o e=>kp3' b o e;refine z6t ?_;rw [wT];have hex:∀ b∈acc::fp,b<s₃.heap.objs.size/\H2 b=none/\b≠X.env.locals/\b∉X.fs/\(b∈X.ex\/X.s₀.heap.objs.size<=b)/\(∀ x c,X.env.cells.lookup x=some c->c≠b):=fun b hb=>by
  rcases List.mem_cons.mp hb with z | hb
  ·subst z;exact ⟨by rw [sz3'];exact Nat.lt_succ_self _,hf2,fA.2.1,fA.2.2.1,fA.2.2.2.1,fA.2.2.2.2.1⟩
  ·have q:=f2 b hb;exact ⟨by rw [sz3'];exact Nat.lt_succ_of_lt (flt b hb),q.1,q.2.1,q.2.2.1,q.2.2.2.1,q.2.2.2.2.1⟩
 have I4:=z8s (N':=N') (mp:=mp) (ex:=acc::fp) (s1:={s₃ with heap:=pushCells (s₃.heap.push {cls:=.type "dict",data:=.dict #[]}) scope.names}) I3 hkd hnm hfr hmp hex rfl rfl rfl;have kp4:∀ b o,s₃.heap.get? b=some o->(pushCells (s₃.heap.push {cls:=.type "dict",data:=.dict #[]}) scope.names).get? b=some o:=fun b o e=>pushCells_keeps _ _ b o (Heap.get?_push_of_some _ e);generalize hs4:({s₃ with heap:=pushCells (s₃.heap.push {cls:=.type "dict",data:=.dict #[]}) scope.names}:Shared)=s₄ at I4 ⊢;have ha4:s₄.heap.get? acc=some (LCg.lst []):=by rw [<- hs4];exact kp4 _ _ ha3'
 have tn4:tn 0 s₄.heap:=T.keep 0 _ _ tn3 fun b hb o e=>by rw [<- hs4];exact kp4 b o e
 have Cne:acc≠s₃.heap.objs.size:=by rw [sz3'];exact Nat.ne_of_lt (Nat.lt_succ_self _)
 have celln:∀ b∈acc::fp,∀ x c,(zbV X scope s₃.heap.objs.size).cells.lookup x=some c->c≠b:=fun b hb=>(I4.ok.exf b hb).2;have stat:∀ {H':Hp} {o:Obj},(∀ b∈fp,H' b=none)->∀ b∈fp,z5A (yi X N' scope (acc::fp) s₃ H2) [(acc,o)] H' b:=fun {H' o} hn b hb=> ⟨hn b hb,Nat.ne_of_lt (by show b<s₃.heap.objs.size;rw [sz3'];exact Nat.lt_succ_of_lt (flt b hb)),fun hf=>I4.ok.exfs b (List.mem_cons_of_mem _ hb) hf,.inl (List.mem_cons_of_mem _ hb),celln b (List.mem_cons_of_mem _ hb),fun p hp=>by
   have e:p=(acc,o):=by simpa [yi] using hp
   rw [e];exact Ne.symm (fne b hb)⟩;have pinA:∀ {O':St} {H':Hp} {s':Shared} {its:List Value},Inv (yi X N' scope (acc::fp) s₃ H2) [] O' H' s'->H' acc=none->s'.heap.get? acc=some (LCg.lst its)->Inv (yi X N' scope (acc::fp) s₃ H2) [(acc,LCg.lst its)] O' H' s':=fun {O' H' s' its} J' n' e'=> J'.pins_of fun p hp=>by
   have e:p=(acc,LCg.lst its):=by simpa using hp
   subst e;refine ⟨e',n',Cne,fun hf=>I4.ok.exfs acc List.mem_cons_self hf,fun v z=>?_⟩;have z':Data.seq _ _=Data.cell v:=z;cases z'
 obtain ⟨m0,w0⟩:=w0;have loop:codeAny (model X.prog X.w) X.A (.compLoop (.ListComp elt [⟨tg,iter,ifs,0⟩] scope pos) 0 (.ref it) (.ref acc) (zbV X scope s₃.heap.objs.size)) (RR (.ref acc) s₃.heap.objs.size) s₄:=by
  refine z4y (fun n s'=>∃ i ys its H',Inv (yi X N' scope (acc::fp) s₃ H2) [] (inner mp O) H' s'/\tn i s'.heap/\(∀ b∈fp,H' b=none)/\H' acc=none/\s'.heap.get? acc=some (LCg.lst its)/\xp ys its/\W i n ys H') ?_ m0 ⟨0,[],[],H2,I4,tn4,fun b hb=>(f2 b hb).1,hf2,ha4,.nil,w0⟩;rintro n s5 ⟨i,ys,its,H5,I5,tn5,n5,na5,ea5,rv5,w5⟩;have I5':=pinA I5 na5 ea5;rcases turn i n ys H5 w5 with ⟨stop,hz,q⟩ | ⟨go,step⟩
  ·refine wpAny_mono (T.done (yi X N' scope (acc::fp) s₃ H2) rfl rfl rfl hc i _ s5 _ H5 (fun _ _=>False) I5' (stat n5) tn5 stop) (fun r s6 ⟨hr,I6⟩=>?_) fun _ _ z=>z;subst hr;have ea6:=(I6.pin (acc,LCg.lst its) (by simp)).1;have un:Un (frs X.stack) (acc::fp) H2 H5 s₃.heap s6.heap:=I6.base;have I7:Inv X pins O H5 s6:=I3.call' (s':=s6) (I6.os) un I6.hok I6.bare fun b hb=>by
    rcases List.mem_cons.mp hb with z | hb;·subst z;exact ⟨fA.2.2.2.1,fA.2.1,fA.2.2.2.2.1,fA.2.2.2.2.2⟩
    ·exact ⟨(f2 b hb).2.2.2.1,(f2 b hb).2.1,(f2 b hb).2.2.2.2.1,(f2 b hb).2.2.2.2.2⟩
   have C7:z5A X pins H5 s₃.heap.objs.size:=I3.fpOk (Nat.le_refl _) I6.free;refine hRR _ _ s6 ⟨.ref acc,upd H5 acc (.lst ys),I7.track ⟨na5,fA.2⟩ ?_,rfl,q acc na5,?_,?_,C7.2⟩;·exact ⟨hz,its,_,rv5,ea6⟩
   ·obtain ⟨m,hm,_⟩:=I6.loc;exact ⟨m,hm⟩
   ·rw [zH (Ne.symm Cne)];exact I6.free
  ·refine wpAny_mono (T.item (yi X N' scope (acc::fp) s₃ H2) rfl rfl rfl hc i _ s5 _ H5 (fun _ _=>False) I5' (stat n5) tn5 go) (fun r s6 ⟨u,hr,h6⟩=>?_) fun _ _ z=>z;subst hr;refine wpAny_mono h6 (fun _ s7 ⟨x,H7,I7,r7,y7,tn7,n7⟩=>?_) fun _ _ z=>z;have I7':=I7.pinned (stat n7) (T.obj _ _ tn7);refine wpAny_mono (hg _ _ _ _ s7 (inner mp O) H7 x u _ I7' r7 (step x H7 y7)) (fun _ s8 ⟨O8,H8,I8,⟨kl,kv⟩,q8⟩=>?_) fun _ _ z=>z;refine wpAny_mono (ht _ _ _ _ s8 O8 H8 _ I8 q8) (fun b s9 ⟨H9,I9,q9⟩=>?_) fun _ _ z=>z;have pinB:∀ {O':St} {H':Hp} {s':Shared},Inv (yi X N' scope (acc::fp) s₃ H2) ([(acc,LCg.lst its)]++z5d fp s7.heap) O' H' s'->(∀ b∈fp,H' b=none)/\H' acc=none/\s'.heap.get? acc=some (LCg.lst its)/\tn (i+1) s'.heap/\∀ b∈fp,∀ o,s7.heap.get? b=some o->s'.heap.get? b=some o:=fun {O' H' s'} J'=>by
    have z:=J'.pin (acc,LCg.lst its) (by simp [yi]);have zz:∀ b∈fp,∀ o,s7.heap.get? b=some o->s'.heap.get? b=some o/\H' b=none:=fun b hb o e=>by
     have y:=J'.pin (b,o) (List.mem_append_right _ (List.mem_append_right _ (kL hb e)));exact ⟨y.1,y.2.1⟩
    refine ⟨fun b hb=>?_,z.2.1,z.1,T.keep _ _ _ tn7 fun b hb o e=>(zz b hb o e).1,fun b hb o e=>(zz b hb o e).1⟩;obtain ⟨o,e,_⟩:=T.obj _ _ tn7 b hb;exact (zz b hb o e).2
   cases b with
   | false=>
    rw [if_neg (by decide)] at q9 ⊢;obtain ⟨m',lt,w9⟩:=q9;obtain ⟨z1,z2,z3,z4,_⟩:=pinB I9;exact ⟨m',lt,i+1,ys,its,H9,(I9.pins_of (pins':=[]) (fun p hp=>absurd hp (by simp))).weak kl.symm kv,z4,z1,z2,z3,rv5,w9⟩ | true=>
    rw [if_pos rfl] at q9 ⊢;refine wpAny_mono (he _ _ _ _ s9 O8 H9 _ I9 q9) (fun yv s10 ⟨y,H10,I10,r10,hz,m',lt,w10⟩=>?_) fun _ _ z=>z;obtain ⟨z1,z2,z3,z4,_⟩:=pinB I10;have zl:its.toArray.size<=sizeLine:=by rw [List.size_toArray,<- rv5.length];exact hz
    refine append_at (hsz:=zl) z3 fun h11 sb ea11=>?_;have I10':=(I10.pins_of (pins':=[]) (fun p hp=>absurd hp (by simp))).weak kl.symm kv;have I11:Inv (yi X N' scope (acc::fp) s₃ H2) [] (inner mp O) H10 {s10 with heap:=h11}:=I10'.turned (t':=s10.toks) (fun b o hb e=>(sb.2 b hb).trans e) z2 Cne (.inl List.mem_cons_self) (celln acc List.mem_cons_self) (fun p hp=>absurd hp (by simp [yi]));exact ⟨m',lt,i+1,ys++[y],its++[yv],H10,I11,T.keep _ _ _ z4 (fun b hb o e=>(sb.2 b (fne b hb)).trans e),z1,z2,ea11.trans (congrArg some (LCg.lst_snoc its yv)),rv5.append (.cons r10 .nil),w10⟩
 exact codeAny_compStart_list loop (T.self _ 0 _ _ _ tn4 loop)
section
variable {X:Cx}{tg iter elt:Expr}{ifs:List Expr}{scope:Scope}{pos spos py:Pos}{wi:TI}{g:TG}{ti:TT}{te:TE}{N':List Str}{mp:List (Option Nat)}
theorem z1Z{pins:List (Addr×Obj)}{O:St}{H:Hp}{s:Shared}{h':Heap}{C:Addr}(I:Inv X pins O H s)(f:z5A X pins H C)(sb:Heap.SameBut C s.heap h'):Inv X pins O H {s with heap:=h'}:= I.turned (t':=s.toks) (fun b o hb e=>(sb.2 b hb).trans e) f.1 f.2.1 f.2.2.2.1 f.2.2.2.2.1 f.2.2.2.2.2
theorem zdE (N':List Str) (mp:List (Option Nat)) (hc:X.calm=true) (hi:PI X tg iter wi) (hg:∀ ex s H,PG (yi X N' scope ex s H) tg g) (ht:∀ ex s H,z8L (yi X N' scope ex s H) ifs ti) (he:∀ ex s H,PE (yi X N' scope ex s H) elt te) (hkd:scope.kind=.function) (hnm:∀ y∈scope.names,scope.names.lookup y.1=some y.2) (hfr:∀ y∈scope.names,y.2=.free->X.env.kindOf y.1=some .cell\/X.env.kindOf y.1=some .free) (hmp:z49 X.N scope.names N' mp=true) (hs:∀ x,foldedSetIterable iter X.env x=pure x:=by intro _;rfl):PE X (.ListComp elt [⟨tg,iter,ifs,0⟩] scope pos) (zey wi mp g ti te):=by
 intro pins s O H Q I h;rw [eval_ListComp];refine wpAny_comprehension_free (use:=none) rfl hs (jY fun y hy hf=>I.ok.has _ (hfr y hy hf)) hkd (fun y hy hl=>by rw [hnm y hy,hl]) (thn (hi pins s O H _ I h) fun xv s₁ h₁=>thn h₁ fun itv s₂ h₂=>?_);obtain ⟨it,fp,tn,J,H2,e,I2,T,st2,f2,W,w0,turn⟩:=h₂;subst e;refine z2M (N':=N') (mp:=mp) (O:=O) (pins:=pins) (Q:=Q) (RR:=fun acc C=>compPost (model X.prog X.w) X.A X.xe none (EP X pins O Q) acc C) hc hg ht he hkd hnm hfr hmp I2 T st2 f2 W w0 turn ?_;rintro acc C s' ⟨v,Hf,I3,r,q,⟨m,hm⟩,f⟩;exact ⟨m,hm,fun h' sb=>⟨v,Hf,z1Z I3 f sb,r,q⟩⟩
theorem z8d {i:Nat} {y:Str} (N':List Str) (mp:List (Option Nat)) (hN:X.N.Nodup) (hy:X.N[i]? = some y) (hyl:Loc X.env.scope y) (hc:X.calm=true) (hi:PI X tg iter wi) (hg:∀ ex s H,PG (yi X N' scope ex s H) tg g) (ht:∀ ex s H,z8L (yi X N' scope ex s H) ifs ti) (he:∀ ex s H,PE (yi X N' scope ex s H) elt te) (hkd:scope.kind=.function) (hnm:∀ y∈scope.names,scope.names.lookup y.1=some y.2) (hfr:∀ y∈scope.names,y.2=.free->X.env.kindOf y.1=some .cell\/X.env.kindOf y.1=some .free) (hmp:z49 X.N scope.names N' mp=true) (hs:∀ x,foldedSetIterable iter X.env x=pure x:=by intro _;rfl) (hsw:swapsWith (.ListComp elt [⟨tg,iter,ifs,0⟩] scope pos) (some (.Name y py)) spos.line X.env=pure true:=by rfl) (hf:X.fn y=true\/X.env.scope.names.lookup y=some .local:=by first | exact .inl rfl | exact .inr rfl | assumption): PS X (.Assign [.Name y py] (.ListComp elt [⟨tg,iter,ifs,0⟩] scope pos) spos) (zhv (zey wi mp g ti te) (z7O i)):=by
 intro pins s O H D I h;rw [exec_Assign_Name_used _ _ _ _ hsw];refine wpAny_bind (wpAny_standAt (wpAny_bind ?_));show wpAny _ X.A (do let _ <- comprehension (.ListComp elt [⟨tg,iter,ifs,0⟩] scope pos) scope X.env _ (newList []) false (eval iter X.env) (some (assign (.Name y py) X.env))) _ _ s;refine wpAny_bind (wpAny_mono (wpAny_comprehension_free (use:=some (assign (.Name y py) X.env)) (Q:=fun _ s'=>SP X pins D .next s') rfl hs (jY fun y hy hf=>I.ok.has _ (hfr y hy hf)) hkd (fun y hy hl=>by rw [hnm y hy,hl]) (thn (hi pins s O H _ I h) fun xv s₁ h₁=>thn h₁ fun itv s₂ h₂=>?_)) (fun _ s' hq=>wpAny_pure (wpAny_pure hq)) fun _ _ e=>e);obtain ⟨it,fp,tn,J,H2,e,I2,T,st2,f2,W,w0,turn⟩:=h₂;subst e;refine z2M (N':=N') (mp:=mp) (O:=O) (pins:=pins) (Q:=fun v H'=>D.nx (O.set i (some v)) H') (RR:=fun acc C=>compPost (model X.prog X.w) X.A X.xe (some (assign (.Name y py) X.env)) (fun _ s'=>SP X pins D .next s') acc C) hc hg ht he hkd hnm hfr hmp I2 T st2 f2 W w0 turn ?_;rintro acc C s' ⟨v,Hf,I3,r,q,⟨m,hm⟩,f⟩;refine wpAny_assign_Name (z59 I3 hN hy hyl r (fun s'' I4 ⟨a,sb,ha⟩=>?_) hf);have hC:C≠a:=by
  rcases ha with z | z;·rw [z];exact f.2.1
  ·exact Ne.symm (f.2.2.2.2.1 y a z)
 exact ⟨m,hm.sameBut sb hC,fun h' sb'=>⟨_,Hf,z1Z I4 f sb',q⟩⟩
end
section
variable {κ:Type} [DecidableEq κ]
def zdS(kvs:List (κ×V))(k:κ):Option V:=(kvs.find? fun kv=>decide (kv.1=k)).map (·.2)
def z34(kvs:List (κ×V))(k:κ)(v:V):List (κ×V):= if (kvs.any fun kv=>decide (kv.1=k))=true then kvs.map (fun kv=>if kv.1=k then (kv.1,v) else kv) else kvs++[(k,v)]
theorem z7n{p:κ×V}{r:List (κ×V)}{k:κ}(e:p.1=k):zdS (p::r) k=some p.2:=by simp [zdS,List.find?_cons,e]
theorem z73{p:κ×V}{r:List (κ×V)}{k:κ}(e:¬ p.1=k):zdS (p::r) k=zdS r k:=by simp [zdS,List.find?_cons,e]
theorem z6Q(k:κ):∀ kvs:List (κ×V),(kvs.any fun kv=>decide (kv.1=k))=(zdS kvs k).isSome
 | []=>rfl | p::r=>by
  rw [List.any_cons];by_cases e:p.1=k;·simp only [z7n e,decide_eq_true e,Bool.true_or,Option.isSome_some]
  ·rw [z73 e,decide_eq_false e,Bool.false_or];exact z6Q k r
theorem z1U(kvs:List (κ×V))(k:κ)(v:V):(z34 kvs k v).length<=kvs.length+1:=by
 unfold z34;split;·rw [List.length_map];omega
 ·rw [List.length_append,List.length_cons,List.length_nil];omega
theorem zeH.isSome_eq{o:Option V}{u:Option Value}(r:zeH o u):o.isSome=u.isSome:=by cases o with
 | none=>cases u with
  | none=>rfl | some _=>exact (show False from r).elim
 | some _=>cases u with
  | none=>exact (show False from r).elim | some _=>rfl
theorem KV.any{kvs:List (κ×V)}{vs:List (κ×Value)}(r:KV kvs vs)(k:κ):(kvs.any fun kv=>decide (kv.1=k))=vs.any fun kv=>decide (kv.1=k):=by
 unfold KV at r;induction r with
 | nil=>rfl | cons h t ih=>rw [List.any_cons,List.any_cons,ih,h.1]
theorem KV.repl{kvs:List (κ×V)}{vs:List (κ×Value)}(r:KV kvs vs)(k:κ){y:V}{u:Value}(ry:xn y u): KV (kvs.map fun kv=>if kv.1=k then (kv.1,y) else kv) (vs.map fun kv=>if kv.1=k then (kv.1,u) else kv):=by
 unfold KV at r ⊢;induction r with
 | nil=>exact .nil | @cons p q ps qs h t ih=>
  rw [List.map_cons,List.map_cons];refine .cons ?_ ih;obtain ⟨h1,h2⟩:=h;by_cases e:p.1=k;·rw [if_pos e,if_pos (h1.symm.trans e)];exact ⟨h1,ry⟩
  ·rw [if_neg e,if_neg (fun z=>e (h1.trans z))];exact ⟨h1,h2⟩
theorem KV.put{kvs:List (κ×V)}{vs:List (κ×Value)}(r:KV kvs vs)(k:κ){y:V}{u:Value}(ry:xn y u):KV (z34 kvs k y) (stored vs k u):=by
 unfold z34 stored;rw [r.any k];by_cases e:(vs.any fun kv=>decide (kv.1=k))=true;·rw [if_pos e,if_pos e];exact r.repl k ry
 ·rw [if_neg e,if_neg e];exact Paired.snoc r ⟨rfl,ry⟩
theorem KV.length{kvs:List (κ×V)}{vs:List (κ×Value)}(r:KV kvs vs):kvs.length=vs.length:=Paired.length r
end
theorem zgI{P:Program}{w:World}{k:Key}{u:Value}(r:xn (kV k) u):(ya P w).is k u=true:=by cases k with
 | inl i=>obtain ⟨t,e⟩:=(show ∃ t,u=Value.int i t from r);subst e;exact z5D P w i t | inr x=>obtain ⟨t,e⟩:=(show ∃ t,u=Value.str x t from r);subst e;exact z16 P w x t
theorem z4u{P:Program}{w:World}:∀ {ks:List Key}{us:List Value},xp (ks.map kV) us->ItemsAre (ya P w) ks us
 | [],_,r=>by rw [List.map_nil] at r;cases r;exact .nil | k::ks,_,r=>by
  rw [List.map_cons] at r;cases r with | cons h t=>exact .cons (zgI h) (z4u t)
abbrev KT(H:Hp):List (List Key×V)->List (List Key×Addr×Value)->Prop:=Paired fun p q=>p.1=q.1/\H q.2.1=some (.tup (p.1.map kV))/\xn p.2 q.2.2
theorem KT.val{H:Hp}{kvs:List (List Key×V)}{xs:List (List Key×Addr×Value)}(r:KT H kvs xs)(k:List Key):zeH (zdS kvs k) ((atKey xs k).map (·.2)):=by induction r with
 | nil=>exact True.intro | @cons p q ps qs h t ih=>
  obtain ⟨h1,_,h2⟩:=h;by_cases e:p.1=k
  ·have e':q.1=k:=h1.symm.trans e;have b:atKey (q::qs) k=some q.2:=by simp [atKey,List.find?_cons,e']
   rw [z7n e,b];exact h2
  ·have e':¬ q.1=k:=fun z=>e (h1.trans z);have b:atKey (q::qs) k=atKey qs k:=by simp [atKey,List.find?_cons,e']
   rw [z73 e,b];exact ih
theorem KT.repl{H:Hp}{kvs:List (List Key×V)}{xs:List (List Key×Addr×Value)}(r:KT H kvs xs)(k:List Key){y:V}{u:Value}(ry:xn y u): KT H (kvs.map fun kv=>if kv.1=k then (kv.1,y) else kv) (xs.map (putAt k u)):=by induction r with
 | nil=>exact .nil | @cons p q ps qs h t ih=>
  rw [List.map_cons,List.map_cons];refine .cons ?_ ih;obtain ⟨h1,h2,h3⟩:=h;unfold putAt;by_cases e:p.1=k;·rw [if_pos e,if_pos (h1.symm.trans e)];exact ⟨h1,h2,ry⟩
  ·rw [if_neg e,if_neg (fun z=>e (h1.trans z))];exact ⟨h1,h2,h3⟩
theorem KT.put{H:Hp}{kvs:List (List Key×V)}{xs:List (List Key×Addr×Value)}(r:KT H kvs xs)(k:List Key){b:Addr}{y:V}{u:Value}(hb:H b=some (.tup (k.map kV)))(ry:xn y u): KT H (z34 kvs k y) (storedH xs k b u):=by
 have e:(kvs.any fun kv=>decide (kv.1=k))=(atKey xs k).isSome:=by rw [z6Q,(r.val k).isSome_eq,Option.isSome_map]
 unfold z34 storedH;rw [e];by_cases q:(atKey xs k).isSome=true;·rw [if_pos q,if_pos q];exact r.repl k ry
 ·rw [if_neg q,if_neg q];exact Paired.snoc r ⟨rfl,hb,ry⟩
theorem KT.keeps{H H':Hp}{kvs:List (List Key×V)}{xs:List (List Key×Addr×Value)}(r:KT H kvs xs)(ht:∀ b ys,H b=some (.tup ys)->H' b=some (.tup ys)):KT H' kvs xs:= Paired.mapP r fun _ _ z=>⟨z.1,ht _ _ z.2.1,z.2.2⟩
section
variable {P:Program}{w:World}{H:Hp}{h:Heap}{a:Addr}
theorem zgg{u:HO}(ok:HOk P w H h)(e:Rd H a u):xP P w H h a u:=e.ok ok
theorem ziA{kvs:List (Key×V)}(ok:HOk P w H h)(e:Rd H a (.dK kvs)):kvs.length<=sizeLine/\(a==sysModules)=false/\∃ vs,KV kvs vs/\h.DictOf (ya P w) a vs:= show xP P w H h a (.dK kvs) from zgg ok e
theorem zi7{kvs:List (Key×V)}(ok:HOk P w H h)(e:H a=some (.dK kvs)):kvs.length<=sizeLine/\(a==sysModules)=false/\∃ vs,KV kvs vs/\h.DictOf (ya P w) a vs:=ziA ok (.inl e)
theorem zcp{ks:List Key}(ok:HOk P w H h)(e:H a=some (.tup (ks.map kV))):(tupleKind (ya P w)).is h ks a:=by
 obtain ⟨_,its,r,o,h1,h2,_,n,h3⟩:=(show xP P w H h a (.tup (ks.map kV)) from ok a _ e);exact ⟨o,its.toArray,n,h1,h2,h3,by simpa using z4u r⟩
theorem zil{kvs:List (List Key×V)}(ok:HOk P w H h)(e:Rd H a (.dT kvs)):kvs.length<=sizeLine/\(a==sysModules)=false/\ ∃ xs,KT H kvs xs/\h.DictOfH (tupleKind (ya P w)) a xs:=by
 obtain ⟨z,y,xs,r,o,es,ep,h1,h2,h3,h4,h5⟩:=(show xP P w H h a (.dT kvs) from zgg ok e);refine ⟨z,y,xs,r,o,es,ep,h1,h2,h3,h4,fun x hx=>?_,h5⟩;have all:∀ {l:List (List Key×V)}{m:List (List Key×Addr×Value)},KT H l m->∀ x∈m,(tupleKind (ya P w)).is h x.1 x.2.1:=by
  intro l m q;induction q with
  | nil=>intro x hx;exact nomatch hx | @cons p q ps qs hq t ih=>
   intro x hx;rcases List.mem_cons.mp hx with e | hx
   ·subst e;exact zcp ok (by rw [<- hq.1];exact hq.2.1)
   ·exact ih x hx
 exact all r x hx
theorem zeX{kvs:List (List Key×V)}(ok:HOk P w H h)(e:H a=some (.dT kvs)):kvs.length<=sizeLine/\(a==sysModules)=false/\ ∃ xs,KT H kvs xs/\h.DictOfH (tupleKind (ya P w)) a xs:=zil ok (.inl e)
end
def zgM(H:Hp)(a:Addr)(y v:V)(H':Hp):Prop:= (∃ kvs k,H a=some (.dK kvs)/\y=kV k/\kvs.length<sizeLine/\H'=upd H a (.dK (z34 kvs k v)))\/ ∃ kvs k b,H a=some (.dT kvs)/\y=.ref b/\H b=some (.tup (k.map kV))/\kvs.length<sizeLine/\H'=upd H a (.dT (z34 kvs k v))
theorem zgM.t{H:Hp}{a b:Addr}{kvs:List (List Key×V)}{k:List Key}{v:V}(e:H a=some (.dT kvs))(eb:H b=some (.tup (k.map kV)))(hl:kvs.length<sizeLine): zgM H a (.ref b) v (upd H a (.dT (z34 kvs k v))):=.inr ⟨kvs,k,b,e,rfl,eb,hl,rfl⟩
section
variable {X:Cx}{pins:List (Addr×Obj)}{O:St}{H:Hp}{s:Shared}{a:Addr}{y v:V}{u r:Value}{o:Option V}{A:Around}{E:Value->Shared->Prop}
theorem Inv.big(I:Inv X pins O H s):sysModules<s.heap.objs.size:=by
 have h:mainGlobals<s.heap.objs.size:=(I.mod.glob.keeps I.bk).lt;exact Nat.lt_trans (by decide) h
theorem z8K {h':Heap} {t':Nat} {ob:HO} (I:Inv X pins O H s) (mu:Mut (H a)) (hs:Heap.SameBut a s.heap h') (he:∃ q,h'.get? a=some q) (new:xP X.prog X.w (upd H a ob) h' a ob): Inv X pins O (upd H a ob) {s with heap:=h',toks:=t'}:= I.write (x:=a) (e:=a) mu (.inl rfl) (fun b q hb z=>(hs.2 b hb).trans z) he new
theorem zeY{P:Program}{w:World}{H':Hp}{h':Heap}{kvs:List (Key×V)}{vs:List (Key×Value)}(z:kvs.length<=sizeLine)(hd:(a==sysModules)=false)(rel:KV kvs vs)(dd:h'.DictOf (ya P w) a vs): xP P w H' h' a (.dK kvs):=⟨z,hd,vs,rel,dd⟩
theorem z9b{H':Hp}{Q:Unit->Shared->Prop}(hu:A.units+1<cLine)(I:Inv X pins O H s)(g:zgM H a y v H')(ry:xn y u)(rv:xn v r)(h:∀ s',Inv X pins O H' s'->Q () s'): wpAny (model X.prog X.w) A (setItem (.ref a) u r) Q E s:=by
 rcases g with ⟨kvs,k,e,ey,l,eH⟩ | ⟨kvs,k,b,e,ey,eb,l,eH⟩
 ·subst ey eH;obtain ⟨z,hd,vs,rel,dd⟩:=zi7 I.hok e;have hz:vs.length<=sizeLine:=by rw [<- rel.length];exact z
  have hl:(z34 kvs k v).length<=sizeLine:=by have:=z1U kvs k v;omega
  refine wpAny_setItem_pairs (hsz:=hz) (zgI ry) dd fun h' dd' hs=>h _ ?_;have he:∃ q,h'.get? a=some q:=let ⟨q,_,_,hq,_⟩:=dd';⟨q,hq⟩;exact z8K I (by rw [e];exact True.intro) hs he (zeY hl hd (rel.put k rv) dd')
 ·subst ey eH;cases (show u=Value.ref b from ry);obtain ⟨z,hd,xs,rel,dd⟩:=zeX I.hok e;have hz:xs.length<=sizeLine:=by rw [<- Paired.length rel];exact z
  have hl:(z34 kvs k v).length<=sizeLine:=by have:=z1U kvs k v;omega
  refine wpAny_setItem_heap (hsz:=hz) (tupleKind_room_in1 hu) (zcp I.hok eb) dd fun h' dd' hs=>h _ ?_;obtain ⟨q,es,ep,hq,h2,h3,h4,_,h5⟩:=dd';refine z8K I (by rw [e];exact True.intro) hs ⟨q,hq⟩ ⟨hl,hd,_,(rel.put k eb rv).keeps fun c ys ec=>?_,q,es,ep,hq,h2,h3,h4,h5⟩;rw [zH (zhg ec e (fun z=>nomatch z))];exact ec
end
def zhA(td ty tv:TE):TS:=fun D O H=>tv O H fun v H1=>td O H1 fun x H2=>ty O H2 fun y H3=>∃ a H4,x=.ref a/\zgM H3 a y v H4/\D.nx O H4
section
variable {X:Cx}{o i e value:Expr}{pos pos' tpos:Pos}{td ty tv:TE}
theorem zd2(hu:X.A.units+1<cLine)(ho:PE X o td)(hi:PE X i ty)(hv:PE X value tv)(hs:swapsWith value (some (.Subscript o i pos')) pos.line X.env=pure false): PS X (.Assign [.Subscript o i pos'] value pos) (zhA td ty tv):=by
 intro pins s O H D I h;refine wpAny_Assign_Subscript (thn (hv pins s O H _ I h) fun r s1 ⟨v,H1,I1,rv,q1⟩=>thn (ho pins s1 O H1 _ I1 q1) fun u s2 ⟨x,H2,I2,rx,q2⟩=>thn (hi pins s2 O H2 _ I2 q2) fun iv s3 ⟨y,H3,I3,ry,a,H4,ex,g,q3⟩=>?_) hs;subst ex;obtain rfl:u=Value.ref a:=rx;exact z9b hu I3 g ry rv fun s4 I4=>⟨O,H4,I4,q3⟩
end
theorem zbd{P:Program}{w:World}{H:Hp}(h:Heap)(hb:sysModules<h.objs.size):xP P w H (h.push {cls:=.type "dict",data:=.dict #[]}) h.objs.size (.dT []):= ⟨Nat.zero_le _,beq_eq_false_iff_ne.mpr (Ne.symm (Nat.ne_of_lt hb)),[],.nil,_,#[],0,Heap.get?_push_size _ rfl,⟨rfl,rfl,rfl⟩,rfl,rfl,List.nodup_nil⟩
def zfB:TE:=fun _ H Q=>∀ p,H p=none->Q (.ref p) (upd H p (.dT []))
section
variable {X:Cx}{pos:Pos}
theorem zbO:PE X (.Dict [] [] pos) zfB:=fun pins s O H Q I h=> wpAny_Dict_empty ⟨.ref s.heap.objs.size,_,I.laid (a:=s.heap.objs.size) (o:=.dT []) (t':=s.toks) (fun _ _ q=>Heap.get?_push_of_some _ q) (Nat.le_refl _) (zbd s.heap I.big),rfl,h _ (I.hok.fresh (Nat.le_refl _))⟩
end
end L2
set_option maxHeartbeats 4000000
namespace Dd
open PySem.Spec L2
theorem zb4(xs:List Expr)(k:Nat)(p:Pos)(es:List Expr)(env:Env):starEach (.Tuple xs k p::es) env=(false,eval (.Tuple xs k p) env)::starEach es env:=rfl
theorem zbt(xs:List Expr)(p:Pos)(es:List Expr)(env:Env):starEach (.List xs p::es) env=(false,eval (.List xs p) env)::starEach es env:=rfl
theorem vQ(f:Expr)(xs:List Expr)(ks:List Keyword)(p:Pos)(es:List Expr)(env:Env):starEach (.Call f xs ks p::es) env=(false,eval (.Call f xs ks p) env)::starEach es env:=rfl
theorem z3x(a:Expr)(o:Operator)(b:Expr)(p:Pos)(es:List Expr)(env:Env):starEach (.BinOp a o b p::es) env=(false,eval (.BinOp a o b p) env)::starEach es env:=rfl
theorem z3z(a b:Expr)(p:Pos)(es:List Expr)(env:Env):starEach (.Subscript a b p::es) env=(false,eval (.Subscript a b p) env)::starEach es env:=rfl
theorem zT(a:Expr)(g:List Comprehension)(sc:Scope)(p:Pos)(es:List Expr)(env:Env):starEach (.ListComp a g sc p::es) env=(false,eval (.ListComp a g sc p) env)::starEach es env:=rfl
theorem z30(c:Const)(j:Nat)(p:Pos)(es:List Expr)(env:Env):starEach (.Constant c j p::es) env=(false,eval (.Constant c j p) env)::starEach es env:=rfl
theorem zD(x:Str)(p:Pos)(es:List Expr)(env:Env):starEach (.Name x p::es) env=(false,eval (.Name x p) env)::starEach es env:=rfl
inductive D where | non | bl (b:Bool) | int (i:Int) | str (x:Str) | tup (xs:List D) | lst (xs:List D) | dct | loc (l:Nat) | dlo (l:Nat) | fn (x:Str) | exc (x:Str) | scr (xs:List D)
abbrev Sto:=List (List D)
abbrev Ev:=List (Option D)
inductive R(α:Type) where | ok (a:α)(s:Sto) | ex (c:Str)(s:Sto) | no
def R.bind{α β:Type}(r:R α)(k:α->Sto->R β):R β:=match r with
 | .ok a s=>k a s | .ex c s=>.ex c s | .no=>.no
@[simp] theorem R.bind_ok {α β:Type}(a:α)(s:Sto)(k:α->Sto->R β):(R.ok a s).bind k=k a s:=id rfl
@[simp] theorem R.bind_ex {α β:Type}(c:Str)(s:Sto)(k:α->Sto->R β):(R.ex c s:R α).bind k=.ex c s:=id rfl
@[simp] theorem R.bind_no {α β:Type}(k:α->Sto->R β):(R.no:R α).bind k=.no:=id rfl
def D.flat:D->Bool
 | .tup xs=>flats xs | .lst xs=>flats xs | .scr xs=>flats xs | .loc _=>false | .dlo _=>false | _=>true
where flats:List D->Bool
 | []=>true | x::xs=>x.flat&&flats xs
def excO(C a:Addr):HO:=.ext fun h=>∃ o vs,h.get? a=some o/\o.cls=.ref C/\o.data=.fields vs
structure Gm where
 m:Str->Option Value
 K:W.Frag
abbrev gm(X:Cx):Gm:=⟨X.mg,X.K⟩
def IsL(H:Hp)(a:Addr):Prop:=∃ vs,H a=some (.lst vs)
def IsC(H:Hp)(a:Addr):Prop:=∃ kvs,H a=some (.dT kvs)
theorem IsL.notC{H:Hp}{a:Addr}(h:IsL H a)(h':IsC H a):False:=by obtain ⟨_,e⟩:=h;obtain ⟨_,e'⟩:=h';rw [e] at e';cases e'
def z5y:Key->D
 | .inl i=>.int i | .inr x=>.str x
def zbJ:V->Option D
 | .int i=>some (.int i) | .bl b=>some (.bl b) | _=>none
def zex:List D->List (List Key×V)->Prop
 | [],kvs=>kvs=[] | d::ds,kvs=>∃ k v x r,kvs=(k,v)::r/\zbJ v=some x/\d=.tup [.tup (k.map z5y),x]/\zex ds r
def KL(K:W.Frag)(a:Addr)(xs:List V):Prop:=∃ (o:Obj)(its:Array Value)(n:Nat),K.lookup a=some o/\o.cls=.type "list"/\o.dict=none/\o.data=.seq its n/\its.size<=sizeLine/\xp xs its.toList
section
variable (mg:Gm)
mutual
def Den(H:Hp)(Y:List Addr):D->V->Prop
 | .non,v=>v=.non | .bl b,v=>v=.bl b | .int i,v=>v=.int i | .str x,v=>v=.str x | .tup ds,v=>∃ a vs,v=.ref a/\H a=some (.tup vs)/\zA H Y ds vs | .lst ds,v=>∃ a o vs,v=.ref a/\H a=some (.frz o (.lst vs))/\zA H Y ds vs | .dct,v=>∃ a,v=.ref a/\H a=some (.dK []) | .loc l,v=>∃ a,v=.ref a/\Y[l]? = some a/\IsL H a | .dlo l,v=>∃ a,v=.ref a/\Y[l]? = some a/\IsC H a | .fn x,v=>∃ a,v=.ref a/\mg.m x=some (.ref a) | .exc x,v=>∃ a C,v=.ref a/\mg.m x=some (.ref C)/\H a=some (excO C a) | .scr ds,v=>∃ a vs,v=.ref a/\((∃ o,H a=some (.frz o (.lst vs)))\/KL mg.K a vs)/\zA H Y ds vs
def zA(H:Hp)(Y:List Addr):List D->List V->Prop
 | [],vs=>vs=[] | d::ds,vs=>∃ v r,vs=v::r/\Den H Y d v/\zA H Y ds r
end
def uc(H:Hp)(Y:List Addr)(xs:List D)(a:Addr):Prop:=(∃ vs,H a=some (.lst vs)/\zA mg H Y xs vs)\/∃ kvs,H a=some (.dT kvs)/\zex xs kvs
structure Rep(H:Hp)(Y:List Addr)(s:Sto):Prop where
 len:Y.length=s.length
 nd:Y.Nodup
 cell:∀ (l:Nat)(xs:List D),s[l]? = some xs->∃ a,Y[l]? = some a/\uc mg H Y xs a
 flat:∀ xs∈s,D.flat.flats xs=true
structure wd(H:Hp)(Y:List Addr)(H':Hp)(Y':List Addr)(s':Sto):Prop where
 rep:Rep mg H' Y' s'
 pre:Y <+: Y'
 keep:∀ b o,H b=some o->b∉Y->H' b=some o
 new:∀ a∈Y',a∉Y->H a=none
 mt:∀ a∈Y,(IsL H a/\IsL H' a)\/(IsC H a/\IsC H' a)
end
section
variable {mg:Gm}{H H' H1 H2:Hp}{Y Y' Y1 Y2:List Addr}{s s' s1 s2:Sto}
theorem uc.kind{xs:List D}{a:Addr}(h:uc mg H Y xs a):IsL H a\/IsC H a:=h.imp (fun ⟨vs,e,_⟩=>⟨vs,e⟩) fun ⟨k,e,_⟩=>⟨k,e⟩
theorem Rep.mt(r:Rep mg H Y s):∀ a∈Y,IsL H a\/IsC H a:=fun a ha=>by
 obtain ⟨l,hl,e⟩:=List.mem_iff_getElem.mp ha;have hl':l<s.length:=by rw [<- r.len];exact hl
 obtain ⟨b,e1,c⟩:=r.cell l s[l] (List.getElem?_eq_getElem hl');rw [List.getElem?_eq_getElem hl] at e1;have:Y[l]=b:=Option.some.inj e1;rw [<- e,this];exact c.kind
theorem Rep.at_(r:Rep mg H Y s){l:Nat}{xs:List D}{a:Addr}(h:s[l]? = some xs)(ha:Y[l]? = some a)(k:IsL H a):∃ vs,H a=some (.lst vs)/\zA mg H Y xs vs:=by
 obtain ⟨b,e1,c⟩:=r.cell l xs h;rw [ha] at e1;cases e1;rcases c with c | ⟨kvs,e,_⟩;·exact c
 ·exact (k.notC ⟨kvs,e⟩).elim
theorem Rep.dic(r:Rep mg H Y s){l:Nat}{xs:List D}{a:Addr}(h:s[l]? = some xs)(ha:Y[l]? = some a)(k:IsC H a):∃ kvs,H a=some (.dT kvs)/\zex xs kvs:=by
 obtain ⟨b,e1,c⟩:=r.cell l xs h;rw [ha] at e1;cases e1;rcases c with ⟨vs,e,_⟩ | c;·exact (IsL.notC ⟨vs,e⟩ k).elim
 ·exact c
theorem wd.refl(r:Rep mg H Y s):wd mg H Y H Y s:=⟨r,List.prefix_refl _,fun _ _ h _=>h,fun a h1 h2=>absurd h1 h2,fun a ha=>(r.mt a ha).imp (fun h=>⟨h,h⟩) fun h=>⟨h,h⟩⟩
theorem wd.trans(a:wd mg H Y H1 Y1 s1)(b:wd mg H1 Y1 H2 Y2 s2):wd mg H Y H2 Y2 s2:=by
 refine ⟨b.rep,a.pre.trans b.pre,fun c o h n=>?_,fun c h1 h2=>?_,fun c hc=>?_⟩
 ·refine b.keep c o (a.keep c o h n) fun z=>?_;rw [a.new c z n] at h;cases h
 ·by_cases h3:c∈Y1;·exact a.new c h3 h2
  ·cases e:H c with
   | none=>rfl | some o=>rw [<- b.new c h1 h3,a.keep c o e h2]
 ·have hc1:c∈Y1:=a.pre.subset hc;rcases a.mt c hc with ⟨k1,k2⟩ | ⟨k1,k2⟩
  ·rcases b.mt c hc1 with ⟨_,q⟩ | ⟨q,_⟩;·exact .inl ⟨k1,q⟩
   ·exact (k2.notC q).elim
  ·rcases b.mt c hc1 with ⟨q,_⟩ | ⟨_,q⟩;·exact (q.notC k2).elim
   ·exact .inr ⟨k1,q⟩
theorem wd.stay(stp:wd mg H Y H' Y' s'){b:Addr}{o:HO}(h:H b=some o)(hn:∀ vs,o≠.lst vs)(hn2:∀ kvs,o≠.dT kvs:=by intro vs z;cases z):H' b=some o:=stp.keep b o h fun z=>by
 rcases stp.mt b z with ⟨⟨vs,e⟩,_⟩ | ⟨⟨vs,e⟩,_⟩
 ·rw [h] at e;exact hn vs (Option.some.inj e)
 ·rw [h] at e;exact hn2 vs (Option.some.inj e)
mutual
theorem Den.mono(stp:wd mg H Y H' Y' s'):∀ {d:D}{v:V},Den mg H Y d v->Den mg H' Y' d v
 | .non,_,h=>by simpa [Den] using h | .bl _,_,h=>by simpa [Den] using h | .int _,_,h=>by simpa [Den] using h | .str _,_,h=>by simpa [Den] using h | .tup ds,v,h=>by
  simp only [Den] at h ⊢;obtain ⟨a,vs,e,h1,h2⟩:=h;exact ⟨a,vs,e,stp.stay h1 (by intro vs z;cases z),zA.mono stp h2⟩ | .lst ds,v,h=>by
  simp only [Den] at h ⊢;obtain ⟨a,o,vs,e,h1,h2⟩:=h;exact ⟨a,o,vs,e,stp.stay h1 (by intro vs z;cases z),zA.mono stp h2⟩ | .dct,v,h=>by
  simp only [Den] at h ⊢;obtain ⟨a,e,h1⟩:=h;exact ⟨a,e,stp.stay h1 (by intro vs z;cases z)⟩ | .loc l,v,h=>by
  simp only [Den] at h ⊢;obtain ⟨a,e,h1,k⟩:=h;obtain ⟨t,ht⟩:=stp.pre;refine ⟨a,e,?_,?_⟩
  ·rw [<- ht,List.getElem?_append_left (List.getElem?_eq_some_iff.mp h1).1];exact h1
  ·rcases stp.mt a (List.mem_of_getElem? h1) with ⟨_,q⟩ | ⟨q,_⟩;·exact q
   ·exact (k.notC q).elim | .dlo l,v,h=>by
  simp only [Den] at h ⊢;obtain ⟨a,e,h1,k⟩:=h;obtain ⟨t,ht⟩:=stp.pre;refine ⟨a,e,?_,?_⟩
  ·rw [<- ht,List.getElem?_append_left (List.getElem?_eq_some_iff.mp h1).1];exact h1
  ·rcases stp.mt a (List.mem_of_getElem? h1) with ⟨q,_⟩ | ⟨_,q⟩;·exact (q.notC k).elim
   ·exact q | .fn _,_,h=>by simpa [Den] using h | .exc x,v,h=>by
  simp only [Den] at h ⊢;obtain ⟨a,C,e,h1,h2⟩:=h;exact ⟨a,C,e,h1,stp.stay h2 (by intro vs z;cases z)⟩ | .scr ds,v,h=>by
  simp only [Den] at h ⊢;obtain ⟨a,vs,e,h1,h2⟩:=h;exact ⟨a,vs,e,h1.imp (fun ⟨o,h1⟩=>⟨o,stp.stay h1 (by intro vs z;cases z)⟩) id,zA.mono stp h2⟩
theorem zA.mono(stp:wd mg H Y H' Y' s'):∀ {ds:List D}{vs:List V},zA mg H Y ds vs->zA mg H' Y' ds vs
 | [],_,h=>by simpa [zA] using h | d::ds,vs,h=>by
  simp only [zA] at h ⊢;obtain ⟨v,r,e,h1,h2⟩:=h;exact ⟨v,r,e,Den.mono stp h1,zA.mono stp h2⟩
end
theorem zA.length:∀ {ds:List D}{vs:List V},zA mg H Y ds vs->vs.length=ds.length
 | [],_,h=>by simp only [zA] at h;rw [h];rfl | d::ds,vs,h=>by
  simp only [zA] at h;obtain ⟨v,r,rfl,_,h2⟩:=h;simp [zA.length h2]
theorem zA.get:∀ {ds:List D}{vs:List V}{i:Nat}{d:D},zA mg H Y ds vs->ds[i]? = some d->∃ v,vs[i]? = some v/\Den mg H Y d v
 | [],_,_,_,_,e=>by simp at e | d::ds,vs,0,d',h,e=>by
  simp only [zA] at h;obtain ⟨v,r,rfl,h1,_⟩:=h;simp at e;subst e;exact ⟨v,by simp,h1⟩ | d::ds,vs,i+1,d',h,e=>by
  simp only [zA] at h;obtain ⟨v,r,rfl,_,h2⟩:=h;obtain ⟨u,h3,h4⟩:=zA.get (i:=i) h2 (by simpa using e);exact ⟨u,by simpa using h3,h4⟩
theorem zA.append:∀ {ds es:List D}{vs us:List V},zA mg H Y ds vs->zA mg H Y es us->zA mg H Y (ds++es) (vs++us)
 | [],_,_,_,h,h'=>by simp only [zA] at h;subst h;simpa using h' | d::ds,_,_,_,h,h'=>by
  simp only [zA] at h;obtain ⟨v,r,rfl,h1,h2⟩:=h;simp only [List.cons_append,zA];exact ⟨v,_,rfl,h1,zA.append h2 h'⟩
theorem zA.nil:zA mg H Y [] []:=by simp [zA]
theorem zA.cons {d:D} {ds:List D} {v:V} {vs:List V} (h:Den mg H Y d v) (h':zA mg H Y ds vs):zA mg H Y (d::ds) (v::vs):=by
 simp only [zA];exact ⟨v,vs,rfl,h,h'⟩
theorem zA.one{d:D}{v:V}(h:Den mg H Y d v):zA mg H Y [d] [v]:=.cons h .nil
theorem zA.take:∀ {ds:List D}{vs:List V}(n:Nat),zA mg H Y ds vs->zA mg H Y (ds.take n) (vs.take n)
 | ds,vs,0,h=>by simp [zA] | [],vs,n+1,h=>by simp only [zA] at h;subst h;simp [zA] | d::ds,vs,n+1,h=>by
  simp only [zA] at h;obtain ⟨v,r,rfl,h1,h2⟩:=h;simp only [List.take_succ_cons];exact .cons h1 (zA.take n h2)
theorem zA.drop:∀ {ds:List D}{vs:List V}(n:Nat),zA mg H Y ds vs->zA mg H Y (ds.drop n) (vs.drop n)
 | ds,vs,0,h=>by simpa using h | [],vs,n+1,h=>by simp only [zA] at h;subst h;simp [zA] | d::ds,vs,n+1,h=>by
  simp only [zA] at h;obtain ⟨v,r,rfl,h1,h2⟩:=h;simpa using zA.drop n h2
theorem zA.set:∀ {ds:List D}{vs:List V}{d:D}{v:V}(n:Nat),zA mg H Y ds vs->Den mg H Y d v->zA mg H Y (ds.set n d) (vs.set n v)
 | [],vs,_,_,n,h,_=>by simp only [zA] at h;subst h;simp [zA] | d::ds,vs,_,_,0,h,h'=>by
  simp only [zA] at h;obtain ⟨v,r,rfl,h1,h2⟩:=h;simpa using zA.cons h' h2 | d::ds,vs,_,_,n+1,h,h'=>by
  simp only [zA] at h;obtain ⟨v,r,rfl,h1,h2⟩:=h;simpa using zA.cons h1 (zA.set n h2 h')
mutual
theorem Den.flatten(k:∀ b o,H b=some o->(∀ vs,o≠.lst vs)->(∀ kvs,o≠.dT kvs)->H' b=some o):∀ {d:D}{v:V},d.flat=true->Den mg H Y d v->Den mg H' Y' d v
 | .non,_,_,h=>by simpa [Den] using h | .bl _,_,_,h=>by simpa [Den] using h | .int _,_,_,h=>by simpa [Den] using h | .str _,_,_,h=>by simpa [Den] using h | .tup ds,v,f,h=>by
  simp only [Den] at h ⊢;obtain ⟨a,vs,e,h1,h2⟩:=h;exact ⟨a,vs,e,k a _ h1 (by intro vs z;cases z) (by intro vs z;cases z),zA.flatten k (by simpa [D.flat] using f) h2⟩ | .lst ds,v,f,h=>by
  simp only [Den] at h ⊢;obtain ⟨a,o,vs,e,h1,h2⟩:=h;exact ⟨a,o,vs,e,k a _ h1 (by intro vs z;cases z) (by intro vs z;cases z),zA.flatten k (by simpa [D.flat] using f) h2⟩ | .dct,v,_,h=>by
  simp only [Den] at h ⊢;obtain ⟨a,e,h1⟩:=h;exact ⟨a,e,k a _ h1 (by intro vs z;cases z) (by intro vs z;cases z)⟩ | .loc l,v,f,h=>by simp [D.flat] at f | .dlo l,v,f,h=>by simp [D.flat] at f | .fn _,_,_,h=>by simpa [Den] using h | .exc x,v,_,h=>by
  simp only [Den] at h ⊢;obtain ⟨a,C,e,h1,h2⟩:=h;exact ⟨a,C,e,h1,k a _ h2 (by intro vs z;cases z) (by intro vs z;cases z)⟩ | .scr ds,v,f,h=>by
  simp only [Den] at h ⊢;obtain ⟨a,vs,e,h1,h2⟩:=h;exact ⟨a,vs,e,h1.imp (fun ⟨o,h1⟩=>⟨o,k a _ h1 (by intro vs z;cases z) (by intro vs z;cases z)⟩) id,zA.flatten k (by simpa [D.flat] using f) h2⟩
theorem zA.flatten(k:∀ b o,H b=some o->(∀ vs,o≠.lst vs)->(∀ kvs,o≠.dT kvs)->H' b=some o):∀ {ds:List D}{vs:List V},D.flat.flats ds=true->zA mg H Y ds vs->zA mg H' Y' ds vs
 | [],_,_,h=>by simpa [zA] using h | d::ds,vs,f,h=>by
  simp only [zA] at h ⊢;simp only [D.flat.flats,Bool.and_eq_true] at f;obtain ⟨v,r,e,h1,h2⟩:=h;exact ⟨v,r,e,Den.flatten k f.1 h1,zA.flatten k f.2 h2⟩
end
end
def okR{α β:Type}(mg:Gm)(E:XK)(H:Hp)(Y:List Addr)(Dn:Hp->List Addr->α->β->Prop)(r:R α)(Q:β->Hp->Prop):Prop:=match r with
 | .ok a s'=>∀ b H' Y',wd mg H Y H' Y' s'->Dn H' Y' a b->Q b H' | .ex c s'=>∀ H' Y' C,wd mg H Y H' Y' s'->mg.m c=some (.ref C)->E (.ref C) none H' | .no=>False
section
variable {α β α2 β2:Type}{mg:Gm}{E:XK}{H H' H1 H2:Hp}{Y Y' Y1 Y2:List Addr}{s s' s1 s2:Sto}{Dn:Hp->List Addr->α->β->Prop}{Dn2:Hp->List Addr->α2->β2->Prop}
theorem okR.rebase{r:R α}{Q:β->Hp->Prop}(h:okR mg E H Y Dn r Q)(stp:wd mg H Y H1 Y1 s1):okR mg E H1 Y1 Dn r Q:=by cases r with
 | ok a s'=>exact fun b H' Y' stp'=>h b H' Y' (stp.trans stp') | ex c s'=>exact fun H' Y' C stp'=>h H' Y' C (stp.trans stp') | no=>exact h
theorem okR.bind{r:R α}{k:α->Sto->R α2}{Q:β2->Hp->Prop}(h:okR mg E H Y Dn2 (r.bind k) Q): okR mg E H Y Dn r (fun b H1=>∃ Y1 s1 a,wd mg H Y H1 Y1 s1/\Dn H1 Y1 a b/\okR mg E H1 Y1 Dn2 (k a s1) Q):=by cases r with
 | ok a s'=>exact fun b H' Y' stp dn=>⟨Y',s',a,stp,dn,okR.rebase h stp⟩ | ex c s'=>exact h | no=>exact h
theorem okR.imp{r:R α}{Q Q':β->Hp->Prop}(h:okR mg E H Y Dn r Q)(i:∀ b H',Q b H'->Q' b H'):okR mg E H Y Dn r Q':=by cases r with
 | ok a s'=>exact fun b H' Y' stp dn=>i b H' (h b H' Y' stp dn) | ex c s'=>exact h | no=>exact h
theorem okR.here{a:α}{Q:β->Hp->Prop}{b:β}(h:okR mg E H Y Dn (.ok a s) Q)(r:Rep mg H Y s)(d:Dn H Y a b):Q b H:=h b H Y (.refl r) d
end
structure ud(mg:Gm)(H:Hp)(Y:List Addr)(Z:Ev)(O:L2.St):Prop where
 len:Z.length=O.length
 at_:∀ (i:Nat)(d:D),Z[i]? = some (some d)->∃ v,O[i]? = some (some v)/\Den mg H Y d v
theorem ud.mono{mg:Gm}{H H':Hp}{Y Y':List Addr}{s':Sto}{Z:Ev}{O:L2.St}(e:ud mg H Y Z O)(stp:wd mg H Y H' Y' s'):ud mg H' Y' Z O:= ⟨e.len,fun i d h=>let ⟨v,h1,h2⟩:=e.at_ i d h;⟨v,h1,h2.mono stp⟩⟩
theorem ud.set{mg:Gm}{H:Hp}{Y:List Addr}{Z:Ev}{O:L2.St}{d:D}{v:V}(e:ud mg H Y Z O)(h:Den mg H Y d v)(i:Nat):ud mg H Y (Z.set i (some d)) (O.set i (some v)):=by
 refine ⟨by simp [e.len],fun j d' hj=>?_⟩;by_cases hij:i=j
 ·subst hij;have hi:i<Z.length:=by
   have:=(List.getElem?_eq_some_iff.mp hj).1;simpa using this
  rw [List.getElem?_set_self hi] at hj;cases hj;exact ⟨v,by rw [List.getElem?_set_self (by rw [<- e.len];exact hi)],h⟩
 ·rw [List.getElem?_set_ne hij] at hj ⊢;exact e.at_ j d' hj
abbrev FE:=Ev->Sto->R D
abbrev FT:=Ev->Sto->R Bool
abbrev FA:=Ev->Sto->R (List D)
inductive Fl where | nx (Z:Ev) | rt (d:D) | bk (Z:Ev) | ct (Z:Ev)
inductive FlV where | nx (O:L2.St) | rt (v:V) | bk (O:L2.St) | ct (O:L2.St)
abbrev FS:=Ev->Sto->R Fl
def FlD(mg:Gm)(H:Hp)(Y:List Addr):Fl->FlV->Prop
 | .nx Z,.nx O=>ud mg H Y Z O | .rt d,.rt v=>Den mg H Y d v | .bk Z,.bk O=>ud mg H Y Z O | .ct Z,.ct O=>ud mg H Y Z O | _,_=>False
def z3F(D:zdN):FlV->Hp->Prop
 | .nx O,H=>D.nx O H | .rt v,H=>D.rt v H | .bk O,H=>D.bk O H | .ct O,H=>D.ct O H
def bD(_:Hp)(_:List Addr)(a b:Bool):Prop:=a=b
def tE(mg:Gm)(E:XK)(f:FE):TE:=fun O H Q=>∃ Y Z s,Rep mg H Y s/\ud mg H Y Z O/\okR mg E H Y (Den mg) (f Z s) Q
def tT(mg:Gm)(E:XK)(f:FT):TT:=fun O H Q=>∃ Y Z s,Rep mg H Y s/\ud mg H Y Z O/\okR mg E H Y bD (f Z s) Q
def tA(mg:Gm)(E:XK)(f:FA):TA:=fun O H Q=>∃ Y Z s,Rep mg H Y s/\ud mg H Y Z O/\okR mg E H Y (zA mg) (f Z s) Q
def tS(mg:Gm)(E:XK)(f:FS):TS:=fun D O H=>∃ Y Z s,Rep mg H Y s/\ud mg H Y Z O/\okR mg E H Y (FlD mg) (f Z s) (z3F D)
def RE(X:Cx)(E:XK)(e:Expr)(f:FE):Prop:=PE X e (tE (gm X) E f)
def RT(X:Cx)(E:XK)(e:Expr)(f:FT):Prop:=PT X e (tT (gm X) E f)
def RA(X:Cx)(E:XK)(es:List Expr)(f:FA):Prop:=PA X es (tA (gm X) E f)
def RS(X:Cx)(E:XK)(st:Stmt)(f:FS):Prop:=PS X st (tS (gm X) E f)
def RSs(X:Cx)(E:XK)(st:List Stmt)(f:FS):Prop:=PSs X st (tS (gm X) E f)
section
variable {X:Cx}{E:XK}{e a b c:Expr}{es:List Expr}{pos:Pos}
theorem yw{t t':TE}(h:PE X e t)(i:∀ O H Q,t' O H Q->t O H Q):PE X e t':=fun pins s O H Q I q=>h pins s O H Q I (i O H Q q)
theorem z7u{t t':TT}(h:PT X e t)(i:∀ O H Q,t' O H Q->t O H Q):PT X e t':=fun pins s O H Q I q=>h pins s O H Q I (i O H Q q)
theorem zc9{t t':TA}(h:PA X es t)(i:∀ O H Q,t' O H Q->t O H Q):PA X es t':=fun pos pins s O H Q I q=>h pos pins s O H Q I (i O H Q q)
theorem uJ{st:Stmt}{t t':TS}(h:PS X st t)(i:∀ D O H,t' D O H->t D O H):PS X st t':=fun pins s O H D I q=>h pins s O H D I (i D O H q)
theorem z9M{st:List Stmt}{t t':TS}(h:PSs X st t)(i:∀ D O H,t' D O H->t D O H):PSs X st t':=fun pins s O H D I q=>h pins s O H D I (i D O H q)
theorem yI{α β:Type}{Dn:Hp->List Addr->α->β->Prop}{mg:Gm}{f:FE}{k:Ev->D->Sto->R α}{O:L2.St}{H:Hp}{Q:β->Hp->Prop}{Y:List Addr}{Z:Ev}{s:Sto}(r:Rep mg H Y s)(en:ud mg H Y Z O) (h:okR mg E H Y Dn ((f Z s).bind (k Z)) Q)(K:V->Hp->Prop) (hK:∀ v H1 Y1 s1 d,Rep mg H1 Y1 s1->ud mg H1 Y1 Z O->Den mg H1 Y1 d v->wd mg H Y H1 Y1 s1->okR mg E H1 Y1 Dn (k Z d s1) Q->K v H1):tE mg E f O H K:= ⟨Y,Z,s,r,en,(okR.bind (Dn:=Den mg) h).imp fun v H1 ⟨Y1,s1,d,stp,dn,q⟩=>hK v H1 Y1 s1 d stp.rep (en.mono stp) dn stp q⟩
theorem z1l{α β:Type}{Dn:Hp->List Addr->α->β->Prop}{mg:Gm}{f:FT}{k:Ev->Bool->Sto->R α}{O:L2.St}{H:Hp}{Q:β->Hp->Prop}{Y:List Addr}{Z:Ev}{s:Sto}(r:Rep mg H Y s)(en:ud mg H Y Z O) (h:okR mg E H Y Dn ((f Z s).bind (k Z)) Q)(K:Bool->Hp->Prop) (hK:∀ v H1 Y1 s1,Rep mg H1 Y1 s1->ud mg H1 Y1 Z O->wd mg H Y H1 Y1 s1->okR mg E H1 Y1 Dn (k Z v s1) Q->K v H1):tT mg E f O H K:= ⟨Y,Z,s,r,en,(okR.bind (Dn:=bD) h).imp fun v H1 ⟨Y1,s1,d,stp,dn,q⟩=>hK v H1 Y1 s1 stp.rep (en.mono stp) stp (by cases (show d=v from dn);exact q)⟩
theorem ug{α β:Type}{Dn:Hp->List Addr->α->β->Prop}{mg:Gm}{f:FA}{k:Ev->List D->Sto->R α}{O:L2.St}{H:Hp}{Q:β->Hp->Prop}{Y:List Addr}{Z:Ev}{s:Sto}(r:Rep mg H Y s)(en:ud mg H Y Z O) (h:okR mg E H Y Dn ((f Z s).bind (k Z)) Q)(K:List V->Hp->Prop) (hK:∀ v H1 Y1 s1 d,Rep mg H1 Y1 s1->ud mg H1 Y1 Z O->zA mg H1 Y1 d v->wd mg H Y H1 Y1 s1->okR mg E H1 Y1 Dn (k Z d s1) Q->K v H1):tA mg E f O H K:= ⟨Y,Z,s,r,en,(okR.bind (Dn:=zA mg) h).imp fun v H1 ⟨Y1,s1,d,stp,dn,q⟩=>hK v H1 Y1 s1 d stp.rep (en.mono stp) dn stp q⟩
def zc(i:Nat):FE:=fun Z s=>match Z[i]? with | some (some d)=>.ok d s | _=>.no
theorem zb(i:Nat){x:Str}(hN:X.N[i]? = some x:=by rfl)(hv:Vis X.env.scope x:=by first | exact Or.inl rfl | exact Or.inr (Or.inl rfl) | exact Or.inr (Or.inr rfl))(hd:(x==("__debug__":Str))=false:=by decide) (hcd:(x==("__classdict__":Str))=false:=by decide):RE X E (.Name x pos) (zc i):= yw (zce hN hv hd hcd) fun O H Q ⟨Y,Z,s,r,en,h⟩=>by
  unfold zc at h;split at h
  ·rename_i d hd;obtain ⟨v,h1,h2⟩:=en.at_ i d hd;exact ⟨v,h1,h.here r h2⟩
  ·exact h.elim
def eC(d:D):FE:=fun _ s=>.ok d s
theorem zq{i:Int}{j:Nat}:RE X E (.Constant (.int i) j pos) (eC (.int i)):=yw zgB fun O H Q ⟨Y,Z,s,r,en,h⟩=>okR.here (b:=V.int i) h r (by simp [Den])
theorem z7r{i:Bool}{j:Nat}:RE X E (.Constant (.bool i) j pos) (eC (.bl i)):=yw zi3 fun O H Q ⟨Y,Z,s,r,en,h⟩=>okR.here (b:=V.bl i) h r (by simp [Den])
theorem zac{i:Str}{j:Nat}:RE X E (.Constant (.str i) j pos) (eC (.str i)):=yw zfN fun O H Q ⟨Y,Z,s,r,en,h⟩=>okR.here (b:=V.str i) h r (by simp [Den])
theorem zg6{x:Str}{i:Int}{t:Tok}(hg:Gl X x)(hm:X.mg x=some (.int i t))(hd:(x==("__debug__":Str))=false:=by decide):RE X E (.Name x pos) (eC (.int i)):= yw (z6d hg hm (show xn (.int i) (.int i t) from ⟨t,rfl⟩) hd) fun O H Q ⟨Y,Z,s,r,en,h⟩=>okR.here (b:=V.int i) h r (by simp [Den])
def OpF(X:Cx)(E:XK)(r:R2)(op:D->D->Sto->R D):Prop:= ∀ H Y s d1 d2 v1 v2 (Q:VK),Rep (gm X) H Y s->Den (gm X) H Y d1 v1->Den (gm X) H Y d2 v2->okR (gm X) E H Y (Den (gm X)) (op d1 d2 s) Q->r v1 v2 H Q
def eOp(op:D->D->Sto->R D)(fa fb:FE):FE:=fun Z s=>(fa Z s).bind fun x s1=>(fb Z s1).bind fun y s2=>op x y s2
theorem z7y{r:R2}{op:D->D->Sto->R D}{fa fb:FE}(ho:OpF X E r op){O:L2.St}{H:Hp}{Q:VK}(h:tE (gm X) E (eOp op fa fb) O H Q):tOp r (tE (gm X) E fa) (tE (gm X) E fb) O H Q:=by
 obtain ⟨Y,Z,s,r',en,h⟩:=h;refine yI (k:=fun Z x s1=>(fb Z s1).bind fun y s2=>op x y s2) r' en h _ fun v H1 Y1 s1 d r1 en1 dn stp h1=>?_;refine yI (k:=fun Z y s2=>op d y s2) r1 en1 h1 _ fun v2 H2 Y2 s2 d2 r2 en2 dn2 St2 h2=>?_;exact ho H2 Y2 s2 d d2 v v2 Q r2 (dn.mono St2) dn2 h2
theorem zjn{op:Operator}{r:R2}{fo:D->D->Sto->R D}{fa fb:FE}(ho:OpR X (binaryOp op) r/\OpF X E r fo)(ha:RE X E a fa)(hb:RE X E b fb):RE X E (.BinOp a op b pos) (eOp fo fa fb):= yw (zh4 ho.1 ha hb) fun O H Q h=>z7y ho.2 h
theorem zh5{op:CmpOp}{r:R2}{fo:D->D->Sto->R D}{fa fb:FE}(ho:OpR X (compareOp op) r/\OpF X E r fo)(ha:RE X E a fa)(hb:RE X E b fb)(hm:behindInMarks op b=false):RE X E (.Compare a [op] [b] pos) (eOp fo fa fb):= yw (za4 ho.1 ha hb hm) fun O H Q h=>z7y ho.2 h
end
end Dd
namespace L2
open PySem.Spec
theorem Inv.freeze {X:Cx} {pins:List (Addr×Obj)} {O:L2.St} {H:Hp} {s:Shared} {a:Addr} {u:HO} {o:Obj} (I:Inv X pins O H s) (h:H a=some u) (e:s.heap.get? a=some o) (hu:∀ xs,u≠.tup xs) (hf:∀ o v,u≠.frz o v) (ht:∀ ps,u≠.tbl ps) (ho:∀ y,u≠.own y): Inv X pins O (upd H a (.frz o u)) s:=by
 have ne:∀ {b:Addr} {v:HO},H b=some v->v≠u->b≠a:=fun {b v} hb hv z=>by subst z;rw [h] at hb;exact hv (Option.some.inj hb).symm
 have stay:∀ b v,xP X.prog X.w H s.heap b v->xP X.prog X.w (upd H a (.frz o u)) s.heap b v:=fun b v q=> q.stay (fun _ _ _ q=>q) (fun c q=>by rw [zH (ne q (fun z=>ho b z.symm))];exact q) fun c xs q=>by rw [zH (ne q (fun z=>hu xs z.symm))];exact q
 have hok:HOk X.prog X.w (upd H a (.frz o u)) s.heap:=fun b v q=>by
  by_cases hb:b=a
  ·subst hb;rw [yn] at q;cases q;exact ⟨e,stay b u (I.hok b u h)⟩
  ·rw [zH hb] at q;exact stay b v (I.hok b v q)
 exact I.step (h':=s.heap) (g':=s.gens) (d':=s.drawn) (t':=s.toks) (ch:=[]) (fun b hb=>absurd hb (by simp)) (fun b o _ _ _ e _=>e) (fun b o _ _ _ e _=>⟨o.slots,e⟩) (fun b v _ _ n=>by rw [zH (fun z=>by subst z;rw [h] at n;cases n)];exact n) (fun b o _ e=>⟨o,e⟩) (fun b xs q=>by rw [zH (ne q (fun z=>hu xs z.symm))];exact q) (fun b o' v q=>by rw [zH (ne q (fun z=>hf o' v z.symm))];exact q) (fun b ps q=>⟨#[],by rw [zH (ne q (fun z=>ht ps z.symm)),q];simp⟩) (fun _ q=>q) hok I.bare
def zeD(Q:VK):VK:=fun v H=>∃ a xs,v=.ref a/\H a=some (.lst xs)/\∀ o,Q v (upd H a (.frz o (.lst xs)))
theorem EP.freeze{X:Cx}{pins:List (Addr×Obj)}{O:L2.St}{Q:VK}{u:Value}{s:Shared}(h:EP X pins O (zeD Q) u s):EP X pins O Q u s:=by
 obtain ⟨v,H',I,r,a,xs,rfl,ha,q⟩:=h;obtain ⟨its,n,rv,e,_⟩:=I.lst ha;exact ⟨_,_,I.freeze ha e (by intro _ z;cases z) (by intro _ _ z;cases z) (by intro _ z;cases z) (by intro _ z;cases z),r,q _⟩
theorem OpR.freeze{X:Cx}{f:Value->Value->Sem Value}{r:R2}(h:OpR X f r):OpR X f (fun x y H Q=>r x y H (zeD Q)):=fun pins s O H x y v u Q I rx ry q=>thn (h pins s O H x y v u _ I rx ry q) fun _ _ z=>z.freeze
theorem PE.freeze{X:Cx}{e:Expr}{t:TE}(h:PE X e t):PE X e (fun O H Q=>t O H (zeD Q)):=fun pins s O H Q I q=>thn (h pins s O H _ I q) fun _ _ z=>z.freeze
theorem SlR.freeze{X:Cx}{r:V->Option Int->Option Int->Hp->VK->Prop}(h:SlR X r):SlR X (fun x lo hi H Q=>r x lo hi H (zeD Q)):=fun pins s O H x v vl vu lo hi sl Q I rx hs pl pu q=>by
 obtain ⟨T,id,h1,h2,h3⟩:=h pins s O H x v vl vu lo hi sl _ I rx hs pl pu q;exact ⟨T,id,h1,h2,thn h3 fun _ _ z=>z.freeze⟩
section
variable {X:Cx}
theorem zcK:OpR X (binaryOp .Add) (fun x y H Q=>∃ l b xs zs,x=.ref l/\y=.ref b/\Rd H l (.lst xs)/\Rd H b (.lst zs)/\xs.length+zs.length<=sizeLine/\∀ p,H p=none->Q (.ref p) (upd H p (.lst (xs++zs)))):=by
 intro pins s O H x y v u Q I rx ry h;obtain ⟨l,b,xs,zs,rfl,rfl,hH,hB,hz,q⟩:=h;cases rx;cases ry;obtain ⟨z,its,n,r,e⟩:=hH.ok I.hok;obtain ⟨z2,its2,n2,r2,e2⟩:=hB.ok I.hok;have hl:=r.length;have hl2:=r2.length;refine PySem.P.add_list e e2 ?_ (by rw [List.size_toArray,List.size_toArray];omega);have ea:its.toArray++its2.toArray=(its++its2).toArray:=by simp
 rw [ea];exact ⟨.ref _,_,I.lnew (t':=s.toks) (r.append r2) (by rw [List.length_append];omega),rfl,q _ I.fresh⟩
end
section
variable {X:Cx}
theorem zbq:OpR X (binaryOp .Add) (fun x y H Q=>∃ a b ys,x=.ref a/\y=.ref b/\SqT X.K H a []/\SqT X.K H b ys/\Q (.ref b) H):=by
 intro pins s O H x y v u Q I rx ry h;obtain ⟨a,b,ys,rfl,rfl,ha,hb,q⟩:=h;cases rx;cases ry;obtain ⟨its,r1,p1,_⟩:=I.tuple ha;obtain ⟨its2,r2,p2,_⟩:=I.tuple hb;cases r1;obtain ⟨⟨cls,dd,data,sl⟩,ho,hc,n,hd⟩:=id p1;obtain ⟨⟨cls2,dd2,data2,sl2⟩,ho2,hc2,n2,hd2⟩:=id p2;simp only at hc hd hc2 hd2;subst hc hd hc2 hd2;exact concat_meets ⟨_,ho,rfl⟩ ⟨_,ho2,rfl⟩ noFill_tuple_add seq_tuple_add PySem.F.slot_tuple_add PySem.F.entry_tuple_add (PySem.F.args_tuple_add_2 _ _) (tuple_addW0 a b _ _ n n2 dd dd2 sl sl2 (by simp)) ⟨ho,ho2,⟨.ref b,H,I,rfl,q⟩⟩
theorem zer:SlR X (fun x lo hi H Q=>∃ a xs,x=.ref a/\SqT X.K H a xs/\(HT.sIx xs.length 0 lo=0/\HT.sIx xs.length xs.length hi=xs.length)/\Q (.ref a) H):=by
 intro pins s O H x v vl vu lo hi sl Q I rx hs pl pu h;obtain ⟨a,xs,rfl,hx,hw,q⟩:=h;cases rx;obtain ⟨its,r,ht,hz⟩:=I.tuple hx;have hlen:its.toArray.size=xs.length:=by rw [List.size_toArray];exact r.length.symm
 refine ⟨"tuple",_,PyProof.Rows.slot_tuple_getitem.lookup,ht.typeIs,?_⟩;obtain ⟨os,hos,hcs,hds⟩:=id hs;have hTs:s.TypeIs (.ref sl) "slice":=⟨os,hos,hcs⟩;obtain ⟨oa,hoa,hca,na,hda⟩:=id ht;unfold getItem;try with_reducible refine wpAny_holding ?_
 first | refine wpAny_bind (wpAny_pure ?_) | skip
 refine wpAny_bind (wpAny_sequenceKey ht.typeIs (by decide) ?_);refine wpAny_bind (wpAny_callSpecial?_slot (name:=Str.ofString "__getitem__") ht.typeIs PyProof.Rows.slot_tuple_getitem (wpAny_call_entry PyProof.Rows.slot_tuple_getitem ht.typeIs entry_tuple_getitem ?_ (args_tuple_getitem _ _)));show wpAny _ _ (Builtin.Tuple.tupleItemsOf (.ref a) >>= _) _ _ s;refine wpAny_bind (tupleItemsOf_ ht ?_);refine wpAny_bind (wpAny_typeOf hTs ?_);rw [if_pos (by decide)];refine wpAny_bind (HT.uP hs pl pu ?_);rw [hlen,hw.1,hw.2];show wpAny _ _ (if (((0:Nat):Int)==0&&(1:Int)==1&&(xs.length-0)==xs.length)=true then _ else _) _ _ s;rw [if_pos (by simp)];have hTa:s.TypeIs (.ref a) "tuple":=ht.typeIs;have fin:EP X pins O Q (.ref a) s:=⟨.ref a,H,I,rfl,q⟩;unfold Builtin.Tuple.tupleIsExact;refine wpAny_bind (wpAny_bind (wpAny_typeOf hTa (wpAny_pure ?_)));rw [if_pos (by decide)];exact wpAny_bind (wpAny_rule (wpAny_pure ⟨_,rfl,wpAny_pure fin⟩))
end
end L2
namespace Dd
open PySem.Spec L2
section
variable {mg:Gm}{H H' H1 H2:Hp}{Y Y' Y1 Y2:List Addr}{s s' s1 s2:Sto}
structure Kp(H H':Hp):Prop where
 k:∀ b o,H b=some o->(∀ vs,o≠.lst vs)->(∀ kvs,o≠.dT kvs)->H' b=some o
 l:∀ a,IsL H a->IsL H' a
 c:∀ a,IsC H a->IsC H' a
mutual
theorem Den.gen(k:Kp H H')(hi:∀ (l:Nat) a,Y[l]? = some a->Y'[l]? = some a):∀ {d:D}{v:V},Den mg H Y d v->Den mg H' Y' d v
 | .non,_,h=>by simpa [Den] using h | .bl _,_,h=>by simpa [Den] using h | .int _,_,h=>by simpa [Den] using h | .str _,_,h=>by simpa [Den] using h | .tup ds,v,h=>by
  simp only [Den] at h ⊢;obtain ⟨a,vs,e,h1,h2⟩:=h;exact ⟨a,vs,e,k.k a _ h1 (by intro vs z;cases z) (by intro vs z;cases z),zA.gen k hi h2⟩ | .lst ds,v,h=>by
  simp only [Den] at h ⊢;obtain ⟨a,o,vs,e,h1,h2⟩:=h;exact ⟨a,o,vs,e,k.k a _ h1 (by intro vs z;cases z) (by intro vs z;cases z),zA.gen k hi h2⟩ | .dct,v,h=>by
  simp only [Den] at h ⊢;obtain ⟨a,e,h1⟩:=h;exact ⟨a,e,k.k a _ h1 (by intro vs z;cases z) (by intro vs z;cases z)⟩ | .loc l,v,h=>by
  simp only [Den] at h ⊢;obtain ⟨a,e,h1,q⟩:=h;exact ⟨a,e,hi l a h1,k.l a q⟩ | .dlo l,v,h=>by
  simp only [Den] at h ⊢;obtain ⟨a,e,h1,q⟩:=h;exact ⟨a,e,hi l a h1,k.c a q⟩ | .fn _,_,h=>by simpa [Den] using h | .exc x,v,h=>by
  simp only [Den] at h ⊢;obtain ⟨a,C,e,h1,h2⟩:=h;exact ⟨a,C,e,h1,k.k a _ h2 (by intro vs z;cases z) (by intro vs z;cases z)⟩ | .scr ds,v,h=>by
  simp only [Den] at h ⊢;obtain ⟨a,vs,e,h1,h2⟩:=h;exact ⟨a,vs,e,h1.imp (fun ⟨o,h1⟩=>⟨o,k.k a _ h1 (by intro vs z;cases z) (by intro vs z;cases z)⟩) id,zA.gen k hi h2⟩
theorem zA.gen(k:Kp H H')(hi:∀ (l:Nat) a,Y[l]? = some a->Y'[l]? = some a):∀ {ds:List D}{vs:List V},zA mg H Y ds vs->zA mg H' Y' ds vs
 | [],_,h=>by simpa [zA] using h | d::ds,vs,h=>by
  simp only [zA] at h ⊢;obtain ⟨v,r,e,h1,h2⟩:=h;exact ⟨v,r,e,Den.gen k hi h1,zA.gen k hi h2⟩
end
theorem z1N{p:Addr}{o:HO}(hp:H p=none):∀ b u,H b=some u->upd H p o b=some u:=fun b u h=>by rw [zH (yK h hp)];exact h
theorem Kp.new{p:Addr}{o:HO}(hp:H p=none):Kp H (upd H p o):=⟨fun b u h _ _=>z1N hp b u h,fun a ⟨vs,e⟩=>⟨vs,z1N hp a _ e⟩,fun a ⟨vs,e⟩=>⟨vs,z1N hp a _ e⟩⟩
theorem Kp.putL{a:Addr}{vs:List V}(h:IsL H a):Kp H (upd H a (.lst vs)):=by
 obtain ⟨ws,e⟩:=h;refine ⟨fun b o q n1 n2=>?_,fun b ⟨us,q⟩=>?_,fun b ⟨us,q⟩=>?_⟩;·rw [zH (fun z=>by subst z;rw [e] at q;exact n1 ws (Option.some.inj q).symm)];exact q
 ·by_cases z:b=a;·subst z;exact ⟨vs,yn⟩
  ·exact ⟨us,by rw [zH z];exact q⟩
 ·rw [IsC,zH (fun z=>by subst z;rw [e] at q;cases q)];exact ⟨us,q⟩
theorem Kp.putC{a:Addr}{kvs:List (List Key×V)}(h:IsC H a):Kp H (upd H a (.dT kvs)):=by
 obtain ⟨ws,e⟩:=h;refine ⟨fun b o q n1 n2=>?_,fun b ⟨us,q⟩=>?_,fun b ⟨us,q⟩=>?_⟩;·rw [zH (fun z=>by subst z;rw [e] at q;exact n2 ws (Option.some.inj q).symm)];exact q
 ·rw [IsL,zH (fun z=>by subst z;rw [e] at q;cases q)];exact ⟨us,q⟩
 ·by_cases z:b=a;·subst z;exact ⟨kvs,yn⟩
  ·exact ⟨us,by rw [zH z];exact q⟩
theorem uc.gen{xs:List D}{a:Addr}(k:Kp H H')(hi:∀ (l:Nat) a,Y[l]? = some a->Y'[l]? = some a)(e:H' a=H a)(h:uc mg H Y xs a):uc mg H' Y' xs a:=by
 rcases h with ⟨vs,h1,h2⟩ | ⟨kvs,h1,h2⟩;·exact .inl ⟨vs,e.trans h1,h2.gen k hi⟩
 ·exact .inr ⟨kvs,e.trans h1,h2⟩
theorem uc.ne{xs:List D}{a p:Addr}(h:uc mg H Y xs a)(hp:H p=none):a≠p:=by
 rintro rfl;rcases h.kind with ⟨_,e⟩ | ⟨_,e⟩<;>rw [hp] at e<;>cases e
theorem Rep.notin{p:Addr}(r:Rep mg H Y s)(hp:H p=none):p∉Y:=fun z=>by rcases r.mt p z with ⟨_,e⟩ | ⟨_,e⟩<;>rw [hp] at e<;>cases e
theorem wd.lay{p:Addr}{o:HO}(r:Rep mg H Y s)(hp:H p=none)(ho:∀ vs,o≠.lst vs):wd mg H Y (upd H p o) Y s:= ⟨⟨r.len,r.nd,fun l xs h=>let ⟨a,h1,h2⟩:=r.cell l xs h;⟨a,h1,h2.gen (.new hp) (fun _ _ q=>q) (zH (h2.ne hp))⟩,r.flat⟩,List.prefix_refl _,fun b u h _=>z1N hp b u h,fun a h1 h2=>absurd h1 h2,fun a ha=>(r.mt a ha).imp (fun h=>⟨h,(Kp.new hp).l a h⟩) fun h=>⟨h,(Kp.new hp).c a h⟩⟩
theorem wd.layC{p:Addr}{o:HO}{xs:List D}(r:Rep mg H Y s)(hp:H p=none)(hc:uc mg (upd H p o) (Y++[p]) xs p)(hf:D.flat.flats xs=true):wd mg H Y (upd H p o) (Y++[p]) (s++[xs]):=by
 have pn:p∉Y:=r.notin hp;have hi:∀ (l:Nat) a,Y[l]? = some a->(Y++[p])[l]? = some a:=fun l a h=>by rw [List.getElem?_append_left (List.getElem?_eq_some_iff.mp h).1];exact h
 refine ⟨⟨by simp [r.len],?_,fun l ys h=>?_,fun ys h=>?_⟩,List.prefix_append _ _,fun b u h _=>z1N hp b u h,fun a h1 h2=>?_,fun a ha=>(r.mt a ha).imp (fun h=>⟨h,(Kp.new hp).l a h⟩) fun h=>⟨h,(Kp.new hp).c a h⟩⟩
 ·rw [List.nodup_append];exact ⟨r.nd,by simp,fun a ha b hb=>by
   have:b=p:=by simpa using hb
   subst this;exact fun z=>pn (z ▸ ha)⟩
 ·by_cases hl:l<s.length
  ·rw [List.getElem?_append_left hl] at h;obtain ⟨a,h1,h2⟩:=r.cell l ys h;exact ⟨a,hi l a h1,h2.gen (.new hp) hi (zH (h2.ne hp))⟩
  ·have h0:l=s.length:=by
    have:=(List.getElem?_eq_some_iff.mp h).1;simp at this;omega
   subst h0;simp at h;subst h;exact ⟨p,by rw [<- r.len];simp,hc⟩
 ·rcases List.mem_append.mp h with h | h;·exact r.flat ys h
  ·have:ys=xs:=by simpa using h
   rw [this];exact hf
 ·rcases List.mem_append.mp h1 with h | h;·exact absurd h h2
  ·have:a=p:=by simpa using h
   rw [this];exact hp
theorem wd.layL{p:Addr}{xs:List D}{vs:List V}(r:Rep mg H Y s)(hp:H p=none)(hd:zA mg H Y xs vs)(hf:D.flat.flats xs=true):wd mg H Y (upd H p (.lst vs)) (Y++[p]) (s++[xs]):= wd.layC r hp (.inl ⟨vs,yn,hd.gen (.new hp) fun l a h=>by rw [List.getElem?_append_left (List.getElem?_eq_some_iff.mp h).1];exact h⟩) hf
theorem wd.putC{l:Nat}{a:Addr}{o:HO}{xs:List D}(r:Rep mg H Y s)(ha:Y[l]? = some a)(k:Kp H (upd H a o))(hc:uc mg (upd H a o) Y xs a)(hf:D.flat.flats xs=true):wd mg H Y (upd H a o) Y (s.set l xs):=by
 have hai:a∈Y:=List.mem_of_getElem? ha;have hll:l<s.length:=by rw [<- r.len];exact (List.getElem?_eq_some_iff.mp ha).1
 refine ⟨⟨by simp [r.len],r.nd,fun j ys h=>?_,fun ys h=>?_⟩,List.prefix_refl _,fun b u h hn=>?_,fun a h1 h2=>absurd h1 h2,fun b hb=>(r.mt b hb).imp (fun h=>⟨h,k.l b h⟩) fun h=>⟨h,k.c b h⟩⟩
 ·by_cases hj:l=j
  ·subst hj;rw [List.getElem?_set_self hll] at h;cases h;exact ⟨a,ha,hc⟩
  ·rw [List.getElem?_set_ne hj] at h;obtain ⟨b,h1,h2⟩:=r.cell j ys h;refine ⟨b,h1,h2.gen k (fun _ _ q=>q) (zH ?_)⟩;rintro rfl;have il:l<Y.length:=(List.getElem?_eq_some_iff.mp ha).1;have ij:j<Y.length:=(List.getElem?_eq_some_iff.mp h1).1;exact hj ((List.getElem_inj r.nd).mp (((List.getElem?_eq_some_iff.mp ha).2).trans ((List.getElem?_eq_some_iff.mp h1).2).symm))
 ·rcases List.mem_or_eq_of_mem_set h with h | h;·exact r.flat ys h
  ·rw [h];exact hf
 ·rw [zH (fun z=>by subst z;exact hn hai)];exact h
theorem wd.put{l:Nat}{a:Addr}{xs:List D}{vs:List V}(r:Rep mg H Y s)(ha:Y[l]? = some a)(ka:IsL H a)(hd:zA mg H Y xs vs)(hf:D.flat.flats xs=true):wd mg H Y (upd H a (.lst vs)) Y (s.set l xs):= wd.putC r ha (.putL ka) (.inl ⟨vs,yn,hd.gen (.putL ka) fun _ _ q=>q⟩) hf
def listOf(s:Sto):D->Option (List D)
 | .lst xs=>some xs | .loc l=>s[l]? | _=>none
def zL(s:Sto):D->Option (List D)
 | .tup xs=>some xs | .lst xs=>some xs | .scr xs=>some xs | .loc l=>s[l]? | _=>none
theorem yh{d:D}{xs:List D}{v:V}(r:Rep mg H Y s)(h:listOf s d=some xs)(dn:Den mg H Y d v):∃ a vs,v=.ref a/\Rd H a (.lst vs)/\zA mg H Y xs vs:=by cases d with
 | lst ys=>
  simp only [listOf,Option.some.injEq] at h;subst h;simp only [Den] at dn;obtain ⟨a,o,vs,e,h1,h2⟩:=dn;exact ⟨a,vs,e,.inr ⟨o,h1⟩,h2⟩ | loc l=>
  simp only [Den] at dn;obtain ⟨a,e,h1,k⟩:=dn;obtain ⟨vs,h3,h4⟩:=r.at_ h h1 k;exact ⟨a,vs,e,.inl h3,h4⟩ | _=>simp [listOf] at h
theorem zci{xs:List D}{v:V}(dn:Den mg H Y (.scr xs) v):∃ a vs,v=.ref a/\SqL mg.K H a vs/\zA mg H Y xs vs:=by
 simp only [Den] at dn;obtain ⟨a,vs,e,h1,h2⟩:=dn;exact ⟨a,vs,e,h1.elim (fun ⟨o,h⟩=>.inl (.inr ⟨o,h⟩)) .inr,h2⟩
theorem vA{K:W.Frag}{d:D}{xs:List D}{v:V}(r:Rep mg H Y s)(h:zL s d=some xs)(dn:Den mg H Y d v)(hK:mg.K=K:=by rfl):∃ a vs,v=.ref a/\(SqL K H a vs\/SqT K H a vs)/\zA mg H Y xs vs:=by cases d with
 | tup ys=>
  simp only [zL,Option.some.injEq] at h;subst h;simp only [Den] at dn;obtain ⟨a,vs,e,h1,h2⟩:=dn;exact ⟨a,vs,e,.inr (.inl (.inl h1)),h2⟩ | lst ys=>
  obtain ⟨a,vs,e,h1,h2⟩:=yh (d:=.lst ys) r h dn;exact ⟨a,vs,e,.inl (.inl h1),h2⟩ | scr ys=>
  simp only [zL,Option.some.injEq] at h;subst h;subst hK;obtain ⟨a,vs,e,h1,h2⟩:=zci dn;exact ⟨a,vs,e,.inl h1,h2⟩ | loc l=>
  obtain ⟨a,vs,e,h1,h2⟩:=yh (d:=.loc l) r h dn;exact ⟨a,vs,e,.inl (.inl h1),h2⟩ | _=>simp [zL] at h
theorem vG{K:W.Frag}{xs:List D}{v:V}(dn:Den mg H Y (.tup xs) v):∃ a vs,v=.ref a/\SqT K H a vs/\zA mg H Y xs vs:=by
 simp only [Den] at dn;obtain ⟨a,vs,e,h1,h2⟩:=dn;exact ⟨a,vs,e,.inl (.inl h1),h2⟩
end
def cap:Nat:=100000
theorem z0U{n:Nat}(h:n<=cap):n<=sizeLine:=Nat.le_trans h (by decide)
theorem zgw{n:Nat}(h:n<cap):n<sizeLine:=Nat.lt_of_lt_of_le h (by decide)
def BIG:Nat:=2 ^ 4096
def wZ:D->D->Sto->R D
 | .int i,.int j,s=>.ok (.int (i+j)) s | .tup a,.tup b,s=>if a.length+b.length<=cap then .ok (.tup (a++b)) s else .no | x,y,s=>match listOf s x,listOf s y with
  | some a,some b=>if a.length+b.length<=cap then .ok (.lst (a++b)) s else .no | _,_=>.no
section
variable {X:Cx}{E:XK}
theorem yg{mg:Gm}{H:Hp}{Y:List Addr}{i:Int}{v:V}(h:Den mg H Y (.int i) v):v=.int i:=by simpa [Den] using h
theorem z05{mg:Gm}{H:Hp}{Y:List Addr}{i:Bool}{v:V}(h:Den mg H Y (.bl i) v):v=.bl i:=by simpa [Den] using h
theorem z3b{mg:Gm}{H:Hp}{Y:List Addr}{i:Str}{v:V}(h:Den mg H Y (.str i) v):v=.str i:=by simpa [Den] using h
theorem yC{mg:Gm}{H:Hp}{Y:List Addr}{i:Int}:Den mg H Y (.int i) (.int i):=by simp [Den]
theorem vT{mg:Gm}{H:Hp}{Y:List Addr}{i:Bool}:Den mg H Y (.bl i) (.bl i):=by simp [Den]
theorem z2v{mg:Gm}{H:Hp}{Y:List Addr}{s:Sto}{xs:List D}{vs:List V}{Q:VK}(r:Rep mg H Y s)(h:okR mg E H Y (Den mg) (.ok (.lst xs) s) Q)(hd:zA mg H Y xs vs):∀ p,H p=none->zeD Q (.ref p) (upd H p (.lst vs)):=fun p hp=>by
 refine ⟨p,vs,rfl,yn,fun o=>?_⟩;rw [zd7];have stp:=wd.lay (o:=.frz o (.lst vs)) r hp (by intro _ z;cases z);refine h _ _ _ stp ?_;simp only [Den];exact ⟨p,o,vs,rfl,yn,hd.mono stp⟩
theorem z1q{mg:Gm}{H:Hp}{Y:List Addr}{s:Sto}{xs:List D}{vs:List V}{Q:VK}(r:Rep mg H Y s)(h:okR mg E H Y (Den mg) (.ok (.tup xs) s) Q)(hd:zA mg H Y xs vs):∀ p,H p=none->Q (.ref p) (upd H p (.tup vs)):=fun p hp=>by
 have stp:=wd.lay (o:=.tup vs) r hp (by intro _ z;cases z);refine h _ _ _ stp ?_;simp only [Den];exact ⟨p,vs,rfl,yn,hd.mono stp⟩
theorem wV:∃ r,OpR X (binaryOp .Add) r/\OpF X E r wZ:=by
 refine ⟨_,zfP.or ((zbq).or ((zdg).or (zcK.freeze))),?_⟩;intro H Y s d1 d2 v1 v2 Q r h1 h2 h;have lists:∀ a b,listOf s d1=some a->listOf s d2=some b->okR (gm X) E H Y (Den (gm X)) (if a.length+b.length<=cap then R.ok (D.lst (a++b)) s else .no) Q-> ∃ l b xs zs,v1=.ref l/\v2=.ref b/\Rd H l (.lst xs)/\Rd H b (.lst zs)/\xs.length+zs.length<=sizeLine/\∀ p,H p=none->zeD Q (.ref p) (upd H p (.lst (xs++zs))):=fun a b ha hb hq=>by
  obtain ⟨l,vs,e,q1,q2⟩:=yh r ha h1;obtain ⟨l',vs',e',q1',q2'⟩:=yh r hb h2;split at hq
  ·rename_i hl;exact ⟨l,l',vs,vs',e,e',q1,q1',by rw [q2.length,q2'.length];exact z0U hl,z2v r hq (q2.append q2')⟩
  ·exact hq.elim
 unfold wZ at h;split at h
 ·rename_i i j;cases yg h1;cases yg h2;exact .inl ⟨i,j,rfl,rfl,h.here r yC⟩
 ·rename_i a b;obtain ⟨l,vs,rfl,q1,q2⟩:=vG (K:=X.K) h1;obtain ⟨l',vs',rfl,q1',q2'⟩:=vG (K:=X.K) h2;split at h
  ·rename_i hl;cases a with
   | nil=>
    simp only [zA] at q2;subst q2;exact .inr (.inl ⟨l,l',vs',rfl,rfl,q1,q1',h.here r h2⟩) | cons x a=>
    have ne:vs≠[]:=fun z=>by have:=q2.length;rw [z] at this;simp at this
    refine .inr (.inr (.inl ⟨l,l',vs,vs',rfl,rfl,q1,q1',ne,by rw [q2.length,q2'.length];exact z0U hl,fun z=>?_,fun z=>z1q r h (q2.append q2')⟩));have eb:b=[]:=by
     have:=q2'.length;rw [z] at this;exact List.length_eq_zero_iff.mp this.symm
    subst eb;rw [List.append_nil] at h;exact h.here r h1
  ·exact h.elim
 ·split at h
  ·rename_i a b ha hb;exact .inr (.inr (.inr (lists a b ha hb h)))
  ·exact h.elim
end
def dII(g:Int->Int->R D):D->D->Sto->R D
 | .int i,.int j,s=>match g i j with | .ok d _=>.ok d s | _=>.no
 | _,_,_=>.no
def iOk(d:D):R D:=.ok d []
def z5L:D->D->Sto->R D:=dII fun i j=>iOk (.int (i-j))
def yP:D->D->Sto->R D:=dII fun i j=>if i.natAbs<BIG/\j.natAbs<BIG then iOk (.int (i*j)) else .no
def z1i:D->D->Sto->R D:=dII fun i j=>if 0<j/\j.natAbs<BIG then iOk (.int (i / j)) else .no
def z8z:D->D->Sto->R D:=dII fun i j=>if 0<j then iOk (.int (i % j)) else .no
def kh:D->D->Sto->R D:=dII fun i j=>if 0<=j/\j<=1000/\i.natAbs<1000 then iOk (.int (i ^ j.toNat)) else .no
def dLt:D->D->Sto->R D:=dII fun i j=>iOk (.bl (decide (i<j)))
def dLe:D->D->Sto->R D:=dII fun i j=>iOk (.bl (decide (i<=j)))
def dGt:D->D->Sto->R D:=dII fun i j=>iOk (.bl (decide (j<i)))
def dGe:D->D->Sto->R D:=dII fun i j=>iOk (.bl (decide (j<=i)))
section
variable {X:Cx}{E:XK}
theorem jW{g:Int->Int->R D}{r:R2}(h:∀ i j d t H Q,g i j=.ok d t->(∀ v,(∀ H Y,Den (gm X) H Y d v)->Q v H)->r (.int i) (.int j) H Q):OpF X E r (dII g):=by
 intro H Y s d1 d2 v1 v2 Q rp h1 h2 hq;unfold dII at hq;split at hq
 ·rename_i i j;cases yg h1;cases yg h2;split at hq
  ·rename_i d t e;exact h i j d t H Q e fun v hv=>hq.here rp (hv H Y)
  ·exact hq.elim
 ·exact hq.elim
theorem z89:∃ r,OpR X (binaryOp .Sub) r/\OpF X E r z5L:=⟨_,zeT,jW fun i j d t H Q e q=>by
 simp only [iOk,R.ok.injEq] at e;exact ⟨i,j,rfl,rfl,q _ (by intro H Y;rw [<- e.1];exact yC)⟩⟩
theorem z7f{i:Int}(h:i.natAbs<BIG):Builtin.Int.intBits i<=2 ^ 20:=by
 have q:Builtin.Int.intBits i<=4096:=(PySem.intBits_le_iff (m:=4096)).mpr h;omega
theorem zem:OpR X (binaryOp .Mult) (rI (fun i j=>i.natAbs<BIG/\j.natAbs<BIG) fun i j=>.int (i*j)):=opI fun _ _ _ _ _ _ _ hc q=>mul_int q (IntMulOk.of_bits (z7f hc.1) (z7f hc.2))
theorem wO:∃ r,OpR X (binaryOp .Mult) r/\OpF X E r yP:=⟨_,zem,jW fun i j d t H Q e q=>by
 split at e
 ·rename_i hc;simp only [iOk,R.ok.injEq] at e;exact ⟨i,j,rfl,rfl,hc,q _ (by intro H Y;rw [<- e.1];exact yC)⟩
 ·cases e⟩
theorem z95{j:Int}(h:j.natAbs<BIG):j.natAbs.log2<9000:=by
 by_cases h0:j.natAbs=0;·rw [h0];decide +kernel
 ·have:j.natAbs.log2<4096:=(Nat.log2_lt h0).mpr h;omega
theorem zbC:OpR X (binaryOp .FloorDiv) (rI (fun _ j=>0<j/\j.natAbs<BIG) fun i j=>.int (i / j)):=opI fun i j _ _ _ _ _ hc q=>by
 refine floordiv_int (by omega) ?_ (.inl (PyProof.noPylong_of_log2 (z95 hc.2)));rw [Int.fdiv_eq_ediv_of_nonneg _ (by omega)];exact q
theorem z7h:∃ r,OpR X (binaryOp .FloorDiv) r/\OpF X E r z1i:=⟨_,zbC,jW fun i j d t H Q e q=>by
 split at e
 ·rename_i hc;simp only [iOk,R.ok.injEq] at e;exact ⟨i,j,rfl,rfl,hc,q _ (by intro H Y;rw [<- e.1];exact yC)⟩
 ·cases e⟩
theorem z9q:∃ r,OpR X (binaryOp .Mod) r/\OpF X E r z8z:=⟨_,zf6,jW fun i j d t H Q e q=>by
 split at e
 ·rename_i hc;simp only [iOk,R.ok.injEq] at e;exact ⟨i,j,rfl,rfl,hc,q _ (by intro H Y;rw [<- e.1];exact yC)⟩
 ·cases e⟩
theorem z4N:∃ r,OpR X (binaryOp .Pow) r/\OpF X E r kh:=⟨_,zgn,jW fun i j d t H Q e q=>by
 split at e
 ·rename_i hc;simp only [iOk,R.ok.injEq] at e;exact ⟨i,j,rfl,rfl,⟨hc.1,by omega,by omega⟩,q _ (by intro H Y;rw [<- e.1];exact yC)⟩
 ·cases e⟩
theorem zin:∃ r,OpR X (compareOp .Lt) r/\OpF X E r dLt:=⟨_,zih,jW fun i j d t H Q e q=>by
 simp only [iOk,R.ok.injEq] at e;exact ⟨i,j,rfl,rfl,q _ (by intro H Y;rw [<- e.1];exact vT)⟩⟩
theorem zcI:∃ r,OpR X (compareOp .LtE) r/\OpF X E r dLe:=⟨_,zh6,jW fun i j d t H Q e q=>by
 simp only [iOk,R.ok.injEq] at e;exact ⟨i,j,rfl,rfl,q _ (by intro H Y;rw [<- e.1];exact vT)⟩⟩
theorem zgC:∃ r,OpR X (compareOp .Gt) r/\OpF X E r dGt:=⟨_,zhM,jW fun i j d t H Q e q=>by
 simp only [iOk,R.ok.injEq] at e;exact ⟨i,j,rfl,rfl,q _ (by intro H Y;rw [<- e.1];exact vT)⟩⟩
theorem zij:∃ r,OpR X (compareOp .GtE) r/\OpF X E r dGe:=⟨_,zhW,jW fun i j d t H Q e q=>by
 simp only [iOk,R.ok.injEq] at e;exact ⟨i,j,rfl,rfl,q _ (by intro H Y;rw [<- e.1];exact vT)⟩⟩
end
mutual
def xG:D->PyData
 | .non=>.none | .bl b=>.bool b | .int i=>.int i | .str x=>.str x | .tup xs=>.tuple (toPys xs) | .lst xs=>.list (toPys xs) | _=>.dict []
def toPys:List D->List PyData
 | []=>[] | d::ds=>xG d::toPys ds
end
def eqD(a b:D):Bool:=PyData.eqv (xG a) (xG b)
def z7l(d:D):Bool:=SeqAt.shaped (xG d)
def dEq(x y:D)(s:Sto):R D:=if z7l x=true/\z7l y=true then .ok (.bl (eqD x y)) s else .no
def dNe(x y:D)(s:Sto):R D:=if z7l x=true/\z7l y=true then .ok (.bl (!eqD x y)) s else .no
section
variable {P:Program}{w:World}{mg:Gm}{H:Hp}{Y:List Addr}{h:Heap}
mutual
theorem Den.reads(ok:HOk P w H h):∀ {d:D}{v:V}{u:Value},PyData.canLay0 (xG d)=true->Den mg H Y d v->xn v u->∃ as,Reads h u (xG d) as
 | .non,_,_,_,dn,r=>by simp only [Den] at dn;subst dn;cases r;exact ⟨_,by simpa [xG] using Reads.none⟩ | .bl b,_,_,_,dn,r=>by simp only [Den] at dn;subst dn;cases r;exact ⟨_,by simpa [xG] using Reads.bool b⟩ | .int i,_,_,_,dn,r=>by simp only [Den] at dn;subst dn;obtain ⟨t,rfl⟩:=r;exact ⟨_,by simpa [xG] using Reads.int i t⟩ | .str x,_,_,_,dn,r=>by simp only [Den] at dn;subst dn;obtain ⟨t,rfl⟩:=r;exact ⟨_,by simpa [xG] using Reads.str x t⟩ | .tup ds,_,_,c,dn,r=>by
  simp only [Den] at dn;obtain ⟨a,vs,rfl,h1,h2⟩:=dn;cases r;obtain ⟨_,its,rv,o,e,hc,_,n,hd⟩:=ok a _ h1;obtain ⟨as,q⟩:=zA.reads ok (by simpa [xG,PyData.canLay0] using c) h2 rv;rw [xG];exact ⟨as,Reads.tuple e hc hd (by simpa using q)⟩ | .lst ds,_,_,c,dn,r=>by
  simp only [Den] at dn;obtain ⟨a,o,vs,rfl,h1,h2⟩:=dn;cases r;obtain ⟨_,_,its,n,rv,e⟩:=ok a _ h1;obtain ⟨as,q⟩:=zA.reads ok (by simpa [xG,PyData.canLay0] using c) h2 rv;rw [xG];exact ⟨_,Reads.list e rfl rfl (by simpa using q)⟩ | .dct,_,_,c,_,_=>by simp [xG,PyData.canLay0] at c | .loc _,_,_,c,_,_=>by simp [xG,PyData.canLay0] at c | .fn _,_,_,c,_,_=>by simp [xG,PyData.canLay0] at c | .exc _,_,_,c,_,_=>by simp [xG,PyData.canLay0] at c
theorem zA.reads(ok:HOk P w H h):∀ {ds:List D}{vs:List V}{us:List Value},PyData.canLayAll0 (toPys ds)=true->zA mg H Y ds vs->xp vs us->∃ as,ReadsAll h us (toPys ds) as
 | [],_,_,_,dn,r=>by simp only [zA] at dn;subst dn;cases r;exact ⟨_,by simpa [toPys] using ReadsAll.nil⟩ | d::ds,_,_,c,dn,r=>by
  simp only [zA] at dn;obtain ⟨v,vs,rfl,h1,h2⟩:=dn;simp only [toPys,PyData.canLayAll0,Bool.and_eq_true] at c;cases r with | cons r1 r2=>
   obtain ⟨as,q⟩:=Den.reads ok c.1 h1 r1;obtain ⟨bs,q'⟩:=zA.reads ok c.2 h2 r2;rw [toPys];exact ⟨_,ReadsAll.cons q q'⟩
end
end
section
variable {X:Cx}{E:XK}
def ziV(mg:Gm)(neg:Bool):R2:=fun x y H Q=>∃ Y d1 d2,Den mg H Y d1 x/\Den mg H Y d2 y/\z7l d1=true/\z7l d2=true/\Q (.bl (if neg then !eqD d1 d2 else eqD d1 d2)) H
theorem zg9(hu:X.A.units+64<cLine):OpR X (compareOp .Eq) (ziV (gm X) false):=by
 intro pins s O H x y v u Q I rx ry ⟨Y,d1,d2,h1,h2,p1,p2,q⟩;obtain ⟨as,ra⟩:=Den.reads I.hok (SeqAt.canLay_of_shaped p1) h1 rx;obtain ⟨bs,rb⟩:=Den.reads I.hok (SeqAt.canLay_of_shaped p2) h2 ry;exact SeqAt.compareEq_shaped ra rb p1 p2 hu ⟨.bl (eqD d1 d2),H,I,rfl,q⟩
theorem zgH(hu:X.A.units+64<cLine):OpR X (compareOp .NotEq) (ziV (gm X) true):=by
 intro pins s O H x y v u Q I rx ry ⟨Y,d1,d2,h1,h2,p1,p2,q⟩;obtain ⟨as,ra⟩:=Den.reads I.hok (SeqAt.canLay_of_shaped p1) h1 rx;obtain ⟨bs,rb⟩:=Den.reads I.hok (SeqAt.canLay_of_shaped p2) h2 ry;exact SeqAt.compareNe_shaped ra rb p1 p2 hu ⟨.bl (!eqD d1 d2),H,I,rfl,q⟩
theorem z90(hu:X.A.units+64<cLine):∃ r,OpR X (compareOp .Eq) r/\OpF X E r dEq:=⟨_,zg9 hu,fun H Y s d1 d2 v1 v2 Q r h1 h2 h=>by
 unfold dEq at h;split at h
 ·rename_i hc;exact ⟨Y,d1,d2,h1,h2,hc.1,hc.2,h.here r vT⟩
 ·exact h.elim⟩
theorem z7Q(hu:X.A.units+64<cLine):∃ r,OpR X (compareOp .NotEq) r/\OpF X E r dNe:=⟨_,zgH hu,fun H Y s d1 d2 v1 v2 Q r h1 h2 h=>by
 unfold dNe at h;split at h
 ·rename_i hc;exact ⟨Y,d1,d2,h1,h2,hc.1,hc.2,h.here r vT⟩
 ·exact h.elim⟩
def z2L:D->Option V
 | .non=>some .non | .bl b=>some (.bl b) | .int i=>some (.int i) | .str x=>some (.str x) | _=>none
theorem z4U{mg:Gm}{H:Hp}{Y:List Addr}{d:D}{v w:V}(h:z2L d=some w)(dn:Den mg H Y d v):v=w/\z2k v=true:=by cases d<;>simp only [z2L,Option.some.injEq,reduceCtorEq] at h<;>(simp only [Den] at dn;subst dn;subst h;exact ⟨rfl,rfl⟩)
def jt:List D->Option (List V)
 | []=>some [] | d::ds=>match z2L d,jt ds with | some v,some vs=>some (v::vs) | _,_=>none
theorem z2X{mg:Gm}{H:Hp}{Y:List Addr}:∀ {ds:List D}{vs ws:List V},jt ds=some ws->zA mg H Y ds vs->vs=ws/\vs.all z2k=true
 | [],_,_,h,dn=>by simp only [jt,Option.some.injEq] at h;simp only [zA] at dn;subst dn;subst h;exact ⟨rfl,rfl⟩ | d::ds,_,_,h,dn=>by
  simp only [zA] at dn;obtain ⟨v,vs,rfl,h1,h2⟩:=dn;simp only [jt] at h;split at h
  ·rename_i w ws e1 e2;cases h;obtain ⟨a1,a2⟩:=z4U e1 h1;obtain ⟨b1,b2⟩:=z2X e2 h2;exact ⟨by rw [a1,b1],by rw [List.all_cons,a2,b2];rfl⟩
  ·cases h
def zcN(neg:Bool)(x y:D)(s:Sto):R D:=match z2L x,(zL s y).bind jt with
 | some v,some vs=>.ok (.bl (if neg then !inV v vs else inV v vs)) s | _,_=>.no
theorem zgt{neg:Bool}:OpF X E (rIn X.K neg) (zcN neg):=fun H Y s d1 d2 v1 v2 Q r h1 h2 h=>by
 unfold zcN at h;split at h
 ·rename_i v vs e1 e2;cases e3:zL s d2 with
  | none=>rw [e3] at e2;cases e2 | some xs=>
   rw [e3] at e2;obtain ⟨a,ws,rfl,q1,q2⟩:=vA (K:=X.K) r e3 h2;obtain ⟨b1,b2⟩:=z2X e2 q2;obtain ⟨a1,a2⟩:=z4U e1 h1;subst a1 b1;exact ⟨a,ws,rfl,q1,a2,b2,h.here r vT⟩
 ·exact h.elim
theorem zjA:∃ r,OpR X (compareOp .In) r/\OpF X E r (zcN false):=⟨_,zaa,zgt⟩
def dIs:D->D->Sto->R D
 | .bl a,.bl b,s=>.ok (.bl (a==b)) s | .non,.non,s=>.ok (.bl true) s | .bl _,.non,s=>.ok (.bl false) s | .int _,.non,s=>.ok (.bl false) s | .str _,.non,s=>.ok (.bl false) s | .tup _,.non,s=>.ok (.bl false) s | .lst _,.non,s=>.ok (.bl false) s | _,_,_=>.no
def dIx(x y:D)(s:Sto):R D:=match y,zL s x with
 | .int i,some xs=>match atI xs i with | some d=>.ok d s | none=>.no
 | _,_=>.no
theorem zb0{mg:Gm}{H:Hp}{Y:List Addr}{xs:List D}{vs:List V}{i:Int}{d:D}(h:zA mg H Y xs vs)(e:atI xs i=some d):∃ v,atI vs i=some v/\Den mg H Y d v:=by
 unfold atI at e ⊢;rw [h.length];cases q:ixN xs.length i with
 | none=>rw [q] at e;cases e | some j=>
  rw [q] at e;exact h.get e
theorem zjO:∃ r,IxR X r/\OpF X E r dIx:=⟨_,zdt.or zfZ,fun H Y s d1 d2 v1 v2 Q r h1 h2 h=>by
 unfold dIx at h;split at h
 ·rename_i i xs e;split at h
  ·rename_i d e2;cases yg h2;obtain ⟨a,vs,rfl,q1,q2⟩:=vA (K:=X.K) r e h1;obtain ⟨v,e3,e4⟩:=zb0 q2 e2;rcases q1 with q1 | q1;·exact .inl ⟨a,vs,i,v,rfl,rfl,q1,e3,h.here r e4⟩
   ·exact .inr ⟨a,vs,i,v,rfl,rfl,q1,e3,h.here r e4⟩
  ·exact h.elim
 ·exact h.elim⟩
end
section
variable {X:Cx}{E:XK}{e a b c:Expr}{es:List Expr}{pos:Pos}
theorem zQ{op:Operator}{fo:D->D->Sto->R D}{fa fb:FE}(ho:∃ r,OpR X (binaryOp op) r/\OpF X E r fo)(ha:RE X E a fa)(hb:RE X E b fb):RE X E (.BinOp a op b pos) (eOp fo fa fb):=let ⟨_,h⟩:=ho;zjn h ha hb
theorem z2A{op:CmpOp}{fo:D->D->Sto->R D}{fa fb:FE}(ho:∃ r,OpR X (compareOp op) r/\OpF X E r fo)(ha:RE X E a fa)(hb:RE X E b fb)(hm:behindInMarks op b=false:=by first | exact zcv _ | rfl):RE X E (.Compare a [op] [b] pos) (eOp fo fa fb):=let ⟨_,h⟩:=ho;zh5 h ha hb hm
def tOf(f:FE):FT:=fun Z s=>(f Z s).bind fun d s1=>match d with | .bl k=>.ok k s1 | _=>.no
theorem z36{f:FE}{O:L2.St}{H:Hp}{Q:Bool->Hp->Prop}(h:tT (gm X) E (tOf f) O H Q):zdz (tE (gm X) E f) O H Q:=by
 obtain ⟨Y,Z,s,r,en,h⟩:=h;refine yI (k:=fun Z d s1=>match d with | .bl k=>.ok k s1 | _=>.no) r en h _ fun v H1 Y1 s1 d r1 en1 dn stp h1=>?_;cases d with
 | bl k=>
  cases z05 dn;exact ⟨k,rfl,h1.here (b:=k) r1 rfl⟩ | _=>exact h1.elim
theorem yf{op:CmpOp}{fo:D->D->Sto->R D}{fa fb:FE}(ho:∃ r,OpR X (compareOp op) r/\OpF X E r fo)(ha:RE X E a fa)(hb:RE X E b fb)(hm:behindInMarks op b=false:=by first | exact zcv _ | rfl):RT X E (.Compare a [op] [b] pos) (tOf (eOp fo fa fb)):=by
 obtain ⟨r,h1,h2⟩:=ho;exact z7u (zdi h1 ha hb hm) fun O H Q h=>by
  have q:=z36 h;exact z7y h2 q
def z35(fo fo':D->D->Sto->R D)(fa fb fc:FE):FE:=fun Z s=>(fa Z s).bind fun x s1=>(fb Z s1).bind fun y s2=>(fo x y s2).bind fun z s3=>match z with
 | .bl true=>(fc Z s3).bind fun w s4=>fo' y w s4 | .bl false=>.ok (.bl false) s3 | _=>.no
theorem z4L{r r':R2}{fo fo':D->D->Sto->R D}{fa fb fc:FE}(ho:OpF X E r fo)(ho':OpF X E r' fo'){O:L2.St}{H:Hp}{Q:VK}(h:tE (gm X) E (z35 fo fo' fa fb fc) O H Q):z8W r r' (tE (gm X) E fa) (tE (gm X) E fb) (tE (gm X) E fc) O H Q:=by
 obtain ⟨Y,Z,s,rp,en,h⟩:=h;refine yI (k:=fun Z x s1=>(fb Z s1).bind fun y s2=>(fo x y s2).bind fun z s3=>match z with
  | .bl true=>(fc Z s3).bind fun w s4=>fo' y w s4 | .bl false=>.ok (.bl false) s3 | _=>.no) rp en h _ fun v H1 Y1 s1 d r1 en1 dn stp h1=>?_;refine yI (k:=fun Z y s2=>(fo d y s2).bind fun z s3=>match z with
  | .bl true=>(fc Z s3).bind fun w s4=>fo' y w s4 | .bl false=>.ok (.bl false) s3 | _=>.no) r1 en1 h1 _ fun v2 H2 Y2 s2 d2 r2 en2 dn2 stp2 h2=>?_;refine ho H2 Y2 s2 d d2 v v2 _ r2 (dn.mono stp2) dn2 ((okR.bind (Dn:=Den (gm X)) h2).imp fun v3 H3 ⟨Y3,s3,d3,stp3,dn3,h3⟩=>?_);cases d3 with
 | bl k=>
  cases z05 dn3;refine ⟨k,rfl,?_⟩;cases k with
  | true=>
   rw [if_pos rfl];refine yI (k:=fun Z w s4=>fo' d2 w s4) stp3.rep (en2.mono stp3) h3 _ fun v4 H4 Y4 s4 d4 r4 en4 dn4 stp4 h4=>?_;exact ho' H4 Y4 s4 d2 d4 v2 v4 Q r4 ((dn2.mono stp3).mono stp4) dn4 h4 | false=>
   rw [if_neg (by decide)];exact okR.here (b:=V.bl false) h3 stp3.rep vT
 | _=>exact h3.elim
theorem zdO{op op':CmpOp}{fo fo':D->D->Sto->R D}{fa fb fc:FE}(ho:∃ r,OpR X (compareOp op) r/\OpF X E r fo)(ho':∃ r,OpR X (compareOp op') r/\OpF X E r fo')(ha:RE X E a fa)(hb:RE X E b fb)(hc:RE X E c fc) (hm:lastMarks [op,op'] [b,c]=false:=by with_unfolding_all rfl):RE X E (.Compare a [op,op'] [b,c] pos) (z35 fo fo' fa fb fc):=by
 obtain ⟨r,h1,h2⟩:=ho;obtain ⟨r',h1',h2'⟩:=ho';exact yw (zbp h1 h1' ha hb hc hm) fun O H Q h=>z4L h2 h2' h
def zeC(fa fb:FE):FE:=fun Z s=>(fa Z s).bind fun x s1=>match x with | .bl true=>fb Z s1 | .bl false=>.ok (.bl false) s1 | _=>.no
def eOr(fa fb:FE):FE:=fun Z s=>(fa Z s).bind fun x s1=>match x with | .bl false=>fb Z s1 | .bl true=>.ok (.bl true) s1 | _=>.no
def ziz(fa:FE):FE:=fun Z s=>(fa Z s).bind fun x s1=>match x with | .bl k=>.ok (.bl (!k)) s1 | _=>.no
variable {rest:List Expr}
theorem zbe{op:BoolOp}{f:FE}(h:RE X E a f):RE X E (.BoolOp op [a] pos) f:=zfs h
theorem zbE{fa fb:FE}(ha:RE X E a fa)(hb:RE X E (.BoolOp .And (b::rest) pos) fb):RE X E (.BoolOp .And (a::b::rest) pos) (zeC fa fb):= yw (zeM ha hb) fun O H Q ⟨Y,Z,s,r,en,h⟩=>by
  refine yI (k:=fun Z x s1=>match x with | .bl true=>fb Z s1 | .bl false=>.ok (.bl false) s1 | _=>.no) r en h _ fun v H1 Y1 s1 d r1 en1 dn stp h1=>?_;cases d with
  | bl k=>
   cases z05 dn;refine ⟨k,rfl,?_⟩;cases k with
   | true=>rw [if_pos rfl];exact ⟨Y1,Z,s1,r1,en1,h1⟩ | false=>rw [if_neg (by decide)];exact okR.here (b:=V.bl false) h1 r1 vT
  | _=>exact h1.elim
theorem zhJ{fa:FE}(ha:RE X E a fa):RE X E (.UnaryOp .Not a pos) (ziz fa):= yw (zgp ha) fun O H Q ⟨Y,Z,s,r,en,h⟩=>by
  refine yI (k:=fun Z x s1=>match x with | .bl k=>R.ok (D.bl (!k)) s1 | _=>.no) r en h _ fun v H1 Y1 s1 d r1 en1 dn stp h1=>?_;cases d with
  | bl k=>
   cases z05 dn;exact ⟨k,rfl,okR.here (b:=V.bl (!k)) h1 r1 vT⟩ | _=>exact h1.elim
def zdd(fa fb:FT):FT:=fun Z s=>(fa Z s).bind fun x s1=>if x=true then fb Z s1 else .ok false s1
def fOr(fa fb:FT):FT:=fun Z s=>(fa Z s).bind fun x s1=>if x=true then .ok true s1 else fb Z s1
def z48(fa:FT):FT:=fun Z s=>(fa Z s).bind fun x s1=>.ok (!x) s1
def RW(X:Cx)(E:XK)(e:Expr)(f:FT):Prop:=PW X e (tT (gm X) E f)
theorem RW.rt{f:FT}(h:RW X E e f):RT X E e f:=PW.pt h
theorem zcd{t t':TT}(h:PW X e t)(i:∀ O H Q,t' O H Q->t O H Q):PW X e t':=fun wh pins s O H Q I q=>h wh pins s O H Q I (i O H Q q)
theorem z9r{f:FT}(h:RT X E a f):RW X E (.BoolOp .And [a] pos) f:=ze0 h
theorem z82{f:FT}(h:RT X E a f):RW X E (.BoolOp .Or [a] pos) f:=zfH h
theorem w_and{fa fb:FT}(ha:RT X E a fa)(hb:RW X E (.BoolOp .And (b::rest) pos) fb):RW X E (.BoolOp .And (a::b::rest) pos) (zdd fa fb):= zcd (zfF ha hb) fun O H Q ⟨Y,Z,s,r,en,h⟩=>by
  refine z1l (k:=fun Z x s1=>if x=true then fb Z s1 else .ok false s1) r en h _ fun v H1 Y1 s1 r1 en1 stp h1=>?_;cases v with
  | true=>rw [if_pos rfl] at h1 ⊢;exact ⟨Y1,Z,s1,r1,en1,h1⟩ | false=>rw [if_neg (by decide)] at h1 ⊢;exact h1.here r1 rfl
theorem zep{fa fb:FT}(ha:RT X E a fa)(hb:RW X E (.BoolOp .Or (b::rest) pos) fb):RW X E (.BoolOp .Or (a::b::rest) pos) (fOr fa fb):= zcd (zi5 ha hb) fun O H Q ⟨Y,Z,s,r,en,h⟩=>by
  refine z1l (k:=fun Z x s1=>if x=true then .ok true s1 else fb Z s1) r en h _ fun v H1 Y1 s1 r1 en1 stp h1=>?_;cases v with
  | false=>rw [if_neg (by decide)] at h1 ⊢;exact ⟨Y1,Z,s1,r1,en1,h1⟩ | true=>rw [if_pos rfl] at h1 ⊢;exact h1.here r1 rfl
theorem z0r{fa:FT}(ha:RT X E a fa):RT X E (.UnaryOp .Not a pos) (z48 fa):= z7u (zfc ha) fun O H Q ⟨Y,Z,s,r,en,h⟩=>z1l (k:=fun Z x s1=>.ok (!x) s1) r en h _ fun v H1 Y1 s1 r1 en1 stp h1=>h1.here r1 rfl
theorem z0q{f:FE}(h:RE X E a f)(he:∀ whole,isTrue a X.env whole=(do let v <- whole;standAt a.pos;holding [v] (truthy v)):=by intro _;rfl):RT X E a (tOf f):= z7u (zgk h he) fun O H Q h=>z36 h
def eIf(ft:FT)(fa fb:FE):FE:=fun Z s=>(ft Z s).bind fun x s1=>if x=true then fa Z s1 else fb Z s1
theorem zgP{ft:FT}{fa fb:FE}(hc:RT X E c ft)(ha:RE X E a fa)(hb:RE X E b fb):RE X E (.IfExp c a b pos) (eIf ft fa fb):= yw (zb5 hc ha hb) fun O H Q ⟨Y,Z,s,r,en,h⟩=>z1l (k:=fun Z x s1=>if x=true then fa Z s1 else fb Z s1) r en h _ fun v H1 Y1 s1 r1 en1 stp h1=>by cases v with
  | true=>rw [if_pos rfl] at h1 ⊢;exact ⟨Y1,Z,s1,r1,en1,h1⟩ | false=>rw [if_neg (by decide)] at h1 ⊢;exact ⟨Y1,Z,s1,r1,en1,h1⟩
theorem jB {fa fb:FE} (ha:RE X E a fa) (hb:RE X E b fb) (hs:z6a b:=by intro _ _;rfl):RE X E (.Subscript a b pos) (eOp dIx fa fb):=by
 obtain ⟨r,h1,h2⟩:=zjO (X:=X) (E:=E);exact yw (zfC h1 ha hb hs) fun O H Q h=>z7y h2 h
def zp:FA:=fun _ s=>.ok [] s
def za(fa:FE)(fr:FA):FA:=fun Z s=>(fa Z s).bind fun x s1=>(fr Z s1).bind fun xs s2=>.ok (x::xs) s2
theorem zf:RA X E [] zp:=zc9 z76 fun O H Q ⟨Y,Z,s,r,en,h⟩=>h.here r zA.nil
theorem z02{fa:FE}{fr:FA}(ha:RE X E e fa)(hr:RA X E es fr)(hs:starEach (e::es) X.env=(false,eval e X.env)::starEach es X.env:=by rfl):RA X E (e::es) (za fa fr):= zc9 (z1u ha hr hs) fun O H Q ⟨Y,Z,s,r,en,h⟩=>by
  refine yI (k:=fun Z x s1=>(fr Z s1).bind fun xs s2=>.ok (x::xs) s2) r en h _ fun v H1 Y1 s1 d r1 en1 dn stp h1=>?_;refine ug (k:=fun Z xs s2=>.ok (d::xs) s2) r1 en1 h1 _ fun vs H2 Y2 s2 ds r2 en2 dn2 stp2 h2=>?_;exact h2.here r2 (zA.cons (dn.mono stp2) dn2)
def z2N(f:FA):FE:=fun Z s=>(f Z s).bind fun xs s1=>if xs.length<=cap then .ok (.tup xs) s1 else .no
theorem z0p{f:FA}{x1:Nat}(h:RA X E es f):RE X E (.Tuple es x1 pos) (z2N f):= yw (zfb h) fun O H Q ⟨Y,Z,s,r,en,h⟩=>by
  refine ug (k:=fun Z xs s1=>if xs.length<=cap then R.ok (D.tup xs) s1 else .no) r en h _ fun vs H2 Y2 s2 ds r2 en2 dn2 stp2 h2=>?_;split at h2
  ·rename_i hl;exact ⟨by rw [dn2.length];exact z0U hl,z1q r2 h2 dn2⟩
  ·exact h2.elim
def z5x(f:FA):FE:=fun Z s=>(f Z s).bind fun xs s1=>if xs.length<=cap then .ok (.lst xs) s1 else .no
theorem z4z{f:FA}(h:RA X E es f):RE X E (.List es pos) (z5x f):= yw (zcw h).freeze fun O H Q ⟨Y,Z,s,r,en,h⟩=>by
  refine ug (k:=fun Z xs s1=>if xs.length<=cap then R.ok (D.lst xs) s1 else .no) r en h _ fun vs H2 Y2 s2 ds r2 en2 dn2 stp2 h2=>?_;split at h2
  ·rename_i hl;exact ⟨by rw [dn2.length];exact z0U hl,z2v r2 h2 dn2⟩
  ·exact h2.elim
def zdQ(f:FA):FE:=fun Z s=>(f Z s).bind fun xs s1=>if xs.length<=cap/\D.flat.flats xs=true then .ok (.loc s1.length) (s1++[xs]) else .no
theorem zbZ{mg:Gm}{H:Hp}{Y:List Addr}{s:Sto}{xs:List D}{vs:List V}{Q:VK}(r:Rep mg H Y s)(h:okR mg E H Y (Den mg) (.ok (.loc s.length) (s++[xs])) Q)(hf:D.flat.flats xs=true)(hd:zA mg H Y xs vs):∀ p,H p=none->Q (.ref p) (upd H p (.lst vs)):=fun p hp=>by
 refine h _ _ _ (wd.layL r hp hd hf) ?_;simp only [Den];exact ⟨p,rfl,by rw [<- r.len];simp,vs,yn⟩
theorem za6{f:FA}(h:RA X E es f):RE X E (.List es pos) (zdQ f):= yw (zcw h) fun O H Q ⟨Y,Z,s,r,en,h⟩=>by
  refine ug (k:=fun Z xs s1=>if xs.length<=cap/\D.flat.flats xs=true then R.ok (D.loc s1.length) (s1++[xs]) else .no) r en h _ fun vs H2 Y2 s2 ds r2 en2 dn2 stp2 h2=>?_;split at h2
  ·rename_i hl;exact ⟨by rw [dn2.length];exact z0U hl.1,zbZ r2 h2 hl.2 dn2⟩
  ·exact h2.elim
def kO(X:Cx)(E:XK)(r:List V->Hp->VK->Prop)(g:List D->Sto->R D):Prop:= ∀ H Y s ds vs (Q:VK),Rep (gm X) H Y s->zA (gm X) H Y ds vs->okR (gm X) E H Y (Den (gm X)) (g ds s) Q->r vs H Q
def zd(g:List D->Sto->R D)(f:FA):FE:=fun Z s=>(f Z s).bind fun xs s1=>g xs s1
theorem zO {x:Str} {p:Pos} {id:String} {g:List D->Sto->R D} {f:FA} (hc:∃ r,wl X (.builtin id) r/\kO X E r g) (hg:Gl X x) (hm:X.mg x=none) (hv:bootBuiltins x=some (.builtin id)) (ha:RA X E (e::es) f) (hn:x≠"__name__":=by decide) (hdb:(x==("__debug__":Str))=false:=by decide) (he:starEach (e::es) X.env=(false,eval e X.env)::starEach es X.env:=by rfl) (hpl:(backTo pos (starEach es X.env)).any (·.1)=false:=by rfl):RE X E (.Call (.Name x p) (e::es) [] pos) (zd g f):=by
 obtain ⟨r,h1,h2⟩:=hc;exact yw (z7A h1 hg hm hv ha hn hdb he hpl) fun O H Q ⟨Y,Z,s,r,en,h⟩=> ug (k:=fun Z xs s1=>g xs s1) r en h _ fun vs H2 Y2 s2 ds r2 en2 dn2 stp2 h3=>h2 H2 Y2 s2 ds vs Q r2 dn2 h3
theorem wn {x:Str} {p:Pos} {T:String} {g:List D->Sto->R D} {f:FA} (hc:∃ r,wl X (.type T) r/\kO X E r g) (hg:Gl X x) (hm:X.mg x=none) (hv:bootBuiltins x=some (.type T)) (ha:RA X E (e::es) f) (hn:x≠"__name__":=by decide) (hdb:(x==("__debug__":Str))=false:=by decide) (he:starEach (e::es) X.env=(false,eval e X.env)::starEach es X.env:=by rfl) (hpl:(backTo pos (starEach es X.env)).any (·.1)=false:=by rfl):RE X E (.Call (.Name x p) (e::es) [] pos) (zd g f):=by
 obtain ⟨r,h1,h2⟩:=hc;exact yw (za5 h1 hg hm hv ha hn hdb he hpl) fun O H Q ⟨Y,Z,s,r,en,h⟩=> ug (k:=fun Z xs s1=>g xs s1) r en h _ fun vs H2 Y2 s2 ds r2 en2 dn2 stp2 h3=>h2 H2 Y2 s2 ds vs Q r2 dn2 h3
theorem z28{mg:Gm}{H:Hp}{Y:List Addr}{d:D}{vs:List V}(h:zA mg H Y [d] vs):∃ v,vs=[v]/\Den mg H Y d v:=by
 simp only [zA] at h;obtain ⟨v,r,rfl,h1,rfl⟩:=h;exact ⟨v,rfl,h1⟩
theorem z0I{mg:Gm}{H:Hp}{Y:List Addr}{d d':D}{vs:List V}(h:zA mg H Y [d,d'] vs):∃ v v',vs=[v,v']/\Den mg H Y d v/\Den mg H Y d' v':=by
 simp only [zA] at h;obtain ⟨v,r,rfl,h1,v',r',rfl,h2,rfl⟩:=h;exact ⟨v,v',rfl,h1,h2⟩
def wL:List D->Sto->R D
 | [d],s=>match zL s d with | some xs=>.ok (.int xs.length) s | none=>.no
 | _,_=>.no
theorem jF:∃ r,wl X (.builtin "len") r/\kO X E r wL:=⟨_,z4D,fun H Y s ds vs Q r hd h=>by
 unfold wL at h;split at h
 ·split at h
  ·rename_i d xs e;obtain ⟨v,rfl,dn⟩:=z28 hd;obtain ⟨a,ws,rfl,q1,q2⟩:=vA (K:=X.K) r e dn;exact ⟨a,ws,rfl,q1,by rw [q2.length];exact h.here r yC⟩
  ·exact h.elim
 ·exact h.elim⟩
def yG:List D->Sto->R D
 | [d],s=>match zL s d with | some xs=>.ok (.tup xs) s | none=>.no
 | _,_=>.no
theorem wM:∃ r,wl X (.type "tuple") r/\kO X E r yG:=⟨_,z3W,fun H Y s ds vs Q r hd h=>by match ds,hd,h with
 | [],_,h=>exact h.elim | _::_::_,_,h=>exact h.elim | [d],hd,h=>
  obtain ⟨v,rfl,dn⟩:=z28 hd;simp only [yG] at h;cases e:zL s d with
  | none=>rw [e] at h;exact h.elim | some xs=>
   rw [e] at h;cases d with
   | tup ys=>
    simp only [zL,Option.some.injEq] at e;subst e;obtain ⟨a,ws,rfl,q1,q2⟩:=vG (K:=X.K) dn;exact ⟨a,ws,rfl,.inr ⟨q1,h.here r dn⟩⟩ | lst ys=>
    obtain ⟨a,ws,rfl,q1,q2⟩:=yh (d:=.lst ys) r e dn;exact ⟨a,ws,rfl,.inl ⟨.inl q1,z1q r h q2⟩⟩ | loc l=>
    obtain ⟨a,ws,rfl,q1,q2⟩:=yh (d:=.loc l) r e dn;exact ⟨a,ws,rfl,.inl ⟨.inl q1,z1q r h q2⟩⟩ | scr ys=>
    simp only [zL,Option.some.injEq] at e;subst e;obtain ⟨a,ws,rfl,q1,q2⟩:=zci dn;exact ⟨a,ws,rfl,.inl ⟨q1,z1q r h q2⟩⟩ | _=>simp [zL] at e⟩
def zbv:List D->Sto->R D
 | [.int i,.int j],s=>.ok (.int (if j > i then j else i)) s | _,_=>.no
def z6q:List D->Sto->R D
 | [.int i,.int j],s=>.ok (.int (if j<i then j else i)) s | _,_=>.no
theorem zgL(hc:X.calm=true):∃ r,wl X (.builtin "max") r/\kO X E r zbv:=⟨_,z9I hc,fun H Y s ds vs Q r hd h=>by
 unfold zbv at h;split at h
 ·rename_i i j;obtain ⟨v,v',rfl,d1,d2⟩:=z0I hd;cases yg d1;cases yg d2;exact ⟨i,j,rfl,h.here r yC⟩
 ·exact h.elim⟩
theorem zcj(hc:X.calm=true):∃ r,wl X (.builtin "min") r/\kO X E r z6q:=⟨_,z8J hc,fun H Y s ds vs Q r hd h=>by
 unfold z6q at h;split at h
 ·rename_i i j;obtain ⟨v,v',rfl,d1,d2⟩:=z0I hd;cases yg d1;cases yg d2;exact ⟨i,j,rfl,h.here r yC⟩
 ·exact h.elim⟩
abbrev FO:=Ev->Sto->R (Option Int)
def oD(_:Hp)(_:List Addr)(a b:Option Int):Prop:=a=b
def tO(mg:Gm)(E:XK)(f:FO):TO:=fun O H Q=>∃ Y Z s,Rep mg H Y s/\ud mg H Y Z O/\okR mg E H Y oD (f Z s) Q
def RO(X:Cx)(E:XK)(e:Option Expr)(f:FO):Prop:=PO X e (tO (gm X) E f)
theorem zc8{o:Option Expr}{t t':TO}(h:PO X o t)(i:∀ O H Q,t' O H Q->t O H Q):PO X o t':=fun pins s O H Q I q=>h pins s O H Q I (i O H Q q)
def zI:FO:=fun _ s=>.ok none s
def xl(f:FE):FO:=fun Z s=>(f Z s).bind fun d s1=>match d with | .int i=>.ok (some i) s1 | _=>.no
theorem vz:RO X E none zI:=zc8 zdo fun O H Q ⟨Y,Z,s,r,en,h⟩=>h.here (b:=none) r rfl
theorem vE{f:FE}(h:RE X E e f):RO X E (some e) (xl f):=zc8 (zdY h) fun O H Q ⟨Y,Z,s,r,en,h⟩=>by
 refine yI (k:=fun Z d s1=>match d with | .int i=>.ok (some i) s1 | _=>.no) r en h _ fun v H1 Y1 s1 d r1 en1 dn stp h1=>?_;cases d with
 | int i=>cases yg dn;exact ⟨i,rfl,h1.here (b:=some i) r1 rfl⟩ | _=>exact h1.elim
def cutD(xs:List D)(lo hi:Option Int):List D:=(xs.drop (HT.sIx xs.length 0 lo)).take (HT.sIx xs.length xs.length hi-HT.sIx xs.length 0 lo)
theorem z3n{mg:Gm}{H:Hp}{Y:List Addr}{xs:List D}{vs:List V}(h:zA mg H Y xs vs)(lo hi:Option Int):zA mg H Y (cutD xs lo hi) (zc7 vs lo hi):=by
 unfold cutD zc7;rw [h.length];exact (h.drop _).take _
def dSl(x:D)(lo hi:Option Int)(s:Sto):R D:=match x with
 | .tup xs=>.ok (.tup (cutD xs lo hi)) s | x=>match listOf s x with | some xs=>.ok (.lst (cutD xs lo hi)) s | none=>.no
def eSl(fe:FE)(fl fh:FO):FE:=fun Z s=>(fe Z s).bind fun x s1=>(fl Z s1).bind fun lo s2=>(fh Z s2).bind fun hi s3=>dSl x lo hi s3
theorem z9W{α β:Type}{Dn:Hp->List Addr->α->β->Prop}{mg:Gm}{f:FO}{k:Ev->Option Int->Sto->R α}{O:L2.St}{H:Hp}{Q:β->Hp->Prop}{Y:List Addr}{Z:Ev}{s:Sto}(r:Rep mg H Y s)(en:ud mg H Y Z O) (h:okR mg E H Y Dn ((f Z s).bind (k Z)) Q)(K:Option Int->Hp->Prop) (hK:∀ v H1 Y1 s1,Rep mg H1 Y1 s1->ud mg H1 Y1 Z O->wd mg H Y H1 Y1 s1->okR mg E H1 Y1 Dn (k Z v s1) Q->K v H1):tO mg E f O H K:= ⟨Y,Z,s,r,en,(okR.bind (Dn:=oD) h).imp fun v H1 ⟨Y1,s1,d,stp,dn,q⟩=>hK v H1 Y1 s1 stp.rep (en.mono stp) stp (by cases (show d=v from dn);exact q)⟩
theorem xU{lo hi:Option Expr}{p2:Pos}{fe:FE}{fl fh:FO}(he:RE X E e fe)(hl:RO X E lo fl)(hh:RO X E hi fh):RE X E (.Subscript e (.Slice lo hi none p2) pos) (eSl fe fl fh):= yw (zba ((zfv.or zer).or zcX.freeze) he hl hh) fun O H Q ⟨Y,Z,s,r,en,h⟩=>by
  refine yI (k:=fun Z x s1=>(fl Z s1).bind fun lo s2=>(fh Z s2).bind fun hi s3=>dSl x lo hi s3) r en h _ fun v H1 Y1 s1 d r1 en1 dn stp h1=>?_;refine z9W (k:=fun Z lo s2=>(fh Z s2).bind fun hi s3=>dSl d lo hi s3) r1 en1 h1 _ fun lo H2 Y2 s2 r2 en2 stp2 h2=>?_;refine z9W (k:=fun Z hi s3=>dSl d lo hi s3) r2 en2 h2 _ fun hi H3 Y3 s3 r3 en3 stp3 h3=>?_;have dn3:=(dn.mono stp2).mono stp3;cases d with
  | tup xs=>
   obtain ⟨a,vs,rfl,q1,q2⟩:=vG (K:=X.K) dn3;have h3':okR (gm X) E H3 Y3 (Den (gm X)) (.ok (.tup (cutD xs lo hi)) s3) Q:=h3;by_cases hw:HT.sIx vs.length 0 lo=0/\HT.sIx vs.length vs.length hi=vs.length
   ·refine .inl (.inr ⟨a,vs,rfl,q1,hw,?_⟩);have e:cutD xs lo hi=xs:=by
     unfold cutD;rw [<- q2.length,hw.1,hw.2];simp [q2.length]
    rw [e] at h3';exact h3'.here r3 dn3
   ·exact .inl (.inl ⟨a,vs,rfl,q1,hw,z1q r3 h3' (z3n q2 lo hi)⟩) | lst xs=>
   obtain ⟨a,vs,rfl,q1,q2⟩:=yh (d:=.lst xs) r3 rfl dn3;exact .inr ⟨a,vs,rfl,.inl q1,z2v r3 h3 (z3n q2 lo hi)⟩ | loc l=>
   simp only [dSl] at h3;split at h3
   ·rename_i xs e;obtain ⟨a,vs,rfl,q1,q2⟩:=yh (d:=.loc l) r3 e dn3;exact .inr ⟨a,vs,rfl,.inl q1,z2v r3 h3 (z3n q2 lo hi)⟩
   ·exact h3.elim | _=>exact h3.elim
end
abbrev Mir:=List D->Sto->R D
def zcZ(mg:Gm)(M:Mir):Sp:=fun vs H Q E=>∃ Y s ds,Rep mg H Y s/\zA mg H Y ds vs/\okR mg E H Y (Den mg) (M ds s) Q
def Has(P:Program)(w:World)(K:W.Frag)(mg:Str->Option Value)(base:Heap)(CX:CXT)(x:Str)(n:Nat)(M:Mir):Prop:= ∃ f fd ps,z2I P w K mg base CX n f fd ps (zcZ ⟨mg,K⟩ M)/\Binds K fd ps []/\W.keepIn K (.ref f)=true/\mg x=some (.ref f)
section
variable {X:Cx}{E:XK}{e a b c:Expr}{es:List Expr}{pos:Pos}{CX:CXT}
theorem zn {x:Str} {p:Pos} {n:Nat} {M:Mir} {f:FA} (F:Has X.prog X.w X.K X.mg X.base CX x n M) (hr:z0B n X.A) (hx:Passes CX X E) (hg:Gl X x) (ha:RA X E (e::es) f) (hdb:(x==("__debug__":Str))=false:=by decide) (he:starEach (e::es) X.env=(false,eval e X.env)::starEach es X.env:=by rfl) (hpl:(backTo pos (starEach es X.env)).any (·.1)=false:=by rfl):RE X E (.Call (.Name x p) (e::es) [] pos) (zd M f):=by
 obtain ⟨fa,fd,ps,F,hb,hk,hm⟩:=F;refine yw (zdb F hr hg hm hk hb .nil hx ha hdb he hpl) fun O H Q ⟨Y,Z,s,r,en,h⟩=>?_;refine ug (k:=fun Z xs s1=>M xs s1) r en h _ fun vs H2 Y2 s2 ds r2 en2 dn2 stp2 h3=>?_;rw [List.append_nil];exact ⟨Y2,s2,ds,r2,dn2,h3⟩
def zZ(f g:FS):FS:=fun Z s=>(f Z s).bind fun fl s1=>match fl with | .nx Z'=>g Z' s1 | fl=>.ok fl s1
def xN:FS:=fun Z s=>.ok (.nx Z) s
variable {st:Stmt}{rs:List Stmt}
theorem zfX {mg:Gm} {f g:FS} {D:zdN} {O:L2.St} {H:Hp} (h:tS mg E (zZ f g) D O H):ziK (tS mg E f) (tS mg E g) D O H:=by
 obtain ⟨Y,Z,s,r,en,h⟩:=h;refine ⟨Y,Z,s,r,en,(okR.bind (Dn:=FlD mg) h).imp fun fv H1 ⟨Y1,s1,fl,stp,dn,q⟩=>?_⟩;cases fl with
 | nx Z'=> cases fv with
  | nx O'=>exact ⟨Y1,Z',s1,stp.rep,dn,q⟩ | _=>exact (show False from dn).elim
 | rt d=> cases fv with
  | rt v=>exact okR.here (b:=FlV.rt v) (Q:=z3F D) (s:=s1) (a:=Fl.rt d) q stp.rep dn | _=>exact (show False from dn).elim
 | bk Z'=> cases fv with
  | bk v=>exact okR.here (b:=FlV.bk v) (Q:=z3F D) (s:=s1) (a:=Fl.bk Z') q stp.rep dn | _=>exact (show False from dn).elim
 | ct Z'=> cases fv with
  | ct v=>exact okR.here (b:=FlV.ct v) (Q:=z3F D) (s:=s1) (a:=Fl.ct Z') q stp.rep dn | _=>exact (show False from dn).elim
theorem yF:RSs X E [] xN:=z9M zd3 fun D O H ⟨Y,Z,s,r,en,h⟩=>okR.here (b:=FlV.nx O) h r en
theorem zh{f g:FS}(h1:RS X E st f)(h2:RSs X E rs g):RSs X E (st::rs) (zZ f g):=z9M (zaD h1 h2) fun D O H h=>zfX h
theorem zj{f:FS}(h1:RS X E st f):RSs X E [st] f:=zd0 h1
def fNo:FS:=fun _ _=>.no
theorem jn:RS X E st fNo:=uJ zaO fun D O H ⟨_,_,_,_,_,h⟩=>h
def vp(f:FE):FS:=fun Z s=>(f Z s).bind fun _ s1=>.ok (.nx Z) s1
theorem xL {f:FE} (he:RE X E e f) (hs:swapsWith e none pos.line X.env=pure false:=by rfl):RS X E (.Expr e pos) (vp f):= uJ (zdV he hs) fun D O H ⟨Y,Z,s,r,en,h⟩=>yI (k:=fun Z _ s1=>R.ok (Fl.nx Z) s1) r en h _ fun v H1 Y1 s1 d r1 en1 dn stp h1=>okR.here (b:=FlV.nx O) (Q:=z3F D) h1 r1 en1
def xO(f:FE):FS:=fun Z s=>(f Z s).bind fun d s1=>.ok (.rt d) s1
theorem zS {f:FE} (he:RE X E e f):RS X E (.Return (some e) pos) (xO f):= uJ (zfd he) fun D O H ⟨Y,Z,s,r,en,h⟩=>yI (k:=fun Z d s1=>R.ok (Fl.rt d) s1) r en h _ fun v H1 Y1 s1 d r1 en1 dn stp h1=>okR.here (b:=FlV.rt v) (Q:=z3F D) h1 r1 dn
def fIf(ft:FT)(f g:FS):FS:=fun Z s=>(ft Z s).bind fun x s1=>if x=true then f Z s1 else g Z s1
theorem kf{ft:FT}{f g:FS}{as bs:List Stmt}(hc:RT X E c ft)(ha:RSs X E as f)(hb:RSs X E bs g):RS X E (.If c as bs pos) (fIf ft f g):= uJ (zir hc ha hb) fun D O H ⟨Y,Z,s,r,en,h⟩=>z1l (k:=fun Z x s1=>if x=true then f Z s1 else g Z s1) r en h _ fun v H1 Y1 s1 r1 en1 stp h1=>by cases v with
  | true=>rw [if_pos rfl] at h1 ⊢;exact ⟨Y1,Z,s1,r1,en1,h1⟩ | false=>rw [if_neg (by decide)] at h1 ⊢;exact ⟨Y1,Z,s1,r1,en1,h1⟩
abbrev FG:=D->Ev->Sto->R Ev
def tG(mg:Gm)(E:XK)(f:FG):TG:=fun v O H Q=>∃ Y Z s d,Rep mg H Y s/\ud mg H Y Z O/\Den mg H Y d v/\okR mg E H Y (ud mg) (f d Z s) (fun O' H'=>Q O' H')
def RG(X:Cx)(E:XK)(tg:Expr)(f:FG):Prop:=PG X tg (tG (gm X) E f)
theorem z6A{tg:Expr}{t t':TG}(h:PG X tg t)(i:∀ v O H Q,t' v O H Q->t v O H Q):PG X tg t':=fun pins s O H v u Q I r q=>h pins s O H v u Q I r (i v O H Q q)
def we(i:Nat):FG:=fun d Z s=>.ok (Z.set i (some d)) s
theorem kc(i:Nat){x:Str}(hN:X.N.Nodup)(hi:X.N[i]? = some x:=by rfl)(hx:Loc X.env.scope x:=by first | exact Or.inl rfl | exact Or.inr rfl)(hf:X.fn x=true\/X.env.scope.names.lookup x=some .local:=by first | exact .inl rfl | exact .inr rfl | assumption):RG X E (.Name x pos) (we i):= z6A (zX hN hi hx hf) fun v O H Q ⟨Y,Z,s,d,r,en,dn,h⟩=>okR.here (b:=O.set i (some v)) h r (en.set dn i)
def vZ(i j:Nat):FG:=fun d Z s=>match d with | .tup [x,y]=>.ok ((Z.set i (some x)).set j (some y)) s | _=>.no
theorem z2D(i j:Nat){x y:Str}{px py:Pos}{kt:Nat}(hc:X.calm=true)(hN:X.N.Nodup)(hi:X.N[i]? = some x:=by rfl)(hj:X.N[j]? = some y:=by rfl)(hx:Loc X.env.scope x:=by first | exact Or.inl rfl | exact Or.inr rfl)(hy:Loc X.env.scope y:=by first | exact Or.inl rfl | exact Or.inr rfl) (hf:X.fn x=true\/X.env.scope.names.lookup x=some .local:=by first | exact .inl rfl | exact .inr rfl | assumption)(hf':X.fn y=true\/X.env.scope.names.lookup y=some .local:=by first | exact .inl rfl | exact .inr rfl | assumption): RG X E (.Tuple [.Name x px,.Name y py] kt pos) (vZ i j):= z6A (z2W hc (xx (zX hN hi hx hf) (xx (zX hN hj hy hf') kK))) fun v O H Q ⟨Y,Z,s,d,r,en,dn,h⟩=>by
  unfold vZ at h;split at h
  ·rename_i d1 d2;obtain ⟨p,vs,rfl,q1,q2⟩:=vG (K:=X.K) dn;obtain ⟨v1,v2,rfl,e1,e2⟩:=z0I q2;exact ⟨p,[v1,v2],rfl,q1,rfl,v1,[v2],rfl,v2,[],rfl,rfl,okR.here h r ((en.set e1 i).set e2 j)⟩
  ·exact h.elim
def uL(i:Nat)(f:FE):FS:=fun Z s=>(f Z s).bind fun d s1=>.ok (.nx (Z.set i (some d))) s1
theorem xB (i:Nat) {x:Str} {pos':Pos} {f:FE} (hN:X.N.Nodup) (he:RE X E e f) (hi:X.N[i]? = some x:=by rfl) (hx:Loc X.env.scope x:=by first | exact Or.inl rfl | exact Or.inr rfl) (hs:swapsWith e (some (.Name x pos')) pos.line X.env=pure false:=by rfl) (hf:X.fn x=true\/X.env.scope.names.lookup x=some .local:=by first | exact .inl rfl | exact .inr rfl | assumption):RS X E (.Assign [.Name x pos'] e pos) (uL i f):= uJ (zgy hN hi hx he hs hf) fun D O H ⟨Y,Z,s,r,en,h⟩=>yI (k:=fun Z d s1=>R.ok (Fl.nx (Z.set i (some d))) s1) r en h _ fun v H1 Y1 s1 d r1 en1 dn stp h1=>okR.here (b:=FlV.nx (O.set i (some v))) (Q:=z3F D) h1 r1 (en1.set dn i)
def zcC(f:FE)(g:FG):FS:=fun Z s=>(f Z s).bind fun d s1=>(g d Z s1).bind fun Z' s2=>.ok (.nx Z') s2
theorem z7M {tg:Expr} {f:FE} {g:FG} (he:RE X E e f) (hg:RG X E tg g) (hs:swapsWithSole [tg] e pos.line X.env=pure false:=by rfl) (hw:swappedStores [tg] e X.env=pure none:=by rfl) (h1:(assignEach [tg] X.env).map (·.2)=[assign tg X.env]:=by rfl):RS X E (.Assign [tg] e pos) (zcC f g):= uJ (zcg he hg hs hw h1) fun D O H ⟨Y,Z,s,r,en,h⟩=>yI (k:=fun Z d s1=>(g d Z s1).bind fun Z' s2=>R.ok (Fl.nx Z') s2) r en h _ fun v H1 Y1 s1 d r1 en1 dn stp h1=> ⟨Y1,Z,s1,d,r1,en1,dn,(okR.bind (Dn:=ud (gm X)) h1).imp fun O' H' ⟨Y2,s2,Z',stp2,en2,q⟩=>okR.here (b:=FlV.nx O') (Q:=z3F D) q stp2.rep en2⟩
def zgY(i j:Nat)(f:FA):FS:=fun Z s=>(f Z s).bind fun ds s1=>match ds with | [x,y]=>.ok (.nx ((Z.set i (some x)).set j (some y))) s1 | _=>.no
theorem zgr (i j:Nat) {x y:Str} {px py pt:Pos} {kt k2:Nat} {pt2:Pos} {f:FA} (hc:X.calm=true) (hN:X.N.Nodup) (ha:RA X E [a,b] f) (hi:X.N[i]? = some x:=by rfl) (hj:X.N[j]? = some y:=by rfl) (hij:i≠j:=by decide) (hx:X.env.scope.names.lookup x=some .local:=by rfl) (hy:X.env.scope.names.lookup y=some .local:=by rfl) (hw:swappedStores [.Tuple [.Name x px,.Name y py] kt pt] (.Tuple [a,b] k2 pt2) X.env=pure (some [x,y]):=by rfl) (hs:swapsWithSole [.Tuple [.Name x px,.Name y py] kt pt] (.Tuple [a,b] k2 pt2) pos.line X.env=pure false:=by rfl): RS X E (.Assign [.Tuple [.Name x px,.Name y py] kt pt] (.Tuple [a,b] k2 pt2) pos) (zgY i j f):= uJ (zfM hc hN hi hj hij hx hy ha hw hs) fun D O H ⟨Y,Z,s,r,en,h⟩=>by
  refine ug (k:=fun Z ds s1=>match ds with | [x,y]=>R.ok (Fl.nx ((Z.set i (some x)).set j (some y))) s1 | _=>.no) r en h _ fun vs H1 Y1 s1 ds r1 en1 dn stp h1=>?_;match ds,dn,h1 with
  | [],_,h1=>exact h1.elim | [_],_,h1=>exact h1.elim | _::_::_::_,_,h1=>exact h1.elim | [d1,d2],dn,h1=>
   obtain ⟨v1,v2,rfl,e1,e2⟩:=z0I dn;exact ⟨v1,v2,rfl,okR.here (b:=FlV.nx ((O.set i (some v1)).set j (some v2))) (Q:=z3F D) h1 r1 ((en1.set e1 i).set e2 j)⟩
def z4O(fo fi fv:FE):FS:=fun Z s=>(fv Z s).bind fun d s1=>(fo Z s1).bind fun o s2=>(fi Z s2).bind fun i s3=>match o,i with
 | .loc l,.int k=>match s3[l]? with
  | some xs=>match ixN xs.length k with
   | some j=>if d.flat=true then .ok (.nx Z) (s3.set l (xs.set j d)) else .no | none=>.no
  | none=>.no
 | _,_=>.no
theorem z4l:∀ {xs:List D}{d:D}{j:Nat},D.flat.flats xs=true->d.flat=true->D.flat.flats (xs.set j d)=true
 | [],_,_,_,_=>rfl | x::xs,d,0,h,hd=>by
  simp only [D.flat.flats,Bool.and_eq_true,List.set_cons_zero] at h ⊢;exact ⟨hd,h.2⟩ | x::xs,d,j+1,h,hd=>by
  simp only [D.flat.flats,Bool.and_eq_true,List.set_cons_succ] at h ⊢;exact ⟨h.1,z4l h.2 hd⟩
theorem z0k:∀ {xs ys:List D},D.flat.flats xs=true->D.flat.flats ys=true->D.flat.flats (xs++ys)=true
 | [],_,_,h=>h | x::xs,ys,h,h'=>by
  simp only [D.flat.flats,Bool.and_eq_true,List.cons_append] at h ⊢;exact ⟨h.1,z0k h.2 h'⟩
theorem z7e {o i:Expr} {p1:Pos} {fo fi fv:FE} (hv:RE X E e fv) (ho:RE X E o fo) (hi:RE X E i fi) (ha:∀ v,assign (.Subscript o i p1) X.env v=(do
   let ov <- holding [v] (eval o X.env) let iv <- holding [v,ov] (eval i X.env)
   standAt p1
   holding [v,ov,iv] (setItem ov iv v)
   release [v,ov,iv] []):=by intro _;rfl) (hs:swapsWithSole [.Subscript o i p1] e pos.line X.env=pure false:=by rfl) (hw:swappedStores [.Subscript o i p1] e X.env=pure none:=by rfl) (h1:(assignEach [.Subscript o i p1] X.env).map (·.2)=[assign (.Subscript o i p1) X.env]:=by rfl):RS X E (.Assign [.Subscript o i p1] e pos) (z4O fo fi fv):= uJ (zcg hv (zeI ho hi set_list ha) hs hw h1) fun D O H ⟨Y,Z,s,r,en,h⟩=>by
  unfold z4O at h;refine ⟨Y,Z,s,r,en,(okR.bind (Dn:=Den (gm X)) h).imp fun v H1 ⟨Y1,s1,d,stp,dn,h1⟩=>?_⟩;refine ⟨Y1,Z,s1,stp.rep,en.mono stp,(okR.bind (Dn:=Den (gm X)) h1).imp fun ov H2 ⟨Y2,s2,od,stp2,dn2,h2⟩=>?_⟩;refine ⟨Y2,Z,s2,stp2.rep,(en.mono stp).mono stp2,(okR.bind (Dn:=Den (gm X)) h2).imp fun iv H3 ⟨Y3,s3,id,stp3,dn3,h3⟩=>?_⟩;have en3:=((en.mono stp).mono stp2).mono stp3;have dv:=(dn.mono stp2).mono stp3;have dov:=dn2.mono stp3;cases od with
  | loc l=> cases id with
   | int k=>
    simp only at h3;split at h3
    ·rename_i xs ex;split at h3
     ·rename_i j ej;split at h3
      ·rename_i hf;cases yg dn3;simp only [Den] at dov;obtain ⟨a,rfl,e1,ka⟩:=dov;obtain ⟨vs,q1,q2⟩:=stp3.rep.at_ ex e1 ka;have stp4:=wd.put (l:=l) (xs:=xs.set j d) stp3.rep e1 ka (q2.set j dv) (z4l (stp3.rep.flat xs (List.mem_of_getElem? ex)) hf);exact ⟨a,vs,k,j,rfl,rfl,q1,by rw [q2.length];exact ej,h3 (.nx O) _ _ stp4 (en3.mono stp4)⟩
      ·exact h3.elim
     ·exact h3.elim
    ·exact h3.elim | _=>exact h3.elim
  | _=>exact h3.elim
def zeF(fo fv:FE):FE:=fun Z s=>(fo Z s).bind fun o s1=>match o with
 | .loc l=>(fv Z s1).bind fun d s2=>match s2[l]? with
  | some xs=>if d.flat=true/\xs.length<cap then .ok .non (s2.set l (xs++[d])) else .no | none=>.no
 | _=>.no
theorem z3X {o:Expr} {apos:Pos} {fo fv:FE} (ho:RE X E o fo) (hv:RE X E e fv) (hbase:attributeBase o "append" X.env (eval o X.env)=eval o X.env:=by rfl) (hfew:((backTo pos (starEach [e] X.env)).all (fun x=>!x.1)&&(backToKw pos (keywordEach [] X.env)).all (fun x=>x.1.isSome) && decide ([e].length+([]:List Keyword).length+(if ([]:List Keyword).isEmpty then 0 else 1)<30))=true:=by rfl) (hline:(apos.endLine==pos.line)=true:=by rfl) (hs:starEach [e] X.env=(false,eval e X.env)::starEach [] X.env:=by rfl) (hplain:(backTo pos (starEach [] X.env)).any (·.1)=false:=by rfl): RE X E (.Call (.Attribute o "append" apos) [e] [] pos) (zeF fo fv):= yw (zik PySem.F.plainAttrs_list PySem.F.slot_list_append PySem.F.type_list_append z9J ho (z1u hv z76 hs) hbase hfew hline hs hplain) fun O H Q ⟨Y,Z,s,r,en,h⟩=>by
  unfold zeF at h;refine ⟨Y,Z,s,r,en,(okR.bind (Dn:=Den (gm X)) h).imp fun ov H1 ⟨Y1,s1,od,stp,dn,h1⟩=>?_⟩;cases od with
  | loc l=>
   simp only at h1;have hty:tyV X.K "list" ov H1:=by
    simp only [Den] at dn;obtain ⟨a,rfl,e1,vs,e2⟩:=dn;exact .inl ⟨rfl,vs,.inl (.inl e2)⟩
   refine ⟨hty,⟨Y1,Z,s1,stp.rep,en.mono stp,(okR.bind (Dn:=Den (gm X)) h1).imp fun v H2 ⟨Y2,s2,d,stp2,dn2,h2⟩=>?_⟩⟩;split at h2
   ·rename_i xs ex;split at h2
    ·rename_i hf;have dov:=dn.mono stp2;simp only [Den] at dov;obtain ⟨a,rfl,e1,ka⟩:=dov;obtain ⟨vs,q1,q2⟩:=stp2.rep.at_ ex e1 ka;have stp3:=wd.put (l:=l) (xs:=xs++[d]) stp2.rep e1 ka (q2.append (zA.one dn2)) (z0k (stp2.rep.flat xs (List.mem_of_getElem? ex)) (by simp [D.flat.flats,hf.1]));refine ⟨a,vs,v,rfl,rfl,q1,by rw [q2.length];exact zgw hf.2,h2 .non _ _ stp3 (by simp [Den])⟩
    ·exact h2.elim
   ·exact h2.elim | _=>exact h1.elim
end
end Dd
namespace L2
open PySem.Spec
theorem zgf{X:Cx}{tg l:Expr}{tl:TE}(hl:PE X l tl):PI X tg l (fun O H R=>tl O H fun x H1=>∃ a,x=.ref a/\(((∃ xs,SqL X.K H1 a xs)/\R (Itl X.K a) H1)\/((∃ xs,SqT X.K H1 a xs)/\R (Itt X.K a) H1))):=by
 intro pins s O H R I h;refine thn (hl pins s O H _ I h) fun v s1 ⟨x,H1,I1,r1,q1⟩=>?_;obtain ⟨a,e,q⟩:=q1;subst e;cases r1;rcases q with ⟨⟨xs,hq⟩,q⟩ | ⟨⟨xs,hq⟩,q⟩
 ·obtain ⟨its,rv,p,hz⟩:=I1.list hq;refine wpAny_pyIter_list p.isList ?_;refine ⟨s1.heap.objs.size,[s1.heap.objs.size],_,_,H1,rfl,I1.kept (t':=s1.toks) fun b o e=>Heap.get?_push_of_some _ e,z9H a _,⟨_,Heap.get?_push_size _ rfl,rfl,rfl⟩,fun b hb=>?_,q⟩;have e:b=s1.heap.objs.size:=by simpa using hb
  subst e;exact I1.fpOk (Nat.le_refl _) (I1.hok.fresh (Nat.le_refl _))
 ·obtain ⟨its,rv,p,hz⟩:=I1.tuple hq;refine wpAny_pyIter_tuple (show s1.heap.IsTuple a its.toArray from p) ?_;refine ⟨s1.heap.objs.size,[s1.heap.objs.size],_,_,H1,rfl,I1.kept (t':=s1.toks) fun b o e=>Heap.get?_push_of_some _ e,z8q a _,⟨_,Heap.get?_push_size _ rfl,rfl,rfl⟩,fun b hb=>?_,q⟩;have e:b=s1.heap.objs.size:=by simpa using hb
  subst e;exact I1.fpOk (Nat.le_refl _) (I1.hok.fresh (Nat.le_refl _))
end L2
namespace Dd
open PySem.Spec L2
abbrev ItD:=List D×List (Nat×List D)
def okG(g:List (Nat×List D))(all:List D)(s:Sto):Prop:=∀ p∈g,s[p.1]? = some p.2
def zec(mg:Gm)(H0:Hp)(Y0:List Addr)(a:ItD)(J:It):Prop:=∀ H Y s,wd mg H0 Y0 H Y s->okG a.2 a.1 s->∀ i:Nat, (∀ d,a.1[i]? = some d->J.go i H/\∀ x H',J.yld i H x H'->∃ Y',wd mg H Y H' Y' s/\Den mg H' Y' d x)/\(a.1.length<=i->J.stop i H)
abbrev FI:=Ev->Sto->R ItD
def tI(mg:Gm)(E:XK)(f:FI):TI:=fun O H Rr=>∃ Y Z s,Rep mg H Y s/\ud mg H Y Z O/\okR mg E H Y (zec mg) (f Z s) Rr
def RI(X:Cx)(E:XK)(tg it:Expr)(f:FI):Prop:=PI X tg it (tI (gm X) E f)
section
variable {X:Cx}{E:XK}{e a b c tg:Expr}{es:List Expr}{pos:Pos}{CX:CXT}
theorem z4j{it:Expr}{t t':TI}(h:PI X tg it t)(i:∀ O H Q,t' O H Q->t O H Q):PI X tg it t':=fun pins s O H Q I q=>h pins s O H Q I (i O H Q q)
def yB(f:FE):FI:=fun Z s=>(f Z s).bind fun d s1=>match d with
 | .tup xs=>.ok (xs,[]) s1 | .lst xs=>.ok (xs,[]) s1 | .loc l=>match s1[l]? with | some xs=>.ok (xs,[(l,xs)]) s1 | none=>.no
 | _=>.no
theorem ua{f:FE}(h:RE X E e f):RI X E tg e (yB f):=z4j (zgf h) fun O H Q ⟨Y,Z,s,r,en,h⟩=>by
 unfold yB at h;refine ⟨Y,Z,s,r,en,(okR.bind (Dn:=Den (gm X)) h).imp fun v H1 ⟨Y1,s1,d,stp,dn,h1⟩=>?_⟩;have lst:∀ (a:Addr)(xs:List D)(g:List (Nat×List D)),(∀ H2 Y2 s2,wd (gm X) H1 Y1 H2 Y2 s2->okG g xs s2->∃ ws,SqL X.K H2 a ws/\zA (gm X) H2 Y2 xs ws)->zec (gm X) H1 Y1 (xs,g) (Itl X.K a):=fun a xs g hq H2 Y2 s2 stp2 hg i=>by
  obtain ⟨ws,q1,q2⟩:=hq H2 Y2 s2 stp2 hg;refine ⟨fun d hd=>?_,fun hl=>⟨ws,q1,by rw [q2.length];exact hl⟩⟩;obtain ⟨v,e1,e2⟩:=q2.get hd;refine ⟨⟨ws,v,q1,e1⟩,fun x H' ⟨e3,y⟩=>?_⟩;subst e3;have e4:=y ws q1;rw [e1] at e4;cases e4;exact ⟨Y2,.refl stp2.rep,e2⟩
 have tup:∀ (a:Addr)(xs:List D),(∀ H2 Y2 s2,wd (gm X) H1 Y1 H2 Y2 s2->∃ ws,SqT X.K H2 a ws/\zA (gm X) H2 Y2 xs ws)->zec (gm X) H1 Y1 (xs,[]) (Itt X.K a):=fun a xs hq H2 Y2 s2 stp2 hg i=>by
  obtain ⟨ws,q1,q2⟩:=hq H2 Y2 s2 stp2;refine ⟨fun d hd=>?_,fun hl=>⟨ws,q1,by rw [q2.length];exact hl⟩⟩;obtain ⟨v,e1,e2⟩:=q2.get hd;refine ⟨⟨ws,v,q1,e1⟩,fun x H' ⟨e3,y⟩=>?_⟩;subst e3;have e4:=y ws q1;rw [e1] at e4;cases e4;exact ⟨Y2,.refl stp2.rep,e2⟩
 cases d with
 | tup xs=>
  have h1':okR (gm X) E H1 Y1 (zec (gm X)) (.ok (xs,[]) s1) Q:=h1;obtain ⟨a,vs,rfl,q1,q2⟩:=vG (K:=X.K) dn;refine ⟨a,rfl,.inr ⟨⟨vs,q1⟩,h1'.here stp.rep (tup a xs fun H2 Y2 s2 stp2=>?_)⟩⟩;have dn2:=dn.mono stp2;obtain ⟨a',ws,e,q3,q4⟩:=vG (K:=X.K) dn2;cases e;exact ⟨ws,q3,q4⟩ | lst xs=>
  have h1':okR (gm X) E H1 Y1 (zec (gm X)) (.ok (xs,[]) s1) Q:=h1;obtain ⟨a,vs,rfl,q1,q2⟩:=yh (d:=.lst xs) stp.rep rfl dn;refine ⟨a,rfl,.inl ⟨⟨vs,.inl q1⟩,h1'.here stp.rep (lst a xs [] fun H2 Y2 s2 stp2 _=>?_)⟩⟩;obtain ⟨a',ws,e,q3,q4⟩:=yh (d:=.lst xs) stp2.rep rfl (dn.mono stp2);cases e;exact ⟨ws,.inl q3,q4⟩ | loc l=>
  simp only at h1;split at h1
  ·rename_i xs ex;obtain ⟨a,vs,rfl,q1,q2⟩:=yh (d:=.loc l) stp.rep ex dn;refine ⟨a,rfl,.inl ⟨⟨vs,.inl q1⟩,h1.here stp.rep (lst a xs [(l,xs)] fun H2 Y2 s2 stp2 hg=>?_)⟩⟩;obtain ⟨a',ws,e,q3,q4⟩:=yh (d:=.loc l) stp2.rep (hg (l,xs) (by simp)) (dn.mono stp2);cases e;exact ⟨ws,.inl q3,q4⟩
  ·exact h1.elim | _=>exact h1.elim
end
section
variable {X:Cx}{E:XK}{e a b c tg:Expr}{es:List Expr}{pos:Pos}{CX:CXT}
def yJ(n:Nat):List D:=(List.range n).map fun (k:Nat)=>D.int ((k:Nat):Int)
def z5w(f:FA):FI:=fun Z s=>(f Z s).bind fun ds s1=>match ds with
 | [.int j]=>if -(2 ^ 62)<=j/\j<2 ^ 62 then .ok (yJ j.toNat,[]) s1 else .no | _=>.no
theorem kA{p:Pos}{f:FA}(hg:Gl X "range")(hm:X.mg "range"=none)(ha:RA X E [a] f)(hs:starEach [a] X.env=[(false,eval a X.env)]:=by rfl):RI X E tg (.Call (.Name "range" p) [a] [] pos) (z5w f):= z4j (zap hg hm ha hs) fun O H Q ⟨Y,Z,s,r,en,h⟩=>by
  unfold z5w at h;refine ⟨Y,Z,s,r,en,(okR.bind (Dn:=zA (gm X)) h).imp fun vs H1 ⟨Y1,s1,ds,stp,dn,h1⟩=>?_⟩;split at h1
  ·rename_i j;split at h1
   ·rename_i hj;obtain ⟨v,rfl,d1⟩:=z28 dn;cases yg d1;refine ⟨j,rfl,hj.1,hj.2,h1.here stp.rep fun H2 Y2 s2 stp2 _ i=>⟨fun d hd=>?_,fun hl=>?_⟩⟩
    ·have hi:i<j.toNat:=by
      have:=(List.getElem?_eq_some_iff.mp hd).1;simpa [yJ] using this
     refine ⟨hi,fun x H' ⟨e1,e2⟩=>?_⟩;subst e1 e2;refine ⟨Y2,.refl stp2.rep,?_⟩;have e3:d=D.int i:=by
      simp only [yJ,List.getElem?_map,List.getElem?_range hi,Option.map_some,Option.some.injEq] at hd;exact hd.symm
     rw [e3];simp [Den]
    ·have:(yJ j.toNat).length=j.toNat:=by simp [yJ]
     show j.toNat<=i;rw [<- this];exact hl
   ·exact h1.elim
  ·exact h1.elim
open Classical in
def wE(g:List (Nat×List D))(all:List D)(body:D->Ev->Sto->R Fl):List D->Ev->Sto->R Fl
 | [],Z,s=>if okG g all s then .ok (.nx Z) s else .no | x::xs,Z,s=>if okG g all s then (body x Z s).bind fun fl s1=>match fl with
   | .nx Z'=>wE g all body xs Z' s1 | .ct Z'=>wE g all body xs Z' s1 | .bk Z'=>.ok (.nx Z') s1 | .rt d=>.ok (.rt d) s1 else .no
def z6W(fi:FI)(fg:FG)(fb:FS):FS:=fun Z s=>(fi Z s).bind fun it s1=>wE it.2 it.1 (fun d Z s=>(fg d Z s).bind fun Z' s'=>fb Z' s') it.1 Z s1
theorem z1E {iter:Expr} {body:List Stmt} {fi:FI} {fg:FG} {fb:FS} (hp:PassesOwn (model X.prog X.w) X.A X.env X.xe) (hc:X.calm=true) (hi:RI X E tg iter fi) (hg:RG X E tg fg) (hb:RSs X E body fb) (hs:∀ x,foldedSetIterable iter X.env x=pure x:=by intro _;rfl):RS X E (.For tg iter body [] pos) (z6W fi fg fb):= uJ (zfQ hp hc hi hg hb hs) fun D O H ⟨Y,Z,s,r,en,h⟩=>by
  unfold z6W at h;refine ⟨Y,Z,s,r,en,(okR.bind (Dn:=zec (gm X)) h).imp fun J H1 ⟨Y1,s1,it,stp,ok,h1⟩=>?_⟩;obtain ⟨items,g⟩:=it;simp only at h1;refine ⟨fun i m O H=>∃ Y Z s,wd (gm X) H1 Y1 H Y s/\ud (gm X) H Y Z O/\m=items.length-i/\i<=items.length/\ okR (gm X) E H Y (FlD (gm X)) (wE g items (fun d Z s=>(fg d Z s).bind fun Z' s'=>fb Z' s') (items.drop i) Z s) (z3F D), ⟨items.length,Y1,Z,s1,.refl stp.rep,en.mono stp,by simp,Nat.zero_le _,by simpa using h1⟩,?_⟩;rintro i m O H ⟨Y2,Z2,s2,stp2,en2,rfl,hil,h2⟩;by_cases hlt:i<items.length
  ·right;rw [List.drop_eq_getElem_cons hlt,wE] at h2;split at h2
   ·rename_i hG;obtain ⟨go,yl⟩:=((ok H Y2 s2 stp2 hG i).1 items[i] (List.getElem?_eq_getElem hlt));refine ⟨go,fun O' H'=>∃ Y Z s,wd (gm X) H1 Y1 H' Y s/\ud (gm X) H' Y Z O'/\okR (gm X) E H' Y (FlD (gm X)) (wE g items (fun d Z s=>(fg d Z s).bind fun Z' s'=>fb Z' s') (items.drop (i+1)) Z s) (z3F D), fun O' H' ⟨Y3,Z3,s3,q1,q2,q3⟩=>⟨items.length-(i+1),by omega,Y3,Z3,s3,q1,q2,rfl,hlt,q3⟩,fun x H' y=>?_⟩;obtain ⟨Y3,stp3,dn3⟩:=yl x H' y;have h3:=okR.rebase h2 stp3;have h4:=okR.bind (Dn:=FlD (gm X)) h3;refine ⟨Y3,Z2,s2,items[i],stp3.rep,en2.mono stp3,dn3,(okR.bind (Dn:=ud (gm X)) h4).imp fun O5 H5 ⟨Y5,s5,Z5,stp5,en5,h5⟩=>?_⟩;refine ⟨Y5,Z5,s5,stp5.rep,en5,h5.imp fun fv H6 ⟨Y6,s6,fl,stp6,dn6,q6⟩=>?_⟩;have all6:wd (gm X) H1 Y1 H6 Y6 s6:=(stp2.trans stp3).trans stp6;cases fl with
    | nx Z'=> cases fv with
     | nx O'=>exact ⟨Y6,Z',s6,all6,dn6,q6⟩ | _=>exact (show False from dn6).elim
    | ct Z'=> cases fv with
     | ct O'=>exact ⟨Y6,Z',s6,all6,dn6,q6⟩ | _=>exact (show False from dn6).elim
    | bk Z'=> cases fv with
     | bk O'=>exact okR.here (b:=FlV.nx O') (Q:=z3F D) (a:=Fl.nx Z') (s:=s6) q6 stp6.rep dn6 | _=>exact (show False from dn6).elim
    | rt d=> cases fv with
     | rt v=>exact okR.here (b:=FlV.rt v) (Q:=z3F D) (a:=Fl.rt d) (s:=s6) q6 stp6.rep dn6 | _=>exact (show False from dn6).elim
   ·exact h2.elim
  ·left;have e:i=items.length:=by omega
   subst e;rw [List.drop_length,wE] at h2;split at h2
   ·rename_i hG;exact ⟨(ok H Y2 s2 stp2 hG _).2 (Nat.le_refl _),okR.here (b:=FlV.nx O) (Q:=z3F D) h2 stp2.rep en2⟩
   ·exact h2.elim
end
end Dd
namespace Zz
def Sit(b:Bool)(h:Heap)(it l:Addr)(k:Nat):Prop:=match b with
 | true=>h.IsListIter it l k | false=>h.IsTupleIter it l k
def Sco(b:Bool)(h:Heap)(l:Addr)(xs:Array Value):Prop:=match b with
 | true=>h.IsList l xs | false=>h.IsTuple l xs
theorem Sit.to{b:Bool}{h h':Heap}{it l:Addr}{k:Nat}(x:Sit b h it l k)(e:∀ o,h.get? it=some o->h'.get? it=some o):Sit b h' it l k:=by cases b with
 | true=>obtain ⟨o,ho,r⟩:=x;exact ⟨o,e _ ho,r⟩ | false=>obtain ⟨o,ho,r⟩:=x;exact ⟨o,e _ ho,r⟩
theorem Sco.to{b:Bool}{h h':Heap}{l:Addr}{xs:Array Value}(x:Sco b h l xs)(e:∀ o,h.get? l=some o->h'.get? l=some o):Sco b h' l xs:=by cases b with
 | true=>obtain ⟨o,ho,r⟩:=x;exact ⟨o,e _ ho,r⟩ | false=>obtain ⟨o,ho,r⟩:=x;exact ⟨o,e _ ho,r⟩
theorem Sit.lt{b:Bool}{h:Heap}{it l:Addr}{k:Nat}(x:Sit b h it l k):it<h.objs.size:=by cases b with
 | true=>obtain ⟨o,ho,r⟩:=x;exact Heap.lt_size ho | false=>obtain ⟨o,ho,r⟩:=x;exact Heap.lt_size ho
theorem Sit.ob{b:Bool}{h:Heap}{it l:Addr}{k:Nat}(x:Sit b h it l k):∃ o,h.get? it=some o/\∀ v,o.data≠.cell v:=by cases b with
 | true=>obtain ⟨o,ho,_,d⟩:=x;exact ⟨o,ho,fun v z=>by rw [d] at z;cases z⟩ | false=>obtain ⟨o,ho,_,d⟩:=x;exact ⟨o,ho,fun v z=>by rw [d] at z;cases z⟩
section
variable {P:Program}{w:World}{A:Around}{E:Value->Shared->Prop}{s:Shared}
theorem zf5{it l:Addr}{k:Nat}{xs:Array Value}{x:Value}{R:Value->Shared->Prop}(h1:s.heap.IsTupleIter it l k)(h2:s.heap.IsTuple l xs)(e:xs[k]? = some x) (q:∀ h',h'.IsTupleIter it l (k+1)->Heap.SameBut it s.heap h'->R x {s with heap:=h'}):wpAny (model P w) A (Builtin.SmallTypes.nextOf (.ref it)) R E s:=by
 obtain ⟨o,ho,hc,hd⟩:=id h1;obtain ⟨ol,hol,_,nl,hdl⟩:=h2;unfold Builtin.SmallTypes.nextOf;refine wpAny_bind (wpAny_callSpecial?_slot (name:=Str.ofString "__next__") h1.typeIs F.slot_tuple_iterator_next (wpAny_call_entry F.slot_tuple_iterator_next h1.typeIs F.entry_tuple_iterator_next ?_ (F.args_tuple_iterator_next_1 _)));show wpAny _ _ (field (.ref it) 0 >>= _) _ _ s;refine wpAny_bind (wpAny_field ho hd (x:=.ref l) rfl ?_);show wpAny _ _ (if (Value.ref l==Value.none)=true then _ else _) _ _ s;rw [if_neg (show ¬ ((Value.ref l==Value.none)=true) from Bool.false_ne_true)];show wpAny _ _ (field (.ref it) 1 >>= _) _ _ s;refine wpAny_bind (wpAny_field ho hd (x:=.int k 0) rfl ?_);show wpAny _ _ (seqItems? (.ref l) >>= _) _ _ s;refine wpAny_bind (wpAny_seqItems hol hdl ?_);simp only [Int.toNat_natCast,e];refine wpAny_bind (wpAny_setField ho hd (by simp) (wpAny_pure ⟨x,rfl,wpAny_pure (q _ ?_ (Heap.SameBut.update ..))⟩));exact ⟨_,Heap.get?_update_self _ ho (Obj.isFreed_of_fields (Obj.data_mapFields hd _)),(Obj.cls_mapFields ..).trans hc,by rw [Obj.data_mapFields hd];simp [rawInt]⟩
theorem z83 {it l:Addr} {k:Nat} {xs:Array Value} {R:Value->Shared->Prop} (hh:A.handled=none) (h1:s.heap.IsTupleIter it l k) (h2:s.heap.IsTuple l xs) (e:xs[k]? = none) (q:∀ h' e,Heap.ExtBut it s.heap h'->(∃ o,h'.get? e=some o/\o.cls=.type "StopIteration")->E (.ref e) {s with heap:=h'}):wpAny (model P w) A (Builtin.SmallTypes.nextOf (.ref it)) R E s:=by
 obtain ⟨o,ho,hc,hd⟩:=id h1;obtain ⟨ol,hol,_,nl,hdl⟩:=h2;unfold Builtin.SmallTypes.nextOf;refine wpAny_bind (wpAny_callSpecial?_slot (name:=Str.ofString "__next__") h1.typeIs F.slot_tuple_iterator_next (wpAny_call_entry F.slot_tuple_iterator_next h1.typeIs F.entry_tuple_iterator_next ?_ (F.args_tuple_iterator_next_1 _)));show wpAny _ _ (field (.ref it) 0 >>= _) _ _ s;refine wpAny_bind (wpAny_field ho hd (x:=.ref l) rfl ?_);show wpAny _ _ (if (Value.ref l==Value.none)=true then _ else _) _ _ s;rw [if_neg (show ¬ ((Value.ref l==Value.none)=true) from Bool.false_ne_true)];show wpAny _ _ (field (.ref it) 1 >>= _) _ _ s;refine wpAny_bind (wpAny_field ho hd (x:=.int k 0) rfl ?_);show wpAny _ _ (seqItems? (.ref l) >>= _) _ _ s;refine wpAny_bind (wpAny_seqItems hol hdl ?_);simp only [Int.toNat_natCast,e];refine wpAny_bind (wpAny_rule (wpAny_bind (wpAny_setField ho hd (by simp) ?_)));show wpAny _ _ (newExc (.type "StopIteration") [] >>= _) _ _ _;refine wpAny_bind ?_;simp only [newExc,newTuple];refine wpAny_bind (wpAny_newObj_type ?_ (by size_fits));refine wpAny_bind (m:=firstArgMember _ _) (wpAny_of_eq (a:=Value.none) (by first | rfl | (simp only [firstArgMember];rfl)) ?_);refine wpAny_newObj_type ?_ (by size_fits);simp only [raiseNew];refine wpAny_bind (wpAny_handled ?_);first | rw [show A.in1.handled=none from hh] | rw [hh]
 refine wpAny_bind (wpAny_pure (wpAny_throw ?_));exact q _ _ (((Heap.SameBut.update ..).extBut.push _).push _) ⟨_,Heap.get?_push_size _ rfl,rfl⟩
theorem nx{b:Bool}{it l:Addr}{k:Nat}{xs:Array Value}{x:Value}{R:Value->Shared->Prop}(h1:Sit b s.heap it l k)(h2:Sco b s.heap l xs)(e:xs[k]? = some x) (q:∀ h',Sit b h' it l (k+1)->Heap.SameBut it s.heap h'->R x {s with heap:=h'}):wpAny (model P w) A (Builtin.SmallTypes.nextOf (.ref it)) R E s:=by cases b with
 | true=>exact wpAny_nextOf_list_item h1 h2 e q | false=>exact zf5 h1 h2 e q
theorem z8X {b:Bool} {it l:Addr} {k:Nat} {xs:Array Value} {R:Value->Shared->Prop} (hh:A.handled=none) (h1:Sit b s.heap it l k) (h2:Sco b s.heap l xs) (e:xs[k]? = none) (q:∀ h' e,Heap.ExtBut it s.heap h'->(∃ o,h'.get? e=some o/\o.cls=.type "StopIteration")->E (.ref e) {s with heap:=h'}):wpAny (model P w) A (Builtin.SmallTypes.nextOf (.ref it)) R E s:=by cases b with
 | true=>exact wpAny_nextOf_list_end hh h1 h2 e q | false=>exact z83 hh h1 h2 e q
theorem ze{a:Addr}{h h':Heap}(hs:Heap.SameBut a h h'){b:Addr}{o:Obj}(n:b≠a)(e:h.get? b=some o):h'.get? b=some o:=hs.extBut _ _ n e
theorem zd5 {z TI TO i1 i2 l1 l2:Addr} {b1 b2:Bool} {k:Nat} {xs ys:Array Value} {x y a b:Value} {Q:Option Value->Shared->Prop} (D:ZipApart z TI TO i1 i2 l1 l2) (hz:IsZip s.heap z TI TO .none) (hTI:IsPair s.heap TI (.ref i1) (.ref i2)) (hTO:IsPair s.heap TO a b) (h1:Sit b1 s.heap i1 l1 k) (h2:Sit b2 s.heap i2 l2 k) (c1:Sco b1 s.heap l1 xs) (c2:Sco b2 s.heap l2 ys) (ex:xs[k]? = some x) (ey:ys[k]? = some y) (q:∀ h',IsZip h' z TI TO (rawInt s.heap.objs.size)->IsPair h' TO x y->Sit b1 h' i1 l1 (k+1)->Sit b2 h' i2 l2 (k+1)->IsPair h' s.heap.objs.size x y->h'.objs.size=s.heap.objs.size+1-> (∀ c o,c≠z->c≠TO->c≠i1->c≠i2->s.heap.get? c=some o->h'.get? c=some o)->Q (some (.ref s.heap.objs.size)) {s with heap:=h'}):wpAny (model P w) A (pyNext (.ref z)) Q E s:=by
 have hT:s.TypeIs (.ref z) "zip":=⟨_,hz,rfl⟩;unfold pyNext;refine wpAny_bind (wpAny_attempt (wpAny_callSpecial?_slot (name:=Str.ofString "__next__") hT F.slot_zip_next (wpAny_call_entry F.slot_zip_next hT F.entry_zip_next (Q:=fun v s'=>wpAny (model P w) A (pure (some v)) Q E s') ?_ (F.args_zip_next_1 _))));show wpAny _ _ (field (.ref z) 2 >>= _) _ _ _;refine wpAny_bind (wpAny_field hz rfl (x:=.bool false) rfl ?_);show wpAny _ _ (field (.ref z) 3 >>= _) _ _ _;refine wpAny_bind (wpAny_field hz rfl (x:=.ref TI) rfl ?_);refine wpAny_bind (wpAny_seqItems hTI rfl ?_);show wpAny _ _ (Builtin.SmallTypes.ownedTupleIsFree (.ref z) >>= _) _ _ _;refine wpAny_bind ?_;unfold Builtin.SmallTypes.ownedTupleIsFree;refine wpAny_bind (wpAny_field hz rfl (x:=.none) rfl (wpAny_pure ?_));simp only [if_true];refine wpAny_bind (wpAny_rule ?_);refine wpAny_bind (wpAny_field hz rfl (x:=.ref TO) rfl ?_);refine wpAny_bind (wpAny_setField_rec hz (by simp) fun g1 z1 s1=>?_);replace z1:IsZip g1 z TI TO .ellipsis:=z1;refine wpAny_bind ?_;simp only [List.zipIdx_cons,List.zipIdx_nil,List.forIn_cons,List.forIn_nil];refine wpAny_bind (wpAny_bind (wpAny_onRaise ?_));show wpAny _ _ (Builtin.SmallTypes.nextOf (.ref i1) >>= _) _ _ _;refine wpAny_bind (nx (h1.to fun o e=>ze s1 D.i1z e) (c1.to fun o e=>ze s1 D.l1z e) ex fun g2 t2 s2=>wpAny_pure ?_);have o2:IsPair g2 TO a b:=ze s2 D.TOi1 (ze s1 D.TOz hTO);refine wpAny_bind (wpAny_seqItems o2 rfl ?_);refine wpAny_bind (wpAny_updateSeq_pair o2 fun g3 o3 s3=>?_);replace o3:IsPair g3 TO x b:=o3;refine wpAny_bind (wpAny_letGo (wpAny_pure ?_));refine wpAny_bind (wpAny_bind (wpAny_onRaise ?_));show wpAny _ _ (Builtin.SmallTypes.nextOf (.ref i2) >>= _) _ _ _;refine wpAny_bind (nx (h2.to fun o e=>ze s3 D.TOi2.symm (ze s2 D.i12.symm (ze s1 D.i2z e))) (c2.to fun o e=>ze s3 D.l2TO (ze s2 D.l2i1 (ze s1 D.l2z e))) ey fun g4 t4 s4=>wpAny_pure ?_);have o4:IsPair g4 TO x b:=ze s4 D.TOi2 o3;refine wpAny_bind (wpAny_seqItems o4 rfl ?_);refine wpAny_bind (wpAny_updateSeq_pair o4 fun g5 o5 s5=>?_);replace o5:IsPair g5 TO x y:=o5;refine wpAny_bind (wpAny_letGo (wpAny_pure (wpAny_pure ?_)));refine wpAny_bind (wpAny_seqItems o5 rfl ?_);refine wpAny_bind (wpAny_newTuple ?_);have sz:g5.objs.size=s.heap.objs.size:=by rw [s5.1,s4.1,s3.1,s2.1,s1.1]
 have z5:IsZip g5 z TI TO .ellipsis:=ze s5 D.TOz.symm (ze s4 D.i2z.symm (ze s3 D.TOz.symm (ze s2 D.i1z.symm z1)));have k5:∀ c o,c≠z->c≠TO->c≠i1->c≠i2->s.heap.get? c=some o->g5.get? c=some o:=fun c o n1 n2 n3 n4 e=>ze s5 n2 (ze s4 n4 (ze s3 n2 (ze s2 n3 (ze s1 n1 e))));have t5:Sit b1 g5 i1 l1 (k+1):=t2.to fun o e=>ze s5 D.TOi1.symm (ze s4 D.i12 (ze s3 D.TOi1.symm e));have u5:Sit b2 g5 i2 l2 (k+1):=t4.to fun o e=>ze s5 D.TOi2.symm e;have zl:z<g5.objs.size:=Heap.lt_size z5;show wpAny _ _ (Builtin.SmallTypes.ownedTupleHandOut (.ref z) (.ref g5.objs.size) >>= _) _ _ _;refine wpAny_bind ?_;unfold Builtin.SmallTypes.ownedTupleHandOut;have z6:IsZip (g5.push {cls:=.type "tuple",data:=.seq #[x,y]}) z TI TO .ellipsis:=Heap.get?_push_of_some _ z5;refine wpAny_bind (wpAny_setField_rec z6 (by simp) fun g7 z7 s7=>?_);replace z7:IsZip g7 z TI TO (rawInt g5.objs.size):=z7;refine wpAny_setField_rec z7 (by simp) fun g8 z8 s8=>?_;replace z8:IsZip g8 z TI TO (rawInt g5.objs.size):=z8;have up:∀ c o,c≠z->g5.get? c=some o->g8.get? c=some o:=fun c o n e=>ze s8 n (ze s7 n (Heap.get?_push_of_some _ e));have p8:IsPair g8 g5.objs.size x y:=ze s8 (Nat.ne_of_gt zl) (ze s7 (Nat.ne_of_gt zl) (Heap.get?_push_size _ rfl));have e8:g8.objs.size=g5.objs.size+1:=by rw [s8.1,s7.1,Heap.size_push]
 rw [sz] at z8 p8 e8;refine wpAny_pure ⟨_,rfl,wpAny_pure ?_⟩;show Q (some (.ref g5.objs.size)) _;rw [sz];exact q g8 z8 (up _ _ D.TOz o5) (t5.to fun o e=>up _ o D.i1z e) (u5.to fun o e=>up _ o D.i2z e) p8 e8 fun c o n1 n2 n3 n4 e=>up c o n1 (k5 c o n1 n2 n3 n4 e)
theorem zgo {z TI TO i1 i2 l1 l2:Addr} {b1 b2:Bool} {k:Nat} {xs ys:Array Value} {a b:Value} {Q:Option Value->Shared->Prop} (hh:A.handled=none) (D:ZipApart z TI TO i1 i2 l1 l2) (hz:IsZip s.heap z TI TO .none) (hTI:IsPair s.heap TI (.ref i1) (.ref i2)) (hTO:IsPair s.heap TO a b) (h1:Sit b1 s.heap i1 l1 k) (h2:Sit b2 s.heap i2 l2 k) (c1:Sco b1 s.heap l1 xs) (c2:Sco b2 s.heap l2 ys) (en:xs[k]? = none\/ys[k]? = none) (q:∀ h',(∀ c o,c≠z->c≠TO->c≠i1->c≠i2->s.heap.get? c=some o->h'.get? c=some o)->Q none {s with heap:=h'}):wpAny (model P w) A (pyNext (.ref z)) Q E s:=by
 have hT:s.TypeIs (.ref z) "zip":=⟨_,hz,rfl⟩;have fin:∀ h' e,(∀ c o,c≠z->c≠TO->c≠i1->c≠i2->s.heap.get? c=some o->h'.get? c=some o)->(∃ o,h'.get? e=some o/\o.cls=.type "StopIteration")-> wpAny (model P w) A (isInstance (.ref e) (.type "StopIteration") >>= fun b=>if b=true then (pure none:Sem (Option Value)) else throw (.ref e)) Q E {s with heap:=h'}:=fun h' e hk he=>by
  obtain ⟨o,ho,hc⟩:=he;refine wpAny_bind (wpAny_isInstance (T:="StopIteration") (b:=true) ⟨o,ho,hc⟩ isSubtype_stop ?_);exact wpAny_pure (q _ hk)
 unfold pyNext;refine wpAny_bind (wpAny_attempt (wpAny_callSpecial?_slot (name:=Str.ofString "__next__") hT F.slot_zip_next (wpAny_call_entry F.slot_zip_next hT F.entry_zip_next ?_ (F.args_zip_next_1 _))));show wpAny _ _ (field (.ref z) 2 >>= _) _ _ _;refine wpAny_bind (wpAny_field hz rfl (x:=.bool false) rfl ?_);show wpAny _ _ (field (.ref z) 3 >>= _) _ _ _;refine wpAny_bind (wpAny_field hz rfl (x:=.ref TI) rfl ?_);refine wpAny_bind (wpAny_seqItems hTI rfl ?_);show wpAny _ _ (Builtin.SmallTypes.ownedTupleIsFree (.ref z) >>= _) _ _ _;refine wpAny_bind ?_;unfold Builtin.SmallTypes.ownedTupleIsFree;refine wpAny_bind (wpAny_field hz rfl (x:=.none) rfl (wpAny_pure ?_));simp only [if_true];refine wpAny_bind (wpAny_rule ?_);refine wpAny_bind (wpAny_field hz rfl (x:=.ref TO) rfl ?_);refine wpAny_bind (wpAny_setField_rec hz (by simp) fun g1 z1 s1=>?_);replace z1:IsZip g1 z TI TO .ellipsis:=z1;refine wpAny_bind ?_;simp only [List.zipIdx_cons,List.zipIdx_nil,List.forIn_cons,List.forIn_nil];refine wpAny_bind (wpAny_bind (wpAny_onRaise ?_));show wpAny _ _ (Builtin.SmallTypes.nextOf (.ref i1) >>= _) _ _ _;cases ex:xs[k]? with
 | none=>
  refine wpAny_bind (z8X hh (h1.to fun o e=>ze s1 D.i1z e) (c1.to fun o e=>ze s1 D.l1z e) ex fun g2 e s2 he=>?_);obtain ⟨oe,hoe,hce⟩:=he;have z2:IsZip g2 z TI TO .ellipsis:=s2 _ _ D.i1z.symm z1;have ez:e≠z:=fun t=>by subst t;rw [z2] at hoe;cases hoe;simp at hce
  exact wpAny_setField_rec z2 (by simp) fun g3 _ s3=>fin g3 e (fun c o n1 _ n3 _ t=>ze s3 n1 (s2 _ _ n3 (ze s1 n1 t))) ⟨oe,ze s3 ez hoe,hce⟩ | some x=>
  have ey:ys[k]? = none:=by rcases en with t | t;rw [ex] at t;cases t;exact t
  refine wpAny_bind (nx (h1.to fun o e=>ze s1 D.i1z e) (c1.to fun o e=>ze s1 D.l1z e) ex fun g2 t2 s2=>wpAny_pure ?_);have o2:IsPair g2 TO a b:=ze s2 D.TOi1 (ze s1 D.TOz hTO);refine wpAny_bind (wpAny_seqItems o2 rfl ?_);refine wpAny_bind (wpAny_updateSeq_pair o2 fun g3 o3 s3=>?_);refine wpAny_bind (wpAny_letGo (wpAny_pure ?_));refine wpAny_bind (wpAny_bind (wpAny_onRaise ?_));show wpAny _ _ (Builtin.SmallTypes.nextOf (.ref i2) >>= _) _ _ _;refine wpAny_bind (z8X hh (h2.to fun o e=>ze s3 D.TOi2.symm (ze s2 D.i12.symm (ze s1 D.i2z e))) (c2.to fun o e=>ze s3 D.l2TO (ze s2 D.l2i1 (ze s1 D.l2z e))) ey fun g4 e s4 he=>?_);obtain ⟨oe,hoe,hce⟩:=he;have z4:IsZip g4 z TI TO .ellipsis:=s4 _ _ D.i2z.symm (ze s3 D.TOz.symm (ze s2 D.i1z.symm z1));have ez:e≠z:=fun t=>by subst t;rw [z4] at hoe;cases hoe;simp at hce
  exact wpAny_setField_rec z4 (by simp) fun g5 _ s5=>fin g5 e (fun c o n1 n2 n3 n4 t=>ze s5 n1 (s4 _ _ n4 (ze s3 n2 (ze s2 n3 (ze s1 n1 t))))) ⟨oe,ze s5 ez hoe,hce⟩
end
def itO(b:Bool)(l:Addr):Obj:=match b with
 | true=>{cls:=.type "list_iterator",data:=.fields #[.ref l,.int 0 0]} | false=>{cls:=.type "tuple_iterator",data:=.fields #[.ref l,.int 0 0]}
theorem z13{b:Bool}{h:Heap}{a l:Addr}(e:h.get? a=some (itO b l)):Sit b h a l 0:=by cases b with
 | true=>exact ⟨_,e,rfl,rfl⟩ | false=>exact ⟨_,e,rfl,rfl⟩
theorem qP(b:Bool)(l:Addr):(itO b l).isFreed=false:=by cases b<;>rfl
section
variable {P:Program}{w:World}{A:Around}{E:Value->Shared->Prop}{s:Shared}
theorem z2G {b:Bool} {l:Addr} {xs:Array Value} {Q:Value->Shared->Prop} (h:Sco b s.heap l xs) (q:Q (.ref s.heap.objs.size) {s with heap:=s.heap.push (itO b l)}):wpAny (model P w) A (pyIter (.ref l)) Q E s:=by cases b with
 | true=>exact wpAny_pyIter_list h q | false=>exact wpAny_pyIter_tuple h q
end
abbrev G1(b1:Bool)(h:Heap)(l1:Addr):Heap:=h.push (itO b1 l1)
abbrev G2(b1 b2:Bool)(h:Heap)(l1 l2:Addr):Heap:=(G1 b1 h l1).push (itO b2 l2)
abbrev G3(b1 b2:Bool)(h:Heap)(l1 l2:Addr):Heap:=(G2 b1 b2 h l1 l2).push {cls:=.type "tuple",data:=.seq #[.ref h.objs.size,.ref (G1 b1 h l1).objs.size]}
abbrev G4(b1 b2:Bool)(h:Heap)(l1 l2:Addr):Heap:=(G3 b1 b2 h l1 l2).push {cls:=.type "tuple",data:=.seq #[.none,.none]}
abbrev G5(b1 b2:Bool)(h:Heap)(l1 l2:Addr):Heap:=(G4 b1 b2 h l1 l2).push {cls:=.type "zip",data:=.fields #[.none,.bool false,.bool false,.ref (G2 b1 b2 h l1 l2).objs.size,.ref (G3 b1 b2 h l1 l2).objs.size]}
theorem zaq (b1 b2:Bool) (l1 l2:Addr) (xs ys:Array Value): Meets (Builtin.«zip.__new__» ⟨[.type "zip",.ref l1,.ref l2],[]⟩) (fun _ R s=>Sco b1 s.heap l1 xs/\Sco b2 s.heap l2 ys/\R (.ok (.ret (.ref (G4 b1 b2 s.heap l1 l2).objs.size))) {s with heap:=G5 b1 b2 s.heap l1 l2}):= .of_wp fun prog w A R s h=>by
  obtain ⟨hp,g,d,tk,os⟩:=s;obtain ⟨c1,c2,h⟩:=h;have hsub:=sub_zip;have q1:Sco b1 (Shared.heap ⟨hp,g,d,tk,os⟩) l1 xs:=c1;have q2:Sco b2 (Shared.heap ⟨hp.push (itO b1 l1),g,d,tk,os⟩) l2 ys:=c2.to fun o e=>Heap.get?_push_of_some _ e;wp_walk using z2G q1,z2G q2;exact ⟨_,rfl,h⟩
section
variable {P:Program}{w:World}{A:Around}{E:Value->Shared->Prop}{s:Shared}
theorem zbz {b1 b2:Bool} {l1 l2:Addr} {xs ys:Array Value} {Q:Value->Shared->Prop} (c1:Sco b1 s.heap l1 xs) (c2:Sco b2 s.heap l2 ys) (h:∀ h',IsZip h' (s.heap.objs.size+4) (s.heap.objs.size+2) (s.heap.objs.size+3) .none->IsPair h' (s.heap.objs.size+2) (.ref s.heap.objs.size) (.ref (s.heap.objs.size+1))-> IsPair h' (s.heap.objs.size+3) .none .none->Sit b1 h' s.heap.objs.size l1 0->Sit b2 h' (s.heap.objs.size+1) l2 0->(∀ c o,s.heap.get? c=some o->h'.get? c=some o)->Q (.ref (s.heap.objs.size+4)) {s with heap:=h'}): wpAny (model P w) A (call (.type "zip") [.ref l1,.ref l2]) Q E s:=by
 refine callType_new F.called_zip (by decide) (F.typeCall_zip_2 _ _) (F.newCall_zip_2 _ _) (fun obj=>F.args_object_init_3 obj _ _) F.entry_zip_new (zaq b1 b2 l1 l2 xs ys) ⟨c1,c2,?_⟩;have z1:(G1 b1 s.heap l1).objs.size=s.heap.objs.size+1:=Heap.size_push ..;have z2:(G2 b1 b2 s.heap l1 l2).objs.size=s.heap.objs.size+2:=by rw [Heap.size_push,z1]
 have z3:(G3 b1 b2 s.heap l1 l2).objs.size=s.heap.objs.size+3:=by rw [Heap.size_push,z2]
 have z4:(G4 b1 b2 s.heap l1 l2).objs.size=s.heap.objs.size+4:=by rw [Heap.size_push,z3]
 have up:∀ {h:Heap} {o:Obj} {c:Addr} {u:Obj},h.get? c=some u->(h.push o).get? c=some u:=fun e=>Heap.get?_push_of_some _ e;have g5:(G5 b1 b2 s.heap l1 l2).get? (G4 b1 b2 s.heap l1 l2).objs.size=some _:=Heap.get?_push_size _ rfl;have g4:(G5 b1 b2 s.heap l1 l2).get? (G3 b1 b2 s.heap l1 l2).objs.size=some _:=up (Heap.get?_push_size _ rfl);have g3:(G5 b1 b2 s.heap l1 l2).get? (G2 b1 b2 s.heap l1 l2).objs.size=some _:=up (up (Heap.get?_push_size _ rfl));have g2:(G5 b1 b2 s.heap l1 l2).get? (G1 b1 s.heap l1).objs.size=some (itO b2 l2):=up (up (up (Heap.get?_push_size _ (qP b2 l2))));have g1:(G5 b1 b2 s.heap l1 l2).get? s.heap.objs.size=some (itO b1 l1):=up (up (up (up (Heap.get?_push_size _ (qP b1 l1)))));show _/\_;rw [z2,z3,z4] at g5;rw [z1,z2] at g3;rw [z3] at g4;rw [z1] at g2;rw [z4];exact ⟨⟨_,g5,rfl⟩,h _ g5 g3 g4 (z13 g1) (z13 g2) fun c o e=>up (up (up (up (up e))))⟩
end
end Zz
namespace L2
open PySem.Spec Zz
def Sq(b:Bool)(K:W.Frag)(H:Hp)(a:Addr)(xs:List V):Prop:=match b with
 | true=>SqL K H a xs | false=>SqT K H a xs
section
variable {X:Cx}{pins:List (Addr×Obj)}{O:St}{H:Hp}{s:Shared}{h':Heap}
theorem Inv.sq{b:Bool}{a:Addr}{xs:List V}(I:Inv X pins O H s)(h:Sq b X.K H a xs):∃ its:List Value,xp xs its/\Sco b s.heap a its.toArray:=by cases b with
 | true=>obtain ⟨its,r,p,_⟩:=I.list h;exact ⟨its,r,p.isList⟩ | false=>obtain ⟨its,r,p,_⟩:=I.tuple h;exact ⟨its,r,p⟩
theorem Inv.sq_inj{b:Bool}{a:Addr}{xs ys:List V}(I:Inv X pins O H s)(h:Sq b X.K H a xs)(h':Sq b X.K H a ys):xs=ys:=by cases b with
 | true=>exact I.list_inj h h' | false=>exact I.tuple_inj h h'
theorem Inv.turnedL {t':Nat} {ch:List Addr} (I:Inv X pins O H s) (k:∀ b o,b∉ch->s.heap.get? b=some o->h'.get? b=some o) (f:∀ b∈ch,z5A X pins H b):Inv X pins O H {s with heap:=h',toks:=t'}:=by
 have nit:∀ b u,H b=some u->b∉ch:=fun b u e z=>by rw [(f b z).1] at e;cases e
 refine I.step (g':=s.gens) (d':=s.drawn) (ch:=ch) (fun b hb=>⟨(f b hb).2.2.2.1,(f b hb).2.1,(f b hb).2.2.2.2.1,(f b hb).2.2.2.2.2⟩) (fun b o _ _ hc e _=>k b o hc e) (fun b o _ _ hc e _=>⟨o.slots,k b o hc e⟩) (fun _ _ _ _ n=>n) (fun b o hc e=>⟨o,k b o hc e⟩) (fun _ _ e=>e) (fun _ _ _ e=>e) (fun b ps e=>⟨#[],by rw [e];simp⟩) (fun m hm=>?_) (fun b u e=>?_) I.bare
 ·obtain ⟨o,es,ep,ho,r⟩:=hm;exact ⟨o,es,ep,k _ o (fun z=>(f _ z).2.1 rfl) ho,r⟩
 ·refine (I.hok b u e).stay (fun c v hc q=>k c v ?_ q) (fun _ q=>q) fun _ _ q=>q;rcases hc with z | z;·rw [z];exact nit b u e
  ·exact nit c _ z
end
def Itz(K:W.Frag)(b1 b2:Bool)(l1 l2:Addr):It:= ⟨fun i H=>∃ xs ys x y,Sq b1 K H l1 xs/\Sq b2 K H l2 ys/\xs[i]? = some x/\ys[i]? = some y, fun i H v H'=>∃ T x y,H T=none/\v=.ref T/\H'=upd H T (.tup [x,y])/\(∀ xs,Sq b1 K H l1 xs->xs[i]? = some x)/\∀ ys,Sq b2 K H l2 ys->ys[i]? = some y, fun i H=>∃ xs ys,Sq b1 K H l1 xs/\Sq b2 K H l2 ys/\(xs.length<=i\/ys.length<=i)⟩
theorem zbw {P:Program} {w:World} {K:W.Frag} {elts:List Expr} {kt:Nat} {tp:Pos} {b1 b2:Bool} {z TI TO i1 i2 l1 l2:Addr} (D:ZipApart z TI TO i1 i2 l1 l2): zdm P w K (.Tuple elts kt tp) (Itz K b1 b2 l1 l2) [z,TI,TO,i1,i2] z (fun i h=>IsZip h z TI TO .none/\IsPair h TI (.ref i1) (.ref i2)/\(∃ a b,IsPair h TO a b)/\Sit b1 h i1 l1 i/\Sit b2 h i2 l2 i) where
 mem:=by simp
 obj:=fun i h ⟨hz,hTI,⟨a,b,hTO⟩,h1,h2⟩ c hc=>by
  have hc':c=z\/c=TI\/c=TO\/c=i1\/c=i2:=by simpa using hc
  rcases hc' with rfl | rfl | rfl | rfl | rfl;·exact ⟨_,hz,fun v e=>by simp at e⟩
  ·exact ⟨_,hTI,fun v e=>by simp at e⟩
  ·exact ⟨_,hTO,fun v e=>by simp at e⟩
  ·exact h1.ob
  ·exact h2.ob
 keep:=fun i h h' ⟨hz,hTI,⟨a,b,hTO⟩,h1,h2⟩ k=>⟨k z (by simp) _ hz,k TI (by simp) _ hTI,⟨a,b,k TO (by simp) _ hTO⟩,h1.to fun o e=>k i1 (by simp) o e,h2.to fun o e=>k i2 (by simp) o e⟩;item:=by
  intro X hP hw hK hc i pins s O H E I hf ⟨hz,hTI,⟨a,b,hTO⟩,h1,h2⟩ ⟨xs,ys,x,y,qx,qy,ex,ey⟩;subst hP hw hK;obtain ⟨ix,rx,cx⟩:=I.sq qx;obtain ⟨iy,ry,cy⟩:=I.sq qy;obtain ⟨u,hu,ru⟩:=rx.get ex;obtain ⟨v,hv,rv⟩:=ry.get ey;refine zd5 D hz hTI hTO h1 h2 cx cy (x:=u) (y:=v) (by simpa using hu) (by simpa using hv) fun g a1 a2 a3 a4 a5 a6 hk=>⟨_,rfl,?_⟩;have kk:∀ c o,c∉[z,TO,i1,i2]->s.heap.get? c=some o->g.get? c=some o:=fun c o n e=>hk c o (fun t=>n (by simp [t])) (fun t=>n (by simp [t])) (fun t=>n (by simp [t])) (fun t=>n (by simp [t])) e;have sub:∀ c∈[z,TO,i1,i2],c∈[z,TI,TO,i1,i2]:=fun c hc=>by
   have:c=z\/c=TO\/c=i1\/c=i2:=by simpa using hc
   rcases this with rfl | rfl | rfl | rfl<;>simp
  have I1:Inv X pins O H {s with heap:=g}:=I.turnedL (t':=s.toks) kk fun c hc=>hf c (sub c hc);refine wpAny_letOwnedTupleGo_zip a1 fun g2 z2 s2=>?_;obtain ⟨f0,f1,f2,f3,f4,f5⟩:=hf z (by simp);have I2:Inv X pins O H {s with heap:=g2}:=I1.turned (t':=s.toks) (fun c o n e=>ze s2 n e) f0 f1 f3 f4 f5;have new:z5A X pins H s.heap.objs.size:=I.fpOk (Nat.le_refl _) (I.hok.fresh (Nat.le_refl _));have ne:∀ {c:Addr} {o:Obj},s.heap.get? c=some o->c≠s.heap.objs.size:=fun e=>Nat.ne_of_lt (Heap.lt_size e);have p2:IsPair g2 s.heap.objs.size u v:=ze s2 (ne hz).symm a5;refine ⟨.ref s.heap.objs.size,upd H s.heap.objs.size (.tup [x,y]),I2.track new ⟨?_,[u,v],.cons ru (.cons rv .nil),⟨_,p2,rfl,rfl,_,rfl⟩⟩,rfl,⟨_,x,y,new.1,rfl,rfl,fun zs qz=>?_,fun zs qz=>?_⟩,⟨z2,?_,⟨_,_,ze s2 D.TOz a2⟩,a3.to fun o e=>ze s2 D.i1z e,a4.to fun o e=>ze s2 D.i2z e⟩,fun c hc=>?_⟩;·show 2<=sizeLine;decide
  ·rw [I.sq_inj qz qx];exact ex
  ·rw [I.sq_inj qz qy];exact ey
  ·exact ze s2 D.TIz (hk TI _ D.TIz D.TITO D.TIi1 D.TIi2 hTI)
  ·have hc':c=z\/c=TI\/c=TO\/c=i1\/c=i2:=by simpa using hc
   have:c≠s.heap.objs.size:=by
    rcases hc' with rfl | rfl | rfl | rfl | rfl;·exact ne hz
    ·exact ne hTI
    ·exact ne hTO
    ·exact Nat.ne_of_lt h1.lt
    ·exact Nat.ne_of_lt h2.lt
   rw [zH this];exact (hf c hc).1
 done:=by
  intro X hP hw hK hc i pins s O H E I hf ⟨hz,hTI,⟨a,b,hTO⟩,h1,h2⟩ ⟨xs,ys,qx,qy,hl⟩;subst hP hw hK;obtain ⟨ix,rx,cx⟩:=I.sq qx;obtain ⟨iy,ry,cy⟩:=I.sq qy;have lx:=rx.length;have ly:=ry.length;refine zgo (I.ok.hd hc) D hz hTI hTO h1 h2 cx cy ?_ fun g hk=>⟨rfl,?_⟩
  ·rcases hl with hl | hl;·exact .inl (by simp;omega)
   ·exact .inr (by simp;omega)
  ·exact I.turnedL (t':=s.toks) (ch:=[z,TO,i1,i2]) (fun c o n e=>hk c o (fun t=>n (by simp [t])) (fun t=>n (by simp [t])) (fun t=>n (by simp [t])) (fun t=>n (by simp [t])) e) fun c hc=>hf c (by
    have:c=z\/c=TO\/c=i1\/c=i2:=by simpa using hc
    rcases this with rfl | rfl | rfl | rfl<;>simp)
 self:=fun _ _ _ _ _ st h=>wpAny_pyIter_zip st.1 h
theorem zgx{X:Cx}{elts:List Expr}{kt:Nat}{tp:Pos}{a b:Expr}{ta:TA}{p pos:Pos}(hg:Gl X "zip")(hm:X.mg "zip"=none)(ha:PA X [a,b] ta)(hs:starEach [a,b] X.env=(false,eval a X.env)::starEach [b] X.env:=by rfl)(hpl:(backTo pos (starEach [b] X.env)).any (·.1)=false:=by rfl): PI X (.Tuple elts kt tp) (.Call (.Name "zip" p) [a,b] [] pos) (fun O H R=>ta O H fun vs H1=>∃ l1 l2 b1 b2,vs=[.ref l1,.ref l2]/\(∃ xs,Sq b1 X.K H1 l1 xs)/\(∃ ys,Sq b2 X.K H1 l2 ys)/\R (Itz X.K b1 b2 l1 l2) H1):=by
 intro pins s O H R I h;refine wpAny_Call_Name_kw (jX I hg hm (u:=.type "zip") (by first | exact PySem.boot_zip | rfl | decide +kernel) ?_ (by decide) (by decide));refine PyProof.Rows.callWith_type1 (thn (ha pos pins s O H _ I h) fun us s1 ⟨vs,H1,I1,r1,q1⟩=>?_) hs hpl;obtain ⟨l1,l2,b1,b2,rfl,⟨xs,qx⟩,⟨ys,qy⟩,q⟩:=q1;cases r1 with | cons r1 r2=> cases r2 with | cons r2 r3=>
   cases r3;cases r1;cases r2;obtain ⟨ix,rx,cx⟩:=I1.sq qx;obtain ⟨iy,ry,cy⟩:=I1.sq qy;have lt1:l1<s1.heap.objs.size:=by cases b1 with
    | true=>obtain ⟨o,e,_⟩:=cx;exact Heap.lt_size e | false=>obtain ⟨o,e,_⟩:=cx;exact Heap.lt_size e
   have lt2:l2<s1.heap.objs.size:=by cases b2 with
    | true=>obtain ⟨o,e,_⟩:=cy;exact Heap.lt_size e | false=>obtain ⟨o,e,_⟩:=cy;exact Heap.lt_size e
   have D:ZipApart (s1.heap.objs.size+4) (s1.heap.objs.size+2) (s1.heap.objs.size+3) s1.heap.objs.size (s1.heap.objs.size+1) l1 l2:=by
    have e1:∀ k:Nat,l1≠s1.heap.objs.size+k:=fun k=>Nat.ne_of_lt (Nat.lt_of_lt_of_le lt1 (Nat.le_add_right _ _));have e2:∀ k:Nat,l2≠s1.heap.objs.size+k:=fun k=>Nat.ne_of_lt (Nat.lt_of_lt_of_le lt2 (Nat.le_add_right _ _));have nk:∀ (m j k:Nat),j≠k->m+j≠m+k:=fun m j k h z=>h (Nat.add_left_cancel z);exact ⟨nk _ 2 4 (by decide),nk _ 3 4 (by decide),nk _ 0 4 (by decide),nk _ 1 4 (by decide),nk _ 2 3 (by decide),nk _ 2 0 (by decide),nk _ 2 1 (by decide),nk _ 3 0 (by decide),nk _ 3 1 (by decide),nk _ 0 1 (by decide),e1 4,e1 3,e1 0,e1 1,e2 4,e2 3,e2 0,e2 1⟩
   refine zbz cx cy fun g hz hTI hTO h1 h2 hk=>?_;refine wpAny_pyIter_zip hz ?_;refine ⟨_,_,_,_,H1,rfl,I1.kept (t':=s1.toks) hk,zbw D,⟨hz,hTI,⟨_,_,hTO⟩,h1,h2⟩,fun c hc=>?_,q⟩;have hc':s1.heap.objs.size<=c:=by
    have:c=s1.heap.objs.size+4\/c=s1.heap.objs.size+2\/c=s1.heap.objs.size+3\/c=s1.heap.objs.size\/c=s1.heap.objs.size+1:=by simpa using hc
    rcases this with rfl | rfl | rfl | rfl | rfl<;>first | exact Nat.le_refl _ | exact Nat.le_add_right _ _
   exact I1.fpOk hc' (I1.hok.fresh hc')
end L2
namespace Zz
section
variable {P:Program}{w:World}{A:Around}{E:Value->Shared->Prop}{s:Shared}
theorem z45 {b : Bool} {l : Addr} {its : Array Value} {Q : Value → Shared → Prop} (hh : A.handled = none) (h : Sco b s.heap l its) (k : ∀ s2 : Shared, s2 = { s with heap := s.heap.push (itO b l) } → ∀ St : Nat → Heap → Prop, Walks P w A s.heap.objs.size [s.heap.objs.size, l] [s.heap.objs.size] its.size (fun i v => its[i]? = some v) St → St 0 s2.heap → (∀ c ∈ [s.heap.objs.size, l], c < s2.heap.objs.size) → (∀ h' : Heap, (∀ c o, c ∉ [s.heap.objs.size] → s2.heap.get? c = some o → h'.get? c = some o) → ∀ c o, s.heap.get? c = some o → h'.get? c = some o) → Q (.ref s.heap.objs.size) s2) : wpAny (model P w) A (pyIter (.ref l)) Q E s := by
  have lt : l < s.heap.objs.size := by cases b with
    | true => obtain ⟨o, e, _⟩ := h; exact Heap.lt_size e | false => obtain ⟨o, e, _⟩ := h; exact Heap.lt_size e
  have ne : l ≠ s.heap.objs.size := Nat.ne_of_lt lt;have bd : ∀ c ∈ [s.heap.objs.size, l], c < (s.heap.push (itO b l)).objs.size := fun c hc => by
    have : c = s.heap.objs.size ∨ c = l := by simpa using hc
    rw [Heap.size_push];rcases this with rfl | rfl;· exact Nat.lt_succ_self _
    · exact Nat.lt_succ_of_lt lt
  have old : ∀ h' : Heap, (∀ c o, c ∉ [s.heap.objs.size] → (s.heap.push (itO b l)).get? c = some o → h'.get? c = some o) → ∀ c o, s.heap.get? c = some o → h'.get? c = some o := fun h' hk c o e =>
    hk c o (fun z => by have : c = s.heap.objs.size := by simpa using z
                        exact absurd (this ▸ Heap.lt_size e) (Nat.lt_irrefl _)) (Heap.get?_push_of_some _ e);refine z2G h ?_;have g : (s.heap.push (itO b l)).get? s.heap.objs.size = some (itO b l) := Heap.get?_push_size _ (qP b l);cases b with
  | true => exact k _ rfl _ (Walks.list hh _ l ne its) ⟨z13 (b := true) g, Sco.to (b := true) h fun o e => Heap.get?_push_of_some _ e⟩ bd old | false => exact k _ rfl _ (Walks.tuple hh _ l ne its) ⟨z13 (b := false) g, Sco.to (b := false) h fun o e => Heap.get?_push_of_some _ e⟩ bd old
end
end Zz
namespace L2
open PySem.Spec Zz
def maxL:List Int->Int
 | []=>0 | x::xs=>xs.foldl max x
def minL:List Int->Int
 | []=>0 | x::xs=>xs.foldl min x
theorem vC:∀ (xs:List Int)(x:Int),x<=xs.foldl max x/\(∀ y∈xs,y<=xs.foldl max x)/\(xs.foldl max x=x\/xs.foldl max x∈xs)
 | [],x=>⟨Int.le_refl _,by simp,.inl rfl⟩ | y::ys,x=>by
  obtain ⟨h1,h2,h3⟩:=vC ys (max x y);refine ⟨by simp only [List.foldl_cons];omega,fun z hz=>?_,?_⟩
  ·simp only [List.foldl_cons];rcases List.mem_cons.mp hz with rfl | hz;·omega
   ·exact h2 z hz
  ·simp only [List.foldl_cons];rcases h3 with h3 | h3
   ·rw [h3];rcases Int.le_total x y with h | h;·exact .inr (by rw [Int.max_eq_right h];simp)
    ·exact .inl (Int.max_eq_left h)
   ·exact .inr (List.mem_cons_of_mem _ h3)
theorem vF:∀ (xs:List Int)(x:Int),xs.foldl min x<=x/\(∀ y∈xs,xs.foldl min x<=y)/\(xs.foldl min x=x\/xs.foldl min x∈xs)
 | [],x=>⟨Int.le_refl _,by simp,.inl rfl⟩ | y::ys,x=>by
  obtain ⟨h1,h2,h3⟩:=vF ys (min x y);refine ⟨by simp only [List.foldl_cons];omega,fun z hz=>?_,?_⟩
  ·simp only [List.foldl_cons];rcases List.mem_cons.mp hz with rfl | hz;·omega
   ·exact h2 z hz
  ·simp only [List.foldl_cons];rcases h3 with h3 | h3
   ·rw [h3];rcases Int.le_total x y with h | h;·exact .inl (Int.min_eq_left h)
    ·exact .inr (by rw [Int.min_eq_right h];simp)
   ·exact .inr (List.mem_cons_of_mem _ h3)
theorem maxL_ge{xs:List Int}:∀ y∈xs,y<=maxL xs:=by cases xs with
 | nil=>simp | cons x xs=>intro y hy;rcases List.mem_cons.mp hy with rfl | hy;exact (vC xs y).1;exact (vC xs x).2.1 y hy
theorem maxL_mem{xs:List Int}(h:xs≠[]):maxL xs∈xs:=by cases xs with
 | nil=>exact absurd rfl h | cons x xs=>rcases (vC xs x).2.2 with e | e;exact (show xs.foldl max x∈x::xs by rw [e];simp);exact List.mem_cons_of_mem _ e
theorem minL_le{xs:List Int}:∀ y∈xs,minL xs<=y:=by cases xs with
 | nil=>simp | cons x xs=>intro y hy;rcases List.mem_cons.mp hy with rfl | hy;exact (vF xs y).1;exact (vF xs x).2.1 y hy
theorem minL_mem{xs:List Int}(h:xs≠[]):minL xs∈xs:=by cases xs with
 | nil=>exact absurd rfl h | cons x xs=>rcases (vF xs x).2.2 with e | e;exact (show xs.foldl min x∈x::xs by rw [e];simp);exact List.mem_cons_of_mem _ e
section
variable {X:Cx}
theorem z1Y {ns:List Int} {its:List Value} (r:xp (ns.map V.int) its) {i:Nat} {v:Value} (e:its.toArray[i]? = some v):∃ t,v=.int (ns.getD i 0) t/\i<ns.length:=by
 have e':its[i]? = some v:=by simpa using e
 have hl:=r.length;have hi:i<ns.length:=by
  have:=(List.getElem?_eq_some_iff.mp e').1;simp at hl;omega
 obtain ⟨u,hu,ru⟩:=r.get (i:=i) (x:=V.int ns[i]) (by simp [hi]);rw [e'] at hu;cases hu;obtain ⟨t,rfl⟩:=ru;exact ⟨t,by simp [List.getD,hi],hi⟩
theorem getD_in{ns:List Int}{i:Nat}(h:i<ns.length):ns.getD i 0∈ns:=by
 rw [List.getD,List.getElem?_eq_getElem h];exact List.getElem_mem _
theorem zal (hc:X.calm=true):wl X (.builtin "max") (fun xs H Q=>∃ b p ns,xs=[.ref p]/\Sq b X.K H p (ns.map V.int)/\ns≠[]/\Q (.int (maxL ns)) H):=by
 intro pins s O H xs us Q I r h;obtain ⟨b,p,ns,rfl,hq,hne,q⟩:=h;obtain ⟨u,rfl,ru⟩:=vals1 r;cases ru;obtain ⟨its,rv,co⟩:=I.sq hq;have hl:its.length=ns.length:=by have:=rv.length;simp at this;omega
 have hn:0<ns.length:=List.length_pos_iff.mpr hne;refine call_max_walk (z45 (I.ok.hd hc) co fun s2 e2 St W st bd old=>?_);subst e2;refine ⟨_,_,_,_,_,_,_,rfl,W,st,bd,by simpa [hl] using hn,CmpOf.ints_gt (fun i=>ns.getD i 0) (fun i v e=>let ⟨t,e1,_⟩:=z1Y rv e;⟨t,e1⟩),fun v h' tk e hk=>?_⟩;obtain ⟨t,e1,lt⟩:=z1Y rv e;obtain ⟨h1,h2⟩:=argBest_gt (fun i=>ns.getD i 0) (its.toArray.size-1);have em:ns.getD (argBest (fun i j=>decide (ns.getD i 0 > ns.getD j 0)) (its.toArray.size-1)) 0=maxL ns:=by
  refine Int.le_antisymm (maxL_ge _ ?_) ?_;·exact getD_in lt
  ·obtain ⟨j,hj,ej⟩:=List.mem_iff_getElem.mp (maxL_mem hne);have:=h2 j (by simp [hl];omega);simp only [List.getD,List.getElem?_eq_getElem hj,Option.getD_some,ej] at this;simpa [List.getD] using this
 rw [e1,em];exact ⟨.int (maxL ns),H,I.kept (t':=tk) (old h' hk),⟨t,rfl⟩,q⟩
theorem z8Q (hc:X.calm=true):wl X (.builtin "min") (fun xs H Q=>∃ b p ns,xs=[.ref p]/\Sq b X.K H p (ns.map V.int)/\ns≠[]/\Q (.int (minL ns)) H):=by
 intro pins s O H xs us Q I r h;obtain ⟨b,p,ns,rfl,hq,hne,q⟩:=h;obtain ⟨u,rfl,ru⟩:=vals1 r;cases ru;obtain ⟨its,rv,co⟩:=I.sq hq;have hl:its.length=ns.length:=by have:=rv.length;simp at this;omega
 have hn:0<ns.length:=List.length_pos_iff.mpr hne;refine call_min_walk (z45 (I.ok.hd hc) co fun s2 e2 St W st bd old=>?_);subst e2;refine ⟨_,_,_,_,_,_,_,rfl,W,st,bd,by simpa [hl] using hn,CmpOf.ints_lt (fun i=>ns.getD i 0) (fun i v e=>let ⟨t,e1,_⟩:=z1Y rv e;⟨t,e1⟩),fun v h' tk e hk=>?_⟩;obtain ⟨t,e1,lt⟩:=z1Y rv e;obtain ⟨h1,h2⟩:=argBest_lt (fun i=>ns.getD i 0) (its.toArray.size-1);have em:ns.getD (argBest (fun i j=>decide (ns.getD i 0<ns.getD j 0)) (its.toArray.size-1)) 0=minL ns:=by
  refine Int.le_antisymm ?_ (minL_le _ ?_)
  ·obtain ⟨j,hj,ej⟩:=List.mem_iff_getElem.mp (minL_mem hne);have:=h2 j (by simp [hl];omega);simp only [List.getD,List.getElem?_eq_getElem hj,Option.getD_some,ej] at this;simpa [List.getD] using this
  ·exact getD_in lt
 rw [e1,em];exact ⟨.int (minL ns),H,I.kept (t':=tk) (old h' hk),⟨t,rfl⟩,q⟩
theorem all_range{bs:List Bool}:(List.range bs.length).all (fun i=>bs.getD i false)=bs.all id:=by
 rw [Bool.eq_iff_iff];simp only [List.all_eq_true,List.mem_range,id];constructor
 ·intro h x hx;obtain ⟨j,hj,ej⟩:=List.mem_iff_getElem.mp hx;have:=h j hj;simpa [List.getD,hj,ej] using this
 ·intro h i hi;simp only [List.getD,List.getElem?_eq_getElem hi,Option.getD_some];exact h _ (List.getElem_mem _)
theorem z9z (hc:X.calm=true):wl X (.builtin "all") (fun xs H Q=>∃ (b:Bool) (p:Addr) (bs:List Bool),xs=[.ref p]/\Sq b X.K H p (bs.map V.bl)/\Q (.bl (bs.all id)) H):=by
 intro pins s O H xs us Q I r h;obtain ⟨b,p,bs,rfl,hq,q⟩:=h;obtain ⟨u,rfl,ru⟩:=vals1 r;cases ru;obtain ⟨its,rv,co⟩:=I.sq hq;have hl:its.length=bs.length:=by have:=rv.length;simp at this;omega
 refine call_all_walk (z45 (I.ok.hd hc) co fun s2 e2 St W st bd old=>?_);subst e2;refine ⟨_,_,_,_,_,_,fun i=>bs.getD i false,rfl,W,st,fun i v s3 Q3 E3 e q3=>?_,fun h' tk hk=>?_⟩
 ·have e':its[i]? = some v:=by simpa using e
  have hi:i<bs.length:=by have:=(List.getElem?_eq_some_iff.mp e').1;omega
  obtain ⟨u,hu,ru⟩:=rv.get (i:=i) (x:=V.bl bs[i]) (by simp [hi]);rw [e'] at hu;cases hu;cases ru;have:bs.getD i false=bs[i]:=by simp [List.getD,hi]
  have q3:Q3 (bs.getD i false) s3:=q3;rw [this] at q3;exact wpAny_truthy_bool q3
 ·have ez:its.toArray.size=bs.length:=by simp [hl]
  rw [ez,all_range];exact ⟨.bl (bs.all id),H,I.kept (t':=tk) (old h' hk),rfl,q⟩
theorem z5v:wl X (.builtin "divmod") (fun xs H Q=>∃ i j,xs=[.int i,.int j]/\(0<j/\j.natAbs<Dd.BIG)/\∀ p,H p=none->Q (.ref p) (upd H p (.tup [.int (i / j),.int (i % j)]))):=by
 intro pins s O H xs us Q I r h;obtain ⟨i,j,rfl,⟨h1,h2⟩,q⟩:=h;obtain ⟨u,w',rfl,⟨t,rfl⟩,⟨t',rfl⟩⟩:=vals2 r;refine divmod_int (by omega) ?_ (.inl (PyProof.noPylong_of_log2 (Dd.z95 h2)));rw [Int.fdiv_eq_ediv_of_nonneg i (by omega),Int.fmod_eq_emod_of_nonneg i (by omega)];refine ⟨.ref s.heap.objs.size,_,I.laid (o:=.tup [.int (i / j),.int (i % j)]) (fun b o e=>Heap.get?_push_of_some _ e) (Nat.le_refl _) ⟨?_,[.int (i / j) s.toks,.int (i % j) (s.toks+1)],.cons ⟨_,rfl⟩ (.cons ⟨_,rfl⟩ .nil),⟨_,Heap.get?_push_size s.heap rfl,rfl,rfl,0,rfl⟩⟩,rfl,q _ (I.hok.fresh (Nat.le_refl _))⟩;show 2<=sizeLine;decide
end
end L2
namespace L2
open PySem.Spec
theorem z6h{X:Cx}:wl X (.builtin "isinstance") (fun xs H Q=>∃ x t T b,xs=[x,.ty T]/\z7I X.K H x t/\W.kitOne X.K t (.type T)=some b/\Q (.bl b) H):=by
 intro pins s O H xs us Q I r h;obtain ⟨x,t,T,b,rfl,ht,hk,q⟩:=h;obtain ⟨u,v,rfl,ru,rv⟩:=vals2 r;cases rv;exact z9j I ru ht hk fun tk=>⟨.bl b,H,I.tok _,rfl,q⟩
end L2
namespace Dd
open PySem.Spec L2
def tyD:D->Option String
 | .non=>some "NoneType" | .bl _=>some "bool" | .int _=>some "int" | .str _=>some "str" | .tup _=>some "tuple" | .lst _=>some "list" | .loc _=>some "list" | .dct=>some "dict" | _=>none
def isT(T t:String):Bool:=t==T||(T=="int"&&t=="bool")
def gIs(T:String):D->Sto->R D:=fun d s=>match tyD d with | some t=>.ok (.bl (isT T t)) s | none=>.no
theorem zet{K:W.Frag}{t:String}(h:t∈["NoneType","bool","int","str","tuple","list","dict"])(T:String)(hT:T∈["int","bool","str","tuple","list"]):W.kitOne K (.type t) (.type T)=some (isT T t):=by
 have hh:t="NoneType"\/t="bool"\/t="int"\/t="str"\/t="tuple"\/t="list"\/t="dict":=by simpa using h
 have hh':T="int"\/T="bool"\/T="str"\/T="tuple"\/T="list":=by simpa using hT
 rcases hh with rfl | rfl | rfl | rfl | rfl | rfl | rfl<;>rcases hh' with rfl | rfl | rfl | rfl | rfl<;>kernel_rfl
theorem zfT{mg:Gm}{H:Hp}{Y:List Addr}{s:Sto}{d:D}{v:V}{t:String}(r:Rep mg H Y s)(dn:Den mg H Y d v)(e:tyD d=some t):z7I mg.K H v (.type t)/\t∈["NoneType","bool","int","str","tuple","list","dict"]:=by cases d with
 | non=>simp only [Den] at dn;subst dn;cases e;exact ⟨.non,by simp⟩ | bl b=>cases z05 dn;cases e;exact ⟨.bl b,by simp⟩ | int b=>cases yg dn;cases e;exact ⟨.int b,by simp⟩ | str b=>cases z3b dn;cases e;exact ⟨.str b,by simp⟩ | tup b=>
  cases e;simp only [Den] at dn;obtain ⟨a,vs,rfl,h1,_⟩:=dn;exact ⟨.tup h1,by simp⟩ | lst b=>
  cases e;simp only [Den] at dn;obtain ⟨a,o,vs,rfl,h1,_⟩:=dn;exact ⟨.frz h1,by simp⟩ | loc l=>
  cases e;simp only [Den] at dn;obtain ⟨a,rfl,h1,vs,h2⟩:=dn;exact ⟨.lst h2,by simp⟩ | dct=>
  cases e;simp only [Den] at dn;obtain ⟨a,rfl,h1⟩:=dn;exact ⟨.dK h1,by simp⟩ | _=>cases e
section
variable {X:Cx}{E:XK}{e a b c tg:Expr}{es:List Expr}{pos:Pos}{CX:CXT}
def eIs(T:String)(f:FE):FE:=fun Z s=>(f Z s).bind fun d s1=>gIs T d s1
theorem zfn{p p2:Pos}{T:String}{tn:Str}{f:FE}(hT:T∈["int","bool","str","tuple","list"])(hv:bootBuiltins tn=some (.type T))(hg:Gl X "isinstance")(hm:X.mg "isinstance"=none)(hg2:Gl X tn)(hm2:X.mg tn=none)(he:RE X E e f) (hn:tn≠"__name__":=by decide)(hd:(tn==("__debug__":Str))=false:=by decide) (hs:starEach [e,.Name tn p2] X.env=(false,eval e X.env)::starEach [.Name tn p2] X.env:=by rfl)(hpl:(backTo pos (starEach [.Name tn p2] X.env)).any (·.1)=false:=by rfl):RE X E (.Call (.Name "isinstance" p) [e,.Name tn p2] [] pos) (eIs T f):= yw (z7A z6h hg hm (by decide +kernel) (z1u he (z1u (zdx hg2 hm2 hv (show xn (.ty T) (.type T) from rfl) hn hd) z76) hs) (by decide) (by decide) hs hpl) fun O H Q ⟨Y,Z,s,r,en,h⟩=>by
  refine yI (k:=fun Z d s1=>gIs T d s1) r en h _ fun v H1 Y1 s1 d r1 en1 dn stp h1=>?_;unfold gIs at h1;split at h1
  ·rename_i t et;obtain ⟨q1,q2⟩:=zfT r1 dn et;exact ⟨v,.type t,T,isT T t,rfl,q1,zet q2 T hT,okR.here (b:=V.bl (isT T t)) h1 r1 vT⟩
  ·exact h1.elim
def zeW:List D->Sto->R D
 | [.int i],s=>.ok (.int (if i<0 then -i else i)) s | _,_=>.no
theorem zgE:∃ r,wl X (.builtin "abs") r/\kO X E r zeW:=⟨_,zaZ,fun H Y s ds vs Q r hd h=>by
 unfold zeW at h;split at h
 ·rename_i i;obtain ⟨v,rfl,dn⟩:=z28 hd;cases yg dn;exact ⟨i,rfl,h.here r yC⟩
 ·exact h.elim⟩
def z1f:List D->Sto->R D
 | [.int i,.int j],s=>if 0<j/\j.natAbs<BIG then .ok (.tup [.int (i / j),.int (i % j)]) s else .no | _,_=>.no
theorem zbF:∃ r,wl X (.builtin "divmod") r/\kO X E r z1f:=⟨_,z5v,fun H Y s ds vs Q r hd h=>by
 unfold z1f at h;split at h
 ·rename_i i j;split at h
  ·rename_i hj;obtain ⟨v,v',rfl,d1,d2⟩:=z0I hd;cases yg d1;cases yg d2;exact ⟨i,j,rfl,hj,z1q r h (zA.cons yC (zA.one yC))⟩
  ·exact h.elim
 ·exact h.elim⟩
def intsOf:List D->Option (List Int)
 | []=>some [] | .int i::r=>(intsOf r).map (i::·) | _=>none
def bools:List D->Option (List Bool)
 | []=>some [] | .bl i::r=>(bools r).map (i::·) | _=>none
theorem qd:∀ {xs:List D}{ns:List Int},intsOf xs=some ns->xs=ns.map D.int
 | [],ns,h=>by simp [intsOf] at h;subst h;rfl | .int i::r,ns,h=>by
  simp only [intsOf,Option.map_eq_some_iff] at h;obtain ⟨ms,h1,rfl⟩:=h;rw [qd h1];rfl
theorem xK(ns:List Int):intsOf (ns.map D.int)=some ns:=by induction ns with
 | nil=>rfl | cons n ns ih=>simp [intsOf,ih]
theorem z6R:∀ {xs:List D}{ns:List Bool},bools xs=some ns->xs=ns.map D.bl
 | [],ns,h=>by simp [bools] at h;subst h;rfl | .bl i::r,ns,h=>by
  simp only [bools,Option.map_eq_some_iff] at h;obtain ⟨ms,h1,rfl⟩:=h;rw [z6R h1];rfl
theorem z8S(ns:List Bool):bools (ns.map D.bl)=some ns:=by induction ns with
 | nil=>rfl | cons n ns ih=>simp [bools,ih]
theorem qe{mg:Gm}{H:Hp}{Y:List Addr}:∀ {ns:List Int}{vs:List V},zA mg H Y (ns.map D.int) vs->vs=ns.map V.int
 | [],vs,h=>by simpa [zA] using h | n::ns,vs,h=>by
  simp only [List.map_cons,zA] at h;obtain ⟨v,r,rfl,h1,h2⟩:=h;cases yg h1;rw [qe h2];rfl
theorem z6B{mg:Gm}{H:Hp}{Y:List Addr}:∀ {ns:List Bool}{vs:List V},zA mg H Y (ns.map D.bl) vs->vs=ns.map V.bl
 | [],vs,h=>by simpa [zA] using h | n::ns,vs,h=>by
  simp only [List.map_cons,zA] at h;obtain ⟨v,r,rfl,h1,h2⟩:=h;cases z05 h1;rw [z6B h2];rfl
def uC:List D->Sto->R D
 | [d],s=>match (zL s d).bind intsOf with | some (n::ns)=>.ok (.int (maxL (n::ns))) s | _=>.no
 | _,_=>.no
def z0n:List D->Sto->R D
 | [d],s=>match (zL s d).bind intsOf with | some (n::ns)=>.ok (.int (minL (n::ns))) s | _=>.no
 | _,_=>.no
def zeE:List D->Sto->R D
 | [d],s=>match (zL s d).bind bools with | some ns=>.ok (.bl (ns.all id)) s | none=>.no
 | _,_=>.no
theorem z71{K:W.Frag}{H:Hp}{a:Addr}{vs:List V}(h:SqL K H a vs\/SqT K H a vs):∃ b,Sq b K H a vs:=h.elim (fun h=>⟨true,h⟩) fun h=>⟨false,h⟩
theorem z4C(hc:X.calm=true):∃ r,wl X (.builtin "max") r/\kO X E r uC:=⟨_,zal hc,fun H Y s ds vs Q r hd h=>by
 unfold uC at h;split at h
 ·rename_i d;split at h
  ·rename_i n ns e;obtain ⟨xs,e1,e2⟩:=Option.bind_eq_some_iff.mp e;have:=qd e2;subst this;obtain ⟨v,rfl,dn⟩:=z28 hd;obtain ⟨a,ws,rfl,q1,q2⟩:=vA (K:=X.K) r e1 dn;cases qe q2;obtain ⟨b,q⟩:=z71 q1;exact ⟨b,a,n::ns,rfl,q,by simp,h.here r yC⟩
  ·exact h.elim
 ·exact h.elim⟩
theorem z8V(hc:X.calm=true):∃ r,wl X (.builtin "min") r/\kO X E r z0n:=⟨_,z8Q hc,fun H Y s ds vs Q r hd h=>by
 unfold z0n at h;split at h
 ·rename_i d;split at h
  ·rename_i n ns e;obtain ⟨xs,e1,e2⟩:=Option.bind_eq_some_iff.mp e;have:=qd e2;subst this;obtain ⟨v,rfl,dn⟩:=z28 hd;obtain ⟨a,ws,rfl,q1,q2⟩:=vA (K:=X.K) r e1 dn;cases qe q2;obtain ⟨b,q⟩:=z71 q1;exact ⟨b,a,n::ns,rfl,q,by simp,h.here r yC⟩
  ·exact h.elim
 ·exact h.elim⟩
theorem zfO(hc:X.calm=true):∃ r,wl X (.builtin "all") r/\kO X E r zeE:=⟨_,z9z hc,fun H Y s ds vs Q r hd h=>by
 unfold zeE at h;split at h
 ·rename_i d;split at h
  ·rename_i ns e;obtain ⟨xs,e1,e2⟩:=Option.bind_eq_some_iff.mp e;have:=z6R e2;subst this;obtain ⟨v,rfl,dn⟩:=z28 hd;obtain ⟨a,ws,rfl,q1,q2⟩:=vA (K:=X.K) r e1 dn;cases z6B q2;obtain ⟨b,q⟩:=z71 q1;exact ⟨b,a,ns,rfl,q,h.here r vT⟩
  ·exact h.elim
 ·exact h.elim⟩
def z0A:List D->List D->List D
 | x::xs,y::ys=>.tup [x,y]::z0A xs ys | _,_=>[]
theorem z1D:∀ (xs ys:List D),(z0A xs ys).length=min xs.length ys.length
 | [],ys=>by simp [z0A] | x::xs,[]=>by simp [z0A] | x::xs,y::ys=>by simp only [z0A,List.length_cons,z1D xs ys];omega
theorem z8D:∀ {xs ys:List D}{i:Nat}{d:D},(z0A xs ys)[i]? = some d->∃ x y,xs[i]? = some x/\ys[i]? = some y/\d=.tup [x,y]
 | [],ys,i,d,h=>by simp [z0A] at h | x::xs,[],i,d,h=>by simp [z0A] at h | x::xs,y::ys,0,d,h=>by simp [z0A] at h;exact ⟨x,y,by simp,by simp,h.symm⟩ | x::xs,y::ys,i+1,d,h=>by
  simp only [z0A,List.getElem?_cons_succ] at h;obtain ⟨a,b,h1,h2,h3⟩:=z8D h;exact ⟨a,b,by simpa using h1,by simpa using h2,h3⟩
def z2O(s:Sto):D->Option (List D×List (Nat×List D))
 | .tup xs=>some (xs,[]) | .lst xs=>some (xs,[]) | .loc l=>(s[l]?).map fun xs=>(xs,[(l,xs)]) | _=>none
theorem z1p{mg:Gm}{H:Hp}{Y:List Addr}{s:Sto}{d:D}{xs:List D}{g:List (Nat×List D)}{v:V}(r:Rep mg H Y s)(h:z2O s d=some (xs,g))(dn:Den mg H Y d v):okG g [] s/\∃ (b:Bool)(a:Addr),v=.ref a/\ ∀ H2 Y2 s2,wd mg H Y H2 Y2 s2->okG g [] s2->∃ ws,Sq b mg.K H2 a ws/\zA mg H2 Y2 xs ws:=by cases d with
 | tup ys=>
  cases h;obtain ⟨a,vs,rfl,q1,q2⟩:=vG (K:=mg.K) dn;refine ⟨(by intro p hp;simp at hp),false,a,rfl,fun H2 Y2 s2 stp _=>?_⟩;obtain ⟨a',ws,e,q3,q4⟩:=vG (K:=mg.K) (dn.mono stp);cases e;exact ⟨ws,q3,q4⟩ | lst ys=>
  cases h;obtain ⟨a,vs,rfl,q1,q2⟩:=yh (d:=.lst xs) r rfl dn;refine ⟨(by intro p hp;simp at hp),true,a,rfl,fun H2 Y2 s2 stp _=>?_⟩;obtain ⟨a',ws,e,q3,q4⟩:=yh (d:=.lst xs) stp.rep rfl (dn.mono stp);cases e;exact ⟨ws,.inl q3,q4⟩ | loc l=>
  simp only [z2O,Option.map_eq_some_iff] at h;obtain ⟨ys,ey,e2⟩:=h;cases e2;obtain ⟨a,vs,rfl,q1,q2⟩:=yh (d:=.loc l) r ey dn;have og:okG [(l,xs)] [] s:=fun p hp=>by
   have:p=(l,xs):=by simpa using hp
   subst this;exact ey
  refine ⟨og,true,a,rfl,fun H2 Y2 s2 stp hg=>?_⟩;obtain ⟨a',ws,e,q3,q4⟩:=yh (d:=.loc l) stp.rep (hg (l,xs) (by simp)) (dn.mono stp);cases e;exact ⟨ws,.inl q3,q4⟩ | _=>cases h
def z8n(f:FA):FI:=fun Z s=>(f Z s).bind fun ds s1=>match ds with
 | [x,y]=>match z2O s1 x,z2O s1 y with
  | some p,some q=>.ok (z0A p.1 q.1,p.2++q.2) s1 | _,_=>.no
 | _=>.no
theorem z8F{p tp:Pos}{elts:List Expr}{kt:Nat}{f:FA}(hg:Gl X "zip")(hm:X.mg "zip"=none)(ha:RA X E [a,b] f)(hs:starEach [a,b] X.env=(false,eval a X.env)::starEach [b] X.env:=by rfl)(hpl:(backTo pos (starEach [b] X.env)).any (·.1)=false:=by rfl): RI X E (.Tuple elts kt tp) (.Call (.Name "zip" p) [a,b] [] pos) (z8n f):= z4j (zgx hg hm ha hs hpl) fun O H Q ⟨Y,Z,s,r,en,h⟩=>by
  unfold z8n at h;refine ⟨Y,Z,s,r,en,(okR.bind (Dn:=zA (gm X)) h).imp fun vs H1 ⟨Y1,s1,ds,stp,dn,h1⟩=>?_⟩;split at h1
  ·rename_i x y;split at h1
   ·rename_i p q ex ey;obtain ⟨xs,gx⟩:=p;obtain ⟨ys,gy⟩:=q;obtain ⟨v,v',rfl,d1,d2⟩:=z0I dn;obtain ⟨og1,b1,a1,rfl,k1⟩:=z1p stp.rep ex d1;obtain ⟨og2,b2,a2,rfl,k2⟩:=z1p stp.rep ey d2;obtain ⟨w1,q1,_⟩:=k1 H1 Y1 s1 (.refl stp.rep) og1;obtain ⟨w2,q2,_⟩:=k2 H1 Y1 s1 (.refl stp.rep) og2;refine ⟨a1,a2,b1,b2,rfl,⟨w1,q1⟩,⟨w2,q2⟩,h1.here stp.rep fun H2 Y2 s2 stp2 og i=>?_⟩;have h3:okG gx [] s2:=fun p hp=>og p (List.mem_append_left _ hp);have h4:okG gy [] s2:=fun p hp=>og p (List.mem_append_right _ hp);refine ⟨fun d hd=>?_,fun hl=>?_⟩
    ·obtain ⟨x,y,e1,e2,rfl⟩:=z8D hd;obtain ⟨w1,q1,n1⟩:=k1 H2 Y2 s2 stp2 h3;obtain ⟨w2,q2,n2⟩:=k2 H2 Y2 s2 stp2 h4;obtain ⟨u1,g1,m1⟩:=n1.get e1;obtain ⟨u2,g2,m2⟩:=n2.get e2;refine ⟨⟨w1,w2,u1,u2,q1,q2,g1,g2⟩,fun z H' ⟨T,p,q,hT,ez,eH,hp,hq⟩=>?_⟩;subst ez eH;have e3:=hp w1 q1;have e4:=hq w2 q2;rw [g1] at e3;rw [g2] at e4;cases e3;cases e4;have st3:=wd.lay (o:=.tup [u1,u2]) stp2.rep hT (by intro _ z;cases z);refine ⟨Y2,st3,?_⟩;simp only [Den];exact ⟨T,[u1,u2],rfl,yn,(zA.cons m1 (zA.one m2)).mono st3⟩
    ·obtain ⟨w1,q1,n1⟩:=k1 H2 Y2 s2 stp2 h3;obtain ⟨w2,q2,n2⟩:=k2 H2 Y2 s2 stp2 h4;refine ⟨w1,w2,q1,q2,?_⟩;rw [n1.length,n2.length];simp only [z1D] at hl;omega
   ·exact h1.elim
  ·exact h1.elim
end
def xW(mp:List (Option Nat))(Z:Ev):Ev:=mp.map fun o=>match o with | some j=>(Z[j]?).getD none | none=>none
theorem ud.inner{mg:Gm}{H:Hp}{Y:List Addr}{Z:Ev}{O:L2.St}{mp:List (Option Nat)}(en:ud mg H Y Z O):ud mg H Y (xW mp Z) (inner mp O):=by
 refine ⟨by simp [xW,L2.inner],fun i d h=>?_⟩;simp only [xW,List.getElem?_map,Option.map_eq_some_iff] at h;obtain ⟨o,h1,h2⟩:=h;cases o with
 | none=>cases h2 | some j=>
  simp only at h2;have h3:Z[j]? = some (some d):=by cases e:Z[j]? with
   | none=>rw [e] at h2;cases h2 | some x=>rw [e] at h2;simp at h2;rw [h2]
  obtain ⟨v,h4,h5⟩:=en.at_ j d h3;exact ⟨v,by simp [L2.inner,h1,h4],h5⟩
open Classical in
def ui(g:List (Nat×List D))(all:List D)(body:D->Sto->R (Option D)):List D->List D->Sto->R (List D)
 | [],acc,s=>if okG g all s then .ok acc s else .no | x::xs,acc,s=>if okG g all s then (body x s).bind fun o s1=>match o with
   | some d=>if acc.length<cap then ui g all body xs (acc++[d]) s1 else .no | none=>ui g all body xs acc s1 else .no
def z4f(fi:FI)(mp:List (Option Nat))(fg:FG)(ft:FT)(fe:FE):FA:=fun Z s=>(fi Z s).bind fun it s1=>ui it.2 it.1 (fun d s=>(fg d (xW mp Z) s).bind fun Z' s'=>(ft Z' s').bind fun b s2=>if b=true then (fe Z' s2).bind fun d s3=>.ok (some d) s3 else .ok none s2) it.1 [] s1
def z61(mg:Gm)(E:XK)(mp:List (Option Nat))(g:TG)(fg:FG):Prop:=∀ (O:L2.St) H Y Z s x d (Q:L2.St->Hp->Prop),Rep mg H Y s->ud mg H Y (xW mp Z) (inner mp O)->Den mg H Y d x->okR mg E H Y (ud mg) (fg d (xW mp Z) s) Q-> g x (inner mp O) H (fun O2 H2=>(O2.length=(inner mp O).length/\∀ (i:Nat) v,(inner mp O)[i]? = some (some v)->O2[i]? = some (some v))/\Q O2 H2)
theorem z1t{mp:List (Option Nat)}{i:Nat}(h:mp[i]? = some none)(O:L2.St):(inner mp O)[i]? = some none:=by simp [L2.inner,h]
theorem z3c{O:L2.St}{i:Nat}{v:V}(h:O[i]? = some none):(O.set i (some v)).length=O.length/\∀ (j:Nat) u,O[j]? = some (some u)->(O.set i (some v))[j]? = some (some u):=by
 refine ⟨by simp,fun j u e=>?_⟩;have:i≠j:=fun z=>by subst z;rw [h] at e;cases e
 rw [List.getElem?_set_ne this];exact e
section
variable {X:Cx}{E:XK}{e a b c tg iter elt:Expr}{es:List Expr}{pos:Pos}{CX:CXT}{mp:List (Option Nat)}
theorem yz(i:Nat)(h:mp[i]? = some none):z61 (gm X) E mp (z7O i) (we i):=fun O H Y Z s x d Q r en dn ok=>by
 refine ⟨z3c (z1t h O),?_⟩;exact okR.here (b:=(inner mp O).set i (some x)) ok r (en.set dn i)
theorem z7C{fi:FI}{g:TG}{fg:FG}{ft:FT}{fe:FE}{O:L2.St}{H:Hp}{Q:VK}{Y:List Addr}{Z:Ev}{s:Sto}{β:Type}{kR:List D->Sto->R β}{β2:Type}{Dn:Hp->List Addr->β->β2->Prop}{Q2:β2->Hp->Prop}(hg:z61 (gm X) E mp g fg)(r:Rep (gm X) H Y s)(en:ud (gm X) H Y Z O) (h:okR (gm X) E H Y Dn ((z4f fi mp fg ft fe Z s).bind kR) Q2) (fin:∀ H1 Y1 s1 xs vs,Rep (gm X) H1 Y1 s1->ud (gm X) H1 Y1 Z O->zA (gm X) H1 Y1 xs vs->okR (gm X) E H1 Y1 Dn (kR xs s1) Q2->xs.length<=cap->∀ p,H1 p=none->Q (.ref p) (upd H1 p (.lst vs))): zey (tI (gm X) E fi) mp g (tT (gm X) E ft) (tE (gm X) E fe) O H Q:=by
 unfold z4f at h;have assoc:∀ {α γ δ:Type}(x:R α)(f:α->Sto->R γ)(k:γ->Sto->R δ),(x.bind f).bind k=x.bind fun a s=>(f a s).bind k:=fun x f k=>by cases x<;>rfl
 rw [assoc] at h;refine ⟨Y,Z,s,r,en,(okR.bind (Dn:=zec (gm X)) h).imp fun J H1 ⟨Y1,s1,it,stp,ok,h1⟩=>?_⟩;obtain ⟨items,gd⟩:=it;simp only at h1;refine ⟨fun i m ys H=>∃ Y s acc,wd (gm X) H1 Y1 H Y s/\zA (gm X) H Y acc ys/\acc.length<=cap/\m=items.length-i/\i<=items.length/\ okR (gm X) E H Y Dn ((ui gd items (fun d s=>(fg d (xW mp Z) s).bind fun Z' s'=>(ft Z' s').bind fun b s2=>if b=true then (fe Z' s2).bind fun d s3=>.ok (some d) s3 else .ok none s2) (items.drop i) acc s).bind kR) Q2, ⟨items.length,Y1,s1,[],.refl stp.rep,zA.nil,Nat.zero_le _,by simp,Nat.zero_le _,by simpa using h1⟩,?_⟩;rintro i m ys H2 ⟨Y2,s2,acc,stp2,dn2,hcap,rfl,hil,h2⟩;have en2:ud (gm X) H2 Y2 Z O:=(en.mono stp).mono stp2;by_cases hlt:i<items.length
 ·right;rw [List.drop_eq_getElem_cons hlt,ui] at h2;split at h2
  ·rename_i hG;obtain ⟨go,yl⟩:=((ok H2 Y2 s2 stp2 hG i).1 items[i] (List.getElem?_eq_getElem hlt));refine ⟨go,fun x H' y=>?_⟩;obtain ⟨Y3,stp3,dn3⟩:=yl x H' y;have h3:=okR.rebase h2 stp3;rw [assoc,assoc] at h3;have h4:=okR.bind (Dn:=ud (gm X)) h3;refine hg O H' Y3 Z s2 x items[i] _ stp3.rep ((en2.mono stp3).inner) dn3 (h4.imp fun O4 H4 ⟨Y4,s4,Z4,stp4,en4,h5⟩=>?_);rw [assoc] at h5;refine ⟨Y4,Z4,s4,stp4.rep,en4,(okR.bind (Dn:=bD) h5).imp fun bb H5 ⟨Y5,s5,b',stp5,eb,h6⟩=>?_⟩;cases (show b'=bb from eb);have all5:wd (gm X) H1 Y1 H5 Y5 s5:=((stp2.trans stp3).trans stp4).trans stp5;cases bb with
   | true=>
    rw [if_pos rfl] at h6 ⊢;rw [assoc] at h6;refine ⟨Y5,Z4,s5,stp5.rep,en4.mono stp5,(okR.bind (Dn:=Den (gm X)) h6).imp fun y H6 ⟨Y6,s6,d6,stp6,dn6,h7⟩=>?_⟩;simp only [R.bind_ok] at h7;split at h7
    ·rename_i hc;have all6:=all5.trans stp6;have dny:zA (gm X) H6 Y6 acc ys:=(((dn2.mono stp3).mono stp4).mono stp5).mono stp6;refine ⟨by rw [dn2.length];exact z0U hcap,items.length-(i+1),by omega,Y6,s6,acc++[d6],all6,dny.append (zA.one dn6),by simp;omega,rfl,hlt,h7⟩
    ·exact h7.elim | false=>
    rw [if_neg (by decide)] at h6 ⊢;simp only [R.bind_ok] at h6;exact ⟨items.length-(i+1),by omega,Y5,s5,acc,all5,((dn2.mono stp3).mono stp4).mono stp5,hcap,rfl,hlt,h6⟩
  ·exact h2.elim
 ·left;have e:i=items.length:=by omega
  subst e;rw [List.drop_length,ui] at h2;split at h2
  ·rename_i hG;simp only [R.bind_ok] at h2;exact ⟨(ok H2 Y2 s2 stp2 hG _).2 (Nat.le_refl _),by rw [dn2.length];exact z0U hcap,fin H2 Y2 s2 acc ys stp2.rep en2 dn2 h2 hcap⟩
  ·exact h2.elim
def zK(fi:FI)(mp:List (Option Nat))(fg:FG)(ft:FT)(fe:FE):FE:=fun Z s=>(z4f fi mp fg ft fe Z s).bind fun xs s1=>.ok (.lst xs) s1
def z2H(fi:FI)(mp:List (Option Nat))(fg:FG)(ft:FT)(fe:FE):FE:=fun Z s=>(z4f fi mp fg ft fe Z s).bind fun xs s1=>if D.flat.flats xs=true then .ok (.loc s1.length) (s1++[xs]) else .no
def yM:FT:=fun _ s=>.ok true s
theorem yO{Yy:Cx}:z8L Yy [] (tT (gm Yy) E yM):=fun pins s O H Q I ⟨Y,Z,st,r,en,h⟩=>zbH pins s O H Q I (h.here (b:=true) r rfl)
theorem z5H{Yy:Cx}{f:FT}(h:RT Yy E c f):z8L Yy [c] (tT (gm Yy) E f):=zbU h
section
variable {scope:Scope}{ifs:List Expr}{fi:FI}{fg:FG}{ft:FT}{fe:FE}{g:TG}{spos py:Pos}
theorem zeQ(N':List Str)(mp:List (Option Nat))(hc:X.calm=true)(hi:RI X E tg iter fi)(hg:∀ ex s H,PG (yi X N' scope ex s H) tg g)(hgt:z61 (gm X) E mp g fg)(ht:∀ ex s H,z8L (yi X N' scope ex s H) ifs (tT (gm X) E ft))(he:∀ ex s H,RE (yi X N' scope ex s H) E elt fe) (hkd:scope.kind=.function)(hnm:∀ y∈scope.names,scope.names.lookup y.1=some y.2) (hfr:∀ y∈scope.names,y.2=.free->X.env.kindOf y.1=some .cell\/X.env.kindOf y.1=some .free)(hmp:z49 X.N scope.names N' mp=true) (hs:∀ x,foldedSetIterable iter X.env x=pure x:=by intro _;rfl):RE X E (.ListComp elt [⟨tg,iter,ifs,0⟩] scope pos) (zK fi mp fg ft fe):= yw (zdE (te:=tE (gm X) E fe) N' mp hc hi hg ht (fun ex s H=>he ex s H) hkd hnm hfr hmp hs).freeze fun O H Q ⟨Y,Z,s,r,en,h⟩=> z7C hgt r en h fun H1 Y1 s1 xs vs r1 en1 dn h1 hcap=>z2v r1 h1 dn
theorem z8g{i:Nat}{y:Str}(N':List Str)(mp:List (Option Nat))(hN:X.N.Nodup)(hc:X.calm=true)(hi:RI X E tg iter fi)(hg:∀ ex s H,PG (yi X N' scope ex s H) tg g)(hgt:z61 (gm X) E mp g fg)(ht:∀ ex s H,z8L (yi X N' scope ex s H) ifs (tT (gm X) E ft))(he:∀ ex s H,RE (yi X N' scope ex s H) E elt fe) (hkd:scope.kind=.function)(hnm:∀ y∈scope.names,scope.names.lookup y.1=some y.2) (hfr:∀ y∈scope.names,y.2=.free->X.env.kindOf y.1=some .cell\/X.env.kindOf y.1=some .free)(hmp:z49 X.N scope.names N' mp=true)(hy:X.N[i]? = some y:=by rfl)(hyl:Loc X.env.scope y:=by first | exact Or.inl rfl | exact Or.inr rfl) (hs:∀ x,foldedSetIterable iter X.env x=pure x:=by intro _;rfl) (hsw:swapsWith (.ListComp elt [⟨tg,iter,ifs,0⟩] scope pos) (some (.Name y py)) spos.line X.env=pure true:=by rfl) (hf:X.fn y=true\/X.env.scope.names.lookup y=some .local:=by first | exact .inl rfl | exact .inr rfl | assumption): RS X E (.Assign [.Name y py] (.ListComp elt [⟨tg,iter,ifs,0⟩] scope pos) spos) (uL i (z2H fi mp fg ft fe)):= uJ (z8d (te:=tE (gm X) E fe) N' mp hN hy hyl hc hi hg ht (fun ex s H=>he ex s H) hkd hnm hfr hmp hs hsw hf) fun D O H ⟨Y,Z,s,r,en,h⟩=>by
  have assoc:∀ {α γ δ:Type}(x:R α)(f:α->Sto->R γ)(k:γ->Sto->R δ),(x.bind f).bind k=x.bind fun a s=>(f a s).bind k:=fun x f k=>by cases x<;>rfl
  unfold uL z2H at h;rw [assoc] at h;refine z7C hgt r en h fun H1 Y1 s1 xs vs r1 en1 dn h1 hcap p hp=>?_;split at h1
  ·rename_i hf;have stp:=wd.layL (p:=p) r1 hp dn hf;refine h1 (.nx (O.set i (some (.ref p)))) _ _ stp ((en1.mono stp).set ?_ i);simp only [Den];exact ⟨p,rfl,by rw [<- r1.len];simp,vs,yn⟩
  ·exact h1.elim
end
end
section
variable {X:Cx}{E:XK}{e a b c tg iter elt:Expr}{es:List Expr}{pos:Pos}{CX:CXT}{mp:List (Option Nat)}
def zcx(K:W.Frag)(i j:Nat):TG:=ziZ K 2 (zdK (z7O i) (zdK (z7O j) ziO))
theorem jP(i j:Nat){x y:Str}{px py:Pos}{kt:Nat}(hc:X.calm=true)(hN:X.N.Nodup)(hi:X.N[i]? = some x:=by rfl)(hj:X.N[j]? = some y:=by rfl)(hx:Loc X.env.scope x:=by first | exact Or.inl rfl | exact Or.inr rfl)(hy:Loc X.env.scope y:=by first | exact Or.inl rfl | exact Or.inr rfl) (hf:X.fn x=true\/X.env.scope.names.lookup x=some .local:=by first | exact .inl rfl | exact .inr rfl | assumption)(hf':X.fn y=true\/X.env.scope.names.lookup y=some .local:=by first | exact .inl rfl | exact .inr rfl | assumption): PG X (.Tuple [.Name x px,.Name y py] kt pos) (zcx X.K i j):=z2W hc (xx (zX hN hi hx hf) (xx (zX hN hj hy hf') kK))
theorem jC(i j:Nat)(hij:i≠j)(h:mp[i]? = some none)(h':mp[j]? = some none):z61 (gm X) E mp (zcx X.K i j) (vZ i j):=fun O H Y Z s x d Q r en dn ok=>by
 unfold vZ at ok;split at ok
 ·rename_i d1 d2;obtain ⟨p,vs,rfl,q1,q2⟩:=vG (K:=X.K) dn;obtain ⟨v1,v2,rfl,e1,e2⟩:=z0I q2;have k1:=z3c (v:=v1) (z1t h O);have own2:((inner mp O).set i (some v1))[j]? = some none:=by rw [List.getElem?_set_ne hij];exact z1t h' O
  have k2:=z3c (v:=v2) own2;exact ⟨p,[v1,v2],rfl,q1,rfl,v1,[v2],rfl,v2,[],rfl,rfl,⟨k2.1.trans k1.1,fun l u e=>k2.2 l u (k1.2 l u e)⟩,okR.here ok r ((en.set e1 i).set e2 j)⟩
 ·exact ok.elim
end
def zx(N:List Str)(ds:List D):Ev:=ds.map some++List.replicate (N.length-ds.length) none
theorem z31{mg:Gm}{H:Hp}{Y:List Addr}{N:List Str}:∀ {ds:List D}{vs:List V},zA mg H Y ds vs->ud mg H Y (zx N ds) (L2.start N vs):=fun {ds vs} h=>by
 have hl:=h.length;refine ⟨by simp [zx,L2.start,hl],fun i d e=>?_⟩;unfold zx at e;have hi:i<ds.length:=by
  by_cases hi:i<ds.length;·exact hi
  ·rw [List.getElem?_append_right (by simpa using hi),List.getElem?_replicate] at e;split at e<;>cases e
 rw [List.getElem?_append_left (by simpa using hi),List.getElem?_map] at e;have e':ds[i]? = some d:=by cases q:ds[i]? with
  | none=>rw [q] at e;cases e | some x=>rw [q] at e;simp at e;rw [e]
 obtain ⟨v,h1,h2⟩:=h.get e';refine ⟨v,?_,h2⟩;unfold L2.start;rw [List.getElem?_append_left (by simpa [hl] using hi),List.getElem?_map,h1];rfl
def Mof(N:List Str)(n:Nat)(fs:FS):Mir:=fun ds s=>if ds.length=n then (match fs (zx N ds) s with
 | .ok (.rt d) s'=>.ok d s' | .ok (.nx _) s'=>.ok .non s' | _=>.no) else .no
section
variable {P:Program}{w:World}{K:W.Frag}{mg:Str->Option Value}{base:Heap}
theorem Has.mono{CX:CXT}{x:Str}{n m:Nat}{M:Mir}(h:Has P w K mg base CX x n M)(hl:n<=m):Has P w K mg base CX x m M:=by
 obtain ⟨f,fd,ps,F,r⟩:=h;exact ⟨f,fd,ps,F.mono hl,r⟩
theorem zE{x qual:Str}{st:Stmt}{f:Addr}{fd:FuncData}{N ps:List Str}{k n:Nat}{fs:FS}(F:Fun K x qual st f fd)(hm:mg x=some (.ref f))(hb:Binds K fd ps [])(S:zr N ps (zg st))(hn:ps.length=n) (body:∀ (cdv:Value)(A:Around)(outer:List Env)(s:Shared)(H:Hp)(E:XK),z0B k (A.deeper (envOfC qual (zg st) s.heap.objs.size f cdv))->(zaz CX0 P w K mg base N qual (zg st) f cdv A outer s H E).nox.calm=true-> RSs (zaz CX0 P w K mg base N qual (zg st) f cdv A outer s H E).nox E0 (uF st) fs):Has P w K mg base CX0 x (k+1) (Mof N n fs):=by
 subst hn;refine ⟨f,fd,ps,F.ok S (fun vs H Q E h=>?_) (fun cdv A outer s H vs Q E hr h=>?_),hb,F.kp,hm⟩
 ·obtain ⟨Y,s,ds,_,dn,h⟩:=h;unfold Mof at h;split at h;·rename_i e;rw [dn.length];exact e
  ·exact h.elim
 ·obtain ⟨Y,st0,ds,r,dn,h⟩:=h;refine ⟨_,body cdv A outer s H E hr (by show A.handled.isNone=true;rw [show A.handled=none from hr.hd];rfl),Y,zx N ds,st0,r,z31 dn,?_⟩;unfold Mof at h;split at h
  ·split at h
   ·rename_i d s' e;rw [e];intro fv H' Y' stp fd;cases fv with
    | rt v=>exact h v H' Y' stp fd | _=>exact (show False from fd).elim
   ·rename_i Z s' e;rw [e];intro fv H' Y' stp fd;cases fv with
    | nx v=>exact h .non H' Y' stp (by simp [Den]) | _=>exact (show False from fd).elim
   ·exact h.elim
  ·exact h.elim
end
def zdU(K:W.Frag):Sp:=fun vs H Q _=>∃ (a:Addr)(ns:List Int),vs=[.ref a]/\zgV H/\SqL K H a (ns.map V.int)/\ns.length<=63/\∀ H',Q (.bl true) H'
theorem z0e{mg:Gm}{H:Hp}{Y:List Addr}:∀ (ns:List Int),zA mg H Y (ns.map D.int) (ns.map V.int)
 | []=>zA.nil | n::ns=>zA.cons yC (z0e ns)
theorem zgz{P:Program}{w:World}{K:W.Frag}{mg:Str->Option Value}{base:Heap}{x:Str}{n:Nat}{M:Mir}{f:Addr}{fd:FuncData}{ps:List Str}(F:z2I P w K mg base CX0 n f fd ps (zcZ ⟨mg,K⟩ M)) (h:∀ ns:List Int,ns.length<=63->∃ s',M [.scr (ns.map D.int)] []=.ok (.bl true) s'):z2I P w K mg base CX0 n f fd ps (zdU K):= F.imp fun vs H Q E ⟨a,ns,e,ho,hq,hl,q⟩=>by
  subst e;obtain ⟨s',hs⟩:=h ns hl;refine ⟨[],[],[.scr (ns.map D.int)],⟨rfl,List.nodup_nil,fun l xs z=>by simp at z,fun xs z=>by simp at z⟩,zA.one ?_,?_⟩
  ·simp only [Den];refine ⟨a,ns.map V.int,rfl,?_,z0e ns⟩;rcases hq with (z | z) | z
   ·rcases ho a with y | ⟨o,xs,y⟩;·rw [y] at z;cases z
    ·rw [y] at z;cases z
   ·exact .inl z
   ·exact .inr z
  ·rw [hs];intro v H' Y' stp dn;cases z05 dn;exact q H'
section
variable {X:Cx}{E:XK}{e a b c tg iter elt:Expr}{es:List Expr}{pos:Pos}{CX:CXT}
def vt(f:FE):FE:=fun Z s=>(f Z s).bind fun d s1=>match d with | .int i=>.ok (.int (-i)) s1 | _=>.no
theorem ul{f:FE}(h:RE X E a f):RE X E (.UnaryOp .USub a pos) (vt f):= yw (zig zft h) fun O H Q ⟨Y,Z,s,r,en,h⟩=>by
  refine yI (k:=fun Z d s1=>match d with | .int i=>R.ok (D.int (-i)) s1 | _=>.no) r en h _ fun v H1 Y1 s1 d r1 en1 dn stp h1=>?_;cases d with
  | int i=>
   cases yg dn;exact ⟨i,rfl,okR.here (b:=V.int (-i)) h1 r1 yC⟩ | _=>exact h1.elim
theorem zdL{op op':CmpOp}{fo fo':D->D->Sto->R D}{fa fb fc:FE}(ho:∃ r,OpR X (compareOp op) r/\OpF X E r fo)(ho':∃ r,OpR X (compareOp op') r/\OpF X E r fo')(ha:RE X E a fa)(hb:RE X E b fb)(hc:RE X E c fc) (hm:lastMarks [op,op'] [b,c]=false:=by with_unfolding_all rfl):RT X E (.Compare a [op,op'] [b,c] pos) (tOf (z35 fo fo' fa fb fc)):=by
 obtain ⟨r,h1,h2⟩:=ho;obtain ⟨r',h1',h2'⟩:=ho';exact z7u (zbx h1 h1' ha hb hc hm) fun O H Q h=>by
  have q:=z36 h;exact z4L h2 h2' q
def wJ(i:Int)(n:Nat):List D:=(List.range n).map fun (k:Nat)=>D.int (i+((k:Nat):Int))
def z94(f:FA):FI:=fun Z s=>(f Z s).bind fun ds s1=>match ds with
 | [.int i,.int j]=>if -(2 ^ 62)<=i/\i<2 ^ 62/\-(2 ^ 62)<=j/\j<2 ^ 62 then .ok (wJ i (j-i).toNat,[]) s1 else .no | _=>.no
theorem zb9{p:Pos}{f:FA}(hg:Gl X "range")(hm:X.mg "range"=none)(ha:RA X E [a,b] f)(hs:starEach [a,b] X.env=[(false,eval a X.env),(false,eval b X.env)]:=by rfl)(hs2:starEach [b] X.env=[(false,eval b X.env)]:=by rfl):RI X E tg (.Call (.Name "range" p) [a,b] [] pos) (z94 f):= z4j (z9f hg hm ha hs hs2) fun O H Q ⟨Y,Z,s,r,en,h⟩=>by
  unfold z94 at h;refine ⟨Y,Z,s,r,en,(okR.bind (Dn:=zA (gm X)) h).imp fun vs H1 ⟨Y1,s1,ds,stp,dn,h1⟩=>?_⟩;split at h1
  ·rename_i i j;split at h1
   ·rename_i hj;obtain ⟨v,v',rfl,d1,d2⟩:=z0I dn;cases yg d1;cases yg d2;refine ⟨i,j,rfl,hj,h1.here stp.rep fun H2 Y2 s2 stp2 _ k=>⟨fun d hd=>?_,fun hl=>?_⟩⟩
    ·have hi:k<(j-i).toNat:=by
      have:=(List.getElem?_eq_some_iff.mp hd).1;simpa [wJ] using this
     refine ⟨hi,fun x H' ⟨e1,e2⟩=>?_⟩;subst e1 e2;refine ⟨Y2,.refl stp2.rep,?_⟩;have e3:d=D.int (i+k):=by
      simp only [wJ,List.getElem?_map,List.getElem?_range hi,Option.map_some,Option.some.injEq] at hd;exact hd.symm
     rw [e3];exact yC
    ·have:(wJ i (j-i).toNat).length=(j-i).toNat:=by simp [wJ]
     show (j-i).toNat<=k;rw [<- this];exact hl
   ·exact h1.elim
  ·exact h1.elim
end
def isK(o:Option NameKind)(k:NameKind):Bool:=match o,k with
 | some .local,.local=>true | some .cell,.cell=>true | some .free,.free=>true | some .globalImplicit,.globalImplicit=>true | _,_=>false
theorem z9B{o:Option NameKind}{k:NameKind}(h:isK o k=true):o=some k:=by cases o with
 | none=>cases k<;>simp [isK] at h | some j=>cases j<;>cases k<;>first | rfl | simp [isK] at h
def isF(k:NameKind):Bool:=match k with | .free=>true | _=>false
theorem zff{k:NameKind}(h:k=.free):isF k=true:=by subst h;rfl
def zek(ko:Str->Option NameKind)(names:List (Str×NameKind)):Bool:=names.all fun y=>!isF y.2||(isK (ko y.1) .cell||isK (ko y.1) .free)
theorem z6M{ko:Str->Option NameKind}{names:List (Str×NameKind)}(h:zek ko names=true):∀ y∈names,y.2=.free->ko y.1=some .cell\/ko y.1=some .free:=fun y hy hf=>by
 have:=List.all_eq_true.mp h y hy;rw [zff hf] at this;simp only [Bool.not_true,Bool.false_or,Bool.or_eq_true] at this;exact this.imp z9B z9B
def zcW(names:List (Str×NameKind)):Bool:=names.all fun y=>isK (names.lookup y.1) y.2
theorem z7j{names:List (Str×NameKind)}(h:zcW names=true):∀ y∈names,names.lookup y.1=some y.2:=fun y hy=>by
 have:=List.all_eq_true.mp h y hy;exact z9B this
section
variable {X:Cx}{E:XK}{e a b c tg iter elt:Expr}{es:List Expr}{pos:Pos}{CX:CXT}
variable {scope:Scope}{ifs:List Expr}{fi:FI}{fg:FG}{ft:FT}{fe:FE}{g:TG}{spos py:Pos}
theorem zh0{x:Str}{i:Int}(hg:Gl X x)(hm:∃ t,X.mg x=some (.int i t))(hd:(x==("__debug__":Str))=false:=by decide):RE X E (.Name x pos) (eC (.int i)):=let ⟨_,h⟩:=hm;zg6 hg h hd
theorem yD(N':List Str)(mp:List (Option Nat))(hc:X.calm=true)(hi:RI X E tg iter fi)(hg:∀ ex s H,PG (yi X N' scope ex s H) tg g)(hgt:z61 (gm X) E mp g fg)(ht:∀ ex s H,z8L (yi X N' scope ex s H) ifs (tT (gm X) E ft))(he:∀ ex s H,RE (yi X N' scope ex s H) E elt fe) (hkd:scope.kind=.function:=by rfl)(hnm:zcW scope.names=true:=by rfl)(hfr:zek X.env.kindOf scope.names=true:=by rfl)(hmp:z49 X.N scope.names N' mp=true:=by rfl) (hs:∀ x,foldedSetIterable iter X.env x=pure x:=by intro _;rfl):RE X E (.ListComp elt [⟨tg,iter,ifs,0⟩] scope pos) (zK fi mp fg ft fe):= zeQ N' mp hc hi hg hgt ht he hkd (z7j hnm) (z6M hfr) hmp hs
theorem zeb(i:Nat){y:Str}(N':List Str)(mp:List (Option Nat))(hN:X.N.Nodup)(hc:X.calm=true)(hi:RI X E tg iter fi)(hg:∀ ex s H,PG (yi X N' scope ex s H) tg g)(hgt:z61 (gm X) E mp g fg)(ht:∀ ex s H,z8L (yi X N' scope ex s H) ifs (tT (gm X) E ft))(he:∀ ex s H,RE (yi X N' scope ex s H) E elt fe) (hkd:scope.kind=.function:=by rfl)(hnm:zcW scope.names=true:=by rfl)(hfr:zek X.env.kindOf scope.names=true:=by rfl)(hmp:z49 X.N scope.names N' mp=true:=by rfl)(hy:X.N[i]? = some y:=by rfl)(hyl:Loc X.env.scope y:=by first | exact Or.inl rfl | exact Or.inr rfl) (hs:∀ x,foldedSetIterable iter X.env x=pure x:=by intro _;rfl) (hsw:swapsWith (.ListComp elt [⟨tg,iter,ifs,0⟩] scope pos) (some (.Name y py)) spos.line X.env=pure true:=by rfl) (hf:X.fn y=true\/X.env.scope.names.lookup y=some .local:=by first | exact .inl rfl | exact .inr rfl | assumption): RS X E (.Assign [.Name y py] (.ListComp elt [⟨tg,iter,ifs,0⟩] scope pos) spos) (uL i (z2H fi mp fg ft fe)):= z8g N' mp hN hc hi hg hgt ht he hkd (z7j hnm) (z6M hfr) hmp hy hyl hs hsw hf
end
theorem zaj{mg:Str->Option Value}{h:Heap}{x:Str}{v:Value}{i:Int}(h1:mg x=some v)(r:W.ReadsLit h v (.int i) []):∃ t,mg x=some (.int i t):=by
 cases r;exact ⟨_,h1⟩
theorem zfo{P:Program}{w:World}{K:W.Frag}{mg:Str->Option Value}{base:Heap}{x qual:Str}{st:Stmt}{f:Addr}{fd:FuncData}{N ps:List Str}{k n:Nat}{fs:FS}(F:Fun K x qual st f fd)(S:zr N ps (zg st))(hn:ps.length=n) (body:∀ (cdv:Value)(A:Around)(outer:List Env)(s:Shared)(H:Hp)(E:XK),z0B k (A.deeper (envOfC qual (zg st) s.heap.objs.size f cdv))->(zaz CX0 P w K mg base N qual (zg st) f cdv A outer s H E).nox.calm=true-> RSs (zaz CX0 P w K mg base N qual (zg st) f cdv A outer s H E).nox E0 (uF st) fs):z2I P w K mg base CX0 (k+1) f fd ps (zcZ ⟨mg,K⟩ (Mof N n fs)):=by
 subst hn;refine F.ok S (fun vs H Q E h=>?_) (fun cdv A outer s H vs Q E hr h=>?_)
 ·obtain ⟨Y,s,ds,_,dn,h⟩:=h;unfold Mof at h;split at h;·rename_i e;rw [dn.length];exact e
  ·exact h.elim
 ·obtain ⟨Y,st0,ds,r,dn,h⟩:=h;refine ⟨_,body cdv A outer s H E hr (by show A.handled.isNone=true;rw [show A.handled=none from hr.hd];rfl),Y,zx N ds,st0,r,z31 dn,?_⟩;unfold Mof at h;split at h
  ·split at h
   ·rename_i d s' e;rw [e];intro fv H' Y' stp fd;cases fv with
    | rt v=>exact h v H' Y' stp fd | _=>exact (show False from fd).elim
   ·rename_i Z s' e;rw [e];intro fv H' Y' stp fd;cases fv with
    | nx v=>exact h .non H' Y' stp (by simp [Den]) | _=>exact (show False from fd).elim
   ·exact h.elim
  ·exact h.elim
section
variable {all xs:List D}{Z:Ev}{s:Sto}
theorem jM{body:D->Ev->Sto->R Fl}(I:Ev->Sto->Prop):∀ (xs:List D),(∀ x∈xs,∀ Z s,I Z s->∃ Z' s',body x Z s=.ok (.nx Z') s'/\I Z' s')->∀ Z s,I Z s->∃ Z' s',wE [] all body xs Z s=.ok (.nx Z') s'/\I Z' s'
 | [],_,Z,s,h=>⟨Z,s,by simp [wE,okG],h⟩ | x::xs,hb,Z,s,h=>by
  obtain ⟨Z1,s1,e1,h1⟩:=hb x (by simp) Z s h;obtain ⟨Z2,s2,e2,h2⟩:=jM I xs (fun y hy=>hb y (by simp [hy])) Z1 s1 h1;exact ⟨Z2,s2,by simp [wE,okG,e1,e2],h2⟩
theorem z4x{body:D->Sto->R (Option D)}(f:D->D):∀ (xs acc:List D),(∀ x∈xs,body x s=.ok (some (f x)) s)->acc.length+xs.length<=cap->ui [] all body xs acc s=.ok (acc++xs.map f) s
 | [],acc,_,_=>by simp [ui,okG] | x::xs,acc,hb,hl=>by
  have ih:=z4x f xs (acc++[f x]) (fun y hy=>hb y (by simp [hy])) (by simp at hl ⊢;omega);have hc:acc.length<cap:=by simp at hl;omega
  rw [ui];simp [okG,hb x (by simp),hc,ih]
end
section
variable (i j k n:Nat)(Z:Ev)(s:Sto)(f g fa fb fc:FE)(d x y:D)(ds:List D)(ar:FA)(op op':D->D->Sto->R D)(ft ft':FT)(fs fs':FS)(M:Mir)(T:String)(fl fh fo:FO)(fi:FI)(fg:FG)(mp:List (Option Nat))(N:List Str)
@[simp] theorem yc:zc i Z s=(match Z[i]? with | some (some d)=>.ok d s | _=>.no):=id rfl
@[simp] theorem kg:eC d Z s=.ok d s:=id rfl
@[simp] theorem wv:eOp op fa fb Z s=(fa Z s).bind fun x s1=>(fb Z s1).bind fun y s2=>op x y s2:=id rfl
@[simp] theorem yj:zd M ar Z s=(ar Z s).bind fun xs s1=>M xs s1:=id rfl
@[simp] theorem zN:zp Z s=.ok [] s:=id rfl
@[simp] theorem zt:za f ar Z s=(f Z s).bind fun x s1=>(ar Z s1).bind fun xs s2=>.ok (x::xs) s2:=id rfl
@[simp] theorem z0O:z2N ar Z s=(ar Z s).bind fun xs s1=>if xs.length<=cap then .ok (.tup xs) s1 else .no:=id rfl
@[simp] theorem z7a:z5x ar Z s=(ar Z s).bind fun xs s1=>if xs.length<=cap then .ok (.lst xs) s1 else .no:=id rfl
@[simp] theorem zab:zdQ ar Z s=(ar Z s).bind fun xs s1=>if xs.length<=cap/\D.flat.flats xs=true then .ok (.loc s1.length) (s1++[xs]) else .no:=id rfl
@[simp] theorem zjE:eIs T f Z s=(f Z s).bind fun d s1=>gIs T d s1:=id rfl
@[simp] theorem kX:vt f Z s=(f Z s).bind fun d s1=>match d with | .int i=>.ok (.int (-i)) s1 | _=>.no:=id rfl
@[simp] theorem ziD:ziz f Z s=(f Z s).bind fun x s1=>match x with | .bl k=>.ok (.bl (!k)) s1 | _=>.no:=id rfl
@[simp] theorem zj4:zeC fa fb Z s=(fa Z s).bind fun x s1=>match x with | .bl true=>fb Z s1 | .bl false=>.ok (.bl false) s1 | _=>.no:=id rfl
@[simp] theorem zjx:eOr fa fb Z s=(fa Z s).bind fun x s1=>match x with | .bl false=>fb Z s1 | .bl true=>.ok (.bl true) s1 | _=>.no:=id rfl
@[simp] theorem zeg:eIf ft fa fb Z s=(ft Z s).bind fun x s1=>if x=true then fa Z s1 else fb Z s1:=id rfl
@[simp] theorem z0t:eSl f fl fh Z s=(f Z s).bind fun x s1=>(fl Z s1).bind fun lo s2=>(fh Z s2).bind fun hi s3=>dSl x lo hi s3:=id rfl
@[simp] theorem yS:zI Z s=.ok none s:=id rfl
@[simp] theorem wK:xl f Z s=(f Z s).bind fun d s1=>match d with | .int i=>.ok (some i) s1 | _=>.no:=id rfl
@[simp] theorem z6p:tOf f Z s=(f Z s).bind fun d s1=>match d with | .bl k=>.ok k s1 | _=>.no:=id rfl
@[simp] theorem zcA:zdd ft ft' Z s=(ft Z s).bind fun x s1=>if x=true then ft' Z s1 else .ok false s1:=id rfl
@[simp] theorem zhZ:fOr ft ft' Z s=(ft Z s).bind fun x s1=>if x=true then .ok true s1 else ft' Z s1:=id rfl
@[simp] theorem zaw:z48 ft Z s=(ft Z s).bind fun x s1=>.ok (!x) s1:=id rfl
@[simp] theorem zgR:z35 op op' fa fb fc Z s=(fa Z s).bind fun x s1=>(fb Z s1).bind fun y s2=>(op x y s2).bind fun z s3=>match z with
 | .bl true=>(fc Z s3).bind fun w s4=>op' y w s4 | .bl false=>.ok (.bl false) s3 | _=>.no:=id rfl
@[simp] theorem ziG:zZ fs fs' Z s=(fs Z s).bind fun fl s1=>match fl with | .nx Z'=>fs' Z' s1 | fl=>.ok fl s1:=id rfl
@[simp] theorem zhP:xN Z s=.ok (.nx Z) s:=id rfl
@[simp] theorem zjz:fNo Z s=.no:=id rfl
@[simp] theorem z1M:vp f Z s=(f Z s).bind fun _ s1=>.ok (.nx Z) s1:=id rfl
@[simp] theorem xc:xO f Z s=(f Z s).bind fun d s1=>.ok (.rt d) s1:=id rfl
@[simp] theorem kC:fIf ft fs fs' Z s=(ft Z s).bind fun x s1=>if x=true then fs Z s1 else fs' Z s1:=id rfl
@[simp] theorem xA:uL i f Z s=(f Z s).bind fun d s1=>.ok (.nx (Z.set i (some d))) s1:=id rfl
@[simp] theorem zcu:zcC f fg Z s=(f Z s).bind fun d s1=>(fg d Z s1).bind fun Z' s2=>.ok (.nx Z') s2:=id rfl
@[simp] theorem zf3:zgY i j ar Z s=(ar Z s).bind fun ds s1=>match ds with | [x,y]=>.ok (.nx ((Z.set i (some x)).set j (some y))) s1 | _=>.no:=id rfl
@[simp] theorem z0i:we i d Z s=.ok (Z.set i (some d)) s:=id rfl
@[simp] theorem zcJ:vZ i j (.tup [x,y]) Z s=.ok ((Z.set i (some x)).set j (some y)) s:=id rfl
@[simp] theorem zee:z4O fa fb fc Z s=(fc Z s).bind fun d s1=>(fa Z s1).bind fun o s2=>(fb Z s2).bind fun i s3=>match o,i with
 | .loc l,.int k=>match s3[l]? with
  | some xs=>match ixN xs.length k with
   | some j=>if d.flat=true then .ok (.nx Z) (s3.set l (xs.set j d)) else .no | none=>.no
  | none=>.no
 | _,_=>.no:=id rfl
@[simp] theorem z93:yB f Z s=(f Z s).bind fun d s1=>match d with
 | .tup xs=>.ok (xs,[]) s1 | .lst xs=>.ok (xs,[]) s1 | .loc l=>match s1[l]? with | some xs=>.ok (xs,[(l,xs)]) s1 | none=>.no
 | _=>.no:=id rfl
@[simp] theorem zck:z5w ar Z s=(ar Z s).bind fun ds s1=>match ds with
 | [.int j]=>if -(2 ^ 62)<=j/\j<2 ^ 62 then .ok (yJ j.toNat,[]) s1 else .no | _=>.no:=id rfl
@[simp] theorem zdq:z94 ar Z s=(ar Z s).bind fun ds s1=>match ds with
 | [.int i,.int j]=>if -(2 ^ 62)<=i/\i<2 ^ 62/\-(2 ^ 62)<=j/\j<2 ^ 62 then .ok (wJ i (j-i).toNat,[]) s1 else .no | _=>.no:=id rfl
@[simp] theorem z6X:z8n ar Z s=(ar Z s).bind fun ds s1=>match ds with
 | [x,y]=>match z2O s1 x,z2O s1 y with
  | some p,some q=>.ok (z0A p.1 q.1,p.2++q.2) s1 | _,_=>.no
 | _=>.no:=id rfl
@[simp] theorem jg:z6W fi fg fs Z s=(fi Z s).bind fun it s1=>wE it.2 it.1 (fun d Z s=>(fg d Z s).bind fun Z' s'=>fs Z' s') it.1 Z s1:=id rfl
@[simp] theorem z1R:z4f fi mp fg ft f Z s=(fi Z s).bind fun it s1=>ui it.2 it.1 (fun d s=>(fg d (xW mp Z) s).bind fun Z' s'=>(ft Z' s').bind fun b s2=>if b=true then (f Z' s2).bind fun d s3=>.ok (some d) s3 else .ok none s2) it.1 [] s1:=id rfl
@[simp] theorem z0G:zK fi mp fg ft f Z s=(z4f fi mp fg ft f Z s).bind fun xs s1=>.ok (.lst xs) s1:=id rfl
@[simp] theorem zaG:z2H fi mp fg ft f Z s=(z4f fi mp fg ft f Z s).bind fun xs s1=>if D.flat.flats xs=true then .ok (.loc s1.length) (s1++[xs]) else .no:=id rfl
@[simp] theorem z9Z:yM Z s=.ok true s:=id rfl
@[simp] theorem zak:zeF fa fb Z s=(fa Z s).bind fun o s1=>match o with
 | .loc l=>(fb Z s1).bind fun d s2=>match s2[l]? with
  | some xs=>if d.flat=true/\xs.length<cap then .ok .non (s2.set l (xs++[d])) else .no | none=>.no
 | _=>.no:=id rfl
@[simp] theorem z4p:xW [] Z=[]:=id rfl
@[simp] theorem z7K:xW (some i::mp) Z=(Z[i]?).getD none::xW mp Z:=id rfl
@[simp] theorem z7S:xW (none::mp) Z=none::xW mp Z:=id rfl
variable (a b:Int)(u v:Bool)(xs ys:List D)
@[simp] theorem z6S:wZ (.int a) (.int b) s=.ok (.int (a+b)) s:=rfl
@[simp] theorem z2J:wZ (.tup xs) (.tup ys) s=if xs.length+ys.length<=cap then .ok (.tup (xs++ys)) s else .no:=rfl
@[simp] theorem ziS:wZ (.lst xs) (.lst ys) s=if xs.length+ys.length<=cap then .ok (.lst (xs++ys)) s else .no:=rfl
@[simp] theorem zeR:z5L (.int a) (.int b) s=.ok (.int (a-b)) s:=rfl
theorem qf:yP (.int a) (.int b) s=if a.natAbs<BIG/\b.natAbs<BIG then .ok (.int (a*b)) s else .no:=by
 simp only [yP,dII,iOk];split<;>(rename_i h;split at h<;>simp_all)
theorem z69:z1i (.int a) (.int b) s=if 0<b/\b.natAbs<BIG then .ok (.int (a / b)) s else .no:=by
 simp only [z1i,dII,iOk];split<;>(rename_i h;split at h<;>simp_all)
theorem zeU:z8z (.int a) (.int b) s=if 0<b then .ok (.int (a % b)) s else .no:=by
 simp only [z8z,dII,iOk];split<;>(rename_i h;split at h<;>simp_all)
theorem z50:kh (.int a) (.int b) s=if 0<=b/\b<=1000/\a.natAbs<1000 then .ok (.int (a ^ b.toNat)) s else .no:=by
 simp only [kh,dII,iOk];split<;>(rename_i h;split at h<;>simp_all)
@[simp] theorem zhu:dLt (.int a) (.int b) s=.ok (.bl (decide (a<b))) s:=rfl
@[simp] theorem zdM:dLe (.int a) (.int b) s=.ok (.bl (decide (a<=b))) s:=rfl
@[simp] theorem zaT:dGt (.int a) (.int b) s=.ok (.bl (decide (b<a))) s:=rfl
@[simp] theorem zhL:dGe (.int a) (.int b) s=.ok (.bl (decide (b<=a))) s:=rfl
@[simp] theorem z9o:dEq (.int a) (.int b) s=.ok (.bl (decide (a=b))) s:=by
 have:eqD (.int a) (.int b)=decide (a=b):=by
  simp only [eqD,xG,PyData.eqv];rw [Bool.eq_iff_iff];simp
 rw [dEq,this];rfl
@[simp] theorem z9d:dNe (.int a) (.int b) s=.ok (.bl (decide (a≠b))) s:=by
 have:eqD (.int a) (.int b)=decide (a=b):=by
  simp only [eqD,xG,PyData.eqv];rw [Bool.eq_iff_iff];simp
 rw [dNe,this,if_pos (by constructor<;>rfl)];simp
@[simp] theorem zjr:dEq (.bl u) (.bl v) s=.ok (.bl (u==v)) s:=by cases u<;>cases v<;>rfl
@[simp] theorem zjp:dNe (.bl u) (.bl v) s=.ok (.bl (u != v)) s:=by cases u<;>cases v<;>rfl
end
theorem zu{f g:FS}{Z Z':Ev}{s s':Sto}(h:f Z s=.ok (.nx Z') s'):zZ f g Z s=g Z' s':=by simp [h]
theorem zgd{f g:FS}{Z:Ev}{s s':Sto}{d:D}(h:f Z s=.ok (.rt d) s'):zZ f g Z s=.ok (.rt d) s':=by simp [h]
theorem z0F{all:List D}{body:D->Ev->Sto->R Fl}(I:Nat->Ev->Sto->Prop):∀ (xs:List D)(k:Nat),(∀ j x,xs[j]? = some x->∀ Z s,I (k+j) Z s->∃ Z' s',body x Z s=.ok (.nx Z') s'/\I (k+j+1) Z' s')-> ∀ Z s,I k Z s->∃ Z' s',wE [] all body xs Z s=.ok (.nx Z') s'/\I (k+xs.length) Z' s'
 | [],k,_,Z,s,h=>⟨Z,s,by simp [wE,okG],h⟩ | x::xs,k,hb,Z,s,h=>by
  obtain ⟨Z1,s1,e1,h1⟩:=hb 0 x (by simp) Z s h;obtain ⟨Z2,s2,e2,h2⟩:=z0F (all:=all) I xs (k+1) (fun j y hy Z s hi=>by
   have e:k+1+j=k+(j+1):=by omega
   rw [e] at hi ⊢;exact hb (j+1) y (by simpa using hy) Z s hi) Z1 s1 h1;refine ⟨Z2,s2,by simp [wE,okG,e1,e2],?_⟩;have e:k+(x::xs).length=k+1+xs.length:=by simp;omega
  rw [e];exact h2
theorem z5b{n j:Nat}{x:D}(h:(yJ n)[j]? = some x):j<n/\x=.int j:=by
 have hj:j<n:=by
  have:=(List.getElem?_eq_some_iff.mp h).1;simpa [yJ] using this
 refine ⟨hj,?_⟩;simp only [yJ,List.getElem?_map,List.getElem?_range hj,Option.map_some,Option.some.injEq] at h;exact h.symm
theorem z8l {n:Nat} {x:D} (h:x∈yJ n):∃ j:Nat,j<n/\x=.int j:=by
 obtain ⟨j,hj,e⟩:=List.mem_iff_getElem.mp h;have:=z5b (n:=n) (j:=j) (x:=x) (by rw [List.getElem?_eq_getElem hj,e]);exact ⟨j,this.1,this.2⟩
theorem ints_of{P:Int->Prop}:∀ {ys:List D},(∀ y∈ys,∃ n,y=.int n/\P n)->∃ ns:List Int,ys=ns.map D.int/\∀ n∈ns,P n
 | [],_=>⟨[],rfl,by simp⟩ | y::ys,h=>by
  obtain ⟨n,rfl,hn⟩:=h y (by simp);obtain ⟨ns,rfl,hs⟩:=ints_of (ys:=ys) fun z hz=>h z (by simp [hz]);refine ⟨n::ns,rfl,fun m hm=>?_⟩;rcases List.mem_cons.mp hm with rfl | hm;·exact hn
  ·exact hs m hm
theorem ub:∀ (ns:List Int),D.flat.flats (ns.map D.int)=true
 | []=>rfl | n::ns=>by simp [D.flat.flats,D.flat,ub ns]
theorem z0y(i:Int):(D.int i).flat=true:=rfl
theorem uc.flatten{mg:Gm}{H H':Hp}{Y Y':List Addr}{ys:List D}{c:Addr}(k:∀ b o,H b=some o->(∀ vs,o≠.lst vs)->(∀ kvs,o≠.dT kvs)->H' b=some o)(f:D.flat.flats ys=true)(e:H' c=H c)(h:uc mg H Y ys c):uc mg H' Y' ys c:=by
 rcases h with ⟨vs,h1,h2⟩ | ⟨kvs,h1,h2⟩;·exact .inl ⟨vs,e.trans h1,h2.flatten k f⟩
 ·exact .inr ⟨kvs,e.trans h1,h2⟩
section
variable {X:Cx}{E:XK}{e:Expr}
def zjg(f:FE):FE:=fun Z s=>match f Z s with
 | .ok (.loc l) s1=>match s1[l]? with
  | some xs=>if s.length<=l/\l+1=s1.length then .ok (.lst xs) (s1.take l) else .no | none=>.no
 | .ok _ _=>.no | .ex c s1=>.ex c s1 | .no=>.no
end
@[simp] theorem ziX (f:FE)(Z:Ev)(s:Sto):zjg f Z s=(match f Z s with
 | .ok (.loc l) s1=>match s1[l]? with
  | some xs=>if s.length<=l/\l+1=s1.length then .ok (.lst xs) (s1.take l) else .no | none=>.no
 | .ok _ _=>.no | .ex c s1=>.ex c s1 | .no=>.no):=id rfl
end Dd
namespace Zz
open PySem.AutoSeq1 (wpAny_loadPart')
end Zz
namespace L2
open PySem.Spec Zz
theorem z1j(ns:List Int):∀ n,n<=ns.length->preSum (fun i=>ns.getD i 0) n=(ns.take n).sum
 | 0,_=>by simp [preSum] | n+1,h=>by
  rw [preSum,z1j ns n (by omega),<- List.take_append_getElem (show n<ns.length by omega),List.sum_append];have e:ns.getD n 0=ns[n]:=by simp [List.getD,List.getElem?_eq_getElem (show n<ns.length by omega)]
  rw [e];simp only [List.sum_cons,List.sum_nil,Int.add_zero]
theorem zai{X:Cx}(hc:X.calm=true):wl X (.builtin "sum") (fun xs H Q=>∃ (b:Bool)(p:Addr)(ns:List Int),xs=[.ref p]/\Sq b X.K H p (ns.map V.int)/\Q (.int ns.sum) H):=by
 intro pins s O H xs us Q I r h;obtain ⟨b,p,ns,rfl,hq,q⟩:=h;obtain ⟨u,rfl,ru⟩:=vals1 r;cases ru;obtain ⟨its,rv,co⟩:=I.sq hq;have hl:its.length=ns.length:=by have:=rv.length;simp at this;omega
 refine call_sum_walkG (z45 (I.ok.hd hc) co fun s2 e2 St W st bd old=>?_);subst e2;refine ⟨_,_,_,_,_,_,(fun i=>ns.getD i 0),rfl,W,st,bd,(fun i v e=>let ⟨t,e1,_⟩:=z1Y rv e;⟨t,e1⟩),fun h' tk t' hk=>?_⟩;have ez:its.toArray.size=ns.length:=by simp [hl]
 rw [ez,z1j ns _ (Nat.le_refl _),List.take_length];exact ⟨.int ns.sum,H,I.kept (t':=tk) (old h' hk),⟨t',rfl⟩,q⟩
end L2
namespace L2
open PySem.Spec
end L2
namespace Dd
open PySem.Spec L2
section
variable {X:Cx}{E:XK}{e a b c tg iter elt:Expr}{es:List Expr}{pos:Pos}{CX:CXT}
theorem zga{mg:Gm}{H:Hp}{Y:List Addr}{d d' d2:D}{vs:List V}(h:zA mg H Y [d,d',d2] vs):∃ v v' v2,vs=[v,v',v2]/\Den mg H Y d v/\Den mg H Y d' v'/\Den mg H Y d2 v2:=by
 simp only [zA] at h;obtain ⟨v,r,rfl,h1,v',r',rfl,h2,v2,r2,rfl,h3,rfl⟩:=h;exact ⟨v,v',v2,rfl,h1,h2,h3⟩
def zhQ(i j k:Nat)(f:FA):FS:=fun Z s=>(f Z s).bind fun ds s1=>match ds with | [x,y,z]=>.ok (.nx (((Z.set i (some x)).set j (some y)).set k (some z))) s1 | _=>.no
def zf9:List D->Sto->R D
 | [d],s=>match (zL s d).bind intsOf with | some ns=>.ok (.int ns.sum) s | none=>.no
 | _,_=>.no
theorem zib(hc:X.calm=true):∃ r,wl X (.builtin "sum") r/\kO X E r zf9:=⟨_,zai hc,fun H Y s ds vs Q r hd h=>by
 unfold zf9 at h;split at h
 ·rename_i d;split at h
  ·rename_i ns e;obtain ⟨xs,e1,e2⟩:=Option.bind_eq_some_iff.mp e;have:=qd e2;subst this;obtain ⟨v,rfl,dn⟩:=z28 hd;obtain ⟨a,ws,rfl,q1,q2⟩:=vA (K:=X.K) r e1 dn;cases qe q2;obtain ⟨b,q⟩:=z71 q1;exact ⟨b,a,ns,rfl,q,h.here r yC⟩
  ·exact h.elim
 ·exact h.elim⟩
def zcH:Nat->List D->List D
 | _,[]=>[] | i,x::xs=>.tup [.int i,x]::zcH (i+1) xs
def zhd(f:FA):FI:=fun Z s=>(f Z s).bind fun ds s1=>match ds with
 | [x]=>match z2O s1 x with
  | some p=>.ok (zcH 0 p.1,p.2) s1 | none=>.no
 | _=>.no
end
section
variable (i j k:Nat)(Z:Ev)(s:Sto)(ar:FA)
@[simp] theorem zhB:zhQ i j k ar Z s=(ar Z s).bind fun ds s1=>match ds with | [x,y,z]=>.ok (.nx (((Z.set i (some x)).set j (some y)).set k (some z))) s1 | _=>.no:=id rfl
@[simp] theorem zi6:zhd ar Z s=(ar Z s).bind fun ds s1=>match ds with
 | [x]=>match z2O s1 x with
  | some p=>.ok (zcH 0 p.1,p.2) s1 | none=>.no
 | _=>.no:=id rfl
end
end Dd
namespace L2
open PySem.Spec
def zcf(n:Nat):List V:=(List.range n).map fun k=>V.int ((k:Nat):Int)
theorem jo:∀ {xs:List V}{us:List Value},us.length=xs.length->(∀ (j:Nat) u,us[j]? = some u->∃ x,xs[j]? = some x/\xn x u)->xp xs us
 | [],[],_,_=>.nil | [],_::_,h,_=>by simp at h | _::_,[],h,_=>by simp at h | x::xs,u::us,h,k=>by
  obtain ⟨y,e,r⟩:=k 0 u (by simp);have:y=x:=by simpa using e.symm
  subst this;exact .cons r (jo (by simpa using h) fun j v hv=>k (j+1) v (by simpa using hv))
theorem z57 {X:Cx} {a:Expr} {ta:TA} {p p2 pos pos2:Pos} (hc:X.calm=true) (hg:Gl X "list") (hm:X.mg "list"=none) (hg2:Gl X "range") (hm2:X.mg "range"=none) (ha:PA X [a] ta) (hs2:starEach [a] X.env=[(false,eval a X.env)]:=by rfl) (hs:starEach [.Call (.Name "range" p2) [a] [] pos2] X.env=(false,eval (.Call (.Name "range" p2) [a] [] pos2) X.env)::starEach [] X.env:=by rfl) (hpl:(backTo pos (starEach [] X.env)).any (·.1)=false:=by rfl): PE X (.Call (.Name "list" p) [.Call (.Name "range" p2) [a] [] pos2] [] pos) (fun O H Q=>ta O H fun vs H1=>∃ j:Int,vs=[.int j]/\0<=j/\j<=1000/\∀ l,H1 l=none->Q (.ref l) (upd H1 l (.lst (zcf j.toNat)))):=by
 intro pins s O H Q I h;refine wpAny_Call_Name_kw (jX I hg hm (u:=.type "list") (by decide +kernel) ?_ (by decide) (by decide));refine PyProof.Rows.callWith_type1 ?_ hs hpl;rw [hs];show wpAny _ _ (spliced ((false,eval (.Call (.Name "range" p2) [a] [] pos2) X.env)::backTo pos (starEach [] X.env))) _ _ s;refine Calls.spliced_cons (wpAny_Call_Name_kw (jX I hg2 hm2 boot_range (PyProof.Rows.callWith_type1 (thn (ha pos2 pins s O H _ I h) fun us s1 ⟨vs,H1,I1,r1,q1⟩=>?_) hs2 rfl) (by decide) (by decide)));obtain ⟨j,e,q0,q2,q⟩:=q1;subst e;obtain ⟨u,rfl,⟨t,rfl⟩⟩:=vals1 r1;refine call_range_1 (Calls.spliced_nil ?_);have hsz:Builtin.Range.rangeSize 0 j 1=((j.toNat:Nat):Int):=by rw [rangeSize_one];split<;>omega
 refine call_list_range (I.ok.hd hc) (IsRange.new ..) (small_one (by omega) (by omega) (by omega) (by omega)) hsz (by omega) fun h' tk acc c' hk hS hacc=>?_;have I2:Inv X pins O H1 {s1 with heap:=s1.heap.push {cls:=.type "range",data:=.fields #[.int 0 s1.toks,.int j t,.int 1 (s1.toks+1)]},toks:=s1.toks+1+1}:=I1.kept fun b o e=>Heap.get?_push_of_some _ e;have hl:(zcf j.toNat).length=j.toNat:=by simp [zcf]
 have hv:xp (zcf j.toNat) acc.toList:=jo (by simp [hacc.1,hl]) fun i v hv=>by
  obtain ⟨tk2,rfl⟩:=hacc.2 i v (by simpa using hv);have hi:i<j.toNat:=by
   have:=(List.getElem?_eq_some_iff.mp hv).1;simp [hacc.1] at this;omega
  exact ⟨.int i,by simp [zcf,hi],⟨tk2,by simp⟩⟩
 refine ⟨.ref _,upd H1 _ (.lst (zcf j.toNat)),I2.laid (t':=tk) hk (Nat.le_refl _) ?_,rfl,q _ (I2.hok.fresh (Nat.le_refl _))⟩;exact ⟨by rw [hl];exact Nat.le_trans (show j.toNat<=1000 by omega) (by decide),acc.toList,c',hv,by simpa using hS⟩
end L2
namespace Dd
open PySem.Spec L2
section
variable {X:Cx}{E:XK}{a:Expr}{pos:Pos}
theorem zbb{mg:Gm}{H:Hp}{Y:List Addr}(n:Nat):zA mg H Y (yJ n) (zcf n):=by
 unfold yJ zcf;induction (List.range n) with
 | nil=>exact zA.nil | cons k ks ih=>exact zA.cons yC ih
def eLR(f:FA):FE:=fun Z s=>(f Z s).bind fun ds s1=>match ds with
 | [.int j]=>if 0<=j/\j<=1000 then .ok (.lst (yJ j.toNat)) s1 else .no | _=>.no
theorem z6e{p p2 pos2:Pos}{f:FA}(hc:X.calm=true)(hg:Gl X "list")(hm:X.mg "list"=none)(hg2:Gl X "range")(hm2:X.mg "range"=none)(ha:RA X E [a] f) (hs2:starEach [a] X.env=[(false,eval a X.env)]:=by rfl) (hs:starEach [.Call (.Name "range" p2) [a] [] pos2] X.env=(false,eval (.Call (.Name "range" p2) [a] [] pos2) X.env)::starEach [] X.env:=by rfl)(hpl:(backTo pos (starEach [] X.env)).any (·.1)=false:=by rfl): RE X E (.Call (.Name "list" p) [.Call (.Name "range" p2) [a] [] pos2] [] pos) (eLR f):= yw (z57 hc hg hm hg2 hm2 ha hs2 hs hpl).freeze fun O H Q ⟨Y,Z,s,r,en,h⟩=>by
  unfold eLR at h;refine ⟨Y,Z,s,r,en,(okR.bind (Dn:=zA (gm X)) h).imp fun vs H1 ⟨Y1,s1,ds,stp,dn,h1⟩=>?_⟩;split at h1
  ·rename_i j;split at h1
   ·rename_i hj;obtain ⟨v,rfl,d1⟩:=z28 dn;cases yg d1;exact ⟨j,rfl,hj.1,hj.2,z2v stp.rep h1 (zbb _)⟩
   ·exact h1.elim
  ·exact h1.elim
@[simp] theorem zhq (f:FA)(Z:Ev)(s:Sto):eLR f Z s=(f Z s).bind fun ds s1=>match ds with
 | [.int j]=>if 0<=j/\j<=1000 then .ok (.lst (yJ j.toNat)) s1 else .no | _=>.no:=id rfl
end
def ve(ft:FT)(fb:FS):Nat->Ev->Sto->R Fl
 | 0,_,_=>.no | k+1,Z,s=>(ft Z s).bind fun b s1=>if b=true then (fb Z s1).bind fun fl s2=>match fl with
   | .nx Z'=>ve ft fb k Z' s2 | .ct Z'=>ve ft fb k Z' s2 | .bk Z'=>.ok (.nx Z') s2 | .rt d=>.ok (.rt d) s2 else .ok (.nx Z) s1
theorem kI{ft:FT}{fb:FS}:∀ {k:Nat}{Z:Ev}{s:Sto},ve ft fb k Z s≠.no->ve ft fb (k+1) Z s=ve ft fb k Z s
 | 0,Z,s,h=>absurd rfl h | k+1,Z,s,h=>by
  rw [ve] at h ⊢;conv=>rhs;rw [ve]
  cases e:ft Z s with
  | no=>rfl | ex c t=>rfl | ok b s1=>
   rw [e] at h;simp only [R.bind_ok] at h ⊢;cases b with
   | false=>rfl | true=>
    rw [if_pos rfl] at h ⊢;rw [if_pos rfl];cases e2:fb Z s1 with
    | no=>rfl | ex c t=>rfl | ok fl s2=>
     rw [e2] at h;simp only [R.bind_ok] at h ⊢;cases fl with
     | nx Z'=>exact kI h | ct Z'=>exact kI h | bk Z'=>rfl | rt d=>rfl
theorem z74{ft:FT}{fb:FS}{k m:Nat}{Z:Ev}{s:Sto}(h:ve ft fb k Z s≠.no)(hm:k<=m):ve ft fb m Z s=ve ft fb k Z s:=by induction hm with
 | refl=>rfl | step _ ih=>rw [kI (by rw [ih];exact h),ih]
open Classical in
def z2Z(ft:FT)(fb:FS):FS:=fun Z s=>if h:∃ k,ve ft fb k Z s≠.no then ve ft fb h.choose Z s else .no
theorem z7k{ft:FT}{fb:FS}{k:Nat}{Z:Ev}{s:Sto}{r:R Fl}(h:ve ft fb k Z s=r)(hr:r≠.no):z2Z ft fb Z s=r:=by
 subst h;have hx:∃ k,ve ft fb k Z s≠.no:=⟨k,hr⟩;unfold z2Z;rw [dif_pos hx];rcases Nat.le_total k hx.choose with z | z;·exact z74 hr z
 ·exact (z74 hx.choose_spec z).symm
theorem z9m {X:Cx} {E:XK} {c:Expr} {body:List Stmt} {pos:Pos} {ft:FT} {fb:FS} (hp:PassesOwn (model X.prog X.w) X.A X.env X.xe) (hc:RT X E c ft) (hb:RSs X E body fb):RS X E (.While c body [] pos) (z2Z ft fb):= uJ (zbK hp hc hb) fun D O H ⟨Y,Z,s,r,en,h⟩=>by
  unfold z2Z at h;split at h
  ·rename_i hx;refine ⟨fun m O H=>∃ Y Z s,Rep (gm X) H Y s/\ud (gm X) H Y Z O/\okR (gm X) E H Y (FlD (gm X)) (ve ft fb m Z s) (z3F D),⟨_,Y,Z,s,r,en,h⟩,?_⟩;rintro m O H ⟨Y,Z,s,r,en,h⟩;cases m with
   | zero=>exact h.elim | succ m=>
    rw [ve] at h;refine ⟨Y,Z,s,r,en,(okR.bind (Dn:=bD) h).imp fun b H1 ⟨Y1,s1,b',stp,eb,h1⟩=>?_⟩;cases (show b'=b from eb);cases b with
    | false=>
     rw [if_neg (by decide)] at h1 ⊢;exact okR.here (b:=FlV.nx O) (Q:=z3F D) h1 stp.rep (en.mono stp) | true=>
     rw [if_pos rfl] at h1 ⊢;refine ⟨fun O' H'=>∃ Y Z s,Rep (gm X) H' Y s/\ud (gm X) H' Y Z O'/\okR (gm X) E H' Y (FlD (gm X)) (ve ft fb m Z s) (z3F D),fun O' H' q=>⟨m,Nat.lt_succ_self _,q⟩,Y1,Z,s1,stp.rep,en.mono stp,(okR.bind (Dn:=FlD (gm X)) h1).imp fun fv H2 ⟨Y2,s2,fl,stp2,dn,h2⟩=>?_⟩;cases fl with
     | nx Z'=> cases fv with
      | nx O'=>exact ⟨Y2,Z',s2,stp2.rep,dn,h2⟩ | _=>exact (show False from dn).elim
     | ct Z'=> cases fv with
      | ct O'=>exact ⟨Y2,Z',s2,stp2.rep,dn,h2⟩ | _=>exact (show False from dn).elim
     | bk Z'=> cases fv with
      | bk O'=>exact okR.here (b:=FlV.nx O') (Q:=z3F D) (a:=Fl.nx Z') (s:=s2) h2 stp2.rep dn | _=>exact (show False from dn).elim
     | rt d=> cases fv with
      | rt v=>exact okR.here (b:=FlV.rt v) (Q:=z3F D) (a:=Fl.rt d) (s:=s2) h2 stp2.rep dn | _=>exact (show False from dn).elim
  ·exact h.elim
end Dd
namespace PySem
open PySem.AutoSeq1 (wpAny_loadPart')
open MeetsSeq MeetsSeq2 SeqAt
theorem z7V{M:Model}{A:Around}{E:Value->Shared->Prop}{s:Shared}{β:Type}(f:Nat->β->Sem (ForInStep β))(I:Nat->β->Shared->Prop)(Q:β->Shared->Prop)(n:Nat) (turn:∀ i b s,i<n->I i b s->wpAny M A (f i b) (fun r s'=>match r with | .yield b'=>I (i+1) b' s' | .done b'=>Q b' s') E s) (fin:∀ b s,I n b s->Q b s)(b:β)(h:I 0 b s):wpAny M A (forIn ([0:n]:Std.Legacy.Range) b f) Q E s:=by
 rw [Std.Legacy.Range.forIn_eq_forIn_range'];simp only [Std.Legacy.Range.size,Nat.sub_zero,Nat.add_sub_cancel,Nat.div_one];refine wpAny_forIn_list f (fun rest b s'=>∃ i,rest=List.range' i (n-i)/\i<=n/\I i b s') _ ?_ ?_ _ _ ⟨0,by simp,Nat.zero_le _,h⟩
 ·rintro x rest b s' ⟨i,hr,hi,hI⟩;have hlt:i<n:=by
   rcases Nat.lt_or_ge i n with h | h;·exact h
   ·rw [Nat.sub_eq_zero_of_le h] at hr;simp at hr
  obtain ⟨rfl,hrest⟩:x=i/\rest=List.range' (i+1) (n-(i+1)):=by
   have e:n-i=(n-(i+1))+1:=by omega
   rw [e,List.range'_succ] at hr;injection hr with h1 h2;exact ⟨h1,h2⟩
  refine wpAny_mono (turn x b s' hlt hI) (fun r s2 hr=>?_) fun _ _ h'=>h';cases r with
  | done b'=>exact hr | yield b'=>exact ⟨x+1,hrest,hlt,hr⟩
 ·rintro b s' ⟨i,hr,hi,hI⟩;have:i=n:=by
   have:=congrArg List.length hr;simp at this;omega
  subst this;exact fin _ _ hI
theorem z2a (l:Addr) (items:Array Value) (n:Nat) (dd:Option Addr) (sl:Array (Option Value)) (x:Value) (e:Value->Bool) (j:Nat) (hj:j<items.size) (hit:e items[j]=true) (hno:∀ m (hm:m<items.size),m<j->e items[m]=false): Meets (Builtin.«tuple.index» ⟨[.ref l,x],[]⟩) (fun A R s=>s.heap.get? l=some {cls:=.type "tuple",dict:=dd,data:=.seq items n,slots:=sl}/\(∀ y,y∈items->EqAt A.in1 s y x (e y))/\R (.ok (.ret (.int j s.toks))) {s with toks:=s.toks+1}):= .of_wp fun prog w A R s h=>by
  obtain ⟨hp,g,d,tk,os⟩:=s;obtain ⟨hl,he,h⟩:=h;have hm:min items.size items.size=items.size:=Nat.min_self _;wp_walk using wpAny_loadPart' hl,z7V _ (fun i b s'=>b.1=none/\s'=⟨hp,g,d,tk,os⟩/\i<=j) _ _;case turn=>
   rintro i ⟨b1,b2⟩ s' hi ⟨hb,rfl,hij⟩;simp only at hb;subst hb;rw [hm] at hi;rw [Array.getElem?_eq_getElem hi];refine wpAny_bind (he _ (Array.getElem_mem hi) prog w _ _ ?_);rcases Nat.lt_or_eq_of_le hij with lt | rfl
   ·rw [hno i hi lt];wp_walk;exact ⟨rfl,rfl,lt⟩
   ·rw [hit];wp_walk;exact ⟨_,rfl,h⟩
  case fin=>
   rintro ⟨b1,b2⟩ s' ⟨hb,rfl,hij⟩;rw [hm] at hij;omega
  case h=>exact ⟨rfl,rfl,Nat.zero_le _⟩
end PySem
namespace L2
open PySem.Spec
section
variable {X:Cx}{o e:Expr}{to:TE}{t:TA}{name:Str}{apos cpos:Pos}{id:String}{r:V->List V->Hp->VK->Prop}
theorem zeS(slot:Slot "tuple" name id)(hty:typeOf (.builtin id)=pure (.type "method_descriptor"))(hm:MtR X id r)(ho:PE X o to)(ha:PA X [e] t) (hbase:attributeBase o name X.env (eval o X.env)=eval o X.env:=by rfl) (hfew:((backTo cpos (starEach [e] X.env)).all (fun x=>!x.1)&&(backToKw cpos (keywordEach [] X.env)).all (fun x=>x.1.isSome) && decide ([e].length+([]:List Keyword).length+(if ([]:List Keyword).isEmpty then 0 else 1)<30))=true:=by rfl) (hline:(apos.endLine==cpos.line)=true:=by rfl)(hs:starEach [e] X.env=(false,eval e X.env)::starEach [] X.env:=by rfl)(hplain:(backTo cpos (starEach [] X.env)).any (·.1)=false:=by rfl): PE X (.Call (.Attribute o name apos) [e] [] cpos) (fun O H Q=>to O H fun x H1=>(∃ p vs,x=.ref p/\H1 p=some (.tup vs))/\t O H1 fun xs H2=>r x xs H2 Q):=by
 intro pins s O H Q I h;refine wpAny_Call_method_late hbase hfew hline rfl (thn (ho pins s O H _ I h) fun v s1 ⟨x,H1,I1,r1,ty,q1⟩=>?_);obtain ⟨p,vs,rfl,hp⟩:=ty;cases r1;obtain ⟨_,its,_,ob,e1,c1,d1,n,w1⟩:=I1.hok p _ hp;refine ⟨"tuple",id,PySem.F.plainAttrs_tuple,slot,hty,⟨ob,e1,c1⟩,fun a e=>?_,?_⟩
 ·cases e;exact ⟨ob,e1,d1⟩
 have hA:=ha cpos pins s1 O H1 _ I1 q1;rw [hs] at hA ⊢;refine Calls.callWith_builtin (by show (false||(backTo cpos (starEach [] X.env)).any (·.1))=false;rw [hplain]<;>rfl) (Calls.evalArgs_plain ?_);exact thn hA fun us s2 ⟨vs,H2,I2,r2,q2⟩=>hm pins s2 O H2 (.ref p) vs _ us Q I2 rfl r2 q2
theorem kY:∀ {ns:List Int}{its:List Value},xp (ns.map V.int) its->IntsAre its ns
 | [],_,.nil=>.nil | n::ns,_,.cons r rs=>by
  obtain ⟨t,rfl⟩:=r;exact .cons n t (kY rs)
def ziu:V->List V->Hp->VK->Prop:=fun x vs H Q=>∃ (p:Addr)(ns:List Int)(k:Int),x=.ref p/\vs=[.int k]/\H p=some (.tup (ns.map V.int))/\k∈ns/\Q (.int (ns.idxOf k:Nat)) H
theorem z6j:MtR X "tuple.index" ziu:=by
 intro pins s O H x vs v us Q I rx rv h;obtain ⟨p,ns,k,rfl,rfl,hp,hk,q⟩:=h;cases rx;obtain ⟨u,rfl,⟨t,rfl⟩⟩:=vals1 rv;obtain ⟨_,its,r,ob,e1,c1,d1,n,w1⟩:=I.hok p _ hp;have hi:=kY r;have hlen:=hi.length;have hj:ns.idxOf k<ns.length:=List.idxOf_lt_length_iff.mpr hk;obtain ⟨cls,dd,data,sl⟩:=ob;simp only at c1 d1 w1;subst c1 d1 w1;refine call_meets PySem.F.slot_tuple_index ⟨_,e1,rfl⟩ PySem.F.entry_tuple_index (PySem.F.args_tuple_index_2 _ _) (z2a p its.toArray n _ sl (.int k t) (isInt k) (ns.idxOf k) (by simpa [hlen] using hj) ?_ ?_) ⟨e1,fun y hy=>(eq_isInt k t hi y (by simpa using hy)).at _ _,?_⟩
 ·show isInt k its[ns.idxOf k]=true;rw [isInt_at k hi _ (by omega) hj];simpa using List.getElem_idxOf hj
 ·intro j hjs hlt;show isInt k its[j]=false;rw [isInt_at k hi j (by simpa using hjs) (by omega)];exact ne_of_lt_idxOf hlt _
 ·exact ⟨.int (ns.idxOf k:Nat),H,I.kept (fun b o e=>e),⟨s.toks,rfl⟩,q⟩
end
end L2
namespace Dd
open PySem.Spec L2
section
variable {X:Cx}{E:XK}{o e:Expr}{pos:Pos}
def zbM(fo fv:FE):FE:=fun Z s=>(fo Z s).bind fun o s1=>match o with
 | .tup ds=>(fv Z s1).bind fun d s2=>match intsOf ds,d with
  | some ns,.int k=>if k∈ns then .ok (.int (ns.idxOf k:Nat)) s2 else .no | _,_=>.no
 | _=>.no
theorem z6i{apos:Pos}{fo fv:FE}(ho:RE X E o fo)(hv:RE X E e fv)(hbase:attributeBase o "index" X.env (eval o X.env)=eval o X.env:=by rfl) (hfew:((backTo pos (starEach [e] X.env)).all (fun x=>!x.1)&&(backToKw pos (keywordEach [] X.env)).all (fun x=>x.1.isSome) && decide ([e].length+([]:List Keyword).length+(if ([]:List Keyword).isEmpty then 0 else 1)<30))=true:=by rfl) (hline:(apos.endLine==pos.line)=true:=by rfl)(hs:starEach [e] X.env=(false,eval e X.env)::starEach [] X.env:=by rfl)(hplain:(backTo pos (starEach [] X.env)).any (·.1)=false:=by rfl): RE X E (.Call (.Attribute o "index" apos) [e] [] pos) (zbM fo fv):= yw (zeS PySem.F.slot_tuple_index PySem.F.type_tuple_index z6j ho (z1u hv z76 hs) hbase hfew hline hs hplain) fun O H Q ⟨Y,Z,s,r,en,h⟩=>by
  unfold zbM at h;refine ⟨Y,Z,s,r,en,(okR.bind (Dn:=Den (gm X)) h).imp fun ov H1 ⟨Y1,s1,od,stp,dn,h1⟩=>?_⟩;cases od with
  | tup ds=>
   simp only at h1;have hty:∃ p vs,ov=.ref p/\H1 p=some (.tup vs):=by
    simp only [Den] at dn;obtain ⟨a,vs,rfl,e1,_⟩:=dn;exact ⟨a,vs,rfl,e1⟩
   refine ⟨hty,⟨Y1,Z,s1,stp.rep,en.mono stp,(okR.bind (Dn:=Den (gm X)) h1).imp fun v H2 ⟨Y2,s2,d,stp2,dn2,h2⟩=>?_⟩⟩;split at h2
   ·rename_i ns k ei;split at h2
    ·rename_i hk;have dov:=dn.mono stp2;simp only [Den] at dov;obtain ⟨a,vs,rfl,e1,e2⟩:=dov;rw [qd ei] at e2;cases qe e2;cases yg dn2;exact ⟨a,ns,k,rfl,rfl,e1,hk,okR.here h2 stp2.rep yC⟩
    ·exact h2.elim
   ·exact h2.elim | _=>exact h1.elim
@[simp] theorem zeO (fo fv:FE)(Z:Ev)(s:Sto):zbM fo fv Z s=(fo Z s).bind fun o s1=>match o with
 | .tup ds=>(fv Z s1).bind fun d s2=>match intsOf ds,d with
  | some ns,.int k=>if k∈ns then .ok (.int (ns.idxOf k:Nat)) s2 else .no | _,_=>.no
 | _=>.no:=id rfl
end
def zdu(P:Program)(w:World)(K:W.Frag)(mg:Str->Option Value)(x:Str)(tb:List (Str×Str)):Prop:= ∃ a o es ep,mg x=some (.ref a)/\(a==sysModules)=false/\K.lookup a=some o/\o.ExactDict/\o.data=.dict es ep/\PySem.KeysOf (ya P w) es/\ (∀ k y,tb.lookup k=some y->∃ f,findBy (ya P w).is es (.inr k)=some (.ref f)/\mg y=some (.ref f))/\∀ k,tb.lookup k=none->findBy (ya P w).is es (.inr k)=none
theorem z4o{P:Program}{w:World}{k:Str}{u:Value}(r:xn (.str k) u):(ya P w).is (.inr k) u=true:=by
 obtain ⟨t,e⟩:=(show ∃ t,u=Value.str k t from r);subst e;exact z1G k t
section
variable {X:Cx}{E:XK}{e a b c:Expr}{es:List Expr}{pos:Pos}{CX:CXT}
theorem z6G{pins:List (Addr×Obj)}{O:L2.St}{H:Hp}{s:Shared}{o:Obj}{d:Addr}{en:Array DictEntry}{ep:Nat}(I:Inv X pins O H s)(hk:X.K.lookup d=some o)(hx:o.ExactDict)(hd:o.data=.dict en ep)(ks:PySem.KeysOf (ya X.prog X.w) en): s.heap.MapOf (ya X.prog X.w) d (fun k=>findBy (ya X.prog X.w).is en k):=⟨o,en,ep,I.kIn d o hk,hx,hd,ks,fun _=>rfl⟩
def zgT(tb:List (Str×Str))(f:FE):FE:=fun Z s=>(f Z s).bind fun d s1=>match d with
 | .str k=>match tb.lookup k with | some y=>.ok (.fn y) s1 | none=>.no
 | _=>.no
theorem zhs{x:Str}{p:Pos}{tb:List (Str×Str)}{f:FE}(hT:zdu X.prog X.w X.K X.mg x tb)(hg:Gl X x)(he:RE X E e f)(hs:z6a e)(hdb:(x==("__debug__":Str))=false:=by decide): RE X E (.Subscript (.Name x p) e pos) (zgT tb f):=by
 obtain ⟨d,o,en,ep,hm,hsm,hk,hx,hd,ks,h1,h2⟩:=hT;refine yw (zfC (r:=fun v y H Q=>v=.ref d/\∃ k g,y=.str k/\findBy (ya X.prog X.w).is en (.inr k)=some (.ref g)/\Q (.ref g) H) ?_ (z6d hg hm (show xn (.ref d) (.ref d) from rfl) hdb) he hs) fun O H Q ⟨Y,Z,s,r,en',h⟩=>?_
 ·intro value slice pins s O H v y u u2 Q I rx ry h hs2;obtain ⟨rfl,k,g,rfl,hf,q⟩:=h;cases rx;have mp:=z6G I hk hx hd ks;exact subscriptTail_builtinR (x:=.ref g) mp.typeIs PySem.F.slot_dict_getitem.lookup (wpAny_getItem_of (Q:=fun r s'=>r=.ref g/\EP X pins O Q r s') (z4o ry) mp hf ⟨rfl,.ref g,H,I.tok _,rfl,q⟩) hs2
 ·unfold zgT at h;refine ⟨Y,Z,s,r,en',(okR.bind (Dn:=Den (gm X)) h).imp fun v H1 ⟨Y1,s1,dd,stp,dn,q⟩=>?_⟩;split at q
  ·rename_i k;split at q
   ·rename_i y hy;obtain ⟨g,e1,e2⟩:=h1 k y hy;cases z3b dn;exact ⟨rfl,k,g,rfl,e1,okR.here (b:=V.ref g) q stp.rep (by simp only [Den];exact ⟨g,rfl,e2⟩)⟩
   ·exact q.elim
  ·exact q.elim
def z7i(tb:List (Str×Str))(neg:Bool)(f:FE):FE:=fun Z s=>(f Z s).bind fun d s1=>match d with
 | .str k=>.ok (.bl (xor neg (tb.lookup k).isSome)) s1 | _=>.no
theorem ze7{x:Str}{p:Pos}{tb:List (Str×Str)}{f:FE}(hT:zdu X.prog X.w X.K X.mg x tb)(hg:Gl X x)(he:RE X E e f)(hm':behindInMarks .In (.Name x p)=false:=by rfl)(hdb:(x==("__debug__":Str))=false:=by decide): RE X E (.Compare e [.In] [.Name x p] pos) (z7i tb false f):=by
 obtain ⟨d,o,en,ep,hm,hsm,hk,hx,hd,ks,h1,h2⟩:=hT;refine yw (za4 (r:=fun y v H Q=>v=.ref d/\∃ k,y=.str k/\Q (.bl (findBy (ya X.prog X.w).is en (.inr k)).isSome) H) ?_ he (z6d hg hm (show xn (.ref d) (.ref d) from rfl) hdb) hm') fun O H Q ⟨Y,Z,s,r,en',h⟩=>?_
 ·intro pins s O H y v u u2 Q I ry rx h;obtain ⟨rfl,k,rfl,q⟩:=h;cases rx;exact wpAny_in_of (z4o ry) hsm (z6G I hk hx hd ks) ⟨.bl _,H,I.tok _,rfl,q⟩
 ·unfold z7i at h;refine ⟨Y,Z,s,r,en',(okR.bind (Dn:=Den (gm X)) h).imp fun v H1 ⟨Y1,s1,dd,stp,dn,q⟩=>?_⟩;split at q
  ·rename_i k;cases z3b dn;have e0:(findBy (ya X.prog X.w).is en (.inr k)).isSome=(tb.lookup k).isSome:=by cases z:tb.lookup k with
    | none=>rw [h2 k z];rfl | some y=>obtain ⟨g,e1,_⟩:=h1 k y z;rw [e1];rfl
   exact ⟨rfl,k,rfl,okR.here (b:=V.bl _) q stp.rep (by simp [Den,e0])⟩
  ·exact q.elim
def z6Z(i:Nat)(Ms:List (Str×Mir))(f:FA):FE:=fun Z s=>match Z[i]? with
 | some (some (.fn y))=>match Ms.lookup y with
  | some M=>(f Z s).bind fun xs s1=>M xs s1 | none=>.no
 | _=>.no
theorem ze6 (i:Nat) {x:Str} {p:Pos} {n:Nat} {Ms:List (Str×Mir)} {f:FA} (F:∀ y M,Ms.lookup y=some M->Has X.prog X.w X.K X.mg X.base CX y n M) (hr:z0B n X.A) (hxx:Passes CX X E) (ha:RA X E (e::es) f) (hN:X.N[i]? = some x:=by rfl) (hv:Vis X.env.scope x:=by first | exact Or.inl rfl | exact Or.inr (Or.inl rfl) | exact Or.inr (Or.inr rfl)) (hd:(x==("__debug__":Str))=false:=by decide) (hcd:(x==("__classdict__":Str))=false:=by decide) (he:starEach (e::es) X.env=(false,eval e X.env)::starEach es X.env:=by rfl) (hpl:(backTo pos (starEach es X.env)).any (·.1)=false:=by rfl):RE X E (.Call (.Name x p) (e::es) [] pos) (z6Z i Ms f):=by
 intro pins s O H Q I ⟨Y,Z,st,r,en,h⟩;unfold z6Z at h;split at h
 ·rename_i y hy;split at h
  ·rename_i M hM;obtain ⟨v,hv1,dv⟩:=en.at_ i (.fn y) hy;simp only [Den] at dv;obtain ⟨g,rfl,hmg⟩:=dv;obtain ⟨fa,fd,ps,Fk,hb,hk,hm⟩:=F y M hM;have e0:g=fa:=by rw [hmg] at hm;cases hm;rfl
   subst e0;refine wpAny_Call_Name_kw (thn (zce (pos:=p) hN hv hd hcd pins s O H (fun v H1=>v=.ref g/\H1=H) I ⟨.ref g,hv1,rfl,rfl⟩) fun u s1 ⟨v,H1,I1,r1,e1,e2⟩=>?_);subst e1 e2;cases r1;have hA:=ha pos pins s1 O H1 (fun vs H2=>zcZ (gm X) M (vs++[]) H2 Q E) I1 (ug (k:=fun Z xs s1=>M xs s1) r en h _ fun vs H2 Y2 s2 ds r2 en2 dn2 stp2 h3=>by
    rw [List.append_nil];exact ⟨Y2,s2,ds,r2,dn2,h3⟩);refine W.callWith_K (h₀:=X.base) I1.ok.mod.kin hk (thn hA fun us s2 ⟨vs,H2,I2,r2,q⟩=>⟨I2.kIn,?_⟩) he hpl;exact zav Fk hr hb .nil hxx I2 r2 q
  ·exact h.elim
 ·exact h.elim
@[simp] theorem ziE (tb:List (Str×Str))(f:FE)(Z:Ev)(s:Sto):zgT tb f Z s=(f Z s).bind fun d s1=>match d with
 | .str k=>match tb.lookup k with | some y=>.ok (.fn y) s1 | none=>.no
 | _=>.no:=id rfl
@[simp] theorem zgU (tb:List (Str×Str))(neg:Bool)(f:FE)(Z:Ev)(s:Sto):z7i tb neg f Z s=(f Z s).bind fun d s1=>match d with
 | .str k=>.ok (.bl (xor neg (tb.lookup k).isSome)) s1 | _=>.no:=id rfl
@[simp] theorem zbj (i:Nat)(Ms:List (Str×Mir))(f:FA)(Z:Ev)(s:Sto):z6Z i Ms f Z s=match Z[i]? with
 | some (some (.fn y))=>match Ms.lookup y with
  | some M=>(f Z s).bind fun xs s1=>M xs s1 | none=>.no
 | _=>.no:=id rfl
end
theorem wd.cut{mg:Gm}{H H1:Hp}{Y Y1:List Addr}{s1:Sto}(stp:wd mg H Y H1 Y1 s1):wd mg H Y H1 (Y1.take Y.length) (s1.take Y.length):=by
 have fl:∀ {ds:List D}{ws:List V},D.flat.flats ds=true->zA mg H1 Y1 ds ws->zA mg H1 (Y1.take Y.length) ds ws:=fun f h=>h.flatten (fun _ _ h _ _=>h) f;refine ⟨⟨by simp [stp.rep.len],stp.rep.nd.sublist (List.take_sublist _ _),fun j ys h=>?_,fun ys h=>stp.rep.flat ys (List.mem_of_mem_take h)⟩,?_,stp.keep,fun c h1 h2=>stp.new c (List.mem_of_mem_take h1) h2,stp.mt⟩
 ·have hj:j<Y.length:=by
   have:=(List.getElem?_eq_some_iff.mp h).1;simp at this;omega
  rw [List.getElem?_take_of_lt hj] at h ⊢;obtain ⟨c,q1,q2⟩:=stp.rep.cell j ys h;exact ⟨c,q1,q2.flatten (fun _ _ h _ _=>h) (stp.rep.flat _ (List.mem_of_getElem? h)) rfl⟩
 ·obtain ⟨t,ht⟩:=stp.pre;exact ⟨[],by rw [<- ht,List.take_append];simp⟩
theorem wd.frzC{mg:Gm}{H H1:Hp}{Y Y1:List Addr}{s1:Sto}{l:Nat}{xs:List D}(stp:wd mg H Y H1 Y1 s1){a:Addr}(hl:Y.length<=l)(hx:s1[l]? = some xs)(e1:Y1[l]? = some a)(ka:IsL H1 a):∃ vs,H1 a=some (.lst vs)/\ ∀ o,wd mg H Y (upd H1 a (.frz o (.lst vs))) (Y1.take Y.length) (s1.take Y.length)/\Den mg (upd H1 a (.frz o (.lst vs))) (Y1.take Y.length) (.lst xs) (.ref a):=by
 obtain ⟨vs,e2,e3⟩:=stp.rep.at_ hx e1 ka;refine ⟨vs,e2,fun o=>?_⟩;have il:l<Y1.length:=(List.getElem?_eq_some_iff.mp e1).1;have an:a∉Y:=fun z=>by
  obtain ⟨j,hj,ej⟩:=List.mem_iff_getElem.mp z;obtain ⟨t,ht⟩:=stp.pre;have:Y1[j]? = some a:=by rw [<- ht,List.getElem?_append_left hj,List.getElem?_eq_getElem hj,ej]
  have:=(List.getElem_inj stp.rep.nd).mp (((List.getElem?_eq_some_iff.mp this).2).trans ((List.getElem?_eq_some_iff.mp e1).2).symm);omega
 have a0:H a=none:=stp.new a (List.mem_of_getElem? e1) an;have k:∀ b u,H1 b=some u->(∀ vs,u≠.lst vs)->(∀ kvs,u≠.dT kvs)->upd H1 a (.frz o (.lst vs)) b=some u:=fun b u h hn _=>by rw [zH (fun z=>by subst z;rw [e2] at h;exact hn vs (Option.some.inj h).symm)];exact h
 have fl:∀ {ds:List D}{ws:List V},D.flat.flats ds=true->zA mg H1 Y1 ds ws->zA mg (upd H1 a (.frz o (.lst vs))) (Y1.take Y.length) ds ws:=fun f h=>h.flatten k f;have mem:∀ {j:Nat}{ys:List D},s1[j]? = some ys->D.flat.flats ys=true:=fun e=>stp.rep.flat _ (List.mem_of_getElem? e);refine ⟨⟨⟨by simp [stp.rep.len],stp.rep.nd.sublist (List.take_sublist _ _),fun j ys h=>?_,fun ys h=>stp.rep.flat ys (List.mem_of_mem_take h)⟩,?_,fun b u h n=>?_,fun c h1 h2=>stp.new c (List.mem_of_mem_take h1) h2,fun b hb=>?_⟩,?_⟩
 ·have hj:j<Y.length:=by
   have:=(List.getElem?_eq_some_iff.mp h).1;simp at this;omega
  rw [List.getElem?_take_of_lt hj] at h ⊢;obtain ⟨c,q1,q2⟩:=stp.rep.cell j ys h;refine ⟨c,q1,q2.flatten k (mem h) (zH fun z=>?_)⟩;subst z;have:=(List.getElem_inj stp.rep.nd).mp (((List.getElem?_eq_some_iff.mp q1).2).trans ((List.getElem?_eq_some_iff.mp e1).2).symm);omega
 ·obtain ⟨t,ht⟩:=stp.pre;exact ⟨[],by rw [<- ht,List.take_append];simp⟩
 ·rw [zH (fun z=>by subst z;rw [a0] at h;cases h)];exact stp.keep b u h n
 ·have ne:b≠a:=fun z=>an (z ▸ hb);rcases stp.mt b hb with ⟨q1,q2⟩ | ⟨q1,q2⟩;·exact .inl ⟨q1,by rw [IsL,zH ne];exact q2⟩
  ·exact .inr ⟨q1,by rw [IsC,zH ne];exact q2⟩
 ·simp only [Den];exact ⟨a,o,vs,rfl,yn,fl (mem hx) e3⟩
def zdh(n:Nat):R D->R D
 | .ok (.loc l) s1=>match s1[l]? with
  | some xs=>if n<=l then .ok (.lst xs) (s1.take n) else .no | none=>.no
 | .ok _ _=>.no | .ex c s1=>.ex c s1 | .no=>.no
def z19(f:FE):FE:=fun Z s=>zdh s.length (f Z s)
section
variable {X:Cx}{E:XK}{e:Expr}
theorem z7v{f:FE}(h:RE X E e f):RE X E e (z19 f):= yw (PE.freeze h) fun O H Q ⟨Y,Z,s,r,en,h⟩=>by
  refine ⟨Y,Z,s,r,en,?_⟩;unfold z19 zdh at h;split at h
  ·rename_i l s1 e1;rw [e1];split at h
   ·rename_i xs ex;split at h
    ·rename_i hl;intro v H1 Y1 stp dn;simp only [Den] at dn;obtain ⟨a,rfl,q1,ka⟩:=dn;obtain ⟨vs,q2,q3⟩:=stp.frzC (by rw [r.len];exact hl) ex q1 ka;rw [<- r.len] at h;exact ⟨a,vs,rfl,q2,fun o=>h _ _ _ (q3 o).1 (q3 o).2⟩
    ·exact h.elim
   ·exact h.elim
  ·exact h.elim
  ·rename_i e1;rw [e1];exact h
  ·exact h.elim
end
@[simp] theorem z38 (f:FE)(Z:Ev)(s:Sto):z19 f Z s=zdh s.length (f Z s):=id rfl
@[simp] theorem z40 {s:Sto}{xs:List D}:zdh s.length (.ok (.loc s.length) (s++[xs]))=.ok (.lst xs) s:=by simp [zdh]
def z7P(n:Nat):R D->R D
 | .ok (.loc l) s1=>if l<n then .ok (.loc l) (s1.take n) else .ok (.loc l) s1 | .ok d s1=>if d.flat=true then .ok d (s1.take n) else .ok d s1 | r=>r
def za7(M:Mir):Mir:=fun ds s=>z7P s.length (M ds s)
theorem zd8{mg:Gm}{M:Mir}{vs:List V}{H:Hp}{Q:VK}{E:XK}(h:zcZ mg (za7 M) vs H Q E):zcZ mg M vs H Q E:=by
 obtain ⟨Y,s,ds,r,dn,h⟩:=h;refine ⟨Y,s,ds,r,dn,?_⟩;unfold za7 z7P at h;split at h
 ·rename_i l s1 e;rw [e];split at h
  ·rename_i hl;intro v H1 Y1 stp dv;rw [<- r.len] at h;refine h v H1 _ stp.cut ?_;simp only [Den] at dv ⊢;obtain ⟨a,rfl,e1,ka⟩:=dv;exact ⟨a,rfl,by rw [List.getElem?_take_of_lt (by rw [r.len];exact hl)];exact e1,ka⟩
  ·exact h
 ·rename_i d s1 hn e;rw [e];split at h
  ·rename_i hf;intro v H1 Y1 stp dv;rw [<- r.len] at h;exact h v H1 _ stp.cut (dv.flatten (fun _ _ h _ _=>h) hf)
  ·exact h
 ·exact h
section
variable {P:Program}{w:World}{K:W.Frag}{mg:Str->Option Value}{base:Heap}
theorem Has.tidy{CX:CXT}{x:Str}{n:Nat}{M:Mir}(h:Has P w K mg base CX x n M):Has P w K mg base CX x n (za7 M):=by
 obtain ⟨f,fd,ps,F,r⟩:=h;exact ⟨f,fd,ps,F.imp fun vs H Q E h=>zd8 h,r⟩
end
@[simp] theorem zdn (M:Mir)(ds:List D)(s:Sto):za7 M ds s=z7P s.length (M ds s):=id rfl
@[simp] theorem z84 {d:D}{n:Nat}{s1:Sto}(h:d.flat=true):z7P n (.ok d s1)=.ok d (s1.take n):=by cases d<;>first | (simp [D.flat] at h;done) | simp_all [z7P]
section
variable {X:Cx}{E:XK}{e a b c:Expr}{es:List Expr}{pos:Pos}{CX:CXT}
theorem zdj{x:Str}{p:Pos}{n:Nat}{M:Mir}(F:Has X.prog X.w X.K X.mg X.base CX x n M)(hr:z0B n X.A)(hx:Passes CX X E)(hg:Gl X x)(hdb:(x==("__debug__":Str))=false:=by decide):RE X E (.Call (.Name x p) [] [] pos) (zd M zp):=by
 obtain ⟨fa,fd,ps,F,hb,hk,hm⟩:=F;refine yw (zaC F hr hg hm hk hb .nil hx hdb) fun O H Q ⟨Y,Z,s,r,en,h⟩=>?_;exact ⟨Y,s,[],r,zA.nil,h⟩
end
section
variable {P:Program}{w:World}{K:W.Frag}{mg:Str->Option Value}{base:Heap}{CX:CXT}{n:Nat}
def zat:List DictEntry->List (Str×Value)
 | []=>[] | e::es=>match e.key with
  | .str k _=>(k,e.val)::zat es | _=>zat es
theorem kB {P:Program} {w:World} {k:Str}:∀ {es:List DictEntry},findBy (ya P w).is es.toArray (.inr k)=(zat es).lookup k
 | []=>by simp [findBy,zat] | e::es=>by
  have ih:=kB (P:=P) (w:=w) (k:=k) (es:=es);simp only [findBy,List.find?_toArray] at ih ⊢;rw [List.find?_cons];cases hk:e.key with
  | str y t=>
   simp only [zat,hk,List.lookup_cons];by_cases z:k=y
   ·subst z;simp [z16]
   ·have:(ya P w).is (.inr k) (.str y t)=false:=by
     rw [z2r];cases q:z3K (.inr k) (.str y t) with
     | false=>rfl | true=>
      rcases yt q with ⟨i,u,h1,h2⟩ | ⟨x,u,h1,h2⟩;·cases h2
      ·cases h1;cases h2;exact absurd rfl z
    rw [this,show (k==y)=false from by simpa using z];exact ih | _=>
   have:(ya P w).is (.inr k) e.key=false:=by
    rw [z2r];cases q:z3K (.inr k) e.key with
    | false=>rfl | true=>
     rcases yt q with ⟨i,u,h1,h2⟩ | ⟨x,u,h1,h2⟩;·cases h1
     ·rw [hk] at h2;cases h2
   rw [hk] at this;simp only [zat,hk,this];exact ih
theorem zaL:∀ y M,([]:List (Str×Mir)).lookup y=some M->Has P w K mg base CX y n M:=fun y M h=>by simp at h
theorem jU{x:Str}{M0:Mir}{Ms:List (Str×Mir)}(h:Has P w K mg base CX x n M0)(hs:∀ y M,Ms.lookup y=some M->Has P w K mg base CX y n M):∀ y M,((x,M0)::Ms).lookup y=some M->Has P w K mg base CX y n M:=fun y M e=>by
 rw [List.lookup_cons] at e;split at e
 ·rename_i hb;cases e;have:y=x:=by simpa using hb
  subst this;exact h
 ·exact hs y M e
end
def Sub(K:W.Frag)(h:Heap):Prop:=∀ p∈K,h.get? p.1=some p.2
theorem Sub.in_{K:W.Frag}{h:Heap}(s:Sub K h):K.In h:=fun a o e=>by induction K with
 | nil=>simp at e | cons p K ih=>
  obtain ⟨b,u⟩:=p;rw [List.lookup_cons] at e;split at e
  ·rename_i hb;cases e;have:a=b:=by simpa using hb
   subst this;exact s (a,o) (by simp)
  ·exact ih (fun q hq=>s q (by simp [hq])) e
theorem z3s(h:Heap)(a:Addr):Sub (z5V h a) h:=fun p hp=>by
 unfold z5V at hp;split at hp
 ·rename_i o e;simp at hp;subst hp;exact e
 ·simp at hp
theorem Sub.app{K L:W.Frag}{h:Heap}(a:Sub K h)(b:Sub L h):Sub (K++L) h:=fun p hp=>(List.mem_append.mp hp).elim (a p) (b p)
theorem zcV(h:Heap)(ns:List Str):Sub (gat h ns) h:=by
 refine (z3s h _).app fun p hp=>?_;obtain ⟨x,_,hx⟩:=List.mem_flatMap.mp hp;unfold ziQ at hx;split at hx
 ·rcases List.mem_append.mp hx with hx | hx;·exact z3s h _ p hx
  ·split at hx
   ·split at hx;·exact z3s h _ p hx
    ·simp at hx
   ·exact z3s h _ p hx
   ·simp at hx
 ·simp at hx
def ziH(K:W.Frag)(x:Str)(st:Stmt):Prop:=∃ f fd,W.nsIn K mainGlobals x=some (some (.ref f))/\Fun K x x st f fd
theorem dA(s:Stmt):dArgs s=kF s:=by cases s<;>rfl
theorem dB(s:Stmt):zfy s=uF s:=by cases s<;>rfl
theorem dS(s:Stmt):zcb s=zg s:=by cases s<;>rfl
theorem zdy{K:W.Frag}{x:Str}{st:Stmt}(h:ze8 K x=zhD x st):ziH K x st:=by
 unfold ze8 zhD at h;rw [dA,dB,dS] at h;split at h
 ·rename_i f hf;split at h
  ·rename_i oc od fd sl hl;simp only [Option.some.injEq,Prod.mk.injEq] at h;obtain ⟨h1,h2,h3,h4,h5,h6,h7,h8,h9,h10,h11⟩:=h;obtain ⟨a1,a2,a3,a4,a5,a6,a7,a8,a9,a10,a11,a12,a13,a14,a15⟩:=fd;simp only at h1 h2 h3 h4 h5 h6 h7 h8 h9 h10;subst h1 h3 h4 h5 h6 h7 h8 h9;subst h2;exact ⟨f,_,hf,zgh hl h10 h11⟩
  ·cases h
 ·cases h
theorem zaJ{K:W.Frag}{x:Str}(h:zdv K x=true):W.nsIn K mainGlobals x=some none:=by
 unfold zdv at h;split at h;·rename_i e;exact e
 ·cases h
theorem zbQ{K:W.Frag}{x:Str}{i:Int}(h:zez K x=some i):∃ t,W.nsIn K mainGlobals x=some (some (.int i t)):=by
 unfold zez at h;split at h;·rename_i j t e;cases h;exact ⟨t,e⟩
 ·cases h
theorem z6I{P:Program}{w:World}{K:W.Frag}{h:Heap}{mg:Str->Option Value}(X:K.In h)(G:h.Ns mainGlobals mg):∀ {es:List DictEntry}{tb:List (Str×Str)},z7N K es (tb.map (·.2))=tb.map (fun p=>(PyData.keyHash w.params p.1,some p.1,true))-> PySem.KeysOf (ya P w) es.toArray/\(∀ k y,tb.lookup k=some y->∃ f,(zat es).lookup k=some (.ref f)/\mg y=some (.ref f))/\∀ k,tb.lookup k=none->(zat es).lookup k=none
 | [],[],_=>⟨fun e he=>by simp at he,fun k y h=>by simp at h,fun k _=>by simp [zat]⟩ | [],_::_,h=>by simp [z7N] at h | _::_,[],h=>by simp [z7N] at h | e::es,(k0,y0)::tb,h=>by
  simp only [List.map_cons,z7N,List.cons.injEq,Prod.mk.injEq] at h;obtain ⟨⟨h1,h2,h3⟩,h4⟩:=h;obtain ⟨i1,i2,i3⟩:=z6I (P:=P) X G h4;obtain ⟨hh,kk,vv⟩:=e;simp only at h1 h2 h3;cases kk with
  | str ks t=>
   simp only [zaf,Option.some.injEq] at h2;subst h2;have hv:∃ f,vv=.ref f/\W.nsIn K mainGlobals y0=some (some (.ref f)):=by
    unfold sameRef at h3;split at h3
    ·rename_i f g e1;have:f=g:=by simpa using h3
     subst this;exact ⟨f,rfl,e1⟩
    ·cases h3
   obtain ⟨f,rfl,e1⟩:=hv;refine ⟨fun e he=>?_,fun k y hy=>?_,fun k hy=>?_⟩
   ·simp only [List.mem_toArray,List.mem_cons] at he;rcases he with rfl | he;·exact ⟨.inr ks,z1G ks t,h1⟩
    ·exact i1 e (by simpa using he)
   ·simp only [zat,List.lookup_cons] at hy ⊢;by_cases z:k=ks
    ·subst z;simp at hy ⊢;subst hy;exact W.mg_of X G e1
    ·rw [show (k==ks)=false from by simpa using z] at hy ⊢;exact i2 k y hy
   ·simp only [zat,List.lookup_cons] at hy ⊢;by_cases z:k=ks;·subst z;simp at hy
    ·rw [show (k==ks)=false from by simpa using z] at hy ⊢;exact i3 k hy | _=>simp [zaf] at h2
theorem zd4{P:Program}{w:World}{K:W.Frag}{h:Heap}{mg:Str->Option Value}{x:Str}{tb:List (Str×Str)}(X:K.In h)(G:h.Ns mainGlobals mg)(e:ze1 K x (tb.map (·.2))=zhr w tb):zdu P w K mg x tb:=by
 unfold ze1 zhr at e;split at e
 ·rename_i a ha;split at e
  ·rename_i c d es ep sl hl;simp only [Option.some.injEq,Prod.mk.injEq] at e;obtain ⟨e1,e2,e3,e4,e5⟩:=e;obtain ⟨i1,i2,i3⟩:=z6I (P:=P) X G e5;have hc:c=.type "dict":=by
    unfold z4H at e1;split at e1
    ·rename_i n;have:n="dict":=by simpa using e1
     rw [this]
    ·cases e1
   have hd:d=none:=by simpa using e2
   have hs:sl=#[]:=by
    have:sl.size=0:=by simpa using e3
    exact Array.eq_empty_of_size_eq_zero this
   have ea:es.toList.toArray=es:=by simp
   rw [ea] at i1;refine ⟨a,_,es,ep,W.mg_of X G ha,e4,hl,⟨hc,hd,hs⟩,rfl,i1,fun k y hy=>?_,fun k hy=>?_⟩;·rw [<- ea,kB];exact i2 k y hy
   ·rw [<- ea,kB];exact i3 k hy
  ·cases e
 ·cases e
def saysS(q:Ask)(w:World)(h:Heap):Prop:=∃ K:W.Frag,K.In h/\zay q K=valS q w
theorem zcO(q:Ask)(w:World)(s:Shared)(e:obsS q s=valS q w):saysS q w s.heap:=⟨_,(zcV _ _).in_,e⟩
theorem z8c(q:Ask)(w:World)(h h':Heap)(x:saysS q w h)(k:∀ b o,h.get? b=some o->h'.get? b=some o):saysS q w h':=let ⟨K,a,b⟩:=x;⟨K,a.keeps k,b⟩
theorem z7z{α β:Type}{f g:α->β}:∀ {l:List α},l.map f=l.map g->∀ x∈l,f x=g x:=fun h x hx=>List.map_inj_left.mp h x hx
theorem zim{q:Ask}{w:World}{K:W.Frag}(e:zay q K=valS q w)(x:Str)(st:Stmt)(hx:(x,st)∈q.fs):ziH K x st:=zdy (z7z (congrArg Prod.fst e) (x,st) hx)
theorem zhH{q:Ask}{w:World}{K:W.Frag}(e:zay q K=valS q w)(x:Str)(hx:x∈q.bs):W.nsIn K mainGlobals x=some none:=zaJ (z7z (congrArg (fun z=>z.2.1) e) x hx)
theorem ziw{q:Ask}{w:World}{K:W.Frag}(e:zay q K=valS q w)(x:Str)(i:Int)(hx:(x,i)∈q.cs):∃ t,W.nsIn K mainGlobals x=some (some (.int i t)):=zbQ (z7z (congrArg (fun z=>z.2.2.1) e) (x,i) hx)
theorem zhk{P:Program}{q:Ask}{w:World}{K:W.Frag}{h:Heap}{mg:Str->Option Value}(X:K.In h)(G:h.Ns mainGlobals mg)(e:zay q K=valS q w)(x:Str)(tb:List (Str×Str))(hx:(x,tb)∈q.ts):zdu P w K mg x tb:=zd4 X G (z7z (congrArg (fun z=>z.2.2.2.1) e) (x,tb) hx)
theorem za1{p q:Program}{loose:List Str}{Xt:Shared->Bool}{α:Type}{Yf:Shared->α}{Ya:World->α}{N:Nat}{g0:Bool}(row:String) (bo:∀ w:World,(W.fencedOpening treeTable p w N).map (fun s=>(s.heap,s.gens,s.drawn,s.toks))=some (W.boot_heap w.params,Array.mk [],W.boot_drawn,W.boot_toks)) (hf:∀ (w:World)(os:OsState),(W.topFrom treeTable p (w.withFollow row false) N ⟨W.boot_heap w.params,Array.mk [],W.boot_drawn,W.boot_toks,os⟩).map (fun s=>(W.openSeen q loose (importedModules p.main.body) Xt g0 s,Yf s))=some (W.openGood q loose,Ya (w.withFollow row false))) (ht:∀ (w:World)(os:OsState),(W.topFrom treeTable p (w.withFollow row true) N ⟨W.boot_heap w.params,Array.mk [],W.boot_drawn,W.boot_toks,os⟩).map (fun s=>(W.openSeen q loose (importedModules p.main.body) Xt g0 s,Yf s))=some (W.openGood q loose,Ya (w.withFollow row true))):W.LeftO p q loose Xt Yf Ya N g0:= W.LeftO.of_split row fun w=>by
  obtain ⟨⟨h,gs,d,k,os⟩,e,e'⟩:=Option.map_eq_some_iff.mp (bo w);obtain ⟨rfl,rfl,rfl,rfl⟩:h=W.boot_heap w.params/\gs=Array.mk []/\d=W.boot_drawn/\k=W.boot_toks:=by simpa only [Prod.mk.injEq] using e'
  rw [e,Option.map_some,hf w os,ht w os]
theorem z4G{tb:String->Option Builtin}{p:Program}{w:World}{n₀:Nat}{ann:Option Value}:∀ {n:Nat}{s s':W.SharedT}{t:Thread},z1I tb p w n₀ ann n s t=some s'->W.topRun tb p w n₀ ann n s.abs t=some s'.abs
 | 0,_,_,_,h=>by cases h | n+1,s,s',t,h=>by
  unfold z1I at h;unfold W.topRun;cases he:W.through t with
  | true=>rw [he] at h;cases h;rfl | false=>
   rw [he] at h;cases hk:W.stepOk n₀ ann t with
   | false=>rw [hk] at h;cases h | true=>
    rw [hk] at h;cases hs:W.stepT (denote tb) p w s t with
    | none=>rw [hs] at h;cases h | some r=>obtain ⟨s₂,t₂⟩:=r;rw [hs] at h;rw [W.stepT_spec hs];exact z4G h
theorem z2s{p:Program}{w:World}{N:Nat}{h:Heap}{d:Drawn}{k:Nat}{os:OsState}{t0:W.BT}{m₀:Nat}{ann:Option Value}(ha:W.absHeap t0 m₀ h.life=h) (sz:(h.isNs mainGlobals&&(Array.mk []:Array GenState).size==0,h.objs.size,h.nsMap mainGlobals "__annotations__")=(true,m₀,ann)){α:Type}{f:Shared->α}{v:α} (hr:(z1I treeTable p w m₀ ann N ⟨t0,m₀,h.life,Array.mk [],d,k,os⟩ (W.topStub p)).map (fun sT=>(W.staticsOk (importedModules p.main.body) h sT.abs.heap&&W.namesBound p sT.abs.heap&&W.gensDone sT.abs&&W.laidKept h sT.abs.heap,f sT.abs))=some (true,v)): (W.topFrom treeTable p w N ⟨h,Array.mk [],d,k,os⟩).map f=some v:=by
 obtain ⟨sT,e1,e2⟩:=Option.map_eq_some_iff.mp hr;obtain ⟨e3,e4⟩:=Prod.mk.inj e2;obtain ⟨z1,z2,z3⟩:_/\_/\_:=by simpa only [Prod.mk.injEq] using sz
 have r:=z4G e1;have a0:(⟨t0,m₀,h.life,Array.mk [],d,k,os⟩:W.SharedT).abs=⟨h,Array.mk [],d,k,os⟩:=by
  show (⟨W.absHeap t0 m₀ h.life,Array.mk [],d,k,os⟩:Shared)=_;rw [ha]
 rw [a0] at r;have t:W.topFrom treeTable p w N ⟨h,Array.mk [],d,k,os⟩=some sT.abs:=by
  unfold W.topFrom;dsimp only;rw [z1,z2,z3];dsimp only;rw [r];show (match (W.staticsOk (importedModules p.main.body) h sT.abs.heap&&W.namesBound p sT.abs.heap&&W.gensDone sT.abs&&W.laidKept h sT.abs.heap) with | true=>some sT.abs | false=>none)=_;rw [e3]
 rw [t,Option.map_some,e4]
theorem z5t{α β γ δ:Type}{r:Option α}{f:α->β}{g:α->γ}{k:α->δ}{x:β}{y:γ}{z:δ}(h1:r.map (fun s=>(f s,k s))=some (x,z))(h2:r.map g=some y):r.map (fun s=>(f s,(g s,k s)))=some (x,(y,z)):=by
 obtain ⟨s,e1,e2⟩:=Option.map_eq_some_iff.mp h1;obtain ⟨s',e3,e4⟩:=Option.map_eq_some_iff.mp h2;rw [e1] at e3;cases e3;obtain ⟨e5,e6⟩:=Prod.mk.inj e2;rw [e1,Option.map_some,e4,e5,e6]
theorem walkY{l:W.OpenLaw}{n k:Nat}{q:Program}{loose:List Str}{XP:(Str->Option Value)->Heap->Prop}{YP:World->Heap->Prop}{d:DefRec}{x:Str} (hn:l.most=some n)(hn2:n<=sizeLine)(hn3:n<=63)(hdf:d.params.defaults=[])(hr:z0B k callerA) (F:∀ (w:World)(mg:Str->Option Value)(fa:Addr)(h:Heap),YP w h->h.Ns mainGlobals mg->mg d.name=some (.ref fa)->XP mg h-> ∃ K:W.Frag,K.In h/\∃ fd:FuncData,(∀ (s:Shared)(u:Value),BindsTo s fd ⟨[u],[]⟩ [(x,u)])/\ ∀ base:Heap,K.In base->base.Ns mainGlobals mg->z2I l.prog w K mg base CX0 k fa fd [x] (zdU K)): W.WalkO q loose XP YP l.row.toRowW d [] (fun f vs=>PySem.call f vs):=by
 refine Att.z1c hn hdf fun w s₀ s₁ mg mb fa o pm cd doc a vs ns G Yy ho hd hcd hmg hobj hints hlen hg=>?_;obtain ⟨K,KX,fd,hb,hF⟩:=F w mg fa _ Yy G.T.g hmg G.X;exact z79 KX G.T.g G.T.b G.T.builtins G.T.nolimit hg hobj hints (Nat.le_trans hlen hn2) hr hF hb (fun H hO hS=>⟨a,ns,rfl,hO,hS,Nat.le_trans hlen hn3,fun _=>rfl⟩) fun H e s' z=>z
end Dd
namespace HT
open PySem.Spec
end HT
namespace L2
open PySem.Spec
end L2
namespace Dd
open PySem.Spec L2
section
variable {X:Cx}{E:XK}{e:Expr}{pos p2 p3 p4:Pos}
def zjH(f:FE):FE:=fun Z s=>(f Z s).bind fun d s1=>match d with
 | .tup xs=>.ok (.tup xs.reverse) s1 | _=>.no
@[simp] theorem ziW (f:FE)(Z:Ev)(s:Sto):zjH f Z s=(f Z s).bind fun d s1=>match d with
 | .tup xs=>.ok (.tup xs.reverse) s1 | _=>.no:=id rfl
end
section
variable {X:Cx}{E:XK}{e:Expr}{pos:Pos}
def zeP(i j k:Nat):FG:=fun d Z s=>match d with
 | .tup [x,y,z]=>.ok (((Z.set i (some x)).set j (some y)).set k (some z)) s | _=>.no
theorem zhT(i j k:Nat){x y z:Str}{px py pz:Pos}{kt:Nat}(hc:X.calm=true)(hN:X.N.Nodup)(hi:X.N[i]? = some x:=by rfl)(hj:X.N[j]? = some y:=by rfl)(hk:X.N[k]? = some z:=by rfl)(hx:Loc X.env.scope x:=by first | exact Or.inl rfl | exact Or.inr rfl)(hy:Loc X.env.scope y:=by first | exact Or.inl rfl | exact Or.inr rfl)(hz:Loc X.env.scope z:=by first | exact Or.inl rfl | exact Or.inr rfl) (hf:X.fn x=true\/X.env.scope.names.lookup x=some .local:=by first | exact .inl rfl | exact .inr rfl | assumption)(hf':X.fn y=true\/X.env.scope.names.lookup y=some .local:=by first | exact .inl rfl | exact .inr rfl | assumption)(hf2:X.fn z=true\/X.env.scope.names.lookup z=some .local:=by first | exact .inl rfl | exact .inr rfl | assumption): RG X E (.Tuple [.Name x px,.Name y py,.Name z pz] kt pos) (zeP i j k):= z6A (z2W hc (xx (zX hN hi hx hf) (xx (zX hN hj hy hf') (xx (zX hN hk hz hf2) kK)))) fun v O H Q ⟨Y,Z,s,d,r,en,dn,h⟩=>by
  unfold zeP at h;split at h
  ·rename_i d1 d2 d3;obtain ⟨p,vs,rfl,q1,q2⟩:=vG (K:=X.K) dn;obtain ⟨v1,v2,v3,rfl,e1,e2,e3⟩:=zga q2;exact ⟨p,[v1,v2,v3],rfl,q1,rfl,v1,[v2,v3],rfl,v2,[v3],rfl,v3,[],rfl,rfl,okR.here h r (((en.set e1 i).set e2 j).set e3 k)⟩
  ·exact h.elim
@[simp] theorem zfL (i j k:Nat)(x y z:D)(Z:Ev)(s:Sto):zeP i j k (.tup [x,y,z]) Z s=.ok (((Z.set i (some x)).set j (some y)).set k (some z)) s:=id rfl
end
section
variable {X:Cx}{E:XK}{e a b c:Expr}{es:List Expr}{pos:Pos}
def zgb:D->D->Sto->R D:=dII fun i j=>if 0<=j/\j<=100/\i.natAbs<BIG then iOk (.int (i ^ j.toNat)) else .no
def zam(x y:D)(s:Sto):R D:=(dIs x y s).bind fun d s1=>match d with | .bl k=>.ok (.bl (!k)) s1 | _=>.no
variable {rest:List Expr}
def zjJ(fa fb:FE):FE:=fun Z s=>(fa Z s).bind fun x s1=>match x with | .int i=>if i=0 then fb Z s1 else .ok (.int i) s1 | .non=>fb Z s1 | _=>.no
@[simp] theorem zj6 (fa fb:FE)(Z:Ev)(s:Sto):zjJ fa fb Z s=(fa Z s).bind fun x s1=>match x with | .int i=>if i=0 then fb Z s1 else .ok (.int i) s1 | .non=>fb Z s1 | _=>.no:=id rfl
@[simp] theorem zgW (x:Int)(s:Sto):zam (.int x) .non s=.ok (.bl true) s:=id rfl
@[simp] theorem zg5 (s:Sto):zam .non .non s=.ok (.bl false) s:=id rfl
@[simp] theorem zfV (a b:Bool)(s:Sto):zam (.bl a) (.bl b) s=.ok (.bl (!(a==b))) s:=id rfl
end
section
variable {X:Cx}{E:XK}{e o a b c:Expr}{es:List Expr}{pos:Pos}
def zgm(fo fv:FE):FE:=fun Z s=>(fo Z s).bind fun o s1=>match o with
 | .loc l=>(fv Z s1).bind fun d s2=>match s2[l]?,d with
  | some xs,.int i=>if 0<=i/\i<2 ^ 62 then (match xs[i.toNat]? with | some y=>.ok y (s2.set l (xs.eraseIdx i.toNat)) | none=>.no) else .no | _,_=>.no
 | _=>.no
@[simp] theorem zgZ (fo fv:FE)(Z:Ev)(s:Sto):zgm fo fv Z s=(fo Z s).bind fun o s1=>match o with
 | .loc l=>(fv Z s1).bind fun d s2=>match s2[l]?,d with
  | some xs,.int i=>if 0<=i/\i<2 ^ 62 then (match xs[i.toNat]? with | some y=>.ok y (s2.set l (xs.eraseIdx i.toNat)) | none=>.no) else .no | _,_=>.no
 | _=>.no:=id rfl
end
section
variable {X:Cx}{E:XK}{pos:Pos}
def zg1(c:Str):FS:=fun _ s=>.ex c s
end
section
variable {P:Program}{w:World}{K:W.Frag}{mg:Str->Option Value}{base:Heap}
def zjQ(M:Mir):Mir:=fun ds s=>match M ds s with | .ex _ _=>.no | r=>r
end
def zhU(f:FS):FS:=fun Z s=>match f Z s with | .ex _ _=>.no | r=>r
@[simp] theorem zhV (f:FS)(Z:Ev)(s:Sto):zhU f Z s=(match f Z s with | .ex _ _=>.no | r=>r):=id rfl
@[simp] theorem zj1 (M:Mir)(ds:List D)(s:Sto):zjQ M ds s=(match M ds s with | .ex _ _=>.no | r=>r):=id rfl
@[simp] theorem zgX (c:Str)(Z:Ev)(s:Sto):zg1 c Z s=.ex c s:=id rfl
end Dd
namespace PySem
open PySem.Sem (wp)
end PySem
namespace Dd
open PySem.Spec L2
end Dd
namespace PySem
open PySem.Sem (wp)
open PySem.W
end PySem
namespace L2
open PySem.Spec
end L2
namespace Dd
open PySem.Spec L2
end Dd
namespace L2
open PySem.Spec
open MeetsSeq MeetsSeq2 SeqAt
end L2
namespace Dd
open PySem.Spec L2
end Dd
namespace L2
open PySem.Spec
end L2
namespace Dd
open PySem.Spec L2
end Dd
namespace PySem
open PySem.AutoSeq1 (wpAny_loadPart')
open MeetsSeq MeetsSeq2 SeqAt
end PySem
namespace L2
open PySem.Spec
end L2
namespace Dd
open PySem.Spec L2
section
variable {X:Cx}{E:XK}
def zhx:D->D->Sto->R D
 | .tup xs,.int k,s=>if 1<=k/\xs≠[]/\xs.length*k.toNat<=cap then .ok (.tup (List.replicate k.toNat xs).flatten) s else .no | _,_,_=>.no
@[simp] theorem zhz (xs:List D)(k:Int)(s:Sto):zhx (.tup xs) (.int k) s=if 1<=k/\xs≠[]/\xs.length*k.toNat<=cap then .ok (.tup (List.replicate k.toNat xs).flatten) s else .no:=id rfl
end
end Dd
namespace L2
open PySem.Spec
end L2
namespace Dd
open PySem.Spec L2
section
variable {K:W.Frag}{mg:Str->Option Value}(G:∀ (x:Str)(v:Value),W.nsIn K mainGlobals x=some (some v)->mg x=some v)
include G
end
end Dd
namespace PySem
end PySem
namespace L2
open PySem.Spec
end L2
namespace Dd
open PySem.Spec L2
open PySem.W
end Dd
namespace L2
open PySem.Spec
open PySem.Builtin.Str
end L2
namespace Dd
open PySem.Spec L2 PySem.Builtin.Str
end Dd
namespace Dd
open PySem.Spec L2
section
variable {X:Cx}{E:XK}{es:List Expr}{fa:FE}{fr:FA}
theorem aN{x:Str}{p:Pos}(ha:RE X E (.Name x p) fa)(hr:RA X E es fr):RA X E ((.Name x p)::es) (za fa fr):=z02 ha hr (zD ..)
theorem aK{c:Const}{j:Nat}{p:Pos}(ha:RE X E (.Constant c j p) fa)(hr:RA X E es fr):RA X E ((.Constant c j p)::es) (za fa fr):=z02 ha hr (z30 ..)
theorem aQ{g:Expr}{xs:List Expr}{ks:List Keyword}{p:Pos}(ha:RE X E (.Call g xs ks p) fa)(hr:RA X E es fr):RA X E ((.Call g xs ks p)::es) (za fa fr):=z02 ha hr (vQ ..)
theorem aT{xs:List Expr}{k:Nat}{p:Pos}(ha:RE X E (.Tuple xs k p) fa)(hr:RA X E es fr):RA X E ((.Tuple xs k p)::es) (za fa fr):=z02 ha hr (zb4 ..)
theorem aS{a b:Expr}{p:Pos}(ha:RE X E (.Subscript a b p) fa)(hr:RA X E es fr):RA X E ((.Subscript a b p)::es) (za fa fr):=z02 ha hr (z3z ..)
theorem aB{a b:Expr}{o:Operator}{p:Pos}(ha:RE X E (.BinOp a o b p) fa)(hr:RA X E es fr):RA X E ((.BinOp a o b p)::es) (za fa fr):=z02 ha hr (z3x ..)
theorem aL{xs:List Expr}{p:Pos}(ha:RE X E (.List xs p) fa)(hr:RA X E es fr):RA X E ((.List xs p)::es) (za fa fr):=z02 ha hr (zbt ..)
theorem aO{a:Expr}{g:List Comprehension}{sc:Scope}{p:Pos}(ha:RE X E (.ListComp a g sc p) fa)(hr:RA X E es fr):RA X E ((.ListComp a g sc p)::es) (za fa fr):=z02 ha hr (zT ..)
end
section
variable {q:Ask}{w:World}{K:W.Frag}{h:Heap}{mg:Str->Option Value}
theorem zC(X:K.In h)(G:h.Ns mainGlobals mg)(e:zay q K=valS q w)(i:Nat){x:Str}{st:Stmt}(hx:q.fs[i]? = some (x,st)):∃ f fd,mg x=some (.ref f)/\Fun K x x st f fd:=let ⟨f,fd,a,F⟩:=zim e x st (List.mem_of_getElem? hx);⟨f,fd,W.mg_of X G a,F⟩
theorem vh(X:K.In h)(G:h.Ns mainGlobals mg)(e:zay q K=valS q w)(i:Nat){x:Str}(hx:q.bs[i]? = some x):mg x=none:=W.mg_none_of X G (zhH e x (List.mem_of_getElem? hx))
theorem z97(X:K.In h)(G:h.Ns mainGlobals mg)(e:zay q K=valS q w)(i:Nat){x:Str}{c:Int}(hx:q.cs[i]? = some (x,c)):∃ t,mg x=some (.int c t):=let ⟨t,z⟩:=ziw e x c (List.mem_of_getElem? hx);⟨t,W.mg_of X G z⟩
end
open PySem.W
end Dd
namespace Dd
open PySem.Spec L2
section
variable {X:Cx}{E:XK}{e:Expr}{pos pos':Pos}
def ziF(i:Nat)(f:FE):FS:=fun Z s=>match Z[i]? with
 | some (some (.int a))=>(f Z s).bind fun d s1=>match d with | .int b=>.ok (.nx (Z.set i (some (.int (a+b))))) s1 | _=>.no
 | _=>.no
@[simp] theorem ziR {i:Nat}{f:FE}{Z:Ev}{s:Sto}{a b:Int}{s1:Sto}(h:Z[i]? = some (some (.int a)))(hf:f Z s=.ok (.int b) s1):ziF i f Z s=.ok (.nx (Z.set i (some (.int (a+b))))) s1:=by simp only [ziF,h,hf,R.bind_ok]
end
open PySem.W
end Dd
namespace Dd
open PySem.Spec L2
section
variable {X:Cx}{E:XK}{tg:Expr}{p:Pos}{x:Str}{ks:List Str}
def zht(ks:List Str):FI:=fun _ s=>.ok (ks.map D.str,[]) s
@[simp] theorem zhc (ks:List Str)(Z:Ev)(s:Sto):zht ks Z s=.ok (ks.map D.str,[]) s:=id rfl
end
end Dd
namespace L2
open PySem.Spec
end L2
namespace Dd
open PySem.Spec L2
section
variable {X:Cx}{E:XK}{e:Expr}{pos p2 p3 p4:Pos}
def zi9(f:FE):FE:=fun Z s=>(f Z s).bind fun d s1=>match listOf s1 d with
 | some xs=>.ok (.lst xs.reverse) s1 | none=>.no
@[simp] theorem zhn (f:FE)(Z:Ev)(s:Sto):zi9 f Z s=(f Z s).bind fun d s1=>match listOf s1 d with
 | some xs=>.ok (.lst xs.reverse) s1 | none=>.no:=id rfl
end
def kM:List D->Option (List Key)
 | []=>some [] | .int i::r=>(kM r).map (Sum.inl i::·) | .str x::r=>(kM r).map (Sum.inr x::·) | _=>none
def vV:D->Option V
 | .int i=>some (.int i) | .bl b=>some (.bl b) | _=>none
def vD:V->D
 | .int i=>.int i | .bl b=>.bl b | _=>.non
def vq(kvs:List (List Key×V)):List D:=kvs.map fun p=>.tup [.tup (p.1.map z5y),vD p.2]
def z8o:List D->Option (List (List Key×V))
 | []=>some [] | .tup [.tup ks,.int i]::r=>(kM ks).bind fun k=>(z8o r).map ((k,V.int i)::·) | .tup [.tup ks,.bl b]::r=>(kM ks).bind fun k=>(z8o r).map ((k,V.bl b)::·) | _=>none
theorem z0H:∀ k:List Key,kM (k.map z5y)=some k
 | []=>rfl | .inl i::k=>by simp [z5y,kM,z0H k] | .inr x::k=>by simp [z5y,kM,z0H k]
theorem z5T:∀ {ds:List D}{k:List Key},kM ds=some k->ds=k.map z5y
 | [],k,e=>by simp [kM] at e;subst e;rfl | .int i::r,k,e=>by
  simp only [kM,Option.map_eq_some_iff] at e;obtain ⟨a,h1,rfl⟩:=e;rw [z5T h1];rfl | .str i::r,k,e=>by
  simp only [kM,Option.map_eq_some_iff] at e;obtain ⟨a,h1,rfl⟩:=e;rw [z5T h1];rfl | .non::_,_,e=>by simp [kM] at e | .bl _::_,_,e=>by simp [kM] at e | .tup _::_,_,e=>by simp [kM] at e | .lst _::_,_,e=>by simp [kM] at e | .dct::_,_,e=>by simp [kM] at e | .loc _::_,_,e=>by simp [kM] at e | .dlo _::_,_,e=>by simp [kM] at e | .fn _::_,_,e=>by simp [kM] at e | .exc _::_,_,e=>by simp [kM] at e | .scr _::_,_,e=>by simp [kM] at e
theorem z3u{mg:Gm}{H:Hp}{Y:List Addr}:∀ {k:List Key}{vs:List V},zA mg H Y (k.map z5y) vs->vs=k.map kV
 | [],_,h=>by simpa [zA] using h | .inl i::k,vs,h=>by
  simp only [List.map_cons,zA] at h;obtain ⟨v,r,rfl,h1,h2⟩:=h;rw [yg h1,z3u h2];rfl | .inr i::k,vs,h=>by
  simp only [List.map_cons,zA] at h;obtain ⟨v,r,rfl,h1,h2⟩:=h;rw [z3b h1,z3u h2];rfl
theorem z3V{mg:Gm}{H:Hp}{Y:List Addr}:∀ (k:List Key),zA mg H Y (k.map z5y) (k.map kV)
 | []=>by simp [zA] | .inl i::k=>by simp only [List.map_cons];exact zA.cons (by simp [z5y,kV,Den]) (z3V k) | .inr i::k=>by simp only [List.map_cons];exact zA.cons (by simp [z5y,kV,Den]) (z3V k)
theorem z9s{v:V}{x:D}(h:zbJ v=some x):x=vD v:=by cases v<;>simp [zbJ] at h<;>simp [vD,h]
theorem zfU{d:D}{u:V}(h:vV d=some u):zbJ u=some d/\vD u=d:=by cases d<;>simp [vV] at h<;>subst h<;>exact ⟨rfl,rfl⟩
theorem zgi{mg:Gm}{H:Hp}{Y:List Addr}{d:D}{u v:V}(h:vV d=some u)(dn:Den mg H Y d v):v=u:=by cases d with
 | int i=>simp [vV] at h;subst h;exact yg dn | bl b=>simp [vV] at h;subst h;exact z05 dn | _=>simp [vV] at h
def zeq(kvs:List (List Key×V)):Prop:=∀ p∈kvs,(zbJ p.2).isSome=true
theorem z3M:∀ {xs:List D}{kvs:List (List Key×V)},zex xs kvs->xs=vq kvs/\zeq kvs/\z8o xs=some kvs
 | [],kvs,h=>by simp only [zex] at h;subst h;exact ⟨rfl,(fun p hp=>by simp at hp),rfl⟩ | d::ds,kvs,h=>by
  simp only [zex] at h;obtain ⟨k,v,x,r,rfl,h1,rfl,h2⟩:=h;obtain ⟨i1,i2,i3⟩:=z3M h2;refine ⟨?_,fun p hp=>?_,?_⟩
  ·rw [z9s h1];show _::ds=vq ((k,v)::r);rw [vq,List.map_cons];congr 1
  ·rcases List.mem_cons.mp hp with rfl | hp;·rw [h1];rfl
   ·exact i2 p hp
  ·cases v with
   | int i=>simp only [zbJ,Option.some.injEq] at h1;subst h1;simp [z8o,z0H,i3] | bl b=>simp only [zbJ,Option.some.injEq] at h1;subst h1;simp [z8o,z0H,i3] | _=>simp [zbJ] at h1
theorem z5O:∀ {kvs:List (List Key×V)},zeq kvs->zex (vq kvs) kvs
 | [],_=>rfl | (k,v)::r,h=>by
  obtain ⟨x,hx⟩:=Option.isSome_iff_exists.mp (h (k,v) (by simp));refine ⟨k,v,x,r,rfl,hx,?_,z5O fun p hp=>h p (by simp [hp])⟩;rw [z9s hx]
theorem dec_enc{kvs:List (List Key×V)}(h:zeq kvs):z8o (vq kvs)=some kvs:=(z3M (z5O h)).2.2
theorem z0D:∀ k:List Key,D.flat.flats (k.map z5y)=true
 | []=>rfl | .inl i::k=>by simp [z5y,D.flat.flats,D.flat,z0D k] | .inr i::k=>by simp [z5y,D.flat.flats,D.flat,z0D k]
theorem z6H:∀ kvs:List (List Key×V),D.flat.flats (vq kvs)=true
 | []=>rfl | (k,v)::r=>by
  have:(vD v).flat=true:=by cases v<;>rfl
  simp only [vq,List.map_cons,D.flat.flats,D.flat,z0D,this,Bool.and_true,Bool.true_and];exact z6H r
theorem zeq.put{kvs:List (List Key×V)}{k:List Key}{u:V}(h:zeq kvs)(hu:(zbJ u).isSome=true):zeq (z34 kvs k u):=by
 unfold z34;split
 ·intro p hp;obtain ⟨q,hq,rfl⟩:=List.mem_map.mp hp;split;·exact hu
  ·exact h q hq
 ·intro p hp;rcases List.mem_append.mp hp with hp | hp;·exact h p hp
  ·simp only [List.mem_cons,List.not_mem_nil,or_false] at hp;subst hp;exact hu
section
variable {X:Cx}{E:XK}{o i e value:Expr}{pos pos':Pos}
def zfw:FE:=fun _ s=>.ok (.dlo s.length) (s++[[]])
theorem zg0:RE X E (.Dict [] [] pos) zfw:=yw zbO fun O H Q ⟨Y,Z,s,r,en,h⟩ p hp=>by
 refine h _ _ _ (wd.layC r hp (o:=.dT []) (.inr ⟨[],yn,rfl⟩) rfl) ?_;simp only [Den];exact ⟨p,rfl,by rw [<- r.len];simp,[],yn⟩
def za8(fo fk fv:FE):FS:=fun Z s=>(fv Z s).bind fun v s1=>(fo Z s1).bind fun o s2=>(fk Z s2).bind fun k s3=>match o,k,vV v with
 | .dlo l,.tup ks,some u=>match (s3[l]?).bind z8o,kM ks with
  | some kvs,some key=>if kvs.length<cap then .ok (.nx Z) (s3.set l (vq (z34 kvs key u))) else .no | _,_=>.no
 | _,_,_=>.no
theorem zf8 {fo fk fv:FE} (hu:X.A.units+64<cLine) (hv:RE X E value fv) (ho:RE X E o fo) (hi:RE X E i fk) (hs:swapsWith value (some (.Subscript o i pos')) pos.line X.env=pure false:=by rfl): RS X E (.Assign [.Subscript o i pos'] value pos) (za8 fo fk fv):= uJ (zd2 (by omega) ho hi hv hs) fun D O H ⟨Y,Z,s,r,en,h⟩=>by
  unfold za8 at h;refine yI (k:=fun Z v s1=>(fo Z s1).bind fun o s2=>(fk Z s2).bind fun k s3=>match o,k,vV v with
   | .dlo l,.tup ks,some u=>match (s3[l]?).bind z8o,kM ks with
    | some kvs,some key=>if kvs.length<cap then R.ok (Fl.nx Z) (s3.set l (vq (z34 kvs key u))) else .no | _,_=>.no
   | _,_,_=>.no) r en h _ fun v H1 Y1 s1 d r1 en1 dn stp h1=>?_;refine yI (k:=fun Z o s2=>(fk Z s2).bind fun k s3=>match o,k,vV d with
   | .dlo l,.tup ks,some u=>match (s3[l]?).bind z8o,kM ks with
    | some kvs,some key=>if kvs.length<cap then R.ok (Fl.nx Z) (s3.set l (vq (z34 kvs key u))) else .no | _,_=>.no
   | _,_,_=>.no) r1 en1 h1 _ fun v2 H2 Y2 s2 od r2 en2 dn2 stp2 h2=>?_;refine yI (k:=fun Z k s3=>match od,k,vV d with
   | .dlo l,.tup ks,some u=>match (s3[l]?).bind z8o,kM ks with
    | some kvs,some key=>if kvs.length<cap then R.ok (Fl.nx Z) (s3.set l (vq (z34 kvs key u))) else .no | _,_=>.no
   | _,_,_=>.no) r2 en2 h2 _ fun v3 H3 Y3 s3 kd r3 en3 dn3 stp3 h3=>?_;split at h3
  ·rename_i l ks u eu;split at h3
   ·rename_i kvs key ek edk;split at h3
    ·rename_i hl;have dv:=(dn.mono stp2).mono stp3;obtain rfl:u=v:=(zgi eu dv).symm;have dov:=dn2.mono stp3;simp only [Den] at dov;obtain ⟨a,rfl,e1,ka⟩:=dov;obtain ⟨xs,ex,edc⟩:=Option.bind_eq_some_iff.mp ek;obtain ⟨kvs',q1,q2⟩:=r3.dic ex e1 ka;obtain ⟨z1,z2,z3⟩:=z3M q2;rw [z3] at edc;cases edc;rw [z5T edk] at dn3;simp only [Den] at dn3;obtain ⟨b,vs,rfl,hb,hd⟩:=dn3;rw [z3u hd] at hb;have ap:=z2.put (k:=key) (u:=u) (by rw [(zfU eu).1];rfl);have stp4:=wd.putC (l:=l) (o:=.dT (z34 kvs key u)) r3 e1 (.putC ka) (.inr ⟨_,yn,z5O ap⟩) (z6H _);exact ⟨a,_,rfl,zgM.t q1 hb (Nat.lt_of_lt_of_le hl (by decide)),h3 (.nx O) _ _ stp4 (en3.mono stp4)⟩
    ·exact h3.elim
   ·exact h3.elim
  ·exact h3.elim
end
theorem zaE {prog:Program} {w:World} {A:Around} {E:Value->Shared->Prop} {s:Shared} {it d:Addr} {i ep:Nat} {o:Obj} {es:Array DictEntry} {e:DictEntry} {Q:Option Value->Shared->Prop} (hit:s.heap.IsKeyIter it d i es.size ep) (hod:s.heap.get? d=some o) (hdd:o.data=.dict es ep) (he:es[i]? = some e) (hQ:∀ h':Heap,h'.IsKeyIter it d (i+1) es.size ep->Heap.SameBut it s.heap h'->Q (some e.key) {s with heap:=h'}):wpAny (model prog w) A (pyNext (.ref it)) Q E s:=by
 obtain ⟨oi,ho,hc,hd⟩:=id hit;refine wpAny_bind (wpAny_attempt (wpAny_callSpecial?_slot hit.typeIs F.slot_dict_keyiterator_next (wpAny_call_entry F.slot_dict_keyiterator_next hit.typeIs F.entry_dict_keyiterator_next ?_ (F.args_dict_keyiterator_next_1 _))));refine wpAny_bind (wpAny_pure (wpAny_bind (wpAny_bind (wpAny_bind (wpAny_typeNameOfWhole_keyiter hit.typeIs (wpAny_pure (wpAny_bind (wpAny_fieldsOf ho hd ?_))))))));have hown:Builtin.Dict_items.ownsTuple "dict_keyiterator"=false:=by decide +kernel
 rw [hown];simp only [Bool.false_eq_true,if_false,List.drop_zero];show wpAny _ _ (if (Value.ref d==Value.none)=true then _ else _) _ _ _;rw [if_neg (by simp)];refine wpAny_bind (wpAny_pure (wpAny_bind (wpAny_dictEntries hod hdd ?_)));rw [if_neg (by simp)];refine wpAny_bind (wpAny_pure (wpAny_bind (wpAny_dictEpoch hod hdd ?_)));rw [if_neg (by simp)];refine wpAny_pure ?_;have hi:(if (i:Int)<0 then none else es[(i:Int).toNat]?)=some e:=by rw [if_neg (by omega)];simpa using he
 show wpAny _ _ (match (if (i:Int)<0 then none else es[(i:Int).toNat]?) with | some e=>_ | none=>_) _ _ _;rw [hi];refine wpAny_bind (wpAny_bind (wpAny_typeNameOfWhole_keyiter hit.typeIs (wpAny_pure ?_)));rw [hown];refine wpAny_bind (wpAny_isOneOf_keyiter hit.typeIs ?_);refine wpAny_bind (wpAny_setField ho hd (show 1<4 by decide) ?_);have st':∀ g:Array Value->Array Value,g #[Value.ref d,Value.int (i:Int) 0,Value.int (es.size:Int) 0,Value.int (ep:Int) 0]=#[Value.ref d,Value.int ((i+1:Nat):Int) 0,Value.int (es.size:Int) 0,Value.int (ep:Int) 0]->(s.heap.update it (Obj.mapFields g)).IsKeyIter it d (i+1) es.size ep:=fun g hg=>by
  obtain ⟨c0,d0,da,sl⟩:=oi;simp only at hc hd;subst hc hd;refine ⟨_,Heap.get?_update_self _ ho rfl,rfl,?_⟩;show Data.fields (g _)=_;rw [hg]
 have st2:=st' (fun x=>x.setIfInBounds 1 (rawInt ((i:Int)+1))) (by simp [rawInt]);refine wpAny_bind (wpAny_holding ?_);refine wpAny_bind (wpAny_isOneOf_keyiter st2.typeIs ?_);rw [if_pos (by decide +kernel)];refine wpAny_pure (wpAny_pure ⟨_,rfl,wpAny_pure ?_⟩);exact hQ _ st2 (Heap.SameBut.update ..)
theorem zcT {prog:Program} {w:World} {A:Around} {E:Value->Shared->Prop} {s:Shared} {it d:Addr} {i ep:Nat} {o:Obj} {es:Array DictEntry} {Q:Option Value->Shared->Prop} (hh:A.handled=none) (hit:s.heap.IsKeyIter it d i es.size ep) (hod:s.heap.get? d=some o) (hdd:o.data=.dict es ep) (he:es[i]? = none) (hQ:∀ h':Heap,Heap.ExtBut it s.heap h'->Q none {s with heap:=h'}):wpAny (model prog w) A (pyNext (.ref it)) Q E s:=by
 obtain ⟨oi,ho,hc,hd⟩:=id hit;refine wpAny_bind (wpAny_attempt (wpAny_callSpecial?_slot hit.typeIs F.slot_dict_keyiterator_next (wpAny_call_entry F.slot_dict_keyiterator_next hit.typeIs F.entry_dict_keyiterator_next ?_ (F.args_dict_keyiterator_next_1 _))));refine wpAny_bind (wpAny_pure (wpAny_bind (wpAny_bind (wpAny_bind (wpAny_typeNameOfWhole_keyiter hit.typeIs (wpAny_pure (wpAny_bind (wpAny_fieldsOf ho hd ?_))))))));have hown:Builtin.Dict_items.ownsTuple "dict_keyiterator"=false:=by decide +kernel
 rw [hown];simp only [Bool.false_eq_true,if_false,List.drop_zero];show wpAny _ _ (if (Value.ref d==Value.none)=true then _ else _) _ _ _;rw [if_neg (by simp)];refine wpAny_bind (wpAny_pure (wpAny_bind (wpAny_dictEntries hod hdd ?_)));rw [if_neg (by simp)];refine wpAny_bind (wpAny_pure (wpAny_bind (wpAny_dictEpoch hod hdd ?_)));rw [if_neg (by simp)];refine wpAny_pure ?_;have hi:(if (i:Int)<0 then none else es[(i:Int).toNat]?)=none:=by rw [if_neg (by omega)];simpa using he
 show wpAny _ _ (match (if (i:Int)<0 then none else es[(i:Int).toNat]?) with | some e=>_ | none=>_) _ _ _;rw [hi];refine wpAny_bind (wpAny_bind (wpAny_typeNameOfWhole_keyiter hit.typeIs (wpAny_pure ?_)));rw [hown];refine wpAny_bind (wpAny_setField ho hd (show 0<4 by decide) ?_);show wpAny _ _ (newExc (.type "StopIteration") [] >>= _) _ _ _;refine wpAny_bind ?_;simp only [newExc,newTuple];refine wpAny_bind (wpAny_newObj_type ?_ (by size_fits));refine wpAny_bind (m:=firstArgMember _ _) (wpAny_of_eq (a:=Value.none) (by first | rfl | (simp only [firstArgMember];rfl)) ?_);refine wpAny_newObj_type ?_ (by size_fits);simp only [raiseNew];refine wpAny_bind (wpAny_handled ?_);first | rw [show A.in1.handled=none from hh] | rw [hh]
 refine wpAny_bind (wpAny_pure (wpAny_throw ?_));refine wpAny_bind (wpAny_isInstance (T:="StopIteration") (b:=true) ⟨_,Heap.get?_push_size _ rfl,rfl⟩ isSubtype_stop ?_);exact wpAny_pure (hQ _ (((Heap.SameBut.update ..).extBut.push _).push _))
section
variable {prog:Program}{w:World}{A:Around}{E:Value->Shared->Prop}{s:Shared}{d:Addr}{es:Array DictEntry}{ep:Nat}
def zbY(h:Heap)(d:Addr)(es:Array DictEntry)(ep:Nat):Prop:=∃ o,h.get? d=some o/\o.ExactDict/\o.data=.dict es ep
theorem zbY.typeIs(h:zbY s.heap d es ep):s.TypeIs (.ref d) "dict":=let ⟨o,ho,hc,_⟩:=h;⟨o,ho,hc.1⟩
theorem zbY.at{h h':Heap}(x:zbY h d es ep)(e:∀ o,h.get? d=some o->h'.get? d=some o):zbY h' d es ep:=let ⟨o,ho,r⟩:=x;⟨o,e o ho,r⟩
theorem zbD {Q:Value->Shared->Prop} (hd:(d==sysModules)=false) (hm:zbY s.heap d es ep) (hQ:Q (.ref s.heap.objs.size) {s with heap:=s.heap.push {cls:=.type "dict_keyiterator",data:=.fields #[.ref d,.int 0 0,.int es.size 0,.int ep 0]}}): wpAny (model prog w) A (pyIter (.ref d)) Q E s:=by
 obtain ⟨o,ho,hc,hdat⟩:=id hm;have hT:=hm.typeIs;refine wpAny_pyIter_slot hT F.slot_dict_iter (wpAny_call_entry F.slot_dict_iter hT F.entry_dict_iter ?_ (F.args_dict_iter_1 _));unfold Builtin.«dict.__iter__»;refine wpAny_bind ?_;unfold Builtin.Dict.dictSlotNone;refine wpAny_bind (wpAny_notOrdered_dict hT ?_);show wpAny _ _ (pure (Value.ref d)) _ _ s;refine wpAny_pure ?_;show wpAny _ _ (Builtin.Dict.showsAll d >>= _) _ _ s;unfold Builtin.Dict.showsAll;rw [if_neg (by rw [hd];exact Bool.false_ne_true)];refine wpAny_bind (wpAny_pure (wpAny_bind (wpAny_dictEntries ho hdat (wpAny_bind (wpAny_dictEpoch ho hdat ?_)))));refine wpAny_bind (wpAny_newObj_type (wpAny_pure ⟨_,rfl,"dict_keyiterator",_,⟨_,Heap.get?_push_size _ rfl,rfl⟩,F.slot_dict_keyiterator_next.lookup,?_⟩));simpa [rawInt] using hQ
theorem z8O(hh:A.handled=none)(I d:Addr)(hne:d≠I)(es:Array DictEntry)(ep:Nat): Walks prog w A I [I,d] [I] es.size (fun i v=>∃ e,es[i]? = some e/\v=e.key) (fun i h=>h.IsKeyIter I d i es.size ep/\zbY h d es ep) where
 sub:=fun b hb=>by simp at hb;simp [hb]
 frame:=fun _ _ _ st hk=>⟨st.1.at fun o e=>hk I (by simp) o e,st.2.at fun o e=>hk d (by simp) o e⟩;item:=fun i s Q E hi st hQ=>by
  obtain ⟨e,hx⟩:∃ p,es[i]? = some p:=⟨es[i],by simp [hi]⟩;obtain ⟨o,ho,hc,hdat⟩:=id st.2;refine zaE st.1 ho hdat hx fun h' hit' hs'=>?_;exact hQ e.key h' s.toks ⟨e,hx,rfl⟩ ⟨hit',st.2.at fun o e=>hs'.extBut d o hne e⟩ fun b o hb e=>hs'.extBut b o (fun h=>hb (by simp [h])) e
 done:=fun s Q E st hQ=>by
  obtain ⟨o,ho,hc,hdat⟩:=id st.2;exact zcT hh st.1 ho hdat (by simp) fun h' he'=>hQ h' s.toks fun b o hb e=>he' b o (fun h=>hb (by simp [h])) e
 self:=fun _ _ _ _ st hQ=>wpAny_pyIter_keyiter st.1 hQ
theorem zda(lo:(d==sysModules)=false):W.KdlSrc prog w "dict" d d es.size (fun i v=>∃ e,es[i]? = some e/\v=e.key) (fun h=>zbY h d es ep) where
 type:=fun _ hm=>hm.typeIs;there:=fun _ hm=>⟨Heap.lt_size hm.choose_spec.1,Heap.lt_size hm.choose_spec.1⟩;keep:=fun _ _ hm hk=>hm.at fun o e=>hk d (.inl rfl) o e;notList:=by decide
 notTuple:=by decide
 hint:=fun _ _ _ _ hm hq=>W.kdl_hint_dict hm.typeIs hq;iter:=fun _ _ hh hm=>⟨_,_,(fun _ _ hq=>zbD lo hm hq),z8O hh _ d (Nat.ne_of_lt (Heap.lt_size hm.choose_spec.1)) es ep,⟨⟨_,Heap.get?_push_size _ rfl,rfl,rfl⟩,hm.at fun o e=>Heap.get?_push_of_some _ e⟩⟩
end
def z8H(H:Hp)(kvs:List (List Key×V))(ys:List V):Prop:=Paired (fun (p:List Key×V)(y:V)=>∃ b,y=.ref b/\H b=some (.tup (p.1.map kV))) kvs ys
theorem zg4{H:Hp}{kvs:List (List Key×V)}{xs:List (List Key×Addr×Value)}(r:KT H kvs xs):z8H H kvs (xs.map fun x=>.ref x.2.1):=by induction r with
 | nil=>exact .nil | @cons p q ps qs h t ih=>exact .cons ⟨q.2.1,rfl,h.2.1⟩ ih
theorem z8x{X:Cx}(hc:X.calm=true):wl X (.type "list") (fun xs H Q=>∃ a kvs,xs=[.ref a]/\H a=some (.dT kvs)/\∀ ys,z8H H kvs ys->∀ l,H l=none->Q (.ref l) (upd H l (.lst ys))):=by
 intro pins s O H xs us Q I rs ⟨a,kvs,e,ea,q⟩;subst e;obtain ⟨u,rfl,ru⟩:=vals1 rs;cases (show u=Value.ref a from ru);obtain ⟨z,lo,xs,rel,o,es,ep,h1,h2,h3,h4,h5,h6⟩:=zeX I.hok ea;have hl:xs.length=kvs.length:=(Paired.length rel).symm;have hsz:es.size=xs.length:=size_of_entries h4;refine W.kdl_call (zda lo) (I.ok.hd hc) ⟨o,h1,h2,h3⟩ (by omega) fun h' tk acc c' hk hS hacc=>?_;have hv:xp (xs.map fun x=>V.ref x.2.1) acc.toList:=jo (by simp [hacc.1,hsz]) fun i v hv=>by
  obtain ⟨e,he,rfl⟩:=hacc.2 i v (by simpa using hv);rw [entry_at h4] at he;obtain ⟨x,hx,rfl⟩:=Option.map_eq_some_iff.mp he;exact ⟨.ref x.2.1,by simp [hx],rfl⟩
 refine ⟨.ref _,upd H _ (.lst (xs.map fun x=>V.ref x.2.1)),I.laid (t':=tk) hk (Nat.le_refl _) ?_,rfl,q _ (zg4 rel) _ (I.hok.fresh (Nat.le_refl _))⟩;exact ⟨by simpa [hl] using z,acc.toList,c',hv,by simpa using hS⟩
def z5C(kvs:List (List Key×V)):List D:=kvs.map fun p=>.tup (p.1.map z5y)
theorem z7H{mg:Gm}{H:Hp}{Y:List Addr}:∀ {kvs:List (List Key×V)}{ys:List V},z8H H kvs ys->zA mg H Y (z5C kvs) ys
 | [],_,h=>by cases h;exact zA.nil | p::kvs,_,h=>by cases h with | @cons _ y _ ys h t=>
  obtain ⟨b,rfl,hb⟩:=h;refine zA.cons ?_ (z7H t);simp only [Den];exact ⟨b,_,rfl,hb,z3V _⟩
def zj5:List D->Sto->R D
 | [.dlo l],s=>match (s[l]?).bind z8o with | some kvs=>.ok (.lst (z5C kvs)) s | none=>.no
 | _,_=>.no
variable {X:Cx}{E:XK}
theorem z2F:∀ kvs:List (List Key×V),D.flat.flats (z5C kvs)=true
 | []=>rfl | (k,v)::r=>by
  simp only [z5C,List.map_cons,D.flat.flats,D.flat,z0D,Bool.true_and];exact z2F r
def z1m:List D->Sto->R D
 | [.dlo l],s=>match (s[l]?).bind z8o with | some kvs=>.ok (.loc s.length) (s++[z5C kvs]) | none=>.no
 | _,_=>.no
theorem zaQ(hc:X.calm=true):∃ r,wl X (.type "list") r/\kO X E r z1m:=⟨_,z8x hc,fun H Y s ds vs Q r hd h=>by
 unfold z1m at h;split at h
 ·rename_i l;split at h
  ·rename_i kvs e;obtain ⟨v,rfl,dn⟩:=z28 hd;simp only [Den] at dn;obtain ⟨a,rfl,e1,ka⟩:=dn;obtain ⟨xs,ex,edc⟩:=Option.bind_eq_some_iff.mp e;obtain ⟨kvs',q1,q2⟩:=r.dic ex e1 ka;obtain ⟨z1,z2,z3⟩:=z3M q2;rw [z3] at edc;cases edc;exact ⟨a,_,rfl,q1,fun ys hy=>zbZ r h (z2F _) (z7H hy)⟩
  ·exact h.elim
 ·exact h.elim⟩
section
variable {pos:Pos}
def gPP(i j k l:Nat):FG:=fun d Z s=>match d with
 | .tup [.tup [x,y],.tup [z,u]]=>.ok ((((Z.set i (some x)).set j (some y)).set k (some z)).set l (some u)) s | _=>.no
theorem zjc(i j k l:Nat){x y z u:Str}{p1 p2 px py pz pu:Pos}{k1 k2 kt:Nat}(hc:X.calm=true)(hN:X.N.Nodup)(hi:X.N[i]? = some x:=by rfl)(hj:X.N[j]? = some y:=by rfl)(hk:X.N[k]? = some z:=by rfl)(hl:X.N[l]? = some u:=by rfl) (hx:Loc X.env.scope x:=by first | exact Or.inl rfl | exact Or.inr rfl)(hy:Loc X.env.scope y:=by first | exact Or.inl rfl | exact Or.inr rfl)(hz:Loc X.env.scope z:=by first | exact Or.inl rfl | exact Or.inr rfl)(hu:Loc X.env.scope u:=by first | exact Or.inl rfl | exact Or.inr rfl) (hf:X.fn x=true\/X.env.scope.names.lookup x=some .local:=by first | exact .inl rfl | exact .inr rfl | assumption)(hf':X.fn y=true\/X.env.scope.names.lookup y=some .local:=by first | exact .inl rfl | exact .inr rfl | assumption)(hf2:X.fn z=true\/X.env.scope.names.lookup z=some .local:=by first | exact .inl rfl | exact .inr rfl | assumption)(hf3:X.fn u=true\/X.env.scope.names.lookup u=some .local:=by first | exact .inl rfl | exact .inr rfl | assumption): RG X E (.Tuple [.Tuple [.Name x px,.Name y py] k1 p1,.Tuple [.Name z pz,.Name u pu] k2 p2] kt pos) (gPP i j k l):= z6A (z2W hc (xx (z2W hc (xx (zX hN hi hx hf) (xx (zX hN hj hy hf') kK))) (xx (z2W hc (xx (zX hN hk hz hf2) (xx (zX hN hl hu hf3) kK))) kK))) fun v O H Q ⟨Y,Z,s,d,r,en,dn,h⟩=>by
  unfold gPP at h;split at h
  ·rename_i d1 d2 d3 d4;obtain ⟨p,vs,rfl,q1,q2⟩:=vG (K:=X.K) dn;obtain ⟨v1,v2,rfl,e1,e2⟩:=z0I q2;obtain ⟨p',vs',rfl,q1',q2'⟩:=vG (K:=X.K) e1;obtain ⟨w1,w2,rfl,f1,f2⟩:=z0I q2';obtain ⟨p'',vs'',rfl,q1'',q2''⟩:=vG (K:=X.K) e2;obtain ⟨w3,w4,rfl,f3,f4⟩:=z0I q2'';exact ⟨p,[_,_],rfl,q1,rfl,_,[_],rfl,⟨p',[w1,w2],rfl,q1',rfl,w1,[w2],rfl,w2,[],rfl,rfl,_,[],rfl,⟨p'',[w3,w4],rfl,q1'',rfl,w3,[w4],rfl,w4,[],rfl,rfl,rfl,okR.here h r ((((en.set f1 i).set f2 j).set f3 k).set f4 l)⟩⟩⟩
  ·exact h.elim
end
def zcB:List D->Option (List Int)
 | []=>some [] | .int i::r=>(zcB r).map (i::·) | _=>none
def zcy:D->Option (List Int)
 | .tup ds=>zcB ds | _=>none
def z4e:List D->Option (List (List Int))
 | []=>some [] | d::ds=>match zcy d,z4e ds with | some n,some ns=>some (n::ns) | _,_=>none
theorem z72:∀ ns:List Int,zcB (ns.map D.int)=some ns
 | []=>rfl | i::r=>by simp [zcB,z72 r]
theorem z9Y:∀ {ds:List D}{ns:List Int},zcB ds=some ns->ds=ns.map D.int
 | [],_,e=>by simp [zcB] at e;subst e;rfl | d::r,ns,e=>by cases d with
  | int i=>
   simp only [zcB,Option.map_eq_some_iff] at e;obtain ⟨a,h1,rfl⟩:=e;rw [z9Y h1];rfl | _=>simp [zcB] at e
theorem z6D(ns:List Int):zcy (.tup (ns.map D.int))=some ns:=z72 ns
theorem zel{d:D}{ns:List Int}(e:zcy d=some ns):d=.tup (ns.map D.int):=by cases d with
 | tup ds=>simp only [zcy] at e;rw [z9Y e] | _=>simp [zcy] at e
theorem z5h:∀ L:List (List Int),z4e (L.map fun ns=>.tup (ns.map D.int))=some L
 | []=>rfl | n::L=>by simp only [List.map_cons,z4e,z6D,z5h L]
def AtN(H:Hp)(v:V)(ns:List Int):Prop:=∃ b,v=.ref b/\H b=some (.tup (ns.map V.int))
theorem z78:∀ {a b:List Int},a.map V.int=b.map V.int->a=b
 | [],[],_=>rfl | [],_::_,h=>by simp at h | _::_,[],h=>by simp at h | x::a,y::b,h=>by
  simp only [List.map_cons,List.cons.injEq,V.int.injEq] at h;rw [h.1,z78 h.2]
theorem z7x{mg:Gm}{H:Hp}{Y:List Addr}{d:D}{v:V}{ns:List Int}(h:zcy d=some ns)(dn:Den mg H Y d v):AtN H v ns:=by
 rw [zel h] at dn;simp only [Den] at dn;obtain ⟨a,vs,rfl,e,dd⟩:=dn;have:∀ {ns:List Int}{vs:List V},zA mg H Y (ns.map D.int) vs->vs=ns.map V.int:=by
  intro ns;induction ns with
  | nil=>intro vs h;simpa [zA] using h | cons i r ih=>
   intro vs h;simp only [List.map_cons,zA] at h;obtain ⟨v,r',rfl,h1,h2⟩:=h;rw [yg h1,ih h2];rfl
 rw [this dd] at e;exact ⟨a,rfl,e⟩
theorem z5u{mg:Gm}{H:Hp}{Y:List Addr}:∀ {ds:List D}{vs:List V}{L:List (List Int)},z4e ds=some L->zA mg H Y ds vs->Paired (fun v ns=>AtN H v ns) vs L
 | [],_,_,h,dn=>by simp only [z4e,Option.some.injEq] at h;simp only [zA] at dn;subst dn;subst h;exact .nil | d::ds,_,_,h,dn=>by
  simp only [zA] at dn;obtain ⟨v,vs,rfl,h1,h2⟩:=dn;simp only [z4e] at h;split at h
  ·rename_i n ns e1 e2;cases h;exact .cons (z7x e1 h1) (z5u e2 h2)
  ·cases h
theorem ku:∀ ns:List Int,PyData.canLayAll0 (toPys (ns.map D.int))=true/\PyData.depthAll (toPys (ns.map D.int))<=1
 | []=>by decide | i::k=>by
  have:=ku k;simp only [List.map_cons,xG,toPys,PyData.canLayAll0,PyData.canLay0,PyData.depthAll,PyData.depth,Bool.true_and,this.1,true_and];omega
theorem z7F:∀ a b:List Int,PyData.eqvAll (toPys (a.map D.int)) (toPys (b.map D.int))=decide (a=b)
 | [],[]=>by simp [toPys,PyData.eqvAll] | [],_::_=>by simp [toPys,PyData.eqvAll] | _::_,[]=>by simp [toPys,PyData.eqvAll] | x::a,y::b=>by
  simp only [List.map_cons,toPys,xG,PyData.eqvAll,PyData.eqv,z7F a b,List.cons.injEq];by_cases h:x=y<;>by_cases h2:a=b<;>simp [h,h2]
section
variable {X:Cx}{pins:List (Addr×Obj)}{O:L2.St}{H:Hp}{s:Shared}
theorem AtN.reads (mg:Gm) {h:Heap} {P:Program} {w:World} (ok:HOk P w H h) {v:V} {u:Value} {ns:List Int} (a:AtN H v ns) (r:xn v u):∃ as,Reads h u (xG (.tup (ns.map D.int))) as:=by
 refine Den.reads (mg:=mg) (Y:=[]) (H:=H) (v:=v) ok (by simp only [xG,PyData.canLay0];exact (ku ns).1) ?_ r;obtain ⟨b,rfl,e⟩:=a;simp only [Den];refine ⟨b,_,rfl,e,?_⟩;clear e;induction ns with
 | nil=>exact zA.nil | cons i r ih=>exact zA.cons yC ih
theorem AtN.eqAt(mg:Gm){A:Around}{P:Program}{w:World}(ok:HOk P w H s.heap)(hu:A.units+2<cLine){v x:V}{u y:Value}{ns ms:List Int}(a:AtN H v ns)(r:xn v u)(b:AtN H x ms)(q:xn x y): SeqAt.EqAt A s u y (decide (ns=ms)):=by
 obtain ⟨as,ra⟩:=a.reads mg ok r;obtain ⟨bs,rb⟩:=b.reads mg ok q;have h:=SeqAt.eqAt_reads _ _ A s u y as bs ra rb (by simp only [xG,PyData.canLay0];exact (ku ns).1) (by simp only [xG,PyData.canLay0];exact (ku ms).1) (by
  have h1:=(ku ns).2;have h2:min (xG (.tup (ns.map D.int))).depth (xG (.tup (ms.map D.int))).depth<=(xG (.tup (ns.map D.int))).depth:=Nat.min_le_left _ _;have h3:(xG (.tup (ns.map D.int))).depth<=2:=by simp only [xG,PyData.depth];omega
  omega);rw [show PyData.eqv (xG (.tup (ns.map D.int))) (xG (.tup (ms.map D.int)))=decide (ns=ms) by simp only [xG,PyData.eqv,z7F]] at h;exact h
end
section
variable {X:Cx}{E:XK}
open Classical in
def eqN(H:Hp)(ms:List Int)(u:Value):Bool:=match u with
 | .ref b=>if h:∃ ns:List Int,H b=some (.tup (ns.map V.int)) then decide (h.choose=ms) else false | _=>false
theorem zco{H:Hp}{ms ns:List Int}{v:V}{u:Value}(a:AtN H v ns)(r:xn v u):eqN H ms u=decide (ns=ms):=by
 obtain ⟨b,rfl,e⟩:=a;cases (show u=Value.ref b from r);have h:∃ ns:List Int,H b=some (.tup (ns.map V.int)):=⟨ns,e⟩;have e2:=e.symm.trans h.choose_spec;simp only [Option.some.injEq,HO.tup.injEq] at e2;simp only [eqN,h,dite_true];rw [<- z78 e2]
theorem z1g{H:Hp}{ms:List Int}:∀ {xs:List V}{us:List Value}{L:List (List Int)},xp xs us->Paired (fun v ns=>AtN H v ns) xs L->us.any (eqN H ms)=L.any fun ns=>decide (ns=ms)
 | _,_,_,.nil,.nil=>rfl | y::xs,u::us,ns::L,.cons r t,.cons a p=>by rw [List.any_cons,List.any_cons,zco a r,z1g t p]
theorem z10(mg:Gm){H:Hp}{A:Around}{s:Shared}{P:Program}{w:World}(ok:HOk P w H s.heap)(hu:A.units+2<cLine){ms:List Int}{x:V}{v:Value}(a:AtN H x ms)(rx:xn x v): ∀ {xs:List V}{us:List Value}{L:List (List Int)},xp xs us->Paired (fun v ns=>AtN H v ns) xs L->∀ u∈us,SeqAt.EqAt A s u v (eqN H ms u)
 | _,_,_,.nil,.nil=>fun u hu=>by cases hu | y::xs,u::us,ns::L,.cons r t,.cons b p=>fun u' hu'=>by
  rcases List.mem_cons.mp hu' with rfl | hu';·rw [zco b r];exact b.eqAt mg ok hu r a rx
  ·exact z10 mg ok hu a rx t p u' hu'
def zie(K:W.Frag)(neg:Bool):R2:=fun x y H Q=>∃ p xs ms L,y=.ref p/\(SqL K H p xs\/SqT K H p xs)/\AtN H x ms/\Paired (fun v ns=>AtN H v ns) xs L/\Q (.bl (if neg then !(L.any fun ns=>decide (ns=ms)) else L.any fun ns=>decide (ns=ms))) H
theorem ziI(hu:X.A.units+64<cLine):OpR X (compareOp .In) (zie X.K false):=by
 intro pins s O H x y v u Q I rx ry h;obtain ⟨p,xs,ms,L,rfl,hq,fx,fs,q⟩:=h;cases ry;have hu':X.A.in1.units+2<cLine:=by have:X.A.in1.units=X.A.units+1:=rfl;omega
 rcases hq with hq | hq
 ·obtain ⟨its,r,pl,hz⟩:=I.list hq;refine SeqAt.in_listAt (eqN H ms) pl.isList (fun w hw=>z10 (gm X) I.hok hu' fx rx r fs w (by simpa using hw)) ⟨.bl _,H,I,rfl,?_⟩;rw [show its.toArray.any (eqN H ms)=its.any (eqN H ms) by simp,z1g r fs];exact q
 ·obtain ⟨its,r,pl,hz⟩:=I.tuple hq;refine SeqAt.in_tupleAt (eqN H ms) pl (fun w hw=>z10 (gm X) I.hok hu' fx rx r fs w (by simpa using hw)) ⟨.bl _,H,I,rfl,?_⟩;rw [show its.toArray.any (eqN H ms)=its.any (eqN H ms) by simp,z1g r fs];exact q
theorem z9x(hu:X.A.units+64<cLine):OpR X (compareOp .NotIn) (zie X.K true):=by
 intro pins s O H x y v u Q I rx ry h;obtain ⟨p,xs,ms,L,rfl,hq,fx,fs,q⟩:=h;cases ry;have hu':X.A.in1.units+2<cLine:=by have:X.A.in1.units=X.A.units+1:=rfl;omega
 rcases hq with hq | hq
 ·obtain ⟨its,r,pl,hz⟩:=I.list hq;refine SeqAt.notIn_listAt (eqN H ms) pl.isList (fun w hw=>z10 (gm X) I.hok hu' fx rx r fs w (by simpa using hw)) ⟨.bl _,H,I,rfl,?_⟩;rw [show its.toArray.any (eqN H ms)=its.any (eqN H ms) by simp,z1g r fs];exact q
 ·obtain ⟨its,r,pl,hz⟩:=I.tuple hq;refine SeqAt.notIn_tupleAt (eqN H ms) pl (fun w hw=>z10 (gm X) I.hok hu' fx rx r fs w (by simpa using hw)) ⟨.bl _,H,I,rfl,?_⟩;rw [show its.toArray.any (eqN H ms)=its.any (eqN H ms) by simp,z1g r fs];exact q
def zfp(neg:Bool)(x y:D)(s:Sto):R D:=match zcy x,(zL s y).bind z4e with
 | some ms,some L=>.ok (.bl (if neg then !(L.any fun ns=>decide (ns=ms)) else L.any fun ns=>decide (ns=ms))) s | _,_=>.no
theorem zew{neg:Bool}:OpF X E (zie X.K neg) (zfp neg):=fun H Y s d1 d2 v1 v2 Q r h1 h2 h=>by
 unfold zfp at h;split at h
 ·rename_i ms L e1 e2;cases e3:zL s d2 with
  | none=>rw [e3] at e2;cases e2 | some xs=>
   rw [e3] at e2;obtain ⟨a,ws,rfl,q1,q2⟩:=vA (K:=X.K) r e3 h2;exact ⟨a,ws,ms,L,rfl,q1,z7x e1 h1,z5u e2 q2,h.here r vT⟩
 ·exact h.elim
theorem zbs(hu:X.A.units+64<cLine):∃ r,OpR X (compareOp .NotIn) r/\OpF X E r (zfp true):=⟨_,z9x hu,zew⟩
end
end Dd
namespace L2
open PySem.Spec PySem.Builtin.Str
variable {X:Cx}
end L2
namespace Dd
open PySem.Spec L2 PySem.Builtin.Str
end Dd
namespace Zz
abbrev uY(h:Heap)(T:Addr)(a b c:Value):Prop:=h.get? T=some {cls:=.type "tuple",data:=.seq #[a,b,c]}
structure zgQ(z TI TO i1 i2 i3 l1 l2 l3:Addr):Prop where
 TIz:TI≠z
 TOz:TO≠z
 i1z:i1≠z
 i2z:i2≠z
 i3z:i3≠z
 TITO:TI≠TO
 TIi1:TI≠i1
 TIi2:TI≠i2
 TIi3:TI≠i3
 TOi1:TO≠i1
 TOi2:TO≠i2
 TOi3:TO≠i3
 i12:i1≠i2
 i13:i1≠i3
 i23:i2≠i3
 l1z:l1≠z
 l2z:l2≠z
 l2TO:l2≠TO
 l2i1:l2≠i1
 l3z:l3≠z
 l3TO:l3≠TO
 l3i1:l3≠i1
 l3i2:l3≠i2
section
variable {P:Program}{w:World}{A:Around}{E:Value->Shared->Prop}{s:Shared}
theorem uA {T:Addr} {a b c x:Value} {k:Nat} {Q:Unit->Shared->Prop} (hT:uY s.heap T a b c) (h:∀ h',h'.get? T=some {cls:=.type "tuple",data:=.seq ((#[a,b,c]:Array Value).setIfInBounds k x)}->Heap.SameBut T s.heap h'->Q () {s with heap:=h'}): wpAny (model P w) A (updateSeq T (·.setIfInBounds k x)) Q E s:=by
 refine wpAny_updateSeq hT rfl (h _ ?_ (Heap.SameBut.update ..));rw [Heap.get?_update_self _ hT rfl];simp [Obj.mapSeq]
theorem zaB {z TI TO i1 i2 i3 l1 l2 l3:Addr} {b1 b2 b3:Bool} {k:Nat} {xs ys us:Array Value} {x y u a b c:Value} {Q:Option Value->Shared->Prop} (D:zgQ z TI TO i1 i2 i3 l1 l2 l3) (hz:IsZip s.heap z TI TO .none) (hTI:uY s.heap TI (.ref i1) (.ref i2) (.ref i3)) (hTO:uY s.heap TO a b c) (h1:Sit b1 s.heap i1 l1 k) (h2:Sit b2 s.heap i2 l2 k) (h3:Sit b3 s.heap i3 l3 k) (c1:Sco b1 s.heap l1 xs) (c2:Sco b2 s.heap l2 ys) (c3:Sco b3 s.heap l3 us) (ex:xs[k]? = some x) (ey:ys[k]? = some y) (eu:us[k]? = some u) (q:∀ h',IsZip h' z TI TO (rawInt s.heap.objs.size)->uY h' TO x y u->Sit b1 h' i1 l1 (k+1)->Sit b2 h' i2 l2 (k+1)->Sit b3 h' i3 l3 (k+1)->uY h' s.heap.objs.size x y u->h'.objs.size=s.heap.objs.size+1-> (∀ c o,c≠z->c≠TO->c≠i1->c≠i2->c≠i3->s.heap.get? c=some o->h'.get? c=some o)->Q (some (.ref s.heap.objs.size)) {s with heap:=h'}):wpAny (model P w) A (pyNext (.ref z)) Q E s:=by
 have hT:s.TypeIs (.ref z) "zip":=⟨_,hz,rfl⟩;unfold pyNext;refine wpAny_bind (wpAny_attempt (wpAny_callSpecial?_slot (name:=Str.ofString "__next__") hT F.slot_zip_next (wpAny_call_entry F.slot_zip_next hT F.entry_zip_next (Q:=fun v s'=>wpAny (model P w) A (pure (some v)) Q E s') ?_ (F.args_zip_next_1 _))));show wpAny _ _ (field (.ref z) 2 >>= _) _ _ _;refine wpAny_bind (wpAny_field hz rfl (x:=.bool false) rfl ?_);show wpAny _ _ (field (.ref z) 3 >>= _) _ _ _;refine wpAny_bind (wpAny_field hz rfl (x:=.ref TI) rfl ?_);refine wpAny_bind (wpAny_seqItems hTI rfl ?_);show wpAny _ _ (Builtin.SmallTypes.ownedTupleIsFree (.ref z) >>= _) _ _ _;refine wpAny_bind ?_;unfold Builtin.SmallTypes.ownedTupleIsFree;refine wpAny_bind (wpAny_field hz rfl (x:=.none) rfl (wpAny_pure ?_));simp only [if_true];refine wpAny_bind (wpAny_rule ?_);refine wpAny_bind (wpAny_field hz rfl (x:=.ref TO) rfl ?_);refine wpAny_bind (wpAny_setField_rec hz (by simp) fun g1 z1 s1=>?_);replace z1:IsZip g1 z TI TO .ellipsis:=z1;refine wpAny_bind ?_;simp only [List.zipIdx_cons,List.zipIdx_nil,List.forIn_cons,List.forIn_nil];refine wpAny_bind (wpAny_bind (wpAny_onRaise ?_));show wpAny _ _ (Builtin.SmallTypes.nextOf (.ref i1) >>= _) _ _ _;refine wpAny_bind (nx (h1.to fun o e=>ze s1 D.i1z e) (c1.to fun o e=>ze s1 D.l1z e) ex fun g2 t2 s2=>wpAny_pure ?_);have o2:uY g2 TO a b c:=ze s2 D.TOi1 (ze s1 D.TOz hTO);refine wpAny_bind (wpAny_seqItems o2 rfl ?_);refine wpAny_bind (uA o2 fun g3 o3 s3=>?_);replace o3:uY g3 TO x b c:=o3;refine wpAny_bind (wpAny_letGo (wpAny_pure ?_));refine wpAny_bind (wpAny_bind (wpAny_onRaise ?_));show wpAny _ _ (Builtin.SmallTypes.nextOf (.ref i2) >>= _) _ _ _;refine wpAny_bind (nx (h2.to fun o e=>ze s3 D.TOi2.symm (ze s2 D.i12.symm (ze s1 D.i2z e))) (c2.to fun o e=>ze s3 D.l2TO (ze s2 D.l2i1 (ze s1 D.l2z e))) ey fun g4 t4 s4=>wpAny_pure ?_);have o4:uY g4 TO x b c:=ze s4 D.TOi2 o3;refine wpAny_bind (wpAny_seqItems o4 rfl ?_);refine wpAny_bind (uA o4 fun g5 o5 s5=>?_);replace o5:uY g5 TO x y c:=o5;refine wpAny_bind (wpAny_letGo (wpAny_pure ?_));refine wpAny_bind (wpAny_bind (wpAny_onRaise ?_));show wpAny _ _ (Builtin.SmallTypes.nextOf (.ref i3) >>= _) _ _ _;refine wpAny_bind (nx (h3.to fun o e=>ze s5 D.TOi3.symm (ze s4 D.i23.symm (ze s3 D.TOi3.symm (ze s2 D.i13.symm (ze s1 D.i3z e))))) (c3.to fun o e=>ze s5 D.l3TO (ze s4 D.l3i2 (ze s3 D.l3TO (ze s2 D.l3i1 (ze s1 D.l3z e))))) eu fun g6 t6 s6=>wpAny_pure ?_);have o6:uY g6 TO x y c:=ze s6 D.TOi3 o5;refine wpAny_bind (wpAny_seqItems o6 rfl ?_);refine wpAny_bind (uA o6 fun g7 o7 s7=>?_);replace o7:uY g7 TO x y u:=o7;refine wpAny_bind (wpAny_letGo (wpAny_pure (wpAny_pure ?_)));refine wpAny_bind (wpAny_seqItems o7 rfl ?_);refine wpAny_bind (wpAny_newTuple ?_);have sz:g7.objs.size=s.heap.objs.size:=by rw [s7.1,s6.1,s5.1,s4.1,s3.1,s2.1,s1.1]
 have z7:IsZip g7 z TI TO .ellipsis:=ze s7 D.TOz.symm (ze s6 D.i3z.symm (ze s5 D.TOz.symm (ze s4 D.i2z.symm (ze s3 D.TOz.symm (ze s2 D.i1z.symm z1)))));have k7:∀ c o,c≠z->c≠TO->c≠i1->c≠i2->c≠i3->s.heap.get? c=some o->g7.get? c=some o:=fun c o n1 n2 n3 n4 n5 e=>ze s7 n2 (ze s6 n5 (ze s5 n2 (ze s4 n4 (ze s3 n2 (ze s2 n3 (ze s1 n1 e))))));have t7:Sit b1 g7 i1 l1 (k+1):=t2.to fun o e=>ze s7 D.TOi1.symm (ze s6 D.i13 (ze s5 D.TOi1.symm (ze s4 D.i12 (ze s3 D.TOi1.symm e))));have u7:Sit b2 g7 i2 l2 (k+1):=t4.to fun o e=>ze s7 D.TOi2.symm (ze s6 D.i23 (ze s5 D.TOi2.symm e));have v7:Sit b3 g7 i3 l3 (k+1):=t6.to fun o e=>ze s7 D.TOi3.symm e;have zl:z<g7.objs.size:=Heap.lt_size z7;show wpAny _ _ (Builtin.SmallTypes.ownedTupleHandOut (.ref z) (.ref g7.objs.size) >>= _) _ _ _;refine wpAny_bind ?_;unfold Builtin.SmallTypes.ownedTupleHandOut;have z8:IsZip (g7.push {cls:=.type "tuple",data:=.seq #[x,y,u]}) z TI TO .ellipsis:=Heap.get?_push_of_some _ z7;refine wpAny_bind (wpAny_setField_rec z8 (by simp) fun g9 z9 s9=>?_);replace z9:IsZip g9 z TI TO (rawInt g7.objs.size):=z9;refine wpAny_setField_rec z9 (by simp) fun g8 zz s8=>?_;replace zz:IsZip g8 z TI TO (rawInt g7.objs.size):=zz;have up:∀ c o,c≠z->g7.get? c=some o->g8.get? c=some o:=fun c o n e=>ze s8 n (ze s9 n (Heap.get?_push_of_some _ e));have p8:uY g8 g7.objs.size x y u:=ze s8 (Nat.ne_of_gt zl) (ze s9 (Nat.ne_of_gt zl) (Heap.get?_push_size _ rfl));have e8:g8.objs.size=g7.objs.size+1:=by rw [s8.1,s9.1,Heap.size_push]
 rw [sz] at zz p8 e8;refine wpAny_pure ⟨_,rfl,wpAny_pure ?_⟩;show Q (some (.ref g7.objs.size)) _;rw [sz];exact q g8 zz (up _ _ D.TOz o7) (t7.to fun o e=>up _ o D.i1z e) (u7.to fun o e=>up _ o D.i2z e) (v7.to fun o e=>up _ o D.i3z e) p8 e8 fun c o n1 n2 n3 n4 n5 e=>up c o n1 (k7 c o n1 n2 n3 n4 n5 e)
theorem zdA {z TI TO i1 i2 i3 l1 l2 l3:Addr} {b1:Bool} {k:Nat} {xs:Array Value} {Q:Option Value->Shared->Prop} (hh:A.handled=none) (D:zgQ z TI TO i1 i2 i3 l1 l2 l3) (hz:IsZip s.heap z TI TO .none) (hTI:uY s.heap TI (.ref i1) (.ref i2) (.ref i3)) (h1:Sit b1 s.heap i1 l1 k) (c1:Sco b1 s.heap l1 xs) (ex:xs[k]? = none) (q:∀ h',(∀ c o,c≠z->c≠i1->s.heap.get? c=some o->h'.get? c=some o)->Q none {s with heap:=h'}):wpAny (model P w) A (pyNext (.ref z)) Q E s:=by
 have hT:s.TypeIs (.ref z) "zip":=⟨_,hz,rfl⟩;have fin:∀ h' e,(∀ c o,c≠z->c≠i1->s.heap.get? c=some o->h'.get? c=some o)->(∃ o,h'.get? e=some o/\o.cls=.type "StopIteration")-> wpAny (model P w) A (isInstance (.ref e) (.type "StopIteration") >>= fun b=>if b=true then (pure none:Sem (Option Value)) else throw (.ref e)) Q E {s with heap:=h'}:=fun h' e hk he=>by
  obtain ⟨o,ho,hc⟩:=he;refine wpAny_bind (wpAny_isInstance (T:="StopIteration") (b:=true) ⟨o,ho,hc⟩ isSubtype_stop ?_);exact wpAny_pure (q _ hk)
 unfold pyNext;refine wpAny_bind (wpAny_attempt (wpAny_callSpecial?_slot (name:=Str.ofString "__next__") hT F.slot_zip_next (wpAny_call_entry F.slot_zip_next hT F.entry_zip_next ?_ (F.args_zip_next_1 _))));show wpAny _ _ (field (.ref z) 2 >>= _) _ _ _;refine wpAny_bind (wpAny_field hz rfl (x:=.bool false) rfl ?_);show wpAny _ _ (field (.ref z) 3 >>= _) _ _ _;refine wpAny_bind (wpAny_field hz rfl (x:=.ref TI) rfl ?_);refine wpAny_bind (wpAny_seqItems hTI rfl ?_);show wpAny _ _ (Builtin.SmallTypes.ownedTupleIsFree (.ref z) >>= _) _ _ _;refine wpAny_bind ?_;unfold Builtin.SmallTypes.ownedTupleIsFree;refine wpAny_bind (wpAny_field hz rfl (x:=.none) rfl (wpAny_pure ?_));simp only [if_true];refine wpAny_bind (wpAny_rule ?_);refine wpAny_bind (wpAny_field hz rfl (x:=.ref TO) rfl ?_);refine wpAny_bind (wpAny_setField_rec hz (by simp) fun g1 z1 s1=>?_);replace z1:IsZip g1 z TI TO .ellipsis:=z1;refine wpAny_bind ?_;simp only [List.zipIdx_cons,List.zipIdx_nil,List.forIn_cons,List.forIn_nil];refine wpAny_bind (wpAny_bind (wpAny_onRaise ?_));show wpAny _ _ (Builtin.SmallTypes.nextOf (.ref i1) >>= _) _ _ _;refine wpAny_bind (z8X hh (h1.to fun o e=>ze s1 D.i1z e) (c1.to fun o e=>ze s1 D.l1z e) ex fun g2 e s2 he=>?_);obtain ⟨oe,hoe,hce⟩:=he;have z2:IsZip g2 z TI TO .ellipsis:=s2 _ _ D.i1z.symm z1;have ez:e≠z:=fun t=>by subst t;rw [z2] at hoe;cases hoe;simp at hce
 exact wpAny_setField_rec z2 (by simp) fun g3 _ s3=>fin g3 e (fun c o n1 n3 t=>ze s3 n1 (s2 _ _ n3 (ze s1 n1 t))) ⟨oe,ze s3 ez hoe,hce⟩
end
theorem z2j(a b c:Value):checkTypeCall "zip" ⟨[a,b,c],[]⟩=pure ():=by kernel_rfl
theorem z3L(a b c:Value):checkBuiltinCall "zip.__new__" ⟨[.type "zip",a,b,c],[]⟩=pure ():=by kernel_rfl
theorem jD (a b c d:Value):argsOk "object.__init__" ⟨[a,b,c,d],[]⟩:=by unfold argsOk;rw [signature?_of (id:="object.__init__") (n:=['_','_','t','i','n','i','_','_']) (o:=['t','c','e','j','b','o']) (by kernel_rfl) F.owner_object];kernel_rfl
abbrev T1(b1:Bool)(h:Heap)(l1:Addr):Heap:=h.push (itO b1 l1)
abbrev T2(b1 b2:Bool)(h:Heap)(l1 l2:Addr):Heap:=(T1 b1 h l1).push (itO b2 l2)
abbrev T3(b1 b2 b3:Bool)(h:Heap)(l1 l2 l3:Addr):Heap:=(T2 b1 b2 h l1 l2).push (itO b3 l3)
abbrev T4(b1 b2 b3:Bool)(h:Heap)(l1 l2 l3:Addr):Heap:=(T3 b1 b2 b3 h l1 l2 l3).push {cls:=.type "tuple",data:=.seq #[.ref h.objs.size,.ref (T1 b1 h l1).objs.size,.ref (T2 b1 b2 h l1 l2).objs.size]}
abbrev T5(b1 b2 b3:Bool)(h:Heap)(l1 l2 l3:Addr):Heap:=(T4 b1 b2 b3 h l1 l2 l3).push {cls:=.type "tuple",data:=.seq #[.none,.none,.none]}
abbrev T6(b1 b2 b3:Bool)(h:Heap)(l1 l2 l3:Addr):Heap:=(T5 b1 b2 b3 h l1 l2 l3).push {cls:=.type "zip",data:=.fields #[.none,.bool false,.bool false,.ref (T3 b1 b2 b3 h l1 l2 l3).objs.size,.ref (T4 b1 b2 b3 h l1 l2 l3).objs.size]}
theorem z8f (b1 b2 b3:Bool) (l1 l2 l3:Addr) (xs ys us:Array Value): Meets (Builtin.«zip.__new__» ⟨[.type "zip",.ref l1,.ref l2,.ref l3],[]⟩) (fun _ R s=>Sco b1 s.heap l1 xs/\Sco b2 s.heap l2 ys/\Sco b3 s.heap l3 us/\R (.ok (.ret (.ref (T5 b1 b2 b3 s.heap l1 l2 l3).objs.size))) {s with heap:=T6 b1 b2 b3 s.heap l1 l2 l3}):= .of_wp fun prog w A R s h=>by
  obtain ⟨hp,g,d,tk,os⟩:=s;obtain ⟨c1,c2,c3,h⟩:=h;have hsub:=sub_zip;have q1:Sco b1 (Shared.heap ⟨hp,g,d,tk,os⟩) l1 xs:=c1;have q2:Sco b2 (Shared.heap ⟨hp.push (itO b1 l1),g,d,tk,os⟩) l2 ys:=c2.to fun o e=>Heap.get?_push_of_some _ e;have q3:Sco b3 (Shared.heap ⟨(hp.push (itO b1 l1)).push (itO b2 l2),g,d,tk,os⟩) l3 us:=c3.to fun o e=>Heap.get?_push_of_some _ (Heap.get?_push_of_some _ e);wp_walk using z2G q1,z2G q2,z2G q3;exact ⟨_,rfl,h⟩
section
variable {P:Program}{w:World}{A:Around}{E:Value->Shared->Prop}{s:Shared}
theorem za2 {b1 b2 b3:Bool} {l1 l2 l3:Addr} {xs ys us:Array Value} {Q:Value->Shared->Prop} (c1:Sco b1 s.heap l1 xs) (c2:Sco b2 s.heap l2 ys) (c3:Sco b3 s.heap l3 us) (h:∀ h',IsZip h' (s.heap.objs.size+5) (s.heap.objs.size+3) (s.heap.objs.size+4) .none->uY h' (s.heap.objs.size+3) (.ref s.heap.objs.size) (.ref (s.heap.objs.size+1)) (.ref (s.heap.objs.size+2))-> uY h' (s.heap.objs.size+4) .none .none .none->Sit b1 h' s.heap.objs.size l1 0->Sit b2 h' (s.heap.objs.size+1) l2 0->Sit b3 h' (s.heap.objs.size+2) l3 0->(∀ c o,s.heap.get? c=some o->h'.get? c=some o)->Q (.ref (s.heap.objs.size+5)) {s with heap:=h'}): wpAny (model P w) A (call (.type "zip") [.ref l1,.ref l2,.ref l3]) Q E s:=by
 refine callType_new F.called_zip (by decide) (z2j _ _ _) (z3L _ _ _) (fun obj=>jD obj _ _ _) F.entry_zip_new (z8f b1 b2 b3 l1 l2 l3 xs ys us) ⟨c1,c2,c3,?_⟩;have z1:(T1 b1 s.heap l1).objs.size=s.heap.objs.size+1:=Heap.size_push ..;have z2:(T2 b1 b2 s.heap l1 l2).objs.size=s.heap.objs.size+2:=by rw [Heap.size_push,z1]
 have z3:(T3 b1 b2 b3 s.heap l1 l2 l3).objs.size=s.heap.objs.size+3:=by rw [Heap.size_push,z2]
 have z4:(T4 b1 b2 b3 s.heap l1 l2 l3).objs.size=s.heap.objs.size+4:=by rw [Heap.size_push,z3]
 have z5:(T5 b1 b2 b3 s.heap l1 l2 l3).objs.size=s.heap.objs.size+5:=by rw [Heap.size_push,z4]
 have up:∀ {h:Heap} {o:Obj} {c:Addr} {u:Obj},h.get? c=some u->(h.push o).get? c=some u:=fun e=>Heap.get?_push_of_some _ e;have g6:(T6 b1 b2 b3 s.heap l1 l2 l3).get? (T5 b1 b2 b3 s.heap l1 l2 l3).objs.size=some _:=Heap.get?_push_size _ rfl;have g5:(T6 b1 b2 b3 s.heap l1 l2 l3).get? (T4 b1 b2 b3 s.heap l1 l2 l3).objs.size=some _:=up (Heap.get?_push_size _ rfl);have g4:(T6 b1 b2 b3 s.heap l1 l2 l3).get? (T3 b1 b2 b3 s.heap l1 l2 l3).objs.size=some _:=up (up (Heap.get?_push_size _ rfl));have g3:(T6 b1 b2 b3 s.heap l1 l2 l3).get? (T2 b1 b2 s.heap l1 l2).objs.size=some (itO b3 l3):=up (up (up (Heap.get?_push_size _ (qP b3 l3))));have g2:(T6 b1 b2 b3 s.heap l1 l2 l3).get? (T1 b1 s.heap l1).objs.size=some (itO b2 l2):=up (up (up (up (Heap.get?_push_size _ (qP b2 l2)))));have g1:(T6 b1 b2 b3 s.heap l1 l2 l3).get? s.heap.objs.size=some (itO b1 l1):=up (up (up (up (up (Heap.get?_push_size _ (qP b1 l1))))));show _/\_;rw [z3,z4,z5] at g6;rw [z1,z2,z3] at g4;rw [z4] at g5;rw [z2] at g3;rw [z1] at g2;rw [z5];exact ⟨⟨_,g6,rfl⟩,h _ g6 g4 g5 (z13 g1) (z13 g2) (z13 g3) fun c o e=>up (up (up (up (up (up e)))))⟩
end
end Zz
namespace L2
open PySem.Spec Zz
def ziL(K:W.Frag)(b1 b2 b3:Bool)(l1 l2 l3:Addr):It:= ⟨fun i H=>∃ xs ys us x y u,Sq b1 K H l1 xs/\Sq b2 K H l2 ys/\Sq b3 K H l3 us/\xs[i]? = some x/\ys[i]? = some y/\us[i]? = some u, fun i H v H'=>∃ T x y u,H T=none/\v=.ref T/\H'=upd H T (.tup [x,y,u])/\(∀ xs,Sq b1 K H l1 xs->xs[i]? = some x)/\(∀ ys,Sq b2 K H l2 ys->ys[i]? = some y)/\∀ us,Sq b3 K H l3 us->us[i]? = some u, fun i H=>∃ xs,Sq b1 K H l1 xs/\xs.length<=i⟩
theorem z92 {P:Program} {w:World} {K:W.Frag} {elts:List Expr} {kt:Nat} {tp:Pos} {b1 b2 b3:Bool} {z TI TO i1 i2 i3 l1 l2 l3:Addr} (D:zgQ z TI TO i1 i2 i3 l1 l2 l3): zdm P w K (.Tuple elts kt tp) (ziL K b1 b2 b3 l1 l2 l3) [z,TI,TO,i1,i2,i3] z (fun i h=>IsZip h z TI TO .none/\uY h TI (.ref i1) (.ref i2) (.ref i3)/\(∃ a b c,uY h TO a b c)/\Sit b1 h i1 l1 i/\Sit b2 h i2 l2 i/\Sit b3 h i3 l3 i) where
 mem:=by simp
 obj:=fun i h ⟨hz,hTI,⟨a,b,c',hTO⟩,h1,h2,h3⟩ c hc=>by
  have hc':c=z\/c=TI\/c=TO\/c=i1\/c=i2\/c=i3:=by simpa using hc
  rcases hc' with rfl | rfl | rfl | rfl | rfl | rfl;·exact ⟨_,hz,fun v e=>by simp at e⟩
  ·exact ⟨_,hTI,fun v e=>by simp at e⟩
  ·exact ⟨_,hTO,fun v e=>by simp at e⟩
  ·exact h1.ob
  ·exact h2.ob
  ·exact h3.ob
 keep:=fun i h h' ⟨hz,hTI,⟨a,b,c,hTO⟩,h1,h2,h3⟩ k=>⟨k z (by simp) _ hz,k TI (by simp) _ hTI,⟨a,b,c,k TO (by simp) _ hTO⟩,h1.to fun o e=>k i1 (by simp) o e,h2.to fun o e=>k i2 (by simp) o e,h3.to fun o e=>k i3 (by simp) o e⟩;item:=by
  intro X hP hw hK hc i pins s O H E I hf ⟨hz,hTI,⟨a,b,c0,hTO⟩,h1,h2,h3⟩ ⟨xs,ys,us,x,y,u0,qx,qy,qu,ex,ey,eu⟩;subst hP hw hK;obtain ⟨ix,rx,cx⟩:=I.sq qx;obtain ⟨iy,ry,cy⟩:=I.sq qy;obtain ⟨iu,ru',cu⟩:=I.sq qu;obtain ⟨u,hu,ru⟩:=rx.get ex;obtain ⟨v,hv,rv⟩:=ry.get ey;obtain ⟨t,ht,rt⟩:=ru'.get eu;refine zaB D hz hTI hTO h1 h2 h3 cx cy cu (x:=u) (y:=v) (u:=t) (by simpa using hu) (by simpa using hv) (by simpa using ht) fun g a1 a2 a3 a4 a4' a5 a6 hk=>⟨_,rfl,?_⟩;have kk:∀ c o,c∉[z,TO,i1,i2,i3]->s.heap.get? c=some o->g.get? c=some o:=fun c o n e=>hk c o (fun t=>n (by simp [t])) (fun t=>n (by simp [t])) (fun t=>n (by simp [t])) (fun t=>n (by simp [t])) (fun t=>n (by simp [t])) e;have sub:∀ c∈[z,TO,i1,i2,i3],c∈[z,TI,TO,i1,i2,i3]:=fun c hc=>by
   have:c=z\/c=TO\/c=i1\/c=i2\/c=i3:=by simpa using hc
   rcases this with rfl | rfl | rfl | rfl | rfl<;>simp
  have I1:Inv X pins O H {s with heap:=g}:=I.turnedL (t':=s.toks) kk fun c hc=>hf c (sub c hc);refine wpAny_letOwnedTupleGo_zip a1 fun g2 z2 s2=>?_;obtain ⟨f0,f1,f2,f3,f4,f5⟩:=hf z (by simp);have I2:Inv X pins O H {s with heap:=g2}:=I1.turned (t':=s.toks) (fun c o n e=>ze s2 n e) f0 f1 f3 f4 f5;have new:z5A X pins H s.heap.objs.size:=I.fpOk (Nat.le_refl _) (I.hok.fresh (Nat.le_refl _));have ne:∀ {c:Addr} {o:Obj},s.heap.get? c=some o->c≠s.heap.objs.size:=fun e=>Nat.ne_of_lt (Heap.lt_size e);have p2:uY g2 s.heap.objs.size u v t:=ze s2 (ne hz).symm a5;refine ⟨.ref s.heap.objs.size,upd H s.heap.objs.size (.tup [x,y,u0]),I2.track new ⟨?_,[u,v,t],.cons ru (.cons rv (.cons rt .nil)),⟨_,p2,rfl,rfl,_,rfl⟩⟩,rfl,⟨_,x,y,u0,new.1,rfl,rfl,fun zs qz=>?_,fun zs qz=>?_,fun zs qz=>?_⟩,⟨z2,?_,⟨_,_,_,ze s2 D.TOz a2⟩,a3.to fun o e=>ze s2 D.i1z e,a4.to fun o e=>ze s2 D.i2z e,a4'.to fun o e=>ze s2 D.i3z e⟩,fun c hc=>?_⟩;·show 3<=sizeLine;decide
  ·rw [I.sq_inj qz qx];exact ex
  ·rw [I.sq_inj qz qy];exact ey
  ·rw [I.sq_inj qz qu];exact eu
  ·exact ze s2 D.TIz (hk TI _ D.TIz D.TITO D.TIi1 D.TIi2 D.TIi3 hTI)
  ·have hc':c=z\/c=TI\/c=TO\/c=i1\/c=i2\/c=i3:=by simpa using hc
   have:c≠s.heap.objs.size:=by
    rcases hc' with rfl | rfl | rfl | rfl | rfl | rfl;·exact ne hz
    ·exact ne hTI
    ·exact ne hTO
    ·exact Nat.ne_of_lt h1.lt
    ·exact Nat.ne_of_lt h2.lt
    ·exact Nat.ne_of_lt h3.lt
   rw [zH this];exact (hf c hc).1
 done:=by
  intro X hP hw hK hc i pins s O H E I hf ⟨hz,hTI,⟨a,b,c0,hTO⟩,h1,h2,h3⟩ ⟨xs,qx,hl⟩;subst hP hw hK;obtain ⟨ix,rx,cx⟩:=I.sq qx;have lx:=rx.length;refine zdA (I.ok.hd hc) D hz hTI h1 cx (by simp;omega) fun g hk=>⟨rfl,?_⟩;exact I.turnedL (t':=s.toks) (ch:=[z,i1]) (fun c o n e=>hk c o (fun t=>n (by simp [t])) (fun t=>n (by simp [t])) e) fun c hc=>hf c (by
    have:c=z\/c=i1:=by simpa using hc
    rcases this with rfl | rfl<;>simp)
 self:=fun _ _ _ _ _ st h=>wpAny_pyIter_zip st.1 h
theorem zds{X:Cx}{elts:List Expr}{kt:Nat}{tp:Pos}{a b c:Expr}{ta:TA}{p pos:Pos}(hg:Gl X "zip")(hm:X.mg "zip"=none)(ha:PA X [a,b,c] ta)(hs:starEach [a,b,c] X.env=(false,eval a X.env)::starEach [b,c] X.env:=by rfl)(hpl:(backTo pos (starEach [b,c] X.env)).any (·.1)=false:=by rfl): PI X (.Tuple elts kt tp) (.Call (.Name "zip" p) [a,b,c] [] pos) (fun O H R=>ta O H fun vs H1=>∃ l1 l2 l3 b1 b2 b3,vs=[.ref l1,.ref l2,.ref l3]/\(∃ xs,Sq b1 X.K H1 l1 xs)/\(∃ ys,Sq b2 X.K H1 l2 ys)/\(∃ us,Sq b3 X.K H1 l3 us)/\R (ziL X.K b1 b2 b3 l1 l2 l3) H1):=by
 intro pins s O H R I h;refine wpAny_Call_Name_kw (jX I hg hm (u:=.type "zip") (by first | exact PySem.boot_zip | rfl | decide +kernel) ?_ (by decide) (by decide));refine PyProof.Rows.callWith_type1 (thn (ha pos pins s O H _ I h) fun us s1 ⟨vs,H1,I1,r1,q1⟩=>?_) hs hpl;obtain ⟨l1,l2,l3,b1,b2,b3,rfl,⟨xs,qx⟩,⟨ys,qy⟩,⟨zs,qu⟩,q⟩:=q1;cases r1 with | cons r1 r2=> cases r2 with | cons r2 r3=> cases r3 with | cons r3 r4=>
    cases r4;cases r1;cases r2;cases r3;obtain ⟨ix,rx,cx⟩:=I1.sq qx;obtain ⟨iy,ry,cy⟩:=I1.sq qy;obtain ⟨iu,ru,cu⟩:=I1.sq qu;have lt:∀ {b:Bool}{l:Addr}{its:Array Value},Sco b s1.heap l its->l<s1.heap.objs.size:=fun {b l its} cx=>by cases b with
     | true=>obtain ⟨o,e,_⟩:=cx;exact Heap.lt_size e | false=>obtain ⟨o,e,_⟩:=cx;exact Heap.lt_size e
    have lt1:=lt cx;have lt2:=lt cy;have lt3:=lt cu;have D:zgQ (s1.heap.objs.size+5) (s1.heap.objs.size+3) (s1.heap.objs.size+4) s1.heap.objs.size (s1.heap.objs.size+1) (s1.heap.objs.size+2) l1 l2 l3:=by
     have e1:∀ (l k:Nat),l<s1.heap.objs.size->l≠s1.heap.objs.size+k:=fun l k h=>Nat.ne_of_lt (Nat.lt_of_lt_of_le h (Nat.le_add_right _ _));have nk:∀ (m j k:Nat),j≠k->m+j≠m+k:=fun m j k h z=>h (Nat.add_left_cancel z);exact ⟨nk _ 3 5 (by decide),nk _ 4 5 (by decide),nk _ 0 5 (by decide),nk _ 1 5 (by decide),nk _ 2 5 (by decide),nk _ 3 4 (by decide),nk _ 3 0 (by decide),nk _ 3 1 (by decide),nk _ 3 2 (by decide),nk _ 4 0 (by decide),nk _ 4 1 (by decide),nk _ 4 2 (by decide),nk _ 0 1 (by decide),nk _ 0 2 (by decide),nk _ 1 2 (by decide),e1 _ 5 lt1,e1 _ 5 lt2,e1 _ 4 lt2,e1 _ 0 lt2,e1 _ 5 lt3,e1 _ 4 lt3,e1 _ 0 lt3,e1 _ 1 lt3⟩
    refine za2 cx cy cu fun g hz hTI hTO h1 h2 h3 hk=>?_;refine wpAny_pyIter_zip hz ?_;refine ⟨_,_,_,_,H1,rfl,I1.kept (t':=s1.toks) hk,z92 D,⟨hz,hTI,⟨_,_,_,hTO⟩,h1,h2,h3⟩,fun c hc=>?_,q⟩;have hc':s1.heap.objs.size<=c:=by
     have:c=s1.heap.objs.size+5\/c=s1.heap.objs.size+3\/c=s1.heap.objs.size+4\/c=s1.heap.objs.size\/c=s1.heap.objs.size+1\/c=s1.heap.objs.size+2:=by simpa using hc
     rcases this with rfl | rfl | rfl | rfl | rfl | rfl<;>first | exact Nat.le_refl _ | exact Nat.le_add_right _ _
    exact I1.fpOk hc' (I1.hok.fresh hc')
end L2
namespace Dd
open PySem.Spec L2
def jJ:List D->List D->List D->List D
 | x::xs,y::ys,z::zs=>.tup [x,y,z]::jJ xs ys zs | _,_,_=>[]
theorem z0g:∀ (xs ys zs:List D),xs.length<=ys.length->xs.length<=zs.length->(jJ xs ys zs).length=xs.length
 | [],ys,zs,_,_=>by simp [jJ] | x::xs,[],zs,h,_=>by simp at h | x::xs,y::ys,[],_,h=>by simp at h | x::xs,y::ys,z::zs,h,h2=>by simp only [jJ,List.length_cons,z0g xs ys zs (by simpa using h) (by simpa using h2)]
theorem z6J:∀ {xs ys zs:List D}{i:Nat}{d:D},(jJ xs ys zs)[i]? = some d->∃ x y z,xs[i]? = some x/\ys[i]? = some y/\zs[i]? = some z/\d=.tup [x,y,z]
 | [],ys,zs,i,d,h=>by simp [jJ] at h | x::xs,[],zs,i,d,h=>by simp [jJ] at h | x::xs,y::ys,[],i,d,h=>by simp [jJ] at h | x::xs,y::ys,z::zs,0,d,h=>by simp [jJ] at h;exact ⟨x,y,z,by simp,by simp,by simp,h.symm⟩ | x::xs,y::ys,z::zs,i+1,d,h=>by
  simp only [jJ,List.getElem?_cons_succ] at h;obtain ⟨a,b,c,h1,h2,h3,h4⟩:=z6J h;exact ⟨a,b,c,by simpa using h1,by simpa using h2,by simpa using h3,h4⟩
def z8T(f:FA):FI:=fun Z s=>(f Z s).bind fun ds s1=>match ds with
 | [x,y,z]=>match z2O s1 x,z2O s1 y,z2O s1 z with
  | some p,some q,some t=>if p.1.length<=q.1.length/\p.1.length<=t.1.length then .ok (jJ p.1 q.1 t.1,p.2++(q.2++t.2)) s1 else .no | _,_,_=>.no
 | _=>.no
@[simp] theorem zeu (f:FA)(Z:Ev)(s:Sto):z8T f Z s=(f Z s).bind fun ds s1=>match ds with
 | [x,y,z]=>match z2O s1 x,z2O s1 y,z2O s1 z with
  | some p,some q,some t=>if p.1.length<=q.1.length/\p.1.length<=t.1.length then .ok (jJ p.1 q.1 t.1,p.2++(q.2++t.2)) s1 else .no | _,_,_=>.no
 | _=>.no:=id rfl
section
variable {X:Cx}{E:XK}{a b c:Expr}{pos:Pos}
theorem zfi{p tp:Pos}{elts:List Expr}{kt:Nat}{f:FA}(hg:Gl X "zip")(hm:X.mg "zip"=none)(ha:RA X E [a,b,c] f)(hs:starEach [a,b,c] X.env=(false,eval a X.env)::starEach [b,c] X.env:=by rfl)(hpl:(backTo pos (starEach [b,c] X.env)).any (·.1)=false:=by rfl): RI X E (.Tuple elts kt tp) (.Call (.Name "zip" p) [a,b,c] [] pos) (z8T f):= z4j (zds hg hm ha hs hpl) fun O H Q ⟨Y,Z,s,r,en,h⟩=>by
  unfold z8T at h;refine ⟨Y,Z,s,r,en,(okR.bind (Dn:=zA (gm X)) h).imp fun vs H1 ⟨Y1,s1,ds,stp,dn,h1⟩=>?_⟩;split at h1
  ·rename_i x y z;split at h1
   ·rename_i p q t ex ey ez;split at h1
    ·rename_i hlen;obtain ⟨xs,gx⟩:=p;obtain ⟨ys,gy⟩:=q;obtain ⟨zs,gz⟩:=t;obtain ⟨v,v',v'',rfl,d1,d2,d3⟩:=zga dn;obtain ⟨og1,b1,a1,rfl,k1⟩:=z1p stp.rep ex d1;obtain ⟨og2,b2,a2,rfl,k2⟩:=z1p stp.rep ey d2;obtain ⟨og3,b3,a3,rfl,k3⟩:=z1p stp.rep ez d3;obtain ⟨w1,q1,_⟩:=k1 H1 Y1 s1 (.refl stp.rep) og1;obtain ⟨w2,q2,_⟩:=k2 H1 Y1 s1 (.refl stp.rep) og2;obtain ⟨w3,q3,_⟩:=k3 H1 Y1 s1 (.refl stp.rep) og3;refine ⟨a1,a2,a3,b1,b2,b3,rfl,⟨w1,q1⟩,⟨w2,q2⟩,⟨w3,q3⟩,h1.here stp.rep fun H2 Y2 s2 stp2 og i=>?_⟩;have h3:okG gx [] s2:=fun p hp=>og p (List.mem_append_left _ hp);have h4:okG gy [] s2:=fun p hp=>og p (List.mem_append_right _ (List.mem_append_left _ hp));have h5:okG gz [] s2:=fun p hp=>og p (List.mem_append_right _ (List.mem_append_right _ hp));refine ⟨fun d hd=>?_,fun hl=>?_⟩
     ·obtain ⟨x,y,z,e1,e2,e3,rfl⟩:=z6J hd;obtain ⟨w1,q1,n1⟩:=k1 H2 Y2 s2 stp2 h3;obtain ⟨w2,q2,n2⟩:=k2 H2 Y2 s2 stp2 h4;obtain ⟨w3,q3,n3⟩:=k3 H2 Y2 s2 stp2 h5;obtain ⟨u1,g1,m1⟩:=n1.get e1;obtain ⟨u2,g2,m2⟩:=n2.get e2;obtain ⟨u3,g3,m3⟩:=n3.get e3;refine ⟨⟨w1,w2,w3,u1,u2,u3,q1,q2,q3,g1,g2,g3⟩,fun z H' ⟨T,p,q,t,hT,ez,eH,hp,hq,ht⟩=>?_⟩;subst ez eH;have e4:=hp w1 q1;have e5:=hq w2 q2;have e6:=ht w3 q3;rw [g1] at e4;rw [g2] at e5;rw [g3] at e6;cases e4;cases e5;cases e6;have st3:=wd.lay (o:=.tup [u1,u2,u3]) stp2.rep hT (by intro _ z;cases z);refine ⟨Y2,st3,?_⟩;simp only [Den];exact ⟨T,[u1,u2,u3],rfl,yn,(zA.cons m1 (zA.cons m2 (zA.one m3))).mono st3⟩
     ·obtain ⟨w1,q1,n1⟩:=k1 H2 Y2 s2 stp2 h3;refine ⟨w1,q1,?_⟩;rw [n1.length];rw [z0g _ _ _ hlen.1 hlen.2] at hl;omega
    ·exact h1.elim
   ·exact h1.elim
  ·exact h1.elim
end
end Dd
namespace Pg
open PySem.Spec L2 Dd
def uz:List (Str×Str):=[("next","by_next"),("least","by_least"),("all","by_all"),("turn","by_turn")]
@[simp] def z5a:FS:=(xO (zeC (eIs "int" (zc 0)) (ziz (eIs "bool" (zc 0)))))
def jq:FS:=z5a
def yV:Mir:=Mof ["thing"] 1 jq
@[simp] def z5q:FS:=(xO (zeC (eIs "tuple" (zc 0)) (z35 dLe dLe (eC (.int 2)) (zd wL (za (zc 0) zp)) (eC (.int 4)))))
def z1e:FS:=z5q
def xq:Mir:=Mof ["thing"] 1 z1e
@[simp] def z29:FS:=(xO (eC (.bl false)))
@[simp] def z2g:FS:=(fIf (fOr (z48 (tOf (eIs "tuple" (zc 0)))) (tOf (eOp dNe (zd wL (za (zc 0) zp)) (zc 1)))) z29 xN)
@[simp] def z2p:FS:=(xO (zd zeE (za (zK (yB (zc 0)) [none] (we 0) yM (zd yV (za (zc 0) zp))) zp)))
def jH:FS:=(zZ z2g z2p)
def yx:Mir:=Mof ["thing","many"] 2 jH
@[simp] def z1x:FS:=fNo
@[simp] def qj:FS:=(fIf (fOr (z48 (tOf (zd yV (za (zc 0) zp)))) (z48 (tOf (z35 dLe dLe (zc 1) (zc 0) (zc 2))))) z1x xN)
def jd:FS:=qj
def yQ:Mir:=Mof ["thing","least","most"] 3 jd
@[simp] def wr:FS:=(zgY 0 1 (za (zc 1) (za (eOp z8z (zc 0) (zc 1)) zp)))
@[simp] def vR:FS:=(z2Z (tOf (eOp dNe (zc 1) (eC (.int 0)))) wr)
@[simp] def kH:FS:=(xO (zc 0))
def uO:FS:=(zZ vR kH)
def xh:Mir:=Mof ["one","other"] 2 uO
@[simp] def z8w:FS:=(xO (eC (.bl false)))
@[simp] def z8v:FS:=(fIf (fOr (z48 (tOf (zd xq (za (zc 0) zp)))) (z48 (tOf (zd yx (za (zc 0) (za (zd wL (za (zc 0) zp)) zp)))))) z8w xN)
@[simp] def z7Z:FS:=(xO (zeC (eOp dGe (zd z0n (za (zc 0) zp)) (eC (.int 0))) (eOp dGt (zd uC (za (zc 0) zp)) (eC (.int 0)))))
def z4q:FS:=(zZ z8v z7Z)
def uj:Mir:=Mof ["thing"] 1 z4q
@[simp] def z4k:FS:=fNo
@[simp] def z4M:FS:=(fIf (z48 (tOf (zd uj (za (zc 0) zp)))) z4k xN)
def z1C:FS:=z4M
def zY:Mir:=Mof ["thing"] 1 z1C
@[simp] def z85:FS:=(vp (zd zY (za (zc 0) zp)))
@[simp] def z8k:FS:=(uL 1 (eC (.int 0)))
@[simp] def kj:FS:=(uL 1 (zd xh (za (zc 1) (za (zc 2) zp))))
@[simp] def z2Y:FS:=(z6W (yB (zc 0)) (we 2) kj)
@[simp] def z7Y:FS:=(xO (zc 1))
def z4Y:FS:=(zZ z85 (zZ z8k (zZ z2Y z7Y)))
def uv:Mir:=Mof ["lot","divisor","number"] 1 z4Y
@[simp] def z3R:FS:=(vp (zd zY (za (zc 0) zp)))
@[simp] def jQ:FS:=(xO (eOp dEq (zd wL (za (zK (yB (zc 0)) [none] (we 0) (tOf (eOp dNe (zc 0) (eC (.int 0)))) (zc 0)) zp)) (eC (.int 1))))
def kZ:FS:=(zZ z3R jQ)
def zV:Mir:=Mof ["lot"] 1 kZ
@[simp] def z4J:FS:=(xO (zd zf9 (za (zK (z8n (za (zc 0) (za (zc 1) zp))) [none,none] (vZ 0 1) yM (eOp yP (zc 0) (zc 1))) zp)))
def z0L:FS:=z4J
def vW:Mir:=Mof ["line","numbers"] 2 z0L
@[simp] def qX:FS:=(xO (zd yG (za (zK (z5w (za (zd wL (za (zc 0) zp)) zp)) [some 0,none] (we 1) yM (zd yG (za (zK (yB (zc 0)) [some 1,none] (we 1) yM (eOp dIx (zc 1) (zc 0))) zp))) zp)))
def jG:FS:=qX
def zJ:Mir:=Mof ["table"] 1 jG
@[simp] def qp:FS:=(uL 1 (eLR (za (zc 0) zp)))
@[simp] def qi:FS:=(xO (zd yG (za (zK (yB (zc 1)) [some 1,none] (we 1) yM (zd yG (za (zK (yB (zc 0)) [some 1,none] (we 1) yM (eIf (tOf (eOp dEq (zc 0) (zc 1))) (eC (.int 1)) (eC (.int 0)))) zp))) zp)))
def ja:FS:=(zZ qp qi)
def yk:Mir:=Mof ["size","places"] 1 ja
@[simp] def z1V:FS:=(xO (zd yG (za (zK (yB (zc 0)) [some 1,none] (we 1) yM (zd vW (za (zc 1) (za (zc 0) zp)))) zp)))
def jh:FS:=z1V
def yy:Mir:=Mof ["lines","numbers"] 2 jh
@[simp] def z5i:FS:=(xO (eC (.bl false)))
@[simp] def z5n:FS:=(fIf (z48 (tOf (zd xq (za (zc 0) zp)))) z5i xN)
@[simp] def z0l:FS:=(xO (zd zeE (za (zK (yB (zc 0)) [some 0,none] (we 1) yM (zd yx (za (zc 1) (za (zd wL (za (zc 0) zp)) zp)))) zp)))
def z1v:FS:=(zZ z5n z0l)
def wm:Mir:=Mof ["thing"] 1 z1v
@[simp] def z26:FS:=fNo
@[simp] def z2l:FS:=(fIf (z48 (tOf (zd wm (za (zc 0) zp)))) z26 xN)
def jI:FS:=z2l
def yA:Mir:=Mof ["thing"] 1 jI
@[simp] def z2o:FS:=(vp (zd yA (za (zc 0) zp)))
@[simp] def z24:FS:=(vp (zd yA (za (zc 1) zp)))
@[simp] def z2d:FS:=fNo
@[simp] def z2q:FS:=(fIf (tOf (eOp dNe (zd wL (za (zc 0) zp)) (zd wL (za (zc 1) zp)))) z2d xN)
@[simp] def ji:FS:=(xO (zd zJ (za (zd yG (za (zK (yB (zd zJ (za (zc 1) zp))) [some 0,none] (we 1) yM (zd yy (za (zc 0) (za (zc 1) zp)))) zp)) zp)))
def jT:FS:=(zZ z2o (zZ z24 (zZ z2q ji)))
def xg:Mir:=Mof ["one","other"] 2 jT
@[simp] def wS:FS:=(uL 2 (zdQ (za (zd yk (za (zc 0) zp)) zp)))
@[simp] def yH:FS:=(vp (zeF (zc 2) (zd xg (za (eOp dIx (zc 2) (vt (eC (.int 1)))) (za (zc 3) zp)))))
@[simp] def wP:FS:=(z6W (yB (zc 1)) (we 3) yH)
@[simp] def qS:FS:=(xO (zc 2))
def vi:FS:=(zZ wS (zZ wP qS))
def zW:Mir:=Mof ["size","tables","products","table"] 2 vi
@[simp] def xQ:FS:=(uL 1 (zbM (zc 0) (zd uC (za (zc 0) zp))))
@[simp] def xR:FS:=(xO (z2N (za (zc 1) (za (eOp wZ (eOp wZ (eSl (zc 0) zI (xl (zc 1))) (z2N (za (eC (.int 0)) zp))) (eSl (zc 0) (xl (eOp wZ (zc 1) (eC (.int 1)))) zI)) zp))))
def wg:FS:=(zZ xQ xR)
def zv:Mir:=Mof ["lot","at"] 1 wg
@[simp] def qq:FS:=(xO (zbM (zc 0) (zd z0n (za (zK (yB (zc 0)) [none] (we 0) (tOf (eOp dNe (zc 0) (eC (.int 0)))) (zc 0)) zp))))
def qW:FS:=qq
def yd:Mir:=Mof ["lot"] 1 qW
@[simp] def z1d:FS:=(xO (zK (z5w (za (zd wL (za (zc 0) zp)) zp)) [some 1,none] (we 1) (tOf (eOp dNe (zc 1) (zc 0))) (zc 1)))
def z2x:FS:=z1d
def xC:Mir:=Mof ["lot","place"] 2 z2x
@[simp] def z6c:FS:=(xO (zeC (eIs "str" (zc 0)) (z7i uz false (zc 0))))
def z2z:FS:=z6c
def qg:Mir:=Mof ["thing"] 1 z2z
@[simp] def z4E:FS:=(xO (eIf (tOf (eOp dEq (zc 0) (eC (.str "turn")))) (eOp wZ (eSl (zc 1) (xl (eC (.int 1))) zI) (eSl (zc 1) zI (xl (eC (.int 1))))) (zc 1)))
def z7D:FS:=z4E
def wG:Mir:=Mof ["rule","numbers"] 2 z7D
@[simp] def z6k:FS:=(zcC (zd zv (za (zc 0) zp)) (vZ 1 2))
@[simp] def z1H:FS:=(xO (z2N (za (zbM (zc 2) (zd uC (za (zc 2) zp))) (za (z5x (za (zc 1) zp)) zp))))
def z2E:FS:=(zZ z6k z1H)
def wz:Mir:=Mof ["lot","greatest","others"] 1 z2E
@[simp] def z4n:FS:=(zcC (zd zv (za (zc 0) zp)) (vZ 1 2))
@[simp] def z4K:FS:=(xO (z2N (za (zd yd (za (zc 2) zp)) (za (z5x (za (zc 1) zp)) zp))))
def z1B:FS:=(zZ z4n z4K)
def xJ:Mir:=Mof ["lot","greatest","others"] 1 z1B
@[simp] def z8b:FS:=(uL 1 (zd yd (za (zc 0) zp)))
@[simp] def z87:FS:=(xO (z2N (za (zc 1) (za (zd xC (za (zc 0) (za (zc 1) zp))) zp))))
def z58:FS:=(zZ z8b z87)
def vy:Mir:=Mof ["lot","by"] 1 z58
@[simp] def z62:FS:=(xO (z2N (za (eC (.int 0)) (za (z5x zp) zp))))
@[simp] def z5Y:FS:=(fIf (tOf (eOp dEq (eOp dIx (zc 0) (eC (.int 0))) (eC (.int 0)))) z62 xN)
@[simp] def z6n:FS:=(xO (z2N (za (eC (.int 0)) (za (zd xC (za (zc 0) (za (eC (.int 0)) zp))) zp))))
def z2Q:FS:=(zZ z5Y z6n)
def wC:Mir:=Mof ["lot"] 1 z2Q
@[simp] def z3C:FS:=fNo
@[simp] def z3E:FS:=(fIf (z48 (tOf (zd qg (za (zc 0) zp)))) z3C xN)
def z0c:FS:=z3E
def yR:Mir:=Mof ["thing"] 1 z0c
@[simp] def z55:FS:=(uL 2 (zgT uz (zc 0)))
@[simp] def z08:FS:=(zcC (z6Z 2 [("by_next",wz),("by_least",xJ),("by_all",vy),("by_turn",wC)] (za (zc 1) zp)) (vZ 3 4))
@[simp] def z0h:FS:=(xO (z2N (za (zc 3) (za (zK (z5w (za (zd wL (za (zc 1) zp)) zp)) [some 4,some 1,some 3,none] (we 3) yM (eIf (tOf (eOp (zcN false) (zc 3) (zc 0))) (eOp z1i (eOp dIx (zc 1) (zc 3)) (eOp dIx (zc 1) (zc 2))) (eC (.int 0)))) zp))))
def z20:FS:=(zZ z55 (zZ z08 z0h))
def yU:Mir:=Mof ["rule","lot","deal","by","divided"] 2 z20
@[simp] def qc:FS:=(vp (zd yR (za (zc 0) zp)))
@[simp] def qk:FS:=(vp (zd zY (za (zc 1) zp)))
def wN:FS:=(zZ qc qk)
def zB:Mir:=Mof ["rule","lot"] 2 wN
@[simp] def z41:FS:=(vp (zd zB (za (zc 0) (za (zc 1) zp))))
@[simp] def z3i:FS:=fNo
@[simp] def z3O:FS:=(fIf (tOf (zd zV (za (zc 1) zp))) z3i xN)
def z0j:FS:=(zZ z41 z3O)
def yE:Mir:=Mof ["rule","lot"] 2 z0j
@[simp] def zaH:FS:=(vp (zd yE (za (zc 0) (za (zc 1) zp))))
@[simp] def zaI:FS:=(zcC (zd yU (za (zc 0) (za (zc 1) zp))) (vZ 2 3))
@[simp] def z7G:FS:=(uL 4 (zd yG (za (zK (z8n (za (zc 1) (za (zc 3) zp))) [some 1,some 2,none,none] (vZ 2 3) yM (eOp z5L (zc 2) (eOp yP (zc 3) (eOp dIx (zc 0) (zc 1))))) zp)))
@[simp] def z77:FS:=(xO (zd wG (za (zc 0) (za (zc 4) zp))))
def z9N:FS:=(zZ zaH (zZ zaI (zZ z7G z77)))
def M_step:Mir:=Mof ["rule","lot","by","quotients","left"] 2 z9N
@[simp] def z23:FS:=(vp (zd yE (za (zc 0) (za (zc 1) zp))))
@[simp] def z2e:FS:=(zcC (zd yU (za (zc 0) (za (zc 1) zp))) (vZ 2 3))
@[simp] def je:FS:=(xO (zd yG (za (zK (z8n (za (zd yk (za (zd wL (za (zc 1) zp)) zp)) (za (zc 3) zp))) [some 0,some 2,none,none] (vZ 2 3) yM (zd wG (za (zc 0) (za (eOp wZ (eOp wZ (eSl (zc 2) zI (xl (zc 1))) (z2N (za (eOp wZ (eOp dIx (zc 2) (zc 1)) (zc 3)) zp))) (eSl (zc 2) (xl (eOp wZ (zc 1) (eC (.int 1)))) zI)) zp)))) zp)))
def jR:FS:=(zZ z23 (zZ z2e je))
def xj:Mir:=Mof ["rule","lot","by","quotients"] 2 jR
@[simp] def zcM:FS:=(vp (zd zB (za (zc 0) (za (zc 1) zp))))
@[simp] def z9X:FS:=(uL 2 (zdQ (za (zc 1) zp)))
@[simp] def z3l:FS:=(vp (zeF (zc 2) (zd M_step (za (zc 0) (za (eOp dIx (zc 2) (vt (eC (.int 1)))) zp)))))
@[simp] def z9A:FS:=(z2Z (z48 (tOf (zd zV (za (eOp dIx (zc 2) (vt (eC (.int 1)))) zp)))) z3l)
@[simp] def zcG:FS:=(xO (zc 2))
def zcl:FS:=(zZ zcM (zZ z9X (zZ z9A zcG)))
def M_run:Mir:=Mof ["rule","lot","lots"] 2 zcl
@[simp] def jS:FS:=(xO (zK (yB (eSl (z19 (zd M_run (za (zc 0) (za (zc 1) zp)))) zI (xl (vt (eC (.int 1)))))) [some 0,none] (we 1) yM (zd xj (za (zc 0) (za (zc 1) zp)))))
def z0b:FS:=jS
def xD:Mir:=Mof ["rule","lot"] 2 z0b
@[simp] def z0P:FS:=(uL 2 (zd xD (za (zc 0) (za (zc 1) zp))))
@[simp] def qB:FS:=(xO (zd zW (za (zd wL (za (zc 1) zp)) (za (zc 2) zp))))
def qZ:FS:=(zZ z0P qB)
def ym:Mir:=Mof ["rule","lot","tables"] 2 qZ
@[simp] def vS:FS:=(zcC (zd z1f (za (zc 0) (za (zc 1) zp))) (vZ 2 3))
@[simp] def vX:FS:=(xO (eIf (tOf (eOp dGt (eOp yP (eC (.int 2)) (zc 3)) (zc 1))) (eOp wZ (zc 2) (eC (.int 1))) (zc 2)))
def uI:FS:=(zZ vS vX)
def yr:Mir:=Mof ["number","by","whole","rest"] 2 uI
@[simp] def z14:FS:=(vp (zd zY (za (zc 0) zp)))
@[simp] def z15:FS:=fNo
@[simp] def qA:FS:=(fIf (tOf (eOp dEq (eOp dIx (zc 0) (vt (eC (.int 1)))) (eC (.int 0)))) z15 xN)
def qV:FS:=(zZ z14 qA)
def zG:Mir:=Mof ["lot"] 1 qV
@[simp] def zaP:FS:=(vp (zd zG (za (zc 0) zp)))
@[simp] def z7s:FS:=(vp (zd yQ (za (zc 1) (za (eC (.int 1)) (za (eC (.int (10 ^ 12))) zp)))))
@[simp] def z7p:FS:=(xO (zd yG (za (zK (yB (eSl (zc 0) zI (xl (vt (eC (.int 1)))))) [some 1,some 0,none] (we 2) yM (zd yr (za (eOp yP (zc 0) (zc 2)) (za (eOp dIx (zc 1) (vt (eC (.int 1)))) zp)))) zp)))
def z99:FS:=(zZ zaP (zZ z7s z7p))
def M_tops:Mir:=Mof ["lot","bottom"] 2 z99
@[simp] def z2S:FS:=(uL 2 (zd M_tops (za (zc 0) (za (zc 1) zp))))
@[simp] def z2U:FS:=(xO (zd yG (za (zK (z8n (za (eSl (zc 0) zI (xl (vt (eC (.int 1))))) (za (zc 2) zp))) [some 1,some 0,none,none] (vZ 2 3) yM (eOp z5L (eOp yP (zc 0) (zc 2)) (eOp yP (zc 3) (eOp dIx (zc 1) (vt (eC (.int 1))))))) zp)))
def z4w:FS:=(zZ z2S z2U)
def xu:Mir:=Mof ["lot","bottom","found"] 2 z4w
@[simp] def z5r:FS:=(xO (zd uC (za (zK (yB (zd xu (za (zc 0) (za (zc 1) zp)))) [none] (we 0) yM (zd zeW (za (zc 0) zp))) zp)))
def z7q:FS:=z5r
def ye:Mir:=Mof ["lot","bottom"] 2 z7q
@[simp] def z6l:FS:=(vp (zd zG (za (zc 0) zp)))
@[simp] def z0Q:FS:=(vp (zd yQ (za (zc 1) (za (eC (.int 1)) (za (eC (.int 1000)) zp)))))
@[simp] def jx:FS:=(uL 2 (zdQ (za (z2N (za (eC (.int 1)) (za (zd ye (za (zc 0) (za (eC (.int 1)) zp))) zp))) zp)))
@[simp] def uu:FS:=(uL 4 (zd ye (za (zc 0) (za (zc 3) zp))))
@[simp] def z1k:FS:=(vp (zeF (zc 2) (z2N (za (zc 3) (za (zc 4) zp)))))
@[simp] def uq:FS:=(fIf (tOf (eOp dLt (zc 4) (eOp dIx (eOp dIx (zc 2) (vt (eC (.int 1)))) (eC (.int 1))))) z1k xN)
@[simp] def z0X:FS:=(z6W (z94 (za (eC (.int 2)) (za (eOp wZ (zc 1) (eC (.int 1))) zp))) (we 3) (zZ uu uq))
@[simp] def z5K:FS:=(xO (zc 2))
def z32:FS:=(zZ z6l (zZ z0Q (zZ jx (zZ z0X z5K))))
def vn:Mir:=Mof ["lot","most","found","bottom","of_bottom"] 2 z32
@[simp] def z6v:FS:=(vp (zd yR (za (zc 0) zp)))
@[simp] def z5N:FS:=(vp (zd zG (za (zc 1) zp)))
@[simp] def z6u:FS:=(uL 2 zfw)
@[simp] def z0N:FS:=(za8 (zc 2) (zc 4) (eC (.bl true)))
@[simp] def uo:FS:=(fIf (tOf (eOp dNe (eOp dIx (zc 4) (vt (eC (.int 1)))) (eC (.int 0)))) z0N xN)
@[simp] def uE:FS:=(z6W (yB (zd zJ (za (zc 3) zp))) (we 4) uo)
@[simp] def z1X:FS:=(z6W (yB (eSl (z19 (zd ym (za (zc 0) (za (zc 1) zp)))) (xl (eC (.int 1))) zI)) (we 3) uE)
@[simp] def z0J:FS:=(xO (zd z1m (za (zc 2) zp)))
def z2w:FS:=(zZ z6v (zZ z5N (zZ z6u (zZ z1X z0J))))
def va:Mir:=Mof ["rule","lot","found","product","column"] 2 z2w
@[simp] def z0m:FS:=(xO (eOp dIx (zc 0) (zc 1)))
@[simp] def z0s:FS:=(fIf (tOf (eOp dLt (zc 1) (zd wL (za (zc 0) zp)))) z0m xN)
@[simp] def z0o:FS:=(xO (eC (.int 0)))
def vg:FS:=(zZ z0s z0o)
def yT:Mir:=Mof ["_law_script","_law_k"] 2 vg
@[simp] def z4S:FS:=(xO (zdQ (za (eOp z5L (zc 0) (eOp kh (eC (.int 10)) (eC (.int 18)))) zp)))
@[simp] def z56:FS:=(fIf (tOf (eOp dGe (zc 0) (eOp kh (eC (.int 10)) (eC (.int 18))))) z4S xN)
@[simp] def z5l:FS:=(uL 1 (eC (.int 0)))
@[simp] def z07:FS:=(uL 3 (eOp z8z (eOp yP (eOp wZ (eOp wZ (eOp z8z (zc 0) (eC (.int 2147483629))) (eOp yP (eC (.int 7919)) (zc 2))) (eC (.int 1))) (eC (.int 48271))) (eC (.int 2147483647))))
@[simp] def z00:FS:=(uL 3 (eOp z8z (eOp wZ (eOp wZ (eOp yP (zc 3) (zc 3)) (eOp yP (eC (.int 69621)) (zc 2))) (eC (.int 7))) (eC (.int 2147483587))))
@[simp] def z09:FS:=(uL 1 (eOp wZ (eOp yP (zc 1) (eC (.int 2147483587))) (zc 3)))
@[simp] def z06:FS:=(z6W (z5w (za (eC (.int 64)) zp)) (we 2) (zZ z07 (zZ z00 z09)))
@[simp] def z51:FS:=(xO (zdQ (za (zc 1) zp)))
def js:FS:=(zZ z56 (zZ z5l (zZ z06 z51)))
def wW:Mir:=Mof ["_law_cell","_law_number","_law_j","_law_more"] 1 js
@[simp] def vU:FS:=(xO (z5x (za (eC (.str "next")) (za (eC (.str "least")) (za (eC (.str "all")) (za (eC (.str "turn")) zp))))))
def uR:FS:=vU
def yL:Mir:=Mof [] 0 uR
@[simp] def z42:FS:=(uL 2 (eOp z8z (eOp dIx (zc 0) (eC (.int 0))) (zc 1)))
@[simp] def z3e:FS:=(z4O (zc 0) (eC (.int 0)) (eOp z1i (eOp dIx (zc 0) (eC (.int 0))) (zc 1)))
@[simp] def z3f:FS:=(xO (zc 2))
def z0a:FS:=(zZ z42 (zZ z3e z3f))
def zm:Mir:=Mof ["_law_pot_here","_law_far","_law_found"] 2 z0a
@[simp] def vo:FS:=(uL 3 (zd z6q (za (eOp wZ (zc 2) (eC (.int 1))) (za (eOp dIx (z5x (za (eC (.int 4)) (za (eC (.int 31)) (za (eC (.int 1001)) (za (eOp kh (eC (.int 10)) (eC (.int 15))) (za (eOp kh (eC (.int 10)) (eC (.int 39))) zp)))))) (zd zm (za (zc 0) (za (eC (.int 5)) zp)))) zp))))
@[simp] def vm:FS:=(uL 4 (z2H (z5w (za (zc 1) zp)) [some 0,some 3,none] (we 2) yM (zd zm (za (zc 0) (za (zc 1) zp)))))
@[simp] def vj:FS:=(uL 5 (zd zm (za (zc 0) (za (eC (.int 6)) zp))))
@[simp] def vk:FS:=(zgY 6 7 (za (zd zm (za (zc 0) (za (zc 1) zp))) (za (zd zm (za (zc 0) (za (zc 1) zp))) zp)))
@[simp] def qw:FS:=(z4O (zc 4) (zc 6) (eC (.int 0)))
@[simp] def xX:FS:=(fIf (tOf (eOp dEq (zc 5) (eC (.int 0)))) qw xN)
@[simp] def qm:FS:=(z4O (zc 4) (zc 6) (eOp dIx (zc 4) (zc 7)))
@[simp] def xS:FS:=(fIf (tOf (eOp dEq (zc 5) (eC (.int 1)))) qm xN)
@[simp] def uM:FS:=(z4O (zc 4) (zc 7) (eOp wZ (eC (.int 1)) (zd zm (za (zc 0) (za (eOp z5L (zc 3) (eC (.int 1))) zp)))))
@[simp] def wc:FS:=(fIf (tOf (eOp dEq (zd uC (za (zc 4) zp)) (eC (.int 0)))) uM xN)
@[simp] def uQ:FS:=(xO (zd yG (za (zc 4) zp)))
def qY:FS:=(zZ vo (zZ vm (zZ vj (zZ vk (zZ xX (zZ xS (zZ wc uQ)))))))
def xZ:Mir:=za7 (Mof ["_law_pot_here","_law_size","_law_most","_law_far","_law_found","_law_way","_law_at","_law_to"] 3 qY)
@[simp] def vM:FS:=(uL 1 (zd xZ (za (zc 0) (za (eOp wZ (eC (.int 2)) (zd zm (za (zc 0) (za (eC (.int 3)) zp)))) (za (eOp kh (eC (.int 10)) (eC (.int 39))) zp)))))
@[simp] def wx:FS:=(uL 1 (eOp wZ (eSl (zc 1) zI (xl (vt (eC (.int 1))))) (z2N (za (eOp wZ (eC (.int 1)) (zd zm (za (zc 0) (za (eC (.int 30)) zp)))) zp))))
@[simp] def wy:FS:=(fIf (tOf (eOp dEq (eOp dIx (zc 1) (vt (eC (.int 1)))) (eC (.int 0)))) wx xN)
@[simp] def qU:FS:=(xO (zc 1))
def jK:FS:=(zZ vM (zZ wy qU))
def xH:Mir:=Mof ["_law_pot_here","_law_lot_here"] 1 jK
end Pg
namespace K45
open PySem.Spec L2 Dd Pg
@[simp] def qb:FS:=(xO (eC (.bl false)))
@[simp] def xk:FS:=(fIf (fOr (tOf (eOp dNe (eOp yP (zc 1) (zc 2)) (eOp wZ (eOp yP (zc 3) (eOp dIx (zc 0) (vt (eC (.int 1))))) (zc 4)))) (tOf (eOp dGt (zd zeW (za (zc 4) zp)) (zd Pg.ye (za (zc 0) (za (zc 1) zp)))))) qb xN)
@[simp] def wB:FS:=(z6W (z8T (za (eSl (zc 0) zI (xl (vt (eC (.int 1))))) (za (zd Pg.M_tops (za (zc 0) (za (zc 1) zp))) (za (zd Pg.xu (za (zc 0) (za (zc 1) zp))) zp)))) (zeP 2 3 4) xk)
@[simp] def wA:FS:=(xO (eOp dLe (eOp yP (eC (.int 2)) (zd Pg.ye (za (zc 0) (za (zc 1) zp)))) (eOp dIx (zc 0) (vt (eC (.int 1))))))
def wR:FS:=(zZ wB wA)
def zP:Mir:=Mof ["_law_lot_here","_law_bottom","_law_part","_law_top","_law_error"] 2 wR
@[simp] def uX:FS:=(uL 2 (eC (.int 1)))
@[simp] def yZ:FS:=(uL 2 (eOp yP (zc 2) (zc 1)))
@[simp] def wf:FS:=(z6W (yB (eSl (zc 0) zI (xl (vt (eC (.int 1)))))) (we 3) yZ)
@[simp] def yW:FS:=(uL 4 (z19 (zd Pg.vn (za (zc 0) (za (zc 2) zp)))))
@[simp] def uW:FS:=(xO (eC (.bl false)))
@[simp] def yX:FS:=(fIf (fOr (tOf (eOp dNe (eOp dIx (eOp dIx (zc 4) (eC (.int 0))) (eC (.int 0))) (eC (.int 1)))) (tOf (eOp dGt (eOp yP (zd z0n (za (zK (yB (zc 4)) [none,none] (vZ 0 1) yM (zc 1)) zp)) (zc 1)) (eOp dIx (zc 0) (vt (eC (.int 1))))))) uW xN)
@[simp] def uS:FS:=(xO (eC (.bl false)))
@[simp] def yu:FS:=(fIf (fOr (tOf (eOp dGe (zc 8) (zc 6))) (fOr (tOf (eOp dLe (zc 7) (zc 5))) (tOf (eOp dNe (zd Pg.ye (za (zc 0) (za (zc 7) zp))) (zc 8))))) uS xN)
@[simp] def um:FS:=(xO (eC (.bl false)))
@[simp] def yp:FS:=(fIf (zdd (tOf (eOp dGt (zc 7) (eOp wZ (zc 5) (eC (.int 1))))) (tOf (eOp dLt (zd Pg.ye (za (zc 0) (za (eOp z5L (zc 7) (eC (.int 1))) zp))) (zc 6)))) um xN)
@[simp] def wk:FS:=(z6W (z8n (za (zc 4) (za (eSl (zc 4) (xl (eC (.int 1))) zI) zp))) (gPP 5 6 7 8) (zZ yu yp))
@[simp] def wa:FS:=(xO (eOp dEq (eOp dIx (eOp dIx (zc 4) (eC (.int 0))) (eC (.int 1))) (zd Pg.ye (za (zc 0) (za (eC (.int 1)) zp)))))
def wD:FS:=(zZ uX (zZ wf (zZ yW (zZ yX (zZ wk wa)))))
def zF:Mir:=Mof ["_law_lot_here","_law_often","_law_most","_law_part","_law_some","_law_bottom","_law_own","_law_other","_law_later"] 2 wD
@[simp] def z0K:FS:=(uL 2 (zd Pg.wW (za (zd Pg.yT (za (zc 0) (za (zc 1) zp))) zp)))
@[simp] def z1W:FS:=(uL 3 (zd Pg.xH (za (zc 2) zp)))
@[simp] def zdk:FS:=(xO (eC (.bl false)))
@[simp] def z3k:FS:=(fIf (z48 (tOf (zd zP (za (zc 3) (za (zc 4) zp))))) zdk xN)
@[simp] def z1y:FS:=(z6W (yB (z5x (za (eC (.int 1)) (za (eOp wZ (eC (.int 1)) (zd Pg.zm (za (zc 2) (za (eC (.int 50)) zp)))) (za (eOp z5L (eOp kh (eC (.int 10)) (eC (.int 12))) (zd Pg.zm (za (zc 2) (za (eOp kh (eC (.int 10)) (eC (.int 6))) zp)))) zp))))) (we 4) z3k)
@[simp] def zdw:FS:=(xO (eC (.bl false)))
@[simp] def z1s:FS:=(fIf (z48 (tOf (zd zF (za (zc 3) (za (eOp wZ (eC (.int 1)) (zd Pg.zm (za (zc 2) (za (eC (.int 6)) zp)))) zp))))) zdw xN)
@[simp] def z1h:FS:=(uL 5 (eOp dIx (zd Pg.yL zp) (zd Pg.zm (za (zc 2) (za (eC (.int 4)) zp)))))
@[simp] def qG:FS:=(uL 6 (z19 (zd Pg.va (za (zc 5) (za (zc 3) zp)))))
@[simp] def qJ:FS:=(uL 7 (zd Pg.uv (za (zc 3) zp)))
@[simp] def zbR:FS:=(xO (eC (.bl false)))
@[simp] def qM:FS:=(fIf (tOf (eOp dNe (zd Pg.zV (za (zc 3) zp)) (eOp dEq (zc 6) (z5x zp)))) zbR xN)
@[simp] def zbA:FS:=(xO (eC (.bl false)))
@[simp] def qO:FS:=(fIf (zdd (tOf (eOp dNe (zc 6) (z5x zp))) (tOf (eOp (zfp true) (zd yG (za (zK (yB (zc 3)) [some 7,none] (we 1) yM (eOp z1i (zc 1) (zc 0))) zp)) (zc 6)))) zbA xN)
@[simp] def qQ:FS:=(uL 4 (eOp z1i (eOp dIx (zc 3) (vt (eC (.int 1)))) (zc 7)))
@[simp] def zaV:FS:=(xO (eC (.bl false)))
@[simp] def jN:FS:=(fIf (zdd (tOf (eOp dLe (zc 4) (eOp kh (eC (.int 10)) (eC (.int 12))))) (tOf (eOp dNe (zd Pg.ye (za (zc 3) (za (zc 4) zp))) (eC (.int 0))))) zaV xN)
@[simp] def z63:FS:=(z6W (z5w (za (zd zbv (za (eC (.int 1)) (za (zd z6q (za (zd wL (za (zc 0) zp)) (za (eC (.int 4)) zp))) zp))) zp)) (we 1) (zZ z0K (zZ z1W (zZ z1y (zZ z1s (zZ z1h (zZ qG (zZ qJ (zZ qM (zZ qO (zZ qQ jN)))))))))))
@[simp] def z7g:FS:=(xO (eC (.bl true)))
def zc1:FS:=(zZ z63 z7g)
def ze2:Mir:=Mof ["_law_script","_law_at","_law_pot_here","_law_lot_here","_law_bottom","_law_rule","_law_some","_law_least"] 1 zc1
end K45
set_option maxHeartbeats 6000000
namespace K45
open PySem.Spec L2 Dd Pg
structure Txt(mg:Str->Option Value):Prop where
 LEAST_SIZE_:∃ t,mg "LEAST_SIZE"=some (.int 2 t)
 MOST_BOTTOM_:∃ t,mg "MOST_BOTTOM"=some (.int (10 ^ 12) t)
 MOST_RECORDS_:∃ t,mg "MOST_RECORDS"=some (.int 1000 t)
 MOST_SIZE_:∃ t,mg "MOST_SIZE"=some (.int 4 t)
 abs_:mg "abs"=none
 all_:mg "all"=none
 bool_:mg "bool"=none
 divmod_:mg "divmod"=none
 int_:mg "int"=none
 isinstance_:mg "isinstance"=none
 len_:mg "len"=none
 list_:mg "list"=none
 max_:mg "max"=none
 min_:mg "min"=none
 range_:mg "range"=none
 str_:mg "str"=none
 sum_:mg "sum"=none
 tuple_:mg "tuple"=none
 zip_:mg "zip"=none
theorem zc4:bootBuiltins "abs"=some (.builtin "abs"):=by decide +kernel
theorem zbX:bootBuiltins "all"=some (.builtin "all"):=by decide +kernel
theorem ze3:bootBuiltins "bool"=some (.type "bool"):=by decide +kernel
theorem z9L:bootBuiltins "divmod"=some (.builtin "divmod"):=by decide +kernel
theorem zg7:bootBuiltins "int"=some (.type "int"):=by decide +kernel
theorem vx:bootBuiltins "len"=some (.builtin "len"):=by decide +kernel
theorem zd9:bootBuiltins "list"=some (.type "list"):=by decide +kernel
theorem z2C:bootBuiltins "max"=some (.builtin "max"):=by decide +kernel
theorem z4T:bootBuiltins "min"=some (.builtin "min"):=by decide +kernel
theorem zfJ:bootBuiltins "str"=some (.type "str"):=by decide +kernel
theorem zfq:bootBuiltins "sum"=some (.builtin "sum"):=by decide +kernel
theorem xa:bootBuiltins "tuple"=some (.type "tuple"):=by decide +kernel
theorem zjG:(["_law_least","_law_number"]:List Str).Nodup:=by decide +kernel
theorem zjd:(["bottom","lot","part","top"]:List Str).Nodup:=by decide +kernel
theorem zjB:(["bottom","lot","part"]:List Str).Nodup:=by decide +kernel
theorem zjS:(["part"]:List Str).Nodup:=by decide +kernel
theorem zje:(["error"]:List Str).Nodup:=by decide +kernel
theorem zji:(["_law_pot_here","_law_far","_law_place"]:List Str).Nodup:=by decide +kernel
theorem ziU:(["number"]:List Str).Nodup:=by decide +kernel
theorem zjk:(["table","at"]:List Str).Nodup:=by decide +kernel
theorem zjD:(["at","line"]:List Str).Nodup:=by decide +kernel
theorem zjC:(["one","column"]:List Str).Nodup:=by decide +kernel
theorem zhb:(["numbers","line"]:List Str).Nodup:=by decide +kernel
theorem ziB:(["one","other"]:List Str).Nodup:=by decide +kernel
theorem zif:(["thing","line"]:List Str).Nodup:=by decide +kernel
theorem zh8:(["places","line"]:List Str).Nodup:=by decide +kernel
theorem zhG:(["line","column"]:List Str).Nodup:=by decide +kernel
theorem ziC:(["rule","ahead"]:List Str).Nodup:=by decide +kernel
theorem zii:(["lot","by","number","quotient"]:List Str).Nodup:=by decide +kernel
theorem zic:(["divided","lot","by","at"]:List Str).Nodup:=by decide +kernel
theorem zhF:(["place","at"]:List Str).Nodup:=by decide +kernel
theorem zid:(["rule","by","line","quotient"]:List Str).Nodup:=by decide +kernel
theorem ziy:(["_law_bottom","_law_own"]:List Str).Nodup:=by decide +kernel
section
local macro_rules | `(tactic| trivial)=>`(tactic| exact ⟨rfl,rfl,rfl,by decide +kernel,rfl,by decide +kernel,by decide +kernel⟩)
theorem z6f:zr ["thing"] ["thing"] (zg jw):=by trivial
theorem z6m:zr ["thing"] ["thing"] (zg jr):=by trivial
theorem uH:zr ["one","other"] ["one","other"] (zg wF):=by trivial
theorem z60:zr ["line","numbers"] ["line","numbers"] (zg jj):=by trivial
theorem jc:zr ["size","places"] ["size"] (zg vP):=by trivial
theorem z3o:zr ["table"] ["table"] (zg ur):=by trivial
theorem wj:zr ["lot","at"] ["lot"] (zg yY):=by trivial
theorem z22:zr ["lot"] ["lot"] (zg vO):=by trivial
theorem z86:zr ["lot","place"] ["lot","place"] (zg kU):=by trivial
theorem z7T:zr ["thing"] ["thing"] (zg kz):=by trivial
theorem zaX:zr ["rule","numbers"] ["rule","numbers"] (zg z3P):=by trivial
theorem uN:zr ["number","by","whole","rest"] ["number","by"] (zg wH):=by trivial
theorem z17:zr ["_law_script","_law_k"] ["_law_script","_law_k"] (zg vf):=by trivial
theorem wu:zr ["_law_cell","_law_number","_law_j","_law_more"] ["_law_cell"] (zg jA):=by trivial
theorem z01:zr ["_law_pot_here","_law_far","_law_found"] ["_law_pot_here","_law_far"] (zg qE):=by trivial
theorem z3G:zr [] [] (zg uf):=by trivial
theorem z3y:zr ["thing","many"] ["thing","many"] (zg ue):=by trivial
theorem z2b:zr ["thing","least","most"] ["thing","least","most"] (zg vJ):=by trivial
theorem z2n:zr ["lines","numbers"] ["lines","numbers"] (zg vN):=by trivial
theorem z2K:zr ["lot","greatest","others"] ["lot"] (zg kJ):=by trivial
theorem z1w:zr ["lot","greatest","others"] ["lot"] (zg jm):=by trivial
theorem z4A:zr ["lot","by"] ["lot"] (zg z12):=by trivial
theorem z8j:zr ["lot"] ["lot"] (zg kT):=by trivial
theorem z4Z:zr ["thing"] ["thing"] (zg qo):=by trivial
theorem vb:zr ["_law_pot_here","_law_size","_law_most","_law_far","_law_found","_law_way","_law_at","_law_to"] ["_law_pot_here","_law_size","_law_most"] (zg jv):=by trivial
theorem z8R:zr ["thing"] ["thing"] (zg z1T):=by trivial
theorem z65:zr ["thing"] ["thing"] (zg jp):=by trivial
theorem jy:zr ["rule","lot","deal","by","divided"] ["rule","lot"] (zg ju):=by trivial
theorem uB:zr ["_law_pot_here","_law_lot_here"] ["_law_pot_here"] (zg ut):=by trivial
theorem z5J:zr ["thing"] ["thing"] (zg jl):=by trivial
theorem z3T:zr ["thing"] ["thing"] (zg uw):=by trivial
theorem jE:zr ["lot","divisor","number"] ["lot"] (zg z0V):=by trivial
theorem z52:zr ["lot"] ["lot"] (zg qh):=by trivial
theorem z3U:zr ["one","other"] ["one","other"] (zg uk):=by trivial
theorem qR:zr ["rule","lot"] ["rule","lot"] (zg xz):=by trivial
theorem z2i:zr ["lot"] ["lot"] (zg vH):=by trivial
theorem xF:zr ["size","tables","products","table"] ["size","tables"] (zg xE):=by trivial
theorem z5e:zr ["rule","lot"] ["rule","lot"] (zg qC):=by trivial
theorem zd6:zr ["lot","bottom"] ["lot","bottom"] (zg z5M):=by trivial
theorem z5X:zr ["rule","lot","by","quotients","left"] ["rule","lot"] (zg z5R):=by trivial
theorem jL:zr ["rule","lot","by","quotients"] ["rule","lot"] (zg ux):=by trivial
theorem z5j:zr ["lot","bottom","found"] ["lot","bottom"] (zg z1z):=by trivial
theorem zc2:zr ["rule","lot","lots"] ["rule","lot"] (zg z9U):=by trivial
theorem zbo:zr ["lot","bottom"] ["lot","bottom"] (zg z3j):=by trivial
theorem z4g:zr ["rule","lot"] ["rule","lot"] (zg ql):=by trivial
theorem qI:zr ["lot","most","found","bottom","of_bottom"] ["lot","most"] (zg km):=by trivial
theorem wQ:zr ["_law_lot_here","_law_bottom","_law_part","_law_top","_law_error"] ["_law_lot_here","_law_bottom"] (zg xy):=by trivial
theorem jf:zr ["rule","lot","tables"] ["rule","lot"] (zg vK):=by trivial
theorem zR:zr ["_law_lot_here","_law_often","_law_most","_law_part","_law_some","_law_bottom","_law_own","_law_other","_law_later"] ["_law_lot_here","_law_often"] (zg xf):=by trivial
theorem qF:zr ["rule","lot","found","product","column"] ["rule","lot"] (zg kP):=by trivial
theorem jO:zr ["_law_script","_law_at","_law_pot_here","_law_lot_here","_law_bottom","_law_rule","_law_some","_law_least"] ["_law_script"] (zg z2u):=by trivial
end
section
variable {P:Program}{w:World}{K:W.Frag}{mg:Str->Option Value}{base:Heap}(T:Txt mg){f:Addr}{fd:FuncData}
include T
local macro_rules | `(tactic| trivial)=>`(tactic| first | exact (fun _ _ _ _ _ _ us hl=>match us,hl with | [],_=>rfl) | exact (fun _ _ _ _ _ _ us hl=>match us,hl with | [_],_=>rfl) | exact (fun _ _ _ _ _ _ us hl=>match us,hl with | [_,_],_=>rfl) | exact (fun _ _ _ _ _ _ us hl=>match us,hl with | [_,_,_],_=>rfl))
theorem z5c(F:Fun K "is_whole" "is_whole" jw f fd)(hm:mg "is_whole"=some (.ref f))  : Has P w K mg base CX0 "is_whole" 1 Pg.yV:= (zE F hm (F.binds (ps:=["thing"]) (by trivial)) z6f rfl fun cdv A outer s H E hr hc=> have hu:=hr.units;(zj (zS (zbE (zfn (by decide) zg7 (by rfl) T.isinstance_ (by rfl) T.int_ (zb 0)) (zbe (zhJ (zfn (by decide) ze3 (by rfl) T.isinstance_ (by rfl) T.bool_ (zb 0))))))))
theorem z4X (F:Fun K "has_size" "has_size" jr f fd) (hm:mg "has_size"=some (.ref f))  : Has P w K mg base CX0 "has_size" 1 Pg.xq:= (zE F hm (F.binds (ps:=["thing"]) (by trivial)) z6m rfl fun cdv A outer s H E hr hc=> have hu:=hr.units;(zj (zS (zbE (zfn (by decide) xa (by rfl) T.isinstance_ (by rfl) T.tuple_ (zb 0)) (zbe (zdO zcI zcI (zh0 (by rfl) T.LEAST_SIZE_) (zO jF (by rfl) T.len_ vx (aN (zb 0) zf) (he:=(zD ..))) (zh0 (by rfl) T.MOST_SIZE_)))))))
theorem kS(F:Fun K "common_of_two" "common_of_two" wF f fd)(hm:mg "common_of_two"=some (.ref f))  : Has P w K mg base CX0 "common_of_two" 1 Pg.xh:= (zE F hm (F.binds (ps:=["one","other"]) (by trivial)) uH rfl fun cdv A outer s H E hr hc=> have hu:=hr.units;(zh (z9m PassesOwn.never (yf (z7Q hu) (zb 1) zq) (zj (zgr 0 1 hc uH.nd (aN (zb 1) (aB (zQ z9q (zb 0) (zb 1)) zf))))) (zj (zS (zb 0)))))
theorem z5m (F:Fun K "together" "together" jj f fd) (hm:mg "together"=some (.ref f))  : Has P w K mg base CX0 "together" 1 Pg.vW:= (zE F hm (F.binds (ps:=["line","numbers"]) (by trivial)) z60 rfl fun cdv A outer s H E hr hc=> have hu:=hr.units;(zj (zS (zO (zib (by exact hc)) (by rfl) T.sum_ zfq (aO (yD ["one","other"] [none,none] (by exact hc) (z8F (by rfl) T.zip_ (aN (zb 0) (aN (zb 1) zf))) (fun _ _ _=>jP 0 1 (by exact hc) ziB) (jC 0 1 (by decide) (by rfl) (by rfl)) (fun _ _ _=>yO) (fun _ _ _=>(zQ wO (zb 0) (zb 1)))) zf) (he:=(zT ..))))))
theorem z1J (F:Fun K "like_places" "like_places" vP f fd) (hm:mg "like_places"=some (.ref f))  : Has P w K mg base CX0 "like_places" 1 Pg.yk:= (zE F hm (F.binds (ps:=["size"]) (by trivial)) jc rfl fun cdv A outer s H E hr hc=> have hu:=hr.units;(zh (xB 1 jc.nd (z6e (by exact hc) (by rfl) T.list_ (by rfl) T.range_ (aN (zb 0) zf))) (zj (zS (wn wM (by rfl) T.tuple_ xa (aO (yD ["places","line"] [some 1,none] (by exact hc) (ua (zb 1)) (fun _ _ _=>zX (i:=1) zh8 (by rfl) (by first | exact Or.inl rfl | exact Or.inr rfl)) (yz 1 (by rfl)) (fun _ _ _=>yO) (fun _ _ _=>(wn wM (by rfl) T.tuple_ xa (aO (yD ["line","column"] [some 1,none] (by exact hc) (ua (zb 0)) (fun _ _ _=>zX (i:=1) zhG (by rfl) (by first | exact Or.inl rfl | exact Or.inr rfl)) (yz 1 (by rfl)) (fun _ _ _=>yO) (fun _ _ _=>(zgP (yf (z90 hu) (zb 0) (zb 1)) zq zq))) zf) (he:=(zT ..))))) zf) (he:=(zT ..)))))))
theorem z2h (F:Fun K "columns_of" "columns_of" ur f fd) (hm:mg "columns_of"=some (.ref f))  : Has P w K mg base CX0 "columns_of" 1 Pg.zJ:= (zE F hm (F.binds (ps:=["table"]) (by trivial)) z3o rfl fun cdv A outer s H E hr hc=> have hu:=hr.units;(zj (zS (wn wM (by rfl) T.tuple_ xa (aO (yD ["table","at"] [some 0,none] (by exact hc) (kA (by rfl) T.range_ (aQ (zO jF (by rfl) T.len_ vx (aN (zb 0) zf) (he:=(zD ..))) zf)) (fun _ _ _=>zX (i:=1) zjk (by rfl) (by first | exact Or.inl rfl | exact Or.inr rfl)) (yz 1 (by rfl)) (fun _ _ _=>yO) (fun _ _ _=>(wn wM (by rfl) T.tuple_ xa (aO (yD ["at","line"] [some 1,none] (by exact hc) (ua (zb 0)) (fun _ _ _=>zX (i:=1) zjD (by rfl) (by first | exact Or.inl rfl | exact Or.inr rfl)) (yz 1 (by rfl)) (fun _ _ _=>yO) (fun _ _ _=>(jB (zb 1) (zb 0)))) zf) (he:=(zT ..))))) zf) (he:=(zT ..))))))
theorem uy (F:Fun K "greatest_and_others" "greatest_and_others" yY f fd) (hm:mg "greatest_and_others"=some (.ref f))  : Has P w K mg base CX0 "greatest_and_others" 1 Pg.zv:= (zE F hm (F.binds (ps:=["lot"]) (by trivial)) wj rfl fun cdv A outer s H E hr hc=> have hu:=hr.units;(zh (xB 1 wj.nd (z6i (zb 0) (zO (z4C (by exact hc)) (by rfl) T.max_ z2C (aN (zb 0) zf) (he:=(zD ..))))) (zj (zS (z0p (aN (zb 1) (aB (zQ wV (zQ wV (xU (zb 0) vz (vE (zb 1))) (z0p (aK zq zf))) (xU (zb 0) (vE (zQ wV (zb 1) zq)) vz)) zf)))))))
theorem z1O (F:Fun K "least_place" "least_place" vO f fd) (hm:mg "least_place"=some (.ref f))  : Has P w K mg base CX0 "least_place" 1 Pg.yd:= (zE F hm (F.binds (ps:=["lot"]) (by trivial)) z22 rfl fun cdv A outer s H E hr hc=> have hu:=hr.units;(zj (zS (z6i (zb 0) (zO (z8V (by exact hc)) (by rfl) T.min_ z4T (aO (yD ["number"] [none] (by exact hc) (ua (zb 0)) (fun _ _ _=>zX (i:=0) ziU (by rfl) (by first | exact Or.inl rfl | exact Or.inr rfl)) (yz 0 (by rfl)) (fun _ _ _=>z5H (yf (z7Q hu) (zb 0) zq)) (fun _ _ _=>(zb 0))) zf) (he:=(zT ..)))))))
theorem z6z (F:Fun K "all_but" "all_but" kU f fd) (hm:mg "all_but"=some (.ref f))  : Has P w K mg base CX0 "all_but" 1 Pg.xC:= (zE F hm (F.binds (ps:=["lot","place"]) (by trivial)) z86 rfl fun cdv A outer s H E hr hc=> have hu:=hr.units;(zj (zS (yD ["place","at"] [some 1,none] (by exact hc) (kA (by rfl) T.range_ (aQ (zO jF (by rfl) T.len_ vx (aN (zb 0) zf) (he:=(zD ..))) zf)) (fun _ _ _=>zX (i:=1) zhF (by rfl) (by first | exact Or.inl rfl | exact Or.inr rfl)) (yz 1 (by rfl)) (fun _ _ _=>z5H (yf (z7Q hu) (zb 1) (zb 0))) (fun _ _ _=>(zb 1))))))
theorem z6b(F:Fun K "is_rule" "is_rule" kz f fd)(hm:mg "is_rule"=some (.ref f))(T_RULES:zdu P w K mg "RULES" uz):Has P w K mg base CX0 "is_rule" 1 Pg.qg:= (zE F hm (F.binds (ps:=["thing"]) (by trivial)) z7T rfl fun cdv A outer s H E hr hc=> have hu:=hr.units;(zj (zS (zbE (zfn (by decide) zfJ (by rfl) T.isinstance_ (by rfl) T.str_ (zb 0)) (zbe (ze7 T_RULES (by rfl) (zb 0)))))))
theorem z9w(F:Fun K "moved" "moved" z3P f fd)(hm:mg "moved"=some (.ref f))  : Has P w K mg base CX0 "moved" 1 Pg.wG:= (zE F hm (F.binds (ps:=["rule","numbers"]) (by trivial)) zaX rfl fun cdv A outer s H E hr hc=> have hu:=hr.units;(zj (zS (zgP (yf (z90 hu) (zb 0) zac) (zQ wV (xU (zb 1) (vE zq) vz) (xU (zb 1) vz (vE zq))) (zb 1)))))
theorem kQ (F:Fun K "nearest_whole" "nearest_whole" wH f fd) (hm:mg "nearest_whole"=some (.ref f))  : Has P w K mg base CX0 "nearest_whole" 1 Pg.yr:= (zE F hm (F.binds (ps:=["number","by"]) (by trivial)) uN rfl fun cdv A outer s H E hr hc=> have hu:=hr.units;(zh (z7M (zO zbF (by rfl) T.divmod_ z9L (aN (zb 0) (aN (zb 1) zf)) (he:=(zD ..))) (z2D 2 3 hc uN.nd)) (zj (zS (zgP (yf zgC (zQ wO zq (zb 3)) (zb 1)) (zQ wV (zb 2) zq) (zb 2))))))
theorem z0u (F:Fun K "_law_cell_at" "_law_cell_at" vf f fd) (hm:mg "_law_cell_at"=some (.ref f))  : Has P w K mg base CX0 "_law_cell_at" 1 Pg.yT:= (zE F hm (F.binds (ps:=["_law_script","_law_k"]) (by trivial)) z17 rfl fun cdv A outer s H E hr hc=> have hu:=hr.units;(zh (kf (yf zin (zb 1) (zO jF (by rfl) T.len_ vx (aN (zb 0) zf) (he:=(zD ..)))) (zj (zS (jB (zb 0) (zb 1)))) yF) (zj (zS zq))))
theorem z5f(F:Fun K "_law_pot" "_law_pot" jA f fd)(hm:mg "_law_pot"=some (.ref f))  : Has P w K mg base CX0 "_law_pot" 1 Pg.wW:= (zE F hm (F.binds (ps:=["_law_cell"]) (by trivial)) wu rfl fun cdv A outer s H E hr hc=> have hu:=hr.units;(zh (kf (yf zij (zb 0) (zQ z4N zq zq)) (zj (zS (za6 (aB (zQ z89 (zb 0) (zQ z4N zq zq)) zf)))) yF) (zh (xB 1 wu.nd zq) (zh (z1E PassesOwn.never hc (kA (by rfl) T.range_ (aK zq zf)) (kc 2 wu.nd) (zh (xB 3 wu.nd (zQ z9q (zQ wO (zQ wV (zQ wV (zQ z9q (zb 0) zq) (zQ wO zq (zb 2))) zq) zq) zq)) (zh (xB 3 wu.nd (zQ z9q (zQ wV (zQ wV (zQ wO (zb 3) (zb 3)) (zQ wO zq (zb 2))) zq) zq)) (zj (xB 1 wu.nd (zQ wV (zQ wO (zb 1) zq) (zb 3))))))) (zj (zS (za6 (aN (zb 1) zf))))))))
theorem z3a(F:Fun K "_law_take" "_law_take" qE f fd)(hm:mg "_law_take"=some (.ref f))  : Has P w K mg base CX0 "_law_take" 1 Pg.zm:= (zE F hm (F.binds (ps:=["_law_pot_here","_law_far"]) (by trivial)) z01 rfl fun cdv A outer s H E hr hc=> have hu:=hr.units;(zh (xB 2 z01.nd (zQ z9q (jB (zb 0) zq) (zb 1))) (zh (z7e (zQ z7h (jB (zb 0) zq) (zb 1)) (zb 0) zq) (zj (zS (zb 2))))))
theorem z25(F:Fun K "_law_rules" "_law_rules" uf f fd)(hm:mg "_law_rules"=some (.ref f))  : Has P w K mg base CX0 "_law_rules" 1 Pg.yL:= (zE F hm (F.binds (ps:=[]) (by trivial)) z3G rfl fun cdv A outer s H E hr hc=> have hu:=hr.units;(zj (zS (z4z (aK zac (aK zac (aK zac (aK zac zf))))))))
theorem z2c (F:Fun K "are_wholes" "are_wholes" ue f fd) (hm:mg "are_wholes"=some (.ref f)) (H_is_whole:Has P w K mg base CX0 "is_whole" 1 Pg.yV):Has P w K mg base CX0 "are_wholes" 2 Pg.yx:= (zE F hm (F.binds (ps:=["thing","many"]) (by trivial)) z3y rfl fun cdv A outer s H E hr hc=> have hu:=hr.units;(zh (kf (RW.rt (zep (z0r (z0q (zfn (by decide) xa (by rfl) T.isinstance_ (by rfl) T.tuple_ (zb 0)))) (z82 (yf (z7Q hu) (zO jF (by rfl) T.len_ vx (aN (zb 0) zf) (he:=(zD ..))) (zb 1))))) (zj (zS z7r)) yF) (zj (zS (zO (zfO (by exact hc)) (by rfl) T.all_ zbX (aO (yD ["part"] [none] (by exact hc) (ua (zb 0)) (fun _ _ _=>zX (i:=0) zjS (by rfl) (by first | exact Or.inl rfl | exact Or.inr rfl)) (yz 0 (by rfl)) (fun _ _ _=>yO) (fun _ _ _=>(zn H_is_whole (hr.mono (by decide)) zy (by rfl) (aN (zb 0) zf)))) zf) (he:=(zT ..)))))))
theorem z1K(F:Fun K "want_number" "want_number" vJ f fd)(hm:mg "want_number"=some (.ref f))(H_is_whole:Has P w K mg base CX0 "is_whole" 1 Pg.yV):Has P w K mg base CX0 "want_number" 2 Pg.yQ:= (zE F hm (F.binds (ps:=["thing","least","most"]) (by trivial)) z2b rfl fun cdv A outer s H E hr hc=> have hu:=hr.units;(zj (kf (RW.rt (zep (z0r (z0q (zn H_is_whole (hr.mono (by decide)) zy (by rfl) (aN (zb 0) zf)))) (z82 (z0r (zdL zcI zcI (zb 1) (zb 0) (zb 2)))))) (zj jn) yF)))
theorem z18 (F:Fun K "lines_times" "lines_times" vN f fd) (hm:mg "lines_times"=some (.ref f)) (H_together:Has P w K mg base CX0 "together" 1 Pg.vW):Has P w K mg base CX0 "lines_times" 2 Pg.yy:= (zE F hm (F.binds (ps:=["lines","numbers"]) (by trivial)) z2n rfl fun cdv A outer s H E hr hc=> have hu:=hr.units;(zj (zS (wn wM (by rfl) T.tuple_ xa (aO (yD ["numbers","line"] [some 1,none] (by exact hc) (ua (zb 0)) (fun _ _ _=>zX (i:=1) zhb (by rfl) (by first | exact Or.inl rfl | exact Or.inr rfl)) (yz 1 (by rfl)) (fun _ _ _=>yO) (fun _ _ _=>(zn H_together (hr.mono (by decide)) zy (by rfl) (aN (zb 1) (aN (zb 0) zf))))) zf) (he:=(zT ..))))))
theorem z5Q (F:Fun K "by_next" "by_next" kJ f fd) (hm:mg "by_next"=some (.ref f)) (H_greatest_and_others:Has P w K mg base CX0 "greatest_and_others" 1 Pg.zv):Has P w K mg base CX0 "by_next" 2 Pg.wz:= (zE F hm (F.binds (ps:=["lot"]) (by trivial)) z2K rfl fun cdv A outer s H E hr hc=> have hu:=hr.units;(zh (z7M (zn H_greatest_and_others (hr.mono (by decide)) zy (by rfl) (aN (zb 0) zf)) (z2D 1 2 hc z2K.nd)) (zj (zS (z0p (aQ (z6i (zb 2) (zO (z4C (by exact hc)) (by rfl) T.max_ z2C (aN (zb 2) zf) (he:=(zD ..)))) (aL (z4z (aN (zb 1) zf)) zf)))))))
theorem z4m(F:Fun K "by_least" "by_least" jm f fd)(hm:mg "by_least"=some (.ref f))(H_greatest_and_others:Has P w K mg base CX0 "greatest_and_others" 1 Pg.zv)(H_least_place:Has P w K mg base CX0 "least_place" 1 Pg.yd):Has P w K mg base CX0 "by_least" 2 Pg.xJ:= (zE F hm (F.binds (ps:=["lot"]) (by trivial)) z1w rfl fun cdv A outer s H E hr hc=> have hu:=hr.units;(zh (z7M (zn H_greatest_and_others (hr.mono (by decide)) zy (by rfl) (aN (zb 0) zf)) (z2D 1 2 hc z1w.nd)) (zj (zS (z0p (aQ (zn H_least_place (hr.mono (by decide)) zy (by rfl) (aN (zb 2) zf)) (aL (z4z (aN (zb 1) zf)) zf)))))))
theorem z8h(F:Fun K "by_all" "by_all" z12 f fd)(hm:mg "by_all"=some (.ref f))(H_least_place:Has P w K mg base CX0 "least_place" 1 Pg.yd)(H_all_but:Has P w K mg base CX0 "all_but" 1 Pg.xC):Has P w K mg base CX0 "by_all" 2 Pg.vy:= (zE F hm (F.binds (ps:=["lot"]) (by trivial)) z4A rfl fun cdv A outer s H E hr hc=> have hu:=hr.units;(zh (xB 1 z4A.nd (zn H_least_place (hr.mono (by decide)) zy (by rfl) (aN (zb 0) zf))) (zj (zS (z0p (aN (zb 1) (aQ (zn H_all_but (hr.mono (by decide)) zy (by rfl) (aN (zb 0) (aN (zb 1) zf))) zf)))))))
theorem z5Z(F:Fun K "by_turn" "by_turn" kT f fd)(hm:mg "by_turn"=some (.ref f))(H_all_but:Has P w K mg base CX0 "all_but" 1 Pg.xC):Has P w K mg base CX0 "by_turn" 2 Pg.wC:= (zE F hm (F.binds (ps:=["lot"]) (by trivial)) z8j rfl fun cdv A outer s H E hr hc=> have hu:=hr.units;(zh (kf (yf (z90 hu) (jB (zb 0) zq) zq) (zj (zS (z0p (aK zq (aL (z4z zf) zf))))) yF) (zj (zS (z0p (aK zq (aQ (zn H_all_but (hr.mono (by decide)) zy (by rfl) (aN (zb 0) (aK zq zf))) zf)))))))
theorem z3Z(F:Fun K "want_rule" "want_rule" qo f fd)(hm:mg "want_rule"=some (.ref f))(H_is_rule:Has P w K mg base CX0 "is_rule" 1 Pg.qg):Has P w K mg base CX0 "want_rule" 2 Pg.yR:= (zE F hm (F.binds (ps:=["thing"]) (by trivial)) z4Z rfl fun cdv A outer s H E hr hc=> have hu:=hr.units;(zj (kf (z0r (z0q (zn H_is_rule (hr.mono (by decide)) zy (by rfl) (aN (zb 0) zf)))) (zj jn) yF)))
theorem z4i (F:Fun K "_law_lot" "_law_lot" jv f fd) (hm:mg "_law_lot"=some (.ref f)) (H__law_take:Has P w K mg base CX0 "_law_take" 1 Pg.zm):Has P w K mg base CX0 "_law_lot" 2 Pg.xZ:= (zE F hm (F.binds (ps:=["_law_pot_here","_law_size","_law_most"]) (by trivial)) vb rfl fun cdv A outer s H E hr hc=> have hu:=hr.units;(zh (xB 3 vb.nd (zO (zcj (by exact hc)) (by rfl) T.min_ z4T (aB (zQ wV (zb 2) zq) (aS (jB (z4z (aK zq (aK zq (aK zq (aB (zQ z4N zq zq) (aB (zQ z4N zq zq) zf)))))) (zn H__law_take (hr.mono (by decide)) zy (by rfl) (aN (zb 0) (aK zq zf)))) zf)) (he:=(z3x ..)))) (zh (zeb 4 ["_law_pot_here","_law_far","_law_place"] [some 0,some 3,none] vb.nd hc (kA (by rfl) T.range_ (aN (zb 1) zf)) (fun _ _ _=>zX (i:=2) zji (by rfl) (by first | exact Or.inl rfl | exact Or.inr rfl)) (yz 2 (by rfl)) (fun _ _ _=>yO) (fun _ _ _=>(zn H__law_take (hr.mono (by decide)) zy (by rfl) (aN (zb 0) (aN (zb 1) zf))))) (zh (xB 5 vb.nd (zn H__law_take (hr.mono (by decide)) zy (by rfl) (aN (zb 0) (aK zq zf)))) (zh (zgr 6 7 hc vb.nd (aQ (zn H__law_take (hr.mono (by decide)) zy (by rfl) (aN (zb 0) (aN (zb 1) zf))) (aQ (zn H__law_take (hr.mono (by decide)) zy (by rfl) (aN (zb 0) (aN (zb 1) zf))) zf))) (zh (kf (yf (z90 hu) (zb 5) zq) (zj (z7e zq (zb 4) (zb 6))) yF) (zh (kf (yf (z90 hu) (zb 5) zq) (zj (z7e (jB (zb 4) (zb 7)) (zb 4) (zb 6))) yF) (zh (kf (yf (z90 hu) (zO (z4C (by exact hc)) (by rfl) T.max_ z2C (aN (zb 4) zf) (he:=(zD ..))) zq) (zj (z7e (zQ wV zq (zn H__law_take (hr.mono (by decide)) zy (by rfl) (aN (zb 0) (aB (zQ z89 (zb 3) zq) zf)))) (zb 4) (zb 7))) yF) (zj (zS (wn wM (by rfl) T.tuple_ xa (aN (zb 4) zf) (he:=(zD ..))))))))))))).tidy
theorem z7R (F:Fun K "is_lot" "is_lot" z1T f fd) (hm:mg "is_lot"=some (.ref f)) (H_has_size:Has P w K mg base CX0 "has_size" 1 Pg.xq) (H_are_wholes:Has P w K mg base CX0 "are_wholes" 2 Pg.yx):Has P w K mg base CX0 "is_lot" 3 Pg.uj:= (zE F hm (F.binds (ps:=["thing"]) (by trivial)) z8R rfl fun cdv A outer s H E hr hc=> have hu:=hr.units;(zh (kf (RW.rt (zep (z0r (z0q (zn H_has_size (hr.mono (by decide)) zy (by rfl) (aN (zb 0) zf)))) (z82 (z0r (z0q (zn H_are_wholes (hr.mono (by decide)) zy (by rfl) (aN (zb 0) (aQ (zO jF (by rfl) T.len_ vx (aN (zb 0) zf) (he:=(zD ..))) zf)))))))) (zj (zS z7r)) yF) (zj (zS (zbE (z2A zij (zO (z8V (by exact hc)) (by rfl) T.min_ z4T (aN (zb 0) zf) (he:=(zD ..))) zq) (zbe (z2A zgC (zO (z4C (by exact hc)) (by rfl) T.max_ z2C (aN (zb 0) zf) (he:=(zD ..))) zq)))))))
theorem z5k (F:Fun K "is_table" "is_table" jp f fd) (hm:mg "is_table"=some (.ref f)) (H_has_size:Has P w K mg base CX0 "has_size" 1 Pg.xq) (H_are_wholes:Has P w K mg base CX0 "are_wholes" 2 Pg.yx):Has P w K mg base CX0 "is_table" 3 Pg.wm:= (zE F hm (F.binds (ps:=["thing"]) (by trivial)) z65 rfl fun cdv A outer s H E hr hc=> have hu:=hr.units;(zh (kf (z0r (z0q (zn H_has_size (hr.mono (by decide)) zy (by rfl) (aN (zb 0) zf)))) (zj (zS z7r)) yF) (zj (zS (zO (zfO (by exact hc)) (by rfl) T.all_ zbX (aO (yD ["thing","line"] [some 0,none] (by exact hc) (ua (zb 0)) (fun _ _ _=>zX (i:=1) zif (by rfl) (by first | exact Or.inl rfl | exact Or.inr rfl)) (yz 1 (by rfl)) (fun _ _ _=>yO) (fun _ _ _=>(zn H_are_wholes (hr.mono (by decide)) zy (by rfl) (aN (zb 1) (aQ (zO jF (by rfl) T.len_ vx (aN (zb 0) zf) (he:=(zD ..))) zf))))) zf) (he:=(zT ..)))))))
theorem z4b (F:Fun K "division" "division" ju f fd) (hm:mg "division"=some (.ref f)) (T_RULES:zdu P w K mg "RULES" uz) (H_by_next:Has P w K mg base CX0 "by_next" 2 Pg.wz) (H_by_least:Has P w K mg base CX0 "by_least" 2 Pg.xJ) (H_by_all:Has P w K mg base CX0 "by_all" 2 Pg.vy) (H_by_turn:Has P w K mg base CX0 "by_turn" 2 Pg.wC):Has P w K mg base CX0 "division" 3 Pg.yU:= (zE F hm (F.binds (ps:=["rule","lot"]) (by trivial)) jy rfl fun cdv A outer s H E hr hc=> have hu:=hr.units;(zh (xB 2 jy.nd (zhs T_RULES (by rfl) (zb 0) (fun _ _=>rfl))) (zh (z7M (ze6 (n:=2) 2 (jU (Has.mono H_by_next (by decide)) (jU (Has.mono H_by_least (by decide)) (jU (Has.mono H_by_all (by decide)) (jU (Has.mono H_by_turn (by decide)) zaL)))) (hr.mono (by decide)) zy (aN (zb 1) zf) (he:=(zD ..))) (z2D 3 4 hc jy.nd)) (zj (zS (z0p (aN (zb 3) (aO (yD ["divided","lot","by","at"] [some 4,some 1,some 3,none] (by exact hc) (kA (by rfl) T.range_ (aQ (zO jF (by rfl) T.len_ vx (aN (zb 1) zf) (he:=(zD ..))) zf)) (fun _ _ _=>zX (i:=3) zic (by rfl) (by first | exact Or.inl rfl | exact Or.inr rfl)) (yz 3 (by rfl)) (fun _ _ _=>yO) (fun _ _ _=>(zgP (yf zjA (zb 3) (zb 0)) (zQ z7h (jB (zb 1) (zb 3)) (jB (zb 1) (zb 2))) zq))) zf))))))))
theorem z2m(F:Fun K "_law_parts" "_law_parts" ut f fd)(hm:mg "_law_parts"=some (.ref f))(H__law_take:Has P w K mg base CX0 "_law_take" 1 Pg.zm)(H__law_lot:Has P w K mg base CX0 "_law_lot" 2 Pg.xZ):Has P w K mg base CX0 "_law_parts" 3 Pg.xH:= (zE F hm (F.binds (ps:=["_law_pot_here"]) (by trivial)) uB rfl fun cdv A outer s H E hr hc=> have hu:=hr.units;(zh (xB 1 uB.nd (zn H__law_lot (hr.mono (by decide)) zy (by rfl) (aN (zb 0) (aB (zQ wV zq (zn H__law_take (hr.mono (by decide)) zy (by rfl) (aN (zb 0) (aK zq zf)))) (aB (zQ z4N zq zq) zf))))) (zh (kf (yf (z90 hu) (jB (zb 1) (ul zq)) zq) (zj (xB 1 uB.nd (zQ wV (xU (zb 1) vz (vE (ul zq))) (z0p (aB (zQ wV zq (zn H__law_take (hr.mono (by decide)) zy (by rfl) (aN (zb 0) (aK zq zf)))) zf))))) yF) (zj (zS (zb 1))))))
theorem z5o(F:Fun K "want_lot" "want_lot" jl f fd)(hm:mg "want_lot"=some (.ref f))(H_is_lot:Has P w K mg base CX0 "is_lot" 3 Pg.uj):Has P w K mg base CX0 "want_lot" 4 Pg.zY:= (zE F hm (F.binds (ps:=["thing"]) (by trivial)) z5J rfl fun cdv A outer s H E hr hc=> have hu:=hr.units;(zj (kf (z0r (z0q (zn H_is_lot (hr.mono (by decide)) zy (by rfl) (aN (zb 0) zf)))) (zj jn) yF)))
theorem z2f(F:Fun K "want_table" "want_table" uw f fd)(hm:mg "want_table"=some (.ref f))(H_is_table:Has P w K mg base CX0 "is_table" 3 Pg.wm):Has P w K mg base CX0 "want_table" 4 Pg.yA:= (zE F hm (F.binds (ps:=["thing"]) (by trivial)) z3T rfl fun cdv A outer s H E hr hc=> have hu:=hr.units;(zj (kf (z0r (z0q (zn H_is_table (hr.mono (by decide)) zy (by rfl) (aN (zb 0) zf)))) (zj jn) yF)))
theorem z8i(F:Fun K "common" "common" z0V f fd)(hm:mg "common"=some (.ref f))(H_common_of_two:Has P w K mg base CX0 "common_of_two" 1 Pg.xh)(H_want_lot:Has P w K mg base CX0 "want_lot" 4 Pg.zY):Has P w K mg base CX0 "common" 5 Pg.uv:= (zE F hm (F.binds (ps:=["lot"]) (by trivial)) jE rfl fun cdv A outer s H E hr hc=> have hu:=hr.units;(zh (xL (zn H_want_lot (hr.mono (by decide)) zy (by rfl) (aN (zb 0) zf))) (zh (xB 1 jE.nd zq) (zh (z1E PassesOwn.never hc (ua (zb 0)) (kc 2 jE.nd) (zj (xB 1 jE.nd (zn H_common_of_two (hr.mono (by decide)) zy (by rfl) (aN (zb 1) (aN (zb 2) zf)))))) (zj (zS (zb 1)))))))
theorem z3D (F:Fun K "has_ended" "has_ended" qh f fd) (hm:mg "has_ended"=some (.ref f)) (H_want_lot:Has P w K mg base CX0 "want_lot" 4 Pg.zY):Has P w K mg base CX0 "has_ended" 5 Pg.zV:= (zE F hm (F.binds (ps:=["lot"]) (by trivial)) z52 rfl fun cdv A outer s H E hr hc=> have hu:=hr.units;(zh (xL (zn H_want_lot (hr.mono (by decide)) zy (by rfl) (aN (zb 0) zf))) (zj (zS (z2A (z90 hu) (zO jF (by rfl) T.len_ vx (aO (yD ["number"] [none] (by exact hc) (ua (zb 0)) (fun _ _ _=>zX (i:=0) ziU (by rfl) (by first | exact Or.inl rfl | exact Or.inr rfl)) (yz 0 (by rfl)) (fun _ _ _=>z5H (yf (z7Q hu) (zb 0) zq)) (fun _ _ _=>(zb 0))) zf) (he:=(zT ..))) zq)))))
theorem z27 (F:Fun K "multiplied" "multiplied" uk f fd) (hm:mg "multiplied"=some (.ref f)) (H_columns_of:Has P w K mg base CX0 "columns_of" 1 Pg.zJ) (H_lines_times:Has P w K mg base CX0 "lines_times" 2 Pg.yy) (H_want_table:Has P w K mg base CX0 "want_table" 4 Pg.yA):Has P w K mg base CX0 "multiplied" 5 Pg.xg:= (zE F hm (F.binds (ps:=["one","other"]) (by trivial)) z3U rfl fun cdv A outer s H E hr hc=> have hu:=hr.units;(zh (xL (zn H_want_table (hr.mono (by decide)) zy (by rfl) (aN (zb 0) zf))) (zh (xL (zn H_want_table (hr.mono (by decide)) zy (by rfl) (aN (zb 1) zf))) (zh (kf (yf (z7Q hu) (zO jF (by rfl) T.len_ vx (aN (zb 0) zf) (he:=(zD ..))) (zO jF (by rfl) T.len_ vx (aN (zb 1) zf) (he:=(zD ..)))) (zj jn) yF) (zj (zS (zn H_columns_of (hr.mono (by decide)) zy (by rfl) (aQ (wn wM (by rfl) T.tuple_ xa (aO (yD ["one","column"] [some 0,none] (by exact hc) (ua (zn H_columns_of (hr.mono (by decide)) zy (by rfl) (aN (zb 1) zf))) (fun _ _ _=>zX (i:=1) zjC (by rfl) (by first | exact Or.inl rfl | exact Or.inr rfl)) (yz 1 (by rfl)) (fun _ _ _=>yO) (fun _ _ _=>(zn H_lines_times (hr.mono (by decide)) zy (by rfl) (aN (zb 0) (aN (zb 1) zf))))) zf) (he:=(zT ..))) zf) (he:=(vQ ..)))))))))
theorem qD(F:Fun K "want_rule_and_lot" "want_rule_and_lot" xz f fd)(hm:mg "want_rule_and_lot"=some (.ref f))(H_want_rule:Has P w K mg base CX0 "want_rule" 2 Pg.yR)(H_want_lot:Has P w K mg base CX0 "want_lot" 4 Pg.zY):Has P w K mg base CX0 "want_rule_and_lot" 5 Pg.zB:= (zE F hm (F.binds (ps:=["rule","lot"]) (by trivial)) qR rfl fun cdv A outer s H E hr hc=> have hu:=hr.units;(zh (xL (zn H_want_rule (hr.mono (by decide)) zy (by rfl) (aN (zb 0) zf))) (zj (xL (zn H_want_lot (hr.mono (by decide)) zy (by rfl) (aN (zb 1) zf))))))
theorem z1S(F:Fun K "want_bottom" "want_bottom" vH f fd)(hm:mg "want_bottom"=some (.ref f))(H_want_lot:Has P w K mg base CX0 "want_lot" 4 Pg.zY):Has P w K mg base CX0 "want_bottom" 5 Pg.zG:= (zE F hm (F.binds (ps:=["lot"]) (by trivial)) z2i rfl fun cdv A outer s H E hr hc=> have hu:=hr.units;(zh (xL (zn H_want_lot (hr.mono (by decide)) zy (by rfl) (aN (zb 0) zf))) (zj (kf (yf (z90 hu) (jB (zb 0) (ul zq)) zq) (zj jn) yF))))
theorem qT (F:Fun K "growing_products" "growing_products" xE f fd) (hm:mg "growing_products"=some (.ref f)) (H_like_places:Has P w K mg base CX0 "like_places" 1 Pg.yk) (H_multiplied:Has P w K mg base CX0 "multiplied" 5 Pg.xg):Has P w K mg base CX0 "growing_products" 6 Pg.zW:= (zE F hm (F.binds (ps:=["size","tables"]) (by trivial)) xF rfl fun cdv A outer s H E hr hc=> have hu:=hr.units;(zh (xB 2 xF.nd (za6 (aQ (zn H_like_places (hr.mono (by decide)) zy (by rfl) (aN (zb 0) zf)) zf))) (zh (z1E PassesOwn.never hc (ua (zb 1)) (kc 3 xF.nd) (zj (xL (z3X (zb 2) (zn H_multiplied (hr.mono (by decide)) zy (by rfl) (aS (jB (zb 2) (ul zq)) (aN (zb 3) zf)) (he:=(z3z ..))))))) (zj (zS (zb 2))))))
theorem z46(F:Fun K "want_step" "want_step" qC f fd)(hm:mg "want_step"=some (.ref f))(H_has_ended:Has P w K mg base CX0 "has_ended" 5 Pg.zV)(H_want_rule_and_lot:Has P w K mg base CX0 "want_rule_and_lot" 5 Pg.zB):Has P w K mg base CX0 "want_step" 6 Pg.yE:= (zE F hm (F.binds (ps:=["rule","lot"]) (by trivial)) z5e rfl fun cdv A outer s H E hr hc=> have hu:=hr.units;(zh (xL (zn H_want_rule_and_lot (hr.mono (by decide)) zy (by rfl) (aN (zb 0) (aN (zb 1) zf)))) (zj (kf (z0q (zn H_has_ended (hr.mono (by decide)) zy (by rfl) (aN (zb 1) zf))) (zj jn) yF))))
theorem zaF (F:Fun K "tops" "tops" z5M f fd) (hm:mg "tops"=some (.ref f)) (H_nearest_whole:Has P w K mg base CX0 "nearest_whole" 1 Pg.yr) (H_want_number:Has P w K mg base CX0 "want_number" 2 Pg.yQ) (H_want_bottom:Has P w K mg base CX0 "want_bottom" 5 Pg.zG):Has P w K mg base CX0 "tops" 6 Pg.M_tops:= (zE F hm (F.binds (ps:=["lot","bottom"]) (by trivial)) zd6 rfl fun cdv A outer s H E hr hc=> have hu:=hr.units;(zh (xL (zn H_want_bottom (hr.mono (by decide)) zy (by rfl) (aN (zb 0) zf))) (zh (xL (zn H_want_number (hr.mono (by decide)) zy (by rfl) (aN (zb 1) (aK zq (aN (zh0 (by rfl) T.MOST_BOTTOM_) zf))))) (zj (zS (wn wM (by rfl) T.tuple_ xa (aO (yD ["bottom","lot","part"] [some 1,some 0,none] (by exact hc) (ua (xU (zb 0) vz (vE (ul zq)))) (fun _ _ _=>zX (i:=2) zjB (by rfl) (by first | exact Or.inl rfl | exact Or.inr rfl)) (yz 2 (by rfl)) (fun _ _ _=>yO) (fun _ _ _=>(zn H_nearest_whole (hr.mono (by decide)) zy (by rfl) (aB (zQ wO (zb 0) (zb 2)) (aS (jB (zb 1) (ul zq)) zf)) (he:=(z3x ..))))) zf) (he:=(zT ..))))))))
theorem zbN (F:Fun K "step" "step" z5R f fd) (hm:mg "step"=some (.ref f)) (H_moved:Has P w K mg base CX0 "moved" 1 Pg.wG) (H_division:Has P w K mg base CX0 "division" 3 Pg.yU) (H_want_step:Has P w K mg base CX0 "want_step" 6 Pg.yE):Has P w K mg base CX0 "step" 7 Pg.M_step:= (zE F hm (F.binds (ps:=["rule","lot"]) (by trivial)) z5X rfl fun cdv A outer s H E hr hc=> have hu:=hr.units;(zh (xL (zn H_want_step (hr.mono (by decide)) zy (by rfl) (aN (zb 0) (aN (zb 1) zf)))) (zh (z7M (zn H_division (hr.mono (by decide)) zy (by rfl) (aN (zb 0) (aN (zb 1) zf))) (z2D 2 3 hc z5X.nd)) (zh (xB 4 z5X.nd (wn wM (by rfl) T.tuple_ xa (aO (yD ["lot","by","number","quotient"] [some 1,some 2,none,none] (by exact hc) (z8F (by rfl) T.zip_ (aN (zb 1) (aN (zb 3) zf))) (fun _ _ _=>jP 2 3 (by exact hc) zii) (jC 2 3 (by decide) (by rfl) (by rfl)) (fun _ _ _=>yO) (fun _ _ _=>(zQ z89 (zb 2) (zQ wO (zb 3) (jB (zb 0) (zb 1)))))) zf) (he:=(zT ..)))) (zj (zS (zn H_moved (hr.mono (by decide)) zy (by rfl) (aN (zb 0) (aN (zb 4) zf)))))))))
theorem z21 (F:Fun K "step_table" "step_table" ux f fd) (hm:mg "step_table"=some (.ref f)) (H_like_places:Has P w K mg base CX0 "like_places" 1 Pg.yk) (H_moved:Has P w K mg base CX0 "moved" 1 Pg.wG) (H_division:Has P w K mg base CX0 "division" 3 Pg.yU) (H_want_step:Has P w K mg base CX0 "want_step" 6 Pg.yE):Has P w K mg base CX0 "step_table" 7 Pg.xj:= (zE F hm (F.binds (ps:=["rule","lot"]) (by trivial)) jL rfl fun cdv A outer s H E hr hc=> have hu:=hr.units;(zh (xL (zn H_want_step (hr.mono (by decide)) zy (by rfl) (aN (zb 0) (aN (zb 1) zf)))) (zh (z7M (zn H_division (hr.mono (by decide)) zy (by rfl) (aN (zb 0) (aN (zb 1) zf))) (z2D 2 3 hc jL.nd)) (zj (zS (wn wM (by rfl) T.tuple_ xa (aO (yD ["rule","by","line","quotient"] [some 0,some 2,none,none] (by exact hc) (z8F (by rfl) T.zip_ (aQ (zn H_like_places (hr.mono (by decide)) zy (by rfl) (aQ (zO jF (by rfl) T.len_ vx (aN (zb 1) zf) (he:=(zD ..))) zf) (he:=(vQ ..))) (aN (zb 3) zf))) (fun _ _ _=>jP 2 3 (by exact hc) zid) (jC 2 3 (by decide) (by rfl) (by rfl)) (fun _ _ _=>yO) (fun _ _ _=>(zn H_moved (hr.mono (by decide)) zy (by rfl) (aN (zb 0) (aB (zQ wV (zQ wV (xU (zb 2) vz (vE (zb 1))) (z0p (aB (zQ wV (jB (zb 2) (zb 1)) (zb 3)) zf))) (xU (zb 2) (vE (zQ wV (zb 1) zq)) vz)) zf))))) zf) (he:=(zT ..))))))))
theorem z88 (F:Fun K "errors" "errors" z1z f fd) (hm:mg "errors"=some (.ref f)) (H_tops:Has P w K mg base CX0 "tops" 6 Pg.M_tops):Has P w K mg base CX0 "errors" 7 Pg.xu:= (zE F hm (F.binds (ps:=["lot","bottom"]) (by trivial)) z5j rfl fun cdv A outer s H E hr hc=> have hu:=hr.units;(zh (xB 2 z5j.nd (zn H_tops (hr.mono (by decide)) zy (by rfl) (aN (zb 0) (aN (zb 1) zf)))) (zj (zS (wn wM (by rfl) T.tuple_ xa (aO (yD ["bottom","lot","part","top"] [some 1,some 0,none,none] (by exact hc) (z8F (by rfl) T.zip_ (aS (xU (zb 0) vz (vE (ul zq))) (aN (zb 2) zf))) (fun _ _ _=>jP 2 3 (by exact hc) zjd) (jC 2 3 (by decide) (by rfl) (by rfl)) (fun _ _ _=>yO) (fun _ _ _=>(zQ z89 (zQ wO (zb 0) (zb 2)) (zQ wO (zb 3) (jB (zb 1) (ul zq)))))) zf) (he:=(zT ..)))))))
theorem zcP (F:Fun K "run" "run" z9U f fd) (hm:mg "run"=some (.ref f)) (H_has_ended:Has P w K mg base CX0 "has_ended" 5 Pg.zV) (H_want_rule_and_lot:Has P w K mg base CX0 "want_rule_and_lot" 5 Pg.zB) (H_step:Has P w K mg base CX0 "step" 7 Pg.M_step):Has P w K mg base CX0 "run" 8 Pg.M_run:= (zE F hm (F.binds (ps:=["rule","lot"]) (by trivial)) zc2 rfl fun cdv A outer s H E hr hc=> have hu:=hr.units;(zh (xL (zn H_want_rule_and_lot (hr.mono (by decide)) zy (by rfl) (aN (zb 0) (aN (zb 1) zf)))) (zh (xB 2 zc2.nd (za6 (aN (zb 1) zf))) (zh (z9m PassesOwn.never (z0r (z0q (zn H_has_ended (hr.mono (by decide)) zy (by rfl) (aS (jB (zb 2) (ul zq)) zf) (he:=(z3z ..))))) (zj (xL (z3X (zb 2) (zn H_step (hr.mono (by decide)) zy (by rfl) (aN (zb 0) (aS (jB (zb 2) (ul zq)) zf))))))) (zj (zS (zb 2)))))))
theorem z9c (F:Fun K "worst" "worst" z3j f fd) (hm:mg "worst"=some (.ref f)) (H_errors:Has P w K mg base CX0 "errors" 7 Pg.xu):Has P w K mg base CX0 "worst" 8 Pg.ye:= (zE F hm (F.binds (ps:=["lot","bottom"]) (by trivial)) zbo rfl fun cdv A outer s H E hr hc=> have hu:=hr.units;(zj (zS (zO (z4C (by exact hc)) (by rfl) T.max_ z2C (aO (yD ["error"] [none] (by exact hc) (ua (zn H_errors (hr.mono (by decide)) zy (by rfl) (aN (zb 0) (aN (zb 1) zf)))) (fun _ _ _=>zX (i:=0) zje (by rfl) (by first | exact Or.inl rfl | exact Or.inr rfl)) (yz 0 (by rfl)) (fun _ _ _=>yO) (fun _ _ _=>(zO zgE (by rfl) T.abs_ zc4 (aN (zb 0) zf) (he:=(zD ..))))) zf) (he:=(zT ..))))))
theorem z3H(F:Fun K "tables_of" "tables_of" ql f fd)(hm:mg "tables_of"=some (.ref f))(H_step_table:Has P w K mg base CX0 "step_table" 7 Pg.xj)(H_run:Has P w K mg base CX0 "run" 8 Pg.M_run):Has P w K mg base CX0 "tables_of" 9 Pg.xD:= (zE F hm (F.binds (ps:=["rule","lot"]) (by trivial)) z4g rfl fun cdv A outer s H E hr hc=> have hu:=hr.units;(zj (zS (yD ["rule","ahead"] [some 0,none] (by exact hc) (ua (xU (z7v (zn H_run (hr.mono (by decide)) zy (by rfl) (aN (zb 0) (aN (zb 1) zf)))) vz (vE (ul zq)))) (fun _ _ _=>zX (i:=1) ziC (by rfl) (by first | exact Or.inl rfl | exact Or.inr rfl)) (yz 1 (by rfl)) (fun _ _ _=>yO) (fun _ _ _=>(zn H_step_table (hr.mono (by decide)) zy (by rfl) (aN (zb 0) (aN (zb 1) zf))))))))
theorem z5W(F:Fun K "records" "records" km f fd)(hm:mg "records"=some (.ref f))(H_want_number:Has P w K mg base CX0 "want_number" 2 Pg.yQ)(H_want_bottom:Has P w K mg base CX0 "want_bottom" 5 Pg.zG)(H_worst:Has P w K mg base CX0 "worst" 8 Pg.ye):Has P w K mg base CX0 "records" 9 Pg.vn:= (zE F hm (F.binds (ps:=["lot","most"]) (by trivial)) qI rfl fun cdv A outer s H E hr hc=> have hu:=hr.units;(zh (xL (zn H_want_bottom (hr.mono (by decide)) zy (by rfl) (aN (zb 0) zf))) (zh (xL (zn H_want_number (hr.mono (by decide)) zy (by rfl) (aN (zb 1) (aK zq (aN (zh0 (by rfl) T.MOST_RECORDS_) zf))))) (zh (xB 2 qI.nd (za6 (aT (z0p (aK zq (aQ (zn H_worst (hr.mono (by decide)) zy (by rfl) (aN (zb 0) (aK zq zf))) zf))) zf))) (zh (z1E PassesOwn.never hc (zb9 (by rfl) T.range_ (aK zq (aB (zQ wV (zb 1) zq) zf))) (kc 3 qI.nd) (zh (xB 4 qI.nd (zn H_worst (hr.mono (by decide)) zy (by rfl) (aN (zb 0) (aN (zb 3) zf)))) (zj (kf (yf zin (zb 4) (jB (jB (zb 2) (ul zq)) zq)) (zj (xL (z3X (zb 2) (z0p (aN (zb 3) (aN (zb 4) zf)))))) yF)))) (zj (zS (zb 2))))))))
theorem qt (F:Fun K "_law_bottom_right" "_law_bottom_right" xy f fd) (hm:mg "_law_bottom_right"=some (.ref f)) (H_tops:Has P w K mg base CX0 "tops" 6 Pg.M_tops) (H_errors:Has P w K mg base CX0 "errors" 7 Pg.xu) (H_worst:Has P w K mg base CX0 "worst" 8 Pg.ye):Has P w K mg base CX0 "_law_bottom_right" 9 zP:= (zE F hm (F.binds (ps:=["_law_lot_here","_law_bottom"]) (by trivial)) wQ rfl fun cdv A outer s H E hr hc=> have hu:=hr.units;(zh (z1E PassesOwn.never hc (zfi (by rfl) T.zip_ (aS (xU (zb 0) vz (vE (ul zq))) (aQ (zn H_tops (hr.mono (by decide)) zy (by rfl) (aN (zb 0) (aN (zb 1) zf))) (aQ (zn H_errors (hr.mono (by decide)) zy (by rfl) (aN (zb 0) (aN (zb 1) zf))) zf)))) (zhT 2 3 4 hc wQ.nd) (zj (kf (RW.rt (zep (yf (z7Q hu) (zQ wO (zb 1) (zb 2)) (zQ wV (zQ wO (zb 3) (jB (zb 0) (ul zq))) (zb 4))) (z82 (yf zgC (zO zgE (by rfl) T.abs_ zc4 (aN (zb 4) zf) (he:=(zD ..))) (zn H_worst (hr.mono (by decide)) zy (by rfl) (aN (zb 0) (aN (zb 1) zf))))))) (zj (zS z7r)) yF))) (zj (zS (z2A zcI (zQ wO zq (zn H_worst (hr.mono (by decide)) zy (by rfl) (aN (zb 0) (aN (zb 1) zf)))) (jB (zb 0) (ul zq)))))))
theorem z0M (F:Fun K "products_of" "products_of" vK f fd) (hm:mg "products_of"=some (.ref f)) (H_growing_products:Has P w K mg base CX0 "growing_products" 6 Pg.zW) (H_tables_of:Has P w K mg base CX0 "tables_of" 9 Pg.xD):Has P w K mg base CX0 "products_of" 10 Pg.ym:= (zE F hm (F.binds (ps:=["rule","lot"]) (by trivial)) jf rfl fun cdv A outer s H E hr hc=> have hu:=hr.units;(zh (xB 2 jf.nd (zn H_tables_of (hr.mono (by decide)) zy (by rfl) (aN (zb 0) (aN (zb 1) zf)))) (zj (zS (zn H_growing_products (hr.mono (by decide)) zy (by rfl) (aQ (zO jF (by rfl) T.len_ vx (aN (zb 1) zf) (he:=(zD ..))) (aN (zb 2) zf)) (he:=(vQ ..)))))))
theorem uU (F:Fun K "_law_records_right" "_law_records_right" xf f fd) (hm:mg "_law_records_right"=some (.ref f)) (H_worst:Has P w K mg base CX0 "worst" 8 Pg.ye) (H_records:Has P w K mg base CX0 "records" 9 Pg.vn):Has P w K mg base CX0 "_law_records_right" 10 zF:= (zE F hm (F.binds (ps:=["_law_lot_here","_law_often"]) (by trivial)) zR rfl fun cdv A outer s H E hr hc=> have hu:=hr.units;(zh (xB 2 zR.nd zq) (zh (z1E PassesOwn.never hc (ua (xU (zb 0) vz (vE (ul zq)))) (kc 3 zR.nd) (zj (xB 2 zR.nd (zQ wO (zb 2) (zb 1))))) (zh (xB 4 zR.nd (z7v (zn H_records (hr.mono (by decide)) zy (by rfl) (aN (zb 0) (aN (zb 2) zf))))) (zh (kf (RW.rt (zep (yf (z7Q hu) (jB (jB (zb 4) zq) zq) zq) (z82 (yf zgC (zQ wO (zO (z8V (by exact hc)) (by rfl) T.min_ z4T (aO (yD ["_law_bottom","_law_own"] [none,none] (by exact hc) (ua (zb 4)) (fun _ _ _=>jP 0 1 (by exact hc) ziy) (jC 0 1 (by decide) (by rfl) (by rfl)) (fun _ _ _=>yO) (fun _ _ _=>(zb 1))) zf) (he:=(zT ..))) (zb 1)) (jB (zb 0) (ul zq)))))) (zj (zS z7r)) yF) (zh (z1E PassesOwn.never hc (z8F (by rfl) T.zip_ (aN (zb 4) (aS (xU (zb 4) (vE zq) vz) zf))) (zjc 5 6 7 8 hc zR.nd) (zh (kf (RW.rt (zep (yf zij (zb 8) (zb 6)) (zep (yf zcI (zb 7) (zb 5)) (z82 (yf (z7Q hu) (zn H_worst (hr.mono (by decide)) zy (by rfl) (aN (zb 0) (aN (zb 7) zf))) (zb 8)))))) (zj (zS z7r)) yF) (zj (kf (RW.rt (w_and (yf zgC (zb 7) (zQ wV (zb 5) zq)) (z9r (yf zin (zn H_worst (hr.mono (by decide)) zy (by rfl) (aN (zb 0) (aB (zQ z89 (zb 7) zq) zf))) (zb 6))))) (zj (zS z7r)) yF)))) (zj (zS (z2A (z90 hu) (jB (jB (zb 4) zq) zq) (zn H_worst (hr.mono (by decide)) zy (by rfl) (aN (zb 0) (aK zq zf))))))))))))
theorem z68 (F:Fun K "columns" "columns" kP f fd) (hm:mg "columns"=some (.ref f)) (H_columns_of:Has P w K mg base CX0 "columns_of" 1 Pg.zJ) (H_want_rule:Has P w K mg base CX0 "want_rule" 2 Pg.yR) (H_want_bottom:Has P w K mg base CX0 "want_bottom" 5 Pg.zG) (H_products_of:Has P w K mg base CX0 "products_of" 10 Pg.ym):Has P w K mg base CX0 "columns" 11 Pg.va:= (zE F hm (F.binds (ps:=["rule","lot"]) (by trivial)) qF rfl fun cdv A outer s H E hr hc=> have hu:=hr.units;(zh (xL (zn H_want_rule (hr.mono (by decide)) zy (by rfl) (aN (zb 0) zf))) (zh (xL (zn H_want_bottom (hr.mono (by decide)) zy (by rfl) (aN (zb 1) zf))) (zh (xB 2 qF.nd zg0) (zh (z1E PassesOwn.never hc (ua (xU (z7v (zn H_products_of (hr.mono (by decide)) zy (by rfl) (aN (zb 0) (aN (zb 1) zf)))) (vE zq) vz)) (kc 3 qF.nd) (zj (z1E PassesOwn.never hc (ua (zn H_columns_of (hr.mono (by decide)) zy (by rfl) (aN (zb 3) zf))) (kc 4 qF.nd) (zj (kf (yf (z7Q hu) (jB (zb 4) (ul zq)) zq) (zj (zf8 hu z7r (zb 2) (zb 4))) yF))))) (zj (zS (wn (zaQ (by exact hc)) (by rfl) T.list_ zd9 (aN (zb 2) zf) (he:=(zD ..))))))))))
theorem z7L (F:Fun K "law" "law" z2u f fd) (hm:mg "law"=some (.ref f)) (H__law_cell_at:Has P w K mg base CX0 "_law_cell_at" 1 Pg.yT) (H__law_pot:Has P w K mg base CX0 "_law_pot" 1 Pg.wW) (H__law_take:Has P w K mg base CX0 "_law_take" 1 Pg.zm) (H__law_rules:Has P w K mg base CX0 "_law_rules" 1 Pg.yL) (H__law_parts:Has P w K mg base CX0 "_law_parts" 3 Pg.xH) (H_common:Has P w K mg base CX0 "common" 5 Pg.uv) (H_has_ended:Has P w K mg base CX0 "has_ended" 5 Pg.zV) (H_worst:Has P w K mg base CX0 "worst" 8 Pg.ye) (H__law_bottom_right:Has P w K mg base CX0 "_law_bottom_right" 9 zP) (H__law_records_right:Has P w K mg base CX0 "_law_records_right" 10 zF) (H_columns:Has P w K mg base CX0 "columns" 11 Pg.va):z2I P w K mg base CX0 12 f fd ["_law_script"] (zcZ ⟨mg,K⟩ ze2):= zfo F jO rfl fun cdv A outer s H E hr hc=>by
  have hu:=hr.units;refine zh ?_ ?_
  ·refine z1E PassesOwn.never hc (kA (by rfl) T.range_ (aQ (zO (zgL (by exact hc)) (by rfl) T.max_ z2C (aK zq (aQ (zO (zcj (by exact hc)) (by rfl) T.min_ z4T (aQ (zO jF (by rfl) T.len_ vx (aN (zb 0) zf) (he:=(zD ..))) (aK zq zf)) (he:=(vQ ..))) zf)) (he:=(z30 ..))) zf)) (kc 1 jO.nd) ?_;refine zh ?_ ?_;·exact (xB 2 jO.nd (zn H__law_pot (hr.mono (by decide)) zy (by rfl) (aQ (zn H__law_cell_at (hr.mono (by decide)) zy (by rfl) (aN (zb 0) (aN (zb 1) zf))) zf) (he:=(vQ ..))))
   refine zh ?_ ?_;·exact (xB 3 jO.nd (zn H__law_parts (hr.mono (by decide)) zy (by rfl) (aN (zb 2) zf)))
   refine zh ?_ ?_
   ·refine z1E PassesOwn.never hc (ua (z4z (aK zq (aB (zQ wV zq (zn H__law_take (hr.mono (by decide)) zy (by rfl) (aN (zb 2) (aK zq zf)))) (aB (zQ z89 (zQ z4N zq zq) (zn H__law_take (hr.mono (by decide)) zy (by rfl) (aN (zb 2) (aB (zQ z4N zq zq) zf)))) zf))))) (kc 4 jO.nd) ?_;refine zj ?_;refine kf (z0r (z0q (zn H__law_bottom_right (hr.mono (by decide)) zy (by rfl) (aN (zb 3) (aN (zb 4) zf))))) ?_ ?_
    ·refine zj ?_;exact (zS z7r)
    ·exact yF
   refine zh ?_ ?_
   ·refine kf (z0r (z0q (zn H__law_records_right (hr.mono (by decide)) zy (by rfl) (aN (zb 3) (aB (zQ wV zq (zn H__law_take (hr.mono (by decide)) zy (by rfl) (aN (zb 2) (aK zq zf)))) zf))))) ?_ ?_
    ·refine zj ?_;exact (zS z7r)
    ·exact yF
   refine zh ?_ ?_;·exact (xB 5 jO.nd (jB (zdj H__law_rules (hr.mono (by decide)) zy (by rfl)) (zn H__law_take (hr.mono (by decide)) zy (by rfl) (aN (zb 2) (aK zq zf)))))
   refine zh ?_ ?_;·exact (xB 6 jO.nd (z7v (zn H_columns (hr.mono (by decide)) zy (by rfl) (aN (zb 5) (aN (zb 3) zf)))))
   refine zh ?_ ?_;·exact (xB 7 jO.nd (zn H_common (hr.mono (by decide)) zy (by rfl) (aN (zb 3) zf)))
   refine zh ?_ ?_
   ·refine kf (yf (z7Q hu) (zn H_has_ended (hr.mono (by decide)) zy (by rfl) (aN (zb 3) zf)) (z2A (z90 hu) (zb 6) (z4z zf))) ?_ ?_
    ·refine zj ?_;exact (zS z7r)
    ·exact yF
   refine zh ?_ ?_
   ·refine kf (RW.rt (w_and (yf (z7Q hu) (zb 6) (z4z zf)) (z9r (yf (zbs hu) (wn wM (by rfl) T.tuple_ xa (aO (yD ["_law_least","_law_number"] [some 7,none] (by exact hc) (ua (zb 3)) (fun _ _ _=>zX (i:=1) zjG (by rfl) (by first | exact Or.inl rfl | exact Or.inr rfl)) (yz 1 (by rfl)) (fun _ _ _=>yO) (fun _ _ _=>(zQ z7h (zb 1) (zb 0)))) zf) (he:=(zT ..))) (zb 6))))) ?_ ?_
    ·refine zj ?_;exact (zS z7r)
    ·exact yF
   refine zh ?_ ?_;·exact (xB 4 jO.nd (zQ z7h (jB (zb 3) (ul zq)) (zb 7)))
   refine zj ?_;refine kf (RW.rt (w_and (yf zcI (zb 4) (zQ z4N zq zq)) (z9r (yf (z7Q hu) (zn H_worst (hr.mono (by decide)) zy (by rfl) (aN (zb 3) (aN (zb 4) zf))) zq)))) ?_ ?_
   ·refine zj ?_;exact (zS z7r)
   ·exact yF
  refine zj ?_;exact (zS z7r)
end
end K45
namespace Pp
open PySem.Spec L2 Dd
def ky(c:List Int):List Key:=c.map Sum.inl
def kvC(F:List (List Int)):List (List Key×V):=F.map fun c=>(ky c,V.bl true)
def zc0(F:List (List Int))(c:List Int):List (List Int):=if c∈F then F else F++[c]
theorem zc5:∀ {a b:List Int},ky a=ky b->a=b
 | [],[],_=>rfl | [],_::_,h=>by simp [ky] at h | _::_,[],h=>by simp [ky] at h | x::a,y::b,h=>by
  simp only [ky,List.map_cons,List.cons.injEq,Sum.inl.injEq] at h;rw [h.1,zc5 (a:=a) (b:=b) h.2]
theorem zcQ(F:List (List Int))(c:List Int):((kvC F).any fun kv=>decide (kv.1=ky c))=decide (c∈F):=by induction F with
 | nil=>simp [kvC] | cons a F ih=>
  have e:kvC (a::F)=(ky a,V.bl true)::kvC F:=rfl;rw [e,List.any_cons,ih];by_cases h:a=c;·subst h;simp
  ·have:¬ ky a=ky c:=fun z=>h (zc5 z);have h':¬ c=a:=fun z=>h z.symm;simp [this,h']
theorem zcL(F:List (List Int))(c:List Int):z34 (kvC F) (ky c) (V.bl true)=kvC (zc0 F c):=by
 unfold z34 zc0;rw [zcQ];by_cases h:c∈F
 ·simp only [h,decide_true,if_true];clear h;induction F with
  | nil=>rfl | cons a F ih=>
   have e:kvC (a::F)=(ky a,V.bl true)::kvC F:=rfl;rw [e,List.map_cons,ih];split<;>rfl
 ·simp only [h,decide_false,Bool.false_eq_true,if_false];simp [kvC]
theorem zcE(c:List Int):(ky c).map z5y=c.map D.int:=by simp [ky,z5y]
theorem zaR(F:List (List Int)):z5C (kvC F)=F.map fun c=>D.tup (c.map D.int):=by
 simp only [z5C,kvC,List.map_map];congr 1;funext c;simp [zcE]
theorem zbP(F:List (List Int)):zeq (kvC F):=fun p hp=>by
 obtain ⟨c,_,rfl⟩:=List.mem_map.mp hp;rfl
theorem z9S(F:List (List Int)):z8o (vq (kvC F))=some (kvC F):=dec_enc (zbP F)
theorem z4I:∀ c:List Int,kM (c.map D.int)=some (ky c)
 | []=>rfl | i::c=>by simp [kM,z4I c,ky]
theorem zdJ(F:List (List Int)):(kvC F).length=F.length:=by simp [kvC]
theorem zaN(F:List (List Int))(c:List Int):(zc0 F c).length<=F.length+1:=by unfold zc0;split<;>simp
theorem zbL{Z:Ev}{S:Sto}{i j l:Nat}{F:List (List Int)}{c:List Int}(hi:Z[i]? = some (some (.dlo l)))(hj:Z[j]? = some (some (.tup (c.map D.int))))(hS:S[l]? = some (vq (kvC F)))(hl:F.length<cap): za8 (zc i) (zc j) (eC (.bl true)) Z S=.ok (.nx Z) (S.set l (vq (kvC (zc0 F c)))):=by
 have e1:zc i Z S=.ok (.dlo l) S:=by rw [yc,hi]
 have e2:zc j Z S=.ok (.tup (c.map D.int)) S:=by rw [yc,hj]
 have e3:eC (.bl true) Z S=.ok (.bl true) S:=by simp
 unfold za8;rw [e3,R.bind_ok,e1,R.bind_ok,e2,R.bind_ok];simp only [vV];rw [hS];simp only [Option.bind_some,z9S,z4I];rw [if_pos (by rw [zdJ];exact hl),zcL]
end Pp
set_option maxRecDepth 1000000
set_option maxHeartbeats 4000000
namespace Pm
abbrev Tb:=List (List Int)
def dot(r v:List Int):Int:=(List.zipWith (fun a b=>a*b) r v).sum
def mv(T:Tb)(v:List Int):List Int:=T.map fun r=>dot r v
def zU(T:Tb):Tb:=(List.range T.length).map fun j=>T.map fun r=>r.getD j 0
def z0d(A B:Tb):Tb:=zU ((zU B).map (mv A))
def ziJ(T:Tb)(i j:Nat):Tb:=(T.take i++T.drop (i+1)).map fun r=>r.take j++r.drop (j+1)
def sg(i j:Nat):Int:=if (i+j) % 2=0 then 1 else -1
def det:Nat->Tb->Int
 | 0,_=>0 | k+1,T=>if T.length=1 then (T.getD 0 []).getD 0 0 else ((List.range T.length).map fun j=>sg 0 j*(T.getD 0 []).getD j 0*det k (ziJ T 0 j)).sum
def zjw(T:Tb):Tb:=(List.range T.length).map fun i=>(List.range T.length).map fun j=>det 4 T*sg i j*det 4 (ziJ T j i)
def one(n:Nat):Tb:=(List.range n).map fun i=>(List.range n).map fun j=>if i=j then 1 else 0
structure Tab(n:Nat)(T:Tb):Prop where
 len:T.length=n
 row:∀ r∈T,r.length=n
theorem z5I{α:Type}{l:List α}(h:l.length=2):∃ a b,l=[a,b]:=by match l,h with | [a,b],_=>exact ⟨a,b,rfl⟩
theorem z4s{α:Type}{l:List α}(h:l.length=3):∃ a b c,l=[a,b,c]:=by match l,h with | [a,b,c],_=>exact ⟨a,b,c,rfl⟩
theorem z3v{α:Type}{l:List α}(h:l.length=4):∃ a b c d,l=[a,b,c,d]:=by match l,h with | [a,b,c,d],_=>exact ⟨a,b,c,d,rfl⟩
theorem zcF{T:Tb}(h:Tab 2 T):∃ a b c d,T=[[a,b],[c,d]]:=by
 obtain ⟨r,q,rfl⟩:=z5I h.len;obtain ⟨a,b,rfl⟩:=z5I (h.row r (by simp));obtain ⟨c,d,rfl⟩:=z5I (h.row q (by simp));exact ⟨a,b,c,d,rfl⟩
theorem zdI{T:Tb}(h:Tab 3 T):∃ a b c d e f g i j,T=[[a,b,c],[d,e,f],[g,i,j]]:=by
 obtain ⟨r,q,p,rfl⟩:=z4s h.len;obtain ⟨a,b,c,rfl⟩:=z4s (h.row r (by simp));obtain ⟨d,e,f,rfl⟩:=z4s (h.row q (by simp));obtain ⟨g,i,j,rfl⟩:=z4s (h.row p (by simp));exact ⟨a,b,c,d,e,f,g,i,j,rfl⟩
theorem zde{T:Tb}(h:Tab 4 T):∃ a b c d e f g i j k l m n o p q,T=[[a,b,c,d],[e,f,g,i],[j,k,l,m],[n,o,p,q]]:=by
 obtain ⟨r1,r2,r3,r4,rfl⟩:=z3v h.len;obtain ⟨a,b,c,d,rfl⟩:=z3v (h.row r1 (by simp));obtain ⟨e,f,g,i,rfl⟩:=z3v (h.row r2 (by simp));obtain ⟨j,k,l,m,rfl⟩:=z3v (h.row r3 (by simp));obtain ⟨n,o,p,q,rfl⟩:=z3v (h.row r4 (by simp));exact ⟨a,b,c,d,e,f,g,i,j,k,l,m,n,o,p,q,rfl⟩
theorem zeh(a b c d A B C D:Int):z0d [[a,b],[c,d]] [[A,B],[C,D]]=[[a*A+(b*C+0),a*B+(b*D+0)],[c*A+(d*C+0),c*B+(d*D+0)]]:=rfl
theorem zdf(a b c d e f g i j A B C D E F G I J:Int):z0d [[a,b,c],[d,e,f],[g,i,j]] [[A,B,C],[D,E,F],[G,I,J]]= [[a*A+(b*D+(c*G+0)),a*B+(b*E+(c*I+0)),a*C+(b*F+(c*J+0))],[d*A+(e*D+(f*G+0)),d*B+(e*E+(f*I+0)),d*C+(e*F+(f*J+0))],[g*A+(i*D+(j*G+0)),g*B+(i*E+(j*I+0)),g*C+(i*F+(j*J+0))]]:=rfl
theorem zdr(a b c d e f g i j k l m n o p q A B C D E F G I J K L M N Oo P Q:Int):z0d [[a,b,c,d],[e,f,g,i],[j,k,l,m],[n,o,p,q]] [[A,B,C,D],[E,F,G,I],[J,K,L,M],[N,Oo,P,Q]]= [[a*A+(b*E+(c*J+(d*N+0))),a*B+(b*F+(c*K+(d*Oo+0))),a*C+(b*G+(c*L+(d*P+0))),a*D+(b*I+(c*M+(d*Q+0)))], [e*A+(f*E+(g*J+(i*N+0))),e*B+(f*F+(g*K+(i*Oo+0))),e*C+(f*G+(g*L+(i*P+0))),e*D+(f*I+(g*M+(i*Q+0)))], [j*A+(k*E+(l*J+(m*N+0))),j*B+(k*F+(l*K+(m*Oo+0))),j*C+(k*G+(l*L+(m*P+0))),j*D+(k*I+(l*M+(m*Q+0)))], [n*A+(o*E+(p*J+(q*N+0))),n*B+(o*F+(p*K+(q*Oo+0))),n*C+(o*G+(p*L+(q*P+0))),n*D+(o*I+(p*M+(q*Q+0)))]]:=rfl
def d2(a b c d:Int):Int:=a*d-b*c
def d3(a b c d e f g h i:Int):Int:=a*d2 e f h i-b*d2 d f g i+c*d2 d e g h
def d4(a b c d e f g h i j k l m n o p:Int):Int:=a*d3 f g h j k l n o p-b*d3 e g h i k l m o p+c*d3 e f h i j l m n p-d*d3 e f g i j k m n o
theorem assoc{n:Nat}{A B C:Tb}(hn:n=2\/n=3\/n=4)(ha:Tab n A)(hb:Tab n B)(hc:Tab n C):z0d (z0d A B) C=z0d A (z0d B C):=by
 rcases hn with rfl | rfl | rfl
 ·obtain ⟨a,b,c,d,rfl⟩:=zcF ha;obtain ⟨e,f,g,h,rfl⟩:=zcF hb;obtain ⟨i,j,k,l,rfl⟩:=zcF hc;simp only [zeh,List.cons.injEq,and_true];and_intros<;>grind
 ·obtain ⟨a1,a2,a3,a4,a5,a6,a7,a8,a9,rfl⟩:=zdI ha;obtain ⟨b1,b2,b3,b4,b5,b6,b7,b8,b9,rfl⟩:=zdI hb;obtain ⟨c1,c2,c3,c4,c5,c6,c7,c8,c9,rfl⟩:=zdI hc;simp only [zdf,List.cons.injEq,and_true];and_intros<;>grind
 ·obtain ⟨a1,a2,a3,a4,a5,a6,a7,a8,a9,a10,a11,a12,a13,a14,a15,a16,rfl⟩:=zde ha;obtain ⟨b1,b2,b3,b4,b5,b6,b7,b8,b9,b10,b11,b12,b13,b14,b15,b16,rfl⟩:=zde hb;obtain ⟨c1,c2,c3,c4,c5,c6,c7,c8,c9,c10,c11,c12,c13,c14,c15,c16,rfl⟩:=zde hc;simp only [zdr,List.cons.injEq,and_true];and_intros<;>grind
end Pm
set_option maxRecDepth 1000000
set_option maxHeartbeats 40000000
namespace Pm
theorem zj2:one 2=[[1,0],[0,1]]:=rfl
theorem zj7:one 3=[[1,0,0],[0,1,0],[0,0,1]]:=rfl
theorem zj0:one 4=[[1,0,0,0],[0,1,0,0],[0,0,1,0],[0,0,0,1]]:=rfl
theorem zb1{n:Nat}{A:Tb}(hn:n=2\/n=3\/n=4)(ha:Tab n A):z0d (one n) A=A/\z0d A (one n)=A:=by
 rcases hn with rfl | rfl | rfl
 ·obtain ⟨a,b,c,d,rfl⟩:=zcF ha;rw [zj2,zeh,zeh];simp
 ·obtain ⟨a1,a2,a3,a4,a5,a6,a7,a8,a9,rfl⟩:=zdI ha;rw [zj7,zdf,zdf];simp
 ·obtain ⟨a1,a2,a3,a4,a5,a6,a7,a8,a9,a10,a11,a12,a13,a14,a15,a16,rfl⟩:=zde ha;rw [zj0,zdr,zdr];simp
theorem zf2{n:Nat}{v:List Int}(hn:n=2\/n=3\/n=4)(hv:v.length=n):mv (one n) v=v:=by
 rcases hn with rfl | rfl | rfl
 ·obtain ⟨x,y,rfl⟩:=z5I hv;rw [zj2];simp [mv,dot]
 ·obtain ⟨x,y,z,rfl⟩:=z4s hv;rw [zj7];simp [mv,dot]
 ·obtain ⟨x,y,z,u,rfl⟩:=z3v hv;rw [zj0];simp [mv,dot]
end Pm
set_option maxRecDepth 1000000
set_option maxHeartbeats 40000000
namespace Pm
abbrev Sz(n:Nat):Prop:=n=2\/n=3\/n=4
theorem z6O{n:Nat}{A B:Tb}(ha:Tab n A)(hb:Tab n B):Tab n (z0d A B):=by
 have l1:(zU B).length=n:=by simp [zU,hb.len]
 refine ⟨by simp [z0d,zU,hb.len],fun r hr=>?_⟩;simp only [z0d] at hr;rw [zU] at hr;obtain ⟨j,_,rfl⟩:=List.mem_map.mp hr;simp [l1]
theorem z6o(n:Nat):Tab n (one n):=by
 refine ⟨by simp [one],fun r hr=>?_⟩;simp only [one] at hr;obtain ⟨j,_,rfl⟩:=List.mem_map.mp hr;simp
def zhe(A:Tb):Prop:=det 4 A=1\/det 4 A=-1
def Bd(m:Nat)(T:Tb):Prop:=∀ r∈T,∀ x∈r,x.natAbs<2 ^ m
theorem zero_lt_two(m:Nat):(0:Int).natAbs<2 ^ m:=Nat.two_pow_pos _
theorem zd1{m:Nat}{r:List Int}(hr:∀ x∈r,x.natAbs<2 ^ m)(j:Nat):(r.getD j 0).natAbs<2 ^ m:=by
 by_cases h:j<r.length
 ·rw [List.getD,List.getElem?_eq_getElem h];exact hr _ (List.getElem_mem _)
 ·rw [List.getD,List.getElem?_eq_none (by omega)];exact zero_lt_two m
theorem zcR{m:Nat}{T:Tb}(h:Bd m T):Bd m (zU T):=fun r hr x hx=>by
 simp only [zU] at hr;obtain ⟨j,_,rfl⟩:=List.mem_map.mp hr;obtain ⟨q,hq,rfl⟩:=List.mem_map.mp hx;exact zd1 (h q hq) j
theorem Tab.le{n:Nat}{T:Tb}(h:Tab n T)(hn:Sz n):∀ r∈T,r.length<=4:=fun r hr=>by rw [h.row r hr];omega
end Pm
namespace Pg
open PySem.Spec L2 Dd Pm
abbrev iL(ns:List Int):List D:=ns.map D.int
theorem ziP{i:Int}{m:Nat}(h:i.natAbs<2 ^ m)(hm:m<=2000):i.natAbs<BIG:=Nat.lt_of_lt_of_le h (Nat.pow_le_pow_right (by decide) (by omega))
theorem zc6{a b:Int}{m k:Nat}(s:Sto)(ha:a.natAbs<2 ^ m)(hm:m<=2000)(hb:b.natAbs<2 ^ k)(hk:k<=2000):yP (.int a) (.int b) s=.ok (.int (a*b)) s:=by rw [qf,if_pos ⟨ziP ha hm,ziP hb hk⟩]
theorem z4B{a b:Int}(s:Sto)(hb:0<b):z8z (.int a) (.int b) s=.ok (.int (a % b)) s:=by rw [zeU,if_pos hb]
theorem z6Y{xs:List D}(s:Sto)(h:∀ x∈xs,x=.bl true):zeE [.lst xs] s=.ok (.bl true) s:=by
 have e:xs=(xs.map fun _=>true).map D.bl:=by
  rw [List.map_map];conv=>lhs;rw [<- List.map_id xs]
  exact List.map_congr_left fun x hx=>h x hx
 have b:bools xs=some (xs.map fun _=>true):=by
  conv=>lhs;rw [e]
  exact z8S _
 simp [zeE,zL,b]
theorem z9G{ns:List Int}(s:Sto)(h:ns≠[]):uC [.tup (iL ns)] s=.ok (.int (maxL ns)) s:=by cases ns with
 | nil=>exact absurd rfl h | cons n ns=>simp only [uC,zL,Option.bind_some,xK]
theorem zfx{ns:List Int}(s:Sto)(h:ns≠[]):z0n [.tup (iL ns)] s=.ok (.int (minL ns)) s:=by cases ns with
 | nil=>exact absurd rfl h | cons n ns=>simp only [z0n,zL,Option.bind_some,xK]
theorem zf0{ns:List Int}(s:Sto)(h:ns≠[]):uC [.lst (iL ns)] s=.ok (.int (maxL ns)) s:=by cases ns with
 | nil=>exact absurd rfl h | cons n ns=>simp only [uC,zL,Option.bind_some,xK]
theorem zbc{ns:List Int}{l:Nat}{s:Sto}(h:ns≠[])(e:s[l]? = some (iL ns)):uC [.loc l] s=.ok (.int (maxL ns)) s:=by cases ns with
 | nil=>exact absurd rfl h | cons n ns=>simp only [uC,zL,e,Option.bind_some,xK]
theorem kG(ps:List Int)(q:Int)(s:Sto):dIx (.tup (iL (ps++[q]))) (.int (-1)) s=.ok (.int q) s:=by
 have e:ixN (iL (ps++[q])).length (-1)=some ps.length:=by
  unfold ixN;rw [if_neg (by omega),if_pos (by simp;omega)];congr 1;simp;omega
 simp only [dIx,zL,atI,e,Option.bind_some];simp
theorem z0T(ps:List Int)(q:Int)(s:Sto):dSl (.tup (iL (ps++[q]))) none (some (-1)) s=.ok (.tup (iL ps)) s:=by
 have e:Dd.cutD (iL (ps++[q])) none (some (-1))=iL ps:=by
  have e1:HT.sIx (iL (ps++[q])).length (iL (ps++[q])).length (some (-1))=ps.length:=by
   unfold HT.sIx;simp only;rw [if_pos (by omega)];simp;omega
  unfold Dd.cutD;rw [e1];simp [HT.sIx]
 simp only [dSl,e]
theorem z8m(i:Int)(s:Sto):yV [.int i] s=.ok (.bl true) s:=by simp [yV,Mof,jq,zx,gIs,tyD,isT]
theorem z2T(xs:List D)(s:Sto)(h:2<=xs.length/\xs.length<=4):xq [.tup xs] s=.ok (.bl true) s:=by
 have h1:(2:Int)<=xs.length:=by omega
 have h2:(xs.length:Int)<=4:=by omega
 simp [xq,Mof,z1e,zx,gIs,tyD,isT,wL,zL,h1,h2]
theorem kW (ns:List Int) (s:Sto) (h:ns.length<=1000):yx [.tup (iL ns),.int ns.length] s=.ok (.bl true) s:=by
 simp [yx,Mof,jH,zx,gIs,tyD,isT,wL,zL];rw [z4x (fun _=>D.bl true) (iL ns) [] (by intro x hx;obtain ⟨n,_,rfl⟩:=List.mem_map.mp hx;simp [z8m]) (by simp [cap];omega)];simp only [R.bind_ok,List.nil_append];rw [z6Y s (by intro x hx;obtain ⟨_,_,rfl⟩:=List.mem_map.mp hx;rfl)];simp
theorem uG{α:Type}{all:List D}{s:Sto}{body:D->Sto->R (Option D)}(g f:α->D):∀ (l:List α)(acc:List D),(∀ a∈l,body (g a) s=.ok (some (f a)) s)->acc.length+l.length<=cap->ui [] all body (l.map g) acc s=.ok (acc++l.map f) s
 | [],acc,_,_=>by simp [ui,okG] | x::xs,acc,hb,hl=>by
  have ih:=uG (all:=all) g f xs (acc++[f x]) (fun y hy=>hb y (by simp [hy])) (by simp at hl ⊢;omega);have hc:acc.length<cap:=by simp at hl;omega
  rw [List.map_cons,ui];simp [okG,hb x (by simp),hc,ih]
theorem zfK(ns:List Int)(s:Sto):zf9 [.lst (iL ns)] s=.ok (.int ns.sum) s:=by simp only [zf9,zL,Option.bind_some,xK]
theorem zw:∀ (r v:List Int),List.zipWith (fun a b=>a*b) r v=(List.zip r v).map fun p=>p.1*p.2
 | [],_=>by simp | _::_,[]=>by simp | a::r,b::v=>by simp [zw r v]
theorem z3p:∀ (r v:List Int),z0A (iL r) (iL v)=(List.zip r v).map fun p=>D.tup [.int p.1,.int p.2]
 | [],_=>by simp [z0A] | _::_,[]=>by simp [z0A] | a::r,b::v=>by
  have:=z3p r v;simp only [iL] at this;simp [z0A,this]
theorem z8t{r v:List Int}{m k:Nat}(s:Sto)(hr:∀ x∈r,x.natAbs<2 ^ m)(hv:∀ x∈v,x.natAbs<2 ^ k)(hm:m<=2000)(hk:k<=2000)(hl:r.length<=4):vW [.tup (iL r),.tup (iL v)] s=.ok (.int (dot r v)) s:=by
 have ez:=z3p r v;simp only [iL] at ez;simp [vW,Mof,z0L,zx,z2O,ez,-List.map_map];rw [uG _ (fun p:Int×Int=>D.int (p.1*p.2)) _ [] (by
  intro p hp;have h1:=hr p.1 (List.of_mem_zip hp).1;have h2:=hv p.2 (List.of_mem_zip hp).2;simp [zc6 s h1 hm h2 hk]) (by simp [cap];omega)];simp only [R.bind_ok,List.nil_append];have e:(List.zip r v).map (fun p:Int×Int=>D.int (p.1*p.2))=iL ((List.zip r v).map fun p=>p.1*p.2):=by simp [Function.comp_def]
 rw [e,zfK];simp [dot,zw]
abbrev rD(r:List Int):D:=.tup (iL r)
abbrev tD(T:Tb):D:=.tup (T.map rD)
theorem z43{T:Tb}{v:List Int}{m k:Nat}(s:Sto)(h:Bd m T)(hv:∀ x∈v,x.natAbs<2 ^ k)(hm:m<=2000)(hk:k<=2000)(hl:∀ r∈T,r.length<=4)(hT:T.length<=4):yy [tD T,.tup (iL v)] s=.ok (.tup (iL (mv T v))) s:=by
 simp only [yy,Mof,jh,zx,tD];simp [-List.map_map];rw [uG rD (fun r=>D.int (dot r v)) T [] (by
  intro r hr;have:=z8t s (h r hr) hv hm hk (hl r hr);simp only [iL] at this;simp [this]) (by simp [cap];omega)];simp [yG,zL,mv,Function.comp_def]
theorem zch{xs:List D}{j:Nat}{d:D}(s:Sto)(h:xs[j]? = some d):dIx (.tup xs) (.int j) s=.ok d s:=by
 have hj:j<xs.length:=(List.getElem?_eq_some_iff.mp h).1;have e:ixN xs.length (j:Int)=some j:=by
  unfold ixN;rw [if_pos (by omega),if_pos (by omega)];simp
 simp only [dIx,zL,atI,e,Option.bind_some,h]
theorem z91{n:Nat}{ar:FA}{Z:Ev}{s s1:Sto}(hn:n<=1000)(h:ar Z s=.ok [.int n] s1):z5w ar Z s=.ok (yJ n,[]) s1:=by
 have c62:-(2 ^ 62)<=(n:Int)/\(n:Int)<2 ^ 62:=by omega
 rw [zck,h,R.bind_ok];simp only;rw [if_pos c62,Int.toNat_natCast]
theorem zjy {T:Tb} {k:Nat} (s:Sto) (hk:∀ r∈T,k<r.length) (hT:T.length<=4):zK (yB (zc 0)) [some 1,none] (we 1) yM (eOp dIx (zc 1) (zc 0)) [some (tD T),some (.int k)] s=.ok (.lst (iL (T.map fun r=>r.getD k 0))) s:=by
 simp [-List.map_map];rw [uG rD (fun r=>D.int (r.getD k 0)) T [] (by
  intro r hrr;have hkr:k<r.length:=hk r hrr;have:=zch (xs:=iL r) (j:=k) (d:=.int (r.getD k 0)) s (by simp [List.getElem?_map,List.getElem?_eq_getElem hkr,List.getD]);simp only [iL] at this;simp [this]) (by simp [cap];omega)];simp [Function.comp_def]
theorem zj9 {T:Tb} (s:Sto) (hr:∀ r∈T,T.length<=r.length) (hT:T.length<=4): zK (z5w (za (zd wL (za (zc 0) zp)) zp)) [some 0,none] (we 1) yM (zd yG (za (zK (yB (zc 0)) [some 1,none] (we 1) yM (eOp dIx (zc 1) (zc 0))) zp)) [some (tD T)] s=.ok (.lst ((zU T).map rD)) s:=by
 rw [z0G,z1R,z91 (n:=T.length) (s1:=s) (by omega) (by simp [wL,zL])];rw [R.bind_ok];simp only [yJ];rw [uG (fun k:Nat=>D.int (k:Int)) (fun k:Nat=>rD (T.map fun r=>r.getD k 0)) (List.range T.length) [] (by
  intro k hk;have hk':k<T.length:=by simpa using hk
  rw [z0i,R.bind_ok,z9Z,R.bind_ok,if_pos rfl,yj,zt];rw [show (xW [some 0,none] [some (tD T)]).set 1 (some (.int (k:Int)))=[some (tD T),some (.int (k:Int))] from rfl];rw [zjy s (fun r hrr=>Nat.lt_of_lt_of_le hk' (hr r hrr)) hT];simp [yG,zL]) (by simp [cap];omega)];simp [zU,Function.comp_def]
theorem zhS{d:D}(s:Sto)(x:List D)(h:zK (z5w (za (zd wL (za (zc 0) zp)) zp)) [some 0,none] (we 1) yM (zd yG (za (zK (yB (zc 0)) [some 1,none] (we 1) yM (eOp dIx (zc 1) (zc 0))) zp)) [some d] s=.ok (.lst x) s):zJ [d] s=.ok (.tup x) s:=by
 have st:zx ["table"] [d]=[some d]:=rfl;simp only [zJ,Mof,jG,st,List.length_cons,List.length_nil,if_true,qX,xc,yj,zt,h,R.bind_ok,zN,yG,zL]
theorem qa{T:Tb}(s:Sto)(hr:∀ r∈T,T.length<=r.length)(hT:T.length<=4):zJ [tD T] s=.ok (tD (zU T)) s:=zhS s _ (zj9 s hr hT)
theorem z8y {n:Nat} {T:Tb} (s:Sto) (hn:Sz n) (h:Tab n T):wm [tD T] s=.ok (.bl true) s:=by
 have hl:=h.len;have hs:=z2T (T.map rD) s (by simp [hl];omega);have key:∀ d:D,xq [d] s=.ok (.bl true) s->zK (yB (zc 0)) [some 0,none] (we 1) yM (zd yx (za (zc 1) (za (zd wL (za (zc 0) zp)) zp))) [some d] s=.ok (.lst (T.map fun _=>D.bl true)) s->wm [d] s=.ok (.bl true) s:=fun d h1 h2=>by
  have st:zx ["thing"] [d]=[some d]:=rfl;simp only [wm,Mof,z1v,st,List.length_cons,List.length_nil,if_true];rw [zu (Z':=[some d]) (s':=s) (by simp [h1])];simp only [z0l,xc,yj,zt,h2,R.bind_ok,zN];rw [z6Y s (by intro x hx;obtain ⟨_,_,rfl⟩:=List.mem_map.mp hx;rfl)];rfl
 refine key _ hs ?_;rw [z0G,z1R];simp only [z93,yc,List.getElem?_cons_zero,R.bind_ok];rw [uG rD (fun _=>D.bl true) T [] (by
  intro r hr;have hw:=kW r s (by have:=h.row r hr;omega);rw [h.row r hr,<- hl] at hw;simp only [iL] at hw;simp [wL,zL,hw]) (by simp [cap];omega)];simp
theorem z03{n:Nat}{T:Tb}(s:Sto)(hn:Sz n)(h:Tab n T):yA [tD T] s=.ok .non s:=by
 have key:∀ d:D,wm [d] s=.ok (.bl true) s->yA [d] s=.ok .non s:=fun d h1=>by simp [yA,Mof,jI,zx,h1]
 exact key _ (z8y s hn h)
theorem ziq{d e c:D}{cs:List (List Int)}(s:Sto)(f:List Int->D)(hc:zJ [e] s=.ok (.tup (cs.map rD)) s)(h:∀ r∈cs,yy [d,rD r] s=.ok (f r) s)(hl:cs.length<=4): zK (yB (zd zJ (za (zc 1) zp))) [some 0,none] (we 1) yM (zd yy (za (zc 0) (za (zc 1) zp))) [some d,some e] s=.ok (.lst (cs.map f)) s:=by
 rw [z0G,z1R];simp only [z93,yj,zt,zN,yc,List.getElem?_cons_zero,List.getElem?_cons_succ,R.bind_ok,hc];rw [uG rD f cs [] (by
  intro c hc;simp only [z0i,R.bind_ok,z9Z,if_true,z7K,z7S,z4p,List.getElem?_cons_zero,Option.getD_some,List.set_cons_succ,List.set_cons_zero,yj,zt,zN,yc,List.getElem?_cons_succ,h c hc]) (by simp [cap];omega)];rw [R.bind_ok,List.nil_append]
theorem zi0 {d e f:D} {x:List D} {n:Int} (s:Sto) (h1:yA [d] s=.ok .non s) (h2:yA [e] s=.ok .non s) (h3:wL [d] s=.ok (.int n) s) (h4:wL [e] s=.ok (.int n) s) (h5:zK (yB (zd zJ (za (zc 1) zp))) [some 0,none] (we 1) yM (zd yy (za (zc 0) (za (zc 1) zp))) [some d,some e] s=.ok (.lst x) s) (h6:zJ [.tup x] s=.ok f s):xg [d,e] s=.ok f s:=by
 have st:zx ["one","other"] [d,e]=[some d,some e]:=rfl;simp only [xg,Mof,jT,st,List.length_cons,List.length_nil,if_true];rw [zu (Z':=[some d,some e]) (s':=s) (by simp [h1]),zu (Z':=[some d,some e]) (s':=s) (by simp [h2]),zu (Z':=[some d,some e]) (s':=s) (by simp [h3,h4])];have g:yG [.lst x] s=.ok (.tup x) s:=by simp [yG,zL]
 simp only [ji,xc,yj,zt,h5,R.bind_ok,zN];rw [g,R.bind_ok,R.bind_ok,h6,R.bind_ok]
theorem z4r{n:Nat}{A B:Tb}{m k:Nat}(s:Sto)(hn:Sz n)(ha:Tab n A)(hb:Tab n B)(hA:Bd m A)(hB:Bd k B)(hm:m<=2000)(hk:k<=2000):xg [tD A,tD B] s=.ok (tD (z0d A B)) s:=by
 have w1:=z03 s hn ha;have w2:=z03 s hn hb;have n4:n<=4:=by omega
 have c1:=qa (T:=B) s (fun r hr=>by rw [hb.row r hr,hb.len];omega) (by rw [hb.len];omega);have lc:(zU B).length=n:=by simp [zU,hb.len]
 have c2:=qa (T:=(zU B).map (mv A)) s (fun r hr=>by
  obtain ⟨c,_,rfl⟩:=List.mem_map.mp hr;simp [mv,ha.len,lc]) (by simp [lc];omega);have g1:wL [tD A] s=.ok (.int n) s:=by simp [wL,zL,ha.len]
 have g2:wL [tD B] s=.ok (.int n) s:=by simp [wL,zL,hb.len]
 refine zi0 s w1 w2 g1 g2 (ziq (c:=.non) s (fun r=>rD (mv A r)) c1 (fun r hr=>z43 s hA (zcR hB r hr) hm hk (ha.le hn) (by rw [ha.len];omega)) (by omega)) ?_;have e:(zU B).map (fun r=>rD (mv A r))=((zU B).map (mv A)).map rD:=by rw [List.map_map];rfl
 rw [e];exact c2
theorem z5S(xs:List D)(i:Nat)(s:Sto):dSl (.tup xs) none (some (i:Int)) s=.ok (.tup (xs.take i)) s:=by
 have e:Dd.cutD xs none (some (i:Int))=xs.take i:=by
  unfold Dd.cutD;rw [HT.z6T,HT.z9v];simp [List.take_eq_take_min]
 simp only [dSl,e]
theorem z3Y(xs:List D)(i:Nat)(s:Sto):dSl (.tup xs) (some (i:Int)) none s=.ok (.tup (xs.drop i)) s:=by
 have e:Dd.cutD xs (some (i:Int)) none=xs.drop i:=by
  unfold Dd.cutD;rw [HT.z6T,HT.z9v];by_cases h:i<=xs.length
  ·rw [Nat.min_eq_left h];exact List.take_of_length_le (by simp)
  ·rw [Nat.min_eq_right (by omega)];simp [List.drop_of_length_le (show xs.length<=i by omega)]
 simp only [dSl,e]
theorem z6U {r:List Int} {j:Nat} (s:Sto) (h:j<r.length):dIx (rD r) (.int (j:Int)) s=.ok (.int (r.getD j 0)) s:=zch (xs:=iL r) (j:=j) (d:=.int (r.getD j 0)) s (by simp [List.getElem?_map,List.getElem?_eq_getElem h,List.getD])
end Pg
namespace Pm
open L2 (maxL minL maxL_ge maxL_mem minL_le minL_mem)
inductive Rl where | nx | le | al | tu deriving DecidableEq
structure Lot(n:Nat)(v:List Int):Prop where
 sz:Sz n
 len:v.length=n
 nn:∀ x∈v,0<=x
 pos:∃ x∈v,0<x
def nz(v:List Int):List Int:=v.filter fun x=>decide (x≠0)
def ended(v:List Int):Bool:=decide ((nz v).length=1)
def gp(v:List Int):Nat:=v.idxOf (maxL v)
def others(v:List Int):List Int:=v.take (gp v)++[0]++v.drop (gp v+1)
def lp(v:List Int):Nat:=v.idxOf (minL (nz v))
def vd(v:List Int)(p:Nat):List Nat:=(List.range v.length).filter fun i=>decide (i≠p)
def deal:Rl->List Int->Nat×List Nat
 | .nx,v=>((others v).idxOf (maxL (others v)),[gp v]) | .le,v=>(lp (others v),[gp v]) | .al,v=>(lp v,vd v (lp v)) | .tu,v=>(0,if v.getD 0 0=0 then [] else vd v 0)
def yq(v:List Int)(d:Nat×List Nat):List Int:=(List.range v.length).map fun i=>if i∈d.2 then v.getD i 0 / v.getD d.1 0 else 0
def rot{α:Type}(xs:List α):List α:=xs.drop 1++xs.take 1
def mvd{α:Type}(r:Rl)(xs:List α):List α:=if r=.tu then rot xs else xs
def left(v qs:List Int)(b:Nat):List Int:=List.zipWith (fun x q=>x-q*v.getD b 0) v qs
def stp(r:Rl)(v:List Int):List Int:=mvd r (left v (yq v (deal r v)) (deal r v).1)
def xr(b:Nat)(line:List Int)(q:Int):List Int:=line.take b++[line.getD b 0+q]++line.drop (b+1)
def z5B(r:Rl)(b:Nat)(qs:List Int):Tb:=List.zipWith (fun line q=>mvd r (xr b line q)) (one qs.length) qs
def z0f(r:Rl)(v:List Int):Tb:=z5B r (deal r v).1 (yq v (deal r v))
@[simp] theorem zdp:dot [] []=0:=rfl
@[simp] theorem dot_cons (a b:Int) (r v:List Int):dot (a::r) (b::v)=a*b+dot r v:=rfl
theorem wX:∀ {r c r' c':List Int},r.length=c.length->dot (r++r') (c++c')=dot r c+dot r' c'
 | [],[],_,_,_=>by simp | a::r,b::c,r',c',h=>by
  have:=wX (r:=r) (c:=c) (r':=r') (c':=c') (by simpa using h);simp only [List.cons_append,dot_cons,this];omega | [],_::_,_,_,h=>by simp at h | _::_,[],_,_,h=>by simp at h
def za3(z:Int)(c q:List Int):List Int:=List.zipWith (fun x q=>x-q*z) c q
theorem z5P (z:Int):∀ {r c q:List Int},r.length=c.length->c.length=q.length->dot r (za3 z c q)=dot r c-dot r q*z
 | [],[],[],_,_=>by simp [za3] | a::r,b::c,p::q,h1,h2=>by
  have:=z5P z (r:=r) (c:=c) (q:=q) (by simpa using h1) (by simpa using h2);simp only [za3] at this;simp only [za3,List.zipWith_cons_cons,dot_cons,this];grind | [],_::_,_,h,_=>by simp at h | _::_,[],_,h,_=>by simp at h | _,[],_::_,_,h=>by simp at h | _,_::_,[],_,h=>by simp at h
theorem z75:∀ {r c:List Int},(∀ x∈r,0<=x)->(∀ x∈c,0<=x)->0<=dot r c
 | [],[],_,_=>by simp | [],_::_,_,_=>by simp [dot] | _::_,[],_,_=>by simp [dot] | a::r,b::c,h1,h2=>by
  have i:=z75 (r:=r) (c:=c) (fun x hx=>h1 x (by simp [hx])) fun x hx=>h2 x (by simp [hx]);have j:=Int.mul_nonneg (h1 a (by simp)) (h2 b (by simp));simp only [dot_cons];omega
theorem zdR{r c:List Int}(h:r.length=c.length):dot (rot r) (rot c)=dot r c:=by match r,c,h with
 | [],[],_=>rfl | a::r,b::c,h=>
  show dot (r++[a]) (c++[b])=_;rw [wX (by simpa using h)];simp only [dot_cons,zdp];omega | [],_::_,h=>simp at h | _::_,[],h=>simp at h
theorem zeA{r c:List Int}(l:Rl)(h:r.length=c.length):dot (mvd l r) (mvd l c)=dot r c:=by
 unfold mvd;split;·exact zdR h
 ·rfl
theorem z9Q{α:Type}{x:α}{xs:List α}:x∈rot xs ↔ x∈xs:=by cases xs with
 | nil=>simp [rot] | cons a xs=>simp [rot,or_comm]
theorem kD{α:Type}{x:α}{xs:List α}{l:Rl}:x∈mvd l xs ↔ x∈xs:=by
 unfold mvd;split;·exact z9Q
 ·rfl
theorem zcY{α:Type}(xs:List α):(rot xs).length=xs.length:=by cases xs<;>simp [rot]
theorem z44{α:Type}{l:Rl}(xs:List α):(mvd l xs).length=xs.length:=by
 unfold mvd;split;·exact zcY xs
 ·rfl
structure Qs(v:List Int)(b:Nat)(qs:List Int):Prop where
 lt:b<v.length
 len:qs.length=v.length
 zero:qs[b]? = some 0
 nn:∀ q∈qs,0<=q
 fit:∀ i,0<=v.getD i 0-qs.getD i 0*v.getD b 0
 pos:(∀ q∈qs,q=0)\/0<v.getD b 0
theorem z0E{α:Type}{v:List α}{b:Nat}(h:b<v.length):∃ v1 z v2,v=v1++z::v2/\v1.length=b:= ⟨v.take b,v[b],v.drop (b+1),by rw [<- List.drop_eq_getElem_cons h,List.take_append_drop],by simp;omega⟩
def z3w(b:Nat)(qs r:List Int):List Int:=r.set b (r.getD b 0+dot r qs)
theorem getD_at{α:Type}{v1 v2:List α}{z d:α}{b:Nat}(h:v1.length=b):(v1++z::v2).getD b d=z:=by
 subst h;simp [List.getD]
theorem Qs.split {v qs r:List Int} {b:Nat} (h:Qs v b qs) (hr:r.length=v.length):∃ v1 z v2 q1 q2 r1 y r2,v=v1++z::v2/\qs=q1++0::q2/\r=r1++y::r2/\v1.length=b/\q1.length=b/\r1.length=b/\q2.length=v2.length/\r2.length=v2.length:=by
 obtain ⟨v1,z,v2,rfl,e1⟩:=z0E h.lt;obtain ⟨q1,p,q2,rfl,e2⟩:=z0E (v:=qs) (b:=b) (by rw [h.len];exact h.lt);obtain ⟨r1,y,r2,rfl,e3⟩:=z0E (v:=r) (b:=b) (by rw [hr];exact h.lt);have hz:=h.zero;rw [<- e2] at hz;simp at hz;subst hz;have l1:=h.len;simp at l1 hr;exact ⟨v1,z,v2,q1,q2,r1,y,r2,rfl,rfl,rfl,e1,e2,e3,by omega,by omega⟩
theorem z2R {v1 v2 q1 q2:List Int} {z:Int} {b:Nat} (h1:v1.length=b) (h2:q1.length=b):left (v1++z::v2) (q1++0::q2) b=za3 z v1 q1++z::za3 z v2 q2:=by
 unfold left za3;rw [getD_at h1,List.zipWith_append (by omega)];simp
theorem zcU{v qs r:List Int}{b:Nat}(h:Qs v b qs)(hr:r.length=v.length):dot (z3w b qs r) (left v qs b)=dot r v:=by
 obtain ⟨v1,z,v2,q1,q2,r1,y,r2,rfl,rfl,rfl,e1,e2,e3,e4,e5⟩:=h.split hr;rw [z2R e1 e2];unfold z3w;rw [getD_at e3,<- e3,List.set_append_right _ _ (by omega)];simp only [Nat.sub_self,List.set_cons_zero];rw [wX (by simp [za3];omega),wX (by omega),wX (by omega)];simp only [dot_cons];rw [z5P z (by omega) (by omega),z5P z (by omega) (by omega)];grind
theorem ww{v qs:List Int}{b:Nat}(h:qs.length=v.length):(left v qs b).length=v.length:=by simp [left,h]
theorem z9h{v qs:List Int}{b:Nat}(h:Qs v b qs):∀ x∈left v qs b,0<=x:=fun x hx=>by
 obtain ⟨i,hi,e⟩:=List.mem_iff_getElem.mp hx;have:=h.fit i;have hl:=ww (b:=b) h.len;have h1:i<v.length:=by omega
 have h2:i<qs.length:=by rw [h.len];exact h1
 simp only [List.getD,List.getElem?_eq_getElem h1,List.getElem?_eq_getElem h2,Option.getD_some] at this;rw [<- e];simpa [left,List.getD] using this
structure zhp(B:Int)(r c:List Int)(x:Int):Prop where
 len:r.length=c.length
 nn:∀ y∈r,0<=y/\y<=B
 dot:dot r c=x
theorem zbu {B x:Int} {v qs r:List Int} {b:Nat} (l:Rl) (h:Qs v b qs) (hx:x<=B) (I:zhp B r v x):zhp B (mvd l (z3w b qs r)) (mvd l (left v qs b)) x:=by
 have hd:=zcU h I.len;have rl:(z3w b qs r).length=r.length:=by simp [z3w]
 have ll:=ww (b:=b) h.len;refine ⟨by rw [z44,z44,rl,ll,I.len],fun y hy=>?_,by rw [zeA l (by rw [rl,ll,I.len]),hd,I.dot]⟩;rw [kD] at hy;have ln:=z9h h;obtain ⟨v1,z,v2,q1,q2,r1,u,r2,rfl,rfl,rfl,e1,e2,e3,e4,e5⟩:=h.split I.len;rw [z2R e1 e2] at hd ln;have ev:(r1++u::r2).set b ((r1++u::r2).getD b 0+Pm.dot (r1++u::r2) (q1++0::q2))=r1++(u+Pm.dot (r1++u::r2) (q1++0::q2))::r2:=by
  rw [getD_at e3,<- e3,List.set_append_right _ _ (by omega)];simp only [Nat.sub_self,List.set_cons_zero]
 unfold z3w at hy hd;rw [ev] at hy hd;have dq:0<=Pm.dot (r1++u::r2) (q1++0::q2):=z75 (fun x hx=>(I.nn x hx).1) h.nn;have hu:=I.nn u (by simp);rcases List.mem_append.mp hy with hy | hy;·exact I.nn y (by simp [hy])
 ·rcases List.mem_cons.mp hy with rfl | hy
  ·refine ⟨by omega,?_⟩;rcases h.pos with h0 | h0
   ·have dz:Pm.dot (r1++u::r2) (q1++0::q2)=0:=by
     have:∀ (r q:List Int),(∀ x∈q,x=0)->Pm.dot r q=0:=by
      intro r;induction r with
      | nil=>intro q _;cases q<;>simp [Pm.dot] | cons a r ih=>
       intro q hq;cases q with
       | nil=>simp [Pm.dot] | cons p q=>rw [dot_cons,ih q (fun x hx=>hq x (by simp [hx])),hq p (by simp)];simp
     exact this _ _ h0
    omega
   ·rw [getD_at e1] at h0;rw [wX (by simp [za3];omega),dot_cons] at hd;have n1:0<=Pm.dot r1 (za3 z v1 q1):=z75 (fun x hx=>(I.nn x (by simp [hx])).1) fun x hx=>ln x (by simp [hx]);have n2:0<=Pm.dot r2 (za3 z v2 q2):=z75 (fun x hx=>(I.nn x (by simp [hx])).1) fun x hx=>ln x (by simp [hx]);have dt:=I.dot;generalize Pm.dot (r1++u::r2) (q1++0::q2)=dd at *;have m1:(u+dd)*1<=(u+dd)*z:=Int.mul_le_mul_of_nonneg_left (by omega) (by omega);omega
  ·exact I.nn y (by simp [hy])
theorem z2t{α:Type}(xs:List α):mvd .tu xs=rot xs:=by simp [mvd]
theorem z1r{α:Type}{r:Rl}(h:r≠.tu)(xs:List α):mvd r xs=xs:=by simp [mvd,h]
theorem zgN{n b:Nat}{qs:List Int}(P:Tb->Prop)(r:Rl)(hn:Sz n)(hq:qs.length=n)(hb:b<n)(hz:qs[b]? = some 0) (p20:∀ q,P [[1,0],[q,1]])(p21:∀ q,P [[1,q],[0,1]]) (p30:∀ p q,P [[1,0,0],[p,1,0],[q,0,1]])(p31:∀ p q,P [[1,p,0],[0,1,0],[0,q,1]])(p32:∀ p q,P [[1,0,p],[0,1,q],[0,0,1]]) (p40:∀ p q s,P [[1,0,0,0],[p,1,0,0],[q,0,1,0],[s,0,0,1]])(p41:∀ p q s,P [[1,p,0,0],[0,1,0,0],[0,q,1,0],[0,s,0,1]]) (p42:∀ p q s,P [[1,0,p,0],[0,1,q,0],[0,0,1,0],[0,0,s,1]])(p43:∀ p q s,P [[1,0,0,p],[0,1,0,q],[0,0,1,s],[0,0,0,1]]) (t:∀ T,Tab n T->P T->P (T.map rot)):P (z5B r b qs):=by
 have main:P (List.zipWith (fun line q=>xr b line q) (one qs.length) qs):=by
  rcases hn with rfl | rfl | rfl
  ·obtain ⟨x,y,rfl⟩:=z5I hq;match b,hb with
   | 0,_=>simp at hz;subst hz;simpa [one,xr,List.range,List.range.loop] using p20 y | 1,_=>simp at hz;subst hz;simpa [one,xr,List.range,List.range.loop] using p21 x
  ·obtain ⟨x,y,z,rfl⟩:=z4s hq;match b,hb with
   | 0,_=>simp at hz;subst hz;simpa [one,xr,List.range,List.range.loop] using p30 y z | 1,_=>simp at hz;subst hz;simpa [one,xr,List.range,List.range.loop] using p31 x z | 2,_=>simp at hz;subst hz;simpa [one,xr,List.range,List.range.loop] using p32 x y
  ·obtain ⟨x,y,z,w,rfl⟩:=z3v hq;match b,hb with
   | 0,_=>simp at hz;subst hz;simpa [one,xr,List.range,List.range.loop] using p40 y z w | 1,_=>simp at hz;subst hz;simpa [one,xr,List.range,List.range.loop] using p41 x z w | 2,_=>simp at hz;subst hz;simpa [one,xr,List.range,List.range.loop] using p42 x y w | 3,_=>simp at hz;subst hz;simpa [one,xr,List.range,List.range.loop] using p43 x y z
 have tb:Tab n (List.zipWith (fun line q=>xr b line q) (one qs.length) qs):=by
  refine ⟨by simp [one,hq],fun l hl=>?_⟩;obtain ⟨i,hi,rfl⟩:=List.mem_iff_getElem.mp hl;simp at hi;simp [xr,one];omega
 by_cases hr:r=.tu
 ·subst hr;have:z5B .tu b qs=(List.zipWith (fun line q=>xr b line q) (one qs.length) qs).map rot:=by
   unfold z5B;rw [List.map_zipWith];simp only [z2t]
  rw [this];exact t _ tb main
 ·have:z5B r b qs=List.zipWith (fun line q=>xr b line q) (one qs.length) qs:=by
   unfold z5B;simp only [z1r hr]
  rw [this];exact main
theorem zbT{n b:Nat}{qs:List Int}(r:Rl)(hn:Sz n)(hq:qs.length=n)(hb:b<n):Tab n (z5B r b qs):=by
 refine ⟨by simp [z5B,one,hq],fun l hl=>?_⟩;obtain ⟨i,hi,rfl⟩:=List.mem_iff_getElem.mp hl;simp [z5B] at hi;simp [z5B,z44,xr,one];omega
def z5z(T:Tb)(r:List Int):List Int:=(zU T).map (dot r)
theorem z4d{n:Nat}{A T:Tb}(hn:Sz n)(ha:Tab n A)(ht:Tab n T):z0d A T=A.map (z5z T):=by
 rcases hn with rfl | rfl | rfl
 ·obtain ⟨a,b,c,d,rfl⟩:=zcF ha;obtain ⟨e,f,g,h,rfl⟩:=zcF ht;rfl
 ·obtain ⟨a1,a2,a3,a4,a5,a6,a7,a8,a9,rfl⟩:=zdI ha;obtain ⟨b1,b2,b3,b4,b5,b6,b7,b8,b9,rfl⟩:=zdI ht;rfl
 ·obtain ⟨a1,a2,a3,a4,a5,a6,a7,a8,a9,a10,a11,a12,a13,a14,a15,a16,rfl⟩:=zde ha;obtain ⟨b1,b2,b3,b4,b5,b6,b7,b8,b9,b10,b11,b12,b13,b14,b15,b16,rfl⟩:=zde ht;rfl
theorem zbl{n:Nat}{T:Tb}{r:List Int}(hn:Sz n)(h:Tab n T):z5z (T.map rot) r=rot (z5z T r):=by
 rcases hn with rfl | rfl | rfl
 ·obtain ⟨a,b,c,d,rfl⟩:=zcF h;rfl
 ·obtain ⟨a,b,c,d,e,f,g,i,j,rfl⟩:=zdI h;rfl
 ·obtain ⟨a,b,c,d,e,f,g,i,j,k,l,m,n,o,p,q,rfl⟩:=zde h;rfl
theorem zar{n b:Nat}{qs row:List Int}(r:Rl)(hn:Sz n)(hq:qs.length=n)(hb:b<n)(hz:qs[b]? = some 0)(hr:row.length=n):z5z (z5B r b qs) row=mvd r (z3w b qs row):=by
 have main:z5z (List.zipWith (fun line q=>xr b line q) (one qs.length) qs) row=z3w b qs row:=by
  rcases hn with rfl | rfl | rfl
  ·obtain ⟨x,y,rfl⟩:=z5I hq;obtain ⟨x',y',rfl⟩:=z5I hr;match b,hb with
   | 0,_=>simp at hz;subst hz;simp [one,xr,List.range,List.range.loop,z5z,zU,z3w,dot] | 1,_=>simp at hz;subst hz;simp [one,xr,List.range,List.range.loop,z5z,zU,z3w,dot];try omega
  ·obtain ⟨x,y,z,rfl⟩:=z4s hq;obtain ⟨x',y',z',rfl⟩:=z4s hr;match b,hb with
   | 0,_=>simp at hz;subst hz;simp [one,xr,List.range,List.range.loop,z5z,zU,z3w,dot]<;>try omega | 1,_=>simp at hz;subst hz;simp [one,xr,List.range,List.range.loop,z5z,zU,z3w,dot]<;>try omega | 2,_=>simp at hz;subst hz;simp [one,xr,List.range,List.range.loop,z5z,zU,z3w,dot]<;>try omega
  ·obtain ⟨x,y,z,w,rfl⟩:=z3v hq;obtain ⟨x',y',z',w',rfl⟩:=z3v hr;match b,hb with
   | 0,_=>simp at hz;subst hz;simp [one,xr,List.range,List.range.loop,z5z,zU,z3w,dot]<;>try omega | 1,_=>simp at hz;subst hz;simp [one,xr,List.range,List.range.loop,z5z,zU,z3w,dot]<;>try omega | 2,_=>simp at hz;subst hz;simp [one,xr,List.range,List.range.loop,z5z,zU,z3w,dot]<;>try omega | 3,_=>simp at hz;subst hz;simp [one,xr,List.range,List.range.loop,z5z,zU,z3w,dot]<;>try omega
 have tb:Tab n (List.zipWith (fun line q=>xr b line q) (one qs.length) qs):=by
  refine ⟨by simp [one,hq],fun l hl=>?_⟩;obtain ⟨i,hi,rfl⟩:=List.mem_iff_getElem.mp hl;simp at hi;simp [xr,one];omega
 by_cases h:r=.tu
 ·subst h;have e:z5B .tu b qs=(List.zipWith (fun line q=>xr b line q) (one qs.length) qs).map rot:=by
   unfold z5B;rw [List.map_zipWith];simp only [z2t]
  rw [e,zbl hn tb,main,z2t]
 ·have e:z5B r b qs=List.zipWith (fun line q=>xr b line q) (one qs.length) qs:=by
   unfold z5B;simp only [z1r h]
  rw [e,main,z1r h]
theorem uK{v:List Int}{x:Int}:x∈nz v ↔ x∈v/\x≠0:=by simp [nz]
theorem getD_mem{v:List Int}{i:Nat}(h:i<v.length):v.getD i 0∈v:=by simp [List.getD,List.getElem?_eq_getElem h]
theorem wI{v:List Int}(h:∀ x∈v,0<=x)(i:Nat):0<=v.getD i 0:=by
 by_cases hi:i<v.length;·exact h _ (getD_mem hi)
 ·simp [List.getD,List.getElem?_eq_none (Nat.not_lt.mp hi)]
theorem z9t{v:List Int}{x:Int}(h:x∈v):v.idxOf x<v.length/\v.getD (v.idxOf x) 0=x:=by
 have hl:=List.idxOf_lt_length_of_mem h;exact ⟨hl,by simp [List.getD,List.getElem?_eq_getElem hl,List.getElem_idxOf hl]⟩
theorem Lot.ne{n:Nat}{v:List Int}(h:Lot n v):v≠[]:=fun z=>by
 obtain ⟨x,hx,_⟩:=h.pos;rw [z] at hx;simp at hx
theorem Lot.nzne{n:Nat}{v:List Int}(h:Lot n v):nz v≠[]:=fun z=>by
 obtain ⟨x,hx,h0⟩:=h.pos;have:x∈nz v:=uK.mpr ⟨hx,by omega⟩;rw [z] at this;simp at this
theorem z9l{v:List Int}(h:nz v≠[]):lp v<v.length/\v.getD (lp v) 0=minL (nz v)/\minL (nz v)≠0:=by
 have m:=uK.mp (minL_mem h);have:=z9t m.1;exact ⟨this.1,this.2,m.2⟩
theorem z80{v:List Int}(h:v≠[]):gp v<v.length/\v.getD (gp v) 0=maxL v:=z9t (maxL_mem h)
theorem others_eq{v:List Int}(h:v≠[]):others v=v.set (gp v) 0:=by
 have:=(z80 h).1;unfold others;rw [List.set_eq_take_append_cons_drop,if_pos this];simp
theorem jz{v:List Int}(h:v≠[])(i:Nat):(others v).getD i 0=if i=gp v then 0 else v.getD i 0:=by
 have hg:=(z80 h).1;rw [others_eq h];by_cases e:i=gp v
 ·subst e;simp [List.getD,hg]
 ·simp [List.getD,e,List.getElem?_set_ne (Ne.symm e)]
theorem wY{v:List Int}(h:v≠[]):(others v).length=v.length:=by rw [others_eq h];simp
theorem z9T:∀ {v:List Int}{p:Nat},(nz v).length≠1->v.getD p 0≠0->∃ j,j≠p/\j<v.length/\v.getD j 0≠0:=by
 intro v p he hp;have hpl:p<v.length:=by
  apply Classical.byContradiction;intro z;exact hp (by simp [List.getD,List.getElem?_eq_none (Nat.not_lt.mp z)])
 apply Classical.byContradiction;intro hn;apply he;obtain ⟨v1,z,v2,rfl,e1⟩:=z0E hpl;rw [getD_at e1] at hp;have f1:∀ x∈v1,x=0:=fun x hx=>by
  obtain ⟨j,hj,rfl⟩:=List.mem_iff_getElem.mp hx;apply Classical.byContradiction;intro z0;exact hn ⟨j,by omega,by simp;omega,by simpa [List.getD,List.getElem?_append_left hj,List.getElem?_eq_getElem hj] using z0⟩
 have f2:∀ x∈v2,x=0:=fun x hx=>by
  obtain ⟨j,hj,rfl⟩:=List.mem_iff_getElem.mp hx;apply Classical.byContradiction;intro z0;refine hn ⟨v1.length+1+j,by omega,by simp;omega,?_⟩;have:(v1++z::v2)[v1.length+1+j]? = some v2[j]:=by rw [List.getElem?_append_right (by omega),show v1.length+1+j-v1.length=j+1 by omega,List.getElem?_cons_succ,List.getElem?_eq_getElem hj]
  rw [List.getD,this];simpa using z0
 have g1:v1.filter (fun x=>decide (x≠0))=[]:=List.filter_eq_nil_iff.mpr fun x hx=>by simp [f1 x hx]
 have g2:v2.filter (fun x=>decide (x≠0))=[]:=List.filter_eq_nil_iff.mpr fun x hx=>by simp [f2 x hx]
 simp only [nz,List.filter_append,List.filter_cons,g1,g2];simp [hp]
theorem z37{v:List Int}(he:ended v=false):(nz v).length≠1:=by simpa [ended] using he
structure Dl(v:List Int)(b:Nat)(dv:List Nat):Prop where
 lt:b<v.length
 nb:b∉dv
 pos:dv=[]\/0<v.getD b 0
theorem vY{v:List Int}{p i:Nat}:i∈vd v p ↔ i<v.length/\i≠p:=by simp [vd]
theorem z5E{n:Nat}{v:List Int}(h:Lot n v){b:Nat}(hb:b<v.length)(h0:(others v).getD b 0≠0):Dl v b [gp v]/\0<v.getD b 0/\v.getD b 0<=v.getD (gp v) 0:=by
 have hg:=z80 h.ne;rw [jz h.ne] at h0;have ne:b≠gp v:=fun e=>by rw [if_pos e] at h0;exact h0 rfl
 rw [if_neg ne] at h0;have p0:0<v.getD b 0:=by have:=wI h.nn b;omega
 refine ⟨⟨hb,by simpa using ne,.inr p0⟩,p0,?_⟩;rw [hg.2];exact maxL_ge _ (getD_mem hb)
theorem z0Z {n:Nat} {v:List Int} (h:Lot n v) (he:ended v=false):nz (others v)≠[]:=by
 have hg:=z80 h.ne;have mx:0<maxL v:=by
  obtain ⟨x,hx,h0⟩:=h.pos;have:=maxL_ge (xs:=v) x hx;omega
 obtain ⟨j,h1,h2,h3⟩:=z9T (p:=gp v) (z37 he) (by rw [hg.2];omega);intro z;have:v.getD j 0∈nz (others v):=uK.mpr ⟨by
  have:=getD_mem (v:=others v) (i:=j) (by rw [wY h.ne];exact h2);rw [jz h.ne,if_neg h1] at this;exact this,h3⟩;rw [z] at this;simp at this
theorem vI{n:Nat}{v:List Int}(r:Rl)(h:Lot n v)(he:ended v=false):Dl v (deal r v).1 (deal r v).2:=by cases r with
 | nx=>
  have ne:others v≠[]:=fun z=>by
   have:=wY h.ne;rw [z] at this;exact h.ne (List.length_eq_zero_iff.mp this.symm)
  have a:=z9t (maxL_mem ne);have nn:=z0Z h he;refine (z5E h (by rw [<- wY h.ne];exact a.1) ?_).1;show (others v).getD ((others v).idxOf (maxL (others v))) 0≠0;rw [a.2];have m:=uK.mp (minL_mem nn);have m1:=maxL_ge _ m.1;have m2:0<=minL (nz (others v)):=by
   obtain ⟨i,hi,e⟩:=List.mem_iff_getElem.mp m.1;have:=jz h.ne i;have e2:(others v).getD i 0=minL (nz (others v)):=by simp [List.getD,List.getElem?_eq_getElem hi,e]
   rw [e2] at this;rw [this];split;·omega
   ·exact wI h.nn i
  omega | le=>
  have a:=z9l (z0Z h he);refine (z5E h (by rw [<- wY h.ne];exact a.1) ?_).1;show (others v).getD (lp (others v)) 0≠0;rw [a.2.1];exact a.2.2 | al=>
  have a:=z9l h.nzne;refine ⟨a.1,by simp [deal,vY],.inr ?_⟩;show 0<v.getD (lp v) 0;have:=wI h.nn (lp v);have b:=a.2.1;have c:=a.2.2;omega | tu=>
  have l0:0<v.length:=by have:=h.sz;rw [h.len];omega
  refine ⟨l0,?_,?_⟩
  ·show 0∉(if v.getD 0 0=0 then [] else vd v 0);split<;>simp [vY]
  ·show (if v.getD 0 0=0 then [] else vd v 0)=[]\/0<v.getD 0 0;split;·exact .inl rfl
   ·have:=wI h.nn 0;exact .inr (by omega)
theorem xV(v:List Int)(d:Nat×List Nat):(yq v d).length=v.length:=by simp [yq]
theorem z8a(v:List Int)(d:Nat×List Nat)(i:Nat):(yq v d).getD i 0=if i<v.length/\i∈d.2 then v.getD i 0 / v.getD d.1 0 else 0:=by
 unfold yq;by_cases hi:i<v.length;·simp [List.getD,hi]
 ·simp [List.getD,hi]
theorem vw{v:List Int}{d:Nat×List Nat}(i:Nat):v.getD i 0-(yq v d).getD i 0*v.getD d.1 0=if i<v.length/\i∈d.2 then v.getD i 0 % v.getD d.1 0 else v.getD i 0:=by
 rw [z8a];split
 ·have:=Int.mul_ediv_add_emod (v.getD i 0) (v.getD d.1 0);have e:=Int.mul_comm (v.getD i 0 / v.getD d.1 0) (v.getD d.1 0);omega
 ·omega
theorem z9P{v:List Int}{d:Nat×List Nat}(hv:∀ x∈v,0<=x)(h:Dl v d.1 d.2):Qs v d.1 (yq v d):=by
 refine ⟨h.lt,xV _ _,?_,fun q hq=>?_,fun i=>?_,?_⟩;·simp [yq,h.lt,h.nb]
 ·obtain ⟨i,hi,rfl⟩:=List.mem_iff_getElem.mp hq;simp only [yq,List.getElem_map,List.getElem_range];split;·exact Int.ediv_nonneg (wI hv _) (wI hv _)
  ·omega
 ·rw [vw];split
  ·rename_i hi;rcases h.pos with z | z;·rw [z] at hi;simp at hi
   ·exact Int.emod_nonneg _ (by omega)
  ·exact wI hv i
 ·rcases h.pos with z | z
  ·refine .inl fun q hq=>?_;obtain ⟨i,hi,rfl⟩:=List.mem_iff_getElem.mp hq;simp [yq,z]
  ·exact .inr z
def bl(n:Nat):Nat:=if n=0 then 0 else bl (n / 2)+1
termination_by n
decreasing_by omega
theorem z5G:bl 0=0:=by rw [bl];simp
theorem z6P{n:Nat}(h:n≠0):bl n=bl (n / 2)+1:=by rw [bl,if_neg h]
theorem z9k:∀ (b a:Nat),a<=b->bl a<=bl b:=by
 intro b;induction b using Nat.strongRecOn with | ind b ih=>
  intro a h;by_cases h0:a=0;·subst h0;rw [z5G];omega
  ·rw [z6P h0,z6P (show b≠0 by omega)];have:=ih (b / 2) (by omega) (a / 2) (by omega);omega
theorem zdP{a b:Nat}(h:2*a<b):bl a<bl b:=by
 rw [z6P (show b≠0 by omega)];have:=z9k (b / 2) a (by omega);omega
theorem zeN:∀ (k n:Nat),n<2 ^ k->bl n<=k
 | 0,n,h=>by simp at h;subst h;rw [z5G];omega | k+1,n,h=>by
  by_cases h0:n=0;·subst h0;rw [z5G];omega
  ·rw [z6P h0];have:=zeN k (n / 2) (by rw [Nat.pow_succ] at h;omega);omega
def wt(v:List Int):Nat:=(v.map fun x=>bl x.toNat).sum
theorem zeZ:∀ {u v:List Int},u.length=v.length->(∀ i,bl (u.getD i 0).toNat<=bl (v.getD i 0).toNat)->wt u<=wt v/\((∃ i,bl (u.getD i 0).toNat<bl (v.getD i 0).toNat)->wt u<wt v)
 | [],[],_,_=>⟨by simp,fun ⟨i,h⟩=>by simp at h⟩ | a::u,b::v,hl,h=>by
  have ih:=zeZ (u:=u) (v:=v) (by simpa using hl) fun i=>by simpa using h (i+1)
  have h0:bl a.toNat<=bl b.toNat:=by simpa using h 0
  simp only [wt,List.map_cons,List.sum_cons] at ih ⊢;refine ⟨by omega,fun ⟨i,hi⟩=>?_⟩;cases i with
  | zero=>
   have:bl a.toNat<bl b.toNat:=by simpa using hi
   omega | succ i=>
   have:=ih.2 ⟨i,by simpa using hi⟩;omega
 | [],_::_,h,_=>by simp at h | _::_,[],h,_=>by simp at h
theorem xT{v qs:List Int}{b:Nat}(h:qs.length=v.length)(i:Nat):(left v qs b).getD i 0=v.getD i 0-qs.getD i 0*v.getD b 0:=by
 unfold left;by_cases hi:i<v.length
 ·have h2:i<qs.length:=by omega
  simp [List.getD,List.getElem?_zipWith,List.getElem?_eq_getElem hi,List.getElem?_eq_getElem h2]
 ·have h2:¬ i<qs.length:=by omega
  simp [List.getD,List.getElem?_zipWith,List.getElem?_eq_none (Nat.not_lt.mp hi),List.getElem?_eq_none (Nat.not_lt.mp h2)]
theorem z3q{u v:List Int}(hl:u.length=v.length)(h:∀ i,u.getD i 0=v.getD i 0):u=v:=by
 refine List.ext_getElem hl fun i h1 h2=>?_;have:=h i;simpa [List.getD,List.getElem?_eq_getElem h1,List.getElem?_eq_getElem h2] using this
theorem zbI{a b:Int}(h0:0<b)(h:b<=a):2*(a % b)<a:=by
 have h1:=Int.mul_ediv_add_emod a b;have h2:=Int.emod_lt_of_pos a h0;have h3:=Int.emod_nonneg a (show b≠0 by omega);have h4:1<=a / b:=by
  have:=Int.ediv_le_ediv h0 h;rwa [Int.ediv_self (by omega)] at this
 have h5:b*1<=b*(a / b):=Int.mul_le_mul_of_nonneg_left h4 (by omega);omega
theorem z8M{a b:Int}(ha:0<=a)(h0:0<b):a % b<=a:=by
 have h1:=Int.mul_ediv_add_emod a b;have h2:0<=a / b:=Int.ediv_nonneg ha (by omega);have h3:0<=b*(a / b):=Int.mul_nonneg (by omega) h2;omega
theorem zei {v:List Int} {d:Nat×List Nat} (hv:∀ x∈v,0<=x) (h:Dl v d.1 d.2):wt (left v (yq v d) d.1)<=wt v/\((∃ i,i<v.length/\i∈d.2/\v.getD d.1 0<=v.getD i 0)->wt (left v (yq v d) d.1)<wt v):=by
 have hl:=xV v d;have key:∀ i,(left v (yq v d) d.1).getD i 0=if i<v.length/\i∈d.2 then v.getD i 0 % v.getD d.1 0 else v.getD i 0:=fun i=>by rw [xT hl,vw]
 have p:∀ i,i<v.length/\i∈d.2->0<v.getD d.1 0:=fun i hi=>by
  rcases h.pos with z | z;·rw [z] at hi;simp at hi
  ·exact z
 have w:=zeZ (u:=left v (yq v d) d.1) (v:=v) (ww hl) fun i=>by
  rw [key];split
  ·rename_i hi;have:=z8M (wI hv i) (p i hi);exact z9k _ _ (by omega)
  ·exact Nat.le_refl _
 refine ⟨w.1,fun ⟨i,h1,h2,h3⟩=>w.2 ⟨i,?_⟩⟩;rw [key,if_pos ⟨h1,h2⟩];have h0:=p i ⟨h1,h2⟩;have:=zbI h0 h3;have:=Int.emod_nonneg (v.getD i 0) (show v.getD d.1 0≠0 by omega);exact zdP (by omega)
theorem zcn(v:List Int):wt (rot v)=wt v:=by cases v with
 | nil=>rfl | cons a v=>simp [rot,wt];omega
theorem z7X{a b:List Int}(h:∀ x,x∈a ↔ x∈b)(ha:a≠[]):minL a=minL b:=by
 have hb:b≠[]:=fun z=>by
  have:=(h _).mp (minL_mem ha);rw [z] at this;simp at this
 have h1:=minL_le (xs:=b) _ ((h _).mp (minL_mem ha));have h2:=minL_le (xs:=a) _ ((h _).mpr (minL_mem hb));omega
theorem zfE{v:List Int}(h:nz v≠[])(h0:v.getD 0 0≠minL (nz v)):lp (rot v)<lp v:=by cases v with
 | nil=>simp [nz] at h | cons a t=>
  have e:minL (nz (rot (a::t)))=minL (nz (a::t)):=(z7X (fun x=>by rw [uK,uK,z9Q]) h).symm;have m:=(uK.mp (minL_mem h)).1;have ha:a≠minL (nz (a::t)):=by simpa using h0
  unfold lp;rw [e];generalize minL (nz (a::t))=m' at *;have mt:m'∈t:=(List.mem_cons.mp m).resolve_left fun z=>ha z.symm;show List.idxOf m' (t++[a])<_;rw [List.idxOf_append,if_pos mt,List.idxOf_cons];rw [show (a==m')=false from by simpa using ha];simp
def mu(r:Rl)(v:List Int):Nat:=5*wt v+(if r=.tu then lp v else 0)
theorem Lot.step{n:Nat}{v:List Int}(r:Rl)(h:Lot n v)(he:ended v=false):Lot n (stp r v):=by
 have dl:=vI r h he;have q:=z9P h.nn dl;refine ⟨h.sz,by rw [stp,z44,ww q.len,h.len],fun x hx=>z9h q x (kD.mp hx),?_⟩;have fin:∀ x∈left v (yq v (deal r v)) (deal r v).1,0<x->∃ x∈stp r v,0<x:=fun x hx h0=>⟨x,kD.mpr hx,h0⟩;rcases dl.pos with z | z
 ·obtain ⟨x,hx,h0⟩:=h.pos;refine fin x ?_ h0;have:left v (yq v (deal r v)) (deal r v).1=v:=z3q (ww q.len) fun i=>by rw [xT q.len,vw,z];simp
  rw [this];exact hx
 ·refine fin (v.getD (deal r v).1 0) ?_ z;have:(left v (yq v (deal r v)) (deal r v).1).getD (deal r v).1 0=v.getD (deal r v).1 0:=by rw [xT q.len,vw,if_neg (fun w=>dl.nb w.2)]
  rw [<- this];exact getD_mem (by rw [ww q.len];exact dl.lt)
theorem zeK{n:Nat}{v:List Int}(h:Lot n v):lp v<4:=by
 have:=(z9l h.nzne).1;have:=h.len;have:=h.sz;omega
theorem zhm{n:Nat}{v:List Int}(r:Rl)(h:Lot n v)(he:ended v=false):mu r (stp r v)<mu r v:=by
 have dl:=vI r h he;have w:=zei h.nn dl;have mn:∀ j,j<v.length->v.getD j 0≠0->minL (nz v)<=v.getD j 0:=fun j hj h0=>minL_le _ (uK.mpr ⟨getD_mem hj,h0⟩);have ge:∀ {b:Nat},b<v.length->(others v).getD b 0≠0->v.getD b 0<=v.getD (gp v) 0:=fun hb h0=>(z5E h hb h0).2.2;cases r with
 | nx=>
  have g:=z80 h.ne;have:wt (stp .nx v)<wt v:=by
   rw [stp,z1r (by decide)];refine w.2 ⟨gp v,g.1,by simp [deal],?_⟩;rw [g.2];exact maxL_ge _ (getD_mem dl.lt)
  simp only [mu];rw [if_neg (by decide),if_neg (by decide)];omega | le=>
  have g:=z80 h.ne;have:wt (stp .le v)<wt v:=by
   rw [stp,z1r (by decide)];refine w.2 ⟨gp v,g.1,by simp [deal],?_⟩;rw [g.2];exact maxL_ge _ (getD_mem dl.lt)
  simp only [mu];rw [if_neg (by decide),if_neg (by decide)];omega | al=>
  have l:=z9l h.nzne;obtain ⟨j,h1,h2,h3⟩:=z9T (p:=lp v) (z37 he) (by rw [l.2.1];exact l.2.2);have:wt (stp .al v)<wt v:=by
   rw [stp,z1r (by decide)];refine w.2 ⟨j,h2,by simp [deal,vY,h1,h2],?_⟩;show v.getD (lp v) 0<=_;rw [l.2.1];exact mn j h2 h3
  simp only [mu];rw [if_neg (by decide),if_neg (by decide)];omega | tu=>
  simp only [mu];rw [if_pos trivial,if_pos trivial];have st:Lot n (stp .tu v):=h.step .tu he;have l4:=zeK st;have same:left v (yq v (deal .tu v)) (deal .tu v).1=v->v.getD 0 0≠minL (nz v)->5*wt (stp .tu v)+lp (stp .tu v)<5*wt v+lp v:=fun e h0=>by
   have e2:stp .tu v=rot v:=by rw [stp,z2t,e]
   have:=zfE h.nzne h0;rw [e2,zcn];omega
  by_cases z:v.getD 0 0=0
  ·refine same (z3q (ww (xV _ _)) fun i=>?_) fun q=>?_
   ·rw [xT (xV _ _),vw];rw [show (deal .tu v).2=[] from by show (if v.getD 0 0=0 then [] else vd v 0)=[];rw [if_pos z]];simp
   ·exact (z9l h.nzne).2.2 (by rw [<- q,z])
  ·by_cases ex:∃ i,i<v.length/\i≠0/\v.getD 0 0<=v.getD i 0
   ·obtain ⟨i,h1,h2,h3⟩:=ex;have:wt (stp .tu v)<wt v:=by
     rw [stp,z2t,zcn];refine w.2 ⟨i,h1,?_,h3⟩;show i∈(if v.getD 0 0=0 then [] else vd v 0);rw [if_neg z];exact vY.mpr ⟨h1,h2⟩
    omega
   ·have nn0:=wI h.nn 0;refine same (z3q (ww (xV _ _)) fun i=>?_) fun q=>?_
    ·rw [xT (xV _ _),vw];split
     ·rename_i hi;have i0:i≠0:=by
       have:=hi.2;simp only [deal,if_neg z,vY] at this;exact this.2
      have:¬ v.getD 0 0<=v.getD i 0:=fun w=>ex ⟨i,hi.1,i0,w⟩;show v.getD i 0 % v.getD 0 0=_;exact Int.emod_eq_of_lt (wI h.nn i) (by omega)
     ·rfl
    ·obtain ⟨j,h1,h2,h3⟩:=z9T (p:=0) (z37 he) z;have:=mn j h2 h3;exact ex ⟨j,h2,h1,by omega⟩
inductive Run(r:Rl):List Int->List (List Int)->Prop | done {v:List Int}:ended v=true->Run r v [v] | step {v:List Int}{ls:List (List Int)}:ended v=false->Run r (stp r v) ls->Run r v (v::ls)
theorem zcs{n:Nat}{r:Rl}:∀ (k:Nat)(v:List Int),Lot n v->mu r v<=k->∃ ls,Run r v ls/\ls.length<=k+1
 | k,v,h,hk=>by cases he:ended v with
  | true=>exact ⟨[v],.done he,by simp⟩ | false=>
   have lt:=zhm r h he;match k,hk with
   | 0,hk=>omega | k+1,hk=>
    obtain ⟨ls,h1,h2⟩:=zcs (r:=r) k (stp r v) (h.step r he) (by omega);exact ⟨v::ls,.step he h1,by simp;omega⟩
theorem zg2{m:Nat}:∀ {v:List Int},(∀ x∈v,x.toNat<2 ^ m)->wt v<=v.length*m
 | [],_=>by simp [wt] | a::v,h=>by
  have ih:=zg2 (v:=v) fun x hx=>h x (by simp [hx]);have:=zeN m a.toNat (h a (by simp));simp only [wt,List.map_cons,List.sum_cons,List.length_cons,Nat.succ_mul] at ih ⊢;omega
theorem zh3{n m:Nat}{v:List Int}{r:Rl}(h:Lot n v)(hb:∀ x∈v,x.toNat<2 ^ m):mu r v<=20*m+3:=by
 have w:=zg2 hb;have l:=zeK h;have:v.length*m<=4*m:=Nat.mul_le_mul_right m (by have:=h.len;have:=h.sz;omega);unfold mu;split<;>omega
def cg(a b:Int):Int:=(Int.gcd a b:Int)
def uZ(v:List Int):Int:=v.foldl cg 0
theorem z0z:∀ (v:List Int)(a:Int),0<=a->0<=v.foldl cg a/\(v.foldl cg a ∣ a/\∀ x∈v,v.foldl cg a ∣ x)/\∀ d,d ∣ a->(∀ x∈v,d ∣ x)->d ∣ v.foldl cg a
 | [],a,h=>⟨h,⟨Int.dvd_refl _,by simp⟩,fun d hd _=>hd⟩ | x::v,a,h=>by
  have ih:=z0z v (cg a x) (by simp [cg]);have g1:cg a x ∣ a:=Int.gcd_dvd_left ..;have g2:cg a x ∣ x:=Int.gcd_dvd_right ..;refine ⟨ih.1,⟨Int.dvd_trans ih.2.1.1 g1,fun y hy=>?_⟩,fun d hd hx=>?_⟩
  ·rcases List.mem_cons.mp hy with rfl | hy;·exact Int.dvd_trans ih.2.1.1 g2
   ·exact ih.2.1.2 y hy
  ·exact ih.2.2 d (Int.dvd_coe_gcd hd (hx x (by simp))) fun y hy=>hx y (by simp [hy])
theorem z67(v:List Int):0<=uZ v:=(z0z v 0 (by omega)).1
theorem qL{v:List Int}:∀ x∈v,uZ v ∣ x:=(z0z v 0 (by omega)).2.1.2
theorem z3r{v:List Int}{d:Int}(h:∀ x∈v,d ∣ x):d ∣ uZ v:=(z0z v 0 (by omega)).2.2 d (Int.dvd_zero d) h
theorem zcD{u v:List Int}(h:∀ d,(∀ x∈u,d ∣ x) ↔ (∀ x∈v,d ∣ x)):uZ u=uZ v:= Int.dvd_antisymm (z67 u) (z67 v) (z3r ((h _).mp qL)) (z3r ((h _).mpr qL))
theorem z7o{v:List Int}{P:Int->Prop}(h0:P 0):(∀ x∈v,P x) ↔ ∀ i,P (v.getD i 0):=by
 constructor
 ·intro h i;by_cases hi:i<v.length;·exact h _ (getD_mem hi)
  ·simp [List.getD,List.getElem?_eq_none (Nat.not_lt.mp hi),h0]
 ·intro h x hx;obtain ⟨i,hi,rfl⟩:=List.mem_iff_getElem.mp hx;have:=h i;simpa [List.getD,List.getElem?_eq_getElem hi] using this
theorem z8G{n:Nat}{v:List Int}(r:Rl)(h:Lot n v)(he:ended v=false):uZ (stp r v)=uZ v:=by
 have dl:=vI r h he;have q:=z9P h.nn dl;refine zcD fun d=>?_;have e:(∀ x∈stp r v,d ∣ x) ↔ ∀ x∈left v (yq v (deal r v)) (deal r v).1,d ∣ x:=by
  constructor;·intro h x hx;exact h x (kD.mpr hx)
  ·intro h x hx;exact h x (kD.mp hx)
 rw [e,z7o (Int.dvd_zero d),z7o (Int.dvd_zero d)];have lb:(left v (yq v (deal r v)) (deal r v).1).getD (deal r v).1 0=v.getD (deal r v).1 0:=by rw [xT q.len,vw,if_neg (fun w=>dl.nb w.2)]
 constructor
 ·intro hd i;have h1:=hd i;have h2:=hd (deal r v).1;rw [lb] at h2;rw [xT q.len] at h1;have h3:d ∣ (yq v (deal r v)).getD i 0*v.getD (deal r v).1 0:=Int.dvd_trans h2 (Int.dvd_mul_left ..);have:=Int.dvd_add h1 h3;rwa [Int.sub_add_cancel] at this
 ·intro hd i;rw [xT q.len];exact Int.dvd_sub (hd i) (Int.dvd_trans (hd (deal r v).1) (Int.dvd_mul_left ..))
theorem zae:∀ v:List Int,v.sum=(nz v).sum
 | []=>rfl | a::v=>by
  have:=zae v;by_cases h:a=0;·subst h;simp [nz] at this ⊢;exact this
  ·simp [nz,h] at this ⊢;exact this
theorem zah{n:Nat}{v:List Int}(h:Lot n v)(he:ended v=true):v.sum=uZ v:=by
 have l1:(nz v).length=1:=by simpa [ended] using he
 obtain ⟨x,ex⟩:∃ x,nz v=[x]:=by match hz:nz v,l1 with | [x],_=>exact ⟨x,rfl⟩
 have xm:=uK.mp (show x∈nz v by rw [ex];simp);have x0:=h.nn x xm.1;have e1:v.sum=x:=by rw [zae,ex];simp
 rw [e1];refine Int.dvd_antisymm x0 (z67 v) (z3r fun y hy=>?_) (qL x xm.1);by_cases y0:y=0;·subst y0;exact Int.dvd_zero _
 ·have:y∈nz v:=uK.mpr ⟨hy,y0⟩;rw [ex] at this;simp at this;subst this;exact Int.dvd_refl _
structure PI(n:Nat)(B:Int)(P:Tb)(c x:List Int):Prop where
 tab:Tab n P
 nn:∀ row∈P,∀ y∈row,0<=y/\y<=B
 eq:mv P c=x
theorem z0w{n:Nat}{v:List Int}(r:Rl)(h:Lot n v)(he:ended v=false):Tab n (z0f r v):=by
 have dl:=vI r h he;exact zbT r h.sz (by rw [xV,h.len]) (by rw [<- h.len];exact dl.lt)
theorem PI.step{n:Nat}{B:Int}{P:Tb}{c x:List Int}(r:Rl)(I:PI n B P c x)(hx:∀ y∈x,y<=B)(h:Lot n c)(he:ended c=false):PI n B (z0d P (z0f r c)) (stp r c) x:=by
 have dl:=vI r h he;have q:=z9P h.nn dl;have tt:=z0w r h he;have hq:(yq c (deal r c)).length=n:=by rw [xV,h.len]
 have hb:(deal r c).1<n:=by rw [<- h.len];exact dl.lt
 have rows:∀ row∈P,z5z (z0f r c) row=mvd r (z3w (deal r c).1 (yq c (deal r c)) row):=fun row hr=>zar r h.sz hq hb q.zero (I.tab.row row hr);have ri:∀ row∈P,zhp B (mvd r (z3w (deal r c).1 (yq c (deal r c)) row)) (stp r c) (dot row c):=fun row hr=>by
  have:dot row c∈x:=by rw [<- I.eq];exact List.mem_map.mpr ⟨row,hr,rfl⟩
  exact zbu r q (hx _ this) ⟨by rw [I.tab.row row hr,h.len],I.nn row hr,rfl⟩
 refine ⟨z6O I.tab tt,fun row hr y hy=>?_,?_⟩
 ·rw [z4d h.sz I.tab tt] at hr;obtain ⟨w,hw,rfl⟩:=List.mem_map.mp hr;rw [rows w hw] at hy;exact (ri w hw).nn y hy
 ·rw [z4d h.sz I.tab tt,<- I.eq];unfold mv;rw [List.map_map];refine List.map_congr_left fun w hw=>?_;show dot (z5z (z0f r c) w) (stp r c)=dot w c;rw [rows w hw];exact (ri w hw).dot
theorem zfY(n:Nat):∀ row∈one n,∀ y∈row,0<=y/\y<=1:=fun row hr y hy=>by
 simp only [one] at hr;obtain ⟨i,_,rfl⟩:=List.mem_map.mp hr;obtain ⟨j,_,rfl⟩:=List.mem_map.mp hy;split<;>omega
theorem PI.start{n:Nat}{B:Int}{v:List Int}(h:Lot n v)(hx:∀ y∈v,y<=B):PI n B (one n) v v:=by
 have b1:1<=B:=by
  obtain ⟨y,hy,h0⟩:=h.pos;have:=hx y hy;omega
 refine ⟨z6o n,fun row hr y hy=>?_,zf2 h.sz h.len⟩;have:=zfY n row hr y hy;omega
theorem zdX{n:Nat}{v:List Int}{B:Int}(r:Rl)(h:Lot n v)(he:ended v=false)(hb:∀ y∈v,y<=B):∀ row∈z0f r v,∀ y∈row,0<=y/\y<=B:=by
 have:=(PI.start h hb).step r hb h he;have e:=this.nn;rw [(zb1 h.sz (z0w r h he)).1] at e;exact e
theorem zgK{n:Nat}{v:List Int}{B:Int}(r:Rl)(h:Lot n v)(he:ended v=false)(hb:∀ y∈v,y<=B):∀ y∈stp r v,y<=B:=fun y hy=>by
 have dl:=vI r h he;have q:=z9P h.nn dl;have hy:=kD.mp hy;obtain ⟨i,hi,rfl⟩:=List.mem_iff_getElem.mp hy;have e:(left v (yq v (deal r v)) (deal r v).1)[i]=(left v (yq v (deal r v)) (deal r v).1).getD i 0:=by simp [List.getD,List.getElem?_eq_getElem hi]
 have hi':i<v.length:=by rw [<- ww (b:=(deal r v).1) q.len];exact hi
 have b:=hb _ (getD_mem hi');rw [e,xT q.len,vw];split
 ·rename_i w;rcases dl.pos with z | z;·rw [z] at w;simp at w
  ·have:=z8M (wI h.nn i) z;omega
 ·exact b
section
variable {k:Int}(hk:0<k)
include hk
end
def zM(r:Rl)(ls:List (List Int)):List Tb:=ls.dropLast.map (z0f r)
theorem Run.ne{r:Rl}{v:List Int}{ls:List (List Int)}(R:Run r v ls):ls≠[]:=by cases R<;>simp
theorem Run.tabs_cons{r:Rl}{v:List Int}{ls:List (List Int)}(h:Run r (stp r v) ls):zM r (v::ls)=z0f r v::zM r ls:=by
 obtain ⟨a,t,rfl⟩:=List.exists_cons_of_ne_nil h.ne;simp [zM]
def z1o(n:Nat)(ts:List Tb):Tb:=ts.foldl z0d (one n)
theorem Run.prod{n:Nat}{r:Rl}{B:Int}{v x:List Int}{ls:List (List Int)}{P:Tb}(h:Lot n v)(R:Run r v ls)(I:PI n B P v x)(hx:∀ y∈x,y<=B):∃ z,ls.getLast? = some z/\ended z=true/\Lot n z/\uZ z=uZ v/\PI n B ((zM r ls).foldl z0d P) z x:=by induction R generalizing P with
 | done e=>exact ⟨_,by simp,e,h,rfl,by simpa [zM] using I⟩ | step e R ih=>
  obtain ⟨z,h1,h2,h3,h4,h5⟩:=ih (h.step r e) (I.step r hx h e);refine ⟨z,?_,h2,h3,by rw [h4,z8G r h e],?_⟩;·rw [List.getLast?_cons,h1];rfl
  ·rw [R.tabs_cons];exact h5
theorem Run.whole{n:Nat}{r:Rl}{B:Int}{v:List Int}{ls:List (List Int)}(h:Lot n v)(R:Run r v ls)(hx:∀ y∈v,y<=B):∃ z,ls.getLast? = some z/\ended z=true/\Lot n z/\uZ z=uZ v/\PI n B (z1o n (zM r ls)) z v:=R.prod h (PI.start h hx) hx
end Pm
namespace Pg
open PySem.Spec L2 Dd Pm
theorem z1b{α:Type}{all:List D}{s:Sto}{body:D->Sto->R (Option D)}(g f:α->D)(p:α->Bool):∀ (l:List α)(acc:List D),(∀ a∈l,body (g a) s=.ok (if p a=true then some (f a) else none) s)->acc.length+l.length<=cap->ui [] all body (l.map g) acc s=.ok (acc++(l.filter p).map f) s
 | [],acc,_,_=>by simp [ui,okG] | x::xs,acc,hb,hl=>by
  have og:okG [] all s:=by intro p hp;simp at hp
  rw [List.map_cons,ui,if_pos og,hb x (by simp)];cases hp:p x with
  | true=>
   have ih:=z1b (all:=all) g f p xs (acc++[f x]) (fun y hy=>hb y (by simp [hy])) (by simp at hl ⊢;omega);have hc:acc.length<cap:=by simp at hl;omega
   simp [hc,ih,hp] | false=>
   have ih:=z1b (all:=all) g f p xs acc (fun y hy=>hb y (by simp [hy])) (by simp at hl ⊢;omega);simp [ih,hp]
theorem z3B{α:Type}{fi:FI}{mp:List (Option Nat)}{fg:FG}{ft:FT}{fe:FE}{Z:Ev}{s:Sto}(g f:α->D)(p:α->Bool)(ev:α->Ev)(l:List α) (hi:fi Z s=.ok (l.map g,[]) s)(hg:∀ a∈l,fg (g a) (xW mp Z) s=.ok (ev a) s)(ht:∀ a∈l,ft (ev a) s=.ok (p a) s)(he:∀ a∈l,p a=true->fe (ev a) s=.ok (f a) s)(hl:l.length<=cap): zK fi mp fg ft fe Z s=.ok (.lst ((l.filter p).map f)) s:=by
 rw [z0G,z1R,hi,R.bind_ok];rw [z1b g f p l [] (by
  intro a ha;simp only [hg a ha,ht a ha,R.bind_ok];cases hp:p a with
  | true=>simp [he a ha hp] | false=>simp) (by simpa using hl)];rfl
theorem comp_map{α:Type}{fi:FI}{mp:List (Option Nat)}{fg:FG}{fe:FE}{Z:Ev}{s:Sto}(g f:α->D)(ev:α->Ev)(l:List α) (hi:fi Z s=.ok (l.map g,[]) s)(hg:∀ a∈l,fg (g a) (xW mp Z) s=.ok (ev a) s)(he:∀ a∈l,fe (ev a) s=.ok (f a) s)(hl:l.length<=cap): zK fi mp fg yM fe Z s=.ok (.lst (l.map f)) s:=by
 have:=z3B (ft:=yM) g f (fun _=>true) ev l hi hg (fun a _=>rfl) (fun a ha _=>he a ha) hl;rw [show l.filter (fun _=>true)=l from List.filter_eq_self.mpr (by simp)] at this;exact this
theorem uD{f:FE}{Z:Ev}{s:Sto}{xs:List D}(h:f Z s=.ok (.tup xs) s):yB f Z s=.ok (xs,[]) s:=by simp [h]
theorem qH{f:FE}{Z:Ev}{s:Sto}{xs:List D}(h:f Z s=.ok (.lst xs) s):yB f Z s=.ok (xs,[]) s:=by simp [h]
structure LotB(n m:Nat)(v:List Int):Prop extends Lot n v where bd:∀ x∈v,x<2 ^ m
theorem LotB.abs{n m:Nat}{v:List Int}(h:LotB n m v):∀ x∈v,x.natAbs<2 ^ m:=fun x hx=>by
 have h1:=h.bd x hx;have h2:=h.nn x hx;have e:((x.natAbs:Nat):Int)=x:=Int.natAbs_of_nonneg h2;have:((x.natAbs:Nat):Int)<((2 ^ m:Nat):Int):=by rw [e];simpa using h1
 omega
theorem LotB.toN{n m:Nat}{v:List Int}(h:LotB n m v):∀ x∈v,x.toNat<2 ^ m:=fun x hx=>by
 have h1:=h.abs x hx;have h2:=h.nn x hx;omega
theorem _root_.Pm.Lot.le4{n:Nat}{v:List Int}(h:Lot n v):v.length<=4/\2<=v.length:=by have:=h.len;have:=h.sz;omega
theorem zbm{n:Nat}{v:List Int}(h:Lot n v)(s:Sto):uj [rD v] s=.ok (.bl true) s:=by
 have l4:=h.le4;have h1:=z2T (iL v) s (by simp;omega);have h2:=kW v s (by omega);have g1:=z9G s h.ne;have g2:=zfx s h.ne;have mn:0<=minL v:=h.nn _ (minL_mem h.ne);have mx:0<maxL v:=by obtain ⟨x,hx,h0⟩:=h.pos;have:=maxL_ge (xs:=v) x hx;omega
 have gl:wL [rD v] s=.ok (.int v.length) s:=by simp [wL,zL]
 have key:∀ d:D,xq [d] s=.ok (.bl true) s->wL [d] s=.ok (.int v.length) s->yx [d,.int v.length] s=.ok (.bl true) s->uC [d] s=.ok (.int (maxL v)) s->z0n [d] s=.ok (.int (minL v)) s->uj [d] s=.ok (.bl true) s:=fun d a1 a2 a3 a4 a5=>by simp [uj,Mof,z4q,zx,a1,a2,a3,a4,a5,mn,mx]
 exact key _ h1 gl h2 g1 g2
theorem qK{n:Nat}{v:List Int}(h:Lot n v)(s:Sto):zY [rD v] s=.ok .non s:=by
 have h1:=zbm h s;have key:∀ d:D,uj [d] s=.ok (.bl true) s->zY [d] s=.ok .non s:=fun d a1=>by simp [zY,Mof,z1C,zx,a1]
 exact key _ h1
theorem nzC{v:List Int}{f:FE}{Z:Ev}{s:Sto}{mp:List (Option Nat)}(hf:f Z s=.ok (rD v) s)(hl:v.length<=4):zK (yB f) [none] (we 0) (tOf (eOp dNe (zc 0) (eC (.int 0)))) (zc 0) Z s=.ok (.lst (iL (nz v))) s:=by
 rw [z3B D.int D.int (fun x=>decide (x≠0)) (fun x=>[some (.int x)]) v (uD hf) (fun a _=>by simp) (fun a _=>by simp) (fun a _ _=>by simp) (by simp [cap];omega)];rfl
theorem jk {n:Nat} {v:List Int} (h:Lot n v) (s:Sto):zV [rD v] s=.ok (.bl (ended v)) s:=by
 have h1:=qK h s;have key:∀ d:D,zY [d] s=.ok .non s->zK (yB (zc 0)) [none] (we 0) (tOf (eOp dNe (zc 0) (eC (.int 0)))) (zc 0) [some d] s=.ok (.lst (iL (nz v))) s->zV [d] s=.ok (.bl (ended v)) s:=fun d a1 a2=>by
  have st:zx ["lot"] [d]=[some d]:=rfl;simp only [zV,Mof,kZ,st,List.length_cons,List.length_nil,if_true];rw [zu (Z':=[some d]) (s':=s) (by simp [a1])];simp only [jQ,xc,wv,yj,zt,zN,kg,a2,R.bind_ok];simp only [wL,zL,R.bind_ok,z9o,List.length_map];have:decide (((nz v).length:Int)=1)=ended v:=by
   unfold ended;by_cases e:(nz v).length=1;·simp [e]
   ·have:¬ ((nz v).length:Int)=1:=by omega
    simp [e,this]
  rw [this]
 exact key _ h1 (nzC (mp:=[]) (by simp) h.le4.1)
theorem zdG{a b:Int}(hb:0<b):cg b (a % b)=cg a b:=by
 have e:=Int.mul_ediv_add_emod a b;refine Int.dvd_antisymm (by simp [cg]) (by simp [cg]) ?_ ?_
 ·have h1:cg b (a % b) ∣ b:=Int.gcd_dvd_left ..;have h2:cg b (a % b) ∣ a % b:=Int.gcd_dvd_right ..;refine Int.dvd_coe_gcd ?_ h1;have h3:=Int.dvd_add (Int.dvd_trans h1 (Int.dvd_mul_right b (a / b))) h2;rwa [e] at h3
 ·have h1:cg a b ∣ a:=Int.gcd_dvd_left ..;have h2:cg a b ∣ b:=Int.gcd_dvd_right ..;refine Int.dvd_coe_gcd h2 ?_;have:a % b=a-b*(a / b):=by omega
  rw [this];exact Int.dvd_sub h1 (Int.dvd_trans h2 (Int.dvd_mul_right ..))
theorem zef{a:Int}(h:0<=a):cg a 0=a:=by
 unfold cg;rw [Int.gcd_zero_right];omega
theorem z7E(s:Sto):∀ (k:Nat)(a b:Int),0<=a->0<=b->b.toNat<k-> ve (tOf (eOp dNe (zc 1) (eC (.int 0)))) wr k [some (.int a),some (.int b)] s=.ok (.nx [some (.int (cg a b)),some (.int 0)]) s
 | 0,a,b,_,_,h=>by omega | k+1,a,b,ha,hb,h=>by
  rw [ve];by_cases e:b=0
  ·subst e;simp [zef ha]
  ·have b0:0<b:=by omega
   have m:=z4B (a:=a) s b0;have h1:=Int.emod_nonneg a (show b≠0 by omega);have h2:=Int.emod_lt_of_pos a b0;have ih:=z7E s k b (a % b) hb h1 (by omega);have e1:tOf (eOp dNe (zc 1) (eC (.int 0))) [some (.int a),some (.int b)] s=.ok true s:=by simp [e]
   have e2:wr [some (.int a),some (.int b)] s=.ok (.nx [some (.int b),some (.int (a % b))]) s:=by simp [m]
   rw [e1,R.bind_ok,if_pos rfl,e2,R.bind_ok];show ve _ _ k _ s=_;rw [ih,zdG b0]
theorem z0S {a b:Int} (ha:0<=a) (hb:0<=b) (s:Sto):xh [.int a,.int b] s=.ok (.int (cg a b)) s:=by
 have st:zx ["one","other"] [.int a,.int b]=[some (.int a),some (.int b)]:=rfl;simp only [xh,Mof,uO,st,List.length_cons,List.length_nil,if_true];rw [zu (Z':=[some (.int (cg a b)),some (.int 0)]) (s':=s) (by rw [vR];exact z7k (z7E s (b.toNat+1) a b ha hb (by omega)) (by simp))];simp
theorem z0Y(s:Sto)(x y:Option D):∀ (v:List Int)(a:Int)(all:List D)(z:Option D),0<=a->(∀ x∈v,0<=x)->∃ z',wE [] all (fun d Z s=>(we 2 d Z s).bind fun Z' s'=>kj Z' s') (iL v) [x,some (.int a),z] s=.ok (.nx [x,some (.int (v.foldl cg a)),z']) s
 | [],a,all,z,_,_=>⟨z,by simp [wE,okG]⟩ | b::v,a,all,z,ha,hv=>by
  have hb:=hv b (by simp);obtain ⟨z',ih⟩:=z0Y s x y v (cg a b) all (some (.int b)) (by simp [cg]) fun w hw=>hv w (by simp [hw]);refine ⟨z',?_⟩;have c2:=z0S ha hb s;simp only [iL,List.map_cons,wE];rw [if_pos (by intro p hp;simp at hp)];simp only [iL] at ih;have e2:kj [x,some (.int a),some (.int b)] s=.ok (.nx [x,some (.int (cg a b)),some (.int b)]) s:=by simp [c2]
  rw [z0i,R.bind_ok];simp only [List.set_cons_succ,List.set_cons_zero];rw [e2,R.bind_ok];exact ih
theorem zbk {n:Nat} {v:List Int} (h:Lot n v) (s:Sto):uv [rD v] s=.ok (.int (uZ v)) s:=by
 have h1:=qK h s;have key:∀ d:D,zY [d] s=.ok .non s->(∀ z,yB (zc 0) [some d,some (.int 0),z] s=.ok (iL v,[]) s)->uv [d] s=.ok (.int (uZ v)) s:=fun d a1 a2=>by
  have st:zx ["lot","divisor","number"] [d]=[some d,none,none]:=rfl;simp only [uv,Mof,z4Y,st,List.length_cons,List.length_nil,if_true];rw [zu (Z':=[some d,none,none]) (s':=s) (by simp [a1])];rw [zu (Z':=[some d,some (.int 0),none]) (s':=s) (by simp)];obtain ⟨z',e⟩:=z0Y s (some d) none v 0 (iL v) none (by omega) h.nn;rw [zu (Z':=[some d,some (.int (v.foldl cg 0)),z']) (s':=s) (by rw [z2Y,jg,a2,R.bind_ok];exact e)];simp [uZ]
 exact key _ h1 fun z=>uD (by simp)
def nmR:Rl->Str | .nx=>"next" | .le=>"least" | .al=>"all" | .tu=>"turn"
theorem z8Z{fo fv:FE}{Z:Ev}{s:Sto}{v:List Int}{k:Int}(h1:fo Z s=.ok (rD v) s)(h2:fv Z s=.ok (.int k) s)(hk:k∈v):zbM fo fv Z s=.ok (.int (v.idxOf k:Nat)) s:=by simp only [zeO,h1,h2,R.bind_ok,xK,if_pos hk]
theorem z2V {n:Nat} {v:List Int} (h:Lot n v) (s:Sto):zv [rD v] s=.ok (.tup [.int (gp v:Nat),rD (others v)]) s:=by
 have l4:=h.le4;have g1:=z9G s h.ne;have key:∀ d:D,d=rD v->zv [d] s=.ok (.tup [.int (gp v:Nat),rD (others v)]) s:=fun d hd=>by
  have st:zx ["lot","at"] [d]=[some d,none]:=rfl;have gm:uC [d] s=.ok (.int (maxL v)) s:=by rw [hd];exact g1
  have i1:zbM (zc 0) (zd uC (za (zc 0) zp)) [some d,none] s=.ok (.int (gp v:Nat)) s:=z8Z (by simp [hd]) (by simp [gm]) (maxL_mem h.ne);simp only [zv,Mof,wg,st,List.length_cons,List.length_nil,if_true];rw [zu (Z':=[some d,some (.int (gp v:Nat))]) (s':=s) (by rw [xQ,xA,i1];simp)];have e1:=z5S (iL v) (gp v) s;have e2:=z3Y (iL v) (gp v+1) s;rw [show (((gp v+1:Nat):Int))=((gp v:Nat):Int)+1 from rfl] at e2;simp only [xR,xc,z0O,zt,zN,yc,wv,z0t,yS,wK,kg,List.getElem?_cons_zero,List.getElem?_cons_succ,R.bind_ok,z6S,hd,e1,e2];rw [if_pos (by simp [cap]),R.bind_ok,z2J,if_pos (by simp [cap];omega),R.bind_ok,e2,R.bind_ok,z2J,if_pos (by simp [cap];omega),R.bind_ok,R.bind_ok,R.bind_ok,if_pos (by simp [cap])];simp [others,List.map_take,List.map_drop]
 exact key _ rfl
theorem jV {v:List Int} (h:nz v≠[]) (hl:v.length<=4) (s:Sto):yd [rD v] s=.ok (.int (lp v:Nat)) s:=by
 have key:∀ d:D,d=rD v->yd [d] s=.ok (.int (lp v:Nat)) s:=fun d hd=>by
  have st:zx ["lot"] [d]=[some d]:=rfl;have c:=nzC (mp:=[]) (f:=zc 0) (Z:=[some d]) (s:=s) (v:=v) (by simp [hd]) hl;have gm:z0n [.lst (iL (nz v))] s=.ok (.int (minL (nz v))) s:=by
   obtain ⟨a,t,e⟩:=List.exists_cons_of_ne_nil h;rw [e];simp only [z0n,zL,Option.bind_some,iL];rw [xK]
  simp only [yd,Mof,qW,st,List.length_cons,List.length_nil,if_true,qq,xc];rw [z8Z (v:=v) (k:=minL (nz v)) (by simp [hd]) (by rw [yj,zt,c];simp only [R.bind_ok,zN,gm]) (uK.mp (minL_mem h)).1];rfl
 exact key _ rfl
abbrev nL(l:List Nat):List D:=l.map fun i=>D.int ((i:Nat):Int)
theorem z53 {v:List Int} (p:Nat) (hl:v.length<=4) (s:Sto):xC [rD v,.int (p:Nat)] s=.ok (.lst (nL (vd v p))) s:=by
 have key:∀ d:D,wL [d] s=.ok (.int v.length) s->xC [d,.int (p:Nat)] s=.ok (.lst (nL (vd v p))) s:=fun d hd=>by
  have st:zx ["lot","place"] [d,.int (p:Nat)]=[some d,some (.int (p:Nat))]:=rfl;have ir:z5w (za (zd wL (za (zc 0) zp)) zp) [some d,some (.int (p:Nat))] s=.ok ((List.range v.length).map fun i=>D.int ((i:Nat):Int),[]) s:=by
   rw [z91 (n:=v.length) (s1:=s) (by omega) (by simp [hd])];rfl
  simp only [xC,Mof,z2x,st,List.length_cons,List.length_nil,if_true,z1d,xc];rw [z3B (fun i:Nat=>D.int ((i:Nat):Int)) (fun i:Nat=>D.int ((i:Nat):Int)) (fun i=>decide (i≠p)) (fun i=>[some (.int (p:Nat)),some (.int (i:Nat))]) (List.range v.length) ir (fun a _=>by simp) (fun a _=>by
   have:decide (((a:Nat):Int)≠(p:Nat))=decide (a≠p):=by
    by_cases e:a=p;·simp [e]
    ·have:¬ ((a:Nat):Int)=(p:Nat):=by omega
     simp [e,this]
   simp only [z6p,wv,yc,List.getElem?_cons_succ,List.getElem?_cons_zero,R.bind_ok,z9d,this]) (fun a _ _=>by simp) (by simp [cap];omega)];rfl
 exact key _ (by simp [wL,zL])
abbrev z1F(d:Nat×List Nat):D:=.tup [.int ((d.1:Nat):Int),.lst (nL d.2)]
theorem z8I {n:Nat} {v:List Int} (h:Lot n v) (s:Sto):wz [rD v] s=.ok (z1F (deal .nx v)) s:=by
 have ne:others v≠[]:=fun z=>by
  have:=wY h.ne;rw [z] at this;exact h.ne (List.length_eq_zero_iff.mp this.symm)
 have g:=z2V h s;have g1:=z9G (ns:=others v) s ne;have key:∀ d e:D,e=rD (others v)->zv [d] s=.ok (.tup [.int (gp v:Nat),e]) s->wz [d] s=.ok (z1F (deal .nx v)) s:=fun d e he hg=>by
  have st:zx ["lot","greatest","others"] [d]=[some d,none,none]:=rfl;have gm:uC [e] s=.ok (.int (maxL (others v))) s:=by rw [he];exact g1
  simp only [wz,Mof,z2E,st,List.length_cons,List.length_nil,if_true];rw [zu (Z':=[some d,some (.int (gp v:Nat)),some e]) (s':=s) (by simp [hg])];have ix:zbM (zc 2) (zd uC (za (zc 2) zp)) [some d,some (.int (gp v:Nat)),some e] s=.ok (.int ((others v).idxOf (maxL (others v)):Nat)) s:=z8Z (v:=others v) (by simp [he]) (by simp [gm]) (maxL_mem ne);simp only [z1H,xc,z0O,zt,ix,R.bind_ok,zN,z7a,yc,List.getElem?_cons_zero,List.getElem?_cons_succ];simp [cap,deal]
 exact key _ _ rfl g
theorem z8u {n:Nat} {v:List Int} (h:Lot n v) (he:ended v=false) (s:Sto):xJ [rD v] s=.ok (z1F (deal .le v)) s:=by
 have g:=z2V h s;have lpo:=jV (z0Z h he) (by rw [wY h.ne];exact h.le4.1) s;have key:∀ d e:D,yd [e] s=.ok (.int (lp (others v):Nat)) s->zv [d] s=.ok (.tup [.int (gp v:Nat),e]) s->xJ [d] s=.ok (z1F (deal .le v)) s:=fun d e he hg=>by
  have st:zx ["lot","greatest","others"] [d]=[some d,none,none]:=rfl;simp only [xJ,Mof,z1B,st,List.length_cons,List.length_nil,if_true];rw [zu (Z':=[some d,some (.int (gp v:Nat)),some e]) (s':=s) (by simp [hg])];simp [he,cap,deal]
 exact key _ _ lpo g
theorem zbh {n:Nat} {v:List Int} (h:Lot n v) (s:Sto):vy [rD v] s=.ok (z1F (deal .al v)) s:=by
 have lpo:=jV h.nzne h.le4.1 s;have ab:=z53 (v:=v) (lp v) h.le4.1 s;have key:∀ d:D,yd [d] s=.ok (.int (lp v:Nat)) s->xC [d,.int (lp v:Nat)] s=.ok (.lst (nL (vd v (lp v)))) s->vy [d] s=.ok (z1F (deal .al v)) s:=fun d h1 h2=>by
  have st:zx ["lot","by"] [d]=[some d,none]:=rfl;simp only [vy,Mof,z58,st,List.length_cons,List.length_nil,if_true];rw [zu (Z':=[some d,some (.int (lp v:Nat))]) (s':=s) (by simp [h1])];simp [h2,cap,deal]
 exact key _ lpo ab
theorem z9g {n:Nat} {v:List Int} (h:Lot n v) (s:Sto):wC [rD v] s=.ok (z1F (deal .tu v)) s:=by
 have ab:=z53 (v:=v) 0 h.le4.1 s;have i0:dIx (rD v) (.int 0) s=.ok (.int (v.getD 0 0)) s:=z6U (j:=0) s (by have:=h.le4.2;omega);have key:∀ d:D,dIx d (.int 0) s=.ok (.int (v.getD 0 0)) s->xC [d,.int 0] s=.ok (.lst (nL (vd v 0))) s->wC [d] s=.ok (z1F (deal .tu v)) s:=fun d h1 h2=>by
  have st:zx ["lot"] [d]=[some d]:=rfl;simp only [wC,Mof,z2Q,st,List.length_cons,List.length_nil,if_true];by_cases z:v.getD 0 0=0;·rw [zgd (d:=z1F (deal .tu v)) (s':=s) (by
    rw [z] at h1;have e:deal .tu v=(0,[]):=by show (0,if v.getD 0 0=0 then [] else vd v 0)=_;rw [if_pos z]
    rw [e];simp [h1,cap])]
  ·rw [zu (Z':=[some d]) (s':=s) (by
    have:¬ v.getD 0 0=0:=z;generalize v.getD 0 0=y at *;simp [h1,this])];have e:deal .tu v=(0,vd v 0):=by show (0,if v.getD 0 0=0 then [] else vd v 0)=_;rw [if_neg z]
   rw [e];simp [h2,cap]
 exact key _ i0 ab
theorem z9e(r:Rl)(s:Sto):qg [.str (nmR r)] s=.ok (.bl true) s:=by
 have l:∀ r,(uz.lookup (nmR r)).isSome=true:=fun r=>by cases r<;>decide
 have l:=l r;obtain ⟨y,l⟩:=Option.isSome_iff_exists.mp l;generalize nmR r=x at *;simp [qg,Mof,z2z,zx,gIs,tyD,isT,l]
theorem z1a(r:Rl)(s:Sto):yR [.str (nmR r)] s=.ok .non s:=by
 have l:=z9e r s;generalize nmR r=x at *;simp [yR,Mof,z0c,zx,l]
theorem z4t{n:Nat}{v:List Int}(r:Rl)(h:Lot n v)(s:Sto):zB [.str (nmR r),rD v] s=.ok .non s:=by
 have h1:=z1a r s;have h2:=qK h s;have key:∀ d e:D,yR [d] s=.ok .non s->zY [e] s=.ok .non s->zB [d,e] s=.ok .non s:=fun d e a1 a2=>by simp [zB,Mof,wN,zx,a1,a2]
 exact key _ _ h1 h2
theorem z1A{n:Nat}{v:List Int}(r:Rl)(h:Lot n v)(he:ended v=false)(s:Sto):yE [.str (nmR r),rD v] s=.ok .non s:=by
 have h1:=z4t r h s;have h2:=jk h s;rw [he] at h2;have key:∀ d e:D,zB [d,e] s=.ok .non s->zV [e] s=.ok (.bl false) s->yE [d,e] s=.ok .non s:=fun d e a1 a2=>by simp [yE,Mof,z0j,zx,a1,a2]
 exact key _ _ h1 h2
def dfR:Rl->Str | .nx=>"by_next" | .le=>"by_least" | .al=>"by_all" | .tu=>"by_turn"
def MR:Rl->Mir | .nx=>wz | .le=>xJ | .al=>vy | .tu=>wC
theorem zjm{n:Nat}{v:List Int}(r:Rl)(h:Lot n v)(he:ended v=false)(s:Sto):MR r [rD v] s=.ok (z1F (deal r v)) s:=by cases r with
 | nx=>exact z8I h s | le=>exact z8u h he s | al=>exact zbh h s | tu=>exact z9g h s
theorem zh2(r:Rl):uz.lookup (nmR r)=some (dfR r):=by cases r<;>decide
theorem zjM(r:Rl):([("by_next",wz),("by_least",xJ),("by_all",vy),("by_turn",wC)]:List (Str×Mir)).lookup (dfR r)=some (MR r):=by
 cases r;·rfl
 ·rfl
 ·rfl
 ·rfl
theorem zia(i:Nat)(l:List Nat)(s:Sto):zcN false (.int ((i:Nat):Int)) (.lst (nL l)) s=.ok (.bl (decide (i∈l))) s:=by
 have e:∀ l:List Nat,jt (nL l)=some (l.map fun j=>V.int ((j:Nat):Int)):=by
  intro l;induction l with
  | nil=>rfl | cons a l ih=>simp only [nL] at ih;simp [nL,jt,z2L,ih]
 have e2:∀ l:List Nat,inV (.int ((i:Nat):Int)) (l.map fun j=>V.int ((j:Nat):Int))=decide (i∈l):=by
  intro l;induction l with
  | nil=>rfl | cons a l ih=>
   simp only [inV,List.map_cons,List.any_cons] at ih ⊢;rw [ih];by_cases q:i=a;·subst q;simp [eqV]
   ·have q':¬ ((a:Nat):Int)=i:=by omega
    simp [eqV,q,q']
 simp only [zcN,z2L,zL,Option.bind_some,e,e2];rfl
theorem z54(x:List D)(s:Sto):yG [.lst x] s=.ok (.tup x) s:=by simp [yG,zL]
theorem z2B {n m:Nat} {v:List Int} (r:Rl) (h:LotB n m v) (he:ended v=false) (hm:m<=1999) (s:Sto):yU [.str (nmR r),rD v] s=.ok (.tup [.int ((deal r v).1:Nat),.lst (iL (yq v (deal r v)))]) s:=by
 have dl:=vI r h.toLot he;have l4:=h.toLot.le4;have by_:=zjm r h.toLot he s;have ixs:∀ i,i<v.length->dIx (rD v) (.int ((i:Nat):Int)) s=.ok (.int (v.getD i 0)) s:=fun i hi=>z6U s hi;have gl:wL [rD v] s=.ok (.int v.length) s:=by simp [wL,zL]
 have key:∀ d e:D,e=.str (nmR r)->MR r [d] s=.ok (z1F (deal r v)) s->wL [d] s=.ok (.int v.length) s->(∀ i,i<v.length->dIx d (.int ((i:Nat):Int)) s=.ok (.int (v.getD i 0)) s)->yU [e,d] s=.ok (.tup [.int ((deal r v).1:Nat),.lst (iL (yq v (deal r v)))]) s:=fun d e he' h1 h2 h3=>by
  have st:zx ["rule","lot","deal","by","divided"] [e,d]=[some e,some d,none,none,none]:=rfl;simp only [yU,Mof,z20,st,List.length_cons,List.length_nil,if_true];have lk:=zh2 r;have lm:=zjM r;rw [zu (Z':=[some e,some d,some (.fn (dfR r)),none,none]) (s':=s) (by
   generalize dfR r=y at *;simp [he',lk])];rw [zu (Z':=[some e,some d,some (.fn (dfR r)),some (.int ((deal r v).1:Nat)),some (.lst (nL (deal r v).2))]) (s':=s) (by
   rw [z08,zcu,zbj];simp only [List.getElem?_cons_zero,List.getElem?_cons_succ];rw [lm];simp only [zt,zN,yc,List.getElem?_cons_zero,List.getElem?_cons_succ,R.bind_ok,h1,zcJ,List.set_cons_succ,List.set_cons_zero])];have ir:z5w (za (zd wL (za (zc 1) zp)) zp) [some e,some d,some (.fn (dfR r)),some (.int ((deal r v).1:Nat)),some (.lst (nL (deal r v).2))] s=.ok ((List.range v.length).map fun i=>D.int ((i:Nat):Int),[]) s:=by
   rw [z91 (n:=v.length) (s1:=s) (by omega) (by simp [h2])];rfl
  have c:=comp_map (mp:=[some 4,some 1,some 3,none]) (fg:=we 3) (fe:=eIf (tOf (eOp (zcN false) (zc 3) (zc 0))) (eOp z1i (eOp dIx (zc 1) (zc 3)) (eOp dIx (zc 1) (zc 2))) (eC (.int 0))) (fun i:Nat=>D.int ((i:Nat):Int)) (fun i:Nat=>D.int (if i∈(deal r v).2 then v.getD i 0 / v.getD (deal r v).1 0 else 0)) (fun i=>[some (.lst (nL (deal r v).2)),some d,some (.int ((deal r v).1:Nat)),some (.int (i:Nat))]) (List.range v.length) ir (fun a _=>by simp) (fun i hi=>by
    have hi':i<v.length:=by simpa using hi
    have i1:=zia i (deal r v).2 s;have e1:=h3 i hi';have e2:=h3 _ dl.lt;simp only [zeg,z6p,wv,yc,kg,List.getElem?_cons_zero,List.getElem?_cons_succ,R.bind_ok,i1,e1,e2];by_cases q:i∈(deal r v).2
    ·have p0:0<v.getD (deal r v).1 0:=by
      rcases dl.pos with z | z;·rw [z] at q;simp at q
      ·exact z
     have p1:v.getD (deal r v).1 0<2 ^ 2000:=Int.lt_of_lt_of_le (h.bd _ (Pm.getD_mem dl.lt)) (by
      have:(2:Nat) ^ m<=2 ^ 2000:=Nat.pow_le_pow_right (by decide) (by omega);have:=Int.ofNat_le.mpr this;simpa using this);have big:(v.getD (deal r v).1 0).natAbs<BIG:=Nat.lt_of_lt_of_le (h.abs _ (Pm.getD_mem dl.lt)) (Nat.pow_le_pow_right (by decide) (by omega));simp only [q,decide_true,if_true];rw [z69,if_pos ⟨p0,big⟩]
    ·simp only [q,decide_false,if_false];rfl) (by simp [cap];omega);simp only [z0h,xc,z0O,zt,c,R.bind_ok,zN,yc,List.getElem?_cons_zero,List.getElem?_cons_succ];rw [if_pos (by simp [cap])];simp [yq,Function.comp_def]
 exact key _ _ rfl by_ gl ixs
theorem eq_str{a b:Str}(ha:PyData.strOk a=true)(hb:PyData.strOk b=true)(s:Sto):dEq (.str a) (.str b) s=.ok (.bl (a==b)) s:=by simp [dEq,z7l,eqD,xG,PyData.eqv,SeqAt.shaped,PyData.canLay0,PyData.depth,ha,hb]
theorem zg8(r:Rl):PyData.strOk (nmR r)=true:=by cases r<;>decide +kernel
theorem zen(r:Rl)(s:Sto):dEq (.str (nmR r)) (.str "turn") s=.ok (.bl (decide (r=.tu))) s:=by
 rw [eq_str (zg8 r) (by decide +kernel)];congr 2;cases r<;>decide +kernel
theorem z9E(r:Rl)(xs:List D)(hl:xs.length<=4)(s:Sto):wG [.str (nmR r),.tup xs] s=.ok (.tup (mvd r xs)) s:=by
 have e1:=z5S xs 1 s;have e2:=z3Y xs 1 s;have cp:(xs.drop 1).length+(xs.take 1).length<=cap:=by simp [cap];omega
 have key:∀ d e:D,d=.str (nmR r)->e=.tup xs->wG [d,e] s=.ok (.tup (mvd r xs)) s:=fun d e hd he=>by
  have st:zx ["rule","numbers"] [d,e]=[some d,some e]:=rfl;have t:tOf (eOp dEq (zc 0) (eC (.str "turn"))) [some d,some e] s=.ok (decide (r=.tu)) s:=by simp only [z6p,wv,yc,kg,List.getElem?_cons_zero,R.bind_ok,hd,zen]
  simp only [wG,Mof,z7D,st,List.length_cons,List.length_nil,if_true,z4E,xc,zeg,t,R.bind_ok];by_cases q:r=.tu
  ·simp only [q,decide_true,if_true];subst q;rw [z2t];simp only [wv,z0t,yc,yS,wK,kg,List.getElem?_cons_zero,List.getElem?_cons_succ,R.bind_ok,he];rw [show (1:Int)=((1:Nat):Int) from rfl,e2,R.bind_ok,e1,R.bind_ok,z2J,if_pos cp];rfl
  ·simp only [q,decide_false];rw [z1r q];simp [he]
 exact key _ _ rfl rfl
theorem z3I{α β:Type}(f:α->D)(g:β->D):∀ (l:List α)(k:List β),z0A (l.map f) (k.map g)=(l.zip k).map fun p=>D.tup [f p.1,g p.2]
 | [],_=>by simp [z0A] | _::_,[]=>by simp [z0A] | a::l,b::k=>by simp [z0A,z3I f g l k]
theorem zag{α β:Type}(r:Rl)(f:α->β)(xs:List α):mvd r (xs.map f)=(mvd r xs).map f:=by unfold mvd rot;split<;>simp [List.map_take,List.map_drop]
theorem LotB.q{n m:Nat}{v:List Int}(r:Rl)(h:LotB n m v)(he:ended v=false):Qs v (deal r v).1 (yq v (deal r v)):=z9P h.nn (vI r h.toLot he)
theorem zhj{n m:Nat}{v:List Int}(r:Rl)(h:LotB n m v)(he:ended v=false):∀ q∈yq v (deal r v),0<=q/\q<2 ^ m:=fun q hq=>by
 have Q:=h.q r he;refine ⟨Q.nn q hq,?_⟩;obtain ⟨i,hi,rfl⟩:=List.mem_iff_getElem.mp hq;have hi':i<v.length:=by rw [<- Q.len];exact hi
 simp only [yq,List.getElem_map,List.getElem_range];have b:=h.bd _ (Pm.getD_mem hi');have n0:=wI h.nn i;split
 ·have:=Int.ediv_le_self (v.getD (deal r v).1 0) n0;omega
 ·omega
theorem zfI {n m:Nat} {v:List Int} (r:Rl) (h:LotB n m v) (he:ended v=false) (hm:m<=1999) (s:Sto):M_step [.str (nmR r),rD v] s=.ok (rD (stp r v)) s:=by
 have l4:=h.toLot.le4;have w:=z1A r h.toLot he s;have dv:=z2B r h he hm s;have Q:=h.q r he;have dl:=vI r h.toLot he;have ix:dIx (rD v) (.int ((deal r v).1:Nat)) s=.ok (.int (v.getD (deal r v).1 0)) s:=z6U s dl.lt;have mo:=z9E r (iL (left v (yq v (deal r v)) (deal r v).1)) (by simp [ww Q.len];omega) s;have key:∀ d e:D,e=rD v->yE [d,e] s=.ok .non s->yU [d,e] s=.ok (.tup [.int ((deal r v).1:Nat),.lst (iL (yq v (deal r v)))]) s->wG [d,.tup (iL (left v (yq v (deal r v)) (deal r v).1))] s=.ok (.tup (mvd r (iL (left v (yq v (deal r v)) (deal r v).1)))) s-> M_step [d,e] s=.ok (rD (stp r v)) s:=fun d e hd h1 h2 h3=>by
  have st:zx ["rule","lot","by","quotients","left"] [d,e]=[some d,some e,none,none,none]:=rfl;have ixe:dIx e (.int ((deal r v).1:Nat)) s=.ok (.int (v.getD (deal r v).1 0)) s:=by rw [hd];exact ix
  simp only [M_step,Mof,z9N,st,List.length_cons,List.length_nil,if_true];rw [zu (Z':=[some d,some e,none,none,none]) (s':=s) (by simp [h1])];rw [zu (Z':=[some d,some e,some (.int ((deal r v).1:Nat)),some (.lst (iL (yq v (deal r v)))),none]) (s':=s) (by simp [h2])];have ir:z8n (za (zc 1) (za (zc 3) zp)) [some d,some e,some (.int ((deal r v).1:Nat)),some (.lst (iL (yq v (deal r v)))),none] s=.ok ((v.zip (yq v (deal r v))).map fun p=>D.tup [.int p.1,.int p.2],[]) s:=by simp only [z6X,zt,zN,yc,List.getElem?_cons_zero,List.getElem?_cons_succ,R.bind_ok,hd,z2O,z3I,List.append_nil]
  have c:=comp_map (mp:=[some 1,some 2,none,none]) (fg:=vZ 2 3) (fe:=eOp z5L (zc 2) (eOp yP (zc 3) (eOp dIx (zc 0) (zc 1)))) (fun p:Int×Int=>D.tup [.int p.1,.int p.2]) (fun p:Int×Int=>D.int (p.1-p.2*v.getD (deal r v).1 0)) (fun p=>[some e,some (.int ((deal r v).1:Nat)),some (.int p.1),some (.int p.2)]) _ ir (fun p _=>by simp) (fun p hp=>by
    have hq:=zhj r h he p.2 (List.of_mem_zip hp).2;have ab:p.2.natAbs<2 ^ m:=by
     have e1:((p.2.natAbs:Nat):Int)=p.2:=Int.natAbs_of_nonneg hq.1;have:((p.2.natAbs:Nat):Int)<((2 ^ m:Nat):Int):=by rw [e1];simpa using hq.2
     omega
    have mu:=zc6 (a:=p.2) (b:=v.getD (deal r v).1 0) s ab (by omega) (h.abs _ (Pm.getD_mem dl.lt)) (by omega);simp only [wv,yc,List.getElem?_cons_zero,List.getElem?_cons_succ,R.bind_ok,ixe,mu,zeR]) (by simp [cap];omega);have el:(v.zip (yq v (deal r v))).map (fun p:Int×Int=>D.int (p.1-p.2*v.getD (deal r v).1 0))=iL (left v (yq v (deal r v)) (deal r v).1):=by
   unfold left;show _=List.map D.int _;rw [List.zip,List.map_zipWith,List.map_zipWith]
  rw [el] at c;rw [zu (Z':=[some d,some e,some (.int ((deal r v).1:Nat)),some (.lst (iL (yq v (deal r v)))),some (.tup (iL (left v (yq v (deal r v)) (deal r v).1)))]) (s':=s) (by
   rw [z7G,xA,yj,zt,c];simp only [R.bind_ok,zN,z54,List.set_cons_succ,List.set_cons_zero])];simp only [z77,xc,yj,zt,zN,yc,List.getElem?_cons_zero,List.getElem?_cons_succ,R.bind_ok,h3];rw [zag];rfl
 exact key _ _ rfl w dv mo
theorem uT{M:Mir}{f:FE}{Z:Ev}{s:Sto}{x:D}(h:f Z s=.ok x s):zd M (za f zp) Z s=M [x] s:=by simp only [yj,zt,zN,h,R.bind_ok]
theorem call2{M:Mir}{f g:FE}{Z:Ev}{s:Sto}{x y:D}(h:f Z s=.ok x s)(h2:g Z s=.ok y s):zd M (za f (za g zp)) Z s=M [x,y] s:=by simp only [yj,zt,zN,h,h2,R.bind_ok]
theorem zg3{M:Mir}{f g k:FE}{Z:Ev}{s:Sto}{x y z:D}(h:f Z s=.ok x s)(h2:g Z s=.ok y s)(h3:k Z s=.ok z s):zd M (za f (za g (za k zp))) Z s=M [x,y,z] s:=by simp only [yj,zt,zN,h,h2,h3,R.bind_ok]
theorem op2{o:D->D->Sto->R D}{f g:FE}{Z:Ev}{s:Sto}{x y:D}(h:f Z s=.ok x s)(h2:g Z s=.ok y s):eOp o f g Z s=o x y s:=by simp only [wv,h,h2,R.bind_ok]
theorem jZ {n:Nat} (hn:n<=4) (s:Sto):yk [.int ((n:Nat):Int)] s=.ok (tD (one n)) s:=by
 have st:zx ["size","places"] [.int ((n:Nat):Int)]=[some (.int ((n:Nat):Int)),none]:=rfl;simp only [yk,Mof,ja,st,List.length_cons,List.length_nil,if_true];rw [zu (Z':=[some (.int ((n:Nat):Int)),some (.lst (yJ n))]) (s':=s) (by
  have hc:(0:Int)<=n/\(n:Int)<=1000:=by omega
  simp only [qp,xA,zhq,zt,zN,yc,List.getElem?_cons_zero,R.bind_ok,if_pos hc,Int.toNat_natCast];rfl)];have inner:∀ i:Nat,zK (yB (zc 0)) [some 1,none] (we 1) yM (eIf (tOf (eOp dEq (zc 0) (zc 1))) (eC (.int 1)) (eC (.int 0))) [some (.lst (yJ n)),some (.int ((i:Nat):Int))] s=.ok (.lst (iL ((List.range n).map fun j=>if i=j then 1 else 0))) s:=fun i=>by
  rw [comp_map (fun k:Nat=>D.int (k:Int)) (fun j:Nat=>D.int (if i=j then 1 else 0)) (fun j=>[some (.int ((i:Nat):Int)),some (.int ((j:Nat):Int))]) (List.range n) (qH (by simp [yJ])) (fun a _=>by simp) (fun j _=>by
   by_cases q:i=j;·subst q;simp
   ·have:¬ ((i:Nat):Int)=j:=by omega
    simp [q,this]) (by simp [cap];omega)];simp [Function.comp_def]
 have outer:=comp_map (fi:=yB (zc 1)) (mp:=[some 1,none]) (fg:=we 1) (fe:=zd yG (za (zK (yB (zc 0)) [some 1,none] (we 1) yM (eIf (tOf (eOp dEq (zc 0) (zc 1))) (eC (.int 1)) (eC (.int 0)))) zp)) (Z:=[some (.int ((n:Nat):Int)),some (.lst (yJ n))]) (s:=s) (fun k:Nat=>D.int (k:Int)) (fun i:Nat=>rD ((List.range n).map fun j=>if i=j then 1 else 0)) (fun i=>[some (.lst (yJ n)),some (.int ((i:Nat):Int))]) (List.range n) (qH (by simp [yJ])) (fun a _=>by simp) (fun i _=>by
   rw [yj,zt,inner i];simp only [R.bind_ok,zN,z54]) (by simp [cap];omega);simp only [qi,xc];rw [yj,zt,outer];simp only [R.bind_ok,zN,z54];simp [one,Function.comp_def]
theorem kN{x d:D}{xs:List D}{s:Sto}(h:zL s x=some (xs++[d])):dIx x (.int (-1)) s=.ok d s:=by
 have e:ixN (xs++[d]).length (-1)=some xs.length:=by
  unfold ixN;rw [if_neg (by omega),if_pos (by simp;omega)];congr 1;simp;omega
 simp only [dIx,h,atI,e,Option.bind_some];simp
theorem zbf(xs:List D)(d:D):Dd.cutD (xs++[d]) none (some (-1))=xs:=by
 have e1:HT.sIx (xs++[d]).length (xs++[d]).length (some (-1))=xs.length:=by
  unfold HT.sIx;simp only;rw [if_pos (by omega)];simp;omega
 unfold Dd.cutD;rw [e1];simp [HT.sIx]
theorem z5g {n m:Nat} {v:List Int} (r:Rl) (h:LotB n m v) (he:ended v=false) (hm:m<=1999) (s:Sto):xj [.str (nmR r),rD v] s=.ok (tD (z0f r v)) s:=by
 have l4:=h.toLot.le4;have w:=z1A r h.toLot he s;have dv:=z2B r h he hm s;have Q:=h.q r he;have dl:=vI r h.toLot he;have lpl:=jZ (n:=v.length) l4.1 s;have gl:wL [rD v] s=.ok (.int v.length) s:=by simp [wL,zL]
 have mo:∀ xs:List D,xs.length<=4->wG [.str (nmR r),.tup xs] s=.ok (.tup (mvd r xs)) s:=fun xs hx=>z9E r xs hx s;have key:∀ d e:D,wL [e] s=.ok (.int v.length) s->yE [d,e] s=.ok .non s->yU [d,e] s=.ok (.tup [.int ((deal r v).1:Nat),.lst (iL (yq v (deal r v)))]) s->(∀ xs:List D,xs.length<=4->wG [d,.tup xs] s=.ok (.tup (mvd r xs)) s)-> xj [d,e] s=.ok (tD (z0f r v)) s:=fun d e h0 h1 h2 h3=>by
  have st:zx ["rule","lot","by","quotients"] [d,e]=[some d,some e,none,none]:=rfl;simp only [xj,Mof,jR,st,List.length_cons,List.length_nil,if_true];rw [zu (Z':=[some d,some e,none,none]) (s':=s) (by simp [h1])];rw [zu (Z':=[some d,some e,some (.int ((deal r v).1:Nat)),some (.lst (iL (yq v (deal r v))))]) (s':=s) (by simp [h2])];have ir:z8n (za (zd yk (za (zd wL (za (zc 1) zp)) zp)) (za (zc 3) zp)) [some d,some e,some (.int ((deal r v).1:Nat)),some (.lst (iL (yq v (deal r v))))] s=.ok (((one v.length).zip (yq v (deal r v))).map fun p=>D.tup [rD p.1,.int p.2],[]) s:=by simp only [z6X,zt,zN,yc,yj,List.getElem?_cons_zero,List.getElem?_cons_succ,R.bind_ok,h0,lpl,z2O,z3I,List.append_nil]
  have c:=comp_map (mp:=[some 0,some 2,none,none]) (fg:=vZ 2 3) (fe:=zd wG (za (zc 0) (za (eOp wZ (eOp wZ (eSl (zc 2) zI (xl (zc 1))) (z2N (za (eOp wZ (eOp dIx (zc 2) (zc 1)) (zc 3)) zp))) (eSl (zc 2) (xl (eOp wZ (zc 1) (eC (.int 1)))) zI)) zp))) (fun p:List Int×Int=>D.tup [rD p.1,.int p.2]) (fun p:List Int×Int=>rD (mvd r (xr (deal r v).1 p.1 p.2))) (fun p=>[some d,some (.int ((deal r v).1:Nat)),some (rD p.1),some (.int p.2)]) _ ir (fun p _=>by simp) (fun p hp=>by
    have hl:p.1.length=v.length:=(z6o v.length).row p.1 (List.of_mem_zip hp).1;have hb:(deal r v).1<p.1.length:=by rw [hl];exact dl.lt
    have e1:=z5S (iL p.1) (deal r v).1 s;have e2:=z3Y (iL p.1) ((deal r v).1+1) s;have e3:=z6U (r:=p.1) (j:=(deal r v).1) s hb;rw [show ((((deal r v).1+1:Nat):Int))=(((deal r v).1:Nat):Int)+1 from rfl] at e2;generalize (deal r v).1=b at *;have f1:eSl (zc 2) zI (xl (zc 1)) [some d,some (.int ((b:Nat):Int)),some (rD p.1),some (.int p.2)] s=.ok (.tup ((iL p.1).take b)) s:=by simp only [z0t,yc,yS,wK,List.getElem?_cons_zero,List.getElem?_cons_succ,R.bind_ok];exact e1
    have f2:eSl (zc 2) (xl (eOp wZ (zc 1) (eC (.int 1)))) zI [some d,some (.int ((b:Nat):Int)),some (rD p.1),some (.int p.2)] s=.ok (.tup ((iL p.1).drop (b+1))) s:=by simp only [z0t,wv,kg,z6S,yc,yS,wK,List.getElem?_cons_zero,List.getElem?_cons_succ,R.bind_ok];exact e2
    have f3:z2N (za (eOp wZ (eOp dIx (zc 2) (zc 1)) (zc 3)) zp) [some d,some (.int ((b:Nat):Int)),some (rD p.1),some (.int p.2)] s=.ok (.tup [.int (p.1.getD b 0+p.2)]) s:=by
     simp only [z0O,zt,zN,wv,yc,List.getElem?_cons_zero,List.getElem?_cons_succ,R.bind_ok,e3,z6S];rw [if_pos (by simp [cap])]
    have f4:eOp wZ (eOp wZ (eSl (zc 2) zI (xl (zc 1))) (z2N (za (eOp wZ (eOp dIx (zc 2) (zc 1)) (zc 3)) zp))) (eSl (zc 2) (xl (eOp wZ (zc 1) (eC (.int 1)))) zI) [some d,some (.int ((b:Nat):Int)),some (rD p.1),some (.int p.2)] s=.ok (.tup (iL (xr b p.1 p.2))) s:=by
     rw [wv,wv,f1,R.bind_ok,f3,R.bind_ok,z2J,if_pos (by simp [cap];omega),R.bind_ok,f2,R.bind_ok,z2J,if_pos (by simp [cap];omega)];simp [xr,List.map_take,List.map_drop]
    rw [call2 (x:=d) (by simp) f4,h3 _ (by simp [xr];omega),zag]) (by simp [cap,one];omega);simp only [je,xc];rw [yj,zt,c];simp only [R.bind_ok,zN,z54];unfold z0f z5B;rw [xV];simp only [tD];rw [List.map_zipWith,List.zip,List.map_zipWith]
 exact key _ _ gl w dv mo
theorem _root_.Pg.LotB.step{n m:Nat}{v:List Int}(r:Rl)(h:LotB n m v)(he:ended v=false):LotB n m (stp r v):=by
 refine ⟨h.toLot.step r he,fun x hx=>?_⟩;have:=zgK (B:=2 ^ m-1) r h.toLot he (fun y hy=>by have:=h.bd y hy;omega) x hx;omega
theorem zaW {n m:Nat} {r:Rl} {d e:D} (hd:d=.str (nmR r)) (hm:m<=1999) (s:Sto) {c:List Int} {ls:List (List Int)} (Rn:Run r c ls):∀ (pre:List (List Int)),LotB n m c->pre.length+ls.length<=50000-> ve (z48 (tOf (zd zV (za (eOp dIx (zc 2) (vt (eC (.int 1)))) zp)))) z3l (ls.length+1) [some d,some e,some (.loc s.length)] (s++[(pre++[c]).map rD])=.ok (.nx [some d,some e,some (.loc s.length)]) (s++[(pre++ls).map rD]):=by
 have tst:∀ (pre:List (List Int)) (c:List Int),LotB n m c->z48 (tOf (zd zV (za (eOp dIx (zc 2) (vt (eC (.int 1)))) zp))) [some d,some e,some (.loc s.length)] (s++[(pre++[c]).map rD])=.ok (!ended c) (s++[(pre++[c]).map rD]):=fun pre c h=>by
  have ix:=kN (x:=.loc s.length) (d:=rD c) (xs:=pre.map rD) (s:=s++[(pre++[c]).map rD]) (by simp [zL]);have hE:=jk h.toLot (s++[(pre++[c]).map rD]);generalize (s++[(pre++[c]).map rD])=S at *;simp only [zaw,z6p,yj,zt,zN,wv,yc,kX,kg,List.getElem?_cons_zero,List.getElem?_cons_succ,R.bind_ok];rw [ix];simp only [R.bind_ok];rw [hE];simp only [R.bind_ok]
 induction Rn with
 | @done v hend=>
  intro pre h hl;rw [ve,tst pre v h,hend];rfl | @step v ls hend Rn ih=>
  intro pre h hl;have ih:=ih (pre++[v]) (h.step r hend) (by simp at hl ⊢;omega);rw [List.length_cons,ve,tst pre v h,hend,R.bind_ok,if_pos (by rfl)];have stp':=zfI r h hend hm (s++[(pre++[v]).map rD]);rw [<- hd] at stp';have ix:=kN (x:=.loc s.length) (d:=rD v) (xs:=pre.map rD) (s:=s++[(pre++[v]).map rD]) (by simp [zL]);have body:z3l [some d,some e,some (.loc s.length)] (s++[(pre++[v]).map rD])=.ok (.nx [some d,some e,some (.loc s.length)]) (s++[(pre++[v]++[stp r v]).map rD]):=by
   have gt:(s++[(pre++[v]).map rD])[s.length]? = some ((pre++[v]).map rD):=by simp
   have st2:(s++[(pre++[v]).map rD]).set s.length ((pre++[v]).map rD++[rD (stp r v)])=s++[(pre++[v]++[stp r v]).map rD]:=by rw [List.set_append_right _ _ (by omega)];simp
   have fl:(rD (stp r v)).flat=true:=ub _;have ln:((pre++[v]).map rD).length<cap:=by simp [cap] at hl ⊢;omega
   generalize (s++[(pre++[v]).map rD])=S at *;simp only [z3l,z1M,zak,yj,zt,zN,wv,yc,kX,kg,List.getElem?_cons_zero,List.getElem?_cons_succ,R.bind_ok];rw [ix];simp only [R.bind_ok];rw [stp'];simp only [R.bind_ok];rw [gt];simp only;rw [if_pos ⟨fl,ln⟩,st2];rfl
  rw [body,R.bind_ok];simp only;rw [ih];simp
theorem zho {n m:Nat} {v:List Int} {ls:List (List Int)} (r:Rl) (h:LotB n m v) (Rn:Run r v ls) (hm:m<=1999) (hl:ls.length<=50000) (s:Sto):M_run [.str (nmR r),rD v] s=.ok (.loc s.length) (s++[ls.map rD]):=by
 have w:=z4t r h.toLot s;have fl:(rD v).flat=true:=ub _;have key:∀ d e:D,d=.str (nmR r)->e=rD v->M_run [d,e] s=.ok (.loc s.length) (s++[ls.map rD]):=fun d e hd he=>by
  have st:zx ["rule","lot","lots"] [d,e]=[some d,some e,none]:=rfl;have w':zB [d,e] s=.ok .non s:=by rw [hd,he];exact w
  have fe:e.flat=true:=by rw [he];exact fl
  simp only [M_run,Mof,zcl,st,List.length_cons,List.length_nil,if_true];rw [zu (Z':=[some d,some e,none]) (s':=s) (by simp [w'])];rw [zu (Z':=[some d,some e,some (.loc s.length)]) (s':=s++[[e]]) (by
   simp only [z9X,xA,zab,zt,zN,yc,List.getElem?_cons_succ,List.getElem?_cons_zero,R.bind_ok];rw [if_pos ⟨by simp [cap],by simp [D.flat.flats,fe]⟩];rfl)];have lp:=zaW (e:=e) hd hm s Rn [] h (by simpa using hl);rw [List.nil_append,List.nil_append] at lp;rw [show ([v]:List (List Int)).map rD=[e] from by rw [he];rfl] at lp;rw [zu (Z':=[some d,some e,some (.loc s.length)]) (s':=s++[ls.map rD]) (by rw [z9A];exact z7k lp (by simp))];simp
 exact key _ _ rfl rfl
theorem zau{n m:Nat}{r:Rl}{v:List Int}{ls:List (List Int)}(h:LotB n m v)(Rn:Run r v ls):∀ a∈ls.dropLast,LotB n m a/\ended a=false:=by induction Rn with
 | done e=>simp | step e R2 ih=>
  intro a ha;rw [List.dropLast_cons_of_ne_nil R2.ne] at ha;rcases List.mem_cons.mp ha with rfl | ha;·exact ⟨h,e⟩
  ·exact ih (h.step r e) a ha
theorem zdl{n m:Nat}{v:List Int}{ls:List (List Int)}(r:Rl)(h:LotB n m v)(Rn:Run r v ls)(hm:m<=1999)(hl:ls.length<=50000){f g:FE}{Z:Ev}{s:Sto}(hf:f Z s=.ok (.str (nmR r)) s)(hg:g Z s=.ok (rD v) s):z19 (zd M_run (za f (za g zp))) Z s=.ok (.lst (ls.map rD)) s:=by rw [z38,call2 hf hg,zho r h Rn hm hl s,z40]
theorem z5U {n m:Nat} {v:List Int} {ls:List (List Int)} (r:Rl) (h:LotB n m v) (Rn:Run r v ls) (hm:m<=1999) (hl:ls.length<=50000) (s:Sto):xD [.str (nmR r),rD v] s=.ok (.lst ((zM r ls).map tD)) s:=by
 have fz:=fun (f g:FE) (Z:Ev) (hf:f Z s=.ok (.str (nmR r)) s) (hg:g Z s=.ok (rD v) s)=>zdl r h Rn hm hl hf hg;have key:∀ d e:D,d=.str (nmR r)->e=rD v->xD [d,e] s=.ok (.lst ((zM r ls).map tD)) s:=fun d e hd he=>by
  have st:zx ["rule","lot"] [d,e]=[some d,some e]:=rfl;have f1:=fz (zc 0) (zc 1) [some d,some e] (by simp [hd]) (by simp [he]);obtain ⟨z,hz⟩:∃ z,ls=ls.dropLast++[z]:=⟨ls.getLast Rn.ne,(List.dropLast_concat_getLast Rn.ne).symm⟩;have sl:eSl (z19 (zd M_run (za (zc 0) (za (zc 1) zp)))) zI (xl (vt (eC (.int 1)))) [some d,some e] s=.ok (.lst (ls.dropLast.map rD)) s:=by
   rw [z0t,f1];simp only [R.bind_ok,yS,wK,kX,kg,dSl,Dd.listOf];have c:=zbf (ls.dropLast.map rD) (rD z);rw [show ls.dropLast.map rD++[rD z]=ls.map rD from by rw [show [rD z]=[z].map rD from rfl,<- List.map_append,<- hz]] at c;rw [c]
  have ends:=zau h Rn;have c:=comp_map (mp:=[some 0,none]) (fg:=we 1) (fe:=zd xj (za (zc 0) (za (zc 1) zp))) rD (fun a=>tD (z0f r a)) (fun a=>[some d,some (rD a)]) ls.dropLast (qH sl) (fun a _=>by simp) (fun a ha=>by
   have:=z5g r (ends a ha).1 (ends a ha).2 hm s;rw [call2 (x:=d) (y:=rD a) (by simp) (by simp),hd];exact this) (by simp [cap];omega);simp only [xD,Mof,z0b,st,List.length_cons,List.length_nil,if_true,jS,xc];rw [c];simp [zM,Function.comp_def]
 exact key _ _ rfl rfl
theorem zhO {n m : Nat} {B : Int} {P : Tb} {c x : List Int} (I : PI n B P c x) (hB : B < 2 ^ m) : Bd m P := fun row hr y hy => by
  have := I.nn row hr y hy;have e1 : ((y.natAbs : Nat) : Int) = y := Int.natAbs_of_nonneg this.1
  have : ((y.natAbs : Nat) : Int) < ((2 ^ m : Nat) : Int) := by rw [e1]; have e2 : ((2 ^ m : Nat) : Int) = 2 ^ m := by simp
                                                                rw [e2]; omega
  omega
theorem ze5{n m:Nat}{v:List Int}(r:Rl)(h:LotB n m v)(he:ended v=false):Bd m (z0f r v):=fun row hr y hy=>by
 have:=zdX (B:=2 ^ m-1) r h.toLot he (fun y hy=>by have:=h.bd y hy;omega) row hr y hy;have e1:((y.natAbs:Nat):Int)=y:=Int.natAbs_of_nonneg this.1;have e2:((2 ^ m:Nat):Int)=2 ^ m:=by simp
 have:((y.natAbs:Nat):Int)<((2 ^ m:Nat):Int):=by rw [e1,e2];omega
 omega
def wU:Tb->List Tb->List Tb
 | P,[]=>[P] | P,T::ts=>P::wU (z0d P T) ts
theorem kq:∀ (ts:List Tb)(P:Tb),(wU P ts).getLast? = some (ts.foldl z0d P)
 | [],P=>rfl | T::ts,P=>by rw [wU,List.getLast?_cons,kq ts];rfl
theorem z4c:∀ (ts:List Tb)(P:Tb),(wU P ts).length=ts.length+1
 | [],P=>rfl | T::ts,P=>by rw [wU,List.length_cons,z4c ts];rfl
theorem zcr(T:Tb):(tD T).flat=true:=by
 show D.flat.flats (T.map rD)=true;induction T with
 | nil=>rfl | cons r T ih=>simp only [List.map_cons,D.flat.flats,ih,Bool.and_true];exact ub r
theorem z9i {n m:Nat} {r:Rl} {x:List Int} {B:Int} (d t:D) (hn:Sz n) (hB:B<2 ^ m) (hm:m<=1999) (hx:∀ y∈x,y<=B) (s:Sto) {c:List Int} {ls:List (List Int)} (Rn:Run r c ls):∀ (P:Tb) (pre:List Tb) (all:List D) (z:Option D),LotB n m c->PI n B P c x->pre.length+ls.length<=50000-> ∃ z',wE [] all (fun d Z s=>(we 3 d Z s).bind fun Z' s'=>yH Z' s') ((zM r ls).map tD) [some d,some t,some (.loc s.length),z] (s++[(pre++[P]).map tD])=.ok (.nx [some d,some t,some (.loc s.length),z']) (s++[(pre++wU P (zM r ls)).map tD]):=by induction Rn with
 | done he=>intro P pre all z h I hl;exact ⟨z,by simp [zM,wE,okG,wU]⟩ | @step v ls he R2 ih=>
  intro P pre all z h I hl;have tb:=z0w r h.toLot he;have mm:=z4r (s++[(pre++[P]).map tD]) hn I.tab tb (zhO I hB) (ze5 r h he) (by omega) (by omega);obtain ⟨z',ih⟩:=ih (z0d P (z0f r v)) (pre++[P]) all (some (tD (z0f r v))) (h.step r he) (I.step r hx h.toLot he) (by simp at hl ⊢;omega);refine ⟨z',?_⟩;have ix:=kN (x:=.loc s.length) (d:=tD P) (xs:=pre.map tD) (s:=s++[(pre++[P]).map tD]) (by simp [zL]);have body:yH [some d,some t,some (.loc s.length),some (tD (z0f r v))] (s++[(pre++[P]).map tD])=.ok (.nx [some d,some t,some (.loc s.length),some (tD (z0f r v))]) (s++[(pre++[P]++[z0d P (z0f r v)]).map tD]):=by
   have gt:(s++[(pre++[P]).map tD])[s.length]? = some ((pre++[P]).map tD):=by simp
   have st2:(s++[(pre++[P]).map tD]).set s.length ((pre++[P]).map tD++[tD (z0d P (z0f r v))])=s++[(pre++[P]++[z0d P (z0f r v)]).map tD]:=by rw [List.set_append_right _ _ (by omega)];simp
   have fl:=zcr (z0d P (z0f r v));have ln:((pre++[P]).map tD).length<cap:=by simp [cap] at hl ⊢;omega
   generalize (s++[(pre++[P]).map tD])=S at *;have ee:eOp dIx (zc 2) (vt (eC (.int 1))) [some d,some t,some (.loc s.length),some (tD (z0f r v))] S=.ok (tD P) S:=by rw [op2 (x:=.loc s.length) (y:=.int (-1)) (by simp) (by simp)];exact ix
   have cc:zd xg (za (eOp dIx (zc 2) (vt (eC (.int 1)))) (za (zc 3) zp)) [some d,some t,some (.loc s.length),some (tD (z0f r v))] S=.ok (tD (z0d P (z0f r v))) S:=by rw [call2 ee (y:=tD (z0f r v)) (by simp)];exact mm
   rw [yH,z1M,zak];simp only [yc,List.getElem?_cons_zero,List.getElem?_cons_succ,R.bind_ok];rw [cc];simp only [R.bind_ok];rw [gt];simp only;rw [if_pos ⟨fl,ln⟩,st2];rfl
  rw [R2.tabs_cons,List.map_cons,wE,if_pos (by intro p hp;simp at hp),z0i,R.bind_ok];simp only [List.set_cons_succ,List.set_cons_zero];rw [body,R.bind_ok];simp only;rw [ih,wU];simp
theorem z9D {n m:Nat} {v:List Int} {ls:List (List Int)} (r:Rl) (h:LotB n m v) (Rn:Run r v ls) (hm:m<=1999) (hl:ls.length<=50000) (s:Sto):zW [.int n,.lst ((zM r ls).map tD)] s=.ok (.loc s.length) (s++[(wU (one n) (zM r ls)).map tD]):=by
 have lpl:=jZ (n:=n) (by have:=h.sz;omega) s;have key:∀ d t:D,d=.int n->t=.lst ((zM r ls).map tD)->zW [d,t] s=.ok (.loc s.length) (s++[(wU (one n) (zM r ls)).map tD]):=fun d t hd ht=>by
  have st:zx ["size","tables","products","table"] [d,t]=[some d,some t,none,none]:=rfl;simp only [zW,Mof,vi,st,List.length_cons,List.length_nil,if_true];rw [zu (Z':=[some d,some t,some (.loc s.length),none]) (s':=s++[[tD (one n)]]) (by
   have c2:zd yk (za (zc 0) zp) [some d,some t,none,none] s=.ok (tD (one n)) s:=by rw [uT (x:=d) (by simp),hd];exact lpl
   have fl:=zcr (one n);rw [wS,xA,zab,zt,c2];generalize tD (one n)=o at *;simp only [R.bind_ok,zN];rw [if_pos ⟨by simp [cap],by simp [D.flat.flats,fl]⟩];rfl)];obtain ⟨z',lp⟩:=z9i d t h.sz (B:=2 ^ m-1) (m:=m) (x:=v) (by omega) hm (fun y hy=>by have:=h.bd y hy;omega) s Rn (one n) [] ((zM r ls).map tD) none h (PI.start h.toLot fun y hy=>by have:=h.bd y hy;omega) (by simpa using hl);rw [zu (Z':=[some d,some t,some (.loc s.length),z']) (s':=s++[(wU (one n) (zM r ls)).map tD]) (by
   rw [wP,jg,qH (xs:=(zM r ls).map tD) (by simp [ht]),R.bind_ok];exact lp)];simp
 exact key _ _ rfl rfl
theorem z3S {n m:Nat} {v:List Int} {ls:List (List Int)} (r:Rl) (h:LotB n m v) (Rn:Run r v ls) (hm:m<=1999) (hl:ls.length<=50000) (s:Sto):ym [.str (nmR r),rD v] s=.ok (.loc s.length) (s++[(wU (one n) (zM r ls)).map tD]):=by
 have tb:=z5U r h Rn hm hl s;have gl:wL [rD v] s=.ok (.int n) s:=by simp [wL,zL,h.len]
 have gr:=z9D r h Rn hm hl s;have key:∀ d e t:D,zW [.int n,t] s=.ok (.loc s.length) (s++[(wU (one n) (zM r ls)).map tD])->xD [d,e] s=.ok t s->wL [e] s=.ok (.int n) s->ym [d,e] s=.ok (.loc s.length) (s++[(wU (one n) (zM r ls)).map tD]):=fun d e t ht h1 h2=>by
  have st:zx ["rule","lot","tables"] [d,e]=[some d,some e,none]:=rfl;simp only [ym,Mof,qZ,st,List.length_cons,List.length_nil,if_true];rw [zu (Z':=[some d,some e,some t]) (s':=s) (by simp [h1])];have c1:zd wL (za (zc 1) zp) [some d,some e,some t] s=.ok (.int n) s:=by rw [uT (x:=e) (by simp)];exact h2
  rw [qB,xc,call2 c1 (y:=t) (by simp),ht];rfl
 exact key _ _ _ gr tb gl
theorem big_of{i:Int}(h0:0<=i)(h:i<2 ^ 2000):i.natAbs<BIG:=by
 have e:(i.natAbs:Int)=i:=Int.natAbs_of_nonneg h0;have k:(2:Int) ^ 2000<=((BIG:Nat):Int):=by decide +kernel
 exact Int.ofNat_lt.mp (Int.lt_of_lt_of_le (by rw [e];exact h) k)
theorem z1Q{a b:Int}(s:Sto)(ha:0<=a)(ha':a<2 ^ 2000)(hb:0<=b)(hb':b<2 ^ 2000):yP (.int a) (.int b) s=.ok (.int (a*b)) s:=by rw [qf,if_pos ⟨big_of ha ha',big_of hb hb'⟩]
theorem zdB{a b:Int}(s:Sto)(hb:0<b)(hb':b<2 ^ 2000):z1i (.int a) (.int b) s=.ok (.int (a / b)) s:=by rw [z69,if_pos ⟨hb,big_of (by omega) hb'⟩]
theorem zfh(ns:List Int)(k:Nat)(s:Sto):∃ c,yT [.scr (iL ns),.int k] s=.ok (.int c) s:=by
 by_cases h:k<ns.length
 ·have hk:(k:Int)<ns.length:=by omega
  refine ⟨ns[k],?_⟩;have e:ixN (iL ns).length (k:Int)=some k:=by
   unfold ixN;rw [if_pos (by omega),if_pos (by simpa using hk)];simp
  have ix:dIx (.scr (iL ns)) (.int k) s=.ok (.int ns[k]) s:=by
   simp only [dIx,zL,atI,e,Option.bind_some];simp [h]
  simp only [iL] at ix;simp [yT,Mof,vg,zx,wL,zL,hk,ix]
 ·have hk:¬ (k:Int)<ns.length:=by omega
  exact ⟨0,by simp [yT,Mof,vg,zx,wL,zL,hk]⟩
def Pot(s:Sto)(l:Nat):Prop:=∃ p:Int,s[l]? = some [.int p]
theorem Pot.lt{s:Sto}{l:Nat}(h:Pot s l):l<s.length:=by
 obtain ⟨p,e⟩:=h;exact (List.getElem?_eq_some_iff.mp e).1
theorem Pot.app{s:Sto}{l:Nat}(h:Pot s l)(t:Sto):Pot (s++t) l:=by
 obtain ⟨p,e⟩:=h;exact ⟨p,by rw [List.getElem?_append_left (List.getElem?_eq_some_iff.mp e).1];exact e⟩
structure vc(s s':Sto)(l:Nat):Prop where
 pot:Pot s' l
 len:s'.length=s.length
 oth:∀ m,m≠l->s'[m]? = s[m]?
theorem zct{s:Sto}{l:Nat}{far:Int}(h:Pot s l)(h0:0<far)(h1:far<2 ^ 2000):∃ r s',zm [.loc l,.int far] s=.ok (.int r) s'/\0<=r/\r<far/\vc s s' l:=by
 obtain ⟨p,e⟩:=h;have hl:l<s.length:=(List.getElem?_eq_some_iff.mp e).1;refine ⟨p % far,s.set l [.int (p / far)],?_,Int.emod_nonneg _ (by omega),Int.emod_lt_of_pos _ h0,⟨p / far,by rw [List.getElem?_set_self hl]⟩,by simp,fun m hm=>List.getElem?_set_ne (Ne.symm hm)⟩;have ix:dIx (.loc l) (.int 0) s=.ok (.int p) s:=by simp [dIx,zL,e,atI,ixN]
 simp [zm,Mof,z0a,zx,ix,z4B s h0,zdB s h0 h1,e,ixN,z0y,List.replicate]
theorem zfr(s:Sto):kh (.int 10) (.int 18) s=.ok (.int 1000000000000000000) s:=by rw [z50];rfl
theorem zgs(s:Sto):kh (.int 10) (.int 12) s=.ok (.int 1000000000000) s:=by rw [z50];rfl
theorem zh7(s:Sto):kh (.int 10) (.int 15) s=.ok (.int 1000000000000000) s:=by rw [z50];rfl
theorem zgq(s:Sto):kh (.int 10) (.int 39) s=.ok (.int 1000000000000000000000000000000000000000) s:=by rw [z50];rfl
theorem zjj(s:Sto):kh (.int 10) (.int 6) s=.ok (.int 1000000) s:=by rw [z50];rfl
theorem pow_step{m r j:Nat}(h:m<2147483648 ^ j)(hr:r<2147483587):m*2147483587+r<2147483648 ^ (j+1):=by
 rw [Nat.pow_succ];generalize 2147483648 ^ j=B at h;omega
theorem zgj{m j:Nat}(h:m<2147483648 ^ j)(hj:j<=64):((m:Nat):Int)<2 ^ 2000:=by
 have h1:2147483648 ^ j<=2147483648 ^ 64:=Nat.pow_le_pow_right (by decide) hj;have h2:2147483648 ^ 64<=2 ^ 2000:=by decide +kernel
 have h3:m<2 ^ 2000:=Nat.lt_of_lt_of_le h (Nat.le_trans h1 h2);have h4:((2 ^ 2000:Nat):Int)=2 ^ 2000:=by decide +kernel
 rw [<- h4];exact Int.ofNat_lt.mpr h3
theorem zi2 (c:Int) (s:Sto):∃ p:Int,wW [.int c] s=.ok (.loc s.length) (s++[[.int p]]):=by
 by_cases h:1000000000000000000<=c;·exact ⟨c-1000000000000000000,by simp [wW,Mof,js,zx,zfr,h,D.flat.flats,z0y,cap,List.replicate]⟩
 ·have lp:∃ Z' s',z06 [some (.int c),some (.int 0),none,none] s=.ok (.nx Z') s'/\∃ (m:Nat) (a b:Option D),Z'=[some (.int c),some (.int m),a,b]/\s'=s:=by
   obtain ⟨Z',s',e,m,a,b,e1,e2,_⟩:=z0F (all:=yJ 64) (body:=fun d Z s=>(we 2 d Z s).bind fun Z' s'=>(zZ z07 (zZ z00 z09)) Z' s') (fun j Z s'=>∃ (m:Nat) (a b:Option D),Z=[some (.int c),some (.int m),a,b]/\s'=s/\m<2147483648 ^ j) (yJ 64) 0 (fun j x hx Z s' hi=>by
    obtain ⟨m,a,b,rfl,rfl,hm⟩:=hi;obtain ⟨hj,rfl⟩:=z5b hx;rw [Nat.zero_add] at hm;have r0:=Int.emod_nonneg c (show (2147483629:Int)≠0 by decide);have r1:=Int.emod_lt_of_pos c (show (0:Int)<2147483629 by decide);have a1:z8z (.int c) (.int 2147483629) s'=.ok (.int (c % 2147483629)) s':=z4B s' (by decide);have a2:yP (.int 7919) (.int j) s'=.ok (.int (7919*j)) s':=z1Q s' (by decide) (by decide +kernel) (by omega) (by omega);have a3:yP (.int (c % 2147483629+7919*j+1)) (.int 48271) s'=.ok (.int ((c % 2147483629+7919*j+1)*48271)) s':=z1Q s' (by omega) (by omega) (by decide) (by decide +kernel);generalize hx1:(c % 2147483629+7919*(j:Int)+1)*48271 % 2147483647=x1;have b0:0<=x1:=by rw [<- hx1];exact Int.emod_nonneg _ (by decide)
    have b1:x1<2147483647:=by rw [<- hx1];exact Int.emod_lt_of_pos _ (by decide)
    have a4:z8z (.int ((c % 2147483629+7919*j+1)*48271)) (.int 2147483647) s'=.ok (.int x1) s':=by rw [<- hx1];exact z4B s' (by decide)
    have a5:yP (.int x1) (.int x1) s'=.ok (.int (x1*x1)) s':=z1Q s' b0 (by omega) b0 (by omega);have a6:yP (.int 69621) (.int j) s'=.ok (.int (69621*j)) s':=z1Q s' (by decide) (by decide +kernel) (by omega) (by omega);generalize hx2:(x1*x1+69621*(j:Int)+7) % 2147483587=x2;have c0:0<=x2:=by rw [<- hx2];exact Int.emod_nonneg _ (by decide)
    have c1:x2<2147483587:=by rw [<- hx2];exact Int.emod_lt_of_pos _ (by decide)
    have a7:z8z (.int (x1*x1+69621*j+7)) (.int 2147483587) s'=.ok (.int x2) s':=by rw [<- hx2];exact z4B s' (by decide)
    have a8:yP (.int m) (.int 2147483587) s'=.ok (.int (m*2147483587)) s':=z1Q s' (by omega) (zgj hm (by omega)) (by decide) (by decide +kernel);obtain ⟨y,rfl⟩:=Int.eq_ofNat_of_zero_le c0;refine ⟨[some (.int c),some (.int ((m*2147483587+y:Nat):Int)),some (.int j),some (.int y)],s',?_,m*2147483587+y,_,_,rfl,rfl,?_⟩;·simp [a1,a2,a3,a4,a5,a6,a7,a8]
    ·rw [Nat.zero_add];exact pow_step hm (by omega)) [some (.int c),some (.int 0),none,none] s ⟨0,none,none,rfl,rfl,by decide⟩;exact ⟨Z',s',by simpa using e,m,a,b,e1,e2⟩
  obtain ⟨Z',s',e,m,a,b,rfl,rfl⟩:=lp;refine ⟨m,?_⟩;have st:zx ["_law_cell","_law_number","_law_j","_law_more"] [.int c]=[some (.int c),none,none,none]:=rfl;simp only [wW,Mof,js,st,List.length_cons,List.length_nil,if_true];rw [zu (Z':=[some (.int c),none,none,none]) (s':=s') (by simp [zfr,h])];rw [zu (Z':=[some (.int c),some (.int 0),none,none]) (s':=s') (by simp)];rw [zu e];simp [D.flat.flats,z0y,cap]
structure LS(s0:Sto)(l:Nat)(s:Sto)(xs:List Int):Prop where
 pot:Pot s l
 len:s.length=s0.length+1
 at_:s[s0.length]? = some (iL xs)
 oth:∀ m,m≠l->m<s0.length->s[m]? = s0[m]?
theorem LS.drawn{s0 s s':Sto}{l:Nat}{xs:List Int}(h:LS s0 l s xs)(hl:l<s0.length)(d:vc s s' l):LS s0 l s' xs:= ⟨d.pot,by rw [d.len,h.len],by rw [d.oth _ (by omega)];exact h.at_,fun m h1 h2=>by rw [d.oth m h1];exact h.oth m h1 h2⟩
theorem LS.set{s0 s:Sto}{l:Nat}{xs:List Int}(h:LS s0 l s xs)(hl:l<s0.length)(ys:List Int):LS s0 l (s.set s0.length (iL ys)) ys:=by
 refine ⟨?_,by simp [h.len],List.getElem?_set_self (by rw [h.len];omega),fun m h1 h2=>?_⟩
 ·obtain ⟨p,e⟩:=h.pot;exact ⟨p,by rw [List.getElem?_set_ne (by omega)];exact e⟩
 ·rw [List.getElem?_set_ne (by omega)];exact h.oth m h1 h2
theorem LS.fin{s0 s:Sto}{l:Nat}{xs:List Int}(h:LS s0 l s xs)(hl:l<s0.length):vc s0 (s.take s0.length) l:=by
 obtain ⟨p,e⟩:=h.pot;refine ⟨⟨p,by rw [List.getElem?_take_of_lt hl];exact e⟩,by simp [h.len],fun m h1=>?_⟩;by_cases h2:m<s0.length;·rw [List.getElem?_take_of_lt h2];exact h.oth m h1 h2
 ·rw [List.getElem?_eq_none (by simp [h.len];omega),List.getElem?_eq_none (by omega)]
theorem LS.start{s0 s:Sto}{l:Nat}(d:vc s0 s l)(h:Pot s0 l)(xs:List Int):LS s0 l (s++[iL xs]) xs:= ⟨d.pot.app _,by simp [d.len],by rw [<- d.len];simp,fun m h1 h2=>by rw [List.getElem?_append_left (by rw [d.len];exact h2)];exact d.oth m h1⟩
theorem vc.trans{s s1 s2:Sto}{l:Nat}(a:vc s s1 l)(b:vc s1 s2 l):vc s s2 l:=⟨b.pot,by rw [b.len,a.len],fun m h=>by rw [b.oth m h,a.oth m h]⟩
theorem qr{s:Sto}{l:Nat}{far:Int}{f g:FE}{Z:Ev}(h:Pot s l)(h0:0<far)(h1:far<2 ^ 2000)(hf:f Z s=.ok (.loc l) s)(hg:g Z s=.ok (.int far) s):∃ r s',zd zm (za f (za g zp)) Z s=.ok (.int r) s'/\0<=r/\r<far/\vc s s' l:=by
 obtain ⟨r,s',e,a,b,c⟩:=zct h h0 h1;exact ⟨r,s',by rw [call2 hf hg,e],a,b,c⟩
theorem zcc{xs:List D}{i:Int}{d:D}{s:Sto}(h0:0<=i)(h:xs[i.toNat]? = some d):dIx (.lst xs) (.int i) s=.ok d s:=by
 have hj:i.toNat<xs.length:=(List.getElem?_eq_some_iff.mp h).1;have e:ixN xs.length i=some i.toNat:=by
  unfold ixN;rw [if_pos h0,if_pos (by omega)]
 simp only [dIx,zL,atI,e,Option.bind_some,h]
theorem zf7{xs:List D}{l:Nat}{i:Int}{d:D}{s:Sto}(hl:s[l]? = some xs)(h0:0<=i)(h:xs[i.toNat]? = some d):dIx (.loc l) (.int i) s=.ok d s:=by
 have hj:i.toNat<xs.length:=(List.getElem?_eq_some_iff.mp h).1;have e:ixN xs.length i=some i.toNat:=by
  unfold ixN;rw [if_pos h0,if_pos (by omega)]
 simp only [dIx,zL,hl,atI,e,Option.bind_some,h]
theorem z5F{fa fb fc:FE}{Z:Ev}{s s1 s2:Sto}{L:Nat}{xs:List Int}{i x:Int}(hc:fc Z s=.ok (.int x) s1)(ha:fa Z s1=.ok (.loc L) s1)(hb:fb Z s1=.ok (.int i) s2)(at_:s2[L]? = some (iL xs))(h0:0<=i)(h1:i<xs.length):z4O fa fb fc Z s=.ok (.nx Z) (s2.set L (iL (xs.set i.toNat x))):=by
 have e:ixN (iL xs).length i=some i.toNat:=by
  unfold ixN;rw [if_pos h0,if_pos (by simp;omega)]
 rw [zee,hc,R.bind_ok,ha,R.bind_ok,hb,R.bind_ok];simp only [at_,e,z0y,if_true,iL,List.map_set]
theorem zas{xs:List Int}{i:Nat}{x B:Int}(h:∀ y∈xs,0<=y/\y<=B)(hx:0<=x/\x<=B):∀ y∈xs.set i x,0<=y/\y<=B:=fun y hy=>by
 rcases List.mem_or_eq_of_mem_set hy with h2 | h2;·exact h y h2
 ·rw [h2];exact hx
theorem z3Q{x:Int}(h:x<=1000):x<2 ^ 2000:=Int.lt_of_le_of_lt h (by decide +kernel)
theorem zbg{v:List Int}{n:Nat}{s:Sto}:z7P n (.ok (rD v) s)=.ok (rD v) (s.take n):=z84 (ub v)
theorem zdF{ns:List Int}{L:Nat}{s:Sto}{f:FE}{Z:Ev}(h:ns≠[])(e:s[L]? = some (iL ns))(hf:f Z s=.ok (.loc L) s):tOf (eOp dEq (zd uC (za f zp)) (eC (.int 0))) Z s=.ok (decide (maxL ns=0)) s:=by
 rw [z6p,wv,uT hf,zbc h e];simp
theorem z8r{ns:List Int}(h:ns≠[])(hn:∀ y∈ns,0<=y)(hm:maxL ns≠0):∃ x∈ns,0<x:=⟨maxL ns,maxL_mem h,by have:=hn _ (maxL_mem h);omega⟩
instance (A:Tb):Decidable (zhe A):=by unfold zhe;infer_instance
def okD:Nat->D->Bool
 | _,.non=>true | _,.bl _=>true | _,.int _=>true | _,.str x=>PyData.strOk x | k+1,.tup xs=>xs.all (okD k) | k+1,.lst xs=>xs.all (okD k) | _,_=>false
theorem zhX{k:Nat}:∀ (xs:List D),(∀ x∈xs,PyData.canLay0 (xG x)=true/\PyData.depth (xG x)<=2*k+3/\PyData.eqv (xG x) (xG x)=true)->PyData.canLayAll0 (toPys xs)=true/\PyData.depthAll (toPys xs)<=2*k+4/\PyData.eqvAll (toPys xs) (toPys xs)=true
 | [],_=>⟨rfl,by simp [toPys,PyData.depthAll],by simp [toPys,PyData.eqvAll]⟩ | x::xs,h=>by
  have h1:=h x (by simp);have h2:=zhX xs fun y hy=>h y (by simp [hy]);refine ⟨by simp [toPys,PyData.canLayAll0,h1.1,h2.1],?_,by simp [toPys,PyData.eqvAll,h1.2.2,h2.2.2]⟩;simp only [toPys,PyData.depthAll];omega
theorem zcm:∀ (k:Nat)(d:D),okD k d=true->PyData.canLay0 (xG d)=true/\PyData.depth (xG d)<=2*k+3/\PyData.eqv (xG d) (xG d)=true:=by
 intro k;induction k with
 | zero=>
  intro d h;cases d with
  | str x=>simp only [okD] at h;simp [xG,PyData.canLay0,PyData.depth,PyData.eqv,h] | non=>simp [xG,PyData.canLay0,PyData.depth,PyData.eqv] | bl b=>simp [xG,PyData.canLay0,PyData.depth,PyData.eqv] | int i=>simp [xG,PyData.canLay0,PyData.depth,PyData.eqv] | _=>simp [okD] at h
 | succ k ih=>
  intro d h;cases d with
  | str x=>simp only [okD] at h;simp [xG,PyData.canLay0,PyData.depth,PyData.eqv,h] | non=>simp [xG,PyData.canLay0,PyData.depth,PyData.eqv] | bl b=>simp [xG,PyData.canLay0,PyData.depth,PyData.eqv] | int i=>simp [xG,PyData.canLay0,PyData.depth,PyData.eqv] | tup xs=>
   simp only [okD,List.all_eq_true] at h;have q:=zhX (k:=k) xs fun x hx=>ih x (h x hx);refine ⟨by simp only [xG,PyData.canLay0,q.1],?_,by simp only [xG,PyData.eqv,q.2.2]⟩;simp only [xG,PyData.depth];omega | lst xs=>
   simp only [okD,List.all_eq_true] at h;have q:=zhX (k:=k) xs fun x hx=>ih x (h x hx);refine ⟨by simp only [xG,PyData.canLay0,q.1],?_,by simp only [xG,PyData.eqv,q.2.2]⟩;simp only [xG,PyData.depth];omega | _=>simp [okD] at h
theorem zeJ{k:Nat}{d:D}(h:okD k d=true)(hk:k<=10):z7l d=true:=by
 have q:=zcm k d h;simp only [z7l,SeqAt.shaped,q.1];simp;omega
theorem ne_self{k:Nat}{d:D}(h:okD k d=true)(hk:k<=10)(s:Sto):dNe d d s=.ok (.bl false) s:=by
 have q:=zcm k d h;have o:=zeJ h hk;rw [dNe,if_pos ⟨o,o⟩];simp only [eqD,q.2.2];rfl
theorem zdc(k:Nat)(ns:List Int):(iL ns).all (okD k)=true:=by
 rw [List.all_eq_true];intro x hx;obtain ⟨n,_,rfl⟩:=List.mem_map.mp hx;cases k<;>rfl
theorem zgc(k:Nat)(ns:List Int):okD (k+1) (rD ns)=true:=zdc k ns
theorem zfu(k:Nat)(T:Tb):okD (k+2) (tD T)=true:=by
 show (T.map rD).all (okD (k+1))=true;rw [List.all_eq_true];intro x hx;obtain ⟨n,_,rfl⟩:=List.mem_map.mp hx;exact zgc k n
theorem z8C(k:Nat)(T:Tb):okD (k+2) (.lst (T.map rD))=true:=zfu k T
end Pg
namespace Pm
theorem qN:∀ {r z:List Int}{k:Nat},r.length=z.length->(∀ j,j≠k->z.getD j 0=0)->dot r z=r.getD k 0*z.getD k 0
 | [],[],k,_,_=>by simp | a::r,b::z,k,hl,h=>by cases k with
  | zero=>
   have:∀ (r z:List Int),(∀ j,z.getD j 0=0)->dot r z=0:=by
    intro r;induction r with
    | nil=>intro z _;cases z<;>simp [dot] | cons u r ih=>
     intro z hz;cases z with
     | nil=>simp [dot] | cons y z=>
      have h0:y=0:=by simpa using hz 0
      rw [dot_cons,h0,ih z fun j=>by simpa using hz (j+1)];simp
   rw [dot_cons,this r z fun j=>by simpa using h (j+1) (by omega)];simp | succ k=>
   have h0:b=0:=by simpa using h 0 (by omega)
   rw [dot_cons,qN (k:=k) (by simpa using hl) fun j hj=>by simpa using h (j+1) (by omega),h0];simp
 | [],_::_,_,h,_=>by simp at h | _::_,[],_,h,_=>by simp at h
end Pm
namespace Pg
open PySem.Spec L2 Dd Pm
theorem vr{i:Nat}{Z:Ev}{s:Sto}{d:D}(h:Z[i]? = some (some d)):zc i Z s=.ok d s:=by rw [yc,h]
theorem zaA{f g:FS}{t:FT}{Z:Ev}{s:Sto}(h:t Z s=.ok false s):fIf t f g Z s=g Z s:=by rw [kC,h,R.bind_ok,if_neg (by decide)]
theorem zad{t u:FT}{Z:Ev}{s:Sto}(h:t Z s=.ok false s)(h2:u Z s=.ok false s):fOr t u Z s=.ok false s:=by rw [zhZ,h,R.bind_ok,if_neg (by decide),h2]
theorem wq{f:FE}{Z:Ev}{s:Sto}{b:Bool}(h:f Z s=.ok (.bl b) s):tOf f Z s=.ok b s:=by rw [z6p,h];rfl
theorem ze4{t:FT}{Z:Ev}{s:Sto}(h:t Z s=.ok true s):z48 t Z s=.ok false s:=by rw [zaw,h];rfl
structure Sh(r:Rl)(n:Nat)(v:List Int)(ls:List (List Int))(z:List Int)(k:Nat)(B:Tb)(b:List Int):Prop where
 run:Run r v ls
 len:ls.length<=50000
 last:ls.getLast? = some z
 lot:Lot n z
 kn:k<n
 zk:z.getD k 0=uZ v
 zo:∀ j,j≠k->z.getD j 0=0
 g0:0<uZ v
 B_:B=zjw (z1o n (zM r ls))
 tab:Tab n B
 bd:Bd 318 B
 fair:zhe (z1o n (zM r ls))
 ptab:Tab n (z1o n (zM r ls))
 pbd:Bd 104 (z1o n (zM r ls))
 mvB:mv B v=z
 at_:B[k]? = some b
 fz:B.filter (fun x=>decide (dot x v=0))=B.eraseIdx k
 fn:B.filter (fun x=>decide (dot x v≠0))=[b]
 det:((Pm.det 4 (v::B.eraseIdx k)).natAbs:Int)*uZ v=dot v v
end Pg
namespace Pp
open PySem.Spec L2 Dd Pm Pg
def z6s(F:List (List Int))(c:List Int):List (List Int):=if c.getLast? = some 0 then F else zc0 F c
def zfR(F:List (List Int))(P:Tb):List (List Int):=(zU P).foldl z6s F
def z8A(F:List (List Int))(Ps:List Tb):List (List Int):=Ps.foldl zfR F
theorem z6F(F:List (List Int))(c:List Int):(z6s F c).length<=F.length+1:=by
 unfold z6s;split;·omega
 ·exact zaN F c
abbrev evC(d e p z:Option D)(l:Nat):Ev:=[d,e,some (.dlo l),p,z]
theorem z96(s:Sto)(a b:List D):(s++[a]).set s.length b=s++[b]:=by rw [List.set_append_right _ _ (by omega)];simp
theorem zja (d e p:Option D) {s:Sto} {F:List (List Int)} {c:List Int} (hc:c≠[]) (hl:F.length<cap): uo (evC d e p (some (rD c)) s.length) (s++[vq (kvC F)])=.ok (.nx (evC d e p (some (rD c)) s.length)) (s++[vq (kvC (z6s F c))]):=by
 obtain ⟨pre,x,rfl⟩:∃ pre x,c=pre++[x]:=⟨c.dropLast,c.getLast hc,(List.dropLast_concat_getLast hc).symm⟩;have put:=zbL (Z:=evC d e p (some (rD (pre++[x]))) s.length) (S:=s++[vq (kvC F)]) (i:=2) (j:=4) (l:=s.length) (F:=F) (c:=pre++[x]) rfl rfl (by simp) hl;rw [z96] at put;have ix:=kN (x:=rD (pre++[x])) (d:=.int x) (xs:=iL pre) (s:=s++[vq (kvC F)]) (by simp [zL,iL]);have ee:eOp dIx (zc 4) (vt (eC (.int 1))) (evC d e p (some (rD (pre++[x]))) s.length) (s++[vq (kvC F)])=.ok (.int x) (s++[vq (kvC F)]):=by rw [op2 (x:=rD (pre++[x])) (y:=.int (-1)) (by simp) (by simp)];exact ix
 have tt:tOf (eOp dNe (eOp dIx (zc 4) (vt (eC (.int 1)))) (eC (.int 0))) (evC d e p (some (rD (pre++[x]))) s.length) (s++[vq (kvC F)])=.ok (!decide (x=0)) (s++[vq (kvC F)]):=by
  refine wq ?_;rw [op2 ee (y:=.int 0) (by simp)];simp [dNe,z7l,SeqAt.shaped,xG,PyData.canLay0,PyData.depth,eqD,PyData.eqv];by_cases hx:x=0<;>simp [hx]
 unfold uo;rw [kC,tt,R.bind_ok];by_cases hx:x=0
 ·subst hx;simp [z6s]
 ·rw [if_pos (by simp [hx])];unfold z0N;rw [put,z6s,if_neg (by simp [hx])]
theorem zgJ (d e p:Option D) (s:Sto) (all:List D):∀ (cs:List (List Int)) (F:List (List Int)) (z:Option D),(∀ c∈cs,c≠[])->F.length+cs.length<cap-> ∃ z',wE [] all (fun x Z s=>(we 4 x Z s).bind fun Z' s'=>uo Z' s') (cs.map rD) (evC d e p z s.length) (s++[vq (kvC F)])=.ok (.nx (evC d e p z' s.length)) (s++[vq (kvC (cs.foldl z6s F))])
 | [],F,z,_,_=>⟨z,by simp [wE,okG]⟩ | c::cs,F,z,h,hl=>by
  have b:=zja d e p (s:=s) (F:=F) (h c (by simp)) (by simp at hl;omega);obtain ⟨z',ih⟩:=zgJ d e p s all cs (z6s F c) (some (rD c)) (fun y hy=>h y (by simp [hy])) (by have:=z6F F c;simp at hl;omega);refine ⟨z',?_⟩;rw [List.map_cons,wE,if_pos (by intro p hp;simp at hp),z0i,R.bind_ok];simp only [evC,List.set_cons_succ,List.set_cons_zero] at b ih ⊢;rw [b,R.bind_ok];simp only;rw [ih,List.foldl_cons]
theorem zit(d e z:Option D){n:Nat}{P:Tb}{s:Sto}{F:List (List Int)}(hn:Sz n)(hP:Tab n P)(hl:F.length+4<cap): ∃ z',uE (evC d e (some (tD P)) z s.length) (s++[vq (kvC F)])=.ok (.nx (evC d e (some (tD P)) z' s.length)) (s++[vq (kvC (zfR F P))]):=by
 have hn':n<=4/\2<=n:=by have:=hn;simp only [Sz] at this;omega
 have cl:(zU P).length=n:=by rw [zU];simp [hP.len]
 have cc:=qa (T:=P) (s++[vq (kvC F)]) (fun r hr=>by rw [hP.row r hr,hP.len];omega) (by rw [hP.len];omega);obtain ⟨z',lp⟩:=zgJ d e (some (tD P)) s ((zU P).map rD) (zU P) F z (fun c hc=>by
  simp only [zU,List.mem_map] at hc;obtain ⟨j,hj,rfl⟩:=hc;intro z;have:P.length=0:=by simpa using congrArg List.length z
  rw [hP.len] at this;omega) (by rw [cl];omega);refine ⟨z',?_⟩;have c1:zd zJ (za (zc 3) zp) (evC d e (some (tD P)) z s.length) (s++[vq (kvC F)])=.ok (.tup ((zU P).map rD)) (s++[vq (kvC F)]):=by rw [uT (x:=tD P) (by simp)];exact cc
 rw [uE,jg,uD c1,R.bind_ok];exact lp
theorem zaS{n:Nat}{P:Tb}(F:List (List Int))(hP:P.length=n):(zfR F P).length<=F.length+n:=by
 have:∀ (cs:List (List Int))(F:List (List Int)),(cs.foldl z6s F).length<=F.length+cs.length:=by
  intro cs;induction cs with
  | nil=>intro F;simp | cons c cs ih=>intro F;rw [List.foldl_cons];have:=ih (z6s F c);have:=z6F F c;simp;omega
 have h:=this (zU P) F;have cl:(zU P).length=n:=by rw [zU];simp [hP]
 rw [cl] at h;exact h
theorem zfW {n:Nat} (d e:Option D) (s:Sto) (all:List D) (hn:Sz n):∀ (Ps:List Tb) (F:List (List Int)) (p z:Option D),(∀ P∈Ps,Tab n P)->F.length+4*Ps.length+4<cap-> ∃ p' z',wE [] all (fun x Z s=>(we 3 x Z s).bind fun Z' s'=>uE Z' s') (Ps.map tD) (evC d e p z s.length) (s++[vq (kvC F)])=.ok (.nx (evC d e p' z' s.length)) (s++[vq (kvC (z8A F Ps))])
 | [],F,p,z,_,_=>⟨p,z,by simp [wE,okG,z8A]⟩ | P::Ps,F,p,z,h,hl=>by
  obtain ⟨z1,b⟩:=zit d e z (s:=s) (F:=F) hn (h P (by simp)) (by simp at hl;omega);have hn':n<=4/\2<=n:=by have:=hn;simp only [Sz] at this;omega
  obtain ⟨p',z',ih⟩:=zfW d e s all hn Ps (zfR F P) (some (tD P)) z1 (fun y hy=>h y (by simp [hy])) (by have:=zaS F (h P (by simp)).len;simp at hl;omega);refine ⟨p',z',?_⟩;rw [List.map_cons,wE,if_pos (by intro p hp;simp at hp),z0i,R.bind_ok];simp only [evC,List.set_cons_succ,List.set_cons_zero] at b ih ⊢;rw [b,R.bind_ok];simp only;rw [ih];rfl
theorem kb {n:Nat} {v:List Int} (h:Lot n v) (h0:v.getLast? ≠ some 0) (s:Sto):zG [rD v] s=.ok .non s:=by
 have w:=qK h s;have ne:v≠[]:=by intro z;have:=h.len;have:=h.sz;subst z;simp at *;omega
 obtain ⟨pre,x,rfl⟩:∃ pre x,v=pre++[x]:=⟨v.dropLast,v.getLast ne,(List.dropLast_concat_getLast ne).symm⟩;have ix:=kN (x:=rD (pre++[x])) (d:=.int x) (xs:=iL pre) (s:=s) (by simp [zL,iL]);have hx:x≠0:=fun z=>h0 (by simp [z]);have key:∀ d:D,zY [d] s=.ok .non s->dIx d (.int (-1)) s=.ok (.int x) s->zG [d] s=.ok .non s:=fun d h1 h2=>by
  have st:zx ["lot"] [d]=[some d]:=rfl;simp only [zG,Mof,qV,st,List.length_cons,List.length_nil,if_true];rw [zu (Z':=[some d]) (s':=s) (by simp [h1])];have ee:eOp dIx (zc 0) (vt (eC (.int 1))) [some d] s=.ok (.int x) s:=by rw [op2 (x:=d) (y:=.int (-1)) (by simp) (by simp)];exact h2
  have tt:tOf (eOp dEq (eOp dIx (zc 0) (vt (eC (.int 1)))) (eC (.int 0))) [some d] s=.ok false s:=by
   refine wq ?_;rw [op2 ee (y:=.int 0) (by simp)];simp [dEq,z7l,SeqAt.shaped,xG,PyData.canLay0,PyData.depth,eqD,PyData.eqv,hx]
  unfold qA;rw [zaA tt];rfl
 exact key _ w ix
theorem z7t(xs:List D)(i:Nat):Dd.cutD xs (some (i:Int)) none=xs.drop i:=by
 have:=z3Y xs i [];simpa [dSl] using this
theorem zbn{n m:Nat}{r:Rl}{c:List Int}{ls:List (List Int)}(Rn:Run r c ls):LotB n m c->∀ P:Tb,Tab n P->∀ Q∈wU P (zM r ls),Tab n Q:=by induction Rn with
 | done he=>intro h P hP Q hQ;simp [zM,wU] at hQ;subst hQ;exact hP | @step v ls he R2 ih=>
  intro h P hP Q hQ;rw [R2.tabs_cons,wU] at hQ;rcases List.mem_cons.mp hQ with rfl | hQ;·exact hP
  ·exact ih (h.step r he) _ (z6O hP (z0w r h.toLot he)) Q hQ
def zdD(n:Nat)(r:Rl)(ls:List (List Int)):List (List Int):=z8A [] ((wU (one n) (zM r ls)).drop 1)
theorem z9R {n m:Nat} {v:List Int} {ls:List (List Int)} (r:Rl) (h:LotB n m v) (h0:v.getLast? ≠ some 0) (Rn:Run r v ls) (hm:m<=1999) (hl:ls.length<=20000) (s:Sto): va [.str (nmR r),rD v] s=.ok (.loc (s.length+1)) (s++[vq (kvC (zdD n r ls))]++[(zdD n r ls).map rD]):=by
 have w1:=z1a r s;have w2:=kb h.toLot h0 s;have pr:=z3S r h Rn hm (by omega) (s++[vq (kvC [])]);have tl:(zM r ls).length<=20000:=by simp [zM];omega
 have lp:=fun d e=>zfW (n:=n) d e s (((wU (one n) (zM r ls)).drop 1).map tD) h.sz ((wU (one n) (zM r ls)).drop 1) [] none none (fun P hP=>zbn Rn h (one n) (z6o n) P (List.mem_of_mem_drop hP)) (by
  have:=z4c (zM r ls) (one n);simp [cap];omega);unfold zdD;generalize wU (one n) (zM r ls)=Ps at pr lp ⊢;have key:∀ d e:D,yR [d] s=.ok .non s->zG [e] s=.ok .non s->ym [d,e] (s++[vq (kvC [])])=.ok (.loc (s++[vq (kvC [])]).length) (s++[vq (kvC [])]++[Ps.map tD])-> va [d,e] s=.ok (.loc (s.length+1)) (s++[vq (kvC (z8A [] (Ps.drop 1)))]++[(z8A [] (Ps.drop 1)).map rD]):=fun d e h1 h2 h3=>by
  have st:zx ["rule","lot","found","product","column"] [d,e]=[some d,some e,none,none,none]:=rfl;simp only [va,Mof,z2w,st,List.length_cons,List.length_nil,if_true];rw [zu (Z':=[some d,some e,none,none,none]) (s':=s) (by simp [h1])];rw [zu (Z':=[some d,some e,none,none,none]) (s':=s) (by simp [h2])];rw [zu (Z':=evC (some d) (some e) none none s.length) (s':=s++[vq (kvC [])]) (by rfl)];obtain ⟨p',z',lp⟩:=lp (some d) (some e);have f1:z19 (zd ym (za (zc 0) (za (zc 1) zp))) (evC (some d) (some e) none none s.length) (s++[vq (kvC [])])=.ok (.lst (Ps.map tD)) (s++[vq (kvC [])]):=by rw [z38,call2 (x:=d) (y:=e) (by simp) (by simp),h3,z40]
  have f2:eSl (z19 (zd ym (za (zc 0) (za (zc 1) zp)))) (xl (eC (.int 1))) zI (evC (some d) (some e) none none s.length) (s++[vq (kvC [])])=.ok (.lst ((Ps.drop 1).map tD)) (s++[vq (kvC [])]):=by
   rw [z0t,f1,R.bind_ok];simp only [R.bind_ok,yS,wK,kg,dSl,Dd.listOf];rw [show (1:Int)=((1:Nat):Int) from rfl,z7t,List.map_drop]
  rw [zu (Z':=evC (some d) (some e) p' z' s.length) (s':=s++[vq (kvC (z8A [] (Ps.drop 1)))]) (by
   rw [z1X,jg,qH f2,R.bind_ok];exact lp)];rw [z0J,xc,uT (x:=.dlo s.length) (by simp)];have e1:z1m [.dlo s.length] (s++[vq (kvC (z8A [] (Ps.drop 1)))])=.ok (.loc (s.length+1)) (s++[vq (kvC (z8A [] (Ps.drop 1)))]++[(z8A [] (Ps.drop 1)).map rD]):=by
   unfold z1m;simp only [List.getElem?_append_right (Nat.le_refl _),Nat.sub_self,List.getElem?_cons_zero,Option.bind_some,z9S,zaR,List.length_append,List.length_cons,List.length_nil]
  rw [e1];rfl
 exact key _ _ w1 w2 pr
end Pp
namespace Pn
open PySem.Spec L2 Dd Pm Pg
def isI:D->Bool
 | .int _=>true | _=>false
theorem z6x{d:D}(h:(tyD d).isSome=true)(s:Sto):yV [d] s=.ok (.bl (isI d)) s:=by cases d<;>simp [tyD] at h<;>simp [yV,Mof,jq,zx,gIs,tyD,isT,isI]
end Pn
namespace Pp
open PySem.Spec L2 Dd Pm Pg Pn
def z11(a c:Int):Int:=if c<2*(a % c) then a / c+1 else a / c
theorem zgu {a c:Int} (hc:0<c) (hb:c.natAbs<BIG) (s:Sto):yr [.int a,.int c] s=.ok (.int (z11 a c)) s:=by
 have st:zx ["number","by","whole","rest"] [.int a,.int c]=[some (.int a),some (.int c),none,none]:=rfl;have b1:(0:Int)<=a % c:=Int.emod_nonneg _ (by omega);have b2:a % c<c:=Int.emod_lt_of_pos _ hc;have b3:(a % c).natAbs<BIG:=by omega
 have b4:(2:Int).natAbs<BIG:=by decide +kernel
 have g:z1f [.int a,.int c] s=.ok (.tup [.int (a / c),.int (a % c)]) s:=by simp only [z1f];rw [if_pos ⟨hc,hb⟩]
 simp only [yr,Mof,uI,st,List.length_cons,List.length_nil,if_true];generalize ha:a / c=A at g;generalize hr:a % c=B at g b1 b2 b3;rw [zu (Z':=[some (.int a),some (.int c),some (.int A),some (.int B)]) (s':=s) (by
  rw [vS,zcu,call2 (x:=.int a) (y:=.int c) (by simp) (by simp),g];rfl)];have m:yP (.int 2) (.int B) s=.ok (.int (2*B)) s:=by rw [qf,if_pos ⟨b4,b3⟩]
 have t:tOf (eOp dGt (eOp yP (eC (.int 2)) (zc 3)) (zc 1)) [some (.int a),some (.int c),some (.int A),some (.int B)] s=.ok (decide (c<2*B)) s:=by
  refine wq ?_;rw [op2 (x:=.int (2*B)) (y:=.int c) (by rw [op2 (x:=.int 2) (y:=.int B) (by simp) (by simp),m]) (by simp)];rfl
 rw [vX,xc];simp only [zeg,t,R.bind_ok];unfold z11;rw [ha,hr];by_cases h:c<2*B;·simp [h]
 ·simp [h]
structure Bot(n m:Nat)(ps:List Int)(q:Int):Prop where
 lot:LotB n m (ps++[q])
 pos:0<q
def uV(b q:Int)(p:Int):Int:=z11 (b*p) q
theorem z9C{a c:Int}(hc:0<c)(ha:0<=a):0<=z11 a c/\z11 a c<=a+1:=by
 have h1:0<=a / c:=Int.ediv_nonneg ha (by omega);have h2:a / c<=a:=Int.ediv_le_self _ ha;unfold z11;split<;>omega
theorem Bot.q_bd{n m:Nat}{ps:List Int}{q:Int}(h:Bot n m ps q):q<2 ^ m:=by have:=h.lot.bd q (by simp);omega
theorem Bot.p_bd{n m:Nat}{ps:List Int}{q p:Int}(h:Bot n m ps q)(hp:p∈ps):0<=p/\p<2 ^ m:=by
 have h1:=h.lot.bd p (by simp [hp]);have h2:=h.lot.toLot.nn p (by simp [hp]);exact ⟨h2,by omega⟩
theorem Bot.want{n m:Nat}{ps:List Int}{q:Int}(h:Bot n m ps q)(s:Sto):zG [rD (ps++[q])] s=.ok .non s:= kb h.lot.toLot (by have:=h.pos;simp;omega) s
theorem z2P{x a b:Int}(h1:a<=x)(h2:x<=b)(s:Sto):yQ [.int x,.int a,.int b] s=.ok .non s:=by
 have w:yV [.int x] s=.ok (.bl true) s:=z6x (by rfl) s;have st:zx ["thing","least","most"] [.int x,.int a,.int b]=[some (.int x),some (.int a),some (.int b)]:=rfl;simp only [yQ,Mof,jd,st,List.length_cons,List.length_nil,if_true];rw [qj,zaA];·rfl
 ·refine zad (ze4 (wq ?_)) (ze4 (wq ?_));·rw [uT (x:=.int x) (by simp)];exact w
  ·simp [h1,h2]
theorem big_of{m:Nat}{x:Int}(h0:0<=x)(h:x<2 ^ m)(hm:m<=4000):x.natAbs<BIG:=by
 have h1:x.natAbs<2 ^ m:=by
  have:((x.natAbs:Nat):Int)<((2 ^ m:Nat):Int):=by rw [Int.natAbs_of_nonneg h0];push_cast;exact h
  exact_mod_cast this
 have h2:(2:Nat) ^ m<=2 ^ 4000:=Nat.pow_le_pow_right (by decide) hm;have h3:(2:Nat) ^ 4000<BIG:=by decide +kernel
 exact Nat.lt_of_lt_of_le h1 (Nat.le_trans h2 (Nat.le_of_lt h3))
theorem zbW {n m:Nat} {ps:List Int} {q b:Int} (h:Bot n m ps q) (hm:m<=1999) (hb1:1<=b) (hb2:b<=10 ^ 12) (s:Sto):M_tops [rD (ps++[q]),.int b] s=.ok (rD (ps.map (uV b q))) s:=by
 have w1:=h.want s;have w2:=z2P hb1 hb2 s;have sl:=z0T ps q s;have ix:=kG ps q s;have hl:ps.length<=cap:=by have h1:=h.lot.len;have h2:=h.lot.sz;simp [cap] at *;omega
 have bb:b.natAbs<BIG:=by
  have:(10:Nat) ^ 12<BIG:=by decide +kernel
  omega
 have mu:∀ p∈ps,yP (.int b) (.int p) s=.ok (.int (b*p)) s:=fun p hp=>by
  have:=h.p_bd hp;rw [qf,if_pos ⟨bb,big_of this.1 this.2 (by omega)⟩]
 have nr:∀ p∈ps,yr [.int (b*p),.int q] s=.ok (.int (uV b q p)) s:=fun p hp=>zgu h.pos (big_of (by have:=h.pos;omega) h.q_bd (by omega)) s;have key:∀ d:D,zG [d] s=.ok .non s->dSl d none (some (-1)) s=.ok (.tup (iL ps)) s->dIx d (.int (-1)) s=.ok (.int q) s->M_tops [d,.int b] s=.ok (rD (ps.map (uV b q))) s:=fun d h1 h2 h3=>by
  have st:zx ["lot","bottom"] [d,.int b]=[some d,some (.int b)]:=rfl;simp only [M_tops,Mof,z99,st,List.length_cons,List.length_nil,if_true];rw [zu (Z':=[some d,some (.int b)]) (s':=s) (by simp [h1])];rw [zu (Z':=[some d,some (.int b)]) (s':=s) (by rw [z7s,z1M,zg3 (x:=.int b) (y:=.int 1) (z:=.int (10 ^ 12)) (by simp) (by simp) (by simp),w2];rfl)];have e1:eSl (zc 0) zI (xl (vt (eC (.int 1)))) [some d,some (.int b)] s=.ok (.tup (iL ps)) s:=by simp only [z0t,yc,List.getElem?_cons_zero,R.bind_ok,yS,wK,kX,kg];exact h2
  have cm:zK (yB (eSl (zc 0) zI (xl (vt (eC (.int 1)))))) [some 1,some 0,none] (we 2) yM (zd yr (za (eOp yP (zc 0) (zc 2)) (za (eOp dIx (zc 1) (vt (eC (.int 1)))) zp))) [some d,some (.int b)] s=.ok (.lst (ps.map fun p=>D.int (uV b q p))) s:=by
   refine comp_map (fun p=>D.int p) (fun p=>D.int (uV b q p)) (fun p=>[some (.int b),some d,some (.int p)]) ps (uD e1) (fun p hp=>by rfl) (fun p hp=>?_) hl;rw [call2 (x:=.int (b*p)) (y:=.int q) (by rw [op2 (x:=.int b) (y:=.int p) (by simp) (by simp)];exact mu p hp) (by rw [op2 (x:=d) (y:=.int (-1)) (by simp) (by simp)];exact h3)];exact nr p hp
  rw [z7p,xc,uT cm];simp [yG,zL,iL,Function.comp_def]
 exact key _ w1 sl ix
def vB(b q p:Int):Int:=b*p-uV b q p*q
theorem zip_map{α β:Type}(f:α->β):∀ l:List α,List.zip l (l.map f)=l.map fun p=>(p,f p)
 | []=>rfl | x::l=>by simp [zip_map f l]
theorem z6K {n m:Nat} {ps:List Int} {q b:Int} (h:Bot n m ps q) (hm:m<=1999) (hb1:1<=b) (hb2:b<=10 ^ 12) (s:Sto):xu [rD (ps++[q]),.int b] s=.ok (rD (ps.map (vB b q))) s:=by
 have tp:=zbW h hm hb1 hb2 s;have sl:=z0T ps q s;have ix:=kG ps q s;have hl:ps.length<=cap:=by have h1:=h.lot.len;have h2:=h.lot.sz;simp [cap] at *;omega
 have bb:b.natAbs<BIG:=by
  have:(10:Nat) ^ 12<BIG:=by decide +kernel
  omega
 have mu:∀ p∈ps,yP (.int b) (.int p) s=.ok (.int (b*p)) s:=fun p hp=>by
  have:=h.p_bd hp;rw [qf,if_pos ⟨bb,big_of this.1 this.2 (by omega)⟩]
 have mt:∀ p∈ps,yP (.int (uV b q p)) (.int q) s=.ok (.int (uV b q p*q)) s:=fun p hp=>by
  have hp':=h.p_bd hp;have h0:0<=b*p:=Int.mul_nonneg (by omega) hp'.1;have nb:=z9C (a:=b*p) h.pos h0;have b2:b*p<=10 ^ 12*(2 ^ m-1):=Int.mul_le_mul hb2 (by omega) hp'.1 (by decide);have e40:(10:Int) ^ 12*2 ^ m<=2 ^ (m+40):=by
   rw [Int.pow_add,Int.mul_comm];exact Int.mul_le_mul_of_nonneg_left (by decide) (Int.le_of_lt (Int.pow_pos (by decide)))
  have nb2:=nb.2;have e12:(10:Int) ^ 12*(2 ^ m-1)=10 ^ 12*2 ^ m-10 ^ 12:=by rw [Int.mul_sub,Int.mul_one]
  have lt40:z11 (b*p) q<2 ^ (m+40):=by omega
  have bt:(uV b q p).natAbs<BIG:=big_of (m:=m+40) nb.1 lt40 (by omega);have q0:(0:Int)<=q:=Int.le_of_lt h.pos;rw [qf,if_pos ⟨bt,big_of q0 h.q_bd (by omega)⟩]
 have ez:=z3p ps (ps.map (uV b q));rw [zip_map,List.map_map] at ez;have key:∀ d:D,M_tops [d,.int b] s=.ok (rD (ps.map (uV b q))) s->dSl d none (some (-1)) s=.ok (.tup (iL ps)) s->dIx d (.int (-1)) s=.ok (.int q) s->xu [d,.int b] s=.ok (rD (ps.map (vB b q))) s:=fun d h1 h2 h3=>by
  have st:zx ["lot","bottom","found"] [d,.int b]=[some d,some (.int b),none]:=rfl;simp only [xu,Mof,z4w,st,List.length_cons,List.length_nil,if_true];rw [zu (Z':=[some d,some (.int b),some (rD (ps.map (uV b q)))]) (s':=s) (by rw [z2S,xA,call2 (x:=d) (y:=.int b) (by simp) (by simp),h1];rfl)];have e1:eSl (zc 0) zI (xl (vt (eC (.int 1)))) [some d,some (.int b),some (rD (ps.map (uV b q)))] s=.ok (.tup (iL ps)) s:=by simp only [z0t,yc,List.getElem?_cons_zero,R.bind_ok,yS,wK,kX,kg];exact h2
  have zi:z8n (za (eSl (zc 0) zI (xl (vt (eC (.int 1))))) (za (zc 2) zp)) [some d,some (.int b),some (rD (ps.map (uV b q)))] s=.ok (ps.map (fun p=>D.tup [.int p,.int (uV b q p)]),[]) s:=by
   rw [z6X,zt,e1];simp only [R.bind_ok,zt,zN,yc,List.getElem?_cons_succ,List.getElem?_cons_zero,z2O];rw [ez];rfl
  have cm:zK (z8n (za (eSl (zc 0) zI (xl (vt (eC (.int 1))))) (za (zc 2) zp))) [some 1,some 0,none,none] (vZ 2 3) yM (eOp z5L (eOp yP (zc 0) (zc 2)) (eOp yP (zc 3) (eOp dIx (zc 1) (vt (eC (.int 1)))))) [some d,some (.int b),some (rD (ps.map (uV b q)))] s=.ok (.lst (ps.map fun p=>D.int (vB b q p))) s:=by
   refine comp_map (fun p=>D.tup [.int p,.int (uV b q p)]) (fun p=>D.int (vB b q p)) (fun p=>[some (.int b),some d,some (.int p),some (.int (uV b q p))]) ps zi (fun p hp=>by rfl) (fun p hp=>?_) hl;rw [op2 (x:=.int (b*p)) (y:=.int (uV b q p*q)) (by rw [op2 (x:=.int b) (y:=.int p) (by simp) (by simp)];exact mu p hp) (by rw [op2 (x:=.int (uV b q p)) (y:=.int q) (by simp) (by rw [op2 (x:=d) (y:=.int (-1)) (by simp) (by simp)];exact h3)];exact mt p hp)];rfl
  rw [z2U,xc,uT cm];simp [yG,zL,iL,Function.comp_def]
 exact key _ tp sl ix
def kr(i:Int):Int:=if i<0 then -i else i
def yN(b:Int)(ps:List Int)(q:Int):Int:=maxL (ps.map fun p=>kr (vB b q p))
theorem Bot.ne{n m:Nat}{ps:List Int}{q:Int}(h:Bot n m ps q):ps≠[]:=by
 have h1:=h.lot.len;have h2:=h.lot.sz;intro z;subst z;simp at h1;omega
theorem z3J {n m:Nat} {ps:List Int} {q b:Int} (h:Bot n m ps q) (hm:m<=1999) (hb1:1<=b) (hb2:b<=10 ^ 12) (s:Sto):ye [rD (ps++[q]),.int b] s=.ok (.int (yN b ps q)) s:=by
 have er:=z6K h hm hb1 hb2 s;have hl:ps.length<=cap:=by have h1:=h.lot.len;have h2:=h.lot.sz;simp [cap] at *;omega
 have mx:=zf0 (ns:=ps.map fun p=>kr (vB b q p)) s (by simpa using h.ne);have key:∀ d:D,xu [d,.int b] s=.ok (rD (ps.map (vB b q))) s->ye [d,.int b] s=.ok (.int (yN b ps q)) s:=fun d h1=>by
  have st:zx ["lot","bottom"] [d,.int b]=[some d,some (.int b)]:=rfl;have e1:zd xu (za (zc 0) (za (zc 1) zp)) [some d,some (.int b)] s=.ok (.tup (iL (ps.map (vB b q)))) s:=by rw [call2 (x:=d) (y:=.int b) (by simp) (by simp)];exact h1
  have cm:zK (yB (zd xu (za (zc 0) (za (zc 1) zp)))) [none] (we 0) yM (zd zeW (za (zc 0) zp)) [some d,some (.int b)] s=.ok (.lst (ps.map fun p=>D.int (kr (vB b q p)))) s:=by
   refine comp_map (fun p=>D.int (vB b q p)) (fun p=>D.int (kr (vB b q p))) (fun p=>[some (.int (vB b q p))]) ps (by rw [uD e1];simp [iL,Function.comp_def]) (fun p hp=>by rfl) (fun p hp=>?_) hl;rw [uT (x:=.int (vB b q p)) (by simp)];rfl
  simp only [ye,Mof,z7q,st,List.length_cons,List.length_nil,if_true];rw [z5r,xc,uT cm];have e2:(ps.map fun p=>D.int (kr (vB b q p)))=iL (ps.map fun p=>kr (vB b q p)):=by simp [iL,Function.comp_def]
  rw [e2,mx];rfl
 exact key _ er
end Pp
namespace Pp
open Pm Pg Dd
theorem z3N{b q p:Int}(hq:0<q):2*kr (vB b q p)<=q:=by
 have h1:=Int.emod_add_mul_ediv (b*p) q;have h2:=Int.emod_nonneg (b*p) (show q≠0 by omega);have h3:=Int.emod_lt_of_pos (b*p) hq;have hm:(b*p / q+1)*q=b*p / q*q+q:=by rw [Int.add_mul,Int.one_mul]
 have hc:q*(b*p / q)=b*p / q*q:=Int.mul_comm _ _;by_cases h4:q<2*(b*p % q)
 ·have e:vB b q p=b*p % q-q:=by unfold vB uV z11;rw [if_pos h4];omega
  rw [e];unfold kr;split<;>omega
 ·have e:vB b q p=b*p % q:=by unfold vB uV z11;rw [if_neg h4];omega
  rw [e];unfold kr;split<;>omega
theorem z9O {b q p t k:Int} (hq:0<q) (ht:b*p=t+k*q):kr (vB b q p)<=kr t:=by
 by_cases h:2*kr t<=q;·-- t is the error,or both are half
  have e:=z3N (b:=b) (p:=p) hq;have d:vB b q p-t=(k-uV b q p)*q:=by
   unfold vB;rw [Int.sub_mul,ht];omega
  generalize vB b q p=x at e d;generalize k-uV b q p=m at d;have hx:-q<=2*x/\2*x<=q:=by unfold kr at e;split at e<;>omega
  have ht':-q<=2*t/\2*t<=q:=by unfold kr at h;split at h<;>omega
  have hm:m=0\/m=1\/m=-1:=by
   have h1:m*q<=q:=by omega
   have h2:-q<=m*q:=by omega
   have h3:m<=1:=by
    by_cases z:m<=1;·exact z
    ·have:2*q<=m*q:=Int.mul_le_mul_of_nonneg_right (by omega) (by omega);omega
   have h4:-1<=m:=by
    by_cases z:-1<=m;·exact z
    ·have:m*q<=(-2)*q:=Int.mul_le_mul_of_nonneg_right (by omega) (by omega);omega
   omega
  rcases hm with rfl | rfl | rfl
  ·have:x=t:=by omega
   rw [this];exact Int.le_refl _
  ·have:1*q=q:=Int.one_mul q;unfold kr;split<;>split<;>omega
  ·have:(-1)*q=-q:=by omega
   unfold kr;split<;>split<;>omega
 ·have:=z3N (b:=b) (p:=p) hq;omega
theorem zcq : ∀ (M : Nat) (f : Nat → Nat), (∀ i ≤ M, f i < M) → ∃ i j, i < j ∧ j ≤ M ∧ f i = f j
 | 0, f, h => absurd (h 0 (Nat.le_refl _)) (Nat.not_lt_zero _) | M + 1, f, h => by
  by_cases hv : ∃ i, i ≤ M ∧ f i = f (M + 1)
  ·obtain ⟨i, hi, e⟩ := hv;exact ⟨i, M + 1, by omega, Nat.le_refl _, e⟩
  ·have hn : ∀ i ≤ M, f i ≠ f (M + 1) := fun i hi e => hv ⟨i, hi, e⟩;have hl := h (M + 1) (Nat.le_refl _);obtain ⟨i, j, hij, hj, e⟩ := zcq M (fun i => if f i = M then f (M + 1) else f i) (fun i hi => by
    have h1 := h i (by omega);have h2 := hn i hi;show (if f i = M then f (M + 1) else f i) < M;split <;> omega);refine ⟨i, j, hij, by omega, ?_⟩;have h1 := hn i (by omega);have h2 := hn j hj;split at e <;> split at e <;> omega
def code(N:Nat):List Nat->Nat
 | []=>0 | d::ds=>d+N*code N ds
theorem z9p{N:Nat}:∀ (ds:List Nat),(∀ d∈ds,d<N)->code N ds<N ^ ds.length
 | [],_=>by simp [code] | d::ds,h=>by
  have h1:=h d (by simp);have h2:=z9p ds fun x hx=>h x (by simp [hx]);rw [code,List.length_cons,Nat.pow_succ,Nat.mul_comm (N ^ ds.length)];have h3:N*(code N ds+1)<=N*N ^ ds.length:=Nat.mul_le_mul_left _ h2;rw [Nat.mul_add] at h3;omega
theorem code_inj{N:Nat}:∀ (ds es:List Nat),ds.length=es.length->(∀ d∈ds,d<N)->(∀ d∈es,d<N)->code N ds=code N es->ds=es
 | [],[],_,_,_,_=>rfl | [],_::_,h,_,_,_=>by simp at h | _::_,[],h,_,_,_=>by simp at h | d::ds,e::es,hl,h1,h2,he=>by
  have d1:=h1 d (by simp);have e1:=h2 e (by simp);rw [code,code] at he;have q1:(d+N*code N ds) % N=d:=by rw [Nat.add_mul_mod_self_left,Nat.mod_eq_of_lt d1]
  have q2:(e+N*code N es) % N=e:=by rw [Nat.add_mul_mod_self_left,Nat.mod_eq_of_lt e1]
  have hde:d=e:=by rw [<- q1,<- q2,he]
  subst hde;have hc:code N ds=code N es:=Nat.eq_of_mul_eq_mul_left (show 0<N by omega) (by omega);rw [code_inj ds es (by simpa using hl) (fun x hx=>h1 x (by simp [hx])) (fun x hx=>h2 x (by simp [hx])) hc]
def dig(N q b p:Nat):Nat:=(b*p % q)*N / q
theorem zan{N q b p:Nat}(hq:0<q)(hN:0<N):dig N q b p<N:=by
 unfold dig;rw [Nat.div_lt_iff_lt_mul hq,Nat.mul_comm N q];exact Nat.mul_lt_mul_of_lt_of_le (Nat.mod_lt _ hq) (Nat.le_refl _) hN
theorem zaK{N q b c p:Nat}(hq:0<q)(hN:0<N)(h:dig N q b p=dig N q c p):((c*p % q:Nat)-(b*p % q:Nat):Int)*N<q/\-(q:Int)<((c*p % q:Nat)-(b*p % q:Nat):Int)*N:=by
 unfold dig at h;generalize hx:b*p % q=x at h;generalize hy:c*p % q=y at h;have x1:=Nat.div_add_mod (x*N) q;have x2:=Nat.mod_lt (x*N) hq;have y1:=Nat.div_add_mod (y*N) q;have y2:=Nat.mod_lt (y*N) hq;rw [h] at x1;have:((y:Int)-(x:Int))*N=(y*N:Nat)-(x*N:Nat):=by rw [Int.sub_mul];push_cast;rfl
 rw [this];omega
theorem dirichlet {N q:Nat} (ps:List Nat) (hq:0<q) (hN:0<N):∃ b:Nat,1<=b/\b<=N ^ ps.length/\∀ p∈ps,kr (vB b q p)*N<=q:=by
 obtain ⟨i,j,hij,hj,e⟩:=zcq (N ^ ps.length) (fun b=>code N (ps.map (dig N q b))) (fun b hb=>by
  have:=z9p (N:=N) (ps.map (dig N q b)) (fun d hd=>by
   obtain ⟨p,_,rfl⟩:=List.mem_map.mp hd;exact zan hq hN);simpa using this);have dg:=code_inj _ _ (by simp) (fun d hd=>by obtain ⟨p,_,rfl⟩:=List.mem_map.mp hd;exact zan hq hN) (fun d hd=>by obtain ⟨p,_,rfl⟩:=List.mem_map.mp hd;exact zan hq hN) e;refine ⟨j-i,by omega,by omega,fun p hp=>?_⟩;have dp:dig N q i p=dig N q j p:=List.map_inj_left.mp dg p hp;have nr:=zaK hq hN dp;have hi:=Nat.div_add_mod (i*p) q;have hj':=Nat.div_add_mod (j*p) q;have el:=z9O (b:=((j-i:Nat):Int)) (q:=q) (p:=p) (t:=(j*p % q:Nat)-(i*p % q:Nat)) (k:=(j*p / q:Nat)-(i*p / q:Nat)) (by omega) (by
  have c1:(((j-i:Nat):Int))*(p:Int)=(j*p:Nat)-(i*p:Nat):=by rw [Int.ofNat_sub (Nat.le_of_lt hij),Int.sub_mul];push_cast;rfl
  rw [c1,Int.sub_mul];have c2:((j*p / q:Nat):Int)*(q:Int)=((q*(j*p / q):Nat):Int):=by rw [Int.mul_comm];push_cast;rfl
  have c3:((i*p / q:Nat):Int)*(q:Int)=((q*(i*p / q):Nat):Int):=by rw [Int.mul_comm];push_cast;rfl
  rw [c2,c3];omega);have hmul:kr (vB ((j-i:Nat):Int) q p)*(N:Int)<=kr ((j*p % q:Nat)-(i*p % q:Nat))*(N:Int):=Int.mul_le_mul_of_nonneg_right el (by omega);refine Int.le_trans hmul ?_;generalize ((j*p % q:Nat)-(i*p % q:Nat):Int)=t at nr;unfold kr;split;·rw [Int.neg_mul];omega
 ·omega
open PySem.Spec L2 Pn
def pD(p:Int×Int):D:=.tup [.int p.1,.int p.2]
def z0x(ps:List Int)(q:Int):Nat->List (Int×Int)×(Int×Int)
 | 0=>([],(1,yN 1 ps q)) | k+1=>let r:=z0x ps q k;if yN (k+2) ps q<r.2.2 then (r.1++[r.2],(k+2,yN (k+2) ps q)) else r
def z04(ps:List Int)(q:Int)(k:Nat):List (Int×Int):=(z0x ps q k).1++[(z0x ps q k).2]
theorem z9F:∀ l:List (Int×Int),D.flat.flats (l.map pD)=true
 | []=>rfl | p::l=>by simp only [List.map_cons,D.flat.flats,z9F l,Bool.and_true];rfl
theorem z3A(ps:List Int)(q:Int):∀ k,(z04 ps q k).length<=k+1
 | 0=>by simp [z04,z0x] | k+1=>by
  have:=z3A ps q k;simp only [z04,z0x] at this ⊢;split<;>simp at this ⊢ <;> omega
theorem ke(ps:List Int)(q:Int)(k:Nat):z04 ps q (k+1)=if yN (k+2) ps q<(z0x ps q k).2.2 then z04 ps q k++[((k:Int)+2,yN (k+2) ps q)] else z04 ps q k:=by
 simp only [z04,z0x];split<;>simp
theorem zfG {n m:Nat} {ps:List Int} {q k:Int} (h:Bot n m ps q) (hm:m<=1999) (hk1:1<=k) (hk2:k<=1000) (s:Sto):vn [rD (ps++[q]),.int k] s=.ok (.loc s.length) (s++[(z04 ps q (k-1).toNat).map pD]):=by
 have w1:=h.want s;have w2:=z2P hk1 hk2 s;have wo:∀ (b:Int) (S:Sto),1<=b->b<=1001->ye [rD (ps++[q]),.int b] S=.ok (.int (yN b ps q)) S:=fun b S h1 h2=>z3J h hm h1 (by omega) S;have key:∀ d:D,zG [d] s=.ok .non s->(∀ (b:Int) (S:Sto),1<=b->b<=1001->ye [d,.int b] S=.ok (.int (yN b ps q)) S)->vn [d,.int k] s=.ok (.loc s.length) (s++[(z04 ps q (k-1).toNat).map pD]):=fun d h1 h2=>by
  have st:zx ["lot","most","found","bottom","of_bottom"] [d,.int k]=[some d,some (.int k),none,none,none]:=rfl;have q3:jx [some d,some (.int k),none,none,none] s=.ok (.nx [some d,some (.int k),some (.loc s.length),none,none]) (s++[[.tup [.int 1,.int (yN 1 ps q)]]]):=by
   have c:zd ye (za (zc 0) (za (eC (.int 1)) zp)) [some d,some (.int k),none,none,none] s=.ok (.int (yN 1 ps q)) s:=by rw [call2 (x:=d) (y:=.int 1) (by simp) (by simp)];exact h2 1 s (by decide) (by decide)
   have et:z2N (za (eC (.int 1)) (za (zd ye (za (zc 0) (za (eC (.int 1)) zp))) zp)) [some d,some (.int k),none,none,none] s=.ok (.tup [.int 1,.int (yN 1 ps q)]) s:=by
    simp only [z0O,zt,zN,kg,R.bind_ok,c];rw [if_pos (by simp [cap])]
   rw [jx,xA,zab,zt,et];simp only [R.bind_ok,zN];rw [if_pos ⟨by simp [cap],by rfl⟩];rfl
  obtain ⟨Z',S',lp,a3,a4,hZ,hS⟩:=z0F (all:=wJ 2 (k+1-2).toNat) (body:=fun x Z s=>(we 3 x Z s).bind fun Z' s'=>zZ uu uq Z' s') (fun i Z S=>∃ a3 a4,Z=[some d,some (.int k),some (.loc s.length),a3,a4]/\S=s++[(z04 ps q i).map pD]) (wJ 2 (k+1-2).toNat) 0 (by
   intro j x hx Z S ⟨a3,a4,hZ,hS⟩;subst hZ hS;rw [Nat.zero_add];obtain ⟨b,rfl,hb⟩:∃ b:Int,x=.int b/\2<=b/\b<=1000/\(j:Int)=b-2:=by
    simp only [wJ,List.getElem?_map,Option.map_eq_some_iff] at hx;obtain ⟨i,hi,rfl⟩:=hx;have hj:=(List.getElem?_eq_some_iff.mp hi).1;have he:i=j:=by simpa using ((List.getElem?_eq_some_iff.mp hi).2).symm
    simp at hj;exact ⟨2+i,rfl,by omega,by omega,by omega⟩
   have hbj:b=(j:Int)+2:=by omega
   have fx:=z9F (z04 ps q j);have hn:=z3A ps q j;have stp:=ke ps q j;have ex:(z04 ps q j).map pD=(z0x ps q j).1.map pD++[.tup [.int (z0x ps q j).2.1,.int (z0x ps q j).2.2]]:=by simp [z04,pD]
   have hn':((z04 ps q j).map pD).length<=j+1:=by simpa using hn
   generalize hxs:(z04 ps q j).map pD=xs at fx ex hn';generalize (z0x ps q j).1.map pD=pre at ex;generalize (z0x ps q j).2.1=a at ex;generalize (z0x ps q j).2.2=w at ex stp;have f5:uu [some d,some (.int k),some (.loc s.length),some (.int b),a4] (s++[xs])=.ok (.nx [some d,some (.int k),some (.loc s.length),some (.int b),some (.int (yN b ps q))]) (s++[xs]):=by rw [uu,xA,call2 (x:=d) (y:=.int b) (by simp) (by simp),h2 b _ (by omega) (by omega)];rfl
   have i1:=kN (x:=.loc s.length) (d:=.tup [.int a,.int w]) (xs:=pre) (s:=s++[xs]) (by simp [zL,ex]);have t6:tOf (eOp dLt (zc 4) (eOp dIx (eOp dIx (zc 2) (vt (eC (.int 1)))) (eC (.int 1)))) [some d,some (.int k),some (.loc s.length),some (.int b),some (.int (yN b ps q))] (s++[xs])=.ok (decide (yN b ps q<w)) (s++[xs]):=by
    refine wq ?_;rw [op2 (x:=.int (yN b ps q)) (y:=.int w) (by simp) (by
     rw [op2 (x:=.tup [.int a,.int w]) (y:=.int 1) (by rw [op2 (x:=.loc s.length) (y:=.int (-1)) (by simp) (by simp)];exact i1) (by simp)];rfl)];rfl
   have gt:(s++[xs])[s.length]? = some xs:=by simp
   rw [z0i,R.bind_ok];simp only [List.set_cons_succ,List.set_cons_zero];rw [zu f5];by_cases hw:yN b ps q<w
   ·have et:z2N (za (zc 3) (za (zc 4) zp)) [some d,some (.int k),some (.loc s.length),some (.int b),some (.int (yN b ps q))] (s++[xs])=.ok (.tup [.int b,.int (yN b ps q)]) (s++[xs]):=by
     simp only [z0O,zt,zN,yc,R.bind_ok,List.getElem?_cons_succ,List.getElem?_cons_zero];rw [if_pos (by simp [cap])]
    refine ⟨[some d,some (.int k),some (.loc s.length),some (.int b),some (.int (yN b ps q))],s++[xs++[.tup [.int b,.int (yN b ps q)]]],?_,_,_,rfl,by rw [stp,<- hbj,if_pos hw,List.map_append,hxs];rfl⟩;rw [uq,kC,t6,R.bind_ok,if_pos (by simpa using hw),z1k,z1M,zak];simp only [yc,List.getElem?_cons_zero,List.getElem?_cons_succ,R.bind_ok];rw [et];simp only [R.bind_ok];rw [gt];simp only;rw [if_pos ⟨rfl,by simp [cap];omega⟩,z96];rfl
   ·refine ⟨[some d,some (.int k),some (.loc s.length),some (.int b),some (.int (yN b ps q))],s++[xs],?_,_,_,rfl,by rw [stp,<- hbj,if_neg hw,hxs]⟩;rw [uq,kC,t6,R.bind_ok,if_neg (by simpa using hw)];rfl) [some d,some (.int k),some (.loc s.length),none,none] (s++[[.tup [.int 1,.int (yN 1 ps q)]]]) ⟨none,none,rfl,rfl⟩;simp only [vn,Mof,z32,st,List.length_cons,List.length_nil,if_true];rw [zu (Z':=[some d,some (.int k),none,none,none]) (s':=s) (by simp [h1])];rw [zu (Z':=[some d,some (.int k),none,none,none]) (s':=s) (by rw [z0Q,z1M,zg3 (x:=.int k) (y:=.int 1) (z:=.int 1000) (by simp) (by simp) (by simp),w2];rfl)];rw [zu q3];have it:z94 (za (eC (.int 2)) (za (eOp wZ (zc 1) (eC (.int 1))) zp)) [some d,some (.int k),some (.loc s.length),none,none] (s++[[.tup [.int 1,.int (yN 1 ps q)]]])=.ok (wJ 2 (k+1-2).toNat,[]) (s++[[.tup [.int 1,.int (yN 1 ps q)]]]):=by
   simp only [zdq,zt,zN,kg,wv,yc,R.bind_ok,List.getElem?_cons_succ,List.getElem?_cons_zero,z6S];rw [if_pos (by omega)]
  rw [zu (Z':=Z') (s':=S') (by rw [z0X,jg,it,R.bind_ok];exact lp),hZ,hS];have hk:0+(wJ 2 (k+1-2).toNat).length=(k-1).toNat:=by simp [wJ];omega
  rw [hk];rfl
 exact key _ w1 wo
end Pp
namespace Pp
open L2 Pm Pg Dd
variable {ps:List Int}{q:Int}
theorem z0W:∀ k:Nat,(z0x ps q k).2.2=yN (z0x ps q k).2.1 ps q/\1<=(z0x ps q k).2.1/\(z0x ps q k).2.1<=k+1/\∀ b:Int,1<=b->b<=k+1->(z0x ps q k).2.2<=yN b ps q
 | 0=>⟨rfl,Int.le_refl _,by simp [z0x],fun b h1 h2=>by
   have:b=1:=by simp at h2;omega
   subst this;exact Int.le_refl _⟩ | k+1=>by
  obtain ⟨h1,h2,h3,h4⟩:=z0W k;simp only [z0x];split
  ·rename_i hw;refine ⟨rfl,by simp only;omega,by push_cast;omega,fun b b1 b2=>?_⟩;by_cases z:b<=(k:Int)+1
   ·have:=h4 b b1 z;simp only;omega
   ·have:b=(k:Int)+2:=by push_cast at b2;omega
    subst this;exact Int.le_refl _
  ·rename_i hw;refine ⟨h1,h2,by push_cast;omega,fun b b1 b2=>?_⟩;by_cases z:b<=(k:Int)+1;·exact h4 b b1 z
   ·have:b=(k:Int)+2:=by push_cast at b2;omega
    subst this;omega
theorem z6r:∀ (k:Nat)(p:Int×Int),p∈z04 ps q k->p.2=yN p.1 ps q/\1<=p.1/\p.1<=k+1
 | 0,p,h=>by
  simp only [z04,z0x,List.nil_append,List.mem_singleton] at h;subst h;exact ⟨rfl,Int.le_refl _,by simp⟩ | k+1,p,h=>by
  rw [ke] at h;split at h
  ·rcases List.mem_append.mp h with h | h
   ·obtain ⟨h1,h2,h3⟩:=z6r k p h;exact ⟨h1,h2,by push_cast;omega⟩
   ·simp only [List.mem_singleton] at h;subst h;exact ⟨rfl,by simp;omega,by push_cast;omega⟩
  ·obtain ⟨h1,h2,h3⟩:=z6r k p h;exact ⟨h1,h2,by push_cast;omega⟩
def Nxt(ps:List Int)(q:Int)(x y:Int×Int):Prop:=y.2<x.2/\x.1<y.1/\y.2=yN y.1 ps q/\(x.1+1<y.1->x.2<=yN (y.1-1) ps q)
theorem zb8{α:Type}(l:List α)(a b:α):List.zip (l++[a]++[b]) ((l++[a]++[b]).drop 1)=List.zip (l++[a]) ((l++[a]).drop 1)++[(a,b)]:=by induction l with
 | nil=>rfl | cons x l ih=> cases l with
  | nil=>rfl | cons y l=>
   simp only [List.cons_append,List.drop_succ_cons,List.drop_zero,List.zip_cons_cons] at ih ⊢;rw [ih]
theorem z3m:∀ (k:Nat),∀ z∈List.zip (z04 ps q k) ((z04 ps q k).drop 1),Nxt ps q z.1 z.2
 | 0,z,h=>by simp [z04,z0x] at h | k+1,z,h=>by
  rw [ke] at h;split at h
  ·rename_i hw;rw [show z04 ps q k=(z0x ps q k).1++[(z0x ps q k).2] from rfl,zb8] at h;rcases List.mem_append.mp h with h | h;·exact z3m k z h
   ·simp only [List.mem_singleton] at h;subst h;obtain ⟨h1,h2,h3,h4⟩:=z0W (ps:=ps) (q:=q) k;refine ⟨hw,by simp only;omega,rfl,fun hh=>?_⟩;simp only at hh ⊢;exact h4 _ (by omega) (by omega)
  ·exact z3m k z h
theorem z6V:∀ k:Nat,(z04 ps q k).head? = some (1,yN 1 ps q)
 | 0=>rfl | k+1=>by
  have:=z6V k;rw [ke];split;·rw [List.head?_append,this];rfl
  ·exact this
theorem zbr {N:Nat} (hq:0<q) (hps:∀ p∈ps,0<=p) (hne:ps≠[]) (hN:0<N):minL ((z04 ps q (N ^ ps.length-1)).map Prod.snd)*N<=q:=by
 obtain ⟨Q,rfl⟩:=Int.eq_ofNat_of_zero_le (Int.le_of_lt hq);obtain ⟨ns,rfl⟩:∃ ns:List Nat,ps=ns.map (Nat.cast:Nat->Int):=⟨ps.map Int.toNat,by
  rw [List.map_map];conv=>lhs;rw [<- List.map_id ps]
  exact List.map_congr_left fun p hp=>by simp [Int.toNat_of_nonneg (hps p hp)]⟩;obtain ⟨b,b1,b2,hb⟩:=dirichlet (N:=N) (q:=Q) ns (by omega) hN;have hk:1<=N ^ (ns.map (Nat.cast:Nat->Int)).length:=Nat.one_le_pow _ _ hN;have lst:=(z0W (ps:=ns.map (Nat.cast:Nat->Int)) (q:=(Q:Int)) (N ^ (ns.map (Nat.cast:Nat->Int)).length-1)).2.2.2 b (by omega) (by
  have:b<=N ^ (ns.map (Nat.cast:Nat->Int)).length:=by simpa using b2
  omega);have hw:yN b (ns.map (Nat.cast:Nat->Int)) Q*N<=Q:=by
  have hm:yN b (ns.map (Nat.cast:Nat->Int)) Q∈(ns.map (Nat.cast:Nat->Int)).map fun p=>kr (vB b Q p):=maxL_mem (by simpa using hne);obtain ⟨p,hp,e⟩:=List.mem_map.mp hm;obtain ⟨n,hn,rfl⟩:=List.mem_map.mp hp;rw [<- e];exact hb n hn
 have hmin:minL ((z04 (ns.map (Nat.cast:Nat->Int)) (Q:Int) (N ^ (ns.map (Nat.cast:Nat->Int)).length-1)).map Prod.snd)<=yN b (ns.map (Nat.cast:Nat->Int)) Q:=Int.le_trans (minL_le _ (List.mem_map.mpr ⟨_,by simp [z04],rfl⟩)) lst;exact Int.le_trans (Int.mul_le_mul_of_nonneg_right hmin (by omega)) hw
theorem z7w{b:Int}(hq:0<q)(hne:ps≠[]):2*yN b ps q<=q:=by
 have hm:yN b ps q∈ps.map fun p=>kr (vB b q p):=maxL_mem (by simpa using hne);obtain ⟨p,hp,e⟩:=List.mem_map.mp hm;rw [<- e];exact z3N hq
theorem zgD{b p:Int}(hp:p∈ps):kr (vB b q p)<=yN b ps q:=maxL_ge _ (List.mem_map.mpr ⟨p,hp,rfl⟩)
theorem z6C{F:List (List Int)}{c d:List Int}(h:d∈F\/d=c):d∈zc0 F c:=by
 unfold zc0;split;·rename_i hc;rcases h with h | rfl;exact h;exact hc
 ·rcases h with h | rfl<;>simp [*]
theorem zb2{F:List (List Int)}{c d:List Int}(h:d∈F):d∈z6s F c:=by unfold z6s;split;exact h;exact z6C (.inl h)
theorem z1n:∀ (cs:List (List Int))(F:List (List Int))(d:List Int),(d∈F\/(d∈cs/\d.getLast? ≠ some 0))->d∈cs.foldl z6s F
 | [],F,d,h=>by
  rcases h with h | h;·exact h
  ·exact absurd h.1 (by simp) | c::cs,F,d,h=>by
  rw [List.foldl_cons];refine z1n cs (z6s F c) d ?_;rcases h with h | ⟨h,h0⟩;·exact .inl (zb2 h)
  ·rcases List.mem_cons.mp h with rfl | h;·left;unfold z6s;rw [if_neg h0];exact z6C (.inr rfl)
   ·exact .inr ⟨h,h0⟩
theorem z7B:∀ (Ps:List Tb)(F:List (List Int))(d:List Int),(d∈F\/∃ P∈Ps,d∈zU P/\d.getLast? ≠ some 0)->d∈z8A F Ps
 | [],F,d,h=>by
  rcases h with h | ⟨P,h,_⟩;·exact h
  ·exact absurd h (by simp) | P::Ps,F,d,h=>by
  show d∈z8A (zfR F P) Ps;refine z7B Ps _ d ?_;rcases h with h | ⟨Q,hQ,h1,h0⟩;·exact .inl (z1n _ _ _ (.inl h))
  ·rcases List.mem_cons.mp hQ with rfl | hQ;·exact .inl (z1n _ _ _ (.inr ⟨h1,h0⟩))
   ·exact .inr ⟨Q,hQ,h1,h0⟩
theorem z7b:∀ (r z:List Int),(∀ i,z.getD i 0=0)->dot r z=0
 | [],z,_=>by simp [dot] | _::_,[],_=>by simp [dot] | a::r,b::z,h=>by
  have h0:b=0:=by simpa using h 0
  have:=z7b r z fun i=>by simpa using h (i+1)
  simp only [dot,List.zipWith_cons_cons,List.sum_cons] at this ⊢;rw [this,h0];omega
theorem qN:∀ (r z:List Int)(j:Nat),r.length=z.length->(∀ i,i≠j->z.getD i 0=0)->dot r z=r.getD j 0*z.getD j 0
 | [],[],j,_,_=>by simp [dot] | [],_::_,_,h,_=>by simp at h | _::_,[],_,h,_=>by simp at h | a::r,b::z,0,_,h=>by
  have:=z7b r z fun i=>by simpa using h (i+1) (by omega)
  simp only [dot,List.zipWith_cons_cons,List.sum_cons] at this ⊢;rw [this];simp | a::r,b::z,j+1,hl,h=>by
  have h0:b=0:=by simpa using h 0 (by omega)
  have:=qN r z j (by simpa using hl) fun i hi=>by simpa using h (i+1) (by omega)
  simp only [dot,List.zipWith_cons_cons,List.sum_cons] at this ⊢;rw [this,h0];simp
theorem zcz:∀ (z:List Int),nz z=[]->∀ i,z.getD i 0=0
 | [],_,i=>by simp | a::z,h,i=>by
  have ha:a=0:=by
   by_cases ha:a=0;·exact ha
   ·simp [nz,ha] at h
  have hz:nz z=[]:=by simpa [nz,ha] using h
  cases i with
  | zero=>simpa using ha | succ i=>simpa using zcz z hz i
theorem zc3:∀ (z:List Int)(x:Int),nz z=[x]->∃ j,j<z.length/\z.getD j 0=x/\∀ i,i≠j->z.getD i 0=0
 | [],x,h=>by simp [nz] at h | a::z,x,h=>by
  by_cases ha:a=0
  ·have hz:nz z=[x]:=by simpa [nz,ha] using h
   obtain ⟨j,h1,h2,h3⟩:=zc3 z x hz;refine ⟨j+1,by simpa using h1,by simpa using h2,fun i hi=>?_⟩;cases i with
   | zero=>simpa using ha | succ i=>simpa using h3 i (by omega)
  ·have h':a=x/\nz z=[]:=by simpa [nz,ha] using h
   refine ⟨0,by simp,by simpa using h'.1,fun i hi=>?_⟩;cases i with
   | zero=>exact absurd rfl hi | succ i=>simpa using zcz z h'.2 i
theorem z4W{n:Nat}{r:Rl}{v:List Int}{ls:List (List Int)}(h:Lot n v)(R:Run r v ls):v.map (fun x=>x / uZ v)∈zU (z1o n (zM r ls))/\0<uZ v:=by
 obtain ⟨z,_,he,lz,hg,I⟩:=R.whole h (B:=maxL v) fun y hy=>maxL_ge y hy;have l1:(nz z).length=1:=by simpa [ended] using he
 obtain ⟨x,ex⟩:∃ x,nz z=[x]:=by match hz:nz z,l1 with | [x],_=>exact ⟨x,rfl⟩
 have sm:=zah lz he;have hx:x=uZ v:=by rw [<- hg,<- sm,zae,ex];simp
 have x0:0<x:=by
  have xm:=uK.mp (show x∈nz z by rw [ex];simp);have:=lz.nn x xm.1;omega
 obtain ⟨j,hj,e1,e2⟩:=zc3 z x ex;refine ⟨?_,by omega⟩;have eq:=I.eq;have tl:=I.tab.len;have e:v.map (fun x=>x / uZ v)=(z1o n (zM r ls)).map fun row=>row.getD j 0:=by
  conv=>lhs;rw [<- eq]
  rw [mv,List.map_map];refine List.map_congr_left fun row hr=>?_;show dot row z / uZ (mv _ z)=_;rw [show mv (z1o n (zM r ls)) z=v from eq,qN row z j (by rw [I.tab.row row hr,lz.len]) e2,e1,<- hx,Int.mul_ediv_cancel _ (by omega)]
 rw [e,zU];exact List.mem_map.mpr ⟨j,by rw [List.mem_range,tl,<- lz.len];exact hj,rfl⟩
theorem zbG{n:Nat}{r:Rl}{ps:List Int}{q:Int}{ls:List (List Int)}(h:Lot n (ps++[q]))(hq:0<q)(R:Run r (ps++[q]) ls)(he:ended (ps++[q])=false):(ps++[q]).map (fun x=>x / uZ (ps++[q]))∈zdD n r ls:=by
 obtain ⟨hc,g0⟩:=z4W h R;refine z7B _ _ _ (.inr ⟨z1o n (zM r ls),?_,hc,?_⟩);·cases R with
  | done e=>rw [he] at e;cases e | @step _ ls' e R2=>
   have la:=kq (zM r ((ps++[q])::ls')) (one n);rw [R2.tabs_cons] at la ⊢;rw [wU] at la ⊢;simp only [List.drop_succ_cons,List.drop_zero];rw [List.getLast?_cons] at la;have ne:(wU (z0d (one n) (z0f r (ps++[q]))) (zM r ls')).getLast?.isSome=true:=by rw [kq];rfl
   obtain ⟨w,hw⟩:=Option.isSome_iff_exists.mp ne;rw [hw] at la;have hw2:w=z1o n (z0f r (ps++[q])::zM r ls'):=by simpa [z1o] using la
   rw [<- hw2];exact List.mem_of_getLast? hw
 ·have dv:uZ (ps++[q]) ∣ q:=qL q (by simp);obtain ⟨k,hk⟩:=dv;rw [List.map_append,List.map_cons,List.map_nil,List.getLast?_concat];intro z;have z:q / uZ (ps++[q])=0:=by simpa using z
  generalize uZ (ps++[q])=g at *;subst hk;rw [Int.mul_ediv_cancel_left _ (by omega)] at z;subst z;simp at hq
theorem za9{n:Nat}{r:Rl}{v:List Int}{ls:List (List Int)}(R:Run r v ls)(he:ended v=true):zdD n r ls=[]:=by cases R with
 | done e=>simp [zdD,zM,wU,z8A] | step e R2=>rw [he] at e;cases e
theorem z8Y{ps:List Int}{q p g:Int}(hq:0<q)(hg:0<g)(h1:g ∣ q)(h2:g ∣ p):vB (q / g) q p=0:=by
 obtain ⟨a,rfl⟩:=h1;obtain ⟨b,rfl⟩:=h2;have ea:g*a / g=a:=Int.mul_ediv_cancel_left _ (by omega);have e:a*(g*b)=b*(g*a):=by rw [Int.mul_left_comm,Int.mul_comm a b,Int.mul_left_comm]
 have m0:a*(g*b) % (g*a)=0:=by rw [e];exact Int.mul_emod_left _ _
 have d0:a*(g*b) / (g*a)=b:=by rw [e];exact Int.mul_ediv_cancel _ (by omega)
 unfold vB uV z11;rw [ea,m0,d0,if_neg (by omega),e];omega
end Pp
namespace K45
open PySem.Spec L2 Dd Pm Pg Pn Pp
theorem z7J(f g:Int->Int):∀ l:List Int,jJ (iL l) (iL (l.map f)) (iL (l.map g))=l.map fun p=>D.tup [.int p,.int (f p),.int (g p)]
 | []=>rfl | p::l=>by
  have:=z7J f g l;simp only [iL,List.map_cons,jJ] at this ⊢;rw [this]
section
variable {n m:Nat}{ps:List Int}{q b:Int}
theorem zi4(h1:1<=b)(h2:b<=10 ^ 12):b.natAbs<BIG:=by
 have:(10:Nat) ^ 12<BIG:=by decide +kernel
 omega
theorem zdC(h:Bot n m ps q)(hm:m<=1900):q.natAbs<BIG:=Pp.big_of (by have:=h.pos;omega) h.q_bd (by omega)
theorem zhy(h:Bot n m ps q)(hm:m<=1900)(h1:1<=b)(h2:b<=10 ^ 12){p:Int}(hp:p∈ps)(s:Sto):yP (.int b) (.int p) s=.ok (.int (b*p)) s:=by
 have:=h.p_bd hp;rw [qf,if_pos ⟨zi4 h1 h2,Pp.big_of this.1 this.2 (by omega)⟩]
theorem zhN(h:Bot n m ps q)(hm:m<=1900)(h1:1<=b)(h2:b<=10 ^ 12){p:Int}(hp:p∈ps)(s:Sto):yP (.int (uV b q p)) (.int q) s=.ok (.int (uV b q p*q)) s:=by
 have hp':=h.p_bd hp;have h0:0<=b*p:=Int.mul_nonneg (by omega) hp'.1;have nb:=z9C (a:=b*p) h.pos h0;have b2:b*p<=10 ^ 12*(2 ^ m-1):=Int.mul_le_mul h2 (by omega) hp'.1 (by decide);have e40:(10:Int) ^ 12*2 ^ m<=2 ^ (m+40):=by
  rw [Int.pow_add,Int.mul_comm];exact Int.mul_le_mul_of_nonneg_left (by decide) (Int.le_of_lt (Int.pow_pos (by decide)))
 have nb2:=nb.2;have e12:(10:Int) ^ 12*(2 ^ m-1)=10 ^ 12*2 ^ m-10 ^ 12:=by rw [Int.mul_sub,Int.mul_one]
 have lt40:z11 (b*p) q<2 ^ (m+40):=by omega
 have bt:(uV b q p).natAbs<BIG:=Pp.big_of (m:=m+40) nb.1 lt40 (by omega);rw [qf,if_pos ⟨bt,zdC h hm⟩]
theorem z9a (h:Bot n m ps q) (hm:m<=1900):(yN b ps q).natAbs<BIG/\0<=yN b ps q:=by
 have h1:=z7w (b:=b) (ps:=ps) h.pos h.ne;have h2:0<=yN b ps q:=by
  have hm:yN b ps q∈ps.map fun p=>kr (vB b q p):=maxL_mem (by simpa using h.ne);obtain ⟨p,hp,e⟩:=List.mem_map.mp hm;rw [<- e];unfold kr;split<;>omega
 have:=zdC h hm;have:=h.pos;exact ⟨by omega,h2⟩
theorem z4V (h:Bot n m ps q) (hm:m<=1900) (h1:1<=b) (h2:b<=10 ^ 12) (s:Sto):zP [rD (ps++[q]),.int b] s=.ok (.bl true) s:=by
 have tp:=zbW h (by omega) h1 h2 s;have er:=z6K h (by omega) h1 h2 s;have wo:=z3J h (by omega) h1 h2 s;have sl:=z0T ps q s;have ix:=kG ps q s;have m1:=fun p hp=>zhy h hm h1 h2 (p:=p) hp s;have m2:=fun p hp=>zhN h hm h1 h2 (p:=p) hp s;have wb:=z9a (b:=b) h hm;have key:∀ d:D,M_tops [d,.int b] s=.ok (rD (ps.map (uV b q))) s->xu [d,.int b] s=.ok (rD (ps.map (vB b q))) s->ye [d,.int b] s=.ok (.int (yN b ps q)) s->dSl d none (some (-1)) s=.ok (.tup (iL ps)) s->dIx d (.int (-1)) s=.ok (.int q) s-> zP [d,.int b] s=.ok (.bl true) s:=fun d x1 x2 x3 x4 x5=>by
  have st:zx ["_law_lot_here","_law_bottom","_law_part","_law_top","_law_error"] [d,.int b]=[some d,some (.int b),none,none,none]:=rfl;have xi:∀ a2 a3 a4:Option D,eOp dIx (zc 0) (vt (eC (.int 1))) [some d,some (.int b),a2,a3,a4] s=.ok (.int q) s:=fun a2 a3 a4=>by rw [op2 (x:=d) (y:=.int (-1)) (by simp) (by simp)];exact x5
  have xw:∀ a2 a3 a4:Option D,zd ye (za (zc 0) (za (zc 1) zp)) [some d,some (.int b),a2,a3,a4] s=.ok (.int (yN b ps q)) s:=fun a2 a3 a4=>by rw [call2 (x:=d) (y:=.int b) (by simp) (by simp)];exact x3
  have it:z8T (za (eSl (zc 0) zI (xl (vt (eC (.int 1))))) (za (zd M_tops (za (zc 0) (za (zc 1) zp))) (za (zd xu (za (zc 0) (za (zc 1) zp))) zp))) [some d,some (.int b),none,none,none] s=.ok (ps.map fun p=>D.tup [.int p,.int (uV b q p),.int (vB b q p)],[]) s:=by
   have e1:eSl (zc 0) zI (xl (vt (eC (.int 1)))) [some d,some (.int b),none,none,none] s=.ok (.tup (iL ps)) s:=by simp only [z0t,yc,List.getElem?_cons_zero,R.bind_ok,yS,wK,kX,kg];exact x4
   rw [zeu,zt,e1,R.bind_ok,zt,call2 (x:=d) (y:=.int b) (by simp) (by simp),x1,R.bind_ok,zt,call2 (x:=d) (y:=.int b) (by simp) (by simp),x2];simp only [R.bind_ok,zN,z2O];rw [if_pos (by simp),z7J];rfl
  obtain ⟨Z',S',lp,a2,a3,a4,hZ,hS⟩:=jM (all:=ps.map fun p=>D.tup [.int p,.int (uV b q p),.int (vB b q p)]) (body:=fun x Z s=>(zeP 2 3 4 x Z s).bind fun Z' s'=>xk Z' s') (fun Z S=>∃ a2 a3 a4,Z=[some d,some (.int b),a2,a3,a4]/\S=s) (ps.map fun p=>D.tup [.int p,.int (uV b q p),.int (vB b q p)]) (fun x hx Z S ⟨a2,a3,a4,hZ,hS⟩=>by
   subst hZ hS;obtain ⟨p,hp,rfl⟩:=List.mem_map.mp hx;refine ⟨[some d,some (.int b),some (.int p),some (.int (uV b q p)),some (.int (vB b q p))],S,?_,_,_,_,rfl,rfl⟩;rw [zfL,R.bind_ok];simp only [List.set_cons_succ,List.set_cons_zero];rw [xk,zaA];·rfl
   ·refine zad (wq ?_) (wq ?_)
    ·rw [op2 (x:=.int (b*p)) (y:=.int (uV b q p*q+vB b q p)) (by rw [op2 (x:=.int b) (y:=.int p) (by simp) (by simp)];exact m1 p hp) (by rw [op2 (x:=.int (uV b q p*q)) (y:=.int (vB b q p)) (by rw [op2 (x:=.int (uV b q p)) (y:=.int q) (by simp) (xi _ _ _)];exact m2 p hp) (by simp)];rfl)];rw [show uV b q p*q+vB b q p=b*p by unfold vB;omega,z9d];simp
    ·rw [op2 (x:=.int (kr (vB b q p))) (y:=.int (yN b ps q)) (by rw [uT (x:=.int (vB b q p)) (by simp)];rfl) (xw _ _ _),zaT];have:=zgD (b:=b) (q:=q) hp;simp only [R.ok.injEq,D.bl.injEq,decide_eq_false_iff_not,and_true];omega) [some d,some (.int b),none,none,none] s ⟨none,none,none,rfl,rfl⟩;simp only [zP,Mof,wR,st,List.length_cons,List.length_nil,if_true];rw [zu (Z':=Z') (s':=S') (by rw [wB,jg,it,R.bind_ok];exact lp),hZ,hS];have wh:=z7w (b:=b) (ps:=ps) h.pos h.ne;have b2:(2:Int).natAbs<BIG:=by decide +kernel
  rw [wA,xc,op2 (x:=.int (2*yN b ps q)) (y:=.int q) (by rw [op2 (x:=.int 2) (y:=.int (yN b ps q)) (by simp) (xw _ _ _),qf,if_pos ⟨b2,wb.1⟩]) (xi _ _ _),zdM,decide_eq_true wh];rfl
 exact key _ tp er wo sl ix
end
theorem z7d{α β:Type}(f:α->D)(g:β->D):∀ (l:List α)(k:List β),z0A (l.map f) (k.map g)=(List.zip l k).map fun z=>D.tup [f z.1,g z.2]
 | [],_=>by simp [z0A] | _::_,[]=>by simp [z0A] | a::l,b::k=>by
  have:=z7d f g l k;simp [z0A,this]
theorem zfz{ns:List Int}(s:Sto)(h:ns≠[]):z0n [.lst (iL ns)] s=.ok (.int (minL ns)) s:=by cases ns with
 | nil=>exact absurd rfl h | cons n ns=>simp only [z0n,zL,Option.bind_some,xK]
theorem zgG{t u w:FT}{Z:Ev}{s:Sto}(h:t Z s=.ok false s)(h2:u Z s=.ok false s)(h3:w Z s=.ok false s):fOr t (fOr u w) Z s=.ok false s:=zad h (zad h2 h3)
theorem and_1{t u:FT}{Z:Ev}{s:Sto}(h:t Z s=.ok false s):zdd t u Z s=.ok false s:=by rw [zcA,h,R.bind_ok,if_neg (by decide)]
theorem and_2{t u:FT}{Z:Ev}{s:Sto}{b:Bool}(h:t Z s=.ok true s)(h2:u Z s=.ok b s):zdd t u Z s=.ok b s:=by rw [zcA,h,R.bind_ok,if_pos rfl,h2]
section
variable {n m:Nat}{ps:List Int}{q:Int}
theorem z3t (h:Bot n m ps q) (hm:m<=1900) {N:Nat} (hN1:1<=N) (hN2:N<=6) (s:Sto):zF [rD (ps++[q]),.int N] s=.ok (.bl true) s:=by
 have sl:=z0T ps q s;have ix:=kG ps q s;have lp4:ps.length<=3:=by have h1:=h.lot.len;have h2:=h.lot.sz;unfold Sz at h2;simp at h1;omega
 have pw1:1<=N ^ ps.length:=Nat.one_le_pow _ _ hN1;have pw2:N ^ ps.length<=216:=Nat.le_trans (Nat.pow_le_pow_left hN2 _) (Nat.le_trans (Nat.pow_le_pow_right (by decide) lp4) (by decide));have rc:=zfG h (k:=((N ^ ps.length:Nat):Int)) (by omega) (by omega) (by omega) s;rw [show (((N ^ ps.length:Nat):Int)-1).toNat=N ^ ps.length-1 by omega] at rc;have wo:∀ b:Int,1<=b->b<=1001->ye [rD (ps++[q]),.int b] s=.ok (.int (yN b ps q)) s:=fun b h1 h2=>z3J h (by omega) h1 (by omega) s;have near:=zbr (ps:=ps) (q:=q) (N:=N) h.pos (fun p hp=>(h.p_bd hp).1) h.ne (by omega);have hd:=z6V (ps:=ps) (q:=q) (N ^ ps.length-1);have mem:=z6r (ps:=ps) (q:=q) (N ^ ps.length-1);have nxt:=z3m (ps:=ps) (q:=q) (N ^ ps.length-1);have ln:=z3A ps q (N ^ ps.length-1);generalize z04 ps q (N ^ ps.length-1)=L at rc near hd mem nxt ln;obtain ⟨L',rfl⟩:∃ L',L=(1,yN 1 ps q)::L':=by cases L with
  | nil=>simp at hd | cons a L'=>exact ⟨L',by simp at hd;rw [hd]⟩
 have mbig:(minL (((1,yN 1 ps q)::L').map Prod.snd)).natAbs<BIG:=by
  have hmm:=minL_mem (xs:=((1,yN 1 ps q)::L').map Prod.snd) (by simp);obtain ⟨x,hx,e⟩:=List.mem_map.mp hmm;rw [<- e,(mem x hx).1];exact (z9a h hm).1
 have nbig:((N:Nat):Int).natAbs<BIG:=by
  have:6<BIG:=by decide +kernel
  omega
 have key:∀ d:D,dSl d none (some (-1)) s=.ok (.tup (iL ps)) s->dIx d (.int (-1)) s=.ok (.int q) s->vn [d,.int ((N ^ ps.length:Nat):Int)] s=.ok (.loc s.length) (s++[((1,yN 1 ps q)::L').map pD])->(∀ b:Int,1<=b->b<=1001->ye [d,.int b] s=.ok (.int (yN b ps q)) s)-> zF [d,.int N] s=.ok (.bl true) s:=fun d x1 x2 x3 x4=>by
  have st:zx ["_law_lot_here","_law_often","_law_most","_law_part","_law_some","_law_bottom","_law_own","_law_other","_law_later"] [d,.int N]=[some d,some (.int N),none,none,none,none,none,none,none]:=rfl;have xi:∀ a2 a3 a4 a5 a6 a7 a8:Option D,eOp dIx (zc 0) (vt (eC (.int 1))) [some d,some (.int N),a2,a3,a4,a5,a6,a7,a8] s=.ok (.int q) s:=fun a2 a3 a4 a5 a6 a7 a8=>by rw [op2 (x:=d) (y:=.int (-1)) (by simp) (by simp)];exact x2
  have e1:eSl (zc 0) zI (xl (vt (eC (.int 1)))) [some d,some (.int N),some (.int 1),none,none,none,none,none,none] s=.ok (.tup (iL ps)) s:=by simp only [z0t,yc,List.getElem?_cons_zero,R.bind_ok,yS,wK,kX,kg];exact x1
  obtain ⟨Z2,S2,lp2,a3,hZ2,hS2⟩:=z0F (all:=iL ps) (body:=fun x Z s=>(we 3 x Z s).bind fun Z' s'=>yZ Z' s') (fun i Z S=>∃ a3,Z=[some d,some (.int N),some (.int ((N ^ i:Nat):Int)),a3,none,none,none,none,none]/\S=s) (iL ps) 0 (fun j x hx Z S ⟨a3,hZ,hS⟩=>by
   subst hZ hS;have hj:j<ps.length:=by have:=(List.getElem?_eq_some_iff.mp hx).1;simpa using this
   rw [Nat.zero_add];refine ⟨[some d,some (.int N),some (.int ((N ^ (j+1):Nat):Int)),some x,none,none,none,none,none],S,?_,_,rfl,rfl⟩;have pj:N ^ j<=216:=Nat.le_trans (Nat.pow_le_pow_left hN2 _) (Nat.le_trans (Nat.pow_le_pow_right (by decide) (show j<=3 by omega)) (by decide));have bj:(((N ^ j:Nat):Int)).natAbs<BIG:=by
    have:216<BIG:=by decide +kernel
    omega
   rw [z0i,R.bind_ok];simp only [List.set_cons_succ,List.set_cons_zero];rw [yZ,xA,op2 (x:=.int ((N ^ j:Nat):Int)) (y:=.int N) (by simp) (by simp),qf,if_pos ⟨bj,nbig⟩,R.bind_ok];simp only [List.set_cons_succ,List.set_cons_zero];rw [Nat.pow_succ];push_cast;rfl) [some d,some (.int N),some (.int ((N ^ 0:Nat):Int)),none,none,none,none,none,none] s ⟨none,rfl,rfl⟩;rw [Nat.zero_add,show (iL ps).length=ps.length by simp] at hZ2;let Z4:Ev:=[some d,some (.int N),some (.int ((N ^ ps.length:Nat):Int)),a3,some (.lst (((1,yN 1 ps q)::L').map pD)),none,none,none,none];have q4:yW [some d,some (.int N),some (.int ((N ^ ps.length:Nat):Int)),a3,none,none,none,none,none] s=.ok (.nx Z4) s:=by
   rw [yW,xA,z38,call2 (x:=d) (y:=.int ((N ^ ps.length:Nat):Int)) (by simp) (by simp),x3,z40];rfl
  have lc:(((1,yN 1 ps q)::L').map pD).length<=cap:=by simp [cap] at ln ⊢;omega
  have i0:∀ a5 a6 a7 a8:Option D,eOp dIx (zc 4) (eC (.int 0)) [some d,some (.int N),some (.int ((N ^ ps.length:Nat):Int)),a3,some (.lst (((1,yN 1 ps q)::L').map pD)),a5,a6,a7,a8] s=.ok (pD (1,yN 1 ps q)) s:=fun a5 a6 a7 a8=>by
   rw [op2 (x:=.lst (((1,yN 1 ps q)::L').map pD)) (y:=.int 0) (vr rfl) rfl];exact zcc (by decide) (by simp)
  have q5:yX Z4 s=.ok (.nx Z4) s:=by
   have cm:zK (yB (zc 4)) [none,none] (vZ 0 1) yM (zc 1) Z4 s=.ok (.lst (((1,yN 1 ps q)::L').map fun p=>D.int p.2)) s:= comp_map pD (fun p=>D.int p.2) (fun p=>[some (.int p.1),some (.int p.2)]) ((1,yN 1 ps q)::L') (qH (vr rfl)) (fun p _=>rfl) (fun p _=>vr rfl) (by simpa using lc);have e2:(((1,yN 1 ps q)::L').map fun p=>D.int p.2)=iL (((1,yN 1 ps q)::L').map Prod.snd):=by simp [iL,Function.comp_def]
   rw [e2] at cm;rw [yX,zaA];·rfl
   ·refine zad (wq ?_) (wq ?_)
    ·rw [op2 (x:=.int 1) (y:=.int 1) (by rw [op2 (i0 _ _ _ _) (y:=.int 0) rfl];rfl) rfl,z9d];rfl
    ·rw [op2 (x:=.int (minL (((1,yN 1 ps q)::L').map Prod.snd)*N)) (y:=.int q) (by rw [op2 (x:=.int (minL (((1,yN 1 ps q)::L').map Prod.snd))) (y:=.int N) (by rw [uT cm];exact zfz s (by simp)) (vr rfl),qf,if_pos ⟨mbig,nbig⟩]) (xi _ _ _ _ _ _ _),zaT];simp only [R.ok.injEq,D.bl.injEq,decide_eq_false_iff_not,and_true];omega
  have it:z8n (za (zc 4) (za (eSl (zc 4) (xl (eC (.int 1))) zI) zp)) Z4 s=.ok ((List.zip ((1,yN 1 ps q)::L') (((1,yN 1 ps q)::L').drop 1)).map fun z=>D.tup [pD z.1,pD z.2],[]) s:=by
   have e3:eSl (zc 4) (xl (eC (.int 1))) zI Z4 s=.ok (.lst ((((1,yN 1 ps q)::L').drop 1).map pD)) s:=by
    rw [z0t,vr (d:=.lst (((1,yN 1 ps q)::L').map pD)) rfl,R.bind_ok];simp only [R.bind_ok,yS,wK,kg,dSl,Dd.listOf];rw [show (1:Int)=((1:Nat):Int) from rfl,z7t,List.map_drop]
   rw [z6X,zt,vr (d:=.lst (((1,yN 1 ps q)::L').map pD)) rfl,R.bind_ok,zt,e3];simp only [R.bind_ok,zN,z2O];rw [z7d];rfl
  obtain ⟨Z7,S7,lp7,a5,a6,a7,a8,hZ7,hS7⟩:=jM (all:=(List.zip ((1,yN 1 ps q)::L') (((1,yN 1 ps q)::L').drop 1)).map fun z=>D.tup [pD z.1,pD z.2]) (body:=fun x Z s=>(gPP 5 6 7 8 x Z s).bind fun Z' s'=>zZ yu yp Z' s') (fun Z S=>∃ a5 a6 a7 a8,Z=[some d,some (.int N),some (.int ((N ^ ps.length:Nat):Int)),a3,some (.lst (((1,yN 1 ps q)::L').map pD)),a5,a6,a7,a8]/\S=s) ((List.zip ((1,yN 1 ps q)::L') (((1,yN 1 ps q)::L').drop 1)).map fun z=>D.tup [pD z.1,pD z.2]) (fun x hx Z S ⟨a5,a6,a7,a8,hZ,hS⟩=>by
   subst hZ hS;obtain ⟨z,hz,rfl⟩:=List.mem_map.mp hx;obtain ⟨n1,n2,n3,n4⟩:=nxt z hz;have mz:=List.of_mem_zip (a:=z.1) (b:=z.2) hz;have z1:=mem z.1 mz.1;have z2:=mem z.2 (List.mem_of_mem_drop mz.2);obtain ⟨⟨xb,xo⟩,⟨yb,yo⟩⟩:=z;simp only at n1 n2 n3 n4 z1 z2;have u1:yb<=216:=by omega
   refine ⟨[some d,some (.int N),some (.int ((N ^ ps.length:Nat):Int)),a3,some (.lst (((1,yN 1 ps q)::L').map pD)),some (.int xb),some (.int xo),some (.int yb),some (.int yo)],S,?_,_,_,_,_,rfl,rfl⟩;show zZ yu yp [some d,some (.int N),some (.int ((N ^ ps.length:Nat):Int)),a3,some (.lst (((1,yN 1 ps q)::L').map pD)),some (.int xb),some (.int xo),some (.int yb),some (.int yo)] S=_;generalize hL:D.lst (((1,yN 1 ps q)::L').map pD)=LL;have w1:zd ye (za (zc 0) (za (zc 7) zp)) [some d,some (.int N),some (.int ((N ^ ps.length:Nat):Int)),a3,some LL,some (.int xb),some (.int xo),some (.int yb),some (.int yo)] S=.ok (.int yo) S:=by rw [call2 (x:=d) (y:=.int yb) (vr rfl) (vr rfl),n3];exact x4 yb (by omega) (by omega)
   rw [zu (Z':=[some d,some (.int N),some (.int ((N ^ ps.length:Nat):Int)),a3,some LL,some (.int xb),some (.int xo),some (.int yb),some (.int yo)]) (s':=S) (by
    rw [yu,zaA];·rfl
    ·refine zgG (wq ?_) (wq ?_) (wq ?_)
     ·rw [op2 (x:=.int yo) (y:=.int xo) (vr rfl) (vr rfl),zhL];simp only [R.ok.injEq,D.bl.injEq,decide_eq_false_iff_not,and_true];omega
     ·rw [op2 (x:=.int yb) (y:=.int xb) (vr rfl) (vr rfl),zdM];simp only [R.ok.injEq,D.bl.injEq,decide_eq_false_iff_not,and_true];omega
     ·rw [op2 w1 (y:=.int yo) (vr rfl),z9d];simp)];rw [yp,zaA];·rfl
   ·by_cases hg:xb+1<yb
    ·refine (and_2 (b:=false) (wq ?_) (wq ?_));·rw [op2 (x:=.int yb) (y:=.int (xb+1)) (vr rfl) (by rw [op2 (x:=.int xb) (y:=.int 1) (vr rfl) rfl];rfl),zaT,decide_eq_true hg]
     ·rw [op2 (x:=.int (yN (yb-1) ps q)) (y:=.int xo) (by rw [call2 (x:=d) (y:=.int (yb-1)) (vr rfl) (by rw [op2 (x:=.int yb) (y:=.int 1) (vr rfl) rfl];rfl)];exact x4 (yb-1) (by omega) (by omega)) (vr rfl),zhu];have:=n4 hg;simp only [R.ok.injEq,D.bl.injEq,decide_eq_false_iff_not,and_true];omega
    ·refine and_1 (wq ?_);rw [op2 (x:=.int yb) (y:=.int (xb+1)) (vr rfl) (by rw [op2 (x:=.int xb) (y:=.int 1) (vr rfl) rfl];rfl),zaT,decide_eq_false hg]) Z4 s ⟨none,none,none,none,rfl,rfl⟩;simp only [zF,Mof,wD,st,List.length_cons,List.length_nil,if_true];rw [zu (Z':=[some d,some (.int N),some (.int 1),none,none,none,none,none,none]) (s':=s) (by rfl)];rw [zu (Z':=Z2) (s':=S2) (by rw [wf,jg,uD e1,R.bind_ok];exact lp2),hZ2,hS2];rw [zu q4,zu q5];rw [zu (Z':=Z7) (s':=S7) (by rw [wk,jg,it,R.bind_ok];exact lp7),hZ7,hS7];rw [wa,xc,op2 (x:=.int (yN 1 ps q)) (y:=.int (yN 1 ps q)) (by rw [op2 (i0 _ _ _ _) (y:=.int 1) rfl];rfl) (by rw [call2 (x:=d) (y:=.int 1) (vr rfl) rfl];exact x4 1 (by decide) (by decide)),z9o];simp
 exact key _ sl ix rc wo
end
end K45
namespace Pm
def nrm(r a b c:Int):Int:=a*a*a+r*(b*b*b)+r*r*(c*c*c)-3*r*(a*b*c)
end Pm
namespace Pg
open PySem.Spec L2 Dd Pm
variable (Mr:Mir)
abbrev w1:FT:=tOf (eOp dLe (eOp zgb (zc 1) (eC (.int 3))) (zc 0))
abbrev w2:FT:=tOf (eOp dGt (eOp zgb (zc 1) (eC (.int 3))) (zc 0))
end Pg
namespace Pm
section
variable {r F G:Int}
structure A3(N:Nat)(a b c:Int):Prop where
 a:a.natAbs<=N
 b:b.natAbs<=N
 c:c.natAbs<=N
end
end Pm
namespace Pg
open PySem.Spec L2 Dd Pm
abbrev cD(a b c:Int):D:=.tup [.int a,.int b,.int c]
abbrev v1:FT:=tOf (eOp dLe (eOp yP (eOp yP (zc 2) (zc 2)) (zc 2)) (zc 0))
abbrev v2:FT:=tOf (eOp dGt (eOp z5L (zc 2) (zc 1)) (eC (.int 1)))
theorem z8E{ar:FA}{Z:Ev}{s s1:Sto}{n:Nat}(hn:n<=1000)(h:ar Z s=.ok [.int n] s1):z5w ar Z s=.ok ((List.range n).map fun k:Nat=>D.int ((k:Nat):Int),[]) s1:=by
 rw [zck,h,Dd.R.bind_ok];simp only;rw [if_pos ⟨by omega,by omega⟩];simp [yJ]
theorem three{ys:List D}{Q:D->Prop}(h:ys.length=3)(hq:∀ y∈ys,Q y):∃ a b c,ys=[a,b,c]/\Q a/\Q b/\Q c:=by match ys,h with | [a,b,c],_=>exact ⟨a,b,c,rfl,hq a (by simp),hq b (by simp),hq c (by simp)⟩
end Pg
namespace Pm
abbrev P3:=Int×Int×Int
def nP(r:Int)(p:P3):Int:=nrm r p.1 p.2.1 p.2.2
def aP(N:Nat)(p:P3):Prop:=A3 N p.1 p.2.1 p.2.2
end Pm
namespace Pg
open PySem.Spec L2 Dd Pm
abbrev cP(p:P3):D:=cD p.1 p.2.1 p.2.2
theorem z6N{α:Type}{all:List D}{body:D->Sto->R (Option D)}(g:α->D)(P:Nat->Sto->Prop)(Q:D->Prop):∀ (l:List α)(j:Nat)(acc:List D)(s:Sto),(∀ i a,l[i]? = some a->∀ s,P (j+i) s->∃ y s',body (g a) s=.ok (some y) s'/\Q y/\P (j+i+1) s')->acc.length+l.length<=cap->P j s->(∀ y∈acc,Q y)->∃ ys s',ui [] all body (l.map g) acc s=.ok ys s'/\ys.length=acc.length+l.length/\(∀ y∈ys,Q y)/\P (j+l.length) s'
 | [],j,acc,s,_,_,hP,hQ=>⟨acc,s,by simp [ui,okG],by simp,hQ,hP⟩ | x::xs,j,acc,s,hb,hl,hP,hQ=>by
  obtain ⟨y,s1,e,hy,hP1⟩:=hb 0 x (by simp) s hP;obtain ⟨ys,s2,e2,h1,h2,h3⟩:=z6N (all:=all) g P Q xs (j+1) (acc++[y]) s1 (fun i a ha s h=>by
   have:=hb (i+1) a (by simpa using ha) s (by rw [show j+(i+1)=j+1+i by omega];exact h);rw [show j+(i+1)+1=j+1+i+1 by omega] at this;exact this) (by simp at hl ⊢;omega) hP1 (by
   intro z hz;rcases List.mem_append.mp hz with hz | hz;·exact hQ z hz
   ·simp at hz;rw [hz];exact hy);refine ⟨ys,s2,?_,by simp at h1 ⊢;omega,h2,by rw [List.length_cons,show j+(xs.length+1)=j+1+xs.length by omega];exact h3⟩;rw [List.map_cons,ui,if_pos (by intro p hp;simp at hp),e];have hc:acc.length<cap:=by simp at hl;omega
  simp [hc,e2]
theorem zbB {α:Type} {fi:FI} {mp:List (Option Nat)} {fg:FG} {fe:FE} {Z:Ev} {s s0:Sto} (g:α->D) (ev:α->Ev) (P:Nat->Sto->Prop) (Q:D->Prop) (l:List α) (hi:fi Z s=.ok (l.map g,[]) s0) (hg:∀ a∈l,∀ s,fg (g a) (xW mp Z) s=.ok (ev a) s) (he:∀ i a,l[i]? = some a->∀ s,P i s->∃ y s',fe (ev a) s=.ok y s'/\Q y/\P (i+1) s') (hl:l.length<=cap) (hP:P 0 s0): ∃ ys s',z4f fi mp fg yM fe Z s=.ok ys s'/\ys.length=l.length/\(∀ y∈ys,Q y)/\P l.length s':=by
 obtain ⟨ys,s',e,h1,h2,h3⟩:=z6N (all:=l.map g) (body:=fun d s=>(fg d (xW mp Z) s).bind fun Z' s1=>(yM Z' s1).bind fun t s2=>if t=true then (fe Z' s2).bind fun y s3=>.ok (some y) s3 else .ok none s2) g P Q l 0 [] s0 (fun i a ha s hP=>by
  rw [Nat.zero_add] at hP ⊢;obtain ⟨y,s',e,hq,hp⟩:=he i a ha s hP;exact ⟨y,s',by simp [hg a (List.mem_of_getElem? ha) s,e],hq,hp⟩) (by simpa using hl) hP (by simp);refine ⟨ys,s',?_,by simpa using h1,h2,by simpa using h3⟩;rw [z1R,hi,Dd.R.bind_ok];exact e
theorem zaM{α:Type}{fi:FI}{mp:List (Option Nat)}{fg:FG}{fe:FE}{Z:Ev}{s s0:Sto}(g:α->D)(ev:α->Ev)(P:Nat->Sto->Prop)(Q:D->Prop)(l:List α) (hi:fi Z s=.ok (l.map g,[]) s0)(hg:∀ a∈l,∀ s,fg (g a) (xW mp Z) s=.ok (ev a) s)(he:∀ i a,l[i]? = some a->∀ s,P i s->∃ y s',fe (ev a) s=.ok y s'/\Q y/\P (i+1) s')(hl:l.length<=cap)(hP:P 0 s0)(hf:∀ y,Q y->y.flat=true): ∃ ys s',z2H fi mp fg yM fe Z s=.ok (.loc s'.length) (s'++[ys])/\ys.length=l.length/\(∀ y∈ys,Q y)/\P l.length s':=by
 obtain ⟨ys,s',e,h1,h2,h3⟩:=zbB g ev P Q l hi hg he hl hP;have fl:∀ zs:List D,(∀ y∈zs,Q y)->D.flat.flats zs=true:=fun zs=>by induction zs with
  | nil=>intro _;rfl | cons z zs ih=>intro hz;simp only [D.flat.flats,Bool.and_eq_true];exact ⟨hf z (hz z (by simp)),ih fun y hy=>hz y (by simp [hy])⟩
 exact ⟨ys,s',by rw [zaG,e,Dd.R.bind_ok,if_pos (fl ys h2)],h1,h2,h3⟩
def IsC(r:Int)(N:Nat)(y:D):Prop:=∃ p:P3,y=cP p/\aP N p/\0<=nP r p
end Pg
namespace Pp
open PySem.Spec L2 Dd Pm Pg Pn
abbrev T39:Int:=1000000000000000000000000000000000000000
theorem t39:T39<2 ^ 2000:=by decide +kernel
theorem zjU{r:Int}(s:Sto)(h0:0<=r)(h1:r<5):∃ far:Int,dIx (.lst [.int 4,.int 31,.int 1001,.int 1000000000000000,.int T39]) (.int r) s=.ok (.int far) s/\4<=far/\far<=T39:=by
 obtain ⟨k,rfl⟩:=Int.eq_ofNat_of_zero_le h0;have:k=0\/k=1\/k=2\/k=3\/k=4:=by omega
 rcases this with rfl | rfl | rfl | rfl | rfl;·exact ⟨4,rfl,by decide,by decide⟩
 ·exact ⟨31,rfl,by decide,by decide⟩
 ·exact ⟨1001,rfl,by decide,by decide⟩
 ·exact ⟨1000000000000000,rfl,by decide,by decide⟩
 ·exact ⟨T39,rfl,by decide,by decide⟩
theorem ints_of:∀ ys:List D,(∀ y∈ys,∃ x:Int,y=.int x/\0<=x/\x<=T39)->∃ xs:List Int,ys=iL xs/\∀ x∈xs,0<=x/\x<=T39
 | [],_=>⟨[],rfl,by simp⟩ | y::ys,h=>by
  obtain ⟨x,rfl,hx⟩:=h y (by simp);obtain ⟨xs,rfl,hs⟩:=ints_of ys fun z hz=>h z (by simp [hz]);exact ⟨x::xs,rfl,fun z hz=>by rcases List.mem_cons.mp hz with rfl | hz;exact hx;exact hs z hz⟩
abbrev EvL(l:Nat)(n:Nat)(a3 a4 a5 a6 a7:Option D):Ev:=[some (.loc l),some (.int n),some (.int T39),a3,a4,a5,a6,a7]
theorem zfS {s:Sto} {l n:Nat} (h:Pot s l) (hsz:Sz n):∃ v s',xZ [.loc l,.int n,.int T39] s=.ok (rD v) s'/\LotB n 131 v/\vc s s' l:=by
 have hl:=h.lt;have hn:2<=n/\n<=4:=by unfold Sz at hsz;omega
 have st:zx ["_law_pot_here","_law_size","_law_most","_law_far","_law_found","_law_way","_law_at","_law_to"] [.loc l,.int n,.int T39]=EvL l n none none none none none:=rfl;obtain ⟨r1,s1,e1,a1,b1,d1⟩:=qr (Z:=EvL l n none none none none none) (f:=zc 0) (g:=eC (.int 5)) (far:=5) h (by decide) (z3Q (by decide)) (by simp) (by simp);obtain ⟨far,ef,f0,f1⟩:=zjU s1 a1 b1;have p1:vo (EvL l n none none none none none) s=.ok (.nx (EvL l n (some (.int far)) none none none none)) s1:=by
  have x1:eOp wZ (zc 2) (eC (.int 1)) (EvL l n none none none none none) s=.ok (.int (T39+1)) s:=by simp
  have x2:eOp dIx (z5x (za (eC (.int 4)) (za (eC (.int 31)) (za (eC (.int 1001)) (za (eOp kh (eC (.int 10)) (eC (.int 15))) (za (eOp kh (eC (.int 10)) (eC (.int 39))) zp)))))) (zd zm (za (zc 0) (za (eC (.int 5)) zp))) (EvL l n none none none none none) s=.ok (.int far) s1:=by
   rw [wv];have:z5x (za (eC (.int 4)) (za (eC (.int 31)) (za (eC (.int 1001)) (za (eOp kh (eC (.int 10)) (eC (.int 15))) (za (eOp kh (eC (.int 10)) (eC (.int 39))) zp))))) (EvL l n none none none none none) s=.ok (.lst [.int 4,.int 31,.int 1001,.int 1000000000000000,.int T39]) s:=by
    simp only [z7a,zt,zN,kg,wv,R.bind_ok,zh7,zgq];rw [if_pos (by simp [cap])]
   rw [this,R.bind_ok,e1,R.bind_ok,ef]
  have x3:z6q [.int (T39+1),.int far] s1=.ok (.int far) s1:=by
   simp only [z6q];congr 2;omega
  rw [vo,xA,yj,zt,x1,R.bind_ok,zt,x2];simp only [R.bind_ok,zN,x3];rfl
 obtain ⟨ys,s2,e2,y1,y2,d2⟩:=zaM (fi:=z5w (za (zc 1) zp)) (mp:=[some 0,some 3,none]) (fg:=we 2) (fe:=zd zm (za (zc 0) (za (zc 1) zp))) (Z:=EvL l n (some (.int far)) none none none none) (s:=s1) (s0:=s1) (fun k:Nat=>D.int ((k:Nat):Int)) (fun k=>[some (.loc l),some (.int far),some (.int ((k:Nat):Int))]) (fun _ s'=>vc s s' l) (fun y=>∃ x:Int,y=.int x/\0<=x/\x<=T39) (List.range n) (z8E (n:=n) (by omega) (by simp)) (fun k _ s=>by simp) (fun i k _ s' hd=>by
   obtain ⟨x,s'',e,x0,x1,d⟩:=zct hd.pot (far:=far) (by omega) (Int.lt_of_le_of_lt f1 t39);exact ⟨.int x,s'',by rw [call2 (x:=.loc l) (y:=.int far) (vr rfl) (vr rfl)];exact e,⟨x,rfl,x0,by omega⟩,hd.trans d⟩) (by simp [cap];omega) d1 (fun y ⟨x,hx,_⟩=>by subst hx;rfl);obtain ⟨xs,rfl,x2⟩:=ints_of ys y2;have n2:xs.length=n:=by simpa using y1
 have p2:vm (EvL l n (some (.int far)) none none none none) s1=.ok (.nx (EvL l n (some (.int far)) (some (.loc s.length)) none none none)) (s2++[iL xs]):=by
  rw [vm,xA,e2,R.bind_ok,d2.len];rfl
 have L2:=LS.start d2 h xs;obtain ⟨way,s3,e3,a3,b3,d3⟩:=qr (Z:=EvL l n (some (.int far)) (some (.loc s.length)) none none none) (f:=zc 0) (g:=eC (.int 6)) (far:=6) L2.pot (by decide) (z3Q (by decide)) (by simp) (by simp);have L3:=L2.drawn hl d3;have p3:vj (EvL l n (some (.int far)) (some (.loc s.length)) none none none) (s2++[iL xs])=.ok (.nx (EvL l n (some (.int far)) (some (.loc s.length)) (some (.int way)) none none)) s3:=by rw [vj,xA,e3];rfl
 obtain ⟨at_,s4,e4,a4,b4,d4⟩:=qr (Z:=EvL l n (some (.int far)) (some (.loc s.length)) (some (.int way)) none none) (f:=zc 0) (g:=zc 1) (far:=n) L3.pot (by omega) (z3Q (by omega)) (by simp) (by simp);have L4:=L3.drawn hl d4;obtain ⟨to,s5,e5,a5,b5,d5⟩:=qr (Z:=EvL l n (some (.int far)) (some (.loc s.length)) (some (.int way)) none none) (f:=zc 0) (g:=zc 1) (far:=n) L4.pot (by omega) (z3Q (by omega)) (by simp) (by simp);have L5:=L4.drawn hl d5;have p4:vk (EvL l n (some (.int far)) (some (.loc s.length)) (some (.int way)) none none) s3=.ok (.nx (EvL l n (some (.int far)) (some (.loc s.length)) (some (.int way)) (some (.int at_)) (some (.int to)))) s5:=by
  rw [vk,zf3,zt,e4,R.bind_ok,zt,e5];rfl
 let E:=EvL l n (some (.int far)) (some (.loc s.length)) (some (.int way)) (some (.int at_)) (some (.int to));have s5':∃ s6 ys,xX E s5=.ok (.nx E) s6/\LS s l s6 ys/\(∀ y∈ys,0<=y/\y<=T39)/\ys.length=n:=by
  have t:tOf (eOp dEq (zc 5) (eC (.int 0))) E s5=.ok (decide (way=0)) s5:=wq (by rw [op2 (x:=.int way) (y:=.int 0) (vr rfl) rfl,z9o]);by_cases z:way=0
  ·refine ⟨_,_,?_,L5.set hl (xs.set at_.toNat 0),zas x2 (by omega),by simp [n2]⟩;rw [xX,kC,t,R.bind_ok,if_pos (by simpa using z),qw];exact z5F (s1:=s5) (s2:=s5) (x:=0) rfl (vr rfl) (vr rfl) L5.at_ a4 (by omega)
  ·refine ⟨s5,xs,?_,L5,x2,n2⟩;rw [xX,kC,t,R.bind_ok,if_neg (by simpa using z)];rfl
 obtain ⟨s6,ys,p5,L6,x6,n6⟩:=s5';have s7':∃ s7 zs,xS E s6=.ok (.nx E) s7/\LS s l s7 zs/\(∀ y∈zs,0<=y/\y<=T39)/\zs.length=n:=by
  have t:tOf (eOp dEq (zc 5) (eC (.int 1))) E s6=.ok (decide (way=1)) s6:=wq (by rw [op2 (x:=.int way) (y:=.int 1) (vr rfl) rfl,z9o]);by_cases z:way=1
  ·have hra:to.toNat<ys.length:=by omega
   have ix:=zf7 (d:=.int ys[to.toNat]) L6.at_ a5 (by simp [hra]);have my:=x6 ys[to.toNat] (List.getElem_mem hra);refine ⟨_,_,?_,L6.set hl (ys.set at_.toNat ys[to.toNat]),zas x6 my,by simp [n6]⟩;rw [xS,kC,t,R.bind_ok,if_pos (by simpa using z),qm];exact z5F (s1:=s6) (s2:=s6) (x:=ys[to.toNat]) (by rw [op2 (x:=.loc s.length) (y:=.int to) (vr rfl) (vr rfl)];exact ix) (vr rfl) (vr rfl) L6.at_ a4 (by omega)
  ·refine ⟨s6,ys,?_,L6,x6,n6⟩;rw [xS,kC,t,R.bind_ok,if_neg (by simpa using z)];rfl
 obtain ⟨s7,zs,p7,L7,x7,n7⟩:=s7';have ne7:zs≠[]:=fun z=>by rw [z] at n7;simp at n7;omega
 have s9':∃ s9 ws,wc E s7=.ok (.nx E) s9/\LS s l s9 ws/\(∀ y∈ws,0<=y/\y<=T39)/\ws.length=n/\∃ x∈ws,0<x:=by
  have t:=zdF (f:=zc 4) (Z:=E) ne7 L7.at_ (vr rfl);by_cases z:maxL zs=0
  ·obtain ⟨ra,sa,ea,aa,ba,da⟩:=qr (Z:=E) (f:=zc 0) (g:=eOp z5L (zc 3) (eC (.int 1))) (far:=far-1) L7.pot (by omega) (Int.lt_trans (by omega) t39) (vr rfl) (by rw [op2 (x:=.int far) (y:=.int 1) (vr rfl) rfl];rfl);have La:=L7.drawn hl da;refine ⟨_,_,?_,La.set hl (zs.set to.toNat (1+ra)),zas x7 (by omega),by simp [n7],1+ra,List.mem_set (by omega) _,by omega⟩;rw [wc,kC,t,R.bind_ok,if_pos (by simpa using z),uM];exact z5F (s1:=sa) (s2:=sa) (x:=1+ra) (by rw [wv,kg,R.bind_ok,ea];rfl) (vr rfl) (vr rfl) La.at_ a5 (by omega)
  ·refine ⟨s7,zs,?_,L7,x7,n7,z8r ne7 (fun y hy=>(x7 y hy).1) z⟩;rw [wc,kC,t,R.bind_ok,if_neg (by simpa using z)];rfl
 obtain ⟨s9,ws,p9,L9,x9,n9,w9⟩:=s9';refine ⟨ws,s9.take s.length,?_,⟨⟨hsz,n9,fun x hx=>(x9 x hx).1,w9⟩,fun x hx=>?_⟩,L9.fin hl⟩
 ·simp only [xZ,zdn,Mof,qY,st,List.length_cons,List.length_nil,if_true];rw [zu p1,zu p2,zu p3,zu p4,zu p5,zu p7,zu p9];have c:yG [.loc s.length] s9=.ok (rD ws) s9:=by simp only [yG,zL,L9.at_]
  rw [uQ,xc,uT (x:=.loc s.length) (vr rfl),c];simp only [R.bind_ok];exact zbg
 ·have b:x<=1000000000000000000000000000000000000000:=(x9 x hx).2;have:(2:Int) ^ 131=2722258935367507707706996859454145691648:=by decide
  omega
theorem zev {s:Sto} {l:Nat} (h:Pot s l):∃ n ps q s',xH [.loc l] s=.ok (rD (ps++[q])) s'/\Bot n 131 ps q/\vc s s' l:=by
 obtain ⟨r1,s1,e1,a1,b1,d1⟩:=qr (Z:=[some (.loc l),none]) (f:=zc 0) (g:=eC (.int 3)) (far:=3) h (by decide) (z3Q (by decide)) (by simp) (by simp);obtain ⟨n,hn⟩:∃ n:Nat,2+r1=(n:Int):=⟨(2+r1).toNat,by omega⟩;have hsz:Sz n:=by unfold Sz;omega
 obtain ⟨v,s2,e2,lv,d2⟩:=zfS d1.pot hsz;have ne:v≠[]:=by intro z;have:=lv.len;unfold Sz at hsz;subst z;simp at this;omega
 obtain ⟨ps,q,rfl⟩:∃ pre x,v=pre++[x]:=⟨v.dropLast,v.getLast ne,(List.dropLast_concat_getLast ne).symm⟩;have st:zx ["_law_pot_here","_law_lot_here"] [.loc l]=[some (.loc l),none]:=rfl;have p1:vM [some (.loc l),none] s=.ok (.nx [some (.loc l),some (rD (ps++[q]))]) s2:=by
  have x1:eOp wZ (eC (.int 2)) (zd zm (za (zc 0) (za (eC (.int 3)) zp))) [some (.loc l),none] s=.ok (.int n) s1:=by rw [wv,kg,R.bind_ok,e1];simp [hn]
  rw [vM,xA,yj,zt,vr (d:=.loc l) rfl,R.bind_ok,zt,x1];simp only [R.bind_ok,zt,zN,wv,kg,zgq];rw [e2];rfl
 have ix:=kG ps q s2;have sl:=z0T ps q s2;have hq0:0<=q:=lv.toLot.nn q (by simp);have lp:ps.length+1=n:=by simpa using lv.len
 have fin:∀ (d:D) (s':Sto),zZ wy qU [some (.loc l),some (rD (ps++[q]))] s2=.ok (.rt d) s'->xH [.loc l] s=.ok d s':=fun d s' hh=>by
  simp only [xH,Mof,jK,st,List.length_cons,List.length_nil,if_true];rw [zu p1,hh]
 have tt:∀ d:D,dIx d (.int (-1)) s2=.ok (.int q) s2->tOf (eOp dEq (eOp dIx (zc 1) (vt (eC (.int 1)))) (eC (.int 0))) [some (.loc l),some d] s2=.ok (decide (q=0)) s2:=fun d hd=>by
  refine wq ?_;rw [op2 (x:=.int q) (y:=.int 0) (by rw [op2 (x:=d) (y:=.int (-1)) (by simp) (by simp)];exact hd) (by simp),z9o]
 by_cases z:q=0
 ·obtain ⟨r3,s3,e3,a3,b3,d3⟩:=qr (Z:=[some (.loc l),some (rD (ps++[q]))]) (f:=zc 0) (g:=eC (.int 30)) (far:=30) d2.pot (by decide) (z3Q (by decide)) (by simp) (by simp);have p3:wx [some (.loc l),some (rD (ps++[q]))] s2=.ok (.nx [some (.loc l),some (rD (ps++[1+r3]))]) s3:=by
   have key:∀ d:D,dSl d none (some (-1)) s2=.ok (.tup (iL ps)) s2->zd zm (za (zc 0) (za (eC (.int 30)) zp)) [some (.loc l),some d] s2=.ok (.int r3) s3->wx [some (.loc l),some d] s2=.ok (.nx [some (.loc l),some (rD (ps++[1+r3]))]) s3:=fun d h1 h2=>by
    have x1:eSl (zc 1) zI (xl (vt (eC (.int 1)))) [some (.loc l),some d] s2=.ok (.tup (iL ps)) s2:=by simp only [z0t,yc,List.getElem?_cons_zero,List.getElem?_cons_succ,R.bind_ok,yS,wK,kX,kg];exact h1
    have x2:z2N (za (eOp wZ (eC (.int 1)) (zd zm (za (zc 0) (za (eC (.int 30)) zp)))) zp) [some (.loc l),some d] s2=.ok (.tup [.int (1+r3)]) s3:=by
     rw [z0O,zt,wv,kg,R.bind_ok,h2];simp [cap]
    rw [wx,xA,wv,x1,R.bind_ok,x2,R.bind_ok,z2J,if_pos (by simp [cap,iL];unfold Sz at hsz;omega)];simp [iL]
   exact key _ sl e3
  refine ⟨n,ps,1+r3,s3,fin _ _ ?_,⟨⟨⟨hsz,by simpa using lp,fun x hx=>?_,1+r3,by simp,by omega⟩,fun x hx=>?_⟩,by omega⟩,(d1.trans d2).trans d3⟩
  ·rw [zu (Z':=[some (.loc l),some (rD (ps++[1+r3]))]) (s':=s3) (by rw [wy,kC,tt _ ix,R.bind_ok,if_pos (by simpa using z)];exact p3)];generalize rD (ps++[1+r3])=d;rfl
  ·rcases List.mem_append.mp hx with hx | hx;·exact lv.toLot.nn x (by simp [hx])
   ·simp at hx;omega
  ·rcases List.mem_append.mp hx with hx | hx;·exact lv.bd x (by simp [hx])
   ·have:(2:Int) ^ 131=2722258935367507707706996859454145691648:=by decide
    simp at hx;omega
 ·refine ⟨n,ps,q,s2,fin _ _ ?_,⟨lv,by omega⟩,d1.trans d2⟩;rw [zu (Z':=[some (.loc l),some (rD (ps++[q]))]) (s':=s2) (by rw [wy,kC,tt _ ix,R.bind_ok,if_neg (by simpa using z)];rfl)];generalize rD (ps++[q])=d;rfl
end Pp
namespace K45
open PySem.Spec L2 Dd Pm Pg Pn Pp
abbrev Sh(sc:D)(a1 a2 a3 a4 a5 a6 a7:Option D):Ev:=[some sc,a1,a2,a3,a4,a5,a6,a7]
def zeG:List Rl:=[.nx,.le,.al,.tu]
theorem zb3(s:Sto):yL [] s=.ok (.lst (zeG.map fun r=>D.str (nmR r))) s:=by
 have c4:(4:Nat)<=cap:=by decide
 have st:zx [] []=[]:=rfl;simp only [yL,Mof,uR,st,List.length_nil,if_true,vU,xc,z7a,zt,zN,kg,R.bind_ok,List.length_cons,Nat.zero_add,Nat.reduceAdd,if_pos c4];rfl
theorem zej {s:Sto} {l:Nat} {f:FE} {Z:Ev} (h:Pot s l) (hf:f Z s=.ok (.loc l) s):∃ r s',eOp dIx (zd Pg.yL zp) (zd Pg.zm (za f (za (eC (.int 4)) zp))) Z s=.ok (.str (nmR r)) s'/\vc s s' l:=by
 obtain ⟨x,s',e,a,b,dr⟩:=qr (f:=f) (g:=eC (.int 4)) (far:=4) (Z:=Z) h (by decide) (z3Q (by decide)) hf (by simp);have hr:x.toNat<zeG.length:=by simp [zeG];omega
 refine ⟨zeG[x.toNat],s',?_,dr⟩;have ix:=zcc (xs:=zeG.map fun r=>D.str (nmR r)) (d:=.str (nmR zeG[x.toNat])) (s:=s') a (by simp [hr]);rw [wv,yj,zN,R.bind_ok,zb3,R.bind_ok,e,R.bind_ok,ix]
structure Gd(lot:D)(C:Rl->List (List Int))(e:Bool)(v:List Int)(q g:Int):Prop where
 bot:∀ b s,1<=b->b<=10 ^ 12->zP [lot,.int b] s=.ok (.bl true) s
 rcs:∀ (N:Nat) s,1<=N->N<=6->zF [lot,.int N] s=.ok (.bl true) s
 col:∀ r s,∃ t,va [.str (nmR r),lot] s=.ok (.loc (s.length+1)) (s++[t]++[(C r).map rD])
 com:∀ s,uv [lot] s=.ok (.int g) s
 end_:∀ s,zV [lot] s=.ok (.bl e) s
 non:∀ r,e=true->C r=[]
 mem:∀ r,e=false->v.map (fun x=>x / g)∈C r
 len:v.length<=4
 seq:∀ (f:FE)(Z:Ev)(s:Sto),f Z s=.ok lot s->yB f Z s=.ok (v.map D.int,[]) s
 last:∀ s,dIx lot (.int (-1)) s=.ok (.int q) s
 fd:∀ (x:Int) s,z1i (.int x) (.int g) s=.ok (.int (x / g)) s
 wor:∀ s,q / g<=10 ^ 12->ye [lot,.int (q / g)] s=.ok (.int 0) s
theorem z7c:∀ xs:List (List Int),PyData.canLayAll0 (toPys (xs.map rD))=true/\PyData.depthAll (toPys (xs.map rD))<=2
 | []=>by decide | v::xs=>by
  have h:=z7c xs;have h2:=ku v;simp only [List.map_cons,toPys,xG,PyData.canLayAll0,PyData.canLay0,PyData.depthAll,PyData.depth,h.1,Bool.and_true];refine ⟨h2.1,?_⟩;have h3:PyData.depthAll (toPys (iL v))<=1:=h2.2;omega
theorem z8C(xs:List (List Int)):z7l (.lst (xs.map rD))=true:=by
 have h:=z7c xs;simp only [z7l,SeqAt.shaped,xG,PyData.canLay0,PyData.depth,h.1,Bool.true_and,decide_eq_true_eq];omega
theorem z9n(xs:List (List Int)):eqD (.lst (xs.map rD)) (.lst [])=xs.isEmpty:=by cases xs<;>simp [eqD,xG,toPys,PyData.eqv,PyData.eqvAll]
theorem eqE{xs:List (List Int)}(s:Sto):dEq (.lst (xs.map rD)) (.lst []) s=.ok (.bl xs.isEmpty) s/\dNe (.lst (xs.map rD)) (.lst []) s=.ok (.bl (!xs.isEmpty)) s:=by
 have h1:=z8C xs;have h2:z7l (.lst [])=true:=by decide +kernel
 constructor;·rw [dEq,if_pos ⟨h1,h2⟩,z9n]
 ·rw [dNe,if_pos ⟨h1,h2⟩,z9n]
theorem zha{n:Nat}{ps:List Int}{q:Int}(B:Bot n 131 ps q):∃ C e g,Gd (rD (ps++[q])) C e (ps++[q]) q g:=by
 have run:∀ r:Rl,∃ ls,Run r (ps++[q]) ls/\ls.length<=20000:=fun r=>by
  obtain ⟨ls,Rn,ll⟩:=zcs (r:=r) (20*131+3) (ps++[q]) B.lot.toLot (zh3 (r:=r) B.lot.toLot B.lot.toN);exact ⟨ls,Rn,by omega⟩
 have g0:0<uZ (ps++[q]):=by
  obtain ⟨ls,Rn,_⟩:=run .nx;exact (z4W B.lot.toLot Rn).2
 have gq:uZ (ps++[q]) ∣ q:=qL q (by simp);have gle:uZ (ps++[q])<=q:=Int.le_of_dvd B.pos gq;have gb:(uZ (ps++[q])).natAbs<BIG:=by
  have:=zdC B (by decide);omega
 have one:1<=q / uZ (ps++[q]):=Int.le_ediv_of_mul_le g0 (by rw [Int.one_mul];exact gle);refine ⟨fun r=>zdD n r (run r).choose,ended (ps++[q]),uZ (ps++[q]),?_⟩;refine ⟨fun b s h1 h2=>z4V B (by decide) h1 h2 s,fun N s h1 h2=>z3t B (by decide) h1 h2 s,fun r s=>⟨_,z9R r B.lot (by have:=B.pos;simp;omega) (run r).choose_spec.1 (by decide) (run r).choose_spec.2 s⟩,fun s=>zbk B.lot.toLot s,fun s=>jk B.lot.toLot s,fun r he=>za9 (run r).choose_spec.1 he,fun r he=>zbG B.lot.toLot B.pos (run r).choose_spec.1 he,?_,fun f Z s hf=>uD hf,fun s=>kG ps q s,fun x s=>by rw [z69,if_pos ⟨g0,gb⟩],fun s h1=>?_⟩;·have h1:=B.lot.len;have h2:=B.lot.sz;unfold Sz at h2;omega
 ·have w:=z3J B (by decide) one h1 s;have z:yN (q / uZ (ps++[q])) ps q=0:=by
   have hm:yN (q / uZ (ps++[q])) ps q∈ps.map fun p=>kr (vB (q / uZ (ps++[q])) q p):=maxL_mem (by simpa using B.ne);obtain ⟨p,hp,e⟩:=List.mem_map.mp hm;rw [<- e,z8Y (ps:=ps) B.pos g0 gq (qL p (by simp [hp]))];rfl
  rw [z] at w;exact w
section
variable {sc lot:D}{C:Rl->List (List Int)}{e:Bool}{v:List Int}{q g:Int}{a1 a2:Option D}
theorem zit (G:Gd lot C e v q g) {b:Int} (h1:1<=b) (h2:b<=10 ^ 12) (a5 a6 a7:Option D) (s:Sto):z3k (Sh sc a1 a2 (some lot) (some (.int b)) a5 a6 a7) s=.ok (.nx (Sh sc a1 a2 (some lot) (some (.int b)) a5 a6 a7)) s:=by
 rw [z3k,zaA];·rfl
 ·refine ze4 (wq ?_);rw [call2 (x:=lot) (y:=.int b) (vr rfl) (vr rfl)];exact G.bot b s h1 h2
theorem zjv (G:Gd lot C e v q g) {l:Nat} {s:Sto} (h:Pot s l) (a4 a5 a6 a7:Option D):∃ a4' s',z1y (Sh sc a1 (some (.loc l)) (some lot) a4 a5 a6 a7) s=.ok (.nx (Sh sc a1 (some (.loc l)) (some lot) a4' a5 a6 a7)) s'/\vc s s' l:=by
 obtain ⟨x,s1,e1,x0,x1,d1⟩:=qr (f:=zc 2) (g:=eC (.int 50)) (far:=50) (Z:=Sh sc a1 (some (.loc l)) (some lot) a4 a5 a6 a7) h (by decide) (z3Q (by decide)) (vr rfl) rfl;obtain ⟨y,s2,e2,y0,y1,d2⟩:=qr (f:=zc 2) (g:=eOp kh (eC (.int 10)) (eC (.int 6))) (far:=1000000) (Z:=Sh sc a1 (some (.loc l)) (some lot) a4 a5 a6 a7) d1.pot (by decide) (Int.lt_trans (show (1000000:Int)<T39 by decide) t39) (vr rfl) (by rw [op2 (x:=.int 10) (y:=.int 6) rfl rfl,zjj]);have it:z5x (za (eC (.int 1)) (za (eOp wZ (eC (.int 1)) (zd zm (za (zc 2) (za (eC (.int 50)) zp)))) (za (eOp z5L (eOp kh (eC (.int 10)) (eC (.int 12))) (zd zm (za (zc 2) (za (eOp kh (eC (.int 10)) (eC (.int 6))) zp)))) zp))) (Sh sc a1 (some (.loc l)) (some lot) a4 a5 a6 a7) s=.ok (.lst [.int 1,.int (1+x),.int (1000000000000-y)]) s2:=by
  have c3:(3:Nat)<=cap:=by decide
  have v1:eOp wZ (eC (.int 1)) (zd zm (za (zc 2) (za (eC (.int 50)) zp))) (Sh sc a1 (some (.loc l)) (some lot) a4 a5 a6 a7) s=.ok (.int (1+x)) s1:=by rw [wv,kg,R.bind_ok,e1];rfl
  have v2:eOp z5L (eOp kh (eC (.int 10)) (eC (.int 12))) (zd zm (za (zc 2) (za (eOp kh (eC (.int 10)) (eC (.int 6))) zp))) (Sh sc a1 (some (.loc l)) (some lot) a4 a5 a6 a7) s1=.ok (.int (1000000000000-y)) s2:=by rw [wv,op2 (x:=.int 10) (y:=.int 12) rfl rfl,zgs,R.bind_ok,e2];rfl
  rw [z7a,zt,kg,R.bind_ok,zt,v1,R.bind_ok,zt,v2,R.bind_ok,zN];simp only [R.bind_ok,List.length_cons,List.length_nil,Nat.zero_add,Nat.reduceAdd,if_pos c3]
 have is:yB (z5x (za (eC (.int 1)) (za (eOp wZ (eC (.int 1)) (zd zm (za (zc 2) (za (eC (.int 50)) zp)))) (za (eOp z5L (eOp kh (eC (.int 10)) (eC (.int 12))) (zd zm (za (zc 2) (za (eOp kh (eC (.int 10)) (eC (.int 6))) zp)))) zp)))) (Sh sc a1 (some (.loc l)) (some lot) a4 a5 a6 a7) s=.ok ([.int 1,.int (1+x),.int (1000000000000-y)],[]) s2:=by
  show (z5x _ _ s).bind _=_;rw [it,R.bind_ok]<;>rfl
 obtain ⟨Z',S',lp,a4',hZ,hS⟩:=jM (all:=[.int 1,.int (1+x),.int (1000000000000-y)]) (body:=fun z Z s=>(we 4 z Z s).bind fun Z' s'=>z3k Z' s') (fun Z S=>∃ a4,Z=Sh sc a1 (some (.loc l)) (some lot) a4 a5 a6 a7/\S=s2) [.int 1,.int (1+x),.int (1000000000000-y)] (fun z hz Z S ⟨a4,hZ,hS⟩=>by
  subst hZ hS;obtain ⟨b,rfl,hb1,hb2⟩:∃ b:Int,z=.int b/\1<=b/\b<=10 ^ 12:=by
   simp only [List.mem_cons,List.not_mem_nil,or_false] at hz;rcases hz with rfl | rfl | rfl;·exact ⟨1,rfl,by decide,by decide⟩
   ·exact ⟨_,rfl,by omega,by omega⟩
   ·exact ⟨_,rfl,by omega,by omega⟩
  exact ⟨_,S,zit G hb1 hb2 a5 a6 a7 S,_,rfl,rfl⟩) (Sh sc a1 (some (.loc l)) (some lot) a4 a5 a6 a7) s2 ⟨a4,rfl,rfl⟩;refine ⟨a4',s2,?_,d1.trans d2⟩;rw [z1y,jg,is,R.bind_ok,<- hZ];rw [<- hS];rw [<- hS] at lp;exact lp
theorem zjo (G:Gd lot C e v q g) {l:Nat} {s:Sto} (h:Pot s l) (a4 a5 a6 a7:Option D):∃ s',z1s (Sh sc a1 (some (.loc l)) (some lot) a4 a5 a6 a7) s=.ok (.nx (Sh sc a1 (some (.loc l)) (some lot) a4 a5 a6 a7)) s'/\vc s s' l:=by
 obtain ⟨x,s1,e1,x0,x1,d1⟩:=qr (f:=zc 2) (g:=eC (.int 6)) (far:=6) (Z:=Sh sc a1 (some (.loc l)) (some lot) a4 a5 a6 a7) h (by decide) (z3Q (by decide)) (vr rfl) rfl;obtain ⟨k,rfl⟩:=Int.eq_ofNat_of_zero_le x0;refine ⟨s1,?_,d1⟩;have v1:eOp wZ (eC (.int 1)) (zd zm (za (zc 2) (za (eC (.int 6)) zp))) (Sh sc a1 (some (.loc l)) (some lot) a4 a5 a6 a7) s=.ok (.int ((1+k:Nat):Int)) s1:=by
  rw [wv,kg,R.bind_ok,e1];simp
 have rr:=G.rcs (1+k) s1 (by omega) (by omega);have t:z48 (tOf (zd zF (za (zc 3) (za (eOp wZ (eC (.int 1)) (zd zm (za (zc 2) (za (eC (.int 6)) zp)))) zp)))) (Sh sc a1 (some (.loc l)) (some lot) a4 a5 a6 a7) s=.ok false s1:=by
  rw [zaw,z6p,yj,zt,vr (d:=lot) rfl,R.bind_ok,zt,v1];simp only [R.bind_ok,zN,rr];rfl
 rw [z1s,kC,t,R.bind_ok,if_neg (by decide)];rfl
theorem zeV (G:Gd lot C e v q g) (r:Rl) (a4:Option D) (s:Sto):∃ a4',(zZ qG (zZ qJ (zZ qM (zZ qO (zZ qQ jN))))) (Sh sc a1 a2 (some lot) a4 (some (.str (nmR r))) a6 a7) s=.ok (.nx (Sh sc a1 a2 (some lot) a4' (some (.str (nmR r))) (some (.lst ((C r).map rD))) (some (.int g)))) s:=by
 obtain ⟨t,hc⟩:=G.col r s;have g10:qG (Sh sc a1 a2 (some lot) a4 (some (.str (nmR r))) a6 a7) s=.ok (.nx (Sh sc a1 a2 (some lot) a4 (some (.str (nmR r))) (some (.lst ((C r).map rD))) a7)) s:=by
  rw [qG,xA,z38,call2 (x:=.str (nmR r)) (y:=lot) (vr rfl) (vr rfl),hc];have fz:zdh s.length (.ok (.loc (s.length+1)) (s++[t]++[(C r).map rD]))=.ok (.lst ((C r).map rD)) s:=by simp [zdh]
  rw [fz];rfl
 have g11:qJ (Sh sc a1 a2 (some lot) a4 (some (.str (nmR r))) (some (.lst ((C r).map rD))) a7) s=.ok (.nx (Sh sc a1 a2 (some lot) a4 (some (.str (nmR r))) (some (.lst ((C r).map rD))) (some (.int g)))) s:=by rw [qJ,xA,uT (x:=lot) (vr rfl),G.com];rfl
 obtain ⟨e1,e2⟩:=eqE (xs:=C r) s;have hE:(C r).isEmpty=e:=by cases he:e with
  | true=>rw [G.non r he];rfl | false=>
   have:=G.mem r he;cases hC:C r with
   | nil=>rw [hC] at this;cases this | cons a b=>rfl
 have g12:qM (Sh sc a1 a2 (some lot) a4 (some (.str (nmR r))) (some (.lst ((C r).map rD))) (some (.int g))) s=.ok (.nx (Sh sc a1 a2 (some lot) a4 (some (.str (nmR r))) (some (.lst ((C r).map rD))) (some (.int g)))) s:=by
  rw [qM,zaA];·rfl
  ·refine wq ?_;rw [op2 (x:=.bl e) (y:=.bl e) (by rw [uT (x:=lot) (vr rfl)];exact G.end_ s) (by rw [op2 (x:=.lst ((C r).map rD)) (y:=.lst []) (vr rfl) rfl,e1,hE])];exact ne_self (k:=0) (by cases e<;>rfl) (by decide) s
 have g14:qO (Sh sc a1 a2 (some lot) a4 (some (.str (nmR r))) (some (.lst ((C r).map rD))) (some (.int g))) s=.ok (.nx (Sh sc a1 a2 (some lot) a4 (some (.str (nmR r))) (some (.lst ((C r).map rD))) (some (.int g)))) s:=by
  have x1:eOp dNe (zc 6) (z5x zp) (Sh sc a1 a2 (some lot) a4 (some (.str (nmR r))) (some (.lst ((C r).map rD))) (some (.int g))) s=.ok (.bl (!e)) s:=by rw [op2 (x:=.lst ((C r).map rD)) (y:=.lst []) (vr rfl) rfl,e2,hE]
  rw [qO,zaA];·rfl
  ·cases he:e with
   | true=>
    rw [he] at x1;exact and_1 (wq x1) | false=>
    rw [he] at x1;refine and_2 (wq x1) (wq ?_);have cm:zK (yB (zc 3)) [some 7,none] (we 1) yM (eOp z1i (zc 1) (zc 0)) (Sh sc a1 a2 (some lot) a4 (some (.str (nmR r))) (some (.lst ((C r).map rD))) (some (.int g))) s=.ok (.lst (v.map fun x=>D.int (x / g))) s:= comp_map D.int (fun x=>D.int (x / g)) (fun x=>[some (.int g),some (.int x)]) v (G.seq _ _ _ (vr rfl)) (fun x _=>rfl) (fun x _=>by rw [op2 (x:=.int x) (y:=.int g) (vr rfl) (vr rfl)];exact G.fd x s) (by have:=G.len;simp [cap];omega);rw [op2 (x:=rD (v.map fun x=>x / g)) (y:=.lst ((C r).map rD)) (by rw [uT cm,z54];simp [iL,Function.comp_def]) (vr rfl)];have tn:zcy (rD (v.map fun x=>x / g))=some (v.map fun x=>x / g):=z6D _;have ts:z4e ((C r).map rD)=some (C r):=z5h _;have an:(C r).any (fun ns=>decide (ns=v.map fun x=>x / g))=true:=List.any_eq_true.mpr ⟨_,G.mem r he,by simp⟩;simp only [zfp,tn,zL,Option.bind_some,ts,an];rfl
 have g16:qQ (Sh sc a1 a2 (some lot) a4 (some (.str (nmR r))) (some (.lst ((C r).map rD))) (some (.int g))) s=.ok (.nx (Sh sc a1 a2 (some lot) (some (.int (q / g))) (some (.str (nmR r))) (some (.lst ((C r).map rD))) (some (.int g)))) s:=by rw [qQ,xA,op2 (x:=.int q) (y:=.int g) (by rw [op2 (x:=lot) (y:=.int (-1)) (vr rfl) rfl];exact G.last s) (vr rfl),G.fd];rfl
 refine ⟨some (.int (q / g)),?_⟩;rw [zu g10,zu g11,zu g12,zu g14,zu g16,jN,zaA];·rfl
 ·have x1:eOp dLe (zc 4) (eOp kh (eC (.int 10)) (eC (.int 12))) (Sh sc a1 a2 (some lot) (some (.int (q / g))) (some (.str (nmR r))) (some (.lst ((C r).map rD))) (some (.int g))) s=.ok (.bl (decide (q / g<=1000000000000))) s:=by rw [op2 (x:=.int (q / g)) (y:=.int 1000000000000) (vr rfl) (by rw [op2 (x:=.int 10) (y:=.int 12) rfl rfl,zgs]),zdM]
  by_cases hh:q / g<=1000000000000
  ·rw [decide_eq_true hh] at x1;refine and_2 (wq x1) (wq ?_);rw [op2 (x:=.int 0) (y:=.int 0) (by rw [call2 (x:=lot) (y:=.int (q / g)) (vr rfl) (vr rfl)];exact G.wor s hh) rfl,z9d];rfl
  ·rw [decide_eq_false hh] at x1;exact and_1 (wq x1)
end
abbrev zdW:D->Ev->Sto->R Fl:=fun d Z s=>(we 1 d Z s).bind fun Z' s'=>(zZ z0K (zZ z1W (zZ z1y (zZ z1s (zZ z1h (zZ qG (zZ qJ (zZ qM (zZ qO (zZ qQ jN)))))))))) Z' s'
def ShL(ns:List Int)(Z:Ev):Prop:=∃ a1 a2 a3 a4 a5 a6 a7,Z=Sh (.scr (iL ns)) a1 a2 a3 a4 a5 a6 a7
theorem zes (ns:List Int) (j:Nat) (Z:Ev) (s:Sto) (h:ShL ns Z):∃ Z' s',zdW (.int j) Z s=.ok (.nx Z') s'/\ShL ns Z':=by
 obtain ⟨a1,a2,a3,a4,a5,a6,a7,rfl⟩:=h;rw [show zdW (.int j) (Sh (.scr (iL ns)) a1 a2 a3 a4 a5 a6 a7) s=(zZ z0K (zZ z1W (zZ z1y (zZ z1s (zZ z1h (zZ qG (zZ qJ (zZ qM (zZ qO (zZ qQ jN)))))))))) (Sh (.scr (iL ns)) (some (.int j)) a2 a3 a4 a5 a6 a7) s from rfl];obtain ⟨c,e1⟩:=zfh ns j s;obtain ⟨q0,e2⟩:=zi2 c s;have p0:Pot (s++[[.int q0]]) s.length:=⟨q0,by simp⟩;have g2:z0K (Sh (.scr (iL ns)) (some (.int j)) a2 a3 a4 a5 a6 a7) s=.ok (.nx (Sh (.scr (iL ns)) (some (.int j)) (some (.loc s.length)) a3 a4 a5 a6 a7)) (s++[[.int q0]]):=by rw [z0K,xA,uT (x:=.int c) (by rw [call2 (x:=.scr (iL ns)) (y:=.int j) (vr rfl) (vr rfl),e1]),e2];rfl
 generalize s.length=l at p0 g2;generalize s++[[D.int q0]]=s0 at p0 g2;generalize hsc:D.scr (iL ns)=sc at g2;obtain ⟨n,ps,q,s1,e3,B,d1⟩:=zev p0;obtain ⟨C,e,g,G⟩:=zha B;generalize rD (ps++[q])=lot at e3 G;generalize ps++[q]=v at G;have g3:z1W (Sh sc (some (.int j)) (some (.loc l)) a3 a4 a5 a6 a7) s0=.ok (.nx (Sh sc (some (.int j)) (some (.loc l)) (some lot) a4 a5 a6 a7)) s1:=by rw [z1W,xA,uT (x:=.loc l) (vr rfl),e3];rfl
 obtain ⟨a4',s2,g4,d2⟩:=zjv (sc:=sc) (a1:=some (.int j)) G d1.pot a4 a5 a6 a7;obtain ⟨s3,g7,d3⟩:=zjo (sc:=sc) (a1:=some (.int j)) G d2.pot a4' a5 a6 a7;obtain ⟨r,s4,e9,d4⟩:=zej (f:=zc 2) (Z:=Sh sc (some (.int j)) (some (.loc l)) (some lot) a4' a5 a6 a7) d3.pot (vr rfl);have g9:z1h (Sh sc (some (.int j)) (some (.loc l)) (some lot) a4' a5 a6 a7) s3=.ok (.nx (Sh sc (some (.int j)) (some (.loc l)) (some lot) a4' (some (.str (nmR r))) a6 a7)) s4:=by rw [z1h,xA,e9];rfl
 obtain ⟨a4'',g10⟩:=zeV (sc:=sc) (a1:=some (.int j)) (a2:=some (.loc l)) (a6:=a6) (a7:=a7) G r a4' s4;refine ⟨Sh sc (some (.int j)) (some (.loc l)) (some lot) a4'' (some (.str (nmR r))) (some (.lst ((C r).map rD))) (some (.int g)),s4,?_,?_⟩;·rw [zu g2,zu g3,zu g4,zu g7,zu g9,g10]
 ·rw [<- hsc];exact ⟨_,_,_,_,_,_,_,rfl⟩
theorem zeL(n:Nat)(b:Nat):∃ k:Nat,(if (if ((b:Nat):Int)<(n:Int) then ((b:Nat):Int) else n) > 1 then (if ((b:Nat):Int)<(n:Int) then ((b:Nat):Int) else n) else 1)=(k:Int)/\k<=b+1:=by
 by_cases h:((b:Nat):Int)<n
 ·rw [if_pos h];by_cases h2:((b:Nat):Int) > 1;·exact ⟨b,by rw [if_pos h2],by omega⟩
  ·exact ⟨1,by rw [if_neg h2];rfl,by omega⟩
 ·rw [if_neg h];by_cases h2:((n:Nat):Int) > 1;·exact ⟨n,by rw [if_pos h2],by omega⟩
  ·exact ⟨1,by rw [if_neg h2];rfl,by omega⟩
theorem zgF (ns:List Int):∃ Z' s',z63 (Sh (.scr (iL ns)) none none none none none none none) []=.ok (.nx Z') s':=by
 obtain ⟨k,ek,hk⟩:=zeL ns.length 4;rw [show ((4:Nat):Int)=4 from rfl] at ek;obtain ⟨Z',s',e,_⟩:=jM (all:=yJ k) (body:=zdW) (fun Z _=>ShL ns Z) (yJ k) (fun x hx Z s hI=>by
  obtain ⟨j,_,rfl⟩:=z8l hx;exact zes ns j Z s hI) (Sh (.scr (iL ns)) none none none none none none none) [] ⟨_,_,_,_,_,_,_,rfl⟩;refine ⟨Z',s',?_⟩;unfold z63;rw [jg,z8E (n:=k) (s1:=[]) (by omega) (by simp only [yj,zt,zN,kg,yc,List.getElem?_cons_zero,R.bind_ok,wL,zL,List.length_map,z6q,zbv,ek]),R.bind_ok];exact e
theorem zby:∀ ns:List Int,ns.length<=63->∃ s',ze2 [.scr (ns.map D.int)] []=.ok (.bl true) s':=fun ns hn=>by
 obtain ⟨Z',s',e⟩:=zgF ns;refine ⟨s',?_⟩;have st:zx ["_law_script","_law_at","_law_pot_here","_law_lot_here","_law_bottom","_law_rule","_law_some","_law_least"] [.scr (ns.map D.int)]=Sh (.scr (iL ns)) none none none none none none none:=rfl;unfold ze2 Mof zc1;rw [if_pos (by rfl),st,zu e,z7g];rfl
end K45
namespace K45
open PySem.Spec L2 Dd Pg
theorem all_mk {P:Program} {w:World} {K:W.Frag} {h:Heap} {mg:Str->Option Value} {fa:Addr} (X:K.In h) (G:h.Ns mainGlobals mg) (hfa:mg "law"=some (.ref fa)) (e:zay askQ K=valS askQ w) (lo_MOST_BOTTOM:∃ t,mg "MOST_BOTTOM"=some (.int (10 ^ 12) t)) : ∃ fd:FuncData,(∀ (s:Shared) (v:Value),BindsTo s fd ⟨[v],[]⟩ [("_law_script",v)])/\∀ base:Heap,K.In base->base.Ns mainGlobals mg->z2I P w K mg base CX0 12 fa fd ["_law_script"] (zdU K):=by
 obtain ⟨f0,d0,a0,F0⟩:=zC X G e 0 rfl;obtain ⟨f1,d1,a1,F1⟩:=zC X G e 1 rfl;obtain ⟨f2,d2,a2,F2⟩:=zC X G e 2 rfl;obtain ⟨f3,d3,a3,F3⟩:=zC X G e 3 rfl;obtain ⟨f4,d4,a4,F4⟩:=zC X G e 4 rfl;obtain ⟨f5,d5,a5,F5⟩:=zC X G e 5 rfl;obtain ⟨f6,d6,a6,F6⟩:=zC X G e 6 rfl;obtain ⟨f7,d7,a7,F7⟩:=zC X G e 7 rfl;obtain ⟨f8,d8,a8,F8⟩:=zC X G e 8 rfl;obtain ⟨f9,d9,a9,F9⟩:=zC X G e 9 rfl;obtain ⟨f10,d10,a10,F10⟩:=zC X G e 10 rfl;obtain ⟨f11,d11,a11,F11⟩:=zC X G e 11 rfl;obtain ⟨f12,d12,a12,F12⟩:=zC X G e 12 rfl;obtain ⟨f13,d13,a13,F13⟩:=zC X G e 13 rfl;obtain ⟨f14,d14,a14,F14⟩:=zC X G e 14 rfl;obtain ⟨f15,d15,a15,F15⟩:=zC X G e 15 rfl;obtain ⟨f16,d16,a16,F16⟩:=zC X G e 16 rfl;obtain ⟨f17,d17,a17,F17⟩:=zC X G e 17 rfl;obtain ⟨f18,d18,a18,F18⟩:=zC X G e 18 rfl;obtain ⟨f19,d19,a19,F19⟩:=zC X G e 19 rfl;obtain ⟨f20,d20,a20,F20⟩:=zC X G e 20 rfl;obtain ⟨f21,d21,a21,F21⟩:=zC X G e 21 rfl;obtain ⟨f22,d22,a22,F22⟩:=zC X G e 22 rfl;obtain ⟨f23,d23,a23,F23⟩:=zC X G e 23 rfl;obtain ⟨f24,d24,a24,F24⟩:=zC X G e 24 rfl;obtain ⟨f25,d25,a25,F25⟩:=zC X G e 25 rfl;obtain ⟨f26,d26,a26,F26⟩:=zC X G e 26 rfl;obtain ⟨f27,d27,a27,F27⟩:=zC X G e 27 rfl;obtain ⟨f28,d28,a28,F28⟩:=zC X G e 28 rfl;obtain ⟨f29,d29,a29,F29⟩:=zC X G e 29 rfl;obtain ⟨f30,d30,a30,F30⟩:=zC X G e 30 rfl;obtain ⟨f31,d31,a31,F31⟩:=zC X G e 31 rfl;obtain ⟨f32,d32,a32,F32⟩:=zC X G e 32 rfl;obtain ⟨f33,d33,a33,F33⟩:=zC X G e 33 rfl;obtain ⟨f34,d34,a34,F34⟩:=zC X G e 34 rfl;obtain ⟨f35,d35,a35,F35⟩:=zC X G e 35 rfl;obtain ⟨f36,d36,a36,F36⟩:=zC X G e 36 rfl;obtain ⟨f37,d37,a37,F37⟩:=zC X G e 37 rfl;obtain ⟨f38,d38,a38,F38⟩:=zC X G e 38 rfl;obtain ⟨f39,d39,a39,F39⟩:=zC X G e 39 rfl;obtain ⟨f40,d40,a40,F40⟩:=zC X G e 40 rfl;obtain ⟨f41,d41,a41,F41⟩:=zC X G e 41 rfl;obtain ⟨f42,d42,a42,F42⟩:=zC X G e 42 rfl;obtain ⟨f43,d43,a43,F43⟩:=zC X G e 43 rfl;obtain ⟨f44,d44,a44,F44⟩:=zC X G e 44 rfl;obtain ⟨f45,d45,a45,F45⟩:=zC X G e 45 rfl;obtain ⟨f46,d46,a46,F46⟩:=zC X G e 46 rfl;obtain ⟨f47,d47,a47,F47⟩:=zC X G e 47 rfl;obtain ⟨f48,d48,a48,F48⟩:=zC X G e 48 rfl;obtain ⟨f49,d49,a49,F49⟩:=zC X G e 49 rfl;obtain ⟨f50,d50,a50,F50⟩:=zC X G e 50 rfl;have e0:=hfa.symm.trans a50;cases e0;obtain ⟨oc,od,kV,doc,pm,an,cdv,ct,osl,rfl,hl,hc⟩:=F50.ex;have T:Txt mg:=⟨z97 X G e 0 rfl,lo_MOST_BOTTOM,z97 X G e 1 rfl,z97 X G e 2 rfl,vh X G e 0 rfl,vh X G e 1 rfl,vh X G e 2 rfl,vh X G e 3 rfl,vh X G e 4 rfl,vh X G e 5 rfl,vh X G e 6 rfl,vh X G e 7 rfl,vh X G e 8 rfl,vh X G e 9 rfl,vh X G e 10 rfl,vh X G e 11 rfl,vh X G e 12 rfl,vh X G e 13 rfl,vh X G e 14 rfl⟩;have T_RULES:zdu P w K mg "RULES" uz:=zhk X G e "RULES" z7m (List.mem_of_getElem? (i:=0) rfl);refine ⟨W.fnOf "law" "law" (kF z2u) (uF z2u) (zg z2u) .none kV doc pm an cdv ct,fun s v=>.of_eq rfl,fun base _ _=>?_⟩;have H0:=z5c (P:=P) (w:=w) (base:=base) T F0 a0;have H1:=z4X (P:=P) (w:=w) (base:=base) T F1 a1;have H2:=kS (P:=P) (w:=w) (base:=base) T F2 a2;have H3:=z5m (P:=P) (w:=w) (base:=base) T F3 a3;have H4:=z1J (P:=P) (w:=w) (base:=base) T F4 a4;have H5:=z2h (P:=P) (w:=w) (base:=base) T F5 a5;have H6:=uy (P:=P) (w:=w) (base:=base) T F6 a6;have H7:=z1O (P:=P) (w:=w) (base:=base) T F7 a7;have H8:=z6z (P:=P) (w:=w) (base:=base) T F8 a8;have H9:=z6b (P:=P) (w:=w) (base:=base) T F9 a9 T_RULES;have H10:=z9w (P:=P) (w:=w) (base:=base) T F10 a10;have H11:=kQ (P:=P) (w:=w) (base:=base) T F11 a11;have H12:=z0u (P:=P) (w:=w) (base:=base) T F12 a12;have H13:=z5f (P:=P) (w:=w) (base:=base) T F13 a13;have H14:=z3a (P:=P) (w:=w) (base:=base) T F14 a14;have H15:=z25 (P:=P) (w:=w) (base:=base) T F15 a15;have H16:=z2c (P:=P) (w:=w) (base:=base) T F16 a16 H0;have H17:=z1K (P:=P) (w:=w) (base:=base) T F17 a17 H0;have H18:=z18 (P:=P) (w:=w) (base:=base) T F18 a18 H3;have H19:=z5Q (P:=P) (w:=w) (base:=base) T F19 a19 H6;have H20:=z4m (P:=P) (w:=w) (base:=base) T F20 a20 H6 H7;have H21:=z8h (P:=P) (w:=w) (base:=base) T F21 a21 H7 H8;have H22:=z5Z (P:=P) (w:=w) (base:=base) T F22 a22 H8;have H23:=z3Z (P:=P) (w:=w) (base:=base) T F23 a23 H9;have H24:=z4i (P:=P) (w:=w) (base:=base) T F24 a24 H14;have H25:=z7R (P:=P) (w:=w) (base:=base) T F25 a25 H1 H16;have H26:=z5k (P:=P) (w:=w) (base:=base) T F26 a26 H1 H16;have H27:=z4b (P:=P) (w:=w) (base:=base) T F27 a27 T_RULES H19 H20 H21 H22;have H28:=z2m (P:=P) (w:=w) (base:=base) T F28 a28 H14 H24;have H29:=z5o (P:=P) (w:=w) (base:=base) T F29 a29 H25;have H30:=z2f (P:=P) (w:=w) (base:=base) T F30 a30 H26;have H31:=z8i (P:=P) (w:=w) (base:=base) T F31 a31 H2 H29;have H32:=z3D (P:=P) (w:=w) (base:=base) T F32 a32 H29;have H33:=z27 (P:=P) (w:=w) (base:=base) T F33 a33 H5 H18 H30;have H34:=qD (P:=P) (w:=w) (base:=base) T F34 a34 H23 H29;have H35:=z1S (P:=P) (w:=w) (base:=base) T F35 a35 H29;have H36:=qT (P:=P) (w:=w) (base:=base) T F36 a36 H4 H33;have H37:=z46 (P:=P) (w:=w) (base:=base) T F37 a37 H32 H34;have H38:=zaF (P:=P) (w:=w) (base:=base) T F38 a38 H11 H17 H35;have H39:=zbN (P:=P) (w:=w) (base:=base) T F39 a39 H10 H27 H37;have H40:=z21 (P:=P) (w:=w) (base:=base) T F40 a40 H4 H10 H27 H37;have H41:=z88 (P:=P) (w:=w) (base:=base) T F41 a41 H38;have H42:=zcP (P:=P) (w:=w) (base:=base) T F42 a42 H32 H34 H39;have H43:=z9c (P:=P) (w:=w) (base:=base) T F43 a43 H41;have H44:=z3H (P:=P) (w:=w) (base:=base) T F44 a44 H40 H42;have H45:=z5W (P:=P) (w:=w) (base:=base) T F45 a45 H17 H35 H43;have H46:=qt (P:=P) (w:=w) (base:=base) T F46 a46 H38 H41 H43;have H47:=z0M (P:=P) (w:=w) (base:=base) T F47 a47 H36 H44;have H48:=uU (P:=P) (w:=w) (base:=base) T F48 a48 H43 H45;have H49:=z68 (P:=P) (w:=w) (base:=base) T F49 a49 H5 H23 H35 H47;have H50:=z7L (P:=P) (w:=w) (base:=base) T F50 a50 H12 H13 H14 H15 H28 H31 H32 H43 H46 H48 H49;exact zgz (x:="law") H50 zby
theorem boot_:∀ w:World,(W.fencedOpening treeTable PySem.Challenge.pw_drawndown_k45_whole_nearest w 6760).map (fun s=>(s.heap,s.gens,s.drawn,s.toks))=some (W.boot_heap w.params,Array.mk [],W.boot_drawn,W.boot_toks):= W.boot_open (by kernel_rfl) (by decide) (fun s=>by kernel_rfl)
theorem left_:W.LeftO PySem.Challenge.pw_drawndown_k45_whole_nearest qv looseQ xtQ (obsS askQ) (valS askQ) 6760:=za1 "special-get-raises" boot_ (fun w os=>z2s (f:=fun s=>(seenQ s,obsS askQ s)) (ziM w) (bsz w) (z5t (z4a w os) (z4F w os))) (fun w os=>z2s (f:=fun s=>(seenQ s,obsS askQ s)) (ziM w) (bsz w) (z5t (z64 w os) (z6g w os)))
end K45
open PySem.W
set_option maxRecDepth 100000 in
set_option maxHeartbeats 0 in
theorem PySem.Challenge.cw_drawndown_k45_whole_nearest_holds : PySem.Challenge.rw_drawndown_k45_whole_nearest.Holds := by
  w_on; o_law
  refine holds_open (q := K45.qv) (loose := K45.looseQ) (Xt := K45.xtQ) (XP := XL K45.qv K45.lvQ) (Yf := Dd.obsS K45.askQ) (Ya := Dd.valS K45.askQ) (YP := Dd.saysS K45.askQ) (N := 6760) K45.left_ (Dd.zcO K45.askQ) (Dd.z8c K45.askQ) (fun s e => xl_of s (Bool.and_eq_true_iff.mp e).1) XL.keeps (by rfl) (by rfl) (by rfl) (fun s e => recFacts_of (Bool.and_eq_true_iff.mp e).2) (by rfl) (by first | assumption | decide +kernel) (by decide +kernel) ⟨rfl, rfl, rfl, rfl, rfl, by decide +kernel⟩ ?hw ?hc
  (case hw => w_witness2)
  refine Dd.walkY (l := PySem.Challenge.rw_drawndown_k45_whole_nearest) (n := 63) (k := 12) (x := "_law_script") rfl (by decide) (by decide) rfl ⟨rfl, by decide, by decide, rfl⟩ ?F
  case F =>
    intro w mg fa h Yy G hmg XP
    obtain ⟨K, KX, e⟩ := Yy
    have lo_MOST_BOTTOM : ∃ t, mg "MOST_BOTTOM" = some (.int (10 ^ 12) t) := by
      obtain ⟨v, h1, h2⟩ := XP.2.val ("MOST_BOTTOM", .int (10 ^ 12)) (by simp [K45.lvQ])
      exact Dd.zaj h1 h2
    exact ⟨K, KX, K45.all_mk KX G hmg e lo_MOST_BOTTOM⟩
