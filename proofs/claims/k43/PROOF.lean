import PyProof.Rows.All
import Wide.All
import OpenK.AllK
import Wide.FinOn
import Lean
import PyProof.EqAt
import PyProof.EqKinds
import PyProof.TupleCall
import PyProof.ExcArgsOwn
import PyProof.ExcAttrAll.ValueError
import PyProof.ListMulRoad
import PySem.Challenge.RW_drawndown_k43_columns_of_rules
set_option Elab.async false
set_option linter.all false
set_option maxRecDepth 100000
set_option maxHeartbeats 1000000
set_option exponentiation.threshold 5000
open PySem PyProof.Rows
noncomputable section
namespace Dd
open PySem.Spec
def dArgs(s:Stmt):Arguments:=match s with
 | .FunctionDef _ a _ _ _ _ _ _ _ _=>a | _=>{posonlyargs:=[],args:=[],vararg:=none,kwonlyargs:=[],kw_defaults:=[],kwarg:=none,defaults:=[]}
def zft(s:Stmt):List Stmt:=match s with
 | .FunctionDef _ _ b _ _ _ _ _ _ _=>b | _=>[]
def zd8(s:Stmt):Scope:=match s with
 | .FunctionDef _ _ _ _ _ _ sc _ _ _=>sc | _=>{kind:=.function,names:=[],isGenerator:=false,isCoroutine:=false}
def z6V(h:Heap)(a:Addr):W.Frag:=match h.get? a with | some o=>[(a,o)] | none=>[]
def zjv(h:Heap)(g:W.Frag)(x:Str):W.Frag:=match W.nsIn g mainGlobals x with
 | some (some (.ref f))=>z6V h f++(match h.get? f with
   | some ⟨_,_,.func fd,_⟩=>(match fd.code with | .ref c=>z6V h c | _=>[]) | some ⟨_,_,.cls cd,_⟩=>z6V h cd.ns | _=>[]) | _=>[]
def gat(h:Heap)(ns:List Str):W.Frag:=z6V h mainGlobals++ns.flatMap (zjv h (z6V h mainGlobals))
abbrev FV:=Str×Str×Arguments×FuncBody×Scope×Addr×List (Str×Addr)×Value×Addr×Bool×Bool
def zeS(K:W.Frag)(x:Str):Option FV:=match W.nsIn K mainGlobals x with
 | some (some (.ref f))=>(match K.lookup f with
   | some ⟨_,_,.func fd,_⟩=>some (fd.name,fd.qualname,fd.params,fd.body,fd.scope,fd.globals,fd.closure,fd.defaults,fd.builtins,W.codeIn K fd.code fd.qualname,W.keepIn K (.ref f)) | _=>none) | _=>none
def zje(x:Str)(st:Stmt):Option FV:=some (x,x,dArgs st,.stmts (zft st),zd8 st,mainGlobals,[],.none,builtinsNs,true,true)
def zdp(K:W.Frag)(x:Str):Bool:=match W.nsIn K mainGlobals x with | some none=>true | _=>false
def zej(K:W.Frag)(x:Str):Option Int:=match W.nsIn K mainGlobals x with | some (some (.int i _))=>some i | _=>none
def sameRef:Value->Option (Option Value)->Bool
 | .ref f,some (some (.ref g))=>f==g | _,_=>false
def zaR:Value->Option Str
 | .str k _=>some k | _=>none
def z5z:Value->Bool
 | .type c=>c=="dict" | _=>false
def z8F(K:W.Frag):List DictEntry->List Str->List (Int×Option Str×Bool)
 | e::es,y::ys=>(e.hash,zaR e.key,sameRef e.val (W.nsIn K mainGlobals y))::z8F K es ys | [],[]=>[] | _,_=>[(0,none,false)]
def zdm(K:W.Frag)(x:Str)(ys:List Str):Option (Bool×Bool×Bool×Bool×List (Int×Option Str×Bool)):=match W.nsIn K mainGlobals x with
 | some (some (.ref a))=>(match K.lookup a with
   | some ⟨c,d,.dict es _,sl⟩=>some (z5z c,d.isNone,sl.size==0,a==sysModules,z8F K es.toList ys) | _=>none) | _=>none
def zj1(w:World)(tb:List (Str×Str)):Option (Bool×Bool×Bool×Bool×List (Int×Option Str×Bool)):=some (true,true,true,false,tb.map fun p=>(PyData.keyHash w.params p.1,some p.1,true))
def zgQ:List Value->Option (List Int)
 | []=>some [] | .int i _::r=>(zgQ r).map (i::·) | _=>none
def zbE:Value->Bool
 | .type c=>c=="tuple" | _=>false
def zi2(K:W.Frag)(x:Str):Option (Bool×Option (List Int)):=match W.nsIn K mainGlobals x with
 | some (some (.ref a))=>(match K.lookup a with
   | some ⟨c,_,.seq its _,_⟩=>some (zbE c,zgQ its.toList) | _=>none) | _=>none
def bmV:List Value:=[.type "ValueError",.type "Exception",.type "BaseException",.type "object"]
def z9H(K:W.Frag)(C:Addr):Bool:=match K.lookup C with | some ⟨.type t,_,.cls _,_⟩=>t=="type" | _=>false
def zi7(K:W.Frag)(x:Str):Bool:=match W.nsIn K mainGlobals x with
 | some (some (.ref C))=>W.excIn K C bmV "ValueError.__new__"&&(W.findIn K (.ref C) "__getattribute__"==some (some (.builtin "BaseException.__getattribute__"))&&(W.findIn K (.ref C) "__getattr__"==some none && (W.findIn K (.ref C) "__class__"==some (some (.builtin "object.__class__"))&&(W.mroIn K C (.type "object")==some true&&(W.mroIn K C (.type "BaseException")==some true&&(z9H K C&&W.kitOne K (.ref C) (.type "ValueError")==some true)))))) | _=>false
def zgn(K:W.Frag)(x y:Str):Option (Option Bool×Option Bool):=match W.nsIn K mainGlobals x,W.nsIn K mainGlobals y with
 | some (some (.ref C)),some (some (.ref D))=>some (W.mroIn K C (.ref D),W.kitOne K (.ref C) (.ref D)) | _,_=>none
abbrev Obs:=List (Option FV)×List Bool×List (Option Int)×List (Option (Bool×Bool×Bool×Bool×List (Int×Option Str×Bool)))×List (Option (Bool×Option (List Int)))×List Bool×List (Option (Option Bool×Option Bool))
structure Ask where
 fs:List (Str×Stmt)
 bs:List Str
 cs:List (Str×Int)
 ts:List (Str×List (Str×Str))
 us:List (Str×List Int)
 xs:List Str
 ps:List ((Str×Str)×Bool)
def zbb(q:Ask)(K:W.Frag):Obs:=(q.fs.map fun p=>zeS K p.1,q.bs.map (zdp K),q.cs.map fun p=>zej K p.1,q.ts.map (fun p=>zdm K p.1 (p.2.map (·.2))),q.us.map (fun p=>zi2 K p.1),q.xs.map (zi7 K),q.ps.map fun p=>zgn K p.1.1 p.1.2)
def obsS(q:Ask)(s:Shared):Obs:=zbb q (gat s.heap (q.fs.map (·.1)++q.ts.map (·.1)++q.us.map (·.1)++q.xs))
def valS(q:Ask)(w:World):Obs:=(q.fs.map fun p=>zje p.1 p.2,q.bs.map fun _=>true,q.cs.map fun p=>some p.2,q.ts.map (fun p=>zj1 w p.2),q.us.map (fun p=>some (true,some p.2)),q.xs.map fun _=>true,q.ps.map fun p=>some (some p.2,some p.2))
def z2p(tb:String->Option Builtin)(p:Program)(w:World)(n₀:Nat)(ann:Option Value):Nat->W.SharedT->Thread->Option W.SharedT
 | 0,_,_=>none | n+1,s,t=>match W.through t with
  | true=>some s | false=>match W.stepOk n₀ ann t with
   | false=>none | true=>match W.stepT (denote tb) p w s t with
    | some (s',t')=>z2p tb p w n₀ ann n s' t' | none=>none
def zgp(l:List Obj):W.BT×Nat:=l.foldl (fun a o=>(a.1.ins a.2 o,a.2+1)) (W.BT.nil,0)
def zfs(P:Params):W.BT:=(zgp (W.boot_heap P).objs.toList).1
end Dd
namespace K43
open PySem.Spec Dd
def top(i:Nat):Stmt:=PySem.Challenge.pw_drawndown_k43_columns_of_rules.main.body.getD i (.Pass ⟨0,0,0,0⟩)
abbrev kb:Stmt:=top 11
abbrev jY:Stmt:=top 13
abbrev kr:Stmt:=top 22
abbrev uE:Stmt:=top 24
abbrev uZ:Stmt:=top 26
abbrev xu:Stmt:=top 28
abbrev uw:Stmt:=top 29
abbrev z01:Stmt:=top 30
abbrev z0e:Stmt:=top 36
abbrev z4K:Stmt:=top 43
abbrev vO:Stmt:=top 51
abbrev kc:Stmt:=top 52
abbrev jq:Stmt:=top 53
abbrev qC:Stmt:=top 54
abbrev qt:Stmt:=top 57
abbrev qd:Stmt:=top 58
abbrev uc:Stmt:=top 59
abbrev vY:Stmt:=top 61
abbrev qB:Stmt:=top 12
abbrev uC:Stmt:=top 23
abbrev z08:Stmt:=top 31
abbrev jU:Stmt:=top 32
abbrev z1K:Stmt:=top 33
abbrev z05:Stmt:=top 34
abbrev qZ:Stmt:=top 37
abbrev uj:Stmt:=top 55
abbrev kj:Stmt:=top 56
abbrev jt:Stmt:=top 60
abbrev z26:Stmt:=top 15
abbrev jV:Stmt:=top 19
abbrev ki:Stmt:=top 42
abbrev qf:Stmt:=top 62
abbrev ua:Stmt:=top 63
abbrev jW:Stmt:=top 16
abbrev qg:Stmt:=top 20
abbrev jd:Stmt:=top 17
abbrev qj:Stmt:=top 21
abbrev xO:Stmt:=top 38
abbrev ux:Stmt:=top 48
abbrev wf:Stmt:=top 25
abbrev jv:Stmt:=top 39
abbrev z6K:Stmt:=top 40
abbrev qb:Stmt:=top 41
abbrev z9q:Stmt:=top 44
abbrev ju:Stmt:=top 45
abbrev uv:Stmt:=top 46
abbrev z09:Stmt:=top 49
abbrev z3s:Stmt:=top 64
def z7T:List (Str×Str):=[("next","by_next"),("least","by_least"),("all","by_all"),("turn","by_turn")]
def askQ:Ask:=⟨[(("is_whole":Str),kb), (("has_size":Str),jY), (("together":Str),kr), (("like_places":Str),uE), (("columns_of":Str),uZ), (("greatest_and_others":Str),xu), (("least_place":Str),uw), (("all_but":Str),z01), (("is_rule":Str),z0e), (("moved":Str),z4K), (("_law_cell_at":Str),vO), (("_law_pot":Str),kc), (("_law_take":Str),jq), (("_law_whole":Str),qC), (("_law_rules":Str),qt), (("_law_ended":Str),qd), (("_law_divides":Str),uc), (("_law_product":Str),vY), (("are_wholes":Str),qB), (("lines_times":Str),uC), (("by_next":Str),z08), (("by_least":Str),jU), (("by_all":Str),z1K), (("by_turn":Str),z05), (("want_rule":Str),qZ), (("_law_same":Str),uj), (("_law_lot":Str),kj), (("_law_step":Str),jt), (("is_lot":Str),z26), (("is_table":Str),jV), (("division":Str),ki), (("_law_parts":Str),qf), (("_law_columns":Str),ua), (("want_lot":Str),jW), (("want_table":Str),qg), (("has_ended":Str),jd), (("multiplied":Str),qj), (("want_rule_and_lot":Str),xO), (("want_bottom":Str),ux), (("growing_products":Str),wf), (("want_step":Str),jv), (("step":Str),z6K), (("step_table":Str),qb), (("run":Str),z9q), (("tables_of":Str),ju), (("products_of":Str),uv), (("columns":Str),z09), (("law":Str),z3s)], [("all":Str),("bool":Str),("enumerate":Str),("int":Str),("isinstance":Str),("len":Str),("list":Str),("max":Str),("min":Str),("range":Str),("str":Str),("sum":Str),("tuple":Str),("zip":Str)], [(("LEAST_SIZE":Str),(2:Int)),(("MOST_SIZE":Str),(4:Int))], [(("RULES":Str),z7T)], [], [], []⟩
def qv:Program:=W.view PySem.Challenge.pw_drawndown_k43_columns_of_rules [64]
def looseQ:List Str:=[("DrawError":Str),("NoLot":Str),("NoTable":Str),("NotAlike":Str),("NoRule":Str),("Ended":Str),("NoBottom":Str),("LEAST_SIZE":Str),("MOST_SIZE":Str),("is_whole":Str),("are_wholes":Str),("has_size":Str),("is_lot":Str),("want_lot":Str),("has_ended":Str),("is_table":Str),("want_table":Str),("multiplied":Str),("together":Str),("lines_times":Str),("like_places":Str),("growing_products":Str),("columns_of":Str),("greatest_and_others":Str),("least_place":Str),("all_but":Str),("by_next":Str),("by_least":Str),("by_all":Str),("by_turn":Str),("RULES":Str),("is_rule":Str),("want_rule":Str),("want_rule_and_lot":Str),("want_step":Str),("step":Str),("step_table":Str),("division":Str),("moved":Str),("run":Str),("tables_of":Str),("products_of":Str),("want_bottom":Str),("columns":Str),("_law_cell_at":Str),("_law_pot":Str),("_law_take":Str),("_law_whole":Str),("_law_same":Str),("_law_lot":Str),("_law_rules":Str),("_law_ended":Str),("_law_divides":Str),("_law_step":Str),("_law_product":Str),("_law_parts":Str),("_law_columns":Str)]
def lvQ:List (Str×W.WData):=[]
def xtQ:Shared->Bool:=fun s=>W.xlAt qv lvQ s&&W.recOk (W.RowW.records (W.OpenRow.toRowW (W.OpenLaw.row PySem.Challenge.rw_drawndown_k43_columns_of_rules))) s
theorem zjg:∀ w:World,W.absHeap (zfs w.params) 11 (W.boot_heap w.params).life=W.boot_heap w.params:=by
 intro w;kernel_rfl
theorem bsz:∀ w:World,((W.boot_heap w.params).isNs mainGlobals&&(Array.mk []:Array GenState).size==0,(W.boot_heap w.params).objs.size,(W.boot_heap w.params).nsMap mainGlobals "__annotations__")=(true,11,(some (.ref 6))):=by
 intro w;kernel_rfl
def zhr(w v:World)(os:OsState):Option W.SharedT:=z2p treeTable PySem.Challenge.pw_drawndown_k43_columns_of_rules v 11 (some (.ref 6)) 6088 ⟨zfs w.params,11,(W.boot_heap w.params).life,Array.mk [],W.boot_drawn,W.boot_toks,os⟩ (W.topStub PySem.Challenge.pw_drawndown_k43_columns_of_rules)
def zff(w:World)(s:W.SharedT):Bool:=W.staticsOk (importedModules PySem.Challenge.pw_drawndown_k43_columns_of_rules.main.body) (W.boot_heap w.params) s.abs.heap&&W.namesBound PySem.Challenge.pw_drawndown_k43_columns_of_rules s.abs.heap&&W.gensDone s.abs&&W.laidKept (W.boot_heap w.params) s.abs.heap
def seenQ(s:Shared):=W.openSeen qv looseQ (importedModules PySem.Challenge.pw_drawndown_k43_columns_of_rules.main.body) xtQ true s
set_option maxRecDepth 1000000 in
theorem z5Y:∀ (w:World)(os:OsState),(zhr w (w.withFollow "special-get-raises" false) os).map (fun s=>(zff w s,obsS askQ s.abs))=some (true,valS askQ (w.withFollow "special-get-raises" false)):=by
 intro w os;kernel_rfl
set_option maxRecDepth 1000000 in
theorem z66:∀ (w:World)(os:OsState),(zhr w (w.withFollow "special-get-raises" false) os).map (fun s=>seenQ s.abs)=some (W.openGood qv looseQ):=by
 intro w os;kernel_rfl
set_option maxRecDepth 1000000 in
theorem z7f:∀ (w:World)(os:OsState),(zhr w (w.withFollow "special-get-raises" true) os).map (fun s=>(zff w s,obsS askQ s.abs))=some (true,valS askQ (w.withFollow "special-get-raises" true)):=by
 intro w os;kernel_rfl
set_option maxRecDepth 1000000 in
theorem z6o:∀ (w:World)(os:OsState),(zhr w (w.withFollow "special-get-raises" true) os).map (fun s=>seenQ s.abs)=some (W.openGood qv looseQ):=by
 intro w os;kernel_rfl
end K43
namespace L2
open PySem.Spec
abbrev Key:=Sum Int Str
def z46:Key->Value->Bool
 | .inl k,v=>Value.isInt k v | .inr x,v=>Value.isStrOf x v
def zkd(w:World):Key->Int
 | .inl k=>hashInt k | .inr x=>hashStr w x
theorem yB:∀ {k:Key} {v:Value},z46 k v=true->(∃ i t,k=Sum.inl i/\v=Value.int i t)\/(∃ x t,k=Sum.inr x/\v=Value.str x t)
 | .inl i,v,h=>by
  obtain ⟨t,e⟩:=Value.isInt_shape (k:=i) (v:=v) h;exact .inl ⟨i,t,rfl,e⟩ | .inr x,v,h=>by
  obtain ⟨t,e⟩:=Value.isStrOf_shape (x:=x) (v:=v) h;exact .inr ⟨x,t,rfl,e⟩
theorem zaD(i:Int)(t:Tok):z46 (.inl i) (.int i t)=true:=by simp [z46,Value.isInt]
theorem z1B(x:Str)(t:Tok):z46 (.inr x) (.str x t)=true:=by simp [z46,Value.isStrOf]
theorem zgz(a b:Int):decide ((Sum.inl a:Key)=Sum.inl b)=(a==b):=by
 by_cases e:a=b;·subst e;simp
 ·have h:¬ (Sum.inl a:Key)=Sum.inl b:=fun q=>e (Sum.inl.inj q);rw [decide_eq_false h];exact (beq_eq_false_iff_ne.mpr e).symm
theorem zf8(a b:Str):decide ((Sum.inr a:Key)=Sum.inr b)=decide (a=b):=by
 by_cases e:a=b;·subst e;simp
 ·have h:¬ (Sum.inr a:Key)=Sum.inr b:=fun q=>e (Sum.inr.inj q);rw [decide_eq_false h,decide_eq_false e]
theorem zhd(a:Int)(b:Str):decide ((Sum.inl a:Key)=Sum.inr b)=false:=decide_eq_false (fun q=>nomatch q)
theorem zgF(a:Str)(b:Int):decide ((Sum.inr a:Key)=Sum.inl b)=false:=decide_eq_false (fun q=>nomatch q)
def yd(prog:Program)(w:World):PySem.KeyKind prog w Key where
 is:=z46;hash:=zkd w;inj:=fun v a b ha hb=>by
  rcases yB ha with ⟨i,t,rfl,rfl⟩ | ⟨x,t,rfl,rfl⟩
  ·rcases yB hb with ⟨j,u,rfl,e⟩ | ⟨y,u,rfl,e⟩;·injection e with e1 _;rw [e1]
   ·exact nomatch e
  ·rcases yB hb with ⟨j,u,rfl,e⟩ | ⟨y,u,rfl,e⟩;·exact nomatch e
   ·injection e with e1 _;rw [e1]
 byValue:=fun k v h=>by rcases yB h with ⟨i,t,rfl,rfl⟩ | ⟨x,t,rfl,rfl⟩<;>rfl
 pyHash:=fun hv h=>by
  rcases yB hv with ⟨i,t,rfl,rfl⟩ | ⟨x,t,rfl,rfl⟩;·exact wpAny_pyHash_int h
  ·exact wpAny_pyHash_str h
 eqBool:=fun hu hv h=>by
  rcases yB hu with ⟨i,t,rfl,rfl⟩ | ⟨x,t,rfl,rfl⟩
  ·rcases yB hv with ⟨j,u,rfl,rfl⟩ | ⟨y,u,rfl,rfl⟩;·rw [zgz] at h;exact wpAny_eqBool_int h
   ·rw [zhd] at h;exact SeqAt.EqAt.int_str i t y u _ _ _ _ h
  ·rcases yB hv with ⟨j,u,rfl,rfl⟩ | ⟨y,u,rfl,rfl⟩;·rw [zgF] at h;exact SeqAt.EqAt.str_int x t j u _ _ _ _ h
   ·rw [zf8] at h;exact wpAny_eqBool_str h
 «strs» := fun k x t v h=>by
  rcases yB h with ⟨i,u,rfl,e⟩ | ⟨y,u,rfl,e⟩;·exact nomatch e
  ·injection e with e1 _;subst e1;cases v<;>rfl
theorem z3h(prog:Program)(w:World)(k:Key)(v:Value):(yd prog w).is k v=z46 k v:=rfl
theorem z73(prog:Program)(w:World)(i:Int)(t:Tok):(yd prog w).is (.inl i) (.int i t)=true:=zaD i t
theorem z1u(prog:Program)(w:World)(x:Str)(t:Tok):(yd prog w).is (.inr x) (.str x t)=true:=z1B x t
inductive V where | non | bl (b:Bool) | int (i:Int) | str (x:Str) | byt (b:Array UInt8) | flt (b:UInt64) | ref (a:Addr) | ty (n:String) deriving DecidableEq
def xx:V->Value->Prop
 | .non,u=>u=Value.none | .bl b,u=>u=Value.bool b | .int i,u=>∃ t,u=Value.int i t | .str x,u=>∃ t,u=Value.str x t | .byt b,u=>∃ t,u=Value.bytes b t | .flt b,u=>∃ t,u=Value.float b t | .ref a,u=>u=Value.ref a | .ty n,u=>u=Value.type n
abbrev xF:List V->List Value->Prop:=Paired xx
theorem xF.length{xs:List V}{us:List Value}(r:xF xs us):xs.length=us.length:=Paired.length r
theorem xF.get:∀ {xs:List V} {us:List Value} {i:Nat} {x:V},xF xs us->xs[i]? = some x->∃ u,us[i]? = some u/\xx x u
 | _,_,_,_,.nil,e=>by simp at e | _,_,0,_,.cons r _,e=>by simp at e;subst e;exact ⟨_,rfl,r⟩ | _,_,i+1,x,.cons _ t,e=>by
  obtain ⟨u,h1,h2⟩:=xF.get (i:=i) (x:=x) t (by simpa using e);exact ⟨u,by simpa using h1,h2⟩
theorem xF.set{x:V}{u:Value}(r:xx x u):∀ {xs:List V}{us:List Value}(i:Nat),xF xs us->xF (xs.set i x) (us.set i u)
 | _,_,_,.nil=>.nil | _,_,0,.cons _ t=>.cons r t | _,_,i+1,.cons q t=>.cons q (xF.set r i t)
theorem xF.append:∀ {xs ys:List V}{us ws:List Value},xF xs us->xF ys ws->xF (xs++ys) (us++ws)
 | _,_,_,_,.nil,s=>s | _,_,_,_,.cons r t,s=>.cons r (xF.append t s)
theorem xF.take:∀ {xs:List V}{us:List Value}(n:Nat),xF xs us->xF (xs.take n) (us.take n)
 | _,_,0,_=>.nil | _,_,_+1,.nil=>.nil | _,_,n+1,.cons r t=>.cons r (xF.take n t)
theorem xF.drop:∀ {xs:List V}{us:List Value}(n:Nat),xF xs us->xF (xs.drop n) (us.drop n)
 | _,_,0,r=>r | _,_,_+1,.nil=>.nil | _,_,n+1,.cons _ t=>xF.drop n t
def zf5:Option V->Option Value->Prop
 | some v,some u=>xx v u | none,none=>True | _,_=>False
def KV{κ:Type}:List (κ×V)->List (κ×Value)->Prop:=Paired fun (p:κ×V)(q:κ×Value)=>p.1=q.1/\xx p.2 q.2
def kV:Key->V
 | .inl i=>.int i | .inr x=>.str x
inductive HO where | lst (xs:List V) | tup (xs:List V) | dK (kvs:List (Key×V)) | dT (kvs:List (List Key×V)) | set (S:Int->Bool)(n:Nat) | ins (C dx:Addr)(fs:List (Str×V)) | own (x:Addr) | xd (fs:List (Str×V)) | met (f x:Addr) | rng (lo hi:Int) | frz (o:Obj)(u:HO) | tbl (ps:Array Value) | ext (φ:Heap->Prop)
abbrev Hp:=Addr->Option HO
def upd(H:Hp)(a:Addr)(o:HO):Hp:=fun b=>if b=a then some o else H b
theorem yr{H:Hp}{a:Addr}{o:HO}:upd H a o a=some o:=by unfold upd;rw [if_pos rfl]
theorem zH{H:Hp}{a b:Addr}{o:HO}(h:b≠a):upd H a o b=H b:=by unfold upd;rw [if_neg h]
theorem zeU{H:Hp}{a:Addr}{o u:HO}:upd (upd H a o) a u=upd H a u:=by funext b;unfold upd;split<;>rfl
theorem zit{H:Hp}{a b:Addr}{o u:HO}(h:H a=some o)(h':H b=some u)(d:o≠u):a≠b:=by intro e;subst e;rw [h] at h';exact d (Option.some.inj h')
theorem yZ{H:Hp}{a b:Addr}{o:HO}(h:H a=some o)(h':H b=none):a≠b:=by intro e;subst e;rw [h] at h';cases h'
def zb9(h:Heap)(a:Addr)(items:Array Value):Prop:=∃ o,h.get? a=some o/\o.cls=.type "tuple"/\o.dict=none/\∃ n,o.data=.seq items n
theorem zb9.tup{h:Heap}{a:Addr}{items:Array Value}(x:zb9 h a items):IsTup h a items:=let ⟨o,e,c,_,r⟩:=x;⟨o,e,c,r⟩
theorem zb9.new(h:Heap)(items:Array Value):zb9 (h.push {cls:=.type "tuple",data:=.seq items}) h.objs.size items:=⟨_,Heap.get?_push_size _ rfl,rfl,rfl,_,rfl⟩
theorem zb9.lt{h:Heap}{a:Addr}{items:Array Value}(x:zb9 h a items):a<h.objs.size:=x.tup.lt
section
variable (P:Program)(w:World)
def wB(H:Hp)(h:Heap)(a:Addr):HO->Prop
 | .lst xs=>xs.length<=sizeLine/\∃ (its:List Value)(n:Nat),xF xs its/\h.get? a=some {cls:=.type "list",data:=.seq its.toArray n} | .tup xs=>xs.length<=sizeLine/\∃ its:List Value,xF xs its/\zb9 h a its.toArray | .dK kvs=>kvs.length<=sizeLine/\(a==sysModules)=false/\∃ vs,KV kvs vs/\h.DictOf (yd P w) a vs | .dT kvs=>kvs.length<=sizeLine/\(a==sysModules)=false/\∃ xs:List (List Key×Addr×Value), Paired (fun (p:List Key×V)(q:List Key×Addr×Value)=>p.1=q.1/\H q.2.1=some (.tup (p.1.map kV))/\xx p.2 q.2.2) kvs xs/\ ∃ o es ep,h.get? a=some o/\o.ExactDict/\o.data=.dict es ep/\es.toList=xs.map (entryOfKey (tupleKind (yd P w)))/\(xs.map (·.1)).Nodup | .set S n=>h.SetOf (intKind P w) a S n | .ins C dx fs=>H dx=some (.own a)/\fs.length<=1000/\dx≠a/\h.get? a=some (W.instObj C dx)/\ ∃ mA,h.Ns1 dx mA/\(∀ f,zf5 (fs.lookup f) (mA f))/\PySem.Within mA (fs.map (·.1)) | .own _=>∃ o,h.get? a=some o | .xd fs=>∃ mA,h.Ns1 a mA/\∀ f,zf5 (fs.lookup f) (mA f) | .rng lo hi=>∃ t u v,h.get? a=some {cls:=.type "range",data:=.fields #[.int lo t,.int hi u,.int 1 v]} | .frz o u=>h.get? a=some o/\wB H h a u | .tbl ps=>h.get? a=some {cls:=.none,data:=.fields ps} | .met f x=>h.get? a=some (W.methodObj (.ref f) (.ref x)) | .ext φ=>φ h/\(∃ o,h.get? a=some o)/\∀ h1 h2:Heap,φ h1->(∀ o,h1.get? a=some o->h2.get? a=some o)->φ h2
def HOk(H:Hp)(h:Heap):Prop:=∀ a o,H a=some o->wB P w H h a o
end
section
variable {P:Program}{w:World}{H H':Hp}{h h':Heap}{a:Addr}{o:HO}
theorem wB.lt(x:wB P w H h a o):a<h.objs.size:=by cases o with
 | lst xs=>obtain ⟨_,_,_,_,e⟩:=x;exact Heap.lt_size e | tup xs=>obtain ⟨_,_,_,p⟩:=x;exact p.lt | dK kvs=>obtain ⟨_,_,_,_,o,_,_,e,_⟩:=x;exact Heap.lt_size e | dT kvs=>obtain ⟨_,_,_,_,o,_,_,e,_⟩:=x;exact Heap.lt_size e | set S n=>obtain ⟨o,_,_,_,e,_⟩:=x;exact Heap.lt_size e | ins C dx fs=>obtain ⟨_,_,_,e,_⟩:=x;exact Heap.lt_size e | own y=>obtain ⟨_,e⟩:=x;exact Heap.lt_size e | xd fs=>obtain ⟨_,⟨_,_,_,e,_⟩,_⟩:=x;exact Heap.lt_size e | rng lo hi=>obtain ⟨_,_,_,e⟩:=x;exact Heap.lt_size e | frz ob u=>obtain ⟨e,_⟩:=x;exact Heap.lt_size e | tbl ps=>exact Heap.lt_size (show h.get? a=some _ from x) | met f y=>exact Heap.lt_size (show h.get? a=some _ from x) | ext φ=>obtain ⟨_,⟨_,e⟩,_⟩:=x;exact Heap.lt_size e
theorem Paired.mapP{α β:Type}{F G:α->β->Prop}:∀ {l₁:List α}{l₂:List β},Paired F l₁ l₂->(∀ a b,F a b->G a b)->Paired G l₁ l₂
 | _,_,.nil,_=>.nil | _,_,.cons r t,f=>.cons (f _ _ r) (Paired.mapP t f)
theorem wB.stay(x:wB P w H h a o)(k:∀ b u,(b=a\/H b=some (.own a))->h.get? b=some u->h'.get? b=some u) (ho:∀ b,H b=some (.own a)->H' b=some (.own a))(ht:∀ b xs,H b=some (.tup xs)->H' b=some (.tup xs)):wB P w H' h' a o:=by induction o with
 | lst xs=>obtain ⟨z,its,n,r,e⟩:=x;exact ⟨z,its,n,r,k _ _ (.inl rfl) e⟩ | tup xs=>obtain ⟨z,its,r,ob,e,c⟩:=x;exact ⟨z,its,r,ob,k _ _ (.inl rfl) e,c⟩ | dK kvs=>obtain ⟨z,y,vs,r,ob,es,ep,e,c⟩:=x;exact ⟨z,y,vs,r,ob,es,ep,k _ _ (.inl rfl) e,c⟩ | dT kvs=>
  obtain ⟨z,y,xs,r,ob,es,ep,e,c⟩:=x;exact ⟨z,y,xs,Paired.mapP r fun p q z=>⟨z.1,ht _ _ z.2.1,z.2.2⟩,ob,es,ep,k _ _ (.inl rfl) e,c⟩ | set S n=>obtain ⟨ob,es,ep,t,e,c⟩:=x;exact ⟨ob,es,ep,t,k _ _ (.inl rfl) e,c⟩ | ins C dx fs=>
  obtain ⟨d,z,ne,e,mA,⟨od,es,ep,e2,c⟩,r⟩:=x;exact ⟨ho _ d,z,ne,k _ _ (.inl rfl) e,mA,⟨od,es,ep,k _ _ (.inr d) e2,c⟩,r⟩ | own y=>obtain ⟨ob,e⟩:=x;exact ⟨ob,k _ _ (.inl rfl) e⟩ | xd fs=>obtain ⟨mA,⟨od,es,ep,e,c⟩,r⟩:=x;exact ⟨mA,⟨od,es,ep,k _ _ (.inl rfl) e,c⟩,r⟩ | rng lo hi=>obtain ⟨t,u,v,e⟩:=x;exact ⟨t,u,v,k _ _ (.inl rfl) e⟩ | frz ob u ih=>obtain ⟨e,q⟩:=x;exact ⟨k _ _ (.inl rfl) e,ih q⟩ | tbl ps=>
  have e:h.get? a=some {cls:=.none,data:=.fields ps}:=x;show h'.get? a=some {cls:=.none,data:=.fields ps};exact k a _ (.inl rfl) e | met f y=>
  have e:h.get? a=some (W.methodObj (.ref f) (.ref y)):=x;show h'.get? a=some (W.methodObj (.ref f) (.ref y));exact k a _ (.inl rfl) e | ext φ=>obtain ⟨p,⟨o,e⟩,st⟩:=x;exact ⟨st _ _ p fun o q=>k _ _ (.inl rfl) q,⟨o,k _ _ (.inl rfl) e⟩,st⟩
theorem HOk.lt(x:HOk P w H h)(e:H a=some o):a<h.objs.size:=(x a o e).lt
theorem HOk.fresh(x:HOk P w H h)(e:h.objs.size<=a):H a=none:=by cases q:H a with
 | none=>rfl | some u=>exact absurd (Nat.lt_of_lt_of_le (x.lt q) e) (Nat.lt_irrefl _)
theorem HOk.kept(x:HOk P w H h)(k:∀ b u,h.get? b=some u->h'.get? b=some u):HOk P w H h':=fun a o e=> (x a o e).stay (fun b u _ q=>k b u q) (fun _ q=>q) fun _ _ q=>q
theorem HOk.laid(x:HOk P w H h)(k:∀ b u,h.get? b=some u->h'.get? b=some u)(hp:h.objs.size<=a)(new:wB P w (upd H a o) h' a o):HOk P w (upd H a o) h':=fun b u e=>by
 have hn:=x.fresh hp;by_cases hb:b=a;·subst hb;rw [yr] at e;cases e;exact new
 ·rw [zH hb] at e;exact (x b u e).stay (fun c v _ q=>k c v q) (fun c q=>by rw [zH (yZ q hn)];exact q) fun c xs q=>by rw [zH (yZ q hn)];exact q
end
def Rd(H:Hp)(a:Addr)(u:HO):Prop:=H a=some u\/∃ o,H a=some (.frz o u)
theorem Rd.ok{P:Program}{w:World}{H:Hp}{h:Heap}{a:Addr}{u:HO}(r:Rd H a u)(x:HOk P w H h):wB P w H h a u:=by
 rcases r with r | ⟨o,r⟩;·exact x a u r
 ·obtain ⟨_,q⟩:=x a _ r;exact q
def Mut:Option HO->Prop
 | some (.lst _)=>True | some (.dK _)=>True | some (.dT _)=>True | some (.set _ _)=>True | some (.ins _ _ _)=>True | some (.ext _)=>True | _=>False
section
variable {P:Program}{w:World}{H:Hp}{h h':Heap}{x e:Addr}{o':HO}
theorem HOk.write(ok:HOk P w H h)(mu:Mut (H x))(he:e=x\/H e=some (.own x))(k:∀ b u,b≠e->h.get? b=some u->h'.get? b=some u)(heo:∃ u,h'.get? e=some u) (new:wB P w (upd H x o') h' x o'):HOk P w (upd H x o') h':=fun b u q=>by
 have nown:∀ c y,H c=some (.own y)->c≠x:=fun c y r z=>by subst z;rw [r] at mu;exact mu
 have ntup:∀ c xs,H c=some (.tup xs)->c≠x:=fun c xs r z=>by subst z;rw [r] at mu;exact mu
 by_cases hb:b=x;·subst hb;rw [yr] at q;cases q;exact new
 ·rw [zH hb] at q;by_cases hbe:b=e
  ·have q':H b=some (.own x):=by
    rcases he with z | z;·exact absurd (hbe.trans z) hb
    ·rw [hbe];exact z
   rw [q] at q';cases q';obtain ⟨v,hv⟩:=heo;exact ⟨v,by rw [hbe];exact hv⟩
  ·refine (ok b u q).stay (fun c v hc r=>k c v ?_ r) (fun c r=>by rw [zH (nown c b r)];exact r) fun c xs r=>by rw [zH (ntup c xs r)];exact r
   rcases hc with rfl | hc;·exact hbe
   ·rintro rfl;rcases he with z | z;·exact nown c b hc z
    ·rw [hc] at z;cases z;exact hb rfl
end
structure Un(fs ex:List Addr)(H H':Hp)(h h':Heap):Prop where
 keep:∀ b o,h.get? b=some o->H b=none->b∉fs->b∉ex->h'.get? b=some o
 slot:∀ b o,h.get? b=some o->H b=none->b∈fs->b∉ex->∃ sl,h'.get? b=some {o with slots:=sl}
 free:∀ b o,h.get? b=some o->H b=none->b∉ex->H' b=none
 there:∀ b o,h.get? b=some o->b∉ex->∃ o',h'.get? b=some o'
 tups:∀ b xs,H b=some (.tup xs)->H' b=some (.tup xs)
 frzs:∀ b o u,H b=some (.frz o u)->H' b=some (.frz o u)
 tbls:∀ b ps,H b=some (.tbl ps)->∃ more,H' b=some (.tbl (ps++more))
section
variable {fs fs' ex ex':List Addr}{H H1 H2:Hp}{h h1 h2 h':Heap}{a x e:Addr}{o:HO}
theorem Un.any(u:Un fs ex H H1 h h1){b:Addr}{ob:Obj}(q:h.get? b=some ob)(n:H b=none)(hx:b∉ex):∃ sl,h1.get? b=some {ob with slots:=sl}:=by
 by_cases hb:b∈fs;·exact u.slot b ob q n hb hx
 ·exact ⟨ob.slots,u.keep b ob q n hb hx⟩
theorem Un.kept(k:∀ b u,h.get? b=some u->h'.get? b=some u):Un fs ex H H h h':= ⟨fun b ob q _ _ _=>k b ob q,fun b ob q _ _ _=>⟨ob.slots,k b ob q⟩,fun _ _ _ n _=>n,fun b ob q _=>⟨ob,k b ob q⟩,fun _ _ q=>q,fun _ _ _ q=>q,fun _ ps q=>⟨#[],by rw [q];simp⟩⟩
theorem Un.refl:Un fs ex H H h h:=Un.kept fun _ _ q=>q
theorem Un.laid(k:∀ b u,h.get? b=some u->h'.get? b=some u)(hp:h.objs.size<=a)(hn:H a=none):Un fs ex H (upd H a o) h h' where
 keep:=fun b u q _ _ _=>k b u q;slot:=fun b u q _ _ _=>⟨u.slots,k b u q⟩;free:=fun b u q n _=>by rw [zH (Nat.ne_of_lt (Nat.lt_of_lt_of_le (Heap.lt_size q) hp))];exact n
 there:=fun b u q _=>⟨u,k b u q⟩;tups:=fun b xs q=>by rw [zH (yZ q hn)];exact q
 frzs:=fun b u xs q=>by rw [zH (yZ q hn)];exact q
 tbls:=fun b ps q=>⟨#[],by rw [zH (yZ q hn),q];simp⟩
theorem Un.write(mu:Mut (H x))(he:e=x\/H e=some (.own x))(k:∀ b u,b≠e->h.get? b=some u->h'.get? b=some u)(heo:∃ u,h'.get? e=some u):Un fs ex H (upd H x o) h h':=by
 have hx:∀ b,H b=none->b≠x:=fun b n z=>by subst z;rw [n] at mu;exact mu
 have hb:∀ b,H b=none->b≠e:=fun b n z=>by
  subst z;rcases he with r | r;·exact hx b n r
  ·rw [n] at r;cases r
 have hm:∀ b u,H b=some u->¬ Mut (some u)->b≠x:=fun b u q nm z=>by subst z;rw [q] at mu;exact nm mu
 refine ⟨fun b u q n _ _=>k b u (hb b n) q,fun b u q n _ _=>⟨u.slots,k b u (hb b n) q⟩,fun b u q n _=>by rw [zH (hx b n)];exact n,fun b u q _=>?_, fun b xs q=>by rw [zH (hm b _ q fun z=>z)];exact q,fun b u xs q=>by rw [zH (hm b _ q fun z=>z)];exact q,fun b ps q=>⟨#[],by rw [zH (hm b _ q fun z=>z),q];simp⟩⟩;by_cases hbe:b=e;·subst hbe;exact heo
 ·exact ⟨u,k b u hbe q⟩
end
def trk(h:Heap)(H:Hp):List Addr:=(List.range h.objs.size).filter fun a=>(H a).isSome
def zbS(h:Heap)(H:Hp):Heap:=W.hideAll h (trk h H)
theorem zaG(h:Heap)(H:Hp):(zbS h H).objs.size=h.objs.size:=W.hideAll_size _ _
theorem zc8{h:Heap}{H:Hp}{b:Addr}{o:Obj}(e:h.get? b=some o)(n:H b=none):(zbS h H).get? b=some o:= W.hideAll_get _ e fun hm=>by
  have q:(H b).isSome=true:=(List.mem_filter.mp hm).2;rw [n] at q;simp at q
theorem zeM{h:Heap}{H:Hp}{b:Addr}{o:Obj}(e:(zbS h H).get? b=some o):h.get? b=some o/\H b=none:=by
 have e':h.get? b=some o:=W.of_hideAll (trk h H) e;refine ⟨e',?_⟩;cases q:H b with
 | none=>rfl | some x=>
  have hm:b∈trk h H:=List.mem_filter.mpr ⟨List.mem_range.mpr (Heap.lt_size e'),by simp [q]⟩;have z:(zbS h H).get? b=none:=W.hideAll_none (trk h H) hm;rw [z] at e;cases e
def zdG(g h:Heap)(L:Addr):List (Addr×Obj):=(List.range h.objs.size).filterMap fun a=>if a=L\/(g.get? a).isSome=true then none else (h.get? a).map fun o=>(a,o)
def z0T(g h:Heap)(L d:Addr):List (Addr×Obj):=(zdG g h L).filter fun p=>decide (p.1≠d)
structure Mod(K:W.Frag)(mg:Str->Option Value)(base:Heap):Prop where
 kin:K.In base
 glob:base.Ns mainGlobals mg
 blt:∃ mb,base.Ns builtinsNs mb/\∀ x:Str,x≠"__name__"->mb x=bootBuiltins x
 nolimit:base.NoLimit
structure Cx where
 prog:Program
 w:World
 K:W.Frag
 mg:Str->Option Value
 base:Heap
 A:Around
 N:List Str
 s₀:Shared
 H₀:Hp
 env:Env
 outer:List Env
 stack:List Env
 ex:List Addr
 fn:Str->Bool
 calm:Bool
 pn:List (Addr×Obj)
 xe:Value->Shared->Prop
def frs(l:List Env):List Addr:=l.filterMap (·.frame)
abbrev Cx.fs(X:Cx):List Addr:=frs X.outer
def Vis(sc:Scope)(x:Str):Prop:=sc.names.lookup x=some .local\/sc.names.lookup x=some .cell\/sc.names.lookup x=some .free
def Loc(sc:Scope)(x:Str):Prop:=sc.names.lookup x=some .local\/sc.names.lookup x=some .cell
def zkw(env:Env)(h:Heap)(m:Str->Option Value)(x:Str)(u:Value):Prop:= (env.kindOf x=some .local/\m x=some u)\/((env.kindOf x=some .cell\/env.kindOf x=some .free)/\∃ c,env.cells.lookup x=some c/\h.IsCell c (some u))
structure Cx.Ok(X:Cx):Prop where
 mod:Mod X.K X.mg X.base
 kind:X.env.scope.kind=.function
 glob:X.env.globals=mainGlobals
 blt:X.env.builtins=builtinsNs
 above:X.s₀.heap.objs.size<=X.env.locals
 inj:∀ x y c,X.env.cells.lookup x=some c->X.env.cells.lookup y=some c->x=y
 has:∀ x,(X.env.kindOf x=some .cell\/X.env.kindOf x=some .free)->∃ c,X.env.cells.lookup x=some c
 cab:∀ x c,X.fn x=true->X.env.cells.lookup x=some c->X.s₀.heap.objs.size<=c
 hd:X.calm=true->X.A.handled=none
 frames:X.A.frames=some X.stack
 stk:X.stack=X.outer\/(X.stack=X.env::X.outer/\X.env.frame=some X.env.locals)
 exf:∀ b∈X.ex,b≠X.env.locals/\∀ x c,X.env.cells.lookup x=some c->c≠b
 bs:∀ b o,X.base.get? b=some o->X.s₀.heap.get? b=some o/\X.H₀ b=none
 bsz:X.base.objs.size<=X.s₀.heap.objs.size
 noex:∀ b o,X.base.get? b=some o->b∉X.ex
 exfs:∀ b∈X.ex,b∉X.fs
 funs:X.s₀.heap.FunFrames X.base X.outer
 frf:∀ b∈X.fs,X.H₀ b=none
structure Inv(X:Cx)(pins:List (Addr×Obj))(O:List (Option V))(H:Hp)(s:Shared):Prop where
 ok:X.Ok
 os:s.os=X.s₀.os
 bare:AllBare s.gens
 base:Un X.fs X.ex X.H₀ H X.s₀.heap s.heap
 loc:∃ m,s.heap.Ns X.env.locals m/\∀ (i:Nat)(x:Str)(v:V),X.N[i]? = some x->O[i]? = some (some v)->Vis X.env.scope x->∃ u,xx v u/\zkw X.env s.heap m x u
 cell:∀ x c,X.env.cells.lookup x=some c->∃ v,s.heap.IsCell c v
 free:H X.env.locals=none
 freeC:∀ x c,X.env.cells.lookup x=some c->H c=none
 pin:∀ p∈X.pn++pins,s.heap.get? p.1=some p.2/\H p.1=none/\p.1≠X.env.locals/\p.1∉X.fs/\∀ v,p.2.data≠.cell v
 hok:HOk X.prog X.w H s.heap
 len:O.length=X.N.length
section
variable {X:Cx}{pins:List (Addr×Obj)}{O:List (Option V)}{H H':Hp}{s:Shared}{h':Heap}
theorem Cx.Ok.nofr(ok:X.Ok){b:Addr}{o:Obj}(e:X.base.get? b=some o):b∉X.fs:=fun hb=>by
 have:=(ok.funs.mem hb).1;rw [e] at this;cases this
theorem Inv.bs(I:Inv X pins O H s):∀ b o,X.base.get? b=some o->s.heap.get? b=some o/\H b=none:=fun b o e=> ⟨I.base.keep b o (I.ok.bs b o e).1 (I.ok.bs b o e).2 (I.ok.nofr e) (I.ok.noex b o e),I.base.free b o (I.ok.bs b o e).1 (I.ok.bs b o e).2 (I.ok.noex b o e)⟩
theorem Inv.bk(I:Inv X pins O H s):∀ b o,X.base.get? b=some o->s.heap.get? b=some o:=fun b o e=>(I.bs b o e).1
theorem Inv.mod(I:Inv X pins O H s):Mod X.K X.mg X.base:=I.ok.mod
theorem Inv.kIn(I:Inv X pins O H s):X.K.In s.heap:=I.ok.mod.kin.keeps I.bk
theorem Inv.fr(I:Inv X pins O H s):∃ m,Fr X.base X.env.locals s.heap m:= let ⟨m,hn,_⟩:=I.loc;⟨m,hn,I.bk,Nat.le_trans I.ok.bsz I.ok.above⟩
theorem Inv.lt(I:Inv X pins O H s):X.env.locals<s.heap.objs.size:=let ⟨_,hn,_⟩:=I.loc;hn.lt
theorem Inv.sz(I:Inv X pins O H s):X.s₀.heap.objs.size<=s.heap.objs.size:=Nat.le_trans I.ok.above (Nat.le_of_lt I.lt)
theorem Inv.nofs(I:Inv X pins O H s){a:Addr}(h:s.heap.objs.size<=a):a∉X.fs:=fun hb=>by
 obtain ⟨_,o,ho,_⟩:=I.ok.funs.mem hb;exact absurd (Nat.lt_of_lt_of_le (Heap.lt_size ho) (Nat.le_trans I.sz h)) (Nat.lt_irrefl _)
theorem Inv.cne(I:Inv X pins O H s):∀ x c,X.env.cells.lookup x=some c->c≠X.env.locals:=fun x c e z=>by
 obtain ⟨v,o,ho,hd⟩:=I.cell x c e;obtain ⟨m,⟨o',es,ep,ho',hd',_⟩,_⟩:=I.loc;rw [z,ho'] at ho;cases ho;rw [hd'] at hd;cases hd
theorem Inv.funs(I:Inv X pins O H s):s.heap.FunFrames X.base X.outer:=by
 have all:∀ (l:List Env),(∀ b∈frs l,b∈X.fs)->X.s₀.heap.FunFrames X.base l->s.heap.FunFrames X.base l:=by
  intro l;induction l with
  | nil=>intro _ _;trivial | cons env r ih=>
   intro hs hl;obtain ⟨hk,⟨L,o,hf,hn,ho,hd⟩,hr⟩:=hl;have hL:L∈X.fs:=hs L (by unfold frs;rw [List.filterMap_cons,hf];exact List.mem_cons_self);obtain ⟨sl,e⟩:=I.base.slot L o ho (I.ok.frf L hL) hL fun z=>I.ok.exfs L z hL;exact ⟨hk,⟨L,_,hf,hn,e,hd⟩,ih (fun b hb=>hs b (by unfold frs;rw [List.filterMap_cons,hf];exact List.mem_cons_of_mem _ hb)) hr⟩
 exact all X.outer (fun _ hb=>hb) I.ok.funs
theorem Inv.stack(I:Inv X pins O H s):s.heap.FunFrames X.base X.stack:=by
 rcases I.ok.stk with e | ⟨e,hf⟩;·rw [e];exact I.funs
 ·rw [e];obtain ⟨m,hn,_⟩:=I.loc;refine .cons (by rw [I.ok.kind];decide) hf hn ?_ I.funs;exact Heap.get?_none_of_le (Nat.le_trans I.ok.bsz I.ok.above)
theorem Inv.stkSub(I:Inv X pins O H s):∀ b∈frs X.stack,b∈X.env.locals::X.fs:=fun b hb=>by
 rcases I.ok.stk with e | ⟨e,hf⟩;·rw [e] at hb;exact List.mem_cons_of_mem _ hb
 ·rw [e] at hb;unfold frs at hb;rw [List.filterMap_cons,hf] at hb;exact hb
theorem Inv.stkFree(I:Inv X pins O H s):∀ b∈frs X.stack,H b=none:=fun b hb=>by
 rcases List.mem_cons.mp (I.stkSub b hb) with e | hb;·rw [e];exact I.free
 ·obtain ⟨_,o,ho,_⟩:=I.ok.funs.mem hb;exact I.base.free b o ho (I.ok.frf b hb) fun z=>I.ok.exfs b z hb
theorem Inv.step{g':Array GenState}{t':Nat}{d':Drawn}{ch:List Addr}(I:Inv X pins O H s) (hch:∀ b∈ch,(b∈X.ex\/X.s₀.heap.objs.size<=b)/\b≠X.env.locals/\(∀ x c,X.env.cells.lookup x=some c->c≠b)/\∀ p∈X.pn++pins,p.1≠b) (keep:∀ b o,b≠X.env.locals->b∉X.fs->b∉ch->s.heap.get? b=some o->H b=none->h'.get? b=some o) (slot:∀ b o,b≠X.env.locals->b∈X.fs->b∉ch->s.heap.get? b=some o->H b=none->∃ sl,h'.get? b=some {o with slots:=sl})(free:∀ b o,b∉ch->s.heap.get? b=some o->H b=none->H' b=none) (there:∀ b o,b∉ch->s.heap.get? b=some o->∃ o',h'.get? b=some o') (tups:∀ b xs,H b=some (.tup xs)->H' b=some (.tup xs))(frzs:∀ b o u,H b=some (.frz o u)->H' b=some (.frz o u))(tbls:∀ b ps,H b=some (.tbl ps)->∃ more,H' b=some (.tbl (ps++more))) (ns:∀ m,s.heap.Ns X.env.locals m->h'.Ns X.env.locals m)(hok:HOk X.prog X.w H' h')(hg:AllBare g'): Inv X pins O H' {s with heap:=h',gens:=g',drawn:=d',toks:=t'}:=by
 have neL:∀ b o,X.s₀.heap.get? b=some o->b≠X.env.locals:=fun b o e=>Nat.ne_of_lt (Nat.lt_of_lt_of_le (Heap.lt_size e) I.ok.above);have neC:∀ b o,X.s₀.heap.get? b=some o->b∉X.ex->b∉ch:=fun b o e hx hb=>by
  rcases (hch b hb).1 with z | z;·exact hx z
  ·exact absurd (Nat.lt_of_lt_of_le (Heap.lt_size e) z) (Nat.lt_irrefl _)
 have cellK:∀ x c,X.env.cells.lookup x=some c->∀ v,s.heap.IsCell c v->h'.IsCell c v:=fun x c e v ⟨o,ho,hd⟩=>by
  have nch:c∉ch:=fun z=>(hch c z).2.2.1 x c e rfl;by_cases hc:c∈X.fs
  ·obtain ⟨sl,q⟩:=slot c o (I.cne x c e) hc nch ho (I.freeC x c e);exact ⟨_,q,hd⟩
  ·exact ⟨o,keep c o (I.cne x c e) hc nch ho (I.freeC x c e),hd⟩
 refine ⟨I.ok,I.os,hg,⟨fun b o e n hb hx=>?_,fun b o e n hb hx=>?_,fun b o e n hx=>?_,fun b o e hx=>?_,fun b xs e=>tups b xs (I.base.tups b xs e),fun b o xs e=>frzs b o xs (I.base.frzs b o xs e),fun b ps e=>?_⟩,?_,fun x c e=>?_,?_,fun x c e=>?_,fun p hp=>?_,hok,I.len⟩;·exact keep b o (neL b o e) hb (neC b o e hx) (I.base.keep b o e n hb hx) (I.base.free b o e n hx)
 ·obtain ⟨sl,e1⟩:=I.base.slot b o e n hb hx;obtain ⟨sl',e2⟩:=slot b _ (neL b o e) hb (neC b o e hx) e1 (I.base.free b o e n hx);exact ⟨sl',e2⟩
 ·obtain ⟨o',e1⟩:=I.base.there b o e hx;exact free b o' (neC b o e hx) e1 (I.base.free b o e n hx)
 ·obtain ⟨o',e1⟩:=I.base.there b o e hx;exact there b o' (neC b o e hx) e1
 ·obtain ⟨m1,e1⟩:=I.base.tbls b ps e;obtain ⟨m2,e2⟩:=tbls b _ e1;exact ⟨m1++m2,by rw [e2,Array.append_assoc]⟩
 ·obtain ⟨m,hn,hl⟩:=I.loc;refine ⟨m,ns m hn,fun i x v e1 e2 e3=>?_⟩;obtain ⟨u,r,l⟩:=hl i x v e1 e2 e3;refine ⟨u,r,?_⟩;rcases l with l | ⟨k,c,e,z⟩;·exact .inl l
  ·exact .inr ⟨k,c,e,cellK x c e _ z⟩
 ·obtain ⟨v,z⟩:=I.cell x c e;exact ⟨v,cellK x c e v z⟩
 ·obtain ⟨m,⟨o,_,_,ho,_⟩,_⟩:=I.loc;exact free _ o (fun z=>(hch _ z).2.1 rfl) ho I.free
 ·obtain ⟨v,o,ho,hd⟩:=I.cell x c e;exact free c o (fun z=>(hch c z).2.2.1 x c e rfl) ho (I.freeC x c e)
 ·obtain ⟨e,n,ne,nf,d⟩:=I.pin p hp;have nch:p.1∉ch:=fun z=>(hch p.1 z).2.2.2 p hp rfl;exact ⟨keep p.1 p.2 ne nf nch e n,free p.1 p.2 nch e n,ne,nf,d⟩
theorem Inv.un {t':Nat} (I:Inv X pins O H s) (u:Un X.fs [] H H' s.heap h') (hok:HOk X.prog X.w H' h'):Inv X pins O H' {s with heap:=h',toks:=t'}:=by
 obtain ⟨m,⟨o,es,ep,ho,r⟩,_⟩:=id I.loc;obtain ⟨sl,hL⟩:=u.any ho I.free (by simp);exact I.step (g':=s.gens) (d':=s.drawn) (ch:=[]) (fun _ z=>nomatch z) (fun b o _ hb _ e n=>u.keep b o e n hb (by simp)) (fun b o _ hb _ e n=>u.slot b o e n hb (by simp)) (fun b o _ e n=>u.free b o e n (by simp)) (fun b o _ e=>u.there b o e (by simp)) u.tups u.frzs u.tbls (fun m' hm=>by
  obtain ⟨o',es',ep',ho',r'⟩:=hm;rw [ho] at ho';cases ho';exact ⟨_,es',ep',hL,r'⟩) hok I.bare
theorem Inv.call{g':Array GenState}{t':Nat}{d':Drawn}{ch:List Addr}(I:Inv X pins O H s)(u:Un (frs X.stack) ch H H' s.heap h')(hok:HOk X.prog X.w H' h')(hg:AllBare g') (hch:∀ b∈ch,(b∈X.ex\/X.s₀.heap.objs.size<=b)/\b≠X.env.locals/\(∀ x c,X.env.cells.lookup x=some c->c≠b)/\∀ p∈X.pn++pins,p.1≠b): Inv X pins O H' {s with heap:=h',gens:=g',drawn:=d',toks:=t'}:=by
 obtain ⟨m,⟨o,es,ep,ho,r⟩,_⟩:=id I.loc;obtain ⟨sl,hL⟩:=u.any ho I.free fun z=>(hch _ z).2.1 rfl;exact I.step (ch:=ch) hch (fun b o hL hb hc e n=>u.keep b o e n (fun z=>(List.mem_cons.mp (I.stkSub b z)).elim hL hb) hc) (fun b o _ _ hc e n=>u.any e n hc) (fun b o hc e n=>u.free b o e n hc) (fun b o hc e=>u.there b o e hc) u.tups u.frzs u.tbls (fun m' hm=>by
  obtain ⟨o',es',ep',ho',r'⟩:=hm;rw [ho] at ho';cases ho';exact ⟨_,es',ep',hL,r'⟩) hok hg
theorem Inv.turned {t':Nat} {it:Addr} (I:Inv X pins O H s) (k:∀ b o,b≠it->s.heap.get? b=some o->h'.get? b=some o) (hn:H it=none) (hL:it≠X.env.locals) (h1:it∈X.ex\/X.s₀.heap.objs.size<=it) (h2:∀ x c,X.env.cells.lookup x=some c->c≠it) (h3:∀ p∈X.pn++pins,p.1≠it):Inv X pins O H {s with heap:=h',toks:=t'}:=by
 have nit:∀ b u,H b=some u->b≠it:=fun b u e z=>by rw [z,hn] at e;cases e
 refine I.step (g':=s.gens) (d':=s.drawn) (ch:=[it]) (fun b hb=>?_) (fun b o _ _ hc e _=>k b o (fun z=>hc (by simp [z])) e) (fun b o _ _ hc e _=>⟨o.slots,k b o (fun z=>hc (by simp [z])) e⟩) (fun _ _ _ _ n=>n) (fun b o hc e=>⟨o,k b o (fun z=>hc (by simp [z])) e⟩) (fun _ _ e=>e) (fun _ _ _ e=>e) (fun b ps e=>⟨#[],by rw [e];simp⟩) (fun m hm=>?_) (fun b u e=>?_) I.bare
 ·have e:b=it:=by simpa using hb
  subst e;exact ⟨h1,hL,h2,h3⟩
 ·obtain ⟨o,es,ep,ho,r⟩:=hm;exact ⟨o,es,ep,k _ o (Ne.symm hL) ho,r⟩
 ·refine (I.hok b u e).stay (fun c v hc q=>k c v ?_ q) (fun _ q=>q) fun _ _ q=>q;rcases hc with z | z;·rw [z];exact nit b u e
  ·exact nit c _ z
theorem Inv.tok (I:Inv X pins O H s) (t:Nat):Inv X pins O H {s with toks:=t}:=I.un (h':=s.heap) (t':=t) Un.refl I.hok
theorem Inv.kept{t':Nat}(I:Inv X pins O H s)(k:∀ b u,s.heap.get? b=some u->h'.get? b=some u):Inv X pins O H {s with heap:=h',toks:=t'}:=I.un (Un.kept k) (I.hok.kept k)
theorem Inv.laid {a:Addr} {o:HO} {t':Nat} (I:Inv X pins O H s) (k:∀ b u,s.heap.get? b=some u->h'.get? b=some u) (hp:s.heap.objs.size<=a) (new:wB X.prog X.w (upd H a o) h' a o): Inv X pins O (upd H a o) {s with heap:=h',toks:=t'}:=I.un (Un.laid k hp (I.hok.fresh hp)) (I.hok.laid k hp new)
theorem Inv.write {x e:Addr} {o:HO} {t':Nat} (I:Inv X pins O H s) (mu:Mut (H x)) (he:e=x\/H e=some (.own x)) (k:∀ b u,b≠e->s.heap.get? b=some u->h'.get? b=some u) (heo:∃ u,h'.get? e=some u) (new:wB X.prog X.w (upd H x o) h' x o):Inv X pins O (upd H x o) {s with heap:=h',toks:=t'}:=I.un (Un.write mu he k heo) (I.hok.write mu he k heo new)
theorem Inv.weak{O':List (Option V)}(I:Inv X pins O H s)(hl:O'.length=O.length)(w:∀ (i:Nat) v,O'[i]? = some (some v)->O[i]? = some (some v)):Inv X pins O' H s:= ⟨I.ok,I.os,I.bare,I.base,let ⟨m,hn,hl'⟩:=I.loc;⟨m,hn,fun i x v e1 e2 e3=>hl' i x v e1 (w i v e2) e3⟩,I.cell,I.free,I.freeC,I.pin,I.hok,hl.trans I.len⟩
theorem Inv.pins_of{pins':List (Addr×Obj)}(I:Inv X pins O H s)(h:∀ p∈pins',s.heap.get? p.1=some p.2/\H p.1=none/\p.1≠X.env.locals/\p.1∉X.fs/\∀ v,p.2.data≠.cell v):Inv X pins' O H s:= ⟨I.ok,I.os,I.bare,I.base,I.loc,I.cell,I.free,I.freeC,fun p hp=>(List.mem_append.mp hp).elim (fun z=>I.pin p (List.mem_append_left _ z)) (h p),I.hok,I.len⟩
theorem z8j{N:List Str}(hN:N.Nodup){i j:Nat}{x:Str}(a:N[i]? = some x)(b:N[j]? = some x):i=j:=by
 obtain ⟨h1,e1⟩:=List.getElem?_eq_some_iff.mp a;obtain ⟨h2,e2⟩:=List.getElem?_eq_some_iff.mp b;exact (List.getElem_inj hN).mp (e1.trans e2.symm)
theorem z1t{M:Model}{A:Around}{E:Value->Shared->Prop}{i:Nat}{x:Str}{v:V}{u:Value}{Q:Unit->Shared->Prop}(I:Inv X pins O H s)(hN:X.N.Nodup)(hi:X.N[i]? = some x)(hx:Loc X.env.scope x)(r:xx v u) (h:∀ s',Inv X pins (O.set i (some v)) H s'->(∃ a,Heap.SameBut a s.heap s'.heap/\(a=X.env.locals\/X.env.cells.lookup x=some a))->Q () s')(hf:X.fn x=true\/X.env.scope.names.lookup x=some .local:=by first | exact .inl rfl | exact .inr rfl | assumption):wpAny M A (storeName X.env x u) Q E s:=by
 obtain ⟨m,hn,hl⟩:=id I.loc;have hcls:(X.env.scope.kind==.class||(X.env.scope.kind==.module&&X.env.locals != X.env.globals))=false:=by rw [I.ok.kind];rfl
 have hiO:i<O.length:=by rw [I.len];exact (List.getElem?_eq_some_iff.mp hi).1
 have cne:=I.cne;have tracked:∀ {a:Addr}{h':Heap},(∃ o,s.heap.get? a=some o/\H a=none)->Heap.SameBut a s.heap h'->HOk X.prog X.w H h':=fun {a h'} ha hs b ob e=>by
  obtain ⟨_,_,hfree⟩:=ha;refine (I.hok b ob e).stay (fun c w' hc q=>(hs.2 c ?_).trans q) (fun _ q=>q) fun _ _ q=>q;rintro rfl;rcases hc with rfl | hc;·rw [hfree] at e;cases e
  ·rw [hfree] at hc;cases hc
 rcases hx with hk | hk
 ·refine wpAny_storeName_local hk hn (fun h' hn' hs=>?_) hcls;obtain ⟨oL,_,_,hoL,_⟩:=id hn;refine h _ ⟨I.ok,I.os,I.bare,⟨fun b o e n hb hx=>?_,fun b o e n hb hx=>?_,I.base.free,fun b o e hx=>?_,I.base.tups,I.base.frzs,I.base.tbls⟩,⟨_,hn',fun j y v' e1 e2 e3=>?_⟩,fun y c e=>?_,I.free,I.freeC,fun p hp=>?_,tracked ⟨oL,hoL,I.free⟩ hs,by simpa using I.len⟩ ⟨_,hs,.inl rfl⟩;·exact (hs.2 b (Nat.ne_of_lt (Nat.lt_of_lt_of_le (Heap.lt_size e) I.ok.above))).trans (I.base.keep b o e n hb hx)
  ·obtain ⟨sl,e1⟩:=I.base.slot b o e n hb hx;exact ⟨sl,(hs.2 b (Nat.ne_of_lt (Nat.lt_of_lt_of_le (Heap.lt_size e) I.ok.above))).trans e1⟩
  ·obtain ⟨o',e1⟩:=I.base.there b o e hx;exact ⟨o',(hs.2 b (Nat.ne_of_lt (Nat.lt_of_lt_of_le (Heap.lt_size e) I.ok.above))).trans e1⟩
  ·by_cases hj:j=i
   ·subst hj;rw [hi] at e1;cases e1;rw [List.getElem?_set_self hiO] at e2;cases e2;exact ⟨u,r,.inl ⟨hk,by simp⟩⟩
   ·rw [List.getElem?_set_ne (Ne.symm hj)] at e2;obtain ⟨u',r',q⟩:=hl j y v' e1 e2 e3;refine ⟨u',r',?_⟩;rcases q with ⟨k,e⟩ | ⟨k,c,e,z⟩
    ·refine .inl ⟨k,?_⟩;have:y≠x:=fun e=>hj (z8j hN e1 (e ▸ hi));simp [this,e]
    ·exact .inr ⟨k,c,e,z.sameBut hs (cne y c e)⟩
  ·obtain ⟨w',z⟩:=I.cell y c e;exact ⟨w',z.sameBut hs (cne y c e)⟩
  ·obtain ⟨e,n,ne,nf,d⟩:=I.pin p hp;exact ⟨(hs.2 p.1 ne).trans e,n,ne,nf,d⟩
 ·have hfn:X.fn x=true:=by
   rcases hf with z | z;·exact z
   ·rw [z] at hk;cases hk
  obtain ⟨c,hc⟩:=I.ok.has x (.inl hk);obtain ⟨w',z⟩:=I.cell x c hc;refine wpAny_storeName_cell I.ok.kind hk hc z (fun h' hc' hs=>?_);obtain ⟨oc,hoc,hocd⟩:=id z;refine h {s with heap:=h'} ⟨I.ok,I.os,I.bare,⟨fun b o e n hb hx=>?_,fun b o e n hb hx=>?_,I.base.free,fun b o e hx=>?_,I.base.tups,I.base.frzs,I.base.tbls⟩,⟨m,hn.sameBut hs (Ne.symm (cne x c hc)),fun j y v' e1 e2 e3=>?_⟩,fun y c' e=>?_,I.free,I.freeC,fun p hp=>?_,tracked ⟨oc,hoc,I.freeC x c hc⟩ hs,by simpa using I.len⟩ ⟨c,hs,.inr hc⟩;·exact (hs.2 b (Nat.ne_of_lt (Nat.lt_of_lt_of_le (Heap.lt_size e) (I.ok.cab x c hfn hc)))).trans (I.base.keep b o e n hb hx)
  ·obtain ⟨sl,e1⟩:=I.base.slot b o e n hb hx;exact ⟨sl,(hs.2 b (Nat.ne_of_lt (Nat.lt_of_lt_of_le (Heap.lt_size e) (I.ok.cab x c hfn hc)))).trans e1⟩
  ·obtain ⟨o',e1⟩:=I.base.there b o e hx;exact ⟨o',(hs.2 b (Nat.ne_of_lt (Nat.lt_of_lt_of_le (Heap.lt_size e) (I.ok.cab x c hfn hc)))).trans e1⟩
  ·by_cases hj:j=i
   ·subst hj;rw [hi] at e1;cases e1;rw [List.getElem?_set_self hiO] at e2;cases e2;exact ⟨u,r,.inr ⟨.inl hk,c,hc,hc'⟩⟩
   ·rw [List.getElem?_set_ne (Ne.symm hj)] at e2;obtain ⟨u',r',q⟩:=hl j y v' e1 e2 e3;refine ⟨u',r',?_⟩;rcases q with q | ⟨k,c',e,z'⟩;·exact .inl q
    ·refine .inr ⟨k,c',e,z'.sameBut hs ?_⟩;rintro rfl;exact hj (z8j hN e1 (I.ok.inj _ _ _ e hc ▸ hi))
  ·by_cases hcc:c'=c;·subst hcc;exact ⟨_,hc'⟩
   ·obtain ⟨w2,z2⟩:=I.cell y c' e;exact ⟨w2,z2.sameBut hs hcc⟩
  ·obtain ⟨e,n,ne,nf,d⟩:=I.pin p hp;refine ⟨(hs.2 p.1 ?_).trans e,n,ne,nf,d⟩;intro q;rw [q,hoc] at e;have q':oc=p.2:=Option.some.inj e;exact d w' (by rw [<- q'];exact hocd)
theorem z18{M:Model}{A:Around}{E:Value->Shared->Prop}{i:Nat}{x:Str}{v:V}{u:Value}{Q:Unit->Shared->Prop}(I:Inv X pins O H s)(hN:X.N.Nodup)(hi:X.N[i]? = some x)(hx:Loc X.env.scope x)(r:xx v u) (h:∀ s',Inv X pins (O.set i (some v)) H s'->Q () s')(hf:X.fn x=true\/X.env.scope.names.lookup x=some .local:=by first | exact .inl rfl | exact .inr rfl | assumption):wpAny M A (storeName X.env x u) Q E s:= z1t I hN hi hx r (fun s' I' _=>h s' I') hf
theorem Inv.call' {s':Shared} {ch:List Addr} (I:Inv X pins O H s) (ho:s'.os=s.os) (u:Un (frs X.stack) ch H H' s.heap s'.heap) (hok:HOk X.prog X.w H' s'.heap) (hg:AllBare s'.gens) (hch:∀ b∈ch,(b∈X.ex\/X.s₀.heap.objs.size<=b)/\b≠X.env.locals/\(∀ x c,X.env.cells.lookup x=some c->c≠b)/\∀ p∈X.pn++pins,p.1≠b):Inv X pins O H' s':=by
 obtain ⟨h',g',d',t',o'⟩:=s';have e:o'=s.os:=ho;subst e;exact I.call (g':=g') (t':=t') (d':=d') u hok hg hch
end
abbrev XK:=Value->Option Addr->Hp->Prop
abbrev St:=List (Option V)
abbrev VK:=V->Hp->Prop
abbrev TE:=St->Hp->VK->Prop
abbrev TT:=St->Hp->(Bool->Hp->Prop)->Prop
abbrev TA:=St->Hp->(List V->Hp->Prop)->Prop
structure zbT where
 nx:St->Hp->Prop
 rt:VK
 bk:St->Hp->Prop:=fun _ _=>False
 ct:St->Hp->Prop:=fun _ _=>False
abbrev TS:=zbT->St->Hp->Prop
def EP(X:Cx)(pins:List (Addr×Obj))(O:St)(Q:VK)(u:Value)(s':Shared):Prop:=∃ v H',Inv X pins O H' s'/\xx v u/\Q v H'
def TP(X:Cx)(pins:List (Addr×Obj))(O:St)(Q:Bool->Hp->Prop)(b:Bool)(s':Shared):Prop:=∃ H',Inv X pins O H' s'/\Q b H'
def AP(X:Cx)(pins:List (Addr×Obj))(O:St)(Q:List V->Hp->Prop)(us:List Value)(s':Shared):Prop:=∃ vs H',Inv X pins O H' s'/\xF vs us/\Q vs H'
def SP(X:Cx)(pins:List (Addr×Obj))(D:zbT)(f:Flow)(s':Shared):Prop:= match f with
 | .next=>∃ O' H',Inv X pins O' H' s'/\D.nx O' H' | .brk=>∃ O' H',Inv X pins O' H' s'/\D.bk O' H' | .cont=>∃ O' H',Inv X pins O' H' s'/\D.ct O' H' | .ret u=>∃ v O' H',Inv X pins O' H' s'/\xx v u/\D.rt v H'
def PE(X:Cx)(e:Expr)(t:TE):Prop:= ∀ (pins:List (Addr×Obj))(s:Shared)(O:St)(H:Hp)(Q:VK),Inv X pins O H s->t O H Q->wpAny (model X.prog X.w) X.A (eval e X.env) (EP X pins O Q) X.xe s
def PT(X:Cx)(e:Expr)(t:TT):Prop:= ∀ (pins:List (Addr×Obj))(s:Shared)(O:St)(H:Hp)(Q:Bool->Hp->Prop),Inv X pins O H s->t O H Q->wpAny (model X.prog X.w) X.A (isTrue e X.env (eval e X.env)) (TP X pins O Q) X.xe s
def PW(X:Cx)(e:Expr)(t:TT):Prop:= ∀ (whole:Sem Value)(pins:List (Addr×Obj))(s:Shared)(O:St)(H:Hp)(Q:Bool->Hp->Prop),Inv X pins O H s->t O H Q->wpAny (model X.prog X.w) X.A (isTrue e X.env whole) (TP X pins O Q) X.xe s
theorem PW.pt{X:Cx}{e:Expr}{t:TT}(h:PW X e t):PT X e t:=h _
def PA(X:Cx)(es:List Expr)(t:TA):Prop:= ∀ (pos:Pos)(pins:List (Addr×Obj))(s:Shared)(O:St)(H:Hp)(Q:List V->Hp->Prop),Inv X pins O H s->t O H Q->wpAny (model X.prog X.w) X.A (spliced (backTo pos (starEach es X.env))) (AP X pins O Q) X.xe s
def PS(X:Cx)(st:Stmt)(t:TS):Prop:= ∀ (pins:List (Addr×Obj))(s:Shared)(O:St)(H:Hp)(D:zbT),Inv X pins O H s->t D O H->wpAny (model X.prog X.w) X.A (exec st X.env) (SP X pins D) X.xe s
def PSs(X:Cx)(st:List Stmt)(t:TS):Prop:= ∀ (pins:List (Addr×Obj))(s:Shared)(O:St)(H:Hp)(D:zbT),Inv X pins O H s->t D O H->wpAny (model X.prog X.w) X.A (execs st X.env) (SP X pins D) X.xe s
theorem thn{α:Type}{t:Sem α}{Q Q':α->Shared->Prop}{M:Model}{A:Around}{E:Value->Shared->Prop}{s:Shared}(h:wpAny M A t Q E s)(hQ:∀ a s,Q a s->Q' a s):wpAny M A t Q' E s:=wpAny_mono h hQ fun _ _ x=>x
section
variable {X:Cx}
theorem bin{a b:Expr}{ta tb:TE}(ha:PE X a ta)(hb:PE X b tb){pins:List (Addr×Obj)}{s:Shared}{O:St}{H:Hp}{R:V->V->Hp->Prop}(I:Inv X pins O H s)(h:ta O H fun x H1=>tb O H1 fun y H2=>R x y H2) {α:Type}{Q:α->Shared->Prop}{f:Value->Value->Sem α} (hf:∀ v u s2 x y H2,Inv X pins O H2 s2->xx x v->xx y u->R x y H2->wpAny (model X.prog X.w) X.A (f v u) Q X.xe s2): wpAny (model X.prog X.w) X.A (eval a X.env) (fun v s₁=>wpAny (model X.prog X.w) X.A (eval b X.env) (fun u s₂=>wpAny (model X.prog X.w) X.A (f v u) Q X.xe s₂) X.xe s₁) X.xe s:=by
 refine thn (ha pins s O H _ I h) fun v s1 ⟨x,H1,I1,r1,q1⟩=>?_;refine thn (hb pins s1 O H1 _ I1 q1) fun u s2 ⟨y,H2,I2,r2,q2⟩=>?_;exact hf v u s2 x y H2 I2 r1 r2 q2
def zjJ(i:Nat):TE:=fun O H Q=>∃ v,O[i]? = some (some v)/\Q v H
def tC(v:V):TE:=fun _ H Q=>Q v H
theorem z9j{i:Nat}{x:Str}{pos:Pos}(hN:X.N[i]? = some x)(hv:Vis X.env.scope x)(hd:(x==("__debug__":Str))=false:=by decide)(hcd:(x==("__classdict__":Str))=false:=by decide):PE X (.Name x pos) (zjJ i):=by
 intro pins s O H Q I h;obtain ⟨v,e,h⟩:=h;obtain ⟨m,hn,hl⟩:=I.loc;obtain ⟨u,r,l⟩:=hl i x v hN e hv;have fin:EP X pins O Q u s:=⟨v,H,I,r,h⟩;rcases l with ⟨hk,hm⟩ | ⟨hk,c,hc,hcell⟩;·exact wpAny_Name (wpAny_loadName_local I.ok.kind hk hn hm fin) hd
 ·rcases hk with hk | hk;·exact wpAny_Name (wpAny_loadName_cell I.ok.kind hk hc hcell fin) hd
  ·exact wpAny_Name (wpAny_loadName_free I.ok.kind hk hc hcell fin hcd) hd
theorem zh9{i j pos}:PE X (.Constant (.int i) j pos) (tC (.int i)):=fun _ _ _ H _ I h=>wpAny_Constant_int ⟨.int i,H,I.tok _,⟨_,rfl⟩,h⟩
theorem zi6{b j pos}:PE X (.Constant (.bool b) j pos) (tC (.bl b)):=fun _ _ _ H _ I h=>Constant_bool ⟨.bl b,H,I,rfl,h⟩
theorem zf7{j pos}:PE X (.Constant .none j pos) (tC .non):=fun _ _ _ H _ I h=>Constant_none ⟨.non,H,I,rfl,h⟩
theorem zgl{x j pos}:PE X (.Constant (.str x) j pos) (tC (.str x)):=fun _ _ _ H _ I h=>Calls.Constant_str ⟨.str x,H,I.tok _,⟨_,rfl⟩,h⟩
def Gl(X:Cx)(x:Str):Prop:=X.env.kindOf x=some .globalImplicit
theorem z7c{E:Value->Shared->Prop}{pins:List (Addr×Obj)}{s:Shared}{O:St}{H:Hp}{x:Str}{u:Value}{pos:Pos}{Q:Value->Shared->Prop}(I:Inv X pins O H s)(hg:Gl X x)(hm:X.mg x=some u)(h:Q u s) (hd:(x==("__debug__":Str))=false:=by decide):wpAny (model X.prog X.w) X.A (eval (.Name x pos) X.env) Q E s:= Calls.Name_function_global I.ok.kind hg (Calls.loadGlobal_global (by rw [I.ok.glob];exact I.mod.glob.keeps I.bk) hm h) hd
theorem z0C{E:Value->Shared->Prop}{pins:List (Addr×Obj)}{s:Shared}{O:St}{H:Hp}{x:Str}{u:Value}{pos:Pos}{Q:Value->Shared->Prop}(I:Inv X pins O H s)(hg:Gl X x)(hm:X.mg x=none)(hv:bootBuiltins x=some u)(h:Q u s) (hn:x≠"__name__":=by decide)(hd:(x==("__debug__":Str))=false:=by decide):wpAny (model X.prog X.w) X.A (eval (.Name x pos) X.env) Q E s:=by
 obtain ⟨mb,h1,h2⟩:=I.mod.blt;exact Calls.Name_function_global I.ok.kind hg (Calls.loadGlobal_builtin (by rw [I.ok.glob];exact I.mod.glob.keeps I.bk) hm (by rw [I.ok.blt];exact h1.keeps I.bk) ((h2 x hn).trans hv) h) hd
theorem z6r{x:Str}{v:V}{u:Value}{pos:Pos}(hg:Gl X x)(hm:X.mg x=some u)(r:xx v u)(hd:(x==("__debug__":Str))=false:=by decide):PE X (.Name x pos) (tC v):= fun _ _ _ H _ I h=>z7c I hg hm ⟨v,H,I,r,h⟩ hd
theorem zdZ{x:Str}{v:V}{u:Value}{pos:Pos}(hg:Gl X x)(hm:X.mg x=none)(hv:bootBuiltins x=some u)(r:xx v u)(hn:x≠"__name__":=by decide)(hd:(x==("__debug__":Str))=false:=by decide):PE X (.Name x pos) (tC v):= fun _ _ _ H _ I h=>z0C I hg hm hv ⟨v,H,I,r,h⟩ hn hd
variable {a b:Expr}{ta tb:TE}{pos:Pos}
def PC(X:Cx)(op:CmpOp)(a b:Expr)(t:TE):Prop:= ∀ (pins:List (Addr×Obj))(s:Shared)(O:St)(H:Hp)(Q:VK),Inv X pins O H s->t O H Q-> wpAny (model X.prog X.w) X.A (eval a X.env) (fun v s₁=>wpAny (model X.prog X.w) X.A (eval b X.env) (fun u s₂=>wpAny (model X.prog X.w) X.A (compareOp op v u) (EP X pins O Q) X.xe s₂) X.xe s₁) X.xe s
theorem zbG(b:Expr){op:CmpOp}(h:op≠.In)(h2:op≠.NotIn):behindInMarks op b=false:=by
 have e1:(op==CmpOp.In)=false:=by cases op<;>first | rfl | exact absurd rfl h
 have e2:(op==CmpOp.NotIn)=false:=by cases op<;>first | rfl | exact absurd rfl h2
 cases b<;>simp [behindInMarks,e1,e2]
def tB(t:TE):TT:=fun O H Q=>t O H fun x H1=>∃ c,x=.bl c/\Q c H1
theorem zjK{op:CmpOp}{t:TE}(h:PC X op a b t)(h1:behindInMarks op b=false:=by first | exact zbG _ (by decide) (by decide) | rfl):PT X (.Compare a [op] [b] pos) (tB t):=by
 intro pins s O H Q I hw;refine wpAny_isTrue_Compare1 (thn (h pins s O H _ I hw) fun v s1 h1=>thn h1 fun u s2 h2=>thn h2 fun c s3 ⟨x,H1,I1,r1,q1⟩=>?_) h1;obtain ⟨d,rfl,q⟩:=q1;cases r1;exact wpAny_truthy_bool ⟨H1,I1,q⟩
theorem zg7{e:Expr}{t:TE}(h:PE X e t)(he:∀ whole,isTrue e X.env whole=(do let v <- whole;standAt e.pos;holding [v] (truthy v)):=by intro _;rfl):PT X e (tB t):=by
 intro pins s O H Q I hw;refine isTrue_plain (thn (h pins s O H _ I hw) fun v s1 ⟨x,H1,I1,r1,q1⟩=>?_) (he _);obtain ⟨d,rfl,q⟩:=q1;cases r1;exact wpAny_truthy_bool ⟨H1,I1,q⟩
variable {tA tB':TT}{z0T:List Expr}
def zk4(t u:TT):TT:=fun O H Q=>t O H fun c H1=>if c=true then u O H1 Q else Q false H1
def tOr(t u:TT):TT:=fun O H Q=>t O H fun c H1=>if c=true then Q true H1 else u O H1 Q
def zk1(t:TT):TT:=fun O H Q=>t O H fun c H1=>Q (!c) H1
theorem zen(ha:PT X a tA):PW X (.BoolOp .And [a] pos) tA:=by
 intro wh pins s O H Q I h;refine isTrue_and (thn (ha pins s O H Q I h) fun c s1 e=>?_);cases c with
 | true=>exact isTrue_and_nil e | false=>exact e
theorem zf9(ha:PT X a tA):PW X (.BoolOp .Or [a] pos) tA:=by
 intro wh pins s O H Q I h;refine isTrue_or (thn (ha pins s O H Q I h) fun c s1 e=>?_);cases c with
 | false=>exact isTrue_or_nil e | true=>exact e
theorem zfN(ha:PT X a tA)(hb:PW X (.BoolOp .And (b::z0T) pos) tB'):PW X (.BoolOp .And (a::b::z0T) pos) (zk4 tA tB'):=by
 intro wh pins s O H Q I h;refine isTrue_and (thn (ha pins s O H _ I h) fun c s1 ⟨H1,I1,q1⟩=>?_);cases c with
 | true=>exact hb wh pins s1 O H1 Q I1 q1 | false=>exact ⟨H1,I1,q1⟩
theorem ziG(ha:PT X a tA)(hb:PW X (.BoolOp .Or (b::z0T) pos) tB'):PW X (.BoolOp .Or (a::b::z0T) pos) (tOr tA tB'):=by
 intro wh pins s O H Q I h;refine isTrue_or (thn (ha pins s O H _ I h) fun c s1 ⟨H1,I1,q1⟩=>?_);cases c with
 | true=>exact ⟨H1,I1,q1⟩ | false=>exact hb wh pins s1 O H1 Q I1 q1
theorem zfI(ha:PT X a tA):PT X (.UnaryOp .Not a pos) (zk1 tA):=by
 intro pins s O H Q I h;exact isTrue_not (ha pins s O H (fun c H1=>Q (!c) H1) I h)
def zig(ta tb:TE):TE:=fun O H Q=>ta O H fun x H1=>∃ c,x=.bl c/\if c=true then tb O H1 Q else Q (.bl false) H1
def zi1(ta:TE):TE:=fun O H Q=>ta O H fun x H1=>∃ c,x=.bl c/\Q (.bl (!c)) H1
theorem zfP{op}{t:TE}(h:PE X a t):PE X (.BoolOp op [a] pos) t:=fun pins s O H Q I hw=>BoolOp_one (h pins s O H Q I hw)
theorem zgZ(ha:PE X a ta)(hb:PE X (.BoolOp .And (b::z0T) pos) tb):PE X (.BoolOp .And (a::b::z0T) pos) (zig ta tb):=by
 intro pins s O H Q I h;refine BoolOp_and (thn (ha pins s O H _ I h) fun v s1 ⟨x,H1,I1,r1,q1⟩=>?_);obtain ⟨c,rfl,q1⟩:=q1;cases r1;refine wpAny_truthy_bool ?_;cases c with
 | true=>exact hb pins s1 O H1 Q I1 q1 | false=>exact ⟨.bl false,H1,I1,rfl,q1⟩
theorem zgx(ha:PE X a ta):PE X (.UnaryOp .Not a pos) (zi1 ta):=by
 intro pins s O H Q I h;refine UnaryOp_ (thn (ha pins s O H _ I h) fun v s1 ⟨x,H1,I1,r1,q1⟩=>?_);obtain ⟨c,rfl,q1⟩:=q1;cases r1;exact not_of (wpAny_truthy_bool ⟨.bl (!c),H1,I1,rfl,q1⟩)
def tIf(t:TT)(ta tb:TE):TE:=fun O H Q=>t O H fun c H1=>if c=true then ta O H1 Q else tb O H1 Q
theorem zbg{c:Expr}(hc:PT X c tA)(ha:PE X a ta)(hb:PE X b tb):PE X (.IfExp c a b pos) (tIf tA ta tb):=by
 intro pins s O H Q I h;refine wpAny_IfExp (thn (hc pins s O H _ I h) fun d s1 ⟨H1,I1,q1⟩=>?_);cases d with
 | true=>exact ha pins s1 O H1 Q I1 q1 | false=>exact hb pins s1 O H1 Q I1 q1
end
def SqL(K:W.Frag)(H:Hp)(a:Addr)(xs:List V):Prop:= Rd H a (.lst xs)\/ ∃ (o:Obj)(its:Array Value)(n:Nat),K.lookup a=some o/\o.cls=.type "list"/\o.dict=none/\o.data=.seq its n/\its.size<=sizeLine/\xF xs its.toList
def SqT(K:W.Frag)(H:Hp)(a:Addr)(xs:List V):Prop:= Rd H a (.tup xs)\/ ∃ (o:Obj)(its:Array Value)(n:Nat),K.lookup a=some o/\o.cls=.type "tuple"/\o.data=.seq its n/\its.size<=sizeLine/\xF xs its.toList
def zkb:Value->Option V
 | .none=>some .non | .bool b=>some (.bl b) | .int i _=>some (.int i) | .str x _=>some (.str x) | .bytes b _=>some (.byt b) | .float b _=>some (.flt b) | .ref a=>some (.ref a) | .type n=>some (.ty n) | _=>none
theorem xx.abs{x:V}{u:Value}(r:xx x u):zkb u=some x:=by cases x with
 | non=>cases r;rfl | bl _=>cases r;rfl | int _=>obtain ⟨t,rfl⟩:=r;rfl | str _=>obtain ⟨t,rfl⟩:=r;rfl | byt _=>obtain ⟨t,rfl⟩:=r;rfl | flt _=>obtain ⟨t,rfl⟩:=r;rfl | ref _=>cases r;rfl | ty _=>cases r;rfl
theorem xx.inj{x y:V}{u:Value}(r:xx x u)(q:xx y u):x=y:=Option.some.inj (r.abs.symm.trans q.abs)
theorem xF.inj:∀ {xs ys:List V}{us:List Value},xF xs us->xF ys us->xs=ys
 | _,_,_,.nil,.nil=>rfl | _,_,_,.cons r t,.cons r' t'=>by rw [r.inj r',xF.inj t t']
section
variable {X:Cx}{pins:List (Addr×Obj)}{O:St}{H:Hp}{s:Shared}{a:Addr}{xs ys:List V}
theorem Inv.list(I:Inv X pins O H s)(h:SqL X.K H a xs):∃ its:List Value,xF xs its/\PlainL s.heap a its.toArray/\xs.length<=sizeLine:=by
 rcases h with h | ⟨o,its,n,hk,hc,hd,hs,hz,r⟩
 ·obtain ⟨z,its,n,r,e⟩:=h.ok I.hok;exact ⟨its,r,⟨_,n,e,rfl,rfl,rfl⟩,z⟩
 ·refine ⟨its.toList,r,⟨o,n,I.kIn a o hk,hc,hd,by simpa using hs⟩,?_⟩;have e:=r.length;simp only [Array.length_toList] at e;omega
theorem Inv.tuple(I:Inv X pins O H s)(h:SqT X.K H a xs):∃ its:List Value,xF xs its/\IsTup s.heap a its.toArray/\xs.length<=sizeLine:=by
 rcases h with h | ⟨o,its,n,hk,hc,hs,hz,r⟩
 ·obtain ⟨z,its,r,p⟩:=h.ok I.hok;exact ⟨its,r,p.tup,z⟩
 ·refine ⟨its.toList,r,⟨o,I.kIn a o hk,hc,n,by simpa using hs⟩,?_⟩;have e:=r.length;simp only [Array.length_toList] at e;omega
theorem Inv.list_inj(I:Inv X pins O H s)(h:SqL X.K H a xs)(h':SqL X.K H a ys):xs=ys:=by
 obtain ⟨its,r,⟨o,n,e,_,_,d⟩,_⟩:=I.list h;obtain ⟨its',r',⟨o',n',e',_,_,d'⟩,_⟩:=I.list h';rw [e] at e';cases e';rw [d] at d';injection d' with d1 _;have:its=its':=by simpa using congrArg Array.toList d1
 subst this;exact r.inj r'
theorem Inv.tuple_inj(I:Inv X pins O H s)(h:SqT X.K H a xs)(h':SqT X.K H a ys):xs=ys:=by
 obtain ⟨its,r,⟨o,e,_,n,d⟩,_⟩:=I.tuple h;obtain ⟨its',r',⟨o',e',_,n',d'⟩,_⟩:=I.tuple h';rw [e] at e';cases e';rw [d] at d';injection d' with d1 _;have:its=its':=by simpa using congrArg Array.toList d1
 subst this;exact r.inj r'
end
abbrev Cx.wish(X:Cx)(E:Value->Shared->Prop):Cx:={X with xe:=E}
abbrev Cx.nox(X:Cx):Cx:=X.wish fun _ _=>False
theorem Cx.Ok.wish{X:Cx}(ok:X.Ok)(E:Value->Shared->Prop):(X.wish E).Ok:= ⟨ok.mod,ok.kind,ok.glob,ok.blt,ok.above,ok.inj,ok.has,ok.cab,ok.hd,ok.frames,ok.stk,ok.exf,ok.bs,ok.bsz,ok.noex,ok.exfs,ok.funs,ok.frf⟩
theorem Cx.Ok.unwish{X:Cx}{E:Value->Shared->Prop}(ok:(X.wish E).Ok):X.Ok:= ⟨ok.mod,ok.kind,ok.glob,ok.blt,ok.above,ok.inj,ok.has,ok.cab,ok.hd,ok.frames,ok.stk,ok.exf,ok.bs,ok.bsz,ok.noex,ok.exfs,ok.funs,ok.frf⟩
section
variable {X:Cx}{pins:List (Addr×Obj)}{O:St}{H:Hp}{s:Shared}{E:Value->Shared->Prop}
theorem Inv.wish(I:Inv X pins O H s)(E:Value->Shared->Prop):Inv (X.wish E) pins O H s:=⟨I.ok.wish E,I.os,I.bare,I.base,I.loc,I.cell,I.free,I.freeC,I.pin,I.hok,I.len⟩
theorem Inv.unwish(I:Inv (X.wish E) pins O H s):Inv X pins O H s:=⟨I.ok.unwish,I.os,I.bare,I.base,I.loc,I.cell,I.free,I.freeC,I.pin,I.hok,I.len⟩
theorem SP.unwish{D:zbT}{f:Flow}{s':Shared}(h:SP (X.wish E) pins D f s'):SP X pins D f s':=by cases f with
 | next=>obtain ⟨O',H',I,q⟩:=h;exact ⟨O',H',I.unwish,q⟩ | brk=>obtain ⟨O',H',I,q⟩:=h;exact ⟨O',H',I.unwish,q⟩ | cont=>obtain ⟨O',H',I,q⟩:=h;exact ⟨O',H',I.unwish,q⟩ | ret u=>obtain ⟨v,O',H',I,r,q⟩:=h;exact ⟨v,O',H',I.unwish,r,q⟩
theorem PSs.nox{st:List Stmt}{t:TS}(h:PSs X.nox st t):PSs X st t:=fun pins s O H D I hw=> wpAny_mono (h pins s O H D (I.wish _) hw) (fun _ _ q=>q.unwish) fun _ _ z=>False.elim z
end
section
variable {X:Cx}{st:Stmt}{z0T:List Stmt}{t u:TS}{e:Expr}{te:TE}{pos:Pos}
def zie:TS:=fun D O H=>D.nx O H
def zjf(t u:TS):TS:=fun D O H=>t {D with nx:=u D} O H
theorem zeC:PSs X [] zie:=fun _ _ O H _ I h=>wpAny_execs_nil ⟨O,H,I,h⟩
theorem z47(h1:PS X st t)(h2:PSs X z0T u):PSs X (st::z0T) (zjf t u):=by
 intro pins s O H D I h;refine wpAny_execs_cons (thn (h1 pins s O H {D with nx:=u D} I h) fun f s1 q=>?_);cases f with
 | next=>
  obtain ⟨O',H',I',q⟩:=q;exact h2 pins s1 O' H' D I' q | ret v=>exact q | brk=>exact q | cont=>exact q
theorem zei(h1:PS X st t):PSs X [st] t:=by
 intro pins s O H D I h;refine wpAny_execs_cons (thn (h1 pins s O H D I h) fun f s1 q=>?_);cases f with
 | next=>exact wpAny_execs_nil q | ret v=>exact q | brk=>exact q | cont=>exact q
theorem Inv.quiet{pins:List (Addr×Obj)}{O:St}{H:Hp}{s:Shared}(I:Inv X pins O H s):interactive X.env=false:=by simp [interactive,I.ok.kind]
def zhH(te:TE):TS:=fun D O H=>te O H fun _ H1=>D.nx O H1
theorem zdR(he:PE X e te)(hs:swapsWith e none pos.line X.env=pure false:=by rfl):PS X (.Expr e pos) (zhH te):=by
 intro pins s O H D I h;exact wpAny_Expr_any (thn (he pins s O H _ I h) fun v s1 ⟨x,H1,I1,r1,q1⟩=>⟨O,H1,I1,q1⟩) I.quiet hs
def zke(te:TE):TS:=fun D O H=>te O H D.rt
theorem zfj(he:PE X e te):PS X (.Return (some e) pos) (zke te):=by
 intro pins s O H D I h;exact wpAny_Return_some (thn (he pins s O H _ I h) fun v s1 ⟨x,H1,I1,r1,q1⟩=>⟨x,O,H1,I1,r1,q1⟩)
def zkk(c:TT)(t u:TS):TS:=fun D O H=>c O H fun b H1=>if b=true then t D O H1 else u D O H1
theorem ziw{c:Expr}{a b:List Stmt}{tc:TT}(hc:PT X c tc)(ha:PSs X a t)(hb:PSs X b u):PS X (.If c a b pos) (zkk tc t u):=by
 intro pins s O H D I h;refine wpAny_If (thn (hc pins s O H _ I h) fun d s1 ⟨H1,I1,q1⟩=>?_);cases d with
 | true=>exact ha pins s1 O H1 D I1 q1 | false=>exact hb pins s1 O H1 D I1 q1
def zfK:TS:=fun _ _ _=>False
theorem zce:PS X st zfK:=fun _ _ _ _ _ _ h=>h.elim
end
abbrev TG:=V->St->Hp->(St->Hp->Prop)->Prop
abbrev TGs:=List V->St->Hp->(St->Hp->Prop)->Prop
def PG(X:Cx)(target:Expr)(t:TG):Prop:= ∀ (pins:List (Addr×Obj))(s:Shared)(O:St)(H:Hp)(v:V)(u:Value)(Q:St->Hp->Prop),Inv X pins O H s->xx v u->t v O H Q-> wpAny (model X.prog X.w) X.A (assign target X.env u) (fun _ s'=>∃ O' H',Inv X pins O' H' s'/\Q O' H') X.xe s
def PGs(X:Cx)(ts:List Expr)(t:TGs):Prop:= ∀ (pins:List (Addr×Obj))(s:Shared)(O:St)(H:Hp)(vs:List V)(us:List Value)(Q:St->Hp->Prop),Inv X pins O H s->xF vs us->t vs O H Q-> wpAny (model X.prog X.w) X.A (assignInOrder ((assignEach ts X.env).map (·.2)) us) (fun _ s'=>∃ O' H',Inv X pins O' H' s'/\Q O' H') X.xe s
abbrev ziK:=V->V->V->Hp->(Hp->Prop)->Prop
def zjA(X:Cx)(t:ziK):Prop:= ∀ (pins:List (Addr×Obj))(s:Shared)(O:St)(H:Hp)(o i v:V)(ov iv u:Value)(Q:Hp->Prop),Inv X pins O H s->xx o ov->xx i iv->xx v u->t o i v H Q-> wpAny (model X.prog X.w) X.A (setItem ov iv u) (fun _ s'=>∃ H',Inv X pins O H' s'/\Q H') X.xe s
section
variable {X:Cx}{pos:Pos}
def z8X(i:Nat):TG:=fun v O H Q=>Q (O.set i (some v)) H
theorem zW{i:Nat}{x:Str}(hN:X.N.Nodup)(hi:X.N[i]? = some x)(hx:Loc X.env.scope x)(hf:X.fn x=true\/X.env.scope.names.lookup x=some .local:=by first | exact .inl rfl | exact .inr rfl | assumption):PG X (.Name x pos) (z8X i):=by
 intro pins s O H v u Q I r h;exact wpAny_assign_Name (z18 I hN hi hx r (fun s' I'=>⟨_,H,I',h⟩) hf)
def zjD:TGs:=fun vs O H Q=>vs=[]/\Q O H
def zeQ(t:TG)(u:TGs):TGs:=fun vs O H Q=>∃ v r,vs=v::r/\t v O H fun O' H'=>u r O' H' Q
theorem zaC:PGs X [] zjD:=by
 intro pins s O H vs us Q I r h;obtain ⟨e,h⟩:=h;subst e;cases r;exact assignInOrder_nil ⟨O,H,I,h⟩
theorem z13{e:Expr}{es:List Expr}{t:TG}{u:TGs}(h1:PG X e t)(h2:PGs X es u) (hs:(assignEach (e::es) X.env).map (·.2)=assign e X.env::(assignEach es X.env).map (·.2):=by rfl):PGs X (e::es) (zeQ t u):=by
 intro pins s O H vs us Q I r h;obtain ⟨v,vr,e1,h⟩:=h;subst e1;cases r with | cons r rr=>
  rw [hs];refine assignInOrder_cons (thn (h1 pins s O H _ _ _ I r h) fun _ s1 ⟨O1,H1,I1,q1⟩=>?_);exact h2 pins s1 O1 H1 _ _ Q I1 rr q1
def zju(K:W.Frag)(n:Nat)(t:TGs):TG:=fun v O H Q=>∃ a xs,v=.ref a/\SqT K H a xs/\xs.length=n/\t xs O H Q
theorem zcw{es:List Expr}{k:Nat}{t:TGs}{n:Nat}(hc:X.calm=true)(h:PGs X es t) (hn:(assignEach es X.env).length=n:=by rfl)(hst:(assignEach es X.env).findIdx? (·.1)=none:=by rfl):PG X (.Tuple es k pos) (zju X.K n t):=by
 intro pins s O H v u Q I r hw;obtain ⟨a,xs,e1,hq,hl,hw⟩:=hw;subst e1;cases r;obtain ⟨its,rv,ht,hz⟩:=I.tuple hq;refine assign_Tuple_tuple (I.ok.hd hc) ht (by simp [hn,<- hl,rv.length]) hst fun h' hx=>?_;have I1:Inv X pins O H {s with heap:=h'}:=I.kept (t':=s.toks) fun b o e=>hx b o (Nat.ne_of_lt (Heap.lt_size e)) e;exact h pins _ O H xs _ Q I1 (by simpa using rv) hw
def zku(to ti:TE)(t:ziK):TG:=fun v O H Q=>to O H fun o H1=>ti O H1 fun i H2=>t o i v H2 fun H3=>Q O H3
theorem zfo{o i:Expr}{to ti:TE}{t:ziK}(ho:PE X o to)(hi:PE X i ti)(hs:zjA X t) (ha:∀ v,assign (.Subscript o i pos) X.env v=(do
   let ov <- holding [v] (eval o X.env) let iv <- holding [v,ov] (eval i X.env)
   standAt pos
   holding [v,ov,iv] (setItem ov iv v)
   release [v,ov,iv] []):=by intro _;rfl):PG X (.Subscript o i pos) (zku to ti t):=by
 intro pins s O H v u Q I r h;rw [ha];refine wpAny_bind (wpAny_holding (thn (ho pins s O H _ I h) fun ov s1 ⟨x,H1,I1,r1,q1⟩=>?_));refine wpAny_bind (wpAny_holding (thn (hi pins s1 O H1 _ I1 q1) fun iv s2 ⟨y,H2,I2,r2,q2⟩=>?_));refine wpAny_bind (wpAny_standAt (wpAny_bind (wpAny_holding (thn (hs pins s2 O H2 x y v ov iv u _ I2 r1 r2 r q2) fun _ s3 ⟨H3,I3,q3⟩=>?_))));exact wpAny_release ⟨O,H3,I3,q3⟩
def ziC(te:TE)(g:TG):TS:=fun D O H=>te O H fun x H1=>g x O H1 D.nx
theorem zd3{tg e:Expr}{te:TE}{g:TG}(he:PE X e te)(hg:PG X tg g)(hs:swapsWithSole [tg] e pos.line X.env=pure false:=by rfl)(hw:swappedStores [tg] e X.env=pure none:=by rfl) (h1:(assignEach [tg] X.env).map (·.2)=[assign tg X.env]:=by rfl):PS X (.Assign [tg] e pos) (ziC te g):=by
 intro pins s O H D I h;refine wpAny_Assign_stores (thn (he pins s O H _ I h) fun v s1 ⟨x,H1,I1,r1,q1⟩=>?_) hs hw;rw [h1];exact thn (hg pins s1 O H1 x v _ I1 r1 q1) fun _ s2 q=>q
theorem zgk{i:Nat}{x:Str}{e:Expr}{te:TE}{pos':Pos}(hN:X.N.Nodup)(hi:X.N[i]? = some x)(hx:Loc X.env.scope x)(he:PE X e te)(hs:swapsWith e (some (.Name x pos')) pos.line X.env=pure false:=by rfl)(hf:X.fn x=true\/X.env.scope.names.lookup x=some .local:=by first | exact .inl rfl | exact .inr rfl | assumption): PS X (.Assign [.Name x pos'] e pos) (ziC te (z8X i)):=by
 intro pins s O H D I h;refine wpAny_Assign_Name (thn (he pins s O H _ I h) fun v s1 ⟨y,H1,I1,r1,q1⟩=>?_) hs;exact z18 I1 hN hi hx r1 (fun s2 I2=>⟨_,H1,I2,q1⟩) hf
def zk2(i j:Nat)(ta:TA):TS:=fun D O H=>ta O H fun vs H1=>∃ v w,vs=[v,w]/\D.nx ((O.set i (some v)).set j (some w)) H1
theorem zgf {i j:Nat} {x y:Str} {a b:Expr} {ta:TA} {px py pt:Pos} {kt k2 pt2} (hc:X.calm=true) (hN:X.N.Nodup) (hi:X.N[i]? = some x) (hj:X.N[j]? = some y) (hij:i≠j) (hx:X.env.scope.names.lookup x=some .local) (hy:X.env.scope.names.lookup y=some .local) (ha:PA X [a,b] ta) (hw:swappedStores [.Tuple [.Name x px,.Name y py] kt pt] (.Tuple [a,b] k2 pt2) X.env=pure (some [x,y])) (hs:swapsWithSole [.Tuple [.Name x px,.Name y py] kt pt] (.Tuple [a,b] k2 pt2) pos.line X.env=pure false:=by rfl): PS X (.Assign [.Tuple [.Name x px,.Name y py] kt pt] (.Tuple [a,b] k2 pt2) pos) (zk2 i j ta):=by
 intro pins s O H D I h;rw [exec_Assign_arm];refine wpAny_bind (wpAny_standAt ?_);rw [hs];refine wpAny_bind (wpAny_pure ?_);rw [if_neg (by decide)];refine wpAny_bind (Tuple_ (thn (ha _ pins s O H _ I h) fun us s1 ⟨vs,H1,I1,r1,q1⟩=>?_));obtain ⟨v,w,e1,q1⟩:=q1;subst e1;obtain ⟨u1,u2,rfl,rv,rw'⟩:∃ u1 u2,us=[u1,u2]/\xx v u1/\xx w u2:=by cases r1 with | cons p q=> cases q with | cons p' q'=>
    cases q';exact ⟨_,_,rfl,p,p'⟩
 refine wpAny_newObj_type ?_ (by show 2<=sizeLine;decide);have I2:Inv X pins O H1 {s1 with heap:=s1.heap.push {cls:=.type "tuple",data:=.seq [u1,u2].toArray}}:=I1.kept (t':=s1.toks) fun b o e=>Heap.get?_push_of_some _ e;rw [hw];refine wpAny_bind (wpAny_pure ?_);show wpAny (model X.prog X.w) X.A (do rule "assign.swapped-stores";let items <- unpackItems (.ref s1.heap.objs.size) 2 none;assignInOrder [fun v=>bindName X.env y v,fun v=>bindName X.env x v] items.reverse;pure Flow.next) _ _ _;refine wpAny_bind (wpAny_rule (wpAny_bind (unpackItems_tuple (items:=#[u1,u2]) (I.ok.hd hc) (IsTup.new s1.heap _) fun h' hx'=>?_)));have I3:=I2.kept (h':=h') (t':=s1.toks) fun b o e=>hx' b o (Nat.ne_of_lt (Heap.lt_size e)) e;show wpAny _ _ (assignInOrder [fun v=>bindName X.env y v,fun v=>bindName X.env x v] [u2,u1] >>= fun _=>pure Flow.next) _ _ _;refine wpAny_bind (assignInOrder_cons (wpAny_bindName (z18 I3 hN hj (.inl hy) rw' (fun s2 I4=>?_) (.inr hy))));refine assignInOrder_cons (wpAny_bindName (z18 I4 hN hi (.inl hx) rv (fun s3 I5=>assignInOrder_nil (wpAny_pure ?_)) (.inr hx)));rw [List.set_comm _ _ (Ne.symm hij)] at I5;exact ⟨_,H1,I5,q1⟩
end
section
variable {X:Cx}{pos:Pos}
def zfD(c:TT)(tb:TS):TS:=fun D O H=>∃ W:Nat->St->Hp->Prop,(∃ m,W m O H)/\∀ m O H,W m O H-> c O H fun b H1=>if b=true then ∃ N:St->Hp->Prop,(∀ O' H',N O' H'->∃ m',m'<m/\W m' O' H')/\tb {D with nx:=N,ct:=N,bk:=D.nx} O H1 else D.nx O H1
theorem zbv{c:Expr}{body:List Stmt}{tc:TT}{tb:TS}(hp:PassesOwn (model X.prog X.w) X.A X.env X.xe)(hc:PT X c tc)(hb:PSs X body tb):PS X (.While c body [] pos) (zfD tc tb):=by
 intro pins s O H D I h;obtain ⟨W,⟨m0,w0⟩,turn⟩:=h;refine wpAny_While (codeAny_whileLoop (fun n s'=>∃ O' H',Inv X pins O' H' s'/\W n O' H') ?_ m0 ⟨O,H,I,w0⟩);rintro n s1 ⟨O1,H1,I1,w1⟩;refine wpAny_passesOwn hp (thn (hc pins s1 O1 H1 _ I1 (turn n O1 H1 w1)) fun b s2 ⟨H2,I2,q2⟩=>?_);cases b with
 | true=>
  obtain ⟨N,hN,q2⟩:=q2;rw [if_pos rfl];refine wpAny_passesOwn hp (thn (hb pins s2 O1 H2 _ I2 q2) fun f s3 q3=>?_);cases f with
  | next=>
   obtain ⟨O3,H3,I3,n3⟩:=q3;obtain ⟨m',hm,w3⟩:=hN O3 H3 n3;exact ⟨m',hm,O3,H3,I3,w3⟩ | cont=>
   obtain ⟨O3,H3,I3,n3⟩:=q3;obtain ⟨m',hm,w3⟩:=hN O3 H3 n3;exact ⟨m',hm,O3,H3,I3,w3⟩ | brk=>exact q3 | ret v=>exact q3
 | false=>
  rw [if_neg Bool.false_ne_true];exact wpAny_execs_nil ⟨O1,H2,I2,q2⟩
end
structure It where
 go:Nat->Hp->Prop
 yld:Nat->Hp->V->Hp->Prop
 stop:Nat->Hp->Prop
def z6g(X:Cx)(pins:List (Addr×Obj))(H:Hp)(b:Addr):Prop:= H b=none/\b≠X.env.locals/\b∉X.fs/\(b∈X.ex\/X.s₀.heap.objs.size<=b)/\(∀ x c,X.env.cells.lookup x=some c->c≠b)/\∀ p∈X.pn++pins,p.1≠b
theorem Inv.fpOk{X:Cx}{pins:List (Addr×Obj)}{O:St}{H H':Hp}{s:Shared}{b:Addr}(I:Inv X pins O H s)(hb:s.heap.objs.size<=b)(hn:H' b=none):z6g X pins H' b:=by
 refine ⟨hn,Nat.ne_of_gt (Nat.lt_of_lt_of_le I.lt hb),I.nofs hb,.inr (Nat.le_trans I.sz hb),fun x c e z=>?_,fun p hp z=>?_⟩
 ·obtain ⟨v,q⟩:=I.cell x c e;exact absurd (Nat.lt_of_lt_of_le q.lt (by rw [z];exact hb)) (Nat.lt_irrefl _)
 ·exact absurd (Nat.lt_of_lt_of_le (Heap.lt_size (I.pin p hp).1) (by rw [z];exact hb)) (Nat.lt_irrefl _)
structure ze2(P:Program)(w:World)(K:W.Frag)(tg:Expr)(J:It)(fp:List Addr)(it:Addr)(tn:Nat->Heap->Prop):Prop where
 mem:it∈fp
 obj:∀ i h,tn i h->∀ b∈fp,∃ o,h.get? b=some o/\∀ v,o.data≠.cell v
 keep:∀ i h h',tn i h->(∀ b∈fp,∀ o,h.get? b=some o->h'.get? b=some o)->tn i h'
 item:∀ (X:Cx),X.prog=P->X.w=w->X.K=K->X.calm=true->∀ (i:Nat)(pins:List (Addr×Obj))(s:Shared)(O:St)(H:Hp)(E:Value->Shared->Prop),Inv X pins O H s->(∀ b∈fp,z6g X pins H b)->tn i s.heap->J.go i H-> wpAny (model P w) X.A (pyNext (.ref it)) (fun r s1=>∃ u,r=some u/\ wpAny (model P w) X.A (letOwnedTupleGo tg (.ref it) u) (fun _ s2=>∃ x H',Inv X pins O H' s2/\xx x u/\J.yld i H x H'/\tn (i+1) s2.heap/\∀ b∈fp,H' b=none) E s1) E s
 done:∀ (X:Cx),X.prog=P->X.w=w->X.K=K->X.calm=true->∀ (i:Nat)(pins:List (Addr×Obj))(s:Shared)(O:St)(H:Hp)(E:Value->Shared->Prop),Inv X pins O H s->(∀ b∈fp,z6g X pins H b)->tn i s.heap->J.stop i H-> wpAny (model P w) X.A (pyNext (.ref it)) (fun r s1=>r=none/\Inv X pins O H s1) E s
 self:∀ (A:Around)(i:Nat)(s:Shared)(Q:Value->Shared->Prop)(E:Value->Shared->Prop),tn i s.heap->Q (.ref it) s->wpAny (model P w) A (pyIter (.ref it)) Q E s
abbrev TI:=St->Hp->(It->Hp->Prop)->Prop
def PIE(X:Cx)(pins:List (Addr×Obj))(O:St)(tg:Expr)(R:It->Hp->Prop)(itv:Value)(s2:Shared):Prop:= ∃ (it:Addr)(fp:List Addr)(tn:Nat->Heap->Prop)(J:It)(H':Hp),itv=.ref it/\Inv X pins O H' s2/\ze2 X.prog X.w X.K tg J fp it tn/\tn 0 s2.heap/\(∀ b∈fp,z6g X pins H' b)/\R J H'
def PI(X:Cx)(tg iter:Expr)(wi:TI):Prop:= ∀ (pins:List (Addr×Obj))(s:Shared)(O:St)(H:Hp)(R:It->Hp->Prop),Inv X pins O H s->wi O H R-> wpAny (model X.prog X.w) X.A (eval iter X.env) (fun v s1=>wpAny (model X.prog X.w) X.A (pyIter v) (PIE X pins O tg R) X.xe s1) X.xe s
theorem zeN{M:Model}{A:Around}{E:Value->Shared->Prop}{s:Shared}{tg:Expr}{it:Addr}{u:Value}{o:Obj}{n:String}{vs:Array Value}{Q:Unit->Shared->Prop}(ho:s.heap.get? it=some o)(hc:o.cls=.type n)(hd:o.data=.fields vs) (hn:["enumerate","zip","dict_itemiterator","dict_reverseitemiterator","odict_iterator","itertools.zip_longest","itertools.pairwise"].contains n=false)(hQ:Q () s):wpAny M A (letOwnedTupleGo tg (.ref it) u) Q E s:=by
  unfold letOwnedTupleGo;cases tg<;>first
    | exact wpAny_pure hQ | (cases u<;>first
        | exact wpAny_pure hQ
        | (refine wpAny_bind (wpAny_load ho ?_);rw [hc,hd];show wpAny M A (if (["enumerate","zip","dict_itemiterator","dict_reverseitemiterator","odict_iterator","itertools.zip_longest","itertools.pairwise"].contains n&&vs[0]? == some (rawInt _))=true then _ else _) Q E s;rw [if_neg (by intro h;rw [hn,Bool.false_and] at h;cases h)];exact wpAny_pure hQ))
def Itl(K:W.Frag)(a:Addr):It:= ⟨fun i H=>∃ xs x,SqL K H a xs/\xs[i]? = some x,fun i H x H'=>H'=H/\∀ xs,SqL K H a xs->xs[i]? = some x,fun i H=>∃ xs,SqL K H a xs/\xs.length<=i⟩
def Itt(K:W.Frag)(a:Addr):It:= ⟨fun i H=>∃ xs x,SqT K H a xs/\xs[i]? = some x,fun i H x H'=>H'=H/\∀ xs,SqT K H a xs->xs[i]? = some x,fun i H=>∃ xs,SqT K H a xs/\xs.length<=i⟩
def Itr(lo:Int)(n:Nat):It:=⟨fun i _=>i<n,fun i H x H'=>H'=H/\x=.int (lo+i),fun i _=>n<=i⟩
theorem z9v{P:Program}{w:World}{K:W.Frag}{tg:Expr}(a it:Addr):ze2 P w K tg (Itl K a) [it] it (fun i h=>h.IsListIter it a i) where
 mem:=by simp
 obj:=fun i h st b hb=>by
  have e:b=it:=by simpa using hb
  subst e;obtain ⟨o,e,c,d⟩:=st;exact ⟨o,e,fun v z=>by rw [d] at z;cases z⟩
 keep:=fun i h h' st k=>st.at fun o e=>k it (by simp) o e;item:=by
  intro X hP hw hK hc i pins s O H E I hf st hg;subst hP hw hK;obtain ⟨xs,x,hq,hx⟩:=hg;obtain ⟨its,rv,p,hz⟩:=I.list hq;obtain ⟨u,hu,ru⟩:=rv.get hx;obtain ⟨f0,f1,f2,f3,f4,f5⟩:=hf it (by simp);refine wpAny_pyNext_list_item st p.isList (x:=u) (by simpa using hu) fun h' st' sb=>?_;have I1:Inv X pins O H {s with heap:=h'}:=I.turned (t':=s.toks) (fun b o hb e=>(sb.2 b hb).trans e) f0 f1 f3 f4 f5;obtain ⟨o,e,c,d⟩:=id st';exact ⟨u,rfl,zeN (s:={s with heap:=h'}) e c d (by decide) ⟨x,H,I1,ru,⟨rfl,fun ys hy=>by rw [I.list_inj hy hq];exact hx⟩,st',fun b hb=>(hf b hb).1⟩⟩
 done:=by
  intro X hP hw hK hc i pins s O H E I hf st hg;subst hP hw hK;obtain ⟨xs,hq,hx⟩:=hg;obtain ⟨its,rv,p,hz⟩:=I.list hq;obtain ⟨f0,f1,f2,f3,f4,f5⟩:=hf it (by simp);have hl:=rv.length;exact wpAny_pyNext_list_end (I.ok.hd hc) st p.isList (by simp;omega) fun h' eb=>⟨rfl,I.turned (t':=s.toks) (fun b o hb e=>eb b o hb e) f0 f1 f3 f4 f5⟩
 self:=fun _ _ _ _ _ st h=>wpAny_pyIter_listiter st h
theorem z8m {P:Program} {w:World} {K:W.Frag} {tg:Expr} (a it:Addr):ze2 P w K tg (Itt K a) [it] it (fun i h=>h.IsTupleIter it a i) where
 mem:=by simp
 obj:=fun i h st b hb=>by
  have e:b=it:=by simpa using hb
  subst e;obtain ⟨o,e,c,d⟩:=st;exact ⟨o,e,fun v z=>by rw [d] at z;cases z⟩
 keep:=fun i h h' st k=>st.at fun o e=>k it (by simp) o e;item:=by
  intro X hP hw hK hc i pins s O H E I hf st hg;subst hP hw hK;obtain ⟨xs,x,hq,hx⟩:=hg;obtain ⟨its,rv,p,hz⟩:=I.tuple hq;obtain ⟨u,hu,ru⟩:=rv.get hx;obtain ⟨f0,f1,f2,f3,f4,f5⟩:=hf it (by simp);refine wpAny_pyNext_tuple_item st (show s.heap.IsTuple a its.toArray from p) (x:=u) (by simpa using hu) fun h' st' sb=>?_;have I1:Inv X pins O H {s with heap:=h'}:=I.turned (t':=s.toks) (fun b o hb e=>(sb.2 b hb).trans e) f0 f1 f3 f4 f5;obtain ⟨o,e,c,d⟩:=id st';exact ⟨u,rfl,zeN (s:={s with heap:=h'}) e c d (by decide) ⟨x,H,I1,ru,⟨rfl,fun ys hy=>by rw [I.tuple_inj hy hq];exact hx⟩,st',fun b hb=>(hf b hb).1⟩⟩
 done:=by
  intro X hP hw hK hc i pins s O H E I hf st hg;subst hP hw hK;obtain ⟨xs,hq,hx⟩:=hg;obtain ⟨its,rv,p,hz⟩:=I.tuple hq;obtain ⟨f0,f1,f2,f3,f4,f5⟩:=hf it (by simp);have hl:=rv.length;exact wpAny_pyNext_tuple_end (I.ok.hd hc) st (show s.heap.IsTuple a its.toArray from p) (by simp;omega) fun h' eb=>⟨rfl,I.turned (t':=s.toks) (fun b o hb e=>eb b o hb e) f0 f1 f3 f4 f5⟩
 self:=fun _ _ _ _ _ st h=>wpAny_pyIter_tupleiter st h
theorem z91 {P:Program} {w:World} {K:W.Frag} {tg:Expr} (it:Addr) (lo:Int) (n:Nat):ze2 P w K tg (Itr lo n) [it] it (fun i h=>IsRangeIter h it (lo+(i:Nat)*1) ((n:Int)-(i:Nat)) 1) where
 mem:=by simp
 obj:=fun i h st b hb=>by
  have e:b=it:=by simpa using hb
  subst e;exact ⟨_,st,fun v z=>by
   have z':Data.fields _=Data.cell v:=z;cases z'⟩
 keep:=fun i h h' st k=>k it (by simp) _ st;item:=by
  intro X hP hw hK hc i pins s O H E I hf st hg;subst hP hw hK;obtain ⟨f0,f1,f2,f3,f4,f5⟩:=hf it (by simp);have W:=Walks.range (prog:=X.prog) (w:=X.w) (I.ok.hd hc) it lo 1 n;refine W.item i s _ _ hg st fun v h' tk hv st' kk=>?_;obtain ⟨t,rfl⟩:=hv;have I1:Inv X pins O H {s with heap:=h',toks:=tk}:=I.turned (fun b o hb e=>kk b o (by simpa using hb) e) f0 f1 f3 f4 f5;refine ⟨_,rfl,zeN (s:={s with heap:=h',toks:=tk}) (n:="range_iterator") st' rfl rfl (by decide) ⟨.int (lo+i),H,I1,⟨t,?_⟩,⟨rfl,rfl⟩,st',fun b hb=>(hf b hb).1⟩⟩;rw [Int.mul_one]
 done:=by
  intro X hP hw hK hc i pins s O H E I hf st hg;subst hP hw hK;obtain ⟨f0,f1,f2,f3,f4,f5⟩:=hf it (by simp);exact wpAny_pyNext_range_end (I.ok.hd hc) st (by have:n<=i:=hg;omega) fun h' eb=>⟨rfl,I.turned (t':=s.toks) (fun b o hb e=>eb b o hb e) f0 f1 f3 f4 f5⟩
 self:=fun _ _ _ _ _ st h=>wpAny_pyIter_rangeiter st h
section
variable {X:Cx}{tg:Expr}
theorem zcg{pins:List (Addr×Obj)}{O:St}{H:Hp}{s:Shared}{R:It->Hp->Prop}{E:Value->Shared->Prop}{lo hi:Int}{t u v:Tok}{tk:Nat}(I:Inv X pins O H s)(h1:-(2 ^ 62)<=lo)(h2:lo<2 ^ 62)(h3:-(2 ^ 62)<=hi)(h4:hi<2 ^ 62) (q:R (Itr lo (hi-lo).toNat) H):wpAny (model X.prog X.w) X.A (pyIter (.ref s.heap.objs.size)) (PIE X pins O tg R) E {s with heap:=s.heap.push {cls:=.type "range",data:=.fields #[.int lo t,.int hi u,.int 1 v]},toks:=tk}:=by
 refine wpAny_pyIter_range (IsRange.new ..) (small_one h1 h2 h3 h4) ?_;have I1:Inv X pins O H {s with heap:=s.heap.push {cls:=.type "range",data:=.fields #[.int lo t,.int hi u,.int 1 v]},toks:=tk}:=I.kept fun b o e=>Heap.get?_push_of_some _ e;refine ⟨(s.heap.push {cls:=.type "range",data:=.fields #[.int lo t,.int hi u,.int 1 v]}).objs.size,[(s.heap.push {cls:=.type "range",data:=.fields #[.int lo t,.int hi u,.int 1 v]}).objs.size],_,_,H,rfl, I1.kept (t':=tk) fun b o e=>Heap.get?_push_of_some _ e,z91 _ lo (hi-lo).toNat,?_,fun b hb=>?_,q⟩
 ·have e1:lo+((0:Nat):Int)*1=lo:=by simp
  have e2:(((hi-lo).toNat:Nat):Int)-((0:Nat):Int)=Builtin.Range.rangeSize lo hi 1:=by rw [rangeSize_one];split<;>omega
  show IsRangeIter _ _ (lo+((0:Nat):Int)*1) ((((hi-lo).toNat:Nat):Int)-((0:Nat):Int)) 1;rw [e1,e2];exact Heap.get?_push_size _ rfl
 ·have e:b=(s.heap.push {cls:=.type "range",data:=.fields #[.int lo t,.int hi u,.int 1 v]}).objs.size:=by simpa using hb
  subst e;exact I1.fpOk (Nat.le_refl _) (I1.hok.fresh (Nat.le_refl _))
def ziB(ta:TA):TI:=fun O H R=>ta O H fun vs H1=>∃ j:Int,vs=[.int j]/\-(2 ^ 62)<=j/\j<2 ^ 62/\R (Itr 0 j.toNat) H1
theorem za2{a:Expr}{ta:TA}{p pos:Pos}(hg:Gl X "range")(hm:X.mg "range"=none)(ha:PA X [a] ta)(hs:starEach [a] X.env=[(false,eval a X.env)]:=by rfl):PI X tg (.Call (.Name "range" p) [a] [] pos) (ziB ta):=by
 intro pins s O H R I h;refine Call_ (z0C I hg hm boot_range (PyProof.Rows.callWith_type1 (thn (ha pos pins s O H _ I h) fun us s1 ⟨vs,H1,I1,r1,q1⟩=>?_) hs rfl));obtain ⟨j,e,q1,q2,q⟩:=q1;subst e;cases r1 with | cons r rr=>
  cases rr;obtain ⟨t,rfl⟩:=r;exact call_range_1 (zcg I1 (by omega) (by omega) q1 q2 (by simpa using q))
def zkj(wi:TI)(g:TG)(tb:TS):TS:=fun D O H=>wi O H fun J H1=>∃ W:Nat->Nat->St->Hp->Prop,(∃ m,W 0 m O H1)/\∀ i m O H,W i m O H-> (J.stop i H/\D.nx O H)\/(J.go i H/\∃ N:St->Hp->Prop,(∀ O' H',N O' H'->∃ m',m'<m/\W (i+1) m' O' H')/\∀ x H',J.yld i H x H'->g x O H' fun O2 H2=>tb {D with nx:=N,ct:=N,bk:=D.nx} O2 H2)
def z5M(fp:List Addr)(h:Heap):List (Addr×Obj):=fp.filterMap fun b=>(h.get? b).map fun o=>(b,o)
theorem z0g{fp:List Addr}{h:Heap}{b:Addr}{o:Obj}(hb:b∈fp)(e:h.get? b=some o):(b,o)∈z5M fp h:=List.mem_filterMap.mpr ⟨b,hb,by rw [e];rfl⟩
theorem zaJ{fp:List Addr}{h:Heap}{p:Addr×Obj}(hp:p∈z5M fp h):p.1∈fp/\h.get? p.1=some p.2:=by
 obtain ⟨b,hb,e⟩:=List.mem_filterMap.mp hp;cases q:h.get? b with
 | none=>rw [q] at e;cases e | some o=>
  rw [q] at e;have e':(b,o)=p:=Option.some.inj e;subst e';exact ⟨hb,q⟩
theorem Inv.pinned{pins:List (Addr×Obj)}{O:St}{H:Hp}{s:Shared}{fp:List Addr}(I:Inv X pins O H s)(hf:∀ b∈fp,z6g X pins H b)(ho:∀ b∈fp,∃ o,s.heap.get? b=some o/\∀ v,o.data≠.cell v):Inv X (pins++z5M fp s.heap) O H s:= I.pins_of fun p hp=>(List.mem_append.mp hp).elim (fun z=>I.pin p (List.mem_append_right _ z)) fun z=>by
  obtain ⟨hb,e⟩:=zaJ z;obtain ⟨f0,f1,f2,_⟩:=hf p.1 hb;obtain ⟨o,e',d⟩:=ho p.1 hb;rw [e] at e';cases e';exact ⟨e,f0,f1,f2,d⟩
theorem Inv.unpinned{pins pl:List (Addr×Obj)}{O:St}{H:Hp}{s:Shared}(I:Inv X (pins++pl) O H s):Inv X pins O H s:=I.pins_of fun p hp=>I.pin p (List.mem_append_right _ (List.mem_append_left _ hp))
theorem zgN{iter:Expr}{body:List Stmt}{wi:TI}{g:TG}{tb:TS}{pos:Pos}(hp:PassesOwn (model X.prog X.w) X.A X.env X.xe)(hc:X.calm=true)(hi:PI X tg iter wi)(hg:PG X tg g)(hb:PSs X body tb) (hs:∀ x,foldedSetIterable iter X.env x=pure x:=by intro _;rfl):PS X (.For tg iter body [] pos) (zkj wi g tb):=by
 intro pins s O H D I h;refine wpAny_For (thn (hi pins s O H _ I h) fun v s1 h1=>thn h1 fun itv s2 h2=>?_) hs;obtain ⟨it,fp,tn,J,H2,e,I2,T,st2,f2,W,⟨m0,w0⟩,turn⟩:=h2;subst e;have stat:∀ {H':Hp},(∀ b∈fp,H' b=none)->∀ b∈fp,z6g X pins H' b:=fun hn b hb=>⟨hn b hb,(f2 b hb).2⟩;refine codeAny_forLoop_any (fun n s'=>∃ i O' H',Inv X pins O' H' s'/\tn i s'.heap/\(∀ b∈fp,H' b=none)/\W i n O' H') ?_ m0 ⟨0,O,H2,I2,st2,fun b hb=>(f2 b hb).1,w0⟩;rintro n s3 ⟨i,O3,H3,I3,st3,fr3,w3⟩;rcases turn i n O3 H3 w3 with ⟨stop,qn⟩ | ⟨go,N,hN,step⟩
 ·refine wpAny_passesOwn hp (thn (T.done X rfl rfl rfl hc i pins s3 O3 H3 X.xe I3 (stat fr3) st3 stop) fun r s4 ⟨hr,I4⟩=>?_);subst hr;exact wpAny_execs_nil ⟨O3,H3,I4,qn⟩
 ·refine wpAny_passesOwn hp (thn (T.item X rfl rfl rfl hc i pins s3 O3 H3 X.xe I3 (stat fr3) st3 go) fun r s4 ⟨u,hr,h4⟩=>?_);subst hr;refine wpAny_passesOwn hp (thn h4 fun _ s5 ⟨x,H5,I5,r5,y5,st5,fr5⟩=>?_);have I5':=I5.pinned (stat fr5) (T.obj _ _ st5);refine wpAny_passesOwn hp (thn (hg _ s5 O3 H5 x u _ I5' r5 (step x H5 y5)) fun _ s6 ⟨O6,H6,I6,q6⟩=>?_);refine wpAny_passesOwn hp (thn (hb _ s6 O6 H6 _ I6 q6) fun f s7 q7=>?_);have again:∀ {O7:St}{H7:Hp},Inv X (pins++z5M fp s5.heap) O7 H7 s7->N O7 H7->∃ m,m<n/\∃ i O' H',Inv X pins O' H' s7/\tn i s7.heap/\(∀ b∈fp,H' b=none)/\W i m O' H':=fun {O7 H7} I7 n7=>by
   obtain ⟨m',hm,w7⟩:=hN O7 H7 n7;refine ⟨m',hm,i+1,O7,H7,I7.unpinned,T.keep _ _ _ st5 fun b hb o e=>(I7.pin (b,o) (List.mem_append_right _ (List.mem_append_right _ (z0g hb e)))).1,fun b hb=>?_,w7⟩;obtain ⟨o,e,d⟩:=T.obj _ _ st5 b hb;exact (I7.pin (b,o) (List.mem_append_right _ (List.mem_append_right _ (z0g hb e)))).2.1
  cases f with
  | next=>obtain ⟨O7,H7,I7,n7⟩:=q7;exact again I7 n7 | cont=>obtain ⟨O7,H7,I7,n7⟩:=q7;exact again I7 n7 | brk=>obtain ⟨O7,H7,I7,q7⟩:=q7;exact ⟨O7,H7,I7.unpinned,q7⟩ | ret v=>obtain ⟨x7,O7,H7,I7,r7,q7⟩:=q7;exact ⟨x7,O7,H7,I7.unpinned,r7,q7⟩
end
abbrev R2:=V->V->Hp->VK->Prop
def OpR(X:Cx)(f:Value->Value->Sem Value)(r:R2):Prop:= ∀ (pins:List (Addr×Obj))(s:Shared)(O:St)(H:Hp)(x y:V)(v u:Value)(Q:VK),Inv X pins O H s->xx x v->xx y u->r x y H Q-> wpAny (model X.prog X.w) X.A (f v u) (EP X pins O Q) X.xe s
def UnR(X:Cx)(f:Value->Sem Value)(r:V->Hp->VK->Prop):Prop:= ∀ (pins:List (Addr×Obj))(s:Shared)(O:St)(H:Hp)(x:V)(v:Value)(Q:VK),Inv X pins O H s->xx x v->r x H Q-> wpAny (model X.prog X.w) X.A (f v) (EP X pins O Q) X.xe s
def wL(X:Cx)(f:Value)(r:List V->Hp->VK->Prop):Prop:= ∀ (pins:List (Addr×Obj))(s:Shared)(O:St)(H:Hp)(xs:List V)(us:List Value)(Q:VK),Inv X pins O H s->xF xs us->r xs H Q-> wpAny (model X.prog X.w) X.A (call f us) (EP X pins O Q) X.xe s
def tOp(r:R2)(ta tb:TE):TE:=fun O H Q=>ta O H fun x H1=>tb O H1 fun y H2=>r x y H2 Q
def tUn(r:V->Hp->VK->Prop)(ta:TE):TE:=fun O H Q=>ta O H fun x H1=>r x H1 Q
def rI(C:Int->Int->Prop)(g:Int->Int->V):R2:=fun x y H Q=>∃ i j,x=.int i/\y=.int j/\C i j/\Q (g i j) H
def rI0(g:Int->Int->V):R2:=fun x y H Q=>∃ i j,x=.int i/\y=.int j/\Q (g i j) H
def rU(g:Int->V):V->Hp->VK->Prop:=fun x H Q=>∃ i,x=.int i/\Q (g i) H
section
variable {X:Cx}{a b c:Expr}{ta tb tc:TE}{pos:Pos}
theorem ziV(ha:PE X a ta)(hb:PE X b tb){pins:List (Addr×Obj)}{s:Shared}{O:St}{H:Hp}{R:V->V->Hp->Prop}(I:Inv X pins O H s) (h:ta O H fun x H1=>tb O H1 fun y H2=>R x y H2){Q:Value->Shared->Prop}{f:Value->Value->Sem Value} (hf:∀ v u s2 x y H2,Inv X pins O H2 s2->xx x v->xx y u->R x y H2->wpAny (model X.prog X.w) X.A (f v u) Q X.xe s2): wpAny (model X.prog X.w) X.A (eval a X.env) (fun v s₁=>wpAny (model X.prog X.w) X.A (eval b X.env) (fun u s₂=>wpAny (model X.prog X.w) X.A (f v u) Q X.xe s₂) X.xe s₁) X.xe s:=by
 refine thn (ha pins s O H _ I h) fun v s1 ⟨x,H1,I1,r1,q1⟩=>?_;refine thn (hb pins s1 O H1 _ I1 q1) fun u s2 ⟨y,H2,I2,r2,q2⟩=>?_;exact hf v u s2 x y H2 I2 r1 r2 q2
theorem ziz{op:Operator}{r:R2}(ho:OpR X (binaryOp op) r)(ha:PE X a ta)(hb:PE X b tb):PE X (.BinOp a op b pos) (tOp r ta tb):=by
 intro pins s O H Q I h;exact wpAny_BinOp (ziV ha hb I h fun v u s2 x y H2 I2 rx ry q=>ho pins s2 O H2 x y v u Q I2 rx ry q)
theorem zin{op:UnaryOp}{r:V->Hp->VK->Prop}(ho:UnR X (unaryOp op) r)(ha:PE X a ta):PE X (.UnaryOp op a pos) (tUn r ta):=by
 intro pins s O H Q I h;exact UnaryOp_ (thn (ha pins s O H _ I h) fun v s1 ⟨x,H1,I1,r1,q1⟩=>ho pins s1 O H1 x v Q I1 r1 q1)
theorem opI {f:Value->Value->Sem Value} {C:Int->Int->Prop} {g:Int->Int->Int} (rule:∀ (i j:Int) (t u:Tok) (s:Shared) (Q:Value->Shared->Prop) (E:Value->Shared->Prop),C i j->Q (.int (g i j) s.toks) {s with toks:=s.toks+1}->wpAny (model X.prog X.w) X.A (f (.int i t) (.int j u)) Q E s): OpR X f (rI C fun i j=>.int (g i j)):=by
 intro pins s O H x y v u Q I rx ry h;obtain ⟨i,j,rfl,rfl,hc,q⟩:=h;obtain ⟨t,rfl⟩:=rx;obtain ⟨t',rfl⟩:=ry;exact rule i j t t' s _ _ hc ⟨.int (g i j),H,I.tok _,⟨_,rfl⟩,q⟩
theorem zjB {f:Value->Value->Sem Value} {g:Int->Int->Int} (rule:∀ (i j:Int) (t u:Tok) (s:Shared) (Q:Value->Shared->Prop) (E:Value->Shared->Prop),Q (.int (g i j) s.toks) {s with toks:=s.toks+1}->wpAny (model X.prog X.w) X.A (f (.int i t) (.int j u)) Q E s): OpR X f (rI0 fun i j=>.int (g i j)):=by
 intro pins s O H x y v u Q I rx ry h;obtain ⟨i,j,rfl,rfl,q⟩:=h;obtain ⟨t,rfl⟩:=rx;obtain ⟨t',rfl⟩:=ry;exact rule i j t t' s _ _ ⟨.int (g i j),H,I.tok _,⟨_,rfl⟩,q⟩
theorem zhq{f:Value->Value->Sem Value}{g:Int->Int->Bool} (rule:∀ (i j:Int)(t u:Tok)(s:Shared)(Q:Value->Shared->Prop)(E:Value->Shared->Prop),Q (.bool (g i j)) s->wpAny (model X.prog X.w) X.A (f (.int i t) (.int j u)) Q E s): OpR X f (rI0 fun i j=>.bl (g i j)):=by
 intro pins s O H x y v u Q I rx ry h;obtain ⟨i,j,rfl,rfl,q⟩:=h;obtain ⟨t,rfl⟩:=rx;obtain ⟨t',rfl⟩:=ry;exact rule i j t t' s _ _ ⟨.bl (g i j),H,I,rfl,q⟩
def zjS(i j:Int):Prop:=0<=j/\j<=1000000/\i.natAbs<2 ^ 64
theorem zg5:OpR X (binaryOp .Add) (rI0 fun i j=>.int (i+j)):=zjB fun _ _ _ _ _ _ _ q=>add_int q
theorem zgX:OpR X (binaryOp .Sub) (rI0 fun i j=>.int (i-j)):=zjB fun _ _ _ _ _ _ _ q=>sub_int q
theorem zh5:OpR X (binaryOp .Mod) (rI (fun _ j=>0<j) fun i j=>.int (i % j)):=opI fun i j _ _ _ _ _ hc q=>by
 have h1:(0:Int)<j:=hc;exact mod_int' (by omega) (by rw [Int.fmod_eq_emod_of_nonneg i (by omega)];exact q)
theorem zgm:OpR X (binaryOp .Pow) (rI zjS fun i j=>.int (i ^ j.toNat)):=opI fun _ _ _ _ _ _ _ hc q=>pow_int_small hc.1 hc.2.1 hc.2.2 q
theorem unI {f:Value->Sem Value} {g:Int->Int} (rule:∀ (i:Int) (t:Tok) (s:Shared) (Q:Value->Shared->Prop) (E:Value->Shared->Prop),Q (.int (g i) s.toks) {s with toks:=s.toks+1}->wpAny (model X.prog X.w) X.A (f (.int i t)) Q E s): UnR X f (rU fun i=>.int (g i)):=by
 intro pins s O H x v Q I rx h;obtain ⟨i,rfl,q⟩:=h;obtain ⟨t,rfl⟩:=rx;exact rule i t s _ _ ⟨.int (g i),H,I.tok _,⟨_,rfl⟩,q⟩
theorem zgB:UnR X (unaryOp .USub) (rU fun i=>.int (-i)):=unI fun _ _ _ _ _ q=>neg_int q
end
section
variable {X:Cx}{a b c:Expr}{ta tb tc:TE}{pos:Pos}
theorem zgP{pins:List (Addr×Obj)}{O:St}{H:Hp}{s:Shared}{Q:VK}{k k':Bool}(I:Inv X pins O H s)(q:Q (.bl k) H)(e:k=k'):EP X pins O Q (.bool k') s:=by
 subst e;exact ⟨.bl k,H,I,rfl,q⟩
theorem zi5:OpR X (compareOp .Lt) (rI0 fun i j=>.bl (decide (i<j))):=zhq fun _ _ _ _ _ _ _ q=>lt_int q
theorem zic:OpR X (compareOp .LtE) (rI0 fun i j=>.bl (decide (i<=j))):=zhq fun _ _ _ _ _ _ _ q=>le_int q
theorem ziR:OpR X (compareOp .Gt) (rI0 fun i j=>.bl (decide (j<i))):=zhq fun _ _ _ _ _ _ _ q=>gt_int q
theorem zjc:OpR X (compareOp .GtE) (rI0 fun i j=>.bl (decide (j<=i))):=zhq fun _ _ _ _ _ _ _ q=>ge_int q
theorem zg9:OpR X (compareOp .Is) (fun x y H Q=>y=.non/\Q (.bl (decide (x=.non))) H):=by
 intro pins s O H x y v u Q I rx ry h;obtain ⟨rfl,q⟩:=h;cases ry;refine is_none_gen (zgP I q ?_);cases x<;>first
  | (cases rx;rfl) | (obtain ⟨t,rfl⟩:=rx;rfl)
theorem OpR.or{f:Value->Value->Sem Value}{r r':R2}(h:OpR X f r)(h':OpR X f r'):OpR X f (fun x y H Q=>r x y H Q\/r' x y H Q):=by
 intro pins s O H x y v u Q I rx ry q;rcases q with q | q;·exact h pins s O H x y v u Q I rx ry q
 ·exact h' pins s O H x y v u Q I rx ry q
theorem zcY(b:Expr){op:CmpOp}(h:op≠.In:=by decide)(h2:op≠.NotIn:=by decide):behindInMarks op b=false:=by
 have e1:(op==CmpOp.In)=false:=by cases op<;>first | rfl | exact absurd rfl h
 have e2:(op==CmpOp.NotIn)=false:=by cases op<;>first | rfl | exact absurd rfl h2
 cases b<;>simp [behindInMarks,e1,e2]
theorem zaA{op:CmpOp}{r:R2}(ho:OpR X (compareOp op) r)(ha:PE X a ta)(hb:PE X b tb)(hm:behindInMarks op b=false):PE X (.Compare a [op] [b] pos) (tOp r ta tb):=by
 intro pins s O H Q I h;exact wpAny_Compare1 (ziV ha hb I h fun v u s2 x y H2 I2 rx ry q=>ho pins s2 O H2 x y v u Q I2 rx ry q) hm
def zgO(t:TE):TT:=fun O H Q=>t O H fun x H'=>∃ k,x=.bl k/\Q k H'
theorem zeW{op:CmpOp}{r:R2}(ho:OpR X (compareOp op) r)(ha:PE X a ta)(hb:PE X b tb)(hm:behindInMarks op b=false):PT X (.Compare a [op] [b] pos) (zgO (tOp r ta tb)):=by
 intro pins s O H Q I h;refine wpAny_isTrue_Compare1 (thn (ha pins s O H _ I h) fun v s1 ⟨x,H1,I1,r1,q1⟩=>thn (hb pins s1 O H1 _ I1 q1) fun u s2 ⟨y,H2,I2,r2,q2⟩=> thn (ho pins s2 O H2 x y v u _ I2 r1 r2 q2) fun c s3 ⟨z,H3,I3,r3,k,e,q3⟩=>?_) hm;subst e;cases r3;exact wpAny_truthy_bool ⟨H3,I3,q3⟩
def zcH(r r':R2)(ta tb tc:TE):TE:=fun O H Q=>ta O H fun x H1=>tb O H1 fun y H2=>r x y H2 fun z H3=>∃ k,z=.bl k/\ (if k=true then tc O H3 fun w' H4=>r' y w' H4 Q else Q (.bl false) H3)
theorem zbn{op op':CmpOp}{r r':R2}(ho:OpR X (compareOp op) r)(ho':OpR X (compareOp op') r')(ha:PE X a ta)(hb:PE X b tb)(hc:PE X c tc) (hm:lastMarks [op,op'] [b,c]=false:=by with_unfolding_all rfl):PE X (.Compare a [op,op'] [b,c] pos) (zcH r r' ta tb tc):=by
 intro pins s O H Q I h;refine Compare_chain (thn (ha pins s O H _ I h) fun v s1 ⟨x,H1,I1,r1,q1⟩=>chain_link (thn (hb pins s1 O H1 _ I1 q1) fun u s2 ⟨y,H2,I2,r2,q2⟩=> thn (ho pins s2 O H2 x y v u _ I2 r1 r2 q2) fun d s3 ⟨z,H3,I3,r3,k,e,q3⟩=>?_)) hm;subst e;cases r3;refine wpAny_truthy_bool ?_;cases k with
 | false=>exact ite_ff ⟨.bl false,H3,I3,rfl,q3⟩ | true=>exact ite_tt (chain_last (thn (hc pins s3 O H3 _ I3 q3) fun w' s4 ⟨z',H4,I4,r4,q4⟩=>ho' pins s4 O H4 y z' u w' Q I4 r2 r4 q4))
theorem z7P:(sizeLine:Nat)<2 ^ 63:=by rw [sizeLine_eq];decide
theorem vals1{x:V}{us:List Value}(r:xF [x] us):∃ u,us=[u]/\xx x u:=by cases r with | cons r1 r2=>cases r2;exact ⟨_,rfl,r1⟩
theorem vals2{x y:V}{us:List Value}(r:xF [x,y] us):∃ u w',us=[u,w']/\xx x u/\xx y w':=by cases r with | cons r1 r2=> cases r2 with | cons r3 r4=>cases r4;exact ⟨_,_,rfl,r1,r3⟩
theorem zaY(hc:X.calm=true):wL X (.builtin "max") (fun xs H Q=>∃ i j,xs=[.int i,.int j]/\Q (.int (if j > i then j else i)) H):=by
 intro pins s O H xs us Q I r h;obtain ⟨i,j,rfl,q⟩:=h;obtain ⟨u,w',rfl,⟨t,rfl⟩,⟨t',rfl⟩⟩:=vals2 r;refine max_two_ints (I.ok.hd hc) fun h' tk k=>⟨_,H,I.kept k,?_,q⟩;by_cases hj:j > i;·rw [if_pos hj,if_pos hj];exact ⟨_,rfl⟩
 ·rw [if_neg hj,if_neg hj];exact ⟨_,rfl⟩
theorem zae(hc:X.calm=true):wL X (.builtin "min") (fun xs H Q=>∃ i j,xs=[.int i,.int j]/\Q (.int (if j<i then j else i)) H):=by
 intro pins s O H xs us Q I r h;obtain ⟨i,j,rfl,q⟩:=h;obtain ⟨u,w',rfl,⟨t,rfl⟩,⟨t',rfl⟩⟩:=vals2 r;refine min_two_ints (I.ok.hd hc) fun h' tk k=>⟨_,H,I.kept k,?_,q⟩;by_cases hj:j<i;·rw [if_pos hj,if_pos hj];exact ⟨_,rfl⟩
 ·rw [if_neg hj,if_neg hj];exact ⟨_,rfl⟩
theorem z9V:wL X (.type "int") (fun xs H Q=>(∃ i,xs=[.int i]/\Q (.int i) H)\/∃ k,xs=[.bl k]/\Q (.int (if k then 1 else 0)) H):=by
 intro pins s O H xs us Q I r h;rcases h with ⟨i,rfl,q⟩ | ⟨k,rfl,q⟩
 ·obtain ⟨u,rfl,t,rfl⟩:=vals1 r;exact call_int_int ⟨.int i,H,I,⟨_,rfl⟩,q⟩
 ·obtain ⟨u,rfl,r1⟩:=vals1 r;cases r1;exact call_int_bool ⟨.int (if k then 1 else 0),H,I.tok _,⟨_,rfl⟩,q⟩
end
structure zhF(h:Heap)(x dx C:Addr)(mA:Str->Option Value):Prop where
 obj:h.get? x=some (W.instObj C dx)
 ns:h.Ns1 dx mA
 ne:dx≠x
theorem zah{h:Heap}{dx:Addr}{mA:Str->Option Value}(n:h.Ns1 dx mA):∃ od,h.get? dx=some od/\∀ name,W.lookIn name od=some (mA name):=by
 obtain ⟨o,es,ep,ho,hd,hk,_,hm⟩:=n;refine ⟨o,ho,fun name=>?_⟩;have e:=hm name;unfold nsFind findBy at e;rw [<- Array.find?_toList] at e;unfold W.lookIn;rw [hd];dsimp only;split
 ·rename_i y q;rw [q] at e;exact congrArg some e
 ·rename_i q;rw [q] at e;have a:es.toList.any (·.refKey)=false:=by
   rw [List.any_eq_false];intro y hy;obtain ⟨z,t,hkey⟩:=hk y (Array.mem_toList_iff.mp hy);simp [DictEntry.refKey,hkey]
  have a':¬ es.toList.any (·.refKey)=true:=by rw [a];exact Bool.false_ne_true
  rw [if_neg a'];exact congrArg some e
theorem zhF.look{h:Heap}{x dx C:Addr}{mA:Str->Option Value}(I:zhF h x dx C mA):∃ od,W.InstAt h x (W.instObj C dx) C (some od)/\∀ name,W.lookIn name od=some (mA name):= let ⟨od,ho,hl⟩:=zah I.ns;⟨od,⟨I.obj,rfl,rfl,ho⟩,hl⟩
section
variable {P:Program}{w:World}{H H':Hp}{h h':Heap}{a C dx:Addr}{fs fs':List (Str×V)}
theorem ze4(hok:HOk P w H h)(e:H a=some (.ins C dx fs)):∃ mA,zhF h a dx C mA/\(∀ f,zf5 (fs.lookup f) (mA f))/\PySem.Within mA (fs.map (·.1))/\fs.length<=1000/\H dx=some (.own a):=by
 obtain ⟨d,z,ne,ob,mA,n,r,q⟩:=(show wB P w H h a (.ins C dx fs) from hok a _ e);exact ⟨mA,⟨ob,n,ne⟩,r,q,z,d⟩
end
structure Cls(K:W.Frag)(C:Addr):Prop where
 pg:W.plainGet K C Str.empty=true
 hd:W.hasDictIn K C=true
 po:W.plainOver K C=true
 sa:W.findIn K (.ref C) "__setattr__"=some (some (.builtin "object.__setattr__"))
theorem Cls.get{K:W.Frag}{C:Addr}(c:Cls K C)(f:Str):W.plainGet K C f=true:=c.pg
section
variable {X:Cx}{pins:List (Addr×Obj)}{O:St}{H:Hp}{s:Shared}{A:Around}{E:Value->Shared->Prop}{Q:Value->Shared->Prop}{c:Value}{b:Bool}
inductive z7C(K:W.Frag)(H:Hp):V->Value->Prop where | non:z7C K H .non (.type "NoneType") | bl (x:Bool):z7C K H (.bl x) (.type "bool") | int (i:Int):z7C K H (.int i) (.type "int") | str (x:Str):z7C K H (.str x) (.type "str") | flt (x:UInt64):z7C K H (.flt x) (.type "float") | lst {a:Addr}{xs:List V}(e:H a=some (.lst xs)):z7C K H (.ref a) (.type "list") | frz {a:Addr}{o:Obj}{xs:List V}(e:H a=some (.frz o (.lst xs))):z7C K H (.ref a) (.type "list") | tup {a:Addr}{xs:List V}(e:H a=some (.tup xs)):z7C K H (.ref a) (.type "tuple") | dK {a:Addr}{kvs:List (Key×V)}(e:H a=some (.dK kvs)):z7C K H (.ref a) (.type "dict") | dT {a:Addr}{kvs:List (List Key×V)}(e:H a=some (.dT kvs)):z7C K H (.ref a) (.type "dict") | ins {a C dx:Addr}{fs:List (Str×V)}(e:H a=some (.ins C dx fs))(cl:Cls K C)(ha:W.findIn K (.ref C) "__class__"=some (some (.builtin "object.__class__"))) (hn:W.specialIn K (.builtin "object.__class__") "__get__"=some (some (.builtin "getset_descriptor.__get__")))(htk:W.takesIn K (.builtin "object.__class__")=some true) (hm:W.mroIn K C (.type "object")=some true):z7C K H (.ref a) (.ref C)
theorem za1 {x:V} {u t:Value} (I:Inv X pins O H s) (rx:xx x u) (ty:z7C X.K H x t) (e:W.kitOne X.K t c=some b) (h:∀ tk,Q (.bool b) {s with toks:=tk}): wpAny (model X.prog X.w) A (call (.builtin "isinstance") [u,c]) Q E s:=by cases ty with
 | non=>cases (show u=Value.none from rx);exact W.kia_one W.kitx_none I.kIn True.intro e (fun z=>nomatch z) h | bl y=>cases (show u=Value.bool y from rx);exact W.kia_one W.kitx_bool I.kIn True.intro e (fun z=>nomatch z) h | int i=>obtain ⟨t,q⟩:=(show ∃ t,u=Value.int i t from rx);cases q;exact W.kia_one W.kitx_int I.kIn True.intro e (fun z=>nomatch z) h | str y=>obtain ⟨t,q⟩:=(show ∃ t,u=Value.str y t from rx);cases q;exact W.kia_one W.kitx_str I.kIn True.intro e (fun z=>nomatch z) h | flt y=>obtain ⟨t,q⟩:=(show ∃ t,u=Value.float y t from rx);cases q;exact W.kia_one W.kitx_float I.kIn True.intro e (fun z=>nomatch z) h | @lst a xs ea=>
  cases (show u=Value.ref a from rx);obtain ⟨_,_,n,_,h1⟩:=(show wB X.prog X.w H s.heap a (.lst xs) from I.hok a _ ea);exact W.kia_one W.kitx_list I.kIn ⟨_,h1,rfl⟩ e (fun z=>nomatch z) h | @frz a ob xs ea=>
  cases (show u=Value.ref a from rx);obtain ⟨_,_,_,n,_,h1⟩:=(show wB X.prog X.w H s.heap a (.frz ob (.lst xs)) from I.hok a _ ea);exact W.kia_one W.kitx_list I.kIn ⟨_,h1,rfl⟩ e (fun z=>nomatch z) h | @tup a xs ea=>
  cases (show u=Value.ref a from rx);obtain ⟨_,_,_,p⟩:=(show wB X.prog X.w H s.heap a (.tup xs) from I.hok a _ ea);obtain ⟨o,h1,h2,_⟩:=p;exact W.kia_one W.kitx_tuple I.kIn ⟨o,h1,h2⟩ e (fun z=>nomatch z) h | @dK a kvs ea=>
  cases (show u=Value.ref a from rx);obtain ⟨_,_,vs,_,p⟩:=(show wB X.prog X.w H s.heap a (.dK kvs) from I.hok a _ ea);obtain ⟨o,es,ep,h1,h2,_⟩:=p;exact W.kia_one W.kitx_dict I.kIn ⟨o,h1,h2.1⟩ e (fun z=>nomatch z) h | @dT a kvs ea=>
  cases (show u=Value.ref a from rx);obtain ⟨_,_,xs,_,o,es,ep,h1,h2,_⟩:=(show wB X.prog X.w H s.heap a (.dT kvs) from I.hok a _ ea);exact W.kia_one W.kitx_dict I.kIn ⟨o,h1,h2.1⟩ e (fun z=>nomatch z) h | @ins a C dx fs ea cl ha hn htk hm=>
  cases (show u=Value.ref a from rx);obtain ⟨mA,Oo,_⟩:=ze4 I.hok ea;obtain ⟨od,J,_⟩:=Oo.look;exact W.kia_one (W.kitx_own (cl.get _) cl.hd ha hn htk hm) I.kIn J e (fun z=>nomatch z) h
end
structure z1a(k:Nat)(A:Around):Prop where
 hd:A.handled=none
 dp:A.depth+3*k+5<recursionLimit
 un:A.units+16*k+200<cLine
 gd:A.guards=some []
theorem z1a.mono{j k:Nat}{A:Around}(r:z1a k A)(h:j<=k):z1a j A:=⟨r.hd,by have:=r.dp;omega,by have:=r.un;omega,r.gd⟩
theorem z1a.deeper{k:Nat}{A:Around}(r:z1a (k+1) A)(env:Env):z1a k (A.deeper env):= ⟨r.hd,by have:=r.dp;show A.depth+1+3*k+5<_;omega,by have:=r.un;show A.units+3+16*k+200<_;omega,r.gd⟩
theorem z1a.depth{k:Nat}{A:Around}(r:z1a k A):A.depth<recursionLimit:=by have:=r.dp;omega
theorem z1a.units{k:Nat}{A:Around}(r:z1a k A):A.units+64<cLine:=by have:=r.un;omega
def zjG:TA:=fun _ H Q=>Q [] H
def zi9(ta:TE)(tr:TA):TA:=fun O H Q=>ta O H fun x H1=>tr O H1 fun xs H2=>Q (x::xs) H2
section
variable {X:Cx}{e:Expr}{es:List Expr}{te:TE}{t:TA}{pos:Pos}
theorem z7K:PA X [] zjG:=fun _ _ _ _ H Q I h=>Calls.spliced_nil ⟨[],H,I,.nil,h⟩
theorem z1j(ha:PE X e te)(hr:PA X es t)(hs:starEach (e::es) X.env=(false,eval e X.env)::starEach es X.env:=by rfl):PA X (e::es) (zi9 te t):=by
 intro pos pins s O H Q I h;rw [hs];show wpAny _ _ (spliced ((false,eval e X.env)::backTo pos (starEach es X.env))) _ _ s;refine Calls.spliced_cons (thn (ha pins s O H _ I h) fun u s1 ⟨x,H1,I1,r1,q1⟩=>?_);exact thn (hr pos pins s1 O H1 _ I1 q1) fun us s2 ⟨xs,H2,I2,r2,q2⟩=>⟨x::xs,H2,I2,.cons r1 r2,q2⟩
def zko(t:TA):TE:=fun O H Q=>t O H fun xs H1=>xs.length<=sizeLine/\∀ p,H1 p=none->Q (.ref p) (upd H1 p (.tup xs))
def zkz(t:TA):TE:=fun O H Q=>t O H fun xs H1=>xs.length<=sizeLine/\∀ p,H1 p=none->Q (.ref p) (upd H1 p (.lst xs))
theorem zgY{x1}(h:PA X es t):PE X (.Tuple es x1 pos) (zko t):=by
 intro pins s O H Q I hq;refine wpAny_Tuple_spliced (thn (h pos pins s O H _ I hq) fun us s1 ⟨xs,H1,I1,r,z,q⟩=>⟨by rw [<- r.length];exact z,?_⟩);have hf:H1 s1.heap.objs.size=none:=I1.hok.fresh (Nat.le_refl _);refine ⟨.ref s1.heap.objs.size,upd H1 s1.heap.objs.size (.tup xs),I1.laid (t':=s1.toks) (fun b u e=>Heap.get?_push_of_some _ e) (Nat.le_refl _) ?_,rfl,q _ hf⟩;exact ⟨z,us,r,⟨_,Heap.get?_push_size _ rfl,rfl,rfl,_,rfl⟩⟩
theorem zcF(h:PA X es t):PE X (.List es pos) (zkz t):=by
 intro pins s O H Q I hq;refine wpAny_List_spliced (thn (h pos pins s O H _ I hq) fun us s1 ⟨xs,H1,I1,r,z,q⟩=>⟨by rw [<- r.length];exact z,?_⟩);have hf:H1 s1.heap.objs.size=none:=I1.hok.fresh (Nat.le_refl _);refine ⟨.ref s1.heap.objs.size,upd H1 s1.heap.objs.size (.lst xs),I1.laid (t':=s1.toks) (fun b u e=>Heap.get?_push_of_some _ e) (Nat.le_refl _) ?_,rfl,q _ hf⟩;exact ⟨z,us,0,r,Heap.get?_push_size _ rfl⟩
end
abbrev Sp:=List V->Hp->VK->XK->Prop
abbrev CXT:=List Env->Hp->Shared->XK->Value->Shared->Prop
structure zht(P:Program)(w:World)(K:W.Frag)(mg:Str->Option Value)(base:Heap)(A:Around)(outer:List Env)(s:Shared)(H:Hp):Prop where
 frames:A.frames=some outer
 mod:Mod K mg base
 bs:∀ b o,base.get? b=some o->s.heap.get? b=some o/\H b=none
 bsz:base.objs.size<=s.heap.objs.size
 funs:s.heap.FunFrames base outer
 frf:∀ b∈frs outer,H b=none
 hok:HOk P w H s.heap
 bare:AllBare s.gens
def CE(outer:List Env)(P:Program)(w:World)(H:Hp)(s:Shared)(Q:VK)(u:Value)(s':Shared):Prop:= ∃ v H',s'.os=s.os/\AllBare s'.gens/\Un (frs outer) [] H H' s.heap s'.heap/\HOk P w H' s'.heap/\xx v u/\Q v H'
def CR(CX:CXT)(outer:List Env)(P:Program)(w:World)(H:Hp)(s:Shared)(Q:VK)(E:XK)(r:Result)(s':Shared):Prop:= match r with
 | .ok (.ret u)=>CE outer P w H s Q u s' | .ok _=>False | .error e=>CX outer H s E e s'
structure z33(P:Program)(w:World)(K:W.Frag)(mg:Str->Option Value)(base:Heap)(CX:CXT)(k:Nat)(f:Addr)(fd:FuncData)(ps:List Str)(sp:Sp):Prop where
 len:∀ vs H Q E,sp vs H Q E->vs.length=ps.length
 run:∀ (A:Around)(outer:List Env)(s:Shared)(H:Hp)(args:Args)(us:List Value)(vs:List V)(Q:VK)(E:XK),z1a k A->zht P w K mg base A outer s H->BindsTo s fd args (ps.zip us)->xF vs us->sp vs H Q E-> codeAny (model P w) A (.call (.ref f) args) (CR CX outer P w H s Q E) s
theorem z33.mono{P:Program}{w:World}{K:W.Frag}{mg:Str->Option Value}{base:Heap}{CX:CXT}{j k:Nat}{f:Addr}{fd:FuncData}{ps:List Str}{sp:Sp}(F:z33 P w K mg base CX j f fd ps sp)(h:j<=k): z33 P w K mg base CX k f fd ps sp:=⟨F.len,fun A outer s H args us vs Q E hr=>F.run A outer s H args us vs Q E (hr.mono h)⟩
theorem z33.imp{P:Program}{w:World}{K:W.Frag}{mg:Str->Option Value}{base:Heap}{CX:CXT}{k:Nat}{f:Addr}{fd:FuncData}{ps:List Str}{sp sp':Sp}(F:z33 P w K mg base CX k f fd ps sp) (h:∀ vs H Q E,sp' vs H Q E->sp vs H Q E):z33 P w K mg base CX k f fd ps sp':= ⟨fun vs H Q E q=>F.len vs H Q E (h _ _ _ _ q),fun A outer s H args us vs Q E hr he hb hv hs=>F.run A outer s H args us vs Q E hr he hb hv (h _ _ _ _ hs)⟩
section
variable {X:Cx}{pins:List (Addr×Obj)}{O:St}{H:Hp}{s s':Shared}
theorem Inv.env0(I:Inv X pins O H s):zht X.prog X.w X.K X.mg X.base X.A X.stack s H:= ⟨I.ok.frames,I.ok.mod,I.bs,Nat.le_trans I.ok.bsz I.sz,I.stack,I.stkFree,I.hok,I.bare⟩
theorem Inv.after {Q:VK} {u:Value} (I:Inv X pins O H s) (h:CE X.stack X.prog X.w H s Q u s'):EP X pins O Q u s':=by
 obtain ⟨v,H',os,bare,un,hok,r,q⟩:=h;obtain ⟨hh,g,d,t,os'⟩:=s';obtain rfl:os'=s.os:=os;exact ⟨v,H',I.call (h':=hh) (g':=g) (d':=d) (t':=t) (ch:=[]) un hok bare (fun b z=>absurd z (by simp)),r,q⟩
end
def zhj(sp:Sp)(dvs:List V)(E:XK)(t:TA):TE:=fun O H Q=>t O H fun vs H1=>sp (vs++dvs) H1 Q E
def Binds(K:W.Frag)(fd:FuncData)(ps:List Str)(ds:List Value):Prop:= ∀ (s:Shared)(us:List Value),K.In s.heap->(us++ds).length=ps.length->BindsTo s fd ⟨us,[]⟩ (ps.zip (us++ds))
theorem Binds.all{K:W.Frag}{fd:FuncData}{ps:List Str}(h:∀ us:List Value,us.length=ps.length->bindArgs fd ⟨us,[]⟩=pure (ps.zip us)):Binds K fd ps []:=fun s us _ hl=>by
 rw [List.append_nil] at hl ⊢;exact .of_eq (h us hl)
def Passes(CX:CXT)(X:Cx)(E:XK):Prop:=∀ (pins:List (Addr×Obj))(O:St)(H:Hp)(s:Shared)(e:Value)(s':Shared),Inv X pins O H s->CX X.stack H s E e s'->X.xe e s'
section
variable {X:Cx}{CX:CXT}{k:Nat}{f C:Addr}{fd:FuncData}{ps:List Str}{sp:Sp}{dvs:List V}{ds:List Value}{E:XK}{x m:Str}{p pos apos:Pos}{e o:Expr}{es:List Expr}{ta:TE}{t:TA}
theorem zaa{pins:List (Addr×Obj)}{O:St}{H:Hp}{s:Shared}{Q:VK}{us:List Value}{vs:List V}(F:z33 X.prog X.w X.K X.mg X.base CX k f fd ps sp)(hr:z1a k X.A)(hb:Binds X.K fd ps ds)(hd:xF dvs ds)(hx:Passes CX X E) (I:Inv X pins O H s)(r:xF vs us)(h:sp (vs++dvs) H Q E):wpAny (model X.prog X.w) X.A (call (.ref f) us) (EP X pins O Q) X.xe s:=by
 have r2:xF (vs++dvs) (us++ds):=r.append hd;have hl:(us++ds).length=ps.length:=by rw [<- r2.length];exact F.len _ _ _ _ h
 refine wpAny_call (codeAny_mono (F.run X.A X.stack s H ⟨us,[]⟩ (us++ds) (vs++dvs) Q E hr I.env0 (hb s us I.kIn hl) r2 h) fun r s' hq=>?_);cases r with
 | error e=>exact hx pins O H s e s' I hq | ok fl=> cases fl with
  | ret u=>exact I.after hq | next=>exact False.elim hq | brk=>exact False.elim hq | cont=>exact False.elim hq
theorem zdY (F:z33 X.prog X.w X.K X.mg X.base CX k f fd ps sp) (hr:z1a k X.A) (hg:Gl X x) (hm:X.mg x=some (.ref f)) (hk:W.keepIn X.K (.ref f)=true) (hb:Binds X.K fd ps ds) (hd:xF dvs ds) (hx:Passes CX X E) (ha:PA X (e::es) t) (hdb:(x==("__debug__":Str))=false:=by decide) (he:starEach (e::es) X.env=(false,eval e X.env)::starEach es X.env:=by rfl) (hpl:(backTo pos (starEach es X.env)).any (·.1)=false:=by rfl): PE X (.Call (.Name x p) (e::es) [] pos) (zhj sp dvs E t):=by
 intro pins s O H Q I h;refine wpAny_Call_Name_kw (z7c I hg hm ?_ hdb);refine W.callWith_K (h₀:=X.base) I.ok.mod.kin hk (thn (ha pos pins s O H _ I h) fun us s1 ⟨vs,H1,I1,r,q⟩=>⟨I1.kIn,?_⟩) he hpl;exact zaa F hr hb hd hx I1 r q
theorem zbh(F:z33 X.prog X.w X.K X.mg X.base CX k f fd ps sp)(hr:z1a k X.A)(hg:Gl X x)(hm:X.mg x=some (.ref f))(hk:W.keepIn X.K (.ref f)=true)(hb:Binds X.K fd ps ds)(hd:xF dvs ds)(hx:Passes CX X E) (hdb:(x==("__debug__":Str))=false:=by decide):PE X (.Call (.Name x p) [] [] pos) (zhj sp dvs E zjG):=by
 intro pins s O H Q I h;refine wpAny_Call_Name_kw (z7c I hg hm ?_ hdb);exact W.callWith_K0 I.kIn hk (zaa (us:=[]) F hr hb hd hx I .nil h)
end
structure zr(N P:List Str)(sc:Scope):Prop where
 kind:sc.kind=.function
 co:sc.isCoroutine=false
 gen:sc.isGenerator=false
 nd:N.Nodup
 pre:N.take P.length=P
 par:∀ x∈P,sc.names.lookup x=some .local\/sc.names.lookup x=some .cell
 nofree:∀ y∈sc.names,y.2≠.free
theorem z5H{kindOf:Str->Option NameKind}{x:Str}:∀ {binds:List (Str×Value)}{m:Str->Option Value},(∀ v,(x,v)∉binds)->bindL kindOf binds m x=m x
 | [],_,_=>rfl | (n,v)::r,m,h=>by
  unfold bindL;rw [z5H fun w hw=>h w (List.mem_cons_of_mem _ hw)];split
  ·have:x≠n:=by rintro rfl;exact h v List.mem_cons_self
   simp [this]
  ·rfl
theorem z5C{kindOf:Str->Option NameKind}{x:Str}:∀ {binds:List (Str×Value)}{m:Str->Option Value},(∀ v,(x,v)∉binds)->bindC kindOf binds m x=m x
 | [],_,_=>rfl | (n,v)::r,m,h=>by
  unfold bindC;rw [z5C fun w hw=>h w (List.mem_cons_of_mem _ hw)];split;·rfl
  ·have:x≠n:=by rintro rfl;exact h v List.mem_cons_self
   simp [this]
theorem z5y{kindOf:Str->Option NameKind}{x:Str}{v:Value}:∀ {P:List Str}{vs:List Value}{i:Nat}{m:Str->Option Value},P.Nodup->P[i]? = some x->vs[i]? = some v->kindOf x=some .local-> bindL kindOf (P.zip vs) m x=some v
 | [],_,_,_,_,h,_,_=>by simp at h | _::_,[],_,_,_,_,h,_=>by simp at h | p::P,w::vs,0,m,nd,h1,h2,hk=>by
  simp at h1 h2;subst h1;subst h2;show bindL kindOf ((p,w)::P.zip vs) m p=_;unfold bindL;rw [z5H fun v hv=>(List.nodup_cons.mp nd).1 (List.of_mem_zip hv).1,if_pos hk];simp | p::P,w::vs,i+1,m,nd,h1,h2,hk=>by
  show bindL kindOf ((p,w)::P.zip vs) m x=_;unfold bindL;exact z5y (i:=i) (List.nodup_cons.mp nd).2 (by simpa using h1) (by simpa using h2) hk
theorem z5r{kindOf:Str->Option NameKind}{x:Str}{v:Value}:∀ {P:List Str}{vs:List Value}{i:Nat}{m:Str->Option Value},P.Nodup->P[i]? = some x->vs[i]? = some v->kindOf x≠some .local-> bindC kindOf (P.zip vs) m x=some v
 | [],_,_,_,_,h,_,_=>by simp at h | _::_,[],_,_,_,_,h,_=>by simp at h | p::P,w::vs,0,m,nd,h1,h2,hk=>by
  simp at h1 h2;subst h1;subst h2;show bindC kindOf ((p,w)::P.zip vs) m p=_;unfold bindC;rw [z5C fun v hv=>(List.nodup_cons.mp nd).1 (List.of_mem_zip hv).1,if_neg hk];simp | p::P,w::vs,i+1,m,nd,h1,h2,hk=>by
  show bindC kindOf ((p,w)::P.zip vs) m x=_;unfold bindC;exact z5r (i:=i) (List.nodup_cons.mp nd).2 (by simpa using h1) (by simpa using h2) hk
def start(N:List Str)(vs:List V):St:=vs.map some++List.replicate (N.length-vs.length) none
def zbc(CX:CXT)(P:Program)(w:World)(K:W.Frag)(mg:Str->Option Value)(base:Heap)(N:List Str)(qual:Str)(scope:Scope)(f:Addr)(cd:Value)(A:Around)(outer:List Env)(s:Shared)(H:Hp)(E:XK):Cx where
 prog:=P;w:=w;K:=K;mg:=mg;base:=base;A:=A.deeper (envOfC qual scope s.heap.objs.size f cd);N:=N;s₀:=s;H₀:=H;env:=envOfC qual scope s.heap.objs.size f cd;outer:=outer;stack:=envOfC qual scope s.heap.objs.size f cd::outer;ex:=[];calm:=A.handled.isNone;fn:=fun _=>true;pn:=[];xe:=fun e s'=>wpAny (model P w) (A.deeper (envOfC qual scope s.heap.objs.size f cd)) (leaving (envOfC qual scope s.heap.objs.size f cd) e) (fun _ s''=>CX outer H s E e s'') (fun e' s''=>CX outer H s E e' s'') s'
theorem z1b{sc:Scope}{n:Nat}{x:Str}(h:sc.names.lookup x=some .cell):∃ c,(cellsFrom n sc.names []).lookup x=some c:=by
 have q:=W.cellsFrom_some sc.names n [] (.inl h);exact Option.isSome_iff_exists.mp q
theorem z9E{CX:CXT}{P:Program}{w:World}{K:W.Frag}{mg:Str->Option Value}{base:Heap}{N ps:List Str}{qual:Str}{scope:Scope}{f:Addr}{cd:Value}{A:Around}{outer:List Env}{s s1:Shared}{H:Hp}{E:XK}{us:List Value}{vs:List V} (S:zr N ps scope)(e0:zht P w K mg base A outer s H)(hl:vs.length=ps.length)(r:xF vs us) (x:InCallC s s.heap.objs.size (bindL (envOfC qual scope s.heap.objs.size f cd).kindOf (ps.zip us) fun _=>none) (cellsFrom (s.heap.objs.size+1) scope.names []) (bindC (envOfC qual scope s.heap.objs.size f cd).kindOf (ps.zip us) fun _=>none) s1): Inv (zbc CX P w K mg base N qual scope f cd A outer s H E) [] (start N vs) H s1:=by
 have hpl:ps.length<=N.length:=by have:=congrArg List.length S.pre;rw [List.length_take] at this;omega
 obtain ⟨h1,tk,rfl,hk⟩:=x.done;have noA:∀ b:Addr,b∉(zbc CX P w K mg base N qual scope f cd A outer s H E).ex:=fun b z=>absurd (show b∈([]:List Addr) from z) (by simp);refine ⟨⟨e0.mod,S.kind,rfl,rfl,Nat.le_refl _,fun y z c h1 h2=>?_,fun y hy=>?_,fun y c _ h=>?_,fun h=>Option.isNone_iff_eq_none.mp h,Around.frames_deeper e0.frames,.inr ⟨rfl,rfl⟩,fun b z=>absurd z (noA b),e0.bs,e0.bsz,fun b _ _=>noA b,fun b z=>absurd z (noA b),e0.funs,e0.frf⟩, rfl,e0.bare,Un.kept hk,⟨_,x.toInCall.ns,fun i y v h1 h2 h3=>?_⟩,fun y c h=>⟨_,x.cell y c h⟩,e0.hok.fresh (Nat.le_refl _),fun y c h=>?_,fun p hp=>absurd (show p∈([]:List (Addr×Obj)) from hp) (by simp),e0.hok.kept hk,?_⟩;·exact name_of_addr x.apart (PySem.mem_of_lookup h1) (PySem.mem_of_lookup h2)
 ·have hy:scope.names.lookup y=some .cell\/scope.names.lookup y=some .free:=hy;rcases hy with hy | hy;·exact z1b hy
  ·exact absurd rfl (S.nofree _ (PySem.mem_of_lookup hy))
 ·exact Nat.le_of_lt (x.above y c (PySem.mem_of_lookup h))
 ·have hi:i<vs.length:=by
   unfold start at h2;by_cases hi:i<vs.length;·exact hi
   ·rw [List.getElem?_append_right (by simpa using hi)] at h2;rw [List.getElem?_replicate] at h2;split at h2<;>cases h2
  have ha:vs[i]? = some v:=by
   unfold start at h2;rw [List.getElem?_append_left (by simpa using hi),List.getElem?_map] at h2;cases e:vs[i]? with
   | none=>rw [e] at h2;cases h2 | some a=>rw [e] at h2;cases h2;rfl
  obtain ⟨u,hu,rv⟩:=r.get ha;have hp:ps[i]? = some y:=by rw [<- S.pre,List.getElem?_take_of_lt (by omega)];exact h1
  have ndP:ps.Nodup:=by rw [<- S.pre];exact S.nd.sublist (List.take_sublist _ _)
  refine ⟨u,rv,?_⟩;rcases S.par y (List.mem_of_getElem? hp) with k | k;·exact .inl ⟨k,z5y ndP hp hu k⟩
  ·obtain ⟨c,e⟩:=z1b (n:=s.heap.objs.size+1) k;refine .inr ⟨.inl k,c,e,?_⟩;have q:=x.cell y c e;rw [z5r ndP hp hu (by show scope.names.lookup y≠_;rw [k];decide)] at q;exact q
 ·exact e0.hok.fresh (Nat.le_of_lt (x.above y c (PySem.mem_of_lookup h)))
 ·unfold start;show _=N.length;rw [List.length_append,List.length_map,List.length_replicate];omega
theorem ziD {CX:CXT} {P:Program} {w:World} {K:W.Frag} {mg:Str->Option Value} {base:Heap} {k:Nat} {f:Addr} {name qual:Str} {params:Arguments} {body:List Stmt} {scope:Scope} {dV kV doc pm cdv ct oc:Value} {an od:Option Addr} {osl:Array (Option Value)} {N ps:List Str} {sp:Sp} (lk:K.lookup f=some ⟨oc,od,.func (W.fnOf name qual params body scope dV kV doc pm an cdv ct),osl⟩) (hcd:W.codeIn K cdv qual=true) (S:zr N ps scope) (len:∀ vs H Q E,sp vs H Q E->vs.length=ps.length) (hbody:∀ (A:Around) (outer:List Env) (s:Shared) (H:Hp) (vs:List V) (Q:VK) (E:XK),z1a k (A.deeper (envOfC qual scope s.heap.objs.size f cdv))->sp vs H Q E-> ∃ t,PSs (zbc CX P w K mg base N qual scope f cdv A outer s H E) body t/\t {nx:=fun _ H'=>Q .non H',rt:=Q} (start N vs) H): z33 P w K mg base CX (k+1) f (W.fnOf name qual params body scope dV kV doc pm an cdv ct) ps sp:=by
 refine ⟨len,fun A outer s H args us vs Q E hr e0 hb r hsp=>?_⟩;have hl:=len _ _ _ _ hsp;have KX:K.In s.heap:=e0.mod.kin.keeps fun b o e=>(e0.bs b o e).1;have lim:s.heap.NoLimit:=e0.mod.nolimit.keeps fun b o e=>(e0.bs b o e).1;have hkind:∀ y∈ps.zip us,scope.names.lookup y.1=some .local\/(scope.names.lookup y.1=some .cell/\((cellsFrom (s.heap.objs.size+1) scope.names []).lookup y.1).isSome=true):=fun ⟨n,v⟩ hy=>by
  rcases S.par n (List.of_mem_zip hy).1 with q | q;·exact .inl q
  ·exact .inr ⟨q,W.cellsFrom_some _ _ _ (.inl q)⟩
 refine codeAny_call_function hr.depth (KX _ _ lk) rfl S.co S.gen rfl (W.codeRec_of KX hcd) (hb _ _ _ _ ?_);refine wpAny_newFunctionEnv_cells S.kind hkind fun env he s1 x=>?_;subst he;refine ⟨lim.keeps x.toInCall.keep,codeAny_func ?_⟩;obtain ⟨t,ht,hq⟩:=hbody A outer s H vs Q E (hr.deeper _) hsp;have I:Inv (zbc CX P w K mg base N qual scope f cdv A outer s H E) [] (start N vs) H s1:=z9E S e0 hl r x;refine wpAny_mono (ht [] s1 (start N vs) H _ I hq) (fun fl s' hs=>?_) fun e s' hs=>hs;have fin:∀ {O':St} {H':Hp} {v:V} {u:Value},Inv (zbc CX P w K mg base N qual scope f cdv A outer s H E) [] O' H' s'->xx v u->Q v H'->CE outer P w H s Q u s':= fun {O' H' v u} J rv q=>⟨v,H',J.os,J.bare,J.base,J.hok,rv,q⟩;cases fl with
 | ret u=>
  obtain ⟨v,O',H',J,rv,q⟩:=hs;exact fin J rv q | next=>
  obtain ⟨O',H',J,q⟩:=hs;exact fin (v:=V.non) (u:=Value.none) J rfl q | brk=>
  obtain ⟨_,_,_,q⟩:=hs;exact False.elim q | cont=>
  obtain ⟨_,_,_,q⟩:=hs;exact False.elim q
section
variable {X:Cx}{x:Str}{p pos:Pos}{e:Expr}{es:List Expr}{t:TA}{id T:String}{r:List V->Hp->VK->Prop}
def tCB(r:List V->Hp->VK->Prop)(t:TA):TE:=fun O H Q=>t O H fun vs H1=>r vs H1 Q
theorem z7j (hc:wL X (.builtin id) r) (hg:Gl X x) (hm:X.mg x=none) (hv:bootBuiltins x=some (.builtin id)) (ha:PA X (e::es) t) (hn:x≠"__name__":=by decide) (hdb:(x==("__debug__":Str))=false:=by decide) (he:starEach (e::es) X.env=(false,eval e X.env)::starEach es X.env:=by rfl) (hpl:(backTo pos (starEach es X.env)).any (·.1)=false:=by rfl):PE X (.Call (.Name x p) (e::es) [] pos) (tCB r t):=by
 intro pins s O H Q I h;refine wpAny_Call_Name_kw (z0C I hg hm hv ?_ hn hdb);exact PyProof.Rows.callWith_builtin1 (thn (ha pos pins s O H _ I h) fun us s1 ⟨vs,H1,I1,r1,q1⟩=>hc pins s1 O H1 vs us Q I1 r1 q1) he hpl
theorem zat (hc:wL X (.type T) r) (hg:Gl X x) (hm:X.mg x=none) (hv:bootBuiltins x=some (.type T)) (ha:PA X (e::es) t) (hn:x≠"__name__":=by decide) (hdb:(x==("__debug__":Str))=false:=by decide) (he:starEach (e::es) X.env=(false,eval e X.env)::starEach es X.env:=by rfl) (hpl:(backTo pos (starEach es X.env)).any (·.1)=false:=by rfl):PE X (.Call (.Name x p) (e::es) [] pos) (tCB r t):=by
 intro pins s O H Q I h;refine wpAny_Call_Name_kw (z0C I hg hm hv ?_ hn hdb);exact PyProof.Rows.callWith_type1 (thn (ha pos pins s O H _ I h) fun us s1 ⟨vs,H1,I1,r1,q1⟩=>hc pins s1 O H1 vs us Q I1 r1 q1) he hpl
end
end L2
namespace HT
def lexLt:List Int->List Int->Bool
 | [],[]=>false | [],_::_=>true | _::_,[]=>false | x::xs,y::ys=>if x=y then lexLt xs ys else decide (x<y)
section
open PySem.SeqAt
open PySem.AutoSeq1 (wpAny_loadPart')
open PySem.MeetsSeq PySem.MeetsSeq2 PySem.MeetsSeq3
end
section
variable {prog:Program}{w:World}{A:Around}{E:Value->Shared->Prop}{s:Shared}
theorem zf3 {t b:Addr} {vs ws:List Value} {Q:Value->Shared->Prop} (ht:IsTup s.heap t vs.toArray) (hb:IsTup s.heap b ws.toArray) (hv:vs≠[]) (h1:ws=[]->Q (.ref t) s) (h2:ws≠[]->Q (.ref s.heap.objs.size) {s with heap:=s.heap.push {cls:=.type "tuple",data:=.seq (vs++ws).toArray}}) (hsz:vs.length+ws.length<=sizeLine):wpAny (model prog w) A (binaryOp .Add (.ref t) (.ref b)) Q E s:=by
 obtain ⟨⟨cls,dd,data,sl⟩,ho,hc,n,hd⟩:=id ht;obtain ⟨⟨cls2,dd2,data2,sl2⟩,ho2,hc2,n2,hd2⟩:=id hb;simp only at hc hd hc2 hd2;subst hc hd hc2 hd2;have e:vs.toArray++ws.toArray=(vs++ws).toArray:=by simp
 by_cases hw:ws=[]
 ·exact concat_meets ⟨_,ho,rfl⟩ ⟨_,ho2,rfl⟩ noFill_tuple_add seq_tuple_add PySem.F.slot_tuple_add PySem.F.entry_tuple_add (PySem.F.args_tuple_add_2 _ _) (tuple_addW1 t b vs.toArray ws.toArray n n2 dd dd2 sl sl2 (by simpa using hv) (by simp [hw])) ⟨ho,ho2,h1 hw⟩
 ·refine concat_meets ⟨_,ho,rfl⟩ ⟨_,ho2,rfl⟩ noFill_tuple_add seq_tuple_add PySem.F.slot_tuple_add PySem.F.entry_tuple_add (PySem.F.args_tuple_add_2 _ _) (tuple_addW2 t b vs.toArray ws.toArray n n2 dd dd2 sl sl2 (by simpa using hv) (by simpa using hw) (by rw [List.size_toArray,List.size_toArray];exact hsz)) ⟨ho,ho2,?_⟩;rw [e];exact h2 hw
def sIx(n d:Nat):Option Int->Nat
 | none=>d | some v=>if v<0 then (v+(n:Int)).toNat else min v.toNat n
theorem z80(n d:Nat):sIx n d none=d:=rfl
theorem z9Z(n d k:Nat):sIx n d (some (k:Int))=min k n:=by
 show (if (k:Int)<0 then ((k:Int)+(n:Int)).toNat else min (k:Int).toNat n)=min k n;rw [if_neg (by omega),Int.toNat_natCast]
theorem zfu(n d:Nat)(hd:d<=n)(o:Option Int):sIx n d o<=n:=by cases o with
 | none=>exact hd | some v=>
  show (if v<0 then (v+(n:Int)).toNat else min v.toNat n)<=n;by_cases hv:v<0;·rw [if_pos hv];omega
  ·rw [if_neg hv];exact Nat.min_le_right _ _
theorem zb4(v:Int)(n d:Nat):(if v<0 then max (v+(n:Int)) 0 else min v (n:Int))=((sIx n d (some v):Nat):Int):=by
 show (if v<0 then max (v+(n:Int)) 0 else min v (n:Int))=(((if v<0 then (v+(n:Int)).toNat else min v.toNat n):Nat):Int);by_cases hv:v<0;·simp only [if_pos hv];omega
 ·simp only [if_neg hv];omega
theorem z8B(lo hi:Option Int)(n:Nat):Builtin.Slice.sliceAdjust lo hi 1 (n:Int)=(((sIx n 0 lo:Nat):Int),((sIx n n hi:Nat):Int)):=by
 have h1:¬ ((1:Int)<0):=by omega
 unfold Builtin.Slice.sliceAdjust;simp only [h1,if_false];refine Prod.ext ?_ ?_;·cases lo with
  | none=>rfl | some v=>exact zb4 v n 0
 ·cases hi with
  | none=>rfl | some v=>exact zb4 v n n
theorem z8q (i j:Nat):Builtin.Slice.slicePlaces (i:Int) (j:Int) 1=j-i:=by
 unfold Builtin.Slice.slicePlaces;have h1:(1:Int) > 0:=by omega
 simp only [h1,if_true,Int.ediv_one];split<;>omega
theorem z3u{v:Value}{o:Option Int}{Q:Option Int->Shared->Prop}(p:IsPart v o)(h:Q o s):wpAny (model prog w) A (Builtin.Slice.slicePartIndex v) Q E s:=by cases p with
 | none=>exact slicePart_none h | int i t=>exact slicePart_int h
theorem qK{sl:Addr}{vl vu:Value}{lo hi:Option Int}{n:Nat}{Q:Int×Int×Nat->Shared->Prop}(hs:s.heap.IsSliceOf sl vl vu .none)(pl:IsPart vl lo)(pu:IsPart vu hi) (h:Q (((sIx n 0 lo:Nat):Int),1,sIx n n hi-sIx n 0 lo) s):wpAny (model prog w) A (Builtin.Slice.sliceApplied (.ref sl) (pure (n:Int))) Q E s:=by
 obtain ⟨os,hos,hcs,hds⟩:=id hs;unfold Builtin.Slice.sliceApplied Builtin.Slice.sliceFields;refine wpAny_bind (wpAny_bind (wpAny_field hos hds (x:=vl) rfl (wpAny_bind (wpAny_field hos hds (x:=vu) rfl (wpAny_bind (wpAny_field hos hds (x:=.none) rfl (wpAny_pure ?_)))))));refine wpAny_bind (slicePart_none ?_);show wpAny _ _ (if ((1:Int)==0)=true then _ else _) _ _ s;rw [if_neg (by decide)];refine wpAny_bind (z3u pl (wpAny_bind (z3u pu (wpAny_bind (wpAny_pure ?_)))));show wpAny _ _ (match Builtin.Slice.sliceAdjust lo hi 1 (n:Int) with | (lo,hi)=>pure (lo,(1:Int),Builtin.Slice.slicePlaces lo hi 1)) _ _ s;rw [z8B lo hi n];show wpAny _ _ (pure (((sIx n 0 lo:Nat):Int),(1:Int),Builtin.Slice.slicePlaces ((sIx n 0 lo:Nat):Int) ((sIx n n hi:Nat):Int) 1)) _ _ s;rw [z8q];exact wpAny_pure h
theorem zct(xs:Array Value)(i k:Nat):((List.range k).filterMap fun (m:Nat)=>xs[((i:Int)+(m:Int)*1).toNat]?).toArray=((xs.toList.drop i).take k).toArray:=by
 have e:(fun (m:Nat)=>xs[((i:Int)+(m:Int)*1).toNat]?)=fun m=>xs[i+m]? := by
  funext m;have:((i:Int)+(m:Int)*1).toNat=i+m:=by omega
  rw [this]
 rw [e];have:=pick_run xs i k;rw [List.filterMap_map] at this;have e2:((fun x=>xs[x]?) ∘ fun x=>i+x)=fun m=>xs[i+m]? := rfl;rw [e2] at this;rw [this]
theorem z0j {t sl:Addr} {items:Array Value} {vl vu:Value} {lo hi:Option Int} {Q:Value->Shared->Prop} (ht:IsTup s.heap t items) (hs:s.heap.IsSliceOf sl vl vu .none) (pl:IsPart vl lo) (pu:IsPart vu hi) (hw:¬ (sIx items.size 0 lo=0/\sIx items.size items.size hi=items.size)) (h:Q (.ref s.heap.objs.size) {s with heap:=s.heap.push {cls:=.type "tuple",data:=.seq ((items.toList.drop (sIx items.size 0 lo)).take (sIx items.size items.size hi-sIx items.size 0 lo)).toArray}}) (hsz:items.size<=sizeLine):wpAny (model prog w) A (getItem (.ref t) (.ref sl)) Q E s:=by
 have htake:sizeOk (.seq ((items.toList.drop (sIx items.size 0 lo)).take (sIx items.size items.size hi-sIx items.size 0 lo)).toArray):=by
  show ((items.toList.drop (sIx items.size 0 lo)).take (sIx items.size items.size hi-sIx items.size 0 lo)).toArray.size<=sizeLine;rw [List.size_toArray,List.length_take,List.length_drop,Array.length_toList];omega
 have hj:sIx items.size items.size hi<=items.size:=zfu _ _ (Nat.le_refl _) hi;obtain ⟨os,hos,hcs,hds⟩:=id hs;have hTs:s.TypeIs (.ref sl) "slice":=⟨os,hos,hcs⟩;unfold getItem;try with_reducible refine wpAny_holding ?_
 first | refine wpAny_bind (wpAny_pure ?_) | skip
 refine wpAny_bind (wpAny_sequenceKey ht.typeIs (by decide) ?_);refine wpAny_bind (wpAny_callSpecial?_slot (name:=Str.ofString "__getitem__") ht.typeIs PyProof.Rows.slot_tuple_getitem (wpAny_call_entry PyProof.Rows.slot_tuple_getitem ht.typeIs entry_tuple_getitem ?_ (args_tuple_getitem _ _)));show wpAny _ _ (Builtin.Tuple.tupleItemsOf (.ref t) >>= _) _ _ s;refine wpAny_bind (tupleItemsOf_ ht ?_);refine wpAny_bind (wpAny_typeOf hTs ?_);rw [if_pos (by decide)];refine wpAny_bind (qK hs pl pu ?_);have hno:¬ ((((sIx items.size 0 lo:Nat):Int)==0&&(1:Int)==1&&(sIx items.size items.size hi-sIx items.size 0 lo)==items.size)=true):=by
  intro q;rw [Bool.and_eq_true,Bool.and_eq_true] at q;have q1:((sIx items.size 0 lo:Nat):Int)=0:=eq_of_beq q.1.1;have q2:sIx items.size items.size hi-sIx items.size 0 lo=items.size:=eq_of_beq q.2;exact hw ⟨by omega,by omega⟩
 show wpAny _ _ (if (((sIx items.size 0 lo:Nat):Int)==0&&(1:Int)==1&&(sIx items.size items.size hi-sIx items.size 0 lo)==items.size)=true then _ else _) _ _ s;rw [if_neg hno,zct];first
  | exact wpAny_bind (m:=Builtin.Tuple.tupleExact _) (wpAny_newObj_type (wpAny_pure ⟨_,rfl,wpAny_pure h⟩) htake) | exact wpAny_bind (m:=Builtin.Tuple.tupleExact _) (wpAny_newObj_type (wpAny_bind (wpAny_pure (wpAny_pure ⟨_,rfl,wpAny_pure h⟩))) htake) | exact wpAny_bind (wpAny_bind (m:=Builtin.Tuple.tupleExact _) (wpAny_newObj_type (wpAny_pure (wpAny_pure ⟨_,rfl,wpAny_pure h⟩)) htake)) | exact wpAny_bind (wpAny_bind (m:=Builtin.Tuple.tupleExact _) (wpAny_newObj_type (wpAny_pure ⟨_,rfl,wpAny_pure h⟩) htake))
end
end HT
namespace L2
open PySem.Spec
abbrev TO:=St->Hp->(Option Int->Hp->Prop)->Prop
def PO(X:Cx)(e:Option Expr)(t:TO):Prop:= ∀ (pins:List (Addr×Obj))(s:Shared)(O:St)(H:Hp)(Q:Option Int->Hp->Prop),Inv X pins O H s->t O H Q-> wpAny (model X.prog X.w) X.A (evalPart e X.env) (fun u s'=>∃ o H',Inv X pins O H' s'/\IsPart u o/\Q o H') X.xe s
def zdr:TO:=fun _ H Q=>Q none H
def zi8(t:TE):TO:=fun O H Q=>t O H fun x H1=>∃ i,x=.int i/\Q (some i) H1
section
variable {X:Cx}{e:Expr}{te:TE}{lo hi:Option Expr}{tl th:TO}{pos p2:Pos}
theorem zeK:PO X none zdr:=by
 intro pins s O H Q I h;rw [evalPart_none];exact wpAny_pure ⟨none,H,I,.none,h⟩
theorem zea(h:PE X e te):PO X (some e) (zi8 te):=by
 intro pins s O H Q I hw;rw [evalPart_some];refine thn (h pins s O H _ I hw) fun u s1 ⟨x,H1,I1,r1,q1⟩=>?_;obtain ⟨i,rfl,q⟩:=q1;obtain ⟨t,rfl⟩:=r1;exact ⟨some i,H1,I1,.int i t,q⟩
def SlR(X:Cx)(r:V->Option Int->Option Int->Hp->VK->Prop):Prop:= ∀ (pins:List (Addr×Obj))(s:Shared)(O:St)(H:Hp)(x:V)(v vl vu:Value)(lo hi:Option Int)(sl:Addr)(Q:VK),Inv X pins O H s->xx x v->s.heap.IsSliceOf sl vl vu .none->IsPart vl lo->IsPart vu hi->r x lo hi H Q-> ∃ T id,typeLookup (.type T) "__getitem__"=pure (some (.builtin id))/\s.TypeIs v T/\wpAny (model X.prog X.w) X.A (getItem v (.ref sl)) (EP X pins O Q) X.xe s
theorem SlR.or{r r':V->Option Int->Option Int->Hp->VK->Prop}(h:SlR X r)(h':SlR X r'):SlR X (fun x lo hi H Q=>r x lo hi H Q\/r' x lo hi H Q):=by
 intro pins s O H x v vl vu lo hi sl Q I rx hs pl pu q;rcases q with q | q;·exact h pins s O H x v vl vu lo hi sl Q I rx hs pl pu q
 ·exact h' pins s O H x v vl vu lo hi sl Q I rx hs pl pu q
def tSl(r:V->Option Int->Option Int->Hp->VK->Prop)(te:TE)(tl th:TO):TE:=fun O H Q=>te O H fun x H1=>tl O H1 fun l H2=>th O H2 fun u H3=>r x l u H3 Q
theorem zbV{r:V->Option Int->Option Int->Hp->VK->Prop}(hr:SlR X r)(he:PE X e te)(hl:PO X lo tl)(hu:PO X hi th):PE X (.Subscript e (.Slice lo hi none p2) pos) (tSl r te tl th):=by
 intro pins s O H Q I h;refine Subscript_ (thn (he pins s O H _ I h) fun v s1 ⟨x,H1,I1,r1,q1⟩=>?_);refine wpAny_Slice (thn (hl pins s1 O H1 _ I1 q1) fun vl s2 ⟨l,H2,I2,pl,q2⟩=>thn (hu pins s2 O H2 _ I2 q2) fun vu s3 ⟨u,H3,I3,pu,q3⟩=>?_);rw [evalPart_none];refine wpAny_pure ?_;have I4:Inv X pins O H3 {s3 with heap:=s3.heap.push {cls:=.type "slice",data:=.fields #[vl,vu,.none]}}:=I3.kept (t':=s3.toks) fun b ob q=>Heap.get?_push_of_some _ q;obtain ⟨T,id,hT,ht,hg⟩:=hr pins {s3 with heap:=s3.heap.push {cls:=.type "slice",data:=.fields #[vl,vu,.none]}} O H3 x v vl vu l u s3.heap.objs.size Q I4 r1 (Heap.IsSliceOf.new ..) pl pu q3;show wpAny (model X.prog X.w) X.A (subscriptTail e (.Slice lo hi none p2) v (.ref s3.heap.objs.size)) (EP X pins O Q) X.xe {s3 with heap:=s3.heap.push {cls:=.type "slice",data:=.fields #[vl,vu,.none]}};exact tail_any (ops:=[.ref s3.heap.objs.size,v]) ht hT hg (by with_unfolding_all rfl)
def zcJ(xs:List V)(lo hi:Option Int):List V:=(xs.drop (HT.sIx xs.length 0 lo)).take (HT.sIx xs.length xs.length hi-HT.sIx xs.length 0 lo)
theorem z1J(xs:List V)(lo hi:Option Int):(zcJ xs lo hi).length<=xs.length:=by
 unfold zcJ;rw [List.length_take,List.length_drop];omega
def zkD(K:W.Frag):V->Option Int->Option Int->Hp->VK->Prop:=fun x lo hi H Q=>∃ a xs,x=.ref a/\SqT K H a xs/\ ¬ (HT.sIx xs.length 0 lo=0/\HT.sIx xs.length xs.length hi=xs.length)/\∀ p,H p=none->Q (.ref p) (upd H p (.tup (zcJ xs lo hi)))
theorem zgj:SlR X (zkD X.K):=by
 intro pins s O H x v vl vu lo hi sl Q I rx hs pl pu h;obtain ⟨a,xs,rfl,hx,hw,q⟩:=h;cases rx;obtain ⟨its,r,ht,hz⟩:=I.tuple hx;have hlen:its.toArray.size=xs.length:=by rw [List.size_toArray];exact r.length.symm
 refine ⟨"tuple",_,PyProof.Rows.slot_tuple_getitem.lookup,ht.typeIs,?_⟩;refine HT.z0j ht hs pl pu (by rw [hlen];exact hw) ?_ (by rw [hlen];exact hz);rw [hlen];refine ⟨.ref s.heap.objs.size,_,I.laid (t':=s.toks) (o:=.tup (zcJ xs lo hi)) (fun b ob q=>Heap.get?_push_of_some _ q) (Nat.le_refl _) ?_,rfl,q _ (I.hok.fresh (Nat.le_refl _))⟩;exact ⟨Nat.le_trans (z1J xs lo hi) hz,_,(r.drop (HT.sIx xs.length 0 lo)).take (HT.sIx xs.length xs.length hi-HT.sIx xs.length 0 lo),zb9.new _ _⟩
def ziM(K:W.Frag):R2:=fun x y H Q=>∃ a b xs ys,x=.ref a/\y=.ref b/\SqT K H a xs/\SqT K H b ys/\xs≠[]/\xs.length+ys.length<=sizeLine/\ (ys=[]->Q (.ref a) H)/\(ys≠[]->∀ p,H p=none->Q (.ref p) (upd H p (.tup (xs++ys))))
theorem xF.nil_iff{xs:List V}{us:List Value}(r:xF xs us):us=[] ↔ xs=[]:=by cases r with
 | nil=>simp | cons _ _=>simp
theorem zdS:OpR X (binaryOp .Add) (ziM X.K):=by
 intro pins s O H x y v u Q I rx ry h;obtain ⟨a,b,xs,ys,rfl,rfl,ha,hb,hx,hz,q1,q2⟩:=h;cases rx;cases ry;obtain ⟨its,r1,p1,_⟩:=I.tuple ha;obtain ⟨its2,r2,p2,_⟩:=I.tuple hb;refine HT.zf3 p1 p2 (fun z=>hx (r1.nil_iff.mp z)) (fun z=>⟨.ref a,H,I,rfl,q1 (r2.nil_iff.mp z)⟩) (fun z=>?_) (by rw [<- r1.length,<- r2.length];exact hz);refine ⟨.ref s.heap.objs.size,_,I.laid (t':=s.toks) (o:=.tup (xs++ys)) (fun b ob q=>Heap.get?_push_of_some _ q) (Nat.le_refl _) ?_,rfl,q2 (fun w=>z (r2.nil_iff.mpr w)) _ (I.hok.fresh (Nat.le_refl _))⟩;exact ⟨by rw [List.length_append];exact hz,_,r1.append r2,zb9.new _ _⟩
end
def ixN(n:Nat)(i:Int):Option Nat:=if 0<=i then (if i<n then some i.toNat else none) else if -(n:Int)<=i then some (i+n).toNat else none
def atI{α:Type}(xs:List α)(i:Int):Option α:=(ixN xs.length i).bind fun j=>xs[j]?
theorem zb3{n:Nat}{i:Int}{j:Nat}(h:ixN n i=some j):seqIndex? i n=some j/\j<n/\-(n:Int)<=i/\i<n:=by
 unfold ixN at h;by_cases h0:0<=i
 ·rw [if_pos h0] at h;by_cases h1:i<n
  ·rw [if_pos h1] at h;have e:i.toNat=j:=Option.some.inj h;exact ⟨by rw [seqIndex_of h0 h1,e],by omega,by omega,h1⟩
  ·rw [if_neg h1] at h;cases h
 ·rw [if_neg h0] at h;by_cases h1:-(n:Int)<=i
  ·rw [if_pos h1] at h;have e:(i+n).toNat=j:=Option.some.inj h;exact ⟨by rw [seqIndex_neg (by omega) h1,e],by omega,h1,by omega⟩
  ·rw [if_neg h1] at h;cases h
theorem zaB{α:Type}{xs:List α}{i:Int}{v:α}(h:atI xs i=some v):∃ j,seqIndex? i xs.length=some j/\xs[j]? = some v/\j<xs.length/\-(xs.length:Int)<=i/\i<xs.length:=by
 unfold atI at h;cases e:ixN xs.length i with
 | none=>rw [e] at h;cases h | some j=>
  rw [e] at h;obtain ⟨h1,h2,h3,h4⟩:=zb3 e;exact ⟨j,h1,h,h2,h3,h4⟩
def z6W(b:Expr):Prop:=∀ o i,subscripted b false o i=operate [o,i] (getItem o i)
def IxR(X:Cx)(r:R2):Prop:= ∀ (value slice:Expr)(pins:List (Addr×Obj))(s:Shared)(O:St)(H:Hp)(x y:V)(v u:Value)(Q:VK),Inv X pins O H s->xx x v->xx y u->r x y H Q-> subscripted slice false v u=operate [v,u] (getItem v u)->wpAny (model X.prog X.w) X.A (subscriptTail value slice v u) (EP X pins O Q) X.xe s
def MtR (X:Cx) (id:String) (r:V->List V->Hp->VK->Prop):Prop:= ∀ (pins:List (Addr×Obj)) (s:Shared) (O:St) (H:Hp) (x:V) (xs:List V) (v:Value) (us:List Value) (Q:VK),Inv X pins O H s->xx x v->xF xs us->r x xs H Q-> wpAny (model X.prog X.w) X.A (call (.builtin id) (v::us)) (EP X pins O Q) X.xe s
section
variable {X:Cx}{a b:Expr}{ta tb:TE}{pos:Pos}
theorem IxR.or{r r':R2}(h:IxR X r)(h':IxR X r'):IxR X (fun x y H Q=>r x y H Q\/r' x y H Q):=by
 intro value slice pins s O H x y v u Q I rx ry q hs;rcases q with q | q;·exact h value slice pins s O H x y v u Q I rx ry q hs
 ·exact h' value slice pins s O H x y v u Q I rx ry q hs
theorem zfE{r:R2}(hr:IxR X r)(ha:PE X a ta)(hb:PE X b tb)(hs:z6W b):PE X (.Subscript a b pos) (tOp r ta tb):=by
 intro pins s O H Q I h;exact Subscript_ (ziV ha hb I h fun v u s2 x y H2 I2 rx ry q=>hr a b pins s2 O H2 x y v u Q I2 rx ry q (hs _ _))
def zkv(K:W.Frag):R2:=fun x y H Q=>∃ p xs i v,x=.ref p/\y=.int i/\SqL K H p xs/\atI xs i=some v/\Q v H
def zkA(K:W.Frag):R2:=fun x y H Q=>∃ p xs i v,x=.ref p/\y=.int i/\SqT K H p xs/\atI xs i=some v/\Q v H
theorem zdv:IxR X (zkv X.K):=by
 intro value slice pins s O H x y v u Q I rx ry h hs;obtain ⟨p,xs,i,z,rfl,rfl,hq,he,q⟩:=h;cases rx;obtain ⟨t,rfl⟩:=ry;obtain ⟨its,r,pl,hz⟩:=I.list hq;obtain ⟨j,h1,h2,h3,h4,h5⟩:=zaB he;obtain ⟨w,ew,rw'⟩:=r.get h2;have hl:=r.length;have hn:=z7P;have fin:EP X pins O Q w s:=⟨z,H,I,rw',q⟩;by_cases h0:0<=i
 ·have hj:i.toNat=j:=by
   rw [seqIndex_of h0 h5] at h1;exact Option.some.inj h1
  exact item_listR pl.isList h0 (by omega) (by rw [hj];simpa using ew) fin hs
 ·have hj:(i+(its.toArray.size:Int)).toNat=j:=by
   rw [seqIndex_neg (by omega) h4] at h1;rw [List.size_toArray,<- hl];exact Option.some.inj h1
  exact subscriptTail_builtinR (x:=w) pl.isList.typeIs slot_list_getitem.lookup (wpAny_getItem_list_neg (Q:=fun r s'=>r=w/\EP X pins O Q r s') pl.isList (by omega) (by rw [List.size_toArray]<;>omega) (by omega) (by rw [hj];simpa using ew) ⟨rfl,fin⟩) hs
theorem zfF:IxR X (zkA X.K):=by
 intro value slice pins s O H x y v u Q I rx ry h hs;obtain ⟨p,xs,i,z,rfl,rfl,hq,he,q⟩:=h;cases rx;obtain ⟨t,rfl⟩:=ry;obtain ⟨its,r,pl,hz⟩:=I.tuple hq;obtain ⟨j,h1,h2,h3,h4,h5⟩:=zaB he;obtain ⟨w,ew,rw'⟩:=r.get h2;have hl:=r.length;have hn:=z7P;have fin:EP X pins O Q w s:=⟨z,H,I,rw',q⟩;exact subscriptTail_builtinR (x:=w) pl.typeIs slot_tuple_getitem.lookup (getItem_tuple (j:=j) (Q:=fun r s'=>r=w/\EP X pins O Q r s') pl (by omega) (by omega) (by rw [List.size_toArray,<- hl];exact h1) (by simpa using ew) ⟨rfl,fin⟩) hs
theorem z8S (its:List Value) (n j:Nat) (u:Value):Obj.mapSeq (·.setIfInBounds j u) {cls:=.type "list",data:=.seq its.toArray n}={cls:=.type "list",data:=.seq (its.set j u).toArray n}:=by simp [Obj.mapSeq]
theorem Inv.lst{pins:List (Addr×Obj)}{O:St}{H:Hp}{s:Shared}{p:Addr}{xs:List V}(I:Inv X pins O H s)(h:H p=some (.lst xs)): ∃ (its:List Value)(n:Nat),xF xs its/\s.heap.get? p=some {cls:=.type "list",data:=.seq its.toArray n}/\xs.length<=sizeLine:=by
 obtain ⟨z,its,n,r,e⟩:=I.hok p _ h;exact ⟨its,n,r,e,z⟩
theorem Inv.lstUpd {pins:List (Addr×Obj)} {O:St} {H:Hp} {s:Shared} {p:Addr} {xs ys:List V} {its its':List Value} {n n':Nat} {f:Obj->Obj} (I:Inv X pins O H s) (h:H p=some (.lst xs)) (ho:s.heap.get? p=some {cls:=.type "list",data:=.seq its.toArray n}) (hf:f {cls:=.type "list",data:=.seq its.toArray n}={cls:=.type "list",data:=.seq its'.toArray n'}) (r:xF ys its') (hz:ys.length<=sizeLine) (t:Nat): Inv X pins O (upd H p (.lst ys)) {s with heap:=s.heap.update p f,toks:=t}:=by
 have e:(s.heap.update p f).get? p=some {cls:=.type "list",data:=.seq its'.toArray n'}:=by rw [Heap.get?_update_self f ho (by rw [hf]<;>rfl),hf]
 refine I.write (x:=p) (e:=p) (by rw [h];trivial) (.inl rfl) (fun b u hb q=>(Heap.get?_update_other _ _ (Ne.symm hb)).trans q) ⟨_,e⟩ ?_;exact ⟨hz,its',n',r,e⟩
def ziS:V->V->V->Hp->(Hp->Prop)->Prop:=fun o i v H Q=>∃ p xs k j,o=.ref p/\i=.int k/\H p=some (.lst xs)/\ixN xs.length k=some j/\Q (upd H p (.lst (xs.set j v)))
theorem set_list:zjA X ziS:=by
 intro pins s O H o i v ov iv u Q I ro ri rv h;obtain ⟨p,xs,k,j,rfl,rfl,hp,hj,q⟩:=h;cases ro;obtain ⟨t,rfl⟩:=ri;obtain ⟨its,n,r,ho,hz⟩:=I.lst hp;obtain ⟨h1,h2,h3,h4⟩:=zb3 hj;have hl:=r.length;have hn:=z7P;have I':Inv X pins O (upd H p (.lst (xs.set j v))) {s with heap:=s.heap.update p (Obj.mapSeq (·.setIfInBounds j u))}:= I.lstUpd hp ho (z8S its n j u) (r.set rv j) (by rw [List.length_set];exact hz) s.toks;by_cases h0:0<=k
 ·have hk:k.toNat=j:=by
   rw [seqIndex_of h0 h4] at h1;exact Option.some.inj h1
  exact W.ki_setAt ho h0 (by omega) (by rw [List.size_toArray,<- hl];exact h4) (by rw [hk];exact ⟨_,I',q⟩)
 ·have hk:(k+(its.toArray.size:Int)).toNat=j:=by
   rw [seqIndex_neg (by omega) h3] at h1;rw [List.size_toArray,<- hl];exact Option.some.inj h1
  exact W.ki_setBack ho (by omega) (by rw [List.size_toArray,<- hl];exact h3) (by omega) (by rw [hk];exact ⟨_,I',q⟩)
theorem z5w(lo hi:Option Int)(n:Nat):(sliceBounds lo hi none n).1=((HT.sIx n 0 lo:Nat):Int)/\(sliceBounds lo hi none n).2.1=((HT.sIx n n hi:Nat):Int)/\(sliceBounds lo hi none n).2.2=1:=by
 refine ⟨?_,?_,rfl⟩;·cases lo with
  | none=>simp [sliceBounds,HT.sIx] | some i=>
   simp only [sliceBounds,HT.sIx,Option.getD_none,show (1:Int) > 0 by decide,if_true];by_cases h:i<0;·simp only [h,if_true]<;>omega
   ·simp only [h,if_false]<;>omega
 ·cases hi with
  | none=>simp [sliceBounds,HT.sIx] | some i=>
   simp only [sliceBounds,HT.sIx,Option.getD_none,show (1:Int) > 0 by decide,if_true];by_cases h:i<0;·simp only [h,if_true]<;>omega
   ·simp only [h,if_false]<;>omega
theorem z4d(its:List Value)(lo hi:Option Int):slicePick its.toArray lo hi none=((its.drop (HT.sIx its.length 0 lo)).take (HT.sIx its.length its.length hi-HT.sIx its.length 0 lo)).toArray:=by
 obtain ⟨h1,h2,h3⟩:=z5w lo hi its.toArray.size;unfold slicePick;rw [h1,h2,h3];simp only [sliceRange_one,pick_run,List.size_toArray]<;>rfl
def zjZ(K:W.Frag):V->Option Int->Option Int->Hp->VK->Prop:=fun x lo hi H Q=>∃ a xs,x=.ref a/\SqL K H a xs/\∀ p,H p=none->Q (.ref p) (upd H p (.lst (zcJ xs lo hi)))
theorem zdl:SlR X (zjZ X.K):=by
 intro pins s O H x v vl vu lo hi sl Q I rx hs pl pu h;obtain ⟨a,xs,rfl,hx,q⟩:=h;cases rx;obtain ⟨its,r,ht,hz⟩:=I.list hx;have hlen:=r.length;refine ⟨"list",_,slot_list_getitem.lookup,ht.isList.typeIs,?_⟩;refine wpAny_getItem_list_slice ht.isList hs pl pu .none (by simp) ?_ (by rw [List.size_toArray]<;>omega);rw [z4d,<- hlen];refine ⟨.ref s.heap.objs.size,_,I.laid (t':=s.toks) (o:=.lst (zcJ xs lo hi)) (fun b ob q=>Heap.get?_push_of_some _ q) (Nat.le_refl _) ?_,rfl,q _ (I.hok.fresh (Nat.le_refl _))⟩;exact ⟨Nat.le_trans (z1J xs lo hi) hz,_,0,(r.drop (HT.sIx xs.length 0 lo)).take (HT.sIx xs.length xs.length hi-HT.sIx xs.length 0 lo),Heap.get?_push_size _ rfl⟩
def z2V:V->Bool
 | .non=>true | .bl _=>true | .int _=>true | .str _=>true | _=>false
def eqV:V->V->Bool
 | .non,.non=>true | .bl a,.bl b=>a==b | .bl a,.int b=>(if a then 1 else 0)==b | .int a,.bl b=>a==(if b then 1 else 0) | .int a,.int b=>a==b | .str a,.str b=>a==b | _,_=>false
theorem zg6{A:Around}{s:Shared}{y x:V}{u v:Value}(ry:xx y u)(rx:xx x v)(fy:z2V y=true)(fx:z2V x=true):SeqAt.EqAt A s u v (eqV y x):=by cases y with
 | non=>
  cases ry;cases x with
  | non=>cases rx;exact SeqAt.EqAt.same _ | bl b=>cases rx;exact SeqAt.EqAt.none_bool b | int b=>obtain ⟨t,rfl⟩:=rx;exact SeqAt.EqAt.none_int b t | str b=>obtain ⟨t,rfl⟩:=rx;exact SeqAt.EqAt.none_str b t | _=>exact absurd (show false=true from fx) Bool.false_ne_true
 | bl a=>
  cases ry;cases x with
  | non=>cases rx;exact SeqAt.EqAt.bool_none a | bl b=>cases rx;exact SeqAt.EqAt.bool_bool a b | int b=>obtain ⟨t,rfl⟩:=rx;exact SeqAt.EqAt.bool_int a b t | str b=>obtain ⟨t,rfl⟩:=rx;exact SeqAt.EqAt.bool_str a b t | _=>exact absurd (show false=true from fx) Bool.false_ne_true
 | int a=>
  obtain ⟨t',rfl⟩:=ry;cases x with
  | non=>cases rx;exact SeqAt.EqAt.int_none a t' | bl b=>cases rx;exact SeqAt.EqAt.int_bool a t' b | int b=>obtain ⟨t,rfl⟩:=rx;exact SeqAt.EqAt.int_int a t' b t | str b=>obtain ⟨t,rfl⟩:=rx;exact SeqAt.EqAt.int_str a t' b t | _=>exact absurd (show false=true from fx) Bool.false_ne_true
 | str a=>
  obtain ⟨t',rfl⟩:=ry;cases x with
  | non=>cases rx;exact SeqAt.EqAt.str_none a t' | bl b=>cases rx;exact SeqAt.EqAt.str_bool a t' b | int b=>obtain ⟨t,rfl⟩:=rx;exact SeqAt.EqAt.str_int a t' b t | str b=>obtain ⟨t,rfl⟩:=rx;exact SeqAt.EqAt.str_str a t' b t | _=>exact absurd (show false=true from fx) Bool.false_ne_true
 | _=>exact absurd (show false=true from fy) Bool.false_ne_true
def eqU(x:V)(u:Value):Bool:=match u with
 | .none=>eqV .non x | .bool b=>eqV (.bl b) x | .int i _=>eqV (.int i) x | .str z _=>eqV (.str z) x | _=>false
theorem zcT{x y:V}{u:Value}(r:xx y u)(f:z2V y=true):eqU x u=eqV y x:=by cases y with
 | non=>cases r;rfl | bl b=>cases r;rfl | int i=>obtain ⟨t,rfl⟩:=r;rfl | str z=>obtain ⟨t,rfl⟩:=r;rfl | _=>exact absurd (show false=true from f) Bool.false_ne_true
theorem z6k{x:V}:∀ {xs:List V}{us:List Value},xF xs us->xs.all z2V=true->us.any (eqU x)=xs.any fun y=>eqV y x
 | _,_,.nil,_=>rfl | y::xs,u::us,.cons r t,f=>by
  rw [List.all_cons,Bool.and_eq_true] at f;rw [List.any_cons,List.any_cons,zcT r f.1,z6k t f.2]
theorem z4l{A:Around}{s:Shared}{x:V}{v:Value}(rx:xx x v)(fx:z2V x=true):∀ {xs:List V}{us:List Value},xF xs us->xs.all z2V=true->∀ u∈us,SeqAt.EqAt A s u v (eqU x u)
 | _,_,.nil,_=>fun u hu=>by cases hu | y::xs,u::us,.cons r t,f=>fun u' hu=>by
  rw [List.all_cons,Bool.and_eq_true] at f;rcases List.mem_cons.mp hu with rfl | hu;·rw [zcT r f.1];exact zg6 r rx f.1 fx
  ·exact z4l rx fx t f.2 u' hu
def inV(x:V)(xs:List V):Bool:=xs.any fun y=>eqV y x
def rIn(K:W.Frag)(neg:Bool):R2:=fun x y H Q=>∃ p xs,y=.ref p/\(SqL K H p xs\/SqT K H p xs)/\z2V x=true/\xs.all z2V=true/\Q (.bl (if neg then !inV x xs else inV x xs)) H
theorem zau:OpR X (compareOp .In) (rIn X.K false):=by
 intro pins s O H x y v u Q I rx ry h;obtain ⟨p,xs,rfl,hq,fx,fs,q⟩:=h;cases ry;rcases hq with hq | hq
 ·obtain ⟨its,r,pl,hz⟩:=I.list hq;refine SeqAt.in_listAt (eqU x) pl.isList (fun w hw=>z4l rx fx r fs w (by simpa using hw)) ⟨.bl _,H,I,rfl,?_⟩;rw [show its.toArray.any (eqU x)=its.any (eqU x) by simp,z6k r fs];exact q
 ·obtain ⟨its,r,pl,hz⟩:=I.tuple hq;refine SeqAt.in_tupleAt (eqU x) pl (fun w hw=>z4l rx fx r fs w (by simpa using hw)) ⟨.bl _,H,I,rfl,?_⟩;rw [show its.toArray.any (eqU x)=its.any (eqU x) by simp,z6k r fs];exact q
theorem z51:wL X (.builtin "len") (fun xs H Q=>∃ p ys,xs=[.ref p]/\(SqL X.K H p ys\/SqT X.K H p ys)/\Q (.int ys.length) H):=by
 intro pins s O H xs us Q I r h;obtain ⟨p,ys,rfl,hq,q⟩:=h;obtain ⟨u,rfl,rx⟩:=vals1 r;cases rx;have hn:=z7P;rcases hq with hq | hq
 ·obtain ⟨its,r',pl,hz⟩:=I.list hq;have hlen:=r'.length;exact Calls.call_len_list pl.isList (by simp only [List.size_toArray]<;>omega) ⟨.int ys.length,H,I.tok _,⟨s.toks+1,by rw [List.size_toArray,hlen]⟩,q⟩
 ·obtain ⟨its,r',pl,hz⟩:=I.tuple hq;have hlen:=r'.length;exact len_tuple pl (by simp only [List.size_toArray]<;>omega) ⟨.int ys.length,H,I.tok _,⟨s.toks+1,by rw [List.size_toArray,hlen]⟩,q⟩
theorem z3D:wL X (.type "tuple") (fun xs H Q=>∃ p ys,xs=[.ref p]/\((SqL X.K H p ys/\∀ l,H l=none->Q (.ref l) (upd H l (.tup ys)))\/(SqT X.K H p ys/\Q (.ref p) H))):=by
 intro pins s O H xs us Q I r h;obtain ⟨p,ys,rfl,h⟩:=h;obtain ⟨u,rfl,rx⟩:=vals1 r;cases rx;rcases h with ⟨hq,q⟩ | ⟨hq,q⟩
 ·obtain ⟨its,r',pl,hz⟩:=I.list hq;have hlen:=r'.length;refine call_tuple_list pl.isList (fun h' kp=>?_) (by simp only [List.size_toArray]<;>omega);have I1:Inv X pins O H {s with heap:=h'}:=I.kept (t':=s.toks) kp;have I2:Inv X pins O (upd H h'.objs.size (.tup ys)) {s with heap:=h'.push {cls:=.type "tuple",data:=.seq its.toArray}}:= I1.laid (t':=s.toks) (fun b o e=>Heap.get?_push_of_some _ e) (Nat.le_refl _) (show wB X.prog X.w _ _ _ (.tup ys) from ⟨hz,its,r',zb9.new _ _⟩);exact ⟨.ref h'.objs.size,_,I2,rfl,q _ (I1.hok.fresh (Nat.le_refl _))⟩
 ·obtain ⟨its,r',pl,hz⟩:=I.tuple hq;exact call_tuple_same pl ⟨.ref p,H,I,rfl,q⟩
def tyV(K:W.Frag)(T:String)(x:V)(H:Hp):Prop:=match x with
 | .str _=>T="str" | .int _=>T="int" | .ref p=>(T="list"/\∃ xs,SqL K H p xs)\/(T="tuple"/\∃ o,K.lookup p=some o/\o.cls=.type "tuple"/\o.dict=none)\/ (T="dict"/\((∃ kvs,H p=some (.dK kvs))\/∃ kvs,H p=some (.dT kvs)))\/(T="set"/\∃ S n,H p=some (.set S n)) | _=>False
theorem zgL{pins:List (Addr×Obj)}{O:St}{H:Hp}{s:Shared}{T:String}{x:V}{v:Value}(I:Inv X pins O H s)(r:xx x v)(ty:tyV X.K T x H): s.TypeIs v T/\∀ a,v=.ref a->∃ ob,s.heap.get? a=some ob/\ob.dict=none:=by cases x with
 | str z=>
  obtain ⟨t,rfl⟩:=r;cases (show T="str" from ty);exact ⟨typeIs_str s z t,fun _ e=>nomatch e⟩ | int i=>
  obtain ⟨t,rfl⟩:=r;cases (show T="int" from ty);exact ⟨typeIs_int s i t,fun _ e=>nomatch e⟩ | ref p=>
  cases r;rcases ty with ⟨rfl,xs,hq⟩ | ⟨rfl,o,hk,hc,hd⟩ | ⟨rfl,hk⟩ | ⟨rfl,S,n,hk⟩
  ·obtain ⟨its,_,pl,_⟩:=I.list hq;refine ⟨pl.isList.typeIs,fun a e=>?_⟩;cases e;obtain ⟨o,n,e,c,hd,_⟩:=pl;exact ⟨o,e,hd⟩
  ·refine ⟨⟨o,I.kIn p o hk,hc⟩,fun a e=>?_⟩;cases e;exact ⟨o,I.kIn _ o hk,hd⟩
  ·have z:∃ o,s.heap.get? p=some o/\o.ExactDict:=by
    rcases hk with ⟨kvs,hk⟩ | ⟨kvs,hk⟩
    ·obtain ⟨_,_,_,_,o,_,_,e,ex,_⟩:=I.hok p _ hk;exact ⟨o,e,ex⟩
    ·obtain ⟨_,_,_,_,o,_,_,e,ex,_⟩:=I.hok p _ hk;exact ⟨o,e,ex⟩
   obtain ⟨o,e,ex⟩:=z;refine ⟨⟨o,e,ex.1⟩,fun a e2=>?_⟩;cases e2;exact ⟨o,e,ex.2.1⟩
  ·obtain ⟨o,_,_,_,e,ex,_⟩:=I.hok p _ hk;refine ⟨⟨o,e,ex.1⟩,fun a e2=>?_⟩;cases e2;exact ⟨o,e,ex.2.1⟩ | _=>exact False.elim ty
def tBM(K:W.Frag)(T:String)(r:V->List V->Hp->VK->Prop)(to:TE)(t:TA):TE:=fun O H Q=>to O H fun x H1=>tyV K T x H1/\t O H1 fun xs H2=>r x xs H2 Q
variable {o e:Expr}{es:List Expr}{to:TE}{t:TA}{name:Str}{apos cpos:Pos}{T id:String}{r:V->List V->Hp->VK->Prop}
theorem zii (pa:PlainAttrs T) (slot:Slot T name id) (hty:typeOf (.builtin id)=pure (.type "method_descriptor")) (hm:MtR X id r) (ho:PE X o to) (ha:PA X (e::es) t) (hbase:attributeBase o name X.env (eval o X.env)=eval o X.env:=by rfl) (hfew:((backTo cpos (starEach (e::es) X.env)).all (fun x=>!x.1)&&(backToKw cpos (keywordEach [] X.env)).all (fun x=>x.1.isSome) && decide ((e::es).length+([]:List Keyword).length+(if ([]:List Keyword).isEmpty then 0 else 1)<30))=true:=by rfl) (hline:(apos.endLine==cpos.line)=true:=by rfl) (hs:starEach (e::es) X.env=(false,eval e X.env)::starEach es X.env:=by rfl) (hplain:(backTo cpos (starEach es X.env)).any (·.1)=false:=by rfl): PE X (.Call (.Attribute o name apos) (e::es) [] cpos) (tBM X.K T r to t):=by
 intro pins s O H Q I h;refine wpAny_Call_method_late hbase hfew hline rfl (thn (ho pins s O H _ I h) fun v s1 ⟨x,H1,I1,r1,ty,q1⟩=>?_);obtain ⟨h1,h2⟩:=zgL I1 r1 ty;refine ⟨T,id,pa,slot,hty,h1,h2,?_⟩;have hA:=ha cpos pins s1 O H1 _ I1 q1;rw [hs] at hA ⊢;refine Calls.callWith_builtin (by show (false||(backTo cpos (starEach es X.env)).any (·.1))=false;rw [hplain]<;>rfl) (Calls.evalArgs_plain ?_);exact thn hA fun us s2 ⟨vs,H2,I2,r2,q2⟩=>hm pins s2 O H2 x vs v us Q I2 r1 r2 q2
end
def MtM (X:Cx) (id:String) (r:V->List V->Hp->VK->Prop):Prop:= ∀ (pins:List (Addr×Obj)) (s:Shared) (O:St) (H:Hp) (x:V) (xs:List V) (v:Value) (us:List Value) (Q:VK),Inv X pins O H s->xx x v->xF xs us->r x xs H Q-> wpAny (model X.prog X.w) X.A (call (.builtin id) (v::us)) (EP X pins O Q) X.xe s
theorem xF.one:∀ {x:V}{us:List Value},xF [x] us->∃ u,us=[u]/\xx x u | _,_,.cons r .nil=>⟨_,rfl,r⟩
section
variable {X:Cx}{pins:List (Addr×Obj)}{O:St}{H:Hp}{s:Shared}{l b:Addr}{xs ys zs:List V}
theorem Inv.lset {its its':List Value} {n:Nat} {f:Array Value->Array Value} {t':Nat} (I:Inv X pins O H s) (hH:H l=some (.lst xs)) (e:s.heap.get? l=some {cls:=.type "list",data:=.seq its.toArray n}) (hf:f its.toArray=its'.toArray) (hv:xF ys its') (hz:ys.length<=sizeLine): Inv X pins O (upd H l (.lst ys)) {s with heap:=s.heap.update l (Obj.mapSeq f),toks:=t'}:=by
 have q:=PySem.IsL.update e f;rw [hf] at q;refine I.write (x:=l) (e:=l) (by rw [hH];exact trivial) (.inl rfl) (fun b' u hb hu=>(Heap.get?_update_other s.heap (Obj.mapSeq f) (Ne.symm hb)).trans hu) ⟨_,q⟩ ?_;exact ⟨hz,its',_,hv,q⟩
theorem Inv.lnew {its:List Value} {t':Nat} (I:Inv X pins O H s) (hv:xF ys its) (hz:ys.length<=sizeLine): Inv X pins O (upd H s.heap.objs.size (.lst ys)) {s with heap:=s.heap.push {cls:=.type "list",data:=.seq its.toArray},toks:=t'}:= I.laid (fun _ _ q=>Heap.get?_push_of_some _ q) (Nat.le_refl _) ⟨hz,its,0,hv,Heap.get?_push_size _ rfl⟩
theorem Inv.fresh(I:Inv X pins O H s):H s.heap.objs.size=none:=I.hok.fresh (Nat.le_refl _)
theorem Inv.lstM(I:Inv X pins O H s)(hH:H l=some (.lst xs)):xs.length<=sizeLine/\∃ (its:List Value)(n:Nat),xF xs its/\xs.length=its.length/\s.heap.get? l=some {cls:=.type "list",data:=.seq its.toArray n}:=by
 obtain ⟨z,its,n,r,e⟩:=I.hok l _ hH;exact ⟨z,its,n,r,r.length,e⟩
end
section
variable {X:Cx}
def zeB:V->List V->Hp->VK->Prop:=fun x vs H Q=>∃ l xs y,x=.ref l/\vs=[y]/\H l=some (.lst xs)/\xs.length<sizeLine/\Q .non (upd H l (.lst (xs++[y])))
theorem zb1:MtM X "list.append" zeB:=by
 intro pins s O H x vs v us Q I rx rv h;obtain ⟨l,xs,y,rfl,rfl,hH,hz,q⟩:=h;cases rx;obtain ⟨u,rfl,ru⟩:=rv.one;obtain ⟨z,its,n,r,hl,e⟩:=I.lstM hH;refine call_meets F.slot_list_append ⟨_,e,rfl⟩ F.entry_list_append (F.args_list_append_2 _ _) (PySem.list_append l its.toArray n u (by rw [List.size_toArray];omega)) ⟨e,?_⟩;refine ⟨.non,_,I.lset (its':=its++[u]) hH e (by simp) (r.append (.cons ru .nil)) ?_,rfl,q⟩;rw [List.length_append,List.length_singleton];omega
end
end L2
namespace Att
open PySem.W PySem.Calls
theorem z1W{P:Params}{h:Heap}:∀ (ns:List Int)(vs:List Value),WellAll P h vs (ns.map WData.int)->IntsAre vs ns:=by
 intro ns;induction ns with
 | nil=>
  intro vs w;rw [List.map_nil] at w;cases w;exact .nil | cons n ns ih=>
  intro vs w;rw [List.map_cons] at w;cases w with | cons a b=>
   cases a;exact .cons _ _ (ih _ b)
theorem z9h {l:OpenLaw} {n:Nat} (hn:l.most=some n) {P:Params} {h:Heap} {args:List WData} {vals:List Value} (hpre:l.row.toRowW.claim.pre args=true) (hwl:WellAll P h vals args): ∃ a vs ns,vals=[Value.ref a]/\args=[WData.list (ns.map WData.int)]/\h.get? a=some {cls:=.type "list",data:=.seq vs.toArray}/\IntsAre vs ns/\ns.length<=n:=by
 have hsh:WShape.hasAll [] args [.list .int]=true:=(pre_splitW hpre).1;have hc:l.pre.holds [] {args:=args}=true:=(pre_splitW hpre).2;obtain ⟨d,r,rfl,h1,h2⟩:=hasAllW_cons hsh;obtain rfl:=hasAllW_nil h2;obtain ⟨xs,rfl,h3⟩:=hasW_list h1;obtain ⟨ns,rfl⟩:=items_int h3;have hlen:ns.length<=n:=by
  unfold OpenLaw.pre at hc;have h4:(WTm.not (.lt (.lit (.int (n:Int))) (.len (.arg 0)))).holds [] {args:=[.list (ns.map .int)]}=true:=by
   have h4:=(holds_andW hc).1;rw [hn] at h4;exact h4
  have h5:=condW_of h4 (w_not (w_lt w_lit (w_len_list (w_arg rfl))));rw [List.length_map] at h5;refine Nat.le_of_not_lt fun q=>?_;have q':(n:Int)<((ns.length:Nat):Int):=by omega
  first
   | (rw [decide_eq_true q'] at h5;exact absurd h5 (by decide)) | (simp at h5;omega)
 cases hwl with | cons w1 w2=>
  cases w2;cases w1 with | list ho hall=>exact ⟨_,_,ns,rfl,rfl,ho,z1W ns _ hall,hlen⟩
theorem z9X (l:OpenLaw) (args:List WData):l.row.toRowW.claim.post args (.bool true) args=true:= postW_of (r:=l.row.toRowW) (X:=(true==true)) (show WShape.has [] (.bool true) .bool=true by first | rfl | decide | simp [WShape.has,WShape.arms,WShape.armsAll]) (show (WTm.eq .res (.lit (.bool true))).value [] {args:=args,res:=some (.bool true),after:=args}=some (.bool (true==true)) from w_eq_bool (w_res rfl) w_lit) rfl
theorem z27{l:OpenLaw}{n:Nat}{q:Program}{loose:List Str}{XP:(Str->Option Value)->Heap->Prop}{YP:World->Heap->Prop}{d:DefRec} (hn:l.most=some n)(hdf:d.params.defaults=[]) (call:∀ (w:World)(s₀ s₁:Shared)(mg mb:Str->Option Value)(fa:Addr)(o:Obj)(pm cd doc:Value)(a:Addr)(vs:List Value)(ns:List Int), Ground q loose [] XP w s₀ mg mb s₁.heap->YP w s₁.heap-> s₁.heap.get? fa=some o->o.data=.func (docDef d.name d.params d.body d.scope pm cd doc)->s₁.heap.CodeRec cd d.name->mg d.name=some (.ref fa)-> s₁.heap.get? a=some {cls:=.type "list",data:=.seq vs.toArray}->IntsAre vs ns->ns.length<=n->s₁.gens=#[]-> codeAny (model l.prog w) callerA (.call (.ref fa) ⟨[.ref a],[]⟩) (fun r s'=>r=.ok (.ret (.bool true))/\OldK s₁.heap s'.heap/\s'.os=s₁.os/\AllBare s'.gens) s₁): WalkO q loose XP YP l.row.toRowW d [] (fun f vs=>PySem.call f vs):=by
 intro w s₀ s₁ mg mb G Yy fa o pm cd doc dV kV ho hd hcd hD hmg hg args vals as hpre hlay hrd hwl hlo;obtain rfl:dV=.none:=Dflts.none hD hdf;obtain rfl:kV=.none:=Dflts.noKw hD;obtain ⟨a,vs,ns,rfl,rfl,hobj,hints,hlen⟩:=z9h hn hpre hwl;refine enter_call (codeAny_mono (call w s₀ s₁ mg mb fa o pm cd doc a vs ns G Yy ho (fd_plain hd) hcd hmg hobj hints hlen hg) fun r s' hq=>?_);obtain ⟨rfl,h2,h3,h4⟩:=hq;exact ⟨.inl ⟨.bool true,.bool true,[],rfl,fun _=>rfl,.bool true,z9X l _,fun _=>⟨List.Pairwise.nil,fun _ hm=>(nomatch hm)⟩⟩,h2,h3,h4⟩
section
variable {prog:Program}{w:World}{A:Around}{E:Value->Shared->Prop}{s:Shared}{K:Frag}
def ledger(h:Heap)(L d:Addr):List (Addr×Obj):=(List.range h.objs.size).filterMap fun a=>if a=L\/a=d then none else (h.get? a).map fun o=>(a,o)
end
end Att
namespace L2
open PySem.Spec
theorem z4T:∀ {vs:List Value}{ns:List Int},IntsAre vs ns->xF (ns.map V.int) vs
 | _,_,.nil=>.nil | _,_,.cons n t h=>.cons ⟨t,rfl⟩ (z4T h)
def zhA(H:Hp):Prop:=∀ b,H b=none\/∃ o xs,H b=some (.frz o (.lst xs))
theorem z7L {P:Program} {w:World} {K:W.Frag} {mg mb:Str->Option Value} {CX:CXT} {k:Nat} {fa a:Addr} {fd:FuncData} {x:Str} {sp:Sp} {s₁:Shared} {vs:List Value} {ns:List Int} (KX:K.In s₁.heap) (hns:s₁.heap.Ns mainGlobals mg) (hb:s₁.heap.Ns builtinsNs mb) (hbb:∀ x:Str,x≠"__name__"->mb x=bootBuiltins x) (hlim:s₁.heap.NoLimit) (hg:s₁.gens=#[]) (ha:s₁.heap.get? a=some {cls:=.type "list",data:=.seq vs.toArray}) (hi:IntsAre vs ns) (hl:ns.length<=sizeLine) (hr:z1a k callerA) (F:∀ base:Heap,K.In base->base.Ns mainGlobals mg->z33 P w K mg base CX k fa fd [x] sp) (hbind:∀ (s:Shared) (u:Value),BindsTo s fd ⟨[u],[]⟩ [(x,u)]) (hsp:∀ H:Hp,zhA H->SqL K H a (ns.map V.int)->sp [.ref a] H (fun v _=>v=.bl true) fun _ _ _=>False) (hCX:∀ H e s',CX [] H s₁ (fun _ _ _=>False) e s'->False): codeAny (model P w) callerA (.call (.ref fa) ⟨[.ref a],[]⟩) (fun r s'=>r=.ok (.ret (.bool true))/\OldK s₁.heap s'.heap/\s'.os=s₁.os/\AllBare s'.gens) s₁:=by
 have rv:=z4T hi;have lenV:=hi.length;have core:∀ H:Hp,zhA H->SqL K H a (ns.map V.int)->HOk P w H s₁.heap->(∀ b,H b≠none->b=a)->(H a≠none->K.lookup a=none)-> codeAny (model P w) callerA (.call (.ref fa) ⟨[.ref a],[]⟩) (fun r s'=>r=.ok (.ret (.bool true))/\OldK s₁.heap s'.heap/\s'.os=s₁.os/\AllBare s'.gens) s₁:=by
  intro H hO hS hok hA hK;have base_of:∀ {b:Addr} {o:Obj},s₁.heap.get? b=some o->H b=none->(zbS s₁.heap H).get? b=some o:=fun e n=>zc8 e n;have noA:∀ {b:Addr} {o:Obj} {es:Array DictEntry} {ep:Nat},s₁.heap.get? b=some o->o.data=.dict es ep->H b=none:=fun {b o es ep} e d=>by cases q:H b with
   | none=>rfl | some u=>
    have e':b=a:=hA b (by rw [q];simp);subst e';rw [ha] at e;cases e;have d':Data.seq vs.toArray _=Data.dict es ep:=d;cases d'
  have nsK:∀ {b:Addr} {m:Str->Option Value},s₁.heap.Ns b m->(zbS s₁.heap H).Ns b m:=fun {b m} ⟨o,es,ep,e,d,r⟩=>⟨o,es,ep,base_of e (noA e d),d,r⟩;have hKb:K.In (zbS s₁.heap H):=fun b o e=>base_of (KX b o e) (by cases q:H b with
   | none=>rfl | some u=>
    have e':b=a:=hA b (by rw [q];simp);subst e';rw [hK (by rw [q];simp)] at e;cases e);have hM:Mod K mg (zbS s₁.heap H):=⟨hKb,nsK hns,⟨mb,nsK hb,hbb⟩,let ⟨mc,h1,h2⟩:=hlim;⟨mc,nsK h1,h2⟩⟩;have e0:zht P w K mg (zbS s₁.heap H) callerA [] s₁ H:=⟨rfl,hM,fun b o e=>zeM e,Nat.le_of_eq (zaG _ _),trivial,fun b hb=>absurd (show b∈([]:List Addr) from hb) (by simp),hok,.of_eq hg⟩;refine codeAny_mono ((F _ hKb (nsK hns)).run callerA [] s₁ H ⟨[.ref a],[]⟩ [.ref a] [.ref a] _ _ hr e0 (hbind s₁ (.ref a)) (.cons rfl .nil) (hsp H hO hS)) fun r s' h=>?_;cases r with
  | error e=>exact (hCX H e s' h).elim | ok fl=> cases fl with
   | next=>exact False.elim h | brk=>exact False.elim h | cont=>exact False.elim h | ret u=>
    obtain ⟨v,H',os,bare,un,hok',r',q⟩:=h;have q':v=.bl true:=q;subst q';obtain rfl:u=Value.bool true:=r';refine ⟨rfl,OldK.of_keep fun b o e=>?_,os,bare⟩;cases q:H b with
    | none=>exact un.keep b o e q (by intro z;exact absurd (show b∈([]:List Addr) from z) (by simp)) (by simp) | some u=>
     rcases hO b with z | ⟨ob,xs,z⟩;·rw [q] at z;cases z
     ·have z2:=un.frzs b ob _ z;obtain ⟨e1,_⟩:=hok b _ z;obtain ⟨e2,_⟩:=hok' b _ z2;rw [e] at e1;cases e1;exact e2
 cases hk:K.lookup a with
 | some o=>
  have e:=KX a o hk;rw [ha] at e;cases e;refine core (fun _=>none) (fun _=>.inl rfl) (.inr ⟨_,vs.toArray,_,hk,rfl,rfl,rfl,by rw [List.size_toArray,lenV];exact hl,by simpa using rv⟩) (fun b u z=>by have z':(none:Option HO)=some u:=z;cases z') (fun b z=>absurd rfl z) fun z=>absurd rfl z | none=>
  refine core (fun b=>if b=a then some (.frz {cls:=.type "list",data:=.seq vs.toArray} (.lst (ns.map V.int))) else none) (fun b=>?_) (.inl (.inr ⟨{cls:=.type "list",data:=.seq vs.toArray},if_pos rfl⟩)) (fun b u z=>?_) (fun b z=>?_) fun _=>hk
  ·by_cases hb:b=a;·exact .inr ⟨_,_,if_pos hb⟩
   ·exact .inl (if_neg hb)
  ·by_cases hb:b=a
   ·have z':=(if_pos hb).symm.trans z;cases z';subst hb;exact ⟨ha,by rw [List.length_map];exact hl,vs,_,rv,ha⟩
   ·have z':=(if_neg hb).symm.trans z;cases z'
  ·by_cases hb:b=a;·exact hb
   ·exact absurd (if_neg hb) z
abbrev KOf{K:W.Frag}{h:Heap}(_:K.In h):W.Frag:=K
theorem zik{l:W.OpenLaw}{n k:Nat}{q:Program}{loose:List Str}{XP:(Str->Option Value)->Heap->Prop}{YP:World->Heap->Prop}{d:DefRec}{K:Params->W.Frag}{CX:World->CXT}{sp:World->Sp}{x:Str} (hn:l.most=some n)(hn2:n<=sizeLine)(hdf:d.params.defaults=[])(hr:z1a k callerA) (hY:∀ (w:World)(h:Heap),YP w h->(K w.params).In h) (F:∀ (w:World)(mg:Str->Option Value)(fa:Addr)(h:Heap),(K w.params).In h->h.Ns mainGlobals mg->mg d.name=some (.ref fa)-> ∃ fd:FuncData,(∀ (s:Shared)(u:Value),BindsTo s fd ⟨[u],[]⟩ [(x,u)])/\ ∀ base:Heap,(K w.params).In base->base.Ns mainGlobals mg->z33 l.prog w (K w.params) mg base (CX w) k fa fd [x] (sp w)) (hsp:∀ (w:World)(H:Hp)(a:Addr)(ns:List Int),ns.length<=n->zhA H->SqL (K w.params) H a (ns.map V.int)->sp w [.ref a] H (fun v _=>v=.bl true) fun _ _ _=>False) (hCX:∀ (w:World)(H:Hp)(s:Shared)(e:Value)(s':Shared),CX w [] H s (fun _ _ _=>False) e s'->False): W.WalkO q loose XP YP l.row.toRowW d [] (fun f vs=>PySem.call f vs):=by
 refine Att.z27 hn hdf fun w s₀ s₁ mg mb fa o pm cd doc a vs ns G Yy ho hd hcd hmg hobj hints hlen hg=>?_;have KX:=hY w _ Yy;obtain ⟨fd,hb,hF⟩:=F w mg fa _ KX G.T.g hmg;exact z7L KX G.T.g G.T.b G.T.builtins G.T.nolimit hg hobj hints (Nat.le_trans hlen hn2) hr hF hb (fun H hO hS=>hsp w H a ns hlen hO hS) fun H e s'=>hCX w H s₁ e s'
def z0a(s:Stmt):Arguments:=match s with
 | .FunctionDef _ a _ _ _ _ _ _ _ _=>a | _=>{posonlyargs:=[],args:=[],vararg:=none,kwonlyargs:=[],kw_defaults:=[],kwarg:=none,defaults:=[]}
def qc(s:Stmt):List Stmt:=match s with
 | .FunctionDef _ _ b _ _ _ _ _ _ _=>b | _=>[]
def zg(s:Stmt):Scope:=match s with
 | .FunctionDef _ _ _ _ _ _ sc _ _ _=>sc | _=>{kind:=.function,names:=[],isGenerator:=false,isCoroutine:=false}
abbrev CX0:CXT:=fun _ _ _ _ _ _=>False
abbrev E0:XK:=fun _ _ _=>False
theorem zL{X:Cx}:Passes CX0 X E0:=fun _ _ _ _ _ _ _ h=>h.elim
structure Fun(K:W.Frag)(x qual:Str)(st:Stmt)(f:Addr)(fd:FuncData):Prop where
 ex:∃ (oc:Value)(od:Option Addr)(kV doc pm:Value)(an:Option Addr)(cdv ct:Value)(osl:Array (Option Value)), fd=W.fnOf x qual (z0a st) (qc st) (zg st) .none kV doc pm an cdv ct/\K.lookup f=some ⟨oc,od,.func fd,osl⟩/\W.codeIn K cdv qual=true
 kp:W.keepIn K (.ref f)=true
section
variable {P:Program}{w:World}{K:W.Frag}{mg:Str->Option Value}{base:Heap}
theorem Fun.ok{x qual:Str}{st:Stmt}{f:Addr}{fd:FuncData}{N ps:List Str}{k:Nat}{sp:Sp}(F:Fun K x qual st f fd)(S:zr N ps (zg st))(len:∀ vs H Q E,sp vs H Q E->vs.length=ps.length) (hbody:∀ (cdv:Value)(A:Around)(outer:List Env)(s:Shared)(H:Hp)(vs:List V)(Q:VK)(E:XK),z1a k (A.deeper (envOfC qual (zg st) s.heap.objs.size f cdv))->sp vs H Q E-> ∃ t,PSs (zbc CX0 P w K mg base N qual (zg st) f cdv A outer s H E).nox (qc st) t/\t {nx:=fun _ H'=>Q .non H',rt:=Q} (start N vs) H):z33 P w K mg base CX0 (k+1) f fd ps sp:=by
 obtain ⟨oc,od,kV,doc,pm,an,cdv,ct,osl,rfl,lk,hcd⟩:=F.ex;refine ziD lk hcd S len fun A outer s H vs Q E hr hsp=>?_;obtain ⟨t,h,q⟩:=hbody cdv A outer s H vs Q E hr hsp;exact ⟨t,h.nox,q⟩
theorem Fun.binds{x qual:Str}{st:Stmt}{f:Addr}{fd:FuncData}{ps:List Str}(F:Fun K x qual st f fd) (h:∀ (kV doc pm:Value)(an:Option Addr)(cdv ct:Value)(us:List Value),us.length=ps.length->bindArgs (W.fnOf x qual (z0a st) (qc st) (zg st) .none kV doc pm an cdv ct) ⟨us,[]⟩=pure (ps.zip us)):Binds K fd ps []:=by
 obtain ⟨oc,od,kV,doc,pm,an,cdv,ct,osl,rfl,lk,hcd⟩:=F.ex;exact .all (h kV doc pm an cdv ct)
theorem zfB{x qual:Str}{st:Stmt}{f:Addr}{oc:Value}{od an:Option Addr}{osl:Array (Option Value)}{kV doc pm cdv ct:Value}(l:K.lookup f=some ⟨oc,od,.func (W.fnOf x qual (z0a st) (qc st) (zg st) .none kV doc pm an cdv ct),osl⟩) (c:W.codeIn K cdv qual=true)(k:W.keepIn K (.ref f)=true):Fun K x qual st f (W.fnOf x qual (z0a st) (qc st) (zg st) .none kV doc pm an cdv ct):=⟨⟨oc,od,kV,doc,pm,an,cdv,ct,osl,rfl,l,c⟩,k⟩
end
section
variable {X:Cx}
theorem pv(i:Nat){x:Str}{pos:Pos}(hN:X.N[i]? = some x:=by rfl)(hv:Vis X.env.scope x:=by first | exact Or.inl rfl | exact Or.inr (Or.inl rfl) | exact Or.inr (Or.inr rfl))(hd:(x==("__debug__":Str))=false:=by decide) (hcd:(x==("__classdict__":Str))=false:=by decide):PE X (.Name x pos) (zjJ i):=z9j hN hv hd hcd
end
end L2
set_option maxHeartbeats 4000000
namespace L2
open PySem.Spec
def z4O(env:Env):List (Str×NameKind)->List (Str×Addr)->List (Str×Addr)
 | [],acc=>acc | (n,k)::r,acc=>z4O env r (if k==.free then (match env.cells.lookup n with | some c=>(n,c)::acc | none=>acc) else acc)
theorem z2d{env:Env}:∀ (names:List (Str×NameKind))(acc:List (Str×Addr)),(∀ x c,acc.lookup x=some c->env.cells.lookup x=some c)->∀ x c,(z4O env names acc).lookup x=some c->env.cells.lookup x=some c
 | [],acc,ha=>ha | (n,k)::r,acc,ha=>by
  unfold z4O;refine z2d r _ fun x c=>?_;split
  ·split
   ·rename_i c' hc;intro h;rw [List.lookup_cons] at h;split at h
    ·rename_i hb;cases h;rw [beq_iff_eq.mp hb];exact hc
    ·exact ha x c h
   ·exact ha x c
  ·exact ha x c
theorem z62{env:Env}{x:Str}:∀ (names:List (Str×NameKind))(acc:List (Str×Addr)),(acc.lookup x).isSome=true->((z4O env names acc).lookup x).isSome=true
 | [],acc,ha=>ha | (n,k)::r,acc,ha=>by
  unfold z4O;refine z62 r _ ?_;split
  ·split
   ·rw [List.lookup_cons];split;·rfl
    ·exact ha
   ·exact ha
  ·exact ha
theorem z3T{env:Env}{x:Str}:∀ (names:List (Str×NameKind))(acc:List (Str×Addr)),(x,NameKind.free)∈names->(∃ c,env.cells.lookup x=some c)->∃ c,(z4O env names acc).lookup x=some c
 | [],acc,h,_=>nomatch h | (n,k)::r,acc,h,hc=>by
  rcases List.mem_cons.mp h with e | h
  ·cases e;obtain ⟨c,hc⟩:=hc;unfold z4O;have q:((z4O env r ((x,c)::acc)).lookup x).isSome=true:=z62 r _ (by simp);rw [if_pos (by rfl),hc];exact Option.isSome_iff_exists.mp q
  ·unfold z4O;exact z3T r _ h hc
theorem z3i{env:Env}(f:Str×NameKind->List (Str×Addr)->Sem (ForInStep (List (Str×Addr)))) (hf:∀ n k cs,f (n,k) cs=if k==.free then (do let a <- cellOf env n;pure (.yield ((n,a)::cs))) else pure (.yield cs)): ∀ (names:List (Str×NameKind))(acc:List (Str×Addr)),(∀ y∈names,y.2=.free->∃ c,env.cells.lookup y.1=some c)->forIn names acc f=pure (z4O env names acc)
 | [],acc,_=>rfl | (n,k)::r,acc,h=>by
  rw [List.forIn_cons,hf];have ih:=fun acc'=>z3i f hf r acc' fun y hy=>h y (List.mem_cons_of_mem _ hy);unfold z4O;by_cases hk:k=.free
  ·subst hk;obtain ⟨c,hc⟩:=h (n,.free) List.mem_cons_self rfl;have hc':env.cells.lookup n=some c:=hc;have e:cellOf env n=pure c:=by unfold cellOf;rw [hc']
   rw [if_pos (by rfl),if_pos (by rfl),e,hc',pure_bind,pure_bind];exact ih _
  ·have hb:(k==NameKind.free)=false:=by simpa using hk
   rw [hb,if_neg (by decide),if_neg (by decide),pure_bind];exact ih _
theorem qm{scope:Scope}{env:Env}(h:∀ y∈scope.names,y.2=.free->∃ c,env.cells.lookup y.1=some c):closureFor scope env=pure (z4O env scope.names []):=by
 simp only [closureFor];rw [z3i (env:=env) _ (fun n k cs=>by cases hk:k==NameKind.free<;>simp [hk]) scope.names [] h];simp
theorem vK:∀ (names:List (Str×NameKind))(n:Nat)(acc:List (Str×Addr)),cellsFrom n names acc=cellsFrom n names []++acc
 | [],_,_=>rfl | (x,k)::r,n,acc=>by
  unfold cellsFrom;split
  ·rw [vK r (n+1) ((x,n)::acc),vK r (n+1) [(x,n)]];simp
  ·exact vK r n acc
theorem qa{x:Str}{c:Addr}:∀ (names:List (Str×NameKind))(n:Nat)(acc:List (Str×Addr)),(x,c)∈cellsFrom n names acc->(x,c)∈acc\/(x,NameKind.cell)∈names
 | [],_,_,h=>.inl h | (y,k)::r,n,acc,h=>by
  unfold cellsFrom at h;split at h
  ·rename_i hk;rcases qa r _ _ h with q | q
   ·rcases List.mem_cons.mp q with e | q
    ·cases e;refine .inr ?_;rw [show k=NameKind.cell from beq_iff_eq.mp hk];exact List.mem_cons_self
    ·exact .inl q
   ·exact .inr (List.mem_cons_of_mem _ q)
  ·rcases qa r _ _ h with q | q;·exact .inl q
   ·exact .inr (List.mem_cons_of_mem _ q)
def zco(X:Cx)(scope:Scope)(C:Addr):Env:= {scope:=relabel scope X.env,locals:=C,globals:=X.env.globals,cells:=cellsFrom (C+1) scope.names []++z4O X.env scope.names [],qual:=X.env.qual,func:=none,code:=X.env.code,frame:=X.env.frame,builtins:=X.env.builtins}
def zX(X:Cx)(N':List Str)(scope:Scope)(ex:List Addr)(s:Shared)(H:Hp):Cx where
 prog:=X.prog;w:=X.w;K:=X.K;mg:=X.mg;base:=X.base;A:=X.A;N:=N';s₀:=s;H₀:=H;env:=zco X scope s.heap.objs.size;outer:=X.stack;stack:=X.stack;ex:=ex;fn:=fun x=>scope.names.lookup x==some .cell;calm:=X.calm;pn:=[];xe:=fun _ _=>False
theorem jP{env:Env}{x:Str}{k:NameKind}:∀ {names:List (Str×NameKind)},names.lookup x=some k-> (names.map fun (n,k)=>if (k==NameKind.free&&env.scope.kind==.function&&env.kindOf n==some .cell) then (n,NameKind.cell) else (n,k)).lookup x=some k\/ (k=.free/\(names.map fun (n,k)=>if (k==NameKind.free&&env.scope.kind==.function&&env.kindOf n==some .cell) then (n,NameKind.cell) else (n,k)).lookup x=some .cell)
 | [],h=>by simp at h | (n,k')::r,h=>by
  have ih:=@jP env x k r;show List.lookup x ((if (k'==NameKind.free&&env.scope.kind==.function&&env.kindOf n==some .cell)=true then (n,NameKind.cell) else (n,k'))::_)=_\/(_/\List.lookup x ((if (k'==NameKind.free&&env.scope.kind==.function&&env.kindOf n==some .cell)=true then (n,NameKind.cell) else (n,k'))::_)=_);cases hx:x==n with
  | true=>
   simp only [List.lookup_cons,hx] at h;cases h;by_cases hc:(k==NameKind.free&&env.scope.kind==.function&&env.kindOf n==some .cell)=true
   ·rw [if_pos hc];simp only [Bool.and_eq_true,beq_iff_eq] at hc;exact .inr ⟨hc.1.1,by simp [List.lookup_cons,hx]⟩
   ·rw [if_neg hc];exact .inl (by simp [List.lookup_cons,hx]) | false=>
   simp only [List.lookup_cons,hx] at h;by_cases hc:(k'==NameKind.free&&env.scope.kind==.function&&env.kindOf n==some .cell)=true;·rw [if_pos hc];simp only [List.lookup_cons,hx];exact ih h
   ·rw [if_neg hc];simp only [List.lookup_cons,hx];exact ih h
theorem uA{env:Env}{x:Str}{k:NameKind}:∀ {names:List (Str×NameKind)}, (names.map fun (n,k)=>if (k==NameKind.free&&env.scope.kind==.function&&env.kindOf n==some .cell) then (n,NameKind.cell) else (n,k)).lookup x=some k->(k=.cell\/k=.free)->(x,NameKind.cell)∈names\/(x,NameKind.free)∈names
 | [],h,_=>by simp at h | (n,k')::r,h,hk=>by
  have ih:=@uA env x k r;change List.lookup x ((if (k'==NameKind.free&&env.scope.kind==.function&&env.kindOf n==some .cell)=true then (n,NameKind.cell) else (n,k'))::_)=_ at h;have step:(List.lookup x (r.map fun (n,k)=>if (k==NameKind.free&&env.scope.kind==.function&&env.kindOf n==some .cell) then (n,NameKind.cell) else (n,k))=some k)->(x,NameKind.cell)∈(n,k')::r\/(x,NameKind.free)∈(n,k')::r:=fun q=> (ih q hk).elim (fun z=>.inl (List.mem_cons_of_mem _ z)) fun z=>.inr (List.mem_cons_of_mem _ z);by_cases hc:(k'==NameKind.free&&env.scope.kind==.function&&env.kindOf n==some .cell)=true
  ·rw [if_pos hc,List.lookup_cons] at h;split at h
   ·rename_i hb;simp only [Bool.and_eq_true,beq_iff_eq] at hc;rw [beq_iff_eq.mp hb,hc.1.1];exact .inr List.mem_cons_self
   ·exact step h
  ·rw [if_neg hc,List.lookup_cons] at h;split at h
   ·rename_i hb;cases h;rw [beq_iff_eq.mp hb];rcases hk with rfl | rfl;·exact .inl List.mem_cons_self
    ·exact .inr List.mem_cons_self
   ·exact step h
def inner(mp:List (Option Nat))(O:St):St:=mp.map fun o=>match o with | some j=>(O[j]?).getD none | none=>none
def z3v(N:List Str)(names:List (Str×NameKind)):List Str->List (Option Nat)->Bool
 | [],[]=>true | _::r,none::mp=>z3v N names r mp | x::r,some j::mp=>N[j]? == some x&&names.lookup x==some .free&&z3v N names r mp | _,_=>false
theorem z3A{N:List Str}{names:List (Str×NameKind)}:∀ {N':List Str}{mp:List (Option Nat)},z3v N names N' mp=true->mp.length=N'.length
 | [],[],_=>rfl | _::_,none::_,h=>by
  simp only [z3v] at h;simp only [List.length_cons];rw [z3A h] | _::_,some _::_,h=>by
  simp only [z3v,Bool.and_eq_true] at h;simp only [List.length_cons];rw [z3A h.2] | [],none::_,h=>by cases h | [],some _::_,h=>by cases h | _::_,[],h=>by cases h
theorem z6J{N:List Str}{names:List (Str×NameKind)}:∀ {N':List Str}{mp:List (Option Nat)}{i j:Nat}{x:Str},z3v N names N' mp=true->N'[i]? = some x->mp[i]? = some (some j)->N[j]? = some x/\names.lookup x=some .free
 | [],_,_,_,_,_,h,_=>by simp at h | _::_,[],_,_,_,_,_,h=>by simp at h | _::_,none::_,0,_,_,_,_,h=>by simp at h | _::_,some _::_,0,_,_,h,h1,h2=>by
  simp only [z3v,Bool.and_eq_true,beq_iff_eq] at h;simp at h1 h2;subst h1 h2;exact h.1 | _::_,none::_,i+1,_,_,h,h1,h2=>by
  simp only [z3v] at h;exact z6J (i:=i) h (by simpa using h1) (by simpa using h2) | _::_,some _::_,i+1,_,_,h,h1,h2=>by
  simp only [z3v,Bool.and_eq_true] at h;exact z6J (i:=i) h.2 (by simpa using h1) (by simpa using h2)
section
variable {X:Cx}{pins:List (Addr×Obj)}{O:St}{H:Hp}{s s1:Shared}{scope:Scope}{N':List Str}{ex:List Addr}{mp:List (Option Nat)}
theorem z90{α:Type}{x:Str}{l1 l2:List (Str×α)}{c:α}(h:(l1++l2).lookup x=some c):l1.lookup x=some c\/(l1.lookup x=none/\l2.lookup x=some c):=by
 rw [List.lookup_append] at h;cases e:l1.lookup x with
 | some d=>rw [e] at h;exact .inl h | none=>rw [e] at h;exact .inr ⟨rfl,h⟩
theorem z94 (I:Inv X pins O H s) (hkd:scope.kind=.function) (hnm:∀ y∈scope.names,scope.names.lookup y.1=some y.2) (hfr:∀ y∈scope.names,y.2=.free->X.env.kindOf y.1=some .cell\/X.env.kindOf y.1=some .free) (hmp:z3v X.N scope.names N' mp=true) (hex:∀ b∈ex,b<s.heap.objs.size/\H b=none/\b≠X.env.locals/\b∉X.fs/\(b∈X.ex\/X.s₀.heap.objs.size<=b)/\(∀ x c,X.env.cells.lookup x=some c->c≠b)) (e1:s1.heap=pushCells (s.heap.push {cls:=.type "dict",data:=.dict #[]}) scope.names) (e2:s1.os=s.os) (e3:s1.gens=s.gens): Inv (zX X N' scope ex s H) [] (inner mp O) H s1:=by
 have keep:∀ b o,s.heap.get? b=some o->s1.heap.get? b=some o:=fun b o e=>by rw [e1];exact pushCells_keeps _ _ b o (Heap.get?_push_of_some _ e)
 have ok:=cellsFrom_ok scope.names (s.heap.push {cls:=.type "dict",data:=.dict #[]}) (s.heap.objs.size+1) [] ⟨fun _ _ hm=>(nomatch hm),List.Pairwise.nil⟩ (by rw [Heap.size_push];exact Nat.le_refl _);rw [Heap.size_push,<- e1] at ok;have hclo:∀ x c,(z4O X.env scope.names []).lookup x=some c->X.env.cells.lookup x=some c:=z2d scope.names [] (fun x c h=>by simp at h);have clt:∀ x c,X.env.cells.lookup x=some c->c<s.heap.objs.size:=fun x c h=>by obtain ⟨v,q⟩:=I.cell x c h;exact q.lt
 have own:∀ x c,(cellsFrom (s.heap.objs.size+1) scope.names []).lookup x=some c->s1.heap.IsCell c none/\s.heap.objs.size+1<=c:=fun x c h=>ok.empty x c (PySem.mem_of_lookup h);have both:∀ x c,(zco X scope s.heap.objs.size).cells.lookup x=some c->((cellsFrom (s.heap.objs.size+1) scope.names []).lookup x=some c/\s1.heap.IsCell c none/\s.heap.objs.size+1<=c)\/(X.env.cells.lookup x=some c):=fun x c h=>by
  rcases z90 h with q | ⟨_,q⟩;·exact .inl ⟨q,own x c q⟩
  ·exact .inr (hclo x c q)
 refine ⟨⟨I.ok.mod,hkd,I.ok.glob,I.ok.blt,Nat.le_refl _,fun x y c h1 h2=>?_,fun x hx=>?_,fun x c hf h=>?_,I.ok.hd,I.ok.frames,.inl rfl,fun b hb=>⟨Nat.ne_of_lt (hex b hb).1,fun x c h=>?_⟩,fun b o e=>I.bs b o e,Nat.le_trans I.ok.bsz I.sz,fun b o e hb=>?_,fun b hb hf=>?_,I.stack,I.stkFree⟩, e2,by rw [e3];exact I.bare,Un.kept keep,?_,fun x c h=>?_,I.hok.fresh (Nat.le_refl _),fun x c h=>?_,fun p hp=>absurd (show p∈([]:List (Addr×Obj)) from hp) (by simp),I.hok.kept keep,?_⟩
 ·rcases both x c h1 with ⟨q1,_,l1⟩ | q1<;>rcases both y c h2 with ⟨q2,_,l2⟩ | q2;·exact name_of_addr ok.apart (PySem.mem_of_lookup q1) (PySem.mem_of_lookup q2)
  ·exact absurd (Nat.lt_of_lt_of_le (clt y c q2) (Nat.le_of_succ_le l1)) (Nat.lt_irrefl _)
  ·exact absurd (Nat.lt_of_lt_of_le (clt x c q1) (Nat.le_of_succ_le l2)) (Nat.lt_irrefl _)
  ·exact I.ok.inj x y c q1 q2
 ·have hx':(x,NameKind.cell)∈scope.names\/(x,NameKind.free)∈scope.names:=by
   rcases hx with hx | hx;·exact uA (env:=X.env) hx (.inl rfl)
   ·exact uA (env:=X.env) hx (.inr rfl)
  show ∃ c,(cellsFrom (s.heap.objs.size+1) scope.names []++z4O X.env scope.names []).lookup x=some c;rw [List.lookup_append];cases e:(cellsFrom (s.heap.objs.size+1) scope.names []).lookup x with
  | some c=>exact ⟨c,rfl⟩ | none=>
   rcases hx' with hx' | hx'
   ·obtain ⟨c,q⟩:=z1b (sc:=scope) (n:=s.heap.objs.size+1) (hnm (x,.cell) hx');rw [q] at e;cases e
   ·obtain ⟨c,q⟩:=z3T (env:=X.env) scope.names [] hx' (I.ok.has x (hfr (x,.free) hx' rfl));exact ⟨c,by simpa using q⟩
 ·have hf':scope.names.lookup x=some .cell:=beq_iff_eq.mp hf;obtain ⟨c',q⟩:=z1b (sc:=scope) (n:=s.heap.objs.size+1) hf';have h':(cellsFrom (s.heap.objs.size+1) scope.names []++z4O X.env scope.names []).lookup x=some c:=h;rw [List.lookup_append,q] at h';have e:c'=c:=Option.some.inj h';subst e;exact Nat.le_of_lt (Nat.lt_of_succ_le (own x c' q).2)
 ·rcases both x c h with ⟨_,_,l⟩ | q
  ·intro z;rw [z] at l;exact absurd (Nat.lt_of_lt_of_le (hex b hb).1 (Nat.le_of_succ_le l)) (Nat.lt_irrefl _)
  ·exact (hex b hb).2.2.2.2.2 x c q
 ·rcases (hex b hb).2.2.2.2.1 with z | z;·exact I.ok.noex b o e z
  ·exact absurd (Nat.lt_of_lt_of_le (Nat.lt_of_lt_of_le (Heap.lt_size e) I.ok.bsz) z) (Nat.lt_irrefl _)
 ·have q:=I.stkSub b hf;rcases List.mem_cons.mp q with z | z;·exact (hex b hb).2.2.1 z
  ·exact (hex b hb).2.2.2.1 z
 ·refine ⟨fun _=>none,?_,fun i x v h1 h2 h3=>?_⟩
  ·rw [e1];exact (Heap.Ns.new s.heap (.type "dict")).keeps (pushCells_keeps _ _)
  ·have h2':(inner mp O)[i]? = some (some v):=h2;unfold inner at h2';rw [List.getElem?_map] at h2';cases em:mp[i]? with
   | none=>rw [em] at h2';cases h2' | some o=>
    rw [em] at h2';cases o with
    | none=>cases h2' | some j=>
     obtain ⟨hj,hl⟩:=z6J hmp h1 em;have hmem:(x,NameKind.free)∈scope.names:=PySem.mem_of_lookup hl;have hv:O[j]? = some (some v):=by
      simp only [Option.map_some] at h2';cases eO:O[j]? with
      | none=>rw [eO] at h2';cases h2' | some o=>rw [eO] at h2';exact h2'
     obtain ⟨m,hn,hlook⟩:=I.loc;have kx:X.env.kindOf x=some .cell\/X.env.kindOf x=some .free:=hfr _ hmem rfl;obtain ⟨u,r,L⟩:=hlook j x v hj hv (by rcases kx with k | k;exact .inr (.inl k);exact .inr (.inr k));refine ⟨u,r,.inr ?_⟩;rcases L with ⟨k,_⟩ | ⟨_,c,hc,hcell⟩;·rcases kx with k' | k'<;>(rw [k] at k';cases k')
     ·have ncell:(x,NameKind.cell)∉scope.names:=fun z=>by
       have a:=hnm _ z;rw [hl] at a;cases a
      refine ⟨?_,c,?_,hcell.keeps keep⟩
      ·rcases jP (env:=X.env) hl with q | ⟨_,q⟩;·exact .inr q
       ·exact .inl q
      ·show (cellsFrom (s.heap.objs.size+1) scope.names []++z4O X.env scope.names []).lookup x=some c;rw [List.lookup_append];cases e:(cellsFrom (s.heap.objs.size+1) scope.names []).lookup x with
       | some c'=> exact absurd ((qa _ _ _ (PySem.mem_of_lookup e)).resolve_left (by simp)) ncell | none=>
        obtain ⟨c2,q⟩:=z3T (env:=X.env) scope.names [] hmem ⟨c,hc⟩;have q2:=hclo x c2 q;rw [hc] at q2;cases q2;simpa using q
 ·rcases both x c h with ⟨_,q,_⟩ | q;·exact ⟨_,q⟩
  ·obtain ⟨v,z⟩:=I.cell x c q;exact ⟨v,z.keeps keep⟩
 ·rcases both x c h with ⟨_,_,l⟩ | q;·exact I.hok.fresh (by omega)
  ·exact I.freeC x c q
 ·unfold inner;rw [List.length_map];exact z3A hmp
end
section
variable {M:Model}{A:Around}{E:Value->Shared->Prop}{s:Shared}
theorem z7i{scope:Scope}{env:Env}{cl:List (Str×Addr)}{Q:Env->Shared->Prop} (h:Q {scope:=scope,locals:=s.heap.objs.size,globals:=env.globals,cells:=cellsFrom (s.heap.objs.size+1) scope.names cl,qual:=env.qual,func:=none,code:=env.code,frame:=env.frame,builtins:=env.builtins} {s with heap:=pushCells (s.heap.push {cls:=.type "dict",data:=.dict #[]}) scope.names}): wpAny M A (newFunctionEnv scope env.globals cl [] env.qual none .none (some env)) Q E s:=by
 simp only [newFunctionEnv,Option.isSome_some,if_true];refine wpAny_bind (wpAny_alloc ?_);refine wpAny_bind (wpAny_layCells _ (fun name kind cells=>by cases hkc:kind==NameKind.cell<;>simp [hkc]) _ _ _ _ ?_);rw [show ({s with heap:=s.heap.push {cls:=.type "dict",data:=.dict #[]}}:Shared).heap.objs.size=s.heap.objs.size+1 from Heap.size_push ..];refine wpAny_bind ?_;rw [List.forIn_nil];exact wpAny_pure (wpAny_pure h)
end
section
variable {prog:Program}{w:World}{A:Around}{E:Value->Shared->Prop}{R:Result->Shared->Prop}{s:Shared}
theorem z50{elt target iter:Expr}{ifs:List Expr}{scope:Scope}{pos:Pos}{it acc:Value}{env:Env}(I:Nat->Shared->Prop) (turn:∀ n s,I n s->wpAny (model prog w) A (pyNext it) (fun r s₁=>match r with
   | none=>R (.ok .next) s₁ | some v=>wpAny (model prog w) A (letOwnedTupleGo target it v) (fun _ s₁'=>wpAny (model prog w) A (assign target env v) (fun _ s₂=> wpAny (model prog w) A (forIn ifs true fun c r=>if r=true then do let ok <- isTrue c env (eval c env);pure (ForInStep.yield ok) else pure (ForInStep.yield r)) (fun ok s₃=> if ok=true then wpAny (model prog w) A (eval elt env) (fun x s₄=> wpAny (model prog w) A (call (.builtin "list.append") [acc,x]) (fun _ s₅=>∃ m,m<n/\I m s₅) (fun _ _=>False) s₄) (fun _ _=>False) s₃ else ∃ m,m<n/\I m s₃) (fun _ _=>False) s₂) (fun _ _=>False) s₁') (fun _ _=>False) s₁) (fun _ _=>False) s) (n:Nat)(h:I n s): codeAny (model prog w) A (.compLoop (.ListComp elt [⟨target,iter,ifs,0⟩] scope pos) 0 it acc env) R s:=by
 refine codeAny_loop rfl I (fun n s hI=>?_) n h;show wpAny _ A ((compTurn (.ListComp elt [⟨target,iter,ifs,0⟩] scope pos) 0 it acc env).onRaise (fun x=>do noteFrame x env;theTreesLotGoes x)) _ _ s;refine wpAny_noted ?_;rw [compTurn_list];refine wpAny_bind (wpAny_standAt (wpAny_bind (wpAny_mono (turn n s hI) (fun r s₁ h₁=>?_) fun _ _ h'=>h'.elim)));cases r with
 | none=>exact wpAny_pure h₁ | some v=>
  refine wpAny_bind (wpAny_mono h₁ (fun _ s₁' h₁'=>?_) fun _ _ h'=>h'.elim);refine wpAny_bind (wpAny_mono h₁' (fun _ s₂ h₂=>wpAny_bind (wpAny_mono h₂ (fun ok s₃ h₃=>?_) fun _ _ h'=>h'.elim)) fun _ _ h'=>h'.elim);cases ok with
  | false=>exact wpAny_pure ⟨rfl,h₃⟩ | true=> exact wpAny_bind (wpAny_bind (wpAny_mono h₃ (fun x s₄ h₄=>wpAny_bind (wpAny_mono h₄ (fun _ s₅ h₅=>wpAny_pure (wpAny_pure ⟨rfl,h₅⟩)) fun _ _ h'=>h'.elim)) fun _ _ h'=>h'.elim))
end
def z7l(X:Cx)(ifs:List Expr)(t:TT):Prop:= ∀ (pins:List (Addr×Obj))(s:Shared)(O:St)(H:Hp)(Q:Bool->Hp->Prop),Inv X pins O H s->t O H Q-> wpAny (model X.prog X.w) X.A (forIn ifs true fun c r=>if r=true then do let ok <- isTrue c X.env (eval c X.env);pure (ForInStep.yield ok) else pure (ForInStep.yield r)) (TP X pins O Q) X.xe s
theorem zcf{X:Cx}:z7l X [] (fun _ H Q=>Q true H):=fun _ _ _ H _ I h=>wpAny_tests_nil ⟨H,I,h⟩
theorem zcm{X:Cx}{c:Expr}{t:TT}(h:PT X c t):z7l X [c] t:=fun pins s O H Q I hq=>wpAny_tests_one (h pins s O H Q I hq)
theorem Inv.track {X:Cx} {pins:List (Addr×Obj)} {O:St} {H:Hp} {s:Shared} {a:Addr} {o:HO} (I:Inv X pins O H s) (f:z6g X pins H a) (new:wB X.prog X.w (upd H a o) s.heap a o):Inv X pins O (upd H a o) s:=by
 obtain ⟨f0,f1,f2,f3,f4,f5⟩:=f;have hs:HOk X.prog X.w (upd H a o) s.heap:=fun b u e=>by
  by_cases hb:b=a;·subst hb;rw [yr] at e;cases e;exact new
  ·rw [zH hb] at e;exact (I.hok b u e).stay (fun _ _ _ q=>q) (fun c q=>by rw [zH (yZ q f0)];exact q) fun c xs q=>by rw [zH (yZ q f0)];exact q
 exact I.step (h':=s.heap) (g':=s.gens) (d':=s.drawn) (t':=s.toks) (ch:=[a]) (fun b hb=>by
  have e:b=a:=by simpa using hb
  subst e;exact ⟨f3,f1,f4,f5⟩) (fun b o _ _ _ e _=>e) (fun b o _ _ _ e _=>⟨o.slots,e⟩) (fun b o hb _ n=>by rw [zH (fun z=>hb (by simp [z]))];exact n) (fun b o _ e=>⟨o,e⟩) (fun b xs q=>by rw [zH (yZ q f0)];exact q) (fun b u xs q=>by rw [zH (yZ q f0)];exact q) (fun b ps q=>⟨#[],by rw [zH (yZ q f0),q];simp⟩) (fun _ q=>q) hs I.bare
def zch(wi:TI)(mp:List (Option Nat))(g:TG)(ti:TT)(te:TE):TE:=fun O H Q=>wi O H fun J H1=>∃ W:Nat->Nat->List V->Hp->Prop,(∃ m,W 0 m [] H1)/\∀ i m ys H,W i m ys H-> (J.stop i H/\ys.length<=sizeLine/\∀ p,H p=none->Q (.ref p) (upd H p (.lst ys)))\/ (J.go i H/\∀ x H',J.yld i H x H'->g x (inner mp O) H' fun O2 H2=>(O2.length=(inner mp O).length/\∀ (i:Nat) v,(inner mp O)[i]? = some (some v)->O2[i]? = some (some v))/\ ti O2 H2 fun b H3=>if b=true then te O2 H3 fun y H4=>ys.length<=sizeLine/\∃ m',m'<m/\W (i+1) m' (ys++[y]) H4 else ∃ m',m'<m/\W (i+1) m' ys H3)
def z17(X:Cx)(pins:List (Addr×Obj))(O:St)(C:Addr)(Q:VK)(acc:Value)(s':Shared):Prop:= ∃ v Hf,Inv X pins O Hf s'/\xx v acc/\Q v Hf/\(∃ m,s'.heap.Ns C m)/\z6g X pins Hf C
theorem z04 {X:Cx} {tg iter elt:Expr} {ifs:List Expr} {scope:Scope} {pos:Pos} {g:TG} {ti:TT} {te:TE} {N':List Str} {mp:List (Option Nat)} {pins:List (Addr×Obj)} {O:St} {Q:VK} {J:It} {H2:Hp} {s₂:Shared} {it:Addr} {fp:List Addr} {tn:Nat->Heap->Prop} {E:Value->Shared->Prop} {RR:Value->Addr->Result->Shared->Prop} (hc:X.calm=true) (hg:∀ ex s H,PG (zX X N' scope ex s H) tg g) (ht:∀ ex s H,z7l (zX X N' scope ex s H) ifs ti) (he:∀ ex s H,PE (zX X N' scope ex s H) elt te) (hkd:scope.kind=.function) (hnm:∀ y∈scope.names,scope.names.lookup y.1=some y.2) (hfr:∀ y∈scope.names,y.2=.free->X.env.kindOf y.1=some .cell\/X.env.kindOf y.1=some .free) (hmp:z3v X.N scope.names N' mp=true) (I2:Inv X pins O H2 s₂) (T:ze2 X.prog X.w X.K tg J fp it tn) (st2:tn 0 s₂.heap) (f2:∀ b∈fp,z6g X pins H2 b) (W:Nat->Nat->List V->Hp->Prop) (w0:∃ m,W 0 m [] H2) (turn:∀ i m ys H,W i m ys H-> (J.stop i H/\ys.length<=sizeLine/\∀ p,H p=none->Q (.ref p) (upd H p (.lst ys)))\/ (J.go i H/\∀ x H',J.yld i H x H'->g x (inner mp O) H' fun O2 H2=>(O2.length=(inner mp O).length/\∀ (i:Nat) v,(inner mp O)[i]? = some (some v)->O2[i]? = some (some v))/\ ti O2 H2 fun b H3=>if b=true then te O2 H3 fun y H4=>ys.length<=sizeLine/\∃ m',m'<m/\W (i+1) m' (ys++[y]) H4 else ∃ m',m'<m/\W (i+1) m' ys H3)) (hRR:∀ acc C s',z17 X pins O C Q acc s'->RR acc C (.ok .next) s'): wpAny (model X.prog X.w) X.A (newList []) (fun acc s₃=>wpAny (model X.prog X.w) X.A (newFunctionEnv scope X.env.globals (z4O X.env scope.names []) [] X.env.qual none .none (some X.env)) (fun cenv s₄=> codeAny (model X.prog X.w) X.A (.compStart (.ListComp elt [⟨tg,iter,ifs,0⟩] scope pos) 0 (.ref it) acc {cenv with scope:=relabel scope X.env}) (RR acc cenv.locals) s₄) E s₃) E s₂:=by
 refine wpAny_newObj_type ?_;have hf2:H2 s₂.heap.objs.size=none:=I2.hok.fresh (Nat.le_refl _);have fA:z6g X pins H2 s₂.heap.objs.size:=I2.fpOk (Nat.le_refl _) hf2;generalize hacc:s₂.heap.objs.size=acc at hf2 fA ⊢;have I3:Inv X pins O H2 {s₂ with heap:=s₂.heap.push {cls:=.type "list",data:=.seq ([]:List Value).toArray}}:=I2.kept (t':=s₂.toks) fun b o e=>Heap.get?_push_of_some _ e;have ha3:(s₂.heap.push {cls:=.type "list",data:=.seq ([]:List Value).toArray}).get? acc=some (LCg.lst []):=by rw [<- hacc];exact Heap.get?_push_size _ rfl
 have sz3:(s₂.heap.push {cls:=.type "list",data:=.seq ([]:List Value).toArray}).objs.size=acc+1:=by rw [Heap.size_push,hacc]
 have kp3:∀ b o,s₂.heap.get? b=some o->(s₂.heap.push {cls:=.type "list",data:=.seq ([]:List Value).toArray}).get? b=some o:=fun b o e=>Heap.get?_push_of_some _ e;show wpAny _ _ _ _ _ {s₂ with heap:=s₂.heap.push {cls:=.type "list",data:=.seq ([]:List Value).toArray}};generalize hs3:({s₂ with heap:=s₂.heap.push {cls:=.type "list",data:=.seq ([]:List Value).toArray}}:Shared)=s₃ at I3 ⊢;have ha3':s₃.heap.get? acc=some (LCg.lst []):=by rw [<- hs3];exact ha3
 have sz3':s₃.heap.objs.size=acc+1:=by rw [<- hs3];exact sz3
 have kp3':∀ b o,s₂.heap.get? b=some o->s₃.heap.get? b=some o:=by rw [<- hs3];exact kp3
 have flt:∀ b∈fp,b<acc:=fun b hb=>by
  obtain ⟨o,e,_⟩:=T.obj 0 _ st2 b hb;rw [<- hacc];exact Heap.lt_size e
 have fne:∀ b∈fp,b≠acc:=fun b hb=>Nat.ne_of_lt (flt b hb);have tn3:tn 0 s₃.heap:=T.keep 0 _ _ st2 fun b hb o e=>kp3' b o e;refine z7i ?_;rw [vK];have hex:∀ b∈acc::fp,b<s₃.heap.objs.size/\H2 b=none/\b≠X.env.locals/\b∉X.fs/\(b∈X.ex\/X.s₀.heap.objs.size<=b)/\(∀ x c,X.env.cells.lookup x=some c->c≠b):=fun b hb=>by
  rcases List.mem_cons.mp hb with z | hb
  ·subst z;exact ⟨by rw [sz3'];exact Nat.lt_succ_self _,hf2,fA.2.1,fA.2.2.1,fA.2.2.2.1,fA.2.2.2.2.1⟩
  ·have q:=f2 b hb;exact ⟨by rw [sz3'];exact Nat.lt_succ_of_lt (flt b hb),q.1,q.2.1,q.2.2.1,q.2.2.2.1,q.2.2.2.2.1⟩
 have I4:=z94 (N':=N') (mp:=mp) (ex:=acc::fp) (s1:={s₃ with heap:=pushCells (s₃.heap.push {cls:=.type "dict",data:=.dict #[]}) scope.names}) I3 hkd hnm hfr hmp hex rfl rfl rfl;have kp4:∀ b o,s₃.heap.get? b=some o->(pushCells (s₃.heap.push {cls:=.type "dict",data:=.dict #[]}) scope.names).get? b=some o:=fun b o e=>pushCells_keeps _ _ b o (Heap.get?_push_of_some _ e);generalize hs4:({s₃ with heap:=pushCells (s₃.heap.push {cls:=.type "dict",data:=.dict #[]}) scope.names}:Shared)=s₄ at I4 ⊢;have ha4:s₄.heap.get? acc=some (LCg.lst []):=by rw [<- hs4];exact kp4 _ _ ha3'
 have tn4:tn 0 s₄.heap:=T.keep 0 _ _ tn3 fun b hb o e=>by rw [<- hs4];exact kp4 b o e
 have Cne:acc≠s₃.heap.objs.size:=by rw [sz3'];exact Nat.ne_of_lt (Nat.lt_succ_self _)
 have celln:∀ b∈acc::fp,∀ x c,(zco X scope s₃.heap.objs.size).cells.lookup x=some c->c≠b:=fun b hb=>(I4.ok.exf b hb).2;have stat:∀ {H':Hp} {o:Obj},(∀ b∈fp,H' b=none)->∀ b∈fp,z6g (zX X N' scope (acc::fp) s₃ H2) [(acc,o)] H' b:=fun {H' o} hn b hb=> ⟨hn b hb,Nat.ne_of_lt (by show b<s₃.heap.objs.size;rw [sz3'];exact Nat.lt_succ_of_lt (flt b hb)),fun hf=>I4.ok.exfs b (List.mem_cons_of_mem _ hb) hf,.inl (List.mem_cons_of_mem _ hb),celln b (List.mem_cons_of_mem _ hb),fun p hp=>by
   have e:p=(acc,o):=by simpa [zX] using hp
   rw [e];exact Ne.symm (fne b hb)⟩;have pinA:∀ {O':St} {H':Hp} {s':Shared} {its:List Value},Inv (zX X N' scope (acc::fp) s₃ H2) [] O' H' s'->H' acc=none->s'.heap.get? acc=some (LCg.lst its)->Inv (zX X N' scope (acc::fp) s₃ H2) [(acc,LCg.lst its)] O' H' s':=fun {O' H' s' its} J' n' e'=> J'.pins_of fun p hp=>by
   have e:p=(acc,LCg.lst its):=by simpa using hp
   subst e;refine ⟨e',n',Cne,fun hf=>I4.ok.exfs acc List.mem_cons_self hf,fun v z=>?_⟩;have z':Data.seq _ _=Data.cell v:=z;cases z'
 obtain ⟨m0,w0⟩:=w0;have loop:codeAny (model X.prog X.w) X.A (.compLoop (.ListComp elt [⟨tg,iter,ifs,0⟩] scope pos) 0 (.ref it) (.ref acc) (zco X scope s₃.heap.objs.size)) (RR (.ref acc) s₃.heap.objs.size) s₄:=by
  refine z50 (fun n s'=>∃ i ys its H',Inv (zX X N' scope (acc::fp) s₃ H2) [] (inner mp O) H' s'/\tn i s'.heap/\(∀ b∈fp,H' b=none)/\H' acc=none/\s'.heap.get? acc=some (LCg.lst its)/\xF ys its/\W i n ys H') ?_ m0 ⟨0,[],[],H2,I4,tn4,fun b hb=>(f2 b hb).1,hf2,ha4,.nil,w0⟩;rintro n s5 ⟨i,ys,its,H5,I5,tn5,n5,na5,ea5,rv5,w5⟩;have I5':=pinA I5 na5 ea5;rcases turn i n ys H5 w5 with ⟨stop,hz,q⟩ | ⟨go,step⟩
  ·refine wpAny_mono (T.done (zX X N' scope (acc::fp) s₃ H2) rfl rfl rfl hc i _ s5 _ H5 (fun _ _=>False) I5' (stat n5) tn5 stop) (fun r s6 ⟨hr,I6⟩=>?_) fun _ _ z=>z;subst hr;have ea6:=(I6.pin (acc,LCg.lst its) (by simp)).1;have un:Un (frs X.stack) (acc::fp) H2 H5 s₃.heap s6.heap:=I6.base;have I7:Inv X pins O H5 s6:=I3.call' (s':=s6) (I6.os) un I6.hok I6.bare fun b hb=>by
    rcases List.mem_cons.mp hb with z | hb;·subst z;exact ⟨fA.2.2.2.1,fA.2.1,fA.2.2.2.2.1,fA.2.2.2.2.2⟩
    ·exact ⟨(f2 b hb).2.2.2.1,(f2 b hb).2.1,(f2 b hb).2.2.2.2.1,(f2 b hb).2.2.2.2.2⟩
   have C7:z6g X pins H5 s₃.heap.objs.size:=I3.fpOk (Nat.le_refl _) I6.free;refine hRR _ _ s6 ⟨.ref acc,upd H5 acc (.lst ys),I7.track ⟨na5,fA.2⟩ ?_,rfl,q acc na5,?_,?_,C7.2⟩;·exact ⟨hz,its,_,rv5,ea6⟩
   ·obtain ⟨m,hm,_⟩:=I6.loc;exact ⟨m,hm⟩
   ·rw [zH (Ne.symm Cne)];exact I6.free
  ·refine wpAny_mono (T.item (zX X N' scope (acc::fp) s₃ H2) rfl rfl rfl hc i _ s5 _ H5 (fun _ _=>False) I5' (stat n5) tn5 go) (fun r s6 ⟨u,hr,h6⟩=>?_) fun _ _ z=>z;subst hr;refine wpAny_mono h6 (fun _ s7 ⟨x,H7,I7,r7,y7,tn7,n7⟩=>?_) fun _ _ z=>z;have I7':=I7.pinned (stat n7) (T.obj _ _ tn7);refine wpAny_mono (hg _ _ _ _ s7 (inner mp O) H7 x u _ I7' r7 (step x H7 y7)) (fun _ s8 ⟨O8,H8,I8,⟨kl,kv⟩,q8⟩=>?_) fun _ _ z=>z;refine wpAny_mono (ht _ _ _ _ s8 O8 H8 _ I8 q8) (fun b s9 ⟨H9,I9,q9⟩=>?_) fun _ _ z=>z;have pinB:∀ {O':St} {H':Hp} {s':Shared},Inv (zX X N' scope (acc::fp) s₃ H2) ([(acc,LCg.lst its)]++z5M fp s7.heap) O' H' s'->(∀ b∈fp,H' b=none)/\H' acc=none/\s'.heap.get? acc=some (LCg.lst its)/\tn (i+1) s'.heap/\∀ b∈fp,∀ o,s7.heap.get? b=some o->s'.heap.get? b=some o:=fun {O' H' s'} J'=>by
    have z:=J'.pin (acc,LCg.lst its) (by simp [zX]);have zz:∀ b∈fp,∀ o,s7.heap.get? b=some o->s'.heap.get? b=some o/\H' b=none:=fun b hb o e=>by
     have y:=J'.pin (b,o) (List.mem_append_right _ (List.mem_append_right _ (z0g hb e)));exact ⟨y.1,y.2.1⟩
    refine ⟨fun b hb=>?_,z.2.1,z.1,T.keep _ _ _ tn7 fun b hb o e=>(zz b hb o e).1,fun b hb o e=>(zz b hb o e).1⟩;obtain ⟨o,e,_⟩:=T.obj _ _ tn7 b hb;exact (zz b hb o e).2
   cases b with
   | false=>
    rw [if_neg (by decide)] at q9 ⊢;obtain ⟨m',lt,w9⟩:=q9;obtain ⟨z1,z2,z3,z4,_⟩:=pinB I9;exact ⟨m',lt,i+1,ys,its,H9,(I9.pins_of (pins':=[]) (fun p hp=>absurd hp (by simp))).weak kl.symm kv,z4,z1,z2,z3,rv5,w9⟩ | true=>
    rw [if_pos rfl] at q9 ⊢;refine wpAny_mono (he _ _ _ _ s9 O8 H9 _ I9 q9) (fun yv s10 ⟨y,H10,I10,r10,hz,m',lt,w10⟩=>?_) fun _ _ z=>z;obtain ⟨z1,z2,z3,z4,_⟩:=pinB I10;have zl:its.toArray.size<=sizeLine:=by rw [List.size_toArray,<- rv5.length];exact hz
    refine append_at (hsz:=zl) z3 fun h11 sb ea11=>?_;have I10':=(I10.pins_of (pins':=[]) (fun p hp=>absurd hp (by simp))).weak kl.symm kv;have I11:Inv (zX X N' scope (acc::fp) s₃ H2) [] (inner mp O) H10 {s10 with heap:=h11}:=I10'.turned (t':=s10.toks) (fun b o hb e=>(sb.2 b hb).trans e) z2 Cne (.inl List.mem_cons_self) (celln acc List.mem_cons_self) (fun p hp=>absurd hp (by simp [zX]));exact ⟨m',lt,i+1,ys++[y],its++[yv],H10,I11,T.keep _ _ _ z4 (fun b hb o e=>(sb.2 b (fne b hb)).trans e),z1,z2,ea11.trans (congrArg some (LCg.lst_snoc its yv)),rv5.append (.cons r10 .nil),w10⟩
 exact codeAny_compStart_list loop (T.self _ 0 _ _ _ tn4 loop)
section
variable {X:Cx}{tg iter elt:Expr}{ifs:List Expr}{scope:Scope}{pos spos py:Pos}{wi:TI}{g:TG}{ti:TT}{te:TE}{N':List Str}{mp:List (Option Nat)}
theorem kq{pins:List (Addr×Obj)}{O:St}{H:Hp}{s:Shared}{h':Heap}{C:Addr}(I:Inv X pins O H s)(f:z6g X pins H C)(sb:Heap.SameBut C s.heap h'):Inv X pins O H {s with heap:=h'}:= I.turned (t':=s.toks) (fun b o hb e=>(sb.2 b hb).trans e) f.1 f.2.1 f.2.2.2.1 f.2.2.2.2.1 f.2.2.2.2.2
theorem zeG (N':List Str) (mp:List (Option Nat)) (hc:X.calm=true) (hi:PI X tg iter wi) (hg:∀ ex s H,PG (zX X N' scope ex s H) tg g) (ht:∀ ex s H,z7l (zX X N' scope ex s H) ifs ti) (he:∀ ex s H,PE (zX X N' scope ex s H) elt te) (hkd:scope.kind=.function) (hnm:∀ y∈scope.names,scope.names.lookup y.1=some y.2) (hfr:∀ y∈scope.names,y.2=.free->X.env.kindOf y.1=some .cell\/X.env.kindOf y.1=some .free) (hmp:z3v X.N scope.names N' mp=true) (hs:∀ x,foldedSetIterable iter X.env x=pure x:=by intro _;rfl):PE X (.ListComp elt [⟨tg,iter,ifs,0⟩] scope pos) (zch wi mp g ti te):=by
 intro pins s O H Q I h;rw [eval_ListComp];refine wpAny_comprehension_free (use:=none) rfl hs (qm fun y hy hf=>I.ok.has _ (hfr y hy hf)) hkd (fun y hy hl=>by rw [hnm y hy,hl]) (thn (hi pins s O H _ I h) fun xv s₁ h₁=>thn h₁ fun itv s₂ h₂=>?_);obtain ⟨it,fp,tn,J,H2,e,I2,T,st2,f2,W,w0,turn⟩:=h₂;subst e;refine z04 (N':=N') (mp:=mp) (O:=O) (pins:=pins) (Q:=Q) (RR:=fun acc C=>compPost (model X.prog X.w) X.A X.xe none (EP X pins O Q) acc C) hc hg ht he hkd hnm hfr hmp I2 T st2 f2 W w0 turn ?_;rintro acc C s' ⟨v,Hf,I3,r,q,⟨m,hm⟩,f⟩;exact ⟨m,hm,fun h' sb=>⟨v,Hf,kq I3 f sb,r,q⟩⟩
theorem z8p {i:Nat} {y:Str} (N':List Str) (mp:List (Option Nat)) (hN:X.N.Nodup) (hy:X.N[i]? = some y) (hyl:Loc X.env.scope y) (hc:X.calm=true) (hi:PI X tg iter wi) (hg:∀ ex s H,PG (zX X N' scope ex s H) tg g) (ht:∀ ex s H,z7l (zX X N' scope ex s H) ifs ti) (he:∀ ex s H,PE (zX X N' scope ex s H) elt te) (hkd:scope.kind=.function) (hnm:∀ y∈scope.names,scope.names.lookup y.1=some y.2) (hfr:∀ y∈scope.names,y.2=.free->X.env.kindOf y.1=some .cell\/X.env.kindOf y.1=some .free) (hmp:z3v X.N scope.names N' mp=true) (hs:∀ x,foldedSetIterable iter X.env x=pure x:=by intro _;rfl) (hsw:swapsWith (.ListComp elt [⟨tg,iter,ifs,0⟩] scope pos) (some (.Name y py)) spos.line X.env=pure true:=by rfl) (hf:X.fn y=true\/X.env.scope.names.lookup y=some .local:=by first | exact .inl rfl | exact .inr rfl | assumption): PS X (.Assign [.Name y py] (.ListComp elt [⟨tg,iter,ifs,0⟩] scope pos) spos) (ziC (zch wi mp g ti te) (z8X i)):=by
 intro pins s O H D I h;rw [exec_Assign_Name_used _ _ _ _ hsw];refine wpAny_bind (wpAny_standAt (wpAny_bind ?_));show wpAny _ X.A (do let _ <- comprehension (.ListComp elt [⟨tg,iter,ifs,0⟩] scope pos) scope X.env _ (newList []) false (eval iter X.env) (some (assign (.Name y py) X.env))) _ _ s;refine wpAny_bind (wpAny_mono (wpAny_comprehension_free (use:=some (assign (.Name y py) X.env)) (Q:=fun _ s'=>SP X pins D .next s') rfl hs (qm fun y hy hf=>I.ok.has _ (hfr y hy hf)) hkd (fun y hy hl=>by rw [hnm y hy,hl]) (thn (hi pins s O H _ I h) fun xv s₁ h₁=>thn h₁ fun itv s₂ h₂=>?_)) (fun _ s' hq=>wpAny_pure (wpAny_pure hq)) fun _ _ e=>e);obtain ⟨it,fp,tn,J,H2,e,I2,T,st2,f2,W,w0,turn⟩:=h₂;subst e;refine z04 (N':=N') (mp:=mp) (O:=O) (pins:=pins) (Q:=fun v H'=>D.nx (O.set i (some v)) H') (RR:=fun acc C=>compPost (model X.prog X.w) X.A X.xe (some (assign (.Name y py) X.env)) (fun _ s'=>SP X pins D .next s') acc C) hc hg ht he hkd hnm hfr hmp I2 T st2 f2 W w0 turn ?_;rintro acc C s' ⟨v,Hf,I3,r,q,⟨m,hm⟩,f⟩;refine wpAny_assign_Name (z1t I3 hN hy hyl r (fun s'' I4 ⟨a,sb,ha⟩=>?_) hf);have hC:C≠a:=by
  rcases ha with z | z;·rw [z];exact f.2.1
  ·exact Ne.symm (f.2.2.2.2.1 y a z)
 exact ⟨m,hm.sameBut sb hC,fun h' sb'=>⟨_,Hf,kq I4 f sb',q⟩⟩
end
section
variable {κ:Type} [DecidableEq κ]
def zdV(kvs:List (κ×V))(k:κ):Option V:=(kvs.find? fun kv=>decide (kv.1=k)).map (·.2)
def z3n(kvs:List (κ×V))(k:κ)(v:V):List (κ×V):= if (kvs.any fun kv=>decide (kv.1=k))=true then kvs.map (fun kv=>if kv.1=k then (kv.1,v) else kv) else kvs++[(k,v)]
theorem z7t{p:κ×V}{r:List (κ×V)}{k:κ}(e:p.1=k):zdV (p::r) k=some p.2:=by simp [zdV,List.find?_cons,e]
theorem z7Z{p:κ×V}{r:List (κ×V)}{k:κ}(e:¬ p.1=k):zdV (p::r) k=zdV r k:=by simp [zdV,List.find?_cons,e]
theorem z7R(k:κ):∀ kvs:List (κ×V),(kvs.any fun kv=>decide (kv.1=k))=(zdV kvs k).isSome
 | []=>rfl | p::r=>by
  rw [List.any_cons];by_cases e:p.1=k;·simp only [z7t e,decide_eq_true e,Bool.true_or,Option.isSome_some]
  ·rw [z7Z e,decide_eq_false e,Bool.false_or];exact z7R k r
theorem z2i(kvs:List (κ×V))(k:κ)(v:V):(z3n kvs k v).length<=kvs.length+1:=by
 unfold z3n;split;·rw [List.length_map];omega
 ·rw [List.length_append,List.length_cons,List.length_nil];omega
theorem zf5.isSome_eq{o:Option V}{u:Option Value}(r:zf5 o u):o.isSome=u.isSome:=by cases o with
 | none=>cases u with
  | none=>rfl | some _=>exact (show False from r).elim
 | some _=>cases u with
  | none=>exact (show False from r).elim | some _=>rfl
theorem KV.any{kvs:List (κ×V)}{vs:List (κ×Value)}(r:KV kvs vs)(k:κ):(kvs.any fun kv=>decide (kv.1=k))=vs.any fun kv=>decide (kv.1=k):=by
 unfold KV at r;induction r with
 | nil=>rfl | cons h t ih=>rw [List.any_cons,List.any_cons,ih,h.1]
theorem KV.repl{kvs:List (κ×V)}{vs:List (κ×Value)}(r:KV kvs vs)(k:κ){y:V}{u:Value}(ry:xx y u): KV (kvs.map fun kv=>if kv.1=k then (kv.1,y) else kv) (vs.map fun kv=>if kv.1=k then (kv.1,u) else kv):=by
 unfold KV at r ⊢;induction r with
 | nil=>exact .nil | @cons p q ps qs h t ih=>
  rw [List.map_cons,List.map_cons];refine .cons ?_ ih;obtain ⟨h1,h2⟩:=h;by_cases e:p.1=k;·rw [if_pos e,if_pos (h1.symm.trans e)];exact ⟨h1,ry⟩
  ·rw [if_neg e,if_neg (fun z=>e (h1.trans z))];exact ⟨h1,h2⟩
theorem KV.put{kvs:List (κ×V)}{vs:List (κ×Value)}(r:KV kvs vs)(k:κ){y:V}{u:Value}(ry:xx y u):KV (z3n kvs k y) (stored vs k u):=by
 unfold z3n stored;rw [r.any k];by_cases e:(vs.any fun kv=>decide (kv.1=k))=true;·rw [if_pos e,if_pos e];exact r.repl k ry
 ·rw [if_neg e,if_neg e];exact Paired.snoc r ⟨rfl,ry⟩
theorem KV.length{kvs:List (κ×V)}{vs:List (κ×Value)}(r:KV kvs vs):kvs.length=vs.length:=Paired.length r
end
theorem zhm{P:Program}{w:World}{k:Key}{u:Value}(r:xx (kV k) u):(yd P w).is k u=true:=by cases k with
 | inl i=>obtain ⟨t,e⟩:=(show ∃ t,u=Value.int i t from r);subst e;exact z73 P w i t | inr x=>obtain ⟨t,e⟩:=(show ∃ t,u=Value.str x t from r);subst e;exact z1u P w x t
theorem z54{P:Program}{w:World}:∀ {ks:List Key}{us:List Value},xF (ks.map kV) us->ItemsAre (yd P w) ks us
 | [],_,r=>by rw [List.map_nil] at r;cases r;exact .nil | k::ks,_,r=>by
  rw [List.map_cons] at r;cases r with | cons h t=>exact .cons (zhm h) (z54 t)
abbrev KT(H:Hp):List (List Key×V)->List (List Key×Addr×Value)->Prop:=Paired fun p q=>p.1=q.1/\H q.2.1=some (.tup (p.1.map kV))/\xx p.2 q.2.2
theorem KT.val{H:Hp}{kvs:List (List Key×V)}{xs:List (List Key×Addr×Value)}(r:KT H kvs xs)(k:List Key):zf5 (zdV kvs k) ((atKey xs k).map (·.2)):=by induction r with
 | nil=>exact True.intro | @cons p q ps qs h t ih=>
  obtain ⟨h1,_,h2⟩:=h;by_cases e:p.1=k
  ·have e':q.1=k:=h1.symm.trans e;have b:atKey (q::qs) k=some q.2:=by simp [atKey,List.find?_cons,e']
   rw [z7t e,b];exact h2
  ·have e':¬ q.1=k:=fun z=>e (h1.trans z);have b:atKey (q::qs) k=atKey qs k:=by simp [atKey,List.find?_cons,e']
   rw [z7Z e,b];exact ih
theorem KT.repl{H:Hp}{kvs:List (List Key×V)}{xs:List (List Key×Addr×Value)}(r:KT H kvs xs)(k:List Key){y:V}{u:Value}(ry:xx y u): KT H (kvs.map fun kv=>if kv.1=k then (kv.1,y) else kv) (xs.map (putAt k u)):=by induction r with
 | nil=>exact .nil | @cons p q ps qs h t ih=>
  rw [List.map_cons,List.map_cons];refine .cons ?_ ih;obtain ⟨h1,h2,h3⟩:=h;unfold putAt;by_cases e:p.1=k;·rw [if_pos e,if_pos (h1.symm.trans e)];exact ⟨h1,h2,ry⟩
  ·rw [if_neg e,if_neg (fun z=>e (h1.trans z))];exact ⟨h1,h2,h3⟩
theorem KT.put{H:Hp}{kvs:List (List Key×V)}{xs:List (List Key×Addr×Value)}(r:KT H kvs xs)(k:List Key){b:Addr}{y:V}{u:Value}(hb:H b=some (.tup (k.map kV)))(ry:xx y u): KT H (z3n kvs k y) (storedH xs k b u):=by
 have e:(kvs.any fun kv=>decide (kv.1=k))=(atKey xs k).isSome:=by rw [z7R,(r.val k).isSome_eq,Option.isSome_map]
 unfold z3n storedH;rw [e];by_cases q:(atKey xs k).isSome=true;·rw [if_pos q,if_pos q];exact r.repl k ry
 ·rw [if_neg q,if_neg q];exact Paired.snoc r ⟨rfl,hb,ry⟩
theorem KT.keeps{H H':Hp}{kvs:List (List Key×V)}{xs:List (List Key×Addr×Value)}(r:KT H kvs xs)(ht:∀ b ys,H b=some (.tup ys)->H' b=some (.tup ys)):KT H' kvs xs:= Paired.mapP r fun _ _ z=>⟨z.1,ht _ _ z.2.1,z.2.2⟩
section
variable {P:Program}{w:World}{H:Hp}{h:Heap}{a:Addr}
theorem zfH{u:HO}(ok:HOk P w H h)(e:Rd H a u):wB P w H h a u:=e.ok ok
theorem zhN{kvs:List (Key×V)}(ok:HOk P w H h)(e:Rd H a (.dK kvs)):kvs.length<=sizeLine/\(a==sysModules)=false/\∃ vs,KV kvs vs/\h.DictOf (yd P w) a vs:= show wB P w H h a (.dK kvs) from zfH ok e
theorem zhW{kvs:List (Key×V)}(ok:HOk P w H h)(e:H a=some (.dK kvs)):kvs.length<=sizeLine/\(a==sysModules)=false/\∃ vs,KV kvs vs/\h.DictOf (yd P w) a vs:=zhN ok (.inl e)
theorem zd0{ks:List Key}(ok:HOk P w H h)(e:H a=some (.tup (ks.map kV))):(tupleKind (yd P w)).is h ks a:=by
 obtain ⟨_,its,r,o,h1,h2,_,n,h3⟩:=(show wB P w H h a (.tup (ks.map kV)) from ok a _ e);exact ⟨o,its.toArray,n,h1,h2,h3,by simpa using z54 r⟩
theorem zim{kvs:List (List Key×V)}(ok:HOk P w H h)(e:Rd H a (.dT kvs)):kvs.length<=sizeLine/\(a==sysModules)=false/\ ∃ xs,KT H kvs xs/\h.DictOfH (tupleKind (yd P w)) a xs:=by
 obtain ⟨z,y,xs,r,o,es,ep,h1,h2,h3,h4,h5⟩:=(show wB P w H h a (.dT kvs) from zfH ok e);refine ⟨z,y,xs,r,o,es,ep,h1,h2,h3,h4,fun x hx=>?_,h5⟩;have all:∀ {l:List (List Key×V)}{m:List (List Key×Addr×Value)},KT H l m->∀ x∈m,(tupleKind (yd P w)).is h x.1 x.2.1:=by
  intro l m q;induction q with
  | nil=>intro x hx;exact nomatch hx | @cons p q ps qs hq t ih=>
   intro x hx;rcases List.mem_cons.mp hx with e | hx
   ·subst e;exact zd0 ok (by rw [<- hq.1];exact hq.2.1)
   ·exact ih x hx
 exact all r x hx
theorem zfr{kvs:List (List Key×V)}(ok:HOk P w H h)(e:H a=some (.dT kvs)):kvs.length<=sizeLine/\(a==sysModules)=false/\ ∃ xs,KT H kvs xs/\h.DictOfH (tupleKind (yd P w)) a xs:=zim ok (.inl e)
end
def zgU(H:Hp)(a:Addr)(y v:V)(H':Hp):Prop:= (∃ kvs k,H a=some (.dK kvs)/\y=kV k/\kvs.length<sizeLine/\H'=upd H a (.dK (z3n kvs k v)))\/ ∃ kvs k b,H a=some (.dT kvs)/\y=.ref b/\H b=some (.tup (k.map kV))/\kvs.length<sizeLine/\H'=upd H a (.dT (z3n kvs k v))
theorem zgU.t{H:Hp}{a b:Addr}{kvs:List (List Key×V)}{k:List Key}{v:V}(e:H a=some (.dT kvs))(eb:H b=some (.tup (k.map kV)))(hl:kvs.length<sizeLine): zgU H a (.ref b) v (upd H a (.dT (z3n kvs k v))):=.inr ⟨kvs,k,b,e,rfl,eb,hl,rfl⟩
section
variable {X:Cx}{pins:List (Addr×Obj)}{O:St}{H:Hp}{s:Shared}{a:Addr}{y v:V}{u r:Value}{o:Option V}{A:Around}{E:Value->Shared->Prop}
theorem Inv.big(I:Inv X pins O H s):sysModules<s.heap.objs.size:=by
 have h:mainGlobals<s.heap.objs.size:=(I.mod.glob.keeps I.bk).lt;exact Nat.lt_trans (by decide) h
theorem z9G {h':Heap} {t':Nat} {ob:HO} (I:Inv X pins O H s) (mu:Mut (H a)) (hs:Heap.SameBut a s.heap h') (he:∃ q,h'.get? a=some q) (new:wB X.prog X.w (upd H a ob) h' a ob): Inv X pins O (upd H a ob) {s with heap:=h',toks:=t'}:= I.write (x:=a) (e:=a) mu (.inl rfl) (fun b q hb z=>(hs.2 b hb).trans z) he new
theorem zgG{P:Program}{w:World}{H':Hp}{h':Heap}{kvs:List (Key×V)}{vs:List (Key×Value)}(z:kvs.length<=sizeLine)(hd:(a==sysModules)=false)(rel:KV kvs vs)(dd:h'.DictOf (yd P w) a vs): wB P w H' h' a (.dK kvs):=⟨z,hd,vs,rel,dd⟩
theorem z9Y{H':Hp}{Q:Unit->Shared->Prop}(hu:A.units+1<cLine)(I:Inv X pins O H s)(g:zgU H a y v H')(ry:xx y u)(rv:xx v r)(h:∀ s',Inv X pins O H' s'->Q () s'): wpAny (model X.prog X.w) A (setItem (.ref a) u r) Q E s:=by
 rcases g with ⟨kvs,k,e,ey,l,eH⟩ | ⟨kvs,k,b,e,ey,eb,l,eH⟩
 ·subst ey eH;obtain ⟨z,hd,vs,rel,dd⟩:=zhW I.hok e;have hz:vs.length<=sizeLine:=by rw [<- rel.length];exact z
  have hl:(z3n kvs k v).length<=sizeLine:=by have:=z2i kvs k v;omega
  refine wpAny_setItem_pairs (hsz:=hz) (zhm ry) dd fun h' dd' hs=>h _ ?_;have he:∃ q,h'.get? a=some q:=let ⟨q,_,_,hq,_⟩:=dd';⟨q,hq⟩;exact z9G I (by rw [e];exact True.intro) hs he (zgG hl hd (rel.put k rv) dd')
 ·subst ey eH;cases (show u=Value.ref b from ry);obtain ⟨z,hd,xs,rel,dd⟩:=zfr I.hok e;have hz:xs.length<=sizeLine:=by rw [<- Paired.length rel];exact z
  have hl:(z3n kvs k v).length<=sizeLine:=by have:=z2i kvs k v;omega
  refine wpAny_setItem_heap (hsz:=hz) (tupleKind_room_in1 hu) (zd0 I.hok eb) dd fun h' dd' hs=>h _ ?_;obtain ⟨q,es,ep,hq,h2,h3,h4,_,h5⟩:=dd';refine z9G I (by rw [e];exact True.intro) hs ⟨q,hq⟩ ⟨hl,hd,_,(rel.put k eb rv).keeps fun c ys ec=>?_,q,es,ep,hq,h2,h3,h4,h5⟩;rw [zH (zit ec e (fun z=>nomatch z))];exact ec
end
def zi0(td ty tv:TE):TS:=fun D O H=>tv O H fun v H1=>td O H1 fun x H2=>ty O H2 fun y H3=>∃ a H4,x=.ref a/\zgU H3 a y v H4/\D.nx O H4
section
variable {X:Cx}{o i e value:Expr}{pos pos' tpos:Pos}{td ty tv:TE}
theorem zew(hu:X.A.units+1<cLine)(ho:PE X o td)(hi:PE X i ty)(hv:PE X value tv)(hs:swapsWith value (some (.Subscript o i pos')) pos.line X.env=pure false): PS X (.Assign [.Subscript o i pos'] value pos) (zi0 td ty tv):=by
 intro pins s O H D I h;refine wpAny_Assign_Subscript (thn (hv pins s O H _ I h) fun r s1 ⟨v,H1,I1,rv,q1⟩=>thn (ho pins s1 O H1 _ I1 q1) fun u s2 ⟨x,H2,I2,rx,q2⟩=>thn (hi pins s2 O H2 _ I2 q2) fun iv s3 ⟨y,H3,I3,ry,a,H4,ex,g,q3⟩=>?_) hs;subst ex;obtain rfl:u=Value.ref a:=rx;exact z9Y hu I3 g ry rv fun s4 I4=>⟨O,H4,I4,q3⟩
end
theorem zbX{P:Program}{w:World}{H:Hp}(h:Heap)(hb:sysModules<h.objs.size):wB P w H (h.push {cls:=.type "dict",data:=.dict #[]}) h.objs.size (.dT []):= ⟨Nat.zero_le _,beq_eq_false_iff_ne.mpr (Ne.symm (Nat.ne_of_lt hb)),[],.nil,_,#[],0,Heap.get?_push_size _ rfl,⟨rfl,rfl,rfl⟩,rfl,rfl,List.nodup_nil⟩
def zfX:TE:=fun _ H Q=>∀ p,H p=none->Q (.ref p) (upd H p (.dT []))
section
variable {X:Cx}{pos:Pos}
theorem zbs:PE X (.Dict [] [] pos) zfX:=fun pins s O H Q I h=> wpAny_Dict_empty ⟨.ref s.heap.objs.size,_,I.laid (a:=s.heap.objs.size) (o:=.dT []) (t':=s.toks) (fun _ _ q=>Heap.get?_push_of_some _ q) (Nat.le_refl _) (zbX s.heap I.big),rfl,h _ (I.hok.fresh (Nat.le_refl _))⟩
end
end L2
set_option maxHeartbeats 4000000
namespace Dd
open PySem.Spec L2
theorem zcs(xs:List Expr)(k:Nat)(p:Pos)(es:List Expr)(env:Env):starEach (.Tuple xs k p::es) env=(false,eval (.Tuple xs k p) env)::starEach es env:=rfl
theorem zbA(xs:List Expr)(p:Pos)(es:List Expr)(env:Env):starEach (.List xs p::es) env=(false,eval (.List xs p) env)::starEach es env:=rfl
theorem uN(f:Expr)(xs:List Expr)(ks:List Keyword)(p:Pos)(es:List Expr)(env:Env):starEach (.Call f xs ks p::es) env=(false,eval (.Call f xs ks p) env)::starEach es env:=rfl
theorem z7w(a:Expr)(o:Operator)(b:Expr)(p:Pos)(es:List Expr)(env:Env):starEach (.BinOp a o b p::es) env=(false,eval (.BinOp a o b p) env)::starEach es env:=rfl
theorem z4h(a b:Expr)(p:Pos)(es:List Expr)(env:Env):starEach (.Subscript a b p::es) env=(false,eval (.Subscript a b p) env)::starEach es env:=rfl
theorem zI(a:Expr)(g:List Comprehension)(sc:Scope)(p:Pos)(es:List Expr)(env:Env):starEach (.ListComp a g sc p::es) env=(false,eval (.ListComp a g sc p) env)::starEach es env:=rfl
theorem z4x(a:Expr)(o:List CmpOp)(b:List Expr)(p:Pos)(es:List Expr)(env:Env):starEach (.Compare a o b p::es) env=(false,eval (.Compare a o b p) env)::starEach es env:=rfl
theorem z3l(c:Const)(j:Nat)(p:Pos)(es:List Expr)(env:Env):starEach (.Constant c j p::es) env=(false,eval (.Constant c j p) env)::starEach es env:=rfl
theorem zp(x:Str)(p:Pos)(es:List Expr)(env:Env):starEach (.Name x p::es) env=(false,eval (.Name x p) env)::starEach es env:=rfl
inductive D where | non | bl (b:Bool) | int (i:Int) | str (x:Str) | tup (xs:List D) | lst (xs:List D) | dct | loc (l:Nat) | dlo (l:Nat) | fn (x:Str) | exc (x:Str) | scr (xs:List D)
abbrev Sto:=List (List D)
abbrev Ev:=List (Option D)
inductive R(α:Type) where | ok (a:α)(s:Sto) | ex (c:Str)(s:Sto) | no
def R.bind{α β:Type}(r:R α)(k:α->Sto->R β):R β:=match r with
 | .ok a s=>k a s | .ex c s=>.ex c s | .no=>.no
@[simp] theorem R.bind_ok {α β:Type}(a:α)(s:Sto)(k:α->Sto->R β):(R.ok a s).bind k=k a s:=id rfl
@[simp] theorem R.bind_ex {α β:Type}(c:Str)(s:Sto)(k:α->Sto->R β):(R.ex c s:R α).bind k=.ex c s:=id rfl
@[simp] theorem R.bind_no {α β:Type}(k:α->Sto->R β):(R.no:R α).bind k=.no:=id rfl
def D.flat:D->Bool
 | .tup xs=>flats xs | .lst xs=>flats xs | .scr xs=>flats xs | .loc _=>false | .dlo _=>false | _=>true
where flats:List D->Bool
 | []=>true | x::xs=>x.flat&&flats xs
def zk3(C a:Addr):HO:=.ext fun h=>∃ o vs,h.get? a=some o/\o.cls=.ref C/\o.data=.fields vs
structure Gm where
 m:Str->Option Value
 K:W.Frag
abbrev gm(X:Cx):Gm:=⟨X.mg,X.K⟩
def IsL(H:Hp)(a:Addr):Prop:=∃ vs,H a=some (.lst vs)
def IsC(H:Hp)(a:Addr):Prop:=∃ kvs,H a=some (.dT kvs)
theorem IsL.notC{H:Hp}{a:Addr}(h:IsL H a)(h':IsC H a):False:=by obtain ⟨_,e⟩:=h;obtain ⟨_,e'⟩:=h';rw [e] at e';cases e'
def z6i:Key->D
 | .inl i=>.int i | .inr x=>.str x
def zc7:V->Option D
 | .int i=>some (.int i) | .bl b=>some (.bl b) | _=>none
def zeE:List D->List (List Key×V)->Prop
 | [],kvs=>kvs=[] | d::ds,kvs=>∃ k v x r,kvs=(k,v)::r/\zc7 v=some x/\d=.tup [.tup (k.map z6i),x]/\zeE ds r
def KL(K:W.Frag)(a:Addr)(xs:List V):Prop:=∃ (o:Obj)(its:Array Value)(n:Nat),K.lookup a=some o/\o.cls=.type "list"/\o.dict=none/\o.data=.seq its n/\its.size<=sizeLine/\xF xs its.toList
section
variable (mg:Gm)
mutual
def Den(H:Hp)(Y:List Addr):D->V->Prop
 | .non,v=>v=.non | .bl b,v=>v=.bl b | .int i,v=>v=.int i | .str x,v=>v=.str x | .tup ds,v=>∃ a vs,v=.ref a/\H a=some (.tup vs)/\zB H Y ds vs | .lst ds,v=>∃ a o vs,v=.ref a/\H a=some (.frz o (.lst vs))/\zB H Y ds vs | .dct,v=>∃ a,v=.ref a/\H a=some (.dK []) | .loc l,v=>∃ a,v=.ref a/\Y[l]? = some a/\IsL H a | .dlo l,v=>∃ a,v=.ref a/\Y[l]? = some a/\IsC H a | .fn x,v=>∃ a,v=.ref a/\mg.m x=some (.ref a) | .exc x,v=>∃ a C,v=.ref a/\mg.m x=some (.ref C)/\H a=some (zk3 C a) | .scr ds,v=>∃ a vs,v=.ref a/\((∃ o,H a=some (.frz o (.lst vs)))\/KL mg.K a vs)/\zB H Y ds vs
def zB(H:Hp)(Y:List Addr):List D->List V->Prop
 | [],vs=>vs=[] | d::ds,vs=>∃ v r,vs=v::r/\Den H Y d v/\zB H Y ds r
end
def uW(H:Hp)(Y:List Addr)(xs:List D)(a:Addr):Prop:=(∃ vs,H a=some (.lst vs)/\zB mg H Y xs vs)\/∃ kvs,H a=some (.dT kvs)/\zeE xs kvs
structure Rep(H:Hp)(Y:List Addr)(s:Sto):Prop where
 len:Y.length=s.length
 nd:Y.Nodup
 cell:∀ (l:Nat)(xs:List D),s[l]? = some xs->∃ a,Y[l]? = some a/\uW mg H Y xs a
 flat:∀ xs∈s,D.flat.flats xs=true
structure wG(H:Hp)(Y:List Addr)(H':Hp)(Y':List Addr)(s':Sto):Prop where
 rep:Rep mg H' Y' s'
 pre:Y <+: Y'
 keep:∀ b o,H b=some o->b∉Y->H' b=some o
 new:∀ a∈Y',a∉Y->H a=none
 mt:∀ a∈Y,(IsL H a/\IsL H' a)\/(IsC H a/\IsC H' a)
end
section
variable {mg:Gm}{H H' H1 H2:Hp}{Y Y' Y1 Y2:List Addr}{s s' s1 s2:Sto}
theorem uW.kind{xs:List D}{a:Addr}(h:uW mg H Y xs a):IsL H a\/IsC H a:=h.imp (fun ⟨vs,e,_⟩=>⟨vs,e⟩) fun ⟨k,e,_⟩=>⟨k,e⟩
theorem Rep.mt(r:Rep mg H Y s):∀ a∈Y,IsL H a\/IsC H a:=fun a ha=>by
 obtain ⟨l,hl,e⟩:=List.mem_iff_getElem.mp ha;have hl':l<s.length:=by rw [<- r.len];exact hl
 obtain ⟨b,e1,c⟩:=r.cell l s[l] (List.getElem?_eq_getElem hl');rw [List.getElem?_eq_getElem hl] at e1;have:Y[l]=b:=Option.some.inj e1;rw [<- e,this];exact c.kind
theorem Rep.at_(r:Rep mg H Y s){l:Nat}{xs:List D}{a:Addr}(h:s[l]? = some xs)(ha:Y[l]? = some a)(k:IsL H a):∃ vs,H a=some (.lst vs)/\zB mg H Y xs vs:=by
 obtain ⟨b,e1,c⟩:=r.cell l xs h;rw [ha] at e1;cases e1;rcases c with c | ⟨kvs,e,_⟩;·exact c
 ·exact (k.notC ⟨kvs,e⟩).elim
theorem Rep.dic(r:Rep mg H Y s){l:Nat}{xs:List D}{a:Addr}(h:s[l]? = some xs)(ha:Y[l]? = some a)(k:IsC H a):∃ kvs,H a=some (.dT kvs)/\zeE xs kvs:=by
 obtain ⟨b,e1,c⟩:=r.cell l xs h;rw [ha] at e1;cases e1;rcases c with ⟨vs,e,_⟩ | c;·exact (IsL.notC ⟨vs,e⟩ k).elim
 ·exact c
theorem wG.refl(r:Rep mg H Y s):wG mg H Y H Y s:=⟨r,List.prefix_refl _,fun _ _ h _=>h,fun a h1 h2=>absurd h1 h2,fun a ha=>(r.mt a ha).imp (fun h=>⟨h,h⟩) fun h=>⟨h,h⟩⟩
theorem wG.trans(a:wG mg H Y H1 Y1 s1)(b:wG mg H1 Y1 H2 Y2 s2):wG mg H Y H2 Y2 s2:=by
 refine ⟨b.rep,a.pre.trans b.pre,fun c o h n=>?_,fun c h1 h2=>?_,fun c hc=>?_⟩
 ·refine b.keep c o (a.keep c o h n) fun z=>?_;rw [a.new c z n] at h;cases h
 ·by_cases h3:c∈Y1;·exact a.new c h3 h2
  ·cases e:H c with
   | none=>rfl | some o=>rw [<- b.new c h1 h3,a.keep c o e h2]
 ·have hc1:c∈Y1:=a.pre.subset hc;rcases a.mt c hc with ⟨k1,k2⟩ | ⟨k1,k2⟩
  ·rcases b.mt c hc1 with ⟨_,q⟩ | ⟨q,_⟩;·exact .inl ⟨k1,q⟩
   ·exact (k2.notC q).elim
  ·rcases b.mt c hc1 with ⟨q,_⟩ | ⟨_,q⟩;·exact (q.notC k2).elim
   ·exact .inr ⟨k1,q⟩
theorem wG.stay(stp:wG mg H Y H' Y' s'){b:Addr}{o:HO}(h:H b=some o)(hn:∀ vs,o≠.lst vs)(hn2:∀ kvs,o≠.dT kvs:=by intro vs z;cases z):H' b=some o:=stp.keep b o h fun z=>by
 rcases stp.mt b z with ⟨⟨vs,e⟩,_⟩ | ⟨⟨vs,e⟩,_⟩
 ·rw [h] at e;exact hn vs (Option.some.inj e)
 ·rw [h] at e;exact hn2 vs (Option.some.inj e)
mutual
theorem Den.mono(stp:wG mg H Y H' Y' s'):∀ {d:D}{v:V},Den mg H Y d v->Den mg H' Y' d v
 | .non,_,h=>by simpa [Den] using h | .bl _,_,h=>by simpa [Den] using h | .int _,_,h=>by simpa [Den] using h | .str _,_,h=>by simpa [Den] using h | .tup ds,v,h=>by
  simp only [Den] at h ⊢;obtain ⟨a,vs,e,h1,h2⟩:=h;exact ⟨a,vs,e,stp.stay h1 (by intro vs z;cases z),zB.mono stp h2⟩ | .lst ds,v,h=>by
  simp only [Den] at h ⊢;obtain ⟨a,o,vs,e,h1,h2⟩:=h;exact ⟨a,o,vs,e,stp.stay h1 (by intro vs z;cases z),zB.mono stp h2⟩ | .dct,v,h=>by
  simp only [Den] at h ⊢;obtain ⟨a,e,h1⟩:=h;exact ⟨a,e,stp.stay h1 (by intro vs z;cases z)⟩ | .loc l,v,h=>by
  simp only [Den] at h ⊢;obtain ⟨a,e,h1,k⟩:=h;obtain ⟨t,ht⟩:=stp.pre;refine ⟨a,e,?_,?_⟩
  ·rw [<- ht,List.getElem?_append_left (List.getElem?_eq_some_iff.mp h1).1];exact h1
  ·rcases stp.mt a (List.mem_of_getElem? h1) with ⟨_,q⟩ | ⟨q,_⟩;·exact q
   ·exact (k.notC q).elim | .dlo l,v,h=>by
  simp only [Den] at h ⊢;obtain ⟨a,e,h1,k⟩:=h;obtain ⟨t,ht⟩:=stp.pre;refine ⟨a,e,?_,?_⟩
  ·rw [<- ht,List.getElem?_append_left (List.getElem?_eq_some_iff.mp h1).1];exact h1
  ·rcases stp.mt a (List.mem_of_getElem? h1) with ⟨q,_⟩ | ⟨_,q⟩;·exact (q.notC k).elim
   ·exact q | .fn _,_,h=>by simpa [Den] using h | .exc x,v,h=>by
  simp only [Den] at h ⊢;obtain ⟨a,C,e,h1,h2⟩:=h;exact ⟨a,C,e,h1,stp.stay h2 (by intro vs z;cases z)⟩ | .scr ds,v,h=>by
  simp only [Den] at h ⊢;obtain ⟨a,vs,e,h1,h2⟩:=h;exact ⟨a,vs,e,h1.imp (fun ⟨o,h1⟩=>⟨o,stp.stay h1 (by intro vs z;cases z)⟩) id,zB.mono stp h2⟩
theorem zB.mono(stp:wG mg H Y H' Y' s'):∀ {ds:List D}{vs:List V},zB mg H Y ds vs->zB mg H' Y' ds vs
 | [],_,h=>by simpa [zB] using h | d::ds,vs,h=>by
  simp only [zB] at h ⊢;obtain ⟨v,r,e,h1,h2⟩:=h;exact ⟨v,r,e,Den.mono stp h1,zB.mono stp h2⟩
end
theorem zB.length:∀ {ds:List D}{vs:List V},zB mg H Y ds vs->vs.length=ds.length
 | [],_,h=>by simp only [zB] at h;rw [h];rfl | d::ds,vs,h=>by
  simp only [zB] at h;obtain ⟨v,r,rfl,_,h2⟩:=h;simp [zB.length h2]
theorem zB.get:∀ {ds:List D}{vs:List V}{i:Nat}{d:D},zB mg H Y ds vs->ds[i]? = some d->∃ v,vs[i]? = some v/\Den mg H Y d v
 | [],_,_,_,_,e=>by simp at e | d::ds,vs,0,d',h,e=>by
  simp only [zB] at h;obtain ⟨v,r,rfl,h1,_⟩:=h;simp at e;subst e;exact ⟨v,by simp,h1⟩ | d::ds,vs,i+1,d',h,e=>by
  simp only [zB] at h;obtain ⟨v,r,rfl,_,h2⟩:=h;obtain ⟨u,h3,h4⟩:=zB.get (i:=i) h2 (by simpa using e);exact ⟨u,by simpa using h3,h4⟩
theorem zB.append:∀ {ds es:List D}{vs us:List V},zB mg H Y ds vs->zB mg H Y es us->zB mg H Y (ds++es) (vs++us)
 | [],_,_,_,h,h'=>by simp only [zB] at h;subst h;simpa using h' | d::ds,_,_,_,h,h'=>by
  simp only [zB] at h;obtain ⟨v,r,rfl,h1,h2⟩:=h;simp only [List.cons_append,zB];exact ⟨v,_,rfl,h1,zB.append h2 h'⟩
theorem zB.nil:zB mg H Y [] []:=by simp [zB]
theorem zB.cons {d:D} {ds:List D} {v:V} {vs:List V} (h:Den mg H Y d v) (h':zB mg H Y ds vs):zB mg H Y (d::ds) (v::vs):=by
 simp only [zB];exact ⟨v,vs,rfl,h,h'⟩
theorem zB.one{d:D}{v:V}(h:Den mg H Y d v):zB mg H Y [d] [v]:=.cons h .nil
theorem zB.take:∀ {ds:List D}{vs:List V}(n:Nat),zB mg H Y ds vs->zB mg H Y (ds.take n) (vs.take n)
 | ds,vs,0,h=>by simp [zB] | [],vs,n+1,h=>by simp only [zB] at h;subst h;simp [zB] | d::ds,vs,n+1,h=>by
  simp only [zB] at h;obtain ⟨v,r,rfl,h1,h2⟩:=h;simp only [List.take_succ_cons];exact .cons h1 (zB.take n h2)
theorem zB.drop:∀ {ds:List D}{vs:List V}(n:Nat),zB mg H Y ds vs->zB mg H Y (ds.drop n) (vs.drop n)
 | ds,vs,0,h=>by simpa using h | [],vs,n+1,h=>by simp only [zB] at h;subst h;simp [zB] | d::ds,vs,n+1,h=>by
  simp only [zB] at h;obtain ⟨v,r,rfl,h1,h2⟩:=h;simpa using zB.drop n h2
theorem zB.set:∀ {ds:List D}{vs:List V}{d:D}{v:V}(n:Nat),zB mg H Y ds vs->Den mg H Y d v->zB mg H Y (ds.set n d) (vs.set n v)
 | [],vs,_,_,n,h,_=>by simp only [zB] at h;subst h;simp [zB] | d::ds,vs,_,_,0,h,h'=>by
  simp only [zB] at h;obtain ⟨v,r,rfl,h1,h2⟩:=h;simpa using zB.cons h' h2 | d::ds,vs,_,_,n+1,h,h'=>by
  simp only [zB] at h;obtain ⟨v,r,rfl,h1,h2⟩:=h;simpa using zB.cons h1 (zB.set n h2 h')
mutual
theorem Den.flatten(k:∀ b o,H b=some o->(∀ vs,o≠.lst vs)->(∀ kvs,o≠.dT kvs)->H' b=some o):∀ {d:D}{v:V},d.flat=true->Den mg H Y d v->Den mg H' Y' d v
 | .non,_,_,h=>by simpa [Den] using h | .bl _,_,_,h=>by simpa [Den] using h | .int _,_,_,h=>by simpa [Den] using h | .str _,_,_,h=>by simpa [Den] using h | .tup ds,v,f,h=>by
  simp only [Den] at h ⊢;obtain ⟨a,vs,e,h1,h2⟩:=h;exact ⟨a,vs,e,k a _ h1 (by intro vs z;cases z) (by intro vs z;cases z),zB.flatten k (by simpa [D.flat] using f) h2⟩ | .lst ds,v,f,h=>by
  simp only [Den] at h ⊢;obtain ⟨a,o,vs,e,h1,h2⟩:=h;exact ⟨a,o,vs,e,k a _ h1 (by intro vs z;cases z) (by intro vs z;cases z),zB.flatten k (by simpa [D.flat] using f) h2⟩ | .dct,v,_,h=>by
  simp only [Den] at h ⊢;obtain ⟨a,e,h1⟩:=h;exact ⟨a,e,k a _ h1 (by intro vs z;cases z) (by intro vs z;cases z)⟩ | .loc l,v,f,h=>by simp [D.flat] at f | .dlo l,v,f,h=>by simp [D.flat] at f | .fn _,_,_,h=>by simpa [Den] using h | .exc x,v,_,h=>by
  simp only [Den] at h ⊢;obtain ⟨a,C,e,h1,h2⟩:=h;exact ⟨a,C,e,h1,k a _ h2 (by intro vs z;cases z) (by intro vs z;cases z)⟩ | .scr ds,v,f,h=>by
  simp only [Den] at h ⊢;obtain ⟨a,vs,e,h1,h2⟩:=h;exact ⟨a,vs,e,h1.imp (fun ⟨o,h1⟩=>⟨o,k a _ h1 (by intro vs z;cases z) (by intro vs z;cases z)⟩) id,zB.flatten k (by simpa [D.flat] using f) h2⟩
theorem zB.flatten(k:∀ b o,H b=some o->(∀ vs,o≠.lst vs)->(∀ kvs,o≠.dT kvs)->H' b=some o):∀ {ds:List D}{vs:List V},D.flat.flats ds=true->zB mg H Y ds vs->zB mg H' Y' ds vs
 | [],_,_,h=>by simpa [zB] using h | d::ds,vs,f,h=>by
  simp only [zB] at h ⊢;simp only [D.flat.flats,Bool.and_eq_true] at f;obtain ⟨v,r,e,h1,h2⟩:=h;exact ⟨v,r,e,Den.flatten k f.1 h1,zB.flatten k f.2 h2⟩
end
end
def okR{α β:Type}(mg:Gm)(E:XK)(H:Hp)(Y:List Addr)(Dn:Hp->List Addr->α->β->Prop)(r:R α)(Q:β->Hp->Prop):Prop:=match r with
 | .ok a s'=>∀ b H' Y',wG mg H Y H' Y' s'->Dn H' Y' a b->Q b H' | .ex c s'=>∀ H' Y' C,wG mg H Y H' Y' s'->mg.m c=some (.ref C)->E (.ref C) none H' | .no=>False
section
variable {α β α2 β2:Type}{mg:Gm}{E:XK}{H H' H1 H2:Hp}{Y Y' Y1 Y2:List Addr}{s s' s1 s2:Sto}{Dn:Hp->List Addr->α->β->Prop}{Dn2:Hp->List Addr->α2->β2->Prop}
theorem okR.rebase{r:R α}{Q:β->Hp->Prop}(h:okR mg E H Y Dn r Q)(stp:wG mg H Y H1 Y1 s1):okR mg E H1 Y1 Dn r Q:=by cases r with
 | ok a s'=>exact fun b H' Y' stp'=>h b H' Y' (stp.trans stp') | ex c s'=>exact fun H' Y' C stp'=>h H' Y' C (stp.trans stp') | no=>exact h
theorem okR.bind{r:R α}{k:α->Sto->R α2}{Q:β2->Hp->Prop}(h:okR mg E H Y Dn2 (r.bind k) Q): okR mg E H Y Dn r (fun b H1=>∃ Y1 s1 a,wG mg H Y H1 Y1 s1/\Dn H1 Y1 a b/\okR mg E H1 Y1 Dn2 (k a s1) Q):=by cases r with
 | ok a s'=>exact fun b H' Y' stp dn=>⟨Y',s',a,stp,dn,okR.rebase h stp⟩ | ex c s'=>exact h | no=>exact h
theorem okR.imp{r:R α}{Q Q':β->Hp->Prop}(h:okR mg E H Y Dn r Q)(i:∀ b H',Q b H'->Q' b H'):okR mg E H Y Dn r Q':=by cases r with
 | ok a s'=>exact fun b H' Y' stp dn=>i b H' (h b H' Y' stp dn) | ex c s'=>exact h | no=>exact h
theorem okR.here{a:α}{Q:β->Hp->Prop}{b:β}(h:okR mg E H Y Dn (.ok a s) Q)(r:Rep mg H Y s)(d:Dn H Y a b):Q b H:=h b H Y (.refl r) d
end
structure uf(mg:Gm)(H:Hp)(Y:List Addr)(Z:Ev)(O:L2.St):Prop where
 len:Z.length=O.length
 at_:∀ (i:Nat)(d:D),Z[i]? = some (some d)->∃ v,O[i]? = some (some v)/\Den mg H Y d v
theorem uf.mono{mg:Gm}{H H':Hp}{Y Y':List Addr}{s':Sto}{Z:Ev}{O:L2.St}(e:uf mg H Y Z O)(stp:wG mg H Y H' Y' s'):uf mg H' Y' Z O:= ⟨e.len,fun i d h=>let ⟨v,h1,h2⟩:=e.at_ i d h;⟨v,h1,h2.mono stp⟩⟩
theorem uf.set{mg:Gm}{H:Hp}{Y:List Addr}{Z:Ev}{O:L2.St}{d:D}{v:V}(e:uf mg H Y Z O)(h:Den mg H Y d v)(i:Nat):uf mg H Y (Z.set i (some d)) (O.set i (some v)):=by
 refine ⟨by simp [e.len],fun j d' hj=>?_⟩;by_cases hij:i=j
 ·subst hij;have hi:i<Z.length:=by
   have:=(List.getElem?_eq_some_iff.mp hj).1;simpa using this
  rw [List.getElem?_set_self hi] at hj;cases hj;exact ⟨v,by rw [List.getElem?_set_self (by rw [<- e.len];exact hi)],h⟩
 ·rw [List.getElem?_set_ne hij] at hj ⊢;exact e.at_ j d' hj
abbrev FE:=Ev->Sto->R D
abbrev FT:=Ev->Sto->R Bool
abbrev FA:=Ev->Sto->R (List D)
inductive Fl where | nx (Z:Ev) | rt (d:D) | bk (Z:Ev) | ct (Z:Ev)
inductive FlV where | nx (O:L2.St) | rt (v:V) | bk (O:L2.St) | ct (O:L2.St)
abbrev FS:=Ev->Sto->R Fl
def FlD(mg:Gm)(H:Hp)(Y:List Addr):Fl->FlV->Prop
 | .nx Z,.nx O=>uf mg H Y Z O | .rt d,.rt v=>Den mg H Y d v | .bk Z,.bk O=>uf mg H Y Z O | .ct Z,.ct O=>uf mg H Y Z O | _,_=>False
def z4y(D:zbT):FlV->Hp->Prop
 | .nx O,H=>D.nx O H | .rt v,H=>D.rt v H | .bk O,H=>D.bk O H | .ct O,H=>D.ct O H
def bD(_:Hp)(_:List Addr)(a b:Bool):Prop:=a=b
def tE(mg:Gm)(E:XK)(f:FE):TE:=fun O H Q=>∃ Y Z s,Rep mg H Y s/\uf mg H Y Z O/\okR mg E H Y (Den mg) (f Z s) Q
def tT(mg:Gm)(E:XK)(f:FT):TT:=fun O H Q=>∃ Y Z s,Rep mg H Y s/\uf mg H Y Z O/\okR mg E H Y bD (f Z s) Q
def tA(mg:Gm)(E:XK)(f:FA):TA:=fun O H Q=>∃ Y Z s,Rep mg H Y s/\uf mg H Y Z O/\okR mg E H Y (zB mg) (f Z s) Q
def tS(mg:Gm)(E:XK)(f:FS):TS:=fun D O H=>∃ Y Z s,Rep mg H Y s/\uf mg H Y Z O/\okR mg E H Y (FlD mg) (f Z s) (z4y D)
def RE(X:Cx)(E:XK)(e:Expr)(f:FE):Prop:=PE X e (tE (gm X) E f)
def RT(X:Cx)(E:XK)(e:Expr)(f:FT):Prop:=PT X e (tT (gm X) E f)
def RA(X:Cx)(E:XK)(es:List Expr)(f:FA):Prop:=PA X es (tA (gm X) E f)
def RS(X:Cx)(E:XK)(st:Stmt)(f:FS):Prop:=PS X st (tS (gm X) E f)
def RSs(X:Cx)(E:XK)(st:List Stmt)(f:FS):Prop:=PSs X st (tS (gm X) E f)
section
variable {X:Cx}{E:XK}{e a b c:Expr}{es:List Expr}{pos:Pos}
theorem yz{t t':TE}(h:PE X e t)(i:∀ O H Q,t' O H Q->t O H Q):PE X e t':=fun pins s O H Q I q=>h pins s O H Q I (i O H Q q)
theorem z9B{t t':TT}(h:PT X e t)(i:∀ O H Q,t' O H Q->t O H Q):PT X e t':=fun pins s O H Q I q=>h pins s O H Q I (i O H Q q)
theorem zcM{t t':TA}(h:PA X es t)(i:∀ O H Q,t' O H Q->t O H Q):PA X es t':=fun pos pins s O H Q I q=>h pos pins s O H Q I (i O H Q q)
theorem uV{st:Stmt}{t t':TS}(h:PS X st t)(i:∀ D O H,t' D O H->t D O H):PS X st t':=fun pins s O H D I q=>h pins s O H D I (i D O H q)
theorem z6n{st:List Stmt}{t t':TS}(h:PSs X st t)(i:∀ D O H,t' D O H->t D O H):PSs X st t':=fun pins s O H D I q=>h pins s O H D I (i D O H q)
theorem xb{α β:Type}{Dn:Hp->List Addr->α->β->Prop}{mg:Gm}{f:FE}{k:Ev->D->Sto->R α}{O:L2.St}{H:Hp}{Q:β->Hp->Prop}{Y:List Addr}{Z:Ev}{s:Sto}(r:Rep mg H Y s)(en:uf mg H Y Z O) (h:okR mg E H Y Dn ((f Z s).bind (k Z)) Q)(K:V->Hp->Prop) (hK:∀ v H1 Y1 s1 d,Rep mg H1 Y1 s1->uf mg H1 Y1 Z O->Den mg H1 Y1 d v->wG mg H Y H1 Y1 s1->okR mg E H1 Y1 Dn (k Z d s1) Q->K v H1):tE mg E f O H K:= ⟨Y,Z,s,r,en,(okR.bind (Dn:=Den mg) h).imp fun v H1 ⟨Y1,s1,d,stp,dn,q⟩=>hK v H1 Y1 s1 d stp.rep (en.mono stp) dn stp q⟩
theorem z1A{α β:Type}{Dn:Hp->List Addr->α->β->Prop}{mg:Gm}{f:FT}{k:Ev->Bool->Sto->R α}{O:L2.St}{H:Hp}{Q:β->Hp->Prop}{Y:List Addr}{Z:Ev}{s:Sto}(r:Rep mg H Y s)(en:uf mg H Y Z O) (h:okR mg E H Y Dn ((f Z s).bind (k Z)) Q)(K:Bool->Hp->Prop) (hK:∀ v H1 Y1 s1,Rep mg H1 Y1 s1->uf mg H1 Y1 Z O->wG mg H Y H1 Y1 s1->okR mg E H1 Y1 Dn (k Z v s1) Q->K v H1):tT mg E f O H K:= ⟨Y,Z,s,r,en,(okR.bind (Dn:=bD) h).imp fun v H1 ⟨Y1,s1,d,stp,dn,q⟩=>hK v H1 Y1 s1 stp.rep (en.mono stp) stp (by cases (show d=v from dn);exact q)⟩
theorem qE{α β:Type}{Dn:Hp->List Addr->α->β->Prop}{mg:Gm}{f:FA}{k:Ev->List D->Sto->R α}{O:L2.St}{H:Hp}{Q:β->Hp->Prop}{Y:List Addr}{Z:Ev}{s:Sto}(r:Rep mg H Y s)(en:uf mg H Y Z O) (h:okR mg E H Y Dn ((f Z s).bind (k Z)) Q)(K:List V->Hp->Prop) (hK:∀ v H1 Y1 s1 d,Rep mg H1 Y1 s1->uf mg H1 Y1 Z O->zB mg H1 Y1 d v->wG mg H Y H1 Y1 s1->okR mg E H1 Y1 Dn (k Z d s1) Q->K v H1):tA mg E f O H K:= ⟨Y,Z,s,r,en,(okR.bind (Dn:=zB mg) h).imp fun v H1 ⟨Y1,s1,d,stp,dn,q⟩=>hK v H1 Y1 s1 d stp.rep (en.mono stp) dn stp q⟩
def zc(i:Nat):FE:=fun Z s=>match Z[i]? with | some (some d)=>.ok d s | _=>.no
theorem zb(i:Nat){x:Str}(hN:X.N[i]? = some x:=by rfl)(hv:Vis X.env.scope x:=by first | exact Or.inl rfl | exact Or.inr (Or.inl rfl) | exact Or.inr (Or.inr rfl))(hd:(x==("__debug__":Str))=false:=by decide) (hcd:(x==("__classdict__":Str))=false:=by decide):RE X E (.Name x pos) (zc i):= yz (z9j hN hv hd hcd) fun O H Q ⟨Y,Z,s,r,en,h⟩=>by
  unfold zc at h;split at h
  ·rename_i d hd;obtain ⟨v,h1,h2⟩:=en.at_ i d hd;exact ⟨v,h1,h.here r h2⟩
  ·exact h.elim
def eC(d:D):FE:=fun _ s=>.ok d s
theorem zy{i:Int}{j:Nat}:RE X E (.Constant (.int i) j pos) (eC (.int i)):=yz zh9 fun O H Q ⟨Y,Z,s,r,en,h⟩=>okR.here (b:=V.int i) h r (by simp [Den])
theorem zf6{i:Bool}{j:Nat}:RE X E (.Constant (.bool i) j pos) (eC (.bl i)):=yz zi6 fun O H Q ⟨Y,Z,s,r,en,h⟩=>okR.here (b:=V.bl i) h r (by simp [Den])
theorem zgr{j:Nat}:RE X E (.Constant .none j pos) (eC .non):=yz zf7 fun O H Q ⟨Y,Z,s,r,en,h⟩=>okR.here (b:=V.non) h r (by simp [Den])
theorem z1T{i:Str}{j:Nat}:RE X E (.Constant (.str i) j pos) (eC (.str i)):=yz zgl fun O H Q ⟨Y,Z,s,r,en,h⟩=>okR.here (b:=V.str i) h r (by simp [Den])
theorem zgc{x:Str}{i:Int}{t:Tok}(hg:Gl X x)(hm:X.mg x=some (.int i t))(hd:(x==("__debug__":Str))=false:=by decide):RE X E (.Name x pos) (eC (.int i)):= yz (z6r hg hm (show xx (.int i) (.int i t) from ⟨t,rfl⟩) hd) fun O H Q ⟨Y,Z,s,r,en,h⟩=>okR.here (b:=V.int i) h r (by simp [Den])
def OpF(X:Cx)(E:XK)(r:R2)(op:D->D->Sto->R D):Prop:= ∀ H Y s d1 d2 v1 v2 (Q:VK),Rep (gm X) H Y s->Den (gm X) H Y d1 v1->Den (gm X) H Y d2 v2->okR (gm X) E H Y (Den (gm X)) (op d1 d2 s) Q->r v1 v2 H Q
def eOp(op:D->D->Sto->R D)(fa fb:FE):FE:=fun Z s=>(fa Z s).bind fun x s1=>(fb Z s1).bind fun y s2=>op x y s2
theorem z7y{r:R2}{op:D->D->Sto->R D}{fa fb:FE}(ho:OpF X E r op){O:L2.St}{H:Hp}{Q:VK}(h:tE (gm X) E (eOp op fa fb) O H Q):tOp r (tE (gm X) E fa) (tE (gm X) E fb) O H Q:=by
 obtain ⟨Y,Z,s,r',en,h⟩:=h;refine xb (k:=fun Z x s1=>(fb Z s1).bind fun y s2=>op x y s2) r' en h _ fun v H1 Y1 s1 d r1 en1 dn stp h1=>?_;refine xb (k:=fun Z y s2=>op d y s2) r1 en1 h1 _ fun v2 H2 Y2 s2 d2 r2 en2 dn2 St2 h2=>?_;exact ho H2 Y2 s2 d d2 v v2 Q r2 (dn.mono St2) dn2 h2
theorem zjT{op:Operator}{r:R2}{fo:D->D->Sto->R D}{fa fb:FE}(ho:OpR X (binaryOp op) r/\OpF X E r fo)(ha:RE X E a fa)(hb:RE X E b fb):RE X E (.BinOp a op b pos) (eOp fo fa fb):= yz (ziz ho.1 ha hb) fun O H Q h=>z7y ho.2 h
theorem zj3{op:CmpOp}{r:R2}{fo:D->D->Sto->R D}{fa fb:FE}(ho:OpR X (compareOp op) r/\OpF X E r fo)(ha:RE X E a fa)(hb:RE X E b fb)(hm:behindInMarks op b=false):RE X E (.Compare a [op] [b] pos) (eOp fo fa fb):= yz (zaA ho.1 ha hb hm) fun O H Q h=>z7y ho.2 h
end
end Dd
namespace L2
open PySem.Spec
theorem Inv.freeze {X:Cx} {pins:List (Addr×Obj)} {O:L2.St} {H:Hp} {s:Shared} {a:Addr} {u:HO} {o:Obj} (I:Inv X pins O H s) (h:H a=some u) (e:s.heap.get? a=some o) (hu:∀ xs,u≠.tup xs) (hf:∀ o v,u≠.frz o v) (ht:∀ ps,u≠.tbl ps) (ho:∀ y,u≠.own y): Inv X pins O (upd H a (.frz o u)) s:=by
 have ne:∀ {b:Addr} {v:HO},H b=some v->v≠u->b≠a:=fun {b v} hb hv z=>by subst z;rw [h] at hb;exact hv (Option.some.inj hb).symm
 have stay:∀ b v,wB X.prog X.w H s.heap b v->wB X.prog X.w (upd H a (.frz o u)) s.heap b v:=fun b v q=> q.stay (fun _ _ _ q=>q) (fun c q=>by rw [zH (ne q (fun z=>ho b z.symm))];exact q) fun c xs q=>by rw [zH (ne q (fun z=>hu xs z.symm))];exact q
 have hok:HOk X.prog X.w (upd H a (.frz o u)) s.heap:=fun b v q=>by
  by_cases hb:b=a
  ·subst hb;rw [yr] at q;cases q;exact ⟨e,stay b u (I.hok b u h)⟩
  ·rw [zH hb] at q;exact stay b v (I.hok b v q)
 exact I.step (h':=s.heap) (g':=s.gens) (d':=s.drawn) (t':=s.toks) (ch:=[]) (fun b hb=>absurd hb (by simp)) (fun b o _ _ _ e _=>e) (fun b o _ _ _ e _=>⟨o.slots,e⟩) (fun b v _ _ n=>by rw [zH (fun z=>by subst z;rw [h] at n;cases n)];exact n) (fun b o _ e=>⟨o,e⟩) (fun b xs q=>by rw [zH (ne q (fun z=>hu xs z.symm))];exact q) (fun b o' v q=>by rw [zH (ne q (fun z=>hf o' v z.symm))];exact q) (fun b ps q=>⟨#[],by rw [zH (ne q (fun z=>ht ps z.symm)),q];simp⟩) (fun _ q=>q) hok I.bare
def zbY(Q:VK):VK:=fun v H=>∃ a xs,v=.ref a/\H a=some (.lst xs)/\∀ o,Q v (upd H a (.frz o (.lst xs)))
theorem EP.freeze{X:Cx}{pins:List (Addr×Obj)}{O:L2.St}{Q:VK}{u:Value}{s:Shared}(h:EP X pins O (zbY Q) u s):EP X pins O Q u s:=by
 obtain ⟨v,H',I,r,a,xs,rfl,ha,q⟩:=h;obtain ⟨its,n,rv,e,_⟩:=I.lst ha;exact ⟨_,_,I.freeze ha e (by intro _ z;cases z) (by intro _ _ z;cases z) (by intro _ z;cases z) (by intro _ z;cases z),r,q _⟩
theorem OpR.freeze{X:Cx}{f:Value->Value->Sem Value}{r:R2}(h:OpR X f r):OpR X f (fun x y H Q=>r x y H (zbY Q)):=fun pins s O H x y v u Q I rx ry q=>thn (h pins s O H x y v u _ I rx ry q) fun _ _ z=>z.freeze
theorem PE.freeze{X:Cx}{e:Expr}{t:TE}(h:PE X e t):PE X e (fun O H Q=>t O H (zbY Q)):=fun pins s O H Q I q=>thn (h pins s O H _ I q) fun _ _ z=>z.freeze
theorem SlR.freeze{X:Cx}{r:V->Option Int->Option Int->Hp->VK->Prop}(h:SlR X r):SlR X (fun x lo hi H Q=>r x lo hi H (zbY Q)):=fun pins s O H x v vl vu lo hi sl Q I rx hs pl pu q=>by
 obtain ⟨T,id,h1,h2,h3⟩:=h pins s O H x v vl vu lo hi sl _ I rx hs pl pu q;exact ⟨T,id,h1,h2,thn h3 fun _ _ z=>z.freeze⟩
section
variable {X:Cx}
theorem zeD:OpR X (binaryOp .Add) (fun x y H Q=>∃ l b xs zs,x=.ref l/\y=.ref b/\Rd H l (.lst xs)/\Rd H b (.lst zs)/\xs.length+zs.length<=sizeLine/\∀ p,H p=none->Q (.ref p) (upd H p (.lst (xs++zs)))):=by
 intro pins s O H x y v u Q I rx ry h;obtain ⟨l,b,xs,zs,rfl,rfl,hH,hB,hz,q⟩:=h;cases rx;cases ry;obtain ⟨z,its,n,r,e⟩:=hH.ok I.hok;obtain ⟨z2,its2,n2,r2,e2⟩:=hB.ok I.hok;have hl:=r.length;have hl2:=r2.length;refine PySem.P.add_list e e2 ?_ (by rw [List.size_toArray,List.size_toArray];omega);have ea:its.toArray++its2.toArray=(its++its2).toArray:=by simp
 rw [ea];exact ⟨.ref _,_,I.lnew (t':=s.toks) (r.append r2) (by rw [List.length_append];omega),rfl,q _ I.fresh⟩
end
section
variable {X:Cx}
theorem zc1:OpR X (binaryOp .Add) (fun x y H Q=>∃ a b ys,x=.ref a/\y=.ref b/\SqT X.K H a []/\SqT X.K H b ys/\Q (.ref b) H):=by
 intro pins s O H x y v u Q I rx ry h;obtain ⟨a,b,ys,rfl,rfl,ha,hb,q⟩:=h;cases rx;cases ry;obtain ⟨its,r1,p1,_⟩:=I.tuple ha;obtain ⟨its2,r2,p2,_⟩:=I.tuple hb;cases r1;obtain ⟨⟨cls,dd,data,sl⟩,ho,hc,n,hd⟩:=id p1;obtain ⟨⟨cls2,dd2,data2,sl2⟩,ho2,hc2,n2,hd2⟩:=id p2;simp only at hc hd hc2 hd2;subst hc hd hc2 hd2;exact concat_meets ⟨_,ho,rfl⟩ ⟨_,ho2,rfl⟩ noFill_tuple_add seq_tuple_add PySem.F.slot_tuple_add PySem.F.entry_tuple_add (PySem.F.args_tuple_add_2 _ _) (tuple_addW0 a b _ _ n n2 dd dd2 sl sl2 (by simp)) ⟨ho,ho2,⟨.ref b,H,I,rfl,q⟩⟩
theorem zer:SlR X (fun x lo hi H Q=>∃ a xs,x=.ref a/\SqT X.K H a xs/\(HT.sIx xs.length 0 lo=0/\HT.sIx xs.length xs.length hi=xs.length)/\Q (.ref a) H):=by
 intro pins s O H x v vl vu lo hi sl Q I rx hs pl pu h;obtain ⟨a,xs,rfl,hx,hw,q⟩:=h;cases rx;obtain ⟨its,r,ht,hz⟩:=I.tuple hx;have hlen:its.toArray.size=xs.length:=by rw [List.size_toArray];exact r.length.symm
 refine ⟨"tuple",_,PyProof.Rows.slot_tuple_getitem.lookup,ht.typeIs,?_⟩;obtain ⟨os,hos,hcs,hds⟩:=id hs;have hTs:s.TypeIs (.ref sl) "slice":=⟨os,hos,hcs⟩;obtain ⟨oa,hoa,hca,na,hda⟩:=id ht;unfold getItem;try with_reducible refine wpAny_holding ?_
 first | refine wpAny_bind (wpAny_pure ?_) | skip
 refine wpAny_bind (wpAny_sequenceKey ht.typeIs (by decide) ?_);refine wpAny_bind (wpAny_callSpecial?_slot (name:=Str.ofString "__getitem__") ht.typeIs PyProof.Rows.slot_tuple_getitem (wpAny_call_entry PyProof.Rows.slot_tuple_getitem ht.typeIs entry_tuple_getitem ?_ (args_tuple_getitem _ _)));show wpAny _ _ (Builtin.Tuple.tupleItemsOf (.ref a) >>= _) _ _ s;refine wpAny_bind (tupleItemsOf_ ht ?_);refine wpAny_bind (wpAny_typeOf hTs ?_);rw [if_pos (by decide)];refine wpAny_bind (HT.qK hs pl pu ?_);rw [hlen,hw.1,hw.2];show wpAny _ _ (if (((0:Nat):Int)==0&&(1:Int)==1&&(xs.length-0)==xs.length)=true then _ else _) _ _ s;rw [if_pos (by simp)];have hTa:s.TypeIs (.ref a) "tuple":=ht.typeIs;have fin:EP X pins O Q (.ref a) s:=⟨.ref a,H,I,rfl,q⟩;unfold Builtin.Tuple.tupleIsExact;refine wpAny_bind (wpAny_bind (wpAny_typeOf hTa (wpAny_pure ?_)));rw [if_pos (by decide)];exact wpAny_bind (wpAny_rule (wpAny_pure ⟨_,rfl,wpAny_pure fin⟩))
end
end L2
namespace Dd
open PySem.Spec L2
section
variable {mg:Gm}{H H' H1 H2:Hp}{Y Y' Y1 Y2:List Addr}{s s' s1 s2:Sto}
structure Kp(H H':Hp):Prop where
 k:∀ b o,H b=some o->(∀ vs,o≠.lst vs)->(∀ kvs,o≠.dT kvs)->H' b=some o
 l:∀ a,IsL H a->IsL H' a
 c:∀ a,IsC H a->IsC H' a
mutual
theorem Den.gen(k:Kp H H')(hi:∀ (l:Nat) a,Y[l]? = some a->Y'[l]? = some a):∀ {d:D}{v:V},Den mg H Y d v->Den mg H' Y' d v
 | .non,_,h=>by simpa [Den] using h | .bl _,_,h=>by simpa [Den] using h | .int _,_,h=>by simpa [Den] using h | .str _,_,h=>by simpa [Den] using h | .tup ds,v,h=>by
  simp only [Den] at h ⊢;obtain ⟨a,vs,e,h1,h2⟩:=h;exact ⟨a,vs,e,k.k a _ h1 (by intro vs z;cases z) (by intro vs z;cases z),zB.gen k hi h2⟩ | .lst ds,v,h=>by
  simp only [Den] at h ⊢;obtain ⟨a,o,vs,e,h1,h2⟩:=h;exact ⟨a,o,vs,e,k.k a _ h1 (by intro vs z;cases z) (by intro vs z;cases z),zB.gen k hi h2⟩ | .dct,v,h=>by
  simp only [Den] at h ⊢;obtain ⟨a,e,h1⟩:=h;exact ⟨a,e,k.k a _ h1 (by intro vs z;cases z) (by intro vs z;cases z)⟩ | .loc l,v,h=>by
  simp only [Den] at h ⊢;obtain ⟨a,e,h1,q⟩:=h;exact ⟨a,e,hi l a h1,k.l a q⟩ | .dlo l,v,h=>by
  simp only [Den] at h ⊢;obtain ⟨a,e,h1,q⟩:=h;exact ⟨a,e,hi l a h1,k.c a q⟩ | .fn _,_,h=>by simpa [Den] using h | .exc x,v,h=>by
  simp only [Den] at h ⊢;obtain ⟨a,C,e,h1,h2⟩:=h;exact ⟨a,C,e,h1,k.k a _ h2 (by intro vs z;cases z) (by intro vs z;cases z)⟩ | .scr ds,v,h=>by
  simp only [Den] at h ⊢;obtain ⟨a,vs,e,h1,h2⟩:=h;exact ⟨a,vs,e,h1.imp (fun ⟨o,h1⟩=>⟨o,k.k a _ h1 (by intro vs z;cases z) (by intro vs z;cases z)⟩) id,zB.gen k hi h2⟩
theorem zB.gen(k:Kp H H')(hi:∀ (l:Nat) a,Y[l]? = some a->Y'[l]? = some a):∀ {ds:List D}{vs:List V},zB mg H Y ds vs->zB mg H' Y' ds vs
 | [],_,h=>by simpa [zB] using h | d::ds,vs,h=>by
  simp only [zB] at h ⊢;obtain ⟨v,r,e,h1,h2⟩:=h;exact ⟨v,r,e,Den.gen k hi h1,zB.gen k hi h2⟩
end
theorem z1Z{p:Addr}{o:HO}(hp:H p=none):∀ b u,H b=some u->upd H p o b=some u:=fun b u h=>by rw [zH (yZ h hp)];exact h
theorem Kp.new{p:Addr}{o:HO}(hp:H p=none):Kp H (upd H p o):=⟨fun b u h _ _=>z1Z hp b u h,fun a ⟨vs,e⟩=>⟨vs,z1Z hp a _ e⟩,fun a ⟨vs,e⟩=>⟨vs,z1Z hp a _ e⟩⟩
theorem Kp.putL{a:Addr}{vs:List V}(h:IsL H a):Kp H (upd H a (.lst vs)):=by
 obtain ⟨ws,e⟩:=h;refine ⟨fun b o q n1 n2=>?_,fun b ⟨us,q⟩=>?_,fun b ⟨us,q⟩=>?_⟩;·rw [zH (fun z=>by subst z;rw [e] at q;exact n1 ws (Option.some.inj q).symm)];exact q
 ·by_cases z:b=a;·subst z;exact ⟨vs,yr⟩
  ·exact ⟨us,by rw [zH z];exact q⟩
 ·rw [IsC,zH (fun z=>by subst z;rw [e] at q;cases q)];exact ⟨us,q⟩
theorem Kp.putC{a:Addr}{kvs:List (List Key×V)}(h:IsC H a):Kp H (upd H a (.dT kvs)):=by
 obtain ⟨ws,e⟩:=h;refine ⟨fun b o q n1 n2=>?_,fun b ⟨us,q⟩=>?_,fun b ⟨us,q⟩=>?_⟩;·rw [zH (fun z=>by subst z;rw [e] at q;exact n2 ws (Option.some.inj q).symm)];exact q
 ·rw [IsL,zH (fun z=>by subst z;rw [e] at q;cases q)];exact ⟨us,q⟩
 ·by_cases z:b=a;·subst z;exact ⟨kvs,yr⟩
  ·exact ⟨us,by rw [zH z];exact q⟩
theorem uW.gen{xs:List D}{a:Addr}(k:Kp H H')(hi:∀ (l:Nat) a,Y[l]? = some a->Y'[l]? = some a)(e:H' a=H a)(h:uW mg H Y xs a):uW mg H' Y' xs a:=by
 rcases h with ⟨vs,h1,h2⟩ | ⟨kvs,h1,h2⟩;·exact .inl ⟨vs,e.trans h1,h2.gen k hi⟩
 ·exact .inr ⟨kvs,e.trans h1,h2⟩
theorem uW.ne{xs:List D}{a p:Addr}(h:uW mg H Y xs a)(hp:H p=none):a≠p:=by
 rintro rfl;rcases h.kind with ⟨_,e⟩ | ⟨_,e⟩<;>rw [hp] at e<;>cases e
theorem Rep.notin{p:Addr}(r:Rep mg H Y s)(hp:H p=none):p∉Y:=fun z=>by rcases r.mt p z with ⟨_,e⟩ | ⟨_,e⟩<;>rw [hp] at e<;>cases e
theorem wG.lay{p:Addr}{o:HO}(r:Rep mg H Y s)(hp:H p=none)(ho:∀ vs,o≠.lst vs):wG mg H Y (upd H p o) Y s:= ⟨⟨r.len,r.nd,fun l xs h=>let ⟨a,h1,h2⟩:=r.cell l xs h;⟨a,h1,h2.gen (.new hp) (fun _ _ q=>q) (zH (h2.ne hp))⟩,r.flat⟩,List.prefix_refl _,fun b u h _=>z1Z hp b u h,fun a h1 h2=>absurd h1 h2,fun a ha=>(r.mt a ha).imp (fun h=>⟨h,(Kp.new hp).l a h⟩) fun h=>⟨h,(Kp.new hp).c a h⟩⟩
theorem wG.layC{p:Addr}{o:HO}{xs:List D}(r:Rep mg H Y s)(hp:H p=none)(hc:uW mg (upd H p o) (Y++[p]) xs p)(hf:D.flat.flats xs=true):wG mg H Y (upd H p o) (Y++[p]) (s++[xs]):=by
 have pn:p∉Y:=r.notin hp;have hi:∀ (l:Nat) a,Y[l]? = some a->(Y++[p])[l]? = some a:=fun l a h=>by rw [List.getElem?_append_left (List.getElem?_eq_some_iff.mp h).1];exact h
 refine ⟨⟨by simp [r.len],?_,fun l ys h=>?_,fun ys h=>?_⟩,List.prefix_append _ _,fun b u h _=>z1Z hp b u h,fun a h1 h2=>?_,fun a ha=>(r.mt a ha).imp (fun h=>⟨h,(Kp.new hp).l a h⟩) fun h=>⟨h,(Kp.new hp).c a h⟩⟩
 ·rw [List.nodup_append];exact ⟨r.nd,by simp,fun a ha b hb=>by
   have:b=p:=by simpa using hb
   subst this;exact fun z=>pn (z ▸ ha)⟩
 ·by_cases hl:l<s.length
  ·rw [List.getElem?_append_left hl] at h;obtain ⟨a,h1,h2⟩:=r.cell l ys h;exact ⟨a,hi l a h1,h2.gen (.new hp) hi (zH (h2.ne hp))⟩
  ·have h0:l=s.length:=by
    have:=(List.getElem?_eq_some_iff.mp h).1;simp at this;omega
   subst h0;simp at h;subst h;exact ⟨p,by rw [<- r.len];simp,hc⟩
 ·rcases List.mem_append.mp h with h | h;·exact r.flat ys h
  ·have:ys=xs:=by simpa using h
   rw [this];exact hf
 ·rcases List.mem_append.mp h1 with h | h;·exact absurd h h2
  ·have:a=p:=by simpa using h
   rw [this];exact hp
theorem wG.layL{p:Addr}{xs:List D}{vs:List V}(r:Rep mg H Y s)(hp:H p=none)(hd:zB mg H Y xs vs)(hf:D.flat.flats xs=true):wG mg H Y (upd H p (.lst vs)) (Y++[p]) (s++[xs]):= wG.layC r hp (.inl ⟨vs,yr,hd.gen (.new hp) fun l a h=>by rw [List.getElem?_append_left (List.getElem?_eq_some_iff.mp h).1];exact h⟩) hf
theorem wG.putC{l:Nat}{a:Addr}{o:HO}{xs:List D}(r:Rep mg H Y s)(ha:Y[l]? = some a)(k:Kp H (upd H a o))(hc:uW mg (upd H a o) Y xs a)(hf:D.flat.flats xs=true):wG mg H Y (upd H a o) Y (s.set l xs):=by
 have hai:a∈Y:=List.mem_of_getElem? ha;have hll:l<s.length:=by rw [<- r.len];exact (List.getElem?_eq_some_iff.mp ha).1
 refine ⟨⟨by simp [r.len],r.nd,fun j ys h=>?_,fun ys h=>?_⟩,List.prefix_refl _,fun b u h hn=>?_,fun a h1 h2=>absurd h1 h2,fun b hb=>(r.mt b hb).imp (fun h=>⟨h,k.l b h⟩) fun h=>⟨h,k.c b h⟩⟩
 ·by_cases hj:l=j
  ·subst hj;rw [List.getElem?_set_self hll] at h;cases h;exact ⟨a,ha,hc⟩
  ·rw [List.getElem?_set_ne hj] at h;obtain ⟨b,h1,h2⟩:=r.cell j ys h;refine ⟨b,h1,h2.gen k (fun _ _ q=>q) (zH ?_)⟩;rintro rfl;have il:l<Y.length:=(List.getElem?_eq_some_iff.mp ha).1;have ij:j<Y.length:=(List.getElem?_eq_some_iff.mp h1).1;exact hj ((List.getElem_inj r.nd).mp (((List.getElem?_eq_some_iff.mp ha).2).trans ((List.getElem?_eq_some_iff.mp h1).2).symm))
 ·rcases List.mem_or_eq_of_mem_set h with h | h;·exact r.flat ys h
  ·rw [h];exact hf
 ·rw [zH (fun z=>by subst z;exact hn hai)];exact h
theorem wG.put{l:Nat}{a:Addr}{xs:List D}{vs:List V}(r:Rep mg H Y s)(ha:Y[l]? = some a)(ka:IsL H a)(hd:zB mg H Y xs vs)(hf:D.flat.flats xs=true):wG mg H Y (upd H a (.lst vs)) Y (s.set l xs):= wG.putC r ha (.putL ka) (.inl ⟨vs,yr,hd.gen (.putL ka) fun _ _ q=>q⟩) hf
def listOf(s:Sto):D->Option (List D)
 | .lst xs=>some xs | .loc l=>s[l]? | _=>none
def zF(s:Sto):D->Option (List D)
 | .tup xs=>some xs | .lst xs=>some xs | .scr xs=>some xs | .loc l=>s[l]? | _=>none
theorem yq{d:D}{xs:List D}{v:V}(r:Rep mg H Y s)(h:listOf s d=some xs)(dn:Den mg H Y d v):∃ a vs,v=.ref a/\Rd H a (.lst vs)/\zB mg H Y xs vs:=by cases d with
 | lst ys=>
  simp only [listOf,Option.some.injEq] at h;subst h;simp only [Den] at dn;obtain ⟨a,o,vs,e,h1,h2⟩:=dn;exact ⟨a,vs,e,.inr ⟨o,h1⟩,h2⟩ | loc l=>
  simp only [Den] at dn;obtain ⟨a,e,h1,k⟩:=dn;obtain ⟨vs,h3,h4⟩:=r.at_ h h1 k;exact ⟨a,vs,e,.inl h3,h4⟩ | _=>simp [listOf] at h
theorem zd9{xs:List D}{v:V}(dn:Den mg H Y (.scr xs) v):∃ a vs,v=.ref a/\SqL mg.K H a vs/\zB mg H Y xs vs:=by
 simp only [Den] at dn;obtain ⟨a,vs,e,h1,h2⟩:=dn;exact ⟨a,vs,e,h1.elim (fun ⟨o,h⟩=>.inl (.inr ⟨o,h⟩)) .inr,h2⟩
theorem vE{K:W.Frag}{d:D}{xs:List D}{v:V}(r:Rep mg H Y s)(h:zF s d=some xs)(dn:Den mg H Y d v)(hK:mg.K=K:=by rfl):∃ a vs,v=.ref a/\(SqL K H a vs\/SqT K H a vs)/\zB mg H Y xs vs:=by cases d with
 | tup ys=>
  simp only [zF,Option.some.injEq] at h;subst h;simp only [Den] at dn;obtain ⟨a,vs,e,h1,h2⟩:=dn;exact ⟨a,vs,e,.inr (.inl (.inl h1)),h2⟩ | lst ys=>
  obtain ⟨a,vs,e,h1,h2⟩:=yq (d:=.lst ys) r h dn;exact ⟨a,vs,e,.inl (.inl h1),h2⟩ | scr ys=>
  simp only [zF,Option.some.injEq] at h;subst h;subst hK;obtain ⟨a,vs,e,h1,h2⟩:=zd9 dn;exact ⟨a,vs,e,.inl h1,h2⟩ | loc l=>
  obtain ⟨a,vs,e,h1,h2⟩:=yq (d:=.loc l) r h dn;exact ⟨a,vs,e,.inl (.inl h1),h2⟩ | _=>simp [zF] at h
theorem jD{K:W.Frag}{xs:List D}{v:V}(dn:Den mg H Y (.tup xs) v):∃ a vs,v=.ref a/\SqT K H a vs/\zB mg H Y xs vs:=by
 simp only [Den] at dn;obtain ⟨a,vs,e,h1,h2⟩:=dn;exact ⟨a,vs,e,.inl (.inl h1),h2⟩
end
def cap:Nat:=100000
theorem z1X{n:Nat}(h:n<=cap):n<=sizeLine:=Nat.le_trans h (by decide)
theorem zfv{n:Nat}(h:n<cap):n<sizeLine:=Nat.lt_of_lt_of_le h (by decide)
def BIG:Nat:=2 ^ 4096
def uF:D->D->Sto->R D
 | .int i,.int j,s=>.ok (.int (i+j)) s | .tup a,.tup b,s=>if a.length+b.length<=cap then .ok (.tup (a++b)) s else .no | x,y,s=>match listOf s x,listOf s y with
  | some a,some b=>if a.length+b.length<=cap then .ok (.lst (a++b)) s else .no | _,_=>.no
section
variable {X:Cx}{E:XK}
theorem yO{mg:Gm}{H:Hp}{Y:List Addr}{i:Int}{v:V}(h:Den mg H Y (.int i) v):v=.int i:=by simpa [Den] using h
theorem qY{mg:Gm}{H:Hp}{Y:List Addr}{i:Bool}{v:V}(h:Den mg H Y (.bl i) v):v=.bl i:=by simpa [Den] using h
theorem z4r{mg:Gm}{H:Hp}{Y:List Addr}{i:Str}{v:V}(h:Den mg H Y (.str i) v):v=.str i:=by simpa [Den] using h
theorem yR{mg:Gm}{H:Hp}{Y:List Addr}{i:Int}:Den mg H Y (.int i) (.int i):=by simp [Den]
theorem xQ{mg:Gm}{H:Hp}{Y:List Addr}{i:Bool}:Den mg H Y (.bl i) (.bl i):=by simp [Den]
theorem z1i{mg:Gm}{H:Hp}{Y:List Addr}{s:Sto}{xs:List D}{vs:List V}{Q:VK}(r:Rep mg H Y s)(h:okR mg E H Y (Den mg) (.ok (.lst xs) s) Q)(hd:zB mg H Y xs vs):∀ p,H p=none->zbY Q (.ref p) (upd H p (.lst vs)):=fun p hp=>by
 refine ⟨p,vs,rfl,yr,fun o=>?_⟩;rw [zeU];have stp:=wG.lay (o:=.frz o (.lst vs)) r hp (by intro _ z;cases z);refine h _ _ _ stp ?_;simp only [Den];exact ⟨p,o,vs,rfl,yr,hd.mono stp⟩
theorem z30{mg:Gm}{H:Hp}{Y:List Addr}{s:Sto}{xs:List D}{vs:List V}{Q:VK}(r:Rep mg H Y s)(h:okR mg E H Y (Den mg) (.ok (.tup xs) s) Q)(hd:zB mg H Y xs vs):∀ p,H p=none->Q (.ref p) (upd H p (.tup vs)):=fun p hp=>by
 have stp:=wG.lay (o:=.tup vs) r hp (by intro _ z;cases z);refine h _ _ _ stp ?_;simp only [Den];exact ⟨p,vs,rfl,yr,hd.mono stp⟩
theorem uK:∃ r,OpR X (binaryOp .Add) r/\OpF X E r uF:=by
 refine ⟨_,zg5.or ((zc1).or ((zdS).or (zeD.freeze))),?_⟩;intro H Y s d1 d2 v1 v2 Q r h1 h2 h;have lists:∀ a b,listOf s d1=some a->listOf s d2=some b->okR (gm X) E H Y (Den (gm X)) (if a.length+b.length<=cap then R.ok (D.lst (a++b)) s else .no) Q-> ∃ l b xs zs,v1=.ref l/\v2=.ref b/\Rd H l (.lst xs)/\Rd H b (.lst zs)/\xs.length+zs.length<=sizeLine/\∀ p,H p=none->zbY Q (.ref p) (upd H p (.lst (xs++zs))):=fun a b ha hb hq=>by
  obtain ⟨l,vs,e,q1,q2⟩:=yq r ha h1;obtain ⟨l',vs',e',q1',q2'⟩:=yq r hb h2;split at hq
  ·rename_i hl;exact ⟨l,l',vs,vs',e,e',q1,q1',by rw [q2.length,q2'.length];exact z1X hl,z1i r hq (q2.append q2')⟩
  ·exact hq.elim
 unfold uF at h;split at h
 ·rename_i i j;cases yO h1;cases yO h2;exact .inl ⟨i,j,rfl,rfl,h.here r yR⟩
 ·rename_i a b;obtain ⟨l,vs,rfl,q1,q2⟩:=jD (K:=X.K) h1;obtain ⟨l',vs',rfl,q1',q2'⟩:=jD (K:=X.K) h2;split at h
  ·rename_i hl;cases a with
   | nil=>
    simp only [zB] at q2;subst q2;exact .inr (.inl ⟨l,l',vs',rfl,rfl,q1,q1',h.here r h2⟩) | cons x a=>
    have ne:vs≠[]:=fun z=>by have:=q2.length;rw [z] at this;simp at this
    refine .inr (.inr (.inl ⟨l,l',vs,vs',rfl,rfl,q1,q1',ne,by rw [q2.length,q2'.length];exact z1X hl,fun z=>?_,fun z=>z30 r h (q2.append q2')⟩));have eb:b=[]:=by
     have:=q2'.length;rw [z] at this;exact List.length_eq_zero_iff.mp this.symm
    subst eb;rw [List.append_nil] at h;exact h.here r h1
  ·exact h.elim
 ·split at h
  ·rename_i a b ha hb;exact .inr (.inr (.inr (lists a b ha hb h)))
  ·exact h.elim
end
def dII(g:Int->Int->R D):D->D->Sto->R D
 | .int i,.int j,s=>match g i j with | .ok d _=>.ok d s | _=>.no
 | _,_,_=>.no
def iOk(d:D):R D:=.ok d []
def zd1:D->D->Sto->R D:=dII fun i j=>iOk (.int (i-j))
def wW:D->D->Sto->R D:=dII fun i j=>if i.natAbs<BIG/\j.natAbs<BIG then iOk (.int (i*j)) else .no
def z5q:D->D->Sto->R D:=dII fun i j=>if 0<j/\j.natAbs<BIG then iOk (.int (i / j)) else .no
def z8P:D->D->Sto->R D:=dII fun i j=>if 0<j then iOk (.int (i % j)) else .no
def z7g:D->D->Sto->R D:=dII fun i j=>if 0<=j/\j<=1000/\i.natAbs<1000 then iOk (.int (i ^ j.toNat)) else .no
def dLt:D->D->Sto->R D:=dII fun i j=>iOk (.bl (decide (i<j)))
def dLe:D->D->Sto->R D:=dII fun i j=>iOk (.bl (decide (i<=j)))
def dGt:D->D->Sto->R D:=dII fun i j=>iOk (.bl (decide (j<i)))
def dGe:D->D->Sto->R D:=dII fun i j=>iOk (.bl (decide (j<=i)))
section
variable {X:Cx}{E:XK}
theorem kJ{g:Int->Int->R D}{r:R2}(h:∀ i j d t H Q,g i j=.ok d t->(∀ v,(∀ H Y,Den (gm X) H Y d v)->Q v H)->r (.int i) (.int j) H Q):OpF X E r (dII g):=by
 intro H Y s d1 d2 v1 v2 Q rp h1 h2 hq;unfold dII at hq;split at hq
 ·rename_i i j;cases yO h1;cases yO h2;split at hq
  ·rename_i d t e;exact h i j d t H Q e fun v hv=>hq.here rp (hv H Y)
  ·exact hq.elim
 ·exact hq.elim
theorem zdo:∃ r,OpR X (binaryOp .Sub) r/\OpF X E r zd1:=⟨_,zgX,kJ fun i j d t H Q e q=>by
 simp only [iOk,R.ok.injEq] at e;exact ⟨i,j,rfl,rfl,q _ (by intro H Y;rw [<- e.1];exact yR)⟩⟩
theorem z8f{i:Int}(h:i.natAbs<BIG):Builtin.Int.intBits i<=2 ^ 20:=by
 have q:Builtin.Int.intBits i<=4096:=(PySem.intBits_le_iff (m:=4096)).mpr h;omega
theorem zec:OpR X (binaryOp .Mult) (rI (fun i j=>i.natAbs<BIG/\j.natAbs<BIG) fun i j=>.int (i*j)):=opI fun _ _ _ _ _ _ _ hc q=>mul_int q (IntMulOk.of_bits (z8f hc.1) (z8f hc.2))
theorem z0t:∃ r,OpR X (binaryOp .Mult) r/\OpF X E r wW:=⟨_,zec,kJ fun i j d t H Q e q=>by
 split at e
 ·rename_i hc;simp only [iOk,R.ok.injEq] at e;exact ⟨i,j,rfl,rfl,hc,q _ (by intro H Y;rw [<- e.1];exact yR)⟩
 ·cases e⟩
theorem zeg{j:Int}(h:j.natAbs<BIG):j.natAbs.log2<9000:=by
 by_cases h0:j.natAbs=0;·rw [h0];decide +kernel
 ·have:j.natAbs.log2<4096:=(Nat.log2_lt h0).mpr h;omega
theorem zbK:OpR X (binaryOp .FloorDiv) (rI (fun _ j=>0<j/\j.natAbs<BIG) fun i j=>.int (i / j)):=opI fun i j _ _ _ _ _ hc q=>by
 refine floordiv_int (by omega) ?_ (.inl (PyProof.noPylong_of_log2 (zeg hc.2)));rw [Int.fdiv_eq_ediv_of_nonneg _ (by omega)];exact q
theorem z9P:∃ r,OpR X (binaryOp .FloorDiv) r/\OpF X E r z5q:=⟨_,zbK,kJ fun i j d t H Q e q=>by
 split at e
 ·rename_i hc;simp only [iOk,R.ok.injEq] at e;exact ⟨i,j,rfl,rfl,hc,q _ (by intro H Y;rw [<- e.1];exact yR)⟩
 ·cases e⟩
theorem za8:∃ r,OpR X (binaryOp .Mod) r/\OpF X E r z8P:=⟨_,zh5,kJ fun i j d t H Q e q=>by
 split at e
 ·rename_i hc;simp only [iOk,R.ok.injEq] at e;exact ⟨i,j,rfl,rfl,hc,q _ (by intro H Y;rw [<- e.1];exact yR)⟩
 ·cases e⟩
theorem zaQ:∃ r,OpR X (binaryOp .Pow) r/\OpF X E r z7g:=⟨_,zgm,kJ fun i j d t H Q e q=>by
 split at e
 ·rename_i hc;simp only [iOk,R.ok.injEq] at e;exact ⟨i,j,rfl,rfl,⟨hc.1,by omega,by omega⟩,q _ (by intro H Y;rw [<- e.1];exact yR)⟩
 ·cases e⟩
theorem zjp:∃ r,OpR X (compareOp .Lt) r/\OpF X E r dLt:=⟨_,zi5,kJ fun i j d t H Q e q=>by
 simp only [iOk,R.ok.injEq] at e;exact ⟨i,j,rfl,rfl,q _ (by intro H Y;rw [<- e.1];exact xQ)⟩⟩
theorem zjm:∃ r,OpR X (compareOp .LtE) r/\OpF X E r dLe:=⟨_,zic,kJ fun i j d t H Q e q=>by
 simp only [iOk,R.ok.injEq] at e;exact ⟨i,j,rfl,rfl,q _ (by intro H Y;rw [<- e.1];exact xQ)⟩⟩
theorem zfQ:∃ r,OpR X (compareOp .Gt) r/\OpF X E r dGt:=⟨_,ziR,kJ fun i j d t H Q e q=>by
 simp only [iOk,R.ok.injEq] at e;exact ⟨i,j,rfl,rfl,q _ (by intro H Y;rw [<- e.1];exact xQ)⟩⟩
theorem zjt:∃ r,OpR X (compareOp .GtE) r/\OpF X E r dGe:=⟨_,zjc,kJ fun i j d t H Q e q=>by
 simp only [iOk,R.ok.injEq] at e;exact ⟨i,j,rfl,rfl,q _ (by intro H Y;rw [<- e.1];exact xQ)⟩⟩
end
mutual
def uR:D->PyData
 | .non=>.none | .bl b=>.bool b | .int i=>.int i | .str x=>.str x | .tup xs=>.tuple (toPys xs) | .lst xs=>.list (toPys xs) | _=>.dict []
def toPys:List D->List PyData
 | []=>[] | d::ds=>uR d::toPys ds
end
def eqD(a b:D):Bool:=PyData.eqv (uR a) (uR b)
def z7X(d:D):Bool:=SeqAt.shaped (uR d)
def dEq(x y:D)(s:Sto):R D:=if z7X x=true/\z7X y=true then .ok (.bl (eqD x y)) s else .no
def dNe(x y:D)(s:Sto):R D:=if z7X x=true/\z7X y=true then .ok (.bl (!eqD x y)) s else .no
section
variable {P:Program}{w:World}{mg:Gm}{H:Hp}{Y:List Addr}{h:Heap}
mutual
theorem Den.reads(ok:HOk P w H h):∀ {d:D}{v:V}{u:Value},PyData.canLay0 (uR d)=true->Den mg H Y d v->xx v u->∃ as,Reads h u (uR d) as
 | .non,_,_,_,dn,r=>by simp only [Den] at dn;subst dn;cases r;exact ⟨_,by simpa [uR] using Reads.none⟩ | .bl b,_,_,_,dn,r=>by simp only [Den] at dn;subst dn;cases r;exact ⟨_,by simpa [uR] using Reads.bool b⟩ | .int i,_,_,_,dn,r=>by simp only [Den] at dn;subst dn;obtain ⟨t,rfl⟩:=r;exact ⟨_,by simpa [uR] using Reads.int i t⟩ | .str x,_,_,_,dn,r=>by simp only [Den] at dn;subst dn;obtain ⟨t,rfl⟩:=r;exact ⟨_,by simpa [uR] using Reads.str x t⟩ | .tup ds,_,_,c,dn,r=>by
  simp only [Den] at dn;obtain ⟨a,vs,rfl,h1,h2⟩:=dn;cases r;obtain ⟨_,its,rv,o,e,hc,_,n,hd⟩:=ok a _ h1;obtain ⟨as,q⟩:=zB.reads ok (by simpa [uR,PyData.canLay0] using c) h2 rv;rw [uR];exact ⟨as,Reads.tuple e hc hd (by simpa using q)⟩ | .lst ds,_,_,c,dn,r=>by
  simp only [Den] at dn;obtain ⟨a,o,vs,rfl,h1,h2⟩:=dn;cases r;obtain ⟨_,_,its,n,rv,e⟩:=ok a _ h1;obtain ⟨as,q⟩:=zB.reads ok (by simpa [uR,PyData.canLay0] using c) h2 rv;rw [uR];exact ⟨_,Reads.list e rfl rfl (by simpa using q)⟩ | .dct,_,_,c,_,_=>by simp [uR,PyData.canLay0] at c | .loc _,_,_,c,_,_=>by simp [uR,PyData.canLay0] at c | .fn _,_,_,c,_,_=>by simp [uR,PyData.canLay0] at c | .exc _,_,_,c,_,_=>by simp [uR,PyData.canLay0] at c
theorem zB.reads(ok:HOk P w H h):∀ {ds:List D}{vs:List V}{us:List Value},PyData.canLayAll0 (toPys ds)=true->zB mg H Y ds vs->xF vs us->∃ as,ReadsAll h us (toPys ds) as
 | [],_,_,_,dn,r=>by simp only [zB] at dn;subst dn;cases r;exact ⟨_,by simpa [toPys] using ReadsAll.nil⟩ | d::ds,_,_,c,dn,r=>by
  simp only [zB] at dn;obtain ⟨v,vs,rfl,h1,h2⟩:=dn;simp only [toPys,PyData.canLayAll0,Bool.and_eq_true] at c;cases r with | cons r1 r2=>
   obtain ⟨as,q⟩:=Den.reads ok c.1 h1 r1;obtain ⟨bs,q'⟩:=zB.reads ok c.2 h2 r2;rw [toPys];exact ⟨_,ReadsAll.cons q q'⟩
end
end
section
variable {X:Cx}{E:XK}
def zjx(mg:Gm)(neg:Bool):R2:=fun x y H Q=>∃ Y d1 d2,Den mg H Y d1 x/\Den mg H Y d2 y/\z7X d1=true/\z7X d2=true/\Q (.bl (if neg then !eqD d1 d2 else eqD d1 d2)) H
theorem zgw(hu:X.A.units+64<cLine):OpR X (compareOp .Eq) (zjx (gm X) false):=by
 intro pins s O H x y v u Q I rx ry ⟨Y,d1,d2,h1,h2,p1,p2,q⟩;obtain ⟨as,ra⟩:=Den.reads I.hok (SeqAt.canLay_of_shaped p1) h1 rx;obtain ⟨bs,rb⟩:=Den.reads I.hok (SeqAt.canLay_of_shaped p2) h2 ry;exact SeqAt.compareEq_shaped ra rb p1 p2 hu ⟨.bl (eqD d1 d2),H,I,rfl,q⟩
theorem zgv(hu:X.A.units+64<cLine):OpR X (compareOp .NotEq) (zjx (gm X) true):=by
 intro pins s O H x y v u Q I rx ry ⟨Y,d1,d2,h1,h2,p1,p2,q⟩;obtain ⟨as,ra⟩:=Den.reads I.hok (SeqAt.canLay_of_shaped p1) h1 rx;obtain ⟨bs,rb⟩:=Den.reads I.hok (SeqAt.canLay_of_shaped p2) h2 ry;exact SeqAt.compareNe_shaped ra rb p1 p2 hu ⟨.bl (!eqD d1 d2),H,I,rfl,q⟩
theorem z36(hu:X.A.units+64<cLine):∃ r,OpR X (compareOp .Eq) r/\OpF X E r dEq:=⟨_,zgw hu,fun H Y s d1 d2 v1 v2 Q r h1 h2 h=>by
 unfold dEq at h;split at h
 ·rename_i hc;exact ⟨Y,d1,d2,h1,h2,hc.1,hc.2,h.here r xQ⟩
 ·exact h.elim⟩
theorem zaz(hu:X.A.units+64<cLine):∃ r,OpR X (compareOp .NotEq) r/\OpF X E r dNe:=⟨_,zgv hu,fun H Y s d1 d2 v1 v2 Q r h1 h2 h=>by
 unfold dNe at h;split at h
 ·rename_i hc;exact ⟨Y,d1,d2,h1,h2,hc.1,hc.2,h.here r xQ⟩
 ·exact h.elim⟩
def z34:D->Option V
 | .non=>some .non | .bl b=>some (.bl b) | .int i=>some (.int i) | .str x=>some (.str x) | _=>none
theorem z5a{mg:Gm}{H:Hp}{Y:List Addr}{d:D}{v w:V}(h:z34 d=some w)(dn:Den mg H Y d v):v=w/\z2V v=true:=by cases d<;>simp only [z34,Option.some.injEq,reduceCtorEq] at h<;>(simp only [Den] at dn;subst dn;subst h;exact ⟨rfl,rfl⟩)
def kf:List D->Option (List V)
 | []=>some [] | d::ds=>match z34 d,kf ds with | some v,some vs=>some (v::vs) | _,_=>none
theorem z35{mg:Gm}{H:Hp}{Y:List Addr}:∀ {ds:List D}{vs ws:List V},kf ds=some ws->zB mg H Y ds vs->vs=ws/\vs.all z2V=true
 | [],_,_,h,dn=>by simp only [kf,Option.some.injEq] at h;simp only [zB] at dn;subst dn;subst h;exact ⟨rfl,rfl⟩ | d::ds,_,_,h,dn=>by
  simp only [zB] at dn;obtain ⟨v,vs,rfl,h1,h2⟩:=dn;simp only [kf] at h;split at h
  ·rename_i w ws e1 e2;cases h;obtain ⟨a1,a2⟩:=z5a e1 h1;obtain ⟨b1,b2⟩:=z35 e2 h2;exact ⟨by rw [a1,b1],by rw [List.all_cons,a2,b2];rfl⟩
  ·cases h
def z9b(neg:Bool)(x y:D)(s:Sto):R D:=match z34 x,(zF s y).bind kf with
 | some v,some vs=>.ok (.bl (if neg then !inV v vs else inV v vs)) s | _,_=>.no
theorem zgW{neg:Bool}:OpF X E (rIn X.K neg) (z9b neg):=fun H Y s d1 d2 v1 v2 Q r h1 h2 h=>by
 unfold z9b at h;split at h
 ·rename_i v vs e1 e2;cases e3:zF s d2 with
  | none=>rw [e3] at e2;cases e2 | some xs=>
   rw [e3] at e2;obtain ⟨a,ws,rfl,q1,q2⟩:=vE (K:=X.K) r e3 h2;obtain ⟨b1,b2⟩:=z35 e2 q2;obtain ⟨a1,a2⟩:=z5a e1 h1;subst a1 b1;exact ⟨a,ws,rfl,q1,a2,b2,h.here r xQ⟩
 ·exact h.elim
theorem zhJ:∃ r,OpR X (compareOp .In) r/\OpF X E r (z9b false):=⟨_,zau,zgW⟩
def dIs:D->D->Sto->R D
 | .bl a,.bl b,s=>.ok (.bl (a==b)) s | .non,.non,s=>.ok (.bl true) s | .bl _,.non,s=>.ok (.bl false) s | .int _,.non,s=>.ok (.bl false) s | .str _,.non,s=>.ok (.bl false) s | .tup _,.non,s=>.ok (.bl false) s | .lst _,.non,s=>.ok (.bl false) s | _,_,_=>.no
theorem zh7:OpR X (compareOp .Is) (fun x y H Q=>∃ a b,x=.bl a/\y=.bl b/\Q (.bl (a==b)) H):=by
 intro pins s O H x y v u Q I rx ry ⟨a,b,e1,e2,q⟩;subst e1 e2;cases rx;cases ry;exact is_bool ⟨.bl (a==b),H,I,rfl,q⟩
theorem zjF:∃ r,OpR X (compareOp .Is) r/\OpF X E r dIs:=⟨_,zh7.or zg9,fun H Y s d1 d2 v1 v2 Q r h1 h2 h=>by
 unfold dIs at h;split at h
 ·cases qY h1;cases qY h2;exact .inl ⟨_,_,rfl,rfl,h.here r xQ⟩
 ·simp only [Den] at h1 h2;subst h1 h2;exact .inr ⟨rfl,by have:=h.here r xQ;simpa using this⟩
 ·simp only [Den] at h1 h2;subst h1 h2;exact .inr ⟨rfl,by have:=h.here r xQ;simpa using this⟩
 ·simp only [Den] at h1 h2;subst h1 h2;exact .inr ⟨rfl,by have:=h.here r xQ;simpa using this⟩
 ·simp only [Den] at h1 h2;subst h1 h2;exact .inr ⟨rfl,by have:=h.here r xQ;simpa using this⟩
 ·simp only [Den] at h1 h2;obtain ⟨a,vs,rfl,_⟩:=h1;subst h2;exact .inr ⟨rfl,by have:=h.here r xQ;simpa using this⟩
 ·simp only [Den] at h1 h2;obtain ⟨a,o,vs,rfl,_⟩:=h1;subst h2;exact .inr ⟨rfl,by have:=h.here r xQ;simpa using this⟩
 ·exact h.elim⟩
def dIx(x y:D)(s:Sto):R D:=match y,zF s x with
 | .int i,some xs=>match atI xs i with | some d=>.ok d s | none=>.no
 | _,_=>.no
theorem zc3{mg:Gm}{H:Hp}{Y:List Addr}{xs:List D}{vs:List V}{i:Int}{d:D}(h:zB mg H Y xs vs)(e:atI xs i=some d):∃ v,atI vs i=some v/\Den mg H Y d v:=by
 unfold atI at e ⊢;rw [h.length];cases q:ixN xs.length i with
 | none=>rw [q] at e;cases e | some j=>
  rw [q] at e;exact h.get e
theorem zk8:∃ r,IxR X r/\OpF X E r dIx:=⟨_,zdv.or zfF,fun H Y s d1 d2 v1 v2 Q r h1 h2 h=>by
 unfold dIx at h;split at h
 ·rename_i i xs e;split at h
  ·rename_i d e2;cases yO h2;obtain ⟨a,vs,rfl,q1,q2⟩:=vE (K:=X.K) r e h1;obtain ⟨v,e3,e4⟩:=zc3 q2 e2;rcases q1 with q1 | q1;·exact .inl ⟨a,vs,i,v,rfl,rfl,q1,e3,h.here r e4⟩
   ·exact .inr ⟨a,vs,i,v,rfl,rfl,q1,e3,h.here r e4⟩
  ·exact h.elim
 ·exact h.elim⟩
end
section
variable {X:Cx}{E:XK}{e a b c:Expr}{es:List Expr}{pos:Pos}
theorem yJ{op:Operator}{fo:D->D->Sto->R D}{fa fb:FE}(ho:∃ r,OpR X (binaryOp op) r/\OpF X E r fo)(ha:RE X E a fa)(hb:RE X E b fb):RE X E (.BinOp a op b pos) (eOp fo fa fb):=let ⟨_,h⟩:=ho;zjT h ha hb
theorem uI{op:CmpOp}{fo:D->D->Sto->R D}{fa fb:FE}(ho:∃ r,OpR X (compareOp op) r/\OpF X E r fo)(ha:RE X E a fa)(hb:RE X E b fb)(hm:behindInMarks op b=false:=by first | exact zcY _ | rfl):RE X E (.Compare a [op] [b] pos) (eOp fo fa fb):=let ⟨_,h⟩:=ho;zj3 h ha hb hm
def tOf(f:FE):FT:=fun Z s=>(f Z s).bind fun d s1=>match d with | .bl k=>.ok k s1 | _=>.no
theorem z7u{f:FE}{O:L2.St}{H:Hp}{Q:Bool->Hp->Prop}(h:tT (gm X) E (tOf f) O H Q):zgO (tE (gm X) E f) O H Q:=by
 obtain ⟨Y,Z,s,r,en,h⟩:=h;refine xb (k:=fun Z d s1=>match d with | .bl k=>.ok k s1 | _=>.no) r en h _ fun v H1 Y1 s1 d r1 en1 dn stp h1=>?_;cases d with
 | bl k=>
  cases qY dn;exact ⟨k,rfl,h1.here (b:=k) r1 rfl⟩ | _=>exact h1.elim
theorem ym{op:CmpOp}{fo:D->D->Sto->R D}{fa fb:FE}(ho:∃ r,OpR X (compareOp op) r/\OpF X E r fo)(ha:RE X E a fa)(hb:RE X E b fb)(hm:behindInMarks op b=false:=by first | exact zcY _ | rfl):RT X E (.Compare a [op] [b] pos) (tOf (eOp fo fa fb)):=by
 obtain ⟨r,h1,h2⟩:=ho;exact z9B (zeW h1 ha hb hm) fun O H Q h=>by
  have q:=z7u h;exact z7y h2 q
def z7s(fo fo':D->D->Sto->R D)(fa fb fc:FE):FE:=fun Z s=>(fa Z s).bind fun x s1=>(fb Z s1).bind fun y s2=>(fo x y s2).bind fun z s3=>match z with
 | .bl true=>(fc Z s3).bind fun w s4=>fo' y w s4 | .bl false=>.ok (.bl false) s3 | _=>.no
theorem z9z{r r':R2}{fo fo':D->D->Sto->R D}{fa fb fc:FE}(ho:OpF X E r fo)(ho':OpF X E r' fo'){O:L2.St}{H:Hp}{Q:VK}(h:tE (gm X) E (z7s fo fo' fa fb fc) O H Q):zcH r r' (tE (gm X) E fa) (tE (gm X) E fb) (tE (gm X) E fc) O H Q:=by
 obtain ⟨Y,Z,s,rp,en,h⟩:=h;refine xb (k:=fun Z x s1=>(fb Z s1).bind fun y s2=>(fo x y s2).bind fun z s3=>match z with
  | .bl true=>(fc Z s3).bind fun w s4=>fo' y w s4 | .bl false=>.ok (.bl false) s3 | _=>.no) rp en h _ fun v H1 Y1 s1 d r1 en1 dn stp h1=>?_;refine xb (k:=fun Z y s2=>(fo d y s2).bind fun z s3=>match z with
  | .bl true=>(fc Z s3).bind fun w s4=>fo' y w s4 | .bl false=>.ok (.bl false) s3 | _=>.no) r1 en1 h1 _ fun v2 H2 Y2 s2 d2 r2 en2 dn2 stp2 h2=>?_;refine ho H2 Y2 s2 d d2 v v2 _ r2 (dn.mono stp2) dn2 ((okR.bind (Dn:=Den (gm X)) h2).imp fun v3 H3 ⟨Y3,s3,d3,stp3,dn3,h3⟩=>?_);cases d3 with
 | bl k=>
  cases qY dn3;refine ⟨k,rfl,?_⟩;cases k with
  | true=>
   rw [if_pos rfl];refine xb (k:=fun Z w s4=>fo' d2 w s4) stp3.rep (en2.mono stp3) h3 _ fun v4 H4 Y4 s4 d4 r4 en4 dn4 stp4 h4=>?_;exact ho' H4 Y4 s4 d2 d4 v2 v4 Q r4 ((dn2.mono stp3).mono stp4) dn4 h4 | false=>
   rw [if_neg (by decide)];exact okR.here (b:=V.bl false) h3 stp3.rep xQ
 | _=>exact h3.elim
theorem ze0{op op':CmpOp}{fo fo':D->D->Sto->R D}{fa fb fc:FE}(ho:∃ r,OpR X (compareOp op) r/\OpF X E r fo)(ho':∃ r,OpR X (compareOp op') r/\OpF X E r fo')(ha:RE X E a fa)(hb:RE X E b fb)(hc:RE X E c fc) (hm:lastMarks [op,op'] [b,c]=false:=by with_unfolding_all rfl):RE X E (.Compare a [op,op'] [b,c] pos) (z7s fo fo' fa fb fc):=by
 obtain ⟨r,h1,h2⟩:=ho;obtain ⟨r',h1',h2'⟩:=ho';exact yz (zbn h1 h1' ha hb hc hm) fun O H Q h=>z9z h2 h2' h
def z6f(fa fb:FE):FE:=fun Z s=>(fa Z s).bind fun x s1=>match x with | .bl true=>fb Z s1 | .bl false=>.ok (.bl false) s1 | _=>.no
def eOr(fa fb:FE):FE:=fun Z s=>(fa Z s).bind fun x s1=>match x with | .bl false=>fb Z s1 | .bl true=>.ok (.bl true) s1 | _=>.no
def zga(fa:FE):FE:=fun Z s=>(fa Z s).bind fun x s1=>match x with | .bl k=>.ok (.bl (!k)) s1 | _=>.no
variable {z0T:List Expr}
theorem z2L{op:BoolOp}{f:FE}(h:RE X E a f):RE X E (.BoolOp op [a] pos) f:=zfP h
theorem z2D{fa fb:FE}(ha:RE X E a fa)(hb:RE X E (.BoolOp .And (b::z0T) pos) fb):RE X E (.BoolOp .And (a::b::z0T) pos) (z6f fa fb):= yz (zgZ ha hb) fun O H Q ⟨Y,Z,s,r,en,h⟩=>by
  refine xb (k:=fun Z x s1=>match x with | .bl true=>fb Z s1 | .bl false=>.ok (.bl false) s1 | _=>.no) r en h _ fun v H1 Y1 s1 d r1 en1 dn stp h1=>?_;cases d with
  | bl k=>
   cases qY dn;refine ⟨k,rfl,?_⟩;cases k with
   | true=>rw [if_pos rfl];exact ⟨Y1,Z,s1,r1,en1,h1⟩ | false=>rw [if_neg (by decide)];exact okR.here (b:=V.bl false) h1 r1 xQ
  | _=>exact h1.elim
theorem zfJ{fa:FE}(ha:RE X E a fa):RE X E (.UnaryOp .Not a pos) (zga fa):= yz (zgx ha) fun O H Q ⟨Y,Z,s,r,en,h⟩=>by
  refine xb (k:=fun Z x s1=>match x with | .bl k=>R.ok (D.bl (!k)) s1 | _=>.no) r en h _ fun v H1 Y1 s1 d r1 en1 dn stp h1=>?_;cases d with
  | bl k=>
   cases qY dn;exact ⟨k,rfl,okR.here (b:=V.bl (!k)) h1 r1 xQ⟩ | _=>exact h1.elim
def zg2(fa fb:FT):FT:=fun Z s=>(fa Z s).bind fun x s1=>if x=true then fb Z s1 else .ok false s1
def fOr(fa fb:FT):FT:=fun Z s=>(fa Z s).bind fun x s1=>if x=true then .ok true s1 else fb Z s1
def z6h(fa:FT):FT:=fun Z s=>(fa Z s).bind fun x s1=>.ok (!x) s1
def RW(X:Cx)(E:XK)(e:Expr)(f:FT):Prop:=PW X e (tT (gm X) E f)
theorem RW.rt{f:FT}(h:RW X E e f):RT X E e f:=PW.pt h
theorem zcx{t t':TT}(h:PW X e t)(i:∀ O H Q,t' O H Q->t O H Q):PW X e t':=fun wh pins s O H Q I q=>h wh pins s O H Q I (i O H Q q)
theorem zcN{f:FT}(h:RT X E a f):RW X E (.BoolOp .And [a] pos) f:=zen h
theorem zeA{f:FT}(h:RT X E a f):RW X E (.BoolOp .Or [a] pos) f:=zf9 h
theorem w_and{fa fb:FT}(ha:RT X E a fa)(hb:RW X E (.BoolOp .And (b::z0T) pos) fb):RW X E (.BoolOp .And (a::b::z0T) pos) (zg2 fa fb):= zcx (zfN ha hb) fun O H Q ⟨Y,Z,s,r,en,h⟩=>by
  refine z1A (k:=fun Z x s1=>if x=true then fb Z s1 else .ok false s1) r en h _ fun v H1 Y1 s1 r1 en1 stp h1=>?_;cases v with
  | true=>rw [if_pos rfl] at h1 ⊢;exact ⟨Y1,Z,s1,r1,en1,h1⟩ | false=>rw [if_neg (by decide)] at h1 ⊢;exact h1.here r1 rfl
theorem zhC{fa fb:FT}(ha:RT X E a fa)(hb:RW X E (.BoolOp .Or (b::z0T) pos) fb):RW X E (.BoolOp .Or (a::b::z0T) pos) (fOr fa fb):= zcx (ziG ha hb) fun O H Q ⟨Y,Z,s,r,en,h⟩=>by
  refine z1A (k:=fun Z x s1=>if x=true then .ok true s1 else fb Z s1) r en h _ fun v H1 Y1 s1 r1 en1 stp h1=>?_;cases v with
  | false=>rw [if_neg (by decide)] at h1 ⊢;exact ⟨Y1,Z,s1,r1,en1,h1⟩ | true=>rw [if_pos rfl] at h1 ⊢;exact h1.here r1 rfl
theorem z2u{fa:FT}(ha:RT X E a fa):RT X E (.UnaryOp .Not a pos) (z6h fa):= z9B (zfI ha) fun O H Q ⟨Y,Z,s,r,en,h⟩=>z1A (k:=fun Z x s1=>.ok (!x) s1) r en h _ fun v H1 Y1 s1 r1 en1 stp h1=>h1.here r1 rfl
theorem kS{f:FE}(h:RE X E a f)(he:∀ whole,isTrue a X.env whole=(do let v <- whole;standAt a.pos;holding [v] (truthy v)):=by intro _;rfl):RT X E a (tOf f):= z9B (zg7 h he) fun O H Q h=>z7u h
def eIf(ft:FT)(fa fb:FE):FE:=fun Z s=>(ft Z s).bind fun x s1=>if x=true then fa Z s1 else fb Z s1
theorem zhs{ft:FT}{fa fb:FE}(hc:RT X E c ft)(ha:RE X E a fa)(hb:RE X E b fb):RE X E (.IfExp c a b pos) (eIf ft fa fb):= yz (zbg hc ha hb) fun O H Q ⟨Y,Z,s,r,en,h⟩=>z1A (k:=fun Z x s1=>if x=true then fa Z s1 else fb Z s1) r en h _ fun v H1 Y1 s1 r1 en1 stp h1=>by cases v with
  | true=>rw [if_pos rfl] at h1 ⊢;exact ⟨Y1,Z,s1,r1,en1,h1⟩ | false=>rw [if_neg (by decide)] at h1 ⊢;exact ⟨Y1,Z,s1,r1,en1,h1⟩
theorem ku {fa fb:FE} (ha:RE X E a fa) (hb:RE X E b fb) (hs:z6W b:=by intro _ _;rfl):RE X E (.Subscript a b pos) (eOp dIx fa fb):=by
 obtain ⟨r,h1,h2⟩:=zk8 (X:=X) (E:=E);exact yz (zfE h1 ha hb hs) fun O H Q h=>z7y h2 h
def zh:FA:=fun _ s=>.ok [] s
def za(fa:FE)(fr:FA):FA:=fun Z s=>(fa Z s).bind fun x s1=>(fr Z s1).bind fun xs s2=>.ok (x::xs) s2
theorem ze:RA X E [] zh:=zcM z7K fun O H Q ⟨Y,Z,s,r,en,h⟩=>h.here r zB.nil
theorem kI{fa:FE}{fr:FA}(ha:RE X E e fa)(hr:RA X E es fr)(hs:starEach (e::es) X.env=(false,eval e X.env)::starEach es X.env:=by rfl):RA X E (e::es) (za fa fr):= zcM (z1j ha hr hs) fun O H Q ⟨Y,Z,s,r,en,h⟩=>by
  refine xb (k:=fun Z x s1=>(fr Z s1).bind fun xs s2=>.ok (x::xs) s2) r en h _ fun v H1 Y1 s1 d r1 en1 dn stp h1=>?_;refine qE (k:=fun Z xs s2=>.ok (d::xs) s2) r1 en1 h1 _ fun vs H2 Y2 s2 ds r2 en2 dn2 stp2 h2=>?_;exact h2.here r2 (zB.cons (dn.mono stp2) dn2)
def jE(f:FA):FE:=fun Z s=>(f Z s).bind fun xs s1=>if xs.length<=cap then .ok (.tup xs) s1 else .no
theorem uH{f:FA}{x1:Nat}(h:RA X E es f):RE X E (.Tuple es x1 pos) (jE f):= yz (zgY h) fun O H Q ⟨Y,Z,s,r,en,h⟩=>by
  refine qE (k:=fun Z xs s1=>if xs.length<=cap then R.ok (D.tup xs) s1 else .no) r en h _ fun vs H2 Y2 s2 ds r2 en2 dn2 stp2 h2=>?_;split at h2
  ·rename_i hl;exact ⟨by rw [dn2.length];exact z1X hl,z30 r2 h2 dn2⟩
  ·exact h2.elim
def z8h(f:FA):FE:=fun Z s=>(f Z s).bind fun xs s1=>if xs.length<=cap then .ok (.lst xs) s1 else .no
theorem z5X{f:FA}(h:RA X E es f):RE X E (.List es pos) (z8h f):= yz (zcF h).freeze fun O H Q ⟨Y,Z,s,r,en,h⟩=>by
  refine qE (k:=fun Z xs s1=>if xs.length<=cap then R.ok (D.lst xs) s1 else .no) r en h _ fun vs H2 Y2 s2 ds r2 en2 dn2 stp2 h2=>?_;split at h2
  ·rename_i hl;exact ⟨by rw [dn2.length];exact z1X hl,z1i r2 h2 dn2⟩
  ·exact h2.elim
def za5(f:FA):FE:=fun Z s=>(f Z s).bind fun xs s1=>if xs.length<=cap/\D.flat.flats xs=true then .ok (.loc s1.length) (s1++[xs]) else .no
theorem zd2{mg:Gm}{H:Hp}{Y:List Addr}{s:Sto}{xs:List D}{vs:List V}{Q:VK}(r:Rep mg H Y s)(h:okR mg E H Y (Den mg) (.ok (.loc s.length) (s++[xs])) Q)(hf:D.flat.flats xs=true)(hd:zB mg H Y xs vs):∀ p,H p=none->Q (.ref p) (upd H p (.lst vs)):=fun p hp=>by
 refine h _ _ _ (wG.layL r hp hd hf) ?_;simp only [Den];exact ⟨p,rfl,by rw [<- r.len];simp,vs,yr⟩
theorem z75{f:FA}(h:RA X E es f):RE X E (.List es pos) (za5 f):= yz (zcF h) fun O H Q ⟨Y,Z,s,r,en,h⟩=>by
  refine qE (k:=fun Z xs s1=>if xs.length<=cap/\D.flat.flats xs=true then R.ok (D.loc s1.length) (s1++[xs]) else .no) r en h _ fun vs H2 Y2 s2 ds r2 en2 dn2 stp2 h2=>?_;split at h2
  ·rename_i hl;exact ⟨by rw [dn2.length];exact z1X hl.1,zd2 r2 h2 hl.2 dn2⟩
  ·exact h2.elim
def z0k(X:Cx)(E:XK)(r:List V->Hp->VK->Prop)(g:List D->Sto->R D):Prop:= ∀ H Y s ds vs (Q:VK),Rep (gm X) H Y s->zB (gm X) H Y ds vs->okR (gm X) E H Y (Den (gm X)) (g ds s) Q->r vs H Q
def zd(g:List D->Sto->R D)(f:FA):FE:=fun Z s=>(f Z s).bind fun xs s1=>g xs s1
theorem zD {x:Str} {p:Pos} {id:String} {g:List D->Sto->R D} {f:FA} (hc:∃ r,wL X (.builtin id) r/\z0k X E r g) (hg:Gl X x) (hm:X.mg x=none) (hv:bootBuiltins x=some (.builtin id)) (ha:RA X E (e::es) f) (hn:x≠"__name__":=by decide) (hdb:(x==("__debug__":Str))=false:=by decide) (he:starEach (e::es) X.env=(false,eval e X.env)::starEach es X.env:=by rfl) (hpl:(backTo pos (starEach es X.env)).any (·.1)=false:=by rfl):RE X E (.Call (.Name x p) (e::es) [] pos) (zd g f):=by
 obtain ⟨r,h1,h2⟩:=hc;exact yz (z7j h1 hg hm hv ha hn hdb he hpl) fun O H Q ⟨Y,Z,s,r,en,h⟩=> qE (k:=fun Z xs s1=>g xs s1) r en h _ fun vs H2 Y2 s2 ds r2 en2 dn2 stp2 h3=>h2 H2 Y2 s2 ds vs Q r2 dn2 h3
theorem yW {x:Str} {p:Pos} {T:String} {g:List D->Sto->R D} {f:FA} (hc:∃ r,wL X (.type T) r/\z0k X E r g) (hg:Gl X x) (hm:X.mg x=none) (hv:bootBuiltins x=some (.type T)) (ha:RA X E (e::es) f) (hn:x≠"__name__":=by decide) (hdb:(x==("__debug__":Str))=false:=by decide) (he:starEach (e::es) X.env=(false,eval e X.env)::starEach es X.env:=by rfl) (hpl:(backTo pos (starEach es X.env)).any (·.1)=false:=by rfl):RE X E (.Call (.Name x p) (e::es) [] pos) (zd g f):=by
 obtain ⟨r,h1,h2⟩:=hc;exact yz (zat h1 hg hm hv ha hn hdb he hpl) fun O H Q ⟨Y,Z,s,r,en,h⟩=> qE (k:=fun Z xs s1=>g xs s1) r en h _ fun vs H2 Y2 s2 ds r2 en2 dn2 stp2 h3=>h2 H2 Y2 s2 ds vs Q r2 dn2 h3
theorem z02{mg:Gm}{H:Hp}{Y:List Addr}{d:D}{vs:List V}(h:zB mg H Y [d] vs):∃ v,vs=[v]/\Den mg H Y d v:=by
 simp only [zB] at h;obtain ⟨v,r,rfl,h1,rfl⟩:=h;exact ⟨v,rfl,h1⟩
theorem z8N{mg:Gm}{H:Hp}{Y:List Addr}{d d':D}{vs:List V}(h:zB mg H Y [d,d'] vs):∃ v v',vs=[v,v']/\Den mg H Y d v/\Den mg H Y d' v':=by
 simp only [zB] at h;obtain ⟨v,r,rfl,h1,v',r',rfl,h2,rfl⟩:=h;exact ⟨v,v',rfl,h1,h2⟩
def yE:List D->Sto->R D
 | [d],s=>match zF s d with | some xs=>.ok (.int xs.length) s | none=>.no
 | _,_=>.no
theorem vI:∃ r,wL X (.builtin "len") r/\z0k X E r yE:=⟨_,z51,fun H Y s ds vs Q r hd h=>by
 unfold yE at h;split at h
 ·split at h
  ·rename_i d xs e;obtain ⟨v,rfl,dn⟩:=z02 hd;obtain ⟨a,ws,rfl,q1,q2⟩:=vE (K:=X.K) r e dn;exact ⟨a,ws,rfl,q1,by rw [q2.length];exact h.here r yR⟩
  ·exact h.elim
 ·exact h.elim⟩
def zQ:List D->Sto->R D
 | [d],s=>match zF s d with | some xs=>.ok (.tup xs) s | none=>.no
 | _,_=>.no
theorem xA:∃ r,wL X (.type "tuple") r/\z0k X E r zQ:=⟨_,z3D,fun H Y s ds vs Q r hd h=>by match ds,hd,h with
 | [],_,h=>exact h.elim | _::_::_,_,h=>exact h.elim | [d],hd,h=>
  obtain ⟨v,rfl,dn⟩:=z02 hd;simp only [zQ] at h;cases e:zF s d with
  | none=>rw [e] at h;exact h.elim | some xs=>
   rw [e] at h;cases d with
   | tup ys=>
    simp only [zF,Option.some.injEq] at e;subst e;obtain ⟨a,ws,rfl,q1,q2⟩:=jD (K:=X.K) dn;exact ⟨a,ws,rfl,.inr ⟨q1,h.here r dn⟩⟩ | lst ys=>
    obtain ⟨a,ws,rfl,q1,q2⟩:=yq (d:=.lst ys) r e dn;exact ⟨a,ws,rfl,.inl ⟨.inl q1,z30 r h q2⟩⟩ | loc l=>
    obtain ⟨a,ws,rfl,q1,q2⟩:=yq (d:=.loc l) r e dn;exact ⟨a,ws,rfl,.inl ⟨.inl q1,z30 r h q2⟩⟩ | scr ys=>
    simp only [zF,Option.some.injEq] at e;subst e;obtain ⟨a,ws,rfl,q1,q2⟩:=zd9 dn;exact ⟨a,ws,rfl,.inl ⟨q1,z30 r h q2⟩⟩ | _=>simp [zF] at e⟩
def zai:List D->Sto->R D
 | [.int i],s=>.ok (.int i) s | [.bl b],s=>.ok (.int (if b then 1 else 0)) s | _,_=>.no
theorem zhf:∃ r,wL X (.type "int") r/\z0k X E r zai:=⟨_,z9V,fun H Y s ds vs Q r hd h=>by
 unfold zai at h;split at h
 ·rename_i i;obtain ⟨v,rfl,dn⟩:=z02 hd;cases yO dn;exact .inl ⟨i,rfl,h.here r yR⟩
 ·rename_i b;obtain ⟨v,rfl,dn⟩:=z02 hd;cases qY dn;exact .inr ⟨b,rfl,h.here r yR⟩
 ·exact h.elim⟩
def zcj:List D->Sto->R D
 | [.int i,.int j],s=>.ok (.int (if j > i then j else i)) s | _,_=>.no
def z6m:List D->Sto->R D
 | [.int i,.int j],s=>.ok (.int (if j<i then j else i)) s | _,_=>.no
theorem zh0(hc:X.calm=true):∃ r,wL X (.builtin "max") r/\z0k X E r zcj:=⟨_,zaY hc,fun H Y s ds vs Q r hd h=>by
 unfold zcj at h;split at h
 ·rename_i i j;obtain ⟨v,v',rfl,d1,d2⟩:=z8N hd;cases yO d1;cases yO d2;exact ⟨i,j,rfl,h.here r yR⟩
 ·exact h.elim⟩
theorem zcO(hc:X.calm=true):∃ r,wL X (.builtin "min") r/\z0k X E r z6m:=⟨_,zae hc,fun H Y s ds vs Q r hd h=>by
 unfold z6m at h;split at h
 ·rename_i i j;obtain ⟨v,v',rfl,d1,d2⟩:=z8N hd;cases yO d1;cases yO d2;exact ⟨i,j,rfl,h.here r yR⟩
 ·exact h.elim⟩
abbrev FO:=Ev->Sto->R (Option Int)
def oD(_:Hp)(_:List Addr)(a b:Option Int):Prop:=a=b
def tO(mg:Gm)(E:XK)(f:FO):TO:=fun O H Q=>∃ Y Z s,Rep mg H Y s/\uf mg H Y Z O/\okR mg E H Y oD (f Z s) Q
def RO(X:Cx)(E:XK)(e:Option Expr)(f:FO):Prop:=PO X e (tO (gm X) E f)
theorem zcZ{o:Option Expr}{t t':TO}(h:PO X o t)(i:∀ O H Q,t' O H Q->t O H Q):PO X o t':=fun pins s O H Q I q=>h pins s O H Q I (i O H Q q)
def zZ:FO:=fun _ s=>.ok none s
def wn(f:FE):FO:=fun Z s=>(f Z s).bind fun d s1=>match d with | .int i=>.ok (some i) s1 | _=>.no
theorem um:RO X E none zZ:=zcZ zeK fun O H Q ⟨Y,Z,s,r,en,h⟩=>h.here (b:=none) r rfl
theorem uk{f:FE}(h:RE X E e f):RO X E (some e) (wn f):=zcZ (zea h) fun O H Q ⟨Y,Z,s,r,en,h⟩=>by
 refine xb (k:=fun Z d s1=>match d with | .int i=>.ok (some i) s1 | _=>.no) r en h _ fun v H1 Y1 s1 d r1 en1 dn stp h1=>?_;cases d with
 | int i=>cases yO dn;exact ⟨i,rfl,h1.here (b:=some i) r1 rfl⟩ | _=>exact h1.elim
def cutD(xs:List D)(lo hi:Option Int):List D:=(xs.drop (HT.sIx xs.length 0 lo)).take (HT.sIx xs.length xs.length hi-HT.sIx xs.length 0 lo)
theorem z3B{mg:Gm}{H:Hp}{Y:List Addr}{xs:List D}{vs:List V}(h:zB mg H Y xs vs)(lo hi:Option Int):zB mg H Y (cutD xs lo hi) (zcJ vs lo hi):=by
 unfold cutD zcJ;rw [h.length];exact (h.drop _).take _
def dSl(x:D)(lo hi:Option Int)(s:Sto):R D:=match x with
 | .tup xs=>.ok (.tup (cutD xs lo hi)) s | x=>match listOf s x with | some xs=>.ok (.lst (cutD xs lo hi)) s | none=>.no
def eSl(fe:FE)(fl fh:FO):FE:=fun Z s=>(fe Z s).bind fun x s1=>(fl Z s1).bind fun lo s2=>(fh Z s2).bind fun hi s3=>dSl x lo hi s3
theorem z9I{α β:Type}{Dn:Hp->List Addr->α->β->Prop}{mg:Gm}{f:FO}{k:Ev->Option Int->Sto->R α}{O:L2.St}{H:Hp}{Q:β->Hp->Prop}{Y:List Addr}{Z:Ev}{s:Sto}(r:Rep mg H Y s)(en:uf mg H Y Z O) (h:okR mg E H Y Dn ((f Z s).bind (k Z)) Q)(K:Option Int->Hp->Prop) (hK:∀ v H1 Y1 s1,Rep mg H1 Y1 s1->uf mg H1 Y1 Z O->wG mg H Y H1 Y1 s1->okR mg E H1 Y1 Dn (k Z v s1) Q->K v H1):tO mg E f O H K:= ⟨Y,Z,s,r,en,(okR.bind (Dn:=oD) h).imp fun v H1 ⟨Y1,s1,d,stp,dn,q⟩=>hK v H1 Y1 s1 stp.rep (en.mono stp) stp (by cases (show d=v from dn);exact q)⟩
theorem wz{lo hi:Option Expr}{p2:Pos}{fe:FE}{fl fh:FO}(he:RE X E e fe)(hl:RO X E lo fl)(hh:RO X E hi fh):RE X E (.Subscript e (.Slice lo hi none p2) pos) (eSl fe fl fh):= yz (zbV ((zgj.or zer).or zdl.freeze) he hl hh) fun O H Q ⟨Y,Z,s,r,en,h⟩=>by
  refine xb (k:=fun Z x s1=>(fl Z s1).bind fun lo s2=>(fh Z s2).bind fun hi s3=>dSl x lo hi s3) r en h _ fun v H1 Y1 s1 d r1 en1 dn stp h1=>?_;refine z9I (k:=fun Z lo s2=>(fh Z s2).bind fun hi s3=>dSl d lo hi s3) r1 en1 h1 _ fun lo H2 Y2 s2 r2 en2 stp2 h2=>?_;refine z9I (k:=fun Z hi s3=>dSl d lo hi s3) r2 en2 h2 _ fun hi H3 Y3 s3 r3 en3 stp3 h3=>?_;have dn3:=(dn.mono stp2).mono stp3;cases d with
  | tup xs=>
   obtain ⟨a,vs,rfl,q1,q2⟩:=jD (K:=X.K) dn3;have h3':okR (gm X) E H3 Y3 (Den (gm X)) (.ok (.tup (cutD xs lo hi)) s3) Q:=h3;by_cases hw:HT.sIx vs.length 0 lo=0/\HT.sIx vs.length vs.length hi=vs.length
   ·refine .inl (.inr ⟨a,vs,rfl,q1,hw,?_⟩);have e:cutD xs lo hi=xs:=by
     unfold cutD;rw [<- q2.length,hw.1,hw.2];simp [q2.length]
    rw [e] at h3';exact h3'.here r3 dn3
   ·exact .inl (.inl ⟨a,vs,rfl,q1,hw,z30 r3 h3' (z3B q2 lo hi)⟩) | lst xs=>
   obtain ⟨a,vs,rfl,q1,q2⟩:=yq (d:=.lst xs) r3 rfl dn3;exact .inr ⟨a,vs,rfl,.inl q1,z1i r3 h3 (z3B q2 lo hi)⟩ | loc l=>
   simp only [dSl] at h3;split at h3
   ·rename_i xs e;obtain ⟨a,vs,rfl,q1,q2⟩:=yq (d:=.loc l) r3 e dn3;exact .inr ⟨a,vs,rfl,.inl q1,z1i r3 h3 (z3B q2 lo hi)⟩
   ·exact h3.elim | _=>exact h3.elim
end
abbrev Mir:=List D->Sto->R D
def zdy(mg:Gm)(M:Mir):Sp:=fun vs H Q E=>∃ Y s ds,Rep mg H Y s/\zB mg H Y ds vs/\okR mg E H Y (Den mg) (M ds s) Q
def Has(P:Program)(w:World)(K:W.Frag)(mg:Str->Option Value)(base:Heap)(CX:CXT)(x:Str)(n:Nat)(M:Mir):Prop:= ∃ f fd ps,z33 P w K mg base CX n f fd ps (zdy ⟨mg,K⟩ M)/\Binds K fd ps []/\W.keepIn K (.ref f)=true/\mg x=some (.ref f)
section
variable {X:Cx}{E:XK}{e a b c:Expr}{es:List Expr}{pos:Pos}{CX:CXT}
theorem zt {x:Str} {p:Pos} {n:Nat} {M:Mir} {f:FA} (F:Has X.prog X.w X.K X.mg X.base CX x n M) (hr:z1a n X.A) (hx:Passes CX X E) (hg:Gl X x) (ha:RA X E (e::es) f) (hdb:(x==("__debug__":Str))=false:=by decide) (he:starEach (e::es) X.env=(false,eval e X.env)::starEach es X.env:=by rfl) (hpl:(backTo pos (starEach es X.env)).any (·.1)=false:=by rfl):RE X E (.Call (.Name x p) (e::es) [] pos) (zd M f):=by
 obtain ⟨fa,fd,ps,F,hb,hk,hm⟩:=F;refine yz (zdY F hr hg hm hk hb .nil hx ha hdb he hpl) fun O H Q ⟨Y,Z,s,r,en,h⟩=>?_;refine qE (k:=fun Z xs s1=>M xs s1) r en h _ fun vs H2 Y2 s2 ds r2 en2 dn2 stp2 h3=>?_;rw [List.append_nil];exact ⟨Y2,s2,ds,r2,dn2,h3⟩
def zS(f g:FS):FS:=fun Z s=>(f Z s).bind fun fl s1=>match fl with | .nx Z'=>g Z' s1 | fl=>.ok fl s1
def xJ:FS:=fun Z s=>.ok (.nx Z) s
variable {st:Stmt}{rs:List Stmt}
theorem zgy {mg:Gm} {f g:FS} {D:zbT} {O:L2.St} {H:Hp} (h:tS mg E (zS f g) D O H):zjf (tS mg E f) (tS mg E g) D O H:=by
 obtain ⟨Y,Z,s,r,en,h⟩:=h;refine ⟨Y,Z,s,r,en,(okR.bind (Dn:=FlD mg) h).imp fun fv H1 ⟨Y1,s1,fl,stp,dn,q⟩=>?_⟩;cases fl with
 | nx Z'=> cases fv with
  | nx O'=>exact ⟨Y1,Z',s1,stp.rep,dn,q⟩ | _=>exact (show False from dn).elim
 | rt d=> cases fv with
  | rt v=>exact okR.here (b:=FlV.rt v) (Q:=z4y D) (s:=s1) (a:=Fl.rt d) q stp.rep dn | _=>exact (show False from dn).elim
 | bk Z'=> cases fv with
  | bk v=>exact okR.here (b:=FlV.bk v) (Q:=z4y D) (s:=s1) (a:=Fl.bk Z') q stp.rep dn | _=>exact (show False from dn).elim
 | ct Z'=> cases fv with
  | ct v=>exact okR.here (b:=FlV.ct v) (Q:=z4y D) (s:=s1) (a:=Fl.ct Z') q stp.rep dn | _=>exact (show False from dn).elim
theorem yI:RSs X E [] xJ:=z6n zeC fun D O H ⟨Y,Z,s,r,en,h⟩=>okR.here (b:=FlV.nx O) h r en
theorem zf{f g:FS}(h1:RS X E st f)(h2:RSs X E rs g):RSs X E (st::rs) (zS f g):=z6n (z47 h1 h2) fun D O H h=>zgy h
theorem zj{f:FS}(h1:RS X E st f):RSs X E [st] f:=zei h1
def fNo:FS:=fun _ _=>.no
theorem z0f:RS X E st fNo:=uV zce fun D O H ⟨_,_,_,_,_,h⟩=>h
def vH(f:FE):FS:=fun Z s=>(f Z s).bind fun _ s1=>.ok (.nx Z) s1
theorem wJ {f:FE} (he:RE X E e f) (hs:swapsWith e none pos.line X.env=pure false:=by rfl):RS X E (.Expr e pos) (vH f):= uV (zdR he hs) fun D O H ⟨Y,Z,s,r,en,h⟩=>xb (k:=fun Z _ s1=>R.ok (Fl.nx Z) s1) r en h _ fun v H1 Y1 s1 d r1 en1 dn stp h1=>okR.here (b:=FlV.nx O) (Q:=z4y D) h1 r1 en1
def xH(f:FE):FS:=fun Z s=>(f Z s).bind fun d s1=>.ok (.rt d) s1
theorem ye {f:FE} (he:RE X E e f):RS X E (.Return (some e) pos) (xH f):= uV (zfj he) fun D O H ⟨Y,Z,s,r,en,h⟩=>xb (k:=fun Z d s1=>R.ok (Fl.rt d) s1) r en h _ fun v H1 Y1 s1 d r1 en1 dn stp h1=>okR.here (b:=FlV.rt v) (Q:=z4y D) h1 r1 dn
def fIf(ft:FT)(f g:FS):FS:=fun Z s=>(ft Z s).bind fun x s1=>if x=true then f Z s1 else g Z s1
theorem kH{ft:FT}{f g:FS}{as bs:List Stmt}(hc:RT X E c ft)(ha:RSs X E as f)(hb:RSs X E bs g):RS X E (.If c as bs pos) (fIf ft f g):= uV (ziw hc ha hb) fun D O H ⟨Y,Z,s,r,en,h⟩=>z1A (k:=fun Z x s1=>if x=true then f Z s1 else g Z s1) r en h _ fun v H1 Y1 s1 r1 en1 stp h1=>by cases v with
  | true=>rw [if_pos rfl] at h1 ⊢;exact ⟨Y1,Z,s1,r1,en1,h1⟩ | false=>rw [if_neg (by decide)] at h1 ⊢;exact ⟨Y1,Z,s1,r1,en1,h1⟩
abbrev FG:=D->Ev->Sto->R Ev
def tG(mg:Gm)(E:XK)(f:FG):TG:=fun v O H Q=>∃ Y Z s d,Rep mg H Y s/\uf mg H Y Z O/\Den mg H Y d v/\okR mg E H Y (uf mg) (f d Z s) (fun O' H'=>Q O' H')
def RG(X:Cx)(E:XK)(tg:Expr)(f:FG):Prop:=PG X tg (tG (gm X) E f)
theorem zd5{tg:Expr}{t t':TG}(h:PG X tg t)(i:∀ v O H Q,t' v O H Q->t v O H Q):PG X tg t':=fun pins s O H v u Q I r q=>h pins s O H v u Q I r (i v O H Q q)
def yn(i:Nat):FG:=fun d Z s=>.ok (Z.set i (some d)) s
theorem jO(i:Nat){x:Str}(hN:X.N.Nodup)(hi:X.N[i]? = some x:=by rfl)(hx:Loc X.env.scope x:=by first | exact Or.inl rfl | exact Or.inr rfl)(hf:X.fn x=true\/X.env.scope.names.lookup x=some .local:=by first | exact .inl rfl | exact .inr rfl | assumption):RG X E (.Name x pos) (yn i):= zd5 (zW hN hi hx hf) fun v O H Q ⟨Y,Z,s,d,r,en,dn,h⟩=>okR.here (b:=O.set i (some v)) h r (en.set dn i)
def xN(i j:Nat):FG:=fun d Z s=>match d with | .tup [x,y]=>.ok ((Z.set i (some x)).set j (some y)) s | _=>.no
theorem z1F(i j:Nat){x y:Str}{px py:Pos}{kt:Nat}(hc:X.calm=true)(hN:X.N.Nodup)(hi:X.N[i]? = some x:=by rfl)(hj:X.N[j]? = some y:=by rfl)(hx:Loc X.env.scope x:=by first | exact Or.inl rfl | exact Or.inr rfl)(hy:Loc X.env.scope y:=by first | exact Or.inl rfl | exact Or.inr rfl) (hf:X.fn x=true\/X.env.scope.names.lookup x=some .local:=by first | exact .inl rfl | exact .inr rfl | assumption)(hf':X.fn y=true\/X.env.scope.names.lookup y=some .local:=by first | exact .inl rfl | exact .inr rfl | assumption): RG X E (.Tuple [.Name x px,.Name y py] kt pos) (xN i j):= zd5 (zcw hc (z13 (zW hN hi hx hf) (z13 (zW hN hj hy hf') zaC))) fun v O H Q ⟨Y,Z,s,d,r,en,dn,h⟩=>by
  unfold xN at h;split at h
  ·rename_i d1 d2;obtain ⟨p,vs,rfl,q1,q2⟩:=jD (K:=X.K) dn;obtain ⟨v1,v2,rfl,e1,e2⟩:=z8N q2;exact ⟨p,[v1,v2],rfl,q1,rfl,v1,[v2],rfl,v2,[],rfl,rfl,okR.here h r ((en.set e1 i).set e2 j)⟩
  ·exact h.elim
def wF(i:Nat)(f:FE):FS:=fun Z s=>(f Z s).bind fun d s1=>.ok (.nx (Z.set i (some d))) s1
theorem xI (i:Nat) {x:Str} {pos':Pos} {f:FE} (hN:X.N.Nodup) (he:RE X E e f) (hi:X.N[i]? = some x:=by rfl) (hx:Loc X.env.scope x:=by first | exact Or.inl rfl | exact Or.inr rfl) (hs:swapsWith e (some (.Name x pos')) pos.line X.env=pure false:=by rfl) (hf:X.fn x=true\/X.env.scope.names.lookup x=some .local:=by first | exact .inl rfl | exact .inr rfl | assumption):RS X E (.Assign [.Name x pos'] e pos) (wF i f):= uV (zgk hN hi hx he hs hf) fun D O H ⟨Y,Z,s,r,en,h⟩=>xb (k:=fun Z d s1=>R.ok (Fl.nx (Z.set i (some d))) s1) r en h _ fun v H1 Y1 s1 d r1 en1 dn stp h1=>okR.here (b:=FlV.nx (O.set i (some v))) (Q:=z4y D) h1 r1 (en1.set dn i)
def zbr(f:FE)(g:FG):FS:=fun Z s=>(f Z s).bind fun d s1=>(g d Z s1).bind fun Z' s2=>.ok (.nx Z') s2
theorem z6H {tg:Expr} {f:FE} {g:FG} (he:RE X E e f) (hg:RG X E tg g) (hs:swapsWithSole [tg] e pos.line X.env=pure false:=by rfl) (hw:swappedStores [tg] e X.env=pure none:=by rfl) (h1:(assignEach [tg] X.env).map (·.2)=[assign tg X.env]:=by rfl):RS X E (.Assign [tg] e pos) (zbr f g):= uV (zd3 he hg hs hw h1) fun D O H ⟨Y,Z,s,r,en,h⟩=>xb (k:=fun Z d s1=>(g d Z s1).bind fun Z' s2=>R.ok (Fl.nx Z') s2) r en h _ fun v H1 Y1 s1 d r1 en1 dn stp h1=> ⟨Y1,Z,s1,d,r1,en1,dn,(okR.bind (Dn:=uf (gm X)) h1).imp fun O' H' ⟨Y2,s2,Z',stp2,en2,q⟩=>okR.here (b:=FlV.nx O') (Q:=z4y D) q stp2.rep en2⟩
def ziF(i j:Nat)(f:FA):FS:=fun Z s=>(f Z s).bind fun ds s1=>match ds with | [x,y]=>.ok (.nx ((Z.set i (some x)).set j (some y))) s1 | _=>.no
theorem ziH (i j:Nat) {x y:Str} {px py pt:Pos} {kt k2:Nat} {pt2:Pos} {f:FA} (hc:X.calm=true) (hN:X.N.Nodup) (ha:RA X E [a,b] f) (hi:X.N[i]? = some x:=by rfl) (hj:X.N[j]? = some y:=by rfl) (hij:i≠j:=by decide) (hx:X.env.scope.names.lookup x=some .local:=by rfl) (hy:X.env.scope.names.lookup y=some .local:=by rfl) (hw:swappedStores [.Tuple [.Name x px,.Name y py] kt pt] (.Tuple [a,b] k2 pt2) X.env=pure (some [x,y]):=by rfl) (hs:swapsWithSole [.Tuple [.Name x px,.Name y py] kt pt] (.Tuple [a,b] k2 pt2) pos.line X.env=pure false:=by rfl): RS X E (.Assign [.Tuple [.Name x px,.Name y py] kt pt] (.Tuple [a,b] k2 pt2) pos) (ziF i j f):= uV (zgf hc hN hi hj hij hx hy ha hw hs) fun D O H ⟨Y,Z,s,r,en,h⟩=>by
  refine qE (k:=fun Z ds s1=>match ds with | [x,y]=>R.ok (Fl.nx ((Z.set i (some x)).set j (some y))) s1 | _=>.no) r en h _ fun vs H1 Y1 s1 ds r1 en1 dn stp h1=>?_;match ds,dn,h1 with
  | [],_,h1=>exact h1.elim | [_],_,h1=>exact h1.elim | _::_::_::_,_,h1=>exact h1.elim | [d1,d2],dn,h1=>
   obtain ⟨v1,v2,rfl,e1,e2⟩:=z8N dn;exact ⟨v1,v2,rfl,okR.here (b:=FlV.nx ((O.set i (some v1)).set j (some v2))) (Q:=z4y D) h1 r1 ((en1.set e1 i).set e2 j)⟩
def z4q(fo fi fv:FE):FS:=fun Z s=>(fv Z s).bind fun d s1=>(fo Z s1).bind fun o s2=>(fi Z s2).bind fun i s3=>match o,i with
 | .loc l,.int k=>match s3[l]? with
  | some xs=>match ixN xs.length k with
   | some j=>if d.flat=true then .ok (.nx Z) (s3.set l (xs.set j d)) else .no | none=>.no
  | none=>.no
 | _,_=>.no
theorem z4P:∀ {xs:List D}{d:D}{j:Nat},D.flat.flats xs=true->d.flat=true->D.flat.flats (xs.set j d)=true
 | [],_,_,_,_=>rfl | x::xs,d,0,h,hd=>by
  simp only [D.flat.flats,Bool.and_eq_true,List.set_cons_zero] at h ⊢;exact ⟨hd,h.2⟩ | x::xs,d,j+1,h,hd=>by
  simp only [D.flat.flats,Bool.and_eq_true,List.set_cons_succ] at h ⊢;exact ⟨h.1,z4P h.2 hd⟩
theorem z0K:∀ {xs ys:List D},D.flat.flats xs=true->D.flat.flats ys=true->D.flat.flats (xs++ys)=true
 | [],_,_,h=>h | x::xs,ys,h,h'=>by
  simp only [D.flat.flats,Bool.and_eq_true,List.cons_append] at h ⊢;exact ⟨h.1,z0K h.2 h'⟩
theorem z5p {o i:Expr} {p1:Pos} {fo fi fv:FE} (hv:RE X E e fv) (ho:RE X E o fo) (hi:RE X E i fi) (ha:∀ v,assign (.Subscript o i p1) X.env v=(do
   let ov <- holding [v] (eval o X.env) let iv <- holding [v,ov] (eval i X.env)
   standAt p1
   holding [v,ov,iv] (setItem ov iv v)
   release [v,ov,iv] []):=by intro _;rfl) (hs:swapsWithSole [.Subscript o i p1] e pos.line X.env=pure false:=by rfl) (hw:swappedStores [.Subscript o i p1] e X.env=pure none:=by rfl) (h1:(assignEach [.Subscript o i p1] X.env).map (·.2)=[assign (.Subscript o i p1) X.env]:=by rfl):RS X E (.Assign [.Subscript o i p1] e pos) (z4q fo fi fv):= uV (zd3 hv (zfo ho hi set_list ha) hs hw h1) fun D O H ⟨Y,Z,s,r,en,h⟩=>by
  unfold z4q at h;refine ⟨Y,Z,s,r,en,(okR.bind (Dn:=Den (gm X)) h).imp fun v H1 ⟨Y1,s1,d,stp,dn,h1⟩=>?_⟩;refine ⟨Y1,Z,s1,stp.rep,en.mono stp,(okR.bind (Dn:=Den (gm X)) h1).imp fun ov H2 ⟨Y2,s2,od,stp2,dn2,h2⟩=>?_⟩;refine ⟨Y2,Z,s2,stp2.rep,(en.mono stp).mono stp2,(okR.bind (Dn:=Den (gm X)) h2).imp fun iv H3 ⟨Y3,s3,id,stp3,dn3,h3⟩=>?_⟩;have en3:=((en.mono stp).mono stp2).mono stp3;have dv:=(dn.mono stp2).mono stp3;have dov:=dn2.mono stp3;cases od with
  | loc l=> cases id with
   | int k=>
    simp only at h3;split at h3
    ·rename_i xs ex;split at h3
     ·rename_i j ej;split at h3
      ·rename_i hf;cases yO dn3;simp only [Den] at dov;obtain ⟨a,rfl,e1,ka⟩:=dov;obtain ⟨vs,q1,q2⟩:=stp3.rep.at_ ex e1 ka;have stp4:=wG.put (l:=l) (xs:=xs.set j d) stp3.rep e1 ka (q2.set j dv) (z4P (stp3.rep.flat xs (List.mem_of_getElem? ex)) hf);exact ⟨a,vs,k,j,rfl,rfl,q1,by rw [q2.length];exact ej,h3 (.nx O) _ _ stp4 (en3.mono stp4)⟩
      ·exact h3.elim
     ·exact h3.elim
    ·exact h3.elim | _=>exact h3.elim
  | _=>exact h3.elim
def z8G(fo fv:FE):FE:=fun Z s=>(fo Z s).bind fun o s1=>match o with
 | .loc l=>(fv Z s1).bind fun d s2=>match s2[l]? with
  | some xs=>if d.flat=true/\xs.length<cap then .ok .non (s2.set l (xs++[d])) else .no | none=>.no
 | _=>.no
theorem jx {o:Expr} {apos:Pos} {fo fv:FE} (ho:RE X E o fo) (hv:RE X E e fv) (hbase:attributeBase o "append" X.env (eval o X.env)=eval o X.env:=by rfl) (hfew:((backTo pos (starEach [e] X.env)).all (fun x=>!x.1)&&(backToKw pos (keywordEach [] X.env)).all (fun x=>x.1.isSome) && decide ([e].length+([]:List Keyword).length+(if ([]:List Keyword).isEmpty then 0 else 1)<30))=true:=by rfl) (hline:(apos.endLine==pos.line)=true:=by rfl) (hs:starEach [e] X.env=(false,eval e X.env)::starEach [] X.env:=by rfl) (hplain:(backTo pos (starEach [] X.env)).any (·.1)=false:=by rfl): RE X E (.Call (.Attribute o "append" apos) [e] [] pos) (z8G fo fv):= yz (zii PySem.F.plainAttrs_list PySem.F.slot_list_append PySem.F.type_list_append zb1 ho (z1j hv z7K hs) hbase hfew hline hs hplain) fun O H Q ⟨Y,Z,s,r,en,h⟩=>by
  unfold z8G at h;refine ⟨Y,Z,s,r,en,(okR.bind (Dn:=Den (gm X)) h).imp fun ov H1 ⟨Y1,s1,od,stp,dn,h1⟩=>?_⟩;cases od with
  | loc l=>
   simp only at h1;have hty:tyV X.K "list" ov H1:=by
    simp only [Den] at dn;obtain ⟨a,rfl,e1,vs,e2⟩:=dn;exact .inl ⟨rfl,vs,.inl (.inl e2)⟩
   refine ⟨hty,⟨Y1,Z,s1,stp.rep,en.mono stp,(okR.bind (Dn:=Den (gm X)) h1).imp fun v H2 ⟨Y2,s2,d,stp2,dn2,h2⟩=>?_⟩⟩;split at h2
   ·rename_i xs ex;split at h2
    ·rename_i hf;have dov:=dn.mono stp2;simp only [Den] at dov;obtain ⟨a,rfl,e1,ka⟩:=dov;obtain ⟨vs,q1,q2⟩:=stp2.rep.at_ ex e1 ka;have stp3:=wG.put (l:=l) (xs:=xs++[d]) stp2.rep e1 ka (q2.append (zB.one dn2)) (z0K (stp2.rep.flat xs (List.mem_of_getElem? ex)) (by simp [D.flat.flats,hf.1]));refine ⟨a,vs,v,rfl,rfl,q1,by rw [q2.length];exact zfv hf.2,h2 .non _ _ stp3 (by simp [Den])⟩
    ·exact h2.elim
   ·exact h2.elim | _=>exact h1.elim
end
end Dd
namespace L2
open PySem.Spec
theorem zg8{X:Cx}{tg l:Expr}{tl:TE}(hl:PE X l tl):PI X tg l (fun O H R=>tl O H fun x H1=>∃ a,x=.ref a/\(((∃ xs,SqL X.K H1 a xs)/\R (Itl X.K a) H1)\/((∃ xs,SqT X.K H1 a xs)/\R (Itt X.K a) H1))):=by
 intro pins s O H R I h;refine thn (hl pins s O H _ I h) fun v s1 ⟨x,H1,I1,r1,q1⟩=>?_;obtain ⟨a,e,q⟩:=q1;subst e;cases r1;rcases q with ⟨⟨xs,hq⟩,q⟩ | ⟨⟨xs,hq⟩,q⟩
 ·obtain ⟨its,rv,p,hz⟩:=I1.list hq;refine wpAny_pyIter_list p.isList ?_;refine ⟨s1.heap.objs.size,[s1.heap.objs.size],_,_,H1,rfl,I1.kept (t':=s1.toks) fun b o e=>Heap.get?_push_of_some _ e,z9v a _,⟨_,Heap.get?_push_size _ rfl,rfl,rfl⟩,fun b hb=>?_,q⟩;have e:b=s1.heap.objs.size:=by simpa using hb
  subst e;exact I1.fpOk (Nat.le_refl _) (I1.hok.fresh (Nat.le_refl _))
 ·obtain ⟨its,rv,p,hz⟩:=I1.tuple hq;refine wpAny_pyIter_tuple (show s1.heap.IsTuple a its.toArray from p) ?_;refine ⟨s1.heap.objs.size,[s1.heap.objs.size],_,_,H1,rfl,I1.kept (t':=s1.toks) fun b o e=>Heap.get?_push_of_some _ e,z8m a _,⟨_,Heap.get?_push_size _ rfl,rfl,rfl⟩,fun b hb=>?_,q⟩;have e:b=s1.heap.objs.size:=by simpa using hb
  subst e;exact I1.fpOk (Nat.le_refl _) (I1.hok.fresh (Nat.le_refl _))
theorem z17.freeze{X:Cx}{pins:List (Addr×Obj)}{O:L2.St}{C:Addr}{Q:VK}{acc:Value}{s':Shared}(h:z17 X pins O C (zbY Q) acc s'):z17 X pins O C Q acc s':=by
 obtain ⟨v,Hf,I,r,⟨a,xs,rfl,ha,q⟩,hm,f⟩:=h;obtain ⟨its,n,rv,e,_⟩:=I.lst ha;refine ⟨_,_,I.freeze ha e (by intro _ z;cases z) (by intro _ _ z;cases z) (by intro _ z;cases z) (by intro _ z;cases z),r,q _,hm,?_,f.2⟩;rw [zH (fun z=>by have:=f.1;rw [z,ha] at this;cases this)];exact f.1
theorem z6F {X:Cx} {tg iter elt:Expr} {ifs:List Expr} {scope:Scope} {pos spos py:Pos} {wi:TI} {g:TG} {ti:TT} {te:TE} {i:Nat} {y:Str} (N':List Str) (mp:List (Option Nat)) (hN:X.N.Nodup) (hy:X.N[i]? = some y) (hyl:Loc X.env.scope y) (hc:X.calm=true) (hi:PI X tg iter wi) (hg:∀ ex s H,PG (zX X N' scope ex s H) tg g) (ht:∀ ex s H,z7l (zX X N' scope ex s H) ifs ti) (he:∀ ex s H,PE (zX X N' scope ex s H) elt te) (hkd:scope.kind=.function) (hnm:∀ y∈scope.names,scope.names.lookup y.1=some y.2) (hfr:∀ y∈scope.names,y.2=.free->X.env.kindOf y.1=some .cell\/X.env.kindOf y.1=some .free) (hmp:z3v X.N scope.names N' mp=true) (hs:∀ x,foldedSetIterable iter X.env x=pure x:=by intro _;rfl) (hsw:swapsWith (.ListComp elt [⟨tg,iter,ifs,0⟩] scope pos) (some (.Name y py)) spos.line X.env=pure true:=by rfl) (hf:X.fn y=true\/X.env.scope.names.lookup y=some .local:=by first | exact .inl rfl | exact .inr rfl | assumption): PS X (.Assign [.Name y py] (.ListComp elt [⟨tg,iter,ifs,0⟩] scope pos) spos) (fun D O H=>zch wi mp g ti te O H (zbY fun v H'=>D.nx (O.set i (some v)) H')):=by
 intro pins s O H D I h;rw [exec_Assign_Name_used _ _ _ _ hsw];refine wpAny_bind (wpAny_standAt (wpAny_bind ?_));show wpAny _ X.A (do let _ <- comprehension (.ListComp elt [⟨tg,iter,ifs,0⟩] scope pos) scope X.env _ (newList []) false (eval iter X.env) (some (assign (.Name y py) X.env))) _ _ s;refine wpAny_bind (wpAny_mono (wpAny_comprehension_free (use:=some (assign (.Name y py) X.env)) (Q:=fun _ s'=>SP X pins D .next s') rfl hs (qm fun y hy hf=>I.ok.has _ (hfr y hy hf)) hkd (fun y hy hl=>by rw [hnm y hy,hl]) (thn (hi pins s O H _ I h) fun xv s₁ h₁=>thn h₁ fun itv s₂ h₂=>?_)) (fun _ s' hq=>wpAny_pure (wpAny_pure hq)) fun _ _ e=>e);obtain ⟨it,fp,tn,J,H2,e,I2,T,st2,f2,W,w0,turn⟩:=h₂;subst e;refine z04 (N':=N') (mp:=mp) (O:=O) (pins:=pins) (Q:=zbY fun v H'=>D.nx (O.set i (some v)) H') (RR:=fun acc C=>compPost (model X.prog X.w) X.A X.xe (some (assign (.Name y py) X.env)) (fun _ s'=>SP X pins D .next s') acc C) hc hg ht he hkd hnm hfr hmp I2 T st2 f2 W w0 turn ?_;intro acc C s' hd;obtain ⟨v,Hf,I3,r,q,⟨m,hm⟩,f⟩:=hd.freeze;refine wpAny_assign_Name (z1t I3 hN hy hyl r (fun s'' I4 ⟨a,sb,ha⟩=>?_) hf);have hC:C≠a:=by
  rcases ha with z | z;·rw [z];exact f.2.1
  ·exact Ne.symm (f.2.2.2.2.1 y a z)
 exact ⟨m,hm.sameBut sb hC,fun h' sb'=>⟨_,Hf,kq I4 f sb',q⟩⟩
end L2
namespace Dd
open PySem.Spec L2
abbrev ItD:=List D×List (Nat×List D)
def okG(g:List (Nat×List D))(all:List D)(s:Sto):Prop:=∀ p∈g,s[p.1]? = some p.2
def zet(mg:Gm)(H0:Hp)(Y0:List Addr)(a:ItD)(J:It):Prop:=∀ H Y s,wG mg H0 Y0 H Y s->okG a.2 a.1 s->∀ i:Nat, (∀ d,a.1[i]? = some d->J.go i H/\∀ x H',J.yld i H x H'->∃ Y',wG mg H Y H' Y' s/\Den mg H' Y' d x)/\(a.1.length<=i->J.stop i H)
abbrev FI:=Ev->Sto->R ItD
def tI(mg:Gm)(E:XK)(f:FI):TI:=fun O H Rr=>∃ Y Z s,Rep mg H Y s/\uf mg H Y Z O/\okR mg E H Y (zet mg) (f Z s) Rr
def RI(X:Cx)(E:XK)(tg it:Expr)(f:FI):Prop:=PI X tg it (tI (gm X) E f)
section
variable {X:Cx}{E:XK}{e a b c tg:Expr}{es:List Expr}{pos:Pos}{CX:CXT}
theorem z8e{it:Expr}{t t':TI}(h:PI X tg it t)(i:∀ O H Q,t' O H Q->t O H Q):PI X tg it t':=fun pins s O H Q I q=>h pins s O H Q I (i O H Q q)
def zV(f:FE):FI:=fun Z s=>(f Z s).bind fun d s1=>match d with
 | .tup xs=>.ok (xs,[]) s1 | .lst xs=>.ok (xs,[]) s1 | .loc l=>match s1[l]? with | some xs=>.ok (xs,[(l,xs)]) s1 | none=>.no
 | _=>.no
theorem vg{f:FE}(h:RE X E e f):RI X E tg e (zV f):=z8e (zg8 h) fun O H Q ⟨Y,Z,s,r,en,h⟩=>by
 unfold zV at h;refine ⟨Y,Z,s,r,en,(okR.bind (Dn:=Den (gm X)) h).imp fun v H1 ⟨Y1,s1,d,stp,dn,h1⟩=>?_⟩;have lst:∀ (a:Addr)(xs:List D)(g:List (Nat×List D)),(∀ H2 Y2 s2,wG (gm X) H1 Y1 H2 Y2 s2->okG g xs s2->∃ ws,SqL X.K H2 a ws/\zB (gm X) H2 Y2 xs ws)->zet (gm X) H1 Y1 (xs,g) (Itl X.K a):=fun a xs g hq H2 Y2 s2 stp2 hg i=>by
  obtain ⟨ws,q1,q2⟩:=hq H2 Y2 s2 stp2 hg;refine ⟨fun d hd=>?_,fun hl=>⟨ws,q1,by rw [q2.length];exact hl⟩⟩;obtain ⟨v,e1,e2⟩:=q2.get hd;refine ⟨⟨ws,v,q1,e1⟩,fun x H' ⟨e3,y⟩=>?_⟩;subst e3;have e4:=y ws q1;rw [e1] at e4;cases e4;exact ⟨Y2,.refl stp2.rep,e2⟩
 have tup:∀ (a:Addr)(xs:List D),(∀ H2 Y2 s2,wG (gm X) H1 Y1 H2 Y2 s2->∃ ws,SqT X.K H2 a ws/\zB (gm X) H2 Y2 xs ws)->zet (gm X) H1 Y1 (xs,[]) (Itt X.K a):=fun a xs hq H2 Y2 s2 stp2 hg i=>by
  obtain ⟨ws,q1,q2⟩:=hq H2 Y2 s2 stp2;refine ⟨fun d hd=>?_,fun hl=>⟨ws,q1,by rw [q2.length];exact hl⟩⟩;obtain ⟨v,e1,e2⟩:=q2.get hd;refine ⟨⟨ws,v,q1,e1⟩,fun x H' ⟨e3,y⟩=>?_⟩;subst e3;have e4:=y ws q1;rw [e1] at e4;cases e4;exact ⟨Y2,.refl stp2.rep,e2⟩
 cases d with
 | tup xs=>
  have h1':okR (gm X) E H1 Y1 (zet (gm X)) (.ok (xs,[]) s1) Q:=h1;obtain ⟨a,vs,rfl,q1,q2⟩:=jD (K:=X.K) dn;refine ⟨a,rfl,.inr ⟨⟨vs,q1⟩,h1'.here stp.rep (tup a xs fun H2 Y2 s2 stp2=>?_)⟩⟩;have dn2:=dn.mono stp2;obtain ⟨a',ws,e,q3,q4⟩:=jD (K:=X.K) dn2;cases e;exact ⟨ws,q3,q4⟩ | lst xs=>
  have h1':okR (gm X) E H1 Y1 (zet (gm X)) (.ok (xs,[]) s1) Q:=h1;obtain ⟨a,vs,rfl,q1,q2⟩:=yq (d:=.lst xs) stp.rep rfl dn;refine ⟨a,rfl,.inl ⟨⟨vs,.inl q1⟩,h1'.here stp.rep (lst a xs [] fun H2 Y2 s2 stp2 _=>?_)⟩⟩;obtain ⟨a',ws,e,q3,q4⟩:=yq (d:=.lst xs) stp2.rep rfl (dn.mono stp2);cases e;exact ⟨ws,.inl q3,q4⟩ | loc l=>
  simp only at h1;split at h1
  ·rename_i xs ex;obtain ⟨a,vs,rfl,q1,q2⟩:=yq (d:=.loc l) stp.rep ex dn;refine ⟨a,rfl,.inl ⟨⟨vs,.inl q1⟩,h1.here stp.rep (lst a xs [(l,xs)] fun H2 Y2 s2 stp2 hg=>?_)⟩⟩;obtain ⟨a',ws,e,q3,q4⟩:=yq (d:=.loc l) stp2.rep (hg (l,xs) (by simp)) (dn.mono stp2);cases e;exact ⟨ws,.inl q3,q4⟩
  ·exact h1.elim | _=>exact h1.elim
end
section
variable {X:Cx}{E:XK}{e a b c tg:Expr}{es:List Expr}{pos:Pos}{CX:CXT}
def yK(n:Nat):List D:=(List.range n).map fun (k:Nat)=>D.int ((k:Nat):Int)
def qU(f:FA):FI:=fun Z s=>(f Z s).bind fun ds s1=>match ds with
 | [.int j]=>if -(2 ^ 62)<=j/\j<2 ^ 62 then .ok (yK j.toNat,[]) s1 else .no | _=>.no
theorem wq{p:Pos}{f:FA}(hg:Gl X "range")(hm:X.mg "range"=none)(ha:RA X E [a] f)(hs:starEach [a] X.env=[(false,eval a X.env)]:=by rfl):RI X E tg (.Call (.Name "range" p) [a] [] pos) (qU f):= z8e (za2 hg hm ha hs) fun O H Q ⟨Y,Z,s,r,en,h⟩=>by
  unfold qU at h;refine ⟨Y,Z,s,r,en,(okR.bind (Dn:=zB (gm X)) h).imp fun vs H1 ⟨Y1,s1,ds,stp,dn,h1⟩=>?_⟩;split at h1
  ·rename_i j;split at h1
   ·rename_i hj;obtain ⟨v,rfl,d1⟩:=z02 dn;cases yO d1;refine ⟨j,rfl,hj.1,hj.2,h1.here stp.rep fun H2 Y2 s2 stp2 _ i=>⟨fun d hd=>?_,fun hl=>?_⟩⟩
    ·have hi:i<j.toNat:=by
      have:=(List.getElem?_eq_some_iff.mp hd).1;simpa [yK] using this
     refine ⟨hi,fun x H' ⟨e1,e2⟩=>?_⟩;subst e1 e2;refine ⟨Y2,.refl stp2.rep,?_⟩;have e3:d=D.int i:=by
      simp only [yK,List.getElem?_map,List.getElem?_range hi,Option.map_some,Option.some.injEq] at hd;exact hd.symm
     rw [e3];simp [Den]
    ·have:(yK j.toNat).length=j.toNat:=by simp [yK]
     show j.toNat<=i;rw [<- this];exact hl
   ·exact h1.elim
  ·exact h1.elim
open Classical in
def xi(g:List (Nat×List D))(all:List D)(body:D->Ev->Sto->R Fl):List D->Ev->Sto->R Fl
 | [],Z,s=>if okG g all s then .ok (.nx Z) s else .no | x::xs,Z,s=>if okG g all s then (body x Z s).bind fun fl s1=>match fl with
   | .nx Z'=>xi g all body xs Z' s1 | .ct Z'=>xi g all body xs Z' s1 | .bk Z'=>.ok (.nx Z') s1 | .rt d=>.ok (.rt d) s1 else .no
def z5B(fi:FI)(fg:FG)(fb:FS):FS:=fun Z s=>(fi Z s).bind fun it s1=>xi it.2 it.1 (fun d Z s=>(fg d Z s).bind fun Z' s'=>fb Z' s') it.1 Z s1
theorem z2T {iter:Expr} {body:List Stmt} {fi:FI} {fg:FG} {fb:FS} (hp:PassesOwn (model X.prog X.w) X.A X.env X.xe) (hc:X.calm=true) (hi:RI X E tg iter fi) (hg:RG X E tg fg) (hb:RSs X E body fb) (hs:∀ x,foldedSetIterable iter X.env x=pure x:=by intro _;rfl):RS X E (.For tg iter body [] pos) (z5B fi fg fb):= uV (zgN hp hc hi hg hb hs) fun D O H ⟨Y,Z,s,r,en,h⟩=>by
  unfold z5B at h;refine ⟨Y,Z,s,r,en,(okR.bind (Dn:=zet (gm X)) h).imp fun J H1 ⟨Y1,s1,it,stp,ok,h1⟩=>?_⟩;obtain ⟨items,g⟩:=it;simp only at h1;refine ⟨fun i m O H=>∃ Y Z s,wG (gm X) H1 Y1 H Y s/\uf (gm X) H Y Z O/\m=items.length-i/\i<=items.length/\ okR (gm X) E H Y (FlD (gm X)) (xi g items (fun d Z s=>(fg d Z s).bind fun Z' s'=>fb Z' s') (items.drop i) Z s) (z4y D), ⟨items.length,Y1,Z,s1,.refl stp.rep,en.mono stp,by simp,Nat.zero_le _,by simpa using h1⟩,?_⟩;rintro i m O H ⟨Y2,Z2,s2,stp2,en2,rfl,hil,h2⟩;by_cases hlt:i<items.length
  ·right;rw [List.drop_eq_getElem_cons hlt,xi] at h2;split at h2
   ·rename_i hG;obtain ⟨go,yl⟩:=((ok H Y2 s2 stp2 hG i).1 items[i] (List.getElem?_eq_getElem hlt));refine ⟨go,fun O' H'=>∃ Y Z s,wG (gm X) H1 Y1 H' Y s/\uf (gm X) H' Y Z O'/\okR (gm X) E H' Y (FlD (gm X)) (xi g items (fun d Z s=>(fg d Z s).bind fun Z' s'=>fb Z' s') (items.drop (i+1)) Z s) (z4y D), fun O' H' ⟨Y3,Z3,s3,q1,q2,q3⟩=>⟨items.length-(i+1),by omega,Y3,Z3,s3,q1,q2,rfl,hlt,q3⟩,fun x H' y=>?_⟩;obtain ⟨Y3,stp3,dn3⟩:=yl x H' y;have h3:=okR.rebase h2 stp3;have h4:=okR.bind (Dn:=FlD (gm X)) h3;refine ⟨Y3,Z2,s2,items[i],stp3.rep,en2.mono stp3,dn3,(okR.bind (Dn:=uf (gm X)) h4).imp fun O5 H5 ⟨Y5,s5,Z5,stp5,en5,h5⟩=>?_⟩;refine ⟨Y5,Z5,s5,stp5.rep,en5,h5.imp fun fv H6 ⟨Y6,s6,fl,stp6,dn6,q6⟩=>?_⟩;have all6:wG (gm X) H1 Y1 H6 Y6 s6:=(stp2.trans stp3).trans stp6;cases fl with
    | nx Z'=> cases fv with
     | nx O'=>exact ⟨Y6,Z',s6,all6,dn6,q6⟩ | _=>exact (show False from dn6).elim
    | ct Z'=> cases fv with
     | ct O'=>exact ⟨Y6,Z',s6,all6,dn6,q6⟩ | _=>exact (show False from dn6).elim
    | bk Z'=> cases fv with
     | bk O'=>exact okR.here (b:=FlV.nx O') (Q:=z4y D) (a:=Fl.nx Z') (s:=s6) q6 stp6.rep dn6 | _=>exact (show False from dn6).elim
    | rt d=> cases fv with
     | rt v=>exact okR.here (b:=FlV.rt v) (Q:=z4y D) (a:=Fl.rt d) (s:=s6) q6 stp6.rep dn6 | _=>exact (show False from dn6).elim
   ·exact h2.elim
  ·left;have e:i=items.length:=by omega
   subst e;rw [List.drop_length,xi] at h2;split at h2
   ·rename_i hG;exact ⟨(ok H Y2 s2 stp2 hG _).2 (Nat.le_refl _),okR.here (b:=FlV.nx O) (Q:=z4y D) h2 stp2.rep en2⟩
   ·exact h2.elim
end
end Dd
namespace Zz
def Sit(b:Bool)(h:Heap)(it l:Addr)(k:Nat):Prop:=match b with
 | true=>h.IsListIter it l k | false=>h.IsTupleIter it l k
def Sco(b:Bool)(h:Heap)(l:Addr)(xs:Array Value):Prop:=match b with
 | true=>h.IsList l xs | false=>h.IsTuple l xs
theorem Sit.to{b:Bool}{h h':Heap}{it l:Addr}{k:Nat}(x:Sit b h it l k)(e:∀ o,h.get? it=some o->h'.get? it=some o):Sit b h' it l k:=by cases b with
 | true=>obtain ⟨o,ho,r⟩:=x;exact ⟨o,e _ ho,r⟩ | false=>obtain ⟨o,ho,r⟩:=x;exact ⟨o,e _ ho,r⟩
theorem Sco.to{b:Bool}{h h':Heap}{l:Addr}{xs:Array Value}(x:Sco b h l xs)(e:∀ o,h.get? l=some o->h'.get? l=some o):Sco b h' l xs:=by cases b with
 | true=>obtain ⟨o,ho,r⟩:=x;exact ⟨o,e _ ho,r⟩ | false=>obtain ⟨o,ho,r⟩:=x;exact ⟨o,e _ ho,r⟩
theorem Sit.lt{b:Bool}{h:Heap}{it l:Addr}{k:Nat}(x:Sit b h it l k):it<h.objs.size:=by cases b with
 | true=>obtain ⟨o,ho,r⟩:=x;exact Heap.lt_size ho | false=>obtain ⟨o,ho,r⟩:=x;exact Heap.lt_size ho
theorem Sit.ob{b:Bool}{h:Heap}{it l:Addr}{k:Nat}(x:Sit b h it l k):∃ o,h.get? it=some o/\∀ v,o.data≠.cell v:=by cases b with
 | true=>obtain ⟨o,ho,_,d⟩:=x;exact ⟨o,ho,fun v z=>by rw [d] at z;cases z⟩ | false=>obtain ⟨o,ho,_,d⟩:=x;exact ⟨o,ho,fun v z=>by rw [d] at z;cases z⟩
section
variable {P:Program}{w:World}{A:Around}{E:Value->Shared->Prop}{s:Shared}
theorem zhc{it l:Addr}{k:Nat}{xs:Array Value}{x:Value}{R:Value->Shared->Prop}(h1:s.heap.IsTupleIter it l k)(h2:s.heap.IsTuple l xs)(e:xs[k]? = some x) (q:∀ h',h'.IsTupleIter it l (k+1)->Heap.SameBut it s.heap h'->R x {s with heap:=h'}):wpAny (model P w) A (Builtin.SmallTypes.nextOf (.ref it)) R E s:=by
 obtain ⟨o,ho,hc,hd⟩:=id h1;obtain ⟨ol,hol,_,nl,hdl⟩:=h2;unfold Builtin.SmallTypes.nextOf;refine wpAny_bind (wpAny_callSpecial?_slot (name:=Str.ofString "__next__") h1.typeIs F.slot_tuple_iterator_next (wpAny_call_entry F.slot_tuple_iterator_next h1.typeIs F.entry_tuple_iterator_next ?_ (F.args_tuple_iterator_next_1 _)));show wpAny _ _ (field (.ref it) 0 >>= _) _ _ s;refine wpAny_bind (wpAny_field ho hd (x:=.ref l) rfl ?_);show wpAny _ _ (if (Value.ref l==Value.none)=true then _ else _) _ _ s;rw [if_neg (show ¬ ((Value.ref l==Value.none)=true) from Bool.false_ne_true)];show wpAny _ _ (field (.ref it) 1 >>= _) _ _ s;refine wpAny_bind (wpAny_field ho hd (x:=.int k 0) rfl ?_);show wpAny _ _ (seqItems? (.ref l) >>= _) _ _ s;refine wpAny_bind (wpAny_seqItems hol hdl ?_);simp only [Int.toNat_natCast,e];refine wpAny_bind (wpAny_setField ho hd (by simp) (wpAny_pure ⟨x,rfl,wpAny_pure (q _ ?_ (Heap.SameBut.update ..))⟩));exact ⟨_,Heap.get?_update_self _ ho (Obj.isFreed_of_fields (Obj.data_mapFields hd _)),(Obj.cls_mapFields ..).trans hc,by rw [Obj.data_mapFields hd];simp [rawInt]⟩
theorem z8E {it l:Addr} {k:Nat} {xs:Array Value} {R:Value->Shared->Prop} (hh:A.handled=none) (h1:s.heap.IsTupleIter it l k) (h2:s.heap.IsTuple l xs) (e:xs[k]? = none) (q:∀ h' e,Heap.ExtBut it s.heap h'->(∃ o,h'.get? e=some o/\o.cls=.type "StopIteration")->E (.ref e) {s with heap:=h'}):wpAny (model P w) A (Builtin.SmallTypes.nextOf (.ref it)) R E s:=by
 obtain ⟨o,ho,hc,hd⟩:=id h1;obtain ⟨ol,hol,_,nl,hdl⟩:=h2;unfold Builtin.SmallTypes.nextOf;refine wpAny_bind (wpAny_callSpecial?_slot (name:=Str.ofString "__next__") h1.typeIs F.slot_tuple_iterator_next (wpAny_call_entry F.slot_tuple_iterator_next h1.typeIs F.entry_tuple_iterator_next ?_ (F.args_tuple_iterator_next_1 _)));show wpAny _ _ (field (.ref it) 0 >>= _) _ _ s;refine wpAny_bind (wpAny_field ho hd (x:=.ref l) rfl ?_);show wpAny _ _ (if (Value.ref l==Value.none)=true then _ else _) _ _ s;rw [if_neg (show ¬ ((Value.ref l==Value.none)=true) from Bool.false_ne_true)];show wpAny _ _ (field (.ref it) 1 >>= _) _ _ s;refine wpAny_bind (wpAny_field ho hd (x:=.int k 0) rfl ?_);show wpAny _ _ (seqItems? (.ref l) >>= _) _ _ s;refine wpAny_bind (wpAny_seqItems hol hdl ?_);simp only [Int.toNat_natCast,e];refine wpAny_bind (wpAny_rule (wpAny_bind (wpAny_setField ho hd (by simp) ?_)));show wpAny _ _ (newExc (.type "StopIteration") [] >>= _) _ _ _;refine wpAny_bind ?_;simp only [newExc,newTuple];refine wpAny_bind (wpAny_newObj_type ?_ (by size_fits));refine wpAny_bind (m:=firstArgMember _ _) (wpAny_of_eq (a:=Value.none) (by first | rfl | (simp only [firstArgMember];rfl)) ?_);refine wpAny_newObj_type ?_ (by size_fits);simp only [raiseNew];refine wpAny_bind (wpAny_handled ?_);first | rw [show A.in1.handled=none from hh] | rw [hh]
 refine wpAny_bind (wpAny_pure (wpAny_throw ?_));exact q _ _ (((Heap.SameBut.update ..).extBut.push _).push _) ⟨_,Heap.get?_push_size _ rfl,rfl⟩
theorem nx{b:Bool}{it l:Addr}{k:Nat}{xs:Array Value}{x:Value}{R:Value->Shared->Prop}(h1:Sit b s.heap it l k)(h2:Sco b s.heap l xs)(e:xs[k]? = some x) (q:∀ h',Sit b h' it l (k+1)->Heap.SameBut it s.heap h'->R x {s with heap:=h'}):wpAny (model P w) A (Builtin.SmallTypes.nextOf (.ref it)) R E s:=by cases b with
 | true=>exact wpAny_nextOf_list_item h1 h2 e q | false=>exact zhc h1 h2 e q
theorem zaF {b:Bool} {it l:Addr} {k:Nat} {xs:Array Value} {R:Value->Shared->Prop} (hh:A.handled=none) (h1:Sit b s.heap it l k) (h2:Sco b s.heap l xs) (e:xs[k]? = none) (q:∀ h' e,Heap.ExtBut it s.heap h'->(∃ o,h'.get? e=some o/\o.cls=.type "StopIteration")->E (.ref e) {s with heap:=h'}):wpAny (model P w) A (Builtin.SmallTypes.nextOf (.ref it)) R E s:=by cases b with
 | true=>exact wpAny_nextOf_list_end hh h1 h2 e q | false=>exact z8E hh h1 h2 e q
theorem zu{a:Addr}{h h':Heap}(hs:Heap.SameBut a h h'){b:Addr}{o:Obj}(n:b≠a)(e:h.get? b=some o):h'.get? b=some o:=hs.extBut _ _ n e
theorem ze9 {z TI TO i1 i2 l1 l2:Addr} {b1 b2:Bool} {k:Nat} {xs ys:Array Value} {x y a b:Value} {Q:Option Value->Shared->Prop} (D:ZipApart z TI TO i1 i2 l1 l2) (hz:IsZip s.heap z TI TO .none) (hTI:IsPair s.heap TI (.ref i1) (.ref i2)) (hTO:IsPair s.heap TO a b) (h1:Sit b1 s.heap i1 l1 k) (h2:Sit b2 s.heap i2 l2 k) (c1:Sco b1 s.heap l1 xs) (c2:Sco b2 s.heap l2 ys) (ex:xs[k]? = some x) (ey:ys[k]? = some y) (q:∀ h',IsZip h' z TI TO (rawInt s.heap.objs.size)->IsPair h' TO x y->Sit b1 h' i1 l1 (k+1)->Sit b2 h' i2 l2 (k+1)->IsPair h' s.heap.objs.size x y->h'.objs.size=s.heap.objs.size+1-> (∀ c o,c≠z->c≠TO->c≠i1->c≠i2->s.heap.get? c=some o->h'.get? c=some o)->Q (some (.ref s.heap.objs.size)) {s with heap:=h'}):wpAny (model P w) A (pyNext (.ref z)) Q E s:=by
 have hT:s.TypeIs (.ref z) "zip":=⟨_,hz,rfl⟩;unfold pyNext;refine wpAny_bind (wpAny_attempt (wpAny_callSpecial?_slot (name:=Str.ofString "__next__") hT F.slot_zip_next (wpAny_call_entry F.slot_zip_next hT F.entry_zip_next (Q:=fun v s'=>wpAny (model P w) A (pure (some v)) Q E s') ?_ (F.args_zip_next_1 _))));show wpAny _ _ (field (.ref z) 2 >>= _) _ _ _;refine wpAny_bind (wpAny_field hz rfl (x:=.bool false) rfl ?_);show wpAny _ _ (field (.ref z) 3 >>= _) _ _ _;refine wpAny_bind (wpAny_field hz rfl (x:=.ref TI) rfl ?_);refine wpAny_bind (wpAny_seqItems hTI rfl ?_);show wpAny _ _ (Builtin.SmallTypes.ownedTupleIsFree (.ref z) >>= _) _ _ _;refine wpAny_bind ?_;unfold Builtin.SmallTypes.ownedTupleIsFree;refine wpAny_bind (wpAny_field hz rfl (x:=.none) rfl (wpAny_pure ?_));simp only [if_true];refine wpAny_bind (wpAny_rule ?_);refine wpAny_bind (wpAny_field hz rfl (x:=.ref TO) rfl ?_);refine wpAny_bind (wpAny_setField_rec hz (by simp) fun g1 z1 s1=>?_);replace z1:IsZip g1 z TI TO .ellipsis:=z1;refine wpAny_bind ?_;simp only [List.zipIdx_cons,List.zipIdx_nil,List.forIn_cons,List.forIn_nil];refine wpAny_bind (wpAny_bind (wpAny_onRaise ?_));show wpAny _ _ (Builtin.SmallTypes.nextOf (.ref i1) >>= _) _ _ _;refine wpAny_bind (nx (h1.to fun o e=>zu s1 D.i1z e) (c1.to fun o e=>zu s1 D.l1z e) ex fun g2 t2 s2=>wpAny_pure ?_);have o2:IsPair g2 TO a b:=zu s2 D.TOi1 (zu s1 D.TOz hTO);refine wpAny_bind (wpAny_seqItems o2 rfl ?_);refine wpAny_bind (wpAny_updateSeq_pair o2 fun g3 o3 s3=>?_);replace o3:IsPair g3 TO x b:=o3;refine wpAny_bind (wpAny_letGo (wpAny_pure ?_));refine wpAny_bind (wpAny_bind (wpAny_onRaise ?_));show wpAny _ _ (Builtin.SmallTypes.nextOf (.ref i2) >>= _) _ _ _;refine wpAny_bind (nx (h2.to fun o e=>zu s3 D.TOi2.symm (zu s2 D.i12.symm (zu s1 D.i2z e))) (c2.to fun o e=>zu s3 D.l2TO (zu s2 D.l2i1 (zu s1 D.l2z e))) ey fun g4 t4 s4=>wpAny_pure ?_);have o4:IsPair g4 TO x b:=zu s4 D.TOi2 o3;refine wpAny_bind (wpAny_seqItems o4 rfl ?_);refine wpAny_bind (wpAny_updateSeq_pair o4 fun g5 o5 s5=>?_);replace o5:IsPair g5 TO x y:=o5;refine wpAny_bind (wpAny_letGo (wpAny_pure (wpAny_pure ?_)));refine wpAny_bind (wpAny_seqItems o5 rfl ?_);refine wpAny_bind (wpAny_newTuple ?_);have sz:g5.objs.size=s.heap.objs.size:=by rw [s5.1,s4.1,s3.1,s2.1,s1.1]
 have z5:IsZip g5 z TI TO .ellipsis:=zu s5 D.TOz.symm (zu s4 D.i2z.symm (zu s3 D.TOz.symm (zu s2 D.i1z.symm z1)));have k5:∀ c o,c≠z->c≠TO->c≠i1->c≠i2->s.heap.get? c=some o->g5.get? c=some o:=fun c o n1 n2 n3 n4 e=>zu s5 n2 (zu s4 n4 (zu s3 n2 (zu s2 n3 (zu s1 n1 e))));have t5:Sit b1 g5 i1 l1 (k+1):=t2.to fun o e=>zu s5 D.TOi1.symm (zu s4 D.i12 (zu s3 D.TOi1.symm e));have u5:Sit b2 g5 i2 l2 (k+1):=t4.to fun o e=>zu s5 D.TOi2.symm e;have zl:z<g5.objs.size:=Heap.lt_size z5;show wpAny _ _ (Builtin.SmallTypes.ownedTupleHandOut (.ref z) (.ref g5.objs.size) >>= _) _ _ _;refine wpAny_bind ?_;unfold Builtin.SmallTypes.ownedTupleHandOut;have z6:IsZip (g5.push {cls:=.type "tuple",data:=.seq #[x,y]}) z TI TO .ellipsis:=Heap.get?_push_of_some _ z5;refine wpAny_bind (wpAny_setField_rec z6 (by simp) fun g7 z7 s7=>?_);replace z7:IsZip g7 z TI TO (rawInt g5.objs.size):=z7;refine wpAny_setField_rec z7 (by simp) fun g8 z8 s8=>?_;replace z8:IsZip g8 z TI TO (rawInt g5.objs.size):=z8;have up:∀ c o,c≠z->g5.get? c=some o->g8.get? c=some o:=fun c o n e=>zu s8 n (zu s7 n (Heap.get?_push_of_some _ e));have p8:IsPair g8 g5.objs.size x y:=zu s8 (Nat.ne_of_gt zl) (zu s7 (Nat.ne_of_gt zl) (Heap.get?_push_size _ rfl));have e8:g8.objs.size=g5.objs.size+1:=by rw [s8.1,s7.1,Heap.size_push]
 rw [sz] at z8 p8 e8;refine wpAny_pure ⟨_,rfl,wpAny_pure ?_⟩;show Q (some (.ref g5.objs.size)) _;rw [sz];exact q g8 z8 (up _ _ D.TOz o5) (t5.to fun o e=>up _ o D.i1z e) (u5.to fun o e=>up _ o D.i2z e) p8 e8 fun c o n1 n2 n3 n4 e=>up c o n1 (k5 c o n1 n2 n3 n4 e)
theorem zgS {z TI TO i1 i2 l1 l2:Addr} {b1 b2:Bool} {k:Nat} {xs ys:Array Value} {a b:Value} {Q:Option Value->Shared->Prop} (hh:A.handled=none) (D:ZipApart z TI TO i1 i2 l1 l2) (hz:IsZip s.heap z TI TO .none) (hTI:IsPair s.heap TI (.ref i1) (.ref i2)) (hTO:IsPair s.heap TO a b) (h1:Sit b1 s.heap i1 l1 k) (h2:Sit b2 s.heap i2 l2 k) (c1:Sco b1 s.heap l1 xs) (c2:Sco b2 s.heap l2 ys) (en:xs[k]? = none\/ys[k]? = none) (q:∀ h',(∀ c o,c≠z->c≠TO->c≠i1->c≠i2->s.heap.get? c=some o->h'.get? c=some o)->Q none {s with heap:=h'}):wpAny (model P w) A (pyNext (.ref z)) Q E s:=by
 have hT:s.TypeIs (.ref z) "zip":=⟨_,hz,rfl⟩;have fin:∀ h' e,(∀ c o,c≠z->c≠TO->c≠i1->c≠i2->s.heap.get? c=some o->h'.get? c=some o)->(∃ o,h'.get? e=some o/\o.cls=.type "StopIteration")-> wpAny (model P w) A (isInstance (.ref e) (.type "StopIteration") >>= fun b=>if b=true then (pure none:Sem (Option Value)) else throw (.ref e)) Q E {s with heap:=h'}:=fun h' e hk he=>by
  obtain ⟨o,ho,hc⟩:=he;refine wpAny_bind (wpAny_isInstance (T:="StopIteration") (b:=true) ⟨o,ho,hc⟩ isSubtype_stop ?_);exact wpAny_pure (q _ hk)
 unfold pyNext;refine wpAny_bind (wpAny_attempt (wpAny_callSpecial?_slot (name:=Str.ofString "__next__") hT F.slot_zip_next (wpAny_call_entry F.slot_zip_next hT F.entry_zip_next ?_ (F.args_zip_next_1 _))));show wpAny _ _ (field (.ref z) 2 >>= _) _ _ _;refine wpAny_bind (wpAny_field hz rfl (x:=.bool false) rfl ?_);show wpAny _ _ (field (.ref z) 3 >>= _) _ _ _;refine wpAny_bind (wpAny_field hz rfl (x:=.ref TI) rfl ?_);refine wpAny_bind (wpAny_seqItems hTI rfl ?_);show wpAny _ _ (Builtin.SmallTypes.ownedTupleIsFree (.ref z) >>= _) _ _ _;refine wpAny_bind ?_;unfold Builtin.SmallTypes.ownedTupleIsFree;refine wpAny_bind (wpAny_field hz rfl (x:=.none) rfl (wpAny_pure ?_));simp only [if_true];refine wpAny_bind (wpAny_rule ?_);refine wpAny_bind (wpAny_field hz rfl (x:=.ref TO) rfl ?_);refine wpAny_bind (wpAny_setField_rec hz (by simp) fun g1 z1 s1=>?_);replace z1:IsZip g1 z TI TO .ellipsis:=z1;refine wpAny_bind ?_;simp only [List.zipIdx_cons,List.zipIdx_nil,List.forIn_cons,List.forIn_nil];refine wpAny_bind (wpAny_bind (wpAny_onRaise ?_));show wpAny _ _ (Builtin.SmallTypes.nextOf (.ref i1) >>= _) _ _ _;cases ex:xs[k]? with
 | none=>
  refine wpAny_bind (zaF hh (h1.to fun o e=>zu s1 D.i1z e) (c1.to fun o e=>zu s1 D.l1z e) ex fun g2 e s2 he=>?_);obtain ⟨oe,hoe,hce⟩:=he;have z2:IsZip g2 z TI TO .ellipsis:=s2 _ _ D.i1z.symm z1;have ez:e≠z:=fun t=>by subst t;rw [z2] at hoe;cases hoe;simp at hce
  exact wpAny_setField_rec z2 (by simp) fun g3 _ s3=>fin g3 e (fun c o n1 _ n3 _ t=>zu s3 n1 (s2 _ _ n3 (zu s1 n1 t))) ⟨oe,zu s3 ez hoe,hce⟩ | some x=>
  have ey:ys[k]? = none:=by rcases en with t | t;rw [ex] at t;cases t;exact t
  refine wpAny_bind (nx (h1.to fun o e=>zu s1 D.i1z e) (c1.to fun o e=>zu s1 D.l1z e) ex fun g2 t2 s2=>wpAny_pure ?_);have o2:IsPair g2 TO a b:=zu s2 D.TOi1 (zu s1 D.TOz hTO);refine wpAny_bind (wpAny_seqItems o2 rfl ?_);refine wpAny_bind (wpAny_updateSeq_pair o2 fun g3 o3 s3=>?_);refine wpAny_bind (wpAny_letGo (wpAny_pure ?_));refine wpAny_bind (wpAny_bind (wpAny_onRaise ?_));show wpAny _ _ (Builtin.SmallTypes.nextOf (.ref i2) >>= _) _ _ _;refine wpAny_bind (zaF hh (h2.to fun o e=>zu s3 D.TOi2.symm (zu s2 D.i12.symm (zu s1 D.i2z e))) (c2.to fun o e=>zu s3 D.l2TO (zu s2 D.l2i1 (zu s1 D.l2z e))) ey fun g4 e s4 he=>?_);obtain ⟨oe,hoe,hce⟩:=he;have z4:IsZip g4 z TI TO .ellipsis:=s4 _ _ D.i2z.symm (zu s3 D.TOz.symm (zu s2 D.i1z.symm z1));have ez:e≠z:=fun t=>by subst t;rw [z4] at hoe;cases hoe;simp at hce
  exact wpAny_setField_rec z4 (by simp) fun g5 _ s5=>fin g5 e (fun c o n1 n2 n3 n4 t=>zu s5 n1 (s4 _ _ n4 (zu s3 n2 (zu s2 n3 (zu s1 n1 t))))) ⟨oe,zu s5 ez hoe,hce⟩
end
def itO(b:Bool)(l:Addr):Obj:=match b with
 | true=>{cls:=.type "list_iterator",data:=.fields #[.ref l,.int 0 0]} | false=>{cls:=.type "tuple_iterator",data:=.fields #[.ref l,.int 0 0]}
theorem z6c{b:Bool}{h:Heap}{a l:Addr}(e:h.get? a=some (itO b l)):Sit b h a l 0:=by cases b with
 | true=>exact ⟨_,e,rfl,rfl⟩ | false=>exact ⟨_,e,rfl,rfl⟩
theorem z16(b:Bool)(l:Addr):(itO b l).isFreed=false:=by cases b<;>rfl
section
variable {P:Program}{w:World}{A:Around}{E:Value->Shared->Prop}{s:Shared}
theorem z3m {b:Bool} {l:Addr} {xs:Array Value} {Q:Value->Shared->Prop} (h:Sco b s.heap l xs) (q:Q (.ref s.heap.objs.size) {s with heap:=s.heap.push (itO b l)}):wpAny (model P w) A (pyIter (.ref l)) Q E s:=by cases b with
 | true=>exact wpAny_pyIter_list h q | false=>exact wpAny_pyIter_tuple h q
end
abbrev G1(b1:Bool)(h:Heap)(l1:Addr):Heap:=h.push (itO b1 l1)
abbrev G2(b1 b2:Bool)(h:Heap)(l1 l2:Addr):Heap:=(G1 b1 h l1).push (itO b2 l2)
abbrev G3(b1 b2:Bool)(h:Heap)(l1 l2:Addr):Heap:=(G2 b1 b2 h l1 l2).push {cls:=.type "tuple",data:=.seq #[.ref h.objs.size,.ref (G1 b1 h l1).objs.size]}
abbrev G4(b1 b2:Bool)(h:Heap)(l1 l2:Addr):Heap:=(G3 b1 b2 h l1 l2).push {cls:=.type "tuple",data:=.seq #[.none,.none]}
abbrev G5(b1 b2:Bool)(h:Heap)(l1 l2:Addr):Heap:=(G4 b1 b2 h l1 l2).push {cls:=.type "zip",data:=.fields #[.none,.bool false,.bool false,.ref (G2 b1 b2 h l1 l2).objs.size,.ref (G3 b1 b2 h l1 l2).objs.size]}
theorem zak (b1 b2:Bool) (l1 l2:Addr) (xs ys:Array Value): Meets (Builtin.«zip.__new__» ⟨[.type "zip",.ref l1,.ref l2],[]⟩) (fun _ R s=>Sco b1 s.heap l1 xs/\Sco b2 s.heap l2 ys/\R (.ok (.ret (.ref (G4 b1 b2 s.heap l1 l2).objs.size))) {s with heap:=G5 b1 b2 s.heap l1 l2}):= .of_wp fun prog w A R s h=>by
  obtain ⟨hp,g,d,tk,os⟩:=s;obtain ⟨c1,c2,h⟩:=h;have hsub:=sub_zip;have q1:Sco b1 (Shared.heap ⟨hp,g,d,tk,os⟩) l1 xs:=c1;have q2:Sco b2 (Shared.heap ⟨hp.push (itO b1 l1),g,d,tk,os⟩) l2 ys:=c2.to fun o e=>Heap.get?_push_of_some _ e;wp_walk using z3m q1,z3m q2;exact ⟨_,rfl,h⟩
section
variable {P:Program}{w:World}{A:Around}{E:Value->Shared->Prop}{s:Shared}
theorem zbM {b1 b2:Bool} {l1 l2:Addr} {xs ys:Array Value} {Q:Value->Shared->Prop} (c1:Sco b1 s.heap l1 xs) (c2:Sco b2 s.heap l2 ys) (h:∀ h',IsZip h' (s.heap.objs.size+4) (s.heap.objs.size+2) (s.heap.objs.size+3) .none->IsPair h' (s.heap.objs.size+2) (.ref s.heap.objs.size) (.ref (s.heap.objs.size+1))-> IsPair h' (s.heap.objs.size+3) .none .none->Sit b1 h' s.heap.objs.size l1 0->Sit b2 h' (s.heap.objs.size+1) l2 0->(∀ c o,s.heap.get? c=some o->h'.get? c=some o)->Q (.ref (s.heap.objs.size+4)) {s with heap:=h'}): wpAny (model P w) A (call (.type "zip") [.ref l1,.ref l2]) Q E s:=by
 refine callType_new F.called_zip (by decide) (F.typeCall_zip_2 _ _) (F.newCall_zip_2 _ _) (fun obj=>F.args_object_init_3 obj _ _) F.entry_zip_new (zak b1 b2 l1 l2 xs ys) ⟨c1,c2,?_⟩;have z1:(G1 b1 s.heap l1).objs.size=s.heap.objs.size+1:=Heap.size_push ..;have z2:(G2 b1 b2 s.heap l1 l2).objs.size=s.heap.objs.size+2:=by rw [Heap.size_push,z1]
 have z3:(G3 b1 b2 s.heap l1 l2).objs.size=s.heap.objs.size+3:=by rw [Heap.size_push,z2]
 have z4:(G4 b1 b2 s.heap l1 l2).objs.size=s.heap.objs.size+4:=by rw [Heap.size_push,z3]
 have up:∀ {h:Heap} {o:Obj} {c:Addr} {u:Obj},h.get? c=some u->(h.push o).get? c=some u:=fun e=>Heap.get?_push_of_some _ e;have g5:(G5 b1 b2 s.heap l1 l2).get? (G4 b1 b2 s.heap l1 l2).objs.size=some _:=Heap.get?_push_size _ rfl;have g4:(G5 b1 b2 s.heap l1 l2).get? (G3 b1 b2 s.heap l1 l2).objs.size=some _:=up (Heap.get?_push_size _ rfl);have g3:(G5 b1 b2 s.heap l1 l2).get? (G2 b1 b2 s.heap l1 l2).objs.size=some _:=up (up (Heap.get?_push_size _ rfl));have g2:(G5 b1 b2 s.heap l1 l2).get? (G1 b1 s.heap l1).objs.size=some (itO b2 l2):=up (up (up (Heap.get?_push_size _ (z16 b2 l2))));have g1:(G5 b1 b2 s.heap l1 l2).get? s.heap.objs.size=some (itO b1 l1):=up (up (up (up (Heap.get?_push_size _ (z16 b1 l1)))));show _/\_;rw [z2,z3,z4] at g5;rw [z1,z2] at g3;rw [z3] at g4;rw [z1] at g2;rw [z4];exact ⟨⟨_,g5,rfl⟩,h _ g5 g3 g4 (z6c g1) (z6c g2) fun c o e=>up (up (up (up (up e))))⟩
end
end Zz
namespace L2
open PySem.Spec Zz
def Sq(b:Bool)(K:W.Frag)(H:Hp)(a:Addr)(xs:List V):Prop:=match b with
 | true=>SqL K H a xs | false=>SqT K H a xs
section
variable {X:Cx}{pins:List (Addr×Obj)}{O:St}{H:Hp}{s:Shared}{h':Heap}
theorem Inv.sq{b:Bool}{a:Addr}{xs:List V}(I:Inv X pins O H s)(h:Sq b X.K H a xs):∃ its:List Value,xF xs its/\Sco b s.heap a its.toArray:=by cases b with
 | true=>obtain ⟨its,r,p,_⟩:=I.list h;exact ⟨its,r,p.isList⟩ | false=>obtain ⟨its,r,p,_⟩:=I.tuple h;exact ⟨its,r,p⟩
theorem Inv.sq_inj{b:Bool}{a:Addr}{xs ys:List V}(I:Inv X pins O H s)(h:Sq b X.K H a xs)(h':Sq b X.K H a ys):xs=ys:=by cases b with
 | true=>exact I.list_inj h h' | false=>exact I.tuple_inj h h'
theorem Inv.turnedL {t':Nat} {ch:List Addr} (I:Inv X pins O H s) (k:∀ b o,b∉ch->s.heap.get? b=some o->h'.get? b=some o) (f:∀ b∈ch,z6g X pins H b):Inv X pins O H {s with heap:=h',toks:=t'}:=by
 have nit:∀ b u,H b=some u->b∉ch:=fun b u e z=>by rw [(f b z).1] at e;cases e
 refine I.step (g':=s.gens) (d':=s.drawn) (ch:=ch) (fun b hb=>⟨(f b hb).2.2.2.1,(f b hb).2.1,(f b hb).2.2.2.2.1,(f b hb).2.2.2.2.2⟩) (fun b o _ _ hc e _=>k b o hc e) (fun b o _ _ hc e _=>⟨o.slots,k b o hc e⟩) (fun _ _ _ _ n=>n) (fun b o hc e=>⟨o,k b o hc e⟩) (fun _ _ e=>e) (fun _ _ _ e=>e) (fun b ps e=>⟨#[],by rw [e];simp⟩) (fun m hm=>?_) (fun b u e=>?_) I.bare
 ·obtain ⟨o,es,ep,ho,r⟩:=hm;exact ⟨o,es,ep,k _ o (fun z=>(f _ z).2.1 rfl) ho,r⟩
 ·refine (I.hok b u e).stay (fun c v hc q=>k c v ?_ q) (fun _ q=>q) fun _ _ q=>q;rcases hc with z | z;·rw [z];exact nit b u e
  ·exact nit c _ z
end
def Itz(K:W.Frag)(b1 b2:Bool)(l1 l2:Addr):It:= ⟨fun i H=>∃ xs ys x y,Sq b1 K H l1 xs/\Sq b2 K H l2 ys/\xs[i]? = some x/\ys[i]? = some y, fun i H v H'=>∃ T x y,H T=none/\v=.ref T/\H'=upd H T (.tup [x,y])/\(∀ xs,Sq b1 K H l1 xs->xs[i]? = some x)/\∀ ys,Sq b2 K H l2 ys->ys[i]? = some y, fun i H=>∃ xs ys,Sq b1 K H l1 xs/\Sq b2 K H l2 ys/\(xs.length<=i\/ys.length<=i)⟩
theorem zca {P:Program} {w:World} {K:W.Frag} {elts:List Expr} {kt:Nat} {tp:Pos} {b1 b2:Bool} {z TI TO i1 i2 l1 l2:Addr} (D:ZipApart z TI TO i1 i2 l1 l2): ze2 P w K (.Tuple elts kt tp) (Itz K b1 b2 l1 l2) [z,TI,TO,i1,i2] z (fun i h=>IsZip h z TI TO .none/\IsPair h TI (.ref i1) (.ref i2)/\(∃ a b,IsPair h TO a b)/\Sit b1 h i1 l1 i/\Sit b2 h i2 l2 i) where
 mem:=by simp
 obj:=fun i h ⟨hz,hTI,⟨a,b,hTO⟩,h1,h2⟩ c hc=>by
  have hc':c=z\/c=TI\/c=TO\/c=i1\/c=i2:=by simpa using hc
  rcases hc' with rfl | rfl | rfl | rfl | rfl;·exact ⟨_,hz,fun v e=>by simp at e⟩
  ·exact ⟨_,hTI,fun v e=>by simp at e⟩
  ·exact ⟨_,hTO,fun v e=>by simp at e⟩
  ·exact h1.ob
  ·exact h2.ob
 keep:=fun i h h' ⟨hz,hTI,⟨a,b,hTO⟩,h1,h2⟩ k=>⟨k z (by simp) _ hz,k TI (by simp) _ hTI,⟨a,b,k TO (by simp) _ hTO⟩,h1.to fun o e=>k i1 (by simp) o e,h2.to fun o e=>k i2 (by simp) o e⟩;item:=by
  intro X hP hw hK hc i pins s O H E I hf ⟨hz,hTI,⟨a,b,hTO⟩,h1,h2⟩ ⟨xs,ys,x,y,qx,qy,ex,ey⟩;subst hP hw hK;obtain ⟨ix,rx,cx⟩:=I.sq qx;obtain ⟨iy,ry,cy⟩:=I.sq qy;obtain ⟨u,hu,ru⟩:=rx.get ex;obtain ⟨v,hv,rv⟩:=ry.get ey;refine ze9 D hz hTI hTO h1 h2 cx cy (x:=u) (y:=v) (by simpa using hu) (by simpa using hv) fun g a1 a2 a3 a4 a5 a6 hk=>⟨_,rfl,?_⟩;have kk:∀ c o,c∉[z,TO,i1,i2]->s.heap.get? c=some o->g.get? c=some o:=fun c o n e=>hk c o (fun t=>n (by simp [t])) (fun t=>n (by simp [t])) (fun t=>n (by simp [t])) (fun t=>n (by simp [t])) e;have sub:∀ c∈[z,TO,i1,i2],c∈[z,TI,TO,i1,i2]:=fun c hc=>by
   have:c=z\/c=TO\/c=i1\/c=i2:=by simpa using hc
   rcases this with rfl | rfl | rfl | rfl<;>simp
  have I1:Inv X pins O H {s with heap:=g}:=I.turnedL (t':=s.toks) kk fun c hc=>hf c (sub c hc);refine wpAny_letOwnedTupleGo_zip a1 fun g2 z2 s2=>?_;obtain ⟨f0,f1,f2,f3,f4,f5⟩:=hf z (by simp);have I2:Inv X pins O H {s with heap:=g2}:=I1.turned (t':=s.toks) (fun c o n e=>zu s2 n e) f0 f1 f3 f4 f5;have new:z6g X pins H s.heap.objs.size:=I.fpOk (Nat.le_refl _) (I.hok.fresh (Nat.le_refl _));have ne:∀ {c:Addr} {o:Obj},s.heap.get? c=some o->c≠s.heap.objs.size:=fun e=>Nat.ne_of_lt (Heap.lt_size e);have p2:IsPair g2 s.heap.objs.size u v:=zu s2 (ne hz).symm a5;refine ⟨.ref s.heap.objs.size,upd H s.heap.objs.size (.tup [x,y]),I2.track new ⟨?_,[u,v],.cons ru (.cons rv .nil),⟨_,p2,rfl,rfl,_,rfl⟩⟩,rfl,⟨_,x,y,new.1,rfl,rfl,fun zs qz=>?_,fun zs qz=>?_⟩,⟨z2,?_,⟨_,_,zu s2 D.TOz a2⟩,a3.to fun o e=>zu s2 D.i1z e,a4.to fun o e=>zu s2 D.i2z e⟩,fun c hc=>?_⟩;·show 2<=sizeLine;decide
  ·rw [I.sq_inj qz qx];exact ex
  ·rw [I.sq_inj qz qy];exact ey
  ·exact zu s2 D.TIz (hk TI _ D.TIz D.TITO D.TIi1 D.TIi2 hTI)
  ·have hc':c=z\/c=TI\/c=TO\/c=i1\/c=i2:=by simpa using hc
   have:c≠s.heap.objs.size:=by
    rcases hc' with rfl | rfl | rfl | rfl | rfl;·exact ne hz
    ·exact ne hTI
    ·exact ne hTO
    ·exact Nat.ne_of_lt h1.lt
    ·exact Nat.ne_of_lt h2.lt
   rw [zH this];exact (hf c hc).1
 done:=by
  intro X hP hw hK hc i pins s O H E I hf ⟨hz,hTI,⟨a,b,hTO⟩,h1,h2⟩ ⟨xs,ys,qx,qy,hl⟩;subst hP hw hK;obtain ⟨ix,rx,cx⟩:=I.sq qx;obtain ⟨iy,ry,cy⟩:=I.sq qy;have lx:=rx.length;have ly:=ry.length;refine zgS (I.ok.hd hc) D hz hTI hTO h1 h2 cx cy ?_ fun g hk=>⟨rfl,?_⟩
  ·rcases hl with hl | hl;·exact .inl (by simp;omega)
   ·exact .inr (by simp;omega)
  ·exact I.turnedL (t':=s.toks) (ch:=[z,TO,i1,i2]) (fun c o n e=>hk c o (fun t=>n (by simp [t])) (fun t=>n (by simp [t])) (fun t=>n (by simp [t])) (fun t=>n (by simp [t])) e) fun c hc=>hf c (by
    have:c=z\/c=TO\/c=i1\/c=i2:=by simpa using hc
    rcases this with rfl | rfl | rfl | rfl<;>simp)
 self:=fun _ _ _ _ _ st h=>wpAny_pyIter_zip st.1 h
theorem zfi{X:Cx}{elts:List Expr}{kt:Nat}{tp:Pos}{a b:Expr}{ta:TA}{p pos:Pos}(hg:Gl X "zip")(hm:X.mg "zip"=none)(ha:PA X [a,b] ta)(hs:starEach [a,b] X.env=(false,eval a X.env)::starEach [b] X.env:=by rfl)(hpl:(backTo pos (starEach [b] X.env)).any (·.1)=false:=by rfl): PI X (.Tuple elts kt tp) (.Call (.Name "zip" p) [a,b] [] pos) (fun O H R=>ta O H fun vs H1=>∃ l1 l2 b1 b2,vs=[.ref l1,.ref l2]/\(∃ xs,Sq b1 X.K H1 l1 xs)/\(∃ ys,Sq b2 X.K H1 l2 ys)/\R (Itz X.K b1 b2 l1 l2) H1):=by
 intro pins s O H R I h;refine wpAny_Call_Name_kw (z0C I hg hm (u:=.type "zip") (by first | exact PySem.boot_zip | rfl | decide +kernel) ?_ (by decide) (by decide));refine PyProof.Rows.callWith_type1 (thn (ha pos pins s O H _ I h) fun us s1 ⟨vs,H1,I1,r1,q1⟩=>?_) hs hpl;obtain ⟨l1,l2,b1,b2,rfl,⟨xs,qx⟩,⟨ys,qy⟩,q⟩:=q1;cases r1 with | cons r1 r2=> cases r2 with | cons r2 r3=>
   cases r3;cases r1;cases r2;obtain ⟨ix,rx,cx⟩:=I1.sq qx;obtain ⟨iy,ry,cy⟩:=I1.sq qy;have lt1:l1<s1.heap.objs.size:=by cases b1 with
    | true=>obtain ⟨o,e,_⟩:=cx;exact Heap.lt_size e | false=>obtain ⟨o,e,_⟩:=cx;exact Heap.lt_size e
   have lt2:l2<s1.heap.objs.size:=by cases b2 with
    | true=>obtain ⟨o,e,_⟩:=cy;exact Heap.lt_size e | false=>obtain ⟨o,e,_⟩:=cy;exact Heap.lt_size e
   have D:ZipApart (s1.heap.objs.size+4) (s1.heap.objs.size+2) (s1.heap.objs.size+3) s1.heap.objs.size (s1.heap.objs.size+1) l1 l2:=by
    have e1:∀ k:Nat,l1≠s1.heap.objs.size+k:=fun k=>Nat.ne_of_lt (Nat.lt_of_lt_of_le lt1 (Nat.le_add_right _ _));have e2:∀ k:Nat,l2≠s1.heap.objs.size+k:=fun k=>Nat.ne_of_lt (Nat.lt_of_lt_of_le lt2 (Nat.le_add_right _ _));have nk:∀ (m j k:Nat),j≠k->m+j≠m+k:=fun m j k h z=>h (Nat.add_left_cancel z);exact ⟨nk _ 2 4 (by decide),nk _ 3 4 (by decide),nk _ 0 4 (by decide),nk _ 1 4 (by decide),nk _ 2 3 (by decide),nk _ 2 0 (by decide),nk _ 2 1 (by decide),nk _ 3 0 (by decide),nk _ 3 1 (by decide),nk _ 0 1 (by decide),e1 4,e1 3,e1 0,e1 1,e2 4,e2 3,e2 0,e2 1⟩
   refine zbM cx cy fun g hz hTI hTO h1 h2 hk=>?_;refine wpAny_pyIter_zip hz ?_;refine ⟨_,_,_,_,H1,rfl,I1.kept (t':=s1.toks) hk,zca D,⟨hz,hTI,⟨_,_,hTO⟩,h1,h2⟩,fun c hc=>?_,q⟩;have hc':s1.heap.objs.size<=c:=by
    have:c=s1.heap.objs.size+4\/c=s1.heap.objs.size+2\/c=s1.heap.objs.size+3\/c=s1.heap.objs.size\/c=s1.heap.objs.size+1:=by simpa using hc
    rcases this with rfl | rfl | rfl | rfl | rfl<;>first | exact Nat.le_refl _ | exact Nat.le_add_right _ _
   exact I1.fpOk hc' (I1.hok.fresh hc')
end L2
namespace Zz
section
variable {P:Program}{w:World}{A:Around}{E:Value->Shared->Prop}{s:Shared}
theorem z1Q {b : Bool} {l : Addr} {its : Array Value} {Q : Value → Shared → Prop} (hh : A.handled = none) (h : Sco b s.heap l its) (k : ∀ s2 : Shared, s2 = { s with heap := s.heap.push (itO b l) } → ∀ St : Nat → Heap → Prop, Walks P w A s.heap.objs.size [s.heap.objs.size, l] [s.heap.objs.size] its.size (fun i v => its[i]? = some v) St → St 0 s2.heap → (∀ c ∈ [s.heap.objs.size, l], c < s2.heap.objs.size) → (∀ h' : Heap, (∀ c o, c ∉ [s.heap.objs.size] → s2.heap.get? c = some o → h'.get? c = some o) → ∀ c o, s.heap.get? c = some o → h'.get? c = some o) → Q (.ref s.heap.objs.size) s2) : wpAny (model P w) A (pyIter (.ref l)) Q E s := by
  have lt : l < s.heap.objs.size := by cases b with
    | true => obtain ⟨o, e, _⟩ := h; exact Heap.lt_size e | false => obtain ⟨o, e, _⟩ := h; exact Heap.lt_size e
  have ne : l ≠ s.heap.objs.size := Nat.ne_of_lt lt;have bd : ∀ c ∈ [s.heap.objs.size, l], c < (s.heap.push (itO b l)).objs.size := fun c hc => by
    have : c = s.heap.objs.size ∨ c = l := by simpa using hc
    rw [Heap.size_push];rcases this with rfl | rfl;· exact Nat.lt_succ_self _
    · exact Nat.lt_succ_of_lt lt
  have old : ∀ h' : Heap, (∀ c o, c ∉ [s.heap.objs.size] → (s.heap.push (itO b l)).get? c = some o → h'.get? c = some o) → ∀ c o, s.heap.get? c = some o → h'.get? c = some o := fun h' hk c o e =>
    hk c o (fun z => by have : c = s.heap.objs.size := by simpa using z
                        exact absurd (this ▸ Heap.lt_size e) (Nat.lt_irrefl _)) (Heap.get?_push_of_some _ e);refine z3m h ?_;have g : (s.heap.push (itO b l)).get? s.heap.objs.size = some (itO b l) := Heap.get?_push_size _ (z16 b l);cases b with
  | true => exact k _ rfl _ (Walks.list hh _ l ne its) ⟨z6c (b := true) g, Sco.to (b := true) h fun o e => Heap.get?_push_of_some _ e⟩ bd old | false => exact k _ rfl _ (Walks.tuple hh _ l ne its) ⟨z6c (b := false) g, Sco.to (b := false) h fun o e => Heap.get?_push_of_some _ e⟩ bd old
end
end Zz
namespace L2
open PySem.Spec Zz
def maxL:List Int->Int
 | []=>0 | x::xs=>xs.foldl max x
def minL:List Int->Int
 | []=>0 | x::xs=>xs.foldl min x
theorem uq:∀ (xs:List Int)(x:Int),x<=xs.foldl max x/\(∀ y∈xs,y<=xs.foldl max x)/\(xs.foldl max x=x\/xs.foldl max x∈xs)
 | [],x=>⟨Int.le_refl _,by simp,.inl rfl⟩ | y::ys,x=>by
  obtain ⟨h1,h2,h3⟩:=uq ys (max x y);refine ⟨by simp only [List.foldl_cons];omega,fun z hz=>?_,?_⟩
  ·simp only [List.foldl_cons];rcases List.mem_cons.mp hz with rfl | hz;·omega
   ·exact h2 z hz
  ·simp only [List.foldl_cons];rcases h3 with h3 | h3
   ·rw [h3];rcases Int.le_total x y with h | h;·exact .inr (by rw [Int.max_eq_right h];simp)
    ·exact .inl (Int.max_eq_left h)
   ·exact .inr (List.mem_cons_of_mem _ h3)
theorem uu:∀ (xs:List Int)(x:Int),xs.foldl min x<=x/\(∀ y∈xs,xs.foldl min x<=y)/\(xs.foldl min x=x\/xs.foldl min x∈xs)
 | [],x=>⟨Int.le_refl _,by simp,.inl rfl⟩ | y::ys,x=>by
  obtain ⟨h1,h2,h3⟩:=uu ys (min x y);refine ⟨by simp only [List.foldl_cons];omega,fun z hz=>?_,?_⟩
  ·simp only [List.foldl_cons];rcases List.mem_cons.mp hz with rfl | hz;·omega
   ·exact h2 z hz
  ·simp only [List.foldl_cons];rcases h3 with h3 | h3
   ·rw [h3];rcases Int.le_total x y with h | h;·exact .inl (Int.min_eq_left h)
    ·exact .inr (by rw [Int.min_eq_right h];simp)
   ·exact .inr (List.mem_cons_of_mem _ h3)
theorem maxL_ge{xs:List Int}:∀ y∈xs,y<=maxL xs:=by cases xs with
 | nil=>simp | cons x xs=>intro y hy;rcases List.mem_cons.mp hy with rfl | hy;exact (uq xs y).1;exact (uq xs x).2.1 y hy
theorem maxL_mem{xs:List Int}(h:xs≠[]):maxL xs∈xs:=by cases xs with
 | nil=>exact absurd rfl h | cons x xs=>rcases (uq xs x).2.2 with e | e;exact (show xs.foldl max x∈x::xs by rw [e];simp);exact List.mem_cons_of_mem _ e
theorem minL_le{xs:List Int}:∀ y∈xs,minL xs<=y:=by cases xs with
 | nil=>simp | cons x xs=>intro y hy;rcases List.mem_cons.mp hy with rfl | hy;exact (uu xs y).1;exact (uu xs x).2.1 y hy
theorem minL_mem{xs:List Int}(h:xs≠[]):minL xs∈xs:=by cases xs with
 | nil=>exact absurd rfl h | cons x xs=>rcases (uu xs x).2.2 with e | e;exact (show xs.foldl min x∈x::xs by rw [e];simp);exact List.mem_cons_of_mem _ e
section
variable {X:Cx}
theorem z1E {ns:List Int} {its:List Value} (r:xF (ns.map V.int) its) {i:Nat} {v:Value} (e:its.toArray[i]? = some v):∃ t,v=.int (ns.getD i 0) t/\i<ns.length:=by
 have e':its[i]? = some v:=by simpa using e
 have hl:=r.length;have hi:i<ns.length:=by
  have:=(List.getElem?_eq_some_iff.mp e').1;simp at hl;omega
 obtain ⟨u,hu,ru⟩:=r.get (i:=i) (x:=V.int ns[i]) (by simp [hi]);rw [e'] at hu;cases hu;obtain ⟨t,rfl⟩:=ru;exact ⟨t,by simp [List.getD,hi],hi⟩
theorem getD_in{ns:List Int}{i:Nat}(h:i<ns.length):ns.getD i 0∈ns:=by
 rw [List.getD,List.getElem?_eq_getElem h];exact List.getElem_mem _
theorem z9g (hc:X.calm=true):wL X (.builtin "max") (fun xs H Q=>∃ b p ns,xs=[.ref p]/\Sq b X.K H p (ns.map V.int)/\ns≠[]/\Q (.int (maxL ns)) H):=by
 intro pins s O H xs us Q I r h;obtain ⟨b,p,ns,rfl,hq,hne,q⟩:=h;obtain ⟨u,rfl,ru⟩:=vals1 r;cases ru;obtain ⟨its,rv,co⟩:=I.sq hq;have hl:its.length=ns.length:=by have:=rv.length;simp at this;omega
 have hn:0<ns.length:=List.length_pos_iff.mpr hne;refine call_max_walk (z1Q (I.ok.hd hc) co fun s2 e2 St W st bd old=>?_);subst e2;refine ⟨_,_,_,_,_,_,_,rfl,W,st,bd,by simpa [hl] using hn,CmpOf.ints_gt (fun i=>ns.getD i 0) (fun i v e=>let ⟨t,e1,_⟩:=z1E rv e;⟨t,e1⟩),fun v h' tk e hk=>?_⟩;obtain ⟨t,e1,lt⟩:=z1E rv e;obtain ⟨h1,h2⟩:=argBest_gt (fun i=>ns.getD i 0) (its.toArray.size-1);have em:ns.getD (argBest (fun i j=>decide (ns.getD i 0 > ns.getD j 0)) (its.toArray.size-1)) 0=maxL ns:=by
  refine Int.le_antisymm (maxL_ge _ ?_) ?_;·exact getD_in lt
  ·obtain ⟨j,hj,ej⟩:=List.mem_iff_getElem.mp (maxL_mem hne);have:=h2 j (by simp [hl];omega);simp only [List.getD,List.getElem?_eq_getElem hj,Option.getD_some,ej] at this;simpa [List.getD] using this
 rw [e1,em];exact ⟨.int (maxL ns),H,I.kept (t':=tk) (old h' hk),⟨t,rfl⟩,q⟩
theorem zb8 (hc:X.calm=true):wL X (.builtin "min") (fun xs H Q=>∃ b p ns,xs=[.ref p]/\Sq b X.K H p (ns.map V.int)/\ns≠[]/\Q (.int (minL ns)) H):=by
 intro pins s O H xs us Q I r h;obtain ⟨b,p,ns,rfl,hq,hne,q⟩:=h;obtain ⟨u,rfl,ru⟩:=vals1 r;cases ru;obtain ⟨its,rv,co⟩:=I.sq hq;have hl:its.length=ns.length:=by have:=rv.length;simp at this;omega
 have hn:0<ns.length:=List.length_pos_iff.mpr hne;refine call_min_walk (z1Q (I.ok.hd hc) co fun s2 e2 St W st bd old=>?_);subst e2;refine ⟨_,_,_,_,_,_,_,rfl,W,st,bd,by simpa [hl] using hn,CmpOf.ints_lt (fun i=>ns.getD i 0) (fun i v e=>let ⟨t,e1,_⟩:=z1E rv e;⟨t,e1⟩),fun v h' tk e hk=>?_⟩;obtain ⟨t,e1,lt⟩:=z1E rv e;obtain ⟨h1,h2⟩:=argBest_lt (fun i=>ns.getD i 0) (its.toArray.size-1);have em:ns.getD (argBest (fun i j=>decide (ns.getD i 0<ns.getD j 0)) (its.toArray.size-1)) 0=minL ns:=by
  refine Int.le_antisymm ?_ (minL_le _ ?_)
  ·obtain ⟨j,hj,ej⟩:=List.mem_iff_getElem.mp (minL_mem hne);have:=h2 j (by simp [hl];omega);simp only [List.getD,List.getElem?_eq_getElem hj,Option.getD_some,ej] at this;simpa [List.getD] using this
  ·exact getD_in lt
 rw [e1,em];exact ⟨.int (minL ns),H,I.kept (t':=tk) (old h' hk),⟨t,rfl⟩,q⟩
theorem all_range{bs:List Bool}:(List.range bs.length).all (fun i=>bs.getD i false)=bs.all id:=by
 rw [Bool.eq_iff_iff];simp only [List.all_eq_true,List.mem_range,id];constructor
 ·intro h x hx;obtain ⟨j,hj,ej⟩:=List.mem_iff_getElem.mp hx;have:=h j hj;simpa [List.getD,hj,ej] using this
 ·intro h i hi;simp only [List.getD,List.getElem?_eq_getElem hi,Option.getD_some];exact h _ (List.getElem_mem _)
theorem z9r (hc:X.calm=true):wL X (.builtin "all") (fun xs H Q=>∃ (b:Bool) (p:Addr) (bs:List Bool),xs=[.ref p]/\Sq b X.K H p (bs.map V.bl)/\Q (.bl (bs.all id)) H):=by
 intro pins s O H xs us Q I r h;obtain ⟨b,p,bs,rfl,hq,q⟩:=h;obtain ⟨u,rfl,ru⟩:=vals1 r;cases ru;obtain ⟨its,rv,co⟩:=I.sq hq;have hl:its.length=bs.length:=by have:=rv.length;simp at this;omega
 refine call_all_walk (z1Q (I.ok.hd hc) co fun s2 e2 St W st bd old=>?_);subst e2;refine ⟨_,_,_,_,_,_,fun i=>bs.getD i false,rfl,W,st,fun i v s3 Q3 E3 e q3=>?_,fun h' tk hk=>?_⟩
 ·have e':its[i]? = some v:=by simpa using e
  have hi:i<bs.length:=by have:=(List.getElem?_eq_some_iff.mp e').1;omega
  obtain ⟨u,hu,ru⟩:=rv.get (i:=i) (x:=V.bl bs[i]) (by simp [hi]);rw [e'] at hu;cases hu;cases ru;have:bs.getD i false=bs[i]:=by simp [List.getD,hi]
  have q3:Q3 (bs.getD i false) s3:=q3;rw [this] at q3;exact wpAny_truthy_bool q3
 ·have ez:its.toArray.size=bs.length:=by simp [hl]
  rw [ez,all_range];exact ⟨.bl (bs.all id),H,I.kept (t':=tk) (old h' hk),rfl,q⟩
end
end L2
namespace L2
open PySem.Spec
theorem z7e{X:Cx}:wL X (.builtin "isinstance") (fun xs H Q=>∃ x t T b,xs=[x,.ty T]/\z7C X.K H x t/\W.kitOne X.K t (.type T)=some b/\Q (.bl b) H):=by
 intro pins s O H xs us Q I r h;obtain ⟨x,t,T,b,rfl,ht,hk,q⟩:=h;obtain ⟨u,v,rfl,ru,rv⟩:=vals2 r;cases rv;exact za1 I ru ht hk fun tk=>⟨.bl b,H,I.tok _,rfl,q⟩
end L2
namespace Dd
open PySem.Spec L2
def tyD:D->Option String
 | .non=>some "NoneType" | .bl _=>some "bool" | .int _=>some "int" | .str _=>some "str" | .tup _=>some "tuple" | .lst _=>some "list" | .loc _=>some "list" | .dct=>some "dict" | _=>none
def isT(T t:String):Bool:=t==T||(T=="int"&&t=="bool")
def gIs(T:String):D->Sto->R D:=fun d s=>match tyD d with | some t=>.ok (.bl (isT T t)) s | none=>.no
theorem zel{K:W.Frag}{t:String}(h:t∈["NoneType","bool","int","str","tuple","list","dict"])(T:String)(hT:T∈["int","bool","str","tuple","list"]):W.kitOne K (.type t) (.type T)=some (isT T t):=by
 have hh:t="NoneType"\/t="bool"\/t="int"\/t="str"\/t="tuple"\/t="list"\/t="dict":=by simpa using h
 have hh':T="int"\/T="bool"\/T="str"\/T="tuple"\/T="list":=by simpa using hT
 rcases hh with rfl | rfl | rfl | rfl | rfl | rfl | rfl<;>rcases hh' with rfl | rfl | rfl | rfl | rfl<;>kernel_rfl
theorem zgT{mg:Gm}{H:Hp}{Y:List Addr}{s:Sto}{d:D}{v:V}{t:String}(r:Rep mg H Y s)(dn:Den mg H Y d v)(e:tyD d=some t):z7C mg.K H v (.type t)/\t∈["NoneType","bool","int","str","tuple","list","dict"]:=by cases d with
 | non=>simp only [Den] at dn;subst dn;cases e;exact ⟨.non,by simp⟩ | bl b=>cases qY dn;cases e;exact ⟨.bl b,by simp⟩ | int b=>cases yO dn;cases e;exact ⟨.int b,by simp⟩ | str b=>cases z4r dn;cases e;exact ⟨.str b,by simp⟩ | tup b=>
  cases e;simp only [Den] at dn;obtain ⟨a,vs,rfl,h1,_⟩:=dn;exact ⟨.tup h1,by simp⟩ | lst b=>
  cases e;simp only [Den] at dn;obtain ⟨a,o,vs,rfl,h1,_⟩:=dn;exact ⟨.frz h1,by simp⟩ | loc l=>
  cases e;simp only [Den] at dn;obtain ⟨a,rfl,h1,vs,h2⟩:=dn;exact ⟨.lst h2,by simp⟩ | dct=>
  cases e;simp only [Den] at dn;obtain ⟨a,rfl,h1⟩:=dn;exact ⟨.dK h1,by simp⟩ | _=>cases e
section
variable {X:Cx}{E:XK}{e a b c tg:Expr}{es:List Expr}{pos:Pos}{CX:CXT}
def eIs(T:String)(f:FE):FE:=fun Z s=>(f Z s).bind fun d s1=>gIs T d s1
theorem z6j{p p2:Pos}{T:String}{tn:Str}{f:FE}(hT:T∈["int","bool","str","tuple","list"])(hv:bootBuiltins tn=some (.type T))(hg:Gl X "isinstance")(hm:X.mg "isinstance"=none)(hg2:Gl X tn)(hm2:X.mg tn=none)(he:RE X E e f) (hn:tn≠"__name__":=by decide)(hd:(tn==("__debug__":Str))=false:=by decide) (hs:starEach [e,.Name tn p2] X.env=(false,eval e X.env)::starEach [.Name tn p2] X.env:=by rfl)(hpl:(backTo pos (starEach [.Name tn p2] X.env)).any (·.1)=false:=by rfl):RE X E (.Call (.Name "isinstance" p) [e,.Name tn p2] [] pos) (eIs T f):= yz (z7j z7e hg hm (by decide +kernel) (z1j he (z1j (zdZ hg2 hm2 hv (show xx (.ty T) (.type T) from rfl) hn hd) z7K) hs) (by decide) (by decide) hs hpl) fun O H Q ⟨Y,Z,s,r,en,h⟩=>by
  refine xb (k:=fun Z d s1=>gIs T d s1) r en h _ fun v H1 Y1 s1 d r1 en1 dn stp h1=>?_;unfold gIs at h1;split at h1
  ·rename_i t et;obtain ⟨q1,q2⟩:=zgT r1 dn et;exact ⟨v,.type t,T,isT T t,rfl,q1,zel q2 T hT,okR.here (b:=V.bl (isT T t)) h1 r1 xQ⟩
  ·exact h1.elim
def zkH:List D->Sto->R D
 | [.int i],s=>.ok (.int (if i<0 then -i else i)) s | _,_=>.no
def intsOf:List D->Option (List Int)
 | []=>some [] | .int i::r=>(intsOf r).map (i::·) | _=>none
def bools:List D->Option (List Bool)
 | []=>some [] | .bl i::r=>(bools r).map (i::·) | _=>none
theorem jj:∀ {xs:List D}{ns:List Int},intsOf xs=some ns->xs=ns.map D.int
 | [],ns,h=>by simp [intsOf] at h;subst h;rfl | .int i::r,ns,h=>by
  simp only [intsOf,Option.map_eq_some_iff] at h;obtain ⟨ms,h1,rfl⟩:=h;rw [jj h1];rfl
theorem wk(ns:List Int):intsOf (ns.map D.int)=some ns:=by induction ns with
 | nil=>rfl | cons n ns ih=>simp [intsOf,ih]
theorem z85:∀ {xs:List D}{ns:List Bool},bools xs=some ns->xs=ns.map D.bl
 | [],ns,h=>by simp [bools] at h;subst h;rfl | .bl i::r,ns,h=>by
  simp only [bools,Option.map_eq_some_iff] at h;obtain ⟨ms,h1,rfl⟩:=h;rw [z85 h1];rfl
theorem z5K(ns:List Bool):bools (ns.map D.bl)=some ns:=by induction ns with
 | nil=>rfl | cons n ns ih=>simp [bools,ih]
theorem jm{mg:Gm}{H:Hp}{Y:List Addr}:∀ {ns:List Int}{vs:List V},zB mg H Y (ns.map D.int) vs->vs=ns.map V.int
 | [],vs,h=>by simpa [zB] using h | n::ns,vs,h=>by
  simp only [List.map_cons,zB] at h;obtain ⟨v,r,rfl,h1,h2⟩:=h;cases yO h1;rw [jm h2];rfl
theorem z7D{mg:Gm}{H:Hp}{Y:List Addr}:∀ {ns:List Bool}{vs:List V},zB mg H Y (ns.map D.bl) vs->vs=ns.map V.bl
 | [],vs,h=>by simpa [zB] using h | n::ns,vs,h=>by
  simp only [List.map_cons,zB] at h;obtain ⟨v,r,rfl,h1,h2⟩:=h;cases qY h1;rw [z7D h2];rfl
def uy:List D->Sto->R D
 | [d],s=>match (zF s d).bind intsOf with | some (n::ns)=>.ok (.int (maxL (n::ns))) s | _=>.no
 | _,_=>.no
def z0m:List D->Sto->R D
 | [d],s=>match (zF s d).bind intsOf with | some (n::ns)=>.ok (.int (minL (n::ns))) s | _=>.no
 | _,_=>.no
def z8U:List D->Sto->R D
 | [d],s=>match (zF s d).bind bools with | some ns=>.ok (.bl (ns.all id)) s | none=>.no
 | _,_=>.no
theorem z5Z{K:W.Frag}{H:Hp}{a:Addr}{vs:List V}(h:SqL K H a vs\/SqT K H a vs):∃ b,Sq b K H a vs:=h.elim (fun h=>⟨true,h⟩) fun h=>⟨false,h⟩
theorem z3r(hc:X.calm=true):∃ r,wL X (.builtin "max") r/\z0k X E r uy:=⟨_,z9g hc,fun H Y s ds vs Q r hd h=>by
 unfold uy at h;split at h
 ·rename_i d;split at h
  ·rename_i n ns e;obtain ⟨xs,e1,e2⟩:=Option.bind_eq_some_iff.mp e;have:=jj e2;subst this;obtain ⟨v,rfl,dn⟩:=z02 hd;obtain ⟨a,ws,rfl,q1,q2⟩:=vE (K:=X.K) r e1 dn;cases jm q2;obtain ⟨b,q⟩:=z5Z q1;exact ⟨b,a,n::ns,rfl,q,by simp,h.here r yR⟩
  ·exact h.elim
 ·exact h.elim⟩
theorem z7G(hc:X.calm=true):∃ r,wL X (.builtin "min") r/\z0k X E r z0m:=⟨_,zb8 hc,fun H Y s ds vs Q r hd h=>by
 unfold z0m at h;split at h
 ·rename_i d;split at h
  ·rename_i n ns e;obtain ⟨xs,e1,e2⟩:=Option.bind_eq_some_iff.mp e;have:=jj e2;subst this;obtain ⟨v,rfl,dn⟩:=z02 hd;obtain ⟨a,ws,rfl,q1,q2⟩:=vE (K:=X.K) r e1 dn;cases jm q2;obtain ⟨b,q⟩:=z5Z q1;exact ⟨b,a,n::ns,rfl,q,by simp,h.here r yR⟩
  ·exact h.elim
 ·exact h.elim⟩
theorem zdx(hc:X.calm=true):∃ r,wL X (.builtin "all") r/\z0k X E r z8U:=⟨_,z9r hc,fun H Y s ds vs Q r hd h=>by
 unfold z8U at h;split at h
 ·rename_i d;split at h
  ·rename_i ns e;obtain ⟨xs,e1,e2⟩:=Option.bind_eq_some_iff.mp e;have:=z85 e2;subst this;obtain ⟨v,rfl,dn⟩:=z02 hd;obtain ⟨a,ws,rfl,q1,q2⟩:=vE (K:=X.K) r e1 dn;cases z7D q2;obtain ⟨b,q⟩:=z5Z q1;exact ⟨b,a,ns,rfl,q,h.here r xQ⟩
  ·exact h.elim
 ·exact h.elim⟩
def z11:List D->List D->List D
 | x::xs,y::ys=>.tup [x,y]::z11 xs ys | _,_=>[]
theorem z2g:∀ (xs ys:List D),(z11 xs ys).length=min xs.length ys.length
 | [],ys=>by simp [z11] | x::xs,[]=>by simp [z11] | x::xs,y::ys=>by simp only [z11,List.length_cons,z2g xs ys];omega
theorem zaK:∀ {xs ys:List D}{i:Nat}{d:D},(z11 xs ys)[i]? = some d->∃ x y,xs[i]? = some x/\ys[i]? = some y/\d=.tup [x,y]
 | [],ys,i,d,h=>by simp [z11] at h | x::xs,[],i,d,h=>by simp [z11] at h | x::xs,y::ys,0,d,h=>by simp [z11] at h;exact ⟨x,y,by simp,by simp,h.symm⟩ | x::xs,y::ys,i+1,d,h=>by
  simp only [z11,List.getElem?_cons_succ] at h;obtain ⟨a,b,h1,h2,h3⟩:=zaK h;exact ⟨a,b,by simpa using h1,by simpa using h2,h3⟩
def z0Q(s:Sto):D->Option (List D×List (Nat×List D))
 | .tup xs=>some (xs,[]) | .lst xs=>some (xs,[]) | .loc l=>(s[l]?).map fun xs=>(xs,[(l,xs)]) | _=>none
theorem z6Q{mg:Gm}{H:Hp}{Y:List Addr}{s:Sto}{d:D}{xs:List D}{g:List (Nat×List D)}{v:V}(r:Rep mg H Y s)(h:z0Q s d=some (xs,g))(dn:Den mg H Y d v):okG g [] s/\∃ (b:Bool)(a:Addr),v=.ref a/\ ∀ H2 Y2 s2,wG mg H Y H2 Y2 s2->okG g [] s2->∃ ws,Sq b mg.K H2 a ws/\zB mg H2 Y2 xs ws:=by cases d with
 | tup ys=>
  cases h;obtain ⟨a,vs,rfl,q1,q2⟩:=jD (K:=mg.K) dn;refine ⟨(by intro p hp;simp at hp),false,a,rfl,fun H2 Y2 s2 stp _=>?_⟩;obtain ⟨a',ws,e,q3,q4⟩:=jD (K:=mg.K) (dn.mono stp);cases e;exact ⟨ws,q3,q4⟩ | lst ys=>
  cases h;obtain ⟨a,vs,rfl,q1,q2⟩:=yq (d:=.lst xs) r rfl dn;refine ⟨(by intro p hp;simp at hp),true,a,rfl,fun H2 Y2 s2 stp _=>?_⟩;obtain ⟨a',ws,e,q3,q4⟩:=yq (d:=.lst xs) stp.rep rfl (dn.mono stp);cases e;exact ⟨ws,.inl q3,q4⟩ | loc l=>
  simp only [z0Q,Option.map_eq_some_iff] at h;obtain ⟨ys,ey,e2⟩:=h;cases e2;obtain ⟨a,vs,rfl,q1,q2⟩:=yq (d:=.loc l) r ey dn;have og:okG [(l,xs)] [] s:=fun p hp=>by
   have:p=(l,xs):=by simpa using hp
   subst this;exact ey
  refine ⟨og,true,a,rfl,fun H2 Y2 s2 stp hg=>?_⟩;obtain ⟨a',ws,e,q3,q4⟩:=yq (d:=.loc l) stp.rep (hg (l,xs) (by simp)) (dn.mono stp);cases e;exact ⟨ws,.inl q3,q4⟩ | _=>cases h
def z5u(f:FA):FI:=fun Z s=>(f Z s).bind fun ds s1=>match ds with
 | [x,y]=>match z0Q s1 x,z0Q s1 y with
  | some p,some q=>.ok (z11 p.1 q.1,p.2++q.2) s1 | _,_=>.no
 | _=>.no
theorem zbk{p tp:Pos}{elts:List Expr}{kt:Nat}{f:FA}(hg:Gl X "zip")(hm:X.mg "zip"=none)(ha:RA X E [a,b] f)(hs:starEach [a,b] X.env=(false,eval a X.env)::starEach [b] X.env:=by rfl)(hpl:(backTo pos (starEach [b] X.env)).any (·.1)=false:=by rfl): RI X E (.Tuple elts kt tp) (.Call (.Name "zip" p) [a,b] [] pos) (z5u f):= z8e (zfi hg hm ha hs hpl) fun O H Q ⟨Y,Z,s,r,en,h⟩=>by
  unfold z5u at h;refine ⟨Y,Z,s,r,en,(okR.bind (Dn:=zB (gm X)) h).imp fun vs H1 ⟨Y1,s1,ds,stp,dn,h1⟩=>?_⟩;split at h1
  ·rename_i x y;split at h1
   ·rename_i p q ex ey;obtain ⟨xs,gx⟩:=p;obtain ⟨ys,gy⟩:=q;obtain ⟨v,v',rfl,d1,d2⟩:=z8N dn;obtain ⟨og1,b1,a1,rfl,k1⟩:=z6Q stp.rep ex d1;obtain ⟨og2,b2,a2,rfl,k2⟩:=z6Q stp.rep ey d2;obtain ⟨w1,q1,_⟩:=k1 H1 Y1 s1 (.refl stp.rep) og1;obtain ⟨w2,q2,_⟩:=k2 H1 Y1 s1 (.refl stp.rep) og2;refine ⟨a1,a2,b1,b2,rfl,⟨w1,q1⟩,⟨w2,q2⟩,h1.here stp.rep fun H2 Y2 s2 stp2 og i=>?_⟩;have h3:okG gx [] s2:=fun p hp=>og p (List.mem_append_left _ hp);have h4:okG gy [] s2:=fun p hp=>og p (List.mem_append_right _ hp);refine ⟨fun d hd=>?_,fun hl=>?_⟩
    ·obtain ⟨x,y,e1,e2,rfl⟩:=zaK hd;obtain ⟨w1,q1,n1⟩:=k1 H2 Y2 s2 stp2 h3;obtain ⟨w2,q2,n2⟩:=k2 H2 Y2 s2 stp2 h4;obtain ⟨u1,g1,m1⟩:=n1.get e1;obtain ⟨u2,g2,m2⟩:=n2.get e2;refine ⟨⟨w1,w2,u1,u2,q1,q2,g1,g2⟩,fun z H' ⟨T,p,q,hT,ez,eH,hp,hq⟩=>?_⟩;subst ez eH;have e3:=hp w1 q1;have e4:=hq w2 q2;rw [g1] at e3;rw [g2] at e4;cases e3;cases e4;have st3:=wG.lay (o:=.tup [u1,u2]) stp2.rep hT (by intro _ z;cases z);refine ⟨Y2,st3,?_⟩;simp only [Den];exact ⟨T,[u1,u2],rfl,yr,(zB.cons m1 (zB.one m2)).mono st3⟩
    ·obtain ⟨w1,q1,n1⟩:=k1 H2 Y2 s2 stp2 h3;obtain ⟨w2,q2,n2⟩:=k2 H2 Y2 s2 stp2 h4;refine ⟨w1,w2,q1,q2,?_⟩;rw [n1.length,n2.length];simp only [z2g] at hl;omega
   ·exact h1.elim
  ·exact h1.elim
end
def xL(mp:List (Option Nat))(Z:Ev):Ev:=mp.map fun o=>match o with | some j=>(Z[j]?).getD none | none=>none
theorem uf.inner{mg:Gm}{H:Hp}{Y:List Addr}{Z:Ev}{O:L2.St}{mp:List (Option Nat)}(en:uf mg H Y Z O):uf mg H Y (xL mp Z) (inner mp O):=by
 refine ⟨by simp [xL,L2.inner],fun i d h=>?_⟩;simp only [xL,List.getElem?_map,Option.map_eq_some_iff] at h;obtain ⟨o,h1,h2⟩:=h;cases o with
 | none=>cases h2 | some j=>
  simp only at h2;have h3:Z[j]? = some (some d):=by cases e:Z[j]? with
   | none=>rw [e] at h2;cases h2 | some x=>rw [e] at h2;simp at h2;rw [h2]
  obtain ⟨v,h4,h5⟩:=en.at_ j d h3;exact ⟨v,by simp [L2.inner,h1,h4],h5⟩
open Classical in
def uh(g:List (Nat×List D))(all:List D)(body:D->Sto->R (Option D)):List D->List D->Sto->R (List D)
 | [],acc,s=>if okG g all s then .ok acc s else .no | x::xs,acc,s=>if okG g all s then (body x s).bind fun o s1=>match o with
   | some d=>if acc.length<cap then uh g all body xs (acc++[d]) s1 else .no | none=>uh g all body xs acc s1 else .no
def z5I(fi:FI)(mp:List (Option Nat))(fg:FG)(ft:FT)(fe:FE):FA:=fun Z s=>(fi Z s).bind fun it s1=>uh it.2 it.1 (fun d s=>(fg d (xL mp Z) s).bind fun Z' s'=>(ft Z' s').bind fun b s2=>if b=true then (fe Z' s2).bind fun d s3=>.ok (some d) s3 else .ok none s2) it.1 [] s1
def z4g(mg:Gm)(E:XK)(mp:List (Option Nat))(g:TG)(fg:FG):Prop:=∀ (O:L2.St) H Y Z s x d (Q:L2.St->Hp->Prop),Rep mg H Y s->uf mg H Y (xL mp Z) (inner mp O)->Den mg H Y d x->okR mg E H Y (uf mg) (fg d (xL mp Z) s) Q-> g x (inner mp O) H (fun O2 H2=>(O2.length=(inner mp O).length/\∀ (i:Nat) v,(inner mp O)[i]? = some (some v)->O2[i]? = some (some v))/\Q O2 H2)
theorem z1N{mp:List (Option Nat)}{i:Nat}(h:mp[i]? = some none)(O:L2.St):(inner mp O)[i]? = some none:=by simp [L2.inner,h]
theorem z4I{O:L2.St}{i:Nat}{v:V}(h:O[i]? = some none):(O.set i (some v)).length=O.length/\∀ (j:Nat) u,O[j]? = some (some u)->(O.set i (some v))[j]? = some (some u):=by
 refine ⟨by simp,fun j u e=>?_⟩;have:i≠j:=fun z=>by subst z;rw [h] at e;cases e
 rw [List.getElem?_set_ne this];exact e
section
variable {X:Cx}{E:XK}{e a b c tg iter elt:Expr}{es:List Expr}{pos:Pos}{CX:CXT}{mp:List (Option Nat)}
theorem zP(i:Nat)(h:mp[i]? = some none):z4g (gm X) E mp (z8X i) (yn i):=fun O H Y Z s x d Q r en dn ok=>by
 refine ⟨z4I (z1N h O),?_⟩;exact okR.here (b:=(inner mp O).set i (some x)) ok r (en.set dn i)
theorem z3F{fi:FI}{g:TG}{fg:FG}{ft:FT}{fe:FE}{O:L2.St}{H:Hp}{Q:VK}{Y:List Addr}{Z:Ev}{s:Sto}{β:Type}{kR:List D->Sto->R β}{β2:Type}{Dn:Hp->List Addr->β->β2->Prop}{Q2:β2->Hp->Prop}(hg:z4g (gm X) E mp g fg)(r:Rep (gm X) H Y s)(en:uf (gm X) H Y Z O) (h:okR (gm X) E H Y Dn ((z5I fi mp fg ft fe Z s).bind kR) Q2) (fin:∀ H1 Y1 s1 xs vs,Rep (gm X) H1 Y1 s1->uf (gm X) H1 Y1 Z O->zB (gm X) H1 Y1 xs vs->okR (gm X) E H1 Y1 Dn (kR xs s1) Q2->xs.length<=cap->∀ p,H1 p=none->Q (.ref p) (upd H1 p (.lst vs))): zch (tI (gm X) E fi) mp g (tT (gm X) E ft) (tE (gm X) E fe) O H Q:=by
 unfold z5I at h;have assoc:∀ {α γ δ:Type}(x:R α)(f:α->Sto->R γ)(k:γ->Sto->R δ),(x.bind f).bind k=x.bind fun a s=>(f a s).bind k:=fun x f k=>by cases x<;>rfl
 rw [assoc] at h;refine ⟨Y,Z,s,r,en,(okR.bind (Dn:=zet (gm X)) h).imp fun J H1 ⟨Y1,s1,it,stp,ok,h1⟩=>?_⟩;obtain ⟨items,gd⟩:=it;simp only at h1;refine ⟨fun i m ys H=>∃ Y s acc,wG (gm X) H1 Y1 H Y s/\zB (gm X) H Y acc ys/\acc.length<=cap/\m=items.length-i/\i<=items.length/\ okR (gm X) E H Y Dn ((uh gd items (fun d s=>(fg d (xL mp Z) s).bind fun Z' s'=>(ft Z' s').bind fun b s2=>if b=true then (fe Z' s2).bind fun d s3=>.ok (some d) s3 else .ok none s2) (items.drop i) acc s).bind kR) Q2, ⟨items.length,Y1,s1,[],.refl stp.rep,zB.nil,Nat.zero_le _,by simp,Nat.zero_le _,by simpa using h1⟩,?_⟩;rintro i m ys H2 ⟨Y2,s2,acc,stp2,dn2,hcap,rfl,hil,h2⟩;have en2:uf (gm X) H2 Y2 Z O:=(en.mono stp).mono stp2;by_cases hlt:i<items.length
 ·right;rw [List.drop_eq_getElem_cons hlt,uh] at h2;split at h2
  ·rename_i hG;obtain ⟨go,yl⟩:=((ok H2 Y2 s2 stp2 hG i).1 items[i] (List.getElem?_eq_getElem hlt));refine ⟨go,fun x H' y=>?_⟩;obtain ⟨Y3,stp3,dn3⟩:=yl x H' y;have h3:=okR.rebase h2 stp3;rw [assoc,assoc] at h3;have h4:=okR.bind (Dn:=uf (gm X)) h3;refine hg O H' Y3 Z s2 x items[i] _ stp3.rep ((en2.mono stp3).inner) dn3 (h4.imp fun O4 H4 ⟨Y4,s4,Z4,stp4,en4,h5⟩=>?_);rw [assoc] at h5;refine ⟨Y4,Z4,s4,stp4.rep,en4,(okR.bind (Dn:=bD) h5).imp fun bb H5 ⟨Y5,s5,b',stp5,eb,h6⟩=>?_⟩;cases (show b'=bb from eb);have all5:wG (gm X) H1 Y1 H5 Y5 s5:=((stp2.trans stp3).trans stp4).trans stp5;cases bb with
   | true=>
    rw [if_pos rfl] at h6 ⊢;rw [assoc] at h6;refine ⟨Y5,Z4,s5,stp5.rep,en4.mono stp5,(okR.bind (Dn:=Den (gm X)) h6).imp fun y H6 ⟨Y6,s6,d6,stp6,dn6,h7⟩=>?_⟩;simp only [R.bind_ok] at h7;split at h7
    ·rename_i hc;have all6:=all5.trans stp6;have dny:zB (gm X) H6 Y6 acc ys:=(((dn2.mono stp3).mono stp4).mono stp5).mono stp6;refine ⟨by rw [dn2.length];exact z1X hcap,items.length-(i+1),by omega,Y6,s6,acc++[d6],all6,dny.append (zB.one dn6),by simp;omega,rfl,hlt,h7⟩
    ·exact h7.elim | false=>
    rw [if_neg (by decide)] at h6 ⊢;simp only [R.bind_ok] at h6;exact ⟨items.length-(i+1),by omega,Y5,s5,acc,all5,((dn2.mono stp3).mono stp4).mono stp5,hcap,rfl,hlt,h6⟩
  ·exact h2.elim
 ·left;have e:i=items.length:=by omega
  subst e;rw [List.drop_length,uh] at h2;split at h2
  ·rename_i hG;simp only [R.bind_ok] at h2;exact ⟨(ok H2 Y2 s2 stp2 hG _).2 (Nat.le_refl _),by rw [dn2.length];exact z1X hcap,fin H2 Y2 s2 acc ys stp2.rep en2 dn2 h2 hcap⟩
  ·exact h2.elim
def zn(fi:FI)(mp:List (Option Nat))(fg:FG)(ft:FT)(fe:FE):FE:=fun Z s=>(z5I fi mp fg ft fe Z s).bind fun xs s1=>.ok (.lst xs) s1
def z0r(fi:FI)(mp:List (Option Nat))(fg:FG)(ft:FT)(fe:FE):FE:=fun Z s=>(z5I fi mp fg ft fe Z s).bind fun xs s1=>if D.flat.flats xs=true then .ok (.loc s1.length) (s1++[xs]) else .no
def zR:FT:=fun _ s=>.ok true s
theorem yo{Yy:Cx}:z7l Yy [] (tT (gm Yy) E zR):=fun pins s O H Q I ⟨Y,Z,st,r,en,h⟩=>zcf pins s O H Q I (h.here (b:=true) r rfl)
theorem qw{Yy:Cx}{f:FT}(h:RT Yy E c f):z7l Yy [c] (tT (gm Yy) E f):=zcm h
section
variable {scope:Scope}{ifs:List Expr}{fi:FI}{fg:FG}{ft:FT}{fe:FE}{g:TG}{spos py:Pos}
theorem zhi(N':List Str)(mp:List (Option Nat))(hc:X.calm=true)(hi:RI X E tg iter fi)(hg:∀ ex s H,PG (zX X N' scope ex s H) tg g)(hgt:z4g (gm X) E mp g fg)(ht:∀ ex s H,z7l (zX X N' scope ex s H) ifs (tT (gm X) E ft))(he:∀ ex s H,RE (zX X N' scope ex s H) E elt fe) (hkd:scope.kind=.function)(hnm:∀ y∈scope.names,scope.names.lookup y.1=some y.2) (hfr:∀ y∈scope.names,y.2=.free->X.env.kindOf y.1=some .cell\/X.env.kindOf y.1=some .free)(hmp:z3v X.N scope.names N' mp=true) (hs:∀ x,foldedSetIterable iter X.env x=pure x:=by intro _;rfl):RE X E (.ListComp elt [⟨tg,iter,ifs,0⟩] scope pos) (zn fi mp fg ft fe):= yz (zeG (te:=tE (gm X) E fe) N' mp hc hi hg ht (fun ex s H=>he ex s H) hkd hnm hfr hmp hs).freeze fun O H Q ⟨Y,Z,s,r,en,h⟩=> z3F hgt r en h fun H1 Y1 s1 xs vs r1 en1 dn h1 hcap=>z1i r1 h1 dn
theorem z8Z {i:Nat} {y:Str} (N':List Str) (mp:List (Option Nat)) (hN:X.N.Nodup) (hc:X.calm=true) (hi:RI X E tg iter fi) (hg:∀ ex s H,PG (zX X N' scope ex s H) tg g) (hgt:z4g (gm X) E mp g fg) (ht:∀ ex s H,z7l (zX X N' scope ex s H) ifs (tT (gm X) E ft)) (he:∀ ex s H,RE (zX X N' scope ex s H) E elt fe) (hkd:scope.kind=.function) (hnm:∀ y∈scope.names,scope.names.lookup y.1=some y.2) (hfr:∀ y∈scope.names,y.2=.free->X.env.kindOf y.1=some .cell\/X.env.kindOf y.1=some .free) (hmp:z3v X.N scope.names N' mp=true) (hy:X.N[i]? = some y:=by rfl) (hyl:Loc X.env.scope y:=by first | exact Or.inl rfl | exact Or.inr rfl) (hs:∀ x,foldedSetIterable iter X.env x=pure x:=by intro _;rfl) (hsw:swapsWith (.ListComp elt [⟨tg,iter,ifs,0⟩] scope pos) (some (.Name y py)) spos.line X.env=pure true:=by rfl) (hf:X.fn y=true\/X.env.scope.names.lookup y=some .local:=by first | exact .inl rfl | exact .inr rfl | assumption): RS X E (.Assign [.Name y py] (.ListComp elt [⟨tg,iter,ifs,0⟩] scope pos) spos) (wF i (zn fi mp fg ft fe)):= uV (z6F (te:=tE (gm X) E fe) N' mp hN hy hyl hc hi hg ht (fun ex s H=>he ex s H) hkd hnm hfr hmp hs hsw hf) fun D O H ⟨Y,Z,s,r,en,h⟩=>by
  have assoc:∀ {α γ δ:Type} (x:R α) (f:α->Sto->R γ) (k:γ->Sto->R δ),(x.bind f).bind k=x.bind fun a s=>(f a s).bind k:=fun x f k=>by cases x<;>rfl
  unfold wF zn at h;rw [assoc] at h;refine z3F hgt r en h fun H1 Y1 s1 xs vs r1 en1 dn h1 hcap p hp=>?_;refine z1i (E:=E) (mg:=gm X) (xs:=xs) r1 (fun v H2 Y2 stp dn2=>?_) dn p hp;exact h1 (.nx (O.set i (some v))) H2 Y2 stp ((en1.mono stp).set dn2 i)
theorem z8V{i:Nat}{y:Str}(N':List Str)(mp:List (Option Nat))(hN:X.N.Nodup)(hc:X.calm=true)(hi:RI X E tg iter fi)(hg:∀ ex s H,PG (zX X N' scope ex s H) tg g)(hgt:z4g (gm X) E mp g fg)(ht:∀ ex s H,z7l (zX X N' scope ex s H) ifs (tT (gm X) E ft))(he:∀ ex s H,RE (zX X N' scope ex s H) E elt fe) (hkd:scope.kind=.function)(hnm:∀ y∈scope.names,scope.names.lookup y.1=some y.2) (hfr:∀ y∈scope.names,y.2=.free->X.env.kindOf y.1=some .cell\/X.env.kindOf y.1=some .free)(hmp:z3v X.N scope.names N' mp=true)(hy:X.N[i]? = some y:=by rfl)(hyl:Loc X.env.scope y:=by first | exact Or.inl rfl | exact Or.inr rfl) (hs:∀ x,foldedSetIterable iter X.env x=pure x:=by intro _;rfl) (hsw:swapsWith (.ListComp elt [⟨tg,iter,ifs,0⟩] scope pos) (some (.Name y py)) spos.line X.env=pure true:=by rfl) (hf:X.fn y=true\/X.env.scope.names.lookup y=some .local:=by first | exact .inl rfl | exact .inr rfl | assumption): RS X E (.Assign [.Name y py] (.ListComp elt [⟨tg,iter,ifs,0⟩] scope pos) spos) (wF i (z0r fi mp fg ft fe)):= uV (z8p (te:=tE (gm X) E fe) N' mp hN hy hyl hc hi hg ht (fun ex s H=>he ex s H) hkd hnm hfr hmp hs hsw hf) fun D O H ⟨Y,Z,s,r,en,h⟩=>by
  have assoc:∀ {α γ δ:Type}(x:R α)(f:α->Sto->R γ)(k:γ->Sto->R δ),(x.bind f).bind k=x.bind fun a s=>(f a s).bind k:=fun x f k=>by cases x<;>rfl
  unfold wF z0r at h;rw [assoc] at h;refine z3F hgt r en h fun H1 Y1 s1 xs vs r1 en1 dn h1 hcap p hp=>?_;split at h1
  ·rename_i hf;have stp:=wG.layL (p:=p) r1 hp dn hf;refine h1 (.nx (O.set i (some (.ref p)))) _ _ stp ((en1.mono stp).set ?_ i);simp only [Den];exact ⟨p,rfl,by rw [<- r1.len];simp,vs,yr⟩
  ·exact h1.elim
end
end
section
variable {X:Cx}{E:XK}{e a b c tg iter elt:Expr}{es:List Expr}{pos:Pos}{CX:CXT}{mp:List (Option Nat)}
def zcQ(K:W.Frag)(i j:Nat):TG:=zju K 2 (zeQ (z8X i) (zeQ (z8X j) zjD))
theorem qh(i j:Nat){x y:Str}{px py:Pos}{kt:Nat}(hc:X.calm=true)(hN:X.N.Nodup)(hi:X.N[i]? = some x:=by rfl)(hj:X.N[j]? = some y:=by rfl)(hx:Loc X.env.scope x:=by first | exact Or.inl rfl | exact Or.inr rfl)(hy:Loc X.env.scope y:=by first | exact Or.inl rfl | exact Or.inr rfl) (hf:X.fn x=true\/X.env.scope.names.lookup x=some .local:=by first | exact .inl rfl | exact .inr rfl | assumption)(hf':X.fn y=true\/X.env.scope.names.lookup y=some .local:=by first | exact .inl rfl | exact .inr rfl | assumption): PG X (.Tuple [.Name x px,.Name y py] kt pos) (zcQ X.K i j):=zcw hc (z13 (zW hN hi hx hf) (z13 (zW hN hj hy hf') zaC))
theorem qr(i j:Nat)(hij:i≠j)(h:mp[i]? = some none)(h':mp[j]? = some none):z4g (gm X) E mp (zcQ X.K i j) (xN i j):=fun O H Y Z s x d Q r en dn ok=>by
 unfold xN at ok;split at ok
 ·rename_i d1 d2;obtain ⟨p,vs,rfl,q1,q2⟩:=jD (K:=X.K) dn;obtain ⟨v1,v2,rfl,e1,e2⟩:=z8N q2;have k1:=z4I (v:=v1) (z1N h O);have own2:((inner mp O).set i (some v1))[j]? = some none:=by rw [List.getElem?_set_ne hij];exact z1N h' O
  have k2:=z4I (v:=v2) own2;exact ⟨p,[v1,v2],rfl,q1,rfl,v1,[v2],rfl,v2,[],rfl,rfl,⟨k2.1.trans k1.1,fun l u e=>k2.2 l u (k1.2 l u e)⟩,okR.here ok r ((en.set e1 i).set e2 j)⟩
 ·exact ok.elim
end
def zv(N:List Str)(ds:List D):Ev:=ds.map some++List.replicate (N.length-ds.length) none
theorem z3g{mg:Gm}{H:Hp}{Y:List Addr}{N:List Str}:∀ {ds:List D}{vs:List V},zB mg H Y ds vs->uf mg H Y (zv N ds) (L2.start N vs):=fun {ds vs} h=>by
 have hl:=h.length;refine ⟨by simp [zv,L2.start,hl],fun i d e=>?_⟩;unfold zv at e;have hi:i<ds.length:=by
  by_cases hi:i<ds.length;·exact hi
  ·rw [List.getElem?_append_right (by simpa using hi),List.getElem?_replicate] at e;split at e<;>cases e
 rw [List.getElem?_append_left (by simpa using hi),List.getElem?_map] at e;have e':ds[i]? = some d:=by cases q:ds[i]? with
  | none=>rw [q] at e;cases e | some x=>rw [q] at e;simp at e;rw [e]
 obtain ⟨v,h1,h2⟩:=h.get e';refine ⟨v,?_,h2⟩;unfold L2.start;rw [List.getElem?_append_left (by simpa [hl] using hi),List.getElem?_map,h1];rfl
def Mof(N:List Str)(n:Nat)(fs:FS):Mir:=fun ds s=>if ds.length=n then (match fs (zv N ds) s with
 | .ok (.rt d) s'=>.ok d s' | .ok (.nx _) s'=>.ok .non s' | _=>.no) else .no
section
variable {P:Program}{w:World}{K:W.Frag}{mg:Str->Option Value}{base:Heap}
theorem Has.mono{CX:CXT}{x:Str}{n m:Nat}{M:Mir}(h:Has P w K mg base CX x n M)(hl:n<=m):Has P w K mg base CX x m M:=by
 obtain ⟨f,fd,ps,F,r⟩:=h;exact ⟨f,fd,ps,F.mono hl,r⟩
theorem zN{x qual:Str}{st:Stmt}{f:Addr}{fd:FuncData}{N ps:List Str}{k n:Nat}{fs:FS}(F:Fun K x qual st f fd)(hm:mg x=some (.ref f))(hb:Binds K fd ps [])(S:zr N ps (zg st))(hn:ps.length=n) (body:∀ (cdv:Value)(A:Around)(outer:List Env)(s:Shared)(H:Hp)(E:XK),z1a k (A.deeper (envOfC qual (zg st) s.heap.objs.size f cdv))->(zbc CX0 P w K mg base N qual (zg st) f cdv A outer s H E).nox.calm=true-> RSs (zbc CX0 P w K mg base N qual (zg st) f cdv A outer s H E).nox E0 (qc st) fs):Has P w K mg base CX0 x (k+1) (Mof N n fs):=by
 subst hn;refine ⟨f,fd,ps,F.ok S (fun vs H Q E h=>?_) (fun cdv A outer s H vs Q E hr h=>?_),hb,F.kp,hm⟩
 ·obtain ⟨Y,s,ds,_,dn,h⟩:=h;unfold Mof at h;split at h;·rename_i e;rw [dn.length];exact e
  ·exact h.elim
 ·obtain ⟨Y,st0,ds,r,dn,h⟩:=h;refine ⟨_,body cdv A outer s H E hr (by show A.handled.isNone=true;rw [show A.handled=none from hr.hd];rfl),Y,zv N ds,st0,r,z3g dn,?_⟩;unfold Mof at h;split at h
  ·split at h
   ·rename_i d s' e;rw [e];intro fv H' Y' stp fd;cases fv with
    | rt v=>exact h v H' Y' stp fd | _=>exact (show False from fd).elim
   ·rename_i Z s' e;rw [e];intro fv H' Y' stp fd;cases fv with
    | nx v=>exact h .non H' Y' stp (by simp [Den]) | _=>exact (show False from fd).elim
   ·exact h.elim
  ·exact h.elim
theorem zfm{x qual:Str}{st:Stmt}{f:Addr}{fd:FuncData}{ps:List Str}(F:Fun K x qual st f fd)(hm:mg x=some (.ref f))(hb:Binds K fd ps []):Has P w K mg base CX0 x 0 (fun _ _=>.no):= ⟨f,fd,ps,⟨fun vs H Q E h=>by obtain ⟨_,_,_,_,_,h⟩:=h;exact h.elim,fun A outer s H args us vs Q E _ _ _ _ h=>by obtain ⟨_,_,_,_,_,h⟩:=h;exact h.elim⟩,hb,F.kp,hm⟩
end
def zdW(K:W.Frag):Sp:=fun vs H Q _=>∃ (a:Addr)(ns:List Int),vs=[.ref a]/\zhA H/\SqL K H a (ns.map V.int)/\ns.length<=63/\∀ H',Q (.bl true) H'
theorem z0A{mg:Gm}{H:Hp}{Y:List Addr}:∀ (ns:List Int),zB mg H Y (ns.map D.int) (ns.map V.int)
 | []=>zB.nil | n::ns=>zB.cons yR (z0A ns)
theorem zgH{P:Program}{w:World}{K:W.Frag}{mg:Str->Option Value}{base:Heap}{x:Str}{n:Nat}{M:Mir}{f:Addr}{fd:FuncData}{ps:List Str}(F:z33 P w K mg base CX0 n f fd ps (zdy ⟨mg,K⟩ M)) (h:∀ ns:List Int,ns.length<=63->∃ s',M [.scr (ns.map D.int)] []=.ok (.bl true) s'):z33 P w K mg base CX0 n f fd ps (zdW K):= F.imp fun vs H Q E ⟨a,ns,e,ho,hq,hl,q⟩=>by
  subst e;obtain ⟨s',hs⟩:=h ns hl;refine ⟨[],[],[.scr (ns.map D.int)],⟨rfl,List.nodup_nil,fun l xs z=>by simp at z,fun xs z=>by simp at z⟩,zB.one ?_,?_⟩
  ·simp only [Den];refine ⟨a,ns.map V.int,rfl,?_,z0A ns⟩;rcases hq with (z | z) | z
   ·rcases ho a with y | ⟨o,xs,y⟩;·rw [y] at z;cases z
    ·rw [y] at z;cases z
   ·exact .inl z
   ·exact .inr z
  ·rw [hs];intro v H' Y' stp dn;cases qY dn;exact q H'
section
variable {X:Cx}{E:XK}{e a b c tg iter elt:Expr}{es:List Expr}{pos:Pos}{CX:CXT}
def z0B(f:FE):FE:=fun Z s=>(f Z s).bind fun d s1=>match d with | .int i=>.ok (.int (-i)) s1 | _=>.no
theorem z2E{f:FE}(h:RE X E a f):RE X E (.UnaryOp .USub a pos) (z0B f):= yz (zin zgB h) fun O H Q ⟨Y,Z,s,r,en,h⟩=>by
  refine xb (k:=fun Z d s1=>match d with | .int i=>R.ok (D.int (-i)) s1 | _=>.no) r en h _ fun v H1 Y1 s1 d r1 en1 dn stp h1=>?_;cases d with
  | int i=>
   cases yO dn;exact ⟨i,rfl,okR.here (b:=V.int (-i)) h1 r1 yR⟩ | _=>exact h1.elim
def z9W(i:Int)(n:Nat):List D:=(List.range n).map fun (k:Nat)=>D.int (i+((k:Nat):Int))
def zj8(f:FA):FI:=fun Z s=>(f Z s).bind fun ds s1=>match ds with
 | [.int i,.int j]=>if -(2 ^ 62)<=i/\i<2 ^ 62/\-(2 ^ 62)<=j/\j<2 ^ 62 then .ok (z9W i (j-i).toNat,[]) s1 else .no | _=>.no
end
def isK(o:Option NameKind)(k:NameKind):Bool:=match o,k with
 | some .local,.local=>true | some .cell,.cell=>true | some .free,.free=>true | some .globalImplicit,.globalImplicit=>true | _,_=>false
theorem zaP{o:Option NameKind}{k:NameKind}(h:isK o k=true):o=some k:=by cases o with
 | none=>cases k<;>simp [isK] at h | some j=>cases j<;>cases k<;>first | rfl | simp [isK] at h
def isF(k:NameKind):Bool:=match k with | .free=>true | _=>false
theorem zhk{k:NameKind}(h:k=.free):isF k=true:=by subst h;rfl
def zbC(ko:Str->Option NameKind)(names:List (Str×NameKind)):Bool:=names.all fun y=>!isF y.2||(isK (ko y.1) .cell||isK (ko y.1) .free)
theorem z3X{ko:Str->Option NameKind}{names:List (Str×NameKind)}(h:zbC ko names=true):∀ y∈names,y.2=.free->ko y.1=some .cell\/ko y.1=some .free:=fun y hy hf=>by
 have:=List.all_eq_true.mp h y hy;rw [zhk hf] at this;simp only [Bool.not_true,Bool.false_or,Bool.or_eq_true] at this;exact this.imp zaP zaP
def zbj(names:List (Str×NameKind)):Bool:=names.all fun y=>isK (names.lookup y.1) y.2
theorem z3Y{names:List (Str×NameKind)}(h:zbj names=true):∀ y∈names,names.lookup y.1=some y.2:=fun y hy=>by
 have:=List.all_eq_true.mp h y hy;exact zaP this
section
variable {X:Cx}{E:XK}{e a b c tg iter elt:Expr}{es:List Expr}{pos:Pos}{CX:CXT}
variable {scope:Scope}{ifs:List Expr}{fi:FI}{fg:FG}{ft:FT}{fe:FE}{g:TG}{spos py:Pos}
theorem zjI{x:Str}{i:Int}(hg:Gl X x)(hm:∃ t,X.mg x=some (.int i t))(hd:(x==("__debug__":Str))=false:=by decide):RE X E (.Name x pos) (eC (.int i)):=let ⟨_,h⟩:=hm;zgc hg h hd
theorem ya(N':List Str)(mp:List (Option Nat))(hc:X.calm=true)(hi:RI X E tg iter fi)(hg:∀ ex s H,PG (zX X N' scope ex s H) tg g)(hgt:z4g (gm X) E mp g fg)(ht:∀ ex s H,z7l (zX X N' scope ex s H) ifs (tT (gm X) E ft))(he:∀ ex s H,RE (zX X N' scope ex s H) E elt fe) (hkd:scope.kind=.function:=by rfl)(hnm:zbj scope.names=true:=by rfl)(hfr:zbC X.env.kindOf scope.names=true:=by rfl)(hmp:z3v X.N scope.names N' mp=true:=by rfl) (hs:∀ x,foldedSetIterable iter X.env x=pure x:=by intro _;rfl):RE X E (.ListComp elt [⟨tg,iter,ifs,0⟩] scope pos) (zn fi mp fg ft fe):= zhi N' mp hc hi hg hgt ht he hkd (z3Y hnm) (z3X hfr) hmp hs
theorem z7a(i:Nat){y:Str}(N':List Str)(mp:List (Option Nat))(hN:X.N.Nodup)(hc:X.calm=true)(hi:RI X E tg iter fi)(hg:∀ ex s H,PG (zX X N' scope ex s H) tg g)(hgt:z4g (gm X) E mp g fg)(ht:∀ ex s H,z7l (zX X N' scope ex s H) ifs (tT (gm X) E ft))(he:∀ ex s H,RE (zX X N' scope ex s H) E elt fe) (hkd:scope.kind=.function:=by rfl)(hnm:zbj scope.names=true:=by rfl)(hfr:zbC X.env.kindOf scope.names=true:=by rfl)(hmp:z3v X.N scope.names N' mp=true:=by rfl)(hy:X.N[i]? = some y:=by rfl)(hyl:Loc X.env.scope y:=by first | exact Or.inl rfl | exact Or.inr rfl) (hs:∀ x,foldedSetIterable iter X.env x=pure x:=by intro _;rfl) (hsw:swapsWith (.ListComp elt [⟨tg,iter,ifs,0⟩] scope pos) (some (.Name y py)) spos.line X.env=pure true:=by rfl) (hf:X.fn y=true\/X.env.scope.names.lookup y=some .local:=by first | exact .inl rfl | exact .inr rfl | assumption): RS X E (.Assign [.Name y py] (.ListComp elt [⟨tg,iter,ifs,0⟩] scope pos) spos) (wF i (zn fi mp fg ft fe)):= z8Z N' mp hN hc hi hg hgt ht he hkd (z3Y hnm) (z3X hfr) hmp hy hyl hs hsw hf
theorem zal(i:Nat){y:Str}(N':List Str)(mp:List (Option Nat))(hN:X.N.Nodup)(hc:X.calm=true)(hi:RI X E tg iter fi)(hg:∀ ex s H,PG (zX X N' scope ex s H) tg g)(hgt:z4g (gm X) E mp g fg)(ht:∀ ex s H,z7l (zX X N' scope ex s H) ifs (tT (gm X) E ft))(he:∀ ex s H,RE (zX X N' scope ex s H) E elt fe) (hkd:scope.kind=.function:=by rfl)(hnm:zbj scope.names=true:=by rfl)(hfr:zbC X.env.kindOf scope.names=true:=by rfl)(hmp:z3v X.N scope.names N' mp=true:=by rfl)(hy:X.N[i]? = some y:=by rfl)(hyl:Loc X.env.scope y:=by first | exact Or.inl rfl | exact Or.inr rfl) (hs:∀ x,foldedSetIterable iter X.env x=pure x:=by intro _;rfl) (hsw:swapsWith (.ListComp elt [⟨tg,iter,ifs,0⟩] scope pos) (some (.Name y py)) spos.line X.env=pure true:=by rfl) (hf:X.fn y=true\/X.env.scope.names.lookup y=some .local:=by first | exact .inl rfl | exact .inr rfl | assumption): RS X E (.Assign [.Name y py] (.ListComp elt [⟨tg,iter,ifs,0⟩] scope pos) spos) (wF i (z0r fi mp fg ft fe)):= z8V N' mp hN hc hi hg hgt ht he hkd (z3Y hnm) (z3X hfr) hmp hy hyl hs hsw hf
end
theorem zgt{P:Program}{w:World}{K:W.Frag}{mg:Str->Option Value}{base:Heap}{x qual:Str}{st:Stmt}{f:Addr}{fd:FuncData}{N ps:List Str}{k n:Nat}{fs:FS}(F:Fun K x qual st f fd)(S:zr N ps (zg st))(hn:ps.length=n) (body:∀ (cdv:Value)(A:Around)(outer:List Env)(s:Shared)(H:Hp)(E:XK),z1a k (A.deeper (envOfC qual (zg st) s.heap.objs.size f cdv))->(zbc CX0 P w K mg base N qual (zg st) f cdv A outer s H E).nox.calm=true-> RSs (zbc CX0 P w K mg base N qual (zg st) f cdv A outer s H E).nox E0 (qc st) fs):z33 P w K mg base CX0 (k+1) f fd ps (zdy ⟨mg,K⟩ (Mof N n fs)):=by
 subst hn;refine F.ok S (fun vs H Q E h=>?_) (fun cdv A outer s H vs Q E hr h=>?_)
 ·obtain ⟨Y,s,ds,_,dn,h⟩:=h;unfold Mof at h;split at h;·rename_i e;rw [dn.length];exact e
  ·exact h.elim
 ·obtain ⟨Y,st0,ds,r,dn,h⟩:=h;refine ⟨_,body cdv A outer s H E hr (by show A.handled.isNone=true;rw [show A.handled=none from hr.hd];rfl),Y,zv N ds,st0,r,z3g dn,?_⟩;unfold Mof at h;split at h
  ·split at h
   ·rename_i d s' e;rw [e];intro fv H' Y' stp fd;cases fv with
    | rt v=>exact h v H' Y' stp fd | _=>exact (show False from fd).elim
   ·rename_i Z s' e;rw [e];intro fv H' Y' stp fd;cases fv with
    | nx v=>exact h .non H' Y' stp (by simp [Den]) | _=>exact (show False from fd).elim
   ·exact h.elim
  ·exact h.elim
section
variable {all xs:List D}{Z:Ev}{s:Sto}
theorem z19{body:D->Ev->Sto->R Fl}(I:Ev->Sto->Prop):∀ (xs:List D),(∀ x∈xs,∀ Z s,I Z s->∃ Z' s',body x Z s=.ok (.nx Z') s'/\I Z' s')->∀ Z s,I Z s->∃ Z' s',xi [] all body xs Z s=.ok (.nx Z') s'/\I Z' s'
 | [],_,Z,s,h=>⟨Z,s,by simp [xi,okG],h⟩ | x::xs,hb,Z,s,h=>by
  obtain ⟨Z1,s1,e1,h1⟩:=hb x (by simp) Z s h;obtain ⟨Z2,s2,e2,h2⟩:=z19 I xs (fun y hy=>hb y (by simp [hy])) Z1 s1 h1;exact ⟨Z2,s2,by simp [xi,okG,e1,e2],h2⟩
theorem z5E{body:D->Sto->R (Option D)}(f:D->D):∀ (xs acc:List D),(∀ x∈xs,body x s=.ok (some (f x)) s)->acc.length+xs.length<=cap->uh [] all body xs acc s=.ok (acc++xs.map f) s
 | [],acc,_,_=>by simp [uh,okG] | x::xs,acc,hb,hl=>by
  have ih:=z5E f xs (acc++[f x]) (fun y hy=>hb y (by simp [hy])) (by simp at hl ⊢;omega);have hc:acc.length<cap:=by simp at hl;omega
  rw [uh];simp [okG,hb x (by simp),hc,ih]
end
section
variable (i j k n:Nat)(Z:Ev)(s:Sto)(f g fa fb fc:FE)(d x y:D)(ds:List D)(ar:FA)(op op':D->D->Sto->R D)(ft ft':FT)(fs fs':FS)(M:Mir)(T:String)(fl fh fo:FO)(fi:FI)(fg:FG)(mp:List (Option Nat))(N:List Str)
@[simp] theorem yf:zc i Z s=(match Z[i]? with | some (some d)=>.ok d s | _=>.no):=id rfl
@[simp] theorem kw:eC d Z s=.ok d s:=id rfl
@[simp] theorem xp:eOp op fa fb Z s=(fa Z s).bind fun x s1=>(fb Z s1).bind fun y s2=>op x y s2:=id rfl
@[simp] theorem yy:zd M ar Z s=(ar Z s).bind fun xs s1=>M xs s1:=id rfl
@[simp] theorem zE:zh Z s=.ok [] s:=id rfl
@[simp] theorem zm:za f ar Z s=(f Z s).bind fun x s1=>(ar Z s1).bind fun xs s2=>.ok (x::xs) s2:=id rfl
@[simp] theorem qL:jE ar Z s=(ar Z s).bind fun xs s1=>if xs.length<=cap then .ok (.tup xs) s1 else .no:=id rfl
@[simp] theorem z5m:z8h ar Z s=(ar Z s).bind fun xs s1=>if xs.length<=cap then .ok (.lst xs) s1 else .no:=id rfl
@[simp] theorem z31:za5 ar Z s=(ar Z s).bind fun xs s1=>if xs.length<=cap/\D.flat.flats xs=true then .ok (.loc s1.length) (s1++[xs]) else .no:=id rfl
@[simp] theorem zkq:eIs T f Z s=(f Z s).bind fun d s1=>gIs T d s1:=id rfl
@[simp] theorem z8d:z0B f Z s=(f Z s).bind fun d s1=>match d with | .int i=>.ok (.int (-i)) s1 | _=>.no:=id rfl
@[simp] theorem zji:zga f Z s=(f Z s).bind fun x s1=>match x with | .bl k=>.ok (.bl (!k)) s1 | _=>.no:=id rfl
@[simp] theorem z7A:z6f fa fb Z s=(fa Z s).bind fun x s1=>match x with | .bl true=>fb Z s1 | .bl false=>.ok (.bl false) s1 | _=>.no:=id rfl
@[simp] theorem zky:eOr fa fb Z s=(fa Z s).bind fun x s1=>match x with | .bl false=>fb Z s1 | .bl true=>.ok (.bl true) s1 | _=>.no:=id rfl
@[simp] theorem ze1:eIf ft fa fb Z s=(ft Z s).bind fun x s1=>if x=true then fa Z s1 else fb Z s1:=id rfl
@[simp] theorem z2C:eSl f fl fh Z s=(f Z s).bind fun x s1=>(fl Z s1).bind fun lo s2=>(fh Z s2).bind fun hi s3=>dSl x lo hi s3:=id rfl
@[simp] theorem xP:zZ Z s=.ok none s:=id rfl
@[simp] theorem uD:wn f Z s=(f Z s).bind fun d s1=>match d with | .int i=>.ok (some i) s1 | _=>.no:=id rfl
@[simp] theorem qu:tOf f Z s=(f Z s).bind fun d s1=>match d with | .bl k=>.ok k s1 | _=>.no:=id rfl
@[simp] theorem zd7:zg2 ft ft' Z s=(ft Z s).bind fun x s1=>if x=true then ft' Z s1 else .ok false s1:=id rfl
@[simp] theorem zjW:fOr ft ft' Z s=(ft Z s).bind fun x s1=>if x=true then .ok true s1 else ft' Z s1:=id rfl
@[simp] theorem z9T:z6h ft Z s=(ft Z s).bind fun x s1=>.ok (!x) s1:=id rfl
@[simp] theorem zhp:z7s op op' fa fb fc Z s=(fa Z s).bind fun x s1=>(fb Z s1).bind fun y s2=>(op x y s2).bind fun z s3=>match z with
 | .bl true=>(fc Z s3).bind fun w s4=>op' y w s4 | .bl false=>.ok (.bl false) s3 | _=>.no:=id rfl
@[simp] theorem zjN:zS fs fs' Z s=(fs Z s).bind fun fl s1=>match fl with | .nx Z'=>fs' Z' s1 | fl=>.ok fl s1:=id rfl
@[simp] theorem ziJ:xJ Z s=.ok (.nx Z) s:=id rfl
@[simp] theorem zkC:fNo Z s=.no:=id rfl
@[simp] theorem z06:vH f Z s=(f Z s).bind fun _ s1=>.ok (.nx Z) s1:=id rfl
@[simp] theorem yC:xH f Z s=(f Z s).bind fun d s1=>.ok (.rt d) s1:=id rfl
@[simp] theorem z0i:fIf ft fs fs' Z s=(ft Z s).bind fun x s1=>if x=true then fs Z s1 else fs' Z s1:=id rfl
@[simp] theorem yp:wF i f Z s=(f Z s).bind fun d s1=>.ok (.nx (Z.set i (some d))) s1:=id rfl
@[simp] theorem zad:zbr f fg Z s=(f Z s).bind fun d s1=>(fg d Z s1).bind fun Z' s2=>.ok (.nx Z') s2:=id rfl
@[simp] theorem zfW:ziF i j ar Z s=(ar Z s).bind fun ds s1=>match ds with | [x,y]=>.ok (.nx ((Z.set i (some x)).set j (some y))) s1 | _=>.no:=id rfl
@[simp] theorem z0v:yn i d Z s=.ok (Z.set i (some d)) s:=id rfl
@[simp] theorem zag:xN i j (.tup [x,y]) Z s=.ok ((Z.set i (some x)).set j (some y)) s:=id rfl
@[simp] theorem zdf:z4q fa fb fc Z s=(fc Z s).bind fun d s1=>(fa Z s1).bind fun o s2=>(fb Z s2).bind fun i s3=>match o,i with
 | .loc l,.int k=>match s3[l]? with
  | some xs=>match ixN xs.length k with
   | some j=>if d.flat=true then .ok (.nx Z) (s3.set l (xs.set j d)) else .no | none=>.no
  | none=>.no
 | _,_=>.no:=id rfl
@[simp] theorem z7b:zV f Z s=(f Z s).bind fun d s1=>match d with
 | .tup xs=>.ok (xs,[]) s1 | .lst xs=>.ok (xs,[]) s1 | .loc l=>match s1[l]? with | some xs=>.ok (xs,[(l,xs)]) s1 | none=>.no
 | _=>.no:=id rfl
@[simp] theorem zd6:qU ar Z s=(ar Z s).bind fun ds s1=>match ds with
 | [.int j]=>if -(2 ^ 62)<=j/\j<2 ^ 62 then .ok (yK j.toNat,[]) s1 else .no | _=>.no:=id rfl
@[simp] theorem zhO:zj8 ar Z s=(ar Z s).bind fun ds s1=>match ds with
 | [.int i,.int j]=>if -(2 ^ 62)<=i/\i<2 ^ 62/\-(2 ^ 62)<=j/\j<2 ^ 62 then .ok (z9W i (j-i).toNat,[]) s1 else .no | _=>.no:=id rfl
@[simp] theorem z9L:z5u ar Z s=(ar Z s).bind fun ds s1=>match ds with
 | [x,y]=>match z0Q s1 x,z0Q s1 y with
  | some p,some q=>.ok (z11 p.1 q.1,p.2++q.2) s1 | _,_=>.no
 | _=>.no:=id rfl
@[simp] theorem ji:z5B fi fg fs Z s=(fi Z s).bind fun it s1=>xi it.2 it.1 (fun d Z s=>(fg d Z s).bind fun Z' s'=>fs Z' s') it.1 Z s1:=id rfl
@[simp] theorem jX:z5I fi mp fg ft f Z s=(fi Z s).bind fun it s1=>uh it.2 it.1 (fun d s=>(fg d (xL mp Z) s).bind fun Z' s'=>(ft Z' s').bind fun b s2=>if b=true then (f Z' s2).bind fun d s3=>.ok (some d) s3 else .ok none s2) it.1 [] s1:=id rfl
@[simp] theorem kZ:zn fi mp fg ft f Z s=(z5I fi mp fg ft f Z s).bind fun xs s1=>.ok (.lst xs) s1:=id rfl
@[simp] theorem z8g:z0r fi mp fg ft f Z s=(z5I fi mp fg ft f Z s).bind fun xs s1=>if D.flat.flats xs=true then .ok (.loc s1.length) (s1++[xs]) else .no:=id rfl
@[simp] theorem zas:zR Z s=.ok true s:=id rfl
@[simp] theorem z3b:z8G fa fb Z s=(fa Z s).bind fun o s1=>match o with
 | .loc l=>(fb Z s1).bind fun d s2=>match s2[l]? with
  | some xs=>if d.flat=true/\xs.length<cap then .ok .non (s2.set l (xs++[d])) else .no | none=>.no
 | _=>.no:=id rfl
@[simp] theorem z5t:xL [] Z=[]:=id rfl
@[simp] theorem z8I:xL (some i::mp) Z=(Z[i]?).getD none::xL mp Z:=id rfl
@[simp] theorem z8M:xL (none::mp) Z=none::xL mp Z:=id rfl
variable (a b:Int)(u v:Bool)(xs ys:List D)
@[simp] theorem zaM:uF (.int a) (.int b) s=.ok (.int (a+b)) s:=rfl
@[simp] theorem z3d:uF (.tup xs) (.tup ys) s=if xs.length+ys.length<=cap then .ok (.tup (xs++ys)) s else .no:=rfl
@[simp] theorem zfG:uF (.lst xs) (.lst ys) s=if xs.length+ys.length<=cap then .ok (.lst (xs++ys)) s else .no:=rfl
@[simp] theorem zfl:zd1 (.int a) (.int b) s=.ok (.int (a-b)) s:=rfl
theorem zcz:wW (.int a) (.int b) s=if a.natAbs<BIG/\b.natAbs<BIG then .ok (.int (a*b)) s else .no:=by
 simp only [wW,dII,iOk];split<;>(rename_i h;split at h<;>simp_all)
theorem z71:z5q (.int a) (.int b) s=if 0<b/\b.natAbs<BIG then .ok (.int (a / b)) s else .no:=by
 simp only [z5q,dII,iOk];split<;>(rename_i h;split at h<;>simp_all)
theorem zcy:z8P (.int a) (.int b) s=if 0<b then .ok (.int (a % b)) s else .no:=by
 simp only [z8P,dII,iOk];split<;>(rename_i h;split at h<;>simp_all)
theorem z9J:z7g (.int a) (.int b) s=if 0<=b/\b<=1000/\a.natAbs<1000 then .ok (.int (a ^ b.toNat)) s else .no:=by
 simp only [z7g,dII,iOk];split<;>(rename_i h;split at h<;>simp_all)
@[simp] theorem zhQ:dLt (.int a) (.int b) s=.ok (.bl (decide (a<b))) s:=rfl
@[simp] theorem zkG:dLe (.int a) (.int b) s=.ok (.bl (decide (a<=b))) s:=rfl
@[simp] theorem ze3:dGt (.int a) (.int b) s=.ok (.bl (decide (b<a))) s:=rfl
@[simp] theorem zkf:dGe (.int a) (.int b) s=.ok (.bl (decide (b<=a))) s:=rfl
@[simp] theorem z5g:dEq (.int a) (.int b) s=.ok (.bl (decide (a=b))) s:=by
 have:eqD (.int a) (.int b)=decide (a=b):=by
  simp only [eqD,uR,PyData.eqv];rw [Bool.eq_iff_iff];simp
 rw [dEq,this];rfl
@[simp] theorem zbU:dNe (.int a) (.int b) s=.ok (.bl (decide (a≠b))) s:=by
 have:eqD (.int a) (.int b)=decide (a=b):=by
  simp only [eqD,uR,PyData.eqv];rw [Bool.eq_iff_iff];simp
 rw [dNe,this,if_pos (by constructor<;>rfl)];simp
@[simp] theorem zi4:dEq (.bl u) (.bl v) s=.ok (.bl (u==v)) s:=by cases u<;>cases v<;>rfl
@[simp] theorem zkl:dNe (.bl u) (.bl v) s=.ok (.bl (u != v)) s:=by cases u<;>cases v<;>rfl
end
theorem zi{f g:FS}{Z Z':Ev}{s s':Sto}(h:f Z s=.ok (.nx Z') s'):zS f g Z s=g Z' s':=by simp [h]
theorem z5O{f g:FS}{Z:Ev}{s s':Sto}{d:D}(h:f Z s=.ok (.rt d) s'):zS f g Z s=.ok (.rt d) s':=by simp [h]
theorem z88{all:List D}{body:D->Ev->Sto->R Fl}(I:Nat->Ev->Sto->Prop):∀ (xs:List D)(k:Nat),(∀ j x,xs[j]? = some x->∀ Z s,I (k+j) Z s->∃ Z' s',body x Z s=.ok (.nx Z') s'/\I (k+j+1) Z' s')-> ∀ Z s,I k Z s->∃ Z' s',xi [] all body xs Z s=.ok (.nx Z') s'/\I (k+xs.length) Z' s'
 | [],k,_,Z,s,h=>⟨Z,s,by simp [xi,okG],h⟩ | x::xs,k,hb,Z,s,h=>by
  obtain ⟨Z1,s1,e1,h1⟩:=hb 0 x (by simp) Z s h;obtain ⟨Z2,s2,e2,h2⟩:=z88 (all:=all) I xs (k+1) (fun j y hy Z s hi=>by
   have e:k+1+j=k+(j+1):=by omega
   rw [e] at hi ⊢;exact hb (j+1) y (by simpa using hy) Z s hi) Z1 s1 h1;refine ⟨Z2,s2,by simp [xi,okG,e1,e2],?_⟩;have e:k+(x::xs).length=k+1+xs.length:=by simp;omega
  rw [e];exact h2
theorem z5T{n j:Nat}{x:D}(h:(yK n)[j]? = some x):j<n/\x=.int j:=by
 have hj:j<n:=by
  have:=(List.getElem?_eq_some_iff.mp h).1;simpa [yK] using this
 refine ⟨hj,?_⟩;simp only [yK,List.getElem?_map,List.getElem?_range hj,Option.map_some,Option.some.injEq] at h;exact h.symm
theorem z97 {n:Nat} {x:D} (h:x∈yK n):∃ j:Nat,j<n/\x=.int j:=by
 obtain ⟨j,hj,e⟩:=List.mem_iff_getElem.mp h;have:=z5T (n:=n) (j:=j) (x:=x) (by rw [List.getElem?_eq_getElem hj,e]);exact ⟨j,this.1,this.2⟩
theorem ints_of{P:Int->Prop}:∀ {ys:List D},(∀ y∈ys,∃ n,y=.int n/\P n)->∃ ns:List Int,ys=ns.map D.int/\∀ n∈ns,P n
 | [],_=>⟨[],rfl,by simp⟩ | y::ys,h=>by
  obtain ⟨n,rfl,hn⟩:=h y (by simp);obtain ⟨ns,rfl,hs⟩:=ints_of (ys:=ys) fun z hz=>h z (by simp [hz]);refine ⟨n::ns,rfl,fun m hm=>?_⟩;rcases List.mem_cons.mp hm with rfl | hm;·exact hn
  ·exact hs m hm
theorem yw:∀ (ns:List Int),D.flat.flats (ns.map D.int)=true
 | []=>rfl | n::ns=>by simp [D.flat.flats,D.flat,yw ns]
theorem kX(i:Int):(D.int i).flat=true:=rfl
theorem uW.flatten{mg:Gm}{H H':Hp}{Y Y':List Addr}{ys:List D}{c:Addr}(k:∀ b o,H b=some o->(∀ vs,o≠.lst vs)->(∀ kvs,o≠.dT kvs)->H' b=some o)(f:D.flat.flats ys=true)(e:H' c=H c)(h:uW mg H Y ys c):uW mg H' Y' ys c:=by
 rcases h with ⟨vs,h1,h2⟩ | ⟨kvs,h1,h2⟩;·exact .inl ⟨vs,e.trans h1,h2.flatten k f⟩
 ·exact .inr ⟨kvs,e.trans h1,h2⟩
section
variable {X:Cx}{E:XK}{e:Expr}
def zka(f:FE):FE:=fun Z s=>match f Z s with
 | .ok (.loc l) s1=>match s1[l]? with
  | some xs=>if s.length<=l/\l+1=s1.length then .ok (.lst xs) (s1.take l) else .no | none=>.no
 | .ok _ _=>.no | .ex c s1=>.ex c s1 | .no=>.no
end
@[simp] theorem zjo (f:FE)(Z:Ev)(s:Sto):zka f Z s=(match f Z s with
 | .ok (.loc l) s1=>match s1[l]? with
  | some xs=>if s.length<=l/\l+1=s1.length then .ok (.lst xs) (s1.take l) else .no | none=>.no
 | .ok _ _=>.no | .ex c s1=>.ex c s1 | .no=>.no):=id rfl
end Dd
namespace Zz
open PySem.AutoSeq1 (wpAny_loadPart')
section
variable {P:Program}{w:World}{A:Around}{E:Value->Shared->Prop}{s:Shared}
theorem ze7 {e it l:Addr} {b:Bool} {k:Nat} {xs:Array Value} {x old:Value} {Q:Option Value->Shared->Prop} (he:IsEnum s.heap e it k old) (h1:Sit b s.heap it l k) (c1:Sco b s.heap l xs) (ex:xs[k]? = some x) (ne:e≠it) (q:∀ h',IsEnumOut h' e it ((k:Int)+1) x s.heap.objs.size->Sit b h' it l (k+1)->h'.get? s.heap.objs.size=some {cls:=.type "tuple",data:=.seq #[.int k s.toks,x]}-> (∀ c o,c≠e->c≠it->s.heap.get? c=some o->h'.get? c=some o)->Q (some (.ref s.heap.objs.size)) {s with heap:=h',toks:=s.toks+1}):wpAny (model P w) A (pyNext (.ref e)) Q E s:=by
 have hT:s.TypeIs (.ref e) "enumerate":=⟨_,he,rfl⟩;unfold pyNext;refine wpAny_bind (wpAny_attempt (wpAny_callSpecial?_slot (name:=Str.ofString "__next__") hT F.slot_enumerate_next (wpAny_call_entry F.slot_enumerate_next hT F.entry_enumerate_next (Q:=fun v s'=>wpAny (model P w) A (pure (some v)) Q E s') ?_ (F.args_enumerate_next_1 _))));obtain ⟨hp,g,d,tk,os⟩:=s;show wpAny _ _ (field (.ref e) 2 >>= _) _ _ _;refine wpAny_bind (wpAny_field he rfl (x:=.ref it) rfl ?_);refine wpAny_bind (nx h1 c1 ex fun g1 t1 s1=>?_);replace s1:Heap.SameBut it hp g1:=s1;have e1:IsEnum g1 e it k old:=(s1.2 e ne).trans he;show wpAny _ _ (field (.ref e) 3 >>= _) _ _ ⟨g1,g,d,tk,os⟩;refine wpAny_bind (wpAny_field e1 rfl (x:=rawInt k) rfl ?_);show wpAny _ _ (field (.ref e) 4 >>= _) _ _ ⟨g1,g,d,tk,os⟩;refine wpAny_bind (wpAny_field e1 rfl (x:=.none) rfl ?_);show wpAny _ _ (mkInt k >>= _) _ _ ⟨g1,g,d,tk,os⟩;refine wpAny_bind (wpAny_mkInt ?_);show wpAny _ _ (setField (.ref e) 3 (rawInt ((k:Int)+1)) >>= _) _ _ ⟨g1,g,d,tk+1,os⟩;refine wpAny_bind (wpAny_setField_rec e1 (by simp) fun g2 e2 s2=>?_);replace s2:Heap.SameBut e g1 g2:=s2;replace e2:IsEnum g2 e it ((k:Int)+1) old:=e2;show wpAny _ _ (setField (.ref e) 4 .none >>= _) _ _ ⟨g2,g,d,tk+1,os⟩;refine wpAny_bind (wpAny_setField_rec e2 (by simp) fun g3 e3 s3=>?_);replace s3:Heap.SameBut e g2 g3:=s3;replace e3:IsEnum g3 e it ((k:Int)+1) old:=e3;show wpAny _ _ (newTuple [.int k tk,x] >>= _) _ _ ⟨g3,g,d,tk+1,os⟩;refine wpAny_bind (wpAny_newTuple ?_);have e4:IsEnum (g3.push {cls:=.type "tuple",data:=.seq #[.int k tk,x]}) e it ((k:Int)+1) old:=Heap.get?_push_of_some _ e3;generalize hg4:g3.push {cls:=.type "tuple",data:=.seq #[.int k tk,x]}=g4 at e4;have sz:g3.objs.size=hp.objs.size:=by rw [s3.1,s2.1,s1.1]
 have el:e<hp.objs.size:=Heap.lt_size he;have t4:g4.get? hp.objs.size=some {cls:=.type "tuple",data:=.seq #[.int k tk,x]}:=by rw [<- hg4,<- sz];exact Heap.get?_push_size _ rfl
 have k4:∀ c o,c≠e->c≠it->hp.get? c=some o->g4.get? c=some o:=fun c o n1 n2 z=>by rw [<- hg4];exact Heap.get?_push_of_some _ (zu s3 n1 (zu s2 n1 (zu s1 n2 z)))
 have i4:Sit b g4 it l (k+1):=t1.to fun o z=>by rw [<- hg4];exact Heap.get?_push_of_some _ (zu s3 ne.symm (zu s2 ne.symm z))
 show wpAny _ _ (Builtin.SmallTypes.ownedTupleIsFree (.ref e) >>= _) _ _ ⟨g4,g,d,tk+1,os⟩;rw [sz];refine wpAny_bind ?_;unfold Builtin.SmallTypes.ownedTupleIsFree;refine wpAny_bind (wpAny_field e4 rfl (x:=.none) rfl (wpAny_pure ?_));simp only [if_true];refine wpAny_bind (wpAny_rule ?_);refine wpAny_bind (wpAny_field e4 rfl (x:=old) rfl ?_);refine wpAny_bind (wpAny_setField_rec e4 (by simp) fun g5 e5 s5=>?_);replace s5:Heap.SameBut e g4 g5:=s5;replace e5:IsEnum g5 e it ((k:Int)+1) x:=e5;show wpAny _ _ (Builtin.SmallTypes.ownedTupleHandOut (.ref e) (.ref hp.objs.size) >>= _) _ _ ⟨g5,g,d,tk+1,os⟩;refine wpAny_bind ?_;unfold Builtin.SmallTypes.ownedTupleHandOut;refine wpAny_bind (wpAny_setField_rec e5 (by simp) fun g6 e6 s6=>?_);replace s6:Heap.SameBut e g5 g6:=s6;replace e6:IsEnumOut g6 e it ((k:Int)+1) x hp.objs.size:=e6;refine wpAny_setField_rec e6 (by simp) fun g7 e7 s7=>?_;replace s7:Heap.SameBut e g6 g7:=s7;replace e7:IsEnumOut g7 e it ((k:Int)+1) x hp.objs.size:=e7;have up:∀ c o,c≠e->g4.get? c=some o->g7.get? c=some o:=fun c o n z=>zu s7 n (zu s6 n (zu s5 n z));refine wpAny_bind (wpAny_letGo (wpAny_pure ⟨_,rfl,wpAny_pure (q g7 e7 (i4.to fun o z=>up _ o ne.symm z) (up _ _ (Nat.ne_of_gt el) t4) fun c o n1 n2 z=>up c o n1 (k4 c o n1 n2 z))⟩))
theorem zhh {e it l:Addr} {b:Bool} {k:Nat} {xs:Array Value} {old:Value} {Q:Option Value->Shared->Prop} (hh:A.handled=none) (he:IsEnum s.heap e it k old) (h1:Sit b s.heap it l k) (c1:Sco b s.heap l xs) (ex:xs[k]? = none) (q:∀ h',Heap.ExtBut it s.heap h'->Q none {s with heap:=h'}):wpAny (model P w) A (pyNext (.ref e)) Q E s:=by
 have hT:s.TypeIs (.ref e) "enumerate":=⟨_,he,rfl⟩;unfold pyNext;refine wpAny_bind (wpAny_attempt (wpAny_callSpecial?_slot (name:=Str.ofString "__next__") hT F.slot_enumerate_next (wpAny_call_entry F.slot_enumerate_next hT F.entry_enumerate_next ?_ (F.args_enumerate_next_1 _))));show wpAny _ _ (field (.ref e) 2 >>= _) _ _ _;refine wpAny_bind (wpAny_field he rfl (x:=.ref it) rfl ?_);refine wpAny_bind (zaF hh h1 c1 ex fun h' x he' hx'=>?_);obtain ⟨o,ho,hc⟩:=hx';refine wpAny_bind (wpAny_isInstance (T:="StopIteration") (b:=true) ⟨o,ho,hc⟩ isSubtype_stop ?_);exact wpAny_pure (q _ he')
end
theorem zbO(b:Bool)(l:Addr)(xs:Array Value): Meets (Builtin.«enumerate.__new__» ⟨[.type "enumerate",.ref l],[]⟩) (fun _ R s=>Sco b s.heap l xs/\R (.ok (.ret (.ref (s.heap.push (itO b l)).objs.size))) {s with heap:=(s.heap.push (itO b l)).push {cls:=.type "enumerate",data:=.fields #[.none,.bool false,.ref s.heap.objs.size,rawInt 0,.none,.none]}}):= .of_wp fun prog w A R s h=>by
  obtain ⟨hp,g,d,tk,os⟩:=s;obtain ⟨c1,h⟩:=h;have hsub:=sub_enumerate;have q1:Sco b (Shared.heap ⟨hp,g,d,tk,os⟩) l xs:=c1;obtain ⟨o,hl⟩:∃ o,hp.get? l=some o:=by cases b with
   | true=>obtain ⟨o,e,_⟩:=c1;exact ⟨o,e⟩ | false=>obtain ⟨o,e,_⟩:=c1;exact ⟨o,e⟩
  wp_walk using wpAny_loadPart' hl;refine wpAny_stack_any fun st=>wpAny_pure ?_;split
  ·rename_i c _ _ _ _ _;cases (c==Value.type "enumerate")
   ·wp_walk using wpAny_loadPart' hl,z3m q1;exact ⟨_,rfl,h⟩
   ·wp_walk using wpAny_loadPart' hl,z3m q1;exact ⟨_,rfl,h⟩
  ·wp_walk using wpAny_loadPart' hl,z3m q1;exact ⟨_,rfl,h⟩
section
variable {P:Program}{w:World}{A:Around}{E:Value->Shared->Prop}{s:Shared}
theorem zdn {b:Bool} {l:Addr} {xs:Array Value} {Q:Value->Shared->Prop} (c1:Sco b s.heap l xs) (h:∀ h',IsEnum h' (s.heap.objs.size+1) s.heap.objs.size 0 .none->Sit b h' s.heap.objs.size l 0->(∀ c o,s.heap.get? c=some o->h'.get? c=some o)->Q (.ref (s.heap.objs.size+1)) {s with heap:=h'}): wpAny (model P w) A (call (.type "enumerate") [.ref l]) Q E s:=by
 refine callType_new F.called_enumerate (by decide) (F.typeCall_enumerate_1 _) (F.newCall_enumerate_1 _) (fun obj=>F.args_object_init_2 obj _) F.entry_enumerate_new (zbO b l xs) ⟨c1,?_⟩;have z1:(s.heap.push (itO b l)).objs.size=s.heap.objs.size+1:=Heap.size_push ..;have g2:=Heap.get?_push_size (s.heap.push (itO b l)) (o:={cls:=.type "enumerate",data:=.fields #[.none,.bool false,.ref s.heap.objs.size,rawInt 0,.none,.none]}) rfl;have g1:((s.heap.push (itO b l)).push {cls:=.type "enumerate",data:=.fields #[.none,.bool false,.ref s.heap.objs.size,rawInt 0,.none,.none]}).get? s.heap.objs.size=some (itO b l):=Heap.get?_push_of_some _ (Heap.get?_push_size _ (z16 b l));show _/\_;rw [z1] at g2;rw [z1];exact ⟨⟨_,g2,rfl⟩,h _ g2 (z6c g1) fun c o e=>Heap.get?_push_of_some _ (Heap.get?_push_of_some _ e)⟩
end
end Zz
namespace L2
open PySem.Spec Zz
def Ite(K:W.Frag)(b:Bool)(l:Addr):It:= ⟨fun i H=>∃ xs x,Sq b K H l xs/\xs[i]? = some x, fun i H v H'=>∃ T x,H T=none/\v=.ref T/\H'=upd H T (.tup [.int i,x])/\∀ xs,Sq b K H l xs->xs[i]? = some x, fun i H=>∃ xs,Sq b K H l xs/\xs.length<=i⟩
theorem z9S {P:Program} {w:World} {K:W.Frag} {elts:List Expr} {kt:Nat} {tp:Pos} {b:Bool} {e it l:Addr} (ne:e≠it): ze2 P w K (.Tuple elts kt tp) (Ite K b l) [e,it] e (fun i h=>(∃ old,IsEnum h e it ((i:Nat):Int) old)/\Sit b h it l i) where
 mem:=by simp
 obj:=fun i h ⟨⟨old,he⟩,h1⟩ c hc=>by
  have hc':c=e\/c=it:=by simpa using hc
  rcases hc' with rfl | rfl;·exact ⟨_,he,fun v z=>by simp at z⟩
  ·exact h1.ob
 keep:=fun i h h' ⟨⟨old,he⟩,h1⟩ k=>⟨⟨old,k e (by simp) _ he⟩,h1.to fun o z=>k it (by simp) o z⟩;item:=by
  intro X hP hw hK hc i pins s O H E I hf ⟨⟨old,he⟩,h1⟩ ⟨xs,x,qx,ex⟩;subst hP hw hK;obtain ⟨ix,rx,cx⟩:=I.sq qx;obtain ⟨u,hu,ru⟩:=rx.get ex;refine ze7 he h1 cx (x:=u) (by simpa using hu) ne fun g a1 a2 a3 hk=>⟨_,rfl,?_⟩;have I1:Inv X pins O H {s with heap:=g,toks:=s.toks+1}:=I.turnedL (t':=s.toks+1) (ch:=[e,it]) (fun c o n z=>hk c o (fun t=>n (by simp [t])) (fun t=>n (by simp [t])) z) hf;refine wpAny_letOwnedTupleGo_enum a1 fun g2 e2 s2=>?_;obtain ⟨f0,f1,f2,f3,f4,f5⟩:=hf e (by simp);have I2:Inv X pins O H {s with heap:=g2,toks:=s.toks+1}:=I1.turned (t':=s.toks+1) (fun c o n z=>zu s2 n z) f0 f1 f3 f4 f5;have new:z6g X pins H s.heap.objs.size:=I.fpOk (Nat.le_refl _) (I.hok.fresh (Nat.le_refl _));have el:e≠s.heap.objs.size:=Nat.ne_of_lt (Heap.lt_size he);have p2:g2.get? s.heap.objs.size=some {cls:=.type "tuple",data:=.seq #[.int i s.toks,u]}:=zu s2 el.symm a3;refine ⟨.ref s.heap.objs.size,upd H s.heap.objs.size (.tup [.int i,x]),I2.track new ⟨?_,[.int i s.toks,u],.cons ⟨_,rfl⟩ (.cons ru .nil),⟨_,p2,rfl,rfl,_,rfl⟩⟩,rfl,⟨_,x,new.1,rfl,rfl,fun zs qz=>?_⟩,⟨⟨_,by simpa using e2⟩,a2.to fun o z=>zu s2 ne.symm z⟩,fun c hc=>?_⟩;·show 2<=sizeLine;decide
  ·rw [I.sq_inj qz qx];exact ex
  ·have hc':c=e\/c=it:=by simpa using hc
   have:c≠s.heap.objs.size:=by
    rcases hc' with rfl | rfl;·exact el
    ·exact Nat.ne_of_lt h1.lt
   rw [zH this];exact (hf c hc).1
 done:=by
  intro X hP hw hK hc i pins s O H E I hf ⟨⟨old,he⟩,h1⟩ ⟨xs,qx,hl⟩;subst hP hw hK;obtain ⟨ix,rx,cx⟩:=I.sq qx;have lx:=rx.length;obtain ⟨f0,f1,f2,f3,f4,f5⟩:=hf it (by simp);exact zhh (I.ok.hd hc) he h1 cx (by simp;omega) fun g hk=>⟨rfl,I.turned (t':=s.toks) (fun c o n z=>hk c o n z) f0 f1 f3 f4 f5⟩
 self:=fun _ _ _ _ _ ⟨⟨_,he⟩,_⟩ h=>wpAny_pyIter_enum he h
theorem zdi{X:Cx}{elts:List Expr}{kt:Nat}{tp:Pos}{a:Expr}{ta:TA}{p pos:Pos}(hg:Gl X "enumerate")(hm:X.mg "enumerate"=none)(ha:PA X [a] ta)(hs:starEach [a] X.env=(false,eval a X.env)::starEach [] X.env:=by rfl)(hpl:(backTo pos (starEach [] X.env)).any (·.1)=false:=by rfl): PI X (.Tuple elts kt tp) (.Call (.Name "enumerate" p) [a] [] pos) (fun O H R=>ta O H fun vs H1=>∃ l b,vs=[.ref l]/\(∃ xs,Sq b X.K H1 l xs)/\R (Ite X.K b l) H1):=by
 intro pins s O H R I h;refine wpAny_Call_Name_kw (z0C I hg hm (u:=.type "enumerate") (by decide +kernel) ?_ (by decide) (by decide));refine PyProof.Rows.callWith_type1 (thn (ha pos pins s O H _ I h) fun us s1 ⟨vs,H1,I1,r1,q1⟩=>?_) hs hpl;obtain ⟨l,b,rfl,⟨xs,qx⟩,q⟩:=q1;obtain ⟨u,rfl,ru⟩:=vals1 r1;cases ru;obtain ⟨ix,rx,cx⟩:=I1.sq qx;refine zdn cx fun g he h1 hk=>?_;refine wpAny_pyIter_enum he ?_;refine ⟨_,_,_,_,H1,rfl,I1.kept (t':=s1.toks) hk,z9S (Nat.succ_ne_self _),⟨⟨_,he⟩,h1⟩,fun c hc=>?_,q⟩;have hc':s1.heap.objs.size<=c:=by
  have:c=s1.heap.objs.size+1\/c=s1.heap.objs.size:=by simpa using hc
  rcases this with rfl | rfl;·exact Nat.le_succ _
  ·exact Nat.le_refl _
 exact I1.fpOk hc' (I1.hok.fresh hc')
theorem z2s(ns:List Int):∀ n,n<=ns.length->preSum (fun i=>ns.getD i 0) n=(ns.take n).sum
 | 0,_=>by simp [preSum] | n+1,h=>by
  rw [preSum,z2s ns n (by omega),<- List.take_append_getElem (show n<ns.length by omega),List.sum_append];have e:ns.getD n 0=ns[n]:=by simp [List.getD,List.getElem?_eq_getElem (show n<ns.length by omega)]
  rw [e];simp only [List.sum_cons,List.sum_nil,Int.add_zero]
theorem za9{X:Cx}(hc:X.calm=true):wL X (.builtin "sum") (fun xs H Q=>∃ (b:Bool)(p:Addr)(ns:List Int),xs=[.ref p]/\Sq b X.K H p (ns.map V.int)/\Q (.int ns.sum) H):=by
 intro pins s O H xs us Q I r h;obtain ⟨b,p,ns,rfl,hq,q⟩:=h;obtain ⟨u,rfl,ru⟩:=vals1 r;cases ru;obtain ⟨its,rv,co⟩:=I.sq hq;have hl:its.length=ns.length:=by have:=rv.length;simp at this;omega
 refine call_sum_walkG (z1Q (I.ok.hd hc) co fun s2 e2 St W st bd old=>?_);subst e2;refine ⟨_,_,_,_,_,_,(fun i=>ns.getD i 0),rfl,W,st,bd,(fun i v e=>let ⟨t,e1,_⟩:=z1E rv e;⟨t,e1⟩),fun h' tk t' hk=>?_⟩;have ez:its.toArray.size=ns.length:=by simp [hl]
 rw [ez,z2s ns _ (Nat.le_refl _),List.take_length];exact ⟨.int ns.sum,H,I.kept (t':=tk) (old h' hk),⟨t',rfl⟩,q⟩
end L2
namespace L2
open PySem.Spec
end L2
namespace Dd
open PySem.Spec L2
section
variable {X:Cx}{E:XK}{e a b c tg iter elt:Expr}{es:List Expr}{pos:Pos}{CX:CXT}
def ziv(i j k:Nat)(f:FA):FS:=fun Z s=>(f Z s).bind fun ds s1=>match ds with | [x,y,z]=>.ok (.nx (((Z.set i (some x)).set j (some y)).set k (some z))) s1 | _=>.no
def zcA:List D->Sto->R D
 | [d],s=>match (zF s d).bind intsOf with | some ns=>.ok (.int ns.sum) s | none=>.no
 | _,_=>.no
theorem zgA(hc:X.calm=true):∃ r,wL X (.builtin "sum") r/\z0k X E r zcA:=⟨_,za9 hc,fun H Y s ds vs Q r hd h=>by
 unfold zcA at h;split at h
 ·rename_i d;split at h
  ·rename_i ns e;obtain ⟨xs,e1,e2⟩:=Option.bind_eq_some_iff.mp e;have:=jj e2;subst this;obtain ⟨v,rfl,dn⟩:=z02 hd;obtain ⟨a,ws,rfl,q1,q2⟩:=vE (K:=X.K) r e1 dn;cases jm q2;obtain ⟨b,q⟩:=z5Z q1;exact ⟨b,a,ns,rfl,q,h.here r yR⟩
  ·exact h.elim
 ·exact h.elim⟩
def z2h:Nat->List D->List D
 | _,[]=>[] | i,x::xs=>.tup [.int i,x]::z2h (i+1) xs
theorem z0F:∀ (i:Nat)(xs:List D),(z2h i xs).length=xs.length
 | _,[]=>rfl | i,x::xs=>by simp [z2h,z0F (i+1) xs]
theorem z7q:∀ {i k:Nat}{xs:List D}{d:D},(z2h i xs)[k]? = some d->∃ x,xs[k]? = some x/\d=.tup [.int ((i+k:Nat):Int),x]
 | _,_,[],_,h=>by simp [z2h] at h | i,0,x::xs,d,h=>by simp [z2h] at h;exact ⟨x,by simp,by simp [h]⟩ | i,k+1,x::xs,d,h=>by
  simp only [z2h,List.getElem?_cons_succ] at h;obtain ⟨y,h1,h2⟩:=z7q h;refine ⟨y,by simpa using h1,?_⟩;rw [h2,show i+1+k=i+(k+1) by omega]
def z8y(f:FA):FI:=fun Z s=>(f Z s).bind fun ds s1=>match ds with
 | [x]=>match z0Q s1 x with
  | some p=>.ok (z2h 0 p.1,p.2) s1 | none=>.no
 | _=>.no
theorem zfb{p tp:Pos}{elts:List Expr}{kt:Nat}{f:FA}(hg:Gl X "enumerate")(hm:X.mg "enumerate"=none)(ha:RA X E [a] f)(hs:starEach [a] X.env=(false,eval a X.env)::starEach [] X.env:=by rfl)(hpl:(backTo pos (starEach [] X.env)).any (·.1)=false:=by rfl): RI X E (.Tuple elts kt tp) (.Call (.Name "enumerate" p) [a] [] pos) (z8y f):= z8e (zdi hg hm ha hs hpl) fun O H Q ⟨Y,Z,s,r,en,h⟩=>by
  unfold z8y at h;refine ⟨Y,Z,s,r,en,(okR.bind (Dn:=zB (gm X)) h).imp fun vs H1 ⟨Y1,s1,ds,stp,dn,h1⟩=>?_⟩;split at h1
  ·rename_i x;split at h1
   ·rename_i p ex;obtain ⟨xs,gx⟩:=p;obtain ⟨v,rfl,d1⟩:=z02 dn;obtain ⟨og1,b1,a1,rfl,k1⟩:=z6Q stp.rep ex d1;obtain ⟨w1,q1,_⟩:=k1 H1 Y1 s1 (.refl stp.rep) og1;refine ⟨a1,b1,rfl,⟨w1,q1⟩,h1.here stp.rep fun H2 Y2 s2 stp2 og i=>⟨fun d hd=>?_,fun hl=>?_⟩⟩
    ·obtain ⟨x,e1,rfl⟩:=z7q hd;obtain ⟨w1,q1,n1⟩:=k1 H2 Y2 s2 stp2 og;obtain ⟨u1,g1,m1⟩:=n1.get e1;refine ⟨⟨w1,u1,q1,g1⟩,fun z H' ⟨T,p,hT,ez,eH,hp⟩=>?_⟩;subst ez eH;have e3:=hp w1 q1;rw [g1] at e3;cases e3;have st3:=wG.lay (o:=.tup [.int i,u1]) stp2.rep hT (by intro _ z;cases z);refine ⟨Y2,st3,?_⟩;simp only [Den,Nat.zero_add];exact ⟨T,[.int i,u1],rfl,yr,(zB.cons yR (zB.one m1)).mono st3⟩
    ·obtain ⟨w1,q1,n1⟩:=k1 H2 Y2 s2 stp2 og;refine ⟨w1,q1,?_⟩;rw [n1.length];simpa only [z0F] using hl
   ·exact h1.elim
  ·exact h1.elim
end
section
variable (i j k:Nat)(Z:Ev)(s:Sto)(ar:FA)
@[simp] theorem ziQ:ziv i j k ar Z s=(ar Z s).bind fun ds s1=>match ds with | [x,y,z]=>.ok (.nx (((Z.set i (some x)).set j (some y)).set k (some z))) s1 | _=>.no:=id rfl
@[simp] theorem zid:z8y ar Z s=(ar Z s).bind fun ds s1=>match ds with
 | [x]=>match z0Q s1 x with
  | some p=>.ok (z2h 0 p.1,p.2) s1 | none=>.no
 | _=>.no:=id rfl
end
end Dd
namespace L2
open PySem.Spec
def zd4(n:Nat):List V:=(List.range n).map fun k=>V.int ((k:Nat):Int)
theorem ke:∀ {xs:List V}{us:List Value},us.length=xs.length->(∀ (j:Nat) u,us[j]? = some u->∃ x,xs[j]? = some x/\xx x u)->xF xs us
 | [],[],_,_=>.nil | [],_::_,h,_=>by simp at h | _::_,[],h,_=>by simp at h | x::xs,u::us,h,k=>by
  obtain ⟨y,e,r⟩:=k 0 u (by simp);have:y=x:=by simpa using e.symm
  subst this;exact .cons r (ke (by simpa using h) fun j v hv=>k (j+1) v (by simpa using hv))
theorem z5d {X:Cx} {a:Expr} {ta:TA} {p p2 pos pos2:Pos} (hc:X.calm=true) (hg:Gl X "list") (hm:X.mg "list"=none) (hg2:Gl X "range") (hm2:X.mg "range"=none) (ha:PA X [a] ta) (hs2:starEach [a] X.env=[(false,eval a X.env)]:=by rfl) (hs:starEach [.Call (.Name "range" p2) [a] [] pos2] X.env=(false,eval (.Call (.Name "range" p2) [a] [] pos2) X.env)::starEach [] X.env:=by rfl) (hpl:(backTo pos (starEach [] X.env)).any (·.1)=false:=by rfl): PE X (.Call (.Name "list" p) [.Call (.Name "range" p2) [a] [] pos2] [] pos) (fun O H Q=>ta O H fun vs H1=>∃ j:Int,vs=[.int j]/\0<=j/\j<=1000/\∀ l,H1 l=none->Q (.ref l) (upd H1 l (.lst (zd4 j.toNat)))):=by
 intro pins s O H Q I h;refine wpAny_Call_Name_kw (z0C I hg hm (u:=.type "list") (by decide +kernel) ?_ (by decide) (by decide));refine PyProof.Rows.callWith_type1 ?_ hs hpl;rw [hs];show wpAny _ _ (spliced ((false,eval (.Call (.Name "range" p2) [a] [] pos2) X.env)::backTo pos (starEach [] X.env))) _ _ s;refine Calls.spliced_cons (wpAny_Call_Name_kw (z0C I hg2 hm2 boot_range (PyProof.Rows.callWith_type1 (thn (ha pos2 pins s O H _ I h) fun us s1 ⟨vs,H1,I1,r1,q1⟩=>?_) hs2 rfl) (by decide) (by decide)));obtain ⟨j,e,q0,q2,q⟩:=q1;subst e;obtain ⟨u,rfl,⟨t,rfl⟩⟩:=vals1 r1;refine call_range_1 (Calls.spliced_nil ?_);have hsz:Builtin.Range.rangeSize 0 j 1=((j.toNat:Nat):Int):=by rw [rangeSize_one];split<;>omega
 refine call_list_range (I.ok.hd hc) (IsRange.new ..) (small_one (by omega) (by omega) (by omega) (by omega)) hsz (by omega) fun h' tk acc c' hk hS hacc=>?_;have I2:Inv X pins O H1 {s1 with heap:=s1.heap.push {cls:=.type "range",data:=.fields #[.int 0 s1.toks,.int j t,.int 1 (s1.toks+1)]},toks:=s1.toks+1+1}:=I1.kept fun b o e=>Heap.get?_push_of_some _ e;have hl:(zd4 j.toNat).length=j.toNat:=by simp [zd4]
 have hv:xF (zd4 j.toNat) acc.toList:=ke (by simp [hacc.1,hl]) fun i v hv=>by
  obtain ⟨tk2,rfl⟩:=hacc.2 i v (by simpa using hv);have hi:i<j.toNat:=by
   have:=(List.getElem?_eq_some_iff.mp hv).1;simp [hacc.1] at this;omega
  exact ⟨.int i,by simp [zd4,hi],⟨tk2,by simp⟩⟩
 refine ⟨.ref _,upd H1 _ (.lst (zd4 j.toNat)),I2.laid (t':=tk) hk (Nat.le_refl _) ?_,rfl,q _ (I2.hok.fresh (Nat.le_refl _))⟩;exact ⟨by rw [hl];exact Nat.le_trans (show j.toNat<=1000 by omega) (by decide),acc.toList,c',hv,by simpa using hS⟩
end L2
namespace Dd
open PySem.Spec L2
section
variable {X:Cx}{E:XK}{a:Expr}{pos:Pos}
theorem zc6{mg:Gm}{H:Hp}{Y:List Addr}(n:Nat):zB mg H Y (yK n) (zd4 n):=by
 unfold yK zd4;induction (List.range n) with
 | nil=>exact zB.nil | cons k ks ih=>exact zB.cons yR ih
def eLR(f:FA):FE:=fun Z s=>(f Z s).bind fun ds s1=>match ds with
 | [.int j]=>if 0<=j/\j<=1000 then .ok (.lst (yK j.toNat)) s1 else .no | _=>.no
theorem z1H{p p2 pos2:Pos}{f:FA}(hc:X.calm=true)(hg:Gl X "list")(hm:X.mg "list"=none)(hg2:Gl X "range")(hm2:X.mg "range"=none)(ha:RA X E [a] f) (hs2:starEach [a] X.env=[(false,eval a X.env)]:=by rfl) (hs:starEach [.Call (.Name "range" p2) [a] [] pos2] X.env=(false,eval (.Call (.Name "range" p2) [a] [] pos2) X.env)::starEach [] X.env:=by rfl)(hpl:(backTo pos (starEach [] X.env)).any (·.1)=false:=by rfl): RE X E (.Call (.Name "list" p) [.Call (.Name "range" p2) [a] [] pos2] [] pos) (eLR f):= yz (z5d hc hg hm hg2 hm2 ha hs2 hs hpl).freeze fun O H Q ⟨Y,Z,s,r,en,h⟩=>by
  unfold eLR at h;refine ⟨Y,Z,s,r,en,(okR.bind (Dn:=zB (gm X)) h).imp fun vs H1 ⟨Y1,s1,ds,stp,dn,h1⟩=>?_⟩;split at h1
  ·rename_i j;split at h1
   ·rename_i hj;obtain ⟨v,rfl,d1⟩:=z02 dn;cases yO d1;exact ⟨j,rfl,hj.1,hj.2,z1i stp.rep h1 (zc6 _)⟩
   ·exact h1.elim
  ·exact h1.elim
@[simp] theorem zfU (f:FA)(Z:Ev)(s:Sto):eLR f Z s=(f Z s).bind fun ds s1=>match ds with
 | [.int j]=>if 0<=j/\j<=1000 then .ok (.lst (yK j.toNat)) s1 else .no | _=>.no:=id rfl
end
def vS(ft:FT)(fb:FS):Nat->Ev->Sto->R Fl
 | 0,_,_=>.no | k+1,Z,s=>(ft Z s).bind fun b s1=>if b=true then (fb Z s1).bind fun fl s2=>match fl with
   | .nx Z'=>vS ft fb k Z' s2 | .ct Z'=>vS ft fb k Z' s2 | .bk Z'=>.ok (.nx Z') s2 | .rt d=>.ok (.rt d) s2 else .ok (.nx Z) s1
theorem z03{ft:FT}{fb:FS}:∀ {k:Nat}{Z:Ev}{s:Sto},vS ft fb k Z s≠.no->vS ft fb (k+1) Z s=vS ft fb k Z s
 | 0,Z,s,h=>absurd rfl h | k+1,Z,s,h=>by
  rw [vS] at h ⊢;conv=>rhs;rw [vS]
  cases e:ft Z s with
  | no=>rfl | ex c t=>rfl | ok b s1=>
   rw [e] at h;simp only [R.bind_ok] at h ⊢;cases b with
   | false=>rfl | true=>
    rw [if_pos rfl] at h ⊢;rw [if_pos rfl];cases e2:fb Z s1 with
    | no=>rfl | ex c t=>rfl | ok fl s2=>
     rw [e2] at h;simp only [R.bind_ok] at h ⊢;cases fl with
     | nx Z'=>exact z03 h | ct Z'=>exact z03 h | bk Z'=>rfl | rt d=>rfl
theorem z7x{ft:FT}{fb:FS}{k m:Nat}{Z:Ev}{s:Sto}(h:vS ft fb k Z s≠.no)(hm:k<=m):vS ft fb m Z s=vS ft fb k Z s:=by induction hm with
 | refl=>rfl | step _ ih=>rw [z03 (by rw [ih];exact h),ih]
open Classical in
def z3j(ft:FT)(fb:FS):FS:=fun Z s=>if h:∃ k,vS ft fb k Z s≠.no then vS ft fb h.choose Z s else .no
theorem z8b{ft:FT}{fb:FS}{k:Nat}{Z:Ev}{s:Sto}{r:R Fl}(h:vS ft fb k Z s=r)(hr:r≠.no):z3j ft fb Z s=r:=by
 subst h;have hx:∃ k,vS ft fb k Z s≠.no:=⟨k,hr⟩;unfold z3j;rw [dif_pos hx];rcases Nat.le_total k hx.choose with z | z;·exact z7x hr z
 ·exact (z7x hx.choose_spec z).symm
theorem zaq {X:Cx} {E:XK} {c:Expr} {body:List Stmt} {pos:Pos} {ft:FT} {fb:FS} (hp:PassesOwn (model X.prog X.w) X.A X.env X.xe) (hc:RT X E c ft) (hb:RSs X E body fb):RS X E (.While c body [] pos) (z3j ft fb):= uV (zbv hp hc hb) fun D O H ⟨Y,Z,s,r,en,h⟩=>by
  unfold z3j at h;split at h
  ·rename_i hx;refine ⟨fun m O H=>∃ Y Z s,Rep (gm X) H Y s/\uf (gm X) H Y Z O/\okR (gm X) E H Y (FlD (gm X)) (vS ft fb m Z s) (z4y D),⟨_,Y,Z,s,r,en,h⟩,?_⟩;rintro m O H ⟨Y,Z,s,r,en,h⟩;cases m with
   | zero=>exact h.elim | succ m=>
    rw [vS] at h;refine ⟨Y,Z,s,r,en,(okR.bind (Dn:=bD) h).imp fun b H1 ⟨Y1,s1,b',stp,eb,h1⟩=>?_⟩;cases (show b'=b from eb);cases b with
    | false=>
     rw [if_neg (by decide)] at h1 ⊢;exact okR.here (b:=FlV.nx O) (Q:=z4y D) h1 stp.rep (en.mono stp) | true=>
     rw [if_pos rfl] at h1 ⊢;refine ⟨fun O' H'=>∃ Y Z s,Rep (gm X) H' Y s/\uf (gm X) H' Y Z O'/\okR (gm X) E H' Y (FlD (gm X)) (vS ft fb m Z s) (z4y D),fun O' H' q=>⟨m,Nat.lt_succ_self _,q⟩,Y1,Z,s1,stp.rep,en.mono stp,(okR.bind (Dn:=FlD (gm X)) h1).imp fun fv H2 ⟨Y2,s2,fl,stp2,dn,h2⟩=>?_⟩;cases fl with
     | nx Z'=> cases fv with
      | nx O'=>exact ⟨Y2,Z',s2,stp2.rep,dn,h2⟩ | _=>exact (show False from dn).elim
     | ct Z'=> cases fv with
      | ct O'=>exact ⟨Y2,Z',s2,stp2.rep,dn,h2⟩ | _=>exact (show False from dn).elim
     | bk Z'=> cases fv with
      | bk O'=>exact okR.here (b:=FlV.nx O') (Q:=z4y D) (a:=Fl.nx Z') (s:=s2) h2 stp2.rep dn | _=>exact (show False from dn).elim
     | rt d=> cases fv with
      | rt v=>exact okR.here (b:=FlV.rt v) (Q:=z4y D) (a:=Fl.rt d) (s:=s2) h2 stp2.rep dn | _=>exact (show False from dn).elim
  ·exact h.elim
end Dd
namespace PySem
open PySem.AutoSeq1 (wpAny_loadPart')
open MeetsSeq MeetsSeq2 SeqAt
theorem z95{M:Model}{A:Around}{E:Value->Shared->Prop}{s:Shared}{β:Type}(f:Nat->β->Sem (ForInStep β))(I:Nat->β->Shared->Prop)(Q:β->Shared->Prop)(n:Nat) (turn:∀ i b s,i<n->I i b s->wpAny M A (f i b) (fun r s'=>match r with | .yield b'=>I (i+1) b' s' | .done b'=>Q b' s') E s) (fin:∀ b s,I n b s->Q b s)(b:β)(h:I 0 b s):wpAny M A (forIn ([0:n]:Std.Legacy.Range) b f) Q E s:=by
 rw [Std.Legacy.Range.forIn_eq_forIn_range'];simp only [Std.Legacy.Range.size,Nat.sub_zero,Nat.add_sub_cancel,Nat.div_one];refine wpAny_forIn_list f (fun z0T b s'=>∃ i,z0T=List.range' i (n-i)/\i<=n/\I i b s') _ ?_ ?_ _ _ ⟨0,by simp,Nat.zero_le _,h⟩
 ·rintro x z0T b s' ⟨i,hr,hi,hI⟩;have hlt:i<n:=by
   rcases Nat.lt_or_ge i n with h | h;·exact h
   ·rw [Nat.sub_eq_zero_of_le h] at hr;simp at hr
  obtain ⟨rfl,hrest⟩:x=i/\z0T=List.range' (i+1) (n-(i+1)):=by
   have e:n-i=(n-(i+1))+1:=by omega
   rw [e,List.range'_succ] at hr;injection hr with h1 h2;exact ⟨h1,h2⟩
  refine wpAny_mono (turn x b s' hlt hI) (fun r s2 hr=>?_) fun _ _ h'=>h';cases r with
  | done b'=>exact hr | yield b'=>exact ⟨x+1,hrest,hlt,hr⟩
 ·rintro b s' ⟨i,hr,hi,hI⟩;have:i=n:=by
   have:=congrArg List.length hr;simp at this;omega
  subst this;exact fin _ _ hI
theorem z2w (l:Addr) (items:Array Value) (n:Nat) (dd:Option Addr) (sl:Array (Option Value)) (x:Value) (e:Value->Bool) (j:Nat) (hj:j<items.size) (hit:e items[j]=true) (hno:∀ m (hm:m<items.size),m<j->e items[m]=false): Meets (Builtin.«tuple.index» ⟨[.ref l,x],[]⟩) (fun A R s=>s.heap.get? l=some {cls:=.type "tuple",dict:=dd,data:=.seq items n,slots:=sl}/\(∀ y,y∈items->EqAt A.in1 s y x (e y))/\R (.ok (.ret (.int j s.toks))) {s with toks:=s.toks+1}):= .of_wp fun prog w A R s h=>by
  obtain ⟨hp,g,d,tk,os⟩:=s;obtain ⟨hl,he,h⟩:=h;have hm:min items.size items.size=items.size:=Nat.min_self _;wp_walk using wpAny_loadPart' hl,z95 _ (fun i b s'=>b.1=none/\s'=⟨hp,g,d,tk,os⟩/\i<=j) _ _;case turn=>
   rintro i ⟨b1,b2⟩ s' hi ⟨hb,rfl,hij⟩;simp only at hb;subst hb;rw [hm] at hi;rw [Array.getElem?_eq_getElem hi];refine wpAny_bind (he _ (Array.getElem_mem hi) prog w _ _ ?_);rcases Nat.lt_or_eq_of_le hij with lt | rfl
   ·rw [hno i hi lt];wp_walk;exact ⟨rfl,rfl,lt⟩
   ·rw [hit];wp_walk;exact ⟨_,rfl,h⟩
  case fin=>
   rintro ⟨b1,b2⟩ s' ⟨hb,rfl,hij⟩;rw [hm] at hij;omega
  case h=>exact ⟨rfl,rfl,Nat.zero_le _⟩
end PySem
namespace L2
open PySem.Spec
section
variable {X:Cx}{o e:Expr}{to:TE}{t:TA}{name:Str}{apos cpos:Pos}{id:String}{r:V->List V->Hp->VK->Prop}
theorem zfT(slot:Slot "tuple" name id)(hty:typeOf (.builtin id)=pure (.type "method_descriptor"))(hm:MtR X id r)(ho:PE X o to)(ha:PA X [e] t) (hbase:attributeBase o name X.env (eval o X.env)=eval o X.env:=by rfl) (hfew:((backTo cpos (starEach [e] X.env)).all (fun x=>!x.1)&&(backToKw cpos (keywordEach [] X.env)).all (fun x=>x.1.isSome) && decide ([e].length+([]:List Keyword).length+(if ([]:List Keyword).isEmpty then 0 else 1)<30))=true:=by rfl) (hline:(apos.endLine==cpos.line)=true:=by rfl)(hs:starEach [e] X.env=(false,eval e X.env)::starEach [] X.env:=by rfl)(hplain:(backTo cpos (starEach [] X.env)).any (·.1)=false:=by rfl): PE X (.Call (.Attribute o name apos) [e] [] cpos) (fun O H Q=>to O H fun x H1=>(∃ p vs,x=.ref p/\H1 p=some (.tup vs))/\t O H1 fun xs H2=>r x xs H2 Q):=by
 intro pins s O H Q I h;refine wpAny_Call_method_late hbase hfew hline rfl (thn (ho pins s O H _ I h) fun v s1 ⟨x,H1,I1,r1,ty,q1⟩=>?_);obtain ⟨p,vs,rfl,hp⟩:=ty;cases r1;obtain ⟨_,its,_,ob,e1,c1,d1,n,w1⟩:=I1.hok p _ hp;refine ⟨"tuple",id,PySem.F.plainAttrs_tuple,slot,hty,⟨ob,e1,c1⟩,fun a e=>?_,?_⟩
 ·cases e;exact ⟨ob,e1,d1⟩
 have hA:=ha cpos pins s1 O H1 _ I1 q1;rw [hs] at hA ⊢;refine Calls.callWith_builtin (by show (false||(backTo cpos (starEach [] X.env)).any (·.1))=false;rw [hplain]<;>rfl) (Calls.evalArgs_plain ?_);exact thn hA fun us s2 ⟨vs,H2,I2,r2,q2⟩=>hm pins s2 O H2 (.ref p) vs _ us Q I2 rfl r2 q2
theorem z0J:∀ {ns:List Int}{its:List Value},xF (ns.map V.int) its->IntsAre its ns
 | [],_,.nil=>.nil | n::ns,_,.cons r rs=>by
  obtain ⟨t,rfl⟩:=r;exact .cons n t (z0J rs)
def zhE:V->List V->Hp->VK->Prop:=fun x vs H Q=>∃ (p:Addr)(ns:List Int)(k:Int),x=.ref p/\vs=[.int k]/\H p=some (.tup (ns.map V.int))/\k∈ns/\Q (.int (ns.idxOf k:Nat)) H
theorem z6E:MtR X "tuple.index" zhE:=by
 intro pins s O H x vs v us Q I rx rv h;obtain ⟨p,ns,k,rfl,rfl,hp,hk,q⟩:=h;cases rx;obtain ⟨u,rfl,⟨t,rfl⟩⟩:=vals1 rv;obtain ⟨_,its,r,ob,e1,c1,d1,n,w1⟩:=I.hok p _ hp;have hi:=z0J r;have hlen:=hi.length;have hj:ns.idxOf k<ns.length:=List.idxOf_lt_length_iff.mpr hk;obtain ⟨cls,dd,data,sl⟩:=ob;simp only at c1 d1 w1;subst c1 d1 w1;refine call_meets PySem.F.slot_tuple_index ⟨_,e1,rfl⟩ PySem.F.entry_tuple_index (PySem.F.args_tuple_index_2 _ _) (z2w p its.toArray n _ sl (.int k t) (isInt k) (ns.idxOf k) (by simpa [hlen] using hj) ?_ ?_) ⟨e1,fun y hy=>(eq_isInt k t hi y (by simpa using hy)).at _ _,?_⟩
 ·show isInt k its[ns.idxOf k]=true;rw [isInt_at k hi _ (by omega) hj];simpa using List.getElem_idxOf hj
 ·intro j hjs hlt;show isInt k its[j]=false;rw [isInt_at k hi j (by simpa using hjs) (by omega)];exact ne_of_lt_idxOf hlt _
 ·exact ⟨.int (ns.idxOf k:Nat),H,I.kept (fun b o e=>e),⟨s.toks,rfl⟩,q⟩
end
end L2
namespace Dd
open PySem.Spec L2
section
variable {X:Cx}{E:XK}{o e:Expr}{pos:Pos}
def za7(fo fv:FE):FE:=fun Z s=>(fo Z s).bind fun o s1=>match o with
 | .tup ds=>(fv Z s1).bind fun d s2=>match intsOf ds,d with
  | some ns,.int k=>if k∈ns then .ok (.int (ns.idxOf k:Nat)) s2 else .no | _,_=>.no
 | _=>.no
theorem z1L{apos:Pos}{fo fv:FE}(ho:RE X E o fo)(hv:RE X E e fv)(hbase:attributeBase o "index" X.env (eval o X.env)=eval o X.env:=by rfl) (hfew:((backTo pos (starEach [e] X.env)).all (fun x=>!x.1)&&(backToKw pos (keywordEach [] X.env)).all (fun x=>x.1.isSome) && decide ([e].length+([]:List Keyword).length+(if ([]:List Keyword).isEmpty then 0 else 1)<30))=true:=by rfl) (hline:(apos.endLine==pos.line)=true:=by rfl)(hs:starEach [e] X.env=(false,eval e X.env)::starEach [] X.env:=by rfl)(hplain:(backTo pos (starEach [] X.env)).any (·.1)=false:=by rfl): RE X E (.Call (.Attribute o "index" apos) [e] [] pos) (za7 fo fv):= yz (zfT PySem.F.slot_tuple_index PySem.F.type_tuple_index z6E ho (z1j hv z7K hs) hbase hfew hline hs hplain) fun O H Q ⟨Y,Z,s,r,en,h⟩=>by
  unfold za7 at h;refine ⟨Y,Z,s,r,en,(okR.bind (Dn:=Den (gm X)) h).imp fun ov H1 ⟨Y1,s1,od,stp,dn,h1⟩=>?_⟩;cases od with
  | tup ds=>
   simp only at h1;have hty:∃ p vs,ov=.ref p/\H1 p=some (.tup vs):=by
    simp only [Den] at dn;obtain ⟨a,vs,rfl,e1,_⟩:=dn;exact ⟨a,vs,rfl,e1⟩
   refine ⟨hty,⟨Y1,Z,s1,stp.rep,en.mono stp,(okR.bind (Dn:=Den (gm X)) h1).imp fun v H2 ⟨Y2,s2,d,stp2,dn2,h2⟩=>?_⟩⟩;split at h2
   ·rename_i ns k ei;split at h2
    ·rename_i hk;have dov:=dn.mono stp2;simp only [Den] at dov;obtain ⟨a,vs,rfl,e1,e2⟩:=dov;rw [jj ei] at e2;cases jm e2;cases yO dn2;exact ⟨a,ns,k,rfl,rfl,e1,hk,okR.here h2 stp2.rep yR⟩
    ·exact h2.elim
   ·exact h2.elim | _=>exact h1.elim
@[simp] theorem zfh (fo fv:FE)(Z:Ev)(s:Sto):za7 fo fv Z s=(fo Z s).bind fun o s1=>match o with
 | .tup ds=>(fv Z s1).bind fun d s2=>match intsOf ds,d with
  | some ns,.int k=>if k∈ns then .ok (.int (ns.idxOf k:Nat)) s2 else .no | _,_=>.no
 | _=>.no:=id rfl
end
def zdO(P:Program)(w:World)(K:W.Frag)(mg:Str->Option Value)(x:Str)(tb:List (Str×Str)):Prop:= ∃ a o es ep,mg x=some (.ref a)/\(a==sysModules)=false/\K.lookup a=some o/\o.ExactDict/\o.data=.dict es ep/\PySem.KeysOf (yd P w) es/\ (∀ k y,tb.lookup k=some y->∃ f,findBy (yd P w).is es (.inr k)=some (.ref f)/\mg y=some (.ref f))/\∀ k,tb.lookup k=none->findBy (yd P w).is es (.inr k)=none
theorem z5j{P:Program}{w:World}{k:Str}{u:Value}(r:xx (.str k) u):(yd P w).is (.inr k) u=true:=by
 obtain ⟨t,e⟩:=(show ∃ t,u=Value.str k t from r);subst e;exact z1B k t
section
variable {X:Cx}{E:XK}{e a b c:Expr}{es:List Expr}{pos:Pos}{CX:CXT}
theorem z7I{pins:List (Addr×Obj)}{O:L2.St}{H:Hp}{s:Shared}{o:Obj}{d:Addr}{en:Array DictEntry}{ep:Nat}(I:Inv X pins O H s)(hk:X.K.lookup d=some o)(hx:o.ExactDict)(hd:o.data=.dict en ep)(ks:PySem.KeysOf (yd X.prog X.w) en): s.heap.MapOf (yd X.prog X.w) d (fun k=>findBy (yd X.prog X.w).is en k):=⟨o,en,ep,I.kIn d o hk,hx,hd,ks,fun _=>rfl⟩
def zhu(tb:List (Str×Str))(f:FE):FE:=fun Z s=>(f Z s).bind fun d s1=>match d with
 | .str k=>match tb.lookup k with | some y=>.ok (.fn y) s1 | none=>.no
 | _=>.no
theorem ziT{x:Str}{p:Pos}{tb:List (Str×Str)}{f:FE}(hT:zdO X.prog X.w X.K X.mg x tb)(hg:Gl X x)(he:RE X E e f)(hs:z6W e)(hdb:(x==("__debug__":Str))=false:=by decide): RE X E (.Subscript (.Name x p) e pos) (zhu tb f):=by
 obtain ⟨d,o,en,ep,hm,hsm,hk,hx,hd,ks,h1,h2⟩:=hT;refine yz (zfE (r:=fun v y H Q=>v=.ref d/\∃ k g,y=.str k/\findBy (yd X.prog X.w).is en (.inr k)=some (.ref g)/\Q (.ref g) H) ?_ (z6r hg hm (show xx (.ref d) (.ref d) from rfl) hdb) he hs) fun O H Q ⟨Y,Z,s,r,en',h⟩=>?_
 ·intro value slice pins s O H v y u u2 Q I rx ry h hs2;obtain ⟨rfl,k,g,rfl,hf,q⟩:=h;cases rx;have mp:=z7I I hk hx hd ks;exact subscriptTail_builtinR (x:=.ref g) mp.typeIs PySem.F.slot_dict_getitem.lookup (wpAny_getItem_of (Q:=fun r s'=>r=.ref g/\EP X pins O Q r s') (z5j ry) mp hf ⟨rfl,.ref g,H,I.tok _,rfl,q⟩) hs2
 ·unfold zhu at h;refine ⟨Y,Z,s,r,en',(okR.bind (Dn:=Den (gm X)) h).imp fun v H1 ⟨Y1,s1,dd,stp,dn,q⟩=>?_⟩;split at q
  ·rename_i k;split at q
   ·rename_i y hy;obtain ⟨g,e1,e2⟩:=h1 k y hy;cases z4r dn;exact ⟨rfl,k,g,rfl,e1,okR.here (b:=V.ref g) q stp.rep (by simp only [Den];exact ⟨g,rfl,e2⟩)⟩
   ·exact q.elim
  ·exact q.elim
def z7o(tb:List (Str×Str))(neg:Bool)(f:FE):FE:=fun Z s=>(f Z s).bind fun d s1=>match d with
 | .str k=>.ok (.bl (xor neg (tb.lookup k).isSome)) s1 | _=>.no
theorem zeq{x:Str}{p:Pos}{tb:List (Str×Str)}{f:FE}(hT:zdO X.prog X.w X.K X.mg x tb)(hg:Gl X x)(he:RE X E e f)(hm':behindInMarks .In (.Name x p)=false:=by rfl)(hdb:(x==("__debug__":Str))=false:=by decide): RE X E (.Compare e [.In] [.Name x p] pos) (z7o tb false f):=by
 obtain ⟨d,o,en,ep,hm,hsm,hk,hx,hd,ks,h1,h2⟩:=hT;refine yz (zaA (r:=fun y v H Q=>v=.ref d/\∃ k,y=.str k/\Q (.bl (findBy (yd X.prog X.w).is en (.inr k)).isSome) H) ?_ he (z6r hg hm (show xx (.ref d) (.ref d) from rfl) hdb) hm') fun O H Q ⟨Y,Z,s,r,en',h⟩=>?_
 ·intro pins s O H y v u u2 Q I ry rx h;obtain ⟨rfl,k,rfl,q⟩:=h;cases rx;exact wpAny_in_of (z5j ry) hsm (z7I I hk hx hd ks) ⟨.bl _,H,I.tok _,rfl,q⟩
 ·unfold z7o at h;refine ⟨Y,Z,s,r,en',(okR.bind (Dn:=Den (gm X)) h).imp fun v H1 ⟨Y1,s1,dd,stp,dn,q⟩=>?_⟩;split at q
  ·rename_i k;cases z4r dn;have e0:(findBy (yd X.prog X.w).is en (.inr k)).isSome=(tb.lookup k).isSome:=by cases z:tb.lookup k with
    | none=>rw [h2 k z];rfl | some y=>obtain ⟨g,e1,_⟩:=h1 k y z;rw [e1];rfl
   exact ⟨rfl,k,rfl,okR.here (b:=V.bl _) q stp.rep (by simp [Den,e0])⟩
  ·exact q.elim
def z7n(i:Nat)(Ms:List (Str×Mir))(f:FA):FE:=fun Z s=>match Z[i]? with
 | some (some (.fn y))=>match Ms.lookup y with
  | some M=>(f Z s).bind fun xs s1=>M xs s1 | none=>.no
 | _=>.no
theorem zes (i:Nat) {x:Str} {p:Pos} {n:Nat} {Ms:List (Str×Mir)} {f:FA} (F:∀ y M,Ms.lookup y=some M->Has X.prog X.w X.K X.mg X.base CX y n M) (hr:z1a n X.A) (hxx:Passes CX X E) (ha:RA X E (e::es) f) (hN:X.N[i]? = some x:=by rfl) (hv:Vis X.env.scope x:=by first | exact Or.inl rfl | exact Or.inr (Or.inl rfl) | exact Or.inr (Or.inr rfl)) (hd:(x==("__debug__":Str))=false:=by decide) (hcd:(x==("__classdict__":Str))=false:=by decide) (he:starEach (e::es) X.env=(false,eval e X.env)::starEach es X.env:=by rfl) (hpl:(backTo pos (starEach es X.env)).any (·.1)=false:=by rfl):RE X E (.Call (.Name x p) (e::es) [] pos) (z7n i Ms f):=by
 intro pins s O H Q I ⟨Y,Z,st,r,en,h⟩;unfold z7n at h;split at h
 ·rename_i y hy;split at h
  ·rename_i M hM;obtain ⟨v,hv1,dv⟩:=en.at_ i (.fn y) hy;simp only [Den] at dv;obtain ⟨g,rfl,hmg⟩:=dv;obtain ⟨fa,fd,ps,Fk,hb,hk,hm⟩:=F y M hM;have e0:g=fa:=by rw [hmg] at hm;cases hm;rfl
   subst e0;refine wpAny_Call_Name_kw (thn (z9j (pos:=p) hN hv hd hcd pins s O H (fun v H1=>v=.ref g/\H1=H) I ⟨.ref g,hv1,rfl,rfl⟩) fun u s1 ⟨v,H1,I1,r1,e1,e2⟩=>?_);subst e1 e2;cases r1;have hA:=ha pos pins s1 O H1 (fun vs H2=>zdy (gm X) M (vs++[]) H2 Q E) I1 (qE (k:=fun Z xs s1=>M xs s1) r en h _ fun vs H2 Y2 s2 ds r2 en2 dn2 stp2 h3=>by
    rw [List.append_nil];exact ⟨Y2,s2,ds,r2,dn2,h3⟩);refine W.callWith_K (h₀:=X.base) I1.ok.mod.kin hk (thn hA fun us s2 ⟨vs,H2,I2,r2,q⟩=>⟨I2.kIn,?_⟩) he hpl;exact zaa Fk hr hb .nil hxx I2 r2 q
  ·exact h.elim
 ·exact h.elim
@[simp] theorem zjh (tb:List (Str×Str))(f:FE)(Z:Ev)(s:Sto):zhu tb f Z s=(f Z s).bind fun d s1=>match d with
 | .str k=>match tb.lookup k with | some y=>.ok (.fn y) s1 | none=>.no
 | _=>.no:=id rfl
@[simp] theorem zhy (tb:List (Str×Str))(neg:Bool)(f:FE)(Z:Ev)(s:Sto):z7o tb neg f Z s=(f Z s).bind fun d s1=>match d with
 | .str k=>.ok (.bl (xor neg (tb.lookup k).isSome)) s1 | _=>.no:=id rfl
@[simp] theorem zbF (i:Nat)(Ms:List (Str×Mir))(f:FA)(Z:Ev)(s:Sto):z7n i Ms f Z s=match Z[i]? with
 | some (some (.fn y))=>match Ms.lookup y with
  | some M=>(f Z s).bind fun xs s1=>M xs s1 | none=>.no
 | _=>.no:=id rfl
end
theorem wG.cut{mg:Gm}{H H1:Hp}{Y Y1:List Addr}{s1:Sto}(stp:wG mg H Y H1 Y1 s1):wG mg H Y H1 (Y1.take Y.length) (s1.take Y.length):=by
 have fl:∀ {ds:List D}{ws:List V},D.flat.flats ds=true->zB mg H1 Y1 ds ws->zB mg H1 (Y1.take Y.length) ds ws:=fun f h=>h.flatten (fun _ _ h _ _=>h) f;refine ⟨⟨by simp [stp.rep.len],stp.rep.nd.sublist (List.take_sublist _ _),fun j ys h=>?_,fun ys h=>stp.rep.flat ys (List.mem_of_mem_take h)⟩,?_,stp.keep,fun c h1 h2=>stp.new c (List.mem_of_mem_take h1) h2,stp.mt⟩
 ·have hj:j<Y.length:=by
   have:=(List.getElem?_eq_some_iff.mp h).1;simp at this;omega
  rw [List.getElem?_take_of_lt hj] at h ⊢;obtain ⟨c,q1,q2⟩:=stp.rep.cell j ys h;exact ⟨c,q1,q2.flatten (fun _ _ h _ _=>h) (stp.rep.flat _ (List.mem_of_getElem? h)) rfl⟩
 ·obtain ⟨t,ht⟩:=stp.pre;exact ⟨[],by rw [<- ht,List.take_append];simp⟩
theorem wG.frzC{mg:Gm}{H H1:Hp}{Y Y1:List Addr}{s1:Sto}{l:Nat}{xs:List D}(stp:wG mg H Y H1 Y1 s1){a:Addr}(hl:Y.length<=l)(hx:s1[l]? = some xs)(e1:Y1[l]? = some a)(ka:IsL H1 a):∃ vs,H1 a=some (.lst vs)/\ ∀ o,wG mg H Y (upd H1 a (.frz o (.lst vs))) (Y1.take Y.length) (s1.take Y.length)/\Den mg (upd H1 a (.frz o (.lst vs))) (Y1.take Y.length) (.lst xs) (.ref a):=by
 obtain ⟨vs,e2,e3⟩:=stp.rep.at_ hx e1 ka;refine ⟨vs,e2,fun o=>?_⟩;have il:l<Y1.length:=(List.getElem?_eq_some_iff.mp e1).1;have an:a∉Y:=fun z=>by
  obtain ⟨j,hj,ej⟩:=List.mem_iff_getElem.mp z;obtain ⟨t,ht⟩:=stp.pre;have:Y1[j]? = some a:=by rw [<- ht,List.getElem?_append_left hj,List.getElem?_eq_getElem hj,ej]
  have:=(List.getElem_inj stp.rep.nd).mp (((List.getElem?_eq_some_iff.mp this).2).trans ((List.getElem?_eq_some_iff.mp e1).2).symm);omega
 have a0:H a=none:=stp.new a (List.mem_of_getElem? e1) an;have k:∀ b u,H1 b=some u->(∀ vs,u≠.lst vs)->(∀ kvs,u≠.dT kvs)->upd H1 a (.frz o (.lst vs)) b=some u:=fun b u h hn _=>by rw [zH (fun z=>by subst z;rw [e2] at h;exact hn vs (Option.some.inj h).symm)];exact h
 have fl:∀ {ds:List D}{ws:List V},D.flat.flats ds=true->zB mg H1 Y1 ds ws->zB mg (upd H1 a (.frz o (.lst vs))) (Y1.take Y.length) ds ws:=fun f h=>h.flatten k f;have mem:∀ {j:Nat}{ys:List D},s1[j]? = some ys->D.flat.flats ys=true:=fun e=>stp.rep.flat _ (List.mem_of_getElem? e);refine ⟨⟨⟨by simp [stp.rep.len],stp.rep.nd.sublist (List.take_sublist _ _),fun j ys h=>?_,fun ys h=>stp.rep.flat ys (List.mem_of_mem_take h)⟩,?_,fun b u h n=>?_,fun c h1 h2=>stp.new c (List.mem_of_mem_take h1) h2,fun b hb=>?_⟩,?_⟩
 ·have hj:j<Y.length:=by
   have:=(List.getElem?_eq_some_iff.mp h).1;simp at this;omega
  rw [List.getElem?_take_of_lt hj] at h ⊢;obtain ⟨c,q1,q2⟩:=stp.rep.cell j ys h;refine ⟨c,q1,q2.flatten k (mem h) (zH fun z=>?_)⟩;subst z;have:=(List.getElem_inj stp.rep.nd).mp (((List.getElem?_eq_some_iff.mp q1).2).trans ((List.getElem?_eq_some_iff.mp e1).2).symm);omega
 ·obtain ⟨t,ht⟩:=stp.pre;exact ⟨[],by rw [<- ht,List.take_append];simp⟩
 ·rw [zH (fun z=>by subst z;rw [a0] at h;cases h)];exact stp.keep b u h n
 ·have ne:b≠a:=fun z=>an (z ▸ hb);rcases stp.mt b hb with ⟨q1,q2⟩ | ⟨q1,q2⟩;·exact .inl ⟨q1,by rw [IsL,zH ne];exact q2⟩
  ·exact .inr ⟨q1,by rw [IsC,zH ne];exact q2⟩
 ·simp only [Den];exact ⟨a,o,vs,rfl,yr,fl (mem hx) e3⟩
def zgu(n:Nat):R D->R D
 | .ok (.loc l) s1=>match s1[l]? with
  | some xs=>if n<=l then .ok (.lst xs) (s1.take n) else .no | none=>.no
 | .ok _ _=>.no | .ex c s1=>.ex c s1 | .no=>.no
def z2M(f:FE):FE:=fun Z s=>zgu s.length (f Z s)
section
variable {X:Cx}{E:XK}{e:Expr}
theorem zaj{f:FE}(h:RE X E e f):RE X E e (z2M f):= yz (PE.freeze h) fun O H Q ⟨Y,Z,s,r,en,h⟩=>by
  refine ⟨Y,Z,s,r,en,?_⟩;unfold z2M zgu at h;split at h
  ·rename_i l s1 e1;rw [e1];split at h
   ·rename_i xs ex;split at h
    ·rename_i hl;intro v H1 Y1 stp dn;simp only [Den] at dn;obtain ⟨a,rfl,q1,ka⟩:=dn;obtain ⟨vs,q2,q3⟩:=stp.frzC (by rw [r.len];exact hl) ex q1 ka;rw [<- r.len] at h;exact ⟨a,vs,rfl,q2,fun o=>h _ _ _ (q3 o).1 (q3 o).2⟩
    ·exact h.elim
   ·exact h.elim
  ·exact h.elim
  ·rename_i e1;rw [e1];exact h
  ·exact h.elim
end
@[simp] theorem z78 (f:FE)(Z:Ev)(s:Sto):z2M f Z s=zgu s.length (f Z s):=id rfl
@[simp] theorem z4C {s:Sto}{xs:List D}:zgu s.length (.ok (.loc s.length) (s++[xs]))=.ok (.lst xs) s:=by simp [zgu]
def z8k(n:Nat):R D->R D
 | .ok (.loc l) s1=>if l<n then .ok (.loc l) (s1.take n) else .ok (.loc l) s1 | .ok d s1=>if d.flat=true then .ok d (s1.take n) else .ok d s1 | r=>r
def z4E(M:Mir):Mir:=fun ds s=>z8k s.length (M ds s)
theorem zey{mg:Gm}{M:Mir}{vs:List V}{H:Hp}{Q:VK}{E:XK}(h:zdy mg (z4E M) vs H Q E):zdy mg M vs H Q E:=by
 obtain ⟨Y,s,ds,r,dn,h⟩:=h;refine ⟨Y,s,ds,r,dn,?_⟩;unfold z4E z8k at h;split at h
 ·rename_i l s1 e;rw [e];split at h
  ·rename_i hl;intro v H1 Y1 stp dv;rw [<- r.len] at h;refine h v H1 _ stp.cut ?_;simp only [Den] at dv ⊢;obtain ⟨a,rfl,e1,ka⟩:=dv;exact ⟨a,rfl,by rw [List.getElem?_take_of_lt (by rw [r.len];exact hl)];exact e1,ka⟩
  ·exact h
 ·rename_i d s1 hn e;rw [e];split at h
  ·rename_i hf;intro v H1 Y1 stp dv;rw [<- r.len] at h;exact h v H1 _ stp.cut (dv.flatten (fun _ _ h _ _=>h) hf)
  ·exact h
 ·exact h
section
variable {P:Program}{w:World}{K:W.Frag}{mg:Str->Option Value}{base:Heap}
theorem Has.tidy{CX:CXT}{x:Str}{n:Nat}{M:Mir}(h:Has P w K mg base CX x n M):Has P w K mg base CX x n (z4E M):=by
 obtain ⟨f,fd,ps,F,r⟩:=h;exact ⟨f,fd,ps,F.imp fun vs H Q E h=>zey h,r⟩
end
@[simp] theorem z3S (M:Mir)(ds:List D)(s:Sto):z4E M ds s=z8k s.length (M ds s):=id rfl
@[simp] theorem z0b {d:D}{n:Nat}{s1:Sto}(h:d.flat=true):z8k n (.ok d s1)=.ok d (s1.take n):=by cases d<;>first | (simp [D.flat] at h;done) | simp_all [z8k]
section
variable {X:Cx}{E:XK}{e a b c:Expr}{es:List Expr}{pos:Pos}{CX:CXT}
theorem zeP{x:Str}{p:Pos}{n:Nat}{M:Mir}(F:Has X.prog X.w X.K X.mg X.base CX x n M)(hr:z1a n X.A)(hx:Passes CX X E)(hg:Gl X x)(hdb:(x==("__debug__":Str))=false:=by decide):RE X E (.Call (.Name x p) [] [] pos) (zd M zh):=by
 obtain ⟨fa,fd,ps,F,hb,hk,hm⟩:=F;refine yz (zbh F hr hg hm hk hb .nil hx hdb) fun O H Q ⟨Y,Z,s,r,en,h⟩=>?_;exact ⟨Y,s,[],r,zB.nil,h⟩
end
section
variable {P:Program}{w:World}{K:W.Frag}{mg:Str->Option Value}{base:Heap}{CX:CXT}{n:Nat}
def zaH:List DictEntry->List (Str×Value)
 | []=>[] | e::es=>match e.key with
  | .str k _=>(k,e.val)::zaH es | _=>zaH es
theorem z0l {P:Program} {w:World} {k:Str}:∀ {es:List DictEntry},findBy (yd P w).is es.toArray (.inr k)=(zaH es).lookup k
 | []=>by simp [findBy,zaH] | e::es=>by
  have ih:=z0l (P:=P) (w:=w) (k:=k) (es:=es);simp only [findBy,List.find?_toArray] at ih ⊢;rw [List.find?_cons];cases hk:e.key with
  | str y t=>
   simp only [zaH,hk,List.lookup_cons];by_cases z:k=y
   ·subst z;simp [z1u]
   ·have:(yd P w).is (.inr k) (.str y t)=false:=by
     rw [z3h];cases q:z46 (.inr k) (.str y t) with
     | false=>rfl | true=>
      rcases yB q with ⟨i,u,h1,h2⟩ | ⟨x,u,h1,h2⟩;·cases h2
      ·cases h1;cases h2;exact absurd rfl z
    rw [this,show (k==y)=false from by simpa using z];exact ih | _=>
   have:(yd P w).is (.inr k) e.key=false:=by
    rw [z3h];cases q:z46 (.inr k) e.key with
    | false=>rfl | true=>
     rcases yB q with ⟨i,u,h1,h2⟩ | ⟨x,u,h1,h2⟩;·cases h1
     ·rw [hk] at h2;cases h2
   rw [hk] at this;simp only [zaH,hk,this];exact ih
theorem zbB:∀ y M,([]:List (Str×Mir)).lookup y=some M->Has P w K mg base CX y n M:=fun y M h=>by simp at h
theorem kC{x:Str}{M0:Mir}{Ms:List (Str×Mir)}(h:Has P w K mg base CX x n M0)(hs:∀ y M,Ms.lookup y=some M->Has P w K mg base CX y n M):∀ y M,((x,M0)::Ms).lookup y=some M->Has P w K mg base CX y n M:=fun y M e=>by
 rw [List.lookup_cons] at e;split at e
 ·rename_i hb;cases e;have:y=x:=by simpa using hb
  subst this;exact h
 ·exact hs y M e
end
def Sub(K:W.Frag)(h:Heap):Prop:=∀ p∈K,h.get? p.1=some p.2
theorem Sub.in_{K:W.Frag}{h:Heap}(s:Sub K h):K.In h:=fun a o e=>by induction K with
 | nil=>simp at e | cons p K ih=>
  obtain ⟨b,u⟩:=p;rw [List.lookup_cons] at e;split at e
  ·rename_i hb;cases e;have:a=b:=by simpa using hb
   subst this;exact s (a,o) (by simp)
  ·exact ih (fun q hq=>s q (by simp [hq])) e
theorem z3N(h:Heap)(a:Addr):Sub (z6V h a) h:=fun p hp=>by
 unfold z6V at hp;split at hp
 ·rename_i o e;simp at hp;subst hp;exact e
 ·simp at hp
theorem Sub.app{K L:W.Frag}{h:Heap}(a:Sub K h)(b:Sub L h):Sub (K++L) h:=fun p hp=>(List.mem_append.mp hp).elim (a p) (b p)
theorem zdH(h:Heap)(ns:List Str):Sub (gat h ns) h:=by
 refine (z3N h _).app fun p hp=>?_;obtain ⟨x,_,hx⟩:=List.mem_flatMap.mp hp;unfold zjv at hx;split at hx
 ·rcases List.mem_append.mp hx with hx | hx;·exact z3N h _ p hx
  ·split at hx
   ·split at hx;·exact z3N h _ p hx
    ·simp at hx
   ·exact z3N h _ p hx
   ·simp at hx
 ·simp at hx
def zjz(K:W.Frag)(x:Str)(st:Stmt):Prop:=∃ f fd,W.nsIn K mainGlobals x=some (some (.ref f))/\Fun K x x st f fd
theorem dA(s:Stmt):dArgs s=z0a s:=by cases s<;>rfl
theorem dB(s:Stmt):zft s=qc s:=by cases s<;>rfl
theorem dS(s:Stmt):zd8 s=zg s:=by cases s<;>rfl
theorem zeb{K:W.Frag}{x:Str}{st:Stmt}(h:zeS K x=zje x st):zjz K x st:=by
 unfold zeS zje at h;rw [dA,dB,dS] at h;split at h
 ·rename_i f hf;split at h
  ·rename_i oc od fd sl hl;simp only [Option.some.injEq,Prod.mk.injEq] at h;obtain ⟨h1,h2,h3,h4,h5,h6,h7,h8,h9,h10,h11⟩:=h;obtain ⟨a1,a2,a3,a4,a5,a6,a7,a8,a9,a10,a11,a12,a13,a14,a15⟩:=fd;simp only at h1 h2 h3 h4 h5 h6 h7 h8 h9 h10;subst h1 h3 h4 h5 h6 h7 h8 h9;subst h2;exact ⟨f,_,hf,zfB hl h10 h11⟩
  ·cases h
 ·cases h
theorem zby{K:W.Frag}{x:Str}(h:zdp K x=true):W.nsIn K mainGlobals x=some none:=by
 unfold zdp at h;split at h;·rename_i e;exact e
 ·cases h
theorem zcn{K:W.Frag}{x:Str}{i:Int}(h:zej K x=some i):∃ t,W.nsIn K mainGlobals x=some (some (.int i t)):=by
 unfold zej at h;split at h;·rename_i j t e;cases h;exact ⟨t,e⟩
 ·cases h
theorem z87{P:Program}{w:World}{K:W.Frag}{h:Heap}{mg:Str->Option Value}(X:K.In h)(G:h.Ns mainGlobals mg):∀ {es:List DictEntry}{tb:List (Str×Str)},z8F K es (tb.map (·.2))=tb.map (fun p=>(PyData.keyHash w.params p.1,some p.1,true))-> PySem.KeysOf (yd P w) es.toArray/\(∀ k y,tb.lookup k=some y->∃ f,(zaH es).lookup k=some (.ref f)/\mg y=some (.ref f))/\∀ k,tb.lookup k=none->(zaH es).lookup k=none
 | [],[],_=>⟨fun e he=>by simp at he,fun k y h=>by simp at h,fun k _=>by simp [zaH]⟩ | [],_::_,h=>by simp [z8F] at h | _::_,[],h=>by simp [z8F] at h | e::es,(k0,y0)::tb,h=>by
  simp only [List.map_cons,z8F,List.cons.injEq,Prod.mk.injEq] at h;obtain ⟨⟨h1,h2,h3⟩,h4⟩:=h;obtain ⟨i1,i2,i3⟩:=z87 (P:=P) X G h4;obtain ⟨hh,kk,vv⟩:=e;simp only at h1 h2 h3;cases kk with
  | str ks t=>
   simp only [zaR,Option.some.injEq] at h2;subst h2;have hv:∃ f,vv=.ref f/\W.nsIn K mainGlobals y0=some (some (.ref f)):=by
    unfold sameRef at h3;split at h3
    ·rename_i f g e1;have:f=g:=by simpa using h3
     subst this;exact ⟨f,rfl,e1⟩
    ·cases h3
   obtain ⟨f,rfl,e1⟩:=hv;refine ⟨fun e he=>?_,fun k y hy=>?_,fun k hy=>?_⟩
   ·simp only [List.mem_toArray,List.mem_cons] at he;rcases he with rfl | he;·exact ⟨.inr ks,z1B ks t,h1⟩
    ·exact i1 e (by simpa using he)
   ·simp only [zaH,List.lookup_cons] at hy ⊢;by_cases z:k=ks
    ·subst z;simp at hy ⊢;subst hy;exact W.mg_of X G e1
    ·rw [show (k==ks)=false from by simpa using z] at hy ⊢;exact i2 k y hy
   ·simp only [zaH,List.lookup_cons] at hy ⊢;by_cases z:k=ks;·subst z;simp at hy
    ·rw [show (k==ks)=false from by simpa using z] at hy ⊢;exact i3 k hy | _=>simp [zaR] at h2
theorem zf2{P:Program}{w:World}{K:W.Frag}{h:Heap}{mg:Str->Option Value}{x:Str}{tb:List (Str×Str)}(X:K.In h)(G:h.Ns mainGlobals mg)(e:zdm K x (tb.map (·.2))=zj1 w tb):zdO P w K mg x tb:=by
 unfold zdm zj1 at e;split at e
 ·rename_i a ha;split at e
  ·rename_i c d es ep sl hl;simp only [Option.some.injEq,Prod.mk.injEq] at e;obtain ⟨e1,e2,e3,e4,e5⟩:=e;obtain ⟨i1,i2,i3⟩:=z87 (P:=P) X G e5;have hc:c=.type "dict":=by
    unfold z5z at e1;split at e1
    ·rename_i n;have:n="dict":=by simpa using e1
     rw [this]
    ·cases e1
   have hd:d=none:=by simpa using e2
   have hs:sl=#[]:=by
    have:sl.size=0:=by simpa using e3
    exact Array.eq_empty_of_size_eq_zero this
   have ea:es.toList.toArray=es:=by simp
   rw [ea] at i1;refine ⟨a,_,es,ep,W.mg_of X G ha,e4,hl,⟨hc,hd,hs⟩,rfl,i1,fun k y hy=>?_,fun k hy=>?_⟩;·rw [<- ea,z0l];exact i2 k y hy
   ·rw [<- ea,z0l];exact i3 k hy
  ·cases e
 ·cases e
def saysS(q:Ask)(w:World)(h:Heap):Prop:=∃ K:W.Frag,K.In h/\zbb q K=valS q w
theorem zdA(q:Ask)(w:World)(s:Shared)(e:obsS q s=valS q w):saysS q w s.heap:=⟨_,(zdH _ _).in_,e⟩
theorem z8H(q:Ask)(w:World)(h h':Heap)(x:saysS q w h)(k:∀ b o,h.get? b=some o->h'.get? b=some o):saysS q w h':=let ⟨K,a,b⟩:=x;⟨K,a.keeps k,b⟩
theorem z8a{α β:Type}{f g:α->β}:∀ {l:List α},l.map f=l.map g->∀ x∈l,f x=g x:=fun h x hx=>List.map_inj_left.mp h x hx
theorem ziO{q:Ask}{w:World}{K:W.Frag}(e:zbb q K=valS q w)(x:Str)(st:Stmt)(hx:(x,st)∈q.fs):zjz K x st:=zeb (z8a (congrArg Prod.fst e) (x,st) hx)
theorem zhV{q:Ask}{w:World}{K:W.Frag}(e:zbb q K=valS q w)(x:Str)(hx:x∈q.bs):W.nsIn K mainGlobals x=some none:=zby (z8a (congrArg (fun z=>z.2.1) e) x hx)
theorem ziN{q:Ask}{w:World}{K:W.Frag}(e:zbb q K=valS q w)(x:Str)(i:Int)(hx:(x,i)∈q.cs):∃ t,W.nsIn K mainGlobals x=some (some (.int i t)):=zcn (z8a (congrArg (fun z=>z.2.2.1) e) (x,i) hx)
theorem zhU{P:Program}{q:Ask}{w:World}{K:W.Frag}{h:Heap}{mg:Str->Option Value}(X:K.In h)(G:h.Ns mainGlobals mg)(e:zbb q K=valS q w)(x:Str)(tb:List (Str×Str))(hx:(x,tb)∈q.ts):zdO P w K mg x tb:=zf2 X G (z8a (congrArg (fun z=>z.2.2.2.1) e) (x,tb) hx)
theorem zap{p q:Program}{loose:List Str}{Xt:Shared->Bool}{α:Type}{Yf:Shared->α}{Ya:World->α}{N:Nat}{g0:Bool}(row:String) (bo:∀ w:World,(W.fencedOpening treeTable p w N).map (fun s=>(s.heap,s.gens,s.drawn,s.toks))=some (W.boot_heap w.params,Array.mk [],W.boot_drawn,W.boot_toks)) (hf:∀ (w:World)(os:OsState),(W.topFrom treeTable p (w.withFollow row false) N ⟨W.boot_heap w.params,Array.mk [],W.boot_drawn,W.boot_toks,os⟩).map (fun s=>(W.openSeen q loose (importedModules p.main.body) Xt g0 s,Yf s))=some (W.openGood q loose,Ya (w.withFollow row false))) (ht:∀ (w:World)(os:OsState),(W.topFrom treeTable p (w.withFollow row true) N ⟨W.boot_heap w.params,Array.mk [],W.boot_drawn,W.boot_toks,os⟩).map (fun s=>(W.openSeen q loose (importedModules p.main.body) Xt g0 s,Yf s))=some (W.openGood q loose,Ya (w.withFollow row true))):W.LeftO p q loose Xt Yf Ya N g0:= W.LeftO.of_split row fun w=>by
  obtain ⟨⟨h,gs,d,k,os⟩,e,e'⟩:=Option.map_eq_some_iff.mp (bo w);obtain ⟨rfl,rfl,rfl,rfl⟩:h=W.boot_heap w.params/\gs=Array.mk []/\d=W.boot_drawn/\k=W.boot_toks:=by simpa only [Prod.mk.injEq] using e'
  rw [e,Option.map_some,hf w os,ht w os]
theorem z5F{tb:String->Option Builtin}{p:Program}{w:World}{n₀:Nat}{ann:Option Value}:∀ {n:Nat}{s s':W.SharedT}{t:Thread},z2p tb p w n₀ ann n s t=some s'->W.topRun tb p w n₀ ann n s.abs t=some s'.abs
 | 0,_,_,_,h=>by cases h | n+1,s,s',t,h=>by
  unfold z2p at h;unfold W.topRun;cases he:W.through t with
  | true=>rw [he] at h;cases h;rfl | false=>
   rw [he] at h;cases hk:W.stepOk n₀ ann t with
   | false=>rw [hk] at h;cases h | true=>
    rw [hk] at h;cases hs:W.stepT (denote tb) p w s t with
    | none=>rw [hs] at h;cases h | some r=>obtain ⟨s₂,t₂⟩:=r;rw [hs] at h;rw [W.stepT_spec hs];exact z5F h
theorem z32{p:Program}{w:World}{N:Nat}{h:Heap}{d:Drawn}{k:Nat}{os:OsState}{t0:W.BT}{m₀:Nat}{ann:Option Value}(ha:W.absHeap t0 m₀ h.life=h) (sz:(h.isNs mainGlobals&&(Array.mk []:Array GenState).size==0,h.objs.size,h.nsMap mainGlobals "__annotations__")=(true,m₀,ann)){α:Type}{f:Shared->α}{v:α} (hr:(z2p treeTable p w m₀ ann N ⟨t0,m₀,h.life,Array.mk [],d,k,os⟩ (W.topStub p)).map (fun sT=>(W.staticsOk (importedModules p.main.body) h sT.abs.heap&&W.namesBound p sT.abs.heap&&W.gensDone sT.abs&&W.laidKept h sT.abs.heap,f sT.abs))=some (true,v)): (W.topFrom treeTable p w N ⟨h,Array.mk [],d,k,os⟩).map f=some v:=by
 obtain ⟨sT,e1,e2⟩:=Option.map_eq_some_iff.mp hr;obtain ⟨e3,e4⟩:=Prod.mk.inj e2;obtain ⟨z1,z2,z3⟩:_/\_/\_:=by simpa only [Prod.mk.injEq] using sz
 have r:=z5F e1;have a0:(⟨t0,m₀,h.life,Array.mk [],d,k,os⟩:W.SharedT).abs=⟨h,Array.mk [],d,k,os⟩:=by
  show (⟨W.absHeap t0 m₀ h.life,Array.mk [],d,k,os⟩:Shared)=_;rw [ha]
 rw [a0] at r;have t:W.topFrom treeTable p w N ⟨h,Array.mk [],d,k,os⟩=some sT.abs:=by
  unfold W.topFrom;dsimp only;rw [z1,z2,z3];dsimp only;rw [r];show (match (W.staticsOk (importedModules p.main.body) h sT.abs.heap&&W.namesBound p sT.abs.heap&&W.gensDone sT.abs&&W.laidKept h sT.abs.heap) with | true=>some sT.abs | false=>none)=_;rw [e3]
 rw [t,Option.map_some,e4]
theorem z56{α β γ δ:Type}{r:Option α}{f:α->β}{g:α->γ}{k:α->δ}{x:β}{y:γ}{z:δ}(h1:r.map (fun s=>(f s,k s))=some (x,z))(h2:r.map g=some y):r.map (fun s=>(f s,(g s,k s)))=some (x,(y,z)):=by
 obtain ⟨s,e1,e2⟩:=Option.map_eq_some_iff.mp h1;obtain ⟨s',e3,e4⟩:=Option.map_eq_some_iff.mp h2;rw [e1] at e3;cases e3;obtain ⟨e5,e6⟩:=Prod.mk.inj e2;rw [e1,Option.map_some,e4,e5,e6]
theorem walkY{l:W.OpenLaw}{n k:Nat}{q:Program}{loose:List Str}{XP:(Str->Option Value)->Heap->Prop}{YP:World->Heap->Prop}{d:DefRec}{x:Str} (hn:l.most=some n)(hn2:n<=sizeLine)(hn3:n<=63)(hdf:d.params.defaults=[])(hr:z1a k callerA) (F:∀ (w:World)(mg:Str->Option Value)(fa:Addr)(h:Heap),YP w h->h.Ns mainGlobals mg->mg d.name=some (.ref fa)->XP mg h-> ∃ K:W.Frag,K.In h/\∃ fd:FuncData,(∀ (s:Shared)(u:Value),BindsTo s fd ⟨[u],[]⟩ [(x,u)])/\ ∀ base:Heap,K.In base->base.Ns mainGlobals mg->z33 l.prog w K mg base CX0 k fa fd [x] (zdW K)): W.WalkO q loose XP YP l.row.toRowW d [] (fun f vs=>PySem.call f vs):=by
 refine Att.z27 hn hdf fun w s₀ s₁ mg mb fa o pm cd doc a vs ns G Yy ho hd hcd hmg hobj hints hlen hg=>?_;obtain ⟨K,KX,fd,hb,hF⟩:=F w mg fa _ Yy G.T.g hmg G.X;exact z7L KX G.T.g G.T.b G.T.builtins G.T.nolimit hg hobj hints (Nat.le_trans hlen hn2) hr hF hb (fun H hO hS=>⟨a,ns,rfl,hO,hS,Nat.le_trans hlen hn3,fun _=>rfl⟩) fun H e s' z=>z
end Dd
namespace HT
open PySem.Spec
end HT
namespace L2
open PySem.Spec
end L2
namespace Dd
open PySem.Spec L2
section
variable {X:Cx}{E:XK}{e:Expr}{pos p2 p3 p4:Pos}
def zk5(f:FE):FE:=fun Z s=>(f Z s).bind fun d s1=>match d with
 | .tup xs=>.ok (.tup xs.reverse) s1 | _=>.no
@[simp] theorem zjH (f:FE)(Z:Ev)(s:Sto):zk5 f Z s=(f Z s).bind fun d s1=>match d with
 | .tup xs=>.ok (.tup xs.reverse) s1 | _=>.no:=id rfl
end
section
variable {X:Cx}{E:XK}{e:Expr}{pos:Pos}
def zkE(i j k:Nat):FG:=fun d Z s=>match d with
 | .tup [x,y,z]=>.ok (((Z.set i (some x)).set j (some y)).set k (some z)) s | _=>.no
@[simp] theorem zjw (i j k:Nat)(x y z:D)(Z:Ev)(s:Sto):zkE i j k (.tup [x,y,z]) Z s=.ok (((Z.set i (some x)).set j (some y)).set k (some z)) s:=id rfl
end
section
variable {X:Cx}{E:XK}{e a b c:Expr}{es:List Expr}{pos:Pos}
def zfc:D->D->Sto->R D:=dII fun i j=>if 0<=j/\j<=100/\i.natAbs<BIG then iOk (.int (i ^ j.toNat)) else .no
def z9f(x y:D)(s:Sto):R D:=(dIs x y s).bind fun d s1=>match d with | .bl k=>.ok (.bl (!k)) s1 | _=>.no
variable {z0T:List Expr}
def zjV(fa fb:FE):FE:=fun Z s=>(fa Z s).bind fun x s1=>match x with | .int i=>if i=0 then fb Z s1 else .ok (.int i) s1 | .non=>fb Z s1 | _=>.no
@[simp] theorem zjn (fa fb:FE)(Z:Ev)(s:Sto):zjV fa fb Z s=(fa Z s).bind fun x s1=>match x with | .int i=>if i=0 then fb Z s1 else .ok (.int i) s1 | .non=>fb Z s1 | _=>.no:=id rfl
@[simp] theorem zhB (x:Int)(s:Sto):z9f (.int x) .non s=.ok (.bl true) s:=id rfl
@[simp] theorem zgh (s:Sto):z9f .non .non s=.ok (.bl false) s:=id rfl
@[simp] theorem zgJ (a b:Bool)(s:Sto):z9f (.bl a) (.bl b) s=.ok (.bl (!(a==b))) s:=id rfl
end
section
variable {X:Cx}{E:XK}{e o a b c:Expr}{es:List Expr}{pos:Pos}
def zjQ:D->D->Sto->R D
 | x,.int k,s=>match listOf s x with
  | some xs=>if xs.length*k.toNat<=cap/\-(2 ^ 62)<=k/\k<2 ^ 62/\D.flat.flats (List.replicate k.toNat xs).flatten=true then .ok (.loc s.length) (s++[(List.replicate k.toNat xs).flatten]) else .no | none=>.no
 | _,_,_=>.no
def zfV(fo fv:FE):FE:=fun Z s=>(fo Z s).bind fun o s1=>match o with
 | .loc l=>(fv Z s1).bind fun d s2=>match s2[l]?,d with
  | some xs,.int i=>if 0<=i/\i<2 ^ 62 then (match xs[i.toNat]? with | some y=>.ok y (s2.set l (xs.eraseIdx i.toNat)) | none=>.no) else .no | _,_=>.no
 | _=>.no
@[simp] theorem zhv (fo fv:FE)(Z:Ev)(s:Sto):zfV fo fv Z s=(fo Z s).bind fun o s1=>match o with
 | .loc l=>(fv Z s1).bind fun d s2=>match s2[l]?,d with
  | some xs,.int i=>if 0<=i/\i<2 ^ 62 then (match xs[i.toNat]? with | some y=>.ok y (s2.set l (xs.eraseIdx i.toNat)) | none=>.no) else .no | _,_=>.no
 | _=>.no:=id rfl
def see(s:Sto):D->D
 | .loc l=>match s[l]? with | some xs=>.lst xs | none=>.loc l
 | d=>d
def zda(neg:Bool)(x y:D)(s:Sto):R D:=if z7X (see s x)=true/\z7X (see s y)=true then .ok (.bl (if neg then !eqD (see s x) (see s y) else eqD (see s x) (see s y))) s else .no
theorem Den.readsS{P:Program}{w:World}{mg:Gm}{H:Hp}{Y:List Addr}{h:Heap}{s:Sto}(ok:HOk P w H h)(rp:Rep mg H Y s){d:D}{v:V}{u:Value}(c:PyData.canLay0 (uR (see s d))=true)(dn:Den mg H Y d v)(r:xx v u):∃ as,Reads h u (uR (see s d)) as:=by
 by_cases hl:∃ l xs,d=.loc l/\s[l]? = some xs
 ·obtain ⟨l,xs,rfl,hx⟩:=hl;have e0:see s (.loc l)=.lst xs:=by simp [see,hx]
  rw [e0] at c ⊢;simp only [Den] at dn;obtain ⟨a,rfl,e1,ka⟩:=dn;cases r;obtain ⟨vs,q1,q2⟩:=rp.at_ hx e1 ka;obtain ⟨_,its,n,rv,e⟩:=ok a _ q1;obtain ⟨as,q⟩:=zB.reads ok (by simpa [uR,PyData.canLay0] using c) q2 rv;rw [uR];exact ⟨_,Reads.list e rfl rfl (by simpa using q)⟩
 ·have e0:see s d=d:=by cases d with
   | loc l=>
    simp only [see];split;·rename_i xs hx;exact absurd ⟨l,xs,rfl,hx⟩ hl
    ·rfl | _=>rfl
  rw [e0] at c ⊢;exact Den.reads ok c dn r
def zjj(mg:Gm)(neg:Bool):R2:=fun x y H Q=>∃ Y s d1 d2,Rep mg H Y s/\Den mg H Y d1 x/\Den mg H Y d2 y/\z7X (see s d1)=true/\z7X (see s d2)=true/\Q (.bl (if neg then !eqD (see s d1) (see s d2) else eqD (see s d1) (see s d2))) H
theorem zfA(hu:X.A.units+64<cLine):OpR X (compareOp .Eq) (zjj (gm X) false):=by
 intro pins s O H x y v u Q I rx ry ⟨Y,st,d1,d2,rp,h1,h2,p1,p2,q⟩;obtain ⟨as,ra⟩:=Den.readsS I.hok rp (SeqAt.canLay_of_shaped p1) h1 rx;obtain ⟨bs,rb⟩:=Den.readsS I.hok rp (SeqAt.canLay_of_shaped p2) h2 ry;exact SeqAt.compareEq_shaped ra rb p1 p2 hu ⟨.bl (eqD (see st d1) (see st d2)),H,I,rfl,q⟩
theorem zdq{neg:Bool}:OpF X E (zjj (gm X) neg) (zda neg):=fun H Y s d1 d2 v1 v2 Q r h1 h2 h=>by
 unfold zda at h;split at h
 ·rename_i hc;exact ⟨Y,s,d1,d2,r,h1,h2,hc.1,hc.2,h.here r xQ⟩
 ·exact h.elim
theorem zh4(hu:X.A.units+64<cLine):∃ r,OpR X (compareOp .Eq) r/\OpF X E r (zda false):=⟨_,zfA hu,zdq⟩
end
section
variable {X:Cx}{E:XK}{pos:Pos}
def zhn(c:Str):FS:=fun _ s=>.ex c s
end
section
variable {P:Program}{w:World}{K:W.Frag}{mg:Str->Option Value}{base:Heap}
def zk0(M:Mir):Mir:=fun ds s=>match M ds s with | .ex _ _=>.no | r=>r
end
def zhY(f:FS):FS:=fun Z s=>match f Z s with | .ex _ _=>.no | r=>r
@[simp] theorem zio (f:FS)(Z:Ev)(s:Sto):zhY f Z s=(match f Z s with | .ex _ _=>.no | r=>r):=id rfl
@[simp] theorem zjO (M:Mir)(ds:List D)(s:Sto):zk0 M ds s=(match M ds s with | .ex _ _=>.no | r=>r):=id rfl
@[simp] theorem zhx (c:Str)(Z:Ev)(s:Sto):zhn c Z s=.ex c s:=id rfl
end Dd
namespace PySem
open PySem.Sem (wp)
end PySem
namespace Dd
open PySem.Spec L2
end Dd
namespace PySem
open PySem.Sem (wp)
open PySem.W
end PySem
namespace L2
open PySem.Spec
end L2
namespace Dd
open PySem.Spec L2
section
variable {X:Cx}{E:XK}{e a b c tg:Expr}{es:List Expr}{pos:Pos}{CX:CXT}
def zho(T U:String):D->Sto->R D:=fun d s=>match tyD d with | some t=>.ok (.bl (isT T t||isT U t)) s | none=>.no
def zhb(T U:String)(f:FE):FE:=fun Z s=>(f Z s).bind fun d s1=>zho T U d s1
end
end Dd
namespace L2
open PySem.Spec
open MeetsSeq MeetsSeq2 SeqAt
end L2
namespace Dd
open PySem.Spec L2
end Dd
namespace L2
open PySem.Spec
end L2
namespace Dd
open PySem.Spec L2
end Dd
namespace PySem
open PySem.AutoSeq1 (wpAny_loadPart')
open MeetsSeq MeetsSeq2 SeqAt
end PySem
namespace L2
open PySem.Spec
end L2
namespace Dd
open PySem.Spec L2
section
variable {X:Cx}{E:XK}
def zj0:D->D->Sto->R D
 | .tup xs,.int k,s=>if 1<=k/\xs≠[]/\xs.length*k.toNat<=cap then .ok (.tup (List.replicate k.toNat xs).flatten) s else .no | _,_,_=>.no
@[simp] theorem zjd (xs:List D)(k:Int)(s:Sto):zj0 (.tup xs) (.int k) s=if 1<=k/\xs≠[]/\xs.length*k.toNat<=cap then .ok (.tup (List.replicate k.toNat xs).flatten) s else .no:=id rfl
end
end Dd
namespace L2
open PySem.Spec
end L2
namespace Dd
open PySem.Spec L2
section
variable {K:W.Frag}{mg:Str->Option Value}(G:∀ (x:Str)(v:Value),W.nsIn K mainGlobals x=some (some v)->mg x=some v)
include G
end
end Dd
namespace PySem
end PySem
namespace L2
open PySem.Spec
end L2
namespace Dd
open PySem.Spec L2
open PySem.W
def lexLt(p q:Int×Int):Bool:=if p.1=q.1 then (if p.2=q.2 then false else decide (p.2<q.2)) else decide (p.1<q.1)
end Dd
namespace L2
open PySem.Spec
open PySem.Builtin.Str
end L2
namespace Dd
open PySem.Spec L2 PySem.Builtin.Str
end Dd
namespace Dd
open PySem.Spec L2
section
variable {X:Cx}{E:XK}{es:List Expr}{fa:FE}{fr:FA}
theorem aN{x:Str}{p:Pos}(ha:RE X E (.Name x p) fa)(hr:RA X E es fr):RA X E ((.Name x p)::es) (za fa fr):=kI ha hr (zp ..)
theorem aK{c:Const}{j:Nat}{p:Pos}(ha:RE X E (.Constant c j p) fa)(hr:RA X E es fr):RA X E ((.Constant c j p)::es) (za fa fr):=kI ha hr (z3l ..)
theorem aQ{g:Expr}{xs:List Expr}{ks:List Keyword}{p:Pos}(ha:RE X E (.Call g xs ks p) fa)(hr:RA X E es fr):RA X E ((.Call g xs ks p)::es) (za fa fr):=kI ha hr (uN ..)
theorem aT{xs:List Expr}{k:Nat}{p:Pos}(ha:RE X E (.Tuple xs k p) fa)(hr:RA X E es fr):RA X E ((.Tuple xs k p)::es) (za fa fr):=kI ha hr (zcs ..)
theorem aS{a b:Expr}{p:Pos}(ha:RE X E (.Subscript a b p) fa)(hr:RA X E es fr):RA X E ((.Subscript a b p)::es) (za fa fr):=kI ha hr (z4h ..)
theorem aB{a b:Expr}{o:Operator}{p:Pos}(ha:RE X E (.BinOp a o b p) fa)(hr:RA X E es fr):RA X E ((.BinOp a o b p)::es) (za fa fr):=kI ha hr (z7w ..)
theorem aL{xs:List Expr}{p:Pos}(ha:RE X E (.List xs p) fa)(hr:RA X E es fr):RA X E ((.List xs p)::es) (za fa fr):=kI ha hr (zbA ..)
theorem aO{a:Expr}{g:List Comprehension}{sc:Scope}{p:Pos}(ha:RE X E (.ListComp a g sc p) fa)(hr:RA X E es fr):RA X E ((.ListComp a g sc p)::es) (za fa fr):=kI ha hr (zI ..)
theorem aM{a:Expr}{o:List CmpOp}{b:List Expr}{p:Pos}(ha:RE X E (.Compare a o b p) fa)(hr:RA X E es fr):RA X E ((.Compare a o b p)::es) (za fa fr):=kI ha hr (z4x ..)
end
section
variable {q:Ask}{w:World}{K:W.Frag}{h:Heap}{mg:Str->Option Value}
theorem zK(X:K.In h)(G:h.Ns mainGlobals mg)(e:zbb q K=valS q w)(i:Nat){x:Str}{st:Stmt}(hx:q.fs[i]? = some (x,st)):∃ f fd,mg x=some (.ref f)/\Fun K x x st f fd:=let ⟨f,fd,a,F⟩:=ziO e x st (List.mem_of_getElem? hx);⟨f,fd,W.mg_of X G a,F⟩
theorem ui(X:K.In h)(G:h.Ns mainGlobals mg)(e:zbb q K=valS q w)(i:Nat){x:Str}(hx:q.bs[i]? = some x):mg x=none:=W.mg_none_of X G (zhV e x (List.mem_of_getElem? hx))
theorem zcv(X:K.In h)(G:h.Ns mainGlobals mg)(e:zbb q K=valS q w)(i:Nat){x:Str}{c:Int}(hx:q.cs[i]? = some (x,c)):∃ t,mg x=some (.int c t):=let ⟨t,z⟩:=ziN e x c (List.mem_of_getElem? hx);⟨t,W.mg_of X G z⟩
end
open PySem.W
end Dd
namespace Dd
open PySem.Spec L2
section
variable {X:Cx}{E:XK}{e:Expr}{pos pos':Pos}
def zjC(i:Nat)(f:FE):FS:=fun Z s=>match Z[i]? with
 | some (some (.int a))=>(f Z s).bind fun d s1=>match d with | .int b=>.ok (.nx (Z.set i (some (.int (a+b))))) s1 | _=>.no
 | _=>.no
@[simp] theorem zjy {i:Nat}{f:FE}{Z:Ev}{s:Sto}{a b:Int}{s1:Sto}(h:Z[i]? = some (some (.int a)))(hf:f Z s=.ok (.int b) s1):zjC i f Z s=.ok (.nx (Z.set i (some (.int (a+b))))) s1:=by simp only [zjC,h,hf,R.bind_ok]
end
open PySem.W
end Dd
namespace Dd
open PySem.Spec L2
section
variable {X:Cx}{E:XK}{tg:Expr}{p:Pos}{x:Str}{ks:List Str}
def zhL(ks:List Str):FI:=fun _ s=>.ok (ks.map D.str,[]) s
@[simp] theorem zj7 (ks:List Str)(Z:Ev)(s:Sto):zhL ks Z s=.ok (ks.map D.str,[]) s:=id rfl
end
end Dd
namespace L2
open PySem.Spec
end L2
namespace Dd
open PySem.Spec L2
section
variable {X:Cx}{E:XK}{e:Expr}{pos p2 p3 p4:Pos}
def zj4(f:FE):FE:=fun Z s=>(f Z s).bind fun d s1=>match listOf s1 d with
 | some xs=>.ok (.lst xs.reverse) s1 | none=>.no
@[simp] theorem zhT (f:FE)(Z:Ev)(s:Sto):zj4 f Z s=(f Z s).bind fun d s1=>match listOf s1 d with
 | some xs=>.ok (.lst xs.reverse) s1 | none=>.no:=id rfl
end
def z0n:List D->Option (List Key)
 | []=>some [] | .int i::r=>(z0n r).map (Sum.inl i::·) | .str x::r=>(z0n r).map (Sum.inr x::·) | _=>none
def vV:D->Option V
 | .int i=>some (.int i) | .bl b=>some (.bl b) | _=>none
def vD:V->D
 | .int i=>.int i | .bl b=>.bl b | _=>.non
def ug(kvs:List (List Key×V)):List D:=kvs.map fun p=>.tup [.tup (p.1.map z6i),vD p.2]
def z8L:List D->Option (List (List Key×V))
 | []=>some [] | .tup [.tup ks,.int i]::r=>(z0n ks).bind fun k=>(z8L r).map ((k,V.int i)::·) | .tup [.tup ks,.bl b]::r=>(z0n ks).bind fun k=>(z8L r).map ((k,V.bl b)::·) | _=>none
theorem z1c:∀ k:List Key,z0n (k.map z6i)=some k
 | []=>rfl | .inl i::k=>by simp [z6i,z0n,z1c k] | .inr x::k=>by simp [z6i,z0n,z1c k]
theorem z7d:∀ {ds:List D}{k:List Key},z0n ds=some k->ds=k.map z6i
 | [],k,e=>by simp [z0n] at e;subst e;rfl | .int i::r,k,e=>by
  simp only [z0n,Option.map_eq_some_iff] at e;obtain ⟨a,h1,rfl⟩:=e;rw [z7d h1];rfl | .str i::r,k,e=>by
  simp only [z0n,Option.map_eq_some_iff] at e;obtain ⟨a,h1,rfl⟩:=e;rw [z7d h1];rfl | .non::_,_,e=>by simp [z0n] at e | .bl _::_,_,e=>by simp [z0n] at e | .tup _::_,_,e=>by simp [z0n] at e | .lst _::_,_,e=>by simp [z0n] at e | .dct::_,_,e=>by simp [z0n] at e | .loc _::_,_,e=>by simp [z0n] at e | .dlo _::_,_,e=>by simp [z0n] at e | .fn _::_,_,e=>by simp [z0n] at e | .exc _::_,_,e=>by simp [z0n] at e | .scr _::_,_,e=>by simp [z0n] at e
theorem z4e{mg:Gm}{H:Hp}{Y:List Addr}:∀ {k:List Key}{vs:List V},zB mg H Y (k.map z6i) vs->vs=k.map kV
 | [],_,h=>by simpa [zB] using h | .inl i::k,vs,h=>by
  simp only [List.map_cons,zB] at h;obtain ⟨v,r,rfl,h1,h2⟩:=h;rw [yO h1,z4e h2];rfl | .inr i::k,vs,h=>by
  simp only [List.map_cons,zB] at h;obtain ⟨v,r,rfl,h1,h2⟩:=h;rw [z4r h1,z4e h2];rfl
theorem z4A{mg:Gm}{H:Hp}{Y:List Addr}:∀ (k:List Key),zB mg H Y (k.map z6i) (k.map kV)
 | []=>by simp [zB] | .inl i::k=>by simp only [List.map_cons];exact zB.cons (by simp [z6i,kV,Den]) (z4A k) | .inr i::k=>by simp only [List.map_cons];exact zB.cons (by simp [z6i,kV,Den]) (z4A k)
theorem z9c{v:V}{x:D}(h:zc7 v=some x):x=vD v:=by cases v<;>simp [zc7] at h<;>simp [vD,h]
theorem zgE{d:D}{u:V}(h:vV d=some u):zc7 u=some d/\vD u=d:=by cases d<;>simp [vV] at h<;>subst h<;>exact ⟨rfl,rfl⟩
theorem zfn{mg:Gm}{H:Hp}{Y:List Addr}{d:D}{u v:V}(h:vV d=some u)(dn:Den mg H Y d v):v=u:=by cases d with
 | int i=>simp [vV] at h;subst h;exact yO dn | bl b=>simp [vV] at h;subst h;exact qY dn | _=>simp [vV] at h
def zdU(kvs:List (List Key×V)):Prop:=∀ p∈kvs,(zc7 p.2).isSome=true
theorem z3y:∀ {xs:List D}{kvs:List (List Key×V)},zeE xs kvs->xs=ug kvs/\zdU kvs/\z8L xs=some kvs
 | [],kvs,h=>by simp only [zeE] at h;subst h;exact ⟨rfl,(fun p hp=>by simp at hp),rfl⟩ | d::ds,kvs,h=>by
  simp only [zeE] at h;obtain ⟨k,v,x,r,rfl,h1,rfl,h2⟩:=h;obtain ⟨i1,i2,i3⟩:=z3y h2;refine ⟨?_,fun p hp=>?_,?_⟩
  ·rw [z9c h1];show _::ds=ug ((k,v)::r);rw [ug,List.map_cons];congr 1
  ·rcases List.mem_cons.mp hp with rfl | hp;·rw [h1];rfl
   ·exact i2 p hp
  ·cases v with
   | int i=>simp only [zc7,Option.some.injEq] at h1;subst h1;simp [z8L,z1c,i3] | bl b=>simp only [zc7,Option.some.injEq] at h1;subst h1;simp [z8L,z1c,i3] | _=>simp [zc7] at h1
theorem z79:∀ {kvs:List (List Key×V)},zdU kvs->zeE (ug kvs) kvs
 | [],_=>rfl | (k,v)::r,h=>by
  obtain ⟨x,hx⟩:=Option.isSome_iff_exists.mp (h (k,v) (by simp));refine ⟨k,v,x,r,rfl,hx,?_,z79 fun p hp=>h p (by simp [hp])⟩;rw [z9c hx]
theorem dec_enc{kvs:List (List Key×V)}(h:zdU kvs):z8L (ug kvs)=some kvs:=(z3y (z79 h)).2.2
theorem z14:∀ k:List Key,D.flat.flats (k.map z6i)=true
 | []=>rfl | .inl i::k=>by simp [z6i,D.flat.flats,D.flat,z14 k] | .inr i::k=>by simp [z6i,D.flat.flats,D.flat,z14 k]
theorem z7V:∀ kvs:List (List Key×V),D.flat.flats (ug kvs)=true
 | []=>rfl | (k,v)::r=>by
  have:(vD v).flat=true:=by cases v<;>rfl
  simp only [ug,List.map_cons,D.flat.flats,D.flat,z14,this,Bool.and_true,Bool.true_and];exact z7V r
theorem zdU.put{kvs:List (List Key×V)}{k:List Key}{u:V}(h:zdU kvs)(hu:(zc7 u).isSome=true):zdU (z3n kvs k u):=by
 unfold z3n;split
 ·intro p hp;obtain ⟨q,hq,rfl⟩:=List.mem_map.mp hp;split;·exact hu
  ·exact h q hq
 ·intro p hp;rcases List.mem_append.mp hp with hp | hp;·exact h p hp
  ·simp only [List.mem_cons,List.not_mem_nil,or_false] at hp;subst hp;exact hu
section
variable {X:Cx}{E:XK}{o i e value:Expr}{pos pos':Pos}
def zfk:FE:=fun _ s=>.ok (.dlo s.length) (s++[[]])
theorem zhl:RE X E (.Dict [] [] pos) zfk:=yz zbs fun O H Q ⟨Y,Z,s,r,en,h⟩ p hp=>by
 refine h _ _ _ (wG.layC r hp (o:=.dT []) (.inr ⟨[],yr,rfl⟩) rfl) ?_;simp only [Den];exact ⟨p,rfl,by rw [<- r.len];simp,[],yr⟩
def zaw(fo fk fv:FE):FS:=fun Z s=>(fv Z s).bind fun v s1=>(fo Z s1).bind fun o s2=>(fk Z s2).bind fun k s3=>match o,k,vV v with
 | .dlo l,.tup ks,some u=>match (s3[l]?).bind z8L,z0n ks with
  | some kvs,some key=>if kvs.length<cap then .ok (.nx Z) (s3.set l (ug (z3n kvs key u))) else .no | _,_=>.no
 | _,_,_=>.no
theorem zfq {fo fk fv:FE} (hu:X.A.units+64<cLine) (hv:RE X E value fv) (ho:RE X E o fo) (hi:RE X E i fk) (hs:swapsWith value (some (.Subscript o i pos')) pos.line X.env=pure false:=by rfl): RS X E (.Assign [.Subscript o i pos'] value pos) (zaw fo fk fv):= uV (zew (by omega) ho hi hv hs) fun D O H ⟨Y,Z,s,r,en,h⟩=>by
  unfold zaw at h;refine xb (k:=fun Z v s1=>(fo Z s1).bind fun o s2=>(fk Z s2).bind fun k s3=>match o,k,vV v with
   | .dlo l,.tup ks,some u=>match (s3[l]?).bind z8L,z0n ks with
    | some kvs,some key=>if kvs.length<cap then R.ok (Fl.nx Z) (s3.set l (ug (z3n kvs key u))) else .no | _,_=>.no
   | _,_,_=>.no) r en h _ fun v H1 Y1 s1 d r1 en1 dn stp h1=>?_;refine xb (k:=fun Z o s2=>(fk Z s2).bind fun k s3=>match o,k,vV d with
   | .dlo l,.tup ks,some u=>match (s3[l]?).bind z8L,z0n ks with
    | some kvs,some key=>if kvs.length<cap then R.ok (Fl.nx Z) (s3.set l (ug (z3n kvs key u))) else .no | _,_=>.no
   | _,_,_=>.no) r1 en1 h1 _ fun v2 H2 Y2 s2 od r2 en2 dn2 stp2 h2=>?_;refine xb (k:=fun Z k s3=>match od,k,vV d with
   | .dlo l,.tup ks,some u=>match (s3[l]?).bind z8L,z0n ks with
    | some kvs,some key=>if kvs.length<cap then R.ok (Fl.nx Z) (s3.set l (ug (z3n kvs key u))) else .no | _,_=>.no
   | _,_,_=>.no) r2 en2 h2 _ fun v3 H3 Y3 s3 kd r3 en3 dn3 stp3 h3=>?_;split at h3
  ·rename_i l ks u eu;split at h3
   ·rename_i kvs key ek edk;split at h3
    ·rename_i hl;have dv:=(dn.mono stp2).mono stp3;obtain rfl:u=v:=(zfn eu dv).symm;have dov:=dn2.mono stp3;simp only [Den] at dov;obtain ⟨a,rfl,e1,ka⟩:=dov;obtain ⟨xs,ex,edc⟩:=Option.bind_eq_some_iff.mp ek;obtain ⟨kvs',q1,q2⟩:=r3.dic ex e1 ka;obtain ⟨z1,z2,z3⟩:=z3y q2;rw [z3] at edc;cases edc;rw [z7d edk] at dn3;simp only [Den] at dn3;obtain ⟨b,vs,rfl,hb,hd⟩:=dn3;rw [z4e hd] at hb;have ap:=z2.put (k:=key) (u:=u) (by rw [(zgE eu).1];rfl);have stp4:=wG.putC (l:=l) (o:=.dT (z3n kvs key u)) r3 e1 (.putC ka) (.inr ⟨_,yr,z79 ap⟩) (z7V _);exact ⟨a,_,rfl,zgU.t q1 hb (Nat.lt_of_lt_of_le hl (by decide)),h3 (.nx O) _ _ stp4 (en3.mono stp4)⟩
    ·exact h3.elim
   ·exact h3.elim
  ·exact h3.elim
end
theorem zcr {prog:Program} {w:World} {A:Around} {E:Value->Shared->Prop} {s:Shared} {it d:Addr} {i ep:Nat} {o:Obj} {es:Array DictEntry} {e:DictEntry} {Q:Option Value->Shared->Prop} (hit:s.heap.IsKeyIter it d i es.size ep) (hod:s.heap.get? d=some o) (hdd:o.data=.dict es ep) (he:es[i]? = some e) (hQ:∀ h':Heap,h'.IsKeyIter it d (i+1) es.size ep->Heap.SameBut it s.heap h'->Q (some e.key) {s with heap:=h'}):wpAny (model prog w) A (pyNext (.ref it)) Q E s:=by
 obtain ⟨oi,ho,hc,hd⟩:=id hit;refine wpAny_bind (wpAny_attempt (wpAny_callSpecial?_slot hit.typeIs F.slot_dict_keyiterator_next (wpAny_call_entry F.slot_dict_keyiterator_next hit.typeIs F.entry_dict_keyiterator_next ?_ (F.args_dict_keyiterator_next_1 _))));refine wpAny_bind (wpAny_pure (wpAny_bind (wpAny_bind (wpAny_bind (wpAny_typeNameOfWhole_keyiter hit.typeIs (wpAny_pure (wpAny_bind (wpAny_fieldsOf ho hd ?_))))))));have hown:Builtin.Dict_items.ownsTuple "dict_keyiterator"=false:=by decide +kernel
 rw [hown];simp only [Bool.false_eq_true,if_false,List.drop_zero];show wpAny _ _ (if (Value.ref d==Value.none)=true then _ else _) _ _ _;rw [if_neg (by simp)];refine wpAny_bind (wpAny_pure (wpAny_bind (wpAny_dictEntries hod hdd ?_)));rw [if_neg (by simp)];refine wpAny_bind (wpAny_pure (wpAny_bind (wpAny_dictEpoch hod hdd ?_)));rw [if_neg (by simp)];refine wpAny_pure ?_;have hi:(if (i:Int)<0 then none else es[(i:Int).toNat]?)=some e:=by rw [if_neg (by omega)];simpa using he
 show wpAny _ _ (match (if (i:Int)<0 then none else es[(i:Int).toNat]?) with | some e=>_ | none=>_) _ _ _;rw [hi];refine wpAny_bind (wpAny_bind (wpAny_typeNameOfWhole_keyiter hit.typeIs (wpAny_pure ?_)));rw [hown];refine wpAny_bind (wpAny_isOneOf_keyiter hit.typeIs ?_);refine wpAny_bind (wpAny_setField ho hd (show 1<4 by decide) ?_);have st':∀ g:Array Value->Array Value,g #[Value.ref d,Value.int (i:Int) 0,Value.int (es.size:Int) 0,Value.int (ep:Int) 0]=#[Value.ref d,Value.int ((i+1:Nat):Int) 0,Value.int (es.size:Int) 0,Value.int (ep:Int) 0]->(s.heap.update it (Obj.mapFields g)).IsKeyIter it d (i+1) es.size ep:=fun g hg=>by
  obtain ⟨c0,d0,da,sl⟩:=oi;simp only at hc hd;subst hc hd;refine ⟨_,Heap.get?_update_self _ ho rfl,rfl,?_⟩;show Data.fields (g _)=_;rw [hg]
 have st2:=st' (fun x=>x.setIfInBounds 1 (rawInt ((i:Int)+1))) (by simp [rawInt]);refine wpAny_bind (wpAny_holding ?_);refine wpAny_bind (wpAny_isOneOf_keyiter st2.typeIs ?_);rw [if_pos (by decide +kernel)];refine wpAny_pure (wpAny_pure ⟨_,rfl,wpAny_pure ?_⟩);exact hQ _ st2 (Heap.SameBut.update ..)
theorem zez {prog:Program} {w:World} {A:Around} {E:Value->Shared->Prop} {s:Shared} {it d:Addr} {i ep:Nat} {o:Obj} {es:Array DictEntry} {Q:Option Value->Shared->Prop} (hh:A.handled=none) (hit:s.heap.IsKeyIter it d i es.size ep) (hod:s.heap.get? d=some o) (hdd:o.data=.dict es ep) (he:es[i]? = none) (hQ:∀ h':Heap,Heap.ExtBut it s.heap h'->Q none {s with heap:=h'}):wpAny (model prog w) A (pyNext (.ref it)) Q E s:=by
 obtain ⟨oi,ho,hc,hd⟩:=id hit;refine wpAny_bind (wpAny_attempt (wpAny_callSpecial?_slot hit.typeIs F.slot_dict_keyiterator_next (wpAny_call_entry F.slot_dict_keyiterator_next hit.typeIs F.entry_dict_keyiterator_next ?_ (F.args_dict_keyiterator_next_1 _))));refine wpAny_bind (wpAny_pure (wpAny_bind (wpAny_bind (wpAny_bind (wpAny_typeNameOfWhole_keyiter hit.typeIs (wpAny_pure (wpAny_bind (wpAny_fieldsOf ho hd ?_))))))));have hown:Builtin.Dict_items.ownsTuple "dict_keyiterator"=false:=by decide +kernel
 rw [hown];simp only [Bool.false_eq_true,if_false,List.drop_zero];show wpAny _ _ (if (Value.ref d==Value.none)=true then _ else _) _ _ _;rw [if_neg (by simp)];refine wpAny_bind (wpAny_pure (wpAny_bind (wpAny_dictEntries hod hdd ?_)));rw [if_neg (by simp)];refine wpAny_bind (wpAny_pure (wpAny_bind (wpAny_dictEpoch hod hdd ?_)));rw [if_neg (by simp)];refine wpAny_pure ?_;have hi:(if (i:Int)<0 then none else es[(i:Int).toNat]?)=none:=by rw [if_neg (by omega)];simpa using he
 show wpAny _ _ (match (if (i:Int)<0 then none else es[(i:Int).toNat]?) with | some e=>_ | none=>_) _ _ _;rw [hi];refine wpAny_bind (wpAny_bind (wpAny_typeNameOfWhole_keyiter hit.typeIs (wpAny_pure ?_)));rw [hown];refine wpAny_bind (wpAny_setField ho hd (show 0<4 by decide) ?_);show wpAny _ _ (newExc (.type "StopIteration") [] >>= _) _ _ _;refine wpAny_bind ?_;simp only [newExc,newTuple];refine wpAny_bind (wpAny_newObj_type ?_ (by size_fits));refine wpAny_bind (m:=firstArgMember _ _) (wpAny_of_eq (a:=Value.none) (by first | rfl | (simp only [firstArgMember];rfl)) ?_);refine wpAny_newObj_type ?_ (by size_fits);simp only [raiseNew];refine wpAny_bind (wpAny_handled ?_);first | rw [show A.in1.handled=none from hh] | rw [hh]
 refine wpAny_bind (wpAny_pure (wpAny_throw ?_));refine wpAny_bind (wpAny_isInstance (T:="StopIteration") (b:=true) ⟨_,Heap.get?_push_size _ rfl,rfl⟩ isSubtype_stop ?_);exact wpAny_pure (hQ _ (((Heap.SameBut.update ..).extBut.push _).push _))
section
variable {prog:Program}{w:World}{A:Around}{E:Value->Shared->Prop}{s:Shared}{d:Addr}{es:Array DictEntry}{ep:Nat}
def zcK(h:Heap)(d:Addr)(es:Array DictEntry)(ep:Nat):Prop:=∃ o,h.get? d=some o/\o.ExactDict/\o.data=.dict es ep
theorem zcK.typeIs(h:zcK s.heap d es ep):s.TypeIs (.ref d) "dict":=let ⟨o,ho,hc,_⟩:=h;⟨o,ho,hc.1⟩
theorem zcK.at{h h':Heap}(x:zcK h d es ep)(e:∀ o,h.get? d=some o->h'.get? d=some o):zcK h' d es ep:=let ⟨o,ho,r⟩:=x;⟨o,e o ho,r⟩
theorem zcp {Q:Value->Shared->Prop} (hd:(d==sysModules)=false) (hm:zcK s.heap d es ep) (hQ:Q (.ref s.heap.objs.size) {s with heap:=s.heap.push {cls:=.type "dict_keyiterator",data:=.fields #[.ref d,.int 0 0,.int es.size 0,.int ep 0]}}): wpAny (model prog w) A (pyIter (.ref d)) Q E s:=by
 obtain ⟨o,ho,hc,hdat⟩:=id hm;have hT:=hm.typeIs;refine wpAny_pyIter_slot hT F.slot_dict_iter (wpAny_call_entry F.slot_dict_iter hT F.entry_dict_iter ?_ (F.args_dict_iter_1 _));unfold Builtin.«dict.__iter__»;refine wpAny_bind ?_;unfold Builtin.Dict.dictSlotNone;refine wpAny_bind (wpAny_notOrdered_dict hT ?_);show wpAny _ _ (pure (Value.ref d)) _ _ s;refine wpAny_pure ?_;show wpAny _ _ (Builtin.Dict.showsAll d >>= _) _ _ s;unfold Builtin.Dict.showsAll;rw [if_neg (by rw [hd];exact Bool.false_ne_true)];refine wpAny_bind (wpAny_pure (wpAny_bind (wpAny_dictEntries ho hdat (wpAny_bind (wpAny_dictEpoch ho hdat ?_)))));refine wpAny_bind (wpAny_newObj_type (wpAny_pure ⟨_,rfl,"dict_keyiterator",_,⟨_,Heap.get?_push_size _ rfl,rfl⟩,F.slot_dict_keyiterator_next.lookup,?_⟩));simpa [rawInt] using hQ
theorem z9R(hh:A.handled=none)(I d:Addr)(hne:d≠I)(es:Array DictEntry)(ep:Nat): Walks prog w A I [I,d] [I] es.size (fun i v=>∃ e,es[i]? = some e/\v=e.key) (fun i h=>h.IsKeyIter I d i es.size ep/\zcK h d es ep) where
 sub:=fun b hb=>by simp at hb;simp [hb]
 frame:=fun _ _ _ st hk=>⟨st.1.at fun o e=>hk I (by simp) o e,st.2.at fun o e=>hk d (by simp) o e⟩;item:=fun i s Q E hi st hQ=>by
  obtain ⟨e,hx⟩:∃ p,es[i]? = some p:=⟨es[i],by simp [hi]⟩;obtain ⟨o,ho,hc,hdat⟩:=id st.2;refine zcr st.1 ho hdat hx fun h' hit' hs'=>?_;exact hQ e.key h' s.toks ⟨e,hx,rfl⟩ ⟨hit',st.2.at fun o e=>hs'.extBut d o hne e⟩ fun b o hb e=>hs'.extBut b o (fun h=>hb (by simp [h])) e
 done:=fun s Q E st hQ=>by
  obtain ⟨o,ho,hc,hdat⟩:=id st.2;exact zez hh st.1 ho hdat (by simp) fun h' he'=>hQ h' s.toks fun b o hb e=>he' b o (fun h=>hb (by simp [h])) e
 self:=fun _ _ _ _ st hQ=>wpAny_pyIter_keyiter st.1 hQ
theorem zeV(lo:(d==sysModules)=false):W.KdlSrc prog w "dict" d d es.size (fun i v=>∃ e,es[i]? = some e/\v=e.key) (fun h=>zcK h d es ep) where
 type:=fun _ hm=>hm.typeIs;there:=fun _ hm=>⟨Heap.lt_size hm.choose_spec.1,Heap.lt_size hm.choose_spec.1⟩;keep:=fun _ _ hm hk=>hm.at fun o e=>hk d (.inl rfl) o e;notList:=by decide
 notTuple:=by decide
 hint:=fun _ _ _ _ hm hq=>W.kdl_hint_dict hm.typeIs hq;iter:=fun _ _ hh hm=>⟨_,_,(fun _ _ hq=>zcp lo hm hq),z9R hh _ d (Nat.ne_of_lt (Heap.lt_size hm.choose_spec.1)) es ep,⟨⟨_,Heap.get?_push_size _ rfl,rfl,rfl⟩,hm.at fun o e=>Heap.get?_push_of_some _ e⟩⟩
end
def zam(H:Hp)(kvs:List (List Key×V))(ys:List V):Prop:=Paired (fun (p:List Key×V)(y:V)=>∃ b,y=.ref b/\H b=some (.tup (p.1.map kV))) kvs ys
theorem zha{H:Hp}{kvs:List (List Key×V)}{xs:List (List Key×Addr×Value)}(r:KT H kvs xs):zam H kvs (xs.map fun x=>.ref x.2.1):=by induction r with
 | nil=>exact .nil | @cons p q ps qs h t ih=>exact .cons ⟨q.2.1,rfl,h.2.1⟩ ih
theorem z8T{X:Cx}(hc:X.calm=true):wL X (.type "list") (fun xs H Q=>∃ a kvs,xs=[.ref a]/\H a=some (.dT kvs)/\∀ ys,zam H kvs ys->∀ l,H l=none->Q (.ref l) (upd H l (.lst ys))):=by
 intro pins s O H xs us Q I rs ⟨a,kvs,e,ea,q⟩;subst e;obtain ⟨u,rfl,ru⟩:=vals1 rs;cases (show u=Value.ref a from ru);obtain ⟨z,lo,xs,rel,o,es,ep,h1,h2,h3,h4,h5,h6⟩:=zfr I.hok ea;have hl:xs.length=kvs.length:=(Paired.length rel).symm;have hsz:es.size=xs.length:=size_of_entries h4;refine W.kdl_call (zeV lo) (I.ok.hd hc) ⟨o,h1,h2,h3⟩ (by omega) fun h' tk acc c' hk hS hacc=>?_;have hv:xF (xs.map fun x=>V.ref x.2.1) acc.toList:=ke (by simp [hacc.1,hsz]) fun i v hv=>by
  obtain ⟨e,he,rfl⟩:=hacc.2 i v (by simpa using hv);rw [entry_at h4] at he;obtain ⟨x,hx,rfl⟩:=Option.map_eq_some_iff.mp he;exact ⟨.ref x.2.1,by simp [hx],rfl⟩
 refine ⟨.ref _,upd H _ (.lst (xs.map fun x=>V.ref x.2.1)),I.laid (t':=tk) hk (Nat.le_refl _) ?_,rfl,q _ (zha rel) _ (I.hok.fresh (Nat.le_refl _))⟩;exact ⟨by simpa [hl] using z,acc.toList,c',hv,by simpa using hS⟩
def z6u(kvs:List (List Key×V)):List D:=kvs.map fun p=>.tup (p.1.map z6i)
theorem z8c{mg:Gm}{H:Hp}{Y:List Addr}:∀ {kvs:List (List Key×V)}{ys:List V},zam H kvs ys->zB mg H Y (z6u kvs) ys
 | [],_,h=>by cases h;exact zB.nil | p::kvs,_,h=>by cases h with | @cons _ y _ ys h t=>
  obtain ⟨b,rfl,hb⟩:=h;refine zB.cons ?_ (z8c t);simp only [Den];exact ⟨b,_,rfl,hb,z4A _⟩
def zjq:List D->Sto->R D
 | [.dlo l],s=>match (s[l]?).bind z8L with | some kvs=>.ok (.lst (z6u kvs)) s | none=>.no
 | _,_=>.no
variable {X:Cx}{E:XK}
theorem z3c:∀ kvs:List (List Key×V),D.flat.flats (z6u kvs)=true
 | []=>rfl | (k,v)::r=>by
  simp only [z6u,List.map_cons,D.flat.flats,D.flat,z14,Bool.true_and];exact z3c r
def z1P:List D->Sto->R D
 | [.dlo l],s=>match (s[l]?).bind z8L with | some kvs=>.ok (.loc s.length) (s++[z6u kvs]) | none=>.no
 | _,_=>.no
theorem zbw(hc:X.calm=true):∃ r,wL X (.type "list") r/\z0k X E r z1P:=⟨_,z8T hc,fun H Y s ds vs Q r hd h=>by
 unfold z1P at h;split at h
 ·rename_i l;split at h
  ·rename_i kvs e;obtain ⟨v,rfl,dn⟩:=z02 hd;simp only [Den] at dn;obtain ⟨a,rfl,e1,ka⟩:=dn;obtain ⟨xs,ex,edc⟩:=Option.bind_eq_some_iff.mp e;obtain ⟨kvs',q1,q2⟩:=r.dic ex e1 ka;obtain ⟨z1,z2,z3⟩:=z3y q2;rw [z3] at edc;cases edc;exact ⟨a,_,rfl,q1,fun ys hy=>zd2 r h (z3c _) (z8c hy)⟩
  ·exact h.elim
 ·exact h.elim⟩
def zcE:List D->Option (List Int)
 | []=>some [] | .int i::r=>(zcE r).map (i::·) | _=>none
def zeY:D->Option (List Int)
 | .tup ds=>zcE ds | _=>none
def z3Q:List D->Option (List (List Int))
 | []=>some [] | d::ds=>match zeY d,z3Q ds with | some n,some ns=>some (n::ns) | _,_=>none
theorem z7H:∀ ns:List Int,zcE (ns.map D.int)=some ns
 | []=>rfl | i::r=>by simp [zcE,z7H r]
theorem zaV:∀ {ds:List D}{ns:List Int},zcE ds=some ns->ds=ns.map D.int
 | [],_,e=>by simp [zcE] at e;subst e;rfl | d::r,ns,e=>by cases d with
  | int i=>
   simp only [zcE,Option.map_eq_some_iff] at e;obtain ⟨a,h1,rfl⟩:=e;rw [zaV h1];rfl | _=>simp [zcE] at e
theorem z89(ns:List Int):zeY (.tup (ns.map D.int))=some ns:=z7H ns
theorem zdk{d:D}{ns:List Int}(e:zeY d=some ns):d=.tup (ns.map D.int):=by cases d with
 | tup ds=>simp only [zeY] at e;rw [zaV e] | _=>simp [zeY] at e
theorem z1k:∀ L:List (List Int),z3Q (L.map fun ns=>.tup (ns.map D.int))=some L
 | []=>rfl | n::L=>by simp only [List.map_cons,z3Q,z89,z1k L]
def AtN(H:Hp)(v:V)(ns:List Int):Prop:=∃ b,v=.ref b/\H b=some (.tup (ns.map V.int))
theorem z7M:∀ {a b:List Int},a.map V.int=b.map V.int->a=b
 | [],[],_=>rfl | [],_::_,h=>by simp at h | _::_,[],h=>by simp at h | x::a,y::b,h=>by
  simp only [List.map_cons,List.cons.injEq,V.int.injEq] at h;rw [h.1,z7M h.2]
theorem z7F{mg:Gm}{H:Hp}{Y:List Addr}{d:D}{v:V}{ns:List Int}(h:zeY d=some ns)(dn:Den mg H Y d v):AtN H v ns:=by
 rw [zdk h] at dn;simp only [Den] at dn;obtain ⟨a,vs,rfl,e,dd⟩:=dn;have:∀ {ns:List Int}{vs:List V},zB mg H Y (ns.map D.int) vs->vs=ns.map V.int:=by
  intro ns;induction ns with
  | nil=>intro vs h;simpa [zB] using h | cons i r ih=>
   intro vs h;simp only [List.map_cons,zB] at h;obtain ⟨v,r',rfl,h1,h2⟩:=h;rw [yO h1,ih h2];rfl
 rw [this dd] at e;exact ⟨a,rfl,e⟩
theorem z1n{mg:Gm}{H:Hp}{Y:List Addr}:∀ {ds:List D}{vs:List V}{L:List (List Int)},z3Q ds=some L->zB mg H Y ds vs->Paired (fun v ns=>AtN H v ns) vs L
 | [],_,_,h,dn=>by simp only [z3Q,Option.some.injEq] at h;simp only [zB] at dn;subst dn;subst h;exact .nil | d::ds,_,_,h,dn=>by
  simp only [zB] at dn;obtain ⟨v,vs,rfl,h1,h2⟩:=dn;simp only [z3Q] at h;split at h
  ·rename_i n ns e1 e2;cases h;exact .cons (z7F e1 h1) (z1n e2 h2)
  ·cases h
theorem z1r:∀ ns:List Int,PyData.canLayAll0 (toPys (ns.map D.int))=true/\PyData.depthAll (toPys (ns.map D.int))<=1
 | []=>by decide | i::k=>by
  have:=z1r k;simp only [List.map_cons,uR,toPys,PyData.canLayAll0,PyData.canLay0,PyData.depthAll,PyData.depth,Bool.true_and,this.1,true_and];omega
theorem z7Y:∀ a b:List Int,PyData.eqvAll (toPys (a.map D.int)) (toPys (b.map D.int))=decide (a=b)
 | [],[]=>by simp [toPys,PyData.eqvAll] | [],_::_=>by simp [toPys,PyData.eqvAll] | _::_,[]=>by simp [toPys,PyData.eqvAll] | x::a,y::b=>by
  simp only [List.map_cons,toPys,uR,PyData.eqvAll,PyData.eqv,z7Y a b,List.cons.injEq];by_cases h:x=y<;>by_cases h2:a=b<;>simp [h,h2]
section
variable {X:Cx}{pins:List (Addr×Obj)}{O:L2.St}{H:Hp}{s:Shared}
theorem AtN.reads (mg:Gm) {h:Heap} {P:Program} {w:World} (ok:HOk P w H h) {v:V} {u:Value} {ns:List Int} (a:AtN H v ns) (r:xx v u):∃ as,Reads h u (uR (.tup (ns.map D.int))) as:=by
 refine Den.reads (mg:=mg) (Y:=[]) (H:=H) (v:=v) ok (by simp only [uR,PyData.canLay0];exact (z1r ns).1) ?_ r;obtain ⟨b,rfl,e⟩:=a;simp only [Den];refine ⟨b,_,rfl,e,?_⟩;clear e;induction ns with
 | nil=>exact zB.nil | cons i r ih=>exact zB.cons yR ih
theorem AtN.eqAt(mg:Gm){A:Around}{P:Program}{w:World}(ok:HOk P w H s.heap)(hu:A.units+2<cLine){v x:V}{u y:Value}{ns ms:List Int}(a:AtN H v ns)(r:xx v u)(b:AtN H x ms)(q:xx x y): SeqAt.EqAt A s u y (decide (ns=ms)):=by
 obtain ⟨as,ra⟩:=a.reads mg ok r;obtain ⟨bs,rb⟩:=b.reads mg ok q;have h:=SeqAt.eqAt_reads _ _ A s u y as bs ra rb (by simp only [uR,PyData.canLay0];exact (z1r ns).1) (by simp only [uR,PyData.canLay0];exact (z1r ms).1) (by
  have h1:=(z1r ns).2;have h2:min (uR (.tup (ns.map D.int))).depth (uR (.tup (ms.map D.int))).depth<=(uR (.tup (ns.map D.int))).depth:=Nat.min_le_left _ _;have h3:(uR (.tup (ns.map D.int))).depth<=2:=by simp only [uR,PyData.depth];omega
  omega);rw [show PyData.eqv (uR (.tup (ns.map D.int))) (uR (.tup (ms.map D.int)))=decide (ns=ms) by simp only [uR,PyData.eqv,z7Y]] at h;exact h
end
section
variable {X:Cx}{E:XK}
open Classical in
def eqN(H:Hp)(ms:List Int)(u:Value):Bool:=match u with
 | .ref b=>if h:∃ ns:List Int,H b=some (.tup (ns.map V.int)) then decide (h.choose=ms) else false | _=>false
theorem zcG{H:Hp}{ms ns:List Int}{v:V}{u:Value}(a:AtN H v ns)(r:xx v u):eqN H ms u=decide (ns=ms):=by
 obtain ⟨b,rfl,e⟩:=a;cases (show u=Value.ref b from r);have h:∃ ns:List Int,H b=some (.tup (ns.map V.int)):=⟨ns,e⟩;have e2:=e.symm.trans h.choose_spec;simp only [Option.some.injEq,HO.tup.injEq] at e2;simp only [eqN,h,dite_true];rw [<- z7M e2]
theorem z24{H:Hp}{ms:List Int}:∀ {xs:List V}{us:List Value}{L:List (List Int)},xF xs us->Paired (fun v ns=>AtN H v ns) xs L->us.any (eqN H ms)=L.any fun ns=>decide (ns=ms)
 | _,_,_,.nil,.nil=>rfl | y::xs,u::us,ns::L,.cons r t,.cons a p=>by rw [List.any_cons,List.any_cons,zcG a r,z24 t p]
theorem z2j(mg:Gm){H:Hp}{A:Around}{s:Shared}{P:Program}{w:World}(ok:HOk P w H s.heap)(hu:A.units+2<cLine){ms:List Int}{x:V}{v:Value}(a:AtN H x ms)(rx:xx x v): ∀ {xs:List V}{us:List Value}{L:List (List Int)},xF xs us->Paired (fun v ns=>AtN H v ns) xs L->∀ u∈us,SeqAt.EqAt A s u v (eqN H ms u)
 | _,_,_,.nil,.nil=>fun u hu=>by cases hu | y::xs,u::us,ns::L,.cons r t,.cons b p=>fun u' hu'=>by
  rcases List.mem_cons.mp hu' with rfl | hu';·rw [zcG b r];exact b.eqAt mg ok hu r a rx
  ·exact z2j mg ok hu a rx t p u' hu'
def zix(K:W.Frag)(neg:Bool):R2:=fun x y H Q=>∃ p xs ms L,y=.ref p/\(SqL K H p xs\/SqT K H p xs)/\AtN H x ms/\Paired (fun v ns=>AtN H v ns) xs L/\Q (.bl (if neg then !(L.any fun ns=>decide (ns=ms)) else L.any fun ns=>decide (ns=ms))) H
theorem zjl(hu:X.A.units+64<cLine):OpR X (compareOp .In) (zix X.K false):=by
 intro pins s O H x y v u Q I rx ry h;obtain ⟨p,xs,ms,L,rfl,hq,fx,fs,q⟩:=h;cases ry;have hu':X.A.in1.units+2<cLine:=by have:X.A.in1.units=X.A.units+1:=rfl;omega
 rcases hq with hq | hq
 ·obtain ⟨its,r,pl,hz⟩:=I.list hq;refine SeqAt.in_listAt (eqN H ms) pl.isList (fun w hw=>z2j (gm X) I.hok hu' fx rx r fs w (by simpa using hw)) ⟨.bl _,H,I,rfl,?_⟩;rw [show its.toArray.any (eqN H ms)=its.any (eqN H ms) by simp,z24 r fs];exact q
 ·obtain ⟨its,r,pl,hz⟩:=I.tuple hq;refine SeqAt.in_tupleAt (eqN H ms) pl (fun w hw=>z2j (gm X) I.hok hu' fx rx r fs w (by simpa using hw)) ⟨.bl _,H,I,rfl,?_⟩;rw [show its.toArray.any (eqN H ms)=its.any (eqN H ms) by simp,z24 r fs];exact q
theorem z9w(hu:X.A.units+64<cLine):OpR X (compareOp .NotIn) (zix X.K true):=by
 intro pins s O H x y v u Q I rx ry h;obtain ⟨p,xs,ms,L,rfl,hq,fx,fs,q⟩:=h;cases ry;have hu':X.A.in1.units+2<cLine:=by have:X.A.in1.units=X.A.units+1:=rfl;omega
 rcases hq with hq | hq
 ·obtain ⟨its,r,pl,hz⟩:=I.list hq;refine SeqAt.notIn_listAt (eqN H ms) pl.isList (fun w hw=>z2j (gm X) I.hok hu' fx rx r fs w (by simpa using hw)) ⟨.bl _,H,I,rfl,?_⟩;rw [show its.toArray.any (eqN H ms)=its.any (eqN H ms) by simp,z24 r fs];exact q
 ·obtain ⟨its,r,pl,hz⟩:=I.tuple hq;refine SeqAt.notIn_tupleAt (eqN H ms) pl (fun w hw=>z2j (gm X) I.hok hu' fx rx r fs w (by simpa using hw)) ⟨.bl _,H,I,rfl,?_⟩;rw [show its.toArray.any (eqN H ms)=its.any (eqN H ms) by simp,z24 r fs];exact q
def zdJ(neg:Bool)(x y:D)(s:Sto):R D:=match zeY x,(zF s y).bind z3Q with
 | some ms,some L=>.ok (.bl (if neg then !(L.any fun ns=>decide (ns=ms)) else L.any fun ns=>decide (ns=ms))) s | _,_=>.no
theorem zdL{neg:Bool}:OpF X E (zix X.K neg) (zdJ neg):=fun H Y s d1 d2 v1 v2 Q r h1 h2 h=>by
 unfold zdJ at h;split at h
 ·rename_i ms L e1 e2;cases e3:zF s d2 with
  | none=>rw [e3] at e2;cases e2 | some xs=>
   rw [e3] at e2;obtain ⟨a,ws,rfl,q1,q2⟩:=vE (K:=X.K) r e3 h2;exact ⟨a,ws,ms,L,rfl,q1,z7F e1 h1,z1n e2 q2,h.here r xQ⟩
 ·exact h.elim
theorem zbQ(hu:X.A.units+64<cLine):∃ r,OpR X (compareOp .NotIn) r/\OpF X E r (zdJ true):=⟨_,z9w hu,zdL⟩
end
end Dd
namespace L2
open PySem.Spec PySem.Builtin.Str
variable {X:Cx}
end L2
namespace Dd
open PySem.Spec L2 PySem.Builtin.Str
end Dd
namespace Zz
end Zz
namespace L2
open PySem.Spec Zz
end L2
namespace Dd
open PySem.Spec L2
def zep:List D->List D->List D->List D
 | x::xs,y::ys,z::zs=>.tup [x,y,z]::zep xs ys zs | _,_,_=>[]
def zhS(f:FA):FI:=fun Z s=>(f Z s).bind fun ds s1=>match ds with
 | [x,y,z]=>match z0Q s1 x,z0Q s1 y,z0Q s1 z with
  | some p,some q,some t=>if p.1.length<=q.1.length/\p.1.length<=t.1.length then .ok (zep p.1 q.1 t.1,p.2++(q.2++t.2)) s1 else .no | _,_,_=>.no
 | _=>.no
@[simp] theorem zia (f:FA)(Z:Ev)(s:Sto):zhS f Z s=(f Z s).bind fun ds s1=>match ds with
 | [x,y,z]=>match z0Q s1 x,z0Q s1 y,z0Q s1 z with
  | some p,some q,some t=>if p.1.length<=q.1.length/\p.1.length<=t.1.length then .ok (zep p.1 q.1 t.1,p.2++(q.2++t.2)) s1 else .no | _,_,_=>.no
 | _=>.no:=id rfl
def z4N:List Int->List Int->Bool
 | [],[]=>false | [],_::_=>true | _::_,[]=>false | x::a,y::b=>if x=y then z4N a b else decide (x<y)
inductive ul:List Value->List Int->Prop | nil:ul [] [] | cons {i t vs ns}:ul vs ns->ul (.int i t::vs) (i::ns)
theorem ul.of_vals:∀ {ns:List Int}{us:List Value},xF (ns.map V.int) us->ul us ns
 | [],_,.nil=>.nil | _::_,_,.cons ⟨_,rfl⟩ r=>.cons (ul.of_vals r)
section
variable {prog:Program}{w:World}{A:Around}{E:Value->Shared->Prop}{s:Shared}
theorem z6x{a b:Addr}{xs ys:Array Value}{ns ms:List Int}{P:PySem.Fin->Shared->Prop}(ha:s.heap.IsTuple a xs)(hb:s.heap.IsTuple b ys)(hx:ul xs.toList ns)(hy:ul ys.toList ms) (h:P (.done (.ret (.bool (z4N ns ms)))) s):wpAny (model prog w) A (Builtin.«tuple.__lt__» ⟨[.ref a,.ref b],[]⟩) P E s:=by
 obtain ⟨oa,ga,ca,na,da⟩:=ha;obtain ⟨ob,gb,cb,nb,db⟩:=hb;have tb:s.TypeIs (.ref b) "tuple":=⟨ob,gb,cb⟩;show wpAny _ _ (isInstance (.ref b) (.type "tuple") >>= _) _ _ s;refine wpAny_bind (wpAny_isInstance tb isSubtype_tuple_tuple ?_);simp only [Bool.not_true,Bool.false_eq_true,if_false];refine wpAny_bind (wpAny_tupleItemsOf ga da (wpAny_bind (wpAny_tupleItemsOf gb db (wpAny_bind ?_))));refine wpAny_forIn_list _ (fun z0T r s'=>r.1=none/\s'=s/\∃ us vs ns' ms',z0T=List.zip us vs/\ul us ns'/\ul vs ms'/\z4N ns' ms'=z4N ns ms/\(decide (us.length<vs.length))=decide (xs.size<ys.size)) _ ?_ ?_ _ _ ⟨rfl,rfl,xs.toList,ys.toList,ns,ms,rfl,hx,hy,rfl,by simp⟩
 ·rintro ⟨u,v⟩ z0T r s' ⟨hr,rfl,us,vs,ns',ms',hz,h1,h2,hl,hs⟩;cases h1 with
  | nil=>simp at hz | @cons i t us' ns'' h1'=>cases h2 with
   | nil=>simp at hz | @cons j t' vs' ms'' h2'=>
    simp only [List.zip_cons_cons,List.cons.injEq,Prod.mk.injEq] at hz;obtain ⟨⟨rfl,rfl⟩,rfl⟩:=hz;refine wpAny_bind (wpAny_eqBool_int ?_);by_cases e:i=j
    ·subst e;simp only [beq_self_eq_true,Bool.not_true,Bool.false_eq_true,if_false];exact wpAny_pure ⟨rfl,rfl,us',vs',ns'',ms'',rfl,h1',h2',by rw [<- hl];simp [z4N],by simpa using hs⟩
    ·rw [show (i==j)=false by simpa using e];simp only [Bool.not_false,if_true];have hf:z4N ns ms=decide (i<j):=by rw [<- hl];simp [z4N,e]
     rw [hf] at h;refine wpAny_bind (wpAny_rule (wpAny_bind (show wpAny _ _ (compareOp .Lt (.int i t) (.int j t')) _ _ _ from PyProof.Rows.lt_int ?_)));exact wpAny_bind (wpAny_pure (wpAny_pure (wpAny_pure h)))
 ·rintro ⟨r1,r2⟩ s' ⟨hr,rfl,us,vs,ns',ms',hz,h1,h2,hl,hs⟩;simp only at hr;subst hr;refine wpAny_pure ?_;have hfin:decide (xs.size<ys.size)=z4N ns ms:=by
   rw [<- hl,<- hs];cases h1 with
   | nil=>cases h2<;>simp [z4N] | cons _=>cases h2 with
    | nil=>simp [z4N] | cons _=>simp at hz
  show P (.done (.ret (.bool (decide (xs.size<ys.size))))) s';rw [hfin];exact h
theorem zgg{a b:Addr}{xs ys:Array Value}{ns ms:List Int}{Q:Value->Shared->Prop}(hu:A.units<cLine)(ha:s.heap.IsTuple a xs)(hb:s.heap.IsTuple b ys)(hx:ul xs.toList ns)(hy:ul ys.toList ms) (h:Q (.bool (z4N ns ms)) s):wpAny (model prog w) A (richCompare .Lt (.ref a) (.ref b)) Q E s:=by
 have ta:s.TypeIs (.ref a) "tuple":=by obtain ⟨o,g,c,_⟩:=ha;exact ⟨o,g,c⟩
 have tb:s.TypeIs (.ref b) "tuple":=by obtain ⟨o,g,c,_⟩:=hb;exact ⟨o,g,c⟩
 refine wpAny_richCompare_same_room ta tb PySem.F.slot_tuple_lt (wpAny_call_entry PySem.F.slot_tuple_lt ta PySem.F.entry_tuple_lt ?_ (PySem.F.args_tuple_lt_2 _ _)) hu;exact z6x ha hb hx hy ⟨_,rfl,by simp,h⟩
end
section
variable {prog:Program}{w:World}{A:Around}{R:Result->Shared->Prop}{I S:Addr}{fp wr:List Addr}{n:Nat}{P:Nat->Value->Prop}{St:Nat->Heap->Prop}{Kh:Heap->Prop}{bt:Nat->Nat->Bool}
theorem z8s (W:Walks prog w A.in1 I fp wr n P St) (cmp:∀ i j vi vj (s:Shared) (Q:Value->Shared->Prop) (E:Value->Shared->Prop),Kh s.heap->P i vi->P j vj->Q (.bool (bt i j)) s->wpAny (model prog w) A.in1 (richCompare .Lt vi vj) Q E s) (keep:∀ h h':Heap,Kh h->(∀ b o,b∉wr->b≠S->h.get? b=some o->h'.get? b=some o)->Kh h') (out:S∉fp) (k:Nat): ∀ (j:Nat) (s:Shared) (v:Value) (c:Nat),n=j+1+k->St (j+1) s.heap->Kh s.heap->P (argBest bt j) v->s.heap.get? S=some (seqObj "list" #[v,v] c)-> (∀ u h' tk,P (argBest bt (n-1)) u->(∀ b o,b∉wr->b≠S->s.heap.get? b=some o->h'.get? b=some o)->R (.ok (.ret u)) {s with heap:=h',toks:=tk})-> codeAny (model prog w) A (.builtin "min.loop" ⟨[.ref I,.none,.ref S],[]⟩) R s:=by
 have ow:S∉wr:=fun z=>out (W.sub _ z);have nm:(toString "min"++toString ".loop":String)="min.loop":=by decide
 induction k with
 | zero=>
  intro j s v c en st kh pv gS fin;refine codeAny_builtin PySem.F.entry_min_loop ?_;rw [Around.under_plainId PySem.F.plain_min_loop _];show wpAny _ A.in1 (seqItems? (.ref S) >>= _) _ _ s;refine wpAny_bind (wpAny_seqItems gS rfl ?_);show wpAny _ A.in1 (tryCatch (pyNext (.ref I)) _ >>= _) _ _ s;refine wpAny_bind (wpAny_tryCatch (W.done s _ _ (by rw [en];exact st) fun h1 tk k1=>?_));show wpAny _ A.in1 (updateSeq S (fun _=>#[]) >>= _) _ _ _;refine wpAny_bind (wpAny_updateSeq (k1 S _ ow gS) rfl (wpAny_bind (wpAny_letGo (wpAny_pure ?_))));exact fin v _ tk (by rw [show n-1=j by omega];exact pv) fun b o hb hS e=>(Heap.get?_update_other _ _ (Ne.symm hS)).trans (k1 b o hb e) | succ k ih=>
  intro j s v c en st kh pv gS fin;refine codeAny_builtin PySem.F.entry_min_loop ?_;rw [Around.under_plainId PySem.F.plain_min_loop _];show wpAny _ A.in1 (seqItems? (.ref S) >>= _) _ _ s;refine wpAny_bind (wpAny_seqItems gS rfl ?_);show wpAny _ A.in1 (tryCatch (pyNext (.ref I)) _ >>= _) _ _ s;refine wpAny_bind (wpAny_tryCatch (W.item (j+1) s _ _ (by omega) st fun u h1 tk pu st1 k1=>?_));have gS1:=k1 S _ ow gS;show wpAny _ A.in1 (tryCatch (holding [u,u] (richCompare .Lt u v >>= _)) _ >>= _) _ _ _;refine wpAny_bind (wpAny_tryCatch (wpAny_holding (wpAny_bind (cmp (j+1) (argBest bt j) u v _ _ _ (keep _ _ kh fun b o hb _ e=>k1 b o hb e) pu pv ?_))));refine wpAny_bind (wpAny_holding (wpAny_truthy_bool (wpAny_bind (wpAny_letGo (wpAny_pure ?_)))));by_cases q:bt (j+1) (argBest bt j)=true
  ·rw [q];simp only [if_true];refine wpAny_bind (wpAny_updateSeq gS1 rfl (wpAny_bind (wpAny_letGo ?_)));rw [nm];refine wpAny_pure ⟨plainId_quiet PySem.F.plain_min_loop _,ih (j+1) _ u _ (by omega) (W.frame _ _ _ st1 fun b hb o e=>(Heap.get?_update_other _ _ (fun z:S=b=>out (z ▸ hb))).trans e) ?_ (by rw [show argBest bt (j+1)=j+1 by simp [argBest,q]];exact pu) (Heap.get?_update_self _ gS1 rfl) fun u' h2 tk2 p2 k2=>?_⟩;·exact keep _ _ kh fun b o hb hS e=>(Heap.get?_update_other _ _ (Ne.symm hS)).trans (k1 b o hb e)
   ·exact fin u' h2 tk2 p2 fun b o hb hS e=>k2 b o hb hS ((Heap.get?_update_other _ _ (Ne.symm hS)).trans (k1 b o hb e))
  ·rw [show bt (j+1) (argBest bt j)=false by simpa using q];simp only [Bool.false_eq_true,if_false];refine wpAny_bind (wpAny_letGo ?_);rw [nm];refine wpAny_pure ⟨plainId_quiet PySem.F.plain_min_loop _,ih (j+1) _ v c (by omega) st1 (keep _ _ kh fun b o hb _ e=>k1 b o hb e) (by rw [show argBest bt (j+1)=argBest bt j by simp [argBest,q]];exact pv) gS1 fun u' h2 tk2 p2 k2=>?_⟩;exact fin u' h2 tk2 p2 fun b o hb hS e=>k2 b o hb hS (k1 b o hb e)
end
section
variable {prog:Program}{w:World}{A:Around}{E:Value->Shared->Prop}{s:Shared}
theorem z92 {x:Value} {Q:Value->Shared->Prop} (h:wpAny (model prog w) A.in1 (pyIter x) (fun it s2=>∃ I fp wr n P St bt,∃ Kh:Heap->Prop,it=.ref I/\Walks prog w A.in1 I fp wr n P St/\St 0 s2.heap/\(∀ b∈fp,b<s2.heap.objs.size)/\0<n/\Kh s2.heap/\ (∀ i j vi vj (s:Shared) (Q:Value->Shared->Prop) (E:Value->Shared->Prop),Kh s.heap->P i vi->P j vj->Q (.bool (bt i j)) s->wpAny (model prog w) A.in1 (richCompare .Lt vi vj) Q E s)/\ (∀ h h':Heap,Kh h->(∀ b o,b∉wr->b<s2.heap.objs.size->h.get? b=some o->h'.get? b=some o)->Kh h')/\ ∀ v h' tk,P (argBest bt (n-1)) v->(∀ b o,b∉wr->s2.heap.get? b=some o->h'.get? b=some o)->Q v {s2 with heap:=h',toks:=tk}) E s): wpAny (model prog w) A (call (.builtin "min") [x]) Q E s:=by
 have nm:(toString "min"++toString ".loop":String)="min.loop":=by decide
 refine call_function_tree PySem.F.kind_min PySem.F.plain_min PySem.F.entry_min (PySem.F.args_min1 _) ?_;show wpAny _ A.in1 (Builtin.Builtins.bindParams "min" ["key","default"] 0 ⟨[],[]⟩ >>= _) _ _ s;refine wpAny_bind (wpAny_of_eq (show Builtin.Builtins.bindParams "min" ["key","default"] 0 ⟨[],[]⟩=pure [none,none] from rfl) (wpAny_bind (wpAny_pure ?_)));refine wpAny_bind (wpAny_mono h (fun it s2 z=>?_) fun _ _ e=>e);obtain ⟨I,fp,wr,n,P,St,bt,Kh,rfl,W,st,bd,hn,kh,cmp,keep,fin⟩:=z;refine wpAny_bind (wpAny_newObj_type ?_);have out:s2.heap.objs.size∉fp:=fun z=>Nat.lt_irrefl _ (bd _ z);have ow:s2.heap.objs.size∉wr:=fun z=>out (W.sub _ z);have keep':∀ h h':Heap,Kh h->(∀ b o,b∉wr->b≠s2.heap.objs.size->h.get? b=some o->h'.get? b=some o)->Kh h':=fun h h' z k=>keep h h' z fun b o hb lt e=>k b o hb (Nat.ne_of_lt lt) e;rw [nm];refine wpAny_pure ⟨plainId_quiet PySem.F.plain_min_loop _,codeAny_builtin PySem.F.entry_min_loop ?_⟩;have gS:(s2.heap.push (seqObj "list" #[] 0)).get? s2.heap.objs.size=some (seqObj "list" #[] 0):=Heap.get?_push_size _ rfl;rw [Around.under_plainId PySem.F.plain_min_loop _];show wpAny _ A.in1 (seqItems? (.ref s2.heap.objs.size) >>= _) _ _ {s2 with heap:=s2.heap.push (seqObj "list" #[] 0)};refine wpAny_bind (wpAny_seqItems gS rfl ?_);show wpAny _ A.in1 (tryCatch (pyNext (.ref I)) _ >>= _) _ _ _;refine wpAny_bind (wpAny_tryCatch (W.item 0 _ _ _ hn (W.frame _ _ _ st fun b _ o e=>Heap.get?_push_of_some _ e) fun u h1 tk pu st1 k1=>?_));have gS1:=k1 _ _ ow gS;show wpAny _ A.in1 (updateSeq s2.heap.objs.size (fun _=>#[u,u]) >>= _) _ _ _;refine wpAny_bind (wpAny_updateSeq gS1 rfl ?_);rw [nm];have old:∀ b o,b∉wr->b≠s2.heap.objs.size->s2.heap.get? b=some o->(h1.update s2.heap.objs.size (Obj.mapSeq fun _=>#[u,u])).get? b=some o:=fun b o hb hS e=> (Heap.get?_update_other _ _ (Ne.symm hS)).trans (k1 b o hb (Heap.get?_push_of_some _ e));refine wpAny_pure ⟨plainId_quiet PySem.F.plain_min_loop _,z8s W cmp keep' out (n-1) 0 _ u _ (by omega) (W.frame _ _ _ st1 fun b hb o e=>(Heap.get?_update_other _ _ (fun z:s2.heap.objs.size=b=>out (z ▸ hb))).trans e) (keep' _ _ kh old) pu (Heap.get?_update_self _ gS1 rfl) fun u' h2 tk2 p2 k2=>?_⟩;exact fin u' h2 tk2 p2 fun b o hb e=>k2 b o hb (Nat.ne_of_lt (Heap.lt_size e)) (old b o hb (Nat.ne_of_lt (Heap.lt_size e)) e)
end
end Dd
namespace L2
open PySem.Spec
def zeo(D:zbT):zbT:={D with nx:=fun O H=>∃ a xs,H a=some (.lst xs)/\∀ o,D.nx O (upd H a (.frz o (.lst xs)))}
theorem PS.freezeV{X:Cx}{st:Stmt}{t:TS}(h:PS X st t):PS X st (fun D O H=>t (zeo D) O H):=fun pins s O H D I q=>thn (h pins s O H _ I q) fun f s1 z=>by cases f with
 | next=>
  obtain ⟨O',H',I',a,xs,ha,q⟩:=z;obtain ⟨its,n,rv,e,_⟩:=I'.lst ha;exact ⟨O',_,I'.freeze ha e (by intro _ z;cases z) (by intro _ _ z;cases z) (by intro _ z;cases z) (by intro _ z;cases z),q _⟩ | ret v=>exact z | brk=>exact z | cont=>exact z
end L2
namespace Dd
open PySem.Spec L2
def D.und(n:Nat):D->Bool
 | .loc l=>decide (l<n) | .dlo l=>decide (l<n) | d=>d.flat
def z5L(n i:Nat)(Z:Ev):Bool:=(List.range Z.length).all fun j=>j==i||match Z[j]? with | some (some d)=>d.und n | _=>true
def z6v(i:Nat)(f:FS):FS:=fun Z s=>match f Z s with
 | .ok (.nx Z1) s1=>match Z1[i]? with
  | some (some (.loc l))=>match s1[l]? with
   | some xs=>if s.length<=l/\z5L s.length i Z1=true then .ok (.nx (Z1.set i (some (.lst xs)))) (s1.take s.length) else .no | none=>.no
  | _=>.no
 | _=>.no
theorem Den.cut{mg:Gm}{H1:Hp}{Y1:List Addr}{n:Nat}{a:Addr}{u u0:HO}{d:D}{v:V}(nd:Y1.Nodup){l:Nat}(hl:n<=l)(e1:Y1[l]? = some a)(e2:H1 a=some u0)(hu:(∃ vs,u0=.lst vs))(hb:d.und n=true)(h:Den mg H1 Y1 d v):Den mg (upd H1 a u) (Y1.take n) d v:=by
 have k:∀ b u',H1 b=some u'->(∀ vs,u'≠.lst vs)->(∀ kvs,u'≠.dT kvs)->upd H1 a u b=some u':=fun b u' h hn _=>by
  obtain ⟨vs,rfl⟩:=hu;rw [zH (fun z=>by subst z;rw [e2] at h;exact hn vs (Option.some.inj h).symm)];exact h
 have ne:∀ {j:Nat}{b:Addr},j<n->Y1[j]? = some b->b≠a:=fun {j b} hj hb z=>by
  subst z;have:=(List.getElem_inj nd).mp (((List.getElem?_eq_some_iff.mp hb).2).trans ((List.getElem?_eq_some_iff.mp e1).2).symm);omega
 by_cases hf:d.flat=true;·exact h.flatten k hf
 ·cases d with
  | loc j=>
   have hj:j<n:=by simpa [D.und] using hb
   simp only [Den] at h ⊢;obtain ⟨b,rfl,q1,vs,q2⟩:=h;exact ⟨b,rfl,by rw [List.getElem?_take_of_lt hj];exact q1,vs,by rw [zH (ne hj q1)];exact q2⟩ | dlo j=>
   have hj:j<n:=by simpa [D.und] using hb
   simp only [Den] at h ⊢;obtain ⟨b,rfl,q1,vs,q2⟩:=h;exact ⟨b,rfl,by rw [List.getElem?_take_of_lt hj];exact q1,vs,by rw [zH (ne hj q1)];exact q2⟩ | _=>exact absurd hb hf
theorem uf.cut{mg:Gm}{H1:Hp}{Y1:List Addr}{n i:Nat}{a:Addr}{u u0:HO}{Z:Ev}{O:L2.St}{xs:List D}(en:uf mg H1 Y1 Z O)(nd:Y1.Nodup){l:Nat}(hl:n<=l)(e1:Y1[l]? = some a)(e2:H1 a=some u0)(hu:(∃ vs,u0=.lst vs))(hb:z5L n i Z=true) (hi:Z[i]? = some (some (.loc l)))(hd:Den mg (upd H1 a u) (Y1.take n) (.lst xs) (.ref a)):uf mg (upd H1 a u) (Y1.take n) (Z.set i (some (.lst xs))) O:=by
 refine ⟨by simp [en.len],fun j d hj=>?_⟩;by_cases q:i=j
 ·subst q;have hlt:i<Z.length:=(List.getElem?_eq_some_iff.mp hi).1;rw [List.getElem?_set_self hlt] at hj;cases hj;obtain ⟨v,h1,h2⟩:=en.at_ i _ hi;simp only [Den] at h2;obtain ⟨b,rfl,q1,_⟩:=h2;rw [e1] at q1;cases q1;exact ⟨_,h1,hd⟩
 ·rw [List.getElem?_set_ne q] at hj;obtain ⟨v,h1,h2⟩:=en.at_ j d hj;have hlt:j<Z.length:=(List.getElem?_eq_some_iff.mp hj).1;have hb':=List.all_eq_true.mp hb j (List.mem_range.mpr hlt);rw [hj] at hb';have hb2:d.und n=true:=by
   rcases Bool.or_eq_true_iff.mp hb' with z | z;·exact absurd (by simpa using z) (Ne.symm q)
   ·exact z
  exact ⟨v,h1,h2.cut nd hl e1 e2 hu hb2⟩
section
variable {X:Cx}{E:XK}
theorem zdw(i:Nat){s1 s2:Stmt}{rs:List Stmt}{f1 f2 f3:FS}(h1:RS X E s1 f1)(h2:RS X E s2 f2)(h3:RSs X E rs f3):RSs X E (s1::s2::rs) (zS (z6v i (zS f1 f2)) f3):= z6n (z47 h1 (z47 (PS.freezeV h2) h3)) fun D O H ⟨Y,Z,s,r,en,h⟩=>by
  refine ⟨Y,Z,s,r,en,?_⟩;simp only [zS,z6v] at h;cases e1:f1 Z s with
  | no=>rw [e1] at h;exact h | ex c s'=>rw [e1] at h;exact (show False from h).elim | ok fl sa=>
   rw [e1] at h;cases fl with
   | nx Za=>
    simp only [R.bind_ok] at h;intro b H1 Y1 stp1 dn1;cases b with
    | nx O1=>
     refine ⟨Y1,Za,sa,stp1.rep,dn1,?_⟩;cases e2:f2 Za sa with
     | no=>rw [e2] at h;exact h | ex c s'=>rw [e2] at h;exact (show False from h).elim | ok fl2 sb=>
      rw [e2] at h;cases fl2 with
      | nx Zb=>
       simp only at h;intro b2 H2 Y2 stp2 dn2;cases b2 with
       | nx O2=>
        have stp:=stp1.trans stp2;have en2:uf (gm X) H2 Y2 Zb O2:=dn2;split at h
        ·rename_i l el;split at h
         ·rename_i xs ex;split at h
          ·rename_i hl;simp only [R.bind_ok] at h;obtain ⟨v,q1,q2⟩:=en2.at_ i _ el;simp only [Den] at q2;obtain ⟨a,rfl,ia,ka⟩:=q2;obtain ⟨vs,ha,k⟩:=stp.frzC (by rw [r.len];exact hl.1) ex ia ka;refine ⟨a,vs,ha,fun o=>?_⟩;obtain ⟨st3,dn3⟩:=k o;rw [r.len] at st3 dn3;have en3:=uf.cut (u:=.frz o (.lst vs)) en2 stp.rep.nd hl.1 ia ha ⟨vs,rfl⟩ hl.2 el dn3;exact ⟨Y2.take s.length,Zb.set i (some (.lst xs)),sb.take s.length,st3.rep,en3,okR.rebase h st3⟩
          ·exact h.elim
         ·exact h.elim
        ·exact h.elim | _=>exact (show False from dn2).elim
      | _=>exact h.elim
    | _=>exact (show False from dn1).elim
   | _=>exact h.elim
@[simp] theorem zeR (i:Nat)(f:FS)(Z:Ev)(s:Sto):z6v i f Z s=(match f Z s with
 | .ok (.nx Z1) s1=>match Z1[i]? with
  | some (some (.loc l))=>match s1[l]? with
   | some xs=>if s.length<=l/\z5L s.length i Z1=true then .ok (.nx (Z1.set i (some (.lst xs)))) (s1.take s.length) else .no | none=>.no
  | _=>.no
 | _=>.no):=id rfl
end
def z8J:List Int->List (List Int)->List Int
 | b,[]=>b | b,x::r=>z8J (if z4N x b then x else b) r
def z9t:Mir:=fun ds s=>match ds with
 | [d]=>match (zF s d).bind z3Q with
  | some (n::L)=>.ok (.tup ((z8J n L).map D.int)) s | _=>.no
 | _=>.no
theorem z1Y{bt:Nat->Nat->Bool}{L:List (List Int)}(hb:∀ i j,bt i j=z4N (L.getD i []) (L.getD j [])):∀ k,k<L.length->∀ n M,L=n::M->L.getD (argBest bt k) []=z8J n (M.take k)
 | 0,_,n,M,e=>by subst e;simp [argBest,z8J] | k+1,hk,n,M,e=>by
  have ih:=z1Y hb k (by omega) n M e;have hM:k<M.length:=by subst e;simpa using hk
  have gk:L.getD (k+1) []=M[k]:=by subst e;simp [List.getD,hM]
  have app:∀ (b:List Int)(A:List (List Int))(x:List Int),z8J b (A++[x])=if z4N x (z8J b A) then x else z8J b A:=by
   intro b A;induction A generalizing b with
   | nil=>intro x;rfl | cons y A ih=>intro x;exact ih _ x
  rw [List.take_add_one,List.getElem?_eq_getElem hM,Option.toList_some,app,<- ih];simp only [argBest,hb (k+1) (argBest bt k),gk];split;·exact gk
  ·rfl
section
variable {X:Cx}{E:XK}
def ziX(K:W.Frag):List V->Hp->VK->Prop:=fun xs H Q=>∃ b p ys n L,xs=[.ref p]/\Sq b K H p ys/\Paired (fun v ns=>AtN H v ns) ys (n::L)/\∀ v,AtN H v (z8J n L)->Q v H
theorem z3a{α β:Type}{R:α->β->Prop}:∀ {xs:List α}{ys:List β},Paired R xs ys->∀ (i:Nat)(x:α),xs[i]? = some x->∃ y,ys[i]? = some y/\R x y
 | _,_,.nil,i,x,e=>by simp at e | _,_,.cons h r,0,x,e=>by simp at e;subst e;exact ⟨_,rfl,h⟩ | _,_,.cons h r,i+1,x,e=>by simpa using z3a r i x (by simpa using e)
theorem z3e{α β:Type}{R:α->β->Prop}:∀ {xs:List α}{ys:List β},Paired R xs ys->xs.length=ys.length
 | _,_,.nil=>rfl | _,_,.cons h r=>by simp [z3e r]
theorem AtN.tuple{pins:List (Addr×Obj)}{O:L2.St}{H:Hp}{s:Shared}(I:Inv X pins O H s){v:V}{u:Value}{ns:List Int}(a:AtN H v ns)(r:xx v u):∃ b its,v=.ref b/\u=.ref b/\s.heap.IsTuple b its/\ul its.toList ns:=by
 obtain ⟨b,rfl,e⟩:=a;cases (show u=Value.ref b from r);obtain ⟨its,r,pl,hz⟩:=I.tuple (.inl (.inl e));exact ⟨b,its.toArray,rfl,rfl,pl,ul.of_vals (by simpa using r)⟩
theorem z9N (hc:X.calm=true) (hu:X.A.units+64<cLine):wL X (.builtin "min") (ziX X.K):=by
 intro pins s O H xs us Q I r h;obtain ⟨b,p,ys,n,L,rfl,hq,hp,q⟩:=h;obtain ⟨u,rfl,ru⟩:=vals1 r;cases ru;obtain ⟨its,rv,co⟩:=I.sq hq;have hl:its.length=(n::L).length:=by rw [<- z3e hp,rv.length]
 have at_:∀ i v,its.toArray[i]? = some v->∃ y,ys[i]? = some y/\xx y v/\AtN H y ((n::L).getD i []):=fun i v e=>by
  have e':its[i]? = some v:=by simpa using e
  have hi:i<ys.length:=by have:=(List.getElem?_eq_some_iff.mp e').1;have:=rv.length;omega
  obtain ⟨w,hw,rw_⟩:=rv.get (i:=i) (x:=ys[i]) (List.getElem?_eq_getElem hi);rw [e'] at hw;cases hw;obtain ⟨ns,e1,e2⟩:=z3a hp i _ (List.getElem?_eq_getElem hi);exact ⟨ys[i],List.getElem?_eq_getElem hi,rw_,by rw [List.getD,e1];exact e2⟩
 refine z92 (Zz.z1Q (I.ok.hd hc) co fun s2 e2 St W st bd old=>?_);subst e2;refine ⟨_,_,_,_,_,_,fun i j=>z4N ((n::L).getD i []) ((n::L).getD j []),fun h=>∀ c o,s.heap.get? c=some o->h.get? c=some o,rfl,W,st,bd,by simp [hl],fun c o e=>Heap.get?_push_of_some _ e,fun i j vi vj s3 Q3 E3 kh pi pj q3=>?_,fun h h' kh k c o e=>?_,fun v h' tk e hk=>?_⟩
 ·obtain ⟨yi,_,ri,ai⟩:=at_ i vi pi;obtain ⟨yj,_,rj,aj⟩:=at_ j vj pj;obtain ⟨b1,t1,rfl,rfl,x1,z1⟩:=ai.tuple I ri;obtain ⟨b2,t2,rfl,rfl,x2,z2⟩:=aj.tuple I rj;have up:∀ {c:Addr} {its:Array Value},s.heap.IsTuple c its->s3.heap.IsTuple c its:=fun ⟨o,g,w⟩=>⟨o,kh _ _ g,w⟩;exact zgg (by have:X.A.in1.units=X.A.units+1:=rfl;omega) (up x1) (up x2) z1 z2 q3
 ·refine k c o (fun z=>?_) (by rw [Heap.size_push];exact Nat.lt_succ_of_lt (Heap.lt_size e)) (kh c o e);have:c=s.heap.objs.size:=by simpa using z
  exact absurd (this ▸ Heap.lt_size e) (Nat.lt_irrefl _)
 ·obtain ⟨y,_,ry,ay⟩:=at_ _ v e;have em:=z1Y (bt:=fun i j=>z4N ((n::L).getD i []) ((n::L).getD j [])) (L:=n::L) (fun i j=>rfl) (its.toArray.size-1) (by simp [hl]) n L rfl;have tk':L.take (its.toArray.size-1)=L:=by simp [hl]
  rw [tk'] at em;rw [em] at ay;exact ⟨y,H,I.kept (t':=tk) (old h' hk),ry,q y ay⟩
theorem zgs(hc:X.calm=true)(hu:X.A.units+64<cLine):∃ r,wL X (.builtin "min") r/\z0k X E r z9t:=⟨_,z9N hc hu,fun H Y s ds vs Q r hd h=>by
 unfold z9t at h;split at h
 ·rename_i d;split at h
  ·rename_i n L e;obtain ⟨xs,e1,e2⟩:=Option.bind_eq_some_iff.mp e;obtain ⟨v,rfl,dn⟩:=z02 hd;obtain ⟨a,ws,rfl,q1,q2⟩:=vE (K:=X.K) r e1 dn;obtain ⟨b,q⟩:=z5Z q1;refine ⟨b,a,ws,n,L,rfl,q,z1n e2 q2,fun v av=>h.here r ?_⟩;obtain ⟨c,rfl,ec⟩:=av;simp only [Den];refine ⟨c,_,rfl,ec,?_⟩;generalize z8J n L=ns;induction ns with
   | nil=>exact zB.nil | cons i r ih=>exact zB.cons yR ih
  ·exact h.elim
 ·exact h.elim⟩
end
end Dd
namespace Pg
open PySem.Spec L2 Dd
def ql:List (Str×Str):=[("next","by_next"),("least","by_least"),("all","by_all"),("turn","by_turn")]
@[simp] def z4Z:FS:=(xH (z6f (eIs "int" (zc 0)) (zga (eIs "bool" (zc 0)))))
def z1U:FS:=z4Z
def uU:Mir:=Mof ["thing"] 1 z1U
@[simp] def z5b:FS:=(xH (z6f (eIs "tuple" (zc 0)) (z7s dLe dLe (eC (.int 2)) (zd yE (za (zc 0) zh)) (eC (.int 4)))))
def z1w:FS:=z5b
def xG:Mir:=Mof ["thing"] 1 z1w
@[simp] def z2S:FS:=(xH (eC (.bl false)))
@[simp] def z2y:FS:=(fIf (fOr (z6h (tOf (eIs "tuple" (zc 0)))) (tOf (eOp dNe (zd yE (za (zc 0) zh)) (zc 1)))) z2S xJ)
@[simp] def z2W:FS:=(xH (zd z8U (za (zn (zV (zc 0)) [none] (yn 0) zR (zd uU (za (zc 0) zh))) zh)))
def kO:FS:=(zS z2y z2W)
def yM:Mir:=Mof ["thing","many"] 2 kO
@[simp] def z8C:FS:=(xH (eC (.bl false)))
@[simp] def z8x:FS:=(fIf (fOr (z6h (tOf (zd xG (za (zc 0) zh)))) (z6h (tOf (zd yM (za (zc 0) (za (zd yE (za (zc 0) zh)) zh)))))) z8C xJ)
@[simp] def z8o:FS:=(xH (z6f (eOp dGe (zd z0m (za (zc 0) zh)) (eC (.int 0))) (eOp dGt (zd uy (za (zc 0) zh)) (eC (.int 0)))))
def z5l:FS:=(zS z8x z8o)
def qe:Mir:=Mof ["thing"] 1 z5l
@[simp] def z57:FS:=fNo
@[simp] def z6b:FS:=(fIf (z6h (tOf (zd qe (za (zc 0) zh)))) z57 xJ)
def z2o:FS:=z6b
def yx:Mir:=Mof ["thing"] 1 z2o
@[simp] def z4H:FS:=(vH (zd yx (za (zc 0) zh)))
@[simp] def kN:FS:=(xH (eOp dEq (zd yE (za (zn (zV (zc 0)) [none] (yn 0) (tOf (eOp dNe (zc 0) (eC (.int 0)))) (zc 0)) zh)) (eC (.int 1))))
def z0u:FS:=(zS z4H kN)
def yA:Mir:=Mof ["lot"] 1 z0u
@[simp] def z5W:FS:=(xH (zd zcA (za (zn (z5u (za (zc 0) (za (zc 1) zh))) [none,none] (xN 0 1) zR (eOp wW (zc 0) (zc 1))) zh)))
def z1l:FS:=z5W
def uX:Mir:=Mof ["line","numbers"] 2 z1l
@[simp] def jS:FS:=(xH (zd zQ (za (zn (qU (za (zd yE (za (zc 0) zh)) zh)) [some 0,none] (yn 1) zR (zd zQ (za (zn (zV (zc 0)) [some 1,none] (yn 1) zR (eOp dIx (zc 1) (zc 0))) zh))) zh)))
def kE:FS:=jS
def zT:Mir:=Mof ["table"] 1 kE
@[simp] def ja:FS:=(wF 1 (eLR (za (zc 0) zh)))
@[simp] def qV:FS:=(xH (zd zQ (za (zn (zV (zc 1)) [some 1,none] (yn 1) zR (zd zQ (za (zn (zV (zc 0)) [some 1,none] (yn 1) zR (eIf (tOf (eOp dEq (zc 0) (zc 1))) (eC (.int 1)) (eC (.int 0)))) zh))) zh)))
def jT:FS:=(zS ja qV)
def yt:Mir:=Mof ["size","places"] 1 jT
@[simp] def z1s:FS:=(xH (zd zQ (za (zn (zV (zc 0)) [some 1,none] (yn 1) zR (zd uX (za (zc 1) (za (zc 0) zh)))) zh)))
def jG:FS:=z1s
def yN:Mir:=Mof ["lines","numbers"] 2 jG
@[simp] def z59:FS:=(xH (eC (.bl false)))
@[simp] def z5f:FS:=(fIf (z6h (tOf (zd xG (za (zc 0) zh)))) z59 xJ)
@[simp] def z0o:FS:=(xH (zd z8U (za (zn (zV (zc 0)) [some 0,none] (yn 1) zR (zd yM (za (zc 1) (za (zd yE (za (zc 0) zh)) zh)))) zh)))
def z1y:FS:=(zS z5f z0o)
def wP:Mir:=Mof ["thing"] 1 z1y
@[simp] def z2K:FS:=fNo
@[simp] def z2A:FS:=(fIf (z6h (tOf (zd wP (za (zc 0) zh)))) z2K xJ)
def kW:FS:=z2A
def yL:Mir:=Mof ["thing"] 1 kW
@[simp] def z2Q:FS:=(vH (zd yL (za (zc 0) zh)))
@[simp] def z2J:FS:=(vH (zd yL (za (zc 1) zh)))
@[simp] def z2Z:FS:=fNo
@[simp] def z2B:FS:=(fIf (tOf (eOp dNe (zd yE (za (zc 0) zh)) (zd yE (za (zc 1) zh)))) z2Z xJ)
@[simp] def jR:FS:=(xH (zd zT (za (zd zQ (za (zn (zV (zd zT (za (zc 1) zh))) [some 0,none] (yn 1) zR (zd yN (za (zc 0) (za (zc 1) zh)))) zh)) zh)))
def kT:FS:=(zS z2Q (zS z2J (zS z2B jR)))
def xz:Mir:=Mof ["one","other"] 2 kT
@[simp] def vB:FS:=(wF 2 (za5 (za (zd yt (za (zc 0) zh)) zh)))
@[simp] def yV:FS:=(vH (z8G (zc 2) (zd xz (za (eOp dIx (zc 2) (z0B (eC (.int 1)))) (za (zc 3) zh)))))
@[simp] def vC:FS:=(z5B (zV (zc 1)) (yn 3) yV)
@[simp] def jA:FS:=(xH (zc 2))
def vP:FS:=(zS vB (zS vC jA))
def yb:Mir:=Mof ["size","tables","products","table"] 2 vP
@[simp] def wE:FS:=(wF 1 (za7 (zc 0) (zd uy (za (zc 0) zh))))
@[simp] def wy:FS:=(xH (jE (za (zc 1) (za (eOp uF (eOp uF (eSl (zc 0) zZ (wn (zc 1))) (jE (za (eC (.int 0)) zh))) (eSl (zc 0) (wn (eOp uF (zc 1) (eC (.int 1)))) zZ)) zh))))
def wH:FS:=(zS wE wy)
def zx:Mir:=Mof ["lot","at"] 1 wH
@[simp] def jp:FS:=(xH (za7 (zc 0) (zd z0m (za (zn (zV (zc 0)) [none] (yn 0) (tOf (eOp dNe (zc 0) (eC (.int 0)))) (zc 0)) zh))))
def jJ:FS:=jp
def yh:Mir:=Mof ["lot"] 1 jJ
@[simp] def z29:FS:=(xH (zn (qU (za (zd yE (za (zc 0) zh)) zh)) [some 1,none] (yn 1) (tOf (eOp dNe (zc 1) (zc 0))) (zc 1)))
def z39:FS:=z29
def xR:Mir:=Mof ["lot","place"] 2 z39
@[simp] def z6X:FS:=(xH (z6f (eIs "str" (zc 0)) (z7o ql false (zc 0))))
def z3k:FS:=z6X
def qW:Mir:=Mof ["thing"] 1 z3k
@[simp] def z65:FS:=(xH (eIf (tOf (eOp dEq (zc 0) (eC (.str "turn")))) (eOp uF (eSl (zc 1) (wn (eC (.int 1))) zZ) (eSl (zc 1) zZ (wn (eC (.int 1))))) (zc 1)))
def z7B:FS:=z65
def vk:Mir:=Mof ["rule","numbers"] 2 z7B
@[simp] def z74:FS:=(zbr (zd zx (za (zc 0) zh)) (xN 1 2))
@[simp] def z28:FS:=(xH (jE (za (za7 (zc 2) (zd uy (za (zc 2) zh))) (za (z8h (za (zc 1) zh)) zh))))
def z3q:FS:=(zS z74 z28)
def wX:Mir:=Mof ["lot","greatest","others"] 1 z3q
@[simp] def z5G:FS:=(zbr (zd zx (za (zc 0) zh)) (xN 1 2))
@[simp] def z5k:FS:=(xH (jE (za (zd yh (za (zc 2) zh)) (za (z8h (za (zc 1) zh)) zh))))
def z1h:FS:=(zS z5G z5k)
def wl:Mir:=Mof ["lot","greatest","others"] 1 z1h
@[simp] def z8W:FS:=(wF 1 (zd yh (za (zc 0) zh)))
@[simp] def z8K:FS:=(xH (jE (za (zc 1) (za (zd xR (za (zc 0) (za (zc 1) zh))) zh))))
def z4U:FS:=(zS z8W z8K)
def uo:Mir:=Mof ["lot","by"] 1 z4U
@[simp] def z6D:FS:=(xH (jE (za (eC (.int 0)) (za (z8h zh) zh))))
@[simp] def z6q:FS:=(fIf (tOf (eOp dEq (eOp dIx (zc 0) (eC (.int 0))) (eC (.int 0)))) z6D xJ)
@[simp] def z72:FS:=(xH (jE (za (eC (.int 0)) (za (zd xR (za (zc 0) (za (eC (.int 0)) zh))) zh))))
def z3p:FS:=(zS z6q z72)
def wY:Mir:=Mof ["lot"] 1 z3p
@[simp] def z3W:FS:=fNo
@[simp] def z4w:FS:=(fIf (z6h (tOf (zd qW (za (zc 0) zh)))) z3W xJ)
def z0z:FS:=z4w
def xh:Mir:=Mof ["thing"] 1 z0z
@[simp] def z4Y:FS:=(wF 2 (zhu ql (zc 0)))
@[simp] def z0D:FS:=(zbr (z7n 2 [("by_next",wX),("by_least",wl),("by_all",uo),("by_turn",wY)] (za (zc 1) zh)) (xN 3 4))
@[simp] def z0y:FS:=(xH (jE (za (zc 3) (za (zn (qU (za (zd yE (za (zc 1) zh)) zh)) [some 4,some 1,some 3,none] (yn 3) zR (eIf (tOf (eOp (z9b false) (zc 3) (zc 0))) (eOp z5q (eOp dIx (zc 1) (zc 3)) (eOp dIx (zc 1) (zc 2))) (eC (.int 0)))) zh))))
def z2n:FS:=(zS z4Y (zS z0D z0y))
def xr:Mir:=Mof ["rule","lot","deal","by","divided"] 2 z2n
@[simp] def jg:FS:=(vH (zd xh (za (zc 0) zh)))
@[simp] def jh:FS:=(vH (zd yx (za (zc 1) zh)))
def vA:FS:=(zS jg jh)
def zC:Mir:=Mof ["rule","lot"] 2 vA
@[simp] def z3V:FS:=(vH (zd zC (za (zc 0) (za (zc 1) zh))))
@[simp] def z40:FS:=fNo
@[simp] def z3K:FS:=(fIf (tOf (zd yA (za (zc 1) zh))) z40 xJ)
def z0G:FS:=(zS z3V z3K)
def yQ:Mir:=Mof ["rule","lot"] 2 z0G
@[simp] def zbm:FS:=(vH (zd yQ (za (zc 0) (za (zc 1) zh))))
@[simp] def zck:FS:=(zbr (zd xr (za (zc 0) (za (zc 1) zh))) (xN 2 3))
@[simp] def z83:FS:=(wF 4 (zd zQ (za (zn (z5u (za (zc 1) (za (zc 3) zh))) [some 1,some 2,none,none] (xN 2 3) zR (eOp zd1 (zc 2) (eOp wW (zc 3) (eOp dIx (zc 0) (zc 1))))) zh)))
@[simp] def z7U:FS:=(xH (zd vk (za (zc 0) (za (zc 4) zh))))
def z9K:FS:=(zS zbm (zS zck (zS z83 z7U)))
def M_step:Mir:=Mof ["rule","lot","by","quotients","left"] 2 z9K
@[simp] def z2Y:FS:=(vH (zd yQ (za (zc 0) (za (zc 1) zh))))
@[simp] def z2X:FS:=(zbr (zd xr (za (zc 0) (za (zc 1) zh))) (xN 2 3))
@[simp] def jL:FS:=(xH (zd zQ (za (zn (z5u (za (zd yt (za (zd yE (za (zc 1) zh)) zh)) (za (zc 3) zh))) [some 0,some 2,none,none] (xN 2 3) zR (zd vk (za (zc 0) (za (eOp uF (eOp uF (eSl (zc 2) zZ (wn (zc 1))) (jE (za (eOp uF (eOp dIx (zc 2) (zc 1)) (zc 3)) zh))) (eSl (zc 2) (wn (eOp uF (zc 1) (eC (.int 1)))) zZ)) zh)))) zh)))
def kK:FS:=(zS z2Y (zS z2X jL))
def xB:Mir:=Mof ["rule","lot","by","quotients"] 2 kK
@[simp] def zex:FS:=(vH (zd zC (za (zc 0) (za (zc 1) zh))))
@[simp] def z9x:FS:=(wF 2 (za5 (za (zc 1) zh)))
@[simp] def z3x:FS:=(vH (z8G (zc 2) (zd M_step (za (zc 0) (za (eOp dIx (zc 2) (z0B (eC (.int 1)))) zh)))))
@[simp] def zao:FS:=(z3j (z6h (tOf (zd yA (za (eOp dIx (zc 2) (z0B (eC (.int 1)))) zh)))) z3x)
@[simp] def zdM:FS:=(xH (zc 2))
def zcD:FS:=(zS zex (zS z9x (zS zao zdM)))
def M_run:Mir:=Mof ["rule","lot","lots"] 2 zcD
@[simp] def kP:FS:=(xH (zn (zV (eSl (z2M (zd M_run (za (zc 0) (za (zc 1) zh)))) zZ (wn (z0B (eC (.int 1)))))) [some 0,none] (yn 1) zR (zd xB (za (zc 0) (za (zc 1) zh)))))
def z0H:FS:=kP
def wa:Mir:=Mof ["rule","lot"] 2 z0H
@[simp] def z1m:FS:=(wF 2 (zd wa (za (zc 0) (za (zc 1) zh))))
@[simp] def jb:FS:=(xH (zd yb (za (zd yE (za (zc 1) zh)) (za (zc 2) zh))))
def jH:FS:=(zS z1m jb)
def yu:Mir:=Mof ["rule","lot","tables"] 2 jH
@[simp] def z2b:FS:=(vH (zd yx (za (zc 0) zh)))
@[simp] def z2m:FS:=fNo
@[simp] def je:FS:=(fIf (tOf (eOp dEq (eOp dIx (zc 0) (z0B (eC (.int 1)))) (eC (.int 0)))) z2m xJ)
def jM:FS:=(zS z2b je)
def xf:Mir:=Mof ["lot"] 1 jM
@[simp] def z6O:FS:=(vH (zd xh (za (zc 0) zh)))
@[simp] def z6C:FS:=(vH (zd xf (za (zc 1) zh)))
@[simp] def z76:FS:=(wF 2 zfk)
@[simp] def z2q:FS:=(zaw (zc 2) (zc 4) (eC (.bl true)))
@[simp] def qp:FS:=(fIf (tOf (eOp dNe (eOp dIx (zc 4) (z0B (eC (.int 1)))) (eC (.int 0)))) z2q xJ)
@[simp] def qo:FS:=(z5B (zV (zd zT (za (zc 3) zh))) (yn 4) qp)
@[simp] def z2c:FS:=(z5B (zV (eSl (z2M (zd yu (za (zc 0) (za (zc 1) zh)))) (wn (eC (.int 1))) zZ)) (yn 3) qo)
@[simp] def z1D:FS:=(xH (zd z1P (za (zc 2) zh)))
def z3t:FS:=(zS z6O (zS z6C (zS z76 (zS z2c z1D))))
def xa:Mir:=Mof ["rule","lot","found","product","column"] 2 z3t
@[simp] def z0Z:FS:=(xH (eOp dIx (zc 0) (zc 1)))
@[simp] def z0R:FS:=(fIf (tOf (eOp dLt (zc 1) (zd yE (za (zc 0) zh)))) z0Z xJ)
@[simp] def z0X:FS:=(xH (eC (.int 0)))
def vW:FS:=(zS z0R z0X)
def xt:Mir:=Mof ["_law_script","_law_k"] 2 vW
@[simp] def vx:FS:=(wF 2 (eLR (za (zd yE (za (zc 1) zh)) zh)))
@[simp] def qN:FS:=(xH (jE (za (eC (.int 0)) (za (zn (zV (eSl (zc 2) (wn (eC (.int 1))) zZ)) [some 1,none] (yn 1) (tOf (eOp dGt (eOp dIx (zc 0) (eC (.int 0))) (eC (.int 0)))) (zc 1)) zh))))
@[simp] def xl:FS:=(fIf (tOf (eOp dEq (zc 0) (eC (.str "turn")))) qN xJ)
@[simp] def vc:FS:=(wF 3 (za7 (zc 1) (zd z0m (za (zn (zV (zc 1)) [none] (yn 0) (tOf (eOp dGt (zc 0) (eC (.int 0)))) (zc 0)) zh))))
@[simp] def qR:FS:=(xH (jE (za (zc 3) (za (zn (zV (zc 2)) [some 3,none] (yn 1) (tOf (eOp dNe (zc 1) (zc 0))) (zc 1)) zh))))
@[simp] def xj:FS:=(fIf (tOf (eOp dEq (zc 0) (eC (.str "all")))) (zS vc qR) xJ)
@[simp] def vt:FS:=(wF 4 (za7 (zc 1) (zd uy (za (zc 1) zh))))
@[simp] def vb:FS:=(wF 5 (zn (zV (zc 2)) [some 1,some 4,none] (yn 2) (zg2 (tOf (eOp dNe (zc 2) (zc 1))) (tOf (eOp dGt (eOp dIx (zc 0) (zc 2)) (eC (.int 0))))) (jE (za (eOp dIx (zc 0) (zc 2)) (za (zc 2) zh)))))
@[simp] def uT:FS:=(xH (jE (za (eOp dIx (zd z9t (za (zc 5) zh)) (eC (.int 1))) (za (z8h (za (zc 4) zh)) zh))))
@[simp] def xq:FS:=(fIf (tOf (eOp dEq (zc 0) (eC (.str "least")))) uT xJ)
@[simp] def wN:FS:=(wF 6 (zd uy (za (zn (zV (zc 5)) [none,none] (xN 0 1) zR (zc 0)) zh)))
@[simp] def uM:FS:=(xH (jE (za (zd z0m (za (zn (zV (zc 5)) [some 6,none,none] (xN 1 2) (tOf (eOp dEq (zc 1) (zc 0))) (zc 2)) zh)) (za (z8h (za (zc 4) zh)) zh))))
def jw:FS:=(zS vx (zS xl (zS xj (zS vt (zS vb (zS xq (zS wN uM)))))))
def yT:Mir:=Mof ["_law_rule","_law_lot_here","_law_places","_law_by","_law_top","_law_others","_law_greatest"] 2 jw
@[simp] def uP:FS:=(xH (eOp dLt (zd yE (za (zn (zV (zc 0)) [none] (yn 0) (tOf (eOp dGt (zc 0) (eC (.int 0)))) (zc 0)) zh)) (eC (.int 2))))
def qJ:FS:=uP
def yk:Mir:=Mof ["_law_lot_here"] 1 qJ
@[simp] def z5P:FS:=(wF 2 (za5 zh))
@[simp] def z60:FS:=(wF 4 (eC (.int 0)))
@[simp] def z5J:FS:=(wF 4 (eOp uF (zc 4) (eOp wW (zc 5) (zc 6))))
@[simp] def z5s:FS:=(z5B (z5u (za (zc 3) (za (zc 1) zh))) (xN 5 6) z5J)
@[simp] def z4W:FS:=(vH (z8G (zc 2) (zc 4)))
@[simp] def z5h:FS:=(z5B (zV (zc 0)) (yn 3) (zS z60 (zS z5s z4W)))
@[simp] def z4S:FS:=(xH (zd zQ (za (zc 2) zh)))
def z6M:FS:=(zS z5P (zS z5h z4S))
def z98:Mir:=z4E (Mof ["_law_table","_law_numbers","_law_found","_law_line","_law_total","_law_one","_law_other"] 2 z6M)
@[simp] def ub:FS:=(wF 2 (za5 zh))
@[simp] def ww:FS:=(wF 4 (eC (.int 0)))
@[simp] def vN:FS:=(wF 4 (eOp uF (zc 4) (eOp wW (zc 5) (zc 6))))
@[simp] def xC:FS:=(z5B (z5u (za (zc 3) (za (zc 1) zh))) (xN 5 6) vN)
@[simp] def xE:FS:=(vH (z8G (zc 2) (zc 4)))
@[simp] def ue:FS:=(z5B (zV (zc 0)) (yn 3) (zS ww (zS xC xE)))
@[simp] def vZ:FS:=(xH (zd zQ (za (zc 2) zh)))
def jF:FS:=(zS ub (zS ue vZ))
def wo:Mir:=z4E (Mof ["_law_table_here","_law_numbers","_law_found","_law_line","_law_total","_law_one","_law_other"] 2 jF)
@[simp] def z5n:FS:=(xH (za5 (za (eOp zd1 (zc 0) (eOp z7g (eC (.int 10)) (eC (.int 18)))) zh)))
@[simp] def z5e:FS:=(fIf (tOf (eOp dGe (zc 0) (eOp z7g (eC (.int 10)) (eC (.int 18))))) z5n xJ)
@[simp] def z5v:FS:=(wF 1 (eC (.int 0)))
@[simp] def z0q:FS:=(wF 3 (eOp z8P (eOp wW (eOp uF (eOp uF (eOp z8P (zc 0) (eC (.int 2147483629))) (eOp wW (eC (.int 7919)) (zc 2))) (eC (.int 1))) (eC (.int 48271))) (eC (.int 2147483647))))
@[simp] def z0O:FS:=(wF 3 (eOp z8P (eOp uF (eOp uF (eOp wW (zc 3) (zc 3)) (eOp wW (eC (.int 69621)) (zc 2))) (eC (.int 7))) (eC (.int 2147483587))))
@[simp] def z0w:FS:=(wF 1 (eOp uF (eOp wW (zc 1) (eC (.int 2147483587))) (zc 3)))
@[simp] def z0I:FS:=(z5B (qU (za (eC (.int 64)) zh)) (yn 2) (zS z0q (zS z0O z0w)))
@[simp] def z6d:FS:=(xH (za5 (za (zc 1) zh)))
def jZ:FS:=(zS z5e (zS z5v (zS z0I z6d)))
def vM:Mir:=Mof ["_law_cell","_law_number","_law_j","_law_more"] 1 jZ
@[simp] def xk:FS:=(wF 2 (zd yE (za (zc 0) zh)))
@[simp] def xo:FS:=(wF 3 (zn (qU (za (zc 2) zh)) [some 0,some 1,none] (yn 2) zR (zd z98 (za (zc 0) (za (zn (zV (zc 1)) [some 2,none] (yn 1) zR (eOp dIx (zc 1) (zc 0))) zh)))))
@[simp] def xm:FS:=(xH (zd zQ (za (zn (qU (za (zc 2) zh)) [some 3,none] (yn 1) zR (zd zQ (za (zn (zV (zc 0)) [some 1,none] (yn 1) zR (eOp dIx (zc 1) (zc 0))) zh))) zh)))
def wC:FS:=(zS xk (zS xo xm))
def yS:Mir:=Mof ["_law_one","_law_other","_law_size","_law_sides"] 2 wC
@[simp] def wg:FS:=(wF 2 (zd yE (za (zc 0) zh)))
@[simp] def wb:FS:=(wF 3 (zn (qU (za (zc 2) zh)) [some 0,some 1,none] (yn 2) zR (zd wo (za (zc 0) (za (zn (zV (zc 1)) [some 2,none] (yn 1) zR (eOp dIx (zc 1) (zc 0))) zh)))))
@[simp] def we:FS:=(xH (zd zQ (za (zn (qU (za (zc 2) zh)) [some 3,none] (yn 1) zR (zd zQ (za (zn (zV (zc 0)) [some 1,none] (yn 1) zR (eOp dIx (zc 1) (zc 0))) zh))) zh)))
def ut:FS:=(zS wg (zS wb we))
def wM:Mir:=Mof ["_law_one","_law_other","_law_size","_law_sides"] 2 ut
@[simp] def uS:FS:=(xH (z8h (za (eC (.str "next")) (za (eC (.str "least")) (za (eC (.str "all")) (za (eC (.str "turn")) zh))))))
def qM:FS:=uS
def xD:Mir:=Mof [] 0 qM
@[simp] def vn:FS:=(zbr (zd yT (za (zc 0) (za (zc 1) zh))) (xN 2 3))
@[simp] def vf:FS:=(wF 4 (zn (z8y (za (zc 1) zh)) [some 3,some 1,some 2,none,none] (xN 3 4) zR (eIf (tOf (eOp (z9b false) (zc 3) (zc 0))) (eOp z8P (zc 4) (eOp dIx (zc 1) (zc 2))) (zc 4))))
@[simp] def vz:FS:=(wF 5 (za5 zh))
@[simp] def yG:FS:=(wF 7 (z0r (qU (za (zd yE (za (zc 1) zh)) zh)) [some 6,none] (yn 1) zR (zd zai (za (eOp dEq (zc 0) (zc 1)) zh))))
@[simp] def qQ:FS:=(z4q (zc 7) (zc 2) (eOp z5q (eOp dIx (zc 1) (zc 6)) (eOp dIx (zc 1) (zc 2))))
@[simp] def yH:FS:=(fIf (tOf (eOp (z9b false) (zc 6) (zc 3))) qQ xJ)
@[simp] def xV:FS:=(vH (z8G (zc 5) (zc 7)))
@[simp] def vo:FS:=(z5B (qU (za (zd yE (za (zc 1) zh)) zh)) (yn 6) (zS (z6v 7 (zS yG yH)) xV))
@[simp] def wQ:FS:=(wF 4 (eOp uF (eSl (zc 4) (wn (eC (.int 1))) zZ) (eSl (zc 4) zZ (wn (eC (.int 1))))))
@[simp] def uJ:FS:=(wF 5 (zn (zV (zc 5)) [none] (yn 0) zR (eOp uF (eSl (zc 0) (wn (eC (.int 1))) zZ) (eSl (zc 0) zZ (wn (eC (.int 1)))))))
@[simp] def yF:FS:=(fIf (tOf (eOp dEq (zc 0) (eC (.str "turn")))) (zS wQ uJ) xJ)
@[simp] def xK:FS:=(xH (jE (za (zd zQ (za (zc 4) zh)) (za (zd zQ (za (zn (zV (zc 5)) [none] (yn 0) zR (zd zQ (za (zc 0) zh))) zh)) zh))))
def qX:FS:=(zS vn (zS vf (zS vz (zS vo (zS yF xK)))))
def yU:Mir:=z4E (Mof ["_law_rule","_law_lot_here","_law_by","_law_gone","_law_later","_law_lines","_law_place","_law_line"] 2 qX)
@[simp] def z3R:FS:=(wF 2 (eOp z8P (eOp dIx (zc 0) (eC (.int 0))) (zc 1)))
@[simp] def z4s:FS:=(z4q (zc 0) (eC (.int 0)) (eOp z5q (eOp dIx (zc 0) (eC (.int 0))) (zc 1)))
@[simp] def z3I:FS:=(xH (zc 2))
def z0M:FS:=(zS z3R (zS z4s z3I))
def zG:Mir:=Mof ["_law_pot_here","_law_far","_law_found"] 2 z0M
@[simp] def z2t:FS:=(xH (z6f (eIs "int" (zc 0)) (zga (eIs "bool" (zc 0)))))
def kB:FS:=z2t
def jr:Mir:=Mof ["_law_thing"] 1 kB
@[simp] def z07:FS:=(xH (z6f (eIs "int" (zc 0)) (zga (eIs "bool" (zc 0)))))
def qO:FS:=z07
def xy:Mir:=Mof ["_law_found"] 1 qO
@[simp] def vX:FS:=(wF 3 (zd z6m (za (eOp uF (zc 2) (eC (.int 1))) (za (eOp dIx (z8h (za (eC (.int 4)) (za (eC (.int 31)) (za (eC (.int 1001)) (za (eOp z7g (eC (.int 10)) (eC (.int 15))) (za (eOp z7g (eC (.int 10)) (eC (.int 39))) zh)))))) (zd zG (za (zc 0) (za (eC (.int 5)) zh)))) zh))))
@[simp] def ud:FS:=(wF 4 (z0r (qU (za (zc 1) zh)) [some 0,some 3,none] (yn 2) zR (zd zG (za (zc 0) (za (zc 1) zh)))))
@[simp] def vU:FS:=(wF 5 (zd zG (za (zc 0) (za (eC (.int 6)) zh))))
@[simp] def vR:FS:=(ziF 6 7 (za (zd zG (za (zc 0) (za (zc 1) zh))) (za (zd zG (za (zc 0) (za (zc 1) zh))) zh)))
@[simp] def jl:FS:=(z4q (zc 4) (zc 6) (eC (.int 0)))
@[simp] def wA:FS:=(fIf (tOf (eOp dEq (zc 5) (eC (.int 0)))) jl xJ)
@[simp] def jn:FS:=(z4q (zc 4) (zc 6) (eOp dIx (zc 4) (zc 7)))
@[simp] def wx:FS:=(fIf (tOf (eOp dEq (zc 5) (eC (.int 1)))) jn xJ)
@[simp] def qP:FS:=(z4q (zc 4) (zc 7) (eOp uF (eC (.int 1)) (zd zG (za (zc 0) (za (eOp zd1 (zc 3) (eC (.int 1))) zh)))))
@[simp] def wD:FS:=(fIf (tOf (eOp dEq (zd uy (za (zc 4) zh)) (eC (.int 0)))) qP xJ)
@[simp] def qH:FS:=(xH (zd zQ (za (zc 4) zh)))
def jN:FS:=(zS vX (zS ud (zS vU (zS vR (zS wA (zS wx (zS wD qH)))))))
def wv:Mir:=z4E (Mof ["_law_pot_here","_law_size","_law_most","_law_far","_law_found","_law_way","_law_at","_law_to"] 3 jN)
@[simp] def uB:FS:=(wF 1 (zd wv (za (zc 0) (za (eOp uF (eC (.int 2)) (zd zG (za (zc 0) (za (eC (.int 3)) zh)))) (za (eOp z7g (eC (.int 10)) (eC (.int 39))) zh)))))
@[simp] def wS:FS:=(wF 1 (eOp uF (eSl (zc 1) zZ (wn (z0B (eC (.int 1))))) (jE (za (eOp uF (eC (.int 1)) (zd zG (za (zc 0) (za (eC (.int 30)) zh)))) zh))))
@[simp] def wU:FS:=(fIf (tOf (eOp dEq (eOp dIx (zc 1) (z0B (eC (.int 1)))) (eC (.int 0)))) wS xJ)
@[simp] def jQ:FS:=(xH (zc 1))
def kA:FS:=(zS uB (zS wU jQ))
def wm:Mir:=Mof ["_law_pot_here","_law_lot_here"] 1 kA
@[simp] def z3P (Mr:Mir):FS:=(xH (eC (.bl false)))
@[simp] def kG (Mr:Mir):FS:=(fIf (fOr (tOf (eOp dNe (eIs "list" (zc 1)) (eIs "list" (zc 0)))) (tOf (eOp dNe (eIs "tuple" (zc 1)) (eIs "tuple" (zc 0))))) (z3P Mr) xJ)
@[simp] def qD (Mr:Mir):FS:=(xH (z6f (eOp dEq (zd yE (za (zc 0) zh)) (zd yE (za (zc 1) zh))) (zd z8U (za (zn (z5u (za (zc 0) (za (zc 1) zh))) [none,none] (xN 0 1) zR (zd Mr (za (zc 0) (za (zc 1) zh)))) zh))))
@[simp] def uY (Mr:Mir):FS:=(fIf (tOf (zhb "list" "tuple" (zc 1))) (zS (kG Mr) (qD Mr)) xJ)
@[simp] def z4m (Mr:Mir):FS:=(xH (z6f (eOp dEq (zc 0) (zc 1)) (eOp dEq (eIs "bool" (zc 0)) (eIs "bool" (zc 1)))))
@[simp] def z3O (Mr:Mir):FS:=(fIf (fOr (tOf (eOp dIs (zc 1) (eC .non))) (fOr (tOf (eIs "bool" (zc 1))) (tOf (eIs "str" (zc 1))))) (z4m Mr) xJ)
@[simp] def z3M (Mr:Mir):FS:=(xH (z6f (zd jr (za (zc 0) zh)) (eOp dEq (zc 0) (zc 1))))
def ur(Mr:Mir):FS:=(zS (uY Mr) (zS (z3O Mr) (z3M Mr)))
def yc:Nat->Mir
 | 0=>fun _ _=>.no | k+1=>Mof ["_law_found","_law_due"] 2 (ur (yc k))
@[simp] def z0Y (Mr:Mir):FS:=(xH (eOp dIs (zc 0) (eC .non)))
@[simp] def wZ (Mr:Mir):FS:=(fIf (tOf (eOp dIs (zc 1) (eC .non))) (z0Y Mr) xJ)
@[simp] def z0S (Mr:Mir):FS:=(xH (z6f (eIs "bool" (zc 0)) (eOp dEq (zc 0) (zc 1))))
@[simp] def vp (Mr:Mir):FS:=(fIf (tOf (eIs "bool" (zc 1))) (z0S Mr) xJ)
@[simp] def z0V (Mr:Mir):FS:=(xH (z6f (zd xy (za (zc 0) zh)) (eOp dEq (zc 0) (zc 1))))
@[simp] def va (Mr:Mir):FS:=(fIf (tOf (eIs "int" (zc 1))) (z0V Mr) xJ)
@[simp] def z0P (Mr:Mir):FS:=(xH (z6f (eIs "str" (zc 0)) (eOp dEq (zc 0) (zc 1))))
@[simp] def ve (Mr:Mir):FS:=(fIf (tOf (eIs "str" (zc 1))) (z0P Mr) xJ)
@[simp] def z0h (Mr:Mir):FS:=(xH (eC (.bl false)))
@[simp] def vm (Mr:Mir):FS:=(fIf (fOr (tOf (eOp dNe (eIs "tuple" (zc 1)) (eIs "tuple" (zc 0)))) (tOf (eOp dNe (eIs "list" (zc 1)) (eIs "list" (zc 0))))) (z0h Mr) xJ)
@[simp] def yY (Mr:Mir):FS:=(xH (z6f (eOp dEq (zd yE (za (zc 0) zh)) (zd yE (za (zc 1) zh))) (zd z8U (za (zn (z5u (za (zc 0) (za (zc 1) zh))) [none,none] (xN 0 1) zR (zd Mr (za (zc 0) (za (zc 1) zh)))) zh))))
def zM(Mr:Mir):FS:=(zS (wZ Mr) (zS (vp Mr) (zS (va Mr) (zS (ve Mr) (zS (vm Mr) (yY Mr))))))
def zU:Nat->Mir
 | 0=>fun _ _=>.no | k+1=>Mof ["_law_found","_law_due"] 2 (zM (zU k))
def wR:Mir:=zU 4
end Pg
namespace K43
open PySem.Spec L2 Dd Pg
@[simp] def xk:FS:=(wF 2 (zd yE (za (zc 0) zh)))
@[simp] def xo:FS:=(wF 3 (za5 zh))
@[simp] def xX:FS:=(vH (z8G (zc 3) (zd zQ (za (zn (qU (za (zc 2) zh)) [some 4,some 2,some 1,none] (yn 3) zR (zd zcA (za (zn (qU (za (zc 1) zh)) [some 0,some 3,some 2,none] (yn 3) zR (eOp wW (eOp dIx (zc 0) (zc 3)) (eOp dIx (eOp dIx (zc 2) (zc 3)) (zc 1)))) zh))) zh))))
@[simp] def xm:FS:=(z5B (zV (zc 0)) (yn 4) xX)
@[simp] def qI:FS:=(xH (zd zQ (za (zc 3) zh)))
def wC:FS:=(zS xk (zS xo (zS xm qI)))
def yS:Mir:=z4E (Mof ["_law_one","_law_other","_law_size","_law_found","_law_line"] 2 wC)
@[simp] def vd:FS:=(wF 2 (za5 zh))
@[simp] def vq:FS:=(wF 3 (zd zQ (za (zn (qU (za (zd yE (za (zc 1) zh)) zh)) [some 1,none] (yn 1) zR (zd zQ (za (zn (qU (za (zd yE (za (zc 0) zh)) zh)) [some 1,none] (yn 1) zR (zd zai (za (eOp dEq (zc 0) (zc 1)) zh))) zh))) zh)))
@[simp] def xY:FS:=(zbr (zd Pg.yU (za (zc 0) (za (zc 1) zh))) (xN 1 4))
@[simp] def xT:FS:=(wF 3 (zd yS (za (zc 3) (za (zc 4) zh))))
@[simp] def xW:FS:=(wF 6 (zd zQ (za (zn (zV (zc 3)) [some 5,none] (yn 1) zR (eOp dIx (zc 1) (zc 0))) zh)))
@[simp] def vh:FS:=(vH (z8G (zc 2) (zc 6)))
@[simp] def xZ:FS:=(fIf (zg2 (tOf (eOp dNe (eOp dIx (zc 6) (z0B (eC (.int 1)))) (eC (.int 0)))) (tOf (eOp (zdJ true) (zc 6) (zc 2)))) vh xJ)
@[simp] def xS:FS:=(z5B (qU (za (zd yE (za (zc 1) zh)) zh)) (yn 5) (zS xW xZ))
@[simp] def vw:FS:=(z3j (z6h (tOf (zd Pg.yk (za (zc 1) zh)))) (zS xY (zS xT xS)))
@[simp] def uL:FS:=(xH (zc 2))
def jf:FS:=(zS vd (zS vq (zS vw uL)))
def yP:Mir:=Mof ["_law_rule","_law_lot_here","_law_found","_law_whole_here","_law_table","_law_column","_law_some"] 2 jf
@[simp] def z25:FS:=(wF 2 (zd Pg.vM (za (zd Pg.xt (za (zc 0) (za (zc 1) zh))) zh)))
@[simp] def z1x:FS:=(wF 3 (zd Pg.wm (za (zc 2) zh)))
@[simp] def z1V:FS:=(wF 5 (z2M (zd yP (za (zc 4) (za (zc 3) zh)))))
@[simp] def z1p:FS:=(wF 7 (zd Pg.xa (za (zc 4) (za (zc 3) zh))))
@[simp] def ze6:FS:=(xH (eC (.bl false)))
@[simp] def z1v:FS:=(fIf (z6h (tOf (zd Pg.wR (za (zc 7) (za (zc 5) zh))))) ze6 xJ)
@[simp] def z15:FS:=(vH (z8G (zc 7) (jE zh)))
@[simp] def z41:FS:=(z5B (qU (za (eC (.int 2)) zh)) (yn 6) (zS z1p (zS z1v z15)))
@[simp] def z2r:FS:=(z5B (zV (zd Pg.xD zh)) (yn 4) (zS z1V z41))
@[simp] def z6l:FS:=(z5B (qU (za (zd zcj (za (eC (.int 1)) (za (zd z6m (za (zd yE (za (zc 0) zh)) (za (eC (.int 3)) zh))) zh))) zh)) (yn 1) (zS z25 (zS z1x z2r)))
@[simp] def z7v:FS:=(xH (z6f (eOp (zda false) (zd Pg.xa (za (eC (.str "next")) (za (jE (za (eC (.int 0)) (za (eC (.int 7)) zh))) zh))) (z8h zh)) (eOp (zda false) (eOp dIx (zd Pg.xa (za (eC (.str "turn")) (za (jE (za (eC (.int 1)) (za (eC (.int 1)) zh))) zh))) (z0B (eC (.int 1)))) (jE (za (eC (.int 1)) (za (eC (.int 1)) zh))))))
def zcU:FS:=(zS z6l z7v)
def zeH:Mir:=Mof ["_law_script","_law_at","_law_pot_here","_law_lot_here","_law_rule","_law_due","_law_turn","_law_found"] 1 zcU
end K43
set_option maxHeartbeats 6000000
namespace K43
open PySem.Spec L2 Dd Pg
structure Txt(mg:Str->Option Value):Prop where
 LEAST_SIZE_:∃ t,mg "LEAST_SIZE"=some (.int 2 t)
 MOST_SIZE_:∃ t,mg "MOST_SIZE"=some (.int 4 t)
 all_:mg "all"=none
 bool_:mg "bool"=none
 enumerate_:mg "enumerate"=none
 int_:mg "int"=none
 isinstance_:mg "isinstance"=none
 len_:mg "len"=none
 list_:mg "list"=none
 max_:mg "max"=none
 min_:mg "min"=none
 range_:mg "range"=none
 str_:mg "str"=none
 sum_:mg "sum"=none
 tuple_:mg "tuple"=none
 zip_:mg "zip"=none
theorem z9A:bootBuiltins "all"=some (.builtin "all"):=by decide +kernel
theorem z45:bootBuiltins "bool"=some (.type "bool"):=by decide +kernel
theorem z5U:bootBuiltins "int"=some (.type "int"):=by decide +kernel
theorem xw:bootBuiltins "len"=some (.builtin "len"):=by decide +kernel
theorem z6U:bootBuiltins "list"=some (.type "list"):=by decide +kernel
theorem z1g:bootBuiltins "max"=some (.builtin "max"):=by decide +kernel
theorem z1f:bootBuiltins "min"=some (.builtin "min"):=by decide +kernel
theorem zaL:bootBuiltins "str"=some (.type "str"):=by decide +kernel
theorem zcL:bootBuiltins "sum"=some (.builtin "sum"):=by decide +kernel
theorem yg:bootBuiltins "tuple"=some (.type "tuple"):=by decide +kernel
theorem zkp:(["_law_pot_here","_law_far","_law_place"]:List Str).Nodup:=by decide +kernel
theorem zkr:(["_law_one","_law_other"]:List Str).Nodup:=by decide +kernel
theorem zkn:(["part"]:List Str).Nodup:=by decide +kernel
theorem zkh:(["table","at"]:List Str).Nodup:=by decide +kernel
theorem zks:(["at","line"]:List Str).Nodup:=by decide +kernel
theorem zki:(["one","column"]:List Str).Nodup:=by decide +kernel
theorem zkc:(["numbers","line"]:List Str).Nodup:=by decide +kernel
theorem zk6:(["one","other"]:List Str).Nodup:=by decide +kernel
theorem zjR:(["thing","line"]:List Str).Nodup:=by decide +kernel
theorem zk9:(["places","line"]:List Str).Nodup:=by decide +kernel
theorem ziA:(["line","column"]:List Str).Nodup:=by decide +kernel
theorem ziZ:(["rule","ahead"]:List Str).Nodup:=by decide +kernel
theorem zgI:(["number"]:List Str).Nodup:=by decide +kernel
theorem zib:(["lot","by","number","quotient"]:List Str).Nodup:=by decide +kernel
theorem zhP:(["divided","lot","by","at"]:List Str).Nodup:=by decide +kernel
theorem zj6:(["place","at"]:List Str).Nodup:=by decide +kernel
theorem ziE:(["rule","by","line","quotient"]:List Str).Nodup:=by decide +kernel
theorem zh2:(["_law_lot_here","_law_place"]:List Str).Nodup:=by decide +kernel
theorem zfe:(["_law_place","_law_column"]:List Str).Nodup:=by decide +kernel
theorem ziP:(["_law_column","_law_line"]:List Str).Nodup:=by decide +kernel
theorem zj5:(["_law_gone","_law_lot_here","_law_by","_law_place","_law_number"]:List Str).Nodup:=by decide +kernel
theorem zfa:(["_law_line"]:List Str).Nodup:=by decide +kernel
theorem zgd:(["_law_number"]:List Str).Nodup:=by decide +kernel
theorem ziy:(["_law_by","_law_place"]:List Str).Nodup:=by decide +kernel
theorem zhZ:(["_law_lot_here","_law_top","_law_place"]:List Str).Nodup:=by decide +kernel
theorem zij:(["_law_number","_law_place"]:List Str).Nodup:=by decide +kernel
theorem zhG:(["_law_greatest","_law_number","_law_place"]:List Str).Nodup:=by decide +kernel
theorem ziq:(["_law_line","_law_size","_law_other","_law_at"]:List Str).Nodup:=by decide +kernel
theorem zhD:(["_law_line","_law_at","_law_other","_law_k"]:List Str).Nodup:=by decide +kernel
section
local macro_rules | `(tactic| trivial)=>`(tactic| exact ⟨rfl,rfl,rfl,by decide +kernel,rfl,by decide +kernel,by decide +kernel⟩)
theorem z6p:zr ["thing"] ["thing"] (zg kb):=by trivial
theorem z7h:zr ["thing"] ["thing"] (zg jY):=by trivial
theorem z6G:zr ["line","numbers"] ["line","numbers"] (zg kr):=by trivial
theorem jC:zr ["size","places"] ["size"] (zg uE):=by trivial
theorem z49:zr ["table"] ["table"] (zg uZ):=by trivial
theorem wI:zr ["lot","at"] ["lot"] (zg xu):=by trivial
theorem z2U:zr ["lot"] ["lot"] (zg uw):=by trivial
theorem z8w:zr ["lot","place"] ["lot","place"] (zg z01):=by trivial
theorem z8n:zr ["thing"] ["thing"] (zg z0e):=by trivial
theorem zbP:zr ["rule","numbers"] ["rule","numbers"] (zg z4K):=by trivial
theorem z1C:zr ["_law_script","_law_k"] ["_law_script","_law_k"] (zg vO):=by trivial
theorem wO:zr ["_law_cell","_law_number","_law_j","_law_more"] ["_law_cell"] (zg kc):=by trivial
theorem z0E:zr ["_law_pot_here","_law_far","_law_found"] ["_law_pot_here","_law_far"] (zg jq):=by trivial
theorem z43:zr ["_law_found"] ["_law_found"] (zg qC):=by trivial
theorem z4b:zr [] [] (zg qt):=by trivial
theorem z4z:zr ["_law_lot_here"] ["_law_lot_here"] (zg qd):=by trivial
theorem yX:zr ["_law_rule","_law_lot_here","_law_places","_law_by","_law_top","_law_others","_law_greatest"] ["_law_rule","_law_lot_here"] (zg uc):=by trivial
theorem wu:zr ["_law_one","_law_other","_law_size","_law_found","_law_line"] ["_law_one","_law_other"] (zg vY):=by trivial
theorem z4k:zr ["thing","many"] ["thing","many"] (zg qB):=by trivial
theorem z2P:zr ["lines","numbers"] ["lines","numbers"] (zg uC):=by trivial
theorem z3f:zr ["lot","greatest","others"] ["lot"] (zg z08):=by trivial
theorem z1M:zr ["lot","greatest","others"] ["lot"] (zg jU):=by trivial
theorem z5N:zr ["lot","by"] ["lot"] (zg z1K):=by trivial
theorem z8u:zr ["lot"] ["lot"] (zg z05):=by trivial
theorem z64:zr ["thing"] ["thing"] (zg qZ):=by trivial
theorem z55:zr ["_law_found","_law_due"] ["_law_found","_law_due"] (zg uj):=by trivial
theorem vQ:zr ["_law_pot_here","_law_size","_law_most","_law_far","_law_found","_law_way","_law_at","_law_to"] ["_law_pot_here","_law_size","_law_most"] (zg kj):=by trivial
theorem xc:zr ["_law_rule","_law_lot_here","_law_by","_law_gone","_law_later","_law_lines","_law_place","_law_line"] ["_law_rule","_law_lot_here"] (zg jt):=by trivial
theorem zb2:zr ["thing"] ["thing"] (zg z26):=by trivial
theorem z6S:zr ["thing"] ["thing"] (zg jV):=by trivial
theorem km:zr ["rule","lot","deal","by","divided"] ["rule","lot"] (zg ki):=by trivial
theorem qF:zr ["_law_pot_here","_law_lot_here"] ["_law_pot_here"] (zg qf):=by trivial
theorem yD:zr ["_law_rule","_law_lot_here","_law_found","_law_whole_here","_law_table","_law_column","_law_some"] ["_law_rule","_law_lot_here"] (zg ua):=by trivial
theorem z6Z:zr ["thing"] ["thing"] (zg jW):=by trivial
theorem z3z:zr ["thing"] ["thing"] (zg qg):=by trivial
theorem z6a:zr ["lot"] ["lot"] (zg jd):=by trivial
theorem z3E:zr ["one","other"] ["one","other"] (zg qj):=by trivial
theorem jB:zr ["rule","lot"] ["rule","lot"] (zg xO):=by trivial
theorem z2R:zr ["lot"] ["lot"] (zg ux):=by trivial
theorem wc:zr ["size","tables","products","table"] ["size","tables"] (zg wf):=by trivial
theorem z63:zr ["rule","lot"] ["rule","lot"] (zg jv):=by trivial
theorem z6w:zr ["rule","lot","by","quotients","left"] ["rule","lot"] (zg z6K):=by trivial
theorem kL:zr ["rule","lot","by","quotients"] ["rule","lot"] (zg qb):=by trivial
theorem zcu:zr ["rule","lot","lots"] ["rule","lot"] (zg z9q):=by trivial
theorem z6e:zr ["rule","lot"] ["rule","lot"] (zg ju):=by trivial
theorem jI:zr ["rule","lot","tables"] ["rule","lot"] (zg uv):=by trivial
theorem jy:zr ["rule","lot","found","product","column"] ["rule","lot"] (zg z09):=by trivial
theorem z0p:zr ["_law_script","_law_at","_law_pot_here","_law_lot_here","_law_rule","_law_due","_law_turn","_law_found"] ["_law_script"] (zg z3s):=by trivial
end
section
variable {P:Program}{w:World}{K:W.Frag}{mg:Str->Option Value}{base:Heap}(T:Txt mg){f:Addr}{fd:FuncData}
include T
local macro_rules | `(tactic| trivial)=>`(tactic| first | exact (fun _ _ _ _ _ _ us hl=>match us,hl with | [],_=>rfl) | exact (fun _ _ _ _ _ _ us hl=>match us,hl with | [_],_=>rfl) | exact (fun _ _ _ _ _ _ us hl=>match us,hl with | [_,_],_=>rfl) | exact (fun _ _ _ _ _ _ us hl=>match us,hl with | [_,_,_],_=>rfl))
theorem z5x(F:Fun K "is_whole" "is_whole" kb f fd)(hm:mg "is_whole"=some (.ref f))  : Has P w K mg base CX0 "is_whole" 1 Pg.uU:= (zN F hm (F.binds (ps:=["thing"]) (by trivial)) z6p rfl fun cdv A outer s H E hr hc=> have hu:=hr.units;(zj (ye (z2D (z6j (by decide) z5U (by rfl) T.isinstance_ (by rfl) T.int_ (zb 0)) (z2L (zfJ (z6j (by decide) z45 (by rfl) T.isinstance_ (by rfl) T.bool_ (zb 0))))))))
theorem z4X (F:Fun K "has_size" "has_size" jY f fd) (hm:mg "has_size"=some (.ref f))  : Has P w K mg base CX0 "has_size" 1 Pg.xG:= (zN F hm (F.binds (ps:=["thing"]) (by trivial)) z7h rfl fun cdv A outer s H E hr hc=> have hu:=hr.units;(zj (ye (z2D (z6j (by decide) yg (by rfl) T.isinstance_ (by rfl) T.tuple_ (zb 0)) (z2L (ze0 zjm zjm (zjI (by rfl) T.LEAST_SIZE_) (zD vI (by rfl) T.len_ xw (aN (zb 0) ze) (he:=(zp ..))) (zjI (by rfl) T.MOST_SIZE_)))))))
theorem z69 (F:Fun K "together" "together" kr f fd) (hm:mg "together"=some (.ref f))  : Has P w K mg base CX0 "together" 1 Pg.uX:= (zN F hm (F.binds (ps:=["line","numbers"]) (by trivial)) z6G rfl fun cdv A outer s H E hr hc=> have hu:=hr.units;(zj (ye (zD (zgA (by exact hc)) (by rfl) T.sum_ zcL (aO (ya ["one","other"] [none,none] (by exact hc) (zbk (by rfl) T.zip_ (aN (zb 0) (aN (zb 1) ze))) (fun _ _ _=>qh 0 1 (by exact hc) zk6) (qr 0 1 (by decide) (by rfl) (by rfl)) (fun _ _ _=>yo) (fun _ _ _=>(yJ z0t (zb 0) (zb 1)))) ze) (he:=(zI ..))))))
theorem z1O (F:Fun K "like_places" "like_places" uE f fd) (hm:mg "like_places"=some (.ref f))  : Has P w K mg base CX0 "like_places" 1 Pg.yt:= (zN F hm (F.binds (ps:=["size"]) (by trivial)) jC rfl fun cdv A outer s H E hr hc=> have hu:=hr.units;(zf (xI 1 jC.nd (z1H (by exact hc) (by rfl) T.list_ (by rfl) T.range_ (aN (zb 0) ze))) (zj (ye (yW xA (by rfl) T.tuple_ yg (aO (ya ["places","line"] [some 1,none] (by exact hc) (vg (zb 1)) (fun _ _ _=>zW (i:=1) zk9 (by rfl) (by first | exact Or.inl rfl | exact Or.inr rfl)) (zP 1 (by rfl)) (fun _ _ _=>yo) (fun _ _ _=>(yW xA (by rfl) T.tuple_ yg (aO (ya ["line","column"] [some 1,none] (by exact hc) (vg (zb 0)) (fun _ _ _=>zW (i:=1) ziA (by rfl) (by first | exact Or.inl rfl | exact Or.inr rfl)) (zP 1 (by rfl)) (fun _ _ _=>yo) (fun _ _ _=>(zhs (ym (z36 hu) (zb 0) (zb 1)) zy zy))) ze) (he:=(zI ..))))) ze) (he:=(zI ..)))))))
theorem z2x (F:Fun K "columns_of" "columns_of" uZ f fd) (hm:mg "columns_of"=some (.ref f))  : Has P w K mg base CX0 "columns_of" 1 Pg.zT:= (zN F hm (F.binds (ps:=["table"]) (by trivial)) z49 rfl fun cdv A outer s H E hr hc=> have hu:=hr.units;(zj (ye (yW xA (by rfl) T.tuple_ yg (aO (ya ["table","at"] [some 0,none] (by exact hc) (wq (by rfl) T.range_ (aQ (zD vI (by rfl) T.len_ xw (aN (zb 0) ze) (he:=(zp ..))) ze)) (fun _ _ _=>zW (i:=1) zkh (by rfl) (by first | exact Or.inl rfl | exact Or.inr rfl)) (zP 1 (by rfl)) (fun _ _ _=>yo) (fun _ _ _=>(yW xA (by rfl) T.tuple_ yg (aO (ya ["at","line"] [some 1,none] (by exact hc) (vg (zb 0)) (fun _ _ _=>zW (i:=1) zks (by rfl) (by first | exact Or.inl rfl | exact Or.inr rfl)) (zP 1 (by rfl)) (fun _ _ _=>yo) (fun _ _ _=>(ku (zb 1) (zb 0)))) ze) (he:=(zI ..))))) ze) (he:=(zI ..))))))
theorem qA (F:Fun K "greatest_and_others" "greatest_and_others" xu f fd) (hm:mg "greatest_and_others"=some (.ref f))  : Has P w K mg base CX0 "greatest_and_others" 1 Pg.zx:= (zN F hm (F.binds (ps:=["lot"]) (by trivial)) wI rfl fun cdv A outer s H E hr hc=> have hu:=hr.units;(zf (xI 1 wI.nd (z1L (zb 0) (zD (z3r (by exact hc)) (by rfl) T.max_ z1g (aN (zb 0) ze) (he:=(zp ..))))) (zj (ye (uH (aN (zb 1) (aB (yJ uK (yJ uK (wz (zb 0) um (uk (zb 1))) (uH (aK zy ze))) (wz (zb 0) (uk (yJ uK (zb 1) zy)) um)) ze)))))))
theorem z22 (F:Fun K "least_place" "least_place" uw f fd) (hm:mg "least_place"=some (.ref f))  : Has P w K mg base CX0 "least_place" 1 Pg.yh:= (zN F hm (F.binds (ps:=["lot"]) (by trivial)) z2U rfl fun cdv A outer s H E hr hc=> have hu:=hr.units;(zj (ye (z1L (zb 0) (zD (z7G (by exact hc)) (by rfl) T.min_ z1f (aO (ya ["number"] [none] (by exact hc) (vg (zb 0)) (fun _ _ _=>zW (i:=0) zgI (by rfl) (by first | exact Or.inl rfl | exact Or.inr rfl)) (zP 0 (by rfl)) (fun _ _ _=>qw (ym (zaz hu) (zb 0) zy)) (fun _ _ _=>(zb 0))) ze) (he:=(zI ..)))))))
theorem z6A (F:Fun K "all_but" "all_but" z01 f fd) (hm:mg "all_but"=some (.ref f))  : Has P w K mg base CX0 "all_but" 1 Pg.xR:= (zN F hm (F.binds (ps:=["lot","place"]) (by trivial)) z8w rfl fun cdv A outer s H E hr hc=> have hu:=hr.units;(zj (ye (ya ["place","at"] [some 1,none] (by exact hc) (wq (by rfl) T.range_ (aQ (zD vI (by rfl) T.len_ xw (aN (zb 0) ze) (he:=(zp ..))) ze)) (fun _ _ _=>zW (i:=1) zj6 (by rfl) (by first | exact Or.inl rfl | exact Or.inr rfl)) (zP 1 (by rfl)) (fun _ _ _=>qw (ym (zaz hu) (zb 1) (zb 0))) (fun _ _ _=>(zb 1))))))
theorem z6B(F:Fun K "is_rule" "is_rule" z0e f fd)(hm:mg "is_rule"=some (.ref f))(T_RULES:zdO P w K mg "RULES" ql):Has P w K mg base CX0 "is_rule" 1 Pg.qW:= (zN F hm (F.binds (ps:=["thing"]) (by trivial)) z8n rfl fun cdv A outer s H E hr hc=> have hu:=hr.units;(zj (ye (z2D (z6j (by decide) zaL (by rfl) T.isinstance_ (by rfl) T.str_ (zb 0)) (z2L (zeq T_RULES (by rfl) (zb 0)))))))
theorem z9e(F:Fun K "moved" "moved" z4K f fd)(hm:mg "moved"=some (.ref f))  : Has P w K mg base CX0 "moved" 1 Pg.vk:= (zN F hm (F.binds (ps:=["rule","numbers"]) (by trivial)) zbP rfl fun cdv A outer s H E hr hc=> have hu:=hr.units;(zj (ye (zhs (ym (z36 hu) (zb 0) z1T) (yJ uK (wz (zb 1) (uk zy) um) (wz (zb 1) um (uk zy))) (zb 1)))))
theorem z0U (F:Fun K "_law_cell_at" "_law_cell_at" vO f fd) (hm:mg "_law_cell_at"=some (.ref f))  : Has P w K mg base CX0 "_law_cell_at" 1 Pg.xt:= (zN F hm (F.binds (ps:=["_law_script","_law_k"]) (by trivial)) z1C rfl fun cdv A outer s H E hr hc=> have hu:=hr.units;(zf (kH (ym zjp (zb 1) (zD vI (by rfl) T.len_ xw (aN (zb 0) ze) (he:=(zp ..)))) (zj (ye (ku (zb 0) (zb 1)))) yI) (zj (ye zy))))
theorem z53(F:Fun K "_law_pot" "_law_pot" kc f fd)(hm:mg "_law_pot"=some (.ref f))  : Has P w K mg base CX0 "_law_pot" 1 Pg.vM:= (zN F hm (F.binds (ps:=["_law_cell"]) (by trivial)) wO rfl fun cdv A outer s H E hr hc=> have hu:=hr.units;(zf (kH (ym zjt (zb 0) (yJ zaQ zy zy)) (zj (ye (z75 (aB (yJ zdo (zb 0) (yJ zaQ zy zy)) ze)))) yI) (zf (xI 1 wO.nd zy) (zf (z2T PassesOwn.never hc (wq (by rfl) T.range_ (aK zy ze)) (jO 2 wO.nd) (zf (xI 3 wO.nd (yJ za8 (yJ z0t (yJ uK (yJ uK (yJ za8 (zb 0) zy) (yJ z0t zy (zb 2))) zy) zy) zy)) (zf (xI 3 wO.nd (yJ za8 (yJ uK (yJ uK (yJ z0t (zb 3) (zb 3)) (yJ z0t zy (zb 2))) zy) zy)) (zj (xI 1 wO.nd (yJ uK (yJ z0t (zb 1) zy) (zb 3))))))) (zj (ye (z75 (aN (zb 1) ze))))))))
theorem z4a(F:Fun K "_law_take" "_law_take" jq f fd)(hm:mg "_law_take"=some (.ref f))  : Has P w K mg base CX0 "_law_take" 1 Pg.zG:= (zN F hm (F.binds (ps:=["_law_pot_here","_law_far"]) (by trivial)) z0E rfl fun cdv A outer s H E hr hc=> have hu:=hr.units;(zf (xI 2 z0E.nd (yJ za8 (ku (zb 0) zy) (zb 1))) (zf (z5p (yJ z9P (ku (zb 0) zy) (zb 1)) (zb 0) zy) (zj (ye (zb 2))))))
theorem z2v(F:Fun K "_law_whole" "_law_whole" qC f fd)(hm:mg "_law_whole"=some (.ref f))  : Has P w K mg base CX0 "_law_whole" 1 Pg.xy:= (zN F hm (F.binds (ps:=["_law_found"]) (by trivial)) z43 rfl fun cdv A outer s H E hr hc=> have hu:=hr.units;(zj (ye (z2D (z6j (by decide) z5U (by rfl) T.isinstance_ (by rfl) T.int_ (zb 0)) (z2L (zfJ (z6j (by decide) z45 (by rfl) T.isinstance_ (by rfl) T.bool_ (zb 0))))))))
theorem z2I(F:Fun K "_law_rules" "_law_rules" qt f fd)(hm:mg "_law_rules"=some (.ref f))  : Has P w K mg base CX0 "_law_rules" 1 Pg.xD:= (zN F hm (F.binds (ps:=[]) (by trivial)) z4b rfl fun cdv A outer s H E hr hc=> have hu:=hr.units;(zj (ye (z5X (aK z1T (aK z1T (aK z1T (aK z1T ze))))))))
theorem z2H (F:Fun K "_law_ended" "_law_ended" qd f fd) (hm:mg "_law_ended"=some (.ref f))  : Has P w K mg base CX0 "_law_ended" 1 Pg.yk:= (zN F hm (F.binds (ps:=["_law_lot_here"]) (by trivial)) z4z rfl fun cdv A outer s H E hr hc=> have hu:=hr.units;(zj (ye (uI zjp (zD vI (by rfl) T.len_ xw (aO (ya ["_law_number"] [none] (by exact hc) (vg (zb 0)) (fun _ _ _=>zW (i:=0) zgd (by rfl) (by first | exact Or.inl rfl | exact Or.inr rfl)) (zP 0 (by rfl)) (fun _ _ _=>qw (ym zfQ (zb 0) zy)) (fun _ _ _=>(zb 0))) ze) (he:=(zI ..))) zy))))
theorem z12 (F:Fun K "_law_divides" "_law_divides" uc f fd) (hm:mg "_law_divides"=some (.ref f))  : Has P w K mg base CX0 "_law_divides" 1 Pg.yT:= (zN F hm (F.binds (ps:=["_law_rule","_law_lot_here"]) (by trivial)) yX rfl fun cdv A outer s H E hr hc=> have hu:=hr.units;(zf (xI 2 yX.nd (z1H (by exact hc) (by rfl) T.list_ (by rfl) T.range_ (aQ (zD vI (by rfl) T.len_ xw (aN (zb 1) ze) (he:=(zp ..))) ze))) (zf (kH (ym (z36 hu) (zb 0) z1T) (zj (ye (uH (aK zy (aO (ya ["_law_lot_here","_law_place"] [some 1,none] (by exact hc) (vg (wz (zb 2) (uk zy) um)) (fun _ _ _=>zW (i:=1) zh2 (by rfl) (by first | exact Or.inl rfl | exact Or.inr rfl)) (zP 1 (by rfl)) (fun _ _ _=>qw (ym zfQ (ku (zb 0) zy) zy)) (fun _ _ _=>(zb 1))) ze))))) yI) (zf (kH (ym (z36 hu) (zb 0) z1T) (zf (xI 3 yX.nd (z1L (zb 1) (zD (z7G (by exact hc)) (by rfl) T.min_ z1f (aO (ya ["_law_number"] [none] (by exact hc) (vg (zb 1)) (fun _ _ _=>zW (i:=0) zgd (by rfl) (by first | exact Or.inl rfl | exact Or.inr rfl)) (zP 0 (by rfl)) (fun _ _ _=>qw (ym zfQ (zb 0) zy)) (fun _ _ _=>(zb 0))) ze) (he:=(zI ..))))) (zj (ye (uH (aN (zb 3) (aO (ya ["_law_by","_law_place"] [some 3,none] (by exact hc) (vg (zb 2)) (fun _ _ _=>zW (i:=1) ziy (by rfl) (by first | exact Or.inl rfl | exact Or.inr rfl)) (zP 1 (by rfl)) (fun _ _ _=>qw (ym (zaz hu) (zb 1) (zb 0))) (fun _ _ _=>(zb 1))) ze)))))) yI) (zf (xI 4 yX.nd (z1L (zb 1) (zD (z3r (by exact hc)) (by rfl) T.max_ z1g (aN (zb 1) ze) (he:=(zp ..))))) (zf (z7a 5 ["_law_lot_here","_law_top","_law_place"] [some 1,some 4,none] yX.nd hc (vg (zb 2)) (fun _ _ _=>zW (i:=2) zhZ (by rfl) (by first | exact Or.inl rfl | exact Or.inr rfl)) (zP 2 (by rfl)) (fun _ _ _=>qw (RW.rt (w_and (ym (zaz hu) (zb 2) (zb 1)) (zcN (ym zfQ (ku (zb 0) (zb 2)) zy))))) (fun _ _ _=>(uH (aS (ku (zb 0) (zb 2)) (aN (zb 2) ze))))) (zf (kH (ym (z36 hu) (zb 0) z1T) (zj (ye (uH (aS (ku (zD (zgs (by exact hc) hu) (by rfl) T.min_ z1f (aN (zb 5) ze) (he:=(zp ..))) zy) (aL (z5X (aN (zb 4) ze)) ze))))) yI) (zf (xI 6 yX.nd (zD (z3r (by exact hc)) (by rfl) T.max_ z1g (aO (ya ["_law_number","_law_place"] [none,none] (by exact hc) (vg (zb 5)) (fun _ _ _=>qh 0 1 (by exact hc) zij) (qr 0 1 (by decide) (by rfl) (by rfl)) (fun _ _ _=>yo) (fun _ _ _=>(zb 0))) ze) (he:=(zI ..)))) (zj (ye (uH (aQ (zD (z7G (by exact hc)) (by rfl) T.min_ z1f (aO (ya ["_law_greatest","_law_number","_law_place"] [some 6,none,none] (by exact hc) (vg (zb 5)) (fun _ _ _=>qh 1 2 (by exact hc) zhG) (qr 1 2 (by decide) (by rfl) (by rfl)) (fun _ _ _=>qw (ym (z36 hu) (zb 1) (zb 0))) (fun _ _ _=>(zb 2))) ze) (he:=(zI ..))) (aL (z5X (aN (zb 4) ze)) ze)))))))))))))
theorem z10 (F:Fun K "_law_product" "_law_product" vY f fd) (hm:mg "_law_product"=some (.ref f))  : Has P w K mg base CX0 "_law_product" 1 yS:= (zN F hm (F.binds (ps:=["_law_one","_law_other"]) (by trivial)) wu rfl fun cdv A outer s H E hr hc=> have hu:=hr.units;(zf (xI 2 wu.nd (zD vI (by rfl) T.len_ xw (aN (zb 0) ze) (he:=(zp ..)))) (zf (xI 3 wu.nd (z75 ze)) (zf (z2T PassesOwn.never hc (vg (zb 0)) (jO 4 wu.nd) (zj (wJ (jx (zb 3) (yW xA (by rfl) T.tuple_ yg (aO (ya ["_law_line","_law_size","_law_other","_law_at"] [some 4,some 2,some 1,none] (by exact hc) (wq (by rfl) T.range_ (aN (zb 2) ze)) (fun _ _ _=>zW (i:=3) ziq (by rfl) (by first | exact Or.inl rfl | exact Or.inr rfl)) (zP 3 (by rfl)) (fun _ _ _=>yo) (fun _ _ _=>(zD (zgA (by exact hc)) (by rfl) T.sum_ zcL (aO (ya ["_law_line","_law_at","_law_other","_law_k"] [some 0,some 3,some 2,none] (by exact hc) (wq (by rfl) T.range_ (aN (zb 1) ze)) (fun _ _ _=>zW (i:=3) zhD (by rfl) (by first | exact Or.inl rfl | exact Or.inr rfl)) (zP 3 (by rfl)) (fun _ _ _=>yo) (fun _ _ _=>(yJ z0t (ku (zb 0) (zb 3)) (ku (ku (zb 2) (zb 3)) (zb 1))))) ze) (he:=(zI ..))))) ze) (he:=(zI ..))))))) (zj (ye (yW xA (by rfl) T.tuple_ yg (aN (zb 3) ze) (he:=(zp ..))))))))).tidy
theorem z2z (F:Fun K "are_wholes" "are_wholes" qB f fd) (hm:mg "are_wholes"=some (.ref f)) (H_is_whole:Has P w K mg base CX0 "is_whole" 1 Pg.uU):Has P w K mg base CX0 "are_wholes" 2 Pg.yM:= (zN F hm (F.binds (ps:=["thing","many"]) (by trivial)) z4k rfl fun cdv A outer s H E hr hc=> have hu:=hr.units;(zf (kH (RW.rt (zhC (z2u (kS (z6j (by decide) yg (by rfl) T.isinstance_ (by rfl) T.tuple_ (zb 0)))) (zeA (ym (zaz hu) (zD vI (by rfl) T.len_ xw (aN (zb 0) ze) (he:=(zp ..))) (zb 1))))) (zj (ye zf6)) yI) (zj (ye (zD (zdx (by exact hc)) (by rfl) T.all_ z9A (aO (ya ["part"] [none] (by exact hc) (vg (zb 0)) (fun _ _ _=>zW (i:=0) zkn (by rfl) (by first | exact Or.inl rfl | exact Or.inr rfl)) (zP 0 (by rfl)) (fun _ _ _=>yo) (fun _ _ _=>(zt H_is_whole (hr.mono (by decide)) zL (by rfl) (aN (zb 0) ze)))) ze) (he:=(zI ..)))))))
theorem z2a (F:Fun K "lines_times" "lines_times" uC f fd) (hm:mg "lines_times"=some (.ref f)) (H_together:Has P w K mg base CX0 "together" 1 Pg.uX):Has P w K mg base CX0 "lines_times" 2 Pg.yN:= (zN F hm (F.binds (ps:=["lines","numbers"]) (by trivial)) z2P rfl fun cdv A outer s H E hr hc=> have hu:=hr.units;(zj (ye (yW xA (by rfl) T.tuple_ yg (aO (ya ["numbers","line"] [some 1,none] (by exact hc) (vg (zb 0)) (fun _ _ _=>zW (i:=1) zkc (by rfl) (by first | exact Or.inl rfl | exact Or.inr rfl)) (zP 1 (by rfl)) (fun _ _ _=>yo) (fun _ _ _=>(zt H_together (hr.mono (by decide)) zL (by rfl) (aN (zb 1) (aN (zb 0) ze))))) ze) (he:=(zI ..))))))
theorem z6N (F:Fun K "by_next" "by_next" z08 f fd) (hm:mg "by_next"=some (.ref f)) (H_greatest_and_others:Has P w K mg base CX0 "greatest_and_others" 1 Pg.zx):Has P w K mg base CX0 "by_next" 2 Pg.wX:= (zN F hm (F.binds (ps:=["lot"]) (by trivial)) z3f rfl fun cdv A outer s H E hr hc=> have hu:=hr.units;(zf (z6H (zt H_greatest_and_others (hr.mono (by decide)) zL (by rfl) (aN (zb 0) ze)) (z1F 1 2 hc z3f.nd)) (zj (ye (uH (aQ (z1L (zb 2) (zD (z3r (by exact hc)) (by rfl) T.max_ z1g (aN (zb 2) ze) (he:=(zp ..)))) (aL (z5X (aN (zb 1) ze)) ze)))))))
theorem z5Q(F:Fun K "by_least" "by_least" jU f fd)(hm:mg "by_least"=some (.ref f))(H_greatest_and_others:Has P w K mg base CX0 "greatest_and_others" 1 Pg.zx)(H_least_place:Has P w K mg base CX0 "least_place" 1 Pg.yh):Has P w K mg base CX0 "by_least" 2 Pg.wl:= (zN F hm (F.binds (ps:=["lot"]) (by trivial)) z1M rfl fun cdv A outer s H E hr hc=> have hu:=hr.units;(zf (z6H (zt H_greatest_and_others (hr.mono (by decide)) zL (by rfl) (aN (zb 0) ze)) (z1F 1 2 hc z1M.nd)) (zj (ye (uH (aQ (zt H_least_place (hr.mono (by decide)) zL (by rfl) (aN (zb 2) ze)) (aL (z5X (aN (zb 1) ze)) ze)))))))
theorem z8r(F:Fun K "by_all" "by_all" z1K f fd)(hm:mg "by_all"=some (.ref f))(H_least_place:Has P w K mg base CX0 "least_place" 1 Pg.yh)(H_all_but:Has P w K mg base CX0 "all_but" 1 Pg.xR):Has P w K mg base CX0 "by_all" 2 Pg.uo:= (zN F hm (F.binds (ps:=["lot"]) (by trivial)) z5N rfl fun cdv A outer s H E hr hc=> have hu:=hr.units;(zf (xI 1 z5N.nd (zt H_least_place (hr.mono (by decide)) zL (by rfl) (aN (zb 0) ze))) (zj (ye (uH (aN (zb 1) (aQ (zt H_all_but (hr.mono (by decide)) zL (by rfl) (aN (zb 0) (aN (zb 1) ze))) ze)))))))
theorem z6I(F:Fun K "by_turn" "by_turn" z05 f fd)(hm:mg "by_turn"=some (.ref f))(H_all_but:Has P w K mg base CX0 "all_but" 1 Pg.xR):Has P w K mg base CX0 "by_turn" 2 Pg.wY:= (zN F hm (F.binds (ps:=["lot"]) (by trivial)) z8u rfl fun cdv A outer s H E hr hc=> have hu:=hr.units;(zf (kH (ym (z36 hu) (ku (zb 0) zy) zy) (zj (ye (uH (aK zy (aL (z5X ze) ze))))) yI) (zj (ye (uH (aK zy (aQ (zt H_all_but (hr.mono (by decide)) zL (by rfl) (aN (zb 0) (aK zy ze))) ze)))))))
theorem z4B(F:Fun K "want_rule" "want_rule" qZ f fd)(hm:mg "want_rule"=some (.ref f))(H_is_rule:Has P w K mg base CX0 "is_rule" 1 Pg.qW):Has P w K mg base CX0 "want_rule" 2 Pg.xh:= (zN F hm (F.binds (ps:=["thing"]) (by trivial)) z64 rfl fun cdv A outer s H E hr hc=> have hu:=hr.units;(zj (kH (z2u (kS (zt H_is_rule (hr.mono (by decide)) zL (by rfl) (aN (zb 0) ze)))) (zj z0f) yI)))
theorem wT (F:Fun K "_law_same" "_law_same" uj f fd) (hm:mg "_law_same"=some (.ref f)) (H__law_whole:Has P w K mg base CX0 "_law_whole" 1 Pg.xy) (k:Nat) (Hr:Has P w K mg base CX0 "_law_same" (k+1) (Pg.zU k)):Has P w K mg base CX0 "_law_same" (k+1+1) (Pg.zU (k+1)):= (zN F hm (F.binds (ps:=["_law_found","_law_due"]) (by trivial)) z55 rfl fun cdv A outer s H E hr hc=> have hu:=hr.units;(zf (kH (ym zjF (zb 1) zgr) (zj (ye (uI zjF (zb 0) zgr))) yI) (zf (kH (kS (z6j (by decide) z45 (by rfl) T.isinstance_ (by rfl) T.bool_ (zb 1))) (zj (ye (z2D (z6j (by decide) z45 (by rfl) T.isinstance_ (by rfl) T.bool_ (zb 0)) (z2L (uI (z36 hu) (zb 0) (zb 1)))))) yI) (zf (kH (kS (z6j (by decide) z5U (by rfl) T.isinstance_ (by rfl) T.int_ (zb 1))) (zj (ye (z2D (zt H__law_whole (hr.mono (by omega)) zL (by rfl) (aN (zb 0) ze)) (z2L (uI (z36 hu) (zb 0) (zb 1)))))) yI) (zf (kH (kS (z6j (by decide) zaL (by rfl) T.isinstance_ (by rfl) T.str_ (zb 1))) (zj (ye (z2D (z6j (by decide) zaL (by rfl) T.isinstance_ (by rfl) T.str_ (zb 0)) (z2L (uI (z36 hu) (zb 0) (zb 1)))))) yI) (zf (kH (RW.rt (zhC (ym (zaz hu) (z6j (by decide) yg (by rfl) T.isinstance_ (by rfl) T.tuple_ (zb 1)) (z6j (by decide) yg (by rfl) T.isinstance_ (by rfl) T.tuple_ (zb 0))) (zeA (ym (zaz hu) (z6j (by decide) z6U (by rfl) T.isinstance_ (by rfl) T.list_ (zb 1)) (z6j (by decide) z6U (by rfl) T.isinstance_ (by rfl) T.list_ (zb 0)))))) (zj (ye zf6)) yI) (zj (ye (z2D (uI (z36 hu) (zD vI (by rfl) T.len_ xw (aN (zb 0) ze) (he:=(zp ..))) (zD vI (by rfl) T.len_ xw (aN (zb 1) ze) (he:=(zp ..)))) (z2L (zD (zdx (by exact hc)) (by rfl) T.all_ z9A (aO (ya ["_law_one","_law_other"] [none,none] (by exact hc) (zbk (by rfl) T.zip_ (aN (zb 0) (aN (zb 1) ze))) (fun _ _ _=>qh 0 1 (by exact hc) zkr) (qr 0 1 (by decide) (by rfl) (by rfl)) (fun _ _ _=>yo) (fun _ _ _=>(zt Hr hr zL (by rfl) (aN (zb 0) (aN (zb 1) ze))))) ze) (he:=(zI ..)))))))))))))
theorem z4v(F:Fun K "_law_same" "_law_same" uj f fd)(hm:mg "_law_same"=some (.ref f))(H__law_whole:Has P w K mg base CX0 "_law_whole" 1 Pg.xy):Has P w K mg base CX0 "_law_same" 5 Pg.wR:= (wT T F hm H__law_whole 3 (wT T F hm H__law_whole 2 (wT T F hm H__law_whole 1 (wT T F hm H__law_whole 0 ((zfm F hm (F.binds (ps:=["_law_found","_law_due"]) (by trivial))).mono (by decide))))))
theorem z5D (F:Fun K "_law_lot" "_law_lot" kj f fd) (hm:mg "_law_lot"=some (.ref f)) (H__law_take:Has P w K mg base CX0 "_law_take" 1 Pg.zG):Has P w K mg base CX0 "_law_lot" 2 Pg.wv:= (zN F hm (F.binds (ps:=["_law_pot_here","_law_size","_law_most"]) (by trivial)) vQ rfl fun cdv A outer s H E hr hc=> have hu:=hr.units;(zf (xI 3 vQ.nd (zD (zcO (by exact hc)) (by rfl) T.min_ z1f (aB (yJ uK (zb 2) zy) (aS (ku (z5X (aK zy (aK zy (aK zy (aB (yJ zaQ zy zy) (aB (yJ zaQ zy zy) ze)))))) (zt H__law_take (hr.mono (by decide)) zL (by rfl) (aN (zb 0) (aK zy ze)))) ze)) (he:=(z7w ..)))) (zf (zal 4 ["_law_pot_here","_law_far","_law_place"] [some 0,some 3,none] vQ.nd hc (wq (by rfl) T.range_ (aN (zb 1) ze)) (fun _ _ _=>zW (i:=2) zkp (by rfl) (by first | exact Or.inl rfl | exact Or.inr rfl)) (zP 2 (by rfl)) (fun _ _ _=>yo) (fun _ _ _=>(zt H__law_take (hr.mono (by decide)) zL (by rfl) (aN (zb 0) (aN (zb 1) ze))))) (zf (xI 5 vQ.nd (zt H__law_take (hr.mono (by decide)) zL (by rfl) (aN (zb 0) (aK zy ze)))) (zf (ziH 6 7 hc vQ.nd (aQ (zt H__law_take (hr.mono (by decide)) zL (by rfl) (aN (zb 0) (aN (zb 1) ze))) (aQ (zt H__law_take (hr.mono (by decide)) zL (by rfl) (aN (zb 0) (aN (zb 1) ze))) ze))) (zf (kH (ym (z36 hu) (zb 5) zy) (zj (z5p zy (zb 4) (zb 6))) yI) (zf (kH (ym (z36 hu) (zb 5) zy) (zj (z5p (ku (zb 4) (zb 7)) (zb 4) (zb 6))) yI) (zf (kH (ym (z36 hu) (zD (z3r (by exact hc)) (by rfl) T.max_ z1g (aN (zb 4) ze) (he:=(zp ..))) zy) (zj (z5p (yJ uK zy (zt H__law_take (hr.mono (by decide)) zL (by rfl) (aN (zb 0) (aB (yJ zdo (zb 3) zy) ze)))) (zb 4) (zb 7))) yI) (zj (ye (yW xA (by rfl) T.tuple_ yg (aN (zb 4) ze) (he:=(zp ..))))))))))))).tidy
theorem z4i (F:Fun K "_law_step" "_law_step" jt f fd) (hm:mg "_law_step"=some (.ref f)) (H__law_divides:Has P w K mg base CX0 "_law_divides" 1 Pg.yT):Has P w K mg base CX0 "_law_step" 2 Pg.yU:= (zN F hm (F.binds (ps:=["_law_rule","_law_lot_here"]) (by trivial)) xc rfl fun cdv A outer s H E hr hc=> have hu:=hr.units;(zf (z6H (zt H__law_divides (hr.mono (by decide)) zL (by rfl) (aN (zb 0) (aN (zb 1) ze))) (z1F 2 3 hc xc.nd)) (zf (z7a 4 ["_law_gone","_law_lot_here","_law_by","_law_place","_law_number"] [some 3,some 1,some 2,none,none] xc.nd hc (zfb (by rfl) T.enumerate_ (aN (zb 1) ze)) (fun _ _ _=>qh 3 4 (by exact hc) zj5) (qr 3 4 (by decide) (by rfl) (by rfl)) (fun _ _ _=>yo) (fun _ _ _=>(zhs (ym zhJ (zb 3) (zb 0)) (yJ za8 (zb 4) (ku (zb 1) (zb 2))) (zb 4)))) (zf (xI 5 xc.nd (z75 ze)) (zf (z2T PassesOwn.never hc (wq (by rfl) T.range_ (aQ (zD vI (by rfl) T.len_ xw (aN (zb 1) ze) (he:=(zp ..))) ze)) (jO 6 xc.nd) (zdw 7 (zal 7 ["_law_place","_law_column"] [some 6,none] xc.nd hc (wq (by rfl) T.range_ (aQ (zD vI (by rfl) T.len_ xw (aN (zb 1) ze) (he:=(zp ..))) ze)) (fun _ _ _=>zW (i:=1) zfe (by rfl) (by first | exact Or.inl rfl | exact Or.inr rfl)) (zP 1 (by rfl)) (fun _ _ _=>yo) (fun _ _ _=>(yW zhf (by rfl) T.int_ z5U (aM (uI (z36 hu) (zb 0) (zb 1)) ze) (he:=(z4x ..))))) (kH (ym zhJ (zb 6) (zb 3)) (zj (z5p (yJ z9P (ku (zb 1) (zb 6)) (ku (zb 1) (zb 2))) (zb 7) (zb 2))) yI) (zj (wJ (jx (zb 5) (zb 7)))))) (zf (kH (ym (z36 hu) (zb 0) z1T) (zf (xI 4 xc.nd (yJ uK (wz (zb 4) (uk zy) um) (wz (zb 4) um (uk zy)))) (zj (z7a 5 ["_law_line"] [none] xc.nd hc (vg (zb 5)) (fun _ _ _=>zW (i:=0) zfa (by rfl) (by first | exact Or.inl rfl | exact Or.inr rfl)) (zP 0 (by rfl)) (fun _ _ _=>yo) (fun _ _ _=>(yJ uK (wz (zb 0) (uk zy) um) (wz (zb 0) um (uk zy))))))) yI) (zj (ye (uH (aQ (yW xA (by rfl) T.tuple_ yg (aN (zb 4) ze) (he:=(zp ..))) (aQ (yW xA (by rfl) T.tuple_ yg (aO (ya ["_law_line"] [none] (by exact hc) (vg (zb 5)) (fun _ _ _=>zW (i:=0) zfa (by rfl) (by first | exact Or.inl rfl | exact Or.inr rfl)) (zP 0 (by rfl)) (fun _ _ _=>yo) (fun _ _ _=>(yW xA (by rfl) T.tuple_ yg (aN (zb 0) ze) (he:=(zp ..))))) ze) (he:=(zI ..))) ze))))))))))).tidy
theorem z8z (F:Fun K "is_lot" "is_lot" z26 f fd) (hm:mg "is_lot"=some (.ref f)) (H_has_size:Has P w K mg base CX0 "has_size" 1 Pg.xG) (H_are_wholes:Has P w K mg base CX0 "are_wholes" 2 Pg.yM):Has P w K mg base CX0 "is_lot" 3 Pg.qe:= (zN F hm (F.binds (ps:=["thing"]) (by trivial)) zb2 rfl fun cdv A outer s H E hr hc=> have hu:=hr.units;(zf (kH (RW.rt (zhC (z2u (kS (zt H_has_size (hr.mono (by decide)) zL (by rfl) (aN (zb 0) ze)))) (zeA (z2u (kS (zt H_are_wholes (hr.mono (by decide)) zL (by rfl) (aN (zb 0) (aQ (zD vI (by rfl) T.len_ xw (aN (zb 0) ze) (he:=(zp ..))) ze)))))))) (zj (ye zf6)) yI) (zj (ye (z2D (uI zjt (zD (z7G (by exact hc)) (by rfl) T.min_ z1f (aN (zb 0) ze) (he:=(zp ..))) zy) (z2L (uI zfQ (zD (z3r (by exact hc)) (by rfl) T.max_ z1g (aN (zb 0) ze) (he:=(zp ..))) zy)))))))
theorem z5c (F:Fun K "is_table" "is_table" jV f fd) (hm:mg "is_table"=some (.ref f)) (H_has_size:Has P w K mg base CX0 "has_size" 1 Pg.xG) (H_are_wholes:Has P w K mg base CX0 "are_wholes" 2 Pg.yM):Has P w K mg base CX0 "is_table" 3 Pg.wP:= (zN F hm (F.binds (ps:=["thing"]) (by trivial)) z6S rfl fun cdv A outer s H E hr hc=> have hu:=hr.units;(zf (kH (z2u (kS (zt H_has_size (hr.mono (by decide)) zL (by rfl) (aN (zb 0) ze)))) (zj (ye zf6)) yI) (zj (ye (zD (zdx (by exact hc)) (by rfl) T.all_ z9A (aO (ya ["thing","line"] [some 0,none] (by exact hc) (vg (zb 0)) (fun _ _ _=>zW (i:=1) zjR (by rfl) (by first | exact Or.inl rfl | exact Or.inr rfl)) (zP 1 (by rfl)) (fun _ _ _=>yo) (fun _ _ _=>(zt H_are_wholes (hr.mono (by decide)) zL (by rfl) (aN (zb 1) (aQ (zD vI (by rfl) T.len_ xw (aN (zb 0) ze) (he:=(zp ..))) ze))))) ze) (he:=(zI ..)))))))
theorem z4R (F:Fun K "division" "division" ki f fd) (hm:mg "division"=some (.ref f)) (T_RULES:zdO P w K mg "RULES" ql) (H_by_next:Has P w K mg base CX0 "by_next" 2 Pg.wX) (H_by_least:Has P w K mg base CX0 "by_least" 2 Pg.wl) (H_by_all:Has P w K mg base CX0 "by_all" 2 Pg.uo) (H_by_turn:Has P w K mg base CX0 "by_turn" 2 Pg.wY):Has P w K mg base CX0 "division" 3 Pg.xr:= (zN F hm (F.binds (ps:=["rule","lot"]) (by trivial)) km rfl fun cdv A outer s H E hr hc=> have hu:=hr.units;(zf (xI 2 km.nd (ziT T_RULES (by rfl) (zb 0) (fun _ _=>rfl))) (zf (z6H (zes (n:=2) 2 (kC (Has.mono H_by_next (by decide)) (kC (Has.mono H_by_least (by decide)) (kC (Has.mono H_by_all (by decide)) (kC (Has.mono H_by_turn (by decide)) zbB)))) (hr.mono (by decide)) zL (aN (zb 1) ze) (he:=(zp ..))) (z1F 3 4 hc km.nd)) (zj (ye (uH (aN (zb 3) (aO (ya ["divided","lot","by","at"] [some 4,some 1,some 3,none] (by exact hc) (wq (by rfl) T.range_ (aQ (zD vI (by rfl) T.len_ xw (aN (zb 1) ze) (he:=(zp ..))) ze)) (fun _ _ _=>zW (i:=3) zhP (by rfl) (by first | exact Or.inl rfl | exact Or.inr rfl)) (zP 3 (by rfl)) (fun _ _ _=>yo) (fun _ _ _=>(zhs (ym zhJ (zb 3) (zb 0)) (yJ z9P (ku (zb 1) (zb 3)) (ku (zb 1) (zb 2))) zy))) ze))))))))
theorem z2N(F:Fun K "_law_parts" "_law_parts" qf f fd)(hm:mg "_law_parts"=some (.ref f))(H__law_take:Has P w K mg base CX0 "_law_take" 1 Pg.zG)(H__law_lot:Has P w K mg base CX0 "_law_lot" 2 Pg.wv):Has P w K mg base CX0 "_law_parts" 3 Pg.wm:= (zN F hm (F.binds (ps:=["_law_pot_here"]) (by trivial)) qF rfl fun cdv A outer s H E hr hc=> have hu:=hr.units;(zf (xI 1 qF.nd (zt H__law_lot (hr.mono (by decide)) zL (by rfl) (aN (zb 0) (aB (yJ uK zy (zt H__law_take (hr.mono (by decide)) zL (by rfl) (aN (zb 0) (aK zy ze)))) (aB (yJ zaQ zy zy) ze))))) (zf (kH (ym (z36 hu) (ku (zb 1) (z2E zy)) zy) (zj (xI 1 qF.nd (yJ uK (wz (zb 1) um (uk (z2E zy))) (uH (aB (yJ uK zy (zt H__law_take (hr.mono (by decide)) zL (by rfl) (aN (zb 0) (aK zy ze)))) ze))))) yI) (zj (ye (zb 1))))))
theorem z0W (F:Fun K "_law_columns" "_law_columns" ua f fd) (hm:mg "_law_columns"=some (.ref f)) (H__law_ended:Has P w K mg base CX0 "_law_ended" 1 Pg.yk) (H__law_product:Has P w K mg base CX0 "_law_product" 1 yS) (H__law_step:Has P w K mg base CX0 "_law_step" 2 Pg.yU):Has P w K mg base CX0 "_law_columns" 3 yP:= (zN F hm (F.binds (ps:=["_law_rule","_law_lot_here"]) (by trivial)) yD rfl fun cdv A outer s H E hr hc=> have hu:=hr.units;(zf (xI 2 yD.nd (z75 ze)) (zf (xI 3 yD.nd (yW xA (by rfl) T.tuple_ yg (aO (ya ["_law_lot_here","_law_place"] [some 1,none] (by exact hc) (wq (by rfl) T.range_ (aQ (zD vI (by rfl) T.len_ xw (aN (zb 1) ze) (he:=(zp ..))) ze)) (fun _ _ _=>zW (i:=1) zh2 (by rfl) (by first | exact Or.inl rfl | exact Or.inr rfl)) (zP 1 (by rfl)) (fun _ _ _=>yo) (fun _ _ _=>(yW xA (by rfl) T.tuple_ yg (aO (ya ["_law_place","_law_column"] [some 1,none] (by exact hc) (wq (by rfl) T.range_ (aQ (zD vI (by rfl) T.len_ xw (aN (zb 0) ze) (he:=(zp ..))) ze)) (fun _ _ _=>zW (i:=1) zfe (by rfl) (by first | exact Or.inl rfl | exact Or.inr rfl)) (zP 1 (by rfl)) (fun _ _ _=>yo) (fun _ _ _=>(yW zhf (by rfl) T.int_ z5U (aM (uI (z36 hu) (zb 0) (zb 1)) ze) (he:=(z4x ..))))) ze) (he:=(zI ..))))) ze) (he:=(zI ..)))) (zf (zaq PassesOwn.never (z2u (kS (zt H__law_ended (hr.mono (by decide)) zL (by rfl) (aN (zb 1) ze)))) (zf (z6H (zt H__law_step (hr.mono (by decide)) zL (by rfl) (aN (zb 0) (aN (zb 1) ze))) (z1F 1 4 hc yD.nd)) (zf (xI 3 yD.nd (zt H__law_product (hr.mono (by decide)) zL (by rfl) (aN (zb 3) (aN (zb 4) ze)))) (zj (z2T PassesOwn.never hc (wq (by rfl) T.range_ (aQ (zD vI (by rfl) T.len_ xw (aN (zb 1) ze) (he:=(zp ..))) ze)) (jO 5 yD.nd) (zf (xI 6 yD.nd (yW xA (by rfl) T.tuple_ yg (aO (ya ["_law_column","_law_line"] [some 5,none] (by exact hc) (vg (zb 3)) (fun _ _ _=>zW (i:=1) ziP (by rfl) (by first | exact Or.inl rfl | exact Or.inr rfl)) (zP 1 (by rfl)) (fun _ _ _=>yo) (fun _ _ _=>(ku (zb 1) (zb 0)))) ze) (he:=(zI ..)))) (zj (kH (RW.rt (w_and (ym (zaz hu) (ku (zb 6) (z2E zy)) zy) (zcN (ym (zbQ hu) (zb 6) (zb 2))))) (zj (wJ (jx (zb 2) (zb 6)))) yI)))))))) (zj (ye (zb 2)))))))
theorem z68(F:Fun K "want_lot" "want_lot" jW f fd)(hm:mg "want_lot"=some (.ref f))(H_is_lot:Has P w K mg base CX0 "is_lot" 3 Pg.qe):Has P w K mg base CX0 "want_lot" 4 Pg.yx:= (zN F hm (F.binds (ps:=["thing"]) (by trivial)) z6Z rfl fun cdv A outer s H E hr hc=> have hu:=hr.units;(zj (kH (z2u (kS (zt H_is_lot (hr.mono (by decide)) zL (by rfl) (aN (zb 0) ze)))) (zj z0f) yI)))
theorem z2G(F:Fun K "want_table" "want_table" qg f fd)(hm:mg "want_table"=some (.ref f))(H_is_table:Has P w K mg base CX0 "is_table" 3 Pg.wP):Has P w K mg base CX0 "want_table" 4 Pg.yL:= (zN F hm (F.binds (ps:=["thing"]) (by trivial)) z3z rfl fun cdv A outer s H E hr hc=> have hu:=hr.units;(zj (kH (z2u (kS (zt H_is_table (hr.mono (by decide)) zL (by rfl) (aN (zb 0) ze)))) (zj z0f) yI)))
theorem z4p (F:Fun K "has_ended" "has_ended" jd f fd) (hm:mg "has_ended"=some (.ref f)) (H_want_lot:Has P w K mg base CX0 "want_lot" 4 Pg.yx):Has P w K mg base CX0 "has_ended" 5 Pg.yA:= (zN F hm (F.binds (ps:=["lot"]) (by trivial)) z6a rfl fun cdv A outer s H E hr hc=> have hu:=hr.units;(zf (wJ (zt H_want_lot (hr.mono (by decide)) zL (by rfl) (aN (zb 0) ze))) (zj (ye (uI (z36 hu) (zD vI (by rfl) T.len_ xw (aO (ya ["number"] [none] (by exact hc) (vg (zb 0)) (fun _ _ _=>zW (i:=0) zgI (by rfl) (by first | exact Or.inl rfl | exact Or.inr rfl)) (zP 0 (by rfl)) (fun _ _ _=>qw (ym (zaz hu) (zb 0) zy)) (fun _ _ _=>(zb 0))) ze) (he:=(zI ..))) zy)))))
theorem z2O (F:Fun K "multiplied" "multiplied" qj f fd) (hm:mg "multiplied"=some (.ref f)) (H_columns_of:Has P w K mg base CX0 "columns_of" 1 Pg.zT) (H_lines_times:Has P w K mg base CX0 "lines_times" 2 Pg.yN) (H_want_table:Has P w K mg base CX0 "want_table" 4 Pg.yL):Has P w K mg base CX0 "multiplied" 5 Pg.xz:= (zN F hm (F.binds (ps:=["one","other"]) (by trivial)) z3E rfl fun cdv A outer s H E hr hc=> have hu:=hr.units;(zf (wJ (zt H_want_table (hr.mono (by decide)) zL (by rfl) (aN (zb 0) ze))) (zf (wJ (zt H_want_table (hr.mono (by decide)) zL (by rfl) (aN (zb 1) ze))) (zf (kH (ym (zaz hu) (zD vI (by rfl) T.len_ xw (aN (zb 0) ze) (he:=(zp ..))) (zD vI (by rfl) T.len_ xw (aN (zb 1) ze) (he:=(zp ..)))) (zj z0f) yI) (zj (ye (zt H_columns_of (hr.mono (by decide)) zL (by rfl) (aQ (yW xA (by rfl) T.tuple_ yg (aO (ya ["one","column"] [some 0,none] (by exact hc) (vg (zt H_columns_of (hr.mono (by decide)) zL (by rfl) (aN (zb 1) ze))) (fun _ _ _=>zW (i:=1) zki (by rfl) (by first | exact Or.inl rfl | exact Or.inr rfl)) (zP 1 (by rfl)) (fun _ _ _=>yo) (fun _ _ _=>(zt H_lines_times (hr.mono (by decide)) zL (by rfl) (aN (zb 0) (aN (zb 1) ze))))) ze) (he:=(zI ..))) ze) (he:=(uN ..)))))))))
theorem jk(F:Fun K "want_rule_and_lot" "want_rule_and_lot" xO f fd)(hm:mg "want_rule_and_lot"=some (.ref f))(H_want_rule:Has P w K mg base CX0 "want_rule" 2 Pg.xh)(H_want_lot:Has P w K mg base CX0 "want_lot" 4 Pg.yx):Has P w K mg base CX0 "want_rule_and_lot" 5 Pg.zC:= (zN F hm (F.binds (ps:=["rule","lot"]) (by trivial)) jB rfl fun cdv A outer s H E hr hc=> have hu:=hr.units;(zf (wJ (zt H_want_rule (hr.mono (by decide)) zL (by rfl) (aN (zb 0) ze))) (zj (wJ (zt H_want_lot (hr.mono (by decide)) zL (by rfl) (aN (zb 1) ze))))))
theorem z21(F:Fun K "want_bottom" "want_bottom" ux f fd)(hm:mg "want_bottom"=some (.ref f))(H_want_lot:Has P w K mg base CX0 "want_lot" 4 Pg.yx):Has P w K mg base CX0 "want_bottom" 5 Pg.xf:= (zN F hm (F.binds (ps:=["lot"]) (by trivial)) z2R rfl fun cdv A outer s H E hr hc=> have hu:=hr.units;(zf (wJ (zt H_want_lot (hr.mono (by decide)) zL (by rfl) (aN (zb 0) ze))) (zj (kH (ym (z36 hu) (ku (zb 0) (z2E zy)) zy) (zj z0f) yI))))
theorem jz (F:Fun K "growing_products" "growing_products" wf f fd) (hm:mg "growing_products"=some (.ref f)) (H_like_places:Has P w K mg base CX0 "like_places" 1 Pg.yt) (H_multiplied:Has P w K mg base CX0 "multiplied" 5 Pg.xz):Has P w K mg base CX0 "growing_products" 6 Pg.yb:= (zN F hm (F.binds (ps:=["size","tables"]) (by trivial)) wc rfl fun cdv A outer s H E hr hc=> have hu:=hr.units;(zf (xI 2 wc.nd (z75 (aQ (zt H_like_places (hr.mono (by decide)) zL (by rfl) (aN (zb 0) ze)) ze))) (zf (z2T PassesOwn.never hc (vg (zb 1)) (jO 3 wc.nd) (zj (wJ (jx (zb 2) (zt H_multiplied (hr.mono (by decide)) zL (by rfl) (aS (ku (zb 2) (z2E zy)) (aN (zb 3) ze)) (he:=(z4h ..))))))) (zj (ye (zb 2))))))
theorem z4f(F:Fun K "want_step" "want_step" jv f fd)(hm:mg "want_step"=some (.ref f))(H_has_ended:Has P w K mg base CX0 "has_ended" 5 Pg.yA)(H_want_rule_and_lot:Has P w K mg base CX0 "want_rule_and_lot" 5 Pg.zC):Has P w K mg base CX0 "want_step" 6 Pg.yQ:= (zN F hm (F.binds (ps:=["rule","lot"]) (by trivial)) z63 rfl fun cdv A outer s H E hr hc=> have hu:=hr.units;(zf (wJ (zt H_want_rule_and_lot (hr.mono (by decide)) zL (by rfl) (aN (zb 0) (aN (zb 1) ze)))) (zj (kH (kS (zt H_has_ended (hr.mono (by decide)) zL (by rfl) (aN (zb 1) ze))) (zj z0f) yI))))
theorem zbL (F:Fun K "step" "step" z6K f fd) (hm:mg "step"=some (.ref f)) (H_moved:Has P w K mg base CX0 "moved" 1 Pg.vk) (H_division:Has P w K mg base CX0 "division" 3 Pg.xr) (H_want_step:Has P w K mg base CX0 "want_step" 6 Pg.yQ):Has P w K mg base CX0 "step" 7 Pg.M_step:= (zN F hm (F.binds (ps:=["rule","lot"]) (by trivial)) z6w rfl fun cdv A outer s H E hr hc=> have hu:=hr.units;(zf (wJ (zt H_want_step (hr.mono (by decide)) zL (by rfl) (aN (zb 0) (aN (zb 1) ze)))) (zf (z6H (zt H_division (hr.mono (by decide)) zL (by rfl) (aN (zb 0) (aN (zb 1) ze))) (z1F 2 3 hc z6w.nd)) (zf (xI 4 z6w.nd (yW xA (by rfl) T.tuple_ yg (aO (ya ["lot","by","number","quotient"] [some 1,some 2,none,none] (by exact hc) (zbk (by rfl) T.zip_ (aN (zb 1) (aN (zb 3) ze))) (fun _ _ _=>qh 2 3 (by exact hc) zib) (qr 2 3 (by decide) (by rfl) (by rfl)) (fun _ _ _=>yo) (fun _ _ _=>(yJ zdo (zb 2) (yJ z0t (zb 3) (ku (zb 0) (zb 1)))))) ze) (he:=(zI ..)))) (zj (ye (zt H_moved (hr.mono (by decide)) zL (by rfl) (aN (zb 0) (aN (zb 4) ze)))))))))
theorem z2F (F:Fun K "step_table" "step_table" qb f fd) (hm:mg "step_table"=some (.ref f)) (H_like_places:Has P w K mg base CX0 "like_places" 1 Pg.yt) (H_moved:Has P w K mg base CX0 "moved" 1 Pg.vk) (H_division:Has P w K mg base CX0 "division" 3 Pg.xr) (H_want_step:Has P w K mg base CX0 "want_step" 6 Pg.yQ):Has P w K mg base CX0 "step_table" 7 Pg.xB:= (zN F hm (F.binds (ps:=["rule","lot"]) (by trivial)) kL rfl fun cdv A outer s H E hr hc=> have hu:=hr.units;(zf (wJ (zt H_want_step (hr.mono (by decide)) zL (by rfl) (aN (zb 0) (aN (zb 1) ze)))) (zf (z6H (zt H_division (hr.mono (by decide)) zL (by rfl) (aN (zb 0) (aN (zb 1) ze))) (z1F 2 3 hc kL.nd)) (zj (ye (yW xA (by rfl) T.tuple_ yg (aO (ya ["rule","by","line","quotient"] [some 0,some 2,none,none] (by exact hc) (zbk (by rfl) T.zip_ (aQ (zt H_like_places (hr.mono (by decide)) zL (by rfl) (aQ (zD vI (by rfl) T.len_ xw (aN (zb 1) ze) (he:=(zp ..))) ze) (he:=(uN ..))) (aN (zb 3) ze))) (fun _ _ _=>qh 2 3 (by exact hc) ziE) (qr 2 3 (by decide) (by rfl) (by rfl)) (fun _ _ _=>yo) (fun _ _ _=>(zt H_moved (hr.mono (by decide)) zL (by rfl) (aN (zb 0) (aB (yJ uK (yJ uK (wz (zb 2) um (uk (zb 1))) (uH (aB (yJ uK (ku (zb 2) (zb 1)) (zb 3)) ze))) (wz (zb 2) (uk (yJ uK (zb 1) zy)) um)) ze))))) ze) (he:=(zI ..))))))))
theorem zdT (F:Fun K "run" "run" z9q f fd) (hm:mg "run"=some (.ref f)) (H_has_ended:Has P w K mg base CX0 "has_ended" 5 Pg.yA) (H_want_rule_and_lot:Has P w K mg base CX0 "want_rule_and_lot" 5 Pg.zC) (H_step:Has P w K mg base CX0 "step" 7 Pg.M_step):Has P w K mg base CX0 "run" 8 Pg.M_run:= (zN F hm (F.binds (ps:=["rule","lot"]) (by trivial)) zcu rfl fun cdv A outer s H E hr hc=> have hu:=hr.units;(zf (wJ (zt H_want_rule_and_lot (hr.mono (by decide)) zL (by rfl) (aN (zb 0) (aN (zb 1) ze)))) (zf (xI 2 zcu.nd (z75 (aN (zb 1) ze))) (zf (zaq PassesOwn.never (z2u (kS (zt H_has_ended (hr.mono (by decide)) zL (by rfl) (aS (ku (zb 2) (z2E zy)) ze) (he:=(z4h ..))))) (zj (wJ (jx (zb 2) (zt H_step (hr.mono (by decide)) zL (by rfl) (aN (zb 0) (aS (ku (zb 2) (z2E zy)) ze))))))) (zj (ye (zb 2)))))))
theorem z3C(F:Fun K "tables_of" "tables_of" ju f fd)(hm:mg "tables_of"=some (.ref f))(H_step_table:Has P w K mg base CX0 "step_table" 7 Pg.xB)(H_run:Has P w K mg base CX0 "run" 8 Pg.M_run):Has P w K mg base CX0 "tables_of" 9 Pg.wa:= (zN F hm (F.binds (ps:=["rule","lot"]) (by trivial)) z6e rfl fun cdv A outer s H E hr hc=> have hu:=hr.units;(zj (ye (ya ["rule","ahead"] [some 0,none] (by exact hc) (vg (wz (zaj (zt H_run (hr.mono (by decide)) zL (by rfl) (aN (zb 0) (aN (zb 1) ze)))) um (uk (z2E zy)))) (fun _ _ _=>zW (i:=1) ziZ (by rfl) (by first | exact Or.inl rfl | exact Or.inr rfl)) (zP 1 (by rfl)) (fun _ _ _=>yo) (fun _ _ _=>(zt H_step_table (hr.mono (by decide)) zL (by rfl) (aN (zb 0) (aN (zb 1) ze))))))))
theorem z2k (F:Fun K "products_of" "products_of" uv f fd) (hm:mg "products_of"=some (.ref f)) (H_growing_products:Has P w K mg base CX0 "growing_products" 6 Pg.yb) (H_tables_of:Has P w K mg base CX0 "tables_of" 9 Pg.wa):Has P w K mg base CX0 "products_of" 10 Pg.yu:= (zN F hm (F.binds (ps:=["rule","lot"]) (by trivial)) jI rfl fun cdv A outer s H E hr hc=> have hu:=hr.units;(zf (xI 2 jI.nd (zt H_tables_of (hr.mono (by decide)) zL (by rfl) (aN (zb 0) (aN (zb 1) ze)))) (zj (ye (zt H_growing_products (hr.mono (by decide)) zL (by rfl) (aQ (zD vI (by rfl) T.len_ xw (aN (zb 1) ze) (he:=(zp ..))) (aN (zb 2) ze)) (he:=(uN ..)))))))
theorem z6L (F:Fun K "columns" "columns" z09 f fd) (hm:mg "columns"=some (.ref f)) (H_columns_of:Has P w K mg base CX0 "columns_of" 1 Pg.zT) (H_want_rule:Has P w K mg base CX0 "want_rule" 2 Pg.xh) (H_want_bottom:Has P w K mg base CX0 "want_bottom" 5 Pg.xf) (H_products_of:Has P w K mg base CX0 "products_of" 10 Pg.yu):Has P w K mg base CX0 "columns" 11 Pg.xa:= (zN F hm (F.binds (ps:=["rule","lot"]) (by trivial)) jy rfl fun cdv A outer s H E hr hc=> have hu:=hr.units;(zf (wJ (zt H_want_rule (hr.mono (by decide)) zL (by rfl) (aN (zb 0) ze))) (zf (wJ (zt H_want_bottom (hr.mono (by decide)) zL (by rfl) (aN (zb 1) ze))) (zf (xI 2 jy.nd zhl) (zf (z2T PassesOwn.never hc (vg (wz (zaj (zt H_products_of (hr.mono (by decide)) zL (by rfl) (aN (zb 0) (aN (zb 1) ze)))) (uk zy) um)) (jO 3 jy.nd) (zj (z2T PassesOwn.never hc (vg (zt H_columns_of (hr.mono (by decide)) zL (by rfl) (aN (zb 3) ze))) (jO 4 jy.nd) (zj (kH (ym (zaz hu) (ku (zb 4) (z2E zy)) zy) (zj (zfq hu zf6 (zb 2) (zb 4))) yI))))) (zj (ye (yW (zbw (by exact hc)) (by rfl) T.list_ z6U (aN (zb 2) ze) (he:=(zp ..))))))))))
theorem z8R (F:Fun K "law" "law" z3s f fd) (hm:mg "law"=some (.ref f)) (H__law_cell_at:Has P w K mg base CX0 "_law_cell_at" 1 Pg.xt) (H__law_pot:Has P w K mg base CX0 "_law_pot" 1 Pg.vM) (H__law_rules:Has P w K mg base CX0 "_law_rules" 1 Pg.xD) (H__law_same:Has P w K mg base CX0 "_law_same" 5 Pg.wR) (H__law_parts:Has P w K mg base CX0 "_law_parts" 3 Pg.wm) (H__law_columns:Has P w K mg base CX0 "_law_columns" 3 yP) (H_columns:Has P w K mg base CX0 "columns" 11 Pg.xa):z33 P w K mg base CX0 12 f fd ["_law_script"] (zdy ⟨mg,K⟩ zeH):= zgt F z0p rfl fun cdv A outer s H E hr hc=>by
  have hu:=hr.units;refine zf ?_ ?_
  ·refine z2T PassesOwn.never hc (wq (by rfl) T.range_ (aQ (zD (zh0 (by exact hc)) (by rfl) T.max_ z1g (aK zy (aQ (zD (zcO (by exact hc)) (by rfl) T.min_ z1f (aQ (zD vI (by rfl) T.len_ xw (aN (zb 0) ze) (he:=(zp ..))) (aK zy ze)) (he:=(uN ..))) ze)) (he:=(z3l ..))) ze)) (jO 1 z0p.nd) ?_;refine zf ?_ ?_;·exact (xI 2 z0p.nd (zt H__law_pot (hr.mono (by decide)) zL (by rfl) (aQ (zt H__law_cell_at (hr.mono (by decide)) zL (by rfl) (aN (zb 0) (aN (zb 1) ze))) ze) (he:=(uN ..))))
   refine zf ?_ ?_;·exact (xI 3 z0p.nd (zt H__law_parts (hr.mono (by decide)) zL (by rfl) (aN (zb 2) ze)))
   refine zj ?_;refine z2T PassesOwn.never hc (vg (zeP H__law_rules (hr.mono (by decide)) zL (by rfl))) (jO 4 z0p.nd) ?_;refine zf ?_ ?_;·exact (xI 5 z0p.nd (zaj (zt H__law_columns (hr.mono (by decide)) zL (by rfl) (aN (zb 4) (aN (zb 3) ze)))))
   refine zj ?_;refine z2T PassesOwn.never hc (wq (by rfl) T.range_ (aK zy ze)) (jO 6 z0p.nd) ?_;refine zf ?_ ?_;·exact (xI 7 z0p.nd (zt H_columns (hr.mono (by decide)) zL (by rfl) (aN (zb 4) (aN (zb 3) ze))))
   refine zf ?_ ?_
   ·refine kH (z2u (kS (zt H__law_same (hr.mono (by decide)) zL (by rfl) (aN (zb 7) (aN (zb 5) ze))))) ?_ ?_
    ·refine zj ?_;exact (ye zf6)
    ·exact yI
   refine zj ?_;exact (wJ (jx (zb 7) (uH ze)))
  refine zj ?_;exact (ye (z2D (uI (zh4 hu) (zt H_columns (hr.mono (by decide)) zL (by rfl) (aK z1T (aT (uH (aK zy (aK zy ze))) ze))) (z5X ze)) (z2L (uI (zh4 hu) (ku (zt H_columns (hr.mono (by decide)) zL (by rfl) (aK z1T (aT (uH (aK zy (aK zy ze))) ze))) (z2E zy)) (uH (aK zy (aK zy ze)))))))
end
end K43
set_option maxRecDepth 1000000
set_option maxHeartbeats 4000000
namespace Pm
abbrev Tb:=List (List Int)
def dot(r v:List Int):Int:=(List.zipWith (fun a b=>a*b) r v).sum
def mv(T:Tb)(v:List Int):List Int:=T.map fun r=>dot r v
def zO(T:Tb):Tb:=(List.range T.length).map fun j=>T.map fun r=>r.getD j 0
def qG(A B:Tb):Tb:=zO ((zO B).map (mv A))
def zjr(T:Tb)(i j:Nat):Tb:=(T.take i++T.drop (i+1)).map fun r=>r.take j++r.drop (j+1)
def sg(i j:Nat):Int:=if (i+j) % 2=0 then 1 else -1
def det:Nat->Tb->Int
 | 0,_=>0 | k+1,T=>if T.length=1 then (T.getD 0 []).getD 0 0 else ((List.range T.length).map fun j=>sg 0 j*(T.getD 0 []).getD j 0*det k (zjr T 0 j)).sum
def zkB(T:Tb):Tb:=(List.range T.length).map fun i=>(List.range T.length).map fun j=>det 4 T*sg i j*det 4 (zjr T j i)
def one(n:Nat):Tb:=(List.range n).map fun i=>(List.range n).map fun j=>if i=j then 1 else 0
structure Tab(n:Nat)(T:Tb):Prop where
 len:T.length=n
 row:∀ r∈T,r.length=n
theorem z6R{α:Type}{l:List α}(h:l.length=2):∃ a b,l=[a,b]:=by match l,h with | [a,b],_=>exact ⟨a,b,rfl⟩
theorem z67{α:Type}{l:List α}(h:l.length=3):∃ a b c,l=[a,b,c]:=by match l,h with | [a,b,c],_=>exact ⟨a,b,c,rfl⟩
theorem z3U{α:Type}{l:List α}(h:l.length=4):∃ a b c d,l=[a,b,c,d]:=by match l,h with | [a,b,c,d],_=>exact ⟨a,b,c,d,rfl⟩
theorem zee{T:Tb}(h:Tab 2 T):∃ a b c d,T=[[a,b],[c,d]]:=by
 obtain ⟨r,q,rfl⟩:=z6R h.len;obtain ⟨a,b,rfl⟩:=z6R (h.row r (by simp));obtain ⟨c,d,rfl⟩:=z6R (h.row q (by simp));exact ⟨a,b,c,d,rfl⟩
theorem zdD{T:Tb}(h:Tab 3 T):∃ a b c d e f g i j,T=[[a,b,c],[d,e,f],[g,i,j]]:=by
 obtain ⟨r,q,p,rfl⟩:=z67 h.len;obtain ⟨a,b,c,rfl⟩:=z67 (h.row r (by simp));obtain ⟨d,e,f,rfl⟩:=z67 (h.row q (by simp));obtain ⟨g,i,j,rfl⟩:=z67 (h.row p (by simp));exact ⟨a,b,c,d,e,f,g,i,j,rfl⟩
theorem zdB{T:Tb}(h:Tab 4 T):∃ a b c d e f g i j k l m n o p q,T=[[a,b,c,d],[e,f,g,i],[j,k,l,m],[n,o,p,q]]:=by
 obtain ⟨r1,r2,r3,r4,rfl⟩:=z3U h.len;obtain ⟨a,b,c,d,rfl⟩:=z3U (h.row r1 (by simp));obtain ⟨e,f,g,i,rfl⟩:=z3U (h.row r2 (by simp));obtain ⟨j,k,l,m,rfl⟩:=z3U (h.row r3 (by simp));obtain ⟨n,o,p,q,rfl⟩:=z3U (h.row r4 (by simp));exact ⟨a,b,c,d,e,f,g,i,j,k,l,m,n,o,p,q,rfl⟩
theorem zde(a b c d A B C D:Int):qG [[a,b],[c,d]] [[A,B],[C,D]]=[[a*A+(b*C+0),a*B+(b*D+0)],[c*A+(d*C+0),c*B+(d*D+0)]]:=rfl
theorem zeX(a b c d e f g i j A B C D E F G I J:Int):qG [[a,b,c],[d,e,f],[g,i,j]] [[A,B,C],[D,E,F],[G,I,J]]= [[a*A+(b*D+(c*G+0)),a*B+(b*E+(c*I+0)),a*C+(b*F+(c*J+0))],[d*A+(e*D+(f*G+0)),d*B+(e*E+(f*I+0)),d*C+(e*F+(f*J+0))],[g*A+(i*D+(j*G+0)),g*B+(i*E+(j*I+0)),g*C+(i*F+(j*J+0))]]:=rfl
theorem zeF(a b c d e f g i j k l m n o p q A B C D E F G I J K L M N Oo P Q:Int):qG [[a,b,c,d],[e,f,g,i],[j,k,l,m],[n,o,p,q]] [[A,B,C,D],[E,F,G,I],[J,K,L,M],[N,Oo,P,Q]]= [[a*A+(b*E+(c*J+(d*N+0))),a*B+(b*F+(c*K+(d*Oo+0))),a*C+(b*G+(c*L+(d*P+0))),a*D+(b*I+(c*M+(d*Q+0)))], [e*A+(f*E+(g*J+(i*N+0))),e*B+(f*F+(g*K+(i*Oo+0))),e*C+(f*G+(g*L+(i*P+0))),e*D+(f*I+(g*M+(i*Q+0)))], [j*A+(k*E+(l*J+(m*N+0))),j*B+(k*F+(l*K+(m*Oo+0))),j*C+(k*G+(l*L+(m*P+0))),j*D+(k*I+(l*M+(m*Q+0)))], [n*A+(o*E+(p*J+(q*N+0))),n*B+(o*F+(p*K+(q*Oo+0))),n*C+(o*G+(p*L+(q*P+0))),n*D+(o*I+(p*M+(q*Q+0)))]]:=rfl
def d2(a b c d:Int):Int:=a*d-b*c
def d3(a b c d e f g h i:Int):Int:=a*d2 e f h i-b*d2 d f g i+c*d2 d e g h
def d4(a b c d e f g h i j k l m n o p:Int):Int:=a*d3 f g h j k l n o p-b*d3 e g h i k l m o p+c*d3 e f h i j l m n p-d*d3 e f g i j k m n o
theorem assoc{n:Nat}{A B C:Tb}(hn:n=2\/n=3\/n=4)(ha:Tab n A)(hb:Tab n B)(hc:Tab n C):qG (qG A B) C=qG A (qG B C):=by
 rcases hn with rfl | rfl | rfl
 ·obtain ⟨a,b,c,d,rfl⟩:=zee ha;obtain ⟨e,f,g,h,rfl⟩:=zee hb;obtain ⟨i,j,k,l,rfl⟩:=zee hc;simp only [zde,List.cons.injEq,and_true];and_intros<;>grind
 ·obtain ⟨a1,a2,a3,a4,a5,a6,a7,a8,a9,rfl⟩:=zdD ha;obtain ⟨b1,b2,b3,b4,b5,b6,b7,b8,b9,rfl⟩:=zdD hb;obtain ⟨c1,c2,c3,c4,c5,c6,c7,c8,c9,rfl⟩:=zdD hc;simp only [zeX,List.cons.injEq,and_true];and_intros<;>grind
 ·obtain ⟨a1,a2,a3,a4,a5,a6,a7,a8,a9,a10,a11,a12,a13,a14,a15,a16,rfl⟩:=zdB ha;obtain ⟨b1,b2,b3,b4,b5,b6,b7,b8,b9,b10,b11,b12,b13,b14,b15,b16,rfl⟩:=zdB hb;obtain ⟨c1,c2,c3,c4,c5,c6,c7,c8,c9,c10,c11,c12,c13,c14,c15,c16,rfl⟩:=zdB hc;simp only [zeF,List.cons.injEq,and_true];and_intros<;>grind
end Pm
set_option maxRecDepth 1000000
set_option maxHeartbeats 40000000
namespace Pm
theorem zjM:one 2=[[1,0],[0,1]]:=rfl
theorem zjP:one 3=[[1,0,0],[0,1,0],[0,0,1]]:=rfl
theorem zjk:one 4=[[1,0,0,0],[0,1,0,0],[0,0,1,0],[0,0,0,1]]:=rfl
theorem zbD{n:Nat}{A:Tb}(hn:n=2\/n=3\/n=4)(ha:Tab n A):qG (one n) A=A/\qG A (one n)=A:=by
 rcases hn with rfl | rfl | rfl
 ·obtain ⟨a,b,c,d,rfl⟩:=zee ha;rw [zjM,zde,zde];simp
 ·obtain ⟨a1,a2,a3,a4,a5,a6,a7,a8,a9,rfl⟩:=zdD ha;rw [zjP,zeX,zeX];simp
 ·obtain ⟨a1,a2,a3,a4,a5,a6,a7,a8,a9,a10,a11,a12,a13,a14,a15,a16,rfl⟩:=zdB ha;rw [zjk,zeF,zeF];simp
theorem zgV{n:Nat}{v:List Int}(hn:n=2\/n=3\/n=4)(hv:v.length=n):mv (one n) v=v:=by
 rcases hn with rfl | rfl | rfl
 ·obtain ⟨x,y,rfl⟩:=z6R hv;rw [zjM];simp [mv,dot]
 ·obtain ⟨x,y,z,rfl⟩:=z67 hv;rw [zjP];simp [mv,dot]
 ·obtain ⟨x,y,z,u,rfl⟩:=z3U hv;rw [zjk];simp [mv,dot]
end Pm
set_option maxRecDepth 1000000
set_option maxHeartbeats 40000000
namespace Pm
abbrev Sz(n:Nat):Prop:=n=2\/n=3\/n=4
theorem z86{n:Nat}{A B:Tb}(ha:Tab n A)(hb:Tab n B):Tab n (qG A B):=by
 have l1:(zO B).length=n:=by simp [zO,hb.len]
 refine ⟨by simp [qG,zO,hb.len],fun r hr=>?_⟩;simp only [qG] at hr;rw [zO] at hr;obtain ⟨j,_,rfl⟩:=List.mem_map.mp hr;simp [l1]
theorem z3H(n:Nat):Tab n (one n):=by
 refine ⟨by simp [one],fun r hr=>?_⟩;simp only [one] at hr;obtain ⟨j,_,rfl⟩:=List.mem_map.mp hr;simp
def ziu(A:Tb):Prop:=det 4 A=1\/det 4 A=-1
def Bd(m:Nat)(T:Tb):Prop:=∀ r∈T,∀ x∈r,x.natAbs<2 ^ m
theorem zero_lt_two(m:Nat):(0:Int).natAbs<2 ^ m:=Nat.two_pow_pos _
theorem zf0{m:Nat}{r:List Int}(hr:∀ x∈r,x.natAbs<2 ^ m)(j:Nat):(r.getD j 0).natAbs<2 ^ m:=by
 by_cases h:j<r.length
 ·rw [List.getD,List.getElem?_eq_getElem h];exact hr _ (List.getElem_mem _)
 ·rw [List.getD,List.getElem?_eq_none (by omega)];exact zero_lt_two m
theorem zdI{m:Nat}{T:Tb}(h:Bd m T):Bd m (zO T):=fun r hr x hx=>by
 simp only [zO] at hr;obtain ⟨j,_,rfl⟩:=List.mem_map.mp hr;obtain ⟨q,hq,rfl⟩:=List.mem_map.mp hx;exact zf0 (h q hq) j
theorem Tab.le{n:Nat}{T:Tb}(h:Tab n T)(hn:Sz n):∀ r∈T,r.length<=4:=fun r hr=>by rw [h.row r hr];omega
end Pm
namespace Pg
open PySem.Spec L2 Dd Pm
abbrev iL(ns:List Int):List D:=ns.map D.int
theorem zjs{i:Int}{m:Nat}(h:i.natAbs<2 ^ m)(hm:m<=2000):i.natAbs<BIG:=Nat.lt_of_lt_of_le h (Nat.pow_le_pow_right (by decide) (by omega))
theorem zaI{a b:Int}{m k:Nat}(s:Sto)(ha:a.natAbs<2 ^ m)(hm:m<=2000)(hb:b.natAbs<2 ^ k)(hk:k<=2000):wW (.int a) (.int b) s=.ok (.int (a*b)) s:=by rw [zcz,if_pos ⟨zjs ha hm,zjs hb hk⟩]
theorem z7m{a b:Int}(s:Sto)(hb:0<b):z8P (.int a) (.int b) s=.ok (.int (a % b)) s:=by rw [zcy,if_pos hb]
theorem z1d{xs:List D}(s:Sto)(h:∀ x∈xs,x=.bl true):z8U [.lst xs] s=.ok (.bl true) s:=by
 have e:xs=(xs.map fun _=>true).map D.bl:=by
  rw [List.map_map];conv=>lhs;rw [<- List.map_id xs]
  exact List.map_congr_left fun x hx=>h x hx
 have b:bools xs=some (xs.map fun _=>true):=by
  conv=>lhs;rw [e]
  exact z5K _
 simp [z8U,zF,b]
theorem z7p{ns:List Int}(s:Sto)(h:ns≠[]):uy [.tup (iL ns)] s=.ok (.int (maxL ns)) s:=by cases ns with
 | nil=>exact absurd rfl h | cons n ns=>simp only [uy,zF,Option.bind_some,wk]
theorem zfM{ns:List Int}(s:Sto)(h:ns≠[]):z0m [.tup (iL ns)] s=.ok (.int (minL ns)) s:=by cases ns with
 | nil=>exact absurd rfl h | cons n ns=>simp only [z0m,zF,Option.bind_some,wk]
theorem zfC{ns:List Int}(s:Sto)(h:ns≠[]):uy [.lst (iL ns)] s=.ok (.int (maxL ns)) s:=by cases ns with
 | nil=>exact absurd rfl h | cons n ns=>simp only [uy,zF,Option.bind_some,wk]
theorem zc4{ns:List Int}{l:Nat}{s:Sto}(h:ns≠[])(e:s[l]? = some (iL ns)):uy [.loc l] s=.ok (.int (maxL ns)) s:=by cases ns with
 | nil=>exact absurd rfl h | cons n ns=>simp only [uy,zF,e,Option.bind_some,wk]
theorem zeZ(ps:List Int)(q:Int)(s:Sto):dIx (.tup (iL (ps++[q]))) (.int (-1)) s=.ok (.int q) s:=by
 have e:ixN (iL (ps++[q])).length (-1)=some ps.length:=by
  unfold ixN;rw [if_neg (by omega),if_pos (by simp;omega)];congr 1;simp;omega
 simp only [dIx,zF,atI,e,Option.bind_some];simp
theorem zeT(ps:List Int)(q:Int)(s:Sto):dSl (.tup (iL (ps++[q]))) none (some (-1)) s=.ok (.tup (iL ps)) s:=by
 have e:Dd.cutD (iL (ps++[q])) none (some (-1))=iL ps:=by
  have e1:HT.sIx (iL (ps++[q])).length (iL (ps++[q])).length (some (-1))=ps.length:=by
   unfold HT.sIx;simp only;rw [if_pos (by omega)];simp;omega
  unfold Dd.cutD;rw [e1];simp [HT.sIx]
 simp only [dSl,e]
theorem z8Y(i:Int)(s:Sto):uU [.int i] s=.ok (.bl true) s:=by simp [uU,Mof,z1U,zv,gIs,tyD,isT]
theorem z3w(xs:List D)(s:Sto)(h:2<=xs.length/\xs.length<=4):xG [.tup xs] s=.ok (.bl true) s:=by
 have h1:(2:Int)<=xs.length:=by omega
 have h2:(xs.length:Int)<=4:=by omega
 simp [xG,Mof,z1w,zv,gIs,tyD,isT,yE,zF,h1,h2]
theorem z0L (ns:List Int) (s:Sto) (h:ns.length<=1000):yM [.tup (iL ns),.int ns.length] s=.ok (.bl true) s:=by
 simp [yM,Mof,kO,zv,gIs,tyD,isT,yE,zF];rw [z5E (fun _=>D.bl true) (iL ns) [] (by intro x hx;obtain ⟨n,_,rfl⟩:=List.mem_map.mp hx;simp [z8Y]) (by simp [cap];omega)];simp only [R.bind_ok,List.nil_append];rw [z1d s (by intro x hx;obtain ⟨_,_,rfl⟩:=List.mem_map.mp hx;rfl)];simp
theorem qi{α:Type}{all:List D}{s:Sto}{body:D->Sto->R (Option D)}(g f:α->D):∀ (l:List α)(acc:List D),(∀ a∈l,body (g a) s=.ok (some (f a)) s)->acc.length+l.length<=cap->uh [] all body (l.map g) acc s=.ok (acc++l.map f) s
 | [],acc,_,_=>by simp [uh,okG] | x::xs,acc,hb,hl=>by
  have ih:=qi (all:=all) g f xs (acc++[f x]) (fun y hy=>hb y (by simp [hy])) (by simp at hl ⊢;omega);have hc:acc.length<cap:=by simp at hl;omega
  rw [List.map_cons,uh];simp [okG,hb x (by simp),hc,ih]
theorem zcX(ns:List Int)(s:Sto):zcA [.lst (iL ns)] s=.ok (.int ns.sum) s:=by simp only [zcA,zF,Option.bind_some,wk]
theorem zw:∀ (r v:List Int),List.zipWith (fun a b=>a*b) r v=(List.zip r v).map fun p=>p.1*p.2
 | [],_=>by simp | _::_,[]=>by simp | a::r,b::v=>by simp [zw r v]
theorem z42:∀ (r v:List Int),z11 (iL r) (iL v)=(List.zip r v).map fun p=>D.tup [.int p.1,.int p.2]
 | [],_=>by simp [z11] | _::_,[]=>by simp [z11] | a::r,b::v=>by
  have:=z42 r v;simp only [iL] at this;simp [z11,this]
theorem z8O{r v:List Int}{m k:Nat}(s:Sto)(hr:∀ x∈r,x.natAbs<2 ^ m)(hv:∀ x∈v,x.natAbs<2 ^ k)(hm:m<=2000)(hk:k<=2000)(hl:r.length<=4):uX [.tup (iL r),.tup (iL v)] s=.ok (.int (dot r v)) s:=by
 have ez:=z42 r v;simp only [iL] at ez;simp [uX,Mof,z1l,zv,z0Q,ez,-List.map_map];rw [qi _ (fun p:Int×Int=>D.int (p.1*p.2)) _ [] (by
  intro p hp;have h1:=hr p.1 (List.of_mem_zip hp).1;have h2:=hv p.2 (List.of_mem_zip hp).2;simp [zaI s h1 hm h2 hk]) (by simp [cap];omega)];simp only [R.bind_ok,List.nil_append];have e:(List.zip r v).map (fun p:Int×Int=>D.int (p.1*p.2))=iL ((List.zip r v).map fun p=>p.1*p.2):=by simp [Function.comp_def]
 rw [e,zcX];simp [dot,zw]
abbrev rD(r:List Int):D:=.tup (iL r)
abbrev tD(T:Tb):D:=.tup (T.map rD)
theorem z4J{T:Tb}{v:List Int}{m k:Nat}(s:Sto)(h:Bd m T)(hv:∀ x∈v,x.natAbs<2 ^ k)(hm:m<=2000)(hk:k<=2000)(hl:∀ r∈T,r.length<=4)(hT:T.length<=4):yN [tD T,.tup (iL v)] s=.ok (.tup (iL (mv T v))) s:=by
 simp only [yN,Mof,jG,zv,tD];simp [-List.map_map];rw [qi rD (fun r=>D.int (dot r v)) T [] (by
  intro r hr;have:=z8O s (h r hr) hv hm hk (hl r hr);simp only [iL] at this;simp [this]) (by simp [cap];omega)];simp [zQ,zF,mv,Function.comp_def]
theorem z81{xs:List D}{j:Nat}{d:D}(s:Sto)(h:xs[j]? = some d):dIx (.tup xs) (.int j) s=.ok d s:=by
 have hj:j<xs.length:=(List.getElem?_eq_some_iff.mp h).1;have e:ixN xs.length (j:Int)=some j:=by
  unfold ixN;rw [if_pos (by omega),if_pos (by omega)];simp
 simp only [dIx,zF,atI,e,Option.bind_some,h]
theorem zan{n:Nat}{ar:FA}{Z:Ev}{s s1:Sto}(hn:n<=1000)(h:ar Z s=.ok [.int n] s1):qU ar Z s=.ok (yK n,[]) s1:=by
 have c62:-(2 ^ 62)<=(n:Int)/\(n:Int)<2 ^ 62:=by omega
 rw [zd6,h,R.bind_ok];simp only;rw [if_pos c62,Int.toNat_natCast]
theorem zkm {T:Tb} {k:Nat} (s:Sto) (hk:∀ r∈T,k<r.length) (hT:T.length<=4):zn (zV (zc 0)) [some 1,none] (yn 1) zR (eOp dIx (zc 1) (zc 0)) [some (tD T),some (.int k)] s=.ok (.lst (iL (T.map fun r=>r.getD k 0))) s:=by
 simp [-List.map_map];rw [qi rD (fun r=>D.int (r.getD k 0)) T [] (by
  intro r hrr;have hkr:k<r.length:=hk r hrr;have:=z81 (xs:=iL r) (j:=k) (d:=.int (r.getD k 0)) s (by simp [List.getElem?_map,List.getElem?_eq_getElem hkr,List.getD]);simp only [iL] at this;simp [this]) (by simp [cap];omega)];simp [Function.comp_def]
theorem zjY {T:Tb} (s:Sto) (hr:∀ r∈T,T.length<=r.length) (hT:T.length<=4): zn (qU (za (zd yE (za (zc 0) zh)) zh)) [some 0,none] (yn 1) zR (zd zQ (za (zn (zV (zc 0)) [some 1,none] (yn 1) zR (eOp dIx (zc 1) (zc 0))) zh)) [some (tD T)] s=.ok (.lst ((zO T).map rD)) s:=by
 rw [kZ,jX,zan (n:=T.length) (s1:=s) (by omega) (by simp [yE,zF])];rw [R.bind_ok];simp only [yK];rw [qi (fun k:Nat=>D.int (k:Int)) (fun k:Nat=>rD (T.map fun r=>r.getD k 0)) (List.range T.length) [] (by
  intro k hk;have hk':k<T.length:=by simpa using hk
  rw [z0v,R.bind_ok,zas,R.bind_ok,if_pos rfl,yy,zm];rw [show (xL [some 0,none] [some (tD T)]).set 1 (some (.int (k:Int)))=[some (tD T),some (.int (k:Int))] from rfl];rw [zkm s (fun r hrr=>Nat.lt_of_lt_of_le hk' (hr r hrr)) hT];simp [zQ,zF]) (by simp [cap];omega)];simp [zO,Function.comp_def]
theorem ziY{d:D}(s:Sto)(x:List D)(h:zn (qU (za (zd yE (za (zc 0) zh)) zh)) [some 0,none] (yn 1) zR (zd zQ (za (zn (zV (zc 0)) [some 1,none] (yn 1) zR (eOp dIx (zc 1) (zc 0))) zh)) [some d] s=.ok (.lst x) s):zT [d] s=.ok (.tup x) s:=by
 have st:zv ["table"] [d]=[some d]:=rfl;simp only [zT,Mof,kE,st,List.length_cons,List.length_nil,if_true,jS,yC,yy,zm,h,R.bind_ok,zE,zQ,zF]
theorem jo{T:Tb}(s:Sto)(hr:∀ r∈T,T.length<=r.length)(hT:T.length<=4):zT [tD T] s=.ok (tD (zO T)) s:=ziY s _ (zjY s hr hT)
theorem z93 {n:Nat} {T:Tb} (s:Sto) (hn:Sz n) (h:Tab n T):wP [tD T] s=.ok (.bl true) s:=by
 have hl:=h.len;have hs:=z3w (T.map rD) s (by simp [hl];omega);have key:∀ d:D,xG [d] s=.ok (.bl true) s->zn (zV (zc 0)) [some 0,none] (yn 1) zR (zd yM (za (zc 1) (za (zd yE (za (zc 0) zh)) zh))) [some d] s=.ok (.lst (T.map fun _=>D.bl true)) s->wP [d] s=.ok (.bl true) s:=fun d h1 h2=>by
  have st:zv ["thing"] [d]=[some d]:=rfl;simp only [wP,Mof,z1y,st,List.length_cons,List.length_nil,if_true];rw [zi (Z':=[some d]) (s':=s) (by simp [h1])];simp only [z0o,yC,yy,zm,h2,R.bind_ok,zE];rw [z1d s (by intro x hx;obtain ⟨_,_,rfl⟩:=List.mem_map.mp hx;rfl)];rfl
 refine key _ hs ?_;rw [kZ,jX];simp only [z7b,yf,List.getElem?_cons_zero,R.bind_ok];rw [qi rD (fun _=>D.bl true) T [] (by
  intro r hr;have hw:=z0L r s (by have:=h.row r hr;omega);rw [h.row r hr,<- hl] at hw;simp only [iL] at hw;simp [yE,zF,hw]) (by simp [cap];omega)];simp
theorem z0N{n:Nat}{T:Tb}(s:Sto)(hn:Sz n)(h:Tab n T):yL [tD T] s=.ok .non s:=by
 have key:∀ d:D,wP [d] s=.ok (.bl true) s->yL [d] s=.ok .non s:=fun d h1=>by simp [yL,Mof,kW,zv,h1]
 exact key _ (z93 s hn h)
theorem ziL{d e c:D}{cs:List (List Int)}(s:Sto)(f:List Int->D)(hc:zT [e] s=.ok (.tup (cs.map rD)) s)(h:∀ r∈cs,yN [d,rD r] s=.ok (f r) s)(hl:cs.length<=4): zn (zV (zd zT (za (zc 1) zh))) [some 0,none] (yn 1) zR (zd yN (za (zc 0) (za (zc 1) zh))) [some d,some e] s=.ok (.lst (cs.map f)) s:=by
 rw [kZ,jX];simp only [z7b,yy,zm,zE,yf,List.getElem?_cons_zero,List.getElem?_cons_succ,R.bind_ok,hc];rw [qi rD f cs [] (by
  intro c hc;simp only [z0v,R.bind_ok,zas,if_true,z8I,z8M,z5t,List.getElem?_cons_zero,Option.getD_some,List.set_cons_succ,List.set_cons_zero,yy,zm,zE,yf,List.getElem?_cons_succ,h c hc]) (by simp [cap];omega)];rw [R.bind_ok,List.nil_append]
theorem zif {d e f:D} {x:List D} {n:Int} (s:Sto) (h1:yL [d] s=.ok .non s) (h2:yL [e] s=.ok .non s) (h3:yE [d] s=.ok (.int n) s) (h4:yE [e] s=.ok (.int n) s) (h5:zn (zV (zd zT (za (zc 1) zh))) [some 0,none] (yn 1) zR (zd yN (za (zc 0) (za (zc 1) zh))) [some d,some e] s=.ok (.lst x) s) (h6:zT [.tup x] s=.ok f s):xz [d,e] s=.ok f s:=by
 have st:zv ["one","other"] [d,e]=[some d,some e]:=rfl;simp only [xz,Mof,kT,st,List.length_cons,List.length_nil,if_true];rw [zi (Z':=[some d,some e]) (s':=s) (by simp [h1]),zi (Z':=[some d,some e]) (s':=s) (by simp [h2]),zi (Z':=[some d,some e]) (s':=s) (by simp [h3,h4])];have g:zQ [.lst x] s=.ok (.tup x) s:=by simp [zQ,zF]
 simp only [jR,yC,yy,zm,h5,R.bind_ok,zE];rw [g,R.bind_ok,R.bind_ok,h6,R.bind_ok]
theorem z4V{n:Nat}{A B:Tb}{m k:Nat}(s:Sto)(hn:Sz n)(ha:Tab n A)(hb:Tab n B)(hA:Bd m A)(hB:Bd k B)(hm:m<=2000)(hk:k<=2000):xz [tD A,tD B] s=.ok (tD (qG A B)) s:=by
 have w1:=z0N s hn ha;have w2:=z0N s hn hb;have n4:n<=4:=by omega
 have c1:=jo (T:=B) s (fun r hr=>by rw [hb.row r hr,hb.len];omega) (by rw [hb.len];omega);have lc:(zO B).length=n:=by simp [zO,hb.len]
 have c2:=jo (T:=(zO B).map (mv A)) s (fun r hr=>by
  obtain ⟨c,_,rfl⟩:=List.mem_map.mp hr;simp [mv,ha.len,lc]) (by simp [lc];omega);have g1:yE [tD A] s=.ok (.int n) s:=by simp [yE,zF,ha.len]
 have g2:yE [tD B] s=.ok (.int n) s:=by simp [yE,zF,hb.len]
 refine zif s w1 w2 g1 g2 (ziL (c:=.non) s (fun r=>rD (mv A r)) c1 (fun r hr=>z4J s hA (zdI hB r hr) hm hk (ha.le hn) (by rw [ha.len];omega)) (by omega)) ?_;have e:(zO B).map (fun r=>rD (mv A r))=((zO B).map (mv A)).map rD:=by rw [List.map_map];rfl
 rw [e];exact c2
theorem z4u(xs:List D)(i:Nat)(s:Sto):dSl (.tup xs) none (some (i:Int)) s=.ok (.tup (xs.take i)) s:=by
 have e:Dd.cutD xs none (some (i:Int))=xs.take i:=by
  unfold Dd.cutD;rw [HT.z80,HT.z9Z];simp [List.take_eq_take_min]
 simp only [dSl,e]
theorem z1z(xs:List D)(i:Nat)(s:Sto):dSl (.tup xs) (some (i:Int)) none s=.ok (.tup (xs.drop i)) s:=by
 have e:Dd.cutD xs (some (i:Int)) none=xs.drop i:=by
  unfold Dd.cutD;rw [HT.z80,HT.z9Z];by_cases h:i<=xs.length
  ·rw [Nat.min_eq_left h];exact List.take_of_length_le (by simp)
  ·rw [Nat.min_eq_right (by omega)];simp [List.drop_of_length_le (show xs.length<=i by omega)]
 simp only [dSl,e]
theorem z00 {r:List Int} {j:Nat} (s:Sto) (h:j<r.length):dIx (rD r) (.int (j:Int)) s=.ok (.int (r.getD j 0)) s:=z81 (xs:=iL r) (j:=j) (d:=.int (r.getD j 0)) s (by simp [List.getElem?_map,List.getElem?_eq_getElem h,List.getD])
end Pg
namespace Pm
open L2 (maxL minL maxL_ge maxL_mem minL_le minL_mem)
inductive Rl where | nx | le | al | tu deriving DecidableEq
structure Lot(n:Nat)(v:List Int):Prop where
 sz:Sz n
 len:v.length=n
 nn:∀ x∈v,0<=x
 pos:∃ x∈v,0<x
def nz(v:List Int):List Int:=v.filter fun x=>decide (x≠0)
def ended(v:List Int):Bool:=decide ((nz v).length=1)
def gp(v:List Int):Nat:=v.idxOf (maxL v)
def others(v:List Int):List Int:=v.take (gp v)++[0]++v.drop (gp v+1)
def lp(v:List Int):Nat:=v.idxOf (minL (nz v))
def xM(v:List Int)(p:Nat):List Nat:=(List.range v.length).filter fun i=>decide (i≠p)
def deal:Rl->List Int->Nat×List Nat
 | .nx,v=>((others v).idxOf (maxL (others v)),[gp v]) | .le,v=>(lp (others v),[gp v]) | .al,v=>(lp v,xM v (lp v)) | .tu,v=>(0,if v.getD 0 0=0 then [] else xM v 0)
def zq(v:List Int)(d:Nat×List Nat):List Int:=(List.range v.length).map fun i=>if i∈d.2 then v.getD i 0 / v.getD d.1 0 else 0
def rot{α:Type}(xs:List α):List α:=xs.drop 1++xs.take 1
def mvd{α:Type}(r:Rl)(xs:List α):List α:=if r=.tu then rot xs else xs
def left(v qs:List Int)(b:Nat):List Int:=List.zipWith (fun x q=>x-q*v.getD b 0) v qs
def stp(r:Rl)(v:List Int):List Int:=mvd r (left v (zq v (deal r v)) (deal r v).1)
def zJ(b:Nat)(line:List Int)(q:Int):List Int:=line.take b++[line.getD b 0+q]++line.drop (b+1)
def z4G(r:Rl)(b:Nat)(qs:List Int):Tb:=List.zipWith (fun line q=>mvd r (zJ b line q)) (one qs.length) qs
def vF(r:Rl)(v:List Int):Tb:=z4G r (deal r v).1 (zq v (deal r v))
@[simp] theorem zf1:dot [] []=0:=rfl
@[simp] theorem dot_cons (a b:Int) (r v:List Int):dot (a::r) (b::v)=a*b+dot r v:=rfl
theorem vL:∀ {r c r' c':List Int},r.length=c.length->dot (r++r') (c++c')=dot r c+dot r' c'
 | [],[],_,_,_=>by simp | a::r,b::c,r',c',h=>by
  have:=vL (r:=r) (c:=c) (r':=r') (c':=c') (by simpa using h);simp only [List.cons_append,dot_cons,this];omega | [],_::_,_,_,h=>by simp at h | _::_,[],_,_,h=>by simp at h
def z9U(z:Int)(c q:List Int):List Int:=List.zipWith (fun x q=>x-q*z) c q
theorem z6y (z:Int):∀ {r c q:List Int},r.length=c.length->c.length=q.length->dot r (z9U z c q)=dot r c-dot r q*z
 | [],[],[],_,_=>by simp [z9U] | a::r,b::c,p::q,h1,h2=>by
  have:=z6y z (r:=r) (c:=c) (q:=q) (by simpa using h1) (by simpa using h2);simp only [z9U] at this;simp only [z9U,List.zipWith_cons_cons,dot_cons,this];grind | [],_::_,_,h,_=>by simp at h | _::_,[],_,h,_=>by simp at h | _,[],_::_,_,h=>by simp at h | _,_::_,[],_,h=>by simp at h
theorem z8i:∀ {r c:List Int},(∀ x∈r,0<=x)->(∀ x∈c,0<=x)->0<=dot r c
 | [],[],_,_=>by simp | [],_::_,_,_=>by simp [dot] | _::_,[],_,_=>by simp [dot] | a::r,b::c,h1,h2=>by
  have i:=z8i (r:=r) (c:=c) (fun x hx=>h1 x (by simp [hx])) fun x hx=>h2 x (by simp [hx]);have j:=Int.mul_nonneg (h1 a (by simp)) (h2 b (by simp));simp only [dot_cons];omega
theorem zeI{r c:List Int}(h:r.length=c.length):dot (rot r) (rot c)=dot r c:=by match r,c,h with
 | [],[],_=>rfl | a::r,b::c,h=>
  show dot (r++[a]) (c++[b])=_;rw [vL (by simpa using h)];simp only [dot_cons,zf1];omega | [],_::_,h=>simp at h | _::_,[],h=>simp at h
theorem zdu{r c:List Int}(l:Rl)(h:r.length=c.length):dot (mvd l r) (mvd l c)=dot r c:=by
 unfold mvd;split;·exact zeI h
 ·rfl
theorem zaX{α:Type}{x:α}{xs:List α}:x∈rot xs ↔ x∈xs:=by cases xs with
 | nil=>simp [rot] | cons a xs=>simp [rot,or_comm]
theorem z4L{α:Type}{x:α}{xs:List α}{l:Rl}:x∈mvd l xs ↔ x∈xs:=by
 unfold mvd;split;·exact zaX
 ·rfl
theorem zdg{α:Type}(xs:List α):(rot xs).length=xs.length:=by cases xs<;>simp [rot]
theorem z4c{α:Type}{l:Rl}(xs:List α):(mvd l xs).length=xs.length:=by
 unfold mvd;split;·exact zdg xs
 ·rfl
structure Qs(v:List Int)(b:Nat)(qs:List Int):Prop where
 lt:b<v.length
 len:qs.length=v.length
 zero:qs[b]? = some 0
 nn:∀ q∈qs,0<=q
 fit:∀ i,0<=v.getD i 0-qs.getD i 0*v.getD b 0
 pos:(∀ q∈qs,q=0)\/0<v.getD b 0
theorem z1e{α:Type}{v:List α}{b:Nat}(h:b<v.length):∃ v1 z v2,v=v1++z::v2/\v1.length=b:= ⟨v.take b,v[b],v.drop (b+1),by rw [<- List.drop_eq_getElem_cons h,List.take_append_drop],by simp;omega⟩
def z4t(b:Nat)(qs r:List Int):List Int:=r.set b (r.getD b 0+dot r qs)
theorem getD_at{α:Type}{v1 v2:List α}{z d:α}{b:Nat}(h:v1.length=b):(v1++z::v2).getD b d=z:=by
 subst h;simp [List.getD]
theorem Qs.split {v qs r:List Int} {b:Nat} (h:Qs v b qs) (hr:r.length=v.length):∃ v1 z v2 q1 q2 r1 y r2,v=v1++z::v2/\qs=q1++0::q2/\r=r1++y::r2/\v1.length=b/\q1.length=b/\r1.length=b/\q2.length=v2.length/\r2.length=v2.length:=by
 obtain ⟨v1,z,v2,rfl,e1⟩:=z1e h.lt;obtain ⟨q1,p,q2,rfl,e2⟩:=z1e (v:=qs) (b:=b) (by rw [h.len];exact h.lt);obtain ⟨r1,y,r2,rfl,e3⟩:=z1e (v:=r) (b:=b) (by rw [hr];exact h.lt);have hz:=h.zero;rw [<- e2] at hz;simp at hz;subst hz;have l1:=h.len;simp at l1 hr;exact ⟨v1,z,v2,q1,q2,r1,y,r2,rfl,rfl,rfl,e1,e2,e3,by omega,by omega⟩
theorem z38 {v1 v2 q1 q2:List Int} {z:Int} {b:Nat} (h1:v1.length=b) (h2:q1.length=b):left (v1++z::v2) (q1++0::q2) b=z9U z v1 q1++z::z9U z v2 q2:=by
 unfold left z9U;rw [getD_at h1,List.zipWith_append (by omega)];simp
theorem zeu{v qs r:List Int}{b:Nat}(h:Qs v b qs)(hr:r.length=v.length):dot (z4t b qs r) (left v qs b)=dot r v:=by
 obtain ⟨v1,z,v2,q1,q2,r1,y,r2,rfl,rfl,rfl,e1,e2,e3,e4,e5⟩:=h.split hr;rw [z38 e1 e2];unfold z4t;rw [getD_at e3,<- e3,List.set_append_right _ _ (by omega)];simp only [Nat.sub_self,List.set_cons_zero];rw [vL (by simp [z9U];omega),vL (by omega),vL (by omega)];simp only [dot_cons];rw [z6y z (by omega) (by omega),z6y z (by omega) (by omega)];grind
theorem wV{v qs:List Int}{b:Nat}(h:qs.length=v.length):(left v qs b).length=v.length:=by simp [left,h]
theorem z9i{v qs:List Int}{b:Nat}(h:Qs v b qs):∀ x∈left v qs b,0<=x:=fun x hx=>by
 obtain ⟨i,hi,e⟩:=List.mem_iff_getElem.mp hx;have:=h.fit i;have hl:=wV (b:=b) h.len;have h1:i<v.length:=by omega
 have h2:i<qs.length:=by rw [h.len];exact h1
 simp only [List.getD,List.getElem?_eq_getElem h1,List.getElem?_eq_getElem h2,Option.getD_some] at this;rw [<- e];simpa [left,List.getD] using this
structure zhR(B:Int)(r c:List Int)(x:Int):Prop where
 len:r.length=c.length
 nn:∀ y∈r,0<=y/\y<=B
 dot:dot r c=x
theorem zci {B x:Int} {v qs r:List Int} {b:Nat} (l:Rl) (h:Qs v b qs) (hx:x<=B) (I:zhR B r v x):zhR B (mvd l (z4t b qs r)) (mvd l (left v qs b)) x:=by
 have hd:=zeu h I.len;have rl:(z4t b qs r).length=r.length:=by simp [z4t]
 have ll:=wV (b:=b) h.len;refine ⟨by rw [z4c,z4c,rl,ll,I.len],fun y hy=>?_,by rw [zdu l (by rw [rl,ll,I.len]),hd,I.dot]⟩;rw [z4L] at hy;have ln:=z9i h;obtain ⟨v1,z,v2,q1,q2,r1,u,r2,rfl,rfl,rfl,e1,e2,e3,e4,e5⟩:=h.split I.len;rw [z38 e1 e2] at hd ln;have ev:(r1++u::r2).set b ((r1++u::r2).getD b 0+Pm.dot (r1++u::r2) (q1++0::q2))=r1++(u+Pm.dot (r1++u::r2) (q1++0::q2))::r2:=by
  rw [getD_at e3,<- e3,List.set_append_right _ _ (by omega)];simp only [Nat.sub_self,List.set_cons_zero]
 unfold z4t at hy hd;rw [ev] at hy hd;have dq:0<=Pm.dot (r1++u::r2) (q1++0::q2):=z8i (fun x hx=>(I.nn x hx).1) h.nn;have hu:=I.nn u (by simp);rcases List.mem_append.mp hy with hy | hy;·exact I.nn y (by simp [hy])
 ·rcases List.mem_cons.mp hy with rfl | hy
  ·refine ⟨by omega,?_⟩;rcases h.pos with h0 | h0
   ·have dz:Pm.dot (r1++u::r2) (q1++0::q2)=0:=by
     have:∀ (r q:List Int),(∀ x∈q,x=0)->Pm.dot r q=0:=by
      intro r;induction r with
      | nil=>intro q _;cases q<;>simp [Pm.dot] | cons a r ih=>
       intro q hq;cases q with
       | nil=>simp [Pm.dot] | cons p q=>rw [dot_cons,ih q (fun x hx=>hq x (by simp [hx])),hq p (by simp)];simp
     exact this _ _ h0
    omega
   ·rw [getD_at e1] at h0;rw [vL (by simp [z9U];omega),dot_cons] at hd;have n1:0<=Pm.dot r1 (z9U z v1 q1):=z8i (fun x hx=>(I.nn x (by simp [hx])).1) fun x hx=>ln x (by simp [hx]);have n2:0<=Pm.dot r2 (z9U z v2 q2):=z8i (fun x hx=>(I.nn x (by simp [hx])).1) fun x hx=>ln x (by simp [hx]);have dt:=I.dot;generalize Pm.dot (r1++u::r2) (q1++0::q2)=dd at *;have m1:(u+dd)*1<=(u+dd)*z:=Int.mul_le_mul_of_nonneg_left (by omega) (by omega);omega
  ·exact I.nn y (by simp [hy])
theorem z0s{α:Type}(xs:List α):mvd .tu xs=rot xs:=by simp [mvd]
theorem kU{α:Type}{r:Rl}(h:r≠.tu)(xs:List α):mvd r xs=xs:=by simp [mvd,h]
theorem zhw{n b:Nat}{qs:List Int}(P:Tb->Prop)(r:Rl)(hn:Sz n)(hq:qs.length=n)(hb:b<n)(hz:qs[b]? = some 0) (p20:∀ q,P [[1,0],[q,1]])(p21:∀ q,P [[1,q],[0,1]]) (p30:∀ p q,P [[1,0,0],[p,1,0],[q,0,1]])(p31:∀ p q,P [[1,p,0],[0,1,0],[0,q,1]])(p32:∀ p q,P [[1,0,p],[0,1,q],[0,0,1]]) (p40:∀ p q s,P [[1,0,0,0],[p,1,0,0],[q,0,1,0],[s,0,0,1]])(p41:∀ p q s,P [[1,p,0,0],[0,1,0,0],[0,q,1,0],[0,s,0,1]]) (p42:∀ p q s,P [[1,0,p,0],[0,1,q,0],[0,0,1,0],[0,0,s,1]])(p43:∀ p q s,P [[1,0,0,p],[0,1,0,q],[0,0,1,s],[0,0,0,1]]) (t:∀ T,Tab n T->P T->P (T.map rot)):P (z4G r b qs):=by
 have main:P (List.zipWith (fun line q=>zJ b line q) (one qs.length) qs):=by
  rcases hn with rfl | rfl | rfl
  ·obtain ⟨x,y,rfl⟩:=z6R hq;match b,hb with
   | 0,_=>simp at hz;subst hz;simpa [one,zJ,List.range,List.range.loop] using p20 y | 1,_=>simp at hz;subst hz;simpa [one,zJ,List.range,List.range.loop] using p21 x
  ·obtain ⟨x,y,z,rfl⟩:=z67 hq;match b,hb with
   | 0,_=>simp at hz;subst hz;simpa [one,zJ,List.range,List.range.loop] using p30 y z | 1,_=>simp at hz;subst hz;simpa [one,zJ,List.range,List.range.loop] using p31 x z | 2,_=>simp at hz;subst hz;simpa [one,zJ,List.range,List.range.loop] using p32 x y
  ·obtain ⟨x,y,z,w,rfl⟩:=z3U hq;match b,hb with
   | 0,_=>simp at hz;subst hz;simpa [one,zJ,List.range,List.range.loop] using p40 y z w | 1,_=>simp at hz;subst hz;simpa [one,zJ,List.range,List.range.loop] using p41 x z w | 2,_=>simp at hz;subst hz;simpa [one,zJ,List.range,List.range.loop] using p42 x y w | 3,_=>simp at hz;subst hz;simpa [one,zJ,List.range,List.range.loop] using p43 x y z
 have tb:Tab n (List.zipWith (fun line q=>zJ b line q) (one qs.length) qs):=by
  refine ⟨by simp [one,hq],fun l hl=>?_⟩;obtain ⟨i,hi,rfl⟩:=List.mem_iff_getElem.mp hl;simp at hi;simp [zJ,one];omega
 by_cases hr:r=.tu
 ·subst hr;have:z4G .tu b qs=(List.zipWith (fun line q=>zJ b line q) (one qs.length) qs).map rot:=by
   unfold z4G;rw [List.map_zipWith];simp only [z0s]
  rw [this];exact t _ tb main
 ·have:z4G r b qs=List.zipWith (fun line q=>zJ b line q) (one qs.length) qs:=by
   unfold z4G;simp only [kU hr]
  rw [this];exact main
theorem zbx{n b:Nat}{qs:List Int}(r:Rl)(hn:Sz n)(hq:qs.length=n)(hb:b<n):Tab n (z4G r b qs):=by
 refine ⟨by simp [z4G,one,hq],fun l hl=>?_⟩;obtain ⟨i,hi,rfl⟩:=List.mem_iff_getElem.mp hl;simp [z4G] at hi;simp [z4G,z4c,zJ,one];omega
def jK(T:Tb)(r:List Int):List Int:=(zO T).map (dot r)
theorem z2l{n:Nat}{A T:Tb}(hn:Sz n)(ha:Tab n A)(ht:Tab n T):qG A T=A.map (jK T):=by
 rcases hn with rfl | rfl | rfl
 ·obtain ⟨a,b,c,d,rfl⟩:=zee ha;obtain ⟨e,f,g,h,rfl⟩:=zee ht;rfl
 ·obtain ⟨a1,a2,a3,a4,a5,a6,a7,a8,a9,rfl⟩:=zdD ha;obtain ⟨b1,b2,b3,b4,b5,b6,b7,b8,b9,rfl⟩:=zdD ht;rfl
 ·obtain ⟨a1,a2,a3,a4,a5,a6,a7,a8,a9,a10,a11,a12,a13,a14,a15,a16,rfl⟩:=zdB ha;obtain ⟨b1,b2,b3,b4,b5,b6,b7,b8,b9,b10,b11,b12,b13,b14,b15,b16,rfl⟩:=zdB ht;rfl
theorem zbe{n:Nat}{T:Tb}{r:List Int}(hn:Sz n)(h:Tab n T):jK (T.map rot) r=rot (jK T r):=by
 rcases hn with rfl | rfl | rfl
 ·obtain ⟨a,b,c,d,rfl⟩:=zee h;rfl
 ·obtain ⟨a,b,c,d,e,f,g,i,j,rfl⟩:=zdD h;rfl
 ·obtain ⟨a,b,c,d,e,f,g,i,j,k,l,m,n,o,p,q,rfl⟩:=zdB h;rfl
theorem za3{n b:Nat}{qs row:List Int}(r:Rl)(hn:Sz n)(hq:qs.length=n)(hb:b<n)(hz:qs[b]? = some 0)(hr:row.length=n):jK (z4G r b qs) row=mvd r (z4t b qs row):=by
 have main:jK (List.zipWith (fun line q=>zJ b line q) (one qs.length) qs) row=z4t b qs row:=by
  rcases hn with rfl | rfl | rfl
  ·obtain ⟨x,y,rfl⟩:=z6R hq;obtain ⟨x',y',rfl⟩:=z6R hr;match b,hb with
   | 0,_=>simp at hz;subst hz;simp [one,zJ,List.range,List.range.loop,jK,zO,z4t,dot] | 1,_=>simp at hz;subst hz;simp [one,zJ,List.range,List.range.loop,jK,zO,z4t,dot];try omega
  ·obtain ⟨x,y,z,rfl⟩:=z67 hq;obtain ⟨x',y',z',rfl⟩:=z67 hr;match b,hb with
   | 0,_=>simp at hz;subst hz;simp [one,zJ,List.range,List.range.loop,jK,zO,z4t,dot]<;>try omega | 1,_=>simp at hz;subst hz;simp [one,zJ,List.range,List.range.loop,jK,zO,z4t,dot]<;>try omega | 2,_=>simp at hz;subst hz;simp [one,zJ,List.range,List.range.loop,jK,zO,z4t,dot]<;>try omega
  ·obtain ⟨x,y,z,w,rfl⟩:=z3U hq;obtain ⟨x',y',z',w',rfl⟩:=z3U hr;match b,hb with
   | 0,_=>simp at hz;subst hz;simp [one,zJ,List.range,List.range.loop,jK,zO,z4t,dot]<;>try omega | 1,_=>simp at hz;subst hz;simp [one,zJ,List.range,List.range.loop,jK,zO,z4t,dot]<;>try omega | 2,_=>simp at hz;subst hz;simp [one,zJ,List.range,List.range.loop,jK,zO,z4t,dot]<;>try omega | 3,_=>simp at hz;subst hz;simp [one,zJ,List.range,List.range.loop,jK,zO,z4t,dot]<;>try omega
 have tb:Tab n (List.zipWith (fun line q=>zJ b line q) (one qs.length) qs):=by
  refine ⟨by simp [one,hq],fun l hl=>?_⟩;obtain ⟨i,hi,rfl⟩:=List.mem_iff_getElem.mp hl;simp at hi;simp [zJ,one];omega
 by_cases h:r=.tu
 ·subst h;have e:z4G .tu b qs=(List.zipWith (fun line q=>zJ b line q) (one qs.length) qs).map rot:=by
   unfold z4G;rw [List.map_zipWith];simp only [z0s]
  rw [e,zbe hn tb,main,z0s]
 ·have e:z4G r b qs=List.zipWith (fun line q=>zJ b line q) (one qs.length) qs:=by
   unfold z4G;simp only [kU h]
  rw [e,main,kU h]
theorem uG{v:List Int}{x:Int}:x∈nz v ↔ x∈v/\x≠0:=by simp [nz]
theorem getD_mem{v:List Int}{i:Nat}(h:i<v.length):v.getD i 0∈v:=by simp [List.getD,List.getElem?_eq_getElem h]
theorem wK{v:List Int}(h:∀ x∈v,0<=x)(i:Nat):0<=v.getD i 0:=by
 by_cases hi:i<v.length;·exact h _ (getD_mem hi)
 ·simp [List.getD,List.getElem?_eq_none (Nat.not_lt.mp hi)]
theorem z58{v:List Int}{x:Int}(h:x∈v):v.idxOf x<v.length/\v.getD (v.idxOf x) 0=x:=by
 have hl:=List.idxOf_lt_length_of_mem h;exact ⟨hl,by simp [List.getD,List.getElem?_eq_getElem hl,List.getElem_idxOf hl]⟩
theorem Lot.ne{n:Nat}{v:List Int}(h:Lot n v):v≠[]:=fun z=>by
 obtain ⟨x,hx,_⟩:=h.pos;rw [z] at hx;simp at hx
theorem Lot.nzne{n:Nat}{v:List Int}(h:Lot n v):nz v≠[]:=fun z=>by
 obtain ⟨x,hx,h0⟩:=h.pos;have:x∈nz v:=uG.mpr ⟨hx,by omega⟩;rw [z] at this;simp at this
theorem z99{v:List Int}(h:nz v≠[]):lp v<v.length/\v.getD (lp v) 0=minL (nz v)/\minL (nz v)≠0:=by
 have m:=uG.mp (minL_mem h);have:=z58 m.1;exact ⟨this.1,this.2,m.2⟩
theorem z8Q{v:List Int}(h:v≠[]):gp v<v.length/\v.getD (gp v) 0=maxL v:=z58 (maxL_mem h)
theorem others_eq{v:List Int}(h:v≠[]):others v=v.set (gp v) 0:=by
 have:=(z8Q h).1;unfold others;rw [List.set_eq_take_append_cons_drop,if_pos this];simp
theorem vT{v:List Int}(h:v≠[])(i:Nat):(others v).getD i 0=if i=gp v then 0 else v.getD i 0:=by
 have hg:=(z8Q h).1;rw [others_eq h];by_cases e:i=gp v
 ·subst e;simp [List.getD,hg]
 ·simp [List.getD,e,List.getElem?_set_ne (Ne.symm e)]
theorem wj{v:List Int}(h:v≠[]):(others v).length=v.length:=by rw [others_eq h];simp
theorem zaU:∀ {v:List Int}{p:Nat},(nz v).length≠1->v.getD p 0≠0->∃ j,j≠p/\j<v.length/\v.getD j 0≠0:=by
 intro v p he hp;have hpl:p<v.length:=by
  apply Classical.byContradiction;intro z;exact hp (by simp [List.getD,List.getElem?_eq_none (Nat.not_lt.mp z)])
 apply Classical.byContradiction;intro hn;apply he;obtain ⟨v1,z,v2,rfl,e1⟩:=z1e hpl;rw [getD_at e1] at hp;have f1:∀ x∈v1,x=0:=fun x hx=>by
  obtain ⟨j,hj,rfl⟩:=List.mem_iff_getElem.mp hx;apply Classical.byContradiction;intro z0;exact hn ⟨j,by omega,by simp;omega,by simpa [List.getD,List.getElem?_append_left hj,List.getElem?_eq_getElem hj] using z0⟩
 have f2:∀ x∈v2,x=0:=fun x hx=>by
  obtain ⟨j,hj,rfl⟩:=List.mem_iff_getElem.mp hx;apply Classical.byContradiction;intro z0;refine hn ⟨v1.length+1+j,by omega,by simp;omega,?_⟩;have:(v1++z::v2)[v1.length+1+j]? = some v2[j]:=by rw [List.getElem?_append_right (by omega),show v1.length+1+j-v1.length=j+1 by omega,List.getElem?_cons_succ,List.getElem?_eq_getElem hj]
  rw [List.getD,this];simpa using z0
 have g1:v1.filter (fun x=>decide (x≠0))=[]:=List.filter_eq_nil_iff.mpr fun x hx=>by simp [f1 x hx]
 have g2:v2.filter (fun x=>decide (x≠0))=[]:=List.filter_eq_nil_iff.mpr fun x hx=>by simp [f2 x hx]
 simp only [nz,List.filter_append,List.filter_cons,g1,g2];simp [hp]
theorem z4o{v:List Int}(he:ended v=false):(nz v).length≠1:=by simpa [ended] using he
structure Dl(v:List Int)(b:Nat)(dv:List Nat):Prop where
 lt:b<v.length
 nb:b∉dv
 pos:dv=[]\/0<v.getD b 0
theorem uQ{v:List Int}{p i:Nat}:i∈xM v p ↔ i<v.length/\i≠p:=by simp [xM]
theorem z6t{n:Nat}{v:List Int}(h:Lot n v){b:Nat}(hb:b<v.length)(h0:(others v).getD b 0≠0):Dl v b [gp v]/\0<v.getD b 0/\v.getD b 0<=v.getD (gp v) 0:=by
 have hg:=z8Q h.ne;rw [vT h.ne] at h0;have ne:b≠gp v:=fun e=>by rw [if_pos e] at h0;exact h0 rfl
 rw [if_neg ne] at h0;have p0:0<v.getD b 0:=by have:=wK h.nn b;omega
 refine ⟨⟨hb,by simpa using ne,.inr p0⟩,p0,?_⟩;rw [hg.2];exact maxL_ge _ (getD_mem hb)
theorem kQ {n:Nat} {v:List Int} (h:Lot n v) (he:ended v=false):nz (others v)≠[]:=by
 have hg:=z8Q h.ne;have mx:0<maxL v:=by
  obtain ⟨x,hx,h0⟩:=h.pos;have:=maxL_ge (xs:=v) x hx;omega
 obtain ⟨j,h1,h2,h3⟩:=zaU (p:=gp v) (z4o he) (by rw [hg.2];omega);intro z;have:v.getD j 0∈nz (others v):=uG.mpr ⟨by
  have:=getD_mem (v:=others v) (i:=j) (by rw [wj h.ne];exact h2);rw [vT h.ne,if_neg h1] at this;exact this,h3⟩;rw [z] at this;simp at this
theorem uz{n:Nat}{v:List Int}(r:Rl)(h:Lot n v)(he:ended v=false):Dl v (deal r v).1 (deal r v).2:=by cases r with
 | nx=>
  have ne:others v≠[]:=fun z=>by
   have:=wj h.ne;rw [z] at this;exact h.ne (List.length_eq_zero_iff.mp this.symm)
  have a:=z58 (maxL_mem ne);have nn:=kQ h he;refine (z6t h (by rw [<- wj h.ne];exact a.1) ?_).1;show (others v).getD ((others v).idxOf (maxL (others v))) 0≠0;rw [a.2];have m:=uG.mp (minL_mem nn);have m1:=maxL_ge _ m.1;have m2:0<=minL (nz (others v)):=by
   obtain ⟨i,hi,e⟩:=List.mem_iff_getElem.mp m.1;have:=vT h.ne i;have e2:(others v).getD i 0=minL (nz (others v)):=by simp [List.getD,List.getElem?_eq_getElem hi,e]
   rw [e2] at this;rw [this];split;·omega
   ·exact wK h.nn i
  omega | le=>
  have a:=z99 (kQ h he);refine (z6t h (by rw [<- wj h.ne];exact a.1) ?_).1;show (others v).getD (lp (others v)) 0≠0;rw [a.2.1];exact a.2.2 | al=>
  have a:=z99 h.nzne;refine ⟨a.1,by simp [deal,uQ],.inr ?_⟩;show 0<v.getD (lp v) 0;have:=wK h.nn (lp v);have b:=a.2.1;have c:=a.2.2;omega | tu=>
  have l0:0<v.length:=by have:=h.sz;rw [h.len];omega
  refine ⟨l0,?_,?_⟩
  ·show 0∉(if v.getD 0 0=0 then [] else xM v 0);split<;>simp [uQ]
  ·show (if v.getD 0 0=0 then [] else xM v 0)=[]\/0<v.getD 0 0;split;·exact .inl rfl
   ·have:=wK h.nn 0;exact .inr (by omega)
theorem xn(v:List Int)(d:Nat×List Nat):(zq v d).length=v.length:=by simp [zq]
theorem z96(v:List Int)(d:Nat×List Nat)(i:Nat):(zq v d).getD i 0=if i<v.length/\i∈d.2 then v.getD i 0 / v.getD d.1 0 else 0:=by
 unfold zq;by_cases hi:i<v.length;·simp [List.getD,hi]
 ·simp [List.getD,hi]
theorem qq{v:List Int}{d:Nat×List Nat}(i:Nat):v.getD i 0-(zq v d).getD i 0*v.getD d.1 0=if i<v.length/\i∈d.2 then v.getD i 0 % v.getD d.1 0 else v.getD i 0:=by
 rw [z96];split
 ·have:=Int.mul_ediv_add_emod (v.getD i 0) (v.getD d.1 0);have e:=Int.mul_comm (v.getD i 0 / v.getD d.1 0) (v.getD d.1 0);omega
 ·omega
theorem zbf{v:List Int}{d:Nat×List Nat}(hv:∀ x∈v,0<=x)(h:Dl v d.1 d.2):Qs v d.1 (zq v d):=by
 refine ⟨h.lt,xn _ _,?_,fun q hq=>?_,fun i=>?_,?_⟩;·simp [zq,h.lt,h.nb]
 ·obtain ⟨i,hi,rfl⟩:=List.mem_iff_getElem.mp hq;simp only [zq,List.getElem_map,List.getElem_range];split;·exact Int.ediv_nonneg (wK hv _) (wK hv _)
  ·omega
 ·rw [qq];split
  ·rename_i hi;rcases h.pos with z | z;·rw [z] at hi;simp at hi
   ·exact Int.emod_nonneg _ (by omega)
  ·exact wK hv i
 ·rcases h.pos with z | z
  ·refine .inl fun q hq=>?_;obtain ⟨i,hi,rfl⟩:=List.mem_iff_getElem.mp hq;simp [zq,z]
  ·exact .inr z
def bl(n:Nat):Nat:=if n=0 then 0 else bl (n / 2)+1
termination_by n
decreasing_by omega
theorem z6T:bl 0=0:=by rw [bl];simp
theorem z7S{n:Nat}(h:n≠0):bl n=bl (n / 2)+1:=by rw [bl,if_neg h]
theorem zaW:∀ (b a:Nat),a<=b->bl a<=bl b:=by
 intro b;induction b using Nat.strongRecOn with | ind b ih=>
  intro a h;by_cases h0:a=0;·subst h0;rw [z6T];omega
  ·rw [z7S h0,z7S (show b≠0 by omega)];have:=ih (b / 2) (by omega) (a / 2) (by omega);omega
theorem zdX{a b:Nat}(h:2*a<b):bl a<bl b:=by
 rw [z7S (show b≠0 by omega)];have:=zaW (b / 2) a (by omega);omega
theorem zh3:∀ (k n:Nat),n<2 ^ k->bl n<=k
 | 0,n,h=>by simp at h;subst h;rw [z6T];omega | k+1,n,h=>by
  by_cases h0:n=0;·subst h0;rw [z6T];omega
  ·rw [z7S h0];have:=zh3 k (n / 2) (by rw [Nat.pow_succ] at h;omega);omega
def wt(v:List Int):Nat:=(v.map fun x=>bl x.toNat).sum
theorem zhg:∀ {u v:List Int},u.length=v.length->(∀ i,bl (u.getD i 0).toNat<=bl (v.getD i 0).toNat)->wt u<=wt v/\((∃ i,bl (u.getD i 0).toNat<bl (v.getD i 0).toNat)->wt u<wt v)
 | [],[],_,_=>⟨by simp,fun ⟨i,h⟩=>by simp at h⟩ | a::u,b::v,hl,h=>by
  have ih:=zhg (u:=u) (v:=v) (by simpa using hl) fun i=>by simpa using h (i+1)
  have h0:bl a.toNat<=bl b.toNat:=by simpa using h 0
  simp only [wt,List.map_cons,List.sum_cons] at ih ⊢;refine ⟨by omega,fun ⟨i,hi⟩=>?_⟩;cases i with
  | zero=>
   have:bl a.toNat<bl b.toNat:=by simpa using hi
   omega | succ i=>
   have:=ih.2 ⟨i,by simpa using hi⟩;omega
 | [],_::_,h,_=>by simp at h | _::_,[],h,_=>by simp at h
theorem uO{v qs:List Int}{b:Nat}(h:qs.length=v.length)(i:Nat):(left v qs b).getD i 0=v.getD i 0-qs.getD i 0*v.getD b 0:=by
 unfold left;by_cases hi:i<v.length
 ·have h2:i<qs.length:=by omega
  simp [List.getD,List.getElem?_zipWith,List.getElem?_eq_getElem hi,List.getElem?_eq_getElem h2]
 ·have h2:¬ i<qs.length:=by omega
  simp [List.getD,List.getElem?_zipWith,List.getElem?_eq_none (Nat.not_lt.mp hi),List.getElem?_eq_none (Nat.not_lt.mp h2)]
theorem z3G{u v:List Int}(hl:u.length=v.length)(h:∀ i,u.getD i 0=v.getD i 0):u=v:=by
 refine List.ext_getElem hl fun i h1 h2=>?_;have:=h i;simpa [List.getD,List.getElem?_eq_getElem h1,List.getElem?_eq_getElem h2] using this
theorem zcd{a b:Int}(h0:0<b)(h:b<=a):2*(a % b)<a:=by
 have h1:=Int.mul_ediv_add_emod a b;have h2:=Int.emod_lt_of_pos a h0;have h3:=Int.emod_nonneg a (show b≠0 by omega);have h4:1<=a / b:=by
  have:=Int.ediv_le_ediv h0 h;rwa [Int.ediv_self (by omega)] at this
 have h5:b*1<=b*(a / b):=Int.mul_le_mul_of_nonneg_left h4 (by omega);omega
theorem zb7{a b:Int}(ha:0<=a)(h0:0<b):a % b<=a:=by
 have h1:=Int.mul_ediv_add_emod a b;have h2:0<=a / b:=Int.ediv_nonneg ha (by omega);have h3:0<=b*(a / b):=Int.mul_nonneg (by omega) h2;omega
theorem zdz {v:List Int} {d:Nat×List Nat} (hv:∀ x∈v,0<=x) (h:Dl v d.1 d.2):wt (left v (zq v d) d.1)<=wt v/\((∃ i,i<v.length/\i∈d.2/\v.getD d.1 0<=v.getD i 0)->wt (left v (zq v d) d.1)<wt v):=by
 have hl:=xn v d;have key:∀ i,(left v (zq v d) d.1).getD i 0=if i<v.length/\i∈d.2 then v.getD i 0 % v.getD d.1 0 else v.getD i 0:=fun i=>by rw [uO hl,qq]
 have p:∀ i,i<v.length/\i∈d.2->0<v.getD d.1 0:=fun i hi=>by
  rcases h.pos with z | z;·rw [z] at hi;simp at hi
  ·exact z
 have w:=zhg (u:=left v (zq v d) d.1) (v:=v) (wV hl) fun i=>by
  rw [key];split
  ·rename_i hi;have:=zb7 (wK hv i) (p i hi);exact zaW _ _ (by omega)
  ·exact Nat.le_refl _
 refine ⟨w.1,fun ⟨i,h1,h2,h3⟩=>w.2 ⟨i,?_⟩⟩;rw [key,if_pos ⟨h1,h2⟩];have h0:=p i ⟨h1,h2⟩;have:=zcd h0 h3;have:=Int.emod_nonneg (v.getD i 0) (show v.getD d.1 0≠0 by omega);exact zdX (by omega)
theorem zcW(v:List Int):wt (rot v)=wt v:=by cases v with
 | nil=>rfl | cons a v=>simp [rot,wt];omega
theorem z8t{a b:List Int}(h:∀ x,x∈a ↔ x∈b)(ha:a≠[]):minL a=minL b:=by
 have hb:b≠[]:=fun z=>by
  have:=(h _).mp (minL_mem ha);rw [z] at this;simp at this
 have h1:=minL_le (xs:=b) _ ((h _).mp (minL_mem ha));have h2:=minL_le (xs:=a) _ ((h _).mpr (minL_mem hb));omega
theorem zgM{v:List Int}(h:nz v≠[])(h0:v.getD 0 0≠minL (nz v)):lp (rot v)<lp v:=by cases v with
 | nil=>simp [nz] at h | cons a t=>
  have e:minL (nz (rot (a::t)))=minL (nz (a::t)):=(z8t (fun x=>by rw [uG,uG,zaX]) h).symm;have m:=(uG.mp (minL_mem h)).1;have ha:a≠minL (nz (a::t)):=by simpa using h0
  unfold lp;rw [e];generalize minL (nz (a::t))=m' at *;have mt:m'∈t:=(List.mem_cons.mp m).resolve_left fun z=>ha z.symm;show List.idxOf m' (t++[a])<_;rw [List.idxOf_append,if_pos mt,List.idxOf_cons];rw [show (a==m')=false from by simpa using ha];simp
def mu(r:Rl)(v:List Int):Nat:=5*wt v+(if r=.tu then lp v else 0)
theorem Lot.step{n:Nat}{v:List Int}(r:Rl)(h:Lot n v)(he:ended v=false):Lot n (stp r v):=by
 have dl:=uz r h he;have q:=zbf h.nn dl;refine ⟨h.sz,by rw [stp,z4c,wV q.len,h.len],fun x hx=>z9i q x (z4L.mp hx),?_⟩;have fin:∀ x∈left v (zq v (deal r v)) (deal r v).1,0<x->∃ x∈stp r v,0<x:=fun x hx h0=>⟨x,z4L.mpr hx,h0⟩;rcases dl.pos with z | z
 ·obtain ⟨x,hx,h0⟩:=h.pos;refine fin x ?_ h0;have:left v (zq v (deal r v)) (deal r v).1=v:=z3G (wV q.len) fun i=>by rw [uO q.len,qq,z];simp
  rw [this];exact hx
 ·refine fin (v.getD (deal r v).1 0) ?_ z;have:(left v (zq v (deal r v)) (deal r v).1).getD (deal r v).1 0=v.getD (deal r v).1 0:=by rw [uO q.len,qq,if_neg (fun w=>dl.nb w.2)]
  rw [<- this];exact getD_mem (by rw [wV q.len];exact dl.lt)
theorem zgb{n:Nat}{v:List Int}(h:Lot n v):lp v<4:=by
 have:=(z99 h.nzne).1;have:=h.len;have:=h.sz;omega
theorem ziU{n:Nat}{v:List Int}(r:Rl)(h:Lot n v)(he:ended v=false):mu r (stp r v)<mu r v:=by
 have dl:=uz r h he;have w:=zdz h.nn dl;have mn:∀ j,j<v.length->v.getD j 0≠0->minL (nz v)<=v.getD j 0:=fun j hj h0=>minL_le _ (uG.mpr ⟨getD_mem hj,h0⟩);have ge:∀ {b:Nat},b<v.length->(others v).getD b 0≠0->v.getD b 0<=v.getD (gp v) 0:=fun hb h0=>(z6t h hb h0).2.2;cases r with
 | nx=>
  have g:=z8Q h.ne;have:wt (stp .nx v)<wt v:=by
   rw [stp,kU (by decide)];refine w.2 ⟨gp v,g.1,by simp [deal],?_⟩;rw [g.2];exact maxL_ge _ (getD_mem dl.lt)
  simp only [mu];rw [if_neg (by decide),if_neg (by decide)];omega | le=>
  have g:=z8Q h.ne;have:wt (stp .le v)<wt v:=by
   rw [stp,kU (by decide)];refine w.2 ⟨gp v,g.1,by simp [deal],?_⟩;rw [g.2];exact maxL_ge _ (getD_mem dl.lt)
  simp only [mu];rw [if_neg (by decide),if_neg (by decide)];omega | al=>
  have l:=z99 h.nzne;obtain ⟨j,h1,h2,h3⟩:=zaU (p:=lp v) (z4o he) (by rw [l.2.1];exact l.2.2);have:wt (stp .al v)<wt v:=by
   rw [stp,kU (by decide)];refine w.2 ⟨j,h2,by simp [deal,uQ,h1,h2],?_⟩;show v.getD (lp v) 0<=_;rw [l.2.1];exact mn j h2 h3
  simp only [mu];rw [if_neg (by decide),if_neg (by decide)];omega | tu=>
  simp only [mu];rw [if_pos trivial,if_pos trivial];have st:Lot n (stp .tu v):=h.step .tu he;have l4:=zgb st;have same:left v (zq v (deal .tu v)) (deal .tu v).1=v->v.getD 0 0≠minL (nz v)->5*wt (stp .tu v)+lp (stp .tu v)<5*wt v+lp v:=fun e h0=>by
   have e2:stp .tu v=rot v:=by rw [stp,z0s,e]
   have:=zgM h.nzne h0;rw [e2,zcW];omega
  by_cases z:v.getD 0 0=0
  ·refine same (z3G (wV (xn _ _)) fun i=>?_) fun q=>?_
   ·rw [uO (xn _ _),qq];rw [show (deal .tu v).2=[] from by show (if v.getD 0 0=0 then [] else xM v 0)=[];rw [if_pos z]];simp
   ·exact (z99 h.nzne).2.2 (by rw [<- q,z])
  ·by_cases ex:∃ i,i<v.length/\i≠0/\v.getD 0 0<=v.getD i 0
   ·obtain ⟨i,h1,h2,h3⟩:=ex;have:wt (stp .tu v)<wt v:=by
     rw [stp,z0s,zcW];refine w.2 ⟨i,h1,?_,h3⟩;show i∈(if v.getD 0 0=0 then [] else xM v 0);rw [if_neg z];exact uQ.mpr ⟨h1,h2⟩
    omega
   ·have nn0:=wK h.nn 0;refine same (z3G (wV (xn _ _)) fun i=>?_) fun q=>?_
    ·rw [uO (xn _ _),qq];split
     ·rename_i hi;have i0:i≠0:=by
       have:=hi.2;simp only [deal,if_neg z,uQ] at this;exact this.2
      have:¬ v.getD 0 0<=v.getD i 0:=fun w=>ex ⟨i,hi.1,i0,w⟩;show v.getD i 0 % v.getD 0 0=_;exact Int.emod_eq_of_lt (wK h.nn i) (by omega)
     ·rfl
    ·obtain ⟨j,h1,h2,h3⟩:=zaU (p:=0) (z4o he) z;have:=mn j h2 h3;exact ex ⟨j,h2,h1,by omega⟩
inductive Run(r:Rl):List Int->List (List Int)->Prop | done {v:List Int}:ended v=true->Run r v [v] | step {v:List Int}{ls:List (List Int)}:ended v=false->Run r (stp r v) ls->Run r v (v::ls)
theorem zcR{n:Nat}{r:Rl}:∀ (k:Nat)(v:List Int),Lot n v->mu r v<=k->∃ ls,Run r v ls/\ls.length<=k+1
 | k,v,h,hk=>by cases he:ended v with
  | true=>exact ⟨[v],.done he,by simp⟩ | false=>
   have lt:=ziU r h he;match k,hk with
   | 0,hk=>omega | k+1,hk=>
    obtain ⟨ls,h1,h2⟩:=zcR (r:=r) k (stp r v) (h.step r he) (by omega);exact ⟨v::ls,.step he h1,by simp;omega⟩
theorem zgq{m:Nat}:∀ {v:List Int},(∀ x∈v,x.toNat<2 ^ m)->wt v<=v.length*m
 | [],_=>by simp [wt] | a::v,h=>by
  have ih:=zgq (v:=v) fun x hx=>h x (by simp [hx]);have:=zh3 m a.toNat (h a (by simp));simp only [wt,List.map_cons,List.sum_cons,List.length_cons,Nat.succ_mul] at ih ⊢;omega
theorem zis{n m:Nat}{v:List Int}{r:Rl}(h:Lot n v)(hb:∀ x∈v,x.toNat<2 ^ m):mu r v<=20*m+3:=by
 have w:=zgq hb;have l:=zgb h;have:v.length*m<=4*m:=Nat.mul_le_mul_right m (by have:=h.len;have:=h.sz;omega);unfold mu;split<;>omega
def cg(a b:Int):Int:=(Int.gcd a b:Int)
def zhM(v:List Int):Int:=v.foldl cg 0
structure PI(n:Nat)(B:Int)(P:Tb)(c x:List Int):Prop where
 tab:Tab n P
 nn:∀ row∈P,∀ y∈row,0<=y/\y<=B
 eq:mv P c=x
theorem kz{n:Nat}{v:List Int}(r:Rl)(h:Lot n v)(he:ended v=false):Tab n (vF r v):=by
 have dl:=uz r h he;exact zbx r h.sz (by rw [xn,h.len]) (by rw [<- h.len];exact dl.lt)
theorem PI.step{n:Nat}{B:Int}{P:Tb}{c x:List Int}(r:Rl)(I:PI n B P c x)(hx:∀ y∈x,y<=B)(h:Lot n c)(he:ended c=false):PI n B (qG P (vF r c)) (stp r c) x:=by
 have dl:=uz r h he;have q:=zbf h.nn dl;have tt:=kz r h he;have hq:(zq c (deal r c)).length=n:=by rw [xn,h.len]
 have hb:(deal r c).1<n:=by rw [<- h.len];exact dl.lt
 have rows:∀ row∈P,jK (vF r c) row=mvd r (z4t (deal r c).1 (zq c (deal r c)) row):=fun row hr=>za3 r h.sz hq hb q.zero (I.tab.row row hr);have ri:∀ row∈P,zhR B (mvd r (z4t (deal r c).1 (zq c (deal r c)) row)) (stp r c) (dot row c):=fun row hr=>by
  have:dot row c∈x:=by rw [<- I.eq];exact List.mem_map.mpr ⟨row,hr,rfl⟩
  exact zci r q (hx _ this) ⟨by rw [I.tab.row row hr,h.len],I.nn row hr,rfl⟩
 refine ⟨z86 I.tab tt,fun row hr y hy=>?_,?_⟩
 ·rw [z2l h.sz I.tab tt] at hr;obtain ⟨w,hw,rfl⟩:=List.mem_map.mp hr;rw [rows w hw] at hy;exact (ri w hw).nn y hy
 ·rw [z2l h.sz I.tab tt,<- I.eq];unfold mv;rw [List.map_map];refine List.map_congr_left fun w hw=>?_;show dot (jK (vF r c) w) (stp r c)=dot w c;rw [rows w hw];exact (ri w hw).dot
theorem zgo(n:Nat):∀ row∈one n,∀ y∈row,0<=y/\y<=1:=fun row hr y hy=>by
 simp only [one] at hr;obtain ⟨i,_,rfl⟩:=List.mem_map.mp hr;obtain ⟨j,_,rfl⟩:=List.mem_map.mp hy;split<;>omega
theorem PI.start{n:Nat}{B:Int}{v:List Int}(h:Lot n v)(hx:∀ y∈v,y<=B):PI n B (one n) v v:=by
 have b1:1<=B:=by
  obtain ⟨y,hy,h0⟩:=h.pos;have:=hx y hy;omega
 refine ⟨z3H n,fun row hr y hy=>?_,zgV h.sz h.len⟩;have:=zgo n row hr y hy;omega
theorem z9d{n:Nat}{v:List Int}{B:Int}(r:Rl)(h:Lot n v)(he:ended v=false)(hb:∀ y∈v,y<=B):∀ row∈vF r v,∀ y∈row,0<=y/\y<=B:=by
 have:=(PI.start h hb).step r hb h he;have e:=this.nn;rw [(zbD h.sz (kz r h he)).1] at e;exact e
theorem zfL{n:Nat}{v:List Int}{B:Int}(r:Rl)(h:Lot n v)(he:ended v=false)(hb:∀ y∈v,y<=B):∀ y∈stp r v,y<=B:=fun y hy=>by
 have dl:=uz r h he;have q:=zbf h.nn dl;have hy:=z4L.mp hy;obtain ⟨i,hi,rfl⟩:=List.mem_iff_getElem.mp hy;have e:(left v (zq v (deal r v)) (deal r v).1)[i]=(left v (zq v (deal r v)) (deal r v).1).getD i 0:=by simp [List.getD,List.getElem?_eq_getElem hi]
 have hi':i<v.length:=by rw [<- wV (b:=(deal r v).1) q.len];exact hi
 have b:=hb _ (getD_mem hi');rw [e,uO q.len,qq];split
 ·rename_i w;rcases dl.pos with z | z;·rw [z] at w;simp at w
  ·have:=zb7 (wK h.nn i) z;omega
 ·exact b
section
variable {k:Int}(hk:0<k)
include hk
end
def zY(r:Rl)(ls:List (List Int)):List Tb:=ls.dropLast.map (vF r)
theorem Run.ne{r:Rl}{v:List Int}{ls:List (List Int)}(R:Run r v ls):ls≠[]:=by cases R<;>simp
theorem Run.tabs_cons{r:Rl}{v:List Int}{ls:List (List Int)}(h:Run r (stp r v) ls):zY r (v::ls)=vF r v::zY r ls:=by
 obtain ⟨a,t,rfl⟩:=List.exists_cons_of_ne_nil h.ne;simp [zY]
def zbZ(n:Nat)(ts:List Tb):Tb:=ts.foldl qG (one n)
end Pm
namespace Pg
open PySem.Spec L2 Dd Pm
theorem kM{α:Type}{all:List D}{s:Sto}{body:D->Sto->R (Option D)}(g f:α->D)(p:α->Bool):∀ (l:List α)(acc:List D),(∀ a∈l,body (g a) s=.ok (if p a=true then some (f a) else none) s)->acc.length+l.length<=cap->uh [] all body (l.map g) acc s=.ok (acc++(l.filter p).map f) s
 | [],acc,_,_=>by simp [uh,okG] | x::xs,acc,hb,hl=>by
  have og:okG [] all s:=by intro p hp;simp at hp
  rw [List.map_cons,uh,if_pos og,hb x (by simp)];cases hp:p x with
  | true=>
   have ih:=kM (all:=all) g f p xs (acc++[f x]) (fun y hy=>hb y (by simp [hy])) (by simp at hl ⊢;omega);have hc:acc.length<cap:=by simp at hl;omega
   simp [hc,ih,hp] | false=>
   have ih:=kM (all:=all) g f p xs acc (fun y hy=>hb y (by simp [hy])) (by simp at hl ⊢;omega);simp [ih,hp]
theorem vJ{α:Type}{fi:FI}{mp:List (Option Nat)}{fg:FG}{ft:FT}{fe:FE}{Z:Ev}{s:Sto}(g f:α->D)(p:α->Bool)(ev:α->Ev)(l:List α) (hi:fi Z s=.ok (l.map g,[]) s)(hg:∀ a∈l,fg (g a) (xL mp Z) s=.ok (ev a) s)(ht:∀ a∈l,ft (ev a) s=.ok (p a) s)(he:∀ a∈l,p a=true->fe (ev a) s=.ok (f a) s)(hl:l.length<=cap): zn fi mp fg ft fe Z s=.ok (.lst ((l.filter p).map f)) s:=by
 rw [kZ,jX,hi,R.bind_ok];rw [kM g f p l [] (by
  intro a ha;simp only [hg a ha,ht a ha,R.bind_ok];cases hp:p a with
  | true=>simp [he a ha hp] | false=>simp) (by simpa using hl)];rfl
theorem comp_map{α:Type}{fi:FI}{mp:List (Option Nat)}{fg:FG}{fe:FE}{Z:Ev}{s:Sto}(g f:α->D)(ev:α->Ev)(l:List α) (hi:fi Z s=.ok (l.map g,[]) s)(hg:∀ a∈l,fg (g a) (xL mp Z) s=.ok (ev a) s)(he:∀ a∈l,fe (ev a) s=.ok (f a) s)(hl:l.length<=cap): zn fi mp fg zR fe Z s=.ok (.lst (l.map f)) s:=by
 have:=vJ (ft:=zR) g f (fun _=>true) ev l hi hg (fun a _=>rfl) (fun a ha _=>he a ha) hl;rw [show l.filter (fun _=>true)=l from List.filter_eq_self.mpr (by simp)] at this;exact this
theorem qk{f:FE}{Z:Ev}{s:Sto}{xs:List D}(h:f Z s=.ok (.tup xs) s):zV f Z s=.ok (xs,[]) s:=by simp [h]
theorem xU{f:FE}{Z:Ev}{s:Sto}{xs:List D}(h:f Z s=.ok (.lst xs) s):zV f Z s=.ok (xs,[]) s:=by simp [h]
structure LotB(n m:Nat)(v:List Int):Prop extends Lot n v where bd:∀ x∈v,x<2 ^ m
theorem LotB.abs{n m:Nat}{v:List Int}(h:LotB n m v):∀ x∈v,x.natAbs<2 ^ m:=fun x hx=>by
 have h1:=h.bd x hx;have h2:=h.nn x hx;have e:((x.natAbs:Nat):Int)=x:=Int.natAbs_of_nonneg h2;have:((x.natAbs:Nat):Int)<((2 ^ m:Nat):Int):=by rw [e];simpa using h1
 omega
theorem LotB.toN{n m:Nat}{v:List Int}(h:LotB n m v):∀ x∈v,x.toNat<2 ^ m:=fun x hx=>by
 have h1:=h.abs x hx;have h2:=h.nn x hx;omega
theorem _root_.Pm.Lot.le4{n:Nat}{v:List Int}(h:Lot n v):v.length<=4/\2<=v.length:=by have:=h.len;have:=h.sz;omega
theorem zbi{n:Nat}{v:List Int}(h:Lot n v)(s:Sto):qe [rD v] s=.ok (.bl true) s:=by
 have l4:=h.le4;have h1:=z3w (iL v) s (by simp;omega);have h2:=z0L v s (by omega);have g1:=z7p s h.ne;have g2:=zfM s h.ne;have mn:0<=minL v:=h.nn _ (minL_mem h.ne);have mx:0<maxL v:=by obtain ⟨x,hx,h0⟩:=h.pos;have:=maxL_ge (xs:=v) x hx;omega
 have gl:yE [rD v] s=.ok (.int v.length) s:=by simp [yE,zF]
 have key:∀ d:D,xG [d] s=.ok (.bl true) s->yE [d] s=.ok (.int v.length) s->yM [d,.int v.length] s=.ok (.bl true) s->uy [d] s=.ok (.int (maxL v)) s->z0m [d] s=.ok (.int (minL v)) s->qe [d] s=.ok (.bl true) s:=fun d a1 a2 a3 a4 a5=>by simp [qe,Mof,z5l,zv,a1,a2,a3,a4,a5,mn,mx]
 exact key _ h1 gl h2 g1 g2
theorem z0c{n:Nat}{v:List Int}(h:Lot n v)(s:Sto):yx [rD v] s=.ok .non s:=by
 have h1:=zbi h s;have key:∀ d:D,qe [d] s=.ok (.bl true) s->yx [d] s=.ok .non s:=fun d a1=>by simp [yx,Mof,z2o,zv,a1]
 exact key _ h1
theorem nzC{v:List Int}{f:FE}{Z:Ev}{s:Sto}{mp:List (Option Nat)}(hf:f Z s=.ok (rD v) s)(hl:v.length<=4):zn (zV f) [none] (yn 0) (tOf (eOp dNe (zc 0) (eC (.int 0)))) (zc 0) Z s=.ok (.lst (iL (nz v))) s:=by
 rw [vJ D.int D.int (fun x=>decide (x≠0)) (fun x=>[some (.int x)]) v (qk hf) (fun a _=>by simp) (fun a _=>by simp) (fun a _ _=>by simp) (by simp [cap];omega)];rfl
theorem z1G {n:Nat} {v:List Int} (h:Lot n v) (s:Sto):yA [rD v] s=.ok (.bl (ended v)) s:=by
 have h1:=z0c h s;have key:∀ d:D,yx [d] s=.ok .non s->zn (zV (zc 0)) [none] (yn 0) (tOf (eOp dNe (zc 0) (eC (.int 0)))) (zc 0) [some d] s=.ok (.lst (iL (nz v))) s->yA [d] s=.ok (.bl (ended v)) s:=fun d a1 a2=>by
  have st:zv ["lot"] [d]=[some d]:=rfl;simp only [yA,Mof,z0u,st,List.length_cons,List.length_nil,if_true];rw [zi (Z':=[some d]) (s':=s) (by simp [a1])];simp only [kN,yC,xp,yy,zm,zE,kw,a2,R.bind_ok];simp only [yE,zF,R.bind_ok,z5g,List.length_map];have:decide (((nz v).length:Int)=1)=ended v:=by
   unfold ended;by_cases e:(nz v).length=1;·simp [e]
   ·have:¬ ((nz v).length:Int)=1:=by omega
    simp [e,this]
  rw [this]
 exact key _ h1 (nzC (mp:=[]) (by simp) h.le4.1)
def nmR:Rl->Str | .nx=>"next" | .le=>"least" | .al=>"all" | .tu=>"turn"
theorem z5o{fo fv:FE}{Z:Ev}{s:Sto}{v:List Int}{k:Int}(h1:fo Z s=.ok (rD v) s)(h2:fv Z s=.ok (.int k) s)(hk:k∈v):za7 fo fv Z s=.ok (.int (v.idxOf k:Nat)) s:=by simp only [zfh,h1,h2,R.bind_ok,wk,if_pos hk]
theorem z3o {n:Nat} {v:List Int} (h:Lot n v) (s:Sto):zx [rD v] s=.ok (.tup [.int (gp v:Nat),rD (others v)]) s:=by
 have l4:=h.le4;have g1:=z7p s h.ne;have key:∀ d:D,d=rD v->zx [d] s=.ok (.tup [.int (gp v:Nat),rD (others v)]) s:=fun d hd=>by
  have st:zv ["lot","at"] [d]=[some d,none]:=rfl;have gm:uy [d] s=.ok (.int (maxL v)) s:=by rw [hd];exact g1
  have i1:za7 (zc 0) (zd uy (za (zc 0) zh)) [some d,none] s=.ok (.int (gp v:Nat)) s:=z5o (by simp [hd]) (by simp [gm]) (maxL_mem h.ne);simp only [zx,Mof,wH,st,List.length_cons,List.length_nil,if_true];rw [zi (Z':=[some d,some (.int (gp v:Nat))]) (s':=s) (by rw [wE,yp,i1];simp)];have e1:=z4u (iL v) (gp v) s;have e2:=z1z (iL v) (gp v+1) s;rw [show (((gp v+1:Nat):Int))=((gp v:Nat):Int)+1 from rfl] at e2;simp only [wy,yC,qL,zm,zE,yf,xp,z2C,xP,uD,kw,List.getElem?_cons_zero,List.getElem?_cons_succ,R.bind_ok,zaM,hd,e1,e2];rw [if_pos (by simp [cap]),R.bind_ok,z3d,if_pos (by simp [cap];omega),R.bind_ok,e2,R.bind_ok,z3d,if_pos (by simp [cap];omega),R.bind_ok,R.bind_ok,R.bind_ok,if_pos (by simp [cap])];simp [others,List.map_take,List.map_drop]
 exact key _ rfl
theorem kF {v:List Int} (h:nz v≠[]) (hl:v.length<=4) (s:Sto):yh [rD v] s=.ok (.int (lp v:Nat)) s:=by
 have key:∀ d:D,d=rD v->yh [d] s=.ok (.int (lp v:Nat)) s:=fun d hd=>by
  have st:zv ["lot"] [d]=[some d]:=rfl;have c:=nzC (mp:=[]) (f:=zc 0) (Z:=[some d]) (s:=s) (v:=v) (by simp [hd]) hl;have gm:z0m [.lst (iL (nz v))] s=.ok (.int (minL (nz v))) s:=by
   obtain ⟨a,t,e⟩:=List.exists_cons_of_ne_nil h;rw [e];simp only [z0m,zF,Option.bind_some,iL];rw [wk]
  simp only [yh,Mof,jJ,st,List.length_cons,List.length_nil,if_true,jp,yC];rw [z5o (v:=v) (k:=minL (nz v)) (by simp [hd]) (by rw [yy,zm,c];simp only [R.bind_ok,zE,gm]) (uG.mp (minL_mem h)).1];rfl
 exact key _ rfl
abbrev nL(l:List Nat):List D:=l.map fun i=>D.int ((i:Nat):Int)
theorem z5S {v:List Int} (p:Nat) (hl:v.length<=4) (s:Sto):xR [rD v,.int (p:Nat)] s=.ok (.lst (nL (xM v p))) s:=by
 have key:∀ d:D,yE [d] s=.ok (.int v.length) s->xR [d,.int (p:Nat)] s=.ok (.lst (nL (xM v p))) s:=fun d hd=>by
  have st:zv ["lot","place"] [d,.int (p:Nat)]=[some d,some (.int (p:Nat))]:=rfl;have ir:qU (za (zd yE (za (zc 0) zh)) zh) [some d,some (.int (p:Nat))] s=.ok ((List.range v.length).map fun i=>D.int ((i:Nat):Int),[]) s:=by
   rw [zan (n:=v.length) (s1:=s) (by omega) (by simp [hd])];rfl
  simp only [xR,Mof,z39,st,List.length_cons,List.length_nil,if_true,z29,yC];rw [vJ (fun i:Nat=>D.int ((i:Nat):Int)) (fun i:Nat=>D.int ((i:Nat):Int)) (fun i=>decide (i≠p)) (fun i=>[some (.int (p:Nat)),some (.int (i:Nat))]) (List.range v.length) ir (fun a _=>by simp) (fun a _=>by
   have:decide (((a:Nat):Int)≠(p:Nat))=decide (a≠p):=by
    by_cases e:a=p;·simp [e]
    ·have:¬ ((a:Nat):Int)=(p:Nat):=by omega
     simp [e,this]
   simp only [qu,xp,yf,List.getElem?_cons_succ,List.getElem?_cons_zero,R.bind_ok,zbU,this]) (fun a _ _=>by simp) (by simp [cap];omega)];rfl
 exact key _ (by simp [yE,zF])
abbrev qT(d:Nat×List Nat):D:=.tup [.int ((d.1:Nat):Int),.lst (nL d.2)]
theorem zac {n:Nat} {v:List Int} (h:Lot n v) (s:Sto):wX [rD v] s=.ok (qT (deal .nx v)) s:=by
 have ne:others v≠[]:=fun z=>by
  have:=wj h.ne;rw [z] at this;exact h.ne (List.length_eq_zero_iff.mp this.symm)
 have g:=z3o h s;have g1:=z7p (ns:=others v) s ne;have key:∀ d e:D,e=rD (others v)->zx [d] s=.ok (.tup [.int (gp v:Nat),e]) s->wX [d] s=.ok (qT (deal .nx v)) s:=fun d e he hg=>by
  have st:zv ["lot","greatest","others"] [d]=[some d,none,none]:=rfl;have gm:uy [e] s=.ok (.int (maxL (others v))) s:=by rw [he];exact g1
  simp only [wX,Mof,z3q,st,List.length_cons,List.length_nil,if_true];rw [zi (Z':=[some d,some (.int (gp v:Nat)),some e]) (s':=s) (by simp [hg])];have ix:za7 (zc 2) (zd uy (za (zc 2) zh)) [some d,some (.int (gp v:Nat)),some e] s=.ok (.int ((others v).idxOf (maxL (others v)):Nat)) s:=z5o (v:=others v) (by simp [he]) (by simp [gm]) (maxL_mem ne);simp only [z28,yC,qL,zm,ix,R.bind_ok,zE,z5m,yf,List.getElem?_cons_zero,List.getElem?_cons_succ];simp [cap,deal]
 exact key _ _ rfl g
theorem z8l {n:Nat} {v:List Int} (h:Lot n v) (he:ended v=false) (s:Sto):wl [rD v] s=.ok (qT (deal .le v)) s:=by
 have g:=z3o h s;have lpo:=kF (kQ h he) (by rw [wj h.ne];exact h.le4.1) s;have key:∀ d e:D,yh [e] s=.ok (.int (lp (others v):Nat)) s->zx [d] s=.ok (.tup [.int (gp v:Nat),e]) s->wl [d] s=.ok (qT (deal .le v)) s:=fun d e he hg=>by
  have st:zv ["lot","greatest","others"] [d]=[some d,none,none]:=rfl;simp only [wl,Mof,z1h,st,List.length_cons,List.length_nil,if_true];rw [zi (Z':=[some d,some (.int (gp v:Nat)),some e]) (s':=s) (by simp [hg])];simp [he,cap,deal]
 exact key _ _ lpo g
theorem zbl {n:Nat} {v:List Int} (h:Lot n v) (s:Sto):uo [rD v] s=.ok (qT (deal .al v)) s:=by
 have lpo:=kF h.nzne h.le4.1 s;have ab:=z5S (v:=v) (lp v) h.le4.1 s;have key:∀ d:D,yh [d] s=.ok (.int (lp v:Nat)) s->xR [d,.int (lp v:Nat)] s=.ok (.lst (nL (xM v (lp v)))) s->uo [d] s=.ok (qT (deal .al v)) s:=fun d h1 h2=>by
  have st:zv ["lot","by"] [d]=[some d,none]:=rfl;simp only [uo,Mof,z4U,st,List.length_cons,List.length_nil,if_true];rw [zi (Z':=[some d,some (.int (lp v:Nat))]) (s':=s) (by simp [h1])];simp [h2,cap,deal]
 exact key _ lpo ab
theorem z9u {n:Nat} {v:List Int} (h:Lot n v) (s:Sto):wY [rD v] s=.ok (qT (deal .tu v)) s:=by
 have ab:=z5S (v:=v) 0 h.le4.1 s;have i0:dIx (rD v) (.int 0) s=.ok (.int (v.getD 0 0)) s:=z00 (j:=0) s (by have:=h.le4.2;omega);have key:∀ d:D,dIx d (.int 0) s=.ok (.int (v.getD 0 0)) s->xR [d,.int 0] s=.ok (.lst (nL (xM v 0))) s->wY [d] s=.ok (qT (deal .tu v)) s:=fun d h1 h2=>by
  have st:zv ["lot"] [d]=[some d]:=rfl;simp only [wY,Mof,z3p,st,List.length_cons,List.length_nil,if_true];by_cases z:v.getD 0 0=0;·rw [z5O (d:=qT (deal .tu v)) (s':=s) (by
    rw [z] at h1;have e:deal .tu v=(0,[]):=by show (0,if v.getD 0 0=0 then [] else xM v 0)=_;rw [if_pos z]
    rw [e];simp [h1,cap])]
  ·rw [zi (Z':=[some d]) (s':=s) (by
    have:¬ v.getD 0 0=0:=z;generalize v.getD 0 0=y at *;simp [h1,this])];have e:deal .tu v=(0,xM v 0):=by show (0,if v.getD 0 0=0 then [] else xM v 0)=_;rw [if_neg z]
   rw [e];simp [h2,cap]
 exact key _ i0 ab
theorem zav(r:Rl)(s:Sto):qW [.str (nmR r)] s=.ok (.bl true) s:=by
 have l:∀ r,(ql.lookup (nmR r)).isSome=true:=fun r=>by cases r<;>decide
 have l:=l r;obtain ⟨y,l⟩:=Option.isSome_iff_exists.mp l;generalize nmR r=x at *;simp [qW,Mof,z3k,zv,gIs,tyD,isT,l]
theorem z2f(r:Rl)(s:Sto):xh [.str (nmR r)] s=.ok .non s:=by
 have l:=zav r s;generalize nmR r=x at *;simp [xh,Mof,z0z,zv,l]
theorem z5V{n:Nat}{v:List Int}(r:Rl)(h:Lot n v)(s:Sto):zC [.str (nmR r),rD v] s=.ok .non s:=by
 have h1:=z2f r s;have h2:=z0c h s;have key:∀ d e:D,xh [d] s=.ok .non s->yx [e] s=.ok .non s->zC [d,e] s=.ok .non s:=fun d e a1 a2=>by simp [zC,Mof,vA,zv,a1,a2]
 exact key _ _ h1 h2
theorem z1R{n:Nat}{v:List Int}(r:Rl)(h:Lot n v)(he:ended v=false)(s:Sto):yQ [.str (nmR r),rD v] s=.ok .non s:=by
 have h1:=z5V r h s;have h2:=z1G h s;rw [he] at h2;have key:∀ d e:D,zC [d,e] s=.ok .non s->yA [e] s=.ok (.bl false) s->yQ [d,e] s=.ok .non s:=fun d e a1 a2=>by simp [yQ,Mof,z0G,zv,a1,a2]
 exact key _ _ h1 h2
def dfR:Rl->Str | .nx=>"by_next" | .le=>"by_least" | .al=>"by_all" | .tu=>"by_turn"
def MR:Rl->Mir | .nx=>wX | .le=>wl | .al=>uo | .tu=>wY
theorem zjX{n:Nat}{v:List Int}(r:Rl)(h:Lot n v)(he:ended v=false)(s:Sto):MR r [rD v] s=.ok (qT (deal r v)) s:=by cases r with
 | nx=>exact zac h s | le=>exact z8l h he s | al=>exact zbl h s | tu=>exact z9u h s
theorem zih(r:Rl):ql.lookup (nmR r)=some (dfR r):=by cases r<;>decide
theorem zkg(r:Rl):([("by_next",wX),("by_least",wl),("by_all",uo),("by_turn",wY)]:List (Str×Mir)).lookup (dfR r)=some (MR r):=by
 cases r;·rfl
 ·rfl
 ·rfl
 ·rfl
theorem zdt(i:Nat)(l:List Nat)(s:Sto):z9b false (.int ((i:Nat):Int)) (.lst (nL l)) s=.ok (.bl (decide (i∈l))) s:=by
 have e:∀ l:List Nat,kf (nL l)=some (l.map fun j=>V.int ((j:Nat):Int)):=by
  intro l;induction l with
  | nil=>rfl | cons a l ih=>simp only [nL] at ih;simp [nL,kf,z34,ih]
 have e2:∀ l:List Nat,inV (.int ((i:Nat):Int)) (l.map fun j=>V.int ((j:Nat):Int))=decide (i∈l):=by
  intro l;induction l with
  | nil=>rfl | cons a l ih=>
   simp only [inV,List.map_cons,List.any_cons] at ih ⊢;rw [ih];by_cases q:i=a;·subst q;simp [eqV]
   ·have q':¬ ((a:Nat):Int)=i:=by omega
    simp [eqV,q,q']
 simp only [z9b,z34,zF,Option.bind_some,e,e2];rfl
theorem jc(x:List D)(s:Sto):zQ [.lst x] s=.ok (.tup x) s:=by simp [zQ,zF]
theorem z37 {n m:Nat} {v:List Int} (r:Rl) (h:LotB n m v) (he:ended v=false) (hm:m<=1999) (s:Sto):xr [.str (nmR r),rD v] s=.ok (.tup [.int ((deal r v).1:Nat),.lst (iL (zq v (deal r v)))]) s:=by
 have dl:=uz r h.toLot he;have l4:=h.toLot.le4;have by_:=zjX r h.toLot he s;have ixs:∀ i,i<v.length->dIx (rD v) (.int ((i:Nat):Int)) s=.ok (.int (v.getD i 0)) s:=fun i hi=>z00 s hi;have gl:yE [rD v] s=.ok (.int v.length) s:=by simp [yE,zF]
 have key:∀ d e:D,e=.str (nmR r)->MR r [d] s=.ok (qT (deal r v)) s->yE [d] s=.ok (.int v.length) s->(∀ i,i<v.length->dIx d (.int ((i:Nat):Int)) s=.ok (.int (v.getD i 0)) s)->xr [e,d] s=.ok (.tup [.int ((deal r v).1:Nat),.lst (iL (zq v (deal r v)))]) s:=fun d e he' h1 h2 h3=>by
  have st:zv ["rule","lot","deal","by","divided"] [e,d]=[some e,some d,none,none,none]:=rfl;simp only [xr,Mof,z2n,st,List.length_cons,List.length_nil,if_true];have lk:=zih r;have lm:=zkg r;rw [zi (Z':=[some e,some d,some (.fn (dfR r)),none,none]) (s':=s) (by
   generalize dfR r=y at *;simp [he',lk])];rw [zi (Z':=[some e,some d,some (.fn (dfR r)),some (.int ((deal r v).1:Nat)),some (.lst (nL (deal r v).2))]) (s':=s) (by
   rw [z0D,zad,zbF];simp only [List.getElem?_cons_zero,List.getElem?_cons_succ];rw [lm];simp only [zm,zE,yf,List.getElem?_cons_zero,List.getElem?_cons_succ,R.bind_ok,h1,zag,List.set_cons_succ,List.set_cons_zero])];have ir:qU (za (zd yE (za (zc 1) zh)) zh) [some e,some d,some (.fn (dfR r)),some (.int ((deal r v).1:Nat)),some (.lst (nL (deal r v).2))] s=.ok ((List.range v.length).map fun i=>D.int ((i:Nat):Int),[]) s:=by
   rw [zan (n:=v.length) (s1:=s) (by omega) (by simp [h2])];rfl
  have c:=comp_map (mp:=[some 4,some 1,some 3,none]) (fg:=yn 3) (fe:=eIf (tOf (eOp (z9b false) (zc 3) (zc 0))) (eOp z5q (eOp dIx (zc 1) (zc 3)) (eOp dIx (zc 1) (zc 2))) (eC (.int 0))) (fun i:Nat=>D.int ((i:Nat):Int)) (fun i:Nat=>D.int (if i∈(deal r v).2 then v.getD i 0 / v.getD (deal r v).1 0 else 0)) (fun i=>[some (.lst (nL (deal r v).2)),some d,some (.int ((deal r v).1:Nat)),some (.int (i:Nat))]) (List.range v.length) ir (fun a _=>by simp) (fun i hi=>by
    have hi':i<v.length:=by simpa using hi
    have i1:=zdt i (deal r v).2 s;have e1:=h3 i hi';have e2:=h3 _ dl.lt;simp only [ze1,qu,xp,yf,kw,List.getElem?_cons_zero,List.getElem?_cons_succ,R.bind_ok,i1,e1,e2];by_cases q:i∈(deal r v).2
    ·have p0:0<v.getD (deal r v).1 0:=by
      rcases dl.pos with z | z;·rw [z] at q;simp at q
      ·exact z
     have p1:v.getD (deal r v).1 0<2 ^ 2000:=Int.lt_of_lt_of_le (h.bd _ (Pm.getD_mem dl.lt)) (by
      have:(2:Nat) ^ m<=2 ^ 2000:=Nat.pow_le_pow_right (by decide) (by omega);have:=Int.ofNat_le.mpr this;simpa using this);have big:(v.getD (deal r v).1 0).natAbs<BIG:=Nat.lt_of_lt_of_le (h.abs _ (Pm.getD_mem dl.lt)) (Nat.pow_le_pow_right (by decide) (by omega));simp only [q,decide_true,if_true];rw [z71,if_pos ⟨p0,big⟩]
    ·simp only [q,decide_false,if_false];rfl) (by simp [cap];omega);simp only [z0y,yC,qL,zm,c,R.bind_ok,zE,yf,List.getElem?_cons_zero,List.getElem?_cons_succ];rw [if_pos (by simp [cap])];simp [zq,Function.comp_def]
 exact key _ _ rfl by_ gl ixs
theorem eq_str{a b:Str}(ha:PyData.strOk a=true)(hb:PyData.strOk b=true)(s:Sto):dEq (.str a) (.str b) s=.ok (.bl (a==b)) s:=by simp [dEq,z7X,eqD,uR,PyData.eqv,SeqAt.shaped,PyData.canLay0,PyData.depth,ha,hb]
theorem z7N(r:Rl):PyData.strOk (nmR r)=true:=by cases r<;>decide +kernel
theorem zay(r:Rl)(s:Sto):dEq (.str (nmR r)) (.str "turn") s=.ok (.bl (decide (r=.tu))) s:=by
 rw [eq_str (z7N r) (by decide +kernel)];congr 2;cases r<;>decide +kernel
theorem z9C(r:Rl)(xs:List D)(hl:xs.length<=4)(s:Sto):vk [.str (nmR r),.tup xs] s=.ok (.tup (mvd r xs)) s:=by
 have e1:=z4u xs 1 s;have e2:=z1z xs 1 s;have cp:(xs.drop 1).length+(xs.take 1).length<=cap:=by simp [cap];omega
 have key:∀ d e:D,d=.str (nmR r)->e=.tup xs->vk [d,e] s=.ok (.tup (mvd r xs)) s:=fun d e hd he=>by
  have st:zv ["rule","numbers"] [d,e]=[some d,some e]:=rfl;have t:tOf (eOp dEq (zc 0) (eC (.str "turn"))) [some d,some e] s=.ok (decide (r=.tu)) s:=by simp only [qu,xp,yf,kw,List.getElem?_cons_zero,R.bind_ok,hd,zay]
  simp only [vk,Mof,z7B,st,List.length_cons,List.length_nil,if_true,z65,yC,ze1,t,R.bind_ok];by_cases q:r=.tu
  ·simp only [q,decide_true,if_true];subst q;rw [z0s];simp only [xp,z2C,yf,xP,uD,kw,List.getElem?_cons_zero,List.getElem?_cons_succ,R.bind_ok,he];rw [show (1:Int)=((1:Nat):Int) from rfl,e2,R.bind_ok,e1,R.bind_ok,z3d,if_pos cp];rfl
  ·simp only [q,decide_false];rw [kU q];simp [he]
 exact key _ _ rfl rfl
theorem z3Z{α β:Type}(f:α->D)(g:β->D):∀ (l:List α)(k:List β),z11 (l.map f) (k.map g)=(l.zip k).map fun p=>D.tup [f p.1,g p.2]
 | [],_=>by simp [z11] | _::_,[]=>by simp [z11] | a::l,b::k=>by simp [z11,z3Z f g l k]
theorem zb5{α β:Type}(r:Rl)(f:α->β)(xs:List α):mvd r (xs.map f)=(mvd r xs).map f:=by unfold mvd rot;split<;>simp [List.map_take,List.map_drop]
theorem LotB.q{n m:Nat}{v:List Int}(r:Rl)(h:LotB n m v)(he:ended v=false):Qs v (deal r v).1 (zq v (deal r v)):=zbf h.nn (uz r h.toLot he)
theorem zhK{n m:Nat}{v:List Int}(r:Rl)(h:LotB n m v)(he:ended v=false):∀ q∈zq v (deal r v),0<=q/\q<2 ^ m:=fun q hq=>by
 have Q:=h.q r he;refine ⟨Q.nn q hq,?_⟩;obtain ⟨i,hi,rfl⟩:=List.mem_iff_getElem.mp hq;have hi':i<v.length:=by rw [<- Q.len];exact hi
 simp only [zq,List.getElem_map,List.getElem_range];have b:=h.bd _ (Pm.getD_mem hi');have n0:=wK h.nn i;split
 ·have:=Int.ediv_le_self (v.getD (deal r v).1 0) n0;omega
 ·omega
theorem zfw {n m:Nat} {v:List Int} (r:Rl) (h:LotB n m v) (he:ended v=false) (hm:m<=1999) (s:Sto):M_step [.str (nmR r),rD v] s=.ok (rD (stp r v)) s:=by
 have l4:=h.toLot.le4;have w:=z1R r h.toLot he s;have dv:=z37 r h he hm s;have Q:=h.q r he;have dl:=uz r h.toLot he;have ix:dIx (rD v) (.int ((deal r v).1:Nat)) s=.ok (.int (v.getD (deal r v).1 0)) s:=z00 s dl.lt;have mo:=z9C r (iL (left v (zq v (deal r v)) (deal r v).1)) (by simp [wV Q.len];omega) s;have key:∀ d e:D,e=rD v->yQ [d,e] s=.ok .non s->xr [d,e] s=.ok (.tup [.int ((deal r v).1:Nat),.lst (iL (zq v (deal r v)))]) s->vk [d,.tup (iL (left v (zq v (deal r v)) (deal r v).1))] s=.ok (.tup (mvd r (iL (left v (zq v (deal r v)) (deal r v).1)))) s-> M_step [d,e] s=.ok (rD (stp r v)) s:=fun d e hd h1 h2 h3=>by
  have st:zv ["rule","lot","by","quotients","left"] [d,e]=[some d,some e,none,none,none]:=rfl;have ixe:dIx e (.int ((deal r v).1:Nat)) s=.ok (.int (v.getD (deal r v).1 0)) s:=by rw [hd];exact ix
  simp only [M_step,Mof,z9K,st,List.length_cons,List.length_nil,if_true];rw [zi (Z':=[some d,some e,none,none,none]) (s':=s) (by simp [h1])];rw [zi (Z':=[some d,some e,some (.int ((deal r v).1:Nat)),some (.lst (iL (zq v (deal r v)))),none]) (s':=s) (by simp [h2])];have ir:z5u (za (zc 1) (za (zc 3) zh)) [some d,some e,some (.int ((deal r v).1:Nat)),some (.lst (iL (zq v (deal r v)))),none] s=.ok ((v.zip (zq v (deal r v))).map fun p=>D.tup [.int p.1,.int p.2],[]) s:=by simp only [z9L,zm,zE,yf,List.getElem?_cons_zero,List.getElem?_cons_succ,R.bind_ok,hd,z0Q,z3Z,List.append_nil]
  have c:=comp_map (mp:=[some 1,some 2,none,none]) (fg:=xN 2 3) (fe:=eOp zd1 (zc 2) (eOp wW (zc 3) (eOp dIx (zc 0) (zc 1)))) (fun p:Int×Int=>D.tup [.int p.1,.int p.2]) (fun p:Int×Int=>D.int (p.1-p.2*v.getD (deal r v).1 0)) (fun p=>[some e,some (.int ((deal r v).1:Nat)),some (.int p.1),some (.int p.2)]) _ ir (fun p _=>by simp) (fun p hp=>by
    have hq:=zhK r h he p.2 (List.of_mem_zip hp).2;have ab:p.2.natAbs<2 ^ m:=by
     have e1:((p.2.natAbs:Nat):Int)=p.2:=Int.natAbs_of_nonneg hq.1;have:((p.2.natAbs:Nat):Int)<((2 ^ m:Nat):Int):=by rw [e1];simpa using hq.2
     omega
    have mu:=zaI (a:=p.2) (b:=v.getD (deal r v).1 0) s ab (by omega) (h.abs _ (Pm.getD_mem dl.lt)) (by omega);simp only [xp,yf,List.getElem?_cons_zero,List.getElem?_cons_succ,R.bind_ok,ixe,mu,zfl]) (by simp [cap];omega);have el:(v.zip (zq v (deal r v))).map (fun p:Int×Int=>D.int (p.1-p.2*v.getD (deal r v).1 0))=iL (left v (zq v (deal r v)) (deal r v).1):=by
   unfold left;show _=List.map D.int _;rw [List.zip,List.map_zipWith,List.map_zipWith]
  rw [el] at c;rw [zi (Z':=[some d,some e,some (.int ((deal r v).1:Nat)),some (.lst (iL (zq v (deal r v)))),some (.tup (iL (left v (zq v (deal r v)) (deal r v).1)))]) (s':=s) (by
   rw [z83,yp,yy,zm,c];simp only [R.bind_ok,zE,jc,List.set_cons_succ,List.set_cons_zero])];simp only [z7U,yC,yy,zm,zE,yf,List.getElem?_cons_zero,List.getElem?_cons_succ,R.bind_ok,h3];rw [zb5];rfl
 exact key _ _ rfl w dv mo
theorem xg{M:Mir}{f:FE}{Z:Ev}{s:Sto}{x:D}(h:f Z s=.ok x s):zd M (za f zh) Z s=M [x] s:=by simp only [yy,zm,zE,h,R.bind_ok]
theorem call2{M:Mir}{f g:FE}{Z:Ev}{s:Sto}{x y:D}(h:f Z s=.ok x s)(h2:g Z s=.ok y s):zd M (za f (za g zh)) Z s=M [x,y] s:=by simp only [yy,zm,zE,h,h2,R.bind_ok]
theorem op2{o:D->D->Sto->R D}{f g:FE}{Z:Ev}{s:Sto}{x y:D}(h:f Z s=.ok x s)(h2:g Z s=.ok y s):eOp o f g Z s=o x y s:=by simp only [xp,h,h2,R.bind_ok]
theorem kY {n:Nat} (hn:n<=4) (s:Sto):yt [.int ((n:Nat):Int)] s=.ok (tD (one n)) s:=by
 have st:zv ["size","places"] [.int ((n:Nat):Int)]=[some (.int ((n:Nat):Int)),none]:=rfl;simp only [yt,Mof,jT,st,List.length_cons,List.length_nil,if_true];rw [zi (Z':=[some (.int ((n:Nat):Int)),some (.lst (yK n))]) (s':=s) (by
  have hc:(0:Int)<=n/\(n:Int)<=1000:=by omega
  simp only [ja,yp,zfU,zm,zE,yf,List.getElem?_cons_zero,R.bind_ok,if_pos hc,Int.toNat_natCast];rfl)];have inner:∀ i:Nat,zn (zV (zc 0)) [some 1,none] (yn 1) zR (eIf (tOf (eOp dEq (zc 0) (zc 1))) (eC (.int 1)) (eC (.int 0))) [some (.lst (yK n)),some (.int ((i:Nat):Int))] s=.ok (.lst (iL ((List.range n).map fun j=>if i=j then 1 else 0))) s:=fun i=>by
  rw [comp_map (fun k:Nat=>D.int (k:Int)) (fun j:Nat=>D.int (if i=j then 1 else 0)) (fun j=>[some (.int ((i:Nat):Int)),some (.int ((j:Nat):Int))]) (List.range n) (xU (by simp [yK])) (fun a _=>by simp) (fun j _=>by
   by_cases q:i=j;·subst q;simp
   ·have:¬ ((i:Nat):Int)=j:=by omega
    simp [q,this]) (by simp [cap];omega)];simp [Function.comp_def]
 have outer:=comp_map (fi:=zV (zc 1)) (mp:=[some 1,none]) (fg:=yn 1) (fe:=zd zQ (za (zn (zV (zc 0)) [some 1,none] (yn 1) zR (eIf (tOf (eOp dEq (zc 0) (zc 1))) (eC (.int 1)) (eC (.int 0)))) zh)) (Z:=[some (.int ((n:Nat):Int)),some (.lst (yK n))]) (s:=s) (fun k:Nat=>D.int (k:Int)) (fun i:Nat=>rD ((List.range n).map fun j=>if i=j then 1 else 0)) (fun i=>[some (.lst (yK n)),some (.int ((i:Nat):Int))]) (List.range n) (xU (by simp [yK])) (fun a _=>by simp) (fun i _=>by
   rw [yy,zm,inner i];simp only [R.bind_ok,zE,jc]) (by simp [cap];omega);simp only [qV,yC];rw [yy,zm,outer];simp only [R.bind_ok,zE,jc];simp [one,Function.comp_def]
theorem kg{x d:D}{xs:List D}{s:Sto}(h:zF s x=some (xs++[d])):dIx x (.int (-1)) s=.ok d s:=by
 have e:ixN (xs++[d]).length (-1)=some xs.length:=by
  unfold ixN;rw [if_neg (by omega),if_pos (by simp;omega)];congr 1;simp;omega
 simp only [dIx,h,atI,e,Option.bind_some];simp
theorem zbW(xs:List D)(d:D):Dd.cutD (xs++[d]) none (some (-1))=xs:=by
 have e1:HT.sIx (xs++[d]).length (xs++[d]).length (some (-1))=xs.length:=by
  unfold HT.sIx;simp only;rw [if_pos (by omega)];simp;omega
 unfold Dd.cutD;rw [e1];simp [HT.sIx]
theorem z4Q {n m:Nat} {v:List Int} (r:Rl) (h:LotB n m v) (he:ended v=false) (hm:m<=1999) (s:Sto):xB [.str (nmR r),rD v] s=.ok (tD (vF r v)) s:=by
 have l4:=h.toLot.le4;have w:=z1R r h.toLot he s;have dv:=z37 r h he hm s;have Q:=h.q r he;have dl:=uz r h.toLot he;have lpl:=kY (n:=v.length) l4.1 s;have gl:yE [rD v] s=.ok (.int v.length) s:=by simp [yE,zF]
 have mo:∀ xs:List D,xs.length<=4->vk [.str (nmR r),.tup xs] s=.ok (.tup (mvd r xs)) s:=fun xs hx=>z9C r xs hx s;have key:∀ d e:D,yE [e] s=.ok (.int v.length) s->yQ [d,e] s=.ok .non s->xr [d,e] s=.ok (.tup [.int ((deal r v).1:Nat),.lst (iL (zq v (deal r v)))]) s->(∀ xs:List D,xs.length<=4->vk [d,.tup xs] s=.ok (.tup (mvd r xs)) s)-> xB [d,e] s=.ok (tD (vF r v)) s:=fun d e h0 h1 h2 h3=>by
  have st:zv ["rule","lot","by","quotients"] [d,e]=[some d,some e,none,none]:=rfl;simp only [xB,Mof,kK,st,List.length_cons,List.length_nil,if_true];rw [zi (Z':=[some d,some e,none,none]) (s':=s) (by simp [h1])];rw [zi (Z':=[some d,some e,some (.int ((deal r v).1:Nat)),some (.lst (iL (zq v (deal r v))))]) (s':=s) (by simp [h2])];have ir:z5u (za (zd yt (za (zd yE (za (zc 1) zh)) zh)) (za (zc 3) zh)) [some d,some e,some (.int ((deal r v).1:Nat)),some (.lst (iL (zq v (deal r v))))] s=.ok (((one v.length).zip (zq v (deal r v))).map fun p=>D.tup [rD p.1,.int p.2],[]) s:=by simp only [z9L,zm,zE,yf,yy,List.getElem?_cons_zero,List.getElem?_cons_succ,R.bind_ok,h0,lpl,z0Q,z3Z,List.append_nil]
  have c:=comp_map (mp:=[some 0,some 2,none,none]) (fg:=xN 2 3) (fe:=zd vk (za (zc 0) (za (eOp uF (eOp uF (eSl (zc 2) zZ (wn (zc 1))) (jE (za (eOp uF (eOp dIx (zc 2) (zc 1)) (zc 3)) zh))) (eSl (zc 2) (wn (eOp uF (zc 1) (eC (.int 1)))) zZ)) zh))) (fun p:List Int×Int=>D.tup [rD p.1,.int p.2]) (fun p:List Int×Int=>rD (mvd r (zJ (deal r v).1 p.1 p.2))) (fun p=>[some d,some (.int ((deal r v).1:Nat)),some (rD p.1),some (.int p.2)]) _ ir (fun p _=>by simp) (fun p hp=>by
    have hl:p.1.length=v.length:=(z3H v.length).row p.1 (List.of_mem_zip hp).1;have hb:(deal r v).1<p.1.length:=by rw [hl];exact dl.lt
    have e1:=z4u (iL p.1) (deal r v).1 s;have e2:=z1z (iL p.1) ((deal r v).1+1) s;have e3:=z00 (r:=p.1) (j:=(deal r v).1) s hb;rw [show ((((deal r v).1+1:Nat):Int))=(((deal r v).1:Nat):Int)+1 from rfl] at e2;generalize (deal r v).1=b at *;have f1:eSl (zc 2) zZ (wn (zc 1)) [some d,some (.int ((b:Nat):Int)),some (rD p.1),some (.int p.2)] s=.ok (.tup ((iL p.1).take b)) s:=by simp only [z2C,yf,xP,uD,List.getElem?_cons_zero,List.getElem?_cons_succ,R.bind_ok];exact e1
    have f2:eSl (zc 2) (wn (eOp uF (zc 1) (eC (.int 1)))) zZ [some d,some (.int ((b:Nat):Int)),some (rD p.1),some (.int p.2)] s=.ok (.tup ((iL p.1).drop (b+1))) s:=by simp only [z2C,xp,kw,zaM,yf,xP,uD,List.getElem?_cons_zero,List.getElem?_cons_succ,R.bind_ok];exact e2
    have f3:jE (za (eOp uF (eOp dIx (zc 2) (zc 1)) (zc 3)) zh) [some d,some (.int ((b:Nat):Int)),some (rD p.1),some (.int p.2)] s=.ok (.tup [.int (p.1.getD b 0+p.2)]) s:=by
     simp only [qL,zm,zE,xp,yf,List.getElem?_cons_zero,List.getElem?_cons_succ,R.bind_ok,e3,zaM];rw [if_pos (by simp [cap])]
    have f4:eOp uF (eOp uF (eSl (zc 2) zZ (wn (zc 1))) (jE (za (eOp uF (eOp dIx (zc 2) (zc 1)) (zc 3)) zh))) (eSl (zc 2) (wn (eOp uF (zc 1) (eC (.int 1)))) zZ) [some d,some (.int ((b:Nat):Int)),some (rD p.1),some (.int p.2)] s=.ok (.tup (iL (zJ b p.1 p.2))) s:=by
     rw [xp,xp,f1,R.bind_ok,f3,R.bind_ok,z3d,if_pos (by simp [cap];omega),R.bind_ok,f2,R.bind_ok,z3d,if_pos (by simp [cap];omega)];simp [zJ,List.map_take,List.map_drop]
    rw [call2 (x:=d) (by simp) f4,h3 _ (by simp [zJ];omega),zb5]) (by simp [cap,one];omega);simp only [jL,yC];rw [yy,zm,c];simp only [R.bind_ok,zE,jc];unfold vF z4G;rw [xn];simp only [tD];rw [List.map_zipWith,List.zip,List.map_zipWith]
 exact key _ _ gl w dv mo
theorem _root_.Pg.LotB.step{n m:Nat}{v:List Int}(r:Rl)(h:LotB n m v)(he:ended v=false):LotB n m (stp r v):=by
 refine ⟨h.toLot.step r he,fun x hx=>?_⟩;have:=zfL (B:=2 ^ m-1) r h.toLot he (fun y hy=>by have:=h.bd y hy;omega) x hx;omega
theorem zc5 {n m:Nat} {r:Rl} {d e:D} (hd:d=.str (nmR r)) (hm:m<=1999) (s:Sto) {c:List Int} {ls:List (List Int)} (Rn:Run r c ls):∀ (pre:List (List Int)),LotB n m c->pre.length+ls.length<=50000-> vS (z6h (tOf (zd yA (za (eOp dIx (zc 2) (z0B (eC (.int 1)))) zh)))) z3x (ls.length+1) [some d,some e,some (.loc s.length)] (s++[(pre++[c]).map rD])=.ok (.nx [some d,some e,some (.loc s.length)]) (s++[(pre++ls).map rD]):=by
 have tst:∀ (pre:List (List Int)) (c:List Int),LotB n m c->z6h (tOf (zd yA (za (eOp dIx (zc 2) (z0B (eC (.int 1)))) zh))) [some d,some e,some (.loc s.length)] (s++[(pre++[c]).map rD])=.ok (!ended c) (s++[(pre++[c]).map rD]):=fun pre c h=>by
  have ix:=kg (x:=.loc s.length) (d:=rD c) (xs:=pre.map rD) (s:=s++[(pre++[c]).map rD]) (by simp [zF]);have hE:=z1G h.toLot (s++[(pre++[c]).map rD]);generalize (s++[(pre++[c]).map rD])=S at *;simp only [z9T,qu,yy,zm,zE,xp,yf,z8d,kw,List.getElem?_cons_zero,List.getElem?_cons_succ,R.bind_ok];rw [ix];simp only [R.bind_ok];rw [hE];simp only [R.bind_ok]
 induction Rn with
 | @done v hend=>
  intro pre h hl;rw [vS,tst pre v h,hend];rfl | @step v ls hend Rn ih=>
  intro pre h hl;have ih:=ih (pre++[v]) (h.step r hend) (by simp at hl ⊢;omega);rw [List.length_cons,vS,tst pre v h,hend,R.bind_ok,if_pos (by rfl)];have stp':=zfw r h hend hm (s++[(pre++[v]).map rD]);rw [<- hd] at stp';have ix:=kg (x:=.loc s.length) (d:=rD v) (xs:=pre.map rD) (s:=s++[(pre++[v]).map rD]) (by simp [zF]);have body:z3x [some d,some e,some (.loc s.length)] (s++[(pre++[v]).map rD])=.ok (.nx [some d,some e,some (.loc s.length)]) (s++[(pre++[v]++[stp r v]).map rD]):=by
   have gt:(s++[(pre++[v]).map rD])[s.length]? = some ((pre++[v]).map rD):=by simp
   have st2:(s++[(pre++[v]).map rD]).set s.length ((pre++[v]).map rD++[rD (stp r v)])=s++[(pre++[v]++[stp r v]).map rD]:=by rw [List.set_append_right _ _ (by omega)];simp
   have fl:(rD (stp r v)).flat=true:=yw _;have ln:((pre++[v]).map rD).length<cap:=by simp [cap] at hl ⊢;omega
   generalize (s++[(pre++[v]).map rD])=S at *;simp only [z3x,z06,z3b,yy,zm,zE,xp,yf,z8d,kw,List.getElem?_cons_zero,List.getElem?_cons_succ,R.bind_ok];rw [ix];simp only [R.bind_ok];rw [stp'];simp only [R.bind_ok];rw [gt];simp only;rw [if_pos ⟨fl,ln⟩,st2];rfl
  rw [body,R.bind_ok];simp only;rw [ih];simp
theorem zil {n m:Nat} {v:List Int} {ls:List (List Int)} (r:Rl) (h:LotB n m v) (Rn:Run r v ls) (hm:m<=1999) (hl:ls.length<=50000) (s:Sto):M_run [.str (nmR r),rD v] s=.ok (.loc s.length) (s++[ls.map rD]):=by
 have w:=z5V r h.toLot s;have fl:(rD v).flat=true:=yw _;have key:∀ d e:D,d=.str (nmR r)->e=rD v->M_run [d,e] s=.ok (.loc s.length) (s++[ls.map rD]):=fun d e hd he=>by
  have st:zv ["rule","lot","lots"] [d,e]=[some d,some e,none]:=rfl;have w':zC [d,e] s=.ok .non s:=by rw [hd,he];exact w
  have fe:e.flat=true:=by rw [he];exact fl
  simp only [M_run,Mof,zcD,st,List.length_cons,List.length_nil,if_true];rw [zi (Z':=[some d,some e,none]) (s':=s) (by simp [w'])];rw [zi (Z':=[some d,some e,some (.loc s.length)]) (s':=s++[[e]]) (by
   simp only [z9x,yp,z31,zm,zE,yf,List.getElem?_cons_succ,List.getElem?_cons_zero,R.bind_ok];rw [if_pos ⟨by simp [cap],by simp [D.flat.flats,fe]⟩];rfl)];have lp:=zc5 (e:=e) hd hm s Rn [] h (by simpa using hl);rw [List.nil_append,List.nil_append] at lp;rw [show ([v]:List (List Int)).map rD=[e] from by rw [he];rfl] at lp;rw [zi (Z':=[some d,some e,some (.loc s.length)]) (s':=s++[ls.map rD]) (by rw [zao];exact z8b lp (by simp))];simp
 exact key _ _ rfl rfl
theorem z9Q{n m:Nat}{r:Rl}{v:List Int}{ls:List (List Int)}(h:LotB n m v)(Rn:Run r v ls):∀ a∈ls.dropLast,LotB n m a/\ended a=false:=by induction Rn with
 | done e=>simp | step e R2 ih=>
  intro a ha;rw [List.dropLast_cons_of_ne_nil R2.ne] at ha;rcases List.mem_cons.mp ha with rfl | ha;·exact ⟨h,e⟩
  ·exact ih (h.step r e) a ha
theorem zdP{n m:Nat}{v:List Int}{ls:List (List Int)}(r:Rl)(h:LotB n m v)(Rn:Run r v ls)(hm:m<=1999)(hl:ls.length<=50000){f g:FE}{Z:Ev}{s:Sto}(hf:f Z s=.ok (.str (nmR r)) s)(hg:g Z s=.ok (rD v) s):z2M (zd M_run (za f (za g zh))) Z s=.ok (.lst (ls.map rD)) s:=by rw [z78,call2 hf hg,zil r h Rn hm hl s,z4C]
theorem z77 {n m:Nat} {v:List Int} {ls:List (List Int)} (r:Rl) (h:LotB n m v) (Rn:Run r v ls) (hm:m<=1999) (hl:ls.length<=50000) (s:Sto):wa [.str (nmR r),rD v] s=.ok (.lst ((zY r ls).map tD)) s:=by
 have fz:=fun (f g:FE) (Z:Ev) (hf:f Z s=.ok (.str (nmR r)) s) (hg:g Z s=.ok (rD v) s)=>zdP r h Rn hm hl hf hg;have key:∀ d e:D,d=.str (nmR r)->e=rD v->wa [d,e] s=.ok (.lst ((zY r ls).map tD)) s:=fun d e hd he=>by
  have st:zv ["rule","lot"] [d,e]=[some d,some e]:=rfl;have f1:=fz (zc 0) (zc 1) [some d,some e] (by simp [hd]) (by simp [he]);obtain ⟨z,hz⟩:∃ z,ls=ls.dropLast++[z]:=⟨ls.getLast Rn.ne,(List.dropLast_concat_getLast Rn.ne).symm⟩;have sl:eSl (z2M (zd M_run (za (zc 0) (za (zc 1) zh)))) zZ (wn (z0B (eC (.int 1)))) [some d,some e] s=.ok (.lst (ls.dropLast.map rD)) s:=by
   rw [z2C,f1];simp only [R.bind_ok,xP,uD,z8d,kw,dSl,Dd.listOf];have c:=zbW (ls.dropLast.map rD) (rD z);rw [show ls.dropLast.map rD++[rD z]=ls.map rD from by rw [show [rD z]=[z].map rD from rfl,<- List.map_append,<- hz]] at c;rw [c]
  have ends:=z9Q h Rn;have c:=comp_map (mp:=[some 0,none]) (fg:=yn 1) (fe:=zd xB (za (zc 0) (za (zc 1) zh))) rD (fun a=>tD (vF r a)) (fun a=>[some d,some (rD a)]) ls.dropLast (xU sl) (fun a _=>by simp) (fun a ha=>by
   have:=z4Q r (ends a ha).1 (ends a ha).2 hm s;rw [call2 (x:=d) (y:=rD a) (by simp) (by simp),hd];exact this) (by simp [cap];omega);simp only [wa,Mof,z0H,st,List.length_cons,List.length_nil,if_true,kP,yC];rw [c];simp [zY,Function.comp_def]
 exact key _ _ rfl rfl
theorem ziI {n m : Nat} {B : Int} {P : Tb} {c x : List Int} (I : PI n B P c x) (hB : B < 2 ^ m) : Bd m P := fun row hr y hy => by
  have := I.nn row hr y hy;have e1 : ((y.natAbs : Nat) : Int) = y := Int.natAbs_of_nonneg this.1
  have : ((y.natAbs : Nat) : Int) < ((2 ^ m : Nat) : Int) := by rw [e1]; have e2 : ((2 ^ m : Nat) : Int) = 2 ^ m := by simp
                                                                rw [e2]; omega
  omega
theorem zdC{n m:Nat}{v:List Int}(r:Rl)(h:LotB n m v)(he:ended v=false):Bd m (vF r v):=fun row hr y hy=>by
 have:=z9d (B:=2 ^ m-1) r h.toLot he (fun y hy=>by have:=h.bd y hy;omega) row hr y hy;have e1:((y.natAbs:Nat):Int)=y:=Int.natAbs_of_nonneg this.1;have e2:((2 ^ m:Nat):Int)=2 ^ m:=by simp
 have:((y.natAbs:Nat):Int)<((2 ^ m:Nat):Int):=by rw [e1,e2];omega
 omega
def wd:Tb->List Tb->List Tb
 | P,[]=>[P] | P,T::ts=>P::wd (qG P T) ts
theorem z8D:∀ (ts:List Tb)(P:Tb),(wd P ts).getLast? = some (ts.foldl qG P)
 | [],P=>rfl | T::ts,P=>by rw [wd,List.getLast?_cons,z8D ts];rfl
theorem z2e:∀ (ts:List Tb)(P:Tb),(wd P ts).length=ts.length+1
 | [],P=>rfl | T::ts,P=>by rw [wd,List.length_cons,z2e ts];rfl
theorem z9k(T:Tb):(tD T).flat=true:=by
 show D.flat.flats (T.map rD)=true;induction T with
 | nil=>rfl | cons r T ih=>simp only [List.map_cons,D.flat.flats,ih,Bool.and_true];exact yw r
theorem za4 {n m:Nat} {r:Rl} {x:List Int} {B:Int} (d t:D) (hn:Sz n) (hB:B<2 ^ m) (hm:m<=1999) (hx:∀ y∈x,y<=B) (s:Sto) {c:List Int} {ls:List (List Int)} (Rn:Run r c ls):∀ (P:Tb) (pre:List Tb) (all:List D) (z:Option D),LotB n m c->PI n B P c x->pre.length+ls.length<=50000-> ∃ z',xi [] all (fun d Z s=>(yn 3 d Z s).bind fun Z' s'=>yV Z' s') ((zY r ls).map tD) [some d,some t,some (.loc s.length),z] (s++[(pre++[P]).map tD])=.ok (.nx [some d,some t,some (.loc s.length),z']) (s++[(pre++wd P (zY r ls)).map tD]):=by induction Rn with
 | done he=>intro P pre all z h I hl;exact ⟨z,by simp [zY,xi,okG,wd]⟩ | @step v ls he R2 ih=>
  intro P pre all z h I hl;have tb:=kz r h.toLot he;have mm:=z4V (s++[(pre++[P]).map tD]) hn I.tab tb (ziI I hB) (zdC r h he) (by omega) (by omega);obtain ⟨z',ih⟩:=ih (qG P (vF r v)) (pre++[P]) all (some (tD (vF r v))) (h.step r he) (I.step r hx h.toLot he) (by simp at hl ⊢;omega);refine ⟨z',?_⟩;have ix:=kg (x:=.loc s.length) (d:=tD P) (xs:=pre.map tD) (s:=s++[(pre++[P]).map tD]) (by simp [zF]);have body:yV [some d,some t,some (.loc s.length),some (tD (vF r v))] (s++[(pre++[P]).map tD])=.ok (.nx [some d,some t,some (.loc s.length),some (tD (vF r v))]) (s++[(pre++[P]++[qG P (vF r v)]).map tD]):=by
   have gt:(s++[(pre++[P]).map tD])[s.length]? = some ((pre++[P]).map tD):=by simp
   have st2:(s++[(pre++[P]).map tD]).set s.length ((pre++[P]).map tD++[tD (qG P (vF r v))])=s++[(pre++[P]++[qG P (vF r v)]).map tD]:=by rw [List.set_append_right _ _ (by omega)];simp
   have fl:=z9k (qG P (vF r v));have ln:((pre++[P]).map tD).length<cap:=by simp [cap] at hl ⊢;omega
   generalize (s++[(pre++[P]).map tD])=S at *;have ee:eOp dIx (zc 2) (z0B (eC (.int 1))) [some d,some t,some (.loc s.length),some (tD (vF r v))] S=.ok (tD P) S:=by rw [op2 (x:=.loc s.length) (y:=.int (-1)) (by simp) (by simp)];exact ix
   have cc:zd xz (za (eOp dIx (zc 2) (z0B (eC (.int 1)))) (za (zc 3) zh)) [some d,some t,some (.loc s.length),some (tD (vF r v))] S=.ok (tD (qG P (vF r v))) S:=by rw [call2 ee (y:=tD (vF r v)) (by simp)];exact mm
   rw [yV,z06,z3b];simp only [yf,List.getElem?_cons_zero,List.getElem?_cons_succ,R.bind_ok];rw [cc];simp only [R.bind_ok];rw [gt];simp only;rw [if_pos ⟨fl,ln⟩,st2];rfl
  rw [R2.tabs_cons,List.map_cons,xi,if_pos (by intro p hp;simp at hp),z0v,R.bind_ok];simp only [List.set_cons_succ,List.set_cons_zero];rw [body,R.bind_ok];simp only;rw [ih,wd];simp
theorem z9l {n m:Nat} {v:List Int} {ls:List (List Int)} (r:Rl) (h:LotB n m v) (Rn:Run r v ls) (hm:m<=1999) (hl:ls.length<=50000) (s:Sto):yb [.int n,.lst ((zY r ls).map tD)] s=.ok (.loc s.length) (s++[(wd (one n) (zY r ls)).map tD]):=by
 have lpl:=kY (n:=n) (by have:=h.sz;omega) s;have key:∀ d t:D,d=.int n->t=.lst ((zY r ls).map tD)->yb [d,t] s=.ok (.loc s.length) (s++[(wd (one n) (zY r ls)).map tD]):=fun d t hd ht=>by
  have st:zv ["size","tables","products","table"] [d,t]=[some d,some t,none,none]:=rfl;simp only [yb,Mof,vP,st,List.length_cons,List.length_nil,if_true];rw [zi (Z':=[some d,some t,some (.loc s.length),none]) (s':=s++[[tD (one n)]]) (by
   have c2:zd yt (za (zc 0) zh) [some d,some t,none,none] s=.ok (tD (one n)) s:=by rw [xg (x:=d) (by simp),hd];exact lpl
   have fl:=z9k (one n);rw [vB,yp,z31,zm,c2];generalize tD (one n)=o at *;simp only [R.bind_ok,zE];rw [if_pos ⟨by simp [cap],by simp [D.flat.flats,fl]⟩];rfl)];obtain ⟨z',lp⟩:=za4 d t h.sz (B:=2 ^ m-1) (m:=m) (x:=v) (by omega) hm (fun y hy=>by have:=h.bd y hy;omega) s Rn (one n) [] ((zY r ls).map tD) none h (PI.start h.toLot fun y hy=>by have:=h.bd y hy;omega) (by simpa using hl);rw [zi (Z':=[some d,some t,some (.loc s.length),z']) (s':=s++[(wd (one n) (zY r ls)).map tD]) (by
   rw [vC,ji,xU (xs:=(zY r ls).map tD) (by simp [ht]),R.bind_ok];exact lp)];simp
 exact key _ _ rfl rfl
theorem z48 {n m:Nat} {v:List Int} {ls:List (List Int)} (r:Rl) (h:LotB n m v) (Rn:Run r v ls) (hm:m<=1999) (hl:ls.length<=50000) (s:Sto):yu [.str (nmR r),rD v] s=.ok (.loc s.length) (s++[(wd (one n) (zY r ls)).map tD]):=by
 have tb:=z77 r h Rn hm hl s;have gl:yE [rD v] s=.ok (.int n) s:=by simp [yE,zF,h.len]
 have gr:=z9l r h Rn hm hl s;have key:∀ d e t:D,yb [.int n,t] s=.ok (.loc s.length) (s++[(wd (one n) (zY r ls)).map tD])->wa [d,e] s=.ok t s->yE [e] s=.ok (.int n) s->yu [d,e] s=.ok (.loc s.length) (s++[(wd (one n) (zY r ls)).map tD]):=fun d e t ht h1 h2=>by
  have st:zv ["rule","lot","tables"] [d,e]=[some d,some e,none]:=rfl;simp only [yu,Mof,jH,st,List.length_cons,List.length_nil,if_true];rw [zi (Z':=[some d,some e,some t]) (s':=s) (by simp [h1])];have c1:zd yE (za (zc 1) zh) [some d,some e,some t] s=.ok (.int n) s:=by rw [xg (x:=e) (by simp)];exact h2
  rw [jb,yC,call2 c1 (y:=t) (by simp),ht];rfl
 exact key _ _ _ gr tb gl
theorem z7r{i:Int}(h0:0<=i)(h:i<2 ^ 2000):i.natAbs<BIG:=by
 have e:(i.natAbs:Int)=i:=Int.natAbs_of_nonneg h0;have k:(2:Int) ^ 2000<=((BIG:Nat):Int):=by decide +kernel
 exact Int.ofNat_lt.mp (Int.lt_of_lt_of_le (by rw [e];exact h) k)
theorem z0d{a b:Int}(s:Sto)(ha:0<=a)(ha':a<2 ^ 2000)(hb:0<=b)(hb':b<2 ^ 2000):wW (.int a) (.int b) s=.ok (.int (a*b)) s:=by rw [zcz,if_pos ⟨z7r ha ha',z7r hb hb'⟩]
theorem zdN{a b:Int}(s:Sto)(hb:0<b)(hb':b<2 ^ 2000):z5q (.int a) (.int b) s=.ok (.int (a / b)) s:=by rw [z71,if_pos ⟨hb,z7r (by omega) hb'⟩]
theorem zfY(ns:List Int)(k:Nat)(s:Sto):∃ c,xt [.scr (iL ns),.int k] s=.ok (.int c) s:=by
 by_cases h:k<ns.length
 ·have hk:(k:Int)<ns.length:=by omega
  refine ⟨ns[k],?_⟩;have e:ixN (iL ns).length (k:Int)=some k:=by
   unfold ixN;rw [if_pos (by omega),if_pos (by simpa using hk)];simp
  have ix:dIx (.scr (iL ns)) (.int k) s=.ok (.int ns[k]) s:=by
   simp only [dIx,zF,atI,e,Option.bind_some];simp [h]
  simp only [iL] at ix;simp [xt,Mof,vW,zv,yE,zF,hk,ix]
 ·have hk:¬ (k:Int)<ns.length:=by omega
  exact ⟨0,by simp [xt,Mof,vW,zv,yE,zF,hk]⟩
def Pot(s:Sto)(l:Nat):Prop:=∃ p:Int,s[l]? = some [.int p]
theorem Pot.lt{s:Sto}{l:Nat}(h:Pot s l):l<s.length:=by
 obtain ⟨p,e⟩:=h;exact (List.getElem?_eq_some_iff.mp e).1
theorem Pot.app{s:Sto}{l:Nat}(h:Pot s l)(t:Sto):Pot (s++t) l:=by
 obtain ⟨p,e⟩:=h;exact ⟨p,by rw [List.getElem?_append_left (List.getElem?_eq_some_iff.mp e).1];exact e⟩
structure qS(s s':Sto)(l:Nat):Prop where
 pot:Pot s' l
 len:s'.length=s.length
 oth:∀ m,m≠l->s'[m]? = s[m]?
theorem zcI{s:Sto}{l:Nat}{far:Int}(h:Pot s l)(h0:0<far)(h1:far<2 ^ 2000):∃ r s',zG [.loc l,.int far] s=.ok (.int r) s'/\0<=r/\r<far/\qS s s' l:=by
 obtain ⟨p,e⟩:=h;have hl:l<s.length:=(List.getElem?_eq_some_iff.mp e).1;refine ⟨p % far,s.set l [.int (p / far)],?_,Int.emod_nonneg _ (by omega),Int.emod_lt_of_pos _ h0,⟨p / far,by rw [List.getElem?_set_self hl]⟩,by simp,fun m hm=>List.getElem?_set_ne (Ne.symm hm)⟩;have ix:dIx (.loc l) (.int 0) s=.ok (.int p) s:=by simp [dIx,zF,e,atI,ixN]
 simp [zG,Mof,z0M,zv,ix,z7m s h0,zdN s h0 h1,e,ixN,kX,List.replicate]
theorem zgD(s:Sto):z7g (.int 10) (.int 18) s=.ok (.int 1000000000000000000) s:=by rw [z9J];rfl
theorem zi3(s:Sto):z7g (.int 10) (.int 15) s=.ok (.int 1000000000000000) s:=by rw [z9J];rfl
theorem zfS(s:Sto):z7g (.int 10) (.int 39) s=.ok (.int 1000000000000000000000000000000000000000) s:=by rw [z9J];rfl
theorem pow_step{m r j:Nat}(h:m<2147483648 ^ j)(hr:r<2147483587):m*2147483587+r<2147483648 ^ (j+1):=by
 rw [Nat.pow_succ];generalize 2147483648 ^ j=B at h;omega
theorem zg1{m j:Nat}(h:m<2147483648 ^ j)(hj:j<=64):((m:Nat):Int)<2 ^ 2000:=by
 have h1:2147483648 ^ j<=2147483648 ^ 64:=Nat.pow_le_pow_right (by decide) hj;have h2:2147483648 ^ 64<=2 ^ 2000:=by decide +kernel
 have h3:m<2 ^ 2000:=Nat.lt_of_lt_of_le h (Nat.le_trans h1 h2);have h4:((2 ^ 2000:Nat):Int)=2 ^ 2000:=by decide +kernel
 rw [<- h4];exact Int.ofNat_lt.mpr h3
theorem zj9 (c:Int) (s:Sto):∃ p:Int,vM [.int c] s=.ok (.loc s.length) (s++[[.int p]]):=by
 by_cases h:1000000000000000000<=c;·exact ⟨c-1000000000000000000,by simp [vM,Mof,jZ,zv,zgD,h,D.flat.flats,kX,cap,List.replicate]⟩
 ·have lp:∃ Z' s',z0I [some (.int c),some (.int 0),none,none] s=.ok (.nx Z') s'/\∃ (m:Nat) (a b:Option D),Z'=[some (.int c),some (.int m),a,b]/\s'=s:=by
   obtain ⟨Z',s',e,m,a,b,e1,e2,_⟩:=z88 (all:=yK 64) (body:=fun d Z s=>(yn 2 d Z s).bind fun Z' s'=>(zS z0q (zS z0O z0w)) Z' s') (fun j Z s'=>∃ (m:Nat) (a b:Option D),Z=[some (.int c),some (.int m),a,b]/\s'=s/\m<2147483648 ^ j) (yK 64) 0 (fun j x hx Z s' hi=>by
    obtain ⟨m,a,b,rfl,rfl,hm⟩:=hi;obtain ⟨hj,rfl⟩:=z5T hx;rw [Nat.zero_add] at hm;have r0:=Int.emod_nonneg c (show (2147483629:Int)≠0 by decide);have r1:=Int.emod_lt_of_pos c (show (0:Int)<2147483629 by decide);have a1:z8P (.int c) (.int 2147483629) s'=.ok (.int (c % 2147483629)) s':=z7m s' (by decide);have a2:wW (.int 7919) (.int j) s'=.ok (.int (7919*j)) s':=z0d s' (by decide) (by decide +kernel) (by omega) (by omega);have a3:wW (.int (c % 2147483629+7919*j+1)) (.int 48271) s'=.ok (.int ((c % 2147483629+7919*j+1)*48271)) s':=z0d s' (by omega) (by omega) (by decide) (by decide +kernel);generalize hx1:(c % 2147483629+7919*(j:Int)+1)*48271 % 2147483647=x1;have b0:0<=x1:=by rw [<- hx1];exact Int.emod_nonneg _ (by decide)
    have b1:x1<2147483647:=by rw [<- hx1];exact Int.emod_lt_of_pos _ (by decide)
    have a4:z8P (.int ((c % 2147483629+7919*j+1)*48271)) (.int 2147483647) s'=.ok (.int x1) s':=by rw [<- hx1];exact z7m s' (by decide)
    have a5:wW (.int x1) (.int x1) s'=.ok (.int (x1*x1)) s':=z0d s' b0 (by omega) b0 (by omega);have a6:wW (.int 69621) (.int j) s'=.ok (.int (69621*j)) s':=z0d s' (by decide) (by decide +kernel) (by omega) (by omega);generalize hx2:(x1*x1+69621*(j:Int)+7) % 2147483587=x2;have c0:0<=x2:=by rw [<- hx2];exact Int.emod_nonneg _ (by decide)
    have c1:x2<2147483587:=by rw [<- hx2];exact Int.emod_lt_of_pos _ (by decide)
    have a7:z8P (.int (x1*x1+69621*j+7)) (.int 2147483587) s'=.ok (.int x2) s':=by rw [<- hx2];exact z7m s' (by decide)
    have a8:wW (.int m) (.int 2147483587) s'=.ok (.int (m*2147483587)) s':=z0d s' (by omega) (zg1 hm (by omega)) (by decide) (by decide +kernel);obtain ⟨y,rfl⟩:=Int.eq_ofNat_of_zero_le c0;refine ⟨[some (.int c),some (.int ((m*2147483587+y:Nat):Int)),some (.int j),some (.int y)],s',?_,m*2147483587+y,_,_,rfl,rfl,?_⟩;·simp [a1,a2,a3,a4,a5,a6,a7,a8]
    ·rw [Nat.zero_add];exact pow_step hm (by omega)) [some (.int c),some (.int 0),none,none] s ⟨0,none,none,rfl,rfl,by decide⟩;exact ⟨Z',s',by simpa using e,m,a,b,e1,e2⟩
  obtain ⟨Z',s',e,m,a,b,rfl,rfl⟩:=lp;refine ⟨m,?_⟩;have st:zv ["_law_cell","_law_number","_law_j","_law_more"] [.int c]=[some (.int c),none,none,none]:=rfl;simp only [vM,Mof,jZ,st,List.length_cons,List.length_nil,if_true];rw [zi (Z':=[some (.int c),none,none,none]) (s':=s') (by simp [zgD,h])];rw [zi (Z':=[some (.int c),some (.int 0),none,none]) (s':=s') (by simp)];rw [zi e];simp [D.flat.flats,kX,cap]
structure LS(s0:Sto)(l:Nat)(s:Sto)(xs:List Int):Prop where
 pot:Pot s l
 len:s.length=s0.length+1
 at_:s[s0.length]? = some (iL xs)
 oth:∀ m,m≠l->m<s0.length->s[m]? = s0[m]?
theorem LS.drawn{s0 s s':Sto}{l:Nat}{xs:List Int}(h:LS s0 l s xs)(hl:l<s0.length)(d:qS s s' l):LS s0 l s' xs:= ⟨d.pot,by rw [d.len,h.len],by rw [d.oth _ (by omega)];exact h.at_,fun m h1 h2=>by rw [d.oth m h1];exact h.oth m h1 h2⟩
theorem LS.set{s0 s:Sto}{l:Nat}{xs:List Int}(h:LS s0 l s xs)(hl:l<s0.length)(ys:List Int):LS s0 l (s.set s0.length (iL ys)) ys:=by
 refine ⟨?_,by simp [h.len],List.getElem?_set_self (by rw [h.len];omega),fun m h1 h2=>?_⟩
 ·obtain ⟨p,e⟩:=h.pot;exact ⟨p,by rw [List.getElem?_set_ne (by omega)];exact e⟩
 ·rw [List.getElem?_set_ne (by omega)];exact h.oth m h1 h2
theorem LS.fin{s0 s:Sto}{l:Nat}{xs:List Int}(h:LS s0 l s xs)(hl:l<s0.length):qS s0 (s.take s0.length) l:=by
 obtain ⟨p,e⟩:=h.pot;refine ⟨⟨p,by rw [List.getElem?_take_of_lt hl];exact e⟩,by simp [h.len],fun m h1=>?_⟩;by_cases h2:m<s0.length;·rw [List.getElem?_take_of_lt h2];exact h.oth m h1 h2
 ·rw [List.getElem?_eq_none (by simp [h.len];omega),List.getElem?_eq_none (by omega)]
theorem LS.start{s0 s:Sto}{l:Nat}(d:qS s0 s l)(h:Pot s0 l)(xs:List Int):LS s0 l (s++[iL xs]) xs:= ⟨d.pot.app _,by simp [d.len],by rw [<- d.len];simp,fun m h1 h2=>by rw [List.getElem?_append_left (by rw [d.len];exact h2)];exact d.oth m h1⟩
theorem qS.trans{s s1 s2:Sto}{l:Nat}(a:qS s s1 l)(b:qS s1 s2 l):qS s s2 l:=⟨b.pot,by rw [b.len,a.len],fun m h=>by rw [b.oth m h,a.oth m h]⟩
theorem z1S{s:Sto}{l:Nat}{far:Int}{f g:FE}{Z:Ev}(h:Pot s l)(h0:0<far)(h1:far<2 ^ 2000)(hf:f Z s=.ok (.loc l) s)(hg:g Z s=.ok (.int far) s):∃ r s',zd zG (za f (za g zh)) Z s=.ok (.int r) s'/\0<=r/\r<far/\qS s s' l:=by
 obtain ⟨r,s',e,a,b,c⟩:=zcI h h0 h1;exact ⟨r,s',by rw [call2 hf hg,e],a,b,c⟩
theorem zjE{xs:List D}{i:Int}{d:D}{s:Sto}(h0:0<=i)(h:xs[i.toNat]? = some d):dIx (.lst xs) (.int i) s=.ok d s:=by
 have hj:i.toNat<xs.length:=(List.getElem?_eq_some_iff.mp h).1;have e:ixN xs.length i=some i.toNat:=by
  unfold ixN;rw [if_pos h0,if_pos (by omega)]
 simp only [dIx,zF,atI,e,Option.bind_some,h]
theorem zg4{xs:List D}{l:Nat}{i:Int}{d:D}{s:Sto}(hl:s[l]? = some xs)(h0:0<=i)(h:xs[i.toNat]? = some d):dIx (.loc l) (.int i) s=.ok d s:=by
 have hj:i.toNat<xs.length:=(List.getElem?_eq_some_iff.mp h).1;have e:ixN xs.length i=some i.toNat:=by
  unfold ixN;rw [if_pos h0,if_pos (by omega)]
 simp only [dIx,zF,hl,atI,e,Option.bind_some,h]
theorem zh6{fa fb:FE}{Z:Ev}{s s2:Sto}{L:Nat}{xs:List Int}{x:Int}(ha:fa Z s=.ok (.loc L) s)(hb:fb Z s=.ok (.int x) s2)(at_:s2[L]? = some (iL xs))(hl:xs.length<1000):vH (z8G fa fb) Z s=.ok (.nx Z) (s2.set L (iL (xs++[x]))):=by
 rw [z06,z3b,ha,R.bind_ok];simp only;rw [hb,R.bind_ok];simp only [at_];rw [if_pos ⟨kX x,by simp [cap];omega⟩];simp
theorem z4F{fa fb fc:FE}{Z:Ev}{s s1 s2:Sto}{L:Nat}{xs:List Int}{i x:Int}(hc:fc Z s=.ok (.int x) s1)(ha:fa Z s1=.ok (.loc L) s1)(hb:fb Z s1=.ok (.int i) s2)(at_:s2[L]? = some (iL xs))(h0:0<=i)(h1:i<xs.length):z4q fa fb fc Z s=.ok (.nx Z) (s2.set L (iL (xs.set i.toNat x))):=by
 have e:ixN (iL xs).length i=some i.toNat:=by
  unfold ixN;rw [if_pos h0,if_pos (by simp;omega)]
 rw [zdf,hc,R.bind_ok,ha,R.bind_ok,hb,R.bind_ok];simp only [at_,e,kX,if_true,iL,List.map_set]
theorem za6{xs:List Int}{i:Nat}{x B:Int}(h:∀ y∈xs,0<=y/\y<=B)(hx:0<=x/\x<=B):∀ y∈xs.set i x,0<=y/\y<=B:=fun y hy=>by
 rcases List.mem_or_eq_of_mem_set hy with h2 | h2;·exact h y h2
 ·rw [h2];exact hx
theorem z8A{x:Int}(h:x<=1000):x<2 ^ 2000:=Int.lt_of_le_of_lt h (by decide +kernel)
theorem z7J{v:List Int}{n:Nat}{s:Sto}:z8k n (.ok (rD v) s)=.ok (rD v) (s.take n):=z0b (yw v)
theorem ze5{ns:List Int}{L:Nat}{s:Sto}{f:FE}{Z:Ev}(h:ns≠[])(e:s[L]? = some (iL ns))(hf:f Z s=.ok (.loc L) s):tOf (eOp dEq (zd uy (za f zh)) (eC (.int 0))) Z s=.ok (decide (maxL ns=0)) s:=by
 rw [qu,xp,xg hf,zc4 h e];simp
theorem z9a{ns:List Int}(h:ns≠[])(hn:∀ y∈ns,0<=y)(hm:maxL ns≠0):∃ x∈ns,0<x:=⟨maxL ns,maxL_mem h,by have:=hn _ (maxL_mem h);omega⟩
instance (A:Tb):Decidable (ziu A):=by unfold ziu;infer_instance
end Pg
namespace Pn
open PySem.Spec L2 Dd Pm Pg
def isI:D->Bool
 | .int _=>true | _=>false
theorem z5i{d:D}(h:(tyD d).isSome=true)(s:Sto):jr [d] s=.ok (.bl (isI d)) s:=by cases d<;>simp [tyD] at h<;>simp [jr,Mof,kB,zv,gIs,tyD,isT,isI]
theorem zbJ{α:Type}(l:List α)(p:α->Bool)(s:Sto):z8U [.lst (l.map fun x=>D.bl (p x))] s=.ok (.bl (l.all p)) s:=by
 have b:bools (l.map fun x=>D.bl (p x))=some (l.map p):=by
  rw [show (l.map fun x=>D.bl (p x))=(l.map p).map D.bl by rw [List.map_map];rfl];exact z5K _
 simp [z8U,zF,b]
theorem zaO(k:Nat)(b:Bool)(s:Sto):yc (k+1) [.bl b,.bl b] s=.ok (.bl true) s:=by
 have e:dEq (.bl b) (.bl b) s=.ok (.bl true) s:=by rw [zi4];simp
 have d1:dIs (.bl b) .non s=.ok (.bl false) s:=rfl;simp [yc,Mof,ur,zv,zho,zhb,gIs,tyD,isT,d1]
theorem same_int(k:Nat)(i:Int)(s:Sto):yc (k+1) [.int i,.int i] s=.ok (.bl true) s:=by
 have d1:dIs (.int i) .non s=.ok (.bl false) s:=rfl;have w:=z5i (d:=.int i) rfl s;simp [yc,Mof,ur,zv,zho,zhb,gIs,tyD,isT,d1,w,isI]
theorem z52:∀ xs:List D,z11 xs xs=xs.map fun x=>D.tup [x,x]
 | []=>rfl | x::xs=>by rw [z11,z52 xs];rfl
theorem z4n {k:Nat} {xs:List D} {s:Sto} (hl:xs.length<=cap) (h:∀ x∈xs,yc k [x,x] s=.ok (.bl true) s) (d:D) (hd:d=.tup xs\/d=.lst xs):yc (k+1) [d,d] s=.ok (.bl true) s:=by
 have st:zv ["_law_found","_law_due"] [d,d]=[some d,some d]:=rfl;have g:z0Q s d=some (xs,[]):=by rcases hd with rfl | rfl<;>rfl
 have c:=comp_map (fi:=z5u (za (zc 0) (za (zc 1) zh))) (mp:=[none,none]) (fg:=xN 0 1) (fe:=zd (yc k) (za (zc 0) (za (zc 1) zh))) (Z:=[some d,some d]) (s:=s) (fun x=>D.tup [x,x]) (fun x=>D.bl true) (fun x=>[some x,some x]) xs (by simp [g,z52]) (fun a _=>by simp) (fun a ha=>by simp [h a ha]) hl;have ga:=zbJ xs (fun _=>true) s;have ga:z8U [.lst (xs.map fun _=>D.bl true)] s=.ok (.bl true) s:=by rw [ga];simp
 have gl:yE [d] s=.ok (.int xs.length) s:=by rcases hd with rfl | rfl<;>simp [yE,zF]
 have q4:qD (yc k) [some d,some d] s=.ok (.rt (.bl true)) s:=by simp only [qD,yC,z7A,xp,yy,zm,zE,c,R.bind_ok,ga,yf,List.getElem?_cons_zero,List.getElem?_cons_succ,gl,z5g,decide_true]
 have q2:kG (yc k) [some d,some d] s=.ok (.nx [some d,some d]) s:=by rcases hd with rfl | rfl<;>simp [gIs,tyD,isT]
 have q1:uY (yc k) [some d,some d] s=.ok (.rt (.bl true)) s:=by
  rw [uY,z0i];have t:tOf (zhb "list" "tuple" (zc 1)) [some d,some d] s=.ok true s:=by rcases hd with rfl | rfl<;>simp [zhb,zho,tyD,isT]
  rw [t,R.bind_ok,if_pos rfl,zi q2,q4]
 simp only [yc,Mof,ur,st,List.length_cons,List.length_nil,if_true];rw [z5O q1]
end Pn
namespace Pm
end Pm
namespace Pg
open PySem.Spec L2 Dd Pm
theorem vr{i:Nat}{Z:Ev}{s:Sto}{d:D}(h:Z[i]? = some (some d)):zc i Z s=.ok d s:=by rw [yf,h]
theorem zeh{f g:FS}{t:FT}{Z:Ev}{s:Sto}(h:t Z s=.ok false s):fIf t f g Z s=g Z s:=by rw [z0i,h,R.bind_ok,if_neg (by decide)]
theorem z1I{f:FE}{Z:Ev}{s:Sto}{b:Bool}(h:f Z s=.ok (.bl b) s):tOf f Z s=.ok b s:=by rw [qu,h];rfl
structure Sh(r:Rl)(n:Nat)(v:List Int)(ls:List (List Int))(z:List Int)(k:Nat)(B:Tb)(b:List Int):Prop where
 run:Run r v ls
 len:ls.length<=50000
 last:ls.getLast? = some z
 lot:Lot n z
 kn:k<n
 zk:z.getD k 0=zhM v
 zo:∀ j,j≠k->z.getD j 0=0
 g0:0<zhM v
 B_:B=zkB (zbZ n (zY r ls))
 tab:Tab n B
 bd:Bd 318 B
 fair:ziu (zbZ n (zY r ls))
 ptab:Tab n (zbZ n (zY r ls))
 pbd:Bd 104 (zbZ n (zY r ls))
 mvB:mv B v=z
 at_:B[k]? = some b
 fz:B.filter (fun x=>decide (dot x v=0))=B.eraseIdx k
 fn:B.filter (fun x=>decide (dot x v≠0))=[b]
 det:((Pm.det 4 (v::B.eraseIdx k)).natAbs:Int)*zhM v=dot v v
end Pg
namespace Pm
def Pr(p:Int):Prop:=∀ x y:Int,p ∣ x*y->p ∣ x\/p ∣ y
def nrm(r a b c:Int):Int:=a*a*a+r*(b*b*b)+r*r*(c*c*c)-3*r*(a*b*c)
end Pm
namespace Pg
open PySem.Spec L2 Dd Pm
variable (Mr:Mir)
abbrev w1:FT:=tOf (eOp dLe (eOp zfc (zc 1) (eC (.int 3))) (zc 0))
abbrev w2:FT:=tOf (eOp dGt (eOp zfc (zc 1) (eC (.int 3))) (zc 0))
end Pg
namespace Pm
section
variable {r F G:Int}
structure A3(N:Nat)(a b c:Int):Prop where
 a:a.natAbs<=N
 b:b.natAbs<=N
 c:c.natAbs<=N
end
end Pm
namespace Pg
open PySem.Spec L2 Dd Pm
abbrev cD(a b c:Int):D:=.tup [.int a,.int b,.int c]
theorem z4D:∀ xs:List D,z11 xs xs=xs.map fun x=>D.tup [x,x]
 | []=>rfl | x::xs=>by simp [z11,z4D xs]
section
variable (Mr:Mir)
theorem same_int(i:Int)(s:Sto):Mof ["_law_found","_law_due"] 2 (zM Mr) [.int i,.int i] s=.ok (.bl true) s:=by simp [Mof,zM,zv,gIs,tyD,isT,dIs,xy,qO]
theorem zaO(i:Bool)(s:Sto):Mof ["_law_found","_law_due"] 2 (zM Mr) [.bl i,.bl i] s=.ok (.bl true) s:=by simp [Mof,zM,zv,gIs,tyD,isT,dIs]
theorem zbR(s:Sto):Mof ["_law_found","_law_due"] 2 (zM Mr) [.non,.non] s=.ok (.bl true) s:=by simp [Mof,zM,zv,dIs]
theorem z4n {xs:List D} {d:D} (hd:d=.tup xs\/d=.lst xs) (hl:xs.length<=cap) (s:Sto) (h:∀ x∈xs,Mr [x,x] s=.ok (.bl true) s):Mof ["_law_found","_law_due"] 2 (zM Mr) [d,d] s=.ok (.bl true) s:=by
 have st:zv ["_law_found","_law_due"] [d,d]=[some d,some d]:=rfl;have cp:=comp_map (fi:=z5u (za (zc 0) (za (zc 1) zh))) (mp:=[none,none]) (fg:=xN 0 1) (fe:=zd Mr (za (zc 0) (za (zc 1) zh))) (Z:=[some d,some d]) (s:=s) (fun x=>D.tup [x,x]) (fun _=>D.bl true) (fun x=>[some x,some x]) xs (by rcases hd with rfl | rfl<;>simp [z0Q,z4D]) (fun x _=>by simp) (fun x hx=>by rw [call2 (x:=x) (y:=x) (by simp) (by simp)];exact h x hx) hl;have ga:zd z8U (za (zn (z5u (za (zc 0) (za (zc 1) zh))) [none,none] (xN 0 1) zR (zd Mr (za (zc 0) (za (zc 1) zh)))) zh) [some d,some d] s=.ok (.bl true) s:=by
  rw [xg cp];exact z1d s (by intro x hx;obtain ⟨_,_,rfl⟩:=List.mem_map.mp hx;rfl)
 simp only [Mof,zM,st,List.length_cons,List.length_nil,if_true];have e1:zd yE (za (zc 0) zh) [some d,some d] s=.ok (.int xs.length) s:=by rcases hd with rfl | rfl<;>simp [yE,zF]
 have e2:zd yE (za (zc 1) zh) [some d,some d] s=.ok (.int xs.length) s:=by rcases hd with rfl | rfl<;>simp [yE,zF]
 have f1:wZ Mr [some d,some d] s=.ok (.nx [some d,some d]) s:=by rcases hd with rfl | rfl<;>simp [dIs]
 have f3:vp Mr [some d,some d] s=.ok (.nx [some d,some d]) s:=by rcases hd with rfl | rfl<;>simp [gIs,tyD,isT]
 have f5:va Mr [some d,some d] s=.ok (.nx [some d,some d]) s:=by rcases hd with rfl | rfl<;>simp [gIs,tyD,isT]
 have f7:ve Mr [some d,some d] s=.ok (.nx [some d,some d]) s:=by rcases hd with rfl | rfl<;>simp [gIs,tyD,isT]
 have f9:vm Mr [some d,some d] s=.ok (.nx [some d,some d]) s:=by rcases hd with rfl | rfl<;>simp [gIs,tyD,isT]
 have f11:yY Mr [some d,some d] s=.ok (.rt (.bl true)) s:=by
  rw [yY,yC,z7A,op2 e1 e2,z5g];simp only [R.bind_ok,decide_true];rw [ga];rfl
 rw [zi f1,zi f3,zi f5,zi f7,zi f9,f11]
end
def smD:Nat->D->Bool
 | _,.int _=>true | _,.bl _=>true | _,.non=>true | k+1,.tup xs=>xs.all (smD k)&&decide (xs.length<=cap) | k+1,.lst xs=>xs.all (smD k)&&decide (xs.length<=cap) | _,_=>false
theorem z6Y:∀ (k:Nat)(d:D)(s:Sto),smD k d=true->zU (k+1) [d,d] s=.ok (.bl true) s
 | k,.int i,s,_=>same_int _ i s | k,.bl i,s,_=>zaO _ i s | k,.non,s,_=>zbR _ s | k+1,.tup xs,s,h=>by
  simp only [smD,Bool.and_eq_true,List.all_eq_true,decide_eq_true_eq] at h;exact z4n _ (.inl rfl) h.2 s fun x hx=>z6Y k x s (h.1 x hx) | k+1,.lst xs,s,h=>by
  simp only [smD,Bool.and_eq_true,List.all_eq_true,decide_eq_true_eq] at h;exact z4n _ (.inr rfl) h.2 s fun x hx=>z6Y k x s (h.1 x hx) | 0,.tup xs,s,h=>by simp [smD] at h | 0,.lst xs,s,h=>by simp [smD] at h | 0,.str xs,s,h=>by simp [smD] at h | k+1,.str xs,s,h=>by simp [smD] at h | 0,.dct,s,h=>by simp [smD] at h | k+1,.dct,s,h=>by simp [smD] at h | 0,.loc l,s,h=>by simp [smD] at h | 0,.dlo l,s,h=>by simp [smD] at h | k+1,.loc l,s,h=>by simp [smD] at h | k+1,.dlo l,s,h=>by simp [smD] at h | 0,.fn l,s,h=>by simp [smD] at h | k+1,.fn l,s,h=>by simp [smD] at h | 0,.exc l,s,h=>by simp [smD] at h | k+1,.exc l,s,h=>by simp [smD] at h | 0,.scr l,s,h=>by simp [smD] at h | k+1,.scr l,s,h=>by simp [smD] at h
abbrev v1:FT:=tOf (eOp dLe (eOp wW (eOp wW (zc 2) (zc 2)) (zc 2)) (zc 0))
abbrev v2:FT:=tOf (eOp dGt (eOp zd1 (zc 2) (zc 1)) (eC (.int 1)))
theorem vy{ar:FA}{Z:Ev}{s s1:Sto}{n:Nat}(hn:n<=1000)(h:ar Z s=.ok [.int n] s1):qU ar Z s=.ok ((List.range n).map fun k:Nat=>D.int ((k:Nat):Int),[]) s1:=by
 rw [zd6,h,Dd.R.bind_ok];simp only;rw [if_pos ⟨by omega,by omega⟩];simp [yK]
theorem three{ys:List D}{Q:D->Prop}(h:ys.length=3)(hq:∀ y∈ys,Q y):∃ a b c,ys=[a,b,c]/\Q a/\Q b/\Q c:=by match ys,h with | [a,b,c],_=>exact ⟨a,b,c,rfl,hq a (by simp),hq b (by simp),hq c (by simp)⟩
end Pg
namespace Pn
open PySem.Spec L2 Dd Pm Pg
theorem zdb {t v f ln:Option D} {m k:Nat} (s:Sto) (hm:m<=2000) (hk:k<=2000):∀ (ps:List (Int×Int)) (tot:Int) (all:List D) (a b:Option D),(∀ p∈ps,p.1.natAbs<2 ^ m/\p.2.natAbs<2 ^ k)-> ∃ a' b',xi [] all (fun d Z s=>(xN 5 6 d Z s).bind fun Z' s'=>vN Z' s') (ps.map fun p=>D.tup [.int p.1,.int p.2]) [t,v,f,ln,some (.int tot),a,b] s=.ok (.nx [t,v,f,ln,some (.int (tot+(ps.map fun p=>p.1*p.2).sum)),a',b']) s
 | [],tot,all,a,b,_=>⟨a,b,by simp [xi,okG]⟩ | p::ps,tot,all,a,b,h=>by
  obtain ⟨h1,h2⟩:=h p (by simp);obtain ⟨a',b',ih⟩:=zdb (t:=t) (v:=v) (f:=f) (ln:=ln) s hm hk ps (tot+p.1*p.2) all (some (.int p.1)) (some (.int p.2)) fun q hq=>h q (by simp [hq]);refine ⟨a',b',?_⟩;have og:okG [] all s:=by intro p hp;simp at hp
  have mm:=zaI s h1 hm h2 hk;have e:vN [t,v,f,ln,some (.int tot),some (.int p.1),some (.int p.2)] s=.ok (.nx [t,v,f,ln,some (.int (tot+p.1*p.2)),some (.int p.1),some (.int p.2)]) s:=by simp [mm]
  rw [List.map_cons,xi,if_pos og,zag,R.bind_ok];simp only [List.set_cons_succ,List.set_cons_zero];rw [e,R.bind_ok];simp only [List.map_cons,List.sum_cons];rw [<- Int.add_assoc];exact ih
theorem zed(r v:List Int):((List.zip r v).map fun p=>p.1*p.2).sum=dot r v:=by unfold dot;rw [zw]
theorem zdQ{s:Sto}{x y:List D}:(s++[x]).set s.length y=s++[y]:=by simp
abbrev zja:D->Ev->Sto->R Fl:=fun d Z s=>(yn 3 d Z s).bind fun Z' s'=>(zS ww (zS xC xE)) Z' s'
theorem zbI {T v:D} {r vs:List Int} {m k:Nat} {s:Sto} {acc:List Int} (a3 a4 a5 a6:Option D) (hv:z0Q (s++[iL acc]) v=some (iL vs,[])) (hr:∀ x∈r,x.natAbs<2 ^ m) (hvs:∀ x∈vs,x.natAbs<2 ^ k) (hm:m<=2000) (hk:k<=2000) (ha:acc.length<1000): ∃ b4 b5 b6,zja (rD r) [some T,some v,some (.loc s.length),a3,a4,a5,a6] (s++[iL acc])=.ok (.nx [some T,some v,some (.loc s.length),some (rD r),b4,b5,b6]) (s++[iL (acc++[dot r vs])]):=by
 obtain ⟨a',b',lp⟩:=zdb (t:=some T) (v:=some v) (f:=some (.loc s.length)) (ln:=some (rD r)) (m:=m) (k:=k) (s++[iL acc]) hm hk (List.zip r vs) 0 (z11 (iL r) (iL vs)) a5 a6 fun p hp=>⟨hr _ (List.of_mem_zip hp).1,hvs _ (List.of_mem_zip hp).2⟩;refine ⟨some (.int (dot r vs)),a',b',?_⟩;rw [show zja (rD r) [some T,some v,some (.loc s.length),a3,a4,a5,a6] (s++[iL acc])=zS ww (zS xC xE) [some T,some v,some (.loc s.length),some (rD r),a4,a5,a6] (s++[iL acc]) from rfl];have f3:ww [some T,some v,some (.loc s.length),some (rD r),a4,a5,a6] (s++[iL acc])=.ok (.nx [some T,some v,some (.loc s.length),some (rD r),some (.int 0),a5,a6]) (s++[iL acc]):=rfl;have f4:xC [some T,some v,some (.loc s.length),some (rD r),some (.int 0),a5,a6] (s++[iL acc])=.ok (.nx [some T,some v,some (.loc s.length),some (rD r),some (.int (dot r vs)),a',b']) (s++[iL acc]):=by
  rw [xC,ji,z9L];simp only [zm,zE,yf,List.getElem?_cons_zero,List.getElem?_cons_succ,R.bind_ok,hv,show z0Q (s++[iL acc]) (rD r)=some (iL r,[]) from rfl,List.append_nil];rw [z42] at lp ⊢;rw [zed,Int.zero_add] at lp;exact lp
 have f6:xE [some T,some v,some (.loc s.length),some (rD r),some (.int (dot r vs)),a',b'] (s++[iL acc])=.ok (.nx [some T,some v,some (.loc s.length),some (rD r),some (.int (dot r vs)),a',b']) (s++[iL (acc++[dot r vs])]):=by rw [xE,zh6 (L:=s.length) (xs:=acc) (x:=dot r vs) (s2:=s++[iL acc]) rfl rfl (by simp) ha,zdQ]
 rw [zi f3,zi f4,f6]
theorem z7z {T v:D} {vs:List Int} {m k:Nat} {s:Sto} (hv:∀ acc,z0Q (s++[iL acc]) v=some (iL vs,[])) (hvs:∀ x∈vs,x.natAbs<2 ^ k) (hm:m<=2000) (hk:k<=2000):∀ (Rs acc:List (List Int)) (ac:List Int) (all:List D) (a3 a4 a5 a6:Option D),(∀ r∈Rs,∀ x∈r,x.natAbs<2 ^ m)->ac.length+Rs.length<=1000-> ∃ b3 b4 b5 b6,xi [] all zja (Rs.map rD) [some T,some v,some (.loc s.length),a3,a4,a5,a6] (s++[iL ac])=.ok (.nx [some T,some v,some (.loc s.length),b3,b4,b5,b6]) (s++[iL (ac++mv Rs vs)])
 | [],acc,ac,all,a3,a4,a5,a6,_,_=>⟨a3,a4,a5,a6,by simp [xi,okG,mv]⟩ | r::Rs,acc,ac,all,a3,a4,a5,a6,h,hl=>by
  obtain ⟨b4,b5,b6,e⟩:=zbI (T:=T) (v:=v) (r:=r) (vs:=vs) (m:=m) (k:=k) (s:=s) (acc:=ac) a3 a4 a5 a6 (hv ac) (h r (by simp)) hvs hm hk (by simp at hl;omega);obtain ⟨c3,c4,c5,c6,ih⟩:=z7z hv hvs hm hk Rs acc (ac++[dot r vs]) all (some (rD r)) b4 b5 b6 (fun q hq=>h q (by simp [hq])) (by simp at hl ⊢;omega);refine ⟨c3,c4,c5,c6,?_⟩;have og:okG [] all (s++[iL ac]):=by intro p hp;simp at hp
  rw [List.map_cons,xi,if_pos og,e,R.bind_ok];simp only [mv,List.map_cons] at ih ⊢;rw [ih,List.append_assoc,List.singleton_append]
theorem zhI{A:Tb}{v:D}{vs:List Int}{m k:Nat}(s:Sto)(hv:v=.tup (iL vs)\/v=.lst (iL vs))(hA:Bd m A)(hvs:∀ x∈vs,x.natAbs<2 ^ k)(hm:m<=2000)(hk:k<=2000)(hl:A.length<=1000):wo [tD A,v] s=.ok (rD (mv A vs)) s:=by
 have sv:∀ acc,z0Q (s++[iL acc]) v=some (iL vs,[]):=fun acc=>by rcases hv with rfl | rfl<;>rfl
 obtain ⟨b3,b4,b5,b6,lp⟩:=z7z (T:=tD A) sv hvs hm hk A [] [] (A.map rD) none none none none hA (by simp;omega);have f1:ub [some (tD A),some v,none,none,none,none,none] s=.ok (.nx [some (tD A),some v,some (.loc s.length),none,none,none,none]) (s++[iL []]):=by rw [ub,yp,z31,zE,R.bind_ok,if_pos ⟨by decide,rfl⟩];rfl
 have f2:ue [some (tD A),some v,some (.loc s.length),none,none,none,none] (s++[iL []])=.ok (.nx [some (tD A),some v,some (.loc s.length),b3,b4,b5,b6]) (s++[iL (mv A vs)]):=by
  rw [ue,ji,qk (xs:=A.map rD) (vr rfl),R.bind_ok];exact lp
 have f7:vZ [some (tD A),some v,some (.loc s.length),b3,b4,b5,b6] (s++[iL (mv A vs)])=.ok (.rt (rD (mv A vs))) (s++[iL (mv A vs)]):=by
  rw [vZ,yC,xg (x:=.loc s.length) (vr rfl)];have:(s++[iL (mv A vs)])[s.length]? = some (iL (mv A vs)):=by simp
  simp only [zQ,zF,this,R.bind_ok]
 simp only [wo,z3S,Mof,jF];rw [show zv ["_law_table_here","_law_numbers","_law_found","_law_line","_law_total","_law_one","_law_other"] [tD A,v]=[some (tD A),some v,none,none,none,none,none] from rfl];simp only [List.length_cons,List.length_nil,if_true];rw [zi f1,zi f2,f7];simp only [];rw [z7J,List.take_left'];rfl
theorem zfz {B:Tb} {n j:Nat} {f g:FE} {mp:List (Option Nat)} {d:D} {Z:Ev} (s:Sto) (hd:d=.tup (B.map rD)\/d=.lst (B.map rD)) (hb:∀ r∈B,r.length=n) (hj:j<n) (hl:B.length<=1000) (hf:f Z s=.ok d s) (hm:xL mp Z=[some (.int (j:Int)),none]): zn (zV f) mp (yn 1) zR (eOp dIx (zc 1) (zc 0)) Z s=.ok (.lst (iL (B.map fun r=>r.getD j 0))) s:=by
 have hi:zV f Z s=.ok (B.map rD,[]) s:=by rcases hd with rfl | rfl<;>simp [hf]
 rw [comp_map (fi:=zV f) (mp:=mp) (fg:=yn 1) (fe:=eOp dIx (zc 1) (zc 0)) (Z:=Z) (s:=s) rD (fun r=>D.int (r.getD j 0)) (fun r=>[some (.int (j:Int)),some (rD r)]) B hi (fun a _=>by rw [hm];rfl) (fun r hr=>by
    have hkr:j<r.length:=by rw [hb r hr];exact hj
    have:=z81 (xs:=iL r) (j:=j) (d:=.int (r.getD j 0)) s (by simp [List.getElem?_map,List.getElem?_eq_getElem hkr,List.getD]);rw [op2 (x:=rD r) (y:=.int (j:Int)) rfl rfl];exact this) (by simp [cap];omega)];rw [show iL (B.map fun r=>r.getD j 0)=B.map fun r=>D.int (r.getD j 0) by rw [iL,List.map_map];rfl]
theorem zfZ{B:Tb}{n j k:Nat}(hb:∀ r∈B,r.length=n)(hj:j<n)(hB:Bd k B):∀ x∈(B.map fun r=>r.getD j 0),x.natAbs<2 ^ k:=fun x hx=>by
 obtain ⟨r,hr,rfl⟩:=List.mem_map.mp hx;have hkr:j<r.length:=by rw [hb r hr];exact hj
 exact hB r hr _ (by rw [List.getD_eq_getElem?_getD,List.getElem?_eq_getElem hkr];exact List.getElem_mem hkr)
theorem zcb {n:Nat} {A B:Tb} {m k:Nat} {dA dB:D} (s:Sto) (hdA:dA=tD A) (hdB:dB=.tup (B.map rD)) (n4:n<=4) (ha:A.length=n) (hbl:B.length=n) (hb:∀ r∈B,r.length=n) (hA:Bd m A) (hB:Bd k B) (hm:m<=2000) (hk:k<=2000): zn (qU (za (zc 2) zh)) [some 0,some 1,none] (yn 2) zR (zd wo (za (zc 0) (za (zn (zV (zc 1)) [some 2,none] (yn 1) zR (eOp dIx (zc 1) (zc 0))) zh))) [some dA,some dB,some (.int n),none] s=.ok (.lst (((zO B).map (mv A)).map rD)) s:=by
 rw [comp_map (fun j:Nat=>D.int (j:Int)) (fun j=>rD (mv A (B.map fun r=>r.getD j 0))) (fun j=>[some dA,some dB,some (.int (j:Int))]) (List.range n) (vy (by omega) (by simp)) (fun a _=>by simp) (fun j hj=>?_) (by simp [cap];omega)];·rw [zO,hbl,List.map_map,List.map_map];rfl
 ·have hj':j<n:=by simpa using hj
  have ci:=zfz (f:=zc 1) (g:=zc 0) (mp:=[some 2,none]) (Z:=[some dA,some dB,some (.int (j:Int))]) s (.inl hdB) hb hj' (by omega) rfl rfl;rw [call2 (x:=dA) (y:=.lst (iL (B.map fun r=>r.getD j 0))) rfl ci,hdA];exact zhI s (.inr rfl) hA (zfZ hb hj' hB) hm hk (by omega)
theorem zbH {n:Nat} {S:Tb} {dA dB dS:D} (s:Sto) (hdS:dS=.lst (S.map rD)) (n4:n<=4) (lS:S.length=n) (rS:∀ r∈S,r.length=n): zn (qU (za (zc 2) zh)) [some 3,none] (yn 1) zR (zd zQ (za (zn (zV (zc 0)) [some 1,none] (yn 1) zR (eOp dIx (zc 1) (zc 0))) zh)) [some dA,some dB,some (.int n),some dS] s=.ok (.lst ((zO S).map rD)) s:=by
 rw [comp_map (fun j:Nat=>D.int (j:Int)) (fun j=>rD (S.map fun r=>r.getD j 0)) (fun j=>[some dS,some (.int (j:Int))]) (List.range n) (vy (by omega) (by simp)) (fun a _=>by simp) (fun j hj=>?_) (by simp [cap];omega)];·rw [zO,lS,List.map_map];rfl
 ·have hj':j<n:=by simpa using hj
  have ci:=zfz (f:=zc 0) (g:=zc 0) (mp:=[some 1,none]) (Z:=[some dS,some (.int (j:Int))]) s (.inr hdS) rS hj' (by omega) rfl rfl;rw [xg ci];rfl
theorem zfg{n:Nat}{dA dB dS:D}{xs:List D}(s:Sto)(g1:yE [dA] s=.ok (.int n) s) (c2:zn (qU (za (zc 2) zh)) [some 0,some 1,none] (yn 2) zR (zd wo (za (zc 0) (za (zn (zV (zc 1)) [some 2,none] (yn 1) zR (eOp dIx (zc 1) (zc 0))) zh))) [some dA,some dB,some (.int n),none] s=.ok dS s) (c3:zn (qU (za (zc 2) zh)) [some 3,none] (yn 1) zR (zd zQ (za (zn (zV (zc 0)) [some 1,none] (yn 1) zR (eOp dIx (zc 1) (zc 0))) zh)) [some dA,some dB,some (.int n),some dS] s=.ok (.lst xs) s):wM [dA,dB] s=.ok (.tup xs) s:=by
 have st:zv ["_law_one","_law_other","_law_size","_law_sides"] [dA,dB]=[some dA,some dB,none,none]:=rfl;have f1:wg [some dA,some dB,none,none] s=.ok (.nx [some dA,some dB,some (.int n),none]) s:=by rw [wg,yp,xg (x:=dA) (vr rfl),g1];rfl
 have f2:wb [some dA,some dB,some (.int n),none] s=.ok (.nx [some dA,some dB,some (.int n),some dS]) s:=by rw [wb,yp,c2];rfl
 have f3:we [some dA,some dB,some (.int n),some dS] s=.ok (.rt (.tup xs)) s:=by rw [we,yC,xg c3];rfl
 simp only [wM,Mof,ut,st,List.length_cons,List.length_nil,if_true];rw [zi f1,zi f2,f3]
theorem z9o{n:Nat}{A B:Tb}{m k:Nat}(s:Sto)(hn:Sz n)(ha:Tab n A)(hb:Tab n B)(hA:Bd m A)(hB:Bd k B)(hm:m<=2000)(hk:k<=2000):wM [tD A,tD B] s=.ok (tD (qG A B)) s:=by
 have n4:n<=4:=by unfold Sz at hn;omega
 have g1:yE [tD A] s=.ok (.int n) s:=by simp [yE,zF,ha.len]
 exact zfg s g1 (zcb s rfl rfl n4 ha.len hb.len hb.row hA hB hm hk) (zbH (S:=(zO B).map (mv A)) s rfl n4 (by simp [zO,hb.len]) (fun r hr=>by
  obtain ⟨c,_,rfl⟩:=List.mem_map.mp hr;simp [mv,ha.len]))
def mt(a b c d e f:Bool):Nat->Nat->Bool
 | 0,1=>a | 0,2=>b | 0,3=>c | 1,2=>d | 1,3=>e | 2,3=>f | 1,0=>!a | 2,0=>!b | 3,0=>!c | 2,1=>!d | 3,1=>!e | 3,2=>!f | _,_=>false
theorem zeL(p:Int×Int):lexLt p p=false:=by simp [Dd.lexLt]
theorem za0{p q:Int×Int}(h:p≠q):lexLt q p=!lexLt p q:=by
 obtain ⟨a,b⟩:=p;obtain ⟨c,d⟩:=q;simp only [Dd.lexLt];by_cases e:a=c
 ·subst e;have:b≠d:=fun z=>h (by rw [z]);simp only [if_true,this,this.symm,if_false];by_cases l:b<d;·simp [l];omega
  ·simp [l];omega
 ·have e':¬ c=a:=fun z=>e z.symm;simp only [e,e',if_false];by_cases l:a<c;·simp [l];omega
  ·simp [l];omega
theorem zb6{p q:Int×Int}:Dd.lexLt p q=true ↔ p.1<q.1\/(p.1=q.1/\p.2<q.2):=by
 obtain ⟨a,b⟩:=p;obtain ⟨c,d⟩:=q;simp only [Dd.lexLt];by_cases e:a=c
 ·subst e;by_cases e2:b=d
  ·subst e2;simp
  ·simp [e2]
 ·simp [e]
theorem zcC{p q r:Int×Int}(h:Dd.lexLt p q=true)(h':Dd.lexLt q r=true):Dd.lexLt p r=true:=by
 rw [zb6] at *;omega
abbrev pD(p:Int×Int):D:=.tup [.int p.1,.int p.2]
end Pn
namespace Pm
open L2 (maxL minL maxL_ge maxL_mem minL_le minL_mem)
abbrev enP(v:List Int):List (Int×Nat):=v.zipIdx
def zbN(v:List Int):List (Int×Int):=((enP v).filter fun p=>decide (0<p.1)).map fun p=>(p.1,(p.2:Int))
theorem z6z{v:List Int}{p:Int×Nat}:p∈enP v ↔ v[p.2]? = some p.1:=by
 obtain ⟨x,i⟩:=p;exact List.mem_zipIdx_iff_getElem?
theorem vG{v:List Int}{a:Int×Int}:a∈zbN v ↔ ∃ i:Nat,a.2=i/\v[i]? = some a.1/\0<a.1:=by
 unfold zbN;simp only [List.mem_map,List.mem_filter,decide_eq_true_eq];constructor
 ·rintro ⟨p,⟨hp,h0⟩,rfl⟩;exact ⟨p.2,rfl,z6z.mp hp,h0⟩
 ·rintro ⟨i,e,g,h0⟩;exact ⟨(a.1,i),⟨z6z.mpr g,h0⟩,by rw [<- e]⟩
theorem zaf{x:Int}:∀ {v:List Int}{i:Nat},v[i]? = some x->v.idxOf x<=i
 | [],i,h=>by simp at h | y::v,0,h=>by
  simp only [List.getElem?_cons_zero,Option.some.injEq] at h;subst h;simp | y::v,i+1,h=>by
  simp only [List.getElem?_cons_succ] at h;have:=zaf h;rw [List.idxOf_cons];cases y==x<;>simp<;>omega
theorem getD_get{v:List Int}{i:Nat}(h:i<v.length):v[i]? = some (v.getD i 0):=by simp [List.getD_eq_getElem?_getD,h]
theorem z6s{n:Nat}{v:List Int}(h:Lot n v)(a:Int×Int):a∈zbN (others v) ↔ a∈zbN v/\a.2≠((gp v:Nat):Int):=by
 have ne:=h.ne;rw [vG,vG];constructor
 ·rintro ⟨i,e,g,h0⟩;have hi:i<(others v).length:=by
   have:=(List.getElem?_eq_some_iff.mp g).1;exact this
  have g2:=vT ne i;rw [getD_get hi,Option.some.injEq,g2] at g;split at g;·omega
  ·rename_i q;rw [wj ne] at hi;exact ⟨⟨i,e,by rw [getD_get hi,g],h0⟩,by omega⟩
 ·rintro ⟨⟨i,e,g,h0⟩,hg⟩;have hi:i<v.length:=(List.getElem?_eq_some_iff.mp g).1;rw [getD_get hi,Option.some.injEq] at g;refine ⟨i,e,?_,h0⟩;rw [getD_get (by rw [wj ne];exact hi),vT ne i,if_neg (by omega),g]
theorem zaT{n:Nat}{v:List Int}(h:Lot n v):∀ x∈others v,0<=x:=fun x hx=>by
 rw [others_eq h.ne] at hx;rcases List.mem_or_eq_of_mem_set hx with q | q;·exact h.nn x q
 ·omega
theorem zb0{w:List Int}{qs:List (Int×Int)}(hw:∀ x∈w,0<=x)(hn:nz w≠[])(hm:∀ a,a∈qs ↔ a∈zbN w):qs.map Prod.fst≠[]/\maxL (qs.map Prod.fst)=maxL w/\0<maxL w:=by
 have wne:w≠[]:=fun z=>hn (by rw [z];rfl);obtain ⟨y,hy⟩:=List.exists_mem_of_ne_nil _ hn;obtain ⟨y1,y2⟩:=uG.mp hy;have p0:0<maxL w:=by
  have:=hw y y1;have:=maxL_ge (xs:=w) y y1;omega
 have mw:=maxL_mem wne;obtain ⟨i1,i2⟩:=z58 mw;have hin:(maxL w,((w.idxOf (maxL w):Nat):Int))∈qs:=(hm _).mpr (vG.mpr ⟨_,rfl,by rw [getD_get i1,i2],p0⟩);have hin':maxL w∈qs.map Prod.fst:=List.mem_map.mpr ⟨_,hin,rfl⟩;have ne:qs.map Prod.fst≠[]:=List.ne_nil_of_mem hin';refine ⟨ne,?_,p0⟩;have h1:=maxL_ge _ hin';have h2:=maxL_mem ne;obtain ⟨a,ha,e⟩:=List.mem_map.mp h2;obtain ⟨i,_,g,_⟩:=vG.mp ((hm a).mp ha);have h3:=maxL_ge (xs:=w) a.1 (List.mem_of_getElem? g);omega
abbrev P3:=Int×Int×Int
def nP(r:Int)(p:P3):Int:=nrm r p.1 p.2.1 p.2.2
def aP(N:Nat)(p:P3):Prop:=A3 N p.1 p.2.1 p.2.2
end Pm
namespace Pg
open PySem.Spec L2 Dd Pm
abbrev cP(p:P3):D:=cD p.1 p.2.1 p.2.2
theorem z7k{α:Type}{all:List D}{body:D->Sto->R (Option D)}(g:α->D)(P:Nat->Sto->Prop)(Q:D->Prop):∀ (l:List α)(j:Nat)(acc:List D)(s:Sto),(∀ i a,l[i]? = some a->∀ s,P (j+i) s->∃ y s',body (g a) s=.ok (some y) s'/\Q y/\P (j+i+1) s')->acc.length+l.length<=cap->P j s->(∀ y∈acc,Q y)->∃ ys s',uh [] all body (l.map g) acc s=.ok ys s'/\ys.length=acc.length+l.length/\(∀ y∈ys,Q y)/\P (j+l.length) s'
 | [],j,acc,s,_,_,hP,hQ=>⟨acc,s,by simp [uh,okG],by simp,hQ,hP⟩ | x::xs,j,acc,s,hb,hl,hP,hQ=>by
  obtain ⟨y,s1,e,hy,hP1⟩:=hb 0 x (by simp) s hP;obtain ⟨ys,s2,e2,h1,h2,h3⟩:=z7k (all:=all) g P Q xs (j+1) (acc++[y]) s1 (fun i a ha s h=>by
   have:=hb (i+1) a (by simpa using ha) s (by rw [show j+(i+1)=j+1+i by omega];exact h);rw [show j+(i+1)+1=j+1+i+1 by omega] at this;exact this) (by simp at hl ⊢;omega) hP1 (by
   intro z hz;rcases List.mem_append.mp hz with hz | hz;·exact hQ z hz
   ·simp at hz;rw [hz];exact hy);refine ⟨ys,s2,?_,by simp at h1 ⊢;omega,h2,by rw [List.length_cons,show j+(xs.length+1)=j+1+xs.length by omega];exact h3⟩;rw [List.map_cons,uh,if_pos (by intro p hp;simp at hp),e];have hc:acc.length<cap:=by simp at hl;omega
  simp [hc,e2]
theorem zcq {α:Type} {fi:FI} {mp:List (Option Nat)} {fg:FG} {fe:FE} {Z:Ev} {s s0:Sto} (g:α->D) (ev:α->Ev) (P:Nat->Sto->Prop) (Q:D->Prop) (l:List α) (hi:fi Z s=.ok (l.map g,[]) s0) (hg:∀ a∈l,∀ s,fg (g a) (xL mp Z) s=.ok (ev a) s) (he:∀ i a,l[i]? = some a->∀ s,P i s->∃ y s',fe (ev a) s=.ok y s'/\Q y/\P (i+1) s') (hl:l.length<=cap) (hP:P 0 s0): ∃ ys s',z5I fi mp fg zR fe Z s=.ok ys s'/\ys.length=l.length/\(∀ y∈ys,Q y)/\P l.length s':=by
 obtain ⟨ys,s',e,h1,h2,h3⟩:=z7k (all:=l.map g) (body:=fun d s=>(fg d (xL mp Z) s).bind fun Z' s1=>(zR Z' s1).bind fun t s2=>if t=true then (fe Z' s2).bind fun y s3=>.ok (some y) s3 else .ok none s2) g P Q l 0 [] s0 (fun i a ha s hP=>by
  rw [Nat.zero_add] at hP ⊢;obtain ⟨y,s',e,hq,hp⟩:=he i a ha s hP;exact ⟨y,s',by simp [hg a (List.mem_of_getElem? ha) s,e],hq,hp⟩) (by simpa using hl) hP (by simp);refine ⟨ys,s',?_,by simpa using h1,h2,by simpa using h3⟩;rw [jX,hi,Dd.R.bind_ok];exact e
theorem zc2{α:Type}{fi:FI}{mp:List (Option Nat)}{fg:FG}{fe:FE}{Z:Ev}{s s0:Sto}(g:α->D)(ev:α->Ev)(P:Nat->Sto->Prop)(Q:D->Prop)(l:List α) (hi:fi Z s=.ok (l.map g,[]) s0)(hg:∀ a∈l,∀ s,fg (g a) (xL mp Z) s=.ok (ev a) s)(he:∀ i a,l[i]? = some a->∀ s,P i s->∃ y s',fe (ev a) s=.ok y s'/\Q y/\P (i+1) s')(hl:l.length<=cap)(hP:P 0 s0)(hf:∀ y,Q y->y.flat=true): ∃ ys s',z0r fi mp fg zR fe Z s=.ok (.loc s'.length) (s'++[ys])/\ys.length=l.length/\(∀ y∈ys,Q y)/\P l.length s':=by
 obtain ⟨ys,s',e,h1,h2,h3⟩:=zcq g ev P Q l hi hg he hl hP;have fl:∀ zs:List D,(∀ y∈zs,Q y)->D.flat.flats zs=true:=fun zs=>by induction zs with
  | nil=>intro _;rfl | cons z zs ih=>intro hz;simp only [D.flat.flats,Bool.and_eq_true];exact ⟨hf z (hz z (by simp)),ih fun y hy=>hz y (by simp [hy])⟩
 exact ⟨ys,s',by rw [z8g,e,Dd.R.bind_ok,if_pos (fl ys h2)],h1,h2,h3⟩
def IsC(r:Int)(N:Nat)(y:D):Prop:=∃ p:P3,y=cP p/\aP N p/\0<=nP r p
end Pg
namespace Po
open PySem.Spec L2 Dd Pm Pg Pn
theorem z5R:∀ (v:List Int)(k:Nat),z2h k (iL v)=(v.zipIdx k).map fun p=>D.tup [.int ((p.2:Nat):Int),.int p.1]
 | [],k=>rfl | x::v,k=>by simp [z2h,z5R v (k+1)]
theorem zcc{v:List Int}{f:FE}{Z:Ev}{s:Sto}(hf:f Z s=.ok (rD v) s):z8y (za f zh) Z s=.ok ((enP v).map fun p=>D.tup [.int ((p.2:Nat):Int),.int p.1],[]) s:=by simp only [z8y,zm,hf,R.bind_ok,zE,z0Q,z5R]
structure LD(d:D)(v:List Int):Prop where
 eq:d=rD v
 ix:∀ (s:Sto)(i:Nat),i<v.length->dIx d (.int ((i:Nat):Int)) s=.ok (.int (v.getD i 0)) s
 mx:∀ s:Sto,uy [d] s=.ok (.int (maxL v)) s
 len:∀ s:Sto,yE [d] s=.ok (.int v.length) s
theorem LD.of{n:Nat}{v:List Int}(h:Lot n v):LD (rD v) v:=⟨rfl,fun s i hi=>z00 s hi,fun s=>z7p s h.ne,fun s=>by simp [yE,zF]⟩
section
variable {n:Nat}{v:List Int}{d e:D}(h:Lot n v)(D:LD d v)(he:ended v=false){a0 a1 a2 a3 a4 a5 a6 a7 a8 a9 a10 a11 a12:Option Dd.D}(s:Sto)
include h D
end
theorem ziW(r:Rl)(s:Sto):dEq (.str (nmR r)) (.str "least") s=.ok (.bl (decide (r=.le))) s:=by
 rw [Pg.eq_str (z7N r) (by decide +kernel)];congr 2;cases r<;>decide +kernel
theorem zjb(r:Rl)(s:Sto):dEq (.str (nmR r)) (.str "next") s=.ok (.bl (decide (r=.nx))) s:=by
 rw [Pg.eq_str (z7N r) (by decide +kernel)];congr 2;cases r<;>decide +kernel
structure RD(e:D)(r:Rl):Prop where
 eq:e=.str (nmR r)
 le:∀ s:Sto,dEq e (.str "least") s=.ok (.bl (decide (r=.le))) s
 nx:∀ s:Sto,dEq e (.str "next") s=.ok (.bl (decide (r=.nx))) s
 tu:∀ s:Sto,dEq e (.str "turn") s=.ok (.bl (decide (r=.tu))) s
 in_:∀ s:Sto,z9b false e (.tup [.str "next",.str "least"]) s=.ok (.bl (decide (r=.nx\/r=.le))) s
theorem RD.of(r:Rl):RD (.str (nmR r)) r:=⟨rfl,ziW r,zjb r,zay r,fun s=>by cases r<;>rfl⟩
section
variable {n:Nat}{v:List Int}{d e:D}(h:Lot n v){a0 a1 a2 a3 a4 a5 a6 a7 a8 a9 a10 a11 a12:Option Dd.D}(s:Sto){qs:List (Int×Int)}
variable (he:ended v=false)(hm:∀ a,a∈qs ↔ a∈zbN v)(pw:qs.Pairwise fun a b=>Dd.lexLt a b=true)(hl:qs.length<=4)
include h he hm pw
include hl
omit pw hl hm
omit he
end
theorem zar{fa fb:FE}{Z:Ev}{s s2:Sto}{L:Nat}{xs:List D}{x:D}(ha:fa Z s=.ok (.loc L) s)(hb:fb Z s=.ok x s2)(at_:s2[L]? = some xs)(hl:xs.length<1000)(hx:x.flat=true):vH (z8G fa fb) Z s=.ok (.nx Z) (s2.set L (xs++[x])):=by
 rw [z06,z3b,ha,R.bind_ok];simp only;rw [hb,R.bind_ok];simp only [at_];rw [if_pos ⟨hx,by simp [cap];omega⟩];rfl
theorem zab{f g:FS}{t:FT}{Z:Ev}{s:Sto}(h:t Z s=.ok true s):fIf t f g Z s=f Z s:=by rw [z0i,h,R.bind_ok,if_pos rfl]
section
variable {n m:Nat}{v:List Int}{d e:D}(h:LotB n m v)(D:LD d v)(hm:m<=1999){a0 a1 a2 a3 a4 a5 a6 a7 a8 a9 a10 a11 a12:Option Dd.D}(s:Sto){b:Nat}(hb:b<v.length)
include h hm in
theorem zfO{i:Nat}(hi:i<v.length):0<=v.getD i 0/\v.getD i 0<2 ^ 2000:=by
 refine ⟨h.nn _ (Pm.getD_mem hi),Int.lt_of_lt_of_le (h.bd _ (Pm.getD_mem hi)) ?_⟩;have:(2:Nat) ^ m<=2 ^ 2000:=Nat.pow_le_pow_right (by decide) (by omega);have:=Int.ofNat_le.mpr this;simpa using this
include h D hm hb
omit h D hm
theorem z9F(Q:List Int)(hQ:Q.length=v.length)(z:Int):((enP v).map fun p:Int×Nat=>Dd.D.int (p.1-Q.getD p.2 0*z))=iL (List.zipWith (fun x q=>x-q*z) v Q):=by
 apply List.ext_getElem;·simp [enP,hQ]
 ·intro i h1 h2;have hi:i<v.length:=by simpa [enP] using h1
  simp [enP,List.getD_eq_getElem?_getD,hQ,hi]
include h D hm
end
theorem zaN{α:Type}{fi:FI}{mp:List (Option Nat)}{fg:FG}{fe:FE}{Z:Ev}{s:Sto}(g f:α->D)(ev:α->Ev)(l:List α) (hi:fi Z s=.ok (l.map g,[]) s)(hg:∀ a∈l,fg (g a) (xL mp Z) s=.ok (ev a) s)(he:∀ a∈l,fe (ev a) s=.ok (f a) s)(hl:l.length<=cap)(hf:D.flat.flats (l.map f)=true): z0r fi mp fg zR fe Z s=.ok (.loc s.length) (s++[l.map f]):=by
 rw [z8g,jX,hi,R.bind_ok];rw [kM g f (fun _=>true) l [] (by
  intro a ha;simp only [hg a ha,R.bind_ok];simp [he a ha]) (by simpa using hl)];rw [show l.filter (fun _=>true)=l from List.filter_eq_self.mpr (by simp)];simp only [List.nil_append,R.bind_ok];rw [if_pos hf]
theorem z7Q(xs:List D)(k:Nat):cutD xs none (some ((k:Nat):Int))=xs.take k:=by
 have:=z4u xs k [];simpa [dSl] using this
theorem kD(xs:List D)(k:Nat):cutD xs (some ((k:Nat):Int)) none=xs.drop k:=by
 have:=z1z xs k [];simpa [dSl] using this
theorem z1o{line:List Int}{b:Nat}(hb:b<line.length)(q:Int):zJ b line q=line.set b (line.getD b 0+q):=by
 unfold zJ;rw [List.set_eq_take_append_cons_drop,if_pos hb];simp
def zA(n i:Nat):List Int:=(List.range n).map fun c=>if i=c then 1 else 0
theorem zcP{x:D}{xs:List D}{k:Nat}{Z:Ev}{s:Sto}(hx:Z[k]? = some (some x))(hl:Dd.listOf s x=some xs)(h:x=.lst xs\/∃ l,x=.loc l)(hc:xs.length<=4):eOp uF (eSl (zc k) (wn (eC (.int 1))) zZ) (eSl (zc k) zZ (wn (eC (.int 1)))) Z s=.ok (.lst (rot xs)) s:=by
 have d1:dSl x (some 1) none s=.ok (.lst (xs.drop 1)) s:=by
  rcases h with rfl | ⟨l,rfl⟩
  ·have:=kD xs 1;simp only [dSl,hl];exact congrArg (fun z=>R.ok (D.lst z) s) this
  ·have:=kD xs 1;simp only [dSl,hl];exact congrArg (fun z=>R.ok (D.lst z) s) this
 have d2:dSl x none (some 1) s=.ok (.lst (xs.take 1)) s:=by
  rcases h with rfl | ⟨l,rfl⟩
  ·have:=z7Q xs 1;simp only [dSl,hl];exact congrArg (fun z=>R.ok (D.lst z) s) this
  ·have:=z7Q xs 1;simp only [dSl,hl];exact congrArg (fun z=>R.ok (D.lst z) s) this
 rw [xp,z2C,vr hx,R.bind_ok,uD,kw,R.bind_ok];simp only [R.bind_ok,xP];rw [d1,R.bind_ok,z2C,vr hx,R.bind_ok];simp only [R.bind_ok,xP,uD,kw];rw [d2,R.bind_ok,zfG,if_pos (by simp [cap];omega)];rfl
section
variable {n m:Nat}{v:List Int}{d e:D}{r:Rl}(h:LotB n m v)(E:RD e r){a0 a1 a2 a3 a4 a5 a6 a7 a8 a9 a10 a11 a12:Option Dd.D}{b:Nat}(hb:b<v.length){Q:List Int}(hQ:Q.length=v.length)
include h E hb hQ
end
def zjL(r:Rl)(b n:Nat)(Q:List Int)(i:Nat):D:=rD (mvd r (zJ b (zA n i) (Q.getD i 0)))
theorem z9m(r:Rl)(b:Nat)(Q:List Int):tD (z4G r b Q)=.tup ((List.range Q.length).map (zjL r b Q.length Q)):=by
 show D.tup _=D.tup _;congr 1;apply List.ext_getElem;·simp [z4G,one]
 ·intro i h1 h2;have hi:i<Q.length:=by simpa using h2
  simp [z4G,one,zjL,zA,hi]
section
variable {n m:Nat}{v:List Int}{d e:D}{r:Rl}(h:LotB n m v)(E:RD e r){a0 a1 a2 a3 a4 a5 a6 a7 a8 a9 a10 a11 a12:Option Dd.D}{b:Nat}(hb:b<v.length){Q:List Int}(hQ:Q.length=v.length)
include h E hb hQ
end
theorem zbu(w:List Int)(T:Tb):(D.tup [rD w,tD T]).flat=true:=by
 have h1:(rD w).flat=true:=yw _;have h2:(tD T).flat=true:=by
  show D.flat.flats (T.map rD)=true;induction T with
  | nil=>rfl | cons r T ih=>
   show ((rD r).flat&&D.flat.flats (T.map rD))=true;rw [ih,Bool.and_true];exact yw r
 show ((rD w).flat&&((tD T).flat&&D.flat.flats []))=true;rw [h1,h2];rfl
section
variable {n m:Nat}{v:List Int}(r:Rl)(h:LotB n m v)(he:ended v=false)(hm:m<=1999)
include h he hm
end
end Po
namespace Pr
open PySem.Spec L2 Dd Pm Pg Pn Po
theorem z61(x q:Int×Int):z4N [x.1,x.2] [q.1,q.2]=Dd.lexLt x q:=by simp only [z4N,Dd.lexLt]
theorem z23:∀ (qs:List (Int×Int))(q:Int×Int),∃ m,(m=q\/m∈qs)/\z8J [q.1,q.2] (qs.map fun p=>[p.1,p.2])=[m.1,m.2]/\Dd.lexLt q m=false/\∀ x∈qs,Dd.lexLt x m=false
 | [],q=>⟨q,.inl rfl,rfl,zeL q,by simp⟩ | x::qs,q=>by
  by_cases c:Dd.lexLt x q=true
  ·obtain ⟨m,h1,h2,h3,h4⟩:=z23 qs x;refine ⟨m,.inr ?_,?_,?_,fun y hy=>?_⟩
   ·rcases h1 with rfl | h1;·exact .head _
    ·exact .tail _ h1
   ·rw [List.map_cons,z8J,z61,c,if_pos rfl];exact h2
   ·cases z:Dd.lexLt q m with
    | false=>rfl | true=>rw [zcC c z] at h3;cases h3
   ·rcases List.mem_cons.mp hy with rfl | hy;·exact h3
    ·exact h4 y hy
  ·have c':Dd.lexLt x q=false:=by simpa using c
   obtain ⟨m,h1,h2,h3,h4⟩:=z23 qs q;refine ⟨m,h1.imp id fun h=>.tail _ h,?_,h3,fun y hy=>?_⟩;·rw [List.map_cons,z8J,z61,c',if_neg (by decide)];exact h2
   ·rcases List.mem_cons.mp hy with rfl | hy;·cases z:Dd.lexLt y m with
     | false=>rfl | true=>
      exfalso;by_cases e:q=m;·rw [<- e] at z;rw [z] at c';cases c'
      ·have t:=za0 e;rw [h3] at t;rw [zcC z t] at c';cases c'
    ·exact h4 y hy
theorem z6P(qs:List (Int×Int)):z3Q (qs.map pD)=some (qs.map fun p=>[p.1,p.2]):=by
 have:=z1k (qs.map fun p=>[p.1,p.2]);rw [List.map_map] at this;exact this
theorem z70{qs:List (Int×Int)}(hne:qs≠[])(s:Sto):∃ m∈qs,z9t [.lst (qs.map pD)] s=.ok (pD m) s/\∀ x∈qs,Dd.lexLt x m=false:=by cases qs with
 | nil=>exact absurd rfl hne | cons q qs=>
  obtain ⟨m,h1,h2,h3,h4⟩:=z23 qs q;refine ⟨m,?_,?_,fun x hx=>?_⟩
  ·rcases h1 with rfl | h1;·exact .head _
   ·exact .tail _ h1
  ·have tp:=z6P (q::qs);simp only [z9t,zF,Option.bind_some];rw [tp];show R.ok (D.tup ((z8J [q.1,q.2] (qs.map fun p=>[p.1,p.2])).map D.int)) s=_;rw [h2];rfl
  ·rcases List.mem_cons.mp hx with rfl | hx;·exact h3
   ·exact h4 x hx
theorem z9M{w:List Int}{qs:List (Int×Int)}{m:Int×Int}(hw:∀ x∈w,0<=x)(hn:nz w≠[])(hm:∀ a,a∈qs ↔ a∈zbN w)(mq:m∈qs)(ml:∀ x∈qs,Dd.lexLt x m=false):m=(minL (nz w),((lp w:Nat):Int)):=by
 obtain ⟨l1,l2,l3⟩:=z99 hn;have mem:=minL_mem hn;have m0:0<minL (nz w):=by
  have:=hw _ (uG.mp mem).1;omega
 have hin:(minL (nz w),((lp w:Nat):Int))∈zbN w:=vG.mpr ⟨lp w,rfl,by rw [getD_get l1,l2],m0⟩;have lx:=ml _ ((hm _).mpr hin);by_cases e:(minL (nz w),((lp w:Nat):Int))=m;·exact e.symm
 ·exfalso;have t:=za0 e;rw [lx] at t;have t:=zb6.mp t;obtain ⟨i,ei,g,h0⟩:=vG.mp ((hm m).mp mq);have an:m.1∈nz w:=uG.mpr ⟨List.mem_of_getElem? g,by omega⟩;have le1:=minL_le _ an;simp only at t;rcases t with q | ⟨q,q2⟩;·omega
  ·have:w.idxOf m.1<=i:=zaf g;rw [q] at this;have e2:lp w=w.idxOf (minL (nz w)):=rfl;omega
def z0x(v:List Int):List (Int×Int):=((List.range v.length).filter fun i=>decide (i≠gp v)&&decide (0<v.getD i 0)).map fun i=>(v.getD i 0,((i:Nat):Int))
theorem zbt{n:Nat}{v:List Int}(h:Lot n v)(a:Int×Int):a∈z0x v ↔ a∈zbN (others v):=by
 rw [z6s h,vG];unfold z0x;simp only [List.mem_map,List.mem_filter,List.mem_range,Bool.and_eq_true,decide_eq_true_eq];constructor
 ·rintro ⟨i,⟨hi,h1,h2⟩,rfl⟩;exact ⟨⟨i,rfl,getD_get hi,h2⟩,by simp only;omega⟩
 ·rintro ⟨⟨i,e,g,h0⟩,hg⟩;have hi:i<v.length:=(List.getElem?_eq_some_iff.mp g).1;have e1:v.getD i 0=a.1:=by have:=getD_get hi;rw [g] at this;exact (Option.some.inj this).symm
  exact ⟨i,⟨hi,by omega,by omega⟩,Prod.ext e1 e.symm⟩
theorem zdc{ns:List Int}(s:Sto)(h:ns≠[]):z0m [.lst (iL ns)] s=.ok (.int (minL ns)) s:=by
 obtain ⟨a,t,e⟩:=List.exists_cons_of_ne_nil h;rw [e];simp only [z0m,zF,Option.bind_some,iL];rw [wk]
theorem zir(r:Rl)(s:Sto):dEq (.str (nmR r)) (.str "all") s=.ok (.bl (decide (r=.al))) s:=by
 rw [Pg.eq_str (z7N r) (by decide +kernel)];congr 2;cases r<;>decide +kernel
theorem zcS{v:List Int}(h:∀ x∈v,0<=x):(v.filter fun x=>decide (0<x))=nz v:=by
 unfold nz;refine List.filter_congr fun x hx=>?_;have:=h x hx;by_cases q:x=0;·simp [q]
 ·have:0<x:=by omega
  simp [q,this]
theorem zdK(v:List Int):(List.range v.length).drop 1=xM v 0:=by
 unfold xM;cases hn:v.length with
 | zero=>rfl | succ k=>
  rw [List.range_succ_eq_map];simp [List.filter_map];congr 1;symm;exact List.filter_eq_self.mpr fun a _=>by simp
abbrev E7(a0 a1 a2 a3 a4 a5 a6:Option D):Ev:=[a0,a1,a2,a3,a4,a5,a6]
section
variable {n:Nat}{v:List Int}(r:Rl)(h:Lot n v)(he:ended v=false)
include h he
theorem zgC (s:Sto):yT [.str (nmR r),rD v] s=.ok (qT (deal r v)) s:=by
 have l4:=h.le4;have key:∀ d e:D,LD d v->RD e r->(dEq e (.str "all") s=.ok (.bl (decide (r=.al))) s)->yT [e,d] s=.ok (qT (deal r v)) s:=fun d e D E al=>by
  have st:zv ["_law_rule","_law_lot_here","_law_places","_law_by","_law_top","_law_others","_law_greatest"] [e,d]=E7 (some e) (some d) none none none none none:=rfl;have f1:vx (E7 (some e) (some d) none none none none none) s=.ok (.nx (E7 (some e) (some d) (some (.lst (nL (List.range v.length)))) none none none none)) s:=by
   rw [vx,yp,zfU,zm,xg (x:=d) (vr rfl),D.len,R.bind_ok,zE];simp only [R.bind_ok];rw [if_pos ⟨by omega,by omega⟩];rfl
  have ot:=E.tu s;have ol:=E.le s;simp only [yT,Mof,jw,st,List.length_cons,List.length_nil,if_true];rw [zi f1];have no2:r≠.tu->xl (E7 (some e) (some d) (some (.lst (nL (List.range v.length)))) none none none none) s=.ok (.nx (E7 (some e) (some d) (some (.lst (nL (List.range v.length)))) none none none none)) s:=fun q=>by
   rw [xl,zeh (by rw [qu,op2 (x:=e) (y:=.str "turn") (vr rfl) rfl,ot];simp [q])];rfl
  have no4:r≠.al->xj (E7 (some e) (some d) (some (.lst (nL (List.range v.length)))) none none none none) s=.ok (.nx (E7 (some e) (some d) (some (.lst (nL (List.range v.length)))) none none none none)) s:=fun q=>by
   rw [xj,zeh (by rw [qu,op2 (x:=e) (y:=.str "all") (vr rfl) rfl,al];simp [q])];rfl
  have f7:vt (E7 (some e) (some d) (some (.lst (nL (List.range v.length)))) none none none none) s=.ok (.nx (E7 (some e) (some d) (some (.lst (nL (List.range v.length)))) none (some (.int ((gp v:Nat):Int))) none none)) s:=by
   rw [vt,yp,z5o (v:=v) (k:=maxL v) (by rw [vr (d:=d) rfl,D.eq]) (by rw [xg (x:=d) (vr rfl),D.mx]) (maxL_mem h.ne)];rfl
  have f8:vb (E7 (some e) (some d) (some (.lst (nL (List.range v.length)))) none (some (.int ((gp v:Nat):Int))) none none) s=.ok (.nx (E7 (some e) (some d) (some (.lst (nL (List.range v.length)))) none (some (.int ((gp v:Nat):Int))) (some (.lst ((z0x v).map pD))) none)) s:=by
   have c:=vJ (s:=s) (mp:=[some 1,some 4,none]) (fg:=yn 2) (ft:=zg2 (tOf (eOp dNe (zc 2) (zc 1))) (tOf (eOp dGt (eOp dIx (zc 0) (zc 2)) (eC (.int 0))))) (fe:=jE (za (eOp dIx (zc 0) (zc 2)) (za (zc 2) zh))) (fun i:Nat=>Dd.D.int ((i:Nat):Int)) (fun i:Nat=>pD (v.getD i 0,((i:Nat):Int))) (fun i=>decide (i≠gp v)&&decide (0<v.getD i 0)) (fun i=>[some d,some (.int ((gp v:Nat):Int)),some (.int ((i:Nat):Int))]) (List.range v.length) (xU (vr (Z:=E7 (some e) (some d) (some (.lst (nL (List.range v.length)))) none (some (.int ((gp v:Nat):Int))) none none) (i:=2) rfl)) (fun i _=>by simp) (fun i hi=>by
     have hi':i<v.length:=by simpa using hi
     have e1:=D.ix s i hi';have e3:decide (((i:Nat):Int)≠((gp v:Nat):Int))=decide (i≠gp v):=by
      by_cases q:i=gp v;·simp [q]
      ·have:¬ ((i:Nat):Int)=((gp v:Nat):Int):=by omega
       simp [q,this]
     simp only [zd7,qu,xp,yf,kw,List.getElem?_cons_zero,List.getElem?_cons_succ,R.bind_ok,e1,ze3,zbU,e3];cases decide (i≠gp v)<;>simp) (fun i hi _=>by
     have hi':i<v.length:=by simpa using hi
     have e1:=D.ix s i hi';simp only [qL,zm,zE,xp,yf,List.getElem?_cons_zero,List.getElem?_cons_succ,R.bind_ok,e1];rw [if_pos (by simp [cap])]) (by simp [cap];omega);rw [vb,yp,c,show (List.map (fun i:Nat=>pD (v.getD i 0,((i:Nat):Int))) ((List.range v.length).filter fun i=>decide (i≠gp v)&&decide (0<v.getD i 0)))=(z0x v).map pD by simp [z0x,Function.comp_def]];rfl
  have on:=kQ h he;have onn:=zaT h;have mo:=zbt h;have one:z0x v≠[]:=fun z=>by
   have:=(zb0 onn on mo).1;rw [z] at this;exact this rfl
  have ol4:(z0x v).length<=4:=by
   unfold z0x;rw [List.length_map];have:=List.length_filter_le (fun i=>decide (i≠gp v)&&decide (0<v.getD i 0)) (List.range v.length);rw [List.length_range] at this;omega
  have ret:∀ (b:Nat) (f:FE) (a6:Option Dd.D),f (E7 (some e) (some d) (some (.lst (nL (List.range v.length)))) none (some (.int ((gp v:Nat):Int))) (some (.lst ((z0x v).map pD))) a6) s=.ok (.int ((b:Nat):Int)) s-> xH (jE (za f (za (z8h (za (zc 4) zh)) zh))) (E7 (some e) (some d) (some (.lst (nL (List.range v.length)))) none (some (.int ((gp v:Nat):Int))) (some (.lst ((z0x v).map pD))) a6) s=.ok (.rt (qT (b,[gp v]))) s:=fun b f a6 hf=>by
   rw [yC,qL,zm,hf,R.bind_ok,zm,z5m,zm,vr (d:=.int ((gp v:Nat):Int)) rfl,R.bind_ok,zE];simp only [R.bind_ok];rw [if_pos (by simp [cap])];simp only [R.bind_ok,zE];rw [if_pos (by simp [cap])];rfl
  cases hr:r with
  | tu=>
   subst hr;have c:=vJ (s:=s) (mp:=[some 1,none]) (fg:=yn 1) (ft:=tOf (eOp dGt (eOp dIx (zc 0) (eC (.int 0))) (eC (.int 0)))) (fe:=zc 1) (fun i:Nat=>Dd.D.int ((i:Nat):Int)) (fun i:Nat=>Dd.D.int ((i:Nat):Int)) (fun i=>decide (0<v.getD 0 0)) (fun i=>[some d,some (.int ((i:Nat):Int))]) (xM v 0) (fi:=zV (eSl (zc 2) (wn (eC (.int 1))) zZ)) (Z:=E7 (some e) (some d) (some (.lst (nL (List.range v.length)))) none none none none) (xU (by
     have e2:dSl (.lst (nL (List.range v.length))) (some 1) none s=.ok (.lst ((nL (List.range v.length)).drop 1)) s:=by
      have:=kD (nL (List.range v.length)) 1;simp only [dSl,Dd.listOf];exact congrArg (fun z=>R.ok (Dd.D.lst z) s) this
     rw [z2C,vr (d:=.lst (nL (List.range v.length))) rfl,R.bind_ok,uD,kw];simp only [R.bind_ok,xP];rw [e2,<- zdK,<- List.map_drop])) (fun i _=>by simp) (fun i hi=>by
     have e1:=D.ix s 0 (by omega);rw [show ((0:Nat):Int)=0 from rfl] at e1;simp only [qu,xp,yf,kw,List.getElem?_cons_zero,List.getElem?_cons_succ,R.bind_ok,e1,ze3]) (fun i hi _=>by simp) (by
     have:(xM v 0).length<=v.length:=by unfold xM;exact Nat.le_trans (List.length_filter_le _ _) (by simp)
     simp [cap];omega);have ee:(List.map (fun i:Nat=>Dd.D.int ((i:Nat):Int)) ((xM v 0).filter fun i=>decide (0<v.getD 0 0)))=nL (deal .tu v).2:=by
    show _=nL (if v.getD 0 0=0 then [] else xM v 0);have:=Pm.wK h.nn 0;by_cases q:v.getD 0 0=0;·rw [if_pos q,List.filter_eq_nil_iff.mpr (fun _ _=>by rw [q];decide)]
    ·have q0:0<v.getD 0 0:=by omega
     rw [if_neg q,List.filter_eq_self.mpr (fun _ _=>decide_eq_true q0)]
   rw [ee] at c;have g2:xl (E7 (some e) (some d) (some (.lst (nL (List.range v.length)))) none none none none) s=.ok (.rt (qT (deal .tu v))) s:=by
    rw [xl,zab (by rw [qu,op2 (x:=e) (y:=.str "turn") (vr rfl) rfl,ot];simp),qN,yC,qL,zm,kw,R.bind_ok,zm,c];simp only [R.bind_ok,zE];rw [if_pos (by simp [cap])];rfl
   rw [z5O g2] | al=>
   subst hr;have c:=vJ (s:=s) (mp:=[none]) (fg:=yn 0) (ft:=tOf (eOp dGt (zc 0) (eC (.int 0)))) (fe:=zc 0) (fun x:Int=>Dd.D.int x) (fun x:Int=>Dd.D.int x) (fun x=>decide (0<x)) (fun x=>[some (.int x)]) v (fi:=zV (zc 1)) (Z:=E7 (some e) (some d) (some (.lst (nL (List.range v.length)))) none none none none) (qk (by rw [vr (d:=d) rfl,D.eq])) (fun i _=>by simp) (fun x _=>by simp only [qu,xp,yf,kw,List.getElem?_cons_zero,R.bind_ok,ze3]) (fun i hi _=>by simp) (by simp [cap];omega);rw [zcS h.nn] at c;have g5:vc (E7 (some e) (some d) (some (.lst (nL (List.range v.length)))) none none none none) s=.ok (.nx (E7 (some e) (some d) (some (.lst (nL (List.range v.length)))) (some (.int ((lp v:Nat):Int))) none none none)) s:=by
    rw [vc,yp,z5o (v:=v) (k:=minL (nz v)) (by rw [vr (d:=d) rfl,D.eq]) (by rw [xg c];exact zdc s h.nzne) (uG.mp (minL_mem h.nzne)).1];rfl
   have c6:=vJ (s:=s) (mp:=[some 3,none]) (fg:=yn 1) (ft:=tOf (eOp dNe (zc 1) (zc 0))) (fe:=zc 1) (fun i:Nat=>Dd.D.int ((i:Nat):Int)) (fun i:Nat=>Dd.D.int ((i:Nat):Int)) (fun i=>decide (i≠lp v)) (fun i=>[some (.int ((lp v:Nat):Int)),some (.int ((i:Nat):Int))]) (List.range v.length) (fi:=zV (zc 2)) (Z:=E7 (some e) (some d) (some (.lst (nL (List.range v.length)))) (some (.int ((lp v:Nat):Int))) none none none) (xU (vr rfl)) (fun i _=>by simp) (fun i hi=>by
     have e3:decide (((i:Nat):Int)≠((lp v:Nat):Int))=decide (i≠lp v):=by
      by_cases q:i=lp v;·simp [q]
      ·have:¬ ((i:Nat):Int)=((lp v:Nat):Int):=by omega
       simp [q,this]
     simp only [qu,xp,yf,kw,List.getElem?_cons_zero,List.getElem?_cons_succ,R.bind_ok,zbU,e3]) (fun i hi _=>by simp) (by simp [cap];omega);have g4:xj (E7 (some e) (some d) (some (.lst (nL (List.range v.length)))) none none none none) s=.ok (.rt (qT (deal .al v))) s:=by
    rw [xj,zab (by rw [qu,op2 (x:=e) (y:=.str "all") (vr rfl) rfl,al];simp),zi g5,qR,yC,qL,zm,vr (d:=.int ((lp v:Nat):Int)) rfl,R.bind_ok,zm,c6];simp only [R.bind_ok,zE];rw [if_pos (by simp [cap])];rfl
   rw [zi (no2 (by decide)),z5O g4] | le=>
   subst hr;obtain ⟨m,m1,m2,m3⟩:=z70 one s;have em:=z9M onn on mo m1 m3;have g9:xq (E7 (some e) (some d) (some (.lst (nL (List.range v.length)))) none (some (.int ((gp v:Nat):Int))) (some (.lst ((z0x v).map pD))) none) s=.ok (.rt (qT (deal .le v))) s:=by
    rw [xq,zab (by rw [qu,op2 (x:=e) (y:=.str "least") (vr rfl) rfl,ol];simp),uT];refine ret (lp (others v)) _ none ?_;rw [op2 (x:=pD m) (y:=.int 1) (by rw [xg (x:=.lst ((z0x v).map pD)) (vr rfl)];exact m2) rfl,em];exact z00 (r:=[minL (nz (others v)),((lp (others v):Nat):Int)]) (j:=1) s (by simp)
   rw [zi (no2 (by decide)),zi (no4 (by decide)),zi f7,zi f8,z5O g9] | nx=>
   subst hr;obtain ⟨ne,emx,pos⟩:=zb0 onn on mo;have no9:xq (E7 (some e) (some d) (some (.lst (nL (List.range v.length)))) none (some (.int ((gp v:Nat):Int))) (some (.lst ((z0x v).map pD))) none) s=.ok (.nx (E7 (some e) (some d) (some (.lst (nL (List.range v.length)))) none (some (.int ((gp v:Nat):Int))) (some (.lst ((z0x v).map pD))) none)) s:=by
    rw [xq,zeh (by rw [qu,op2 (x:=e) (y:=.str "least") (vr rfl) rfl,ol];simp)];rfl
   have c11:=comp_map (s:=s) (mp:=[none,none]) (fg:=xN 0 1) (fe:=zc 0) pD (fun a:Int×Int=>Dd.D.int a.1) (fun a=>[some (.int a.1),some (.int a.2)]) (z0x v) (fi:=zV (zc 5)) (Z:=E7 (some e) (some d) (some (.lst (nL (List.range v.length)))) none (some (.int ((gp v:Nat):Int))) (some (.lst ((z0x v).map pD))) none) (xU (vr rfl)) (fun a _=>by simp) (fun a _=>by simp) (by simp [cap];omega);have em1:((z0x v).map fun a=>Dd.D.int a.1)=iL ((z0x v).map Prod.fst):=by simp [Function.comp_def]
   rw [em1] at c11;have g11:wN (E7 (some e) (some d) (some (.lst (nL (List.range v.length)))) none (some (.int ((gp v:Nat):Int))) (some (.lst ((z0x v).map pD))) none) s=.ok (.nx (E7 (some e) (some d) (some (.lst (nL (List.range v.length)))) none (some (.int ((gp v:Nat):Int))) (some (.lst ((z0x v).map pD))) (some (.int (maxL (others v)))))) s:=by
    rw [wN,yp,xg c11,zfC s ne,emx];rfl
   have c12:=vJ (s:=s) (mp:=[some 6,none,none]) (fg:=xN 1 2) (ft:=tOf (eOp dEq (zc 1) (zc 0))) (fe:=zc 2) pD (fun a:Int×Int=>Dd.D.int a.2) (fun a=>decide (a.1=maxL (others v))) (fun a=>[some (.int (maxL (others v))),some (.int a.1),some (.int a.2)]) (z0x v) (fi:=zV (zc 5)) (Z:=E7 (some e) (some d) (some (.lst (nL (List.range v.length)))) none (some (.int ((gp v:Nat):Int))) (some (.lst ((z0x v).map pD))) (some (.int (maxL (others v))))) (xU (vr rfl)) (fun a _=>by simp) (fun a _=>by simp only [qu,xp,yf,kw,List.getElem?_cons_zero,List.getElem?_cons_succ,R.bind_ok,z5g]) (fun a _ _=>by simp) (by simp [cap];omega);have em2:(((z0x v).filter fun a=>decide (a.1=maxL (others v))).map fun a=>Dd.D.int a.2)=iL (((z0x v).filter fun a=>decide (a.1=maxL (others v))).map Prod.snd):=by simp [Function.comp_def]
   rw [em2] at c12;have wne:others v≠[]:=fun z=>on (by rw [z];rfl);have mw:=maxL_mem wne;obtain ⟨i1,i2⟩:=z58 mw;have hin:(((others v).idxOf (maxL (others v)):Nat):Int)∈((z0x v).filter fun a=>decide (a.1=maxL (others v))).map Prod.snd:= List.mem_map.mpr ⟨(maxL (others v),(((others v).idxOf (maxL (others v)):Nat):Int)),List.mem_filter.mpr ⟨(mo _).mpr (vG.mpr ⟨_,rfl,by rw [getD_get i1,i2],pos⟩),by simp⟩,rfl⟩;have ne2:=List.ne_nil_of_mem hin;have emn:minL (((z0x v).filter fun a=>decide (a.1=maxL (others v))).map Prod.snd)=(((others v).idxOf (maxL (others v)):Nat):Int):=by
    have h1:=minL_le _ hin;obtain ⟨a,ha,ea⟩:=List.mem_map.mp (minL_mem ne2);obtain ⟨ha1,ha2⟩:=List.mem_filter.mp ha;obtain ⟨i,ei,g,_⟩:=vG.mp ((mo a).mp ha1);have:=zaf g;rw [show a.1=maxL (others v) by simpa using ha2] at this;omega
   rw [zi (no2 (by decide)),zi (no4 (by decide)),zi f7,zi f8,zi no9,zi g11,uM,ret ((others v).idxOf (maxL (others v))) _ _ (by rw [xg c12,zdc s ne2,emn])];rfl
 exact key _ _ (LD.of h) (RD.of r) (zir r s)
end
end Pr
namespace Pn
open PySem.Spec L2 Dd Pm Pg
end Pn
namespace Po
open PySem.Spec L2 Dd Pm Pg Pn
def only(v:List Int)(k:Nat):List Int:=(enP v).map fun p=>p.1*(if p.2=k then 1 else 0)
open PySem.Builtin.Str
end Po
namespace Po
open PySem.Spec L2 Dd Pm Pg Pn
theorem zaE{α:Type}{G:List (Nat×List D)}{all:List D}{body:D->Sto->R (Option D)}{s:Sto}(og:okG G all s)(g f:α->D):∀ (l:List α)(acc:List D),(∀ x∈l,body (g x) s=.ok (some (f x)) s)->acc.length+l.length<=cap->uh G all body (l.map g) acc s=.ok (acc++l.map f) s
 | [],acc,_,_=>by simp [uh,og] | x::xs,acc,hb,hl=>by
  have ih:=zaE (all:=all) og g f xs (acc++[f x]) (fun y hy=>hb y (by simp [hy])) (by simp at hl ⊢;omega);have hc:acc.length<cap:=by simp at hl;omega
  rw [List.map_cons,uh,if_pos og,hb x (by simp),R.bind_ok];simp only [if_pos hc,ih];simp
theorem z1q{α:Type}{G:List (Nat×List D)}{fi:FI}{mp:List (Option Nat)}{fg:FG}{fe:FE}{Z:Ev}{s:Sto}(g f:α->D)(ev:α->Ev)(l:List α) (hi:fi Z s=.ok (l.map g,G) s)(og:okG G (l.map g) s)(hg:∀ a∈l,fg (g a) (xL mp Z) s=.ok (ev a) s)(he:∀ a∈l,fe (ev a) s=.ok (f a) s)(hl:l.length<=cap): zn fi mp fg zR fe Z s=.ok (.lst (l.map f)) s:=by
 rw [kZ,jX,hi,R.bind_ok];rw [zaE og g f l [] (by
  intro a ha;simp only [hg a ha,R.bind_ok];show (R.ok true s).bind _=_;simp [he a ha]) (by simpa using hl)];rfl
end Po
namespace Pr
open PySem.Spec L2 Dd Pm Pg Pn Po
abbrev E8(a0 a1 a2 a3 a4 a5 a6 a7:Option D):Ev:=[a0,a1,a2,a3,a4,a5,a6,a7]
theorem zfR{k j:Nat}{e d:D}{b p:Int}{g l:List D}{x:Option D}(he:e.und k=true)(hd:d.und k=true)(hg:D.flat.flats g=true)(hl:D.flat.flats l=true)(hj:j<k): z5L k 7 (E8 (some e) (some d) (some (.int b)) (some (.lst g)) (some (.lst l)) (some (.loc j)) (some (.int p)) x)=true:=by
 have h1:(D.lst g).und k=true:=hg;have h2:(D.lst l).und k=true:=hl;have h3:(D.loc j).und k=true:=by simpa [D.und] using hj
 have h4:∀ i:Int,(D.int i).und k=true:=fun i=>rfl;simp [z5L,List.range,List.range.loop,he,hd,h1,h2,h3,h4]
theorem z84:∀ l:List Nat,D.flat.flats (nL l)=true
 | []=>rfl | a::l=>by
  have:=z84 l;simp only [nL] at this;simp [nL,D.flat.flats,D.flat,this]
section
variable {n m:Nat}{v:List Int}{d e:D}{r:Rl}(h:LotB n m v)(E:RD e r)(D:LD d v){b:Nat}{g:List Nat}(hb:b<v.length)(hg:b∉g)(hp:g=[]\/0<v.getD b 0)(hm:m<=1999)
include h D hb hg hp
theorem z9O (s:Sto) {a0 a4 a5 a6 a7:Option Dd.D}:vf (E8 a0 (some d) (some (.int ((b:Nat):Int))) (some (.lst (nL g))) a4 a5 a6 a7) s=.ok (.nx (E8 a0 (some d) (some (.int ((b:Nat):Int))) (some (.lst (nL g))) (some (.lst (iL (left v (zq v (b,g)) b)))) a5 a6 a7)) s:=by
 have l4:=h.toLot.le4;have ixb:=D.ix s b hb;have c:=comp_map (s:=s) (mp:=[some 3,some 1,some 2,none,none]) (fg:=xN 3 4) (fe:=eIf (tOf (eOp (z9b false) (zc 3) (zc 0))) (eOp z8P (zc 4) (eOp dIx (zc 1) (zc 2))) (zc 4)) (fun p:Int×Nat=>Dd.D.tup [.int ((p.2:Nat):Int),.int p.1]) (fun p=>Dd.D.int (p.1-(zq v (b,g)).getD p.2 0*v.getD b 0)) (fun p=>[some (.lst (nL g)),some d,some (.int ((b:Nat):Int)),some (.int ((p.2:Nat):Int)),some (.int p.1)]) (enP v) (zcc (f:=zc 1) (Z:=E8 a0 (some d) (some (.int ((b:Nat):Int))) (some (.lst (nL g))) a4 a5 a6 a7) (by rw [<- D.eq];exact vr rfl)) (fun p _=>by simp) (fun p hpp=>by
   have gt:=z6z.mp hpp;have hi:p.2<v.length:=(List.getElem?_eq_some_iff.mp gt).1;have e0:v.getD p.2 0=p.1:=by have:=getD_get hi;rw [gt] at this;exact (Option.some.inj this).symm
   have eq:(zq v (b,g)).getD p.2 0=if p.2∈g then v.getD p.2 0 / v.getD b 0 else 0:=by simp [zq,List.getD_eq_getElem?_getD,hi]
   rw [ze1,z1I (by rw [op2 (x:=.int ((p.2:Nat):Int)) (y:=.lst (nL g)) (vr rfl) (vr rfl)];exact zdt p.2 g s),R.bind_ok];by_cases q:p.2∈g
   ·have p0:0<v.getD b 0:=hp.resolve_left fun z=>by rw [z] at q;cases q
    rw [decide_eq_true q,if_pos rfl,xp,vr (d:=.int p.1) rfl,R.bind_ok,op2 (x:=d) (y:=.int ((b:Nat):Int)) (vr rfl) (vr rfl),ixb,R.bind_ok,zcy,if_pos p0,eq,if_pos q,e0,Int.emod_def,Int.mul_comm]
   ·rw [decide_eq_false q,if_neg (by decide),vr (d:=.int p.1) rfl,eq,if_neg q,Int.zero_mul,Int.sub_zero]) (by simp [enP,cap];omega);rw [z9F hb (zq v (b,g)) (xn _ _)] at c;rw [vf,yp,c];rfl
theorem zhX{i:Nat}(hi:i<v.length):zJ b (zA v.length i) ((zq v (b,g)).getD i 0)=if i∈g then (zA v.length i).set b (v.getD i 0 / v.getD b 0) else zA v.length i:=by
 have ln:(zA v.length i).length=v.length:=by simp [zA]
 rw [z1o (by rw [ln];exact hb)];have eq:(zq v (b,g)).getD i 0=if i∈g then v.getD i 0 / v.getD b 0 else 0:=by simp [zq,List.getD_eq_getElem?_getD,hi]
 rw [eq];by_cases q:i∈g
 ·have ne:i≠b:=fun z=>hg (z ▸ q);have z:(zA v.length i).getD b 0=0:=by simp [zA,List.getD_eq_getElem?_getD,hb,ne]
  rw [if_pos q,if_pos q,z,Int.zero_add]
 ·rw [if_neg q,if_neg q,Int.add_zero];have:(zA v.length i).getD b 0=(zA v.length i)[b]'(by rw [ln];exact hb):=by simp [List.getD_eq_getElem?_getD,ln,hb]
  rw [this,List.set_getElem_self]
include hm E
theorem zg0 (S:Sto) {i:Nat} (hi:i<v.length) (A:List Dd.D) (hA:A.length<1000) (w:List Int) (p7:Option Dd.D): (zS (z6v 7 (zS yG yH)) xV) (E8 (some e) (some d) (some (.int ((b:Nat):Int))) (some (.lst (nL g))) (some (.lst (iL w))) (some (.loc S.length)) (some (.int ((i:Nat):Int))) p7) (S++[A]) = .ok (.nx (E8 (some e) (some d) (some (.int ((b:Nat):Int))) (some (.lst (nL g))) (some (.lst (iL w))) (some (.loc S.length)) (some (.int ((i:Nat):Int))) (some (.lst (iL (zJ b (zA v.length i) ((zq v (b,g)).getD i 0))))))) (S++[A++[.lst (iL (zJ b (zA v.length i) ((zq v (b,g)).getD i 0)))]]):=by
 have l4:=h.toLot.le4;have ln:(zA v.length i).length=v.length:=by simp [zA]
 have em:((List.range v.length).map fun c:Nat=>Dd.D.int (if i=c then 1 else 0))=iL (zA v.length i):=by simp [zA,Function.comp_def]
 have c:=zaN (s:=S++[A]) (mp:=[some 6,none]) (fg:=yn 1) (fe:=zd zai (za (eOp dEq (zc 0) (zc 1)) zh)) (fun c:Nat=>Dd.D.int ((c:Nat):Int)) (fun c:Nat=>Dd.D.int (if i=c then 1 else 0)) (fun c=>[some (.int ((i:Nat):Int)),some (.int ((c:Nat):Int))]) (List.range v.length) (vy (n:=v.length) (Z:=E8 (some e) (some d) (some (.int ((b:Nat):Int))) (some (.lst (nL g))) (some (.lst (iL w))) (some (.loc S.length)) (some (.int ((i:Nat):Int))) p7) (ar:=za (zd yE (za (zc 1) zh)) zh) (by omega) (by rw [zm,xg (x:=d) (vr rfl),D.len,R.bind_ok,zE,R.bind_ok])) (fun c _=>by simp) (fun c _=>by
   rw [xg (x:=.bl (decide (((i:Nat):Int)=((c:Nat):Int)))) (by simp)];by_cases q:i=c;·simp [zai,q]
   ·have:¬ ((i:Nat):Int)=((c:Nat):Int):=by omega
    simp [zai,q,this]) (by simp [cap];omega) (by rw [em];exact yw _);rw [em] at c;have f5:yG (E8 (some e) (some d) (some (.int ((b:Nat):Int))) (some (.lst (nL g))) (some (.lst (iL w))) (some (.loc S.length)) (some (.int ((i:Nat):Int))) p7) (S++[A]) = .ok (.nx (E8 (some e) (some d) (some (.int ((b:Nat):Int))) (some (.lst (nL g))) (some (.lst (iL w))) (some (.loc S.length)) (some (.int ((i:Nat):Int))) (some (.loc (S++[A]).length)))) ((S++[A])++[iL (zA v.length i)]):=by
  rw [yG,yp,c];rfl
 have aT:((S++[A])++[iL (zA v.length i)])[(S++[A]).length]? = some (iL (zA v.length i)):=by simp
 have B:=zfO h hm hb;have f6:yH (E8 (some e) (some d) (some (.int ((b:Nat):Int))) (some (.lst (nL g))) (some (.lst (iL w))) (some (.loc S.length)) (some (.int ((i:Nat):Int))) (some (.loc (S++[A]).length))) ((S++[A])++[iL (zA v.length i)]) = .ok (.nx (E8 (some e) (some d) (some (.int ((b:Nat):Int))) (some (.lst (nL g))) (some (.lst (iL w))) (some (.loc S.length)) (some (.int ((i:Nat):Int))) (some (.loc (S++[A]).length)))) ((S++[A])++[iL (zJ b (zA v.length i) ((zq v (b,g)).getD i 0))]):=by
  rw [zhX h D hb hg hp hi,yH];have ti:tOf (eOp (z9b false) (zc 6) (zc 3)) (E8 (some e) (some d) (some (.int ((b:Nat):Int))) (some (.lst (nL g))) (some (.lst (iL w))) (some (.loc S.length)) (some (.int ((i:Nat):Int))) (some (.loc (S++[A]).length))) ((S++[A])++[iL (zA v.length i)])=.ok (decide (i∈g)) ((S++[A])++[iL (zA v.length i)]):= z1I (by rw [op2 (x:=.int ((i:Nat):Int)) (y:=.lst (nL g)) (vr rfl) (vr rfl)];exact zdt i g _);by_cases q:i∈g
  ·have p0:0<v.getD b 0:=hp.resolve_left fun z=>by rw [z] at q;cases q
   rw [decide_eq_true q] at ti;have hB:(v.getD b 0).natAbs<BIG:=by
    have:(v.getD b 0).natAbs<2 ^ 2000:=by have:=B.1;have:=B.2;omega
    exact Nat.lt_of_lt_of_le this (Nat.pow_le_pow_right (by decide) (by decide))
   have i1:=D.ix ((S++[A])++[iL (zA v.length i)]) i hi;have i2:=D.ix ((S++[A])++[iL (zA v.length i)]) b hb;rw [zab ti,if_pos q,qQ,z4F (s1:=(S++[A])++[iL (zA v.length i)]) (s2:=(S++[A])++[iL (zA v.length i)]) (L:=(S++[A]).length) (xs:=zA v.length i) (i:=((b:Nat):Int)) (x:=v.getD i 0 / v.getD b 0) (by rw [xp,op2 (x:=d) (y:=.int ((i:Nat):Int)) (vr rfl) (vr rfl),i1,R.bind_ok,op2 (x:=d) (y:=.int ((b:Nat):Int)) (vr rfl) (vr rfl),i2,R.bind_ok,z71,if_pos ⟨p0,hB⟩]) (vr rfl) (vr rfl) aT (by omega) (by rw [ln];omega)];rw [List.set_append_right _ _ (by omega)];simp
  ·rw [decide_eq_false q] at ti;rw [zeh ti,if_neg q];rfl
 have lt:(zJ b (zA v.length i) ((zq v (b,g)).getD i 0)).length=v.length:=by rw [z1o (by rw [ln];exact hb)];simp [ln]
 generalize hW:zJ b (zA v.length i) ((zq v (b,g)).getD i 0)=W at *;have de:d.und (S++[A]).length=true:=by rw [D.eq];exact yw _
 have ee:e.und (S++[A]).length=true:=by rw [E.eq];rfl
 have bl:=zfR (k:=(S++[A]).length) (j:=S.length) (b:=((b:Nat):Int)) (p:=((i:Nat):Int)) (g:=nL g) (l:=iL w) (x:=some (.loc (S++[A]).length)) ee de (z84 g) (yw w) (by simp);have fz:z6v 7 (zS yG yH) (E8 (some e) (some d) (some (.int ((b:Nat):Int))) (some (.lst (nL g))) (some (.lst (iL w))) (some (.loc S.length)) (some (.int ((i:Nat):Int))) p7) (S++[A]) = .ok (.nx (E8 (some e) (some d) (some (.int ((b:Nat):Int))) (some (.lst (nL g))) (some (.lst (iL w))) (some (.loc S.length)) (some (.int ((i:Nat):Int))) (some (.lst (iL W))))) (S++[A]):=by
  have ex:((S++[A])++[iL W])[(S++[A]).length]? = some (iL W):=by simp
  rw [zeR,zi f5,f6];generalize S++[A]=T at *;show (match ((T++[iL W])[T.length]? : Option (List Dd.D)) with | some xs=>if T.length<=T.length/\_=true then _ else _ | none=>_)=_;rw [ex];simp only;rw [if_pos ⟨Nat.le_refl _,bl⟩,List.take_left'];·rfl
  ·rfl
 rw [zi fz,xV,zar (s2:=S++[A]) (L:=S.length) (xs:=A) (x:=.lst (iL W)) (vr rfl) (vr rfl) (by simp) hA (yw _)];rw [List.set_append_right _ _ (by omega)];simp
theorem zcV{all:List Dd.D}(S:Sto)(w:List Int):∀ (k j:Nat)(p6 p7:Option Dd.D),j+k=v.length-> ∃ p6' p7',xi [] all (fun d Z s=>(yn 6 d Z s).bind fun Z' s'=>(zS (z6v 7 (zS yG yH)) xV) Z' s') ((List.range' j k).map fun i=>Dd.D.int ((i:Nat):Int)) (E8 (some e) (some d) (some (.int ((b:Nat):Int))) (some (.lst (nL g))) (some (.lst (iL w))) (some (.loc S.length)) p6 p7) (S++[(List.range j).map fun i=>Dd.D.lst (iL (zJ b (zA v.length i) ((zq v (b,g)).getD i 0)))]) = .ok (.nx (E8 (some e) (some d) (some (.int ((b:Nat):Int))) (some (.lst (nL g))) (some (.lst (iL w))) (some (.loc S.length)) p6' p7')) (S++[(List.range (j+k)).map fun i=>Dd.D.lst (iL (zJ b (zA v.length i) ((zq v (b,g)).getD i 0)))])
 | 0,j,p6,p7,_=>⟨p6,p7,by simp [xi,okG]⟩ | k+1,j,p6,p7,hj=>by
  have l4:=h.toLot.le4;have e1:=zg0 h E D hb hg hp hm S (i:=j) (by omega) ((List.range j).map fun i=>Dd.D.lst (iL (zJ b (zA v.length i) ((zq v (b,g)).getD i 0)))) (by simp;omega) w p7;obtain ⟨q6,q7,e2⟩:=zcV S w k (j+1) (some (.int ((j:Nat):Int))) (some (.lst (iL (zJ b (zA v.length j) ((zq v (b,g)).getD j 0))))) (by omega);refine ⟨q6,q7,?_⟩;have es:((List.range j).map fun i=>Dd.D.lst (iL (zJ b (zA v.length i) ((zq v (b,g)).getD i 0))))++[.lst (iL (zJ b (zA v.length j) ((zq v (b,g)).getD j 0)))]=(List.range (j+1)).map fun i=>Dd.D.lst (iL (zJ b (zA v.length i) ((zq v (b,g)).getD i 0))):=by
   rw [List.range_succ,List.map_append];rfl
  rw [es] at e1;rw [List.range'_succ,List.map_cons,xi,if_pos (by intro p hp;simp at hp),z0v,R.bind_ok];simp only [List.set_cons_succ,List.set_cons_zero];rw [e1,R.bind_ok];simp only;rw [e2,show j+1+k=j+(k+1) by omega]
end
section
variable {n m:Nat}{v:List Int}(r:Rl)(h:LotB n m v)(he:ended v=false)(hm:m<=1999)
include h he hm
theorem zc9 (s:Sto):yU [.str (nmR r),rD v] s=.ok (.tup [rD (stp r v),tD (vF r v)]) s:=by
 have l4:=h.toLot.le4;have dl:=uz r h.toLot he;have dv:=zgC r h.toLot he s;have key:∀ d e:D,LD d v->RD e r->yT [e,d] s=.ok (qT (deal r v)) s->yU [e,d] s=.ok (.tup [rD (stp r v),tD (vF r v)]) s:=fun d e D E dv=>by
  generalize hdl:deal r v=bg at *;obtain ⟨b,g⟩:=bg;have st:zv ["_law_rule","_law_lot_here","_law_by","_law_gone","_law_later","_law_lines","_law_place","_law_line"] [e,d]=E8 (some e) (some d) none none none none none none:=rfl;have f1:vn (E8 (some e) (some d) none none none none none none) s=.ok (.nx (E8 (some e) (some d) (some (.int ((b:Nat):Int))) (some (.lst (nL g))) none none none none)) s:=by
   rw [vn,zad,call2 (x:=e) (y:=d) (vr rfl) (vr rfl),dv,R.bind_ok];simp
  have f2:=z9O (a0:=some e) (a4:=none) (a5:=none) (a6:=none) (a7:=none) h D dl.lt dl.nb dl.pos s;have f3:vz (E8 (some e) (some d) (some (.int ((b:Nat):Int))) (some (.lst (nL g))) (some (.lst (iL (left v (zq v (b,g)) b)))) none none none) s = .ok (.nx (E8 (some e) (some d) (some (.int ((b:Nat):Int))) (some (.lst (nL g))) (some (.lst (iL (left v (zq v (b,g)) b)))) (some (.loc s.length)) none none)) (s++[(List.range 0).map fun i=>Dd.D.lst (iL (zJ b (zA v.length i) ((zq v (b,g)).getD i 0)))]):=by
   rw [vz,yp,z31,zE,R.bind_ok,if_pos ⟨by simp,rfl⟩];rfl
  obtain ⟨q6,q7,f4⟩:=zcV (all:=(List.range v.length).map fun i:Nat=>Dd.D.int ((i:Nat):Int)) h E D dl.lt dl.nb dl.pos hm s (left v (zq v (b,g)) b) v.length 0 none none (by omega);have g4:vo (E8 (some e) (some d) (some (.int ((b:Nat):Int))) (some (.lst (nL g))) (some (.lst (iL (left v (zq v (b,g)) b)))) (some (.loc s.length)) none none) (s++[(List.range 0).map fun i=>Dd.D.lst (iL (zJ b (zA v.length i) ((zq v (b,g)).getD i 0)))]) = .ok (.nx (E8 (some e) (some d) (some (.int ((b:Nat):Int))) (some (.lst (nL g))) (some (.lst (iL (left v (zq v (b,g)) b)))) (some (.loc s.length)) q6 q7)) (s++[(List.range (0+v.length)).map fun i=>Dd.D.lst (iL (zJ b (zA v.length i) ((zq v (b,g)).getD i 0)))]):=by
   rw [vo,ji,vy (n:=v.length) (s1:=s++[(List.range 0).map fun i=>Dd.D.lst (iL (zJ b (zA v.length i) ((zq v (b,g)).getD i 0)))]) (by omega) (by rw [zm,xg (x:=d) (vr rfl),D.len,R.bind_ok,zE,R.bind_ok]),R.bind_ok];rw [List.range_eq_range'] at f4 ⊢;exact f4
  rw [Nat.zero_add] at g4;have lw:(left v (zq v (b,g)) b).length=v.length:=by simp [left,xn]
  have lr:∀ i,(zJ b (zA v.length i) ((zq v (b,g)).getD i 0)).length=v.length:=fun i=>by rw [z1o (by simp [zA];exact dl.lt)];simp [zA]
  have fin:∀ (w:List Int) (W:Nat->List Int) (x5:Dd.D) (T:Sto) (G:List (Nat×List Dd.D)),(∀ Z:Ev,Z[5]? = some (some x5)->zV (zc 5) Z T=.ok ((List.range v.length).map (fun i=>Dd.D.lst (iL (W i))),G) T)->okG G ((List.range v.length).map (fun i=>Dd.D.lst (iL (W i)))) T-> xK (E8 (some e) (some d) (some (.int ((b:Nat):Int))) (some (.lst (nL g))) (some (.lst (iL w))) (some x5) q6 q7) T=.ok (.rt (.tup [rD w,.tup ((List.range v.length).map fun i=>rD (W i))])) T:=fun w W x5 T G hG og=>by
   have c:=z1q (G:=G) (s:=T) (mp:=[none]) (fg:=yn 0) (fe:=zd zQ (za (zc 0) zh)) (fi:=zV (zc 5)) (Z:=E8 (some e) (some d) (some (.int ((b:Nat):Int))) (some (.lst (nL g))) (some (.lst (iL w))) (some x5) q6 q7) (fun i:Nat=>Dd.D.lst (iL (W i))) (fun i=>rD (W i)) (fun i=>[some (.lst (iL (W i)))]) (List.range v.length) (hG _ rfl) og (fun i _=>by simp) (fun i _=>by rw [xg (x:=.lst (iL (W i))) (vr rfl)];exact jc _ _) (by simp [cap];omega);rw [xK,yC,qL,zm,xg (x:=.lst (iL w)) (vr rfl),jc,R.bind_ok,zm,xg c,jc,R.bind_ok,zE];simp only [R.bind_ok];rw [if_pos (by simp [cap])];rfl
  have ot:=E.tu (s++[(List.range v.length).map fun i=>Dd.D.lst (iL (zJ b (zA v.length i) ((zq v (b,g)).getD i 0)))]);have res:∀ s',(zS yF xK) (E8 (some e) (some d) (some (.int ((b:Nat):Int))) (some (.lst (nL g))) (some (.lst (iL (left v (zq v (b,g)) b)))) (some (.loc s.length)) q6 q7) (s++[(List.range v.length).map fun i=>Dd.D.lst (iL (zJ b (zA v.length i) ((zq v (b,g)).getD i 0)))])=.ok (.rt (.tup [rD (stp r v),tD (vF r v)])) s'->s'.take s.length=s->yU [e,d] s=.ok (.tup [rD (stp r v),tD (vF r v)]) s:=fun s' hs ht=>by
   simp only [yU,z3S,Mof,qX,st,List.length_cons,List.length_nil,if_true];rw [zi f1,zi f2,zi f3,zi g4,hs];simp only;rw [z0b (zbu _ _),ht]
  have eT:∀ W:Nat->List Int,(∀ i,W i=mvd r (zJ b (zA v.length i) ((zq v (b,g)).getD i 0)))->Dd.D.tup ((List.range v.length).map fun i=>rD (W i))=tD (vF r v):=fun W hR=>by
   unfold vF;rw [hdl,z9m,xn];congr 2;funext i;rw [hR i];rfl
  have eS:rD (stp r v)=rD (mvd r (left v (zq v (b,g)) b)):=by unfold stp;rw [hdl]
  generalize hT:(s++[(List.range v.length).map fun i=>Dd.D.lst (iL (zJ b (zA v.length i) ((zq v (b,g)).getD i 0)))])=T at *;have aT:T[s.length]? = some ((List.range v.length).map fun i=>Dd.D.lst (iL (zJ b (zA v.length i) ((zq v (b,g)).getD i 0)))):=by rw [<- hT];simp
  have tk:T.take s.length=s:=by rw [<- hT];simp
  have sg:∀ Z:Ev,Z[5]? = some (some (.loc s.length))->zV (zc 5) Z T=.ok ((List.range v.length).map (fun i=>Dd.D.lst (iL (zJ b (zA v.length i) ((zq v (b,g)).getD i 0)))),[(s.length,(List.range v.length).map fun i=>Dd.D.lst (iL (zJ b (zA v.length i) ((zq v (b,g)).getD i 0))))]) T:=fun Z hZ=>by
   rw [z7b,vr hZ,R.bind_ok];simp only [aT]
  have og:okG [(s.length,(List.range v.length).map fun i=>Dd.D.lst (iL (zJ b (zA v.length i) ((zq v (b,g)).getD i 0))))] ((List.range v.length).map fun i=>Dd.D.lst (iL (zJ b (zA v.length i) ((zq v (b,g)).getD i 0)))) T:=by
   intro p hp;simp only [List.mem_singleton] at hp;subst hp;exact aT
  refine res T ?_ tk;by_cases q:r=.tu
  ·have rt4:∀ w:List Int,rot (iL w)=iL (rot w):=fun w=>by simp [rot,List.map_take,List.map_drop]
   have c11:=z1q (G:=[(s.length,(List.range v.length).map fun i=>Dd.D.lst (iL (zJ b (zA v.length i) ((zq v (b,g)).getD i 0))))]) (s:=T) (mp:=[none]) (fg:=yn 0) (fe:=eOp uF (eSl (zc 0) (wn (eC (.int 1))) zZ) (eSl (zc 0) zZ (wn (eC (.int 1))))) (fi:=zV (zc 5)) (Z:=E8 (some e) (some d) (some (.int ((b:Nat):Int))) (some (.lst (nL g))) (some (.lst (iL (rot (left v (zq v (b,g)) b))))) (some (.loc s.length)) q6 q7) (fun i:Nat=>Dd.D.lst (iL (zJ b (zA v.length i) ((zq v (b,g)).getD i 0)))) (fun i=>Dd.D.lst (iL (rot (zJ b (zA v.length i) ((zq v (b,g)).getD i 0))))) (fun i=>[some (.lst (iL (zJ b (zA v.length i) ((zq v (b,g)).getD i 0))))]) (List.range v.length) (sg _ rfl) og (fun i _=>by simp) (fun i _=>by rw [zcP (x:=.lst (iL (zJ b (zA v.length i) ((zq v (b,g)).getD i 0)))) (xs:=iL (zJ b (zA v.length i) ((zq v (b,g)).getD i 0))) (k:=0) rfl (by simp [Dd.listOf]) (.inl rfl) (by have:=lr i;rw [List.length_map];omega),rt4]) (by simp [cap];omega);have f9:yF (E8 (some e) (some d) (some (.int ((b:Nat):Int))) (some (.lst (nL g))) (some (.lst (iL (left v (zq v (b,g)) b)))) (some (.loc s.length)) q6 q7) T = .ok (.nx (E8 (some e) (some d) (some (.int ((b:Nat):Int))) (some (.lst (nL g))) (some (.lst (iL (rot (left v (zq v (b,g)) b))))) (some (.lst ((List.range v.length).map fun i=>Dd.D.lst (iL (rot (zJ b (zA v.length i) ((zq v (b,g)).getD i 0))))))) q6 q7)) T:=by
    have f10:wQ (E8 (some e) (some d) (some (.int ((b:Nat):Int))) (some (.lst (nL g))) (some (.lst (iL (left v (zq v (b,g)) b)))) (some (.loc s.length)) q6 q7) T = .ok (.nx (E8 (some e) (some d) (some (.int ((b:Nat):Int))) (some (.lst (nL g))) (some (.lst (iL (rot (left v (zq v (b,g)) b))))) (some (.loc s.length)) q6 q7)) T:=by
     rw [wQ,yp,zcP (x:=.lst (iL (left v (zq v (b,g)) b))) (xs:=iL (left v (zq v (b,g)) b)) (k:=4) rfl (by simp [Dd.listOf]) (.inl rfl) (by simp [lw];omega),rt4];rfl
    rw [yF,zab (by rw [qu,op2 (x:=e) (y:=.str "turn") (vr rfl) rfl,ot];simp [q]),zi f10,uJ,yp,c11];rfl
   rw [zi f9,fin (rot (left v (zq v (b,g)) b)) (fun i=>rot (zJ b (zA v.length i) ((zq v (b,g)).getD i 0))) _ T [] (fun Z hZ=>xU (vr hZ)) (by intro p hp;simp at hp),eT _ (fun i=>by rw [q,z0s]),eS,q,z0s]
  ·have f9:yF (E8 (some e) (some d) (some (.int ((b:Nat):Int))) (some (.lst (nL g))) (some (.lst (iL (left v (zq v (b,g)) b)))) (some (.loc s.length)) q6 q7) T = .ok (.nx (E8 (some e) (some d) (some (.int ((b:Nat):Int))) (some (.lst (nL g))) (some (.lst (iL (left v (zq v (b,g)) b)))) (some (.loc s.length)) q6 q7)) T:=by
    rw [yF,zeh (by rw [qu,op2 (x:=e) (y:=.str "turn") (vr rfl) rfl,ot];simp [q])];rfl
   rw [zi f9,fin (left v (zq v (b,g)) b) (fun i=>zJ b (zA v.length i) ((zq v (b,g)).getD i 0)) _ T _ sg og,eT _ (fun i=>by rw [kU q]),eS,kU q]
 exact key _ _ (LD.of h.toLot) (RD.of r) dv
end
end Pr
namespace Pp
open PySem.Spec L2 Dd
def ky(c:List Int):List Key:=c.map Sum.inl
def kvC(F:List (List Int)):List (List Key×V):=F.map fun c=>(ky c,V.bl true)
def zdd(F:List (List Int))(c:List Int):List (List Int):=if c∈F then F else F++[c]
theorem zcB:∀ {a b:List Int},ky a=ky b->a=b
 | [],[],_=>rfl | [],_::_,h=>by simp [ky] at h | _::_,[],h=>by simp [ky] at h | x::a,y::b,h=>by
  simp only [ky,List.map_cons,List.cons.injEq,Sum.inl.injEq] at h;rw [h.1,zcB (a:=a) (b:=b) h.2]
theorem zds(F:List (List Int))(c:List Int):((kvC F).any fun kv=>decide (kv.1=ky c))=decide (c∈F):=by induction F with
 | nil=>simp [kvC] | cons a F ih=>
  have e:kvC (a::F)=(ky a,V.bl true)::kvC F:=rfl;rw [e,List.any_cons,ih];by_cases h:a=c;·subst h;simp
  ·have:¬ ky a=ky c:=fun z=>h (zcB z);have h':¬ c=a:=fun z=>h z.symm;simp [this,h']
theorem zev(F:List (List Int))(c:List Int):z3n (kvC F) (ky c) (V.bl true)=kvC (zdd F c):=by
 unfold z3n zdd;rw [zds];by_cases h:c∈F
 ·simp only [h,decide_true,if_true];clear h;induction F with
  | nil=>rfl | cons a F ih=>
   have e:kvC (a::F)=(ky a,V.bl true)::kvC F:=rfl;rw [e,List.map_cons,ih];split<;>rfl
 ·simp only [h,decide_false,Bool.false_eq_true,if_false];simp [kvC]
theorem zf4(c:List Int):(ky c).map z6i=c.map D.int:=by simp [ky,z6i]
theorem zcl(F:List (List Int)):z6u (kvC F)=F.map fun c=>D.tup (c.map D.int):=by
 simp only [z6u,kvC,List.map_map];congr 1;funext c;simp [zf4]
theorem zbq(F:List (List Int)):zdU (kvC F):=fun p hp=>by
 obtain ⟨c,_,rfl⟩:=List.mem_map.mp hp;rfl
theorem z9D(F:List (List Int)):z8L (ug (kvC F))=some (kvC F):=dec_enc (zbq F)
theorem z5A:∀ c:List Int,z0n (c.map D.int)=some (ky c)
 | []=>rfl | i::c=>by simp [z0n,z5A c,ky]
theorem zek(F:List (List Int)):(kvC F).length=F.length:=by simp [kvC]
theorem zbz(F:List (List Int))(c:List Int):(zdd F c).length<=F.length+1:=by unfold zdd;split<;>simp
theorem zbo{Z:Ev}{S:Sto}{i j l:Nat}{F:List (List Int)}{c:List Int}(hi:Z[i]? = some (some (.dlo l)))(hj:Z[j]? = some (some (.tup (c.map D.int))))(hS:S[l]? = some (ug (kvC F)))(hl:F.length<cap): zaw (zc i) (zc j) (eC (.bl true)) Z S=.ok (.nx Z) (S.set l (ug (kvC (zdd F c)))):=by
 have e1:zc i Z S=.ok (.dlo l) S:=by rw [yf,hi]
 have e2:zc j Z S=.ok (.tup (c.map D.int)) S:=by rw [yf,hj]
 have e3:eC (.bl true) Z S=.ok (.bl true) S:=by simp
 unfold zaw;rw [e3,R.bind_ok,e1,R.bind_ok,e2,R.bind_ok];simp only [vV];rw [hS];simp only [Option.bind_some,z9D,z5A];rw [if_pos (by rw [zek];exact hl),zev]
open Pm Pg
def z3J(F:List (List Int))(c:List Int):List (List Int):=if c.getLast? = some 0 then F else zdd F c
def z9n(F:List (List Int))(P:Tb):List (List Int):=(zO P).foldl z3J F
def z4M(F:List (List Int))(Ps:List Tb):List (List Int):=Ps.foldl z9n F
theorem z44(F:List (List Int))(c:List Int):(z3J F c).length<=F.length+1:=by
 unfold z3J;split;·omega
 ·exact zbz F c
abbrev evC(d e p z:Option D)(l:Nat):Ev:=[d,e,some (.dlo l),p,z]
theorem zax(s:Sto)(a b:List D):(s++[a]).set s.length b=s++[b]:=by rw [List.set_append_right _ _ (by omega)];simp
theorem zkx (d e p:Option D) {s:Sto} {F:List (List Int)} {c:List Int} (hc:c≠[]) (hl:F.length<cap): qp (evC d e p (some (rD c)) s.length) (s++[ug (kvC F)])=.ok (.nx (evC d e p (some (rD c)) s.length)) (s++[ug (kvC (z3J F c))]):=by
 obtain ⟨pre,x,rfl⟩:∃ pre x,c=pre++[x]:=⟨c.dropLast,c.getLast hc,(List.dropLast_concat_getLast hc).symm⟩;have put:=zbo (Z:=evC d e p (some (rD (pre++[x]))) s.length) (S:=s++[ug (kvC F)]) (i:=2) (j:=4) (l:=s.length) (F:=F) (c:=pre++[x]) rfl rfl (by simp) hl;rw [zax] at put;have ix:=kg (x:=rD (pre++[x])) (d:=.int x) (xs:=iL pre) (s:=s++[ug (kvC F)]) (by simp [zF,iL]);have ee:eOp dIx (zc 4) (z0B (eC (.int 1))) (evC d e p (some (rD (pre++[x]))) s.length) (s++[ug (kvC F)])=.ok (.int x) (s++[ug (kvC F)]):=by rw [op2 (x:=rD (pre++[x])) (y:=.int (-1)) (by simp) (by simp)];exact ix
 have tt:tOf (eOp dNe (eOp dIx (zc 4) (z0B (eC (.int 1)))) (eC (.int 0))) (evC d e p (some (rD (pre++[x]))) s.length) (s++[ug (kvC F)])=.ok (!decide (x=0)) (s++[ug (kvC F)]):=by
  refine z1I ?_;rw [op2 ee (y:=.int 0) (by simp)];simp [dNe,z7X,SeqAt.shaped,uR,PyData.canLay0,PyData.depth,eqD,PyData.eqv];by_cases hx:x=0<;>simp [hx]
 unfold qp;rw [z0i,tt,R.bind_ok];by_cases hx:x=0
 ·subst hx;simp [z3J]
 ·rw [if_pos (by simp [hx])];unfold z2q;rw [put,z3J,if_neg (by simp [hx])]
theorem zh8 (d e p:Option D) (s:Sto) (all:List D):∀ (cs:List (List Int)) (F:List (List Int)) (z:Option D),(∀ c∈cs,c≠[])->F.length+cs.length<cap-> ∃ z',xi [] all (fun x Z s=>(yn 4 x Z s).bind fun Z' s'=>qp Z' s') (cs.map rD) (evC d e p z s.length) (s++[ug (kvC F)])=.ok (.nx (evC d e p z' s.length)) (s++[ug (kvC (cs.foldl z3J F))])
 | [],F,z,_,_=>⟨z,by simp [xi,okG]⟩ | c::cs,F,z,h,hl=>by
  have b:=zkx d e p (s:=s) (F:=F) (h c (by simp)) (by simp at hl;omega);obtain ⟨z',ih⟩:=zh8 d e p s all cs (z3J F c) (some (rD c)) (fun y hy=>h y (by simp [hy])) (by have:=z44 F c;simp at hl;omega);refine ⟨z',?_⟩;rw [List.map_cons,xi,if_pos (by intro p hp;simp at hp),z0v,R.bind_ok];simp only [evC,List.set_cons_succ,List.set_cons_zero] at b ih ⊢;rw [b,R.bind_ok];simp only;rw [ih,List.foldl_cons]
theorem zkF(d e z:Option D){n:Nat}{P:Tb}{s:Sto}{F:List (List Int)}(hn:Sz n)(hP:Tab n P)(hl:F.length+4<cap): ∃ z',qo (evC d e (some (tD P)) z s.length) (s++[ug (kvC F)])=.ok (.nx (evC d e (some (tD P)) z' s.length)) (s++[ug (kvC (z9n F P))]):=by
 have hn':n<=4/\2<=n:=by have:=hn;simp only [Sz] at this;omega
 have cl:(zO P).length=n:=by rw [zO];simp [hP.len]
 have cc:=jo (T:=P) (s++[ug (kvC F)]) (fun r hr=>by rw [hP.row r hr,hP.len];omega) (by rw [hP.len];omega);obtain ⟨z',lp⟩:=zh8 d e (some (tD P)) s ((zO P).map rD) (zO P) F z (fun c hc=>by
  simp only [zO,List.mem_map] at hc;obtain ⟨j,hj,rfl⟩:=hc;intro z;have:P.length=0:=by simpa using congrArg List.length z
  rw [hP.len] at this;omega) (by rw [cl];omega);refine ⟨z',?_⟩;have c1:zd zT (za (zc 3) zh) (evC d e (some (tD P)) z s.length) (s++[ug (kvC F)])=.ok (.tup ((zO P).map rD)) (s++[ug (kvC F)]):=by rw [xg (x:=tD P) (by simp)];exact cc
 rw [qo,ji,qk c1,R.bind_ok];exact lp
theorem z3L{n:Nat}{P:Tb}(F:List (List Int))(hP:P.length=n):(z9n F P).length<=F.length+n:=by
 have:∀ (cs:List (List Int))(F:List (List Int)),(cs.foldl z3J F).length<=F.length+cs.length:=by
  intro cs;induction cs with
  | nil=>intro F;simp | cons c cs ih=>intro F;rw [List.foldl_cons];have:=ih (z3J F c);have:=z44 F c;simp;omega
 have h:=this (zO P) F;have cl:(zO P).length=n:=by rw [zO];simp [hP]
 rw [cl] at h;exact h
theorem zfy {n:Nat} (d e:Option D) (s:Sto) (all:List D) (hn:Sz n):∀ (Ps:List Tb) (F:List (List Int)) (p z:Option D),(∀ P∈Ps,Tab n P)->F.length+4*Ps.length+4<cap-> ∃ p' z',xi [] all (fun x Z s=>(yn 3 x Z s).bind fun Z' s'=>qo Z' s') (Ps.map tD) (evC d e p z s.length) (s++[ug (kvC F)])=.ok (.nx (evC d e p' z' s.length)) (s++[ug (kvC (z4M F Ps))])
 | [],F,p,z,_,_=>⟨p,z,by simp [xi,okG,z4M]⟩ | P::Ps,F,p,z,h,hl=>by
  obtain ⟨z1,b⟩:=zkF d e z (s:=s) (F:=F) hn (h P (by simp)) (by simp at hl;omega);have hn':n<=4/\2<=n:=by have:=hn;simp only [Sz] at this;omega
  obtain ⟨p',z',ih⟩:=zfy d e s all hn Ps (z9n F P) (some (tD P)) z1 (fun y hy=>h y (by simp [hy])) (by have:=z3L F (h P (by simp)).len;simp at hl;omega);refine ⟨p',z',?_⟩;rw [List.map_cons,xi,if_pos (by intro p hp;simp at hp),z0v,R.bind_ok];simp only [evC,List.set_cons_succ,List.set_cons_zero] at b ih ⊢;rw [b,R.bind_ok];simp only;rw [ih];rfl
theorem z4j {n:Nat} {v:List Int} (h:Lot n v) (h0:v.getLast? ≠ some 0) (s:Sto):xf [rD v] s=.ok .non s:=by
 have w:=z0c h s;have ne:v≠[]:=by intro z;have:=h.len;have:=h.sz;subst z;simp at *;omega
 obtain ⟨pre,x,rfl⟩:∃ pre x,v=pre++[x]:=⟨v.dropLast,v.getLast ne,(List.dropLast_concat_getLast ne).symm⟩;have ix:=kg (x:=rD (pre++[x])) (d:=.int x) (xs:=iL pre) (s:=s) (by simp [zF,iL]);have hx:x≠0:=fun z=>h0 (by simp [z]);have key:∀ d:D,yx [d] s=.ok .non s->dIx d (.int (-1)) s=.ok (.int x) s->xf [d] s=.ok .non s:=fun d h1 h2=>by
  have st:zv ["lot"] [d]=[some d]:=rfl;simp only [xf,Mof,jM,st,List.length_cons,List.length_nil,if_true];rw [zi (Z':=[some d]) (s':=s) (by simp [h1])];have ee:eOp dIx (zc 0) (z0B (eC (.int 1))) [some d] s=.ok (.int x) s:=by rw [op2 (x:=d) (y:=.int (-1)) (by simp) (by simp)];exact h2
  have tt:tOf (eOp dEq (eOp dIx (zc 0) (z0B (eC (.int 1)))) (eC (.int 0))) [some d] s=.ok false s:=by
   refine z1I ?_;rw [op2 ee (y:=.int 0) (by simp)];simp [dEq,z7X,SeqAt.shaped,uR,PyData.canLay0,PyData.depth,eqD,PyData.eqv,hx]
  unfold je;rw [zeh tt];rfl
 exact key _ w ix
theorem kD(xs:List D)(i:Nat):Dd.cutD xs (some (i:Int)) none=xs.drop i:=by
 have:=z1z xs i [];simpa [dSl] using this
theorem z7E{n m:Nat}{r:Rl}{c:List Int}{ls:List (List Int)}(Rn:Run r c ls):LotB n m c->∀ P:Tb,Tab n P->∀ Q∈wd P (zY r ls),Tab n Q:=by induction Rn with
 | done he=>intro h P hP Q hQ;simp [zY,wd] at hQ;subst hQ;exact hP | @step v ls he R2 ih=>
  intro h P hP Q hQ;rw [R2.tabs_cons,wd] at hQ;rcases List.mem_cons.mp hQ with rfl | hQ;·exact hP
  ·exact ih (h.step r he) _ (z86 hP (kz r h.toLot he)) Q hQ
def zba(n:Nat)(r:Rl)(ls:List (List Int)):List (List Int):=z4M [] ((wd (one n) (zY r ls)).drop 1)
theorem z20 {n m:Nat} {v:List Int} {ls:List (List Int)} (r:Rl) (h:LotB n m v) (h0:v.getLast? ≠ some 0) (Rn:Run r v ls) (hm:m<=1999) (hl:ls.length<=20000) (s:Sto): xa [.str (nmR r),rD v] s=.ok (.loc (s.length+1)) (s++[ug (kvC (zba n r ls))]++[(zba n r ls).map rD]):=by
 have w1:=z2f r s;have w2:=z4j h.toLot h0 s;have pr:=z48 r h Rn hm (by omega) (s++[ug (kvC [])]);have tl:(zY r ls).length<=20000:=by simp [zY];omega
 have lp:=fun d e=>zfy (n:=n) d e s (((wd (one n) (zY r ls)).drop 1).map tD) h.sz ((wd (one n) (zY r ls)).drop 1) [] none none (fun P hP=>z7E Rn h (one n) (z3H n) P (List.mem_of_mem_drop hP)) (by
  have:=z2e (zY r ls) (one n);simp [cap];omega);unfold zba;generalize wd (one n) (zY r ls)=Ps at pr lp ⊢;have key:∀ d e:D,xh [d] s=.ok .non s->xf [e] s=.ok .non s->yu [d,e] (s++[ug (kvC [])])=.ok (.loc (s++[ug (kvC [])]).length) (s++[ug (kvC [])]++[Ps.map tD])-> xa [d,e] s=.ok (.loc (s.length+1)) (s++[ug (kvC (z4M [] (Ps.drop 1)))]++[(z4M [] (Ps.drop 1)).map rD]):=fun d e h1 h2 h3=>by
  have st:zv ["rule","lot","found","product","column"] [d,e]=[some d,some e,none,none,none]:=rfl;simp only [xa,Mof,z3t,st,List.length_cons,List.length_nil,if_true];rw [zi (Z':=[some d,some e,none,none,none]) (s':=s) (by simp [h1])];rw [zi (Z':=[some d,some e,none,none,none]) (s':=s) (by simp [h2])];rw [zi (Z':=evC (some d) (some e) none none s.length) (s':=s++[ug (kvC [])]) (by rfl)];obtain ⟨p',z',lp⟩:=lp (some d) (some e);have f1:z2M (zd yu (za (zc 0) (za (zc 1) zh))) (evC (some d) (some e) none none s.length) (s++[ug (kvC [])])=.ok (.lst (Ps.map tD)) (s++[ug (kvC [])]):=by rw [z78,call2 (x:=d) (y:=e) (by simp) (by simp),h3,z4C]
  have f2:eSl (z2M (zd yu (za (zc 0) (za (zc 1) zh)))) (wn (eC (.int 1))) zZ (evC (some d) (some e) none none s.length) (s++[ug (kvC [])])=.ok (.lst ((Ps.drop 1).map tD)) (s++[ug (kvC [])]):=by
   rw [z2C,f1,R.bind_ok];simp only [R.bind_ok,xP,uD,kw,dSl,Dd.listOf];rw [show (1:Int)=((1:Nat):Int) from rfl,kD,List.map_drop]
  rw [zi (Z':=evC (some d) (some e) p' z' s.length) (s':=s++[ug (kvC (z4M [] (Ps.drop 1)))]) (by
   rw [z2c,ji,xU f2,R.bind_ok];exact lp)];rw [z1D,yC,xg (x:=.dlo s.length) (by simp)];have e1:z1P [.dlo s.length] (s++[ug (kvC (z4M [] (Ps.drop 1)))])=.ok (.loc (s.length+1)) (s++[ug (kvC (z4M [] (Ps.drop 1)))]++[(z4M [] (Ps.drop 1)).map rD]):=by
   unfold z1P;simp only [List.getElem?_append_right (Nat.le_refl _),Nat.sub_self,List.getElem?_cons_zero,Option.bind_some,z9D,zcl,List.length_append,List.length_cons,List.length_nil]
  rw [e1];rfl
 exact key _ _ w1 w2 pr
open Pn
structure Bot(n m:Nat)(ps:List Int)(q:Int):Prop where
 lot:LotB n m (ps++[q])
 pos:0<q
theorem z7r{m:Nat}{x:Int}(h0:0<=x)(h:x<2 ^ m)(hm:m<=4000):x.natAbs<BIG:=by
 have h1:x.natAbs<2 ^ m:=by
  have:((x.natAbs:Nat):Int)<((2 ^ m:Nat):Int):=by rw [Int.natAbs_of_nonneg h0];push_cast;exact h
  exact_mod_cast this
 have h2:(2:Nat) ^ m<=2 ^ 4000:=Nat.pow_le_pow_right (by decide) hm;have h3:(2:Nat) ^ 4000<BIG:=by decide +kernel
 exact Nat.lt_of_lt_of_le h1 (Nat.le_trans h2 (Nat.le_of_lt h3))
end Pp
namespace Pp
open Pm Pg Dd
def code(N:Nat):List Nat->Nat
 | []=>0 | d::ds=>d+N*code N ds
open PySem.Spec L2 Pn
def pD(p:Int×Int):D:=.tup [.int p.1,.int p.2]
end Pp
namespace Pp
open L2 Pm Pg Dd
variable {ps:List Int}{q:Int}
theorem z9y{n:Nat}{r:Rl}{v:List Int}{ls:List (List Int)}(R:Run r v ls)(he:ended v=true):zba n r ls=[]:=by cases R with
 | done e=>simp [zba,zY,wd,z4M] | step e R2=>rw [he] at e;cases e
end Pp
namespace K43
open PySem.Spec L2 Dd Pm Pg Pn Po Pr Pp
def NB(T:Tb):Prop:=∀ r∈T,∀ x∈r,0<=x/\x<2 ^ 2000
theorem NB.at_{T:Tb}(h:NB T){i j:Nat}(hi:i<T.length)(hj:j<(T.getD i []).length):0<=(T.getD i []).getD j 0/\(T.getD i []).getD j 0<2 ^ 2000:=by
 have e1:T.getD i []=T[i]:=by simp [List.getD_eq_getElem?_getD,hi]
 rw [e1] at hj ⊢;have e2:T[i].getD j 0=T[i][j]:=by simp [List.getD_eq_getElem?_getD,hj]
 rw [e2];exact h _ (List.getElem_mem _) _ (List.getElem_mem _)
theorem zaS{n:Nat}{row:List Int}{B:Tb}(hr:row.length=n)(hB:B.length=n)(at_:Nat):((List.range n).map fun k=>row.getD k 0*(B.getD k []).getD at_ 0).sum=dot row (B.map fun r=>r.getD at_ 0):=by
 unfold dot;congr 1;apply List.ext_getElem;·simp [hr,hB]
 ·intro i h1 h2;have hi:i<n:=by simpa using h1
  simp [List.getD_eq_getElem?_getD,hr,hB,hi]
theorem zg3 {T:Tb} {i:Nat} (s:Sto) (h:i<T.length):dIx (tD T) (.int ((i:Nat):Int)) s=.ok (rD (T.getD i [])) s:= z81 (xs:=T.map rD) (j:=i) (d:=rD (T.getD i [])) s (by simp [List.getElem?_map,List.getElem?_eq_getElem h,List.getD])
section
variable {n:Nat}{A B:Tb}(hn:Sz n)(ha:Tab n A)(hb:Tab n B)(hA:NB A)(hB:NB B)
abbrev EP5(a0 a1 a2 a3 a4:Option D):Ev:=[a0,a1,a2,a3,a4]
include hn hb hB
theorem zjU {row:List Int} (hr:row.length=n) (hR:∀ x∈row,0<=x/\x<2 ^ 2000) {b rd:D} (eb:b=tD B) (er:rd=rD row) {a0 a3:Option D} (S:Sto): zd zQ (za (zn (qU (za (zc 2) zh)) [some 4,some 2,some 1,none] (yn 3) zR (zd zcA (za (zn (qU (za (zc 1) zh)) [some 0,some 3,some 2,none] (yn 3) zR (eOp wW (eOp dIx (zc 0) (zc 3)) (eOp dIx (eOp dIx (zc 2) (zc 3)) (zc 1)))) zh))) zh) (EP5 a0 (some b) (some (.int ((n:Nat):Int))) a3 (some rd)) S = .ok (rD (jK B row)) S:=by
 have n4:n<=4:=by have:=hn;simp only [Sz] at this;omega
 have c:=comp_map (s:=S) (mp:=[some 4,some 2,some 1,none]) (fg:=yn 3) (fe:=zd zcA (za (zn (qU (za (zc 1) zh)) [some 0,some 3,some 2,none] (yn 3) zR (eOp wW (eOp dIx (zc 0) (zc 3)) (eOp dIx (eOp dIx (zc 2) (zc 3)) (zc 1)))) zh)) (fun i:Nat=>D.int ((i:Nat):Int)) (fun i:Nat=>D.int (dot row (B.map fun r=>r.getD i 0))) (fun i=>[some rd,some (.int ((n:Nat):Int)),some b,some (.int ((i:Nat):Int))]) (List.range n) (vy (n:=n) (Z:=EP5 a0 (some b) (some (.int ((n:Nat):Int))) a3 (some rd)) (ar:=za (zc 2) zh) (by omega) (by simp)) (fun i _=>by simp) (fun i hi=>by
   have hi':i<n:=by simpa using hi
   have c2:=comp_map (s:=S) (mp:=[some 0,some 3,some 2,none]) (fg:=yn 3) (fe:=eOp wW (eOp dIx (zc 0) (zc 3)) (eOp dIx (eOp dIx (zc 2) (zc 3)) (zc 1))) (fun k:Nat=>D.int ((k:Nat):Int)) (fun k:Nat=>D.int (row.getD k 0*(B.getD k []).getD i 0)) (fun k=>[some rd,some (.int ((i:Nat):Int)),some b,some (.int ((k:Nat):Int))]) (List.range n) (vy (n:=n) (Z:=[some rd,some (.int ((n:Nat):Int)),some b,some (.int ((i:Nat):Int))]) (ar:=za (zc 1) zh) (by omega) (by simp)) (fun k _=>by simp) (fun k hk=>by
     have hk':k<n:=by simpa using hk
     have e1:dIx rd (.int ((k:Nat):Int)) S=.ok (.int (row.getD k 0)) S:=by rw [er];exact z00 S (by omega)
     have e2:dIx b (.int ((k:Nat):Int)) S=.ok (rD (B.getD k [])) S:=by rw [eb];exact zg3 S (by rw [hb.len];exact hk')
     have lk:(B.getD k []).length=n:=hb.row _ (by rw [List.getD_eq_getElem?_getD,List.getElem?_eq_getElem (by rw [hb.len];exact hk')];exact List.getElem_mem _);have e3:=z00 (r:=B.getD k []) (j:=i) S (by omega);have q1:=hR _ (Pm.getD_mem (v:=row) (i:=k) (by omega));have q2:=hB.at_ (i:=k) (j:=i) (by rw [hb.len];exact hk') (by omega);rw [xp,op2 (x:=rd) (y:=.int ((k:Nat):Int)) (vr rfl) (vr rfl),e1,R.bind_ok,xp,op2 (x:=b) (y:=.int ((k:Nat):Int)) (vr rfl) (vr rfl),e2,R.bind_ok,vr (d:=.int ((i:Nat):Int)) rfl,R.bind_ok,e3,R.bind_ok,z0d S q1.1 q1.2 q2.1 q2.2]) (by simp [cap];omega);have em:((List.range n).map fun k:Nat=>D.int (row.getD k 0*(B.getD k []).getD i 0))=iL ((List.range n).map fun k=>row.getD k 0*(B.getD k []).getD i 0):=by simp [Function.comp_def]
   rw [em] at c2;rw [xg c2,zcX,zaS hr hb.len]) (by simp [cap];omega);have em:((List.range n).map fun i:Nat=>D.int (dot row (B.map fun r=>r.getD i 0)))=iL (jK B row):=by simp [jK,zO,hb.len,Function.comp_def]
 rw [em] at c;rw [xg c,jc]
include ha hA
theorem zfx {a b:D} (ea:a=tD A) (eb:b=tD B) (s:Sto) (all:List D):∀ (rows pre:List (List Int)) (z:Option D),pre++rows=A-> ∃ z',xi [] all (fun d Z s=>(yn 4 d Z s).bind fun Z' s'=>xX Z' s') (rows.map rD) (EP5 (some a) (some b) (some (.int ((n:Nat):Int))) (some (.loc s.length)) z) (s++[(pre.map (jK B)).map rD]) = .ok (.nx (EP5 (some a) (some b) (some (.int ((n:Nat):Int))) (some (.loc s.length)) z')) (s++[(A.map (jK B)).map rD])
 | [],pre,z,hp=>⟨z,by rw [<- hp];simp [xi,okG]⟩ | row::rows,pre,z,hp=>by
  have n4:n<=4:=by have:=hn;simp only [Sz] at this;omega
  have hm:row∈A:=by rw [<- hp];simp
  have pl:pre.length<n:=by have:=congrArg List.length hp;rw [ha.len] at this;simp at this;omega
  obtain ⟨z',ih⟩:=zfx ea eb s all rows (pre++[row]) (some (rD row)) (by rw [<- hp];simp);refine ⟨z',?_⟩;have pr:=zjU hn hb hB (ha.row row hm) (hA row hm) eb (rd:=rD row) rfl (a0:=some a) (a3:=some (.loc s.length)) (s++[(pre.map (jK B)).map rD]);have body:xX (EP5 (some a) (some b) (some (.int ((n:Nat):Int))) (some (.loc s.length)) (some (rD row))) (s++[(pre.map (jK B)).map rD])=.ok (.nx (EP5 (some a) (some b) (some (.int ((n:Nat):Int))) (some (.loc s.length)) (some (rD row)))) (s++[((pre++[row]).map (jK B)).map rD]):=by
   rw [xX,zar (s2:=s++[(pre.map (jK B)).map rD]) (L:=s.length) (xs:=(pre.map (jK B)).map rD) (x:=rD (jK B row)) (vr rfl) pr (by simp) (by simp;omega) (yw _),List.set_append_right _ _ (by omega)];simp
  rw [List.map_cons,xi,if_pos (by intro p hp;simp at hp),z0v,R.bind_ok];simp only [List.set_cons_succ,List.set_cons_zero];rw [body,R.bind_ok];simp only;rw [ih]
theorem z9o(s:Sto):yS [tD A,tD B] s=.ok (tD (qG A B)) s:=by
 have n4:n<=4:=by have:=hn;simp only [Sz] at this;omega
 have g1:yE [tD A] s=.ok (.int ((n:Nat):Int)) s:=by simp [yE,zF,ha.len]
 have key:∀ a b:D,a=tD A->b=tD B->yE [a] s=.ok (.int ((n:Nat):Int)) s->yS [a,b] s=.ok (tD (qG A B)) s:=fun a b ea eb g1=>by
  have st:zv ["_law_one","_law_other","_law_size","_law_found","_law_line"] [a,b]=EP5 (some a) (some b) none none none:=rfl;have f1:xk (EP5 (some a) (some b) none none none) s=.ok (.nx (EP5 (some a) (some b) (some (.int ((n:Nat):Int))) none none)) s:=by
   rw [xk,yp,xg (x:=a) (vr rfl),g1];rfl
  have f2:xo (EP5 (some a) (some b) (some (.int ((n:Nat):Int))) none none) s=.ok (.nx (EP5 (some a) (some b) (some (.int ((n:Nat):Int))) (some (.loc s.length)) none)) (s++[(([]:List (List Int)).map (jK B)).map rD]):=by
   rw [xo,yp,z31,zE,R.bind_ok,if_pos ⟨by simp,rfl⟩];rfl
  obtain ⟨z',lp⟩:=zfx hn ha hb hA hB ea eb s (A.map rD) A [] none rfl;have f3:xm (EP5 (some a) (some b) (some (.int ((n:Nat):Int))) (some (.loc s.length)) none) (s++[(([]:List (List Int)).map (jK B)).map rD])=.ok (.nx (EP5 (some a) (some b) (some (.int ((n:Nat):Int))) (some (.loc s.length)) z')) (s++[(A.map (jK B)).map rD]):=by
   rw [xm,ji,qk (xs:=A.map rD) (by rw [vr (d:=a) rfl,ea]),R.bind_ok];exact lp
  have g5:zQ [.loc s.length] (s++[(A.map (jK B)).map rD])=.ok (tD (qG A B)) (s++[(A.map (jK B)).map rD]):=by
   rw [z2l hn ha hb];simp [zQ,zF]
  simp only [yS,z3S,Mof,wC,st,List.length_cons,List.length_nil,if_true];rw [zi f1,zi f2,zi f3,qI,yC,xg (x:=.loc s.length) (vr rfl),g5];simp only [R.bind_ok];rw [z0b (z9k _)];simp
 exact key _ _ rfl rfl g1
end
theorem z9s {n:Nat} {v:List Int} (h:Lot n v) (s:Sto):yk [rD v] s=.ok (.bl (ended v)) s:=by
 have l4:=h.le4;have key:∀ d:D,d=rD v->yk [d] s=.ok (.bl (ended v)) s:=fun d hd=>by
  have st:zv ["_law_lot_here"] [d]=[some d]:=rfl;have c:=vJ (s:=s) (Z:=[some d]) (fi:=zV (zc 0)) (mp:=[none]) (fg:=yn 0) (ft:=tOf (eOp dGt (zc 0) (eC (.int 0)))) (fe:=zc 0) D.int D.int (fun x=>decide (0<x)) (fun x=>[some (.int x)]) v (qk (by rw [vr (d:=d) rfl,hd])) (fun a _=>by simp) (fun a _=>by simp) (fun a _ _=>by simp) (by simp [cap];omega);rw [zcS h.nn] at c;have h2:(nz v).length≠0:=fun z=>h.nzne (List.length_eq_zero_iff.mp z);have lb:decide (((nz v).length:Int)<2)=ended v:=by
   unfold ended;by_cases e:(nz v).length=1;·simp [e]
   ·have:¬ ((nz v).length:Int)<2:=by omega
    simp [e,this]
  simp only [yk,Mof,qJ,st,List.length_cons,List.length_nil,if_true,uP,yC,xp,xg c,yE,zF,R.bind_ok,kw,zhQ,List.length_map,lb]
 exact key _ rfl
abbrev EC(a0 a1:Option D)(l:Nat)(a3 a4 a5 a6:Option D):Ev:=[a0,a1,some (.loc l),a3,a4,a5,a6]
theorem zgi(F:List (List Int))(c:List Int):(F.any fun ns=>decide (ns=c))=decide (c∈F):=by induction F with
 | nil=>simp | cons x F ih=>
  rw [List.any_cons,ih];by_cases q:x=c;·simp [q]
  ·have:¬ c=x:=fun z=>q z.symm;simp [q,this]
theorem zaZ{s:Sto}{F:List (List Int)}{c:List Int}:zdJ true (rD c) (.loc s.length) (s++[F.map rD])=.ok (.bl (!decide (c∈F))) (s++[F.map rD]):=by
 have e2:=z1k F;have e1:=z89 c;unfold zdJ;rw [e1];simp only [zF,List.getElem?_append_right (Nat.le_refl _),Nat.sub_self,List.getElem?_cons_zero,Option.bind_some];rw [show F.map rD=F.map (fun ns=>D.tup (ns.map D.int)) from rfl,e2];simp only [if_true,zgi]
theorem zk7 (a0 a1 a3 a4 a5:Option D) {s:Sto} {F:List (List Int)} {c:List Int} (hc:c≠[]) (hl:F.length<cap): xZ (EC a0 a1 s.length a3 a4 a5 (some (rD c))) (s++[F.map rD])=.ok (.nx (EC a0 a1 s.length a3 a4 a5 (some (rD c)))) (s++[(z3J F c).map rD]):=by
 obtain ⟨pre,x,rfl⟩:∃ pre x,c=pre++[x]:=⟨c.dropLast,c.getLast hc,(List.dropLast_concat_getLast hc).symm⟩;have ix:=kg (x:=rD (pre++[x])) (d:=.int x) (xs:=iL pre) (s:=s++[F.map rD]) (by simp [zF,iL]);have nin:=zaZ (s:=s) (F:=F) (c:=pre++[x]);have gl:(pre++[x]).getLast? = some x:=by simp
 have fl:(rD (pre++[x])).flat=true:=yw _;have gS:(s++[F.map rD])[s.length]? = some (F.map rD):=by simp
 have sS:(s++[F.map rD]).set s.length (F.map rD++[rD (pre++[x])])=s++[(F++[pre++[x]]).map rD]:=by rw [zax];simp
 have t1:tOf (eOp dNe (eOp dIx (zc 6) (z0B (eC (.int 1)))) (eC (.int 0))) (EC a0 a1 s.length a3 a4 a5 (some (rD (pre++[x])))) (s++[F.map rD])=.ok (!decide (x=0)) (s++[F.map rD]):=by
  refine z1I ?_;rw [op2 (x:=.int x) (y:=.int 0) (by rw [op2 (x:=rD (pre++[x])) (y:=.int (-1)) (vr rfl) (by simp)];exact ix) rfl,zbU];simp
 have t2:tOf (eOp (zdJ true) (zc 6) (zc 2)) (EC a0 a1 s.length a3 a4 a5 (some (rD (pre++[x])))) (s++[F.map rD])=.ok (!decide (pre++[x]∈F)) (s++[F.map rD]):= z1I (by rw [op2 (x:=rD (pre++[x])) (y:=.loc s.length) (vr rfl) (vr rfl)];exact nin);have ap:vh (EC a0 a1 s.length a3 a4 a5 (some (rD (pre++[x])))) (s++[F.map rD])=.ok (.nx (EC a0 a1 s.length a3 a4 a5 (some (rD (pre++[x]))))) (s++[(F++[pre++[x]]).map rD]):=by
  have hl':(F.map rD).length<cap:=by simpa using hl
  rw [vh,z06,z3b,vr (d:=.loc s.length) rfl,R.bind_ok,vr (d:=rD (pre++[x])) rfl];simp only [R.bind_ok];rw [gS];simp only;rw [if_pos ⟨fl,hl'⟩,sS];rfl
 rw [xZ,z0i,zd7,t1,R.bind_ok];unfold z3J zdd;rw [gl];by_cases q:x=0
 ·subst q;simp
 ·have q2:¬ (some x=some (0:Int)):=fun z=>q (Option.some.inj z);rw [if_neg q2];simp only [q,decide_false,Bool.not_false,if_true];rw [t2];by_cases q3:pre++[x]∈F
  ·rw [if_pos q3];simp [q3]
  ·rw [if_neg q3];rw [decide_eq_false q3,Bool.not_false,R.bind_ok,if_pos rfl,ap]
theorem zfd {n:Nat} {P:Tb} (hn:Sz n) (hP:Tab n P) (a0 a1 a4:Option D) {p:D} (ep:p=tD P) (s:Sto) (all:List D):∀ (js:List Nat) (F:List (List Int)) (z5 z6:Option D),(∀ j∈js,j<n)->F.length+js.length<cap-> ∃ z5' z6',xi [] all (fun x Z s=>(yn 5 x Z s).bind fun Z' s'=>(zS xW xZ) Z' s') (js.map fun i=>D.int ((i:Nat):Int)) (EC a0 a1 s.length (some p) a4 z5 z6) (s++[F.map rD]) = .ok (.nx (EC a0 a1 s.length (some p) a4 z5' z6')) (s++[((js.map fun j=>P.map fun r=>r.getD j 0).foldl z3J F).map rD])
 | [],F,z5,z6,_,_=>⟨z5,z6,by simp [xi,okG]⟩ | j::js,F,z5,z6,h,hl=>by
  have n4:n<=4/\2<=n:=by have:=hn;simp only [Sz] at this;omega
  have hj:=h j (by simp);have c:=comp_map (s:=s++[F.map rD]) (mp:=[some 5,none]) (fg:=yn 1) (fe:=eOp dIx (zc 1) (zc 0)) rD (fun r:List Int=>D.int (r.getD j 0)) (fun r=>[some (.int ((j:Nat):Int)),some (rD r)]) P (fi:=zV (zc 3)) (Z:=EC a0 a1 s.length (some p) a4 (some (.int ((j:Nat):Int))) z6) (qk (by rw [vr (d:=p) rfl,ep])) (fun r _=>by simp) (fun r hr=>by
   rw [op2 (x:=rD r) (y:=.int ((j:Nat):Int)) (vr rfl) (vr rfl)];exact z00 _ (by rw [hP.row r hr];exact hj)) (by rw [hP.len];simp [cap];omega);have em:(P.map fun r:List Int=>D.int (r.getD j 0))=iL (P.map fun r=>r.getD j 0):=by simp [Function.comp_def]
  rw [em] at c;have f7:xW (EC a0 a1 s.length (some p) a4 (some (.int ((j:Nat):Int))) z6) (s++[F.map rD])=.ok (.nx (EC a0 a1 s.length (some p) a4 (some (.int ((j:Nat):Int))) (some (rD (P.map fun r=>r.getD j 0))))) (s++[F.map rD]):=by
   rw [xW,yp,xg c,jc];rfl
  have cne:(P.map fun r=>r.getD j 0)≠[]:=fun z=>by
   have:=congrArg List.length z;rw [List.length_map,hP.len] at this;simp at this;omega
  have f8:=zk7 a0 a1 (some p) a4 (some (.int ((j:Nat):Int))) (s:=s) (F:=F) cne (by simp at hl;omega);obtain ⟨z5',z6',ih⟩:=zfd hn hP a0 a1 a4 ep s all js (z3J F (P.map fun r=>r.getD j 0)) (some (.int ((j:Nat):Int))) (some (rD (P.map fun r=>r.getD j 0))) (fun y hy=>h y (by simp [hy])) (by have:=z44 F (P.map fun r=>r.getD j 0);simp at hl;omega);refine ⟨z5',z6',?_⟩;rw [List.map_cons,xi,if_pos (by intro p hp;simp at hp),z0v,R.bind_ok];simp only [EC,List.set_cons_succ,List.set_cons_zero] at f7 f8 ih ⊢;rw [zi f7,f8,R.bind_ok];simp only;rw [ih,List.map_cons,List.foldl_cons]
section
variable {n m:Nat}{r:Rl}{x:List Int}{B:Int}
theorem NB.of_PI{P:Tb}{c:List Int}(I:PI n B P c x)(hB:B<2 ^ m)(hm:m<=1999):NB P:=fun row hr y hy=>by
 have h1:=I.nn row hr y hy;have:(2:Int) ^ m<=2 ^ 2000:=by
  have:=Int.ofNat_le.mpr (show (2:Nat) ^ m<=2 ^ 2000 from Nat.pow_le_pow_right (by decide) (by omega));simpa using this
 exact ⟨h1.1,by omega⟩
theorem z8v {d:D} (hd:d=.str (nmR r)) (hB:B<2 ^ m) (hm:m<=1999) (hx:∀ y∈x,y<=B) (s:Sto) {c:List Int} {ls:List (List Int)} (Rn:Run r c ls):∀ (P:Tb) (F:List (List Int)) (a4 a5 a6:Option D),LotB n m c->PI n B P c x->F.length+4*ls.length+4<cap-> ∃ b1 b3 b4 b5 b6,vS (z6h (tOf (zd Pg.yk (za (zc 1) zh)))) (zS xY (zS xT xS)) (ls.length+1) (EC (some d) (some (rD c)) s.length (some (tD P)) a4 a5 a6) (s++[F.map rD]) = .ok (.nx (EC (some d) b1 s.length b3 b4 b5 b6)) (s++[(z4M F ((wd P (zY r ls)).drop 1)).map rD]):=by
 have tst:∀ (F:List (List Int)) (c:List Int) (a3 a4 a5 a6:Option D),LotB n m c->z6h (tOf (zd Pg.yk (za (zc 1) zh))) (EC (some d) (some (rD c)) s.length a3 a4 a5 a6) (s++[F.map rD])=.ok (!ended c) (s++[F.map rD]):=fun F c a3 a4 a5 a6 h=>by
  have hE:=z9s h.toLot (s++[F.map rD]);generalize (s++[F.map rD])=S at *;rw [z9T,z1I (b:=ended c) (by rw [xg (x:=rD c) (vr rfl),hE]),R.bind_ok]
 induction Rn with
 | @done v hend=>
  intro P F a4 a5 a6 h I hl;refine ⟨some (rD v),some (tD P),a4,a5,a6,?_⟩;rw [vS,tst F v _ a4 a5 a6 h,hend];simp [zY,wd,z4M] | @step v ls hend Rn ih=>
  intro P F a4 a5 a6 h I hl;have tb:=kz r h.toLot hend;have I2:=I.step r hx h.toLot hend;have h2:=h.step r hend;have nT:NB (vF r v):=fun row hr y hy=>by
   have h1:=z9d (B:=2 ^ m-1) r h.toLot hend (fun y hy=>by have:=h.bd y hy;omega) row hr y hy;have:(2:Int) ^ m<=2 ^ 2000:=by
    have:=Int.ofNat_le.mpr (show (2:Nat) ^ m<=2 ^ 2000 from Nat.pow_le_pow_right (by decide) (by omega));simpa using this
   exact ⟨h1.1,by omega⟩
  have pr:=z9o h.sz I.tab tb (NB.of_PI I hB hm) nT (s++[F.map rD]);have ls':=zc9 r h hend hm (s++[F.map rD]);rw [<- hd] at ls';have f4:xY (EC (some d) (some (rD v)) s.length (some (tD P)) a4 a5 a6) (s++[F.map rD])=.ok (.nx (EC (some d) (some (rD (stp r v))) s.length (some (tD P)) (some (tD (vF r v))) a5 a6)) (s++[F.map rD]):=by
   generalize (s++[F.map rD])=S at *;rw [xY,zad,call2 (x:=d) (y:=rD v) (vr rfl) (vr rfl),ls',R.bind_ok];rfl
  have f5:xT (EC (some d) (some (rD (stp r v))) s.length (some (tD P)) (some (tD (vF r v))) a5 a6) (s++[F.map rD])=.ok (.nx (EC (some d) (some (rD (stp r v))) s.length (some (tD (qG P (vF r v)))) (some (tD (vF r v))) a5 a6)) (s++[F.map rD]):=by
   generalize (s++[F.map rD])=S at *;rw [xT,yp,call2 (x:=tD P) (y:=tD (vF r v)) (vr rfl) (vr rfl),pr];rfl
  have n4:n<=4/\2<=n:=by have:=h.sz;simp only [Sz] at this;omega
  obtain ⟨z5,z6,lp⟩:=zfd h.sz I2.tab (some d) (some (rD (stp r v))) (some (tD (vF r v))) (p:=tD (qG P (vF r v))) rfl s ((List.range n).map fun i:Nat=>D.int ((i:Nat):Int)) (List.range n) F a5 a6 (fun j hj=>by simpa using hj) (by simp at hl ⊢;omega);have ec:((List.range n).map fun j=>(qG P (vF r v)).map fun r=>r.getD j 0).foldl z3J F=z9n F (qG P (vF r v)):=by unfold z9n zO;rw [I2.tab.len]
  rw [ec] at lp;have lg:yE [rD (stp r v)] (s++[F.map rD])=.ok (.int ((n:Nat):Int)) (s++[F.map rD]):=by simp [yE,zF,h2.len]
  have f6:xS (EC (some d) (some (rD (stp r v))) s.length (some (tD (qG P (vF r v)))) (some (tD (vF r v))) a5 a6) (s++[F.map rD])=.ok (.nx (EC (some d) (some (rD (stp r v))) s.length (some (tD (qG P (vF r v)))) (some (tD (vF r v))) z5 z6)) (s++[(z9n F (qG P (vF r v))).map rD]):=by
   rw [xS,ji,vy (n:=n) (s1:=s++[F.map rD]) (by omega) (by rw [zm,xg (x:=rD (stp r v)) (vr rfl),lg,R.bind_ok,zE,R.bind_ok]),R.bind_ok];exact lp
  obtain ⟨b1,b3,b4,b5,b6,ih⟩:=ih (qG P (vF r v)) (z9n F (qG P (vF r v))) (some (tD (vF r v))) z5 z6 h2 I2 (by
   have:=z3L (n:=n) (P:=qG P (vF r v)) F I2.tab.len;simp at hl ⊢;omega);refine ⟨b1,b3,b4,b5,b6,?_⟩;rw [List.length_cons,vS,tst F v _ a4 a5 a6 h,hend,R.bind_ok,if_pos (by rfl),zi f4,zi f5,f6,R.bind_ok];simp only;rw [ih,Rn.tabs_cons,wd,List.drop_succ_cons,List.drop_zero];have sc:∀ (ts:List Tb) (Q:Tb),wd Q ts=Q::(wd Q ts).drop 1:=fun ts Q=>by cases ts<;>rfl
  conv=>rhs;rw [sc]
  rfl
end
end K43
namespace Pp
open PySem.Spec L2 Dd Pm Pg Pn
abbrev T39:Int:=1000000000000000000000000000000000000000
theorem t39:T39<2 ^ 2000:=by decide +kernel
theorem zkt{r:Int}(s:Sto)(h0:0<=r)(h1:r<5):∃ far:Int,dIx (.lst [.int 4,.int 31,.int 1001,.int 1000000000000000,.int T39]) (.int r) s=.ok (.int far) s/\4<=far/\far<=T39:=by
 obtain ⟨k,rfl⟩:=Int.eq_ofNat_of_zero_le h0;have:k=0\/k=1\/k=2\/k=3\/k=4:=by omega
 rcases this with rfl | rfl | rfl | rfl | rfl;·exact ⟨4,rfl,by decide,by decide⟩
 ·exact ⟨31,rfl,by decide,by decide⟩
 ·exact ⟨1001,rfl,by decide,by decide⟩
 ·exact ⟨1000000000000000,rfl,by decide,by decide⟩
 ·exact ⟨T39,rfl,by decide,by decide⟩
theorem ints_of:∀ ys:List D,(∀ y∈ys,∃ x:Int,y=.int x/\0<=x/\x<=T39)->∃ xs:List Int,ys=iL xs/\∀ x∈xs,0<=x/\x<=T39
 | [],_=>⟨[],rfl,by simp⟩ | y::ys,h=>by
  obtain ⟨x,rfl,hx⟩:=h y (by simp);obtain ⟨xs,rfl,hs⟩:=ints_of ys fun z hz=>h z (by simp [hz]);exact ⟨x::xs,rfl,fun z hz=>by rcases List.mem_cons.mp hz with rfl | hz;exact hx;exact hs z hz⟩
abbrev EvL(l:Nat)(n:Nat)(a3 a4 a5 a6 a7:Option D):Ev:=[some (.loc l),some (.int n),some (.int T39),a3,a4,a5,a6,a7]
theorem zge {s:Sto} {l n:Nat} (h:Pot s l) (hsz:Sz n):∃ v s',wv [.loc l,.int n,.int T39] s=.ok (rD v) s'/\LotB n 131 v/\qS s s' l:=by
 have hl:=h.lt;have hn:2<=n/\n<=4:=by unfold Sz at hsz;omega
 have st:zv ["_law_pot_here","_law_size","_law_most","_law_far","_law_found","_law_way","_law_at","_law_to"] [.loc l,.int n,.int T39]=EvL l n none none none none none:=rfl;obtain ⟨r1,s1,e1,a1,b1,d1⟩:=z1S (Z:=EvL l n none none none none none) (f:=zc 0) (g:=eC (.int 5)) (far:=5) h (by decide) (z8A (by decide)) (by simp) (by simp);obtain ⟨far,ef,f0,f1⟩:=zkt s1 a1 b1;have p1:vX (EvL l n none none none none none) s=.ok (.nx (EvL l n (some (.int far)) none none none none)) s1:=by
  have x1:eOp uF (zc 2) (eC (.int 1)) (EvL l n none none none none none) s=.ok (.int (T39+1)) s:=by simp
  have x2:eOp dIx (z8h (za (eC (.int 4)) (za (eC (.int 31)) (za (eC (.int 1001)) (za (eOp z7g (eC (.int 10)) (eC (.int 15))) (za (eOp z7g (eC (.int 10)) (eC (.int 39))) zh)))))) (zd zG (za (zc 0) (za (eC (.int 5)) zh))) (EvL l n none none none none none) s=.ok (.int far) s1:=by
   rw [xp];have:z8h (za (eC (.int 4)) (za (eC (.int 31)) (za (eC (.int 1001)) (za (eOp z7g (eC (.int 10)) (eC (.int 15))) (za (eOp z7g (eC (.int 10)) (eC (.int 39))) zh))))) (EvL l n none none none none none) s=.ok (.lst [.int 4,.int 31,.int 1001,.int 1000000000000000,.int T39]) s:=by
    simp only [z5m,zm,zE,kw,xp,R.bind_ok,zi3,zfS];rw [if_pos (by simp [cap])]
   rw [this,R.bind_ok,e1,R.bind_ok,ef]
  have x3:z6m [.int (T39+1),.int far] s1=.ok (.int far) s1:=by
   simp only [z6m];congr 2;omega
  rw [vX,yp,yy,zm,x1,R.bind_ok,zm,x2];simp only [R.bind_ok,zE,x3];rfl
 obtain ⟨ys,s2,e2,y1,y2,d2⟩:=zc2 (fi:=qU (za (zc 1) zh)) (mp:=[some 0,some 3,none]) (fg:=yn 2) (fe:=zd zG (za (zc 0) (za (zc 1) zh))) (Z:=EvL l n (some (.int far)) none none none none) (s:=s1) (s0:=s1) (fun k:Nat=>D.int ((k:Nat):Int)) (fun k=>[some (.loc l),some (.int far),some (.int ((k:Nat):Int))]) (fun _ s'=>qS s s' l) (fun y=>∃ x:Int,y=.int x/\0<=x/\x<=T39) (List.range n) (vy (n:=n) (by omega) (by simp)) (fun k _ s=>by simp) (fun i k _ s' hd=>by
   obtain ⟨x,s'',e,x0,x1,d⟩:=zcI hd.pot (far:=far) (by omega) (Int.lt_of_le_of_lt f1 t39);exact ⟨.int x,s'',by rw [call2 (x:=.loc l) (y:=.int far) (vr rfl) (vr rfl)];exact e,⟨x,rfl,x0,by omega⟩,hd.trans d⟩) (by simp [cap];omega) d1 (fun y ⟨x,hx,_⟩=>by subst hx;rfl);obtain ⟨xs,rfl,x2⟩:=ints_of ys y2;have n2:xs.length=n:=by simpa using y1
 have p2:ud (EvL l n (some (.int far)) none none none none) s1=.ok (.nx (EvL l n (some (.int far)) (some (.loc s.length)) none none none)) (s2++[iL xs]):=by
  rw [ud,yp,e2,R.bind_ok,d2.len];rfl
 have L2:=LS.start d2 h xs;obtain ⟨way,s3,e3,a3,b3,d3⟩:=z1S (Z:=EvL l n (some (.int far)) (some (.loc s.length)) none none none) (f:=zc 0) (g:=eC (.int 6)) (far:=6) L2.pot (by decide) (z8A (by decide)) (by simp) (by simp);have L3:=L2.drawn hl d3;have p3:vU (EvL l n (some (.int far)) (some (.loc s.length)) none none none) (s2++[iL xs])=.ok (.nx (EvL l n (some (.int far)) (some (.loc s.length)) (some (.int way)) none none)) s3:=by rw [vU,yp,e3];rfl
 obtain ⟨at_,s4,e4,a4,b4,d4⟩:=z1S (Z:=EvL l n (some (.int far)) (some (.loc s.length)) (some (.int way)) none none) (f:=zc 0) (g:=zc 1) (far:=n) L3.pot (by omega) (z8A (by omega)) (by simp) (by simp);have L4:=L3.drawn hl d4;obtain ⟨to,s5,e5,a5,b5,d5⟩:=z1S (Z:=EvL l n (some (.int far)) (some (.loc s.length)) (some (.int way)) none none) (f:=zc 0) (g:=zc 1) (far:=n) L4.pot (by omega) (z8A (by omega)) (by simp) (by simp);have L5:=L4.drawn hl d5;have p4:vR (EvL l n (some (.int far)) (some (.loc s.length)) (some (.int way)) none none) s3=.ok (.nx (EvL l n (some (.int far)) (some (.loc s.length)) (some (.int way)) (some (.int at_)) (some (.int to)))) s5:=by
  rw [vR,zfW,zm,e4,R.bind_ok,zm,e5];rfl
 let E:=EvL l n (some (.int far)) (some (.loc s.length)) (some (.int way)) (some (.int at_)) (some (.int to));have s5':∃ s6 ys,wA E s5=.ok (.nx E) s6/\LS s l s6 ys/\(∀ y∈ys,0<=y/\y<=T39)/\ys.length=n:=by
  have t:tOf (eOp dEq (zc 5) (eC (.int 0))) E s5=.ok (decide (way=0)) s5:=z1I (by rw [op2 (x:=.int way) (y:=.int 0) (vr rfl) rfl,z5g]);by_cases z:way=0
  ·refine ⟨_,_,?_,L5.set hl (xs.set at_.toNat 0),za6 x2 (by omega),by simp [n2]⟩;rw [wA,z0i,t,R.bind_ok,if_pos (by simpa using z),jl];exact z4F (s1:=s5) (s2:=s5) (x:=0) rfl (vr rfl) (vr rfl) L5.at_ a4 (by omega)
  ·refine ⟨s5,xs,?_,L5,x2,n2⟩;rw [wA,z0i,t,R.bind_ok,if_neg (by simpa using z)];rfl
 obtain ⟨s6,ys,p5,L6,x6,n6⟩:=s5';have s7':∃ s7 zs,wx E s6=.ok (.nx E) s7/\LS s l s7 zs/\(∀ y∈zs,0<=y/\y<=T39)/\zs.length=n:=by
  have t:tOf (eOp dEq (zc 5) (eC (.int 1))) E s6=.ok (decide (way=1)) s6:=z1I (by rw [op2 (x:=.int way) (y:=.int 1) (vr rfl) rfl,z5g]);by_cases z:way=1
  ·have hra:to.toNat<ys.length:=by omega
   have ix:=zg4 (d:=.int ys[to.toNat]) L6.at_ a5 (by simp [hra]);have my:=x6 ys[to.toNat] (List.getElem_mem hra);refine ⟨_,_,?_,L6.set hl (ys.set at_.toNat ys[to.toNat]),za6 x6 my,by simp [n6]⟩;rw [wx,z0i,t,R.bind_ok,if_pos (by simpa using z),jn];exact z4F (s1:=s6) (s2:=s6) (x:=ys[to.toNat]) (by rw [op2 (x:=.loc s.length) (y:=.int to) (vr rfl) (vr rfl)];exact ix) (vr rfl) (vr rfl) L6.at_ a4 (by omega)
  ·refine ⟨s6,ys,?_,L6,x6,n6⟩;rw [wx,z0i,t,R.bind_ok,if_neg (by simpa using z)];rfl
 obtain ⟨s7,zs,p7,L7,x7,n7⟩:=s7';have ne7:zs≠[]:=fun z=>by rw [z] at n7;simp at n7;omega
 have s9':∃ s9 ws,wD E s7=.ok (.nx E) s9/\LS s l s9 ws/\(∀ y∈ws,0<=y/\y<=T39)/\ws.length=n/\∃ x∈ws,0<x:=by
  have t:=ze5 (f:=zc 4) (Z:=E) ne7 L7.at_ (vr rfl);by_cases z:maxL zs=0
  ·obtain ⟨ra,sa,ea,aa,ba,da⟩:=z1S (Z:=E) (f:=zc 0) (g:=eOp zd1 (zc 3) (eC (.int 1))) (far:=far-1) L7.pot (by omega) (Int.lt_trans (by omega) t39) (vr rfl) (by rw [op2 (x:=.int far) (y:=.int 1) (vr rfl) rfl];rfl);have La:=L7.drawn hl da;refine ⟨_,_,?_,La.set hl (zs.set to.toNat (1+ra)),za6 x7 (by omega),by simp [n7],1+ra,List.mem_set (by omega) _,by omega⟩;rw [wD,z0i,t,R.bind_ok,if_pos (by simpa using z),qP];exact z4F (s1:=sa) (s2:=sa) (x:=1+ra) (by rw [xp,kw,R.bind_ok,ea];rfl) (vr rfl) (vr rfl) La.at_ a5 (by omega)
  ·refine ⟨s7,zs,?_,L7,x7,n7,z9a ne7 (fun y hy=>(x7 y hy).1) z⟩;rw [wD,z0i,t,R.bind_ok,if_neg (by simpa using z)];rfl
 obtain ⟨s9,ws,p9,L9,x9,n9,w9⟩:=s9';refine ⟨ws,s9.take s.length,?_,⟨⟨hsz,n9,fun x hx=>(x9 x hx).1,w9⟩,fun x hx=>?_⟩,L9.fin hl⟩
 ·simp only [wv,z3S,Mof,jN,st,List.length_cons,List.length_nil,if_true];rw [zi p1,zi p2,zi p3,zi p4,zi p5,zi p7,zi p9];have c:zQ [.loc s.length] s9=.ok (rD ws) s9:=by simp only [zQ,zF,L9.at_]
  rw [qH,yC,xg (x:=.loc s.length) (vr rfl),c];simp only [R.bind_ok];exact z7J
 ·have b:x<=1000000000000000000000000000000000000000:=(x9 x hx).2;have:(2:Int) ^ 131=2722258935367507707706996859454145691648:=by decide
  omega
theorem zem {s:Sto} {l:Nat} (h:Pot s l):∃ n ps q s',wm [.loc l] s=.ok (rD (ps++[q])) s'/\Bot n 131 ps q/\qS s s' l:=by
 obtain ⟨r1,s1,e1,a1,b1,d1⟩:=z1S (Z:=[some (.loc l),none]) (f:=zc 0) (g:=eC (.int 3)) (far:=3) h (by decide) (z8A (by decide)) (by simp) (by simp);obtain ⟨n,hn⟩:∃ n:Nat,2+r1=(n:Int):=⟨(2+r1).toNat,by omega⟩;have hsz:Sz n:=by unfold Sz;omega
 obtain ⟨v,s2,e2,lv,d2⟩:=zge d1.pot hsz;have ne:v≠[]:=by intro z;have:=lv.len;unfold Sz at hsz;subst z;simp at this;omega
 obtain ⟨ps,q,rfl⟩:∃ pre x,v=pre++[x]:=⟨v.dropLast,v.getLast ne,(List.dropLast_concat_getLast ne).symm⟩;have st:zv ["_law_pot_here","_law_lot_here"] [.loc l]=[some (.loc l),none]:=rfl;have p1:uB [some (.loc l),none] s=.ok (.nx [some (.loc l),some (rD (ps++[q]))]) s2:=by
  have x1:eOp uF (eC (.int 2)) (zd zG (za (zc 0) (za (eC (.int 3)) zh))) [some (.loc l),none] s=.ok (.int n) s1:=by rw [xp,kw,R.bind_ok,e1];simp [hn]
  rw [uB,yp,yy,zm,vr (d:=.loc l) rfl,R.bind_ok,zm,x1];simp only [R.bind_ok,zm,zE,xp,kw,zfS];rw [e2];rfl
 have ix:=zeZ ps q s2;have sl:=zeT ps q s2;have hq0:0<=q:=lv.toLot.nn q (by simp);have lp:ps.length+1=n:=by simpa using lv.len
 have fin:∀ (d:D) (s':Sto),zS wU jQ [some (.loc l),some (rD (ps++[q]))] s2=.ok (.rt d) s'->wm [.loc l] s=.ok d s':=fun d s' hh=>by
  simp only [wm,Mof,kA,st,List.length_cons,List.length_nil,if_true];rw [zi p1,hh]
 have tt:∀ d:D,dIx d (.int (-1)) s2=.ok (.int q) s2->tOf (eOp dEq (eOp dIx (zc 1) (z0B (eC (.int 1)))) (eC (.int 0))) [some (.loc l),some d] s2=.ok (decide (q=0)) s2:=fun d hd=>by
  refine z1I ?_;rw [op2 (x:=.int q) (y:=.int 0) (by rw [op2 (x:=d) (y:=.int (-1)) (by simp) (by simp)];exact hd) (by simp),z5g]
 by_cases z:q=0
 ·obtain ⟨r3,s3,e3,a3,b3,d3⟩:=z1S (Z:=[some (.loc l),some (rD (ps++[q]))]) (f:=zc 0) (g:=eC (.int 30)) (far:=30) d2.pot (by decide) (z8A (by decide)) (by simp) (by simp);have p3:wS [some (.loc l),some (rD (ps++[q]))] s2=.ok (.nx [some (.loc l),some (rD (ps++[1+r3]))]) s3:=by
   have key:∀ d:D,dSl d none (some (-1)) s2=.ok (.tup (iL ps)) s2->zd zG (za (zc 0) (za (eC (.int 30)) zh)) [some (.loc l),some d] s2=.ok (.int r3) s3->wS [some (.loc l),some d] s2=.ok (.nx [some (.loc l),some (rD (ps++[1+r3]))]) s3:=fun d h1 h2=>by
    have x1:eSl (zc 1) zZ (wn (z0B (eC (.int 1)))) [some (.loc l),some d] s2=.ok (.tup (iL ps)) s2:=by simp only [z2C,yf,List.getElem?_cons_zero,List.getElem?_cons_succ,R.bind_ok,xP,uD,z8d,kw];exact h1
    have x2:jE (za (eOp uF (eC (.int 1)) (zd zG (za (zc 0) (za (eC (.int 30)) zh)))) zh) [some (.loc l),some d] s2=.ok (.tup [.int (1+r3)]) s3:=by
     rw [qL,zm,xp,kw,R.bind_ok,h2];simp [cap]
    rw [wS,yp,xp,x1,R.bind_ok,x2,R.bind_ok,z3d,if_pos (by simp [cap,iL];unfold Sz at hsz;omega)];simp [iL]
   exact key _ sl e3
  refine ⟨n,ps,1+r3,s3,fin _ _ ?_,⟨⟨⟨hsz,by simpa using lp,fun x hx=>?_,1+r3,by simp,by omega⟩,fun x hx=>?_⟩,by omega⟩,(d1.trans d2).trans d3⟩
  ·rw [zi (Z':=[some (.loc l),some (rD (ps++[1+r3]))]) (s':=s3) (by rw [wU,z0i,tt _ ix,R.bind_ok,if_pos (by simpa using z)];exact p3)];generalize rD (ps++[1+r3])=d;rfl
  ·rcases List.mem_append.mp hx with hx | hx;·exact lv.toLot.nn x (by simp [hx])
   ·simp at hx;omega
  ·rcases List.mem_append.mp hx with hx | hx;·exact lv.bd x (by simp [hx])
   ·have:(2:Int) ^ 131=2722258935367507707706996859454145691648:=by decide
    simp at hx;omega
 ·refine ⟨n,ps,q,s2,fin _ _ ?_,⟨lv,by omega⟩,d1.trans d2⟩;rw [zi (Z':=[some (.loc l),some (rD (ps++[q]))]) (s':=s2) (by rw [wU,z0i,tt _ ix,R.bind_ok,if_neg (by simpa using z)];rfl)];generalize rD (ps++[q])=d;rfl
end Pp
namespace K43
open PySem.Spec L2 Dd Pm Pg Pn Po Pr Pp
theorem zdh {n m:Nat} {v:List Int} {ls:List (List Int)} (r:Rl) (h:LotB n m v) (Rn:Run r v ls) (hm:m<=1999) (hl:ls.length<=20000) (s:Sto):yP [.str (nmR r),rD v] s=.ok (.loc s.length) (s++[(zba n r ls).map rD]):=by
 have n4:n<=4/\2<=n:=by have:=h.sz;simp only [Sz] at this;omega
 have lg:∀ S:Sto,yE [rD v] S=.ok (.int ((n:Nat):Int)) S:=fun S=>by simp [yE,zF,h.len]
 have lp:=fun d (hd:d=D.str (nmR r))=>z8v (n:=n) (m:=m) (x:=v) (B:=2 ^ m-1) hd (by omega) hm (fun y hy=>by have:=h.bd y hy;omega) s Rn (one n) [] none none none h (PI.start h.toLot fun y hy=>by have:=h.bd y hy;omega) (by simp [cap];omega);have key:∀ d e:D,d=.str (nmR r)->e=rD v->(∀ S:Sto,yE [e] S=.ok (.int ((n:Nat):Int)) S)->yP [d,e] s=.ok (.loc s.length) (s++[(zba n r ls).map rD]):=fun d e hd he lg=>by
  have st:zv ["_law_rule","_law_lot_here","_law_found","_law_whole_here","_law_table","_law_column","_law_some"] [d,e]=[some d,some e,none,none,none,none,none]:=rfl;have f1:vd [some d,some e,none,none,none,none,none] s=.ok (.nx (EC (some d) (some e) s.length none none none none)) (s++[([]:List (List Int)).map rD]):=by
   rw [vd,yp,z31,zE,R.bind_ok,if_pos ⟨by simp,rfl⟩];rfl
  have f2:vq (EC (some d) (some e) s.length none none none none) (s++[([]:List (List Int)).map rD])=.ok (.nx (EC (some d) (some e) s.length (some (tD (one n))) none none none)) (s++[([]:List (List Int)).map rD]):=by
   generalize (s++[([]:List (List Int)).map rD])=S;have c:=comp_map (s:=S) (mp:=[some 1,none]) (fg:=yn 1) (fe:=zd zQ (za (zn (qU (za (zd yE (za (zc 0) zh)) zh)) [some 1,none] (yn 1) zR (zd zai (za (eOp dEq (zc 0) (zc 1)) zh))) zh)) (fun i:Nat=>D.int ((i:Nat):Int)) (fun i:Nat=>rD ((List.range n).map fun j=>if i=j then 1 else 0)) (fun i=>[some e,some (.int ((i:Nat):Int))]) (List.range n) (vy (n:=n) (Z:=EC (some d) (some e) s.length none none none none) (ar:=za (zd yE (za (zc 1) zh)) zh) (by omega) (by rw [zm,xg (x:=e) (vr rfl),lg,R.bind_ok,zE,R.bind_ok])) (fun i _=>by simp) (fun i _=>by
     have c2:=comp_map (s:=S) (mp:=[some 1,none]) (fg:=yn 1) (fe:=zd zai (za (eOp dEq (zc 0) (zc 1)) zh)) (fun c:Nat=>D.int ((c:Nat):Int)) (fun c:Nat=>D.int (if i=c then 1 else 0)) (fun c=>[some (.int ((i:Nat):Int)),some (.int ((c:Nat):Int))]) (List.range n) (vy (n:=n) (Z:=[some e,some (.int ((i:Nat):Int))]) (ar:=za (zd yE (za (zc 0) zh)) zh) (by omega) (by rw [zm,xg (x:=e) (vr rfl),lg,R.bind_ok,zE,R.bind_ok])) (fun c _=>by simp) (fun c _=>by
       rw [xg (x:=.bl (decide (((i:Nat):Int)=((c:Nat):Int)))) (by simp)];by_cases q:i=c;·simp [zai,q]
       ·have:¬ ((i:Nat):Int)=((c:Nat):Int):=by omega
        simp [zai,q,this]) (by simp [cap];omega);rw [xg c2,jc];simp [Function.comp_def]) (by simp [cap];omega);rw [vq,yp,xg c,jc];simp only [R.bind_ok,List.set_cons_succ,List.set_cons_zero];rw [show D.tup ((List.range n).map fun i:Nat=>rD ((List.range n).map fun j=>if i=j then 1 else 0))=tD (one n) by simp [one,tD,Function.comp_def]]
  obtain ⟨b1,b3,b4,b5,b6,lp⟩:=lp d hd;rw [<- he] at lp;have f3:vw (EC (some d) (some e) s.length (some (tD (one n))) none none none) (s++[([]:List (List Int)).map rD])=.ok (.nx (EC (some d) b1 s.length b3 b4 b5 b6)) (s++[(z4M [] ((wd (one n) (zY r ls)).drop 1)).map rD]):=by rw [vw];exact z8b lp (by simp)
  simp only [yP,Mof,jf,st,List.length_cons,List.length_nil,if_true];rw [zi f1,zi f2,zi f3,uL,yC,vr (d:=.loc s.length) rfl];rfl
 exact key _ _ rfl rfl lg
theorem zh1(v:List Int)(h:v.length<=cap):smD 2 (rD v)=true:=by
 simp only [smD,Bool.and_eq_true,List.all_eq_true,decide_eq_true_eq];refine ⟨fun x hx=>?_,by simpa using h⟩;obtain ⟨i,_,rfl⟩:=List.mem_map.mp hx;rfl
theorem z9p {F:List (List Int)} {l:Nat} {s:Sto} (hs:s[l]? = some (F.map rD)) (hl:F.length<=cap) (h:∀ v∈F,v.length<=cap):wR [.loc l,.lst (F.map rD)] s=.ok (.bl true) s:=by
 have hm:∀ x∈F.map rD,zU 3 [x,x] s=.ok (.bl true) s:=fun x hx=>by
  obtain ⟨v,hv,rfl⟩:=List.mem_map.mp hx;exact z6Y 2 _ s (zh1 v (h v hv))
 have key:∀ (xs:List D),s[l]? = some xs->xs.length<=cap->(∀ x∈xs,zU 3 [x,x] s=.ok (.bl true) s)->zU 4 [.loc l,.lst xs] s=.ok (.bl true) s:=fun xs hs hl hm=>by
  generalize hMr:zU 3=Mr at hm;have e4:zU 4=Mof ["_law_found","_law_due"] 2 (zM Mr):=by rw [<- hMr];rfl
  rw [e4];have st:zv ["_law_found","_law_due"] [D.loc l,D.lst xs]=[some (.loc l),some (.lst xs)]:=rfl;have cp:=z1q (G:=[(l,xs)]) (fi:=z5u (za (zc 0) (za (zc 1) zh))) (mp:=[none,none]) (fg:=xN 0 1) (fe:=zd Mr (za (zc 0) (za (zc 1) zh))) (Z:=[some (.loc l),some (.lst xs)]) (s:=s) (fun x=>D.tup [x,x]) (fun _=>D.bl true) (fun x=>[some x,some x]) xs (by simp [z0Q,hs,z4D]) (by
    intro p hp;simp only [List.mem_singleton] at hp;subst hp;exact hs) (fun x _=>by simp) (fun x hx=>by rw [call2 (x:=x) (y:=x) (by simp) (by simp)];exact hm x hx) hl;have ga:zd z8U (za (zn (z5u (za (zc 0) (za (zc 1) zh))) [none,none] (xN 0 1) zR (zd Mr (za (zc 0) (za (zc 1) zh)))) zh) [some (.loc l),some (.lst xs)] s=.ok (.bl true) s:=by
   rw [xg cp];exact z1d s (by intro x hx;obtain ⟨_,_,rfl⟩:=List.mem_map.mp hx;rfl)
  simp only [Mof,zM,st,List.length_cons,List.length_nil,if_true];have e1:zd yE (za (zc 0) zh) [some (.loc l),some (.lst xs)] s=.ok (.int xs.length) s:=by simp [yE,zF,hs]
  have e2:zd yE (za (zc 1) zh) [some (.loc l),some (.lst xs)] s=.ok (.int xs.length) s:=by simp [yE,zF]
  have f1:wZ Mr [some (.loc l),some (.lst xs)] s=.ok (.nx [some (.loc l),some (.lst xs)]) s:=by simp [dIs]
  have f3:vp Mr [some (.loc l),some (.lst xs)] s=.ok (.nx [some (.loc l),some (.lst xs)]) s:=by simp [gIs,tyD,isT]
  have f5:va Mr [some (.loc l),some (.lst xs)] s=.ok (.nx [some (.loc l),some (.lst xs)]) s:=by simp [gIs,tyD,isT]
  have f7:ve Mr [some (.loc l),some (.lst xs)] s=.ok (.nx [some (.loc l),some (.lst xs)]) s:=by simp [gIs,tyD,isT]
  have f9:vm Mr [some (.loc l),some (.lst xs)] s=.ok (.nx [some (.loc l),some (.lst xs)]) s:=by simp [gIs,tyD,isT]
  have f11:yY Mr [some (.loc l),some (.lst xs)] s=.ok (.rt (.bl true)) s:=by
   rw [yY,yC,z7A,op2 e1 e2,z5g];simp only [R.bind_ok,decide_true];rw [ga];rfl
  rw [zi f1,zi f3,zi f5,zi f7,zi f9,f11]
 exact key _ hs (by simpa using hl) hm
theorem z7O {n:Nat}:∀ (Ps:List Tb) (F:List (List Int)),(∀ P∈Ps,Tab n P)->(z4M F Ps).length<=F.length+n*Ps.length
 | [],F,_=>by simp [z4M] | P::Ps,F,h=>by
  have h1:=z3L (n:=n) (P:=P) F (h P (by simp)).len;have h2:=z7O Ps (z9n F P) fun Q hQ=>h Q (by simp [hQ]);show (z4M (z9n F P) Ps).length<=_;rw [List.length_cons,Nat.mul_succ];omega
theorem zbp{F:List (List Int)}{c x:List Int}(h:x∈z3J F c):x∈F\/x=c:=by
 unfold z3J zdd at h;split at h;·exact .inl h
 ·split at h;·exact .inl h
  ·simpa using h
theorem z7W{n:Nat}{P:Tb}(hP:P.length=n):∀ (cs:List (List Int))(F:List (List Int)),(∀ c∈cs,c.length=n)->(∀ x∈F,x.length=n)->∀ x∈cs.foldl z3J F,x.length=n
 | [],F,_,hF=>hF | c::cs,F,hc,hF=>z7W hP cs (z3J F c) (fun y hy=>hc y (by simp [hy])) fun x hx=>by
  rcases zbp hx with q | rfl;·exact hF x q
  ·exact hc _ (by simp)
theorem z82{n:Nat}:∀ (Ps:List Tb)(F:List (List Int)),(∀ P∈Ps,Tab n P)->(∀ x∈F,x.length=n)->∀ x∈z4M F Ps,x.length=n
 | [],F,_,hF=>hF | P::Ps,F,h,hF=>z82 Ps (z9n F P) (fun Q hQ=>h Q (by simp [hQ])) (z7W (h P (by simp)).len (zO P) F (fun c hc=>by
   simp only [zO,List.mem_map] at hc;obtain ⟨j,_,rfl⟩:=hc;rw [List.length_map,(h P (by simp)).len]) hF)
structure Gd(lot:D)(C:Rl->List (List Int)):Prop where
 col:∀ r s,∃ t,xa [.str (nmR r),lot] s=.ok (.loc (s.length+1)) (s++[t]++[(C r).map rD])
 law:∀ r s,yP [.str (nmR r),lot] s=.ok (.loc s.length) (s++[(C r).map rD])
 len:∀ r,(C r).length<cap
 row:∀ r,∀ v∈C r,v.length<=cap
theorem zj2{n:Nat}{ps:List Int}{q:Int}(B:Bot n 131 ps q):∃ C,Gd (rD (ps++[q])) C:=by
 have run:∀ r:Rl,∃ ls,Run r (ps++[q]) ls/\ls.length<=20000:=fun r=>by
  obtain ⟨ls,Rn,ll⟩:=zcR (r:=r) (20*131+3) (ps++[q]) B.lot.toLot (zis (r:=r) B.lot.toLot B.lot.toN);exact ⟨ls,Rn,by omega⟩
 have n4:n<=4/\2<=n:=by have:=B.lot.sz;simp only [Sz] at this;omega
 have tabs:∀ r,∀ P∈(wd (one n) (zY r (run r).choose)).drop 1,Tab n P:=fun r P hP=>z7E (run r).choose_spec.1 B.lot (one n) (z3H n) P (List.mem_of_mem_drop hP);refine ⟨fun r=>zba n r (run r).choose,fun r s=>⟨_,z20 r B.lot (by have:=B.pos;simp;omega) (run r).choose_spec.1 (by decide) (run r).choose_spec.2 s⟩,fun r s=>zdh r B.lot (run r).choose_spec.1 (by decide) (run r).choose_spec.2 s,fun r=>?_,fun r v hv=>?_⟩
 ·have h1:=z7O (n:=n) _ [] (tabs r);have h2:=z2e (zY r (run r).choose) (one n);have h3:=(run r).choose_spec.2;have h4:(zY r (run r).choose).length<=(run r).choose.length:=by simp [zY]
  show (z4M [] _).length<cap;have h5:((wd (one n) (zY r (run r).choose)).drop 1).length<=20000:=by rw [List.length_drop];omega
  have h6:n*((wd (one n) (zY r (run r).choose)).drop 1).length<=4*20000:=Nat.mul_le_mul n4.1 h5;simp only [List.length_nil,Nat.zero_add] at h1;simp only [cap];omega
 ·have:=z82 (n:=n) _ [] (tabs r) (by simp) v hv;rw [this];simp [cap];omega
abbrev Sh(sc:D)(a1 a2 a3 a4 a5 a6 a7:Option D):Ev:=[some sc,a1,a2,a3,a4,a5,a6,a7]
def zhz:List Rl:=[.nx,.le,.al,.tu]
theorem zc0(s:Sto):xD [] s=.ok (.lst (zhz.map fun r=>D.str (nmR r))) s:=by
 have c4:(4:Nat)<=cap:=by decide
 have st:zv [] []=[]:=rfl;simp only [xD,Mof,qM,st,List.length_nil,if_true,uS,yC,z5m,zm,zE,kw,R.bind_ok,List.length_cons,Nat.zero_add,Nat.reduceAdd,if_pos c4];rfl
abbrev zdE:D->Ev->Sto->R Fl:=fun d Z s=>(yn 6 d Z s).bind fun Z' s'=>(zS z1p (zS z1v z15)) Z' s'
abbrev zdF:D->Ev->Sto->R Fl:=fun d Z s=>(yn 4 d Z s).bind fun Z' s'=>(zS z1V z41) Z' s'
abbrev zeO:D->Ev->Sto->R Fl:=fun d Z s=>(yn 1 d Z s).bind fun Z' s'=>(zS z25 (zS z1x z2r)) Z' s'
section
variable {sc lot:D}{C:Rl->List (List Int)}(G:Gd lot C){a1 a2:Option D}
include G
theorem zef (r:Rl) (x:D) (a6 a7:Option D) (s:Sto):∃ a7' s',zdE x (Sh sc a1 a2 (some lot) (some (.str (nmR r))) (some (.lst ((C r).map rD))) a6 a7) s=.ok (.nx (Sh sc a1 a2 (some lot) (some (.str (nmR r))) (some (.lst ((C r).map rD))) (some x) a7')) s':=by
 rw [show zdE x (Sh sc a1 a2 (some lot) (some (.str (nmR r))) (some (.lst ((C r).map rD))) a6 a7) s=(zS z1p (zS z1v z15)) (Sh sc a1 a2 (some lot) (some (.str (nmR r))) (some (.lst ((C r).map rD))) (some x) a7) s from rfl];obtain ⟨t,e⟩:=G.col r s;have hl:=G.len r;have gS:(s++[t]++[(C r).map rD])[s.length+1]? = some ((C r).map rD):=by rw [List.getElem?_append_right (by simp)];simp
 have sm:=z9p gS (Nat.le_of_lt hl) (G.row r);have ln:((C r).map rD).length<cap:=by simpa using hl
 generalize (C r).map rD=X at *;generalize s++[t]++[X]=S at *;generalize s.length+1=l at *;generalize nmR r=nm at *;have f7:z1p (Sh sc a1 a2 (some lot) (some (.str nm)) (some (.lst X)) (some x) a7) s=.ok (.nx (Sh sc a1 a2 (some lot) (some (.str nm)) (some (.lst X)) (some x) (some (.loc l)))) S:=by
  rw [z1p,yp,call2 (x:=.str nm) (y:=lot) (vr rfl) (vr rfl),e];rfl
 have f8:z1v (Sh sc a1 a2 (some lot) (some (.str nm)) (some (.lst X)) (some x) (some (.loc l))) S=.ok (.nx (Sh sc a1 a2 (some lot) (some (.str nm)) (some (.lst X)) (some x) (some (.loc l)))) S:=by
  rw [z1v,zeh (by rw [z9T,z1I (b:=true) (by rw [call2 (x:=.loc l) (y:=.lst X) (vr rfl) (vr rfl)];exact sm),R.bind_ok];rfl)];rfl
 refine ⟨some (.loc l),S.set l (X++[.tup []]),?_⟩;rw [zi f7,zi f8,z15,z06,z3b,vr (d:=.loc l) rfl,R.bind_ok,qL,zE];simp only [R.bind_ok];rw [if_pos (by simp [cap])];simp only [R.bind_ok];rw [gS];simp only;rw [if_pos ⟨rfl,ln⟩];rfl
theorem ze8 (r:Rl) (a4 a5 a6 a7:Option D) (s:Sto):∃ a5' a6' a7' s',zdF (.str (nmR r)) (Sh sc a1 a2 (some lot) a4 a5 a6 a7) s=.ok (.nx (Sh sc a1 a2 (some lot) (some (.str (nmR r))) a5' a6' a7')) s':=by
 rw [show zdF (.str (nmR r)) (Sh sc a1 a2 (some lot) a4 a5 a6 a7) s=(zS z1V z41) (Sh sc a1 a2 (some lot) (some (.str (nmR r))) a5 a6 a7) s from rfl];have f5:z1V (Sh sc a1 a2 (some lot) (some (.str (nmR r))) a5 a6 a7) s=.ok (.nx (Sh sc a1 a2 (some lot) (some (.str (nmR r))) (some (.lst ((C r).map rD))) a6 a7)) s:=by
  rw [z1V,yp,z78,call2 (x:=.str (nmR r)) (y:=lot) (vr rfl) (vr rfl),G.law r s,z4C];rfl
 obtain ⟨Z',s',e,a6',a7',hZ⟩:=z19 (all:=yK 2) (body:=zdE) (fun Z _=>∃ a6 a7,Z=Sh sc a1 a2 (some lot) (some (.str (nmR r))) (some (.lst ((C r).map rD))) a6 a7) (yK 2) (fun x hx Z S hI=>by
  obtain ⟨a6,a7,rfl⟩:=hI;obtain ⟨a7',s',e⟩:=zef (sc:=sc) (a1:=a1) (a2:=a2) G r x a6 a7 S;exact ⟨_,s',e,_,_,rfl⟩) (Sh sc a1 a2 (some lot) (some (.str (nmR r))) (some (.lst ((C r).map rD))) a6 a7) s ⟨_,_,rfl⟩;refine ⟨some (.lst ((C r).map rD)),a6',a7',s',?_⟩;rw [zi f5,<- hZ];unfold z41;rw [ji,vy (n:=2) (s1:=s) (by omega) (by rfl),R.bind_ok];exact e
theorem zeJ (a4 a5 a6 a7:Option D) (s:Sto):∃ a4' a5' a6' a7' s',z2r (Sh sc a1 a2 (some lot) a4 a5 a6 a7) s=.ok (.nx (Sh sc a1 a2 (some lot) a4' a5' a6' a7')) s':=by
 obtain ⟨Z',s',e,b4,b5,b6,b7,hZ⟩:=z19 (all:=zhz.map fun r=>D.str (nmR r)) (body:=zdF) (fun Z _=>∃ a4 a5 a6 a7,Z=Sh sc a1 a2 (some lot) a4 a5 a6 a7) (zhz.map fun r=>D.str (nmR r)) (fun x hx Z S hI=>by
  obtain ⟨a4,a5,a6,a7,rfl⟩:=hI;obtain ⟨r,_,rfl⟩:=List.mem_map.mp hx;obtain ⟨a5',a6',a7',s',e⟩:=ze8 (sc:=sc) (a1:=a1) (a2:=a2) G r a4 a5 a6 a7 S;exact ⟨_,s',e,_,_,_,_,rfl⟩) (Sh sc a1 a2 (some lot) a4 a5 a6 a7) s ⟨_,_,_,_,rfl⟩;refine ⟨b4,b5,b6,b7,s',?_⟩;rw [<- hZ];unfold z2r;rw [ji,xU (xs:=zhz.map fun r=>D.str (nmR r)) (by rw [yy,zE,R.bind_ok];exact zc0 s),R.bind_ok];exact e
end
def ShL(ns:List Int)(Z:Ev):Prop:=∃ a1 a2 a3 a4 a5 a6 a7,Z=Sh (.scr (iL ns)) a1 a2 a3 a4 a5 a6 a7
theorem zdj (ns:List Int) (j:Nat) (Z:Ev) (s:Sto) (h:ShL ns Z):∃ Z' s',zeO (.int j) Z s=.ok (.nx Z') s'/\ShL ns Z':=by
 obtain ⟨a1,a2,a3,a4,a5,a6,a7,rfl⟩:=h;rw [show zeO (.int j) (Sh (.scr (iL ns)) a1 a2 a3 a4 a5 a6 a7) s=(zS z25 (zS z1x z2r)) (Sh (.scr (iL ns)) (some (.int j)) a2 a3 a4 a5 a6 a7) s from rfl];obtain ⟨c,e1⟩:=zfY ns j s;obtain ⟨q0,e2⟩:=zj9 c s;have p0:Pot (s++[[.int q0]]) s.length:=⟨q0,by simp⟩;have g2:z25 (Sh (.scr (iL ns)) (some (.int j)) a2 a3 a4 a5 a6 a7) s=.ok (.nx (Sh (.scr (iL ns)) (some (.int j)) (some (.loc s.length)) a3 a4 a5 a6 a7)) (s++[[.int q0]]):=by rw [z25,yp,xg (x:=.int c) (by rw [call2 (x:=.scr (iL ns)) (y:=.int j) (vr rfl) (vr rfl),e1]),e2];rfl
 generalize s.length=l at p0 g2;generalize s++[[D.int q0]]=s0 at p0 g2;generalize hsc:D.scr (iL ns)=sc at g2;obtain ⟨n,ps,q,s1,e3,B,d1⟩:=zem p0;obtain ⟨C,G⟩:=zj2 B;generalize rD (ps++[q])=lot at e3 G;have g3:z1x (Sh sc (some (.int j)) (some (.loc l)) a3 a4 a5 a6 a7) s0=.ok (.nx (Sh sc (some (.int j)) (some (.loc l)) (some lot) a4 a5 a6 a7)) s1:=by rw [z1x,yp,xg (x:=.loc l) (vr rfl),e3];rfl
 obtain ⟨b4,b5,b6,b7,s4,g4⟩:=zeJ (sc:=sc) (a1:=some (.int j)) (a2:=some (.loc l)) G a4 a5 a6 a7 s1;refine ⟨Sh sc (some (.int j)) (some (.loc l)) (some lot) b4 b5 b6 b7,s4,?_,?_⟩;·rw [zi g2,zi g3,g4]
 ·rw [<- hsc];exact ⟨_,_,_,_,_,_,_,rfl⟩
theorem zgK(n:Nat)(b:Nat):∃ k:Nat,(if (if ((b:Nat):Int)<(n:Int) then ((b:Nat):Int) else n) > 1 then (if ((b:Nat):Int)<(n:Int) then ((b:Nat):Int) else n) else 1)=(k:Int)/\k<=b+1:=by
 by_cases h:((b:Nat):Int)<n
 ·rw [if_pos h];by_cases h2:((b:Nat):Int) > 1;·exact ⟨b,by rw [if_pos h2],by omega⟩
  ·exact ⟨1,by rw [if_neg h2];rfl,by omega⟩
 ·rw [if_neg h];by_cases h2:((n:Nat):Int) > 1;·exact ⟨n,by rw [if_pos h2],by omega⟩
  ·exact ⟨1,by rw [if_neg h2];rfl,by omega⟩
theorem zfp (ns:List Int):∃ Z' s',z6l (Sh (.scr (iL ns)) none none none none none none none) []=.ok (.nx Z') s':=by
 obtain ⟨k,ek,hk⟩:=zgK ns.length 3;rw [show ((3:Nat):Int)=3 from rfl] at ek;obtain ⟨Z',s',e,_⟩:=z19 (all:=yK k) (body:=zeO) (fun Z _=>ShL ns Z) (yK k) (fun x hx Z s hI=>by
  obtain ⟨j,_,rfl⟩:=z97 hx;exact zdj ns j Z s hI) (Sh (.scr (iL ns)) none none none none none none none) [] ⟨_,_,_,_,_,_,_,rfl⟩;refine ⟨Z',s',?_⟩;unfold z6l;rw [ji,vy (n:=k) (s1:=[]) (by omega) (by simp only [yy,zm,zE,kw,yf,List.getElem?_cons_zero,R.bind_ok,yE,zF,List.length_map,z6m,zcj,ek]),R.bind_ok];exact e
theorem zgR(s:Sto):∃ t,xa [.str "next",rD [0,7]] s=.ok (.loc (s.length+1)) (s++[t]++[[]]):=by
 have L:LotB 2 10 [0,7]:=⟨⟨.inl rfl,rfl,by decide,⟨7,by decide,by decide⟩⟩,by decide⟩;have Rn:Run .nx [0,7] [[0,7]]:=.done (by decide);have e:=z20 .nx L (by decide) Rn (by decide) (by decide) s;rw [z9y Rn (by decide)] at e;exact ⟨_,e⟩
theorem zhe(s:Sto):∃ t X,xa [.str "turn",rD [1,1]] s=.ok (.loc (s.length+1)) (s++[t]++[X++[rD [1,1]]]):=by
 have L:LotB 2 10 [1,1]:=⟨⟨.inl rfl,rfl,by decide,⟨1,by decide,by decide⟩⟩,by decide⟩;have Rn:Run .tu [1,1] [[1,1],[0,1]]:=.step (by decide) (.done (by decide));have e:=z20 .tu L (by decide) Rn (by decide) (by decide) s;have ec:zba 2 .tu [[1,1],[0,1]]=(zba 2 .tu [[1,1],[0,1]]).dropLast++[[1,1]]:=by decide
 rw [ec,List.map_append] at e;exact ⟨_,_,e⟩
theorem zbd:∀ ns:List Int,ns.length<=63->∃ s',zeH [.scr (ns.map D.int)] []=.ok (.bl true) s':=fun ns hn=>by
 obtain ⟨Z',s',e⟩:=zfp ns;obtain ⟨t,e1⟩:=zgR s';obtain ⟨t2,X,e2⟩:=zhe (s'++[t]++[[]]);refine ⟨s'++[t]++[[]]++[t2]++[X++[rD [1,1]]],?_⟩;have st:zv ["_law_script","_law_at","_law_pot_here","_law_lot_here","_law_rule","_law_due","_law_turn","_law_found"] [.scr (ns.map D.int)]=Sh (.scr (iL ns)) none none none none none none none:=rfl;have tup2:∀ (a b:Int) (Z:Ev) (s:Sto),jE (za (eC (.int a)) (za (eC (.int b)) zh)) Z s=.ok (rD [a,b]) s:=fun a b Z s=>by
  rw [qL,zm,kw,R.bind_ok,zm,kw,R.bind_ok,zE];simp only [R.bind_ok];rw [if_pos (by simp [cap])];rfl
 unfold zeH Mof zcU;rw [if_pos (by rfl),st,zi e];have g1:(s'++[t]++[[]])[s'.length+1]? = some ([]:List D):=by rw [List.getElem?_append_right (by simp)];simp
 generalize s'++[t]++[[]]=S1 at *;have g2:(S1++[t2]++[X++[rD [1,1]]])[S1.length+1]? = some (X++[rD [1,1]]):=by rw [List.getElem?_append_right (by simp)];simp
 generalize S1++[t2]++[X++[rD [1,1]]]=S2 at *;have k1:eOp (zda false) (zd Pg.xa (za (eC (.str "next")) (za (jE (za (eC (.int 0)) (za (eC (.int 7)) zh))) zh))) (z8h zh) Z' s'=.ok (.bl true) S1:=by
  rw [xp,call2 (x:=.str "next") (y:=rD [0,7]) rfl (tup2 0 7 _ _),e1,R.bind_ok,z5m,zE];simp only [R.bind_ok];rw [if_pos (by simp [cap])];have p0:z7X (.lst [])=true:=by decide +kernel
  have p1:eqD (.lst []) (.lst [])=true:=by decide +kernel
  simp only [R.bind_ok,zda,see,g1];rw [if_pos ⟨p0,p0⟩,p1];rfl
 have k2:eOp (zda false) (eOp dIx (zd Pg.xa (za (eC (.str "turn")) (za (jE (za (eC (.int 1)) (za (eC (.int 1)) zh))) zh))) (z0B (eC (.int 1)))) (jE (za (eC (.int 1)) (za (eC (.int 1)) zh))) Z' S1=.ok (.bl true) S2:=by
  have ix:=kg (x:=.loc (S1.length+1)) (d:=rD [1,1]) (xs:=X) (s:=S2) (by rw [zF,g2]);rw [xp,xp,call2 (x:=.str "turn") (y:=rD [1,1]) rfl (tup2 1 1 _ _),e2,R.bind_ok];rw [show z0B (eC (.int 1)) Z' S2=.ok (.int (-1)) S2 from rfl,R.bind_ok,ix,R.bind_ok,tup2,R.bind_ok];rfl
 rw [z7v,yC,z7A,k1];simp only [R.bind_ok];rw [k2];rfl
end K43
namespace K43
open PySem.Spec L2 Dd Pg
theorem all_mk {P:Program} {w:World} {K:W.Frag} {h:Heap} {mg:Str->Option Value} {fa:Addr} (X:K.In h) (G:h.Ns mainGlobals mg) (hfa:mg "law"=some (.ref fa)) (e:zbb askQ K=valS askQ w) : ∃ fd:FuncData,(∀ (s:Shared) (v:Value),BindsTo s fd ⟨[v],[]⟩ [("_law_script",v)])/\∀ base:Heap,K.In base->base.Ns mainGlobals mg->z33 P w K mg base CX0 12 fa fd ["_law_script"] (zdW K):=by
 obtain ⟨f0,d0,a0,F0⟩:=zK X G e 0 rfl;obtain ⟨f1,d1,a1,F1⟩:=zK X G e 1 rfl;obtain ⟨f2,d2,a2,F2⟩:=zK X G e 2 rfl;obtain ⟨f3,d3,a3,F3⟩:=zK X G e 3 rfl;obtain ⟨f4,d4,a4,F4⟩:=zK X G e 4 rfl;obtain ⟨f5,d5,a5,F5⟩:=zK X G e 5 rfl;obtain ⟨f6,d6,a6,F6⟩:=zK X G e 6 rfl;obtain ⟨f7,d7,a7,F7⟩:=zK X G e 7 rfl;obtain ⟨f8,d8,a8,F8⟩:=zK X G e 8 rfl;obtain ⟨f9,d9,a9,F9⟩:=zK X G e 9 rfl;obtain ⟨f10,d10,a10,F10⟩:=zK X G e 10 rfl;obtain ⟨f11,d11,a11,F11⟩:=zK X G e 11 rfl;obtain ⟨f12,d12,a12,F12⟩:=zK X G e 12 rfl;obtain ⟨f13,d13,a13,F13⟩:=zK X G e 13 rfl;obtain ⟨f14,d14,a14,F14⟩:=zK X G e 14 rfl;obtain ⟨f15,d15,a15,F15⟩:=zK X G e 15 rfl;obtain ⟨f16,d16,a16,F16⟩:=zK X G e 16 rfl;obtain ⟨f17,d17,a17,F17⟩:=zK X G e 17 rfl;obtain ⟨f18,d18,a18,F18⟩:=zK X G e 18 rfl;obtain ⟨f19,d19,a19,F19⟩:=zK X G e 19 rfl;obtain ⟨f20,d20,a20,F20⟩:=zK X G e 20 rfl;obtain ⟨f21,d21,a21,F21⟩:=zK X G e 21 rfl;obtain ⟨f22,d22,a22,F22⟩:=zK X G e 22 rfl;obtain ⟨f23,d23,a23,F23⟩:=zK X G e 23 rfl;obtain ⟨f24,d24,a24,F24⟩:=zK X G e 24 rfl;obtain ⟨f25,d25,a25,F25⟩:=zK X G e 25 rfl;obtain ⟨f26,d26,a26,F26⟩:=zK X G e 26 rfl;obtain ⟨f27,d27,a27,F27⟩:=zK X G e 27 rfl;obtain ⟨f28,d28,a28,F28⟩:=zK X G e 28 rfl;obtain ⟨f29,d29,a29,F29⟩:=zK X G e 29 rfl;obtain ⟨f30,d30,a30,F30⟩:=zK X G e 30 rfl;obtain ⟨f31,d31,a31,F31⟩:=zK X G e 31 rfl;obtain ⟨f32,d32,a32,F32⟩:=zK X G e 32 rfl;obtain ⟨f33,d33,a33,F33⟩:=zK X G e 33 rfl;obtain ⟨f34,d34,a34,F34⟩:=zK X G e 34 rfl;obtain ⟨f35,d35,a35,F35⟩:=zK X G e 35 rfl;obtain ⟨f36,d36,a36,F36⟩:=zK X G e 36 rfl;obtain ⟨f37,d37,a37,F37⟩:=zK X G e 37 rfl;obtain ⟨f38,d38,a38,F38⟩:=zK X G e 38 rfl;obtain ⟨f39,d39,a39,F39⟩:=zK X G e 39 rfl;obtain ⟨f40,d40,a40,F40⟩:=zK X G e 40 rfl;obtain ⟨f41,d41,a41,F41⟩:=zK X G e 41 rfl;obtain ⟨f42,d42,a42,F42⟩:=zK X G e 42 rfl;obtain ⟨f43,d43,a43,F43⟩:=zK X G e 43 rfl;obtain ⟨f44,d44,a44,F44⟩:=zK X G e 44 rfl;obtain ⟨f45,d45,a45,F45⟩:=zK X G e 45 rfl;obtain ⟨f46,d46,a46,F46⟩:=zK X G e 46 rfl;obtain ⟨f47,d47,a47,F47⟩:=zK X G e 47 rfl;have e0:=hfa.symm.trans a47;cases e0;obtain ⟨oc,od,kV,doc,pm,an,cdv,ct,osl,rfl,hl,hc⟩:=F47.ex;have T:Txt mg:=⟨zcv X G e 0 rfl,zcv X G e 1 rfl,ui X G e 0 rfl,ui X G e 1 rfl,ui X G e 2 rfl,ui X G e 3 rfl,ui X G e 4 rfl,ui X G e 5 rfl,ui X G e 6 rfl,ui X G e 7 rfl,ui X G e 8 rfl,ui X G e 9 rfl,ui X G e 10 rfl,ui X G e 11 rfl,ui X G e 12 rfl,ui X G e 13 rfl⟩;have T_RULES:zdO P w K mg "RULES" ql:=zhU X G e "RULES" z7T (List.mem_of_getElem? (i:=0) rfl);refine ⟨W.fnOf "law" "law" (z0a z3s) (qc z3s) (zg z3s) .none kV doc pm an cdv ct,fun s v=>.of_eq rfl,fun base _ _=>?_⟩;have H0:=z5x (P:=P) (w:=w) (base:=base) T F0 a0;have H1:=z4X (P:=P) (w:=w) (base:=base) T F1 a1;have H2:=z69 (P:=P) (w:=w) (base:=base) T F2 a2;have H3:=z1O (P:=P) (w:=w) (base:=base) T F3 a3;have H4:=z2x (P:=P) (w:=w) (base:=base) T F4 a4;have H5:=qA (P:=P) (w:=w) (base:=base) T F5 a5;have H6:=z22 (P:=P) (w:=w) (base:=base) T F6 a6;have H7:=z6A (P:=P) (w:=w) (base:=base) T F7 a7;have H8:=z6B (P:=P) (w:=w) (base:=base) T F8 a8 T_RULES;have H9:=z9e (P:=P) (w:=w) (base:=base) T F9 a9;have H10:=z0U (P:=P) (w:=w) (base:=base) T F10 a10;have H11:=z53 (P:=P) (w:=w) (base:=base) T F11 a11;have H12:=z4a (P:=P) (w:=w) (base:=base) T F12 a12;have H13:=z2v (P:=P) (w:=w) (base:=base) T F13 a13;have H14:=z2I (P:=P) (w:=w) (base:=base) T F14 a14;have H15:=z2H (P:=P) (w:=w) (base:=base) T F15 a15;have H16:=z12 (P:=P) (w:=w) (base:=base) T F16 a16;have H17:=z10 (P:=P) (w:=w) (base:=base) T F17 a17;have H18:=z2z (P:=P) (w:=w) (base:=base) T F18 a18 H0;have H19:=z2a (P:=P) (w:=w) (base:=base) T F19 a19 H2;have H20:=z6N (P:=P) (w:=w) (base:=base) T F20 a20 H5;have H21:=z5Q (P:=P) (w:=w) (base:=base) T F21 a21 H5 H6;have H22:=z8r (P:=P) (w:=w) (base:=base) T F22 a22 H6 H7;have H23:=z6I (P:=P) (w:=w) (base:=base) T F23 a23 H7;have H24:=z4B (P:=P) (w:=w) (base:=base) T F24 a24 H8;have H25:=z4v (P:=P) (w:=w) (base:=base) T F25 a25 H13;have H26:=z5D (P:=P) (w:=w) (base:=base) T F26 a26 H12;have H27:=z4i (P:=P) (w:=w) (base:=base) T F27 a27 H16;have H28:=z8z (P:=P) (w:=w) (base:=base) T F28 a28 H1 H18;have H29:=z5c (P:=P) (w:=w) (base:=base) T F29 a29 H1 H18;have H30:=z4R (P:=P) (w:=w) (base:=base) T F30 a30 T_RULES H20 H21 H22 H23;have H31:=z2N (P:=P) (w:=w) (base:=base) T F31 a31 H12 H26;have H32:=z0W (P:=P) (w:=w) (base:=base) T F32 a32 H15 H17 H27;have H33:=z68 (P:=P) (w:=w) (base:=base) T F33 a33 H28;have H34:=z2G (P:=P) (w:=w) (base:=base) T F34 a34 H29;have H35:=z4p (P:=P) (w:=w) (base:=base) T F35 a35 H33;have H36:=z2O (P:=P) (w:=w) (base:=base) T F36 a36 H4 H19 H34;have H37:=jk (P:=P) (w:=w) (base:=base) T F37 a37 H24 H33;have H38:=z21 (P:=P) (w:=w) (base:=base) T F38 a38 H33;have H39:=jz (P:=P) (w:=w) (base:=base) T F39 a39 H3 H36;have H40:=z4f (P:=P) (w:=w) (base:=base) T F40 a40 H35 H37;have H41:=zbL (P:=P) (w:=w) (base:=base) T F41 a41 H9 H30 H40;have H42:=z2F (P:=P) (w:=w) (base:=base) T F42 a42 H3 H9 H30 H40;have H43:=zdT (P:=P) (w:=w) (base:=base) T F43 a43 H35 H37 H41;have H44:=z3C (P:=P) (w:=w) (base:=base) T F44 a44 H42 H43;have H45:=z2k (P:=P) (w:=w) (base:=base) T F45 a45 H39 H44;have H46:=z6L (P:=P) (w:=w) (base:=base) T F46 a46 H4 H24 H38 H45;have H47:=z8R (P:=P) (w:=w) (base:=base) T F47 a47 H10 H11 H14 H25 H31 H32 H46;exact zgH (x:="law") H47 zbd
theorem boot_:∀ w:World,(W.fencedOpening treeTable PySem.Challenge.pw_drawndown_k43_columns_of_rules w 6088).map (fun s=>(s.heap,s.gens,s.drawn,s.toks))=some (W.boot_heap w.params,Array.mk [],W.boot_drawn,W.boot_toks):= W.boot_open (by kernel_rfl) (by decide) (fun s=>by kernel_rfl)
theorem left_:W.LeftO PySem.Challenge.pw_drawndown_k43_columns_of_rules qv looseQ xtQ (obsS askQ) (valS askQ) 6088:=zap "special-get-raises" boot_ (fun w os=>z32 (f:=fun s=>(seenQ s,obsS askQ s)) (zjg w) (bsz w) (z56 (z5Y w os) (z66 w os))) (fun w os=>z32 (f:=fun s=>(seenQ s,obsS askQ s)) (zjg w) (bsz w) (z56 (z7f w os) (z6o w os)))
end K43
open PySem.W
set_option maxRecDepth 100000 in
set_option maxHeartbeats 0 in
theorem PySem.Challenge.cw_drawndown_k43_columns_of_rules_holds : PySem.Challenge.rw_drawndown_k43_columns_of_rules.Holds := by
  w_on; o_law
  refine holds_open (q := K43.qv) (loose := K43.looseQ) (Xt := K43.xtQ) (XP := XL K43.qv K43.lvQ) (Yf := Dd.obsS K43.askQ) (Ya := Dd.valS K43.askQ) (YP := Dd.saysS K43.askQ) (N := 6088) K43.left_ (Dd.zdA K43.askQ) (Dd.z8H K43.askQ) (fun s e => xl_of s (Bool.and_eq_true_iff.mp e).1) XL.keeps (by rfl) (by rfl) (by rfl) (fun s e => recFacts_of (Bool.and_eq_true_iff.mp e).2) (by rfl) (by first | assumption | decide +kernel) (by decide +kernel) ⟨rfl, rfl, rfl, rfl, rfl, by decide +kernel⟩ ?hw ?hc
  (case hw => w_witness2)
  refine Dd.walkY (l := PySem.Challenge.rw_drawndown_k43_columns_of_rules) (n := 63) (k := 12) (x := "_law_script") rfl (by decide) (by decide) rfl ⟨rfl, by decide, by decide, rfl⟩ ?F
  case F =>
    intro w mg fa h Yy G hmg XP
    obtain ⟨K, KX, e⟩ := Yy
    exact ⟨K, KX, K43.all_mk KX G hmg e ⟩
