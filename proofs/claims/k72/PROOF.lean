import PyProof.Rows.All
import Wide.All
import OpenK.AllK
import Wide.FinOn
import Lean
import PyProof.EqAt
import PyProof.EqKinds
import PyProof.TupleCall
import PyProof.ExcArgsOwn
import PyProof.ExcAttrAll.ValueError
import PyProof.ListMulRoad
import PyProof.Rows.Range3
import PySem.Challenge.RW_drawndown_k72_least_lots_with_so_many_st
set_option Elab.async false
set_option linter.all false
set_option maxRecDepth 100000
set_option maxHeartbeats 1000000
set_option exponentiation.threshold 5000
open PySem PyProof.Rows
noncomputable section
namespace Dd
open PySem.Spec
def dArgs(s:Stmt):Arguments:=match s with
 | .FunctionDef _ a _ _ _ _ _ _ _ _=>a | _=>{posonlyargs:=[],args:=[],vararg:=none,kwonlyargs:=[],kw_defaults:=[],kwarg:=none,defaults:=[]}
def zf7(s:Stmt):List Stmt:=match s with
 | .FunctionDef _ _ b _ _ _ _ _ _ _=>b | _=>[]
def zbW(s:Stmt):Scope:=match s with
 | .FunctionDef _ _ _ _ _ _ sc _ _ _=>sc | _=>{kind:=.function,names:=[],isGenerator:=false,isCoroutine:=false}
def z5B(h:Heap)(a:Addr):W.Frag:=match h.get? a with | some o=>[(a,o)] | none=>[]
def ziH(h:Heap)(g:W.Frag)(x:Str):W.Frag:=match W.nsIn g mainGlobals x with
 | some (some (.ref f))=>z5B h f++(match h.get? f with
   | some ⟨_,_,.func fd,_⟩=>(match fd.code with | .ref c=>z5B h c | _=>[]) | some ⟨_,_,.cls cd,_⟩=>z5B h cd.ns | _=>[]) | _=>[]
def gat(h:Heap)(ns:List Str):W.Frag:=z5B h mainGlobals++ns.flatMap (ziH h (z5B h mainGlobals))
abbrev FV:=Str×Str×Arguments×FuncBody×Scope×Addr×List (Str×Addr)×Value×Addr×Bool×Bool
def zdO(K:W.Frag)(x:Str):Option FV:=match W.nsIn K mainGlobals x with
 | some (some (.ref f))=>(match K.lookup f with
   | some ⟨_,_,.func fd,_⟩=>some (fd.name,fd.qualname,fd.params,fd.body,fd.scope,fd.globals,fd.closure,fd.defaults,fd.builtins,W.codeIn K fd.code fd.qualname,W.keepIn K (.ref f)) | _=>none) | _=>none
def zhs(x:Str)(st:Stmt):Option FV:=some (x,x,dArgs st,.stmts (zf7 st),zbW st,mainGlobals,[],.none,builtinsNs,true,true)
def zdk(K:W.Frag)(x:Str):Bool:=match W.nsIn K mainGlobals x with | some none=>true | _=>false
def zef(K:W.Frag)(x:Str):Option Int:=match W.nsIn K mainGlobals x with | some (some (.int i _))=>some i | _=>none
def sameRef:Value->Option (Option Value)->Bool
 | .ref f,some (some (.ref g))=>f==g | _,_=>false
def z9T:Value->Option Str
 | .str k _=>some k | _=>none
def z4x:Value->Bool
 | .type c=>c=="dict" | _=>false
def z7m(K:W.Frag):List DictEntry->List Str->List (Int×Option Str×Bool)
 | e::es,y::ys=>(e.hash,z9T e.key,sameRef e.val (W.nsIn K mainGlobals y))::z7m K es ys | [],[]=>[] | _,_=>[(0,none,false)]
def zdI(K:W.Frag)(x:Str)(ys:List Str):Option (Bool×Bool×Bool×Bool×List (Int×Option Str×Bool)):=match W.nsIn K mainGlobals x with
 | some (some (.ref a))=>(match K.lookup a with
   | some ⟨c,d,.dict es _,sl⟩=>some (z4x c,d.isNone,sl.size==0,a==sysModules,z7m K es.toList ys) | _=>none) | _=>none
def zhd(w:World)(tb:List (Str×Str)):Option (Bool×Bool×Bool×Bool×List (Int×Option Str×Bool)):=some (true,true,true,false,tb.map fun p=>(PyData.keyHash w.params p.1,some p.1,true))
def zg1:List Value->Option (List Int)
 | []=>some [] | .int i _::r=>(zg1 r).map (i::·) | _=>none
def zaC:Value->Bool
 | .type c=>c=="tuple" | _=>false
def zh6(K:W.Frag)(x:Str):Option (Bool×Option (List Int)):=match W.nsIn K mainGlobals x with
 | some (some (.ref a))=>(match K.lookup a with
   | some ⟨c,_,.seq its _,_⟩=>some (zaC c,zg1 its.toList) | _=>none) | _=>none
def bmV:List Value:=[.type "ValueError",.type "Exception",.type "BaseException",.type "object"]
def z9u(K:W.Frag)(C:Addr):Bool:=match K.lookup C with | some ⟨.type t,_,.cls _,_⟩=>t=="type" | _=>false
def zh3(K:W.Frag)(x:Str):Bool:=match W.nsIn K mainGlobals x with
 | some (some (.ref C))=>W.excIn K C bmV "ValueError.__new__"&&(W.findIn K (.ref C) "__getattribute__"==some (some (.builtin "BaseException.__getattribute__"))&&(W.findIn K (.ref C) "__getattr__"==some none && (W.findIn K (.ref C) "__class__"==some (some (.builtin "object.__class__"))&&(W.mroIn K C (.type "object")==some true&&(W.mroIn K C (.type "BaseException")==some true&&(z9u K C&&W.kitOne K (.ref C) (.type "ValueError")==some true)))))) | _=>false
def zeJ(K:W.Frag)(x y:Str):Option (Option Bool×Option Bool):=match W.nsIn K mainGlobals x,W.nsIn K mainGlobals y with
 | some (some (.ref C)),some (some (.ref D))=>some (W.mroIn K C (.ref D),W.kitOne K (.ref C) (.ref D)) | _,_=>none
abbrev Obs:=List (Option FV)×List Bool×List (Option Int)×List (Option (Bool×Bool×Bool×Bool×List (Int×Option Str×Bool)))×List (Option (Bool×Option (List Int)))×List Bool×List (Option (Option Bool×Option Bool))
structure Ask where
 fs:List (Str×Stmt)
 bs:List Str
 cs:List (Str×Int)
 ts:List (Str×List (Str×Str))
 us:List (Str×List Int)
 xs:List Str
 ps:List ((Str×Str)×Bool)
def zac(q:Ask)(K:W.Frag):Obs:=(q.fs.map fun p=>zdO K p.1,q.bs.map (zdk K),q.cs.map fun p=>zef K p.1,q.ts.map (fun p=>zdI K p.1 (p.2.map (·.2))),q.us.map (fun p=>zh6 K p.1),q.xs.map (zh3 K),q.ps.map fun p=>zeJ K p.1.1 p.1.2)
def obsS(q:Ask)(s:Shared):Obs:=zac q (gat s.heap (q.fs.map (·.1)++q.ts.map (·.1)++q.us.map (·.1)++q.xs))
def valS(q:Ask)(w:World):Obs:=(q.fs.map fun p=>zhs p.1 p.2,q.bs.map fun _=>true,q.cs.map fun p=>some p.2,q.ts.map (fun p=>zhd w p.2),q.us.map (fun p=>some (true,some p.2)),q.xs.map fun _=>true,q.ps.map fun p=>some (some p.2,some p.2))
def z1a(tb:String->Option Builtin)(p:Program)(w:World)(n₀:Nat)(ann:Option Value):Nat->W.SharedT->Thread->Option W.SharedT
 | 0,_,_=>none | n+1,s,t=>match W.through t with
  | true=>some s | false=>match W.stepOk n₀ ann t with
   | false=>none | true=>match W.stepT (denote tb) p w s t with
    | some (s',t')=>z1a tb p w n₀ ann n s' t' | none=>none
def zeT(l:List Obj):W.BT×Nat:=l.foldl (fun a o=>(a.1.ins a.2 o,a.2+1)) (W.BT.nil,0)
def zeG(P:Params):W.BT:=(zeT (W.boot_heap P).objs.toList).1
end Dd
namespace K72
open PySem.Spec Dd
def top(i:Nat):Stmt:=PySem.Challenge.pw_drawndown_k72_least_lots_with_so_many_st.main.body.getD i (.Pass ⟨0,0,0,0⟩)
abbrev jx:Stmt:=top 10
abbrev jq:Stmt:=top 12
abbrev wx:Stmt:=top 15
abbrev yV:Stmt:=top 21
abbrev vS:Stmt:=top 22
abbrev kH:Stmt:=top 23
abbrev km:Stmt:=top 29
abbrev z3u:Stmt:=top 35
abbrev vm:Stmt:=top 44
abbrev jz:Stmt:=top 45
abbrev qN:Stmt:=top 46
abbrev uQ:Stmt:=top 47
abbrev uw:Stmt:=top 49
abbrev uv:Stmt:=top 50
abbrev vt:Stmt:=top 51
abbrev uu:Stmt:=top 11
abbrev vN:Stmt:=top 13
abbrev qL:Stmt:=top 14
abbrev kC:Stmt:=top 24
abbrev jm:Stmt:=top 25
abbrev z0H:Stmt:=top 26
abbrev kF:Stmt:=top 27
abbrev qt:Stmt:=top 30
abbrev vA:Stmt:=top 48
abbrev qk:Stmt:=top 52
abbrev z1j:Stmt:=top 17
abbrev jw:Stmt:=top 34
abbrev ve:Stmt:=top 54
abbrev jj:Stmt:=top 18
abbrev uO:Stmt:=top 53
abbrev qm:Stmt:=top 19
abbrev xy:Stmt:=top 31
abbrev qK:Stmt:=top 32
abbrev z5x:Stmt:=top 33
abbrev vo:Stmt:=top 37
abbrev uG:Stmt:=top 42
abbrev z25:Stmt:=top 55
def z76:List (Str×Str):=[("next","by_next"),("least","by_least"),("all","by_all"),("turn","by_turn")]
def askQ:Ask:=⟨[(("is_whole":Str),jx), (("has_size":Str),jq), (("tuples_between":Str),wx), (("greatest_and_others":Str),yV), (("least_place":Str),vS), (("all_but":Str),kH), (("is_rule":Str),km), (("moved":Str),z3u), (("_law_cell_at":Str),vm), (("_law_pot":Str),jz), (("_law_take":Str),qN), (("_law_whole":Str),uQ), (("_law_rules":Str),uw), (("_law_ended":Str),uv), (("_law_divides":Str),vt), (("are_wholes":Str),uu), (("want_number":Str),vN), (("want_size":Str),qL), (("by_next":Str),kC), (("by_least":Str),jm), (("by_all":Str),z0H), (("by_turn":Str),kF), (("want_rule":Str),qt), (("_law_same":Str),vA), (("_law_step":Str),qk), (("is_lot":Str),z1j), (("division":Str),jw), (("_law_steps":Str),ve), (("want_lot":Str),jj), (("_law_least":Str),uO), (("has_ended":Str),qm), (("want_rule_and_lot":Str),xy), (("want_step":Str),qK), (("step":Str),z5x), (("steps_of_all":Str),vo), (("least_with":Str),uG), (("law":Str),z25)], [("all":Str),("bool":Str),("enumerate":Str),("int":Str),("isinstance":Str),("len":Str),("list":Str),("max":Str),("min":Str),("range":Str),("str":Str),("tuple":Str),("zip":Str)], [(("LEAST_SIZE":Str),(2:Int)),(("MOST_NUMBER":Str),(16:Int)),(("MOST_SIZE":Str),(4:Int)),(("MOST_SIZE_LED":Str),(3:Int)),(("MOST_STEPS":Str),(12:Int))], [(("RULES":Str),z76)], [], [], []⟩
def qv:Program:=W.view PySem.Challenge.pw_drawndown_k72_least_lots_with_so_many_st [55]
def looseQ:List Str:=[("DrawError":Str),("NoLot":Str),("NoRule":Str),("Ended":Str),("NoSize":Str),("NoNumber":Str),("LEAST_SIZE":Str),("MOST_SIZE":Str),("is_whole":Str),("are_wholes":Str),("has_size":Str),("want_number":Str),("want_size":Str),("tuples_between":Str),("is_lot":Str),("want_lot":Str),("has_ended":Str),("greatest_and_others":Str),("least_place":Str),("all_but":Str),("by_next":Str),("by_least":Str),("by_all":Str),("by_turn":Str),("RULES":Str),("is_rule":Str),("want_rule":Str),("want_rule_and_lot":Str),("want_step":Str),("step":Str),("division":Str),("moved":Str),("steps_of_all":Str),("MOST_SIZE_LED":Str),("MOST_STEPS":Str),("MOST_NUMBER":Str),("least_with":Str),("_law_cell_at":Str),("_law_pot":Str),("_law_take":Str),("_law_whole":Str),("_law_same":Str),("_law_rules":Str),("_law_ended":Str),("_law_divides":Str),("_law_step":Str),("_law_least":Str),("_law_steps":Str)]
def lvQ:List (Str×W.WData):=[]
def xtQ:Shared->Bool:=fun s=>W.xlAt qv lvQ s&&W.recOk (W.RowW.records (W.OpenRow.toRowW (W.OpenLaw.row PySem.Challenge.rw_drawndown_k72_least_lots_with_so_many_st))) s
theorem ziC:∀ w:World,W.absHeap (zeG w.params) 11 (W.boot_heap w.params).life=W.boot_heap w.params:=by
 intro w;kernel_rfl
theorem bsz:∀ w:World,((W.boot_heap w.params).isNs mainGlobals&&(Array.mk []:Array GenState).size==0,(W.boot_heap w.params).objs.size,(W.boot_heap w.params).nsMap mainGlobals "__annotations__")=(true,11,(some (.ref 6))):=by
 intro w;kernel_rfl
def zgx(w v:World)(os:OsState):Option W.SharedT:=z1a treeTable PySem.Challenge.pw_drawndown_k72_least_lots_with_so_many_st v 11 (some (.ref 6)) 5124 ⟨zeG w.params,11,(W.boot_heap w.params).life,Array.mk [],W.boot_drawn,W.boot_toks,os⟩ (W.topStub PySem.Challenge.pw_drawndown_k72_least_lots_with_so_many_st)
def zfR(w:World)(s:W.SharedT):Bool:=W.staticsOk (importedModules PySem.Challenge.pw_drawndown_k72_least_lots_with_so_many_st.main.body) (W.boot_heap w.params) s.abs.heap&&W.namesBound PySem.Challenge.pw_drawndown_k72_least_lots_with_so_many_st s.abs.heap&&W.gensDone s.abs&&W.laidKept (W.boot_heap w.params) s.abs.heap
def seenQ(s:Shared):=W.openSeen qv looseQ (importedModules PySem.Challenge.pw_drawndown_k72_least_lots_with_so_many_st.main.body) xtQ true s
set_option maxRecDepth 1000000 in
theorem z3T:∀ (w:World)(os:OsState),(zgx w (w.withFollow "special-get-raises" false) os).map (fun s=>(zfR w s,obsS askQ s.abs))=some (true,valS askQ (w.withFollow "special-get-raises" false)):=by
 intro w os;kernel_rfl
set_option maxRecDepth 1000000 in
theorem z4t:∀ (w:World)(os:OsState),(zgx w (w.withFollow "special-get-raises" false) os).map (fun s=>seenQ s.abs)=some (W.openGood qv looseQ):=by
 intro w os;kernel_rfl
set_option maxRecDepth 1000000 in
theorem z5O:∀ (w:World)(os:OsState),(zgx w (w.withFollow "special-get-raises" true) os).map (fun s=>(zfR w s,obsS askQ s.abs))=some (true,valS askQ (w.withFollow "special-get-raises" true)):=by
 intro w os;kernel_rfl
set_option maxRecDepth 1000000 in
theorem z65:∀ (w:World)(os:OsState),(zgx w (w.withFollow "special-get-raises" true) os).map (fun s=>seenQ s.abs)=some (W.openGood qv looseQ):=by
 intro w os;kernel_rfl
end K72
namespace L2
open PySem.Spec
abbrev Key:=Sum Int Str
def z3q:Key->Value->Bool
 | .inl k,v=>Value.isInt k v | .inr x,v=>Value.isStrOf x v
def zjI(w:World):Key->Int
 | .inl k=>hashInt k | .inr x=>hashStr w x
theorem yk:∀ {k:Key} {v:Value},z3q k v=true->(∃ i t,k=Sum.inl i/\v=Value.int i t)\/(∃ x t,k=Sum.inr x/\v=Value.str x t)
 | .inl i,v,h=>by
  obtain ⟨t,e⟩:=Value.isInt_shape (k:=i) (v:=v) h;exact .inl ⟨i,t,rfl,e⟩ | .inr x,v,h=>by
  obtain ⟨t,e⟩:=Value.isStrOf_shape (x:=x) (v:=v) h;exact .inr ⟨x,t,rfl,e⟩
theorem z8i(i:Int)(t:Tok):z3q (.inl i) (.int i t)=true:=by simp [z3q,Value.isInt]
theorem z18(x:Str)(t:Tok):z3q (.inr x) (.str x t)=true:=by simp [z3q,Value.isStrOf]
theorem zgd(a b:Int):decide ((Sum.inl a:Key)=Sum.inl b)=(a==b):=by
 by_cases e:a=b;·subst e;simp
 ·have h:¬ (Sum.inl a:Key)=Sum.inl b:=fun q=>e (Sum.inl.inj q);rw [decide_eq_false h];exact (beq_eq_false_iff_ne.mpr e).symm
theorem zgj(a b:Str):decide ((Sum.inr a:Key)=Sum.inr b)=decide (a=b):=by
 by_cases e:a=b;·subst e;simp
 ·have h:¬ (Sum.inr a:Key)=Sum.inr b:=fun q=>e (Sum.inr.inj q);rw [decide_eq_false h,decide_eq_false e]
theorem zeO(a:Int)(b:Str):decide ((Sum.inl a:Key)=Sum.inr b)=false:=decide_eq_false (fun q=>nomatch q)
theorem zeU(a:Str)(b:Int):decide ((Sum.inr a:Key)=Sum.inl b)=false:=decide_eq_false (fun q=>nomatch q)
def zG(prog:Program)(w:World):PySem.KeyKind prog w Key where
 is:=z3q;hash:=zjI w;inj:=fun v a b ha hb=>by
  rcases yk ha with ⟨i,t,rfl,rfl⟩ | ⟨x,t,rfl,rfl⟩
  ·rcases yk hb with ⟨j,u,rfl,e⟩ | ⟨y,u,rfl,e⟩;·injection e with e1 _;rw [e1]
   ·exact nomatch e
  ·rcases yk hb with ⟨j,u,rfl,e⟩ | ⟨y,u,rfl,e⟩;·exact nomatch e
   ·injection e with e1 _;rw [e1]
 byValue:=fun k v h=>by rcases yk h with ⟨i,t,rfl,rfl⟩ | ⟨x,t,rfl,rfl⟩<;>rfl
 pyHash:=fun hv h=>by
  rcases yk hv with ⟨i,t,rfl,rfl⟩ | ⟨x,t,rfl,rfl⟩;·exact wpAny_pyHash_int h
  ·exact wpAny_pyHash_str h
 eqBool:=fun hu hv h=>by
  rcases yk hu with ⟨i,t,rfl,rfl⟩ | ⟨x,t,rfl,rfl⟩
  ·rcases yk hv with ⟨j,u,rfl,rfl⟩ | ⟨y,u,rfl,rfl⟩;·rw [zgd] at h;exact wpAny_eqBool_int h
   ·rw [zeO] at h;exact SeqAt.EqAt.int_str i t y u _ _ _ _ h
  ·rcases yk hv with ⟨j,u,rfl,rfl⟩ | ⟨y,u,rfl,rfl⟩;·rw [zeU] at h;exact SeqAt.EqAt.str_int x t j u _ _ _ _ h
   ·rw [zgj] at h;exact wpAny_eqBool_str h
 «strs» := fun k x t v h=>by
  rcases yk h with ⟨i,u,rfl,e⟩ | ⟨y,u,rfl,e⟩;·exact nomatch e
  ·injection e with e1 _;subst e1;cases v<;>rfl
theorem z22(prog:Program)(w:World)(k:Key)(v:Value):(zG prog w).is k v=z3q k v:=rfl
theorem z5n(prog:Program)(w:World)(i:Int)(t:Tok):(zG prog w).is (.inl i) (.int i t)=true:=z8i i t
theorem z0K(prog:Program)(w:World)(x:Str)(t:Tok):(zG prog w).is (.inr x) (.str x t)=true:=z18 x t
inductive V where | non | bl (b:Bool) | int (i:Int) | str (x:Str) | byt (b:Array UInt8) | flt (b:UInt64) | ref (a:Addr) | ty (n:String) deriving DecidableEq
def yB:V->Value->Prop
 | .non,u=>u=Value.none | .bl b,u=>u=Value.bool b | .int i,u=>∃ t,u=Value.int i t | .str x,u=>∃ t,u=Value.str x t | .byt b,u=>∃ t,u=Value.bytes b t | .flt b,u=>∃ t,u=Value.float b t | .ref a,u=>u=Value.ref a | .ty n,u=>u=Value.type n
abbrev xb:List V->List Value->Prop:=Paired yB
theorem xb.length{xs:List V}{us:List Value}(r:xb xs us):xs.length=us.length:=Paired.length r
theorem xb.get:∀ {xs:List V} {us:List Value} {i:Nat} {x:V},xb xs us->xs[i]? = some x->∃ u,us[i]? = some u/\yB x u
 | _,_,_,_,.nil,e=>by simp at e | _,_,0,_,.cons r _,e=>by simp at e;subst e;exact ⟨_,rfl,r⟩ | _,_,i+1,x,.cons _ t,e=>by
  obtain ⟨u,h1,h2⟩:=xb.get (i:=i) (x:=x) t (by simpa using e);exact ⟨u,by simpa using h1,h2⟩
theorem xb.set{x:V}{u:Value}(r:yB x u):∀ {xs:List V}{us:List Value}(i:Nat),xb xs us->xb (xs.set i x) (us.set i u)
 | _,_,_,.nil=>.nil | _,_,0,.cons _ t=>.cons r t | _,_,i+1,.cons q t=>.cons q (xb.set r i t)
theorem xb.append:∀ {xs ys:List V}{us ws:List Value},xb xs us->xb ys ws->xb (xs++ys) (us++ws)
 | _,_,_,_,.nil,s=>s | _,_,_,_,.cons r t,s=>.cons r (xb.append t s)
theorem xb.take:∀ {xs:List V}{us:List Value}(n:Nat),xb xs us->xb (xs.take n) (us.take n)
 | _,_,0,_=>.nil | _,_,_+1,.nil=>.nil | _,_,n+1,.cons r t=>.cons r (xb.take n t)
theorem xb.drop:∀ {xs:List V}{us:List Value}(n:Nat),xb xs us->xb (xs.drop n) (us.drop n)
 | _,_,0,r=>r | _,_,_+1,.nil=>.nil | _,_,n+1,.cons _ t=>xb.drop n t
def z88:Option V->Option Value->Prop
 | some v,some u=>yB v u | none,none=>True | _,_=>False
def KV{κ:Type}:List (κ×V)->List (κ×Value)->Prop:=Paired fun (p:κ×V)(q:κ×Value)=>p.1=q.1/\yB p.2 q.2
def kV:Key->V
 | .inl i=>.int i | .inr x=>.str x
inductive HO where | lst (xs:List V) | tup (xs:List V) | dK (kvs:List (Key×V)) | dT (kvs:List (List Key×V)) | set (S:Int->Bool)(n:Nat) | ins (C dx:Addr)(fs:List (Str×V)) | own (x:Addr) | xd (fs:List (Str×V)) | met (f x:Addr) | rng (lo hi:Int) | frz (o:Obj)(u:HO) | tbl (ps:Array Value) | ext (φ:Heap->Prop)
abbrev Hp:=Addr->Option HO
def upd(H:Hp)(a:Addr)(o:HO):Hp:=fun b=>if b=a then some o else H b
theorem zK{H:Hp}{a:Addr}{o:HO}:upd H a o a=some o:=by unfold upd;rw [if_pos rfl]
theorem zw{H:Hp}{a b:Addr}{o:HO}(h:b≠a):upd H a o b=H b:=by unfold upd;rw [if_neg h]
theorem zcW{H:Hp}{a:Addr}{o u:HO}:upd (upd H a o) a u=upd H a u:=by funext b;unfold upd;split<;>rfl
theorem zh5{H:Hp}{a b:Addr}{o u:HO}(h:H a=some o)(h':H b=some u)(d:o≠u):a≠b:=by intro e;subst e;rw [h] at h';exact d (Option.some.inj h')
theorem yz{H:Hp}{a b:Addr}{o:HO}(h:H a=some o)(h':H b=none):a≠b:=by intro e;subst e;rw [h] at h';cases h'
def za9(h:Heap)(a:Addr)(items:Array Value):Prop:=∃ o,h.get? a=some o/\o.cls=.type "tuple"/\o.dict=none/\∃ n,o.data=.seq items n
theorem za9.tup{h:Heap}{a:Addr}{items:Array Value}(x:za9 h a items):IsTup h a items:=let ⟨o,e,c,_,r⟩:=x;⟨o,e,c,r⟩
theorem za9.new(h:Heap)(items:Array Value):za9 (h.push {cls:=.type "tuple",data:=.seq items}) h.objs.size items:=⟨_,Heap.get?_push_size _ rfl,rfl,rfl,_,rfl⟩
theorem za9.lt{h:Heap}{a:Addr}{items:Array Value}(x:za9 h a items):a<h.objs.size:=x.tup.lt
section
variable (P:Program)(w:World)
def xx(H:Hp)(h:Heap)(a:Addr):HO->Prop
 | .lst xs=>xs.length<=sizeLine/\∃ (its:List Value)(n:Nat),xb xs its/\h.get? a=some {cls:=.type "list",data:=.seq its.toArray n} | .tup xs=>xs.length<=sizeLine/\∃ its:List Value,xb xs its/\za9 h a its.toArray | .dK kvs=>kvs.length<=sizeLine/\(a==sysModules)=false/\∃ vs,KV kvs vs/\h.DictOf (zG P w) a vs | .dT kvs=>kvs.length<=sizeLine/\(a==sysModules)=false/\∃ xs:List (List Key×Addr×Value), Paired (fun (p:List Key×V)(q:List Key×Addr×Value)=>p.1=q.1/\H q.2.1=some (.tup (p.1.map kV))/\yB p.2 q.2.2) kvs xs/\ ∃ o es ep,h.get? a=some o/\o.ExactDict/\o.data=.dict es ep/\es.toList=xs.map (entryOfKey (tupleKind (zG P w)))/\(xs.map (·.1)).Nodup | .set S n=>h.SetOf (intKind P w) a S n | .ins C dx fs=>H dx=some (.own a)/\fs.length<=1000/\dx≠a/\h.get? a=some (W.instObj C dx)/\ ∃ mA,h.Ns1 dx mA/\(∀ f,z88 (fs.lookup f) (mA f))/\PySem.Within mA (fs.map (·.1)) | .own _=>∃ o,h.get? a=some o | .xd fs=>∃ mA,h.Ns1 a mA/\∀ f,z88 (fs.lookup f) (mA f) | .rng lo hi=>∃ t u v,h.get? a=some {cls:=.type "range",data:=.fields #[.int lo t,.int hi u,.int 1 v]} | .frz o u=>h.get? a=some o/\xx H h a u | .tbl ps=>h.get? a=some {cls:=.none,data:=.fields ps} | .met f x=>h.get? a=some (W.methodObj (.ref f) (.ref x)) | .ext φ=>φ h/\(∃ o,h.get? a=some o)/\∀ h1 h2:Heap,φ h1->(∀ o,h1.get? a=some o->h2.get? a=some o)->φ h2
def HOk(H:Hp)(h:Heap):Prop:=∀ a o,H a=some o->xx P w H h a o
end
section
variable {P:Program}{w:World}{H H':Hp}{h h':Heap}{a:Addr}{o:HO}
theorem xx.lt(x:xx P w H h a o):a<h.objs.size:=by cases o with
 | lst xs=>obtain ⟨_,_,_,_,e⟩:=x;exact Heap.lt_size e | tup xs=>obtain ⟨_,_,_,p⟩:=x;exact p.lt | dK kvs=>obtain ⟨_,_,_,_,o,_,_,e,_⟩:=x;exact Heap.lt_size e | dT kvs=>obtain ⟨_,_,_,_,o,_,_,e,_⟩:=x;exact Heap.lt_size e | set S n=>obtain ⟨o,_,_,_,e,_⟩:=x;exact Heap.lt_size e | ins C dx fs=>obtain ⟨_,_,_,e,_⟩:=x;exact Heap.lt_size e | own y=>obtain ⟨_,e⟩:=x;exact Heap.lt_size e | xd fs=>obtain ⟨_,⟨_,_,_,e,_⟩,_⟩:=x;exact Heap.lt_size e | rng lo hi=>obtain ⟨_,_,_,e⟩:=x;exact Heap.lt_size e | frz ob u=>obtain ⟨e,_⟩:=x;exact Heap.lt_size e | tbl ps=>exact Heap.lt_size (show h.get? a=some _ from x) | met f y=>exact Heap.lt_size (show h.get? a=some _ from x) | ext φ=>obtain ⟨_,⟨_,e⟩,_⟩:=x;exact Heap.lt_size e
theorem Paired.mapP{α β:Type}{F G:α->β->Prop}:∀ {l₁:List α}{l₂:List β},Paired F l₁ l₂->(∀ a b,F a b->G a b)->Paired G l₁ l₂
 | _,_,.nil,_=>.nil | _,_,.cons r t,f=>.cons (f _ _ r) (Paired.mapP t f)
theorem xx.stay(x:xx P w H h a o)(k:∀ b u,(b=a\/H b=some (.own a))->h.get? b=some u->h'.get? b=some u) (ho:∀ b,H b=some (.own a)->H' b=some (.own a))(ht:∀ b xs,H b=some (.tup xs)->H' b=some (.tup xs)):xx P w H' h' a o:=by induction o with
 | lst xs=>obtain ⟨z,its,n,r,e⟩:=x;exact ⟨z,its,n,r,k _ _ (.inl rfl) e⟩ | tup xs=>obtain ⟨z,its,r,ob,e,c⟩:=x;exact ⟨z,its,r,ob,k _ _ (.inl rfl) e,c⟩ | dK kvs=>obtain ⟨z,y,vs,r,ob,es,ep,e,c⟩:=x;exact ⟨z,y,vs,r,ob,es,ep,k _ _ (.inl rfl) e,c⟩ | dT kvs=>
  obtain ⟨z,y,xs,r,ob,es,ep,e,c⟩:=x;exact ⟨z,y,xs,Paired.mapP r fun p q z=>⟨z.1,ht _ _ z.2.1,z.2.2⟩,ob,es,ep,k _ _ (.inl rfl) e,c⟩ | set S n=>obtain ⟨ob,es,ep,t,e,c⟩:=x;exact ⟨ob,es,ep,t,k _ _ (.inl rfl) e,c⟩ | ins C dx fs=>
  obtain ⟨d,z,ne,e,mA,⟨od,es,ep,e2,c⟩,r⟩:=x;exact ⟨ho _ d,z,ne,k _ _ (.inl rfl) e,mA,⟨od,es,ep,k _ _ (.inr d) e2,c⟩,r⟩ | own y=>obtain ⟨ob,e⟩:=x;exact ⟨ob,k _ _ (.inl rfl) e⟩ | xd fs=>obtain ⟨mA,⟨od,es,ep,e,c⟩,r⟩:=x;exact ⟨mA,⟨od,es,ep,k _ _ (.inl rfl) e,c⟩,r⟩ | rng lo hi=>obtain ⟨t,u,v,e⟩:=x;exact ⟨t,u,v,k _ _ (.inl rfl) e⟩ | frz ob u ih=>obtain ⟨e,q⟩:=x;exact ⟨k _ _ (.inl rfl) e,ih q⟩ | tbl ps=>
  have e:h.get? a=some {cls:=.none,data:=.fields ps}:=x;show h'.get? a=some {cls:=.none,data:=.fields ps};exact k a _ (.inl rfl) e | met f y=>
  have e:h.get? a=some (W.methodObj (.ref f) (.ref y)):=x;show h'.get? a=some (W.methodObj (.ref f) (.ref y));exact k a _ (.inl rfl) e | ext φ=>obtain ⟨p,⟨o,e⟩,st⟩:=x;exact ⟨st _ _ p fun o q=>k _ _ (.inl rfl) q,⟨o,k _ _ (.inl rfl) e⟩,st⟩
theorem HOk.lt(x:HOk P w H h)(e:H a=some o):a<h.objs.size:=(x a o e).lt
theorem HOk.fresh(x:HOk P w H h)(e:h.objs.size<=a):H a=none:=by cases q:H a with
 | none=>rfl | some u=>exact absurd (Nat.lt_of_lt_of_le (x.lt q) e) (Nat.lt_irrefl _)
theorem HOk.kept(x:HOk P w H h)(k:∀ b u,h.get? b=some u->h'.get? b=some u):HOk P w H h':=fun a o e=> (x a o e).stay (fun b u _ q=>k b u q) (fun _ q=>q) fun _ _ q=>q
theorem HOk.laid(x:HOk P w H h)(k:∀ b u,h.get? b=some u->h'.get? b=some u)(hp:h.objs.size<=a)(new:xx P w (upd H a o) h' a o):HOk P w (upd H a o) h':=fun b u e=>by
 have hn:=x.fresh hp;by_cases hb:b=a;·subst hb;rw [zK] at e;cases e;exact new
 ·rw [zw hb] at e;exact (x b u e).stay (fun c v _ q=>k c v q) (fun c q=>by rw [zw (yz q hn)];exact q) fun c xs q=>by rw [zw (yz q hn)];exact q
end
def Rd(H:Hp)(a:Addr)(u:HO):Prop:=H a=some u\/∃ o,H a=some (.frz o u)
theorem Rd.ok{P:Program}{w:World}{H:Hp}{h:Heap}{a:Addr}{u:HO}(r:Rd H a u)(x:HOk P w H h):xx P w H h a u:=by
 rcases r with r | ⟨o,r⟩;·exact x a u r
 ·obtain ⟨_,q⟩:=x a _ r;exact q
def Mut:Option HO->Prop
 | some (.lst _)=>True | some (.dK _)=>True | some (.dT _)=>True | some (.set _ _)=>True | some (.ins _ _ _)=>True | some (.ext _)=>True | _=>False
section
variable {P:Program}{w:World}{H:Hp}{h h':Heap}{x e:Addr}{o':HO}
theorem HOk.write(ok:HOk P w H h)(mu:Mut (H x))(he:e=x\/H e=some (.own x))(k:∀ b u,b≠e->h.get? b=some u->h'.get? b=some u)(heo:∃ u,h'.get? e=some u) (new:xx P w (upd H x o') h' x o'):HOk P w (upd H x o') h':=fun b u q=>by
 have nown:∀ c y,H c=some (.own y)->c≠x:=fun c y r z=>by subst z;rw [r] at mu;exact mu
 have ntup:∀ c xs,H c=some (.tup xs)->c≠x:=fun c xs r z=>by subst z;rw [r] at mu;exact mu
 by_cases hb:b=x;·subst hb;rw [zK] at q;cases q;exact new
 ·rw [zw hb] at q;by_cases hbe:b=e
  ·have q':H b=some (.own x):=by
    rcases he with z | z;·exact absurd (hbe.trans z) hb
    ·rw [hbe];exact z
   rw [q] at q';cases q';obtain ⟨v,hv⟩:=heo;exact ⟨v,by rw [hbe];exact hv⟩
  ·refine (ok b u q).stay (fun c v hc r=>k c v ?_ r) (fun c r=>by rw [zw (nown c b r)];exact r) fun c xs r=>by rw [zw (ntup c xs r)];exact r
   rcases hc with rfl | hc;·exact hbe
   ·rintro rfl;rcases he with z | z;·exact nown c b hc z
    ·rw [hc] at z;cases z;exact hb rfl
end
structure Un(fs ex:List Addr)(H H':Hp)(h h':Heap):Prop where
 keep:∀ b o,h.get? b=some o->H b=none->b∉fs->b∉ex->h'.get? b=some o
 slot:∀ b o,h.get? b=some o->H b=none->b∈fs->b∉ex->∃ sl,h'.get? b=some {o with slots:=sl}
 free:∀ b o,h.get? b=some o->H b=none->b∉ex->H' b=none
 there:∀ b o,h.get? b=some o->b∉ex->∃ o',h'.get? b=some o'
 tups:∀ b xs,H b=some (.tup xs)->H' b=some (.tup xs)
 frzs:∀ b o u,H b=some (.frz o u)->H' b=some (.frz o u)
 tbls:∀ b ps,H b=some (.tbl ps)->∃ more,H' b=some (.tbl (ps++more))
section
variable {fs fs' ex ex':List Addr}{H H1 H2:Hp}{h h1 h2 h':Heap}{a x e:Addr}{o:HO}
theorem Un.any(u:Un fs ex H H1 h h1){b:Addr}{ob:Obj}(q:h.get? b=some ob)(n:H b=none)(hx:b∉ex):∃ sl,h1.get? b=some {ob with slots:=sl}:=by
 by_cases hb:b∈fs;·exact u.slot b ob q n hb hx
 ·exact ⟨ob.slots,u.keep b ob q n hb hx⟩
theorem Un.kept(k:∀ b u,h.get? b=some u->h'.get? b=some u):Un fs ex H H h h':= ⟨fun b ob q _ _ _=>k b ob q,fun b ob q _ _ _=>⟨ob.slots,k b ob q⟩,fun _ _ _ n _=>n,fun b ob q _=>⟨ob,k b ob q⟩,fun _ _ q=>q,fun _ _ _ q=>q,fun _ ps q=>⟨#[],by rw [q];simp⟩⟩
theorem Un.refl:Un fs ex H H h h:=Un.kept fun _ _ q=>q
theorem Un.laid(k:∀ b u,h.get? b=some u->h'.get? b=some u)(hp:h.objs.size<=a)(hn:H a=none):Un fs ex H (upd H a o) h h' where
 keep:=fun b u q _ _ _=>k b u q;slot:=fun b u q _ _ _=>⟨u.slots,k b u q⟩;free:=fun b u q n _=>by rw [zw (Nat.ne_of_lt (Nat.lt_of_lt_of_le (Heap.lt_size q) hp))];exact n
 there:=fun b u q _=>⟨u,k b u q⟩;tups:=fun b xs q=>by rw [zw (yz q hn)];exact q
 frzs:=fun b u xs q=>by rw [zw (yz q hn)];exact q
 tbls:=fun b ps q=>⟨#[],by rw [zw (yz q hn),q];simp⟩
theorem Un.write(mu:Mut (H x))(he:e=x\/H e=some (.own x))(k:∀ b u,b≠e->h.get? b=some u->h'.get? b=some u)(heo:∃ u,h'.get? e=some u):Un fs ex H (upd H x o) h h':=by
 have hx:∀ b,H b=none->b≠x:=fun b n z=>by subst z;rw [n] at mu;exact mu
 have hb:∀ b,H b=none->b≠e:=fun b n z=>by
  subst z;rcases he with r | r;·exact hx b n r
  ·rw [n] at r;cases r
 have hm:∀ b u,H b=some u->¬ Mut (some u)->b≠x:=fun b u q nm z=>by subst z;rw [q] at mu;exact nm mu
 refine ⟨fun b u q n _ _=>k b u (hb b n) q,fun b u q n _ _=>⟨u.slots,k b u (hb b n) q⟩,fun b u q n _=>by rw [zw (hx b n)];exact n,fun b u q _=>?_, fun b xs q=>by rw [zw (hm b _ q fun z=>z)];exact q,fun b u xs q=>by rw [zw (hm b _ q fun z=>z)];exact q,fun b ps q=>⟨#[],by rw [zw (hm b _ q fun z=>z),q];simp⟩⟩;by_cases hbe:b=e;·subst hbe;exact heo
 ·exact ⟨u,k b u hbe q⟩
end
def trk(h:Heap)(H:Hp):List Addr:=(List.range h.objs.size).filter fun a=>(H a).isSome
def zaW(h:Heap)(H:Hp):Heap:=W.hideAll h (trk h H)
theorem z89(h:Heap)(H:Hp):(zaW h H).objs.size=h.objs.size:=W.hideAll_size _ _
theorem zaU{h:Heap}{H:Hp}{b:Addr}{o:Obj}(e:h.get? b=some o)(n:H b=none):(zaW h H).get? b=some o:= W.hideAll_get _ e fun hm=>by
  have q:(H b).isSome=true:=(List.mem_filter.mp hm).2;rw [n] at q;simp at q
theorem zeg{h:Heap}{H:Hp}{b:Addr}{o:Obj}(e:(zaW h H).get? b=some o):h.get? b=some o/\H b=none:=by
 have e':h.get? b=some o:=W.of_hideAll (trk h H) e;refine ⟨e',?_⟩;cases q:H b with
 | none=>rfl | some x=>
  have hm:b∈trk h H:=List.mem_filter.mpr ⟨List.mem_range.mpr (Heap.lt_size e'),by simp [q]⟩;have z:(zaW h H).get? b=none:=W.hideAll_none (trk h H) hm;rw [z] at e;cases e
def zdQ(g h:Heap)(L:Addr):List (Addr×Obj):=(List.range h.objs.size).filterMap fun a=>if a=L\/(g.get? a).isSome=true then none else (h.get? a).map fun o=>(a,o)
def jA(g h:Heap)(L d:Addr):List (Addr×Obj):=(zdQ g h L).filter fun p=>decide (p.1≠d)
structure Mod(K:W.Frag)(mg:Str->Option Value)(base:Heap):Prop where
 kin:K.In base
 glob:base.Ns mainGlobals mg
 blt:∃ mb,base.Ns builtinsNs mb/\∀ x:Str,x≠"__name__"->mb x=bootBuiltins x
 nolimit:base.NoLimit
structure Cx where
 prog:Program
 w:World
 K:W.Frag
 mg:Str->Option Value
 base:Heap
 A:Around
 N:List Str
 s₀:Shared
 H₀:Hp
 env:Env
 outer:List Env
 stack:List Env
 ex:List Addr
 fn:Str->Bool
 calm:Bool
 pn:List (Addr×Obj)
 xe:Value->Shared->Prop
def frs(l:List Env):List Addr:=l.filterMap (·.frame)
abbrev Cx.fs(X:Cx):List Addr:=frs X.outer
def Vis(sc:Scope)(x:Str):Prop:=sc.names.lookup x=some .local\/sc.names.lookup x=some .cell\/sc.names.lookup x=some .free
def Loc(sc:Scope)(x:Str):Prop:=sc.names.lookup x=some .local\/sc.names.lookup x=some .cell
def zji(env:Env)(h:Heap)(m:Str->Option Value)(x:Str)(u:Value):Prop:= (env.kindOf x=some .local/\m x=some u)\/((env.kindOf x=some .cell\/env.kindOf x=some .free)/\∃ c,env.cells.lookup x=some c/\h.IsCell c (some u))
structure Cx.Ok(X:Cx):Prop where
 mod:Mod X.K X.mg X.base
 kind:X.env.scope.kind=.function
 glob:X.env.globals=mainGlobals
 blt:X.env.builtins=builtinsNs
 above:X.s₀.heap.objs.size<=X.env.locals
 inj:∀ x y c,X.env.cells.lookup x=some c->X.env.cells.lookup y=some c->x=y
 has:∀ x,(X.env.kindOf x=some .cell\/X.env.kindOf x=some .free)->∃ c,X.env.cells.lookup x=some c
 cab:∀ x c,X.fn x=true->X.env.cells.lookup x=some c->X.s₀.heap.objs.size<=c
 hd:X.calm=true->X.A.handled=none
 frames:X.A.frames=some X.stack
 stk:X.stack=X.outer\/(X.stack=X.env::X.outer/\X.env.frame=some X.env.locals)
 exf:∀ b∈X.ex,b≠X.env.locals/\∀ x c,X.env.cells.lookup x=some c->c≠b
 bs:∀ b o,X.base.get? b=some o->X.s₀.heap.get? b=some o/\X.H₀ b=none
 bsz:X.base.objs.size<=X.s₀.heap.objs.size
 noex:∀ b o,X.base.get? b=some o->b∉X.ex
 exfs:∀ b∈X.ex,b∉X.fs
 funs:X.s₀.heap.FunFrames X.base X.outer
 frf:∀ b∈X.fs,X.H₀ b=none
structure Inv(X:Cx)(pins:List (Addr×Obj))(O:List (Option V))(H:Hp)(s:Shared):Prop where
 ok:X.Ok
 os:s.os=X.s₀.os
 bare:AllBare s.gens
 base:Un X.fs X.ex X.H₀ H X.s₀.heap s.heap
 loc:∃ m,s.heap.Ns X.env.locals m/\∀ (i:Nat)(x:Str)(v:V),X.N[i]? = some x->O[i]? = some (some v)->Vis X.env.scope x->∃ u,yB v u/\zji X.env s.heap m x u
 cell:∀ x c,X.env.cells.lookup x=some c->∃ v,s.heap.IsCell c v
 free:H X.env.locals=none
 freeC:∀ x c,X.env.cells.lookup x=some c->H c=none
 pin:∀ p∈X.pn++pins,s.heap.get? p.1=some p.2/\H p.1=none/\p.1≠X.env.locals/\p.1∉X.fs/\∀ v,p.2.data≠.cell v
 hok:HOk X.prog X.w H s.heap
 len:O.length=X.N.length
section
variable {X:Cx}{pins:List (Addr×Obj)}{O:List (Option V)}{H H':Hp}{s:Shared}{h':Heap}
theorem Cx.Ok.nofr(ok:X.Ok){b:Addr}{o:Obj}(e:X.base.get? b=some o):b∉X.fs:=fun hb=>by
 have:=(ok.funs.mem hb).1;rw [e] at this;cases this
theorem Inv.bs(I:Inv X pins O H s):∀ b o,X.base.get? b=some o->s.heap.get? b=some o/\H b=none:=fun b o e=> ⟨I.base.keep b o (I.ok.bs b o e).1 (I.ok.bs b o e).2 (I.ok.nofr e) (I.ok.noex b o e),I.base.free b o (I.ok.bs b o e).1 (I.ok.bs b o e).2 (I.ok.noex b o e)⟩
theorem Inv.bk(I:Inv X pins O H s):∀ b o,X.base.get? b=some o->s.heap.get? b=some o:=fun b o e=>(I.bs b o e).1
theorem Inv.mod(I:Inv X pins O H s):Mod X.K X.mg X.base:=I.ok.mod
theorem Inv.kIn(I:Inv X pins O H s):X.K.In s.heap:=I.ok.mod.kin.keeps I.bk
theorem Inv.fr(I:Inv X pins O H s):∃ m,Fr X.base X.env.locals s.heap m:= let ⟨m,hn,_⟩:=I.loc;⟨m,hn,I.bk,Nat.le_trans I.ok.bsz I.ok.above⟩
theorem Inv.lt(I:Inv X pins O H s):X.env.locals<s.heap.objs.size:=let ⟨_,hn,_⟩:=I.loc;hn.lt
theorem Inv.sz(I:Inv X pins O H s):X.s₀.heap.objs.size<=s.heap.objs.size:=Nat.le_trans I.ok.above (Nat.le_of_lt I.lt)
theorem Inv.nofs(I:Inv X pins O H s){a:Addr}(h:s.heap.objs.size<=a):a∉X.fs:=fun hb=>by
 obtain ⟨_,o,ho,_⟩:=I.ok.funs.mem hb;exact absurd (Nat.lt_of_lt_of_le (Heap.lt_size ho) (Nat.le_trans I.sz h)) (Nat.lt_irrefl _)
theorem Inv.cne(I:Inv X pins O H s):∀ x c,X.env.cells.lookup x=some c->c≠X.env.locals:=fun x c e z=>by
 obtain ⟨v,o,ho,hd⟩:=I.cell x c e;obtain ⟨m,⟨o',es,ep,ho',hd',_⟩,_⟩:=I.loc;rw [z,ho'] at ho;cases ho;rw [hd'] at hd;cases hd
theorem Inv.funs(I:Inv X pins O H s):s.heap.FunFrames X.base X.outer:=by
 have all:∀ (l:List Env),(∀ b∈frs l,b∈X.fs)->X.s₀.heap.FunFrames X.base l->s.heap.FunFrames X.base l:=by
  intro l;induction l with
  | nil=>intro _ _;trivial | cons env r ih=>
   intro hs hl;obtain ⟨hk,⟨L,o,hf,hn,ho,hd⟩,hr⟩:=hl;have hL:L∈X.fs:=hs L (by unfold frs;rw [List.filterMap_cons,hf];exact List.mem_cons_self);obtain ⟨sl,e⟩:=I.base.slot L o ho (I.ok.frf L hL) hL fun z=>I.ok.exfs L z hL;exact ⟨hk,⟨L,_,hf,hn,e,hd⟩,ih (fun b hb=>hs b (by unfold frs;rw [List.filterMap_cons,hf];exact List.mem_cons_of_mem _ hb)) hr⟩
 exact all X.outer (fun _ hb=>hb) I.ok.funs
theorem Inv.stack(I:Inv X pins O H s):s.heap.FunFrames X.base X.stack:=by
 rcases I.ok.stk with e | ⟨e,hf⟩;·rw [e];exact I.funs
 ·rw [e];obtain ⟨m,hn,_⟩:=I.loc;refine .cons (by rw [I.ok.kind];decide) hf hn ?_ I.funs;exact Heap.get?_none_of_le (Nat.le_trans I.ok.bsz I.ok.above)
theorem Inv.stkSub(I:Inv X pins O H s):∀ b∈frs X.stack,b∈X.env.locals::X.fs:=fun b hb=>by
 rcases I.ok.stk with e | ⟨e,hf⟩;·rw [e] at hb;exact List.mem_cons_of_mem _ hb
 ·rw [e] at hb;unfold frs at hb;rw [List.filterMap_cons,hf] at hb;exact hb
theorem Inv.stkFree(I:Inv X pins O H s):∀ b∈frs X.stack,H b=none:=fun b hb=>by
 rcases List.mem_cons.mp (I.stkSub b hb) with e | hb;·rw [e];exact I.free
 ·obtain ⟨_,o,ho,_⟩:=I.ok.funs.mem hb;exact I.base.free b o ho (I.ok.frf b hb) fun z=>I.ok.exfs b z hb
theorem Inv.step{g':Array GenState}{t':Nat}{d':Drawn}{ch:List Addr}(I:Inv X pins O H s) (hch:∀ b∈ch,(b∈X.ex\/X.s₀.heap.objs.size<=b)/\b≠X.env.locals/\(∀ x c,X.env.cells.lookup x=some c->c≠b)/\∀ p∈X.pn++pins,p.1≠b) (keep:∀ b o,b≠X.env.locals->b∉X.fs->b∉ch->s.heap.get? b=some o->H b=none->h'.get? b=some o) (slot:∀ b o,b≠X.env.locals->b∈X.fs->b∉ch->s.heap.get? b=some o->H b=none->∃ sl,h'.get? b=some {o with slots:=sl})(free:∀ b o,b∉ch->s.heap.get? b=some o->H b=none->H' b=none) (there:∀ b o,b∉ch->s.heap.get? b=some o->∃ o',h'.get? b=some o') (tups:∀ b xs,H b=some (.tup xs)->H' b=some (.tup xs))(frzs:∀ b o u,H b=some (.frz o u)->H' b=some (.frz o u))(tbls:∀ b ps,H b=some (.tbl ps)->∃ more,H' b=some (.tbl (ps++more))) (ns:∀ m,s.heap.Ns X.env.locals m->h'.Ns X.env.locals m)(hok:HOk X.prog X.w H' h')(hg:AllBare g'): Inv X pins O H' {s with heap:=h',gens:=g',drawn:=d',toks:=t'}:=by
 have neL:∀ b o,X.s₀.heap.get? b=some o->b≠X.env.locals:=fun b o e=>Nat.ne_of_lt (Nat.lt_of_lt_of_le (Heap.lt_size e) I.ok.above);have neC:∀ b o,X.s₀.heap.get? b=some o->b∉X.ex->b∉ch:=fun b o e hx hb=>by
  rcases (hch b hb).1 with z | z;·exact hx z
  ·exact absurd (Nat.lt_of_lt_of_le (Heap.lt_size e) z) (Nat.lt_irrefl _)
 have cellK:∀ x c,X.env.cells.lookup x=some c->∀ v,s.heap.IsCell c v->h'.IsCell c v:=fun x c e v ⟨o,ho,hd⟩=>by
  have nch:c∉ch:=fun z=>(hch c z).2.2.1 x c e rfl;by_cases hc:c∈X.fs
  ·obtain ⟨sl,q⟩:=slot c o (I.cne x c e) hc nch ho (I.freeC x c e);exact ⟨_,q,hd⟩
  ·exact ⟨o,keep c o (I.cne x c e) hc nch ho (I.freeC x c e),hd⟩
 refine ⟨I.ok,I.os,hg,⟨fun b o e n hb hx=>?_,fun b o e n hb hx=>?_,fun b o e n hx=>?_,fun b o e hx=>?_,fun b xs e=>tups b xs (I.base.tups b xs e),fun b o xs e=>frzs b o xs (I.base.frzs b o xs e),fun b ps e=>?_⟩,?_,fun x c e=>?_,?_,fun x c e=>?_,fun p hp=>?_,hok,I.len⟩;·exact keep b o (neL b o e) hb (neC b o e hx) (I.base.keep b o e n hb hx) (I.base.free b o e n hx)
 ·obtain ⟨sl,e1⟩:=I.base.slot b o e n hb hx;obtain ⟨sl',e2⟩:=slot b _ (neL b o e) hb (neC b o e hx) e1 (I.base.free b o e n hx);exact ⟨sl',e2⟩
 ·obtain ⟨o',e1⟩:=I.base.there b o e hx;exact free b o' (neC b o e hx) e1 (I.base.free b o e n hx)
 ·obtain ⟨o',e1⟩:=I.base.there b o e hx;exact there b o' (neC b o e hx) e1
 ·obtain ⟨m1,e1⟩:=I.base.tbls b ps e;obtain ⟨m2,e2⟩:=tbls b _ e1;exact ⟨m1++m2,by rw [e2,Array.append_assoc]⟩
 ·obtain ⟨m,hn,hl⟩:=I.loc;refine ⟨m,ns m hn,fun i x v e1 e2 e3=>?_⟩;obtain ⟨u,r,l⟩:=hl i x v e1 e2 e3;refine ⟨u,r,?_⟩;rcases l with l | ⟨k,c,e,z⟩;·exact .inl l
  ·exact .inr ⟨k,c,e,cellK x c e _ z⟩
 ·obtain ⟨v,z⟩:=I.cell x c e;exact ⟨v,cellK x c e v z⟩
 ·obtain ⟨m,⟨o,_,_,ho,_⟩,_⟩:=I.loc;exact free _ o (fun z=>(hch _ z).2.1 rfl) ho I.free
 ·obtain ⟨v,o,ho,hd⟩:=I.cell x c e;exact free c o (fun z=>(hch c z).2.2.1 x c e rfl) ho (I.freeC x c e)
 ·obtain ⟨e,n,ne,nf,d⟩:=I.pin p hp;have nch:p.1∉ch:=fun z=>(hch p.1 z).2.2.2 p hp rfl;exact ⟨keep p.1 p.2 ne nf nch e n,free p.1 p.2 nch e n,ne,nf,d⟩
theorem Inv.un {t':Nat} (I:Inv X pins O H s) (u:Un X.fs [] H H' s.heap h') (hok:HOk X.prog X.w H' h'):Inv X pins O H' {s with heap:=h',toks:=t'}:=by
 obtain ⟨m,⟨o,es,ep,ho,r⟩,_⟩:=id I.loc;obtain ⟨sl,hL⟩:=u.any ho I.free (by simp);exact I.step (g':=s.gens) (d':=s.drawn) (ch:=[]) (fun _ z=>nomatch z) (fun b o _ hb _ e n=>u.keep b o e n hb (by simp)) (fun b o _ hb _ e n=>u.slot b o e n hb (by simp)) (fun b o _ e n=>u.free b o e n (by simp)) (fun b o _ e=>u.there b o e (by simp)) u.tups u.frzs u.tbls (fun m' hm=>by
  obtain ⟨o',es',ep',ho',r'⟩:=hm;rw [ho] at ho';cases ho';exact ⟨_,es',ep',hL,r'⟩) hok I.bare
theorem Inv.call{g':Array GenState}{t':Nat}{d':Drawn}{ch:List Addr}(I:Inv X pins O H s)(u:Un (frs X.stack) ch H H' s.heap h')(hok:HOk X.prog X.w H' h')(hg:AllBare g') (hch:∀ b∈ch,(b∈X.ex\/X.s₀.heap.objs.size<=b)/\b≠X.env.locals/\(∀ x c,X.env.cells.lookup x=some c->c≠b)/\∀ p∈X.pn++pins,p.1≠b): Inv X pins O H' {s with heap:=h',gens:=g',drawn:=d',toks:=t'}:=by
 obtain ⟨m,⟨o,es,ep,ho,r⟩,_⟩:=id I.loc;obtain ⟨sl,hL⟩:=u.any ho I.free fun z=>(hch _ z).2.1 rfl;exact I.step (ch:=ch) hch (fun b o hL hb hc e n=>u.keep b o e n (fun z=>(List.mem_cons.mp (I.stkSub b z)).elim hL hb) hc) (fun b o _ _ hc e n=>u.any e n hc) (fun b o hc e n=>u.free b o e n hc) (fun b o hc e=>u.there b o e hc) u.tups u.frzs u.tbls (fun m' hm=>by
  obtain ⟨o',es',ep',ho',r'⟩:=hm;rw [ho] at ho';cases ho';exact ⟨_,es',ep',hL,r'⟩) hok hg
theorem Inv.turned {t':Nat} {it:Addr} (I:Inv X pins O H s) (k:∀ b o,b≠it->s.heap.get? b=some o->h'.get? b=some o) (hn:H it=none) (hL:it≠X.env.locals) (h1:it∈X.ex\/X.s₀.heap.objs.size<=it) (h2:∀ x c,X.env.cells.lookup x=some c->c≠it) (h3:∀ p∈X.pn++pins,p.1≠it):Inv X pins O H {s with heap:=h',toks:=t'}:=by
 have nit:∀ b u,H b=some u->b≠it:=fun b u e z=>by rw [z,hn] at e;cases e
 refine I.step (g':=s.gens) (d':=s.drawn) (ch:=[it]) (fun b hb=>?_) (fun b o _ _ hc e _=>k b o (fun z=>hc (by simp [z])) e) (fun b o _ _ hc e _=>⟨o.slots,k b o (fun z=>hc (by simp [z])) e⟩) (fun _ _ _ _ n=>n) (fun b o hc e=>⟨o,k b o (fun z=>hc (by simp [z])) e⟩) (fun _ _ e=>e) (fun _ _ _ e=>e) (fun b ps e=>⟨#[],by rw [e];simp⟩) (fun m hm=>?_) (fun b u e=>?_) I.bare
 ·have e:b=it:=by simpa using hb
  subst e;exact ⟨h1,hL,h2,h3⟩
 ·obtain ⟨o,es,ep,ho,r⟩:=hm;exact ⟨o,es,ep,k _ o (Ne.symm hL) ho,r⟩
 ·refine (I.hok b u e).stay (fun c v hc q=>k c v ?_ q) (fun _ q=>q) fun _ _ q=>q;rcases hc with z | z;·rw [z];exact nit b u e
  ·exact nit c _ z
theorem Inv.tok (I:Inv X pins O H s) (t:Nat):Inv X pins O H {s with toks:=t}:=I.un (h':=s.heap) (t':=t) Un.refl I.hok
theorem Inv.kept{t':Nat}(I:Inv X pins O H s)(k:∀ b u,s.heap.get? b=some u->h'.get? b=some u):Inv X pins O H {s with heap:=h',toks:=t'}:=I.un (Un.kept k) (I.hok.kept k)
theorem Inv.laid {a:Addr} {o:HO} {t':Nat} (I:Inv X pins O H s) (k:∀ b u,s.heap.get? b=some u->h'.get? b=some u) (hp:s.heap.objs.size<=a) (new:xx X.prog X.w (upd H a o) h' a o): Inv X pins O (upd H a o) {s with heap:=h',toks:=t'}:=I.un (Un.laid k hp (I.hok.fresh hp)) (I.hok.laid k hp new)
theorem Inv.write {x e:Addr} {o:HO} {t':Nat} (I:Inv X pins O H s) (mu:Mut (H x)) (he:e=x\/H e=some (.own x)) (k:∀ b u,b≠e->s.heap.get? b=some u->h'.get? b=some u) (heo:∃ u,h'.get? e=some u) (new:xx X.prog X.w (upd H x o) h' x o):Inv X pins O (upd H x o) {s with heap:=h',toks:=t'}:=I.un (Un.write mu he k heo) (I.hok.write mu he k heo new)
theorem Inv.weak{O':List (Option V)}(I:Inv X pins O H s)(hl:O'.length=O.length)(w:∀ (i:Nat) v,O'[i]? = some (some v)->O[i]? = some (some v)):Inv X pins O' H s:= ⟨I.ok,I.os,I.bare,I.base,let ⟨m,hn,hl'⟩:=I.loc;⟨m,hn,fun i x v e1 e2 e3=>hl' i x v e1 (w i v e2) e3⟩,I.cell,I.free,I.freeC,I.pin,I.hok,hl.trans I.len⟩
theorem Inv.pins_of{pins':List (Addr×Obj)}(I:Inv X pins O H s)(h:∀ p∈pins',s.heap.get? p.1=some p.2/\H p.1=none/\p.1≠X.env.locals/\p.1∉X.fs/\∀ v,p.2.data≠.cell v):Inv X pins' O H s:= ⟨I.ok,I.os,I.bare,I.base,I.loc,I.cell,I.free,I.freeC,fun p hp=>(List.mem_append.mp hp).elim (fun z=>I.pin p (List.mem_append_left _ z)) (h p),I.hok,I.len⟩
theorem z6z{N:List Str}(hN:N.Nodup){i j:Nat}{x:Str}(a:N[i]? = some x)(b:N[j]? = some x):i=j:=by
 obtain ⟨h1,e1⟩:=List.getElem?_eq_some_iff.mp a;obtain ⟨h2,e2⟩:=List.getElem?_eq_some_iff.mp b;exact (List.getElem_inj hN).mp (e1.trans e2.symm)
theorem jT{M:Model}{A:Around}{E:Value->Shared->Prop}{i:Nat}{x:Str}{v:V}{u:Value}{Q:Unit->Shared->Prop}(I:Inv X pins O H s)(hN:X.N.Nodup)(hi:X.N[i]? = some x)(hx:Loc X.env.scope x)(r:yB v u) (h:∀ s',Inv X pins (O.set i (some v)) H s'->(∃ a,Heap.SameBut a s.heap s'.heap/\(a=X.env.locals\/X.env.cells.lookup x=some a))->Q () s')(hf:X.fn x=true\/X.env.scope.names.lookup x=some .local:=by first | exact .inl rfl | exact .inr rfl | assumption):wpAny M A (storeName X.env x u) Q E s:=by
 obtain ⟨m,hn,hl⟩:=id I.loc;have hcls:(X.env.scope.kind==.class||(X.env.scope.kind==.module&&X.env.locals != X.env.globals))=false:=by rw [I.ok.kind];rfl
 have hiO:i<O.length:=by rw [I.len];exact (List.getElem?_eq_some_iff.mp hi).1
 have cne:=I.cne;have tracked:∀ {a:Addr}{h':Heap},(∃ o,s.heap.get? a=some o/\H a=none)->Heap.SameBut a s.heap h'->HOk X.prog X.w H h':=fun {a h'} ha hs b ob e=>by
  obtain ⟨_,_,hfree⟩:=ha;refine (I.hok b ob e).stay (fun c w' hc q=>(hs.2 c ?_).trans q) (fun _ q=>q) fun _ _ q=>q;rintro rfl;rcases hc with rfl | hc;·rw [hfree] at e;cases e
  ·rw [hfree] at hc;cases hc
 rcases hx with hk | hk
 ·refine wpAny_storeName_local hk hn (fun h' hn' hs=>?_) hcls;obtain ⟨oL,_,_,hoL,_⟩:=id hn;refine h _ ⟨I.ok,I.os,I.bare,⟨fun b o e n hb hx=>?_,fun b o e n hb hx=>?_,I.base.free,fun b o e hx=>?_,I.base.tups,I.base.frzs,I.base.tbls⟩,⟨_,hn',fun j y v' e1 e2 e3=>?_⟩,fun y c e=>?_,I.free,I.freeC,fun p hp=>?_,tracked ⟨oL,hoL,I.free⟩ hs,by simpa using I.len⟩ ⟨_,hs,.inl rfl⟩;·exact (hs.2 b (Nat.ne_of_lt (Nat.lt_of_lt_of_le (Heap.lt_size e) I.ok.above))).trans (I.base.keep b o e n hb hx)
  ·obtain ⟨sl,e1⟩:=I.base.slot b o e n hb hx;exact ⟨sl,(hs.2 b (Nat.ne_of_lt (Nat.lt_of_lt_of_le (Heap.lt_size e) I.ok.above))).trans e1⟩
  ·obtain ⟨o',e1⟩:=I.base.there b o e hx;exact ⟨o',(hs.2 b (Nat.ne_of_lt (Nat.lt_of_lt_of_le (Heap.lt_size e) I.ok.above))).trans e1⟩
  ·by_cases hj:j=i
   ·subst hj;rw [hi] at e1;cases e1;rw [List.getElem?_set_self hiO] at e2;cases e2;exact ⟨u,r,.inl ⟨hk,by simp⟩⟩
   ·rw [List.getElem?_set_ne (Ne.symm hj)] at e2;obtain ⟨u',r',q⟩:=hl j y v' e1 e2 e3;refine ⟨u',r',?_⟩;rcases q with ⟨k,e⟩ | ⟨k,c,e,z⟩
    ·refine .inl ⟨k,?_⟩;have:y≠x:=fun e=>hj (z6z hN e1 (e ▸ hi));simp [this,e]
    ·exact .inr ⟨k,c,e,z.sameBut hs (cne y c e)⟩
  ·obtain ⟨w',z⟩:=I.cell y c e;exact ⟨w',z.sameBut hs (cne y c e)⟩
  ·obtain ⟨e,n,ne,nf,d⟩:=I.pin p hp;exact ⟨(hs.2 p.1 ne).trans e,n,ne,nf,d⟩
 ·have hfn:X.fn x=true:=by
   rcases hf with z | z;·exact z
   ·rw [z] at hk;cases hk
  obtain ⟨c,hc⟩:=I.ok.has x (.inl hk);obtain ⟨w',z⟩:=I.cell x c hc;refine wpAny_storeName_cell I.ok.kind hk hc z (fun h' hc' hs=>?_);obtain ⟨oc,hoc,hocd⟩:=id z;refine h {s with heap:=h'} ⟨I.ok,I.os,I.bare,⟨fun b o e n hb hx=>?_,fun b o e n hb hx=>?_,I.base.free,fun b o e hx=>?_,I.base.tups,I.base.frzs,I.base.tbls⟩,⟨m,hn.sameBut hs (Ne.symm (cne x c hc)),fun j y v' e1 e2 e3=>?_⟩,fun y c' e=>?_,I.free,I.freeC,fun p hp=>?_,tracked ⟨oc,hoc,I.freeC x c hc⟩ hs,by simpa using I.len⟩ ⟨c,hs,.inr hc⟩;·exact (hs.2 b (Nat.ne_of_lt (Nat.lt_of_lt_of_le (Heap.lt_size e) (I.ok.cab x c hfn hc)))).trans (I.base.keep b o e n hb hx)
  ·obtain ⟨sl,e1⟩:=I.base.slot b o e n hb hx;exact ⟨sl,(hs.2 b (Nat.ne_of_lt (Nat.lt_of_lt_of_le (Heap.lt_size e) (I.ok.cab x c hfn hc)))).trans e1⟩
  ·obtain ⟨o',e1⟩:=I.base.there b o e hx;exact ⟨o',(hs.2 b (Nat.ne_of_lt (Nat.lt_of_lt_of_le (Heap.lt_size e) (I.ok.cab x c hfn hc)))).trans e1⟩
  ·by_cases hj:j=i
   ·subst hj;rw [hi] at e1;cases e1;rw [List.getElem?_set_self hiO] at e2;cases e2;exact ⟨u,r,.inr ⟨.inl hk,c,hc,hc'⟩⟩
   ·rw [List.getElem?_set_ne (Ne.symm hj)] at e2;obtain ⟨u',r',q⟩:=hl j y v' e1 e2 e3;refine ⟨u',r',?_⟩;rcases q with q | ⟨k,c',e,z'⟩;·exact .inl q
    ·refine .inr ⟨k,c',e,z'.sameBut hs ?_⟩;rintro rfl;exact hj (z6z hN e1 (I.ok.inj _ _ _ e hc ▸ hi))
  ·by_cases hcc:c'=c;·subst hcc;exact ⟨_,hc'⟩
   ·obtain ⟨w2,z2⟩:=I.cell y c' e;exact ⟨w2,z2.sameBut hs hcc⟩
  ·obtain ⟨e,n,ne,nf,d⟩:=I.pin p hp;refine ⟨(hs.2 p.1 ?_).trans e,n,ne,nf,d⟩;intro q;rw [q,hoc] at e;have q':oc=p.2:=Option.some.inj e;exact d w' (by rw [<- q'];exact hocd)
theorem z3s{M:Model}{A:Around}{E:Value->Shared->Prop}{i:Nat}{x:Str}{v:V}{u:Value}{Q:Unit->Shared->Prop}(I:Inv X pins O H s)(hN:X.N.Nodup)(hi:X.N[i]? = some x)(hx:Loc X.env.scope x)(r:yB v u) (h:∀ s',Inv X pins (O.set i (some v)) H s'->Q () s')(hf:X.fn x=true\/X.env.scope.names.lookup x=some .local:=by first | exact .inl rfl | exact .inr rfl | assumption):wpAny M A (storeName X.env x u) Q E s:= jT I hN hi hx r (fun s' I' _=>h s' I') hf
theorem Inv.call' {s':Shared} {ch:List Addr} (I:Inv X pins O H s) (ho:s'.os=s.os) (u:Un (frs X.stack) ch H H' s.heap s'.heap) (hok:HOk X.prog X.w H' s'.heap) (hg:AllBare s'.gens) (hch:∀ b∈ch,(b∈X.ex\/X.s₀.heap.objs.size<=b)/\b≠X.env.locals/\(∀ x c,X.env.cells.lookup x=some c->c≠b)/\∀ p∈X.pn++pins,p.1≠b):Inv X pins O H' s':=by
 obtain ⟨h',g',d',t',o'⟩:=s';have e:o'=s.os:=ho;subst e;exact I.call (g':=g') (t':=t') (d':=d') u hok hg hch
end
abbrev XK:=Value->Option Addr->Hp->Prop
abbrev St:=List (Option V)
abbrev VK:=V->Hp->Prop
abbrev TE:=St->Hp->VK->Prop
abbrev TT:=St->Hp->(Bool->Hp->Prop)->Prop
abbrev TA:=St->Hp->(List V->Hp->Prop)->Prop
structure zaZ where
 nx:St->Hp->Prop
 rt:VK
 bk:St->Hp->Prop:=fun _ _=>False
 ct:St->Hp->Prop:=fun _ _=>False
abbrev TS:=zaZ->St->Hp->Prop
def EP(X:Cx)(pins:List (Addr×Obj))(O:St)(Q:VK)(u:Value)(s':Shared):Prop:=∃ v H',Inv X pins O H' s'/\yB v u/\Q v H'
def TP(X:Cx)(pins:List (Addr×Obj))(O:St)(Q:Bool->Hp->Prop)(b:Bool)(s':Shared):Prop:=∃ H',Inv X pins O H' s'/\Q b H'
def AP(X:Cx)(pins:List (Addr×Obj))(O:St)(Q:List V->Hp->Prop)(us:List Value)(s':Shared):Prop:=∃ vs H',Inv X pins O H' s'/\xb vs us/\Q vs H'
def SP(X:Cx)(pins:List (Addr×Obj))(D:zaZ)(f:Flow)(s':Shared):Prop:= match f with
 | .next=>∃ O' H',Inv X pins O' H' s'/\D.nx O' H' | .brk=>∃ O' H',Inv X pins O' H' s'/\D.bk O' H' | .cont=>∃ O' H',Inv X pins O' H' s'/\D.ct O' H' | .ret u=>∃ v O' H',Inv X pins O' H' s'/\yB v u/\D.rt v H'
def PE(X:Cx)(e:Expr)(t:TE):Prop:= ∀ (pins:List (Addr×Obj))(s:Shared)(O:St)(H:Hp)(Q:VK),Inv X pins O H s->t O H Q->wpAny (model X.prog X.w) X.A (eval e X.env) (EP X pins O Q) X.xe s
def PT(X:Cx)(e:Expr)(t:TT):Prop:= ∀ (pins:List (Addr×Obj))(s:Shared)(O:St)(H:Hp)(Q:Bool->Hp->Prop),Inv X pins O H s->t O H Q->wpAny (model X.prog X.w) X.A (isTrue e X.env (eval e X.env)) (TP X pins O Q) X.xe s
def PW(X:Cx)(e:Expr)(t:TT):Prop:= ∀ (whole:Sem Value)(pins:List (Addr×Obj))(s:Shared)(O:St)(H:Hp)(Q:Bool->Hp->Prop),Inv X pins O H s->t O H Q->wpAny (model X.prog X.w) X.A (isTrue e X.env whole) (TP X pins O Q) X.xe s
theorem PW.pt{X:Cx}{e:Expr}{t:TT}(h:PW X e t):PT X e t:=h _
def PA(X:Cx)(es:List Expr)(t:TA):Prop:= ∀ (pos:Pos)(pins:List (Addr×Obj))(s:Shared)(O:St)(H:Hp)(Q:List V->Hp->Prop),Inv X pins O H s->t O H Q->wpAny (model X.prog X.w) X.A (spliced (backTo pos (starEach es X.env))) (AP X pins O Q) X.xe s
def PS(X:Cx)(st:Stmt)(t:TS):Prop:= ∀ (pins:List (Addr×Obj))(s:Shared)(O:St)(H:Hp)(D:zaZ),Inv X pins O H s->t D O H->wpAny (model X.prog X.w) X.A (exec st X.env) (SP X pins D) X.xe s
def PSs(X:Cx)(st:List Stmt)(t:TS):Prop:= ∀ (pins:List (Addr×Obj))(s:Shared)(O:St)(H:Hp)(D:zaZ),Inv X pins O H s->t D O H->wpAny (model X.prog X.w) X.A (execs st X.env) (SP X pins D) X.xe s
theorem thn{α:Type}{t:Sem α}{Q Q':α->Shared->Prop}{M:Model}{A:Around}{E:Value->Shared->Prop}{s:Shared}(h:wpAny M A t Q E s)(hQ:∀ a s,Q a s->Q' a s):wpAny M A t Q' E s:=wpAny_mono h hQ fun _ _ x=>x
section
variable {X:Cx}
theorem bin{a b:Expr}{ta tb:TE}(ha:PE X a ta)(hb:PE X b tb){pins:List (Addr×Obj)}{s:Shared}{O:St}{H:Hp}{R:V->V->Hp->Prop}(I:Inv X pins O H s)(h:ta O H fun x H1=>tb O H1 fun y H2=>R x y H2) {α:Type}{Q:α->Shared->Prop}{f:Value->Value->Sem α} (hf:∀ v u s2 x y H2,Inv X pins O H2 s2->yB x v->yB y u->R x y H2->wpAny (model X.prog X.w) X.A (f v u) Q X.xe s2): wpAny (model X.prog X.w) X.A (eval a X.env) (fun v s₁=>wpAny (model X.prog X.w) X.A (eval b X.env) (fun u s₂=>wpAny (model X.prog X.w) X.A (f v u) Q X.xe s₂) X.xe s₁) X.xe s:=by
 refine thn (ha pins s O H _ I h) fun v s1 ⟨x,H1,I1,r1,q1⟩=>?_;refine thn (hb pins s1 O H1 _ I1 q1) fun u s2 ⟨y,H2,I2,r2,q2⟩=>?_;exact hf v u s2 x y H2 I2 r1 r2 q2
def ziZ(i:Nat):TE:=fun O H Q=>∃ v,O[i]? = some (some v)/\Q v H
def tC(v:V):TE:=fun _ H Q=>Q v H
theorem z8S{i:Nat}{x:Str}{pos:Pos}(hN:X.N[i]? = some x)(hv:Vis X.env.scope x)(hd:(x==("__debug__":Str))=false:=by decide)(hcd:(x==("__classdict__":Str))=false:=by decide):PE X (.Name x pos) (ziZ i):=by
 intro pins s O H Q I h;obtain ⟨v,e,h⟩:=h;obtain ⟨m,hn,hl⟩:=I.loc;obtain ⟨u,r,l⟩:=hl i x v hN e hv;have fin:EP X pins O Q u s:=⟨v,H,I,r,h⟩;rcases l with ⟨hk,hm⟩ | ⟨hk,c,hc,hcell⟩;·exact wpAny_Name (wpAny_loadName_local I.ok.kind hk hn hm fin) hd
 ·rcases hk with hk | hk;·exact wpAny_Name (wpAny_loadName_cell I.ok.kind hk hc hcell fin) hd
  ·exact wpAny_Name (wpAny_loadName_free I.ok.kind hk hc hcell fin hcd) hd
theorem zcr{i j pos}:PE X (.Constant (.int i) j pos) (tC (.int i)):=fun _ _ _ H _ I h=>wpAny_Constant_int ⟨.int i,H,I.tok _,⟨_,rfl⟩,h⟩
theorem zhZ{b j pos}:PE X (.Constant (.bool b) j pos) (tC (.bl b)):=fun _ _ _ H _ I h=>Constant_bool ⟨.bl b,H,I,rfl,h⟩
theorem zfJ{j pos}:PE X (.Constant .none j pos) (tC .non):=fun _ _ _ H _ I h=>Constant_none ⟨.non,H,I,rfl,h⟩
theorem zfl{x j pos}:PE X (.Constant (.str x) j pos) (tC (.str x)):=fun _ _ _ H _ I h=>Calls.Constant_str ⟨.str x,H,I.tok _,⟨_,rfl⟩,h⟩
def Gl(X:Cx)(x:Str):Prop:=X.env.kindOf x=some .globalImplicit
theorem z6j{E:Value->Shared->Prop}{pins:List (Addr×Obj)}{s:Shared}{O:St}{H:Hp}{x:Str}{u:Value}{pos:Pos}{Q:Value->Shared->Prop}(I:Inv X pins O H s)(hg:Gl X x)(hm:X.mg x=some u)(h:Q u s) (hd:(x==("__debug__":Str))=false:=by decide):wpAny (model X.prog X.w) X.A (eval (.Name x pos) X.env) Q E s:= Calls.Name_function_global I.ok.kind hg (Calls.loadGlobal_global (by rw [I.ok.glob];exact I.mod.glob.keeps I.bk) hm h) hd
theorem jX{E:Value->Shared->Prop}{pins:List (Addr×Obj)}{s:Shared}{O:St}{H:Hp}{x:Str}{u:Value}{pos:Pos}{Q:Value->Shared->Prop}(I:Inv X pins O H s)(hg:Gl X x)(hm:X.mg x=none)(hv:bootBuiltins x=some u)(h:Q u s) (hn:x≠"__name__":=by decide)(hd:(x==("__debug__":Str))=false:=by decide):wpAny (model X.prog X.w) X.A (eval (.Name x pos) X.env) Q E s:=by
 obtain ⟨mb,h1,h2⟩:=I.mod.blt;exact Calls.Name_function_global I.ok.kind hg (Calls.loadGlobal_builtin (by rw [I.ok.glob];exact I.mod.glob.keeps I.bk) hm (by rw [I.ok.blt];exact h1.keeps I.bk) ((h2 x hn).trans hv) h) hd
theorem z62{x:Str}{v:V}{u:Value}{pos:Pos}(hg:Gl X x)(hm:X.mg x=some u)(r:yB v u)(hd:(x==("__debug__":Str))=false:=by decide):PE X (.Name x pos) (tC v):= fun _ _ _ H _ I h=>z6j I hg hm ⟨v,H,I,r,h⟩ hd
theorem zdm{x:Str}{v:V}{u:Value}{pos:Pos}(hg:Gl X x)(hm:X.mg x=none)(hv:bootBuiltins x=some u)(r:yB v u)(hn:x≠"__name__":=by decide)(hd:(x==("__debug__":Str))=false:=by decide):PE X (.Name x pos) (tC v):= fun _ _ _ H _ I h=>jX I hg hm hv ⟨v,H,I,r,h⟩ hn hd
variable {a b:Expr}{ta tb:TE}{pos:Pos}
def PC(X:Cx)(op:CmpOp)(a b:Expr)(t:TE):Prop:= ∀ (pins:List (Addr×Obj))(s:Shared)(O:St)(H:Hp)(Q:VK),Inv X pins O H s->t O H Q-> wpAny (model X.prog X.w) X.A (eval a X.env) (fun v s₁=>wpAny (model X.prog X.w) X.A (eval b X.env) (fun u s₂=>wpAny (model X.prog X.w) X.A (compareOp op v u) (EP X pins O Q) X.xe s₂) X.xe s₁) X.xe s
theorem zby(b:Expr){op:CmpOp}(h:op≠.In)(h2:op≠.NotIn):behindInMarks op b=false:=by
 have e1:(op==CmpOp.In)=false:=by cases op<;>first | rfl | exact absurd rfl h
 have e2:(op==CmpOp.NotIn)=false:=by cases op<;>first | rfl | exact absurd rfl h2
 cases b<;>simp [behindInMarks,e1,e2]
def tB(t:TE):TT:=fun O H Q=>t O H fun x H1=>∃ c,x=.bl c/\Q c H1
theorem ziX{op:CmpOp}{t:TE}(h:PC X op a b t)(h1:behindInMarks op b=false:=by first | exact zby _ (by decide) (by decide) | rfl):PT X (.Compare a [op] [b] pos) (tB t):=by
 intro pins s O H Q I hw;refine wpAny_isTrue_Compare1 (thn (h pins s O H _ I hw) fun v s1 h1=>thn h1 fun u s2 h2=>thn h2 fun c s3 ⟨x,H1,I1,r1,q1⟩=>?_) h1;obtain ⟨d,rfl,q⟩:=q1;cases r1;exact wpAny_truthy_bool ⟨H1,I1,q⟩
theorem zfZ{e:Expr}{t:TE}(h:PE X e t)(he:∀ whole,isTrue e X.env whole=(do let v <- whole;standAt e.pos;holding [v] (truthy v)):=by intro _;rfl):PT X e (tB t):=by
 intro pins s O H Q I hw;refine isTrue_plain (thn (h pins s O H _ I hw) fun v s1 ⟨x,H1,I1,r1,q1⟩=>?_) (he _);obtain ⟨d,rfl,q⟩:=q1;cases r1;exact wpAny_truthy_bool ⟨H1,I1,q⟩
variable {tA tB':TT}{jA:List Expr}
def zj2(t u:TT):TT:=fun O H Q=>t O H fun c H1=>if c=true then u O H1 Q else Q false H1
def tOr(t u:TT):TT:=fun O H Q=>t O H fun c H1=>if c=true then Q true H1 else u O H1 Q
def zjD(t:TT):TT:=fun O H Q=>t O H fun c H1=>Q (!c) H1
theorem zdH(ha:PT X a tA):PW X (.BoolOp .And [a] pos) tA:=by
 intro wh pins s O H Q I h;refine isTrue_and (thn (ha pins s O H Q I h) fun c s1 e=>?_);cases c with
 | true=>exact isTrue_and_nil e | false=>exact e
theorem zfg(ha:PT X a tA):PW X (.BoolOp .Or [a] pos) tA:=by
 intro wh pins s O H Q I h;refine isTrue_or (thn (ha pins s O H Q I h) fun c s1 e=>?_);cases c with
 | false=>exact isTrue_or_nil e | true=>exact e
theorem zff(ha:PT X a tA)(hb:PW X (.BoolOp .And (b::jA) pos) tB'):PW X (.BoolOp .And (a::b::jA) pos) (zj2 tA tB'):=by
 intro wh pins s O H Q I h;refine isTrue_and (thn (ha pins s O H _ I h) fun c s1 ⟨H1,I1,q1⟩=>?_);cases c with
 | true=>exact hb wh pins s1 O H1 Q I1 q1 | false=>exact ⟨H1,I1,q1⟩
theorem zi0(ha:PT X a tA)(hb:PW X (.BoolOp .Or (b::jA) pos) tB'):PW X (.BoolOp .Or (a::b::jA) pos) (tOr tA tB'):=by
 intro wh pins s O H Q I h;refine isTrue_or (thn (ha pins s O H _ I h) fun c s1 ⟨H1,I1,q1⟩=>?_);cases c with
 | true=>exact ⟨H1,I1,q1⟩ | false=>exact hb wh pins s1 O H1 Q I1 q1
theorem zeM(ha:PT X a tA):PT X (.UnaryOp .Not a pos) (zjD tA):=by
 intro pins s O H Q I h;exact isTrue_not (ha pins s O H (fun c H1=>Q (!c) H1) I h)
def zhl(ta tb:TE):TE:=fun O H Q=>ta O H fun x H1=>∃ c,x=.bl c/\if c=true then tb O H1 Q else Q (.bl false) H1
def zhR(ta:TE):TE:=fun O H Q=>ta O H fun x H1=>∃ c,x=.bl c/\Q (.bl (!c)) H1
theorem zf2{op}{t:TE}(h:PE X a t):PE X (.BoolOp op [a] pos) t:=fun pins s O H Q I hw=>BoolOp_one (h pins s O H Q I hw)
theorem zer(ha:PE X a ta)(hb:PE X (.BoolOp .And (b::jA) pos) tb):PE X (.BoolOp .And (a::b::jA) pos) (zhl ta tb):=by
 intro pins s O H Q I h;refine BoolOp_and (thn (ha pins s O H _ I h) fun v s1 ⟨x,H1,I1,r1,q1⟩=>?_);obtain ⟨c,rfl,q1⟩:=q1;cases r1;refine wpAny_truthy_bool ?_;cases c with
 | true=>exact hb pins s1 O H1 Q I1 q1 | false=>exact ⟨.bl false,H1,I1,rfl,q1⟩
theorem zg8(ha:PE X a ta):PE X (.UnaryOp .Not a pos) (zhR ta):=by
 intro pins s O H Q I h;refine UnaryOp_ (thn (ha pins s O H _ I h) fun v s1 ⟨x,H1,I1,r1,q1⟩=>?_);obtain ⟨c,rfl,q1⟩:=q1;cases r1;exact not_of (wpAny_truthy_bool ⟨.bl (!c),H1,I1,rfl,q1⟩)
def tIf(t:TT)(ta tb:TE):TE:=fun O H Q=>t O H fun c H1=>if c=true then ta O H1 Q else tb O H1 Q
theorem zaT{c:Expr}(hc:PT X c tA)(ha:PE X a ta)(hb:PE X b tb):PE X (.IfExp c a b pos) (tIf tA ta tb):=by
 intro pins s O H Q I h;refine wpAny_IfExp (thn (hc pins s O H _ I h) fun d s1 ⟨H1,I1,q1⟩=>?_);cases d with
 | true=>exact ha pins s1 O H1 Q I1 q1 | false=>exact hb pins s1 O H1 Q I1 q1
end
def SqL(K:W.Frag)(H:Hp)(a:Addr)(xs:List V):Prop:= Rd H a (.lst xs)\/ ∃ (o:Obj)(its:Array Value)(n:Nat),K.lookup a=some o/\o.cls=.type "list"/\o.dict=none/\o.data=.seq its n/\its.size<=sizeLine/\xb xs its.toList
def SqT(K:W.Frag)(H:Hp)(a:Addr)(xs:List V):Prop:= Rd H a (.tup xs)\/ ∃ (o:Obj)(its:Array Value)(n:Nat),K.lookup a=some o/\o.cls=.type "tuple"/\o.data=.seq its n/\its.size<=sizeLine/\xb xs its.toList
def zjL:Value->Option V
 | .none=>some .non | .bool b=>some (.bl b) | .int i _=>some (.int i) | .str x _=>some (.str x) | .bytes b _=>some (.byt b) | .float b _=>some (.flt b) | .ref a=>some (.ref a) | .type n=>some (.ty n) | _=>none
theorem yB.abs{x:V}{u:Value}(r:yB x u):zjL u=some x:=by cases x with
 | non=>cases r;rfl | bl _=>cases r;rfl | int _=>obtain ⟨t,rfl⟩:=r;rfl | str _=>obtain ⟨t,rfl⟩:=r;rfl | byt _=>obtain ⟨t,rfl⟩:=r;rfl | flt _=>obtain ⟨t,rfl⟩:=r;rfl | ref _=>cases r;rfl | ty _=>cases r;rfl
theorem yB.inj{x y:V}{u:Value}(r:yB x u)(q:yB y u):x=y:=Option.some.inj (r.abs.symm.trans q.abs)
theorem xb.inj:∀ {xs ys:List V}{us:List Value},xb xs us->xb ys us->xs=ys
 | _,_,_,.nil,.nil=>rfl | _,_,_,.cons r t,.cons r' t'=>by rw [r.inj r',xb.inj t t']
section
variable {X:Cx}{pins:List (Addr×Obj)}{O:St}{H:Hp}{s:Shared}{a:Addr}{xs ys:List V}
theorem Inv.list(I:Inv X pins O H s)(h:SqL X.K H a xs):∃ its:List Value,xb xs its/\PlainL s.heap a its.toArray/\xs.length<=sizeLine:=by
 rcases h with h | ⟨o,its,n,hk,hc,hd,hs,hz,r⟩
 ·obtain ⟨z,its,n,r,e⟩:=h.ok I.hok;exact ⟨its,r,⟨_,n,e,rfl,rfl,rfl⟩,z⟩
 ·refine ⟨its.toList,r,⟨o,n,I.kIn a o hk,hc,hd,by simpa using hs⟩,?_⟩;have e:=r.length;simp only [Array.length_toList] at e;omega
theorem Inv.tuple(I:Inv X pins O H s)(h:SqT X.K H a xs):∃ its:List Value,xb xs its/\IsTup s.heap a its.toArray/\xs.length<=sizeLine:=by
 rcases h with h | ⟨o,its,n,hk,hc,hs,hz,r⟩
 ·obtain ⟨z,its,r,p⟩:=h.ok I.hok;exact ⟨its,r,p.tup,z⟩
 ·refine ⟨its.toList,r,⟨o,I.kIn a o hk,hc,n,by simpa using hs⟩,?_⟩;have e:=r.length;simp only [Array.length_toList] at e;omega
theorem Inv.list_inj(I:Inv X pins O H s)(h:SqL X.K H a xs)(h':SqL X.K H a ys):xs=ys:=by
 obtain ⟨its,r,⟨o,n,e,_,_,d⟩,_⟩:=I.list h;obtain ⟨its',r',⟨o',n',e',_,_,d'⟩,_⟩:=I.list h';rw [e] at e';cases e';rw [d] at d';injection d' with d1 _;have:its=its':=by simpa using congrArg Array.toList d1
 subst this;exact r.inj r'
theorem Inv.tuple_inj(I:Inv X pins O H s)(h:SqT X.K H a xs)(h':SqT X.K H a ys):xs=ys:=by
 obtain ⟨its,r,⟨o,e,_,n,d⟩,_⟩:=I.tuple h;obtain ⟨its',r',⟨o',e',_,n',d'⟩,_⟩:=I.tuple h';rw [e] at e';cases e';rw [d] at d';injection d' with d1 _;have:its=its':=by simpa using congrArg Array.toList d1
 subst this;exact r.inj r'
end
abbrev Cx.wish(X:Cx)(E:Value->Shared->Prop):Cx:={X with xe:=E}
abbrev Cx.nox(X:Cx):Cx:=X.wish fun _ _=>False
theorem Cx.Ok.wish{X:Cx}(ok:X.Ok)(E:Value->Shared->Prop):(X.wish E).Ok:= ⟨ok.mod,ok.kind,ok.glob,ok.blt,ok.above,ok.inj,ok.has,ok.cab,ok.hd,ok.frames,ok.stk,ok.exf,ok.bs,ok.bsz,ok.noex,ok.exfs,ok.funs,ok.frf⟩
theorem Cx.Ok.unwish{X:Cx}{E:Value->Shared->Prop}(ok:(X.wish E).Ok):X.Ok:= ⟨ok.mod,ok.kind,ok.glob,ok.blt,ok.above,ok.inj,ok.has,ok.cab,ok.hd,ok.frames,ok.stk,ok.exf,ok.bs,ok.bsz,ok.noex,ok.exfs,ok.funs,ok.frf⟩
section
variable {X:Cx}{pins:List (Addr×Obj)}{O:St}{H:Hp}{s:Shared}{E:Value->Shared->Prop}
theorem Inv.wish(I:Inv X pins O H s)(E:Value->Shared->Prop):Inv (X.wish E) pins O H s:=⟨I.ok.wish E,I.os,I.bare,I.base,I.loc,I.cell,I.free,I.freeC,I.pin,I.hok,I.len⟩
theorem Inv.unwish(I:Inv (X.wish E) pins O H s):Inv X pins O H s:=⟨I.ok.unwish,I.os,I.bare,I.base,I.loc,I.cell,I.free,I.freeC,I.pin,I.hok,I.len⟩
theorem SP.unwish{D:zaZ}{f:Flow}{s':Shared}(h:SP (X.wish E) pins D f s'):SP X pins D f s':=by cases f with
 | next=>obtain ⟨O',H',I,q⟩:=h;exact ⟨O',H',I.unwish,q⟩ | brk=>obtain ⟨O',H',I,q⟩:=h;exact ⟨O',H',I.unwish,q⟩ | cont=>obtain ⟨O',H',I,q⟩:=h;exact ⟨O',H',I.unwish,q⟩ | ret u=>obtain ⟨v,O',H',I,r,q⟩:=h;exact ⟨v,O',H',I.unwish,r,q⟩
theorem PSs.nox{st:List Stmt}{t:TS}(h:PSs X.nox st t):PSs X st t:=fun pins s O H D I hw=> wpAny_mono (h pins s O H D (I.wish _) hw) (fun _ _ q=>q.unwish) fun _ _ z=>False.elim z
end
section
variable {X:Cx}{st:Stmt}{jA:List Stmt}{t u:TS}{e:Expr}{te:TE}{pos:Pos}
def zhA:TS:=fun D O H=>D.nx O H
def ziB(t u:TS):TS:=fun D O H=>t {D with nx:=u D} O H
theorem zcP:PSs X [] zhA:=fun _ _ O H _ I h=>wpAny_execs_nil ⟨O,H,I,h⟩
theorem z2F(h1:PS X st t)(h2:PSs X jA u):PSs X (st::jA) (ziB t u):=by
 intro pins s O H D I h;refine wpAny_execs_cons (thn (h1 pins s O H {D with nx:=u D} I h) fun f s1 q=>?_);cases f with
 | next=>
  obtain ⟨O',H',I',q⟩:=q;exact h2 pins s1 O' H' D I' q | ret v=>exact q | brk=>exact q | cont=>exact q
theorem zcN(h1:PS X st t):PSs X [st] t:=by
 intro pins s O H D I h;refine wpAny_execs_cons (thn (h1 pins s O H D I h) fun f s1 q=>?_);cases f with
 | next=>exact wpAny_execs_nil q | ret v=>exact q | brk=>exact q | cont=>exact q
theorem Inv.quiet{pins:List (Addr×Obj)}{O:St}{H:Hp}{s:Shared}(I:Inv X pins O H s):interactive X.env=false:=by simp [interactive,I.ok.kind]
def zhV(te:TE):TS:=fun D O H=>te O H fun _ H1=>D.nx O H1
theorem zdD(he:PE X e te)(hs:swapsWith e none pos.line X.env=pure false:=by rfl):PS X (.Expr e pos) (zhV te):=by
 intro pins s O H D I h;exact wpAny_Expr_any (thn (he pins s O H _ I h) fun v s1 ⟨x,H1,I1,r1,q1⟩=>⟨O,H1,I1,q1⟩) I.quiet hs
def zjj(te:TE):TS:=fun D O H=>te O H D.rt
theorem zeN(he:PE X e te):PS X (.Return (some e) pos) (zjj te):=by
 intro pins s O H D I h;exact wpAny_Return_some (thn (he pins s O H _ I h) fun v s1 ⟨x,H1,I1,r1,q1⟩=>⟨x,O,H1,I1,r1,q1⟩)
def zjG(c:TT)(t u:TS):TS:=fun D O H=>c O H fun b H1=>if b=true then t D O H1 else u D O H1
theorem zif{c:Expr}{a b:List Stmt}{tc:TT}(hc:PT X c tc)(ha:PSs X a t)(hb:PSs X b u):PS X (.If c a b pos) (zjG tc t u):=by
 intro pins s O H D I h;refine wpAny_If (thn (hc pins s O H _ I h) fun d s1 ⟨H1,I1,q1⟩=>?_);cases d with
 | true=>exact ha pins s1 O H1 D I1 q1 | false=>exact hb pins s1 O H1 D I1 q1
def zeF:TS:=fun _ _ _=>False
theorem zat:PS X st zeF:=fun _ _ _ _ _ _ h=>h.elim
end
abbrev TG:=V->St->Hp->(St->Hp->Prop)->Prop
abbrev TGs:=List V->St->Hp->(St->Hp->Prop)->Prop
def PG(X:Cx)(target:Expr)(t:TG):Prop:= ∀ (pins:List (Addr×Obj))(s:Shared)(O:St)(H:Hp)(v:V)(u:Value)(Q:St->Hp->Prop),Inv X pins O H s->yB v u->t v O H Q-> wpAny (model X.prog X.w) X.A (assign target X.env u) (fun _ s'=>∃ O' H',Inv X pins O' H' s'/\Q O' H') X.xe s
def PGs(X:Cx)(ts:List Expr)(t:TGs):Prop:= ∀ (pins:List (Addr×Obj))(s:Shared)(O:St)(H:Hp)(vs:List V)(us:List Value)(Q:St->Hp->Prop),Inv X pins O H s->xb vs us->t vs O H Q-> wpAny (model X.prog X.w) X.A (assignInOrder ((assignEach ts X.env).map (·.2)) us) (fun _ s'=>∃ O' H',Inv X pins O' H' s'/\Q O' H') X.xe s
abbrev zi3:=V->V->V->Hp->(Hp->Prop)->Prop
def ziR(X:Cx)(t:zi3):Prop:= ∀ (pins:List (Addr×Obj))(s:Shared)(O:St)(H:Hp)(o i v:V)(ov iv u:Value)(Q:Hp->Prop),Inv X pins O H s->yB o ov->yB i iv->yB v u->t o i v H Q-> wpAny (model X.prog X.w) X.A (setItem ov iv u) (fun _ s'=>∃ H',Inv X pins O H' s'/\Q H') X.xe s
abbrev TIp:=V->V->Hp->VK->Prop
def PIp(X:Cx)(op:Operator)(t:TIp):Prop:= ∀ (pins:List (Addr×Obj))(s:Shared)(O:St)(H:Hp)(x y:V)(v u:Value)(Q:VK),Inv X pins O H s->yB x v->yB y u->t x y H Q-> wpAny (model X.prog X.w) X.A (inplaceOp op v u) (EP X pins O Q) X.xe s
section
variable {X:Cx}{pos:Pos}
def z04(i:Nat):TG:=fun v O H Q=>Q (O.set i (some v)) H
theorem yo{i:Nat}{x:Str}(hN:X.N.Nodup)(hi:X.N[i]? = some x)(hx:Loc X.env.scope x)(hf:X.fn x=true\/X.env.scope.names.lookup x=some .local:=by first | exact .inl rfl | exact .inr rfl | assumption):PG X (.Name x pos) (z04 i):=by
 intro pins s O H v u Q I r h;exact wpAny_assign_Name (z3s I hN hi hx r (fun s' I'=>⟨_,H,I',h⟩) hf)
def ziE:TGs:=fun vs O H Q=>vs=[]/\Q O H
def zdu(t:TG)(u:TGs):TGs:=fun vs O H Q=>∃ v r,vs=v::r/\t v O H fun O' H'=>u r O' H' Q
theorem z9D:PGs X [] ziE:=by
 intro pins s O H vs us Q I r h;obtain ⟨e,h⟩:=h;subst e;cases r;exact assignInOrder_nil ⟨O,H,I,h⟩
theorem z0w{e:Expr}{es:List Expr}{t:TG}{u:TGs}(h1:PG X e t)(h2:PGs X es u) (hs:(assignEach (e::es) X.env).map (·.2)=assign e X.env::(assignEach es X.env).map (·.2):=by rfl):PGs X (e::es) (zdu t u):=by
 intro pins s O H vs us Q I r h;obtain ⟨v,vr,e1,h⟩:=h;subst e1;cases r with | cons r rr=>
  rw [hs];refine assignInOrder_cons (thn (h1 pins s O H _ _ _ I r h) fun _ s1 ⟨O1,H1,I1,q1⟩=>?_);exact h2 pins s1 O1 H1 _ _ Q I1 rr q1
def ziS(K:W.Frag)(n:Nat)(t:TGs):TG:=fun v O H Q=>∃ a xs,v=.ref a/\SqT K H a xs/\xs.length=n/\t xs O H Q
theorem zcj{es:List Expr}{k:Nat}{t:TGs}{n:Nat}(hc:X.calm=true)(h:PGs X es t) (hn:(assignEach es X.env).length=n:=by rfl)(hst:(assignEach es X.env).findIdx? (·.1)=none:=by rfl):PG X (.Tuple es k pos) (ziS X.K n t):=by
 intro pins s O H v u Q I r hw;obtain ⟨a,xs,e1,hq,hl,hw⟩:=hw;subst e1;cases r;obtain ⟨its,rv,ht,hz⟩:=I.tuple hq;refine assign_Tuple_tuple (I.ok.hd hc) ht (by simp [hn,<- hl,rv.length]) hst fun h' hx=>?_;have I1:Inv X pins O H {s with heap:=h'}:=I.kept (t':=s.toks) fun b o e=>hx b o (Nat.ne_of_lt (Heap.lt_size e)) e;exact h pins _ O H xs _ Q I1 (by simpa using rv) hw
def zjy(to ti:TE)(t:zi3):TG:=fun v O H Q=>to O H fun o H1=>ti O H1 fun i H2=>t o i v H2 fun H3=>Q O H3
theorem zen{o i:Expr}{to ti:TE}{t:zi3}(ho:PE X o to)(hi:PE X i ti)(hs:ziR X t) (ha:∀ v,assign (.Subscript o i pos) X.env v=(do
   let ov <- holding [v] (eval o X.env) let iv <- holding [v,ov] (eval i X.env)
   standAt pos
   holding [v,ov,iv] (setItem ov iv v)
   release [v,ov,iv] []):=by intro _;rfl):PG X (.Subscript o i pos) (zjy to ti t):=by
 intro pins s O H v u Q I r h;rw [ha];refine wpAny_bind (wpAny_holding (thn (ho pins s O H _ I h) fun ov s1 ⟨x,H1,I1,r1,q1⟩=>?_));refine wpAny_bind (wpAny_holding (thn (hi pins s1 O H1 _ I1 q1) fun iv s2 ⟨y,H2,I2,r2,q2⟩=>?_));refine wpAny_bind (wpAny_standAt (wpAny_bind (wpAny_holding (thn (hs pins s2 O H2 x y v ov iv u _ I2 r1 r2 r q2) fun _ s3 ⟨H3,I3,q3⟩=>?_))));exact wpAny_release ⟨O,H3,I3,q3⟩
def zhk(te:TE)(g:TG):TS:=fun D O H=>te O H fun x H1=>g x O H1 D.nx
theorem zc2{tg e:Expr}{te:TE}{g:TG}(he:PE X e te)(hg:PG X tg g)(hs:swapsWithSole [tg] e pos.line X.env=pure false:=by rfl)(hw:swappedStores [tg] e X.env=pure none:=by rfl) (h1:(assignEach [tg] X.env).map (·.2)=[assign tg X.env]:=by rfl):PS X (.Assign [tg] e pos) (zhk te g):=by
 intro pins s O H D I h;refine wpAny_Assign_stores (thn (he pins s O H _ I h) fun v s1 ⟨x,H1,I1,r1,q1⟩=>?_) hs hw;rw [h1];exact thn (hg pins s1 O H1 x v _ I1 r1 q1) fun _ s2 q=>q
theorem zgh{i:Nat}{x:Str}{e:Expr}{te:TE}{pos':Pos}(hN:X.N.Nodup)(hi:X.N[i]? = some x)(hx:Loc X.env.scope x)(he:PE X e te)(hs:swapsWith e (some (.Name x pos')) pos.line X.env=pure false:=by rfl)(hf:X.fn x=true\/X.env.scope.names.lookup x=some .local:=by first | exact .inl rfl | exact .inr rfl | assumption): PS X (.Assign [.Name x pos'] e pos) (zhk te (z04 i)):=by
 intro pins s O H D I h;refine wpAny_Assign_Name (thn (he pins s O H _ I h) fun v s1 ⟨y,H1,I1,r1,q1⟩=>?_) hs;exact z3s I1 hN hi hx r1 (fun s2 I2=>⟨_,H1,I2,q1⟩) hf
def zjK(i:Nat)(te:TE)(ti:TIp):TS:=fun D O H=>∃ x,O[i]? = some (some x)/\te O H fun y H1=>ti x y H1 fun z H2=>D.nx (O.set i (some z)) H2
theorem zgv{i:Nat}{x:Str}{e:Expr}{te:TE}{op:Operator}{ti:TIp}{pos':Pos}(hN:X.N.Nodup)(hi:X.N[i]? = some x)(hx:Loc X.env.scope x)(he:PE X e te)(ho:PIp X op ti)(hf:X.fn x=true\/X.env.scope.names.lookup x=some .local:=by first | exact .inl rfl | exact .inr rfl | assumption): PS X (.AugAssign (.Name x pos') op e pos) (zjK i te ti):=by
 intro pins s O H D I h;obtain ⟨v,e1,h⟩:=h;obtain ⟨m,hn,hl⟩:=I.loc;have vis:Vis X.env.scope x:=by rcases hx with k | k;exact .inl k;exact .inr (.inl k)
 obtain ⟨u,r,l⟩:=hl i x v hi e1 vis;refine wpAny_AugAssign_Name ?_;have go:wpAny (model X.prog X.w) X.A (eval e X.env) (fun w s₂=>wpAny (model X.prog X.w) X.A (inplaceOp op u w) (fun r s₃=>wpAny (model X.prog X.w) X.A (storeName X.env x r) (fun _=>SP X pins D .next) X.xe s₃) X.xe s₂) X.xe s:=by
  refine thn (he pins s O H _ I h) fun w s1 ⟨y,H1,I1,r1,q1⟩=>?_;refine thn (ho pins s1 O H1 v y u w _ I1 r r1 q1) fun z s2 ⟨zv,H2,I2,r2,q2⟩=>?_;exact z3s I2 hN hi hx r2 (fun s3 I3=>⟨_,H2,I3,q2⟩) hf
 rcases l with ⟨hk,hm⟩ | ⟨hk,c,hc,hcell⟩;·exact wpAny_loadName_local I.ok.kind hk hn hm go
 ·rcases hk with hk | hk;·exact wpAny_loadName_cell I.ok.kind hk hc hcell go
  ·rcases hx with k | k
   ·have:X.env.scope.names.lookup x=some .free:=hk;rw [k] at this;cases this
   ·have:X.env.scope.names.lookup x=some .free:=hk;rw [k] at this;cases this
def ipI(f:Int->Int->Int):TIp:=fun x y H Q=>∃ i j,x=.int i/\y=.int j/\Q (.int (f i j)) H
theorem zge:PIp X .Add (ipI fun i j=>i+j):=by
 intro pins s O H x y v u Q I r1 r2 h;obtain ⟨i,j,e1,e2,q⟩:=h;subst e1;subst e2;obtain ⟨t,rfl⟩:=r1;obtain ⟨t',rfl⟩:=r2;exact iadd_int ⟨.int _,H,I.tok _,⟨_,rfl⟩,q⟩
end
section
variable {X:Cx}{pos:Pos}
def zeS(c:TT)(tb:TS):TS:=fun D O H=>∃ W:Nat->St->Hp->Prop,(∃ m,W m O H)/\∀ m O H,W m O H-> c O H fun b H1=>if b=true then ∃ N:St->Hp->Prop,(∀ O' H',N O' H'->∃ m',m'<m/\W m' O' H')/\tb {D with nx:=N,ct:=N,bk:=D.nx} O H1 else D.nx O H1
theorem zbs{c:Expr}{body:List Stmt}{tc:TT}{tb:TS}(hp:PassesOwn (model X.prog X.w) X.A X.env X.xe)(hc:PT X c tc)(hb:PSs X body tb):PS X (.While c body [] pos) (zeS tc tb):=by
 intro pins s O H D I h;obtain ⟨W,⟨m0,w0⟩,turn⟩:=h;refine wpAny_While (codeAny_whileLoop (fun n s'=>∃ O' H',Inv X pins O' H' s'/\W n O' H') ?_ m0 ⟨O,H,I,w0⟩);rintro n s1 ⟨O1,H1,I1,w1⟩;refine wpAny_passesOwn hp (thn (hc pins s1 O1 H1 _ I1 (turn n O1 H1 w1)) fun b s2 ⟨H2,I2,q2⟩=>?_);cases b with
 | true=>
  obtain ⟨N,hN,q2⟩:=q2;rw [if_pos rfl];refine wpAny_passesOwn hp (thn (hb pins s2 O1 H2 _ I2 q2) fun f s3 q3=>?_);cases f with
  | next=>
   obtain ⟨O3,H3,I3,n3⟩:=q3;obtain ⟨m',hm,w3⟩:=hN O3 H3 n3;exact ⟨m',hm,O3,H3,I3,w3⟩ | cont=>
   obtain ⟨O3,H3,I3,n3⟩:=q3;obtain ⟨m',hm,w3⟩:=hN O3 H3 n3;exact ⟨m',hm,O3,H3,I3,w3⟩ | brk=>exact q3 | ret v=>exact q3
 | false=>
  rw [if_neg Bool.false_ne_true];exact wpAny_execs_nil ⟨O1,H2,I2,q2⟩
end
structure It where
 go:Nat->Hp->Prop
 yld:Nat->Hp->V->Hp->Prop
 stop:Nat->Hp->Prop
def z1W(X:Cx)(pins:List (Addr×Obj))(H:Hp)(b:Addr):Prop:= H b=none/\b≠X.env.locals/\b∉X.fs/\(b∈X.ex\/X.s₀.heap.objs.size<=b)/\(∀ x c,X.env.cells.lookup x=some c->c≠b)/\∀ p∈X.pn++pins,p.1≠b
theorem Inv.fpOk{X:Cx}{pins:List (Addr×Obj)}{O:St}{H H':Hp}{s:Shared}{b:Addr}(I:Inv X pins O H s)(hb:s.heap.objs.size<=b)(hn:H' b=none):z1W X pins H' b:=by
 refine ⟨hn,Nat.ne_of_gt (Nat.lt_of_lt_of_le I.lt hb),I.nofs hb,.inr (Nat.le_trans I.sz hb),fun x c e z=>?_,fun p hp z=>?_⟩
 ·obtain ⟨v,q⟩:=I.cell x c e;exact absurd (Nat.lt_of_lt_of_le q.lt (by rw [z];exact hb)) (Nat.lt_irrefl _)
 ·exact absurd (Nat.lt_of_lt_of_le (Heap.lt_size (I.pin p hp).1) (by rw [z];exact hb)) (Nat.lt_irrefl _)
structure zaP(P:Program)(w:World)(K:W.Frag)(tg:Expr)(J:It)(fp:List Addr)(it:Addr)(tn:Nat->Heap->Prop):Prop where
 mem:it∈fp
 obj:∀ i h,tn i h->∀ b∈fp,∃ o,h.get? b=some o/\∀ v,o.data≠.cell v
 keep:∀ i h h',tn i h->(∀ b∈fp,∀ o,h.get? b=some o->h'.get? b=some o)->tn i h'
 item:∀ (X:Cx),X.prog=P->X.w=w->X.K=K->X.calm=true->∀ (i:Nat)(pins:List (Addr×Obj))(s:Shared)(O:St)(H:Hp)(E:Value->Shared->Prop),Inv X pins O H s->(∀ b∈fp,z1W X pins H b)->tn i s.heap->J.go i H-> wpAny (model P w) X.A (pyNext (.ref it)) (fun r s1=>∃ u,r=some u/\ wpAny (model P w) X.A (letOwnedTupleGo tg (.ref it) u) (fun _ s2=>∃ x H',Inv X pins O H' s2/\yB x u/\J.yld i H x H'/\tn (i+1) s2.heap/\∀ b∈fp,H' b=none) E s1) E s
 done:∀ (X:Cx),X.prog=P->X.w=w->X.K=K->X.calm=true->∀ (i:Nat)(pins:List (Addr×Obj))(s:Shared)(O:St)(H:Hp)(E:Value->Shared->Prop),Inv X pins O H s->(∀ b∈fp,z1W X pins H b)->tn i s.heap->J.stop i H-> wpAny (model P w) X.A (pyNext (.ref it)) (fun r s1=>r=none/\Inv X pins O H s1) E s
 self:∀ (A:Around)(i:Nat)(s:Shared)(Q:Value->Shared->Prop)(E:Value->Shared->Prop),tn i s.heap->Q (.ref it) s->wpAny (model P w) A (pyIter (.ref it)) Q E s
abbrev TI:=St->Hp->(It->Hp->Prop)->Prop
def PIE(X:Cx)(pins:List (Addr×Obj))(O:St)(tg:Expr)(R:It->Hp->Prop)(itv:Value)(s2:Shared):Prop:= ∃ (it:Addr)(fp:List Addr)(tn:Nat->Heap->Prop)(J:It)(H':Hp),itv=.ref it/\Inv X pins O H' s2/\zaP X.prog X.w X.K tg J fp it tn/\tn 0 s2.heap/\(∀ b∈fp,z1W X pins H' b)/\R J H'
def PI(X:Cx)(tg iter:Expr)(wi:TI):Prop:= ∀ (pins:List (Addr×Obj))(s:Shared)(O:St)(H:Hp)(R:It->Hp->Prop),Inv X pins O H s->wi O H R-> wpAny (model X.prog X.w) X.A (eval iter X.env) (fun v s1=>wpAny (model X.prog X.w) X.A (pyIter v) (PIE X pins O tg R) X.xe s1) X.xe s
theorem zas{M:Model}{A:Around}{E:Value->Shared->Prop}{s:Shared}{tg:Expr}{it:Addr}{u:Value}{o:Obj}{n:String}{vs:Array Value}{Q:Unit->Shared->Prop}(ho:s.heap.get? it=some o)(hc:o.cls=.type n)(hd:o.data=.fields vs) (hn:["enumerate","zip","dict_itemiterator","dict_reverseitemiterator","odict_iterator","itertools.zip_longest","itertools.pairwise"].contains n=false)(hQ:Q () s):wpAny M A (letOwnedTupleGo tg (.ref it) u) Q E s:=by
  unfold letOwnedTupleGo;cases tg<;>first
    | exact wpAny_pure hQ | (cases u<;>first
        | exact wpAny_pure hQ
        | (refine wpAny_bind (wpAny_load ho ?_);rw [hc,hd];show wpAny M A (if (["enumerate","zip","dict_itemiterator","dict_reverseitemiterator","odict_iterator","itertools.zip_longest","itertools.pairwise"].contains n&&vs[0]? == some (rawInt _))=true then _ else _) Q E s;rw [if_neg (by intro h;rw [hn,Bool.false_and] at h;cases h)];exact wpAny_pure hQ))
def Itl(K:W.Frag)(a:Addr):It:= ⟨fun i H=>∃ xs x,SqL K H a xs/\xs[i]? = some x,fun i H x H'=>H'=H/\∀ xs,SqL K H a xs->xs[i]? = some x,fun i H=>∃ xs,SqL K H a xs/\xs.length<=i⟩
def Itt(K:W.Frag)(a:Addr):It:= ⟨fun i H=>∃ xs x,SqT K H a xs/\xs[i]? = some x,fun i H x H'=>H'=H/\∀ xs,SqT K H a xs->xs[i]? = some x,fun i H=>∃ xs,SqT K H a xs/\xs.length<=i⟩
def Itr(lo:Int)(n:Nat):It:=⟨fun i _=>i<n,fun i H x H'=>H'=H/\x=.int (lo+i),fun i _=>n<=i⟩
theorem z9i{P:Program}{w:World}{K:W.Frag}{tg:Expr}(a it:Addr):zaP P w K tg (Itl K a) [it] it (fun i h=>h.IsListIter it a i) where
 mem:=by simp
 obj:=fun i h st b hb=>by
  have e:b=it:=by simpa using hb
  subst e;obtain ⟨o,e,c,d⟩:=st;exact ⟨o,e,fun v z=>by rw [d] at z;cases z⟩
 keep:=fun i h h' st k=>st.at fun o e=>k it (by simp) o e;item:=by
  intro X hP hw hK hc i pins s O H E I hf st hg;subst hP hw hK;obtain ⟨xs,x,hq,hx⟩:=hg;obtain ⟨its,rv,p,hz⟩:=I.list hq;obtain ⟨u,hu,ru⟩:=rv.get hx;obtain ⟨f0,f1,f2,f3,f4,f5⟩:=hf it (by simp);refine wpAny_pyNext_list_item st p.isList (x:=u) (by simpa using hu) fun h' st' sb=>?_;have I1:Inv X pins O H {s with heap:=h'}:=I.turned (t':=s.toks) (fun b o hb e=>(sb.2 b hb).trans e) f0 f1 f3 f4 f5;obtain ⟨o,e,c,d⟩:=id st';exact ⟨u,rfl,zas (s:={s with heap:=h'}) e c d (by decide) ⟨x,H,I1,ru,⟨rfl,fun ys hy=>by rw [I.list_inj hy hq];exact hx⟩,st',fun b hb=>(hf b hb).1⟩⟩
 done:=by
  intro X hP hw hK hc i pins s O H E I hf st hg;subst hP hw hK;obtain ⟨xs,hq,hx⟩:=hg;obtain ⟨its,rv,p,hz⟩:=I.list hq;obtain ⟨f0,f1,f2,f3,f4,f5⟩:=hf it (by simp);have hl:=rv.length;exact wpAny_pyNext_list_end (I.ok.hd hc) st p.isList (by simp;omega) fun h' eb=>⟨rfl,I.turned (t':=s.toks) (fun b o hb e=>eb b o hb e) f0 f1 f3 f4 f5⟩
 self:=fun _ _ _ _ _ st h=>wpAny_pyIter_listiter st h
theorem z7V {P:Program} {w:World} {K:W.Frag} {tg:Expr} (a it:Addr):zaP P w K tg (Itt K a) [it] it (fun i h=>h.IsTupleIter it a i) where
 mem:=by simp
 obj:=fun i h st b hb=>by
  have e:b=it:=by simpa using hb
  subst e;obtain ⟨o,e,c,d⟩:=st;exact ⟨o,e,fun v z=>by rw [d] at z;cases z⟩
 keep:=fun i h h' st k=>st.at fun o e=>k it (by simp) o e;item:=by
  intro X hP hw hK hc i pins s O H E I hf st hg;subst hP hw hK;obtain ⟨xs,x,hq,hx⟩:=hg;obtain ⟨its,rv,p,hz⟩:=I.tuple hq;obtain ⟨u,hu,ru⟩:=rv.get hx;obtain ⟨f0,f1,f2,f3,f4,f5⟩:=hf it (by simp);refine wpAny_pyNext_tuple_item st (show s.heap.IsTuple a its.toArray from p) (x:=u) (by simpa using hu) fun h' st' sb=>?_;have I1:Inv X pins O H {s with heap:=h'}:=I.turned (t':=s.toks) (fun b o hb e=>(sb.2 b hb).trans e) f0 f1 f3 f4 f5;obtain ⟨o,e,c,d⟩:=id st';exact ⟨u,rfl,zas (s:={s with heap:=h'}) e c d (by decide) ⟨x,H,I1,ru,⟨rfl,fun ys hy=>by rw [I.tuple_inj hy hq];exact hx⟩,st',fun b hb=>(hf b hb).1⟩⟩
 done:=by
  intro X hP hw hK hc i pins s O H E I hf st hg;subst hP hw hK;obtain ⟨xs,hq,hx⟩:=hg;obtain ⟨its,rv,p,hz⟩:=I.tuple hq;obtain ⟨f0,f1,f2,f3,f4,f5⟩:=hf it (by simp);have hl:=rv.length;exact wpAny_pyNext_tuple_end (I.ok.hd hc) st (show s.heap.IsTuple a its.toArray from p) (by simp;omega) fun h' eb=>⟨rfl,I.turned (t':=s.toks) (fun b o hb e=>eb b o hb e) f0 f1 f3 f4 f5⟩
 self:=fun _ _ _ _ _ st h=>wpAny_pyIter_tupleiter st h
theorem z7B {P:Program} {w:World} {K:W.Frag} {tg:Expr} (it:Addr) (lo:Int) (n:Nat):zaP P w K tg (Itr lo n) [it] it (fun i h=>IsRangeIter h it (lo+(i:Nat)*1) ((n:Int)-(i:Nat)) 1) where
 mem:=by simp
 obj:=fun i h st b hb=>by
  have e:b=it:=by simpa using hb
  subst e;exact ⟨_,st,fun v z=>by
   have z':Data.fields _=Data.cell v:=z;cases z'⟩
 keep:=fun i h h' st k=>k it (by simp) _ st;item:=by
  intro X hP hw hK hc i pins s O H E I hf st hg;subst hP hw hK;obtain ⟨f0,f1,f2,f3,f4,f5⟩:=hf it (by simp);have W:=Walks.range (prog:=X.prog) (w:=X.w) (I.ok.hd hc) it lo 1 n;refine W.item i s _ _ hg st fun v h' tk hv st' kk=>?_;obtain ⟨t,rfl⟩:=hv;have I1:Inv X pins O H {s with heap:=h',toks:=tk}:=I.turned (fun b o hb e=>kk b o (by simpa using hb) e) f0 f1 f3 f4 f5;refine ⟨_,rfl,zas (s:={s with heap:=h',toks:=tk}) (n:="range_iterator") st' rfl rfl (by decide) ⟨.int (lo+i),H,I1,⟨t,?_⟩,⟨rfl,rfl⟩,st',fun b hb=>(hf b hb).1⟩⟩;rw [Int.mul_one]
 done:=by
  intro X hP hw hK hc i pins s O H E I hf st hg;subst hP hw hK;obtain ⟨f0,f1,f2,f3,f4,f5⟩:=hf it (by simp);exact wpAny_pyNext_range_end (I.ok.hd hc) st (by have:n<=i:=hg;omega) fun h' eb=>⟨rfl,I.turned (t':=s.toks) (fun b o hb e=>eb b o hb e) f0 f1 f3 f4 f5⟩
 self:=fun _ _ _ _ _ st h=>wpAny_pyIter_rangeiter st h
section
variable {X:Cx}{tg:Expr}
theorem z6t{pins:List (Addr×Obj)}{O:St}{H:Hp}{s:Shared}{R:It->Hp->Prop}{E:Value->Shared->Prop}{lo hi:Int}{t u v:Tok}{tk:Nat}(I:Inv X pins O H s)(h1:-(2 ^ 62)<=lo)(h2:lo<2 ^ 62)(h3:-(2 ^ 62)<=hi)(h4:hi<2 ^ 62) (q:R (Itr lo (hi-lo).toNat) H):wpAny (model X.prog X.w) X.A (pyIter (.ref s.heap.objs.size)) (PIE X pins O tg R) E {s with heap:=s.heap.push {cls:=.type "range",data:=.fields #[.int lo t,.int hi u,.int 1 v]},toks:=tk}:=by
 refine wpAny_pyIter_range (IsRange.new ..) (small_one h1 h2 h3 h4) ?_;have I1:Inv X pins O H {s with heap:=s.heap.push {cls:=.type "range",data:=.fields #[.int lo t,.int hi u,.int 1 v]},toks:=tk}:=I.kept fun b o e=>Heap.get?_push_of_some _ e;refine ⟨(s.heap.push {cls:=.type "range",data:=.fields #[.int lo t,.int hi u,.int 1 v]}).objs.size,[(s.heap.push {cls:=.type "range",data:=.fields #[.int lo t,.int hi u,.int 1 v]}).objs.size],_,_,H,rfl, I1.kept (t':=tk) fun b o e=>Heap.get?_push_of_some _ e,z7B _ lo (hi-lo).toNat,?_,fun b hb=>?_,q⟩
 ·have e1:lo+((0:Nat):Int)*1=lo:=by simp
  have e2:(((hi-lo).toNat:Nat):Int)-((0:Nat):Int)=Builtin.Range.rangeSize lo hi 1:=by rw [rangeSize_one];split<;>omega
  show IsRangeIter _ _ (lo+((0:Nat):Int)*1) ((((hi-lo).toNat:Nat):Int)-((0:Nat):Int)) 1;rw [e1,e2];exact Heap.get?_push_size _ rfl
 ·have e:b=(s.heap.push {cls:=.type "range",data:=.fields #[.int lo t,.int hi u,.int 1 v]}).objs.size:=by simpa using hb
  subst e;exact I1.fpOk (Nat.le_refl _) (I1.hok.fresh (Nat.le_refl _))
def zh7(ta:TA):TI:=fun O H R=>ta O H fun vs H1=>∃ j:Int,vs=[.int j]/\-(2 ^ 62)<=j/\j<2 ^ 62/\R (Itr 0 j.toNat) H1
def zhK(ta:TA):TI:=fun O H R=>ta O H fun vs H1=>∃ i j:Int,vs=[.int i,.int j]/\(-(2 ^ 62)<=i/\i<2 ^ 62/\-(2 ^ 62)<=j/\j<2 ^ 62)/\R (Itr i (j-i).toNat) H1
theorem za3{a:Expr}{ta:TA}{p pos:Pos}(hg:Gl X "range")(hm:X.mg "range"=none)(ha:PA X [a] ta)(hs:starEach [a] X.env=[(false,eval a X.env)]:=by rfl):PI X tg (.Call (.Name "range" p) [a] [] pos) (zh7 ta):=by
 intro pins s O H R I h;refine Call_ (jX I hg hm boot_range (PyProof.Rows.callWith_type1 (thn (ha pos pins s O H _ I h) fun us s1 ⟨vs,H1,I1,r1,q1⟩=>?_) hs rfl));obtain ⟨j,e,q1,q2,q⟩:=q1;subst e;cases r1 with | cons r rr=>
  cases rr;obtain ⟨t,rfl⟩:=r;exact call_range_1 (z6t I1 (by omega) (by omega) q1 q2 (by simpa using q))
theorem z8K{a b:Expr}{ta:TA}{p pos:Pos}(hg:Gl X "range")(hm:X.mg "range"=none)(ha:PA X [a,b] ta)(hs:starEach [a,b] X.env=[(false,eval a X.env),(false,eval b X.env)]:=by rfl)(hs2:starEach [b] X.env=[(false,eval b X.env)]:=by rfl): PI X tg (.Call (.Name "range" p) [a,b] [] pos) (zhK ta):=by
 intro pins s O H R I h;refine Call_ (jX I hg hm boot_range (PyProof.Rows.callWith_type1 (thn (ha pos pins s O H _ I h) fun us s1 ⟨vs,H1,I1,r1,q1⟩=>?_) (by rw [hs,hs2]) (by rw [hs2];rfl)));obtain ⟨i,j,e,⟨q1,q2,q3,q4⟩,q⟩:=q1;subst e;cases r1 with | cons r rr=> cases rr with | cons r' rr=>
   cases rr;obtain ⟨t,rfl⟩:=r;obtain ⟨t',rfl⟩:=r';exact call_range_2 (z6t I1 q1 q2 q3 q4 q)
def zjx(wi:TI)(g:TG)(tb:TS):TS:=fun D O H=>wi O H fun J H1=>∃ W:Nat->Nat->St->Hp->Prop,(∃ m,W 0 m O H1)/\∀ i m O H,W i m O H-> (J.stop i H/\D.nx O H)\/(J.go i H/\∃ N:St->Hp->Prop,(∀ O' H',N O' H'->∃ m',m'<m/\W (i+1) m' O' H')/\∀ x H',J.yld i H x H'->g x O H' fun O2 H2=>tb {D with nx:=N,ct:=N,bk:=D.nx} O2 H2)
def z2u(fp:List Addr)(h:Heap):List (Addr×Obj):=fp.filterMap fun b=>(h.get? b).map fun o=>(b,o)
theorem ul{fp:List Addr}{h:Heap}{b:Addr}{o:Obj}(hb:b∈fp)(e:h.get? b=some o):(b,o)∈z2u fp h:=List.mem_filterMap.mpr ⟨b,hb,by rw [e];rfl⟩
theorem z93{fp:List Addr}{h:Heap}{p:Addr×Obj}(hp:p∈z2u fp h):p.1∈fp/\h.get? p.1=some p.2:=by
 obtain ⟨b,hb,e⟩:=List.mem_filterMap.mp hp;cases q:h.get? b with
 | none=>rw [q] at e;cases e | some o=>
  rw [q] at e;have e':(b,o)=p:=Option.some.inj e;subst e';exact ⟨hb,q⟩
theorem Inv.pinned{pins:List (Addr×Obj)}{O:St}{H:Hp}{s:Shared}{fp:List Addr}(I:Inv X pins O H s)(hf:∀ b∈fp,z1W X pins H b)(ho:∀ b∈fp,∃ o,s.heap.get? b=some o/\∀ v,o.data≠.cell v):Inv X (pins++z2u fp s.heap) O H s:= I.pins_of fun p hp=>(List.mem_append.mp hp).elim (fun z=>I.pin p (List.mem_append_right _ z)) fun z=>by
  obtain ⟨hb,e⟩:=z93 z;obtain ⟨f0,f1,f2,_⟩:=hf p.1 hb;obtain ⟨o,e',d⟩:=ho p.1 hb;rw [e] at e';cases e';exact ⟨e,f0,f1,f2,d⟩
theorem Inv.unpinned{pins pl:List (Addr×Obj)}{O:St}{H:Hp}{s:Shared}(I:Inv X (pins++pl) O H s):Inv X pins O H s:=I.pins_of fun p hp=>I.pin p (List.mem_append_right _ (List.mem_append_left _ hp))
theorem zfr{iter:Expr}{body:List Stmt}{wi:TI}{g:TG}{tb:TS}{pos:Pos}(hp:PassesOwn (model X.prog X.w) X.A X.env X.xe)(hc:X.calm=true)(hi:PI X tg iter wi)(hg:PG X tg g)(hb:PSs X body tb) (hs:∀ x,foldedSetIterable iter X.env x=pure x:=by intro _;rfl):PS X (.For tg iter body [] pos) (zjx wi g tb):=by
 intro pins s O H D I h;refine wpAny_For (thn (hi pins s O H _ I h) fun v s1 h1=>thn h1 fun itv s2 h2=>?_) hs;obtain ⟨it,fp,tn,J,H2,e,I2,T,st2,f2,W,⟨m0,w0⟩,turn⟩:=h2;subst e;have stat:∀ {H':Hp},(∀ b∈fp,H' b=none)->∀ b∈fp,z1W X pins H' b:=fun hn b hb=>⟨hn b hb,(f2 b hb).2⟩;refine codeAny_forLoop_any (fun n s'=>∃ i O' H',Inv X pins O' H' s'/\tn i s'.heap/\(∀ b∈fp,H' b=none)/\W i n O' H') ?_ m0 ⟨0,O,H2,I2,st2,fun b hb=>(f2 b hb).1,w0⟩;rintro n s3 ⟨i,O3,H3,I3,st3,fr3,w3⟩;rcases turn i n O3 H3 w3 with ⟨stop,qn⟩ | ⟨go,N,hN,step⟩
 ·refine wpAny_passesOwn hp (thn (T.done X rfl rfl rfl hc i pins s3 O3 H3 X.xe I3 (stat fr3) st3 stop) fun r s4 ⟨hr,I4⟩=>?_);subst hr;exact wpAny_execs_nil ⟨O3,H3,I4,qn⟩
 ·refine wpAny_passesOwn hp (thn (T.item X rfl rfl rfl hc i pins s3 O3 H3 X.xe I3 (stat fr3) st3 go) fun r s4 ⟨u,hr,h4⟩=>?_);subst hr;refine wpAny_passesOwn hp (thn h4 fun _ s5 ⟨x,H5,I5,r5,y5,st5,fr5⟩=>?_);have I5':=I5.pinned (stat fr5) (T.obj _ _ st5);refine wpAny_passesOwn hp (thn (hg _ s5 O3 H5 x u _ I5' r5 (step x H5 y5)) fun _ s6 ⟨O6,H6,I6,q6⟩=>?_);refine wpAny_passesOwn hp (thn (hb _ s6 O6 H6 _ I6 q6) fun f s7 q7=>?_);have again:∀ {O7:St}{H7:Hp},Inv X (pins++z2u fp s5.heap) O7 H7 s7->N O7 H7->∃ m,m<n/\∃ i O' H',Inv X pins O' H' s7/\tn i s7.heap/\(∀ b∈fp,H' b=none)/\W i m O' H':=fun {O7 H7} I7 n7=>by
   obtain ⟨m',hm,w7⟩:=hN O7 H7 n7;refine ⟨m',hm,i+1,O7,H7,I7.unpinned,T.keep _ _ _ st5 fun b hb o e=>(I7.pin (b,o) (List.mem_append_right _ (List.mem_append_right _ (ul hb e)))).1,fun b hb=>?_,w7⟩;obtain ⟨o,e,d⟩:=T.obj _ _ st5 b hb;exact (I7.pin (b,o) (List.mem_append_right _ (List.mem_append_right _ (ul hb e)))).2.1
  cases f with
  | next=>obtain ⟨O7,H7,I7,n7⟩:=q7;exact again I7 n7 | cont=>obtain ⟨O7,H7,I7,n7⟩:=q7;exact again I7 n7 | brk=>obtain ⟨O7,H7,I7,q7⟩:=q7;exact ⟨O7,H7,I7.unpinned,q7⟩ | ret v=>obtain ⟨x7,O7,H7,I7,r7,q7⟩:=q7;exact ⟨x7,O7,H7,I7.unpinned,r7,q7⟩
end
abbrev R2:=V->V->Hp->VK->Prop
def OpR(X:Cx)(f:Value->Value->Sem Value)(r:R2):Prop:= ∀ (pins:List (Addr×Obj))(s:Shared)(O:St)(H:Hp)(x y:V)(v u:Value)(Q:VK),Inv X pins O H s->yB x v->yB y u->r x y H Q-> wpAny (model X.prog X.w) X.A (f v u) (EP X pins O Q) X.xe s
def UnR(X:Cx)(f:Value->Sem Value)(r:V->Hp->VK->Prop):Prop:= ∀ (pins:List (Addr×Obj))(s:Shared)(O:St)(H:Hp)(x:V)(v:Value)(Q:VK),Inv X pins O H s->yB x v->r x H Q-> wpAny (model X.prog X.w) X.A (f v) (EP X pins O Q) X.xe s
def wM(X:Cx)(f:Value)(r:List V->Hp->VK->Prop):Prop:= ∀ (pins:List (Addr×Obj))(s:Shared)(O:St)(H:Hp)(xs:List V)(us:List Value)(Q:VK),Inv X pins O H s->xb xs us->r xs H Q-> wpAny (model X.prog X.w) X.A (call f us) (EP X pins O Q) X.xe s
def zjE(X:Cx)(r:V->Hp->(Bool->Hp->Prop)->Prop):Prop:= ∀ (pins:List (Addr×Obj))(s:Shared)(O:St)(H:Hp)(x:V)(v:Value)(Q:Bool->Hp->Prop),Inv X pins O H s->yB x v->r x H Q-> wpAny (model X.prog X.w) X.A (truthy v) (TP X pins O Q) X.xe s
def tOp(r:R2)(ta tb:TE):TE:=fun O H Q=>ta O H fun x H1=>tb O H1 fun y H2=>r x y H2 Q
def tUn(r:V->Hp->VK->Prop)(ta:TE):TE:=fun O H Q=>ta O H fun x H1=>r x H1 Q
def rI(C:Int->Int->Prop)(g:Int->Int->V):R2:=fun x y H Q=>∃ i j,x=.int i/\y=.int j/\C i j/\Q (g i j) H
def rI0(g:Int->Int->V):R2:=fun x y H Q=>∃ i j,x=.int i/\y=.int j/\Q (g i j) H
def rU(g:Int->V):V->Hp->VK->Prop:=fun x H Q=>∃ i,x=.int i/\Q (g i) H
section
variable {X:Cx}{a b c:Expr}{ta tb tc:TE}{pos:Pos}
theorem zie(ha:PE X a ta)(hb:PE X b tb){pins:List (Addr×Obj)}{s:Shared}{O:St}{H:Hp}{R:V->V->Hp->Prop}(I:Inv X pins O H s) (h:ta O H fun x H1=>tb O H1 fun y H2=>R x y H2){Q:Value->Shared->Prop}{f:Value->Value->Sem Value} (hf:∀ v u s2 x y H2,Inv X pins O H2 s2->yB x v->yB y u->R x y H2->wpAny (model X.prog X.w) X.A (f v u) Q X.xe s2): wpAny (model X.prog X.w) X.A (eval a X.env) (fun v s₁=>wpAny (model X.prog X.w) X.A (eval b X.env) (fun u s₂=>wpAny (model X.prog X.w) X.A (f v u) Q X.xe s₂) X.xe s₁) X.xe s:=by
 refine thn (ha pins s O H _ I h) fun v s1 ⟨x,H1,I1,r1,q1⟩=>?_;refine thn (hb pins s1 O H1 _ I1 q1) fun u s2 ⟨y,H2,I2,r2,q2⟩=>?_;exact hf v u s2 x y H2 I2 r1 r2 q2
theorem zgS{op:Operator}{r:R2}(ho:OpR X (binaryOp op) r)(ha:PE X a ta)(hb:PE X b tb):PE X (.BinOp a op b pos) (tOp r ta tb):=by
 intro pins s O H Q I h;exact wpAny_BinOp (zie ha hb I h fun v u s2 x y H2 I2 rx ry q=>ho pins s2 O H2 x y v u Q I2 rx ry q)
theorem zg3{op:UnaryOp}{r:V->Hp->VK->Prop}(ho:UnR X (unaryOp op) r)(ha:PE X a ta):PE X (.UnaryOp op a pos) (tUn r ta):=by
 intro pins s O H Q I h;exact UnaryOp_ (thn (ha pins s O H _ I h) fun v s1 ⟨x,H1,I1,r1,q1⟩=>ho pins s1 O H1 x v Q I1 r1 q1)
theorem opI {f:Value->Value->Sem Value} {C:Int->Int->Prop} {g:Int->Int->Int} (rule:∀ (i j:Int) (t u:Tok) (s:Shared) (Q:Value->Shared->Prop) (E:Value->Shared->Prop),C i j->Q (.int (g i j) s.toks) {s with toks:=s.toks+1}->wpAny (model X.prog X.w) X.A (f (.int i t) (.int j u)) Q E s): OpR X f (rI C fun i j=>.int (g i j)):=by
 intro pins s O H x y v u Q I rx ry h;obtain ⟨i,j,rfl,rfl,hc,q⟩:=h;obtain ⟨t,rfl⟩:=rx;obtain ⟨t',rfl⟩:=ry;exact rule i j t t' s _ _ hc ⟨.int (g i j),H,I.tok _,⟨_,rfl⟩,q⟩
theorem ziK {f:Value->Value->Sem Value} {g:Int->Int->Int} (rule:∀ (i j:Int) (t u:Tok) (s:Shared) (Q:Value->Shared->Prop) (E:Value->Shared->Prop),Q (.int (g i j) s.toks) {s with toks:=s.toks+1}->wpAny (model X.prog X.w) X.A (f (.int i t) (.int j u)) Q E s): OpR X f (rI0 fun i j=>.int (g i j)):=by
 intro pins s O H x y v u Q I rx ry h;obtain ⟨i,j,rfl,rfl,q⟩:=h;obtain ⟨t,rfl⟩:=rx;obtain ⟨t',rfl⟩:=ry;exact rule i j t t' s _ _ ⟨.int (g i j),H,I.tok _,⟨_,rfl⟩,q⟩
theorem zgO{f:Value->Value->Sem Value}{g:Int->Int->Bool} (rule:∀ (i j:Int)(t u:Tok)(s:Shared)(Q:Value->Shared->Prop)(E:Value->Shared->Prop),Q (.bool (g i j)) s->wpAny (model X.prog X.w) X.A (f (.int i t) (.int j u)) Q E s): OpR X f (rI0 fun i j=>.bl (g i j)):=by
 intro pins s O H x y v u Q I rx ry h;obtain ⟨i,j,rfl,rfl,q⟩:=h;obtain ⟨t,rfl⟩:=rx;obtain ⟨t',rfl⟩:=ry;exact rule i j t t' s _ _ ⟨.bl (g i j),H,I,rfl,q⟩
def zja(i j:Int):Prop:=0<=j/\j<=1000000/\i.natAbs<2 ^ 64
theorem zfn:OpR X (binaryOp .Add) (rI0 fun i j=>.int (i+j)):=ziK fun _ _ _ _ _ _ _ q=>add_int q
theorem zez:OpR X (binaryOp .Sub) (rI0 fun i j=>.int (i-j)):=ziK fun _ _ _ _ _ _ _ q=>sub_int q
theorem zeI:OpR X (binaryOp .Mod) (rI (fun _ j=>0<j) fun i j=>.int (i % j)):=opI fun i j _ _ _ _ _ hc q=>by
 have h1:(0:Int)<j:=hc;exact mod_int' (by omega) (by rw [Int.fmod_eq_emod_of_nonneg i (by omega)];exact q)
theorem zg4:OpR X (binaryOp .Pow) (rI zja fun i j=>.int (i ^ j.toNat)):=opI fun _ _ _ _ _ _ _ hc q=>pow_int_small hc.1 hc.2.1 hc.2.2 q
theorem unI {f:Value->Sem Value} {g:Int->Int} (rule:∀ (i:Int) (t:Tok) (s:Shared) (Q:Value->Shared->Prop) (E:Value->Shared->Prop),Q (.int (g i) s.toks) {s with toks:=s.toks+1}->wpAny (model X.prog X.w) X.A (f (.int i t)) Q E s): UnR X f (rU fun i=>.int (g i)):=by
 intro pins s O H x v Q I rx h;obtain ⟨i,rfl,q⟩:=h;obtain ⟨t,rfl⟩:=rx;exact rule i t s _ _ ⟨.int (g i),H,I.tok _,⟨_,rfl⟩,q⟩
theorem zbX:UnR X (unaryOp .USub) (rU fun i=>.int (-i)):=unI fun _ _ _ _ _ q=>neg_int q
end
section
variable {X:Cx}{a b c:Expr}{ta tb tc:TE}{pos:Pos}
theorem zeY{pins:List (Addr×Obj)}{O:St}{H:Hp}{s:Shared}{Q:VK}{k k':Bool}(I:Inv X pins O H s)(q:Q (.bl k) H)(e:k=k'):EP X pins O Q (.bool k') s:=by
 subst e;exact ⟨.bl k,H,I,rfl,q⟩
theorem zia:OpR X (compareOp .Lt) (rI0 fun i j=>.bl (decide (i<j))):=zgO fun _ _ _ _ _ _ _ q=>lt_int q
theorem zgU:OpR X (compareOp .LtE) (rI0 fun i j=>.bl (decide (i<=j))):=zgO fun _ _ _ _ _ _ _ q=>le_int q
theorem zhE:OpR X (compareOp .Gt) (rI0 fun i j=>.bl (decide (j<i))):=zgO fun _ _ _ _ _ _ _ q=>gt_int q
theorem zhP:OpR X (compareOp .GtE) (rI0 fun i j=>.bl (decide (j<=i))):=zgO fun _ _ _ _ _ _ _ q=>ge_int q
theorem zeo:OpR X (compareOp .Is) (fun x y H Q=>y=.non/\Q (.bl (decide (x=.non))) H):=by
 intro pins s O H x y v u Q I rx ry h;obtain ⟨rfl,q⟩:=h;cases ry;refine is_none_gen (zeY I q ?_);cases x<;>first
  | (cases rx;rfl) | (obtain ⟨t,rfl⟩:=rx;rfl)
theorem OpR.or{f:Value->Value->Sem Value}{r r':R2}(h:OpR X f r)(h':OpR X f r'):OpR X f (fun x y H Q=>r x y H Q\/r' x y H Q):=by
 intro pins s O H x y v u Q I rx ry q;rcases q with q | q;·exact h pins s O H x y v u Q I rx ry q
 ·exact h' pins s O H x y v u Q I rx ry q
theorem zco(b:Expr){op:CmpOp}(h:op≠.In:=by decide)(h2:op≠.NotIn:=by decide):behindInMarks op b=false:=by
 have e1:(op==CmpOp.In)=false:=by cases op<;>first | rfl | exact absurd rfl h
 have e2:(op==CmpOp.NotIn)=false:=by cases op<;>first | rfl | exact absurd rfl h2
 cases b<;>simp [behindInMarks,e1,e2]
theorem z9G{op:CmpOp}{r:R2}(ho:OpR X (compareOp op) r)(ha:PE X a ta)(hb:PE X b tb)(hm:behindInMarks op b=false):PE X (.Compare a [op] [b] pos) (tOp r ta tb):=by
 intro pins s O H Q I h;exact wpAny_Compare1 (zie ha hb I h fun v u s2 x y H2 I2 rx ry q=>ho pins s2 O H2 x y v u Q I2 rx ry q) hm
def zdp(t:TE):TT:=fun O H Q=>t O H fun x H'=>∃ k,x=.bl k/\Q k H'
theorem zda{op:CmpOp}{r:R2}(ho:OpR X (compareOp op) r)(ha:PE X a ta)(hb:PE X b tb)(hm:behindInMarks op b=false):PT X (.Compare a [op] [b] pos) (zdp (tOp r ta tb)):=by
 intro pins s O H Q I h;refine wpAny_isTrue_Compare1 (thn (ha pins s O H _ I h) fun v s1 ⟨x,H1,I1,r1,q1⟩=>thn (hb pins s1 O H1 _ I1 q1) fun u s2 ⟨y,H2,I2,r2,q2⟩=> thn (ho pins s2 O H2 x y v u _ I2 r1 r2 q2) fun c s3 ⟨z,H3,I3,r3,k,e,q3⟩=>?_) hm;subst e;cases r3;exact wpAny_truthy_bool ⟨H3,I3,q3⟩
def z8y(r r':R2)(ta tb tc:TE):TE:=fun O H Q=>ta O H fun x H1=>tb O H1 fun y H2=>r x y H2 fun z H3=>∃ k,z=.bl k/\ (if k=true then tc O H3 fun w' H4=>r' y w' H4 Q else Q (.bl false) H3)
theorem zb5{op op':CmpOp}{r r':R2}(ho:OpR X (compareOp op) r)(ho':OpR X (compareOp op') r')(ha:PE X a ta)(hb:PE X b tb)(hc:PE X c tc) (hm:lastMarks [op,op'] [b,c]=false:=by with_unfolding_all rfl):PE X (.Compare a [op,op'] [b,c] pos) (z8y r r' ta tb tc):=by
 intro pins s O H Q I h;refine Compare_chain (thn (ha pins s O H _ I h) fun v s1 ⟨x,H1,I1,r1,q1⟩=>chain_link (thn (hb pins s1 O H1 _ I1 q1) fun u s2 ⟨y,H2,I2,r2,q2⟩=> thn (ho pins s2 O H2 x y v u _ I2 r1 r2 q2) fun d s3 ⟨z,H3,I3,r3,k,e,q3⟩=>?_)) hm;subst e;cases r3;refine wpAny_truthy_bool ?_;cases k with
 | false=>exact ite_ff ⟨.bl false,H3,I3,rfl,q3⟩ | true=>exact ite_tt (chain_last (thn (hc pins s3 O H3 _ I3 q3) fun w' s4 ⟨z',H4,I4,r4,q4⟩=>ho' pins s4 O H4 y z' u w' Q I4 r2 r4 q4))
theorem zbc{op op':CmpOp}{r r':R2}(ho:OpR X (compareOp op) r)(ho':OpR X (compareOp op') r')(ha:PE X a ta)(hb:PE X b tb)(hc:PE X c tc) (hm:lastMarks [op,op'] [b,c]=false:=by with_unfolding_all rfl):PT X (.Compare a [op,op'] [b,c] pos) (zdp (z8y r r' ta tb tc)):=by
 intro pins s O H Q I h;refine isTrue_chain (thn (ha pins s O H _ I h) fun v s1 ⟨x,H1,I1,r1,q1⟩=>test_link (thn (hb pins s1 O H1 _ I1 q1) fun u s2 ⟨y,H2,I2,r2,q2⟩=> thn (ho pins s2 O H2 x y v u _ I2 r1 r2 q2) fun d s3 ⟨z,H3,I3,r3,k,e,q3⟩=>?_)) hm;subst e;cases r3;refine wpAny_truthy_bool ?_;cases k with
 | false=>
  obtain ⟨k',e',q'⟩:=q3;cases e';exact ite_ff ⟨H3,I3,q'⟩ | true=>
  refine ite_tt (test_last (thn (hc pins s3 O H3 _ I3 q3) fun w' s4 ⟨z',H4,I4,r4,q4⟩=>thn (ho' pins s4 O H4 y z' u w' _ I4 r2 r4 q4) fun d' s5 ⟨z2,H5,I5,r5,k2,e2,q5⟩=>?_));subst e2;cases r5;exact wpAny_truthy_bool ⟨H5,I5,q5⟩
def ziU(K:W.Frag)(x:V)(H:Hp)(k:Bool):Prop:= match x with
 | .non=>k=false | .bl b=>k=b | .int i=>k=(i != 0) | .str y=>y.length<=sizeLine/\k=((y.length:Int) != 0) | .byt y=>y.size<=sizeLine/\k=((y.size:Int) != 0) | .ref p=>(∃ xs,SqL K H p xs/\k=!xs.isEmpty)\/(∃ xs,SqT K H p xs/\k=!xs.isEmpty)\/∃ kvs,H p=some (.dK kvs)/\k=!kvs.isEmpty | _=>False
theorem z7T{κ:Type}{kvs:List (κ×V)}{vs:List (κ×Value)}(r:KV kvs vs):(!vs.isEmpty)=!kvs.isEmpty:=by cases r<;>rfl
theorem z23{xs:List V}{its:List Value}(r:xb xs its):(!its.toArray.isEmpty)=!xs.isEmpty:=by cases r<;>simp
theorem z4u:(sizeLine:Nat)<2 ^ 63:=by rw [sizeLine_eq];decide
theorem zf3:zjE X (fun x H Q=>∃ k,ziU X.K x H k/\Q k H):=by
 intro pins s O H x v Q I rx h;obtain ⟨k,e,q⟩:=h;have hl:=z4u;have hs:sizeLine=16777216:=sizeLine_eq;cases x with
 | non=>
  cases rx;have e':k=false:=e;subst e';exact truthy_none ⟨H,I,q⟩ | bl b=>
  cases rx;have e':k=b:=e;subst e';exact wpAny_truthy_bool ⟨H,I,q⟩ | int i=>
  obtain ⟨t,rfl⟩:=rx;have e':k=(i != 0):=e;subst e';exact PySem.P.truthy_int ⟨H,I,q⟩ | str y=>
  obtain ⟨t,rfl⟩:=rx;obtain ⟨hy,e'⟩:y.length<=sizeLine/\k=((y.length:Int) != 0):=e;subst e';exact PySem.P.truthy_str (by omega) ⟨H,I.tok _,q⟩ | byt y=>
  obtain ⟨t,rfl⟩:=rx;obtain ⟨hy,e'⟩:y.size<=sizeLine/\k=((y.size:Int) != 0):=e;subst e';exact W.truthy_bytes (by omega) ⟨H,I.tok _,q⟩ | ref p=>
  cases rx;have e':(∃ xs,SqL X.K H p xs/\k=!xs.isEmpty)\/(∃ xs,SqT X.K H p xs/\k=!xs.isEmpty)\/∃ kvs,H p=some (.dK kvs)/\k=!kvs.isEmpty:=e;rcases e' with ⟨xs,hx,e'⟩ | ⟨xs,hx,e'⟩ | ⟨kvs,hx,e'⟩
  ·subst e';obtain ⟨its,r,pl,hz⟩:=I.list hx;have hlen:=r.length;exact wpAny_truthy_list pl.isList (by simp only [List.size_toArray];omega) ⟨H,I.tok _,by rw [z23 r];exact q⟩
  ·subst e';obtain ⟨its,r,pl,hz⟩:=I.tuple hx;have hlen:=r.length;exact truthy_tuple pl (by simp only [List.size_toArray];omega) ⟨H,I.tok _,by rw [z23 r];exact q⟩
  ·subst e';obtain ⟨hz,hS,vs,r,m⟩:kvs.length<=sizeLine/\(p==sysModules)=false/\∃ vs,KV kvs vs/\s.heap.DictOf (zG X.prog X.w) p vs:=I.hok p _ hx;have hlen:kvs.length=vs.length:=Paired.length r;exact wpAny_truthy_dict hS m (by omega) ⟨H,I.tok _,by rw [z7T r];exact q⟩ | _=>exact (show False from e).elim
theorem zaL(ha:PE X a ta)(he:∀ whole,isTrue a X.env whole=(do let v <- whole;standAt a.pos;holding [v] (truthy v))): PT X a (fun O H Q=>ta O H fun x H'=>∃ k,ziU X.K x H' k/\Q k H'):=by
 intro pins s O H Q I h;exact isTrue_plain (thn (ha pins s O H _ I h) fun v s1 ⟨x,H1,I1,r1,q1⟩=>zf3 pins s1 O H1 x v Q I1 r1 q1) (he _)
theorem vals1{x:V}{us:List Value}(r:xb [x] us):∃ u,us=[u]/\yB x u:=by cases r with | cons r1 r2=>cases r2;exact ⟨_,rfl,r1⟩
theorem vals2{x y:V}{us:List Value}(r:xb [x,y] us):∃ u w',us=[u,w']/\yB x u/\yB y w':=by cases r with | cons r1 r2=> cases r2 with | cons r3 r4=>cases r4;exact ⟨_,_,rfl,r1,r3⟩
theorem z9j(hc:X.calm=true):wM X (.builtin "max") (fun xs H Q=>∃ i j,xs=[.int i,.int j]/\Q (.int (if j > i then j else i)) H):=by
 intro pins s O H xs us Q I r h;obtain ⟨i,j,rfl,q⟩:=h;obtain ⟨u,w',rfl,⟨t,rfl⟩,⟨t',rfl⟩⟩:=vals2 r;refine max_two_ints (I.ok.hd hc) fun h' tk k=>⟨_,H,I.kept k,?_,q⟩;by_cases hj:j > i;·rw [if_pos hj,if_pos hj];exact ⟨_,rfl⟩
 ·rw [if_neg hj,if_neg hj];exact ⟨_,rfl⟩
theorem z8e(hc:X.calm=true):wM X (.builtin "min") (fun xs H Q=>∃ i j,xs=[.int i,.int j]/\Q (.int (if j<i then j else i)) H):=by
 intro pins s O H xs us Q I r h;obtain ⟨i,j,rfl,q⟩:=h;obtain ⟨u,w',rfl,⟨t,rfl⟩,⟨t',rfl⟩⟩:=vals2 r;refine min_two_ints (I.ok.hd hc) fun h' tk k=>⟨_,H,I.kept k,?_,q⟩;by_cases hj:j<i;·rw [if_pos hj,if_pos hj];exact ⟨_,rfl⟩
 ·rw [if_neg hj,if_neg hj];exact ⟨_,rfl⟩
theorem z9n:wM X (.type "int") (fun xs H Q=>(∃ i,xs=[.int i]/\Q (.int i) H)\/∃ k,xs=[.bl k]/\Q (.int (if k then 1 else 0)) H):=by
 intro pins s O H xs us Q I r h;rcases h with ⟨i,rfl,q⟩ | ⟨k,rfl,q⟩
 ·obtain ⟨u,rfl,t,rfl⟩:=vals1 r;exact call_int_int ⟨.int i,H,I,⟨_,rfl⟩,q⟩
 ·obtain ⟨u,rfl,r1⟩:=vals1 r;cases r1;exact call_int_bool ⟨.int (if k then 1 else 0),H,I.tok _,⟨_,rfl⟩,q⟩
end
structure zil(h:Heap)(x dx C:Addr)(mA:Str->Option Value):Prop where
 obj:h.get? x=some (W.instObj C dx)
 ns:h.Ns1 dx mA
 ne:dx≠x
theorem z9E{h:Heap}{dx:Addr}{mA:Str->Option Value}(n:h.Ns1 dx mA):∃ od,h.get? dx=some od/\∀ name,W.lookIn name od=some (mA name):=by
 obtain ⟨o,es,ep,ho,hd,hk,_,hm⟩:=n;refine ⟨o,ho,fun name=>?_⟩;have e:=hm name;unfold nsFind findBy at e;rw [<- Array.find?_toList] at e;unfold W.lookIn;rw [hd];dsimp only;split
 ·rename_i y q;rw [q] at e;exact congrArg some e
 ·rename_i q;rw [q] at e;have a:es.toList.any (·.refKey)=false:=by
   rw [List.any_eq_false];intro y hy;obtain ⟨z,t,hkey⟩:=hk y (Array.mem_toList_iff.mp hy);simp [DictEntry.refKey,hkey]
  have a':¬ es.toList.any (·.refKey)=true:=by rw [a];exact Bool.false_ne_true
  rw [if_neg a'];exact congrArg some e
theorem zil.look{h:Heap}{x dx C:Addr}{mA:Str->Option Value}(I:zil h x dx C mA):∃ od,W.InstAt h x (W.instObj C dx) C (some od)/\∀ name,W.lookIn name od=some (mA name):= let ⟨od,ho,hl⟩:=z9E I.ns;⟨od,⟨I.obj,rfl,rfl,ho⟩,hl⟩
theorem z88.some_of{v:V}{o:Option Value}(r:z88 (some v) o):∃ u,o=some u/\yB v u:=by cases o with
 | none=>exact (show False from r).elim | some u=>exact ⟨u,rfl,r⟩
section
variable {P:Program}{w:World}{H H':Hp}{h h':Heap}{a C dx:Addr}{fs fs':List (Str×V)}
theorem zdt(hok:HOk P w H h)(e:H a=some (.ins C dx fs)):∃ mA,zil h a dx C mA/\(∀ f,z88 (fs.lookup f) (mA f))/\PySem.Within mA (fs.map (·.1))/\fs.length<=1000/\H dx=some (.own a):=by
 obtain ⟨d,z,ne,ob,mA,n,r,q⟩:=(show xx P w H h a (.ins C dx fs) from hok a _ e);exact ⟨mA,⟨ob,n,ne⟩,r,q,z,d⟩
end
structure Cls(K:W.Frag)(C:Addr):Prop where
 pg:W.plainGet K C Str.empty=true
 hd:W.hasDictIn K C=true
 po:W.plainOver K C=true
 sa:W.findIn K (.ref C) "__setattr__"=some (some (.builtin "object.__setattr__"))
theorem Cls.get{K:W.Frag}{C:Addr}(c:Cls K C)(f:Str):W.plainGet K C f=true:=c.pg
section
variable {X:Cx}{pins:List (Addr×Obj)}{O:St}{H:Hp}{s:Shared}{A:Around}{E:Value->Shared->Prop}{Q:Value->Shared->Prop}{c:Value}{b:Bool}
inductive z7j(K:W.Frag)(H:Hp):V->Value->Prop where | non:z7j K H .non (.type "NoneType") | bl (x:Bool):z7j K H (.bl x) (.type "bool") | int (i:Int):z7j K H (.int i) (.type "int") | str (x:Str):z7j K H (.str x) (.type "str") | flt (x:UInt64):z7j K H (.flt x) (.type "float") | lst {a:Addr}{xs:List V}(e:H a=some (.lst xs)):z7j K H (.ref a) (.type "list") | frz {a:Addr}{o:Obj}{xs:List V}(e:H a=some (.frz o (.lst xs))):z7j K H (.ref a) (.type "list") | tup {a:Addr}{xs:List V}(e:H a=some (.tup xs)):z7j K H (.ref a) (.type "tuple") | dK {a:Addr}{kvs:List (Key×V)}(e:H a=some (.dK kvs)):z7j K H (.ref a) (.type "dict") | dT {a:Addr}{kvs:List (List Key×V)}(e:H a=some (.dT kvs)):z7j K H (.ref a) (.type "dict") | ins {a C dx:Addr}{fs:List (Str×V)}(e:H a=some (.ins C dx fs))(cl:Cls K C)(ha:W.findIn K (.ref C) "__class__"=some (some (.builtin "object.__class__"))) (hn:W.specialIn K (.builtin "object.__class__") "__get__"=some (some (.builtin "getset_descriptor.__get__")))(htk:W.takesIn K (.builtin "object.__class__")=some true) (hm:W.mroIn K C (.type "object")=some true):z7j K H (.ref a) (.ref C)
theorem z8P {x:V} {u t:Value} (I:Inv X pins O H s) (rx:yB x u) (ty:z7j X.K H x t) (e:W.kitOne X.K t c=some b) (h:∀ tk,Q (.bool b) {s with toks:=tk}): wpAny (model X.prog X.w) A (call (.builtin "isinstance") [u,c]) Q E s:=by cases ty with
 | non=>cases (show u=Value.none from rx);exact W.kia_one W.kitx_none I.kIn True.intro e (fun z=>nomatch z) h | bl y=>cases (show u=Value.bool y from rx);exact W.kia_one W.kitx_bool I.kIn True.intro e (fun z=>nomatch z) h | int i=>obtain ⟨t,q⟩:=(show ∃ t,u=Value.int i t from rx);cases q;exact W.kia_one W.kitx_int I.kIn True.intro e (fun z=>nomatch z) h | str y=>obtain ⟨t,q⟩:=(show ∃ t,u=Value.str y t from rx);cases q;exact W.kia_one W.kitx_str I.kIn True.intro e (fun z=>nomatch z) h | flt y=>obtain ⟨t,q⟩:=(show ∃ t,u=Value.float y t from rx);cases q;exact W.kia_one W.kitx_float I.kIn True.intro e (fun z=>nomatch z) h | @lst a xs ea=>
  cases (show u=Value.ref a from rx);obtain ⟨_,_,n,_,h1⟩:=(show xx X.prog X.w H s.heap a (.lst xs) from I.hok a _ ea);exact W.kia_one W.kitx_list I.kIn ⟨_,h1,rfl⟩ e (fun z=>nomatch z) h | @frz a ob xs ea=>
  cases (show u=Value.ref a from rx);obtain ⟨_,_,_,n,_,h1⟩:=(show xx X.prog X.w H s.heap a (.frz ob (.lst xs)) from I.hok a _ ea);exact W.kia_one W.kitx_list I.kIn ⟨_,h1,rfl⟩ e (fun z=>nomatch z) h | @tup a xs ea=>
  cases (show u=Value.ref a from rx);obtain ⟨_,_,_,p⟩:=(show xx X.prog X.w H s.heap a (.tup xs) from I.hok a _ ea);obtain ⟨o,h1,h2,_⟩:=p;exact W.kia_one W.kitx_tuple I.kIn ⟨o,h1,h2⟩ e (fun z=>nomatch z) h | @dK a kvs ea=>
  cases (show u=Value.ref a from rx);obtain ⟨_,_,vs,_,p⟩:=(show xx X.prog X.w H s.heap a (.dK kvs) from I.hok a _ ea);obtain ⟨o,es,ep,h1,h2,_⟩:=p;exact W.kia_one W.kitx_dict I.kIn ⟨o,h1,h2.1⟩ e (fun z=>nomatch z) h | @dT a kvs ea=>
  cases (show u=Value.ref a from rx);obtain ⟨_,_,xs,_,o,es,ep,h1,h2,_⟩:=(show xx X.prog X.w H s.heap a (.dT kvs) from I.hok a _ ea);exact W.kia_one W.kitx_dict I.kIn ⟨o,h1,h2.1⟩ e (fun z=>nomatch z) h | @ins a C dx fs ea cl ha hn htk hm=>
  cases (show u=Value.ref a from rx);obtain ⟨mA,Oo,_⟩:=zdt I.hok ea;obtain ⟨od,J,_⟩:=Oo.look;exact W.kia_one (W.kitx_own (cl.get _) cl.hd ha hn htk hm) I.kIn J e (fun z=>nomatch z) h
end
structure z0q(k:Nat)(A:Around):Prop where
 hd:A.handled=none
 dp:A.depth+3*k+5<recursionLimit
 un:A.units+16*k+200<cLine
 gd:A.guards=some []
theorem z0q.mono{j k:Nat}{A:Around}(r:z0q k A)(h:j<=k):z0q j A:=⟨r.hd,by have:=r.dp;omega,by have:=r.un;omega,r.gd⟩
theorem z0q.deeper{k:Nat}{A:Around}(r:z0q (k+1) A)(env:Env):z0q k (A.deeper env):= ⟨r.hd,by have:=r.dp;show A.depth+1+3*k+5<_;omega,by have:=r.un;show A.units+3+16*k+200<_;omega,r.gd⟩
theorem z0q.depth{k:Nat}{A:Around}(r:z0q k A):A.depth<recursionLimit:=by have:=r.dp;omega
theorem z0q.units{k:Nat}{A:Around}(r:z0q k A):A.units+64<cLine:=by have:=r.un;omega
def ziD:TA:=fun _ H Q=>Q [] H
def zhw(ta:TE)(tr:TA):TA:=fun O H Q=>ta O H fun x H1=>tr O H1 fun xs H2=>Q (x::xs) H2
section
variable {X:Cx}{e:Expr}{es:List Expr}{te:TE}{t:TA}{pos:Pos}
theorem z4D:PA X [] ziD:=fun _ _ _ _ H Q I h=>Calls.spliced_nil ⟨[],H,I,.nil,h⟩
theorem kz(ha:PE X e te)(hr:PA X es t)(hs:starEach (e::es) X.env=(false,eval e X.env)::starEach es X.env:=by rfl):PA X (e::es) (zhw te t):=by
 intro pos pins s O H Q I h;rw [hs];show wpAny _ _ (spliced ((false,eval e X.env)::backTo pos (starEach es X.env))) _ _ s;refine Calls.spliced_cons (thn (ha pins s O H _ I h) fun u s1 ⟨x,H1,I1,r1,q1⟩=>?_);exact thn (hr pos pins s1 O H1 _ I1 q1) fun us s2 ⟨xs,H2,I2,r2,q2⟩=>⟨x::xs,H2,I2,.cons r1 r2,q2⟩
def zjk(t:TA):TE:=fun O H Q=>t O H fun xs H1=>xs.length<=sizeLine/\∀ p,H1 p=none->Q (.ref p) (upd H1 p (.tup xs))
def zj6(t:TA):TE:=fun O H Q=>t O H fun xs H1=>xs.length<=sizeLine/\∀ p,H1 p=none->Q (.ref p) (upd H1 p (.lst xs))
theorem zeK{x1}(h:PA X es t):PE X (.Tuple es x1 pos) (zjk t):=by
 intro pins s O H Q I hq;refine wpAny_Tuple_spliced (thn (h pos pins s O H _ I hq) fun us s1 ⟨xs,H1,I1,r,z,q⟩=>⟨by rw [<- r.length];exact z,?_⟩);have hf:H1 s1.heap.objs.size=none:=I1.hok.fresh (Nat.le_refl _);refine ⟨.ref s1.heap.objs.size,upd H1 s1.heap.objs.size (.tup xs),I1.laid (t':=s1.toks) (fun b u e=>Heap.get?_push_of_some _ e) (Nat.le_refl _) ?_,rfl,q _ hf⟩;exact ⟨z,us,r,⟨_,Heap.get?_push_size _ rfl,rfl,rfl,_,rfl⟩⟩
theorem zcp(h:PA X es t):PE X (.List es pos) (zj6 t):=by
 intro pins s O H Q I hq;refine wpAny_List_spliced (thn (h pos pins s O H _ I hq) fun us s1 ⟨xs,H1,I1,r,z,q⟩=>⟨by rw [<- r.length];exact z,?_⟩);have hf:H1 s1.heap.objs.size=none:=I1.hok.fresh (Nat.le_refl _);refine ⟨.ref s1.heap.objs.size,upd H1 s1.heap.objs.size (.lst xs),I1.laid (t':=s1.toks) (fun b u e=>Heap.get?_push_of_some _ e) (Nat.le_refl _) ?_,rfl,q _ hf⟩;exact ⟨z,us,0,r,Heap.get?_push_size _ rfl⟩
end
abbrev Sp:=List V->Hp->VK->XK->Prop
abbrev CXT:=List Env->Hp->Shared->XK->Value->Shared->Prop
structure zgB(P:Program)(w:World)(K:W.Frag)(mg:Str->Option Value)(base:Heap)(A:Around)(outer:List Env)(s:Shared)(H:Hp):Prop where
 frames:A.frames=some outer
 mod:Mod K mg base
 bs:∀ b o,base.get? b=some o->s.heap.get? b=some o/\H b=none
 bsz:base.objs.size<=s.heap.objs.size
 funs:s.heap.FunFrames base outer
 frf:∀ b∈frs outer,H b=none
 hok:HOk P w H s.heap
 bare:AllBare s.gens
def CE(outer:List Env)(P:Program)(w:World)(H:Hp)(s:Shared)(Q:VK)(u:Value)(s':Shared):Prop:= ∃ v H',s'.os=s.os/\AllBare s'.gens/\Un (frs outer) [] H H' s.heap s'.heap/\HOk P w H' s'.heap/\yB v u/\Q v H'
def CR(CX:CXT)(outer:List Env)(P:Program)(w:World)(H:Hp)(s:Shared)(Q:VK)(E:XK)(r:Result)(s':Shared):Prop:= match r with
 | .ok (.ret u)=>CE outer P w H s Q u s' | .ok _=>False | .error e=>CX outer H s E e s'
structure z2e(P:Program)(w:World)(K:W.Frag)(mg:Str->Option Value)(base:Heap)(CX:CXT)(k:Nat)(f:Addr)(fd:FuncData)(ps:List Str)(sp:Sp):Prop where
 len:∀ vs H Q E,sp vs H Q E->vs.length=ps.length
 run:∀ (A:Around)(outer:List Env)(s:Shared)(H:Hp)(args:Args)(us:List Value)(vs:List V)(Q:VK)(E:XK),z0q k A->zgB P w K mg base A outer s H->BindsTo s fd args (ps.zip us)->xb vs us->sp vs H Q E-> codeAny (model P w) A (.call (.ref f) args) (CR CX outer P w H s Q E) s
theorem z2e.mono{P:Program}{w:World}{K:W.Frag}{mg:Str->Option Value}{base:Heap}{CX:CXT}{j k:Nat}{f:Addr}{fd:FuncData}{ps:List Str}{sp:Sp}(F:z2e P w K mg base CX j f fd ps sp)(h:j<=k): z2e P w K mg base CX k f fd ps sp:=⟨F.len,fun A outer s H args us vs Q E hr=>F.run A outer s H args us vs Q E (hr.mono h)⟩
theorem z2e.imp{P:Program}{w:World}{K:W.Frag}{mg:Str->Option Value}{base:Heap}{CX:CXT}{k:Nat}{f:Addr}{fd:FuncData}{ps:List Str}{sp sp':Sp}(F:z2e P w K mg base CX k f fd ps sp) (h:∀ vs H Q E,sp' vs H Q E->sp vs H Q E):z2e P w K mg base CX k f fd ps sp':= ⟨fun vs H Q E q=>F.len vs H Q E (h _ _ _ _ q),fun A outer s H args us vs Q E hr he hb hv hs=>F.run A outer s H args us vs Q E hr he hb hv (h _ _ _ _ hs)⟩
section
variable {X:Cx}{pins:List (Addr×Obj)}{O:St}{H:Hp}{s s':Shared}
theorem Inv.env0(I:Inv X pins O H s):zgB X.prog X.w X.K X.mg X.base X.A X.stack s H:= ⟨I.ok.frames,I.ok.mod,I.bs,Nat.le_trans I.ok.bsz I.sz,I.stack,I.stkFree,I.hok,I.bare⟩
theorem Inv.after {Q:VK} {u:Value} (I:Inv X pins O H s) (h:CE X.stack X.prog X.w H s Q u s'):EP X pins O Q u s':=by
 obtain ⟨v,H',os,bare,un,hok,r,q⟩:=h;obtain ⟨hh,g,d,t,os'⟩:=s';obtain rfl:os'=s.os:=os;exact ⟨v,H',I.call (h':=hh) (g':=g) (d':=d) (t':=t) (ch:=[]) un hok bare (fun b z=>absurd z (by simp)),r,q⟩
end
def zeQ(sp:Sp)(dvs:List V)(E:XK)(t:TA):TE:=fun O H Q=>t O H fun vs H1=>sp (vs++dvs) H1 Q E
def Binds(K:W.Frag)(fd:FuncData)(ps:List Str)(ds:List Value):Prop:= ∀ (s:Shared)(us:List Value),K.In s.heap->(us++ds).length=ps.length->BindsTo s fd ⟨us,[]⟩ (ps.zip (us++ds))
theorem Binds.all{K:W.Frag}{fd:FuncData}{ps:List Str}(h:∀ us:List Value,us.length=ps.length->bindArgs fd ⟨us,[]⟩=pure (ps.zip us)):Binds K fd ps []:=fun s us _ hl=>by
 rw [List.append_nil] at hl ⊢;exact .of_eq (h us hl)
def Passes(CX:CXT)(X:Cx)(E:XK):Prop:=∀ (pins:List (Addr×Obj))(O:St)(H:Hp)(s:Shared)(e:Value)(s':Shared),Inv X pins O H s->CX X.stack H s E e s'->X.xe e s'
section
variable {X:Cx}{CX:CXT}{k:Nat}{f C:Addr}{fd:FuncData}{ps:List Str}{sp:Sp}{dvs:List V}{ds:List Value}{E:XK}{x m:Str}{p pos apos:Pos}{e o:Expr}{es:List Expr}{ta:TE}{t:TA}
theorem za7{pins:List (Addr×Obj)}{O:St}{H:Hp}{s:Shared}{Q:VK}{us:List Value}{vs:List V}(F:z2e X.prog X.w X.K X.mg X.base CX k f fd ps sp)(hr:z0q k X.A)(hb:Binds X.K fd ps ds)(hd:xb dvs ds)(hx:Passes CX X E) (I:Inv X pins O H s)(r:xb vs us)(h:sp (vs++dvs) H Q E):wpAny (model X.prog X.w) X.A (call (.ref f) us) (EP X pins O Q) X.xe s:=by
 have r2:xb (vs++dvs) (us++ds):=r.append hd;have hl:(us++ds).length=ps.length:=by rw [<- r2.length];exact F.len _ _ _ _ h
 refine wpAny_call (codeAny_mono (F.run X.A X.stack s H ⟨us,[]⟩ (us++ds) (vs++dvs) Q E hr I.env0 (hb s us I.kIn hl) r2 h) fun r s' hq=>?_);cases r with
 | error e=>exact hx pins O H s e s' I hq | ok fl=> cases fl with
  | ret u=>exact I.after hq | next=>exact False.elim hq | brk=>exact False.elim hq | cont=>exact False.elim hq
theorem zd1 (F:z2e X.prog X.w X.K X.mg X.base CX k f fd ps sp) (hr:z0q k X.A) (hg:Gl X x) (hm:X.mg x=some (.ref f)) (hk:W.keepIn X.K (.ref f)=true) (hb:Binds X.K fd ps ds) (hd:xb dvs ds) (hx:Passes CX X E) (ha:PA X (e::es) t) (hdb:(x==("__debug__":Str))=false:=by decide) (he:starEach (e::es) X.env=(false,eval e X.env)::starEach es X.env:=by rfl) (hpl:(backTo pos (starEach es X.env)).any (·.1)=false:=by rfl): PE X (.Call (.Name x p) (e::es) [] pos) (zeQ sp dvs E t):=by
 intro pins s O H Q I h;refine wpAny_Call_Name_kw (z6j I hg hm ?_ hdb);refine W.callWith_K (h₀:=X.base) I.ok.mod.kin hk (thn (ha pos pins s O H _ I h) fun us s1 ⟨vs,H1,I1,r,q⟩=>⟨I1.kIn,?_⟩) he hpl;exact za7 F hr hb hd hx I1 r q
theorem zaj(F:z2e X.prog X.w X.K X.mg X.base CX k f fd ps sp)(hr:z0q k X.A)(hg:Gl X x)(hm:X.mg x=some (.ref f))(hk:W.keepIn X.K (.ref f)=true)(hb:Binds X.K fd ps ds)(hd:xb dvs ds)(hx:Passes CX X E) (hdb:(x==("__debug__":Str))=false:=by decide):PE X (.Call (.Name x p) [] [] pos) (zeQ sp dvs E ziD):=by
 intro pins s O H Q I h;refine wpAny_Call_Name_kw (z6j I hg hm ?_ hdb);exact W.callWith_K0 I.kIn hk (za7 (us:=[]) F hr hb hd hx I .nil h)
end
structure zu(N P:List Str)(sc:Scope):Prop where
 kind:sc.kind=.function
 co:sc.isCoroutine=false
 gen:sc.isGenerator=false
 nd:N.Nodup
 pre:N.take P.length=P
 par:∀ x∈P,sc.names.lookup x=some .local\/sc.names.lookup x=some .cell
 nofree:∀ y∈sc.names,y.2≠.free
theorem z4J{kindOf:Str->Option NameKind}{x:Str}:∀ {binds:List (Str×Value)}{m:Str->Option Value},(∀ v,(x,v)∉binds)->bindL kindOf binds m x=m x
 | [],_,_=>rfl | (n,v)::r,m,h=>by
  unfold bindL;rw [z4J fun w hw=>h w (List.mem_cons_of_mem _ hw)];split
  ·have:x≠n:=by rintro rfl;exact h v List.mem_cons_self
   simp [this]
  ·rfl
theorem z5d{kindOf:Str->Option NameKind}{x:Str}:∀ {binds:List (Str×Value)}{m:Str->Option Value},(∀ v,(x,v)∉binds)->bindC kindOf binds m x=m x
 | [],_,_=>rfl | (n,v)::r,m,h=>by
  unfold bindC;rw [z5d fun w hw=>h w (List.mem_cons_of_mem _ hw)];split;·rfl
  ·have:x≠n:=by rintro rfl;exact h v List.mem_cons_self
   simp [this]
theorem z4d{kindOf:Str->Option NameKind}{x:Str}{v:Value}:∀ {P:List Str}{vs:List Value}{i:Nat}{m:Str->Option Value},P.Nodup->P[i]? = some x->vs[i]? = some v->kindOf x=some .local-> bindL kindOf (P.zip vs) m x=some v
 | [],_,_,_,_,h,_,_=>by simp at h | _::_,[],_,_,_,_,h,_=>by simp at h | p::P,w::vs,0,m,nd,h1,h2,hk=>by
  simp at h1 h2;subst h1;subst h2;show bindL kindOf ((p,w)::P.zip vs) m p=_;unfold bindL;rw [z4J fun v hv=>(List.nodup_cons.mp nd).1 (List.of_mem_zip hv).1,if_pos hk];simp | p::P,w::vs,i+1,m,nd,h1,h2,hk=>by
  show bindL kindOf ((p,w)::P.zip vs) m x=_;unfold bindL;exact z4d (i:=i) (List.nodup_cons.mp nd).2 (by simpa using h1) (by simpa using h2) hk
theorem z5b{kindOf:Str->Option NameKind}{x:Str}{v:Value}:∀ {P:List Str}{vs:List Value}{i:Nat}{m:Str->Option Value},P.Nodup->P[i]? = some x->vs[i]? = some v->kindOf x≠some .local-> bindC kindOf (P.zip vs) m x=some v
 | [],_,_,_,_,h,_,_=>by simp at h | _::_,[],_,_,_,_,h,_=>by simp at h | p::P,w::vs,0,m,nd,h1,h2,hk=>by
  simp at h1 h2;subst h1;subst h2;show bindC kindOf ((p,w)::P.zip vs) m p=_;unfold bindC;rw [z5d fun v hv=>(List.nodup_cons.mp nd).1 (List.of_mem_zip hv).1,if_neg hk];simp | p::P,w::vs,i+1,m,nd,h1,h2,hk=>by
  show bindC kindOf ((p,w)::P.zip vs) m x=_;unfold bindC;exact z5b (i:=i) (List.nodup_cons.mp nd).2 (by simpa using h1) (by simpa using h2) hk
def start(N:List Str)(vs:List V):St:=vs.map some++List.replicate (N.length-vs.length) none
def zad(CX:CXT)(P:Program)(w:World)(K:W.Frag)(mg:Str->Option Value)(base:Heap)(N:List Str)(qual:Str)(scope:Scope)(f:Addr)(cd:Value)(A:Around)(outer:List Env)(s:Shared)(H:Hp)(E:XK):Cx where
 prog:=P;w:=w;K:=K;mg:=mg;base:=base;A:=A.deeper (envOfC qual scope s.heap.objs.size f cd);N:=N;s₀:=s;H₀:=H;env:=envOfC qual scope s.heap.objs.size f cd;outer:=outer;stack:=envOfC qual scope s.heap.objs.size f cd::outer;ex:=[];calm:=A.handled.isNone;fn:=fun _=>true;pn:=[];xe:=fun e s'=>wpAny (model P w) (A.deeper (envOfC qual scope s.heap.objs.size f cd)) (leaving (envOfC qual scope s.heap.objs.size f cd) e) (fun _ s''=>CX outer H s E e s'') (fun e' s''=>CX outer H s E e' s'') s'
theorem z0m{sc:Scope}{n:Nat}{x:Str}(h:sc.names.lookup x=some .cell):∃ c,(cellsFrom n sc.names []).lookup x=some c:=by
 have q:=W.cellsFrom_some sc.names n [] (.inl h);exact Option.isSome_iff_exists.mp q
theorem z99{CX:CXT}{P:Program}{w:World}{K:W.Frag}{mg:Str->Option Value}{base:Heap}{N ps:List Str}{qual:Str}{scope:Scope}{f:Addr}{cd:Value}{A:Around}{outer:List Env}{s s1:Shared}{H:Hp}{E:XK}{us:List Value}{vs:List V} (S:zu N ps scope)(e0:zgB P w K mg base A outer s H)(hl:vs.length=ps.length)(r:xb vs us) (x:InCallC s s.heap.objs.size (bindL (envOfC qual scope s.heap.objs.size f cd).kindOf (ps.zip us) fun _=>none) (cellsFrom (s.heap.objs.size+1) scope.names []) (bindC (envOfC qual scope s.heap.objs.size f cd).kindOf (ps.zip us) fun _=>none) s1): Inv (zad CX P w K mg base N qual scope f cd A outer s H E) [] (start N vs) H s1:=by
 have hpl:ps.length<=N.length:=by have:=congrArg List.length S.pre;rw [List.length_take] at this;omega
 obtain ⟨h1,tk,rfl,hk⟩:=x.done;have noA:∀ b:Addr,b∉(zad CX P w K mg base N qual scope f cd A outer s H E).ex:=fun b z=>absurd (show b∈([]:List Addr) from z) (by simp);refine ⟨⟨e0.mod,S.kind,rfl,rfl,Nat.le_refl _,fun y z c h1 h2=>?_,fun y hy=>?_,fun y c _ h=>?_,fun h=>Option.isNone_iff_eq_none.mp h,Around.frames_deeper e0.frames,.inr ⟨rfl,rfl⟩,fun b z=>absurd z (noA b),e0.bs,e0.bsz,fun b _ _=>noA b,fun b z=>absurd z (noA b),e0.funs,e0.frf⟩, rfl,e0.bare,Un.kept hk,⟨_,x.toInCall.ns,fun i y v h1 h2 h3=>?_⟩,fun y c h=>⟨_,x.cell y c h⟩,e0.hok.fresh (Nat.le_refl _),fun y c h=>?_,fun p hp=>absurd (show p∈([]:List (Addr×Obj)) from hp) (by simp),e0.hok.kept hk,?_⟩;·exact name_of_addr x.apart (PySem.mem_of_lookup h1) (PySem.mem_of_lookup h2)
 ·have hy:scope.names.lookup y=some .cell\/scope.names.lookup y=some .free:=hy;rcases hy with hy | hy;·exact z0m hy
  ·exact absurd rfl (S.nofree _ (PySem.mem_of_lookup hy))
 ·exact Nat.le_of_lt (x.above y c (PySem.mem_of_lookup h))
 ·have hi:i<vs.length:=by
   unfold start at h2;by_cases hi:i<vs.length;·exact hi
   ·rw [List.getElem?_append_right (by simpa using hi)] at h2;rw [List.getElem?_replicate] at h2;split at h2<;>cases h2
  have ha:vs[i]? = some v:=by
   unfold start at h2;rw [List.getElem?_append_left (by simpa using hi),List.getElem?_map] at h2;cases e:vs[i]? with
   | none=>rw [e] at h2;cases h2 | some a=>rw [e] at h2;cases h2;rfl
  obtain ⟨u,hu,rv⟩:=r.get ha;have hp:ps[i]? = some y:=by rw [<- S.pre,List.getElem?_take_of_lt (by omega)];exact h1
  have ndP:ps.Nodup:=by rw [<- S.pre];exact S.nd.sublist (List.take_sublist _ _)
  refine ⟨u,rv,?_⟩;rcases S.par y (List.mem_of_getElem? hp) with k | k;·exact .inl ⟨k,z4d ndP hp hu k⟩
  ·obtain ⟨c,e⟩:=z0m (n:=s.heap.objs.size+1) k;refine .inr ⟨.inl k,c,e,?_⟩;have q:=x.cell y c e;rw [z5b ndP hp hu (by show scope.names.lookup y≠_;rw [k];decide)] at q;exact q
 ·exact e0.hok.fresh (Nat.le_of_lt (x.above y c (PySem.mem_of_lookup h)))
 ·unfold start;show _=N.length;rw [List.length_append,List.length_map,List.length_replicate];omega
theorem zgZ {CX:CXT} {P:Program} {w:World} {K:W.Frag} {mg:Str->Option Value} {base:Heap} {k:Nat} {f:Addr} {name qual:Str} {params:Arguments} {body:List Stmt} {scope:Scope} {dV kV doc pm cdv ct oc:Value} {an od:Option Addr} {osl:Array (Option Value)} {N ps:List Str} {sp:Sp} (lk:K.lookup f=some ⟨oc,od,.func (W.fnOf name qual params body scope dV kV doc pm an cdv ct),osl⟩) (hcd:W.codeIn K cdv qual=true) (S:zu N ps scope) (len:∀ vs H Q E,sp vs H Q E->vs.length=ps.length) (hbody:∀ (A:Around) (outer:List Env) (s:Shared) (H:Hp) (vs:List V) (Q:VK) (E:XK),z0q k (A.deeper (envOfC qual scope s.heap.objs.size f cdv))->sp vs H Q E-> ∃ t,PSs (zad CX P w K mg base N qual scope f cdv A outer s H E) body t/\t {nx:=fun _ H'=>Q .non H',rt:=Q} (start N vs) H): z2e P w K mg base CX (k+1) f (W.fnOf name qual params body scope dV kV doc pm an cdv ct) ps sp:=by
 refine ⟨len,fun A outer s H args us vs Q E hr e0 hb r hsp=>?_⟩;have hl:=len _ _ _ _ hsp;have KX:K.In s.heap:=e0.mod.kin.keeps fun b o e=>(e0.bs b o e).1;have lim:s.heap.NoLimit:=e0.mod.nolimit.keeps fun b o e=>(e0.bs b o e).1;have hkind:∀ y∈ps.zip us,scope.names.lookup y.1=some .local\/(scope.names.lookup y.1=some .cell/\((cellsFrom (s.heap.objs.size+1) scope.names []).lookup y.1).isSome=true):=fun ⟨n,v⟩ hy=>by
  rcases S.par n (List.of_mem_zip hy).1 with q | q;·exact .inl q
  ·exact .inr ⟨q,W.cellsFrom_some _ _ _ (.inl q)⟩
 refine codeAny_call_function hr.depth (KX _ _ lk) rfl S.co S.gen rfl (W.codeRec_of KX hcd) (hb _ _ _ _ ?_);refine wpAny_newFunctionEnv_cells S.kind hkind fun env he s1 x=>?_;subst he;refine ⟨lim.keeps x.toInCall.keep,codeAny_func ?_⟩;obtain ⟨t,ht,hq⟩:=hbody A outer s H vs Q E (hr.deeper _) hsp;have I:Inv (zad CX P w K mg base N qual scope f cdv A outer s H E) [] (start N vs) H s1:=z99 S e0 hl r x;refine wpAny_mono (ht [] s1 (start N vs) H _ I hq) (fun fl s' hs=>?_) fun e s' hs=>hs;have fin:∀ {O':St} {H':Hp} {v:V} {u:Value},Inv (zad CX P w K mg base N qual scope f cdv A outer s H E) [] O' H' s'->yB v u->Q v H'->CE outer P w H s Q u s':= fun {O' H' v u} J rv q=>⟨v,H',J.os,J.bare,J.base,J.hok,rv,q⟩;cases fl with
 | ret u=>
  obtain ⟨v,O',H',J,rv,q⟩:=hs;exact fin J rv q | next=>
  obtain ⟨O',H',J,q⟩:=hs;exact fin (v:=V.non) (u:=Value.none) J rfl q | brk=>
  obtain ⟨_,_,_,q⟩:=hs;exact False.elim q | cont=>
  obtain ⟨_,_,_,q⟩:=hs;exact False.elim q
section
variable {X:Cx}{x:Str}{p pos:Pos}{e:Expr}{es:List Expr}{t:TA}{id T:String}{r:List V->Hp->VK->Prop}
def tCB(r:List V->Hp->VK->Prop)(t:TA):TE:=fun O H Q=>t O H fun vs H1=>r vs H1 Q
theorem z7d (hc:wM X (.builtin id) r) (hg:Gl X x) (hm:X.mg x=none) (hv:bootBuiltins x=some (.builtin id)) (ha:PA X (e::es) t) (hn:x≠"__name__":=by decide) (hdb:(x==("__debug__":Str))=false:=by decide) (he:starEach (e::es) X.env=(false,eval e X.env)::starEach es X.env:=by rfl) (hpl:(backTo pos (starEach es X.env)).any (·.1)=false:=by rfl):PE X (.Call (.Name x p) (e::es) [] pos) (tCB r t):=by
 intro pins s O H Q I h;refine wpAny_Call_Name_kw (jX I hg hm hv ?_ hn hdb);exact PyProof.Rows.callWith_builtin1 (thn (ha pos pins s O H _ I h) fun us s1 ⟨vs,H1,I1,r1,q1⟩=>hc pins s1 O H1 vs us Q I1 r1 q1) he hpl
theorem z9H (hc:wM X (.type T) r) (hg:Gl X x) (hm:X.mg x=none) (hv:bootBuiltins x=some (.type T)) (ha:PA X (e::es) t) (hn:x≠"__name__":=by decide) (hdb:(x==("__debug__":Str))=false:=by decide) (he:starEach (e::es) X.env=(false,eval e X.env)::starEach es X.env:=by rfl) (hpl:(backTo pos (starEach es X.env)).any (·.1)=false:=by rfl):PE X (.Call (.Name x p) (e::es) [] pos) (tCB r t):=by
 intro pins s O H Q I h;refine wpAny_Call_Name_kw (jX I hg hm hv ?_ hn hdb);exact PyProof.Rows.callWith_type1 (thn (ha pos pins s O H _ I h) fun us s1 ⟨vs,H1,I1,r1,q1⟩=>hc pins s1 O H1 vs us Q I1 r1 q1) he hpl
end
end L2
namespace HT
def lexLt:List Int->List Int->Bool
 | [],[]=>false | [],_::_=>true | _::_,[]=>false | x::xs,y::ys=>if x=y then lexLt xs ys else decide (x<y)
section
open PySem.SeqAt
open PySem.AutoSeq1 (wpAny_loadPart')
open PySem.MeetsSeq PySem.MeetsSeq2 PySem.MeetsSeq3
end
section
variable {prog:Program}{w:World}{A:Around}{E:Value->Shared->Prop}{s:Shared}
theorem zdG {t b:Addr} {vs ws:List Value} {Q:Value->Shared->Prop} (ht:IsTup s.heap t vs.toArray) (hb:IsTup s.heap b ws.toArray) (hv:vs≠[]) (h1:ws=[]->Q (.ref t) s) (h2:ws≠[]->Q (.ref s.heap.objs.size) {s with heap:=s.heap.push {cls:=.type "tuple",data:=.seq (vs++ws).toArray}}) (hsz:vs.length+ws.length<=sizeLine):wpAny (model prog w) A (binaryOp .Add (.ref t) (.ref b)) Q E s:=by
 obtain ⟨⟨cls,dd,data,sl⟩,ho,hc,n,hd⟩:=id ht;obtain ⟨⟨cls2,dd2,data2,sl2⟩,ho2,hc2,n2,hd2⟩:=id hb;simp only at hc hd hc2 hd2;subst hc hd hc2 hd2;have e:vs.toArray++ws.toArray=(vs++ws).toArray:=by simp
 by_cases hw:ws=[]
 ·exact concat_meets ⟨_,ho,rfl⟩ ⟨_,ho2,rfl⟩ noFill_tuple_add seq_tuple_add PySem.F.slot_tuple_add PySem.F.entry_tuple_add (PySem.F.args_tuple_add_2 _ _) (tuple_addW1 t b vs.toArray ws.toArray n n2 dd dd2 sl sl2 (by simpa using hv) (by simp [hw])) ⟨ho,ho2,h1 hw⟩
 ·refine concat_meets ⟨_,ho,rfl⟩ ⟨_,ho2,rfl⟩ noFill_tuple_add seq_tuple_add PySem.F.slot_tuple_add PySem.F.entry_tuple_add (PySem.F.args_tuple_add_2 _ _) (tuple_addW2 t b vs.toArray ws.toArray n n2 dd dd2 sl sl2 (by simpa using hv) (by simpa using hw) (by rw [List.size_toArray,List.size_toArray];exact hsz)) ⟨ho,ho2,?_⟩;rw [e];exact h2 hw
def sIx(n d:Nat):Option Int->Nat
 | none=>d | some v=>if v<0 then (v+(n:Int)).toNat else min v.toNat n
theorem z6I(n d:Nat):sIx n d none=d:=rfl
theorem z94(n d k:Nat):sIx n d (some (k:Int))=min k n:=by
 show (if (k:Int)<0 then ((k:Int)+(n:Int)).toNat else min (k:Int).toNat n)=min k n;rw [if_neg (by omega),Int.toNat_natCast]
theorem zfd(n d:Nat)(hd:d<=n)(o:Option Int):sIx n d o<=n:=by cases o with
 | none=>exact hd | some v=>
  show (if v<0 then (v+(n:Int)).toNat else min v.toNat n)<=n;by_cases hv:v<0;·rw [if_pos hv];omega
  ·rw [if_neg hv];exact Nat.min_le_right _ _
theorem z8l(v:Int)(n d:Nat):(if v<0 then max (v+(n:Int)) 0 else min v (n:Int))=((sIx n d (some v):Nat):Int):=by
 show (if v<0 then max (v+(n:Int)) 0 else min v (n:Int))=(((if v<0 then (v+(n:Int)).toNat else min v.toNat n):Nat):Int);by_cases hv:v<0;·simp only [if_pos hv];omega
 ·simp only [if_neg hv];omega
theorem z7w(lo hi:Option Int)(n:Nat):Builtin.Slice.sliceAdjust lo hi 1 (n:Int)=(((sIx n 0 lo:Nat):Int),((sIx n n hi:Nat):Int)):=by
 have h1:¬ ((1:Int)<0):=by omega
 unfold Builtin.Slice.sliceAdjust;simp only [h1,if_false];refine Prod.ext ?_ ?_;·cases lo with
  | none=>rfl | some v=>exact z8l v n 0
 ·cases hi with
  | none=>rfl | some v=>exact z8l v n n
theorem z7N (i j:Nat):Builtin.Slice.slicePlaces (i:Int) (j:Int) 1=j-i:=by
 unfold Builtin.Slice.slicePlaces;have h1:(1:Int) > 0:=by omega
 simp only [h1,if_true,Int.ediv_one];split<;>omega
theorem z2z{v:Value}{o:Option Int}{Q:Option Int->Shared->Prop}(p:IsPart v o)(h:Q o s):wpAny (model prog w) A (Builtin.Slice.slicePartIndex v) Q E s:=by cases p with
 | none=>exact slicePart_none h | int i t=>exact slicePart_int h
theorem qc{sl:Addr}{vl vu:Value}{lo hi:Option Int}{n:Nat}{Q:Int×Int×Nat->Shared->Prop}(hs:s.heap.IsSliceOf sl vl vu .none)(pl:IsPart vl lo)(pu:IsPart vu hi) (h:Q (((sIx n 0 lo:Nat):Int),1,sIx n n hi-sIx n 0 lo) s):wpAny (model prog w) A (Builtin.Slice.sliceApplied (.ref sl) (pure (n:Int))) Q E s:=by
 obtain ⟨os,hos,hcs,hds⟩:=id hs;unfold Builtin.Slice.sliceApplied Builtin.Slice.sliceFields;refine wpAny_bind (wpAny_bind (wpAny_field hos hds (x:=vl) rfl (wpAny_bind (wpAny_field hos hds (x:=vu) rfl (wpAny_bind (wpAny_field hos hds (x:=.none) rfl (wpAny_pure ?_)))))));refine wpAny_bind (slicePart_none ?_);show wpAny _ _ (if ((1:Int)==0)=true then _ else _) _ _ s;rw [if_neg (by decide)];refine wpAny_bind (z2z pl (wpAny_bind (z2z pu (wpAny_bind (wpAny_pure ?_)))));show wpAny _ _ (match Builtin.Slice.sliceAdjust lo hi 1 (n:Int) with | (lo,hi)=>pure (lo,(1:Int),Builtin.Slice.slicePlaces lo hi 1)) _ _ s;rw [z7w lo hi n];show wpAny _ _ (pure (((sIx n 0 lo:Nat):Int),(1:Int),Builtin.Slice.slicePlaces ((sIx n 0 lo:Nat):Int) ((sIx n n hi:Nat):Int) 1)) _ _ s;rw [z7N];exact wpAny_pure h
theorem zb2(xs:Array Value)(i k:Nat):((List.range k).filterMap fun (m:Nat)=>xs[((i:Int)+(m:Int)*1).toNat]?).toArray=((xs.toList.drop i).take k).toArray:=by
 have e:(fun (m:Nat)=>xs[((i:Int)+(m:Int)*1).toNat]?)=fun m=>xs[i+m]? := by
  funext m;have:((i:Int)+(m:Int)*1).toNat=i+m:=by omega
  rw [this]
 rw [e];have:=pick_run xs i k;rw [List.filterMap_map] at this;have e2:((fun x=>xs[x]?) ∘ fun x=>i+x)=fun m=>xs[i+m]? := rfl;rw [e2] at this;rw [this]
theorem ku {t sl:Addr} {items:Array Value} {vl vu:Value} {lo hi:Option Int} {Q:Value->Shared->Prop} (ht:IsTup s.heap t items) (hs:s.heap.IsSliceOf sl vl vu .none) (pl:IsPart vl lo) (pu:IsPart vu hi) (hw:¬ (sIx items.size 0 lo=0/\sIx items.size items.size hi=items.size)) (h:Q (.ref s.heap.objs.size) {s with heap:=s.heap.push {cls:=.type "tuple",data:=.seq ((items.toList.drop (sIx items.size 0 lo)).take (sIx items.size items.size hi-sIx items.size 0 lo)).toArray}}) (hsz:items.size<=sizeLine):wpAny (model prog w) A (getItem (.ref t) (.ref sl)) Q E s:=by
 have htake:sizeOk (.seq ((items.toList.drop (sIx items.size 0 lo)).take (sIx items.size items.size hi-sIx items.size 0 lo)).toArray):=by
  show ((items.toList.drop (sIx items.size 0 lo)).take (sIx items.size items.size hi-sIx items.size 0 lo)).toArray.size<=sizeLine;rw [List.size_toArray,List.length_take,List.length_drop,Array.length_toList];omega
 have hj:sIx items.size items.size hi<=items.size:=zfd _ _ (Nat.le_refl _) hi;obtain ⟨os,hos,hcs,hds⟩:=id hs;have hTs:s.TypeIs (.ref sl) "slice":=⟨os,hos,hcs⟩;unfold getItem;try with_reducible refine wpAny_holding ?_
 first | refine wpAny_bind (wpAny_pure ?_) | skip
 refine wpAny_bind (wpAny_sequenceKey ht.typeIs (by decide) ?_);refine wpAny_bind (wpAny_callSpecial?_slot (name:=Str.ofString "__getitem__") ht.typeIs PyProof.Rows.slot_tuple_getitem (wpAny_call_entry PyProof.Rows.slot_tuple_getitem ht.typeIs entry_tuple_getitem ?_ (args_tuple_getitem _ _)));show wpAny _ _ (Builtin.Tuple.tupleItemsOf (.ref t) >>= _) _ _ s;refine wpAny_bind (tupleItemsOf_ ht ?_);refine wpAny_bind (wpAny_typeOf hTs ?_);rw [if_pos (by decide)];refine wpAny_bind (qc hs pl pu ?_);have hno:¬ ((((sIx items.size 0 lo:Nat):Int)==0&&(1:Int)==1&&(sIx items.size items.size hi-sIx items.size 0 lo)==items.size)=true):=by
  intro q;rw [Bool.and_eq_true,Bool.and_eq_true] at q;have q1:((sIx items.size 0 lo:Nat):Int)=0:=eq_of_beq q.1.1;have q2:sIx items.size items.size hi-sIx items.size 0 lo=items.size:=eq_of_beq q.2;exact hw ⟨by omega,by omega⟩
 show wpAny _ _ (if (((sIx items.size 0 lo:Nat):Int)==0&&(1:Int)==1&&(sIx items.size items.size hi-sIx items.size 0 lo)==items.size)=true then _ else _) _ _ s;rw [if_neg hno,zb2];first
  | exact wpAny_bind (m:=Builtin.Tuple.tupleExact _) (wpAny_newObj_type (wpAny_pure ⟨_,rfl,wpAny_pure h⟩) htake) | exact wpAny_bind (m:=Builtin.Tuple.tupleExact _) (wpAny_newObj_type (wpAny_bind (wpAny_pure (wpAny_pure ⟨_,rfl,wpAny_pure h⟩))) htake) | exact wpAny_bind (wpAny_bind (m:=Builtin.Tuple.tupleExact _) (wpAny_newObj_type (wpAny_pure (wpAny_pure ⟨_,rfl,wpAny_pure h⟩)) htake)) | exact wpAny_bind (wpAny_bind (m:=Builtin.Tuple.tupleExact _) (wpAny_newObj_type (wpAny_pure ⟨_,rfl,wpAny_pure h⟩) htake))
end
end HT
namespace L2
open PySem.Spec
abbrev TO:=St->Hp->(Option Int->Hp->Prop)->Prop
def PO(X:Cx)(e:Option Expr)(t:TO):Prop:= ∀ (pins:List (Addr×Obj))(s:Shared)(O:St)(H:Hp)(Q:Option Int->Hp->Prop),Inv X pins O H s->t O H Q-> wpAny (model X.prog X.w) X.A (evalPart e X.env) (fun u s'=>∃ o H',Inv X pins O H' s'/\IsPart u o/\Q o H') X.xe s
def ze3:TO:=fun _ H Q=>Q none H
def zhr(t:TE):TO:=fun O H Q=>t O H fun x H1=>∃ i,x=.int i/\Q (some i) H1
section
variable {X:Cx}{e:Expr}{te:TE}{lo hi:Option Expr}{tl th:TO}{pos p2:Pos}
theorem zdh:PO X none ze3:=by
 intro pins s O H Q I h;rw [evalPart_none];exact wpAny_pure ⟨none,H,I,.none,h⟩
theorem zdF(h:PE X e te):PO X (some e) (zhr te):=by
 intro pins s O H Q I hw;rw [evalPart_some];refine thn (h pins s O H _ I hw) fun u s1 ⟨x,H1,I1,r1,q1⟩=>?_;obtain ⟨i,rfl,q⟩:=q1;obtain ⟨t,rfl⟩:=r1;exact ⟨some i,H1,I1,.int i t,q⟩
def SlR(X:Cx)(r:V->Option Int->Option Int->Hp->VK->Prop):Prop:= ∀ (pins:List (Addr×Obj))(s:Shared)(O:St)(H:Hp)(x:V)(v vl vu:Value)(lo hi:Option Int)(sl:Addr)(Q:VK),Inv X pins O H s->yB x v->s.heap.IsSliceOf sl vl vu .none->IsPart vl lo->IsPart vu hi->r x lo hi H Q-> ∃ T id,typeLookup (.type T) "__getitem__"=pure (some (.builtin id))/\s.TypeIs v T/\wpAny (model X.prog X.w) X.A (getItem v (.ref sl)) (EP X pins O Q) X.xe s
theorem SlR.or{r r':V->Option Int->Option Int->Hp->VK->Prop}(h:SlR X r)(h':SlR X r'):SlR X (fun x lo hi H Q=>r x lo hi H Q\/r' x lo hi H Q):=by
 intro pins s O H x v vl vu lo hi sl Q I rx hs pl pu q;rcases q with q | q;·exact h pins s O H x v vl vu lo hi sl Q I rx hs pl pu q
 ·exact h' pins s O H x v vl vu lo hi sl Q I rx hs pl pu q
def tSl(r:V->Option Int->Option Int->Hp->VK->Prop)(te:TE)(tl th:TO):TE:=fun O H Q=>te O H fun x H1=>tl O H1 fun l H2=>th O H2 fun u H3=>r x l u H3 Q
theorem zaX{r:V->Option Int->Option Int->Hp->VK->Prop}(hr:SlR X r)(he:PE X e te)(hl:PO X lo tl)(hu:PO X hi th):PE X (.Subscript e (.Slice lo hi none p2) pos) (tSl r te tl th):=by
 intro pins s O H Q I h;refine Subscript_ (thn (he pins s O H _ I h) fun v s1 ⟨x,H1,I1,r1,q1⟩=>?_);refine wpAny_Slice (thn (hl pins s1 O H1 _ I1 q1) fun vl s2 ⟨l,H2,I2,pl,q2⟩=>thn (hu pins s2 O H2 _ I2 q2) fun vu s3 ⟨u,H3,I3,pu,q3⟩=>?_);rw [evalPart_none];refine wpAny_pure ?_;have I4:Inv X pins O H3 {s3 with heap:=s3.heap.push {cls:=.type "slice",data:=.fields #[vl,vu,.none]}}:=I3.kept (t':=s3.toks) fun b ob q=>Heap.get?_push_of_some _ q;obtain ⟨T,id,hT,ht,hg⟩:=hr pins {s3 with heap:=s3.heap.push {cls:=.type "slice",data:=.fields #[vl,vu,.none]}} O H3 x v vl vu l u s3.heap.objs.size Q I4 r1 (Heap.IsSliceOf.new ..) pl pu q3;show wpAny (model X.prog X.w) X.A (subscriptTail e (.Slice lo hi none p2) v (.ref s3.heap.objs.size)) (EP X pins O Q) X.xe {s3 with heap:=s3.heap.push {cls:=.type "slice",data:=.fields #[vl,vu,.none]}};exact tail_any (ops:=[.ref s3.heap.objs.size,v]) ht hT hg (by with_unfolding_all rfl)
def zbR(xs:List V)(lo hi:Option Int):List V:=(xs.drop (HT.sIx xs.length 0 lo)).take (HT.sIx xs.length xs.length hi-HT.sIx xs.length 0 lo)
theorem z0D(xs:List V)(lo hi:Option Int):(zbR xs lo hi).length<=xs.length:=by
 unfold zbR;rw [List.length_take,List.length_drop];omega
def zjv(K:W.Frag):V->Option Int->Option Int->Hp->VK->Prop:=fun x lo hi H Q=>∃ a xs,x=.ref a/\SqT K H a xs/\ ¬ (HT.sIx xs.length 0 lo=0/\HT.sIx xs.length xs.length hi=xs.length)/\∀ p,H p=none->Q (.ref p) (upd H p (.tup (zbR xs lo hi)))
theorem zf5:SlR X (zjv X.K):=by
 intro pins s O H x v vl vu lo hi sl Q I rx hs pl pu h;obtain ⟨a,xs,rfl,hx,hw,q⟩:=h;cases rx;obtain ⟨its,r,ht,hz⟩:=I.tuple hx;have hlen:its.toArray.size=xs.length:=by rw [List.size_toArray];exact r.length.symm
 refine ⟨"tuple",_,PyProof.Rows.slot_tuple_getitem.lookup,ht.typeIs,?_⟩;refine HT.ku ht hs pl pu (by rw [hlen];exact hw) ?_ (by rw [hlen];exact hz);rw [hlen];refine ⟨.ref s.heap.objs.size,_,I.laid (t':=s.toks) (o:=.tup (zbR xs lo hi)) (fun b ob q=>Heap.get?_push_of_some _ q) (Nat.le_refl _) ?_,rfl,q _ (I.hok.fresh (Nat.le_refl _))⟩;exact ⟨Nat.le_trans (z0D xs lo hi) hz,_,(r.drop (HT.sIx xs.length 0 lo)).take (HT.sIx xs.length xs.length hi-HT.sIx xs.length 0 lo),za9.new _ _⟩
def zhu(K:W.Frag):R2:=fun x y H Q=>∃ a b xs ys,x=.ref a/\y=.ref b/\SqT K H a xs/\SqT K H b ys/\xs≠[]/\xs.length+ys.length<=sizeLine/\ (ys=[]->Q (.ref a) H)/\(ys≠[]->∀ p,H p=none->Q (.ref p) (upd H p (.tup (xs++ys))))
theorem xb.nil_iff{xs:List V}{us:List Value}(r:xb xs us):us=[] ↔ xs=[]:=by cases r with
 | nil=>simp | cons _ _=>simp
theorem zd8:OpR X (binaryOp .Add) (zhu X.K):=by
 intro pins s O H x y v u Q I rx ry h;obtain ⟨a,b,xs,ys,rfl,rfl,ha,hb,hx,hz,q1,q2⟩:=h;cases rx;cases ry;obtain ⟨its,r1,p1,_⟩:=I.tuple ha;obtain ⟨its2,r2,p2,_⟩:=I.tuple hb;refine HT.zdG p1 p2 (fun z=>hx (r1.nil_iff.mp z)) (fun z=>⟨.ref a,H,I,rfl,q1 (r2.nil_iff.mp z)⟩) (fun z=>?_) (by rw [<- r1.length,<- r2.length];exact hz);refine ⟨.ref s.heap.objs.size,_,I.laid (t':=s.toks) (o:=.tup (xs++ys)) (fun b ob q=>Heap.get?_push_of_some _ q) (Nat.le_refl _) ?_,rfl,q2 (fun w=>z (r2.nil_iff.mpr w)) _ (I.hok.fresh (Nat.le_refl _))⟩;exact ⟨by rw [List.length_append];exact hz,_,r1.append r2,za9.new _ _⟩
end
def ixN(n:Nat)(i:Int):Option Nat:=if 0<=i then (if i<n then some i.toNat else none) else if -(n:Int)<=i then some (i+n).toNat else none
def atI{α:Type}(xs:List α)(i:Int):Option α:=(ixN xs.length i).bind fun j=>xs[j]?
theorem z8F{n:Nat}{i:Int}{j:Nat}(h:ixN n i=some j):seqIndex? i n=some j/\j<n/\-(n:Int)<=i/\i<n:=by
 unfold ixN at h;by_cases h0:0<=i
 ·rw [if_pos h0] at h;by_cases h1:i<n
  ·rw [if_pos h1] at h;have e:i.toNat=j:=Option.some.inj h;exact ⟨by rw [seqIndex_of h0 h1,e],by omega,by omega,h1⟩
  ·rw [if_neg h1] at h;cases h
 ·rw [if_neg h0] at h;by_cases h1:-(n:Int)<=i
  ·rw [if_pos h1] at h;have e:(i+n).toNat=j:=Option.some.inj h;exact ⟨by rw [seqIndex_neg (by omega) h1,e],by omega,h1,by omega⟩
  ·rw [if_neg h1] at h;cases h
theorem z8t{α:Type}{xs:List α}{i:Int}{v:α}(h:atI xs i=some v):∃ j,seqIndex? i xs.length=some j/\xs[j]? = some v/\j<xs.length/\-(xs.length:Int)<=i/\i<xs.length:=by
 unfold atI at h;cases e:ixN xs.length i with
 | none=>rw [e] at h;cases h | some j=>
  rw [e] at h;obtain ⟨h1,h2,h3,h4⟩:=z8F e;exact ⟨j,h1,h,h2,h3,h4⟩
def z5X(b:Expr):Prop:=∀ o i,subscripted b false o i=operate [o,i] (getItem o i)
def IxR(X:Cx)(r:R2):Prop:= ∀ (value slice:Expr)(pins:List (Addr×Obj))(s:Shared)(O:St)(H:Hp)(x y:V)(v u:Value)(Q:VK),Inv X pins O H s->yB x v->yB y u->r x y H Q-> subscripted slice false v u=operate [v,u] (getItem v u)->wpAny (model X.prog X.w) X.A (subscriptTail value slice v u) (EP X pins O Q) X.xe s
def MtR (X:Cx) (id:String) (r:V->List V->Hp->VK->Prop):Prop:= ∀ (pins:List (Addr×Obj)) (s:Shared) (O:St) (H:Hp) (x:V) (xs:List V) (v:Value) (us:List Value) (Q:VK),Inv X pins O H s->yB x v->xb xs us->r x xs H Q-> wpAny (model X.prog X.w) X.A (call (.builtin id) (v::us)) (EP X pins O Q) X.xe s
section
variable {X:Cx}{a b:Expr}{ta tb:TE}{pos:Pos}
theorem IxR.or{r r':R2}(h:IxR X r)(h':IxR X r'):IxR X (fun x y H Q=>r x y H Q\/r' x y H Q):=by
 intro value slice pins s O H x y v u Q I rx ry q hs;rcases q with q | q;·exact h value slice pins s O H x y v u Q I rx ry q hs
 ·exact h' value slice pins s O H x y v u Q I rx ry q hs
theorem zfa{r:R2}(hr:IxR X r)(ha:PE X a ta)(hb:PE X b tb)(hs:z5X b):PE X (.Subscript a b pos) (tOp r ta tb):=by
 intro pins s O H Q I h;exact Subscript_ (zie ha hb I h fun v u s2 x y H2 I2 rx ry q=>hr a b pins s2 O H2 x y v u Q I2 rx ry q (hs _ _))
def zjs(K:W.Frag):R2:=fun x y H Q=>∃ p xs i v,x=.ref p/\y=.int i/\SqL K H p xs/\atI xs i=some v/\Q v H
def zj3(K:W.Frag):R2:=fun x y H Q=>∃ p xs i v,x=.ref p/\y=.int i/\SqT K H p xs/\atI xs i=some v/\Q v H
theorem zdi:IxR X (zjs X.K):=by
 intro value slice pins s O H x y v u Q I rx ry h hs;obtain ⟨p,xs,i,z,rfl,rfl,hq,he,q⟩:=h;cases rx;obtain ⟨t,rfl⟩:=ry;obtain ⟨its,r,pl,hz⟩:=I.list hq;obtain ⟨j,h1,h2,h3,h4,h5⟩:=z8t he;obtain ⟨w,ew,rw'⟩:=r.get h2;have hl:=r.length;have hn:=z4u;have fin:EP X pins O Q w s:=⟨z,H,I,rw',q⟩;by_cases h0:0<=i
 ·have hj:i.toNat=j:=by
   rw [seqIndex_of h0 h5] at h1;exact Option.some.inj h1
  exact item_listR pl.isList h0 (by omega) (by rw [hj];simpa using ew) fin hs
 ·have hj:(i+(its.toArray.size:Int)).toNat=j:=by
   rw [seqIndex_neg (by omega) h4] at h1;rw [List.size_toArray,<- hl];exact Option.some.inj h1
  exact subscriptTail_builtinR (x:=w) pl.isList.typeIs slot_list_getitem.lookup (wpAny_getItem_list_neg (Q:=fun r s'=>r=w/\EP X pins O Q r s') pl.isList (by omega) (by rw [List.size_toArray]<;>omega) (by omega) (by rw [hj];simpa using ew) ⟨rfl,fin⟩) hs
theorem zfB:IxR X (zj3 X.K):=by
 intro value slice pins s O H x y v u Q I rx ry h hs;obtain ⟨p,xs,i,z,rfl,rfl,hq,he,q⟩:=h;cases rx;obtain ⟨t,rfl⟩:=ry;obtain ⟨its,r,pl,hz⟩:=I.tuple hq;obtain ⟨j,h1,h2,h3,h4,h5⟩:=z8t he;obtain ⟨w,ew,rw'⟩:=r.get h2;have hl:=r.length;have hn:=z4u;have fin:EP X pins O Q w s:=⟨z,H,I,rw',q⟩;exact subscriptTail_builtinR (x:=w) pl.typeIs slot_tuple_getitem.lookup (getItem_tuple (j:=j) (Q:=fun r s'=>r=w/\EP X pins O Q r s') pl (by omega) (by omega) (by rw [List.size_toArray,<- hl];exact h1) (by simpa using ew) ⟨rfl,fin⟩) hs
theorem z7u (its:List Value) (n j:Nat) (u:Value):Obj.mapSeq (·.setIfInBounds j u) {cls:=.type "list",data:=.seq its.toArray n}={cls:=.type "list",data:=.seq (its.set j u).toArray n}:=by simp [Obj.mapSeq]
theorem Inv.lst{pins:List (Addr×Obj)}{O:St}{H:Hp}{s:Shared}{p:Addr}{xs:List V}(I:Inv X pins O H s)(h:H p=some (.lst xs)): ∃ (its:List Value)(n:Nat),xb xs its/\s.heap.get? p=some {cls:=.type "list",data:=.seq its.toArray n}/\xs.length<=sizeLine:=by
 obtain ⟨z,its,n,r,e⟩:=I.hok p _ h;exact ⟨its,n,r,e,z⟩
theorem Inv.lstUpd {pins:List (Addr×Obj)} {O:St} {H:Hp} {s:Shared} {p:Addr} {xs ys:List V} {its its':List Value} {n n':Nat} {f:Obj->Obj} (I:Inv X pins O H s) (h:H p=some (.lst xs)) (ho:s.heap.get? p=some {cls:=.type "list",data:=.seq its.toArray n}) (hf:f {cls:=.type "list",data:=.seq its.toArray n}={cls:=.type "list",data:=.seq its'.toArray n'}) (r:xb ys its') (hz:ys.length<=sizeLine) (t:Nat): Inv X pins O (upd H p (.lst ys)) {s with heap:=s.heap.update p f,toks:=t}:=by
 have e:(s.heap.update p f).get? p=some {cls:=.type "list",data:=.seq its'.toArray n'}:=by rw [Heap.get?_update_self f ho (by rw [hf]<;>rfl),hf]
 refine I.write (x:=p) (e:=p) (by rw [h];trivial) (.inl rfl) (fun b u hb q=>(Heap.get?_update_other _ _ (Ne.symm hb)).trans q) ⟨_,e⟩ ?_;exact ⟨hz,its',n',r,e⟩
def zhb:V->V->V->Hp->(Hp->Prop)->Prop:=fun o i v H Q=>∃ p xs k j,o=.ref p/\i=.int k/\H p=some (.lst xs)/\ixN xs.length k=some j/\Q (upd H p (.lst (xs.set j v)))
theorem set_list:ziR X zhb:=by
 intro pins s O H o i v ov iv u Q I ro ri rv h;obtain ⟨p,xs,k,j,rfl,rfl,hp,hj,q⟩:=h;cases ro;obtain ⟨t,rfl⟩:=ri;obtain ⟨its,n,r,ho,hz⟩:=I.lst hp;obtain ⟨h1,h2,h3,h4⟩:=z8F hj;have hl:=r.length;have hn:=z4u;have I':Inv X pins O (upd H p (.lst (xs.set j v))) {s with heap:=s.heap.update p (Obj.mapSeq (·.setIfInBounds j u))}:= I.lstUpd hp ho (z7u its n j u) (r.set rv j) (by rw [List.length_set];exact hz) s.toks;by_cases h0:0<=k
 ·have hk:k.toNat=j:=by
   rw [seqIndex_of h0 h4] at h1;exact Option.some.inj h1
  exact W.ki_setAt ho h0 (by omega) (by rw [List.size_toArray,<- hl];exact h4) (by rw [hk];exact ⟨_,I',q⟩)
 ·have hk:(k+(its.toArray.size:Int)).toNat=j:=by
   rw [seqIndex_neg (by omega) h3] at h1;rw [List.size_toArray,<- hl];exact Option.some.inj h1
  exact W.ki_setBack ho (by omega) (by rw [List.size_toArray,<- hl];exact h3) (by omega) (by rw [hk];exact ⟨_,I',q⟩)
theorem z4L(lo hi:Option Int)(n:Nat):(sliceBounds lo hi none n).1=((HT.sIx n 0 lo:Nat):Int)/\(sliceBounds lo hi none n).2.1=((HT.sIx n n hi:Nat):Int)/\(sliceBounds lo hi none n).2.2=1:=by
 refine ⟨?_,?_,rfl⟩;·cases lo with
  | none=>simp [sliceBounds,HT.sIx] | some i=>
   simp only [sliceBounds,HT.sIx,Option.getD_none,show (1:Int) > 0 by decide,if_true];by_cases h:i<0;·simp only [h,if_true]<;>omega
   ·simp only [h,if_false]<;>omega
 ·cases hi with
  | none=>simp [sliceBounds,HT.sIx] | some i=>
   simp only [sliceBounds,HT.sIx,Option.getD_none,show (1:Int) > 0 by decide,if_true];by_cases h:i<0;·simp only [h,if_true]<;>omega
   ·simp only [h,if_false]<;>omega
theorem z2T(its:List Value)(lo hi:Option Int):slicePick its.toArray lo hi none=((its.drop (HT.sIx its.length 0 lo)).take (HT.sIx its.length its.length hi-HT.sIx its.length 0 lo)).toArray:=by
 obtain ⟨h1,h2,h3⟩:=z4L lo hi its.toArray.size;unfold slicePick;rw [h1,h2,h3];simp only [sliceRange_one,pick_run,List.size_toArray]<;>rfl
def zjh(K:W.Frag):V->Option Int->Option Int->Hp->VK->Prop:=fun x lo hi H Q=>∃ a xs,x=.ref a/\SqL K H a xs/\∀ p,H p=none->Q (.ref p) (upd H p (.lst (zbR xs lo hi)))
theorem zcH:SlR X (zjh X.K):=by
 intro pins s O H x v vl vu lo hi sl Q I rx hs pl pu h;obtain ⟨a,xs,rfl,hx,q⟩:=h;cases rx;obtain ⟨its,r,ht,hz⟩:=I.list hx;have hlen:=r.length;refine ⟨"list",_,slot_list_getitem.lookup,ht.isList.typeIs,?_⟩;refine wpAny_getItem_list_slice ht.isList hs pl pu .none (by simp) ?_ (by rw [List.size_toArray]<;>omega);rw [z2T,<- hlen];refine ⟨.ref s.heap.objs.size,_,I.laid (t':=s.toks) (o:=.lst (zbR xs lo hi)) (fun b ob q=>Heap.get?_push_of_some _ q) (Nat.le_refl _) ?_,rfl,q _ (I.hok.fresh (Nat.le_refl _))⟩;exact ⟨Nat.le_trans (z0D xs lo hi) hz,_,0,(r.drop (HT.sIx xs.length 0 lo)).take (HT.sIx xs.length xs.length hi-HT.sIx xs.length 0 lo),Heap.get?_push_size _ rfl⟩
def z1N:V->Bool
 | .non=>true | .bl _=>true | .int _=>true | .str _=>true | _=>false
def eqV:V->V->Bool
 | .non,.non=>true | .bl a,.bl b=>a==b | .bl a,.int b=>(if a then 1 else 0)==b | .int a,.bl b=>a==(if b then 1 else 0) | .int a,.int b=>a==b | .str a,.str b=>a==b | _,_=>false
theorem zf8{A:Around}{s:Shared}{y x:V}{u v:Value}(ry:yB y u)(rx:yB x v)(fy:z1N y=true)(fx:z1N x=true):SeqAt.EqAt A s u v (eqV y x):=by cases y with
 | non=>
  cases ry;cases x with
  | non=>cases rx;exact SeqAt.EqAt.same _ | bl b=>cases rx;exact SeqAt.EqAt.none_bool b | int b=>obtain ⟨t,rfl⟩:=rx;exact SeqAt.EqAt.none_int b t | str b=>obtain ⟨t,rfl⟩:=rx;exact SeqAt.EqAt.none_str b t | _=>exact absurd (show false=true from fx) Bool.false_ne_true
 | bl a=>
  cases ry;cases x with
  | non=>cases rx;exact SeqAt.EqAt.bool_none a | bl b=>cases rx;exact SeqAt.EqAt.bool_bool a b | int b=>obtain ⟨t,rfl⟩:=rx;exact SeqAt.EqAt.bool_int a b t | str b=>obtain ⟨t,rfl⟩:=rx;exact SeqAt.EqAt.bool_str a b t | _=>exact absurd (show false=true from fx) Bool.false_ne_true
 | int a=>
  obtain ⟨t',rfl⟩:=ry;cases x with
  | non=>cases rx;exact SeqAt.EqAt.int_none a t' | bl b=>cases rx;exact SeqAt.EqAt.int_bool a t' b | int b=>obtain ⟨t,rfl⟩:=rx;exact SeqAt.EqAt.int_int a t' b t | str b=>obtain ⟨t,rfl⟩:=rx;exact SeqAt.EqAt.int_str a t' b t | _=>exact absurd (show false=true from fx) Bool.false_ne_true
 | str a=>
  obtain ⟨t',rfl⟩:=ry;cases x with
  | non=>cases rx;exact SeqAt.EqAt.str_none a t' | bl b=>cases rx;exact SeqAt.EqAt.str_bool a t' b | int b=>obtain ⟨t,rfl⟩:=rx;exact SeqAt.EqAt.str_int a t' b t | str b=>obtain ⟨t,rfl⟩:=rx;exact SeqAt.EqAt.str_str a t' b t | _=>exact absurd (show false=true from fx) Bool.false_ne_true
 | _=>exact absurd (show false=true from fy) Bool.false_ne_true
def eqU(x:V)(u:Value):Bool:=match u with
 | .none=>eqV .non x | .bool b=>eqV (.bl b) x | .int i _=>eqV (.int i) x | .str z _=>eqV (.str z) x | _=>false
theorem zbU{x y:V}{u:Value}(r:yB y u)(f:z1N y=true):eqU x u=eqV y x:=by cases y with
 | non=>cases r;rfl | bl b=>cases r;rfl | int i=>obtain ⟨t,rfl⟩:=r;rfl | str z=>obtain ⟨t,rfl⟩:=r;rfl | _=>exact absurd (show false=true from f) Bool.false_ne_true
theorem z5T{x:V}:∀ {xs:List V}{us:List Value},xb xs us->xs.all z1N=true->us.any (eqU x)=xs.any fun y=>eqV y x
 | _,_,.nil,_=>rfl | y::xs,u::us,.cons r t,f=>by
  rw [List.all_cons,Bool.and_eq_true] at f;rw [List.any_cons,List.any_cons,zbU r f.1,z5T t f.2]
theorem z2U{A:Around}{s:Shared}{x:V}{v:Value}(rx:yB x v)(fx:z1N x=true):∀ {xs:List V}{us:List Value},xb xs us->xs.all z1N=true->∀ u∈us,SeqAt.EqAt A s u v (eqU x u)
 | _,_,.nil,_=>fun u hu=>by cases hu | y::xs,u::us,.cons r t,f=>fun u' hu=>by
  rw [List.all_cons,Bool.and_eq_true] at f;rcases List.mem_cons.mp hu with rfl | hu;·rw [zbU r f.1];exact zf8 r rx f.1 fx
  ·exact z2U rx fx t f.2 u' hu
def inV(x:V)(xs:List V):Bool:=xs.any fun y=>eqV y x
def rIn(K:W.Frag)(neg:Bool):R2:=fun x y H Q=>∃ p xs,y=.ref p/\(SqL K H p xs\/SqT K H p xs)/\z1N x=true/\xs.all z1N=true/\Q (.bl (if neg then !inV x xs else inV x xs)) H
theorem z9N:OpR X (compareOp .In) (rIn X.K false):=by
 intro pins s O H x y v u Q I rx ry h;obtain ⟨p,xs,rfl,hq,fx,fs,q⟩:=h;cases ry;rcases hq with hq | hq
 ·obtain ⟨its,r,pl,hz⟩:=I.list hq;refine SeqAt.in_listAt (eqU x) pl.isList (fun w hw=>z2U rx fx r fs w (by simpa using hw)) ⟨.bl _,H,I,rfl,?_⟩;rw [show its.toArray.any (eqU x)=its.any (eqU x) by simp,z5T r fs];exact q
 ·obtain ⟨its,r,pl,hz⟩:=I.tuple hq;refine SeqAt.in_tupleAt (eqU x) pl (fun w hw=>z2U rx fx r fs w (by simpa using hw)) ⟨.bl _,H,I,rfl,?_⟩;rw [show its.toArray.any (eqU x)=its.any (eqU x) by simp,z5T r fs];exact q
theorem z4q:wM X (.builtin "len") (fun xs H Q=>∃ p ys,xs=[.ref p]/\(SqL X.K H p ys\/SqT X.K H p ys)/\Q (.int ys.length) H):=by
 intro pins s O H xs us Q I r h;obtain ⟨p,ys,rfl,hq,q⟩:=h;obtain ⟨u,rfl,rx⟩:=vals1 r;cases rx;have hn:=z4u;rcases hq with hq | hq
 ·obtain ⟨its,r',pl,hz⟩:=I.list hq;have hlen:=r'.length;exact Calls.call_len_list pl.isList (by simp only [List.size_toArray]<;>omega) ⟨.int ys.length,H,I.tok _,⟨s.toks+1,by rw [List.size_toArray,hlen]⟩,q⟩
 ·obtain ⟨its,r',pl,hz⟩:=I.tuple hq;have hlen:=r'.length;exact len_tuple pl (by simp only [List.size_toArray]<;>omega) ⟨.int ys.length,H,I.tok _,⟨s.toks+1,by rw [List.size_toArray,hlen]⟩,q⟩
theorem z3z:wM X (.type "tuple") (fun xs H Q=>∃ p ys,xs=[.ref p]/\((SqL X.K H p ys/\∀ l,H l=none->Q (.ref l) (upd H l (.tup ys)))\/(SqT X.K H p ys/\Q (.ref p) H))):=by
 intro pins s O H xs us Q I r h;obtain ⟨p,ys,rfl,h⟩:=h;obtain ⟨u,rfl,rx⟩:=vals1 r;cases rx;rcases h with ⟨hq,q⟩ | ⟨hq,q⟩
 ·obtain ⟨its,r',pl,hz⟩:=I.list hq;have hlen:=r'.length;refine call_tuple_list pl.isList (fun h' kp=>?_) (by simp only [List.size_toArray]<;>omega);have I1:Inv X pins O H {s with heap:=h'}:=I.kept (t':=s.toks) kp;have I2:Inv X pins O (upd H h'.objs.size (.tup ys)) {s with heap:=h'.push {cls:=.type "tuple",data:=.seq its.toArray}}:= I1.laid (t':=s.toks) (fun b o e=>Heap.get?_push_of_some _ e) (Nat.le_refl _) (show xx X.prog X.w _ _ _ (.tup ys) from ⟨hz,its,r',za9.new _ _⟩);exact ⟨.ref h'.objs.size,_,I2,rfl,q _ (I1.hok.fresh (Nat.le_refl _))⟩
 ·obtain ⟨its,r',pl,hz⟩:=I.tuple hq;exact call_tuple_same pl ⟨.ref p,H,I,rfl,q⟩
def tyV(K:W.Frag)(T:String)(x:V)(H:Hp):Prop:=match x with
 | .str _=>T="str" | .int _=>T="int" | .ref p=>(T="list"/\∃ xs,SqL K H p xs)\/(T="tuple"/\∃ o,K.lookup p=some o/\o.cls=.type "tuple"/\o.dict=none)\/ (T="dict"/\((∃ kvs,H p=some (.dK kvs))\/∃ kvs,H p=some (.dT kvs)))\/(T="set"/\∃ S n,H p=some (.set S n)) | _=>False
theorem zeW{pins:List (Addr×Obj)}{O:St}{H:Hp}{s:Shared}{T:String}{x:V}{v:Value}(I:Inv X pins O H s)(r:yB x v)(ty:tyV X.K T x H): s.TypeIs v T/\∀ a,v=.ref a->∃ ob,s.heap.get? a=some ob/\ob.dict=none:=by cases x with
 | str z=>
  obtain ⟨t,rfl⟩:=r;cases (show T="str" from ty);exact ⟨typeIs_str s z t,fun _ e=>nomatch e⟩ | int i=>
  obtain ⟨t,rfl⟩:=r;cases (show T="int" from ty);exact ⟨typeIs_int s i t,fun _ e=>nomatch e⟩ | ref p=>
  cases r;rcases ty with ⟨rfl,xs,hq⟩ | ⟨rfl,o,hk,hc,hd⟩ | ⟨rfl,hk⟩ | ⟨rfl,S,n,hk⟩
  ·obtain ⟨its,_,pl,_⟩:=I.list hq;refine ⟨pl.isList.typeIs,fun a e=>?_⟩;cases e;obtain ⟨o,n,e,c,hd,_⟩:=pl;exact ⟨o,e,hd⟩
  ·refine ⟨⟨o,I.kIn p o hk,hc⟩,fun a e=>?_⟩;cases e;exact ⟨o,I.kIn _ o hk,hd⟩
  ·have z:∃ o,s.heap.get? p=some o/\o.ExactDict:=by
    rcases hk with ⟨kvs,hk⟩ | ⟨kvs,hk⟩
    ·obtain ⟨_,_,_,_,o,_,_,e,ex,_⟩:=I.hok p _ hk;exact ⟨o,e,ex⟩
    ·obtain ⟨_,_,_,_,o,_,_,e,ex,_⟩:=I.hok p _ hk;exact ⟨o,e,ex⟩
   obtain ⟨o,e,ex⟩:=z;refine ⟨⟨o,e,ex.1⟩,fun a e2=>?_⟩;cases e2;exact ⟨o,e,ex.2.1⟩
  ·obtain ⟨o,_,_,_,e,ex,_⟩:=I.hok p _ hk;refine ⟨⟨o,e,ex.1⟩,fun a e2=>?_⟩;cases e2;exact ⟨o,e,ex.2.1⟩ | _=>exact False.elim ty
def tBM(K:W.Frag)(T:String)(r:V->List V->Hp->VK->Prop)(to:TE)(t:TA):TE:=fun O H Q=>to O H fun x H1=>tyV K T x H1/\t O H1 fun xs H2=>r x xs H2 Q
variable {o e:Expr}{es:List Expr}{to:TE}{t:TA}{name:Str}{apos cpos:Pos}{T id:String}{r:V->List V->Hp->VK->Prop}
theorem zg6 (pa:PlainAttrs T) (slot:Slot T name id) (hty:typeOf (.builtin id)=pure (.type "method_descriptor")) (hm:MtR X id r) (ho:PE X o to) (ha:PA X (e::es) t) (hbase:attributeBase o name X.env (eval o X.env)=eval o X.env:=by rfl) (hfew:((backTo cpos (starEach (e::es) X.env)).all (fun x=>!x.1)&&(backToKw cpos (keywordEach [] X.env)).all (fun x=>x.1.isSome) && decide ((e::es).length+([]:List Keyword).length+(if ([]:List Keyword).isEmpty then 0 else 1)<30))=true:=by rfl) (hline:(apos.endLine==cpos.line)=true:=by rfl) (hs:starEach (e::es) X.env=(false,eval e X.env)::starEach es X.env:=by rfl) (hplain:(backTo cpos (starEach es X.env)).any (·.1)=false:=by rfl): PE X (.Call (.Attribute o name apos) (e::es) [] cpos) (tBM X.K T r to t):=by
 intro pins s O H Q I h;refine wpAny_Call_method_late hbase hfew hline rfl (thn (ho pins s O H _ I h) fun v s1 ⟨x,H1,I1,r1,ty,q1⟩=>?_);obtain ⟨h1,h2⟩:=zeW I1 r1 ty;refine ⟨T,id,pa,slot,hty,h1,h2,?_⟩;have hA:=ha cpos pins s1 O H1 _ I1 q1;rw [hs] at hA ⊢;refine Calls.callWith_builtin (by show (false||(backTo cpos (starEach es X.env)).any (·.1))=false;rw [hplain]<;>rfl) (Calls.evalArgs_plain ?_);exact thn hA fun us s2 ⟨vs,H2,I2,r2,q2⟩=>hm pins s2 O H2 x vs v us Q I2 r1 r2 q2
end
def MtM (X:Cx) (id:String) (r:V->List V->Hp->VK->Prop):Prop:= ∀ (pins:List (Addr×Obj)) (s:Shared) (O:St) (H:Hp) (x:V) (xs:List V) (v:Value) (us:List Value) (Q:VK),Inv X pins O H s->yB x v->xb xs us->r x xs H Q-> wpAny (model X.prog X.w) X.A (call (.builtin id) (v::us)) (EP X pins O Q) X.xe s
theorem xb.one:∀ {x:V}{us:List Value},xb [x] us->∃ u,us=[u]/\yB x u | _,_,.cons r .nil=>⟨_,rfl,r⟩
section
variable {X:Cx}{pins:List (Addr×Obj)}{O:St}{H:Hp}{s:Shared}{l b:Addr}{xs ys zs:List V}
theorem Inv.lset {its its':List Value} {n:Nat} {f:Array Value->Array Value} {t':Nat} (I:Inv X pins O H s) (hH:H l=some (.lst xs)) (e:s.heap.get? l=some {cls:=.type "list",data:=.seq its.toArray n}) (hf:f its.toArray=its'.toArray) (hv:xb ys its') (hz:ys.length<=sizeLine): Inv X pins O (upd H l (.lst ys)) {s with heap:=s.heap.update l (Obj.mapSeq f),toks:=t'}:=by
 have q:=PySem.IsL.update e f;rw [hf] at q;refine I.write (x:=l) (e:=l) (by rw [hH];exact trivial) (.inl rfl) (fun b' u hb hu=>(Heap.get?_update_other s.heap (Obj.mapSeq f) (Ne.symm hb)).trans hu) ⟨_,q⟩ ?_;exact ⟨hz,its',_,hv,q⟩
theorem Inv.lnew {its:List Value} {t':Nat} (I:Inv X pins O H s) (hv:xb ys its) (hz:ys.length<=sizeLine): Inv X pins O (upd H s.heap.objs.size (.lst ys)) {s with heap:=s.heap.push {cls:=.type "list",data:=.seq its.toArray},toks:=t'}:= I.laid (fun _ _ q=>Heap.get?_push_of_some _ q) (Nat.le_refl _) ⟨hz,its,0,hv,Heap.get?_push_size _ rfl⟩
theorem Inv.fresh(I:Inv X pins O H s):H s.heap.objs.size=none:=I.hok.fresh (Nat.le_refl _)
theorem Inv.lstM(I:Inv X pins O H s)(hH:H l=some (.lst xs)):xs.length<=sizeLine/\∃ (its:List Value)(n:Nat),xb xs its/\xs.length=its.length/\s.heap.get? l=some {cls:=.type "list",data:=.seq its.toArray n}:=by
 obtain ⟨z,its,n,r,e⟩:=I.hok l _ hH;exact ⟨z,its,n,r,r.length,e⟩
end
section
variable {X:Cx}
def zdB:V->List V->Hp->VK->Prop:=fun x vs H Q=>∃ l xs y,x=.ref l/\vs=[y]/\H l=some (.lst xs)/\xs.length<sizeLine/\Q .non (upd H l (.lst (xs++[y])))
theorem z9k:MtM X "list.append" zdB:=by
 intro pins s O H x vs v us Q I rx rv h;obtain ⟨l,xs,y,rfl,rfl,hH,hz,q⟩:=h;cases rx;obtain ⟨u,rfl,ru⟩:=rv.one;obtain ⟨z,its,n,r,hl,e⟩:=I.lstM hH;refine call_meets F.slot_list_append ⟨_,e,rfl⟩ F.entry_list_append (F.args_list_append_2 _ _) (PySem.list_append l its.toArray n u (by rw [List.size_toArray];omega)) ⟨e,?_⟩;refine ⟨.non,_,I.lset (its':=its++[u]) hH e (by simp) (r.append (.cons ru .nil)) ?_,rfl,q⟩;rw [List.length_append,List.length_singleton];omega
end
end L2
namespace Att
open PySem.W PySem.Calls
theorem z1e{P:Params}{h:Heap}:∀ (ns:List Int)(vs:List Value),WellAll P h vs (ns.map WData.int)->IntsAre vs ns:=by
 intro ns;induction ns with
 | nil=>
  intro vs w;rw [List.map_nil] at w;cases w;exact .nil | cons n ns ih=>
  intro vs w;rw [List.map_cons] at w;cases w with | cons a b=>
   cases a;exact .cons _ _ (ih _ b)
theorem za1 {l:OpenLaw} {n:Nat} (hn:l.most=some n) {P:Params} {h:Heap} {args:List WData} {vals:List Value} (hpre:l.row.toRowW.claim.pre args=true) (hwl:WellAll P h vals args): ∃ a vs ns,vals=[Value.ref a]/\args=[WData.list (ns.map WData.int)]/\h.get? a=some {cls:=.type "list",data:=.seq vs.toArray}/\IntsAre vs ns/\ns.length<=n:=by
 have hsh:WShape.hasAll [] args [.list .int]=true:=(pre_splitW hpre).1;have hc:l.pre.holds [] {args:=args}=true:=(pre_splitW hpre).2;obtain ⟨d,r,rfl,h1,h2⟩:=hasAllW_cons hsh;obtain rfl:=hasAllW_nil h2;obtain ⟨xs,rfl,h3⟩:=hasW_list h1;obtain ⟨ns,rfl⟩:=items_int h3;have hlen:ns.length<=n:=by
  unfold OpenLaw.pre at hc;have h4:(WTm.not (.lt (.lit (.int (n:Int))) (.len (.arg 0)))).holds [] {args:=[.list (ns.map .int)]}=true:=by
   have h4:=(holds_andW hc).1;rw [hn] at h4;exact h4
  have h5:=condW_of h4 (w_not (w_lt w_lit (w_len_list (w_arg rfl))));rw [List.length_map] at h5;refine Nat.le_of_not_lt fun q=>?_;have q':(n:Int)<((ns.length:Nat):Int):=by omega
  first
   | (rw [decide_eq_true q'] at h5;exact absurd h5 (by decide)) | (simp at h5;omega)
 cases hwl with | cons w1 w2=>
  cases w2;cases w1 with | list ho hall=>exact ⟨_,_,ns,rfl,rfl,ho,z1e ns _ hall,hlen⟩
theorem z9l (l:OpenLaw) (args:List WData):l.row.toRowW.claim.post args (.bool true) args=true:= postW_of (r:=l.row.toRowW) (X:=(true==true)) (show WShape.has [] (.bool true) .bool=true by first | rfl | decide | simp [WShape.has,WShape.arms,WShape.armsAll]) (show (WTm.eq .res (.lit (.bool true))).value [] {args:=args,res:=some (.bool true),after:=args}=some (.bool (true==true)) from w_eq_bool (w_res rfl) w_lit) rfl
theorem z0P{l:OpenLaw}{n:Nat}{q:Program}{loose:List Str}{XP:(Str->Option Value)->Heap->Prop}{YP:World->Heap->Prop}{d:DefRec} (hn:l.most=some n)(hdf:d.params.defaults=[]) (call:∀ (w:World)(s₀ s₁:Shared)(mg mb:Str->Option Value)(fa:Addr)(o:Obj)(pm cd doc:Value)(a:Addr)(vs:List Value)(ns:List Int), Ground q loose [] XP w s₀ mg mb s₁.heap->YP w s₁.heap-> s₁.heap.get? fa=some o->o.data=.func (docDef d.name d.params d.body d.scope pm cd doc)->s₁.heap.CodeRec cd d.name->mg d.name=some (.ref fa)-> s₁.heap.get? a=some {cls:=.type "list",data:=.seq vs.toArray}->IntsAre vs ns->ns.length<=n->s₁.gens=#[]-> codeAny (model l.prog w) callerA (.call (.ref fa) ⟨[.ref a],[]⟩) (fun r s'=>r=.ok (.ret (.bool true))/\OldK s₁.heap s'.heap/\s'.os=s₁.os/\AllBare s'.gens) s₁): WalkO q loose XP YP l.row.toRowW d [] (fun f vs=>PySem.call f vs):=by
 intro w s₀ s₁ mg mb G Yy fa o pm cd doc dV kV ho hd hcd hD hmg hg args vals as hpre hlay hrd hwl hlo;obtain rfl:dV=.none:=Dflts.none hD hdf;obtain rfl:kV=.none:=Dflts.noKw hD;obtain ⟨a,vs,ns,rfl,rfl,hobj,hints,hlen⟩:=za1 hn hpre hwl;refine enter_call (codeAny_mono (call w s₀ s₁ mg mb fa o pm cd doc a vs ns G Yy ho (fd_plain hd) hcd hmg hobj hints hlen hg) fun r s' hq=>?_);obtain ⟨rfl,h2,h3,h4⟩:=hq;exact ⟨.inl ⟨.bool true,.bool true,[],rfl,fun _=>rfl,.bool true,z9l l _,fun _=>⟨List.Pairwise.nil,fun _ hm=>(nomatch hm)⟩⟩,h2,h3,h4⟩
section
variable {prog:Program}{w:World}{A:Around}{E:Value->Shared->Prop}{s:Shared}{K:Frag}
def z9P(h:Heap):Heap:={h with objs:=#[]}
theorem z86(h:Heap)(b:Addr):(z9P h).get? b=none:=by cases e:(z9P h).get? b with
 | none=>rfl | some o=>exact absurd (Heap.lt_size e) (Nat.not_lt_zero _)
def ledger(h:Heap)(L d:Addr):List (Addr×Obj):=(List.range h.objs.size).filterMap fun a=>if a=L\/a=d then none else (h.get? a).map fun o=>(a,o)
theorem zck{h:Heap}{L:Addr}{m:Str->Option Value}(n:h.Ns L m):Fr (z9P h) L h m:= ⟨n,fun b o e=>(by rw [z86] at e;cases e),Nat.zero_le _⟩
end
end Att
namespace L2
open PySem.Spec
theorem z3X:∀ {vs:List Value}{ns:List Int},IntsAre vs ns->xb (ns.map V.int) vs
 | _,_,.nil=>.nil | _,_,.cons n t h=>.cons ⟨t,rfl⟩ (z3X h)
def zgH(H:Hp):Prop:=∀ b,H b=none\/∃ o xs,H b=some (.frz o (.lst xs))
theorem z6X {P:Program} {w:World} {K:W.Frag} {mg mb:Str->Option Value} {CX:CXT} {k:Nat} {fa a:Addr} {fd:FuncData} {x:Str} {sp:Sp} {s₁:Shared} {vs:List Value} {ns:List Int} (KX:K.In s₁.heap) (hns:s₁.heap.Ns mainGlobals mg) (hb:s₁.heap.Ns builtinsNs mb) (hbb:∀ x:Str,x≠"__name__"->mb x=bootBuiltins x) (hlim:s₁.heap.NoLimit) (hg:s₁.gens=#[]) (ha:s₁.heap.get? a=some {cls:=.type "list",data:=.seq vs.toArray}) (hi:IntsAre vs ns) (hl:ns.length<=sizeLine) (hr:z0q k callerA) (F:∀ base:Heap,K.In base->base.Ns mainGlobals mg->z2e P w K mg base CX k fa fd [x] sp) (hbind:∀ (s:Shared) (u:Value),BindsTo s fd ⟨[u],[]⟩ [(x,u)]) (hsp:∀ H:Hp,zgH H->SqL K H a (ns.map V.int)->sp [.ref a] H (fun v _=>v=.bl true) fun _ _ _=>False) (hCX:∀ H e s',CX [] H s₁ (fun _ _ _=>False) e s'->False): codeAny (model P w) callerA (.call (.ref fa) ⟨[.ref a],[]⟩) (fun r s'=>r=.ok (.ret (.bool true))/\OldK s₁.heap s'.heap/\s'.os=s₁.os/\AllBare s'.gens) s₁:=by
 have rv:=z3X hi;have lenV:=hi.length;have core:∀ H:Hp,zgH H->SqL K H a (ns.map V.int)->HOk P w H s₁.heap->(∀ b,H b≠none->b=a)->(H a≠none->K.lookup a=none)-> codeAny (model P w) callerA (.call (.ref fa) ⟨[.ref a],[]⟩) (fun r s'=>r=.ok (.ret (.bool true))/\OldK s₁.heap s'.heap/\s'.os=s₁.os/\AllBare s'.gens) s₁:=by
  intro H hO hS hok hA hK;have base_of:∀ {b:Addr} {o:Obj},s₁.heap.get? b=some o->H b=none->(zaW s₁.heap H).get? b=some o:=fun e n=>zaU e n;have noA:∀ {b:Addr} {o:Obj} {es:Array DictEntry} {ep:Nat},s₁.heap.get? b=some o->o.data=.dict es ep->H b=none:=fun {b o es ep} e d=>by cases q:H b with
   | none=>rfl | some u=>
    have e':b=a:=hA b (by rw [q];simp);subst e';rw [ha] at e;cases e;have d':Data.seq vs.toArray _=Data.dict es ep:=d;cases d'
  have nsK:∀ {b:Addr} {m:Str->Option Value},s₁.heap.Ns b m->(zaW s₁.heap H).Ns b m:=fun {b m} ⟨o,es,ep,e,d,r⟩=>⟨o,es,ep,base_of e (noA e d),d,r⟩;have hKb:K.In (zaW s₁.heap H):=fun b o e=>base_of (KX b o e) (by cases q:H b with
   | none=>rfl | some u=>
    have e':b=a:=hA b (by rw [q];simp);subst e';rw [hK (by rw [q];simp)] at e;cases e);have hM:Mod K mg (zaW s₁.heap H):=⟨hKb,nsK hns,⟨mb,nsK hb,hbb⟩,let ⟨mc,h1,h2⟩:=hlim;⟨mc,nsK h1,h2⟩⟩;have e0:zgB P w K mg (zaW s₁.heap H) callerA [] s₁ H:=⟨rfl,hM,fun b o e=>zeg e,Nat.le_of_eq (z89 _ _),trivial,fun b hb=>absurd (show b∈([]:List Addr) from hb) (by simp),hok,.of_eq hg⟩;refine codeAny_mono ((F _ hKb (nsK hns)).run callerA [] s₁ H ⟨[.ref a],[]⟩ [.ref a] [.ref a] _ _ hr e0 (hbind s₁ (.ref a)) (.cons rfl .nil) (hsp H hO hS)) fun r s' h=>?_;cases r with
  | error e=>exact (hCX H e s' h).elim | ok fl=> cases fl with
   | next=>exact False.elim h | brk=>exact False.elim h | cont=>exact False.elim h | ret u=>
    obtain ⟨v,H',os,bare,un,hok',r',q⟩:=h;have q':v=.bl true:=q;subst q';obtain rfl:u=Value.bool true:=r';refine ⟨rfl,OldK.of_keep fun b o e=>?_,os,bare⟩;cases q:H b with
    | none=>exact un.keep b o e q (by intro z;exact absurd (show b∈([]:List Addr) from z) (by simp)) (by simp) | some u=>
     rcases hO b with z | ⟨ob,xs,z⟩;·rw [q] at z;cases z
     ·have z2:=un.frzs b ob _ z;obtain ⟨e1,_⟩:=hok b _ z;obtain ⟨e2,_⟩:=hok' b _ z2;rw [e] at e1;cases e1;exact e2
 cases hk:K.lookup a with
 | some o=>
  have e:=KX a o hk;rw [ha] at e;cases e;refine core (fun _=>none) (fun _=>.inl rfl) (.inr ⟨_,vs.toArray,_,hk,rfl,rfl,rfl,by rw [List.size_toArray,lenV];exact hl,by simpa using rv⟩) (fun b u z=>by have z':(none:Option HO)=some u:=z;cases z') (fun b z=>absurd rfl z) fun z=>absurd rfl z | none=>
  refine core (fun b=>if b=a then some (.frz {cls:=.type "list",data:=.seq vs.toArray} (.lst (ns.map V.int))) else none) (fun b=>?_) (.inl (.inr ⟨{cls:=.type "list",data:=.seq vs.toArray},if_pos rfl⟩)) (fun b u z=>?_) (fun b z=>?_) fun _=>hk
  ·by_cases hb:b=a;·exact .inr ⟨_,_,if_pos hb⟩
   ·exact .inl (if_neg hb)
  ·by_cases hb:b=a
   ·have z':=(if_pos hb).symm.trans z;cases z';subst hb;exact ⟨ha,by rw [List.length_map];exact hl,vs,_,rv,ha⟩
   ·have z':=(if_neg hb).symm.trans z;cases z'
  ·by_cases hb:b=a;·exact hb
   ·exact absurd (if_neg hb) z
abbrev KOf{K:W.Frag}{h:Heap}(_:K.In h):W.Frag:=K
theorem zih{l:W.OpenLaw}{n k:Nat}{q:Program}{loose:List Str}{XP:(Str->Option Value)->Heap->Prop}{YP:World->Heap->Prop}{d:DefRec}{K:Params->W.Frag}{CX:World->CXT}{sp:World->Sp}{x:Str} (hn:l.most=some n)(hn2:n<=sizeLine)(hdf:d.params.defaults=[])(hr:z0q k callerA) (hY:∀ (w:World)(h:Heap),YP w h->(K w.params).In h) (F:∀ (w:World)(mg:Str->Option Value)(fa:Addr)(h:Heap),(K w.params).In h->h.Ns mainGlobals mg->mg d.name=some (.ref fa)-> ∃ fd:FuncData,(∀ (s:Shared)(u:Value),BindsTo s fd ⟨[u],[]⟩ [(x,u)])/\ ∀ base:Heap,(K w.params).In base->base.Ns mainGlobals mg->z2e l.prog w (K w.params) mg base (CX w) k fa fd [x] (sp w)) (hsp:∀ (w:World)(H:Hp)(a:Addr)(ns:List Int),ns.length<=n->zgH H->SqL (K w.params) H a (ns.map V.int)->sp w [.ref a] H (fun v _=>v=.bl true) fun _ _ _=>False) (hCX:∀ (w:World)(H:Hp)(s:Shared)(e:Value)(s':Shared),CX w [] H s (fun _ _ _=>False) e s'->False): W.WalkO q loose XP YP l.row.toRowW d [] (fun f vs=>PySem.call f vs):=by
 refine Att.z0P hn hdf fun w s₀ s₁ mg mb fa o pm cd doc a vs ns G Yy ho hd hcd hmg hobj hints hlen hg=>?_;have KX:=hY w _ Yy;obtain ⟨fd,hb,hF⟩:=F w mg fa _ KX G.T.g hmg;exact z6X KX G.T.g G.T.b G.T.builtins G.T.nolimit hg hobj hints (Nat.le_trans hlen hn2) hr hF hb (fun H hO hS=>hsp w H a ns hlen hO hS) fun H e s'=>hCX w H s₁ e s'
def kw(s:Stmt):Arguments:=match s with
 | .FunctionDef _ a _ _ _ _ _ _ _ _=>a | _=>{posonlyargs:=[],args:=[],vararg:=none,kwonlyargs:=[],kw_defaults:=[],kwarg:=none,defaults:=[]}
def uP(s:Stmt):List Stmt:=match s with
 | .FunctionDef _ _ b _ _ _ _ _ _ _=>b | _=>[]
def zg(s:Stmt):Scope:=match s with
 | .FunctionDef _ _ _ _ _ _ sc _ _ _=>sc | _=>{kind:=.function,names:=[],isGenerator:=false,isCoroutine:=false}
abbrev CX0:CXT:=fun _ _ _ _ _ _=>False
abbrev E0:XK:=fun _ _ _=>False
theorem yb{X:Cx}:Passes CX0 X E0:=fun _ _ _ _ _ _ _ h=>h.elim
structure Fun(K:W.Frag)(x qual:Str)(st:Stmt)(f:Addr)(fd:FuncData):Prop where
 ex:∃ (oc:Value)(od:Option Addr)(kV doc pm:Value)(an:Option Addr)(cdv ct:Value)(osl:Array (Option Value)), fd=W.fnOf x qual (kw st) (uP st) (zg st) .none kV doc pm an cdv ct/\K.lookup f=some ⟨oc,od,.func fd,osl⟩/\W.codeIn K cdv qual=true
 kp:W.keepIn K (.ref f)=true
section
variable {P:Program}{w:World}{K:W.Frag}{mg:Str->Option Value}{base:Heap}
theorem Fun.ok{x qual:Str}{st:Stmt}{f:Addr}{fd:FuncData}{N ps:List Str}{k:Nat}{sp:Sp}(F:Fun K x qual st f fd)(S:zu N ps (zg st))(len:∀ vs H Q E,sp vs H Q E->vs.length=ps.length) (hbody:∀ (cdv:Value)(A:Around)(outer:List Env)(s:Shared)(H:Hp)(vs:List V)(Q:VK)(E:XK),z0q k (A.deeper (envOfC qual (zg st) s.heap.objs.size f cdv))->sp vs H Q E-> ∃ t,PSs (zad CX0 P w K mg base N qual (zg st) f cdv A outer s H E).nox (uP st) t/\t {nx:=fun _ H'=>Q .non H',rt:=Q} (start N vs) H):z2e P w K mg base CX0 (k+1) f fd ps sp:=by
 obtain ⟨oc,od,kV,doc,pm,an,cdv,ct,osl,rfl,lk,hcd⟩:=F.ex;refine zgZ lk hcd S len fun A outer s H vs Q E hr hsp=>?_;obtain ⟨t,h,q⟩:=hbody cdv A outer s H vs Q E hr hsp;exact ⟨t,h.nox,q⟩
theorem Fun.binds{x qual:Str}{st:Stmt}{f:Addr}{fd:FuncData}{ps:List Str}(F:Fun K x qual st f fd) (h:∀ (kV doc pm:Value)(an:Option Addr)(cdv ct:Value)(us:List Value),us.length=ps.length->bindArgs (W.fnOf x qual (kw st) (uP st) (zg st) .none kV doc pm an cdv ct) ⟨us,[]⟩=pure (ps.zip us)):Binds K fd ps []:=by
 obtain ⟨oc,od,kV,doc,pm,an,cdv,ct,osl,rfl,lk,hcd⟩:=F.ex;exact .all (h kV doc pm an cdv ct)
theorem zfV{x qual:Str}{st:Stmt}{f:Addr}{oc:Value}{od an:Option Addr}{osl:Array (Option Value)}{kV doc pm cdv ct:Value}(l:K.lookup f=some ⟨oc,od,.func (W.fnOf x qual (kw st) (uP st) (zg st) .none kV doc pm an cdv ct),osl⟩) (c:W.codeIn K cdv qual=true)(k:W.keepIn K (.ref f)=true):Fun K x qual st f (W.fnOf x qual (kw st) (uP st) (zg st) .none kV doc pm an cdv ct):=⟨⟨oc,od,kV,doc,pm,an,cdv,ct,osl,rfl,l,c⟩,k⟩
end
section
variable {X:Cx}
theorem pv(i:Nat){x:Str}{pos:Pos}(hN:X.N[i]? = some x:=by rfl)(hv:Vis X.env.scope x:=by first | exact Or.inl rfl | exact Or.inr (Or.inl rfl) | exact Or.inr (Or.inr rfl))(hd:(x==("__debug__":Str))=false:=by decide) (hcd:(x==("__classdict__":Str))=false:=by decide):PE X (.Name x pos) (ziZ i):=z8S hN hv hd hcd
end
end L2
set_option maxHeartbeats 4000000
namespace L2
open PySem.Spec
def z3e(env:Env):List (Str×NameKind)->List (Str×Addr)->List (Str×Addr)
 | [],acc=>acc | (n,k)::r,acc=>z3e env r (if k==.free then (match env.cells.lookup n with | some c=>(n,c)::acc | none=>acc) else acc)
theorem z1h{env:Env}:∀ (names:List (Str×NameKind))(acc:List (Str×Addr)),(∀ x c,acc.lookup x=some c->env.cells.lookup x=some c)->∀ x c,(z3e env names acc).lookup x=some c->env.cells.lookup x=some c
 | [],acc,ha=>ha | (n,k)::r,acc,ha=>by
  unfold z3e;refine z1h r _ fun x c=>?_;split
  ·split
   ·rename_i c' hc;intro h;rw [List.lookup_cons] at h;split at h
    ·rename_i hb;cases h;rw [beq_iff_eq.mp hb];exact hc
    ·exact ha x c h
   ·exact ha x c
  ·exact ha x c
theorem z4K{env:Env}{x:Str}:∀ (names:List (Str×NameKind))(acc:List (Str×Addr)),(acc.lookup x).isSome=true->((z3e env names acc).lookup x).isSome=true
 | [],acc,ha=>ha | (n,k)::r,acc,ha=>by
  unfold z3e;refine z4K r _ ?_;split
  ·split
   ·rw [List.lookup_cons];split;·rfl
    ·exact ha
   ·exact ha
  ·exact ha
theorem z2E{env:Env}{x:Str}:∀ (names:List (Str×NameKind))(acc:List (Str×Addr)),(x,NameKind.free)∈names->(∃ c,env.cells.lookup x=some c)->∃ c,(z3e env names acc).lookup x=some c
 | [],acc,h,_=>nomatch h | (n,k)::r,acc,h,hc=>by
  rcases List.mem_cons.mp h with e | h
  ·cases e;obtain ⟨c,hc⟩:=hc;unfold z3e;have q:((z3e env r ((x,c)::acc)).lookup x).isSome=true:=z4K r _ (by simp);rw [if_pos (by rfl),hc];exact Option.isSome_iff_exists.mp q
  ·unfold z3e;exact z2E r _ h hc
theorem z28{env:Env}(f:Str×NameKind->List (Str×Addr)->Sem (ForInStep (List (Str×Addr)))) (hf:∀ n k cs,f (n,k) cs=if k==.free then (do let a <- cellOf env n;pure (.yield ((n,a)::cs))) else pure (.yield cs)): ∀ (names:List (Str×NameKind))(acc:List (Str×Addr)),(∀ y∈names,y.2=.free->∃ c,env.cells.lookup y.1=some c)->forIn names acc f=pure (z3e env names acc)
 | [],acc,_=>rfl | (n,k)::r,acc,h=>by
  rw [List.forIn_cons,hf];have ih:=fun acc'=>z28 f hf r acc' fun y hy=>h y (List.mem_cons_of_mem _ hy);unfold z3e;by_cases hk:k=.free
  ·subst hk;obtain ⟨c,hc⟩:=h (n,.free) List.mem_cons_self rfl;have hc':env.cells.lookup n=some c:=hc;have e:cellOf env n=pure c:=by unfold cellOf;rw [hc']
   rw [if_pos (by rfl),if_pos (by rfl),e,hc',pure_bind,pure_bind];exact ih _
  ·have hb:(k==NameKind.free)=false:=by simpa using hk
   rw [hb,if_neg (by decide),if_neg (by decide),pure_bind];exact ih _
theorem vd{scope:Scope}{env:Env}(h:∀ y∈scope.names,y.2=.free->∃ c,env.cells.lookup y.1=some c):closureFor scope env=pure (z3e env scope.names []):=by
 simp only [closureFor];rw [z28 (env:=env) _ (fun n k cs=>by cases hk:k==NameKind.free<;>simp [hk]) scope.names [] h];simp
theorem wc:∀ (names:List (Str×NameKind))(n:Nat)(acc:List (Str×Addr)),cellsFrom n names acc=cellsFrom n names []++acc
 | [],_,_=>rfl | (x,k)::r,n,acc=>by
  unfold cellsFrom;split
  ·rw [wc r (n+1) ((x,n)::acc),wc r (n+1) [(x,n)]];simp
  ·exact wc r n acc
theorem uy{x:Str}{c:Addr}:∀ (names:List (Str×NameKind))(n:Nat)(acc:List (Str×Addr)),(x,c)∈cellsFrom n names acc->(x,c)∈acc\/(x,NameKind.cell)∈names
 | [],_,_,h=>.inl h | (y,k)::r,n,acc,h=>by
  unfold cellsFrom at h;split at h
  ·rename_i hk;rcases uy r _ _ h with q | q
   ·rcases List.mem_cons.mp q with e | q
    ·cases e;refine .inr ?_;rw [show k=NameKind.cell from beq_iff_eq.mp hk];exact List.mem_cons_self
    ·exact .inl q
   ·exact .inr (List.mem_cons_of_mem _ q)
  ·rcases uy r _ _ h with q | q;·exact .inl q
   ·exact .inr (List.mem_cons_of_mem _ q)
def z6k(X:Cx)(scope:Scope)(C:Addr):Env:= {scope:=relabel scope X.env,locals:=C,globals:=X.env.globals,cells:=cellsFrom (C+1) scope.names []++z3e X.env scope.names [],qual:=X.env.qual,func:=none,code:=X.env.code,frame:=X.env.frame,builtins:=X.env.builtins}
def zj(X:Cx)(N':List Str)(scope:Scope)(ex:List Addr)(s:Shared)(H:Hp):Cx where
 prog:=X.prog;w:=X.w;K:=X.K;mg:=X.mg;base:=X.base;A:=X.A;N:=N';s₀:=s;H₀:=H;env:=z6k X scope s.heap.objs.size;outer:=X.stack;stack:=X.stack;ex:=ex;fn:=fun x=>scope.names.lookup x==some .cell;calm:=X.calm;pn:=[];xe:=fun _ _=>False
theorem jc{env:Env}{x:Str}{k:NameKind}:∀ {names:List (Str×NameKind)},names.lookup x=some k-> (names.map fun (n,k)=>if (k==NameKind.free&&env.scope.kind==.function&&env.kindOf n==some .cell) then (n,NameKind.cell) else (n,k)).lookup x=some k\/ (k=.free/\(names.map fun (n,k)=>if (k==NameKind.free&&env.scope.kind==.function&&env.kindOf n==some .cell) then (n,NameKind.cell) else (n,k)).lookup x=some .cell)
 | [],h=>by simp at h | (n,k')::r,h=>by
  have ih:=@jc env x k r;show List.lookup x ((if (k'==NameKind.free&&env.scope.kind==.function&&env.kindOf n==some .cell)=true then (n,NameKind.cell) else (n,k'))::_)=_\/(_/\List.lookup x ((if (k'==NameKind.free&&env.scope.kind==.function&&env.kindOf n==some .cell)=true then (n,NameKind.cell) else (n,k'))::_)=_);cases hx:x==n with
  | true=>
   simp only [List.lookup_cons,hx] at h;cases h;by_cases hc:(k==NameKind.free&&env.scope.kind==.function&&env.kindOf n==some .cell)=true
   ·rw [if_pos hc];simp only [Bool.and_eq_true,beq_iff_eq] at hc;exact .inr ⟨hc.1.1,by simp [List.lookup_cons,hx]⟩
   ·rw [if_neg hc];exact .inl (by simp [List.lookup_cons,hx]) | false=>
   simp only [List.lookup_cons,hx] at h;by_cases hc:(k'==NameKind.free&&env.scope.kind==.function&&env.kindOf n==some .cell)=true;·rw [if_pos hc];simp only [List.lookup_cons,hx];exact ih h
   ·rw [if_neg hc];simp only [List.lookup_cons,hx];exact ih h
theorem vO{env:Env}{x:Str}{k:NameKind}:∀ {names:List (Str×NameKind)}, (names.map fun (n,k)=>if (k==NameKind.free&&env.scope.kind==.function&&env.kindOf n==some .cell) then (n,NameKind.cell) else (n,k)).lookup x=some k->(k=.cell\/k=.free)->(x,NameKind.cell)∈names\/(x,NameKind.free)∈names
 | [],h,_=>by simp at h | (n,k')::r,h,hk=>by
  have ih:=@vO env x k r;change List.lookup x ((if (k'==NameKind.free&&env.scope.kind==.function&&env.kindOf n==some .cell)=true then (n,NameKind.cell) else (n,k'))::_)=_ at h;have step:(List.lookup x (r.map fun (n,k)=>if (k==NameKind.free&&env.scope.kind==.function&&env.kindOf n==some .cell) then (n,NameKind.cell) else (n,k))=some k)->(x,NameKind.cell)∈(n,k')::r\/(x,NameKind.free)∈(n,k')::r:=fun q=> (ih q hk).elim (fun z=>.inl (List.mem_cons_of_mem _ z)) fun z=>.inr (List.mem_cons_of_mem _ z);by_cases hc:(k'==NameKind.free&&env.scope.kind==.function&&env.kindOf n==some .cell)=true
  ·rw [if_pos hc,List.lookup_cons] at h;split at h
   ·rename_i hb;simp only [Bool.and_eq_true,beq_iff_eq] at hc;rw [beq_iff_eq.mp hb,hc.1.1];exact .inr List.mem_cons_self
   ·exact step h
  ·rw [if_neg hc,List.lookup_cons] at h;split at h
   ·rename_i hb;cases h;rw [beq_iff_eq.mp hb];rcases hk with rfl | rfl;·exact .inl List.mem_cons_self
    ·exact .inr List.mem_cons_self
   ·exact step h
def inner(mp:List (Option Nat))(O:St):St:=mp.map fun o=>match o with | some j=>(O[j]?).getD none | none=>none
def z0x(N:List Str)(names:List (Str×NameKind)):List Str->List (Option Nat)->Bool
 | [],[]=>true | _::r,none::mp=>z0x N names r mp | x::r,some j::mp=>N[j]? == some x&&names.lookup x==some .free&&z0x N names r mp | _,_=>false
theorem z2P{N:List Str}{names:List (Str×NameKind)}:∀ {N':List Str}{mp:List (Option Nat)},z0x N names N' mp=true->mp.length=N'.length
 | [],[],_=>rfl | _::_,none::_,h=>by
  simp only [z0x] at h;simp only [List.length_cons];rw [z2P h] | _::_,some _::_,h=>by
  simp only [z0x,Bool.and_eq_true] at h;simp only [List.length_cons];rw [z2P h.2] | [],none::_,h=>by cases h | [],some _::_,h=>by cases h | _::_,[],h=>by cases h
theorem z6o{N:List Str}{names:List (Str×NameKind)}:∀ {N':List Str}{mp:List (Option Nat)}{i j:Nat}{x:Str},z0x N names N' mp=true->N'[i]? = some x->mp[i]? = some (some j)->N[j]? = some x/\names.lookup x=some .free
 | [],_,_,_,_,_,h,_=>by simp at h | _::_,[],_,_,_,_,_,h=>by simp at h | _::_,none::_,0,_,_,_,_,h=>by simp at h | _::_,some _::_,0,_,_,h,h1,h2=>by
  simp only [z0x,Bool.and_eq_true,beq_iff_eq] at h;simp at h1 h2;subst h1 h2;exact h.1 | _::_,none::_,i+1,_,_,h,h1,h2=>by
  simp only [z0x] at h;exact z6o (i:=i) h (by simpa using h1) (by simpa using h2) | _::_,some _::_,i+1,_,_,h,h1,h2=>by
  simp only [z0x,Bool.and_eq_true] at h;exact z6o (i:=i) h.2 (by simpa using h1) (by simpa using h2)
section
variable {X:Cx}{pins:List (Addr×Obj)}{O:St}{H:Hp}{s s1:Shared}{scope:Scope}{N':List Str}{ex:List Addr}{mp:List (Option Nat)}
theorem z7U{α:Type}{x:Str}{l1 l2:List (Str×α)}{c:α}(h:(l1++l2).lookup x=some c):l1.lookup x=some c\/(l1.lookup x=none/\l2.lookup x=some c):=by
 rw [List.lookup_append] at h;cases e:l1.lookup x with
 | some d=>rw [e] at h;exact .inl h | none=>rw [e] at h;exact .inr ⟨rfl,h⟩
theorem z2y (I:Inv X pins O H s) (hkd:scope.kind=.function) (hnm:∀ y∈scope.names,scope.names.lookup y.1=some y.2) (hfr:∀ y∈scope.names,y.2=.free->X.env.kindOf y.1=some .cell\/X.env.kindOf y.1=some .free) (hmp:z0x X.N scope.names N' mp=true) (hex:∀ b∈ex,b<s.heap.objs.size/\H b=none/\b≠X.env.locals/\b∉X.fs/\(b∈X.ex\/X.s₀.heap.objs.size<=b)/\(∀ x c,X.env.cells.lookup x=some c->c≠b)) (e1:s1.heap=pushCells (s.heap.push {cls:=.type "dict",data:=.dict #[]}) scope.names) (e2:s1.os=s.os) (e3:s1.gens=s.gens): Inv (zj X N' scope ex s H) [] (inner mp O) H s1:=by
 have keep:∀ b o,s.heap.get? b=some o->s1.heap.get? b=some o:=fun b o e=>by rw [e1];exact pushCells_keeps _ _ b o (Heap.get?_push_of_some _ e)
 have ok:=cellsFrom_ok scope.names (s.heap.push {cls:=.type "dict",data:=.dict #[]}) (s.heap.objs.size+1) [] ⟨fun _ _ hm=>(nomatch hm),List.Pairwise.nil⟩ (by rw [Heap.size_push];exact Nat.le_refl _);rw [Heap.size_push,<- e1] at ok;have hclo:∀ x c,(z3e X.env scope.names []).lookup x=some c->X.env.cells.lookup x=some c:=z1h scope.names [] (fun x c h=>by simp at h);have clt:∀ x c,X.env.cells.lookup x=some c->c<s.heap.objs.size:=fun x c h=>by obtain ⟨v,q⟩:=I.cell x c h;exact q.lt
 have own:∀ x c,(cellsFrom (s.heap.objs.size+1) scope.names []).lookup x=some c->s1.heap.IsCell c none/\s.heap.objs.size+1<=c:=fun x c h=>ok.empty x c (PySem.mem_of_lookup h);have both:∀ x c,(z6k X scope s.heap.objs.size).cells.lookup x=some c->((cellsFrom (s.heap.objs.size+1) scope.names []).lookup x=some c/\s1.heap.IsCell c none/\s.heap.objs.size+1<=c)\/(X.env.cells.lookup x=some c):=fun x c h=>by
  rcases z7U h with q | ⟨_,q⟩;·exact .inl ⟨q,own x c q⟩
  ·exact .inr (hclo x c q)
 refine ⟨⟨I.ok.mod,hkd,I.ok.glob,I.ok.blt,Nat.le_refl _,fun x y c h1 h2=>?_,fun x hx=>?_,fun x c hf h=>?_,I.ok.hd,I.ok.frames,.inl rfl,fun b hb=>⟨Nat.ne_of_lt (hex b hb).1,fun x c h=>?_⟩,fun b o e=>I.bs b o e,Nat.le_trans I.ok.bsz I.sz,fun b o e hb=>?_,fun b hb hf=>?_,I.stack,I.stkFree⟩, e2,by rw [e3];exact I.bare,Un.kept keep,?_,fun x c h=>?_,I.hok.fresh (Nat.le_refl _),fun x c h=>?_,fun p hp=>absurd (show p∈([]:List (Addr×Obj)) from hp) (by simp),I.hok.kept keep,?_⟩
 ·rcases both x c h1 with ⟨q1,_,l1⟩ | q1<;>rcases both y c h2 with ⟨q2,_,l2⟩ | q2;·exact name_of_addr ok.apart (PySem.mem_of_lookup q1) (PySem.mem_of_lookup q2)
  ·exact absurd (Nat.lt_of_lt_of_le (clt y c q2) (Nat.le_of_succ_le l1)) (Nat.lt_irrefl _)
  ·exact absurd (Nat.lt_of_lt_of_le (clt x c q1) (Nat.le_of_succ_le l2)) (Nat.lt_irrefl _)
  ·exact I.ok.inj x y c q1 q2
 ·have hx':(x,NameKind.cell)∈scope.names\/(x,NameKind.free)∈scope.names:=by
   rcases hx with hx | hx;·exact vO (env:=X.env) hx (.inl rfl)
   ·exact vO (env:=X.env) hx (.inr rfl)
  show ∃ c,(cellsFrom (s.heap.objs.size+1) scope.names []++z3e X.env scope.names []).lookup x=some c;rw [List.lookup_append];cases e:(cellsFrom (s.heap.objs.size+1) scope.names []).lookup x with
  | some c=>exact ⟨c,rfl⟩ | none=>
   rcases hx' with hx' | hx'
   ·obtain ⟨c,q⟩:=z0m (sc:=scope) (n:=s.heap.objs.size+1) (hnm (x,.cell) hx');rw [q] at e;cases e
   ·obtain ⟨c,q⟩:=z2E (env:=X.env) scope.names [] hx' (I.ok.has x (hfr (x,.free) hx' rfl));exact ⟨c,by simpa using q⟩
 ·have hf':scope.names.lookup x=some .cell:=beq_iff_eq.mp hf;obtain ⟨c',q⟩:=z0m (sc:=scope) (n:=s.heap.objs.size+1) hf';have h':(cellsFrom (s.heap.objs.size+1) scope.names []++z3e X.env scope.names []).lookup x=some c:=h;rw [List.lookup_append,q] at h';have e:c'=c:=Option.some.inj h';subst e;exact Nat.le_of_lt (Nat.lt_of_succ_le (own x c' q).2)
 ·rcases both x c h with ⟨_,_,l⟩ | q
  ·intro z;rw [z] at l;exact absurd (Nat.lt_of_lt_of_le (hex b hb).1 (Nat.le_of_succ_le l)) (Nat.lt_irrefl _)
  ·exact (hex b hb).2.2.2.2.2 x c q
 ·rcases (hex b hb).2.2.2.2.1 with z | z;·exact I.ok.noex b o e z
  ·exact absurd (Nat.lt_of_lt_of_le (Nat.lt_of_lt_of_le (Heap.lt_size e) I.ok.bsz) z) (Nat.lt_irrefl _)
 ·have q:=I.stkSub b hf;rcases List.mem_cons.mp q with z | z;·exact (hex b hb).2.2.1 z
  ·exact (hex b hb).2.2.2.1 z
 ·refine ⟨fun _=>none,?_,fun i x v h1 h2 h3=>?_⟩
  ·rw [e1];exact (Heap.Ns.new s.heap (.type "dict")).keeps (pushCells_keeps _ _)
  ·have h2':(inner mp O)[i]? = some (some v):=h2;unfold inner at h2';rw [List.getElem?_map] at h2';cases em:mp[i]? with
   | none=>rw [em] at h2';cases h2' | some o=>
    rw [em] at h2';cases o with
    | none=>cases h2' | some j=>
     obtain ⟨hj,hl⟩:=z6o hmp h1 em;have hmem:(x,NameKind.free)∈scope.names:=PySem.mem_of_lookup hl;have hv:O[j]? = some (some v):=by
      simp only [Option.map_some] at h2';cases eO:O[j]? with
      | none=>rw [eO] at h2';cases h2' | some o=>rw [eO] at h2';exact h2'
     obtain ⟨m,hn,hlook⟩:=I.loc;have kx:X.env.kindOf x=some .cell\/X.env.kindOf x=some .free:=hfr _ hmem rfl;obtain ⟨u,r,L⟩:=hlook j x v hj hv (by rcases kx with k | k;exact .inr (.inl k);exact .inr (.inr k));refine ⟨u,r,.inr ?_⟩;rcases L with ⟨k,_⟩ | ⟨_,c,hc,hcell⟩;·rcases kx with k' | k'<;>(rw [k] at k';cases k')
     ·have ncell:(x,NameKind.cell)∉scope.names:=fun z=>by
       have a:=hnm _ z;rw [hl] at a;cases a
      refine ⟨?_,c,?_,hcell.keeps keep⟩
      ·rcases jc (env:=X.env) hl with q | ⟨_,q⟩;·exact .inr q
       ·exact .inl q
      ·show (cellsFrom (s.heap.objs.size+1) scope.names []++z3e X.env scope.names []).lookup x=some c;rw [List.lookup_append];cases e:(cellsFrom (s.heap.objs.size+1) scope.names []).lookup x with
       | some c'=> exact absurd ((uy _ _ _ (PySem.mem_of_lookup e)).resolve_left (by simp)) ncell | none=>
        obtain ⟨c2,q⟩:=z2E (env:=X.env) scope.names [] hmem ⟨c,hc⟩;have q2:=hclo x c2 q;rw [hc] at q2;cases q2;simpa using q
 ·rcases both x c h with ⟨_,q,_⟩ | q;·exact ⟨_,q⟩
  ·obtain ⟨v,z⟩:=I.cell x c q;exact ⟨v,z.keeps keep⟩
 ·rcases both x c h with ⟨_,_,l⟩ | q;·exact I.hok.fresh (by omega)
  ·exact I.freeC x c q
 ·unfold inner;rw [List.length_map];exact z2P hmp
end
section
variable {M:Model}{A:Around}{E:Value->Shared->Prop}{s:Shared}
theorem z1l{scope:Scope}{env:Env}{cl:List (Str×Addr)}{Q:Env->Shared->Prop} (h:Q {scope:=scope,locals:=s.heap.objs.size,globals:=env.globals,cells:=cellsFrom (s.heap.objs.size+1) scope.names cl,qual:=env.qual,func:=none,code:=env.code,frame:=env.frame,builtins:=env.builtins} {s with heap:=pushCells (s.heap.push {cls:=.type "dict",data:=.dict #[]}) scope.names}): wpAny M A (newFunctionEnv scope env.globals cl [] env.qual none .none (some env)) Q E s:=by
 simp only [newFunctionEnv,Option.isSome_some,if_true];refine wpAny_bind (wpAny_alloc ?_);refine wpAny_bind (wpAny_layCells _ (fun name kind cells=>by cases hkc:kind==NameKind.cell<;>simp [hkc]) _ _ _ _ ?_);rw [show ({s with heap:=s.heap.push {cls:=.type "dict",data:=.dict #[]}}:Shared).heap.objs.size=s.heap.objs.size+1 from Heap.size_push ..];refine wpAny_bind ?_;rw [List.forIn_nil];exact wpAny_pure (wpAny_pure h)
end
section
variable {prog:Program}{w:World}{A:Around}{E:Value->Shared->Prop}{R:Result->Shared->Prop}{s:Shared}
theorem z4g{elt target iter:Expr}{ifs:List Expr}{scope:Scope}{pos:Pos}{it acc:Value}{env:Env}(I:Nat->Shared->Prop) (turn:∀ n s,I n s->wpAny (model prog w) A (pyNext it) (fun r s₁=>match r with
   | none=>R (.ok .next) s₁ | some v=>wpAny (model prog w) A (letOwnedTupleGo target it v) (fun _ s₁'=>wpAny (model prog w) A (assign target env v) (fun _ s₂=> wpAny (model prog w) A (forIn ifs true fun c r=>if r=true then do let ok <- isTrue c env (eval c env);pure (ForInStep.yield ok) else pure (ForInStep.yield r)) (fun ok s₃=> if ok=true then wpAny (model prog w) A (eval elt env) (fun x s₄=> wpAny (model prog w) A (call (.builtin "list.append") [acc,x]) (fun _ s₅=>∃ m,m<n/\I m s₅) (fun _ _=>False) s₄) (fun _ _=>False) s₃ else ∃ m,m<n/\I m s₃) (fun _ _=>False) s₂) (fun _ _=>False) s₁') (fun _ _=>False) s₁) (fun _ _=>False) s) (n:Nat)(h:I n s): codeAny (model prog w) A (.compLoop (.ListComp elt [⟨target,iter,ifs,0⟩] scope pos) 0 it acc env) R s:=by
 refine codeAny_loop rfl I (fun n s hI=>?_) n h;show wpAny _ A ((compTurn (.ListComp elt [⟨target,iter,ifs,0⟩] scope pos) 0 it acc env).onRaise (fun x=>do noteFrame x env;theTreesLotGoes x)) _ _ s;refine wpAny_noted ?_;rw [compTurn_list];refine wpAny_bind (wpAny_standAt (wpAny_bind (wpAny_mono (turn n s hI) (fun r s₁ h₁=>?_) fun _ _ h'=>h'.elim)));cases r with
 | none=>exact wpAny_pure h₁ | some v=>
  refine wpAny_bind (wpAny_mono h₁ (fun _ s₁' h₁'=>?_) fun _ _ h'=>h'.elim);refine wpAny_bind (wpAny_mono h₁' (fun _ s₂ h₂=>wpAny_bind (wpAny_mono h₂ (fun ok s₃ h₃=>?_) fun _ _ h'=>h'.elim)) fun _ _ h'=>h'.elim);cases ok with
  | false=>exact wpAny_pure ⟨rfl,h₃⟩ | true=> exact wpAny_bind (wpAny_bind (wpAny_mono h₃ (fun x s₄ h₄=>wpAny_bind (wpAny_mono h₄ (fun _ s₅ h₅=>wpAny_pure (wpAny_pure ⟨rfl,h₅⟩)) fun _ _ h'=>h'.elim)) fun _ _ h'=>h'.elim))
end
def z6y(X:Cx)(ifs:List Expr)(t:TT):Prop:= ∀ (pins:List (Addr×Obj))(s:Shared)(O:St)(H:Hp)(Q:Bool->Hp->Prop),Inv X pins O H s->t O H Q-> wpAny (model X.prog X.w) X.A (forIn ifs true fun c r=>if r=true then do let ok <- isTrue c X.env (eval c X.env);pure (ForInStep.yield ok) else pure (ForInStep.yield r)) (TP X pins O Q) X.xe s
theorem zbo{X:Cx}:z6y X [] (fun _ H Q=>Q true H):=fun _ _ _ H _ I h=>wpAny_tests_nil ⟨H,I,h⟩
theorem zbB{X:Cx}{c:Expr}{t:TT}(h:PT X c t):z6y X [c] t:=fun pins s O H Q I hq=>wpAny_tests_one (h pins s O H Q I hq)
theorem Inv.track {X:Cx} {pins:List (Addr×Obj)} {O:St} {H:Hp} {s:Shared} {a:Addr} {o:HO} (I:Inv X pins O H s) (f:z1W X pins H a) (new:xx X.prog X.w (upd H a o) s.heap a o):Inv X pins O (upd H a o) s:=by
 obtain ⟨f0,f1,f2,f3,f4,f5⟩:=f;have hs:HOk X.prog X.w (upd H a o) s.heap:=fun b u e=>by
  by_cases hb:b=a;·subst hb;rw [zK] at e;cases e;exact new
  ·rw [zw hb] at e;exact (I.hok b u e).stay (fun _ _ _ q=>q) (fun c q=>by rw [zw (yz q f0)];exact q) fun c xs q=>by rw [zw (yz q f0)];exact q
 exact I.step (h':=s.heap) (g':=s.gens) (d':=s.drawn) (t':=s.toks) (ch:=[a]) (fun b hb=>by
  have e:b=a:=by simpa using hb
  subst e;exact ⟨f3,f1,f4,f5⟩) (fun b o _ _ _ e _=>e) (fun b o _ _ _ e _=>⟨o.slots,e⟩) (fun b o hb _ n=>by rw [zw (fun z=>hb (by simp [z]))];exact n) (fun b o _ e=>⟨o,e⟩) (fun b xs q=>by rw [zw (yz q f0)];exact q) (fun b u xs q=>by rw [zw (yz q f0)];exact q) (fun b ps q=>⟨#[],by rw [zw (yz q f0),q];simp⟩) (fun _ q=>q) hs I.bare
def zbA(wi:TI)(mp:List (Option Nat))(g:TG)(ti:TT)(te:TE):TE:=fun O H Q=>wi O H fun J H1=>∃ W:Nat->Nat->List V->Hp->Prop,(∃ m,W 0 m [] H1)/\∀ i m ys H,W i m ys H-> (J.stop i H/\ys.length<=sizeLine/\∀ p,H p=none->Q (.ref p) (upd H p (.lst ys)))\/ (J.go i H/\∀ x H',J.yld i H x H'->g x (inner mp O) H' fun O2 H2=>(O2.length=(inner mp O).length/\∀ (i:Nat) v,(inner mp O)[i]? = some (some v)->O2[i]? = some (some v))/\ ti O2 H2 fun b H3=>if b=true then te O2 H3 fun y H4=>ys.length<=sizeLine/\∃ m',m'<m/\W (i+1) m' (ys++[y]) H4 else ∃ m',m'<m/\W (i+1) m' ys H3)
def jH(X:Cx)(pins:List (Addr×Obj))(O:St)(C:Addr)(Q:VK)(acc:Value)(s':Shared):Prop:= ∃ v Hf,Inv X pins O Hf s'/\yB v acc/\Q v Hf/\(∃ m,s'.heap.Ns C m)/\z1W X pins Hf C
theorem kq {X:Cx} {tg iter elt:Expr} {ifs:List Expr} {scope:Scope} {pos:Pos} {g:TG} {ti:TT} {te:TE} {N':List Str} {mp:List (Option Nat)} {pins:List (Addr×Obj)} {O:St} {Q:VK} {J:It} {H2:Hp} {s₂:Shared} {it:Addr} {fp:List Addr} {tn:Nat->Heap->Prop} {E:Value->Shared->Prop} {RR:Value->Addr->Result->Shared->Prop} (hc:X.calm=true) (hg:∀ ex s H,PG (zj X N' scope ex s H) tg g) (ht:∀ ex s H,z6y (zj X N' scope ex s H) ifs ti) (he:∀ ex s H,PE (zj X N' scope ex s H) elt te) (hkd:scope.kind=.function) (hnm:∀ y∈scope.names,scope.names.lookup y.1=some y.2) (hfr:∀ y∈scope.names,y.2=.free->X.env.kindOf y.1=some .cell\/X.env.kindOf y.1=some .free) (hmp:z0x X.N scope.names N' mp=true) (I2:Inv X pins O H2 s₂) (T:zaP X.prog X.w X.K tg J fp it tn) (st2:tn 0 s₂.heap) (f2:∀ b∈fp,z1W X pins H2 b) (W:Nat->Nat->List V->Hp->Prop) (w0:∃ m,W 0 m [] H2) (turn:∀ i m ys H,W i m ys H-> (J.stop i H/\ys.length<=sizeLine/\∀ p,H p=none->Q (.ref p) (upd H p (.lst ys)))\/ (J.go i H/\∀ x H',J.yld i H x H'->g x (inner mp O) H' fun O2 H2=>(O2.length=(inner mp O).length/\∀ (i:Nat) v,(inner mp O)[i]? = some (some v)->O2[i]? = some (some v))/\ ti O2 H2 fun b H3=>if b=true then te O2 H3 fun y H4=>ys.length<=sizeLine/\∃ m',m'<m/\W (i+1) m' (ys++[y]) H4 else ∃ m',m'<m/\W (i+1) m' ys H3)) (hRR:∀ acc C s',jH X pins O C Q acc s'->RR acc C (.ok .next) s'): wpAny (model X.prog X.w) X.A (newList []) (fun acc s₃=>wpAny (model X.prog X.w) X.A (newFunctionEnv scope X.env.globals (z3e X.env scope.names []) [] X.env.qual none .none (some X.env)) (fun cenv s₄=> codeAny (model X.prog X.w) X.A (.compStart (.ListComp elt [⟨tg,iter,ifs,0⟩] scope pos) 0 (.ref it) acc {cenv with scope:=relabel scope X.env}) (RR acc cenv.locals) s₄) E s₃) E s₂:=by
 refine wpAny_newObj_type ?_;have hf2:H2 s₂.heap.objs.size=none:=I2.hok.fresh (Nat.le_refl _);have fA:z1W X pins H2 s₂.heap.objs.size:=I2.fpOk (Nat.le_refl _) hf2;generalize hacc:s₂.heap.objs.size=acc at hf2 fA ⊢;have I3:Inv X pins O H2 {s₂ with heap:=s₂.heap.push {cls:=.type "list",data:=.seq ([]:List Value).toArray}}:=I2.kept (t':=s₂.toks) fun b o e=>Heap.get?_push_of_some _ e;have ha3:(s₂.heap.push {cls:=.type "list",data:=.seq ([]:List Value).toArray}).get? acc=some (LCg.lst []):=by rw [<- hacc];exact Heap.get?_push_size _ rfl
 have sz3:(s₂.heap.push {cls:=.type "list",data:=.seq ([]:List Value).toArray}).objs.size=acc+1:=by rw [Heap.size_push,hacc]
 have kp3:∀ b o,s₂.heap.get? b=some o->(s₂.heap.push {cls:=.type "list",data:=.seq ([]:List Value).toArray}).get? b=some o:=fun b o e=>Heap.get?_push_of_some _ e;show wpAny _ _ _ _ _ {s₂ with heap:=s₂.heap.push {cls:=.type "list",data:=.seq ([]:List Value).toArray}};generalize hs3:({s₂ with heap:=s₂.heap.push {cls:=.type "list",data:=.seq ([]:List Value).toArray}}:Shared)=s₃ at I3 ⊢;have ha3':s₃.heap.get? acc=some (LCg.lst []):=by rw [<- hs3];exact ha3
 have sz3':s₃.heap.objs.size=acc+1:=by rw [<- hs3];exact sz3
 have kp3':∀ b o,s₂.heap.get? b=some o->s₃.heap.get? b=some o:=by rw [<- hs3];exact kp3
 have flt:∀ b∈fp,b<acc:=fun b hb=>by
  obtain ⟨o,e,_⟩:=T.obj 0 _ st2 b hb;rw [<- hacc];exact Heap.lt_size e
 have fne:∀ b∈fp,b≠acc:=fun b hb=>Nat.ne_of_lt (flt b hb);have tn3:tn 0 s₃.heap:=T.keep 0 _ _ st2 fun b hb o e=>kp3' b o e;refine z1l ?_;rw [wc];have hex:∀ b∈acc::fp,b<s₃.heap.objs.size/\H2 b=none/\b≠X.env.locals/\b∉X.fs/\(b∈X.ex\/X.s₀.heap.objs.size<=b)/\(∀ x c,X.env.cells.lookup x=some c->c≠b):=fun b hb=>by
  rcases List.mem_cons.mp hb with z | hb
  ·subst z;exact ⟨by rw [sz3'];exact Nat.lt_succ_self _,hf2,fA.2.1,fA.2.2.1,fA.2.2.2.1,fA.2.2.2.2.1⟩
  ·have q:=f2 b hb;exact ⟨by rw [sz3'];exact Nat.lt_succ_of_lt (flt b hb),q.1,q.2.1,q.2.2.1,q.2.2.2.1,q.2.2.2.2.1⟩
 have I4:=z2y (N':=N') (mp:=mp) (ex:=acc::fp) (s1:={s₃ with heap:=pushCells (s₃.heap.push {cls:=.type "dict",data:=.dict #[]}) scope.names}) I3 hkd hnm hfr hmp hex rfl rfl rfl;have kp4:∀ b o,s₃.heap.get? b=some o->(pushCells (s₃.heap.push {cls:=.type "dict",data:=.dict #[]}) scope.names).get? b=some o:=fun b o e=>pushCells_keeps _ _ b o (Heap.get?_push_of_some _ e);generalize hs4:({s₃ with heap:=pushCells (s₃.heap.push {cls:=.type "dict",data:=.dict #[]}) scope.names}:Shared)=s₄ at I4 ⊢;have ha4:s₄.heap.get? acc=some (LCg.lst []):=by rw [<- hs4];exact kp4 _ _ ha3'
 have tn4:tn 0 s₄.heap:=T.keep 0 _ _ tn3 fun b hb o e=>by rw [<- hs4];exact kp4 b o e
 have Cne:acc≠s₃.heap.objs.size:=by rw [sz3'];exact Nat.ne_of_lt (Nat.lt_succ_self _)
 have celln:∀ b∈acc::fp,∀ x c,(z6k X scope s₃.heap.objs.size).cells.lookup x=some c->c≠b:=fun b hb=>(I4.ok.exf b hb).2;have stat:∀ {H':Hp} {o:Obj},(∀ b∈fp,H' b=none)->∀ b∈fp,z1W (zj X N' scope (acc::fp) s₃ H2) [(acc,o)] H' b:=fun {H' o} hn b hb=> ⟨hn b hb,Nat.ne_of_lt (by show b<s₃.heap.objs.size;rw [sz3'];exact Nat.lt_succ_of_lt (flt b hb)),fun hf=>I4.ok.exfs b (List.mem_cons_of_mem _ hb) hf,.inl (List.mem_cons_of_mem _ hb),celln b (List.mem_cons_of_mem _ hb),fun p hp=>by
   have e:p=(acc,o):=by simpa [zj] using hp
   rw [e];exact Ne.symm (fne b hb)⟩;have pinA:∀ {O':St} {H':Hp} {s':Shared} {its:List Value},Inv (zj X N' scope (acc::fp) s₃ H2) [] O' H' s'->H' acc=none->s'.heap.get? acc=some (LCg.lst its)->Inv (zj X N' scope (acc::fp) s₃ H2) [(acc,LCg.lst its)] O' H' s':=fun {O' H' s' its} J' n' e'=> J'.pins_of fun p hp=>by
   have e:p=(acc,LCg.lst its):=by simpa using hp
   subst e;refine ⟨e',n',Cne,fun hf=>I4.ok.exfs acc List.mem_cons_self hf,fun v z=>?_⟩;have z':Data.seq _ _=Data.cell v:=z;cases z'
 obtain ⟨m0,w0⟩:=w0;have loop:codeAny (model X.prog X.w) X.A (.compLoop (.ListComp elt [⟨tg,iter,ifs,0⟩] scope pos) 0 (.ref it) (.ref acc) (z6k X scope s₃.heap.objs.size)) (RR (.ref acc) s₃.heap.objs.size) s₄:=by
  refine z4g (fun n s'=>∃ i ys its H',Inv (zj X N' scope (acc::fp) s₃ H2) [] (inner mp O) H' s'/\tn i s'.heap/\(∀ b∈fp,H' b=none)/\H' acc=none/\s'.heap.get? acc=some (LCg.lst its)/\xb ys its/\W i n ys H') ?_ m0 ⟨0,[],[],H2,I4,tn4,fun b hb=>(f2 b hb).1,hf2,ha4,.nil,w0⟩;rintro n s5 ⟨i,ys,its,H5,I5,tn5,n5,na5,ea5,rv5,w5⟩;have I5':=pinA I5 na5 ea5;rcases turn i n ys H5 w5 with ⟨stop,hz,q⟩ | ⟨go,step⟩
  ·refine wpAny_mono (T.done (zj X N' scope (acc::fp) s₃ H2) rfl rfl rfl hc i _ s5 _ H5 (fun _ _=>False) I5' (stat n5) tn5 stop) (fun r s6 ⟨hr,I6⟩=>?_) fun _ _ z=>z;subst hr;have ea6:=(I6.pin (acc,LCg.lst its) (by simp)).1;have un:Un (frs X.stack) (acc::fp) H2 H5 s₃.heap s6.heap:=I6.base;have I7:Inv X pins O H5 s6:=I3.call' (s':=s6) (I6.os) un I6.hok I6.bare fun b hb=>by
    rcases List.mem_cons.mp hb with z | hb;·subst z;exact ⟨fA.2.2.2.1,fA.2.1,fA.2.2.2.2.1,fA.2.2.2.2.2⟩
    ·exact ⟨(f2 b hb).2.2.2.1,(f2 b hb).2.1,(f2 b hb).2.2.2.2.1,(f2 b hb).2.2.2.2.2⟩
   have C7:z1W X pins H5 s₃.heap.objs.size:=I3.fpOk (Nat.le_refl _) I6.free;refine hRR _ _ s6 ⟨.ref acc,upd H5 acc (.lst ys),I7.track ⟨na5,fA.2⟩ ?_,rfl,q acc na5,?_,?_,C7.2⟩;·exact ⟨hz,its,_,rv5,ea6⟩
   ·obtain ⟨m,hm,_⟩:=I6.loc;exact ⟨m,hm⟩
   ·rw [zw (Ne.symm Cne)];exact I6.free
  ·refine wpAny_mono (T.item (zj X N' scope (acc::fp) s₃ H2) rfl rfl rfl hc i _ s5 _ H5 (fun _ _=>False) I5' (stat n5) tn5 go) (fun r s6 ⟨u,hr,h6⟩=>?_) fun _ _ z=>z;subst hr;refine wpAny_mono h6 (fun _ s7 ⟨x,H7,I7,r7,y7,tn7,n7⟩=>?_) fun _ _ z=>z;have I7':=I7.pinned (stat n7) (T.obj _ _ tn7);refine wpAny_mono (hg _ _ _ _ s7 (inner mp O) H7 x u _ I7' r7 (step x H7 y7)) (fun _ s8 ⟨O8,H8,I8,⟨kl,kv⟩,q8⟩=>?_) fun _ _ z=>z;refine wpAny_mono (ht _ _ _ _ s8 O8 H8 _ I8 q8) (fun b s9 ⟨H9,I9,q9⟩=>?_) fun _ _ z=>z;have pinB:∀ {O':St} {H':Hp} {s':Shared},Inv (zj X N' scope (acc::fp) s₃ H2) ([(acc,LCg.lst its)]++z2u fp s7.heap) O' H' s'->(∀ b∈fp,H' b=none)/\H' acc=none/\s'.heap.get? acc=some (LCg.lst its)/\tn (i+1) s'.heap/\∀ b∈fp,∀ o,s7.heap.get? b=some o->s'.heap.get? b=some o:=fun {O' H' s'} J'=>by
    have z:=J'.pin (acc,LCg.lst its) (by simp [zj]);have zz:∀ b∈fp,∀ o,s7.heap.get? b=some o->s'.heap.get? b=some o/\H' b=none:=fun b hb o e=>by
     have y:=J'.pin (b,o) (List.mem_append_right _ (List.mem_append_right _ (ul hb e)));exact ⟨y.1,y.2.1⟩
    refine ⟨fun b hb=>?_,z.2.1,z.1,T.keep _ _ _ tn7 fun b hb o e=>(zz b hb o e).1,fun b hb o e=>(zz b hb o e).1⟩;obtain ⟨o,e,_⟩:=T.obj _ _ tn7 b hb;exact (zz b hb o e).2
   cases b with
   | false=>
    rw [if_neg (by decide)] at q9 ⊢;obtain ⟨m',lt,w9⟩:=q9;obtain ⟨z1,z2,z3,z4,_⟩:=pinB I9;exact ⟨m',lt,i+1,ys,its,H9,(I9.pins_of (pins':=[]) (fun p hp=>absurd hp (by simp))).weak kl.symm kv,z4,z1,z2,z3,rv5,w9⟩ | true=>
    rw [if_pos rfl] at q9 ⊢;refine wpAny_mono (he _ _ _ _ s9 O8 H9 _ I9 q9) (fun yv s10 ⟨y,H10,I10,r10,hz,m',lt,w10⟩=>?_) fun _ _ z=>z;obtain ⟨z1,z2,z3,z4,_⟩:=pinB I10;have zl:its.toArray.size<=sizeLine:=by rw [List.size_toArray,<- rv5.length];exact hz
    refine append_at (hsz:=zl) z3 fun h11 sb ea11=>?_;have I10':=(I10.pins_of (pins':=[]) (fun p hp=>absurd hp (by simp))).weak kl.symm kv;have I11:Inv (zj X N' scope (acc::fp) s₃ H2) [] (inner mp O) H10 {s10 with heap:=h11}:=I10'.turned (t':=s10.toks) (fun b o hb e=>(sb.2 b hb).trans e) z2 Cne (.inl List.mem_cons_self) (celln acc List.mem_cons_self) (fun p hp=>absurd hp (by simp [zj]));exact ⟨m',lt,i+1,ys++[y],its++[yv],H10,I11,T.keep _ _ _ z4 (fun b hb o e=>(sb.2 b (fne b hb)).trans e),z1,z2,ea11.trans (congrArg some (LCg.lst_snoc its yv)),rv5.append (.cons r10 .nil),w10⟩
 exact codeAny_compStart_list loop (T.self _ 0 _ _ _ tn4 loop)
section
variable {X:Cx}{tg iter elt:Expr}{ifs:List Expr}{scope:Scope}{pos spos py:Pos}{wi:TI}{g:TG}{ti:TT}{te:TE}{N':List Str}{mp:List (Option Nat)}
theorem uS{pins:List (Addr×Obj)}{O:St}{H:Hp}{s:Shared}{h':Heap}{C:Addr}(I:Inv X pins O H s)(f:z1W X pins H C)(sb:Heap.SameBut C s.heap h'):Inv X pins O H {s with heap:=h'}:= I.turned (t':=s.toks) (fun b o hb e=>(sb.2 b hb).trans e) f.1 f.2.1 f.2.2.2.1 f.2.2.2.2.1 f.2.2.2.2.2
theorem zdr (N':List Str) (mp:List (Option Nat)) (hc:X.calm=true) (hi:PI X tg iter wi) (hg:∀ ex s H,PG (zj X N' scope ex s H) tg g) (ht:∀ ex s H,z6y (zj X N' scope ex s H) ifs ti) (he:∀ ex s H,PE (zj X N' scope ex s H) elt te) (hkd:scope.kind=.function) (hnm:∀ y∈scope.names,scope.names.lookup y.1=some y.2) (hfr:∀ y∈scope.names,y.2=.free->X.env.kindOf y.1=some .cell\/X.env.kindOf y.1=some .free) (hmp:z0x X.N scope.names N' mp=true) (hs:∀ x,foldedSetIterable iter X.env x=pure x:=by intro _;rfl):PE X (.ListComp elt [⟨tg,iter,ifs,0⟩] scope pos) (zbA wi mp g ti te):=by
 intro pins s O H Q I h;rw [eval_ListComp];refine wpAny_comprehension_free (use:=none) rfl hs (vd fun y hy hf=>I.ok.has _ (hfr y hy hf)) hkd (fun y hy hl=>by rw [hnm y hy,hl]) (thn (hi pins s O H _ I h) fun xv s₁ h₁=>thn h₁ fun itv s₂ h₂=>?_);obtain ⟨it,fp,tn,J,H2,e,I2,T,st2,f2,W,w0,turn⟩:=h₂;subst e;refine kq (N':=N') (mp:=mp) (O:=O) (pins:=pins) (Q:=Q) (RR:=fun acc C=>compPost (model X.prog X.w) X.A X.xe none (EP X pins O Q) acc C) hc hg ht he hkd hnm hfr hmp I2 T st2 f2 W w0 turn ?_;rintro acc C s' ⟨v,Hf,I3,r,q,⟨m,hm⟩,f⟩;exact ⟨m,hm,fun h' sb=>⟨v,Hf,uS I3 f sb,r,q⟩⟩
theorem z7M {i:Nat} {y:Str} (N':List Str) (mp:List (Option Nat)) (hN:X.N.Nodup) (hy:X.N[i]? = some y) (hyl:Loc X.env.scope y) (hc:X.calm=true) (hi:PI X tg iter wi) (hg:∀ ex s H,PG (zj X N' scope ex s H) tg g) (ht:∀ ex s H,z6y (zj X N' scope ex s H) ifs ti) (he:∀ ex s H,PE (zj X N' scope ex s H) elt te) (hkd:scope.kind=.function) (hnm:∀ y∈scope.names,scope.names.lookup y.1=some y.2) (hfr:∀ y∈scope.names,y.2=.free->X.env.kindOf y.1=some .cell\/X.env.kindOf y.1=some .free) (hmp:z0x X.N scope.names N' mp=true) (hs:∀ x,foldedSetIterable iter X.env x=pure x:=by intro _;rfl) (hsw:swapsWith (.ListComp elt [⟨tg,iter,ifs,0⟩] scope pos) (some (.Name y py)) spos.line X.env=pure true:=by rfl) (hf:X.fn y=true\/X.env.scope.names.lookup y=some .local:=by first | exact .inl rfl | exact .inr rfl | assumption): PS X (.Assign [.Name y py] (.ListComp elt [⟨tg,iter,ifs,0⟩] scope pos) spos) (zhk (zbA wi mp g ti te) (z04 i)):=by
 intro pins s O H D I h;rw [exec_Assign_Name_used _ _ _ _ hsw];refine wpAny_bind (wpAny_standAt (wpAny_bind ?_));show wpAny _ X.A (do let _ <- comprehension (.ListComp elt [⟨tg,iter,ifs,0⟩] scope pos) scope X.env _ (newList []) false (eval iter X.env) (some (assign (.Name y py) X.env))) _ _ s;refine wpAny_bind (wpAny_mono (wpAny_comprehension_free (use:=some (assign (.Name y py) X.env)) (Q:=fun _ s'=>SP X pins D .next s') rfl hs (vd fun y hy hf=>I.ok.has _ (hfr y hy hf)) hkd (fun y hy hl=>by rw [hnm y hy,hl]) (thn (hi pins s O H _ I h) fun xv s₁ h₁=>thn h₁ fun itv s₂ h₂=>?_)) (fun _ s' hq=>wpAny_pure (wpAny_pure hq)) fun _ _ e=>e);obtain ⟨it,fp,tn,J,H2,e,I2,T,st2,f2,W,w0,turn⟩:=h₂;subst e;refine kq (N':=N') (mp:=mp) (O:=O) (pins:=pins) (Q:=fun v H'=>D.nx (O.set i (some v)) H') (RR:=fun acc C=>compPost (model X.prog X.w) X.A X.xe (some (assign (.Name y py) X.env)) (fun _ s'=>SP X pins D .next s') acc C) hc hg ht he hkd hnm hfr hmp I2 T st2 f2 W w0 turn ?_;rintro acc C s' ⟨v,Hf,I3,r,q,⟨m,hm⟩,f⟩;refine wpAny_assign_Name (jT I3 hN hy hyl r (fun s'' I4 ⟨a,sb,ha⟩=>?_) hf);have hC:C≠a:=by
  rcases ha with z | z;·rw [z];exact f.2.1
  ·exact Ne.symm (f.2.2.2.2.1 y a z)
 exact ⟨m,hm.sameBut sb hC,fun h' sb'=>⟨_,Hf,uS I4 f sb',q⟩⟩
end
section
variable {κ:Type} [DecidableEq κ]
def vc(kvs:List (κ×V))(k:κ):Option V:=(kvs.find? fun kv=>decide (kv.1=k)).map (·.2)
def um(kvs:List (κ×V))(k:κ)(v:V):List (κ×V):= if (kvs.any fun kv=>decide (kv.1=k))=true then kvs.map (fun kv=>if kv.1=k then (kv.1,v) else kv) else kvs++[(k,v)]
theorem wn{p:κ×V}{r:List (κ×V)}{k:κ}(e:p.1=k):vc (p::r) k=some p.2:=by simp [vc,List.find?_cons,e]
theorem wf{p:κ×V}{r:List (κ×V)}{k:κ}(e:¬ p.1=k):vc (p::r) k=vc r k:=by simp [vc,List.find?_cons,e]
theorem jK(k:κ):∀ kvs:List (κ×V),(kvs.any fun kv=>decide (kv.1=k))=(vc kvs k).isSome
 | []=>rfl | p::r=>by
  rw [List.any_cons];by_cases e:p.1=k;·simp only [wn e,decide_eq_true e,Bool.true_or,Option.isSome_some]
  ·rw [wf e,decide_eq_false e,Bool.false_or];exact jK k r
theorem z6V(k j:κ)(y:V):∀ kvs:List (κ×V),vc (kvs.map fun kv=>if kv.1=k then (kv.1,y) else kv) j=(vc kvs j).map fun x=>if j=k then y else x
 | []=>rfl | p::r=>by
  have ih:=z6V k j y r;rw [List.map_cons];by_cases h:p.1=k
  ·rw [if_pos h];by_cases e:p.1=j;·rw [wn (p:=(p.1,y)) e,wn e,Option.map_some,if_pos (e.symm.trans h)]
   ·rw [wf (p:=(p.1,y)) e,wf e,ih]
  ·rw [if_neg h];by_cases e:p.1=j;·rw [wn (p:=p) e,wn e,Option.map_some,if_neg (fun z=>h (e.trans z))]
   ·rw [wf (p:=p) e,wf e,ih]
theorem z4P(k j:κ)(y:V):∀ kvs:List (κ×V),vc kvs k=none->vc (kvs++[(k,y)]) j=if j=k then some y else vc kvs j
 | [],_=>by
  by_cases e:k=j;·rw [if_pos e.symm];exact wn (p:=(k,y)) e
  ·rw [if_neg (fun z=>e z.symm)];exact wf (p:=(k,y)) e | p::r,hn=>by
  rw [List.cons_append];have hk:¬ p.1=k:=fun z=>by rw [wn z] at hn;cases hn
  rw [wf hk] at hn;have ih:=z4P k j y r hn;by_cases e:p.1=j;·rw [wn e,wn e,if_neg (fun z=>hk (e.trans z))]
  ·rw [wf e,wf e,ih]
theorem z0l(kvs:List (κ×V))(k j:κ)(y:V):vc (um kvs k y) j=if j=k then some y else vc kvs j:=by
 unfold um;by_cases a:(kvs.any fun kv=>decide (kv.1=k))=true
 ·rw [if_pos a,z6V];rw [jK] at a;by_cases e:j=k
  ·obtain ⟨x,hx⟩:=Option.isSome_iff_exists.mp a;rw [if_pos e,e,hx,Option.map_some,if_pos rfl]
  ·rw [if_neg e];cases vc kvs j with
   | none=>rfl | some x=>rw [Option.map_some,if_neg e]
 ·rw [if_neg a];refine z4P k j y kvs ?_;rw [jK] at a;cases q:vc kvs k with
  | none=>rfl | some x=>rw [q] at a;exact (a rfl).elim
theorem z1k(kvs:List (κ×V))(k:κ)(v:V):(um kvs k v).length<=kvs.length+1:=by
 unfold um;split;·rw [List.length_map];omega
 ·rw [List.length_append,List.length_cons,List.length_nil];omega
theorem z88.isSome_eq{o:Option V}{u:Option Value}(r:z88 o u):o.isSome=u.isSome:=by cases o with
 | none=>cases u with
  | none=>rfl | some _=>exact (show False from r).elim
 | some _=>cases u with
  | none=>exact (show False from r).elim | some _=>rfl
theorem z88.getD{o:Option V}{u:Option Value}{d:V}{d':Value}(r:z88 o u)(rd:yB d d'):yB (o.getD d) (u.getD d'):=by cases o with
 | none=>cases u with
  | none=>exact rd | some _=>exact (show False from r).elim
 | some _=>cases u with
  | none=>exact (show False from r).elim | some _=>exact r
theorem KV.val{kvs:List (κ×V)}{vs:List (κ×Value)}(r:KV kvs vs)(k:κ):z88 (vc kvs k) (valueAt vs k):=by
 unfold KV at r;induction r with
 | nil=>exact True.intro | @cons p q ps qs h t ih=>
  obtain ⟨h1,h2⟩:=h;by_cases e:p.1=k
  ·have e':q.1=k:=h1.symm.trans e;have b:valueAt (q::qs) k=some q.2:=by simp [valueAt,List.find?_cons,e']
   rw [wn e,b];exact h2
  ·have e':¬ q.1=k:=fun z=>e (h1.trans z);have b:valueAt (q::qs) k=valueAt qs k:=by simp [valueAt,List.find?_cons,e']
   rw [wf e,b];exact ih
theorem KV.any{kvs:List (κ×V)}{vs:List (κ×Value)}(r:KV kvs vs)(k:κ):(kvs.any fun kv=>decide (kv.1=k))=vs.any fun kv=>decide (kv.1=k):=by
 unfold KV at r;induction r with
 | nil=>rfl | cons h t ih=>rw [List.any_cons,List.any_cons,ih,h.1]
theorem KV.repl{kvs:List (κ×V)}{vs:List (κ×Value)}(r:KV kvs vs)(k:κ){y:V}{u:Value}(ry:yB y u): KV (kvs.map fun kv=>if kv.1=k then (kv.1,y) else kv) (vs.map fun kv=>if kv.1=k then (kv.1,u) else kv):=by
 unfold KV at r ⊢;induction r with
 | nil=>exact .nil | @cons p q ps qs h t ih=>
  rw [List.map_cons,List.map_cons];refine .cons ?_ ih;obtain ⟨h1,h2⟩:=h;by_cases e:p.1=k;·rw [if_pos e,if_pos (h1.symm.trans e)];exact ⟨h1,ry⟩
  ·rw [if_neg e,if_neg (fun z=>e (h1.trans z))];exact ⟨h1,h2⟩
theorem KV.put{kvs:List (κ×V)}{vs:List (κ×Value)}(r:KV kvs vs)(k:κ){y:V}{u:Value}(ry:yB y u):KV (um kvs k y) (stored vs k u):=by
 unfold um stored;rw [r.any k];by_cases e:(vs.any fun kv=>decide (kv.1=k))=true;·rw [if_pos e,if_pos e];exact r.repl k ry
 ·rw [if_neg e,if_neg e];exact Paired.snoc r ⟨rfl,ry⟩
theorem KV.length{kvs:List (κ×V)}{vs:List (κ×Value)}(r:KV kvs vs):kvs.length=vs.length:=Paired.length r
end
theorem z87{P:Program}{w:World}{k:Key}{u:Value}(r:yB (kV k) u):(zG P w).is k u=true:=by cases k with
 | inl i=>obtain ⟨t,e⟩:=(show ∃ t,u=Value.int i t from r);subst e;exact z5n P w i t | inr x=>obtain ⟨t,e⟩:=(show ∃ t,u=Value.str x t from r);subst e;exact z0K P w x t
theorem z4c{P:Program}{w:World}:∀ {ks:List Key}{us:List Value},xb (ks.map kV) us->ItemsAre (zG P w) ks us
 | [],_,r=>by rw [List.map_nil] at r;cases r;exact .nil | k::ks,_,r=>by
  rw [List.map_cons] at r;cases r with | cons h t=>exact .cons (z87 h) (z4c t)
abbrev KT(H:Hp):List (List Key×V)->List (List Key×Addr×Value)->Prop:=Paired fun p q=>p.1=q.1/\H q.2.1=some (.tup (p.1.map kV))/\yB p.2 q.2.2
theorem KT.val{H:Hp}{kvs:List (List Key×V)}{xs:List (List Key×Addr×Value)}(r:KT H kvs xs)(k:List Key):z88 (vc kvs k) ((atKey xs k).map (·.2)):=by induction r with
 | nil=>exact True.intro | @cons p q ps qs h t ih=>
  obtain ⟨h1,_,h2⟩:=h;by_cases e:p.1=k
  ·have e':q.1=k:=h1.symm.trans e;have b:atKey (q::qs) k=some q.2:=by simp [atKey,List.find?_cons,e']
   rw [wn e,b];exact h2
  ·have e':¬ q.1=k:=fun z=>e (h1.trans z);have b:atKey (q::qs) k=atKey qs k:=by simp [atKey,List.find?_cons,e']
   rw [wf e,b];exact ih
theorem KT.repl{H:Hp}{kvs:List (List Key×V)}{xs:List (List Key×Addr×Value)}(r:KT H kvs xs)(k:List Key){y:V}{u:Value}(ry:yB y u): KT H (kvs.map fun kv=>if kv.1=k then (kv.1,y) else kv) (xs.map (putAt k u)):=by induction r with
 | nil=>exact .nil | @cons p q ps qs h t ih=>
  rw [List.map_cons,List.map_cons];refine .cons ?_ ih;obtain ⟨h1,h2,h3⟩:=h;unfold putAt;by_cases e:p.1=k;·rw [if_pos e,if_pos (h1.symm.trans e)];exact ⟨h1,h2,ry⟩
  ·rw [if_neg e,if_neg (fun z=>e (h1.trans z))];exact ⟨h1,h2,h3⟩
theorem KT.put{H:Hp}{kvs:List (List Key×V)}{xs:List (List Key×Addr×Value)}(r:KT H kvs xs)(k:List Key){b:Addr}{y:V}{u:Value}(hb:H b=some (.tup (k.map kV)))(ry:yB y u): KT H (um kvs k y) (storedH xs k b u):=by
 have e:(kvs.any fun kv=>decide (kv.1=k))=(atKey xs k).isSome:=by rw [jK,(r.val k).isSome_eq,Option.isSome_map]
 unfold um storedH;rw [e];by_cases q:(atKey xs k).isSome=true;·rw [if_pos q,if_pos q];exact r.repl k ry
 ·rw [if_neg q,if_neg q];exact Paired.snoc r ⟨rfl,hb,ry⟩
theorem KT.keeps{H H':Hp}{kvs:List (List Key×V)}{xs:List (List Key×Addr×Value)}(r:KT H kvs xs)(ht:∀ b ys,H b=some (.tup ys)->H' b=some (.tup ys)):KT H' kvs xs:= Paired.mapP r fun _ _ z=>⟨z.1,ht _ _ z.2.1,z.2.2⟩
section
variable {P:Program}{w:World}{H:Hp}{h:Heap}{a:Addr}
theorem zfT{u:HO}(ok:HOk P w H h)(e:Rd H a u):xx P w H h a u:=e.ok ok
theorem z6l{kvs:List (Key×V)}(ok:HOk P w H h)(e:Rd H a (.dK kvs)):kvs.length<=sizeLine/\(a==sysModules)=false/\∃ vs,KV kvs vs/\h.DictOf (zG P w) a vs:= show xx P w H h a (.dK kvs) from zfT ok e
theorem zi2{kvs:List (Key×V)}(ok:HOk P w H h)(e:H a=some (.dK kvs)):kvs.length<=sizeLine/\(a==sysModules)=false/\∃ vs,KV kvs vs/\h.DictOf (zG P w) a vs:=z6l ok (.inl e)
theorem z2p{ks:List Key}(ok:HOk P w H h)(e:H a=some (.tup (ks.map kV))):(tupleKind (zG P w)).is h ks a:=by
 obtain ⟨_,its,r,o,h1,h2,_,n,h3⟩:=(show xx P w H h a (.tup (ks.map kV)) from ok a _ e);exact ⟨o,its.toArray,n,h1,h2,h3,by simpa using z4c r⟩
theorem z6f{kvs:List (List Key×V)}(ok:HOk P w H h)(e:Rd H a (.dT kvs)):kvs.length<=sizeLine/\(a==sysModules)=false/\ ∃ xs,KT H kvs xs/\h.DictOfH (tupleKind (zG P w)) a xs:=by
 obtain ⟨z,y,xs,r,o,es,ep,h1,h2,h3,h4,h5⟩:=(show xx P w H h a (.dT kvs) from zfT ok e);refine ⟨z,y,xs,r,o,es,ep,h1,h2,h3,h4,fun x hx=>?_,h5⟩;have all:∀ {l:List (List Key×V)}{m:List (List Key×Addr×Value)},KT H l m->∀ x∈m,(tupleKind (zG P w)).is h x.1 x.2.1:=by
  intro l m q;induction q with
  | nil=>intro x hx;exact nomatch hx | @cons p q ps qs hq t ih=>
   intro x hx;rcases List.mem_cons.mp hx with e | hx
   ·subst e;exact z2p ok (by rw [<- hq.1];exact hq.2.1)
   ·exact ih x hx
 exact all r x hx
theorem zh8{kvs:List (List Key×V)}(ok:HOk P w H h)(e:H a=some (.dT kvs)):kvs.length<=sizeLine/\(a==sysModules)=false/\ ∃ xs,KT H kvs xs/\h.DictOfH (tupleKind (zG P w)) a xs:=z6f ok (.inl e)
end
def zaB(H:Hp)(a:Addr)(y:V)(r:Option V):Prop:= (∃ kvs k,Rd H a (.dK kvs)/\y=kV k/\r=vc kvs k)\/∃ kvs k b,Rd H a (.dT kvs)/\y=.ref b/\H b=some (.tup (k.map kV))/\r=vc kvs k
def zgu(H:Hp)(a:Addr)(y v:V)(H':Hp):Prop:= (∃ kvs k,H a=some (.dK kvs)/\y=kV k/\kvs.length<sizeLine/\H'=upd H a (.dK (um kvs k v)))\/ ∃ kvs k b,H a=some (.dT kvs)/\y=.ref b/\H b=some (.tup (k.map kV))/\kvs.length<sizeLine/\H'=upd H a (.dT (um kvs k v))
theorem zgu.t{H:Hp}{a b:Addr}{kvs:List (List Key×V)}{k:List Key}{v:V}(e:H a=some (.dT kvs))(eb:H b=some (.tup (k.map kV)))(hl:kvs.length<sizeLine): zgu H a (.ref b) v (upd H a (.dT (um kvs k v))):=.inr ⟨kvs,k,b,e,rfl,eb,hl,rfl⟩
section
variable {X:Cx}{pins:List (Addr×Obj)}{O:St}{H:Hp}{s:Shared}{a:Addr}{y v:V}{u r:Value}{o:Option V}{A:Around}{E:Value->Shared->Prop}
theorem Inv.big(I:Inv X pins O H s):sysModules<s.heap.objs.size:=by
 have h:mainGlobals<s.heap.objs.size:=(I.mod.glob.keeps I.bk).lt;exact Nat.lt_trans (by decide) h
theorem z9c {Q:Value->Shared->Prop} (hu:A.units+1<cLine) (I:Inv X pins O H s) (g:zaB H a y (some v)) (ry:yB y u) (h:∀ w' s',Inv X pins O H s'->yB v w'->Q w' s'): wpAny (model X.prog X.w) A (getItem (.ref a) u) Q E s:=by
 rcases g with ⟨kvs,k,e,ey,l⟩ | ⟨kvs,k,b,e,ey,eb,l⟩
 ·subst ey;obtain ⟨z,hd,vs,rel,dd⟩:=z6l I.hok e;obtain ⟨w',hw,rw'⟩:=z88.some_of (v:=v) (o:=valueAt vs k) (by rw [l];exact rel.val k);exact wpAny_getItem_of (z87 ry) dd.mapOf hw (h w' _ (I.tok _) rw')
 ·subst ey;cases (show u=Value.ref b from ry);obtain ⟨z,hd,xs,rel,dd⟩:=z6f I.hok e;obtain ⟨w',hw,rw'⟩:=z88.some_of (v:=v) (o:=(atKey xs k).map (·.2)) (by rw [l];exact rel.val k);obtain ⟨p,hp,hp2⟩:=Option.map_eq_some_iff.mp hw;refine wpAny_getItem_heap (tupleKind_room_in1 hu) (z2p I.hok eb) dd hp ?_;rw [hp2];exact h w' _ (I.tok _) rw'
theorem zjH{Q:Value->Shared->Prop}(hu:A.units+1<cLine)(I:Inv X pins O H s)(g:zaB H a y o)(ry:yB y u)(h:∀ s',Inv X pins O H s'->Q (.bool o.isSome) s'): wpAny (model X.prog X.w) A (compareOp .In u (.ref a)) Q E s:=by
 rcases g with ⟨kvs,k,e,ey,l⟩ | ⟨kvs,k,b,e,ey,eb,l⟩
 ·subst ey;obtain ⟨z,hd,vs,rel,dd⟩:=z6l I.hok e;refine wpAny_in_of (z87 ry) hd dd.mapOf ?_;rw [<- (rel.val k).isSome_eq,<- l];exact h _ (I.tok _)
 ·subst ey;cases (show u=Value.ref b from ry);obtain ⟨z,hd,xs,rel,dd⟩:=z6f I.hok e;refine wpAny_in_heap (tupleKind_room_in1 hu) (z2p I.hok eb) hd dd ?_;have q:=(rel.val k).isSome_eq;rw [Option.isSome_map] at q;rw [<- q,<- l];exact h _ (I.tok _)
theorem zdZ{Q:Value->Shared->Prop}(hu:A.units+1<cLine)(I:Inv X pins O H s)(g:zaB H a y o)(ry:yB y u)(h:∀ s',Inv X pins O H s'->Q (.bool (!o.isSome)) s'): wpAny (model X.prog X.w) A (compareOp .NotIn u (.ref a)) Q E s:=by
 rcases g with ⟨kvs,k,e,ey,l⟩ | ⟨kvs,k,b,e,ey,eb,l⟩
 ·subst ey;obtain ⟨z,hd,vs,rel,dd⟩:=z6l I.hok e;refine wpAny_notIn_of (z87 ry) hd dd.mapOf ?_;rw [<- (rel.val k).isSome_eq,<- l];exact h _ (I.tok _)
 ·subst ey;cases (show u=Value.ref b from ry);obtain ⟨z,hd,xs,rel,dd⟩:=z6f I.hok e;refine wpAny_notIn_heap (tupleKind_room_in1 hu) (z2p I.hok eb) hd dd ?_;have q:=(rel.val k).isSome_eq;rw [Option.isSome_map] at q;rw [<- q,<- l];exact h _ (I.tok _)
theorem z8f {h':Heap} {t':Nat} {ob:HO} (I:Inv X pins O H s) (mu:Mut (H a)) (hs:Heap.SameBut a s.heap h') (he:∃ q,h'.get? a=some q) (new:xx X.prog X.w (upd H a ob) h' a ob): Inv X pins O (upd H a ob) {s with heap:=h',toks:=t'}:= I.write (x:=a) (e:=a) mu (.inl rfl) (fun b q hb z=>(hs.2 b hb).trans z) he new
theorem zeB{P:Program}{w:World}{H':Hp}{h':Heap}{kvs:List (Key×V)}{vs:List (Key×Value)}(z:kvs.length<=sizeLine)(hd:(a==sysModules)=false)(rel:KV kvs vs)(dd:h'.DictOf (zG P w) a vs): xx P w H' h' a (.dK kvs):=⟨z,hd,vs,rel,dd⟩
theorem z8H{H':Hp}{Q:Unit->Shared->Prop}(hu:A.units+1<cLine)(I:Inv X pins O H s)(g:zgu H a y v H')(ry:yB y u)(rv:yB v r)(h:∀ s',Inv X pins O H' s'->Q () s'): wpAny (model X.prog X.w) A (setItem (.ref a) u r) Q E s:=by
 rcases g with ⟨kvs,k,e,ey,l,eH⟩ | ⟨kvs,k,b,e,ey,eb,l,eH⟩
 ·subst ey eH;obtain ⟨z,hd,vs,rel,dd⟩:=zi2 I.hok e;have hz:vs.length<=sizeLine:=by rw [<- rel.length];exact z
  have hl:(um kvs k v).length<=sizeLine:=by have:=z1k kvs k v;omega
  refine wpAny_setItem_pairs (hsz:=hz) (z87 ry) dd fun h' dd' hs=>h _ ?_;have he:∃ q,h'.get? a=some q:=let ⟨q,_,_,hq,_⟩:=dd';⟨q,hq⟩;exact z8f I (by rw [e];exact True.intro) hs he (zeB hl hd (rel.put k rv) dd')
 ·subst ey eH;cases (show u=Value.ref b from ry);obtain ⟨z,hd,xs,rel,dd⟩:=zh8 I.hok e;have hz:xs.length<=sizeLine:=by rw [<- Paired.length rel];exact z
  have hl:(um kvs k v).length<=sizeLine:=by have:=z1k kvs k v;omega
  refine wpAny_setItem_heap (hsz:=hz) (tupleKind_room_in1 hu) (z2p I.hok eb) dd fun h' dd' hs=>h _ ?_;obtain ⟨q,es,ep,hq,h2,h3,h4,_,h5⟩:=dd';refine z8f I (by rw [e];exact True.intro) hs ⟨q,hq⟩ ⟨hl,hd,_,(rel.put k eb rv).keeps fun c ys ec=>?_,q,es,ep,hq,h2,h3,h4,h5⟩;rw [zw (zh5 ec e (fun z=>nomatch z))];exact ec
end
def zhS(i:Expr):Prop:=∀ ov iv,subscripted i false ov iv=operate [ov,iv] (getItem ov iv)
theorem ze6{prog:Program}{w:World}{A:Around}{E:Value->Shared->Prop}{s:Shared}{env:Env}{value slice:Expr}{pos:Pos}{T id:String}{Q:Value->Shared->Prop} (hl:typeLookup (.type T) "__getitem__"=pure (some (.builtin id)))(hs:zhS slice) (h:wpAny (model prog w) A (eval value env) (fun o s₁=>wpAny (model prog w) A (eval slice env) (fun i s₂=>s₂.TypeIs o T/\wpAny (model prog w) A (getItem o i) Q E s₂) E s₁) E s): wpAny (model prog w) A (eval (.Subscript value slice pos) env) Q E s:=by
 refine Subscript_ (wpAny_mono h (fun o s₁ h₁=>wpAny_mono h₁ (fun i s₂ h₂=>?_) fun _ _ x=>x) fun _ _ x=>x);obtain ⟨hT,h₂⟩:=h₂;unfold subscriptTail;refine wpAny_bind ?_;rw [getitemInPython_of_ne hT.not_modules];refine wpAny_bind (wpAny_specialOf hT hl ?_);have fin:wpAny (model prog w) A (subscripted slice false o i) (fun r s₃=>wpAny (model prog w) A (letTemporaryGo value o r >>= fun _=>pure r) Q E s₃) E s₂:=by
  rw [hs o i];exact wpAny_operating (wpAny_mono h₂ (fun r s₃ h₃=>wpAny_bind (wpAny_letTemporaryGo (wpAny_pure h₃))) fun _ _ x=>x)
 first
  | exact wpAny_pure (wpAny_bind fin) | exact wpAny_bind (wpAny_pure (wpAny_bind fin)) | exact wpAny_bind fin
theorem z5Q{X:Cx}{pins:List (Addr×Obj)}{O:St}{H:Hp}{s:Shared}{a:Addr}{y:V}{o:Option V}(I:Inv X pins O H s)(g:zaB H a y o):s.TypeIs (.ref a) "dict":=by
 rcases g with ⟨kvs,k,e,_,_⟩ | ⟨kvs,k,b,e,_,_,_⟩
 ·obtain ⟨_,_,vs,_,dd⟩:=z6l I.hok e;exact dd.typeIs
 ·obtain ⟨_,_,xs,_,dd⟩:=z6f I.hok e;exact dd.typeIs
def zhq(td ty:TE):TE:=fun O H Q=>td O H fun x H1=>ty O H1 fun y H2=>∃ a v,x=.ref a/\zaB H2 a y (some v)/\Q v H2
def zho(td ty tv:TE):TS:=fun D O H=>tv O H fun v H1=>td O H1 fun x H2=>ty O H2 fun y H3=>∃ a H4,x=.ref a/\zgu H3 a y v H4/\D.nx O H4
section
variable {X:Cx}{o i e value:Expr}{pos pos' tpos:Pos}{td ty tv:TE}
theorem zcw(hu:X.A.units+1<cLine)(ho:PE X o td)(hi:PE X i ty)(hs:zhS i):PE X (.Subscript o i pos) (zhq td ty):=by
 intro pins s O H Q I h;refine ze6 PySem.F.slot_dict_getitem.lookup hs (thn (ho pins s O H _ I h) fun u s1 ⟨x,H1,I1,rx,q1⟩=>thn (hi pins s1 O H1 _ I1 q1) fun iv s2 ⟨y,H2,I2,ry,a,v,ex,g,q2⟩=>?_);subst ex;obtain rfl:u=Value.ref a:=rx;exact ⟨z5Q I2 g,z9c hu I2 g ry fun w' s3 I3 rw'=>⟨v,H2,I3,rw',q2⟩⟩
theorem zcO(hu:X.A.units+1<cLine)(ho:PE X o td)(hi:PE X i ty)(hv:PE X value tv)(hs:swapsWith value (some (.Subscript o i pos')) pos.line X.env=pure false): PS X (.Assign [.Subscript o i pos'] value pos) (zho td ty tv):=by
 intro pins s O H D I h;refine wpAny_Assign_Subscript (thn (hv pins s O H _ I h) fun r s1 ⟨v,H1,I1,rv,q1⟩=>thn (ho pins s1 O H1 _ I1 q1) fun u s2 ⟨x,H2,I2,rx,q2⟩=>thn (hi pins s2 O H2 _ I2 q2) fun iv s3 ⟨y,H3,I3,ry,a,H4,ex,g,q3⟩=>?_) hs;subst ex;obtain rfl:u=Value.ref a:=rx;exact z8H hu I3 g ry rv fun s4 I4=>⟨O,H4,I4,q3⟩
end
theorem zb0{P:Program}{w:World}{H:Hp}(h:Heap)(hb:sysModules<h.objs.size):xx P w H (h.push {cls:=.type "dict",data:=.dict #[]}) h.objs.size (.dT []):= ⟨Nat.zero_le _,beq_eq_false_iff_ne.mpr (Ne.symm (Nat.ne_of_lt hb)),[],.nil,_,#[],0,Heap.get?_push_size _ rfl,⟨rfl,rfl,rfl⟩,rfl,rfl,List.nodup_nil⟩
def zf9:TE:=fun _ H Q=>∀ p,H p=none->Q (.ref p) (upd H p (.dT []))
section
variable {X:Cx}{pos:Pos}
theorem zbu:PE X (.Dict [] [] pos) zf9:=fun pins s O H Q I h=> wpAny_Dict_empty ⟨.ref s.heap.objs.size,_,I.laid (a:=s.heap.objs.size) (o:=.dT []) (t':=s.toks) (fun _ _ q=>Heap.get?_push_of_some _ q) (Nat.le_refl _) (zb0 s.heap I.big),rfl,h _ (I.hok.fresh (Nat.le_refl _))⟩
end
structure M2(X:Cx)(o:Expr)(m:Str)(apos:Pos)(e f:Expr)(cpos:Pos):Prop where
 base:attributeBase o m X.env (eval o X.env)=eval o X.env
 few:((backTo cpos (starEach [e,f] X.env)).all (fun x=>!x.1)&&(backToKw cpos (keywordEach [] X.env)).all (fun x=>x.1.isSome) && decide (([e,f]:List Expr).length+([]:List Keyword).length+(if ([]:List Keyword).isEmpty then 0 else 1)<30))=true
 line:(apos.endLine==cpos.line)=true
 trees:backTo cpos (starEach [e,f] X.env)=[(false,eval e X.env),(false,eval f X.env)]
def IsD(H:Hp)(a:Addr):Prop:=(∃ kvs,Rd H a (.dK kvs))\/∃ kvs,Rd H a (.dT kvs)
theorem zfC{X:Cx}{pins:List (Addr×Obj)}{O:St}{H:Hp}{s:Shared}{a:Addr}(I:Inv X pins O H s)(d:IsD H a): s.TypeIs (.ref a) "dict"/\(∀ b,Value.ref a=.ref b->∃ ob,s.heap.get? b=some ob/\ob.dict=none)/\(a==sysModules)=false:=by
 rcases d with ⟨kvs,e⟩ | ⟨kvs,e⟩
 ·obtain ⟨_,hd,vs,_,dd⟩:=z6l I.hok e;refine ⟨dd.typeIs,fun b q=>?_,hd⟩;cases q;obtain ⟨ob,_,_,h1,h2,_⟩:=dd;exact ⟨ob,h1,h2.2.1⟩
 ·obtain ⟨_,hd,xs,_,dd⟩:=z6f I.hok e;refine ⟨dd.typeIs,fun b q=>?_,hd⟩;cases q;obtain ⟨ob,_,_,h1,h2,_⟩:=dd;exact ⟨ob,h1,h2.2.1⟩
section
variable {X:Cx}{pins:List (Addr×Obj)}{O:St}{H:Hp}{s:Shared}{a:Addr}{y d:V}{u r:Value}{o:Option V}{A:Around}{E:Value->Shared->Prop}
theorem zeL{Q:Value->Shared->Prop}(hu:A.units+1<cLine)(I:Inv X pins O H s)(g:zaB H a y o)(ry:yB y u)(rd:yB d r)(h:∀ w' s',Inv X pins O H s'->yB (o.getD d) w'->Q w' s'): wpAny (model X.prog X.w) A (call (.builtin "dict.get") [.ref a,u,r]) Q E s:=by
 rcases g with ⟨kvs,k,e,ey,l⟩ | ⟨kvs,k,b,e,ey,eb,l⟩
 ·subst ey;obtain ⟨z,hd,vs,rel,dd⟩:=z6l I.hok e;refine call_meetsIn PySem.F.slot_dict_get dd.typeIs PySem.F.entry_dict_get (PySem.F.args_dict_get_3 _ _ _) (meets_dict_get_default (zG X.prog X.w) a (z87 ry) hd r) ⟨_,dd.mapOf,h _ _ (I.tok _) ?_⟩;rw [l];exact (rel.val k).getD rd
 ·subst ey;cases (show u=Value.ref b from ry);obtain ⟨z,hd,xs,rel,dd⟩:=z6f I.hok e;refine call_meetsIn PySem.F.slot_dict_get dd.typeIs PySem.F.entry_dict_get (PySem.F.args_dict_get_3 _ _ _) (meetsH_dict_get_default (tupleKind (zG X.prog X.w)) a b hd r) ⟨tupleKind_room_in1 hu,k,xs,z2p I.hok eb,dd,h _ _ (I.tok _) ?_⟩;rw [l];exact (rel.val k).getD rd
end
def zfU(td ty tx:TE):TE:=fun O H Q=>td O H fun x H1=>∃ a,x=.ref a/\IsD H1 a/\ty O H1 fun y H2=>tx O H2 fun z H3=>∃ o,zaB H3 a y o/\Q (o.getD z) H3
section
variable {X:Cx}{o e f:Expr}{apos cpos:Pos}{td ty tx:TE}
theorem zaH(hu:X.A.units+1<cLine)(ho:PE X o td)(he:PE X e ty)(hf:PE X f tx)(m:M2 X o "get" apos e f cpos):PE X (.Call (.Attribute o "get" apos) [e,f] [] cpos) (zfU td ty tx):=by
 intro pins s O H Q I h;refine wpAny_Call_method m.base m.few m.line PySem.F.plainAttrs_dict PySem.F.slot_dict_get PySem.F.type_dict_get (thn (ho pins s O H _ I h) fun u s1 ⟨x,H1,I1,rx,a,ex,d,q1⟩=>?_);subst ex;obtain rfl:u=Value.ref a:=rx;obtain ⟨t1,t2,_⟩:=zfC I1 d;refine ⟨t1,t2,?_⟩;rw [m.trees];refine Calls.callWith_builtin rfl (Calls.evalArgs_plain (Calls.spliced_cons (thn (he pins s1 O H1 _ I1 q1) fun iv s2 ⟨y,H2,I2,ry,q2⟩=> Calls.spliced_cons (thn (hf pins s2 O H2 _ I2 q2) fun fv s3 ⟨z,H3,I3,rz,ov,g,q3⟩=>Calls.spliced_nil ?_))));exact zeL hu I3 g ry rz fun w' s4 I4 rw'=>⟨_,H3,I4,rw',q3⟩
end
end L2
set_option maxHeartbeats 4000000
namespace Dd
open PySem.Spec L2
theorem zaS(xs:List Expr)(k:Nat)(p:Pos)(es:List Expr)(env:Env):starEach (.Tuple xs k p::es) env=(false,eval (.Tuple xs k p) env)::starEach es env:=rfl
theorem zb9(xs:List Expr)(p:Pos)(es:List Expr)(env:Env):starEach (.List xs p::es) env=(false,eval (.List xs p) env)::starEach es env:=rfl
theorem qh(f:Expr)(xs:List Expr)(ks:List Keyword)(p:Pos)(es:List Expr)(env:Env):starEach (.Call f xs ks p::es) env=(false,eval (.Call f xs ks p) env)::starEach es env:=rfl
theorem zaM(a:Expr)(o:Operator)(b:Expr)(p:Pos)(es:List Expr)(env:Env):starEach (.BinOp a o b p::es) env=(false,eval (.BinOp a o b p) env)::starEach es env:=rfl
theorem z6N(a b:Expr)(p:Pos)(es:List Expr)(env:Env):starEach (.Subscript a b p::es) env=(false,eval (.Subscript a b p) env)::starEach es env:=rfl
theorem xg(a:Expr)(g:List Comprehension)(sc:Scope)(p:Pos)(es:List Expr)(env:Env):starEach (.ListComp a g sc p::es) env=(false,eval (.ListComp a g sc p) env)::starEach es env:=rfl
theorem z6v(a:Expr)(o:List CmpOp)(b:List Expr)(p:Pos)(es:List Expr)(env:Env):starEach (.Compare a o b p::es) env=(false,eval (.Compare a o b p) env)::starEach es env:=rfl
theorem z2v(c:Const)(j:Nat)(p:Pos)(es:List Expr)(env:Env):starEach (.Constant c j p::es) env=(false,eval (.Constant c j p) env)::starEach es env:=rfl
theorem zB(x:Str)(p:Pos)(es:List Expr)(env:Env):starEach (.Name x p::es) env=(false,eval (.Name x p) env)::starEach es env:=rfl
inductive D where | non | bl (b:Bool) | int (i:Int) | str (x:Str) | tup (xs:List D) | lst (xs:List D) | dct | loc (l:Nat) | dlo (l:Nat) | fn (x:Str) | exc (x:Str) | scr (xs:List D)
abbrev Sto:=List (List D)
abbrev Ev:=List (Option D)
inductive R(α:Type) where | ok (a:α)(s:Sto) | ex (c:Str)(s:Sto) | no
def R.bind{α β:Type}(r:R α)(k:α->Sto->R β):R β:=match r with
 | .ok a s=>k a s | .ex c s=>.ex c s | .no=>.no
@[simp] theorem R.bind_ok {α β:Type}(a:α)(s:Sto)(k:α->Sto->R β):(R.ok a s).bind k=k a s:=id rfl
@[simp] theorem R.bind_ex {α β:Type}(c:Str)(s:Sto)(k:α->Sto->R β):(R.ex c s:R α).bind k=.ex c s:=id rfl
@[simp] theorem R.bind_no {α β:Type}(k:α->Sto->R β):(R.no:R α).bind k=.no:=id rfl
def D.flat:D->Bool
 | .tup xs=>flats xs | .lst xs=>flats xs | .scr xs=>flats xs | .loc _=>false | .dlo _=>false | _=>true
where flats:List D->Bool
 | []=>true | x::xs=>x.flat&&flats xs
def zjd(C a:Addr):HO:=.ext fun h=>∃ o vs,h.get? a=some o/\o.cls=.ref C/\o.data=.fields vs
structure Gm where
 m:Str->Option Value
 K:W.Frag
abbrev gm(X:Cx):Gm:=⟨X.mg,X.K⟩
def IsL(H:Hp)(a:Addr):Prop:=∃ vs,H a=some (.lst vs)
def IsC(H:Hp)(a:Addr):Prop:=(∃ kvs,H a=some (.dT kvs))\/∃ o kvs,H a=some (.frz o (.dT kvs))
theorem IsL.notC{H:Hp}{a:Addr}(h:IsL H a)(h':IsC H a):False:=by obtain ⟨_,e⟩:=h;rcases h' with ⟨_,e'⟩ | ⟨_,_,e'⟩<;>rw [e] at e'<;>cases e'
def z55:Key->D
 | .inl i=>.int i | .inr x=>.str x
def z7W:V->Option D
 | .int i=>some (.int i) | .bl b=>some (.bl b) | _=>none
def zbz:List D->List (List Key×V)->Prop
 | [],kvs=>kvs=[] | d::ds,kvs=>∃ k v x r,kvs=(k,v)::r/\z7W v=some x/\d=.tup [.tup (k.map z55),x]/\zbz ds r
def KL(K:W.Frag)(a:Addr)(xs:List V):Prop:=∃ (o:Obj)(its:Array Value)(n:Nat),K.lookup a=some o/\o.cls=.type "list"/\o.dict=none/\o.data=.seq its n/\its.size<=sizeLine/\xb xs its.toList
section
variable (mg:Gm)
mutual
def Den(H:Hp)(Y:List Addr):D->V->Prop
 | .non,v=>v=.non | .bl b,v=>v=.bl b | .int i,v=>v=.int i | .str x,v=>v=.str x | .tup ds,v=>∃ a vs,v=.ref a/\H a=some (.tup vs)/\zr H Y ds vs | .lst ds,v=>∃ a o vs,v=.ref a/\H a=some (.frz o (.lst vs))/\zr H Y ds vs | .dct,v=>∃ a,v=.ref a/\H a=some (.dK []) | .loc l,v=>∃ a,v=.ref a/\Y[l]? = some a/\IsL H a | .dlo l,v=>∃ a,v=.ref a/\Y[l]? = some a/\IsC H a | .fn x,v=>∃ a,v=.ref a/\mg.m x=some (.ref a) | .exc x,v=>∃ a C,v=.ref a/\mg.m x=some (.ref C)/\H a=some (zjd C a) | .scr ds,v=>∃ a vs,v=.ref a/\((∃ o,H a=some (.frz o (.lst vs)))\/KL mg.K a vs)/\zr H Y ds vs
def zr(H:Hp)(Y:List Addr):List D->List V->Prop
 | [],vs=>vs=[] | d::ds,vs=>∃ v r,vs=v::r/\Den H Y d v/\zr H Y ds r
end
def uo(H:Hp)(Y:List Addr)(xs:List D)(a:Addr):Prop:=(∃ vs,H a=some (.lst vs)/\zr mg H Y xs vs)\/(∃ kvs,H a=some (.dT kvs)/\zbz xs kvs)\/∃ o kvs ys,H a=some (.frz o (.dT kvs))/\xs=.non::ys/\zbz ys kvs
structure Rep(H:Hp)(Y:List Addr)(s:Sto):Prop where
 len:Y.length=s.length
 nd:Y.Nodup
 cell:∀ (l:Nat)(xs:List D),s[l]? = some xs->∃ a,Y[l]? = some a/\uo mg H Y xs a
 flat:∀ xs∈s,D.flat.flats xs=true
structure xS(H:Hp)(Y:List Addr)(H':Hp)(Y':List Addr)(s':Sto):Prop where
 rep:Rep mg H' Y' s'
 pre:Y <+: Y'
 keep:∀ b o,H b=some o->b∉Y->H' b=some o
 new:∀ a∈Y',a∉Y->H a=none
 mt:∀ a∈Y,(IsL H a/\IsL H' a)\/(IsC H a/\IsC H' a/\∀ o u,H a=some (.frz o u)->H' a=some (.frz o u))
end
section
variable {mg:Gm}{H H' H1 H2:Hp}{Y Y' Y1 Y2:List Addr}{s s' s1 s2:Sto}
theorem uo.kind{xs:List D}{a:Addr}(h:uo mg H Y xs a):IsL H a\/IsC H a:=h.imp (fun ⟨vs,e,_⟩=>⟨vs,e⟩) fun h=>h.imp (fun ⟨k,e,_⟩=>⟨k,e⟩) fun ⟨o,k,_,e,_⟩=>⟨o,k,e⟩
theorem Rep.mt(r:Rep mg H Y s):∀ a∈Y,IsL H a\/IsC H a:=fun a ha=>by
 obtain ⟨l,hl,e⟩:=List.mem_iff_getElem.mp ha;have hl':l<s.length:=by rw [<- r.len];exact hl
 obtain ⟨b,e1,c⟩:=r.cell l s[l] (List.getElem?_eq_getElem hl');rw [List.getElem?_eq_getElem hl] at e1;have:Y[l]=b:=Option.some.inj e1;rw [<- e,this];exact c.kind
theorem Rep.at_(r:Rep mg H Y s){l:Nat}{xs:List D}{a:Addr}(h:s[l]? = some xs)(ha:Y[l]? = some a)(k:IsL H a):∃ vs,H a=some (.lst vs)/\zr mg H Y xs vs:=by
 obtain ⟨b,e1,c⟩:=r.cell l xs h;rw [ha] at e1;cases e1;rcases c with c | ⟨kvs,e,_⟩ | ⟨o,kvs,_,e,_⟩;·exact c
 ·exact (k.notC (.inl ⟨kvs,e⟩)).elim
 ·exact (k.notC (.inr ⟨o,kvs,e⟩)).elim
theorem Rep.dic(r:Rep mg H Y s){l:Nat}{xs:List D}{a:Addr}(h:s[l]? = some xs)(ha:Y[l]? = some a)(k:IsC H a):(∃ kvs,H a=some (.dT kvs)/\zbz xs kvs)\/∃ o kvs ys,H a=some (.frz o (.dT kvs))/\xs=.non::ys/\zbz ys kvs:=by
 obtain ⟨b,e1,c⟩:=r.cell l xs h;rw [ha] at e1;cases e1;rcases c with ⟨vs,e,_⟩ | c;·exact (IsL.notC ⟨vs,e⟩ k).elim
 ·exact c
theorem xS.refl(r:Rep mg H Y s):xS mg H Y H Y s:=⟨r,List.prefix_refl _,fun _ _ h _=>h,fun a h1 h2=>absurd h1 h2,fun a ha=>(r.mt a ha).imp (fun h=>⟨h,h⟩) fun h=>⟨h,h,fun _ _ q=>q⟩⟩
theorem xS.trans(a:xS mg H Y H1 Y1 s1)(b:xS mg H1 Y1 H2 Y2 s2):xS mg H Y H2 Y2 s2:=by
 refine ⟨b.rep,a.pre.trans b.pre,fun c o h n=>?_,fun c h1 h2=>?_,fun c hc=>?_⟩
 ·refine b.keep c o (a.keep c o h n) fun z=>?_;rw [a.new c z n] at h;cases h
 ·by_cases h3:c∈Y1;·exact a.new c h3 h2
  ·cases e:H c with
   | none=>rfl | some o=>rw [<- b.new c h1 h3,a.keep c o e h2]
 ·have hc1:c∈Y1:=a.pre.subset hc;rcases a.mt c hc with ⟨k1,k2⟩ | ⟨k1,k2,k3⟩
  ·rcases b.mt c hc1 with ⟨_,q⟩ | ⟨q,_,_⟩;·exact .inl ⟨k1,q⟩
   ·exact (k2.notC q).elim
  ·rcases b.mt c hc1 with ⟨q,_⟩ | ⟨_,q,q3⟩;·exact (q.notC k2).elim
   ·exact .inr ⟨k1,q,fun o u z=>q3 o u (k3 o u z)⟩
theorem xS.stay(stp:xS mg H Y H' Y' s'){b:Addr}{o:HO}(h:H b=some o)(hn:∀ vs,o≠.lst vs)(hn2:∀ kvs,o≠.dT kvs:=by intro vs z;cases z):H' b=some o:=by
 by_cases hb:b∈Y
 ·rcases stp.mt b hb with ⟨⟨vs,e⟩,_⟩ | ⟨⟨vs,e⟩ | ⟨p,vs,e⟩,_,q⟩
  ·rw [h] at e;exact absurd (Option.some.inj e) (hn vs)
  ·rw [h] at e;exact absurd (Option.some.inj e) (hn2 vs)
  ·rw [h] at e;cases e;exact q _ _ h
 ·exact stp.keep b o h hb
mutual
theorem Den.mono(stp:xS mg H Y H' Y' s'):∀ {d:D}{v:V},Den mg H Y d v->Den mg H' Y' d v
 | .non,_,h=>by simpa [Den] using h | .bl _,_,h=>by simpa [Den] using h | .int _,_,h=>by simpa [Den] using h | .str _,_,h=>by simpa [Den] using h | .tup ds,v,h=>by
  simp only [Den] at h ⊢;obtain ⟨a,vs,e,h1,h2⟩:=h;exact ⟨a,vs,e,stp.stay h1 (by intro vs z;cases z),zr.mono stp h2⟩ | .lst ds,v,h=>by
  simp only [Den] at h ⊢;obtain ⟨a,o,vs,e,h1,h2⟩:=h;exact ⟨a,o,vs,e,stp.stay h1 (by intro vs z;cases z),zr.mono stp h2⟩ | .dct,v,h=>by
  simp only [Den] at h ⊢;obtain ⟨a,e,h1⟩:=h;exact ⟨a,e,stp.stay h1 (by intro vs z;cases z)⟩ | .loc l,v,h=>by
  simp only [Den] at h ⊢;obtain ⟨a,e,h1,k⟩:=h;obtain ⟨t,ht⟩:=stp.pre;refine ⟨a,e,?_,?_⟩
  ·rw [<- ht,List.getElem?_append_left (List.getElem?_eq_some_iff.mp h1).1];exact h1
  ·rcases stp.mt a (List.mem_of_getElem? h1) with ⟨_,q⟩ | ⟨q,_,_⟩;·exact q
   ·exact (k.notC q).elim | .dlo l,v,h=>by
  simp only [Den] at h ⊢;obtain ⟨a,e,h1,k⟩:=h;obtain ⟨t,ht⟩:=stp.pre;refine ⟨a,e,?_,?_⟩
  ·rw [<- ht,List.getElem?_append_left (List.getElem?_eq_some_iff.mp h1).1];exact h1
  ·rcases stp.mt a (List.mem_of_getElem? h1) with ⟨q,_⟩ | ⟨_,q,_⟩;·exact (q.notC k).elim
   ·exact q | .fn _,_,h=>by simpa [Den] using h | .exc x,v,h=>by
  simp only [Den] at h ⊢;obtain ⟨a,C,e,h1,h2⟩:=h;exact ⟨a,C,e,h1,stp.stay h2 (by intro vs z;cases z)⟩ | .scr ds,v,h=>by
  simp only [Den] at h ⊢;obtain ⟨a,vs,e,h1,h2⟩:=h;exact ⟨a,vs,e,h1.imp (fun ⟨o,h1⟩=>⟨o,stp.stay h1 (by intro vs z;cases z)⟩) id,zr.mono stp h2⟩
theorem zr.mono(stp:xS mg H Y H' Y' s'):∀ {ds:List D}{vs:List V},zr mg H Y ds vs->zr mg H' Y' ds vs
 | [],_,h=>by simpa [zr] using h | d::ds,vs,h=>by
  simp only [zr] at h ⊢;obtain ⟨v,r,e,h1,h2⟩:=h;exact ⟨v,r,e,Den.mono stp h1,zr.mono stp h2⟩
end
theorem zr.length:∀ {ds:List D}{vs:List V},zr mg H Y ds vs->vs.length=ds.length
 | [],_,h=>by simp only [zr] at h;rw [h];rfl | d::ds,vs,h=>by
  simp only [zr] at h;obtain ⟨v,r,rfl,_,h2⟩:=h;simp [zr.length h2]
theorem zr.get:∀ {ds:List D}{vs:List V}{i:Nat}{d:D},zr mg H Y ds vs->ds[i]? = some d->∃ v,vs[i]? = some v/\Den mg H Y d v
 | [],_,_,_,_,e=>by simp at e | d::ds,vs,0,d',h,e=>by
  simp only [zr] at h;obtain ⟨v,r,rfl,h1,_⟩:=h;simp at e;subst e;exact ⟨v,by simp,h1⟩ | d::ds,vs,i+1,d',h,e=>by
  simp only [zr] at h;obtain ⟨v,r,rfl,_,h2⟩:=h;obtain ⟨u,h3,h4⟩:=zr.get (i:=i) h2 (by simpa using e);exact ⟨u,by simpa using h3,h4⟩
theorem zr.append:∀ {ds es:List D}{vs us:List V},zr mg H Y ds vs->zr mg H Y es us->zr mg H Y (ds++es) (vs++us)
 | [],_,_,_,h,h'=>by simp only [zr] at h;subst h;simpa using h' | d::ds,_,_,_,h,h'=>by
  simp only [zr] at h;obtain ⟨v,r,rfl,h1,h2⟩:=h;simp only [List.cons_append,zr];exact ⟨v,_,rfl,h1,zr.append h2 h'⟩
theorem zr.nil:zr mg H Y [] []:=by simp [zr]
theorem zr.cons {d:D} {ds:List D} {v:V} {vs:List V} (h:Den mg H Y d v) (h':zr mg H Y ds vs):zr mg H Y (d::ds) (v::vs):=by
 simp only [zr];exact ⟨v,vs,rfl,h,h'⟩
theorem zr.one{d:D}{v:V}(h:Den mg H Y d v):zr mg H Y [d] [v]:=.cons h .nil
theorem zr.take:∀ {ds:List D}{vs:List V}(n:Nat),zr mg H Y ds vs->zr mg H Y (ds.take n) (vs.take n)
 | ds,vs,0,h=>by simp [zr] | [],vs,n+1,h=>by simp only [zr] at h;subst h;simp [zr] | d::ds,vs,n+1,h=>by
  simp only [zr] at h;obtain ⟨v,r,rfl,h1,h2⟩:=h;simp only [List.take_succ_cons];exact .cons h1 (zr.take n h2)
theorem zr.drop:∀ {ds:List D}{vs:List V}(n:Nat),zr mg H Y ds vs->zr mg H Y (ds.drop n) (vs.drop n)
 | ds,vs,0,h=>by simpa using h | [],vs,n+1,h=>by simp only [zr] at h;subst h;simp [zr] | d::ds,vs,n+1,h=>by
  simp only [zr] at h;obtain ⟨v,r,rfl,h1,h2⟩:=h;simpa using zr.drop n h2
theorem zr.set:∀ {ds:List D}{vs:List V}{d:D}{v:V}(n:Nat),zr mg H Y ds vs->Den mg H Y d v->zr mg H Y (ds.set n d) (vs.set n v)
 | [],vs,_,_,n,h,_=>by simp only [zr] at h;subst h;simp [zr] | d::ds,vs,_,_,0,h,h'=>by
  simp only [zr] at h;obtain ⟨v,r,rfl,h1,h2⟩:=h;simpa using zr.cons h' h2 | d::ds,vs,_,_,n+1,h,h'=>by
  simp only [zr] at h;obtain ⟨v,r,rfl,h1,h2⟩:=h;simpa using zr.cons h1 (zr.set n h2 h')
mutual
theorem Den.flatten(k:∀ b o,H b=some o->(∀ vs,o≠.lst vs)->(∀ kvs,o≠.dT kvs)->H' b=some o):∀ {d:D}{v:V},d.flat=true->Den mg H Y d v->Den mg H' Y' d v
 | .non,_,_,h=>by simpa [Den] using h | .bl _,_,_,h=>by simpa [Den] using h | .int _,_,_,h=>by simpa [Den] using h | .str _,_,_,h=>by simpa [Den] using h | .tup ds,v,f,h=>by
  simp only [Den] at h ⊢;obtain ⟨a,vs,e,h1,h2⟩:=h;exact ⟨a,vs,e,k a _ h1 (by intro vs z;cases z) (by intro vs z;cases z),zr.flatten k (by simpa [D.flat] using f) h2⟩ | .lst ds,v,f,h=>by
  simp only [Den] at h ⊢;obtain ⟨a,o,vs,e,h1,h2⟩:=h;exact ⟨a,o,vs,e,k a _ h1 (by intro vs z;cases z) (by intro vs z;cases z),zr.flatten k (by simpa [D.flat] using f) h2⟩ | .dct,v,_,h=>by
  simp only [Den] at h ⊢;obtain ⟨a,e,h1⟩:=h;exact ⟨a,e,k a _ h1 (by intro vs z;cases z) (by intro vs z;cases z)⟩ | .loc l,v,f,h=>by simp [D.flat] at f | .dlo l,v,f,h=>by simp [D.flat] at f | .fn _,_,_,h=>by simpa [Den] using h | .exc x,v,_,h=>by
  simp only [Den] at h ⊢;obtain ⟨a,C,e,h1,h2⟩:=h;exact ⟨a,C,e,h1,k a _ h2 (by intro vs z;cases z) (by intro vs z;cases z)⟩ | .scr ds,v,f,h=>by
  simp only [Den] at h ⊢;obtain ⟨a,vs,e,h1,h2⟩:=h;exact ⟨a,vs,e,h1.imp (fun ⟨o,h1⟩=>⟨o,k a _ h1 (by intro vs z;cases z) (by intro vs z;cases z)⟩) id,zr.flatten k (by simpa [D.flat] using f) h2⟩
theorem zr.flatten(k:∀ b o,H b=some o->(∀ vs,o≠.lst vs)->(∀ kvs,o≠.dT kvs)->H' b=some o):∀ {ds:List D}{vs:List V},D.flat.flats ds=true->zr mg H Y ds vs->zr mg H' Y' ds vs
 | [],_,_,h=>by simpa [zr] using h | d::ds,vs,f,h=>by
  simp only [zr] at h ⊢;simp only [D.flat.flats,Bool.and_eq_true] at f;obtain ⟨v,r,e,h1,h2⟩:=h;exact ⟨v,r,e,Den.flatten k f.1 h1,zr.flatten k f.2 h2⟩
end
end
def okR{α β:Type}(mg:Gm)(E:XK)(H:Hp)(Y:List Addr)(Dn:Hp->List Addr->α->β->Prop)(r:R α)(Q:β->Hp->Prop):Prop:=match r with
 | .ok a s'=>∀ b H' Y',xS mg H Y H' Y' s'->Dn H' Y' a b->Q b H' | .ex c s'=>∀ H' Y' C,xS mg H Y H' Y' s'->mg.m c=some (.ref C)->E (.ref C) none H' | .no=>False
section
variable {α β α2 β2:Type}{mg:Gm}{E:XK}{H H' H1 H2:Hp}{Y Y' Y1 Y2:List Addr}{s s' s1 s2:Sto}{Dn:Hp->List Addr->α->β->Prop}{Dn2:Hp->List Addr->α2->β2->Prop}
theorem okR.rebase{r:R α}{Q:β->Hp->Prop}(h:okR mg E H Y Dn r Q)(stp:xS mg H Y H1 Y1 s1):okR mg E H1 Y1 Dn r Q:=by cases r with
 | ok a s'=>exact fun b H' Y' stp'=>h b H' Y' (stp.trans stp') | ex c s'=>exact fun H' Y' C stp'=>h H' Y' C (stp.trans stp') | no=>exact h
theorem okR.bind{r:R α}{k:α->Sto->R α2}{Q:β2->Hp->Prop}(h:okR mg E H Y Dn2 (r.bind k) Q): okR mg E H Y Dn r (fun b H1=>∃ Y1 s1 a,xS mg H Y H1 Y1 s1/\Dn H1 Y1 a b/\okR mg E H1 Y1 Dn2 (k a s1) Q):=by cases r with
 | ok a s'=>exact fun b H' Y' stp dn=>⟨Y',s',a,stp,dn,okR.rebase h stp⟩ | ex c s'=>exact h | no=>exact h
theorem okR.imp{r:R α}{Q Q':β->Hp->Prop}(h:okR mg E H Y Dn r Q)(i:∀ b H',Q b H'->Q' b H'):okR mg E H Y Dn r Q':=by cases r with
 | ok a s'=>exact fun b H' Y' stp dn=>i b H' (h b H' Y' stp dn) | ex c s'=>exact h | no=>exact h
theorem okR.here{a:α}{Q:β->Hp->Prop}{b:β}(h:okR mg E H Y Dn (.ok a s) Q)(r:Rep mg H Y s)(d:Dn H Y a b):Q b H:=h b H Y (.refl r) d
end
structure wV(mg:Gm)(H:Hp)(Y:List Addr)(Z:Ev)(O:L2.St):Prop where
 len:Z.length=O.length
 at_:∀ (i:Nat)(d:D),Z[i]? = some (some d)->∃ v,O[i]? = some (some v)/\Den mg H Y d v
theorem wV.mono{mg:Gm}{H H':Hp}{Y Y':List Addr}{s':Sto}{Z:Ev}{O:L2.St}(e:wV mg H Y Z O)(stp:xS mg H Y H' Y' s'):wV mg H' Y' Z O:= ⟨e.len,fun i d h=>let ⟨v,h1,h2⟩:=e.at_ i d h;⟨v,h1,h2.mono stp⟩⟩
theorem wV.set{mg:Gm}{H:Hp}{Y:List Addr}{Z:Ev}{O:L2.St}{d:D}{v:V}(e:wV mg H Y Z O)(h:Den mg H Y d v)(i:Nat):wV mg H Y (Z.set i (some d)) (O.set i (some v)):=by
 refine ⟨by simp [e.len],fun j d' hj=>?_⟩;by_cases hij:i=j
 ·subst hij;have hi:i<Z.length:=by
   have:=(List.getElem?_eq_some_iff.mp hj).1;simpa using this
  rw [List.getElem?_set_self hi] at hj;cases hj;exact ⟨v,by rw [List.getElem?_set_self (by rw [<- e.len];exact hi)],h⟩
 ·rw [List.getElem?_set_ne hij] at hj ⊢;exact e.at_ j d' hj
abbrev FE:=Ev->Sto->R D
abbrev FT:=Ev->Sto->R Bool
abbrev FA:=Ev->Sto->R (List D)
inductive Fl where | nx (Z:Ev) | rt (d:D) | bk (Z:Ev) | ct (Z:Ev)
inductive FlV where | nx (O:L2.St) | rt (v:V) | bk (O:L2.St) | ct (O:L2.St)
abbrev FS:=Ev->Sto->R Fl
def FlD(mg:Gm)(H:Hp)(Y:List Addr):Fl->FlV->Prop
 | .nx Z,.nx O=>wV mg H Y Z O | .rt d,.rt v=>Den mg H Y d v | .bk Z,.bk O=>wV mg H Y Z O | .ct Z,.ct O=>wV mg H Y Z O | _,_=>False
def z3Q(D:zaZ):FlV->Hp->Prop
 | .nx O,H=>D.nx O H | .rt v,H=>D.rt v H | .bk O,H=>D.bk O H | .ct O,H=>D.ct O H
def bD(_:Hp)(_:List Addr)(a b:Bool):Prop:=a=b
def tE(mg:Gm)(E:XK)(f:FE):TE:=fun O H Q=>∃ Y Z s,Rep mg H Y s/\wV mg H Y Z O/\okR mg E H Y (Den mg) (f Z s) Q
def tT(mg:Gm)(E:XK)(f:FT):TT:=fun O H Q=>∃ Y Z s,Rep mg H Y s/\wV mg H Y Z O/\okR mg E H Y bD (f Z s) Q
def tA(mg:Gm)(E:XK)(f:FA):TA:=fun O H Q=>∃ Y Z s,Rep mg H Y s/\wV mg H Y Z O/\okR mg E H Y (zr mg) (f Z s) Q
def tS(mg:Gm)(E:XK)(f:FS):TS:=fun D O H=>∃ Y Z s,Rep mg H Y s/\wV mg H Y Z O/\okR mg E H Y (FlD mg) (f Z s) (z3Q D)
def RE(X:Cx)(E:XK)(e:Expr)(f:FE):Prop:=PE X e (tE (gm X) E f)
def RT(X:Cx)(E:XK)(e:Expr)(f:FT):Prop:=PT X e (tT (gm X) E f)
def RA(X:Cx)(E:XK)(es:List Expr)(f:FA):Prop:=PA X es (tA (gm X) E f)
def RS(X:Cx)(E:XK)(st:Stmt)(f:FS):Prop:=PS X st (tS (gm X) E f)
def RSs(X:Cx)(E:XK)(st:List Stmt)(f:FS):Prop:=PSs X st (tS (gm X) E f)
section
variable {X:Cx}{E:XK}{e a b c:Expr}{es:List Expr}{pos:Pos}
theorem zV{t t':TE}(h:PE X e t)(i:∀ O H Q,t' O H Q->t O H Q):PE X e t':=fun pins s O H Q I q=>h pins s O H Q I (i O H Q q)
theorem z57{t t':TT}(h:PT X e t)(i:∀ O H Q,t' O H Q->t O H Q):PT X e t':=fun pins s O H Q I q=>h pins s O H Q I (i O H Q q)
theorem zbT{t t':TA}(h:PA X es t)(i:∀ O H Q,t' O H Q->t O H Q):PA X es t':=fun pos pins s O H Q I q=>h pos pins s O H Q I (i O H Q q)
theorem vy{st:Stmt}{t t':TS}(h:PS X st t)(i:∀ D O H,t' D O H->t D O H):PS X st t':=fun pins s O H D I q=>h pins s O H D I (i D O H q)
theorem z5Y{st:List Stmt}{t t':TS}(h:PSs X st t)(i:∀ D O H,t' D O H->t D O H):PSs X st t':=fun pins s O H D I q=>h pins s O H D I (i D O H q)
theorem zO{α β:Type}{Dn:Hp->List Addr->α->β->Prop}{mg:Gm}{f:FE}{k:Ev->D->Sto->R α}{O:L2.St}{H:Hp}{Q:β->Hp->Prop}{Y:List Addr}{Z:Ev}{s:Sto}(r:Rep mg H Y s)(en:wV mg H Y Z O) (h:okR mg E H Y Dn ((f Z s).bind (k Z)) Q)(K:V->Hp->Prop) (hK:∀ v H1 Y1 s1 d,Rep mg H1 Y1 s1->wV mg H1 Y1 Z O->Den mg H1 Y1 d v->xS mg H Y H1 Y1 s1->okR mg E H1 Y1 Dn (k Z d s1) Q->K v H1):tE mg E f O H K:= ⟨Y,Z,s,r,en,(okR.bind (Dn:=Den mg) h).imp fun v H1 ⟨Y1,s1,d,stp,dn,q⟩=>hK v H1 Y1 s1 d stp.rep (en.mono stp) dn stp q⟩
theorem z0T{α β:Type}{Dn:Hp->List Addr->α->β->Prop}{mg:Gm}{f:FT}{k:Ev->Bool->Sto->R α}{O:L2.St}{H:Hp}{Q:β->Hp->Prop}{Y:List Addr}{Z:Ev}{s:Sto}(r:Rep mg H Y s)(en:wV mg H Y Z O) (h:okR mg E H Y Dn ((f Z s).bind (k Z)) Q)(K:Bool->Hp->Prop) (hK:∀ v H1 Y1 s1,Rep mg H1 Y1 s1->wV mg H1 Y1 Z O->xS mg H Y H1 Y1 s1->okR mg E H1 Y1 Dn (k Z v s1) Q->K v H1):tT mg E f O H K:= ⟨Y,Z,s,r,en,(okR.bind (Dn:=bD) h).imp fun v H1 ⟨Y1,s1,d,stp,dn,q⟩=>hK v H1 Y1 s1 stp.rep (en.mono stp) stp (by cases (show d=v from dn);exact q)⟩
theorem qj{α β:Type}{Dn:Hp->List Addr->α->β->Prop}{mg:Gm}{f:FA}{k:Ev->List D->Sto->R α}{O:L2.St}{H:Hp}{Q:β->Hp->Prop}{Y:List Addr}{Z:Ev}{s:Sto}(r:Rep mg H Y s)(en:wV mg H Y Z O) (h:okR mg E H Y Dn ((f Z s).bind (k Z)) Q)(K:List V->Hp->Prop) (hK:∀ v H1 Y1 s1 d,Rep mg H1 Y1 s1->wV mg H1 Y1 Z O->zr mg H1 Y1 d v->xS mg H Y H1 Y1 s1->okR mg E H1 Y1 Dn (k Z d s1) Q->K v H1):tA mg E f O H K:= ⟨Y,Z,s,r,en,(okR.bind (Dn:=zr mg) h).imp fun v H1 ⟨Y1,s1,d,stp,dn,q⟩=>hK v H1 Y1 s1 d stp.rep (en.mono stp) dn stp q⟩
def zc(i:Nat):FE:=fun Z s=>match Z[i]? with | some (some d)=>.ok d s | _=>.no
theorem zd(i:Nat){x:Str}(hN:X.N[i]? = some x:=by rfl)(hv:Vis X.env.scope x:=by first | exact Or.inl rfl | exact Or.inr (Or.inl rfl) | exact Or.inr (Or.inr rfl))(hd:(x==("__debug__":Str))=false:=by decide) (hcd:(x==("__classdict__":Str))=false:=by decide):RE X E (.Name x pos) (zc i):= zV (z8S hN hv hd hcd) fun O H Q ⟨Y,Z,s,r,en,h⟩=>by
  unfold zc at h;split at h
  ·rename_i d hd;obtain ⟨v,h1,h2⟩:=en.at_ i d hd;exact ⟨v,h1,h.here r h2⟩
  ·exact h.elim
def eC(d:D):FE:=fun _ s=>.ok d s
theorem zx{i:Int}{j:Nat}:RE X E (.Constant (.int i) j pos) (eC (.int i)):=zV zcr fun O H Q ⟨Y,Z,s,r,en,h⟩=>okR.here (b:=V.int i) h r (by simp [Den])
theorem zgI{i:Bool}{j:Nat}:RE X E (.Constant (.bool i) j pos) (eC (.bl i)):=zV zhZ fun O H Q ⟨Y,Z,s,r,en,h⟩=>okR.here (b:=V.bl i) h r (by simp [Den])
theorem zbp{j:Nat}:RE X E (.Constant .none j pos) (eC .non):=zV zfJ fun O H Q ⟨Y,Z,s,r,en,h⟩=>okR.here (b:=V.non) h r (by simp [Den])
theorem z1f{i:Str}{j:Nat}:RE X E (.Constant (.str i) j pos) (eC (.str i)):=zV zfl fun O H Q ⟨Y,Z,s,r,en,h⟩=>okR.here (b:=V.str i) h r (by simp [Den])
theorem zfK{x:Str}{i:Int}{t:Tok}(hg:Gl X x)(hm:X.mg x=some (.int i t))(hd:(x==("__debug__":Str))=false:=by decide):RE X E (.Name x pos) (eC (.int i)):= zV (z62 hg hm (show yB (.int i) (.int i t) from ⟨t,rfl⟩) hd) fun O H Q ⟨Y,Z,s,r,en,h⟩=>okR.here (b:=V.int i) h r (by simp [Den])
def OpF(X:Cx)(E:XK)(r:R2)(op:D->D->Sto->R D):Prop:= ∀ H Y s d1 d2 v1 v2 (Q:VK),Rep (gm X) H Y s->Den (gm X) H Y d1 v1->Den (gm X) H Y d2 v2->okR (gm X) E H Y (Den (gm X)) (op d1 d2 s) Q->r v1 v2 H Q
def eOp(op:D->D->Sto->R D)(fa fb:FE):FE:=fun Z s=>(fa Z s).bind fun x s1=>(fb Z s1).bind fun y s2=>op x y s2
theorem z7b{r:R2}{op:D->D->Sto->R D}{fa fb:FE}(ho:OpF X E r op){O:L2.St}{H:Hp}{Q:VK}(h:tE (gm X) E (eOp op fa fb) O H Q):tOp r (tE (gm X) E fa) (tE (gm X) E fb) O H Q:=by
 obtain ⟨Y,Z,s,r',en,h⟩:=h;refine zO (k:=fun Z x s1=>(fb Z s1).bind fun y s2=>op x y s2) r' en h _ fun v H1 Y1 s1 d r1 en1 dn stp h1=>?_;refine zO (k:=fun Z y s2=>op d y s2) r1 en1 h1 _ fun v2 H2 Y2 s2 d2 r2 en2 dn2 St2 h2=>?_;exact ho H2 Y2 s2 d d2 v v2 Q r2 (dn.mono St2) dn2 h2
theorem zje{op:Operator}{r:R2}{fo:D->D->Sto->R D}{fa fb:FE}(ho:OpR X (binaryOp op) r/\OpF X E r fo)(ha:RE X E a fa)(hb:RE X E b fb):RE X E (.BinOp a op b pos) (eOp fo fa fb):= zV (zgS ho.1 ha hb) fun O H Q h=>z7b ho.2 h
theorem zgT{op:CmpOp}{r:R2}{fo:D->D->Sto->R D}{fa fb:FE}(ho:OpR X (compareOp op) r/\OpF X E r fo)(ha:RE X E a fa)(hb:RE X E b fb)(hm:behindInMarks op b=false):RE X E (.Compare a [op] [b] pos) (eOp fo fa fb):= zV (z9G ho.1 ha hb hm) fun O H Q h=>z7b ho.2 h
end
end Dd
namespace L2
open PySem.Spec
theorem Inv.freeze {X:Cx} {pins:List (Addr×Obj)} {O:L2.St} {H:Hp} {s:Shared} {a:Addr} {u:HO} {o:Obj} (I:Inv X pins O H s) (h:H a=some u) (e:s.heap.get? a=some o) (hu:∀ xs,u≠.tup xs) (hf:∀ o v,u≠.frz o v) (ht:∀ ps,u≠.tbl ps) (ho:∀ y,u≠.own y): Inv X pins O (upd H a (.frz o u)) s:=by
 have ne:∀ {b:Addr} {v:HO},H b=some v->v≠u->b≠a:=fun {b v} hb hv z=>by subst z;rw [h] at hb;exact hv (Option.some.inj hb).symm
 have stay:∀ b v,xx X.prog X.w H s.heap b v->xx X.prog X.w (upd H a (.frz o u)) s.heap b v:=fun b v q=> q.stay (fun _ _ _ q=>q) (fun c q=>by rw [zw (ne q (fun z=>ho b z.symm))];exact q) fun c xs q=>by rw [zw (ne q (fun z=>hu xs z.symm))];exact q
 have hok:HOk X.prog X.w (upd H a (.frz o u)) s.heap:=fun b v q=>by
  by_cases hb:b=a
  ·subst hb;rw [zK] at q;cases q;exact ⟨e,stay b u (I.hok b u h)⟩
  ·rw [zw hb] at q;exact stay b v (I.hok b v q)
 exact I.step (h':=s.heap) (g':=s.gens) (d':=s.drawn) (t':=s.toks) (ch:=[]) (fun b hb=>absurd hb (by simp)) (fun b o _ _ _ e _=>e) (fun b o _ _ _ e _=>⟨o.slots,e⟩) (fun b v _ _ n=>by rw [zw (fun z=>by subst z;rw [h] at n;cases n)];exact n) (fun b o _ e=>⟨o,e⟩) (fun b xs q=>by rw [zw (ne q (fun z=>hu xs z.symm))];exact q) (fun b o' v q=>by rw [zw (ne q (fun z=>hf o' v z.symm))];exact q) (fun b ps q=>⟨#[],by rw [zw (ne q (fun z=>ht ps z.symm)),q];simp⟩) (fun _ q=>q) hok I.bare
def z8V(Q:VK):VK:=fun v H=>∃ a xs,v=.ref a/\H a=some (.lst xs)/\∀ o,Q v (upd H a (.frz o (.lst xs)))
theorem EP.freeze{X:Cx}{pins:List (Addr×Obj)}{O:L2.St}{Q:VK}{u:Value}{s:Shared}(h:EP X pins O (z8V Q) u s):EP X pins O Q u s:=by
 obtain ⟨v,H',I,r,a,xs,rfl,ha,q⟩:=h;obtain ⟨its,n,rv,e,_⟩:=I.lst ha;exact ⟨_,_,I.freeze ha e (by intro _ z;cases z) (by intro _ _ z;cases z) (by intro _ z;cases z) (by intro _ z;cases z),r,q _⟩
theorem OpR.freeze{X:Cx}{f:Value->Value->Sem Value}{r:R2}(h:OpR X f r):OpR X f (fun x y H Q=>r x y H (z8V Q)):=fun pins s O H x y v u Q I rx ry q=>thn (h pins s O H x y v u _ I rx ry q) fun _ _ z=>z.freeze
theorem PE.freeze{X:Cx}{e:Expr}{t:TE}(h:PE X e t):PE X e (fun O H Q=>t O H (z8V Q)):=fun pins s O H Q I q=>thn (h pins s O H _ I q) fun _ _ z=>z.freeze
theorem SlR.freeze{X:Cx}{r:V->Option Int->Option Int->Hp->VK->Prop}(h:SlR X r):SlR X (fun x lo hi H Q=>r x lo hi H (z8V Q)):=fun pins s O H x v vl vu lo hi sl Q I rx hs pl pu q=>by
 obtain ⟨T,id,h1,h2,h3⟩:=h pins s O H x v vl vu lo hi sl _ I rx hs pl pu q;exact ⟨T,id,h1,h2,thn h3 fun _ _ z=>z.freeze⟩
section
variable {X:Cx}
theorem zcz:OpR X (binaryOp .Add) (fun x y H Q=>∃ l b xs zs,x=.ref l/\y=.ref b/\Rd H l (.lst xs)/\Rd H b (.lst zs)/\xs.length+zs.length<=sizeLine/\∀ p,H p=none->Q (.ref p) (upd H p (.lst (xs++zs)))):=by
 intro pins s O H x y v u Q I rx ry h;obtain ⟨l,b,xs,zs,rfl,rfl,hH,hB,hz,q⟩:=h;cases rx;cases ry;obtain ⟨z,its,n,r,e⟩:=hH.ok I.hok;obtain ⟨z2,its2,n2,r2,e2⟩:=hB.ok I.hok;have hl:=r.length;have hl2:=r2.length;refine PySem.P.add_list e e2 ?_ (by rw [List.size_toArray,List.size_toArray];omega);have ea:its.toArray++its2.toArray=(its++its2).toArray:=by simp
 rw [ea];exact ⟨.ref _,_,I.lnew (t':=s.toks) (r.append r2) (by rw [List.length_append];omega),rfl,q _ I.fresh⟩
end
section
variable {X:Cx}
theorem zb6:OpR X (binaryOp .Add) (fun x y H Q=>∃ a b ys,x=.ref a/\y=.ref b/\SqT X.K H a []/\SqT X.K H b ys/\Q (.ref b) H):=by
 intro pins s O H x y v u Q I rx ry h;obtain ⟨a,b,ys,rfl,rfl,ha,hb,q⟩:=h;cases rx;cases ry;obtain ⟨its,r1,p1,_⟩:=I.tuple ha;obtain ⟨its2,r2,p2,_⟩:=I.tuple hb;cases r1;obtain ⟨⟨cls,dd,data,sl⟩,ho,hc,n,hd⟩:=id p1;obtain ⟨⟨cls2,dd2,data2,sl2⟩,ho2,hc2,n2,hd2⟩:=id p2;simp only at hc hd hc2 hd2;subst hc hd hc2 hd2;exact concat_meets ⟨_,ho,rfl⟩ ⟨_,ho2,rfl⟩ noFill_tuple_add seq_tuple_add PySem.F.slot_tuple_add PySem.F.entry_tuple_add (PySem.F.args_tuple_add_2 _ _) (tuple_addW0 a b _ _ n n2 dd dd2 sl sl2 (by simp)) ⟨ho,ho2,⟨.ref b,H,I,rfl,q⟩⟩
theorem ze5:SlR X (fun x lo hi H Q=>∃ a xs,x=.ref a/\SqT X.K H a xs/\(HT.sIx xs.length 0 lo=0/\HT.sIx xs.length xs.length hi=xs.length)/\Q (.ref a) H):=by
 intro pins s O H x v vl vu lo hi sl Q I rx hs pl pu h;obtain ⟨a,xs,rfl,hx,hw,q⟩:=h;cases rx;obtain ⟨its,r,ht,hz⟩:=I.tuple hx;have hlen:its.toArray.size=xs.length:=by rw [List.size_toArray];exact r.length.symm
 refine ⟨"tuple",_,PyProof.Rows.slot_tuple_getitem.lookup,ht.typeIs,?_⟩;obtain ⟨os,hos,hcs,hds⟩:=id hs;have hTs:s.TypeIs (.ref sl) "slice":=⟨os,hos,hcs⟩;obtain ⟨oa,hoa,hca,na,hda⟩:=id ht;unfold getItem;try with_reducible refine wpAny_holding ?_
 first | refine wpAny_bind (wpAny_pure ?_) | skip
 refine wpAny_bind (wpAny_sequenceKey ht.typeIs (by decide) ?_);refine wpAny_bind (wpAny_callSpecial?_slot (name:=Str.ofString "__getitem__") ht.typeIs PyProof.Rows.slot_tuple_getitem (wpAny_call_entry PyProof.Rows.slot_tuple_getitem ht.typeIs entry_tuple_getitem ?_ (args_tuple_getitem _ _)));show wpAny _ _ (Builtin.Tuple.tupleItemsOf (.ref a) >>= _) _ _ s;refine wpAny_bind (tupleItemsOf_ ht ?_);refine wpAny_bind (wpAny_typeOf hTs ?_);rw [if_pos (by decide)];refine wpAny_bind (HT.qc hs pl pu ?_);rw [hlen,hw.1,hw.2];show wpAny _ _ (if (((0:Nat):Int)==0&&(1:Int)==1&&(xs.length-0)==xs.length)=true then _ else _) _ _ s;rw [if_pos (by simp)];have hTa:s.TypeIs (.ref a) "tuple":=ht.typeIs;have fin:EP X pins O Q (.ref a) s:=⟨.ref a,H,I,rfl,q⟩;unfold Builtin.Tuple.tupleIsExact;refine wpAny_bind (wpAny_bind (wpAny_typeOf hTa (wpAny_pure ?_)));rw [if_pos (by decide)];exact wpAny_bind (wpAny_rule (wpAny_pure ⟨_,rfl,wpAny_pure fin⟩))
end
end L2
namespace Dd
open PySem.Spec L2
section
variable {mg:Gm}{H H' H1 H2:Hp}{Y Y' Y1 Y2:List Addr}{s s' s1 s2:Sto}
structure Kp(H H':Hp):Prop where
 k:∀ b o,H b=some o->(∀ vs,o≠.lst vs)->(∀ kvs,o≠.dT kvs)->H' b=some o
 l:∀ a,IsL H a->IsL H' a
 c:∀ a,IsC H a->IsC H' a
mutual
theorem Den.gen(k:Kp H H')(hi:∀ (l:Nat) a,Y[l]? = some a->Y'[l]? = some a):∀ {d:D}{v:V},Den mg H Y d v->Den mg H' Y' d v
 | .non,_,h=>by simpa [Den] using h | .bl _,_,h=>by simpa [Den] using h | .int _,_,h=>by simpa [Den] using h | .str _,_,h=>by simpa [Den] using h | .tup ds,v,h=>by
  simp only [Den] at h ⊢;obtain ⟨a,vs,e,h1,h2⟩:=h;exact ⟨a,vs,e,k.k a _ h1 (by intro vs z;cases z) (by intro vs z;cases z),zr.gen k hi h2⟩ | .lst ds,v,h=>by
  simp only [Den] at h ⊢;obtain ⟨a,o,vs,e,h1,h2⟩:=h;exact ⟨a,o,vs,e,k.k a _ h1 (by intro vs z;cases z) (by intro vs z;cases z),zr.gen k hi h2⟩ | .dct,v,h=>by
  simp only [Den] at h ⊢;obtain ⟨a,e,h1⟩:=h;exact ⟨a,e,k.k a _ h1 (by intro vs z;cases z) (by intro vs z;cases z)⟩ | .loc l,v,h=>by
  simp only [Den] at h ⊢;obtain ⟨a,e,h1,q⟩:=h;exact ⟨a,e,hi l a h1,k.l a q⟩ | .dlo l,v,h=>by
  simp only [Den] at h ⊢;obtain ⟨a,e,h1,q⟩:=h;exact ⟨a,e,hi l a h1,k.c a q⟩ | .fn _,_,h=>by simpa [Den] using h | .exc x,v,h=>by
  simp only [Den] at h ⊢;obtain ⟨a,C,e,h1,h2⟩:=h;exact ⟨a,C,e,h1,k.k a _ h2 (by intro vs z;cases z) (by intro vs z;cases z)⟩ | .scr ds,v,h=>by
  simp only [Den] at h ⊢;obtain ⟨a,vs,e,h1,h2⟩:=h;exact ⟨a,vs,e,h1.imp (fun ⟨o,h1⟩=>⟨o,k.k a _ h1 (by intro vs z;cases z) (by intro vs z;cases z)⟩) id,zr.gen k hi h2⟩
theorem zr.gen(k:Kp H H')(hi:∀ (l:Nat) a,Y[l]? = some a->Y'[l]? = some a):∀ {ds:List D}{vs:List V},zr mg H Y ds vs->zr mg H' Y' ds vs
 | [],_,h=>by simpa [zr] using h | d::ds,vs,h=>by
  simp only [zr] at h ⊢;obtain ⟨v,r,e,h1,h2⟩:=h;exact ⟨v,r,e,Den.gen k hi h1,zr.gen k hi h2⟩
end
theorem qE{p:Addr}{o:HO}(hp:H p=none):∀ b u,H b=some u->upd H p o b=some u:=fun b u h=>by rw [zw (yz h hp)];exact h
theorem Kp.new{p:Addr}{o:HO}(hp:H p=none):Kp H (upd H p o):=⟨fun b u h _ _=>qE hp b u h,fun a ⟨vs,e⟩=>⟨vs,qE hp a _ e⟩,fun a h=>h.imp (fun ⟨vs,e⟩=>⟨vs,qE hp a _ e⟩) fun ⟨o,vs,e⟩=>⟨o,vs,qE hp a _ e⟩⟩
theorem Kp.putL{a:Addr}{vs:List V}(h:IsL H a):Kp H (upd H a (.lst vs)):=by
 obtain ⟨ws,e⟩:=h;have ne:∀ {b u},H b=some u->(∀ vs,u≠.lst vs)->b≠a:=fun {b u} q n z=>by subst z;rw [e] at q;exact n ws (Option.some.inj q).symm
 refine ⟨fun b o q n1 n2=>by rw [zw (ne q n1)];exact q,fun b ⟨us,q⟩=>?_,fun b h=>?_⟩
 ·by_cases z:b=a;·subst z;exact ⟨vs,zK⟩
  ·exact ⟨us,by rw [zw z];exact q⟩
 ·rcases h with ⟨us,q⟩ | ⟨o,us,q⟩;·exact .inl ⟨us,by rw [zw (ne q (by intro _ z;cases z))];exact q⟩
  ·exact .inr ⟨o,us,by rw [zw (ne q (by intro _ z;cases z))];exact q⟩
theorem Kp.putC{a:Addr}{u:HO}(h:∃ ws,H a=some (.dT ws))(hu:(∃ kvs,u=.dT kvs)\/∃ o kvs,u=.frz o (.dT kvs)):Kp H (upd H a u):=by
 obtain ⟨ws,e⟩:=h;have ne:∀ {b u},H b=some u->(∀ vs,u≠.dT vs)->b≠a:=fun {b u} q n z=>by subst z;rw [e] at q;exact n ws (Option.some.inj q).symm
 refine ⟨fun b o q n1 n2=>by rw [zw (ne q n2)];exact q,fun b ⟨us,q⟩=>⟨us,by rw [zw (ne q (by intro _ z;cases z))];exact q⟩,fun b h=>?_⟩;by_cases z:b=a
 ·subst z;rcases hu with ⟨k,rfl⟩ | ⟨o,k,rfl⟩;·exact .inl ⟨k,zK⟩
  ·exact .inr ⟨o,k,zK⟩
 ·rcases h with ⟨us,q⟩ | ⟨o,us,q⟩;·exact .inl ⟨us,by rw [zw z];exact q⟩
  ·exact .inr ⟨o,us,by rw [zw z];exact q⟩
theorem uo.gen{xs:List D}{a:Addr}(k:Kp H H')(hi:∀ (l:Nat) a,Y[l]? = some a->Y'[l]? = some a)(e:H' a=H a)(h:uo mg H Y xs a):uo mg H' Y' xs a:=by
 rcases h with ⟨vs,h1,h2⟩ | ⟨kvs,h1,h2⟩ | ⟨o,kvs,ys,h1,h2⟩;·exact .inl ⟨vs,e.trans h1,h2.gen k hi⟩
 ·exact .inr (.inl ⟨kvs,e.trans h1,h2⟩)
 ·exact .inr (.inr ⟨o,kvs,ys,e.trans h1,h2⟩)
theorem uo.ne{xs:List D}{a p:Addr}(h:uo mg H Y xs a)(hp:H p=none):a≠p:=by
 rintro rfl;rcases h.kind with ⟨_,e⟩ | ⟨_,e⟩ | ⟨_,_,e⟩<;>rw [hp] at e<;>cases e
theorem Rep.notin{p:Addr}(r:Rep mg H Y s)(hp:H p=none):p∉Y:=fun z=>by rcases r.mt p z with ⟨_,e⟩ | ⟨_,e⟩ | ⟨_,_,e⟩<;>rw [hp] at e<;>cases e
theorem xS.lay{p:Addr}{o:HO}(r:Rep mg H Y s)(hp:H p=none)(ho:∀ vs,o≠.lst vs):xS mg H Y (upd H p o) Y s:= ⟨⟨r.len,r.nd,fun l xs h=>let ⟨a,h1,h2⟩:=r.cell l xs h;⟨a,h1,h2.gen (.new hp) (fun _ _ q=>q) (zw (h2.ne hp))⟩,r.flat⟩,List.prefix_refl _,fun b u h _=>qE hp b u h,fun a h1 h2=>absurd h1 h2,fun a ha=>(r.mt a ha).imp (fun h=>⟨h,(Kp.new hp).l a h⟩) fun h=>⟨h,(Kp.new hp).c a h,fun _ _ e=>qE hp a _ e⟩⟩
theorem xS.layC{p:Addr}{o:HO}{xs:List D}(r:Rep mg H Y s)(hp:H p=none)(hc:uo mg (upd H p o) (Y++[p]) xs p)(hf:D.flat.flats xs=true):xS mg H Y (upd H p o) (Y++[p]) (s++[xs]):=by
 have pn:p∉Y:=r.notin hp;have hi:∀ (l:Nat) a,Y[l]? = some a->(Y++[p])[l]? = some a:=fun l a h=>by rw [List.getElem?_append_left (List.getElem?_eq_some_iff.mp h).1];exact h
 refine ⟨⟨by simp [r.len],?_,fun l ys h=>?_,fun ys h=>?_⟩,List.prefix_append _ _,fun b u h _=>qE hp b u h,fun a h1 h2=>?_,fun a ha=>(r.mt a ha).imp (fun h=>⟨h,(Kp.new hp).l a h⟩) fun h=>⟨h,(Kp.new hp).c a h,fun _ _ e=>qE hp a _ e⟩⟩
 ·rw [List.nodup_append];exact ⟨r.nd,by simp,fun a ha b hb=>by
   have:b=p:=by simpa using hb
   subst this;exact fun z=>pn (z ▸ ha)⟩
 ·by_cases hl:l<s.length
  ·rw [List.getElem?_append_left hl] at h;obtain ⟨a,h1,h2⟩:=r.cell l ys h;exact ⟨a,hi l a h1,h2.gen (.new hp) hi (zw (h2.ne hp))⟩
  ·have h0:l=s.length:=by
    have:=(List.getElem?_eq_some_iff.mp h).1;simp at this;omega
   subst h0;simp at h;subst h;exact ⟨p,by rw [<- r.len];simp,hc⟩
 ·rcases List.mem_append.mp h with h | h;·exact r.flat ys h
  ·have:ys=xs:=by simpa using h
   rw [this];exact hf
 ·rcases List.mem_append.mp h1 with h | h;·exact absurd h h2
  ·have:a=p:=by simpa using h
   rw [this];exact hp
theorem xS.layL{p:Addr}{xs:List D}{vs:List V}(r:Rep mg H Y s)(hp:H p=none)(hd:zr mg H Y xs vs)(hf:D.flat.flats xs=true):xS mg H Y (upd H p (.lst vs)) (Y++[p]) (s++[xs]):= xS.layC r hp (.inl ⟨vs,zK,hd.gen (.new hp) fun l a h=>by rw [List.getElem?_append_left (List.getElem?_eq_some_iff.mp h).1];exact h⟩) hf
theorem xS.putC{l:Nat}{a:Addr}{o:HO}{xs:List D}(r:Rep mg H Y s)(ha:Y[l]? = some a)(k:Kp H (upd H a o))(hc:uo mg (upd H a o) Y xs a)(hf:D.flat.flats xs=true):xS mg H Y (upd H a o) Y (s.set l xs):=by
 have hai:a∈Y:=List.mem_of_getElem? ha;have hll:l<s.length:=by rw [<- r.len];exact (List.getElem?_eq_some_iff.mp ha).1
 refine ⟨⟨by simp [r.len],r.nd,fun j ys h=>?_,fun ys h=>?_⟩,List.prefix_refl _,fun b u h hn=>?_,fun a h1 h2=>absurd h1 h2,fun b hb=>(r.mt b hb).imp (fun h=>⟨h,k.l b h⟩) fun h=>⟨h,k.c b h,fun _ _ e=>k.k b _ e (by intro _ z;cases z) (by intro _ z;cases z)⟩⟩
 ·by_cases hj:l=j
  ·subst hj;rw [List.getElem?_set_self hll] at h;cases h;exact ⟨a,ha,hc⟩
  ·rw [List.getElem?_set_ne hj] at h;obtain ⟨b,h1,h2⟩:=r.cell j ys h;refine ⟨b,h1,h2.gen k (fun _ _ q=>q) (zw ?_)⟩;rintro rfl;have il:l<Y.length:=(List.getElem?_eq_some_iff.mp ha).1;have ij:j<Y.length:=(List.getElem?_eq_some_iff.mp h1).1;exact hj ((List.getElem_inj r.nd).mp (((List.getElem?_eq_some_iff.mp ha).2).trans ((List.getElem?_eq_some_iff.mp h1).2).symm))
 ·rcases List.mem_or_eq_of_mem_set h with h | h;·exact r.flat ys h
  ·rw [h];exact hf
 ·rw [zw (fun z=>by subst z;exact hn hai)];exact h
theorem xS.put{l:Nat}{a:Addr}{xs:List D}{vs:List V}(r:Rep mg H Y s)(ha:Y[l]? = some a)(ka:IsL H a)(hd:zr mg H Y xs vs)(hf:D.flat.flats xs=true):xS mg H Y (upd H a (.lst vs)) Y (s.set l xs):= xS.putC r ha (.putL ka) (.inl ⟨vs,zK,hd.gen (.putL ka) fun _ _ q=>q⟩) hf
def listOf(s:Sto):D->Option (List D)
 | .lst xs=>some xs | .loc l=>s[l]? | _=>none
def yd(s:Sto):D->Option (List D)
 | .tup xs=>some xs | .lst xs=>some xs | .scr xs=>some xs | .loc l=>s[l]? | _=>none
theorem zM{d:D}{xs:List D}{v:V}(r:Rep mg H Y s)(h:listOf s d=some xs)(dn:Den mg H Y d v):∃ a vs,v=.ref a/\Rd H a (.lst vs)/\zr mg H Y xs vs:=by cases d with
 | lst ys=>
  simp only [listOf,Option.some.injEq] at h;subst h;simp only [Den] at dn;obtain ⟨a,o,vs,e,h1,h2⟩:=dn;exact ⟨a,vs,e,.inr ⟨o,h1⟩,h2⟩ | loc l=>
  simp only [Den] at dn;obtain ⟨a,e,h1,k⟩:=dn;obtain ⟨vs,h3,h4⟩:=r.at_ h h1 k;exact ⟨a,vs,e,.inl h3,h4⟩ | _=>simp [listOf] at h
theorem zc6{xs:List D}{v:V}(dn:Den mg H Y (.scr xs) v):∃ a vs,v=.ref a/\SqL mg.K H a vs/\zr mg H Y xs vs:=by
 simp only [Den] at dn;obtain ⟨a,vs,e,h1,h2⟩:=dn;exact ⟨a,vs,e,h1.elim (fun ⟨o,h⟩=>.inl (.inr ⟨o,h⟩)) .inr,h2⟩
theorem vE{K:W.Frag}{d:D}{xs:List D}{v:V}(r:Rep mg H Y s)(h:yd s d=some xs)(dn:Den mg H Y d v)(hK:mg.K=K:=by rfl):∃ a vs,v=.ref a/\(SqL K H a vs\/SqT K H a vs)/\zr mg H Y xs vs:=by cases d with
 | tup ys=>
  simp only [yd,Option.some.injEq] at h;subst h;simp only [Den] at dn;obtain ⟨a,vs,e,h1,h2⟩:=dn;exact ⟨a,vs,e,.inr (.inl (.inl h1)),h2⟩ | lst ys=>
  obtain ⟨a,vs,e,h1,h2⟩:=zM (d:=.lst ys) r h dn;exact ⟨a,vs,e,.inl (.inl h1),h2⟩ | scr ys=>
  simp only [yd,Option.some.injEq] at h;subst h;subst hK;obtain ⟨a,vs,e,h1,h2⟩:=zc6 dn;exact ⟨a,vs,e,.inl h1,h2⟩ | loc l=>
  obtain ⟨a,vs,e,h1,h2⟩:=zM (d:=.loc l) r h dn;exact ⟨a,vs,e,.inl (.inl h1),h2⟩ | _=>simp [yd] at h
theorem ji{K:W.Frag}{xs:List D}{v:V}(dn:Den mg H Y (.tup xs) v):∃ a vs,v=.ref a/\SqT K H a vs/\zr mg H Y xs vs:=by
 simp only [Den] at dn;obtain ⟨a,vs,e,h1,h2⟩:=dn;exact ⟨a,vs,e,.inl (.inl h1),h2⟩
end
def cap:Nat:=100000
theorem qW{n:Nat}(h:n<=cap):n<=sizeLine:=Nat.le_trans h (by decide)
theorem zgf{n:Nat}(h:n<cap):n<sizeLine:=Nat.lt_of_lt_of_le h (by decide)
def BIG:Nat:=2 ^ 4096
def qQ:D->D->Sto->R D
 | .int i,.int j,s=>.ok (.int (i+j)) s | .tup a,.tup b,s=>if a.length+b.length<=cap then .ok (.tup (a++b)) s else .no | x,y,s=>match listOf s x,listOf s y with
  | some a,some b=>if a.length+b.length<=cap then .ok (.lst (a++b)) s else .no | _,_=>.no
section
variable {X:Cx}{E:XK}
theorem zT{mg:Gm}{H:Hp}{Y:List Addr}{i:Int}{v:V}(h:Den mg H Y (.int i) v):v=.int i:=by simpa [Den] using h
theorem qu{mg:Gm}{H:Hp}{Y:List Addr}{i:Bool}{v:V}(h:Den mg H Y (.bl i) v):v=.bl i:=by simpa [Den] using h
theorem z2H{mg:Gm}{H:Hp}{Y:List Addr}{i:Str}{v:V}(h:Den mg H Y (.str i) v):v=.str i:=by simpa [Den] using h
theorem yf{mg:Gm}{H:Hp}{Y:List Addr}{i:Int}:Den mg H Y (.int i) (.int i):=by simp [Den]
theorem xT{mg:Gm}{H:Hp}{Y:List Addr}{i:Bool}:Den mg H Y (.bl i) (.bl i):=by simp [Den]
theorem jC{mg:Gm}{H:Hp}{Y:List Addr}{s:Sto}{xs:List D}{vs:List V}{Q:VK}(r:Rep mg H Y s)(h:okR mg E H Y (Den mg) (.ok (.lst xs) s) Q)(hd:zr mg H Y xs vs):∀ p,H p=none->z8V Q (.ref p) (upd H p (.lst vs)):=fun p hp=>by
 refine ⟨p,vs,rfl,zK,fun o=>?_⟩;rw [zcW];have stp:=xS.lay (o:=.frz o (.lst vs)) r hp (by intro _ z;cases z);refine h _ _ _ stp ?_;simp only [Den];exact ⟨p,o,vs,rfl,zK,hd.mono stp⟩
theorem z2i{mg:Gm}{H:Hp}{Y:List Addr}{s:Sto}{xs:List D}{vs:List V}{Q:VK}(r:Rep mg H Y s)(h:okR mg E H Y (Den mg) (.ok (.tup xs) s) Q)(hd:zr mg H Y xs vs):∀ p,H p=none->Q (.ref p) (upd H p (.tup vs)):=fun p hp=>by
 have stp:=xS.lay (o:=.tup vs) r hp (by intro _ z;cases z);refine h _ _ _ stp ?_;simp only [Den];exact ⟨p,vs,rfl,zK,hd.mono stp⟩
theorem qA:∃ r,OpR X (binaryOp .Add) r/\OpF X E r qQ:=by
 refine ⟨_,zfn.or ((zb6).or ((zd8).or (zcz.freeze))),?_⟩;intro H Y s d1 d2 v1 v2 Q r h1 h2 h;have lists:∀ a b,listOf s d1=some a->listOf s d2=some b->okR (gm X) E H Y (Den (gm X)) (if a.length+b.length<=cap then R.ok (D.lst (a++b)) s else .no) Q-> ∃ l b xs zs,v1=.ref l/\v2=.ref b/\Rd H l (.lst xs)/\Rd H b (.lst zs)/\xs.length+zs.length<=sizeLine/\∀ p,H p=none->z8V Q (.ref p) (upd H p (.lst (xs++zs))):=fun a b ha hb hq=>by
  obtain ⟨l,vs,e,q1,q2⟩:=zM r ha h1;obtain ⟨l',vs',e',q1',q2'⟩:=zM r hb h2;split at hq
  ·rename_i hl;exact ⟨l,l',vs,vs',e,e',q1,q1',by rw [q2.length,q2'.length];exact qW hl,jC r hq (q2.append q2')⟩
  ·exact hq.elim
 unfold qQ at h;split at h
 ·rename_i i j;cases zT h1;cases zT h2;exact .inl ⟨i,j,rfl,rfl,h.here r yf⟩
 ·rename_i a b;obtain ⟨l,vs,rfl,q1,q2⟩:=ji (K:=X.K) h1;obtain ⟨l',vs',rfl,q1',q2'⟩:=ji (K:=X.K) h2;split at h
  ·rename_i hl;cases a with
   | nil=>
    simp only [zr] at q2;subst q2;exact .inr (.inl ⟨l,l',vs',rfl,rfl,q1,q1',h.here r h2⟩) | cons x a=>
    have ne:vs≠[]:=fun z=>by have:=q2.length;rw [z] at this;simp at this
    refine .inr (.inr (.inl ⟨l,l',vs,vs',rfl,rfl,q1,q1',ne,by rw [q2.length,q2'.length];exact qW hl,fun z=>?_,fun z=>z2i r h (q2.append q2')⟩));have eb:b=[]:=by
     have:=q2'.length;rw [z] at this;exact List.length_eq_zero_iff.mp this.symm
    subst eb;rw [List.append_nil] at h;exact h.here r h1
  ·exact h.elim
 ·split at h
  ·rename_i a b ha hb;exact .inr (.inr (.inr (lists a b ha hb h)))
  ·exact h.elim
end
def dII(g:Int->Int->R D):D->D->Sto->R D
 | .int i,.int j,s=>match g i j with | .ok d _=>.ok d s | _=>.no
 | _,_,_=>.no
def iOk(d:D):R D:=.ok d []
def zcI:D->D->Sto->R D:=dII fun i j=>iOk (.int (i-j))
def ud:D->D->Sto->R D:=dII fun i j=>if i.natAbs<BIG/\j.natAbs<BIG then iOk (.int (i*j)) else .no
def z0c:D->D->Sto->R D:=dII fun i j=>if 0<j/\j.natAbs<BIG then iOk (.int (i / j)) else .no
def z6W:D->D->Sto->R D:=dII fun i j=>if 0<j then iOk (.int (i % j)) else .no
def zek:D->D->Sto->R D:=dII fun i j=>if 0<=j/\j<=1000/\i.natAbs<1000 then iOk (.int (i ^ j.toNat)) else .no
def dLt:D->D->Sto->R D:=dII fun i j=>iOk (.bl (decide (i<j)))
def dLe:D->D->Sto->R D:=dII fun i j=>iOk (.bl (decide (i<=j)))
def dGt:D->D->Sto->R D:=dII fun i j=>iOk (.bl (decide (j<i)))
def dGe:D->D->Sto->R D:=dII fun i j=>iOk (.bl (decide (j<=i)))
section
variable {X:Cx}{E:XK}
theorem jV{g:Int->Int->R D}{r:R2}(h:∀ i j d t H Q,g i j=.ok d t->(∀ v,(∀ H Y,Den (gm X) H Y d v)->Q v H)->r (.int i) (.int j) H Q):OpF X E r (dII g):=by
 intro H Y s d1 d2 v1 v2 Q rp h1 h2 hq;unfold dII at hq;split at hq
 ·rename_i i j;cases zT h1;cases zT h2;split at hq
  ·rename_i d t e;exact h i j d t H Q e fun v hv=>hq.here rp (hv H Y)
  ·exact hq.elim
 ·exact hq.elim
theorem zfx:∃ r,OpR X (binaryOp .Sub) r/\OpF X E r zcI:=⟨_,zez,jV fun i j d t H Q e q=>by
 simp only [iOk,R.ok.injEq] at e;exact ⟨i,j,rfl,rfl,q _ (by intro H Y;rw [<- e.1];exact yf)⟩⟩
theorem z6Z{i:Int}(h:i.natAbs<BIG):Builtin.Int.intBits i<=2 ^ 20:=by
 have q:Builtin.Int.intBits i<=4096:=(PySem.intBits_le_iff (m:=4096)).mpr h;omega
theorem ze2:OpR X (binaryOp .Mult) (rI (fun i j=>i.natAbs<BIG/\j.natAbs<BIG) fun i j=>.int (i*j)):=opI fun _ _ _ _ _ _ _ hc q=>mul_int q (IntMulOk.of_bits (z6Z hc.1) (z6Z hc.2))
theorem z2l:∃ r,OpR X (binaryOp .Mult) r/\OpF X E r ud:=⟨_,ze2,jV fun i j d t H Q e q=>by
 split at e
 ·rename_i hc;simp only [iOk,R.ok.injEq] at e;exact ⟨i,j,rfl,rfl,hc,q _ (by intro H Y;rw [<- e.1];exact yf)⟩
 ·cases e⟩
theorem zd0{j:Int}(h:j.natAbs<BIG):j.natAbs.log2<9000:=by
 by_cases h0:j.natAbs=0;·rw [h0];decide +kernel
 ·have:j.natAbs.log2<4096:=(Nat.log2_lt h0).mpr h;omega
theorem zbk:OpR X (binaryOp .FloorDiv) (rI (fun _ j=>0<j/\j.natAbs<BIG) fun i j=>.int (i / j)):=opI fun i j _ _ _ _ _ hc q=>by
 refine floordiv_int (by omega) ?_ (.inl (PyProof.noPylong_of_log2 (zd0 hc.2)));rw [Int.fdiv_eq_ediv_of_nonneg _ (by omega)];exact q
theorem z72:∃ r,OpR X (binaryOp .FloorDiv) r/\OpF X E r z0c:=⟨_,zbk,jV fun i j d t H Q e q=>by
 split at e
 ·rename_i hc;simp only [iOk,R.ok.injEq] at e;exact ⟨i,j,rfl,rfl,hc,q _ (by intro H Y;rw [<- e.1];exact yf)⟩
 ·cases e⟩
theorem z8Z:∃ r,OpR X (binaryOp .Mod) r/\OpF X E r z6W:=⟨_,zeI,jV fun i j d t H Q e q=>by
 split at e
 ·rename_i hc;simp only [iOk,R.ok.injEq] at e;exact ⟨i,j,rfl,rfl,hc,q _ (by intro H Y;rw [<- e.1];exact yf)⟩
 ·cases e⟩
theorem zfw:∃ r,OpR X (binaryOp .Pow) r/\OpF X E r zek:=⟨_,zg4,jV fun i j d t H Q e q=>by
 split at e
 ·rename_i hc;simp only [iOk,R.ok.injEq] at e;exact ⟨i,j,rfl,rfl,⟨hc.1,by omega,by omega⟩,q _ (by intro H Y;rw [<- e.1];exact yf)⟩
 ·cases e⟩
theorem ziY:∃ r,OpR X (compareOp .Lt) r/\OpF X E r dLt:=⟨_,zia,jV fun i j d t H Q e q=>by
 simp only [iOk,R.ok.injEq] at e;exact ⟨i,j,rfl,rfl,q _ (by intro H Y;rw [<- e.1];exact xT)⟩⟩
theorem zei:∃ r,OpR X (compareOp .LtE) r/\OpF X E r dLe:=⟨_,zgU,jV fun i j d t H Q e q=>by
 simp only [iOk,R.ok.injEq] at e;exact ⟨i,j,rfl,rfl,q _ (by intro H Y;rw [<- e.1];exact xT)⟩⟩
theorem zgk:∃ r,OpR X (compareOp .Gt) r/\OpF X E r dGt:=⟨_,zhE,jV fun i j d t H Q e q=>by
 simp only [iOk,R.ok.injEq] at e;exact ⟨i,j,rfl,rfl,q _ (by intro H Y;rw [<- e.1];exact xT)⟩⟩
theorem ziW:∃ r,OpR X (compareOp .GtE) r/\OpF X E r dGe:=⟨_,zhP,jV fun i j d t H Q e q=>by
 simp only [iOk,R.ok.injEq] at e;exact ⟨i,j,rfl,rfl,q _ (by intro H Y;rw [<- e.1];exact xT)⟩⟩
end
mutual
def wd:D->PyData
 | .non=>.none | .bl b=>.bool b | .int i=>.int i | .str x=>.str x | .tup xs=>.tuple (toPys xs) | .lst xs=>.list (toPys xs) | _=>.dict []
def toPys:List D->List PyData
 | []=>[] | d::ds=>wd d::toPys ds
end
def eqD(a b:D):Bool:=PyData.eqv (wd a) (wd b)
def zbe(d:D):Bool:=SeqAt.shaped (wd d)
def dEq(x y:D)(s:Sto):R D:=if zbe x=true/\zbe y=true then .ok (.bl (eqD x y)) s else .no
def dNe(x y:D)(s:Sto):R D:=if zbe x=true/\zbe y=true then .ok (.bl (!eqD x y)) s else .no
section
variable {P:Program}{w:World}{mg:Gm}{H:Hp}{Y:List Addr}{h:Heap}
mutual
theorem Den.reads(ok:HOk P w H h):∀ {d:D}{v:V}{u:Value},PyData.canLay0 (wd d)=true->Den mg H Y d v->yB v u->∃ as,Reads h u (wd d) as
 | .non,_,_,_,dn,r=>by simp only [Den] at dn;subst dn;cases r;exact ⟨_,by simpa [wd] using Reads.none⟩ | .bl b,_,_,_,dn,r=>by simp only [Den] at dn;subst dn;cases r;exact ⟨_,by simpa [wd] using Reads.bool b⟩ | .int i,_,_,_,dn,r=>by simp only [Den] at dn;subst dn;obtain ⟨t,rfl⟩:=r;exact ⟨_,by simpa [wd] using Reads.int i t⟩ | .str x,_,_,_,dn,r=>by simp only [Den] at dn;subst dn;obtain ⟨t,rfl⟩:=r;exact ⟨_,by simpa [wd] using Reads.str x t⟩ | .tup ds,_,_,c,dn,r=>by
  simp only [Den] at dn;obtain ⟨a,vs,rfl,h1,h2⟩:=dn;cases r;obtain ⟨_,its,rv,o,e,hc,_,n,hd⟩:=ok a _ h1;obtain ⟨as,q⟩:=zr.reads ok (by simpa [wd,PyData.canLay0] using c) h2 rv;rw [wd];exact ⟨as,Reads.tuple e hc hd (by simpa using q)⟩ | .lst ds,_,_,c,dn,r=>by
  simp only [Den] at dn;obtain ⟨a,o,vs,rfl,h1,h2⟩:=dn;cases r;obtain ⟨_,_,its,n,rv,e⟩:=ok a _ h1;obtain ⟨as,q⟩:=zr.reads ok (by simpa [wd,PyData.canLay0] using c) h2 rv;rw [wd];exact ⟨_,Reads.list e rfl rfl (by simpa using q)⟩ | .dct,_,_,c,_,_=>by simp [wd,PyData.canLay0] at c | .loc _,_,_,c,_,_=>by simp [wd,PyData.canLay0] at c | .fn _,_,_,c,_,_=>by simp [wd,PyData.canLay0] at c | .exc _,_,_,c,_,_=>by simp [wd,PyData.canLay0] at c
theorem zr.reads(ok:HOk P w H h):∀ {ds:List D}{vs:List V}{us:List Value},PyData.canLayAll0 (toPys ds)=true->zr mg H Y ds vs->xb vs us->∃ as,ReadsAll h us (toPys ds) as
 | [],_,_,_,dn,r=>by simp only [zr] at dn;subst dn;cases r;exact ⟨_,by simpa [toPys] using ReadsAll.nil⟩ | d::ds,_,_,c,dn,r=>by
  simp only [zr] at dn;obtain ⟨v,vs,rfl,h1,h2⟩:=dn;simp only [toPys,PyData.canLayAll0,Bool.and_eq_true] at c;cases r with | cons r1 r2=>
   obtain ⟨as,q⟩:=Den.reads ok c.1 h1 r1;obtain ⟨bs,q'⟩:=zr.reads ok c.2 h2 r2;rw [toPys];exact ⟨_,ReadsAll.cons q q'⟩
end
end
section
variable {X:Cx}{E:XK}
def ziM(mg:Gm)(neg:Bool):R2:=fun x y H Q=>∃ Y d1 d2,Den mg H Y d1 x/\Den mg H Y d2 y/\zbe d1=true/\zbe d2=true/\Q (.bl (if neg then !eqD d1 d2 else eqD d1 d2)) H
theorem zfP(hu:X.A.units+64<cLine):OpR X (compareOp .Eq) (ziM (gm X) false):=by
 intro pins s O H x y v u Q I rx ry ⟨Y,d1,d2,h1,h2,p1,p2,q⟩;obtain ⟨as,ra⟩:=Den.reads I.hok (SeqAt.canLay_of_shaped p1) h1 rx;obtain ⟨bs,rb⟩:=Den.reads I.hok (SeqAt.canLay_of_shaped p2) h2 ry;exact SeqAt.compareEq_shaped ra rb p1 p2 hu ⟨.bl (eqD d1 d2),H,I,rfl,q⟩
theorem zgn(hu:X.A.units+64<cLine):OpR X (compareOp .NotEq) (ziM (gm X) true):=by
 intro pins s O H x y v u Q I rx ry ⟨Y,d1,d2,h1,h2,p1,p2,q⟩;obtain ⟨as,ra⟩:=Den.reads I.hok (SeqAt.canLay_of_shaped p1) h1 rx;obtain ⟨bs,rb⟩:=Den.reads I.hok (SeqAt.canLay_of_shaped p2) h2 ry;exact SeqAt.compareNe_shaped ra rb p1 p2 hu ⟨.bl (!eqD d1 d2),H,I,rfl,q⟩
theorem z3P(hu:X.A.units+64<cLine):∃ r,OpR X (compareOp .Eq) r/\OpF X E r dEq:=⟨_,zfP hu,fun H Y s d1 d2 v1 v2 Q r h1 h2 h=>by
 unfold dEq at h;split at h
 ·rename_i hc;exact ⟨Y,d1,d2,h1,h2,hc.1,hc.2,h.here r xT⟩
 ·exact h.elim⟩
theorem zbO(hu:X.A.units+64<cLine):∃ r,OpR X (compareOp .NotEq) r/\OpF X E r dNe:=⟨_,zgn hu,fun H Y s d1 d2 v1 v2 Q r h1 h2 h=>by
 unfold dNe at h;split at h
 ·rename_i hc;exact ⟨Y,d1,d2,h1,h2,hc.1,hc.2,h.here r xT⟩
 ·exact h.elim⟩
def z2g:D->Option V
 | .non=>some .non | .bl b=>some (.bl b) | .int i=>some (.int i) | .str x=>some (.str x) | _=>none
theorem z4N{mg:Gm}{H:Hp}{Y:List Addr}{d:D}{v w:V}(h:z2g d=some w)(dn:Den mg H Y d v):v=w/\z1N v=true:=by cases d<;>simp only [z2g,Option.some.injEq,reduceCtorEq] at h<;>(simp only [Den] at dn;subst dn;subst h;exact ⟨rfl,rfl⟩)
def jv:List D->Option (List V)
 | []=>some [] | d::ds=>match z2g d,jv ds with | some v,some vs=>some (v::vs) | _,_=>none
theorem z2s{mg:Gm}{H:Hp}{Y:List Addr}:∀ {ds:List D}{vs ws:List V},jv ds=some ws->zr mg H Y ds vs->vs=ws/\vs.all z1N=true
 | [],_,_,h,dn=>by simp only [jv,Option.some.injEq] at h;simp only [zr] at dn;subst dn;subst h;exact ⟨rfl,rfl⟩ | d::ds,_,_,h,dn=>by
  simp only [zr] at dn;obtain ⟨v,vs,rfl,h1,h2⟩:=dn;simp only [jv] at h;split at h
  ·rename_i w ws e1 e2;cases h;obtain ⟨a1,a2⟩:=z4N e1 h1;obtain ⟨b1,b2⟩:=z2s e2 h2;exact ⟨by rw [a1,b1],by rw [List.all_cons,a2,b2];rfl⟩
  ·cases h
def z5o(neg:Bool)(x y:D)(s:Sto):R D:=match z2g x,(yd s y).bind jv with
 | some v,some vs=>.ok (.bl (if neg then !inV v vs else inV v vs)) s | _,_=>.no
theorem zgb{neg:Bool}:OpF X E (rIn X.K neg) (z5o neg):=fun H Y s d1 d2 v1 v2 Q r h1 h2 h=>by
 unfold z5o at h;split at h
 ·rename_i v vs e1 e2;cases e3:yd s d2 with
  | none=>rw [e3] at e2;cases e2 | some xs=>
   rw [e3] at e2;obtain ⟨a,ws,rfl,q1,q2⟩:=vE (K:=X.K) r e3 h2;obtain ⟨b1,b2⟩:=z2s e2 q2;obtain ⟨a1,a2⟩:=z4N e1 h1;subst a1 b1;exact ⟨a,ws,rfl,q1,a2,b2,h.here r xT⟩
 ·exact h.elim
theorem zhT:∃ r,OpR X (compareOp .In) r/\OpF X E r (z5o false):=⟨_,z9N,zgb⟩
def dIs:D->D->Sto->R D
 | .bl a,.bl b,s=>.ok (.bl (a==b)) s | .non,.non,s=>.ok (.bl true) s | .bl _,.non,s=>.ok (.bl false) s | .int _,.non,s=>.ok (.bl false) s | .str _,.non,s=>.ok (.bl false) s | .tup _,.non,s=>.ok (.bl false) s | .lst _,.non,s=>.ok (.bl false) s | _,_,_=>.no
theorem zg9:OpR X (compareOp .Is) (fun x y H Q=>∃ a b,x=.bl a/\y=.bl b/\Q (.bl (a==b)) H):=by
 intro pins s O H x y v u Q I rx ry ⟨a,b,e1,e2,q⟩;subst e1 e2;cases rx;cases ry;exact is_bool ⟨.bl (a==b),H,I,rfl,q⟩
theorem zix:∃ r,OpR X (compareOp .Is) r/\OpF X E r dIs:=⟨_,zg9.or zeo,fun H Y s d1 d2 v1 v2 Q r h1 h2 h=>by
 unfold dIs at h;split at h
 ·cases qu h1;cases qu h2;exact .inl ⟨_,_,rfl,rfl,h.here r xT⟩
 ·simp only [Den] at h1 h2;subst h1 h2;exact .inr ⟨rfl,by have:=h.here r xT;simpa using this⟩
 ·simp only [Den] at h1 h2;subst h1 h2;exact .inr ⟨rfl,by have:=h.here r xT;simpa using this⟩
 ·simp only [Den] at h1 h2;subst h1 h2;exact .inr ⟨rfl,by have:=h.here r xT;simpa using this⟩
 ·simp only [Den] at h1 h2;subst h1 h2;exact .inr ⟨rfl,by have:=h.here r xT;simpa using this⟩
 ·simp only [Den] at h1 h2;obtain ⟨a,vs,rfl,_⟩:=h1;subst h2;exact .inr ⟨rfl,by have:=h.here r xT;simpa using this⟩
 ·simp only [Den] at h1 h2;obtain ⟨a,o,vs,rfl,_⟩:=h1;subst h2;exact .inr ⟨rfl,by have:=h.here r xT;simpa using this⟩
 ·exact h.elim⟩
def dIx(x y:D)(s:Sto):R D:=match y,yd s x with
 | .int i,some xs=>match atI xs i with | some d=>.ok d s | none=>.no
 | _,_=>.no
theorem zaG{mg:Gm}{H:Hp}{Y:List Addr}{xs:List D}{vs:List V}{i:Int}{d:D}(h:zr mg H Y xs vs)(e:atI xs i=some d):∃ v,atI vs i=some v/\Den mg H Y d v:=by
 unfold atI at e ⊢;rw [h.length];cases q:ixN xs.length i with
 | none=>rw [q] at e;cases e | some j=>
  rw [q] at e;exact h.get e
theorem zjB:∃ r,IxR X r/\OpF X E r dIx:=⟨_,zdi.or zfB,fun H Y s d1 d2 v1 v2 Q r h1 h2 h=>by
 unfold dIx at h;split at h
 ·rename_i i xs e;split at h
  ·rename_i d e2;cases zT h2;obtain ⟨a,vs,rfl,q1,q2⟩:=vE (K:=X.K) r e h1;obtain ⟨v,e3,e4⟩:=zaG q2 e2;rcases q1 with q1 | q1;·exact .inl ⟨a,vs,i,v,rfl,rfl,q1,e3,h.here r e4⟩
   ·exact .inr ⟨a,vs,i,v,rfl,rfl,q1,e3,h.here r e4⟩
  ·exact h.elim
 ·exact h.elim⟩
end
section
variable {X:Cx}{E:XK}{e a b c:Expr}{es:List Expr}{pos:Pos}
theorem xa{op:Operator}{fo:D->D->Sto->R D}{fa fb:FE}(ho:∃ r,OpR X (binaryOp op) r/\OpF X E r fo)(ha:RE X E a fa)(hb:RE X E b fb):RE X E (.BinOp a op b pos) (eOp fo fa fb):=let ⟨_,h⟩:=ho;zje h ha hb
theorem uU{op:CmpOp}{fo:D->D->Sto->R D}{fa fb:FE}(ho:∃ r,OpR X (compareOp op) r/\OpF X E r fo)(ha:RE X E a fa)(hb:RE X E b fb)(hm:behindInMarks op b=false:=by first | exact zco _ | rfl):RE X E (.Compare a [op] [b] pos) (eOp fo fa fb):=let ⟨_,h⟩:=ho;zgT h ha hb hm
def tOf(f:FE):FT:=fun Z s=>(f Z s).bind fun d s1=>match d with | .bl k=>.ok k s1 | _=>.no
theorem z2B{f:FE}{O:L2.St}{H:Hp}{Q:Bool->Hp->Prop}(h:tT (gm X) E (tOf f) O H Q):zdp (tE (gm X) E f) O H Q:=by
 obtain ⟨Y,Z,s,r,en,h⟩:=h;refine zO (k:=fun Z d s1=>match d with | .bl k=>.ok k s1 | _=>.no) r en h _ fun v H1 Y1 s1 d r1 en1 dn stp h1=>?_;cases d with
 | bl k=>
  cases qu dn;exact ⟨k,rfl,h1.here (b:=k) r1 rfl⟩ | _=>exact h1.elim
theorem yn{op:CmpOp}{fo:D->D->Sto->R D}{fa fb:FE}(ho:∃ r,OpR X (compareOp op) r/\OpF X E r fo)(ha:RE X E a fa)(hb:RE X E b fb)(hm:behindInMarks op b=false:=by first | exact zco _ | rfl):RT X E (.Compare a [op] [b] pos) (tOf (eOp fo fa fb)):=by
 obtain ⟨r,h1,h2⟩:=ho;exact z57 (zda h1 ha hb hm) fun O H Q h=>by
  have q:=z2B h;exact z7b h2 q
def z1p(fo fo':D->D->Sto->R D)(fa fb fc:FE):FE:=fun Z s=>(fa Z s).bind fun x s1=>(fb Z s1).bind fun y s2=>(fo x y s2).bind fun z s3=>match z with
 | .bl true=>(fc Z s3).bind fun w s4=>fo' y w s4 | .bl false=>.ok (.bl false) s3 | _=>.no
theorem z4G{r r':R2}{fo fo':D->D->Sto->R D}{fa fb fc:FE}(ho:OpF X E r fo)(ho':OpF X E r' fo'){O:L2.St}{H:Hp}{Q:VK}(h:tE (gm X) E (z1p fo fo' fa fb fc) O H Q):z8y r r' (tE (gm X) E fa) (tE (gm X) E fb) (tE (gm X) E fc) O H Q:=by
 obtain ⟨Y,Z,s,rp,en,h⟩:=h;refine zO (k:=fun Z x s1=>(fb Z s1).bind fun y s2=>(fo x y s2).bind fun z s3=>match z with
  | .bl true=>(fc Z s3).bind fun w s4=>fo' y w s4 | .bl false=>.ok (.bl false) s3 | _=>.no) rp en h _ fun v H1 Y1 s1 d r1 en1 dn stp h1=>?_;refine zO (k:=fun Z y s2=>(fo d y s2).bind fun z s3=>match z with
  | .bl true=>(fc Z s3).bind fun w s4=>fo' y w s4 | .bl false=>.ok (.bl false) s3 | _=>.no) r1 en1 h1 _ fun v2 H2 Y2 s2 d2 r2 en2 dn2 stp2 h2=>?_;refine ho H2 Y2 s2 d d2 v v2 _ r2 (dn.mono stp2) dn2 ((okR.bind (Dn:=Den (gm X)) h2).imp fun v3 H3 ⟨Y3,s3,d3,stp3,dn3,h3⟩=>?_);cases d3 with
 | bl k=>
  cases qu dn3;refine ⟨k,rfl,?_⟩;cases k with
  | true=>
   rw [if_pos rfl];refine zO (k:=fun Z w s4=>fo' d2 w s4) stp3.rep (en2.mono stp3) h3 _ fun v4 H4 Y4 s4 d4 r4 en4 dn4 stp4 h4=>?_;exact ho' H4 Y4 s4 d2 d4 v2 v4 Q r4 ((dn2.mono stp3).mono stp4) dn4 h4 | false=>
   rw [if_neg (by decide)];exact okR.here (b:=V.bl false) h3 stp3.rep xT
 | _=>exact h3.elim
theorem zdx{op op':CmpOp}{fo fo':D->D->Sto->R D}{fa fb fc:FE}(ho:∃ r,OpR X (compareOp op) r/\OpF X E r fo)(ho':∃ r,OpR X (compareOp op') r/\OpF X E r fo')(ha:RE X E a fa)(hb:RE X E b fb)(hc:RE X E c fc) (hm:lastMarks [op,op'] [b,c]=false:=by with_unfolding_all rfl):RE X E (.Compare a [op,op'] [b,c] pos) (z1p fo fo' fa fb fc):=by
 obtain ⟨r,h1,h2⟩:=ho;obtain ⟨r',h1',h2'⟩:=ho';exact zV (zb5 h1 h1' ha hb hc hm) fun O H Q h=>z4G h2 h2' h
def z5l(fa fb:FE):FE:=fun Z s=>(fa Z s).bind fun x s1=>match x with | .bl true=>fb Z s1 | .bl false=>.ok (.bl false) s1 | _=>.no
def eOr(fa fb:FE):FE:=fun Z s=>(fa Z s).bind fun x s1=>match x with | .bl false=>fb Z s1 | .bl true=>.ok (.bl true) s1 | _=>.no
def zgq(fa:FE):FE:=fun Z s=>(fa Z s).bind fun x s1=>match x with | .bl k=>.ok (.bl (!k)) s1 | _=>.no
variable {jA:List Expr}
theorem z1I{op:BoolOp}{f:FE}(h:RE X E a f):RE X E (.BoolOp op [a] pos) f:=zf2 h
theorem z1P{fa fb:FE}(ha:RE X E a fa)(hb:RE X E (.BoolOp .And (b::jA) pos) fb):RE X E (.BoolOp .And (a::b::jA) pos) (z5l fa fb):= zV (zer ha hb) fun O H Q ⟨Y,Z,s,r,en,h⟩=>by
  refine zO (k:=fun Z x s1=>match x with | .bl true=>fb Z s1 | .bl false=>.ok (.bl false) s1 | _=>.no) r en h _ fun v H1 Y1 s1 d r1 en1 dn stp h1=>?_;cases d with
  | bl k=>
   cases qu dn;refine ⟨k,rfl,?_⟩;cases k with
   | true=>rw [if_pos rfl];exact ⟨Y1,Z,s1,r1,en1,h1⟩ | false=>rw [if_neg (by decide)];exact okR.here (b:=V.bl false) h1 r1 xT
  | _=>exact h1.elim
theorem zf1{fa:FE}(ha:RE X E a fa):RE X E (.UnaryOp .Not a pos) (zgq fa):= zV (zg8 ha) fun O H Q ⟨Y,Z,s,r,en,h⟩=>by
  refine zO (k:=fun Z x s1=>match x with | .bl k=>R.ok (D.bl (!k)) s1 | _=>.no) r en h _ fun v H1 Y1 s1 d r1 en1 dn stp h1=>?_;cases d with
  | bl k=>
   cases qu dn;exact ⟨k,rfl,okR.here (b:=V.bl (!k)) h1 r1 xT⟩ | _=>exact h1.elim
def zaa(fa fb:FT):FT:=fun Z s=>(fa Z s).bind fun x s1=>if x=true then fb Z s1 else .ok false s1
def fOr(fa fb:FT):FT:=fun Z s=>(fa Z s).bind fun x s1=>if x=true then .ok true s1 else fb Z s1
def z3S(fa:FT):FT:=fun Z s=>(fa Z s).bind fun x s1=>.ok (!x) s1
def RW(X:Cx)(E:XK)(e:Expr)(f:FT):Prop:=PW X e (tT (gm X) E f)
theorem RW.rt{f:FT}(h:RW X E e f):RT X E e f:=PW.pt h
theorem zbZ{t t':TT}(h:PW X e t)(i:∀ O H Q,t' O H Q->t O H Q):PW X e t':=fun wh pins s O H Q I q=>h wh pins s O H Q I (i O H Q q)
theorem z90{f:FT}(h:RT X E a f):RW X E (.BoolOp .And [a] pos) f:=zdH h
theorem z7C{f:FT}(h:RT X E a f):RW X E (.BoolOp .Or [a] pos) f:=zfg h
theorem w_and{fa fb:FT}(ha:RT X E a fa)(hb:RW X E (.BoolOp .And (b::jA) pos) fb):RW X E (.BoolOp .And (a::b::jA) pos) (zaa fa fb):= zbZ (zff ha hb) fun O H Q ⟨Y,Z,s,r,en,h⟩=>by
  refine z0T (k:=fun Z x s1=>if x=true then fb Z s1 else .ok false s1) r en h _ fun v H1 Y1 s1 r1 en1 stp h1=>?_;cases v with
  | true=>rw [if_pos rfl] at h1 ⊢;exact ⟨Y1,Z,s1,r1,en1,h1⟩ | false=>rw [if_neg (by decide)] at h1 ⊢;exact h1.here r1 rfl
theorem zel{fa fb:FT}(ha:RT X E a fa)(hb:RW X E (.BoolOp .Or (b::jA) pos) fb):RW X E (.BoolOp .Or (a::b::jA) pos) (fOr fa fb):= zbZ (zi0 ha hb) fun O H Q ⟨Y,Z,s,r,en,h⟩=>by
  refine z0T (k:=fun Z x s1=>if x=true then .ok true s1 else fb Z s1) r en h _ fun v H1 Y1 s1 r1 en1 stp h1=>?_;cases v with
  | false=>rw [if_neg (by decide)] at h1 ⊢;exact ⟨Y1,Z,s1,r1,en1,h1⟩ | true=>rw [if_pos rfl] at h1 ⊢;exact h1.here r1 rfl
theorem ky{fa:FT}(ha:RT X E a fa):RT X E (.UnaryOp .Not a pos) (z3S fa):= z57 (zeM ha) fun O H Q ⟨Y,Z,s,r,en,h⟩=>z0T (k:=fun Z x s1=>.ok (!x) s1) r en h _ fun v H1 Y1 s1 r1 en1 stp h1=>h1.here r1 rfl
theorem ju{f:FE}(h:RE X E a f)(he:∀ whole,isTrue a X.env whole=(do let v <- whole;standAt a.pos;holding [v] (truthy v)):=by intro _;rfl):RT X E a (tOf f):= z57 (zfZ h he) fun O H Q h=>z2B h
def eIf(ft:FT)(fa fb:FE):FE:=fun Z s=>(ft Z s).bind fun x s1=>if x=true then fa Z s1 else fb Z s1
theorem zgy{ft:FT}{fa fb:FE}(hc:RT X E c ft)(ha:RE X E a fa)(hb:RE X E b fb):RE X E (.IfExp c a b pos) (eIf ft fa fb):= zV (zaT hc ha hb) fun O H Q ⟨Y,Z,s,r,en,h⟩=>z0T (k:=fun Z x s1=>if x=true then fa Z s1 else fb Z s1) r en h _ fun v H1 Y1 s1 r1 en1 stp h1=>by cases v with
  | true=>rw [if_pos rfl] at h1 ⊢;exact ⟨Y1,Z,s1,r1,en1,h1⟩ | false=>rw [if_neg (by decide)] at h1 ⊢;exact ⟨Y1,Z,s1,r1,en1,h1⟩
theorem z1r {fa fb:FE} (ha:RE X E a fa) (hb:RE X E b fb) (hs:z5X b:=by intro _ _;rfl):RE X E (.Subscript a b pos) (eOp dIx fa fb):=by
 obtain ⟨r,h1,h2⟩:=zjB (X:=X) (E:=E);exact zV (zfa h1 ha hb hs) fun O H Q h=>z7b h2 h
def zi:FA:=fun _ s=>.ok [] s
def zb(fa:FE)(fr:FA):FA:=fun Z s=>(fa Z s).bind fun x s1=>(fr Z s1).bind fun xs s2=>.ok (x::xs) s2
theorem zh:RA X E [] zi:=zbT z4D fun O H Q ⟨Y,Z,s,r,en,h⟩=>h.here r zr.nil
theorem jL{fa:FE}{fr:FA}(ha:RE X E e fa)(hr:RA X E es fr)(hs:starEach (e::es) X.env=(false,eval e X.env)::starEach es X.env:=by rfl):RA X E (e::es) (zb fa fr):= zbT (kz ha hr hs) fun O H Q ⟨Y,Z,s,r,en,h⟩=>by
  refine zO (k:=fun Z x s1=>(fr Z s1).bind fun xs s2=>.ok (x::xs) s2) r en h _ fun v H1 Y1 s1 d r1 en1 dn stp h1=>?_;refine qj (k:=fun Z xs s2=>.ok (d::xs) s2) r1 en1 h1 _ fun vs H2 Y2 s2 ds r2 en2 dn2 stp2 h2=>?_;exact h2.here r2 (zr.cons (dn.mono stp2) dn2)
def ur(f:FA):FE:=fun Z s=>(f Z s).bind fun xs s1=>if xs.length<=cap then .ok (.tup xs) s1 else .no
theorem vL{f:FA}{x1:Nat}(h:RA X E es f):RE X E (.Tuple es x1 pos) (ur f):= zV (zeK h) fun O H Q ⟨Y,Z,s,r,en,h⟩=>by
  refine qj (k:=fun Z xs s1=>if xs.length<=cap then R.ok (D.tup xs) s1 else .no) r en h _ fun vs H2 Y2 s2 ds r2 en2 dn2 stp2 h2=>?_;split at h2
  ·rename_i hl;exact ⟨by rw [dn2.length];exact qW hl,z2i r2 h2 dn2⟩
  ·exact h2.elim
def z4o(f:FA):FE:=fun Z s=>(f Z s).bind fun xs s1=>if xs.length<=cap then .ok (.lst xs) s1 else .no
theorem z35{f:FA}(h:RA X E es f):RE X E (.List es pos) (z4o f):= zV (zcp h).freeze fun O H Q ⟨Y,Z,s,r,en,h⟩=>by
  refine qj (k:=fun Z xs s1=>if xs.length<=cap then R.ok (D.lst xs) s1 else .no) r en h _ fun vs H2 Y2 s2 ds r2 en2 dn2 stp2 h2=>?_;split at h2
  ·rename_i hl;exact ⟨by rw [dn2.length];exact qW hl,jC r2 h2 dn2⟩
  ·exact h2.elim
def zae(f:FA):FE:=fun Z s=>(f Z s).bind fun xs s1=>if xs.length<=cap/\D.flat.flats xs=true then .ok (.loc s1.length) (s1++[xs]) else .no
theorem zes{mg:Gm}{H:Hp}{Y:List Addr}{s:Sto}{xs:List D}{vs:List V}{Q:VK}(r:Rep mg H Y s)(h:okR mg E H Y (Den mg) (.ok (.loc s.length) (s++[xs])) Q)(hf:D.flat.flats xs=true)(hd:zr mg H Y xs vs):∀ p,H p=none->Q (.ref p) (upd H p (.lst vs)):=fun p hp=>by
 refine h _ _ _ (xS.layL r hp hd hf) ?_;simp only [Den];exact ⟨p,rfl,by rw [<- r.len];simp,vs,zK⟩
theorem z9I{f:FA}(h:RA X E es f):RE X E (.List es pos) (zae f):= zV (zcp h) fun O H Q ⟨Y,Z,s,r,en,h⟩=>by
  refine qj (k:=fun Z xs s1=>if xs.length<=cap/\D.flat.flats xs=true then R.ok (D.loc s1.length) (s1++[xs]) else .no) r en h _ fun vs H2 Y2 s2 ds r2 en2 dn2 stp2 h2=>?_;split at h2
  ·rename_i hl;exact ⟨by rw [dn2.length];exact qW hl.1,zes r2 h2 hl.2 dn2⟩
  ·exact h2.elim
def z0g(X:Cx)(E:XK)(r:List V->Hp->VK->Prop)(g:List D->Sto->R D):Prop:= ∀ H Y s ds vs (Q:VK),Rep (gm X) H Y s->zr (gm X) H Y ds vs->okR (gm X) E H Y (Den (gm X)) (g ds s) Q->r vs H Q
def ze(g:List D->Sto->R D)(f:FA):FE:=fun Z s=>(f Z s).bind fun xs s1=>g xs s1
theorem zH {x:Str} {p:Pos} {id:String} {g:List D->Sto->R D} {f:FA} (hc:∃ r,wM X (.builtin id) r/\z0g X E r g) (hg:Gl X x) (hm:X.mg x=none) (hv:bootBuiltins x=some (.builtin id)) (ha:RA X E (e::es) f) (hn:x≠"__name__":=by decide) (hdb:(x==("__debug__":Str))=false:=by decide) (he:starEach (e::es) X.env=(false,eval e X.env)::starEach es X.env:=by rfl) (hpl:(backTo pos (starEach es X.env)).any (·.1)=false:=by rfl):RE X E (.Call (.Name x p) (e::es) [] pos) (ze g f):=by
 obtain ⟨r,h1,h2⟩:=hc;exact zV (z7d h1 hg hm hv ha hn hdb he hpl) fun O H Q ⟨Y,Z,s,r,en,h⟩=> qj (k:=fun Z xs s1=>g xs s1) r en h _ fun vs H2 Y2 s2 ds r2 en2 dn2 stp2 h3=>h2 H2 Y2 s2 ds vs Q r2 dn2 h3
theorem z0E {x:Str} {p:Pos} {T:String} {g:List D->Sto->R D} {f:FA} (hc:∃ r,wM X (.type T) r/\z0g X E r g) (hg:Gl X x) (hm:X.mg x=none) (hv:bootBuiltins x=some (.type T)) (ha:RA X E (e::es) f) (hn:x≠"__name__":=by decide) (hdb:(x==("__debug__":Str))=false:=by decide) (he:starEach (e::es) X.env=(false,eval e X.env)::starEach es X.env:=by rfl) (hpl:(backTo pos (starEach es X.env)).any (·.1)=false:=by rfl):RE X E (.Call (.Name x p) (e::es) [] pos) (ze g f):=by
 obtain ⟨r,h1,h2⟩:=hc;exact zV (z9H h1 hg hm hv ha hn hdb he hpl) fun O H Q ⟨Y,Z,s,r,en,h⟩=> qj (k:=fun Z xs s1=>g xs s1) r en h _ fun vs H2 Y2 s2 ds r2 en2 dn2 stp2 h3=>h2 H2 Y2 s2 ds vs Q r2 dn2 h3
theorem z0a{mg:Gm}{H:Hp}{Y:List Addr}{d:D}{vs:List V}(h:zr mg H Y [d] vs):∃ v,vs=[v]/\Den mg H Y d v:=by
 simp only [zr] at h;obtain ⟨v,r,rfl,h1,rfl⟩:=h;exact ⟨v,rfl,h1⟩
theorem z7l{mg:Gm}{H:Hp}{Y:List Addr}{d d':D}{vs:List V}(h:zr mg H Y [d,d'] vs):∃ v v',vs=[v,v']/\Den mg H Y d v/\Den mg H Y d' v':=by
 simp only [zr] at h;obtain ⟨v,r,rfl,h1,v',r',rfl,h2,rfl⟩:=h;exact ⟨v,v',rfl,h1,h2⟩
def wX:List D->Sto->R D
 | [d],s=>match yd s d with | some xs=>.ok (.int xs.length) s | none=>.no
 | _,_=>.no
theorem jG:∃ r,wM X (.builtin "len") r/\z0g X E r wX:=⟨_,z4q,fun H Y s ds vs Q r hd h=>by
 unfold wX at h;split at h
 ·split at h
  ·rename_i d xs e;obtain ⟨v,rfl,dn⟩:=z0a hd;obtain ⟨a,ws,rfl,q1,q2⟩:=vE (K:=X.K) r e dn;exact ⟨a,ws,rfl,q1,by rw [q2.length];exact h.here r yf⟩
  ·exact h.elim
 ·exact h.elim⟩
def vp:List D->Sto->R D
 | [d],s=>match yd s d with | some xs=>.ok (.tup xs) s | none=>.no
 | _,_=>.no
theorem z3L:∃ r,wM X (.type "tuple") r/\z0g X E r vp:=⟨_,z3z,fun H Y s ds vs Q r hd h=>by match ds,hd,h with
 | [],_,h=>exact h.elim | _::_::_,_,h=>exact h.elim | [d],hd,h=>
  obtain ⟨v,rfl,dn⟩:=z0a hd;simp only [vp] at h;cases e:yd s d with
  | none=>rw [e] at h;exact h.elim | some xs=>
   rw [e] at h;cases d with
   | tup ys=>
    simp only [yd,Option.some.injEq] at e;subst e;obtain ⟨a,ws,rfl,q1,q2⟩:=ji (K:=X.K) dn;exact ⟨a,ws,rfl,.inr ⟨q1,h.here r dn⟩⟩ | lst ys=>
    obtain ⟨a,ws,rfl,q1,q2⟩:=zM (d:=.lst ys) r e dn;exact ⟨a,ws,rfl,.inl ⟨.inl q1,z2i r h q2⟩⟩ | loc l=>
    obtain ⟨a,ws,rfl,q1,q2⟩:=zM (d:=.loc l) r e dn;exact ⟨a,ws,rfl,.inl ⟨.inl q1,z2i r h q2⟩⟩ | scr ys=>
    simp only [yd,Option.some.injEq] at e;subst e;obtain ⟨a,ws,rfl,q1,q2⟩:=zc6 dn;exact ⟨a,ws,rfl,.inl ⟨q1,z2i r h q2⟩⟩ | _=>simp [yd] at e⟩
def zbJ:List D->Sto->R D
 | [.int i],s=>.ok (.int i) s | [.bl b],s=>.ok (.int (if b then 1 else 0)) s | _,_=>.no
theorem zhG:∃ r,wM X (.type "int") r/\z0g X E r zbJ:=⟨_,z9n,fun H Y s ds vs Q r hd h=>by
 unfold zbJ at h;split at h
 ·rename_i i;obtain ⟨v,rfl,dn⟩:=z0a hd;cases zT dn;exact .inl ⟨i,rfl,h.here r yf⟩
 ·rename_i b;obtain ⟨v,rfl,dn⟩:=z0a hd;cases qu dn;exact .inr ⟨b,rfl,h.here r yf⟩
 ·exact h.elim⟩
def zba:List D->Sto->R D
 | [.int i,.int j],s=>.ok (.int (if j > i then j else i)) s | _,_=>.no
def zbx:List D->Sto->R D
 | [.int i,.int j],s=>.ok (.int (if j<i then j else i)) s | _,_=>.no
theorem zgt(hc:X.calm=true):∃ r,wM X (.builtin "max") r/\z0g X E r zba:=⟨_,z9j hc,fun H Y s ds vs Q r hd h=>by
 unfold zba at h;split at h
 ·rename_i i j;obtain ⟨v,v',rfl,d1,d2⟩:=z7l hd;cases zT d1;cases zT d2;exact ⟨i,j,rfl,h.here r yf⟩
 ·exact h.elim⟩
theorem zfD(hc:X.calm=true):∃ r,wM X (.builtin "min") r/\z0g X E r zbx:=⟨_,z8e hc,fun H Y s ds vs Q r hd h=>by
 unfold zbx at h;split at h
 ·rename_i i j;obtain ⟨v,v',rfl,d1,d2⟩:=z7l hd;cases zT d1;cases zT d2;exact ⟨i,j,rfl,h.here r yf⟩
 ·exact h.elim⟩
abbrev FO:=Ev->Sto->R (Option Int)
def oD(_:Hp)(_:List Addr)(a b:Option Int):Prop:=a=b
def tO(mg:Gm)(E:XK)(f:FO):TO:=fun O H Q=>∃ Y Z s,Rep mg H Y s/\wV mg H Y Z O/\okR mg E H Y oD (f Z s) Q
def RO(X:Cx)(E:XK)(e:Option Expr)(f:FO):Prop:=PO X e (tO (gm X) E f)
theorem zbS{o:Option Expr}{t t':TO}(h:PO X o t)(i:∀ O H Q,t' O H Q->t O H Q):PO X o t':=fun pins s O H Q I q=>h pins s O H Q I (i O H Q q)
def zP:FO:=fun _ s=>.ok none s
def wC(f:FE):FO:=fun Z s=>(f Z s).bind fun d s1=>match d with | .int i=>.ok (some i) s1 | _=>.no
theorem jb:RO X E none zP:=zbS zdh fun O H Q ⟨Y,Z,s,r,en,h⟩=>h.here (b:=none) r rfl
theorem je{f:FE}(h:RE X E e f):RO X E (some e) (wC f):=zbS (zdF h) fun O H Q ⟨Y,Z,s,r,en,h⟩=>by
 refine zO (k:=fun Z d s1=>match d with | .int i=>.ok (some i) s1 | _=>.no) r en h _ fun v H1 Y1 s1 d r1 en1 dn stp h1=>?_;cases d with
 | int i=>cases zT dn;exact ⟨i,rfl,h1.here (b:=some i) r1 rfl⟩ | _=>exact h1.elim
def cutD(xs:List D)(lo hi:Option Int):List D:=(xs.drop (HT.sIx xs.length 0 lo)).take (HT.sIx xs.length xs.length hi-HT.sIx xs.length 0 lo)
theorem z32{mg:Gm}{H:Hp}{Y:List Addr}{xs:List D}{vs:List V}(h:zr mg H Y xs vs)(lo hi:Option Int):zr mg H Y (cutD xs lo hi) (zbR vs lo hi):=by
 unfold cutD zbR;rw [h.length];exact (h.drop _).take _
def dSl(x:D)(lo hi:Option Int)(s:Sto):R D:=match x with
 | .tup xs=>.ok (.tup (cutD xs lo hi)) s | x=>match listOf s x with | some xs=>.ok (.lst (cutD xs lo hi)) s | none=>.no
def eSl(fe:FE)(fl fh:FO):FE:=fun Z s=>(fe Z s).bind fun x s1=>(fl Z s1).bind fun lo s2=>(fh Z s2).bind fun hi s3=>dSl x lo hi s3
theorem z9y{α β:Type}{Dn:Hp->List Addr->α->β->Prop}{mg:Gm}{f:FO}{k:Ev->Option Int->Sto->R α}{O:L2.St}{H:Hp}{Q:β->Hp->Prop}{Y:List Addr}{Z:Ev}{s:Sto}(r:Rep mg H Y s)(en:wV mg H Y Z O) (h:okR mg E H Y Dn ((f Z s).bind (k Z)) Q)(K:Option Int->Hp->Prop) (hK:∀ v H1 Y1 s1,Rep mg H1 Y1 s1->wV mg H1 Y1 Z O->xS mg H Y H1 Y1 s1->okR mg E H1 Y1 Dn (k Z v s1) Q->K v H1):tO mg E f O H K:= ⟨Y,Z,s,r,en,(okR.bind (Dn:=oD) h).imp fun v H1 ⟨Y1,s1,d,stp,dn,q⟩=>hK v H1 Y1 s1 stp.rep (en.mono stp) stp (by cases (show d=v from dn);exact q)⟩
theorem vR{lo hi:Option Expr}{p2:Pos}{fe:FE}{fl fh:FO}(he:RE X E e fe)(hl:RO X E lo fl)(hh:RO X E hi fh):RE X E (.Subscript e (.Slice lo hi none p2) pos) (eSl fe fl fh):= zV (zaX ((zf5.or ze5).or zcH.freeze) he hl hh) fun O H Q ⟨Y,Z,s,r,en,h⟩=>by
  refine zO (k:=fun Z x s1=>(fl Z s1).bind fun lo s2=>(fh Z s2).bind fun hi s3=>dSl x lo hi s3) r en h _ fun v H1 Y1 s1 d r1 en1 dn stp h1=>?_;refine z9y (k:=fun Z lo s2=>(fh Z s2).bind fun hi s3=>dSl d lo hi s3) r1 en1 h1 _ fun lo H2 Y2 s2 r2 en2 stp2 h2=>?_;refine z9y (k:=fun Z hi s3=>dSl d lo hi s3) r2 en2 h2 _ fun hi H3 Y3 s3 r3 en3 stp3 h3=>?_;have dn3:=(dn.mono stp2).mono stp3;cases d with
  | tup xs=>
   obtain ⟨a,vs,rfl,q1,q2⟩:=ji (K:=X.K) dn3;have h3':okR (gm X) E H3 Y3 (Den (gm X)) (.ok (.tup (cutD xs lo hi)) s3) Q:=h3;by_cases hw:HT.sIx vs.length 0 lo=0/\HT.sIx vs.length vs.length hi=vs.length
   ·refine .inl (.inr ⟨a,vs,rfl,q1,hw,?_⟩);have e:cutD xs lo hi=xs:=by
     unfold cutD;rw [<- q2.length,hw.1,hw.2];simp [q2.length]
    rw [e] at h3';exact h3'.here r3 dn3
   ·exact .inl (.inl ⟨a,vs,rfl,q1,hw,z2i r3 h3' (z32 q2 lo hi)⟩) | lst xs=>
   obtain ⟨a,vs,rfl,q1,q2⟩:=zM (d:=.lst xs) r3 rfl dn3;exact .inr ⟨a,vs,rfl,.inl q1,jC r3 h3 (z32 q2 lo hi)⟩ | loc l=>
   simp only [dSl] at h3;split at h3
   ·rename_i xs e;obtain ⟨a,vs,rfl,q1,q2⟩:=zM (d:=.loc l) r3 e dn3;exact .inr ⟨a,vs,rfl,.inl q1,jC r3 h3 (z32 q2 lo hi)⟩
   ·exact h3.elim | _=>exact h3.elim
end
abbrev Mir:=List D->Sto->R D
def zcM(mg:Gm)(M:Mir):Sp:=fun vs H Q E=>∃ Y s ds,Rep mg H Y s/\zr mg H Y ds vs/\okR mg E H Y (Den mg) (M ds s) Q
def Has(P:Program)(w:World)(K:W.Frag)(mg:Str->Option Value)(base:Heap)(CX:CXT)(x:Str)(n:Nat)(M:Mir):Prop:= ∃ f fd ps,z2e P w K mg base CX n f fd ps (zcM ⟨mg,K⟩ M)/\Binds K fd ps []/\W.keepIn K (.ref f)=true/\mg x=some (.ref f)
section
variable {X:Cx}{E:XK}{e a b c:Expr}{es:List Expr}{pos:Pos}{CX:CXT}
theorem zD {x:Str} {p:Pos} {n:Nat} {M:Mir} {f:FA} (F:Has X.prog X.w X.K X.mg X.base CX x n M) (hr:z0q n X.A) (hx:Passes CX X E) (hg:Gl X x) (ha:RA X E (e::es) f) (hdb:(x==("__debug__":Str))=false:=by decide) (he:starEach (e::es) X.env=(false,eval e X.env)::starEach es X.env:=by rfl) (hpl:(backTo pos (starEach es X.env)).any (·.1)=false:=by rfl):RE X E (.Call (.Name x p) (e::es) [] pos) (ze M f):=by
 obtain ⟨fa,fd,ps,F,hb,hk,hm⟩:=F;refine zV (zd1 F hr hg hm hk hb .nil hx ha hdb he hpl) fun O H Q ⟨Y,Z,s,r,en,h⟩=>?_;refine qj (k:=fun Z xs s1=>M xs s1) r en h _ fun vs H2 Y2 s2 ds r2 en2 dn2 stp2 h3=>?_;rw [List.append_nil];exact ⟨Y2,s2,ds,r2,dn2,h3⟩
def zC(f g:FS):FS:=fun Z s=>(f Z s).bind fun fl s1=>match fl with | .nx Z'=>g Z' s1 | fl=>.ok fl s1
def yD:FS:=fun Z s=>.ok (.nx Z) s
variable {st:Stmt}{rs:List Stmt}
theorem zfz {mg:Gm} {f g:FS} {D:zaZ} {O:L2.St} {H:Hp} (h:tS mg E (zC f g) D O H):ziB (tS mg E f) (tS mg E g) D O H:=by
 obtain ⟨Y,Z,s,r,en,h⟩:=h;refine ⟨Y,Z,s,r,en,(okR.bind (Dn:=FlD mg) h).imp fun fv H1 ⟨Y1,s1,fl,stp,dn,q⟩=>?_⟩;cases fl with
 | nx Z'=> cases fv with
  | nx O'=>exact ⟨Y1,Z',s1,stp.rep,dn,q⟩ | _=>exact (show False from dn).elim
 | rt d=> cases fv with
  | rt v=>exact okR.here (b:=FlV.rt v) (Q:=z3Q D) (s:=s1) (a:=Fl.rt d) q stp.rep dn | _=>exact (show False from dn).elim
 | bk Z'=> cases fv with
  | bk v=>exact okR.here (b:=FlV.bk v) (Q:=z3Q D) (s:=s1) (a:=Fl.bk Z') q stp.rep dn | _=>exact (show False from dn).elim
 | ct Z'=> cases fv with
  | ct v=>exact okR.here (b:=FlV.ct v) (Q:=z3Q D) (s:=s1) (a:=Fl.ct Z') q stp.rep dn | _=>exact (show False from dn).elim
theorem yX:RSs X E [] yD:=z5Y zcP fun D O H ⟨Y,Z,s,r,en,h⟩=>okR.here (b:=FlV.nx O) h r en
theorem zf{f g:FS}(h1:RS X E st f)(h2:RSs X E rs g):RSs X E (st::rs) (zC f g):=z5Y (z2F h1 h2) fun D O H h=>zfz h
theorem zk{f:FS}(h1:RS X E st f):RSs X E [st] f:=zcN h1
def fNo:FS:=fun _ _=>.no
theorem z0C:RS X E st fNo:=vy zat fun D O H ⟨_,_,_,_,_,h⟩=>h
def qT(f:FE):FS:=fun Z s=>(f Z s).bind fun _ s1=>.ok (.nx Z) s1
theorem qH {f:FE} (he:RE X E e f) (hs:swapsWith e none pos.line X.env=pure false:=by rfl):RS X E (.Expr e pos) (qT f):= vy (zdD he hs) fun D O H ⟨Y,Z,s,r,en,h⟩=>zO (k:=fun Z _ s1=>R.ok (Fl.nx Z) s1) r en h _ fun v H1 Y1 s1 d r1 en1 dn stp h1=>okR.here (b:=FlV.nx O) (Q:=z3Q D) h1 r1 en1
def xV(f:FE):FS:=fun Z s=>(f Z s).bind fun d s1=>.ok (.rt d) s1
theorem ym {f:FE} (he:RE X E e f):RS X E (.Return (some e) pos) (xV f):= vy (zeN he) fun D O H ⟨Y,Z,s,r,en,h⟩=>zO (k:=fun Z d s1=>R.ok (Fl.rt d) s1) r en h _ fun v H1 Y1 s1 d r1 en1 dn stp h1=>okR.here (b:=FlV.rt v) (Q:=z3Q D) h1 r1 dn
def fIf(ft:FT)(f g:FS):FS:=fun Z s=>(ft Z s).bind fun x s1=>if x=true then f Z s1 else g Z s1
theorem z0j{ft:FT}{f g:FS}{as bs:List Stmt}(hc:RT X E c ft)(ha:RSs X E as f)(hb:RSs X E bs g):RS X E (.If c as bs pos) (fIf ft f g):= vy (zif hc ha hb) fun D O H ⟨Y,Z,s,r,en,h⟩=>z0T (k:=fun Z x s1=>if x=true then f Z s1 else g Z s1) r en h _ fun v H1 Y1 s1 r1 en1 stp h1=>by cases v with
  | true=>rw [if_pos rfl] at h1 ⊢;exact ⟨Y1,Z,s1,r1,en1,h1⟩ | false=>rw [if_neg (by decide)] at h1 ⊢;exact ⟨Y1,Z,s1,r1,en1,h1⟩
abbrev FG:=D->Ev->Sto->R Ev
def tG(mg:Gm)(E:XK)(f:FG):TG:=fun v O H Q=>∃ Y Z s d,Rep mg H Y s/\wV mg H Y Z O/\Den mg H Y d v/\okR mg E H Y (wV mg) (f d Z s) (fun O' H'=>Q O' H')
def RG(X:Cx)(E:XK)(tg:Expr)(f:FG):Prop:=PG X tg (tG (gm X) E f)
theorem zbI{tg:Expr}{t t':TG}(h:PG X tg t)(i:∀ v O H Q,t' v O H Q->t v O H Q):PG X tg t':=fun pins s O H v u Q I r q=>h pins s O H v u Q I r (i v O H Q q)
def xw(i:Nat):FG:=fun d Z s=>.ok (Z.set i (some d)) s
theorem jh(i:Nat){x:Str}(hN:X.N.Nodup)(hi:X.N[i]? = some x:=by rfl)(hx:Loc X.env.scope x:=by first | exact Or.inl rfl | exact Or.inr rfl)(hf:X.fn x=true\/X.env.scope.names.lookup x=some .local:=by first | exact .inl rfl | exact .inr rfl | assumption):RG X E (.Name x pos) (xw i):= zbI (yo hN hi hx hf) fun v O H Q ⟨Y,Z,s,d,r,en,dn,h⟩=>okR.here (b:=O.set i (some v)) h r (en.set dn i)
def xO(i j:Nat):FG:=fun d Z s=>match d with | .tup [x,y]=>.ok ((Z.set i (some x)).set j (some y)) s | _=>.no
theorem z4b(i j:Nat){x y:Str}{px py:Pos}{kt:Nat}(hc:X.calm=true)(hN:X.N.Nodup)(hi:X.N[i]? = some x:=by rfl)(hj:X.N[j]? = some y:=by rfl)(hx:Loc X.env.scope x:=by first | exact Or.inl rfl | exact Or.inr rfl)(hy:Loc X.env.scope y:=by first | exact Or.inl rfl | exact Or.inr rfl) (hf:X.fn x=true\/X.env.scope.names.lookup x=some .local:=by first | exact .inl rfl | exact .inr rfl | assumption)(hf':X.fn y=true\/X.env.scope.names.lookup y=some .local:=by first | exact .inl rfl | exact .inr rfl | assumption): RG X E (.Tuple [.Name x px,.Name y py] kt pos) (xO i j):= zbI (zcj hc (z0w (yo hN hi hx hf) (z0w (yo hN hj hy hf') z9D))) fun v O H Q ⟨Y,Z,s,d,r,en,dn,h⟩=>by
  unfold xO at h;split at h
  ·rename_i d1 d2;obtain ⟨p,vs,rfl,q1,q2⟩:=ji (K:=X.K) dn;obtain ⟨v1,v2,rfl,e1,e2⟩:=z7l q2;exact ⟨p,[v1,v2],rfl,q1,rfl,v1,[v2],rfl,v2,[],rfl,rfl,okR.here h r ((en.set e1 i).set e2 j)⟩
  ·exact h.elim
def xl(i:Nat)(f:FE):FS:=fun Z s=>(f Z s).bind fun d s1=>.ok (.nx (Z.set i (some d))) s1
theorem wo (i:Nat) {x:Str} {pos':Pos} {f:FE} (hN:X.N.Nodup) (he:RE X E e f) (hi:X.N[i]? = some x:=by rfl) (hx:Loc X.env.scope x:=by first | exact Or.inl rfl | exact Or.inr rfl) (hs:swapsWith e (some (.Name x pos')) pos.line X.env=pure false:=by rfl) (hf:X.fn x=true\/X.env.scope.names.lookup x=some .local:=by first | exact .inl rfl | exact .inr rfl | assumption):RS X E (.Assign [.Name x pos'] e pos) (xl i f):= vy (zgh hN hi hx he hs hf) fun D O H ⟨Y,Z,s,r,en,h⟩=>zO (k:=fun Z d s1=>R.ok (Fl.nx (Z.set i (some d))) s1) r en h _ fun v H1 Y1 s1 d r1 en1 dn stp h1=>okR.here (b:=FlV.nx (O.set i (some v))) (Q:=z3Q D) h1 r1 (en1.set dn i)
def zcv(f:FE)(g:FG):FS:=fun Z s=>(f Z s).bind fun d s1=>(g d Z s1).bind fun Z' s2=>.ok (.nx Z') s2
theorem z8a {tg:Expr} {f:FE} {g:FG} (he:RE X E e f) (hg:RG X E tg g) (hs:swapsWithSole [tg] e pos.line X.env=pure false:=by rfl) (hw:swappedStores [tg] e X.env=pure none:=by rfl) (h1:(assignEach [tg] X.env).map (·.2)=[assign tg X.env]:=by rfl):RS X E (.Assign [tg] e pos) (zcv f g):= vy (zc2 he hg hs hw h1) fun D O H ⟨Y,Z,s,r,en,h⟩=>zO (k:=fun Z d s1=>(g d Z s1).bind fun Z' s2=>R.ok (Fl.nx Z') s2) r en h _ fun v H1 Y1 s1 d r1 en1 dn stp h1=> ⟨Y1,Z,s1,d,r1,en1,dn,(okR.bind (Dn:=wV (gm X)) h1).imp fun O' H' ⟨Y2,s2,Z',stp2,en2,q⟩=>okR.here (b:=FlV.nx O') (Q:=z3Q D) q stp2.rep en2⟩
def zjC(i j:Nat)(f:FA):FS:=fun Z s=>(f Z s).bind fun ds s1=>match ds with | [x,y]=>.ok (.nx ((Z.set i (some x)).set j (some y))) s1 | _=>.no
def z3m(fo fi fv:FE):FS:=fun Z s=>(fv Z s).bind fun d s1=>(fo Z s1).bind fun o s2=>(fi Z s2).bind fun i s3=>match o,i with
 | .loc l,.int k=>match s3[l]? with
  | some xs=>match ixN xs.length k with
   | some j=>if d.flat=true then .ok (.nx Z) (s3.set l (xs.set j d)) else .no | none=>.no
  | none=>.no
 | _,_=>.no
theorem z3Z:∀ {xs:List D}{d:D}{j:Nat},D.flat.flats xs=true->d.flat=true->D.flat.flats (xs.set j d)=true
 | [],_,_,_,_=>rfl | x::xs,d,0,h,hd=>by
  simp only [D.flat.flats,Bool.and_eq_true,List.set_cons_zero] at h ⊢;exact ⟨hd,h.2⟩ | x::xs,d,j+1,h,hd=>by
  simp only [D.flat.flats,Bool.and_eq_true,List.set_cons_succ] at h ⊢;exact ⟨h.1,z3Z h.2 hd⟩
theorem qC:∀ {xs ys:List D},D.flat.flats xs=true->D.flat.flats ys=true->D.flat.flats (xs++ys)=true
 | [],_,_,h=>h | x::xs,ys,h,h'=>by
  simp only [D.flat.flats,Bool.and_eq_true,List.cons_append] at h ⊢;exact ⟨h.1,qC h.2 h'⟩
theorem zce {o i:Expr} {p1:Pos} {fo fi fv:FE} (hv:RE X E e fv) (ho:RE X E o fo) (hi:RE X E i fi) (ha:∀ v,assign (.Subscript o i p1) X.env v=(do
   let ov <- holding [v] (eval o X.env) let iv <- holding [v,ov] (eval i X.env)
   standAt p1
   holding [v,ov,iv] (setItem ov iv v)
   release [v,ov,iv] []):=by intro _;rfl) (hs:swapsWithSole [.Subscript o i p1] e pos.line X.env=pure false:=by rfl) (hw:swappedStores [.Subscript o i p1] e X.env=pure none:=by rfl) (h1:(assignEach [.Subscript o i p1] X.env).map (·.2)=[assign (.Subscript o i p1) X.env]:=by rfl):RS X E (.Assign [.Subscript o i p1] e pos) (z3m fo fi fv):= vy (zc2 hv (zen ho hi set_list ha) hs hw h1) fun D O H ⟨Y,Z,s,r,en,h⟩=>by
  unfold z3m at h;refine ⟨Y,Z,s,r,en,(okR.bind (Dn:=Den (gm X)) h).imp fun v H1 ⟨Y1,s1,d,stp,dn,h1⟩=>?_⟩;refine ⟨Y1,Z,s1,stp.rep,en.mono stp,(okR.bind (Dn:=Den (gm X)) h1).imp fun ov H2 ⟨Y2,s2,od,stp2,dn2,h2⟩=>?_⟩;refine ⟨Y2,Z,s2,stp2.rep,(en.mono stp).mono stp2,(okR.bind (Dn:=Den (gm X)) h2).imp fun iv H3 ⟨Y3,s3,id,stp3,dn3,h3⟩=>?_⟩;have en3:=((en.mono stp).mono stp2).mono stp3;have dv:=(dn.mono stp2).mono stp3;have dov:=dn2.mono stp3;cases od with
  | loc l=> cases id with
   | int k=>
    simp only at h3;split at h3
    ·rename_i xs ex;split at h3
     ·rename_i j ej;split at h3
      ·rename_i hf;cases zT dn3;simp only [Den] at dov;obtain ⟨a,rfl,e1,ka⟩:=dov;obtain ⟨vs,q1,q2⟩:=stp3.rep.at_ ex e1 ka;have stp4:=xS.put (l:=l) (xs:=xs.set j d) stp3.rep e1 ka (q2.set j dv) (z3Z (stp3.rep.flat xs (List.mem_of_getElem? ex)) hf);exact ⟨a,vs,k,j,rfl,rfl,q1,by rw [q2.length];exact ej,h3 (.nx O) _ _ stp4 (en3.mono stp4)⟩
      ·exact h3.elim
     ·exact h3.elim
    ·exact h3.elim | _=>exact h3.elim
  | _=>exact h3.elim
def zc5(fo fv:FE):FE:=fun Z s=>(fo Z s).bind fun o s1=>match o with
 | .loc l=>(fv Z s1).bind fun d s2=>match s2[l]? with
  | some xs=>if d.flat=true/\xs.length<cap then .ok .non (s2.set l (xs++[d])) else .no | none=>.no
 | _=>.no
theorem z78 {o:Expr} {apos:Pos} {fo fv:FE} (ho:RE X E o fo) (hv:RE X E e fv) (hbase:attributeBase o "append" X.env (eval o X.env)=eval o X.env:=by rfl) (hfew:((backTo pos (starEach [e] X.env)).all (fun x=>!x.1)&&(backToKw pos (keywordEach [] X.env)).all (fun x=>x.1.isSome) && decide ([e].length+([]:List Keyword).length+(if ([]:List Keyword).isEmpty then 0 else 1)<30))=true:=by rfl) (hline:(apos.endLine==pos.line)=true:=by rfl) (hs:starEach [e] X.env=(false,eval e X.env)::starEach [] X.env:=by rfl) (hplain:(backTo pos (starEach [] X.env)).any (·.1)=false:=by rfl): RE X E (.Call (.Attribute o "append" apos) [e] [] pos) (zc5 fo fv):= zV (zg6 PySem.F.plainAttrs_list PySem.F.slot_list_append PySem.F.type_list_append z9k ho (kz hv z4D hs) hbase hfew hline hs hplain) fun O H Q ⟨Y,Z,s,r,en,h⟩=>by
  unfold zc5 at h;refine ⟨Y,Z,s,r,en,(okR.bind (Dn:=Den (gm X)) h).imp fun ov H1 ⟨Y1,s1,od,stp,dn,h1⟩=>?_⟩;cases od with
  | loc l=>
   simp only at h1;have hty:tyV X.K "list" ov H1:=by
    simp only [Den] at dn;obtain ⟨a,rfl,e1,vs,e2⟩:=dn;exact .inl ⟨rfl,vs,.inl (.inl e2)⟩
   refine ⟨hty,⟨Y1,Z,s1,stp.rep,en.mono stp,(okR.bind (Dn:=Den (gm X)) h1).imp fun v H2 ⟨Y2,s2,d,stp2,dn2,h2⟩=>?_⟩⟩;split at h2
   ·rename_i xs ex;split at h2
    ·rename_i hf;have dov:=dn.mono stp2;simp only [Den] at dov;obtain ⟨a,rfl,e1,ka⟩:=dov;obtain ⟨vs,q1,q2⟩:=stp2.rep.at_ ex e1 ka;have stp3:=xS.put (l:=l) (xs:=xs++[d]) stp2.rep e1 ka (q2.append (zr.one dn2)) (qC (stp2.rep.flat xs (List.mem_of_getElem? ex)) (by simp [D.flat.flats,hf.1]));refine ⟨a,vs,v,rfl,rfl,q1,by rw [q2.length];exact zgf hf.2,h2 .non _ _ stp3 (by simp [Den])⟩
    ·exact h2.elim
   ·exact h2.elim | _=>exact h1.elim
end
end Dd
namespace L2
open PySem.Spec
theorem zfS{X:Cx}{tg l:Expr}{tl:TE}(hl:PE X l tl):PI X tg l (fun O H R=>tl O H fun x H1=>∃ a,x=.ref a/\(((∃ xs,SqL X.K H1 a xs)/\R (Itl X.K a) H1)\/((∃ xs,SqT X.K H1 a xs)/\R (Itt X.K a) H1))):=by
 intro pins s O H R I h;refine thn (hl pins s O H _ I h) fun v s1 ⟨x,H1,I1,r1,q1⟩=>?_;obtain ⟨a,e,q⟩:=q1;subst e;cases r1;rcases q with ⟨⟨xs,hq⟩,q⟩ | ⟨⟨xs,hq⟩,q⟩
 ·obtain ⟨its,rv,p,hz⟩:=I1.list hq;refine wpAny_pyIter_list p.isList ?_;refine ⟨s1.heap.objs.size,[s1.heap.objs.size],_,_,H1,rfl,I1.kept (t':=s1.toks) fun b o e=>Heap.get?_push_of_some _ e,z9i a _,⟨_,Heap.get?_push_size _ rfl,rfl,rfl⟩,fun b hb=>?_,q⟩;have e:b=s1.heap.objs.size:=by simpa using hb
  subst e;exact I1.fpOk (Nat.le_refl _) (I1.hok.fresh (Nat.le_refl _))
 ·obtain ⟨its,rv,p,hz⟩:=I1.tuple hq;refine wpAny_pyIter_tuple (show s1.heap.IsTuple a its.toArray from p) ?_;refine ⟨s1.heap.objs.size,[s1.heap.objs.size],_,_,H1,rfl,I1.kept (t':=s1.toks) fun b o e=>Heap.get?_push_of_some _ e,z7V a _,⟨_,Heap.get?_push_size _ rfl,rfl,rfl⟩,fun b hb=>?_,q⟩;have e:b=s1.heap.objs.size:=by simpa using hb
  subst e;exact I1.fpOk (Nat.le_refl _) (I1.hok.fresh (Nat.le_refl _))
theorem jH.freeze{X:Cx}{pins:List (Addr×Obj)}{O:L2.St}{C:Addr}{Q:VK}{acc:Value}{s':Shared}(h:jH X pins O C (z8V Q) acc s'):jH X pins O C Q acc s':=by
 obtain ⟨v,Hf,I,r,⟨a,xs,rfl,ha,q⟩,hm,f⟩:=h;obtain ⟨its,n,rv,e,_⟩:=I.lst ha;refine ⟨_,_,I.freeze ha e (by intro _ z;cases z) (by intro _ _ z;cases z) (by intro _ z;cases z) (by intro _ z;cases z),r,q _,hm,?_,f.2⟩;rw [zw (fun z=>by have:=f.1;rw [z,ha] at this;cases this)];exact f.1
theorem z5A {X:Cx} {tg iter elt:Expr} {ifs:List Expr} {scope:Scope} {pos spos py:Pos} {wi:TI} {g:TG} {ti:TT} {te:TE} {i:Nat} {y:Str} (N':List Str) (mp:List (Option Nat)) (hN:X.N.Nodup) (hy:X.N[i]? = some y) (hyl:Loc X.env.scope y) (hc:X.calm=true) (hi:PI X tg iter wi) (hg:∀ ex s H,PG (zj X N' scope ex s H) tg g) (ht:∀ ex s H,z6y (zj X N' scope ex s H) ifs ti) (he:∀ ex s H,PE (zj X N' scope ex s H) elt te) (hkd:scope.kind=.function) (hnm:∀ y∈scope.names,scope.names.lookup y.1=some y.2) (hfr:∀ y∈scope.names,y.2=.free->X.env.kindOf y.1=some .cell\/X.env.kindOf y.1=some .free) (hmp:z0x X.N scope.names N' mp=true) (hs:∀ x,foldedSetIterable iter X.env x=pure x:=by intro _;rfl) (hsw:swapsWith (.ListComp elt [⟨tg,iter,ifs,0⟩] scope pos) (some (.Name y py)) spos.line X.env=pure true:=by rfl) (hf:X.fn y=true\/X.env.scope.names.lookup y=some .local:=by first | exact .inl rfl | exact .inr rfl | assumption): PS X (.Assign [.Name y py] (.ListComp elt [⟨tg,iter,ifs,0⟩] scope pos) spos) (fun D O H=>zbA wi mp g ti te O H (z8V fun v H'=>D.nx (O.set i (some v)) H')):=by
 intro pins s O H D I h;rw [exec_Assign_Name_used _ _ _ _ hsw];refine wpAny_bind (wpAny_standAt (wpAny_bind ?_));show wpAny _ X.A (do let _ <- comprehension (.ListComp elt [⟨tg,iter,ifs,0⟩] scope pos) scope X.env _ (newList []) false (eval iter X.env) (some (assign (.Name y py) X.env))) _ _ s;refine wpAny_bind (wpAny_mono (wpAny_comprehension_free (use:=some (assign (.Name y py) X.env)) (Q:=fun _ s'=>SP X pins D .next s') rfl hs (vd fun y hy hf=>I.ok.has _ (hfr y hy hf)) hkd (fun y hy hl=>by rw [hnm y hy,hl]) (thn (hi pins s O H _ I h) fun xv s₁ h₁=>thn h₁ fun itv s₂ h₂=>?_)) (fun _ s' hq=>wpAny_pure (wpAny_pure hq)) fun _ _ e=>e);obtain ⟨it,fp,tn,J,H2,e,I2,T,st2,f2,W,w0,turn⟩:=h₂;subst e;refine kq (N':=N') (mp:=mp) (O:=O) (pins:=pins) (Q:=z8V fun v H'=>D.nx (O.set i (some v)) H') (RR:=fun acc C=>compPost (model X.prog X.w) X.A X.xe (some (assign (.Name y py) X.env)) (fun _ s'=>SP X pins D .next s') acc C) hc hg ht he hkd hnm hfr hmp I2 T st2 f2 W w0 turn ?_;intro acc C s' hd;obtain ⟨v,Hf,I3,r,q,⟨m,hm⟩,f⟩:=hd.freeze;refine wpAny_assign_Name (jT I3 hN hy hyl r (fun s'' I4 ⟨a,sb,ha⟩=>?_) hf);have hC:C≠a:=by
  rcases ha with z | z;·rw [z];exact f.2.1
  ·exact Ne.symm (f.2.2.2.2.1 y a z)
 exact ⟨m,hm.sameBut sb hC,fun h' sb'=>⟨_,Hf,uS I4 f sb',q⟩⟩
end L2
namespace Dd
open PySem.Spec L2
abbrev ItD:=List D×List (Nat×List D)
def okG(g:List (Nat×List D))(all:List D)(s:Sto):Prop:=∀ p∈g,s[p.1]? = some p.2
def zaf(mg:Gm)(H0:Hp)(Y0:List Addr)(a:ItD)(J:It):Prop:=∀ H Y s,xS mg H0 Y0 H Y s->okG a.2 a.1 s->∀ i:Nat, (∀ d,a.1[i]? = some d->J.go i H/\∀ x H',J.yld i H x H'->∃ Y',xS mg H Y H' Y' s/\Den mg H' Y' d x)/\(a.1.length<=i->J.stop i H)
abbrev FI:=Ev->Sto->R ItD
def tI(mg:Gm)(E:XK)(f:FI):TI:=fun O H Rr=>∃ Y Z s,Rep mg H Y s/\wV mg H Y Z O/\okR mg E H Y (zaf mg) (f Z s) Rr
def RI(X:Cx)(E:XK)(tg it:Expr)(f:FI):Prop:=PI X tg it (tI (gm X) E f)
section
variable {X:Cx}{E:XK}{e a b c tg:Expr}{es:List Expr}{pos:Pos}{CX:CXT}
theorem z26{it:Expr}{t t':TI}(h:PI X tg it t)(i:∀ O H Q,t' O H Q->t O H Q):PI X tg it t':=fun pins s O H Q I q=>h pins s O H Q I (i O H Q q)
def zW(f:FE):FI:=fun Z s=>(f Z s).bind fun d s1=>match d with
 | .tup xs=>.ok (xs,[]) s1 | .lst xs=>.ok (xs,[]) s1 | .loc l=>match s1[l]? with | some xs=>.ok (xs,[(l,xs)]) s1 | none=>.no
 | _=>.no
theorem qG{f:FE}(h:RE X E e f):RI X E tg e (zW f):=z26 (zfS h) fun O H Q ⟨Y,Z,s,r,en,h⟩=>by
 unfold zW at h;refine ⟨Y,Z,s,r,en,(okR.bind (Dn:=Den (gm X)) h).imp fun v H1 ⟨Y1,s1,d,stp,dn,h1⟩=>?_⟩;have lst:∀ (a:Addr)(xs:List D)(g:List (Nat×List D)),(∀ H2 Y2 s2,xS (gm X) H1 Y1 H2 Y2 s2->okG g xs s2->∃ ws,SqL X.K H2 a ws/\zr (gm X) H2 Y2 xs ws)->zaf (gm X) H1 Y1 (xs,g) (Itl X.K a):=fun a xs g hq H2 Y2 s2 stp2 hg i=>by
  obtain ⟨ws,q1,q2⟩:=hq H2 Y2 s2 stp2 hg;refine ⟨fun d hd=>?_,fun hl=>⟨ws,q1,by rw [q2.length];exact hl⟩⟩;obtain ⟨v,e1,e2⟩:=q2.get hd;refine ⟨⟨ws,v,q1,e1⟩,fun x H' ⟨e3,y⟩=>?_⟩;subst e3;have e4:=y ws q1;rw [e1] at e4;cases e4;exact ⟨Y2,.refl stp2.rep,e2⟩
 have tup:∀ (a:Addr)(xs:List D),(∀ H2 Y2 s2,xS (gm X) H1 Y1 H2 Y2 s2->∃ ws,SqT X.K H2 a ws/\zr (gm X) H2 Y2 xs ws)->zaf (gm X) H1 Y1 (xs,[]) (Itt X.K a):=fun a xs hq H2 Y2 s2 stp2 hg i=>by
  obtain ⟨ws,q1,q2⟩:=hq H2 Y2 s2 stp2;refine ⟨fun d hd=>?_,fun hl=>⟨ws,q1,by rw [q2.length];exact hl⟩⟩;obtain ⟨v,e1,e2⟩:=q2.get hd;refine ⟨⟨ws,v,q1,e1⟩,fun x H' ⟨e3,y⟩=>?_⟩;subst e3;have e4:=y ws q1;rw [e1] at e4;cases e4;exact ⟨Y2,.refl stp2.rep,e2⟩
 cases d with
 | tup xs=>
  have h1':okR (gm X) E H1 Y1 (zaf (gm X)) (.ok (xs,[]) s1) Q:=h1;obtain ⟨a,vs,rfl,q1,q2⟩:=ji (K:=X.K) dn;refine ⟨a,rfl,.inr ⟨⟨vs,q1⟩,h1'.here stp.rep (tup a xs fun H2 Y2 s2 stp2=>?_)⟩⟩;have dn2:=dn.mono stp2;obtain ⟨a',ws,e,q3,q4⟩:=ji (K:=X.K) dn2;cases e;exact ⟨ws,q3,q4⟩ | lst xs=>
  have h1':okR (gm X) E H1 Y1 (zaf (gm X)) (.ok (xs,[]) s1) Q:=h1;obtain ⟨a,vs,rfl,q1,q2⟩:=zM (d:=.lst xs) stp.rep rfl dn;refine ⟨a,rfl,.inl ⟨⟨vs,.inl q1⟩,h1'.here stp.rep (lst a xs [] fun H2 Y2 s2 stp2 _=>?_)⟩⟩;obtain ⟨a',ws,e,q3,q4⟩:=zM (d:=.lst xs) stp2.rep rfl (dn.mono stp2);cases e;exact ⟨ws,.inl q3,q4⟩ | loc l=>
  simp only at h1;split at h1
  ·rename_i xs ex;obtain ⟨a,vs,rfl,q1,q2⟩:=zM (d:=.loc l) stp.rep ex dn;refine ⟨a,rfl,.inl ⟨⟨vs,.inl q1⟩,h1.here stp.rep (lst a xs [(l,xs)] fun H2 Y2 s2 stp2 hg=>?_)⟩⟩;obtain ⟨a',ws,e,q3,q4⟩:=zM (d:=.loc l) stp2.rep (hg (l,xs) (by simp)) (dn.mono stp2);cases e;exact ⟨ws,.inl q3,q4⟩
  ·exact h1.elim | _=>exact h1.elim
end
section
variable {X:Cx}{E:XK}{e a b c tg:Expr}{es:List Expr}{pos:Pos}{CX:CXT}
def xB(n:Nat):List D:=(List.range n).map fun (k:Nat)=>D.int ((k:Nat):Int)
def z07(f:FA):FI:=fun Z s=>(f Z s).bind fun ds s1=>match ds with
 | [.int j]=>if -(2 ^ 62)<=j/\j<2 ^ 62 then .ok (xB j.toNat,[]) s1 else .no | _=>.no
theorem uF{p:Pos}{f:FA}(hg:Gl X "range")(hm:X.mg "range"=none)(ha:RA X E [a] f)(hs:starEach [a] X.env=[(false,eval a X.env)]:=by rfl):RI X E tg (.Call (.Name "range" p) [a] [] pos) (z07 f):= z26 (za3 hg hm ha hs) fun O H Q ⟨Y,Z,s,r,en,h⟩=>by
  unfold z07 at h;refine ⟨Y,Z,s,r,en,(okR.bind (Dn:=zr (gm X)) h).imp fun vs H1 ⟨Y1,s1,ds,stp,dn,h1⟩=>?_⟩;split at h1
  ·rename_i j;split at h1
   ·rename_i hj;obtain ⟨v,rfl,d1⟩:=z0a dn;cases zT d1;refine ⟨j,rfl,hj.1,hj.2,h1.here stp.rep fun H2 Y2 s2 stp2 _ i=>⟨fun d hd=>?_,fun hl=>?_⟩⟩
    ·have hi:i<j.toNat:=by
      have:=(List.getElem?_eq_some_iff.mp hd).1;simpa [xB] using this
     refine ⟨hi,fun x H' ⟨e1,e2⟩=>?_⟩;subst e1 e2;refine ⟨Y2,.refl stp2.rep,?_⟩;have e3:d=D.int i:=by
      simp only [xB,List.getElem?_map,List.getElem?_range hi,Option.map_some,Option.some.injEq] at hd;exact hd.symm
     rw [e3];simp [Den]
    ·have:(xB j.toNat).length=j.toNat:=by simp [xB]
     show j.toNat<=i;rw [<- this];exact hl
   ·exact h1.elim
  ·exact h1.elim
open Classical in
def wq(g:List (Nat×List D))(all:List D)(body:D->Ev->Sto->R Fl):List D->Ev->Sto->R Fl
 | [],Z,s=>if okG g all s then .ok (.nx Z) s else .no | x::xs,Z,s=>if okG g all s then (body x Z s).bind fun fl s1=>match fl with
   | .nx Z'=>wq g all body xs Z' s1 | .ct Z'=>wq g all body xs Z' s1 | .bk Z'=>.ok (.nx Z') s1 | .rt d=>.ok (.rt d) s1 else .no
def z5k(fi:FI)(fg:FG)(fb:FS):FS:=fun Z s=>(fi Z s).bind fun it s1=>wq it.2 it.1 (fun d Z s=>(fg d Z s).bind fun Z' s'=>fb Z' s') it.1 Z s1
theorem z1L {iter:Expr} {body:List Stmt} {fi:FI} {fg:FG} {fb:FS} (hp:PassesOwn (model X.prog X.w) X.A X.env X.xe) (hc:X.calm=true) (hi:RI X E tg iter fi) (hg:RG X E tg fg) (hb:RSs X E body fb) (hs:∀ x,foldedSetIterable iter X.env x=pure x:=by intro _;rfl):RS X E (.For tg iter body [] pos) (z5k fi fg fb):= vy (zfr hp hc hi hg hb hs) fun D O H ⟨Y,Z,s,r,en,h⟩=>by
  unfold z5k at h;refine ⟨Y,Z,s,r,en,(okR.bind (Dn:=zaf (gm X)) h).imp fun J H1 ⟨Y1,s1,it,stp,ok,h1⟩=>?_⟩;obtain ⟨items,g⟩:=it;simp only at h1;refine ⟨fun i m O H=>∃ Y Z s,xS (gm X) H1 Y1 H Y s/\wV (gm X) H Y Z O/\m=items.length-i/\i<=items.length/\ okR (gm X) E H Y (FlD (gm X)) (wq g items (fun d Z s=>(fg d Z s).bind fun Z' s'=>fb Z' s') (items.drop i) Z s) (z3Q D), ⟨items.length,Y1,Z,s1,.refl stp.rep,en.mono stp,by simp,Nat.zero_le _,by simpa using h1⟩,?_⟩;rintro i m O H ⟨Y2,Z2,s2,stp2,en2,rfl,hil,h2⟩;by_cases hlt:i<items.length
  ·right;rw [List.drop_eq_getElem_cons hlt,wq] at h2;split at h2
   ·rename_i hG;obtain ⟨go,yl⟩:=((ok H Y2 s2 stp2 hG i).1 items[i] (List.getElem?_eq_getElem hlt));refine ⟨go,fun O' H'=>∃ Y Z s,xS (gm X) H1 Y1 H' Y s/\wV (gm X) H' Y Z O'/\okR (gm X) E H' Y (FlD (gm X)) (wq g items (fun d Z s=>(fg d Z s).bind fun Z' s'=>fb Z' s') (items.drop (i+1)) Z s) (z3Q D), fun O' H' ⟨Y3,Z3,s3,q1,q2,q3⟩=>⟨items.length-(i+1),by omega,Y3,Z3,s3,q1,q2,rfl,hlt,q3⟩,fun x H' y=>?_⟩;obtain ⟨Y3,stp3,dn3⟩:=yl x H' y;have h3:=okR.rebase h2 stp3;have h4:=okR.bind (Dn:=FlD (gm X)) h3;refine ⟨Y3,Z2,s2,items[i],stp3.rep,en2.mono stp3,dn3,(okR.bind (Dn:=wV (gm X)) h4).imp fun O5 H5 ⟨Y5,s5,Z5,stp5,en5,h5⟩=>?_⟩;refine ⟨Y5,Z5,s5,stp5.rep,en5,h5.imp fun fv H6 ⟨Y6,s6,fl,stp6,dn6,q6⟩=>?_⟩;have all6:xS (gm X) H1 Y1 H6 Y6 s6:=(stp2.trans stp3).trans stp6;cases fl with
    | nx Z'=> cases fv with
     | nx O'=>exact ⟨Y6,Z',s6,all6,dn6,q6⟩ | _=>exact (show False from dn6).elim
    | ct Z'=> cases fv with
     | ct O'=>exact ⟨Y6,Z',s6,all6,dn6,q6⟩ | _=>exact (show False from dn6).elim
    | bk Z'=> cases fv with
     | bk O'=>exact okR.here (b:=FlV.nx O') (Q:=z3Q D) (a:=Fl.nx Z') (s:=s6) q6 stp6.rep dn6 | _=>exact (show False from dn6).elim
    | rt d=> cases fv with
     | rt v=>exact okR.here (b:=FlV.rt v) (Q:=z3Q D) (a:=Fl.rt d) (s:=s6) q6 stp6.rep dn6 | _=>exact (show False from dn6).elim
   ·exact h2.elim
  ·left;have e:i=items.length:=by omega
   subst e;rw [List.drop_length,wq] at h2;split at h2
   ·rename_i hG;exact ⟨(ok H Y2 s2 stp2 hG _).2 (Nat.le_refl _),okR.here (b:=FlV.nx O) (Q:=z3Q D) h2 stp2.rep en2⟩
   ·exact h2.elim
end
end Dd
namespace Zz
def Sit(b:Bool)(h:Heap)(it l:Addr)(k:Nat):Prop:=match b with
 | true=>h.IsListIter it l k | false=>h.IsTupleIter it l k
def Sco(b:Bool)(h:Heap)(l:Addr)(xs:Array Value):Prop:=match b with
 | true=>h.IsList l xs | false=>h.IsTuple l xs
theorem Sit.to{b:Bool}{h h':Heap}{it l:Addr}{k:Nat}(x:Sit b h it l k)(e:∀ o,h.get? it=some o->h'.get? it=some o):Sit b h' it l k:=by cases b with
 | true=>obtain ⟨o,ho,r⟩:=x;exact ⟨o,e _ ho,r⟩ | false=>obtain ⟨o,ho,r⟩:=x;exact ⟨o,e _ ho,r⟩
theorem Sco.to{b:Bool}{h h':Heap}{l:Addr}{xs:Array Value}(x:Sco b h l xs)(e:∀ o,h.get? l=some o->h'.get? l=some o):Sco b h' l xs:=by cases b with
 | true=>obtain ⟨o,ho,r⟩:=x;exact ⟨o,e _ ho,r⟩ | false=>obtain ⟨o,ho,r⟩:=x;exact ⟨o,e _ ho,r⟩
theorem Sit.lt{b:Bool}{h:Heap}{it l:Addr}{k:Nat}(x:Sit b h it l k):it<h.objs.size:=by cases b with
 | true=>obtain ⟨o,ho,r⟩:=x;exact Heap.lt_size ho | false=>obtain ⟨o,ho,r⟩:=x;exact Heap.lt_size ho
theorem Sit.ob{b:Bool}{h:Heap}{it l:Addr}{k:Nat}(x:Sit b h it l k):∃ o,h.get? it=some o/\∀ v,o.data≠.cell v:=by cases b with
 | true=>obtain ⟨o,ho,_,d⟩:=x;exact ⟨o,ho,fun v z=>by rw [d] at z;cases z⟩ | false=>obtain ⟨o,ho,_,d⟩:=x;exact ⟨o,ho,fun v z=>by rw [d] at z;cases z⟩
section
variable {P:Program}{w:World}{A:Around}{E:Value->Shared->Prop}{s:Shared}
theorem zeH{it l:Addr}{k:Nat}{xs:Array Value}{x:Value}{R:Value->Shared->Prop}(h1:s.heap.IsTupleIter it l k)(h2:s.heap.IsTuple l xs)(e:xs[k]? = some x) (q:∀ h',h'.IsTupleIter it l (k+1)->Heap.SameBut it s.heap h'->R x {s with heap:=h'}):wpAny (model P w) A (Builtin.SmallTypes.nextOf (.ref it)) R E s:=by
 obtain ⟨o,ho,hc,hd⟩:=id h1;obtain ⟨ol,hol,_,nl,hdl⟩:=h2;unfold Builtin.SmallTypes.nextOf;refine wpAny_bind (wpAny_callSpecial?_slot (name:=Str.ofString "__next__") h1.typeIs F.slot_tuple_iterator_next (wpAny_call_entry F.slot_tuple_iterator_next h1.typeIs F.entry_tuple_iterator_next ?_ (F.args_tuple_iterator_next_1 _)));show wpAny _ _ (field (.ref it) 0 >>= _) _ _ s;refine wpAny_bind (wpAny_field ho hd (x:=.ref l) rfl ?_);show wpAny _ _ (if (Value.ref l==Value.none)=true then _ else _) _ _ s;rw [if_neg (show ¬ ((Value.ref l==Value.none)=true) from Bool.false_ne_true)];show wpAny _ _ (field (.ref it) 1 >>= _) _ _ s;refine wpAny_bind (wpAny_field ho hd (x:=.int k 0) rfl ?_);show wpAny _ _ (seqItems? (.ref l) >>= _) _ _ s;refine wpAny_bind (wpAny_seqItems hol hdl ?_);simp only [Int.toNat_natCast,e];refine wpAny_bind (wpAny_setField ho hd (by simp) (wpAny_pure ⟨x,rfl,wpAny_pure (q _ ?_ (Heap.SameBut.update ..))⟩));exact ⟨_,Heap.get?_update_self _ ho (Obj.isFreed_of_fields (Obj.data_mapFields hd _)),(Obj.cls_mapFields ..).trans hc,by rw [Obj.data_mapFields hd];simp [rawInt]⟩
theorem z7D {it l:Addr} {k:Nat} {xs:Array Value} {R:Value->Shared->Prop} (hh:A.handled=none) (h1:s.heap.IsTupleIter it l k) (h2:s.heap.IsTuple l xs) (e:xs[k]? = none) (q:∀ h' e,Heap.ExtBut it s.heap h'->(∃ o,h'.get? e=some o/\o.cls=.type "StopIteration")->E (.ref e) {s with heap:=h'}):wpAny (model P w) A (Builtin.SmallTypes.nextOf (.ref it)) R E s:=by
 obtain ⟨o,ho,hc,hd⟩:=id h1;obtain ⟨ol,hol,_,nl,hdl⟩:=h2;unfold Builtin.SmallTypes.nextOf;refine wpAny_bind (wpAny_callSpecial?_slot (name:=Str.ofString "__next__") h1.typeIs F.slot_tuple_iterator_next (wpAny_call_entry F.slot_tuple_iterator_next h1.typeIs F.entry_tuple_iterator_next ?_ (F.args_tuple_iterator_next_1 _)));show wpAny _ _ (field (.ref it) 0 >>= _) _ _ s;refine wpAny_bind (wpAny_field ho hd (x:=.ref l) rfl ?_);show wpAny _ _ (if (Value.ref l==Value.none)=true then _ else _) _ _ s;rw [if_neg (show ¬ ((Value.ref l==Value.none)=true) from Bool.false_ne_true)];show wpAny _ _ (field (.ref it) 1 >>= _) _ _ s;refine wpAny_bind (wpAny_field ho hd (x:=.int k 0) rfl ?_);show wpAny _ _ (seqItems? (.ref l) >>= _) _ _ s;refine wpAny_bind (wpAny_seqItems hol hdl ?_);simp only [Int.toNat_natCast,e];refine wpAny_bind (wpAny_rule (wpAny_bind (wpAny_setField ho hd (by simp) ?_)));show wpAny _ _ (newExc (.type "StopIteration") [] >>= _) _ _ _;refine wpAny_bind ?_;simp only [newExc,newTuple];refine wpAny_bind (wpAny_newObj_type ?_ (by size_fits));refine wpAny_bind (m:=firstArgMember _ _) (wpAny_of_eq (a:=Value.none) (by first | rfl | (simp only [firstArgMember];rfl)) ?_);refine wpAny_newObj_type ?_ (by size_fits);simp only [raiseNew];refine wpAny_bind (wpAny_handled ?_);first | rw [show A.in1.handled=none from hh] | rw [hh]
 refine wpAny_bind (wpAny_pure (wpAny_throw ?_));exact q _ _ (((Heap.SameBut.update ..).extBut.push _).push _) ⟨_,Heap.get?_push_size _ rfl,rfl⟩
theorem nx{b:Bool}{it l:Addr}{k:Nat}{xs:Array Value}{x:Value}{R:Value->Shared->Prop}(h1:Sit b s.heap it l k)(h2:Sco b s.heap l xs)(e:xs[k]? = some x) (q:∀ h',Sit b h' it l (k+1)->Heap.SameBut it s.heap h'->R x {s with heap:=h'}):wpAny (model P w) A (Builtin.SmallTypes.nextOf (.ref it)) R E s:=by cases b with
 | true=>exact wpAny_nextOf_list_item h1 h2 e q | false=>exact zeH h1 h2 e q
theorem z8z {b:Bool} {it l:Addr} {k:Nat} {xs:Array Value} {R:Value->Shared->Prop} (hh:A.handled=none) (h1:Sit b s.heap it l k) (h2:Sco b s.heap l xs) (e:xs[k]? = none) (q:∀ h' e,Heap.ExtBut it s.heap h'->(∃ o,h'.get? e=some o/\o.cls=.type "StopIteration")->E (.ref e) {s with heap:=h'}):wpAny (model P w) A (Builtin.SmallTypes.nextOf (.ref it)) R E s:=by cases b with
 | true=>exact wpAny_nextOf_list_end hh h1 h2 e q | false=>exact z7D hh h1 h2 e q
theorem zn{a:Addr}{h h':Heap}(hs:Heap.SameBut a h h'){b:Addr}{o:Obj}(n:b≠a)(e:h.get? b=some o):h'.get? b=some o:=hs.extBut _ _ n e
theorem zcU {z TI TO i1 i2 l1 l2:Addr} {b1 b2:Bool} {k:Nat} {xs ys:Array Value} {x y a b:Value} {Q:Option Value->Shared->Prop} (D:ZipApart z TI TO i1 i2 l1 l2) (hz:IsZip s.heap z TI TO .none) (hTI:IsPair s.heap TI (.ref i1) (.ref i2)) (hTO:IsPair s.heap TO a b) (h1:Sit b1 s.heap i1 l1 k) (h2:Sit b2 s.heap i2 l2 k) (c1:Sco b1 s.heap l1 xs) (c2:Sco b2 s.heap l2 ys) (ex:xs[k]? = some x) (ey:ys[k]? = some y) (q:∀ h',IsZip h' z TI TO (rawInt s.heap.objs.size)->IsPair h' TO x y->Sit b1 h' i1 l1 (k+1)->Sit b2 h' i2 l2 (k+1)->IsPair h' s.heap.objs.size x y->h'.objs.size=s.heap.objs.size+1-> (∀ c o,c≠z->c≠TO->c≠i1->c≠i2->s.heap.get? c=some o->h'.get? c=some o)->Q (some (.ref s.heap.objs.size)) {s with heap:=h'}):wpAny (model P w) A (pyNext (.ref z)) Q E s:=by
 have hT:s.TypeIs (.ref z) "zip":=⟨_,hz,rfl⟩;unfold pyNext;refine wpAny_bind (wpAny_attempt (wpAny_callSpecial?_slot (name:=Str.ofString "__next__") hT F.slot_zip_next (wpAny_call_entry F.slot_zip_next hT F.entry_zip_next (Q:=fun v s'=>wpAny (model P w) A (pure (some v)) Q E s') ?_ (F.args_zip_next_1 _))));show wpAny _ _ (field (.ref z) 2 >>= _) _ _ _;refine wpAny_bind (wpAny_field hz rfl (x:=.bool false) rfl ?_);show wpAny _ _ (field (.ref z) 3 >>= _) _ _ _;refine wpAny_bind (wpAny_field hz rfl (x:=.ref TI) rfl ?_);refine wpAny_bind (wpAny_seqItems hTI rfl ?_);show wpAny _ _ (Builtin.SmallTypes.ownedTupleIsFree (.ref z) >>= _) _ _ _;refine wpAny_bind ?_;unfold Builtin.SmallTypes.ownedTupleIsFree;refine wpAny_bind (wpAny_field hz rfl (x:=.none) rfl (wpAny_pure ?_));simp only [if_true];refine wpAny_bind (wpAny_rule ?_);refine wpAny_bind (wpAny_field hz rfl (x:=.ref TO) rfl ?_);refine wpAny_bind (wpAny_setField_rec hz (by simp) fun g1 z1 s1=>?_);replace z1:IsZip g1 z TI TO .ellipsis:=z1;refine wpAny_bind ?_;simp only [List.zipIdx_cons,List.zipIdx_nil,List.forIn_cons,List.forIn_nil];refine wpAny_bind (wpAny_bind (wpAny_onRaise ?_));show wpAny _ _ (Builtin.SmallTypes.nextOf (.ref i1) >>= _) _ _ _;refine wpAny_bind (nx (h1.to fun o e=>zn s1 D.i1z e) (c1.to fun o e=>zn s1 D.l1z e) ex fun g2 t2 s2=>wpAny_pure ?_);have o2:IsPair g2 TO a b:=zn s2 D.TOi1 (zn s1 D.TOz hTO);refine wpAny_bind (wpAny_seqItems o2 rfl ?_);refine wpAny_bind (wpAny_updateSeq_pair o2 fun g3 o3 s3=>?_);replace o3:IsPair g3 TO x b:=o3;refine wpAny_bind (wpAny_letGo (wpAny_pure ?_));refine wpAny_bind (wpAny_bind (wpAny_onRaise ?_));show wpAny _ _ (Builtin.SmallTypes.nextOf (.ref i2) >>= _) _ _ _;refine wpAny_bind (nx (h2.to fun o e=>zn s3 D.TOi2.symm (zn s2 D.i12.symm (zn s1 D.i2z e))) (c2.to fun o e=>zn s3 D.l2TO (zn s2 D.l2i1 (zn s1 D.l2z e))) ey fun g4 t4 s4=>wpAny_pure ?_);have o4:IsPair g4 TO x b:=zn s4 D.TOi2 o3;refine wpAny_bind (wpAny_seqItems o4 rfl ?_);refine wpAny_bind (wpAny_updateSeq_pair o4 fun g5 o5 s5=>?_);replace o5:IsPair g5 TO x y:=o5;refine wpAny_bind (wpAny_letGo (wpAny_pure (wpAny_pure ?_)));refine wpAny_bind (wpAny_seqItems o5 rfl ?_);refine wpAny_bind (wpAny_newTuple ?_);have sz:g5.objs.size=s.heap.objs.size:=by rw [s5.1,s4.1,s3.1,s2.1,s1.1]
 have z5:IsZip g5 z TI TO .ellipsis:=zn s5 D.TOz.symm (zn s4 D.i2z.symm (zn s3 D.TOz.symm (zn s2 D.i1z.symm z1)));have k5:∀ c o,c≠z->c≠TO->c≠i1->c≠i2->s.heap.get? c=some o->g5.get? c=some o:=fun c o n1 n2 n3 n4 e=>zn s5 n2 (zn s4 n4 (zn s3 n2 (zn s2 n3 (zn s1 n1 e))));have t5:Sit b1 g5 i1 l1 (k+1):=t2.to fun o e=>zn s5 D.TOi1.symm (zn s4 D.i12 (zn s3 D.TOi1.symm e));have u5:Sit b2 g5 i2 l2 (k+1):=t4.to fun o e=>zn s5 D.TOi2.symm e;have zl:z<g5.objs.size:=Heap.lt_size z5;show wpAny _ _ (Builtin.SmallTypes.ownedTupleHandOut (.ref z) (.ref g5.objs.size) >>= _) _ _ _;refine wpAny_bind ?_;unfold Builtin.SmallTypes.ownedTupleHandOut;have z6:IsZip (g5.push {cls:=.type "tuple",data:=.seq #[x,y]}) z TI TO .ellipsis:=Heap.get?_push_of_some _ z5;refine wpAny_bind (wpAny_setField_rec z6 (by simp) fun g7 z7 s7=>?_);replace z7:IsZip g7 z TI TO (rawInt g5.objs.size):=z7;refine wpAny_setField_rec z7 (by simp) fun g8 z8 s8=>?_;replace z8:IsZip g8 z TI TO (rawInt g5.objs.size):=z8;have up:∀ c o,c≠z->g5.get? c=some o->g8.get? c=some o:=fun c o n e=>zn s8 n (zn s7 n (Heap.get?_push_of_some _ e));have p8:IsPair g8 g5.objs.size x y:=zn s8 (Nat.ne_of_gt zl) (zn s7 (Nat.ne_of_gt zl) (Heap.get?_push_size _ rfl));have e8:g8.objs.size=g5.objs.size+1:=by rw [s8.1,s7.1,Heap.size_push]
 rw [sz] at z8 p8 e8;refine wpAny_pure ⟨_,rfl,wpAny_pure ?_⟩;show Q (some (.ref g5.objs.size)) _;rw [sz];exact q g8 z8 (up _ _ D.TOz o5) (t5.to fun o e=>up _ o D.i1z e) (u5.to fun o e=>up _ o D.i2z e) p8 e8 fun c o n1 n2 n3 n4 e=>up c o n1 (k5 c o n1 n2 n3 n4 e)
theorem zg5 {z TI TO i1 i2 l1 l2:Addr} {b1 b2:Bool} {k:Nat} {xs ys:Array Value} {a b:Value} {Q:Option Value->Shared->Prop} (hh:A.handled=none) (D:ZipApart z TI TO i1 i2 l1 l2) (hz:IsZip s.heap z TI TO .none) (hTI:IsPair s.heap TI (.ref i1) (.ref i2)) (hTO:IsPair s.heap TO a b) (h1:Sit b1 s.heap i1 l1 k) (h2:Sit b2 s.heap i2 l2 k) (c1:Sco b1 s.heap l1 xs) (c2:Sco b2 s.heap l2 ys) (en:xs[k]? = none\/ys[k]? = none) (q:∀ h',(∀ c o,c≠z->c≠TO->c≠i1->c≠i2->s.heap.get? c=some o->h'.get? c=some o)->Q none {s with heap:=h'}):wpAny (model P w) A (pyNext (.ref z)) Q E s:=by
 have hT:s.TypeIs (.ref z) "zip":=⟨_,hz,rfl⟩;have fin:∀ h' e,(∀ c o,c≠z->c≠TO->c≠i1->c≠i2->s.heap.get? c=some o->h'.get? c=some o)->(∃ o,h'.get? e=some o/\o.cls=.type "StopIteration")-> wpAny (model P w) A (isInstance (.ref e) (.type "StopIteration") >>= fun b=>if b=true then (pure none:Sem (Option Value)) else throw (.ref e)) Q E {s with heap:=h'}:=fun h' e hk he=>by
  obtain ⟨o,ho,hc⟩:=he;refine wpAny_bind (wpAny_isInstance (T:="StopIteration") (b:=true) ⟨o,ho,hc⟩ isSubtype_stop ?_);exact wpAny_pure (q _ hk)
 unfold pyNext;refine wpAny_bind (wpAny_attempt (wpAny_callSpecial?_slot (name:=Str.ofString "__next__") hT F.slot_zip_next (wpAny_call_entry F.slot_zip_next hT F.entry_zip_next ?_ (F.args_zip_next_1 _))));show wpAny _ _ (field (.ref z) 2 >>= _) _ _ _;refine wpAny_bind (wpAny_field hz rfl (x:=.bool false) rfl ?_);show wpAny _ _ (field (.ref z) 3 >>= _) _ _ _;refine wpAny_bind (wpAny_field hz rfl (x:=.ref TI) rfl ?_);refine wpAny_bind (wpAny_seqItems hTI rfl ?_);show wpAny _ _ (Builtin.SmallTypes.ownedTupleIsFree (.ref z) >>= _) _ _ _;refine wpAny_bind ?_;unfold Builtin.SmallTypes.ownedTupleIsFree;refine wpAny_bind (wpAny_field hz rfl (x:=.none) rfl (wpAny_pure ?_));simp only [if_true];refine wpAny_bind (wpAny_rule ?_);refine wpAny_bind (wpAny_field hz rfl (x:=.ref TO) rfl ?_);refine wpAny_bind (wpAny_setField_rec hz (by simp) fun g1 z1 s1=>?_);replace z1:IsZip g1 z TI TO .ellipsis:=z1;refine wpAny_bind ?_;simp only [List.zipIdx_cons,List.zipIdx_nil,List.forIn_cons,List.forIn_nil];refine wpAny_bind (wpAny_bind (wpAny_onRaise ?_));show wpAny _ _ (Builtin.SmallTypes.nextOf (.ref i1) >>= _) _ _ _;cases ex:xs[k]? with
 | none=>
  refine wpAny_bind (z8z hh (h1.to fun o e=>zn s1 D.i1z e) (c1.to fun o e=>zn s1 D.l1z e) ex fun g2 e s2 he=>?_);obtain ⟨oe,hoe,hce⟩:=he;have z2:IsZip g2 z TI TO .ellipsis:=s2 _ _ D.i1z.symm z1;have ez:e≠z:=fun t=>by subst t;rw [z2] at hoe;cases hoe;simp at hce
  exact wpAny_setField_rec z2 (by simp) fun g3 _ s3=>fin g3 e (fun c o n1 _ n3 _ t=>zn s3 n1 (s2 _ _ n3 (zn s1 n1 t))) ⟨oe,zn s3 ez hoe,hce⟩ | some x=>
  have ey:ys[k]? = none:=by rcases en with t | t;rw [ex] at t;cases t;exact t
  refine wpAny_bind (nx (h1.to fun o e=>zn s1 D.i1z e) (c1.to fun o e=>zn s1 D.l1z e) ex fun g2 t2 s2=>wpAny_pure ?_);have o2:IsPair g2 TO a b:=zn s2 D.TOi1 (zn s1 D.TOz hTO);refine wpAny_bind (wpAny_seqItems o2 rfl ?_);refine wpAny_bind (wpAny_updateSeq_pair o2 fun g3 o3 s3=>?_);refine wpAny_bind (wpAny_letGo (wpAny_pure ?_));refine wpAny_bind (wpAny_bind (wpAny_onRaise ?_));show wpAny _ _ (Builtin.SmallTypes.nextOf (.ref i2) >>= _) _ _ _;refine wpAny_bind (z8z hh (h2.to fun o e=>zn s3 D.TOi2.symm (zn s2 D.i12.symm (zn s1 D.i2z e))) (c2.to fun o e=>zn s3 D.l2TO (zn s2 D.l2i1 (zn s1 D.l2z e))) ey fun g4 e s4 he=>?_);obtain ⟨oe,hoe,hce⟩:=he;have z4:IsZip g4 z TI TO .ellipsis:=s4 _ _ D.i2z.symm (zn s3 D.TOz.symm (zn s2 D.i1z.symm z1));have ez:e≠z:=fun t=>by subst t;rw [z4] at hoe;cases hoe;simp at hce
  exact wpAny_setField_rec z4 (by simp) fun g5 _ s5=>fin g5 e (fun c o n1 n2 n3 n4 t=>zn s5 n1 (s4 _ _ n4 (zn s3 n2 (zn s2 n3 (zn s1 n1 t))))) ⟨oe,zn s5 ez hoe,hce⟩
end
def itO(b:Bool)(l:Addr):Obj:=match b with
 | true=>{cls:=.type "list_iterator",data:=.fields #[.ref l,.int 0 0]} | false=>{cls:=.type "tuple_iterator",data:=.fields #[.ref l,.int 0 0]}
theorem z4i{b:Bool}{h:Heap}{a l:Addr}(e:h.get? a=some (itO b l)):Sit b h a l 0:=by cases b with
 | true=>exact ⟨_,e,rfl,rfl⟩ | false=>exact ⟨_,e,rfl,rfl⟩
theorem z0s(b:Bool)(l:Addr):(itO b l).isFreed=false:=by cases b<;>rfl
section
variable {P:Program}{w:World}{A:Around}{E:Value->Shared->Prop}{s:Shared}
theorem z2d {b:Bool} {l:Addr} {xs:Array Value} {Q:Value->Shared->Prop} (h:Sco b s.heap l xs) (q:Q (.ref s.heap.objs.size) {s with heap:=s.heap.push (itO b l)}):wpAny (model P w) A (pyIter (.ref l)) Q E s:=by cases b with
 | true=>exact wpAny_pyIter_list h q | false=>exact wpAny_pyIter_tuple h q
end
abbrev G1(b1:Bool)(h:Heap)(l1:Addr):Heap:=h.push (itO b1 l1)
abbrev G2(b1 b2:Bool)(h:Heap)(l1 l2:Addr):Heap:=(G1 b1 h l1).push (itO b2 l2)
abbrev G3(b1 b2:Bool)(h:Heap)(l1 l2:Addr):Heap:=(G2 b1 b2 h l1 l2).push {cls:=.type "tuple",data:=.seq #[.ref h.objs.size,.ref (G1 b1 h l1).objs.size]}
abbrev G4(b1 b2:Bool)(h:Heap)(l1 l2:Addr):Heap:=(G3 b1 b2 h l1 l2).push {cls:=.type "tuple",data:=.seq #[.none,.none]}
abbrev G5(b1 b2:Bool)(h:Heap)(l1 l2:Addr):Heap:=(G4 b1 b2 h l1 l2).push {cls:=.type "zip",data:=.fields #[.none,.bool false,.bool false,.ref (G2 b1 b2 h l1 l2).objs.size,.ref (G3 b1 b2 h l1 l2).objs.size]}
theorem za4 (b1 b2:Bool) (l1 l2:Addr) (xs ys:Array Value): Meets (Builtin.«zip.__new__» ⟨[.type "zip",.ref l1,.ref l2],[]⟩) (fun _ R s=>Sco b1 s.heap l1 xs/\Sco b2 s.heap l2 ys/\R (.ok (.ret (.ref (G4 b1 b2 s.heap l1 l2).objs.size))) {s with heap:=G5 b1 b2 s.heap l1 l2}):= .of_wp fun prog w A R s h=>by
  obtain ⟨hp,g,d,tk,os⟩:=s;obtain ⟨c1,c2,h⟩:=h;have hsub:=sub_zip;have q1:Sco b1 (Shared.heap ⟨hp,g,d,tk,os⟩) l1 xs:=c1;have q2:Sco b2 (Shared.heap ⟨hp.push (itO b1 l1),g,d,tk,os⟩) l2 ys:=c2.to fun o e=>Heap.get?_push_of_some _ e;wp_walk using z2d q1,z2d q2;exact ⟨_,rfl,h⟩
section
variable {P:Program}{w:World}{A:Around}{E:Value->Shared->Prop}{s:Shared}
theorem zbi {b1 b2:Bool} {l1 l2:Addr} {xs ys:Array Value} {Q:Value->Shared->Prop} (c1:Sco b1 s.heap l1 xs) (c2:Sco b2 s.heap l2 ys) (h:∀ h',IsZip h' (s.heap.objs.size+4) (s.heap.objs.size+2) (s.heap.objs.size+3) .none->IsPair h' (s.heap.objs.size+2) (.ref s.heap.objs.size) (.ref (s.heap.objs.size+1))-> IsPair h' (s.heap.objs.size+3) .none .none->Sit b1 h' s.heap.objs.size l1 0->Sit b2 h' (s.heap.objs.size+1) l2 0->(∀ c o,s.heap.get? c=some o->h'.get? c=some o)->Q (.ref (s.heap.objs.size+4)) {s with heap:=h'}): wpAny (model P w) A (call (.type "zip") [.ref l1,.ref l2]) Q E s:=by
 refine callType_new F.called_zip (by decide) (F.typeCall_zip_2 _ _) (F.newCall_zip_2 _ _) (fun obj=>F.args_object_init_3 obj _ _) F.entry_zip_new (za4 b1 b2 l1 l2 xs ys) ⟨c1,c2,?_⟩;have z1:(G1 b1 s.heap l1).objs.size=s.heap.objs.size+1:=Heap.size_push ..;have z2:(G2 b1 b2 s.heap l1 l2).objs.size=s.heap.objs.size+2:=by rw [Heap.size_push,z1]
 have z3:(G3 b1 b2 s.heap l1 l2).objs.size=s.heap.objs.size+3:=by rw [Heap.size_push,z2]
 have z4:(G4 b1 b2 s.heap l1 l2).objs.size=s.heap.objs.size+4:=by rw [Heap.size_push,z3]
 have up:∀ {h:Heap} {o:Obj} {c:Addr} {u:Obj},h.get? c=some u->(h.push o).get? c=some u:=fun e=>Heap.get?_push_of_some _ e;have g5:(G5 b1 b2 s.heap l1 l2).get? (G4 b1 b2 s.heap l1 l2).objs.size=some _:=Heap.get?_push_size _ rfl;have g4:(G5 b1 b2 s.heap l1 l2).get? (G3 b1 b2 s.heap l1 l2).objs.size=some _:=up (Heap.get?_push_size _ rfl);have g3:(G5 b1 b2 s.heap l1 l2).get? (G2 b1 b2 s.heap l1 l2).objs.size=some _:=up (up (Heap.get?_push_size _ rfl));have g2:(G5 b1 b2 s.heap l1 l2).get? (G1 b1 s.heap l1).objs.size=some (itO b2 l2):=up (up (up (Heap.get?_push_size _ (z0s b2 l2))));have g1:(G5 b1 b2 s.heap l1 l2).get? s.heap.objs.size=some (itO b1 l1):=up (up (up (up (Heap.get?_push_size _ (z0s b1 l1)))));show _/\_;rw [z2,z3,z4] at g5;rw [z1,z2] at g3;rw [z3] at g4;rw [z1] at g2;rw [z4];exact ⟨⟨_,g5,rfl⟩,h _ g5 g3 g4 (z4i g1) (z4i g2) fun c o e=>up (up (up (up (up e))))⟩
end
end Zz
namespace L2
open PySem.Spec Zz
def Sq(b:Bool)(K:W.Frag)(H:Hp)(a:Addr)(xs:List V):Prop:=match b with
 | true=>SqL K H a xs | false=>SqT K H a xs
section
variable {X:Cx}{pins:List (Addr×Obj)}{O:St}{H:Hp}{s:Shared}{h':Heap}
theorem Inv.sq{b:Bool}{a:Addr}{xs:List V}(I:Inv X pins O H s)(h:Sq b X.K H a xs):∃ its:List Value,xb xs its/\Sco b s.heap a its.toArray:=by cases b with
 | true=>obtain ⟨its,r,p,_⟩:=I.list h;exact ⟨its,r,p.isList⟩ | false=>obtain ⟨its,r,p,_⟩:=I.tuple h;exact ⟨its,r,p⟩
theorem Inv.sq_inj{b:Bool}{a:Addr}{xs ys:List V}(I:Inv X pins O H s)(h:Sq b X.K H a xs)(h':Sq b X.K H a ys):xs=ys:=by cases b with
 | true=>exact I.list_inj h h' | false=>exact I.tuple_inj h h'
theorem Inv.turnedL {t':Nat} {ch:List Addr} (I:Inv X pins O H s) (k:∀ b o,b∉ch->s.heap.get? b=some o->h'.get? b=some o) (f:∀ b∈ch,z1W X pins H b):Inv X pins O H {s with heap:=h',toks:=t'}:=by
 have nit:∀ b u,H b=some u->b∉ch:=fun b u e z=>by rw [(f b z).1] at e;cases e
 refine I.step (g':=s.gens) (d':=s.drawn) (ch:=ch) (fun b hb=>⟨(f b hb).2.2.2.1,(f b hb).2.1,(f b hb).2.2.2.2.1,(f b hb).2.2.2.2.2⟩) (fun b o _ _ hc e _=>k b o hc e) (fun b o _ _ hc e _=>⟨o.slots,k b o hc e⟩) (fun _ _ _ _ n=>n) (fun b o hc e=>⟨o,k b o hc e⟩) (fun _ _ e=>e) (fun _ _ _ e=>e) (fun b ps e=>⟨#[],by rw [e];simp⟩) (fun m hm=>?_) (fun b u e=>?_) I.bare
 ·obtain ⟨o,es,ep,ho,r⟩:=hm;exact ⟨o,es,ep,k _ o (fun z=>(f _ z).2.1 rfl) ho,r⟩
 ·refine (I.hok b u e).stay (fun c v hc q=>k c v ?_ q) (fun _ q=>q) fun _ _ q=>q;rcases hc with z | z;·rw [z];exact nit b u e
  ·exact nit c _ z
end
def Itz(K:W.Frag)(b1 b2:Bool)(l1 l2:Addr):It:= ⟨fun i H=>∃ xs ys x y,Sq b1 K H l1 xs/\Sq b2 K H l2 ys/\xs[i]? = some x/\ys[i]? = some y, fun i H v H'=>∃ T x y,H T=none/\v=.ref T/\H'=upd H T (.tup [x,y])/\(∀ xs,Sq b1 K H l1 xs->xs[i]? = some x)/\∀ ys,Sq b2 K H l2 ys->ys[i]? = some y, fun i H=>∃ xs ys,Sq b1 K H l1 xs/\Sq b2 K H l2 ys/\(xs.length<=i\/ys.length<=i)⟩
theorem zbb {P:Program} {w:World} {K:W.Frag} {elts:List Expr} {kt:Nat} {tp:Pos} {b1 b2:Bool} {z TI TO i1 i2 l1 l2:Addr} (D:ZipApart z TI TO i1 i2 l1 l2): zaP P w K (.Tuple elts kt tp) (Itz K b1 b2 l1 l2) [z,TI,TO,i1,i2] z (fun i h=>IsZip h z TI TO .none/\IsPair h TI (.ref i1) (.ref i2)/\(∃ a b,IsPair h TO a b)/\Sit b1 h i1 l1 i/\Sit b2 h i2 l2 i) where
 mem:=by simp
 obj:=fun i h ⟨hz,hTI,⟨a,b,hTO⟩,h1,h2⟩ c hc=>by
  have hc':c=z\/c=TI\/c=TO\/c=i1\/c=i2:=by simpa using hc
  rcases hc' with rfl | rfl | rfl | rfl | rfl;·exact ⟨_,hz,fun v e=>by simp at e⟩
  ·exact ⟨_,hTI,fun v e=>by simp at e⟩
  ·exact ⟨_,hTO,fun v e=>by simp at e⟩
  ·exact h1.ob
  ·exact h2.ob
 keep:=fun i h h' ⟨hz,hTI,⟨a,b,hTO⟩,h1,h2⟩ k=>⟨k z (by simp) _ hz,k TI (by simp) _ hTI,⟨a,b,k TO (by simp) _ hTO⟩,h1.to fun o e=>k i1 (by simp) o e,h2.to fun o e=>k i2 (by simp) o e⟩;item:=by
  intro X hP hw hK hc i pins s O H E I hf ⟨hz,hTI,⟨a,b,hTO⟩,h1,h2⟩ ⟨xs,ys,x,y,qx,qy,ex,ey⟩;subst hP hw hK;obtain ⟨ix,rx,cx⟩:=I.sq qx;obtain ⟨iy,ry,cy⟩:=I.sq qy;obtain ⟨u,hu,ru⟩:=rx.get ex;obtain ⟨v,hv,rv⟩:=ry.get ey;refine zcU D hz hTI hTO h1 h2 cx cy (x:=u) (y:=v) (by simpa using hu) (by simpa using hv) fun g a1 a2 a3 a4 a5 a6 hk=>⟨_,rfl,?_⟩;have kk:∀ c o,c∉[z,TO,i1,i2]->s.heap.get? c=some o->g.get? c=some o:=fun c o n e=>hk c o (fun t=>n (by simp [t])) (fun t=>n (by simp [t])) (fun t=>n (by simp [t])) (fun t=>n (by simp [t])) e;have sub:∀ c∈[z,TO,i1,i2],c∈[z,TI,TO,i1,i2]:=fun c hc=>by
   have:c=z\/c=TO\/c=i1\/c=i2:=by simpa using hc
   rcases this with rfl | rfl | rfl | rfl<;>simp
  have I1:Inv X pins O H {s with heap:=g}:=I.turnedL (t':=s.toks) kk fun c hc=>hf c (sub c hc);refine wpAny_letOwnedTupleGo_zip a1 fun g2 z2 s2=>?_;obtain ⟨f0,f1,f2,f3,f4,f5⟩:=hf z (by simp);have I2:Inv X pins O H {s with heap:=g2}:=I1.turned (t':=s.toks) (fun c o n e=>zn s2 n e) f0 f1 f3 f4 f5;have new:z1W X pins H s.heap.objs.size:=I.fpOk (Nat.le_refl _) (I.hok.fresh (Nat.le_refl _));have ne:∀ {c:Addr} {o:Obj},s.heap.get? c=some o->c≠s.heap.objs.size:=fun e=>Nat.ne_of_lt (Heap.lt_size e);have p2:IsPair g2 s.heap.objs.size u v:=zn s2 (ne hz).symm a5;refine ⟨.ref s.heap.objs.size,upd H s.heap.objs.size (.tup [x,y]),I2.track new ⟨?_,[u,v],.cons ru (.cons rv .nil),⟨_,p2,rfl,rfl,_,rfl⟩⟩,rfl,⟨_,x,y,new.1,rfl,rfl,fun zs qz=>?_,fun zs qz=>?_⟩,⟨z2,?_,⟨_,_,zn s2 D.TOz a2⟩,a3.to fun o e=>zn s2 D.i1z e,a4.to fun o e=>zn s2 D.i2z e⟩,fun c hc=>?_⟩;·show 2<=sizeLine;decide
  ·rw [I.sq_inj qz qx];exact ex
  ·rw [I.sq_inj qz qy];exact ey
  ·exact zn s2 D.TIz (hk TI _ D.TIz D.TITO D.TIi1 D.TIi2 hTI)
  ·have hc':c=z\/c=TI\/c=TO\/c=i1\/c=i2:=by simpa using hc
   have:c≠s.heap.objs.size:=by
    rcases hc' with rfl | rfl | rfl | rfl | rfl;·exact ne hz
    ·exact ne hTI
    ·exact ne hTO
    ·exact Nat.ne_of_lt h1.lt
    ·exact Nat.ne_of_lt h2.lt
   rw [zw this];exact (hf c hc).1
 done:=by
  intro X hP hw hK hc i pins s O H E I hf ⟨hz,hTI,⟨a,b,hTO⟩,h1,h2⟩ ⟨xs,ys,qx,qy,hl⟩;subst hP hw hK;obtain ⟨ix,rx,cx⟩:=I.sq qx;obtain ⟨iy,ry,cy⟩:=I.sq qy;have lx:=rx.length;have ly:=ry.length;refine zg5 (I.ok.hd hc) D hz hTI hTO h1 h2 cx cy ?_ fun g hk=>⟨rfl,?_⟩
  ·rcases hl with hl | hl;·exact .inl (by simp;omega)
   ·exact .inr (by simp;omega)
  ·exact I.turnedL (t':=s.toks) (ch:=[z,TO,i1,i2]) (fun c o n e=>hk c o (fun t=>n (by simp [t])) (fun t=>n (by simp [t])) (fun t=>n (by simp [t])) (fun t=>n (by simp [t])) e) fun c hc=>hf c (by
    have:c=z\/c=TO\/c=i1\/c=i2:=by simpa using hc
    rcases this with rfl | rfl | rfl | rfl<;>simp)
 self:=fun _ _ _ _ _ st h=>wpAny_pyIter_zip st.1 h
theorem zgg{X:Cx}{elts:List Expr}{kt:Nat}{tp:Pos}{a b:Expr}{ta:TA}{p pos:Pos}(hg:Gl X "zip")(hm:X.mg "zip"=none)(ha:PA X [a,b] ta)(hs:starEach [a,b] X.env=(false,eval a X.env)::starEach [b] X.env:=by rfl)(hpl:(backTo pos (starEach [b] X.env)).any (·.1)=false:=by rfl): PI X (.Tuple elts kt tp) (.Call (.Name "zip" p) [a,b] [] pos) (fun O H R=>ta O H fun vs H1=>∃ l1 l2 b1 b2,vs=[.ref l1,.ref l2]/\(∃ xs,Sq b1 X.K H1 l1 xs)/\(∃ ys,Sq b2 X.K H1 l2 ys)/\R (Itz X.K b1 b2 l1 l2) H1):=by
 intro pins s O H R I h;refine wpAny_Call_Name_kw (jX I hg hm (u:=.type "zip") (by first | exact PySem.boot_zip | rfl | decide +kernel) ?_ (by decide) (by decide));refine PyProof.Rows.callWith_type1 (thn (ha pos pins s O H _ I h) fun us s1 ⟨vs,H1,I1,r1,q1⟩=>?_) hs hpl;obtain ⟨l1,l2,b1,b2,rfl,⟨xs,qx⟩,⟨ys,qy⟩,q⟩:=q1;cases r1 with | cons r1 r2=> cases r2 with | cons r2 r3=>
   cases r3;cases r1;cases r2;obtain ⟨ix,rx,cx⟩:=I1.sq qx;obtain ⟨iy,ry,cy⟩:=I1.sq qy;have lt1:l1<s1.heap.objs.size:=by cases b1 with
    | true=>obtain ⟨o,e,_⟩:=cx;exact Heap.lt_size e | false=>obtain ⟨o,e,_⟩:=cx;exact Heap.lt_size e
   have lt2:l2<s1.heap.objs.size:=by cases b2 with
    | true=>obtain ⟨o,e,_⟩:=cy;exact Heap.lt_size e | false=>obtain ⟨o,e,_⟩:=cy;exact Heap.lt_size e
   have D:ZipApart (s1.heap.objs.size+4) (s1.heap.objs.size+2) (s1.heap.objs.size+3) s1.heap.objs.size (s1.heap.objs.size+1) l1 l2:=by
    have e1:∀ k:Nat,l1≠s1.heap.objs.size+k:=fun k=>Nat.ne_of_lt (Nat.lt_of_lt_of_le lt1 (Nat.le_add_right _ _));have e2:∀ k:Nat,l2≠s1.heap.objs.size+k:=fun k=>Nat.ne_of_lt (Nat.lt_of_lt_of_le lt2 (Nat.le_add_right _ _));have nk:∀ (m j k:Nat),j≠k->m+j≠m+k:=fun m j k h z=>h (Nat.add_left_cancel z);exact ⟨nk _ 2 4 (by decide),nk _ 3 4 (by decide),nk _ 0 4 (by decide),nk _ 1 4 (by decide),nk _ 2 3 (by decide),nk _ 2 0 (by decide),nk _ 2 1 (by decide),nk _ 3 0 (by decide),nk _ 3 1 (by decide),nk _ 0 1 (by decide),e1 4,e1 3,e1 0,e1 1,e2 4,e2 3,e2 0,e2 1⟩
   refine zbi cx cy fun g hz hTI hTO h1 h2 hk=>?_;refine wpAny_pyIter_zip hz ?_;refine ⟨_,_,_,_,H1,rfl,I1.kept (t':=s1.toks) hk,zbb D,⟨hz,hTI,⟨_,_,hTO⟩,h1,h2⟩,fun c hc=>?_,q⟩;have hc':s1.heap.objs.size<=c:=by
    have:c=s1.heap.objs.size+4\/c=s1.heap.objs.size+2\/c=s1.heap.objs.size+3\/c=s1.heap.objs.size\/c=s1.heap.objs.size+1:=by simpa using hc
    rcases this with rfl | rfl | rfl | rfl | rfl<;>first | exact Nat.le_refl _ | exact Nat.le_add_right _ _
   exact I1.fpOk hc' (I1.hok.fresh hc')
end L2
namespace Zz
section
variable {P:Program}{w:World}{A:Around}{E:Value->Shared->Prop}{s:Shared}
theorem z1o {b : Bool} {l : Addr} {its : Array Value} {Q : Value → Shared → Prop} (hh : A.handled = none) (h : Sco b s.heap l its) (k : ∀ s2 : Shared, s2 = { s with heap := s.heap.push (itO b l) } → ∀ St : Nat → Heap → Prop, Walks P w A s.heap.objs.size [s.heap.objs.size, l] [s.heap.objs.size] its.size (fun i v => its[i]? = some v) St → St 0 s2.heap → (∀ c ∈ [s.heap.objs.size, l], c < s2.heap.objs.size) → (∀ h' : Heap, (∀ c o, c ∉ [s.heap.objs.size] → s2.heap.get? c = some o → h'.get? c = some o) → ∀ c o, s.heap.get? c = some o → h'.get? c = some o) → Q (.ref s.heap.objs.size) s2) : wpAny (model P w) A (pyIter (.ref l)) Q E s := by
  have lt : l < s.heap.objs.size := by cases b with
    | true => obtain ⟨o, e, _⟩ := h; exact Heap.lt_size e | false => obtain ⟨o, e, _⟩ := h; exact Heap.lt_size e
  have ne : l ≠ s.heap.objs.size := Nat.ne_of_lt lt;have bd : ∀ c ∈ [s.heap.objs.size, l], c < (s.heap.push (itO b l)).objs.size := fun c hc => by
    have : c = s.heap.objs.size ∨ c = l := by simpa using hc
    rw [Heap.size_push];rcases this with rfl | rfl;· exact Nat.lt_succ_self _
    · exact Nat.lt_succ_of_lt lt
  have old : ∀ h' : Heap, (∀ c o, c ∉ [s.heap.objs.size] → (s.heap.push (itO b l)).get? c = some o → h'.get? c = some o) → ∀ c o, s.heap.get? c = some o → h'.get? c = some o := fun h' hk c o e =>
    hk c o (fun z => by have : c = s.heap.objs.size := by simpa using z
                        exact absurd (this ▸ Heap.lt_size e) (Nat.lt_irrefl _)) (Heap.get?_push_of_some _ e);refine z2d h ?_;have g : (s.heap.push (itO b l)).get? s.heap.objs.size = some (itO b l) := Heap.get?_push_size _ (z0s b l);cases b with
  | true => exact k _ rfl _ (Walks.list hh _ l ne its) ⟨z4i (b := true) g, Sco.to (b := true) h fun o e => Heap.get?_push_of_some _ e⟩ bd old | false => exact k _ rfl _ (Walks.tuple hh _ l ne its) ⟨z4i (b := false) g, Sco.to (b := false) h fun o e => Heap.get?_push_of_some _ e⟩ bd old
end
end Zz
namespace L2
open PySem.Spec Zz
def maxL:List Int->Int
 | []=>0 | x::xs=>xs.foldl max x
def minL:List Int->Int
 | []=>0 | x::xs=>xs.foldl min x
theorem vG:∀ (xs:List Int)(x:Int),x<=xs.foldl max x/\(∀ y∈xs,y<=xs.foldl max x)/\(xs.foldl max x=x\/xs.foldl max x∈xs)
 | [],x=>⟨Int.le_refl _,by simp,.inl rfl⟩ | y::ys,x=>by
  obtain ⟨h1,h2,h3⟩:=vG ys (max x y);refine ⟨by simp only [List.foldl_cons];omega,fun z hz=>?_,?_⟩
  ·simp only [List.foldl_cons];rcases List.mem_cons.mp hz with rfl | hz;·omega
   ·exact h2 z hz
  ·simp only [List.foldl_cons];rcases h3 with h3 | h3
   ·rw [h3];rcases Int.le_total x y with h | h;·exact .inr (by rw [Int.max_eq_right h];simp)
    ·exact .inl (Int.max_eq_left h)
   ·exact .inr (List.mem_cons_of_mem _ h3)
theorem vH:∀ (xs:List Int)(x:Int),xs.foldl min x<=x/\(∀ y∈xs,xs.foldl min x<=y)/\(xs.foldl min x=x\/xs.foldl min x∈xs)
 | [],x=>⟨Int.le_refl _,by simp,.inl rfl⟩ | y::ys,x=>by
  obtain ⟨h1,h2,h3⟩:=vH ys (min x y);refine ⟨by simp only [List.foldl_cons];omega,fun z hz=>?_,?_⟩
  ·simp only [List.foldl_cons];rcases List.mem_cons.mp hz with rfl | hz;·omega
   ·exact h2 z hz
  ·simp only [List.foldl_cons];rcases h3 with h3 | h3
   ·rw [h3];rcases Int.le_total x y with h | h;·exact .inl (Int.min_eq_left h)
    ·exact .inr (by rw [Int.min_eq_right h];simp)
   ·exact .inr (List.mem_cons_of_mem _ h3)
theorem maxL_ge{xs:List Int}:∀ y∈xs,y<=maxL xs:=by cases xs with
 | nil=>simp | cons x xs=>intro y hy;rcases List.mem_cons.mp hy with rfl | hy;exact (vG xs y).1;exact (vG xs x).2.1 y hy
theorem maxL_mem{xs:List Int}(h:xs≠[]):maxL xs∈xs:=by cases xs with
 | nil=>exact absurd rfl h | cons x xs=>rcases (vG xs x).2.2 with e | e;exact (show xs.foldl max x∈x::xs by rw [e];simp);exact List.mem_cons_of_mem _ e
theorem minL_le{xs:List Int}:∀ y∈xs,minL xs<=y:=by cases xs with
 | nil=>simp | cons x xs=>intro y hy;rcases List.mem_cons.mp hy with rfl | hy;exact (vH xs y).1;exact (vH xs x).2.1 y hy
theorem minL_mem{xs:List Int}(h:xs≠[]):minL xs∈xs:=by cases xs with
 | nil=>exact absurd rfl h | cons x xs=>rcases (vH xs x).2.2 with e | e;exact (show xs.foldl min x∈x::xs by rw [e];simp);exact List.mem_cons_of_mem _ e
section
variable {X:Cx}
theorem z3K {ns:List Int} {its:List Value} (r:xb (ns.map V.int) its) {i:Nat} {v:Value} (e:its.toArray[i]? = some v):∃ t,v=.int (ns.getD i 0) t/\i<ns.length:=by
 have e':its[i]? = some v:=by simpa using e
 have hl:=r.length;have hi:i<ns.length:=by
  have:=(List.getElem?_eq_some_iff.mp e').1;simp at hl;omega
 obtain ⟨u,hu,ru⟩:=r.get (i:=i) (x:=V.int ns[i]) (by simp [hi]);rw [e'] at hu;cases hu;obtain ⟨t,rfl⟩:=ru;exact ⟨t,by simp [List.getD,hi],hi⟩
theorem getD_in{ns:List Int}{i:Nat}(h:i<ns.length):ns.getD i 0∈ns:=by
 rw [List.getD,List.getElem?_eq_getElem h];exact List.getElem_mem _
theorem z9X (hc:X.calm=true):wM X (.builtin "max") (fun xs H Q=>∃ b p ns,xs=[.ref p]/\Sq b X.K H p (ns.map V.int)/\ns≠[]/\Q (.int (maxL ns)) H):=by
 intro pins s O H xs us Q I r h;obtain ⟨b,p,ns,rfl,hq,hne,q⟩:=h;obtain ⟨u,rfl,ru⟩:=vals1 r;cases ru;obtain ⟨its,rv,co⟩:=I.sq hq;have hl:its.length=ns.length:=by have:=rv.length;simp at this;omega
 have hn:0<ns.length:=List.length_pos_iff.mpr hne;refine call_max_walk (z1o (I.ok.hd hc) co fun s2 e2 St W st bd old=>?_);subst e2;refine ⟨_,_,_,_,_,_,_,rfl,W,st,bd,by simpa [hl] using hn,CmpOf.ints_gt (fun i=>ns.getD i 0) (fun i v e=>let ⟨t,e1,_⟩:=z3K rv e;⟨t,e1⟩),fun v h' tk e hk=>?_⟩;obtain ⟨t,e1,lt⟩:=z3K rv e;obtain ⟨h1,h2⟩:=argBest_gt (fun i=>ns.getD i 0) (its.toArray.size-1);have em:ns.getD (argBest (fun i j=>decide (ns.getD i 0 > ns.getD j 0)) (its.toArray.size-1)) 0=maxL ns:=by
  refine Int.le_antisymm (maxL_ge _ ?_) ?_;·exact getD_in lt
  ·obtain ⟨j,hj,ej⟩:=List.mem_iff_getElem.mp (maxL_mem hne);have:=h2 j (by simp [hl];omega);simp only [List.getD,List.getElem?_eq_getElem hj,Option.getD_some,ej] at this;simpa [List.getD] using this
 rw [e1,em];exact ⟨.int (maxL ns),H,I.kept (t':=tk) (old h' hk),⟨t,rfl⟩,q⟩
theorem z8n (hc:X.calm=true):wM X (.builtin "min") (fun xs H Q=>∃ b p ns,xs=[.ref p]/\Sq b X.K H p (ns.map V.int)/\ns≠[]/\Q (.int (minL ns)) H):=by
 intro pins s O H xs us Q I r h;obtain ⟨b,p,ns,rfl,hq,hne,q⟩:=h;obtain ⟨u,rfl,ru⟩:=vals1 r;cases ru;obtain ⟨its,rv,co⟩:=I.sq hq;have hl:its.length=ns.length:=by have:=rv.length;simp at this;omega
 have hn:0<ns.length:=List.length_pos_iff.mpr hne;refine call_min_walk (z1o (I.ok.hd hc) co fun s2 e2 St W st bd old=>?_);subst e2;refine ⟨_,_,_,_,_,_,_,rfl,W,st,bd,by simpa [hl] using hn,CmpOf.ints_lt (fun i=>ns.getD i 0) (fun i v e=>let ⟨t,e1,_⟩:=z3K rv e;⟨t,e1⟩),fun v h' tk e hk=>?_⟩;obtain ⟨t,e1,lt⟩:=z3K rv e;obtain ⟨h1,h2⟩:=argBest_lt (fun i=>ns.getD i 0) (its.toArray.size-1);have em:ns.getD (argBest (fun i j=>decide (ns.getD i 0<ns.getD j 0)) (its.toArray.size-1)) 0=minL ns:=by
  refine Int.le_antisymm ?_ (minL_le _ ?_)
  ·obtain ⟨j,hj,ej⟩:=List.mem_iff_getElem.mp (minL_mem hne);have:=h2 j (by simp [hl];omega);simp only [List.getD,List.getElem?_eq_getElem hj,Option.getD_some,ej] at this;simpa [List.getD] using this
  ·exact getD_in lt
 rw [e1,em];exact ⟨.int (minL ns),H,I.kept (t':=tk) (old h' hk),⟨t,rfl⟩,q⟩
theorem all_range{bs:List Bool}:(List.range bs.length).all (fun i=>bs.getD i false)=bs.all id:=by
 rw [Bool.eq_iff_iff];simp only [List.all_eq_true,List.mem_range,id];constructor
 ·intro h x hx;obtain ⟨j,hj,ej⟩:=List.mem_iff_getElem.mp hx;have:=h j hj;simpa [List.getD,hj,ej] using this
 ·intro h i hi;simp only [List.getD,List.getElem?_eq_getElem hi,Option.getD_some];exact h _ (List.getElem_mem _)
theorem z9a (hc:X.calm=true):wM X (.builtin "all") (fun xs H Q=>∃ (b:Bool) (p:Addr) (bs:List Bool),xs=[.ref p]/\Sq b X.K H p (bs.map V.bl)/\Q (.bl (bs.all id)) H):=by
 intro pins s O H xs us Q I r h;obtain ⟨b,p,bs,rfl,hq,q⟩:=h;obtain ⟨u,rfl,ru⟩:=vals1 r;cases ru;obtain ⟨its,rv,co⟩:=I.sq hq;have hl:its.length=bs.length:=by have:=rv.length;simp at this;omega
 refine call_all_walk (z1o (I.ok.hd hc) co fun s2 e2 St W st bd old=>?_);subst e2;refine ⟨_,_,_,_,_,_,fun i=>bs.getD i false,rfl,W,st,fun i v s3 Q3 E3 e q3=>?_,fun h' tk hk=>?_⟩
 ·have e':its[i]? = some v:=by simpa using e
  have hi:i<bs.length:=by have:=(List.getElem?_eq_some_iff.mp e').1;omega
  obtain ⟨u,hu,ru⟩:=rv.get (i:=i) (x:=V.bl bs[i]) (by simp [hi]);rw [e'] at hu;cases hu;cases ru;have:bs.getD i false=bs[i]:=by simp [List.getD,hi]
  have q3:Q3 (bs.getD i false) s3:=q3;rw [this] at q3;exact wpAny_truthy_bool q3
 ·have ez:its.toArray.size=bs.length:=by simp [hl]
  rw [ez,all_range];exact ⟨.bl (bs.all id),H,I.kept (t':=tk) (old h' hk),rfl,q⟩
end
end L2
namespace L2
open PySem.Spec
theorem z67{X:Cx}:wM X (.builtin "isinstance") (fun xs H Q=>∃ x t T b,xs=[x,.ty T]/\z7j X.K H x t/\W.kitOne X.K t (.type T)=some b/\Q (.bl b) H):=by
 intro pins s O H xs us Q I r h;obtain ⟨x,t,T,b,rfl,ht,hk,q⟩:=h;obtain ⟨u,v,rfl,ru,rv⟩:=vals2 r;cases rv;exact z8P I ru ht hk fun tk=>⟨.bl b,H,I.tok _,rfl,q⟩
end L2
namespace Dd
open PySem.Spec L2
def tyD:D->Option String
 | .non=>some "NoneType" | .bl _=>some "bool" | .int _=>some "int" | .str _=>some "str" | .tup _=>some "tuple" | .lst _=>some "list" | .loc _=>some "list" | .dct=>some "dict" | _=>none
def isT(T t:String):Bool:=t==T||(T=="int"&&t=="bool")
def gIs(T:String):D->Sto->R D:=fun d s=>match tyD d with | some t=>.ok (.bl (isT T t)) s | none=>.no
theorem ze9{K:W.Frag}{t:String}(h:t∈["NoneType","bool","int","str","tuple","list","dict"])(T:String)(hT:T∈["int","bool","str","tuple","list"]):W.kitOne K (.type t) (.type T)=some (isT T t):=by
 have hh:t="NoneType"\/t="bool"\/t="int"\/t="str"\/t="tuple"\/t="list"\/t="dict":=by simpa using h
 have hh':T="int"\/T="bool"\/T="str"\/T="tuple"\/T="list":=by simpa using hT
 rcases hh with rfl | rfl | rfl | rfl | rfl | rfl | rfl<;>rcases hh' with rfl | rfl | rfl | rfl | rfl<;>kernel_rfl
theorem zft{mg:Gm}{H:Hp}{Y:List Addr}{s:Sto}{d:D}{v:V}{t:String}(r:Rep mg H Y s)(dn:Den mg H Y d v)(e:tyD d=some t):z7j mg.K H v (.type t)/\t∈["NoneType","bool","int","str","tuple","list","dict"]:=by cases d with
 | non=>simp only [Den] at dn;subst dn;cases e;exact ⟨.non,by simp⟩ | bl b=>cases qu dn;cases e;exact ⟨.bl b,by simp⟩ | int b=>cases zT dn;cases e;exact ⟨.int b,by simp⟩ | str b=>cases z2H dn;cases e;exact ⟨.str b,by simp⟩ | tup b=>
  cases e;simp only [Den] at dn;obtain ⟨a,vs,rfl,h1,_⟩:=dn;exact ⟨.tup h1,by simp⟩ | lst b=>
  cases e;simp only [Den] at dn;obtain ⟨a,o,vs,rfl,h1,_⟩:=dn;exact ⟨.frz h1,by simp⟩ | loc l=>
  cases e;simp only [Den] at dn;obtain ⟨a,rfl,h1,vs,h2⟩:=dn;exact ⟨.lst h2,by simp⟩ | dct=>
  cases e;simp only [Den] at dn;obtain ⟨a,rfl,h1⟩:=dn;exact ⟨.dK h1,by simp⟩ | _=>cases e
section
variable {X:Cx}{E:XK}{e a b c tg:Expr}{es:List Expr}{pos:Pos}{CX:CXT}
def eIs(T:String)(f:FE):FE:=fun Z s=>(f Z s).bind fun d s1=>gIs T d s1
theorem z5j{p p2:Pos}{T:String}{tn:Str}{f:FE}(hT:T∈["int","bool","str","tuple","list"])(hv:bootBuiltins tn=some (.type T))(hg:Gl X "isinstance")(hm:X.mg "isinstance"=none)(hg2:Gl X tn)(hm2:X.mg tn=none)(he:RE X E e f) (hn:tn≠"__name__":=by decide)(hd:(tn==("__debug__":Str))=false:=by decide) (hs:starEach [e,.Name tn p2] X.env=(false,eval e X.env)::starEach [.Name tn p2] X.env:=by rfl)(hpl:(backTo pos (starEach [.Name tn p2] X.env)).any (·.1)=false:=by rfl):RE X E (.Call (.Name "isinstance" p) [e,.Name tn p2] [] pos) (eIs T f):= zV (z7d z67 hg hm (by decide +kernel) (kz he (kz (zdm hg2 hm2 hv (show yB (.ty T) (.type T) from rfl) hn hd) z4D) hs) (by decide) (by decide) hs hpl) fun O H Q ⟨Y,Z,s,r,en,h⟩=>by
  refine zO (k:=fun Z d s1=>gIs T d s1) r en h _ fun v H1 Y1 s1 d r1 en1 dn stp h1=>?_;unfold gIs at h1;split at h1
  ·rename_i t et;obtain ⟨q1,q2⟩:=zft r1 dn et;exact ⟨v,.type t,T,isT T t,rfl,q1,ze9 q2 T hT,okR.here (b:=V.bl (isT T t)) h1 r1 xT⟩
  ·exact h1.elim
def zjM:List D->Sto->R D
 | [.int i],s=>.ok (.int (if i<0 then -i else i)) s | _,_=>.no
def intsOf:List D->Option (List Int)
 | []=>some [] | .int i::r=>(intsOf r).map (i::·) | _=>none
def bools:List D->Option (List Bool)
 | []=>some [] | .bl i::r=>(bools r).map (i::·) | _=>none
theorem jD:∀ {xs:List D}{ns:List Int},intsOf xs=some ns->xs=ns.map D.int
 | [],ns,h=>by simp [intsOf] at h;subst h;rfl | .int i::r,ns,h=>by
  simp only [intsOf,Option.map_eq_some_iff] at h;obtain ⟨ms,h1,rfl⟩:=h;rw [jD h1];rfl
theorem vh(ns:List Int):intsOf (ns.map D.int)=some ns:=by induction ns with
 | nil=>rfl | cons n ns ih=>simp [intsOf,ih]
theorem z6F:∀ {xs:List D}{ns:List Bool},bools xs=some ns->xs=ns.map D.bl
 | [],ns,h=>by simp [bools] at h;subst h;rfl | .bl i::r,ns,h=>by
  simp only [bools,Option.map_eq_some_iff] at h;obtain ⟨ms,h1,rfl⟩:=h;rw [z6F h1];rfl
theorem z4a(ns:List Bool):bools (ns.map D.bl)=some ns:=by induction ns with
 | nil=>rfl | cons n ns ih=>simp [bools,ih]
theorem jE{mg:Gm}{H:Hp}{Y:List Addr}:∀ {ns:List Int}{vs:List V},zr mg H Y (ns.map D.int) vs->vs=ns.map V.int
 | [],vs,h=>by simpa [zr] using h | n::ns,vs,h=>by
  simp only [List.map_cons,zr] at h;obtain ⟨v,r,rfl,h1,h2⟩:=h;cases zT h1;rw [jE h2];rfl
theorem z6s{mg:Gm}{H:Hp}{Y:List Addr}:∀ {ns:List Bool}{vs:List V},zr mg H Y (ns.map D.bl) vs->vs=ns.map V.bl
 | [],vs,h=>by simpa [zr] using h | n::ns,vs,h=>by
  simp only [List.map_cons,zr] at h;obtain ⟨v,r,rfl,h1,h2⟩:=h;cases qu h1;rw [z6s h2];rfl
def wa:List D->Sto->R D
 | [d],s=>match (yd s d).bind intsOf with | some (n::ns)=>.ok (.int (maxL (n::ns))) s | _=>.no
 | _,_=>.no
def jn:List D->Sto->R D
 | [d],s=>match (yd s d).bind intsOf with | some (n::ns)=>.ok (.int (minL (n::ns))) s | _=>.no
 | _,_=>.no
def z8X:List D->Sto->R D
 | [d],s=>match (yd s d).bind bools with | some ns=>.ok (.bl (ns.all id)) s | none=>.no
 | _,_=>.no
theorem z4v{K:W.Frag}{H:Hp}{a:Addr}{vs:List V}(h:SqL K H a vs\/SqT K H a vs):∃ b,Sq b K H a vs:=h.elim (fun h=>⟨true,h⟩) fun h=>⟨false,h⟩
theorem z0N(hc:X.calm=true):∃ r,wM X (.builtin "max") r/\z0g X E r wa:=⟨_,z9X hc,fun H Y s ds vs Q r hd h=>by
 unfold wa at h;split at h
 ·rename_i d;split at h
  ·rename_i n ns e;obtain ⟨xs,e1,e2⟩:=Option.bind_eq_some_iff.mp e;have:=jD e2;subst this;obtain ⟨v,rfl,dn⟩:=z0a hd;obtain ⟨a,ws,rfl,q1,q2⟩:=vE (K:=X.K) r e1 dn;cases jE q2;obtain ⟨b,q⟩:=z4v q1;exact ⟨b,a,n::ns,rfl,q,by simp,h.here r yf⟩
  ·exact h.elim
 ·exact h.elim⟩
theorem z6B(hc:X.calm=true):∃ r,wM X (.builtin "min") r/\z0g X E r jn:=⟨_,z8n hc,fun H Y s ds vs Q r hd h=>by
 unfold jn at h;split at h
 ·rename_i d;split at h
  ·rename_i n ns e;obtain ⟨xs,e1,e2⟩:=Option.bind_eq_some_iff.mp e;have:=jD e2;subst this;obtain ⟨v,rfl,dn⟩:=z0a hd;obtain ⟨a,ws,rfl,q1,q2⟩:=vE (K:=X.K) r e1 dn;cases jE q2;obtain ⟨b,q⟩:=z4v q1;exact ⟨b,a,n::ns,rfl,q,by simp,h.here r yf⟩
  ·exact h.elim
 ·exact h.elim⟩
theorem zfm(hc:X.calm=true):∃ r,wM X (.builtin "all") r/\z0g X E r z8X:=⟨_,z9a hc,fun H Y s ds vs Q r hd h=>by
 unfold z8X at h;split at h
 ·rename_i d;split at h
  ·rename_i ns e;obtain ⟨xs,e1,e2⟩:=Option.bind_eq_some_iff.mp e;have:=z6F e2;subst this;obtain ⟨v,rfl,dn⟩:=z0a hd;obtain ⟨a,ws,rfl,q1,q2⟩:=vE (K:=X.K) r e1 dn;cases z6s q2;obtain ⟨b,q⟩:=z4v q1;exact ⟨b,a,ns,rfl,q,h.here r xT⟩
  ·exact h.elim
 ·exact h.elim⟩
def z2h:List D->List D->List D
 | x::xs,y::ys=>.tup [x,y]::z2h xs ys | _,_=>[]
theorem z15:∀ (xs ys:List D),(z2h xs ys).length=min xs.length ys.length
 | [],ys=>by simp [z2h] | x::xs,[]=>by simp [z2h] | x::xs,y::ys=>by simp only [z2h,List.length_cons,z15 xs ys];omega
theorem z8b:∀ {xs ys:List D}{i:Nat}{d:D},(z2h xs ys)[i]? = some d->∃ x y,xs[i]? = some x/\ys[i]? = some y/\d=.tup [x,y]
 | [],ys,i,d,h=>by simp [z2h] at h | x::xs,[],i,d,h=>by simp [z2h] at h | x::xs,y::ys,0,d,h=>by simp [z2h] at h;exact ⟨x,y,by simp,by simp,h.symm⟩ | x::xs,y::ys,i+1,d,h=>by
  simp only [z2h,List.getElem?_cons_succ] at h;obtain ⟨a,b,h1,h2,h3⟩:=z8b h;exact ⟨a,b,by simpa using h1,by simpa using h2,h3⟩
def z3R(s:Sto):D->Option (List D×List (Nat×List D))
 | .tup xs=>some (xs,[]) | .lst xs=>some (xs,[]) | .loc l=>(s[l]?).map fun xs=>(xs,[(l,xs)]) | _=>none
theorem z5S{mg:Gm}{H:Hp}{Y:List Addr}{s:Sto}{d:D}{xs:List D}{g:List (Nat×List D)}{v:V}(r:Rep mg H Y s)(h:z3R s d=some (xs,g))(dn:Den mg H Y d v):okG g [] s/\∃ (b:Bool)(a:Addr),v=.ref a/\ ∀ H2 Y2 s2,xS mg H Y H2 Y2 s2->okG g [] s2->∃ ws,Sq b mg.K H2 a ws/\zr mg H2 Y2 xs ws:=by cases d with
 | tup ys=>
  cases h;obtain ⟨a,vs,rfl,q1,q2⟩:=ji (K:=mg.K) dn;refine ⟨(by intro p hp;simp at hp),false,a,rfl,fun H2 Y2 s2 stp _=>?_⟩;obtain ⟨a',ws,e,q3,q4⟩:=ji (K:=mg.K) (dn.mono stp);cases e;exact ⟨ws,q3,q4⟩ | lst ys=>
  cases h;obtain ⟨a,vs,rfl,q1,q2⟩:=zM (d:=.lst xs) r rfl dn;refine ⟨(by intro p hp;simp at hp),true,a,rfl,fun H2 Y2 s2 stp _=>?_⟩;obtain ⟨a',ws,e,q3,q4⟩:=zM (d:=.lst xs) stp.rep rfl (dn.mono stp);cases e;exact ⟨ws,.inl q3,q4⟩ | loc l=>
  simp only [z3R,Option.map_eq_some_iff] at h;obtain ⟨ys,ey,e2⟩:=h;cases e2;obtain ⟨a,vs,rfl,q1,q2⟩:=zM (d:=.loc l) r ey dn;have og:okG [(l,xs)] [] s:=fun p hp=>by
   have:p=(l,xs):=by simpa using hp
   subst this;exact ey
  refine ⟨og,true,a,rfl,fun H2 Y2 s2 stp hg=>?_⟩;obtain ⟨a',ws,e,q3,q4⟩:=zM (d:=.loc l) stp.rep (hg (l,xs) (by simp)) (dn.mono stp);cases e;exact ⟨ws,.inl q3,q4⟩ | _=>cases h
def zag(f:FA):FI:=fun Z s=>(f Z s).bind fun ds s1=>match ds with
 | [x,y]=>match z3R s1 x,z3R s1 y with
  | some p,some q=>.ok (z2h p.1 q.1,p.2++q.2) s1 | _,_=>.no
 | _=>.no
theorem zex{p tp:Pos}{elts:List Expr}{kt:Nat}{f:FA}(hg:Gl X "zip")(hm:X.mg "zip"=none)(ha:RA X E [a,b] f)(hs:starEach [a,b] X.env=(false,eval a X.env)::starEach [b] X.env:=by rfl)(hpl:(backTo pos (starEach [b] X.env)).any (·.1)=false:=by rfl): RI X E (.Tuple elts kt tp) (.Call (.Name "zip" p) [a,b] [] pos) (zag f):= z26 (zgg hg hm ha hs hpl) fun O H Q ⟨Y,Z,s,r,en,h⟩=>by
  unfold zag at h;refine ⟨Y,Z,s,r,en,(okR.bind (Dn:=zr (gm X)) h).imp fun vs H1 ⟨Y1,s1,ds,stp,dn,h1⟩=>?_⟩;split at h1
  ·rename_i x y;split at h1
   ·rename_i p q ex ey;obtain ⟨xs,gx⟩:=p;obtain ⟨ys,gy⟩:=q;obtain ⟨v,v',rfl,d1,d2⟩:=z7l dn;obtain ⟨og1,b1,a1,rfl,k1⟩:=z5S stp.rep ex d1;obtain ⟨og2,b2,a2,rfl,k2⟩:=z5S stp.rep ey d2;obtain ⟨w1,q1,_⟩:=k1 H1 Y1 s1 (.refl stp.rep) og1;obtain ⟨w2,q2,_⟩:=k2 H1 Y1 s1 (.refl stp.rep) og2;refine ⟨a1,a2,b1,b2,rfl,⟨w1,q1⟩,⟨w2,q2⟩,h1.here stp.rep fun H2 Y2 s2 stp2 og i=>?_⟩;have h3:okG gx [] s2:=fun p hp=>og p (List.mem_append_left _ hp);have h4:okG gy [] s2:=fun p hp=>og p (List.mem_append_right _ hp);refine ⟨fun d hd=>?_,fun hl=>?_⟩
    ·obtain ⟨x,y,e1,e2,rfl⟩:=z8b hd;obtain ⟨w1,q1,n1⟩:=k1 H2 Y2 s2 stp2 h3;obtain ⟨w2,q2,n2⟩:=k2 H2 Y2 s2 stp2 h4;obtain ⟨u1,g1,m1⟩:=n1.get e1;obtain ⟨u2,g2,m2⟩:=n2.get e2;refine ⟨⟨w1,w2,u1,u2,q1,q2,g1,g2⟩,fun z H' ⟨T,p,q,hT,ez,eH,hp,hq⟩=>?_⟩;subst ez eH;have e3:=hp w1 q1;have e4:=hq w2 q2;rw [g1] at e3;rw [g2] at e4;cases e3;cases e4;have st3:=xS.lay (o:=.tup [u1,u2]) stp2.rep hT (by intro _ z;cases z);refine ⟨Y2,st3,?_⟩;simp only [Den];exact ⟨T,[u1,u2],rfl,zK,(zr.cons m1 (zr.one m2)).mono st3⟩
    ·obtain ⟨w1,q1,n1⟩:=k1 H2 Y2 s2 stp2 h3;obtain ⟨w2,q2,n2⟩:=k2 H2 Y2 s2 stp2 h4;refine ⟨w1,w2,q1,q2,?_⟩;rw [n1.length,n2.length];simp only [z15] at hl;omega
   ·exact h1.elim
  ·exact h1.elim
end
def yh(mp:List (Option Nat))(Z:Ev):Ev:=mp.map fun o=>match o with | some j=>(Z[j]?).getD none | none=>none
theorem wV.inner{mg:Gm}{H:Hp}{Y:List Addr}{Z:Ev}{O:L2.St}{mp:List (Option Nat)}(en:wV mg H Y Z O):wV mg H Y (yh mp Z) (inner mp O):=by
 refine ⟨by simp [yh,L2.inner],fun i d h=>?_⟩;simp only [yh,List.getElem?_map,Option.map_eq_some_iff] at h;obtain ⟨o,h1,h2⟩:=h;cases o with
 | none=>cases h2 | some j=>
  simp only at h2;have h3:Z[j]? = some (some d):=by cases e:Z[j]? with
   | none=>rw [e] at h2;cases h2 | some x=>rw [e] at h2;simp at h2;rw [h2]
  obtain ⟨v,h4,h5⟩:=en.at_ j d h3;exact ⟨v,by simp [L2.inner,h1,h4],h5⟩
open Classical in
def vw(g:List (Nat×List D))(all:List D)(body:D->Sto->R (Option D)):List D->List D->Sto->R (List D)
 | [],acc,s=>if okG g all s then .ok acc s else .no | x::xs,acc,s=>if okG g all s then (body x s).bind fun o s1=>match o with
   | some d=>if acc.length<cap then vw g all body xs (acc++[d]) s1 else .no | none=>vw g all body xs acc s1 else .no
def z5m(fi:FI)(mp:List (Option Nat))(fg:FG)(ft:FT)(fe:FE):FA:=fun Z s=>(fi Z s).bind fun it s1=>vw it.2 it.1 (fun d s=>(fg d (yh mp Z) s).bind fun Z' s'=>(ft Z' s').bind fun b s2=>if b=true then (fe Z' s2).bind fun d s3=>.ok (some d) s3 else .ok none s2) it.1 [] s1
def z38(mg:Gm)(E:XK)(mp:List (Option Nat))(g:TG)(fg:FG):Prop:=∀ (O:L2.St) H Y Z s x d (Q:L2.St->Hp->Prop),Rep mg H Y s->wV mg H Y (yh mp Z) (inner mp O)->Den mg H Y d x->okR mg E H Y (wV mg) (fg d (yh mp Z) s) Q-> g x (inner mp O) H (fun O2 H2=>(O2.length=(inner mp O).length/\∀ (i:Nat) v,(inner mp O)[i]? = some (some v)->O2[i]? = some (some v))/\Q O2 H2)
theorem z0U{mp:List (Option Nat)}{i:Nat}(h:mp[i]? = some none)(O:L2.St):(inner mp O)[i]? = some none:=by simp [L2.inner,h]
theorem z2I{O:L2.St}{i:Nat}{v:V}(h:O[i]? = some none):(O.set i (some v)).length=O.length/\∀ (j:Nat) u,O[j]? = some (some u)->(O.set i (some v))[j]? = some (some u):=by
 refine ⟨by simp,fun j u e=>?_⟩;have:i≠j:=fun z=>by subst z;rw [h] at e;cases e
 rw [List.getElem?_set_ne this];exact e
section
variable {X:Cx}{E:XK}{e a b c tg iter elt:Expr}{es:List Expr}{pos:Pos}{CX:CXT}{mp:List (Option Nat)}
theorem yH(i:Nat)(h:mp[i]? = some none):z38 (gm X) E mp (z04 i) (xw i):=fun O H Y Z s x d Q r en dn ok=>by
 refine ⟨z2I (z0U h O),?_⟩;exact okR.here (b:=(inner mp O).set i (some x)) ok r (en.set dn i)
theorem z3J{fi:FI}{g:TG}{fg:FG}{ft:FT}{fe:FE}{O:L2.St}{H:Hp}{Q:VK}{Y:List Addr}{Z:Ev}{s:Sto}{β:Type}{kR:List D->Sto->R β}{β2:Type}{Dn:Hp->List Addr->β->β2->Prop}{Q2:β2->Hp->Prop}(hg:z38 (gm X) E mp g fg)(r:Rep (gm X) H Y s)(en:wV (gm X) H Y Z O) (h:okR (gm X) E H Y Dn ((z5m fi mp fg ft fe Z s).bind kR) Q2) (fin:∀ H1 Y1 s1 xs vs,Rep (gm X) H1 Y1 s1->wV (gm X) H1 Y1 Z O->zr (gm X) H1 Y1 xs vs->okR (gm X) E H1 Y1 Dn (kR xs s1) Q2->xs.length<=cap->∀ p,H1 p=none->Q (.ref p) (upd H1 p (.lst vs))): zbA (tI (gm X) E fi) mp g (tT (gm X) E ft) (tE (gm X) E fe) O H Q:=by
 unfold z5m at h;have assoc:∀ {α γ δ:Type}(x:R α)(f:α->Sto->R γ)(k:γ->Sto->R δ),(x.bind f).bind k=x.bind fun a s=>(f a s).bind k:=fun x f k=>by cases x<;>rfl
 rw [assoc] at h;refine ⟨Y,Z,s,r,en,(okR.bind (Dn:=zaf (gm X)) h).imp fun J H1 ⟨Y1,s1,it,stp,ok,h1⟩=>?_⟩;obtain ⟨items,gd⟩:=it;simp only at h1;refine ⟨fun i m ys H=>∃ Y s acc,xS (gm X) H1 Y1 H Y s/\zr (gm X) H Y acc ys/\acc.length<=cap/\m=items.length-i/\i<=items.length/\ okR (gm X) E H Y Dn ((vw gd items (fun d s=>(fg d (yh mp Z) s).bind fun Z' s'=>(ft Z' s').bind fun b s2=>if b=true then (fe Z' s2).bind fun d s3=>.ok (some d) s3 else .ok none s2) (items.drop i) acc s).bind kR) Q2, ⟨items.length,Y1,s1,[],.refl stp.rep,zr.nil,Nat.zero_le _,by simp,Nat.zero_le _,by simpa using h1⟩,?_⟩;rintro i m ys H2 ⟨Y2,s2,acc,stp2,dn2,hcap,rfl,hil,h2⟩;have en2:wV (gm X) H2 Y2 Z O:=(en.mono stp).mono stp2;by_cases hlt:i<items.length
 ·right;rw [List.drop_eq_getElem_cons hlt,vw] at h2;split at h2
  ·rename_i hG;obtain ⟨go,yl⟩:=((ok H2 Y2 s2 stp2 hG i).1 items[i] (List.getElem?_eq_getElem hlt));refine ⟨go,fun x H' y=>?_⟩;obtain ⟨Y3,stp3,dn3⟩:=yl x H' y;have h3:=okR.rebase h2 stp3;rw [assoc,assoc] at h3;have h4:=okR.bind (Dn:=wV (gm X)) h3;refine hg O H' Y3 Z s2 x items[i] _ stp3.rep ((en2.mono stp3).inner) dn3 (h4.imp fun O4 H4 ⟨Y4,s4,Z4,stp4,en4,h5⟩=>?_);rw [assoc] at h5;refine ⟨Y4,Z4,s4,stp4.rep,en4,(okR.bind (Dn:=bD) h5).imp fun bb H5 ⟨Y5,s5,b',stp5,eb,h6⟩=>?_⟩;cases (show b'=bb from eb);have all5:xS (gm X) H1 Y1 H5 Y5 s5:=((stp2.trans stp3).trans stp4).trans stp5;cases bb with
   | true=>
    rw [if_pos rfl] at h6 ⊢;rw [assoc] at h6;refine ⟨Y5,Z4,s5,stp5.rep,en4.mono stp5,(okR.bind (Dn:=Den (gm X)) h6).imp fun y H6 ⟨Y6,s6,d6,stp6,dn6,h7⟩=>?_⟩;simp only [R.bind_ok] at h7;split at h7
    ·rename_i hc;have all6:=all5.trans stp6;have dny:zr (gm X) H6 Y6 acc ys:=(((dn2.mono stp3).mono stp4).mono stp5).mono stp6;refine ⟨by rw [dn2.length];exact qW hcap,items.length-(i+1),by omega,Y6,s6,acc++[d6],all6,dny.append (zr.one dn6),by simp;omega,rfl,hlt,h7⟩
    ·exact h7.elim | false=>
    rw [if_neg (by decide)] at h6 ⊢;simp only [R.bind_ok] at h6;exact ⟨items.length-(i+1),by omega,Y5,s5,acc,all5,((dn2.mono stp3).mono stp4).mono stp5,hcap,rfl,hlt,h6⟩
  ·exact h2.elim
 ·left;have e:i=items.length:=by omega
  subst e;rw [List.drop_length,vw] at h2;split at h2
  ·rename_i hG;simp only [R.bind_ok] at h2;exact ⟨(ok H2 Y2 s2 stp2 hG _).2 (Nat.le_refl _),by rw [dn2.length];exact qW hcap,fin H2 Y2 s2 acc ys stp2.rep en2 dn2 h2 hcap⟩
  ·exact h2.elim
def zA(fi:FI)(mp:List (Option Nat))(fg:FG)(ft:FT)(fe:FE):FE:=fun Z s=>(z5m fi mp fg ft fe Z s).bind fun xs s1=>.ok (.lst xs) s1
def kN(fi:FI)(mp:List (Option Nat))(fg:FG)(ft:FT)(fe:FE):FE:=fun Z s=>(z5m fi mp fg ft fe Z s).bind fun xs s1=>if D.flat.flats xs=true then .ok (.loc s1.length) (s1++[xs]) else .no
def wU:FT:=fun _ s=>.ok true s
theorem vM{Yy:Cx}:z6y Yy [] (tT (gm Yy) E wU):=fun pins s O H Q I ⟨Y,Z,st,r,en,h⟩=>zbo pins s O H Q I (h.here (b:=true) r rfl)
theorem vK{Yy:Cx}{f:FT}(h:RT Yy E c f):z6y Yy [c] (tT (gm Yy) E f):=zbB h
section
variable {scope:Scope}{ifs:List Expr}{fi:FI}{fg:FG}{ft:FT}{fe:FE}{g:TG}{spos py:Pos}
theorem zev(N':List Str)(mp:List (Option Nat))(hc:X.calm=true)(hi:RI X E tg iter fi)(hg:∀ ex s H,PG (zj X N' scope ex s H) tg g)(hgt:z38 (gm X) E mp g fg)(ht:∀ ex s H,z6y (zj X N' scope ex s H) ifs (tT (gm X) E ft))(he:∀ ex s H,RE (zj X N' scope ex s H) E elt fe) (hkd:scope.kind=.function)(hnm:∀ y∈scope.names,scope.names.lookup y.1=some y.2) (hfr:∀ y∈scope.names,y.2=.free->X.env.kindOf y.1=some .cell\/X.env.kindOf y.1=some .free)(hmp:z0x X.N scope.names N' mp=true) (hs:∀ x,foldedSetIterable iter X.env x=pure x:=by intro _;rfl):RE X E (.ListComp elt [⟨tg,iter,ifs,0⟩] scope pos) (zA fi mp fg ft fe):= zV (zdr (te:=tE (gm X) E fe) N' mp hc hi hg ht (fun ex s H=>he ex s H) hkd hnm hfr hmp hs).freeze fun O H Q ⟨Y,Z,s,r,en,h⟩=> z3J hgt r en h fun H1 Y1 s1 xs vs r1 en1 dn h1 hcap=>jC r1 h1 dn
theorem z7t {i:Nat} {y:Str} (N':List Str) (mp:List (Option Nat)) (hN:X.N.Nodup) (hc:X.calm=true) (hi:RI X E tg iter fi) (hg:∀ ex s H,PG (zj X N' scope ex s H) tg g) (hgt:z38 (gm X) E mp g fg) (ht:∀ ex s H,z6y (zj X N' scope ex s H) ifs (tT (gm X) E ft)) (he:∀ ex s H,RE (zj X N' scope ex s H) E elt fe) (hkd:scope.kind=.function) (hnm:∀ y∈scope.names,scope.names.lookup y.1=some y.2) (hfr:∀ y∈scope.names,y.2=.free->X.env.kindOf y.1=some .cell\/X.env.kindOf y.1=some .free) (hmp:z0x X.N scope.names N' mp=true) (hy:X.N[i]? = some y:=by rfl) (hyl:Loc X.env.scope y:=by first | exact Or.inl rfl | exact Or.inr rfl) (hs:∀ x,foldedSetIterable iter X.env x=pure x:=by intro _;rfl) (hsw:swapsWith (.ListComp elt [⟨tg,iter,ifs,0⟩] scope pos) (some (.Name y py)) spos.line X.env=pure true:=by rfl) (hf:X.fn y=true\/X.env.scope.names.lookup y=some .local:=by first | exact .inl rfl | exact .inr rfl | assumption): RS X E (.Assign [.Name y py] (.ListComp elt [⟨tg,iter,ifs,0⟩] scope pos) spos) (xl i (zA fi mp fg ft fe)):= vy (z5A (te:=tE (gm X) E fe) N' mp hN hy hyl hc hi hg ht (fun ex s H=>he ex s H) hkd hnm hfr hmp hs hsw hf) fun D O H ⟨Y,Z,s,r,en,h⟩=>by
  have assoc:∀ {α γ δ:Type} (x:R α) (f:α->Sto->R γ) (k:γ->Sto->R δ),(x.bind f).bind k=x.bind fun a s=>(f a s).bind k:=fun x f k=>by cases x<;>rfl
  unfold xl zA at h;rw [assoc] at h;refine z3J hgt r en h fun H1 Y1 s1 xs vs r1 en1 dn h1 hcap p hp=>?_;refine jC (E:=E) (mg:=gm X) (xs:=xs) r1 (fun v H2 Y2 stp dn2=>?_) dn p hp;exact h1 (.nx (O.set i (some v))) H2 Y2 stp ((en1.mono stp).set dn2 i)
theorem z7P{i:Nat}{y:Str}(N':List Str)(mp:List (Option Nat))(hN:X.N.Nodup)(hc:X.calm=true)(hi:RI X E tg iter fi)(hg:∀ ex s H,PG (zj X N' scope ex s H) tg g)(hgt:z38 (gm X) E mp g fg)(ht:∀ ex s H,z6y (zj X N' scope ex s H) ifs (tT (gm X) E ft))(he:∀ ex s H,RE (zj X N' scope ex s H) E elt fe) (hkd:scope.kind=.function)(hnm:∀ y∈scope.names,scope.names.lookup y.1=some y.2) (hfr:∀ y∈scope.names,y.2=.free->X.env.kindOf y.1=some .cell\/X.env.kindOf y.1=some .free)(hmp:z0x X.N scope.names N' mp=true)(hy:X.N[i]? = some y:=by rfl)(hyl:Loc X.env.scope y:=by first | exact Or.inl rfl | exact Or.inr rfl) (hs:∀ x,foldedSetIterable iter X.env x=pure x:=by intro _;rfl) (hsw:swapsWith (.ListComp elt [⟨tg,iter,ifs,0⟩] scope pos) (some (.Name y py)) spos.line X.env=pure true:=by rfl) (hf:X.fn y=true\/X.env.scope.names.lookup y=some .local:=by first | exact .inl rfl | exact .inr rfl | assumption): RS X E (.Assign [.Name y py] (.ListComp elt [⟨tg,iter,ifs,0⟩] scope pos) spos) (xl i (kN fi mp fg ft fe)):= vy (z7M (te:=tE (gm X) E fe) N' mp hN hy hyl hc hi hg ht (fun ex s H=>he ex s H) hkd hnm hfr hmp hs hsw hf) fun D O H ⟨Y,Z,s,r,en,h⟩=>by
  have assoc:∀ {α γ δ:Type}(x:R α)(f:α->Sto->R γ)(k:γ->Sto->R δ),(x.bind f).bind k=x.bind fun a s=>(f a s).bind k:=fun x f k=>by cases x<;>rfl
  unfold xl kN at h;rw [assoc] at h;refine z3J hgt r en h fun H1 Y1 s1 xs vs r1 en1 dn h1 hcap p hp=>?_;split at h1
  ·rename_i hf;have stp:=xS.layL (p:=p) r1 hp dn hf;refine h1 (.nx (O.set i (some (.ref p)))) _ _ stp ((en1.mono stp).set ?_ i);simp only [Den];exact ⟨p,rfl,by rw [<- r1.len];simp,vs,zK⟩
  ·exact h1.elim
end
end
section
variable {X:Cx}{E:XK}{e a b c tg iter elt:Expr}{es:List Expr}{pos:Pos}{CX:CXT}{mp:List (Option Nat)}
def zcq(K:W.Frag)(i j:Nat):TG:=ziS K 2 (zdu (z04 i) (zdu (z04 j) ziE))
theorem jQ(i j:Nat){x y:Str}{px py:Pos}{kt:Nat}(hc:X.calm=true)(hN:X.N.Nodup)(hi:X.N[i]? = some x:=by rfl)(hj:X.N[j]? = some y:=by rfl)(hx:Loc X.env.scope x:=by first | exact Or.inl rfl | exact Or.inr rfl)(hy:Loc X.env.scope y:=by first | exact Or.inl rfl | exact Or.inr rfl) (hf:X.fn x=true\/X.env.scope.names.lookup x=some .local:=by first | exact .inl rfl | exact .inr rfl | assumption)(hf':X.fn y=true\/X.env.scope.names.lookup y=some .local:=by first | exact .inl rfl | exact .inr rfl | assumption): PG X (.Tuple [.Name x px,.Name y py] kt pos) (zcq X.K i j):=zcj hc (z0w (yo hN hi hx hf) (z0w (yo hN hj hy hf') z9D))
theorem jB(i j:Nat)(hij:i≠j)(h:mp[i]? = some none)(h':mp[j]? = some none):z38 (gm X) E mp (zcq X.K i j) (xO i j):=fun O H Y Z s x d Q r en dn ok=>by
 unfold xO at ok;split at ok
 ·rename_i d1 d2;obtain ⟨p,vs,rfl,q1,q2⟩:=ji (K:=X.K) dn;obtain ⟨v1,v2,rfl,e1,e2⟩:=z7l q2;have k1:=z2I (v:=v1) (z0U h O);have own2:((inner mp O).set i (some v1))[j]? = some none:=by rw [List.getElem?_set_ne hij];exact z0U h' O
  have k2:=z2I (v:=v2) own2;exact ⟨p,[v1,v2],rfl,q1,rfl,v1,[v2],rfl,v2,[],rfl,rfl,⟨k2.1.trans k1.1,fun l u e=>k2.2 l u (k1.2 l u e)⟩,okR.here ok r ((en.set e1 i).set e2 j)⟩
 ·exact ok.elim
end
def zy(N:List Str)(ds:List D):Ev:=ds.map some++List.replicate (N.length-ds.length) none
theorem z2w{mg:Gm}{H:Hp}{Y:List Addr}{N:List Str}:∀ {ds:List D}{vs:List V},zr mg H Y ds vs->wV mg H Y (zy N ds) (L2.start N vs):=fun {ds vs} h=>by
 have hl:=h.length;refine ⟨by simp [zy,L2.start,hl],fun i d e=>?_⟩;unfold zy at e;have hi:i<ds.length:=by
  by_cases hi:i<ds.length;·exact hi
  ·rw [List.getElem?_append_right (by simpa using hi),List.getElem?_replicate] at e;split at e<;>cases e
 rw [List.getElem?_append_left (by simpa using hi),List.getElem?_map] at e;have e':ds[i]? = some d:=by cases q:ds[i]? with
  | none=>rw [q] at e;cases e | some x=>rw [q] at e;simp at e;rw [e]
 obtain ⟨v,h1,h2⟩:=h.get e';refine ⟨v,?_,h2⟩;unfold L2.start;rw [List.getElem?_append_left (by simpa [hl] using hi),List.getElem?_map,h1];rfl
def Mof(N:List Str)(n:Nat)(fs:FS):Mir:=fun ds s=>if ds.length=n then (match fs (zy N ds) s with
 | .ok (.rt d) s'=>.ok d s' | .ok (.nx _) s'=>.ok .non s' | _=>.no) else .no
section
variable {P:Program}{w:World}{K:W.Frag}{mg:Str->Option Value}{base:Heap}
theorem Has.mono{CX:CXT}{x:Str}{n m:Nat}{M:Mir}(h:Has P w K mg base CX x n M)(hl:n<=m):Has P w K mg base CX x m M:=by
 obtain ⟨f,fd,ps,F,r⟩:=h;exact ⟨f,fd,ps,F.mono hl,r⟩
theorem zQ{x qual:Str}{st:Stmt}{f:Addr}{fd:FuncData}{N ps:List Str}{k n:Nat}{fs:FS}(F:Fun K x qual st f fd)(hm:mg x=some (.ref f))(hb:Binds K fd ps [])(S:zu N ps (zg st))(hn:ps.length=n) (body:∀ (cdv:Value)(A:Around)(outer:List Env)(s:Shared)(H:Hp)(E:XK),z0q k (A.deeper (envOfC qual (zg st) s.heap.objs.size f cdv))->(zad CX0 P w K mg base N qual (zg st) f cdv A outer s H E).nox.calm=true-> RSs (zad CX0 P w K mg base N qual (zg st) f cdv A outer s H E).nox E0 (uP st) fs):Has P w K mg base CX0 x (k+1) (Mof N n fs):=by
 subst hn;refine ⟨f,fd,ps,F.ok S (fun vs H Q E h=>?_) (fun cdv A outer s H vs Q E hr h=>?_),hb,F.kp,hm⟩
 ·obtain ⟨Y,s,ds,_,dn,h⟩:=h;unfold Mof at h;split at h;·rename_i e;rw [dn.length];exact e
  ·exact h.elim
 ·obtain ⟨Y,st0,ds,r,dn,h⟩:=h;refine ⟨_,body cdv A outer s H E hr (by show A.handled.isNone=true;rw [show A.handled=none from hr.hd];rfl),Y,zy N ds,st0,r,z2w dn,?_⟩;unfold Mof at h;split at h
  ·split at h
   ·rename_i d s' e;rw [e];intro fv H' Y' stp fd;cases fv with
    | rt v=>exact h v H' Y' stp fd | _=>exact (show False from fd).elim
   ·rename_i Z s' e;rw [e];intro fv H' Y' stp fd;cases fv with
    | nx v=>exact h .non H' Y' stp (by simp [Den]) | _=>exact (show False from fd).elim
   ·exact h.elim
  ·exact h.elim
theorem zcl{x qual:Str}{st:Stmt}{f:Addr}{fd:FuncData}{ps:List Str}(F:Fun K x qual st f fd)(hm:mg x=some (.ref f))(hb:Binds K fd ps []):Has P w K mg base CX0 x 0 (fun _ _=>.no):= ⟨f,fd,ps,⟨fun vs H Q E h=>by obtain ⟨_,_,_,_,_,h⟩:=h;exact h.elim,fun A outer s H args us vs Q E _ _ _ _ h=>by obtain ⟨_,_,_,_,_,h⟩:=h;exact h.elim⟩,hb,F.kp,hm⟩
end
def zdC(K:W.Frag):Sp:=fun vs H Q _=>∃ (a:Addr)(ns:List Int),vs=[.ref a]/\zgH H/\SqL K H a (ns.map V.int)/\ns.length<=63/\∀ H',Q (.bl true) H'
theorem z01{mg:Gm}{H:Hp}{Y:List Addr}:∀ (ns:List Int),zr mg H Y (ns.map D.int) (ns.map V.int)
 | []=>zr.nil | n::ns=>zr.cons yf (z01 ns)
theorem zgi{P:Program}{w:World}{K:W.Frag}{mg:Str->Option Value}{base:Heap}{x:Str}{n:Nat}{M:Mir}{f:Addr}{fd:FuncData}{ps:List Str}(F:z2e P w K mg base CX0 n f fd ps (zcM ⟨mg,K⟩ M)) (h:∀ ns:List Int,ns.length<=63->∃ s',M [.scr (ns.map D.int)] []=.ok (.bl true) s'):z2e P w K mg base CX0 n f fd ps (zdC K):= F.imp fun vs H Q E ⟨a,ns,e,ho,hq,hl,q⟩=>by
  subst e;obtain ⟨s',hs⟩:=h ns hl;refine ⟨[],[],[.scr (ns.map D.int)],⟨rfl,List.nodup_nil,fun l xs z=>by simp at z,fun xs z=>by simp at z⟩,zr.one ?_,?_⟩
  ·simp only [Den];refine ⟨a,ns.map V.int,rfl,?_,z01 ns⟩;rcases hq with (z | z) | z
   ·rcases ho a with y | ⟨o,xs,y⟩;·rw [y] at z;cases z
    ·rw [y] at z;cases z
   ·exact .inl z
   ·exact .inr z
  ·rw [hs];intro v H' Y' stp dn;cases qu dn;exact q H'
section
variable {X:Cx}{E:XK}{e a b c tg iter elt:Expr}{es:List Expr}{pos:Pos}{CX:CXT}
def zah(f:FE):FE:=fun Z s=>(f Z s).bind fun d s1=>match d with | .int i=>.ok (.int (-i)) s1 | _=>.no
theorem zaJ{f:FE}(h:RE X E a f):RE X E (.UnaryOp .USub a pos) (zah f):= zV (zg3 zbX h) fun O H Q ⟨Y,Z,s,r,en,h⟩=>by
  refine zO (k:=fun Z d s1=>match d with | .int i=>R.ok (D.int (-i)) s1 | _=>.no) r en h _ fun v H1 Y1 s1 d r1 en1 dn stp h1=>?_;cases d with
  | int i=>
   cases zT dn;exact ⟨i,rfl,okR.here (b:=V.int (-i)) h1 r1 yf⟩ | _=>exact h1.elim
theorem z9f{op op':CmpOp}{fo fo':D->D->Sto->R D}{fa fb fc:FE}(ho:∃ r,OpR X (compareOp op) r/\OpF X E r fo)(ho':∃ r,OpR X (compareOp op') r/\OpF X E r fo')(ha:RE X E a fa)(hb:RE X E b fb)(hc:RE X E c fc) (hm:lastMarks [op,op'] [b,c]=false:=by with_unfolding_all rfl):RT X E (.Compare a [op,op'] [b,c] pos) (tOf (z1p fo fo' fa fb fc)):=by
 obtain ⟨r,h1,h2⟩:=ho;obtain ⟨r',h1',h2'⟩:=ho';exact z57 (zbc h1 h1' ha hb hc hm) fun O H Q h=>by
  have q:=z2B h;exact z4G h2 h2' q
def jr(i:Int)(n:Nat):List D:=(List.range n).map fun (k:Nat)=>D.int (i+((k:Nat):Int))
def z5D(f:FA):FI:=fun Z s=>(f Z s).bind fun ds s1=>match ds with
 | [.int i,.int j]=>if -(2 ^ 62)<=i/\i<2 ^ 62/\-(2 ^ 62)<=j/\j<2 ^ 62 then .ok (jr i (j-i).toNat,[]) s1 else .no | _=>.no
theorem z6S{p:Pos}{f:FA}(hg:Gl X "range")(hm:X.mg "range"=none)(ha:RA X E [a,b] f)(hs:starEach [a,b] X.env=[(false,eval a X.env),(false,eval b X.env)]:=by rfl)(hs2:starEach [b] X.env=[(false,eval b X.env)]:=by rfl):RI X E tg (.Call (.Name "range" p) [a,b] [] pos) (z5D f):= z26 (z8K hg hm ha hs hs2) fun O H Q ⟨Y,Z,s,r,en,h⟩=>by
  unfold z5D at h;refine ⟨Y,Z,s,r,en,(okR.bind (Dn:=zr (gm X)) h).imp fun vs H1 ⟨Y1,s1,ds,stp,dn,h1⟩=>?_⟩;split at h1
  ·rename_i i j;split at h1
   ·rename_i hj;obtain ⟨v,v',rfl,d1,d2⟩:=z7l dn;cases zT d1;cases zT d2;refine ⟨i,j,rfl,hj,h1.here stp.rep fun H2 Y2 s2 stp2 _ k=>⟨fun d hd=>?_,fun hl=>?_⟩⟩
    ·have hi:k<(j-i).toNat:=by
      have:=(List.getElem?_eq_some_iff.mp hd).1;simpa [jr] using this
     refine ⟨hi,fun x H' ⟨e1,e2⟩=>?_⟩;subst e1 e2;refine ⟨Y2,.refl stp2.rep,?_⟩;have e3:d=D.int (i+k):=by
      simp only [jr,List.getElem?_map,List.getElem?_range hi,Option.map_some,Option.some.injEq] at hd;exact hd.symm
     rw [e3];exact yf
    ·have:(jr i (j-i).toNat).length=(j-i).toNat:=by simp [jr]
     show (j-i).toNat<=k;rw [<- this];exact hl
   ·exact h1.elim
  ·exact h1.elim
end
def isK(o:Option NameKind)(k:NameKind):Bool:=match o,k with
 | some .local,.local=>true | some .cell,.cell=>true | some .free,.free=>true | some .globalImplicit,.globalImplicit=>true | _,_=>false
theorem z9e{o:Option NameKind}{k:NameKind}(h:isK o k=true):o=some k:=by cases o with
 | none=>cases k<;>simp [isK] at h | some j=>cases j<;>cases k<;>first | rfl | simp [isK] at h
def isF(k:NameKind):Bool:=match k with | .free=>true | _=>false
theorem zeP{k:NameKind}(h:k=.free):isF k=true:=by subst h;rfl
def z9J(ko:Str->Option NameKind)(names:List (Str×NameKind)):Bool:=names.all fun y=>!isF y.2||(isK (ko y.1) .cell||isK (ko y.1) .free)
theorem z0k{ko:Str->Option NameKind}{names:List (Str×NameKind)}(h:z9J ko names=true):∀ y∈names,y.2=.free->ko y.1=some .cell\/ko y.1=some .free:=fun y hy hf=>by
 have:=List.all_eq_true.mp h y hy;rw [zeP hf] at this;simp only [Bool.not_true,Bool.false_or,Bool.or_eq_true] at this;exact this.imp z9e z9e
def z8j(names:List (Str×NameKind)):Bool:=names.all fun y=>isK (names.lookup y.1) y.2
theorem z0r{names:List (Str×NameKind)}(h:z8j names=true):∀ y∈names,names.lookup y.1=some y.2:=fun y hy=>by
 have:=List.all_eq_true.mp h y hy;exact z9e this
section
variable {X:Cx}{E:XK}{e a b c tg iter elt:Expr}{es:List Expr}{pos:Pos}{CX:CXT}
variable {scope:Scope}{ifs:List Expr}{fi:FI}{fg:FG}{ft:FT}{fe:FE}{g:TG}{spos py:Pos}
theorem zem{x:Str}{i:Int}(hg:Gl X x)(hm:∃ t,X.mg x=some (.int i t))(hd:(x==("__debug__":Str))=false:=by decide):RE X E (.Name x pos) (eC (.int i)):=let ⟨_,h⟩:=hm;zfK hg h hd
theorem xN(N':List Str)(mp:List (Option Nat))(hc:X.calm=true)(hi:RI X E tg iter fi)(hg:∀ ex s H,PG (zj X N' scope ex s H) tg g)(hgt:z38 (gm X) E mp g fg)(ht:∀ ex s H,z6y (zj X N' scope ex s H) ifs (tT (gm X) E ft))(he:∀ ex s H,RE (zj X N' scope ex s H) E elt fe) (hkd:scope.kind=.function:=by rfl)(hnm:z8j scope.names=true:=by rfl)(hfr:z9J X.env.kindOf scope.names=true:=by rfl)(hmp:z0x X.N scope.names N' mp=true:=by rfl) (hs:∀ x,foldedSetIterable iter X.env x=pure x:=by intro _;rfl):RE X E (.ListComp elt [⟨tg,iter,ifs,0⟩] scope pos) (zA fi mp fg ft fe):= zev N' mp hc hi hg hgt ht he hkd (z0r hnm) (z0k hfr) hmp hs
theorem z33(i:Nat){y:Str}(N':List Str)(mp:List (Option Nat))(hN:X.N.Nodup)(hc:X.calm=true)(hi:RI X E tg iter fi)(hg:∀ ex s H,PG (zj X N' scope ex s H) tg g)(hgt:z38 (gm X) E mp g fg)(ht:∀ ex s H,z6y (zj X N' scope ex s H) ifs (tT (gm X) E ft))(he:∀ ex s H,RE (zj X N' scope ex s H) E elt fe) (hkd:scope.kind=.function:=by rfl)(hnm:z8j scope.names=true:=by rfl)(hfr:z9J X.env.kindOf scope.names=true:=by rfl)(hmp:z0x X.N scope.names N' mp=true:=by rfl)(hy:X.N[i]? = some y:=by rfl)(hyl:Loc X.env.scope y:=by first | exact Or.inl rfl | exact Or.inr rfl) (hs:∀ x,foldedSetIterable iter X.env x=pure x:=by intro _;rfl) (hsw:swapsWith (.ListComp elt [⟨tg,iter,ifs,0⟩] scope pos) (some (.Name y py)) spos.line X.env=pure true:=by rfl) (hf:X.fn y=true\/X.env.scope.names.lookup y=some .local:=by first | exact .inl rfl | exact .inr rfl | assumption): RS X E (.Assign [.Name y py] (.ListComp elt [⟨tg,iter,ifs,0⟩] scope pos) spos) (xl i (zA fi mp fg ft fe)):= z7t N' mp hN hc hi hg hgt ht he hkd (z0r hnm) (z0k hfr) hmp hy hyl hs hsw hf
theorem zdS(i:Nat){y:Str}(N':List Str)(mp:List (Option Nat))(hN:X.N.Nodup)(hc:X.calm=true)(hi:RI X E tg iter fi)(hg:∀ ex s H,PG (zj X N' scope ex s H) tg g)(hgt:z38 (gm X) E mp g fg)(ht:∀ ex s H,z6y (zj X N' scope ex s H) ifs (tT (gm X) E ft))(he:∀ ex s H,RE (zj X N' scope ex s H) E elt fe) (hkd:scope.kind=.function:=by rfl)(hnm:z8j scope.names=true:=by rfl)(hfr:z9J X.env.kindOf scope.names=true:=by rfl)(hmp:z0x X.N scope.names N' mp=true:=by rfl)(hy:X.N[i]? = some y:=by rfl)(hyl:Loc X.env.scope y:=by first | exact Or.inl rfl | exact Or.inr rfl) (hs:∀ x,foldedSetIterable iter X.env x=pure x:=by intro _;rfl) (hsw:swapsWith (.ListComp elt [⟨tg,iter,ifs,0⟩] scope pos) (some (.Name y py)) spos.line X.env=pure true:=by rfl) (hf:X.fn y=true\/X.env.scope.names.lookup y=some .local:=by first | exact .inl rfl | exact .inr rfl | assumption): RS X E (.Assign [.Name y py] (.ListComp elt [⟨tg,iter,ifs,0⟩] scope pos) spos) (xl i (kN fi mp fg ft fe)):= z7P N' mp hN hc hi hg hgt ht he hkd (z0r hnm) (z0k hfr) hmp hy hyl hs hsw hf
end
theorem zeX{P:Program}{w:World}{K:W.Frag}{mg:Str->Option Value}{base:Heap}{x qual:Str}{st:Stmt}{f:Addr}{fd:FuncData}{N ps:List Str}{k n:Nat}{fs:FS}(F:Fun K x qual st f fd)(S:zu N ps (zg st))(hn:ps.length=n) (body:∀ (cdv:Value)(A:Around)(outer:List Env)(s:Shared)(H:Hp)(E:XK),z0q k (A.deeper (envOfC qual (zg st) s.heap.objs.size f cdv))->(zad CX0 P w K mg base N qual (zg st) f cdv A outer s H E).nox.calm=true-> RSs (zad CX0 P w K mg base N qual (zg st) f cdv A outer s H E).nox E0 (uP st) fs):z2e P w K mg base CX0 (k+1) f fd ps (zcM ⟨mg,K⟩ (Mof N n fs)):=by
 subst hn;refine F.ok S (fun vs H Q E h=>?_) (fun cdv A outer s H vs Q E hr h=>?_)
 ·obtain ⟨Y,s,ds,_,dn,h⟩:=h;unfold Mof at h;split at h;·rename_i e;rw [dn.length];exact e
  ·exact h.elim
 ·obtain ⟨Y,st0,ds,r,dn,h⟩:=h;refine ⟨_,body cdv A outer s H E hr (by show A.handled.isNone=true;rw [show A.handled=none from hr.hd];rfl),Y,zy N ds,st0,r,z2w dn,?_⟩;unfold Mof at h;split at h
  ·split at h
   ·rename_i d s' e;rw [e];intro fv H' Y' stp fd;cases fv with
    | rt v=>exact h v H' Y' stp fd | _=>exact (show False from fd).elim
   ·rename_i Z s' e;rw [e];intro fv H' Y' stp fd;cases fv with
    | nx v=>exact h .non H' Y' stp (by simp [Den]) | _=>exact (show False from fd).elim
   ·exact h.elim
  ·exact h.elim
section
variable {all xs:List D}{Z:Ev}{s:Sto}
theorem z6O{body:D->Ev->Sto->R Fl}(I:Ev->Sto->Prop):∀ (xs:List D),(∀ x∈xs,∀ Z s,I Z s->∃ Z' s',body x Z s=.ok (.nx Z') s'/\I Z' s')->∀ Z s,I Z s->∃ Z' s',wq [] all body xs Z s=.ok (.nx Z') s'/\I Z' s'
 | [],_,Z,s,h=>⟨Z,s,by simp [wq,okG],h⟩ | x::xs,hb,Z,s,h=>by
  obtain ⟨Z1,s1,e1,h1⟩:=hb x (by simp) Z s h;obtain ⟨Z2,s2,e2,h2⟩:=z6O I xs (fun y hy=>hb y (by simp [hy])) Z1 s1 h1;exact ⟨Z2,s2,by simp [wq,okG,e1,e2],h2⟩
theorem z4f{body:D->Sto->R (Option D)}(f:D->D):∀ (xs acc:List D),(∀ x∈xs,body x s=.ok (some (f x)) s)->acc.length+xs.length<=cap->vw [] all body xs acc s=.ok (acc++xs.map f) s
 | [],acc,_,_=>by simp [vw,okG] | x::xs,acc,hb,hl=>by
  have ih:=z4f f xs (acc++[f x]) (fun y hy=>hb y (by simp [hy])) (by simp at hl ⊢;omega);have hc:acc.length<cap:=by simp at hl;omega
  rw [vw];simp [okG,hb x (by simp),hc,ih]
end
section
variable (i j k n:Nat)(Z:Ev)(s:Sto)(f g fa fb fc:FE)(d x y:D)(ds:List D)(ar:FA)(op op':D->D->Sto->R D)(ft ft':FT)(fs fs':FS)(M:Mir)(T:String)(fl fh fo:FO)(fi:FI)(fg:FG)(mp:List (Option Nat))(N:List Str)
@[simp] theorem xW:zc i Z s=(match Z[i]? with | some (some d)=>.ok d s | _=>.no):=id rfl
@[simp] theorem kO:eC d Z s=.ok d s:=id rfl
@[simp] theorem wE:eOp op fa fb Z s=(fa Z s).bind fun x s1=>(fb Z s1).bind fun y s2=>op x y s2:=id rfl
@[simp] theorem wS:ze M ar Z s=(ar Z s).bind fun xs s1=>M xs s1:=id rfl
@[simp] theorem zF:zi Z s=.ok [] s:=id rfl
@[simp] theorem zp:zb f ar Z s=(f Z s).bind fun x s1=>(ar Z s1).bind fun xs s2=>.ok (x::xs) s2:=id rfl
@[simp] theorem vk:ur ar Z s=(ar Z s).bind fun xs s1=>if xs.length<=cap then .ok (.tup xs) s1 else .no:=id rfl
@[simp] theorem z2n:z4o ar Z s=(ar Z s).bind fun xs s1=>if xs.length<=cap then .ok (.lst xs) s1 else .no:=id rfl
@[simp] theorem z9O:zae ar Z s=(ar Z s).bind fun xs s1=>if xs.length<=cap/\D.flat.flats xs=true then .ok (.loc s1.length) (s1++[xs]) else .no:=id rfl
@[simp] theorem zjr:eIs T f Z s=(f Z s).bind fun d s1=>gIs T d s1:=id rfl
@[simp] theorem ziA:zah f Z s=(f Z s).bind fun d s1=>match d with | .int i=>.ok (.int (-i)) s1 | _=>.no:=id rfl
@[simp] theorem ziq:zgq f Z s=(f Z s).bind fun x s1=>match x with | .bl k=>.ok (.bl (!k)) s1 | _=>.no:=id rfl
@[simp] theorem z9R:z5l fa fb Z s=(fa Z s).bind fun x s1=>match x with | .bl true=>fb Z s1 | .bl false=>.ok (.bl false) s1 | _=>.no:=id rfl
@[simp] theorem zjm:eOr fa fb Z s=(fa Z s).bind fun x s1=>match x with | .bl false=>fb Z s1 | .bl true=>.ok (.bl true) s1 | _=>.no:=id rfl
@[simp] theorem zbj:eIf ft fa fb Z s=(ft Z s).bind fun x s1=>if x=true then fa Z s1 else fb Z s1:=id rfl
@[simp] theorem z7Z:eSl f fl fh Z s=(f Z s).bind fun x s1=>(fl Z s1).bind fun lo s2=>(fh Z s2).bind fun hi s3=>dSl x lo hi s3:=id rfl
@[simp] theorem ui:zP Z s=.ok none s:=id rfl
@[simp] theorem kA:wC f Z s=(f Z s).bind fun d s1=>match d with | .int i=>.ok (some i) s1 | _=>.no:=id rfl
@[simp] theorem qJ:tOf f Z s=(f Z s).bind fun d s1=>match d with | .bl k=>.ok k s1 | _=>.no:=id rfl
@[simp] theorem z7h:zaa ft ft' Z s=(ft Z s).bind fun x s1=>if x=true then ft' Z s1 else .ok false s1:=id rfl
@[simp] theorem zfv:fOr ft ft' Z s=(ft Z s).bind fun x s1=>if x=true then .ok true s1 else ft' Z s1:=id rfl
@[simp] theorem z5i:z3S ft Z s=(ft Z s).bind fun x s1=>.ok (!x) s1:=id rfl
@[simp] theorem zgz:z1p op op' fa fb fc Z s=(fa Z s).bind fun x s1=>(fb Z s1).bind fun y s2=>(op x y s2).bind fun z s3=>match z with
 | .bl true=>(fc Z s3).bind fun w s4=>op' y w s4 | .bl false=>.ok (.bl false) s3 | _=>.no:=id rfl
@[simp] theorem zis:zC fs fs' Z s=(fs Z s).bind fun fl s1=>match fl with | .nx Z'=>fs' Z' s1 | fl=>.ok fl s1:=id rfl
@[simp] theorem zhI:yD Z s=.ok (.nx Z) s:=id rfl
@[simp] theorem zjn:fNo Z s=.no:=id rfl
@[simp] theorem kE:qT f Z s=(f Z s).bind fun _ s1=>.ok (.nx Z) s1:=id rfl
@[simp] theorem xZ:xV f Z s=(f Z s).bind fun d s1=>.ok (.rt d) s1:=id rfl
@[simp] theorem z5M:fIf ft fs fs' Z s=(ft Z s).bind fun x s1=>if x=true then fs Z s1 else fs' Z s1:=id rfl
@[simp] theorem yJ:xl i f Z s=(f Z s).bind fun d s1=>.ok (.nx (Z.set i (some d))) s1:=id rfl
@[simp] theorem zcn:zcv f fg Z s=(f Z s).bind fun d s1=>(fg d Z s1).bind fun Z' s2=>.ok (.nx Z') s2:=id rfl
@[simp] theorem ziw:zjC i j ar Z s=(ar Z s).bind fun ds s1=>match ds with | [x,y]=>.ok (.nx ((Z.set i (some x)).set j (some y))) s1 | _=>.no:=id rfl
@[simp] theorem z54:xw i d Z s=.ok (Z.set i (some d)) s:=id rfl
@[simp] theorem zcy:xO i j (.tup [x,y]) Z s=.ok ((Z.set i (some x)).set j (some y)) s:=id rfl
@[simp] theorem zdV:z3m fa fb fc Z s=(fc Z s).bind fun d s1=>(fa Z s1).bind fun o s2=>(fb Z s2).bind fun i s3=>match o,i with
 | .loc l,.int k=>match s3[l]? with
  | some xs=>match ixN xs.length k with
   | some j=>if d.flat=true then .ok (.nx Z) (s3.set l (xs.set j d)) else .no | none=>.no
  | none=>.no
 | _,_=>.no:=id rfl
@[simp] theorem z5C:zW f Z s=(f Z s).bind fun d s1=>match d with
 | .tup xs=>.ok (xs,[]) s1 | .lst xs=>.ok (xs,[]) s1 | .loc l=>match s1[l]? with | some xs=>.ok (xs,[(l,xs)]) s1 | none=>.no
 | _=>.no:=id rfl
@[simp] theorem zcb:z07 ar Z s=(ar Z s).bind fun ds s1=>match ds with
 | [.int j]=>if -(2 ^ 62)<=j/\j<2 ^ 62 then .ok (xB j.toNat,[]) s1 else .no | _=>.no:=id rfl
@[simp] theorem z8W:z5D ar Z s=(ar Z s).bind fun ds s1=>match ds with
 | [.int i,.int j]=>if -(2 ^ 62)<=i/\i<2 ^ 62/\-(2 ^ 62)<=j/\j<2 ^ 62 then .ok (jr i (j-i).toNat,[]) s1 else .no | _=>.no:=id rfl
@[simp] theorem zf4:zag ar Z s=(ar Z s).bind fun ds s1=>match ds with
 | [x,y]=>match z3R s1 x,z3R s1 y with
  | some p,some q=>.ok (z2h p.1 q.1,p.2++q.2) s1 | _,_=>.no
 | _=>.no:=id rfl
@[simp] theorem kb:z5k fi fg fs Z s=(fi Z s).bind fun it s1=>wq it.2 it.1 (fun d Z s=>(fg d Z s).bind fun Z' s'=>fs Z' s') it.1 Z s1:=id rfl
@[simp] theorem z3G:z5m fi mp fg ft f Z s=(fi Z s).bind fun it s1=>vw it.2 it.1 (fun d s=>(fg d (yh mp Z) s).bind fun Z' s'=>(ft Z' s').bind fun b s2=>if b=true then (f Z' s2).bind fun d s3=>.ok (some d) s3 else .ok none s2) it.1 [] s1:=id rfl
@[simp] theorem z3I:zA fi mp fg ft f Z s=(z5m fi mp fg ft f Z s).bind fun xs s1=>.ok (.lst xs) s1:=id rfl
@[simp] theorem zam:kN fi mp fg ft f Z s=(z5m fi mp fg ft f Z s).bind fun xs s1=>if D.flat.flats xs=true then .ok (.loc s1.length) (s1++[xs]) else .no:=id rfl
@[simp] theorem zi5:wU Z s=.ok true s:=id rfl
@[simp] theorem zcs:zc5 fa fb Z s=(fa Z s).bind fun o s1=>match o with
 | .loc l=>(fb Z s1).bind fun d s2=>match s2[l]? with
  | some xs=>if d.flat=true/\xs.length<cap then .ok .non (s2.set l (xs++[d])) else .no | none=>.no
 | _=>.no:=id rfl
@[simp] theorem zbP:yh [] Z=[]:=id rfl
@[simp] theorem zeh:yh (some i::mp) Z=(Z[i]?).getD none::yh mp Z:=id rfl
@[simp] theorem zej:yh (none::mp) Z=none::yh mp Z:=id rfl
variable (a b:Int)(u v:Bool)(xs ys:List D)
@[simp] theorem z4l:qQ (.int a) (.int b) s=.ok (.int (a+b)) s:=rfl
@[simp] theorem z4p:qQ (.tup xs) (.tup ys) s=if xs.length+ys.length<=cap then .ok (.tup (xs++ys)) s else .no:=rfl
@[simp] theorem zfc:qQ (.lst xs) (.lst ys) s=if xs.length+ys.length<=cap then .ok (.lst (xs++ys)) s else .no:=rfl
@[simp] theorem zew:zcI (.int a) (.int b) s=.ok (.int (a-b)) s:=rfl
theorem zbN:ud (.int a) (.int b) s=if a.natAbs<BIG/\b.natAbs<BIG then .ok (.int (a*b)) s else .no:=by
 simp only [ud,dII,iOk];split<;>(rename_i h;split at h<;>simp_all)
theorem z5V:z0c (.int a) (.int b) s=if 0<b/\b.natAbs<BIG then .ok (.int (a / b)) s else .no:=by
 simp only [z0c,dII,iOk];split<;>(rename_i h;split at h<;>simp_all)
theorem zbM:z6W (.int a) (.int b) s=if 0<b then .ok (.int (a % b)) s else .no:=by
 simp only [z6W,dII,iOk];split<;>(rename_i h;split at h<;>simp_all)
theorem zfO:zek (.int a) (.int b) s=if 0<=b/\b<=1000/\a.natAbs<1000 then .ok (.int (a ^ b.toNat)) s else .no:=by
 simp only [zek,dII,iOk];split<;>(rename_i h;split at h<;>simp_all)
@[simp] theorem zhj:dLt (.int a) (.int b) s=.ok (.bl (decide (a<b))) s:=rfl
@[simp] theorem zjl:dLe (.int a) (.int b) s=.ok (.bl (decide (a<=b))) s:=rfl
@[simp] theorem zcK:dGt (.int a) (.int b) s=.ok (.bl (decide (b<a))) s:=rfl
@[simp] theorem zjf:dGe (.int a) (.int b) s=.ok (.bl (decide (b<=a))) s:=rfl
@[simp] theorem z5P:dEq (.int a) (.int b) s=.ok (.bl (decide (a=b))) s:=by
 have:eqD (.int a) (.int b)=decide (a=b):=by
  simp only [eqD,wd,PyData.eqv];rw [Bool.eq_iff_iff];simp
 rw [dEq,this];rfl
@[simp] theorem zd7:dNe (.int a) (.int b) s=.ok (.bl (decide (a≠b))) s:=by
 have:eqD (.int a) (.int b)=decide (a=b):=by
  simp only [eqD,wd,PyData.eqv];rw [Bool.eq_iff_iff];simp
 rw [dNe,this,if_pos (by constructor<;>rfl)];simp
@[simp] theorem zhH:dEq (.bl u) (.bl v) s=.ok (.bl (u==v)) s:=by cases u<;>cases v<;>rfl
@[simp] theorem zjg:dNe (.bl u) (.bl v) s=.ok (.bl (u != v)) s:=by cases u<;>cases v<;>rfl
end
theorem zm{f g:FS}{Z Z':Ev}{s s':Sto}(h:f Z s=.ok (.nx Z') s'):zC f g Z s=g Z' s':=by simp [h]
theorem z2q{f g:FS}{Z:Ev}{s s':Sto}{d:D}(h:f Z s=.ok (.rt d) s'):zC f g Z s=.ok (.rt d) s':=by simp [h]
theorem qR{all:List D}{body:D->Ev->Sto->R Fl}(I:Nat->Ev->Sto->Prop):∀ (xs:List D)(k:Nat),(∀ j x,xs[j]? = some x->∀ Z s,I (k+j) Z s->∃ Z' s',body x Z s=.ok (.nx Z') s'/\I (k+j+1) Z' s')-> ∀ Z s,I k Z s->∃ Z' s',wq [] all body xs Z s=.ok (.nx Z') s'/\I (k+xs.length) Z' s'
 | [],k,_,Z,s,h=>⟨Z,s,by simp [wq,okG],h⟩ | x::xs,k,hb,Z,s,h=>by
  obtain ⟨Z1,s1,e1,h1⟩:=hb 0 x (by simp) Z s h;obtain ⟨Z2,s2,e2,h2⟩:=qR (all:=all) I xs (k+1) (fun j y hy Z s hi=>by
   have e:k+1+j=k+(j+1):=by omega
   rw [e] at hi ⊢;exact hb (j+1) y (by simpa using hy) Z s hi) Z1 s1 h1;refine ⟨Z2,s2,by simp [wq,okG,e1,e2],?_⟩;have e:k+(x::xs).length=k+1+xs.length:=by simp;omega
  rw [e];exact h2
theorem z4Z{n j:Nat}{x:D}(h:(xB n)[j]? = some x):j<n/\x=.int j:=by
 have hj:j<n:=by
  have:=(List.getElem?_eq_some_iff.mp h).1;simpa [xB] using this
 refine ⟨hj,?_⟩;simp only [xB,List.getElem?_map,List.getElem?_range hj,Option.map_some,Option.some.injEq] at h;exact h.symm
theorem z7S {n:Nat} {x:D} (h:x∈xB n):∃ j:Nat,j<n/\x=.int j:=by
 obtain ⟨j,hj,e⟩:=List.mem_iff_getElem.mp h;have:=z4Z (n:=n) (j:=j) (x:=x) (by rw [List.getElem?_eq_getElem hj,e]);exact ⟨j,this.1,this.2⟩
theorem xq:∀ (ns:List Int),D.flat.flats (ns.map D.int)=true
 | []=>rfl | n::ns=>by simp [D.flat.flats,D.flat,xq ns]
theorem z0n(i:Int):(D.int i).flat=true:=rfl
theorem uo.flatten{mg:Gm}{H H':Hp}{Y Y':List Addr}{ys:List D}{c:Addr}(k:∀ b o,H b=some o->(∀ vs,o≠.lst vs)->(∀ kvs,o≠.dT kvs)->H' b=some o)(f:D.flat.flats ys=true)(e:H' c=H c)(h:uo mg H Y ys c):uo mg H' Y' ys c:=by
 rcases h with ⟨vs,h1,h2⟩ | ⟨kvs,h1,h2⟩ | ⟨o,kvs,ys,h1,h2⟩;·exact .inl ⟨vs,e.trans h1,h2.flatten k f⟩
 ·exact .inr (.inl ⟨kvs,e.trans h1,h2⟩)
 ·exact .inr (.inr ⟨o,kvs,ys,e.trans h1,h2⟩)
section
variable {X:Cx}{E:XK}{e:Expr}
def zj7(f:FE):FE:=fun Z s=>match f Z s with
 | .ok (.loc l) s1=>match s1[l]? with
  | some xs=>if s.length<=l/\l+1=s1.length then .ok (.lst xs) (s1.take l) else .no | none=>.no
 | .ok _ _=>.no | .ex c s1=>.ex c s1 | .no=>.no
end
@[simp] theorem ziP (f:FE)(Z:Ev)(s:Sto):zj7 f Z s=(match f Z s with
 | .ok (.loc l) s1=>match s1[l]? with
  | some xs=>if s.length<=l/\l+1=s1.length then .ok (.lst xs) (s1.take l) else .no | none=>.no
 | .ok _ _=>.no | .ex c s1=>.ex c s1 | .no=>.no):=id rfl
end Dd
namespace Zz
open PySem.AutoSeq1 (wpAny_loadPart')
section
variable {P:Program}{w:World}{A:Around}{E:Value->Shared->Prop}{s:Shared}
theorem zdY {e it l:Addr} {b:Bool} {k:Nat} {xs:Array Value} {x old:Value} {Q:Option Value->Shared->Prop} (he:IsEnum s.heap e it k old) (h1:Sit b s.heap it l k) (c1:Sco b s.heap l xs) (ex:xs[k]? = some x) (ne:e≠it) (q:∀ h',IsEnumOut h' e it ((k:Int)+1) x s.heap.objs.size->Sit b h' it l (k+1)->h'.get? s.heap.objs.size=some {cls:=.type "tuple",data:=.seq #[.int k s.toks,x]}-> (∀ c o,c≠e->c≠it->s.heap.get? c=some o->h'.get? c=some o)->Q (some (.ref s.heap.objs.size)) {s with heap:=h',toks:=s.toks+1}):wpAny (model P w) A (pyNext (.ref e)) Q E s:=by
 have hT:s.TypeIs (.ref e) "enumerate":=⟨_,he,rfl⟩;unfold pyNext;refine wpAny_bind (wpAny_attempt (wpAny_callSpecial?_slot (name:=Str.ofString "__next__") hT F.slot_enumerate_next (wpAny_call_entry F.slot_enumerate_next hT F.entry_enumerate_next (Q:=fun v s'=>wpAny (model P w) A (pure (some v)) Q E s') ?_ (F.args_enumerate_next_1 _))));obtain ⟨hp,g,d,tk,os⟩:=s;show wpAny _ _ (field (.ref e) 2 >>= _) _ _ _;refine wpAny_bind (wpAny_field he rfl (x:=.ref it) rfl ?_);refine wpAny_bind (nx h1 c1 ex fun g1 t1 s1=>?_);replace s1:Heap.SameBut it hp g1:=s1;have e1:IsEnum g1 e it k old:=(s1.2 e ne).trans he;show wpAny _ _ (field (.ref e) 3 >>= _) _ _ ⟨g1,g,d,tk,os⟩;refine wpAny_bind (wpAny_field e1 rfl (x:=rawInt k) rfl ?_);show wpAny _ _ (field (.ref e) 4 >>= _) _ _ ⟨g1,g,d,tk,os⟩;refine wpAny_bind (wpAny_field e1 rfl (x:=.none) rfl ?_);show wpAny _ _ (mkInt k >>= _) _ _ ⟨g1,g,d,tk,os⟩;refine wpAny_bind (wpAny_mkInt ?_);show wpAny _ _ (setField (.ref e) 3 (rawInt ((k:Int)+1)) >>= _) _ _ ⟨g1,g,d,tk+1,os⟩;refine wpAny_bind (wpAny_setField_rec e1 (by simp) fun g2 e2 s2=>?_);replace s2:Heap.SameBut e g1 g2:=s2;replace e2:IsEnum g2 e it ((k:Int)+1) old:=e2;show wpAny _ _ (setField (.ref e) 4 .none >>= _) _ _ ⟨g2,g,d,tk+1,os⟩;refine wpAny_bind (wpAny_setField_rec e2 (by simp) fun g3 e3 s3=>?_);replace s3:Heap.SameBut e g2 g3:=s3;replace e3:IsEnum g3 e it ((k:Int)+1) old:=e3;show wpAny _ _ (newTuple [.int k tk,x] >>= _) _ _ ⟨g3,g,d,tk+1,os⟩;refine wpAny_bind (wpAny_newTuple ?_);have e4:IsEnum (g3.push {cls:=.type "tuple",data:=.seq #[.int k tk,x]}) e it ((k:Int)+1) old:=Heap.get?_push_of_some _ e3;generalize hg4:g3.push {cls:=.type "tuple",data:=.seq #[.int k tk,x]}=g4 at e4;have sz:g3.objs.size=hp.objs.size:=by rw [s3.1,s2.1,s1.1]
 have el:e<hp.objs.size:=Heap.lt_size he;have t4:g4.get? hp.objs.size=some {cls:=.type "tuple",data:=.seq #[.int k tk,x]}:=by rw [<- hg4,<- sz];exact Heap.get?_push_size _ rfl
 have k4:∀ c o,c≠e->c≠it->hp.get? c=some o->g4.get? c=some o:=fun c o n1 n2 z=>by rw [<- hg4];exact Heap.get?_push_of_some _ (zn s3 n1 (zn s2 n1 (zn s1 n2 z)))
 have i4:Sit b g4 it l (k+1):=t1.to fun o z=>by rw [<- hg4];exact Heap.get?_push_of_some _ (zn s3 ne.symm (zn s2 ne.symm z))
 show wpAny _ _ (Builtin.SmallTypes.ownedTupleIsFree (.ref e) >>= _) _ _ ⟨g4,g,d,tk+1,os⟩;rw [sz];refine wpAny_bind ?_;unfold Builtin.SmallTypes.ownedTupleIsFree;refine wpAny_bind (wpAny_field e4 rfl (x:=.none) rfl (wpAny_pure ?_));simp only [if_true];refine wpAny_bind (wpAny_rule ?_);refine wpAny_bind (wpAny_field e4 rfl (x:=old) rfl ?_);refine wpAny_bind (wpAny_setField_rec e4 (by simp) fun g5 e5 s5=>?_);replace s5:Heap.SameBut e g4 g5:=s5;replace e5:IsEnum g5 e it ((k:Int)+1) x:=e5;show wpAny _ _ (Builtin.SmallTypes.ownedTupleHandOut (.ref e) (.ref hp.objs.size) >>= _) _ _ ⟨g5,g,d,tk+1,os⟩;refine wpAny_bind ?_;unfold Builtin.SmallTypes.ownedTupleHandOut;refine wpAny_bind (wpAny_setField_rec e5 (by simp) fun g6 e6 s6=>?_);replace s6:Heap.SameBut e g5 g6:=s6;replace e6:IsEnumOut g6 e it ((k:Int)+1) x hp.objs.size:=e6;refine wpAny_setField_rec e6 (by simp) fun g7 e7 s7=>?_;replace s7:Heap.SameBut e g6 g7:=s7;replace e7:IsEnumOut g7 e it ((k:Int)+1) x hp.objs.size:=e7;have up:∀ c o,c≠e->g4.get? c=some o->g7.get? c=some o:=fun c o n z=>zn s7 n (zn s6 n (zn s5 n z));refine wpAny_bind (wpAny_letGo (wpAny_pure ⟨_,rfl,wpAny_pure (q g7 e7 (i4.to fun o z=>up _ o ne.symm z) (up _ _ (Nat.ne_of_gt el) t4) fun c o n1 n2 z=>up c o n1 (k4 c o n1 n2 z))⟩))
theorem zgp {e it l:Addr} {b:Bool} {k:Nat} {xs:Array Value} {old:Value} {Q:Option Value->Shared->Prop} (hh:A.handled=none) (he:IsEnum s.heap e it k old) (h1:Sit b s.heap it l k) (c1:Sco b s.heap l xs) (ex:xs[k]? = none) (q:∀ h',Heap.ExtBut it s.heap h'->Q none {s with heap:=h'}):wpAny (model P w) A (pyNext (.ref e)) Q E s:=by
 have hT:s.TypeIs (.ref e) "enumerate":=⟨_,he,rfl⟩;unfold pyNext;refine wpAny_bind (wpAny_attempt (wpAny_callSpecial?_slot (name:=Str.ofString "__next__") hT F.slot_enumerate_next (wpAny_call_entry F.slot_enumerate_next hT F.entry_enumerate_next ?_ (F.args_enumerate_next_1 _))));show wpAny _ _ (field (.ref e) 2 >>= _) _ _ _;refine wpAny_bind (wpAny_field he rfl (x:=.ref it) rfl ?_);refine wpAny_bind (z8z hh h1 c1 ex fun h' x he' hx'=>?_);obtain ⟨o,ho,hc⟩:=hx';refine wpAny_bind (wpAny_isInstance (T:="StopIteration") (b:=true) ⟨o,ho,hc⟩ isSubtype_stop ?_);exact wpAny_pure (q _ he')
end
theorem zbD(b:Bool)(l:Addr)(xs:Array Value): Meets (Builtin.«enumerate.__new__» ⟨[.type "enumerate",.ref l],[]⟩) (fun _ R s=>Sco b s.heap l xs/\R (.ok (.ret (.ref (s.heap.push (itO b l)).objs.size))) {s with heap:=(s.heap.push (itO b l)).push {cls:=.type "enumerate",data:=.fields #[.none,.bool false,.ref s.heap.objs.size,rawInt 0,.none,.none]}}):= .of_wp fun prog w A R s h=>by
  obtain ⟨hp,g,d,tk,os⟩:=s;obtain ⟨c1,h⟩:=h;have hsub:=sub_enumerate;have q1:Sco b (Shared.heap ⟨hp,g,d,tk,os⟩) l xs:=c1;obtain ⟨o,hl⟩:∃ o,hp.get? l=some o:=by cases b with
   | true=>obtain ⟨o,e,_⟩:=c1;exact ⟨o,e⟩ | false=>obtain ⟨o,e,_⟩:=c1;exact ⟨o,e⟩
  wp_walk using wpAny_loadPart' hl;refine wpAny_stack_any fun st=>wpAny_pure ?_;split
  ·rename_i c _ _ _ _ _;cases (c==Value.type "enumerate")
   ·wp_walk using wpAny_loadPart' hl,z2d q1;exact ⟨_,rfl,h⟩
   ·wp_walk using wpAny_loadPart' hl,z2d q1;exact ⟨_,rfl,h⟩
  ·wp_walk using wpAny_loadPart' hl,z2d q1;exact ⟨_,rfl,h⟩
section
variable {P:Program}{w:World}{A:Around}{E:Value->Shared->Prop}{s:Shared}
theorem zdw {b:Bool} {l:Addr} {xs:Array Value} {Q:Value->Shared->Prop} (c1:Sco b s.heap l xs) (h:∀ h',IsEnum h' (s.heap.objs.size+1) s.heap.objs.size 0 .none->Sit b h' s.heap.objs.size l 0->(∀ c o,s.heap.get? c=some o->h'.get? c=some o)->Q (.ref (s.heap.objs.size+1)) {s with heap:=h'}): wpAny (model P w) A (call (.type "enumerate") [.ref l]) Q E s:=by
 refine callType_new F.called_enumerate (by decide) (F.typeCall_enumerate_1 _) (F.newCall_enumerate_1 _) (fun obj=>F.args_object_init_2 obj _) F.entry_enumerate_new (zbD b l xs) ⟨c1,?_⟩;have z1:(s.heap.push (itO b l)).objs.size=s.heap.objs.size+1:=Heap.size_push ..;have g2:=Heap.get?_push_size (s.heap.push (itO b l)) (o:={cls:=.type "enumerate",data:=.fields #[.none,.bool false,.ref s.heap.objs.size,rawInt 0,.none,.none]}) rfl;have g1:((s.heap.push (itO b l)).push {cls:=.type "enumerate",data:=.fields #[.none,.bool false,.ref s.heap.objs.size,rawInt 0,.none,.none]}).get? s.heap.objs.size=some (itO b l):=Heap.get?_push_of_some _ (Heap.get?_push_size _ (z0s b l));show _/\_;rw [z1] at g2;rw [z1];exact ⟨⟨_,g2,rfl⟩,h _ g2 (z4i g1) fun c o e=>Heap.get?_push_of_some _ (Heap.get?_push_of_some _ e)⟩
end
end Zz
namespace L2
open PySem.Spec Zz
def Ite(K:W.Frag)(b:Bool)(l:Addr):It:= ⟨fun i H=>∃ xs x,Sq b K H l xs/\xs[i]? = some x, fun i H v H'=>∃ T x,H T=none/\v=.ref T/\H'=upd H T (.tup [.int i,x])/\∀ xs,Sq b K H l xs->xs[i]? = some x, fun i H=>∃ xs,Sq b K H l xs/\xs.length<=i⟩
theorem z9s {P:Program} {w:World} {K:W.Frag} {elts:List Expr} {kt:Nat} {tp:Pos} {b:Bool} {e it l:Addr} (ne:e≠it): zaP P w K (.Tuple elts kt tp) (Ite K b l) [e,it] e (fun i h=>(∃ old,IsEnum h e it ((i:Nat):Int) old)/\Sit b h it l i) where
 mem:=by simp
 obj:=fun i h ⟨⟨old,he⟩,h1⟩ c hc=>by
  have hc':c=e\/c=it:=by simpa using hc
  rcases hc' with rfl | rfl;·exact ⟨_,he,fun v z=>by simp at z⟩
  ·exact h1.ob
 keep:=fun i h h' ⟨⟨old,he⟩,h1⟩ k=>⟨⟨old,k e (by simp) _ he⟩,h1.to fun o z=>k it (by simp) o z⟩;item:=by
  intro X hP hw hK hc i pins s O H E I hf ⟨⟨old,he⟩,h1⟩ ⟨xs,x,qx,ex⟩;subst hP hw hK;obtain ⟨ix,rx,cx⟩:=I.sq qx;obtain ⟨u,hu,ru⟩:=rx.get ex;refine zdY he h1 cx (x:=u) (by simpa using hu) ne fun g a1 a2 a3 hk=>⟨_,rfl,?_⟩;have I1:Inv X pins O H {s with heap:=g,toks:=s.toks+1}:=I.turnedL (t':=s.toks+1) (ch:=[e,it]) (fun c o n z=>hk c o (fun t=>n (by simp [t])) (fun t=>n (by simp [t])) z) hf;refine wpAny_letOwnedTupleGo_enum a1 fun g2 e2 s2=>?_;obtain ⟨f0,f1,f2,f3,f4,f5⟩:=hf e (by simp);have I2:Inv X pins O H {s with heap:=g2,toks:=s.toks+1}:=I1.turned (t':=s.toks+1) (fun c o n z=>zn s2 n z) f0 f1 f3 f4 f5;have new:z1W X pins H s.heap.objs.size:=I.fpOk (Nat.le_refl _) (I.hok.fresh (Nat.le_refl _));have el:e≠s.heap.objs.size:=Nat.ne_of_lt (Heap.lt_size he);have p2:g2.get? s.heap.objs.size=some {cls:=.type "tuple",data:=.seq #[.int i s.toks,u]}:=zn s2 el.symm a3;refine ⟨.ref s.heap.objs.size,upd H s.heap.objs.size (.tup [.int i,x]),I2.track new ⟨?_,[.int i s.toks,u],.cons ⟨_,rfl⟩ (.cons ru .nil),⟨_,p2,rfl,rfl,_,rfl⟩⟩,rfl,⟨_,x,new.1,rfl,rfl,fun zs qz=>?_⟩,⟨⟨_,by simpa using e2⟩,a2.to fun o z=>zn s2 ne.symm z⟩,fun c hc=>?_⟩;·show 2<=sizeLine;decide
  ·rw [I.sq_inj qz qx];exact ex
  ·have hc':c=e\/c=it:=by simpa using hc
   have:c≠s.heap.objs.size:=by
    rcases hc' with rfl | rfl;·exact el
    ·exact Nat.ne_of_lt h1.lt
   rw [zw this];exact (hf c hc).1
 done:=by
  intro X hP hw hK hc i pins s O H E I hf ⟨⟨old,he⟩,h1⟩ ⟨xs,qx,hl⟩;subst hP hw hK;obtain ⟨ix,rx,cx⟩:=I.sq qx;have lx:=rx.length;obtain ⟨f0,f1,f2,f3,f4,f5⟩:=hf it (by simp);exact zgp (I.ok.hd hc) he h1 cx (by simp;omega) fun g hk=>⟨rfl,I.turned (t':=s.toks) (fun c o n z=>hk c o n z) f0 f1 f3 f4 f5⟩
 self:=fun _ _ _ _ _ ⟨⟨_,he⟩,_⟩ h=>wpAny_pyIter_enum he h
theorem zdd{X:Cx}{elts:List Expr}{kt:Nat}{tp:Pos}{a:Expr}{ta:TA}{p pos:Pos}(hg:Gl X "enumerate")(hm:X.mg "enumerate"=none)(ha:PA X [a] ta)(hs:starEach [a] X.env=(false,eval a X.env)::starEach [] X.env:=by rfl)(hpl:(backTo pos (starEach [] X.env)).any (·.1)=false:=by rfl): PI X (.Tuple elts kt tp) (.Call (.Name "enumerate" p) [a] [] pos) (fun O H R=>ta O H fun vs H1=>∃ l b,vs=[.ref l]/\(∃ xs,Sq b X.K H1 l xs)/\R (Ite X.K b l) H1):=by
 intro pins s O H R I h;refine wpAny_Call_Name_kw (jX I hg hm (u:=.type "enumerate") (by decide +kernel) ?_ (by decide) (by decide));refine PyProof.Rows.callWith_type1 (thn (ha pos pins s O H _ I h) fun us s1 ⟨vs,H1,I1,r1,q1⟩=>?_) hs hpl;obtain ⟨l,b,rfl,⟨xs,qx⟩,q⟩:=q1;obtain ⟨u,rfl,ru⟩:=vals1 r1;cases ru;obtain ⟨ix,rx,cx⟩:=I1.sq qx;refine zdw cx fun g he h1 hk=>?_;refine wpAny_pyIter_enum he ?_;refine ⟨_,_,_,_,H1,rfl,I1.kept (t':=s1.toks) hk,z9s (Nat.succ_ne_self _),⟨⟨_,he⟩,h1⟩,fun c hc=>?_,q⟩;have hc':s1.heap.objs.size<=c:=by
  have:c=s1.heap.objs.size+1\/c=s1.heap.objs.size:=by simpa using hc
  rcases this with rfl | rfl;·exact Nat.le_succ _
  ·exact Nat.le_refl _
 exact I1.fpOk hc' (I1.hok.fresh hc')
end L2
namespace L2
open PySem.Spec
end L2
namespace Dd
open PySem.Spec L2
section
variable {X:Cx}{E:XK}{e a b c tg iter elt:Expr}{es:List Expr}{pos:Pos}{CX:CXT}
def zhJ(i j k:Nat)(f:FA):FS:=fun Z s=>(f Z s).bind fun ds s1=>match ds with | [x,y,z]=>.ok (.nx (((Z.set i (some x)).set j (some y)).set k (some z))) s1 | _=>.no
def z0y:Nat->List D->List D
 | _,[]=>[] | i,x::xs=>.tup [.int i,x]::z0y (i+1) xs
theorem kS:∀ (i:Nat)(xs:List D),(z0y i xs).length=xs.length
 | _,[]=>rfl | i,x::xs=>by simp [z0y,kS (i+1) xs]
theorem z71:∀ {i k:Nat}{xs:List D}{d:D},(z0y i xs)[k]? = some d->∃ x,xs[k]? = some x/\d=.tup [.int ((i+k:Nat):Int),x]
 | _,_,[],_,h=>by simp [z0y] at h | i,0,x::xs,d,h=>by simp [z0y] at h;exact ⟨x,by simp,by simp [h]⟩ | i,k+1,x::xs,d,h=>by
  simp only [z0y,List.getElem?_cons_succ] at h;obtain ⟨y,h1,h2⟩:=z71 h;refine ⟨y,by simpa using h1,?_⟩;rw [h2,show i+1+k=i+(k+1) by omega]
def z2K(f:FA):FI:=fun Z s=>(f Z s).bind fun ds s1=>match ds with
 | [x]=>match z3R s1 x with
  | some p=>.ok (z0y 0 p.1,p.2) s1 | none=>.no
 | _=>.no
theorem zga{p tp:Pos}{elts:List Expr}{kt:Nat}{f:FA}(hg:Gl X "enumerate")(hm:X.mg "enumerate"=none)(ha:RA X E [a] f)(hs:starEach [a] X.env=(false,eval a X.env)::starEach [] X.env:=by rfl)(hpl:(backTo pos (starEach [] X.env)).any (·.1)=false:=by rfl): RI X E (.Tuple elts kt tp) (.Call (.Name "enumerate" p) [a] [] pos) (z2K f):= z26 (zdd hg hm ha hs hpl) fun O H Q ⟨Y,Z,s,r,en,h⟩=>by
  unfold z2K at h;refine ⟨Y,Z,s,r,en,(okR.bind (Dn:=zr (gm X)) h).imp fun vs H1 ⟨Y1,s1,ds,stp,dn,h1⟩=>?_⟩;split at h1
  ·rename_i x;split at h1
   ·rename_i p ex;obtain ⟨xs,gx⟩:=p;obtain ⟨v,rfl,d1⟩:=z0a dn;obtain ⟨og1,b1,a1,rfl,k1⟩:=z5S stp.rep ex d1;obtain ⟨w1,q1,_⟩:=k1 H1 Y1 s1 (.refl stp.rep) og1;refine ⟨a1,b1,rfl,⟨w1,q1⟩,h1.here stp.rep fun H2 Y2 s2 stp2 og i=>⟨fun d hd=>?_,fun hl=>?_⟩⟩
    ·obtain ⟨x,e1,rfl⟩:=z71 hd;obtain ⟨w1,q1,n1⟩:=k1 H2 Y2 s2 stp2 og;obtain ⟨u1,g1,m1⟩:=n1.get e1;refine ⟨⟨w1,u1,q1,g1⟩,fun z H' ⟨T,p,hT,ez,eH,hp⟩=>?_⟩;subst ez eH;have e3:=hp w1 q1;rw [g1] at e3;cases e3;have st3:=xS.lay (o:=.tup [.int i,u1]) stp2.rep hT (by intro _ z;cases z);refine ⟨Y2,st3,?_⟩;simp only [Den,Nat.zero_add];exact ⟨T,[.int i,u1],rfl,zK,(zr.cons yf (zr.one m1)).mono st3⟩
    ·obtain ⟨w1,q1,n1⟩:=k1 H2 Y2 s2 stp2 og;refine ⟨w1,q1,?_⟩;rw [n1.length];simpa only [kS] using hl
   ·exact h1.elim
  ·exact h1.elim
end
section
variable (i j k:Nat)(Z:Ev)(s:Sto)(ar:FA)
@[simp] theorem zhp:zhJ i j k ar Z s=(ar Z s).bind fun ds s1=>match ds with | [x,y,z]=>.ok (.nx (((Z.set i (some x)).set j (some y)).set k (some z))) s1 | _=>.no:=id rfl
@[simp] theorem zi1:z2K ar Z s=(ar Z s).bind fun ds s1=>match ds with
 | [x]=>match z3R s1 x with
  | some p=>.ok (z0y 0 p.1,p.2) s1 | none=>.no
 | _=>.no:=id rfl
end
end Dd
namespace L2
open PySem.Spec
def zc1(n:Nat):List V:=(List.range n).map fun k=>V.int ((k:Nat):Int)
theorem z0G:∀ {xs:List V}{us:List Value},us.length=xs.length->(∀ (j:Nat) u,us[j]? = some u->∃ x,xs[j]? = some x/\yB x u)->xb xs us
 | [],[],_,_=>.nil | [],_::_,h,_=>by simp at h | _::_,[],h,_=>by simp at h | x::xs,u::us,h,k=>by
  obtain ⟨y,e,r⟩:=k 0 u (by simp);have:y=x:=by simpa using e.symm
  subst this;exact .cons r (z0G (by simpa using h) fun j v hv=>k (j+1) v (by simpa using hv))
theorem z4W {X:Cx} {a:Expr} {ta:TA} {p p2 pos pos2:Pos} (hc:X.calm=true) (hg:Gl X "list") (hm:X.mg "list"=none) (hg2:Gl X "range") (hm2:X.mg "range"=none) (ha:PA X [a] ta) (hs2:starEach [a] X.env=[(false,eval a X.env)]:=by rfl) (hs:starEach [.Call (.Name "range" p2) [a] [] pos2] X.env=(false,eval (.Call (.Name "range" p2) [a] [] pos2) X.env)::starEach [] X.env:=by rfl) (hpl:(backTo pos (starEach [] X.env)).any (·.1)=false:=by rfl): PE X (.Call (.Name "list" p) [.Call (.Name "range" p2) [a] [] pos2] [] pos) (fun O H Q=>ta O H fun vs H1=>∃ j:Int,vs=[.int j]/\0<=j/\j<=1000/\∀ l,H1 l=none->Q (.ref l) (upd H1 l (.lst (zc1 j.toNat)))):=by
 intro pins s O H Q I h;refine wpAny_Call_Name_kw (jX I hg hm (u:=.type "list") (by decide +kernel) ?_ (by decide) (by decide));refine PyProof.Rows.callWith_type1 ?_ hs hpl;rw [hs];show wpAny _ _ (spliced ((false,eval (.Call (.Name "range" p2) [a] [] pos2) X.env)::backTo pos (starEach [] X.env))) _ _ s;refine Calls.spliced_cons (wpAny_Call_Name_kw (jX I hg2 hm2 boot_range (PyProof.Rows.callWith_type1 (thn (ha pos2 pins s O H _ I h) fun us s1 ⟨vs,H1,I1,r1,q1⟩=>?_) hs2 rfl) (by decide) (by decide)));obtain ⟨j,e,q0,q2,q⟩:=q1;subst e;obtain ⟨u,rfl,⟨t,rfl⟩⟩:=vals1 r1;refine call_range_1 (Calls.spliced_nil ?_);have hsz:Builtin.Range.rangeSize 0 j 1=((j.toNat:Nat):Int):=by rw [rangeSize_one];split<;>omega
 refine call_list_range (I.ok.hd hc) (IsRange.new ..) (small_one (by omega) (by omega) (by omega) (by omega)) hsz (by omega) fun h' tk acc c' hk hS hacc=>?_;have I2:Inv X pins O H1 {s1 with heap:=s1.heap.push {cls:=.type "range",data:=.fields #[.int 0 s1.toks,.int j t,.int 1 (s1.toks+1)]},toks:=s1.toks+1+1}:=I1.kept fun b o e=>Heap.get?_push_of_some _ e;have hl:(zc1 j.toNat).length=j.toNat:=by simp [zc1]
 have hv:xb (zc1 j.toNat) acc.toList:=z0G (by simp [hacc.1,hl]) fun i v hv=>by
  obtain ⟨tk2,rfl⟩:=hacc.2 i v (by simpa using hv);have hi:i<j.toNat:=by
   have:=(List.getElem?_eq_some_iff.mp hv).1;simp [hacc.1] at this;omega
  exact ⟨.int i,by simp [zc1,hi],⟨tk2,by simp⟩⟩
 refine ⟨.ref _,upd H1 _ (.lst (zc1 j.toNat)),I2.laid (t':=tk) hk (Nat.le_refl _) ?_,rfl,q _ (I2.hok.fresh (Nat.le_refl _))⟩;exact ⟨by rw [hl];exact Nat.le_trans (show j.toNat<=1000 by omega) (by decide),acc.toList,c',hv,by simpa using hS⟩
end L2
namespace Dd
open PySem.Spec L2
section
variable {X:Cx}{E:XK}{a:Expr}{pos:Pos}
theorem zaY{mg:Gm}{H:Hp}{Y:List Addr}(n:Nat):zr mg H Y (xB n) (zc1 n):=by
 unfold xB zc1;induction (List.range n) with
 | nil=>exact zr.nil | cons k ks ih=>exact zr.cons yf ih
def eLR(f:FA):FE:=fun Z s=>(f Z s).bind fun ds s1=>match ds with
 | [.int j]=>if 0<=j/\j<=1000 then .ok (.lst (xB j.toNat)) s1 else .no | _=>.no
theorem z63{p p2 pos2:Pos}{f:FA}(hc:X.calm=true)(hg:Gl X "list")(hm:X.mg "list"=none)(hg2:Gl X "range")(hm2:X.mg "range"=none)(ha:RA X E [a] f) (hs2:starEach [a] X.env=[(false,eval a X.env)]:=by rfl) (hs:starEach [.Call (.Name "range" p2) [a] [] pos2] X.env=(false,eval (.Call (.Name "range" p2) [a] [] pos2) X.env)::starEach [] X.env:=by rfl)(hpl:(backTo pos (starEach [] X.env)).any (·.1)=false:=by rfl): RE X E (.Call (.Name "list" p) [.Call (.Name "range" p2) [a] [] pos2] [] pos) (eLR f):= zV (z4W hc hg hm hg2 hm2 ha hs2 hs hpl).freeze fun O H Q ⟨Y,Z,s,r,en,h⟩=>by
  unfold eLR at h;refine ⟨Y,Z,s,r,en,(okR.bind (Dn:=zr (gm X)) h).imp fun vs H1 ⟨Y1,s1,ds,stp,dn,h1⟩=>?_⟩;split at h1
  ·rename_i j;split at h1
   ·rename_i hj;obtain ⟨v,rfl,d1⟩:=z0a dn;cases zT d1;exact ⟨j,rfl,hj.1,hj.2,jC stp.rep h1 (zaY _)⟩
   ·exact h1.elim
  ·exact h1.elim
@[simp] theorem zhc (f:FA)(Z:Ev)(s:Sto):eLR f Z s=(f Z s).bind fun ds s1=>match ds with
 | [.int j]=>if 0<=j/\j<=1000 then .ok (.lst (xB j.toNat)) s1 else .no | _=>.no:=id rfl
end
def uc(ft:FT)(fb:FS):Nat->Ev->Sto->R Fl
 | 0,_,_=>.no | k+1,Z,s=>(ft Z s).bind fun b s1=>if b=true then (fb Z s1).bind fun fl s2=>match fl with
   | .nx Z'=>uc ft fb k Z' s2 | .ct Z'=>uc ft fb k Z' s2 | .bk Z'=>.ok (.nx Z') s2 | .rt d=>.ok (.rt d) s2 else .ok (.nx Z) s1
theorem kB{ft:FT}{fb:FS}:∀ {k:Nat}{Z:Ev}{s:Sto},uc ft fb k Z s≠.no->uc ft fb (k+1) Z s=uc ft fb k Z s
 | 0,Z,s,h=>absurd rfl h | k+1,Z,s,h=>by
  rw [uc] at h ⊢;conv=>rhs;rw [uc]
  cases e:ft Z s with
  | no=>rfl | ex c t=>rfl | ok b s1=>
   rw [e] at h;simp only [R.bind_ok] at h ⊢;cases b with
   | false=>rfl | true=>
    rw [if_pos rfl] at h ⊢;rw [if_pos rfl];cases e2:fb Z s1 with
    | no=>rfl | ex c t=>rfl | ok fl s2=>
     rw [e2] at h;simp only [R.bind_ok] at h ⊢;cases fl with
     | nx Z'=>exact kB h | ct Z'=>exact kB h | bk Z'=>rfl | rt d=>rfl
theorem z6Q{ft:FT}{fb:FS}{k m:Nat}{Z:Ev}{s:Sto}(h:uc ft fb k Z s≠.no)(hm:k<=m):uc ft fb m Z s=uc ft fb k Z s:=by induction hm with
 | refl=>rfl | step _ ih=>rw [kB (by rw [ih];exact h),ih]
open Classical in
def z53(ft:FT)(fb:FS):FS:=fun Z s=>if h:∃ k,uc ft fb k Z s≠.no then uc ft fb h.choose Z s else .no
theorem zbd{ft:FT}{fb:FS}{k:Nat}{Z:Ev}{s:Sto}{r:R Fl}(h:uc ft fb k Z s=r)(hr:r≠.no):z53 ft fb Z s=r:=by
 subst h;have hx:∃ k,uc ft fb k Z s≠.no:=⟨k,hr⟩;unfold z53;rw [dif_pos hx];rcases Nat.le_total k hx.choose with z | z;·exact z6Q hr z
 ·exact (z6Q hx.choose_spec z).symm
theorem zdf {X:Cx} {E:XK} {c:Expr} {body:List Stmt} {pos:Pos} {ft:FT} {fb:FS} (hp:PassesOwn (model X.prog X.w) X.A X.env X.xe) (hc:RT X E c ft) (hb:RSs X E body fb):RS X E (.While c body [] pos) (z53 ft fb):= vy (zbs hp hc hb) fun D O H ⟨Y,Z,s,r,en,h⟩=>by
  unfold z53 at h;split at h
  ·rename_i hx;refine ⟨fun m O H=>∃ Y Z s,Rep (gm X) H Y s/\wV (gm X) H Y Z O/\okR (gm X) E H Y (FlD (gm X)) (uc ft fb m Z s) (z3Q D),⟨_,Y,Z,s,r,en,h⟩,?_⟩;rintro m O H ⟨Y,Z,s,r,en,h⟩;cases m with
   | zero=>exact h.elim | succ m=>
    rw [uc] at h;refine ⟨Y,Z,s,r,en,(okR.bind (Dn:=bD) h).imp fun b H1 ⟨Y1,s1,b',stp,eb,h1⟩=>?_⟩;cases (show b'=b from eb);cases b with
    | false=>
     rw [if_neg (by decide)] at h1 ⊢;exact okR.here (b:=FlV.nx O) (Q:=z3Q D) h1 stp.rep (en.mono stp) | true=>
     rw [if_pos rfl] at h1 ⊢;refine ⟨fun O' H'=>∃ Y Z s,Rep (gm X) H' Y s/\wV (gm X) H' Y Z O'/\okR (gm X) E H' Y (FlD (gm X)) (uc ft fb m Z s) (z3Q D),fun O' H' q=>⟨m,Nat.lt_succ_self _,q⟩,Y1,Z,s1,stp.rep,en.mono stp,(okR.bind (Dn:=FlD (gm X)) h1).imp fun fv H2 ⟨Y2,s2,fl,stp2,dn,h2⟩=>?_⟩;cases fl with
     | nx Z'=> cases fv with
      | nx O'=>exact ⟨Y2,Z',s2,stp2.rep,dn,h2⟩ | _=>exact (show False from dn).elim
     | ct Z'=> cases fv with
      | ct O'=>exact ⟨Y2,Z',s2,stp2.rep,dn,h2⟩ | _=>exact (show False from dn).elim
     | bk Z'=> cases fv with
      | bk O'=>exact okR.here (b:=FlV.nx O') (Q:=z3Q D) (a:=Fl.nx Z') (s:=s2) h2 stp2.rep dn | _=>exact (show False from dn).elim
     | rt d=> cases fv with
      | rt v=>exact okR.here (b:=FlV.rt v) (Q:=z3Q D) (a:=Fl.rt d) (s:=s2) h2 stp2.rep dn | _=>exact (show False from dn).elim
  ·exact h.elim
end Dd
namespace PySem
open PySem.AutoSeq1 (wpAny_loadPart')
open MeetsSeq MeetsSeq2 SeqAt
theorem z7v{M:Model}{A:Around}{E:Value->Shared->Prop}{s:Shared}{β:Type}(f:Nat->β->Sem (ForInStep β))(I:Nat->β->Shared->Prop)(Q:β->Shared->Prop)(n:Nat) (turn:∀ i b s,i<n->I i b s->wpAny M A (f i b) (fun r s'=>match r with | .yield b'=>I (i+1) b' s' | .done b'=>Q b' s') E s) (fin:∀ b s,I n b s->Q b s)(b:β)(h:I 0 b s):wpAny M A (forIn ([0:n]:Std.Legacy.Range) b f) Q E s:=by
 rw [Std.Legacy.Range.forIn_eq_forIn_range'];simp only [Std.Legacy.Range.size,Nat.sub_zero,Nat.add_sub_cancel,Nat.div_one];refine wpAny_forIn_list f (fun jA b s'=>∃ i,jA=List.range' i (n-i)/\i<=n/\I i b s') _ ?_ ?_ _ _ ⟨0,by simp,Nat.zero_le _,h⟩
 ·rintro x jA b s' ⟨i,hr,hi,hI⟩;have hlt:i<n:=by
   rcases Nat.lt_or_ge i n with h | h;·exact h
   ·rw [Nat.sub_eq_zero_of_le h] at hr;simp at hr
  obtain ⟨rfl,hrest⟩:x=i/\jA=List.range' (i+1) (n-(i+1)):=by
   have e:n-i=(n-(i+1))+1:=by omega
   rw [e,List.range'_succ] at hr;injection hr with h1 h2;exact ⟨h1,h2⟩
  refine wpAny_mono (turn x b s' hlt hI) (fun r s2 hr=>?_) fun _ _ h'=>h';cases r with
  | done b'=>exact hr | yield b'=>exact ⟨x+1,hrest,hlt,hr⟩
 ·rintro b s' ⟨i,hr,hi,hI⟩;have:i=n:=by
   have:=congrArg List.length hr;simp at this;omega
  subst this;exact fin _ _ hI
theorem z1B (l:Addr) (items:Array Value) (n:Nat) (dd:Option Addr) (sl:Array (Option Value)) (x:Value) (e:Value->Bool) (j:Nat) (hj:j<items.size) (hit:e items[j]=true) (hno:∀ m (hm:m<items.size),m<j->e items[m]=false): Meets (Builtin.«tuple.index» ⟨[.ref l,x],[]⟩) (fun A R s=>s.heap.get? l=some {cls:=.type "tuple",dict:=dd,data:=.seq items n,slots:=sl}/\(∀ y,y∈items->EqAt A.in1 s y x (e y))/\R (.ok (.ret (.int j s.toks))) {s with toks:=s.toks+1}):= .of_wp fun prog w A R s h=>by
  obtain ⟨hp,g,d,tk,os⟩:=s;obtain ⟨hl,he,h⟩:=h;have hm:min items.size items.size=items.size:=Nat.min_self _;wp_walk using wpAny_loadPart' hl,z7v _ (fun i b s'=>b.1=none/\s'=⟨hp,g,d,tk,os⟩/\i<=j) _ _;case turn=>
   rintro i ⟨b1,b2⟩ s' hi ⟨hb,rfl,hij⟩;simp only at hb;subst hb;rw [hm] at hi;rw [Array.getElem?_eq_getElem hi];refine wpAny_bind (he _ (Array.getElem_mem hi) prog w _ _ ?_);rcases Nat.lt_or_eq_of_le hij with lt | rfl
   ·rw [hno i hi lt];wp_walk;exact ⟨rfl,rfl,lt⟩
   ·rw [hit];wp_walk;exact ⟨_,rfl,h⟩
  case fin=>
   rintro ⟨b1,b2⟩ s' ⟨hb,rfl,hij⟩;rw [hm] at hij;omega
  case h=>exact ⟨rfl,rfl,Nat.zero_le _⟩
end PySem
namespace L2
open PySem.Spec
section
variable {X:Cx}{o e:Expr}{to:TE}{t:TA}{name:Str}{apos cpos:Pos}{id:String}{r:V->List V->Hp->VK->Prop}
theorem zey(slot:Slot "tuple" name id)(hty:typeOf (.builtin id)=pure (.type "method_descriptor"))(hm:MtR X id r)(ho:PE X o to)(ha:PA X [e] t) (hbase:attributeBase o name X.env (eval o X.env)=eval o X.env:=by rfl) (hfew:((backTo cpos (starEach [e] X.env)).all (fun x=>!x.1)&&(backToKw cpos (keywordEach [] X.env)).all (fun x=>x.1.isSome) && decide ([e].length+([]:List Keyword).length+(if ([]:List Keyword).isEmpty then 0 else 1)<30))=true:=by rfl) (hline:(apos.endLine==cpos.line)=true:=by rfl)(hs:starEach [e] X.env=(false,eval e X.env)::starEach [] X.env:=by rfl)(hplain:(backTo cpos (starEach [] X.env)).any (·.1)=false:=by rfl): PE X (.Call (.Attribute o name apos) [e] [] cpos) (fun O H Q=>to O H fun x H1=>(∃ p vs,x=.ref p/\H1 p=some (.tup vs))/\t O H1 fun xs H2=>r x xs H2 Q):=by
 intro pins s O H Q I h;refine wpAny_Call_method_late hbase hfew hline rfl (thn (ho pins s O H _ I h) fun v s1 ⟨x,H1,I1,r1,ty,q1⟩=>?_);obtain ⟨p,vs,rfl,hp⟩:=ty;cases r1;obtain ⟨_,its,_,ob,e1,c1,d1,n,w1⟩:=I1.hok p _ hp;refine ⟨"tuple",id,PySem.F.plainAttrs_tuple,slot,hty,⟨ob,e1,c1⟩,fun a e=>?_,?_⟩
 ·cases e;exact ⟨ob,e1,d1⟩
 have hA:=ha cpos pins s1 O H1 _ I1 q1;rw [hs] at hA ⊢;refine Calls.callWith_builtin (by show (false||(backTo cpos (starEach [] X.env)).any (·.1))=false;rw [hplain]<;>rfl) (Calls.evalArgs_plain ?_);exact thn hA fun us s2 ⟨vs,H2,I2,r2,q2⟩=>hm pins s2 O H2 (.ref p) vs _ us Q I2 rfl r2 q2
theorem kL:∀ {ns:List Int}{its:List Value},xb (ns.map V.int) its->IntsAre its ns
 | [],_,.nil=>.nil | n::ns,_,.cons r rs=>by
  obtain ⟨t,rfl⟩:=r;exact .cons n t (kL rs)
def zij:V->List V->Hp->VK->Prop:=fun x vs H Q=>∃ (p:Addr)(ns:List Int)(k:Int),x=.ref p/\vs=[.int k]/\H p=some (.tup (ns.map V.int))/\k∈ns/\Q (.int (ns.idxOf k:Nat)) H
theorem z6a:MtR X "tuple.index" zij:=by
 intro pins s O H x vs v us Q I rx rv h;obtain ⟨p,ns,k,rfl,rfl,hp,hk,q⟩:=h;cases rx;obtain ⟨u,rfl,⟨t,rfl⟩⟩:=vals1 rv;obtain ⟨_,its,r,ob,e1,c1,d1,n,w1⟩:=I.hok p _ hp;have hi:=kL r;have hlen:=hi.length;have hj:ns.idxOf k<ns.length:=List.idxOf_lt_length_iff.mpr hk;obtain ⟨cls,dd,data,sl⟩:=ob;simp only at c1 d1 w1;subst c1 d1 w1;refine call_meets PySem.F.slot_tuple_index ⟨_,e1,rfl⟩ PySem.F.entry_tuple_index (PySem.F.args_tuple_index_2 _ _) (z1B p its.toArray n _ sl (.int k t) (isInt k) (ns.idxOf k) (by simpa [hlen] using hj) ?_ ?_) ⟨e1,fun y hy=>(eq_isInt k t hi y (by simpa using hy)).at _ _,?_⟩
 ·show isInt k its[ns.idxOf k]=true;rw [isInt_at k hi _ (by omega) hj];simpa using List.getElem_idxOf hj
 ·intro j hjs hlt;show isInt k its[j]=false;rw [isInt_at k hi j (by simpa using hjs) (by omega)];exact ne_of_lt_idxOf hlt _
 ·exact ⟨.int (ns.idxOf k:Nat),H,I.kept (fun b o e=>e),⟨s.toks,rfl⟩,q⟩
end
end L2
namespace Dd
open PySem.Spec L2
section
variable {X:Cx}{E:XK}{o e:Expr}{pos:Pos}
def z7X(fo fv:FE):FE:=fun Z s=>(fo Z s).bind fun o s1=>match o with
 | .tup ds=>(fv Z s1).bind fun d s2=>match intsOf ds,d with
  | some ns,.int k=>if k∈ns then .ok (.int (ns.idxOf k:Nat)) s2 else .no | _,_=>.no
 | _=>.no
theorem z1b{apos:Pos}{fo fv:FE}(ho:RE X E o fo)(hv:RE X E e fv)(hbase:attributeBase o "index" X.env (eval o X.env)=eval o X.env:=by rfl) (hfew:((backTo pos (starEach [e] X.env)).all (fun x=>!x.1)&&(backToKw pos (keywordEach [] X.env)).all (fun x=>x.1.isSome) && decide ([e].length+([]:List Keyword).length+(if ([]:List Keyword).isEmpty then 0 else 1)<30))=true:=by rfl) (hline:(apos.endLine==pos.line)=true:=by rfl)(hs:starEach [e] X.env=(false,eval e X.env)::starEach [] X.env:=by rfl)(hplain:(backTo pos (starEach [] X.env)).any (·.1)=false:=by rfl): RE X E (.Call (.Attribute o "index" apos) [e] [] pos) (z7X fo fv):= zV (zey PySem.F.slot_tuple_index PySem.F.type_tuple_index z6a ho (kz hv z4D hs) hbase hfew hline hs hplain) fun O H Q ⟨Y,Z,s,r,en,h⟩=>by
  unfold z7X at h;refine ⟨Y,Z,s,r,en,(okR.bind (Dn:=Den (gm X)) h).imp fun ov H1 ⟨Y1,s1,od,stp,dn,h1⟩=>?_⟩;cases od with
  | tup ds=>
   simp only at h1;have hty:∃ p vs,ov=.ref p/\H1 p=some (.tup vs):=by
    simp only [Den] at dn;obtain ⟨a,vs,rfl,e1,_⟩:=dn;exact ⟨a,vs,rfl,e1⟩
   refine ⟨hty,⟨Y1,Z,s1,stp.rep,en.mono stp,(okR.bind (Dn:=Den (gm X)) h1).imp fun v H2 ⟨Y2,s2,d,stp2,dn2,h2⟩=>?_⟩⟩;split at h2
   ·rename_i ns k ei;split at h2
    ·rename_i hk;have dov:=dn.mono stp2;simp only [Den] at dov;obtain ⟨a,vs,rfl,e1,e2⟩:=dov;rw [jD ei] at e2;cases jE e2;cases zT dn2;exact ⟨a,ns,k,rfl,rfl,e1,hk,okR.here h2 stp2.rep yf⟩
    ·exact h2.elim
   ·exact h2.elim | _=>exact h1.elim
@[simp] theorem zeu (fo fv:FE)(Z:Ev)(s:Sto):z7X fo fv Z s=(fo Z s).bind fun o s1=>match o with
 | .tup ds=>(fv Z s1).bind fun d s2=>match intsOf ds,d with
  | some ns,.int k=>if k∈ns then .ok (.int (ns.idxOf k:Nat)) s2 else .no | _,_=>.no
 | _=>.no:=id rfl
end
def zdj(P:Program)(w:World)(K:W.Frag)(mg:Str->Option Value)(x:Str)(tb:List (Str×Str)):Prop:= ∃ a o es ep,mg x=some (.ref a)/\(a==sysModules)=false/\K.lookup a=some o/\o.ExactDict/\o.data=.dict es ep/\PySem.KeysOf (zG P w) es/\ (∀ k y,tb.lookup k=some y->∃ f,findBy (zG P w).is es (.inr k)=some (.ref f)/\mg y=some (.ref f))/\∀ k,tb.lookup k=none->findBy (zG P w).is es (.inr k)=none
theorem z46{P:Program}{w:World}{k:Str}{u:Value}(r:yB (.str k) u):(zG P w).is (.inr k) u=true:=by
 obtain ⟨t,e⟩:=(show ∃ t,u=Value.str k t from r);subst e;exact z18 k t
section
variable {X:Cx}{E:XK}{e a b c:Expr}{es:List Expr}{pos:Pos}{CX:CXT}
theorem z6w{pins:List (Addr×Obj)}{O:L2.St}{H:Hp}{s:Shared}{o:Obj}{d:Addr}{en:Array DictEntry}{ep:Nat}(I:Inv X pins O H s)(hk:X.K.lookup d=some o)(hx:o.ExactDict)(hd:o.data=.dict en ep)(ks:PySem.KeysOf (zG X.prog X.w) en): s.heap.MapOf (zG X.prog X.w) d (fun k=>findBy (zG X.prog X.w).is en k):=⟨o,en,ep,I.kIn d o hk,hx,hd,ks,fun _=>rfl⟩
def zgE(tb:List (Str×Str))(f:FE):FE:=fun Z s=>(f Z s).bind fun d s1=>match d with
 | .str k=>match tb.lookup k with | some y=>.ok (.fn y) s1 | none=>.no
 | _=>.no
theorem zhf{x:Str}{p:Pos}{tb:List (Str×Str)}{f:FE}(hT:zdj X.prog X.w X.K X.mg x tb)(hg:Gl X x)(he:RE X E e f)(hs:z5X e)(hdb:(x==("__debug__":Str))=false:=by decide): RE X E (.Subscript (.Name x p) e pos) (zgE tb f):=by
 obtain ⟨d,o,en,ep,hm,hsm,hk,hx,hd,ks,h1,h2⟩:=hT;refine zV (zfa (r:=fun v y H Q=>v=.ref d/\∃ k g,y=.str k/\findBy (zG X.prog X.w).is en (.inr k)=some (.ref g)/\Q (.ref g) H) ?_ (z62 hg hm (show yB (.ref d) (.ref d) from rfl) hdb) he hs) fun O H Q ⟨Y,Z,s,r,en',h⟩=>?_
 ·intro value slice pins s O H v y u u2 Q I rx ry h hs2;obtain ⟨rfl,k,g,rfl,hf,q⟩:=h;cases rx;have mp:=z6w I hk hx hd ks;exact subscriptTail_builtinR (x:=.ref g) mp.typeIs PySem.F.slot_dict_getitem.lookup (wpAny_getItem_of (Q:=fun r s'=>r=.ref g/\EP X pins O Q r s') (z46 ry) mp hf ⟨rfl,.ref g,H,I.tok _,rfl,q⟩) hs2
 ·unfold zgE at h;refine ⟨Y,Z,s,r,en',(okR.bind (Dn:=Den (gm X)) h).imp fun v H1 ⟨Y1,s1,dd,stp,dn,q⟩=>?_⟩;split at q
  ·rename_i k;split at q
   ·rename_i y hy;obtain ⟨g,e1,e2⟩:=h1 k y hy;cases z2H dn;exact ⟨rfl,k,g,rfl,e1,okR.here (b:=V.ref g) q stp.rep (by simp only [Den];exact ⟨g,rfl,e2⟩)⟩
   ·exact q.elim
  ·exact q.elim
def z73(tb:List (Str×Str))(neg:Bool)(f:FE):FE:=fun Z s=>(f Z s).bind fun d s1=>match d with
 | .str k=>.ok (.bl (xor neg (tb.lookup k).isSome)) s1 | _=>.no
theorem zdM{x:Str}{p:Pos}{tb:List (Str×Str)}{f:FE}(hT:zdj X.prog X.w X.K X.mg x tb)(hg:Gl X x)(he:RE X E e f)(hm':behindInMarks .In (.Name x p)=false:=by rfl)(hdb:(x==("__debug__":Str))=false:=by decide): RE X E (.Compare e [.In] [.Name x p] pos) (z73 tb false f):=by
 obtain ⟨d,o,en,ep,hm,hsm,hk,hx,hd,ks,h1,h2⟩:=hT;refine zV (z9G (r:=fun y v H Q=>v=.ref d/\∃ k,y=.str k/\Q (.bl (findBy (zG X.prog X.w).is en (.inr k)).isSome) H) ?_ he (z62 hg hm (show yB (.ref d) (.ref d) from rfl) hdb) hm') fun O H Q ⟨Y,Z,s,r,en',h⟩=>?_
 ·intro pins s O H y v u u2 Q I ry rx h;obtain ⟨rfl,k,rfl,q⟩:=h;cases rx;exact wpAny_in_of (z46 ry) hsm (z6w I hk hx hd ks) ⟨.bl _,H,I.tok _,rfl,q⟩
 ·unfold z73 at h;refine ⟨Y,Z,s,r,en',(okR.bind (Dn:=Den (gm X)) h).imp fun v H1 ⟨Y1,s1,dd,stp,dn,q⟩=>?_⟩;split at q
  ·rename_i k;cases z2H dn;have e0:(findBy (zG X.prog X.w).is en (.inr k)).isSome=(tb.lookup k).isSome:=by cases z:tb.lookup k with
    | none=>rw [h2 k z];rfl | some y=>obtain ⟨g,e1,_⟩:=h1 k y z;rw [e1];rfl
   exact ⟨rfl,k,rfl,okR.here (b:=V.bl _) q stp.rep (by simp [Den,e0])⟩
  ·exact q.elim
def z6M(i:Nat)(Ms:List (Str×Mir))(f:FA):FE:=fun Z s=>match Z[i]? with
 | some (some (.fn y))=>match Ms.lookup y with
  | some M=>(f Z s).bind fun xs s1=>M xs s1 | none=>.no
 | _=>.no
theorem zdL (i:Nat) {x:Str} {p:Pos} {n:Nat} {Ms:List (Str×Mir)} {f:FA} (F:∀ y M,Ms.lookup y=some M->Has X.prog X.w X.K X.mg X.base CX y n M) (hr:z0q n X.A) (hxx:Passes CX X E) (ha:RA X E (e::es) f) (hN:X.N[i]? = some x:=by rfl) (hv:Vis X.env.scope x:=by first | exact Or.inl rfl | exact Or.inr (Or.inl rfl) | exact Or.inr (Or.inr rfl)) (hd:(x==("__debug__":Str))=false:=by decide) (hcd:(x==("__classdict__":Str))=false:=by decide) (he:starEach (e::es) X.env=(false,eval e X.env)::starEach es X.env:=by rfl) (hpl:(backTo pos (starEach es X.env)).any (·.1)=false:=by rfl):RE X E (.Call (.Name x p) (e::es) [] pos) (z6M i Ms f):=by
 intro pins s O H Q I ⟨Y,Z,st,r,en,h⟩;unfold z6M at h;split at h
 ·rename_i y hy;split at h
  ·rename_i M hM;obtain ⟨v,hv1,dv⟩:=en.at_ i (.fn y) hy;simp only [Den] at dv;obtain ⟨g,rfl,hmg⟩:=dv;obtain ⟨fa,fd,ps,Fk,hb,hk,hm⟩:=F y M hM;have e0:g=fa:=by rw [hmg] at hm;cases hm;rfl
   subst e0;refine wpAny_Call_Name_kw (thn (z8S (pos:=p) hN hv hd hcd pins s O H (fun v H1=>v=.ref g/\H1=H) I ⟨.ref g,hv1,rfl,rfl⟩) fun u s1 ⟨v,H1,I1,r1,e1,e2⟩=>?_);subst e1 e2;cases r1;have hA:=ha pos pins s1 O H1 (fun vs H2=>zcM (gm X) M (vs++[]) H2 Q E) I1 (qj (k:=fun Z xs s1=>M xs s1) r en h _ fun vs H2 Y2 s2 ds r2 en2 dn2 stp2 h3=>by
    rw [List.append_nil];exact ⟨Y2,s2,ds,r2,dn2,h3⟩);refine W.callWith_K (h₀:=X.base) I1.ok.mod.kin hk (thn hA fun us s2 ⟨vs,H2,I2,r2,q⟩=>⟨I2.kIn,?_⟩) he hpl;exact za7 Fk hr hb .nil hxx I2 r2 q
  ·exact h.elim
 ·exact h.elim
@[simp] theorem zir (tb:List (Str×Str))(f:FE)(Z:Ev)(s:Sto):zgE tb f Z s=(f Z s).bind fun d s1=>match d with
 | .str k=>match tb.lookup k with | some y=>.ok (.fn y) s1 | none=>.no
 | _=>.no:=id rfl
@[simp] theorem zgF (tb:List (Str×Str))(neg:Bool)(f:FE)(Z:Ev)(s:Sto):z73 tb neg f Z s=(f Z s).bind fun d s1=>match d with
 | .str k=>.ok (.bl (xor neg (tb.lookup k).isSome)) s1 | _=>.no:=id rfl
@[simp] theorem zb3 (i:Nat)(Ms:List (Str×Mir))(f:FA)(Z:Ev)(s:Sto):z6M i Ms f Z s=match Z[i]? with
 | some (some (.fn y))=>match Ms.lookup y with
  | some M=>(f Z s).bind fun xs s1=>M xs s1 | none=>.no
 | _=>.no:=id rfl
end
theorem xS.cut{mg:Gm}{H H1:Hp}{Y Y1:List Addr}{s1:Sto}(stp:xS mg H Y H1 Y1 s1):xS mg H Y H1 (Y1.take Y.length) (s1.take Y.length):=by
 have fl:∀ {ds:List D}{ws:List V},D.flat.flats ds=true->zr mg H1 Y1 ds ws->zr mg H1 (Y1.take Y.length) ds ws:=fun f h=>h.flatten (fun _ _ h _ _=>h) f;refine ⟨⟨by simp [stp.rep.len],stp.rep.nd.sublist (List.take_sublist _ _),fun j ys h=>?_,fun ys h=>stp.rep.flat ys (List.mem_of_mem_take h)⟩,?_,stp.keep,fun c h1 h2=>stp.new c (List.mem_of_mem_take h1) h2,stp.mt⟩
 ·have hj:j<Y.length:=by
   have:=(List.getElem?_eq_some_iff.mp h).1;simp at this;omega
  rw [List.getElem?_take_of_lt hj] at h ⊢;obtain ⟨c,q1,q2⟩:=stp.rep.cell j ys h;exact ⟨c,q1,q2.flatten (fun _ _ h _ _=>h) (stp.rep.flat _ (List.mem_of_getElem? h)) rfl⟩
 ·obtain ⟨t,ht⟩:=stp.pre;exact ⟨[],by rw [<- ht,List.take_append];simp⟩
theorem xS.frzC{mg:Gm}{H H1:Hp}{Y Y1:List Addr}{s1:Sto}{l:Nat}{xs:List D}(stp:xS mg H Y H1 Y1 s1){a:Addr}(hl:Y.length<=l)(hx:s1[l]? = some xs)(e1:Y1[l]? = some a)(ka:IsL H1 a):∃ vs,H1 a=some (.lst vs)/\ ∀ o,xS mg H Y (upd H1 a (.frz o (.lst vs))) (Y1.take Y.length) (s1.take Y.length)/\Den mg (upd H1 a (.frz o (.lst vs))) (Y1.take Y.length) (.lst xs) (.ref a):=by
 obtain ⟨vs,e2,e3⟩:=stp.rep.at_ hx e1 ka;refine ⟨vs,e2,fun o=>?_⟩;have il:l<Y1.length:=(List.getElem?_eq_some_iff.mp e1).1;have an:a∉Y:=fun z=>by
  obtain ⟨j,hj,ej⟩:=List.mem_iff_getElem.mp z;obtain ⟨t,ht⟩:=stp.pre;have:Y1[j]? = some a:=by rw [<- ht,List.getElem?_append_left hj,List.getElem?_eq_getElem hj,ej]
  have:=(List.getElem_inj stp.rep.nd).mp (((List.getElem?_eq_some_iff.mp this).2).trans ((List.getElem?_eq_some_iff.mp e1).2).symm);omega
 have a0:H a=none:=stp.new a (List.mem_of_getElem? e1) an;have k:∀ b u,H1 b=some u->(∀ vs,u≠.lst vs)->(∀ kvs,u≠.dT kvs)->upd H1 a (.frz o (.lst vs)) b=some u:=fun b u h hn _=>by rw [zw (fun z=>by subst z;rw [e2] at h;exact hn vs (Option.some.inj h).symm)];exact h
 have fl:∀ {ds:List D}{ws:List V},D.flat.flats ds=true->zr mg H1 Y1 ds ws->zr mg (upd H1 a (.frz o (.lst vs))) (Y1.take Y.length) ds ws:=fun f h=>h.flatten k f;have mem:∀ {j:Nat}{ys:List D},s1[j]? = some ys->D.flat.flats ys=true:=fun e=>stp.rep.flat _ (List.mem_of_getElem? e);refine ⟨⟨⟨by simp [stp.rep.len],stp.rep.nd.sublist (List.take_sublist _ _),fun j ys h=>?_,fun ys h=>stp.rep.flat ys (List.mem_of_mem_take h)⟩,?_,fun b u h n=>?_,fun c h1 h2=>stp.new c (List.mem_of_mem_take h1) h2,fun b hb=>?_⟩,?_⟩
 ·have hj:j<Y.length:=by
   have:=(List.getElem?_eq_some_iff.mp h).1;simp at this;omega
  rw [List.getElem?_take_of_lt hj] at h ⊢;obtain ⟨c,q1,q2⟩:=stp.rep.cell j ys h;refine ⟨c,q1,q2.flatten k (mem h) (zw fun z=>?_)⟩;subst z;have:=(List.getElem_inj stp.rep.nd).mp (((List.getElem?_eq_some_iff.mp q1).2).trans ((List.getElem?_eq_some_iff.mp e1).2).symm);omega
 ·obtain ⟨t,ht⟩:=stp.pre;exact ⟨[],by rw [<- ht,List.take_append];simp⟩
 ·rw [zw (fun z=>by subst z;rw [a0] at h;cases h)];exact stp.keep b u h n
 ·have ne:b≠a:=fun z=>an (z ▸ hb);rcases stp.mt b hb with ⟨q1,q2⟩ | ⟨q1,q2,q3⟩;·exact .inl ⟨q1,by rw [IsL,zw ne];exact q2⟩
  ·exact .inr ⟨q1,by rw [IsC,zw ne];exact q2,fun o u z=>by rw [zw ne];exact q3 o u z⟩
 ·simp only [Den];exact ⟨a,o,vs,rfl,zK,fl (mem hx) e3⟩
def zgC(n:Nat):R D->R D
 | .ok (.loc l) s1=>match s1[l]? with
  | some xs=>if n<=l then .ok (.lst xs) (s1.take n) else .no | none=>.no
 | .ok _ _=>.no | .ex c s1=>.ex c s1 | .no=>.no
def zhx(f:FE):FE:=fun Z s=>zgC s.length (f Z s)
@[simp] theorem zgY (f:FE)(Z:Ev)(s:Sto):zhx f Z s=zgC s.length (f Z s):=id rfl
@[simp] theorem zgL {s:Sto}{xs:List D}:zgC s.length (.ok (.loc s.length) (s++[xs]))=.ok (.lst xs) s:=by simp [zgC]
def z8g(n:Nat):R D->R D
 | .ok (.loc l) s1=>if l<n then .ok (.loc l) (s1.take n) else .ok (.loc l) s1 | .ok d s1=>if d.flat=true then .ok d (s1.take n) else .ok d s1 | r=>r
def z6c(M:Mir):Mir:=fun ds s=>z8g s.length (M ds s)
theorem zcX{mg:Gm}{M:Mir}{vs:List V}{H:Hp}{Q:VK}{E:XK}(h:zcM mg (z6c M) vs H Q E):zcM mg M vs H Q E:=by
 obtain ⟨Y,s,ds,r,dn,h⟩:=h;refine ⟨Y,s,ds,r,dn,?_⟩;unfold z6c z8g at h;split at h
 ·rename_i l s1 e;rw [e];split at h
  ·rename_i hl;intro v H1 Y1 stp dv;rw [<- r.len] at h;refine h v H1 _ stp.cut ?_;simp only [Den] at dv ⊢;obtain ⟨a,rfl,e1,ka⟩:=dv;exact ⟨a,rfl,by rw [List.getElem?_take_of_lt (by rw [r.len];exact hl)];exact e1,ka⟩
  ·exact h
 ·rename_i d s1 hn e;rw [e];split at h
  ·rename_i hf;intro v H1 Y1 stp dv;rw [<- r.len] at h;exact h v H1 _ stp.cut (dv.flatten (fun _ _ h _ _=>h) hf)
  ·exact h
 ·exact h
section
variable {P:Program}{w:World}{K:W.Frag}{mg:Str->Option Value}{base:Heap}
theorem Has.tidy{CX:CXT}{x:Str}{n:Nat}{M:Mir}(h:Has P w K mg base CX x n M):Has P w K mg base CX x n (z6c M):=by
 obtain ⟨f,fd,ps,F,r⟩:=h;exact ⟨f,fd,ps,F.imp fun vs H Q E h=>zcX h,r⟩
end
@[simp] theorem zdg (M:Mir)(ds:List D)(s:Sto):z6c M ds s=z8g s.length (M ds s):=id rfl
@[simp] theorem z7E {d:D}{n:Nat}{s1:Sto}(h:d.flat=true):z8g n (.ok d s1)=.ok d (s1.take n):=by cases d<;>first | (simp [D.flat] at h;done) | simp_all [z8g]
section
variable {X:Cx}{E:XK}{e a b c:Expr}{es:List Expr}{pos:Pos}{CX:CXT}
theorem zdb{x:Str}{p:Pos}{n:Nat}{M:Mir}(F:Has X.prog X.w X.K X.mg X.base CX x n M)(hr:z0q n X.A)(hx:Passes CX X E)(hg:Gl X x)(hdb:(x==("__debug__":Str))=false:=by decide):RE X E (.Call (.Name x p) [] [] pos) (ze M zi):=by
 obtain ⟨fa,fd,ps,F,hb,hk,hm⟩:=F;refine zV (zaj F hr hg hm hk hb .nil hx hdb) fun O H Q ⟨Y,Z,s,r,en,h⟩=>?_;exact ⟨Y,s,[],r,zr.nil,h⟩
end
section
variable {P:Program}{w:World}{K:W.Frag}{mg:Str->Option Value}{base:Heap}{CX:CXT}{n:Nat}
def za6:List DictEntry->List (Str×Value)
 | []=>[] | e::es=>match e.key with
  | .str k _=>(k,e.val)::za6 es | _=>za6 es
theorem kn {P:Program} {w:World} {k:Str}:∀ {es:List DictEntry},findBy (zG P w).is es.toArray (.inr k)=(za6 es).lookup k
 | []=>by simp [findBy,za6] | e::es=>by
  have ih:=kn (P:=P) (w:=w) (k:=k) (es:=es);simp only [findBy,List.find?_toArray] at ih ⊢;rw [List.find?_cons];cases hk:e.key with
  | str y t=>
   simp only [za6,hk,List.lookup_cons];by_cases z:k=y
   ·subst z;simp [z0K]
   ·have:(zG P w).is (.inr k) (.str y t)=false:=by
     rw [z22];cases q:z3q (.inr k) (.str y t) with
     | false=>rfl | true=>
      rcases yk q with ⟨i,u,h1,h2⟩ | ⟨x,u,h1,h2⟩;·cases h2
      ·cases h1;cases h2;exact absurd rfl z
    rw [this,show (k==y)=false from by simpa using z];exact ih | _=>
   have:(zG P w).is (.inr k) e.key=false:=by
    rw [z22];cases q:z3q (.inr k) e.key with
    | false=>rfl | true=>
     rcases yk q with ⟨i,u,h1,h2⟩ | ⟨x,u,h1,h2⟩;·cases h1
     ·rw [hk] at h2;cases h2
   rw [hk] at this;simp only [za6,hk,this];exact ih
theorem zar:∀ y M,([]:List (Str×Mir)).lookup y=some M->Has P w K mg base CX y n M:=fun y M h=>by simp at h
theorem jS{x:Str}{M0:Mir}{Ms:List (Str×Mir)}(h:Has P w K mg base CX x n M0)(hs:∀ y M,Ms.lookup y=some M->Has P w K mg base CX y n M):∀ y M,((x,M0)::Ms).lookup y=some M->Has P w K mg base CX y n M:=fun y M e=>by
 rw [List.lookup_cons] at e;split at e
 ·rename_i hb;cases e;have:y=x:=by simpa using hb
  subst this;exact h
 ·exact hs y M e
end
def Sub(K:W.Frag)(h:Heap):Prop:=∀ p∈K,h.get? p.1=some p.2
theorem Sub.in_{K:W.Frag}{h:Heap}(s:Sub K h):K.In h:=fun a o e=>by induction K with
 | nil=>simp at e | cons p K ih=>
  obtain ⟨b,u⟩:=p;rw [List.lookup_cons] at e;split at e
  ·rename_i hb;cases e;have:a=b:=by simpa using hb
   subst this;exact s (a,o) (by simp)
  ·exact ih (fun q hq=>s q (by simp [hq])) e
theorem z36(h:Heap)(a:Addr):Sub (z5B h a) h:=fun p hp=>by
 unfold z5B at hp;split at hp
 ·rename_i o e;simp at hp;subst hp;exact e
 ·simp at hp
theorem Sub.app{K L:W.Frag}{h:Heap}(a:Sub K h)(b:Sub L h):Sub (K++L) h:=fun p hp=>(List.mem_append.mp hp).elim (a p) (b p)
theorem zcF(h:Heap)(ns:List Str):Sub (gat h ns) h:=by
 refine (z36 h _).app fun p hp=>?_;obtain ⟨x,_,hx⟩:=List.mem_flatMap.mp hp;unfold ziH at hx;split at hx
 ·rcases List.mem_append.mp hx with hx | hx;·exact z36 h _ p hx
  ·split at hx
   ·split at hx;·exact z36 h _ p hx
    ·simp at hx
   ·exact z36 h _ p hx
   ·simp at hx
 ·simp at hx
def ziy(K:W.Frag)(x:Str)(st:Stmt):Prop:=∃ f fd,W.nsIn K mainGlobals x=some (some (.ref f))/\Fun K x x st f fd
theorem dA(s:Stmt):dArgs s=kw s:=by cases s<;>rfl
theorem dB(s:Stmt):zf7 s=uP s:=by cases s<;>rfl
theorem dS(s:Stmt):zbW s=zg s:=by cases s<;>rfl
theorem zdo{K:W.Frag}{x:Str}{st:Stmt}(h:zdO K x=zhs x st):ziy K x st:=by
 unfold zdO zhs at h;rw [dA,dB,dS] at h;split at h
 ·rename_i f hf;split at h
  ·rename_i oc od fd sl hl;simp only [Option.some.injEq,Prod.mk.injEq] at h;obtain ⟨h1,h2,h3,h4,h5,h6,h7,h8,h9,h10,h11⟩:=h;obtain ⟨a1,a2,a3,a4,a5,a6,a7,a8,a9,a10,a11,a12,a13,a14,a15⟩:=fd;simp only at h1 h2 h3 h4 h5 h6 h7 h8 h9 h10;subst h1 h3 h4 h5 h6 h7 h8 h9;subst h2;exact ⟨f,_,hf,zfV hl h10 h11⟩
  ·cases h
 ·cases h
theorem zaq{K:W.Frag}{x:Str}(h:zdk K x=true):W.nsIn K mainGlobals x=some none:=by
 unfold zdk at h;split at h;·rename_i e;exact e
 ·cases h
theorem zbv{K:W.Frag}{x:Str}{i:Int}(h:zef K x=some i):∃ t,W.nsIn K mainGlobals x=some (some (.int i t)):=by
 unfold zef at h;split at h;·rename_i j t e;cases h;exact ⟨t,e⟩
 ·cases h
theorem z6x{P:Program}{w:World}{K:W.Frag}{h:Heap}{mg:Str->Option Value}(X:K.In h)(G:h.Ns mainGlobals mg):∀ {es:List DictEntry}{tb:List (Str×Str)},z7m K es (tb.map (·.2))=tb.map (fun p=>(PyData.keyHash w.params p.1,some p.1,true))-> PySem.KeysOf (zG P w) es.toArray/\(∀ k y,tb.lookup k=some y->∃ f,(za6 es).lookup k=some (.ref f)/\mg y=some (.ref f))/\∀ k,tb.lookup k=none->(za6 es).lookup k=none
 | [],[],_=>⟨fun e he=>by simp at he,fun k y h=>by simp at h,fun k _=>by simp [za6]⟩ | [],_::_,h=>by simp [z7m] at h | _::_,[],h=>by simp [z7m] at h | e::es,(k0,y0)::tb,h=>by
  simp only [List.map_cons,z7m,List.cons.injEq,Prod.mk.injEq] at h;obtain ⟨⟨h1,h2,h3⟩,h4⟩:=h;obtain ⟨i1,i2,i3⟩:=z6x (P:=P) X G h4;obtain ⟨hh,kk,vv⟩:=e;simp only at h1 h2 h3;cases kk with
  | str ks t=>
   simp only [z9T,Option.some.injEq] at h2;subst h2;have hv:∃ f,vv=.ref f/\W.nsIn K mainGlobals y0=some (some (.ref f)):=by
    unfold sameRef at h3;split at h3
    ·rename_i f g e1;have:f=g:=by simpa using h3
     subst this;exact ⟨f,rfl,e1⟩
    ·cases h3
   obtain ⟨f,rfl,e1⟩:=hv;refine ⟨fun e he=>?_,fun k y hy=>?_,fun k hy=>?_⟩
   ·simp only [List.mem_toArray,List.mem_cons] at he;rcases he with rfl | he;·exact ⟨.inr ks,z18 ks t,h1⟩
    ·exact i1 e (by simpa using he)
   ·simp only [za6,List.lookup_cons] at hy ⊢;by_cases z:k=ks
    ·subst z;simp at hy ⊢;subst hy;exact W.mg_of X G e1
    ·rw [show (k==ks)=false from by simpa using z] at hy ⊢;exact i2 k y hy
   ·simp only [za6,List.lookup_cons] at hy ⊢;by_cases z:k=ks;·subst z;simp at hy
    ·rw [show (k==ks)=false from by simpa using z] at hy ⊢;exact i3 k hy | _=>simp [z9T] at h2
theorem zcQ{P:Program}{w:World}{K:W.Frag}{h:Heap}{mg:Str->Option Value}{x:Str}{tb:List (Str×Str)}(X:K.In h)(G:h.Ns mainGlobals mg)(e:zdI K x (tb.map (·.2))=zhd w tb):zdj P w K mg x tb:=by
 unfold zdI zhd at e;split at e
 ·rename_i a ha;split at e
  ·rename_i c d es ep sl hl;simp only [Option.some.injEq,Prod.mk.injEq] at e;obtain ⟨e1,e2,e3,e4,e5⟩:=e;obtain ⟨i1,i2,i3⟩:=z6x (P:=P) X G e5;have hc:c=.type "dict":=by
    unfold z4x at e1;split at e1
    ·rename_i n;have:n="dict":=by simpa using e1
     rw [this]
    ·cases e1
   have hd:d=none:=by simpa using e2
   have hs:sl=#[]:=by
    have:sl.size=0:=by simpa using e3
    exact Array.eq_empty_of_size_eq_zero this
   have ea:es.toList.toArray=es:=by simp
   rw [ea] at i1;refine ⟨a,_,es,ep,W.mg_of X G ha,e4,hl,⟨hc,hd,hs⟩,rfl,i1,fun k y hy=>?_,fun k hy=>?_⟩;·rw [<- ea,kn];exact i2 k y hy
   ·rw [<- ea,kn];exact i3 k hy
  ·cases e
 ·cases e
def saysS(q:Ask)(w:World)(h:Heap):Prop:=∃ K:W.Frag,K.In h/\zac q K=valS q w
theorem zcB(q:Ask)(w:World)(s:Shared)(e:obsS q s=valS q w):saysS q w s.heap:=⟨_,(zcF _ _).in_,e⟩
theorem z7L(q:Ask)(w:World)(h h':Heap)(x:saysS q w h)(k:∀ b o,h.get? b=some o->h'.get? b=some o):saysS q w h':=let ⟨K,a,b⟩:=x;⟨K,a.keeps k,b⟩
theorem z7c{α β:Type}{f g:α->β}:∀ {l:List α},l.map f=l.map g->∀ x∈l,f x=g x:=fun h x hx=>List.map_inj_left.mp h x hx
theorem zic{q:Ask}{w:World}{K:W.Frag}(e:zac q K=valS q w)(x:Str)(st:Stmt)(hx:(x,st)∈q.fs):ziy K x st:=zdo (z7c (congrArg Prod.fst e) (x,st) hx)
theorem zhv{q:Ask}{w:World}{K:W.Frag}(e:zac q K=valS q w)(x:Str)(hx:x∈q.bs):W.nsIn K mainGlobals x=some none:=zaq (z7c (congrArg (fun z=>z.2.1) e) x hx)
theorem zik{q:Ask}{w:World}{K:W.Frag}(e:zac q K=valS q w)(x:Str)(i:Int)(hx:(x,i)∈q.cs):∃ t,W.nsIn K mainGlobals x=some (some (.int i t)):=zbv (z7c (congrArg (fun z=>z.2.2.1) e) (x,i) hx)
theorem zha{P:Program}{q:Ask}{w:World}{K:W.Frag}{h:Heap}{mg:Str->Option Value}(X:K.In h)(G:h.Ns mainGlobals mg)(e:zac q K=valS q w)(x:Str)(tb:List (Str×Str))(hx:(x,tb)∈q.ts):zdj P w K mg x tb:=zcQ X G (z7c (congrArg (fun z=>z.2.2.2.1) e) (x,tb) hx)
theorem z9F{p q:Program}{loose:List Str}{Xt:Shared->Bool}{α:Type}{Yf:Shared->α}{Ya:World->α}{N:Nat}{g0:Bool}(row:String) (bo:∀ w:World,(W.fencedOpening treeTable p w N).map (fun s=>(s.heap,s.gens,s.drawn,s.toks))=some (W.boot_heap w.params,Array.mk [],W.boot_drawn,W.boot_toks)) (hf:∀ (w:World)(os:OsState),(W.topFrom treeTable p (w.withFollow row false) N ⟨W.boot_heap w.params,Array.mk [],W.boot_drawn,W.boot_toks,os⟩).map (fun s=>(W.openSeen q loose (importedModules p.main.body) Xt g0 s,Yf s))=some (W.openGood q loose,Ya (w.withFollow row false))) (ht:∀ (w:World)(os:OsState),(W.topFrom treeTable p (w.withFollow row true) N ⟨W.boot_heap w.params,Array.mk [],W.boot_drawn,W.boot_toks,os⟩).map (fun s=>(W.openSeen q loose (importedModules p.main.body) Xt g0 s,Yf s))=some (W.openGood q loose,Ya (w.withFollow row true))):W.LeftO p q loose Xt Yf Ya N g0:= W.LeftO.of_split row fun w=>by
  obtain ⟨⟨h,gs,d,k,os⟩,e,e'⟩:=Option.map_eq_some_iff.mp (bo w);obtain ⟨rfl,rfl,rfl,rfl⟩:h=W.boot_heap w.params/\gs=Array.mk []/\d=W.boot_drawn/\k=W.boot_toks:=by simpa only [Prod.mk.injEq] using e'
  rw [e,Option.map_some,hf w os,ht w os]
theorem z4w{tb:String->Option Builtin}{p:Program}{w:World}{n₀:Nat}{ann:Option Value}:∀ {n:Nat}{s s':W.SharedT}{t:Thread},z1a tb p w n₀ ann n s t=some s'->W.topRun tb p w n₀ ann n s.abs t=some s'.abs
 | 0,_,_,_,h=>by cases h | n+1,s,s',t,h=>by
  unfold z1a at h;unfold W.topRun;cases he:W.through t with
  | true=>rw [he] at h;cases h;rfl | false=>
   rw [he] at h;cases hk:W.stepOk n₀ ann t with
   | false=>rw [hk] at h;cases h | true=>
    rw [hk] at h;cases hs:W.stepT (denote tb) p w s t with
    | none=>rw [hs] at h;cases h | some r=>obtain ⟨s₂,t₂⟩:=r;rw [hs] at h;rw [W.stepT_spec hs];exact z4w h
theorem z24{p:Program}{w:World}{N:Nat}{h:Heap}{d:Drawn}{k:Nat}{os:OsState}{t0:W.BT}{m₀:Nat}{ann:Option Value}(ha:W.absHeap t0 m₀ h.life=h) (sz:(h.isNs mainGlobals&&(Array.mk []:Array GenState).size==0,h.objs.size,h.nsMap mainGlobals "__annotations__")=(true,m₀,ann)){α:Type}{f:Shared->α}{v:α} (hr:(z1a treeTable p w m₀ ann N ⟨t0,m₀,h.life,Array.mk [],d,k,os⟩ (W.topStub p)).map (fun sT=>(W.staticsOk (importedModules p.main.body) h sT.abs.heap&&W.namesBound p sT.abs.heap&&W.gensDone sT.abs&&W.laidKept h sT.abs.heap,f sT.abs))=some (true,v)): (W.topFrom treeTable p w N ⟨h,Array.mk [],d,k,os⟩).map f=some v:=by
 obtain ⟨sT,e1,e2⟩:=Option.map_eq_some_iff.mp hr;obtain ⟨e3,e4⟩:=Prod.mk.inj e2;obtain ⟨z1,z2,z3⟩:_/\_/\_:=by simpa only [Prod.mk.injEq] using sz
 have r:=z4w e1;have a0:(⟨t0,m₀,h.life,Array.mk [],d,k,os⟩:W.SharedT).abs=⟨h,Array.mk [],d,k,os⟩:=by
  show (⟨W.absHeap t0 m₀ h.life,Array.mk [],d,k,os⟩:Shared)=_;rw [ha]
 rw [a0] at r;have t:W.topFrom treeTable p w N ⟨h,Array.mk [],d,k,os⟩=some sT.abs:=by
  unfold W.topFrom;dsimp only;rw [z1,z2,z3];dsimp only;rw [r];show (match (W.staticsOk (importedModules p.main.body) h sT.abs.heap&&W.namesBound p sT.abs.heap&&W.gensDone sT.abs&&W.laidKept h sT.abs.heap) with | true=>some sT.abs | false=>none)=_;rw [e3]
 rw [t,Option.map_some,e4]
theorem z5e{α β γ δ:Type}{r:Option α}{f:α->β}{g:α->γ}{k:α->δ}{x:β}{y:γ}{z:δ}(h1:r.map (fun s=>(f s,k s))=some (x,z))(h2:r.map g=some y):r.map (fun s=>(f s,(g s,k s)))=some (x,(y,z)):=by
 obtain ⟨s,e1,e2⟩:=Option.map_eq_some_iff.mp h1;obtain ⟨s',e3,e4⟩:=Option.map_eq_some_iff.mp h2;rw [e1] at e3;cases e3;obtain ⟨e5,e6⟩:=Prod.mk.inj e2;rw [e1,Option.map_some,e4,e5,e6]
theorem walkY{l:W.OpenLaw}{n k:Nat}{q:Program}{loose:List Str}{XP:(Str->Option Value)->Heap->Prop}{YP:World->Heap->Prop}{d:DefRec}{x:Str} (hn:l.most=some n)(hn2:n<=sizeLine)(hn3:n<=63)(hdf:d.params.defaults=[])(hr:z0q k callerA) (F:∀ (w:World)(mg:Str->Option Value)(fa:Addr)(h:Heap),YP w h->h.Ns mainGlobals mg->mg d.name=some (.ref fa)->XP mg h-> ∃ K:W.Frag,K.In h/\∃ fd:FuncData,(∀ (s:Shared)(u:Value),BindsTo s fd ⟨[u],[]⟩ [(x,u)])/\ ∀ base:Heap,K.In base->base.Ns mainGlobals mg->z2e l.prog w K mg base CX0 k fa fd [x] (zdC K)): W.WalkO q loose XP YP l.row.toRowW d [] (fun f vs=>PySem.call f vs):=by
 refine Att.z0P hn hdf fun w s₀ s₁ mg mb fa o pm cd doc a vs ns G Yy ho hd hcd hmg hobj hints hlen hg=>?_;obtain ⟨K,KX,fd,hb,hF⟩:=F w mg fa _ Yy G.T.g hmg G.X;exact z6X KX G.T.g G.T.b G.T.builtins G.T.nolimit hg hobj hints (Nat.le_trans hlen hn2) hr hF hb (fun H hO hS=>⟨a,ns,rfl,hO,hS,Nat.le_trans hlen hn3,fun _=>rfl⟩) fun H e s' z=>z
end Dd
namespace HT
open PySem.Spec
end HT
namespace L2
open PySem.Spec
end L2
namespace Dd
open PySem.Spec L2
section
variable {X:Cx}{E:XK}{e:Expr}{pos p2 p3 p4:Pos}
theorem zr.rev{mg:Gm}{H:Hp}{Y:List Addr}:∀ {xs:List D}{vs:List V},zr mg H Y xs vs->zr mg H Y xs.reverse vs.reverse
 | [],vs,h=>by simp only [zr] at h;subst h;exact zr.nil | d::ds,vs,h=>by
  simp only [zr] at h;obtain ⟨v,r,rfl,h1,h2⟩:=h;rw [List.reverse_cons,List.reverse_cons];exact (zr.rev h2).append (.one h1)
def zju(f:FE):FE:=fun Z s=>(f Z s).bind fun d s1=>match d with
 | .tup xs=>.ok (.tup xs.reverse) s1 | _=>.no
@[simp] theorem ziN (f:FE)(Z:Ev)(s:Sto):zju f Z s=(f Z s).bind fun d s1=>match d with
 | .tup xs=>.ok (.tup xs.reverse) s1 | _=>.no:=id rfl
end
section
variable {X:Cx}{E:XK}{e:Expr}{pos:Pos}
def zj4(i j k:Nat):FG:=fun d Z s=>match d with
 | .tup [x,y,z]=>.ok (((Z.set i (some x)).set j (some y)).set k (some z)) s | _=>.no
@[simp] theorem ziJ (i j k:Nat)(x y z:D)(Z:Ev)(s:Sto):zj4 i j k (.tup [x,y,z]) Z s=.ok (((Z.set i (some x)).set j (some y)).set k (some z)) s:=id rfl
end
section
variable {X:Cx}{E:XK}{e a b c:Expr}{es:List Expr}{pos:Pos}
def zfQ:D->D->Sto->R D:=dII fun i j=>if 0<=j/\j<=100/\i.natAbs<BIG then iOk (.int (i ^ j.toNat)) else .no
def z9Y(x y:D)(s:Sto):R D:=(dIs x y s).bind fun d s1=>match d with | .bl k=>.ok (.bl (!k)) s1 | _=>.no
variable {jA:List Expr}
def zjw(fa fb:FE):FE:=fun Z s=>(fa Z s).bind fun x s1=>match x with | .int i=>if i=0 then fb Z s1 else .ok (.int i) s1 | .non=>fb Z s1 | _=>.no
@[simp] theorem zj1 (fa fb:FE)(Z:Ev)(s:Sto):zjw fa fb Z s=(fa Z s).bind fun x s1=>match x with | .int i=>if i=0 then fb Z s1 else .ok (.int i) s1 | .non=>fb Z s1 | _=>.no:=id rfl
@[simp] theorem zgJ (x:Int)(s:Sto):z9Y (.int x) .non s=.ok (.bl true) s:=id rfl
@[simp] theorem zfI (s:Sto):z9Y .non .non s=.ok (.bl false) s:=id rfl
@[simp] theorem zfy (a b:Bool)(s:Sto):z9Y (.bl a) (.bl b) s=.ok (.bl (!(a==b))) s:=id rfl
end
section
variable {X:Cx}{E:XK}{e o a b c:Expr}{es:List Expr}{pos:Pos}
def zh0:D->D->Sto->R D
 | x,.int k,s=>match listOf s x with
  | some xs=>if xs.length*k.toNat<=cap/\-(2 ^ 62)<=k/\k<2 ^ 62/\D.flat.flats (List.replicate k.toNat xs).flatten=true then .ok (.loc s.length) (s++[(List.replicate k.toNat xs).flatten]) else .no | none=>.no
 | _,_,_=>.no
def zg2(fo fv:FE):FE:=fun Z s=>(fo Z s).bind fun o s1=>match o with
 | .loc l=>(fv Z s1).bind fun d s2=>match s2[l]?,d with
  | some xs,.int i=>if 0<=i/\i<2 ^ 62 then (match xs[i.toNat]? with | some y=>.ok y (s2.set l (xs.eraseIdx i.toNat)) | none=>.no) else .no | _,_=>.no
 | _=>.no
@[simp] theorem zgM (fo fv:FE)(Z:Ev)(s:Sto):zg2 fo fv Z s=(fo Z s).bind fun o s1=>match o with
 | .loc l=>(fv Z s1).bind fun d s2=>match s2[l]?,d with
  | some xs,.int i=>if 0<=i/\i<2 ^ 62 then (match xs[i.toNat]? with | some y=>.ok y (s2.set l (xs.eraseIdx i.toNat)) | none=>.no) else .no | _,_=>.no
 | _=>.no:=id rfl
end
section
variable {X:Cx}{E:XK}{pos:Pos}
def zfF(c:Str):FS:=fun _ s=>.ex c s
end
section
variable {P:Program}{w:World}{K:W.Frag}{mg:Str->Option Value}{base:Heap}
def zjF(M:Mir):Mir:=fun ds s=>match M ds s with | .ex _ _=>.no | r=>r
end
def zhL(f:FS):FS:=fun Z s=>match f Z s with | .ex _ _=>.no | r=>r
@[simp] theorem zhN (f:FS)(Z:Ev)(s:Sto):zhL f Z s=(match f Z s with | .ex _ _=>.no | r=>r):=id rfl
@[simp] theorem ziV (M:Mir)(ds:List D)(s:Sto):zjF M ds s=(match M ds s with | .ex _ _=>.no | r=>r):=id rfl
@[simp] theorem zgK (c:Str)(Z:Ev)(s:Sto):zfF c Z s=.ex c s:=id rfl
end Dd
namespace PySem
open PySem.Sem (wp)
end PySem
namespace Dd
open PySem.Spec L2
end Dd
namespace PySem
open PySem.Sem (wp)
open PySem.W
end PySem
namespace L2
open PySem.Spec
end L2
namespace Dd
open PySem.Spec L2
section
variable {X:Cx}{E:XK}{e a b c tg:Expr}{es:List Expr}{pos:Pos}{CX:CXT}
def zgG(T U:String):D->Sto->R D:=fun d s=>match tyD d with | some t=>.ok (.bl (isT T t||isT U t)) s | none=>.no
def zfk(T U:String)(f:FE):FE:=fun Z s=>(f Z s).bind fun d s1=>zgG T U d s1
end
end Dd
namespace L2
open PySem.Spec
open MeetsSeq MeetsSeq2 SeqAt
end L2
namespace Dd
open PySem.Spec L2
end Dd
namespace L2
open PySem.Spec
end L2
namespace Dd
open PySem.Spec L2
end Dd
namespace PySem
open PySem.AutoSeq1 (wpAny_loadPart')
open MeetsSeq MeetsSeq2 SeqAt
end PySem
namespace L2
open PySem.Spec
end L2
namespace Dd
open PySem.Spec L2
section
variable {X:Cx}{E:XK}
def zhm:D->D->Sto->R D
 | .tup xs,.int k,s=>if 1<=k/\xs≠[]/\xs.length*k.toNat<=cap then .ok (.tup (List.replicate k.toNat xs).flatten) s else .no | _,_,_=>.no
@[simp] theorem zhn (xs:List D)(k:Int)(s:Sto):zhm (.tup xs) (.int k) s=if 1<=k/\xs≠[]/\xs.length*k.toNat<=cap then .ok (.tup (List.replicate k.toNat xs).flatten) s else .no:=id rfl
end
end Dd
namespace L2
open PySem.Spec
end L2
namespace Dd
open PySem.Spec L2
section
variable {K:W.Frag}{mg:Str->Option Value}(G:∀ (x:Str)(v:Value),W.nsIn K mainGlobals x=some (some v)->mg x=some v)
include G
end
end Dd
namespace PySem
end PySem
namespace L2
open PySem.Spec
end L2
namespace Dd
open PySem.Spec L2
open PySem.W
def kev{α:Type}(n:Nat)(lt:Nat->Nat->Bool):KasT α->Option α
 | .ret a=>some a | .ask i j k=>if i<n/\j<n then kev n lt (k (lt i j)) else none
def lexLt(p q:Int×Int):Bool:=if p.1=q.1 then (if p.2=q.2 then false else decide (p.2<q.2)) else decide (p.1<q.1)
section
variable {X:Cx}{E:XK}
def zc3:List D->Option (List (Int×Int))
 | []=>some [] | .tup [.int a,.int b]::r=>(zc3 r).map fun t=>(a,b)::t | _=>none
def zcY:List D->Sto->R D
 | [d],s=>match listOf s d with
  | some xs=>match zc3 xs with
   | some ps=>if 2<=xs.length/\xs.length<64 then match kev ps.length (fun i j=>lexLt (ps.getD i (0,0)) (ps.getD j (0,0))) (kas_sort ps.length) with
     | some p=>if p.toList.all (fun i=>decide (i<xs.length))=true/\p.toList.length=xs.length then .ok (.lst (p.toList.map fun i=>xs.getD i .non)) s else .no | none=>.no else .no | none=>.no
  | none=>.no
 | _,_=>.no
end
end Dd
namespace L2
open PySem.Spec
open PySem.Builtin.Str
end L2
namespace Dd
open PySem.Spec L2 PySem.Builtin.Str
section
variable {X:Cx}{E:XK}{o e v1 v2:Expr}{apos cpos dpos p1 p2 pos:Pos}{k1 k2:Str}{j1 j2:Nat}
def zh4(k1 k2:Str)(f1 f2 fe:FE):FE:=fun Z s=>(f1 Z s).bind fun x1 s1=>(f2 Z s1).bind fun x2 s2=>(fe Z s2).bind fun y s3=>match y with
 | .str k=>.ok (if k=k1 then x1 else if k=k2 then x2 else .non) s3 | _=>.no
end
end Dd
namespace Dd
open PySem.Spec L2
section
variable {X:Cx}{E:XK}{es:List Expr}{fa:FE}{fr:FA}
theorem aN{x:Str}{p:Pos}(ha:RE X E (.Name x p) fa)(hr:RA X E es fr):RA X E ((.Name x p)::es) (zb fa fr):=jL ha hr (zB ..)
theorem aK{c:Const}{j:Nat}{p:Pos}(ha:RE X E (.Constant c j p) fa)(hr:RA X E es fr):RA X E ((.Constant c j p)::es) (zb fa fr):=jL ha hr (z2v ..)
theorem aQ{g:Expr}{xs:List Expr}{ks:List Keyword}{p:Pos}(ha:RE X E (.Call g xs ks p) fa)(hr:RA X E es fr):RA X E ((.Call g xs ks p)::es) (zb fa fr):=jL ha hr (qh ..)
theorem aT{xs:List Expr}{k:Nat}{p:Pos}(ha:RE X E (.Tuple xs k p) fa)(hr:RA X E es fr):RA X E ((.Tuple xs k p)::es) (zb fa fr):=jL ha hr (zaS ..)
theorem aS{a b:Expr}{p:Pos}(ha:RE X E (.Subscript a b p) fa)(hr:RA X E es fr):RA X E ((.Subscript a b p)::es) (zb fa fr):=jL ha hr (z6N ..)
theorem aB{a b:Expr}{o:Operator}{p:Pos}(ha:RE X E (.BinOp a o b p) fa)(hr:RA X E es fr):RA X E ((.BinOp a o b p)::es) (zb fa fr):=jL ha hr (zaM ..)
theorem aL{xs:List Expr}{p:Pos}(ha:RE X E (.List xs p) fa)(hr:RA X E es fr):RA X E ((.List xs p)::es) (zb fa fr):=jL ha hr (zb9 ..)
theorem aO{a:Expr}{g:List Comprehension}{sc:Scope}{p:Pos}(ha:RE X E (.ListComp a g sc p) fa)(hr:RA X E es fr):RA X E ((.ListComp a g sc p)::es) (zb fa fr):=jL ha hr (xg ..)
theorem aM{a:Expr}{o:List CmpOp}{b:List Expr}{p:Pos}(ha:RE X E (.Compare a o b p) fa)(hr:RA X E es fr):RA X E ((.Compare a o b p)::es) (zb fa fr):=jL ha hr (z6v ..)
end
section
variable {q:Ask}{w:World}{K:W.Frag}{h:Heap}{mg:Str->Option Value}
theorem zN(X:K.In h)(G:h.Ns mainGlobals mg)(e:zac q K=valS q w)(i:Nat){x:Str}{st:Stmt}(hx:q.fs[i]? = some (x,st)):∃ f fd,mg x=some (.ref f)/\Fun K x x st f fd:=let ⟨f,fd,a,F⟩:=zic e x st (List.mem_of_getElem? hx);⟨f,fd,W.mg_of X G a,F⟩
theorem ue(X:K.In h)(G:h.Ns mainGlobals mg)(e:zac q K=valS q w)(i:Nat){x:Str}(hx:q.bs[i]? = some x):mg x=none:=W.mg_none_of X G (zhv e x (List.mem_of_getElem? hx))
theorem z4j(X:K.In h)(G:h.Ns mainGlobals mg)(e:zac q K=valS q w)(i:Nat){x:Str}{c:Int}(hx:q.cs[i]? = some (x,c)):∃ t,mg x=some (.int c t):=let ⟨t,z⟩:=zik e x c (List.mem_of_getElem? hx);⟨t,W.mg_of X G z⟩
end
open PySem.W
end Dd
namespace Dd
open PySem.Spec L2
section
variable {X:Cx}{E:XK}{e:Expr}{pos pos':Pos}
def zet(i:Nat)(f:FE):FS:=fun Z s=>match Z[i]? with
 | some (some (.int a))=>(f Z s).bind fun d s1=>match d with | .int b=>.ok (.nx (Z.set i (some (.int (a+b))))) s1 | _=>.no
 | _=>.no
theorem zi6(i:Nat){x:Str}{f:FE}(hN:X.N.Nodup)(he:RE X E e f)(hi:X.N[i]? = some x:=by rfl)(hx:Loc X.env.scope x:=by first | exact Or.inl rfl | exact Or.inr rfl)(hf:X.fn x=true\/X.env.scope.names.lookup x=some .local:=by first | exact .inl rfl | exact .inr rfl | assumption): RS X E (.AugAssign (.Name x pos') .Add e pos) (zet i f):= vy (zgv hN hi hx he zge hf) fun D O H ⟨Y,Z,s,r,en,h⟩=>by
  unfold zet at h;split at h
  ·rename_i a ea;obtain ⟨v,h1,h2⟩:=en.at_ i _ ea;cases zT h2;refine ⟨_,h1,?_⟩;refine zO (k:=fun Z d s1=>match d with | .int b=>R.ok (Fl.nx (Z.set i (some (.int (a+b))))) s1 | _=>.no) r en h _ fun v H1 Y1 s1 d r1 en1 dn stp h3=>?_;cases d with
   | int b=>
    cases zT dn;refine ⟨_,_,rfl,rfl,?_⟩;exact okR.here (b:=FlV.nx (O.set i (some (.int (a+b))))) h3 r1 (en1.set (by simp [Den]) i) | _=>exact h3.elim
  ·exact h.elim
@[simp] theorem ziI {i:Nat}{f:FE}{Z:Ev}{s:Sto}{a b:Int}{s1:Sto}(h:Z[i]? = some (some (.int a)))(hf:f Z s=.ok (.int b) s1):zet i f Z s=.ok (.nx (Z.set i (some (.int (a+b))))) s1:=by simp only [zet,h,hf,R.bind_ok]
end
open PySem.W
end Dd
namespace Dd
open PySem.Spec L2
section
variable {X:Cx}{E:XK}{tg:Expr}{p:Pos}{x:Str}{ks:List Str}
def zhh(ks:List Str):FI:=fun _ s=>.ok (ks.map D.str,[]) s
@[simp] theorem zh2 (ks:List Str)(Z:Ev)(s:Sto):zhh ks Z s=.ok (ks.map D.str,[]) s:=id rfl
end
end Dd
namespace L2
open PySem.Spec
theorem z3r(its:List Value):slicePick its.toArray none none (some (-1))=its.reverse.toArray:=by
 unfold slicePick;have e:sliceRange (sliceBounds none none (some (-1)) its.toArray.size).1 (sliceBounds none none (some (-1)) its.toArray.size).2.1 (sliceBounds none none (some (-1)) its.toArray.size).2.2=(List.range its.length).map fun k=>its.length-1-k:=by
  simp only [sliceBounds,Option.getD_some,List.size_toArray];unfold sliceRange;have c:(if (-1:Int) > 0 then (if ((its.length:Int)-1) < -1 then (-1-((its.length:Int)-1)+-1-1) / -1 else 0) else if ((its.length:Int)-1) > -1 then (((its.length:Int)-1) - -1 - -1-1) / - -1 else 0).toNat=its.length:=by
   rw [if_neg (by decide)];by_cases h:its.length=0;·rw [h];rfl
   ·rw [if_pos (by omega)];have:(((its.length:Int)-1) - -1 - -1-1) / - -1=its.length:=by simp
    rw [this];simp
  simp only [show ¬ ((-1:Int) > 0) by decide,if_false] at c ⊢;rw [c];refine List.map_congr_left fun k hk=>?_;have:=List.mem_range.mp hk;omega
 rw [e];congr 1;have key:∀ k,k<=its.length->((List.range k).map fun k=>its.length-1-k).filterMap (fun x=>its.toArray[x]?)=its.reverse.take k:=by
  intro k;induction k with
  | zero=>simp | succ k ih=>
   intro hk;rw [List.range_succ,List.map_append,List.filterMap_append,ih (by omega)];have hl:k<its.reverse.length:=by simp;omega
   rw [List.take_succ,List.getElem?_eq_getElem hl];have h2:its.length-1-k<its.length:=by omega
   simp [h2]
 rw [key _ (Nat.le_refl _),List.take_of_length_le (by simp)]
section
variable {X:Cx}{e m:Expr}{te:TE}{pos p2:Pos}
def zi7(K:W.Frag)(te:TE):TE:=fun O H Q=>te O H fun x H1=>∃ a xs,x=.ref a/\SqL K H1 a xs/\∀ p,H1 p=none->Q (.ref p) (upd H1 p (.lst xs.reverse))
theorem zee (he:PE X e te) (hm:∀ (pins:List (Addr×Obj)) (s:Shared) (O:St) (H:Hp),Inv X pins O H s->wpAny (model X.prog X.w) X.A (evalPart (some m) X.env) (fun u s'=>∃ t,u=.int (-1) t/\Inv X pins O H s') X.xe s): PE X (.Subscript e (.Slice none none (some m) p2) pos) (zi7 X.K te):=by
 intro pins s O H Q I h;refine Subscript_ (thn (he pins s O H _ I h) fun v s1 ⟨x,H1,I1,r1,q1⟩=>?_);refine wpAny_Slice ?_;rw [evalPart_none];refine wpAny_pure (wpAny_pure ?_);refine thn (hm pins s1 O H1 I1) fun u s3 ⟨t,eu,I3⟩=>?_;subst eu;have I4:Inv X pins O H1 {s3 with heap:=s3.heap.push {cls:=.type "slice",data:=.fields #[.none,.none,.int (-1) t]}}:=I3.kept (t':=s3.toks) fun b ob q=>Heap.get?_push_of_some _ q;obtain ⟨a,xs,rfl,hx,q⟩:=q1;cases r1;obtain ⟨its,r,ht,hz⟩:=I4.list hx;show wpAny (model X.prog X.w) X.A (subscriptTail e (.Slice none none (some m) p2) (.ref a) (.ref s3.heap.objs.size)) (EP X pins O Q) X.xe {s3 with heap:=s3.heap.push {cls:=.type "slice",data:=.fields #[.none,.none,.int (-1) t]}};refine tail_any (ops:=[.ref a,.ref s3.heap.objs.size]) ht.isList.typeIs slot_list_getitem.lookup ?_ (by with_unfolding_all rfl);have hlen:=r.length;refine wpAny_getItem_list_slice ht.isList (Heap.IsSliceOf.new ..) .none .none (.int _ _) (by simp) ?_ (by rw [List.size_toArray]<;>omega);rw [z3r];refine ⟨.ref _,_,I4.laid (t':=s3.toks) (o:=.lst xs.reverse) (fun b ob q=>Heap.get?_push_of_some _ q) (Nat.le_refl _) ?_,rfl,q _ (I4.hok.fresh (Nat.le_refl _))⟩;have hr:xb xs.reverse its.reverse:=by
  clear hx hz ht q I4 hlen;induction r with
  | nil=>exact .nil | cons p _ ih=>rw [List.reverse_cons,List.reverse_cons];exact ih.append (.cons p .nil)
 exact ⟨by simpa using hz,_,0,hr,Heap.get?_push_size _ rfl⟩
end
end L2
namespace Dd
open PySem.Spec L2
section
variable {X:Cx}{E:XK}{e:Expr}{pos p2 p3 p4:Pos}
def z9z(f:FE):FE:=fun Z s=>(f Z s).bind fun d s1=>match listOf s1 d with
 | some xs=>.ok (.lst xs.reverse) s1 | none=>.no
theorem zfs {j:Nat} {f:FE} (he:RE X E e f):RE X E (.Subscript e (.Slice none none (some (.UnaryOp .USub (.Constant (.int 1) j p3) p4)) p2) pos) (z9z f):= zV (zee he fun pins s O H I=>by
  rw [evalPart_some];refine thn ((zg3 (pos:=p4) zbX (zcr (i:=1) (j:=j) (pos:=p3))) pins s O H (fun v H1=>v=.int (-1)/\H1=H) I ?_) fun u s1 ⟨x,H1,I1,r1,e1,e2⟩=>?_;·exact ⟨1,rfl,rfl,rfl⟩
  ·subst e1 e2;obtain ⟨t,rfl⟩:=r1;exact ⟨t,rfl,I1⟩).freeze fun O H Q ⟨Y,Z,s,r,en,h⟩=>by
  unfold z9z at h;refine ⟨Y,Z,s,r,en,(okR.bind (Dn:=Den (gm X)) h).imp fun v H1 ⟨Y1,s1,d,stp,dn,h1⟩=>?_⟩;split at h1
  ·rename_i xs ex;obtain ⟨a,ws,rfl,q1,q2⟩:=zM stp.rep ex dn;exact ⟨a,ws,rfl,.inl q1,jC stp.rep h1 q2.rev⟩
  ·exact h1.elim
@[simp] theorem zcG (f:FE)(Z:Ev)(s:Sto):z9z f Z s=(f Z s).bind fun d s1=>match listOf s1 d with
 | some xs=>.ok (.lst xs.reverse) s1 | none=>.no:=id rfl
end
def kc:List D->Option (List Key)
 | []=>some [] | .int i::r=>(kc r).map (Sum.inl i::·) | .str x::r=>(kc r).map (Sum.inr x::·) | _=>none
def vV:D->Option V
 | .int i=>some (.int i) | .bl b=>some (.bl b) | _=>none
def vD:V->D
 | .int i=>.int i | .bl b=>.bl b | _=>.non
def encD(kvs:List (List Key×V)):List D:=kvs.map fun p=>.tup [.tup (p.1.map z55),vD p.2]
def z69:List D->Option (List (List Key×V))
 | []=>some [] | .tup [.tup ks,.int i]::r=>(kc ks).bind fun k=>(z69 r).map ((k,V.int i)::·) | .tup [.tup ks,.bl b]::r=>(kc ks).bind fun k=>(z69 r).map ((k,V.bl b)::·) | _=>none
theorem z0v:∀ k:List Key,kc (k.map z55)=some k
 | []=>rfl | .inl i::k=>by simp [z55,kc,z0v k] | .inr x::k=>by simp [z55,kc,z0v k]
theorem z31:∀ {ds:List D}{k:List Key},kc ds=some k->ds=k.map z55
 | [],k,e=>by simp [kc] at e;subst e;rfl | .int i::r,k,e=>by
  simp only [kc,Option.map_eq_some_iff] at e;obtain ⟨a,h1,rfl⟩:=e;rw [z31 h1];rfl | .str i::r,k,e=>by
  simp only [kc,Option.map_eq_some_iff] at e;obtain ⟨a,h1,rfl⟩:=e;rw [z31 h1];rfl | .non::_,_,e=>by simp [kc] at e | .bl _::_,_,e=>by simp [kc] at e | .tup _::_,_,e=>by simp [kc] at e | .lst _::_,_,e=>by simp [kc] at e | .dct::_,_,e=>by simp [kc] at e | .loc _::_,_,e=>by simp [kc] at e | .dlo _::_,_,e=>by simp [kc] at e | .fn _::_,_,e=>by simp [kc] at e | .exc _::_,_,e=>by simp [kc] at e | .scr _::_,_,e=>by simp [kc] at e
theorem z0o{mg:Gm}{H:Hp}{Y:List Addr}:∀ {k:List Key}{vs:List V},zr mg H Y (k.map z55) vs->vs=k.map kV
 | [],_,h=>by simpa [zr] using h | .inl i::k,vs,h=>by
  simp only [List.map_cons,zr] at h;obtain ⟨v,r,rfl,h1,h2⟩:=h;rw [zT h1,z0o h2];rfl | .inr i::k,vs,h=>by
  simp only [List.map_cons,zr] at h;obtain ⟨v,r,rfl,h1,h2⟩:=h;rw [z2H h1,z0o h2];rfl
theorem z3y{mg:Gm}{H:Hp}{Y:List Addr}:∀ (k:List Key),zr mg H Y (k.map z55) (k.map kV)
 | []=>by simp [zr] | .inl i::k=>by simp only [List.map_cons];exact zr.cons (by simp [z55,kV,Den]) (z3y k) | .inr i::k=>by simp only [List.map_cons];exact zr.cons (by simp [z55,kV,Den]) (z3y k)
theorem z91{v:V}{x:D}(h:z7W v=some x):x=vD v:=by cases v<;>simp [z7W] at h<;>simp [vD,h]
theorem zfu{d:D}{u:V}(h:vV d=some u):z7W u=some d/\vD u=d:=by cases d<;>simp [vV] at h<;>subst h<;>exact ⟨rfl,rfl⟩
theorem zfW{mg:Gm}{H:Hp}{Y:List Addr}{d:D}{u v:V}(h:vV d=some u)(dn:Den mg H Y d v):v=u:=by cases d with
 | int i=>simp [vV] at h;subst h;exact zT dn | bl b=>simp [vV] at h;subst h;exact qu dn | _=>simp [vV] at h
def z9U(kvs:List (List Key×V)):Prop:=∀ p∈kvs,(z7W p.2).isSome=true
theorem z14:∀ {xs:List D}{kvs:List (List Key×V)},zbz xs kvs->xs=encD kvs/\z9U kvs/\z69 xs=some kvs
 | [],kvs,h=>by simp only [zbz] at h;subst h;exact ⟨rfl,(fun p hp=>by simp at hp),rfl⟩ | d::ds,kvs,h=>by
  simp only [zbz] at h;obtain ⟨k,v,x,r,rfl,h1,rfl,h2⟩:=h;obtain ⟨i1,i2,i3⟩:=z14 h2;refine ⟨?_,fun p hp=>?_,?_⟩
  ·rw [z91 h1];show _::ds=encD ((k,v)::r);rw [encD,List.map_cons];congr 1
  ·rcases List.mem_cons.mp hp with rfl | hp;·rw [h1];rfl
   ·exact i2 p hp
  ·cases v with
   | int i=>simp only [z7W,Option.some.injEq] at h1;subst h1;simp [z69,z0v,i3] | bl b=>simp only [z7W,Option.some.injEq] at h1;subst h1;simp [z69,z0v,i3] | _=>simp [z7W] at h1
theorem z2V:∀ {kvs:List (List Key×V)},z9U kvs->zbz (encD kvs) kvs
 | [],_=>rfl | (k,v)::r,h=>by
  obtain ⟨x,hx⟩:=Option.isSome_iff_exists.mp (h (k,v) (by simp));refine ⟨k,v,x,r,rfl,hx,?_,z2V fun p hp=>h p (by simp [hp])⟩;rw [z91 hx]
theorem dec_enc{kvs:List (List Key×V)}(h:z9U kvs):z69 (encD kvs)=some kvs:=(z14 (z2V h)).2.2
theorem Rep.dicU{mg:Gm}{H:Hp}{Y:List Addr}{s:Sto}(r:Rep mg H Y s){l:Nat}{xs:List D}{a:Addr}{kvs:List (List Key×V)}(h:s[l]? = some xs)(ha:Y[l]? = some a)(k:IsC H a)(hd:z69 xs=some kvs):H a=some (.dT kvs)/\z9U kvs/\xs=encD kvs:=by
 rcases r.dic h ha k with ⟨kvs',q1,q2⟩ | ⟨o,kvs',ys,q1,rfl,q2⟩
 ·obtain ⟨z1,z2,z3⟩:=z14 q2;rw [z3] at hd;cases hd;exact ⟨q1,z2,z1⟩
 ·simp [z69] at hd
theorem z3v:∀ k:List Key,D.flat.flats (k.map z55)=true
 | []=>rfl | .inl i::k=>by simp [z55,D.flat.flats,D.flat,z3v k] | .inr i::k=>by simp [z55,D.flat.flats,D.flat,z3v k]
theorem z2O:∀ kvs:List (List Key×V),D.flat.flats (encD kvs)=true
 | []=>rfl | (k,v)::r=>by
  have:(vD v).flat=true:=by cases v<;>rfl
  simp only [encD,List.map_cons,D.flat.flats,D.flat,z3v,this,Bool.and_true,Bool.true_and];exact z2O r
theorem z9U.put{kvs:List (List Key×V)}{k:List Key}{u:V}(h:z9U kvs)(hu:(z7W u).isSome=true):z9U (um kvs k u):=by
 unfold um;split
 ·intro p hp;obtain ⟨q,hq,rfl⟩:=List.mem_map.mp hp;split;·exact hu
  ·exact h q hq
 ·intro p hp;rcases List.mem_append.mp hp with hp | hp;·exact h p hp
  ·simp only [List.mem_cons,List.not_mem_nil,or_false] at hp;subst hp;exact hu
section
variable {X:Cx}{E:XK}{o i e value:Expr}{pos pos':Pos}
def zdc:FE:=fun _ s=>.ok (.dlo s.length) (s++[[]])
theorem zca:RE X E (.Dict [] [] pos) zdc:=zV zbu fun O H Q ⟨Y,Z,s,r,en,h⟩ p hp=>by
 refine h _ _ _ (xS.layC r hp (o:=.dT []) (.inr (.inl ⟨[],zK,rfl⟩)) rfl) ?_;simp only [Den];exact ⟨p,rfl,by rw [<- r.len];simp,.inl ⟨[],zK⟩⟩
def z6d(fo fk fv:FE):FS:=fun Z s=>(fv Z s).bind fun v s1=>(fo Z s1).bind fun o s2=>(fk Z s2).bind fun k s3=>match o,k,vV v with
 | .dlo l,.tup ks,some u=>match (s3[l]?).bind z69,kc ks with
  | some kvs,some key=>if kvs.length<cap then .ok (.nx Z) (s3.set l (encD (um kvs key u))) else .no | _,_=>.no
 | _,_,_=>.no
theorem z8q {fo fk fv:FE} (hu:X.A.units+64<cLine) (hv:RE X E value fv) (ho:RE X E o fo) (hi:RE X E i fk) (hs:swapsWith value (some (.Subscript o i pos')) pos.line X.env=pure false:=by rfl): RS X E (.Assign [.Subscript o i pos'] value pos) (z6d fo fk fv):= vy (zcO (by omega) ho hi hv hs) fun D O H ⟨Y,Z,s,r,en,h⟩=>by
  unfold z6d at h;refine zO (k:=fun Z v s1=>(fo Z s1).bind fun o s2=>(fk Z s2).bind fun k s3=>match o,k,vV v with
   | .dlo l,.tup ks,some u=>match (s3[l]?).bind z69,kc ks with
    | some kvs,some key=>if kvs.length<cap then R.ok (Fl.nx Z) (s3.set l (encD (um kvs key u))) else .no | _,_=>.no
   | _,_,_=>.no) r en h _ fun v H1 Y1 s1 d r1 en1 dn stp h1=>?_;refine zO (k:=fun Z o s2=>(fk Z s2).bind fun k s3=>match o,k,vV d with
   | .dlo l,.tup ks,some u=>match (s3[l]?).bind z69,kc ks with
    | some kvs,some key=>if kvs.length<cap then R.ok (Fl.nx Z) (s3.set l (encD (um kvs key u))) else .no | _,_=>.no
   | _,_,_=>.no) r1 en1 h1 _ fun v2 H2 Y2 s2 od r2 en2 dn2 stp2 h2=>?_;refine zO (k:=fun Z k s3=>match od,k,vV d with
   | .dlo l,.tup ks,some u=>match (s3[l]?).bind z69,kc ks with
    | some kvs,some key=>if kvs.length<cap then R.ok (Fl.nx Z) (s3.set l (encD (um kvs key u))) else .no | _,_=>.no
   | _,_,_=>.no) r2 en2 h2 _ fun v3 H3 Y3 s3 kd r3 en3 dn3 stp3 h3=>?_;split at h3
  ·rename_i l ks u eu;split at h3
   ·rename_i kvs key ek edk;split at h3
    ·rename_i hl;have dv:=(dn.mono stp2).mono stp3;obtain rfl:u=v:=(zfW eu dv).symm;have dov:=dn2.mono stp3;simp only [Den] at dov;obtain ⟨a,rfl,e1,ka⟩:=dov;obtain ⟨xs,ex,edc⟩:=Option.bind_eq_some_iff.mp ek;obtain ⟨q1,z2,z1⟩:=r3.dicU ex e1 ka edc;rw [z31 edk] at dn3;simp only [Den] at dn3;obtain ⟨b,vs,rfl,hb,hd⟩:=dn3;rw [z0o hd] at hb;have ap:=z2.put (k:=key) (u:=u) (by rw [(zfu eu).1];rfl);have stp4:=xS.putC (l:=l) (o:=.dT (um kvs key u)) r3 e1 (.putC ⟨_,q1⟩ (.inl ⟨_,rfl⟩)) (.inr (.inl ⟨_,zK,z2V ap⟩)) (z2O _);exact ⟨a,_,rfl,zgu.t q1 hb (Nat.lt_of_lt_of_le hl (by decide)),h3 (.nx O) _ _ stp4 (en3.mono stp4)⟩
    ·exact h3.elim
   ·exact h3.elim
  ·exact h3.elim
end
theorem zal {prog:Program} {w:World} {A:Around} {E:Value->Shared->Prop} {s:Shared} {it d:Addr} {i ep:Nat} {o:Obj} {es:Array DictEntry} {e:DictEntry} {Q:Option Value->Shared->Prop} (hit:s.heap.IsKeyIter it d i es.size ep) (hod:s.heap.get? d=some o) (hdd:o.data=.dict es ep) (he:es[i]? = some e) (hQ:∀ h':Heap,h'.IsKeyIter it d (i+1) es.size ep->Heap.SameBut it s.heap h'->Q (some e.key) {s with heap:=h'}):wpAny (model prog w) A (pyNext (.ref it)) Q E s:=by
 obtain ⟨oi,ho,hc,hd⟩:=id hit;refine wpAny_bind (wpAny_attempt (wpAny_callSpecial?_slot hit.typeIs F.slot_dict_keyiterator_next (wpAny_call_entry F.slot_dict_keyiterator_next hit.typeIs F.entry_dict_keyiterator_next ?_ (F.args_dict_keyiterator_next_1 _))));refine wpAny_bind (wpAny_pure (wpAny_bind (wpAny_bind (wpAny_bind (wpAny_typeNameOfWhole_keyiter hit.typeIs (wpAny_pure (wpAny_bind (wpAny_fieldsOf ho hd ?_))))))));have hown:Builtin.Dict_items.ownsTuple "dict_keyiterator"=false:=by decide +kernel
 rw [hown];simp only [Bool.false_eq_true,if_false,List.drop_zero];show wpAny _ _ (if (Value.ref d==Value.none)=true then _ else _) _ _ _;rw [if_neg (by simp)];refine wpAny_bind (wpAny_pure (wpAny_bind (wpAny_dictEntries hod hdd ?_)));rw [if_neg (by simp)];refine wpAny_bind (wpAny_pure (wpAny_bind (wpAny_dictEpoch hod hdd ?_)));rw [if_neg (by simp)];refine wpAny_pure ?_;have hi:(if (i:Int)<0 then none else es[(i:Int).toNat]?)=some e:=by rw [if_neg (by omega)];simpa using he
 show wpAny _ _ (match (if (i:Int)<0 then none else es[(i:Int).toNat]?) with | some e=>_ | none=>_) _ _ _;rw [hi];refine wpAny_bind (wpAny_bind (wpAny_typeNameOfWhole_keyiter hit.typeIs (wpAny_pure ?_)));rw [hown];refine wpAny_bind (wpAny_isOneOf_keyiter hit.typeIs ?_);refine wpAny_bind (wpAny_setField ho hd (show 1<4 by decide) ?_);have st':∀ g:Array Value->Array Value,g #[Value.ref d,Value.int (i:Int) 0,Value.int (es.size:Int) 0,Value.int (ep:Int) 0]=#[Value.ref d,Value.int ((i+1:Nat):Int) 0,Value.int (es.size:Int) 0,Value.int (ep:Int) 0]->(s.heap.update it (Obj.mapFields g)).IsKeyIter it d (i+1) es.size ep:=fun g hg=>by
  obtain ⟨c0,d0,da,sl⟩:=oi;simp only at hc hd;subst hc hd;refine ⟨_,Heap.get?_update_self _ ho rfl,rfl,?_⟩;show Data.fields (g _)=_;rw [hg]
 have st2:=st' (fun x=>x.setIfInBounds 1 (rawInt ((i:Int)+1))) (by simp [rawInt]);refine wpAny_bind (wpAny_holding ?_);refine wpAny_bind (wpAny_isOneOf_keyiter st2.typeIs ?_);rw [if_pos (by decide +kernel)];refine wpAny_pure (wpAny_pure ⟨_,rfl,wpAny_pure ?_⟩);exact hQ _ st2 (Heap.SameBut.update ..)
theorem zcE {prog:Program} {w:World} {A:Around} {E:Value->Shared->Prop} {s:Shared} {it d:Addr} {i ep:Nat} {o:Obj} {es:Array DictEntry} {Q:Option Value->Shared->Prop} (hh:A.handled=none) (hit:s.heap.IsKeyIter it d i es.size ep) (hod:s.heap.get? d=some o) (hdd:o.data=.dict es ep) (he:es[i]? = none) (hQ:∀ h':Heap,Heap.ExtBut it s.heap h'->Q none {s with heap:=h'}):wpAny (model prog w) A (pyNext (.ref it)) Q E s:=by
 obtain ⟨oi,ho,hc,hd⟩:=id hit;refine wpAny_bind (wpAny_attempt (wpAny_callSpecial?_slot hit.typeIs F.slot_dict_keyiterator_next (wpAny_call_entry F.slot_dict_keyiterator_next hit.typeIs F.entry_dict_keyiterator_next ?_ (F.args_dict_keyiterator_next_1 _))));refine wpAny_bind (wpAny_pure (wpAny_bind (wpAny_bind (wpAny_bind (wpAny_typeNameOfWhole_keyiter hit.typeIs (wpAny_pure (wpAny_bind (wpAny_fieldsOf ho hd ?_))))))));have hown:Builtin.Dict_items.ownsTuple "dict_keyiterator"=false:=by decide +kernel
 rw [hown];simp only [Bool.false_eq_true,if_false,List.drop_zero];show wpAny _ _ (if (Value.ref d==Value.none)=true then _ else _) _ _ _;rw [if_neg (by simp)];refine wpAny_bind (wpAny_pure (wpAny_bind (wpAny_dictEntries hod hdd ?_)));rw [if_neg (by simp)];refine wpAny_bind (wpAny_pure (wpAny_bind (wpAny_dictEpoch hod hdd ?_)));rw [if_neg (by simp)];refine wpAny_pure ?_;have hi:(if (i:Int)<0 then none else es[(i:Int).toNat]?)=none:=by rw [if_neg (by omega)];simpa using he
 show wpAny _ _ (match (if (i:Int)<0 then none else es[(i:Int).toNat]?) with | some e=>_ | none=>_) _ _ _;rw [hi];refine wpAny_bind (wpAny_bind (wpAny_typeNameOfWhole_keyiter hit.typeIs (wpAny_pure ?_)));rw [hown];refine wpAny_bind (wpAny_setField ho hd (show 0<4 by decide) ?_);show wpAny _ _ (newExc (.type "StopIteration") [] >>= _) _ _ _;refine wpAny_bind ?_;simp only [newExc,newTuple];refine wpAny_bind (wpAny_newObj_type ?_ (by size_fits));refine wpAny_bind (m:=firstArgMember _ _) (wpAny_of_eq (a:=Value.none) (by first | rfl | (simp only [firstArgMember];rfl)) ?_);refine wpAny_newObj_type ?_ (by size_fits);simp only [raiseNew];refine wpAny_bind (wpAny_handled ?_);first | rw [show A.in1.handled=none from hh] | rw [hh]
 refine wpAny_bind (wpAny_pure (wpAny_throw ?_));refine wpAny_bind (wpAny_isInstance (T:="StopIteration") (b:=true) ⟨_,Heap.get?_push_size _ rfl,rfl⟩ isSubtype_stop ?_);exact wpAny_pure (hQ _ (((Heap.SameBut.update ..).extBut.push _).push _))
section
variable {prog:Program}{w:World}{A:Around}{E:Value->Shared->Prop}{s:Shared}{d:Addr}{es:Array DictEntry}{ep:Nat}
def zgX(h:Heap)(d:Addr)(es:Array DictEntry)(ep:Nat):Prop:=∃ o,h.get? d=some o/\o.ExactDict/\o.data=.dict es ep
theorem zgX.typeIs(h:zgX s.heap d es ep):s.TypeIs (.ref d) "dict":=let ⟨o,ho,hc,_⟩:=h;⟨o,ho,hc.1⟩
theorem zbl {Q:Value->Shared->Prop} (hd:(d==sysModules)=false) (hm:zgX s.heap d es ep) (hQ:Q (.ref s.heap.objs.size) {s with heap:=s.heap.push {cls:=.type "dict_keyiterator",data:=.fields #[.ref d,.int 0 0,.int es.size 0,.int ep 0]}}): wpAny (model prog w) A (pyIter (.ref d)) Q E s:=by
 obtain ⟨o,ho,hc,hdat⟩:=id hm;have hT:=hm.typeIs;refine wpAny_pyIter_slot hT F.slot_dict_iter (wpAny_call_entry F.slot_dict_iter hT F.entry_dict_iter ?_ (F.args_dict_iter_1 _));unfold Builtin.«dict.__iter__»;refine wpAny_bind ?_;unfold Builtin.Dict.dictSlotNone;refine wpAny_bind (wpAny_notOrdered_dict hT ?_);show wpAny _ _ (pure (Value.ref d)) _ _ s;refine wpAny_pure ?_;show wpAny _ _ (Builtin.Dict.showsAll d >>= _) _ _ s;unfold Builtin.Dict.showsAll;rw [if_neg (by rw [hd];exact Bool.false_ne_true)];refine wpAny_bind (wpAny_pure (wpAny_bind (wpAny_dictEntries ho hdat (wpAny_bind (wpAny_dictEpoch ho hdat ?_)))));refine wpAny_bind (wpAny_newObj_type (wpAny_pure ⟨_,rfl,"dict_keyiterator",_,⟨_,Heap.get?_push_size _ rfl,rfl⟩,F.slot_dict_keyiterator_next.lookup,?_⟩));simpa [rawInt] using hQ
end
def z2D(kvs:List (List Key×V)):List D:=kvs.map fun p=>.tup (p.1.map z55)
variable {X:Cx}{E:XK}
def zbE:List D->Option (List Int)
 | []=>some [] | .int i::r=>(zbE r).map (i::·) | _=>none
def zeb:D->Option (List Int)
 | .tup ds=>zbE ds | _=>none
def z3W:List D->Option (List (List Int))
 | []=>some [] | d::ds=>match zeb d,z3W ds with | some n,some ns=>some (n::ns) | _,_=>none
theorem z3f:∀ ns:List Int,zbE (ns.map D.int)=some ns
 | []=>rfl | i::r=>by simp [zbE,z3f r]
theorem z9C:∀ {ds:List D}{ns:List Int},zbE ds=some ns->ds=ns.map D.int
 | [],_,e=>by simp [zbE] at e;subst e;rfl | d::r,ns,e=>by cases d with
  | int i=>
   simp only [zbE,Option.map_eq_some_iff] at e;obtain ⟨a,h1,rfl⟩:=e;rw [z9C h1];rfl | _=>simp [zbE] at e
theorem zak(ns:List Int):zeb (.tup (ns.map D.int))=some ns:=z3f ns
theorem ze1{d:D}{ns:List Int}(e:zeb d=some ns):d=.tup (ns.map D.int):=by cases d with
 | tup ds=>simp only [zeb] at e;rw [z9C e] | _=>simp [zeb] at e
theorem z58:∀ L:List (List Int),z3W (L.map fun ns=>.tup (ns.map D.int))=some L
 | []=>rfl | n::L=>by simp only [List.map_cons,z3W,zak,z58 L]
def AtN(H:Hp)(v:V)(ns:List Int):Prop:=∃ b,v=.ref b/\H b=some (.tup (ns.map V.int))
theorem z7a{mg:Gm}{H:Hp}{Y:List Addr}{d:D}{v:V}{ns:List Int}(h:zeb d=some ns)(dn:Den mg H Y d v):AtN H v ns:=by
 rw [ze1 h] at dn;simp only [Den] at dn;obtain ⟨a,vs,rfl,e,dd⟩:=dn;have:∀ {ns:List Int}{vs:List V},zr mg H Y (ns.map D.int) vs->vs=ns.map V.int:=by
  intro ns;induction ns with
  | nil=>intro vs h;simpa [zr] using h | cons i r ih=>
   intro vs h;simp only [List.map_cons,zr] at h;obtain ⟨v,r',rfl,h1,h2⟩:=h;rw [zT h1,ih h2];rfl
 rw [this dd] at e;exact ⟨a,rfl,e⟩
theorem z5f{mg:Gm}{H:Hp}{Y:List Addr}:∀ {ds:List D}{vs:List V}{L:List (List Int)},z3W ds=some L->zr mg H Y ds vs->Paired (fun v ns=>AtN H v ns) vs L
 | [],_,_,h,dn=>by simp only [z3W,Option.some.injEq] at h;simp only [zr] at dn;subst dn;subst h;exact .nil | d::ds,_,_,h,dn=>by
  simp only [zr] at dn;obtain ⟨v,vs,rfl,h1,h2⟩:=dn;simp only [z3W] at h;split at h
  ·rename_i n ns e1 e2;cases h;exact .cons (z7a e1 h1) (z5f e2 h2)
  ·cases h
theorem z0M:∀ ns:List Int,PyData.canLayAll0 (toPys (ns.map D.int))=true/\PyData.depthAll (toPys (ns.map D.int))<=1
 | []=>by decide | i::k=>by
  have:=z0M k;simp only [List.map_cons,wd,toPys,PyData.canLayAll0,PyData.canLay0,PyData.depthAll,PyData.depth,Bool.true_and,this.1,true_and];omega
theorem jZ:∀ a b:List Int,PyData.eqvAll (toPys (a.map D.int)) (toPys (b.map D.int))=decide (a=b)
 | [],[]=>by simp [toPys,PyData.eqvAll] | [],_::_=>by simp [toPys,PyData.eqvAll] | _::_,[]=>by simp [toPys,PyData.eqvAll] | x::a,y::b=>by
  simp only [List.map_cons,toPys,wd,PyData.eqvAll,PyData.eqv,jZ a b,List.cons.injEq];by_cases h:x=y<;>by_cases h2:a=b<;>simp [h,h2]
section
variable {X:Cx}{pins:List (Addr×Obj)}{O:L2.St}{H:Hp}{s:Shared}
theorem AtN.reads (mg:Gm) {h:Heap} {P:Program} {w:World} (ok:HOk P w H h) {v:V} {u:Value} {ns:List Int} (a:AtN H v ns) (r:yB v u):∃ as,Reads h u (wd (.tup (ns.map D.int))) as:=by
 refine Den.reads (mg:=mg) (Y:=[]) (H:=H) (v:=v) ok (by simp only [wd,PyData.canLay0];exact (z0M ns).1) ?_ r;obtain ⟨b,rfl,e⟩:=a;simp only [Den];refine ⟨b,_,rfl,e,?_⟩;clear e;induction ns with
 | nil=>exact zr.nil | cons i r ih=>exact zr.cons yf ih
theorem AtN.eqAt(mg:Gm){A:Around}{P:Program}{w:World}(ok:HOk P w H s.heap)(hu:A.units+2<cLine){v x:V}{u y:Value}{ns ms:List Int}(a:AtN H v ns)(r:yB v u)(b:AtN H x ms)(q:yB x y): SeqAt.EqAt A s u y (decide (ns=ms)):=by
 obtain ⟨as,ra⟩:=a.reads mg ok r;obtain ⟨bs,rb⟩:=b.reads mg ok q;have h:=SeqAt.eqAt_reads _ _ A s u y as bs ra rb (by simp only [wd,PyData.canLay0];exact (z0M ns).1) (by simp only [wd,PyData.canLay0];exact (z0M ms).1) (by
  have h1:=(z0M ns).2;have h2:min (wd (.tup (ns.map D.int))).depth (wd (.tup (ms.map D.int))).depth<=(wd (.tup (ns.map D.int))).depth:=Nat.min_le_left _ _;have h3:(wd (.tup (ns.map D.int))).depth<=2:=by simp only [wd,PyData.depth];omega
  omega);rw [show PyData.eqv (wd (.tup (ns.map D.int))) (wd (.tup (ms.map D.int)))=decide (ns=ms) by simp only [wd,PyData.eqv,jZ]] at h;exact h
end
end Dd
namespace L2
open PySem.Spec PySem.Builtin.Str
variable {X:Cx}
end L2
namespace Dd
open PySem.Spec L2 PySem.Builtin.Str
end Dd
namespace Zz
abbrev T1(b1:Bool)(h:Heap)(l1:Addr):Heap:=h.push (itO b1 l1)
abbrev T2(b1 b2:Bool)(h:Heap)(l1 l2:Addr):Heap:=(T1 b1 h l1).push (itO b2 l2)
end Zz
namespace L2
open PySem.Spec Zz
end L2
namespace Dd
open PySem.Spec L2
def zcZ:List D->List D->List D->List D
 | x::xs,y::ys,z::zs=>.tup [x,y,z]::zcZ xs ys zs | _,_,_=>[]
def zhg(f:FA):FI:=fun Z s=>(f Z s).bind fun ds s1=>match ds with
 | [x,y,z]=>match z3R s1 x,z3R s1 y,z3R s1 z with
  | some p,some q,some t=>if p.1.length<=q.1.length/\p.1.length<=t.1.length then .ok (zcZ p.1 q.1 t.1,p.2++(q.2++t.2)) s1 else .no | _,_,_=>.no
 | _=>.no
@[simp] theorem zii (f:FA)(Z:Ev)(s:Sto):zhg f Z s=(f Z s).bind fun ds s1=>match ds with
 | [x,y,z]=>match z3R s1 x,z3R s1 y,z3R s1 z with
  | some p,some q,some t=>if p.1.length<=q.1.length/\p.1.length<=t.1.length then .ok (zcZ p.1 q.1 t.1,p.2++(q.2++t.2)) s1 else .no | _,_,_=>.no
 | _=>.no:=id rfl
def lexN:List Int->List Int->Bool
 | [],[]=>false | [],_::_=>true | _::_,[]=>false | x::a,y::b=>if x=y then lexN a b else decide (x<y)
inductive xR:List Value->List Int->Prop | nil:xR [] [] | cons {i t vs ns}:xR vs ns->xR (.int i t::vs) (i::ns)
theorem xR.of_vals:∀ {ns:List Int}{us:List Value},xb (ns.map V.int) us->xR us ns
 | [],_,.nil=>.nil | _::_,_,.cons ⟨_,rfl⟩ r=>.cons (xR.of_vals r)
section
variable {prog:Program}{w:World}{A:Around}{E:Value->Shared->Prop}{s:Shared}
theorem z68{a b:Addr}{xs ys:Array Value}{ns ms:List Int}{P:PySem.Fin->Shared->Prop}(ha:s.heap.IsTuple a xs)(hb:s.heap.IsTuple b ys)(hx:xR xs.toList ns)(hy:xR ys.toList ms) (h:P (.done (.ret (.bool (lexN ns ms)))) s):wpAny (model prog w) A (Builtin.«tuple.__lt__» ⟨[.ref a,.ref b],[]⟩) P E s:=by
 obtain ⟨oa,ga,ca,na,da⟩:=ha;obtain ⟨ob,gb,cb,nb,db⟩:=hb;have tb:s.TypeIs (.ref b) "tuple":=⟨ob,gb,cb⟩;show wpAny _ _ (isInstance (.ref b) (.type "tuple") >>= _) _ _ s;refine wpAny_bind (wpAny_isInstance tb isSubtype_tuple_tuple ?_);simp only [Bool.not_true,Bool.false_eq_true,if_false];refine wpAny_bind (wpAny_tupleItemsOf ga da (wpAny_bind (wpAny_tupleItemsOf gb db (wpAny_bind ?_))));refine wpAny_forIn_list _ (fun jA r s'=>r.1=none/\s'=s/\∃ us vs ns' ms',jA=List.zip us vs/\xR us ns'/\xR vs ms'/\lexN ns' ms'=lexN ns ms/\(decide (us.length<vs.length))=decide (xs.size<ys.size)) _ ?_ ?_ _ _ ⟨rfl,rfl,xs.toList,ys.toList,ns,ms,rfl,hx,hy,rfl,by simp⟩
 ·rintro ⟨u,v⟩ jA r s' ⟨hr,rfl,us,vs,ns',ms',hz,h1,h2,hl,hs⟩;cases h1 with
  | nil=>simp at hz | @cons i t us' ns'' h1'=>cases h2 with
   | nil=>simp at hz | @cons j t' vs' ms'' h2'=>
    simp only [List.zip_cons_cons,List.cons.injEq,Prod.mk.injEq] at hz;obtain ⟨⟨rfl,rfl⟩,rfl⟩:=hz;refine wpAny_bind (wpAny_eqBool_int ?_);by_cases e:i=j
    ·subst e;simp only [beq_self_eq_true,Bool.not_true,Bool.false_eq_true,if_false];exact wpAny_pure ⟨rfl,rfl,us',vs',ns'',ms'',rfl,h1',h2',by rw [<- hl];simp [lexN],by simpa using hs⟩
    ·rw [show (i==j)=false by simpa using e];simp only [Bool.not_false,if_true];have hf:lexN ns ms=decide (i<j):=by rw [<- hl];simp [lexN,e]
     rw [hf] at h;refine wpAny_bind (wpAny_rule (wpAny_bind (show wpAny _ _ (compareOp .Lt (.int i t) (.int j t')) _ _ _ from PyProof.Rows.lt_int ?_)));exact wpAny_bind (wpAny_pure (wpAny_pure (wpAny_pure h)))
 ·rintro ⟨r1,r2⟩ s' ⟨hr,rfl,us,vs,ns',ms',hz,h1,h2,hl,hs⟩;simp only at hr;subst hr;refine wpAny_pure ?_;have hfin:decide (xs.size<ys.size)=lexN ns ms:=by
   rw [<- hl,<- hs];cases h1 with
   | nil=>cases h2<;>simp [lexN] | cons _=>cases h2 with
    | nil=>simp [lexN] | cons _=>simp at hz
  show P (.done (.ret (.bool (decide (xs.size<ys.size))))) s';rw [hfin];exact h
theorem zcu{a b:Addr}{xs ys:Array Value}{ns ms:List Int}{Q:Value->Shared->Prop}(hu:A.units<cLine)(ha:s.heap.IsTuple a xs)(hb:s.heap.IsTuple b ys)(hx:xR xs.toList ns)(hy:xR ys.toList ms) (h:Q (.bool (lexN ns ms)) s):wpAny (model prog w) A (richCompare .Lt (.ref a) (.ref b)) Q E s:=by
 have ta:s.TypeIs (.ref a) "tuple":=by obtain ⟨o,g,c,_⟩:=ha;exact ⟨o,g,c⟩
 have tb:s.TypeIs (.ref b) "tuple":=by obtain ⟨o,g,c,_⟩:=hb;exact ⟨o,g,c⟩
 refine wpAny_richCompare_same_room ta tb PySem.F.slot_tuple_lt (wpAny_call_entry PySem.F.slot_tuple_lt ta PySem.F.entry_tuple_lt ?_ (PySem.F.args_tuple_lt_2 _ _)) hu;exact z68 ha hb hx hy ⟨_,rfl,by simp,h⟩
end
section
variable {prog:Program}{w:World}{A:Around}{R:Result->Shared->Prop}{I S:Addr}{fp wr:List Addr}{n:Nat}{P:Nat->Value->Prop}{St:Nat->Heap->Prop}{Kh:Heap->Prop}{bt:Nat->Nat->Bool}
theorem z7n (W:Walks prog w A.in1 I fp wr n P St) (cmp:∀ i j vi vj (s:Shared) (Q:Value->Shared->Prop) (E:Value->Shared->Prop),Kh s.heap->P i vi->P j vj->Q (.bool (bt i j)) s->wpAny (model prog w) A.in1 (richCompare .Lt vi vj) Q E s) (keep:∀ h h':Heap,Kh h->(∀ b o,b∉wr->b≠S->h.get? b=some o->h'.get? b=some o)->Kh h') (out:S∉fp) (k:Nat): ∀ (j:Nat) (s:Shared) (v:Value) (c:Nat),n=j+1+k->St (j+1) s.heap->Kh s.heap->P (argBest bt j) v->s.heap.get? S=some (seqObj "list" #[v,v] c)-> (∀ u h' tk,P (argBest bt (n-1)) u->(∀ b o,b∉wr->b≠S->s.heap.get? b=some o->h'.get? b=some o)->R (.ok (.ret u)) {s with heap:=h',toks:=tk})-> codeAny (model prog w) A (.builtin "min.loop" ⟨[.ref I,.none,.ref S],[]⟩) R s:=by
 have ow:S∉wr:=fun z=>out (W.sub _ z);have nm:(toString "min"++toString ".loop":String)="min.loop":=by decide
 induction k with
 | zero=>
  intro j s v c en st kh pv gS fin;refine codeAny_builtin PySem.F.entry_min_loop ?_;rw [Around.under_plainId PySem.F.plain_min_loop _];show wpAny _ A.in1 (seqItems? (.ref S) >>= _) _ _ s;refine wpAny_bind (wpAny_seqItems gS rfl ?_);show wpAny _ A.in1 (tryCatch (pyNext (.ref I)) _ >>= _) _ _ s;refine wpAny_bind (wpAny_tryCatch (W.done s _ _ (by rw [en];exact st) fun h1 tk k1=>?_));show wpAny _ A.in1 (updateSeq S (fun _=>#[]) >>= _) _ _ _;refine wpAny_bind (wpAny_updateSeq (k1 S _ ow gS) rfl (wpAny_bind (wpAny_letGo (wpAny_pure ?_))));exact fin v _ tk (by rw [show n-1=j by omega];exact pv) fun b o hb hS e=>(Heap.get?_update_other _ _ (Ne.symm hS)).trans (k1 b o hb e) | succ k ih=>
  intro j s v c en st kh pv gS fin;refine codeAny_builtin PySem.F.entry_min_loop ?_;rw [Around.under_plainId PySem.F.plain_min_loop _];show wpAny _ A.in1 (seqItems? (.ref S) >>= _) _ _ s;refine wpAny_bind (wpAny_seqItems gS rfl ?_);show wpAny _ A.in1 (tryCatch (pyNext (.ref I)) _ >>= _) _ _ s;refine wpAny_bind (wpAny_tryCatch (W.item (j+1) s _ _ (by omega) st fun u h1 tk pu st1 k1=>?_));have gS1:=k1 S _ ow gS;show wpAny _ A.in1 (tryCatch (holding [u,u] (richCompare .Lt u v >>= _)) _ >>= _) _ _ _;refine wpAny_bind (wpAny_tryCatch (wpAny_holding (wpAny_bind (cmp (j+1) (argBest bt j) u v _ _ _ (keep _ _ kh fun b o hb _ e=>k1 b o hb e) pu pv ?_))));refine wpAny_bind (wpAny_holding (wpAny_truthy_bool (wpAny_bind (wpAny_letGo (wpAny_pure ?_)))));by_cases q:bt (j+1) (argBest bt j)=true
  ·rw [q];simp only [if_true];refine wpAny_bind (wpAny_updateSeq gS1 rfl (wpAny_bind (wpAny_letGo ?_)));rw [nm];refine wpAny_pure ⟨plainId_quiet PySem.F.plain_min_loop _,ih (j+1) _ u _ (by omega) (W.frame _ _ _ st1 fun b hb o e=>(Heap.get?_update_other _ _ (fun z:S=b=>out (z ▸ hb))).trans e) ?_ (by rw [show argBest bt (j+1)=j+1 by simp [argBest,q]];exact pu) (Heap.get?_update_self _ gS1 rfl) fun u' h2 tk2 p2 k2=>?_⟩;·exact keep _ _ kh fun b o hb hS e=>(Heap.get?_update_other _ _ (Ne.symm hS)).trans (k1 b o hb e)
   ·exact fin u' h2 tk2 p2 fun b o hb hS e=>k2 b o hb hS ((Heap.get?_update_other _ _ (Ne.symm hS)).trans (k1 b o hb e))
  ·rw [show bt (j+1) (argBest bt j)=false by simpa using q];simp only [Bool.false_eq_true,if_false];refine wpAny_bind (wpAny_letGo ?_);rw [nm];refine wpAny_pure ⟨plainId_quiet PySem.F.plain_min_loop _,ih (j+1) _ v c (by omega) st1 (keep _ _ kh fun b o hb _ e=>k1 b o hb e) (by rw [show argBest bt (j+1)=argBest bt j by simp [argBest,q]];exact pv) gS1 fun u' h2 tk2 p2 k2=>?_⟩;exact fin u' h2 tk2 p2 fun b o hb hS e=>k2 b o hb hS (k1 b o hb e)
end
section
variable {prog:Program}{w:World}{A:Around}{E:Value->Shared->Prop}{s:Shared}
theorem z2x {x:Value} {Q:Value->Shared->Prop} (h:wpAny (model prog w) A.in1 (pyIter x) (fun it s2=>∃ I fp wr n P St bt,∃ Kh:Heap->Prop,it=.ref I/\Walks prog w A.in1 I fp wr n P St/\St 0 s2.heap/\(∀ b∈fp,b<s2.heap.objs.size)/\0<n/\Kh s2.heap/\ (∀ i j vi vj (s:Shared) (Q:Value->Shared->Prop) (E:Value->Shared->Prop),Kh s.heap->P i vi->P j vj->Q (.bool (bt i j)) s->wpAny (model prog w) A.in1 (richCompare .Lt vi vj) Q E s)/\ (∀ h h':Heap,Kh h->(∀ b o,b∉wr->b<s2.heap.objs.size->h.get? b=some o->h'.get? b=some o)->Kh h')/\ ∀ v h' tk,P (argBest bt (n-1)) v->(∀ b o,b∉wr->s2.heap.get? b=some o->h'.get? b=some o)->Q v {s2 with heap:=h',toks:=tk}) E s): wpAny (model prog w) A (call (.builtin "min") [x]) Q E s:=by
 have nm:(toString "min"++toString ".loop":String)="min.loop":=by decide
 refine call_function_tree PySem.F.kind_min PySem.F.plain_min PySem.F.entry_min (PySem.F.args_min1 _) ?_;show wpAny _ A.in1 (Builtin.Builtins.bindParams "min" ["key","default"] 0 ⟨[],[]⟩ >>= _) _ _ s;refine wpAny_bind (wpAny_of_eq (show Builtin.Builtins.bindParams "min" ["key","default"] 0 ⟨[],[]⟩=pure [none,none] from rfl) (wpAny_bind (wpAny_pure ?_)));refine wpAny_bind (wpAny_mono h (fun it s2 z=>?_) fun _ _ e=>e);obtain ⟨I,fp,wr,n,P,St,bt,Kh,rfl,W,st,bd,hn,kh,cmp,keep,fin⟩:=z;refine wpAny_bind (wpAny_newObj_type ?_);have out:s2.heap.objs.size∉fp:=fun z=>Nat.lt_irrefl _ (bd _ z);have ow:s2.heap.objs.size∉wr:=fun z=>out (W.sub _ z);have keep':∀ h h':Heap,Kh h->(∀ b o,b∉wr->b≠s2.heap.objs.size->h.get? b=some o->h'.get? b=some o)->Kh h':=fun h h' z k=>keep h h' z fun b o hb lt e=>k b o hb (Nat.ne_of_lt lt) e;rw [nm];refine wpAny_pure ⟨plainId_quiet PySem.F.plain_min_loop _,codeAny_builtin PySem.F.entry_min_loop ?_⟩;have gS:(s2.heap.push (seqObj "list" #[] 0)).get? s2.heap.objs.size=some (seqObj "list" #[] 0):=Heap.get?_push_size _ rfl;rw [Around.under_plainId PySem.F.plain_min_loop _];show wpAny _ A.in1 (seqItems? (.ref s2.heap.objs.size) >>= _) _ _ {s2 with heap:=s2.heap.push (seqObj "list" #[] 0)};refine wpAny_bind (wpAny_seqItems gS rfl ?_);show wpAny _ A.in1 (tryCatch (pyNext (.ref I)) _ >>= _) _ _ _;refine wpAny_bind (wpAny_tryCatch (W.item 0 _ _ _ hn (W.frame _ _ _ st fun b _ o e=>Heap.get?_push_of_some _ e) fun u h1 tk pu st1 k1=>?_));have gS1:=k1 _ _ ow gS;show wpAny _ A.in1 (updateSeq s2.heap.objs.size (fun _=>#[u,u]) >>= _) _ _ _;refine wpAny_bind (wpAny_updateSeq gS1 rfl ?_);rw [nm];have old:∀ b o,b∉wr->b≠s2.heap.objs.size->s2.heap.get? b=some o->(h1.update s2.heap.objs.size (Obj.mapSeq fun _=>#[u,u])).get? b=some o:=fun b o hb hS e=> (Heap.get?_update_other _ _ (Ne.symm hS)).trans (k1 b o hb (Heap.get?_push_of_some _ e));refine wpAny_pure ⟨plainId_quiet PySem.F.plain_min_loop _,z7n W cmp keep' out (n-1) 0 _ u _ (by omega) (W.frame _ _ _ st1 fun b hb o e=>(Heap.get?_update_other _ _ (fun z:s2.heap.objs.size=b=>out (z ▸ hb))).trans e) (keep' _ _ kh old) pu (Heap.get?_update_self _ gS1 rfl) fun u' h2 tk2 p2 k2=>?_⟩;exact fin u' h2 tk2 p2 fun b o hb e=>k2 b o hb (Nat.ne_of_lt (Heap.lt_size e)) (old b o hb (Nat.ne_of_lt (Heap.lt_size e)) e)
end
end Dd
namespace L2
open PySem.Spec
def zds(D:zaZ):zaZ:={D with nx:=fun O H=>∃ a xs,H a=some (.lst xs)/\∀ o,D.nx O (upd H a (.frz o (.lst xs)))}
theorem PS.freezeV{X:Cx}{st:Stmt}{t:TS}(h:PS X st t):PS X st (fun D O H=>t (zds D) O H):=fun pins s O H D I q=>thn (h pins s O H _ I q) fun f s1 z=>by cases f with
 | next=>
  obtain ⟨O',H',I',a,xs,ha,q⟩:=z;obtain ⟨its,n,rv,e,_⟩:=I'.lst ha;exact ⟨O',_,I'.freeze ha e (by intro _ z;cases z) (by intro _ _ z;cases z) (by intro _ z;cases z) (by intro _ z;cases z),q _⟩ | ret v=>exact z | brk=>exact z | cont=>exact z
end L2
namespace Dd
open PySem.Spec L2
def D.und(n:Nat):D->Bool
 | .loc l=>decide (l<n) | .dlo l=>decide (l<n) | d=>d.flat
def z4s(n i:Nat)(Z:Ev):Bool:=(List.range Z.length).all fun j=>j==i||match Z[j]? with | some (some d)=>d.und n | _=>true
def z4y(i:Nat)(f:FS):FS:=fun Z s=>match f Z s with
 | .ok (.nx Z1) s1=>match Z1[i]? with
  | some (some (.loc l))=>match s1[l]? with
   | some xs=>if s.length<=l/\z4s s.length i Z1=true then .ok (.nx (Z1.set i (some (.lst xs)))) (s1.take s.length) else .no | none=>.no
  | _=>.no
 | _=>.no
theorem Den.cut{mg:Gm}{H1:Hp}{Y1:List Addr}{n:Nat}{a:Addr}{u u0:HO}{d:D}{v:V}(nd:Y1.Nodup){l:Nat}(hl:n<=l)(e1:Y1[l]? = some a)(e2:H1 a=some u0)(hu:(∃ vs,u0=.lst vs))(hb:d.und n=true)(h:Den mg H1 Y1 d v):Den mg (upd H1 a u) (Y1.take n) d v:=by
 have k:∀ b u',H1 b=some u'->(∀ vs,u'≠.lst vs)->(∀ kvs,u'≠.dT kvs)->upd H1 a u b=some u':=fun b u' h hn _=>by
  obtain ⟨vs,rfl⟩:=hu;rw [zw (fun z=>by subst z;rw [e2] at h;exact hn vs (Option.some.inj h).symm)];exact h
 have ne:∀ {j:Nat}{b:Addr},j<n->Y1[j]? = some b->b≠a:=fun {j b} hj hb z=>by
  subst z;have:=(List.getElem_inj nd).mp (((List.getElem?_eq_some_iff.mp hb).2).trans ((List.getElem?_eq_some_iff.mp e1).2).symm);omega
 by_cases hf:d.flat=true;·exact h.flatten k hf
 ·cases d with
  | loc j=>
   have hj:j<n:=by simpa [D.und] using hb
   simp only [Den] at h ⊢;obtain ⟨b,rfl,q1,vs,q2⟩:=h;exact ⟨b,rfl,by rw [List.getElem?_take_of_lt hj];exact q1,vs,by rw [zw (ne hj q1)];exact q2⟩ | dlo j=>
   have hj:j<n:=by simpa [D.und] using hb
   simp only [Den] at h ⊢;obtain ⟨b,rfl,q1,q2⟩:=h;exact ⟨b,rfl,by rw [List.getElem?_take_of_lt hj];exact q1,by rw [IsC,zw (ne hj q1)];exact q2⟩ | _=>exact absurd hb hf
theorem wV.cut{mg:Gm}{H1:Hp}{Y1:List Addr}{n i:Nat}{a:Addr}{u u0:HO}{Z:Ev}{O:L2.St}{xs:List D}(en:wV mg H1 Y1 Z O)(nd:Y1.Nodup){l:Nat}(hl:n<=l)(e1:Y1[l]? = some a)(e2:H1 a=some u0)(hu:(∃ vs,u0=.lst vs))(hb:z4s n i Z=true) (hi:Z[i]? = some (some (.loc l)))(hd:Den mg (upd H1 a u) (Y1.take n) (.lst xs) (.ref a)):wV mg (upd H1 a u) (Y1.take n) (Z.set i (some (.lst xs))) O:=by
 refine ⟨by simp [en.len],fun j d hj=>?_⟩;by_cases q:i=j
 ·subst q;have hlt:i<Z.length:=(List.getElem?_eq_some_iff.mp hi).1;rw [List.getElem?_set_self hlt] at hj;cases hj;obtain ⟨v,h1,h2⟩:=en.at_ i _ hi;simp only [Den] at h2;obtain ⟨b,rfl,q1,_⟩:=h2;rw [e1] at q1;cases q1;exact ⟨_,h1,hd⟩
 ·rw [List.getElem?_set_ne q] at hj;obtain ⟨v,h1,h2⟩:=en.at_ j d hj;have hlt:j<Z.length:=(List.getElem?_eq_some_iff.mp hj).1;have hb':=List.all_eq_true.mp hb j (List.mem_range.mpr hlt);rw [hj] at hb';have hb2:d.und n=true:=by
   rcases Bool.or_eq_true_iff.mp hb' with z | z;·exact absurd (by simpa using z) (Ne.symm q)
   ·exact z
  exact ⟨v,h1,h2.cut nd hl e1 e2 hu hb2⟩
section
variable {X:Cx}{E:XK}
theorem zdn(i:Nat){s1 s2:Stmt}{rs:List Stmt}{f1 f2 f3:FS}(h1:RS X E s1 f1)(h2:RS X E s2 f2)(h3:RSs X E rs f3):RSs X E (s1::s2::rs) (zC (z4y i (zC f1 f2)) f3):= z5Y (z2F h1 (z2F (PS.freezeV h2) h3)) fun D O H ⟨Y,Z,s,r,en,h⟩=>by
  refine ⟨Y,Z,s,r,en,?_⟩;simp only [zC,z4y] at h;cases e1:f1 Z s with
  | no=>rw [e1] at h;exact h | ex c s'=>rw [e1] at h;exact (show False from h).elim | ok fl sa=>
   rw [e1] at h;cases fl with
   | nx Za=>
    simp only [R.bind_ok] at h;intro b H1 Y1 stp1 dn1;cases b with
    | nx O1=>
     refine ⟨Y1,Za,sa,stp1.rep,dn1,?_⟩;cases e2:f2 Za sa with
     | no=>rw [e2] at h;exact h | ex c s'=>rw [e2] at h;exact (show False from h).elim | ok fl2 sb=>
      rw [e2] at h;cases fl2 with
      | nx Zb=>
       simp only at h;intro b2 H2 Y2 stp2 dn2;cases b2 with
       | nx O2=>
        have stp:=stp1.trans stp2;have en2:wV (gm X) H2 Y2 Zb O2:=dn2;split at h
        ·rename_i l el;split at h
         ·rename_i xs ex;split at h
          ·rename_i hl;simp only [R.bind_ok] at h;obtain ⟨v,q1,q2⟩:=en2.at_ i _ el;simp only [Den] at q2;obtain ⟨a,rfl,ia,ka⟩:=q2;obtain ⟨vs,ha,k⟩:=stp.frzC (by rw [r.len];exact hl.1) ex ia ka;refine ⟨a,vs,ha,fun o=>?_⟩;obtain ⟨st3,dn3⟩:=k o;rw [r.len] at st3 dn3;have en3:=wV.cut (u:=.frz o (.lst vs)) en2 stp.rep.nd hl.1 ia ha ⟨vs,rfl⟩ hl.2 el dn3;exact ⟨Y2.take s.length,Zb.set i (some (.lst xs)),sb.take s.length,st3.rep,en3,okR.rebase h st3⟩
          ·exact h.elim
         ·exact h.elim
        ·exact h.elim | _=>exact (show False from dn2).elim
      | _=>exact h.elim
    | _=>exact (show False from dn1).elim
   | _=>exact h.elim
@[simp] theorem zd6 (i:Nat)(f:FS)(Z:Ev)(s:Sto):z4y i f Z s=(match f Z s with
 | .ok (.nx Z1) s1=>match Z1[i]? with
  | some (some (.loc l))=>match s1[l]? with
   | some xs=>if s.length<=l/\z4s s.length i Z1=true then .ok (.nx (Z1.set i (some (.lst xs)))) (s1.take s.length) else .no | none=>.no
  | _=>.no
 | _=>.no):=id rfl
end
def z7p:List Int->List (List Int)->List Int
 | b,[]=>b | b,x::r=>z7p (if lexN x b then x else b) r
def z83:Mir:=fun ds s=>match ds with
 | [d]=>match (yd s d).bind z3W with
  | some (n::L)=>.ok (.tup ((z7p n L).map D.int)) s | _=>.no
 | _=>.no
theorem z17{bt:Nat->Nat->Bool}{L:List (List Int)}(hb:∀ i j,bt i j=lexN (L.getD i []) (L.getD j [])):∀ k,k<L.length->∀ n M,L=n::M->L.getD (argBest bt k) []=z7p n (M.take k)
 | 0,_,n,M,e=>by subst e;simp [argBest,z7p] | k+1,hk,n,M,e=>by
  have ih:=z17 hb k (by omega) n M e;have hM:k<M.length:=by subst e;simpa using hk
  have gk:L.getD (k+1) []=M[k]:=by subst e;simp [List.getD,hM]
  have app:∀ (b:List Int)(A:List (List Int))(x:List Int),z7p b (A++[x])=if lexN x (z7p b A) then x else z7p b A:=by
   intro b A;induction A generalizing b with
   | nil=>intro x;rfl | cons y A ih=>intro x;exact ih _ x
  rw [List.take_add_one,List.getElem?_eq_getElem hM,Option.toList_some,app,<- ih];simp only [argBest,hb (k+1) (argBest bt k),gk];split;·exact gk
  ·rfl
section
variable {X:Cx}{E:XK}
def zim(K:W.Frag):List V->Hp->VK->Prop:=fun xs H Q=>∃ b p ys n L,xs=[.ref p]/\Sq b K H p ys/\Paired (fun v ns=>AtN H v ns) ys (n::L)/\∀ v,AtN H v (z7p n L)->Q v H
theorem qP{α β:Type}{R:α->β->Prop}:∀ {xs:List α}{ys:List β},Paired R xs ys->∀ (i:Nat)(x:α),xs[i]? = some x->∃ y,ys[i]? = some y/\R x y
 | _,_,.nil,i,x,e=>by simp at e | _,_,.cons h r,0,x,e=>by simp at e;subst e;exact ⟨_,rfl,h⟩ | _,_,.cons h r,i+1,x,e=>by simpa using qP r i x (by simpa using e)
theorem kj{α β:Type}{R:α->β->Prop}:∀ {xs:List α}{ys:List β},Paired R xs ys->xs.length=ys.length
 | _,_,.nil=>rfl | _,_,.cons h r=>by simp [kj r]
theorem AtN.tuple{pins:List (Addr×Obj)}{O:L2.St}{H:Hp}{s:Shared}(I:Inv X pins O H s){v:V}{u:Value}{ns:List Int}(a:AtN H v ns)(r:yB v u):∃ b its,v=.ref b/\u=.ref b/\s.heap.IsTuple b its/\xR its.toList ns:=by
 obtain ⟨b,rfl,e⟩:=a;cases (show u=Value.ref b from r);obtain ⟨its,r,pl,hz⟩:=I.tuple (.inl (.inl e));exact ⟨b,its.toArray,rfl,rfl,pl,xR.of_vals (by simpa using r)⟩
theorem z8m (hc:X.calm=true) (hu:X.A.units+64<cLine):wM X (.builtin "min") (zim X.K):=by
 intro pins s O H xs us Q I r h;obtain ⟨b,p,ys,n,L,rfl,hq,hp,q⟩:=h;obtain ⟨u,rfl,ru⟩:=vals1 r;cases ru;obtain ⟨its,rv,co⟩:=I.sq hq;have hl:its.length=(n::L).length:=by rw [<- kj hp,rv.length]
 have at_:∀ i v,its.toArray[i]? = some v->∃ y,ys[i]? = some y/\yB y v/\AtN H y ((n::L).getD i []):=fun i v e=>by
  have e':its[i]? = some v:=by simpa using e
  have hi:i<ys.length:=by have:=(List.getElem?_eq_some_iff.mp e').1;have:=rv.length;omega
  obtain ⟨w,hw,rw_⟩:=rv.get (i:=i) (x:=ys[i]) (List.getElem?_eq_getElem hi);rw [e'] at hw;cases hw;obtain ⟨ns,e1,e2⟩:=qP hp i _ (List.getElem?_eq_getElem hi);exact ⟨ys[i],List.getElem?_eq_getElem hi,rw_,by rw [List.getD,e1];exact e2⟩
 refine z2x (Zz.z1o (I.ok.hd hc) co fun s2 e2 St W st bd old=>?_);subst e2;refine ⟨_,_,_,_,_,_,fun i j=>lexN ((n::L).getD i []) ((n::L).getD j []),fun h=>∀ c o,s.heap.get? c=some o->h.get? c=some o,rfl,W,st,bd,by simp [hl],fun c o e=>Heap.get?_push_of_some _ e,fun i j vi vj s3 Q3 E3 kh pi pj q3=>?_,fun h h' kh k c o e=>?_,fun v h' tk e hk=>?_⟩
 ·obtain ⟨yi,_,ri,ai⟩:=at_ i vi pi;obtain ⟨yj,_,rj,aj⟩:=at_ j vj pj;obtain ⟨b1,t1,rfl,rfl,x1,z1⟩:=ai.tuple I ri;obtain ⟨b2,t2,rfl,rfl,x2,z2⟩:=aj.tuple I rj;have up:∀ {c:Addr} {its:Array Value},s.heap.IsTuple c its->s3.heap.IsTuple c its:=fun ⟨o,g,w⟩=>⟨o,kh _ _ g,w⟩;exact zcu (by have:X.A.in1.units=X.A.units+1:=rfl;omega) (up x1) (up x2) z1 z2 q3
 ·refine k c o (fun z=>?_) (by rw [Heap.size_push];exact Nat.lt_succ_of_lt (Heap.lt_size e)) (kh c o e);have:c=s.heap.objs.size:=by simpa using z
  exact absurd (this ▸ Heap.lt_size e) (Nat.lt_irrefl _)
 ·obtain ⟨y,_,ry,ay⟩:=at_ _ v e;have em:=z17 (bt:=fun i j=>lexN ((n::L).getD i []) ((n::L).getD j [])) (L:=n::L) (fun i j=>rfl) (its.toArray.size-1) (by simp [hl]) n L rfl;have tk':L.take (its.toArray.size-1)=L:=by simp [hl]
  rw [tk'] at em;rw [em] at ay;exact ⟨y,H,I.kept (t':=tk) (old h' hk),ry,q y ay⟩
theorem zfo(hc:X.calm=true)(hu:X.A.units+64<cLine):∃ r,wM X (.builtin "min") r/\z0g X E r z83:=⟨_,z8m hc hu,fun H Y s ds vs Q r hd h=>by
 unfold z83 at h;split at h
 ·rename_i d;split at h
  ·rename_i n L e;obtain ⟨xs,e1,e2⟩:=Option.bind_eq_some_iff.mp e;obtain ⟨v,rfl,dn⟩:=z0a hd;obtain ⟨a,ws,rfl,q1,q2⟩:=vE (K:=X.K) r e1 dn;obtain ⟨b,q⟩:=z4v q1;refine ⟨b,a,ws,n,L,rfl,q,z5f e2 q2,fun v av=>h.here r ?_⟩;obtain ⟨c,rfl,ec⟩:=av;simp only [Den];refine ⟨c,_,rfl,ec,?_⟩;generalize z7p n L=ns;induction ns with
   | nil=>exact zr.nil | cons i r ih=>exact zr.cons yf ih
  ·exact h.elim
 ·exact h.elim⟩
end
end Dd
namespace L2
open PySem.Spec
section
variable {prog:Program}{w:World}{A:Around}{R:Result->Shared->Prop}{s:Shared}{elt t1 i1 t2 i2:Expr}{scope:Scope}{pos:Pos}{it acc:Value}{env:Env}
theorem z8p:compTurn (.ListComp elt [⟨t1,i1,[],0⟩,⟨t2,i2,[],0⟩] scope pos) 0 it acc env=(standAt i1.pos >>= fun _=>pyNext it >>= fun r=>match r with
  | none=>pure (.done .next) | some v=>letOwnedTupleGo t1 it v >>= fun _=>assign t1 env v >>= fun _=>eval i2 env >>= fun x=>standAt i2.pos >>= fun _=>foldedSetIterable i2 env x >>= fun x=>holding [x] (pyIter x) >>= fun jt=> runOwn (.compStart (.ListComp elt [⟨t1,i1,[],0⟩,⟨t2,i2,[],0⟩] scope pos) 1 jt acc env) env >>= fun _=>again (.compLoop (.ListComp elt [⟨t1,i1,[],0⟩,⟨t2,i2,[],0⟩] scope pos) 0 it acc env)):=by rfl
theorem z8x:compTurn (.ListComp elt [⟨t1,i1,[],0⟩,⟨t2,i2,[],0⟩] scope pos) 1 it acc env=(standAt i2.pos >>= fun _=>pyNext it >>= fun r=>match r with
  | none=>pure (.done .next) | some v=>letOwnedTupleGo t2 it v >>= fun _=>assign t2 env v >>= fun _=>(eval elt env >>= fun x=>call (.builtin "list.append") [acc,x] >>= fun _=>pure ()) >>= fun _=> again (.compLoop (.ListComp elt [⟨t1,i1,[],0⟩,⟨t2,i2,[],0⟩] scope pos) 1 it acc env)):=by rfl
theorem z8k(I:Nat->Shared->Prop) (turn:∀ n s,I n s->wpAny (model prog w) A (pyNext it) (fun r s₁=>match r with
   | none=>R (.ok .next) s₁ | some v=>wpAny (model prog w) A (letOwnedTupleGo t2 it v) (fun _ s₁'=>wpAny (model prog w) A (assign t2 env v) (fun _ s₂=>wpAny (model prog w) A (eval elt env) (fun x s₄=> wpAny (model prog w) A (call (.builtin "list.append") [acc,x]) (fun _ s₅=>∃ m,m<n/\I m s₅) (fun _ _=>False) s₄) (fun _ _=>False) s₂) (fun _ _=>False) s₁') (fun _ _=>False) s₁) (fun _ _=>False) s) (n:Nat)(h:I n s):codeAny (model prog w) A (.compLoop (.ListComp elt [⟨t1,i1,[],0⟩,⟨t2,i2,[],0⟩] scope pos) 1 it acc env) R s:=by
 refine codeAny_loop rfl I (fun n s hI=>?_) n h;show wpAny _ A ((compTurn (.ListComp elt [⟨t1,i1,[],0⟩,⟨t2,i2,[],0⟩] scope pos) 1 it acc env).onRaise (fun x=>do noteFrame x env;theTreesLotGoes x)) _ _ s;refine wpAny_noted ?_;rw [z8x];refine wpAny_bind (wpAny_standAt (wpAny_bind (wpAny_mono (turn n s hI) (fun r s₁ h₁=>?_) fun _ _ h'=>h'.elim)));cases r with
 | none=>exact wpAny_pure h₁ | some v=>
  refine wpAny_bind (wpAny_mono h₁ (fun _ s₁' h₁'=>wpAny_bind (wpAny_mono h₁' (fun _ s₂ h₂=>?_) fun _ _ h'=>h'.elim)) fun _ _ h'=>h'.elim);exact wpAny_bind (wpAny_bind (wpAny_mono h₂ (fun x s₄ h₄=>wpAny_bind (wpAny_mono h₄ (fun _ s₅ h₅=>wpAny_pure (wpAny_pure ⟨rfl,h₅⟩)) fun _ _ h'=>h'.elim)) fun _ _ h'=>h'.elim))
theorem z7H(h0:codeAny (model prog w) A (.compLoop (.ListComp elt [⟨t1,i1,[],0⟩,⟨t2,i2,[],0⟩] scope pos) 1 it acc env) R s) (h:wpAny (model prog w) A (pyIter it) (fun it' s'=>codeAny (model prog w) A (.compLoop (.ListComp elt [⟨t1,i1,[],0⟩,⟨t2,i2,[],0⟩] scope pos) 1 it' acc env) R s') (notedBy (model prog w) A env fun x s'=>R (.error x) s') s): codeAny (model prog w) A (.compStart (.ListComp elt [⟨t1,i1,[],0⟩,⟨t2,i2,[],0⟩] scope pos) 1 it acc env) R s:=by
 refine codeAny_of_tree ?_;show wpAny _ _ ((compStart (.ListComp elt [⟨t1,i1,[],0⟩,⟨t2,i2,[],0⟩] scope pos) 1 it acc env).onRaise (fun x=>do noteFrame x env;standAt theWindowsPlace)) _ _ s;refine wpAny_notedAt ?_;unfold compStart;show wpAny _ _ (ask >>= _) _ _ s;refine wpAny_bind (wpAny_askSetting (wpAny_ite ?_));split;·first
   | exact wpAny_bind (wpAny_pure (wpAny_pure (And.intro rfl h0))) | exact wpAny_pure (And.intro rfl h0)
 ·first
   | exact wpAny_bind (wpAny_rule (wpAny_bind (wpAny_standAt (wpAny_bind (wpAny_mono h (fun it' s' h'=>wpAny_pure (And.intro rfl h')) fun _ _ x=>x))))) | (refine wpAny_bind (wpAny_rule ?_);show wpAny _ _ (standAt i2.pos >>= _) _ _ s;exact wpAny_bind (wpAny_standAt (wpAny_bind (wpAny_mono h (fun it' s' h'=>wpAny_pure (And.intro rfl h')) fun _ _ x=>x))))
theorem z8Y(hs2:∀ x,foldedSetIterable i2 env x=pure x)(I:Nat->Shared->Prop) (turn:∀ n s,I n s->wpAny (model prog w) A (pyNext it) (fun r s₁=>match r with
   | none=>R (.ok .next) s₁ | some v=>wpAny (model prog w) A (letOwnedTupleGo t1 it v) (fun _ s₁'=>wpAny (model prog w) A (assign t1 env v) (fun _ s₂=>wpAny (model prog w) A (eval i2 env) (fun x s₃=>wpAny (model prog w) A (pyIter x) (fun jt s₄=> codeAny (model prog w) A (.compStart (.ListComp elt [⟨t1,i1,[],0⟩,⟨t2,i2,[],0⟩] scope pos) 1 jt acc env) (fun r s₅=>match r with | .ok _=>∃ m,m<n/\I m s₅ | .error _=>False) s₄) (fun _ _=>False) s₃) (fun _ _=>False) s₂) (fun _ _=>False) s₁') (fun _ _=>False) s₁) (fun _ _=>False) s) (n:Nat)(h:I n s):codeAny (model prog w) A (.compLoop (.ListComp elt [⟨t1,i1,[],0⟩,⟨t2,i2,[],0⟩] scope pos) 0 it acc env) R s:=by
 refine codeAny_loop rfl I (fun n s hI=>?_) n h;show wpAny _ A ((compTurn (.ListComp elt [⟨t1,i1,[],0⟩,⟨t2,i2,[],0⟩] scope pos) 0 it acc env).onRaise (fun x=>do noteFrame x env;theTreesLotGoes x)) _ _ s;refine wpAny_noted ?_;rw [z8p];refine wpAny_bind (wpAny_standAt (wpAny_bind (wpAny_mono (turn n s hI) (fun r s₁ h₁=>?_) fun _ _ h'=>h'.elim)));cases r with
 | none=>exact wpAny_pure h₁ | some v=>
  refine wpAny_bind (wpAny_mono h₁ (fun _ s₁' h₁'=>wpAny_bind (wpAny_mono h₁' (fun _ s₂ h₂=>?_) fun _ _ h'=>h'.elim)) fun _ _ h'=>h'.elim);refine wpAny_bind (wpAny_mono h₂ (fun x s₃ h₃=>wpAny_bind (wpAny_standAt (wpAny_bind (wpAny_of_eq (hs2 x) ?_)))) fun _ _ h'=>h'.elim);refine wpAny_bind (wpAny_holding (wpAny_mono h₃ (fun jt s₄ h₄=>?_) fun _ _ h'=>h'.elim));refine wpAny_bind (wpAny_runOwn (codeAny_mono h₄ fun r s₅ h₅=>?_));cases r with
  | ok f=>exact wpAny_pure ⟨rfl,h₅⟩ | error e=>exact h₅.elim
end
def zct(wi:TI)(mp:List (Option Nat))(k1 k2:Nat)(wi2:TI)(te:TE):TE:=fun O H Q=>wi O H fun J H1=>∃ W:Nat->Nat->List V->Hp->Prop,(∃ m,W 0 m [] H1)/\∀ i m ys H,W i m ys H-> (J.stop i H/\ys.length<=sizeLine/\∀ p,H p=none->Q (.ref p) (upd H p (.lst ys)))\/ (J.go i H/\∀ x H',J.yld i H x H'->wi2 ((inner mp O).set k1 (some x)) H' fun J2 H3=>∃ W2:Nat->Nat->List V->Hp->Prop,(∃ m2,W2 0 m2 ys H3)/\∀ j m2 ys2 H4,W2 j m2 ys2 H4-> (J2.stop j H4/\∃ m',m'<m/\W (i+1) m' ys2 H4)\/ (J2.go j H4/\∀ x2 H5,J2.yld j H4 x2 H5->te (((inner mp O).set k1 (some x)).set k2 (some x2)) H5 fun y H6=>ys2.length<=sizeLine/\∃ m',m'<m2/\W2 (j+1) m' (ys2++[y]) H6))
theorem z48{O:St}{i:Nat}{v:V}(h:O[i]? = some none):(O.set i (some v)).length=O.length/\∀ (j:Nat) u,O[j]? = some (some u)->(O.set i (some v))[j]? = some (some u):=by
 refine ⟨by simp,fun j u e=>?_⟩;have:i≠j:=fun z=>by subst z;rw [h] at e;cases e
 rw [List.getElem?_set_ne this];exact e
theorem z5I {X:Cx} {tg iter tg2 iter2 elt:Expr} {scope:Scope} {pos:Pos} {wi2:TI} {te:TE} {N':List Str} {mp:List (Option Nat)} {k1 k2:Nat} {pins:List (Addr×Obj)} {O:St} {Q:VK} {J:It} {H2:Hp} {s₂:Shared} {it:Addr} {fp:List Addr} {tn:Nat->Heap->Prop} {E:Value->Shared->Prop} {RR:Value->Addr->Result->Shared->Prop} (hc:X.calm=true) (hm1:mp[k1]? = some none) (hm2:mp[k2]? = some none) (hk:k1≠k2) (hg:∀ ex s H,PG (zj X N' scope ex s H) tg (z04 k1)) (hg2:∀ ex s H,PG (zj X N' scope ex s H) tg2 (z04 k2)) (hi2:∀ ex s H,PI (zj X N' scope ex s H) tg2 iter2 wi2) (he:∀ ex s H,PE (zj X N' scope ex s H) elt te) (hs2:∀ env x,foldedSetIterable iter2 env x=pure x) (hkd:scope.kind=.function) (hnm:∀ y∈scope.names,scope.names.lookup y.1=some y.2) (hfr:∀ y∈scope.names,y.2=.free->X.env.kindOf y.1=some .cell\/X.env.kindOf y.1=some .free) (hmp:z0x X.N scope.names N' mp=true) (I2:Inv X pins O H2 s₂) (T:zaP X.prog X.w X.K tg J fp it tn) (st2:tn 0 s₂.heap) (f2:∀ b∈fp,z1W X pins H2 b) (W:Nat->Nat->List V->Hp->Prop) (w0:∃ m,W 0 m [] H2) (turn:∀ i m ys H,W i m ys H-> (J.stop i H/\ys.length<=sizeLine/\∀ p,H p=none->Q (.ref p) (upd H p (.lst ys)))\/ (J.go i H/\∀ x H',J.yld i H x H'->wi2 ((inner mp O).set k1 (some x)) H' fun J2 H3=>∃ W2:Nat->Nat->List V->Hp->Prop,(∃ m2,W2 0 m2 ys H3)/\∀ j m2 ys2 H4,W2 j m2 ys2 H4-> (J2.stop j H4/\∃ m',m'<m/\W (i+1) m' ys2 H4)\/ (J2.go j H4/\∀ x2 H5,J2.yld j H4 x2 H5->te (((inner mp O).set k1 (some x)).set k2 (some x2)) H5 fun y H6=>ys2.length<=sizeLine/\∃ m',m'<m2/\W2 (j+1) m' (ys2++[y]) H6))) (hRR:∀ acc C s',jH X pins O C Q acc s'->RR acc C (.ok .next) s'): wpAny (model X.prog X.w) X.A (newList []) (fun acc s₃=>wpAny (model X.prog X.w) X.A (newFunctionEnv scope X.env.globals (z3e X.env scope.names []) [] X.env.qual none .none (some X.env)) (fun cenv s₄=> codeAny (model X.prog X.w) X.A (.compStart (.ListComp elt [⟨tg,iter,[],0⟩,⟨tg2,iter2,[],0⟩] scope pos) 0 (.ref it) acc {cenv with scope:=relabel scope X.env}) (RR acc cenv.locals) s₄) E s₃) E s₂:=by
 refine wpAny_newObj_type ?_;have hf2:H2 s₂.heap.objs.size=none:=I2.hok.fresh (Nat.le_refl _);have fA:z1W X pins H2 s₂.heap.objs.size:=I2.fpOk (Nat.le_refl _) hf2;generalize hacc:s₂.heap.objs.size=acc at hf2 fA ⊢;have I3:Inv X pins O H2 {s₂ with heap:=s₂.heap.push {cls:=.type "list",data:=.seq ([]:List Value).toArray}}:=I2.kept (t':=s₂.toks) fun b o e=>Heap.get?_push_of_some _ e;have ha3:(s₂.heap.push {cls:=.type "list",data:=.seq ([]:List Value).toArray}).get? acc=some (LCg.lst []):=by rw [<- hacc];exact Heap.get?_push_size _ rfl
 have sz3:(s₂.heap.push {cls:=.type "list",data:=.seq ([]:List Value).toArray}).objs.size=acc+1:=by rw [Heap.size_push,hacc]
 have kp3:∀ b o,s₂.heap.get? b=some o->(s₂.heap.push {cls:=.type "list",data:=.seq ([]:List Value).toArray}).get? b=some o:=fun b o e=>Heap.get?_push_of_some _ e;show wpAny _ _ _ _ _ {s₂ with heap:=s₂.heap.push {cls:=.type "list",data:=.seq ([]:List Value).toArray}};generalize hs3:({s₂ with heap:=s₂.heap.push {cls:=.type "list",data:=.seq ([]:List Value).toArray}}:Shared)=s₃ at I3 ⊢;have ha3':s₃.heap.get? acc=some (LCg.lst []):=by rw [<- hs3];exact ha3
 have sz3':s₃.heap.objs.size=acc+1:=by rw [<- hs3];exact sz3
 have kp3':∀ b o,s₂.heap.get? b=some o->s₃.heap.get? b=some o:=by rw [<- hs3];exact kp3
 have flt:∀ b∈fp,b<acc:=fun b hb=>by
  obtain ⟨o,e,_⟩:=T.obj 0 _ st2 b hb;rw [<- hacc];exact Heap.lt_size e
 have fne:∀ b∈fp,b≠acc:=fun b hb=>Nat.ne_of_lt (flt b hb);have tn3:tn 0 s₃.heap:=T.keep 0 _ _ st2 fun b hb o e=>kp3' b o e;refine z1l ?_;rw [wc];have hex:∀ b∈acc::fp,b<s₃.heap.objs.size/\H2 b=none/\b≠X.env.locals/\b∉X.fs/\(b∈X.ex\/X.s₀.heap.objs.size<=b)/\(∀ x c,X.env.cells.lookup x=some c->c≠b):=fun b hb=>by
  rcases List.mem_cons.mp hb with z | hb
  ·subst z;exact ⟨by rw [sz3'];exact Nat.lt_succ_self _,hf2,fA.2.1,fA.2.2.1,fA.2.2.2.1,fA.2.2.2.2.1⟩
  ·have q:=f2 b hb;exact ⟨by rw [sz3'];exact Nat.lt_succ_of_lt (flt b hb),q.1,q.2.1,q.2.2.1,q.2.2.2.1,q.2.2.2.2.1⟩
 have I4:=z2y (N':=N') (mp:=mp) (ex:=acc::fp) (s1:={s₃ with heap:=pushCells (s₃.heap.push {cls:=.type "dict",data:=.dict #[]}) scope.names}) I3 hkd hnm hfr hmp hex rfl rfl rfl;have kp4:∀ b o,s₃.heap.get? b=some o->(pushCells (s₃.heap.push {cls:=.type "dict",data:=.dict #[]}) scope.names).get? b=some o:=fun b o e=>pushCells_keeps _ _ b o (Heap.get?_push_of_some _ e);generalize hs4:({s₃ with heap:=pushCells (s₃.heap.push {cls:=.type "dict",data:=.dict #[]}) scope.names}:Shared)=s₄ at I4 ⊢;have ha4:s₄.heap.get? acc=some (LCg.lst []):=by rw [<- hs4];exact kp4 _ _ ha3'
 have tn4:tn 0 s₄.heap:=T.keep 0 _ _ tn3 fun b hb o e=>by rw [<- hs4];exact kp4 b o e
 have Cne:acc≠s₃.heap.objs.size:=by rw [sz3'];exact Nat.ne_of_lt (Nat.lt_succ_self _)
 have celln:∀ b∈acc::fp,∀ x c,(z6k X scope s₃.heap.objs.size).cells.lookup x=some c->c≠b:=fun b hb=>(I4.ok.exf b hb).2;have stat:∀ {H':Hp} {o:Obj},(∀ b∈fp,H' b=none)->∀ b∈fp,z1W (zj X N' scope (acc::fp) s₃ H2) [(acc,o)] H' b:=fun {H' o} hn b hb=> ⟨hn b hb,Nat.ne_of_lt (by show b<s₃.heap.objs.size;rw [sz3'];exact Nat.lt_succ_of_lt (flt b hb)),fun hf=>I4.ok.exfs b (List.mem_cons_of_mem _ hb) hf,.inl (List.mem_cons_of_mem _ hb),celln b (List.mem_cons_of_mem _ hb),fun p hp=>by
   have e:p=(acc,o):=by simpa [zj] using hp
   rw [e];exact Ne.symm (fne b hb)⟩;have accP:∀ (its:List Value) (v:Option Value),(LCg.lst its).data≠.cell v:=fun its v z=>by
  have z':Data.seq _ _=Data.cell v:=z;cases z'
 have pinA:∀ {P:List (Addr×Obj)} {O':St} {H':Hp} {s':Shared} {its:List Value},Inv (zj X N' scope (acc::fp) s₃ H2) P O' H' s'->H' acc=none->s'.heap.get? acc=some (LCg.lst its)->Inv (zj X N' scope (acc::fp) s₃ H2) ([(acc,LCg.lst its)]++P) O' H' s':=fun {P O' H' s' its} J' n' e'=> J'.pins_of fun p hp=>by
   rcases List.mem_append.mp hp with hp | hp
   ·have e:p=(acc,LCg.lst its):=by simpa using hp
    subst e;exact ⟨e',n',Cne,fun hf=>I4.ok.exfs acc List.mem_cons_self hf,accP its⟩
   ·exact J'.pin p (List.mem_append_right _ hp)
 obtain ⟨m0,w0⟩:=w0;have loop:codeAny (model X.prog X.w) X.A (.compLoop (.ListComp elt [⟨tg,iter,[],0⟩,⟨tg2,iter2,[],0⟩] scope pos) 0 (.ref it) (.ref acc) (z6k X scope s₃.heap.objs.size)) (RR (.ref acc) s₃.heap.objs.size) s₄:=by
  refine z8Y (hs2 _) (fun n s'=>∃ i ys its H',Inv (zj X N' scope (acc::fp) s₃ H2) [] (inner mp O) H' s'/\tn i s'.heap/\(∀ b∈fp,H' b=none)/\H' acc=none/\s'.heap.get? acc=some (LCg.lst its)/\xb ys its/\W i n ys H') ?_ m0 ⟨0,[],[],H2,I4,tn4,fun b hb=>(f2 b hb).1,hf2,ha4,.nil,w0⟩;rintro n s5 ⟨i,ys,its,H5,I5,tn5,n5,na5,ea5,rv5,w5⟩;have I5':Inv (zj X N' scope (acc::fp) s₃ H2) [(acc,LCg.lst its)] (inner mp O) H5 s5:=pinA I5 na5 ea5;rcases turn i n ys H5 w5 with ⟨stop,hz,q⟩ | ⟨go,step⟩
  ·refine wpAny_mono (T.done (zj X N' scope (acc::fp) s₃ H2) rfl rfl rfl hc i _ s5 _ H5 (fun _ _=>False) I5' (stat n5) tn5 stop) (fun r s6 ⟨hr,I6⟩=>?_) fun _ _ z=>z;subst hr;have ea6:=(I6.pin (acc,LCg.lst its) (by simp)).1;have un:Un (frs X.stack) (acc::fp) H2 H5 s₃.heap s6.heap:=I6.base;have I7:Inv X pins O H5 s6:=I3.call' (s':=s6) (I6.os) un I6.hok I6.bare fun b hb=>by
    rcases List.mem_cons.mp hb with z | hb;·subst z;exact ⟨fA.2.2.2.1,fA.2.1,fA.2.2.2.2.1,fA.2.2.2.2.2⟩
    ·exact ⟨(f2 b hb).2.2.2.1,(f2 b hb).2.1,(f2 b hb).2.2.2.2.1,(f2 b hb).2.2.2.2.2⟩
   have C7:z1W X pins H5 s₃.heap.objs.size:=I3.fpOk (Nat.le_refl _) I6.free;refine hRR _ _ s6 ⟨.ref acc,upd H5 acc (.lst ys),I7.track ⟨na5,fA.2⟩ ?_,rfl,q acc na5,?_,?_,C7.2⟩;·exact ⟨hz,its,_,rv5,ea6⟩
   ·obtain ⟨m,hm,_⟩:=I6.loc;exact ⟨m,hm⟩
   ·rw [zw (Ne.symm Cne)];exact I6.free
  ·refine wpAny_mono (T.item (zj X N' scope (acc::fp) s₃ H2) rfl rfl rfl hc i _ s5 _ H5 (fun _ _=>False) I5' (stat n5) tn5 go) (fun r s6 ⟨u,hr,h6⟩=>?_) fun _ _ z=>z;subst hr;refine wpAny_mono h6 (fun _ s7 ⟨x,H7,I7,r7,y7,tn7,n7⟩=>?_) fun _ _ z=>z;have I7':=I7.pinned (stat n7) (T.obj _ _ tn7);generalize hP:z2u fp s7.heap=P7 at I7';have inP:∀ b∈fp,∀ o,s7.heap.get? b=some o->(b,o)∈P7:=fun b hb o e=>by rw [<- hP];exact ul hb e
   have zgD:∀ {O':St} {H':Hp} {s':Shared} {its':List Value},Inv (zj X N' scope (acc::fp) s₃ H2) ([(acc,LCg.lst its')]++P7) O' H' s'->(∀ b∈fp,H' b=none)/\H' acc=none/\s'.heap.get? acc=some (LCg.lst its')/\tn (i+1) s'.heap:=fun {O' H' s' its'} J'=>by
    have z:=J'.pin (acc,LCg.lst its') (by simp [zj]);have zz:∀ b∈fp,∀ o,s7.heap.get? b=some o->s'.heap.get? b=some o/\H' b=none:=fun b hb o e=>by
     have y:=J'.pin (b,o) (List.mem_append_right _ (List.mem_append_right _ (inP b hb o e)));exact ⟨y.1,y.2.1⟩
    refine ⟨fun b hb=>?_,z.2.1,z.1,T.keep _ _ _ tn7 fun b hb o e=>(zz b hb o e).1⟩;obtain ⟨o,e,_⟩:=T.obj _ _ tn7 b hb;exact (zz b hb o e).2
   have ow1:(inner mp O)[k1]? = some none:=by simp [L2.inner,hm1]
   have kp1:=z48 (v:=x) ow1;have ow2:((inner mp O).set k1 (some x))[k2]? = some none:=by rw [List.getElem?_set_ne hk];simp [L2.inner,hm2]
   refine wpAny_mono (hg _ _ _ _ s7 (inner mp O) H7 x u (fun O8 H8=>O8=(inner mp O).set k1 (some x)/\H8=H7) I7' r7 ⟨rfl,rfl⟩) (fun _ s8 ⟨O8,H8,I8,e8,e8'⟩=>?_) fun _ _ z=>z;subst e8 e8';refine wpAny_mono (hi2 _ _ _ _ s8 _ H8 _ I8 (step x H8 y7)) (fun xv s9 h9=>?_) fun _ _ z=>z;refine wpAny_mono h9 (fun jt s10 h10=>?_) fun _ _ z=>z;obtain ⟨it2,fp2,tn2,J2,H10,e10,I10,T2,st10,f10,W2,⟨m2,v0⟩,turn2⟩:=h10;subst e10;obtain ⟨_,na10,ea10,_⟩:=zgD I10;have stat2:∀ {H':Hp} {its':List Value},(∀ b∈fp2,H' b=none)->∀ b∈fp2,z1W (zj X N' scope (acc::fp) s₃ H2) ([(acc,LCg.lst its')]++P7) H' b:=fun {H' its'} hn b hb=>by
    obtain ⟨q1,q2,q3,q4,q5,q6⟩:=f10 b hb;refine ⟨hn b hb,q2,q3,q4,q5,fun p hp=>?_⟩;rcases List.mem_append.mp hp with hp | hp;·exact q6 p (List.mem_append_left _ hp)
    ·rcases List.mem_append.mp hp with hp | hp
     ·have e:p=(acc,LCg.lst its'):=by simpa using hp
      rw [e];exact q6 (acc,LCg.lst its) (List.mem_append_right _ (List.mem_append_left _ (by simp)))
     ·exact q6 p (List.mem_append_right _ (List.mem_append_right _ hp))
   have unA:∀ {O':St} {H':Hp} {s':Shared} {its':List Value},Inv (zj X N' scope (acc::fp) s₃ H2) ([(acc,LCg.lst its')]++P7) O' H' s'->Inv (zj X N' scope (acc::fp) s₃ H2) P7 O' H' s':=fun J'=>J'.pins_of fun p hp=>J'.pin p (List.mem_append_right _ (List.mem_append_right _ hp));have loop2:codeAny (model X.prog X.w) X.A (.compLoop (.ListComp elt [⟨tg,iter,[],0⟩,⟨tg2,iter2,[],0⟩] scope pos) 1 (.ref it2) (.ref acc) (z6k X scope s₃.heap.objs.size)) (fun r s'=>match r with | .ok _=>∃ m,m<n/\∃ i ys its H',Inv (zj X N' scope (acc::fp) s₃ H2) [] (inner mp O) H' s'/\tn i s'.heap/\(∀ b∈fp,H' b=none)/\H' acc=none/\s'.heap.get? acc=some (LCg.lst its)/\xb ys its/\W i m ys H' | .error _=>False) s10:=by
    refine z8k (fun n' s'=>∃ j ys2 its2 H',Inv (zj X N' scope (acc::fp) s₃ H2) P7 ((inner mp O).set k1 (some x)) H' s'/\tn2 j s'.heap/\(∀ b∈fp2,H' b=none)/\H' acc=none/\s'.heap.get? acc=some (LCg.lst its2)/\xb ys2 its2/\W2 j n' ys2 H') ?_ m2 ⟨0,ys,its,H10,unA I10,st10,fun b hb=>(f10 b hb).1,na10,ea10,rv5,v0⟩;rintro n' s11 ⟨j,ys2,its2,H11,I11,tn11,n11,na11,ea11,rv11,v11⟩;have I11':=pinA I11 na11 ea11;rcases turn2 j n' ys2 H11 v11 with ⟨stop2,m',lt,w12⟩ | ⟨go2,step2⟩
    ·refine wpAny_mono (T2.done (zj X N' scope (acc::fp) s₃ H2) rfl rfl rfl hc j _ s11 _ H11 (fun _ _=>False) I11' (stat2 n11) tn11 stop2) (fun r s12 ⟨hr,I12⟩=>?_) fun _ _ z=>z;subst hr;obtain ⟨z1,z2,z3,z4⟩:=zgD I12;exact ⟨m',lt,i+1,ys2,its2,H11,(I12.pins_of (pins':=[]) (fun p hp=>absurd hp (by simp))).weak kp1.1.symm kp1.2,z4,z1,z2,z3,rv11,w12⟩
    ·refine wpAny_mono (T2.item (zj X N' scope (acc::fp) s₃ H2) rfl rfl rfl hc j _ s11 _ H11 (fun _ _=>False) I11' (stat2 n11) tn11 go2) (fun r s12 ⟨u2,hr,h12⟩=>?_) fun _ _ z=>z;subst hr;refine wpAny_mono h12 (fun _ s13 ⟨x2,H13,I13,r13,y13,tn13,n13⟩=>?_) fun _ _ z=>z;have I13':=I13.pinned (stat2 n13) (T2.obj _ _ tn13);have kp2:=z48 (v:=x2) ow2;refine wpAny_mono (hg2 _ _ _ _ s13 _ H13 x2 u2 (fun O14 H14=>O14=((inner mp O).set k1 (some x)).set k2 (some x2)/\H14=H13) I13' r13 ⟨rfl,rfl⟩) (fun _ s14 ⟨O14,H14,I14,e14,e14'⟩=>?_) fun _ _ z=>z;subst e14 e14';refine wpAny_mono (he _ _ _ _ s14 _ H14 _ I14 (step2 x2 H14 y13)) (fun yv s15 ⟨y,H15,I15,r15,hz,m',lt,v15⟩=>?_) fun _ _ z=>z;have I15u:Inv (zj X N' scope (acc::fp) s₃ H2) ([(acc,LCg.lst its2)]++P7) _ H15 s15:=I15.unpinned;obtain ⟨z1,z2,z3,z4⟩:=zgD I15u;have zz:∀ b∈fp2,∀ o,s13.heap.get? b=some o->s15.heap.get? b=some o/\H15 b=none:=fun b hb o e=>by
      have y:=I15.pin (b,o) (List.mem_append_right _ (List.mem_append_right _ (ul hb e)));exact ⟨y.1,y.2.1⟩
     have fne2:∀ b∈fp2,b≠acc:=fun b hb=>by
      have:=(f10 b hb).2.2.2.2.2 (acc,LCg.lst its) (List.mem_append_right _ (List.mem_append_left _ (by simp)));exact Ne.symm this
     have zl:its2.toArray.size<=sizeLine:=by rw [List.size_toArray,<- rv11.length];exact hz
     refine append_at (hsz:=zl) z3 fun h16 sb ea16=>?_;have I15w:=(unA I15u).weak kp2.1.symm kp2.2;have aP:∀ p∈(zj X N' scope (acc::fp) s₃ H2).pn++P7,p.1≠acc:=fun p hp=>by
      have hp':p∈P7:=by simpa [zj] using hp
      rw [<- hP] at hp';obtain ⟨b,hb,e⟩:=List.mem_filterMap.mp hp';obtain ⟨o,_,e2⟩:=Option.map_eq_some_iff.mp e;rw [<- e2];exact fne b hb
     have I16:Inv (zj X N' scope (acc::fp) s₃ H2) P7 ((inner mp O).set k1 (some x)) H15 {s15 with heap:=h16}:=I15w.turned (t':=s15.toks) (fun b o hb e=>(sb.2 b hb).trans e) z2 Cne (.inl List.mem_cons_self) (celln acc List.mem_cons_self) aP;refine ⟨m',lt,j+1,ys2++[y],its2++[yv],H15,I16,T2.keep _ _ _ tn13 (fun b hb o e=>(sb.2 b (fne2 b hb)).trans (zz b hb o e).1),fun b hb=>?_,z2,ea16.trans (congrArg some (LCg.lst_snoc its2 yv)),rv11.append (.cons r15 .nil),v15⟩;obtain ⟨o,e,_⟩:=T2.obj _ _ tn13 b hb;exact (zz b hb o e).2
   exact z7H loop2 (T2.self _ 0 _ _ _ st10 loop2)
 exact codeAny_compStart_list loop (T.self _ 0 _ _ _ tn4 loop)
section
variable {X:Cx}{tg iter tg2 iter2 elt:Expr}{scope:Scope}{pos spos py:Pos}{wi wi2:TI}{te:TE}{k1 k2:Nat}
theorem z5v {i:Nat} {y:Str} (N':List Str) (mp:List (Option Nat)) (hN:X.N.Nodup) (hy:X.N[i]? = some y) (hyl:Loc X.env.scope y) (hc:X.calm=true) (hm1:mp[k1]? = some none) (hm2:mp[k2]? = some none) (hk:k1≠k2) (hi:PI X tg iter wi) (hg:∀ ex s H,PG (zj X N' scope ex s H) tg (z04 k1)) (hg2:∀ ex s H,PG (zj X N' scope ex s H) tg2 (z04 k2)) (hi2:∀ ex s H,PI (zj X N' scope ex s H) tg2 iter2 wi2) (he:∀ ex s H,PE (zj X N' scope ex s H) elt te) (hs2:∀ env x,foldedSetIterable iter2 env x=pure x) (hkd:scope.kind=.function) (hnm:∀ y∈scope.names,scope.names.lookup y.1=some y.2) (hfr:∀ y∈scope.names,y.2=.free->X.env.kindOf y.1=some .cell\/X.env.kindOf y.1=some .free) (hmp:z0x X.N scope.names N' mp=true) (hs:∀ x,foldedSetIterable iter X.env x=pure x:=by intro _;rfl) (hsw:swapsWith (.ListComp elt [⟨tg,iter,[],0⟩,⟨tg2,iter2,[],0⟩] scope pos) (some (.Name y py)) spos.line X.env=pure true:=by rfl) (hf:X.fn y=true\/X.env.scope.names.lookup y=some .local:=by first | exact .inl rfl | exact .inr rfl | assumption): PS X (.Assign [.Name y py] (.ListComp elt [⟨tg,iter,[],0⟩,⟨tg2,iter2,[],0⟩] scope pos) spos) (fun D O H=>zct wi mp k1 k2 wi2 te O H (z8V fun v H'=>D.nx (O.set i (some v)) H')):=by
 intro pins s O H D I h;rw [exec_Assign_Name_used _ _ _ _ hsw];refine wpAny_bind (wpAny_standAt (wpAny_bind ?_));show wpAny _ X.A (do let _ <- comprehension (.ListComp elt [⟨tg,iter,[],0⟩,⟨tg2,iter2,[],0⟩] scope pos) scope X.env _ (newList []) false (eval iter X.env) (some (assign (.Name y py) X.env))) _ _ s;refine wpAny_bind (wpAny_mono (wpAny_comprehension_free (use:=some (assign (.Name y py) X.env)) (Q:=fun _ s'=>SP X pins D .next s') rfl hs (vd fun y hy hf=>I.ok.has _ (hfr y hy hf)) hkd (fun y hy hl=>by rw [hnm y hy,hl]) (thn (hi pins s O H _ I h) fun xv s₁ h₁=>thn h₁ fun itv s₂ h₂=>?_)) (fun _ s' hq=>wpAny_pure (wpAny_pure hq)) fun _ _ e=>e);obtain ⟨it,fp,tn,J,H2,e,I2,T,st2,f2,W,w0,turn⟩:=h₂;subst e;refine z5I (N':=N') (mp:=mp) (O:=O) (pins:=pins) (Q:=z8V fun v H'=>D.nx (O.set i (some v)) H') (RR:=fun acc C=>compPost (model X.prog X.w) X.A X.xe (some (assign (.Name y py) X.env)) (fun _ s'=>SP X pins D .next s') acc C) hc hm1 hm2 hk hg hg2 hi2 he hs2 hkd hnm hfr hmp I2 T st2 f2 W w0 turn ?_;intro acc C s' hd;obtain ⟨v,Hf,I3,r,q,⟨m,hm⟩,f⟩:=hd.freeze;refine wpAny_assign_Name (jT I3 hN hy hyl r (fun s'' I4 ⟨a,sb,ha⟩=>?_) hf);have hC:C≠a:=by
  rcases ha with z | z;·rw [z];exact f.2.1
  ·exact Ne.symm (f.2.2.2.2.1 y a z)
 exact ⟨m,hm.sameBut sb hC,fun h' sb'=>⟨_,Hf,uS I4 f sb',q⟩⟩
end
end L2
namespace Dd
open PySem.Spec L2
open Classical in
def z2Z(g:List (Nat×List D))(all:List D)(body:D->List D->Sto->R (List D)):List D->List D->Sto->R (List D)
 | [],acc,s=>if okG g all s then .ok acc s else .no | x::xs,acc,s=>if okG g all s then (body x acc s).bind fun acc' s1=>z2Z g all body xs acc' s1 else .no
def z4z(fi:FI)(mp:List (Option Nat))(k1 k2:Nat)(fi2:FI)(fe:FE):FA:=fun Z s=>(fi Z s).bind fun it s1=>z2Z it.2 it.1 (fun d acc s=>(fi2 ((yh mp Z).set k1 (some d)) s).bind fun it2 s2=>vw it2.2 it2.1 (fun d2 s=>(fe (((yh mp Z).set k1 (some d)).set k2 (some d2)) s).bind fun d s3=>.ok (some d) s3) it2.1 acc s2) it.1 [] s1
section
variable {X:Cx}{E:XK}{tg iter tg2 iter2 elt:Expr}{pos spos py:Pos}{mp:List (Option Nat)}{k1 k2:Nat}{fi fi2:FI}{fe:FE}{scope:Scope}
theorem z9Z{O:L2.St}{H:Hp}{Q:VK}{Y:List Addr}{Z:Ev}{s:Sto}{β:Type}{kR:List D->Sto->R β}{β2:Type}{Dn:Hp->List Addr->β->β2->Prop}{Q2:β2->Hp->Prop}(r:Rep (gm X) H Y s)(en:wV (gm X) H Y Z O) (h:okR (gm X) E H Y Dn ((z4z fi mp k1 k2 fi2 fe Z s).bind kR) Q2) (fin:∀ H1 Y1 s1 xs vs,Rep (gm X) H1 Y1 s1->wV (gm X) H1 Y1 Z O->zr (gm X) H1 Y1 xs vs->okR (gm X) E H1 Y1 Dn (kR xs s1) Q2->xs.length<=cap->∀ p,H1 p=none->Q (.ref p) (upd H1 p (.lst vs))): zct (tI (gm X) E fi) mp k1 k2 (tI (gm X) E fi2) (tE (gm X) E fe) O H Q:=by
 unfold z4z at h;have assoc:∀ {α γ δ:Type}(x:R α)(f:α->Sto->R γ)(k:γ->Sto->R δ),(x.bind f).bind k=x.bind fun a s=>(f a s).bind k:=fun x f k=>by cases x<;>rfl
 rw [assoc] at h;refine ⟨Y,Z,s,r,en,(okR.bind (Dn:=zaf (gm X)) h).imp fun J H1 ⟨Y1,s1,it,stp,ok,h1⟩=>?_⟩;obtain ⟨items,gd⟩:=it;simp only at h1;generalize hb:(fun (d:D)(acc:List D)(s:Sto)=>(fi2 ((yh mp Z).set k1 (some d)) s).bind fun it2 s2=>vw it2.2 it2.1 (fun d2 s=>(fe (((yh mp Z).set k1 (some d)).set k2 (some d2)) s).bind fun d s3=>R.ok (some d) s3) it2.1 acc s2)=body at h1;refine ⟨fun i m ys H=>∃ Y s acc,xS (gm X) H1 Y1 H Y s/\zr (gm X) H Y acc ys/\acc.length<=cap/\m=items.length-i/\i<=items.length/\okR (gm X) E H Y Dn ((z2Z gd items body (items.drop i) acc s).bind kR) Q2, ⟨items.length,Y1,s1,[],.refl stp.rep,zr.nil,Nat.zero_le _,by simp,Nat.zero_le _,by simpa using h1⟩,?_⟩;rintro i m ys H2 ⟨Y2,s2,acc,stp2,dn2,hcap,rfl,hil,h2⟩;have en2:wV (gm X) H2 Y2 Z O:=(en.mono stp).mono stp2;by_cases hlt:i<items.length
 ·right;rw [List.drop_eq_getElem_cons hlt,z2Z] at h2;split at h2
  ·rename_i hG;obtain ⟨go,yl⟩:=((ok H2 Y2 s2 stp2 hG i).1 items[i] (List.getElem?_eq_getElem hlt));refine ⟨go,fun x H' y=>?_⟩;obtain ⟨Y3,stp3,dn3⟩:=yl x H' y;have h3:=okR.rebase h2 stp3;rw [<- hb] at h3;simp only at h3;rw [hb,assoc,assoc] at h3;have en3:wV (gm X) H' Y3 ((yh mp Z).set k1 (some items[i])) ((inner mp O).set k1 (some x)):=((en2.mono stp3).inner).set dn3 k1;refine ⟨Y3,(yh mp Z).set k1 (some items[i]),s2,stp3.rep,en3,(okR.bind (Dn:=zaf (gm X)) h3).imp fun J2 H4 ⟨Y4,s4,it2,stp4,ok2,h4⟩=>?_⟩;obtain ⟨items2,gd2⟩:=it2;simp only at h4;generalize hb2:(fun (d2:D)(s:Sto)=>(fe (((yh mp Z).set k1 (some items[i])).set k2 (some d2)) s).bind fun d s3=>R.ok (some d) s3)=body2 at h4;have ziv:xS (gm X) H1 Y1 H4 Y4 s4:=(stp2.trans stp3).trans stp4;refine ⟨fun j m2 ys2 H=>∃ Y s acc2,xS (gm X) H4 Y4 H Y s/\zr (gm X) H Y acc2 ys2/\acc2.length<=cap/\m2=items2.length-j/\j<=items2.length/\okR (gm X) E H Y Dn ((vw gd2 items2 body2 (items2.drop j) acc2 s).bind fun acc' s1=>(z2Z gd items body (items.drop (i+1)) acc' s1).bind kR) Q2, ⟨items2.length,Y4,s4,acc,.refl stp4.rep,(dn2.mono stp3).mono stp4,hcap,by simp,Nat.zero_le _,by simpa using h4⟩,?_⟩;rintro j m2 ys2 H5 ⟨Y5,s5,acc2,stp5,dn5,hcap2,rfl,hjl,h5⟩;have en5:wV (gm X) H5 Y5 ((yh mp Z).set k1 (some items[i])) ((inner mp O).set k1 (some x)):=(en3.mono stp4).mono stp5;by_cases hlt2:j<items2.length
   ·right;rw [List.drop_eq_getElem_cons hlt2,vw] at h5;split at h5
    ·rename_i hG2;obtain ⟨go2,yl2⟩:=((ok2 H5 Y5 s5 stp5 hG2 j).1 items2[j] (List.getElem?_eq_getElem hlt2));refine ⟨go2,fun x2 H6 y2=>?_⟩;obtain ⟨Y6,stp6,dn6⟩:=yl2 x2 H6 y2;have h6:=okR.rebase h5 stp6;rw [<- hb2] at h6;simp only at h6;rw [hb2,assoc,assoc] at h6;have en6:=(en5.mono stp6).set dn6 k2;refine ⟨Y6,((yh mp Z).set k1 (some items[i])).set k2 (some items2[j]),s5,stp6.rep,en6,(okR.bind (Dn:=Den (gm X)) h6).imp fun yv H7 ⟨Y7,s7,d7,stp7,dn7,h7⟩=>?_⟩;simp only [R.bind_ok] at h7;split at h7
     ·rename_i hcc;have all7:=(stp5.trans stp6).trans stp7;refine ⟨by rw [dn5.length];exact qW hcap2,items2.length-(j+1),by omega,Y7,s7,acc2++[d7],all7,((dn5.mono stp6).mono stp7).append (zr.one dn7),by simp;omega,rfl,hlt2,h7⟩
     ·exact h7.elim
    ·exact h5.elim
   ·left;have e:j=items2.length:=by omega
    subst e;rw [List.drop_length,vw] at h5;split at h5
    ·rename_i hG2;simp only [R.bind_ok] at h5;exact ⟨(ok2 H5 Y5 s5 stp5 hG2 _).2 (Nat.le_refl _),items.length-(i+1),by omega,Y5,s5,acc2,ziv.trans stp5,dn5,hcap2,rfl,hlt,h5⟩
    ·exact h5.elim
  ·exact h2.elim
 ·left;have e:i=items.length:=by omega
  subst e;rw [List.drop_length,z2Z] at h2;split at h2
  ·rename_i hG;simp only [R.bind_ok] at h2;exact ⟨(ok H2 Y2 s2 stp2 hG _).2 (Nat.le_refl _),by rw [dn2.length];exact qW hcap,fin H2 Y2 s2 acc ys stp2.rep en2 dn2 h2 hcap⟩
  ·exact h2.elim
def z2A(fi:FI)(mp:List (Option Nat))(k1 k2:Nat)(fi2:FI)(fe:FE):FE:=fun Z s=>(z4z fi mp k1 k2 fi2 fe Z s).bind fun xs s1=>.ok (.lst xs) s1
theorem zdN (i:Nat) {y:Str} (N':List Str) (mp:List (Option Nat)) (k1 k2:Nat) (hN:X.N.Nodup) (hc:X.calm=true) (hi:RI X E tg iter fi) (hg:∀ ex s H,PG (zj X N' scope ex s H) tg (z04 k1)) (hg2:∀ ex s H,PG (zj X N' scope ex s H) tg2 (z04 k2)) (hi2:∀ ex s H,RI (zj X N' scope ex s H) E tg2 iter2 fi2) (he:∀ ex s H,RE (zj X N' scope ex s H) E elt fe) (hm1:mp[k1]? = some none:=by rfl) (hm2:mp[k2]? = some none:=by rfl) (hk:k1≠k2:=by decide) (hs2:∀ env x,foldedSetIterable iter2 env x=pure x:=by intro _ _;rfl) (hkd:scope.kind=.function:=by rfl) (hnm:z8j scope.names=true:=by rfl) (hfr:z9J X.env.kindOf scope.names=true:=by rfl) (hmp:z0x X.N scope.names N' mp=true:=by rfl) (hy:X.N[i]? = some y:=by rfl) (hyl:Loc X.env.scope y:=by first | exact Or.inl rfl | exact Or.inr rfl) (hs:∀ x,foldedSetIterable iter X.env x=pure x:=by intro _;rfl) (hsw:swapsWith (.ListComp elt [⟨tg,iter,[],0⟩,⟨tg2,iter2,[],0⟩] scope pos) (some (.Name y py)) spos.line X.env=pure true:=by rfl) (hf:X.fn y=true\/X.env.scope.names.lookup y=some .local:=by first | exact .inl rfl | exact .inr rfl | assumption): RS X E (.Assign [.Name y py] (.ListComp elt [⟨tg,iter,[],0⟩,⟨tg2,iter2,[],0⟩] scope pos) spos) (xl i (z2A fi mp k1 k2 fi2 fe)):= vy (z5v (te:=tE (gm X) E fe) (wi2:=tI (gm X) E fi2) N' mp hN hy hyl hc hm1 hm2 hk hi hg hg2 (fun ex s H=>hi2 ex s H) (fun ex s H=>he ex s H) hs2 hkd (z0r hnm) (z0k hfr) hmp hs hsw hf) fun D O H ⟨Y,Z,s,r,en,h⟩=>by
  have assoc:∀ {α γ δ:Type} (x:R α) (f:α->Sto->R γ) (k:γ->Sto->R δ),(x.bind f).bind k=x.bind fun a s=>(f a s).bind k:=fun x f k=>by cases x<;>rfl
  unfold xl z2A at h;rw [assoc] at h;refine z9Z r en h fun H1 Y1 s1 xs vs r1 en1 dn h1 hcap p hp=>?_;refine jC (E:=E) (mg:=gm X) (xs:=xs) r1 (fun v H2 Y2 stp dn2=>?_) dn p hp;exact h1 (.nx (O.set i (some v))) H2 Y2 stp ((en1.mono stp).set dn2 i)
end
@[simp] theorem zgA (fi:FI)(mp:List (Option Nat))(k1 k2:Nat)(fi2:FI)(fe:FE)(Z:Ev)(s:Sto):z2A fi mp k1 k2 fi2 fe Z s=(z4z fi mp k1 k2 fi2 fe Z s).bind fun xs s1=>.ok (.lst xs) s1:=id rfl
end Dd
namespace L2
open PySem.Spec
def zay:V->List V->Hp->VK->Prop:=fun x vs H Q=>∃ l b xs zs,x=.ref l/\vs=[.ref b]/\H l=some (.lst xs)/\Rd H b (.lst zs)/\xs.length+zs.length<=sizeLine/\Q .non (upd H l (.lst (xs++zs)))
theorem z80{X:Cx}:MtM X "list.extend" zay:=by
 intro pins s O H x vs v us Q I rx rv h;obtain ⟨l,b,xs,zs,rfl,rfl,hH,hB,hz,q⟩:=h;cases rx;obtain ⟨u,rfl,ru⟩:=rv.one;cases ru;obtain ⟨z,its,n,r,hl,e⟩:=I.lstM hH;obtain ⟨z2,its2,n2,r2,e2⟩:=hB.ok I.hok;have l1:=r.length;have l2:=r2.length;refine call_meets F.slot_list_extend ⟨_,e,rfl⟩ F.entry_list_extend (F.args_list_extend_2 _ _) (AutoSeq1.list_extend_list_list_0 l its.toArray n b its2.toArray n2 ?_ (by rw [List.size_toArray];omega) (by rw [List.size_toArray,List.size_toArray];omega)) ⟨e,e2,?_⟩
 ·intro q';simp only [Bool.and_eq_true] at q';have:=q'.2;simp only [Builtin.List.listTooLong,List.size_toArray,decide_eq_true_eq] at this;omega
 ·refine ⟨.non,_,I.lset (its':=its++its2) hH e (by simp) (r.append r2) ?_,rfl,q⟩;rw [List.length_append];omega
end L2
namespace Dd
open PySem.Spec L2
section
variable {X:Cx}{E:XK}{e:Expr}{pos:Pos}
def zgw(fo fv:FE):FE:=fun Z s=>(fo Z s).bind fun o s1=>match o with
 | .loc l=>(fv Z s1).bind fun d s2=>match d with
  | .lst ys=>match s2[l]? with
   | some xs=>if D.flat.flats ys=true/\xs.length+ys.length<=cap then .ok .non (s2.set l (xs++ys)) else .no | none=>.no
  | _=>.no
 | _=>.no
theorem zb8 {o:Expr} {apos:Pos} {fo fv:FE} (ho:RE X E o fo) (hv:RE X E e fv) (hbase:attributeBase o "extend" X.env (eval o X.env)=eval o X.env:=by rfl) (hfew:((backTo pos (starEach [e] X.env)).all (fun x=>!x.1)&&(backToKw pos (keywordEach [] X.env)).all (fun x=>x.1.isSome) && decide ([e].length+([]:List Keyword).length+(if ([]:List Keyword).isEmpty then 0 else 1)<30))=true:=by rfl) (hline:(apos.endLine==pos.line)=true:=by rfl) (hs:starEach [e] X.env=(false,eval e X.env)::starEach [] X.env:=by rfl) (hplain:(backTo pos (starEach [] X.env)).any (·.1)=false:=by rfl): RE X E (.Call (.Attribute o "extend" apos) [e] [] pos) (zgw fo fv):= zV (zg6 PySem.F.plainAttrs_list PySem.F.slot_list_extend PySem.F.type_list_extend z80 ho (kz hv z4D hs) hbase hfew hline hs hplain) fun O H Q ⟨Y,Z,s,r,en,h⟩=>by
  unfold zgw at h;refine ⟨Y,Z,s,r,en,(okR.bind (Dn:=Den (gm X)) h).imp fun ov H1 ⟨Y1,s1,od,stp,dn,h1⟩=>?_⟩;cases od with
  | loc l=>
   simp only at h1;have hty:tyV X.K "list" ov H1:=by
    simp only [Den] at dn;obtain ⟨a,rfl,e1,vs,e2⟩:=dn;exact .inl ⟨rfl,vs,.inl (.inl e2)⟩
   refine ⟨hty,⟨Y1,Z,s1,stp.rep,en.mono stp,(okR.bind (Dn:=Den (gm X)) h1).imp fun v H2 ⟨Y2,s2,d,stp2,dn2,h2⟩=>?_⟩⟩;cases d with
   | lst ys=>
    simp only at h2;split at h2
    ·rename_i xs ex;split at h2
     ·rename_i hf;have dov:=dn.mono stp2;simp only [Den] at dov dn2;obtain ⟨a,rfl,e1,ka⟩:=dov;obtain ⟨b,o',ws,rfl,eb,dw⟩:=dn2;obtain ⟨vs,q1,q2⟩:=stp2.rep.at_ ex e1 ka;have stp3:=xS.put (l:=l) (xs:=xs++ys) stp2.rep e1 ka (q2.append dw) (qC (stp2.rep.flat xs (List.mem_of_getElem? ex)) hf.1);refine ⟨a,b,vs,ws,rfl,rfl,q1,.inr ⟨o',eb⟩,by rw [q2.length,dw.length];exact qW hf.2,h2 .non _ _ stp3 (by simp [Den])⟩
     ·exact h2.elim
    ·exact h2.elim | _=>exact h2.elim
  | _=>exact h1.elim
@[simp] theorem zgo (fo fv:FE)(Z:Ev)(s:Sto):zgw fo fv Z s=(fo Z s).bind fun o s1=>match o with
 | .loc l=>(fv Z s1).bind fun d s2=>match d with
  | .lst ys=>match s2[l]? with
   | some xs=>if D.flat.flats ys=true/\xs.length+ys.length<=cap then .ok .non (s2.set l (xs++ys)) else .no | none=>.no
  | _=>.no
 | _=>.no:=id rfl
end
end Dd
namespace L2
open PySem.Spec
def n3(a b c:Int):Nat:=if a<b then ((b-a-1) / c+1).toNat else 0
end L2
namespace Dd
open PySem.Spec L2
section
variable {X:Cx}{E:XK}{a b c:Expr}{pos:Pos}
def zfb(a c:Int)(n:Nat):List D:=(List.range n).map fun k=>D.int (a+((k:Nat):Int)*c)
def zjb(f:FA):FE:=fun Z s=>(f Z s).bind fun ds s1=>match ds with
 | [.int i,.int j,.int k]=>if 0<=i/\i<=1000/\0<=j/\j<=1000/\1<=k/\k<=1000 then .ok (.lst (zfb i k (n3 i j k))) s1 else .no | _=>.no
@[simp] theorem ziT (f:FA)(Z:Ev)(s:Sto):zjb f Z s=(f Z s).bind fun ds s1=>match ds with
 | [.int i,.int j,.int k]=>if 0<=i/\i<=1000/\0<=j/\j<=1000/\1<=k/\k<=1000 then .ok (.lst (zfb i k (n3 i j k))) s1 else .no | _=>.no:=id rfl
end
open PySem.W
section
variable {N:Nat}{lt:Nat->Nat->Bool}(tot:∀ i j,i<N->j<N->i≠j->lt j i=!lt i j)(tr:∀ i j k,lt i j=true->lt j k=true->lt i k=true)
include tr
include tot
omit tot tr in
end
end Dd
namespace Dd
open PySem.Spec L2
def zcS:List D->Option (List (List Key×V))
 | .non::ys=>z69 ys | xs=>z69 xs
theorem z2L{kvs:List (List Key×V)}(h:z9U kvs):zcS (encD kvs)=some kvs:=by
 have:=dec_enc h;cases kvs with
 | nil=>exact this | cons p r=>exact this
theorem Rep.dicF{mg:Gm}{H:Hp}{Y:List Addr}{s:Sto}(r:Rep mg H Y s){l:Nat}{xs:List D}{a:Addr}{kvs:List (List Key×V)}(h:s[l]? = some xs)(ha:Y[l]? = some a)(k:IsC H a)(hd:zcS xs=some kvs):z9U kvs/\((H a=some (.dT kvs)/\xs=encD kvs)\/∃ o,H a=some (.frz o (.dT kvs))/\xs=.non::encD kvs):=by
 rcases r.dic h ha k with ⟨kvs',q1,q2⟩ | ⟨o,kvs',ys,q1,rfl,q2⟩
 ·obtain ⟨z1,z2,z3⟩:=z14 q2;rw [z1,z2L z2] at hd;cases hd;exact ⟨z2,.inl ⟨q1,z1⟩⟩
 ·obtain ⟨z1,z2,z3⟩:=z14 q2;have hd:z69 ys=some kvs:=hd;rw [z3] at hd;cases hd;exact ⟨z2,.inr ⟨o,q1,by rw [z1]⟩⟩
def qq(s:Sto)(o k:D):Option (Option V):=match o,k with
 | .dlo l,.tup ks=>match (s[l]?).bind zcS,kc ks with
  | some kvs,some key=>some (vc kvs key) | _,_=>none
 | _,_=>none
theorem zbF{kvs:List (List Key×V)}(h:z9U kvs){k:List Key}{v:V}(e:vc kvs k=some v):(z7W v).isSome=true:=by
 unfold vc at e;obtain ⟨p,hp,rfl⟩:=Option.map_eq_some_iff.mp e;exact h p (List.mem_of_find?_eq_some hp)
theorem zbY{mg:Gm}{H:Hp}{Y:List Addr}{v:V}(h:(z7W v).isSome=true):Den mg H Y (vD v) v:=by cases v with
 | int i=>simp [vD,Den] | bl b=>simp [vD,Den] | _=>simp [z7W] at h
section
variable {X:Cx}{E:XK}{a b e f o i:Expr}{pos apos:Pos}
theorem z5t{H:Hp}{Y:List Addr}{s:Sto}{od kd:D}{x y:V}{ov:Option V}(r:Rep (gm X) H Y s)(h1:Den (gm X) H Y od x)(h2:Den (gm X) H Y kd y)(h:qq s od kd=some ov):∃ p,x=.ref p/\zaB H p y ov/\(∀ v,ov=some v->(z7W v).isSome=true):=by
 unfold qq at h;split at h
 ·rename_i l ks;split at h
  ·rename_i kvs key ek edk;cases h;simp only [Den] at h1;obtain ⟨p,rfl,e1,ka⟩:=h1;obtain ⟨xs,ex,edc⟩:=Option.bind_eq_some_iff.mp ek;obtain ⟨z2,q⟩:=r.dicF ex e1 ka edc;have rd:Rd H p (.dT kvs):=q.imp (fun q=>q.1) fun ⟨o,q,_⟩=>⟨o,q⟩;rw [z31 edk] at h2;simp only [Den] at h2;obtain ⟨c,vs,rfl,hb,hd⟩:=h2;rw [z0o hd] at hb;exact ⟨p,rfl,.inr ⟨kvs,key,c,rd,rfl,hb,rfl⟩,fun v e=>zbF z2 e⟩
  ·cases h
 ·cases h
def zaF(neg:Bool)(k o:D)(s:Sto):R D:=match qq s o k with
 | some ov=>.ok (.bl (if neg then !ov.isSome else ov.isSome)) s | none=>.no
def zhz(neg:Bool):R2:=fun y x H Q=>∃ p ov,x=.ref p/\zaB H p y ov/\Q (.bl (if neg then !ov.isSome else ov.isSome)) H
theorem ziG(hu:X.A.units+64<cLine):OpR X (compareOp .In) (zhz false):=by
 intro pins s O H x y v u Q I rx ry h;obtain ⟨p,ov,rfl,g,q⟩:=h;cases ry;exact zjH (A:=X.A) (by omega) I g rx fun s' I'=>⟨.bl ov.isSome,H,I',rfl,q⟩
theorem z9W(hu:X.A.units+64<cLine):OpR X (compareOp .NotIn) (zhz true):=by
 intro pins s O H x y v u Q I rx ry h;obtain ⟨p,ov,rfl,g,q⟩:=h;cases ry;exact zdZ (A:=X.A) (by omega) I g rx fun s' I'=>⟨.bl (!ov.isSome),H,I',rfl,q⟩
theorem zcA{neg:Bool}:OpF X E (zhz neg) (zaF neg):=fun H Y s d1 d2 v1 v2 Q r h1 h2 h=>by
 unfold zaF at h;split at h
 ·rename_i ov e1;obtain ⟨p,rfl,g,_⟩:=z5t r h2 h1 e1;exact ⟨p,ov,rfl,g,h.here r xT⟩
 ·exact h.elim
theorem z6T(hu:X.A.units+64<cLine):∃ r,OpR X (compareOp .NotIn) r/\OpF X E r (zaF true):=⟨_,z9W hu,zcA⟩
def z5g(fo fk:FE):FE:=fun Z s=>(fo Z s).bind fun o s1=>(fk Z s1).bind fun k s2=>match qq s2 o k with
 | some (some v)=>.ok (vD v) s2 | _=>.no
theorem zc8{fo fk:FE}(hu:X.A.units+64<cLine)(ho:RE X E o fo)(hi:RE X E i fk)(hs:zhS i:=by intro _ _;rfl):RE X E (.Subscript o i pos) (z5g fo fk):= zV (zcw (by omega) ho hi hs) fun O H Q ⟨Y,Z,s,r,en,h⟩=>by
  unfold z5g at h;refine zO (k:=fun Z o s1=>(fk Z s1).bind fun k s2=>match qq s2 o k with | some (some v)=>.ok (vD v) s2 | _=>.no) r en h _ fun v H1 Y1 s1 d r1 en1 dn stp h1=>?_;refine zO (k:=fun Z k s2=>match qq s2 d k with | some (some v)=>.ok (vD v) s2 | _=>.no) r1 en1 h1 _ fun v2 H2 Y2 s2 kd r2 en2 dn2 stp2 h2=>?_;split at h2
  ·rename_i u eu;obtain ⟨p,rfl,g,al⟩:=z5t r2 (dn.mono stp2) dn2 eu;exact ⟨p,u,rfl,g,h2.here r2 (zbY (al u rfl))⟩
  ·exact h2.elim
def z6D(fo fk fx:FE):FE:=fun Z s=>(fo Z s).bind fun o s1=>match o with
 | .dlo l=>(fk Z s1).bind fun k s2=>(fx Z s2).bind fun x s3=>match qq s3 (.dlo l) k with
  | some ov=>.ok (match ov with | some v=>vD v | none=>x) s3 | none=>.no
 | _=>.no
theorem zd2{fo fk fx:FE}(hu:X.A.units+64<cLine)(ho:RE X E o fo)(he:RE X E e fk)(hf:RE X E f fx)(hbase:attributeBase o "get" X.env (eval o X.env)=eval o X.env:=by rfl) (hfew:((backTo pos (starEach [e,f] X.env)).all (fun x=>!x.1)&&(backToKw pos (keywordEach [] X.env)).all (fun x=>x.1.isSome) && decide (([e,f]:List Expr).length+([]:List Keyword).length+(if ([]:List Keyword).isEmpty then 0 else 1)<30))=true:=by rfl) (hline:(apos.endLine==pos.line)=true:=by rfl)(htr:backTo pos (starEach [e,f] X.env)=[(false,eval e X.env),(false,eval f X.env)]:=by rfl): RE X E (.Call (.Attribute o "get" apos) [e,f] [] pos) (z6D fo fk fx):= zV (zaH (by omega) ho he hf ⟨hbase,hfew,hline,htr⟩) fun O H Q ⟨Y,Z,s,r,en,h⟩=>by
  unfold z6D at h;refine zO (k:=fun Z o s1=>match o with
   | .dlo l=>(fk Z s1).bind fun k s2=>(fx Z s2).bind fun x s3=>match qq s3 (.dlo l) k with
    | some ov=>.ok (match ov with | some v=>vD v | none=>x) s3 | none=>.no
   | _=>.no) r en h _ fun v H1 Y1 s1 d r1 en1 dn stp h1=>?_;split at h1
  ·rename_i l;have dl:=dn;simp only [Den] at dl;obtain ⟨p,rfl,e1,ka⟩:=dl;have isd:IsD H1 p:=by rcases ka with ⟨kvs,q⟩ | ⟨o,kvs,q⟩;exact .inr ⟨kvs,.inl q⟩;exact .inr ⟨kvs,.inr ⟨o,q⟩⟩
   refine ⟨p,rfl,isd,?_⟩;refine zO (k:=fun Z k s2=>(fx Z s2).bind fun x s3=>match qq s3 (.dlo l) k with
    | some ov=>.ok (match ov with | some v=>vD v | none=>x) s3 | none=>.no) r1 en1 h1 _ fun v2 H2 Y2 s2 kd r2 en2 dn2 stp2 h2=>?_;refine zO (k:=fun Z x s3=>match qq s3 (.dlo l) kd with
    | some ov=>.ok (match ov with | some v=>vD v | none=>x) s3 | none=>.no) r2 en2 h2 _ fun v3 H3 Y3 s3 xd r3 en3 dn3 stp3 h3=>?_;split at h3
   ·rename_i ov eu;obtain ⟨p',e',g,al⟩:=z5t r3 ((dn.mono stp2).mono stp3) (dn2.mono stp3) eu;cases e';refine ⟨ov,g,?_⟩;cases ov with
    | none=>exact h3.here r3 dn3 | some u=>exact h3.here r3 (zbY (al u rfl))
   ·exact h3.elim
  ·exact h1.elim
end
@[simp] theorem z9h (fo fk:FE)(Z:Ev)(s:Sto):z5g fo fk Z s=(fo Z s).bind fun o s1=>(fk Z s1).bind fun k s2=>match qq s2 o k with
 | some (some v)=>.ok (vD v) s2 | _=>.no:=id rfl
@[simp] theorem zaK (fo fk fx:FE)(Z:Ev)(s:Sto):z6D fo fk fx Z s=(fo Z s).bind fun o s1=>match o with
 | .dlo l=>(fk Z s1).bind fun k s2=>(fx Z s2).bind fun x s3=>match qq s3 (.dlo l) k with
  | some ov=>.ok (match ov with | some v=>vD v | none=>x) s3 | none=>.no
 | _=>.no:=id rfl
end Dd
namespace L2
open PySem.Spec Dd
def Itd(a:Addr)(o:Obj)(kvs:List (List Key×V)):It:= ⟨fun i H=>H a=some (.frz o (.dT kvs))/\i<kvs.length,fun i H x H'=>H'=H/\∃ p b,kvs[i]? = some p/\x=.ref b/\H b=some (.tup (p.1.map kV)),fun i H=>H a=some (.frz o (.dT kvs))/\kvs.length<=i⟩
theorem zaE{P:Program}{w:World}{K:W.Frag}{tg:Expr}(a it:Addr){o:Obj}{es:Array DictEntry}{ep:Nat}(ho:o.data=.dict es ep)(kvs:List (List Key×V)):zaP P w K tg (Itd a o kvs) [it] it (fun i h=>h.IsKeyIter it a i es.size ep) where
 mem:=by simp
 obj:=fun i h st b hb=>by
  have e:b=it:=by simpa using hb
  subst e;obtain ⟨o,e,c,d⟩:=st;exact ⟨o,e,fun v z=>by rw [d] at z;cases z⟩
 keep:=fun i h h' st k=>st.at fun o e=>k it (by simp) o e;item:=by
  intro X hP hw hK hc i pins s O H E I hf st hg;subst hP hw hK;obtain ⟨ha,hi⟩:=hg;obtain ⟨h0,z,lo,xs,rel,o',es',ep',h1,h2,h3,h4,h5⟩:=(show xx X.prog X.w H s.heap a (.frz o (.dT kvs)) from I.hok a _ ha);rw [h0] at h1;cases h1;rw [ho] at h3;cases h3;obtain ⟨p,hp⟩:∃ p,kvs[i]? = some p:=⟨kvs[i],List.getElem?_eq_getElem hi⟩;obtain ⟨x,hx,r1,r2,r3⟩:=Dd.qP rel i p hp;obtain ⟨f0,f1,f2,f3,f4,f5⟩:=hf it (by simp);have he:es[i]? = some (entryOfKey (tupleKind (zG X.prog X.w)) x):=by rw [entry_at h4,hx];rfl
  refine zal st h0 ho he fun h' st' sb=>?_;have I1:Inv X pins O H {s with heap:=h'}:=I.turned (t':=s.toks) (fun b o hb e=>(sb.2 b hb).trans e) f0 f1 f3 f4 f5;obtain ⟨o2,e,c,d⟩:=id st';exact ⟨_,rfl,zas (s:={s with heap:=h'}) e c d (by decide) ⟨.ref x.2.1,H,I1,rfl,⟨rfl,p,x.2.1,hp,rfl,r2⟩,st',fun b hb=>(hf b hb).1⟩⟩
 done:=by
  intro X hP hw hK hc i pins s O H E I hf st hg;subst hP hw hK;obtain ⟨ha,hi⟩:=hg;obtain ⟨h0,z,lo,xs,rel,o',es',ep',h1,h2,h3,h4,h5⟩:=(show xx X.prog X.w H s.heap a (.frz o (.dT kvs)) from I.hok a _ ha);rw [h0] at h1;cases h1;rw [ho] at h3;cases h3;have hl:xs.length=kvs.length:=(Paired.length rel).symm;have hsz:es.size=xs.length:=size_of_entries h4;obtain ⟨f0,f1,f2,f3,f4,f5⟩:=hf it (by simp);exact zcE (I.ok.hd hc) st h0 ho (by simp;omega) fun h' eb=>⟨rfl,I.turned (t':=s.toks) (fun b o hb e=>eb b o hb e) f0 f1 f3 f4 f5⟩
 self:=fun _ _ _ _ _ st hQ=>wpAny_pyIter_keyiter st hQ
theorem zfA{X:Cx}{tg l:Expr}{tl:TE}(hl:PE X l tl):PI X tg l (fun O H R=>tl O H fun x H1=>∃ a kvs,x=.ref a/\((H1 a=some (.dT kvs)/\∀ o,R (Itd a o kvs) (upd H1 a (.frz o (.dT kvs))))\/∃ o,H1 a=some (.frz o (.dT kvs))/\R (Itd a o kvs) H1)):=by
 intro pins s O H R I h;refine thn (hl pins s O H _ I h) fun v s1 ⟨x,H1,I1,r1,q1⟩=>?_;obtain ⟨a,kvs,e,q⟩:=q1;subst e;cases r1;have fin:∀ (o:Obj)(H2:Hp),Inv X pins O H2 s1->H2 a=some (.frz o (.dT kvs))->R (Itd a o kvs) H2->wpAny (model X.prog X.w) X.A (pyIter (.ref a)) (PIE X pins O tg R) X.xe s1:=fun o H2 I2 ha q=>by
  obtain ⟨h0,z,lo,xs,rel,o',es,ep,h1,h2,h3,h4,h5⟩:=(show xx X.prog X.w H2 s1.heap a (.frz o (.dT kvs)) from I2.hok a _ ha);rw [h0] at h1;cases h1;refine zbl lo ⟨o,h0,h2,h3⟩ ?_;refine ⟨s1.heap.objs.size,[s1.heap.objs.size],_,_,H2,rfl,I2.kept (t':=s1.toks) fun b o e=>Heap.get?_push_of_some _ e,zaE a _ h3 kvs,⟨_,Heap.get?_push_size _ rfl,rfl,rfl⟩,fun b hb=>?_,q⟩;have e:b=s1.heap.objs.size:=by simpa using hb
  subst e;exact I2.fpOk (Nat.le_refl _) (I2.hok.fresh (Nat.le_refl _))
 rcases q with ⟨ha,q⟩ | ⟨o,ha,q⟩
 ·obtain ⟨_,_,xs,_,o,es,ep,h1,_⟩:=(show xx X.prog X.w H1 s1.heap a (.dT kvs) from I1.hok a _ ha);exact fin o _ (I1.freeze ha h1 (by intro _ z;cases z) (by intro _ _ z;cases z) (by intro _ z;cases z) (by intro _ z;cases z)) zK (q o)
 ·exact fin o H1 I1 ha q
end L2
namespace Dd
open PySem.Spec L2
section
variable {X:Cx}{E:XK}{e tg:Expr}
def z7Y(f:FE):FI:=fun Z s=>(f Z s).bind fun d s1=>match d with
 | .dlo l=>match (s1[l]?).bind zcS with
  | some kvs=>.ok (z2D kvs,[]) (s1.set l (.non::encD kvs)) | none=>.no
 | _=>.no
theorem zcV{mg:Gm}{H:Hp}{Y:List Addr}{p:List Key×V}{b:Addr}(h:H b=some (.tup (p.1.map kV))):Den mg H Y (.tup (p.1.map z55)) (.ref b):=by
 simp only [Den];exact ⟨b,_,rfl,h,z3y _⟩
theorem zhe {f:FE} (h:RE X E e f):RI X E tg e (z7Y f):=z26 (zfA h) fun O H Q ⟨Y,Z,s,r,en,h⟩=>by
 unfold z7Y at h;refine ⟨Y,Z,s,r,en,(okR.bind (Dn:=Den (gm X)) h).imp fun v H1 ⟨Y1,s1,d,stp,dn,h1⟩=>?_⟩;split at h1
 ·rename_i l;split at h1
  ·rename_i kvs ek;obtain ⟨xs,ex,edc⟩:=Option.bind_eq_some_iff.mp ek;simp only [Den] at dn;obtain ⟨a,rfl,e1,ka⟩:=dn;obtain ⟨al,q⟩:=stp.rep.dicF ex e1 ka edc;have fl:D.flat.flats (D.non::encD kvs)=true:=z2O kvs;have ok:∀ (o:Obj) (H2:Hp) (Y2:List Addr),H2 a=some (.frz o (.dT kvs))->zaf (gm X) H2 Y2 (z2D kvs,[]) (Itd a o kvs):=fun o H2 Y2 ha H3 Y3 s3 stp3 _ i=>by
    have ha3:=stp3.stay ha (by intro _ z;cases z);refine ⟨fun d hd=>?_,fun hl=>⟨ha3,by simpa [z2D] using hl⟩⟩;have hi:i<kvs.length:=by have:=(List.getElem?_eq_some_iff.mp hd).1;simpa [z2D] using this
    refine ⟨⟨ha3,hi⟩,fun x H' ⟨e3,p,b,hp,ex,hb⟩=>?_⟩;subst e3 ex;have:d=.tup (p.1.map z55):=by
     have hd:(z2D kvs)[i]? = some d:=hd;rw [z2D,List.getElem?_map,hp] at hd;exact (Option.some.inj hd).symm
    subst this;exact ⟨Y3,.refl stp3.rep,zcV hb⟩
   refine ⟨a,kvs,rfl,?_⟩;rcases q with ⟨ha,hx⟩ | ⟨o,ha,hx⟩
   ·refine .inl ⟨ha,fun o=>?_⟩;have stp2:=xS.putC (l:=l) (o:=.frz o (.dT kvs)) stp.rep e1 (.putC ⟨_,ha⟩ (.inr ⟨o,kvs,rfl⟩)) (.inr (.inr ⟨o,kvs,encD kvs,zK,rfl,z2V al⟩)) fl;exact h1 _ _ _ stp2 (ok o _ _ zK)
   ·refine .inr ⟨o,ha,?_⟩;have e2:s1.set l (.non::encD kvs)=s1:=by
     rw [<- hx];exact List.ext_getElem? fun j=>by
      by_cases z:l=j;·subst z;rw [List.getElem?_set_self (List.getElem?_eq_some_iff.mp ex).1,ex]
      ·rw [List.getElem?_set_ne z]
    rw [e2] at h1;exact h1 _ _ _ (.refl stp.rep) (ok o _ _ ha)
  ·exact h1.elim
 ·exact h1.elim
end
@[simp] theorem zd5 (f:FE)(Z:Ev)(s:Sto):z7Y f Z s=(f Z s).bind fun d s1=>match d with
 | .dlo l=>match (s1[l]?).bind zcS with
  | some kvs=>.ok (z2D kvs,[]) (s1.set l (.non::encD kvs)) | none=>.no
 | _=>.no:=id rfl
section
variable {X:Cx}{E:XK}{a:Expr}
def zhU(f:FE):FT:=fun Z s=>(f Z s).bind fun d s1=>match listOf s1 d with | some xs=>.ok (!xs.isEmpty) s1 | none=>.no
theorem z7x{mg:Gm}{H:Hp}{Y:List Addr}{ds:List D}{vs:List V}(h:zr mg H Y ds vs):vs.isEmpty=ds.isEmpty:=by
 have:=h.length;cases ds<;>cases vs<;>simp at this ⊢
theorem zi4{f:FE}(h:RE X E a f)(he:∀ whole,isTrue a X.env whole=(do let v <- whole;standAt a.pos;holding [v] (truthy v)):=by intro _;rfl):RT X E a (zhU f):= z57 (zaL h he) fun O H Q ⟨Y,Z,s,r,en,h⟩=>by
  refine zO (k:=fun Z d s1=>match listOf s1 d with | some xs=>.ok (!xs.isEmpty) s1 | none=>.no) r en h _ fun v H1 Y1 s1 d r1 en1 dn stp h1=>?_;split at h1
  ·rename_i xs e;obtain ⟨p,vs,rfl,q1,q2⟩:=zM r1 e dn;exact ⟨!xs.isEmpty,.inl ⟨vs,.inl q1,by rw [z7x q2]⟩,h1.here (b:=!xs.isEmpty) r1 rfl⟩
  ·exact h1.elim
end
@[simp] theorem zgc (f:FE)(Z:Ev)(s:Sto):zhU f Z s=(f Z s).bind fun d s1=>match listOf s1 d with | some xs=>.ok (!xs.isEmpty) s1 | none=>.no:=id rfl
abbrev NP:=Int×List Int
def qZ(p q:NP):Bool:=if p.1=q.1 then lexN p.2 q.2 else decide (p.1<q.1)
section
variable {prog:Program}{w:World}{A:Around}{E:Value->Shared->Prop}{s:Shared}
theorem z7o{a b c d:Addr}{i j:Int}{t t':Tok}{us vs:Array Value}{ns ms:List Int}{P:PySem.Fin->Shared->Prop}(hu:A.units+1<cLine)(ha:s.heap.IsTuple a #[.int i t,.ref c])(hb:s.heap.IsTuple b #[.int j t',.ref d]) (hc:s.heap.IsTuple c us)(hd:s.heap.IsTuple d vs)(hx:xR us.toList ns)(hy:xR vs.toList ms)(he:SeqAt.EqAt A s (.ref c) (.ref d) (decide (ns=ms))) (h:P (.done (.ret (.bool (qZ (i,ns) (j,ms))))) s):wpAny (model prog w) A (Builtin.«tuple.__lt__» ⟨[.ref a,.ref b],[]⟩) P E s:=by
 obtain ⟨oa,ga,ca,na,da⟩:=ha;obtain ⟨ob,gb,cb,nb,db⟩:=hb;have tb:s.TypeIs (.ref b) "tuple":=⟨ob,gb,cb⟩;show wpAny _ _ (isInstance (.ref b) (.type "tuple") >>= _) _ _ s;refine wpAny_bind (wpAny_isInstance tb isSubtype_tuple_tuple ?_);simp only [Bool.not_true,Bool.false_eq_true,if_false];refine wpAny_bind (wpAny_tupleItemsOf ga da (wpAny_bind (wpAny_tupleItemsOf gb db (wpAny_bind ?_))));refine wpAny_forIn_list _ (fun jA r s'=>r.1=none/\s'=s/\(jA=[(Value.int i t,Value.int j t'),(.ref c,.ref d)]\/(jA=[(.ref c,.ref d)]/\i=j)\/(jA=[]/\i=j/\ns=ms))) _ ?_ ?_ _ _ ⟨rfl,rfl,.inl rfl⟩
 ·rintro ⟨u,v⟩ jA r s' ⟨hr,rfl,hz⟩;rcases hz with hz | ⟨hz,e⟩ | ⟨hz,_⟩
  ·simp only [List.cons.injEq,Prod.mk.injEq] at hz;obtain ⟨⟨rfl,rfl⟩,rfl⟩:=hz;refine wpAny_bind (wpAny_eqBool_int ?_);by_cases e:i=j
   ·subst e;simp only [beq_self_eq_true,Bool.not_true,Bool.false_eq_true,if_false];exact wpAny_pure ⟨rfl,rfl,.inr (.inl ⟨trivial,trivial⟩)⟩
   ·rw [show (i==j)=false by simpa using e];simp only [Bool.not_false,if_true];have hf:qZ (i,ns) (j,ms)=decide (i<j):=by simp [qZ,e]
    rw [hf] at h;refine wpAny_bind (wpAny_rule (wpAny_bind (show wpAny _ _ (compareOp .Lt (.int i t) (.int j t')) _ _ _ from PyProof.Rows.lt_int ?_)));exact wpAny_bind (wpAny_pure (wpAny_pure (wpAny_pure h)))
  ·simp only [List.cons.injEq,Prod.mk.injEq] at hz;obtain ⟨⟨rfl,rfl⟩,rfl⟩:=hz;refine wpAny_bind (he _ _ _ _ ?_);by_cases e2:ns=ms
   ·rw [decide_eq_true e2];simp only [Bool.not_true,Bool.false_eq_true,if_false];exact wpAny_pure ⟨rfl,rfl,.inr (.inr ⟨trivial,e,e2⟩)⟩
   ·rw [decide_eq_false e2];simp only [Bool.not_false,if_true];have hf:qZ (i,ns) (j,ms)=lexN ns ms:=by simp [qZ,e]
    rw [hf] at h;refine wpAny_bind (wpAny_rule (wpAny_bind (show wpAny _ _ (compareOp .Lt (.ref c) (.ref d)) _ _ _ from zcu (by omega) hc hd hx hy ?_)));exact wpAny_bind (wpAny_pure (wpAny_pure (wpAny_pure h)))
  ·cases hz
 ·rintro ⟨r1,r2⟩ s' ⟨hr,rfl,hz⟩;simp only at hr;subst hr;refine wpAny_pure ?_;rcases hz with hz | ⟨hz,_⟩ | ⟨_,e1,e2⟩;·cases hz
  ·cases hz
  ·have irr:∀ a:List Int,lexN a a=false:=fun a=>by induction a with
    | nil=>rfl | cons x a ih=>simp [lexN,ih]
   have hf:qZ (i,ns) (j,ms)=false:=by simp [qZ,e1,e2,irr]
   rw [hf] at h;exact h
theorem zhC{a b c d:Addr}{i j:Int}{t t':Tok}{us vs:Array Value}{ns ms:List Int}{Q:Value->Shared->Prop}(hu:A.units+2<cLine)(ha:s.heap.IsTuple a #[.int i t,.ref c])(hb:s.heap.IsTuple b #[.int j t',.ref d]) (hc:s.heap.IsTuple c us)(hd:s.heap.IsTuple d vs)(hx:xR us.toList ns)(hy:xR vs.toList ms)(he:SeqAt.EqAt A.in1 s (.ref c) (.ref d) (decide (ns=ms))) (h:Q (.bool (qZ (i,ns) (j,ms))) s):wpAny (model prog w) A (richCompare .Lt (.ref a) (.ref b)) Q E s:=by
 have ta:s.TypeIs (.ref a) "tuple":=by obtain ⟨o,g,c,_⟩:=ha;exact ⟨o,g,c⟩
 have tb:s.TypeIs (.ref b) "tuple":=by obtain ⟨o,g,c,_⟩:=hb;exact ⟨o,g,c⟩
 refine wpAny_richCompare_same_room ta tb PySem.F.slot_tuple_lt (wpAny_call_entry PySem.F.slot_tuple_lt ta PySem.F.entry_tuple_lt ?_ (PySem.F.args_tuple_lt_2 _ _)) (by omega);exact z7o (by have:A.in1.units=A.units+1:=rfl;omega) ha hb hc hd hx hy he ⟨_,rfl,by simp,h⟩
end
def z37:NP->List NP->NP
 | b,[]=>b | b,x::r=>z37 (if qZ x b then x else b) r
def zbw:D->Option NP
 | .tup [.int i,.tup ds]=>(zbE ds).map fun ns=>(i,ns) | _=>none
def z0V:List D->Option (List NP)
 | []=>some [] | d::ds=>match zbw d,z0V ds with | some p,some ps=>some (p::ps) | _,_=>none
def pairD(p:NP):D:=.tup [.int p.1,.tup (p.2.map D.int)]
theorem zdU(p:NP):zbw (pairD p)=some p:=by simp [zbw,pairD,z3f]
theorem z6C:∀ L:List NP,z0V (L.map pairD)=some L
 | []=>rfl | p::L=>by simp only [List.map_cons,z0V,zdU,z6C L]
def z8c:Mir:=fun ds s=>match ds with
 | [d]=>match (yd s d).bind z0V with
  | some (p::L)=>.ok (pairD (z37 p L)) s | _=>.no
 | _=>.no
theorem z6R{bt:Nat->Nat->Bool}{L:List NP}(hb:∀ i j,bt i j=qZ (L.getD i (0,[])) (L.getD j (0,[]))):∀ k,k<L.length->∀ n M,L=n::M->L.getD (argBest bt k) (0,[])=z37 n (M.take k)
 | 0,_,n,M,e=>by subst e;simp [argBest,z37] | k+1,hk,n,M,e=>by
  have ih:=z6R hb k (by omega) n M e;have hM:k<M.length:=by subst e;simpa using hk
  have gk:L.getD (k+1) (0,[])=M[k]:=by subst e;simp [List.getD,hM]
  have app:∀ (b:NP)(A:List NP)(x:NP),z37 b (A++[x])=if qZ x (z37 b A) then x else z37 b A:=by
   intro b A;induction A generalizing b with
   | nil=>intro x;rfl | cons y A ih=>intro x;exact ih _ x
  rw [List.take_add_one,List.getElem?_eq_getElem hM,Option.toList_some,app,<- ih];simp only [argBest,hb (k+1) (argBest bt k),gk];split;·exact gk
  ·rfl
def AtP(H:Hp)(v:V)(p:NP):Prop:=∃ b c,v=.ref b/\H b=some (.tup [.int p.1,.ref c])/\H c=some (.tup (p.2.map V.int))
section
variable {X:Cx}{E:XK}
def zhM(K:W.Frag):List V->Hp->VK->Prop:=fun xs H Q=>∃ b p ys n L,xs=[.ref p]/\Sq b K H p ys/\Paired (fun v ns=>AtP H v ns) ys (n::L)/\∀ v,AtP H v (z37 n L)->Q v H
theorem AtP.tuple{pins:List (Addr×Obj)}{O:L2.St}{H:Hp}{s:Shared}(I:Inv X pins O H s){v:V}{u:Value}{p:NP}(a:AtP H v p)(r:yB v u):∃ b c t its,u=.ref b/\AtN H (.ref c) p.2/\s.heap.IsTuple b #[.int p.1 t,.ref c]/\s.heap.IsTuple c its/\xR its.toList p.2:=by
 obtain ⟨b,c,rfl,e,e2⟩:=a;cases (show u=Value.ref b from r);obtain ⟨its,r,pl,hz⟩:=I.tuple (.inl (.inl e));obtain ⟨its2,r2,pl2,hz2⟩:=I.tuple (.inl (.inl e2));cases r with | cons h1 r=>
  obtain ⟨t,rfl⟩:=h1;cases r with | cons h2 r=>
   cases r;cases (show _=Value.ref c from h2);exact ⟨b,c,t,its2.toArray,rfl,⟨c,rfl,e2⟩,pl,pl2,xR.of_vals (by simpa using r2)⟩
theorem za2 (hc:X.calm=true) (hu:X.A.units+64<cLine):wM X (.builtin "min") (zhM X.K):=by
 intro pins s O H xs us Q I r h;obtain ⟨b,p,ys,n,L,rfl,hq,hp,q⟩:=h;obtain ⟨u,rfl,ru⟩:=vals1 r;cases ru;obtain ⟨its,rv,co⟩:=I.sq hq;have hl:its.length=(n::L).length:=by rw [<- kj hp,rv.length]
 have at_:∀ i v,its.toArray[i]? = some v->∃ y,ys[i]? = some y/\yB y v/\AtP H y ((n::L).getD i (0,[])):=fun i v e=>by
  have e':its[i]? = some v:=by simpa using e
  have hi:i<ys.length:=by have:=(List.getElem?_eq_some_iff.mp e').1;have:=rv.length;omega
  obtain ⟨w,hw,rw_⟩:=rv.get (i:=i) (x:=ys[i]) (List.getElem?_eq_getElem hi);rw [e'] at hw;cases hw;obtain ⟨ns,e1,e2⟩:=qP hp i _ (List.getElem?_eq_getElem hi);exact ⟨ys[i],List.getElem?_eq_getElem hi,rw_,by rw [List.getD,e1];exact e2⟩
 refine z2x (Zz.z1o (I.ok.hd hc) co fun s2 e2 St W st bd old=>?_);subst e2;refine ⟨_,_,_,_,_,_,fun i j=>qZ ((n::L).getD i (0,[])) ((n::L).getD j (0,[])),fun h=>∀ c o,s.heap.get? c=some o->h.get? c=some o,rfl,W,st,bd,by simp [hl],fun c o e=>Heap.get?_push_of_some _ e,fun i j vi vj s3 Q3 E3 kh pi pj q3=>?_,fun h h' kh k c o e=>?_,fun v h' tk e hk=>?_⟩
 ·obtain ⟨yi,_,ri,ai⟩:=at_ i vi pi;obtain ⟨yj,_,rj,aj⟩:=at_ j vj pj;obtain ⟨b1,c1,k1,t1,rfl,n1,x1,y1,z1⟩:=ai.tuple I ri;obtain ⟨b2,c2,k2,t2,rfl,n2,x2,y2,z2⟩:=aj.tuple I rj;have up:∀ {c:Addr} {its:Array Value},s.heap.IsTuple c its->s3.heap.IsTuple c its:=fun ⟨o,g,w⟩=>⟨o,kh _ _ g,w⟩;have u1:X.A.in1.units=X.A.units+1:=rfl;have u2:X.A.in1.in1.units=X.A.units+2:=rfl;have eqa:SeqAt.EqAt X.A.in1.in1 s3 (.ref c1) (.ref c2) (decide (((n::L).getD i (0,[])).2=((n::L).getD j (0,[])).2)):=by
   have I3:HOk X.prog X.w H s3.heap:=fun a o ha=>(I.hok a o ha).stay (fun _ _ _ q=>kh _ _ q) (fun _ q=>q) fun _ _ q=>q;exact AtN.eqAt (gm X) I3 (by omega) n1 rfl n2 rfl
  exact zhC (by omega) (up x1) (up x2) (up y1) (up y2) z1 z2 eqa q3
 ·refine k c o (fun z=>?_) (by rw [Heap.size_push];exact Nat.lt_succ_of_lt (Heap.lt_size e)) (kh c o e);have:c=s.heap.objs.size:=by simpa using z
  exact absurd (this ▸ Heap.lt_size e) (Nat.lt_irrefl _)
 ·obtain ⟨y,_,ry,ay⟩:=at_ _ v e;have em:=z6R (bt:=fun i j=>qZ ((n::L).getD i (0,[])) ((n::L).getD j (0,[]))) (L:=n::L) (fun i j=>rfl) (its.toArray.size-1) (by simp [hl]) n L rfl;have tk':L.take (its.toArray.size-1)=L:=by simp [hl]
  rw [tk'] at em;rw [em] at ay;exact ⟨y,H,I.kept (t':=tk) (old h' hk),ry,q y ay⟩
theorem z2b{mg:Gm}{H:Hp}{Y:List Addr}:∀ {ds:List D}{vs:List V}{L:List NP},z0V ds=some L->zr mg H Y ds vs->Paired (fun v p=>AtP H v p) vs L
 | [],_,_,h,dn=>by simp only [z0V,Option.some.injEq] at h;simp only [zr] at dn;subst dn;subst h;exact .nil | d::ds,_,_,h,dn=>by
  simp only [zr] at dn;obtain ⟨v,vs,rfl,h1,h2⟩:=dn;simp only [z0V] at h;split at h
  ·rename_i p ps e1 e2;cases h;refine .cons ?_ (z2b e2 h2);unfold zbw at e1;split at e1
   ·rename_i i es;obtain ⟨ns,en,rfl⟩:=Option.map_eq_some_iff.mp e1;simp only [Den] at h1;obtain ⟨b,ws,rfl,hb,hd⟩:=h1;simp only [zr] at hd;obtain ⟨v1,r1,rfl,d1,v2,r2,rfl,d2,rfl⟩:=hd;cases zT d1;obtain ⟨c,rfl,hc⟩:=z7a (show zeb (.tup es)=some ns from en) d2;exact ⟨b,c,rfl,hb,hc⟩
   ·cases e1
  ·cases h
theorem zfX(hc:X.calm=true)(hu:X.A.units+64<cLine):∃ r,wM X (.builtin "min") r/\z0g X E r z8c:=⟨_,za2 hc hu,fun H Y s ds vs Q r hd h=>by
 unfold z8c at h;split at h
 ·rename_i d;split at h
  ·rename_i n L e;obtain ⟨xs,e1,e2⟩:=Option.bind_eq_some_iff.mp e;obtain ⟨v,rfl,dn⟩:=z0a hd;obtain ⟨a,ws,rfl,q1,q2⟩:=vE (K:=X.K) r e1 dn;obtain ⟨b,q⟩:=z4v q1;refine ⟨b,a,ws,n,L,rfl,q,z2b e2 q2,fun v av=>h.here r ?_⟩;obtain ⟨b,c,rfl,eb,ec⟩:=av;have dc:Den (gm X) H Y (.tup ((z37 n L).2.map D.int)) (.ref c):=by
    simp only [Den];refine ⟨c,_,rfl,ec,?_⟩;generalize (z37 n L).2=ns;induction ns with
    | nil=>exact zr.nil | cons i r ih=>exact zr.cons yf ih
   unfold pairD;simp only [Den];exact ⟨b,_,rfl,eb,zr.cons yf (zr.cons dc zr.nil)⟩
  ·exact h.elim
 ·exact h.elim⟩
end
end Dd
namespace Pg
open PySem.Spec L2 Dd
def uM:List (Str×Str):=[("next","by_next"),("least","by_least"),("all","by_all"),("turn","by_turn")]
@[simp] def z4Y:FS:=(xV (z5l (eIs "int" (zc 0)) (zgq (eIs "bool" (zc 0)))))
def jp:FS:=z4Y
def yt:Mir:=Mof ["thing"] 1 jp
@[simp] def z5c:FS:=(xV (z5l (eIs "tuple" (zc 0)) (z1p dLe dLe (eC (.int 2)) (ze wX (zb (zc 0) zi)) (eC (.int 4)))))
def z0R:FS:=z5c
def vf:Mir:=Mof ["thing"] 1 z0R
@[simp] def yY:FS:=(xl 3 (z4o (zb (ur zi) zi)))
@[simp] def yZ:FS:=(xl 3 (z2A (zW (zc 3)) [some 1,some 2,none,none] 2 3 (z5D (zb (zc 0) (zb (eOp qQ (zc 1) (eC (.int 1))) zi))) (eOp qQ (zc 2) (ur (zb (zc 3) zi)))))
@[simp] def yW:FS:=(z5k (z07 (zb (zc 0) zi)) (xw 4) yZ)
@[simp] def jO:FS:=(xV (zc 3))
def ua:FS:=(zC yY (zC yW jO))
def zY:Mir:=Mof ["size","least","most","found","place"] 3 ua
@[simp] def z1z:FS:=(xV (eC (.bl false)))
@[simp] def z1H:FS:=(fIf (fOr (z3S (tOf (eIs "tuple" (zc 0)))) (tOf (eOp dNe (ze wX (zb (zc 0) zi)) (zc 1)))) z1z yD)
@[simp] def z1V:FS:=(xV (ze z8X (zb (zA (zW (zc 0)) [none] (xw 0) wU (ze yt (zb (zc 0) zi))) zi)))
def jJ:FS:=(zC z1H z1V)
def xQ:Mir:=Mof ["thing","many"] 2 jJ
@[simp] def z0Z:FS:=fNo
@[simp] def qo:FS:=(fIf (fOr (z3S (tOf (ze yt (zb (zc 0) zi)))) (z3S (tOf (z1p dLe dLe (zc 1) (zc 0) (zc 2))))) z0Z yD)
def jf:FS:=qo
def xo:Mir:=Mof ["thing","least","most"] 3 jf
@[simp] def z30:FS:=fNo
@[simp] def z3M:FS:=(fIf (fOr (z3S (tOf (ze yt (zb (zc 0) zi)))) (z3S (tOf (z1p dLe dLe (eC (.int 2)) (zc 0) (zc 1))))) z30 yD)
def z00:FS:=z3M
def wy:Mir:=Mof ["thing","most"] 2 z00
@[simp] def z84:FS:=(xV (eC (.bl false)))
@[simp] def z82:FS:=(fIf (fOr (z3S (tOf (ze vf (zb (zc 0) zi)))) (z3S (tOf (ze xQ (zb (zc 0) (zb (ze wX (zb (zc 0) zi)) zi)))))) z84 yD)
@[simp] def z7z:FS:=(xV (z5l (eOp dGe (ze jn (zb (zc 0) zi)) (eC (.int 0))) (eOp dGt (ze wa (zb (zc 0) zi)) (eC (.int 0)))))
def z49:FS:=(zC z82 z7z)
def uz:Mir:=Mof ["thing"] 1 z49
@[simp] def z3Y:FS:=fNo
@[simp] def z4H:FS:=(fIf (z3S (tOf (ze uz (zb (zc 0) zi)))) z3Y yD)
def z13:FS:=z4H
def yS:Mir:=Mof ["thing"] 1 z13
@[simp] def z3w:FS:=(qT (ze yS (zb (zc 0) zi)))
@[simp] def jR:FS:=(xV (eOp dEq (ze wX (zb (zA (zW (zc 0)) [none] (xw 0) (tOf (eOp dNe (zc 0) (eC (.int 0)))) (zc 0)) zi)) (eC (.int 1))))
def kM:FS:=(zC z3w jR)
def yw:Mir:=Mof ["lot"] 1 kM
@[simp] def wb:FS:=(xl 1 (z7X (zc 0) (ze wa (zb (zc 0) zi))))
@[simp] def we:FS:=(xV (ur (zb (zc 1) (zb (eOp qQ (eOp qQ (eSl (zc 0) zP (wC (zc 1))) (ur (zb (eC (.int 0)) zi))) (eSl (zc 0) (wC (eOp qQ (zc 1) (eC (.int 1)))) zP)) zi))))
def wu:FS:=(zC wb we)
def zq:Mir:=Mof ["lot","at"] 1 wu
@[simp] def qw:FS:=(xV (z7X (zc 0) (ze jn (zb (zA (zW (zc 0)) [none] (xw 0) (tOf (eOp dNe (zc 0) (eC (.int 0)))) (zc 0)) zi))))
def qU:FS:=qw
def zS:Mir:=Mof ["lot"] 1 qU
@[simp] def z0Q:FS:=(xV (zA (z07 (zb (ze wX (zb (zc 0) zi)) zi)) [some 1,none] (xw 1) (tOf (eOp dNe (zc 1) (zc 0))) (zc 1)))
def z27:FS:=z0Q
def xE:Mir:=Mof ["lot","place"] 2 z27
@[simp] def z61:FS:=(xV (z5l (eIs "str" (zc 0)) (z73 uM false (zc 0))))
def z29:FS:=z61
def ql:Mir:=Mof ["thing"] 1 z29
@[simp] def z4r:FS:=(xV (eIf (tOf (eOp dEq (zc 0) (eC (.str "turn")))) (eOp qQ (eSl (zc 1) (wC (eC (.int 1))) zP) (eSl (zc 1) zP (wC (eC (.int 1))))) (zc 1)))
def z7g:FS:=z4r
def jk:Mir:=Mof ["rule","numbers"] 2 z7g
@[simp] def z6b:FS:=(zcv (ze zq (zb (zc 0) zi)) (xO 1 2))
@[simp] def z19:FS:=(xV (ur (zb (z7X (zc 2) (ze wa (zb (zc 2) zi))) (zb (z4o (zb (zc 1) zi)) zi))))
def z2c:FS:=(zC z6b z19)
def wK:Mir:=Mof ["lot","greatest","others"] 1 z2c
@[simp] def z45:FS:=(zcv (ze zq (zb (zc 0) zi)) (xO 1 2))
@[simp] def z4E:FS:=(xV (ur (zb (ze zS (zb (zc 2) zi)) (zb (z4o (zb (zc 1) zi)) zi))))
def z12:FS:=(zC z45 z4E)
def xU:Mir:=Mof ["lot","greatest","others"] 1 z12
@[simp] def z7K:FS:=(xl 1 (ze zS (zb (zc 0) zi)))
@[simp] def z7G:FS:=(xV (ur (zb (zc 1) (zb (ze xE (zb (zc 0) (zb (zc 1) zi))) zi))))
def z4X:FS:=(zC z7K z7G)
def vC:Mir:=Mof ["lot","by"] 1 z4X
@[simp] def z5J:FS:=(xV (ur (zb (eC (.int 0)) (zb (z4o zi) zi))))
@[simp] def z5G:FS:=(fIf (tOf (eOp dEq (eOp dIx (zc 0) (eC (.int 0))) (eC (.int 0)))) z5J yD)
@[simp] def z6g:FS:=(xV (ur (zb (eC (.int 0)) (zb (ze xE (zb (zc 0) (zb (eC (.int 0)) zi))) zi))))
def z2o:FS:=(zC z5G z6g)
def wL:Mir:=Mof ["lot"] 1 z2o
@[simp] def z3g:FS:=fNo
@[simp] def z3j:FS:=(fIf (z3S (tOf (ze ql (zb (zc 0) zi)))) z3g yD)
def kZ:FS:=z3j
def yG:Mir:=Mof ["thing"] 1 kZ
@[simp] def z4U:FS:=(xl 2 (zgE uM (zc 0)))
@[simp] def kW:FS:=(zcv (z6M 2 [("by_next",wK),("by_least",xU),("by_all",vC),("by_turn",wL)] (zb (zc 1) zi)) (xO 3 4))
@[simp] def z02:FS:=(xV (ur (zb (zc 3) (zb (zA (z07 (zb (ze wX (zb (zc 1) zi)) zi)) [some 4,some 1,some 3,none] (xw 3) wU (eIf (tOf (eOp (z5o false) (zc 3) (zc 0))) (eOp z0c (eOp dIx (zc 1) (zc 3)) (eOp dIx (zc 1) (zc 2))) (eC (.int 0)))) zi))))
def z1q:FS:=(zC z4U (zC kW z02))
def wD:Mir:=Mof ["rule","lot","deal","by","divided"] 2 z1q
@[simp] def qi:FS:=(qT (ze yG (zb (zc 0) zi)))
@[simp] def qp:FS:=(qT (ze yS (zb (zc 1) zi)))
def wW:FS:=(zC qi qp)
def zI:Mir:=Mof ["rule","lot"] 2 wW
@[simp] def z3F:FS:=(qT (ze zI (zb (zc 0) (zb (zc 1) zi))))
@[simp] def z2W:FS:=fNo
@[simp] def z3t:FS:=(fIf (tOf (ze yw (zb (zc 1) zi))) z2W yD)
def z03:FS:=(zC z3F z3t)
def xP:Mir:=Mof ["rule","lot"] 2 z03
@[simp] def zan:FS:=(qT (ze xP (zb (zc 0) (zb (zc 1) zi))))
@[simp] def zap:FS:=(zcv (ze wD (zb (zc 0) (zb (zc 1) zi))) (xO 2 3))
@[simp] def z7i:FS:=(xl 4 (ze vp (zb (zA (zag (zb (zc 1) (zb (zc 3) zi))) [some 1,some 2,none,none] (xO 2 3) wU (eOp zcI (zc 2) (eOp ud (zc 3) (eOp dIx (zc 0) (zc 1))))) zi)))
@[simp] def z6U:FS:=(xV (ze jk (zb (zc 0) (zb (zc 4) zi))))
def z9o:FS:=(zC zan (zC zap (zC z7i z6U)))
def M_step:Mir:=Mof ["rule","lot","by","quotients","left"] 2 z9o
@[simp] def wO:FS:=(xl 3 zdc)
@[simp] def yI:FS:=(xl 5 (zae (zb (zc 4) zi)))
@[simp] def xH:FS:=(qT (zc5 (zc 5) (ze M_step (zb (zc 0) (zb (eOp dIx (zc 5) (zah (eC (.int 1)))) zi)))))
@[simp] def yN:FS:=(z53 (zaa (tOf (eOp (zaF true) (eOp dIx (zc 5) (zah (eC (.int 1)))) (zc 3))) (z3S (tOf (ze yw (zb (eOp dIx (zc 5) (zah (eC (.int 1)))) zi))))) xH)
@[simp] def yL:FS:=(xl 6 (z6D (zc 3) (eOp dIx (zc 5) (zah (eC (.int 1)))) (eC (.int 0))))
@[simp] def yP:FS:=(z6d (zc 3) (zc 7) (zc 6))
@[simp] def wT:FS:=(zet 6 (eC (.int 1)))
@[simp] def xJ:FS:=(z5k (zW (z9z (zc 5))) (xw 7) (zC yP wT))
@[simp] def xI:FS:=(z5k (zW (eSl (ze zY (zb (zc 1) (zb (eC (.int 0)) (zb (zc 2) zi)))) (wC (eC (.int 1))) zP)) (xw 4) (zC yI (zC yN (zC yL xJ))))
@[simp] def ki:FS:=(xV (zc 3))
def qF:FS:=(zC wO (zC xI ki))
def yx:Mir:=Mof ["rule","size","most","steps","lot","path","many","behind"] 3 qF
@[simp] def jg:FS:=(qT (ze yG (zb (zc 0) zi)))
@[simp] def qX:FS:=(qT (ze wy (zb (zc 1) (zb (eC (.int 3)) zi))))
@[simp] def qV:FS:=(qT (ze xo (zb (zc 2) (zb (eC (.int 0)) (zb (eC (.int 12)) zi)))))
@[simp] def jd:FS:=(xl 3 (ze yx (zb (zc 0) (zb (zc 1) (zb (eC (.int 16)) zi)))))
@[simp] def wF:FS:=(xl 4 (zA (z7Y (zc 3)) [some 2,some 3,none] (xw 2) (tOf (eOp dEq (z5g (zc 1) (zc 2)) (zc 0))) (ur (zb (ze wa (zb (zc 2) zi)) (zb (zc 2) zi)))))
@[simp] def vW:FS:=(xV (eIf (zhU (zc 4)) (eOp dIx (ze z8c (zb (zc 4) zi)) (eC (.int 1))) (eC .non)))
def jW:FS:=(zC jg (zC qX (zC qV (zC jd (zC wF vW)))))
def zE:Mir:=Mof ["rule","size","steps","many","found"] 3 jW
@[simp] def z05:FS:=(xV (eOp dIx (zc 0) (zc 1)))
@[simp] def z0d:FS:=(fIf (tOf (eOp dLt (zc 1) (ze wX (zb (zc 0) zi)))) z05 yD)
@[simp] def z08:FS:=(xV (eC (.int 0)))
def vn:FS:=(zC z0d z08)
def yR:Mir:=Mof ["_law_script","_law_k"] 2 vn
@[simp] def yM:FS:=(xl 2 (eLR (zb (ze wX (zb (zc 1) zi)) zi)))
@[simp] def xL:FS:=(xV (ur (zb (eC (.int 0)) (zb (zA (zW (eSl (zc 2) (wC (eC (.int 1))) zP)) [some 1,none] (xw 1) (tOf (eOp dGt (eOp dIx (zc 0) (eC (.int 0))) (eC (.int 0)))) (zc 1)) zi))))
@[simp] def ya:FS:=(fIf (tOf (eOp dEq (zc 0) (eC (.str "turn")))) xL yD)
@[simp] def yO:FS:=(xl 3 (z7X (zc 1) (ze jn (zb (zA (zW (zc 1)) [none] (xw 0) (tOf (eOp dGt (zc 0) (eC (.int 0)))) (zc 0)) zi))))
@[simp] def xK:FS:=(xV (ur (zb (zc 3) (zb (zA (zW (zc 2)) [some 3,none] (xw 1) (tOf (eOp dNe (zc 1) (zc 0))) (zc 1)) zi))))
@[simp] def zZ:FS:=(fIf (tOf (eOp dEq (zc 0) (eC (.str "all")))) (zC yO xK) yD)
@[simp] def yK:FS:=(xl 4 (z7X (zc 1) (ze wa (zb (zc 1) zi))))
@[simp] def yQ:FS:=(xl 5 (zA (zW (zc 2)) [some 1,some 4,none] (xw 2) (zaa (tOf (eOp dNe (zc 2) (zc 1))) (tOf (eOp dGt (eOp dIx (zc 0) (zc 2)) (eC (.int 0))))) (ur (zb (eOp dIx (zc 0) (zc 2)) (zb (zc 2) zi)))))
@[simp] def xp:FS:=(xV (ur (zb (eOp dIx (ze z83 (zb (zc 5) zi)) (eC (.int 1))) (zb (z4o (zb (zc 4) zi)) zi))))
@[simp] def zX:FS:=(fIf (tOf (eOp dEq (zc 0) (eC (.str "least")))) xp yD)
@[simp] def yA:FS:=(xl 6 (ze wa (zb (zA (zW (zc 5)) [none,none] (xO 0 1) wU (zc 0)) zi)))
@[simp] def xn:FS:=(xV (ur (zb (ze jn (zb (zA (zW (zc 5)) [some 6,none,none] (xO 1 2) (tOf (eOp dEq (zc 1) (zc 0))) (zc 2)) zi)) (zb (z4o (zb (zc 4) zi)) zi))))
def wg:FS:=(zC yM (zC ya (zC zZ (zC yK (zC yQ (zC zX (zC yA xn)))))))
def zR:Mir:=Mof ["_law_rule","_law_lot_here","_law_places","_law_by","_law_top","_law_others","_law_greatest"] 2 wg
@[simp] def vU:FS:=(xV (eOp dEq (ze wX (zb (zA (zW (zc 0)) [none] (xw 0) (tOf (eOp dGt (zc 0) (eC (.int 0)))) (zc 0)) zi)) (eC (.int 1))))
def uN:FS:=vU
def xi:Mir:=Mof ["_law_lot_here"] 1 uN
@[simp] def uq:FS:=(xV (eOp dLt (ze wX (zb (zA (zW (zc 0)) [none] (xw 0) (tOf (eOp dGt (zc 0) (eC (.int 0)))) (zc 0)) zi)) (eC (.int 2))))
def qe:FS:=uq
def wm:Mir:=Mof ["_law_lot_here"] 1 qe
@[simp] def z4M:FS:=(xV (zae (zb (eOp zcI (zc 0) (eOp zek (eC (.int 10)) (eC (.int 18)))) zi)))
@[simp] def z4V:FS:=(fIf (tOf (eOp dGe (zc 0) (eOp zek (eC (.int 10)) (eC (.int 18))))) z4M yD)
@[simp] def z59:FS:=(xl 1 (eC (.int 0)))
@[simp] def kU:FS:=(xl 3 (eOp z6W (eOp ud (eOp qQ (eOp qQ (eOp z6W (zc 0) (eC (.int 2147483629))) (eOp ud (eC (.int 7919)) (zc 2))) (eC (.int 1))) (eC (.int 48271))) (eC (.int 2147483647))))
@[simp] def kP:FS:=(xl 3 (eOp z6W (eOp qQ (eOp qQ (eOp ud (zc 3) (zc 3)) (eOp ud (eC (.int 69621)) (zc 2))) (eC (.int 7))) (eC (.int 2147483587))))
@[simp] def kX:FS:=(xl 1 (eOp qQ (eOp ud (zc 1) (eC (.int 2147483587))) (zc 3)))
@[simp] def kT:FS:=(z5k (z07 (zb (eC (.int 64)) zi)) (xw 2) (zC kU (zC kP kX)))
@[simp] def z4R:FS:=(xV (zae (zb (zc 1) zi)))
def js:FS:=(zC z4V (zC z59 (zC kT z4R)))
def vg:Mir:=Mof ["_law_cell","_law_number","_law_j","_law_more"] 1 js
@[simp] def uf:FS:=(xV (z4o (zb (eC (.str "next")) (zb (eC (.str "least")) (zb (eC (.str "all")) (zb (eC (.str "turn")) zi))))))
def qd:FS:=uf
def xk:Mir:=Mof [] 0 qd
@[simp] def uC:FS:=(xl 2 (ze wX (zb (zc 1) zi)))
@[simp] def uK:FS:=(xl 3 (ze zcY (zb (zA (z2K (zb (zc 1) zi)) [none,none] (xO 0 1) (tOf (eOp dGt (zc 1) (eC (.int 0)))) (ur (zb (zc 1) (zb (zc 0) zi)))) zi)))
@[simp] def uH:FS:=(xl 4 (eOp dIx (zA (z07 (zb (zc 2) zi)) [some 1,none] (xw 1) (tOf (eOp dEq (eOp dIx (zc 0) (zc 1)) (ze wa (zb (zc 0) zi)))) (zc 1)) (eC (.int 0))))
@[simp] def ut:FS:=(xl 5 (zh4 "all" "turn" (eOp dIx (eOp dIx (zc 3) (eC (.int 0))) (eC (.int 1))) (eC (.int 0)) (zc 0)))
@[simp] def uR:FS:=(xl 5 (eOp dIx (zA (zW (zc 3)) [some 4,none,none] (xO 1 2) (tOf (eOp dNe (zc 2) (zc 0))) (zc 2)) (eC (.int 0))))
@[simp] def uJ:FS:=(fIf (tOf (eOp dEq (zc 0) (eC (.str "least")))) uR yD)
@[simp] def uA:FS:=(xl 6 (ze wa (zb (zA (zW (zc 3)) [some 4,none,none] (xO 1 2) (tOf (eOp dNe (zc 2) (zc 0))) (zc 1)) zi)))
@[simp] def uI:FS:=(xl 5 (eOp dIx (zA (z07 (zb (zc 2) zi)) [some 6,some 4,some 1,none] (xw 3) (zaa (tOf (eOp dEq (eOp dIx (zc 2) (zc 3)) (zc 0))) (tOf (eOp dNe (zc 3) (zc 1)))) (zc 3)) (eC (.int 0))))
@[simp] def uT:FS:=(fIf (tOf (eOp dEq (zc 0) (eC (.str "next")))) (zC uA uI) yD)
@[simp] def vJ:FS:=(xl 7 (zA (z07 (zb (zc 2) zi)) [some 5,none] (xw 1) (tOf (eOp dNe (zc 1) (zc 0))) (zc 1)))
@[simp] def vT:FS:=(xl 7 (z4o (zb (zc 4) zi)))
@[simp] def vZ:FS:=(fIf (tOf (eOp (z5o false) (zc 0) (ur (zb (eC (.str "next")) (zb (eC (.str "least")) zi))))) vT yD)
@[simp] def z1T:FS:=(xl 8 (eOp zh0 (zae (zb (eC (.int 0)) zi)) (zc 2)))
@[simp] def z1Q:FS:=(z3m (zc 8) (zc 9) (eOp z0c (eOp dIx (zc 1) (zc 9)) (eOp dIx (zc 1) (zc 5))))
@[simp] def z1w:FS:=(fIf (tOf (eOp dGt (eOp dIx (zc 1) (zc 5)) (eC (.int 0)))) z1Q yD)
@[simp] def z1Z:FS:=(z5k (zW (zc 7)) (xw 9) z1w)
@[simp] def z1y:FS:=(xl 10 (zA (z2K (zb (zc 1) zi)) [some 8,some 1,some 5,none,none] (xO 3 4) wU (eOp zcI (zc 4) (eOp ud (eOp dIx (zc 0) (zc 3)) (eOp dIx (zc 1) (zc 2))))))
@[simp] def z1U:FS:=(xl 11 (zae zi))
@[simp] def z1E:FS:=(xl 12 (kN (z07 (zb (zc 2) zi)) [some 9,none] (xw 1) wU (ze zbJ (zb (eOp dEq (zc 0) (zc 1)) zi))))
@[simp] def z20:FS:=(z3m (zc 12) (zc 5) (eOp qQ (eOp dIx (zc 12) (zc 5)) (eOp dIx (zc 8) (zc 9))))
@[simp] def z1R:FS:=(xl 12 (eOp qQ (eSl (zc 12) (wC (eC (.int 1))) zP) (eSl (zc 12) zP (wC (eC (.int 1))))))
@[simp] def z1M:FS:=(fIf (tOf (eOp dEq (zc 0) (eC (.str "turn")))) z1R yD)
@[simp] def z21:FS:=(qT (zc5 (zc 11) (ze vp (zb (zc 12) zi))))
@[simp] def z1J:FS:=(z5k (z07 (zb (zc 2) zi)) (xw 9) (zC z1E (zC z20 (zC z1M z21))))
@[simp] def z1G:FS:=(xl 10 (eOp qQ (eSl (zc 10) (wC (eC (.int 1))) zP) (eSl (zc 10) zP (wC (eC (.int 1))))))
@[simp] def z1v:FS:=(fIf (tOf (eOp dEq (zc 0) (eC (.str "turn")))) z1G yD)
@[simp] def z1Y:FS:=(xV (ur (zb (ze vp (zb (zc 10) zi)) (zb (ze vp (zb (zc 11) zi)) zi))))
def qB:FS:=(zC uC (zC uK (zC uH (zC ut (zC uJ (zC uT (zC vJ (zC vZ (zC z1T (zC z1Z (zC z1y (zC z1U (zC z1J (zC z1v z1Y))))))))))))))
def xf:Mir:=z6c (Mof ["_law_rule","_law_lot_here","_law_size","_law_order","_law_top","_law_by","_law_most","_law_some","_law_quotients","_law_place","_law_later","_law_lines","_law_line"] 2 qB)
@[simp] def wN:FS:=(zcv (ze zR (zb (zc 0) (zb (zc 1) zi))) (xO 2 3))
@[simp] def wP:FS:=(xl 4 (zA (z2K (zb (zc 1) zi)) [some 3,some 1,some 2,none,none] (xO 3 4) wU (eIf (tOf (eOp (z5o false) (zc 3) (zc 0))) (eOp z6W (zc 4) (eOp dIx (zc 1) (zc 2))) (zc 4))))
@[simp] def wR:FS:=(xl 5 (zae zi))
@[simp] def yr:FS:=(xl 7 (kN (z07 (zb (ze wX (zb (zc 1) zi)) zi)) [some 6,none] (xw 1) wU (ze zbJ (zb (eOp dEq (zc 0) (zc 1)) zi))))
@[simp] def uZ:FS:=(z3m (zc 7) (zc 2) (eOp z0c (eOp dIx (zc 1) (zc 6)) (eOp dIx (zc 1) (zc 2))))
@[simp] def yq:FS:=(fIf (tOf (eOp (z5o false) (zc 6) (zc 3))) uZ yD)
@[simp] def xM:FS:=(qT (zc5 (zc 5) (zc 7)))
@[simp] def wQ:FS:=(z5k (z07 (zb (ze wX (zb (zc 1) zi)) zi)) (xw 6) (zC (z4y 7 (zC yr yq)) xM))
@[simp] def wA:FS:=(xl 4 (eOp qQ (eSl (zc 4) (wC (eC (.int 1))) zP) (eSl (zc 4) zP (wC (eC (.int 1))))))
@[simp] def uj:FS:=(xl 5 (zA (zW (zc 5)) [none] (xw 0) wU (eOp qQ (eSl (zc 0) (wC (eC (.int 1))) zP) (eSl (zc 0) zP (wC (eC (.int 1)))))))
@[simp] def yp:FS:=(fIf (tOf (eOp dEq (zc 0) (eC (.str "turn")))) (zC wA uj) yD)
@[simp] def xr:FS:=(xV (ur (zb (ze vp (zb (zc 4) zi)) (zb (ze vp (zb (zA (zW (zc 5)) [none] (xw 0) wU (ze vp (zb (zc 0) zi))) zi)) zi))))
def qr:FS:=(zC wN (zC wP (zC wR (zC wQ (zC yp xr)))))
def yU:Mir:=z6c (Mof ["_law_rule","_law_lot_here","_law_by","_law_gone","_law_later","_law_lines","_law_place","_law_line"] 2 qr)
@[simp] def z3H:FS:=(xl 2 (eOp z6W (eOp dIx (zc 0) (eC (.int 0))) (zc 1)))
@[simp] def z2Q:FS:=(z3m (zc 0) (eC (.int 0)) (eOp z0c (eOp dIx (zc 0) (eC (.int 0))) (zc 1)))
@[simp] def z2S:FS:=(xV (zc 2))
def kY:FS:=(zC z3H (zC z2Q z2S))
def yu:Mir:=Mof ["_law_pot_here","_law_far","_law_found"] 2 kY
@[simp] def z1K:FS:=(xV (z5l (eIs "int" (zc 0)) (zgq (eIs "bool" (zc 0)))))
def jN:FS:=z1K
def qD:Mir:=Mof ["_law_thing"] 1 jN
@[simp] def kg:FS:=(xV (z5l (eIs "int" (zc 0)) (zgq (eIs "bool" (zc 0)))))
def uY:FS:=kg
def xh:Mir:=Mof ["_law_found"] 1 uY
@[simp] def z2Y (Mr:Mir):FS:=(xV (eC (.bl false)))
@[simp] def jY (Mr:Mir):FS:=(fIf (fOr (tOf (eOp dNe (eIs "list" (zc 1)) (eIs "list" (zc 0)))) (tOf (eOp dNe (eIs "tuple" (zc 1)) (eIs "tuple" (zc 0))))) (z2Y Mr) yD)
@[simp] def uD (Mr:Mir):FS:=(xV (z5l (eOp dEq (ze wX (zb (zc 0) zi)) (ze wX (zb (zc 1) zi))) (ze z8X (zb (zA (zag (zb (zc 0) (zb (zc 1) zi))) [none,none] (xO 0 1) wU (ze Mr (zb (zc 0) (zb (zc 1) zi)))) zi))))
@[simp] def ux (Mr:Mir):FS:=(fIf (tOf (zfk "list" "tuple" (zc 1))) (zC (jY Mr) (uD Mr)) yD)
@[simp] def z3A (Mr:Mir):FS:=(xV (z5l (eOp dEq (zc 0) (zc 1)) (eOp dEq (eIs "bool" (zc 0)) (eIs "bool" (zc 1)))))
@[simp] def z3x (Mr:Mir):FS:=(fIf (fOr (tOf (eOp dIs (zc 1) (eC .non))) (fOr (tOf (eIs "bool" (zc 1))) (tOf (eIs "str" (zc 1))))) (z3A Mr) yD)
@[simp] def z39 (Mr:Mir):FS:=(xV (z5l (ze qD (zb (zc 0) zi)) (eOp dEq (zc 0) (zc 1))))
def vI(Mr:Mir):FS:=(zC (ux Mr) (zC (z3x Mr) (z39 Mr)))
def zL:Nat->Mir
 | 0=>fun _ _=>.no | k+1=>Mof ["_law_found","_law_due"] 2 (vI (zL k))
@[simp] def z0i (Mr:Mir):FS:=(xV (eOp dIs (zc 0) (eC .non)))
@[simp] def qb (Mr:Mir):FS:=(fIf (tOf (eOp dIs (zc 1) (eC .non))) (z0i Mr) yD)
@[simp] def z06 (Mr:Mir):FS:=(xV (z5l (eIs "bool" (zc 0)) (eOp dEq (zc 0) (zc 1))))
@[simp] def qa (Mr:Mir):FS:=(fIf (tOf (eIs "bool" (zc 1))) (z06 Mr) yD)
@[simp] def z0e (Mr:Mir):FS:=(xV (z5l (ze xh (zb (zc 0) zi)) (eOp dEq (zc 0) (zc 1))))
@[simp] def uX (Mr:Mir):FS:=(fIf (tOf (eIs "int" (zc 1))) (z0e Mr) yD)
@[simp] def z0f (Mr:Mir):FS:=(xV (z5l (eIs "str" (zc 0)) (eOp dEq (zc 0) (zc 1))))
@[simp] def uW (Mr:Mir):FS:=(fIf (tOf (eIs "str" (zc 1))) (z0f Mr) yD)
@[simp] def kG (Mr:Mir):FS:=(xV (eC (.bl false)))
@[simp] def uV (Mr:Mir):FS:=(fIf (fOr (tOf (eOp dNe (eIs "tuple" (zc 1)) (eIs "tuple" (zc 0)))) (tOf (eOp dNe (eIs "list" (zc 1)) (eIs "list" (zc 0))))) (kG Mr) yD)
@[simp] def ww (Mr:Mir):FS:=(xV (z5l (eOp dEq (ze wX (zb (zc 0) zi)) (ze wX (zb (zc 1) zi))) (ze z8X (zb (zA (zag (zb (zc 0) (zb (zc 1) zi))) [none,none] (xO 0 1) wU (ze Mr (zb (zc 0) (zb (zc 1) zi)))) zi))))
def zJ(Mr:Mir):FS:=(zC (qb Mr) (zC (qa Mr) (zC (uX Mr) (zC (uW Mr) (zC (uV Mr) (ww Mr))))))
def xc:Nat->Mir
 | 0=>fun _ _=>.no | k+1=>Mof ["_law_found","_law_due"] 2 (zJ (xc k))
def yy:Mir:=xc 4
end Pg
namespace K72
open PySem.Spec L2 Dd Pg
@[simp] def vU:FS:=(xV (eOp dLt (ze wX (zb (zA (zW (zc 0)) [none] (xw 0) (tOf (eOp dGt (zc 0) (eC (.int 0)))) (zc 0)) zi)) (eC (.int 2))))
def uN:FS:=vU
def xi:Mir:=Mof ["_law_lot"] 1 uN
@[simp] def yM:FS:=(xl 2 (eLR (zb (ze wX (zb (zc 1) zi)) zi)))
@[simp] def xL:FS:=(xV (ur (zb (eC (.int 0)) (zb (zA (zW (eSl (zc 2) (wC (eC (.int 1))) zP)) [some 1,none] (xw 1) (tOf (eOp dGt (eOp dIx (zc 0) (eC (.int 0))) (eC (.int 0)))) (zc 1)) zi))))
@[simp] def ya:FS:=(fIf (tOf (eOp dEq (zc 0) (eC (.str "turn")))) xL yD)
@[simp] def yO:FS:=(xl 3 (z7X (zc 1) (ze jn (zb (zA (zW (zc 1)) [none] (xw 0) (tOf (eOp dGt (zc 0) (eC (.int 0)))) (zc 0)) zi))))
@[simp] def xK:FS:=(xV (ur (zb (zc 3) (zb (zA (zW (zc 2)) [some 3,none] (xw 1) (tOf (eOp dNe (zc 1) (zc 0))) (zc 1)) zi))))
@[simp] def zZ:FS:=(fIf (tOf (eOp dEq (zc 0) (eC (.str "all")))) (zC yO xK) yD)
@[simp] def yK:FS:=(xl 4 (z7X (zc 1) (ze wa (zb (zc 1) zi))))
@[simp] def yQ:FS:=(xl 5 (zA (zW (zc 2)) [some 1,some 4,none] (xw 2) (zaa (tOf (eOp dNe (zc 2) (zc 1))) (tOf (eOp dGt (eOp dIx (zc 0) (zc 2)) (eC (.int 0))))) (ur (zb (eOp dIx (zc 0) (zc 2)) (zb (zc 2) zi)))))
@[simp] def xp:FS:=(xV (ur (zb (eOp dIx (ze z83 (zb (zc 5) zi)) (eC (.int 1))) (zb (z4o (zb (zc 4) zi)) zi))))
@[simp] def zX:FS:=(fIf (tOf (eOp dEq (zc 0) (eC (.str "least")))) xp yD)
@[simp] def yA:FS:=(xl 6 (ze wa (zb (zA (zW (zc 5)) [none,none] (xO 0 1) wU (zc 0)) zi)))
@[simp] def xn:FS:=(xV (ur (zb (ze jn (zb (zA (zW (zc 5)) [some 6,none,none] (xO 1 2) (tOf (eOp dEq (zc 1) (zc 0))) (zc 2)) zi)) (zb (z4o (zb (zc 4) zi)) zi))))
def wg:FS:=(zC yM (zC ya (zC zZ (zC yK (zC yQ (zC zX (zC yA xn)))))))
def zR:Mir:=Mof ["_law_rule","_law_lot","_law_places","_law_by","_law_top","_law_others","_law_greatest"] 2 wg
@[simp] def uC:FS:=(zcv (ze zR (zb (zc 0) (zb (zc 1) zi))) (xO 2 3))
@[simp] def uK:FS:=(xl 4 (zA (z2K (zb (zc 1) zi)) [some 3,some 1,some 2,none,none] (xO 3 4) wU (eIf (tOf (eOp (z5o false) (zc 3) (zc 0))) (eOp z6W (zc 4) (eOp dIx (zc 1) (zc 2))) (zc 4))))
@[simp] def uH:FS:=(xl 5 (zae zi))
@[simp] def uJ:FS:=(xl 7 (kN (z07 (zb (ze wX (zb (zc 1) zi)) zi)) [some 6,none] (xw 1) wU (ze zbJ (zb (eOp dEq (zc 0) (zc 1)) zi))))
@[simp] def uT:FS:=(z3m (zc 7) (zc 2) (eOp z0c (eOp dIx (zc 1) (zc 6)) (eOp dIx (zc 1) (zc 2))))
@[simp] def uR:FS:=(fIf (tOf (eOp (z5o false) (zc 6) (zc 3))) uT yD)
@[simp] def uA:FS:=(qT (zc5 (zc 5) (zc 7)))
@[simp] def ut:FS:=(z5k (z07 (zb (ze wX (zb (zc 1) zi)) zi)) (xw 6) (zC (z4y 7 (zC uJ uR)) uA))
@[simp] def vJ:FS:=(xl 4 (eOp qQ (eSl (zc 4) (wC (eC (.int 1))) zP) (eSl (zc 4) zP (wC (eC (.int 1))))))
@[simp] def vZ:FS:=(xl 5 (zA (zW (zc 5)) [none] (xw 0) wU (eOp qQ (eSl (zc 0) (wC (eC (.int 1))) zP) (eSl (zc 0) zP (wC (eC (.int 1)))))))
@[simp] def uI:FS:=(fIf (tOf (eOp dEq (zc 0) (eC (.str "turn")))) (zC vJ vZ) yD)
@[simp] def vT:FS:=(xV (ur (zb (ze vp (zb (zc 4) zi)) (zb (ze vp (zb (zA (zW (zc 5)) [none] (xw 0) wU (ze vp (zb (zc 0) zi))) zi)) zi))))
def qB:FS:=(zC uC (zC uK (zC uH (zC ut (zC uI vT)))))
def xf:Mir:=z6c (Mof ["_law_rule","_law_lot","_law_by","_law_gone","_law_later","_law_lines","_law_place","_law_line"] 2 qB)
@[simp] def vY (Mr:Mir):FS:=(z6d (zc 2) (zc 1) (eC (.int 0)))
@[simp] def vQ (Mr:Mir):FS:=(z6d (zc 2) (zc 1) (eOp qQ (eC (.int 1)) (ze Mr (zb (zc 0) (zb (eOp dIx (ze xf (zb (zc 0) (zb (zc 1) zi))) (eC (.int 0))) (zb (zc 2) zi))))))
@[simp] def wJ (Mr:Mir):FS:=(fIf (z3S (tOf (ze xi (zb (zc 1) zi)))) (vQ Mr) yD)
@[simp] def xD (Mr:Mir):FS:=(fIf (tOf (eOp (zaF true) (zc 1) (zc 2))) (zC (vY Mr) (wJ Mr)) yD)
@[simp] def qY (Mr:Mir):FS:=(xV (z5g (zc 2) (zc 1)))
def wY(Mr:Mir):FS:=(zC (xD Mr) (qY Mr))
def yc:Nat->Mir
 | 0=>fun _ _=>.no | k+1=>Mof ["_law_rule","_law_lot","_law_known"] 3 (wY (yc k))
def xj:Mir:=yc 90
@[simp] def vP:FS:=(xl 3 zdc)
@[simp] def xC:FS:=(xl 5 (z4o (zb (ur zi) zi)))
@[simp] def xF:FS:=(xl 7 (zae zi))
@[simp] def wI:FS:=(qT (zgw (zc 7) (zA (z07 (zb (eOp qQ (zc 4) (eC (.int 1))) zi)) [some 8,none] (xw 1) wU (eOp qQ (zc 0) (ur (zb (zc 1) zi))))))
@[simp] def xz:FS:=(z5k (zW (zc 5)) (xw 8) wI)
@[simp] def vX:FS:=(xl 5 (zc 7))
@[simp] def xG:FS:=(z5k (z07 (zb (zc 1) zi)) (xw 6) (zC xF (zC xz vX)))
@[simp] def qI:FS:=(xV (zc 9))
@[simp] def zU:FS:=(fIf (zaa (tOf (eOp dEq (ze wa (zb (zc 9) zi)) (zc 4))) (tOf (eOp dEq (ze xj (zb (zc 0) (zb (zc 9) (zb (zc 3) zi)))) (zc 2)))) qI yD)
@[simp] def yT:FS:=(z5k (zW (zc 5)) (xw 9) zU)
@[simp] def xA:FS:=(z5k (z5D (zb (eC (.int 1)) (zb (eC (.int 17)) zi))) (xw 4) (zC xC (zC xG yT)))
@[simp] def z0X:FS:=(xV (eC .non))
def jP:FS:=(zC vP (zC xA z0X))
def xY:Mir:=Mof ["_law_rule","_law_size","_law_steps_here","_law_known","_law_most","_law_found","_law_place","_law_longer","_law_begun","_law_lot"] 3 jP
@[simp] def z0A:FS:=(xl 2 (ze Pg.vg (zb (ze Pg.yR (zb (zc 0) (zb (zc 1) zi))) zi)))
@[simp] def z1n:FS:=(xl 3 (eOp dIx (ze Pg.xk zi) (ze Pg.yu (zb (zc 2) (zb (eC (.int 4)) zi)))))
@[simp] def z10:FS:=(xl 4 (eOp qQ (eC (.int 2)) (ze Pg.yu (zb (zc 2) (zb (eC (.int 2)) zi)))))
@[simp] def z0F:FS:=(xl 5 (ze Pg.yu (zb (zc 2) (zb (eOp dIx (z4o (zb (eC (.int 8)) (zb (eC (.int 13)) zi))) (eOp z0c (ze Pg.yu (zb (zc 2) (zb (eC (.int 4)) zi))) (eC (.int 3)))) zi))))
@[simp] def z0S:FS:=(xl 6 (ze xY (zb (zc 3) (zb (zc 4) (zb (zc 5) zi)))))
@[simp] def zdl:FS:=(xV (eC (.bl false)))
@[simp] def z3h:FS:=(fIf (fOr (z3S (tOf (ze Pg.yy (zb (ze Pg.zE (zb (zc 3) (zb (zc 4) (zb (zc 5) zi)))) (zb (zc 6) zi))))) (z3S (tOf (ze Pg.yy (zb (ze Pg.zE (zb (zc 3) (zb (zc 4) (zb (zc 5) zi)))) (zb (zc 6) zi)))))) zdl yD)
@[simp] def z5K:FS:=(z5k (z07 (zb (ze zba (zb (eC (.int 1)) (zb (ze zbx (zb (ze wX (zb (zc 0) zi)) (zb (eC (.int 2)) zi))) zi))) zi)) (xw 1) (zC z0A (zC z1n (zC z10 (zC z0F (zC z0S z3h))))))
@[simp] def z8U:FS:=(xV (z5l (eOp dEq (ze Pg.zE (zb (eC (.str "all")) (zb (eC (.int 2)) (zb (eC (.int 0)) zi)))) (ur (zb (eC (.int 0)) (zb (eC (.int 1)) zi)))) (eOp dEq (ze Pg.zE (zb (eC (.str "next")) (zb (eC (.int 3)) (zb (eC (.int 0)) zi)))) (ur (zb (eC (.int 0)) (zb (eC (.int 0)) (zb (eC (.int 1)) zi)))))))
def zbL:FS:=(zC z5K z8U)
def zdJ:Mir:=Mof ["_law_script","_law_at","_law_pot_here","_law_rule","_law_size","_law_steps_here","_law_due"] 1 zbL
end K72
set_option maxHeartbeats 6000000
namespace K72
open PySem.Spec L2 Dd Pg
structure Txt(mg:Str->Option Value):Prop where
 LEAST_SIZE_:∃ t,mg "LEAST_SIZE"=some (.int 2 t)
 MOST_NUMBER_:∃ t,mg "MOST_NUMBER"=some (.int 16 t)
 MOST_SIZE_:∃ t,mg "MOST_SIZE"=some (.int 4 t)
 MOST_SIZE_LED_:∃ t,mg "MOST_SIZE_LED"=some (.int 3 t)
 MOST_STEPS_:∃ t,mg "MOST_STEPS"=some (.int 12 t)
 all_:mg "all"=none
 bool_:mg "bool"=none
 enumerate_:mg "enumerate"=none
 int_:mg "int"=none
 isinstance_:mg "isinstance"=none
 len_:mg "len"=none
 list_:mg "list"=none
 max_:mg "max"=none
 min_:mg "min"=none
 range_:mg "range"=none
 str_:mg "str"=none
 tuple_:mg "tuple"=none
 zip_:mg "zip"=none
theorem zbK:bootBuiltins "all"=some (.builtin "all"):=by decide +kernel
theorem z3o:bootBuiltins "bool"=some (.type "bool"):=by decide +kernel
theorem z70:bootBuiltins "int"=some (.type "int"):=by decide +kernel
theorem vz:bootBuiltins "len"=some (.builtin "len"):=by decide +kernel
theorem z8C:bootBuiltins "list"=some (.type "list"):=by decide +kernel
theorem kK:bootBuiltins "max"=some (.builtin "max"):=by decide +kernel
theorem z11:bootBuiltins "min"=some (.builtin "min"):=by decide +kernel
theorem z95:bootBuiltins "str"=some (.type "str"):=by decide +kernel
theorem vB:bootBuiltins "tuple"=some (.type "tuple"):=by decide +kernel
theorem zjt:(["_law_one","_law_other"]:List Str).Nodup:=by decide +kernel
theorem zj5:(["_law_begun","_law_one"]:List Str).Nodup:=by decide +kernel
theorem zjo:(["_law_gone","_law_lot","_law_by","_law_place","_law_number"]:List Str).Nodup:=by decide +kernel
theorem zjJ:(["_law_place","_law_column"]:List Str).Nodup:=by decide +kernel
theorem ziu:(["_law_line"]:List Str).Nodup:=by decide +kernel
theorem zj8:(["_law_lot","_law_place"]:List Str).Nodup:=by decide +kernel
theorem ziL:(["_law_number"]:List Str).Nodup:=by decide +kernel
theorem zj9:(["_law_by","_law_place"]:List Str).Nodup:=by decide +kernel
theorem zjq:(["_law_lot","_law_top","_law_place"]:List Str).Nodup:=by decide +kernel
theorem zjp:(["_law_number","_law_place"]:List Str).Nodup:=by decide +kernel
theorem zh1:(["_law_greatest","_law_number","_law_place"]:List Str).Nodup:=by decide +kernel
theorem zin:(["steps","many","lot"]:List Str).Nodup:=by decide +kernel
theorem zg0:(["least","most","ahead","number"]:List Str).Nodup:=by decide +kernel
theorem zgW:(["lot","by","number","quotient"]:List Str).Nodup:=by decide +kernel
theorem zeV:(["number"]:List Str).Nodup:=by decide +kernel
theorem zio:(["part"]:List Str).Nodup:=by decide +kernel
theorem zib:(["divided","lot","by","at"]:List Str).Nodup:=by decide +kernel
theorem zi8:(["place","at"]:List Str).Nodup:=by decide +kernel
section
local macro_rules | `(tactic| trivial)=>`(tactic| exact ⟨rfl,rfl,rfl,by decide +kernel,rfl,by decide +kernel,by decide +kernel⟩)
theorem z64:zu ["thing"] ["thing"] (zg jx):=by trivial
theorem z6e:zu ["thing"] ["thing"] (zg jq):=by trivial
theorem xm:zu ["size","least","most","found","place"] ["size","least","most"] (zg wx):=by trivial
theorem wv:zu ["lot","at"] ["lot"] (zg yV):=by trivial
theorem z1s:zu ["lot"] ["lot"] (zg vS):=by trivial
theorem z7F:zu ["lot","place"] ["lot","place"] (zg kH):=by trivial
theorem z7r:zu ["thing"] ["thing"] (zg km):=by trivial
theorem zaA:zu ["rule","numbers"] ["rule","numbers"] (zg z3u):=by trivial
theorem z0L:zu ["_law_script","_law_k"] ["_law_script","_law_k"] (zg vm):=by trivial
theorem wB:zu ["_law_cell","_law_number","_law_j","_law_more"] ["_law_cell"] (zg jz):=by trivial
theorem kQ:zu ["_law_pot_here","_law_far","_law_found"] ["_law_pot_here","_law_far"] (zg qN):=by trivial
theorem z3d:zu ["_law_found"] ["_law_found"] (zg uQ):=by trivial
theorem z3k:zu [] [] (zg uw):=by trivial
theorem z2J:zu ["_law_lot"] ["_law_lot"] (zg uv):=by trivial
theorem yC:zu ["_law_rule","_law_lot","_law_places","_law_by","_law_top","_law_others","_law_greatest"] ["_law_rule","_law_lot"] (zg vt):=by trivial
theorem z3a:zu ["thing","many"] ["thing","many"] (zg uu):=by trivial
theorem z1C:zu ["thing","least","most"] ["thing","least","most"] (zg vN):=by trivial
theorem z41:zu ["thing","most"] ["thing","most"] (zg qL):=by trivial
theorem z2f:zu ["lot","greatest","others"] ["lot"] (zg kC):=by trivial
theorem z0Y:zu ["lot","greatest","others"] ["lot"] (zg jm):=by trivial
theorem z4m:zu ["lot","by"] ["lot"] (zg z0H):=by trivial
theorem z7R:zu ["lot"] ["lot"] (zg kF):=by trivial
theorem z4Q:zu ["thing"] ["thing"] (zg qt):=by trivial
theorem z5h:zu ["_law_found","_law_due"] ["_law_found","_law_due"] (zg vA):=by trivial
theorem yF:zu ["_law_rule","_law_lot","_law_by","_law_gone","_law_later","_law_lines","_law_place","_law_line"] ["_law_rule","_law_lot"] (zg qk):=by trivial
theorem z8r:zu ["thing"] ["thing"] (zg z1j):=by trivial
theorem jy:zu ["rule","lot","deal","by","divided"] ["rule","lot"] (zg jw):=by trivial
theorem z2X:zu ["_law_rule","_law_lot","_law_known"] ["_law_rule","_law_lot","_law_known"] (zg ve):=by trivial
theorem z5s:zu ["thing"] ["thing"] (zg jj):=by trivial
theorem ye:zu ["_law_rule","_law_size","_law_steps_here","_law_known","_law_most","_law_found","_law_place","_law_longer","_law_begun","_law_lot"] ["_law_rule","_law_size","_law_steps_here"] (zg uO):=by trivial
theorem z4S:zu ["lot"] ["lot"] (zg qm):=by trivial
theorem qS:zu ["rule","lot"] ["rule","lot"] (zg xy):=by trivial
theorem z52:zu ["rule","lot"] ["rule","lot"] (zg qK):=by trivial
theorem z5F:zu ["rule","lot","by","quotients","left"] ["rule","lot"] (zg z5x):=by trivial
theorem yg:zu ["rule","size","most","steps","lot","path","many","behind"] ["rule","size","most"] (zg vo):=by trivial
theorem uE:zu ["rule","size","steps","many","found"] ["rule","size","steps"] (zg uG):=by trivial
theorem z0W:zu ["_law_script","_law_at","_law_pot_here","_law_rule","_law_size","_law_steps_here","_law_due"] ["_law_script"] (zg z25):=by trivial
end
section
variable {P:Program}{w:World}{K:W.Frag}{mg:Str->Option Value}{base:Heap}(T:Txt mg){f:Addr}{fd:FuncData}
include T
local macro_rules | `(tactic| trivial)=>`(tactic| first | exact (fun _ _ _ _ _ _ us hl=>match us,hl with | [],_=>rfl) | exact (fun _ _ _ _ _ _ us hl=>match us,hl with | [_],_=>rfl) | exact (fun _ _ _ _ _ _ us hl=>match us,hl with | [_,_],_=>rfl) | exact (fun _ _ _ _ _ _ us hl=>match us,hl with | [_,_,_],_=>rfl))
theorem z50(F:Fun K "is_whole" "is_whole" jx f fd)(hm:mg "is_whole"=some (.ref f))  : Has P w K mg base CX0 "is_whole" 1 Pg.yt:= (zQ F hm (F.binds (ps:=["thing"]) (by trivial)) z64 rfl fun cdv A outer s H E hr hc=> have hu:=hr.units;(zk (ym (z1P (z5j (by decide) z70 (by rfl) T.isinstance_ (by rfl) T.int_ (zd 0)) (z1I (zf1 (z5j (by decide) z3o (by rfl) T.isinstance_ (by rfl) T.bool_ (zd 0))))))))
theorem z4O (F:Fun K "has_size" "has_size" jq f fd) (hm:mg "has_size"=some (.ref f))  : Has P w K mg base CX0 "has_size" 1 Pg.vf:= (zQ F hm (F.binds (ps:=["thing"]) (by trivial)) z6e rfl fun cdv A outer s H E hr hc=> have hu:=hr.units;(zk (ym (z1P (z5j (by decide) vB (by rfl) T.isinstance_ (by rfl) T.tuple_ (zd 0)) (z1I (zdx zei zei (zem (by rfl) T.LEAST_SIZE_) (zH jG (by rfl) T.len_ vz (aN (zd 0) zh) (he:=(zB ..))) (zem (by rfl) T.MOST_SIZE_)))))))
theorem jM(F:Fun K "tuples_between" "tuples_between" wx f fd)(hm:mg "tuples_between"=some (.ref f))  : Has P w K mg base CX0 "tuples_between" 1 Pg.zY:= (zQ F hm (F.binds (ps:=["size","least","most"]) (by trivial)) xm rfl fun cdv A outer s H E hr hc=> have hu:=hr.units;(zf (wo 3 xm.nd (z35 (aT (vL zh) zh))) (zf (z1L PassesOwn.never hc (uF (by rfl) T.range_ (aN (zd 0) zh)) (jh 4 xm.nd) (zk (zdN 3 ["least","most","ahead","number"] [some 1,some 2,none,none] 2 3 xm.nd hc (qG (zd 3)) (fun _ _ _=>yo (i:=2) zg0 (by rfl) (by first | exact Or.inl rfl | exact Or.inr rfl)) (fun _ _ _=>yo (i:=3) zg0 (by rfl) (by first | exact Or.inl rfl | exact Or.inr rfl)) (fun _ _ _=>(z6S (by rfl) T.range_ (aN (zd 0) (aB (xa qA (zd 1) zx) zh)))) (fun _ _ _=>(xa qA (zd 2) (vL (aN (zd 3) zh))))))) (zk (ym (zd 3))))))
theorem uL (F:Fun K "greatest_and_others" "greatest_and_others" yV f fd) (hm:mg "greatest_and_others"=some (.ref f))  : Has P w K mg base CX0 "greatest_and_others" 1 Pg.zq:= (zQ F hm (F.binds (ps:=["lot"]) (by trivial)) wv rfl fun cdv A outer s H E hr hc=> have hu:=hr.units;(zf (wo 1 wv.nd (z1b (zd 0) (zH (z0N (by exact hc)) (by rfl) T.max_ kK (aN (zd 0) zh) (he:=(zB ..))))) (zk (ym (vL (aN (zd 1) (aB (xa qA (xa qA (vR (zd 0) jb (je (zd 1))) (vL (aK zx zh))) (vR (zd 0) (je (xa qA (zd 1) zx)) jb)) zh)))))))
theorem z1g (F:Fun K "least_place" "least_place" vS f fd) (hm:mg "least_place"=some (.ref f))  : Has P w K mg base CX0 "least_place" 1 Pg.zS:= (zQ F hm (F.binds (ps:=["lot"]) (by trivial)) z1s rfl fun cdv A outer s H E hr hc=> have hu:=hr.units;(zk (ym (z1b (zd 0) (zH (z6B (by exact hc)) (by rfl) T.min_ z11 (aO (xN ["number"] [none] (by exact hc) (qG (zd 0)) (fun _ _ _=>yo (i:=0) zeV (by rfl) (by first | exact Or.inl rfl | exact Or.inr rfl)) (yH 0 (by rfl)) (fun _ _ _=>vK (yn (zbO hu) (zd 0) zx)) (fun _ _ _=>(zd 0))) zh) (he:=(xg ..)))))))
theorem z6p (F:Fun K "all_but" "all_but" kH f fd) (hm:mg "all_but"=some (.ref f))  : Has P w K mg base CX0 "all_but" 1 Pg.xE:= (zQ F hm (F.binds (ps:=["lot","place"]) (by trivial)) z7F rfl fun cdv A outer s H E hr hc=> have hu:=hr.units;(zk (ym (xN ["place","at"] [some 1,none] (by exact hc) (uF (by rfl) T.range_ (aQ (zH jG (by rfl) T.len_ vz (aN (zd 0) zh) (he:=(zB ..))) zh)) (fun _ _ _=>yo (i:=1) zi8 (by rfl) (by first | exact Or.inl rfl | exact Or.inr rfl)) (yH 1 (by rfl)) (fun _ _ _=>vK (yn (zbO hu) (zd 1) (zd 0))) (fun _ _ _=>(zd 1))))))
theorem z5Z(F:Fun K "is_rule" "is_rule" km f fd)(hm:mg "is_rule"=some (.ref f))(T_RULES:zdj P w K mg "RULES" uM):Has P w K mg base CX0 "is_rule" 1 Pg.ql:= (zQ F hm (F.binds (ps:=["thing"]) (by trivial)) z7r rfl fun cdv A outer s H E hr hc=> have hu:=hr.units;(zk (ym (z1P (z5j (by decide) z95 (by rfl) T.isinstance_ (by rfl) T.str_ (zd 0)) (z1I (zdM T_RULES (by rfl) (zd 0)))))))
theorem z97(F:Fun K "moved" "moved" z3u f fd)(hm:mg "moved"=some (.ref f))  : Has P w K mg base CX0 "moved" 1 Pg.jk:= (zQ F hm (F.binds (ps:=["rule","numbers"]) (by trivial)) zaA rfl fun cdv A outer s H E hr hc=> have hu:=hr.units;(zk (ym (zgy (yn (z3P hu) (zd 0) z1f) (xa qA (vR (zd 1) (je zx) jb) (vR (zd 1) jb (je zx))) (zd 1)))))
theorem z0h (F:Fun K "_law_cell_at" "_law_cell_at" vm f fd) (hm:mg "_law_cell_at"=some (.ref f))  : Has P w K mg base CX0 "_law_cell_at" 1 Pg.yR:= (zQ F hm (F.binds (ps:=["_law_script","_law_k"]) (by trivial)) z0L rfl fun cdv A outer s H E hr hc=> have hu:=hr.units;(zf (z0j (yn ziY (zd 1) (zH jG (by rfl) T.len_ vz (aN (zd 0) zh) (he:=(zB ..)))) (zk (ym (z1r (zd 0) (zd 1)))) yX) (zk (ym zx))))
theorem z56(F:Fun K "_law_pot" "_law_pot" jz f fd)(hm:mg "_law_pot"=some (.ref f))  : Has P w K mg base CX0 "_law_pot" 1 Pg.vg:= (zQ F hm (F.binds (ps:=["_law_cell"]) (by trivial)) wB rfl fun cdv A outer s H E hr hc=> have hu:=hr.units;(zf (z0j (yn ziW (zd 0) (xa zfw zx zx)) (zk (ym (z9I (aB (xa zfx (zd 0) (xa zfw zx zx)) zh)))) yX) (zf (wo 1 wB.nd zx) (zf (z1L PassesOwn.never hc (uF (by rfl) T.range_ (aK zx zh)) (jh 2 wB.nd) (zf (wo 3 wB.nd (xa z8Z (xa z2l (xa qA (xa qA (xa z8Z (zd 0) zx) (xa z2l zx (zd 2))) zx) zx) zx)) (zf (wo 3 wB.nd (xa z8Z (xa qA (xa qA (xa z2l (zd 3) (zd 3)) (xa z2l zx (zd 2))) zx) zx)) (zk (wo 1 wB.nd (xa qA (xa z2l (zd 1) zx) (zd 3))))))) (zk (ym (z9I (aN (zd 1) zh))))))))
theorem z2G(F:Fun K "_law_take" "_law_take" qN f fd)(hm:mg "_law_take"=some (.ref f))  : Has P w K mg base CX0 "_law_take" 1 Pg.yu:= (zQ F hm (F.binds (ps:=["_law_pot_here","_law_far"]) (by trivial)) kQ rfl fun cdv A outer s H E hr hc=> have hu:=hr.units;(zf (wo 2 kQ.nd (xa z8Z (z1r (zd 0) zx) (zd 1))) (zf (zce (xa z72 (z1r (zd 0) zx) (zd 1)) (zd 0) zx) (zk (ym (zd 2))))))
theorem z1u(F:Fun K "_law_whole" "_law_whole" uQ f fd)(hm:mg "_law_whole"=some (.ref f))  : Has P w K mg base CX0 "_law_whole" 1 Pg.xh:= (zQ F hm (F.binds (ps:=["_law_found"]) (by trivial)) z3d rfl fun cdv A outer s H E hr hc=> have hu:=hr.units;(zk (ym (z1P (z5j (by decide) z70 (by rfl) T.isinstance_ (by rfl) T.int_ (zd 0)) (z1I (zf1 (z5j (by decide) z3o (by rfl) T.isinstance_ (by rfl) T.bool_ (zd 0))))))))
theorem z1t(F:Fun K "_law_rules" "_law_rules" uw f fd)(hm:mg "_law_rules"=some (.ref f))  : Has P w K mg base CX0 "_law_rules" 1 Pg.xk:= (zQ F hm (F.binds (ps:=[]) (by trivial)) z3k rfl fun cdv A outer s H E hr hc=> have hu:=hr.units;(zk (ym (z35 (aK z1f (aK z1f (aK z1f (aK z1f zh))))))))
theorem z1O (F:Fun K "_law_ended" "_law_ended" uv f fd) (hm:mg "_law_ended"=some (.ref f))  : Has P w K mg base CX0 "_law_ended" 1 xi:= (zQ F hm (F.binds (ps:=["_law_lot"]) (by trivial)) z2J rfl fun cdv A outer s H E hr hc=> have hu:=hr.units;(zk (ym (uU ziY (zH jG (by rfl) T.len_ vz (aO (xN ["_law_number"] [none] (by exact hc) (qG (zd 0)) (fun _ _ _=>yo (i:=0) ziL (by rfl) (by first | exact Or.inl rfl | exact Or.inr rfl)) (yH 0 (by rfl)) (fun _ _ _=>vK (yn zgk (zd 0) zx)) (fun _ _ _=>(zd 0))) zh) (he:=(xg ..))) zx))))
theorem z0b (F:Fun K "_law_divides" "_law_divides" vt f fd) (hm:mg "_law_divides"=some (.ref f))  : Has P w K mg base CX0 "_law_divides" 1 zR:= (zQ F hm (F.binds (ps:=["_law_rule","_law_lot"]) (by trivial)) yC rfl fun cdv A outer s H E hr hc=> have hu:=hr.units;(zf (wo 2 yC.nd (z63 (by exact hc) (by rfl) T.list_ (by rfl) T.range_ (aQ (zH jG (by rfl) T.len_ vz (aN (zd 1) zh) (he:=(zB ..))) zh))) (zf (z0j (yn (z3P hu) (zd 0) z1f) (zk (ym (vL (aK zx (aO (xN ["_law_lot","_law_place"] [some 1,none] (by exact hc) (qG (vR (zd 2) (je zx) jb)) (fun _ _ _=>yo (i:=1) zj8 (by rfl) (by first | exact Or.inl rfl | exact Or.inr rfl)) (yH 1 (by rfl)) (fun _ _ _=>vK (yn zgk (z1r (zd 0) zx) zx)) (fun _ _ _=>(zd 1))) zh))))) yX) (zf (z0j (yn (z3P hu) (zd 0) z1f) (zf (wo 3 yC.nd (z1b (zd 1) (zH (z6B (by exact hc)) (by rfl) T.min_ z11 (aO (xN ["_law_number"] [none] (by exact hc) (qG (zd 1)) (fun _ _ _=>yo (i:=0) ziL (by rfl) (by first | exact Or.inl rfl | exact Or.inr rfl)) (yH 0 (by rfl)) (fun _ _ _=>vK (yn zgk (zd 0) zx)) (fun _ _ _=>(zd 0))) zh) (he:=(xg ..))))) (zk (ym (vL (aN (zd 3) (aO (xN ["_law_by","_law_place"] [some 3,none] (by exact hc) (qG (zd 2)) (fun _ _ _=>yo (i:=1) zj9 (by rfl) (by first | exact Or.inl rfl | exact Or.inr rfl)) (yH 1 (by rfl)) (fun _ _ _=>vK (yn (zbO hu) (zd 1) (zd 0))) (fun _ _ _=>(zd 1))) zh)))))) yX) (zf (wo 4 yC.nd (z1b (zd 1) (zH (z0N (by exact hc)) (by rfl) T.max_ kK (aN (zd 1) zh) (he:=(zB ..))))) (zf (z33 5 ["_law_lot","_law_top","_law_place"] [some 1,some 4,none] yC.nd hc (qG (zd 2)) (fun _ _ _=>yo (i:=2) zjq (by rfl) (by first | exact Or.inl rfl | exact Or.inr rfl)) (yH 2 (by rfl)) (fun _ _ _=>vK (RW.rt (w_and (yn (zbO hu) (zd 2) (zd 1)) (z90 (yn zgk (z1r (zd 0) (zd 2)) zx))))) (fun _ _ _=>(vL (aS (z1r (zd 0) (zd 2)) (aN (zd 2) zh))))) (zf (z0j (yn (z3P hu) (zd 0) z1f) (zk (ym (vL (aS (z1r (zH (zfo (by exact hc) hu) (by rfl) T.min_ z11 (aN (zd 5) zh) (he:=(zB ..))) zx) (aL (z35 (aN (zd 4) zh)) zh))))) yX) (zf (wo 6 yC.nd (zH (z0N (by exact hc)) (by rfl) T.max_ kK (aO (xN ["_law_number","_law_place"] [none,none] (by exact hc) (qG (zd 5)) (fun _ _ _=>jQ 0 1 (by exact hc) zjp) (jB 0 1 (by decide) (by rfl) (by rfl)) (fun _ _ _=>vM) (fun _ _ _=>(zd 0))) zh) (he:=(xg ..)))) (zk (ym (vL (aQ (zH (z6B (by exact hc)) (by rfl) T.min_ z11 (aO (xN ["_law_greatest","_law_number","_law_place"] [some 6,none,none] (by exact hc) (qG (zd 5)) (fun _ _ _=>jQ 1 2 (by exact hc) zh1) (jB 1 2 (by decide) (by rfl) (by rfl)) (fun _ _ _=>vK (yn (z3P hu) (zd 1) (zd 0))) (fun _ _ _=>(zd 2))) zh) (he:=(xg ..))) (aL (z35 (aN (zd 4) zh)) zh)))))))))))))
theorem z1D (F:Fun K "are_wholes" "are_wholes" uu f fd) (hm:mg "are_wholes"=some (.ref f)) (H_is_whole:Has P w K mg base CX0 "is_whole" 1 Pg.yt):Has P w K mg base CX0 "are_wholes" 2 Pg.xQ:= (zQ F hm (F.binds (ps:=["thing","many"]) (by trivial)) z3a rfl fun cdv A outer s H E hr hc=> have hu:=hr.units;(zf (z0j (RW.rt (zel (ky (ju (z5j (by decide) vB (by rfl) T.isinstance_ (by rfl) T.tuple_ (zd 0)))) (z7C (yn (zbO hu) (zH jG (by rfl) T.len_ vz (aN (zd 0) zh) (he:=(zB ..))) (zd 1))))) (zk (ym zgI)) yX) (zk (ym (zH (zfm (by exact hc)) (by rfl) T.all_ zbK (aO (xN ["part"] [none] (by exact hc) (qG (zd 0)) (fun _ _ _=>yo (i:=0) zio (by rfl) (by first | exact Or.inl rfl | exact Or.inr rfl)) (yH 0 (by rfl)) (fun _ _ _=>vM) (fun _ _ _=>(zD H_is_whole (hr.mono (by decide)) yb (by rfl) (aN (zd 0) zh)))) zh) (he:=(xg ..)))))))
theorem z1d(F:Fun K "want_number" "want_number" vN f fd)(hm:mg "want_number"=some (.ref f))(H_is_whole:Has P w K mg base CX0 "is_whole" 1 Pg.yt):Has P w K mg base CX0 "want_number" 2 Pg.xo:= (zQ F hm (F.binds (ps:=["thing","least","most"]) (by trivial)) z1C rfl fun cdv A outer s H E hr hc=> have hu:=hr.units;(zk (z0j (RW.rt (zel (ky (ju (zD H_is_whole (hr.mono (by decide)) yb (by rfl) (aN (zd 0) zh)))) (z7C (ky (z9f zei zei (zd 1) (zd 0) (zd 2)))))) (zk z0C) yX)))
theorem z3b(F:Fun K "want_size" "want_size" qL f fd)(hm:mg "want_size"=some (.ref f))(H_is_whole:Has P w K mg base CX0 "is_whole" 1 Pg.yt):Has P w K mg base CX0 "want_size" 2 Pg.wy:= (zQ F hm (F.binds (ps:=["thing","most"]) (by trivial)) z41 rfl fun cdv A outer s H E hr hc=> have hu:=hr.units;(zk (z0j (RW.rt (zel (ky (ju (zD H_is_whole (hr.mono (by decide)) yb (by rfl) (aN (zd 0) zh)))) (z7C (ky (z9f zei zei (zem (by rfl) T.LEAST_SIZE_) (zd 0) (zd 1)))))) (zk z0C) yX)))
theorem z5w (F:Fun K "by_next" "by_next" kC f fd) (hm:mg "by_next"=some (.ref f)) (H_greatest_and_others:Has P w K mg base CX0 "greatest_and_others" 1 Pg.zq):Has P w K mg base CX0 "by_next" 2 Pg.wK:= (zQ F hm (F.binds (ps:=["lot"]) (by trivial)) z2f rfl fun cdv A outer s H E hr hc=> have hu:=hr.units;(zf (z8a (zD H_greatest_and_others (hr.mono (by decide)) yb (by rfl) (aN (zd 0) zh)) (z4b 1 2 hc z2f.nd)) (zk (ym (vL (aQ (z1b (zd 2) (zH (z0N (by exact hc)) (by rfl) T.max_ kK (aN (zd 2) zh) (he:=(zB ..)))) (aL (z35 (aN (zd 1) zh)) zh)))))))
theorem z43(F:Fun K "by_least" "by_least" jm f fd)(hm:mg "by_least"=some (.ref f))(H_greatest_and_others:Has P w K mg base CX0 "greatest_and_others" 1 Pg.zq)(H_least_place:Has P w K mg base CX0 "least_place" 1 Pg.zS):Has P w K mg base CX0 "by_least" 2 Pg.xU:= (zQ F hm (F.binds (ps:=["lot"]) (by trivial)) z0Y rfl fun cdv A outer s H E hr hc=> have hu:=hr.units;(zf (z8a (zD H_greatest_and_others (hr.mono (by decide)) yb (by rfl) (aN (zd 0) zh)) (z4b 1 2 hc z0Y.nd)) (zk (ym (vL (aQ (zD H_least_place (hr.mono (by decide)) yb (by rfl) (aN (zd 2) zh)) (aL (z35 (aN (zd 1) zh)) zh)))))))
theorem z7Q(F:Fun K "by_all" "by_all" z0H f fd)(hm:mg "by_all"=some (.ref f))(H_least_place:Has P w K mg base CX0 "least_place" 1 Pg.zS)(H_all_but:Has P w K mg base CX0 "all_but" 1 Pg.xE):Has P w K mg base CX0 "by_all" 2 Pg.vC:= (zQ F hm (F.binds (ps:=["lot"]) (by trivial)) z4m rfl fun cdv A outer s H E hr hc=> have hu:=hr.units;(zf (wo 1 z4m.nd (zD H_least_place (hr.mono (by decide)) yb (by rfl) (aN (zd 0) zh))) (zk (ym (vL (aN (zd 1) (aQ (zD H_all_but (hr.mono (by decide)) yb (by rfl) (aN (zd 0) (aN (zd 1) zh))) zh)))))))
theorem z5H(F:Fun K "by_turn" "by_turn" kF f fd)(hm:mg "by_turn"=some (.ref f))(H_all_but:Has P w K mg base CX0 "all_but" 1 Pg.xE):Has P w K mg base CX0 "by_turn" 2 Pg.wL:= (zQ F hm (F.binds (ps:=["lot"]) (by trivial)) z7R rfl fun cdv A outer s H E hr hc=> have hu:=hr.units;(zf (z0j (yn (z3P hu) (z1r (zd 0) zx) zx) (zk (ym (vL (aK zx (aL (z35 zh) zh))))) yX) (zk (ym (vL (aK zx (aQ (zD H_all_but (hr.mono (by decide)) yb (by rfl) (aN (zd 0) (aK zx zh))) zh)))))))
theorem z3C(F:Fun K "want_rule" "want_rule" qt f fd)(hm:mg "want_rule"=some (.ref f))(H_is_rule:Has P w K mg base CX0 "is_rule" 1 Pg.ql):Has P w K mg base CX0 "want_rule" 2 Pg.yG:= (zQ F hm (F.binds (ps:=["thing"]) (by trivial)) z4Q rfl fun cdv A outer s H E hr hc=> have hu:=hr.units;(zk (z0j (ky (ju (zD H_is_rule (hr.mono (by decide)) yb (by rfl) (aN (zd 0) zh)))) (zk z0C) yX)))
theorem wH (F:Fun K "_law_same" "_law_same" vA f fd) (hm:mg "_law_same"=some (.ref f)) (H__law_whole:Has P w K mg base CX0 "_law_whole" 1 Pg.xh) (k:Nat) (Hr:Has P w K mg base CX0 "_law_same" (k+1) (Pg.xc k)):Has P w K mg base CX0 "_law_same" (k+1+1) (Pg.xc (k+1)):= (zQ F hm (F.binds (ps:=["_law_found","_law_due"]) (by trivial)) z5h rfl fun cdv A outer s H E hr hc=> have hu:=hr.units;(zf (z0j (yn zix (zd 1) zbp) (zk (ym (uU zix (zd 0) zbp))) yX) (zf (z0j (ju (z5j (by decide) z3o (by rfl) T.isinstance_ (by rfl) T.bool_ (zd 1))) (zk (ym (z1P (z5j (by decide) z3o (by rfl) T.isinstance_ (by rfl) T.bool_ (zd 0)) (z1I (uU (z3P hu) (zd 0) (zd 1)))))) yX) (zf (z0j (ju (z5j (by decide) z70 (by rfl) T.isinstance_ (by rfl) T.int_ (zd 1))) (zk (ym (z1P (zD H__law_whole (hr.mono (by omega)) yb (by rfl) (aN (zd 0) zh)) (z1I (uU (z3P hu) (zd 0) (zd 1)))))) yX) (zf (z0j (ju (z5j (by decide) z95 (by rfl) T.isinstance_ (by rfl) T.str_ (zd 1))) (zk (ym (z1P (z5j (by decide) z95 (by rfl) T.isinstance_ (by rfl) T.str_ (zd 0)) (z1I (uU (z3P hu) (zd 0) (zd 1)))))) yX) (zf (z0j (RW.rt (zel (yn (zbO hu) (z5j (by decide) vB (by rfl) T.isinstance_ (by rfl) T.tuple_ (zd 1)) (z5j (by decide) vB (by rfl) T.isinstance_ (by rfl) T.tuple_ (zd 0))) (z7C (yn (zbO hu) (z5j (by decide) z8C (by rfl) T.isinstance_ (by rfl) T.list_ (zd 1)) (z5j (by decide) z8C (by rfl) T.isinstance_ (by rfl) T.list_ (zd 0)))))) (zk (ym zgI)) yX) (zk (ym (z1P (uU (z3P hu) (zH jG (by rfl) T.len_ vz (aN (zd 0) zh) (he:=(zB ..))) (zH jG (by rfl) T.len_ vz (aN (zd 1) zh) (he:=(zB ..)))) (z1I (zH (zfm (by exact hc)) (by rfl) T.all_ zbK (aO (xN ["_law_one","_law_other"] [none,none] (by exact hc) (zex (by rfl) T.zip_ (aN (zd 0) (aN (zd 1) zh))) (fun _ _ _=>jQ 0 1 (by exact hc) zjt) (jB 0 1 (by decide) (by rfl) (by rfl)) (fun _ _ _=>vM) (fun _ _ _=>(zD Hr hr yb (by rfl) (aN (zd 0) (aN (zd 1) zh))))) zh) (he:=(xg ..)))))))))))))
theorem z3c(F:Fun K "_law_same" "_law_same" vA f fd)(hm:mg "_law_same"=some (.ref f))(H__law_whole:Has P w K mg base CX0 "_law_whole" 1 Pg.xh):Has P w K mg base CX0 "_law_same" 5 Pg.yy:= (wH T F hm H__law_whole 3 (wH T F hm H__law_whole 2 (wH T F hm H__law_whole 1 (wH T F hm H__law_whole 0 ((zcl F hm (F.binds (ps:=["_law_found","_law_due"]) (by trivial))).mono (by decide))))))
theorem z3n (F:Fun K "_law_step" "_law_step" qk f fd) (hm:mg "_law_step"=some (.ref f)) (H__law_divides:Has P w K mg base CX0 "_law_divides" 1 zR):Has P w K mg base CX0 "_law_step" 2 xf:= (zQ F hm (F.binds (ps:=["_law_rule","_law_lot"]) (by trivial)) yF rfl fun cdv A outer s H E hr hc=> have hu:=hr.units;(zf (z8a (zD H__law_divides (hr.mono (by decide)) yb (by rfl) (aN (zd 0) (aN (zd 1) zh))) (z4b 2 3 hc yF.nd)) (zf (z33 4 ["_law_gone","_law_lot","_law_by","_law_place","_law_number"] [some 3,some 1,some 2,none,none] yF.nd hc (zga (by rfl) T.enumerate_ (aN (zd 1) zh)) (fun _ _ _=>jQ 3 4 (by exact hc) zjo) (jB 3 4 (by decide) (by rfl) (by rfl)) (fun _ _ _=>vM) (fun _ _ _=>(zgy (yn zhT (zd 3) (zd 0)) (xa z8Z (zd 4) (z1r (zd 1) (zd 2))) (zd 4)))) (zf (wo 5 yF.nd (z9I zh)) (zf (z1L PassesOwn.never hc (uF (by rfl) T.range_ (aQ (zH jG (by rfl) T.len_ vz (aN (zd 1) zh) (he:=(zB ..))) zh)) (jh 6 yF.nd) (zdn 7 (zdS 7 ["_law_place","_law_column"] [some 6,none] yF.nd hc (uF (by rfl) T.range_ (aQ (zH jG (by rfl) T.len_ vz (aN (zd 1) zh) (he:=(zB ..))) zh)) (fun _ _ _=>yo (i:=1) zjJ (by rfl) (by first | exact Or.inl rfl | exact Or.inr rfl)) (yH 1 (by rfl)) (fun _ _ _=>vM) (fun _ _ _=>(z0E zhG (by rfl) T.int_ z70 (aM (uU (z3P hu) (zd 0) (zd 1)) zh) (he:=(z6v ..))))) (z0j (yn zhT (zd 6) (zd 3)) (zk (zce (xa z72 (z1r (zd 1) (zd 6)) (z1r (zd 1) (zd 2))) (zd 7) (zd 2))) yX) (zk (qH (z78 (zd 5) (zd 7)))))) (zf (z0j (yn (z3P hu) (zd 0) z1f) (zf (wo 4 yF.nd (xa qA (vR (zd 4) (je zx) jb) (vR (zd 4) jb (je zx)))) (zk (z33 5 ["_law_line"] [none] yF.nd hc (qG (zd 5)) (fun _ _ _=>yo (i:=0) ziu (by rfl) (by first | exact Or.inl rfl | exact Or.inr rfl)) (yH 0 (by rfl)) (fun _ _ _=>vM) (fun _ _ _=>(xa qA (vR (zd 0) (je zx) jb) (vR (zd 0) jb (je zx))))))) yX) (zk (ym (vL (aQ (z0E z3L (by rfl) T.tuple_ vB (aN (zd 4) zh) (he:=(zB ..))) (aQ (z0E z3L (by rfl) T.tuple_ vB (aO (xN ["_law_line"] [none] (by exact hc) (qG (zd 5)) (fun _ _ _=>yo (i:=0) ziu (by rfl) (by first | exact Or.inl rfl | exact Or.inr rfl)) (yH 0 (by rfl)) (fun _ _ _=>vM) (fun _ _ _=>(z0E z3L (by rfl) T.tuple_ vB (aN (zd 0) zh) (he:=(zB ..))))) zh) (he:=(xg ..))) zh))))))))))).tidy
theorem z7q (F:Fun K "is_lot" "is_lot" z1j f fd) (hm:mg "is_lot"=some (.ref f)) (H_has_size:Has P w K mg base CX0 "has_size" 1 Pg.vf) (H_are_wholes:Has P w K mg base CX0 "are_wholes" 2 Pg.xQ):Has P w K mg base CX0 "is_lot" 3 Pg.uz:= (zQ F hm (F.binds (ps:=["thing"]) (by trivial)) z8r rfl fun cdv A outer s H E hr hc=> have hu:=hr.units;(zf (z0j (RW.rt (zel (ky (ju (zD H_has_size (hr.mono (by decide)) yb (by rfl) (aN (zd 0) zh)))) (z7C (ky (ju (zD H_are_wholes (hr.mono (by decide)) yb (by rfl) (aN (zd 0) (aQ (zH jG (by rfl) T.len_ vz (aN (zd 0) zh) (he:=(zB ..))) zh)))))))) (zk (ym zgI)) yX) (zk (ym (z1P (uU ziW (zH (z6B (by exact hc)) (by rfl) T.min_ z11 (aN (zd 0) zh) (he:=(zB ..))) zx) (z1I (uU zgk (zH (z0N (by exact hc)) (by rfl) T.max_ kK (aN (zd 0) zh) (he:=(zB ..))) zx)))))))
theorem z3U (F:Fun K "division" "division" jw f fd) (hm:mg "division"=some (.ref f)) (T_RULES:zdj P w K mg "RULES" uM) (H_by_next:Has P w K mg base CX0 "by_next" 2 Pg.wK) (H_by_least:Has P w K mg base CX0 "by_least" 2 Pg.xU) (H_by_all:Has P w K mg base CX0 "by_all" 2 Pg.vC) (H_by_turn:Has P w K mg base CX0 "by_turn" 2 Pg.wL):Has P w K mg base CX0 "division" 3 Pg.wD:= (zQ F hm (F.binds (ps:=["rule","lot"]) (by trivial)) jy rfl fun cdv A outer s H E hr hc=> have hu:=hr.units;(zf (wo 2 jy.nd (zhf T_RULES (by rfl) (zd 0) (fun _ _=>rfl))) (zf (z8a (zdL (n:=2) 2 (jS (Has.mono H_by_next (by decide)) (jS (Has.mono H_by_least (by decide)) (jS (Has.mono H_by_all (by decide)) (jS (Has.mono H_by_turn (by decide)) zar)))) (hr.mono (by decide)) yb (aN (zd 1) zh) (he:=(zB ..))) (z4b 3 4 hc jy.nd)) (zk (ym (vL (aN (zd 3) (aO (xN ["divided","lot","by","at"] [some 4,some 1,some 3,none] (by exact hc) (uF (by rfl) T.range_ (aQ (zH jG (by rfl) T.len_ vz (aN (zd 1) zh) (he:=(zB ..))) zh)) (fun _ _ _=>yo (i:=3) zib (by rfl) (by first | exact Or.inl rfl | exact Or.inr rfl)) (yH 3 (by rfl)) (fun _ _ _=>vM) (fun _ _ _=>(zgy (yn zhT (zd 3) (zd 0)) (xa z72 (z1r (zd 1) (zd 3)) (z1r (zd 1) (zd 2))) zx))) zh))))))))
theorem za(F:Fun K "_law_steps" "_law_steps" ve f fd)(hm:mg "_law_steps"=some (.ref f))(H__law_ended:Has P w K mg base CX0 "_law_ended" 1 xi)(H__law_step:Has P w K mg base CX0 "_law_step" 2 xf)(k:Nat)(Hr:Has P w K mg base CX0 "_law_steps" (k+2) (yc k)):Has P w K mg base CX0 "_law_steps" (k+2+1) (yc (k+1)):= (zQ F hm (F.binds (ps:=["_law_rule","_law_lot","_law_known"]) (by trivial)) z2X rfl fun cdv A outer s H E hr hc=> have hu:=hr.units;(zf (z0j (yn (z6T hu) (zd 1) (zd 2)) (zf (z8q hu zx (zd 2) (zd 1)) (zk (z0j (ky (ju (zD H__law_ended (hr.mono (by omega)) yb (by rfl) (aN (zd 1) zh)))) (zk (z8q hu (xa qA zx (zD Hr hr yb (by rfl) (aN (zd 0) (aS (z1r (zD H__law_step (hr.mono (by omega)) yb (by rfl) (aN (zd 0) (aN (zd 1) zh))) zx) (aN (zd 2) zh))))) (zd 2) (zd 1))) yX))) yX) (zk (ym (zc8 hu (zd 2) (zd 1))))))
theorem z1S(F:Fun K "_law_steps" "_law_steps" ve f fd)(hm:mg "_law_steps"=some (.ref f))(H__law_ended:Has P w K mg base CX0 "_law_ended" 1 xi)(H__law_step:Has P w K mg base CX0 "_law_step" 2 xf):Has P w K mg base CX0 "_law_steps" 92 xj:= (za T F hm H__law_ended H__law_step 89 (za T F hm H__law_ended H__law_step 88 (za T F hm H__law_ended H__law_step 87 (za T F hm H__law_ended H__law_step 86 (za T F hm H__law_ended H__law_step 85 (za T F hm H__law_ended H__law_step 84 (za T F hm H__law_ended H__law_step 83 (za T F hm H__law_ended H__law_step 82 (za T F hm H__law_ended H__law_step 81 (za T F hm H__law_ended H__law_step 80 (za T F hm H__law_ended H__law_step 79 (za T F hm H__law_ended H__law_step 78 (za T F hm H__law_ended H__law_step 77 (za T F hm H__law_ended H__law_step 76 (za T F hm H__law_ended H__law_step 75 (za T F hm H__law_ended H__law_step 74 (za T F hm H__law_ended H__law_step 73 (za T F hm H__law_ended H__law_step 72 (za T F hm H__law_ended H__law_step 71 (za T F hm H__law_ended H__law_step 70 (za T F hm H__law_ended H__law_step 69 (za T F hm H__law_ended H__law_step 68 (za T F hm H__law_ended H__law_step 67 (za T F hm H__law_ended H__law_step 66 (za T F hm H__law_ended H__law_step 65 (za T F hm H__law_ended H__law_step 64 (za T F hm H__law_ended H__law_step 63 (za T F hm H__law_ended H__law_step 62 (za T F hm H__law_ended H__law_step 61 (za T F hm H__law_ended H__law_step 60 (za T F hm H__law_ended H__law_step 59 (za T F hm H__law_ended H__law_step 58 (za T F hm H__law_ended H__law_step 57 (za T F hm H__law_ended H__law_step 56 (za T F hm H__law_ended H__law_step 55 (za T F hm H__law_ended H__law_step 54 (za T F hm H__law_ended H__law_step 53 (za T F hm H__law_ended H__law_step 52 (za T F hm H__law_ended H__law_step 51 (za T F hm H__law_ended H__law_step 50 (za T F hm H__law_ended H__law_step 49 (za T F hm H__law_ended H__law_step 48 (za T F hm H__law_ended H__law_step 47 (za T F hm H__law_ended H__law_step 46 (za T F hm H__law_ended H__law_step 45 (za T F hm H__law_ended H__law_step 44 (za T F hm H__law_ended H__law_step 43 (za T F hm H__law_ended H__law_step 42 (za T F hm H__law_ended H__law_step 41 (za T F hm H__law_ended H__law_step 40 (za T F hm H__law_ended H__law_step 39 (za T F hm H__law_ended H__law_step 38 (za T F hm H__law_ended H__law_step 37 (za T F hm H__law_ended H__law_step 36 (za T F hm H__law_ended H__law_step 35 (za T F hm H__law_ended H__law_step 34 (za T F hm H__law_ended H__law_step 33 (za T F hm H__law_ended H__law_step 32 (za T F hm H__law_ended H__law_step 31 (za T F hm H__law_ended H__law_step 30 (za T F hm H__law_ended H__law_step 29 (za T F hm H__law_ended H__law_step 28 (za T F hm H__law_ended H__law_step 27 (za T F hm H__law_ended H__law_step 26 (za T F hm H__law_ended H__law_step 25 (za T F hm H__law_ended H__law_step 24 (za T F hm H__law_ended H__law_step 23 (za T F hm H__law_ended H__law_step 22 (za T F hm H__law_ended H__law_step 21 (za T F hm H__law_ended H__law_step 20 (za T F hm H__law_ended H__law_step 19 (za T F hm H__law_ended H__law_step 18 (za T F hm H__law_ended H__law_step 17 (za T F hm H__law_ended H__law_step 16 (za T F hm H__law_ended H__law_step 15 (za T F hm H__law_ended H__law_step 14 (za T F hm H__law_ended H__law_step 13 (za T F hm H__law_ended H__law_step 12 (za T F hm H__law_ended H__law_step 11 (za T F hm H__law_ended H__law_step 10 (za T F hm H__law_ended H__law_step 9 (za T F hm H__law_ended H__law_step 8 (za T F hm H__law_ended H__law_step 7 (za T F hm H__law_ended H__law_step 6 (za T F hm H__law_ended H__law_step 5 (za T F hm H__law_ended H__law_step 4 (za T F hm H__law_ended H__law_step 3 (za T F hm H__law_ended H__law_step 2 (za T F hm H__law_ended H__law_step 1 (za T F hm H__law_ended H__law_step 0 ((zcl F hm (F.binds (ps:=["_law_rule","_law_lot","_law_known"]) (by trivial))).mono (by decide))))))))))))))))))))))))))))))))))))))))))))))))))))))))))))))))))))))))))))))))))))))))))))
theorem z5a(F:Fun K "want_lot" "want_lot" jj f fd)(hm:mg "want_lot"=some (.ref f))(H_is_lot:Has P w K mg base CX0 "is_lot" 3 Pg.uz):Has P w K mg base CX0 "want_lot" 4 Pg.yS:= (zQ F hm (F.binds (ps:=["thing"]) (by trivial)) z5s rfl fun cdv A outer s H E hr hc=> have hu:=hr.units;(zk (z0j (ky (ju (zD H_is_lot (hr.mono (by decide)) yb (by rfl) (aN (zd 0) zh)))) (zk z0C) yX)))
theorem z1X (F:Fun K "_law_least" "_law_least" uO f fd) (hm:mg "_law_least"=some (.ref f)) (H__law_steps:Has P w K mg base CX0 "_law_steps" 92 xj):Has P w K mg base CX0 "_law_least" 93 xY:= (zQ F hm (F.binds (ps:=["_law_rule","_law_size","_law_steps_here"]) (by trivial)) ye rfl fun cdv A outer s H E hr hc=> have hu:=hr.units;(zf (wo 3 ye.nd zca) (zf (z1L PassesOwn.never hc (z6S (by rfl) T.range_ (aK zx (aK zx zh))) (jh 4 ye.nd) (zf (wo 5 ye.nd (z35 (aT (vL zh) zh))) (zf (z1L PassesOwn.never hc (uF (by rfl) T.range_ (aN (zd 1) zh)) (jh 6 ye.nd) (zf (wo 7 ye.nd (z9I zh)) (zf (z1L PassesOwn.never hc (qG (zd 5)) (jh 8 ye.nd) (zk (qH (zb8 (zd 7) (xN ["_law_begun","_law_one"] [some 8,none] (by exact hc) (uF (by rfl) T.range_ (aB (xa qA (zd 4) zx) zh)) (fun _ _ _=>yo (i:=1) zj5 (by rfl) (by first | exact Or.inl rfl | exact Or.inr rfl)) (yH 1 (by rfl)) (fun _ _ _=>vM) (fun _ _ _=>(xa qA (zd 0) (vL (aN (zd 1) zh))))))))) (zk (wo 5 ye.nd (zd 7)))))) (zk (z1L PassesOwn.never hc (qG (zd 5)) (jh 9 ye.nd) (zk (z0j (RW.rt (w_and (yn (z3P hu) (zH (z0N (by exact hc)) (by rfl) T.max_ kK (aN (zd 9) zh) (he:=(zB ..))) (zd 4)) (z90 (yn (z3P hu) (zD H__law_steps (hr.mono (by decide)) yb (by rfl) (aN (zd 0) (aN (zd 9) (aN (zd 3) zh)))) (zd 2))))) (zk (ym (zd 9))) yX))))))) (zk (ym zbp)))))
theorem z3i (F:Fun K "has_ended" "has_ended" qm f fd) (hm:mg "has_ended"=some (.ref f)) (H_want_lot:Has P w K mg base CX0 "want_lot" 4 Pg.yS):Has P w K mg base CX0 "has_ended" 5 Pg.yw:= (zQ F hm (F.binds (ps:=["lot"]) (by trivial)) z4S rfl fun cdv A outer s H E hr hc=> have hu:=hr.units;(zf (qH (zD H_want_lot (hr.mono (by decide)) yb (by rfl) (aN (zd 0) zh))) (zk (ym (uU (z3P hu) (zH jG (by rfl) T.len_ vz (aO (xN ["number"] [none] (by exact hc) (qG (zd 0)) (fun _ _ _=>yo (i:=0) zeV (by rfl) (by first | exact Or.inl rfl | exact Or.inr rfl)) (yH 0 (by rfl)) (fun _ _ _=>vK (yn (zbO hu) (zd 0) zx)) (fun _ _ _=>(zd 0))) zh) (he:=(xg ..))) zx)))))
theorem qM(F:Fun K "want_rule_and_lot" "want_rule_and_lot" xy f fd)(hm:mg "want_rule_and_lot"=some (.ref f))(H_want_rule:Has P w K mg base CX0 "want_rule" 2 Pg.yG)(H_want_lot:Has P w K mg base CX0 "want_lot" 4 Pg.yS):Has P w K mg base CX0 "want_rule_and_lot" 5 Pg.zI:= (zQ F hm (F.binds (ps:=["rule","lot"]) (by trivial)) qS rfl fun cdv A outer s H E hr hc=> have hu:=hr.units;(zf (qH (zD H_want_rule (hr.mono (by decide)) yb (by rfl) (aN (zd 0) zh))) (zk (qH (zD H_want_lot (hr.mono (by decide)) yb (by rfl) (aN (zd 1) zh))))))
theorem z3N(F:Fun K "want_step" "want_step" qK f fd)(hm:mg "want_step"=some (.ref f))(H_has_ended:Has P w K mg base CX0 "has_ended" 5 Pg.yw)(H_want_rule_and_lot:Has P w K mg base CX0 "want_rule_and_lot" 5 Pg.zI):Has P w K mg base CX0 "want_step" 6 Pg.xP:= (zQ F hm (F.binds (ps:=["rule","lot"]) (by trivial)) z52 rfl fun cdv A outer s H E hr hc=> have hu:=hr.units;(zf (qH (zD H_want_rule_and_lot (hr.mono (by decide)) yb (by rfl) (aN (zd 0) (aN (zd 1) zh)))) (zk (z0j (ju (zD H_has_ended (hr.mono (by decide)) yb (by rfl) (aN (zd 1) zh))) (zk z0C) yX))))
theorem zbt (F:Fun K "step" "step" z5x f fd) (hm:mg "step"=some (.ref f)) (H_moved:Has P w K mg base CX0 "moved" 1 Pg.jk) (H_division:Has P w K mg base CX0 "division" 3 Pg.wD) (H_want_step:Has P w K mg base CX0 "want_step" 6 Pg.xP):Has P w K mg base CX0 "step" 7 Pg.M_step:= (zQ F hm (F.binds (ps:=["rule","lot"]) (by trivial)) z5F rfl fun cdv A outer s H E hr hc=> have hu:=hr.units;(zf (qH (zD H_want_step (hr.mono (by decide)) yb (by rfl) (aN (zd 0) (aN (zd 1) zh)))) (zf (z8a (zD H_division (hr.mono (by decide)) yb (by rfl) (aN (zd 0) (aN (zd 1) zh))) (z4b 2 3 hc z5F.nd)) (zf (wo 4 z5F.nd (z0E z3L (by rfl) T.tuple_ vB (aO (xN ["lot","by","number","quotient"] [some 1,some 2,none,none] (by exact hc) (zex (by rfl) T.zip_ (aN (zd 1) (aN (zd 3) zh))) (fun _ _ _=>jQ 2 3 (by exact hc) zgW) (jB 2 3 (by decide) (by rfl) (by rfl)) (fun _ _ _=>vM) (fun _ _ _=>(xa zfx (zd 2) (xa z2l (zd 3) (z1r (zd 0) (zd 1)))))) zh) (he:=(xg ..)))) (zk (ym (zD H_moved (hr.mono (by decide)) yb (by rfl) (aN (zd 0) (aN (zd 4) zh)))))))))
theorem z09 (F:Fun K "steps_of_all" "steps_of_all" vo f fd) (hm:mg "steps_of_all"=some (.ref f)) (H_tuples_between:Has P w K mg base CX0 "tuples_between" 1 Pg.zY) (H_has_ended:Has P w K mg base CX0 "has_ended" 5 Pg.yw) (H_step:Has P w K mg base CX0 "step" 7 Pg.M_step):Has P w K mg base CX0 "steps_of_all" 8 Pg.yx:= (zQ F hm (F.binds (ps:=["rule","size","most"]) (by trivial)) yg rfl fun cdv A outer s H E hr hc=> have hu:=hr.units;(zf (wo 3 yg.nd zca) (zf (z1L PassesOwn.never hc (qG (vR (zD H_tuples_between (hr.mono (by decide)) yb (by rfl) (aN (zd 1) (aK zx (aN (zd 2) zh)))) (je zx) jb)) (jh 4 yg.nd) (zf (wo 5 yg.nd (z9I (aN (zd 4) zh))) (zf (zdf PassesOwn.never (RW.rt (w_and (yn (z6T hu) (z1r (zd 5) (zaJ zx)) (zd 3)) (z90 (ky (ju (zD H_has_ended (hr.mono (by decide)) yb (by rfl) (aS (z1r (zd 5) (zaJ zx)) zh) (he:=(z6N ..)))))))) (zk (qH (z78 (zd 5) (zD H_step (hr.mono (by decide)) yb (by rfl) (aN (zd 0) (aS (z1r (zd 5) (zaJ zx)) zh))))))) (zf (wo 6 yg.nd (zd2 hu (zd 3) (z1r (zd 5) (zaJ zx)) zx)) (zk (z1L PassesOwn.never hc (qG (zfs (zd 5))) (jh 7 yg.nd) (zf (z8q hu (zd 6) (zd 3) (zd 7)) (zk (zi6 6 yg.nd zx))))))))) (zk (ym (zd 3))))))
theorem z1x (F:Fun K "least_with" "least_with" uG f fd) (hm:mg "least_with"=some (.ref f)) (H_want_number:Has P w K mg base CX0 "want_number" 2 Pg.xo) (H_want_size:Has P w K mg base CX0 "want_size" 2 Pg.wy) (H_want_rule:Has P w K mg base CX0 "want_rule" 2 Pg.yG) (H_steps_of_all:Has P w K mg base CX0 "steps_of_all" 8 Pg.yx):Has P w K mg base CX0 "least_with" 9 Pg.zE:= (zQ F hm (F.binds (ps:=["rule","size","steps"]) (by trivial)) uE rfl fun cdv A outer s H E hr hc=> have hu:=hr.units;(zf (qH (zD H_want_rule (hr.mono (by decide)) yb (by rfl) (aN (zd 0) zh))) (zf (qH (zD H_want_size (hr.mono (by decide)) yb (by rfl) (aN (zd 1) (aN (zem (by rfl) T.MOST_SIZE_LED_) zh)))) (zf (qH (zD H_want_number (hr.mono (by decide)) yb (by rfl) (aN (zd 2) (aK zx (aN (zem (by rfl) T.MOST_STEPS_) zh))))) (zf (wo 3 uE.nd (zD H_steps_of_all (hr.mono (by decide)) yb (by rfl) (aN (zd 0) (aN (zd 1) (aN (zem (by rfl) T.MOST_NUMBER_) zh))))) (zf (z33 4 ["steps","many","lot"] [some 2,some 3,none] uE.nd hc (zhe (zd 3)) (fun _ _ _=>yo (i:=2) zin (by rfl) (by first | exact Or.inl rfl | exact Or.inr rfl)) (yH 2 (by rfl)) (fun _ _ _=>vK (yn (z3P hu) (zc8 hu (zd 1) (zd 2)) (zd 0))) (fun _ _ _=>(vL (aQ (zH (z0N (by exact hc)) (by rfl) T.max_ kK (aN (zd 2) zh) (he:=(zB ..))) (aN (zd 2) zh))))) (zk (ym (zgy (zi4 (zd 4)) (z1r (zH (zfX (by exact hc) hu) (by rfl) T.min_ z11 (aN (zd 4) zh) (he:=(zB ..))) zx) zbp)))))))))
theorem z7k (F:Fun K "law" "law" z25 f fd) (hm:mg "law"=some (.ref f)) (H__law_cell_at:Has P w K mg base CX0 "_law_cell_at" 1 Pg.yR) (H__law_pot:Has P w K mg base CX0 "_law_pot" 1 Pg.vg) (H__law_take:Has P w K mg base CX0 "_law_take" 1 Pg.yu) (H__law_rules:Has P w K mg base CX0 "_law_rules" 1 Pg.xk) (H__law_same:Has P w K mg base CX0 "_law_same" 5 Pg.yy) (H__law_least:Has P w K mg base CX0 "_law_least" 93 xY) (H_least_with:Has P w K mg base CX0 "least_with" 9 Pg.zE):z2e P w K mg base CX0 94 f fd ["_law_script"] (zcM ⟨mg,K⟩ zdJ):= zeX F z0W rfl fun cdv A outer s H E hr hc=>by
  have hu:=hr.units;refine zf ?_ ?_
  ·refine z1L PassesOwn.never hc (uF (by rfl) T.range_ (aQ (zH (zgt (by exact hc)) (by rfl) T.max_ kK (aK zx (aQ (zH (zfD (by exact hc)) (by rfl) T.min_ z11 (aQ (zH jG (by rfl) T.len_ vz (aN (zd 0) zh) (he:=(zB ..))) (aK zx zh)) (he:=(qh ..))) zh)) (he:=(z2v ..))) zh)) (jh 1 z0W.nd) ?_;refine zf ?_ ?_;·exact (wo 2 z0W.nd (zD H__law_pot (hr.mono (by decide)) yb (by rfl) (aQ (zD H__law_cell_at (hr.mono (by decide)) yb (by rfl) (aN (zd 0) (aN (zd 1) zh))) zh) (he:=(qh ..))))
   refine zf ?_ ?_;·exact (wo 3 z0W.nd (z1r (zdb H__law_rules (hr.mono (by decide)) yb (by rfl)) (zD H__law_take (hr.mono (by decide)) yb (by rfl) (aN (zd 2) (aK zx zh)))))
   refine zf ?_ ?_;·exact (wo 4 z0W.nd (xa qA zx (zD H__law_take (hr.mono (by decide)) yb (by rfl) (aN (zd 2) (aK zx zh)))))
   refine zf ?_ ?_;·exact (wo 5 z0W.nd (zD H__law_take (hr.mono (by decide)) yb (by rfl) (aN (zd 2) (aS (z1r (z35 (aK zx (aK zx zh))) (xa z72 (zD H__law_take (hr.mono (by decide)) yb (by rfl) (aN (zd 2) (aK zx zh))) zx)) zh))))
   refine zf ?_ ?_;·exact (wo 6 z0W.nd (zD H__law_least (hr.mono (by decide)) yb (by rfl) (aN (zd 3) (aN (zd 4) (aN (zd 5) zh)))))
   refine zk ?_;refine z0j (RW.rt (zel (ky (ju (zD H__law_same (hr.mono (by decide)) yb (by rfl) (aQ (zD H_least_with (hr.mono (by decide)) yb (by rfl) (aN (zd 3) (aN (zd 4) (aN (zd 5) zh)))) (aN (zd 6) zh)) (he:=(qh ..))))) (z7C (ky (ju (zD H__law_same (hr.mono (by decide)) yb (by rfl) (aQ (zD H_least_with (hr.mono (by decide)) yb (by rfl) (aN (zd 3) (aN (zd 4) (aN (zd 5) zh)))) (aN (zd 6) zh)) (he:=(qh ..)))))))) ?_ ?_
   ·refine zk ?_;exact (ym zgI)
   ·exact yX
  refine zk ?_;exact (ym (z1P (uU (z3P hu) (zD H_least_with (hr.mono (by decide)) yb (by rfl) (aK z1f (aK zx (aK zx zh)))) (vL (aK zx (aK zx zh)))) (z1I (uU (z3P hu) (zD H_least_with (hr.mono (by decide)) yb (by rfl) (aK z1f (aK zx (aK zx zh)))) (vL (aK zx (aK zx (aK zx zh))))))))
end
end K72
set_option maxRecDepth 1000000
set_option maxHeartbeats 4000000
namespace Pm
abbrev Tb:=List (List Int)
def dot(r v:List Int):Int:=(List.zipWith (fun a b=>a*b) r v).sum
def mv(T:Tb)(v:List Int):List Int:=T.map fun r=>dot r v
def zcc(T:Tb):Tb:=(List.range T.length).map fun j=>T.map fun r=>r.getD j 0
def zdR(A B:Tb):Tb:=zcc ((zcc B).map (mv A))
def ziz(T:Tb)(i j:Nat):Tb:=(T.take i++T.drop (i+1)).map fun r=>r.take j++r.drop (j+1)
def sg(i j:Nat):Int:=if (i+j) % 2=0 then 1 else -1
def det:Nat->Tb->Int
 | 0,_=>0 | k+1,T=>if T.length=1 then (T.getD 0 []).getD 0 0 else ((List.range T.length).map fun j=>sg 0 j*(T.getD 0 []).getD j 0*det k (ziz T 0 j)).sum
def zgD(T:Tb):Tb:=(List.range T.length).map fun i=>(List.range T.length).map fun j=>det 4 T*sg i j*det 4 (ziz T j i)
def one(n:Nat):Tb:=(List.range n).map fun i=>(List.range n).map fun j=>if i=j then 1 else 0
structure Tab(n:Nat)(T:Tb):Prop where
 len:T.length=n
 row:∀ r∈T,r.length=n
theorem zcD{α:Type}{l:List α}(h:l.length=2):∃ a b,l=[a,b]:=by match l,h with | [a,b],_=>exact ⟨a,b,rfl⟩
theorem zax{α:Type}{l:List α}(h:l.length=3):∃ a b c,l=[a,b,c]:=by match l,h with | [a,b,c],_=>exact ⟨a,b,c,rfl⟩
theorem z8O{α:Type}{l:List α}(h:l.length=4):∃ a b c d,l=[a,b,c,d]:=by match l,h with | [a,b,c,d],_=>exact ⟨a,b,c,d,rfl⟩
theorem zgV{T:Tb}(h:Tab 2 T):∃ a b c d,T=[[a,b],[c,d]]:=by
 obtain ⟨r,q,rfl⟩:=zcD h.len;obtain ⟨a,b,rfl⟩:=zcD (h.row r (by simp));obtain ⟨c,d,rfl⟩:=zcD (h.row q (by simp));exact ⟨a,b,c,d,rfl⟩
theorem zhO{T:Tb}(h:Tab 3 T):∃ a b c d e f g i j,T=[[a,b,c],[d,e,f],[g,i,j]]:=by
 obtain ⟨r,q,p,rfl⟩:=zax h.len;obtain ⟨a,b,c,rfl⟩:=zax (h.row r (by simp));obtain ⟨d,e,f,rfl⟩:=zax (h.row q (by simp));obtain ⟨g,i,j,rfl⟩:=zax (h.row p (by simp));exact ⟨a,b,c,d,e,f,g,i,j,rfl⟩
theorem zht{T:Tb}(h:Tab 4 T):∃ a b c d e f g i j k l m n o p q,T=[[a,b,c,d],[e,f,g,i],[j,k,l,m],[n,o,p,q]]:=by
 obtain ⟨r1,r2,r3,r4,rfl⟩:=z8O h.len;obtain ⟨a,b,c,d,rfl⟩:=z8O (h.row r1 (by simp));obtain ⟨e,f,g,i,rfl⟩:=z8O (h.row r2 (by simp));obtain ⟨j,k,l,m,rfl⟩:=z8O (h.row r3 (by simp));obtain ⟨n,o,p,q,rfl⟩:=z8O (h.row r4 (by simp));exact ⟨a,b,c,d,e,f,g,i,j,k,l,m,n,o,p,q,rfl⟩
theorem zi9(a b c d A B C D:Int):zdR [[a,b],[c,d]] [[A,B],[C,D]]=[[a*A+(b*C+0),a*B+(b*D+0)],[c*A+(d*C+0),c*B+(d*D+0)]]:=rfl
theorem zhy(a b c d e f g i j A B C D E F G I J:Int):zdR [[a,b,c],[d,e,f],[g,i,j]] [[A,B,C],[D,E,F],[G,I,J]]= [[a*A+(b*D+(c*G+0)),a*B+(b*E+(c*I+0)),a*C+(b*F+(c*J+0))],[d*A+(e*D+(f*G+0)),d*B+(e*E+(f*I+0)),d*C+(e*F+(f*J+0))],[g*A+(i*D+(j*G+0)),g*B+(i*E+(j*I+0)),g*C+(i*F+(j*J+0))]]:=rfl
theorem zhF(a b c d e f g i j k l m n o p q A B C D E F G I J K L M N Oo P Q:Int):zdR [[a,b,c,d],[e,f,g,i],[j,k,l,m],[n,o,p,q]] [[A,B,C,D],[E,F,G,I],[J,K,L,M],[N,Oo,P,Q]]= [[a*A+(b*E+(c*J+(d*N+0))),a*B+(b*F+(c*K+(d*Oo+0))),a*C+(b*G+(c*L+(d*P+0))),a*D+(b*I+(c*M+(d*Q+0)))], [e*A+(f*E+(g*J+(i*N+0))),e*B+(f*F+(g*K+(i*Oo+0))),e*C+(f*G+(g*L+(i*P+0))),e*D+(f*I+(g*M+(i*Q+0)))], [j*A+(k*E+(l*J+(m*N+0))),j*B+(k*F+(l*K+(m*Oo+0))),j*C+(k*G+(l*L+(m*P+0))),j*D+(k*I+(l*M+(m*Q+0)))], [n*A+(o*E+(p*J+(q*N+0))),n*B+(o*F+(p*K+(q*Oo+0))),n*C+(o*G+(p*L+(q*P+0))),n*D+(o*I+(p*M+(q*Q+0)))]]:=rfl
def d2(a b c d:Int):Int:=a*d-b*c
def d3(a b c d e f g h i:Int):Int:=a*d2 e f h i-b*d2 d f g i+c*d2 d e g h
def d4(a b c d e f g h i j k l m n o p:Int):Int:=a*d3 f g h j k l n o p-b*d3 e g h i k l m o p+c*d3 e f h i j l m n p-d*d3 e f g i j k m n o
theorem assoc{n:Nat}{A B C:Tb}(hn:n=2\/n=3\/n=4)(ha:Tab n A)(hb:Tab n B)(hc:Tab n C):zdR (zdR A B) C=zdR A (zdR B C):=by
 rcases hn with rfl | rfl | rfl
 ·obtain ⟨a,b,c,d,rfl⟩:=zgV ha;obtain ⟨e,f,g,h,rfl⟩:=zgV hb;obtain ⟨i,j,k,l,rfl⟩:=zgV hc;simp only [zi9,List.cons.injEq,and_true];and_intros<;>grind
 ·obtain ⟨a1,a2,a3,a4,a5,a6,a7,a8,a9,rfl⟩:=zhO ha;obtain ⟨b1,b2,b3,b4,b5,b6,b7,b8,b9,rfl⟩:=zhO hb;obtain ⟨c1,c2,c3,c4,c5,c6,c7,c8,c9,rfl⟩:=zhO hc;simp only [zhy,List.cons.injEq,and_true];and_intros<;>grind
 ·obtain ⟨a1,a2,a3,a4,a5,a6,a7,a8,a9,a10,a11,a12,a13,a14,a15,a16,rfl⟩:=zht ha;obtain ⟨b1,b2,b3,b4,b5,b6,b7,b8,b9,b10,b11,b12,b13,b14,b15,b16,rfl⟩:=zht hb;obtain ⟨c1,c2,c3,c4,c5,c6,c7,c8,c9,c10,c11,c12,c13,c14,c15,c16,rfl⟩:=zht hc;simp only [zhF,List.cons.injEq,and_true];and_intros<;>grind
end Pm
set_option maxRecDepth 1000000
set_option maxHeartbeats 40000000
namespace Pm
end Pm
set_option maxRecDepth 1000000
set_option maxHeartbeats 40000000
namespace Pm
abbrev Sz(n:Nat):Prop:=n=2\/n=3\/n=4
def zit(A:Tb):Prop:=det 4 A=1\/det 4 A=-1
open L2 (maxL minL maxL_ge maxL_mem minL_le minL_mem)
inductive Rl where | nx | le | al | tu deriving DecidableEq
structure Lot(n:Nat)(v:List Int):Prop where
 sz:Sz n
 len:v.length=n
 nn:∀ x∈v,0<=x
 pos:∃ x∈v,0<x
def nz(v:List Int):List Int:=v.filter fun x=>decide (x≠0)
def ended(v:List Int):Bool:=decide ((nz v).length=1)
def gp(v:List Int):Nat:=v.idxOf (maxL v)
def others(v:List Int):List Int:=v.take (gp v)++[0]++v.drop (gp v+1)
def lp(v:List Int):Nat:=v.idxOf (minL (nz v))
def xt(v:List Int)(p:Nat):List Nat:=(List.range v.length).filter fun i=>decide (i≠p)
def deal:Rl->List Int->Nat×List Nat
 | .nx,v=>((others v).idxOf (maxL (others v)),[gp v]) | .le,v=>(lp (others v),[gp v]) | .al,v=>(lp v,xt v (lp v)) | .tu,v=>(0,if v.getD 0 0=0 then [] else xt v 0)
def zo(v:List Int)(d:Nat×List Nat):List Int:=(List.range v.length).map fun i=>if i∈d.2 then v.getD i 0 / v.getD d.1 0 else 0
def rot{α:Type}(xs:List α):List α:=xs.drop 1++xs.take 1
def mvd{α:Type}(r:Rl)(xs:List α):List α:=if r=.tu then rot xs else xs
def left(v qs:List Int)(b:Nat):List Int:=List.zipWith (fun x q=>x-q*v.getD b 0) v qs
def stp(r:Rl)(v:List Int):List Int:=mvd r (left v (zo v (deal r v)) (deal r v).1)
def yE(b:Nat)(line:List Int)(q:Int):List Int:=line.take b++[line.getD b 0+q]++line.drop (b+1)
def zgN(r:Rl)(b:Nat)(qs:List Int):Tb:=List.zipWith (fun line q=>mvd r (yE b line q)) (one qs.length) qs
def zdW(r:Rl)(v:List Int):Tb:=zgN r (deal r v).1 (zo v (deal r v))
@[simp] theorem zhD:dot [] []=0:=rfl
@[simp] theorem dot_cons (a b:Int) (r v:List Int):dot (a::r) (b::v)=a*b+dot r v:=rfl
theorem z9r{α:Type}{x:α}{xs:List α}:x∈rot xs ↔ x∈xs:=by cases xs with
 | nil=>simp [rot] | cons a xs=>simp [rot,or_comm]
theorem z5N{α:Type}{x:α}{xs:List α}{l:Rl}:x∈mvd l xs ↔ x∈xs:=by
 unfold mvd;split;·exact z9r
 ·rfl
theorem zcJ{α:Type}(xs:List α):(rot xs).length=xs.length:=by cases xs<;>simp [rot]
theorem zed{α:Type}{l:Rl}(xs:List α):(mvd l xs).length=xs.length:=by
 unfold mvd;split;·exact zcJ xs
 ·rfl
structure Qs(v:List Int)(b:Nat)(qs:List Int):Prop where
 lt:b<v.length
 len:qs.length=v.length
 zero:qs[b]? = some 0
 nn:∀ q∈qs,0<=q
 fit:∀ i,0<=v.getD i 0-qs.getD i 0*v.getD b 0
 pos:(∀ q∈qs,q=0)\/0<v.getD b 0
theorem zbf{α:Type}{v:List α}{b:Nat}(h:b<v.length):∃ v1 z v2,v=v1++z::v2/\v1.length=b:= ⟨v.take b,v[b],v.drop (b+1),by rw [<- List.drop_eq_getElem_cons h,List.take_append_drop],by simp;omega⟩
theorem getD_at{α:Type}{v1 v2:List α}{z d:α}{b:Nat}(h:v1.length=b):(v1++z::v2).getD b d=z:=by
 subst h;simp [List.getD]
theorem va{v qs:List Int}{b:Nat}(h:qs.length=v.length):(left v qs b).length=v.length:=by simp [left,h]
theorem zd9{v qs:List Int}{b:Nat}(h:Qs v b qs):∀ x∈left v qs b,0<=x:=fun x hx=>by
 obtain ⟨i,hi,e⟩:=List.mem_iff_getElem.mp hx;have:=h.fit i;have hl:=va (b:=b) h.len;have h1:i<v.length:=by omega
 have h2:i<qs.length:=by rw [h.len];exact h1
 simp only [List.getD,List.getElem?_eq_getElem h1,List.getElem?_eq_getElem h2,Option.getD_some] at this;rw [<- e];simpa [left,List.getD] using this
theorem z3V{α:Type}(xs:List α):mvd .tu xs=rot xs:=by simp [mvd]
theorem z2j{α:Type}{r:Rl}(h:r≠.tu)(xs:List α):mvd r xs=xs:=by simp [mvd,h]
theorem ub{v:List Int}{x:Int}:x∈nz v ↔ x∈v/\x≠0:=by simp [nz]
theorem getD_mem{v:List Int}{i:Nat}(h:i<v.length):v.getD i 0∈v:=by simp [List.getD,List.getElem?_eq_getElem h]
theorem wz{v:List Int}(h:∀ x∈v,0<=x)(i:Nat):0<=v.getD i 0:=by
 by_cases hi:i<v.length;·exact h _ (getD_mem hi)
 ·simp [List.getD,List.getElem?_eq_none (Nat.not_lt.mp hi)]
theorem z4B{v:List Int}{x:Int}(h:x∈v):v.idxOf x<v.length/\v.getD (v.idxOf x) 0=x:=by
 have hl:=List.idxOf_lt_length_of_mem h;exact ⟨hl,by simp [List.getD,List.getElem?_eq_getElem hl,List.getElem_idxOf hl]⟩
theorem Lot.ne{n:Nat}{v:List Int}(h:Lot n v):v≠[]:=fun z=>by
 obtain ⟨x,hx,_⟩:=h.pos;rw [z] at hx;simp at hx
theorem Lot.nzne{n:Nat}{v:List Int}(h:Lot n v):nz v≠[]:=fun z=>by
 obtain ⟨x,hx,h0⟩:=h.pos;have:x∈nz v:=ub.mpr ⟨hx,by omega⟩;rw [z] at this;simp at this
theorem z5L{v:List Int}(h:nz v≠[]):lp v<v.length/\v.getD (lp v) 0=minL (nz v)/\minL (nz v)≠0:=by
 have m:=ub.mp (minL_mem h);have:=z4B m.1;exact ⟨this.1,this.2,m.2⟩
theorem z7A{v:List Int}(h:v≠[]):gp v<v.length/\v.getD (gp v) 0=maxL v:=z4B (maxL_mem h)
theorem others_eq{v:List Int}(h:v≠[]):others v=v.set (gp v) 0:=by
 have:=(z7A h).1;unfold others;rw [List.set_eq_take_append_cons_drop,if_pos this];simp
theorem vq{v:List Int}(h:v≠[])(i:Nat):(others v).getD i 0=if i=gp v then 0 else v.getD i 0:=by
 have hg:=(z7A h).1;rw [others_eq h];by_cases e:i=gp v
 ·subst e;simp [List.getD,hg]
 ·simp [List.getD,e,List.getElem?_set_ne (Ne.symm e)]
theorem xX{v:List Int}(h:v≠[]):(others v).length=v.length:=by rw [others_eq h];simp
theorem z9t:∀ {v:List Int}{p:Nat},(nz v).length≠1->v.getD p 0≠0->∃ j,j≠p/\j<v.length/\v.getD j 0≠0:=by
 intro v p he hp;have hpl:p<v.length:=by
  apply Classical.byContradiction;intro z;exact hp (by simp [List.getD,List.getElem?_eq_none (Nat.not_lt.mp z)])
 apply Classical.byContradiction;intro hn;apply he;obtain ⟨v1,z,v2,rfl,e1⟩:=zbf hpl;rw [getD_at e1] at hp;have f1:∀ x∈v1,x=0:=fun x hx=>by
  obtain ⟨j,hj,rfl⟩:=List.mem_iff_getElem.mp hx;apply Classical.byContradiction;intro z0;exact hn ⟨j,by omega,by simp;omega,by simpa [List.getD,List.getElem?_append_left hj,List.getElem?_eq_getElem hj] using z0⟩
 have f2:∀ x∈v2,x=0:=fun x hx=>by
  obtain ⟨j,hj,rfl⟩:=List.mem_iff_getElem.mp hx;apply Classical.byContradiction;intro z0;refine hn ⟨v1.length+1+j,by omega,by simp;omega,?_⟩;have:(v1++z::v2)[v1.length+1+j]? = some v2[j]:=by rw [List.getElem?_append_right (by omega),show v1.length+1+j-v1.length=j+1 by omega,List.getElem?_cons_succ,List.getElem?_eq_getElem hj]
  rw [List.getD,this];simpa using z0
 have g1:v1.filter (fun x=>decide (x≠0))=[]:=List.filter_eq_nil_iff.mpr fun x hx=>by simp [f1 x hx]
 have g2:v2.filter (fun x=>decide (x≠0))=[]:=List.filter_eq_nil_iff.mpr fun x hx=>by simp [f2 x hx]
 simp only [nz,List.filter_append,List.filter_cons,g1,g2];simp [hp]
theorem z2C{v:List Int}(he:ended v=false):(nz v).length≠1:=by simpa [ended] using he
structure Dl(v:List Int)(b:Nat)(dv:List Nat):Prop where
 lt:b<v.length
 nb:b∉dv
 pos:dv=[]\/0<v.getD b 0
theorem uk{v:List Int}{p i:Nat}:i∈xt v p ↔ i<v.length/\i≠p:=by simp [xt]
theorem z5p{n:Nat}{v:List Int}(h:Lot n v){b:Nat}(hb:b<v.length)(h0:(others v).getD b 0≠0):Dl v b [gp v]/\0<v.getD b 0/\v.getD b 0<=v.getD (gp v) 0:=by
 have hg:=z7A h.ne;rw [vq h.ne] at h0;have ne:b≠gp v:=fun e=>by rw [if_pos e] at h0;exact h0 rfl
 rw [if_neg ne] at h0;have p0:0<v.getD b 0:=by have:=wz h.nn b;omega
 refine ⟨⟨hb,by simpa using ne,.inr p0⟩,p0,?_⟩;rw [hg.2];exact maxL_ge _ (getD_mem hb)
theorem jI {n:Nat} {v:List Int} (h:Lot n v) (he:ended v=false):nz (others v)≠[]:=by
 have hg:=z7A h.ne;have mx:0<maxL v:=by
  obtain ⟨x,hx,h0⟩:=h.pos;have:=maxL_ge (xs:=v) x hx;omega
 obtain ⟨j,h1,h2,h3⟩:=z9t (p:=gp v) (z2C he) (by rw [hg.2];omega);intro z;have:v.getD j 0∈nz (others v):=ub.mpr ⟨by
  have:=getD_mem (v:=others v) (i:=j) (by rw [xX h.ne];exact h2);rw [vq h.ne,if_neg h1] at this;exact this,h3⟩;rw [z] at this;simp at this
theorem jo{n:Nat}{v:List Int}(r:Rl)(h:Lot n v)(he:ended v=false):Dl v (deal r v).1 (deal r v).2:=by cases r with
 | nx=>
  have ne:others v≠[]:=fun z=>by
   have:=xX h.ne;rw [z] at this;exact h.ne (List.length_eq_zero_iff.mp this.symm)
  have a:=z4B (maxL_mem ne);have nn:=jI h he;refine (z5p h (by rw [<- xX h.ne];exact a.1) ?_).1;show (others v).getD ((others v).idxOf (maxL (others v))) 0≠0;rw [a.2];have m:=ub.mp (minL_mem nn);have m1:=maxL_ge _ m.1;have m2:0<=minL (nz (others v)):=by
   obtain ⟨i,hi,e⟩:=List.mem_iff_getElem.mp m.1;have:=vq h.ne i;have e2:(others v).getD i 0=minL (nz (others v)):=by simp [List.getD,List.getElem?_eq_getElem hi,e]
   rw [e2] at this;rw [this];split;·omega
   ·exact wz h.nn i
  omega | le=>
  have a:=z5L (jI h he);refine (z5p h (by rw [<- xX h.ne];exact a.1) ?_).1;show (others v).getD (lp (others v)) 0≠0;rw [a.2.1];exact a.2.2 | al=>
  have a:=z5L h.nzne;refine ⟨a.1,by simp [deal,uk],.inr ?_⟩;show 0<v.getD (lp v) 0;have:=wz h.nn (lp v);have b:=a.2.1;have c:=a.2.2;omega | tu=>
  have l0:0<v.length:=by have:=h.sz;rw [h.len];omega
  refine ⟨l0,?_,?_⟩
  ·show 0∉(if v.getD 0 0=0 then [] else xt v 0);split<;>simp [uk]
  ·show (if v.getD 0 0=0 then [] else xt v 0)=[]\/0<v.getD 0 0;split;·exact .inl rfl
   ·have:=wz h.nn 0;exact .inr (by omega)
theorem wl(v:List Int)(d:Nat×List Nat):(zo v d).length=v.length:=by simp [zo]
theorem z7I(v:List Int)(d:Nat×List Nat)(i:Nat):(zo v d).getD i 0=if i<v.length/\i∈d.2 then v.getD i 0 / v.getD d.1 0 else 0:=by
 unfold zo;by_cases hi:i<v.length;·simp [List.getD,hi]
 ·simp [List.getD,hi]
theorem uB{v:List Int}{d:Nat×List Nat}(i:Nat):v.getD i 0-(zo v d).getD i 0*v.getD d.1 0=if i<v.length/\i∈d.2 then v.getD i 0 % v.getD d.1 0 else v.getD i 0:=by
 rw [z7I];split
 ·have:=Int.mul_ediv_add_emod (v.getD i 0) (v.getD d.1 0);have e:=Int.mul_comm (v.getD i 0 / v.getD d.1 0) (v.getD d.1 0);omega
 ·omega
theorem zdK{v:List Int}{d:Nat×List Nat}(hv:∀ x∈v,0<=x)(h:Dl v d.1 d.2):Qs v d.1 (zo v d):=by
 refine ⟨h.lt,wl _ _,?_,fun q hq=>?_,fun i=>?_,?_⟩;·simp [zo,h.lt,h.nb]
 ·obtain ⟨i,hi,rfl⟩:=List.mem_iff_getElem.mp hq;simp only [zo,List.getElem_map,List.getElem_range];split;·exact Int.ediv_nonneg (wz hv _) (wz hv _)
  ·omega
 ·rw [uB];split
  ·rename_i hi;rcases h.pos with z | z;·rw [z] at hi;simp at hi
   ·exact Int.emod_nonneg _ (by omega)
  ·exact wz hv i
 ·rcases h.pos with z | z
  ·refine .inl fun q hq=>?_;obtain ⟨i,hi,rfl⟩:=List.mem_iff_getElem.mp hq;simp [zo,z]
  ·exact .inr z
def bl(n:Nat):Nat:=if n=0 then 0 else bl (n / 2)+1
termination_by n
decreasing_by omega
theorem z5q:bl 0=0:=by rw [bl];simp
theorem z6E{n:Nat}(h:n≠0):bl n=bl (n / 2)+1:=by rw [bl,if_neg h]
theorem z8Q:∀ (b a:Nat),a<=b->bl a<=bl b:=by
 intro b;induction b using Nat.strongRecOn with | ind b ih=>
  intro a h;by_cases h0:a=0;·subst h0;rw [z5q];omega
  ·rw [z6E h0,z6E (show b≠0 by omega)];have:=ih (b / 2) (by omega) (a / 2) (by omega);omega
theorem zdy{a b:Nat}(h:2*a<b):bl a<bl b:=by
 rw [z6E (show b≠0 by omega)];have:=z8Q (b / 2) a (by omega);omega
theorem zcx:∀ (k n:Nat),n<2 ^ k->bl n<=k
 | 0,n,h=>by simp at h;subst h;rw [z5q];omega | k+1,n,h=>by
  by_cases h0:n=0;·subst h0;rw [z5q];omega
  ·rw [z6E h0];have:=zcx k (n / 2) (by rw [Nat.pow_succ] at h;omega);omega
def wt(v:List Int):Nat:=(v.map fun x=>bl x.toNat).sum
theorem zeD:∀ {u v:List Int},u.length=v.length->(∀ i,bl (u.getD i 0).toNat<=bl (v.getD i 0).toNat)->wt u<=wt v/\((∃ i,bl (u.getD i 0).toNat<bl (v.getD i 0).toNat)->wt u<wt v)
 | [],[],_,_=>⟨by simp,fun ⟨i,h⟩=>by simp at h⟩ | a::u,b::v,hl,h=>by
  have ih:=zeD (u:=u) (v:=v) (by simpa using hl) fun i=>by simpa using h (i+1)
  have h0:bl a.toNat<=bl b.toNat:=by simpa using h 0
  simp only [wt,List.map_cons,List.sum_cons] at ih ⊢;refine ⟨by omega,fun ⟨i,hi⟩=>?_⟩;cases i with
  | zero=>
   have:bl a.toNat<bl b.toNat:=by simpa using hi
   omega | succ i=>
   have:=ih.2 ⟨i,by simpa using hi⟩;omega
 | [],_::_,h,_=>by simp at h | _::_,[],h,_=>by simp at h
theorem uh{v qs:List Int}{b:Nat}(h:qs.length=v.length)(i:Nat):(left v qs b).getD i 0=v.getD i 0-qs.getD i 0*v.getD b 0:=by
 unfold left;by_cases hi:i<v.length
 ·have h2:i<qs.length:=by omega
  simp [List.getD,List.getElem?_zipWith,List.getElem?_eq_getElem hi,List.getElem?_eq_getElem h2]
 ·have h2:¬ i<qs.length:=by omega
  simp [List.getD,List.getElem?_zipWith,List.getElem?_eq_none (Nat.not_lt.mp hi),List.getElem?_eq_none (Nat.not_lt.mp h2)]
theorem z34{u v:List Int}(hl:u.length=v.length)(h:∀ i,u.getD i 0=v.getD i 0):u=v:=by
 refine List.ext_getElem hl fun i h1 h2=>?_;have:=h i;simpa [List.getD,List.getElem?_eq_getElem h1,List.getElem?_eq_getElem h2] using this
theorem zbr{a b:Int}(h0:0<b)(h:b<=a):2*(a % b)<a:=by
 have h1:=Int.mul_ediv_add_emod a b;have h2:=Int.emod_lt_of_pos a h0;have h3:=Int.emod_nonneg a (show b≠0 by omega);have h4:1<=a / b:=by
  have:=Int.ediv_le_ediv h0 h;rwa [Int.ediv_self (by omega)] at this
 have h5:b*1<=b*(a / b):=Int.mul_le_mul_of_nonneg_left h4 (by omega);omega
theorem z8h{a b:Int}(ha:0<=a)(h0:0<b):a % b<=a:=by
 have h1:=Int.mul_ediv_add_emod a b;have h2:0<=a / b:=Int.ediv_nonneg ha (by omega);have h3:0<=b*(a / b):=Int.mul_nonneg (by omega) h2;omega
theorem ze0 {v:List Int} {d:Nat×List Nat} (hv:∀ x∈v,0<=x) (h:Dl v d.1 d.2):wt (left v (zo v d) d.1)<=wt v/\((∃ i,i<v.length/\i∈d.2/\v.getD d.1 0<=v.getD i 0)->wt (left v (zo v d) d.1)<wt v):=by
 have hl:=wl v d;have key:∀ i,(left v (zo v d) d.1).getD i 0=if i<v.length/\i∈d.2 then v.getD i 0 % v.getD d.1 0 else v.getD i 0:=fun i=>by rw [uh hl,uB]
 have p:∀ i,i<v.length/\i∈d.2->0<v.getD d.1 0:=fun i hi=>by
  rcases h.pos with z | z;·rw [z] at hi;simp at hi
  ·exact z
 have w:=zeD (u:=left v (zo v d) d.1) (v:=v) (va hl) fun i=>by
  rw [key];split
  ·rename_i hi;have:=z8h (wz hv i) (p i hi);exact z8Q _ _ (by omega)
  ·exact Nat.le_refl _
 refine ⟨w.1,fun ⟨i,h1,h2,h3⟩=>w.2 ⟨i,?_⟩⟩;rw [key,if_pos ⟨h1,h2⟩];have h0:=p i ⟨h1,h2⟩;have:=zbr h0 h3;have:=Int.emod_nonneg (v.getD i 0) (show v.getD d.1 0≠0 by omega);exact zdy (by omega)
theorem zcg(v:List Int):wt (rot v)=wt v:=by cases v with
 | nil=>rfl | cons a v=>simp [rot,wt];omega
theorem z7y{a b:List Int}(h:∀ x,x∈a ↔ x∈b)(ha:a≠[]):minL a=minL b:=by
 have hb:b≠[]:=fun z=>by
  have:=(h _).mp (minL_mem ha);rw [z] at this;simp at this
 have h1:=minL_le (xs:=b) _ ((h _).mp (minL_mem ha));have h2:=minL_le (xs:=a) _ ((h _).mpr (minL_mem hb));omega
theorem zfe{v:List Int}(h:nz v≠[])(h0:v.getD 0 0≠minL (nz v)):lp (rot v)<lp v:=by cases v with
 | nil=>simp [nz] at h | cons a t=>
  have e:minL (nz (rot (a::t)))=minL (nz (a::t)):=(z7y (fun x=>by rw [ub,ub,z9r]) h).symm;have m:=(ub.mp (minL_mem h)).1;have ha:a≠minL (nz (a::t)):=by simpa using h0
  unfold lp;rw [e];generalize minL (nz (a::t))=m' at *;have mt:m'∈t:=(List.mem_cons.mp m).resolve_left fun z=>ha z.symm;show List.idxOf m' (t++[a])<_;rw [List.idxOf_append,if_pos mt,List.idxOf_cons];rw [show (a==m')=false from by simpa using ha];simp
def mu(r:Rl)(v:List Int):Nat:=5*wt v+(if r=.tu then lp v else 0)
theorem Lot.step{n:Nat}{v:List Int}(r:Rl)(h:Lot n v)(he:ended v=false):Lot n (stp r v):=by
 have dl:=jo r h he;have q:=zdK h.nn dl;refine ⟨h.sz,by rw [stp,zed,va q.len,h.len],fun x hx=>zd9 q x (z5N.mp hx),?_⟩;have fin:∀ x∈left v (zo v (deal r v)) (deal r v).1,0<x->∃ x∈stp r v,0<x:=fun x hx h0=>⟨x,z5N.mpr hx,h0⟩;rcases dl.pos with z | z
 ·obtain ⟨x,hx,h0⟩:=h.pos;refine fin x ?_ h0;have:left v (zo v (deal r v)) (deal r v).1=v:=z34 (va q.len) fun i=>by rw [uh q.len,uB,z];simp
  rw [this];exact hx
 ·refine fin (v.getD (deal r v).1 0) ?_ z;have:(left v (zo v (deal r v)) (deal r v).1).getD (deal r v).1 0=v.getD (deal r v).1 0:=by rw [uh q.len,uB,if_neg (fun w=>dl.nb w.2)]
  rw [<- this];exact getD_mem (by rw [va q.len];exact dl.lt)
theorem zep{n:Nat}{v:List Int}(h:Lot n v):lp v<4:=by
 have:=(z5L h.nzne).1;have:=h.len;have:=h.sz;omega
theorem z0B{n:Nat}{v:List Int}(r:Rl)(h:Lot n v)(he:ended v=false):mu r (stp r v)<mu r v:=by
 have dl:=jo r h he;have w:=ze0 h.nn dl;have mn:∀ j,j<v.length->v.getD j 0≠0->minL (nz v)<=v.getD j 0:=fun j hj h0=>minL_le _ (ub.mpr ⟨getD_mem hj,h0⟩);have ge:∀ {b:Nat},b<v.length->(others v).getD b 0≠0->v.getD b 0<=v.getD (gp v) 0:=fun hb h0=>(z5p h hb h0).2.2;cases r with
 | nx=>
  have g:=z7A h.ne;have:wt (stp .nx v)<wt v:=by
   rw [stp,z2j (by decide)];refine w.2 ⟨gp v,g.1,by simp [deal],?_⟩;rw [g.2];exact maxL_ge _ (getD_mem dl.lt)
  simp only [mu];rw [if_neg (by decide),if_neg (by decide)];omega | le=>
  have g:=z7A h.ne;have:wt (stp .le v)<wt v:=by
   rw [stp,z2j (by decide)];refine w.2 ⟨gp v,g.1,by simp [deal],?_⟩;rw [g.2];exact maxL_ge _ (getD_mem dl.lt)
  simp only [mu];rw [if_neg (by decide),if_neg (by decide)];omega | al=>
  have l:=z5L h.nzne;obtain ⟨j,h1,h2,h3⟩:=z9t (p:=lp v) (z2C he) (by rw [l.2.1];exact l.2.2);have:wt (stp .al v)<wt v:=by
   rw [stp,z2j (by decide)];refine w.2 ⟨j,h2,by simp [deal,uk,h1,h2],?_⟩;show v.getD (lp v) 0<=_;rw [l.2.1];exact mn j h2 h3
  simp only [mu];rw [if_neg (by decide),if_neg (by decide)];omega | tu=>
  simp only [mu];rw [if_pos trivial,if_pos trivial];have st:Lot n (stp .tu v):=h.step .tu he;have l4:=zep st;have same:left v (zo v (deal .tu v)) (deal .tu v).1=v->v.getD 0 0≠minL (nz v)->5*wt (stp .tu v)+lp (stp .tu v)<5*wt v+lp v:=fun e h0=>by
   have e2:stp .tu v=rot v:=by rw [stp,z3V,e]
   have:=zfe h.nzne h0;rw [e2,zcg];omega
  by_cases z:v.getD 0 0=0
  ·refine same (z34 (va (wl _ _)) fun i=>?_) fun q=>?_
   ·rw [uh (wl _ _),uB];rw [show (deal .tu v).2=[] from by show (if v.getD 0 0=0 then [] else xt v 0)=[];rw [if_pos z]];simp
   ·exact (z5L h.nzne).2.2 (by rw [<- q,z])
  ·by_cases ex:∃ i,i<v.length/\i≠0/\v.getD 0 0<=v.getD i 0
   ·obtain ⟨i,h1,h2,h3⟩:=ex;have:wt (stp .tu v)<wt v:=by
     rw [stp,z3V,zcg];refine w.2 ⟨i,h1,?_,h3⟩;show i∈(if v.getD 0 0=0 then [] else xt v 0);rw [if_neg z];exact uk.mpr ⟨h1,h2⟩
    omega
   ·have nn0:=wz h.nn 0;refine same (z34 (va (wl _ _)) fun i=>?_) fun q=>?_
    ·rw [uh (wl _ _),uB];split
     ·rename_i hi;have i0:i≠0:=by
       have:=hi.2;simp only [deal,if_neg z,uk] at this;exact this.2
      have:¬ v.getD 0 0<=v.getD i 0:=fun w=>ex ⟨i,hi.1,i0,w⟩;show v.getD i 0 % v.getD 0 0=_;exact Int.emod_eq_of_lt (wz h.nn i) (by omega)
     ·rfl
    ·obtain ⟨j,h1,h2,h3⟩:=z9t (p:=0) (z2C he) z;have:=mn j h2 h3;exact ex ⟨j,h2,h1,by omega⟩
theorem zfG{m:Nat}:∀ {v:List Int},(∀ x∈v,x.toNat<2 ^ m)->wt v<=v.length*m
 | [],_=>by simp [wt] | a::v,h=>by
  have ih:=zfG (v:=v) fun x hx=>h x (by simp [hx]);have:=zcx m a.toNat (h a (by simp));simp only [wt,List.map_cons,List.sum_cons,List.length_cons,Nat.succ_mul] at ih ⊢;omega
theorem zgQ{n m:Nat}{v:List Int}{r:Rl}(h:Lot n v)(hb:∀ x∈v,x.toNat<2 ^ m):mu r v<=20*m+3:=by
 have w:=zfG hb;have l:=zep h;have:v.length*m<=4*m:=Nat.mul_le_mul_right m (by have:=h.len;have:=h.sz;omega);unfold mu;split<;>omega
structure PI(n:Nat)(B:Int)(P:Tb)(c x:List Int):Prop where
 tab:Tab n P
 nn:∀ row∈P,∀ y∈row,0<=y/\y<=B
 eq:mv P c=x
theorem zgs{n:Nat}{v:List Int}{B:Int}(r:Rl)(h:Lot n v)(he:ended v=false)(hb:∀ y∈v,y<=B):∀ y∈stp r v,y<=B:=fun y hy=>by
 have dl:=jo r h he;have q:=zdK h.nn dl;have hy:=z5N.mp hy;obtain ⟨i,hi,rfl⟩:=List.mem_iff_getElem.mp hy;have e:(left v (zo v (deal r v)) (deal r v).1)[i]=(left v (zo v (deal r v)) (deal r v).1).getD i 0:=by simp [List.getD,List.getElem?_eq_getElem hi]
 have hi':i<v.length:=by rw [<- va (b:=(deal r v).1) q.len];exact hi
 have b:=hb _ (getD_mem hi');rw [e,uh q.len,uB];split
 ·rename_i w;rcases dl.pos with z | z;·rw [z] at w;simp at w
  ·have:=z8h (wz h.nn i) z;omega
 ·exact b
section
variable {k:Int}(hk:0<k)
include hk
end
open Dd (lexN)
theorem jF:∀ a:List Int,lexN a a=false
 | []=>rfl | x::a=>by simp [lexN,jF a]
theorem z3O:∀ {a b:List Int},a≠b->lexN b a=!lexN a b
 | [],[],h=>absurd rfl h | [],_::_,_=>rfl | _::_,[],_=>rfl | x::a,y::b,h=>by
  by_cases e:x=y
  ·subst e;have:a≠b:=fun z=>h (by rw [z]);simp only [lexN,if_true];exact z3O this
  ·have e':¬ y=x:=fun z=>e z.symm;simp only [lexN,e,e',if_false];by_cases l:x<y;·simp [l];omega
   ·simp [l];omega
theorem z8L:∀ {a b c:List Int},lexN a b=true->lexN b c=true->lexN a c=true
 | [],[],_,h,_=>by simp [lexN] at h | [],_::_,[],_,h=>by simp [lexN] at h | [],_::_,_::_,_,_=>rfl | _::_,[],_,h,_=>by simp [lexN] at h | _::_,_::_,[],_,h=>by simp [lexN] at h | x::a,y::b,z::c,h1,h2=>by
  simp only [lexN] at h1 h2 ⊢;by_cases e1:x=y
  ·subst e1;by_cases e2:x=z
   ·subst e2;simp only [if_true] at h1 h2 ⊢;exact z8L h1 h2
   ·simp only [e2,if_false] at h2 ⊢;exact h2
  ·simp only [e1,if_false,decide_eq_true_eq] at h1;by_cases e2:y=z
   ·subst e2;simp only [e1,if_false,decide_eq_true_eq];exact h1
   ·simp only [e2,if_false,decide_eq_true_eq] at h2;have e3:¬ x=z:=by omega
    simp only [e3,if_false,decide_eq_true_eq];omega
theorem z0I:∀ {a b:List Int}{x y:Int},a.length=b.length->(lexN a b=true\/(a=b/\x<y))->lexN (a++[x]) (b++[y])=true
 | [],[],x,y,_,h=>by
  rcases h with h | ⟨_,h⟩;·simp [lexN] at h
  ·have:¬ x=y:=by omega
   simp [lexN,this,h] | [],_::_,_,_,h,_=>by simp at h | _::_,[],_,_,h,_=>by simp at h | u::a,w::b,x,y,hl,h=>by
  simp only [List.cons_append,lexN];by_cases e:u=w
  ·subst e;simp only [if_true];refine z0I (by simpa using hl) ?_;rcases h with h | ⟨h1,h2⟩;·exact .inl (by simpa [lexN] using h)
   ·exact .inr ⟨by simpa using h1,h2⟩
  ·simp only [e,if_false,decide_eq_true_eq];rcases h with h | ⟨h1,h2⟩;·simpa [lexN,e] using h
   ·simp at h1;exact absurd h1.1 e
abbrev Up(L:List (List Int)):Prop:=L.Pairwise fun a b=>lexN a b=true
theorem z8I{α:Type}{a b:List α}{i:Nat}{d:α}(h:i<a.length):(a++b).getD i d=a.getD i d:=by simp [List.getD_eq_getElem?_getD,List.getElem?_append_left h]
theorem za0{α:Type}{a b:List α}{i:Nat}{d:α}(h:a.length<=i):(a++b).getD i d=b.getD (i-a.length) d:=by simp [List.getD_eq_getElem?_getD,List.getElem?_append_right h]
def z2a(F:List (List Int))(c:List Int):List (List Int):=F.flatMap fun a=>c.map fun g=>a++[g]
def qg(cs:List (List Int)):List (List Int):=cs.foldl z2a [[]]
theorem qO(cs:List (List Int))(c:List Int):qg (cs++[c])=z2a (qg cs) c:=by simp [qg]
theorem snoc_ind{α:Type}{P:List α->Prop}(h0:P [])(h1:∀ l x,P l->P (l++[x]))(l:List α):P l:=by
 have:∀ n (l:List α),l.length=n->P l:=by
  intro n;induction n with
  | zero=>intro l hl;rw [List.length_eq_zero_iff.mp hl];exact h0 | succ n ih=>
   intro l hl;have ne:l≠[]:=fun z=>by rw [z] at hl;simp at hl
   rw [<- List.dropLast_concat_getLast ne];exact h1 _ _ (ih _ (by simp [hl]))
 exact this _ l rfl
theorem z4C(cs:List (List Int)):∀ v:List Int,v∈qg cs ↔ v.length=cs.length/\∀ i,i<cs.length->v.getD i 0∈cs.getD i []:=by
 refine snoc_ind (P:=fun cs=>∀ v:List Int,v∈qg cs ↔ v.length=cs.length/\∀ i,i<cs.length->v.getD i 0∈cs.getD i []) ?_ ?_ cs
 ·intro v;simp [qg]
 ·intro cs c ih v;rw [qO];simp only [z2a,List.mem_flatMap,List.mem_map];constructor
  ·rintro ⟨a,ha,g,hg,rfl⟩;obtain ⟨l,h⟩:=(ih a).mp ha;refine ⟨by simp [l],fun i hi=>?_⟩;by_cases q:i<cs.length
   ·have:=h i q;rw [z8I (a:=a) (by omega),z8I q];exact this
   ·have e:i=cs.length:=by simp at hi;omega
    subst e;rw [za0 (a:=a) (by omega),za0 (a:=cs) (by omega)];simp [l,hg]
  ·rintro ⟨l,h⟩;have ne:v≠[]:=fun z=>by rw [z] at l;simp at l
   refine ⟨v.dropLast,(ih _).mpr ⟨by simp [l],fun i hi=>?_⟩,v.getLast ne,?_,List.dropLast_concat_getLast ne⟩
   ·have:=h i (by simp;omega);rw [z8I hi] at this;have e:v.dropLast.getD i 0=v.getD i 0:=by
     have l':v.length=cs.length+1:=by simpa using l
     have h1:i<v.length:=by omega
     simp [List.getD_eq_getElem?_getD,List.getElem?_dropLast,l',hi,List.getElem?_eq_getElem h1]
    rw [e];exact this
   ·have:=h cs.length (by simp);rw [za0 (Nat.le_refl _)] at this;have e:v.getD cs.length 0=v.getLast ne:=by
     rw [List.getLast_eq_getElem];simp at l;simp [List.getD_eq_getElem?_getD,l]
    rw [e] at this;simpa using this
theorem zaD(cs:List (List Int)):(∀ c∈cs,c.Pairwise (· < ·))->Up (qg cs):=by
 refine snoc_ind (P:=fun cs=>(∀ c∈cs,c.Pairwise (· < ·))->Up (qg cs)) (fun _=>by simp [qg,Up]) ?_ cs;intro cs c ih h;have ih:=ih fun c hc=>h c (by simp [hc]);have hc:=h c (by simp);have hl:=fun v hv=>((z4C cs v).mp hv).1;rw [qO];unfold z2a Up;rw [List.pairwise_flatMap];refine ⟨fun a ha=>?_,?_⟩
 ·rw [List.pairwise_map];exact hc.imp fun {x y} q=>z0I rfl (.inr ⟨rfl,q⟩)
 ·refine List.Pairwise.imp_of_mem (fun {a b} ha hb q=>?_) ih;intro x hx y hy;obtain ⟨g,_,rfl⟩:=List.mem_map.mp hx;obtain ⟨k,_,rfl⟩:=List.mem_map.mp hy;exact z0I (by rw [hl a ha,hl b hb]) (.inl q)
theorem z9V(cs:List (List Int)){k:Nat}:(∀ c∈cs,c.length<=k)->(qg cs).length<=k ^ cs.length:=by
 refine snoc_ind (P:=fun cs=>(∀ c∈cs,c.length<=k)->(qg cs).length<=k ^ cs.length) (fun _=>by simp [qg]) ?_ cs;intro cs c ih h;have ih:=ih fun c hc=>h c (by simp [hc]);have hc:=h c (by simp);rw [qO];have e:(z2a (qg cs) c).length=(qg cs).length*c.length:=by
  unfold z2a;rw [List.length_flatMap];simp;induction (qg cs) with
  | nil=>simp | cons a l ih=>simp [ih,Nat.add_mul,Nat.add_comm]
 rw [e,List.length_append,List.length_singleton,Nat.pow_succ];exact Nat.mul_le_mul ih hc
end Pm
namespace Pg
open PySem.Spec L2 Dd Pm
abbrev iL(ns:List Int):List D:=ns.map D.int
theorem ziF{i:Int}{m:Nat}(h:i.natAbs<2 ^ m)(hm:m<=2000):i.natAbs<BIG:=Nat.lt_of_lt_of_le h (Nat.pow_le_pow_right (by decide) (by omega))
theorem zeC{a b:Int}{m k:Nat}(s:Sto)(ha:a.natAbs<2 ^ m)(hm:m<=2000)(hb:b.natAbs<2 ^ k)(hk:k<=2000):ud (.int a) (.int b) s=.ok (.int (a*b)) s:=by rw [zbN,if_pos ⟨ziF ha hm,ziF hb hk⟩]
theorem z6J{a b:Int}(s:Sto)(hb:0<b):z6W (.int a) (.int b) s=.ok (.int (a % b)) s:=by rw [zbM,if_pos hb]
theorem z6L{xs:List D}(s:Sto)(h:∀ x∈xs,x=.bl true):z8X [.lst xs] s=.ok (.bl true) s:=by
 have e:xs=(xs.map fun _=>true).map D.bl:=by
  rw [List.map_map];conv=>lhs;rw [<- List.map_id xs]
  exact List.map_congr_left fun x hx=>h x hx
 have b:bools xs=some (xs.map fun _=>true):=by
  conv=>lhs;rw [e]
  exact z4a _
 simp [z8X,yd,b]
theorem z2m{ns:List Int}(s:Sto)(h:ns≠[]):wa [.tup (iL ns)] s=.ok (.int (maxL ns)) s:=by cases ns with
 | nil=>exact absurd rfl h | cons n ns=>simp only [wa,yd,Option.bind_some,vh]
theorem zf6{ns:List Int}(s:Sto)(h:ns≠[]):jn [.tup (iL ns)] s=.ok (.int (minL ns)) s:=by cases ns with
 | nil=>exact absurd rfl h | cons n ns=>simp only [jn,yd,Option.bind_some,vh]
theorem zeE{ns:List Int}(s:Sto)(h:ns≠[]):wa [.lst (iL ns)] s=.ok (.int (maxL ns)) s:=by cases ns with
 | nil=>exact absurd rfl h | cons n ns=>simp only [wa,yd,Option.bind_some,vh]
theorem z2t(i:Int)(s:Sto):yt [.int i] s=.ok (.bl true) s:=by simp [yt,Mof,jp,zy,gIs,tyD,isT]
theorem z7O(xs:List D)(s:Sto)(h:2<=xs.length/\xs.length<=4):vf [.tup xs] s=.ok (.bl true) s:=by
 have h1:(2:Int)<=xs.length:=by omega
 have h2:(xs.length:Int)<=4:=by omega
 simp [vf,Mof,z0R,zy,gIs,tyD,isT,wX,yd,h1,h2]
theorem z42 (ns:List Int) (s:Sto) (h:ns.length<=1000):xQ [.tup (iL ns),.int ns.length] s=.ok (.bl true) s:=by
 simp [xQ,Mof,jJ,zy,gIs,tyD,isT,wX,yd];rw [z4f (fun _=>D.bl true) (iL ns) [] (by intro x hx;obtain ⟨n,_,rfl⟩:=List.mem_map.mp hx;simp [z2t]) (by simp [cap];omega)];simp only [R.bind_ok,List.nil_append];rw [z6L s (by intro x hx;obtain ⟨_,_,rfl⟩:=List.mem_map.mp hx;rfl)];simp
abbrev rD(r:List Int):D:=.tup (iL r)
abbrev tD(T:Tb):D:=.tup (T.map rD)
theorem zfi{xs:List D}{j:Nat}{d:D}(s:Sto)(h:xs[j]? = some d):dIx (.tup xs) (.int j) s=.ok d s:=by
 have hj:j<xs.length:=(List.getElem?_eq_some_iff.mp h).1;have e:ixN xs.length (j:Int)=some j:=by
  unfold ixN;rw [if_pos (by omega),if_pos (by omega)];simp
 simp only [dIx,yd,atI,e,Option.bind_some,h]
theorem z8A{n:Nat}{ar:FA}{Z:Ev}{s s1:Sto}(hn:n<=1000)(h:ar Z s=.ok [.int n] s1):z07 ar Z s=.ok (xB n,[]) s1:=by
 have c62:-(2 ^ 62)<=(n:Int)/\(n:Int)<2 ^ 62:=by omega
 rw [zcb,h,R.bind_ok];simp only;rw [if_pos c62,Int.toNat_natCast]
theorem z5y(xs:List D)(i:Nat)(s:Sto):dSl (.tup xs) none (some (i:Int)) s=.ok (.tup (xs.take i)) s:=by
 have e:Dd.cutD xs none (some (i:Int))=xs.take i:=by
  unfold Dd.cutD;rw [HT.z6I,HT.z94];simp [List.take_eq_take_min]
 simp only [dSl,e]
theorem z1c(xs:List D)(i:Nat)(s:Sto):dSl (.tup xs) (some (i:Int)) none s=.ok (.tup (xs.drop i)) s:=by
 have e:Dd.cutD xs (some (i:Int)) none=xs.drop i:=by
  unfold Dd.cutD;rw [HT.z6I,HT.z94];by_cases h:i<=xs.length
  ·rw [Nat.min_eq_left h];exact List.take_of_length_le (by simp)
  ·rw [Nat.min_eq_right (by omega)];simp [List.drop_of_length_le (show xs.length<=i by omega)]
 simp only [dSl,e]
theorem z4n {r:List Int} {j:Nat} (s:Sto) (h:j<r.length):dIx (rD r) (.int (j:Int)) s=.ok (.int (r.getD j 0)) s:=zfi (xs:=iL r) (j:=j) (d:=.int (r.getD j 0)) s (by simp [List.getElem?_map,List.getElem?_eq_getElem h,List.getD])
theorem ug{α:Type}{all:List D}{s:Sto}{body:D->Sto->R (Option D)}(g f:α->D)(p:α->Bool):∀ (l:List α)(acc:List D),(∀ a∈l,body (g a) s=.ok (if p a=true then some (f a) else none) s)->acc.length+l.length<=cap->vw [] all body (l.map g) acc s=.ok (acc++(l.filter p).map f) s
 | [],acc,_,_=>by simp [vw,okG] | x::xs,acc,hb,hl=>by
  have og:okG [] all s:=by intro p hp;simp at hp
  rw [List.map_cons,vw,if_pos og,hb x (by simp)];cases hp:p x with
  | true=>
   have ih:=ug (all:=all) g f p xs (acc++[f x]) (fun y hy=>hb y (by simp [hy])) (by simp at hl ⊢;omega);have hc:acc.length<cap:=by simp at hl;omega
   simp [hc,ih,hp] | false=>
   have ih:=ug (all:=all) g f p xs acc (fun y hy=>hb y (by simp [hy])) (by simp at hl ⊢;omega);simp [ih,hp]
theorem vb{α:Type}{fi:FI}{mp:List (Option Nat)}{fg:FG}{ft:FT}{fe:FE}{Z:Ev}{s:Sto}(g f:α->D)(p:α->Bool)(ev:α->Ev)(l:List α) (hi:fi Z s=.ok (l.map g,[]) s)(hg:∀ a∈l,fg (g a) (yh mp Z) s=.ok (ev a) s)(ht:∀ a∈l,ft (ev a) s=.ok (p a) s)(he:∀ a∈l,p a=true->fe (ev a) s=.ok (f a) s)(hl:l.length<=cap): zA fi mp fg ft fe Z s=.ok (.lst ((l.filter p).map f)) s:=by
 rw [z3I,z3G,hi,R.bind_ok];rw [ug g f p l [] (by
  intro a ha;simp only [hg a ha,ht a ha,R.bind_ok];cases hp:p a with
  | true=>simp [he a ha hp] | false=>simp) (by simpa using hl)];rfl
theorem comp_map{α:Type}{fi:FI}{mp:List (Option Nat)}{fg:FG}{fe:FE}{Z:Ev}{s:Sto}(g f:α->D)(ev:α->Ev)(l:List α) (hi:fi Z s=.ok (l.map g,[]) s)(hg:∀ a∈l,fg (g a) (yh mp Z) s=.ok (ev a) s)(he:∀ a∈l,fe (ev a) s=.ok (f a) s)(hl:l.length<=cap): zA fi mp fg wU fe Z s=.ok (.lst (l.map f)) s:=by
 have:=vb (ft:=wU) g f (fun _=>true) ev l hi hg (fun a _=>rfl) (fun a ha _=>he a ha) hl;rw [show l.filter (fun _=>true)=l from List.filter_eq_self.mpr (by simp)] at this;exact this
theorem z3D{f:FE}{Z:Ev}{s:Sto}{xs:List D}(h:f Z s=.ok (.tup xs) s):zW f Z s=.ok (xs,[]) s:=by simp [h]
theorem wG{f:FE}{Z:Ev}{s:Sto}{xs:List D}(h:f Z s=.ok (.lst xs) s):zW f Z s=.ok (xs,[]) s:=by simp [h]
structure z77(n m:Nat)(v:List Int):Prop extends Lot n v where bd:∀ x∈v,x<2 ^ m
theorem z77.abs{n m:Nat}{v:List Int}(h:z77 n m v):∀ x∈v,x.natAbs<2 ^ m:=fun x hx=>by
 have h1:=h.bd x hx;have h2:=h.nn x hx;have e:((x.natAbs:Nat):Int)=x:=Int.natAbs_of_nonneg h2;have:((x.natAbs:Nat):Int)<((2 ^ m:Nat):Int):=by rw [e];simpa using h1
 omega
theorem _root_.Pm.Lot.le4{n:Nat}{v:List Int}(h:Lot n v):v.length<=4/\2<=v.length:=by have:=h.len;have:=h.sz;omega
theorem zb4{n:Nat}{v:List Int}(h:Lot n v)(s:Sto):uz [rD v] s=.ok (.bl true) s:=by
 have l4:=h.le4;have h1:=z7O (iL v) s (by simp;omega);have h2:=z42 v s (by omega);have g1:=z2m s h.ne;have g2:=zf6 s h.ne;have mn:0<=minL v:=h.nn _ (minL_mem h.ne);have mx:0<maxL v:=by obtain ⟨x,hx,h0⟩:=h.pos;have:=maxL_ge (xs:=v) x hx;omega
 have gl:wX [rD v] s=.ok (.int v.length) s:=by simp [wX,yd]
 have key:∀ d:D,vf [d] s=.ok (.bl true) s->wX [d] s=.ok (.int v.length) s->xQ [d,.int v.length] s=.ok (.bl true) s->wa [d] s=.ok (.int (maxL v)) s->jn [d] s=.ok (.int (minL v)) s->uz [d] s=.ok (.bl true) s:=fun d a1 a2 a3 a4 a5=>by simp [uz,Mof,z49,zy,a1,a2,a3,a4,a5,mn,mx]
 exact key _ h1 gl h2 g1 g2
theorem z2k{n:Nat}{v:List Int}(h:Lot n v)(s:Sto):yS [rD v] s=.ok .non s:=by
 have h1:=zb4 h s;have key:∀ d:D,uz [d] s=.ok (.bl true) s->yS [d] s=.ok .non s:=fun d a1=>by simp [yS,Mof,z13,zy,a1]
 exact key _ h1
theorem nzC{v:List Int}{f:FE}{Z:Ev}{s:Sto}{mp:List (Option Nat)}(hf:f Z s=.ok (rD v) s)(hl:v.length<=4):zA (zW f) [none] (xw 0) (tOf (eOp dNe (zc 0) (eC (.int 0)))) (zc 0) Z s=.ok (.lst (iL (nz v))) s:=by
 rw [vb D.int D.int (fun x=>decide (x≠0)) (fun x=>[some (.int x)]) v (z3D hf) (fun a _=>by simp) (fun a _=>by simp) (fun a _ _=>by simp) (by simp [cap];omega)];rfl
theorem z0z {n:Nat} {v:List Int} (h:Lot n v) (s:Sto):yw [rD v] s=.ok (.bl (ended v)) s:=by
 have h1:=z2k h s;have key:∀ d:D,yS [d] s=.ok .non s->zA (zW (zc 0)) [none] (xw 0) (tOf (eOp dNe (zc 0) (eC (.int 0)))) (zc 0) [some d] s=.ok (.lst (iL (nz v))) s->yw [d] s=.ok (.bl (ended v)) s:=fun d a1 a2=>by
  have st:zy ["lot"] [d]=[some d]:=rfl;simp only [yw,Mof,kM,st,List.length_cons,List.length_nil,if_true];rw [zm (Z':=[some d]) (s':=s) (by simp [a1])];simp only [jR,xZ,wE,wS,zp,zF,kO,a2,R.bind_ok];simp only [wX,yd,R.bind_ok,z5P,List.length_map];have:decide (((nz v).length:Int)=1)=ended v:=by
   unfold ended;by_cases e:(nz v).length=1;·simp [e]
   ·have:¬ ((nz v).length:Int)=1:=by omega
    simp [e,this]
  rw [this]
 exact key _ h1 (nzC (mp:=[]) (by simp) h.le4.1)
end Pg
namespace Pm
open L2 (maxL minL maxL_ge maxL_mem minL_le minL_mem n3)
def zhB(left d most:Int):List Int:=if left<d then (List.range (n3 left (most+1) d)).map fun k=>left+((k:Nat):Int)*d else []
def zdz(w:List Int)(b:Nat)(most:Int):List (List Int):=w.zipIdx.map fun p=>if p.2=b then [p.1] else zhB p.1 (w.getD b 0) most
def zfN(w:List Int)(b:Nat)(most:Int):List (List Int):=if w.getD b 0=0 then [w] else qg (zdz w b most)
def zjA(g:List Int)(most:Int):List (List Int):=(List.range g.length).flatMap fun i=>(List.range (most-g.getD i 0).toNat).map fun k=>g.take i++[g.getD i 0+1+((k:Nat):Int)]++g.drop (i+1)
def ahead(r:Rl)(g:List Int)(most:Int):List (List Int):=match r with
 | .tu=>zfN (g.drop (g.length-1)++g.take (g.length-1)) 0 most | .al=>zfN g (g.idxOf (maxL g)) most | _=>zjA g most
end Pm
namespace Pg
open PySem.Spec L2 Dd Pm
def nmR:Rl->Str | .nx=>"next" | .le=>"least" | .al=>"all" | .tu=>"turn"
theorem z4e{fo fv:FE}{Z:Ev}{s:Sto}{v:List Int}{k:Int}(h1:fo Z s=.ok (rD v) s)(h2:fv Z s=.ok (.int k) s)(hk:k∈v):z7X fo fv Z s=.ok (.int (v.idxOf k:Nat)) s:=by simp only [zeu,h1,h2,R.bind_ok,vh,if_pos hk]
theorem z2r {n:Nat} {v:List Int} (h:Lot n v) (s:Sto):zq [rD v] s=.ok (.tup [.int (gp v:Nat),rD (others v)]) s:=by
 have l4:=h.le4;have g1:=z2m s h.ne;have key:∀ d:D,d=rD v->zq [d] s=.ok (.tup [.int (gp v:Nat),rD (others v)]) s:=fun d hd=>by
  have st:zy ["lot","at"] [d]=[some d,none]:=rfl;have gm:wa [d] s=.ok (.int (maxL v)) s:=by rw [hd];exact g1
  have i1:z7X (zc 0) (ze wa (zb (zc 0) zi)) [some d,none] s=.ok (.int (gp v:Nat)) s:=z4e (by simp [hd]) (by simp [gm]) (maxL_mem h.ne);simp only [zq,Mof,wu,st,List.length_cons,List.length_nil,if_true];rw [zm (Z':=[some d,some (.int (gp v:Nat))]) (s':=s) (by rw [wb,yJ,i1];simp)];have e1:=z5y (iL v) (gp v) s;have e2:=z1c (iL v) (gp v+1) s;rw [show (((gp v+1:Nat):Int))=((gp v:Nat):Int)+1 from rfl] at e2;simp only [we,xZ,vk,zp,zF,xW,wE,z7Z,ui,kA,kO,List.getElem?_cons_zero,List.getElem?_cons_succ,R.bind_ok,z4l,hd,e1,e2];rw [if_pos (by simp [cap]),R.bind_ok,z4p,if_pos (by simp [cap];omega),R.bind_ok,e2,R.bind_ok,z4p,if_pos (by simp [cap];omega),R.bind_ok,R.bind_ok,R.bind_ok,if_pos (by simp [cap])];simp [others,List.map_take,List.map_drop]
 exact key _ rfl
theorem jU {v:List Int} (h:nz v≠[]) (hl:v.length<=4) (s:Sto):zS [rD v] s=.ok (.int (lp v:Nat)) s:=by
 have key:∀ d:D,d=rD v->zS [d] s=.ok (.int (lp v:Nat)) s:=fun d hd=>by
  have st:zy ["lot"] [d]=[some d]:=rfl;have c:=nzC (mp:=[]) (f:=zc 0) (Z:=[some d]) (s:=s) (v:=v) (by simp [hd]) hl;have gm:jn [.lst (iL (nz v))] s=.ok (.int (minL (nz v))) s:=by
   obtain ⟨a,t,e⟩:=List.exists_cons_of_ne_nil h;rw [e];simp only [jn,yd,Option.bind_some,iL];rw [vh]
  simp only [zS,Mof,qU,st,List.length_cons,List.length_nil,if_true,qw,xZ];rw [z4e (v:=v) (k:=minL (nz v)) (by simp [hd]) (by rw [wS,zp,c];simp only [R.bind_ok,zF,gm]) (ub.mp (minL_mem h)).1];rfl
 exact key _ rfl
abbrev nL(l:List Nat):List D:=l.map fun i=>D.int ((i:Nat):Int)
theorem z4T {v:List Int} (p:Nat) (hl:v.length<=4) (s:Sto):xE [rD v,.int (p:Nat)] s=.ok (.lst (nL (xt v p))) s:=by
 have key:∀ d:D,wX [d] s=.ok (.int v.length) s->xE [d,.int (p:Nat)] s=.ok (.lst (nL (xt v p))) s:=fun d hd=>by
  have st:zy ["lot","place"] [d,.int (p:Nat)]=[some d,some (.int (p:Nat))]:=rfl;have ir:z07 (zb (ze wX (zb (zc 0) zi)) zi) [some d,some (.int (p:Nat))] s=.ok ((List.range v.length).map fun i=>D.int ((i:Nat):Int),[]) s:=by
   rw [z8A (n:=v.length) (s1:=s) (by omega) (by simp [hd])];rfl
  simp only [xE,Mof,z27,st,List.length_cons,List.length_nil,if_true,z0Q,xZ];rw [vb (fun i:Nat=>D.int ((i:Nat):Int)) (fun i:Nat=>D.int ((i:Nat):Int)) (fun i=>decide (i≠p)) (fun i=>[some (.int (p:Nat)),some (.int (i:Nat))]) (List.range v.length) ir (fun a _=>by simp) (fun a _=>by
   have:decide (((a:Nat):Int)≠(p:Nat))=decide (a≠p):=by
    by_cases e:a=p;·simp [e]
    ·have:¬ ((a:Nat):Int)=(p:Nat):=by omega
     simp [e,this]
   simp only [qJ,wE,xW,List.getElem?_cons_succ,List.getElem?_cons_zero,R.bind_ok,zd7,this]) (fun a _ _=>by simp) (by simp [cap];omega)];rfl
 exact key _ (by simp [wX,yd])
abbrev qf(d:Nat×List Nat):D:=.tup [.int ((d.1:Nat):Int),.lst (nL d.2)]
theorem z8d {n:Nat} {v:List Int} (h:Lot n v) (s:Sto):wK [rD v] s=.ok (qf (deal .nx v)) s:=by
 have ne:others v≠[]:=fun z=>by
  have:=xX h.ne;rw [z] at this;exact h.ne (List.length_eq_zero_iff.mp this.symm)
 have g:=z2r h s;have g1:=z2m (ns:=others v) s ne;have key:∀ d e:D,e=rD (others v)->zq [d] s=.ok (.tup [.int (gp v:Nat),e]) s->wK [d] s=.ok (qf (deal .nx v)) s:=fun d e he hg=>by
  have st:zy ["lot","greatest","others"] [d]=[some d,none,none]:=rfl;have gm:wa [e] s=.ok (.int (maxL (others v))) s:=by rw [he];exact g1
  simp only [wK,Mof,z2c,st,List.length_cons,List.length_nil,if_true];rw [zm (Z':=[some d,some (.int (gp v:Nat)),some e]) (s':=s) (by simp [hg])];have ix:z7X (zc 2) (ze wa (zb (zc 2) zi)) [some d,some (.int (gp v:Nat)),some e] s=.ok (.int ((others v).idxOf (maxL (others v)):Nat)) s:=z4e (v:=others v) (by simp [he]) (by simp [gm]) (maxL_mem ne);simp only [z19,xZ,vk,zp,ix,R.bind_ok,zF,z2n,xW,List.getElem?_cons_zero,List.getElem?_cons_succ];simp [cap,deal]
 exact key _ _ rfl g
theorem z81 {n:Nat} {v:List Int} (h:Lot n v) (he:ended v=false) (s:Sto):xU [rD v] s=.ok (qf (deal .le v)) s:=by
 have g:=z2r h s;have lpo:=jU (jI h he) (by rw [xX h.ne];exact h.le4.1) s;have key:∀ d e:D,zS [e] s=.ok (.int (lp (others v):Nat)) s->zq [d] s=.ok (.tup [.int (gp v:Nat),e]) s->xU [d] s=.ok (qf (deal .le v)) s:=fun d e he hg=>by
  have st:zy ["lot","greatest","others"] [d]=[some d,none,none]:=rfl;simp only [xU,Mof,z12,st,List.length_cons,List.length_nil,if_true];rw [zm (Z':=[some d,some (.int (gp v:Nat)),some e]) (s':=s) (by simp [hg])];simp [he,cap,deal]
 exact key _ _ lpo g
theorem zb1 {n:Nat} {v:List Int} (h:Lot n v) (s:Sto):vC [rD v] s=.ok (qf (deal .al v)) s:=by
 have lpo:=jU h.nzne h.le4.1 s;have ab:=z4T (v:=v) (lp v) h.le4.1 s;have key:∀ d:D,zS [d] s=.ok (.int (lp v:Nat)) s->xE [d,.int (lp v:Nat)] s=.ok (.lst (nL (xt v (lp v)))) s->vC [d] s=.ok (qf (deal .al v)) s:=fun d h1 h2=>by
  have st:zy ["lot","by"] [d]=[some d,none]:=rfl;simp only [vC,Mof,z4X,st,List.length_cons,List.length_nil,if_true];rw [zm (Z':=[some d,some (.int (lp v:Nat))]) (s':=s) (by simp [h1])];simp [h2,cap,deal]
 exact key _ lpo ab
theorem z8M {n:Nat} {v:List Int} (h:Lot n v) (s:Sto):wL [rD v] s=.ok (qf (deal .tu v)) s:=by
 have ab:=z4T (v:=v) 0 h.le4.1 s;have i0:dIx (rD v) (.int 0) s=.ok (.int (v.getD 0 0)) s:=z4n (j:=0) s (by have:=h.le4.2;omega);have key:∀ d:D,dIx d (.int 0) s=.ok (.int (v.getD 0 0)) s->xE [d,.int 0] s=.ok (.lst (nL (xt v 0))) s->wL [d] s=.ok (qf (deal .tu v)) s:=fun d h1 h2=>by
  have st:zy ["lot"] [d]=[some d]:=rfl;simp only [wL,Mof,z2o,st,List.length_cons,List.length_nil,if_true];by_cases z:v.getD 0 0=0;·rw [z2q (d:=qf (deal .tu v)) (s':=s) (by
    rw [z] at h1;have e:deal .tu v=(0,[]):=by show (0,if v.getD 0 0=0 then [] else xt v 0)=_;rw [if_pos z]
    rw [e];simp [h1,cap])]
  ·rw [zm (Z':=[some d]) (s':=s) (by
    have:¬ v.getD 0 0=0:=z;generalize v.getD 0 0=y at *;simp [h1,this])];have e:deal .tu v=(0,xt v 0):=by show (0,if v.getD 0 0=0 then [] else xt v 0)=_;rw [if_neg z]
   rw [e];simp [h2,cap]
 exact key _ i0 ab
theorem z8J(r:Rl)(s:Sto):ql [.str (nmR r)] s=.ok (.bl true) s:=by
 have l:∀ r,(uM.lookup (nmR r)).isSome=true:=fun r=>by cases r<;>decide
 have l:=l r;obtain ⟨y,l⟩:=Option.isSome_iff_exists.mp l;generalize nmR r=x at *;simp [ql,Mof,z29,zy,gIs,tyD,isT,l]
theorem z0O(r:Rl)(s:Sto):yG [.str (nmR r)] s=.ok .non s:=by
 have l:=z8J r s;generalize nmR r=x at *;simp [yG,Mof,kZ,zy,l]
theorem z8w{n:Nat}{v:List Int}(r:Rl)(h:Lot n v)(s:Sto):zI [.str (nmR r),rD v] s=.ok .non s:=by
 have h1:=z0O r s;have h2:=z2k h s;have key:∀ d e:D,yG [d] s=.ok .non s->yS [e] s=.ok .non s->zI [d,e] s=.ok .non s:=fun d e a1 a2=>by simp [zI,Mof,wW,zy,a1,a2]
 exact key _ _ h1 h2
theorem z60{n:Nat}{v:List Int}(r:Rl)(h:Lot n v)(he:ended v=false)(s:Sto):xP [.str (nmR r),rD v] s=.ok .non s:=by
 have h1:=z8w r h s;have h2:=z0z h s;rw [he] at h2;have key:∀ d e:D,zI [d,e] s=.ok .non s->yw [e] s=.ok (.bl false) s->xP [d,e] s=.ok .non s:=fun d e a1 a2=>by simp [xP,Mof,z03,zy,a1,a2]
 exact key _ _ h1 h2
def dfR:Rl->Str | .nx=>"by_next" | .le=>"by_least" | .al=>"by_all" | .tu=>"by_turn"
def MR:Rl->Mir | .nx=>wK | .le=>xU | .al=>vC | .tu=>wL
theorem zjc{n:Nat}{v:List Int}(r:Rl)(h:Lot n v)(he:ended v=false)(s:Sto):MR r [rD v] s=.ok (qf (deal r v)) s:=by cases r with
 | nx=>exact z8d h s | le=>exact z81 h he s | al=>exact zb1 h s | tu=>exact z8M h s
theorem zgP(r:Rl):uM.lookup (nmR r)=some (dfR r):=by cases r<;>decide
theorem zjz(r:Rl):([("by_next",wK),("by_least",xU),("by_all",vC),("by_turn",wL)]:List (Str×Mir)).lookup (dfR r)=some (MR r):=by
 cases r;·rfl
 ·rfl
 ·rfl
 ·rfl
theorem zdT(i:Nat)(l:List Nat)(s:Sto):z5o false (.int ((i:Nat):Int)) (.lst (nL l)) s=.ok (.bl (decide (i∈l))) s:=by
 have e:∀ l:List Nat,jv (nL l)=some (l.map fun j=>V.int ((j:Nat):Int)):=by
  intro l;induction l with
  | nil=>rfl | cons a l ih=>simp only [nL] at ih;simp [nL,jv,z2g,ih]
 have e2:∀ l:List Nat,inV (.int ((i:Nat):Int)) (l.map fun j=>V.int ((j:Nat):Int))=decide (i∈l):=by
  intro l;induction l with
  | nil=>rfl | cons a l ih=>
   simp only [inV,List.map_cons,List.any_cons] at ih ⊢;rw [ih];by_cases q:i=a;·subst q;simp [eqV]
   ·have q':¬ ((a:Nat):Int)=i:=by omega
    simp [eqV,q,q']
 simp only [z5o,z2g,yd,Option.bind_some,e,e2];rfl
theorem z75(x:List D)(s:Sto):vp [.lst x] s=.ok (.tup x) s:=by simp [vp,yd]
theorem z7s {n m:Nat} {v:List Int} (r:Rl) (h:z77 n m v) (he:ended v=false) (hm:m<=1999) (s:Sto):wD [.str (nmR r),rD v] s=.ok (.tup [.int ((deal r v).1:Nat),.lst (iL (zo v (deal r v)))]) s:=by
 have dl:=jo r h.toLot he;have l4:=h.toLot.le4;have by_:=zjc r h.toLot he s;have ixs:∀ i,i<v.length->dIx (rD v) (.int ((i:Nat):Int)) s=.ok (.int (v.getD i 0)) s:=fun i hi=>z4n s hi;have gl:wX [rD v] s=.ok (.int v.length) s:=by simp [wX,yd]
 have key:∀ d e:D,e=.str (nmR r)->MR r [d] s=.ok (qf (deal r v)) s->wX [d] s=.ok (.int v.length) s->(∀ i,i<v.length->dIx d (.int ((i:Nat):Int)) s=.ok (.int (v.getD i 0)) s)->wD [e,d] s=.ok (.tup [.int ((deal r v).1:Nat),.lst (iL (zo v (deal r v)))]) s:=fun d e he' h1 h2 h3=>by
  have st:zy ["rule","lot","deal","by","divided"] [e,d]=[some e,some d,none,none,none]:=rfl;simp only [wD,Mof,z1q,st,List.length_cons,List.length_nil,if_true];have lk:=zgP r;have lm:=zjz r;rw [zm (Z':=[some e,some d,some (.fn (dfR r)),none,none]) (s':=s) (by
   generalize dfR r=y at *;simp [he',lk])];rw [zm (Z':=[some e,some d,some (.fn (dfR r)),some (.int ((deal r v).1:Nat)),some (.lst (nL (deal r v).2))]) (s':=s) (by
   rw [kW,zcn,zb3];simp only [List.getElem?_cons_zero,List.getElem?_cons_succ];rw [lm];simp only [zp,zF,xW,List.getElem?_cons_zero,List.getElem?_cons_succ,R.bind_ok,h1,zcy,List.set_cons_succ,List.set_cons_zero])];have ir:z07 (zb (ze wX (zb (zc 1) zi)) zi) [some e,some d,some (.fn (dfR r)),some (.int ((deal r v).1:Nat)),some (.lst (nL (deal r v).2))] s=.ok ((List.range v.length).map fun i=>D.int ((i:Nat):Int),[]) s:=by
   rw [z8A (n:=v.length) (s1:=s) (by omega) (by simp [h2])];rfl
  have c:=comp_map (mp:=[some 4,some 1,some 3,none]) (fg:=xw 3) (fe:=eIf (tOf (eOp (z5o false) (zc 3) (zc 0))) (eOp z0c (eOp dIx (zc 1) (zc 3)) (eOp dIx (zc 1) (zc 2))) (eC (.int 0))) (fun i:Nat=>D.int ((i:Nat):Int)) (fun i:Nat=>D.int (if i∈(deal r v).2 then v.getD i 0 / v.getD (deal r v).1 0 else 0)) (fun i=>[some (.lst (nL (deal r v).2)),some d,some (.int ((deal r v).1:Nat)),some (.int (i:Nat))]) (List.range v.length) ir (fun a _=>by simp) (fun i hi=>by
    have hi':i<v.length:=by simpa using hi
    have i1:=zdT i (deal r v).2 s;have e1:=h3 i hi';have e2:=h3 _ dl.lt;simp only [zbj,qJ,wE,xW,kO,List.getElem?_cons_zero,List.getElem?_cons_succ,R.bind_ok,i1,e1,e2];by_cases q:i∈(deal r v).2
    ·have p0:0<v.getD (deal r v).1 0:=by
      rcases dl.pos with z | z;·rw [z] at q;simp at q
      ·exact z
     have p1:v.getD (deal r v).1 0<2 ^ 2000:=Int.lt_of_lt_of_le (h.bd _ (Pm.getD_mem dl.lt)) (by
      have:(2:Nat) ^ m<=2 ^ 2000:=Nat.pow_le_pow_right (by decide) (by omega);have:=Int.ofNat_le.mpr this;simpa using this);have big:(v.getD (deal r v).1 0).natAbs<BIG:=Nat.lt_of_lt_of_le (h.abs _ (Pm.getD_mem dl.lt)) (Nat.pow_le_pow_right (by decide) (by omega));simp only [q,decide_true,if_true];rw [z5V,if_pos ⟨p0,big⟩]
    ·simp only [q,decide_false,if_false];rfl) (by simp [cap];omega);simp only [z02,xZ,vk,zp,c,R.bind_ok,zF,xW,List.getElem?_cons_zero,List.getElem?_cons_succ];rw [if_pos (by simp [cap])];simp [zo,Function.comp_def]
 exact key _ _ rfl by_ gl ixs
theorem eq_str{a b:Str}(ha:PyData.strOk a=true)(hb:PyData.strOk b=true)(s:Sto):dEq (.str a) (.str b) s=.ok (.bl (a==b)) s:=by simp [dEq,zbe,eqD,wd,PyData.eqv,SeqAt.shaped,PyData.canLay0,PyData.depth,ha,hb]
theorem z74(r:Rl):PyData.strOk (nmR r)=true:=by cases r<;>decide +kernel
theorem z9L(r:Rl)(s:Sto):dEq (.str (nmR r)) (.str "turn") s=.ok (.bl (decide (r=.tu))) s:=by
 rw [eq_str (z74 r) (by decide +kernel)];congr 2;cases r<;>decide +kernel
theorem zdv(r:Rl)(xs:List D)(hl:xs.length<=4)(s:Sto):jk [.str (nmR r),.tup xs] s=.ok (.tup (mvd r xs)) s:=by
 have e1:=z5y xs 1 s;have e2:=z1c xs 1 s;have cp:(xs.drop 1).length+(xs.take 1).length<=cap:=by simp [cap];omega
 have key:∀ d e:D,d=.str (nmR r)->e=.tup xs->jk [d,e] s=.ok (.tup (mvd r xs)) s:=fun d e hd he=>by
  have st:zy ["rule","numbers"] [d,e]=[some d,some e]:=rfl;have t:tOf (eOp dEq (zc 0) (eC (.str "turn"))) [some d,some e] s=.ok (decide (r=.tu)) s:=by simp only [qJ,wE,xW,kO,List.getElem?_cons_zero,R.bind_ok,hd,z9L]
  simp only [jk,Mof,z7g,st,List.length_cons,List.length_nil,if_true,z4r,xZ,zbj,t,R.bind_ok];by_cases q:r=.tu
  ·simp only [q,decide_true,if_true];subst q;rw [z3V];simp only [wE,z7Z,xW,ui,kA,kO,List.getElem?_cons_zero,List.getElem?_cons_succ,R.bind_ok,he];rw [show (1:Int)=((1:Nat):Int) from rfl,e2,R.bind_ok,e1,R.bind_ok,z4p,if_pos cp];rfl
  ·simp only [q,decide_false];rw [z2j q];simp [he]
 exact key _ _ rfl rfl
theorem z6Y{α β:Type}(f:α->D)(g:β->D):∀ (l:List α)(k:List β),z2h (l.map f) (k.map g)=(l.zip k).map fun p=>D.tup [f p.1,g p.2]
 | [],_=>by simp [z2h] | _::_,[]=>by simp [z2h] | a::l,b::k=>by simp [z2h,z6Y f g l k]
theorem ze4{α β:Type}(r:Rl)(f:α->β)(xs:List α):mvd r (xs.map f)=(mvd r xs).map f:=by unfold mvd rot;split<;>simp [List.map_take,List.map_drop]
theorem z77.q{n m:Nat}{v:List Int}(r:Rl)(h:z77 n m v)(he:ended v=false):Qs v (deal r v).1 (zo v (deal r v)):=zdK h.nn (jo r h.toLot he)
theorem zh9{n m:Nat}{v:List Int}(r:Rl)(h:z77 n m v)(he:ended v=false):∀ q∈zo v (deal r v),0<=q/\q<2 ^ m:=fun q hq=>by
 have Q:=h.q r he;refine ⟨Q.nn q hq,?_⟩;obtain ⟨i,hi,rfl⟩:=List.mem_iff_getElem.mp hq;have hi':i<v.length:=by rw [<- Q.len];exact hi
 simp only [zo,List.getElem_map,List.getElem_range];have b:=h.bd _ (Pm.getD_mem hi');have n0:=wz h.nn i;split
 ·have:=Int.ediv_le_self (v.getD (deal r v).1 0) n0;omega
 ·omega
theorem zfh {n m:Nat} {v:List Int} (r:Rl) (h:z77 n m v) (he:ended v=false) (hm:m<=1999) (s:Sto):M_step [.str (nmR r),rD v] s=.ok (rD (stp r v)) s:=by
 have l4:=h.toLot.le4;have w:=z60 r h.toLot he s;have dv:=z7s r h he hm s;have Q:=h.q r he;have dl:=jo r h.toLot he;have ix:dIx (rD v) (.int ((deal r v).1:Nat)) s=.ok (.int (v.getD (deal r v).1 0)) s:=z4n s dl.lt;have mo:=zdv r (iL (left v (zo v (deal r v)) (deal r v).1)) (by simp [va Q.len];omega) s;have key:∀ d e:D,e=rD v->xP [d,e] s=.ok .non s->wD [d,e] s=.ok (.tup [.int ((deal r v).1:Nat),.lst (iL (zo v (deal r v)))]) s->jk [d,.tup (iL (left v (zo v (deal r v)) (deal r v).1))] s=.ok (.tup (mvd r (iL (left v (zo v (deal r v)) (deal r v).1)))) s-> M_step [d,e] s=.ok (rD (stp r v)) s:=fun d e hd h1 h2 h3=>by
  have st:zy ["rule","lot","by","quotients","left"] [d,e]=[some d,some e,none,none,none]:=rfl;have ixe:dIx e (.int ((deal r v).1:Nat)) s=.ok (.int (v.getD (deal r v).1 0)) s:=by rw [hd];exact ix
  simp only [M_step,Mof,z9o,st,List.length_cons,List.length_nil,if_true];rw [zm (Z':=[some d,some e,none,none,none]) (s':=s) (by simp [h1])];rw [zm (Z':=[some d,some e,some (.int ((deal r v).1:Nat)),some (.lst (iL (zo v (deal r v)))),none]) (s':=s) (by simp [h2])];have ir:zag (zb (zc 1) (zb (zc 3) zi)) [some d,some e,some (.int ((deal r v).1:Nat)),some (.lst (iL (zo v (deal r v)))),none] s=.ok ((v.zip (zo v (deal r v))).map fun p=>D.tup [.int p.1,.int p.2],[]) s:=by simp only [zf4,zp,zF,xW,List.getElem?_cons_zero,List.getElem?_cons_succ,R.bind_ok,hd,z3R,z6Y,List.append_nil]
  have c:=comp_map (mp:=[some 1,some 2,none,none]) (fg:=xO 2 3) (fe:=eOp zcI (zc 2) (eOp ud (zc 3) (eOp dIx (zc 0) (zc 1)))) (fun p:Int×Int=>D.tup [.int p.1,.int p.2]) (fun p:Int×Int=>D.int (p.1-p.2*v.getD (deal r v).1 0)) (fun p=>[some e,some (.int ((deal r v).1:Nat)),some (.int p.1),some (.int p.2)]) _ ir (fun p _=>by simp) (fun p hp=>by
    have hq:=zh9 r h he p.2 (List.of_mem_zip hp).2;have ab:p.2.natAbs<2 ^ m:=by
     have e1:((p.2.natAbs:Nat):Int)=p.2:=Int.natAbs_of_nonneg hq.1;have:((p.2.natAbs:Nat):Int)<((2 ^ m:Nat):Int):=by rw [e1];simpa using hq.2
     omega
    have mu:=zeC (a:=p.2) (b:=v.getD (deal r v).1 0) s ab (by omega) (h.abs _ (Pm.getD_mem dl.lt)) (by omega);simp only [wE,xW,List.getElem?_cons_zero,List.getElem?_cons_succ,R.bind_ok,ixe,mu,zew]) (by simp [cap];omega);have el:(v.zip (zo v (deal r v))).map (fun p:Int×Int=>D.int (p.1-p.2*v.getD (deal r v).1 0))=iL (left v (zo v (deal r v)) (deal r v).1):=by
   unfold left;show _=List.map D.int _;rw [List.zip,List.map_zipWith,List.map_zipWith]
  rw [el] at c;rw [zm (Z':=[some d,some e,some (.int ((deal r v).1:Nat)),some (.lst (iL (zo v (deal r v)))),some (.tup (iL (left v (zo v (deal r v)) (deal r v).1)))]) (s':=s) (by
   rw [z7i,yJ,wS,zp,c];simp only [R.bind_ok,zF,z75,List.set_cons_succ,List.set_cons_zero])];simp only [z6U,xZ,wS,zp,zF,xW,List.getElem?_cons_zero,List.getElem?_cons_succ,R.bind_ok,h3];rw [ze4];rfl
 exact key _ _ rfl w dv mo
theorem vx{M:Mir}{f:FE}{Z:Ev}{s:Sto}{x:D}(h:f Z s=.ok x s):ze M (zb f zi) Z s=M [x] s:=by simp only [wS,zp,zF,h,R.bind_ok]
theorem call2{M:Mir}{f g:FE}{Z:Ev}{s:Sto}{x y:D}(h:f Z s=.ok x s)(h2:g Z s=.ok y s):ze M (zb f (zb g zi)) Z s=M [x,y] s:=by simp only [wS,zp,zF,h,h2,R.bind_ok]
theorem z3p{M:Mir}{f g k:FE}{Z:Ev}{s:Sto}{x y z:D}(h:f Z s=.ok x s)(h2:g Z s=.ok y s)(h3:k Z s=.ok z s):ze M (zb f (zb g (zb k zi))) Z s=M [x,y,z] s:=by simp only [wS,zp,zF,h,h2,h3,R.bind_ok]
theorem op2{o:D->D->Sto->R D}{f g:FE}{Z:Ev}{s:Sto}{x y:D}(h:f Z s=.ok x s)(h2:g Z s=.ok y s):eOp o f g Z s=o x y s:=by simp only [wE,h,h2,R.bind_ok]
theorem z9M{x d:D}{xs:List D}{s:Sto}(h:yd s x=some (xs++[d])):dIx x (.int (-1)) s=.ok d s:=by
 have e:ixN (xs++[d]).length (-1)=some xs.length:=by
  unfold ixN;rw [if_neg (by omega),if_pos (by simp;omega)];congr 1;simp;omega
 simp only [dIx,h,atI,e,Option.bind_some];simp
theorem z7f{i:Int}(h0:0<=i)(h:i<2 ^ 2000):i.natAbs<BIG:=by
 have e:(i.natAbs:Int)=i:=Int.natAbs_of_nonneg h0;have k:(2:Int) ^ 2000<=((BIG:Nat):Int):=by decide +kernel
 exact Int.ofNat_lt.mp (Int.lt_of_lt_of_le (by rw [e];exact h) k)
theorem z1i{a b:Int}(s:Sto)(ha:0<=a)(ha':a<2 ^ 2000)(hb:0<=b)(hb':b<2 ^ 2000):ud (.int a) (.int b) s=.ok (.int (a*b)) s:=by rw [zbN,if_pos ⟨z7f ha ha',z7f hb hb'⟩]
theorem z96{a b:Int}(s:Sto)(hb:0<b)(hb':b<2 ^ 2000):z0c (.int a) (.int b) s=.ok (.int (a / b)) s:=by rw [z5V,if_pos ⟨hb,z7f (by omega) hb'⟩]
theorem zeR(ns:List Int)(k:Nat)(s:Sto):∃ c,yR [.scr (iL ns),.int k] s=.ok (.int c) s:=by
 by_cases h:k<ns.length
 ·have hk:(k:Int)<ns.length:=by omega
  refine ⟨ns[k],?_⟩;have e:ixN (iL ns).length (k:Int)=some k:=by
   unfold ixN;rw [if_pos (by omega),if_pos (by simpa using hk)];simp
  have ix:dIx (.scr (iL ns)) (.int k) s=.ok (.int ns[k]) s:=by
   simp only [dIx,yd,atI,e,Option.bind_some];simp [h]
  simp only [iL] at ix;simp [yR,Mof,vn,zy,wX,yd,hk,ix]
 ·have hk:¬ (k:Int)<ns.length:=by omega
  exact ⟨0,by simp [yR,Mof,vn,zy,wX,yd,hk]⟩
def Pot(s:Sto)(l:Nat):Prop:=∃ p:Int,s[l]? = some [.int p]
structure zbQ(s s':Sto)(l:Nat):Prop where
 pot:Pot s' l
 len:s'.length=s.length
 oth:∀ m,m≠l->s'[m]? = s[m]?
theorem zcm{s:Sto}{l:Nat}{far:Int}(h:Pot s l)(h0:0<far)(h1:far<2 ^ 2000):∃ r s',yu [.loc l,.int far] s=.ok (.int r) s'/\0<=r/\r<far/\zbQ s s' l:=by
 obtain ⟨p,e⟩:=h;have hl:l<s.length:=(List.getElem?_eq_some_iff.mp e).1;refine ⟨p % far,s.set l [.int (p / far)],?_,Int.emod_nonneg _ (by omega),Int.emod_lt_of_pos _ h0,⟨p / far,by rw [List.getElem?_set_self hl]⟩,by simp,fun m hm=>List.getElem?_set_ne (Ne.symm hm)⟩;have ix:dIx (.loc l) (.int 0) s=.ok (.int p) s:=by simp [dIx,yd,e,atI,ixN]
 simp [yu,Mof,kY,zy,ix,z6J s h0,z96 s h0 h1,e,ixN,z0n,List.replicate]
theorem zf0(s:Sto):zek (.int 10) (.int 18) s=.ok (.int 1000000000000000000) s:=by rw [zfO];rfl
theorem pow_step{m r j:Nat}(h:m<2147483648 ^ j)(hr:r<2147483587):m*2147483587+r<2147483648 ^ (j+1):=by
 rw [Nat.pow_succ];generalize 2147483648 ^ j=B at h;omega
theorem zfY{m j:Nat}(h:m<2147483648 ^ j)(hj:j<=64):((m:Nat):Int)<2 ^ 2000:=by
 have h1:2147483648 ^ j<=2147483648 ^ 64:=Nat.pow_le_pow_right (by decide) hj;have h2:2147483648 ^ 64<=2 ^ 2000:=by decide +kernel
 have h3:m<2 ^ 2000:=Nat.lt_of_lt_of_le h (Nat.le_trans h1 h2);have h4:((2 ^ 2000:Nat):Int)=2 ^ 2000:=by decide +kernel
 rw [<- h4];exact Int.ofNat_lt.mpr h3
theorem zhY (c:Int) (s:Sto):∃ p:Int,vg [.int c] s=.ok (.loc s.length) (s++[[.int p]]):=by
 by_cases h:1000000000000000000<=c;·exact ⟨c-1000000000000000000,by simp [vg,Mof,js,zy,zf0,h,D.flat.flats,z0n,cap,List.replicate]⟩
 ·have lp:∃ Z' s',kT [some (.int c),some (.int 0),none,none] s=.ok (.nx Z') s'/\∃ (m:Nat) (a b:Option D),Z'=[some (.int c),some (.int m),a,b]/\s'=s:=by
   obtain ⟨Z',s',e,m,a,b,e1,e2,_⟩:=qR (all:=xB 64) (body:=fun d Z s=>(xw 2 d Z s).bind fun Z' s'=>(zC kU (zC kP kX)) Z' s') (fun j Z s'=>∃ (m:Nat) (a b:Option D),Z=[some (.int c),some (.int m),a,b]/\s'=s/\m<2147483648 ^ j) (xB 64) 0 (fun j x hx Z s' hi=>by
    obtain ⟨m,a,b,rfl,rfl,hm⟩:=hi;obtain ⟨hj,rfl⟩:=z4Z hx;rw [Nat.zero_add] at hm;have r0:=Int.emod_nonneg c (show (2147483629:Int)≠0 by decide);have r1:=Int.emod_lt_of_pos c (show (0:Int)<2147483629 by decide);have a1:z6W (.int c) (.int 2147483629) s'=.ok (.int (c % 2147483629)) s':=z6J s' (by decide);have a2:ud (.int 7919) (.int j) s'=.ok (.int (7919*j)) s':=z1i s' (by decide) (by decide +kernel) (by omega) (by omega);have a3:ud (.int (c % 2147483629+7919*j+1)) (.int 48271) s'=.ok (.int ((c % 2147483629+7919*j+1)*48271)) s':=z1i s' (by omega) (by omega) (by decide) (by decide +kernel);generalize hx1:(c % 2147483629+7919*(j:Int)+1)*48271 % 2147483647=x1;have b0:0<=x1:=by rw [<- hx1];exact Int.emod_nonneg _ (by decide)
    have b1:x1<2147483647:=by rw [<- hx1];exact Int.emod_lt_of_pos _ (by decide)
    have a4:z6W (.int ((c % 2147483629+7919*j+1)*48271)) (.int 2147483647) s'=.ok (.int x1) s':=by rw [<- hx1];exact z6J s' (by decide)
    have a5:ud (.int x1) (.int x1) s'=.ok (.int (x1*x1)) s':=z1i s' b0 (by omega) b0 (by omega);have a6:ud (.int 69621) (.int j) s'=.ok (.int (69621*j)) s':=z1i s' (by decide) (by decide +kernel) (by omega) (by omega);generalize hx2:(x1*x1+69621*(j:Int)+7) % 2147483587=x2;have c0:0<=x2:=by rw [<- hx2];exact Int.emod_nonneg _ (by decide)
    have c1:x2<2147483587:=by rw [<- hx2];exact Int.emod_lt_of_pos _ (by decide)
    have a7:z6W (.int (x1*x1+69621*j+7)) (.int 2147483587) s'=.ok (.int x2) s':=by rw [<- hx2];exact z6J s' (by decide)
    have a8:ud (.int m) (.int 2147483587) s'=.ok (.int (m*2147483587)) s':=z1i s' (by omega) (zfY hm (by omega)) (by decide) (by decide +kernel);obtain ⟨y,rfl⟩:=Int.eq_ofNat_of_zero_le c0;refine ⟨[some (.int c),some (.int ((m*2147483587+y:Nat):Int)),some (.int j),some (.int y)],s',?_,m*2147483587+y,_,_,rfl,rfl,?_⟩;·simp [a1,a2,a3,a4,a5,a6,a7,a8]
    ·rw [Nat.zero_add];exact pow_step hm (by omega)) [some (.int c),some (.int 0),none,none] s ⟨0,none,none,rfl,rfl,by decide⟩;exact ⟨Z',s',by simpa using e,m,a,b,e1,e2⟩
  obtain ⟨Z',s',e,m,a,b,rfl,rfl⟩:=lp;refine ⟨m,?_⟩;have st:zy ["_law_cell","_law_number","_law_j","_law_more"] [.int c]=[some (.int c),none,none,none]:=rfl;simp only [vg,Mof,js,st,List.length_cons,List.length_nil,if_true];rw [zm (Z':=[some (.int c),none,none,none]) (s':=s') (by simp [zf0,h])];rw [zm (Z':=[some (.int c),some (.int 0),none,none]) (s':=s') (by simp)];rw [zm e];simp [D.flat.flats,z0n,cap]
theorem z9w{s:Sto}{l:Nat}{far:Int}{f g:FE}{Z:Ev}(h:Pot s l)(h0:0<far)(h1:far<2 ^ 2000)(hf:f Z s=.ok (.loc l) s)(hg:g Z s=.ok (.int far) s):∃ r s',ze yu (zb f (zb g zi)) Z s=.ok (.int r) s'/\0<=r/\r<far/\zbQ s s' l:=by
 obtain ⟨r,s',e,a,b,c⟩:=zcm h h0 h1;exact ⟨r,s',by rw [call2 hf hg,e],a,b,c⟩
theorem zcC{fa fb fc:FE}{Z:Ev}{s s1 s2:Sto}{L:Nat}{xs:List Int}{i x:Int}(hc:fc Z s=.ok (.int x) s1)(ha:fa Z s1=.ok (.loc L) s1)(hb:fb Z s1=.ok (.int i) s2)(at_:s2[L]? = some (iL xs))(h0:0<=i)(h1:i<xs.length):z3m fa fb fc Z s=.ok (.nx Z) (s2.set L (iL (xs.set i.toNat x))):=by
 have e:ixN (iL xs).length i=some i.toNat:=by
  unfold ixN;rw [if_pos h0,if_pos (by simp;omega)]
 rw [zdV,hc,R.bind_ok,ha,R.bind_ok,hb,R.bind_ok];simp only [at_,e,z0n,if_true,iL,List.map_set]
theorem z9A{x:Int}(h:x<=1000):x<2 ^ 2000:=Int.lt_of_le_of_lt h (by decide +kernel)
instance (A:Tb):Decidable (zit A):=by unfold zit;infer_instance
def okD:Nat->D->Bool
 | _,.non=>true | _,.bl _=>true | _,.int _=>true | _,.str x=>PyData.strOk x | k+1,.tup xs=>xs.all (okD k) | k+1,.lst xs=>xs.all (okD k) | _,_=>false
theorem zhQ{k:Nat}:∀ (xs:List D),(∀ x∈xs,PyData.canLay0 (wd x)=true/\PyData.depth (wd x)<=2*k+3/\PyData.eqv (wd x) (wd x)=true)->PyData.canLayAll0 (toPys xs)=true/\PyData.depthAll (toPys xs)<=2*k+4/\PyData.eqvAll (toPys xs) (toPys xs)=true
 | [],_=>⟨rfl,by simp [toPys,PyData.depthAll],by simp [toPys,PyData.eqvAll]⟩ | x::xs,h=>by
  have h1:=h x (by simp);have h2:=zhQ xs fun y hy=>h y (by simp [hy]);refine ⟨by simp [toPys,PyData.canLayAll0,h1.1,h2.1],?_,by simp [toPys,PyData.eqvAll,h1.2.2,h2.2.2]⟩;simp only [toPys,PyData.depthAll];omega
theorem zfL:∀ (k:Nat)(d:D),okD k d=true->PyData.canLay0 (wd d)=true/\PyData.depth (wd d)<=2*k+3/\PyData.eqv (wd d) (wd d)=true:=by
 intro k;induction k with
 | zero=>
  intro d h;cases d with
  | str x=>simp only [okD] at h;simp [wd,PyData.canLay0,PyData.depth,PyData.eqv,h] | non=>simp [wd,PyData.canLay0,PyData.depth,PyData.eqv] | bl b=>simp [wd,PyData.canLay0,PyData.depth,PyData.eqv] | int i=>simp [wd,PyData.canLay0,PyData.depth,PyData.eqv] | _=>simp [okD] at h
 | succ k ih=>
  intro d h;cases d with
  | str x=>simp only [okD] at h;simp [wd,PyData.canLay0,PyData.depth,PyData.eqv,h] | non=>simp [wd,PyData.canLay0,PyData.depth,PyData.eqv] | bl b=>simp [wd,PyData.canLay0,PyData.depth,PyData.eqv] | int i=>simp [wd,PyData.canLay0,PyData.depth,PyData.eqv] | tup xs=>
   simp only [okD,List.all_eq_true] at h;have q:=zhQ (k:=k) xs fun x hx=>ih x (h x hx);refine ⟨by simp only [wd,PyData.canLay0,q.1],?_,by simp only [wd,PyData.eqv,q.2.2]⟩;simp only [wd,PyData.depth];omega | lst xs=>
   simp only [okD,List.all_eq_true] at h;have q:=zhQ (k:=k) xs fun x hx=>ih x (h x hx);refine ⟨by simp only [wd,PyData.canLay0,q.1],?_,by simp only [wd,PyData.eqv,q.2.2]⟩;simp only [wd,PyData.depth];omega | _=>simp [okD] at h
theorem zbH{k:Nat}{d:D}(h:okD k d=true)(hk:k<=10):zbe d=true:=by
 have q:=zfL k d h;simp only [zbe,SeqAt.shaped,q.1];simp;omega
theorem zd3(k:Nat)(ns:List Int):(iL ns).all (okD k)=true:=by
 rw [List.all_eq_true];intro x hx;obtain ⟨n,_,rfl⟩:=List.mem_map.mp hx;cases k<;>rfl
theorem zci(k:Nat)(ns:List Int):okD (k+1) (rD ns)=true:=zd3 k ns
end Pg
namespace Pn
open PySem.Spec L2 Dd Pm Pg
def isI:D->Bool
 | .int _=>true | _=>false
theorem z6m{d:D}(h:(tyD d).isSome=true)(s:Sto):yt [d] s=.ok (.bl (isI d)) s:=by cases d<;>simp [tyD] at h<;>simp [yt,Mof,jp,zy,gIs,tyD,isT,isI]
theorem z4A{d:D}(h:(tyD d).isSome=true)(s:Sto):qD [d] s=.ok (.bl (isI d)) s:=by cases d<;>simp [tyD] at h<;>simp [qD,Mof,jN,zy,gIs,tyD,isT,isI]
theorem zaO{α:Type}(l:List α)(p:α->Bool)(s:Sto):z8X [.lst (l.map fun x=>D.bl (p x))] s=.ok (.bl (l.all p)) s:=by
 have b:bools (l.map fun x=>D.bl (p x))=some (l.map p):=by
  rw [show (l.map fun x=>D.bl (p x))=(l.map p).map D.bl by rw [List.map_map];rfl];exact z4a _
 simp [z8X,yd,b]
theorem z9b(k:Nat)(b:Bool)(s:Sto):zL (k+1) [.bl b,.bl b] s=.ok (.bl true) s:=by
 have e:dEq (.bl b) (.bl b) s=.ok (.bl true) s:=by rw [zhH];simp
 have d1:dIs (.bl b) .non s=.ok (.bl false) s:=rfl;simp [zL,Mof,vI,zy,zgG,zfk,gIs,tyD,isT,d1]
theorem same_int(k:Nat)(i:Int)(s:Sto):zL (k+1) [.int i,.int i] s=.ok (.bl true) s:=by
 have d1:dIs (.int i) .non s=.ok (.bl false) s:=rfl;have w:=z4A (d:=.int i) rfl s;simp [zL,Mof,vI,zy,zgG,zfk,gIs,tyD,isT,d1,w,isI]
theorem z44:∀ xs:List D,z2h xs xs=xs.map fun x=>D.tup [x,x]
 | []=>rfl | x::xs=>by rw [z2h,z44 xs];rfl
theorem z3l {k:Nat} {xs:List D} {s:Sto} (hl:xs.length<=cap) (h:∀ x∈xs,zL k [x,x] s=.ok (.bl true) s) (d:D) (hd:d=.tup xs\/d=.lst xs):zL (k+1) [d,d] s=.ok (.bl true) s:=by
 have st:zy ["_law_found","_law_due"] [d,d]=[some d,some d]:=rfl;have g:z3R s d=some (xs,[]):=by rcases hd with rfl | rfl<;>rfl
 have c:=comp_map (fi:=zag (zb (zc 0) (zb (zc 1) zi))) (mp:=[none,none]) (fg:=xO 0 1) (fe:=ze (zL k) (zb (zc 0) (zb (zc 1) zi))) (Z:=[some d,some d]) (s:=s) (fun x=>D.tup [x,x]) (fun x=>D.bl true) (fun x=>[some x,some x]) xs (by simp [g,z44]) (fun a _=>by simp) (fun a ha=>by simp [h a ha]) hl;have ga:=zaO xs (fun _=>true) s;have ga:z8X [.lst (xs.map fun _=>D.bl true)] s=.ok (.bl true) s:=by rw [ga];simp
 have gl:wX [d] s=.ok (.int xs.length) s:=by rcases hd with rfl | rfl<;>simp [wX,yd]
 have q4:uD (zL k) [some d,some d] s=.ok (.rt (.bl true)) s:=by simp only [uD,xZ,z9R,wE,wS,zp,zF,c,R.bind_ok,ga,xW,List.getElem?_cons_zero,List.getElem?_cons_succ,gl,z5P,decide_true]
 have q2:jY (zL k) [some d,some d] s=.ok (.nx [some d,some d]) s:=by rcases hd with rfl | rfl<;>simp [gIs,tyD,isT]
 have q1:ux (zL k) [some d,some d] s=.ok (.rt (.bl true)) s:=by
  rw [ux,z5M];have t:tOf (zfk "list" "tuple" (zc 1)) [some d,some d] s=.ok true s:=by rcases hd with rfl | rfl<;>simp [zfk,zgG,tyD,isT]
  rw [t,R.bind_ok,if_pos rfl,zm q2,q4]
 simp only [zL,Mof,vI,st,List.length_cons,List.length_nil,if_true];rw [z2q q1]
end Pn
namespace Pm
end Pm
namespace Pg
open PySem.Spec L2 Dd Pm
theorem vr{i:Nat}{Z:Ev}{s:Sto}{d:D}(h:Z[i]? = some (some d)):zc i Z s=.ok d s:=by rw [xW,h]
theorem zc7{f g:FS}{t:FT}{Z:Ev}{s:Sto}(h:t Z s=.ok false s):fIf t f g Z s=g Z s:=by rw [z5M,h,R.bind_ok,if_neg (by decide)]
theorem zid{t u:FT}{Z:Ev}{s:Sto}(h:t Z s=.ok false s)(h2:u Z s=.ok false s):fOr t u Z s=.ok false s:=by rw [zfv,h,R.bind_ok,if_neg (by decide),h2]
theorem z1F{f:FE}{Z:Ev}{s:Sto}{b:Bool}(h:f Z s=.ok (.bl b) s):tOf f Z s=.ok b s:=by rw [qJ,h];rfl
theorem zfH{t:FT}{Z:Ev}{s:Sto}(h:t Z s=.ok true s):z3S t Z s=.ok false s:=by rw [z5i,h];rfl
end Pg
namespace Pm
def Pr(p:Int):Prop:=∀ x y:Int,p ∣ x*y->p ∣ x\/p ∣ y
def nrm(r a b c:Int):Int:=a*a*a+r*(b*b*b)+r*r*(c*c*c)-3*r*(a*b*c)
end Pm
namespace Pg
open PySem.Spec L2 Dd Pm
variable (Mr:Mir)
abbrev w1:FT:=tOf (eOp dLe (eOp zfQ (zc 1) (eC (.int 3))) (zc 0))
abbrev w2:FT:=tOf (eOp dGt (eOp zfQ (zc 1) (eC (.int 3))) (zc 0))
end Pg
namespace Pm
section
variable {r F G:Int}
structure A3(N:Nat)(a b c:Int):Prop where
 a:a.natAbs<=N
 b:b.natAbs<=N
 c:c.natAbs<=N
end
end Pm
namespace Pg
open PySem.Spec L2 Dd Pm
abbrev cD(a b c:Int):D:=.tup [.int a,.int b,.int c]
theorem z6H:∀ xs:List D,z2h xs xs=xs.map fun x=>D.tup [x,x]
 | []=>rfl | x::xs=>by simp [z2h,z6H xs]
section
variable (Mr:Mir)
theorem same_int(i:Int)(s:Sto):Mof ["_law_found","_law_due"] 2 (zJ Mr) [.int i,.int i] s=.ok (.bl true) s:=by simp [Mof,zJ,zy,gIs,tyD,isT,dIs,xh,uY]
theorem z9b(i:Bool)(s:Sto):Mof ["_law_found","_law_due"] 2 (zJ Mr) [.bl i,.bl i] s=.ok (.bl true) s:=by simp [Mof,zJ,zy,gIs,tyD,isT,dIs]
theorem zbh(s:Sto):Mof ["_law_found","_law_due"] 2 (zJ Mr) [.non,.non] s=.ok (.bl true) s:=by simp [Mof,zJ,zy,dIs]
theorem z3l {xs:List D} {d:D} (hd:d=.tup xs\/d=.lst xs) (hl:xs.length<=cap) (s:Sto) (h:∀ x∈xs,Mr [x,x] s=.ok (.bl true) s):Mof ["_law_found","_law_due"] 2 (zJ Mr) [d,d] s=.ok (.bl true) s:=by
 have st:zy ["_law_found","_law_due"] [d,d]=[some d,some d]:=rfl;have cp:=comp_map (fi:=zag (zb (zc 0) (zb (zc 1) zi))) (mp:=[none,none]) (fg:=xO 0 1) (fe:=ze Mr (zb (zc 0) (zb (zc 1) zi))) (Z:=[some d,some d]) (s:=s) (fun x=>D.tup [x,x]) (fun _=>D.bl true) (fun x=>[some x,some x]) xs (by rcases hd with rfl | rfl<;>simp [z3R,z6H]) (fun x _=>by simp) (fun x hx=>by rw [call2 (x:=x) (y:=x) (by simp) (by simp)];exact h x hx) hl;have ga:ze z8X (zb (zA (zag (zb (zc 0) (zb (zc 1) zi))) [none,none] (xO 0 1) wU (ze Mr (zb (zc 0) (zb (zc 1) zi)))) zi) [some d,some d] s=.ok (.bl true) s:=by
  rw [vx cp];exact z6L s (by intro x hx;obtain ⟨_,_,rfl⟩:=List.mem_map.mp hx;rfl)
 simp only [Mof,zJ,st,List.length_cons,List.length_nil,if_true];have e1:ze wX (zb (zc 0) zi) [some d,some d] s=.ok (.int xs.length) s:=by rcases hd with rfl | rfl<;>simp [wX,yd]
 have e2:ze wX (zb (zc 1) zi) [some d,some d] s=.ok (.int xs.length) s:=by rcases hd with rfl | rfl<;>simp [wX,yd]
 have f1:qb Mr [some d,some d] s=.ok (.nx [some d,some d]) s:=by rcases hd with rfl | rfl<;>simp [dIs]
 have f3:qa Mr [some d,some d] s=.ok (.nx [some d,some d]) s:=by rcases hd with rfl | rfl<;>simp [gIs,tyD,isT]
 have f5:uX Mr [some d,some d] s=.ok (.nx [some d,some d]) s:=by rcases hd with rfl | rfl<;>simp [gIs,tyD,isT]
 have f7:uW Mr [some d,some d] s=.ok (.nx [some d,some d]) s:=by rcases hd with rfl | rfl<;>simp [gIs,tyD,isT]
 have f9:uV Mr [some d,some d] s=.ok (.nx [some d,some d]) s:=by rcases hd with rfl | rfl<;>simp [gIs,tyD,isT]
 have f11:ww Mr [some d,some d] s=.ok (.rt (.bl true)) s:=by
  rw [ww,xZ,z9R,op2 e1 e2,z5P];simp only [R.bind_ok,decide_true];rw [ga];rfl
 rw [zm f1,zm f3,zm f5,zm f7,zm f9,f11]
end
def smD:Nat->D->Bool
 | _,.int _=>true | _,.bl _=>true | _,.non=>true | k+1,.tup xs=>xs.all (smD k)&&decide (xs.length<=cap) | k+1,.lst xs=>xs.all (smD k)&&decide (xs.length<=cap) | _,_=>false
theorem z3E:∀ (k:Nat)(d:D)(s:Sto),smD k d=true->xc (k+1) [d,d] s=.ok (.bl true) s
 | k,.int i,s,_=>same_int _ i s | k,.bl i,s,_=>z9b _ i s | k,.non,s,_=>zbh _ s | k+1,.tup xs,s,h=>by
  simp only [smD,Bool.and_eq_true,List.all_eq_true,decide_eq_true_eq] at h;exact z3l _ (.inl rfl) h.2 s fun x hx=>z3E k x s (h.1 x hx) | k+1,.lst xs,s,h=>by
  simp only [smD,Bool.and_eq_true,List.all_eq_true,decide_eq_true_eq] at h;exact z3l _ (.inr rfl) h.2 s fun x hx=>z3E k x s (h.1 x hx) | 0,.tup xs,s,h=>by simp [smD] at h | 0,.lst xs,s,h=>by simp [smD] at h | 0,.str xs,s,h=>by simp [smD] at h | k+1,.str xs,s,h=>by simp [smD] at h | 0,.dct,s,h=>by simp [smD] at h | k+1,.dct,s,h=>by simp [smD] at h | 0,.loc l,s,h=>by simp [smD] at h | 0,.dlo l,s,h=>by simp [smD] at h | k+1,.loc l,s,h=>by simp [smD] at h | k+1,.dlo l,s,h=>by simp [smD] at h | 0,.fn l,s,h=>by simp [smD] at h | k+1,.fn l,s,h=>by simp [smD] at h | 0,.exc l,s,h=>by simp [smD] at h | k+1,.exc l,s,h=>by simp [smD] at h | 0,.scr l,s,h=>by simp [smD] at h | k+1,.scr l,s,h=>by simp [smD] at h
abbrev v1:FT:=tOf (eOp dLe (eOp ud (eOp ud (zc 2) (zc 2)) (zc 2)) (zc 0))
abbrev v2:FT:=tOf (eOp dGt (eOp zcI (zc 2) (zc 1)) (eC (.int 1)))
theorem ke{ar:FA}{Z:Ev}{s s1:Sto}{n:Nat}(hn:n<=1000)(h:ar Z s=.ok [.int n] s1):z07 ar Z s=.ok ((List.range n).map fun k:Nat=>D.int ((k:Nat):Int),[]) s1:=by
 rw [zcb,h,Dd.R.bind_ok];simp only;rw [if_pos ⟨by omega,by omega⟩];simp [xB]
theorem three{ys:List D}{Q:D->Prop}(h:ys.length=3)(hq:∀ y∈ys,Q y):∃ a b c,ys=[a,b,c]/\Q a/\Q b/\Q c:=by match ys,h with | [a,b,c],_=>exact ⟨a,b,c,rfl,hq a (by simp),hq b (by simp),hq c (by simp)⟩
end Pg
namespace Pn
open PySem.Spec L2 Dd Pm Pg
theorem rngI{n:Nat}{ar:FA}{Z:Ev}{s s1:Sto}{z:Int}(hz:z=n)(hn:n<=1000)(h:ar Z s=.ok [.int z] s1):z07 ar Z s=.ok (xB n,[]) s1:=by
 subst hz;exact z8A hn h
def mt(a b c d e f:Bool):Nat->Nat->Bool
 | 0,1=>a | 0,2=>b | 0,3=>c | 1,2=>d | 1,3=>e | 2,3=>f | 1,0=>!a | 2,0=>!b | 3,0=>!c | 2,1=>!d | 3,1=>!e | 3,2=>!f | _,_=>false
def trn(n:Nat)(lt:Nat->Nat->Bool):Bool:=(List.range n).all fun i=>(List.range n).all fun j=>(List.range n).all fun k=>!(lt i j&&lt j k)||lt i k
def gud(n:Nat)(lt:Nat->Nat->Bool):Bool:=match kev n lt (W.kas_sort n) with
 | none=>false | some p=>decide (p.toList.Perm (List.range n))&&decide (p.toList.Pairwise fun i j=>lt i j=true)
theorem ziv:∀ a b c d e f:Bool,trn 4 (mt a b c d e f)=true->gud 4 (mt a b c d e f)=true:=by decide +kernel
theorem zcR(p:Int×Int):lexLt p p=false:=by simp [Dd.lexLt]
theorem z92{p q:Int×Int}(h:p≠q):lexLt q p=!lexLt p q:=by
 obtain ⟨a,b⟩:=p;obtain ⟨c,d⟩:=q;simp only [Dd.lexLt];by_cases e:a=c
 ·subst e;have:b≠d:=fun z=>h (by rw [z]);simp only [if_true,this,this.symm,if_false];by_cases l:b<d;·simp [l];omega
  ·simp [l];omega
 ·have e':¬ c=a:=fun z=>e z.symm;simp only [e,e',if_false];by_cases l:a<c;·simp [l];omega
  ·simp [l];omega
theorem z8v{p q:Int×Int}:Dd.lexLt p q=true ↔ p.1<q.1\/(p.1=q.1/\p.2<q.2):=by
 obtain ⟨a,b⟩:=p;obtain ⟨c,d⟩:=q;simp only [Dd.lexLt];by_cases e:a=c
 ·subst e;by_cases e2:b=d
  ·subst e2;simp
  ·simp [e2]
 ·simp [e]
theorem zc9{p q r:Int×Int}(h:Dd.lexLt p q=true)(h':Dd.lexLt q r=true):Dd.lexLt p r=true:=by
 rw [z8v] at *;omega
abbrev pD(p:Int×Int):D:=.tup [.int p.1,.int p.2]
end Pn
namespace Pm
open L2 (maxL minL maxL_ge maxL_mem minL_le minL_mem)
abbrev enP(v:List Int):List (Int×Nat):=v.zipIdx
def zaz(v:List Int):List (Int×Int):=((enP v).filter fun p=>decide (0<p.1)).map fun p=>(p.1,(p.2:Int))
theorem z66{v:List Int}{p:Int×Nat}:p∈enP v ↔ v[p.2]? = some p.1:=by
 obtain ⟨x,i⟩:=p;exact List.mem_zipIdx_iff_getElem?
theorem wZ{v:List Int}{a:Int×Int}:a∈zaz v ↔ ∃ i:Nat,a.2=i/\v[i]? = some a.1/\0<a.1:=by
 unfold zaz;simp only [List.mem_map,List.mem_filter,decide_eq_true_eq];constructor
 ·rintro ⟨p,⟨hp,h0⟩,rfl⟩;exact ⟨p.2,rfl,z66.mp hp,h0⟩
 ·rintro ⟨i,e,g,h0⟩;exact ⟨(a.1,i),⟨z66.mpr g,h0⟩,by rw [<- e]⟩
theorem z8B{x:Int}:∀ {v:List Int}{i:Nat},v[i]? = some x->v.idxOf x<=i
 | [],i,h=>by simp at h | y::v,0,h=>by
  simp only [List.getElem?_cons_zero,Option.some.injEq] at h;subst h;simp | y::v,i+1,h=>by
  simp only [List.getElem?_cons_succ] at h;have:=z8B h;rw [List.idxOf_cons];cases y==x<;>simp<;>omega
theorem getD_get{v:List Int}{i:Nat}(h:i<v.length):v[i]? = some (v.getD i 0):=by simp [List.getD_eq_getElem?_getD,h]
theorem z6n{n:Nat}{v:List Int}(h:Lot n v)(a:Int×Int):a∈zaz (others v) ↔ a∈zaz v/\a.2≠((gp v:Nat):Int):=by
 have ne:=h.ne;rw [wZ,wZ];constructor
 ·rintro ⟨i,e,g,h0⟩;have hi:i<(others v).length:=by
   have:=(List.getElem?_eq_some_iff.mp g).1;exact this
  have g2:=vq ne i;rw [getD_get hi,Option.some.injEq,g2] at g;split at g;·omega
  ·rename_i q;rw [xX ne] at hi;exact ⟨⟨i,e,by rw [getD_get hi,g],h0⟩,by omega⟩
 ·rintro ⟨⟨i,e,g,h0⟩,hg⟩;have hi:i<v.length:=(List.getElem?_eq_some_iff.mp g).1;rw [getD_get hi,Option.some.injEq] at g;refine ⟨i,e,?_,h0⟩;rw [getD_get (by rw [xX ne];exact hi),vq ne i,if_neg (by omega),g]
theorem z9m{n:Nat}{v:List Int}(h:Lot n v):∀ x∈others v,0<=x:=fun x hx=>by
 rw [others_eq h.ne] at hx;rcases List.mem_or_eq_of_mem_set hx with q | q;·exact h.nn x q
 ·omega
theorem z9d{w:List Int}{qs:List (Int×Int)}(hw:∀ x∈w,0<=x)(hn:nz w≠[])(hm:∀ a,a∈qs ↔ a∈zaz w):qs.map Prod.fst≠[]/\maxL (qs.map Prod.fst)=maxL w/\0<maxL w:=by
 have wne:w≠[]:=fun z=>hn (by rw [z];rfl);obtain ⟨y,hy⟩:=List.exists_mem_of_ne_nil _ hn;obtain ⟨y1,y2⟩:=ub.mp hy;have p0:0<maxL w:=by
  have:=hw y y1;have:=maxL_ge (xs:=w) y y1;omega
 have mw:=maxL_mem wne;obtain ⟨i1,i2⟩:=z4B mw;have hin:(maxL w,((w.idxOf (maxL w):Nat):Int))∈qs:=(hm _).mpr (wZ.mpr ⟨_,rfl,by rw [getD_get i1,i2],p0⟩);have hin':maxL w∈qs.map Prod.fst:=List.mem_map.mpr ⟨_,hin,rfl⟩;have ne:qs.map Prod.fst≠[]:=List.ne_nil_of_mem hin';refine ⟨ne,?_,p0⟩;have h1:=maxL_ge _ hin';have h2:=maxL_mem ne;obtain ⟨a,ha,e⟩:=List.mem_map.mp h2;obtain ⟨i,_,g,_⟩:=wZ.mp ((hm a).mp ha);have h3:=maxL_ge (xs:=w) a.1 (List.mem_of_getElem? g);omega
abbrev P3:=Int×Int×Int
def nP(r:Int)(p:P3):Int:=nrm r p.1 p.2.1 p.2.2
def aP(N:Nat)(p:P3):Prop:=A3 N p.1 p.2.1 p.2.2
end Pm
namespace Pg
open PySem.Spec L2 Dd Pm
abbrev cP(p:P3):D:=cD p.1 p.2.1 p.2.2
def IsC(r:Int)(N:Nat)(y:D):Prop:=∃ p:P3,y=cP p/\aP N p/\0<=nP r p
end Pg
namespace Po
open PySem.Spec L2 Dd Pm Pg Pn
theorem z47:∀ (v:List Int)(k:Nat),z0y k (iL v)=(v.zipIdx k).map fun p=>D.tup [.int ((p.2:Nat):Int),.int p.1]
 | [],k=>rfl | x::v,k=>by simp [z0y,z47 v (k+1)]
theorem zaw{v:List Int}{f:FE}{Z:Ev}{s:Sto}(hf:f Z s=.ok (rD v) s):z2K (zb f zi) Z s=.ok ((enP v).map fun p=>D.tup [.int ((p.2:Nat):Int),.int p.1],[]) s:=by simp only [z2K,zp,hf,R.bind_ok,zF,z3R,z47]
structure LD(d:D)(v:List Int):Prop where
 eq:d=rD v
 ix:∀ (s:Sto)(i:Nat),i<v.length->dIx d (.int ((i:Nat):Int)) s=.ok (.int (v.getD i 0)) s
 mx:∀ s:Sto,wa [d] s=.ok (.int (maxL v)) s
 len:∀ s:Sto,wX [d] s=.ok (.int v.length) s
theorem LD.of{n:Nat}{v:List Int}(h:Lot n v):LD (rD v) v:=⟨rfl,fun s i hi=>z4n s hi,fun s=>z2m s h.ne,fun s=>by simp [wX,yd]⟩
section
variable {n:Nat}{v:List Int}{d e:D}(h:Lot n v)(D:LD d v)(he:ended v=false){a0 a1 a2 a3 a4 a5 a6 a7 a8 a9 a10 a11 a12:Option Dd.D}(s:Sto)
include h D
end
theorem zig(r:Rl)(s:Sto):dEq (.str (nmR r)) (.str "least") s=.ok (.bl (decide (r=.le))) s:=by
 rw [Pg.eq_str (z74 r) (by decide +kernel)];congr 2;cases r<;>decide +kernel
theorem zgR(r:Rl)(s:Sto):dEq (.str (nmR r)) (.str "next") s=.ok (.bl (decide (r=.nx))) s:=by
 rw [Pg.eq_str (z74 r) (by decide +kernel)];congr 2;cases r<;>decide +kernel
structure RD(e:D)(r:Rl):Prop where
 eq:e=.str (nmR r)
 le:∀ s:Sto,dEq e (.str "least") s=.ok (.bl (decide (r=.le))) s
 nx:∀ s:Sto,dEq e (.str "next") s=.ok (.bl (decide (r=.nx))) s
 tu:∀ s:Sto,dEq e (.str "turn") s=.ok (.bl (decide (r=.tu))) s
 in_:∀ s:Sto,z5o false e (.tup [.str "next",.str "least"]) s=.ok (.bl (decide (r=.nx\/r=.le))) s
theorem RD.of(r:Rl):RD (.str (nmR r)) r:=⟨rfl,zig r,zgR r,z9L r,fun s=>by cases r<;>rfl⟩
section
variable {n:Nat}{v:List Int}{d e:D}(h:Lot n v){a0 a1 a2 a3 a4 a5 a6 a7 a8 a9 a10 a11 a12:Option Dd.D}(s:Sto){qs:List (Int×Int)}
variable (he:ended v=false)(hm:∀ a,a∈qs ↔ a∈zaz v)(pw:qs.Pairwise fun a b=>Dd.lexLt a b=true)(hl:qs.length<=4)
include h he hm pw
include hl
omit pw hl hm
omit he
end
theorem zde{fa fb:FE}{Z:Ev}{s s2:Sto}{L:Nat}{xs:List D}{x:D}(ha:fa Z s=.ok (.loc L) s)(hb:fb Z s=.ok x s2)(at_:s2[L]? = some xs)(hl:xs.length<1000)(hx:x.flat=true):qT (zc5 fa fb) Z s=.ok (.nx Z) (s2.set L (xs++[x])):=by
 rw [kE,zcs,ha,R.bind_ok];simp only;rw [hb,R.bind_ok];simp only [at_];rw [if_pos ⟨hx,by simp [cap];omega⟩];rfl
theorem z5R{f g:FS}{t:FT}{Z:Ev}{s:Sto}(h:t Z s=.ok true s):fIf t f g Z s=f Z s:=by rw [z5M,h,R.bind_ok,if_pos rfl]
section
variable {n m:Nat}{v:List Int}{d e:D}(h:z77 n m v)(D:LD d v)(hm:m<=1999){a0 a1 a2 a3 a4 a5 a6 a7 a8 a9 a10 a11 a12:Option Dd.D}(s:Sto){b:Nat}(hb:b<v.length)
include h hm in
theorem zeA{i:Nat}(hi:i<v.length):0<=v.getD i 0/\v.getD i 0<2 ^ 2000:=by
 refine ⟨h.nn _ (Pm.getD_mem hi),Int.lt_of_lt_of_le (h.bd _ (Pm.getD_mem hi)) ?_⟩;have:(2:Nat) ^ m<=2 ^ 2000:=Nat.pow_le_pow_right (by decide) (by omega);have:=Int.ofNat_le.mpr this;simpa using this
include h D hm hb
omit h D hm
theorem z8G(Q:List Int)(hQ:Q.length=v.length)(z:Int):((enP v).map fun p:Int×Nat=>Dd.D.int (p.1-Q.getD p.2 0*z))=iL (List.zipWith (fun x q=>x-q*z) v Q):=by
 apply List.ext_getElem;·simp [enP,hQ]
 ·intro i h1 h2;have hi:i<v.length:=by simpa [enP] using h1
  simp [enP,List.getD_eq_getElem?_getD,hQ,hi]
include h D hm
end
theorem z9S{α:Type}{fi:FI}{mp:List (Option Nat)}{fg:FG}{fe:FE}{Z:Ev}{s:Sto}(g f:α->D)(ev:α->Ev)(l:List α) (hi:fi Z s=.ok (l.map g,[]) s)(hg:∀ a∈l,fg (g a) (yh mp Z) s=.ok (ev a) s)(he:∀ a∈l,fe (ev a) s=.ok (f a) s)(hl:l.length<=cap)(hf:D.flat.flats (l.map f)=true): kN fi mp fg wU fe Z s=.ok (.loc s.length) (s++[l.map f]):=by
 rw [zam,z3G,hi,R.bind_ok];rw [ug g f (fun _=>true) l [] (by
  intro a ha;simp only [hg a ha,R.bind_ok];simp [he a ha]) (by simpa using hl)];rw [show l.filter (fun _=>true)=l from List.filter_eq_self.mpr (by simp)];simp only [List.nil_append,R.bind_ok];rw [if_pos hf]
theorem z6r(xs:List D)(k:Nat):cutD xs none (some ((k:Nat):Int))=xs.take k:=by
 have:=z5y xs k [];simpa [dSl] using this
theorem z0t(xs:List D)(k:Nat):cutD xs (some ((k:Nat):Int)) none=xs.drop k:=by
 have:=z1c xs k [];simpa [dSl] using this
theorem z0J{line:List Int}{b:Nat}(hb:b<line.length)(q:Int):yE b line q=line.set b (line.getD b 0+q):=by
 unfold yE;rw [List.set_eq_take_append_cons_drop,if_pos hb];simp
def zt(n i:Nat):List Int:=(List.range n).map fun c=>if i=c then 1 else 0
theorem zc4{x:D}{xs:List D}{k:Nat}{Z:Ev}{s:Sto}(hx:Z[k]? = some (some x))(hl:Dd.listOf s x=some xs)(h:x=.lst xs\/∃ l,x=.loc l)(hc:xs.length<=4):eOp qQ (eSl (zc k) (wC (eC (.int 1))) zP) (eSl (zc k) zP (wC (eC (.int 1)))) Z s=.ok (.lst (rot xs)) s:=by
 have d1:dSl x (some 1) none s=.ok (.lst (xs.drop 1)) s:=by
  rcases h with rfl | ⟨l,rfl⟩
  ·have:=z0t xs 1;simp only [dSl,hl];exact congrArg (fun z=>R.ok (D.lst z) s) this
  ·have:=z0t xs 1;simp only [dSl,hl];exact congrArg (fun z=>R.ok (D.lst z) s) this
 have d2:dSl x none (some 1) s=.ok (.lst (xs.take 1)) s:=by
  rcases h with rfl | ⟨l,rfl⟩
  ·have:=z6r xs 1;simp only [dSl,hl];exact congrArg (fun z=>R.ok (D.lst z) s) this
  ·have:=z6r xs 1;simp only [dSl,hl];exact congrArg (fun z=>R.ok (D.lst z) s) this
 rw [wE,z7Z,vr hx,R.bind_ok,kA,kO,R.bind_ok];simp only [R.bind_ok,ui];rw [d1,R.bind_ok,z7Z,vr hx,R.bind_ok];simp only [R.bind_ok,ui,kA,kO];rw [d2,R.bind_ok,zfc,if_pos (by simp [cap];omega)];rfl
section
variable {n m:Nat}{v:List Int}{d e:D}{r:Rl}(h:z77 n m v)(E:RD e r){a0 a1 a2 a3 a4 a5 a6 a7 a8 a9 a10 a11 a12:Option Dd.D}{b:Nat}(hb:b<v.length){Q:List Int}(hQ:Q.length=v.length)
include h E hb hQ
end
def ziQ(r:Rl)(b n:Nat)(Q:List Int)(i:Nat):D:=rD (mvd r (yE b (zt n i) (Q.getD i 0)))
theorem z9v(r:Rl)(b:Nat)(Q:List Int):tD (zgN r b Q)=.tup ((List.range Q.length).map (ziQ r b Q.length Q)):=by
 show D.tup _=D.tup _;congr 1;apply List.ext_getElem;·simp [zgN,one]
 ·intro i h1 h2;have hi:i<Q.length:=by simpa using h2
  simp [zgN,one,ziQ,zt,hi]
section
variable {n m:Nat}{v:List Int}{d e:D}{r:Rl}(h:z77 n m v)(E:RD e r){a0 a1 a2 a3 a4 a5 a6 a7 a8 a9 a10 a11 a12:Option Dd.D}{b:Nat}(hb:b<v.length){Q:List Int}(hQ:Q.length=v.length)
include h E hb hQ
end
theorem zaI(w:List Int)(T:Tb):(D.tup [rD w,tD T]).flat=true:=by
 have h1:(rD w).flat=true:=xq _;have h2:(tD T).flat=true:=by
  show D.flat.flats (T.map rD)=true;induction T with
  | nil=>rfl | cons r T ih=>
   show ((rD r).flat&&D.flat.flats (T.map rD))=true;rw [ih,Bool.and_true];exact xq r
 show ((rD w).flat&&((tD T).flat&&D.flat.flats []))=true;rw [h1,h2];rfl
section
variable {n m:Nat}{v:List Int}(r:Rl)(h:z77 n m v)(he:ended v=false)(hm:m<=1999)
include h he hm
end
end Po
namespace Pr
open PySem.Spec L2 Dd Pm Pg Pn Po
theorem z4F(x q:Int×Int):lexN [x.1,x.2] [q.1,q.2]=Dd.lexLt x q:=by simp only [lexN,Dd.lexLt]
theorem z16:∀ (qs:List (Int×Int))(q:Int×Int),∃ m,(m=q\/m∈qs)/\z7p [q.1,q.2] (qs.map fun p=>[p.1,p.2])=[m.1,m.2]/\Dd.lexLt q m=false/\∀ x∈qs,Dd.lexLt x m=false
 | [],q=>⟨q,.inl rfl,rfl,zcR q,by simp⟩ | x::qs,q=>by
  by_cases c:Dd.lexLt x q=true
  ·obtain ⟨m,h1,h2,h3,h4⟩:=z16 qs x;refine ⟨m,.inr ?_,?_,?_,fun y hy=>?_⟩
   ·rcases h1 with rfl | h1;·exact .head _
    ·exact .tail _ h1
   ·rw [List.map_cons,z7p,z4F,c,if_pos rfl];exact h2
   ·cases z:Dd.lexLt q m with
    | false=>rfl | true=>rw [zc9 c z] at h3;cases h3
   ·rcases List.mem_cons.mp hy with rfl | hy;·exact h3
    ·exact h4 y hy
  ·have c':Dd.lexLt x q=false:=by simpa using c
   obtain ⟨m,h1,h2,h3,h4⟩:=z16 qs q;refine ⟨m,h1.imp id fun h=>.tail _ h,?_,h3,fun y hy=>?_⟩;·rw [List.map_cons,z7p,z4F,c',if_neg (by decide)];exact h2
   ·rcases List.mem_cons.mp hy with rfl | hy;·cases z:Dd.lexLt y m with
     | false=>rfl | true=>
      exfalso;by_cases e:q=m;·rw [<- e] at z;rw [z] at c';cases c'
      ·have t:=z92 e;rw [h3] at t;rw [zc9 z t] at c';cases c'
    ·exact h4 y hy
theorem z5r(qs:List (Int×Int)):z3W (qs.map pD)=some (qs.map fun p=>[p.1,p.2]):=by
 have:=z58 (qs.map fun p=>[p.1,p.2]);rw [List.map_map] at this;exact this
theorem z5z{qs:List (Int×Int)}(hne:qs≠[])(s:Sto):∃ m∈qs,z83 [.lst (qs.map pD)] s=.ok (pD m) s/\∀ x∈qs,Dd.lexLt x m=false:=by cases qs with
 | nil=>exact absurd rfl hne | cons q qs=>
  obtain ⟨m,h1,h2,h3,h4⟩:=z16 qs q;refine ⟨m,?_,?_,fun x hx=>?_⟩
  ·rcases h1 with rfl | h1;·exact .head _
   ·exact .tail _ h1
  ·have tp:=z5r (q::qs);simp only [z83,yd,Option.bind_some];rw [tp];show R.ok (D.tup ((z7p [q.1,q.2] (qs.map fun p=>[p.1,p.2])).map D.int)) s=_;rw [h2];rfl
  ·rcases List.mem_cons.mp hx with rfl | hx;·exact h3
   ·exact h4 x hx
theorem z9Q{w:List Int}{qs:List (Int×Int)}{m:Int×Int}(hw:∀ x∈w,0<=x)(hn:nz w≠[])(hm:∀ a,a∈qs ↔ a∈zaz w)(mq:m∈qs)(ml:∀ x∈qs,Dd.lexLt x m=false):m=(minL (nz w),((lp w:Nat):Int)):=by
 obtain ⟨l1,l2,l3⟩:=z5L hn;have mem:=minL_mem hn;have m0:0<minL (nz w):=by
  have:=hw _ (ub.mp mem).1;omega
 have hin:(minL (nz w),((lp w:Nat):Int))∈zaz w:=wZ.mpr ⟨lp w,rfl,by rw [getD_get l1,l2],m0⟩;have lx:=ml _ ((hm _).mpr hin);by_cases e:(minL (nz w),((lp w:Nat):Int))=m;·exact e.symm
 ·exfalso;have t:=z92 e;rw [lx] at t;have t:=z8v.mp t;obtain ⟨i,ei,g,h0⟩:=wZ.mp ((hm m).mp mq);have an:m.1∈nz w:=ub.mpr ⟨List.mem_of_getElem? g,by omega⟩;have le1:=minL_le _ an;simp only at t;rcases t with q | ⟨q,q2⟩;·omega
  ·have:w.idxOf m.1<=i:=z8B g;rw [q] at this;have e2:lp w=w.idxOf (minL (nz w)):=rfl;omega
def kI(v:List Int):List (Int×Int):=((List.range v.length).filter fun i=>decide (i≠gp v)&&decide (0<v.getD i 0)).map fun i=>(v.getD i 0,((i:Nat):Int))
theorem zav{n:Nat}{v:List Int}(h:Lot n v)(a:Int×Int):a∈kI v ↔ a∈zaz (others v):=by
 rw [z6n h,wZ];unfold kI;simp only [List.mem_map,List.mem_filter,List.mem_range,Bool.and_eq_true,decide_eq_true_eq];constructor
 ·rintro ⟨i,⟨hi,h1,h2⟩,rfl⟩;exact ⟨⟨i,rfl,getD_get hi,h2⟩,by simp only;omega⟩
 ·rintro ⟨⟨i,e,g,h0⟩,hg⟩;have hi:i<v.length:=(List.getElem?_eq_some_iff.mp g).1;have e1:v.getD i 0=a.1:=by have:=getD_get hi;rw [g] at this;exact (Option.some.inj this).symm
  exact ⟨i,⟨hi,by omega,by omega⟩,Prod.ext e1 e.symm⟩
theorem zc0{ns:List Int}(s:Sto)(h:ns≠[]):jn [.lst (iL ns)] s=.ok (.int (minL ns)) s:=by
 obtain ⟨a,t,e⟩:=List.exists_cons_of_ne_nil h;rw [e];simp only [jn,yd,Option.bind_some,iL];rw [vh]
theorem zhX(r:Rl)(s:Sto):dEq (.str (nmR r)) (.str "all") s=.ok (.bl (decide (r=.al))) s:=by
 rw [Pg.eq_str (z74 r) (by decide +kernel)];congr 2;cases r<;>decide +kernel
theorem zch{v:List Int}(h:∀ x∈v,0<=x):(v.filter fun x=>decide (0<x))=nz v:=by
 unfold nz;refine List.filter_congr fun x hx=>?_;have:=h x hx;by_cases q:x=0;·simp [q]
 ·have:0<x:=by omega
  simp [q,this]
theorem zea(v:List Int):(List.range v.length).drop 1=xt v 0:=by
 unfold xt;cases hn:v.length with
 | zero=>rfl | succ k=>
  rw [List.range_succ_eq_map];simp [List.filter_map];congr 1;symm;exact List.filter_eq_self.mpr fun a _=>by simp
abbrev E7(a0 a1 a2 a3 a4 a5 a6:Option D):Ev:=[a0,a1,a2,a3,a4,a5,a6]
section
variable {n:Nat}{v:List Int}(r:Rl)(h:Lot n v)(he:ended v=false)
include h he
theorem zeZ (s:Sto):zR [.str (nmR r),rD v] s=.ok (qf (deal r v)) s:=by
 have l4:=h.le4;have key:∀ d e:D,LD d v->RD e r->(dEq e (.str "all") s=.ok (.bl (decide (r=.al))) s)->zR [e,d] s=.ok (qf (deal r v)) s:=fun d e D E al=>by
  have st:zy ["_law_rule","_law_lot_here","_law_places","_law_by","_law_top","_law_others","_law_greatest"] [e,d]=E7 (some e) (some d) none none none none none:=rfl;have f1:yM (E7 (some e) (some d) none none none none none) s=.ok (.nx (E7 (some e) (some d) (some (.lst (nL (List.range v.length)))) none none none none)) s:=by
   rw [yM,yJ,zhc,zp,vx (x:=d) (vr rfl),D.len,R.bind_ok,zF];simp only [R.bind_ok];rw [if_pos ⟨by omega,by omega⟩];rfl
  have ot:=E.tu s;have ol:=E.le s;simp only [zR,Mof,wg,st,List.length_cons,List.length_nil,if_true];rw [zm f1];have no2:r≠.tu->ya (E7 (some e) (some d) (some (.lst (nL (List.range v.length)))) none none none none) s=.ok (.nx (E7 (some e) (some d) (some (.lst (nL (List.range v.length)))) none none none none)) s:=fun q=>by
   rw [ya,zc7 (by rw [qJ,op2 (x:=e) (y:=.str "turn") (vr rfl) rfl,ot];simp [q])];rfl
  have no4:r≠.al->zZ (E7 (some e) (some d) (some (.lst (nL (List.range v.length)))) none none none none) s=.ok (.nx (E7 (some e) (some d) (some (.lst (nL (List.range v.length)))) none none none none)) s:=fun q=>by
   rw [zZ,zc7 (by rw [qJ,op2 (x:=e) (y:=.str "all") (vr rfl) rfl,al];simp [q])];rfl
  have f7:yK (E7 (some e) (some d) (some (.lst (nL (List.range v.length)))) none none none none) s=.ok (.nx (E7 (some e) (some d) (some (.lst (nL (List.range v.length)))) none (some (.int ((gp v:Nat):Int))) none none)) s:=by
   rw [yK,yJ,z4e (v:=v) (k:=maxL v) (by rw [vr (d:=d) rfl,D.eq]) (by rw [vx (x:=d) (vr rfl),D.mx]) (maxL_mem h.ne)];rfl
  have f8:yQ (E7 (some e) (some d) (some (.lst (nL (List.range v.length)))) none (some (.int ((gp v:Nat):Int))) none none) s=.ok (.nx (E7 (some e) (some d) (some (.lst (nL (List.range v.length)))) none (some (.int ((gp v:Nat):Int))) (some (.lst ((kI v).map pD))) none)) s:=by
   have c:=vb (s:=s) (mp:=[some 1,some 4,none]) (fg:=xw 2) (ft:=zaa (tOf (eOp dNe (zc 2) (zc 1))) (tOf (eOp dGt (eOp dIx (zc 0) (zc 2)) (eC (.int 0))))) (fe:=ur (zb (eOp dIx (zc 0) (zc 2)) (zb (zc 2) zi))) (fun i:Nat=>Dd.D.int ((i:Nat):Int)) (fun i:Nat=>pD (v.getD i 0,((i:Nat):Int))) (fun i=>decide (i≠gp v)&&decide (0<v.getD i 0)) (fun i=>[some d,some (.int ((gp v:Nat):Int)),some (.int ((i:Nat):Int))]) (List.range v.length) (wG (vr (Z:=E7 (some e) (some d) (some (.lst (nL (List.range v.length)))) none (some (.int ((gp v:Nat):Int))) none none) (i:=2) rfl)) (fun i _=>by simp) (fun i hi=>by
     have hi':i<v.length:=by simpa using hi
     have e1:=D.ix s i hi';have e3:decide (((i:Nat):Int)≠((gp v:Nat):Int))=decide (i≠gp v):=by
      by_cases q:i=gp v;·simp [q]
      ·have:¬ ((i:Nat):Int)=((gp v:Nat):Int):=by omega
       simp [q,this]
     simp only [z7h,qJ,wE,xW,kO,List.getElem?_cons_zero,List.getElem?_cons_succ,R.bind_ok,e1,zcK,zd7,e3];cases decide (i≠gp v)<;>simp) (fun i hi _=>by
     have hi':i<v.length:=by simpa using hi
     have e1:=D.ix s i hi';simp only [vk,zp,zF,wE,xW,List.getElem?_cons_zero,List.getElem?_cons_succ,R.bind_ok,e1];rw [if_pos (by simp [cap])]) (by simp [cap];omega);rw [yQ,yJ,c,show (List.map (fun i:Nat=>pD (v.getD i 0,((i:Nat):Int))) ((List.range v.length).filter fun i=>decide (i≠gp v)&&decide (0<v.getD i 0)))=(kI v).map pD by simp [kI,Function.comp_def]];rfl
  have on:=jI h he;have onn:=z9m h;have mo:=zav h;have one:kI v≠[]:=fun z=>by
   have:=(z9d onn on mo).1;rw [z] at this;exact this rfl
  have ol4:(kI v).length<=4:=by
   unfold kI;rw [List.length_map];have:=List.length_filter_le (fun i=>decide (i≠gp v)&&decide (0<v.getD i 0)) (List.range v.length);rw [List.length_range] at this;omega
  have ret:∀ (b:Nat) (f:FE) (a6:Option Dd.D),f (E7 (some e) (some d) (some (.lst (nL (List.range v.length)))) none (some (.int ((gp v:Nat):Int))) (some (.lst ((kI v).map pD))) a6) s=.ok (.int ((b:Nat):Int)) s-> xV (ur (zb f (zb (z4o (zb (zc 4) zi)) zi))) (E7 (some e) (some d) (some (.lst (nL (List.range v.length)))) none (some (.int ((gp v:Nat):Int))) (some (.lst ((kI v).map pD))) a6) s=.ok (.rt (qf (b,[gp v]))) s:=fun b f a6 hf=>by
   rw [xZ,vk,zp,hf,R.bind_ok,zp,z2n,zp,vr (d:=.int ((gp v:Nat):Int)) rfl,R.bind_ok,zF];simp only [R.bind_ok];rw [if_pos (by simp [cap])];simp only [R.bind_ok,zF];rw [if_pos (by simp [cap])];rfl
  cases hr:r with
  | tu=>
   subst hr;have c:=vb (s:=s) (mp:=[some 1,none]) (fg:=xw 1) (ft:=tOf (eOp dGt (eOp dIx (zc 0) (eC (.int 0))) (eC (.int 0)))) (fe:=zc 1) (fun i:Nat=>Dd.D.int ((i:Nat):Int)) (fun i:Nat=>Dd.D.int ((i:Nat):Int)) (fun i=>decide (0<v.getD 0 0)) (fun i=>[some d,some (.int ((i:Nat):Int))]) (xt v 0) (fi:=zW (eSl (zc 2) (wC (eC (.int 1))) zP)) (Z:=E7 (some e) (some d) (some (.lst (nL (List.range v.length)))) none none none none) (wG (by
     have e2:dSl (.lst (nL (List.range v.length))) (some 1) none s=.ok (.lst ((nL (List.range v.length)).drop 1)) s:=by
      have:=z0t (nL (List.range v.length)) 1;simp only [dSl,Dd.listOf];exact congrArg (fun z=>R.ok (Dd.D.lst z) s) this
     rw [z7Z,vr (d:=.lst (nL (List.range v.length))) rfl,R.bind_ok,kA,kO];simp only [R.bind_ok,ui];rw [e2,<- zea,<- List.map_drop])) (fun i _=>by simp) (fun i hi=>by
     have e1:=D.ix s 0 (by omega);rw [show ((0:Nat):Int)=0 from rfl] at e1;simp only [qJ,wE,xW,kO,List.getElem?_cons_zero,List.getElem?_cons_succ,R.bind_ok,e1,zcK]) (fun i hi _=>by simp) (by
     have:(xt v 0).length<=v.length:=by unfold xt;exact Nat.le_trans (List.length_filter_le _ _) (by simp)
     simp [cap];omega);have ee:(List.map (fun i:Nat=>Dd.D.int ((i:Nat):Int)) ((xt v 0).filter fun i=>decide (0<v.getD 0 0)))=nL (deal .tu v).2:=by
    show _=nL (if v.getD 0 0=0 then [] else xt v 0);have:=Pm.wz h.nn 0;by_cases q:v.getD 0 0=0;·rw [if_pos q,List.filter_eq_nil_iff.mpr (fun _ _=>by rw [q];decide)]
    ·have q0:0<v.getD 0 0:=by omega
     rw [if_neg q,List.filter_eq_self.mpr (fun _ _=>decide_eq_true q0)]
   rw [ee] at c;have g2:ya (E7 (some e) (some d) (some (.lst (nL (List.range v.length)))) none none none none) s=.ok (.rt (qf (deal .tu v))) s:=by
    rw [ya,z5R (by rw [qJ,op2 (x:=e) (y:=.str "turn") (vr rfl) rfl,ot];simp),xL,xZ,vk,zp,kO,R.bind_ok,zp,c];simp only [R.bind_ok,zF];rw [if_pos (by simp [cap])];rfl
   rw [z2q g2] | al=>
   subst hr;have c:=vb (s:=s) (mp:=[none]) (fg:=xw 0) (ft:=tOf (eOp dGt (zc 0) (eC (.int 0)))) (fe:=zc 0) (fun x:Int=>Dd.D.int x) (fun x:Int=>Dd.D.int x) (fun x=>decide (0<x)) (fun x=>[some (.int x)]) v (fi:=zW (zc 1)) (Z:=E7 (some e) (some d) (some (.lst (nL (List.range v.length)))) none none none none) (z3D (by rw [vr (d:=d) rfl,D.eq])) (fun i _=>by simp) (fun x _=>by simp only [qJ,wE,xW,kO,List.getElem?_cons_zero,R.bind_ok,zcK]) (fun i hi _=>by simp) (by simp [cap];omega);rw [zch h.nn] at c;have g5:yO (E7 (some e) (some d) (some (.lst (nL (List.range v.length)))) none none none none) s=.ok (.nx (E7 (some e) (some d) (some (.lst (nL (List.range v.length)))) (some (.int ((lp v:Nat):Int))) none none none)) s:=by
    rw [yO,yJ,z4e (v:=v) (k:=minL (nz v)) (by rw [vr (d:=d) rfl,D.eq]) (by rw [vx c];exact zc0 s h.nzne) (ub.mp (minL_mem h.nzne)).1];rfl
   have c6:=vb (s:=s) (mp:=[some 3,none]) (fg:=xw 1) (ft:=tOf (eOp dNe (zc 1) (zc 0))) (fe:=zc 1) (fun i:Nat=>Dd.D.int ((i:Nat):Int)) (fun i:Nat=>Dd.D.int ((i:Nat):Int)) (fun i=>decide (i≠lp v)) (fun i=>[some (.int ((lp v:Nat):Int)),some (.int ((i:Nat):Int))]) (List.range v.length) (fi:=zW (zc 2)) (Z:=E7 (some e) (some d) (some (.lst (nL (List.range v.length)))) (some (.int ((lp v:Nat):Int))) none none none) (wG (vr rfl)) (fun i _=>by simp) (fun i hi=>by
     have e3:decide (((i:Nat):Int)≠((lp v:Nat):Int))=decide (i≠lp v):=by
      by_cases q:i=lp v;·simp [q]
      ·have:¬ ((i:Nat):Int)=((lp v:Nat):Int):=by omega
       simp [q,this]
     simp only [qJ,wE,xW,kO,List.getElem?_cons_zero,List.getElem?_cons_succ,R.bind_ok,zd7,e3]) (fun i hi _=>by simp) (by simp [cap];omega);have g4:zZ (E7 (some e) (some d) (some (.lst (nL (List.range v.length)))) none none none none) s=.ok (.rt (qf (deal .al v))) s:=by
    rw [zZ,z5R (by rw [qJ,op2 (x:=e) (y:=.str "all") (vr rfl) rfl,al];simp),zm g5,xK,xZ,vk,zp,vr (d:=.int ((lp v:Nat):Int)) rfl,R.bind_ok,zp,c6];simp only [R.bind_ok,zF];rw [if_pos (by simp [cap])];rfl
   rw [zm (no2 (by decide)),z2q g4] | le=>
   subst hr;obtain ⟨m,m1,m2,m3⟩:=z5z one s;have em:=z9Q onn on mo m1 m3;have g9:zX (E7 (some e) (some d) (some (.lst (nL (List.range v.length)))) none (some (.int ((gp v:Nat):Int))) (some (.lst ((kI v).map pD))) none) s=.ok (.rt (qf (deal .le v))) s:=by
    rw [zX,z5R (by rw [qJ,op2 (x:=e) (y:=.str "least") (vr rfl) rfl,ol];simp),xp];refine ret (lp (others v)) _ none ?_;rw [op2 (x:=pD m) (y:=.int 1) (by rw [vx (x:=.lst ((kI v).map pD)) (vr rfl)];exact m2) rfl,em];exact z4n (r:=[minL (nz (others v)),((lp (others v):Nat):Int)]) (j:=1) s (by simp)
   rw [zm (no2 (by decide)),zm (no4 (by decide)),zm f7,zm f8,z2q g9] | nx=>
   subst hr;obtain ⟨ne,emx,pos⟩:=z9d onn on mo;have no9:zX (E7 (some e) (some d) (some (.lst (nL (List.range v.length)))) none (some (.int ((gp v:Nat):Int))) (some (.lst ((kI v).map pD))) none) s=.ok (.nx (E7 (some e) (some d) (some (.lst (nL (List.range v.length)))) none (some (.int ((gp v:Nat):Int))) (some (.lst ((kI v).map pD))) none)) s:=by
    rw [zX,zc7 (by rw [qJ,op2 (x:=e) (y:=.str "least") (vr rfl) rfl,ol];simp)];rfl
   have c11:=comp_map (s:=s) (mp:=[none,none]) (fg:=xO 0 1) (fe:=zc 0) pD (fun a:Int×Int=>Dd.D.int a.1) (fun a=>[some (.int a.1),some (.int a.2)]) (kI v) (fi:=zW (zc 5)) (Z:=E7 (some e) (some d) (some (.lst (nL (List.range v.length)))) none (some (.int ((gp v:Nat):Int))) (some (.lst ((kI v).map pD))) none) (wG (vr rfl)) (fun a _=>by simp) (fun a _=>by simp) (by simp [cap];omega);have em1:((kI v).map fun a=>Dd.D.int a.1)=iL ((kI v).map Prod.fst):=by simp [Function.comp_def]
   rw [em1] at c11;have g11:yA (E7 (some e) (some d) (some (.lst (nL (List.range v.length)))) none (some (.int ((gp v:Nat):Int))) (some (.lst ((kI v).map pD))) none) s=.ok (.nx (E7 (some e) (some d) (some (.lst (nL (List.range v.length)))) none (some (.int ((gp v:Nat):Int))) (some (.lst ((kI v).map pD))) (some (.int (maxL (others v)))))) s:=by
    rw [yA,yJ,vx c11,zeE s ne,emx];rfl
   have c12:=vb (s:=s) (mp:=[some 6,none,none]) (fg:=xO 1 2) (ft:=tOf (eOp dEq (zc 1) (zc 0))) (fe:=zc 2) pD (fun a:Int×Int=>Dd.D.int a.2) (fun a=>decide (a.1=maxL (others v))) (fun a=>[some (.int (maxL (others v))),some (.int a.1),some (.int a.2)]) (kI v) (fi:=zW (zc 5)) (Z:=E7 (some e) (some d) (some (.lst (nL (List.range v.length)))) none (some (.int ((gp v:Nat):Int))) (some (.lst ((kI v).map pD))) (some (.int (maxL (others v))))) (wG (vr rfl)) (fun a _=>by simp) (fun a _=>by simp only [qJ,wE,xW,kO,List.getElem?_cons_zero,List.getElem?_cons_succ,R.bind_ok,z5P]) (fun a _ _=>by simp) (by simp [cap];omega);have em2:(((kI v).filter fun a=>decide (a.1=maxL (others v))).map fun a=>Dd.D.int a.2)=iL (((kI v).filter fun a=>decide (a.1=maxL (others v))).map Prod.snd):=by simp [Function.comp_def]
   rw [em2] at c12;have wne:others v≠[]:=fun z=>on (by rw [z];rfl);have mw:=maxL_mem wne;obtain ⟨i1,i2⟩:=z4B mw;have hin:(((others v).idxOf (maxL (others v)):Nat):Int)∈((kI v).filter fun a=>decide (a.1=maxL (others v))).map Prod.snd:= List.mem_map.mpr ⟨(maxL (others v),(((others v).idxOf (maxL (others v)):Nat):Int)),List.mem_filter.mpr ⟨(mo _).mpr (wZ.mpr ⟨_,rfl,by rw [getD_get i1,i2],pos⟩),by simp⟩,rfl⟩;have ne2:=List.ne_nil_of_mem hin;have emn:minL (((kI v).filter fun a=>decide (a.1=maxL (others v))).map Prod.snd)=(((others v).idxOf (maxL (others v)):Nat):Int):=by
    have h1:=minL_le _ hin;obtain ⟨a,ha,ea⟩:=List.mem_map.mp (minL_mem ne2);obtain ⟨ha1,ha2⟩:=List.mem_filter.mp ha;obtain ⟨i,ei,g,_⟩:=wZ.mp ((mo a).mp ha1);have:=z8B g;rw [show a.1=maxL (others v) by simpa using ha2] at this;omega
   rw [zm (no2 (by decide)),zm (no4 (by decide)),zm f7,zm f8,zm no9,zm g11,xn,ret ((others v).idxOf (maxL (others v))) _ _ (by rw [vx c12,zc0 s ne2,emn])];rfl
 exact key _ _ (LD.of h) (RD.of r) (zhX r s)
end
end Pr
namespace Pn
open PySem.Spec L2 Dd Pm Pg
end Pn
namespace Po
open PySem.Spec L2 Dd Pm Pg Pn
def only(v:List Int)(k:Nat):List Int:=(enP v).map fun p=>p.1*(if p.2=k then 1 else 0)
open PySem.Builtin.Str
end Po
namespace Po
open PySem.Spec L2 Dd Pm Pg Pn
theorem za8{α:Type}{G:List (Nat×List D)}{all:List D}{body:D->Sto->R (Option D)}{s:Sto}(og:okG G all s)(g f:α->D):∀ (l:List α)(acc:List D),(∀ x∈l,body (g x) s=.ok (some (f x)) s)->acc.length+l.length<=cap->vw G all body (l.map g) acc s=.ok (acc++l.map f) s
 | [],acc,_,_=>by simp [vw,og] | x::xs,acc,hb,hl=>by
  have ih:=za8 (all:=all) og g f xs (acc++[f x]) (fun y hy=>hb y (by simp [hy])) (by simp at hl ⊢;omega);have hc:acc.length<cap:=by simp at hl;omega
  rw [List.map_cons,vw,if_pos og,hb x (by simp),R.bind_ok];simp only [if_pos hc,ih];simp
theorem z4h{α:Type}{G:List (Nat×List D)}{fi:FI}{mp:List (Option Nat)}{fg:FG}{fe:FE}{Z:Ev}{s:Sto}(g f:α->D)(ev:α->Ev)(l:List α) (hi:fi Z s=.ok (l.map g,G) s)(og:okG G (l.map g) s)(hg:∀ a∈l,fg (g a) (yh mp Z) s=.ok (ev a) s)(he:∀ a∈l,fe (ev a) s=.ok (f a) s)(hl:l.length<=cap): zA fi mp fg wU fe Z s=.ok (.lst (l.map f)) s:=by
 rw [z3I,z3G,hi,R.bind_ok];rw [za8 og g f l [] (by
  intro a ha;simp only [hg a ha,R.bind_ok];show (R.ok true s).bind _=_;simp [he a ha]) (by simpa using hl)];rfl
end Po
namespace Pr
open PySem.Spec L2 Dd Pm Pg Pn Po
abbrev E8(a0 a1 a2 a3 a4 a5 a6 a7:Option D):Ev:=[a0,a1,a2,a3,a4,a5,a6,a7]
theorem zfE{k j:Nat}{e d:D}{b p:Int}{g l:List D}{x:Option D}(he:e.und k=true)(hd:d.und k=true)(hg:D.flat.flats g=true)(hl:D.flat.flats l=true)(hj:j<k): z4s k 7 (E8 (some e) (some d) (some (.int b)) (some (.lst g)) (some (.lst l)) (some (.loc j)) (some (.int p)) x)=true:=by
 have h1:(D.lst g).und k=true:=hg;have h2:(D.lst l).und k=true:=hl;have h3:(D.loc j).und k=true:=by simpa [D.und] using hj
 have h4:∀ i:Int,(D.int i).und k=true:=fun i=>rfl;simp [z4s,List.range,List.range.loop,he,hd,h1,h2,h3,h4]
theorem z6P:∀ l:List Nat,D.flat.flats (nL l)=true
 | []=>rfl | a::l=>by
  have:=z6P l;simp only [nL] at this;simp [nL,D.flat.flats,D.flat,this]
section
variable {n m:Nat}{v:List Int}{d e:D}{r:Rl}(h:z77 n m v)(E:RD e r)(D:LD d v){b:Nat}{g:List Nat}(hb:b<v.length)(hg:b∉g)(hp:g=[]\/0<v.getD b 0)(hm:m<=1999)
include h D hb hg hp
theorem z8u (s:Sto) {a0 a4 a5 a6 a7:Option Dd.D}:wP (E8 a0 (some d) (some (.int ((b:Nat):Int))) (some (.lst (nL g))) a4 a5 a6 a7) s=.ok (.nx (E8 a0 (some d) (some (.int ((b:Nat):Int))) (some (.lst (nL g))) (some (.lst (iL (left v (zo v (b,g)) b)))) a5 a6 a7)) s:=by
 have l4:=h.toLot.le4;have ixb:=D.ix s b hb;have c:=comp_map (s:=s) (mp:=[some 3,some 1,some 2,none,none]) (fg:=xO 3 4) (fe:=eIf (tOf (eOp (z5o false) (zc 3) (zc 0))) (eOp z6W (zc 4) (eOp dIx (zc 1) (zc 2))) (zc 4)) (fun p:Int×Nat=>Dd.D.tup [.int ((p.2:Nat):Int),.int p.1]) (fun p=>Dd.D.int (p.1-(zo v (b,g)).getD p.2 0*v.getD b 0)) (fun p=>[some (.lst (nL g)),some d,some (.int ((b:Nat):Int)),some (.int ((p.2:Nat):Int)),some (.int p.1)]) (enP v) (zaw (f:=zc 1) (Z:=E8 a0 (some d) (some (.int ((b:Nat):Int))) (some (.lst (nL g))) a4 a5 a6 a7) (by rw [<- D.eq];exact vr rfl)) (fun p _=>by simp) (fun p hpp=>by
   have gt:=z66.mp hpp;have hi:p.2<v.length:=(List.getElem?_eq_some_iff.mp gt).1;have e0:v.getD p.2 0=p.1:=by have:=getD_get hi;rw [gt] at this;exact (Option.some.inj this).symm
   have eq:(zo v (b,g)).getD p.2 0=if p.2∈g then v.getD p.2 0 / v.getD b 0 else 0:=by simp [zo,List.getD_eq_getElem?_getD,hi]
   rw [zbj,z1F (by rw [op2 (x:=.int ((p.2:Nat):Int)) (y:=.lst (nL g)) (vr rfl) (vr rfl)];exact zdT p.2 g s),R.bind_ok];by_cases q:p.2∈g
   ·have p0:0<v.getD b 0:=hp.resolve_left fun z=>by rw [z] at q;cases q
    rw [decide_eq_true q,if_pos rfl,wE,vr (d:=.int p.1) rfl,R.bind_ok,op2 (x:=d) (y:=.int ((b:Nat):Int)) (vr rfl) (vr rfl),ixb,R.bind_ok,zbM,if_pos p0,eq,if_pos q,e0,Int.emod_def,Int.mul_comm]
   ·rw [decide_eq_false q,if_neg (by decide),vr (d:=.int p.1) rfl,eq,if_neg q,Int.zero_mul,Int.sub_zero]) (by simp [enP,cap];omega);rw [z8G hb (zo v (b,g)) (wl _ _)] at c;rw [wP,yJ,c];rfl
theorem zhW{i:Nat}(hi:i<v.length):yE b (zt v.length i) ((zo v (b,g)).getD i 0)=if i∈g then (zt v.length i).set b (v.getD i 0 / v.getD b 0) else zt v.length i:=by
 have ln:(zt v.length i).length=v.length:=by simp [zt]
 rw [z0J (by rw [ln];exact hb)];have eq:(zo v (b,g)).getD i 0=if i∈g then v.getD i 0 / v.getD b 0 else 0:=by simp [zo,List.getD_eq_getElem?_getD,hi]
 rw [eq];by_cases q:i∈g
 ·have ne:i≠b:=fun z=>hg (z ▸ q);have z:(zt v.length i).getD b 0=0:=by simp [zt,List.getD_eq_getElem?_getD,hb,ne]
  rw [if_pos q,if_pos q,z,Int.zero_add]
 ·rw [if_neg q,if_neg q,Int.add_zero];have:(zt v.length i).getD b 0=(zt v.length i)[b]'(by rw [ln];exact hb):=by simp [List.getD_eq_getElem?_getD,ln,hb]
  rw [this,List.set_getElem_self]
include hm E
theorem zfM (S:Sto) {i:Nat} (hi:i<v.length) (A:List Dd.D) (hA:A.length<1000) (w:List Int) (p7:Option Dd.D): (zC (z4y 7 (zC yr yq)) xM) (E8 (some e) (some d) (some (.int ((b:Nat):Int))) (some (.lst (nL g))) (some (.lst (iL w))) (some (.loc S.length)) (some (.int ((i:Nat):Int))) p7) (S++[A]) = .ok (.nx (E8 (some e) (some d) (some (.int ((b:Nat):Int))) (some (.lst (nL g))) (some (.lst (iL w))) (some (.loc S.length)) (some (.int ((i:Nat):Int))) (some (.lst (iL (yE b (zt v.length i) ((zo v (b,g)).getD i 0))))))) (S++[A++[.lst (iL (yE b (zt v.length i) ((zo v (b,g)).getD i 0)))]]):=by
 have l4:=h.toLot.le4;have ln:(zt v.length i).length=v.length:=by simp [zt]
 have em:((List.range v.length).map fun c:Nat=>Dd.D.int (if i=c then 1 else 0))=iL (zt v.length i):=by simp [zt,Function.comp_def]
 have c:=z9S (s:=S++[A]) (mp:=[some 6,none]) (fg:=xw 1) (fe:=ze zbJ (zb (eOp dEq (zc 0) (zc 1)) zi)) (fun c:Nat=>Dd.D.int ((c:Nat):Int)) (fun c:Nat=>Dd.D.int (if i=c then 1 else 0)) (fun c=>[some (.int ((i:Nat):Int)),some (.int ((c:Nat):Int))]) (List.range v.length) (ke (n:=v.length) (Z:=E8 (some e) (some d) (some (.int ((b:Nat):Int))) (some (.lst (nL g))) (some (.lst (iL w))) (some (.loc S.length)) (some (.int ((i:Nat):Int))) p7) (ar:=zb (ze wX (zb (zc 1) zi)) zi) (by omega) (by rw [zp,vx (x:=d) (vr rfl),D.len,R.bind_ok,zF,R.bind_ok])) (fun c _=>by simp) (fun c _=>by
   rw [vx (x:=.bl (decide (((i:Nat):Int)=((c:Nat):Int)))) (by simp)];by_cases q:i=c;·simp [zbJ,q]
   ·have:¬ ((i:Nat):Int)=((c:Nat):Int):=by omega
    simp [zbJ,q,this]) (by simp [cap];omega) (by rw [em];exact xq _);rw [em] at c;have f5:yr (E8 (some e) (some d) (some (.int ((b:Nat):Int))) (some (.lst (nL g))) (some (.lst (iL w))) (some (.loc S.length)) (some (.int ((i:Nat):Int))) p7) (S++[A]) = .ok (.nx (E8 (some e) (some d) (some (.int ((b:Nat):Int))) (some (.lst (nL g))) (some (.lst (iL w))) (some (.loc S.length)) (some (.int ((i:Nat):Int))) (some (.loc (S++[A]).length)))) ((S++[A])++[iL (zt v.length i)]):=by
  rw [yr,yJ,c];rfl
 have aT:((S++[A])++[iL (zt v.length i)])[(S++[A]).length]? = some (iL (zt v.length i)):=by simp
 have B:=zeA h hm hb;have f6:yq (E8 (some e) (some d) (some (.int ((b:Nat):Int))) (some (.lst (nL g))) (some (.lst (iL w))) (some (.loc S.length)) (some (.int ((i:Nat):Int))) (some (.loc (S++[A]).length))) ((S++[A])++[iL (zt v.length i)]) = .ok (.nx (E8 (some e) (some d) (some (.int ((b:Nat):Int))) (some (.lst (nL g))) (some (.lst (iL w))) (some (.loc S.length)) (some (.int ((i:Nat):Int))) (some (.loc (S++[A]).length)))) ((S++[A])++[iL (yE b (zt v.length i) ((zo v (b,g)).getD i 0))]):=by
  rw [zhW h D hb hg hp hi,yq];have ti:tOf (eOp (z5o false) (zc 6) (zc 3)) (E8 (some e) (some d) (some (.int ((b:Nat):Int))) (some (.lst (nL g))) (some (.lst (iL w))) (some (.loc S.length)) (some (.int ((i:Nat):Int))) (some (.loc (S++[A]).length))) ((S++[A])++[iL (zt v.length i)])=.ok (decide (i∈g)) ((S++[A])++[iL (zt v.length i)]):= z1F (by rw [op2 (x:=.int ((i:Nat):Int)) (y:=.lst (nL g)) (vr rfl) (vr rfl)];exact zdT i g _);by_cases q:i∈g
  ·have p0:0<v.getD b 0:=hp.resolve_left fun z=>by rw [z] at q;cases q
   rw [decide_eq_true q] at ti;have hB:(v.getD b 0).natAbs<BIG:=by
    have:(v.getD b 0).natAbs<2 ^ 2000:=by have:=B.1;have:=B.2;omega
    exact Nat.lt_of_lt_of_le this (Nat.pow_le_pow_right (by decide) (by decide))
   have i1:=D.ix ((S++[A])++[iL (zt v.length i)]) i hi;have i2:=D.ix ((S++[A])++[iL (zt v.length i)]) b hb;rw [z5R ti,if_pos q,uZ,zcC (s1:=(S++[A])++[iL (zt v.length i)]) (s2:=(S++[A])++[iL (zt v.length i)]) (L:=(S++[A]).length) (xs:=zt v.length i) (i:=((b:Nat):Int)) (x:=v.getD i 0 / v.getD b 0) (by rw [wE,op2 (x:=d) (y:=.int ((i:Nat):Int)) (vr rfl) (vr rfl),i1,R.bind_ok,op2 (x:=d) (y:=.int ((b:Nat):Int)) (vr rfl) (vr rfl),i2,R.bind_ok,z5V,if_pos ⟨p0,hB⟩]) (vr rfl) (vr rfl) aT (by omega) (by rw [ln];omega)];rw [List.set_append_right _ _ (by omega)];simp
  ·rw [decide_eq_false q] at ti;rw [zc7 ti,if_neg q];rfl
 have lt:(yE b (zt v.length i) ((zo v (b,g)).getD i 0)).length=v.length:=by rw [z0J (by rw [ln];exact hb)];simp [ln]
 generalize hW:yE b (zt v.length i) ((zo v (b,g)).getD i 0)=W at *;have de:d.und (S++[A]).length=true:=by rw [D.eq];exact xq _
 have ee:e.und (S++[A]).length=true:=by rw [E.eq];rfl
 have bl:=zfE (k:=(S++[A]).length) (j:=S.length) (b:=((b:Nat):Int)) (p:=((i:Nat):Int)) (g:=nL g) (l:=iL w) (x:=some (.loc (S++[A]).length)) ee de (z6P g) (xq w) (by simp);have fz:z4y 7 (zC yr yq) (E8 (some e) (some d) (some (.int ((b:Nat):Int))) (some (.lst (nL g))) (some (.lst (iL w))) (some (.loc S.length)) (some (.int ((i:Nat):Int))) p7) (S++[A]) = .ok (.nx (E8 (some e) (some d) (some (.int ((b:Nat):Int))) (some (.lst (nL g))) (some (.lst (iL w))) (some (.loc S.length)) (some (.int ((i:Nat):Int))) (some (.lst (iL W))))) (S++[A]):=by
  have ex:((S++[A])++[iL W])[(S++[A]).length]? = some (iL W):=by simp
  rw [zd6,zm f5,f6];generalize S++[A]=T at *;show (match ((T++[iL W])[T.length]? : Option (List Dd.D)) with | some xs=>if T.length<=T.length/\_=true then _ else _ | none=>_)=_;rw [ex];simp only;rw [if_pos ⟨Nat.le_refl _,bl⟩,List.take_left'];·rfl
  ·rfl
 rw [zm fz,xM,zde (s2:=S++[A]) (L:=S.length) (xs:=A) (x:=.lst (iL W)) (vr rfl) (vr rfl) (by simp) hA (xq _)];rw [List.set_append_right _ _ (by omega)];simp
theorem zcd{all:List Dd.D}(S:Sto)(w:List Int):∀ (k j:Nat)(p6 p7:Option Dd.D),j+k=v.length-> ∃ p6' p7',wq [] all (fun d Z s=>(xw 6 d Z s).bind fun Z' s'=>(zC (z4y 7 (zC yr yq)) xM) Z' s') ((List.range' j k).map fun i=>Dd.D.int ((i:Nat):Int)) (E8 (some e) (some d) (some (.int ((b:Nat):Int))) (some (.lst (nL g))) (some (.lst (iL w))) (some (.loc S.length)) p6 p7) (S++[(List.range j).map fun i=>Dd.D.lst (iL (yE b (zt v.length i) ((zo v (b,g)).getD i 0)))]) = .ok (.nx (E8 (some e) (some d) (some (.int ((b:Nat):Int))) (some (.lst (nL g))) (some (.lst (iL w))) (some (.loc S.length)) p6' p7')) (S++[(List.range (j+k)).map fun i=>Dd.D.lst (iL (yE b (zt v.length i) ((zo v (b,g)).getD i 0)))])
 | 0,j,p6,p7,_=>⟨p6,p7,by simp [wq,okG]⟩ | k+1,j,p6,p7,hj=>by
  have l4:=h.toLot.le4;have e1:=zfM h E D hb hg hp hm S (i:=j) (by omega) ((List.range j).map fun i=>Dd.D.lst (iL (yE b (zt v.length i) ((zo v (b,g)).getD i 0)))) (by simp;omega) w p7;obtain ⟨q6,q7,e2⟩:=zcd S w k (j+1) (some (.int ((j:Nat):Int))) (some (.lst (iL (yE b (zt v.length j) ((zo v (b,g)).getD j 0))))) (by omega);refine ⟨q6,q7,?_⟩;have es:((List.range j).map fun i=>Dd.D.lst (iL (yE b (zt v.length i) ((zo v (b,g)).getD i 0))))++[.lst (iL (yE b (zt v.length j) ((zo v (b,g)).getD j 0)))]=(List.range (j+1)).map fun i=>Dd.D.lst (iL (yE b (zt v.length i) ((zo v (b,g)).getD i 0))):=by
   rw [List.range_succ,List.map_append];rfl
  rw [es] at e1;rw [List.range'_succ,List.map_cons,wq,if_pos (by intro p hp;simp at hp),z54,R.bind_ok];simp only [List.set_cons_succ,List.set_cons_zero];rw [e1,R.bind_ok];simp only;rw [e2,show j+1+k=j+(k+1) by omega]
end
section
variable {n m:Nat}{v:List Int}(r:Rl)(h:z77 n m v)(he:ended v=false)(hm:m<=1999)
include h he hm
theorem zaN (s:Sto):yU [.str (nmR r),rD v] s=.ok (.tup [rD (stp r v),tD (zdW r v)]) s:=by
 have l4:=h.toLot.le4;have dl:=jo r h.toLot he;have dv:=zeZ r h.toLot he s;have key:∀ d e:D,LD d v->RD e r->zR [e,d] s=.ok (qf (deal r v)) s->yU [e,d] s=.ok (.tup [rD (stp r v),tD (zdW r v)]) s:=fun d e D E dv=>by
  generalize hdl:deal r v=bg at *;obtain ⟨b,g⟩:=bg;have st:zy ["_law_rule","_law_lot_here","_law_by","_law_gone","_law_later","_law_lines","_law_place","_law_line"] [e,d]=E8 (some e) (some d) none none none none none none:=rfl;have f1:wN (E8 (some e) (some d) none none none none none none) s=.ok (.nx (E8 (some e) (some d) (some (.int ((b:Nat):Int))) (some (.lst (nL g))) none none none none)) s:=by
   rw [wN,zcn,call2 (x:=e) (y:=d) (vr rfl) (vr rfl),dv,R.bind_ok];simp
  have f2:=z8u (a0:=some e) (a4:=none) (a5:=none) (a6:=none) (a7:=none) h D dl.lt dl.nb dl.pos s;have f3:wR (E8 (some e) (some d) (some (.int ((b:Nat):Int))) (some (.lst (nL g))) (some (.lst (iL (left v (zo v (b,g)) b)))) none none none) s = .ok (.nx (E8 (some e) (some d) (some (.int ((b:Nat):Int))) (some (.lst (nL g))) (some (.lst (iL (left v (zo v (b,g)) b)))) (some (.loc s.length)) none none)) (s++[(List.range 0).map fun i=>Dd.D.lst (iL (yE b (zt v.length i) ((zo v (b,g)).getD i 0)))]):=by
   rw [wR,yJ,z9O,zF,R.bind_ok,if_pos ⟨by simp,rfl⟩];rfl
  obtain ⟨q6,q7,f4⟩:=zcd (all:=(List.range v.length).map fun i:Nat=>Dd.D.int ((i:Nat):Int)) h E D dl.lt dl.nb dl.pos hm s (left v (zo v (b,g)) b) v.length 0 none none (by omega);have g4:wQ (E8 (some e) (some d) (some (.int ((b:Nat):Int))) (some (.lst (nL g))) (some (.lst (iL (left v (zo v (b,g)) b)))) (some (.loc s.length)) none none) (s++[(List.range 0).map fun i=>Dd.D.lst (iL (yE b (zt v.length i) ((zo v (b,g)).getD i 0)))]) = .ok (.nx (E8 (some e) (some d) (some (.int ((b:Nat):Int))) (some (.lst (nL g))) (some (.lst (iL (left v (zo v (b,g)) b)))) (some (.loc s.length)) q6 q7)) (s++[(List.range (0+v.length)).map fun i=>Dd.D.lst (iL (yE b (zt v.length i) ((zo v (b,g)).getD i 0)))]):=by
   rw [wQ,kb,ke (n:=v.length) (s1:=s++[(List.range 0).map fun i=>Dd.D.lst (iL (yE b (zt v.length i) ((zo v (b,g)).getD i 0)))]) (by omega) (by rw [zp,vx (x:=d) (vr rfl),D.len,R.bind_ok,zF,R.bind_ok]),R.bind_ok];rw [List.range_eq_range'] at f4 ⊢;exact f4
  rw [Nat.zero_add] at g4;have lw:(left v (zo v (b,g)) b).length=v.length:=by simp [left,wl]
  have lr:∀ i,(yE b (zt v.length i) ((zo v (b,g)).getD i 0)).length=v.length:=fun i=>by rw [z0J (by simp [zt];exact dl.lt)];simp [zt]
  have fin:∀ (w:List Int) (W:Nat->List Int) (x5:Dd.D) (T:Sto) (G:List (Nat×List Dd.D)),(∀ Z:Ev,Z[5]? = some (some x5)->zW (zc 5) Z T=.ok ((List.range v.length).map (fun i=>Dd.D.lst (iL (W i))),G) T)->okG G ((List.range v.length).map (fun i=>Dd.D.lst (iL (W i)))) T-> xr (E8 (some e) (some d) (some (.int ((b:Nat):Int))) (some (.lst (nL g))) (some (.lst (iL w))) (some x5) q6 q7) T=.ok (.rt (.tup [rD w,.tup ((List.range v.length).map fun i=>rD (W i))])) T:=fun w W x5 T G hG og=>by
   have c:=z4h (G:=G) (s:=T) (mp:=[none]) (fg:=xw 0) (fe:=ze vp (zb (zc 0) zi)) (fi:=zW (zc 5)) (Z:=E8 (some e) (some d) (some (.int ((b:Nat):Int))) (some (.lst (nL g))) (some (.lst (iL w))) (some x5) q6 q7) (fun i:Nat=>Dd.D.lst (iL (W i))) (fun i=>rD (W i)) (fun i=>[some (.lst (iL (W i)))]) (List.range v.length) (hG _ rfl) og (fun i _=>by simp) (fun i _=>by rw [vx (x:=.lst (iL (W i))) (vr rfl)];exact z75 _ _) (by simp [cap];omega);rw [xr,xZ,vk,zp,vx (x:=.lst (iL w)) (vr rfl),z75,R.bind_ok,zp,vx c,z75,R.bind_ok,zF];simp only [R.bind_ok];rw [if_pos (by simp [cap])];rfl
  have ot:=E.tu (s++[(List.range v.length).map fun i=>Dd.D.lst (iL (yE b (zt v.length i) ((zo v (b,g)).getD i 0)))]);have res:∀ s',(zC yp xr) (E8 (some e) (some d) (some (.int ((b:Nat):Int))) (some (.lst (nL g))) (some (.lst (iL (left v (zo v (b,g)) b)))) (some (.loc s.length)) q6 q7) (s++[(List.range v.length).map fun i=>Dd.D.lst (iL (yE b (zt v.length i) ((zo v (b,g)).getD i 0)))])=.ok (.rt (.tup [rD (stp r v),tD (zdW r v)])) s'->s'.take s.length=s->yU [e,d] s=.ok (.tup [rD (stp r v),tD (zdW r v)]) s:=fun s' hs ht=>by
   simp only [yU,zdg,Mof,qr,st,List.length_cons,List.length_nil,if_true];rw [zm f1,zm f2,zm f3,zm g4,hs];simp only;rw [z7E (zaI _ _),ht]
  have eT:∀ W:Nat->List Int,(∀ i,W i=mvd r (yE b (zt v.length i) ((zo v (b,g)).getD i 0)))->Dd.D.tup ((List.range v.length).map fun i=>rD (W i))=tD (zdW r v):=fun W hR=>by
   unfold zdW;rw [hdl,z9v,wl];congr 2;funext i;rw [hR i];rfl
  have eS:rD (stp r v)=rD (mvd r (left v (zo v (b,g)) b)):=by unfold stp;rw [hdl]
  generalize hT:(s++[(List.range v.length).map fun i=>Dd.D.lst (iL (yE b (zt v.length i) ((zo v (b,g)).getD i 0)))])=T at *;have aT:T[s.length]? = some ((List.range v.length).map fun i=>Dd.D.lst (iL (yE b (zt v.length i) ((zo v (b,g)).getD i 0)))):=by rw [<- hT];simp
  have tk:T.take s.length=s:=by rw [<- hT];simp
  have sg:∀ Z:Ev,Z[5]? = some (some (.loc s.length))->zW (zc 5) Z T=.ok ((List.range v.length).map (fun i=>Dd.D.lst (iL (yE b (zt v.length i) ((zo v (b,g)).getD i 0)))),[(s.length,(List.range v.length).map fun i=>Dd.D.lst (iL (yE b (zt v.length i) ((zo v (b,g)).getD i 0))))]) T:=fun Z hZ=>by
   rw [z5C,vr hZ,R.bind_ok];simp only [aT]
  have og:okG [(s.length,(List.range v.length).map fun i=>Dd.D.lst (iL (yE b (zt v.length i) ((zo v (b,g)).getD i 0))))] ((List.range v.length).map fun i=>Dd.D.lst (iL (yE b (zt v.length i) ((zo v (b,g)).getD i 0)))) T:=by
   intro p hp;simp only [List.mem_singleton] at hp;subst hp;exact aT
  refine res T ?_ tk;by_cases q:r=.tu
  ·have rt4:∀ w:List Int,rot (iL w)=iL (rot w):=fun w=>by simp [rot,List.map_take,List.map_drop]
   have c11:=z4h (G:=[(s.length,(List.range v.length).map fun i=>Dd.D.lst (iL (yE b (zt v.length i) ((zo v (b,g)).getD i 0))))]) (s:=T) (mp:=[none]) (fg:=xw 0) (fe:=eOp qQ (eSl (zc 0) (wC (eC (.int 1))) zP) (eSl (zc 0) zP (wC (eC (.int 1))))) (fi:=zW (zc 5)) (Z:=E8 (some e) (some d) (some (.int ((b:Nat):Int))) (some (.lst (nL g))) (some (.lst (iL (rot (left v (zo v (b,g)) b))))) (some (.loc s.length)) q6 q7) (fun i:Nat=>Dd.D.lst (iL (yE b (zt v.length i) ((zo v (b,g)).getD i 0)))) (fun i=>Dd.D.lst (iL (rot (yE b (zt v.length i) ((zo v (b,g)).getD i 0))))) (fun i=>[some (.lst (iL (yE b (zt v.length i) ((zo v (b,g)).getD i 0))))]) (List.range v.length) (sg _ rfl) og (fun i _=>by simp) (fun i _=>by rw [zc4 (x:=.lst (iL (yE b (zt v.length i) ((zo v (b,g)).getD i 0)))) (xs:=iL (yE b (zt v.length i) ((zo v (b,g)).getD i 0))) (k:=0) rfl (by simp [Dd.listOf]) (.inl rfl) (by have:=lr i;rw [List.length_map];omega),rt4]) (by simp [cap];omega);have f9:yp (E8 (some e) (some d) (some (.int ((b:Nat):Int))) (some (.lst (nL g))) (some (.lst (iL (left v (zo v (b,g)) b)))) (some (.loc s.length)) q6 q7) T = .ok (.nx (E8 (some e) (some d) (some (.int ((b:Nat):Int))) (some (.lst (nL g))) (some (.lst (iL (rot (left v (zo v (b,g)) b))))) (some (.lst ((List.range v.length).map fun i=>Dd.D.lst (iL (rot (yE b (zt v.length i) ((zo v (b,g)).getD i 0))))))) q6 q7)) T:=by
    have f10:wA (E8 (some e) (some d) (some (.int ((b:Nat):Int))) (some (.lst (nL g))) (some (.lst (iL (left v (zo v (b,g)) b)))) (some (.loc s.length)) q6 q7) T = .ok (.nx (E8 (some e) (some d) (some (.int ((b:Nat):Int))) (some (.lst (nL g))) (some (.lst (iL (rot (left v (zo v (b,g)) b))))) (some (.loc s.length)) q6 q7)) T:=by
     rw [wA,yJ,zc4 (x:=.lst (iL (left v (zo v (b,g)) b))) (xs:=iL (left v (zo v (b,g)) b)) (k:=4) rfl (by simp [Dd.listOf]) (.inl rfl) (by simp [lw];omega),rt4];rfl
    rw [yp,z5R (by rw [qJ,op2 (x:=e) (y:=.str "turn") (vr rfl) rfl,ot];simp [q]),zm f10,uj,yJ,c11];rfl
   rw [zm f9,fin (rot (left v (zo v (b,g)) b)) (fun i=>rot (yE b (zt v.length i) ((zo v (b,g)).getD i 0))) _ T [] (fun Z hZ=>wG (vr hZ)) (by intro p hp;simp at hp),eT _ (fun i=>by rw [q,z3V]),eS,q,z3V]
  ·have f9:yp (E8 (some e) (some d) (some (.int ((b:Nat):Int))) (some (.lst (nL g))) (some (.lst (iL (left v (zo v (b,g)) b)))) (some (.loc s.length)) q6 q7) T = .ok (.nx (E8 (some e) (some d) (some (.int ((b:Nat):Int))) (some (.lst (nL g))) (some (.lst (iL (left v (zo v (b,g)) b)))) (some (.loc s.length)) q6 q7)) T:=by
    rw [yp,zc7 (by rw [qJ,op2 (x:=e) (y:=.str "turn") (vr rfl) rfl,ot];simp [q])];rfl
   rw [zm f9,fin (left v (zo v (b,g)) b) (fun i=>yE b (zt v.length i) ((zo v (b,g)).getD i 0)) _ T _ sg og,eT _ (fun i=>by rw [z2j q]),eS,z2j q]
 exact key _ _ (LD.of h.toLot) (RD.of r) dv
end
open PySem.W
theorem z40 {α β:Type} {all:List D} {s:Sto} {fi2:D->Sto->R ItD} {fb:D->D->Sto->R D} (g:α->D) (g2:α->β->D) (l2:α->List β) (f:α->β->D):∀ (l:List α) (acc:List D),(∀ a∈l,fi2 (g a) s=.ok ((l2 a).map (g2 a),[]) s)->(∀ a∈l,∀ b∈l2 a,fb (g a) (g2 a b) s=.ok (f a b) s)->acc.length+(l.flatMap fun a=>(l2 a).map (f a)).length<=cap-> z2Z [] all (fun d acc s=>(fi2 d s).bind fun it2 s2=>vw it2.2 it2.1 (fun d2 s=>(fb d d2 s).bind fun d s3=>.ok (some d) s3) it2.1 acc s2) (l.map g) acc s=.ok (acc++l.flatMap fun a=>(l2 a).map (f a)) s
 | [],acc,_,_,_=>by simp [z2Z,okG] | x::xs,acc,h1,h2,hl=>by
  have og:okG [] all s:=by intro p hp;simp at hp
  rw [List.flatMap_cons,List.length_append,List.length_map] at hl;rw [List.map_cons,z2Z,if_pos og,h1 x (by simp),R.bind_ok];have c:=ug (s:=s) (all:=(l2 x).map (g2 x)) (body:=fun d2 s=>(fb (g x) d2 s).bind fun d s3=>.ok (some d) s3) (g2 x) (f x) (fun _=>true) (l2 x) acc (fun b hb=>by simp [h2 x (by simp) b hb]) (by omega);rw [c,R.bind_ok,List.filter_eq_self.mpr (by simp)];rw [z40 g g2 l2 f xs _ (fun a ha=>h1 a (by simp [ha])) (fun a ha=>h2 a (by simp [ha])) (by simp only [List.length_append,List.length_map];omega)];simp
theorem z9p {α β:Type} {fi:FI} {mp:List (Option Nat)} {k1 k2:Nat} {fi2:FI} {fe:FE} {Z:Ev} {s:Sto} (g:α->D) (g2:α->β->D) (l:List α) (l2:α->List β) (f:α->β->D) (hi:fi Z s=.ok (l.map g,[]) s) (hi2:∀ a∈l,fi2 ((yh mp Z).set k1 (some (g a))) s=.ok ((l2 a).map (g2 a),[]) s) (he:∀ a∈l,∀ b∈l2 a,fe (((yh mp Z).set k1 (some (g a))).set k2 (some (g2 a b))) s=.ok (f a b) s) (hl:(l.flatMap fun a=>(l2 a).map (f a)).length<=cap):z2A fi mp k1 k2 fi2 fe Z s=.ok (.lst (l.flatMap fun a=>(l2 a).map (f a))) s:=by
 unfold z2A z4z;rw [hi,R.bind_ok,z40 (fi2:=fun d s=>fi2 ((yh mp Z).set k1 (some d)) s) (fb:=fun d d2 s=>fe (((yh mp Z).set k1 (some d)).set k2 (some d2)) s) g g2 l2 f l [] hi2 he (by simpa using hl)];rfl
end Pr
namespace Pr
open PySem.Spec L2 Dd Pm Pg Pn Po
theorem jZ:∀ a b:List Int,PyData.eqvAll (toPys (iL a)) (toPys (iL b))=decide (a=b)
 | [],[]=>by simp [toPys,PyData.eqvAll] | [],_::_=>by simp [toPys,PyData.eqvAll] | _::_,[]=>by simp [toPys,PyData.eqvAll] | x::a,y::b=>by
  have ih:=jZ a b;simp only [iL] at ih;simp [toPys,wd,PyData.eqvAll,PyData.eqv,ih];rfl
theorem zbG(a b:List Int):eqD (rD a) (rD b)=decide (a=b):=by
 have:=jZ a b;simp only [eqD,wd,PyData.eqv,this]
theorem z8T(a b:List Int)(s:Sto):dEq (rD a) (rD b) s=.ok (.bl (decide (a=b))) s:=by rw [dEq,if_pos ⟨zbH (k:=1) (zci 0 a) (by decide),zbH (k:=1) (zci 0 b) (by decide)⟩,zbG]
theorem z2R:∀ (F:List (List Int)),D.flat.flats (F.map rD)=true
 | []=>rfl | r::T=>by
  have:=z2R T;simp [D.flat.flats,D.flat,this,xq]
structure Sm(n m:Nat):Prop where
 pw:(m+1) ^ n<=2401
 pw1:(m+1) ^ (n-1)<=343
 one:n*m<=60
 lo:1<=m
 hi:m<=30
end Pr
namespace Pt
open PySem.Spec L2 Dd Pm Pg Pn Po Pr
def cnt(r:Rl):Nat->List Int->Nat
 | 0,_=>0 | f+1,v=>if ended v=true then 0 else cnt r f (stp r v)+1
def nst(r:Rl)(v:List Int):Nat:=cnt r (mu r v) v
theorem z5u{n:Nat}{r:Rl}:∀ (f g:Nat)(v:List Int),Lot n v->mu r v<=f->mu r v<=g->cnt r f v=cnt r g v
 | 0,0,_,_,_,_=>rfl | 0,g+1,v,h,hf,hg=>by
  rw [cnt,cnt];by_cases e:ended v=true;·rw [if_pos e]
  ·have:=z0B r h (by simpa using e);omega | f+1,0,v,h,hf,hg=>by
  rw [cnt,cnt];by_cases e:ended v=true;·rw [if_pos e]
  ·have:=z0B r h (by simpa using e);omega | f+1,g+1,v,h,hf,hg=>by
  rw [cnt,cnt];by_cases e:ended v=true;·rw [if_pos e,if_pos e]
  ·have:=z0B r h (by simpa using e);rw [if_neg e,if_neg e,z5u f g (stp r v) (h.step r (by simpa using e)) (by omega) (by omega)]
theorem kf{r:Rl}{v:List Int}(e:ended v=true):nst r v=0:=by
 unfold nst;cases mu r v with
 | zero=>rfl | succ k=>rw [cnt,if_pos e]
theorem z6q{n:Nat}{r:Rl}{v:List Int}(h:Lot n v)(e:ended v=false):nst r v=nst r (stp r v)+1:=by
 have m:=z0B r h e;have e1:nst r v=cnt r (mu r v+1) v:=z5u _ _ v h (Nat.le_refl _) (by omega);rw [e1,cnt,if_neg (by simp [e]),z5u (mu r v) (mu r (stp r v)) _ (h.step r e) (by omega) (Nat.le_refl _)];rfl
def K(v:List Int):List Key:=v.map Sum.inl
theorem zaV:∀ {v w:List Int},K v=K w->v=w
 | [],[],_=>rfl | [],_::_,h=>by simp [K] at h | _::_,[],h=>by simp [K] at h | x::v,y::w,h=>by
  simp only [K,List.map_cons,List.cons.injEq,Sum.inl.injEq] at h;rw [h.1,zaV (v:=v) (w:=w) h.2]
theorem z0p:∀ v:List Int,kc (iL v)=some (K v)
 | []=>rfl | x::v=>by
  have:=z0p v;simp only [iL,K] at this;simp [kc,this,K]
theorem zbm(v:List Int):D.tup ((K v).map z55)=rD v:=by
 unfold K;rw [List.map_map];rfl
abbrev Kv:=List (List Key×V)
structure Lt(n b:Nat)(v:List Int):Prop where
 lot:Lot n v
 le:∀ x∈v,x<=((b:Nat):Int)
theorem Lt.step{n b:Nat}{v:List Int}(h:Lt n b v)(r:Rl)(e:ended v=false):Lt n b (stp r v):=⟨h.lot.step r e,zgs r h.lot e h.le⟩
theorem Lt.B{n b:Nat}{v:List Int}(h:Lt n b v)(hb:b<=900):z77 n 10 v:=⟨h.lot,fun x hx=>by
 have:=h.le x hx;have e:(2:Int) ^ 10=1024:=by decide
 omega⟩
structure Dk(n b:Nat)(d:Kv):Prop where
 nd:(d.map (·.1)).Nodup
 key:∀ p∈d,∃ v,Lt n b v/\p.1=K v/\∃ z:Nat,p.2=.int ((z:Nat):Int)
def Ok(r:Rl)(d:Kv):Prop:=∀ p∈d,∀ v,p.1=K v->p.2=.int ((nst r v:Nat):Int)
theorem Dk.all{n b:Nat}{d:Kv}(h:Dk n b d):z9U d:=fun p hp=>by
 obtain ⟨v,_,_,z,e⟩:=h.key p hp;rw [e];rfl
theorem z2N{d:Kv}{k:List Key}{u:V}(h:vc d k=some u):(k,u)∈d:=by
 unfold vc at h;obtain ⟨p,hp,rfl⟩:=Option.map_eq_some_iff.mp h;have e:p.1=k:=by simpa using List.find?_some hp
 rw [<- e];exact List.mem_of_find?_eq_some hp
theorem z9x{d:Kv}{p:List Key×V}(h:p∈d):∃ u,vc d p.1=some u:=by
 have:(d.any fun kv=>decide (kv.1=p.1))=true:=List.any_eq_true.mpr ⟨p,h,by simp⟩;rw [jK] at this;exact Option.isSome_iff_exists.mp this
theorem z0u{d:Kv}{k:List Key}{u:V}{p:List Key×V}(h:p∈um d k u):p=(k,u)\/(p∈d/\p.1≠k):=by
 unfold um at h;split at h
 ·obtain ⟨q,hq,rfl⟩:=List.mem_map.mp h;by_cases e:q.1=k;·rw [if_pos e,e];exact .inl rfl
  ·rw [if_neg e];exact .inr ⟨hq,e⟩
 ·rename_i q;rcases List.mem_append.mp h with h | h
  ·refine .inr ⟨h,fun e=>q ?_⟩;exact List.any_eq_true.mpr ⟨p,h,by simpa using e⟩
  ·exact .inl (by simpa using h)
theorem z9g{d:Kv}{k:List Key}{u:V}:(um d k u).map (·.1)=if (d.any fun kv=>decide (kv.1=k))=true then d.map (·.1) else d.map (·.1)++[k]:=by
 unfold um;split
 ·rw [List.map_map];refine List.map_congr_left fun p hp=>?_;simp only [Function.comp];split;·rfl
  ·rfl
 ·simp
theorem Dk.put{n b:Nat}{d:Kv}(h:Dk n b d){v:List Int}(hv:Lt n b v)(z:Nat):Dk n b (um d (K v) (.int ((z:Nat):Int))):=by
 refine ⟨?_,fun p hp=>?_⟩
 ·rw [z9g];split;·exact h.nd
  ·rename_i q;rw [List.nodup_append];refine ⟨h.nd,by simp,fun a ha c hc e=>q ?_⟩;have hc:c=K v:=by simpa using hc
   obtain ⟨p,hp,rfl⟩:=List.mem_map.mp ha;exact List.any_eq_true.mpr ⟨p,hp,by simpa using e.trans hc⟩
 ·rcases z0u hp with rfl | ⟨hp,_⟩;·exact ⟨v,hv,rfl,z,rfl⟩
  ·exact h.key p hp
theorem Ok.put{r:Rl}{d:Kv}(h:Ok r d){v:List Int}:Ok r (um d (K v) (.int ((nst r v:Nat):Int))):=fun p hp w e=>by
 rcases z0u hp with rfl | ⟨hp,_⟩;·rw [zaV e]
 ·exact h p hp w e
theorem Ok.val{r:Rl}{d:Kv}(h:Ok r d){v:List Int}{u:V}(e:vc d (K v)=some u):u=.int ((nst r v:Nat):Int):=h _ (z2N e) v rfl
theorem len_sub {α:Type}:∀ {l m:List α},l.Nodup->(∀ x∈l,x∈m)->l.length<=m.length
 | [],m,_,_=>Nat.zero_le _ | a::l,m,nd,h=>by
  obtain ⟨h1,h2⟩:=List.nodup_cons.mp nd;obtain ⟨p,q,rfl⟩:=List.append_of_mem (h a (.head _));have:=len_sub (l:=l) (m:=p++q) h2 fun x hx=>by
   have z:=h x (.tail _ hx);have ne:x≠a:=fun e=>h1 (e ▸ hx);rcases List.mem_append.mp z with z | z;·exact List.mem_append_left _ z
   ·rcases List.mem_cons.mp z with z | z;·exact absurd z ne
    ·exact List.mem_append_right _ z
  simp only [List.length_append,List.length_cons] at this ⊢;omega
def rngI(m:Nat):List Int:=(List.range (m+1)).map fun k:Nat=>((k:Nat):Int)
theorem z6u{m:Nat}{x:Int}:x∈rngI m ↔ 0<=x/\x<=m:=by
 unfold rngI;rw [List.mem_map];constructor
 ·rintro ⟨k,hk,rfl⟩;rw [List.mem_range] at hk;omega
 ·rintro ⟨h0,h1⟩;exact ⟨x.toNat,by rw [List.mem_range];omega,by omega⟩
theorem zdA(m:Nat):(rngI m).Pairwise (· < ·):=by
 unfold rngI;rw [List.pairwise_map];exact List.pairwise_lt_range.imp fun {a b} h=>by omega
def xu(n m:Nat):List (List Int):=qg (List.replicate n (rngI m))
theorem z1m(n m:Nat):xu (n+1) m=z2a (xu n m) (rngI m):=by
 unfold xu;rw [List.replicate_succ',qO]
theorem z2M {n m:Nat}:(xu n m).length<=(m+1) ^ n:=by
 have:=z9V (List.replicate n (rngI m)) (k:=m+1) fun c hc=>by rw [List.eq_of_mem_replicate hc];simp [rngI]
 simpa [xu] using this
theorem z8R(n m:Nat):Up (xu n m):=zaD _ fun c hc=>by rw [List.eq_of_mem_replicate hc];exact zdA m
theorem vF{n m:Nat}{v:List Int}:v∈xu n m ↔ v.length=n/\∀ x∈v,0<=x/\x<=m:=by
 unfold xu;rw [z4C,List.length_replicate];constructor
 ·rintro ⟨h1,h2⟩;refine ⟨h1,fun x hx=>?_⟩;obtain ⟨i,hi,rfl⟩:=List.mem_iff_getElem.mp hx;have:=h2 i (by omega);rw [show v.getD i 0=v[i] by simp [List.getD_eq_getElem?_getD,hi],show (List.replicate n (rngI m)).getD i []=rngI m by simp [List.getD_eq_getElem?_getD,show i<n by omega]] at this;exact z6u.mp this
 ·rintro ⟨h1,h2⟩;refine ⟨h1,fun i hi=>?_⟩;rw [show (List.replicate n (rngI m)).getD i []=rngI m by simp [List.getD_eq_getElem?_getD,hi]];exact z6u.mpr (h2 _ (Pm.getD_mem (by omega)))
theorem z51(m:Nat):∀ n,∃ t,xu n m=List.replicate n 0::t
 | 0=>⟨[],rfl⟩ | n+1=>by
  obtain ⟨t,e⟩:=z51 m n;rw [z1m,e,z2a,List.flatMap_cons];have:rngI m=0::(rngI m).tail:=by unfold rngI;rw [List.range_succ_eq_map];rfl
  rw [this,List.map_cons,List.cons_append,List.replicate_succ'];exact ⟨_,rfl⟩
def every(n m:Nat):List (List Int):=(xu n m).drop 1
theorem z4I{n m:Nat}(hn:Sz n){v:List Int}:v∈every n m ↔ Lt n m v:=by
 obtain ⟨t,e⟩:=z51 m n;have up:=(List.pairwise_cons.mp (e ▸ z8R n m)).1;have et:every n m=t:=by unfold every;rw [e];rfl
 rw [et];constructor
 ·intro h;have h1:v∈xu n m:=by rw [e];exact .tail _ h
  obtain ⟨l,b⟩:=vF.mp h1;refine ⟨⟨hn,l,fun x hx=>(b x hx).1,?_⟩,fun x hx=>(b x hx).2⟩;refine Classical.byContradiction fun z=>?_;have ez:v=List.replicate n 0:=by
   rw [List.eq_replicate_iff];refine ⟨l,fun x hx=>?_⟩;have:=(b x hx).1;refine Classical.byContradiction fun q=>z ⟨x,hx,by omega⟩
  have:=up v h;rw [ez,jF] at this;cases this
 ·rintro ⟨h,b⟩;have h1:v∈xu n m:=vF.mpr ⟨h.len,fun x hx=>⟨h.nn x hx,b x hx⟩⟩;rw [e] at h1;rcases List.mem_cons.mp h1 with z | z
  ·obtain ⟨x,hx,p⟩:=h.pos;rw [z] at hx;rw [List.eq_of_mem_replicate hx] at p;omega
  ·exact z
theorem Dk.len {n b:Nat} {d:Kv} (h:Dk n b d) (hn:Sz n):d.length<=(b+1) ^ n:=by
 have h1:=len_sub (l:=d.map (·.1)) (m:=(xu n b).map K) h.nd fun k hk=>by
  obtain ⟨p,hp,rfl⟩:=List.mem_map.mp hk;obtain ⟨v,hv,e,_⟩:=h.key p hp;rw [e];exact List.mem_map_of_mem (vF.mpr ⟨hv.lot.len,fun x hx=>⟨hv.lot.nn x hx,hv.le x hx⟩⟩)
 simp only [List.length_map] at h1;exact Nat.le_trans h1 z2M
theorem z79{n b:Nat}{d:Kv}(h:Dk n b d){s:Sto}{l:Nat}(e:s[l]? = some (encD d))(v:List Int):qq s (.dlo l) (rD v)=some (vc d (K v)):=by simp only [qq,e,Option.bind_some,z2L h.all,z0p]
theorem zg7{n b:Nat}{d:Kv}(h:Dk n b d){s:Sto}{l:Nat}(e:s[l]? = some (.non::encD d))(v:List Int):qq s (.dlo l) (rD v)=some (vc d (K v)):=by
 have:zcS (.non::encD d)=some d:=dec_enc h.all;simp only [qq,e,Option.bind_some,this,z0p]
theorem z5E{n b:Nat}{d:Kv}(h:Dk n b d){fo fk fv:FE}{Z:Ev}{s s1:Sto}{l:Nat}{v:List Int}{z:Nat}(hv:fv Z s=.ok (.int ((z:Nat):Int)) s1)(ho:fo Z s1=.ok (.dlo l) s1)(hk:fk Z s1=.ok (rD v) s1)(e:s1[l]? = some (encD d))(hl:d.length<cap): z6d fo fk fv Z s=.ok (.nx Z) (s1.set l (encD (um d (K v) (.int ((z:Nat):Int))))):=by simp only [z6d,hv,ho,hk,R.bind_ok,vV,e,Option.bind_some,dec_enc h.all,z0p,if_pos hl]
end Pt
namespace Pp
open PySem.Spec L2 Dd
open Pm Pg
theorem z8D(s:Sto)(a b:List D):(s++[a]).set s.length b=s++[b]:=by rw [List.set_append_right _ _ (by omega)];simp
theorem z0t(xs:List D)(i:Nat):Dd.cutD xs (some (i:Int)) none=xs.drop i:=by
 have:=z1c xs i [];simpa [dSl] using this
open Pn
theorem z7J{x a b:Int}(h1:a<=x)(h2:x<=b)(s:Sto):xo [.int x,.int a,.int b] s=.ok .non s:=by
 have w:yt [.int x] s=.ok (.bl true) s:=z6m (by rfl) s;have st:zy ["thing","least","most"] [.int x,.int a,.int b]=[some (.int x),some (.int a),some (.int b)]:=rfl;simp only [xo,Mof,jf,st,List.length_cons,List.length_nil,if_true];rw [qo,zc7];·rfl
 ·refine zid (zfH (z1F ?_)) (zfH (z1F ?_));·rw [vx (x:=.int x) (by simp)];exact w
  ·simp [h1,h2]
theorem z7f{m:Nat}{x:Int}(h0:0<=x)(h:x<2 ^ m)(hm:m<=4000):x.natAbs<BIG:=by
 have h1:x.natAbs<2 ^ m:=by
  have:((x.natAbs:Nat):Int)<((2 ^ m:Nat):Int):=by rw [Int.natAbs_of_nonneg h0];push_cast;exact h
  exact_mod_cast this
 have h2:(2:Nat) ^ m<=2 ^ 4000:=Nat.pow_le_pow_right (by decide) hm;have h3:(2:Nat) ^ 4000<BIG:=by decide +kernel
 exact Nat.lt_of_lt_of_le h1 (Nat.le_trans h2 (Nat.le_of_lt h3))
end Pp
namespace Pr
open PySem.Spec L2 Dd Pm Pg Pn Po Pp
section
variable {n m:Nat}{g:List Int}(h:Lot n g)(S:Sm n m)(hg:∀ x∈g,x<=1000)(r:Rl)
include h S
include hg
end
end Pr
namespace Pt
open PySem.Spec L2 Dd Pm Pg Pn Po Pr Pp
theorem zaQ {n m:Nat} (hn:n<=4) (hm:m<=30) (hs:(m+1) ^ n<=90000) (s:Sto):zY [.int ((n:Nat):Int),.int 0,.int ((m:Nat):Int)] s=.ok (.lst ((xu n m).map rD)) s:=by
 have f1:yY [some (.int ((n:Nat):Int)),some (.int 0),some (.int ((m:Nat):Int)),none,none] s=.ok (.nx [some (.int ((n:Nat):Int)),some (.int 0),some (.int ((m:Nat):Int)),some (.lst ((xu 0 m).map rD)),none]) s:=by
  rw [yY,yJ,z2n,zp,vk,zF];simp [cap,xu,qg]
 obtain ⟨Z',S',lp,a4,hZ,rfl⟩:=qR (all:=(List.range n).map fun k:Nat=>D.int ((k:Nat):Int)) (body:=fun x Z s=>(xw 4 x Z s).bind fun Z' s'=>yZ Z' s') (fun i Z S'=>∃ a4,Z=[some (.int ((n:Nat):Int)),some (.int 0),some (.int ((m:Nat):Int)),some (.lst ((xu i m).map rD)),a4]/\S'=s) ((List.range n).map fun k:Nat=>D.int ((k:Nat):Int)) 0 (by
   intro i x hx Z S' ⟨a4,hZ,hS⟩;subst hZ hS;rw [Nat.zero_add];have hi:i<n:=by have:=(List.getElem?_eq_some_iff.mp hx).1;simpa using this
   have eg:((xu i m).flatMap fun a=>(List.range (m+1)).map fun k=>rD (a++[((k:Nat):Int)]))=(xu (i+1) m).map rD:=by
    rw [z1m,z2a,List.map_flatMap,rngI];simp [Function.comp_def]
   have c:=z9p (fi:=zW (zc 3)) (mp:=[some 1,some 2,none,none]) (k1:=2) (k2:=3) (fi2:=z5D (zb (zc 0) (zb (eOp qQ (zc 1) (eC (.int 1))) zi))) (fe:=eOp qQ (zc 2) (ur (zb (zc 3) zi))) (Z:=[some (.int ((n:Nat):Int)),some (.int 0),some (.int ((m:Nat):Int)),some (.lst ((xu i m).map rD)),some x]) (s:=S') rD (fun _ (k:Nat)=>D.int ((k:Nat):Int)) (xu i m) (fun _=>List.range (m+1)) (fun a k=>rD (a++[((k:Nat):Int)])) (wG (vr rfl)) (fun a _=>by
     rw [z8W,zp,vr (d:=.int 0) rfl,R.bind_ok,zp,op2 (x:=.int ((m:Nat):Int)) (y:=.int 1) (vr rfl) rfl,z4l,R.bind_ok,zF];simp only [R.bind_ok];rw [if_pos (by omega),show (((m:Nat):Int)+1-0).toNat=m+1 by omega];simp [jr]) (fun a ha k _=>by
     have la:=(vF.mp ha).1;rw [op2 (x:=rD a) (y:=rD [((k:Nat):Int)]) (vr rfl) (by
      rw [vk,zp,vr (d:=.int ((k:Nat):Int)) rfl,R.bind_ok,zF];simp [cap]),z4p,if_pos (by simp [cap];omega)];simp) (by
     rw [eg,List.length_map];have h1:=z2M (n:=i+1) (m:=m);have h2:(m+1) ^ (i+1)<=(m+1) ^ n:=Nat.pow_le_pow_right (by omega) (by omega);have:(90000:Nat)<=cap:=by unfold cap;omega
     omega);rw [eg] at c;refine ⟨[some (.int ((n:Nat):Int)),some (.int 0),some (.int ((m:Nat):Int)),some (.lst ((xu (i+1) m).map rD)),some x],S',?_,some x,rfl,rfl⟩;rw [z54,R.bind_ok];show yZ [some (.int ((n:Nat):Int)),some (.int 0),some (.int ((m:Nat):Int)),some (.lst ((xu i m).map rD)),some x] S'=_;rw [yZ,yJ,c];rfl) [some (.int ((n:Nat):Int)),some (.int 0),some (.int ((m:Nat):Int)),some (.lst ((xu 0 m).map rD)),none] s ⟨none,rfl,rfl⟩;rw [Nat.zero_add,List.length_map,List.length_range] at hZ;have f2:yW [some (.int ((n:Nat):Int)),some (.int 0),some (.int ((m:Nat):Int)),some (.lst ((xu 0 m).map rD)),none] S'=.ok (.nx Z') S':=by
  rw [yW,kb,ke (n:=n) (s1:=S') (by omega) (by rw [zp,vr (d:=.int ((n:Nat):Int)) rfl,R.bind_ok,zF];rfl),R.bind_ok];exact lp
 have key:∀ (dn dz dm d0 d:D) (a4:Option D),yY [some dn,some dz,some dm,none,none] S'=.ok (.nx [some dn,some dz,some dm,some d0,none]) S'->yW [some dn,some dz,some dm,some d0,none] S'=.ok (.nx [some dn,some dz,some dm,some d,a4]) S'->zY [dn,dz,dm] S'=.ok d S':=fun dn dz dm d0 d a4 h1 h2=>by
  have st:zy ["size","least","most","found","place"] [dn,dz,dm]=[some dn,some dz,some dm,none,none]:=rfl;simp only [zY,Mof,ua,st,List.length_cons,List.length_nil,if_true];rw [zm h1,zm h2];rfl
 rw [hZ] at f2;exact key _ _ _ _ _ _ f1 f2
theorem z5W{n b:Nat}(h1:2<=n)(h2:n<=b)(s:Sto):wy [.int ((n:Nat):Int),.int ((b:Nat):Int)] s=.ok .non s:=by
 have w:=z2t ((n:Nat):Int) s;have a1:decide ((2:Int)<=((n:Nat):Int))=true:=decide_eq_true (by omega);have a2:decide (((n:Nat):Int)<=((b:Nat):Int))=true:=decide_eq_true (by omega);have a3:¬ b<n:=by omega
 simp [wy,Mof,z00,zy,w,a1,a2,a3]
def wk(r:Rl)(d:Kv):Nat->List Int->List (List Int)
 | 0,c=>[c] | f+1,c=>if (vc d (K c)).isSome=true\/ended c=true then [c] else c::wk r d f (stp r c)
inductive Chain(r:Rl):List (List Int)->Prop | one (c:List Int):Chain r [c] | cons {c:List Int}{t:List (List Int)}:ended c=false->Chain r (stp r c::t)->Chain r (c::stp r c::t)
theorem z8N(r:Rl)(d:Kv)(f:Nat)(c:List Int):∃ t,wk r d f c=c::t:=by cases f with
 | zero=>exact ⟨[],rfl⟩ | succ f=>
  rw [wk];split;·exact ⟨[],rfl⟩
  ·exact ⟨_,rfl⟩
theorem z6G(r:Rl)(d:Kv):∀ (f:Nat)(c:List Int),Chain r (wk r d f c)
 | 0,c=>.one c | f+1,c=>by
  rw [wk];split;·exact .one c
  ·rename_i q;have ih:=z6G r d f (stp r c);obtain ⟨t,e⟩:=z8N r d f (stp r c);rw [e] at ih ⊢;exact .cons (by cases h:ended c with | false=>rfl | true=>exact absurd (.inr h) q) ih
theorem zec{n b:Nat}{r:Rl}{d:Kv}:∀ (f:Nat)(c:List Int),Lt n b c->∀ v∈wk r d f c,Lt n b v
 | 0,c,h,v,hv=>by rw [List.mem_singleton.mp hv];exact h | f+1,c,h,v,hv=>by
  rw [wk] at hv;split at hv;·rw [List.mem_singleton.mp hv];exact h
  ·rename_i q;rcases List.mem_cons.mp hv with rfl | hv;·exact h
   ·exact zec f _ (h.step r (by cases z:ended c with | false=>rfl | true=>exact absurd (.inr z) q)) v hv
theorem z9B {n b:Nat} {r:Rl} {d:Kv}:∀ (f:Nat) (c:List Int),Lt n b c->mu r c<=f->∃ p e,wk r d f c=p++[e]/\((vc d (K e)).isSome=true\/ended e=true)
 | 0,c,h,hf=>by
  refine ⟨[],c,rfl,?_⟩;cases z:ended c with
  | true=>exact .inr rfl | false=>have:=z0B r h.lot z;omega
 | f+1,c,h,hf=>by
  rw [wk];split;·rename_i q;exact ⟨[],c,rfl,q⟩
  ·rename_i q;have z:ended c=false:=by cases z:ended c with | false=>rfl | true=>exact absurd (.inr z) q
   have:=z0B r h.lot z;obtain ⟨p,e,h1,h2⟩:=z9B (r:=r) (d:=d) f (stp r c) (h.step r z) (by omega);exact ⟨c::p,e,by rw [h1];rfl,h2⟩
theorem z9q{n b:Nat}{r:Rl}{W:List (List Int)}(h:Chain r W):(∀ v∈W,Lt n b v)->∀ (j:Nat)(v:List Int),W.reverse[j]? = some v->∃ e,W.reverse[0]? = some e/\nst r v=nst r e+j:=by induction h with
 | one c=>
  intro _ j v hj;have:j=0:=by have:=(List.getElem?_eq_some_iff.mp hj).1;simp at this;omega
  subst this;exact ⟨v,hj,rfl⟩ | @cons c t he h ih=>
  intro hl j v hj;have ih:=ih fun v hv=>hl v (.tail _ hv);rw [List.reverse_cons] at hj ⊢;have z0:((stp r c::t).reverse++[c])[0]? = (stp r c::t).reverse[0]? := List.getElem?_append_left (by simp);rw [z0];by_cases q:j<(stp r c::t).reverse.length
  ·rw [List.getElem?_append_left q] at hj;exact ih j v hj
  ·rw [List.getElem?_append_right (by omega)] at hj;have e1:j-(stp r c::t).reverse.length=0:=by have:=(List.getElem?_eq_some_iff.mp hj).1;simp at this ⊢;omega
   rw [e1] at hj;have:v=c:=by simpa using hj.symm
   subst this;obtain ⟨e,h1,h2⟩:=ih t.length (stp r v) (by rw [List.reverse_cons,List.getElem?_append_right (by simp)];simp);refine ⟨e,h1,?_⟩;rw [z6q (hl v (.head _)).lot he,h2];simp at e1 q;omega
abbrev F8(a0 a1 a2 a3 a4 a5 a6 a7:Option D):Ev:=[a0,a1,a2,a3,a4,a5,a6,a7]
abbrev zhi:FT:=zaa (tOf (eOp (zaF true) (eOp dIx (zc 5) (zah (eC (.int 1)))) (zc 3))) (z3S (tOf (ze yw (zb (eOp dIx (zc 5) (zah (eC (.int 1)))) zi))))
section
variable {n b:Nat}{r:Rl}{d:Kv}{S:Sto}{l:Nat}(hd:Dk n b d)(hl:S[l]? = some (encD d))(hb:b<=900){a1 a2 a4 a6 a7:Option D}
include hd hl hb
theorem z98 (ps:List (List Int)) (c:List Int) (a0:Option D):eOp dIx (zc 5) (zah (eC (.int 1))) (F8 a0 a1 a2 (some (.dlo l)) a4 (some (.loc S.length)) a6 a7) (S++[(ps++[c]).map rD])=.ok (rD c) (S++[(ps++[c]).map rD]):=by
 rw [op2 (x:=.loc S.length) (y:=.int (-1)) (vr rfl) rfl];exact z9M (xs:=ps.map rD) (by simp [yd])
theorem z7e {c:List Int} (hc:Lt n b c) (ps:List (List Int)) (a0:Option D):zhi (F8 a0 a1 a2 (some (.dlo l)) a4 (some (.loc S.length)) a6 a7) (S++[(ps++[c]).map rD])=.ok (!(vc d (K c)).isSome&&!ended c) (S++[(ps++[c]).map rD]):=by
 have ll:l<S.length:=(List.getElem?_eq_some_iff.mp hl).1;have hl2:(S++[(ps++[c]).map rD])[l]? = some (encD d):=by rw [List.getElem?_append_left ll];exact hl
 have ix:=z98 (a1:=a1) (a2:=a2) (a4:=a4) (a6:=a6) (a7:=a7) hd hl hb ps c a0;have he:=z0z hc.lot (S++[(ps++[c]).map rD]);have da:=z79 hd hl2 c;generalize S++[(ps++[c]).map rD]=T at *;unfold zhi;rw [z7h,z1F (b:=!(vc d (K c)).isSome) (by
  rw [op2 (x:=rD c) (y:=.dlo l) ix (vr rfl)];simp only [zaF,da];rfl),R.bind_ok];cases (vc d (K c)).isSome with
 | true=>rfl | false=>
  rw [if_pos (by rfl:(!false)=true),z5i,z1F (b:=ended c) (by rw [vx (x:=rD c) ix];exact he),R.bind_ok];rfl
theorem z4k:∀ (f:Nat) (c:List Int) (ps:List (List Int)),Lt n b c->mu r c<=f->ps.length+f+1<90000-> uc zhi xH (f+1) (F8 (some (.str (nmR r))) a1 a2 (some (.dlo l)) a4 (some (.loc S.length)) a6 a7) (S++[(ps++[c]).map rD])=.ok (.nx (F8 (some (.str (nmR r))) a1 a2 (some (.dlo l)) a4 (some (.loc S.length)) a6 a7)) (S++[(ps++wk r d f c).map rD])
 | 0,c,ps,h,hf,hp=>by
  have t:=z7e (a1:=a1) (a2:=a2) (a4:=a4) (a6:=a6) (a7:=a7) hd hl hb h ps (some (.str (nmR r)));have e:ended c=true:=by cases z:ended c with
   | true=>rfl | false=>have:=z0B r h.lot z;omega
  rw [e,Bool.not_true,Bool.and_false] at t;rw [uc,t,R.bind_ok];rfl | f+1,c,ps,h,hf,hp=>by
  have t:=z7e (a1:=a1) (a2:=a2) (a4:=a4) (a6:=a6) (a7:=a7) hd hl hb h ps (some (.str (nmR r)));rw [uc,t,R.bind_ok,wk];by_cases q:(vc d (K c)).isSome=true\/ended c=true;·rw [if_pos q,if_neg (by rcases q with q | q<;>simp [q])]
  ·have z:ended c=false:=by cases z:ended c with | false=>rfl | true=>exact absurd (.inr z) q
   have k:(vc d (K c)).isSome=false:=by cases k:(vc d (K c)).isSome with | false=>rfl | true=>exact absurd (.inl k) q
   have m:=z0B r h.lot z;rw [if_neg q,if_pos (by simp [z,k])];have ix:=z98 (a1:=a1) (a2:=a2) (a4:=a4) (a6:=a6) (a7:=a7) hd hl hb ps c (some (.str (nmR r)));have sp:=zfh r (h.B hb) z (by decide) (S++[(ps++[c]).map rD]);have fl:(rD (stp r c)).flat=true:=xq _;have ih:=z4k f (stp r c) (ps++[c]) (h.step r z) (by omega) (by simp;omega);have ea:(ps++[c]++[stp r c]).map rD=(ps++[c]).map rD++[rD (stp r c)]:=by simp
   rw [List.append_assoc ps [c] (wk r d f (stp r c)),ea] at ih;have ln:((ps++[c]).map rD).length<90000:=by simp;omega
   have f5:xH (F8 (some (.str (nmR r))) a1 a2 (some (.dlo l)) a4 (some (.loc S.length)) a6 a7) (S++[(ps++[c]).map rD])=.ok (.nx (F8 (some (.str (nmR r))) a1 a2 (some (.dlo l)) a4 (some (.loc S.length)) a6 a7)) (S++[(ps++[c]).map rD++[rD (stp r c)]]):=by
    generalize (ps++[c]).map rD=X at *;generalize rD (stp r c)=y at *;generalize rD c=w at *;rw [xH,kE,zcs,vr (d:=.loc S.length) rfl,R.bind_ok];simp only;rw [call2 (x:=.str (nmR r)) (y:=w) (vr rfl) ix,sp,R.bind_ok];have gt:(S++[X])[S.length]? = some X:=by simp
    rw [gt];simp only;rw [if_pos ⟨fl,by unfold cap;omega⟩,z8D];rfl
   rw [f5,R.bind_ok];exact ih
end
def ze7(d d':Kv):Prop:=∀ k,(vc d k).isSome=true->(vc d' k).isSome=true
theorem ze7.put(d:Kv)(k:List Key)(u:V):ze7 d (um d k u):=fun j h=>by
 rw [z0l];split;·rfl
 ·exact h
abbrev zgr:D->Ev->Sto->R Fl:=fun x Z s=>(xw 7 x Z s).bind fun Z' s'=>(zC yP wT) Z' s'
theorem z9K {n b:Nat} {r:Rl} (hn:Sz n) (hb:(b+1) ^ n<=90000) {W:List (List Int)} (ch:Chain r W) (hW:∀ v∈W,Lt n b v) {e:List Int} (he:W.reverse[0]? = some e) {d:Kv} {S:Sto} {l:Nat} (hd:Dk n b d) (ho:Ok r d) (hl:S[l]? = some (encD d)) (a0 a1 a2 a4 a5 a7:Option D): ∃ b6 b7 d' S',wq [] (W.reverse.map rD) zgr (W.reverse.map rD) (F8 a0 a1 a2 (some (.dlo l)) a4 a5 (some (.int ((nst r e:Nat):Int))) a7) S=.ok (.nx (F8 a0 a1 a2 (some (.dlo l)) a4 a5 b6 b7)) S'/\Dk n b d'/\Ok r d'/\S'[l]? = some (encD d')/\ze7 d d'/\(∀ v∈W,(vc d' (K v)).isSome=true):=by
 obtain ⟨Z',S',lp,z7,d',hZ,h1,h2,h3,h4,h5⟩:=qR (all:=W.reverse.map rD) (body:=zgr) (fun j Z S'=>∃ z7 d',Z=F8 a0 a1 a2 (some (.dlo l)) a4 a5 (some (.int ((nst r e+j:Nat):Int))) z7/\Dk n b d'/\Ok r d'/\S'[l]? = some (encD d')/\ze7 d d'/\∀ v∈W.reverse.take j,(vc d' (K v)).isSome=true) (W.reverse.map rD) 0 (by
  intro j x hx Z S1 ⟨z7,d1,hZ,h1,h2,h3,h4,h5⟩;subst hZ;rw [Nat.zero_add] at h5 ⊢;rw [List.getElem?_map,Option.map_eq_some_iff] at hx;obtain ⟨v,hv,rfl⟩:=hx;obtain ⟨e',he',hj⟩:=z9q ch hW j v hv;rw [he] at he';cases he';have hvW:v∈W:=List.mem_reverse.mp (List.mem_of_getElem? hv);have ln:d1.length<cap:=by have:=h1.len hn;unfold cap;omega
  have l1:l<S1.length:=(List.getElem?_eq_some_iff.mp h3).1;have f8:yP (F8 a0 a1 a2 (some (.dlo l)) a4 a5 (some (.int ((nst r e+j:Nat):Int))) (some (rD v))) S1=.ok (.nx (F8 a0 a1 a2 (some (.dlo l)) a4 a5 (some (.int ((nst r e+j:Nat):Int))) (some (rD v)))) (S1.set l (encD (um d1 (K v) (.int ((nst r v:Nat):Int))))):=by
   rw [yP,hj];exact z5E h1 (vr rfl) (vr rfl) (vr rfl) h3 ln
  refine ⟨F8 a0 a1 a2 (some (.dlo l)) a4 a5 (some (.int ((nst r e+(j+1):Nat):Int))) (some (rD v)),S1.set l (encD (um d1 (K v) (.int ((nst r v:Nat):Int)))),?_,some (rD v),_,rfl,h1.put (hW v hvW) _,h2.put,List.getElem?_set_self l1,fun k hk=>ze7.put _ _ _ k (h4 k hk),fun w hw=>?_⟩
  ·show (zC yP wT) (F8 a0 a1 a2 (some (.dlo l)) a4 a5 (some (.int ((nst r e+j:Nat):Int))) (some (rD v))) S1=_;rw [zm f8];rfl
  ·have ts:W.reverse.take (j+1)=W.reverse.take j++[v]:=by rw [List.take_add_one,hv];rfl
   rw [ts] at hw;rcases List.mem_append.mp hw with hw | hw;·exact ze7.put _ _ _ _ (h5 w hw)
   ·rw [List.mem_singleton.mp hw,z0l,if_pos rfl];rfl) (F8 a0 a1 a2 (some (.dlo l)) a4 a5 (some (.int ((nst r e:Nat):Int))) a7) S ⟨a7,d,rfl,hd,ho,hl,fun _ h=>h,by simp⟩;refine ⟨_,z7,d',S',lp.trans (by rw [hZ]),h1,h2,h3,h4,fun v hv=>h5 v ?_⟩;rw [Nat.zero_add,List.length_map,List.take_length];exact List.mem_reverse.mpr hv
abbrev zfp:D->Ev->Sto->R Fl:=fun x Z s=>(xw 4 x Z s).bind fun Z' s'=>(zC yI (zC yN (zC yL xJ))) Z' s'
theorem zbC {n b:Nat} {r:Rl} (hn:Sz n) (hb:b<=30) (hb2:(b+1) ^ n<=90000) {v:List Int} (hv:Lt n b v) {d:Kv} {S:Sto} {l:Nat} (hd:Dk n b d) (ho:Ok r d) (hl:S[l]? = some (encD d)) (a1 a2 a4 a5 a6 a7:Option D): ∃ b5 b6 b7 d' S',zfp (rD v) (F8 (some (.str (nmR r))) a1 a2 (some (.dlo l)) a4 a5 a6 a7) S=.ok (.nx (F8 (some (.str (nmR r))) a1 a2 (some (.dlo l)) (some (rD v)) b5 b6 b7)) S'/\Dk n b d'/\Ok r d'/\S'[l]? = some (encD d')/\ze7 d d'/\(vc d' (K v)).isSome=true:=by
 have mb:mu r v<=103:=by
  have:=zgQ (m:=5) (r:=r) hv.lot fun x hx=>by
   have h1:=hv.le x hx;have h2:=hv.lot.nn x hx;have:x.toNat<=30:=by omega
   exact Nat.lt_of_le_of_lt this (by decide)
  omega
 have ll:l<S.length:=(List.getElem?_eq_some_iff.mp hl).1;obtain ⟨p,e,hpe,hlast⟩:=z9B (r:=r) (d:=d) 103 v hv mb;have he:Lt n b e:=zec (r:=r) (d:=d) 103 v hv e (by rw [hpe];simp);have f3:yI (F8 (some (.str (nmR r))) a1 a2 (some (.dlo l)) (some (rD v)) a5 a6 a7) S=.ok (.nx (F8 (some (.str (nmR r))) a1 a2 (some (.dlo l)) (some (rD v)) (some (.loc S.length)) a6 a7)) (S++[([]++[v]).map rD]):=by
  have fl:=z2R [v];simp only [List.map_cons,List.map_nil] at fl;simp only [List.nil_append,List.map_cons,List.map_nil];generalize rD v=x at *;rw [yI,yJ,z9O,zp,vr (d:=x) rfl,R.bind_ok,zF];simp only [R.bind_ok];rw [if_pos ⟨by simp [cap],fl⟩];rfl
 have f4:yN (F8 (some (.str (nmR r))) a1 a2 (some (.dlo l)) (some (rD v)) (some (.loc S.length)) a6 a7) (S++[([]++[v]).map rD])=.ok (.nx (F8 (some (.str (nmR r))) a1 a2 (some (.dlo l)) (some (rD v)) (some (.loc S.length)) a6 a7)) (S++[(wk r d 103 v).map rD]):=by
  have lp:=z4k (r:=r) (a1:=a1) (a2:=a2) (a4:=some (rD v)) (a6:=a6) (a7:=a7) hd hl (by omega) 103 v [] hv mb (by simp);rw [List.nil_append (wk r d 103 v)] at lp;rw [yN];exact zbd lp (by simp)
 have hl2:(S++[(wk r d 103 v).map rD])[l]? = some (encD d):=by rw [List.getElem?_append_left ll];exact hl
 have da:=z79 hd hl2 e;have f6:yL (F8 (some (.str (nmR r))) a1 a2 (some (.dlo l)) (some (rD v)) (some (.loc S.length)) a6 a7) (S++[(wk r d 103 v).map rD])=.ok (.nx (F8 (some (.str (nmR r))) a1 a2 (some (.dlo l)) (some (rD v)) (some (.loc S.length)) (some (.int ((nst r e:Nat):Int))) a7)) (S++[(wk r d 103 v).map rD]):=by
  have ix:eOp dIx (zc 5) (zah (eC (.int 1))) (F8 (some (.str (nmR r))) a1 a2 (some (.dlo l)) (some (rD v)) (some (.loc S.length)) a6 a7) (S++[(wk r d 103 v).map rD])=.ok (rD e) (S++[(wk r d 103 v).map rD]):=by
   rw [op2 (x:=.loc S.length) (y:=.int (-1)) (vr rfl) rfl];exact z9M (xs:=p.map rD) (by simp [yd,hpe])
  generalize S++[(wk r d 103 v).map rD]=T at *;rw [yL,yJ,zaK,vr (d:=.dlo l) rfl,R.bind_ok];simp only;rw [ix,R.bind_ok,kO,R.bind_ok,da];cases hval:vc d (K e) with
  | some u=>rw [ho.val hval];rfl | none=>
   have:ended e=true:=hlast.resolve_left (by simp [hval]);rw [kf this];rfl
 have rev0:(wk r d 103 v).reverse[0]? = some e:=by rw [hpe];simp
 obtain ⟨b6,b7,d',S',lp,h1,h2,h3,h4,h5⟩:=z9K hn hb2 (z6G r d 103 v) (zec 103 v hv) rev0 hd ho hl2 (some (.str (nmR r))) a1 a2 (some (rD v)) (some (.loc S.length)) a7;refine ⟨some (.loc S.length),b6,b7,d',S',?_,h1,h2,h3,h4,h5 v ?_⟩
 ·show (zC yI (zC yN (zC yL xJ))) (F8 (some (.str (nmR r))) a1 a2 (some (.dlo l)) (some (rD v)) a5 a6 a7) S=_;rw [zm f3,zm f4,zm f6];have it:zW (z9z (zc 5)) (F8 (some (.str (nmR r))) a1 a2 (some (.dlo l)) (some (rD v)) (some (.loc S.length)) (some (.int ((nst r e:Nat):Int))) a7) (S++[(wk r d 103 v).map rD])=.ok ((wk r d 103 v).reverse.map rD,[]) (S++[(wk r d 103 v).map rD]):=by
   refine wG ?_;rw [zcG,vr (d:=.loc S.length) rfl,R.bind_ok];simp [Dd.listOf]
  rw [xJ,kb,it,R.bind_ok];exact lp
 ·obtain ⟨t,ht⟩:=z8N r d 103 v;rw [ht];exact .head _
theorem z1A {n b:Nat} (r:Rl) (hn:Sz n) (hb:b<=30) (hb2:(b+1) ^ n<=90000) (s:Sto):∃ d S',yx [.str (nmR r),.int ((n:Nat):Int),.int ((b:Nat):Int)] s=.ok (.dlo s.length) S'/\Dk n b d/\Ok r d/\S'[s.length]? = some (encD d)/\∀ v,Lt n b v->(vc d (K v)).isSome=true:=by
 have tb:=zaQ (n:=n) (m:=b) (by unfold Sz at hn;omega) hb hb2 (s++[Dd.encD []]);obtain ⟨Z',S',lp,b4,b5,b6,b7,d,hZ,h1,h2,h3,h5⟩:=qR (all:=(every n b).map rD) (body:=zfp) (fun i Z S'=>∃ b4 b5 b6 b7 d,Z=F8 (some (.str (nmR r))) (some (.int ((n:Nat):Int))) (some (.int ((b:Nat):Int))) (some (.dlo s.length)) b4 b5 b6 b7/\Dk n b d/\Ok r d/\S'[s.length]? = some (encD d)/\∀ v∈(every n b).take i,(vc d (K v)).isSome=true) ((every n b).map rD) 0 (by
  intro i x hx Z S1 ⟨b4,b5,b6,b7,d,hZ,h1,h2,h3,h5⟩;subst hZ;rw [Nat.zero_add] at h5 ⊢;rw [List.getElem?_map,Option.map_eq_some_iff] at hx;obtain ⟨v,hv,rfl⟩:=hx;obtain ⟨c5,c6,c7,d',S',e,k1,k2,k3,k4,k5⟩:=zbC (r:=r) hn hb hb2 ((z4I hn).mp (List.mem_of_getElem? hv)) h1 h2 h3 (some (.int ((n:Nat):Int))) (some (.int ((b:Nat):Int))) b4 b5 b6 b7;refine ⟨_,S',e,_,_,_,_,d',rfl,k1,k2,k3,fun w hw=>?_⟩;have ts:(every n b).take (i+1)=(every n b).take i++[v]:=by rw [List.take_add_one,hv];rfl
  rw [ts] at hw;rcases List.mem_append.mp hw with hw | hw;·exact k4 _ (h5 w hw)
  ·rw [List.mem_singleton.mp hw];exact k5) (F8 (some (.str (nmR r))) (some (.int ((n:Nat):Int))) (some (.int ((b:Nat):Int))) (some (.dlo s.length)) none none none none) (s++[Dd.encD []]) ⟨_,_,_,_,[],rfl,⟨List.Pairwise.nil,by simp⟩,fun p hp=>by simp at hp,by simp,by simp⟩;refine ⟨d,S',?_,h1,h2,h3,fun v hv=>h5 v ?_⟩
 ·have f1:wO (F8 (some (.str (nmR r))) (some (.int ((n:Nat):Int))) (some (.int ((b:Nat):Int))) none none none none none) s=.ok (.nx (F8 (some (.str (nmR r))) (some (.int ((n:Nat):Int))) (some (.int ((b:Nat):Int))) (some (.dlo s.length)) none none none none)) (s++[Dd.encD []]):=rfl;have it:zW (eSl (ze zY (zb (zc 1) (zb (eC (.int 0)) (zb (zc 2) zi)))) (wC (eC (.int 1))) zP) (F8 (some (.str (nmR r))) (some (.int ((n:Nat):Int))) (some (.int ((b:Nat):Int))) (some (.dlo s.length)) none none none none) (s++[Dd.encD []])=.ok ((every n b).map rD,[]) (s++[Dd.encD []]):=by
   refine wG ?_;have sl:dSl (.lst ((xu n b).map rD)) (some ((1:Nat):Int)) none (s++[Dd.encD []])=.ok (.lst ((every n b).map rD)) (s++[Dd.encD []]):=by
    have e:=z1c ((xu n b).map rD) 1 (s++[Dd.encD []]);have e2:Dd.cutD ((xu n b).map rD) (some ((1:Nat):Int)) none=((xu n b).map rD).drop 1:=by simpa [dSl] using e
    simp only [dSl,Dd.listOf,e2];rw [every,List.map_drop]
   generalize (xu n b).map rD=A at *;generalize (every n b).map rD=B at *;rw [z7Z,z3p (x:=.int ((n:Nat):Int)) (y:=.int 0) (z:=.int ((b:Nat):Int)) (vr rfl) rfl (vr rfl),tb,R.bind_ok];simp only [kA,kO,ui,R.bind_ok];exact sl
  have f2:xI (F8 (some (.str (nmR r))) (some (.int ((n:Nat):Int))) (some (.int ((b:Nat):Int))) (some (.dlo s.length)) none none none none) (s++[Dd.encD []])=.ok (.nx Z') S':=by
   rw [xI,kb,it,R.bind_ok];exact lp
  rw [hZ] at f2;have key:∀ (dr dn db:D) (b4 b5 b6 b7:Option D),wO (F8 (some dr) (some dn) (some db) none none none none none) s=.ok (.nx (F8 (some dr) (some dn) (some db) (some (.dlo s.length)) none none none none)) (s++[Dd.encD []])->xI (F8 (some dr) (some dn) (some db) (some (.dlo s.length)) none none none none) (s++[Dd.encD []])=.ok (.nx (F8 (some dr) (some dn) (some db) (some (.dlo s.length)) b4 b5 b6 b7)) S'->yx [dr,dn,db] s=.ok (.dlo s.length) S':=fun dr dn db b4 b5 b6 b7 k1 k2=>by
   have st:zy ["rule","size","most","steps","lot","path","many","behind"] [dr,dn,db]=F8 (some dr) (some dn) (some db) none none none none none:=rfl;simp only [yx,Mof,qF,st,List.length_cons,List.length_nil,if_true];rw [zm k1,zm k2];rfl
  exact key _ _ _ _ _ _ _ f1 f2
 ·rw [Nat.zero_add,List.length_map,List.take_length];exact (z4I hn).mpr hv
end Pt
namespace Pr
open PySem.Spec L2 Dd Pm Pg Pn Po Pp
section
variable {n m:Nat}{g:List Int}(h:Lot n g)(S:Sm n m)(hg:∀ x∈g,x<=1000)(r:Rl)
include h S
include hg
end
end Pr
namespace Pp
open PySem.Spec L2 Dd Pm Pg Pn
end Pp
namespace Pr
open PySem.Spec L2 Dd Pm Pg Pn Po Pp
theorem z8E {n:Nat} {v:List Int} (h:Lot n v) (s:Sto):wm [rD v] s=.ok (.bl (ended v)) s:=by
 have l4:=h.le4;have key:∀ d:D,d=rD v->wm [d] s=.ok (.bl (ended v)) s:=fun d hd=>by
  have st:zy ["_law_lot_here"] [d]=[some d]:=rfl;have c:=vb (s:=s) (Z:=[some d]) (fi:=zW (zc 0)) (mp:=[none]) (fg:=xw 0) (ft:=tOf (eOp dGt (zc 0) (eC (.int 0)))) (fe:=zc 0) D.int D.int (fun x=>decide (0<x)) (fun x=>[some (.int x)]) v (z3D (by rw [vr (d:=d) rfl,hd])) (fun a _=>by simp) (fun a _=>by simp) (fun a _ _=>by simp) (by simp [cap];omega);rw [zch h.nn] at c;have h2:(nz v).length≠0:=fun z=>h.nzne (List.length_eq_zero_iff.mp z);have lb:decide (((nz v).length:Int)<2)=ended v:=by
   unfold ended;by_cases e:(nz v).length=1;·simp [e]
   ·have:¬ ((nz v).length:Int)<2:=by omega
    simp [e,this]
  simp only [wm,Mof,qe,st,List.length_cons,List.length_nil,if_true,uq,xZ,wE,vx c,wX,yd,R.bind_ok,kO,zhj,List.length_map,lb]
 exact key _ rfl
def zj0:List Rl:=[.nx,.le,.al,.tu]
theorem zaR(s:Sto):xk [] s=.ok (.lst (zj0.map fun r=>D.str (nmR r))) s:=by
 have c4:(4:Nat)<=cap:=by decide
 have st:zy [] []=[]:=rfl;simp only [xk,Mof,qd,st,List.length_nil,if_true,uf,xZ,z2n,zp,zF,kO,R.bind_ok,List.length_cons,Nat.zero_add,Nat.reduceAdd,if_pos c4];rfl
theorem zeq(n:Nat)(b:Nat):∃ k:Nat,(if (if ((b:Nat):Int)<(n:Int) then ((b:Nat):Int) else n) > 1 then (if ((b:Nat):Int)<(n:Int) then ((b:Nat):Int) else n) else 1)=(k:Int)/\k<=b+1:=by
 by_cases h:((b:Nat):Int)<n
 ·rw [if_pos h];by_cases h2:((b:Nat):Int) > 1;·exact ⟨b,by rw [if_pos h2],by omega⟩
  ·exact ⟨1,by rw [if_neg h2];rfl,by omega⟩
 ·rw [if_neg h];by_cases h2:((n:Nat):Int) > 1;·exact ⟨n,by rw [if_pos h2],by omega⟩
  ·exact ⟨1,by rw [if_neg h2];rfl,by omega⟩
end Pr
namespace K72
open PySem.Spec L2 Dd Pm Pg Pn Po Pr Pp Pt
theorem zdP:K72.xi=Pg.wm:=rfl
theorem e_step:K72.xf=Pg.yU:=by
 unfold K72.xf Pg.yU;rfl
theorem zau {n : Nat} {r : Rl} {v : List Int} (h : Lt n 16 v) (hn : n ≤ 3) : mu r v ≤ 78 := by
  have hw : ∀ u : List Int, (∀ x ∈ u, x ≤ 16) → wt u ≤ 5 * u.length := by
    intro u
    induction u with
    | nil => intro _; simp [wt]
    | cons x u ih =>
      intro hu
      have h1 := ih fun y hy => hu y (.tail _ hy)
      have hx : x.toNat ≤ 16 := by have := hu x (.head _); omega
      have h2 : bl x.toNat ≤ 5 := zcx 5 _ (Nat.lt_of_le_of_lt hx (by decide))
      simp only [wt, List.map_cons, List.sum_cons, List.length_cons] at h1 ⊢
      omega
  have h1 := hw v h.le
  have h2 := (z5L h.lot.nzne).1
  have h3 := h.lot.len
  unfold mu
  split <;> omega
def Frm(n:Nat)(r:Rl)(d d':Kv):Prop:=∀ p∈d',p∈d\/∃ w,Lt n 16 w/\p=(Pt.K w,.int ((nst r w:Nat):Int))
def Rgt(r:Rl)(v:List Int)(d:Kv):Prop:=∀ p∈d,∀ w:List Int,p.1=Pt.K w->mu r w<=mu r v->p.2=.int ((nst r w:Nat):Int)
theorem z5U{n b:Nat}{d:Kv}(h:Dk n b d){fo fk:FE}{Z:Ev}{s:Sto}{l:Nat}{v:List Int}{z:Nat}(ho:fo Z s=.ok (.dlo l) s)(hk:fk Z s=.ok (rD v) s)(e:s[l]? = some (Dd.encD d))(hz:vc d (Pt.K v)=some (.int ((z:Nat):Int))):z5g fo fk Z s=.ok (.int ((z:Nat):Int)) s:=by
 rw [z9h,ho,R.bind_ok,hk,R.bind_ok,z79 h e,hz];rfl
theorem zbn {n:Nat} (hn:Sz n) (r:Rl):∀ (k:Nat) (v:List Int) (d:Kv) (S:Sto) (l:Nat),Lt n 16 v->mu r v<=k->Dk n 16 d->Rgt r v d->S[l]? = some (Dd.encD d)-> ∃ d' S',yc (k+1) [.str (nmR r),rD v,.dlo l] S=.ok (.int ((nst r v:Nat):Int)) S'/\Dk n 16 d'/\Frm n r d d'/\S'[l]? = some (Dd.encD d')/\(∀ j,j≠l->S'[j]? = S[j]?)/\S'.length=S.length:=by
 intro k;induction k with
 | zero=>
  intro v d S l hv hk hd hr hl;exact body hn r 0 v d S l hv hd hr hl (fun z=>by have:=z0B r hv.lot z;omega) | succ k ih=>
  intro v d S l hv hk hd hr hl;exact body hn r (k+1) v d S l hv hd hr hl (fun z d1 S1 h1 h2 h3=>ih (stp r v) d1 S1 l (hv.step r z) (by have:=z0B r hv.lot z;omega) h1 h2 h3)
where
 body {n:Nat} (hn:Sz n) (r:Rl) (k:Nat) (v:List Int) (d:Kv) (S:Sto) (l:Nat) (hv:Lt n 16 v) (hd:Dk n 16 d) (hr:Rgt r v d) (hl:S[l]? = some (Dd.encD d)) (ih:ended v=false->∀ (d1:Kv) (S1:Sto),Dk n 16 d1->Rgt r (stp r v) d1->S1[l]? = some (Dd.encD d1)->∃ d' S',yc k [.str (nmR r),rD (stp r v),.dlo l] S1=.ok (.int ((nst r (stp r v):Nat):Int)) S'/\Dk n 16 d'/\Frm n r d1 d'/\S'[l]? = some (Dd.encD d')/\(∀ j,j≠l->S'[j]? = S1[j]?)/\S'.length=S1.length): ∃ d' S',yc (k+1) [.str (nmR r),rD v,.dlo l] S=.ok (.int ((nst r v:Nat):Int)) S'/\Dk n 16 d'/\Frm n r d d'/\S'[l]? = some (Dd.encD d')/\(∀ j,j≠l->S'[j]? = S[j]?)/\S'.length=S.length:=by
  generalize hM:yc k=Mr at ih;have eM:yc (k+1)=Mof ["_law_rule","_law_lot","_law_known"] 3 (wY Mr):=by rw [<- hM];rfl
  rw [eM];have ll:l<S.length:=(List.getElem?_eq_some_iff.mp hl).1;have cl:∀ {d:Kv},Dk n 16 d->d.length<cap:=fun {d} h=>by
   have h1:=h.len hn;have h2:(16+1) ^ n<=17 ^ 4:=Nat.pow_le_pow_right (by decide) (by unfold Sz at hn;omega);have h3:(17:Nat) ^ 4=83521:=by decide
   unfold cap;omega
  have key:∀ (dr dv:D) (S2:Sto),xD Mr [some dr,some dv,some (.dlo l)] S=.ok (.nx [some dr,some dv,some (.dlo l)]) S2->z5g (zc 2) (zc 1) [some dr,some dv,some (.dlo l)] S2=.ok (.int ((nst r v:Nat):Int)) S2->Mof ["_law_rule","_law_lot","_law_known"] 3 (wY Mr) [dr,dv,.dlo l] S=.ok (.int ((nst r v:Nat):Int)) S2:=fun dr dv S2 h1 h2=>by
   have st:zy ["_law_rule","_law_lot","_law_known"] [dr,dv,.dlo l]=[some dr,some dv,some (.dlo l)]:=rfl;simp only [Mof,wY,st,List.length_cons,List.length_nil,if_true];rw [zm h1,qY,xZ,h2];rfl
  have t:tOf (eOp (zaF true) (zc 1) (zc 2)) [some (.str (nmR r)),some (rD v),some (.dlo l)] S=.ok (!(vc d (Pt.K v)).isSome) S:=z1F (by
   rw [op2 (x:=rD v) (y:=.dlo l) (vr rfl) (vr rfl)];simp only [zaF,z79 hd hl];rfl);cases hval:vc d (Pt.K v) with
  | some u=>
   have hu:u=.int ((nst r v:Nat):Int):=hr _ (z2N hval) v rfl (Nat.le_refl _);rw [hu] at hval;refine ⟨d,S,key _ _ _ ?_ (z5U hd (vr rfl) (vr rfl) hl hval),hd,fun p hp=>.inl hp,hl,fun _ _=>rfl,rfl⟩;rw [xD,zc7 (by rw [t,hval];rfl)];rfl | none=>
   have hd1:=hd.put hv 0;have hl1:(S.set l (Dd.encD (um d (Pt.K v) (.int ((0:Nat):Int)))))[l]? = some (Dd.encD (um d (Pt.K v) (.int ((0:Nat):Int)))):=List.getElem?_set_self ll;have f2:vY Mr [some (.str (nmR r)),some (rD v),some (.dlo l)] S=.ok (.nx [some (.str (nmR r)),some (rD v),some (.dlo l)]) (S.set l (Dd.encD (um d (Pt.K v) (.int ((0:Nat):Int))))):=by
    rw [vY];exact z5E hd (z:=0) rfl (vr rfl) (vr rfl) hl (cl hd)
   have ot1:∀ j,j≠l->(S.set l (Dd.encD (um d (Pt.K v) (.int ((0:Nat):Int)))))[j]? = S[j]? := fun j hj=>List.getElem?_set_ne (Ne.symm hj);have ln1:(S.set l (Dd.encD (um d (Pt.K v) (.int ((0:Nat):Int))))).length=S.length:=by simp
   have v1:vc (um d (Pt.K v) (.int ((0:Nat):Int))) (Pt.K v)=some (.int ((0:Nat):Int)):=by rw [z0l,if_pos rfl]
   have m1:∀ p∈um d (Pt.K v) (.int ((0:Nat):Int)),p=(Pt.K v,.int ((0:Nat):Int))\/(p∈d/\p.1≠Pt.K v):=fun p hp=>z0u hp;generalize um d (Pt.K v) (.int ((0:Nat):Int))=d1 at *;generalize S.set l (Dd.encD d1)=S1 at *;have te:tOf (ze K72.xi (zb (zc 1) zi)) [some (.str (nmR r)),some (rD v),some (.dlo l)] S1=.ok (ended v) S1:=z1F (by rw [vx (x:=rD v) (vr rfl),zdP];exact z8E hv.lot S1);have head:∀ S2,wJ Mr [some (.str (nmR r)),some (rD v),some (.dlo l)] S1=.ok (.nx [some (.str (nmR r)),some (rD v),some (.dlo l)]) S2->xD Mr [some (.str (nmR r)),some (rD v),some (.dlo l)] S=.ok (.nx [some (.str (nmR r)),some (rD v),some (.dlo l)]) S2:=fun S2 h=>by rw [xD,z5R (by rw [t,hval];rfl),zm f2,h]
   cases z:ended v with
   | true=>
    rw [kf z];rw [kf z] at key;refine ⟨d1,S1,key _ _ _ (head _ ?_) (z5U hd1 (vr rfl) (vr rfl) hl1 v1),hd1,fun p hp=>?_,hl1,ot1,ln1⟩
    ·rw [wJ,zc7 (by rw [z5i,te,z];rfl)];rfl
    ·rcases m1 p hp with rfl | ⟨hp,_⟩;·exact .inr ⟨v,hv,by rw [kf z]⟩
     ·exact .inl hp | false=>
    have lt:=z0B r hv.lot z;obtain ⟨d2,S2,e2,hd2,fr2,hl2,ot2,ln2⟩:=ih z d1 S1 hd1 (fun p hp w hw hm=>by
     rcases m1 p hp with rfl | ⟨hp,_⟩
     ·have:=zaV hw;subst this;omega
     ·exact hr p hp w hw (by omega)) hl1;have hd3:=hd2.put hv (nst r v);have l2:l<S2.length:=(List.getElem?_eq_some_iff.mp hl2).1;have fv:eOp qQ (eC (.int 1)) (ze Mr (zb (zc 0) (zb (eOp dIx (ze K72.xf (zb (zc 0) (zb (zc 1) zi))) (eC (.int 0))) (zb (zc 2) zi)))) [some (.str (nmR r)),some (rD v),some (.dlo l)] S1=.ok (.int ((nst r v:Nat):Int)) S2:=by rw [wE,kO,R.bind_ok,z3p (x:=.str (nmR r)) (y:=rD (stp r v)) (z:=.dlo l) (vr rfl) (by
      rw [op2 (x:=.tup [rD (stp r v),tD (zdW r v)]) (y:=.int 0) (by rw [call2 (x:=.str (nmR r)) (y:=rD v) (vr rfl) (vr rfl),e_step];exact zaN r (hv.B (by decide)) z (by decide) S1) rfl];rfl) (vr rfl),e2,R.bind_ok,z4l,z6q hv.lot z,show (1:Int)+((nst r (stp r v):Nat):Int)=((nst r (stp r v)+1:Nat):Int) by omega]
    have f4:vQ Mr [some (.str (nmR r)),some (rD v),some (.dlo l)] S1=.ok (.nx [some (.str (nmR r)),some (rD v),some (.dlo l)]) (S2.set l (Dd.encD (um d2 (Pt.K v) (.int ((nst r v:Nat):Int))))):=by
     rw [vQ];exact z5E hd2 fv (vr rfl) (vr rfl) hl2 (cl hd2)
    have hl3:(S2.set l (Dd.encD (um d2 (Pt.K v) (.int ((nst r v:Nat):Int)))))[l]? = some (Dd.encD (um d2 (Pt.K v) (.int ((nst r v:Nat):Int)))):=List.getElem?_set_self l2;refine ⟨_,_,key _ _ _ (head _ ?_) (z5U hd3 (vr rfl) (vr rfl) hl3 (by rw [z0l,if_pos rfl])),hd3,fun p hp=>?_,hl3,fun j hj=>by rw [List.getElem?_set_ne (Ne.symm hj),ot2 j hj,ot1 j hj],by rw [List.length_set,ln2,ln1]⟩;·rw [wJ,z5R (by rw [z5i,te,z];rfl),f4]
    ·rcases z0u hp with rfl | ⟨hp,np⟩;·exact .inr ⟨v,hv,rfl⟩
     ·rcases fr2 p hp with hp | q
      ·rcases m1 p hp with rfl | ⟨hp,_⟩;·exact absurd rfl np
       ·exact .inl hp
      ·exact .inr q
theorem za5{G:List (Nat×List D)}{all:List D}{body:D->Ev->Sto->R Fl}(I:Nat->Ev->Sto->Prop)(og:∀ k Z s,I k Z s->okG G all s):∀ (xs:List D)(k:Nat),(∀ j x,xs[j]? = some x->∀ Z s,I (k+j) Z s->∃ Z' s',body x Z s=.ok (.nx Z') s'/\I (k+j+1) Z' s')-> ∀ Z s,I k Z s->∃ Z' s',wq G all body xs Z s=.ok (.nx Z') s'/\I (k+xs.length) Z' s'
 | [],k,_,Z,s,h=>⟨Z,s,by simp [wq,og k Z s h],h⟩ | x::xs,k,hb,Z,s,h=>by
  obtain ⟨Z1,s1,e1,h1⟩:=hb 0 x (by simp) Z s h;obtain ⟨Z2,s2,e2,h2⟩:=za5 (all:=all) I og xs (k+1) (fun j y hy Z s hi=>by
   have e:k+1+j=k+(j+1):=by omega
   rw [e] at hi ⊢;exact hb (j+1) y (by simpa using hy) Z s hi) Z1 s1 h1;refine ⟨Z2,s2,by rw [wq,if_pos (og k Z s h),e1,R.bind_ok];exact e2,?_⟩;have e:k+(x::xs).length=k+1+xs.length:=by simp;omega
  rw [e];exact h2
abbrev T10(a0 a1 a2 a3 a4 a5 a6 a7 a8 a9:Option D):Ev:=[a0,a1,a2,a3,a4,a5,a6,a7,a8,a9]
theorem zfj {n m:Nat} {a:List Int} (ha:a.length<=4) (hm:m<=30) {acc:List (List Int)} (hl:acc.length+(m+1)<=90000) (S:Sto) (a0 a1 a2 a3 a5 a6 a9:Option D): wI (T10 a0 a1 a2 a3 (some (.int ((m:Nat):Int))) a5 a6 (some (.loc S.length)) (some (rD a)) a9) (S++[acc.map rD])=.ok (.nx (T10 a0 a1 a2 a3 (some (.int ((m:Nat):Int))) a5 a6 (some (.loc S.length)) (some (rD a)) a9)) (S++[(acc++(Pt.rngI m).map fun g=>a++[g]).map rD]):=by
 have c:=comp_map (s:=S++[acc.map rD]) (Z:=T10 a0 a1 a2 a3 (some (.int ((m:Nat):Int))) a5 a6 (some (.loc S.length)) (some (rD a)) a9) (fi:=z07 (zb (eOp qQ (zc 4) (eC (.int 1))) zi)) (mp:=[some 8,none]) (fg:=xw 1) (fe:=eOp qQ (zc 0) (ur (zb (zc 1) zi))) (fun k:Nat=>D.int ((k:Nat):Int)) (fun k=>rD (a++[((k:Nat):Int)])) (fun k=>[some (rD a),some (.int ((k:Nat):Int))]) (List.range (m+1)) (ke (n:=m+1) (by omega) (by rw [zp,op2 (x:=.int ((m:Nat):Int)) (y:=.int 1) (vr rfl) rfl,z4l,R.bind_ok,zF];simp)) (fun k _=>rfl) (fun k _=>by
   rw [op2 (x:=rD a) (y:=rD [((k:Nat):Int)]) (vr rfl) (by
    rw [vk,zp,vr (d:=.int ((k:Nat):Int)) rfl,R.bind_ok,zF];simp [cap]),z4p,if_pos (by simp [cap];omega)];simp) (by simp [cap];omega);have ec:(List.range (m+1)).map (fun k:Nat=>rD (a++[((k:Nat):Int)]))=((Pt.rngI m).map fun g=>a++[g]).map rD:=by simp [Pt.rngI,Function.comp_def]
 have ln:((Pt.rngI m).map fun g=>a++[g]).length=m+1:=by simp [Pt.rngI]
 have fl:=z2R ((Pt.rngI m).map fun g=>a++[g]);rw [ec] at c;rw [List.map_append];have ln2:(((Pt.rngI m).map fun g=>a++[g]).map rD).length=m+1:=by simpa using ln
 have ln3:(acc.map rD).length=acc.length:=by simp
 generalize ((Pt.rngI m).map fun g=>a++[g]).map rD=Yy at *;generalize acc.map rD=X at *;generalize rD a=d at *;rw [wI,kE,zgo,vr (d:=.loc S.length) rfl,R.bind_ok];simp only;rw [c,R.bind_ok];simp only;have gt:(S++[X])[S.length]? = some X:=by simp
 rw [gt];simp only;rw [if_pos ⟨fl,by simp [cap];omega⟩,z8D];rfl
theorem zcL {n m:Nat} (hn1:1<=n) (hn:n<=4) (hm:m<=30) (hb:(m+1) ^ n<=90000) (s:Sto) (a0 a2 a3 b6 b7 b8 a9:Option D):∃ j c6 c7 c8 S',xG (T10 a0 (some (.int ((n:Nat):Int))) a2 a3 (some (.int ((m:Nat):Int))) (some (.lst [rD []])) b6 b7 b8 a9) s=.ok (.nx (T10 a0 (some (.int ((n:Nat):Int))) a2 a3 (some (.int ((m:Nat):Int))) (some (.loc j)) c6 c7 c8 a9)) S'/\s.length<=j/\S'[j]? = some ((xu n m).map rD)/\(∀ k,k<s.length->S'[k]? = s[k]?):=by
 obtain ⟨Z',S',lp,fd,b6,b7,b8,hZ,h1,h2,h3⟩:=qR (all:=(List.range n).map fun k:Nat=>D.int ((k:Nat):Int)) (body:=fun x Z s=>(xw 6 x Z s).bind fun Z' s'=>(zC xF (zC xz vX)) Z' s') (fun i Z S'=>∃ fd b6 b7 b8,Z=T10 a0 (some (.int ((n:Nat):Int))) a2 a3 (some (.int ((m:Nat):Int))) (some fd) b6 b7 b8 a9/\(∀ k,k<s.length->S'[k]? = s[k]?)/\s.length<=S'.length/\((i=0/\fd=.lst [rD []])\/∃ j,fd=.loc j/\s.length<=j/\j<S'.length/\S'[j]? = some ((xu i m).map rD))) ((List.range n).map fun k:Nat=>D.int ((k:Nat):Int)) 0 (by
   intro i x hx Z S1 ⟨fd,b6,b7,b8,hZ,h1,h2,h3⟩;subst hZ;rw [Nat.zero_add] at h3 ⊢;have hi:i<n:=by have:=(List.getElem?_eq_some_iff.mp hx).1;simpa using this
   have g3:xF (T10 a0 (some (.int ((n:Nat):Int))) a2 a3 (some (.int ((m:Nat):Int))) (some fd) (some x) b7 b8 a9) S1=.ok (.nx (T10 a0 (some (.int ((n:Nat):Int))) a2 a3 (some (.int ((m:Nat):Int))) (some fd) (some x) (some (.loc S1.length)) b8 a9)) (S1++[(z2a [] (Pt.rngI m)).map rD]):=by
    rw [xF,yJ,z9O,zF,R.bind_ok,if_pos ⟨by simp,rfl⟩];rfl
   obtain ⟨GG,hI,hG⟩:∃ GG,(∀ (T:Sto) (Z:Ev),Z[5]? = some (some fd)->zW (zc 5) Z (S1++T)=.ok ((xu i m).map rD,GG) (S1++T))/\∀ T:Sto,okG GG ((xu i m).map rD) (S1++T):=by
    rcases h3 with ⟨rfl,rfl⟩ | ⟨j,rfl,hjs,hj,gj⟩;·exact ⟨[],fun T Z hZ=>wG (by rw [vr hZ];rfl),fun T p hp=>by simp at hp⟩
    ·have gT:∀ T:Sto,(S1++T)[j]? = some ((xu i m).map rD):=fun T=>by rw [List.getElem?_append_left hj];exact gj
     refine ⟨[(j,(xu i m).map rD)],fun T Z hZ=>?_,fun T p hp=>?_⟩
     ·rw [z5C,vr hZ,R.bind_ok];simp only [gT]
     ·simp only [List.mem_singleton] at hp;subst hp;exact gT T
   have al:=z2M (n:=i) (m:=m);have gl:∀ L:List (List Int),(z2a L (Pt.rngI m)).length=L.length*(m+1):=fun L=>by
    unfold z2a;rw [List.length_flatMap];simp [Pt.rngI];induction L with
    | nil=>simp | cons a l ih=>simp [ih,Nat.add_mul,Nat.add_comm]
   have tot:(xu i m).length*(m+1)<=90000:=by
    have h5:(m+1) ^ i*(m+1)<=(m+1) ^ n:=by rw [<- Nat.pow_succ];exact Nat.pow_le_pow_right (by omega) (by omega)
    have:=Nat.mul_le_mul_right (m+1) al;omega
   obtain ⟨Z2,S2,lp2,c8,hZ2,hS2⟩:=za5 (G:=GG) (all:=(xu i m).map rD) (body:=fun x Z s=>(xw 8 x Z s).bind fun Z' s'=>wI Z' s') (fun k Z S2=>∃ c8,Z=T10 a0 (some (.int ((n:Nat):Int))) a2 a3 (some (.int ((m:Nat):Int))) (some fd) (some x) (some (.loc S1.length)) c8 a9/\S2=S1++[(z2a ((xu i m).take k) (Pt.rngI m)).map rD]) (fun k Z S2 hk=>by
    obtain ⟨c8,_,rfl⟩:=hk;exact hG _) ((xu i m).map rD) 0 (by
    intro k y hy Z S2 ⟨c8,hZ,hS⟩;subst hZ hS;rw [Nat.zero_add];rw [List.getElem?_map,Option.map_eq_some_iff] at hy;obtain ⟨a,ha,rfl⟩:=hy;have hk:k<(xu i m).length:=(List.getElem?_eq_some_iff.mp ha).1;have la:=(vF.mp (List.mem_of_getElem? ha)).1;have ts:(xu i m).take (k+1)=(xu i m).take k++[a]:=by rw [List.take_add_one,ha];rfl
    have eg:z2a ((xu i m).take (k+1)) (Pt.rngI m)=z2a ((xu i m).take k) (Pt.rngI m)++(Pt.rngI m).map fun g=>a++[g]:=by rw [ts];simp [z2a]
    have lk:(z2a ((xu i m).take k) (Pt.rngI m)).length+(m+1)<=90000:=by
     rw [gl,List.length_take,Nat.min_eq_left (by omega),<- Nat.succ_mul];exact Nat.le_trans (Nat.mul_le_mul_right _ hk) tot
    have t:=zfj (n:=n) (a:=a) (by omega) hm lk S1 a0 (some (.int ((n:Nat):Int))) a2 a3 (some fd) (some x) a9;rw [<- eg] at t;refine ⟨T10 a0 (some (.int ((n:Nat):Int))) a2 a3 (some (.int ((m:Nat):Int))) (some fd) (some x) (some (.loc S1.length)) (some (rD a)) a9,S1++[(z2a ((xu i m).take (k+1)) (Pt.rngI m)).map rD],?_,some (rD a),rfl,rfl⟩;rw [z54,R.bind_ok];exact t) (T10 a0 (some (.int ((n:Nat):Int))) a2 a3 (some (.int ((m:Nat):Int))) (some fd) (some x) (some (.loc S1.length)) b8 a9) (S1++[(z2a [] (Pt.rngI m)).map rD]) ⟨_,rfl,by simp⟩;rw [Nat.zero_add,List.length_map,List.take_length,<- z1m] at hS2;refine ⟨T10 a0 (some (.int ((n:Nat):Int))) a2 a3 (some (.int ((m:Nat):Int))) (some (.loc S1.length)) (some x) (some (.loc S1.length)) c8 a9,S2,?_,_,_,_,_,rfl,?_,?_,.inr ⟨S1.length,rfl,h2,by rw [hS2];simp,by rw [hS2];simp⟩⟩
   ·have g4:xz (T10 a0 (some (.int ((n:Nat):Int))) a2 a3 (some (.int ((m:Nat):Int))) (some fd) (some x) (some (.loc S1.length)) b8 a9) (S1++[(z2a [] (Pt.rngI m)).map rD])=.ok (.nx Z2) S2:=by
     rw [xz,kb,hI _ _ rfl,R.bind_ok];exact lp2
    show (zC xF (zC xz vX)) (T10 a0 (some (.int ((n:Nat):Int))) a2 a3 (some (.int ((m:Nat):Int))) (some fd) (some x) b7 b8 a9) S1=_;rw [zm g3,zm g4,hZ2];rfl
   ·intro k hk;rw [hS2,List.getElem?_append_left (by omega)];exact h1 k hk
   ·rw [hS2];simp;omega) (T10 a0 (some (.int ((n:Nat):Int))) a2 a3 (some (.int ((m:Nat):Int))) (some (.lst [rD []])) b6 b7 b8 a9) s ⟨_,_,_,_,rfl,fun _ _=>rfl,by omega,.inl ⟨rfl,rfl⟩⟩;rw [Nat.zero_add,List.length_map,List.length_range] at h3;obtain ⟨j,rfl,hjs,hj,gj⟩:=h3.resolve_left fun z=>by omega
 refine ⟨j,b6,b7,b8,S',?_,hjs,gj,h1⟩;rw [<- hZ,xG,kb,ke (n:=n) (s1:=s) (by omega) (by rw [zp,vr (d:=.int ((n:Nat):Int)) rfl,R.bind_ok,zF];rfl),R.bind_ok];exact lp
theorem kr{α:Type}{G:List (Nat×List D)}{all:List D}{body:D->Ev->Sto->R Fl}(I:Ev->Sto->Prop)(og:∀ Z s,I Z s->okG G all s)(g f:α->D)(P:α->Bool):∀ (l:List α),(∀ a∈l,∀ Z s,I Z s->(P a=true/\∃ s',body (g a) Z s=.ok (.rt (f a)) s')\/(P a=false/\∃ Z' s',body (g a) Z s=.ok (.nx Z') s'/\I Z' s'))-> ∀ Z s,I Z s->(∃ a s',l.find? P=some a/\wq G all body (l.map g) Z s=.ok (.rt (f a)) s')\/(l.find? P=none/\∃ Z' s',wq G all body (l.map g) Z s=.ok (.nx Z') s'/\I Z' s')
 | [],_,Z,s,h=>.inr ⟨rfl,Z,s,by simp [wq,og Z s h],h⟩ | x::xs,hb,Z,s,h=>by
  rcases hb x (by simp) Z s h with ⟨p,s',e⟩ | ⟨p,Z1,s1,e,h1⟩;·exact .inl ⟨x,s',by simp [p],by rw [List.map_cons,wq,if_pos (og Z s h),e,R.bind_ok]⟩
  ·rcases kr I og g f P xs (fun a ha=>hb a (by simp [ha])) Z1 s1 h1 with ⟨a,s',e1,e2⟩ | ⟨e1,Z2,s2,e2,h2⟩;·exact .inl ⟨a,s',by simp [p,e1],by rw [List.map_cons,wq,if_pos (og Z s h),e,R.bind_ok];exact e2⟩
   ·exact .inr ⟨by simp [p];simpa using e1,Z2,s2,by rw [List.map_cons,wq,if_pos (og Z s h),e,R.bind_ok];exact e2,h2⟩
def pm(r:Rl)(st:Nat)(m:Nat)(v:List Int):Bool:=decide (maxL v=((m:Nat):Int))&&decide (nst r v=st)
theorem zfq{n m:Nat}(hn:Sz n)(h1:1<=m)(h2:m<=16){v:List Int}(hv:v∈xu n m)(he:maxL v=((m:Nat):Int)):Lt n 16 v:=by
 obtain ⟨l,b⟩:=vF.mp hv;have ne:v≠[]:=fun z=>by rw [z] at l;simp at l;unfold Sz at hn;omega
 exact ⟨⟨hn,l,fun x hx=>(b x hx).1,⟨maxL v,maxL_mem ne,by omega⟩⟩,fun x hx=>by have:=(b x hx).2;omega⟩
section
variable {n:Nat}(hn:Sz n)(hn3:n<=3)(r:Rl){st:Nat}{l:Nat}
include hn hn3
def DOk(n:Nat)(r:Rl)(l:Nat)(S:Sto):Prop:=∃ d,S[l]? = some (Dd.encD d)/\Dk n 16 d/\Ok r d
theorem zcT {m:Nat} (h1:1<=m) (h2:m<=16) {v:List Int} (hv:v∈xu n m) {j:Nat} (hj:j≠l) (c6 c7 c8:Option D) (S:Sto) (hS:DOk n r l S): (pm r st m v=true/\∃ s',zU (T10 (some (.str (nmR r))) (some (.int ((n:Nat):Int))) (some (.int ((st:Nat):Int))) (some (.dlo l)) (some (.int ((m:Nat):Int))) (some (.loc j)) c6 c7 c8 (some (rD v))) S=.ok (.rt (rD v)) s')\/ (pm r st m v=false/\∃ s',zU (T10 (some (.str (nmR r))) (some (.int ((n:Nat):Int))) (some (.int ((st:Nat):Int))) (some (.dlo l)) (some (.int ((m:Nat):Int))) (some (.loc j)) c6 c7 c8 (some (rD v))) S=.ok (.nx (T10 (some (.str (nmR r))) (some (.int ((n:Nat):Int))) (some (.int ((st:Nat):Int))) (some (.dlo l)) (some (.int ((m:Nat):Int))) (some (.loc j)) c6 c7 c8 (some (rD v)))) s'/\DOk n r l s'/\∀ k,k≠l->s'[k]? = S[k]?):=by
 obtain ⟨d,hd,dk,ok⟩:=hS;have ln:=(vF.mp hv).1;have ne:v≠[]:=fun z=>by rw [z] at ln;simp at ln;unfold Sz at hn;omega
 have mx:wa [rD v] S=.ok (.int (maxL v)) S:=z2m S ne;have t1:tOf (eOp dEq (ze wa (zb (zc 9) zi)) (zc 4)) (T10 (some (.str (nmR r))) (some (.int ((n:Nat):Int))) (some (.int ((st:Nat):Int))) (some (.dlo l)) (some (.int ((m:Nat):Int))) (some (.loc j)) c6 c7 c8 (some (rD v))) S=.ok (decide (maxL v=((m:Nat):Int))) S:=z1F (by rw [op2 (x:=.int (maxL v)) (y:=.int ((m:Nat):Int)) (by rw [vx (x:=rD v) (vr rfl)];exact mx) (vr rfl),z5P]);by_cases q:maxL v=((m:Nat):Int)
 ·have lt:=zfq hn h1 h2 hv q;obtain ⟨d',S',e,dk',fr,hl',ot,_⟩:=zbn hn r 89 v d S l lt (by have:=zau (r:=r) lt hn3;omega) dk (fun p hp w hw _=>ok p hp w hw) hd;have ok':Ok r d':=fun p hp w hw=>by
   rcases fr p hp with hp | ⟨u,_,rfl⟩;·exact ok p hp w hw
   ·rw [zaV hw]
  have t2:tOf (eOp dEq (ze xj (zb (zc 0) (zb (zc 9) (zb (zc 3) zi)))) (zc 2)) (T10 (some (.str (nmR r))) (some (.int ((n:Nat):Int))) (some (.int ((st:Nat):Int))) (some (.dlo l)) (some (.int ((m:Nat):Int))) (some (.loc j)) c6 c7 c8 (some (rD v))) S=.ok (decide (nst r v=st)) S':=by
   have e':eOp dEq (ze xj (zb (zc 0) (zb (zc 9) (zb (zc 3) zi)))) (zc 2) (T10 (some (.str (nmR r))) (some (.int ((n:Nat):Int))) (some (.int ((st:Nat):Int))) (some (.dlo l)) (some (.int ((m:Nat):Int))) (some (.loc j)) c6 c7 c8 (some (rD v))) S=.ok (.bl (decide (nst r v=st))) S':=by
    rw [wE,z3p (x:=.str (nmR r)) (y:=rD v) (z:=.dlo l) (vr rfl) (vr rfl) (vr rfl)];rw [show xj [.str (nmR r),rD v,.dlo l] S=_ from e,R.bind_ok,vr (d:=.int ((st:Nat):Int)) rfl,R.bind_ok,z5P];congr 2;exact decide_eq_decide.mpr (by omega)
   simp only [tOf,e',R.bind_ok]
  have tt:zaa (tOf (eOp dEq (ze wa (zb (zc 9) zi)) (zc 4))) (tOf (eOp dEq (ze xj (zb (zc 0) (zb (zc 9) (zb (zc 3) zi)))) (zc 2))) (T10 (some (.str (nmR r))) (some (.int ((n:Nat):Int))) (some (.int ((st:Nat):Int))) (some (.dlo l)) (some (.int ((m:Nat):Int))) (some (.loc j)) c6 c7 c8 (some (rD v))) S=.ok (decide (nst r v=st)) S':=by rw [z7h,t1,R.bind_ok,if_pos (decide_eq_true q),t2]
  by_cases q2:nst r v=st
  ·refine .inl ⟨by simp [pm,q,q2],S',?_⟩;rw [zU,z5M,tt,R.bind_ok,if_pos (decide_eq_true q2),qI,xZ,vr (d:=rD v) rfl];rfl
  ·refine .inr ⟨by simp [pm,q2],S',?_,⟨d',hl',dk',ok'⟩,ot⟩;rw [zU,z5M,tt,R.bind_ok,if_neg (by simpa using q2)];rfl
 ·refine .inr ⟨by simp [pm,q],S,?_,⟨d,hd,dk,ok⟩,fun _ _=>rfl⟩;rw [zU,z5M,z7h,t1,R.bind_ok,if_neg (by simpa using q),R.bind_ok,if_neg (by decide)];rfl
abbrev z85:D->Ev->Sto->R Fl:=fun x Z s=>(xw 4 x Z s).bind fun Z' s'=>(zC xC (zC xG yT)) Z' s'
def IO(n:Nat)(r:Rl)(st l:Nat)(Z:Ev)(S:Sto):Prop:=∃ b4 b5 b6 b7 b8 b9,Z=T10 (some (.str (nmR r))) (some (.int ((n:Nat):Int))) (some (.int ((st:Nat):Int))) (some (.dlo l)) b4 b5 b6 b7 b8 b9/\DOk n r l S
theorem zai {m:Nat} (h1:1<=m) (h2:m<=16) (Z:Ev) (S:Sto) (hI:IO n r st l Z S): (∃ v s',(xu n m).find? (pm r st m)=some v/\z85 (.int ((m:Nat):Int)) Z S=.ok (.rt (rD v)) s')\/((xu n m).find? (pm r st m)=none/\∃ Z' s',z85 (.int ((m:Nat):Int)) Z S=.ok (.nx Z') s'/\IO n r st l Z' s'):=by
 obtain ⟨b4,b5,b6,b7,b8,b9,rfl,hS⟩:=hI;have hb:(m+1) ^ n<=90000:=by
  have h3:(m+1) ^ n<=17 ^ n:=Nat.pow_le_pow_left (by omega) n;have h4:17 ^ n<=17 ^ 3:=Nat.pow_le_pow_right (by decide) hn3;have h5:(17:Nat) ^ 3=4913:=by decide
  omega
 have f3:xC (T10 (some (.str (nmR r))) (some (.int ((n:Nat):Int))) (some (.int ((st:Nat):Int))) (some (.dlo l)) (some (.int ((m:Nat):Int))) b5 b6 b7 b8 b9) S=.ok (.nx (T10 (some (.str (nmR r))) (some (.int ((n:Nat):Int))) (some (.int ((st:Nat):Int))) (some (.dlo l)) (some (.int ((m:Nat):Int))) (some (.lst [rD []])) b6 b7 b8 b9)) S:=by
  rw [xC,yJ,z2n,zp,vk,zF];simp [cap]
 obtain ⟨j,c6,c7,c8,S',f4,hj,gj,old⟩:=zcL (by unfold Sz at hn;omega) (by omega) (by omega) hb S (some (.str (nmR r))) (some (.int ((st:Nat):Int))) (some (.dlo l)) b6 b7 b8 b9;obtain ⟨d,hd,dk,ok⟩:=hS;have ll:l<S.length:=(List.getElem?_eq_some_iff.mp hd).1;have jl:j≠l:=by omega
 have hs':DOk n r l S':=⟨d,by rw [old l ll];exact hd,dk,ok⟩;have e0:z85 (.int ((m:Nat):Int)) (T10 (some (.str (nmR r))) (some (.int ((n:Nat):Int))) (some (.int ((st:Nat):Int))) (some (.dlo l)) b4 b5 b6 b7 b8 b9) S=yT (T10 (some (.str (nmR r))) (some (.int ((n:Nat):Int))) (some (.int ((st:Nat):Int))) (some (.dlo l)) (some (.int ((m:Nat):Int))) (some (.loc j)) c6 c7 c8 b9) S':=by
  have e00:∀ (x:D) (Z Z':Ev),Z.set 4 (some x)=Z'->z85 x Z S=(zC xC (zC xG yT)) Z' S:=fun x Z Z' h=>by subst h;rfl
  rw [e00 _ _ (T10 (some (.str (nmR r))) (some (.int ((n:Nat):Int))) (some (.int ((st:Nat):Int))) (some (.dlo l)) (some (.int ((m:Nat):Int))) b5 b6 b7 b8 b9) rfl,zm f3,zm f4]
 have e1:yT (T10 (some (.str (nmR r))) (some (.int ((n:Nat):Int))) (some (.int ((st:Nat):Int))) (some (.dlo l)) (some (.int ((m:Nat):Int))) (some (.loc j)) c6 c7 c8 b9) S'=wq [(j,(xu n m).map rD)] ((xu n m).map rD) (fun x Z s=>(xw 9 x Z s).bind fun Z' s'=>zU Z' s') ((xu n m).map rD) (T10 (some (.str (nmR r))) (some (.int ((n:Nat):Int))) (some (.int ((st:Nat):Int))) (some (.dlo l)) (some (.int ((m:Nat):Int))) (some (.loc j)) c6 c7 c8 b9) S':=by
  rw [yT,kb,z5C,vr (d:=.loc j) rfl,R.bind_ok];simp only [gj,R.bind_ok]
 rw [e0,e1];rcases kr (G:=[(j,(xu n m).map rD)]) (all:=(xu n m).map rD) (body:=fun x Z s=>(xw 9 x Z s).bind fun Z' s'=>zU Z' s') (fun Z s=>∃ b9,Z=T10 (some (.str (nmR r))) (some (.int ((n:Nat):Int))) (some (.int ((st:Nat):Int))) (some (.dlo l)) (some (.int ((m:Nat):Int))) (some (.loc j)) c6 c7 c8 b9/\s[j]? = some ((xu n m).map rD)/\DOk n r l s) (fun Z s ⟨_,_,h,_⟩ p hp=>by
   simp only [List.mem_singleton] at hp;subst hp;exact h) rD rD (pm r st m) (xu n m) (fun v hv Z s ⟨b9,hZ,hj2,hs⟩=>by
   subst hZ;rcases zcT (st:=st) (l:=l) hn hn3 r h1 h2 hv jl c6 c7 c8 s hs with ⟨p,s',e⟩ | ⟨p,s',e,hs2,ot⟩;·exact .inl ⟨p,s',by rw [z54,R.bind_ok];exact e⟩
   ·exact .inr ⟨p,T10 (some (.str (nmR r))) (some (.int ((n:Nat):Int))) (some (.int ((st:Nat):Int))) (some (.dlo l)) (some (.int ((m:Nat):Int))) (some (.loc j)) c6 c7 c8 (some (rD v)),s',by rw [z54,R.bind_ok];exact e,some (rD v),rfl,by rw [ot j jl];exact hj2,hs2⟩) _ S' ⟨b9,rfl,gj,hs'⟩ with ⟨v,s',h3,h4⟩ | ⟨h3,Z',s',h4,b9',hZ',_,hs2⟩;·exact .inl ⟨v,s',h3,h4⟩
 ·exact .inr ⟨h3,Z',s',h4,_,_,_,_,_,_,hZ',hs2⟩
end
def oD:Option (List Int)->D
 | some v=>rD v | none=>.non
def zab(n:Nat)(r:Rl)(st:Nat):Option (List Int)->Prop
 | some v=>Lt n 16 v/\nst r v=st/\∀ w,Lt n 16 w->nst r w=st->qZ (maxL w,w) (maxL v,v)=false | none=>∀ w,Lt n 16 w->nst r w≠st
theorem zb7{v w:List Int}(h1:qZ (maxL w,w) (maxL v,v)=false)(h2:qZ (maxL v,v) (maxL w,w)=false):v=w:=by
 simp only [qZ] at h1 h2;by_cases e:maxL w=maxL v
 ·rw [if_pos e] at h1;rw [if_pos e.symm] at h2;refine Classical.byContradiction fun z=>?_;have:=z3O z;rw [h1,h2] at this;cases this
 ·rw [if_neg e] at h1;rw [if_neg (Ne.symm e)] at h2;simp only [decide_eq_false_iff_not] at h1 h2;omega
theorem z6K{n:Nat}{r:Rl}{st:Nat}:∀ {a b:Option (List Int)},zab n r st a->zab n r st b->a=b
 | none,none,_,_=>rfl | none,some w,h1,⟨h2,h3,_⟩=>absurd h3 (h1 w h2) | some v,none,⟨h2,h3,_⟩,h1=>absurd h3 (h1 v h2) | some v,some w,⟨a1,a2,a3⟩,⟨b1,b2,b3⟩=>by rw [zb7 (a3 w b1 b2) (b3 v a1 a2)]
theorem zbV{n:Nat}{w:List Int}(h:Lt n 16 w):∃ k:Nat,k<16/\maxL w=((k+1:Nat):Int)/\w∈xu n (k+1):=by
 have m1:=maxL_mem h.lot.ne;have m2:=h.le _ m1;obtain ⟨x,hx,p⟩:=h.lot.pos;have m3:=maxL_ge (xs:=w) x hx;refine ⟨(maxL w).toNat-1,by omega,by omega,vF.mpr ⟨h.lot.len,fun y hy=>⟨h.lot.nn y hy,?_⟩⟩⟩;have:=maxL_ge (xs:=w) y hy;omega
theorem z8o{n:Nat}(hn:Sz n){r:Rl}{st:Nat}{k:Nat}(hk:k<16){v:List Int}(hv:(xu n (k+1)).find? (pm r st (k+1))=some v)(hno:∀ j,j<k->(xu n (j+1)).find? (pm r st (j+1))=none):zab n r st (some v):=by
 obtain ⟨pv,as,bs,e,hb⟩:=List.find?_eq_some_iff_append.mp hv;have mv:v∈xu n (k+1):=by rw [e];simp
 simp only [pm,Bool.and_eq_true,decide_eq_true_eq] at pv;have lv:=zfq hn (by omega) (by omega) mv pv.1;refine ⟨lv,pv.2,fun w hw hs=>?_⟩;obtain ⟨j,hj,mj,wj⟩:=zbV hw;have pw:pm r st (j+1) w=true:=by simp [pm,mj,hs]
 by_cases q:j<k
 ·have:=List.find?_eq_none.mp (hno j q) w wj;exact absurd pw this
 ·simp only [qZ];rw [mj,pv.1];by_cases z:j=k
  ·subst z;rw [if_pos rfl];have up:=z8R n (j+1);rw [e] at up wj;rcases List.mem_append.mp wj with wj | wj
   ·have:=hb w wj;rw [pw] at this;cases this
   ·rcases List.mem_cons.mp wj with rfl | wj;·exact jF w
    ·have:=(List.pairwise_cons.mp (List.pairwise_append.mp up).2.1).1 w wj;have ne:v≠w:=fun z=>by rw [z,jF] at this;cases this
     rw [z3O ne,this];rfl
  ·rw [if_neg (by omega)];simp only [decide_eq_false_iff_not];omega
theorem z8s{n:Nat}{r:Rl}{st:Nat}(hno:∀ j,j<16->(xu n (j+1)).find? (pm r st (j+1))=none):zab n r st none:=fun w hw hs=>by
 obtain ⟨j,hj,mj,wj⟩:=zbV hw;exact absurd (by simp [pm,mj,hs]) (List.find?_eq_none.mp (hno j hj) w wj)
theorem zbq {n:Nat} (hn:Sz n) (hn3:n<=3) (r:Rl) (st:Nat) (s:Sto):∃ o S',xY [.str (nmR r),.int ((n:Nat):Int),.int ((st:Nat):Int)] s=.ok (oD o) S'/\zab n r st o:=by
 have f1:vP (T10 (some (.str (nmR r))) (some (.int ((n:Nat):Int))) (some (.int ((st:Nat):Int))) none none none none none none none) s=.ok (.nx (T10 (some (.str (nmR r))) (some (.int ((n:Nat):Int))) (some (.int ((st:Nat):Int))) (some (.dlo s.length)) none none none none none none)) (s++[Dd.encD []]):=rfl;have it:z5D (zb (eC (.int 1)) (zb (eC (.int 17)) zi)) (T10 (some (.str (nmR r))) (some (.int ((n:Nat):Int))) (some (.int ((st:Nat):Int))) (some (.dlo s.length)) none none none none none none) (s++[Dd.encD []])=.ok ((List.range 16).map (fun k:Nat=>D.int ((k+1:Nat):Int)),[]) (s++[Dd.encD []]):=by
  simp only [z8W,zp,zF,kO,R.bind_ok];rw [if_pos (by omega)];rfl
 have key:∀ (dr dn ds:D) (S':Sto) (d:D),vP (T10 (some dr) (some dn) (some ds) none none none none none none none) s=.ok (.nx (T10 (some dr) (some dn) (some ds) (some (.dlo s.length)) none none none none none none)) (s++[Dd.encD []])->(xA (T10 (some dr) (some dn) (some ds) (some (.dlo s.length)) none none none none none none) (s++[Dd.encD []])=.ok (.rt d) S'\/(d=.non/\∃ Z,xA (T10 (some dr) (some dn) (some ds) (some (.dlo s.length)) none none none none none none) (s++[Dd.encD []])=.ok (.nx Z) S'))->xY [dr,dn,ds] s=.ok d S':=fun dr dn ds S' d h1 h2=>by
  have st:zy ["_law_rule","_law_size","_law_steps_here","_law_known","_law_most","_law_found","_law_place","_law_longer","_law_begun","_law_lot"] [dr,dn,ds]=T10 (some dr) (some dn) (some ds) none none none none none none none:=rfl;simp only [xY,Mof,jP,st,List.length_cons,List.length_nil,if_true];rw [zm h1];rcases h2 with h2 | ⟨rfl,Z,h2⟩;·rw [z2q h2]
  ·rw [zm h2];rfl
 have eq2:xA (T10 (some (.str (nmR r))) (some (.int ((n:Nat):Int))) (some (.int ((st:Nat):Int))) (some (.dlo s.length)) none none none none none none) (s++[Dd.encD []])=wq [] ((List.range 16).map fun k:Nat=>D.int ((k+1:Nat):Int)) z85 ((List.range 16).map fun k:Nat=>D.int ((k+1:Nat):Int)) (T10 (some (.str (nmR r))) (some (.int ((n:Nat):Int))) (some (.int ((st:Nat):Int))) (some (.dlo s.length)) none none none none none none) (s++[Dd.encD []]):=by rw [xA,kb,it,R.bind_ok]
 have I0:IO n r st s.length (T10 (some (.str (nmR r))) (some (.int ((n:Nat):Int))) (some (.int ((st:Nat):Int))) (some (.dlo s.length)) none none none none none none) (s++[Dd.encD []]):=⟨_,_,_,_,_,_,rfl,[],by simp,⟨List.Pairwise.nil,by simp⟩,fun p hp=>by simp at hp⟩;rcases kr (G:=[]) (all:=(List.range 16).map fun k:Nat=>D.int ((k+1:Nat):Int)) (body:=z85) (IO n r st s.length) (fun Z s _ p hp=>by simp at hp) (fun k:Nat=>D.int ((k+1:Nat):Int)) (fun k=>oD ((xu n (k+1)).find? (pm r st (k+1)))) (fun k=>((xu n (k+1)).find? (pm r st (k+1))).isSome) (List.range 16) (fun k hk Z S hI=>by
   have hk':k<16:=by simpa using hk
   rcases zai hn hn3 r (m:=k+1) (by omega) (by omega) Z S hI with ⟨v,s',h1,h2⟩ | ⟨h1,Z',s',h2,h3⟩
   ·refine .inl ⟨by rw [h1];rfl,s',?_⟩;rw [h1];exact h2
   ·exact .inr ⟨by rw [h1];rfl,Z',s',h2,h3⟩) _ _ I0 with ⟨k,S',h1,h2⟩ | ⟨h1,Z',S',h2,_⟩
 ·refine ⟨(xu n (k+1)).find? (pm r st (k+1)),S',key _ _ _ _ _ f1 (.inl (eq2.trans h2)),?_⟩;have hk:=List.mem_of_find?_eq_some h1;have pk:=List.find?_some h1;have hk':k<16:=by simpa using hk
  obtain ⟨v,hv⟩:=Option.isSome_iff_exists.mp pk;rw [hv];refine z8o hn hk' hv fun j hj=>?_;obtain ⟨_,as,bs,e,hb⟩:=List.find?_eq_some_iff_append.mp h1;have ka:k=as.length:=by
   have:(List.range 16)[as.length]? = some k:=by rw [e];simp
   have:=List.getElem?_eq_some_iff.mp this;obtain ⟨h1,h2⟩:=this;rw [List.getElem_range] at h2;exact h2.symm
  have ja:j∈as:=by
   have hj16:(List.range 16)[j]? = some j:=List.getElem?_range (by omega);rw [e,List.getElem?_append_left (by omega)] at hj16;exact List.mem_of_getElem? hj16
  have:=hb j ja;cases hf:(xu n (j+1)).find? (pm r st (j+1)) with
  | none=>rfl | some u=>rw [hf] at this;cases this
 ·refine ⟨none,S',key _ _ _ _ _ f1 (.inr ⟨rfl,Z',eq2.trans h2⟩),z8s fun j hj=>?_⟩;have:=List.find?_eq_none.mp h1 j (by simpa using hj);cases hf:(xu n (j+1)).find? (pm r st (j+1)) with
  | none=>rfl | some u=>rw [hf] at this;exact absurd rfl this
theorem z3B:∀ (p:NP)(L:List NP),z37 p L∈p::L
 | p,[]=>.head _ | p,q::L=>by
  rw [z37];split;·exact .tail _ (z3B q L)
  ·rcases List.mem_cons.mp (z3B p L) with h | h;·rw [h];exact .head _
   ·exact .tail _ (.tail _ h)
theorem z6A(p:NP):qZ p p=false:=by simp [qZ,jF]
theorem z6i{a b c:NP}(h1:qZ a b=true)(h2:qZ b c=true):qZ a c=true:=by
 simp only [qZ] at h1 h2 ⊢;by_cases e1:a.1=b.1
 ·rw [if_pos e1] at h1;by_cases e2:b.1=c.1
  ·rw [if_pos e2] at h2;rw [if_pos (e1.trans e2)];exact z8L h1 h2
  ·rw [if_neg e2] at h2;rw [if_neg (by omega),e1];exact h2
 ·rw [if_neg e1] at h1;simp only [decide_eq_true_eq] at h1;by_cases e2:b.1=c.1
  ·rw [if_neg (by omega),<- e2];simpa using h1
  ·rw [if_neg e2] at h2;simp only [decide_eq_true_eq] at h2;rw [if_neg (by omega)];simp only [decide_eq_true_eq];omega
theorem z6h:∀ (p:NP)(L:List NP)(q:NP),q∈p::L->qZ q (z37 p L)=false/\(z37 p L=p\/qZ (z37 p L) p=true)
 | p,[],q,h=>by rw [List.mem_singleton.mp h];exact ⟨z6A p,.inl rfl⟩ | p,x::L,q,h=>by
  rw [z37];by_cases e:qZ x p=true
  ·rw [if_pos e];have ih:=z6h x L;have hx:=(ih x (.head _)).2;have hp:qZ (z37 x L) p=true:=by
    rcases hx with hx | hx;·rw [hx];exact e
    ·exact z6i hx e
   refine ⟨?_,.inr hp⟩;rcases List.mem_cons.mp h with rfl | h;·cases z:qZ q (z37 x L) with
    | false=>rfl | true=>have:=z6i z hp;rw [z6A] at this;cases this
   ·exact (ih q h).1
  ·rw [if_neg e];have ih:=z6h p L;have hp:=(ih p (.head _)).2;refine ⟨?_,hp⟩;rcases List.mem_cons.mp h with rfl | h;·exact (ih q (.head _)).1
   ·rcases List.mem_cons.mp h with rfl | h;·cases z:qZ q (z37 p L) with
     | false=>rfl | true=>
      rcases hp with hp | hp;·rw [hp] at z;exact absurd z e
      ·exact absurd (z6i z hp) e
    ·exact (ih q (.tail _ h)).1
def unK(k:List Key):List Int:=k.map fun | .inl i=>i | .inr _=>0
theorem zao:∀ v:List Int,unK (Pt.K v)=v
 | []=>rfl | x::v=>by
  have:=zao v;simp only [unK,Pt.K,List.map_cons] at this ⊢;rw [this]
theorem zd4{α:Type}{fi:FI}{mp:List (Option Nat)}{fg:FG}{ft:FT}{fe:FE}{Z:Ev}{s s1:Sto}(g f:α->D)(p:α->Bool)(ev:α->Ev)(l:List α) (hi:fi Z s=.ok (l.map g,[]) s1)(hg:∀ a∈l,fg (g a) (yh mp Z) s1=.ok (ev a) s1)(ht:∀ a∈l,ft (ev a) s1=.ok (p a) s1)(he:∀ a∈l,p a=true->fe (ev a) s1=.ok (f a) s1)(hl:l.length<=cap): zA fi mp fg ft fe Z s=.ok (.lst ((l.filter p).map f)) s1:=by
 rw [z3I,z3G,hi,R.bind_ok];rw [ug g f p l [] (by
  intro a ha;simp only [hg a ha,ht a ha,R.bind_ok];cases hp:p a with
  | true=>simp [he a ha hp] | false=>simp) (by simpa using hl)];rfl
abbrev W5(a0 a1 a2 a3 a4:Option D):Ev:=[a0,a1,a2,a3,a4]
theorem kJ {n:Nat} (hn:Sz n) (hn3:n<=3) (r:Rl) {st:Nat} (hst:st<=12) (s:Sto):∃ o S',zE [.str (nmR r),.int ((n:Nat):Int),.int ((st:Nat):Int)] s=.ok (oD o) S'/\zab n r st o:=by
 have n2:2<=n:=by unfold Sz at hn;omega
 have hb2:(16+1) ^ n<=90000:=by
  have h4:(16+1) ^ n<=(16+1) ^ 3:=Nat.pow_le_pow_right (by decide) hn3;have h5:((16:Nat)+1) ^ 3=4913:=by decide
  omega
 have w1:=z0O r s;have w2:=Pt.z5W (b:=3) n2 hn3 s;have w3:=z7J (x:=((st:Nat):Int)) (a:=0) (b:=12) (by omega) (by omega) s;obtain ⟨d,S',e,dk,ok,hl,all⟩:=z1A r hn (b:=16) (by decide) hb2 s;have dl:d.length<=4913:=by
  have h1:=dk.len hn;have h4:(16+1) ^ n<=(16+1) ^ 3:=Nat.pow_le_pow_right (by decide) hn3;have h5:((16:Nat)+1) ^ 3=4913:=by decide
  omega
 have lS:s.length<S'.length:=(List.getElem?_eq_some_iff.mp hl).1;have hF:(S'.set s.length (.non::Dd.encD d))[s.length]? = some (.non::Dd.encD d):=List.getElem?_set_self lS;have keys:∀ v∈d.map (fun p=>unK p.1),Lt n 16 v/\vc d (Pt.K v)=some (.int ((nst r v:Nat):Int)):=fun v hv=>by
  obtain ⟨p,hp,rfl⟩:=List.mem_map.mp hv;obtain ⟨w,hw,e1,_⟩:=dk.key p hp;obtain ⟨u,hu⟩:=z9x hp;rw [e1] at hu;simp only [e1,zao];exact ⟨hw,by rw [hu,ok.val hu]⟩
 have kD:z2D d=(d.map fun p=>unK p.1).map rD:=by
  rw [z2D,List.map_map];refine List.map_congr_left fun p hp=>?_;obtain ⟨w,hw,e1,_⟩:=dk.key p hp;simp only [Function.comp,e1,zao];exact zbm w
 have mem:∀ v,Lt n 16 v->v∈d.map (fun p=>unK p.1):=fun v hv=>by
  obtain ⟨u,hu⟩:=Option.isSome_iff_exists.mp (all v hv);exact List.mem_map.mpr ⟨_,z2N hu,zao v⟩
 have ll:(d.map fun p=>unK p.1).length<=4913:=by simpa using dl
 have decd:zcS (Dd.encD d)=some d:=z2L dk.all;generalize hL:(d.map fun p=>unK p.1)=L at *;have dg:∀ v∈L,qq (S'.set s.length (.non::Dd.encD d)) (.dlo s.length) (rD v)=some (some (.int ((nst r v:Nat):Int))):=fun v hv=>by rw [zg7 dk hF,(keys v hv).2]
 have it:∀ Z:Ev,Z[3]? = some (some (.dlo s.length))->z7Y (zc 3) Z S'=.ok (L.map rD,[]) (S'.set s.length (.non::Dd.encD d)):=fun Z hZ=>by
  rw [zd5,vr hZ,R.bind_ok];simp only [hl,Option.bind_some,decd];rw [kD]
 generalize S'.set s.length (.non::Dd.encD d)=T at *;have c:=zd4 (s:=S') (s1:=T) (Z:=W5 (some (.str (nmR r))) (some (.int ((n:Nat):Int))) (some (.int ((st:Nat):Int))) (some (.dlo s.length)) none) (fi:=z7Y (zc 3)) (mp:=[some 2,some 3,none]) (fg:=xw 2) (ft:=tOf (eOp dEq (z5g (zc 1) (zc 2)) (zc 0))) (fe:=ur (zb (ze wa (zb (zc 2) zi)) (zb (zc 2) zi))) rD (fun v=>Dd.pairD (maxL v,v)) (fun v=>decide (nst r v=st)) (fun v=>[some (.int ((st:Nat):Int)),some (.dlo s.length),some (rD v)]) L (it _ rfl) (fun v _=>rfl) (fun v hv=>z1F (by rw [op2 (x:=.int ((nst r v:Nat):Int)) (y:=.int ((st:Nat):Int)) (by rw [z9h,vr (d:=.dlo s.length) rfl,R.bind_ok,vr (d:=rD v) rfl,R.bind_ok,dg v hv];rfl) (vr rfl),z5P,show decide (((nst r v:Nat):Int)=((st:Nat):Int))=decide (nst r v=st) from decide_eq_decide.mpr (by omega)])) (fun v hv _=>by
   have mx:wa [rD v] T=.ok (.int (maxL v)) T:=z2m T (keys v hv).1.lot.ne;have k2:∀ x:D,wa [x] T=.ok (.int (maxL v)) T->ur (zb (ze wa (zb (zc 2) zi)) (zb (zc 2) zi)) [some (.int ((st:Nat):Int)),some (.dlo s.length),some x] T=.ok (.tup [.int (maxL v),x]) T:=fun x hx=>by
    rw [vk,zp,vx (x:=x) (vr rfl),hx,R.bind_ok,zp,vr (d:=x) rfl,R.bind_ok,zF];simp only [R.bind_ok];rw [if_pos (by simp [cap])]
   exact k2 _ mx) (by unfold cap;omega);have e5:(L.filter fun v=>decide (nst r v=st)).map (fun v=>Dd.pairD (maxL v,v))=((L.filter fun v=>decide (nst r v=st)).map fun v=>(maxL v,v)).map Dd.pairD:=by rw [List.map_map];rfl
 rw [e5] at c;have good:∀ v,v∈L.filter (fun v=>decide (nst r v=st)) ↔ Lt n 16 v/\nst r v=st:=fun v=>by
  rw [List.mem_filter];simp only [decide_eq_true_eq];exact ⟨fun h=>⟨(keys v h.1).1,h.2⟩,fun h=>⟨mem v h.1,h.2⟩⟩
 generalize L.filter (fun v=>decide (nst r v=st))=F at *;have key:∀ (dr dn ds y:D),yG [dr] s=.ok .non s->wy [dn,.int 3] s=.ok .non s->xo [ds,.int 0,.int 12] s=.ok .non s->yx [dr,dn,.int 16] s=.ok (.dlo s.length) S'->wF (W5 (some dr) (some dn) (some ds) (some (.dlo s.length)) none) S'=.ok (.nx (W5 (some dr) (some dn) (some ds) (some (.dlo s.length)) (some (.lst ((F.map fun v=>(maxL v,v)).map Dd.pairD))))) T->vW (W5 (some dr) (some dn) (some ds) (some (.dlo s.length)) (some (.lst ((F.map fun v=>(maxL v,v)).map Dd.pairD)))) T=.ok (.rt y) T->zE [dr,dn,ds] s=.ok y T:=fun dr dn ds y h1 h2 h3 h4 h5 h6=>by
  have st:zy ["rule","size","steps","many","found"] [dr,dn,ds]=W5 (some dr) (some dn) (some ds) none none:=rfl;simp only [zE,Mof,jW,st,List.length_cons,List.length_nil,if_true];rw [zm (Z':=W5 (some dr) (some dn) (some ds) none none) (s':=s) (by rw [jg,kE,vx (x:=dr) (vr rfl),h1];rfl)];rw [zm (Z':=W5 (some dr) (some dn) (some ds) none none) (s':=s) (by rw [qX,kE,call2 (x:=dn) (y:=.int 3) (vr rfl) rfl,h2];rfl)];rw [zm (Z':=W5 (some dr) (some dn) (some ds) none none) (s':=s) (by rw [qV,kE,z3p (x:=ds) (y:=.int 0) (z:=.int 12) (vr rfl) rfl rfl,h3];rfl)];rw [zm (Z':=W5 (some dr) (some dn) (some ds) (some (.dlo s.length)) none) (s':=S') (by rw [jd,yJ,z3p (x:=dr) (y:=dn) (z:=.int 16) (vr rfl) (vr rfl) rfl,h4];rfl)];rw [zm h5,h6]
 have f5:wF (W5 (some (.str (nmR r))) (some (.int ((n:Nat):Int))) (some (.int ((st:Nat):Int))) (some (.dlo s.length)) none) S'=.ok (.nx (W5 (some (.str (nmR r))) (some (.int ((n:Nat):Int))) (some (.int ((st:Nat):Int))) (some (.dlo s.length)) (some (.lst ((F.map fun v=>(maxL v,v)).map Dd.pairD))))) T:=by
  rw [wF,yJ,c];rfl
 cases F with
 | nil=>
  refine ⟨none,T,key _ _ _ _ w1 w2 w3 e f5 ?_,fun w hw hs=>by have:=(good w).mpr ⟨hw,hs⟩;cases this⟩;rfl | cons v F=>
  have mm:=z3B (maxL v,v) (F.map fun v=>(maxL v,v));have le:=z6h (maxL v,v) (F.map fun v=>(maxL v,v));rw [<- List.map_cons (f:=fun v=>(maxL v,v))] at mm le;obtain ⟨u,hu,eu⟩:=List.mem_map.mp mm;refine ⟨some u,T,key _ _ _ _ w1 w2 w3 e f5 ?_,((good u).mp hu).1,((good u).mp hu).2,fun w hw hs=>?_⟩
  ·have pn:=z6C (((v::F).map fun v=>(maxL v,v)));have gm:z8c [.lst (((v::F).map fun v=>(maxL v,v)).map Dd.pairD)] T=.ok (Dd.pairD (maxL u,u)) T:=by
    rw [eu];simp only [z8c,yd,Option.bind_some];rw [pn];rfl
   have ne:(((v::F).map fun v=>(maxL v,v)).map Dd.pairD).isEmpty=false:=rfl;generalize ((v::F).map fun v=>(maxL v,v)).map Dd.pairD=X at *;rw [vW,xZ,zbj,zgc,vr (d:=.lst X) rfl,R.bind_ok];simp only [Dd.listOf,ne,R.bind_ok];rw [if_pos (by rfl),op2 (x:=Dd.pairD (maxL u,u)) (y:=.int 1) (by rw [vx (x:=.lst X) (vr rfl)];exact gm) rfl];rfl
  ·have:=(le (maxL w,w) (List.mem_map.mpr ⟨w,(good w).mpr ⟨hw,hs⟩,rfl⟩)).1;rw [<- eu] at this;exact this
abbrev Z7(a0 a1 a2 a3 a4 a5 a6:Option D):Ev:=[a0,a1,a2,a3,a4,a5,a6]
theorem zdX{k:Int}(h0:0<=k)(h3:k<4)(s:Sto):∃ r,dIx (.lst (zj0.map fun r=>D.str (nmR r))) (.int k) s=.ok (.str (nmR r)) s:=by
 obtain ⟨j,rfl⟩:=Int.eq_ofNat_of_zero_le h0;have:j=0\/j=1\/j=2\/j=3:=by omega
 rcases this with rfl | rfl | rfl | rfl;·exact ⟨.nx,rfl⟩
 ·exact ⟨.le,rfl⟩
 ·exact ⟨.al,rfl⟩
 ·exact ⟨.tu,rfl⟩
theorem zgl{n:Nat}{r:Rl}{st:Nat}{o:Option (List Int)}(h:zab n r st o)(s:Sto):yy [oD o,oD o] s=.ok (.bl true) s:=by cases o with
 | none=>exact z3E 3 _ s rfl | some v=>
  have l4:=h.1.lot.le4;refine z3E 3 _ s ?_;show smD 3 (rD v)=true;simp only [smD,Bool.and_eq_true,List.all_eq_true,decide_eq_true_eq];refine ⟨fun x hx=>?_,by simp [cap];omega⟩;obtain ⟨i,_,rfl⟩:=List.mem_map.mp hx;rfl
abbrev zdE:D->Ev->Sto->R Fl:=fun d Z s=>(xw 1 d Z s).bind fun Z' s'=>(zC z0A (zC z1n (zC z10 (zC z0F (zC z0S z3h))))) Z' s'
def ShL(ns:List Int)(Z:Ev):Prop:=∃ a1 a2 a3 a4 a5 a6,Z=Z7 (some (.scr (iL ns))) a1 a2 a3 a4 a5 a6
theorem ze8 (ns:List Int) (j:Nat) (Z:Ev) (s:Sto) (h:ShL ns Z):∃ Z' s',zdE (.int j) Z s=.ok (.nx Z') s'/\ShL ns Z':=by
 obtain ⟨a1,a2,a3,a4,a5,a6,rfl⟩:=h;rw [show zdE (.int j) (Z7 (some (.scr (iL ns))) a1 a2 a3 a4 a5 a6) s=(zC z0A (zC z1n (zC z10 (zC z0F (zC z0S z3h))))) (Z7 (some (.scr (iL ns))) (some (.int j)) a2 a3 a4 a5 a6) s from rfl];obtain ⟨c,e1⟩:=zeR ns j s;obtain ⟨q0,e2⟩:=zhY c s;have p0:Pot (s++[[.int q0]]) s.length:=⟨q0,by simp⟩;have g2:z0A (Z7 (some (.scr (iL ns))) (some (.int j)) a2 a3 a4 a5 a6) s=.ok (.nx (Z7 (some (.scr (iL ns))) (some (.int j)) (some (.loc s.length)) a3 a4 a5 a6)) (s++[[.int q0]]):=by rw [z0A,yJ,vx (x:=.int c) (by rw [call2 (x:=.scr (iL ns)) (y:=.int j) (vr rfl) (vr rfl),e1]),e2];rfl
 generalize s.length=l at p0 g2;generalize s++[[D.int q0]]=s0 at p0 g2;generalize hsc:D.scr (iL ns)=sc at g2;obtain ⟨r3,s1,t3,z0,z1,d1⟩:=z9w (Z:=Z7 (some sc) (some (.int j)) (some (.loc l)) a3 a4 a5 a6) (f:=zc 2) (g:=eC (.int 4)) (far:=4) p0 (by decide) (z9A (by decide)) (vr rfl) rfl;obtain ⟨r,er⟩:=zdX z0 z1 s1;have g3:z1n (Z7 (some sc) (some (.int j)) (some (.loc l)) a3 a4 a5 a6) s0=.ok (.nx (Z7 (some sc) (some (.int j)) (some (.loc l)) (some (.str (nmR r))) a4 a5 a6)) s1:=by rw [z1n,yJ,wE,wS,zF,R.bind_ok,zaR,R.bind_ok,t3,R.bind_ok,er];rfl
 obtain ⟨r2,s2,t2,y0,y1,d2⟩:=z9w (Z:=Z7 (some sc) (some (.int j)) (some (.loc l)) (some (.str (nmR r))) a4 a5 a6) (f:=zc 2) (g:=eC (.int 2)) (far:=2) d1.pot (by decide) (z9A (by decide)) (vr rfl) rfl;obtain ⟨n,hn2⟩:∃ n:Nat,2+r2=((n:Nat):Int):=⟨(2+r2).toNat,by omega⟩;have hn:Sz n:=by unfold Sz;omega
 have hn3:n<=3:=by omega
 have g4:z10 (Z7 (some sc) (some (.int j)) (some (.loc l)) (some (.str (nmR r))) a4 a5 a6) s1=.ok (.nx (Z7 (some sc) (some (.int j)) (some (.loc l)) (some (.str (nmR r))) (some (.int ((n:Nat):Int))) a5 a6)) s2:=by rw [z10,yJ,wE,kO,R.bind_ok,t2,R.bind_ok,z4l,hn2];rfl
 obtain ⟨r4,s3,t4,x0,x1,d3⟩:=z9w (Z:=Z7 (some sc) (some (.int j)) (some (.loc l)) (some (.str (nmR r))) (some (.int ((n:Nat):Int))) a5 a6) (f:=zc 2) (g:=eC (.int 4)) (far:=4) d2.pot (by decide) (z9A (by decide)) (vr rfl) rfl;obtain ⟨b,eb,b0,b1⟩:∃ b:Int,dIx (.lst [.int 8,.int 13]) (.int (r4 / 3)) s3=.ok (.int b) s3/\0<b/\b<=13:=by
  have:r4 / 3=0\/r4 / 3=1:=by omega
  rcases this with e | e;·exact ⟨8,by rw [e];rfl,by decide,by decide⟩
  ·exact ⟨13,by rw [e];rfl,by decide,by decide⟩
 obtain ⟨r5,s4,t5,w0,w1,d4⟩:=zcm (far:=b) d3.pot (by omega) (z9A (by omega));obtain ⟨st,hst⟩:∃ st:Nat,r5=((st:Nat):Int):=⟨r5.toNat,by omega⟩;have far:eOp dIx (z4o (zb (eC (.int 8)) (zb (eC (.int 13)) zi))) (eOp z0c (ze Pg.yu (zb (zc 2) (zb (eC (.int 4)) zi))) (eC (.int 3))) (Z7 (some sc) (some (.int j)) (some (.loc l)) (some (.str (nmR r))) (some (.int ((n:Nat):Int))) a5 a6) s2=.ok (.int b) s3:=by
  rw [wE];have l1:z4o (zb (eC (.int 8)) (zb (eC (.int 13)) zi)) (Z7 (some sc) (some (.int j)) (some (.loc l)) (some (.str (nmR r))) (some (.int ((n:Nat):Int))) a5 a6) s2=.ok (.lst [.int 8,.int 13]) s2:=by
   simp only [z2n,zp,zF,kO,R.bind_ok];rw [if_pos (by simp [cap])]
  rw [l1,R.bind_ok,wE,t4,R.bind_ok,kO,R.bind_ok,z96 s3 (by decide) (z9A (by decide)),R.bind_ok,eb]
 have g5:z0F (Z7 (some sc) (some (.int j)) (some (.loc l)) (some (.str (nmR r))) (some (.int ((n:Nat):Int))) a5 a6) s2=.ok (.nx (Z7 (some sc) (some (.int j)) (some (.loc l)) (some (.str (nmR r))) (some (.int ((n:Nat):Int))) (some (.int ((st:Nat):Int))) a6)) s4:=by
  rw [z0F,yJ,wS,zp,vr (d:=.loc l) rfl,R.bind_ok,zp,far,R.bind_ok,zF];simp only [R.bind_ok];rw [t5,hst];rfl
 obtain ⟨o,s5,e6,fo⟩:=zbq hn hn3 r st s4;have g6:z0S (Z7 (some sc) (some (.int j)) (some (.loc l)) (some (.str (nmR r))) (some (.int ((n:Nat):Int))) (some (.int ((st:Nat):Int))) a6) s4=.ok (.nx (Z7 (some sc) (some (.int j)) (some (.loc l)) (some (.str (nmR r))) (some (.int ((n:Nat):Int))) (some (.int ((st:Nat):Int))) (some (oD o)))) s5:=by
  rw [z0S,yJ,z3p (x:=.str (nmR r)) (y:=.int ((n:Nat):Int)) (z:=.int ((st:Nat):Int)) (vr rfl) (vr rfl) (vr rfl),e6];rfl
 have sm:=fun S=>zgl fo S;have lw:∀ S,∃ S',zE [.str (nmR r),.int ((n:Nat):Int),.int ((st:Nat):Int)] S=.ok (oD o) S':=fun S=>by
  obtain ⟨o',S',e',fo'⟩:=kJ hn hn3 r (st:=st) (by omega) S;rw [z6K fo' fo] at e';exact ⟨S',e'⟩
 have tst:∀ S,∃ S',z3S (tOf (ze Pg.yy (zb (ze Pg.zE (zb (zc 3) (zb (zc 4) (zb (zc 5) zi)))) (zb (zc 6) zi)))) (Z7 (some sc) (some (.int j)) (some (.loc l)) (some (.str (nmR r))) (some (.int ((n:Nat):Int))) (some (.int ((st:Nat):Int))) (some (oD o))) S=.ok false S':=fun S=>by
  obtain ⟨S',e'⟩:=lw S;have smS:=sm S';generalize oD o=x at *;refine ⟨S',?_⟩;rw [z5i];have:ze Pg.yy (zb (ze Pg.zE (zb (zc 3) (zb (zc 4) (zb (zc 5) zi)))) (zb (zc 6) zi)) (Z7 (some sc) (some (.int j)) (some (.loc l)) (some (.str (nmR r))) (some (.int ((n:Nat):Int))) (some (.int ((st:Nat):Int))) (some x)) S=.ok (.bl true) S':=by
   rw [wS,zp,z3p (x:=.str (nmR r)) (y:=.int ((n:Nat):Int)) (z:=.int ((st:Nat):Int)) (vr rfl) (vr rfl) (vr rfl),e',R.bind_ok,zp,vr (d:=x) rfl,R.bind_ok,zF];simp only [R.bind_ok];exact smS
  simp only [tOf,this,R.bind_ok];rfl
 obtain ⟨s6,u1⟩:=tst s5;obtain ⟨s7,u2⟩:=tst s6;refine ⟨Z7 (some sc) (some (.int j)) (some (.loc l)) (some (.str (nmR r))) (some (.int ((n:Nat):Int))) (some (.int ((st:Nat):Int))) (some (oD o)),s7,?_,?_⟩
 ·rw [zm g2,zm g3,zm g4,zm g5,zm g6,z3h,z5M,zfv,u1,R.bind_ok,if_neg (by decide),u2,R.bind_ok,if_neg (by decide)];rfl
 ·rw [<- hsc];exact ⟨_,_,_,_,_,_,rfl⟩
theorem zgm (ns:List Int):∃ Z' s',z5K (Z7 (some (.scr (iL ns))) none none none none none none) []=.ok (.nx Z') s':=by
 obtain ⟨k,ek,hk⟩:=zeq ns.length 2;rw [show ((2:Nat):Int)=2 from rfl] at ek;obtain ⟨Z',s',e,_⟩:=z6O (all:=xB k) (body:=zdE) (fun Z _=>ShL ns Z) (xB k) (fun x hx Z s hI=>by
  obtain ⟨j,_,rfl⟩:=z7S hx;exact ze8 ns j Z s hI) (Z7 (some (.scr (iL ns))) none none none none none none) [] ⟨_,_,_,_,_,_,rfl⟩;refine ⟨Z',s',?_⟩;unfold z5K;rw [kb,ke (n:=k) (s1:=[]) (by omega) (by simp only [wS,zp,zF,kO,xW,List.getElem?_cons_zero,R.bind_ok,wX,yd,List.length_map,zbx,zba,ek]),R.bind_ok];exact e
theorem zcf{n:Nat}(hn:Sz n)(hn3:n<=3)(r:Rl){v:List Int}(hv:zab n r 0 (some v))(s:Sto):∃ S',zE [.str (nmR r),.int ((n:Nat):Int),.int 0] s=.ok (rD v) S':=by
 obtain ⟨o',S',e',fo'⟩:=kJ hn hn3 r (st:=0) (by decide) s;rw [z6K fo' hv] at e';exact ⟨S',e'⟩
theorem ziO{n:Nat}{w:List Int}(h:Lt n 16 w):1<=maxL w:=by
 obtain ⟨x,hx,p⟩:=h.lot.pos;have:=maxL_ge (xs:=w) x hx;omega
theorem zck:zab 2 .al 0 (some [0,1]):=by
 refine ⟨⟨⟨.inl rfl,rfl,by decide,⟨1,by decide,by decide⟩⟩,by decide⟩,kf (by decide),fun w hw _=>?_⟩;have m1:=ziO hw;have e:maxL [0,1]=1:=by decide
 simp only [qZ,e];split;·match w,hw.lot.len with
  | [a,b],_=>
   have n1:=hw.lot.nn a (by simp);have n2:=hw.lot.nn b (by simp);obtain ⟨x,hx,p⟩:=hw.lot.pos;simp only [lexN];split
   ·split;·rfl
    ·simp only [decide_eq_false_iff_not];intro z;rcases List.mem_cons.mp hx with rfl | hx;·omega
     ·rw [List.mem_singleton.mp hx] at p;omega
   ·simp only [decide_eq_false_iff_not];omega
 ·simp only [decide_eq_false_iff_not];omega
theorem zdq:zab 3 .nx 0 (some [0,0,1]):=by
 refine ⟨⟨⟨.inr (.inl rfl),rfl,by decide,⟨1,by decide,by decide⟩⟩,by decide⟩,kf (by decide),fun w hw _=>?_⟩;have m1:=ziO hw;have e:maxL [0,0,1]=1:=by decide
 simp only [qZ,e];split;·match w,hw.lot.len with
  | [a,b,c],_=>
   have n1:=hw.lot.nn a (by simp);have n2:=hw.lot.nn b (by simp);have n3:=hw.lot.nn c (by simp);obtain ⟨x,hx,p⟩:=hw.lot.pos;simp only [lexN];split
   ·split
    ·split;·rfl
     ·simp only [decide_eq_false_iff_not];intro z;rcases List.mem_cons.mp hx with rfl | hx;·omega
      ·rcases List.mem_cons.mp hx with rfl | hx;·omega
       ·rw [List.mem_singleton.mp hx] at p;omega
    ·simp only [decide_eq_false_iff_not];omega
   ·simp only [decide_eq_false_iff_not];omega
 ·simp only [decide_eq_false_iff_not];omega
theorem zbg:∀ ns:List Int,ns.length<=63->∃ s',zdJ [.scr (ns.map D.int)] []=.ok (.bl true) s':=fun ns hn=>by
 obtain ⟨Z',s',e⟩:=zgm ns;obtain ⟨S1,e1⟩:=zcf (.inl rfl) (by decide) .al zck s';obtain ⟨S2,e2⟩:=zcf (.inr (.inl rfl)) (by decide) .nx zdq S1;refine ⟨S2,?_⟩;have st:zy ["_law_script","_law_at","_law_pot_here","_law_rule","_law_size","_law_steps_here","_law_due"] [.scr (ns.map D.int)]=Z7 (some (.scr (iL ns))) none none none none none none:=rfl;unfold zdJ Mof zbL;rw [if_pos (by rfl),st,zm e];have t2:∀ (Z:Ev) (s:Sto),ur (zb (eC (.int 0)) (zb (eC (.int 1)) zi)) Z s=.ok (rD [0,1]) s:=fun Z s=>by
  simp only [vk,zp,zF,kO,R.bind_ok];rw [if_pos (by simp [cap])];rfl
 have t3:∀ (Z:Ev) (s:Sto),ur (zb (eC (.int 0)) (zb (eC (.int 0)) (zb (eC (.int 1)) zi))) Z s=.ok (rD [0,0,1]) s:=fun Z s=>by
  simp only [vk,zp,zF,kO,R.bind_ok];rw [if_pos (by simp [cap])];rfl
 have q1:=z8T [0,1] [0,1] S1;have q2:=z8T [0,0,1] [0,0,1] S2;rw [z8U,xZ,z9R,wE,z3p (x:=.str "all") (y:=.int 2) (z:=.int 0) rfl rfl rfl];rw [show zE [.str "all",.int 2,.int 0] s'=_ from e1,R.bind_ok,t2,R.bind_ok,q1,R.bind_ok];simp only [decide_true];rw [wE,z3p (x:=.str "next") (y:=.int 3) (z:=.int 0) rfl rfl rfl];rw [show zE [.str "next",.int 3,.int 0] S1=_ from e2,R.bind_ok,t3,R.bind_ok,q2];simp only [decide_true];rfl
end K72
namespace K72
open PySem.Spec L2 Dd Pg
theorem all_mk {P:Program} {w:World} {K:W.Frag} {h:Heap} {mg:Str->Option Value} {fa:Addr} (X:K.In h) (G:h.Ns mainGlobals mg) (hfa:mg "law"=some (.ref fa)) (e:zac askQ K=valS askQ w) : ∃ fd:FuncData,(∀ (s:Shared) (v:Value),BindsTo s fd ⟨[v],[]⟩ [("_law_script",v)])/\∀ base:Heap,K.In base->base.Ns mainGlobals mg->z2e P w K mg base CX0 94 fa fd ["_law_script"] (zdC K):=by
 obtain ⟨f0,d0,a0,F0⟩:=zN X G e 0 rfl;obtain ⟨f1,d1,a1,F1⟩:=zN X G e 1 rfl;obtain ⟨f2,d2,a2,F2⟩:=zN X G e 2 rfl;obtain ⟨f3,d3,a3,F3⟩:=zN X G e 3 rfl;obtain ⟨f4,d4,a4,F4⟩:=zN X G e 4 rfl;obtain ⟨f5,d5,a5,F5⟩:=zN X G e 5 rfl;obtain ⟨f6,d6,a6,F6⟩:=zN X G e 6 rfl;obtain ⟨f7,d7,a7,F7⟩:=zN X G e 7 rfl;obtain ⟨f8,d8,a8,F8⟩:=zN X G e 8 rfl;obtain ⟨f9,d9,a9,F9⟩:=zN X G e 9 rfl;obtain ⟨f10,d10,a10,F10⟩:=zN X G e 10 rfl;obtain ⟨f11,d11,a11,F11⟩:=zN X G e 11 rfl;obtain ⟨f12,d12,a12,F12⟩:=zN X G e 12 rfl;obtain ⟨f13,d13,a13,F13⟩:=zN X G e 13 rfl;obtain ⟨f14,d14,a14,F14⟩:=zN X G e 14 rfl;obtain ⟨f15,d15,a15,F15⟩:=zN X G e 15 rfl;obtain ⟨f16,d16,a16,F16⟩:=zN X G e 16 rfl;obtain ⟨f17,d17,a17,F17⟩:=zN X G e 17 rfl;obtain ⟨f18,d18,a18,F18⟩:=zN X G e 18 rfl;obtain ⟨f19,d19,a19,F19⟩:=zN X G e 19 rfl;obtain ⟨f20,d20,a20,F20⟩:=zN X G e 20 rfl;obtain ⟨f21,d21,a21,F21⟩:=zN X G e 21 rfl;obtain ⟨f22,d22,a22,F22⟩:=zN X G e 22 rfl;obtain ⟨f23,d23,a23,F23⟩:=zN X G e 23 rfl;obtain ⟨f24,d24,a24,F24⟩:=zN X G e 24 rfl;obtain ⟨f25,d25,a25,F25⟩:=zN X G e 25 rfl;obtain ⟨f26,d26,a26,F26⟩:=zN X G e 26 rfl;obtain ⟨f27,d27,a27,F27⟩:=zN X G e 27 rfl;obtain ⟨f28,d28,a28,F28⟩:=zN X G e 28 rfl;obtain ⟨f29,d29,a29,F29⟩:=zN X G e 29 rfl;obtain ⟨f30,d30,a30,F30⟩:=zN X G e 30 rfl;obtain ⟨f31,d31,a31,F31⟩:=zN X G e 31 rfl;obtain ⟨f32,d32,a32,F32⟩:=zN X G e 32 rfl;obtain ⟨f33,d33,a33,F33⟩:=zN X G e 33 rfl;obtain ⟨f34,d34,a34,F34⟩:=zN X G e 34 rfl;obtain ⟨f35,d35,a35,F35⟩:=zN X G e 35 rfl;obtain ⟨f36,d36,a36,F36⟩:=zN X G e 36 rfl;have e0:=hfa.symm.trans a36;cases e0;obtain ⟨oc,od,kV,doc,pm,an,cdv,ct,osl,rfl,hl,hc⟩:=F36.ex;have T:Txt mg:=⟨z4j X G e 0 rfl,z4j X G e 1 rfl,z4j X G e 2 rfl,z4j X G e 3 rfl,z4j X G e 4 rfl,ue X G e 0 rfl,ue X G e 1 rfl,ue X G e 2 rfl,ue X G e 3 rfl,ue X G e 4 rfl,ue X G e 5 rfl,ue X G e 6 rfl,ue X G e 7 rfl,ue X G e 8 rfl,ue X G e 9 rfl,ue X G e 10 rfl,ue X G e 11 rfl,ue X G e 12 rfl⟩;have T_RULES:zdj P w K mg "RULES" uM:=zha X G e "RULES" z76 (List.mem_of_getElem? (i:=0) rfl);refine ⟨W.fnOf "law" "law" (kw z25) (uP z25) (zg z25) .none kV doc pm an cdv ct,fun s v=>.of_eq rfl,fun base _ _=>?_⟩;have H0:=z50 (P:=P) (w:=w) (base:=base) T F0 a0;have H1:=z4O (P:=P) (w:=w) (base:=base) T F1 a1;have H2:=jM (P:=P) (w:=w) (base:=base) T F2 a2;have H3:=uL (P:=P) (w:=w) (base:=base) T F3 a3;have H4:=z1g (P:=P) (w:=w) (base:=base) T F4 a4;have H5:=z6p (P:=P) (w:=w) (base:=base) T F5 a5;have H6:=z5Z (P:=P) (w:=w) (base:=base) T F6 a6 T_RULES;have H7:=z97 (P:=P) (w:=w) (base:=base) T F7 a7;have H8:=z0h (P:=P) (w:=w) (base:=base) T F8 a8;have H9:=z56 (P:=P) (w:=w) (base:=base) T F9 a9;have H10:=z2G (P:=P) (w:=w) (base:=base) T F10 a10;have H11:=z1u (P:=P) (w:=w) (base:=base) T F11 a11;have H12:=z1t (P:=P) (w:=w) (base:=base) T F12 a12;have H13:=z1O (P:=P) (w:=w) (base:=base) T F13 a13;have H14:=z0b (P:=P) (w:=w) (base:=base) T F14 a14;have H15:=z1D (P:=P) (w:=w) (base:=base) T F15 a15 H0;have H16:=z1d (P:=P) (w:=w) (base:=base) T F16 a16 H0;have H17:=z3b (P:=P) (w:=w) (base:=base) T F17 a17 H0;have H18:=z5w (P:=P) (w:=w) (base:=base) T F18 a18 H3;have H19:=z43 (P:=P) (w:=w) (base:=base) T F19 a19 H3 H4;have H20:=z7Q (P:=P) (w:=w) (base:=base) T F20 a20 H4 H5;have H21:=z5H (P:=P) (w:=w) (base:=base) T F21 a21 H5;have H22:=z3C (P:=P) (w:=w) (base:=base) T F22 a22 H6;have H23:=z3c (P:=P) (w:=w) (base:=base) T F23 a23 H11;have H24:=z3n (P:=P) (w:=w) (base:=base) T F24 a24 H14;have H25:=z7q (P:=P) (w:=w) (base:=base) T F25 a25 H1 H15;have H26:=z3U (P:=P) (w:=w) (base:=base) T F26 a26 T_RULES H18 H19 H20 H21;have H27:=z1S (P:=P) (w:=w) (base:=base) T F27 a27 H13 H24;have H28:=z5a (P:=P) (w:=w) (base:=base) T F28 a28 H25;have H29:=z1X (P:=P) (w:=w) (base:=base) T F29 a29 H27;have H30:=z3i (P:=P) (w:=w) (base:=base) T F30 a30 H28;have H31:=qM (P:=P) (w:=w) (base:=base) T F31 a31 H22 H28;have H32:=z3N (P:=P) (w:=w) (base:=base) T F32 a32 H30 H31;have H33:=zbt (P:=P) (w:=w) (base:=base) T F33 a33 H7 H26 H32;have H34:=z09 (P:=P) (w:=w) (base:=base) T F34 a34 H2 H30 H33;have H35:=z1x (P:=P) (w:=w) (base:=base) T F35 a35 H16 H17 H22 H34;have H36:=z7k (P:=P) (w:=w) (base:=base) T F36 a36 H8 H9 H10 H12 H23 H29 H35;exact zgi (x:="law") H36 zbg
theorem boot_:∀ w:World,(W.fencedOpening treeTable PySem.Challenge.pw_drawndown_k72_least_lots_with_so_many_st w 5124).map (fun s=>(s.heap,s.gens,s.drawn,s.toks))=some (W.boot_heap w.params,Array.mk [],W.boot_drawn,W.boot_toks):= W.boot_open (by kernel_rfl) (by decide) (fun s=>by kernel_rfl)
theorem left_:W.LeftO PySem.Challenge.pw_drawndown_k72_least_lots_with_so_many_st qv looseQ xtQ (obsS askQ) (valS askQ) 5124:=z9F "special-get-raises" boot_ (fun w os=>z24 (f:=fun s=>(seenQ s,obsS askQ s)) (ziC w) (bsz w) (z5e (z3T w os) (z4t w os))) (fun w os=>z24 (f:=fun s=>(seenQ s,obsS askQ s)) (ziC w) (bsz w) (z5e (z5O w os) (z65 w os)))
end K72
open PySem.W
set_option maxRecDepth 100000 in
set_option maxHeartbeats 0 in
theorem PySem.Challenge.cw_drawndown_k72_least_lots_with_so_many_st_holds : PySem.Challenge.rw_drawndown_k72_least_lots_with_so_many_st.Holds := by
  w_on; o_law
  refine holds_open (q := K72.qv) (loose := K72.looseQ) (Xt := K72.xtQ) (XP := XL K72.qv K72.lvQ) (Yf := Dd.obsS K72.askQ) (Ya := Dd.valS K72.askQ) (YP := Dd.saysS K72.askQ) (N := 5124) K72.left_ (Dd.zcB K72.askQ) (Dd.z7L K72.askQ) (fun s e => xl_of s (Bool.and_eq_true_iff.mp e).1) XL.keeps (by rfl) (by rfl) (by rfl) (fun s e => recFacts_of (Bool.and_eq_true_iff.mp e).2) (by rfl) (by first | assumption | decide +kernel) (by decide +kernel) ⟨rfl, rfl, rfl, rfl, rfl, by decide +kernel⟩ ?hw ?hc
  (case hw => w_witness2)
  refine Dd.walkY (l := PySem.Challenge.rw_drawndown_k72_least_lots_with_so_many_st) (n := 63) (k := 94) (x := "_law_script") rfl (by decide) (by decide) rfl ⟨rfl, by decide, by decide, rfl⟩ ?F
  case F =>
    intro w mg fa h Yy G hmg XP
    obtain ⟨K, KX, e⟩ := Yy
    exact ⟨K, KX, K72.all_mk KX G hmg e ⟩
