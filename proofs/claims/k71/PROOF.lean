import PyProof.Rows.All
import Wide.All
import OpenK.AllK
import Wide.FinOn
import Lean
import PyProof.EqAt
import PyProof.EqKinds
import PyProof.TupleCall
import PyProof.ExcArgsOwn
import PyProof.ExcAttrAll.ValueError
import PyProof.ListMulRoad
import PyProof.Rows.Range3
import PySem.Challenge.RW_drawndown_k71_lots_that_come_by_a_step
set_option Elab.async false
set_option linter.all false
set_option maxRecDepth 100000
set_option maxHeartbeats 1000000
set_option exponentiation.threshold 5000
open PySem PyProof.Rows
noncomputable section
namespace Dd
open PySem.Spec
def dArgs(s:Stmt):Arguments:=match s with
 | .FunctionDef _ a _ _ _ _ _ _ _ _=>a | _=>{posonlyargs:=[],args:=[],vararg:=none,kwonlyargs:=[],kw_defaults:=[],kwarg:=none,defaults:=[]}
def zdw(s:Stmt):List Stmt:=match s with
 | .FunctionDef _ _ b _ _ _ _ _ _ _=>b | _=>[]
def zba(s:Stmt):Scope:=match s with
 | .FunctionDef _ _ _ _ _ _ sc _ _ _=>sc | _=>{kind:=.function,names:=[],isGenerator:=false,isCoroutine:=false}
def z5u(h:Heap)(a:Addr):W.Frag:=match h.get? a with | some o=>[(a,o)] | none=>[]
def zhH(h:Heap)(g:W.Frag)(x:Str):W.Frag:=match W.nsIn g mainGlobals x with
 | some (some (.ref f))=>z5u h f++(match h.get? f with
   | some ⟨_,_,.func fd,_⟩=>(match fd.code with | .ref c=>z5u h c | _=>[]) | some ⟨_,_,.cls cd,_⟩=>z5u h cd.ns | _=>[]) | _=>[]
def gat(h:Heap)(ns:List Str):W.Frag:=z5u h mainGlobals++ns.flatMap (zhH h (z5u h mainGlobals))
abbrev FV:=Str×Str×Arguments×FuncBody×Scope×Addr×List (Str×Addr)×Value×Addr×Bool×Bool
def zcX(K:W.Frag)(x:Str):Option FV:=match W.nsIn K mainGlobals x with
 | some (some (.ref f))=>(match K.lookup f with
   | some ⟨_,_,.func fd,_⟩=>some (fd.name,fd.qualname,fd.params,fd.body,fd.scope,fd.globals,fd.closure,fd.defaults,fd.builtins,W.codeIn K fd.code fd.qualname,W.keepIn K (.ref f)) | _=>none) | _=>none
def zgk(x:Str)(st:Stmt):Option FV:=some (x,x,dArgs st,.stmts (zdw st),zba st,mainGlobals,[],.none,builtinsNs,true,true)
def zbO(K:W.Frag)(x:Str):Bool:=match W.nsIn K mainGlobals x with | some none=>true | _=>false
def zdb(K:W.Frag)(x:Str):Option Int:=match W.nsIn K mainGlobals x with | some (some (.int i _))=>some i | _=>none
def sameRef:Value->Option (Option Value)->Bool
 | .ref f,some (some (.ref g))=>f==g | _,_=>false
def z8u:Value->Option Str
 | .str k _=>some k | _=>none
def z4G:Value->Bool
 | .type c=>c=="dict" | _=>false
def z72(K:W.Frag):List DictEntry->List Str->List (Int×Option Str×Bool)
 | e::es,y::ys=>(e.hash,z8u e.key,sameRef e.val (W.nsIn K mainGlobals y))::z72 K es ys | [],[]=>[] | _,_=>[(0,none,false)]
def zd2(K:W.Frag)(x:Str)(ys:List Str):Option (Bool×Bool×Bool×Bool×List (Int×Option Str×Bool)):=match W.nsIn K mainGlobals x with
 | some (some (.ref a))=>(match K.lookup a with
   | some ⟨c,d,.dict es _,sl⟩=>some (z4G c,d.isNone,sl.size==0,a==sysModules,z72 K es.toList ys) | _=>none) | _=>none
def zgC(w:World)(tb:List (Str×Str)):Option (Bool×Bool×Bool×Bool×List (Int×Option Str×Bool)):=some (true,true,true,false,tb.map fun p=>(PyData.keyHash w.params p.1,some p.1,true))
def zdN:List Value->Option (List Int)
 | []=>some [] | .int i _::r=>(zdN r).map (i::·) | _=>none
def z9I:Value->Bool
 | .type c=>c=="tuple" | _=>false
def zhi(K:W.Frag)(x:Str):Option (Bool×Option (List Int)):=match W.nsIn K mainGlobals x with
 | some (some (.ref a))=>(match K.lookup a with
   | some ⟨c,_,.seq its _,_⟩=>some (z9I c,zdN its.toList) | _=>none) | _=>none
def bmV:List Value:=[.type "ValueError",.type "Exception",.type "BaseException",.type "object"]
def z9r(K:W.Frag)(C:Addr):Bool:=match K.lookup C with | some ⟨.type t,_,.cls _,_⟩=>t=="type" | _=>false
def zfY(K:W.Frag)(x:Str):Bool:=match W.nsIn K mainGlobals x with
 | some (some (.ref C))=>W.excIn K C bmV "ValueError.__new__"&&(W.findIn K (.ref C) "__getattribute__"==some (some (.builtin "BaseException.__getattribute__"))&&(W.findIn K (.ref C) "__getattr__"==some none && (W.findIn K (.ref C) "__class__"==some (some (.builtin "object.__class__"))&&(W.mroIn K C (.type "object")==some true&&(W.mroIn K C (.type "BaseException")==some true&&(z9r K C&&W.kitOne K (.ref C) (.type "ValueError")==some true)))))) | _=>false
def zdJ(K:W.Frag)(x y:Str):Option (Option Bool×Option Bool):=match W.nsIn K mainGlobals x,W.nsIn K mainGlobals y with
 | some (some (.ref C)),some (some (.ref D))=>some (W.mroIn K C (.ref D),W.kitOne K (.ref C) (.ref D)) | _,_=>none
abbrev Obs:=List (Option FV)×List Bool×List (Option Int)×List (Option (Bool×Bool×Bool×Bool×List (Int×Option Str×Bool)))×List (Option (Bool×Option (List Int)))×List Bool×List (Option (Option Bool×Option Bool))
structure Ask where
 fs:List (Str×Stmt)
 bs:List Str
 cs:List (Str×Int)
 ts:List (Str×List (Str×Str))
 us:List (Str×List Int)
 xs:List Str
 ps:List ((Str×Str)×Bool)
def z9F(q:Ask)(K:W.Frag):Obs:=(q.fs.map fun p=>zcX K p.1,q.bs.map (zbO K),q.cs.map fun p=>zdb K p.1,q.ts.map (fun p=>zd2 K p.1 (p.2.map (·.2))),q.us.map (fun p=>zhi K p.1),q.xs.map (zfY K),q.ps.map fun p=>zdJ K p.1.1 p.1.2)
def obsS(q:Ask)(s:Shared):Obs:=z9F q (gat s.heap (q.fs.map (·.1)++q.ts.map (·.1)++q.us.map (·.1)++q.xs))
def valS(q:Ask)(w:World):Obs:=(q.fs.map fun p=>zgk p.1 p.2,q.bs.map fun _=>true,q.cs.map fun p=>some p.2,q.ts.map (fun p=>zgC w p.2),q.us.map (fun p=>some (true,some p.2)),q.xs.map fun _=>true,q.ps.map fun p=>some (some p.2,some p.2))
def z0w(tb:String->Option Builtin)(p:Program)(w:World)(n₀:Nat)(ann:Option Value):Nat->W.SharedT->Thread->Option W.SharedT
 | 0,_,_=>none | n+1,s,t=>match W.through t with
  | true=>some s | false=>match W.stepOk n₀ ann t with
   | false=>none | true=>match W.stepT (denote tb) p w s t with
    | some (s',t')=>z0w tb p w n₀ ann n s' t' | none=>none
def ze0(l:List Obj):W.BT×Nat:=l.foldl (fun a o=>(a.1.ins a.2 o,a.2+1)) (W.BT.nil,0)
def zex(P:Params):W.BT:=(ze0 (W.boot_heap P).objs.toList).1
end Dd
namespace K71
open PySem.Spec Dd
def top(i:Nat):Stmt:=PySem.Challenge.pw_drawndown_k71_lots_that_come_by_a_step.main.body.getD i (.Pass ⟨0,0,0,0⟩)
abbrev qT:Stmt:=top 10
abbrev qP:Stmt:=top 12
abbrev yH:Stmt:=top 19
abbrev vJ:Stmt:=top 20
abbrev jX:Stmt:=top 21
abbrev ke:Stmt:=top 27
abbrev z33:Stmt:=top 33
abbrev vK:Stmt:=top 40
abbrev xG:Stmt:=top 42
abbrev vo:Stmt:=top 44
abbrev qR:Stmt:=top 45
abbrev qu:Stmt:=top 46
abbrev ud:Stmt:=top 47
abbrev um:Stmt:=top 50
abbrev ux:Stmt:=top 51
abbrev vf:Stmt:=top 52
abbrev ub:Stmt:=top 54
abbrev uf:Stmt:=top 11
abbrev vI:Stmt:=top 13
abbrev jY:Stmt:=top 22
abbrev jc:Stmt:=top 23
abbrev z0S:Stmt:=top 24
abbrev kj:Stmt:=top 25
abbrev ql:Stmt:=top 28
abbrev uS:Stmt:=top 41
abbrev vB:Stmt:=top 48
abbrev jf:Stmt:=top 49
abbrev qr:Stmt:=top 53
abbrev z0W:Stmt:=top 15
abbrev qZ:Stmt:=top 32
abbrev vO:Stmt:=top 39
abbrev ji:Stmt:=top 16
abbrev uT:Stmt:=top 17
abbrev yW:Stmt:=top 29
abbrev uO:Stmt:=top 30
abbrev z5R:Stmt:=top 31
abbrev qQ:Stmt:=top 38
abbrev kn:Stmt:=top 37
abbrev z2m:Stmt:=top 55
def z6g:List (Str×Str):=[("next","by_next"),("least","by_least"),("all","by_all"),("turn","by_turn")]
def askQ:Ask:=⟨[(("is_whole":Str),qT), (("has_size":Str),qP), (("greatest_and_others":Str),yH), (("least_place":Str),vJ), (("all_but":Str),jX), (("is_rule":Str),ke), (("moved":Str),z33), (("one_greater":Str),vK), (("numbers_leaving":Str),xG), (("_law_cell_at":Str),vo), (("_law_pot":Str),qR), (("_law_take":Str),qu), (("_law_whole":Str),ud), (("_law_rules":Str),um), (("_law_ended":Str),ux), (("_law_divides":Str),vf), (("_law_every":Str),ub), (("are_wholes":Str),uf), (("want_number":Str),vI), (("by_next":Str),jY), (("by_least":Str),jc), (("by_all":Str),z0S), (("by_turn":Str),kj), (("want_rule":Str),ql), (("undivided":Str),uS), (("_law_same":Str),vB), (("_law_lot":Str),jf), (("_law_step":Str),qr), (("is_lot":Str),z0W), (("division":Str),qZ), (("maybe_ahead":Str),vO), (("want_lot":Str),ji), (("has_ended":Str),uT), (("want_rule_and_lot":Str),yW), (("want_step":Str),uO), (("step":Str),z5R), (("comes_to":Str),qQ), (("lots_to":Str),kn), (("law":Str),z2m)], [("all":Str),("bool":Str),("enumerate":Str),("int":Str),("isinstance":Str),("len":Str),("list":Str),("max":Str),("min":Str),("range":Str),("sorted":Str),("str":Str),("tuple":Str),("zip":Str)], [(("LEAST_SIZE":Str),(2:Int)),(("MOST_AHEAD":Str),(30:Int)),(("MOST_LOTS":Str),(1000:Int)),(("MOST_SIZE":Str),(4:Int))], [(("RULES":Str),z6g)], [], [], []⟩
def qv:Program:=W.view PySem.Challenge.pw_drawndown_k71_lots_that_come_by_a_step [55]
def looseQ:List Str:=[("DrawError":Str),("NoLot":Str),("NoRule":Str),("Ended":Str),("NoNumber":Str),("TooMany":Str),("LEAST_SIZE":Str),("MOST_SIZE":Str),("is_whole":Str),("are_wholes":Str),("has_size":Str),("want_number":Str),("is_lot":Str),("want_lot":Str),("has_ended":Str),("greatest_and_others":Str),("least_place":Str),("all_but":Str),("by_next":Str),("by_least":Str),("by_all":Str),("by_turn":Str),("RULES":Str),("is_rule":Str),("want_rule":Str),("want_rule_and_lot":Str),("want_step":Str),("step":Str),("division":Str),("moved":Str),("MOST_AHEAD":Str),("MOST_LOTS":Str),("lots_to":Str),("comes_to":Str),("maybe_ahead":Str),("one_greater":Str),("undivided":Str),("numbers_leaving":Str),("_law_cell_at":Str),("_law_pot":Str),("_law_take":Str),("_law_whole":Str),("_law_same":Str),("_law_lot":Str),("_law_rules":Str),("_law_ended":Str),("_law_divides":Str),("_law_step":Str),("_law_every":Str)]
def lvQ:List (Str×W.WData):=[]
def xtQ:Shared->Bool:=fun s=>W.xlAt qv lvQ s&&W.recOk (W.RowW.records (W.OpenRow.toRowW (W.OpenLaw.row PySem.Challenge.rw_drawndown_k71_lots_that_come_by_a_step))) s
theorem zhV:∀ w:World,W.absHeap (zex w.params) 11 (W.boot_heap w.params).life=W.boot_heap w.params:=by
 intro w;kernel_rfl
theorem bsz:∀ w:World,((W.boot_heap w.params).isNs mainGlobals&&(Array.mk []:Array GenState).size==0,(W.boot_heap w.params).objs.size,(W.boot_heap w.params).nsMap mainGlobals "__annotations__")=(true,11,(some (.ref 6))):=by
 intro w;kernel_rfl
def zfM(w v:World)(os:OsState):Option W.SharedT:=z0w treeTable PySem.Challenge.pw_drawndown_k71_lots_that_come_by_a_step v 11 (some (.ref 6)) 5180 ⟨zex w.params,11,(W.boot_heap w.params).life,Array.mk [],W.boot_drawn,W.boot_toks,os⟩ (W.topStub PySem.Challenge.pw_drawndown_k71_lots_that_come_by_a_step)
def zdV(w:World)(s:W.SharedT):Bool:=W.staticsOk (importedModules PySem.Challenge.pw_drawndown_k71_lots_that_come_by_a_step.main.body) (W.boot_heap w.params) s.abs.heap&&W.namesBound PySem.Challenge.pw_drawndown_k71_lots_that_come_by_a_step s.abs.heap&&W.gensDone s.abs&&W.laidKept (W.boot_heap w.params) s.abs.heap
def seenQ(s:Shared):=W.openSeen qv looseQ (importedModules PySem.Challenge.pw_drawndown_k71_lots_that_come_by_a_step.main.body) xtQ true s
set_option maxRecDepth 1000000 in
theorem z4K:∀ (w:World)(os:OsState),(zfM w (w.withFollow "special-get-raises" false) os).map (fun s=>(zdV w s,obsS askQ s.abs))=some (true,valS askQ (w.withFollow "special-get-raises" false)):=by
 intro w os;kernel_rfl
set_option maxRecDepth 1000000 in
theorem z4Q:∀ (w:World)(os:OsState),(zfM w (w.withFollow "special-get-raises" false) os).map (fun s=>seenQ s.abs)=some (W.openGood qv looseQ):=by
 intro w os;kernel_rfl
set_option maxRecDepth 1000000 in
theorem z51:∀ (w:World)(os:OsState),(zfM w (w.withFollow "special-get-raises" true) os).map (fun s=>(zdV w s,obsS askQ s.abs))=some (true,valS askQ (w.withFollow "special-get-raises" true)):=by
 intro w os;kernel_rfl
set_option maxRecDepth 1000000 in
theorem z4Z:∀ (w:World)(os:OsState),(zfM w (w.withFollow "special-get-raises" true) os).map (fun s=>seenQ s.abs)=some (W.openGood qv looseQ):=by
 intro w os;kernel_rfl
end K71
namespace L2
open PySem.Spec
abbrev Key:=Sum Int Str
def z5J:Key->Value->Bool
 | .inl k,v=>Value.isInt k v | .inr x,v=>Value.isStrOf x v
def zib(w:World):Key->Int
 | .inl k=>hashInt k | .inr x=>hashStr w x
theorem zZ:∀ {k:Key} {v:Value},z5J k v=true->(∃ i t,k=Sum.inl i/\v=Value.int i t)\/(∃ x t,k=Sum.inr x/\v=Value.str x t)
 | .inl i,v,h=>by
  obtain ⟨t,e⟩:=Value.isInt_shape (k:=i) (v:=v) h;exact .inl ⟨i,t,rfl,e⟩ | .inr x,v,h=>by
  obtain ⟨t,e⟩:=Value.isStrOf_shape (x:=x) (v:=v) h;exact .inr ⟨x,t,rfl,e⟩
theorem z0I(x:Str)(t:Tok):z5J (.inr x) (.str x t)=true:=by simp [z5J,Value.isStrOf]
theorem zeB(a b:Int):decide ((Sum.inl a:Key)=Sum.inl b)=(a==b):=by
 by_cases e:a=b;·subst e;simp
 ·have h:¬ (Sum.inl a:Key)=Sum.inl b:=fun q=>e (Sum.inl.inj q);rw [decide_eq_false h];exact (beq_eq_false_iff_ne.mpr e).symm
theorem zdO(a b:Str):decide ((Sum.inr a:Key)=Sum.inr b)=decide (a=b):=by
 by_cases e:a=b;·subst e;simp
 ·have h:¬ (Sum.inr a:Key)=Sum.inr b:=fun q=>e (Sum.inr.inj q);rw [decide_eq_false h,decide_eq_false e]
theorem zdR(a:Int)(b:Str):decide ((Sum.inl a:Key)=Sum.inr b)=false:=decide_eq_false (fun q=>nomatch q)
theorem zeW(a:Str)(b:Int):decide ((Sum.inr a:Key)=Sum.inl b)=false:=decide_eq_false (fun q=>nomatch q)
def yI(prog:Program)(w:World):PySem.KeyKind prog w Key where
 is:=z5J;hash:=zib w;inj:=fun v a b ha hb=>by
  rcases zZ ha with ⟨i,t,rfl,rfl⟩ | ⟨x,t,rfl,rfl⟩
  ·rcases zZ hb with ⟨j,u,rfl,e⟩ | ⟨y,u,rfl,e⟩;·injection e with e1 _;rw [e1]
   ·exact nomatch e
  ·rcases zZ hb with ⟨j,u,rfl,e⟩ | ⟨y,u,rfl,e⟩;·exact nomatch e
   ·injection e with e1 _;rw [e1]
 byValue:=fun k v h=>by rcases zZ h with ⟨i,t,rfl,rfl⟩ | ⟨x,t,rfl,rfl⟩<;>rfl
 pyHash:=fun hv h=>by
  rcases zZ hv with ⟨i,t,rfl,rfl⟩ | ⟨x,t,rfl,rfl⟩;·exact wpAny_pyHash_int h
  ·exact wpAny_pyHash_str h
 eqBool:=fun hu hv h=>by
  rcases zZ hu with ⟨i,t,rfl,rfl⟩ | ⟨x,t,rfl,rfl⟩
  ·rcases zZ hv with ⟨j,u,rfl,rfl⟩ | ⟨y,u,rfl,rfl⟩;·rw [zeB] at h;exact wpAny_eqBool_int h
   ·rw [zdR] at h;exact SeqAt.EqAt.int_str i t y u _ _ _ _ h
  ·rcases zZ hv with ⟨j,u,rfl,rfl⟩ | ⟨y,u,rfl,rfl⟩;·rw [zeW] at h;exact SeqAt.EqAt.str_int x t j u _ _ _ _ h
   ·rw [zdO] at h;exact wpAny_eqBool_str h
 «strs» := fun k x t v h=>by
  rcases zZ h with ⟨i,u,rfl,e⟩ | ⟨y,u,rfl,e⟩;·exact nomatch e
  ·injection e with e1 _;subst e1;cases v<;>rfl
theorem z2b(prog:Program)(w:World)(k:Key)(v:Value):(yI prog w).is k v=z5J k v:=rfl
theorem z5P(prog:Program)(w:World)(x:Str)(t:Tok):(yI prog w).is (.inr x) (.str x t)=true:=z0I x t
inductive V where | non | bl (b:Bool) | int (i:Int) | str (x:Str) | byt (b:Array UInt8) | flt (b:UInt64) | ref (a:Addr) | ty (n:String) deriving DecidableEq
def xo:V->Value->Prop
 | .non,u=>u=Value.none | .bl b,u=>u=Value.bool b | .int i,u=>∃ t,u=Value.int i t | .str x,u=>∃ t,u=Value.str x t | .byt b,u=>∃ t,u=Value.bytes b t | .flt b,u=>∃ t,u=Value.float b t | .ref a,u=>u=Value.ref a | .ty n,u=>u=Value.type n
abbrev yG:List V->List Value->Prop:=Paired xo
theorem yG.length{xs:List V}{us:List Value}(r:yG xs us):xs.length=us.length:=Paired.length r
theorem yG.get:∀ {xs:List V} {us:List Value} {i:Nat} {x:V},yG xs us->xs[i]? = some x->∃ u,us[i]? = some u/\xo x u
 | _,_,_,_,.nil,e=>by simp at e | _,_,0,_,.cons r _,e=>by simp at e;subst e;exact ⟨_,rfl,r⟩ | _,_,i+1,x,.cons _ t,e=>by
  obtain ⟨u,h1,h2⟩:=yG.get (i:=i) (x:=x) t (by simpa using e);exact ⟨u,by simpa using h1,h2⟩
theorem yG.set{x:V}{u:Value}(r:xo x u):∀ {xs:List V}{us:List Value}(i:Nat),yG xs us->yG (xs.set i x) (us.set i u)
 | _,_,_,.nil=>.nil | _,_,0,.cons _ t=>.cons r t | _,_,i+1,.cons q t=>.cons q (yG.set r i t)
theorem yG.append:∀ {xs ys:List V}{us ws:List Value},yG xs us->yG ys ws->yG (xs++ys) (us++ws)
 | _,_,_,_,.nil,s=>s | _,_,_,_,.cons r t,s=>.cons r (yG.append t s)
theorem yG.take:∀ {xs:List V}{us:List Value}(n:Nat),yG xs us->yG (xs.take n) (us.take n)
 | _,_,0,_=>.nil | _,_,_+1,.nil=>.nil | _,_,n+1,.cons r t=>.cons r (yG.take n t)
theorem yG.drop:∀ {xs:List V}{us:List Value}(n:Nat),yG xs us->yG (xs.drop n) (us.drop n)
 | _,_,0,r=>r | _,_,_+1,.nil=>.nil | _,_,n+1,.cons _ t=>yG.drop n t
def zh2:Option V->Option Value->Prop
 | some v,some u=>xo v u | none,none=>True | _,_=>False
def KV{κ:Type}:List (κ×V)->List (κ×Value)->Prop:=Paired fun (p:κ×V)(q:κ×Value)=>p.1=q.1/\xo p.2 q.2
def kV:Key->V
 | .inl i=>.int i | .inr x=>.str x
inductive HO where | lst (xs:List V) | tup (xs:List V) | dK (kvs:List (Key×V)) | dT (kvs:List (List Key×V)) | set (S:Int->Bool)(n:Nat) | ins (C dx:Addr)(fs:List (Str×V)) | own (x:Addr) | xd (fs:List (Str×V)) | met (f x:Addr) | rng (lo hi:Int) | frz (o:Obj)(u:HO) | tbl (ps:Array Value) | ext (φ:Heap->Prop)
abbrev Hp:=Addr->Option HO
def upd(H:Hp)(a:Addr)(o:HO):Hp:=fun b=>if b=a then some o else H b
theorem yy{H:Hp}{a:Addr}{o:HO}:upd H a o a=some o:=by unfold upd;rw [if_pos rfl]
theorem zC{H:Hp}{a b:Addr}{o:HO}(h:b≠a):upd H a o b=H b:=by unfold upd;rw [if_neg h]
theorem zbU{H:Hp}{a:Addr}{o u:HO}:upd (upd H a o) a u=upd H a u:=by funext b;unfold upd;split<;>rfl
theorem yo{H:Hp}{a b:Addr}{o:HO}(h:H a=some o)(h':H b=none):a≠b:=by intro e;subst e;rw [h] at h';cases h'
def z9C(h:Heap)(a:Addr)(items:Array Value):Prop:=∃ o,h.get? a=some o/\o.cls=.type "tuple"/\o.dict=none/\∃ n,o.data=.seq items n
theorem z9C.tup{h:Heap}{a:Addr}{items:Array Value}(x:z9C h a items):IsTup h a items:=let ⟨o,e,c,_,r⟩:=x;⟨o,e,c,r⟩
theorem z9C.new(h:Heap)(items:Array Value):z9C (h.push {cls:=.type "tuple",data:=.seq items}) h.objs.size items:=⟨_,Heap.get?_push_size _ rfl,rfl,rfl,_,rfl⟩
theorem z9C.lt{h:Heap}{a:Addr}{items:Array Value}(x:z9C h a items):a<h.objs.size:=x.tup.lt
section
variable (P:Program)(w:World)
def wS(H:Hp)(h:Heap)(a:Addr):HO->Prop
 | .lst xs=>xs.length<=sizeLine/\∃ (its:List Value)(n:Nat),yG xs its/\h.get? a=some {cls:=.type "list",data:=.seq its.toArray n} | .tup xs=>xs.length<=sizeLine/\∃ its:List Value,yG xs its/\z9C h a its.toArray | .dK kvs=>kvs.length<=sizeLine/\(a==sysModules)=false/\∃ vs,KV kvs vs/\h.DictOf (yI P w) a vs | .dT kvs=>kvs.length<=sizeLine/\(a==sysModules)=false/\∃ xs:List (List Key×Addr×Value), Paired (fun (p:List Key×V)(q:List Key×Addr×Value)=>p.1=q.1/\H q.2.1=some (.tup (p.1.map kV))/\xo p.2 q.2.2) kvs xs/\ ∃ o es ep,h.get? a=some o/\o.ExactDict/\o.data=.dict es ep/\es.toList=xs.map (entryOfKey (tupleKind (yI P w)))/\(xs.map (·.1)).Nodup | .set S n=>h.SetOf (intKind P w) a S n | .ins C dx fs=>H dx=some (.own a)/\fs.length<=1000/\dx≠a/\h.get? a=some (W.instObj C dx)/\ ∃ mA,h.Ns1 dx mA/\(∀ f,zh2 (fs.lookup f) (mA f))/\PySem.Within mA (fs.map (·.1)) | .own _=>∃ o,h.get? a=some o | .xd fs=>∃ mA,h.Ns1 a mA/\∀ f,zh2 (fs.lookup f) (mA f) | .rng lo hi=>∃ t u v,h.get? a=some {cls:=.type "range",data:=.fields #[.int lo t,.int hi u,.int 1 v]} | .frz o u=>h.get? a=some o/\wS H h a u | .tbl ps=>h.get? a=some {cls:=.none,data:=.fields ps} | .met f x=>h.get? a=some (W.methodObj (.ref f) (.ref x)) | .ext φ=>φ h/\(∃ o,h.get? a=some o)/\∀ h1 h2:Heap,φ h1->(∀ o,h1.get? a=some o->h2.get? a=some o)->φ h2
def HOk(H:Hp)(h:Heap):Prop:=∀ a o,H a=some o->wS P w H h a o
end
section
variable {P:Program}{w:World}{H H':Hp}{h h':Heap}{a:Addr}{o:HO}
theorem wS.lt(x:wS P w H h a o):a<h.objs.size:=by cases o with
 | lst xs=>obtain ⟨_,_,_,_,e⟩:=x;exact Heap.lt_size e | tup xs=>obtain ⟨_,_,_,p⟩:=x;exact p.lt | dK kvs=>obtain ⟨_,_,_,_,o,_,_,e,_⟩:=x;exact Heap.lt_size e | dT kvs=>obtain ⟨_,_,_,_,o,_,_,e,_⟩:=x;exact Heap.lt_size e | set S n=>obtain ⟨o,_,_,_,e,_⟩:=x;exact Heap.lt_size e | ins C dx fs=>obtain ⟨_,_,_,e,_⟩:=x;exact Heap.lt_size e | own y=>obtain ⟨_,e⟩:=x;exact Heap.lt_size e | xd fs=>obtain ⟨_,⟨_,_,_,e,_⟩,_⟩:=x;exact Heap.lt_size e | rng lo hi=>obtain ⟨_,_,_,e⟩:=x;exact Heap.lt_size e | frz ob u=>obtain ⟨e,_⟩:=x;exact Heap.lt_size e | tbl ps=>exact Heap.lt_size (show h.get? a=some _ from x) | met f y=>exact Heap.lt_size (show h.get? a=some _ from x) | ext φ=>obtain ⟨_,⟨_,e⟩,_⟩:=x;exact Heap.lt_size e
theorem Paired.mapP{α β:Type}{F G:α->β->Prop}:∀ {l₁:List α}{l₂:List β},Paired F l₁ l₂->(∀ a b,F a b->G a b)->Paired G l₁ l₂
 | _,_,.nil,_=>.nil | _,_,.cons r t,f=>.cons (f _ _ r) (Paired.mapP t f)
theorem wS.stay(x:wS P w H h a o)(k:∀ b u,(b=a\/H b=some (.own a))->h.get? b=some u->h'.get? b=some u) (ho:∀ b,H b=some (.own a)->H' b=some (.own a))(ht:∀ b xs,H b=some (.tup xs)->H' b=some (.tup xs)):wS P w H' h' a o:=by induction o with
 | lst xs=>obtain ⟨z,its,n,r,e⟩:=x;exact ⟨z,its,n,r,k _ _ (.inl rfl) e⟩ | tup xs=>obtain ⟨z,its,r,ob,e,c⟩:=x;exact ⟨z,its,r,ob,k _ _ (.inl rfl) e,c⟩ | dK kvs=>obtain ⟨z,y,vs,r,ob,es,ep,e,c⟩:=x;exact ⟨z,y,vs,r,ob,es,ep,k _ _ (.inl rfl) e,c⟩ | dT kvs=>
  obtain ⟨z,y,xs,r,ob,es,ep,e,c⟩:=x;exact ⟨z,y,xs,Paired.mapP r fun p q z=>⟨z.1,ht _ _ z.2.1,z.2.2⟩,ob,es,ep,k _ _ (.inl rfl) e,c⟩ | set S n=>obtain ⟨ob,es,ep,t,e,c⟩:=x;exact ⟨ob,es,ep,t,k _ _ (.inl rfl) e,c⟩ | ins C dx fs=>
  obtain ⟨d,z,ne,e,mA,⟨od,es,ep,e2,c⟩,r⟩:=x;exact ⟨ho _ d,z,ne,k _ _ (.inl rfl) e,mA,⟨od,es,ep,k _ _ (.inr d) e2,c⟩,r⟩ | own y=>obtain ⟨ob,e⟩:=x;exact ⟨ob,k _ _ (.inl rfl) e⟩ | xd fs=>obtain ⟨mA,⟨od,es,ep,e,c⟩,r⟩:=x;exact ⟨mA,⟨od,es,ep,k _ _ (.inl rfl) e,c⟩,r⟩ | rng lo hi=>obtain ⟨t,u,v,e⟩:=x;exact ⟨t,u,v,k _ _ (.inl rfl) e⟩ | frz ob u ih=>obtain ⟨e,q⟩:=x;exact ⟨k _ _ (.inl rfl) e,ih q⟩ | tbl ps=>
  have e:h.get? a=some {cls:=.none,data:=.fields ps}:=x;show h'.get? a=some {cls:=.none,data:=.fields ps};exact k a _ (.inl rfl) e | met f y=>
  have e:h.get? a=some (W.methodObj (.ref f) (.ref y)):=x;show h'.get? a=some (W.methodObj (.ref f) (.ref y));exact k a _ (.inl rfl) e | ext φ=>obtain ⟨p,⟨o,e⟩,st⟩:=x;exact ⟨st _ _ p fun o q=>k _ _ (.inl rfl) q,⟨o,k _ _ (.inl rfl) e⟩,st⟩
theorem HOk.lt(x:HOk P w H h)(e:H a=some o):a<h.objs.size:=(x a o e).lt
theorem HOk.fresh(x:HOk P w H h)(e:h.objs.size<=a):H a=none:=by cases q:H a with
 | none=>rfl | some u=>exact absurd (Nat.lt_of_lt_of_le (x.lt q) e) (Nat.lt_irrefl _)
theorem HOk.kept(x:HOk P w H h)(k:∀ b u,h.get? b=some u->h'.get? b=some u):HOk P w H h':=fun a o e=> (x a o e).stay (fun b u _ q=>k b u q) (fun _ q=>q) fun _ _ q=>q
theorem HOk.laid(x:HOk P w H h)(k:∀ b u,h.get? b=some u->h'.get? b=some u)(hp:h.objs.size<=a)(new:wS P w (upd H a o) h' a o):HOk P w (upd H a o) h':=fun b u e=>by
 have hn:=x.fresh hp;by_cases hb:b=a;·subst hb;rw [yy] at e;cases e;exact new
 ·rw [zC hb] at e;exact (x b u e).stay (fun c v _ q=>k c v q) (fun c q=>by rw [zC (yo q hn)];exact q) fun c xs q=>by rw [zC (yo q hn)];exact q
end
def Rd(H:Hp)(a:Addr)(u:HO):Prop:=H a=some u\/∃ o,H a=some (.frz o u)
theorem Rd.ok{P:Program}{w:World}{H:Hp}{h:Heap}{a:Addr}{u:HO}(r:Rd H a u)(x:HOk P w H h):wS P w H h a u:=by
 rcases r with r | ⟨o,r⟩;·exact x a u r
 ·obtain ⟨_,q⟩:=x a _ r;exact q
def Mut:Option HO->Prop
 | some (.lst _)=>True | some (.dK _)=>True | some (.dT _)=>True | some (.set _ _)=>True | some (.ins _ _ _)=>True | some (.ext _)=>True | _=>False
section
variable {P:Program}{w:World}{H:Hp}{h h':Heap}{x e:Addr}{o':HO}
theorem HOk.write(ok:HOk P w H h)(mu:Mut (H x))(he:e=x\/H e=some (.own x))(k:∀ b u,b≠e->h.get? b=some u->h'.get? b=some u)(heo:∃ u,h'.get? e=some u) (new:wS P w (upd H x o') h' x o'):HOk P w (upd H x o') h':=fun b u q=>by
 have nown:∀ c y,H c=some (.own y)->c≠x:=fun c y r z=>by subst z;rw [r] at mu;exact mu
 have ntup:∀ c xs,H c=some (.tup xs)->c≠x:=fun c xs r z=>by subst z;rw [r] at mu;exact mu
 by_cases hb:b=x;·subst hb;rw [yy] at q;cases q;exact new
 ·rw [zC hb] at q;by_cases hbe:b=e
  ·have q':H b=some (.own x):=by
    rcases he with z | z;·exact absurd (hbe.trans z) hb
    ·rw [hbe];exact z
   rw [q] at q';cases q';obtain ⟨v,hv⟩:=heo;exact ⟨v,by rw [hbe];exact hv⟩
  ·refine (ok b u q).stay (fun c v hc r=>k c v ?_ r) (fun c r=>by rw [zC (nown c b r)];exact r) fun c xs r=>by rw [zC (ntup c xs r)];exact r
   rcases hc with rfl | hc;·exact hbe
   ·rintro rfl;rcases he with z | z;·exact nown c b hc z
    ·rw [hc] at z;cases z;exact hb rfl
end
structure Un(fs ex:List Addr)(H H':Hp)(h h':Heap):Prop where
 keep:∀ b o,h.get? b=some o->H b=none->b∉fs->b∉ex->h'.get? b=some o
 slot:∀ b o,h.get? b=some o->H b=none->b∈fs->b∉ex->∃ sl,h'.get? b=some {o with slots:=sl}
 free:∀ b o,h.get? b=some o->H b=none->b∉ex->H' b=none
 there:∀ b o,h.get? b=some o->b∉ex->∃ o',h'.get? b=some o'
 tups:∀ b xs,H b=some (.tup xs)->H' b=some (.tup xs)
 frzs:∀ b o u,H b=some (.frz o u)->H' b=some (.frz o u)
 tbls:∀ b ps,H b=some (.tbl ps)->∃ more,H' b=some (.tbl (ps++more))
section
variable {fs fs' ex ex':List Addr}{H H1 H2:Hp}{h h1 h2 h':Heap}{a x e:Addr}{o:HO}
theorem Un.any(u:Un fs ex H H1 h h1){b:Addr}{ob:Obj}(q:h.get? b=some ob)(n:H b=none)(hx:b∉ex):∃ sl,h1.get? b=some {ob with slots:=sl}:=by
 by_cases hb:b∈fs;·exact u.slot b ob q n hb hx
 ·exact ⟨ob.slots,u.keep b ob q n hb hx⟩
theorem Un.kept(k:∀ b u,h.get? b=some u->h'.get? b=some u):Un fs ex H H h h':= ⟨fun b ob q _ _ _=>k b ob q,fun b ob q _ _ _=>⟨ob.slots,k b ob q⟩,fun _ _ _ n _=>n,fun b ob q _=>⟨ob,k b ob q⟩,fun _ _ q=>q,fun _ _ _ q=>q,fun _ ps q=>⟨#[],by rw [q];simp⟩⟩
theorem Un.refl:Un fs ex H H h h:=Un.kept fun _ _ q=>q
theorem Un.laid(k:∀ b u,h.get? b=some u->h'.get? b=some u)(hp:h.objs.size<=a)(hn:H a=none):Un fs ex H (upd H a o) h h' where
 keep:=fun b u q _ _ _=>k b u q;slot:=fun b u q _ _ _=>⟨u.slots,k b u q⟩;free:=fun b u q n _=>by rw [zC (Nat.ne_of_lt (Nat.lt_of_lt_of_le (Heap.lt_size q) hp))];exact n
 there:=fun b u q _=>⟨u,k b u q⟩;tups:=fun b xs q=>by rw [zC (yo q hn)];exact q
 frzs:=fun b u xs q=>by rw [zC (yo q hn)];exact q
 tbls:=fun b ps q=>⟨#[],by rw [zC (yo q hn),q];simp⟩
theorem Un.write(mu:Mut (H x))(he:e=x\/H e=some (.own x))(k:∀ b u,b≠e->h.get? b=some u->h'.get? b=some u)(heo:∃ u,h'.get? e=some u):Un fs ex H (upd H x o) h h':=by
 have hx:∀ b,H b=none->b≠x:=fun b n z=>by subst z;rw [n] at mu;exact mu
 have hb:∀ b,H b=none->b≠e:=fun b n z=>by
  subst z;rcases he with r | r;·exact hx b n r
  ·rw [n] at r;cases r
 have hm:∀ b u,H b=some u->¬ Mut (some u)->b≠x:=fun b u q nm z=>by subst z;rw [q] at mu;exact nm mu
 refine ⟨fun b u q n _ _=>k b u (hb b n) q,fun b u q n _ _=>⟨u.slots,k b u (hb b n) q⟩,fun b u q n _=>by rw [zC (hx b n)];exact n,fun b u q _=>?_, fun b xs q=>by rw [zC (hm b _ q fun z=>z)];exact q,fun b u xs q=>by rw [zC (hm b _ q fun z=>z)];exact q,fun b ps q=>⟨#[],by rw [zC (hm b _ q fun z=>z),q];simp⟩⟩;by_cases hbe:b=e;·subst hbe;exact heo
 ·exact ⟨u,k b u hbe q⟩
end
def trk(h:Heap)(H:Hp):List Addr:=(List.range h.objs.size).filter fun a=>(H a).isSome
def zaK(h:Heap)(H:Hp):Heap:=W.hideAll h (trk h H)
theorem z8W(h:Heap)(H:Hp):(zaK h H).objs.size=h.objs.size:=W.hideAll_size _ _
theorem zaL{h:Heap}{H:Hp}{b:Addr}{o:Obj}(e:h.get? b=some o)(n:H b=none):(zaK h H).get? b=some o:= W.hideAll_get _ e fun hm=>by
  have q:(H b).isSome=true:=(List.mem_filter.mp hm).2;rw [n] at q;simp at q
theorem zd6{h:Heap}{H:Hp}{b:Addr}{o:Obj}(e:(zaK h H).get? b=some o):h.get? b=some o/\H b=none:=by
 have e':h.get? b=some o:=W.of_hideAll (trk h H) e;refine ⟨e',?_⟩;cases q:H b with
 | none=>rfl | some x=>
  have hm:b∈trk h H:=List.mem_filter.mpr ⟨List.mem_range.mpr (Heap.lt_size e'),by simp [q]⟩;have z:(zaK h H).get? b=none:=W.hideAll_none (trk h H) hm;rw [z] at e;cases e
def zcD(g h:Heap)(L:Addr):List (Addr×Obj):=(List.range h.objs.size).filterMap fun a=>if a=L\/(g.get? a).isSome=true then none else (h.get? a).map fun o=>(a,o)
def z08(g h:Heap)(L d:Addr):List (Addr×Obj):=(zcD g h L).filter fun p=>decide (p.1≠d)
structure Mod(K:W.Frag)(mg:Str->Option Value)(base:Heap):Prop where
 kin:K.In base
 glob:base.Ns mainGlobals mg
 blt:∃ mb,base.Ns builtinsNs mb/\∀ x:Str,x≠"__name__"->mb x=bootBuiltins x
 nolimit:base.NoLimit
structure Cx where
 prog:Program
 w:World
 K:W.Frag
 mg:Str->Option Value
 base:Heap
 A:Around
 N:List Str
 s₀:Shared
 H₀:Hp
 env:Env
 outer:List Env
 stack:List Env
 ex:List Addr
 fn:Str->Bool
 calm:Bool
 pn:List (Addr×Obj)
 xe:Value->Shared->Prop
def frs(l:List Env):List Addr:=l.filterMap (·.frame)
abbrev Cx.fs(X:Cx):List Addr:=frs X.outer
def Vis(sc:Scope)(x:Str):Prop:=sc.names.lookup x=some .local\/sc.names.lookup x=some .cell\/sc.names.lookup x=some .free
def Loc(sc:Scope)(x:Str):Prop:=sc.names.lookup x=some .local\/sc.names.lookup x=some .cell
def ziu(env:Env)(h:Heap)(m:Str->Option Value)(x:Str)(u:Value):Prop:= (env.kindOf x=some .local/\m x=some u)\/((env.kindOf x=some .cell\/env.kindOf x=some .free)/\∃ c,env.cells.lookup x=some c/\h.IsCell c (some u))
structure Cx.Ok(X:Cx):Prop where
 mod:Mod X.K X.mg X.base
 kind:X.env.scope.kind=.function
 glob:X.env.globals=mainGlobals
 blt:X.env.builtins=builtinsNs
 above:X.s₀.heap.objs.size<=X.env.locals
 inj:∀ x y c,X.env.cells.lookup x=some c->X.env.cells.lookup y=some c->x=y
 has:∀ x,(X.env.kindOf x=some .cell\/X.env.kindOf x=some .free)->∃ c,X.env.cells.lookup x=some c
 cab:∀ x c,X.fn x=true->X.env.cells.lookup x=some c->X.s₀.heap.objs.size<=c
 hd:X.calm=true->X.A.handled=none
 frames:X.A.frames=some X.stack
 stk:X.stack=X.outer\/(X.stack=X.env::X.outer/\X.env.frame=some X.env.locals)
 exf:∀ b∈X.ex,b≠X.env.locals/\∀ x c,X.env.cells.lookup x=some c->c≠b
 bs:∀ b o,X.base.get? b=some o->X.s₀.heap.get? b=some o/\X.H₀ b=none
 bsz:X.base.objs.size<=X.s₀.heap.objs.size
 noex:∀ b o,X.base.get? b=some o->b∉X.ex
 exfs:∀ b∈X.ex,b∉X.fs
 funs:X.s₀.heap.FunFrames X.base X.outer
 frf:∀ b∈X.fs,X.H₀ b=none
structure Inv(X:Cx)(pins:List (Addr×Obj))(O:List (Option V))(H:Hp)(s:Shared):Prop where
 ok:X.Ok
 os:s.os=X.s₀.os
 bare:AllBare s.gens
 base:Un X.fs X.ex X.H₀ H X.s₀.heap s.heap
 loc:∃ m,s.heap.Ns X.env.locals m/\∀ (i:Nat)(x:Str)(v:V),X.N[i]? = some x->O[i]? = some (some v)->Vis X.env.scope x->∃ u,xo v u/\ziu X.env s.heap m x u
 cell:∀ x c,X.env.cells.lookup x=some c->∃ v,s.heap.IsCell c v
 free:H X.env.locals=none
 freeC:∀ x c,X.env.cells.lookup x=some c->H c=none
 pin:∀ p∈X.pn++pins,s.heap.get? p.1=some p.2/\H p.1=none/\p.1≠X.env.locals/\p.1∉X.fs/\∀ v,p.2.data≠.cell v
 hok:HOk X.prog X.w H s.heap
 len:O.length=X.N.length
section
variable {X:Cx}{pins:List (Addr×Obj)}{O:List (Option V)}{H H':Hp}{s:Shared}{h':Heap}
theorem Cx.Ok.nofr(ok:X.Ok){b:Addr}{o:Obj}(e:X.base.get? b=some o):b∉X.fs:=fun hb=>by
 have:=(ok.funs.mem hb).1;rw [e] at this;cases this
theorem Inv.bs(I:Inv X pins O H s):∀ b o,X.base.get? b=some o->s.heap.get? b=some o/\H b=none:=fun b o e=> ⟨I.base.keep b o (I.ok.bs b o e).1 (I.ok.bs b o e).2 (I.ok.nofr e) (I.ok.noex b o e),I.base.free b o (I.ok.bs b o e).1 (I.ok.bs b o e).2 (I.ok.noex b o e)⟩
theorem Inv.bk(I:Inv X pins O H s):∀ b o,X.base.get? b=some o->s.heap.get? b=some o:=fun b o e=>(I.bs b o e).1
theorem Inv.mod(I:Inv X pins O H s):Mod X.K X.mg X.base:=I.ok.mod
theorem Inv.kIn(I:Inv X pins O H s):X.K.In s.heap:=I.ok.mod.kin.keeps I.bk
theorem Inv.fr(I:Inv X pins O H s):∃ m,Fr X.base X.env.locals s.heap m:= let ⟨m,hn,_⟩:=I.loc;⟨m,hn,I.bk,Nat.le_trans I.ok.bsz I.ok.above⟩
theorem Inv.lt(I:Inv X pins O H s):X.env.locals<s.heap.objs.size:=let ⟨_,hn,_⟩:=I.loc;hn.lt
theorem Inv.sz(I:Inv X pins O H s):X.s₀.heap.objs.size<=s.heap.objs.size:=Nat.le_trans I.ok.above (Nat.le_of_lt I.lt)
theorem Inv.nofs(I:Inv X pins O H s){a:Addr}(h:s.heap.objs.size<=a):a∉X.fs:=fun hb=>by
 obtain ⟨_,o,ho,_⟩:=I.ok.funs.mem hb;exact absurd (Nat.lt_of_lt_of_le (Heap.lt_size ho) (Nat.le_trans I.sz h)) (Nat.lt_irrefl _)
theorem Inv.cne(I:Inv X pins O H s):∀ x c,X.env.cells.lookup x=some c->c≠X.env.locals:=fun x c e z=>by
 obtain ⟨v,o,ho,hd⟩:=I.cell x c e;obtain ⟨m,⟨o',es,ep,ho',hd',_⟩,_⟩:=I.loc;rw [z,ho'] at ho;cases ho;rw [hd'] at hd;cases hd
theorem Inv.funs(I:Inv X pins O H s):s.heap.FunFrames X.base X.outer:=by
 have all:∀ (l:List Env),(∀ b∈frs l,b∈X.fs)->X.s₀.heap.FunFrames X.base l->s.heap.FunFrames X.base l:=by
  intro l;induction l with
  | nil=>intro _ _;trivial | cons env r ih=>
   intro hs hl;obtain ⟨hk,⟨L,o,hf,hn,ho,hd⟩,hr⟩:=hl;have hL:L∈X.fs:=hs L (by unfold frs;rw [List.filterMap_cons,hf];exact List.mem_cons_self);obtain ⟨sl,e⟩:=I.base.slot L o ho (I.ok.frf L hL) hL fun z=>I.ok.exfs L z hL;exact ⟨hk,⟨L,_,hf,hn,e,hd⟩,ih (fun b hb=>hs b (by unfold frs;rw [List.filterMap_cons,hf];exact List.mem_cons_of_mem _ hb)) hr⟩
 exact all X.outer (fun _ hb=>hb) I.ok.funs
theorem Inv.stack(I:Inv X pins O H s):s.heap.FunFrames X.base X.stack:=by
 rcases I.ok.stk with e | ⟨e,hf⟩;·rw [e];exact I.funs
 ·rw [e];obtain ⟨m,hn,_⟩:=I.loc;refine .cons (by rw [I.ok.kind];decide) hf hn ?_ I.funs;exact Heap.get?_none_of_le (Nat.le_trans I.ok.bsz I.ok.above)
theorem Inv.stkSub(I:Inv X pins O H s):∀ b∈frs X.stack,b∈X.env.locals::X.fs:=fun b hb=>by
 rcases I.ok.stk with e | ⟨e,hf⟩;·rw [e] at hb;exact List.mem_cons_of_mem _ hb
 ·rw [e] at hb;unfold frs at hb;rw [List.filterMap_cons,hf] at hb;exact hb
theorem Inv.stkFree(I:Inv X pins O H s):∀ b∈frs X.stack,H b=none:=fun b hb=>by
 rcases List.mem_cons.mp (I.stkSub b hb) with e | hb;·rw [e];exact I.free
 ·obtain ⟨_,o,ho,_⟩:=I.ok.funs.mem hb;exact I.base.free b o ho (I.ok.frf b hb) fun z=>I.ok.exfs b z hb
theorem Inv.step{g':Array GenState}{t':Nat}{d':Drawn}{ch:List Addr}(I:Inv X pins O H s) (hch:∀ b∈ch,(b∈X.ex\/X.s₀.heap.objs.size<=b)/\b≠X.env.locals/\(∀ x c,X.env.cells.lookup x=some c->c≠b)/\∀ p∈X.pn++pins,p.1≠b) (keep:∀ b o,b≠X.env.locals->b∉X.fs->b∉ch->s.heap.get? b=some o->H b=none->h'.get? b=some o) (slot:∀ b o,b≠X.env.locals->b∈X.fs->b∉ch->s.heap.get? b=some o->H b=none->∃ sl,h'.get? b=some {o with slots:=sl})(free:∀ b o,b∉ch->s.heap.get? b=some o->H b=none->H' b=none) (there:∀ b o,b∉ch->s.heap.get? b=some o->∃ o',h'.get? b=some o') (tups:∀ b xs,H b=some (.tup xs)->H' b=some (.tup xs))(frzs:∀ b o u,H b=some (.frz o u)->H' b=some (.frz o u))(tbls:∀ b ps,H b=some (.tbl ps)->∃ more,H' b=some (.tbl (ps++more))) (ns:∀ m,s.heap.Ns X.env.locals m->h'.Ns X.env.locals m)(hok:HOk X.prog X.w H' h')(hg:AllBare g'): Inv X pins O H' {s with heap:=h',gens:=g',drawn:=d',toks:=t'}:=by
 have neL:∀ b o,X.s₀.heap.get? b=some o->b≠X.env.locals:=fun b o e=>Nat.ne_of_lt (Nat.lt_of_lt_of_le (Heap.lt_size e) I.ok.above);have neC:∀ b o,X.s₀.heap.get? b=some o->b∉X.ex->b∉ch:=fun b o e hx hb=>by
  rcases (hch b hb).1 with z | z;·exact hx z
  ·exact absurd (Nat.lt_of_lt_of_le (Heap.lt_size e) z) (Nat.lt_irrefl _)
 have cellK:∀ x c,X.env.cells.lookup x=some c->∀ v,s.heap.IsCell c v->h'.IsCell c v:=fun x c e v ⟨o,ho,hd⟩=>by
  have nch:c∉ch:=fun z=>(hch c z).2.2.1 x c e rfl;by_cases hc:c∈X.fs
  ·obtain ⟨sl,q⟩:=slot c o (I.cne x c e) hc nch ho (I.freeC x c e);exact ⟨_,q,hd⟩
  ·exact ⟨o,keep c o (I.cne x c e) hc nch ho (I.freeC x c e),hd⟩
 refine ⟨I.ok,I.os,hg,⟨fun b o e n hb hx=>?_,fun b o e n hb hx=>?_,fun b o e n hx=>?_,fun b o e hx=>?_,fun b xs e=>tups b xs (I.base.tups b xs e),fun b o xs e=>frzs b o xs (I.base.frzs b o xs e),fun b ps e=>?_⟩,?_,fun x c e=>?_,?_,fun x c e=>?_,fun p hp=>?_,hok,I.len⟩;·exact keep b o (neL b o e) hb (neC b o e hx) (I.base.keep b o e n hb hx) (I.base.free b o e n hx)
 ·obtain ⟨sl,e1⟩:=I.base.slot b o e n hb hx;obtain ⟨sl',e2⟩:=slot b _ (neL b o e) hb (neC b o e hx) e1 (I.base.free b o e n hx);exact ⟨sl',e2⟩
 ·obtain ⟨o',e1⟩:=I.base.there b o e hx;exact free b o' (neC b o e hx) e1 (I.base.free b o e n hx)
 ·obtain ⟨o',e1⟩:=I.base.there b o e hx;exact there b o' (neC b o e hx) e1
 ·obtain ⟨m1,e1⟩:=I.base.tbls b ps e;obtain ⟨m2,e2⟩:=tbls b _ e1;exact ⟨m1++m2,by rw [e2,Array.append_assoc]⟩
 ·obtain ⟨m,hn,hl⟩:=I.loc;refine ⟨m,ns m hn,fun i x v e1 e2 e3=>?_⟩;obtain ⟨u,r,l⟩:=hl i x v e1 e2 e3;refine ⟨u,r,?_⟩;rcases l with l | ⟨k,c,e,z⟩;·exact .inl l
  ·exact .inr ⟨k,c,e,cellK x c e _ z⟩
 ·obtain ⟨v,z⟩:=I.cell x c e;exact ⟨v,cellK x c e v z⟩
 ·obtain ⟨m,⟨o,_,_,ho,_⟩,_⟩:=I.loc;exact free _ o (fun z=>(hch _ z).2.1 rfl) ho I.free
 ·obtain ⟨v,o,ho,hd⟩:=I.cell x c e;exact free c o (fun z=>(hch c z).2.2.1 x c e rfl) ho (I.freeC x c e)
 ·obtain ⟨e,n,ne,nf,d⟩:=I.pin p hp;have nch:p.1∉ch:=fun z=>(hch p.1 z).2.2.2 p hp rfl;exact ⟨keep p.1 p.2 ne nf nch e n,free p.1 p.2 nch e n,ne,nf,d⟩
theorem Inv.un {t':Nat} (I:Inv X pins O H s) (u:Un X.fs [] H H' s.heap h') (hok:HOk X.prog X.w H' h'):Inv X pins O H' {s with heap:=h',toks:=t'}:=by
 obtain ⟨m,⟨o,es,ep,ho,r⟩,_⟩:=id I.loc;obtain ⟨sl,hL⟩:=u.any ho I.free (by simp);exact I.step (g':=s.gens) (d':=s.drawn) (ch:=[]) (fun _ z=>nomatch z) (fun b o _ hb _ e n=>u.keep b o e n hb (by simp)) (fun b o _ hb _ e n=>u.slot b o e n hb (by simp)) (fun b o _ e n=>u.free b o e n (by simp)) (fun b o _ e=>u.there b o e (by simp)) u.tups u.frzs u.tbls (fun m' hm=>by
  obtain ⟨o',es',ep',ho',r'⟩:=hm;rw [ho] at ho';cases ho';exact ⟨_,es',ep',hL,r'⟩) hok I.bare
theorem Inv.call{g':Array GenState}{t':Nat}{d':Drawn}{ch:List Addr}(I:Inv X pins O H s)(u:Un (frs X.stack) ch H H' s.heap h')(hok:HOk X.prog X.w H' h')(hg:AllBare g') (hch:∀ b∈ch,(b∈X.ex\/X.s₀.heap.objs.size<=b)/\b≠X.env.locals/\(∀ x c,X.env.cells.lookup x=some c->c≠b)/\∀ p∈X.pn++pins,p.1≠b): Inv X pins O H' {s with heap:=h',gens:=g',drawn:=d',toks:=t'}:=by
 obtain ⟨m,⟨o,es,ep,ho,r⟩,_⟩:=id I.loc;obtain ⟨sl,hL⟩:=u.any ho I.free fun z=>(hch _ z).2.1 rfl;exact I.step (ch:=ch) hch (fun b o hL hb hc e n=>u.keep b o e n (fun z=>(List.mem_cons.mp (I.stkSub b z)).elim hL hb) hc) (fun b o _ _ hc e n=>u.any e n hc) (fun b o hc e n=>u.free b o e n hc) (fun b o hc e=>u.there b o e hc) u.tups u.frzs u.tbls (fun m' hm=>by
  obtain ⟨o',es',ep',ho',r'⟩:=hm;rw [ho] at ho';cases ho';exact ⟨_,es',ep',hL,r'⟩) hok hg
theorem Inv.turned {t':Nat} {it:Addr} (I:Inv X pins O H s) (k:∀ b o,b≠it->s.heap.get? b=some o->h'.get? b=some o) (hn:H it=none) (hL:it≠X.env.locals) (h1:it∈X.ex\/X.s₀.heap.objs.size<=it) (h2:∀ x c,X.env.cells.lookup x=some c->c≠it) (h3:∀ p∈X.pn++pins,p.1≠it):Inv X pins O H {s with heap:=h',toks:=t'}:=by
 have nit:∀ b u,H b=some u->b≠it:=fun b u e z=>by rw [z,hn] at e;cases e
 refine I.step (g':=s.gens) (d':=s.drawn) (ch:=[it]) (fun b hb=>?_) (fun b o _ _ hc e _=>k b o (fun z=>hc (by simp [z])) e) (fun b o _ _ hc e _=>⟨o.slots,k b o (fun z=>hc (by simp [z])) e⟩) (fun _ _ _ _ n=>n) (fun b o hc e=>⟨o,k b o (fun z=>hc (by simp [z])) e⟩) (fun _ _ e=>e) (fun _ _ _ e=>e) (fun b ps e=>⟨#[],by rw [e];simp⟩) (fun m hm=>?_) (fun b u e=>?_) I.bare
 ·have e:b=it:=by simpa using hb
  subst e;exact ⟨h1,hL,h2,h3⟩
 ·obtain ⟨o,es,ep,ho,r⟩:=hm;exact ⟨o,es,ep,k _ o (Ne.symm hL) ho,r⟩
 ·refine (I.hok b u e).stay (fun c v hc q=>k c v ?_ q) (fun _ q=>q) fun _ _ q=>q;rcases hc with z | z;·rw [z];exact nit b u e
  ·exact nit c _ z
theorem Inv.tok (I:Inv X pins O H s) (t:Nat):Inv X pins O H {s with toks:=t}:=I.un (h':=s.heap) (t':=t) Un.refl I.hok
theorem Inv.kept{t':Nat}(I:Inv X pins O H s)(k:∀ b u,s.heap.get? b=some u->h'.get? b=some u):Inv X pins O H {s with heap:=h',toks:=t'}:=I.un (Un.kept k) (I.hok.kept k)
theorem Inv.laid {a:Addr} {o:HO} {t':Nat} (I:Inv X pins O H s) (k:∀ b u,s.heap.get? b=some u->h'.get? b=some u) (hp:s.heap.objs.size<=a) (new:wS X.prog X.w (upd H a o) h' a o): Inv X pins O (upd H a o) {s with heap:=h',toks:=t'}:=I.un (Un.laid k hp (I.hok.fresh hp)) (I.hok.laid k hp new)
theorem Inv.write {x e:Addr} {o:HO} {t':Nat} (I:Inv X pins O H s) (mu:Mut (H x)) (he:e=x\/H e=some (.own x)) (k:∀ b u,b≠e->s.heap.get? b=some u->h'.get? b=some u) (heo:∃ u,h'.get? e=some u) (new:wS X.prog X.w (upd H x o) h' x o):Inv X pins O (upd H x o) {s with heap:=h',toks:=t'}:=I.un (Un.write mu he k heo) (I.hok.write mu he k heo new)
theorem Inv.weak{O':List (Option V)}(I:Inv X pins O H s)(hl:O'.length=O.length)(w:∀ (i:Nat) v,O'[i]? = some (some v)->O[i]? = some (some v)):Inv X pins O' H s:= ⟨I.ok,I.os,I.bare,I.base,let ⟨m,hn,hl'⟩:=I.loc;⟨m,hn,fun i x v e1 e2 e3=>hl' i x v e1 (w i v e2) e3⟩,I.cell,I.free,I.freeC,I.pin,I.hok,hl.trans I.len⟩
theorem Inv.pins_of{pins':List (Addr×Obj)}(I:Inv X pins O H s)(h:∀ p∈pins',s.heap.get? p.1=some p.2/\H p.1=none/\p.1≠X.env.locals/\p.1∉X.fs/\∀ v,p.2.data≠.cell v):Inv X pins' O H s:= ⟨I.ok,I.os,I.bare,I.base,I.loc,I.cell,I.free,I.freeC,fun p hp=>(List.mem_append.mp hp).elim (fun z=>I.pin p (List.mem_append_left _ z)) (h p),I.hok,I.len⟩
theorem z6s{N:List Str}(hN:N.Nodup){i j:Nat}{x:Str}(a:N[i]? = some x)(b:N[j]? = some x):i=j:=by
 obtain ⟨h1,e1⟩:=List.getElem?_eq_some_iff.mp a;obtain ⟨h2,e2⟩:=List.getElem?_eq_some_iff.mp b;exact (List.getElem_inj hN).mp (e1.trans e2.symm)
theorem jo{M:Model}{A:Around}{E:Value->Shared->Prop}{i:Nat}{x:Str}{v:V}{u:Value}{Q:Unit->Shared->Prop}(I:Inv X pins O H s)(hN:X.N.Nodup)(hi:X.N[i]? = some x)(hx:Loc X.env.scope x)(r:xo v u) (h:∀ s',Inv X pins (O.set i (some v)) H s'->(∃ a,Heap.SameBut a s.heap s'.heap/\(a=X.env.locals\/X.env.cells.lookup x=some a))->Q () s')(hf:X.fn x=true\/X.env.scope.names.lookup x=some .local:=by first | exact .inl rfl | exact .inr rfl | assumption):wpAny M A (storeName X.env x u) Q E s:=by
 obtain ⟨m,hn,hl⟩:=id I.loc;have hcls:(X.env.scope.kind==.class||(X.env.scope.kind==.module&&X.env.locals != X.env.globals))=false:=by rw [I.ok.kind];rfl
 have hiO:i<O.length:=by rw [I.len];exact (List.getElem?_eq_some_iff.mp hi).1
 have cne:=I.cne;have tracked:∀ {a:Addr}{h':Heap},(∃ o,s.heap.get? a=some o/\H a=none)->Heap.SameBut a s.heap h'->HOk X.prog X.w H h':=fun {a h'} ha hs b ob e=>by
  obtain ⟨_,_,hfree⟩:=ha;refine (I.hok b ob e).stay (fun c w' hc q=>(hs.2 c ?_).trans q) (fun _ q=>q) fun _ _ q=>q;rintro rfl;rcases hc with rfl | hc;·rw [hfree] at e;cases e
  ·rw [hfree] at hc;cases hc
 rcases hx with hk | hk
 ·refine wpAny_storeName_local hk hn (fun h' hn' hs=>?_) hcls;obtain ⟨oL,_,_,hoL,_⟩:=id hn;refine h _ ⟨I.ok,I.os,I.bare,⟨fun b o e n hb hx=>?_,fun b o e n hb hx=>?_,I.base.free,fun b o e hx=>?_,I.base.tups,I.base.frzs,I.base.tbls⟩,⟨_,hn',fun j y v' e1 e2 e3=>?_⟩,fun y c e=>?_,I.free,I.freeC,fun p hp=>?_,tracked ⟨oL,hoL,I.free⟩ hs,by simpa using I.len⟩ ⟨_,hs,.inl rfl⟩;·exact (hs.2 b (Nat.ne_of_lt (Nat.lt_of_lt_of_le (Heap.lt_size e) I.ok.above))).trans (I.base.keep b o e n hb hx)
  ·obtain ⟨sl,e1⟩:=I.base.slot b o e n hb hx;exact ⟨sl,(hs.2 b (Nat.ne_of_lt (Nat.lt_of_lt_of_le (Heap.lt_size e) I.ok.above))).trans e1⟩
  ·obtain ⟨o',e1⟩:=I.base.there b o e hx;exact ⟨o',(hs.2 b (Nat.ne_of_lt (Nat.lt_of_lt_of_le (Heap.lt_size e) I.ok.above))).trans e1⟩
  ·by_cases hj:j=i
   ·subst hj;rw [hi] at e1;cases e1;rw [List.getElem?_set_self hiO] at e2;cases e2;exact ⟨u,r,.inl ⟨hk,by simp⟩⟩
   ·rw [List.getElem?_set_ne (Ne.symm hj)] at e2;obtain ⟨u',r',q⟩:=hl j y v' e1 e2 e3;refine ⟨u',r',?_⟩;rcases q with ⟨k,e⟩ | ⟨k,c,e,z⟩
    ·refine .inl ⟨k,?_⟩;have:y≠x:=fun e=>hj (z6s hN e1 (e ▸ hi));simp [this,e]
    ·exact .inr ⟨k,c,e,z.sameBut hs (cne y c e)⟩
  ·obtain ⟨w',z⟩:=I.cell y c e;exact ⟨w',z.sameBut hs (cne y c e)⟩
  ·obtain ⟨e,n,ne,nf,d⟩:=I.pin p hp;exact ⟨(hs.2 p.1 ne).trans e,n,ne,nf,d⟩
 ·have hfn:X.fn x=true:=by
   rcases hf with z | z;·exact z
   ·rw [z] at hk;cases hk
  obtain ⟨c,hc⟩:=I.ok.has x (.inl hk);obtain ⟨w',z⟩:=I.cell x c hc;refine wpAny_storeName_cell I.ok.kind hk hc z (fun h' hc' hs=>?_);obtain ⟨oc,hoc,hocd⟩:=id z;refine h {s with heap:=h'} ⟨I.ok,I.os,I.bare,⟨fun b o e n hb hx=>?_,fun b o e n hb hx=>?_,I.base.free,fun b o e hx=>?_,I.base.tups,I.base.frzs,I.base.tbls⟩,⟨m,hn.sameBut hs (Ne.symm (cne x c hc)),fun j y v' e1 e2 e3=>?_⟩,fun y c' e=>?_,I.free,I.freeC,fun p hp=>?_,tracked ⟨oc,hoc,I.freeC x c hc⟩ hs,by simpa using I.len⟩ ⟨c,hs,.inr hc⟩;·exact (hs.2 b (Nat.ne_of_lt (Nat.lt_of_lt_of_le (Heap.lt_size e) (I.ok.cab x c hfn hc)))).trans (I.base.keep b o e n hb hx)
  ·obtain ⟨sl,e1⟩:=I.base.slot b o e n hb hx;exact ⟨sl,(hs.2 b (Nat.ne_of_lt (Nat.lt_of_lt_of_le (Heap.lt_size e) (I.ok.cab x c hfn hc)))).trans e1⟩
  ·obtain ⟨o',e1⟩:=I.base.there b o e hx;exact ⟨o',(hs.2 b (Nat.ne_of_lt (Nat.lt_of_lt_of_le (Heap.lt_size e) (I.ok.cab x c hfn hc)))).trans e1⟩
  ·by_cases hj:j=i
   ·subst hj;rw [hi] at e1;cases e1;rw [List.getElem?_set_self hiO] at e2;cases e2;exact ⟨u,r,.inr ⟨.inl hk,c,hc,hc'⟩⟩
   ·rw [List.getElem?_set_ne (Ne.symm hj)] at e2;obtain ⟨u',r',q⟩:=hl j y v' e1 e2 e3;refine ⟨u',r',?_⟩;rcases q with q | ⟨k,c',e,z'⟩;·exact .inl q
    ·refine .inr ⟨k,c',e,z'.sameBut hs ?_⟩;rintro rfl;exact hj (z6s hN e1 (I.ok.inj _ _ _ e hc ▸ hi))
  ·by_cases hcc:c'=c;·subst hcc;exact ⟨_,hc'⟩
   ·obtain ⟨w2,z2⟩:=I.cell y c' e;exact ⟨w2,z2.sameBut hs hcc⟩
  ·obtain ⟨e,n,ne,nf,d⟩:=I.pin p hp;refine ⟨(hs.2 p.1 ?_).trans e,n,ne,nf,d⟩;intro q;rw [q,hoc] at e;have q':oc=p.2:=Option.some.inj e;exact d w' (by rw [<- q'];exact hocd)
theorem z0v{M:Model}{A:Around}{E:Value->Shared->Prop}{i:Nat}{x:Str}{v:V}{u:Value}{Q:Unit->Shared->Prop}(I:Inv X pins O H s)(hN:X.N.Nodup)(hi:X.N[i]? = some x)(hx:Loc X.env.scope x)(r:xo v u) (h:∀ s',Inv X pins (O.set i (some v)) H s'->Q () s')(hf:X.fn x=true\/X.env.scope.names.lookup x=some .local:=by first | exact .inl rfl | exact .inr rfl | assumption):wpAny M A (storeName X.env x u) Q E s:= jo I hN hi hx r (fun s' I' _=>h s' I') hf
theorem Inv.call' {s':Shared} {ch:List Addr} (I:Inv X pins O H s) (ho:s'.os=s.os) (u:Un (frs X.stack) ch H H' s.heap s'.heap) (hok:HOk X.prog X.w H' s'.heap) (hg:AllBare s'.gens) (hch:∀ b∈ch,(b∈X.ex\/X.s₀.heap.objs.size<=b)/\b≠X.env.locals/\(∀ x c,X.env.cells.lookup x=some c->c≠b)/\∀ p∈X.pn++pins,p.1≠b):Inv X pins O H' s':=by
 obtain ⟨h',g',d',t',o'⟩:=s';have e:o'=s.os:=ho;subst e;exact I.call (g':=g') (t':=t') (d':=d') u hok hg hch
end
abbrev XK:=Value->Option Addr->Hp->Prop
abbrev St:=List (Option V)
abbrev VK:=V->Hp->Prop
abbrev TE:=St->Hp->VK->Prop
abbrev TT:=St->Hp->(Bool->Hp->Prop)->Prop
abbrev TA:=St->Hp->(List V->Hp->Prop)->Prop
structure z9O where
 nx:St->Hp->Prop
 rt:VK
 bk:St->Hp->Prop:=fun _ _=>False
 ct:St->Hp->Prop:=fun _ _=>False
abbrev TS:=z9O->St->Hp->Prop
def EP(X:Cx)(pins:List (Addr×Obj))(O:St)(Q:VK)(u:Value)(s':Shared):Prop:=∃ v H',Inv X pins O H' s'/\xo v u/\Q v H'
def TP(X:Cx)(pins:List (Addr×Obj))(O:St)(Q:Bool->Hp->Prop)(b:Bool)(s':Shared):Prop:=∃ H',Inv X pins O H' s'/\Q b H'
def AP(X:Cx)(pins:List (Addr×Obj))(O:St)(Q:List V->Hp->Prop)(us:List Value)(s':Shared):Prop:=∃ vs H',Inv X pins O H' s'/\yG vs us/\Q vs H'
def SP(X:Cx)(pins:List (Addr×Obj))(D:z9O)(f:Flow)(s':Shared):Prop:= match f with
 | .next=>∃ O' H',Inv X pins O' H' s'/\D.nx O' H' | .brk=>∃ O' H',Inv X pins O' H' s'/\D.bk O' H' | .cont=>∃ O' H',Inv X pins O' H' s'/\D.ct O' H' | .ret u=>∃ v O' H',Inv X pins O' H' s'/\xo v u/\D.rt v H'
def PE(X:Cx)(e:Expr)(t:TE):Prop:= ∀ (pins:List (Addr×Obj))(s:Shared)(O:St)(H:Hp)(Q:VK),Inv X pins O H s->t O H Q->wpAny (model X.prog X.w) X.A (eval e X.env) (EP X pins O Q) X.xe s
def PT(X:Cx)(e:Expr)(t:TT):Prop:= ∀ (pins:List (Addr×Obj))(s:Shared)(O:St)(H:Hp)(Q:Bool->Hp->Prop),Inv X pins O H s->t O H Q->wpAny (model X.prog X.w) X.A (isTrue e X.env (eval e X.env)) (TP X pins O Q) X.xe s
def PW(X:Cx)(e:Expr)(t:TT):Prop:= ∀ (whole:Sem Value)(pins:List (Addr×Obj))(s:Shared)(O:St)(H:Hp)(Q:Bool->Hp->Prop),Inv X pins O H s->t O H Q->wpAny (model X.prog X.w) X.A (isTrue e X.env whole) (TP X pins O Q) X.xe s
theorem PW.pt{X:Cx}{e:Expr}{t:TT}(h:PW X e t):PT X e t:=h _
def PA(X:Cx)(es:List Expr)(t:TA):Prop:= ∀ (pos:Pos)(pins:List (Addr×Obj))(s:Shared)(O:St)(H:Hp)(Q:List V->Hp->Prop),Inv X pins O H s->t O H Q->wpAny (model X.prog X.w) X.A (spliced (backTo pos (starEach es X.env))) (AP X pins O Q) X.xe s
def PS(X:Cx)(st:Stmt)(t:TS):Prop:= ∀ (pins:List (Addr×Obj))(s:Shared)(O:St)(H:Hp)(D:z9O),Inv X pins O H s->t D O H->wpAny (model X.prog X.w) X.A (exec st X.env) (SP X pins D) X.xe s
def PSs(X:Cx)(st:List Stmt)(t:TS):Prop:= ∀ (pins:List (Addr×Obj))(s:Shared)(O:St)(H:Hp)(D:z9O),Inv X pins O H s->t D O H->wpAny (model X.prog X.w) X.A (execs st X.env) (SP X pins D) X.xe s
theorem thn{α:Type}{t:Sem α}{Q Q':α->Shared->Prop}{M:Model}{A:Around}{E:Value->Shared->Prop}{s:Shared}(h:wpAny M A t Q E s)(hQ:∀ a s,Q a s->Q' a s):wpAny M A t Q' E s:=wpAny_mono h hQ fun _ _ x=>x
section
variable {X:Cx}
theorem bin{a b:Expr}{ta tb:TE}(ha:PE X a ta)(hb:PE X b tb){pins:List (Addr×Obj)}{s:Shared}{O:St}{H:Hp}{R:V->V->Hp->Prop}(I:Inv X pins O H s)(h:ta O H fun x H1=>tb O H1 fun y H2=>R x y H2) {α:Type}{Q:α->Shared->Prop}{f:Value->Value->Sem α} (hf:∀ v u s2 x y H2,Inv X pins O H2 s2->xo x v->xo y u->R x y H2->wpAny (model X.prog X.w) X.A (f v u) Q X.xe s2): wpAny (model X.prog X.w) X.A (eval a X.env) (fun v s₁=>wpAny (model X.prog X.w) X.A (eval b X.env) (fun u s₂=>wpAny (model X.prog X.w) X.A (f v u) Q X.xe s₂) X.xe s₁) X.xe s:=by
 refine thn (ha pins s O H _ I h) fun v s1 ⟨x,H1,I1,r1,q1⟩=>?_;refine thn (hb pins s1 O H1 _ I1 q1) fun u s2 ⟨y,H2,I2,r2,q2⟩=>?_;exact hf v u s2 x y H2 I2 r1 r2 q2
def zhN(i:Nat):TE:=fun O H Q=>∃ v,O[i]? = some (some v)/\Q v H
def tC(v:V):TE:=fun _ H Q=>Q v H
theorem z8x{i:Nat}{x:Str}{pos:Pos}(hN:X.N[i]? = some x)(hv:Vis X.env.scope x)(hd:(x==("__debug__":Str))=false:=by decide)(hcd:(x==("__classdict__":Str))=false:=by decide):PE X (.Name x pos) (zhN i):=by
 intro pins s O H Q I h;obtain ⟨v,e,h⟩:=h;obtain ⟨m,hn,hl⟩:=I.loc;obtain ⟨u,r,l⟩:=hl i x v hN e hv;have fin:EP X pins O Q u s:=⟨v,H,I,r,h⟩;rcases l with ⟨hk,hm⟩ | ⟨hk,c,hc,hcell⟩;·exact wpAny_Name (wpAny_loadName_local I.ok.kind hk hn hm fin) hd
 ·rcases hk with hk | hk;·exact wpAny_Name (wpAny_loadName_cell I.ok.kind hk hc hcell fin) hd
  ·exact wpAny_Name (wpAny_loadName_free I.ok.kind hk hc hcell fin hcd) hd
theorem zep{i j pos}:PE X (.Constant (.int i) j pos) (tC (.int i)):=fun _ _ _ H _ I h=>wpAny_Constant_int ⟨.int i,H,I.tok _,⟨_,rfl⟩,h⟩
theorem zgz{b j pos}:PE X (.Constant (.bool b) j pos) (tC (.bl b)):=fun _ _ _ H _ I h=>Constant_bool ⟨.bl b,H,I,rfl,h⟩
theorem zf1{j pos}:PE X (.Constant .none j pos) (tC .non):=fun _ _ _ H _ I h=>Constant_none ⟨.non,H,I,rfl,h⟩
theorem zeo{x j pos}:PE X (.Constant (.str x) j pos) (tC (.str x)):=fun _ _ _ H _ I h=>Calls.Constant_str ⟨.str x,H,I.tok _,⟨_,rfl⟩,h⟩
def Gl(X:Cx)(x:Str):Prop:=X.env.kindOf x=some .globalImplicit
theorem z5A{E:Value->Shared->Prop}{pins:List (Addr×Obj)}{s:Shared}{O:St}{H:Hp}{x:Str}{u:Value}{pos:Pos}{Q:Value->Shared->Prop}(I:Inv X pins O H s)(hg:Gl X x)(hm:X.mg x=some u)(h:Q u s) (hd:(x==("__debug__":Str))=false:=by decide):wpAny (model X.prog X.w) X.A (eval (.Name x pos) X.env) Q E s:= Calls.Name_function_global I.ok.kind hg (Calls.loadGlobal_global (by rw [I.ok.glob];exact I.mod.glob.keeps I.bk) hm h) hd
theorem qm{E:Value->Shared->Prop}{pins:List (Addr×Obj)}{s:Shared}{O:St}{H:Hp}{x:Str}{u:Value}{pos:Pos}{Q:Value->Shared->Prop}(I:Inv X pins O H s)(hg:Gl X x)(hm:X.mg x=none)(hv:bootBuiltins x=some u)(h:Q u s) (hn:x≠"__name__":=by decide)(hd:(x==("__debug__":Str))=false:=by decide):wpAny (model X.prog X.w) X.A (eval (.Name x pos) X.env) Q E s:=by
 obtain ⟨mb,h1,h2⟩:=I.mod.blt;exact Calls.Name_function_global I.ok.kind hg (Calls.loadGlobal_builtin (by rw [I.ok.glob];exact I.mod.glob.keeps I.bk) hm (by rw [I.ok.blt];exact h1.keeps I.bk) ((h2 x hn).trans hv) h) hd
theorem z5D{x:Str}{v:V}{u:Value}{pos:Pos}(hg:Gl X x)(hm:X.mg x=some u)(r:xo v u)(hd:(x==("__debug__":Str))=false:=by decide):PE X (.Name x pos) (tC v):= fun _ _ _ H _ I h=>z5A I hg hm ⟨v,H,I,r,h⟩ hd
theorem zbK{x:Str}{v:V}{u:Value}{pos:Pos}(hg:Gl X x)(hm:X.mg x=none)(hv:bootBuiltins x=some u)(r:xo v u)(hn:x≠"__name__":=by decide)(hd:(x==("__debug__":Str))=false:=by decide):PE X (.Name x pos) (tC v):= fun _ _ _ H _ I h=>qm I hg hm hv ⟨v,H,I,r,h⟩ hn hd
variable {a b:Expr}{ta tb:TE}{pos:Pos}
def PC(X:Cx)(op:CmpOp)(a b:Expr)(t:TE):Prop:= ∀ (pins:List (Addr×Obj))(s:Shared)(O:St)(H:Hp)(Q:VK),Inv X pins O H s->t O H Q-> wpAny (model X.prog X.w) X.A (eval a X.env) (fun v s₁=>wpAny (model X.prog X.w) X.A (eval b X.env) (fun u s₂=>wpAny (model X.prog X.w) X.A (compareOp op v u) (EP X pins O Q) X.xe s₂) X.xe s₁) X.xe s
theorem zag(b:Expr){op:CmpOp}(h:op≠.In)(h2:op≠.NotIn):behindInMarks op b=false:=by
 have e1:(op==CmpOp.In)=false:=by cases op<;>first | rfl | exact absurd rfl h
 have e2:(op==CmpOp.NotIn)=false:=by cases op<;>first | rfl | exact absurd rfl h2
 cases b<;>simp [behindInMarks,e1,e2]
def tB(t:TE):TT:=fun O H Q=>t O H fun x H1=>∃ c,x=.bl c/\Q c H1
theorem zhu{op:CmpOp}{t:TE}(h:PC X op a b t)(h1:behindInMarks op b=false:=by first | exact zag _ (by decide) (by decide) | rfl):PT X (.Compare a [op] [b] pos) (tB t):=by
 intro pins s O H Q I hw;refine wpAny_isTrue_Compare1 (thn (h pins s O H _ I hw) fun v s1 h1=>thn h1 fun u s2 h2=>thn h2 fun c s3 ⟨x,H1,I1,r1,q1⟩=>?_) h1;obtain ⟨d,rfl,q⟩:=q1;cases r1;exact wpAny_truthy_bool ⟨H1,I1,q⟩
theorem zdM{e:Expr}{t:TE}(h:PE X e t)(he:∀ whole,isTrue e X.env whole=(do let v <- whole;standAt e.pos;holding [v] (truthy v)):=by intro _;rfl):PT X e (tB t):=by
 intro pins s O H Q I hw;refine isTrue_plain (thn (h pins s O H _ I hw) fun v s1 ⟨x,H1,I1,r1,q1⟩=>?_) (he _);obtain ⟨d,rfl,q⟩:=q1;cases r1;exact wpAny_truthy_bool ⟨H1,I1,q⟩
variable {tA tB':TT}{z08:List Expr}
def zij(t u:TT):TT:=fun O H Q=>t O H fun c H1=>if c=true then u O H1 Q else Q false H1
def tOr(t u:TT):TT:=fun O H Q=>t O H fun c H1=>if c=true then Q true H1 else u O H1 Q
def ziz(t:TT):TT:=fun O H Q=>t O H fun c H1=>Q (!c) H1
theorem zcP(ha:PT X a tA):PW X (.BoolOp .And [a] pos) tA:=by
 intro wh pins s O H Q I h;refine isTrue_and (thn (ha pins s O H Q I h) fun c s1 e=>?_);cases c with
 | true=>exact isTrue_and_nil e | false=>exact e
theorem zeC(ha:PT X a tA):PW X (.BoolOp .Or [a] pos) tA:=by
 intro wh pins s O H Q I h;refine isTrue_or (thn (ha pins s O H Q I h) fun c s1 e=>?_);cases c with
 | false=>exact isTrue_or_nil e | true=>exact e
theorem zeH(ha:PT X a tA)(hb:PW X (.BoolOp .And (b::z08) pos) tB'):PW X (.BoolOp .And (a::b::z08) pos) (zij tA tB'):=by
 intro wh pins s O H Q I h;refine isTrue_and (thn (ha pins s O H _ I h) fun c s1 ⟨H1,I1,q1⟩=>?_);cases c with
 | true=>exact hb wh pins s1 O H1 Q I1 q1 | false=>exact ⟨H1,I1,q1⟩
theorem zgO(ha:PT X a tA)(hb:PW X (.BoolOp .Or (b::z08) pos) tB'):PW X (.BoolOp .Or (a::b::z08) pos) (tOr tA tB'):=by
 intro wh pins s O H Q I h;refine isTrue_or (thn (ha pins s O H _ I h) fun c s1 ⟨H1,I1,q1⟩=>?_);cases c with
 | true=>exact ⟨H1,I1,q1⟩ | false=>exact hb wh pins s1 O H1 Q I1 q1
theorem ze5(ha:PT X a tA):PT X (.UnaryOp .Not a pos) (ziz tA):=by
 intro pins s O H Q I h;exact isTrue_not (ha pins s O H (fun c H1=>Q (!c) H1) I h)
def zgF(ta tb:TE):TE:=fun O H Q=>ta O H fun x H1=>∃ c,x=.bl c/\if c=true then tb O H1 Q else Q (.bl false) H1
def zfX(ta:TE):TE:=fun O H Q=>ta O H fun x H1=>∃ c,x=.bl c/\Q (.bl (!c)) H1
theorem zeJ{op}{t:TE}(h:PE X a t):PE X (.BoolOp op [a] pos) t:=fun pins s O H Q I hw=>BoolOp_one (h pins s O H Q I hw)
theorem zfj(ha:PE X a ta)(hb:PE X (.BoolOp .And (b::z08) pos) tb):PE X (.BoolOp .And (a::b::z08) pos) (zgF ta tb):=by
 intro pins s O H Q I h;refine BoolOp_and (thn (ha pins s O H _ I h) fun v s1 ⟨x,H1,I1,r1,q1⟩=>?_);obtain ⟨c,rfl,q1⟩:=q1;cases r1;refine wpAny_truthy_bool ?_;cases c with
 | true=>exact hb pins s1 O H1 Q I1 q1 | false=>exact ⟨.bl false,H1,I1,rfl,q1⟩
theorem zdI(ha:PE X a ta):PE X (.UnaryOp .Not a pos) (zfX ta):=by
 intro pins s O H Q I h;refine UnaryOp_ (thn (ha pins s O H _ I h) fun v s1 ⟨x,H1,I1,r1,q1⟩=>?_);obtain ⟨c,rfl,q1⟩:=q1;cases r1;exact not_of (wpAny_truthy_bool ⟨.bl (!c),H1,I1,rfl,q1⟩)
def tIf(t:TT)(ta tb:TE):TE:=fun O H Q=>t O H fun c H1=>if c=true then ta O H1 Q else tb O H1 Q
theorem z9V{c:Expr}(hc:PT X c tA)(ha:PE X a ta)(hb:PE X b tb):PE X (.IfExp c a b pos) (tIf tA ta tb):=by
 intro pins s O H Q I h;refine wpAny_IfExp (thn (hc pins s O H _ I h) fun d s1 ⟨H1,I1,q1⟩=>?_);cases d with
 | true=>exact ha pins s1 O H1 Q I1 q1 | false=>exact hb pins s1 O H1 Q I1 q1
end
def SqL(K:W.Frag)(H:Hp)(a:Addr)(xs:List V):Prop:= Rd H a (.lst xs)\/ ∃ (o:Obj)(its:Array Value)(n:Nat),K.lookup a=some o/\o.cls=.type "list"/\o.dict=none/\o.data=.seq its n/\its.size<=sizeLine/\yG xs its.toList
def SqT(K:W.Frag)(H:Hp)(a:Addr)(xs:List V):Prop:= Rd H a (.tup xs)\/ ∃ (o:Obj)(its:Array Value)(n:Nat),K.lookup a=some o/\o.cls=.type "tuple"/\o.data=.seq its n/\its.size<=sizeLine/\yG xs its.toList
def zih:Value->Option V
 | .none=>some .non | .bool b=>some (.bl b) | .int i _=>some (.int i) | .str x _=>some (.str x) | .bytes b _=>some (.byt b) | .float b _=>some (.flt b) | .ref a=>some (.ref a) | .type n=>some (.ty n) | _=>none
theorem xo.abs{x:V}{u:Value}(r:xo x u):zih u=some x:=by cases x with
 | non=>cases r;rfl | bl _=>cases r;rfl | int _=>obtain ⟨t,rfl⟩:=r;rfl | str _=>obtain ⟨t,rfl⟩:=r;rfl | byt _=>obtain ⟨t,rfl⟩:=r;rfl | flt _=>obtain ⟨t,rfl⟩:=r;rfl | ref _=>cases r;rfl | ty _=>cases r;rfl
theorem xo.inj{x y:V}{u:Value}(r:xo x u)(q:xo y u):x=y:=Option.some.inj (r.abs.symm.trans q.abs)
theorem yG.inj:∀ {xs ys:List V}{us:List Value},yG xs us->yG ys us->xs=ys
 | _,_,_,.nil,.nil=>rfl | _,_,_,.cons r t,.cons r' t'=>by rw [r.inj r',yG.inj t t']
section
variable {X:Cx}{pins:List (Addr×Obj)}{O:St}{H:Hp}{s:Shared}{a:Addr}{xs ys:List V}
theorem Inv.list(I:Inv X pins O H s)(h:SqL X.K H a xs):∃ its:List Value,yG xs its/\PlainL s.heap a its.toArray/\xs.length<=sizeLine:=by
 rcases h with h | ⟨o,its,n,hk,hc,hd,hs,hz,r⟩
 ·obtain ⟨z,its,n,r,e⟩:=h.ok I.hok;exact ⟨its,r,⟨_,n,e,rfl,rfl,rfl⟩,z⟩
 ·refine ⟨its.toList,r,⟨o,n,I.kIn a o hk,hc,hd,by simpa using hs⟩,?_⟩;have e:=r.length;simp only [Array.length_toList] at e;omega
theorem Inv.tuple(I:Inv X pins O H s)(h:SqT X.K H a xs):∃ its:List Value,yG xs its/\IsTup s.heap a its.toArray/\xs.length<=sizeLine:=by
 rcases h with h | ⟨o,its,n,hk,hc,hs,hz,r⟩
 ·obtain ⟨z,its,r,p⟩:=h.ok I.hok;exact ⟨its,r,p.tup,z⟩
 ·refine ⟨its.toList,r,⟨o,I.kIn a o hk,hc,n,by simpa using hs⟩,?_⟩;have e:=r.length;simp only [Array.length_toList] at e;omega
theorem Inv.list_inj(I:Inv X pins O H s)(h:SqL X.K H a xs)(h':SqL X.K H a ys):xs=ys:=by
 obtain ⟨its,r,⟨o,n,e,_,_,d⟩,_⟩:=I.list h;obtain ⟨its',r',⟨o',n',e',_,_,d'⟩,_⟩:=I.list h';rw [e] at e';cases e';rw [d] at d';injection d' with d1 _;have:its=its':=by simpa using congrArg Array.toList d1
 subst this;exact r.inj r'
theorem Inv.tuple_inj(I:Inv X pins O H s)(h:SqT X.K H a xs)(h':SqT X.K H a ys):xs=ys:=by
 obtain ⟨its,r,⟨o,e,_,n,d⟩,_⟩:=I.tuple h;obtain ⟨its',r',⟨o',e',_,n',d'⟩,_⟩:=I.tuple h';rw [e] at e';cases e';rw [d] at d';injection d' with d1 _;have:its=its':=by simpa using congrArg Array.toList d1
 subst this;exact r.inj r'
end
abbrev Cx.wish(X:Cx)(E:Value->Shared->Prop):Cx:={X with xe:=E}
abbrev Cx.nox(X:Cx):Cx:=X.wish fun _ _=>False
theorem Cx.Ok.wish{X:Cx}(ok:X.Ok)(E:Value->Shared->Prop):(X.wish E).Ok:= ⟨ok.mod,ok.kind,ok.glob,ok.blt,ok.above,ok.inj,ok.has,ok.cab,ok.hd,ok.frames,ok.stk,ok.exf,ok.bs,ok.bsz,ok.noex,ok.exfs,ok.funs,ok.frf⟩
theorem Cx.Ok.unwish{X:Cx}{E:Value->Shared->Prop}(ok:(X.wish E).Ok):X.Ok:= ⟨ok.mod,ok.kind,ok.glob,ok.blt,ok.above,ok.inj,ok.has,ok.cab,ok.hd,ok.frames,ok.stk,ok.exf,ok.bs,ok.bsz,ok.noex,ok.exfs,ok.funs,ok.frf⟩
section
variable {X:Cx}{pins:List (Addr×Obj)}{O:St}{H:Hp}{s:Shared}{E:Value->Shared->Prop}
theorem Inv.wish(I:Inv X pins O H s)(E:Value->Shared->Prop):Inv (X.wish E) pins O H s:=⟨I.ok.wish E,I.os,I.bare,I.base,I.loc,I.cell,I.free,I.freeC,I.pin,I.hok,I.len⟩
theorem Inv.unwish(I:Inv (X.wish E) pins O H s):Inv X pins O H s:=⟨I.ok.unwish,I.os,I.bare,I.base,I.loc,I.cell,I.free,I.freeC,I.pin,I.hok,I.len⟩
theorem SP.unwish{D:z9O}{f:Flow}{s':Shared}(h:SP (X.wish E) pins D f s'):SP X pins D f s':=by cases f with
 | next=>obtain ⟨O',H',I,q⟩:=h;exact ⟨O',H',I.unwish,q⟩ | brk=>obtain ⟨O',H',I,q⟩:=h;exact ⟨O',H',I.unwish,q⟩ | cont=>obtain ⟨O',H',I,q⟩:=h;exact ⟨O',H',I.unwish,q⟩ | ret u=>obtain ⟨v,O',H',I,r,q⟩:=h;exact ⟨v,O',H',I.unwish,r,q⟩
theorem PSs.nox{st:List Stmt}{t:TS}(h:PSs X.nox st t):PSs X st t:=fun pins s O H D I hw=> wpAny_mono (h pins s O H D (I.wish _) hw) (fun _ _ q=>q.unwish) fun _ _ z=>False.elim z
end
section
variable {X:Cx}{st:Stmt}{z08:List Stmt}{t u:TS}{e:Expr}{te:TE}{pos:Pos}
def zh3:TS:=fun D O H=>D.nx O H
def zhJ(t u:TS):TS:=fun D O H=>t {D with nx:=u D} O H
theorem zbV:PSs X [] zh3:=fun _ _ O H _ I h=>wpAny_execs_nil ⟨O,H,I,h⟩
theorem z2E(h1:PS X st t)(h2:PSs X z08 u):PSs X (st::z08) (zhJ t u):=by
 intro pins s O H D I h;refine wpAny_execs_cons (thn (h1 pins s O H {D with nx:=u D} I h) fun f s1 q=>?_);cases f with
 | next=>
  obtain ⟨O',H',I',q⟩:=q;exact h2 pins s1 O' H' D I' q | ret v=>exact q | brk=>exact q | cont=>exact q
theorem zbS(h1:PS X st t):PSs X [st] t:=by
 intro pins s O H D I h;refine wpAny_execs_cons (thn (h1 pins s O H D I h) fun f s1 q=>?_);cases f with
 | next=>exact wpAny_execs_nil q | ret v=>exact q | brk=>exact q | cont=>exact q
theorem Inv.quiet{pins:List (Addr×Obj)}{O:St}{H:Hp}{s:Shared}(I:Inv X pins O H s):interactive X.env=false:=by simp [interactive,I.ok.kind]
def zgs(te:TE):TS:=fun D O H=>te O H fun _ H1=>D.nx O H1
theorem zcL(he:PE X e te)(hs:swapsWith e none pos.line X.env=pure false:=by rfl):PS X (.Expr e pos) (zgs te):=by
 intro pins s O H D I h;exact wpAny_Expr_any (thn (he pins s O H _ I h) fun v s1 ⟨x,H1,I1,r1,q1⟩=>⟨O,H1,I1,q1⟩) I.quiet hs
def ziF(te:TE):TS:=fun D O H=>te O H D.rt
theorem zdG(he:PE X e te):PS X (.Return (some e) pos) (ziF te):=by
 intro pins s O H D I h;exact wpAny_Return_some (thn (he pins s O H _ I h) fun v s1 ⟨x,H1,I1,r1,q1⟩=>⟨x,O,H1,I1,r1,q1⟩)
def zig(c:TT)(t u:TS):TS:=fun D O H=>c O H fun b H1=>if b=true then t D O H1 else u D O H1
theorem zgD{c:Expr}{a b:List Stmt}{tc:TT}(hc:PT X c tc)(ha:PSs X a t)(hb:PSs X b u):PS X (.If c a b pos) (zig tc t u):=by
 intro pins s O H D I h;refine wpAny_If (thn (hc pins s O H _ I h) fun d s1 ⟨H1,I1,q1⟩=>?_);cases d with
 | true=>exact ha pins s1 O H1 D I1 q1 | false=>exact hb pins s1 O H1 D I1 q1
def zdx:TS:=fun _ _ _=>False
theorem za7:PS X st zdx:=fun _ _ _ _ _ _ h=>h.elim
end
abbrev TG:=V->St->Hp->(St->Hp->Prop)->Prop
abbrev TGs:=List V->St->Hp->(St->Hp->Prop)->Prop
def PG(X:Cx)(target:Expr)(t:TG):Prop:= ∀ (pins:List (Addr×Obj))(s:Shared)(O:St)(H:Hp)(v:V)(u:Value)(Q:St->Hp->Prop),Inv X pins O H s->xo v u->t v O H Q-> wpAny (model X.prog X.w) X.A (assign target X.env u) (fun _ s'=>∃ O' H',Inv X pins O' H' s'/\Q O' H') X.xe s
def PGs(X:Cx)(ts:List Expr)(t:TGs):Prop:= ∀ (pins:List (Addr×Obj))(s:Shared)(O:St)(H:Hp)(vs:List V)(us:List Value)(Q:St->Hp->Prop),Inv X pins O H s->yG vs us->t vs O H Q-> wpAny (model X.prog X.w) X.A (assignInOrder ((assignEach ts X.env).map (·.2)) us) (fun _ s'=>∃ O' H',Inv X pins O' H' s'/\Q O' H') X.xe s
abbrev zg8:=V->V->V->Hp->(Hp->Prop)->Prop
def zhB(X:Cx)(t:zg8):Prop:= ∀ (pins:List (Addr×Obj))(s:Shared)(O:St)(H:Hp)(o i v:V)(ov iv u:Value)(Q:Hp->Prop),Inv X pins O H s->xo o ov->xo i iv->xo v u->t o i v H Q-> wpAny (model X.prog X.w) X.A (setItem ov iv u) (fun _ s'=>∃ H',Inv X pins O H' s'/\Q H') X.xe s
section
variable {X:Cx}{pos:Pos}
def qD(i:Nat):TG:=fun v O H Q=>Q (O.set i (some v)) H
theorem zR{i:Nat}{x:Str}(hN:X.N.Nodup)(hi:X.N[i]? = some x)(hx:Loc X.env.scope x)(hf:X.fn x=true\/X.env.scope.names.lookup x=some .local:=by first | exact .inl rfl | exact .inr rfl | assumption):PG X (.Name x pos) (qD i):=by
 intro pins s O H v u Q I r h;exact wpAny_assign_Name (z0v I hN hi hx r (fun s' I'=>⟨_,H,I',h⟩) hf)
def zhq:TGs:=fun vs O H Q=>vs=[]/\Q O H
def zd3(t:TG)(u:TGs):TGs:=fun vs O H Q=>∃ v r,vs=v::r/\t v O H fun O' H'=>u r O' H' Q
theorem z8p:PGs X [] zhq:=by
 intro pins s O H vs us Q I r h;obtain ⟨e,h⟩:=h;subst e;cases r;exact assignInOrder_nil ⟨O,H,I,h⟩
theorem z0t{e:Expr}{es:List Expr}{t:TG}{u:TGs}(h1:PG X e t)(h2:PGs X es u) (hs:(assignEach (e::es) X.env).map (·.2)=assign e X.env::(assignEach es X.env).map (·.2):=by rfl):PGs X (e::es) (zd3 t u):=by
 intro pins s O H vs us Q I r h;obtain ⟨v,vr,e1,h⟩:=h;subst e1;cases r with | cons r rr=>
  rw [hs];refine assignInOrder_cons (thn (h1 pins s O H _ _ _ I r h) fun _ s1 ⟨O1,H1,I1,q1⟩=>?_);exact h2 pins s1 O1 H1 _ _ Q I1 rr q1
def zhr(K:W.Frag)(n:Nat)(t:TGs):TG:=fun v O H Q=>∃ a xs,v=.ref a/\SqT K H a xs/\xs.length=n/\t xs O H Q
theorem zbh{es:List Expr}{k:Nat}{t:TGs}{n:Nat}(hc:X.calm=true)(h:PGs X es t) (hn:(assignEach es X.env).length=n:=by rfl)(hst:(assignEach es X.env).findIdx? (·.1)=none:=by rfl):PG X (.Tuple es k pos) (zhr X.K n t):=by
 intro pins s O H v u Q I r hw;obtain ⟨a,xs,e1,hq,hl,hw⟩:=hw;subst e1;cases r;obtain ⟨its,rv,ht,hz⟩:=I.tuple hq;refine assign_Tuple_tuple (I.ok.hd hc) ht (by simp [hn,<- hl,rv.length]) hst fun h' hx=>?_;have I1:Inv X pins O H {s with heap:=h'}:=I.kept (t':=s.toks) fun b o e=>hx b o (Nat.ne_of_lt (Heap.lt_size e)) e;exact h pins _ O H xs _ Q I1 (by simpa using rv) hw
def zic(to ti:TE)(t:zg8):TG:=fun v O H Q=>to O H fun o H1=>ti O H1 fun i H2=>t o i v H2 fun H3=>Q O H3
theorem zfn{o i:Expr}{to ti:TE}{t:zg8}(ho:PE X o to)(hi:PE X i ti)(hs:zhB X t) (ha:∀ v,assign (.Subscript o i pos) X.env v=(do
   let ov <- holding [v] (eval o X.env) let iv <- holding [v,ov] (eval i X.env)
   standAt pos
   holding [v,ov,iv] (setItem ov iv v)
   release [v,ov,iv] []):=by intro _;rfl):PG X (.Subscript o i pos) (zic to ti t):=by
 intro pins s O H v u Q I r h;rw [ha];refine wpAny_bind (wpAny_holding (thn (ho pins s O H _ I h) fun ov s1 ⟨x,H1,I1,r1,q1⟩=>?_));refine wpAny_bind (wpAny_holding (thn (hi pins s1 O H1 _ I1 q1) fun iv s2 ⟨y,H2,I2,r2,q2⟩=>?_));refine wpAny_bind (wpAny_standAt (wpAny_bind (wpAny_holding (thn (hs pins s2 O H2 x y v ov iv u _ I2 r1 r2 r q2) fun _ s3 ⟨H3,I3,q3⟩=>?_))));exact wpAny_release ⟨O,H3,I3,q3⟩
def zg4(te:TE)(g:TG):TS:=fun D O H=>te O H fun x H1=>g x O H1 D.nx
theorem zbf{tg e:Expr}{te:TE}{g:TG}(he:PE X e te)(hg:PG X tg g)(hs:swapsWithSole [tg] e pos.line X.env=pure false:=by rfl)(hw:swappedStores [tg] e X.env=pure none:=by rfl) (h1:(assignEach [tg] X.env).map (·.2)=[assign tg X.env]:=by rfl):PS X (.Assign [tg] e pos) (zg4 te g):=by
 intro pins s O H D I h;refine wpAny_Assign_stores (thn (he pins s O H _ I h) fun v s1 ⟨x,H1,I1,r1,q1⟩=>?_) hs hw;rw [h1];exact thn (hg pins s1 O H1 x v _ I1 r1 q1) fun _ s2 q=>q
theorem ze3{i:Nat}{x:Str}{e:Expr}{te:TE}{pos':Pos}(hN:X.N.Nodup)(hi:X.N[i]? = some x)(hx:Loc X.env.scope x)(he:PE X e te)(hs:swapsWith e (some (.Name x pos')) pos.line X.env=pure false:=by rfl)(hf:X.fn x=true\/X.env.scope.names.lookup x=some .local:=by first | exact .inl rfl | exact .inr rfl | assumption): PS X (.Assign [.Name x pos'] e pos) (zg4 te (qD i)):=by
 intro pins s O H D I h;refine wpAny_Assign_Name (thn (he pins s O H _ I h) fun v s1 ⟨y,H1,I1,r1,q1⟩=>?_) hs;exact z0v I1 hN hi hx r1 (fun s2 I2=>⟨_,H1,I2,q1⟩) hf
def zix(i j:Nat)(ta:TA):TS:=fun D O H=>ta O H fun vs H1=>∃ v w,vs=[v,w]/\D.nx ((O.set i (some v)).set j (some w)) H1
theorem zeR {i j:Nat} {x y:Str} {a b:Expr} {ta:TA} {px py pt:Pos} {kt k2 pt2} (hc:X.calm=true) (hN:X.N.Nodup) (hi:X.N[i]? = some x) (hj:X.N[j]? = some y) (hij:i≠j) (hx:X.env.scope.names.lookup x=some .local) (hy:X.env.scope.names.lookup y=some .local) (ha:PA X [a,b] ta) (hw:swappedStores [.Tuple [.Name x px,.Name y py] kt pt] (.Tuple [a,b] k2 pt2) X.env=pure (some [x,y])) (hs:swapsWithSole [.Tuple [.Name x px,.Name y py] kt pt] (.Tuple [a,b] k2 pt2) pos.line X.env=pure false:=by rfl): PS X (.Assign [.Tuple [.Name x px,.Name y py] kt pt] (.Tuple [a,b] k2 pt2) pos) (zix i j ta):=by
 intro pins s O H D I h;rw [exec_Assign_arm];refine wpAny_bind (wpAny_standAt ?_);rw [hs];refine wpAny_bind (wpAny_pure ?_);rw [if_neg (by decide)];refine wpAny_bind (Tuple_ (thn (ha _ pins s O H _ I h) fun us s1 ⟨vs,H1,I1,r1,q1⟩=>?_));obtain ⟨v,w,e1,q1⟩:=q1;subst e1;obtain ⟨u1,u2,rfl,rv,rw'⟩:∃ u1 u2,us=[u1,u2]/\xo v u1/\xo w u2:=by cases r1 with | cons p q=> cases q with | cons p' q'=>
    cases q';exact ⟨_,_,rfl,p,p'⟩
 refine wpAny_newObj_type ?_ (by show 2<=sizeLine;decide);have I2:Inv X pins O H1 {s1 with heap:=s1.heap.push {cls:=.type "tuple",data:=.seq [u1,u2].toArray}}:=I1.kept (t':=s1.toks) fun b o e=>Heap.get?_push_of_some _ e;rw [hw];refine wpAny_bind (wpAny_pure ?_);show wpAny (model X.prog X.w) X.A (do rule "assign.swapped-stores";let items <- unpackItems (.ref s1.heap.objs.size) 2 none;assignInOrder [fun v=>bindName X.env y v,fun v=>bindName X.env x v] items.reverse;pure Flow.next) _ _ _;refine wpAny_bind (wpAny_rule (wpAny_bind (unpackItems_tuple (items:=#[u1,u2]) (I.ok.hd hc) (IsTup.new s1.heap _) fun h' hx'=>?_)));have I3:=I2.kept (h':=h') (t':=s1.toks) fun b o e=>hx' b o (Nat.ne_of_lt (Heap.lt_size e)) e;show wpAny _ _ (assignInOrder [fun v=>bindName X.env y v,fun v=>bindName X.env x v] [u2,u1] >>= fun _=>pure Flow.next) _ _ _;refine wpAny_bind (assignInOrder_cons (wpAny_bindName (z0v I3 hN hj (.inl hy) rw' (fun s2 I4=>?_) (.inr hy))));refine assignInOrder_cons (wpAny_bindName (z0v I4 hN hi (.inl hx) rv (fun s3 I5=>assignInOrder_nil (wpAny_pure ?_)) (.inr hx)));rw [List.set_comm _ _ (Ne.symm hij)] at I5;exact ⟨_,H1,I5,q1⟩
end
structure It where
 go:Nat->Hp->Prop
 yld:Nat->Hp->V->Hp->Prop
 stop:Nat->Hp->Prop
def z1P(X:Cx)(pins:List (Addr×Obj))(H:Hp)(b:Addr):Prop:= H b=none/\b≠X.env.locals/\b∉X.fs/\(b∈X.ex\/X.s₀.heap.objs.size<=b)/\(∀ x c,X.env.cells.lookup x=some c->c≠b)/\∀ p∈X.pn++pins,p.1≠b
theorem Inv.fpOk{X:Cx}{pins:List (Addr×Obj)}{O:St}{H H':Hp}{s:Shared}{b:Addr}(I:Inv X pins O H s)(hb:s.heap.objs.size<=b)(hn:H' b=none):z1P X pins H' b:=by
 refine ⟨hn,Nat.ne_of_gt (Nat.lt_of_lt_of_le I.lt hb),I.nofs hb,.inr (Nat.le_trans I.sz hb),fun x c e z=>?_,fun p hp z=>?_⟩
 ·obtain ⟨v,q⟩:=I.cell x c e;exact absurd (Nat.lt_of_lt_of_le q.lt (by rw [z];exact hb)) (Nat.lt_irrefl _)
 ·exact absurd (Nat.lt_of_lt_of_le (Heap.lt_size (I.pin p hp).1) (by rw [z];exact hb)) (Nat.lt_irrefl _)
structure zby(P:Program)(w:World)(K:W.Frag)(tg:Expr)(J:It)(fp:List Addr)(it:Addr)(tn:Nat->Heap->Prop):Prop where
 mem:it∈fp
 obj:∀ i h,tn i h->∀ b∈fp,∃ o,h.get? b=some o/\∀ v,o.data≠.cell v
 keep:∀ i h h',tn i h->(∀ b∈fp,∀ o,h.get? b=some o->h'.get? b=some o)->tn i h'
 item:∀ (X:Cx),X.prog=P->X.w=w->X.K=K->X.calm=true->∀ (i:Nat)(pins:List (Addr×Obj))(s:Shared)(O:St)(H:Hp)(E:Value->Shared->Prop),Inv X pins O H s->(∀ b∈fp,z1P X pins H b)->tn i s.heap->J.go i H-> wpAny (model P w) X.A (pyNext (.ref it)) (fun r s1=>∃ u,r=some u/\ wpAny (model P w) X.A (letOwnedTupleGo tg (.ref it) u) (fun _ s2=>∃ x H',Inv X pins O H' s2/\xo x u/\J.yld i H x H'/\tn (i+1) s2.heap/\∀ b∈fp,H' b=none) E s1) E s
 done:∀ (X:Cx),X.prog=P->X.w=w->X.K=K->X.calm=true->∀ (i:Nat)(pins:List (Addr×Obj))(s:Shared)(O:St)(H:Hp)(E:Value->Shared->Prop),Inv X pins O H s->(∀ b∈fp,z1P X pins H b)->tn i s.heap->J.stop i H-> wpAny (model P w) X.A (pyNext (.ref it)) (fun r s1=>r=none/\Inv X pins O H s1) E s
 self:∀ (A:Around)(i:Nat)(s:Shared)(Q:Value->Shared->Prop)(E:Value->Shared->Prop),tn i s.heap->Q (.ref it) s->wpAny (model P w) A (pyIter (.ref it)) Q E s
abbrev TI:=St->Hp->(It->Hp->Prop)->Prop
def PIE(X:Cx)(pins:List (Addr×Obj))(O:St)(tg:Expr)(R:It->Hp->Prop)(itv:Value)(s2:Shared):Prop:= ∃ (it:Addr)(fp:List Addr)(tn:Nat->Heap->Prop)(J:It)(H':Hp),itv=.ref it/\Inv X pins O H' s2/\zby X.prog X.w X.K tg J fp it tn/\tn 0 s2.heap/\(∀ b∈fp,z1P X pins H' b)/\R J H'
def PI(X:Cx)(tg iter:Expr)(wi:TI):Prop:= ∀ (pins:List (Addr×Obj))(s:Shared)(O:St)(H:Hp)(R:It->Hp->Prop),Inv X pins O H s->wi O H R-> wpAny (model X.prog X.w) X.A (eval iter X.env) (fun v s1=>wpAny (model X.prog X.w) X.A (pyIter v) (PIE X pins O tg R) X.xe s1) X.xe s
theorem zcn{M:Model}{A:Around}{E:Value->Shared->Prop}{s:Shared}{tg:Expr}{it:Addr}{u:Value}{o:Obj}{n:String}{vs:Array Value}{Q:Unit->Shared->Prop}(ho:s.heap.get? it=some o)(hc:o.cls=.type n)(hd:o.data=.fields vs) (hn:["enumerate","zip","dict_itemiterator","dict_reverseitemiterator","odict_iterator","itertools.zip_longest","itertools.pairwise"].contains n=false)(hQ:Q () s):wpAny M A (letOwnedTupleGo tg (.ref it) u) Q E s:=by
  unfold letOwnedTupleGo;cases tg<;>first
    | exact wpAny_pure hQ | (cases u<;>first
        | exact wpAny_pure hQ
        | (refine wpAny_bind (wpAny_load ho ?_);rw [hc,hd];show wpAny M A (if (["enumerate","zip","dict_itemiterator","dict_reverseitemiterator","odict_iterator","itertools.zip_longest","itertools.pairwise"].contains n&&vs[0]? == some (rawInt _))=true then _ else _) Q E s;rw [if_neg (by intro h;rw [hn,Bool.false_and] at h;cases h)];exact wpAny_pure hQ))
def Itl(K:W.Frag)(a:Addr):It:= ⟨fun i H=>∃ xs x,SqL K H a xs/\xs[i]? = some x,fun i H x H'=>H'=H/\∀ xs,SqL K H a xs->xs[i]? = some x,fun i H=>∃ xs,SqL K H a xs/\xs.length<=i⟩
def Itt(K:W.Frag)(a:Addr):It:= ⟨fun i H=>∃ xs x,SqT K H a xs/\xs[i]? = some x,fun i H x H'=>H'=H/\∀ xs,SqT K H a xs->xs[i]? = some x,fun i H=>∃ xs,SqT K H a xs/\xs.length<=i⟩
def Itr(lo:Int)(n:Nat):It:=⟨fun i _=>i<n,fun i H x H'=>H'=H/\x=.int (lo+i),fun i _=>n<=i⟩
theorem z8t{P:Program}{w:World}{K:W.Frag}{tg:Expr}(a it:Addr):zby P w K tg (Itl K a) [it] it (fun i h=>h.IsListIter it a i) where
 mem:=by simp
 obj:=fun i h st b hb=>by
  have e:b=it:=by simpa using hb
  subst e;obtain ⟨o,e,c,d⟩:=st;exact ⟨o,e,fun v z=>by rw [d] at z;cases z⟩
 keep:=fun i h h' st k=>st.at fun o e=>k it (by simp) o e;item:=by
  intro X hP hw hK hc i pins s O H E I hf st hg;subst hP hw hK;obtain ⟨xs,x,hq,hx⟩:=hg;obtain ⟨its,rv,p,hz⟩:=I.list hq;obtain ⟨u,hu,ru⟩:=rv.get hx;obtain ⟨f0,f1,f2,f3,f4,f5⟩:=hf it (by simp);refine wpAny_pyNext_list_item st p.isList (x:=u) (by simpa using hu) fun h' st' sb=>?_;have I1:Inv X pins O H {s with heap:=h'}:=I.turned (t':=s.toks) (fun b o hb e=>(sb.2 b hb).trans e) f0 f1 f3 f4 f5;obtain ⟨o,e,c,d⟩:=id st';exact ⟨u,rfl,zcn (s:={s with heap:=h'}) e c d (by decide) ⟨x,H,I1,ru,⟨rfl,fun ys hy=>by rw [I.list_inj hy hq];exact hx⟩,st',fun b hb=>(hf b hb).1⟩⟩
 done:=by
  intro X hP hw hK hc i pins s O H E I hf st hg;subst hP hw hK;obtain ⟨xs,hq,hx⟩:=hg;obtain ⟨its,rv,p,hz⟩:=I.list hq;obtain ⟨f0,f1,f2,f3,f4,f5⟩:=hf it (by simp);have hl:=rv.length;exact wpAny_pyNext_list_end (I.ok.hd hc) st p.isList (by simp;omega) fun h' eb=>⟨rfl,I.turned (t':=s.toks) (fun b o hb e=>eb b o hb e) f0 f1 f3 f4 f5⟩
 self:=fun _ _ _ _ _ st h=>wpAny_pyIter_listiter st h
theorem z7q {P:Program} {w:World} {K:W.Frag} {tg:Expr} (a it:Addr):zby P w K tg (Itt K a) [it] it (fun i h=>h.IsTupleIter it a i) where
 mem:=by simp
 obj:=fun i h st b hb=>by
  have e:b=it:=by simpa using hb
  subst e;obtain ⟨o,e,c,d⟩:=st;exact ⟨o,e,fun v z=>by rw [d] at z;cases z⟩
 keep:=fun i h h' st k=>st.at fun o e=>k it (by simp) o e;item:=by
  intro X hP hw hK hc i pins s O H E I hf st hg;subst hP hw hK;obtain ⟨xs,x,hq,hx⟩:=hg;obtain ⟨its,rv,p,hz⟩:=I.tuple hq;obtain ⟨u,hu,ru⟩:=rv.get hx;obtain ⟨f0,f1,f2,f3,f4,f5⟩:=hf it (by simp);refine wpAny_pyNext_tuple_item st (show s.heap.IsTuple a its.toArray from p) (x:=u) (by simpa using hu) fun h' st' sb=>?_;have I1:Inv X pins O H {s with heap:=h'}:=I.turned (t':=s.toks) (fun b o hb e=>(sb.2 b hb).trans e) f0 f1 f3 f4 f5;obtain ⟨o,e,c,d⟩:=id st';exact ⟨u,rfl,zcn (s:={s with heap:=h'}) e c d (by decide) ⟨x,H,I1,ru,⟨rfl,fun ys hy=>by rw [I.tuple_inj hy hq];exact hx⟩,st',fun b hb=>(hf b hb).1⟩⟩
 done:=by
  intro X hP hw hK hc i pins s O H E I hf st hg;subst hP hw hK;obtain ⟨xs,hq,hx⟩:=hg;obtain ⟨its,rv,p,hz⟩:=I.tuple hq;obtain ⟨f0,f1,f2,f3,f4,f5⟩:=hf it (by simp);have hl:=rv.length;exact wpAny_pyNext_tuple_end (I.ok.hd hc) st (show s.heap.IsTuple a its.toArray from p) (by simp;omega) fun h' eb=>⟨rfl,I.turned (t':=s.toks) (fun b o hb e=>eb b o hb e) f0 f1 f3 f4 f5⟩
 self:=fun _ _ _ _ _ st h=>wpAny_pyIter_tupleiter st h
theorem z7u {P:Program} {w:World} {K:W.Frag} {tg:Expr} (it:Addr) (lo:Int) (n:Nat):zby P w K tg (Itr lo n) [it] it (fun i h=>IsRangeIter h it (lo+(i:Nat)*1) ((n:Int)-(i:Nat)) 1) where
 mem:=by simp
 obj:=fun i h st b hb=>by
  have e:b=it:=by simpa using hb
  subst e;exact ⟨_,st,fun v z=>by
   have z':Data.fields _=Data.cell v:=z;cases z'⟩
 keep:=fun i h h' st k=>k it (by simp) _ st;item:=by
  intro X hP hw hK hc i pins s O H E I hf st hg;subst hP hw hK;obtain ⟨f0,f1,f2,f3,f4,f5⟩:=hf it (by simp);have W:=Walks.range (prog:=X.prog) (w:=X.w) (I.ok.hd hc) it lo 1 n;refine W.item i s _ _ hg st fun v h' tk hv st' kk=>?_;obtain ⟨t,rfl⟩:=hv;have I1:Inv X pins O H {s with heap:=h',toks:=tk}:=I.turned (fun b o hb e=>kk b o (by simpa using hb) e) f0 f1 f3 f4 f5;refine ⟨_,rfl,zcn (s:={s with heap:=h',toks:=tk}) (n:="range_iterator") st' rfl rfl (by decide) ⟨.int (lo+i),H,I1,⟨t,?_⟩,⟨rfl,rfl⟩,st',fun b hb=>(hf b hb).1⟩⟩;rw [Int.mul_one]
 done:=by
  intro X hP hw hK hc i pins s O H E I hf st hg;subst hP hw hK;obtain ⟨f0,f1,f2,f3,f4,f5⟩:=hf it (by simp);exact wpAny_pyNext_range_end (I.ok.hd hc) st (by have:n<=i:=hg;omega) fun h' eb=>⟨rfl,I.turned (t':=s.toks) (fun b o hb e=>eb b o hb e) f0 f1 f3 f4 f5⟩
 self:=fun _ _ _ _ _ st h=>wpAny_pyIter_rangeiter st h
section
variable {X:Cx}{tg:Expr}
theorem z6N{pins:List (Addr×Obj)}{O:St}{H:Hp}{s:Shared}{R:It->Hp->Prop}{E:Value->Shared->Prop}{lo hi:Int}{t u v:Tok}{tk:Nat}(I:Inv X pins O H s)(h1:-(2 ^ 62)<=lo)(h2:lo<2 ^ 62)(h3:-(2 ^ 62)<=hi)(h4:hi<2 ^ 62) (q:R (Itr lo (hi-lo).toNat) H):wpAny (model X.prog X.w) X.A (pyIter (.ref s.heap.objs.size)) (PIE X pins O tg R) E {s with heap:=s.heap.push {cls:=.type "range",data:=.fields #[.int lo t,.int hi u,.int 1 v]},toks:=tk}:=by
 refine wpAny_pyIter_range (IsRange.new ..) (small_one h1 h2 h3 h4) ?_;have I1:Inv X pins O H {s with heap:=s.heap.push {cls:=.type "range",data:=.fields #[.int lo t,.int hi u,.int 1 v]},toks:=tk}:=I.kept fun b o e=>Heap.get?_push_of_some _ e;refine ⟨(s.heap.push {cls:=.type "range",data:=.fields #[.int lo t,.int hi u,.int 1 v]}).objs.size,[(s.heap.push {cls:=.type "range",data:=.fields #[.int lo t,.int hi u,.int 1 v]}).objs.size],_,_,H,rfl, I1.kept (t':=tk) fun b o e=>Heap.get?_push_of_some _ e,z7u _ lo (hi-lo).toNat,?_,fun b hb=>?_,q⟩
 ·have e1:lo+((0:Nat):Int)*1=lo:=by simp
  have e2:(((hi-lo).toNat:Nat):Int)-((0:Nat):Int)=Builtin.Range.rangeSize lo hi 1:=by rw [rangeSize_one];split<;>omega
  show IsRangeIter _ _ (lo+((0:Nat):Int)*1) ((((hi-lo).toNat:Nat):Int)-((0:Nat):Int)) 1;rw [e1,e2];exact Heap.get?_push_size _ rfl
 ·have e:b=(s.heap.push {cls:=.type "range",data:=.fields #[.int lo t,.int hi u,.int 1 v]}).objs.size:=by simpa using hb
  subst e;exact I1.fpOk (Nat.le_refl _) (I1.hok.fresh (Nat.le_refl _))
def zgP(ta:TA):TI:=fun O H R=>ta O H fun vs H1=>∃ j:Int,vs=[.int j]/\-(2 ^ 62)<=j/\j<2 ^ 62/\R (Itr 0 j.toNat) H1
def zfU(ta:TA):TI:=fun O H R=>ta O H fun vs H1=>∃ i j:Int,vs=[.int i,.int j]/\(-(2 ^ 62)<=i/\i<2 ^ 62/\-(2 ^ 62)<=j/\j<2 ^ 62)/\R (Itr i (j-i).toNat) H1
theorem z8e{a:Expr}{ta:TA}{p pos:Pos}(hg:Gl X "range")(hm:X.mg "range"=none)(ha:PA X [a] ta)(hs:starEach [a] X.env=[(false,eval a X.env)]:=by rfl):PI X tg (.Call (.Name "range" p) [a] [] pos) (zgP ta):=by
 intro pins s O H R I h;refine Call_ (qm I hg hm boot_range (PyProof.Rows.callWith_type1 (thn (ha pos pins s O H _ I h) fun us s1 ⟨vs,H1,I1,r1,q1⟩=>?_) hs rfl));obtain ⟨j,e,q1,q2,q⟩:=q1;subst e;cases r1 with | cons r rr=>
  cases rr;obtain ⟨t,rfl⟩:=r;exact call_range_1 (z6N I1 (by omega) (by omega) q1 q2 (by simpa using q))
theorem z8r{a b:Expr}{ta:TA}{p pos:Pos}(hg:Gl X "range")(hm:X.mg "range"=none)(ha:PA X [a,b] ta)(hs:starEach [a,b] X.env=[(false,eval a X.env),(false,eval b X.env)]:=by rfl)(hs2:starEach [b] X.env=[(false,eval b X.env)]:=by rfl): PI X tg (.Call (.Name "range" p) [a,b] [] pos) (zfU ta):=by
 intro pins s O H R I h;refine Call_ (qm I hg hm boot_range (PyProof.Rows.callWith_type1 (thn (ha pos pins s O H _ I h) fun us s1 ⟨vs,H1,I1,r1,q1⟩=>?_) (by rw [hs,hs2]) (by rw [hs2];rfl)));obtain ⟨i,j,e,⟨q1,q2,q3,q4⟩,q⟩:=q1;subst e;cases r1 with | cons r rr=> cases rr with | cons r' rr=>
   cases rr;obtain ⟨t,rfl⟩:=r;obtain ⟨t',rfl⟩:=r';exact call_range_2 (z6N I1 q1 q2 q3 q4 q)
def zii(wi:TI)(g:TG)(tb:TS):TS:=fun D O H=>wi O H fun J H1=>∃ W:Nat->Nat->St->Hp->Prop,(∃ m,W 0 m O H1)/\∀ i m O H,W i m O H-> (J.stop i H/\D.nx O H)\/(J.go i H/\∃ N:St->Hp->Prop,(∀ O' H',N O' H'->∃ m',m'<m/\W (i+1) m' O' H')/\∀ x H',J.yld i H x H'->g x O H' fun O2 H2=>tb {D with nx:=N,ct:=N,bk:=D.nx} O2 H2)
def z2k(fp:List Addr)(h:Heap):List (Addr×Obj):=fp.filterMap fun b=>(h.get? b).map fun o=>(b,o)
theorem vW{fp:List Addr}{h:Heap}{b:Addr}{o:Obj}(hb:b∈fp)(e:h.get? b=some o):(b,o)∈z2k fp h:=List.mem_filterMap.mpr ⟨b,hb,by rw [e];rfl⟩
theorem z9f{fp:List Addr}{h:Heap}{p:Addr×Obj}(hp:p∈z2k fp h):p.1∈fp/\h.get? p.1=some p.2:=by
 obtain ⟨b,hb,e⟩:=List.mem_filterMap.mp hp;cases q:h.get? b with
 | none=>rw [q] at e;cases e | some o=>
  rw [q] at e;have e':(b,o)=p:=Option.some.inj e;subst e';exact ⟨hb,q⟩
theorem Inv.pinned{pins:List (Addr×Obj)}{O:St}{H:Hp}{s:Shared}{fp:List Addr}(I:Inv X pins O H s)(hf:∀ b∈fp,z1P X pins H b)(ho:∀ b∈fp,∃ o,s.heap.get? b=some o/\∀ v,o.data≠.cell v):Inv X (pins++z2k fp s.heap) O H s:= I.pins_of fun p hp=>(List.mem_append.mp hp).elim (fun z=>I.pin p (List.mem_append_right _ z)) fun z=>by
  obtain ⟨hb,e⟩:=z9f z;obtain ⟨f0,f1,f2,_⟩:=hf p.1 hb;obtain ⟨o,e',d⟩:=ho p.1 hb;rw [e] at e';cases e';exact ⟨e,f0,f1,f2,d⟩
theorem Inv.unpinned{pins pl:List (Addr×Obj)}{O:St}{H:Hp}{s:Shared}(I:Inv X (pins++pl) O H s):Inv X pins O H s:=I.pins_of fun p hp=>I.pin p (List.mem_append_right _ (List.mem_append_left _ hp))
theorem zeV{iter:Expr}{body:List Stmt}{wi:TI}{g:TG}{tb:TS}{pos:Pos}(hp:PassesOwn (model X.prog X.w) X.A X.env X.xe)(hc:X.calm=true)(hi:PI X tg iter wi)(hg:PG X tg g)(hb:PSs X body tb) (hs:∀ x,foldedSetIterable iter X.env x=pure x:=by intro _;rfl):PS X (.For tg iter body [] pos) (zii wi g tb):=by
 intro pins s O H D I h;refine wpAny_For (thn (hi pins s O H _ I h) fun v s1 h1=>thn h1 fun itv s2 h2=>?_) hs;obtain ⟨it,fp,tn,J,H2,e,I2,T,st2,f2,W,⟨m0,w0⟩,turn⟩:=h2;subst e;have stat:∀ {H':Hp},(∀ b∈fp,H' b=none)->∀ b∈fp,z1P X pins H' b:=fun hn b hb=>⟨hn b hb,(f2 b hb).2⟩;refine codeAny_forLoop_any (fun n s'=>∃ i O' H',Inv X pins O' H' s'/\tn i s'.heap/\(∀ b∈fp,H' b=none)/\W i n O' H') ?_ m0 ⟨0,O,H2,I2,st2,fun b hb=>(f2 b hb).1,w0⟩;rintro n s3 ⟨i,O3,H3,I3,st3,fr3,w3⟩;rcases turn i n O3 H3 w3 with ⟨stop,qn⟩ | ⟨go,N,hN,step⟩
 ·refine wpAny_passesOwn hp (thn (T.done X rfl rfl rfl hc i pins s3 O3 H3 X.xe I3 (stat fr3) st3 stop) fun r s4 ⟨hr,I4⟩=>?_);subst hr;exact wpAny_execs_nil ⟨O3,H3,I4,qn⟩
 ·refine wpAny_passesOwn hp (thn (T.item X rfl rfl rfl hc i pins s3 O3 H3 X.xe I3 (stat fr3) st3 go) fun r s4 ⟨u,hr,h4⟩=>?_);subst hr;refine wpAny_passesOwn hp (thn h4 fun _ s5 ⟨x,H5,I5,r5,y5,st5,fr5⟩=>?_);have I5':=I5.pinned (stat fr5) (T.obj _ _ st5);refine wpAny_passesOwn hp (thn (hg _ s5 O3 H5 x u _ I5' r5 (step x H5 y5)) fun _ s6 ⟨O6,H6,I6,q6⟩=>?_);refine wpAny_passesOwn hp (thn (hb _ s6 O6 H6 _ I6 q6) fun f s7 q7=>?_);have again:∀ {O7:St}{H7:Hp},Inv X (pins++z2k fp s5.heap) O7 H7 s7->N O7 H7->∃ m,m<n/\∃ i O' H',Inv X pins O' H' s7/\tn i s7.heap/\(∀ b∈fp,H' b=none)/\W i m O' H':=fun {O7 H7} I7 n7=>by
   obtain ⟨m',hm,w7⟩:=hN O7 H7 n7;refine ⟨m',hm,i+1,O7,H7,I7.unpinned,T.keep _ _ _ st5 fun b hb o e=>(I7.pin (b,o) (List.mem_append_right _ (List.mem_append_right _ (vW hb e)))).1,fun b hb=>?_,w7⟩;obtain ⟨o,e,d⟩:=T.obj _ _ st5 b hb;exact (I7.pin (b,o) (List.mem_append_right _ (List.mem_append_right _ (vW hb e)))).2.1
  cases f with
  | next=>obtain ⟨O7,H7,I7,n7⟩:=q7;exact again I7 n7 | cont=>obtain ⟨O7,H7,I7,n7⟩:=q7;exact again I7 n7 | brk=>obtain ⟨O7,H7,I7,q7⟩:=q7;exact ⟨O7,H7,I7.unpinned,q7⟩ | ret v=>obtain ⟨x7,O7,H7,I7,r7,q7⟩:=q7;exact ⟨x7,O7,H7,I7.unpinned,r7,q7⟩
end
abbrev R2:=V->V->Hp->VK->Prop
def OpR(X:Cx)(f:Value->Value->Sem Value)(r:R2):Prop:= ∀ (pins:List (Addr×Obj))(s:Shared)(O:St)(H:Hp)(x y:V)(v u:Value)(Q:VK),Inv X pins O H s->xo x v->xo y u->r x y H Q-> wpAny (model X.prog X.w) X.A (f v u) (EP X pins O Q) X.xe s
def UnR(X:Cx)(f:Value->Sem Value)(r:V->Hp->VK->Prop):Prop:= ∀ (pins:List (Addr×Obj))(s:Shared)(O:St)(H:Hp)(x:V)(v:Value)(Q:VK),Inv X pins O H s->xo x v->r x H Q-> wpAny (model X.prog X.w) X.A (f v) (EP X pins O Q) X.xe s
def wu(X:Cx)(f:Value)(r:List V->Hp->VK->Prop):Prop:= ∀ (pins:List (Addr×Obj))(s:Shared)(O:St)(H:Hp)(xs:List V)(us:List Value)(Q:VK),Inv X pins O H s->yG xs us->r xs H Q-> wpAny (model X.prog X.w) X.A (call f us) (EP X pins O Q) X.xe s
def tOp(r:R2)(ta tb:TE):TE:=fun O H Q=>ta O H fun x H1=>tb O H1 fun y H2=>r x y H2 Q
def tUn(r:V->Hp->VK->Prop)(ta:TE):TE:=fun O H Q=>ta O H fun x H1=>r x H1 Q
def rI(C:Int->Int->Prop)(g:Int->Int->V):R2:=fun x y H Q=>∃ i j,x=.int i/\y=.int j/\C i j/\Q (g i j) H
def rI0(g:Int->Int->V):R2:=fun x y H Q=>∃ i j,x=.int i/\y=.int j/\Q (g i j) H
def rU(g:Int->V):V->Hp->VK->Prop:=fun x H Q=>∃ i,x=.int i/\Q (g i) H
section
variable {X:Cx}{a b c:Expr}{ta tb tc:TE}{pos:Pos}
theorem zgB(ha:PE X a ta)(hb:PE X b tb){pins:List (Addr×Obj)}{s:Shared}{O:St}{H:Hp}{R:V->V->Hp->Prop}(I:Inv X pins O H s) (h:ta O H fun x H1=>tb O H1 fun y H2=>R x y H2){Q:Value->Shared->Prop}{f:Value->Value->Sem Value} (hf:∀ v u s2 x y H2,Inv X pins O H2 s2->xo x v->xo y u->R x y H2->wpAny (model X.prog X.w) X.A (f v u) Q X.xe s2): wpAny (model X.prog X.w) X.A (eval a X.env) (fun v s₁=>wpAny (model X.prog X.w) X.A (eval b X.env) (fun u s₂=>wpAny (model X.prog X.w) X.A (f v u) Q X.xe s₂) X.xe s₁) X.xe s:=by
 refine thn (ha pins s O H _ I h) fun v s1 ⟨x,H1,I1,r1,q1⟩=>?_;refine thn (hb pins s1 O H1 _ I1 q1) fun u s2 ⟨y,H2,I2,r2,q2⟩=>?_;exact hf v u s2 x y H2 I2 r1 r2 q2
theorem zgZ{op:Operator}{r:R2}(ho:OpR X (binaryOp op) r)(ha:PE X a ta)(hb:PE X b tb):PE X (.BinOp a op b pos) (tOp r ta tb):=by
 intro pins s O H Q I h;exact wpAny_BinOp (zgB ha hb I h fun v u s2 x y H2 I2 rx ry q=>ho pins s2 O H2 x y v u Q I2 rx ry q)
theorem zh5{op:UnaryOp}{r:V->Hp->VK->Prop}(ho:UnR X (unaryOp op) r)(ha:PE X a ta):PE X (.UnaryOp op a pos) (tUn r ta):=by
 intro pins s O H Q I h;exact UnaryOp_ (thn (ha pins s O H _ I h) fun v s1 ⟨x,H1,I1,r1,q1⟩=>ho pins s1 O H1 x v Q I1 r1 q1)
theorem opI {f:Value->Value->Sem Value} {C:Int->Int->Prop} {g:Int->Int->Int} (rule:∀ (i j:Int) (t u:Tok) (s:Shared) (Q:Value->Shared->Prop) (E:Value->Shared->Prop),C i j->Q (.int (g i j) s.toks) {s with toks:=s.toks+1}->wpAny (model X.prog X.w) X.A (f (.int i t) (.int j u)) Q E s): OpR X f (rI C fun i j=>.int (g i j)):=by
 intro pins s O H x y v u Q I rx ry h;obtain ⟨i,j,rfl,rfl,hc,q⟩:=h;obtain ⟨t,rfl⟩:=rx;obtain ⟨t',rfl⟩:=ry;exact rule i j t t' s _ _ hc ⟨.int (g i j),H,I.tok _,⟨_,rfl⟩,q⟩
theorem zhT {f:Value->Value->Sem Value} {g:Int->Int->Int} (rule:∀ (i j:Int) (t u:Tok) (s:Shared) (Q:Value->Shared->Prop) (E:Value->Shared->Prop),Q (.int (g i j) s.toks) {s with toks:=s.toks+1}->wpAny (model X.prog X.w) X.A (f (.int i t) (.int j u)) Q E s): OpR X f (rI0 fun i j=>.int (g i j)):=by
 intro pins s O H x y v u Q I rx ry h;obtain ⟨i,j,rfl,rfl,q⟩:=h;obtain ⟨t,rfl⟩:=rx;obtain ⟨t',rfl⟩:=ry;exact rule i j t t' s _ _ ⟨.int (g i j),H,I.tok _,⟨_,rfl⟩,q⟩
theorem zfx{f:Value->Value->Sem Value}{g:Int->Int->Bool} (rule:∀ (i j:Int)(t u:Tok)(s:Shared)(Q:Value->Shared->Prop)(E:Value->Shared->Prop),Q (.bool (g i j)) s->wpAny (model X.prog X.w) X.A (f (.int i t) (.int j u)) Q E s): OpR X f (rI0 fun i j=>.bl (g i j)):=by
 intro pins s O H x y v u Q I rx ry h;obtain ⟨i,j,rfl,rfl,q⟩:=h;obtain ⟨t,rfl⟩:=rx;obtain ⟨t',rfl⟩:=ry;exact rule i j t t' s _ _ ⟨.bl (g i j),H,I,rfl,q⟩
def ziB(i j:Int):Prop:=0<=j/\j<=1000000/\i.natAbs<2 ^ 64
theorem zdX:OpR X (binaryOp .Add) (rI0 fun i j=>.int (i+j)):=zhT fun _ _ _ _ _ _ _ q=>add_int q
theorem zdS:OpR X (binaryOp .Sub) (rI0 fun i j=>.int (i-j)):=zhT fun _ _ _ _ _ _ _ q=>sub_int q
theorem zes:OpR X (binaryOp .Mod) (rI (fun _ j=>0<j) fun i j=>.int (i % j)):=opI fun i j _ _ _ _ _ hc q=>by
 have h1:(0:Int)<j:=hc;exact mod_int' (by omega) (by rw [Int.fmod_eq_emod_of_nonneg i (by omega)];exact q)
theorem zfh:OpR X (binaryOp .Pow) (rI ziB fun i j=>.int (i ^ j.toNat)):=opI fun _ _ _ _ _ _ _ hc q=>pow_int_small hc.1 hc.2.1 hc.2.2 q
theorem unI {f:Value->Sem Value} {g:Int->Int} (rule:∀ (i:Int) (t:Tok) (s:Shared) (Q:Value->Shared->Prop) (E:Value->Shared->Prop),Q (.int (g i) s.toks) {s with toks:=s.toks+1}->wpAny (model X.prog X.w) X.A (f (.int i t)) Q E s): UnR X f (rU fun i=>.int (g i)):=by
 intro pins s O H x v Q I rx h;obtain ⟨i,rfl,q⟩:=h;obtain ⟨t,rfl⟩:=rx;exact rule i t s _ _ ⟨.int (g i),H,I.tok _,⟨_,rfl⟩,q⟩
theorem ze1:UnR X (unaryOp .USub) (rU fun i=>.int (-i)):=unI fun _ _ _ _ _ q=>neg_int q
end
section
variable {X:Cx}{a b c:Expr}{ta tb tc:TE}{pos:Pos}
theorem zfl{pins:List (Addr×Obj)}{O:St}{H:Hp}{s:Shared}{Q:VK}{k k':Bool}(I:Inv X pins O H s)(q:Q (.bl k) H)(e:k=k'):EP X pins O Q (.bool k') s:=by
 subst e;exact ⟨.bl k,H,I,rfl,q⟩
theorem zgw:OpR X (compareOp .Lt) (rI0 fun i j=>.bl (decide (i<j))):=zfx fun _ _ _ _ _ _ _ q=>lt_int q
theorem zgo:OpR X (compareOp .LtE) (rI0 fun i j=>.bl (decide (i<=j))):=zfx fun _ _ _ _ _ _ _ q=>le_int q
theorem zh8:OpR X (compareOp .Gt) (rI0 fun i j=>.bl (decide (j<i))):=zfx fun _ _ _ _ _ _ _ q=>gt_int q
theorem zhl:OpR X (compareOp .GtE) (rI0 fun i j=>.bl (decide (j<=i))):=zfx fun _ _ _ _ _ _ _ q=>ge_int q
theorem zed:OpR X (compareOp .Is) (fun x y H Q=>y=.non/\Q (.bl (decide (x=.non))) H):=by
 intro pins s O H x y v u Q I rx ry h;obtain ⟨rfl,q⟩:=h;cases ry;refine is_none_gen (zfl I q ?_);cases x<;>first
  | (cases rx;rfl) | (obtain ⟨t,rfl⟩:=rx;rfl)
theorem OpR.or{f:Value->Value->Sem Value}{r r':R2}(h:OpR X f r)(h':OpR X f r'):OpR X f (fun x y H Q=>r x y H Q\/r' x y H Q):=by
 intro pins s O H x y v u Q I rx ry q;rcases q with q | q;·exact h pins s O H x y v u Q I rx ry q
 ·exact h' pins s O H x y v u Q I rx ry q
theorem zb4(b:Expr){op:CmpOp}(h:op≠.In:=by decide)(h2:op≠.NotIn:=by decide):behindInMarks op b=false:=by
 have e1:(op==CmpOp.In)=false:=by cases op<;>first | rfl | exact absurd rfl h
 have e2:(op==CmpOp.NotIn)=false:=by cases op<;>first | rfl | exact absurd rfl h2
 cases b<;>simp [behindInMarks,e1,e2]
theorem z7Y{op:CmpOp}{r:R2}(ho:OpR X (compareOp op) r)(ha:PE X a ta)(hb:PE X b tb)(hm:behindInMarks op b=false):PE X (.Compare a [op] [b] pos) (tOp r ta tb):=by
 intro pins s O H Q I h;exact wpAny_Compare1 (zgB ha hb I h fun v u s2 x y H2 I2 rx ry q=>ho pins s2 O H2 x y v u Q I2 rx ry q) hm
def zd1(t:TE):TT:=fun O H Q=>t O H fun x H'=>∃ k,x=.bl k/\Q k H'
theorem zdk{op:CmpOp}{r:R2}(ho:OpR X (compareOp op) r)(ha:PE X a ta)(hb:PE X b tb)(hm:behindInMarks op b=false):PT X (.Compare a [op] [b] pos) (zd1 (tOp r ta tb)):=by
 intro pins s O H Q I h;refine wpAny_isTrue_Compare1 (thn (ha pins s O H _ I h) fun v s1 ⟨x,H1,I1,r1,q1⟩=>thn (hb pins s1 O H1 _ I1 q1) fun u s2 ⟨y,H2,I2,r2,q2⟩=> thn (ho pins s2 O H2 x y v u _ I2 r1 r2 q2) fun c s3 ⟨z,H3,I3,r3,k,e,q3⟩=>?_) hm;subst e;cases r3;exact wpAny_truthy_bool ⟨H3,I3,q3⟩
def z7Z(r r':R2)(ta tb tc:TE):TE:=fun O H Q=>ta O H fun x H1=>tb O H1 fun y H2=>r x y H2 fun z H3=>∃ k,z=.bl k/\ (if k=true then tc O H3 fun w' H4=>r' y w' H4 Q else Q (.bl false) H3)
theorem z9Q{op op':CmpOp}{r r':R2}(ho:OpR X (compareOp op) r)(ho':OpR X (compareOp op') r')(ha:PE X a ta)(hb:PE X b tb)(hc:PE X c tc) (hm:lastMarks [op,op'] [b,c]=false:=by with_unfolding_all rfl):PE X (.Compare a [op,op'] [b,c] pos) (z7Z r r' ta tb tc):=by
 intro pins s O H Q I h;refine Compare_chain (thn (ha pins s O H _ I h) fun v s1 ⟨x,H1,I1,r1,q1⟩=>chain_link (thn (hb pins s1 O H1 _ I1 q1) fun u s2 ⟨y,H2,I2,r2,q2⟩=> thn (ho pins s2 O H2 x y v u _ I2 r1 r2 q2) fun d s3 ⟨z,H3,I3,r3,k,e,q3⟩=>?_)) hm;subst e;cases r3;refine wpAny_truthy_bool ?_;cases k with
 | false=>exact ite_ff ⟨.bl false,H3,I3,rfl,q3⟩ | true=>exact ite_tt (chain_last (thn (hc pins s3 O H3 _ I3 q3) fun w' s4 ⟨z',H4,I4,r4,q4⟩=>ho' pins s4 O H4 y z' u w' Q I4 r2 r4 q4))
theorem z9Z{op op':CmpOp}{r r':R2}(ho:OpR X (compareOp op) r)(ho':OpR X (compareOp op') r')(ha:PE X a ta)(hb:PE X b tb)(hc:PE X c tc) (hm:lastMarks [op,op'] [b,c]=false:=by with_unfolding_all rfl):PT X (.Compare a [op,op'] [b,c] pos) (zd1 (z7Z r r' ta tb tc)):=by
 intro pins s O H Q I h;refine isTrue_chain (thn (ha pins s O H _ I h) fun v s1 ⟨x,H1,I1,r1,q1⟩=>test_link (thn (hb pins s1 O H1 _ I1 q1) fun u s2 ⟨y,H2,I2,r2,q2⟩=> thn (ho pins s2 O H2 x y v u _ I2 r1 r2 q2) fun d s3 ⟨z,H3,I3,r3,k,e,q3⟩=>?_)) hm;subst e;cases r3;refine wpAny_truthy_bool ?_;cases k with
 | false=>
  obtain ⟨k',e',q'⟩:=q3;cases e';exact ite_ff ⟨H3,I3,q'⟩ | true=>
  refine ite_tt (test_last (thn (hc pins s3 O H3 _ I3 q3) fun w' s4 ⟨z',H4,I4,r4,q4⟩=>thn (ho' pins s4 O H4 y z' u w' _ I4 r2 r4 q4) fun d' s5 ⟨z2,H5,I5,r5,k2,e2,q5⟩=>?_));subst e2;cases r5;exact wpAny_truthy_bool ⟨H5,I5,q5⟩
theorem z5Z:(sizeLine:Nat)<2 ^ 63:=by rw [sizeLine_eq];decide
theorem vals1{x:V}{us:List Value}(r:yG [x] us):∃ u,us=[u]/\xo x u:=by cases r with | cons r1 r2=>cases r2;exact ⟨_,rfl,r1⟩
theorem vals2{x y:V}{us:List Value}(r:yG [x,y] us):∃ u w',us=[u,w']/\xo x u/\xo y w':=by cases r with | cons r1 r2=> cases r2 with | cons r3 r4=>cases r4;exact ⟨_,_,rfl,r1,r3⟩
theorem z83(hc:X.calm=true):wu X (.builtin "max") (fun xs H Q=>∃ i j,xs=[.int i,.int j]/\Q (.int (if j > i then j else i)) H):=by
 intro pins s O H xs us Q I r h;obtain ⟨i,j,rfl,q⟩:=h;obtain ⟨u,w',rfl,⟨t,rfl⟩,⟨t',rfl⟩⟩:=vals2 r;refine max_two_ints (I.ok.hd hc) fun h' tk k=>⟨_,H,I.kept k,?_,q⟩;by_cases hj:j > i;·rw [if_pos hj,if_pos hj];exact ⟨_,rfl⟩
 ·rw [if_neg hj,if_neg hj];exact ⟨_,rfl⟩
theorem z9s(hc:X.calm=true):wu X (.builtin "min") (fun xs H Q=>∃ i j,xs=[.int i,.int j]/\Q (.int (if j<i then j else i)) H):=by
 intro pins s O H xs us Q I r h;obtain ⟨i,j,rfl,q⟩:=h;obtain ⟨u,w',rfl,⟨t,rfl⟩,⟨t',rfl⟩⟩:=vals2 r;refine min_two_ints (I.ok.hd hc) fun h' tk k=>⟨_,H,I.kept k,?_,q⟩;by_cases hj:j<i;·rw [if_pos hj,if_pos hj];exact ⟨_,rfl⟩
 ·rw [if_neg hj,if_neg hj];exact ⟨_,rfl⟩
theorem z82:wu X (.type "int") (fun xs H Q=>(∃ i,xs=[.int i]/\Q (.int i) H)\/∃ k,xs=[.bl k]/\Q (.int (if k then 1 else 0)) H):=by
 intro pins s O H xs us Q I r h;rcases h with ⟨i,rfl,q⟩ | ⟨k,rfl,q⟩
 ·obtain ⟨u,rfl,t,rfl⟩:=vals1 r;exact call_int_int ⟨.int i,H,I,⟨_,rfl⟩,q⟩
 ·obtain ⟨u,rfl,r1⟩:=vals1 r;cases r1;exact call_int_bool ⟨.int (if k then 1 else 0),H,I.tok _,⟨_,rfl⟩,q⟩
end
structure zgL(h:Heap)(x dx C:Addr)(mA:Str->Option Value):Prop where
 obj:h.get? x=some (W.instObj C dx)
 ns:h.Ns1 dx mA
 ne:dx≠x
theorem z8Z{h:Heap}{dx:Addr}{mA:Str->Option Value}(n:h.Ns1 dx mA):∃ od,h.get? dx=some od/\∀ name,W.lookIn name od=some (mA name):=by
 obtain ⟨o,es,ep,ho,hd,hk,_,hm⟩:=n;refine ⟨o,ho,fun name=>?_⟩;have e:=hm name;unfold nsFind findBy at e;rw [<- Array.find?_toList] at e;unfold W.lookIn;rw [hd];dsimp only;split
 ·rename_i y q;rw [q] at e;exact congrArg some e
 ·rename_i q;rw [q] at e;have a:es.toList.any (·.refKey)=false:=by
   rw [List.any_eq_false];intro y hy;obtain ⟨z,t,hkey⟩:=hk y (Array.mem_toList_iff.mp hy);simp [DictEntry.refKey,hkey]
  have a':¬ es.toList.any (·.refKey)=true:=by rw [a];exact Bool.false_ne_true
  rw [if_neg a'];exact congrArg some e
theorem zgL.look{h:Heap}{x dx C:Addr}{mA:Str->Option Value}(I:zgL h x dx C mA):∃ od,W.InstAt h x (W.instObj C dx) C (some od)/\∀ name,W.lookIn name od=some (mA name):= let ⟨od,ho,hl⟩:=z8Z I.ns;⟨od,⟨I.obj,rfl,rfl,ho⟩,hl⟩
section
variable {P:Program}{w:World}{H H':Hp}{h h':Heap}{a C dx:Addr}{fs fs':List (Str×V)}
theorem zcw(hok:HOk P w H h)(e:H a=some (.ins C dx fs)):∃ mA,zgL h a dx C mA/\(∀ f,zh2 (fs.lookup f) (mA f))/\PySem.Within mA (fs.map (·.1))/\fs.length<=1000/\H dx=some (.own a):=by
 obtain ⟨d,z,ne,ob,mA,n,r,q⟩:=(show wS P w H h a (.ins C dx fs) from hok a _ e);exact ⟨mA,⟨ob,n,ne⟩,r,q,z,d⟩
end
structure Cls(K:W.Frag)(C:Addr):Prop where
 pg:W.plainGet K C Str.empty=true
 hd:W.hasDictIn K C=true
 po:W.plainOver K C=true
 sa:W.findIn K (.ref C) "__setattr__"=some (some (.builtin "object.__setattr__"))
theorem Cls.get{K:W.Frag}{C:Addr}(c:Cls K C)(f:Str):W.plainGet K C f=true:=c.pg
section
variable {X:Cx}{pins:List (Addr×Obj)}{O:St}{H:Hp}{s:Shared}{A:Around}{E:Value->Shared->Prop}{Q:Value->Shared->Prop}{c:Value}{b:Bool}
inductive z6d(K:W.Frag)(H:Hp):V->Value->Prop where | non:z6d K H .non (.type "NoneType") | bl (x:Bool):z6d K H (.bl x) (.type "bool") | int (i:Int):z6d K H (.int i) (.type "int") | str (x:Str):z6d K H (.str x) (.type "str") | flt (x:UInt64):z6d K H (.flt x) (.type "float") | lst {a:Addr}{xs:List V}(e:H a=some (.lst xs)):z6d K H (.ref a) (.type "list") | frz {a:Addr}{o:Obj}{xs:List V}(e:H a=some (.frz o (.lst xs))):z6d K H (.ref a) (.type "list") | tup {a:Addr}{xs:List V}(e:H a=some (.tup xs)):z6d K H (.ref a) (.type "tuple") | dK {a:Addr}{kvs:List (Key×V)}(e:H a=some (.dK kvs)):z6d K H (.ref a) (.type "dict") | dT {a:Addr}{kvs:List (List Key×V)}(e:H a=some (.dT kvs)):z6d K H (.ref a) (.type "dict") | ins {a C dx:Addr}{fs:List (Str×V)}(e:H a=some (.ins C dx fs))(cl:Cls K C)(ha:W.findIn K (.ref C) "__class__"=some (some (.builtin "object.__class__"))) (hn:W.specialIn K (.builtin "object.__class__") "__get__"=some (some (.builtin "getset_descriptor.__get__")))(htk:W.takesIn K (.builtin "object.__class__")=some true) (hm:W.mroIn K C (.type "object")=some true):z6d K H (.ref a) (.ref C)
theorem z91 {x:V} {u t:Value} (I:Inv X pins O H s) (rx:xo x u) (ty:z6d X.K H x t) (e:W.kitOne X.K t c=some b) (h:∀ tk,Q (.bool b) {s with toks:=tk}): wpAny (model X.prog X.w) A (call (.builtin "isinstance") [u,c]) Q E s:=by cases ty with
 | non=>cases (show u=Value.none from rx);exact W.kia_one W.kitx_none I.kIn True.intro e (fun z=>nomatch z) h | bl y=>cases (show u=Value.bool y from rx);exact W.kia_one W.kitx_bool I.kIn True.intro e (fun z=>nomatch z) h | int i=>obtain ⟨t,q⟩:=(show ∃ t,u=Value.int i t from rx);cases q;exact W.kia_one W.kitx_int I.kIn True.intro e (fun z=>nomatch z) h | str y=>obtain ⟨t,q⟩:=(show ∃ t,u=Value.str y t from rx);cases q;exact W.kia_one W.kitx_str I.kIn True.intro e (fun z=>nomatch z) h | flt y=>obtain ⟨t,q⟩:=(show ∃ t,u=Value.float y t from rx);cases q;exact W.kia_one W.kitx_float I.kIn True.intro e (fun z=>nomatch z) h | @lst a xs ea=>
  cases (show u=Value.ref a from rx);obtain ⟨_,_,n,_,h1⟩:=(show wS X.prog X.w H s.heap a (.lst xs) from I.hok a _ ea);exact W.kia_one W.kitx_list I.kIn ⟨_,h1,rfl⟩ e (fun z=>nomatch z) h | @frz a ob xs ea=>
  cases (show u=Value.ref a from rx);obtain ⟨_,_,_,n,_,h1⟩:=(show wS X.prog X.w H s.heap a (.frz ob (.lst xs)) from I.hok a _ ea);exact W.kia_one W.kitx_list I.kIn ⟨_,h1,rfl⟩ e (fun z=>nomatch z) h | @tup a xs ea=>
  cases (show u=Value.ref a from rx);obtain ⟨_,_,_,p⟩:=(show wS X.prog X.w H s.heap a (.tup xs) from I.hok a _ ea);obtain ⟨o,h1,h2,_⟩:=p;exact W.kia_one W.kitx_tuple I.kIn ⟨o,h1,h2⟩ e (fun z=>nomatch z) h | @dK a kvs ea=>
  cases (show u=Value.ref a from rx);obtain ⟨_,_,vs,_,p⟩:=(show wS X.prog X.w H s.heap a (.dK kvs) from I.hok a _ ea);obtain ⟨o,es,ep,h1,h2,_⟩:=p;exact W.kia_one W.kitx_dict I.kIn ⟨o,h1,h2.1⟩ e (fun z=>nomatch z) h | @dT a kvs ea=>
  cases (show u=Value.ref a from rx);obtain ⟨_,_,xs,_,o,es,ep,h1,h2,_⟩:=(show wS X.prog X.w H s.heap a (.dT kvs) from I.hok a _ ea);exact W.kia_one W.kitx_dict I.kIn ⟨o,h1,h2.1⟩ e (fun z=>nomatch z) h | @ins a C dx fs ea cl ha hn htk hm=>
  cases (show u=Value.ref a from rx);obtain ⟨mA,Oo,_⟩:=zcw I.hok ea;obtain ⟨od,J,_⟩:=Oo.look;exact W.kia_one (W.kitx_own (cl.get _) cl.hd ha hn htk hm) I.kIn J e (fun z=>nomatch z) h
end
structure z0n(k:Nat)(A:Around):Prop where
 hd:A.handled=none
 dp:A.depth+3*k+5<recursionLimit
 un:A.units+16*k+200<cLine
 gd:A.guards=some []
theorem z0n.mono{j k:Nat}{A:Around}(r:z0n k A)(h:j<=k):z0n j A:=⟨r.hd,by have:=r.dp;omega,by have:=r.un;omega,r.gd⟩
theorem z0n.deeper{k:Nat}{A:Around}(r:z0n (k+1) A)(env:Env):z0n k (A.deeper env):= ⟨r.hd,by have:=r.dp;show A.depth+1+3*k+5<_;omega,by have:=r.un;show A.units+3+16*k+200<_;omega,r.gd⟩
theorem z0n.depth{k:Nat}{A:Around}(r:z0n k A):A.depth<recursionLimit:=by have:=r.dp;omega
theorem z0n.units{k:Nat}{A:Around}(r:z0n k A):A.units+64<cLine:=by have:=r.un;omega
def zhp:TA:=fun _ H Q=>Q [] H
def zhn(ta:TE)(tr:TA):TA:=fun O H Q=>ta O H fun x H1=>tr O H1 fun xs H2=>Q (x::xs) H2
section
variable {X:Cx}{e:Expr}{es:List Expr}{te:TE}{t:TA}{pos:Pos}
theorem z3x:PA X [] zhp:=fun _ _ _ _ H Q I h=>Calls.spliced_nil ⟨[],H,I,.nil,h⟩
theorem jZ(ha:PE X e te)(hr:PA X es t)(hs:starEach (e::es) X.env=(false,eval e X.env)::starEach es X.env:=by rfl):PA X (e::es) (zhn te t):=by
 intro pos pins s O H Q I h;rw [hs];show wpAny _ _ (spliced ((false,eval e X.env)::backTo pos (starEach es X.env))) _ _ s;refine Calls.spliced_cons (thn (ha pins s O H _ I h) fun u s1 ⟨x,H1,I1,r1,q1⟩=>?_);exact thn (hr pos pins s1 O H1 _ I1 q1) fun us s2 ⟨xs,H2,I2,r2,q2⟩=>⟨x::xs,H2,I2,.cons r1 r2,q2⟩
def zis(t:TA):TE:=fun O H Q=>t O H fun xs H1=>xs.length<=sizeLine/\∀ p,H1 p=none->Q (.ref p) (upd H1 p (.tup xs))
def ziq(t:TA):TE:=fun O H Q=>t O H fun xs H1=>xs.length<=sizeLine/\∀ p,H1 p=none->Q (.ref p) (upd H1 p (.lst xs))
theorem zeO{x1}(h:PA X es t):PE X (.Tuple es x1 pos) (zis t):=by
 intro pins s O H Q I hq;refine wpAny_Tuple_spliced (thn (h pos pins s O H _ I hq) fun us s1 ⟨xs,H1,I1,r,z,q⟩=>⟨by rw [<- r.length];exact z,?_⟩);have hf:H1 s1.heap.objs.size=none:=I1.hok.fresh (Nat.le_refl _);refine ⟨.ref s1.heap.objs.size,upd H1 s1.heap.objs.size (.tup xs),I1.laid (t':=s1.toks) (fun b u e=>Heap.get?_push_of_some _ e) (Nat.le_refl _) ?_,rfl,q _ hf⟩;exact ⟨z,us,r,⟨_,Heap.get?_push_size _ rfl,rfl,rfl,_,rfl⟩⟩
theorem zaW(h:PA X es t):PE X (.List es pos) (ziq t):=by
 intro pins s O H Q I hq;refine wpAny_List_spliced (thn (h pos pins s O H _ I hq) fun us s1 ⟨xs,H1,I1,r,z,q⟩=>⟨by rw [<- r.length];exact z,?_⟩);have hf:H1 s1.heap.objs.size=none:=I1.hok.fresh (Nat.le_refl _);refine ⟨.ref s1.heap.objs.size,upd H1 s1.heap.objs.size (.lst xs),I1.laid (t':=s1.toks) (fun b u e=>Heap.get?_push_of_some _ e) (Nat.le_refl _) ?_,rfl,q _ hf⟩;exact ⟨z,us,0,r,Heap.get?_push_size _ rfl⟩
end
abbrev Sp:=List V->Hp->VK->XK->Prop
abbrev CXT:=List Env->Hp->Shared->XK->Value->Shared->Prop
structure zfR(P:Program)(w:World)(K:W.Frag)(mg:Str->Option Value)(base:Heap)(A:Around)(outer:List Env)(s:Shared)(H:Hp):Prop where
 frames:A.frames=some outer
 mod:Mod K mg base
 bs:∀ b o,base.get? b=some o->s.heap.get? b=some o/\H b=none
 bsz:base.objs.size<=s.heap.objs.size
 funs:s.heap.FunFrames base outer
 frf:∀ b∈frs outer,H b=none
 hok:HOk P w H s.heap
 bare:AllBare s.gens
def CE(outer:List Env)(P:Program)(w:World)(H:Hp)(s:Shared)(Q:VK)(u:Value)(s':Shared):Prop:= ∃ v H',s'.os=s.os/\AllBare s'.gens/\Un (frs outer) [] H H' s.heap s'.heap/\HOk P w H' s'.heap/\xo v u/\Q v H'
def CR(CX:CXT)(outer:List Env)(P:Program)(w:World)(H:Hp)(s:Shared)(Q:VK)(E:XK)(r:Result)(s':Shared):Prop:= match r with
 | .ok (.ret u)=>CE outer P w H s Q u s' | .ok _=>False | .error e=>CX outer H s E e s'
structure z2j(P:Program)(w:World)(K:W.Frag)(mg:Str->Option Value)(base:Heap)(CX:CXT)(k:Nat)(f:Addr)(fd:FuncData)(ps:List Str)(sp:Sp):Prop where
 len:∀ vs H Q E,sp vs H Q E->vs.length=ps.length
 run:∀ (A:Around)(outer:List Env)(s:Shared)(H:Hp)(args:Args)(us:List Value)(vs:List V)(Q:VK)(E:XK),z0n k A->zfR P w K mg base A outer s H->BindsTo s fd args (ps.zip us)->yG vs us->sp vs H Q E-> codeAny (model P w) A (.call (.ref f) args) (CR CX outer P w H s Q E) s
theorem z2j.mono{P:Program}{w:World}{K:W.Frag}{mg:Str->Option Value}{base:Heap}{CX:CXT}{j k:Nat}{f:Addr}{fd:FuncData}{ps:List Str}{sp:Sp}(F:z2j P w K mg base CX j f fd ps sp)(h:j<=k): z2j P w K mg base CX k f fd ps sp:=⟨F.len,fun A outer s H args us vs Q E hr=>F.run A outer s H args us vs Q E (hr.mono h)⟩
theorem z2j.imp{P:Program}{w:World}{K:W.Frag}{mg:Str->Option Value}{base:Heap}{CX:CXT}{k:Nat}{f:Addr}{fd:FuncData}{ps:List Str}{sp sp':Sp}(F:z2j P w K mg base CX k f fd ps sp) (h:∀ vs H Q E,sp' vs H Q E->sp vs H Q E):z2j P w K mg base CX k f fd ps sp':= ⟨fun vs H Q E q=>F.len vs H Q E (h _ _ _ _ q),fun A outer s H args us vs Q E hr he hb hv hs=>F.run A outer s H args us vs Q E hr he hb hv (h _ _ _ _ hs)⟩
section
variable {X:Cx}{pins:List (Addr×Obj)}{O:St}{H:Hp}{s s':Shared}
theorem Inv.env0(I:Inv X pins O H s):zfR X.prog X.w X.K X.mg X.base X.A X.stack s H:= ⟨I.ok.frames,I.ok.mod,I.bs,Nat.le_trans I.ok.bsz I.sz,I.stack,I.stkFree,I.hok,I.bare⟩
theorem Inv.after {Q:VK} {u:Value} (I:Inv X pins O H s) (h:CE X.stack X.prog X.w H s Q u s'):EP X pins O Q u s':=by
 obtain ⟨v,H',os,bare,un,hok,r,q⟩:=h;obtain ⟨hh,g,d,t,os'⟩:=s';obtain rfl:os'=s.os:=os;exact ⟨v,H',I.call (h':=hh) (g':=g) (d':=d) (t':=t) (ch:=[]) un hok bare (fun b z=>absurd z (by simp)),r,q⟩
end
def zer(sp:Sp)(dvs:List V)(E:XK)(t:TA):TE:=fun O H Q=>t O H fun vs H1=>sp (vs++dvs) H1 Q E
def Binds(K:W.Frag)(fd:FuncData)(ps:List Str)(ds:List Value):Prop:= ∀ (s:Shared)(us:List Value),K.In s.heap->(us++ds).length=ps.length->BindsTo s fd ⟨us,[]⟩ (ps.zip (us++ds))
theorem Binds.all{K:W.Frag}{fd:FuncData}{ps:List Str}(h:∀ us:List Value,us.length=ps.length->bindArgs fd ⟨us,[]⟩=pure (ps.zip us)):Binds K fd ps []:=fun s us _ hl=>by
 rw [List.append_nil] at hl ⊢;exact .of_eq (h us hl)
def Passes(CX:CXT)(X:Cx)(E:XK):Prop:=∀ (pins:List (Addr×Obj))(O:St)(H:Hp)(s:Shared)(e:Value)(s':Shared),Inv X pins O H s->CX X.stack H s E e s'->X.xe e s'
section
variable {X:Cx}{CX:CXT}{k:Nat}{f C:Addr}{fd:FuncData}{ps:List Str}{sp:Sp}{dvs:List V}{ds:List Value}{E:XK}{x m:Str}{p pos apos:Pos}{e o:Expr}{es:List Expr}{ta:TE}{t:TA}
theorem z8J{pins:List (Addr×Obj)}{O:St}{H:Hp}{s:Shared}{Q:VK}{us:List Value}{vs:List V}(F:z2j X.prog X.w X.K X.mg X.base CX k f fd ps sp)(hr:z0n k X.A)(hb:Binds X.K fd ps ds)(hd:yG dvs ds)(hx:Passes CX X E) (I:Inv X pins O H s)(r:yG vs us)(h:sp (vs++dvs) H Q E):wpAny (model X.prog X.w) X.A (call (.ref f) us) (EP X pins O Q) X.xe s:=by
 have r2:yG (vs++dvs) (us++ds):=r.append hd;have hl:(us++ds).length=ps.length:=by rw [<- r2.length];exact F.len _ _ _ _ h
 refine wpAny_call (codeAny_mono (F.run X.A X.stack s H ⟨us,[]⟩ (us++ds) (vs++dvs) Q E hr I.env0 (hb s us I.kIn hl) r2 h) fun r s' hq=>?_);cases r with
 | error e=>exact hx pins O H s e s' I hq | ok fl=> cases fl with
  | ret u=>exact I.after hq | next=>exact False.elim hq | brk=>exact False.elim hq | cont=>exact False.elim hq
theorem zcY (F:z2j X.prog X.w X.K X.mg X.base CX k f fd ps sp) (hr:z0n k X.A) (hg:Gl X x) (hm:X.mg x=some (.ref f)) (hk:W.keepIn X.K (.ref f)=true) (hb:Binds X.K fd ps ds) (hd:yG dvs ds) (hx:Passes CX X E) (ha:PA X (e::es) t) (hdb:(x==("__debug__":Str))=false:=by decide) (he:starEach (e::es) X.env=(false,eval e X.env)::starEach es X.env:=by rfl) (hpl:(backTo pos (starEach es X.env)).any (·.1)=false:=by rfl): PE X (.Call (.Name x p) (e::es) [] pos) (zer sp dvs E t):=by
 intro pins s O H Q I h;refine wpAny_Call_Name_kw (z5A I hg hm ?_ hdb);refine W.callWith_K (h₀:=X.base) I.ok.mod.kin hk (thn (ha pos pins s O H _ I h) fun us s1 ⟨vs,H1,I1,r,q⟩=>⟨I1.kIn,?_⟩) he hpl;exact z8J F hr hb hd hx I1 r q
theorem zal(F:z2j X.prog X.w X.K X.mg X.base CX k f fd ps sp)(hr:z0n k X.A)(hg:Gl X x)(hm:X.mg x=some (.ref f))(hk:W.keepIn X.K (.ref f)=true)(hb:Binds X.K fd ps ds)(hd:yG dvs ds)(hx:Passes CX X E) (hdb:(x==("__debug__":Str))=false:=by decide):PE X (.Call (.Name x p) [] [] pos) (zer sp dvs E zhp):=by
 intro pins s O H Q I h;refine wpAny_Call_Name_kw (z5A I hg hm ?_ hdb);exact W.callWith_K0 I.kIn hk (z8J (us:=[]) F hr hb hd hx I .nil h)
end
structure zv(N P:List Str)(sc:Scope):Prop where
 kind:sc.kind=.function
 co:sc.isCoroutine=false
 gen:sc.isGenerator=false
 nd:N.Nodup
 pre:N.take P.length=P
 par:∀ x∈P,sc.names.lookup x=some .local\/sc.names.lookup x=some .cell
 nofree:∀ y∈sc.names,y.2≠.free
theorem z4d{kindOf:Str->Option NameKind}{x:Str}:∀ {binds:List (Str×Value)}{m:Str->Option Value},(∀ v,(x,v)∉binds)->bindL kindOf binds m x=m x
 | [],_,_=>rfl | (n,v)::r,m,h=>by
  unfold bindL;rw [z4d fun w hw=>h w (List.mem_cons_of_mem _ hw)];split
  ·have:x≠n:=by rintro rfl;exact h v List.mem_cons_self
   simp [this]
  ·rfl
theorem z4u{kindOf:Str->Option NameKind}{x:Str}:∀ {binds:List (Str×Value)}{m:Str->Option Value},(∀ v,(x,v)∉binds)->bindC kindOf binds m x=m x
 | [],_,_=>rfl | (n,v)::r,m,h=>by
  unfold bindC;rw [z4u fun w hw=>h w (List.mem_cons_of_mem _ hw)];split;·rfl
  ·have:x≠n:=by rintro rfl;exact h v List.mem_cons_self
   simp [this]
theorem z3P{kindOf:Str->Option NameKind}{x:Str}{v:Value}:∀ {P:List Str}{vs:List Value}{i:Nat}{m:Str->Option Value},P.Nodup->P[i]? = some x->vs[i]? = some v->kindOf x=some .local-> bindL kindOf (P.zip vs) m x=some v
 | [],_,_,_,_,h,_,_=>by simp at h | _::_,[],_,_,_,_,h,_=>by simp at h | p::P,w::vs,0,m,nd,h1,h2,hk=>by
  simp at h1 h2;subst h1;subst h2;show bindL kindOf ((p,w)::P.zip vs) m p=_;unfold bindL;rw [z4d fun v hv=>(List.nodup_cons.mp nd).1 (List.of_mem_zip hv).1,if_pos hk];simp | p::P,w::vs,i+1,m,nd,h1,h2,hk=>by
  show bindL kindOf ((p,w)::P.zip vs) m x=_;unfold bindL;exact z3P (i:=i) (List.nodup_cons.mp nd).2 (by simpa using h1) (by simpa using h2) hk
theorem z3z{kindOf:Str->Option NameKind}{x:Str}{v:Value}:∀ {P:List Str}{vs:List Value}{i:Nat}{m:Str->Option Value},P.Nodup->P[i]? = some x->vs[i]? = some v->kindOf x≠some .local-> bindC kindOf (P.zip vs) m x=some v
 | [],_,_,_,_,h,_,_=>by simp at h | _::_,[],_,_,_,_,h,_=>by simp at h | p::P,w::vs,0,m,nd,h1,h2,hk=>by
  simp at h1 h2;subst h1;subst h2;show bindC kindOf ((p,w)::P.zip vs) m p=_;unfold bindC;rw [z4u fun v hv=>(List.nodup_cons.mp nd).1 (List.of_mem_zip hv).1,if_neg hk];simp | p::P,w::vs,i+1,m,nd,h1,h2,hk=>by
  show bindC kindOf ((p,w)::P.zip vs) m x=_;unfold bindC;exact z3z (i:=i) (List.nodup_cons.mp nd).2 (by simpa using h1) (by simpa using h2) hk
def start(N:List Str)(vs:List V):St:=vs.map some++List.replicate (N.length-vs.length) none
def z9B(CX:CXT)(P:Program)(w:World)(K:W.Frag)(mg:Str->Option Value)(base:Heap)(N:List Str)(qual:Str)(scope:Scope)(f:Addr)(cd:Value)(A:Around)(outer:List Env)(s:Shared)(H:Hp)(E:XK):Cx where
 prog:=P;w:=w;K:=K;mg:=mg;base:=base;A:=A.deeper (envOfC qual scope s.heap.objs.size f cd);N:=N;s₀:=s;H₀:=H;env:=envOfC qual scope s.heap.objs.size f cd;outer:=outer;stack:=envOfC qual scope s.heap.objs.size f cd::outer;ex:=[];calm:=A.handled.isNone;fn:=fun _=>true;pn:=[];xe:=fun e s'=>wpAny (model P w) (A.deeper (envOfC qual scope s.heap.objs.size f cd)) (leaving (envOfC qual scope s.heap.objs.size f cd) e) (fun _ s''=>CX outer H s E e s'') (fun e' s''=>CX outer H s E e' s'') s'
theorem z0r{sc:Scope}{n:Nat}{x:Str}(h:sc.names.lookup x=some .cell):∃ c,(cellsFrom n sc.names []).lookup x=some c:=by
 have q:=W.cellsFrom_some sc.names n [] (.inl h);exact Option.isSome_iff_exists.mp q
theorem z8X{CX:CXT}{P:Program}{w:World}{K:W.Frag}{mg:Str->Option Value}{base:Heap}{N ps:List Str}{qual:Str}{scope:Scope}{f:Addr}{cd:Value}{A:Around}{outer:List Env}{s s1:Shared}{H:Hp}{E:XK}{us:List Value}{vs:List V} (S:zv N ps scope)(e0:zfR P w K mg base A outer s H)(hl:vs.length=ps.length)(r:yG vs us) (x:InCallC s s.heap.objs.size (bindL (envOfC qual scope s.heap.objs.size f cd).kindOf (ps.zip us) fun _=>none) (cellsFrom (s.heap.objs.size+1) scope.names []) (bindC (envOfC qual scope s.heap.objs.size f cd).kindOf (ps.zip us) fun _=>none) s1): Inv (z9B CX P w K mg base N qual scope f cd A outer s H E) [] (start N vs) H s1:=by
 have hpl:ps.length<=N.length:=by have:=congrArg List.length S.pre;rw [List.length_take] at this;omega
 obtain ⟨h1,tk,rfl,hk⟩:=x.done;have noA:∀ b:Addr,b∉(z9B CX P w K mg base N qual scope f cd A outer s H E).ex:=fun b z=>absurd (show b∈([]:List Addr) from z) (by simp);refine ⟨⟨e0.mod,S.kind,rfl,rfl,Nat.le_refl _,fun y z c h1 h2=>?_,fun y hy=>?_,fun y c _ h=>?_,fun h=>Option.isNone_iff_eq_none.mp h,Around.frames_deeper e0.frames,.inr ⟨rfl,rfl⟩,fun b z=>absurd z (noA b),e0.bs,e0.bsz,fun b _ _=>noA b,fun b z=>absurd z (noA b),e0.funs,e0.frf⟩, rfl,e0.bare,Un.kept hk,⟨_,x.toInCall.ns,fun i y v h1 h2 h3=>?_⟩,fun y c h=>⟨_,x.cell y c h⟩,e0.hok.fresh (Nat.le_refl _),fun y c h=>?_,fun p hp=>absurd (show p∈([]:List (Addr×Obj)) from hp) (by simp),e0.hok.kept hk,?_⟩;·exact name_of_addr x.apart (PySem.mem_of_lookup h1) (PySem.mem_of_lookup h2)
 ·have hy:scope.names.lookup y=some .cell\/scope.names.lookup y=some .free:=hy;rcases hy with hy | hy;·exact z0r hy
  ·exact absurd rfl (S.nofree _ (PySem.mem_of_lookup hy))
 ·exact Nat.le_of_lt (x.above y c (PySem.mem_of_lookup h))
 ·have hi:i<vs.length:=by
   unfold start at h2;by_cases hi:i<vs.length;·exact hi
   ·rw [List.getElem?_append_right (by simpa using hi)] at h2;rw [List.getElem?_replicate] at h2;split at h2<;>cases h2
  have ha:vs[i]? = some v:=by
   unfold start at h2;rw [List.getElem?_append_left (by simpa using hi),List.getElem?_map] at h2;cases e:vs[i]? with
   | none=>rw [e] at h2;cases h2 | some a=>rw [e] at h2;cases h2;rfl
  obtain ⟨u,hu,rv⟩:=r.get ha;have hp:ps[i]? = some y:=by rw [<- S.pre,List.getElem?_take_of_lt (by omega)];exact h1
  have ndP:ps.Nodup:=by rw [<- S.pre];exact S.nd.sublist (List.take_sublist _ _)
  refine ⟨u,rv,?_⟩;rcases S.par y (List.mem_of_getElem? hp) with k | k;·exact .inl ⟨k,z3P ndP hp hu k⟩
  ·obtain ⟨c,e⟩:=z0r (n:=s.heap.objs.size+1) k;refine .inr ⟨.inl k,c,e,?_⟩;have q:=x.cell y c e;rw [z3z ndP hp hu (by show scope.names.lookup y≠_;rw [k];decide)] at q;exact q
 ·exact e0.hok.fresh (Nat.le_of_lt (x.above y c (PySem.mem_of_lookup h)))
 ·unfold start;show _=N.length;rw [List.length_append,List.length_map,List.length_replicate];omega
theorem zgy {CX:CXT} {P:Program} {w:World} {K:W.Frag} {mg:Str->Option Value} {base:Heap} {k:Nat} {f:Addr} {name qual:Str} {params:Arguments} {body:List Stmt} {scope:Scope} {dV kV doc pm cdv ct oc:Value} {an od:Option Addr} {osl:Array (Option Value)} {N ps:List Str} {sp:Sp} (lk:K.lookup f=some ⟨oc,od,.func (W.fnOf name qual params body scope dV kV doc pm an cdv ct),osl⟩) (hcd:W.codeIn K cdv qual=true) (S:zv N ps scope) (len:∀ vs H Q E,sp vs H Q E->vs.length=ps.length) (hbody:∀ (A:Around) (outer:List Env) (s:Shared) (H:Hp) (vs:List V) (Q:VK) (E:XK),z0n k (A.deeper (envOfC qual scope s.heap.objs.size f cdv))->sp vs H Q E-> ∃ t,PSs (z9B CX P w K mg base N qual scope f cdv A outer s H E) body t/\t {nx:=fun _ H'=>Q .non H',rt:=Q} (start N vs) H): z2j P w K mg base CX (k+1) f (W.fnOf name qual params body scope dV kV doc pm an cdv ct) ps sp:=by
 refine ⟨len,fun A outer s H args us vs Q E hr e0 hb r hsp=>?_⟩;have hl:=len _ _ _ _ hsp;have KX:K.In s.heap:=e0.mod.kin.keeps fun b o e=>(e0.bs b o e).1;have lim:s.heap.NoLimit:=e0.mod.nolimit.keeps fun b o e=>(e0.bs b o e).1;have hkind:∀ y∈ps.zip us,scope.names.lookup y.1=some .local\/(scope.names.lookup y.1=some .cell/\((cellsFrom (s.heap.objs.size+1) scope.names []).lookup y.1).isSome=true):=fun ⟨n,v⟩ hy=>by
  rcases S.par n (List.of_mem_zip hy).1 with q | q;·exact .inl q
  ·exact .inr ⟨q,W.cellsFrom_some _ _ _ (.inl q)⟩
 refine codeAny_call_function hr.depth (KX _ _ lk) rfl S.co S.gen rfl (W.codeRec_of KX hcd) (hb _ _ _ _ ?_);refine wpAny_newFunctionEnv_cells S.kind hkind fun env he s1 x=>?_;subst he;refine ⟨lim.keeps x.toInCall.keep,codeAny_func ?_⟩;obtain ⟨t,ht,hq⟩:=hbody A outer s H vs Q E (hr.deeper _) hsp;have I:Inv (z9B CX P w K mg base N qual scope f cdv A outer s H E) [] (start N vs) H s1:=z8X S e0 hl r x;refine wpAny_mono (ht [] s1 (start N vs) H _ I hq) (fun fl s' hs=>?_) fun e s' hs=>hs;have fin:∀ {O':St} {H':Hp} {v:V} {u:Value},Inv (z9B CX P w K mg base N qual scope f cdv A outer s H E) [] O' H' s'->xo v u->Q v H'->CE outer P w H s Q u s':= fun {O' H' v u} J rv q=>⟨v,H',J.os,J.bare,J.base,J.hok,rv,q⟩;cases fl with
 | ret u=>
  obtain ⟨v,O',H',J,rv,q⟩:=hs;exact fin J rv q | next=>
  obtain ⟨O',H',J,q⟩:=hs;exact fin (v:=V.non) (u:=Value.none) J rfl q | brk=>
  obtain ⟨_,_,_,q⟩:=hs;exact False.elim q | cont=>
  obtain ⟨_,_,_,q⟩:=hs;exact False.elim q
section
variable {X:Cx}{x:Str}{p pos:Pos}{e:Expr}{es:List Expr}{t:TA}{id T:String}{r:List V->Hp->VK->Prop}
def tCB(r:List V->Hp->VK->Prop)(t:TA):TE:=fun O H Q=>t O H fun vs H1=>r vs H1 Q
theorem z68 (hc:wu X (.builtin id) r) (hg:Gl X x) (hm:X.mg x=none) (hv:bootBuiltins x=some (.builtin id)) (ha:PA X (e::es) t) (hn:x≠"__name__":=by decide) (hdb:(x==("__debug__":Str))=false:=by decide) (he:starEach (e::es) X.env=(false,eval e X.env)::starEach es X.env:=by rfl) (hpl:(backTo pos (starEach es X.env)).any (·.1)=false:=by rfl):PE X (.Call (.Name x p) (e::es) [] pos) (tCB r t):=by
 intro pins s O H Q I h;refine wpAny_Call_Name_kw (qm I hg hm hv ?_ hn hdb);exact PyProof.Rows.callWith_builtin1 (thn (ha pos pins s O H _ I h) fun us s1 ⟨vs,H1,I1,r1,q1⟩=>hc pins s1 O H1 vs us Q I1 r1 q1) he hpl
theorem z7S (hc:wu X (.type T) r) (hg:Gl X x) (hm:X.mg x=none) (hv:bootBuiltins x=some (.type T)) (ha:PA X (e::es) t) (hn:x≠"__name__":=by decide) (hdb:(x==("__debug__":Str))=false:=by decide) (he:starEach (e::es) X.env=(false,eval e X.env)::starEach es X.env:=by rfl) (hpl:(backTo pos (starEach es X.env)).any (·.1)=false:=by rfl):PE X (.Call (.Name x p) (e::es) [] pos) (tCB r t):=by
 intro pins s O H Q I h;refine wpAny_Call_Name_kw (qm I hg hm hv ?_ hn hdb);exact PyProof.Rows.callWith_type1 (thn (ha pos pins s O H _ I h) fun us s1 ⟨vs,H1,I1,r1,q1⟩=>hc pins s1 O H1 vs us Q I1 r1 q1) he hpl
end
end L2
namespace HT
def lexLt:List Int->List Int->Bool
 | [],[]=>false | [],_::_=>true | _::_,[]=>false | x::xs,y::ys=>if x=y then lexLt xs ys else decide (x<y)
section
open PySem.SeqAt
open PySem.AutoSeq1 (wpAny_loadPart')
open PySem.MeetsSeq PySem.MeetsSeq2 PySem.MeetsSeq3
end
section
variable {prog:Program}{w:World}{A:Around}{E:Value->Shared->Prop}{s:Shared}
theorem zcq {t b:Addr} {vs ws:List Value} {Q:Value->Shared->Prop} (ht:IsTup s.heap t vs.toArray) (hb:IsTup s.heap b ws.toArray) (hv:vs≠[]) (h1:ws=[]->Q (.ref t) s) (h2:ws≠[]->Q (.ref s.heap.objs.size) {s with heap:=s.heap.push {cls:=.type "tuple",data:=.seq (vs++ws).toArray}}) (hsz:vs.length+ws.length<=sizeLine):wpAny (model prog w) A (binaryOp .Add (.ref t) (.ref b)) Q E s:=by
 obtain ⟨⟨cls,dd,data,sl⟩,ho,hc,n,hd⟩:=id ht;obtain ⟨⟨cls2,dd2,data2,sl2⟩,ho2,hc2,n2,hd2⟩:=id hb;simp only at hc hd hc2 hd2;subst hc hd hc2 hd2;have e:vs.toArray++ws.toArray=(vs++ws).toArray:=by simp
 by_cases hw:ws=[]
 ·exact concat_meets ⟨_,ho,rfl⟩ ⟨_,ho2,rfl⟩ noFill_tuple_add seq_tuple_add PySem.F.slot_tuple_add PySem.F.entry_tuple_add (PySem.F.args_tuple_add_2 _ _) (tuple_addW1 t b vs.toArray ws.toArray n n2 dd dd2 sl sl2 (by simpa using hv) (by simp [hw])) ⟨ho,ho2,h1 hw⟩
 ·refine concat_meets ⟨_,ho,rfl⟩ ⟨_,ho2,rfl⟩ noFill_tuple_add seq_tuple_add PySem.F.slot_tuple_add PySem.F.entry_tuple_add (PySem.F.args_tuple_add_2 _ _) (tuple_addW2 t b vs.toArray ws.toArray n n2 dd dd2 sl sl2 (by simpa using hv) (by simpa using hw) (by rw [List.size_toArray,List.size_toArray];exact hsz)) ⟨ho,ho2,?_⟩;rw [e];exact h2 hw
def sIx(n d:Nat):Option Int->Nat
 | none=>d | some v=>if v<0 then (v+(n:Int)).toNat else min v.toNat n
theorem z6x(n d:Nat):sIx n d none=d:=rfl
theorem z97(n d k:Nat):sIx n d (some (k:Int))=min k n:=by
 show (if (k:Int)<0 then ((k:Int)+(n:Int)).toNat else min (k:Int).toNat n)=min k n;rw [if_neg (by omega),Int.toNat_natCast]
theorem zdB(n d:Nat)(hd:d<=n)(o:Option Int):sIx n d o<=n:=by cases o with
 | none=>exact hd | some v=>
  show (if v<0 then (v+(n:Int)).toNat else min v.toNat n)<=n;by_cases hv:v<0;·rw [if_pos hv];omega
  ·rw [if_neg hv];exact Nat.min_le_right _ _
theorem z9i(v:Int)(n d:Nat):(if v<0 then max (v+(n:Int)) 0 else min v (n:Int))=((sIx n d (some v):Nat):Int):=by
 show (if v<0 then max (v+(n:Int)) 0 else min v (n:Int))=(((if v<0 then (v+(n:Int)).toNat else min v.toNat n):Nat):Int);by_cases hv:v<0;·simp only [if_pos hv];omega
 ·simp only [if_neg hv];omega
theorem z7v(lo hi:Option Int)(n:Nat):Builtin.Slice.sliceAdjust lo hi 1 (n:Int)=(((sIx n 0 lo:Nat):Int),((sIx n n hi:Nat):Int)):=by
 have h1:¬ ((1:Int)<0):=by omega
 unfold Builtin.Slice.sliceAdjust;simp only [h1,if_false];refine Prod.ext ?_ ?_;·cases lo with
  | none=>rfl | some v=>exact z9i v n 0
 ·cases hi with
  | none=>rfl | some v=>exact z9i v n n
theorem z6U (i j:Nat):Builtin.Slice.slicePlaces (i:Int) (j:Int) 1=j-i:=by
 unfold Builtin.Slice.slicePlaces;have h1:(1:Int) > 0:=by omega
 simp only [h1,if_true,Int.ediv_one];split<;>omega
theorem z2p{v:Value}{o:Option Int}{Q:Option Int->Shared->Prop}(p:IsPart v o)(h:Q o s):wpAny (model prog w) A (Builtin.Slice.slicePartIndex v) Q E s:=by cases p with
 | none=>exact slicePart_none h | int i t=>exact slicePart_int h
theorem uC{sl:Addr}{vl vu:Value}{lo hi:Option Int}{n:Nat}{Q:Int×Int×Nat->Shared->Prop}(hs:s.heap.IsSliceOf sl vl vu .none)(pl:IsPart vl lo)(pu:IsPart vu hi) (h:Q (((sIx n 0 lo:Nat):Int),1,sIx n n hi-sIx n 0 lo) s):wpAny (model prog w) A (Builtin.Slice.sliceApplied (.ref sl) (pure (n:Int))) Q E s:=by
 obtain ⟨os,hos,hcs,hds⟩:=id hs;unfold Builtin.Slice.sliceApplied Builtin.Slice.sliceFields;refine wpAny_bind (wpAny_bind (wpAny_field hos hds (x:=vl) rfl (wpAny_bind (wpAny_field hos hds (x:=vu) rfl (wpAny_bind (wpAny_field hos hds (x:=.none) rfl (wpAny_pure ?_)))))));refine wpAny_bind (slicePart_none ?_);show wpAny _ _ (if ((1:Int)==0)=true then _ else _) _ _ s;rw [if_neg (by decide)];refine wpAny_bind (z2p pl (wpAny_bind (z2p pu (wpAny_bind (wpAny_pure ?_)))));show wpAny _ _ (match Builtin.Slice.sliceAdjust lo hi 1 (n:Int) with | (lo,hi)=>pure (lo,(1:Int),Builtin.Slice.slicePlaces lo hi 1)) _ _ s;rw [z7v lo hi n];show wpAny _ _ (pure (((sIx n 0 lo:Nat):Int),(1:Int),Builtin.Slice.slicePlaces ((sIx n 0 lo:Nat):Int) ((sIx n n hi:Nat):Int) 1)) _ _ s;rw [z6U];exact wpAny_pure h
theorem z9Y(xs:Array Value)(i k:Nat):((List.range k).filterMap fun (m:Nat)=>xs[((i:Int)+(m:Int)*1).toNat]?).toArray=((xs.toList.drop i).take k).toArray:=by
 have e:(fun (m:Nat)=>xs[((i:Int)+(m:Int)*1).toNat]?)=fun m=>xs[i+m]? := by
  funext m;have:((i:Int)+(m:Int)*1).toNat=i+m:=by omega
  rw [this]
 rw [e];have:=pick_run xs i k;rw [List.filterMap_map] at this;have e2:((fun x=>xs[x]?) ∘ fun x=>i+x)=fun m=>xs[i+m]? := rfl;rw [e2] at this;rw [this]
theorem kf {t sl:Addr} {items:Array Value} {vl vu:Value} {lo hi:Option Int} {Q:Value->Shared->Prop} (ht:IsTup s.heap t items) (hs:s.heap.IsSliceOf sl vl vu .none) (pl:IsPart vl lo) (pu:IsPart vu hi) (hw:¬ (sIx items.size 0 lo=0/\sIx items.size items.size hi=items.size)) (h:Q (.ref s.heap.objs.size) {s with heap:=s.heap.push {cls:=.type "tuple",data:=.seq ((items.toList.drop (sIx items.size 0 lo)).take (sIx items.size items.size hi-sIx items.size 0 lo)).toArray}}) (hsz:items.size<=sizeLine):wpAny (model prog w) A (getItem (.ref t) (.ref sl)) Q E s:=by
 have htake:sizeOk (.seq ((items.toList.drop (sIx items.size 0 lo)).take (sIx items.size items.size hi-sIx items.size 0 lo)).toArray):=by
  show ((items.toList.drop (sIx items.size 0 lo)).take (sIx items.size items.size hi-sIx items.size 0 lo)).toArray.size<=sizeLine;rw [List.size_toArray,List.length_take,List.length_drop,Array.length_toList];omega
 have hj:sIx items.size items.size hi<=items.size:=zdB _ _ (Nat.le_refl _) hi;obtain ⟨os,hos,hcs,hds⟩:=id hs;have hTs:s.TypeIs (.ref sl) "slice":=⟨os,hos,hcs⟩;unfold getItem;try with_reducible refine wpAny_holding ?_
 first | refine wpAny_bind (wpAny_pure ?_) | skip
 refine wpAny_bind (wpAny_sequenceKey ht.typeIs (by decide) ?_);refine wpAny_bind (wpAny_callSpecial?_slot (name:=Str.ofString "__getitem__") ht.typeIs PyProof.Rows.slot_tuple_getitem (wpAny_call_entry PyProof.Rows.slot_tuple_getitem ht.typeIs entry_tuple_getitem ?_ (args_tuple_getitem _ _)));show wpAny _ _ (Builtin.Tuple.tupleItemsOf (.ref t) >>= _) _ _ s;refine wpAny_bind (tupleItemsOf_ ht ?_);refine wpAny_bind (wpAny_typeOf hTs ?_);rw [if_pos (by decide)];refine wpAny_bind (uC hs pl pu ?_);have hno:¬ ((((sIx items.size 0 lo:Nat):Int)==0&&(1:Int)==1&&(sIx items.size items.size hi-sIx items.size 0 lo)==items.size)=true):=by
  intro q;rw [Bool.and_eq_true,Bool.and_eq_true] at q;have q1:((sIx items.size 0 lo:Nat):Int)=0:=eq_of_beq q.1.1;have q2:sIx items.size items.size hi-sIx items.size 0 lo=items.size:=eq_of_beq q.2;exact hw ⟨by omega,by omega⟩
 show wpAny _ _ (if (((sIx items.size 0 lo:Nat):Int)==0&&(1:Int)==1&&(sIx items.size items.size hi-sIx items.size 0 lo)==items.size)=true then _ else _) _ _ s;rw [if_neg hno,z9Y];first
  | exact wpAny_bind (m:=Builtin.Tuple.tupleExact _) (wpAny_newObj_type (wpAny_pure ⟨_,rfl,wpAny_pure h⟩) htake) | exact wpAny_bind (m:=Builtin.Tuple.tupleExact _) (wpAny_newObj_type (wpAny_bind (wpAny_pure (wpAny_pure ⟨_,rfl,wpAny_pure h⟩))) htake) | exact wpAny_bind (wpAny_bind (m:=Builtin.Tuple.tupleExact _) (wpAny_newObj_type (wpAny_pure (wpAny_pure ⟨_,rfl,wpAny_pure h⟩)) htake)) | exact wpAny_bind (wpAny_bind (m:=Builtin.Tuple.tupleExact _) (wpAny_newObj_type (wpAny_pure ⟨_,rfl,wpAny_pure h⟩) htake))
end
end HT
namespace L2
open PySem.Spec
abbrev TO:=St->Hp->(Option Int->Hp->Prop)->Prop
def PO(X:Cx)(e:Option Expr)(t:TO):Prop:= ∀ (pins:List (Addr×Obj))(s:Shared)(O:St)(H:Hp)(Q:Option Int->Hp->Prop),Inv X pins O H s->t O H Q-> wpAny (model X.prog X.w) X.A (evalPart e X.env) (fun u s'=>∃ o H',Inv X pins O H' s'/\IsPart u o/\Q o H') X.xe s
def zct:TO:=fun _ H Q=>Q none H
def zgA(t:TE):TO:=fun O H Q=>t O H fun x H1=>∃ i,x=.int i/\Q (some i) H1
section
variable {X:Cx}{e:Expr}{te:TE}{lo hi:Option Expr}{tl th:TO}{pos p2:Pos}
theorem zcJ:PO X none zct:=by
 intro pins s O H Q I h;rw [evalPart_none];exact wpAny_pure ⟨none,H,I,.none,h⟩
theorem zcM(h:PE X e te):PO X (some e) (zgA te):=by
 intro pins s O H Q I hw;rw [evalPart_some];refine thn (h pins s O H _ I hw) fun u s1 ⟨x,H1,I1,r1,q1⟩=>?_;obtain ⟨i,rfl,q⟩:=q1;obtain ⟨t,rfl⟩:=r1;exact ⟨some i,H1,I1,.int i t,q⟩
def SlR(X:Cx)(r:V->Option Int->Option Int->Hp->VK->Prop):Prop:= ∀ (pins:List (Addr×Obj))(s:Shared)(O:St)(H:Hp)(x:V)(v vl vu:Value)(lo hi:Option Int)(sl:Addr)(Q:VK),Inv X pins O H s->xo x v->s.heap.IsSliceOf sl vl vu .none->IsPart vl lo->IsPart vu hi->r x lo hi H Q-> ∃ T id,typeLookup (.type T) "__getitem__"=pure (some (.builtin id))/\s.TypeIs v T/\wpAny (model X.prog X.w) X.A (getItem v (.ref sl)) (EP X pins O Q) X.xe s
theorem SlR.or{r r':V->Option Int->Option Int->Hp->VK->Prop}(h:SlR X r)(h':SlR X r'):SlR X (fun x lo hi H Q=>r x lo hi H Q\/r' x lo hi H Q):=by
 intro pins s O H x v vl vu lo hi sl Q I rx hs pl pu q;rcases q with q | q;·exact h pins s O H x v vl vu lo hi sl Q I rx hs pl pu q
 ·exact h' pins s O H x v vl vu lo hi sl Q I rx hs pl pu q
def tSl(r:V->Option Int->Option Int->Hp->VK->Prop)(te:TE)(tl th:TO):TE:=fun O H Q=>te O H fun x H1=>tl O H1 fun l H2=>th O H2 fun u H3=>r x l u H3 Q
theorem zae{r:V->Option Int->Option Int->Hp->VK->Prop}(hr:SlR X r)(he:PE X e te)(hl:PO X lo tl)(hu:PO X hi th):PE X (.Subscript e (.Slice lo hi none p2) pos) (tSl r te tl th):=by
 intro pins s O H Q I h;refine Subscript_ (thn (he pins s O H _ I h) fun v s1 ⟨x,H1,I1,r1,q1⟩=>?_);refine wpAny_Slice (thn (hl pins s1 O H1 _ I1 q1) fun vl s2 ⟨l,H2,I2,pl,q2⟩=>thn (hu pins s2 O H2 _ I2 q2) fun vu s3 ⟨u,H3,I3,pu,q3⟩=>?_);rw [evalPart_none];refine wpAny_pure ?_;have I4:Inv X pins O H3 {s3 with heap:=s3.heap.push {cls:=.type "slice",data:=.fields #[vl,vu,.none]}}:=I3.kept (t':=s3.toks) fun b ob q=>Heap.get?_push_of_some _ q;obtain ⟨T,id,hT,ht,hg⟩:=hr pins {s3 with heap:=s3.heap.push {cls:=.type "slice",data:=.fields #[vl,vu,.none]}} O H3 x v vl vu l u s3.heap.objs.size Q I4 r1 (Heap.IsSliceOf.new ..) pl pu q3;show wpAny (model X.prog X.w) X.A (subscriptTail e (.Slice lo hi none p2) v (.ref s3.heap.objs.size)) (EP X pins O Q) X.xe {s3 with heap:=s3.heap.push {cls:=.type "slice",data:=.fields #[vl,vu,.none]}};exact tail_any (ops:=[.ref s3.heap.objs.size,v]) ht hT hg (by with_unfolding_all rfl)
def zaV(xs:List V)(lo hi:Option Int):List V:=(xs.drop (HT.sIx xs.length 0 lo)).take (HT.sIx xs.length xs.length hi-HT.sIx xs.length 0 lo)
theorem z0P(xs:List V)(lo hi:Option Int):(zaV xs lo hi).length<=xs.length:=by
 unfold zaV;rw [List.length_take,List.length_drop];omega
def ziC(K:W.Frag):V->Option Int->Option Int->Hp->VK->Prop:=fun x lo hi H Q=>∃ a xs,x=.ref a/\SqT K H a xs/\ ¬ (HT.sIx xs.length 0 lo=0/\HT.sIx xs.length xs.length hi=xs.length)/\∀ p,H p=none->Q (.ref p) (upd H p (.tup (zaV xs lo hi)))
theorem zft:SlR X (ziC X.K):=by
 intro pins s O H x v vl vu lo hi sl Q I rx hs pl pu h;obtain ⟨a,xs,rfl,hx,hw,q⟩:=h;cases rx;obtain ⟨its,r,ht,hz⟩:=I.tuple hx;have hlen:its.toArray.size=xs.length:=by rw [List.size_toArray];exact r.length.symm
 refine ⟨"tuple",_,PyProof.Rows.slot_tuple_getitem.lookup,ht.typeIs,?_⟩;refine HT.kf ht hs pl pu (by rw [hlen];exact hw) ?_ (by rw [hlen];exact hz);rw [hlen];refine ⟨.ref s.heap.objs.size,_,I.laid (t':=s.toks) (o:=.tup (zaV xs lo hi)) (fun b ob q=>Heap.get?_push_of_some _ q) (Nat.le_refl _) ?_,rfl,q _ (I.hok.fresh (Nat.le_refl _))⟩;exact ⟨Nat.le_trans (z0P xs lo hi) hz,_,(r.drop (HT.sIx xs.length 0 lo)).take (HT.sIx xs.length xs.length hi-HT.sIx xs.length 0 lo),z9C.new _ _⟩
def zgX(K:W.Frag):R2:=fun x y H Q=>∃ a b xs ys,x=.ref a/\y=.ref b/\SqT K H a xs/\SqT K H b ys/\xs≠[]/\xs.length+ys.length<=sizeLine/\ (ys=[]->Q (.ref a) H)/\(ys≠[]->∀ p,H p=none->Q (.ref p) (upd H p (.tup (xs++ys))))
theorem yG.nil_iff{xs:List V}{us:List Value}(r:yG xs us):us=[] ↔ xs=[]:=by cases r with
 | nil=>simp | cons _ _=>simp
theorem zco:OpR X (binaryOp .Add) (zgX X.K):=by
 intro pins s O H x y v u Q I rx ry h;obtain ⟨a,b,xs,ys,rfl,rfl,ha,hb,hx,hz,q1,q2⟩:=h;cases rx;cases ry;obtain ⟨its,r1,p1,_⟩:=I.tuple ha;obtain ⟨its2,r2,p2,_⟩:=I.tuple hb;refine HT.zcq p1 p2 (fun z=>hx (r1.nil_iff.mp z)) (fun z=>⟨.ref a,H,I,rfl,q1 (r2.nil_iff.mp z)⟩) (fun z=>?_) (by rw [<- r1.length,<- r2.length];exact hz);refine ⟨.ref s.heap.objs.size,_,I.laid (t':=s.toks) (o:=.tup (xs++ys)) (fun b ob q=>Heap.get?_push_of_some _ q) (Nat.le_refl _) ?_,rfl,q2 (fun w=>z (r2.nil_iff.mpr w)) _ (I.hok.fresh (Nat.le_refl _))⟩;exact ⟨by rw [List.length_append];exact hz,_,r1.append r2,z9C.new _ _⟩
end
def ixN(n:Nat)(i:Int):Option Nat:=if 0<=i then (if i<n then some i.toNat else none) else if -(n:Int)<=i then some (i+n).toNat else none
def atI{α:Type}(xs:List α)(i:Int):Option α:=(ixN xs.length i).bind fun j=>xs[j]?
theorem z7L{n:Nat}{i:Int}{j:Nat}(h:ixN n i=some j):seqIndex? i n=some j/\j<n/\-(n:Int)<=i/\i<n:=by
 unfold ixN at h;by_cases h0:0<=i
 ·rw [if_pos h0] at h;by_cases h1:i<n
  ·rw [if_pos h1] at h;have e:i.toNat=j:=Option.some.inj h;exact ⟨by rw [seqIndex_of h0 h1,e],by omega,by omega,h1⟩
  ·rw [if_neg h1] at h;cases h
 ·rw [if_neg h0] at h;by_cases h1:-(n:Int)<=i
  ·rw [if_pos h1] at h;have e:(i+n).toNat=j:=Option.some.inj h;exact ⟨by rw [seqIndex_neg (by omega) h1,e],by omega,h1,by omega⟩
  ·rw [if_neg h1] at h;cases h
theorem z89{α:Type}{xs:List α}{i:Int}{v:α}(h:atI xs i=some v):∃ j,seqIndex? i xs.length=some j/\xs[j]? = some v/\j<xs.length/\-(xs.length:Int)<=i/\i<xs.length:=by
 unfold atI at h;cases e:ixN xs.length i with
 | none=>rw [e] at h;cases h | some j=>
  rw [e] at h;obtain ⟨h1,h2,h3,h4⟩:=z7L e;exact ⟨j,h1,h,h2,h3,h4⟩
def z5H(b:Expr):Prop:=∀ o i,subscripted b false o i=operate [o,i] (getItem o i)
def IxR(X:Cx)(r:R2):Prop:= ∀ (value slice:Expr)(pins:List (Addr×Obj))(s:Shared)(O:St)(H:Hp)(x y:V)(v u:Value)(Q:VK),Inv X pins O H s->xo x v->xo y u->r x y H Q-> subscripted slice false v u=operate [v,u] (getItem v u)->wpAny (model X.prog X.w) X.A (subscriptTail value slice v u) (EP X pins O Q) X.xe s
def MtR (X:Cx) (id:String) (r:V->List V->Hp->VK->Prop):Prop:= ∀ (pins:List (Addr×Obj)) (s:Shared) (O:St) (H:Hp) (x:V) (xs:List V) (v:Value) (us:List Value) (Q:VK),Inv X pins O H s->xo x v->yG xs us->r x xs H Q-> wpAny (model X.prog X.w) X.A (call (.builtin id) (v::us)) (EP X pins O Q) X.xe s
section
variable {X:Cx}{a b:Expr}{ta tb:TE}{pos:Pos}
theorem IxR.or{r r':R2}(h:IxR X r)(h':IxR X r'):IxR X (fun x y H Q=>r x y H Q\/r' x y H Q):=by
 intro value slice pins s O H x y v u Q I rx ry q hs;rcases q with q | q;·exact h value slice pins s O H x y v u Q I rx ry q hs
 ·exact h' value slice pins s O H x y v u Q I rx ry q hs
theorem zdz{r:R2}(hr:IxR X r)(ha:PE X a ta)(hb:PE X b tb)(hs:z5H b):PE X (.Subscript a b pos) (tOp r ta tb):=by
 intro pins s O H Q I h;exact Subscript_ (zgB ha hb I h fun v u s2 x y H2 I2 rx ry q=>hr a b pins s2 O H2 x y v u Q I2 rx ry q (hs _ _))
def zim(K:W.Frag):R2:=fun x y H Q=>∃ p xs i v,x=.ref p/\y=.int i/\SqL K H p xs/\atI xs i=some v/\Q v H
def zi5(K:W.Frag):R2:=fun x y H Q=>∃ p xs i v,x=.ref p/\y=.int i/\SqT K H p xs/\atI xs i=some v/\Q v H
theorem zc1:IxR X (zim X.K):=by
 intro value slice pins s O H x y v u Q I rx ry h hs;obtain ⟨p,xs,i,z,rfl,rfl,hq,he,q⟩:=h;cases rx;obtain ⟨t,rfl⟩:=ry;obtain ⟨its,r,pl,hz⟩:=I.list hq;obtain ⟨j,h1,h2,h3,h4,h5⟩:=z89 he;obtain ⟨w,ew,rw'⟩:=r.get h2;have hl:=r.length;have hn:=z5Z;have fin:EP X pins O Q w s:=⟨z,H,I,rw',q⟩;by_cases h0:0<=i
 ·have hj:i.toNat=j:=by
   rw [seqIndex_of h0 h5] at h1;exact Option.some.inj h1
  exact item_listR pl.isList h0 (by omega) (by rw [hj];simpa using ew) fin hs
 ·have hj:(i+(its.toArray.size:Int)).toNat=j:=by
   rw [seqIndex_neg (by omega) h4] at h1;rw [List.size_toArray,<- hl];exact Option.some.inj h1
  exact subscriptTail_builtinR (x:=w) pl.isList.typeIs slot_list_getitem.lookup (wpAny_getItem_list_neg (Q:=fun r s'=>r=w/\EP X pins O Q r s') pl.isList (by omega) (by rw [List.size_toArray]<;>omega) (by omega) (by rw [hj];simpa using ew) ⟨rfl,fin⟩) hs
theorem zdQ:IxR X (zi5 X.K):=by
 intro value slice pins s O H x y v u Q I rx ry h hs;obtain ⟨p,xs,i,z,rfl,rfl,hq,he,q⟩:=h;cases rx;obtain ⟨t,rfl⟩:=ry;obtain ⟨its,r,pl,hz⟩:=I.tuple hq;obtain ⟨j,h1,h2,h3,h4,h5⟩:=z89 he;obtain ⟨w,ew,rw'⟩:=r.get h2;have hl:=r.length;have hn:=z5Z;have fin:EP X pins O Q w s:=⟨z,H,I,rw',q⟩;exact subscriptTail_builtinR (x:=w) pl.typeIs slot_tuple_getitem.lookup (getItem_tuple (j:=j) (Q:=fun r s'=>r=w/\EP X pins O Q r s') pl (by omega) (by omega) (by rw [List.size_toArray,<- hl];exact h1) (by simpa using ew) ⟨rfl,fin⟩) hs
theorem z7F (its:List Value) (n j:Nat) (u:Value):Obj.mapSeq (·.setIfInBounds j u) {cls:=.type "list",data:=.seq its.toArray n}={cls:=.type "list",data:=.seq (its.set j u).toArray n}:=by simp [Obj.mapSeq]
theorem Inv.lst{pins:List (Addr×Obj)}{O:St}{H:Hp}{s:Shared}{p:Addr}{xs:List V}(I:Inv X pins O H s)(h:H p=some (.lst xs)): ∃ (its:List Value)(n:Nat),yG xs its/\s.heap.get? p=some {cls:=.type "list",data:=.seq its.toArray n}/\xs.length<=sizeLine:=by
 obtain ⟨z,its,n,r,e⟩:=I.hok p _ h;exact ⟨its,n,r,e,z⟩
theorem Inv.lstUpd {pins:List (Addr×Obj)} {O:St} {H:Hp} {s:Shared} {p:Addr} {xs ys:List V} {its its':List Value} {n n':Nat} {f:Obj->Obj} (I:Inv X pins O H s) (h:H p=some (.lst xs)) (ho:s.heap.get? p=some {cls:=.type "list",data:=.seq its.toArray n}) (hf:f {cls:=.type "list",data:=.seq its.toArray n}={cls:=.type "list",data:=.seq its'.toArray n'}) (r:yG ys its') (hz:ys.length<=sizeLine) (t:Nat): Inv X pins O (upd H p (.lst ys)) {s with heap:=s.heap.update p f,toks:=t}:=by
 have e:(s.heap.update p f).get? p=some {cls:=.type "list",data:=.seq its'.toArray n'}:=by rw [Heap.get?_update_self f ho (by rw [hf]<;>rfl),hf]
 refine I.write (x:=p) (e:=p) (by rw [h];trivial) (.inl rfl) (fun b u hb q=>(Heap.get?_update_other _ _ (Ne.symm hb)).trans q) ⟨_,e⟩ ?_;exact ⟨hz,its',n',r,e⟩
def zh6:V->V->V->Hp->(Hp->Prop)->Prop:=fun o i v H Q=>∃ p xs k j,o=.ref p/\i=.int k/\H p=some (.lst xs)/\ixN xs.length k=some j/\Q (upd H p (.lst (xs.set j v)))
theorem set_list:zhB X zh6:=by
 intro pins s O H o i v ov iv u Q I ro ri rv h;obtain ⟨p,xs,k,j,rfl,rfl,hp,hj,q⟩:=h;cases ro;obtain ⟨t,rfl⟩:=ri;obtain ⟨its,n,r,ho,hz⟩:=I.lst hp;obtain ⟨h1,h2,h3,h4⟩:=z7L hj;have hl:=r.length;have hn:=z5Z;have I':Inv X pins O (upd H p (.lst (xs.set j v))) {s with heap:=s.heap.update p (Obj.mapSeq (·.setIfInBounds j u))}:= I.lstUpd hp ho (z7F its n j u) (r.set rv j) (by rw [List.length_set];exact hz) s.toks;by_cases h0:0<=k
 ·have hk:k.toNat=j:=by
   rw [seqIndex_of h0 h4] at h1;exact Option.some.inj h1
  exact W.ki_setAt ho h0 (by omega) (by rw [List.size_toArray,<- hl];exact h4) (by rw [hk];exact ⟨_,I',q⟩)
 ·have hk:(k+(its.toArray.size:Int)).toNat=j:=by
   rw [seqIndex_neg (by omega) h3] at h1;rw [List.size_toArray,<- hl];exact Option.some.inj h1
  exact W.ki_setBack ho (by omega) (by rw [List.size_toArray,<- hl];exact h3) (by omega) (by rw [hk];exact ⟨_,I',q⟩)
theorem z4p(lo hi:Option Int)(n:Nat):(sliceBounds lo hi none n).1=((HT.sIx n 0 lo:Nat):Int)/\(sliceBounds lo hi none n).2.1=((HT.sIx n n hi:Nat):Int)/\(sliceBounds lo hi none n).2.2=1:=by
 refine ⟨?_,?_,rfl⟩;·cases lo with
  | none=>simp [sliceBounds,HT.sIx] | some i=>
   simp only [sliceBounds,HT.sIx,Option.getD_none,show (1:Int) > 0 by decide,if_true];by_cases h:i<0;·simp only [h,if_true]<;>omega
   ·simp only [h,if_false]<;>omega
 ·cases hi with
  | none=>simp [sliceBounds,HT.sIx] | some i=>
   simp only [sliceBounds,HT.sIx,Option.getD_none,show (1:Int) > 0 by decide,if_true];by_cases h:i<0;·simp only [h,if_true]<;>omega
   ·simp only [h,if_false]<;>omega
theorem z3p(its:List Value)(lo hi:Option Int):slicePick its.toArray lo hi none=((its.drop (HT.sIx its.length 0 lo)).take (HT.sIx its.length its.length hi-HT.sIx its.length 0 lo)).toArray:=by
 obtain ⟨h1,h2,h3⟩:=z4p lo hi its.toArray.size;unfold slicePick;rw [h1,h2,h3];simp only [sliceRange_one,pick_run,List.size_toArray]<;>rfl
def zi3(K:W.Frag):V->Option Int->Option Int->Hp->VK->Prop:=fun x lo hi H Q=>∃ a xs,x=.ref a/\SqL K H a xs/\∀ p,H p=none->Q (.ref p) (upd H p (.lst (zaV xs lo hi)))
theorem zd0:SlR X (zi3 X.K):=by
 intro pins s O H x v vl vu lo hi sl Q I rx hs pl pu h;obtain ⟨a,xs,rfl,hx,q⟩:=h;cases rx;obtain ⟨its,r,ht,hz⟩:=I.list hx;have hlen:=r.length;refine ⟨"list",_,slot_list_getitem.lookup,ht.isList.typeIs,?_⟩;refine wpAny_getItem_list_slice ht.isList hs pl pu .none (by simp) ?_ (by rw [List.size_toArray]<;>omega);rw [z3p,<- hlen];refine ⟨.ref s.heap.objs.size,_,I.laid (t':=s.toks) (o:=.lst (zaV xs lo hi)) (fun b ob q=>Heap.get?_push_of_some _ q) (Nat.le_refl _) ?_,rfl,q _ (I.hok.fresh (Nat.le_refl _))⟩;exact ⟨Nat.le_trans (z0P xs lo hi) hz,_,0,(r.drop (HT.sIx xs.length 0 lo)).take (HT.sIx xs.length xs.length hi-HT.sIx xs.length 0 lo),Heap.get?_push_size _ rfl⟩
def z1S:V->Bool
 | .non=>true | .bl _=>true | .int _=>true | .str _=>true | _=>false
def eqV:V->V->Bool
 | .non,.non=>true | .bl a,.bl b=>a==b | .bl a,.int b=>(if a then 1 else 0)==b | .int a,.bl b=>a==(if b then 1 else 0) | .int a,.int b=>a==b | .str a,.str b=>a==b | _,_=>false
theorem zeF{A:Around}{s:Shared}{y x:V}{u v:Value}(ry:xo y u)(rx:xo x v)(fy:z1S y=true)(fx:z1S x=true):SeqAt.EqAt A s u v (eqV y x):=by cases y with
 | non=>
  cases ry;cases x with
  | non=>cases rx;exact SeqAt.EqAt.same _ | bl b=>cases rx;exact SeqAt.EqAt.none_bool b | int b=>obtain ⟨t,rfl⟩:=rx;exact SeqAt.EqAt.none_int b t | str b=>obtain ⟨t,rfl⟩:=rx;exact SeqAt.EqAt.none_str b t | _=>exact absurd (show false=true from fx) Bool.false_ne_true
 | bl a=>
  cases ry;cases x with
  | non=>cases rx;exact SeqAt.EqAt.bool_none a | bl b=>cases rx;exact SeqAt.EqAt.bool_bool a b | int b=>obtain ⟨t,rfl⟩:=rx;exact SeqAt.EqAt.bool_int a b t | str b=>obtain ⟨t,rfl⟩:=rx;exact SeqAt.EqAt.bool_str a b t | _=>exact absurd (show false=true from fx) Bool.false_ne_true
 | int a=>
  obtain ⟨t',rfl⟩:=ry;cases x with
  | non=>cases rx;exact SeqAt.EqAt.int_none a t' | bl b=>cases rx;exact SeqAt.EqAt.int_bool a t' b | int b=>obtain ⟨t,rfl⟩:=rx;exact SeqAt.EqAt.int_int a t' b t | str b=>obtain ⟨t,rfl⟩:=rx;exact SeqAt.EqAt.int_str a t' b t | _=>exact absurd (show false=true from fx) Bool.false_ne_true
 | str a=>
  obtain ⟨t',rfl⟩:=ry;cases x with
  | non=>cases rx;exact SeqAt.EqAt.str_none a t' | bl b=>cases rx;exact SeqAt.EqAt.str_bool a t' b | int b=>obtain ⟨t,rfl⟩:=rx;exact SeqAt.EqAt.str_int a t' b t | str b=>obtain ⟨t,rfl⟩:=rx;exact SeqAt.EqAt.str_str a t' b t | _=>exact absurd (show false=true from fx) Bool.false_ne_true
 | _=>exact absurd (show false=true from fy) Bool.false_ne_true
def eqU(x:V)(u:Value):Bool:=match u with
 | .none=>eqV .non x | .bool b=>eqV (.bl b) x | .int i _=>eqV (.int i) x | .str z _=>eqV (.str z) x | _=>false
theorem zbg{x y:V}{u:Value}(r:xo y u)(f:z1S y=true):eqU x u=eqV y x:=by cases y with
 | non=>cases r;rfl | bl b=>cases r;rfl | int i=>obtain ⟨t,rfl⟩:=r;rfl | str z=>obtain ⟨t,rfl⟩:=r;rfl | _=>exact absurd (show false=true from f) Bool.false_ne_true
theorem z5m{x:V}:∀ {xs:List V}{us:List Value},yG xs us->xs.all z1S=true->us.any (eqU x)=xs.any fun y=>eqV y x
 | _,_,.nil,_=>rfl | y::xs,u::us,.cons r t,f=>by
  rw [List.all_cons,Bool.and_eq_true] at f;rw [List.any_cons,List.any_cons,zbg r f.1,z5m t f.2]
theorem z2U{A:Around}{s:Shared}{x:V}{v:Value}(rx:xo x v)(fx:z1S x=true):∀ {xs:List V}{us:List Value},yG xs us->xs.all z1S=true->∀ u∈us,SeqAt.EqAt A s u v (eqU x u)
 | _,_,.nil,_=>fun u hu=>by cases hu | y::xs,u::us,.cons r t,f=>fun u' hu=>by
  rw [List.all_cons,Bool.and_eq_true] at f;rcases List.mem_cons.mp hu with rfl | hu;·rw [zbg r f.1];exact zeF r rx f.1 fx
  ·exact z2U rx fx t f.2 u' hu
def inV(x:V)(xs:List V):Bool:=xs.any fun y=>eqV y x
def rIn(K:W.Frag)(neg:Bool):R2:=fun x y H Q=>∃ p xs,y=.ref p/\(SqL K H p xs\/SqT K H p xs)/\z1S x=true/\xs.all z1S=true/\Q (.bl (if neg then !inV x xs else inV x xs)) H
theorem z8n:OpR X (compareOp .In) (rIn X.K false):=by
 intro pins s O H x y v u Q I rx ry h;obtain ⟨p,xs,rfl,hq,fx,fs,q⟩:=h;cases ry;rcases hq with hq | hq
 ·obtain ⟨its,r,pl,hz⟩:=I.list hq;refine SeqAt.in_listAt (eqU x) pl.isList (fun w hw=>z2U rx fx r fs w (by simpa using hw)) ⟨.bl _,H,I,rfl,?_⟩;rw [show its.toArray.any (eqU x)=its.any (eqU x) by simp,z5m r fs];exact q
 ·obtain ⟨its,r,pl,hz⟩:=I.tuple hq;refine SeqAt.in_tupleAt (eqU x) pl (fun w hw=>z2U rx fx r fs w (by simpa using hw)) ⟨.bl _,H,I,rfl,?_⟩;rw [show its.toArray.any (eqU x)=its.any (eqU x) by simp,z5m r fs];exact q
theorem z3S:wu X (.builtin "len") (fun xs H Q=>∃ p ys,xs=[.ref p]/\(SqL X.K H p ys\/SqT X.K H p ys)/\Q (.int ys.length) H):=by
 intro pins s O H xs us Q I r h;obtain ⟨p,ys,rfl,hq,q⟩:=h;obtain ⟨u,rfl,rx⟩:=vals1 r;cases rx;have hn:=z5Z;rcases hq with hq | hq
 ·obtain ⟨its,r',pl,hz⟩:=I.list hq;have hlen:=r'.length;exact Calls.call_len_list pl.isList (by simp only [List.size_toArray]<;>omega) ⟨.int ys.length,H,I.tok _,⟨s.toks+1,by rw [List.size_toArray,hlen]⟩,q⟩
 ·obtain ⟨its,r',pl,hz⟩:=I.tuple hq;have hlen:=r'.length;exact len_tuple pl (by simp only [List.size_toArray]<;>omega) ⟨.int ys.length,H,I.tok _,⟨s.toks+1,by rw [List.size_toArray,hlen]⟩,q⟩
theorem z2N:wu X (.type "tuple") (fun xs H Q=>∃ p ys,xs=[.ref p]/\((SqL X.K H p ys/\∀ l,H l=none->Q (.ref l) (upd H l (.tup ys)))\/(SqT X.K H p ys/\Q (.ref p) H))):=by
 intro pins s O H xs us Q I r h;obtain ⟨p,ys,rfl,h⟩:=h;obtain ⟨u,rfl,rx⟩:=vals1 r;cases rx;rcases h with ⟨hq,q⟩ | ⟨hq,q⟩
 ·obtain ⟨its,r',pl,hz⟩:=I.list hq;have hlen:=r'.length;refine call_tuple_list pl.isList (fun h' kp=>?_) (by simp only [List.size_toArray]<;>omega);have I1:Inv X pins O H {s with heap:=h'}:=I.kept (t':=s.toks) kp;have I2:Inv X pins O (upd H h'.objs.size (.tup ys)) {s with heap:=h'.push {cls:=.type "tuple",data:=.seq its.toArray}}:= I1.laid (t':=s.toks) (fun b o e=>Heap.get?_push_of_some _ e) (Nat.le_refl _) (show wS X.prog X.w _ _ _ (.tup ys) from ⟨hz,its,r',z9C.new _ _⟩);exact ⟨.ref h'.objs.size,_,I2,rfl,q _ (I1.hok.fresh (Nat.le_refl _))⟩
 ·obtain ⟨its,r',pl,hz⟩:=I.tuple hq;exact call_tuple_same pl ⟨.ref p,H,I,rfl,q⟩
def tyV(K:W.Frag)(T:String)(x:V)(H:Hp):Prop:=match x with
 | .str _=>T="str" | .int _=>T="int" | .ref p=>(T="list"/\∃ xs,SqL K H p xs)\/(T="tuple"/\∃ o,K.lookup p=some o/\o.cls=.type "tuple"/\o.dict=none)\/ (T="dict"/\((∃ kvs,H p=some (.dK kvs))\/∃ kvs,H p=some (.dT kvs)))\/(T="set"/\∃ S n,H p=some (.set S n)) | _=>False
theorem zeu{pins:List (Addr×Obj)}{O:St}{H:Hp}{s:Shared}{T:String}{x:V}{v:Value}(I:Inv X pins O H s)(r:xo x v)(ty:tyV X.K T x H): s.TypeIs v T/\∀ a,v=.ref a->∃ ob,s.heap.get? a=some ob/\ob.dict=none:=by cases x with
 | str z=>
  obtain ⟨t,rfl⟩:=r;cases (show T="str" from ty);exact ⟨typeIs_str s z t,fun _ e=>nomatch e⟩ | int i=>
  obtain ⟨t,rfl⟩:=r;cases (show T="int" from ty);exact ⟨typeIs_int s i t,fun _ e=>nomatch e⟩ | ref p=>
  cases r;rcases ty with ⟨rfl,xs,hq⟩ | ⟨rfl,o,hk,hc,hd⟩ | ⟨rfl,hk⟩ | ⟨rfl,S,n,hk⟩
  ·obtain ⟨its,_,pl,_⟩:=I.list hq;refine ⟨pl.isList.typeIs,fun a e=>?_⟩;cases e;obtain ⟨o,n,e,c,hd,_⟩:=pl;exact ⟨o,e,hd⟩
  ·refine ⟨⟨o,I.kIn p o hk,hc⟩,fun a e=>?_⟩;cases e;exact ⟨o,I.kIn _ o hk,hd⟩
  ·have z:∃ o,s.heap.get? p=some o/\o.ExactDict:=by
    rcases hk with ⟨kvs,hk⟩ | ⟨kvs,hk⟩
    ·obtain ⟨_,_,_,_,o,_,_,e,ex,_⟩:=I.hok p _ hk;exact ⟨o,e,ex⟩
    ·obtain ⟨_,_,_,_,o,_,_,e,ex,_⟩:=I.hok p _ hk;exact ⟨o,e,ex⟩
   obtain ⟨o,e,ex⟩:=z;refine ⟨⟨o,e,ex.1⟩,fun a e2=>?_⟩;cases e2;exact ⟨o,e,ex.2.1⟩
  ·obtain ⟨o,_,_,_,e,ex,_⟩:=I.hok p _ hk;refine ⟨⟨o,e,ex.1⟩,fun a e2=>?_⟩;cases e2;exact ⟨o,e,ex.2.1⟩ | _=>exact False.elim ty
def tBM(K:W.Frag)(T:String)(r:V->List V->Hp->VK->Prop)(to:TE)(t:TA):TE:=fun O H Q=>to O H fun x H1=>tyV K T x H1/\t O H1 fun xs H2=>r x xs H2 Q
variable {o e:Expr}{es:List Expr}{to:TE}{t:TA}{name:Str}{apos cpos:Pos}{T id:String}{r:V->List V->Hp->VK->Prop}
theorem ze9 (pa:PlainAttrs T) (slot:Slot T name id) (hty:typeOf (.builtin id)=pure (.type "method_descriptor")) (hm:MtR X id r) (ho:PE X o to) (ha:PA X (e::es) t) (hbase:attributeBase o name X.env (eval o X.env)=eval o X.env:=by rfl) (hfew:((backTo cpos (starEach (e::es) X.env)).all (fun x=>!x.1)&&(backToKw cpos (keywordEach [] X.env)).all (fun x=>x.1.isSome) && decide ((e::es).length+([]:List Keyword).length+(if ([]:List Keyword).isEmpty then 0 else 1)<30))=true:=by rfl) (hline:(apos.endLine==cpos.line)=true:=by rfl) (hs:starEach (e::es) X.env=(false,eval e X.env)::starEach es X.env:=by rfl) (hplain:(backTo cpos (starEach es X.env)).any (·.1)=false:=by rfl): PE X (.Call (.Attribute o name apos) (e::es) [] cpos) (tBM X.K T r to t):=by
 intro pins s O H Q I h;refine wpAny_Call_method_late hbase hfew hline rfl (thn (ho pins s O H _ I h) fun v s1 ⟨x,H1,I1,r1,ty,q1⟩=>?_);obtain ⟨h1,h2⟩:=zeu I1 r1 ty;refine ⟨T,id,pa,slot,hty,h1,h2,?_⟩;have hA:=ha cpos pins s1 O H1 _ I1 q1;rw [hs] at hA ⊢;refine Calls.callWith_builtin (by show (false||(backTo cpos (starEach es X.env)).any (·.1))=false;rw [hplain]<;>rfl) (Calls.evalArgs_plain ?_);exact thn hA fun us s2 ⟨vs,H2,I2,r2,q2⟩=>hm pins s2 O H2 x vs v us Q I2 r1 r2 q2
end
def MtM (X:Cx) (id:String) (r:V->List V->Hp->VK->Prop):Prop:= ∀ (pins:List (Addr×Obj)) (s:Shared) (O:St) (H:Hp) (x:V) (xs:List V) (v:Value) (us:List Value) (Q:VK),Inv X pins O H s->xo x v->yG xs us->r x xs H Q-> wpAny (model X.prog X.w) X.A (call (.builtin id) (v::us)) (EP X pins O Q) X.xe s
theorem yG.one:∀ {x:V}{us:List Value},yG [x] us->∃ u,us=[u]/\xo x u | _,_,.cons r .nil=>⟨_,rfl,r⟩
section
variable {X:Cx}{pins:List (Addr×Obj)}{O:St}{H:Hp}{s:Shared}{l b:Addr}{xs ys zs:List V}
theorem Inv.lset {its its':List Value} {n:Nat} {f:Array Value->Array Value} {t':Nat} (I:Inv X pins O H s) (hH:H l=some (.lst xs)) (e:s.heap.get? l=some {cls:=.type "list",data:=.seq its.toArray n}) (hf:f its.toArray=its'.toArray) (hv:yG ys its') (hz:ys.length<=sizeLine): Inv X pins O (upd H l (.lst ys)) {s with heap:=s.heap.update l (Obj.mapSeq f),toks:=t'}:=by
 have q:=PySem.IsL.update e f;rw [hf] at q;refine I.write (x:=l) (e:=l) (by rw [hH];exact trivial) (.inl rfl) (fun b' u hb hu=>(Heap.get?_update_other s.heap (Obj.mapSeq f) (Ne.symm hb)).trans hu) ⟨_,q⟩ ?_;exact ⟨hz,its',_,hv,q⟩
theorem Inv.lnew {its:List Value} {t':Nat} (I:Inv X pins O H s) (hv:yG ys its) (hz:ys.length<=sizeLine): Inv X pins O (upd H s.heap.objs.size (.lst ys)) {s with heap:=s.heap.push {cls:=.type "list",data:=.seq its.toArray},toks:=t'}:= I.laid (fun _ _ q=>Heap.get?_push_of_some _ q) (Nat.le_refl _) ⟨hz,its,0,hv,Heap.get?_push_size _ rfl⟩
theorem Inv.fresh(I:Inv X pins O H s):H s.heap.objs.size=none:=I.hok.fresh (Nat.le_refl _)
theorem Inv.lstM(I:Inv X pins O H s)(hH:H l=some (.lst xs)):xs.length<=sizeLine/\∃ (its:List Value)(n:Nat),yG xs its/\xs.length=its.length/\s.heap.get? l=some {cls:=.type "list",data:=.seq its.toArray n}:=by
 obtain ⟨z,its,n,r,e⟩:=I.hok l _ hH;exact ⟨z,its,n,r,r.length,e⟩
end
section
variable {X:Cx}
def zcs:V->List V->Hp->VK->Prop:=fun x vs H Q=>∃ l xs y,x=.ref l/\vs=[y]/\H l=some (.lst xs)/\xs.length<sizeLine/\Q .non (upd H l (.lst (xs++[y])))
theorem z8V:MtM X "list.append" zcs:=by
 intro pins s O H x vs v us Q I rx rv h;obtain ⟨l,xs,y,rfl,rfl,hH,hz,q⟩:=h;cases rx;obtain ⟨u,rfl,ru⟩:=rv.one;obtain ⟨z,its,n,r,hl,e⟩:=I.lstM hH;refine call_meets F.slot_list_append ⟨_,e,rfl⟩ F.entry_list_append (F.args_list_append_2 _ _) (PySem.list_append l its.toArray n u (by rw [List.size_toArray];omega)) ⟨e,?_⟩;refine ⟨.non,_,I.lset (its':=its++[u]) hH e (by simp) (r.append (.cons ru .nil)) ?_,rfl,q⟩;rw [List.length_append,List.length_singleton];omega
end
end L2
namespace Att
open PySem.W PySem.Calls
theorem z19{P:Params}{h:Heap}:∀ (ns:List Int)(vs:List Value),WellAll P h vs (ns.map WData.int)->IntsAre vs ns:=by
 intro ns;induction ns with
 | nil=>
  intro vs w;rw [List.map_nil] at w;cases w;exact .nil | cons n ns ih=>
  intro vs w;rw [List.map_cons] at w;cases w with | cons a b=>
   cases a;exact .cons _ _ (ih _ b)
theorem z94 {l:OpenLaw} {n:Nat} (hn:l.most=some n) {P:Params} {h:Heap} {args:List WData} {vals:List Value} (hpre:l.row.toRowW.claim.pre args=true) (hwl:WellAll P h vals args): ∃ a vs ns,vals=[Value.ref a]/\args=[WData.list (ns.map WData.int)]/\h.get? a=some {cls:=.type "list",data:=.seq vs.toArray}/\IntsAre vs ns/\ns.length<=n:=by
 have hsh:WShape.hasAll [] args [.list .int]=true:=(pre_splitW hpre).1;have hc:l.pre.holds [] {args:=args}=true:=(pre_splitW hpre).2;obtain ⟨d,r,rfl,h1,h2⟩:=hasAllW_cons hsh;obtain rfl:=hasAllW_nil h2;obtain ⟨xs,rfl,h3⟩:=hasW_list h1;obtain ⟨ns,rfl⟩:=items_int h3;have hlen:ns.length<=n:=by
  unfold OpenLaw.pre at hc;have h4:(WTm.not (.lt (.lit (.int (n:Int))) (.len (.arg 0)))).holds [] {args:=[.list (ns.map .int)]}=true:=by
   have h4:=(holds_andW hc).1;rw [hn] at h4;exact h4
  have h5:=condW_of h4 (w_not (w_lt w_lit (w_len_list (w_arg rfl))));rw [List.length_map] at h5;refine Nat.le_of_not_lt fun q=>?_;have q':(n:Int)<((ns.length:Nat):Int):=by omega
  first
   | (rw [decide_eq_true q'] at h5;exact absurd h5 (by decide)) | (simp at h5;omega)
 cases hwl with | cons w1 w2=>
  cases w2;cases w1 with | list ho hall=>exact ⟨_,_,ns,rfl,rfl,ho,z19 ns _ hall,hlen⟩
theorem z88 (l:OpenLaw) (args:List WData):l.row.toRowW.claim.post args (.bool true) args=true:= postW_of (r:=l.row.toRowW) (X:=(true==true)) (show WShape.has [] (.bool true) .bool=true by first | rfl | decide | simp [WShape.has,WShape.arms,WShape.armsAll]) (show (WTm.eq .res (.lit (.bool true))).value [] {args:=args,res:=some (.bool true),after:=args}=some (.bool (true==true)) from w_eq_bool (w_res rfl) w_lit) rfl
theorem z11{l:OpenLaw}{n:Nat}{q:Program}{loose:List Str}{XP:(Str->Option Value)->Heap->Prop}{YP:World->Heap->Prop}{d:DefRec} (hn:l.most=some n)(hdf:d.params.defaults=[]) (call:∀ (w:World)(s₀ s₁:Shared)(mg mb:Str->Option Value)(fa:Addr)(o:Obj)(pm cd doc:Value)(a:Addr)(vs:List Value)(ns:List Int), Ground q loose [] XP w s₀ mg mb s₁.heap->YP w s₁.heap-> s₁.heap.get? fa=some o->o.data=.func (docDef d.name d.params d.body d.scope pm cd doc)->s₁.heap.CodeRec cd d.name->mg d.name=some (.ref fa)-> s₁.heap.get? a=some {cls:=.type "list",data:=.seq vs.toArray}->IntsAre vs ns->ns.length<=n->s₁.gens=#[]-> codeAny (model l.prog w) callerA (.call (.ref fa) ⟨[.ref a],[]⟩) (fun r s'=>r=.ok (.ret (.bool true))/\OldK s₁.heap s'.heap/\s'.os=s₁.os/\AllBare s'.gens) s₁): WalkO q loose XP YP l.row.toRowW d [] (fun f vs=>PySem.call f vs):=by
 intro w s₀ s₁ mg mb G Yy fa o pm cd doc dV kV ho hd hcd hD hmg hg args vals as hpre hlay hrd hwl hlo;obtain rfl:dV=.none:=Dflts.none hD hdf;obtain rfl:kV=.none:=Dflts.noKw hD;obtain ⟨a,vs,ns,rfl,rfl,hobj,hints,hlen⟩:=z94 hn hpre hwl;refine enter_call (codeAny_mono (call w s₀ s₁ mg mb fa o pm cd doc a vs ns G Yy ho (fd_plain hd) hcd hmg hobj hints hlen hg) fun r s' hq=>?_);obtain ⟨rfl,h2,h3,h4⟩:=hq;exact ⟨.inl ⟨.bool true,.bool true,[],rfl,fun _=>rfl,.bool true,z88 l _,fun _=>⟨List.Pairwise.nil,fun _ hm=>(nomatch hm)⟩⟩,h2,h3,h4⟩
section
variable {prog:Program}{w:World}{A:Around}{E:Value->Shared->Prop}{s:Shared}{K:Frag}
def ledger(h:Heap)(L d:Addr):List (Addr×Obj):=(List.range h.objs.size).filterMap fun a=>if a=L\/a=d then none else (h.get? a).map fun o=>(a,o)
end
end Att
namespace L2
open PySem.Spec
theorem z3E:∀ {vs:List Value}{ns:List Int},IntsAre vs ns->yG (ns.map V.int) vs
 | _,_,.nil=>.nil | _,_,.cons n t h=>.cons ⟨t,rfl⟩ (z3E h)
def zfD(H:Hp):Prop:=∀ b,H b=none\/∃ o xs,H b=some (.frz o (.lst xs))
theorem z6z {P:Program} {w:World} {K:W.Frag} {mg mb:Str->Option Value} {CX:CXT} {k:Nat} {fa a:Addr} {fd:FuncData} {x:Str} {sp:Sp} {s₁:Shared} {vs:List Value} {ns:List Int} (KX:K.In s₁.heap) (hns:s₁.heap.Ns mainGlobals mg) (hb:s₁.heap.Ns builtinsNs mb) (hbb:∀ x:Str,x≠"__name__"->mb x=bootBuiltins x) (hlim:s₁.heap.NoLimit) (hg:s₁.gens=#[]) (ha:s₁.heap.get? a=some {cls:=.type "list",data:=.seq vs.toArray}) (hi:IntsAre vs ns) (hl:ns.length<=sizeLine) (hr:z0n k callerA) (F:∀ base:Heap,K.In base->base.Ns mainGlobals mg->z2j P w K mg base CX k fa fd [x] sp) (hbind:∀ (s:Shared) (u:Value),BindsTo s fd ⟨[u],[]⟩ [(x,u)]) (hsp:∀ H:Hp,zfD H->SqL K H a (ns.map V.int)->sp [.ref a] H (fun v _=>v=.bl true) fun _ _ _=>False) (hCX:∀ H e s',CX [] H s₁ (fun _ _ _=>False) e s'->False): codeAny (model P w) callerA (.call (.ref fa) ⟨[.ref a],[]⟩) (fun r s'=>r=.ok (.ret (.bool true))/\OldK s₁.heap s'.heap/\s'.os=s₁.os/\AllBare s'.gens) s₁:=by
 have rv:=z3E hi;have lenV:=hi.length;have core:∀ H:Hp,zfD H->SqL K H a (ns.map V.int)->HOk P w H s₁.heap->(∀ b,H b≠none->b=a)->(H a≠none->K.lookup a=none)-> codeAny (model P w) callerA (.call (.ref fa) ⟨[.ref a],[]⟩) (fun r s'=>r=.ok (.ret (.bool true))/\OldK s₁.heap s'.heap/\s'.os=s₁.os/\AllBare s'.gens) s₁:=by
  intro H hO hS hok hA hK;have base_of:∀ {b:Addr} {o:Obj},s₁.heap.get? b=some o->H b=none->(zaK s₁.heap H).get? b=some o:=fun e n=>zaL e n;have noA:∀ {b:Addr} {o:Obj} {es:Array DictEntry} {ep:Nat},s₁.heap.get? b=some o->o.data=.dict es ep->H b=none:=fun {b o es ep} e d=>by cases q:H b with
   | none=>rfl | some u=>
    have e':b=a:=hA b (by rw [q];simp);subst e';rw [ha] at e;cases e;have d':Data.seq vs.toArray _=Data.dict es ep:=d;cases d'
  have nsK:∀ {b:Addr} {m:Str->Option Value},s₁.heap.Ns b m->(zaK s₁.heap H).Ns b m:=fun {b m} ⟨o,es,ep,e,d,r⟩=>⟨o,es,ep,base_of e (noA e d),d,r⟩;have hKb:K.In (zaK s₁.heap H):=fun b o e=>base_of (KX b o e) (by cases q:H b with
   | none=>rfl | some u=>
    have e':b=a:=hA b (by rw [q];simp);subst e';rw [hK (by rw [q];simp)] at e;cases e);have hM:Mod K mg (zaK s₁.heap H):=⟨hKb,nsK hns,⟨mb,nsK hb,hbb⟩,let ⟨mc,h1,h2⟩:=hlim;⟨mc,nsK h1,h2⟩⟩;have e0:zfR P w K mg (zaK s₁.heap H) callerA [] s₁ H:=⟨rfl,hM,fun b o e=>zd6 e,Nat.le_of_eq (z8W _ _),trivial,fun b hb=>absurd (show b∈([]:List Addr) from hb) (by simp),hok,.of_eq hg⟩;refine codeAny_mono ((F _ hKb (nsK hns)).run callerA [] s₁ H ⟨[.ref a],[]⟩ [.ref a] [.ref a] _ _ hr e0 (hbind s₁ (.ref a)) (.cons rfl .nil) (hsp H hO hS)) fun r s' h=>?_;cases r with
  | error e=>exact (hCX H e s' h).elim | ok fl=> cases fl with
   | next=>exact False.elim h | brk=>exact False.elim h | cont=>exact False.elim h | ret u=>
    obtain ⟨v,H',os,bare,un,hok',r',q⟩:=h;have q':v=.bl true:=q;subst q';obtain rfl:u=Value.bool true:=r';refine ⟨rfl,OldK.of_keep fun b o e=>?_,os,bare⟩;cases q:H b with
    | none=>exact un.keep b o e q (by intro z;exact absurd (show b∈([]:List Addr) from z) (by simp)) (by simp) | some u=>
     rcases hO b with z | ⟨ob,xs,z⟩;·rw [q] at z;cases z
     ·have z2:=un.frzs b ob _ z;obtain ⟨e1,_⟩:=hok b _ z;obtain ⟨e2,_⟩:=hok' b _ z2;rw [e] at e1;cases e1;exact e2
 cases hk:K.lookup a with
 | some o=>
  have e:=KX a o hk;rw [ha] at e;cases e;refine core (fun _=>none) (fun _=>.inl rfl) (.inr ⟨_,vs.toArray,_,hk,rfl,rfl,rfl,by rw [List.size_toArray,lenV];exact hl,by simpa using rv⟩) (fun b u z=>by have z':(none:Option HO)=some u:=z;cases z') (fun b z=>absurd rfl z) fun z=>absurd rfl z | none=>
  refine core (fun b=>if b=a then some (.frz {cls:=.type "list",data:=.seq vs.toArray} (.lst (ns.map V.int))) else none) (fun b=>?_) (.inl (.inr ⟨{cls:=.type "list",data:=.seq vs.toArray},if_pos rfl⟩)) (fun b u z=>?_) (fun b z=>?_) fun _=>hk
  ·by_cases hb:b=a;·exact .inr ⟨_,_,if_pos hb⟩
   ·exact .inl (if_neg hb)
  ·by_cases hb:b=a
   ·have z':=(if_pos hb).symm.trans z;cases z';subst hb;exact ⟨ha,by rw [List.length_map];exact hl,vs,_,rv,ha⟩
   ·have z':=(if_neg hb).symm.trans z;cases z'
  ·by_cases hb:b=a;·exact hb
   ·exact absurd (if_neg hb) z
abbrev KOf{K:W.Frag}{h:Heap}(_:K.In h):W.Frag:=K
theorem zhk{l:W.OpenLaw}{n k:Nat}{q:Program}{loose:List Str}{XP:(Str->Option Value)->Heap->Prop}{YP:World->Heap->Prop}{d:DefRec}{K:Params->W.Frag}{CX:World->CXT}{sp:World->Sp}{x:Str} (hn:l.most=some n)(hn2:n<=sizeLine)(hdf:d.params.defaults=[])(hr:z0n k callerA) (hY:∀ (w:World)(h:Heap),YP w h->(K w.params).In h) (F:∀ (w:World)(mg:Str->Option Value)(fa:Addr)(h:Heap),(K w.params).In h->h.Ns mainGlobals mg->mg d.name=some (.ref fa)-> ∃ fd:FuncData,(∀ (s:Shared)(u:Value),BindsTo s fd ⟨[u],[]⟩ [(x,u)])/\ ∀ base:Heap,(K w.params).In base->base.Ns mainGlobals mg->z2j l.prog w (K w.params) mg base (CX w) k fa fd [x] (sp w)) (hsp:∀ (w:World)(H:Hp)(a:Addr)(ns:List Int),ns.length<=n->zfD H->SqL (K w.params) H a (ns.map V.int)->sp w [.ref a] H (fun v _=>v=.bl true) fun _ _ _=>False) (hCX:∀ (w:World)(H:Hp)(s:Shared)(e:Value)(s':Shared),CX w [] H s (fun _ _ _=>False) e s'->False): W.WalkO q loose XP YP l.row.toRowW d [] (fun f vs=>PySem.call f vs):=by
 refine Att.z11 hn hdf fun w s₀ s₁ mg mb fa o pm cd doc a vs ns G Yy ho hd hcd hmg hobj hints hlen hg=>?_;have KX:=hY w _ Yy;obtain ⟨fd,hb,hF⟩:=F w mg fa _ KX G.T.g hmg;exact z6z KX G.T.g G.T.b G.T.builtins G.T.nolimit hg hobj hints (Nat.le_trans hlen hn2) hr hF hb (fun H hO hS=>hsp w H a ns hlen hO hS) fun H e s'=>hCX w H s₁ e s'
def ki(s:Stmt):Arguments:=match s with
 | .FunctionDef _ a _ _ _ _ _ _ _ _=>a | _=>{posonlyargs:=[],args:=[],vararg:=none,kwonlyargs:=[],kw_defaults:=[],kwarg:=none,defaults:=[]}
def uw(s:Stmt):List Stmt:=match s with
 | .FunctionDef _ _ b _ _ _ _ _ _ _=>b | _=>[]
def zg(s:Stmt):Scope:=match s with
 | .FunctionDef _ _ _ _ _ _ sc _ _ _=>sc | _=>{kind:=.function,names:=[],isGenerator:=false,isCoroutine:=false}
abbrev CX0:CXT:=fun _ _ _ _ _ _=>False
abbrev E0:XK:=fun _ _ _=>False
theorem zN{X:Cx}:Passes CX0 X E0:=fun _ _ _ _ _ _ _ h=>h.elim
structure Fun(K:W.Frag)(x qual:Str)(st:Stmt)(f:Addr)(fd:FuncData):Prop where
 ex:∃ (oc:Value)(od:Option Addr)(kV doc pm:Value)(an:Option Addr)(cdv ct:Value)(osl:Array (Option Value)), fd=W.fnOf x qual (ki st) (uw st) (zg st) .none kV doc pm an cdv ct/\K.lookup f=some ⟨oc,od,.func fd,osl⟩/\W.codeIn K cdv qual=true
 kp:W.keepIn K (.ref f)=true
section
variable {P:Program}{w:World}{K:W.Frag}{mg:Str->Option Value}{base:Heap}
theorem Fun.ok{x qual:Str}{st:Stmt}{f:Addr}{fd:FuncData}{N ps:List Str}{k:Nat}{sp:Sp}(F:Fun K x qual st f fd)(S:zv N ps (zg st))(len:∀ vs H Q E,sp vs H Q E->vs.length=ps.length) (hbody:∀ (cdv:Value)(A:Around)(outer:List Env)(s:Shared)(H:Hp)(vs:List V)(Q:VK)(E:XK),z0n k (A.deeper (envOfC qual (zg st) s.heap.objs.size f cdv))->sp vs H Q E-> ∃ t,PSs (z9B CX0 P w K mg base N qual (zg st) f cdv A outer s H E).nox (uw st) t/\t {nx:=fun _ H'=>Q .non H',rt:=Q} (start N vs) H):z2j P w K mg base CX0 (k+1) f fd ps sp:=by
 obtain ⟨oc,od,kV,doc,pm,an,cdv,ct,osl,rfl,lk,hcd⟩:=F.ex;refine zgy lk hcd S len fun A outer s H vs Q E hr hsp=>?_;obtain ⟨t,h,q⟩:=hbody cdv A outer s H vs Q E hr hsp;exact ⟨t,h.nox,q⟩
theorem Fun.binds{x qual:Str}{st:Stmt}{f:Addr}{fd:FuncData}{ps:List Str}(F:Fun K x qual st f fd) (h:∀ (kV doc pm:Value)(an:Option Addr)(cdv ct:Value)(us:List Value),us.length=ps.length->bindArgs (W.fnOf x qual (ki st) (uw st) (zg st) .none kV doc pm an cdv ct) ⟨us,[]⟩=pure (ps.zip us)):Binds K fd ps []:=by
 obtain ⟨oc,od,kV,doc,pm,an,cdv,ct,osl,rfl,lk,hcd⟩:=F.ex;exact .all (h kV doc pm an cdv ct)
theorem zfp{x qual:Str}{st:Stmt}{f:Addr}{oc:Value}{od an:Option Addr}{osl:Array (Option Value)}{kV doc pm cdv ct:Value}(l:K.lookup f=some ⟨oc,od,.func (W.fnOf x qual (ki st) (uw st) (zg st) .none kV doc pm an cdv ct),osl⟩) (c:W.codeIn K cdv qual=true)(k:W.keepIn K (.ref f)=true):Fun K x qual st f (W.fnOf x qual (ki st) (uw st) (zg st) .none kV doc pm an cdv ct):=⟨⟨oc,od,kV,doc,pm,an,cdv,ct,osl,rfl,l,c⟩,k⟩
end
section
variable {X:Cx}
theorem pv(i:Nat){x:Str}{pos:Pos}(hN:X.N[i]? = some x:=by rfl)(hv:Vis X.env.scope x:=by first | exact Or.inl rfl | exact Or.inr (Or.inl rfl) | exact Or.inr (Or.inr rfl))(hd:(x==("__debug__":Str))=false:=by decide) (hcd:(x==("__classdict__":Str))=false:=by decide):PE X (.Name x pos) (zhN i):=z8x hN hv hd hcd
end
end L2
set_option maxHeartbeats 4000000
namespace L2
open PySem.Spec
def z2H(env:Env):List (Str×NameKind)->List (Str×Addr)->List (Str×Addr)
 | [],acc=>acc | (n,k)::r,acc=>z2H env r (if k==.free then (match env.cells.lookup n with | some c=>(n,c)::acc | none=>acc) else acc)
theorem z1r{env:Env}:∀ (names:List (Str×NameKind))(acc:List (Str×Addr)),(∀ x c,acc.lookup x=some c->env.cells.lookup x=some c)->∀ x c,(z2H env names acc).lookup x=some c->env.cells.lookup x=some c
 | [],acc,ha=>ha | (n,k)::r,acc,ha=>by
  unfold z2H;refine z1r r _ fun x c=>?_;split
  ·split
   ·rename_i c' hc;intro h;rw [List.lookup_cons] at h;split at h
    ·rename_i hb;cases h;rw [beq_iff_eq.mp hb];exact hc
    ·exact ha x c h
   ·exact ha x c
  ·exact ha x c
theorem z3L{env:Env}{x:Str}:∀ (names:List (Str×NameKind))(acc:List (Str×Addr)),(acc.lookup x).isSome=true->((z2H env names acc).lookup x).isSome=true
 | [],acc,ha=>ha | (n,k)::r,acc,ha=>by
  unfold z2H;refine z3L r _ ?_;split
  ·split
   ·rw [List.lookup_cons];split;·rfl
    ·exact ha
   ·exact ha
  ·exact ha
theorem z2J{env:Env}{x:Str}:∀ (names:List (Str×NameKind))(acc:List (Str×Addr)),(x,NameKind.free)∈names->(∃ c,env.cells.lookup x=some c)->∃ c,(z2H env names acc).lookup x=some c
 | [],acc,h,_=>nomatch h | (n,k)::r,acc,h,hc=>by
  rcases List.mem_cons.mp h with e | h
  ·cases e;obtain ⟨c,hc⟩:=hc;unfold z2H;have q:((z2H env r ((x,c)::acc)).lookup x).isSome=true:=z3L r _ (by simp);rw [if_pos (by rfl),hc];exact Option.isSome_iff_exists.mp q
  ·unfold z2H;exact z2J r _ h hc
theorem z2c{env:Env}(f:Str×NameKind->List (Str×Addr)->Sem (ForInStep (List (Str×Addr)))) (hf:∀ n k cs,f (n,k) cs=if k==.free then (do let a <- cellOf env n;pure (.yield ((n,a)::cs))) else pure (.yield cs)): ∀ (names:List (Str×NameKind))(acc:List (Str×Addr)),(∀ y∈names,y.2=.free->∃ c,env.cells.lookup y.1=some c)->forIn names acc f=pure (z2H env names acc)
 | [],acc,_=>rfl | (n,k)::r,acc,h=>by
  rw [List.forIn_cons,hf];have ih:=fun acc'=>z2c f hf r acc' fun y hy=>h y (List.mem_cons_of_mem _ hy);unfold z2H;by_cases hk:k=.free
  ·subst hk;obtain ⟨c,hc⟩:=h (n,.free) List.mem_cons_self rfl;have hc':env.cells.lookup n=some c:=hc;have e:cellOf env n=pure c:=by unfold cellOf;rw [hc']
   rw [if_pos (by rfl),if_pos (by rfl),e,hc',pure_bind,pure_bind];exact ih _
  ·have hb:(k==NameKind.free)=false:=by simpa using hk
   rw [hb,if_neg (by decide),if_neg (by decide),pure_bind];exact ih _
theorem xB{scope:Scope}{env:Env}(h:∀ y∈scope.names,y.2=.free->∃ c,env.cells.lookup y.1=some c):closureFor scope env=pure (z2H env scope.names []):=by
 simp only [closureFor];rw [z2c (env:=env) _ (fun n k cs=>by cases hk:k==NameKind.free<;>simp [hk]) scope.names [] h];simp
theorem xx:∀ (names:List (Str×NameKind))(n:Nat)(acc:List (Str×Addr)),cellsFrom n names acc=cellsFrom n names []++acc
 | [],_,_=>rfl | (x,k)::r,n,acc=>by
  unfold cellsFrom;split
  ·rw [xx r (n+1) ((x,n)::acc),xx r (n+1) [(x,n)]];simp
  ·exact xx r n acc
theorem uc{x:Str}{c:Addr}:∀ (names:List (Str×NameKind))(n:Nat)(acc:List (Str×Addr)),(x,c)∈cellsFrom n names acc->(x,c)∈acc\/(x,NameKind.cell)∈names
 | [],_,_,h=>.inl h | (y,k)::r,n,acc,h=>by
  unfold cellsFrom at h;split at h
  ·rename_i hk;rcases uc r _ _ h with q | q
   ·rcases List.mem_cons.mp q with e | q
    ·cases e;refine .inr ?_;rw [show k=NameKind.cell from beq_iff_eq.mp hk];exact List.mem_cons_self
    ·exact .inl q
   ·exact .inr (List.mem_cons_of_mem _ q)
  ·rcases uc r _ _ h with q | q;·exact .inl q
   ·exact .inr (List.mem_cons_of_mem _ q)
def z5b(X:Cx)(scope:Scope)(C:Addr):Env:= {scope:=relabel scope X.env,locals:=C,globals:=X.env.globals,cells:=cellsFrom (C+1) scope.names []++z2H X.env scope.names [],qual:=X.env.qual,func:=none,code:=X.env.code,frame:=X.env.frame,builtins:=X.env.builtins}
def zh(X:Cx)(N':List Str)(scope:Scope)(ex:List Addr)(s:Shared)(H:Hp):Cx where
 prog:=X.prog;w:=X.w;K:=X.K;mg:=X.mg;base:=X.base;A:=X.A;N:=N';s₀:=s;H₀:=H;env:=z5b X scope s.heap.objs.size;outer:=X.stack;stack:=X.stack;ex:=ex;fn:=fun x=>scope.names.lookup x==some .cell;calm:=X.calm;pn:=[];xe:=fun _ _=>False
theorem qI{env:Env}{x:Str}{k:NameKind}:∀ {names:List (Str×NameKind)},names.lookup x=some k-> (names.map fun (n,k)=>if (k==NameKind.free&&env.scope.kind==.function&&env.kindOf n==some .cell) then (n,NameKind.cell) else (n,k)).lookup x=some k\/ (k=.free/\(names.map fun (n,k)=>if (k==NameKind.free&&env.scope.kind==.function&&env.kindOf n==some .cell) then (n,NameKind.cell) else (n,k)).lookup x=some .cell)
 | [],h=>by simp at h | (n,k')::r,h=>by
  have ih:=@qI env x k r;show List.lookup x ((if (k'==NameKind.free&&env.scope.kind==.function&&env.kindOf n==some .cell)=true then (n,NameKind.cell) else (n,k'))::_)=_\/(_/\List.lookup x ((if (k'==NameKind.free&&env.scope.kind==.function&&env.kindOf n==some .cell)=true then (n,NameKind.cell) else (n,k'))::_)=_);cases hx:x==n with
  | true=>
   simp only [List.lookup_cons,hx] at h;cases h;by_cases hc:(k==NameKind.free&&env.scope.kind==.function&&env.kindOf n==some .cell)=true
   ·rw [if_pos hc];simp only [Bool.and_eq_true,beq_iff_eq] at hc;exact .inr ⟨hc.1.1,by simp [List.lookup_cons,hx]⟩
   ·rw [if_neg hc];exact .inl (by simp [List.lookup_cons,hx]) | false=>
   simp only [List.lookup_cons,hx] at h;by_cases hc:(k'==NameKind.free&&env.scope.kind==.function&&env.kindOf n==some .cell)=true;·rw [if_pos hc];simp only [List.lookup_cons,hx];exact ih h
   ·rw [if_neg hc];simp only [List.lookup_cons,hx];exact ih h
theorem vN{env:Env}{x:Str}{k:NameKind}:∀ {names:List (Str×NameKind)}, (names.map fun (n,k)=>if (k==NameKind.free&&env.scope.kind==.function&&env.kindOf n==some .cell) then (n,NameKind.cell) else (n,k)).lookup x=some k->(k=.cell\/k=.free)->(x,NameKind.cell)∈names\/(x,NameKind.free)∈names
 | [],h,_=>by simp at h | (n,k')::r,h,hk=>by
  have ih:=@vN env x k r;change List.lookup x ((if (k'==NameKind.free&&env.scope.kind==.function&&env.kindOf n==some .cell)=true then (n,NameKind.cell) else (n,k'))::_)=_ at h;have step:(List.lookup x (r.map fun (n,k)=>if (k==NameKind.free&&env.scope.kind==.function&&env.kindOf n==some .cell) then (n,NameKind.cell) else (n,k))=some k)->(x,NameKind.cell)∈(n,k')::r\/(x,NameKind.free)∈(n,k')::r:=fun q=> (ih q hk).elim (fun z=>.inl (List.mem_cons_of_mem _ z)) fun z=>.inr (List.mem_cons_of_mem _ z);by_cases hc:(k'==NameKind.free&&env.scope.kind==.function&&env.kindOf n==some .cell)=true
  ·rw [if_pos hc,List.lookup_cons] at h;split at h
   ·rename_i hb;simp only [Bool.and_eq_true,beq_iff_eq] at hc;rw [beq_iff_eq.mp hb,hc.1.1];exact .inr List.mem_cons_self
   ·exact step h
  ·rw [if_neg hc,List.lookup_cons] at h;split at h
   ·rename_i hb;cases h;rw [beq_iff_eq.mp hb];rcases hk with rfl | rfl;·exact .inl List.mem_cons_self
    ·exact .inr List.mem_cons_self
   ·exact step h
def inner(mp:List (Option Nat))(O:St):St:=mp.map fun o=>match o with | some j=>(O[j]?).getD none | none=>none
def z06(N:List Str)(names:List (Str×NameKind)):List Str->List (Option Nat)->Bool
 | [],[]=>true | _::r,none::mp=>z06 N names r mp | x::r,some j::mp=>N[j]? == some x&&names.lookup x==some .free&&z06 N names r mp | _,_=>false
theorem z3n{N:List Str}{names:List (Str×NameKind)}:∀ {N':List Str}{mp:List (Option Nat)},z06 N names N' mp=true->mp.length=N'.length
 | [],[],_=>rfl | _::_,none::_,h=>by
  simp only [z06] at h;simp only [List.length_cons];rw [z3n h] | _::_,some _::_,h=>by
  simp only [z06,Bool.and_eq_true] at h;simp only [List.length_cons];rw [z3n h.2] | [],none::_,h=>by cases h | [],some _::_,h=>by cases h | _::_,[],h=>by cases h
theorem z5r{N:List Str}{names:List (Str×NameKind)}:∀ {N':List Str}{mp:List (Option Nat)}{i j:Nat}{x:Str},z06 N names N' mp=true->N'[i]? = some x->mp[i]? = some (some j)->N[j]? = some x/\names.lookup x=some .free
 | [],_,_,_,_,_,h,_=>by simp at h | _::_,[],_,_,_,_,_,h=>by simp at h | _::_,none::_,0,_,_,_,_,h=>by simp at h | _::_,some _::_,0,_,_,h,h1,h2=>by
  simp only [z06,Bool.and_eq_true,beq_iff_eq] at h;simp at h1 h2;subst h1 h2;exact h.1 | _::_,none::_,i+1,_,_,h,h1,h2=>by
  simp only [z06] at h;exact z5r (i:=i) h (by simpa using h1) (by simpa using h2) | _::_,some _::_,i+1,_,_,h,h1,h2=>by
  simp only [z06,Bool.and_eq_true] at h;exact z5r (i:=i) h.2 (by simpa using h1) (by simpa using h2)
section
variable {X:Cx}{pins:List (Addr×Obj)}{O:St}{H:Hp}{s s1:Shared}{scope:Scope}{N':List Str}{ex:List Addr}{mp:List (Option Nat)}
theorem z7t{α:Type}{x:Str}{l1 l2:List (Str×α)}{c:α}(h:(l1++l2).lookup x=some c):l1.lookup x=some c\/(l1.lookup x=none/\l2.lookup x=some c):=by
 rw [List.lookup_append] at h;cases e:l1.lookup x with
 | some d=>rw [e] at h;exact .inl h | none=>rw [e] at h;exact .inr ⟨rfl,h⟩
theorem z24 (I:Inv X pins O H s) (hkd:scope.kind=.function) (hnm:∀ y∈scope.names,scope.names.lookup y.1=some y.2) (hfr:∀ y∈scope.names,y.2=.free->X.env.kindOf y.1=some .cell\/X.env.kindOf y.1=some .free) (hmp:z06 X.N scope.names N' mp=true) (hex:∀ b∈ex,b<s.heap.objs.size/\H b=none/\b≠X.env.locals/\b∉X.fs/\(b∈X.ex\/X.s₀.heap.objs.size<=b)/\(∀ x c,X.env.cells.lookup x=some c->c≠b)) (e1:s1.heap=pushCells (s.heap.push {cls:=.type "dict",data:=.dict #[]}) scope.names) (e2:s1.os=s.os) (e3:s1.gens=s.gens): Inv (zh X N' scope ex s H) [] (inner mp O) H s1:=by
 have keep:∀ b o,s.heap.get? b=some o->s1.heap.get? b=some o:=fun b o e=>by rw [e1];exact pushCells_keeps _ _ b o (Heap.get?_push_of_some _ e)
 have ok:=cellsFrom_ok scope.names (s.heap.push {cls:=.type "dict",data:=.dict #[]}) (s.heap.objs.size+1) [] ⟨fun _ _ hm=>(nomatch hm),List.Pairwise.nil⟩ (by rw [Heap.size_push];exact Nat.le_refl _);rw [Heap.size_push,<- e1] at ok;have hclo:∀ x c,(z2H X.env scope.names []).lookup x=some c->X.env.cells.lookup x=some c:=z1r scope.names [] (fun x c h=>by simp at h);have clt:∀ x c,X.env.cells.lookup x=some c->c<s.heap.objs.size:=fun x c h=>by obtain ⟨v,q⟩:=I.cell x c h;exact q.lt
 have own:∀ x c,(cellsFrom (s.heap.objs.size+1) scope.names []).lookup x=some c->s1.heap.IsCell c none/\s.heap.objs.size+1<=c:=fun x c h=>ok.empty x c (PySem.mem_of_lookup h);have both:∀ x c,(z5b X scope s.heap.objs.size).cells.lookup x=some c->((cellsFrom (s.heap.objs.size+1) scope.names []).lookup x=some c/\s1.heap.IsCell c none/\s.heap.objs.size+1<=c)\/(X.env.cells.lookup x=some c):=fun x c h=>by
  rcases z7t h with q | ⟨_,q⟩;·exact .inl ⟨q,own x c q⟩
  ·exact .inr (hclo x c q)
 refine ⟨⟨I.ok.mod,hkd,I.ok.glob,I.ok.blt,Nat.le_refl _,fun x y c h1 h2=>?_,fun x hx=>?_,fun x c hf h=>?_,I.ok.hd,I.ok.frames,.inl rfl,fun b hb=>⟨Nat.ne_of_lt (hex b hb).1,fun x c h=>?_⟩,fun b o e=>I.bs b o e,Nat.le_trans I.ok.bsz I.sz,fun b o e hb=>?_,fun b hb hf=>?_,I.stack,I.stkFree⟩, e2,by rw [e3];exact I.bare,Un.kept keep,?_,fun x c h=>?_,I.hok.fresh (Nat.le_refl _),fun x c h=>?_,fun p hp=>absurd (show p∈([]:List (Addr×Obj)) from hp) (by simp),I.hok.kept keep,?_⟩
 ·rcases both x c h1 with ⟨q1,_,l1⟩ | q1<;>rcases both y c h2 with ⟨q2,_,l2⟩ | q2;·exact name_of_addr ok.apart (PySem.mem_of_lookup q1) (PySem.mem_of_lookup q2)
  ·exact absurd (Nat.lt_of_lt_of_le (clt y c q2) (Nat.le_of_succ_le l1)) (Nat.lt_irrefl _)
  ·exact absurd (Nat.lt_of_lt_of_le (clt x c q1) (Nat.le_of_succ_le l2)) (Nat.lt_irrefl _)
  ·exact I.ok.inj x y c q1 q2
 ·have hx':(x,NameKind.cell)∈scope.names\/(x,NameKind.free)∈scope.names:=by
   rcases hx with hx | hx;·exact vN (env:=X.env) hx (.inl rfl)
   ·exact vN (env:=X.env) hx (.inr rfl)
  show ∃ c,(cellsFrom (s.heap.objs.size+1) scope.names []++z2H X.env scope.names []).lookup x=some c;rw [List.lookup_append];cases e:(cellsFrom (s.heap.objs.size+1) scope.names []).lookup x with
  | some c=>exact ⟨c,rfl⟩ | none=>
   rcases hx' with hx' | hx'
   ·obtain ⟨c,q⟩:=z0r (sc:=scope) (n:=s.heap.objs.size+1) (hnm (x,.cell) hx');rw [q] at e;cases e
   ·obtain ⟨c,q⟩:=z2J (env:=X.env) scope.names [] hx' (I.ok.has x (hfr (x,.free) hx' rfl));exact ⟨c,by simpa using q⟩
 ·have hf':scope.names.lookup x=some .cell:=beq_iff_eq.mp hf;obtain ⟨c',q⟩:=z0r (sc:=scope) (n:=s.heap.objs.size+1) hf';have h':(cellsFrom (s.heap.objs.size+1) scope.names []++z2H X.env scope.names []).lookup x=some c:=h;rw [List.lookup_append,q] at h';have e:c'=c:=Option.some.inj h';subst e;exact Nat.le_of_lt (Nat.lt_of_succ_le (own x c' q).2)
 ·rcases both x c h with ⟨_,_,l⟩ | q
  ·intro z;rw [z] at l;exact absurd (Nat.lt_of_lt_of_le (hex b hb).1 (Nat.le_of_succ_le l)) (Nat.lt_irrefl _)
  ·exact (hex b hb).2.2.2.2.2 x c q
 ·rcases (hex b hb).2.2.2.2.1 with z | z;·exact I.ok.noex b o e z
  ·exact absurd (Nat.lt_of_lt_of_le (Nat.lt_of_lt_of_le (Heap.lt_size e) I.ok.bsz) z) (Nat.lt_irrefl _)
 ·have q:=I.stkSub b hf;rcases List.mem_cons.mp q with z | z;·exact (hex b hb).2.2.1 z
  ·exact (hex b hb).2.2.2.1 z
 ·refine ⟨fun _=>none,?_,fun i x v h1 h2 h3=>?_⟩
  ·rw [e1];exact (Heap.Ns.new s.heap (.type "dict")).keeps (pushCells_keeps _ _)
  ·have h2':(inner mp O)[i]? = some (some v):=h2;unfold inner at h2';rw [List.getElem?_map] at h2';cases em:mp[i]? with
   | none=>rw [em] at h2';cases h2' | some o=>
    rw [em] at h2';cases o with
    | none=>cases h2' | some j=>
     obtain ⟨hj,hl⟩:=z5r hmp h1 em;have hmem:(x,NameKind.free)∈scope.names:=PySem.mem_of_lookup hl;have hv:O[j]? = some (some v):=by
      simp only [Option.map_some] at h2';cases eO:O[j]? with
      | none=>rw [eO] at h2';cases h2' | some o=>rw [eO] at h2';exact h2'
     obtain ⟨m,hn,hlook⟩:=I.loc;have kx:X.env.kindOf x=some .cell\/X.env.kindOf x=some .free:=hfr _ hmem rfl;obtain ⟨u,r,L⟩:=hlook j x v hj hv (by rcases kx with k | k;exact .inr (.inl k);exact .inr (.inr k));refine ⟨u,r,.inr ?_⟩;rcases L with ⟨k,_⟩ | ⟨_,c,hc,hcell⟩;·rcases kx with k' | k'<;>(rw [k] at k';cases k')
     ·have ncell:(x,NameKind.cell)∉scope.names:=fun z=>by
       have a:=hnm _ z;rw [hl] at a;cases a
      refine ⟨?_,c,?_,hcell.keeps keep⟩
      ·rcases qI (env:=X.env) hl with q | ⟨_,q⟩;·exact .inr q
       ·exact .inl q
      ·show (cellsFrom (s.heap.objs.size+1) scope.names []++z2H X.env scope.names []).lookup x=some c;rw [List.lookup_append];cases e:(cellsFrom (s.heap.objs.size+1) scope.names []).lookup x with
       | some c'=> exact absurd ((uc _ _ _ (PySem.mem_of_lookup e)).resolve_left (by simp)) ncell | none=>
        obtain ⟨c2,q⟩:=z2J (env:=X.env) scope.names [] hmem ⟨c,hc⟩;have q2:=hclo x c2 q;rw [hc] at q2;cases q2;simpa using q
 ·rcases both x c h with ⟨_,q,_⟩ | q;·exact ⟨_,q⟩
  ·obtain ⟨v,z⟩:=I.cell x c q;exact ⟨v,z.keeps keep⟩
 ·rcases both x c h with ⟨_,_,l⟩ | q;·exact I.hok.fresh (by omega)
  ·exact I.freeC x c q
 ·unfold inner;rw [List.length_map];exact z3n hmp
end
section
variable {M:Model}{A:Around}{E:Value->Shared->Prop}{s:Shared}
theorem z0J{scope:Scope}{env:Env}{cl:List (Str×Addr)}{Q:Env->Shared->Prop} (h:Q {scope:=scope,locals:=s.heap.objs.size,globals:=env.globals,cells:=cellsFrom (s.heap.objs.size+1) scope.names cl,qual:=env.qual,func:=none,code:=env.code,frame:=env.frame,builtins:=env.builtins} {s with heap:=pushCells (s.heap.push {cls:=.type "dict",data:=.dict #[]}) scope.names}): wpAny M A (newFunctionEnv scope env.globals cl [] env.qual none .none (some env)) Q E s:=by
 simp only [newFunctionEnv,Option.isSome_some,if_true];refine wpAny_bind (wpAny_alloc ?_);refine wpAny_bind (wpAny_layCells _ (fun name kind cells=>by cases hkc:kind==NameKind.cell<;>simp [hkc]) _ _ _ _ ?_);rw [show ({s with heap:=s.heap.push {cls:=.type "dict",data:=.dict #[]}}:Shared).heap.objs.size=s.heap.objs.size+1 from Heap.size_push ..];refine wpAny_bind ?_;rw [List.forIn_nil];exact wpAny_pure (wpAny_pure h)
end
section
variable {prog:Program}{w:World}{A:Around}{E:Value->Shared->Prop}{R:Result->Shared->Prop}{s:Shared}
theorem z3I{elt target iter:Expr}{ifs:List Expr}{scope:Scope}{pos:Pos}{it acc:Value}{env:Env}(I:Nat->Shared->Prop) (turn:∀ n s,I n s->wpAny (model prog w) A (pyNext it) (fun r s₁=>match r with
   | none=>R (.ok .next) s₁ | some v=>wpAny (model prog w) A (letOwnedTupleGo target it v) (fun _ s₁'=>wpAny (model prog w) A (assign target env v) (fun _ s₂=> wpAny (model prog w) A (forIn ifs true fun c r=>if r=true then do let ok <- isTrue c env (eval c env);pure (ForInStep.yield ok) else pure (ForInStep.yield r)) (fun ok s₃=> if ok=true then wpAny (model prog w) A (eval elt env) (fun x s₄=> wpAny (model prog w) A (call (.builtin "list.append") [acc,x]) (fun _ s₅=>∃ m,m<n/\I m s₅) (fun _ _=>False) s₄) (fun _ _=>False) s₃ else ∃ m,m<n/\I m s₃) (fun _ _=>False) s₂) (fun _ _=>False) s₁') (fun _ _=>False) s₁) (fun _ _=>False) s) (n:Nat)(h:I n s): codeAny (model prog w) A (.compLoop (.ListComp elt [⟨target,iter,ifs,0⟩] scope pos) 0 it acc env) R s:=by
 refine codeAny_loop rfl I (fun n s hI=>?_) n h;show wpAny _ A ((compTurn (.ListComp elt [⟨target,iter,ifs,0⟩] scope pos) 0 it acc env).onRaise (fun x=>do noteFrame x env;theTreesLotGoes x)) _ _ s;refine wpAny_noted ?_;rw [compTurn_list];refine wpAny_bind (wpAny_standAt (wpAny_bind (wpAny_mono (turn n s hI) (fun r s₁ h₁=>?_) fun _ _ h'=>h'.elim)));cases r with
 | none=>exact wpAny_pure h₁ | some v=>
  refine wpAny_bind (wpAny_mono h₁ (fun _ s₁' h₁'=>?_) fun _ _ h'=>h'.elim);refine wpAny_bind (wpAny_mono h₁' (fun _ s₂ h₂=>wpAny_bind (wpAny_mono h₂ (fun ok s₃ h₃=>?_) fun _ _ h'=>h'.elim)) fun _ _ h'=>h'.elim);cases ok with
  | false=>exact wpAny_pure ⟨rfl,h₃⟩ | true=> exact wpAny_bind (wpAny_bind (wpAny_mono h₃ (fun x s₄ h₄=>wpAny_bind (wpAny_mono h₄ (fun _ s₅ h₅=>wpAny_pure (wpAny_pure ⟨rfl,h₅⟩)) fun _ _ h'=>h'.elim)) fun _ _ h'=>h'.elim))
end
def z6E(X:Cx)(ifs:List Expr)(t:TT):Prop:= ∀ (pins:List (Addr×Obj))(s:Shared)(O:St)(H:Hp)(Q:Bool->Hp->Prop),Inv X pins O H s->t O H Q-> wpAny (model X.prog X.w) X.A (forIn ifs true fun c r=>if r=true then do let ok <- isTrue c X.env (eval c X.env);pure (ForInStep.yield ok) else pure (ForInStep.yield r)) (TP X pins O Q) X.xe s
theorem z9N{X:Cx}:z6E X [] (fun _ H Q=>Q true H):=fun _ _ _ H _ I h=>wpAny_tests_nil ⟨H,I,h⟩
theorem zav{X:Cx}{c:Expr}{t:TT}(h:PT X c t):z6E X [c] t:=fun pins s O H Q I hq=>wpAny_tests_one (h pins s O H Q I hq)
theorem Inv.track {X:Cx} {pins:List (Addr×Obj)} {O:St} {H:Hp} {s:Shared} {a:Addr} {o:HO} (I:Inv X pins O H s) (f:z1P X pins H a) (new:wS X.prog X.w (upd H a o) s.heap a o):Inv X pins O (upd H a o) s:=by
 obtain ⟨f0,f1,f2,f3,f4,f5⟩:=f;have hs:HOk X.prog X.w (upd H a o) s.heap:=fun b u e=>by
  by_cases hb:b=a;·subst hb;rw [yy] at e;cases e;exact new
  ·rw [zC hb] at e;exact (I.hok b u e).stay (fun _ _ _ q=>q) (fun c q=>by rw [zC (yo q f0)];exact q) fun c xs q=>by rw [zC (yo q f0)];exact q
 exact I.step (h':=s.heap) (g':=s.gens) (d':=s.drawn) (t':=s.toks) (ch:=[a]) (fun b hb=>by
  have e:b=a:=by simpa using hb
  subst e;exact ⟨f3,f1,f4,f5⟩) (fun b o _ _ _ e _=>e) (fun b o _ _ _ e _=>⟨o.slots,e⟩) (fun b o hb _ n=>by rw [zC (fun z=>hb (by simp [z]))];exact n) (fun b o _ e=>⟨o,e⟩) (fun b xs q=>by rw [zC (yo q f0)];exact q) (fun b u xs q=>by rw [zC (yo q f0)];exact q) (fun b ps q=>⟨#[],by rw [zC (yo q f0),q];simp⟩) (fun _ q=>q) hs I.bare
def z9S(wi:TI)(mp:List (Option Nat))(g:TG)(ti:TT)(te:TE):TE:=fun O H Q=>wi O H fun J H1=>∃ W:Nat->Nat->List V->Hp->Prop,(∃ m,W 0 m [] H1)/\∀ i m ys H,W i m ys H-> (J.stop i H/\ys.length<=sizeLine/\∀ p,H p=none->Q (.ref p) (upd H p (.lst ys)))\/ (J.go i H/\∀ x H',J.yld i H x H'->g x (inner mp O) H' fun O2 H2=>(O2.length=(inner mp O).length/\∀ (i:Nat) v,(inner mp O)[i]? = some (some v)->O2[i]? = some (some v))/\ ti O2 H2 fun b H3=>if b=true then te O2 H3 fun y H4=>ys.length<=sizeLine/\∃ m',m'<m/\W (i+1) m' (ys++[y]) H4 else ∃ m',m'<m/\W (i+1) m' ys H3)
def jP(X:Cx)(pins:List (Addr×Obj))(O:St)(C:Addr)(Q:VK)(acc:Value)(s':Shared):Prop:= ∃ v Hf,Inv X pins O Hf s'/\xo v acc/\Q v Hf/\(∃ m,s'.heap.Ns C m)/\z1P X pins Hf C
theorem ku {X:Cx} {tg iter elt:Expr} {ifs:List Expr} {scope:Scope} {pos:Pos} {g:TG} {ti:TT} {te:TE} {N':List Str} {mp:List (Option Nat)} {pins:List (Addr×Obj)} {O:St} {Q:VK} {J:It} {H2:Hp} {s₂:Shared} {it:Addr} {fp:List Addr} {tn:Nat->Heap->Prop} {E:Value->Shared->Prop} {RR:Value->Addr->Result->Shared->Prop} (hc:X.calm=true) (hg:∀ ex s H,PG (zh X N' scope ex s H) tg g) (ht:∀ ex s H,z6E (zh X N' scope ex s H) ifs ti) (he:∀ ex s H,PE (zh X N' scope ex s H) elt te) (hkd:scope.kind=.function) (hnm:∀ y∈scope.names,scope.names.lookup y.1=some y.2) (hfr:∀ y∈scope.names,y.2=.free->X.env.kindOf y.1=some .cell\/X.env.kindOf y.1=some .free) (hmp:z06 X.N scope.names N' mp=true) (I2:Inv X pins O H2 s₂) (T:zby X.prog X.w X.K tg J fp it tn) (st2:tn 0 s₂.heap) (f2:∀ b∈fp,z1P X pins H2 b) (W:Nat->Nat->List V->Hp->Prop) (w0:∃ m,W 0 m [] H2) (turn:∀ i m ys H,W i m ys H-> (J.stop i H/\ys.length<=sizeLine/\∀ p,H p=none->Q (.ref p) (upd H p (.lst ys)))\/ (J.go i H/\∀ x H',J.yld i H x H'->g x (inner mp O) H' fun O2 H2=>(O2.length=(inner mp O).length/\∀ (i:Nat) v,(inner mp O)[i]? = some (some v)->O2[i]? = some (some v))/\ ti O2 H2 fun b H3=>if b=true then te O2 H3 fun y H4=>ys.length<=sizeLine/\∃ m',m'<m/\W (i+1) m' (ys++[y]) H4 else ∃ m',m'<m/\W (i+1) m' ys H3)) (hRR:∀ acc C s',jP X pins O C Q acc s'->RR acc C (.ok .next) s'): wpAny (model X.prog X.w) X.A (newList []) (fun acc s₃=>wpAny (model X.prog X.w) X.A (newFunctionEnv scope X.env.globals (z2H X.env scope.names []) [] X.env.qual none .none (some X.env)) (fun cenv s₄=> codeAny (model X.prog X.w) X.A (.compStart (.ListComp elt [⟨tg,iter,ifs,0⟩] scope pos) 0 (.ref it) acc {cenv with scope:=relabel scope X.env}) (RR acc cenv.locals) s₄) E s₃) E s₂:=by
 refine wpAny_newObj_type ?_;have hf2:H2 s₂.heap.objs.size=none:=I2.hok.fresh (Nat.le_refl _);have fA:z1P X pins H2 s₂.heap.objs.size:=I2.fpOk (Nat.le_refl _) hf2;generalize hacc:s₂.heap.objs.size=acc at hf2 fA ⊢;have I3:Inv X pins O H2 {s₂ with heap:=s₂.heap.push {cls:=.type "list",data:=.seq ([]:List Value).toArray}}:=I2.kept (t':=s₂.toks) fun b o e=>Heap.get?_push_of_some _ e;have ha3:(s₂.heap.push {cls:=.type "list",data:=.seq ([]:List Value).toArray}).get? acc=some (LCg.lst []):=by rw [<- hacc];exact Heap.get?_push_size _ rfl
 have sz3:(s₂.heap.push {cls:=.type "list",data:=.seq ([]:List Value).toArray}).objs.size=acc+1:=by rw [Heap.size_push,hacc]
 have kp3:∀ b o,s₂.heap.get? b=some o->(s₂.heap.push {cls:=.type "list",data:=.seq ([]:List Value).toArray}).get? b=some o:=fun b o e=>Heap.get?_push_of_some _ e;show wpAny _ _ _ _ _ {s₂ with heap:=s₂.heap.push {cls:=.type "list",data:=.seq ([]:List Value).toArray}};generalize hs3:({s₂ with heap:=s₂.heap.push {cls:=.type "list",data:=.seq ([]:List Value).toArray}}:Shared)=s₃ at I3 ⊢;have ha3':s₃.heap.get? acc=some (LCg.lst []):=by rw [<- hs3];exact ha3
 have sz3':s₃.heap.objs.size=acc+1:=by rw [<- hs3];exact sz3
 have kp3':∀ b o,s₂.heap.get? b=some o->s₃.heap.get? b=some o:=by rw [<- hs3];exact kp3
 have flt:∀ b∈fp,b<acc:=fun b hb=>by
  obtain ⟨o,e,_⟩:=T.obj 0 _ st2 b hb;rw [<- hacc];exact Heap.lt_size e
 have fne:∀ b∈fp,b≠acc:=fun b hb=>Nat.ne_of_lt (flt b hb);have tn3:tn 0 s₃.heap:=T.keep 0 _ _ st2 fun b hb o e=>kp3' b o e;refine z0J ?_;rw [xx];have hex:∀ b∈acc::fp,b<s₃.heap.objs.size/\H2 b=none/\b≠X.env.locals/\b∉X.fs/\(b∈X.ex\/X.s₀.heap.objs.size<=b)/\(∀ x c,X.env.cells.lookup x=some c->c≠b):=fun b hb=>by
  rcases List.mem_cons.mp hb with z | hb
  ·subst z;exact ⟨by rw [sz3'];exact Nat.lt_succ_self _,hf2,fA.2.1,fA.2.2.1,fA.2.2.2.1,fA.2.2.2.2.1⟩
  ·have q:=f2 b hb;exact ⟨by rw [sz3'];exact Nat.lt_succ_of_lt (flt b hb),q.1,q.2.1,q.2.2.1,q.2.2.2.1,q.2.2.2.2.1⟩
 have I4:=z24 (N':=N') (mp:=mp) (ex:=acc::fp) (s1:={s₃ with heap:=pushCells (s₃.heap.push {cls:=.type "dict",data:=.dict #[]}) scope.names}) I3 hkd hnm hfr hmp hex rfl rfl rfl;have kp4:∀ b o,s₃.heap.get? b=some o->(pushCells (s₃.heap.push {cls:=.type "dict",data:=.dict #[]}) scope.names).get? b=some o:=fun b o e=>pushCells_keeps _ _ b o (Heap.get?_push_of_some _ e);generalize hs4:({s₃ with heap:=pushCells (s₃.heap.push {cls:=.type "dict",data:=.dict #[]}) scope.names}:Shared)=s₄ at I4 ⊢;have ha4:s₄.heap.get? acc=some (LCg.lst []):=by rw [<- hs4];exact kp4 _ _ ha3'
 have tn4:tn 0 s₄.heap:=T.keep 0 _ _ tn3 fun b hb o e=>by rw [<- hs4];exact kp4 b o e
 have Cne:acc≠s₃.heap.objs.size:=by rw [sz3'];exact Nat.ne_of_lt (Nat.lt_succ_self _)
 have celln:∀ b∈acc::fp,∀ x c,(z5b X scope s₃.heap.objs.size).cells.lookup x=some c->c≠b:=fun b hb=>(I4.ok.exf b hb).2;have stat:∀ {H':Hp} {o:Obj},(∀ b∈fp,H' b=none)->∀ b∈fp,z1P (zh X N' scope (acc::fp) s₃ H2) [(acc,o)] H' b:=fun {H' o} hn b hb=> ⟨hn b hb,Nat.ne_of_lt (by show b<s₃.heap.objs.size;rw [sz3'];exact Nat.lt_succ_of_lt (flt b hb)),fun hf=>I4.ok.exfs b (List.mem_cons_of_mem _ hb) hf,.inl (List.mem_cons_of_mem _ hb),celln b (List.mem_cons_of_mem _ hb),fun p hp=>by
   have e:p=(acc,o):=by simpa [zh] using hp
   rw [e];exact Ne.symm (fne b hb)⟩;have pinA:∀ {O':St} {H':Hp} {s':Shared} {its:List Value},Inv (zh X N' scope (acc::fp) s₃ H2) [] O' H' s'->H' acc=none->s'.heap.get? acc=some (LCg.lst its)->Inv (zh X N' scope (acc::fp) s₃ H2) [(acc,LCg.lst its)] O' H' s':=fun {O' H' s' its} J' n' e'=> J'.pins_of fun p hp=>by
   have e:p=(acc,LCg.lst its):=by simpa using hp
   subst e;refine ⟨e',n',Cne,fun hf=>I4.ok.exfs acc List.mem_cons_self hf,fun v z=>?_⟩;have z':Data.seq _ _=Data.cell v:=z;cases z'
 obtain ⟨m0,w0⟩:=w0;have loop:codeAny (model X.prog X.w) X.A (.compLoop (.ListComp elt [⟨tg,iter,ifs,0⟩] scope pos) 0 (.ref it) (.ref acc) (z5b X scope s₃.heap.objs.size)) (RR (.ref acc) s₃.heap.objs.size) s₄:=by
  refine z3I (fun n s'=>∃ i ys its H',Inv (zh X N' scope (acc::fp) s₃ H2) [] (inner mp O) H' s'/\tn i s'.heap/\(∀ b∈fp,H' b=none)/\H' acc=none/\s'.heap.get? acc=some (LCg.lst its)/\yG ys its/\W i n ys H') ?_ m0 ⟨0,[],[],H2,I4,tn4,fun b hb=>(f2 b hb).1,hf2,ha4,.nil,w0⟩;rintro n s5 ⟨i,ys,its,H5,I5,tn5,n5,na5,ea5,rv5,w5⟩;have I5':=pinA I5 na5 ea5;rcases turn i n ys H5 w5 with ⟨stop,hz,q⟩ | ⟨go,step⟩
  ·refine wpAny_mono (T.done (zh X N' scope (acc::fp) s₃ H2) rfl rfl rfl hc i _ s5 _ H5 (fun _ _=>False) I5' (stat n5) tn5 stop) (fun r s6 ⟨hr,I6⟩=>?_) fun _ _ z=>z;subst hr;have ea6:=(I6.pin (acc,LCg.lst its) (by simp)).1;have un:Un (frs X.stack) (acc::fp) H2 H5 s₃.heap s6.heap:=I6.base;have I7:Inv X pins O H5 s6:=I3.call' (s':=s6) (I6.os) un I6.hok I6.bare fun b hb=>by
    rcases List.mem_cons.mp hb with z | hb;·subst z;exact ⟨fA.2.2.2.1,fA.2.1,fA.2.2.2.2.1,fA.2.2.2.2.2⟩
    ·exact ⟨(f2 b hb).2.2.2.1,(f2 b hb).2.1,(f2 b hb).2.2.2.2.1,(f2 b hb).2.2.2.2.2⟩
   have C7:z1P X pins H5 s₃.heap.objs.size:=I3.fpOk (Nat.le_refl _) I6.free;refine hRR _ _ s6 ⟨.ref acc,upd H5 acc (.lst ys),I7.track ⟨na5,fA.2⟩ ?_,rfl,q acc na5,?_,?_,C7.2⟩;·exact ⟨hz,its,_,rv5,ea6⟩
   ·obtain ⟨m,hm,_⟩:=I6.loc;exact ⟨m,hm⟩
   ·rw [zC (Ne.symm Cne)];exact I6.free
  ·refine wpAny_mono (T.item (zh X N' scope (acc::fp) s₃ H2) rfl rfl rfl hc i _ s5 _ H5 (fun _ _=>False) I5' (stat n5) tn5 go) (fun r s6 ⟨u,hr,h6⟩=>?_) fun _ _ z=>z;subst hr;refine wpAny_mono h6 (fun _ s7 ⟨x,H7,I7,r7,y7,tn7,n7⟩=>?_) fun _ _ z=>z;have I7':=I7.pinned (stat n7) (T.obj _ _ tn7);refine wpAny_mono (hg _ _ _ _ s7 (inner mp O) H7 x u _ I7' r7 (step x H7 y7)) (fun _ s8 ⟨O8,H8,I8,⟨kl,kv⟩,q8⟩=>?_) fun _ _ z=>z;refine wpAny_mono (ht _ _ _ _ s8 O8 H8 _ I8 q8) (fun b s9 ⟨H9,I9,q9⟩=>?_) fun _ _ z=>z;have pinB:∀ {O':St} {H':Hp} {s':Shared},Inv (zh X N' scope (acc::fp) s₃ H2) ([(acc,LCg.lst its)]++z2k fp s7.heap) O' H' s'->(∀ b∈fp,H' b=none)/\H' acc=none/\s'.heap.get? acc=some (LCg.lst its)/\tn (i+1) s'.heap/\∀ b∈fp,∀ o,s7.heap.get? b=some o->s'.heap.get? b=some o:=fun {O' H' s'} J'=>by
    have z:=J'.pin (acc,LCg.lst its) (by simp [zh]);have zz:∀ b∈fp,∀ o,s7.heap.get? b=some o->s'.heap.get? b=some o/\H' b=none:=fun b hb o e=>by
     have y:=J'.pin (b,o) (List.mem_append_right _ (List.mem_append_right _ (vW hb e)));exact ⟨y.1,y.2.1⟩
    refine ⟨fun b hb=>?_,z.2.1,z.1,T.keep _ _ _ tn7 fun b hb o e=>(zz b hb o e).1,fun b hb o e=>(zz b hb o e).1⟩;obtain ⟨o,e,_⟩:=T.obj _ _ tn7 b hb;exact (zz b hb o e).2
   cases b with
   | false=>
    rw [if_neg (by decide)] at q9 ⊢;obtain ⟨m',lt,w9⟩:=q9;obtain ⟨z1,z2,z3,z4,_⟩:=pinB I9;exact ⟨m',lt,i+1,ys,its,H9,(I9.pins_of (pins':=[]) (fun p hp=>absurd hp (by simp))).weak kl.symm kv,z4,z1,z2,z3,rv5,w9⟩ | true=>
    rw [if_pos rfl] at q9 ⊢;refine wpAny_mono (he _ _ _ _ s9 O8 H9 _ I9 q9) (fun yv s10 ⟨y,H10,I10,r10,hz,m',lt,w10⟩=>?_) fun _ _ z=>z;obtain ⟨z1,z2,z3,z4,_⟩:=pinB I10;have zl:its.toArray.size<=sizeLine:=by rw [List.size_toArray,<- rv5.length];exact hz
    refine append_at (hsz:=zl) z3 fun h11 sb ea11=>?_;have I10':=(I10.pins_of (pins':=[]) (fun p hp=>absurd hp (by simp))).weak kl.symm kv;have I11:Inv (zh X N' scope (acc::fp) s₃ H2) [] (inner mp O) H10 {s10 with heap:=h11}:=I10'.turned (t':=s10.toks) (fun b o hb e=>(sb.2 b hb).trans e) z2 Cne (.inl List.mem_cons_self) (celln acc List.mem_cons_self) (fun p hp=>absurd hp (by simp [zh]));exact ⟨m',lt,i+1,ys++[y],its++[yv],H10,I11,T.keep _ _ _ z4 (fun b hb o e=>(sb.2 b (fne b hb)).trans e),z1,z2,ea11.trans (congrArg some (LCg.lst_snoc its yv)),rv5.append (.cons r10 .nil),w10⟩
 exact codeAny_compStart_list loop (T.self _ 0 _ _ _ tn4 loop)
section
variable {X:Cx}{tg iter elt:Expr}{ifs:List Expr}{scope:Scope}{pos spos py:Pos}{wi:TI}{g:TG}{ti:TT}{te:TE}{N':List Str}{mp:List (Option Nat)}
theorem vm{pins:List (Addr×Obj)}{O:St}{H:Hp}{s:Shared}{h':Heap}{C:Addr}(I:Inv X pins O H s)(f:z1P X pins H C)(sb:Heap.SameBut C s.heap h'):Inv X pins O H {s with heap:=h'}:= I.turned (t':=s.toks) (fun b o hb e=>(sb.2 b hb).trans e) f.1 f.2.1 f.2.2.2.1 f.2.2.2.2.1 f.2.2.2.2.2
theorem zcm (N':List Str) (mp:List (Option Nat)) (hc:X.calm=true) (hi:PI X tg iter wi) (hg:∀ ex s H,PG (zh X N' scope ex s H) tg g) (ht:∀ ex s H,z6E (zh X N' scope ex s H) ifs ti) (he:∀ ex s H,PE (zh X N' scope ex s H) elt te) (hkd:scope.kind=.function) (hnm:∀ y∈scope.names,scope.names.lookup y.1=some y.2) (hfr:∀ y∈scope.names,y.2=.free->X.env.kindOf y.1=some .cell\/X.env.kindOf y.1=some .free) (hmp:z06 X.N scope.names N' mp=true) (hs:∀ x,foldedSetIterable iter X.env x=pure x:=by intro _;rfl):PE X (.ListComp elt [⟨tg,iter,ifs,0⟩] scope pos) (z9S wi mp g ti te):=by
 intro pins s O H Q I h;rw [eval_ListComp];refine wpAny_comprehension_free (use:=none) rfl hs (xB fun y hy hf=>I.ok.has _ (hfr y hy hf)) hkd (fun y hy hl=>by rw [hnm y hy,hl]) (thn (hi pins s O H _ I h) fun xv s₁ h₁=>thn h₁ fun itv s₂ h₂=>?_);obtain ⟨it,fp,tn,J,H2,e,I2,T,st2,f2,W,w0,turn⟩:=h₂;subst e;refine ku (N':=N') (mp:=mp) (O:=O) (pins:=pins) (Q:=Q) (RR:=fun acc C=>compPost (model X.prog X.w) X.A X.xe none (EP X pins O Q) acc C) hc hg ht he hkd hnm hfr hmp I2 T st2 f2 W w0 turn ?_;rintro acc C s' ⟨v,Hf,I3,r,q,⟨m,hm⟩,f⟩;exact ⟨m,hm,fun h' sb=>⟨v,Hf,vm I3 f sb,r,q⟩⟩
theorem z6X {i:Nat} {y:Str} (N':List Str) (mp:List (Option Nat)) (hN:X.N.Nodup) (hy:X.N[i]? = some y) (hyl:Loc X.env.scope y) (hc:X.calm=true) (hi:PI X tg iter wi) (hg:∀ ex s H,PG (zh X N' scope ex s H) tg g) (ht:∀ ex s H,z6E (zh X N' scope ex s H) ifs ti) (he:∀ ex s H,PE (zh X N' scope ex s H) elt te) (hkd:scope.kind=.function) (hnm:∀ y∈scope.names,scope.names.lookup y.1=some y.2) (hfr:∀ y∈scope.names,y.2=.free->X.env.kindOf y.1=some .cell\/X.env.kindOf y.1=some .free) (hmp:z06 X.N scope.names N' mp=true) (hs:∀ x,foldedSetIterable iter X.env x=pure x:=by intro _;rfl) (hsw:swapsWith (.ListComp elt [⟨tg,iter,ifs,0⟩] scope pos) (some (.Name y py)) spos.line X.env=pure true:=by rfl) (hf:X.fn y=true\/X.env.scope.names.lookup y=some .local:=by first | exact .inl rfl | exact .inr rfl | assumption): PS X (.Assign [.Name y py] (.ListComp elt [⟨tg,iter,ifs,0⟩] scope pos) spos) (zg4 (z9S wi mp g ti te) (qD i)):=by
 intro pins s O H D I h;rw [exec_Assign_Name_used _ _ _ _ hsw];refine wpAny_bind (wpAny_standAt (wpAny_bind ?_));show wpAny _ X.A (do let _ <- comprehension (.ListComp elt [⟨tg,iter,ifs,0⟩] scope pos) scope X.env _ (newList []) false (eval iter X.env) (some (assign (.Name y py) X.env))) _ _ s;refine wpAny_bind (wpAny_mono (wpAny_comprehension_free (use:=some (assign (.Name y py) X.env)) (Q:=fun _ s'=>SP X pins D .next s') rfl hs (xB fun y hy hf=>I.ok.has _ (hfr y hy hf)) hkd (fun y hy hl=>by rw [hnm y hy,hl]) (thn (hi pins s O H _ I h) fun xv s₁ h₁=>thn h₁ fun itv s₂ h₂=>?_)) (fun _ s' hq=>wpAny_pure (wpAny_pure hq)) fun _ _ e=>e);obtain ⟨it,fp,tn,J,H2,e,I2,T,st2,f2,W,w0,turn⟩:=h₂;subst e;refine ku (N':=N') (mp:=mp) (O:=O) (pins:=pins) (Q:=fun v H'=>D.nx (O.set i (some v)) H') (RR:=fun acc C=>compPost (model X.prog X.w) X.A X.xe (some (assign (.Name y py) X.env)) (fun _ s'=>SP X pins D .next s') acc C) hc hg ht he hkd hnm hfr hmp I2 T st2 f2 W w0 turn ?_;rintro acc C s' ⟨v,Hf,I3,r,q,⟨m,hm⟩,f⟩;refine wpAny_assign_Name (jo I3 hN hy hyl r (fun s'' I4 ⟨a,sb,ha⟩=>?_) hf);have hC:C≠a:=by
  rcases ha with z | z;·rw [z];exact f.2.1
  ·exact Ne.symm (f.2.2.2.2.1 y a z)
 exact ⟨m,hm.sameBut sb hC,fun h' sb'=>⟨_,Hf,vm I4 f sb',q⟩⟩
end
section
variable {κ:Type} [DecidableEq κ]
def zgi(kvs:List (κ×V))(k:κ)(v:V):List (κ×V):= if (kvs.any fun kv=>decide (kv.1=k))=true then kvs.map (fun kv=>if kv.1=k then (kv.1,v) else kv) else kvs++[(k,v)]
end
end L2
set_option maxHeartbeats 4000000
namespace Dd
open PySem.Spec L2
theorem zaE(xs:List Expr)(k:Nat)(p:Pos)(es:List Expr)(env:Env):starEach (.Tuple xs k p::es) env=(false,eval (.Tuple xs k p) env)::starEach es env:=rfl
theorem zah(xs:List Expr)(p:Pos)(es:List Expr)(env:Env):starEach (.List xs p::es) env=(false,eval (.List xs p) env)::starEach es env:=rfl
theorem z0z(f:Expr)(xs:List Expr)(ks:List Keyword)(p:Pos)(es:List Expr)(env:Env):starEach (.Call f xs ks p::es) env=(false,eval (.Call f xs ks p) env)::starEach es env:=rfl
theorem z2Z(a:Expr)(o:Operator)(b:Expr)(p:Pos)(es:List Expr)(env:Env):starEach (.BinOp a o b p::es) env=(false,eval (.BinOp a o b p) env)::starEach es env:=rfl
theorem z9G(a b:Expr)(p:Pos)(es:List Expr)(env:Env):starEach (.Subscript a b p::es) env=(false,eval (.Subscript a b p) env)::starEach es env:=rfl
theorem yP(a:Expr)(g:List Comprehension)(sc:Scope)(p:Pos)(es:List Expr)(env:Env):starEach (.ListComp a g sc p::es) env=(false,eval (.ListComp a g sc p) env)::starEach es env:=rfl
theorem z6S(a:Expr)(o:List CmpOp)(b:List Expr)(p:Pos)(es:List Expr)(env:Env):starEach (.Compare a o b p::es) env=(false,eval (.Compare a o b p) env)::starEach es env:=rfl
theorem z2a(c:Const)(j:Nat)(p:Pos)(es:List Expr)(env:Env):starEach (.Constant c j p::es) env=(false,eval (.Constant c j p) env)::starEach es env:=rfl
theorem zt(x:Str)(p:Pos)(es:List Expr)(env:Env):starEach (.Name x p::es) env=(false,eval (.Name x p) env)::starEach es env:=rfl
inductive D where | non | bl (b:Bool) | int (i:Int) | str (x:Str) | tup (xs:List D) | lst (xs:List D) | dct | loc (l:Nat) | dlo (l:Nat) | fn (x:Str) | exc (x:Str) | scr (xs:List D)
abbrev Sto:=List (List D)
abbrev Ev:=List (Option D)
inductive R(α:Type) where | ok (a:α)(s:Sto) | ex (c:Str)(s:Sto) | no
def R.bind{α β:Type}(r:R α)(k:α->Sto->R β):R β:=match r with
 | .ok a s=>k a s | .ex c s=>.ex c s | .no=>.no
@[simp] theorem R.bind_ok {α β:Type}(a:α)(s:Sto)(k:α->Sto->R β):(R.ok a s).bind k=k a s:=id rfl
@[simp] theorem R.bind_ex {α β:Type}(c:Str)(s:Sto)(k:α->Sto->R β):(R.ex c s:R α).bind k=.ex c s:=id rfl
@[simp] theorem R.bind_no {α β:Type}(k:α->Sto->R β):(R.no:R α).bind k=.no:=id rfl
def D.flat:D->Bool
 | .tup xs=>flats xs | .lst xs=>flats xs | .scr xs=>flats xs | .loc _=>false | .dlo _=>false | _=>true
where flats:List D->Bool
 | []=>true | x::xs=>x.flat&&flats xs
def ziy(C a:Addr):HO:=.ext fun h=>∃ o vs,h.get? a=some o/\o.cls=.ref C/\o.data=.fields vs
structure Gm where
 m:Str->Option Value
 K:W.Frag
abbrev gm(X:Cx):Gm:=⟨X.mg,X.K⟩
def IsL(H:Hp)(a:Addr):Prop:=∃ vs,H a=some (.lst vs)
def IsC(H:Hp)(a:Addr):Prop:=∃ kvs,H a=some (.dT kvs)
theorem IsL.notC{H:Hp}{a:Addr}(h:IsL H a)(h':IsC H a):False:=by obtain ⟨_,e⟩:=h;obtain ⟨_,e'⟩:=h';rw [e] at e';cases e'
def zdt:Key->D
 | .inl i=>.int i | .inr x=>.str x
def zcA:V->Option D
 | .int i=>some (.int i) | .bl b=>some (.bl b) | _=>none
def zdr:List D->List (List Key×V)->Prop
 | [],kvs=>kvs=[] | d::ds,kvs=>∃ k v x r,kvs=(k,v)::r/\zcA v=some x/\d=.tup [.tup (k.map zdt),x]/\zdr ds r
def KL(K:W.Frag)(a:Addr)(xs:List V):Prop:=∃ (o:Obj)(its:Array Value)(n:Nat),K.lookup a=some o/\o.cls=.type "list"/\o.dict=none/\o.data=.seq its n/\its.size<=sizeLine/\yG xs its.toList
section
variable (mg:Gm)
mutual
def Den(H:Hp)(Y:List Addr):D->V->Prop
 | .non,v=>v=.non | .bl b,v=>v=.bl b | .int i,v=>v=.int i | .str x,v=>v=.str x | .tup ds,v=>∃ a vs,v=.ref a/\H a=some (.tup vs)/\zu H Y ds vs | .lst ds,v=>∃ a o vs,v=.ref a/\H a=some (.frz o (.lst vs))/\zu H Y ds vs | .dct,v=>∃ a,v=.ref a/\H a=some (.dK []) | .loc l,v=>∃ a,v=.ref a/\Y[l]? = some a/\IsL H a | .dlo l,v=>∃ a,v=.ref a/\Y[l]? = some a/\IsC H a | .fn x,v=>∃ a,v=.ref a/\mg.m x=some (.ref a) | .exc x,v=>∃ a C,v=.ref a/\mg.m x=some (.ref C)/\H a=some (ziy C a) | .scr ds,v=>∃ a vs,v=.ref a/\((∃ o,H a=some (.frz o (.lst vs)))\/KL mg.K a vs)/\zu H Y ds vs
def zu(H:Hp)(Y:List Addr):List D->List V->Prop
 | [],vs=>vs=[] | d::ds,vs=>∃ v r,vs=v::r/\Den H Y d v/\zu H Y ds r
end
def vY(H:Hp)(Y:List Addr)(xs:List D)(a:Addr):Prop:=(∃ vs,H a=some (.lst vs)/\zu mg H Y xs vs)\/∃ kvs,H a=some (.dT kvs)/\zdr xs kvs
structure Rep(H:Hp)(Y:List Addr)(s:Sto):Prop where
 len:Y.length=s.length
 nd:Y.Nodup
 cell:∀ (l:Nat)(xs:List D),s[l]? = some xs->∃ a,Y[l]? = some a/\vY mg H Y xs a
 flat:∀ xs∈s,D.flat.flats xs=true
structure xH(H:Hp)(Y:List Addr)(H':Hp)(Y':List Addr)(s':Sto):Prop where
 rep:Rep mg H' Y' s'
 pre:Y <+: Y'
 keep:∀ b o,H b=some o->b∉Y->H' b=some o
 new:∀ a∈Y',a∉Y->H a=none
 mt:∀ a∈Y,(IsL H a/\IsL H' a)\/(IsC H a/\IsC H' a)
end
section
variable {mg:Gm}{H H' H1 H2:Hp}{Y Y' Y1 Y2:List Addr}{s s' s1 s2:Sto}
theorem vY.kind{xs:List D}{a:Addr}(h:vY mg H Y xs a):IsL H a\/IsC H a:=h.imp (fun ⟨vs,e,_⟩=>⟨vs,e⟩) fun ⟨k,e,_⟩=>⟨k,e⟩
theorem Rep.mt(r:Rep mg H Y s):∀ a∈Y,IsL H a\/IsC H a:=fun a ha=>by
 obtain ⟨l,hl,e⟩:=List.mem_iff_getElem.mp ha;have hl':l<s.length:=by rw [<- r.len];exact hl
 obtain ⟨b,e1,c⟩:=r.cell l s[l] (List.getElem?_eq_getElem hl');rw [List.getElem?_eq_getElem hl] at e1;have:Y[l]=b:=Option.some.inj e1;rw [<- e,this];exact c.kind
theorem Rep.at_(r:Rep mg H Y s){l:Nat}{xs:List D}{a:Addr}(h:s[l]? = some xs)(ha:Y[l]? = some a)(k:IsL H a):∃ vs,H a=some (.lst vs)/\zu mg H Y xs vs:=by
 obtain ⟨b,e1,c⟩:=r.cell l xs h;rw [ha] at e1;cases e1;rcases c with c | ⟨kvs,e,_⟩;·exact c
 ·exact (k.notC ⟨kvs,e⟩).elim
theorem xH.refl(r:Rep mg H Y s):xH mg H Y H Y s:=⟨r,List.prefix_refl _,fun _ _ h _=>h,fun a h1 h2=>absurd h1 h2,fun a ha=>(r.mt a ha).imp (fun h=>⟨h,h⟩) fun h=>⟨h,h⟩⟩
theorem xH.trans(a:xH mg H Y H1 Y1 s1)(b:xH mg H1 Y1 H2 Y2 s2):xH mg H Y H2 Y2 s2:=by
 refine ⟨b.rep,a.pre.trans b.pre,fun c o h n=>?_,fun c h1 h2=>?_,fun c hc=>?_⟩
 ·refine b.keep c o (a.keep c o h n) fun z=>?_;rw [a.new c z n] at h;cases h
 ·by_cases h3:c∈Y1;·exact a.new c h3 h2
  ·cases e:H c with
   | none=>rfl | some o=>rw [<- b.new c h1 h3,a.keep c o e h2]
 ·have hc1:c∈Y1:=a.pre.subset hc;rcases a.mt c hc with ⟨k1,k2⟩ | ⟨k1,k2⟩
  ·rcases b.mt c hc1 with ⟨_,q⟩ | ⟨q,_⟩;·exact .inl ⟨k1,q⟩
   ·exact (k2.notC q).elim
  ·rcases b.mt c hc1 with ⟨q,_⟩ | ⟨_,q⟩;·exact (q.notC k2).elim
   ·exact .inr ⟨k1,q⟩
theorem xH.stay(stp:xH mg H Y H' Y' s'){b:Addr}{o:HO}(h:H b=some o)(hn:∀ vs,o≠.lst vs)(hn2:∀ kvs,o≠.dT kvs:=by intro vs z;cases z):H' b=some o:=stp.keep b o h fun z=>by
 rcases stp.mt b z with ⟨⟨vs,e⟩,_⟩ | ⟨⟨vs,e⟩,_⟩
 ·rw [h] at e;exact hn vs (Option.some.inj e)
 ·rw [h] at e;exact hn2 vs (Option.some.inj e)
mutual
theorem Den.mono(stp:xH mg H Y H' Y' s'):∀ {d:D}{v:V},Den mg H Y d v->Den mg H' Y' d v
 | .non,_,h=>by simpa [Den] using h | .bl _,_,h=>by simpa [Den] using h | .int _,_,h=>by simpa [Den] using h | .str _,_,h=>by simpa [Den] using h | .tup ds,v,h=>by
  simp only [Den] at h ⊢;obtain ⟨a,vs,e,h1,h2⟩:=h;exact ⟨a,vs,e,stp.stay h1 (by intro vs z;cases z),zu.mono stp h2⟩ | .lst ds,v,h=>by
  simp only [Den] at h ⊢;obtain ⟨a,o,vs,e,h1,h2⟩:=h;exact ⟨a,o,vs,e,stp.stay h1 (by intro vs z;cases z),zu.mono stp h2⟩ | .dct,v,h=>by
  simp only [Den] at h ⊢;obtain ⟨a,e,h1⟩:=h;exact ⟨a,e,stp.stay h1 (by intro vs z;cases z)⟩ | .loc l,v,h=>by
  simp only [Den] at h ⊢;obtain ⟨a,e,h1,k⟩:=h;obtain ⟨t,ht⟩:=stp.pre;refine ⟨a,e,?_,?_⟩
  ·rw [<- ht,List.getElem?_append_left (List.getElem?_eq_some_iff.mp h1).1];exact h1
  ·rcases stp.mt a (List.mem_of_getElem? h1) with ⟨_,q⟩ | ⟨q,_⟩;·exact q
   ·exact (k.notC q).elim | .dlo l,v,h=>by
  simp only [Den] at h ⊢;obtain ⟨a,e,h1,k⟩:=h;obtain ⟨t,ht⟩:=stp.pre;refine ⟨a,e,?_,?_⟩
  ·rw [<- ht,List.getElem?_append_left (List.getElem?_eq_some_iff.mp h1).1];exact h1
  ·rcases stp.mt a (List.mem_of_getElem? h1) with ⟨q,_⟩ | ⟨_,q⟩;·exact (q.notC k).elim
   ·exact q | .fn _,_,h=>by simpa [Den] using h | .exc x,v,h=>by
  simp only [Den] at h ⊢;obtain ⟨a,C,e,h1,h2⟩:=h;exact ⟨a,C,e,h1,stp.stay h2 (by intro vs z;cases z)⟩ | .scr ds,v,h=>by
  simp only [Den] at h ⊢;obtain ⟨a,vs,e,h1,h2⟩:=h;exact ⟨a,vs,e,h1.imp (fun ⟨o,h1⟩=>⟨o,stp.stay h1 (by intro vs z;cases z)⟩) id,zu.mono stp h2⟩
theorem zu.mono(stp:xH mg H Y H' Y' s'):∀ {ds:List D}{vs:List V},zu mg H Y ds vs->zu mg H' Y' ds vs
 | [],_,h=>by simpa [zu] using h | d::ds,vs,h=>by
  simp only [zu] at h ⊢;obtain ⟨v,r,e,h1,h2⟩:=h;exact ⟨v,r,e,Den.mono stp h1,zu.mono stp h2⟩
end
theorem zu.length:∀ {ds:List D}{vs:List V},zu mg H Y ds vs->vs.length=ds.length
 | [],_,h=>by simp only [zu] at h;rw [h];rfl | d::ds,vs,h=>by
  simp only [zu] at h;obtain ⟨v,r,rfl,_,h2⟩:=h;simp [zu.length h2]
theorem zu.get:∀ {ds:List D}{vs:List V}{i:Nat}{d:D},zu mg H Y ds vs->ds[i]? = some d->∃ v,vs[i]? = some v/\Den mg H Y d v
 | [],_,_,_,_,e=>by simp at e | d::ds,vs,0,d',h,e=>by
  simp only [zu] at h;obtain ⟨v,r,rfl,h1,_⟩:=h;simp at e;subst e;exact ⟨v,by simp,h1⟩ | d::ds,vs,i+1,d',h,e=>by
  simp only [zu] at h;obtain ⟨v,r,rfl,_,h2⟩:=h;obtain ⟨u,h3,h4⟩:=zu.get (i:=i) h2 (by simpa using e);exact ⟨u,by simpa using h3,h4⟩
theorem zu.append:∀ {ds es:List D}{vs us:List V},zu mg H Y ds vs->zu mg H Y es us->zu mg H Y (ds++es) (vs++us)
 | [],_,_,_,h,h'=>by simp only [zu] at h;subst h;simpa using h' | d::ds,_,_,_,h,h'=>by
  simp only [zu] at h;obtain ⟨v,r,rfl,h1,h2⟩:=h;simp only [List.cons_append,zu];exact ⟨v,_,rfl,h1,zu.append h2 h'⟩
theorem zu.nil:zu mg H Y [] []:=by simp [zu]
theorem zu.cons {d:D} {ds:List D} {v:V} {vs:List V} (h:Den mg H Y d v) (h':zu mg H Y ds vs):zu mg H Y (d::ds) (v::vs):=by
 simp only [zu];exact ⟨v,vs,rfl,h,h'⟩
theorem zu.one{d:D}{v:V}(h:Den mg H Y d v):zu mg H Y [d] [v]:=.cons h .nil
theorem zu.take:∀ {ds:List D}{vs:List V}(n:Nat),zu mg H Y ds vs->zu mg H Y (ds.take n) (vs.take n)
 | ds,vs,0,h=>by simp [zu] | [],vs,n+1,h=>by simp only [zu] at h;subst h;simp [zu] | d::ds,vs,n+1,h=>by
  simp only [zu] at h;obtain ⟨v,r,rfl,h1,h2⟩:=h;simp only [List.take_succ_cons];exact .cons h1 (zu.take n h2)
theorem zu.drop:∀ {ds:List D}{vs:List V}(n:Nat),zu mg H Y ds vs->zu mg H Y (ds.drop n) (vs.drop n)
 | ds,vs,0,h=>by simpa using h | [],vs,n+1,h=>by simp only [zu] at h;subst h;simp [zu] | d::ds,vs,n+1,h=>by
  simp only [zu] at h;obtain ⟨v,r,rfl,h1,h2⟩:=h;simpa using zu.drop n h2
theorem zu.set:∀ {ds:List D}{vs:List V}{d:D}{v:V}(n:Nat),zu mg H Y ds vs->Den mg H Y d v->zu mg H Y (ds.set n d) (vs.set n v)
 | [],vs,_,_,n,h,_=>by simp only [zu] at h;subst h;simp [zu] | d::ds,vs,_,_,0,h,h'=>by
  simp only [zu] at h;obtain ⟨v,r,rfl,h1,h2⟩:=h;simpa using zu.cons h' h2 | d::ds,vs,_,_,n+1,h,h'=>by
  simp only [zu] at h;obtain ⟨v,r,rfl,h1,h2⟩:=h;simpa using zu.cons h1 (zu.set n h2 h')
mutual
theorem Den.flatten(k:∀ b o,H b=some o->(∀ vs,o≠.lst vs)->(∀ kvs,o≠.dT kvs)->H' b=some o):∀ {d:D}{v:V},d.flat=true->Den mg H Y d v->Den mg H' Y' d v
 | .non,_,_,h=>by simpa [Den] using h | .bl _,_,_,h=>by simpa [Den] using h | .int _,_,_,h=>by simpa [Den] using h | .str _,_,_,h=>by simpa [Den] using h | .tup ds,v,f,h=>by
  simp only [Den] at h ⊢;obtain ⟨a,vs,e,h1,h2⟩:=h;exact ⟨a,vs,e,k a _ h1 (by intro vs z;cases z) (by intro vs z;cases z),zu.flatten k (by simpa [D.flat] using f) h2⟩ | .lst ds,v,f,h=>by
  simp only [Den] at h ⊢;obtain ⟨a,o,vs,e,h1,h2⟩:=h;exact ⟨a,o,vs,e,k a _ h1 (by intro vs z;cases z) (by intro vs z;cases z),zu.flatten k (by simpa [D.flat] using f) h2⟩ | .dct,v,_,h=>by
  simp only [Den] at h ⊢;obtain ⟨a,e,h1⟩:=h;exact ⟨a,e,k a _ h1 (by intro vs z;cases z) (by intro vs z;cases z)⟩ | .loc l,v,f,h=>by simp [D.flat] at f | .dlo l,v,f,h=>by simp [D.flat] at f | .fn _,_,_,h=>by simpa [Den] using h | .exc x,v,_,h=>by
  simp only [Den] at h ⊢;obtain ⟨a,C,e,h1,h2⟩:=h;exact ⟨a,C,e,h1,k a _ h2 (by intro vs z;cases z) (by intro vs z;cases z)⟩ | .scr ds,v,f,h=>by
  simp only [Den] at h ⊢;obtain ⟨a,vs,e,h1,h2⟩:=h;exact ⟨a,vs,e,h1.imp (fun ⟨o,h1⟩=>⟨o,k a _ h1 (by intro vs z;cases z) (by intro vs z;cases z)⟩) id,zu.flatten k (by simpa [D.flat] using f) h2⟩
theorem zu.flatten(k:∀ b o,H b=some o->(∀ vs,o≠.lst vs)->(∀ kvs,o≠.dT kvs)->H' b=some o):∀ {ds:List D}{vs:List V},D.flat.flats ds=true->zu mg H Y ds vs->zu mg H' Y' ds vs
 | [],_,_,h=>by simpa [zu] using h | d::ds,vs,f,h=>by
  simp only [zu] at h ⊢;simp only [D.flat.flats,Bool.and_eq_true] at f;obtain ⟨v,r,e,h1,h2⟩:=h;exact ⟨v,r,e,Den.flatten k f.1 h1,zu.flatten k f.2 h2⟩
end
end
def okR{α β:Type}(mg:Gm)(E:XK)(H:Hp)(Y:List Addr)(Dn:Hp->List Addr->α->β->Prop)(r:R α)(Q:β->Hp->Prop):Prop:=match r with
 | .ok a s'=>∀ b H' Y',xH mg H Y H' Y' s'->Dn H' Y' a b->Q b H' | .ex c s'=>∀ H' Y' C,xH mg H Y H' Y' s'->mg.m c=some (.ref C)->E (.ref C) none H' | .no=>False
section
variable {α β α2 β2:Type}{mg:Gm}{E:XK}{H H' H1 H2:Hp}{Y Y' Y1 Y2:List Addr}{s s' s1 s2:Sto}{Dn:Hp->List Addr->α->β->Prop}{Dn2:Hp->List Addr->α2->β2->Prop}
theorem okR.rebase{r:R α}{Q:β->Hp->Prop}(h:okR mg E H Y Dn r Q)(stp:xH mg H Y H1 Y1 s1):okR mg E H1 Y1 Dn r Q:=by cases r with
 | ok a s'=>exact fun b H' Y' stp'=>h b H' Y' (stp.trans stp') | ex c s'=>exact fun H' Y' C stp'=>h H' Y' C (stp.trans stp') | no=>exact h
theorem okR.bind{r:R α}{k:α->Sto->R α2}{Q:β2->Hp->Prop}(h:okR mg E H Y Dn2 (r.bind k) Q): okR mg E H Y Dn r (fun b H1=>∃ Y1 s1 a,xH mg H Y H1 Y1 s1/\Dn H1 Y1 a b/\okR mg E H1 Y1 Dn2 (k a s1) Q):=by cases r with
 | ok a s'=>exact fun b H' Y' stp dn=>⟨Y',s',a,stp,dn,okR.rebase h stp⟩ | ex c s'=>exact h | no=>exact h
theorem okR.imp{r:R α}{Q Q':β->Hp->Prop}(h:okR mg E H Y Dn r Q)(i:∀ b H',Q b H'->Q' b H'):okR mg E H Y Dn r Q':=by cases r with
 | ok a s'=>exact fun b H' Y' stp dn=>i b H' (h b H' Y' stp dn) | ex c s'=>exact h | no=>exact h
theorem okR.here{a:α}{Q:β->Hp->Prop}{b:β}(h:okR mg E H Y Dn (.ok a s) Q)(r:Rep mg H Y s)(d:Dn H Y a b):Q b H:=h b H Y (.refl r) d
end
structure wF(mg:Gm)(H:Hp)(Y:List Addr)(ρ:Ev)(O:L2.St):Prop where
 len:ρ.length=O.length
 at_:∀ (i:Nat)(d:D),ρ[i]? = some (some d)->∃ v,O[i]? = some (some v)/\Den mg H Y d v
theorem wF.mono{mg:Gm}{H H':Hp}{Y Y':List Addr}{s':Sto}{ρ:Ev}{O:L2.St}(e:wF mg H Y ρ O)(stp:xH mg H Y H' Y' s'):wF mg H' Y' ρ O:= ⟨e.len,fun i d h=>let ⟨v,h1,h2⟩:=e.at_ i d h;⟨v,h1,h2.mono stp⟩⟩
theorem wF.set{mg:Gm}{H:Hp}{Y:List Addr}{ρ:Ev}{O:L2.St}{d:D}{v:V}(e:wF mg H Y ρ O)(h:Den mg H Y d v)(i:Nat):wF mg H Y (ρ.set i (some d)) (O.set i (some v)):=by
 refine ⟨by simp [e.len],fun j d' hj=>?_⟩;by_cases hij:i=j
 ·subst hij;have hi:i<ρ.length:=by
   have:=(List.getElem?_eq_some_iff.mp hj).1;simpa using this
  rw [List.getElem?_set_self hi] at hj;cases hj;exact ⟨v,by rw [List.getElem?_set_self (by rw [<- e.len];exact hi)],h⟩
 ·rw [List.getElem?_set_ne hij] at hj ⊢;exact e.at_ j d' hj
abbrev FE:=Ev->Sto->R D
abbrev FT:=Ev->Sto->R Bool
abbrev FA:=Ev->Sto->R (List D)
inductive Fl where | nx (ρ:Ev) | rt (d:D) | bk (ρ:Ev) | ct (ρ:Ev)
inductive FlV where | nx (O:L2.St) | rt (v:V) | bk (O:L2.St) | ct (O:L2.St)
abbrev FS:=Ev->Sto->R Fl
def FlD(mg:Gm)(H:Hp)(Y:List Addr):Fl->FlV->Prop
 | .nx ρ,.nx O=>wF mg H Y ρ O | .rt d,.rt v=>Den mg H Y d v | .bk ρ,.bk O=>wF mg H Y ρ O | .ct ρ,.ct O=>wF mg H Y ρ O | _,_=>False
def z6k(D:z9O):FlV->Hp->Prop
 | .nx O,H=>D.nx O H | .rt v,H=>D.rt v H | .bk O,H=>D.bk O H | .ct O,H=>D.ct O H
def bD(_:Hp)(_:List Addr)(a b:Bool):Prop:=a=b
def tE(mg:Gm)(E:XK)(f:FE):TE:=fun O H Q=>∃ Y ρ s,Rep mg H Y s/\wF mg H Y ρ O/\okR mg E H Y (Den mg) (f ρ s) Q
def tT(mg:Gm)(E:XK)(f:FT):TT:=fun O H Q=>∃ Y ρ s,Rep mg H Y s/\wF mg H Y ρ O/\okR mg E H Y bD (f ρ s) Q
def tA(mg:Gm)(E:XK)(f:FA):TA:=fun O H Q=>∃ Y ρ s,Rep mg H Y s/\wF mg H Y ρ O/\okR mg E H Y (zu mg) (f ρ s) Q
def tS(mg:Gm)(E:XK)(f:FS):TS:=fun D O H=>∃ Y ρ s,Rep mg H Y s/\wF mg H Y ρ O/\okR mg E H Y (FlD mg) (f ρ s) (z6k D)
def RE(X:Cx)(E:XK)(e:Expr)(f:FE):Prop:=PE X e (tE (gm X) E f)
def RT(X:Cx)(E:XK)(e:Expr)(f:FT):Prop:=PT X e (tT (gm X) E f)
def RA(X:Cx)(E:XK)(es:List Expr)(f:FA):Prop:=PA X es (tA (gm X) E f)
def RS(X:Cx)(E:XK)(st:Stmt)(f:FS):Prop:=PS X st (tS (gm X) E f)
def RSs(X:Cx)(E:XK)(st:List Stmt)(f:FS):Prop:=PSs X st (tS (gm X) E f)
section
variable {X:Cx}{E:XK}{e a b c:Expr}{es:List Expr}{pos:Pos}
theorem zX{t t':TE}(h:PE X e t)(i:∀ O H Q,t' O H Q->t O H Q):PE X e t':=fun pins s O H Q I q=>h pins s O H Q I (i O H Q q)
theorem z6p{t t':TT}(h:PT X e t)(i:∀ O H Q,t' O H Q->t O H Q):PT X e t':=fun pins s O H Q I q=>h pins s O H Q I (i O H Q q)
theorem zbk{t t':TA}(h:PA X es t)(i:∀ O H Q,t' O H Q->t O H Q):PA X es t':=fun pos pins s O H Q I q=>h pos pins s O H Q I (i O H Q q)
theorem uA{st:Stmt}{t t':TS}(h:PS X st t)(i:∀ D O H,t' D O H->t D O H):PS X st t':=fun pins s O H D I q=>h pins s O H D I (i D O H q)
theorem z5f{st:List Stmt}{t t':TS}(h:PSs X st t)(i:∀ D O H,t' D O H->t D O H):PSs X st t':=fun pins s O H D I q=>h pins s O H D I (i D O H q)
theorem yL{α β:Type}{Dn:Hp->List Addr->α->β->Prop}{mg:Gm}{f:FE}{k:Ev->D->Sto->R α}{O:L2.St}{H:Hp}{Q:β->Hp->Prop}{Y:List Addr}{ρ:Ev}{s:Sto}(r:Rep mg H Y s)(en:wF mg H Y ρ O) (h:okR mg E H Y Dn ((f ρ s).bind (k ρ)) Q)(K:V->Hp->Prop) (hK:∀ v H1 Y1 s1 d,Rep mg H1 Y1 s1->wF mg H1 Y1 ρ O->Den mg H1 Y1 d v->xH mg H Y H1 Y1 s1->okR mg E H1 Y1 Dn (k ρ d s1) Q->K v H1):tE mg E f O H K:= ⟨Y,ρ,s,r,en,(okR.bind (Dn:=Den mg) h).imp fun v H1 ⟨Y1,s1,d,stp,dn,q⟩=>hK v H1 Y1 s1 d stp.rep (en.mono stp) dn stp q⟩
theorem z1c{α β:Type}{Dn:Hp->List Addr->α->β->Prop}{mg:Gm}{f:FT}{k:Ev->Bool->Sto->R α}{O:L2.St}{H:Hp}{Q:β->Hp->Prop}{Y:List Addr}{ρ:Ev}{s:Sto}(r:Rep mg H Y s)(en:wF mg H Y ρ O) (h:okR mg E H Y Dn ((f ρ s).bind (k ρ)) Q)(K:Bool->Hp->Prop) (hK:∀ v H1 Y1 s1,Rep mg H1 Y1 s1->wF mg H1 Y1 ρ O->xH mg H Y H1 Y1 s1->okR mg E H1 Y1 Dn (k ρ v s1) Q->K v H1):tT mg E f O H K:= ⟨Y,ρ,s,r,en,(okR.bind (Dn:=bD) h).imp fun v H1 ⟨Y1,s1,d,stp,dn,q⟩=>hK v H1 Y1 s1 stp.rep (en.mono stp) stp (by cases (show d=v from dn);exact q)⟩
theorem uj{α β:Type}{Dn:Hp->List Addr->α->β->Prop}{mg:Gm}{f:FA}{k:Ev->List D->Sto->R α}{O:L2.St}{H:Hp}{Q:β->Hp->Prop}{Y:List Addr}{ρ:Ev}{s:Sto}(r:Rep mg H Y s)(en:wF mg H Y ρ O) (h:okR mg E H Y Dn ((f ρ s).bind (k ρ)) Q)(K:List V->Hp->Prop) (hK:∀ v H1 Y1 s1 d,Rep mg H1 Y1 s1->wF mg H1 Y1 ρ O->zu mg H1 Y1 d v->xH mg H Y H1 Y1 s1->okR mg E H1 Y1 Dn (k ρ d s1) Q->K v H1):tA mg E f O H K:= ⟨Y,ρ,s,r,en,(okR.bind (Dn:=zu mg) h).imp fun v H1 ⟨Y1,s1,d,stp,dn,q⟩=>hK v H1 Y1 s1 d stp.rep (en.mono stp) dn stp q⟩
def zc(i:Nat):FE:=fun ρ s=>match ρ[i]? with | some (some d)=>.ok d s | _=>.no
theorem zb(i:Nat){x:Str}(hN:X.N[i]? = some x:=by rfl)(hv:Vis X.env.scope x:=by first | exact Or.inl rfl | exact Or.inr (Or.inl rfl) | exact Or.inr (Or.inr rfl))(hd:(x==("__debug__":Str))=false:=by decide) (hcd:(x==("__classdict__":Str))=false:=by decide):RE X E (.Name x pos) (zc i):= zX (z8x hN hv hd hcd) fun O H Q ⟨Y,ρ,s,r,en,h⟩=>by
  unfold zc at h;split at h
  ·rename_i d hd;obtain ⟨v,h1,h2⟩:=en.at_ i d hd;exact ⟨v,h1,h.here r h2⟩
  ·exact h.elim
def eC(d:D):FE:=fun _ s=>.ok d s
theorem zq{i:Int}{j:Nat}:RE X E (.Constant (.int i) j pos) (eC (.int i)):=zX zep fun O H Q ⟨Y,ρ,s,r,en,h⟩=>okR.here (b:=V.int i) h r (by simp [Den])
theorem zfH{i:Bool}{j:Nat}:RE X E (.Constant (.bool i) j pos) (eC (.bl i)):=zX zgz fun O H Q ⟨Y,ρ,s,r,en,h⟩=>okR.here (b:=V.bl i) h r (by simp [Den])
theorem zeM{j:Nat}:RE X E (.Constant .none j pos) (eC .non):=zX zf1 fun O H Q ⟨Y,ρ,s,r,en,h⟩=>okR.here (b:=V.non) h r (by simp [Den])
theorem kg{i:Str}{j:Nat}:RE X E (.Constant (.str i) j pos) (eC (.str i)):=zX zeo fun O H Q ⟨Y,ρ,s,r,en,h⟩=>okR.here (b:=V.str i) h r (by simp [Den])
theorem zem{x:Str}{i:Int}{t:Tok}(hg:Gl X x)(hm:X.mg x=some (.int i t))(hd:(x==("__debug__":Str))=false:=by decide):RE X E (.Name x pos) (eC (.int i)):= zX (z5D hg hm (show xo (.int i) (.int i t) from ⟨t,rfl⟩) hd) fun O H Q ⟨Y,ρ,s,r,en,h⟩=>okR.here (b:=V.int i) h r (by simp [Den])
def OpF(X:Cx)(E:XK)(r:R2)(op:D->D->Sto->R D):Prop:= ∀ H Y s d1 d2 v1 v2 (Q:VK),Rep (gm X) H Y s->Den (gm X) H Y d1 v1->Den (gm X) H Y d2 v2->okR (gm X) E H Y (Den (gm X)) (op d1 d2 s) Q->r v1 v2 H Q
def eOp(op:D->D->Sto->R D)(fa fb:FE):FE:=fun ρ s=>(fa ρ s).bind fun x s1=>(fb ρ s1).bind fun y s2=>op x y s2
theorem z66{r:R2}{op:D->D->Sto->R D}{fa fb:FE}(ho:OpF X E r op){O:L2.St}{H:Hp}{Q:VK}(h:tE (gm X) E (eOp op fa fb) O H Q):tOp r (tE (gm X) E fa) (tE (gm X) E fb) O H Q:=by
 obtain ⟨Y,ρ,s,r',en,h⟩:=h;refine yL (k:=fun ρ x s1=>(fb ρ s1).bind fun y s2=>op x y s2) r' en h _ fun v H1 Y1 s1 d r1 en1 dn stp h1=>?_;refine yL (k:=fun ρ y s2=>op d y s2) r1 en1 h1 _ fun v2 H2 Y2 s2 d2 r2 en2 dn2 St2 h2=>?_;exact ho H2 Y2 s2 d d2 v v2 Q r2 (dn.mono St2) dn2 h2
theorem zi1{op:Operator}{r:R2}{fo:D->D->Sto->R D}{fa fb:FE}(ho:OpR X (binaryOp op) r/\OpF X E r fo)(ha:RE X E a fa)(hb:RE X E b fb):RE X E (.BinOp a op b pos) (eOp fo fa fb):= zX (zgZ ho.1 ha hb) fun O H Q h=>z66 ho.2 h
theorem zgc{op:CmpOp}{r:R2}{fo:D->D->Sto->R D}{fa fb:FE}(ho:OpR X (compareOp op) r/\OpF X E r fo)(ha:RE X E a fa)(hb:RE X E b fb)(hm:behindInMarks op b=false):RE X E (.Compare a [op] [b] pos) (eOp fo fa fb):= zX (z7Y ho.1 ha hb hm) fun O H Q h=>z66 ho.2 h
end
end Dd
namespace L2
open PySem.Spec
theorem Inv.freeze {X:Cx} {pins:List (Addr×Obj)} {O:L2.St} {H:Hp} {s:Shared} {a:Addr} {u:HO} {o:Obj} (I:Inv X pins O H s) (h:H a=some u) (e:s.heap.get? a=some o) (hu:∀ xs,u≠.tup xs) (hf:∀ o v,u≠.frz o v) (ht:∀ ps,u≠.tbl ps) (ho:∀ y,u≠.own y): Inv X pins O (upd H a (.frz o u)) s:=by
 have ne:∀ {b:Addr} {v:HO},H b=some v->v≠u->b≠a:=fun {b v} hb hv z=>by subst z;rw [h] at hb;exact hv (Option.some.inj hb).symm
 have stay:∀ b v,wS X.prog X.w H s.heap b v->wS X.prog X.w (upd H a (.frz o u)) s.heap b v:=fun b v q=> q.stay (fun _ _ _ q=>q) (fun c q=>by rw [zC (ne q (fun z=>ho b z.symm))];exact q) fun c xs q=>by rw [zC (ne q (fun z=>hu xs z.symm))];exact q
 have hok:HOk X.prog X.w (upd H a (.frz o u)) s.heap:=fun b v q=>by
  by_cases hb:b=a
  ·subst hb;rw [yy] at q;cases q;exact ⟨e,stay b u (I.hok b u h)⟩
  ·rw [zC hb] at q;exact stay b v (I.hok b v q)
 exact I.step (h':=s.heap) (g':=s.gens) (d':=s.drawn) (t':=s.toks) (ch:=[]) (fun b hb=>absurd hb (by simp)) (fun b o _ _ _ e _=>e) (fun b o _ _ _ e _=>⟨o.slots,e⟩) (fun b v _ _ n=>by rw [zC (fun z=>by subst z;rw [h] at n;cases n)];exact n) (fun b o _ e=>⟨o,e⟩) (fun b xs q=>by rw [zC (ne q (fun z=>hu xs z.symm))];exact q) (fun b o' v q=>by rw [zC (ne q (fun z=>hf o' v z.symm))];exact q) (fun b ps q=>⟨#[],by rw [zC (ne q (fun z=>ht ps z.symm)),q];simp⟩) (fun _ q=>q) hok I.bare
def z8G(Q:VK):VK:=fun v H=>∃ a xs,v=.ref a/\H a=some (.lst xs)/\∀ o,Q v (upd H a (.frz o (.lst xs)))
theorem EP.freeze{X:Cx}{pins:List (Addr×Obj)}{O:L2.St}{Q:VK}{u:Value}{s:Shared}(h:EP X pins O (z8G Q) u s):EP X pins O Q u s:=by
 obtain ⟨v,H',I,r,a,xs,rfl,ha,q⟩:=h;obtain ⟨its,n,rv,e,_⟩:=I.lst ha;exact ⟨_,_,I.freeze ha e (by intro _ z;cases z) (by intro _ _ z;cases z) (by intro _ z;cases z) (by intro _ z;cases z),r,q _⟩
theorem OpR.freeze{X:Cx}{f:Value->Value->Sem Value}{r:R2}(h:OpR X f r):OpR X f (fun x y H Q=>r x y H (z8G Q)):=fun pins s O H x y v u Q I rx ry q=>thn (h pins s O H x y v u _ I rx ry q) fun _ _ z=>z.freeze
theorem PE.freeze{X:Cx}{e:Expr}{t:TE}(h:PE X e t):PE X e (fun O H Q=>t O H (z8G Q)):=fun pins s O H Q I q=>thn (h pins s O H _ I q) fun _ _ z=>z.freeze
theorem SlR.freeze{X:Cx}{r:V->Option Int->Option Int->Hp->VK->Prop}(h:SlR X r):SlR X (fun x lo hi H Q=>r x lo hi H (z8G Q)):=fun pins s O H x v vl vu lo hi sl Q I rx hs pl pu q=>by
 obtain ⟨T,id,h1,h2,h3⟩:=h pins s O H x v vl vu lo hi sl _ I rx hs pl pu q;exact ⟨T,id,h1,h2,thn h3 fun _ _ z=>z.freeze⟩
section
variable {X:Cx}
theorem zcd:OpR X (binaryOp .Add) (fun x y H Q=>∃ l b xs zs,x=.ref l/\y=.ref b/\Rd H l (.lst xs)/\Rd H b (.lst zs)/\xs.length+zs.length<=sizeLine/\∀ p,H p=none->Q (.ref p) (upd H p (.lst (xs++zs)))):=by
 intro pins s O H x y v u Q I rx ry h;obtain ⟨l,b,xs,zs,rfl,rfl,hH,hB,hz,q⟩:=h;cases rx;cases ry;obtain ⟨z,its,n,r,e⟩:=hH.ok I.hok;obtain ⟨z2,its2,n2,r2,e2⟩:=hB.ok I.hok;have hl:=r.length;have hl2:=r2.length;refine PySem.P.add_list e e2 ?_ (by rw [List.size_toArray,List.size_toArray];omega);have ea:its.toArray++its2.toArray=(its++its2).toArray:=by simp
 rw [ea];exact ⟨.ref _,_,I.lnew (t':=s.toks) (r.append r2) (by rw [List.length_append];omega),rfl,q _ I.fresh⟩
end
section
variable {X:Cx}
theorem zaj:OpR X (binaryOp .Add) (fun x y H Q=>∃ a b ys,x=.ref a/\y=.ref b/\SqT X.K H a []/\SqT X.K H b ys/\Q (.ref b) H):=by
 intro pins s O H x y v u Q I rx ry h;obtain ⟨a,b,ys,rfl,rfl,ha,hb,q⟩:=h;cases rx;cases ry;obtain ⟨its,r1,p1,_⟩:=I.tuple ha;obtain ⟨its2,r2,p2,_⟩:=I.tuple hb;cases r1;obtain ⟨⟨cls,dd,data,sl⟩,ho,hc,n,hd⟩:=id p1;obtain ⟨⟨cls2,dd2,data2,sl2⟩,ho2,hc2,n2,hd2⟩:=id p2;simp only at hc hd hc2 hd2;subst hc hd hc2 hd2;exact concat_meets ⟨_,ho,rfl⟩ ⟨_,ho2,rfl⟩ noFill_tuple_add seq_tuple_add PySem.F.slot_tuple_add PySem.F.entry_tuple_add (PySem.F.args_tuple_add_2 _ _) (tuple_addW0 a b _ _ n n2 dd dd2 sl sl2 (by simp)) ⟨ho,ho2,⟨.ref b,H,I,rfl,q⟩⟩
theorem zbG:SlR X (fun x lo hi H Q=>∃ a xs,x=.ref a/\SqT X.K H a xs/\(HT.sIx xs.length 0 lo=0/\HT.sIx xs.length xs.length hi=xs.length)/\Q (.ref a) H):=by
 intro pins s O H x v vl vu lo hi sl Q I rx hs pl pu h;obtain ⟨a,xs,rfl,hx,hw,q⟩:=h;cases rx;obtain ⟨its,r,ht,hz⟩:=I.tuple hx;have hlen:its.toArray.size=xs.length:=by rw [List.size_toArray];exact r.length.symm
 refine ⟨"tuple",_,PyProof.Rows.slot_tuple_getitem.lookup,ht.typeIs,?_⟩;obtain ⟨os,hos,hcs,hds⟩:=id hs;have hTs:s.TypeIs (.ref sl) "slice":=⟨os,hos,hcs⟩;obtain ⟨oa,hoa,hca,na,hda⟩:=id ht;unfold getItem;try with_reducible refine wpAny_holding ?_
 first | refine wpAny_bind (wpAny_pure ?_) | skip
 refine wpAny_bind (wpAny_sequenceKey ht.typeIs (by decide) ?_);refine wpAny_bind (wpAny_callSpecial?_slot (name:=Str.ofString "__getitem__") ht.typeIs PyProof.Rows.slot_tuple_getitem (wpAny_call_entry PyProof.Rows.slot_tuple_getitem ht.typeIs entry_tuple_getitem ?_ (args_tuple_getitem _ _)));show wpAny _ _ (Builtin.Tuple.tupleItemsOf (.ref a) >>= _) _ _ s;refine wpAny_bind (tupleItemsOf_ ht ?_);refine wpAny_bind (wpAny_typeOf hTs ?_);rw [if_pos (by decide)];refine wpAny_bind (HT.uC hs pl pu ?_);rw [hlen,hw.1,hw.2];show wpAny _ _ (if (((0:Nat):Int)==0&&(1:Int)==1&&(xs.length-0)==xs.length)=true then _ else _) _ _ s;rw [if_pos (by simp)];have hTa:s.TypeIs (.ref a) "tuple":=ht.typeIs;have fin:EP X pins O Q (.ref a) s:=⟨.ref a,H,I,rfl,q⟩;unfold Builtin.Tuple.tupleIsExact;refine wpAny_bind (wpAny_bind (wpAny_typeOf hTa (wpAny_pure ?_)));rw [if_pos (by decide)];exact wpAny_bind (wpAny_rule (wpAny_pure ⟨_,rfl,wpAny_pure fin⟩))
end
end L2
namespace Dd
open PySem.Spec L2
section
variable {mg:Gm}{H H' H1 H2:Hp}{Y Y' Y1 Y2:List Addr}{s s' s1 s2:Sto}
structure Kp(H H':Hp):Prop where
 k:∀ b o,H b=some o->(∀ vs,o≠.lst vs)->(∀ kvs,o≠.dT kvs)->H' b=some o
 l:∀ a,IsL H a->IsL H' a
 c:∀ a,IsC H a->IsC H' a
mutual
theorem Den.gen(k:Kp H H')(hi:∀ (l:Nat) a,Y[l]? = some a->Y'[l]? = some a):∀ {d:D}{v:V},Den mg H Y d v->Den mg H' Y' d v
 | .non,_,h=>by simpa [Den] using h | .bl _,_,h=>by simpa [Den] using h | .int _,_,h=>by simpa [Den] using h | .str _,_,h=>by simpa [Den] using h | .tup ds,v,h=>by
  simp only [Den] at h ⊢;obtain ⟨a,vs,e,h1,h2⟩:=h;exact ⟨a,vs,e,k.k a _ h1 (by intro vs z;cases z) (by intro vs z;cases z),zu.gen k hi h2⟩ | .lst ds,v,h=>by
  simp only [Den] at h ⊢;obtain ⟨a,o,vs,e,h1,h2⟩:=h;exact ⟨a,o,vs,e,k.k a _ h1 (by intro vs z;cases z) (by intro vs z;cases z),zu.gen k hi h2⟩ | .dct,v,h=>by
  simp only [Den] at h ⊢;obtain ⟨a,e,h1⟩:=h;exact ⟨a,e,k.k a _ h1 (by intro vs z;cases z) (by intro vs z;cases z)⟩ | .loc l,v,h=>by
  simp only [Den] at h ⊢;obtain ⟨a,e,h1,q⟩:=h;exact ⟨a,e,hi l a h1,k.l a q⟩ | .dlo l,v,h=>by
  simp only [Den] at h ⊢;obtain ⟨a,e,h1,q⟩:=h;exact ⟨a,e,hi l a h1,k.c a q⟩ | .fn _,_,h=>by simpa [Den] using h | .exc x,v,h=>by
  simp only [Den] at h ⊢;obtain ⟨a,C,e,h1,h2⟩:=h;exact ⟨a,C,e,h1,k.k a _ h2 (by intro vs z;cases z) (by intro vs z;cases z)⟩ | .scr ds,v,h=>by
  simp only [Den] at h ⊢;obtain ⟨a,vs,e,h1,h2⟩:=h;exact ⟨a,vs,e,h1.imp (fun ⟨o,h1⟩=>⟨o,k.k a _ h1 (by intro vs z;cases z) (by intro vs z;cases z)⟩) id,zu.gen k hi h2⟩
theorem zu.gen(k:Kp H H')(hi:∀ (l:Nat) a,Y[l]? = some a->Y'[l]? = some a):∀ {ds:List D}{vs:List V},zu mg H Y ds vs->zu mg H' Y' ds vs
 | [],_,h=>by simpa [zu] using h | d::ds,vs,h=>by
  simp only [zu] at h ⊢;obtain ⟨v,r,e,h1,h2⟩:=h;exact ⟨v,r,e,Den.gen k hi h1,zu.gen k hi h2⟩
end
theorem z1q{p:Addr}{o:HO}(hp:H p=none):∀ b u,H b=some u->upd H p o b=some u:=fun b u h=>by rw [zC (yo h hp)];exact h
theorem Kp.new{p:Addr}{o:HO}(hp:H p=none):Kp H (upd H p o):=⟨fun b u h _ _=>z1q hp b u h,fun a ⟨vs,e⟩=>⟨vs,z1q hp a _ e⟩,fun a ⟨vs,e⟩=>⟨vs,z1q hp a _ e⟩⟩
theorem Kp.putL{a:Addr}{vs:List V}(h:IsL H a):Kp H (upd H a (.lst vs)):=by
 obtain ⟨ws,e⟩:=h;refine ⟨fun b o q n1 n2=>?_,fun b ⟨us,q⟩=>?_,fun b ⟨us,q⟩=>?_⟩;·rw [zC (fun z=>by subst z;rw [e] at q;exact n1 ws (Option.some.inj q).symm)];exact q
 ·by_cases z:b=a;·subst z;exact ⟨vs,yy⟩
  ·exact ⟨us,by rw [zC z];exact q⟩
 ·rw [IsC,zC (fun z=>by subst z;rw [e] at q;cases q)];exact ⟨us,q⟩
theorem vY.gen{xs:List D}{a:Addr}(k:Kp H H')(hi:∀ (l:Nat) a,Y[l]? = some a->Y'[l]? = some a)(e:H' a=H a)(h:vY mg H Y xs a):vY mg H' Y' xs a:=by
 rcases h with ⟨vs,h1,h2⟩ | ⟨kvs,h1,h2⟩;·exact .inl ⟨vs,e.trans h1,h2.gen k hi⟩
 ·exact .inr ⟨kvs,e.trans h1,h2⟩
theorem vY.ne{xs:List D}{a p:Addr}(h:vY mg H Y xs a)(hp:H p=none):a≠p:=by
 rintro rfl;rcases h.kind with ⟨_,e⟩ | ⟨_,e⟩<;>rw [hp] at e<;>cases e
theorem Rep.notin{p:Addr}(r:Rep mg H Y s)(hp:H p=none):p∉Y:=fun z=>by rcases r.mt p z with ⟨_,e⟩ | ⟨_,e⟩<;>rw [hp] at e<;>cases e
theorem xH.lay{p:Addr}{o:HO}(r:Rep mg H Y s)(hp:H p=none)(ho:∀ vs,o≠.lst vs):xH mg H Y (upd H p o) Y s:= ⟨⟨r.len,r.nd,fun l xs h=>let ⟨a,h1,h2⟩:=r.cell l xs h;⟨a,h1,h2.gen (.new hp) (fun _ _ q=>q) (zC (h2.ne hp))⟩,r.flat⟩,List.prefix_refl _,fun b u h _=>z1q hp b u h,fun a h1 h2=>absurd h1 h2,fun a ha=>(r.mt a ha).imp (fun h=>⟨h,(Kp.new hp).l a h⟩) fun h=>⟨h,(Kp.new hp).c a h⟩⟩
theorem xH.layC{p:Addr}{o:HO}{xs:List D}(r:Rep mg H Y s)(hp:H p=none)(hc:vY mg (upd H p o) (Y++[p]) xs p)(hf:D.flat.flats xs=true):xH mg H Y (upd H p o) (Y++[p]) (s++[xs]):=by
 have pn:p∉Y:=r.notin hp;have hi:∀ (l:Nat) a,Y[l]? = some a->(Y++[p])[l]? = some a:=fun l a h=>by rw [List.getElem?_append_left (List.getElem?_eq_some_iff.mp h).1];exact h
 refine ⟨⟨by simp [r.len],?_,fun l ys h=>?_,fun ys h=>?_⟩,List.prefix_append _ _,fun b u h _=>z1q hp b u h,fun a h1 h2=>?_,fun a ha=>(r.mt a ha).imp (fun h=>⟨h,(Kp.new hp).l a h⟩) fun h=>⟨h,(Kp.new hp).c a h⟩⟩
 ·rw [List.nodup_append];exact ⟨r.nd,by simp,fun a ha b hb=>by
   have:b=p:=by simpa using hb
   subst this;exact fun z=>pn (z ▸ ha)⟩
 ·by_cases hl:l<s.length
  ·rw [List.getElem?_append_left hl] at h;obtain ⟨a,h1,h2⟩:=r.cell l ys h;exact ⟨a,hi l a h1,h2.gen (.new hp) hi (zC (h2.ne hp))⟩
  ·have h0:l=s.length:=by
    have:=(List.getElem?_eq_some_iff.mp h).1;simp at this;omega
   subst h0;simp at h;subst h;exact ⟨p,by rw [<- r.len];simp,hc⟩
 ·rcases List.mem_append.mp h with h | h;·exact r.flat ys h
  ·have:ys=xs:=by simpa using h
   rw [this];exact hf
 ·rcases List.mem_append.mp h1 with h | h;·exact absurd h h2
  ·have:a=p:=by simpa using h
   rw [this];exact hp
theorem xH.layL{p:Addr}{xs:List D}{vs:List V}(r:Rep mg H Y s)(hp:H p=none)(hd:zu mg H Y xs vs)(hf:D.flat.flats xs=true):xH mg H Y (upd H p (.lst vs)) (Y++[p]) (s++[xs]):= xH.layC r hp (.inl ⟨vs,yy,hd.gen (.new hp) fun l a h=>by rw [List.getElem?_append_left (List.getElem?_eq_some_iff.mp h).1];exact h⟩) hf
theorem xH.putC{l:Nat}{a:Addr}{o:HO}{xs:List D}(r:Rep mg H Y s)(ha:Y[l]? = some a)(k:Kp H (upd H a o))(hc:vY mg (upd H a o) Y xs a)(hf:D.flat.flats xs=true):xH mg H Y (upd H a o) Y (s.set l xs):=by
 have hai:a∈Y:=List.mem_of_getElem? ha;have hll:l<s.length:=by rw [<- r.len];exact (List.getElem?_eq_some_iff.mp ha).1
 refine ⟨⟨by simp [r.len],r.nd,fun j ys h=>?_,fun ys h=>?_⟩,List.prefix_refl _,fun b u h hn=>?_,fun a h1 h2=>absurd h1 h2,fun b hb=>(r.mt b hb).imp (fun h=>⟨h,k.l b h⟩) fun h=>⟨h,k.c b h⟩⟩
 ·by_cases hj:l=j
  ·subst hj;rw [List.getElem?_set_self hll] at h;cases h;exact ⟨a,ha,hc⟩
  ·rw [List.getElem?_set_ne hj] at h;obtain ⟨b,h1,h2⟩:=r.cell j ys h;refine ⟨b,h1,h2.gen k (fun _ _ q=>q) (zC ?_)⟩;rintro rfl;have il:l<Y.length:=(List.getElem?_eq_some_iff.mp ha).1;have ij:j<Y.length:=(List.getElem?_eq_some_iff.mp h1).1;exact hj ((List.getElem_inj r.nd).mp (((List.getElem?_eq_some_iff.mp ha).2).trans ((List.getElem?_eq_some_iff.mp h1).2).symm))
 ·rcases List.mem_or_eq_of_mem_set h with h | h;·exact r.flat ys h
  ·rw [h];exact hf
 ·rw [zC (fun z=>by subst z;exact hn hai)];exact h
theorem xH.put{l:Nat}{a:Addr}{xs:List D}{vs:List V}(r:Rep mg H Y s)(ha:Y[l]? = some a)(ka:IsL H a)(hd:zu mg H Y xs vs)(hf:D.flat.flats xs=true):xH mg H Y (upd H a (.lst vs)) Y (s.set l xs):= xH.putC r ha (.putL ka) (.inl ⟨vs,yy,hd.gen (.putL ka) fun _ _ q=>q⟩) hf
def listOf(s:Sto):D->Option (List D)
 | .lst xs=>some xs | .loc l=>s[l]? | _=>none
def zP(s:Sto):D->Option (List D)
 | .tup xs=>some xs | .lst xs=>some xs | .scr xs=>some xs | .loc l=>s[l]? | _=>none
theorem zS{d:D}{xs:List D}{v:V}(r:Rep mg H Y s)(h:listOf s d=some xs)(dn:Den mg H Y d v):∃ a vs,v=.ref a/\Rd H a (.lst vs)/\zu mg H Y xs vs:=by cases d with
 | lst ys=>
  simp only [listOf,Option.some.injEq] at h;subst h;simp only [Den] at dn;obtain ⟨a,o,vs,e,h1,h2⟩:=dn;exact ⟨a,vs,e,.inr ⟨o,h1⟩,h2⟩ | loc l=>
  simp only [Den] at dn;obtain ⟨a,e,h1,k⟩:=dn;obtain ⟨vs,h3,h4⟩:=r.at_ h h1 k;exact ⟨a,vs,e,.inl h3,h4⟩ | _=>simp [listOf] at h
theorem zbb{xs:List D}{v:V}(dn:Den mg H Y (.scr xs) v):∃ a vs,v=.ref a/\SqL mg.K H a vs/\zu mg H Y xs vs:=by
 simp only [Den] at dn;obtain ⟨a,vs,e,h1,h2⟩:=dn;exact ⟨a,vs,e,h1.elim (fun ⟨o,h⟩=>.inl (.inr ⟨o,h⟩)) .inr,h2⟩
theorem ug{K:W.Frag}{d:D}{xs:List D}{v:V}(r:Rep mg H Y s)(h:zP s d=some xs)(dn:Den mg H Y d v)(hK:mg.K=K:=by rfl):∃ a vs,v=.ref a/\(SqL K H a vs\/SqT K H a vs)/\zu mg H Y xs vs:=by cases d with
 | tup ys=>
  simp only [zP,Option.some.injEq] at h;subst h;simp only [Den] at dn;obtain ⟨a,vs,e,h1,h2⟩:=dn;exact ⟨a,vs,e,.inr (.inl (.inl h1)),h2⟩ | lst ys=>
  obtain ⟨a,vs,e,h1,h2⟩:=zS (d:=.lst ys) r h dn;exact ⟨a,vs,e,.inl (.inl h1),h2⟩ | scr ys=>
  simp only [zP,Option.some.injEq] at h;subst h;subst hK;obtain ⟨a,vs,e,h1,h2⟩:=zbb dn;exact ⟨a,vs,e,.inl h1,h2⟩ | loc l=>
  obtain ⟨a,vs,e,h1,h2⟩:=zS (d:=.loc l) r h dn;exact ⟨a,vs,e,.inl (.inl h1),h2⟩ | _=>simp [zP] at h
theorem qK{K:W.Frag}{xs:List D}{v:V}(dn:Den mg H Y (.tup xs) v):∃ a vs,v=.ref a/\SqT K H a vs/\zu mg H Y xs vs:=by
 simp only [Den] at dn;obtain ⟨a,vs,e,h1,h2⟩:=dn;exact ⟨a,vs,e,.inl (.inl h1),h2⟩
end
def cap:Nat:=100000
theorem qM{n:Nat}(h:n<=cap):n<=sizeLine:=Nat.le_trans h (by decide)
theorem zeq{n:Nat}(h:n<cap):n<sizeLine:=Nat.lt_of_lt_of_le h (by decide)
def BIG:Nat:=2 ^ 4096
def wl:D->D->Sto->R D
 | .int i,.int j,s=>.ok (.int (i+j)) s | .tup a,.tup b,s=>if a.length+b.length<=cap then .ok (.tup (a++b)) s else .no | x,y,s=>match listOf s x,listOf s y with
  | some a,some b=>if a.length+b.length<=cap then .ok (.lst (a++b)) s else .no | _,_=>.no
section
variable {X:Cx}{E:XK}
theorem zW{mg:Gm}{H:Hp}{Y:List Addr}{i:Int}{v:V}(h:Den mg H Y (.int i) v):v=.int i:=by simpa [Den] using h
theorem qO{mg:Gm}{H:Hp}{Y:List Addr}{i:Bool}{v:V}(h:Den mg H Y (.bl i) v):v=.bl i:=by simpa [Den] using h
theorem z5v{mg:Gm}{H:Hp}{Y:List Addr}{i:Str}{v:V}(h:Den mg H Y (.str i) v):v=.str i:=by simpa [Den] using h
theorem yk{mg:Gm}{H:Hp}{Y:List Addr}{i:Int}:Den mg H Y (.int i) (.int i):=by simp [Den]
theorem xl{mg:Gm}{H:Hp}{Y:List Addr}{i:Bool}:Den mg H Y (.bl i) (.bl i):=by simp [Den]
theorem qG{mg:Gm}{H:Hp}{Y:List Addr}{s:Sto}{xs:List D}{vs:List V}{Q:VK}(r:Rep mg H Y s)(h:okR mg E H Y (Den mg) (.ok (.lst xs) s) Q)(hd:zu mg H Y xs vs):∀ p,H p=none->z8G Q (.ref p) (upd H p (.lst vs)):=fun p hp=>by
 refine ⟨p,vs,rfl,yy,fun o=>?_⟩;rw [zbU];have stp:=xH.lay (o:=.frz o (.lst vs)) r hp (by intro _ z;cases z);refine h _ _ _ stp ?_;simp only [Den];exact ⟨p,o,vs,rfl,yy,hd.mono stp⟩
theorem z25{mg:Gm}{H:Hp}{Y:List Addr}{s:Sto}{xs:List D}{vs:List V}{Q:VK}(r:Rep mg H Y s)(h:okR mg E H Y (Den mg) (.ok (.tup xs) s) Q)(hd:zu mg H Y xs vs):∀ p,H p=none->Q (.ref p) (upd H p (.tup vs)):=fun p hp=>by
 have stp:=xH.lay (o:=.tup vs) r hp (by intro _ z;cases z);refine h _ _ _ stp ?_;simp only [Den];exact ⟨p,vs,rfl,yy,hd.mono stp⟩
theorem wc:∃ r,OpR X (binaryOp .Add) r/\OpF X E r wl:=by
 refine ⟨_,zdX.or ((zaj).or ((zco).or (zcd.freeze))),?_⟩;intro H Y s d1 d2 v1 v2 Q r h1 h2 h;have lists:∀ a b,listOf s d1=some a->listOf s d2=some b->okR (gm X) E H Y (Den (gm X)) (if a.length+b.length<=cap then R.ok (D.lst (a++b)) s else .no) Q-> ∃ l b xs zs,v1=.ref l/\v2=.ref b/\Rd H l (.lst xs)/\Rd H b (.lst zs)/\xs.length+zs.length<=sizeLine/\∀ p,H p=none->z8G Q (.ref p) (upd H p (.lst (xs++zs))):=fun a b ha hb hq=>by
  obtain ⟨l,vs,e,q1,q2⟩:=zS r ha h1;obtain ⟨l',vs',e',q1',q2'⟩:=zS r hb h2;split at hq
  ·rename_i hl;exact ⟨l,l',vs,vs',e,e',q1,q1',by rw [q2.length,q2'.length];exact qM hl,qG r hq (q2.append q2')⟩
  ·exact hq.elim
 unfold wl at h;split at h
 ·rename_i i j;cases zW h1;cases zW h2;exact .inl ⟨i,j,rfl,rfl,h.here r yk⟩
 ·rename_i a b;obtain ⟨l,vs,rfl,q1,q2⟩:=qK (K:=X.K) h1;obtain ⟨l',vs',rfl,q1',q2'⟩:=qK (K:=X.K) h2;split at h
  ·rename_i hl;cases a with
   | nil=>
    simp only [zu] at q2;subst q2;exact .inr (.inl ⟨l,l',vs',rfl,rfl,q1,q1',h.here r h2⟩) | cons x a=>
    have ne:vs≠[]:=fun z=>by have:=q2.length;rw [z] at this;simp at this
    refine .inr (.inr (.inl ⟨l,l',vs,vs',rfl,rfl,q1,q1',ne,by rw [q2.length,q2'.length];exact qM hl,fun z=>?_,fun z=>z25 r h (q2.append q2')⟩));have eb:b=[]:=by
     have:=q2'.length;rw [z] at this;exact List.length_eq_zero_iff.mp this.symm
    subst eb;rw [List.append_nil] at h;exact h.here r h1
  ·exact h.elim
 ·split at h
  ·rename_i a b ha hb;exact .inr (.inr (.inr (lists a b ha hb h)))
  ·exact h.elim
end
def dII(g:Int->Int->R D):D->D->Sto->R D
 | .int i,.int j,s=>match g i j with | .ok d _=>.ok d s | _=>.no
 | _,_,_=>.no
def iOk(d:D):R D:=.ok d []
def z9D:D->D->Sto->R D:=dII fun i j=>iOk (.int (i-j))
def uh:D->D->Sto->R D:=dII fun i j=>if i.natAbs<BIG/\j.natAbs<BIG then iOk (.int (i*j)) else .no
def z4z:D->D->Sto->R D:=dII fun i j=>if 0<j/\j.natAbs<BIG then iOk (.int (i / j)) else .no
def z7g:D->D->Sto->R D:=dII fun i j=>if 0<j then iOk (.int (i % j)) else .no
def z62:D->D->Sto->R D:=dII fun i j=>if 0<=j/\j<=1000/\i.natAbs<1000 then iOk (.int (i ^ j.toNat)) else .no
def dLt:D->D->Sto->R D:=dII fun i j=>iOk (.bl (decide (i<j)))
def dLe:D->D->Sto->R D:=dII fun i j=>iOk (.bl (decide (i<=j)))
def dGt:D->D->Sto->R D:=dII fun i j=>iOk (.bl (decide (j<i)))
def dGe:D->D->Sto->R D:=dII fun i j=>iOk (.bl (decide (j<=i)))
section
variable {X:Cx}{E:XK}
theorem jx{g:Int->Int->R D}{r:R2}(h:∀ i j d t H Q,g i j=.ok d t->(∀ v,(∀ H Y,Den (gm X) H Y d v)->Q v H)->r (.int i) (.int j) H Q):OpF X E r (dII g):=by
 intro H Y s d1 d2 v1 v2 Q rp h1 h2 hq;unfold dII at hq;split at hq
 ·rename_i i j;cases zW h1;cases zW h2;split at hq
  ·rename_i d t e;exact h i j d t H Q e fun v hv=>hq.here rp (hv H Y)
  ·exact hq.elim
 ·exact hq.elim
theorem zaM:∃ r,OpR X (binaryOp .Sub) r/\OpF X E r z9D:=⟨_,zdS,jx fun i j d t H Q e q=>by
 simp only [iOk,R.ok.injEq] at e;exact ⟨i,j,rfl,rfl,q _ (by intro H Y;rw [<- e.1];exact yk)⟩⟩
theorem z6P{i:Int}(h:i.natAbs<BIG):Builtin.Int.intBits i<=2 ^ 20:=by
 have q:Builtin.Int.intBits i<=4096:=(PySem.intBits_le_iff (m:=4096)).mpr h;omega
theorem zc5:OpR X (binaryOp .Mult) (rI (fun i j=>i.natAbs<BIG/\j.natAbs<BIG) fun i j=>.int (i*j)):=opI fun _ _ _ _ _ _ _ hc q=>mul_int q (IntMulOk.of_bits (z6P hc.1) (z6P hc.2))
theorem z22:∃ r,OpR X (binaryOp .Mult) r/\OpF X E r uh:=⟨_,zc5,jx fun i j d t H Q e q=>by
 split at e
 ·rename_i hc;simp only [iOk,R.ok.injEq] at e;exact ⟨i,j,rfl,rfl,hc,q _ (by intro H Y;rw [<- e.1];exact yk)⟩
 ·cases e⟩
theorem zdd{j:Int}(h:j.natAbs<BIG):j.natAbs.log2<9000:=by
 by_cases h0:j.natAbs=0;·rw [h0];decide +kernel
 ·have:j.natAbs.log2<4096:=(Nat.log2_lt h0).mpr h;omega
theorem z9W:OpR X (binaryOp .FloorDiv) (rI (fun _ j=>0<j/\j.natAbs<BIG) fun i j=>.int (i / j)):=opI fun i j _ _ _ _ _ hc q=>by
 refine floordiv_int (by omega) ?_ (.inl (PyProof.noPylong_of_log2 (zdd hc.2)));rw [Int.fdiv_eq_ediv_of_nonneg _ (by omega)];exact q
theorem z9n:∃ r,OpR X (binaryOp .FloorDiv) r/\OpF X E r z4z:=⟨_,z9W,jx fun i j d t H Q e q=>by
 split at e
 ·rename_i hc;simp only [iOk,R.ok.injEq] at e;exact ⟨i,j,rfl,rfl,hc,q _ (by intro H Y;rw [<- e.1];exact yk)⟩
 ·cases e⟩
theorem z8E:∃ r,OpR X (binaryOp .Mod) r/\OpF X E r z7g:=⟨_,zes,jx fun i j d t H Q e q=>by
 split at e
 ·rename_i hc;simp only [iOk,R.ok.injEq] at e;exact ⟨i,j,rfl,rfl,hc,q _ (by intro H Y;rw [<- e.1];exact yk)⟩
 ·cases e⟩
theorem zao:∃ r,OpR X (binaryOp .Pow) r/\OpF X E r z62:=⟨_,zfh,jx fun i j d t H Q e q=>by
 split at e
 ·rename_i hc;simp only [iOk,R.ok.injEq] at e;exact ⟨i,j,rfl,rfl,⟨hc.1,by omega,by omega⟩,q _ (by intro H Y;rw [<- e.1];exact yk)⟩
 ·cases e⟩
theorem zgr:∃ r,OpR X (compareOp .Lt) r/\OpF X E r dLt:=⟨_,zgw,jx fun i j d t H Q e q=>by
 simp only [iOk,R.ok.injEq] at e;exact ⟨i,j,rfl,rfl,q _ (by intro H Y;rw [<- e.1];exact xl)⟩⟩
theorem zeL:∃ r,OpR X (compareOp .LtE) r/\OpF X E r dLe:=⟨_,zgo,jx fun i j d t H Q e q=>by
 simp only [iOk,R.ok.injEq] at e;exact ⟨i,j,rfl,rfl,q _ (by intro H Y;rw [<- e.1];exact xl)⟩⟩
theorem zdp:∃ r,OpR X (compareOp .Gt) r/\OpF X E r dGt:=⟨_,zh8,jx fun i j d t H Q e q=>by
 simp only [iOk,R.ok.injEq] at e;exact ⟨i,j,rfl,rfl,q _ (by intro H Y;rw [<- e.1];exact xl)⟩⟩
theorem zhI:∃ r,OpR X (compareOp .GtE) r/\OpF X E r dGe:=⟨_,zhl,jx fun i j d t H Q e q=>by
 simp only [iOk,R.ok.injEq] at e;exact ⟨i,j,rfl,rfl,q _ (by intro H Y;rw [<- e.1];exact xl)⟩⟩
end
mutual
def xS:D->PyData
 | .non=>.none | .bl b=>.bool b | .int i=>.int i | .str x=>.str x | .tup xs=>.tuple (toPys xs) | .lst xs=>.list (toPys xs) | _=>.dict []
def toPys:List D->List PyData
 | []=>[] | d::ds=>xS d::toPys ds
end
def eqD(a b:D):Bool:=PyData.eqv (xS a) (xS b)
def z3j(d:D):Bool:=SeqAt.shaped (xS d)
def dEq(x y:D)(s:Sto):R D:=if z3j x=true/\z3j y=true then .ok (.bl (eqD x y)) s else .no
def dNe(x y:D)(s:Sto):R D:=if z3j x=true/\z3j y=true then .ok (.bl (!eqD x y)) s else .no
section
variable {P:Program}{w:World}{mg:Gm}{H:Hp}{Y:List Addr}{h:Heap}
mutual
theorem Den.reads(ok:HOk P w H h):∀ {d:D}{v:V}{u:Value},PyData.canLay0 (xS d)=true->Den mg H Y d v->xo v u->∃ as,Reads h u (xS d) as
 | .non,_,_,_,dn,r=>by simp only [Den] at dn;subst dn;cases r;exact ⟨_,by simpa [xS] using Reads.none⟩ | .bl b,_,_,_,dn,r=>by simp only [Den] at dn;subst dn;cases r;exact ⟨_,by simpa [xS] using Reads.bool b⟩ | .int i,_,_,_,dn,r=>by simp only [Den] at dn;subst dn;obtain ⟨t,rfl⟩:=r;exact ⟨_,by simpa [xS] using Reads.int i t⟩ | .str x,_,_,_,dn,r=>by simp only [Den] at dn;subst dn;obtain ⟨t,rfl⟩:=r;exact ⟨_,by simpa [xS] using Reads.str x t⟩ | .tup ds,_,_,c,dn,r=>by
  simp only [Den] at dn;obtain ⟨a,vs,rfl,h1,h2⟩:=dn;cases r;obtain ⟨_,its,rv,o,e,hc,_,n,hd⟩:=ok a _ h1;obtain ⟨as,q⟩:=zu.reads ok (by simpa [xS,PyData.canLay0] using c) h2 rv;rw [xS];exact ⟨as,Reads.tuple e hc hd (by simpa using q)⟩ | .lst ds,_,_,c,dn,r=>by
  simp only [Den] at dn;obtain ⟨a,o,vs,rfl,h1,h2⟩:=dn;cases r;obtain ⟨_,_,its,n,rv,e⟩:=ok a _ h1;obtain ⟨as,q⟩:=zu.reads ok (by simpa [xS,PyData.canLay0] using c) h2 rv;rw [xS];exact ⟨_,Reads.list e rfl rfl (by simpa using q)⟩ | .dct,_,_,c,_,_=>by simp [xS,PyData.canLay0] at c | .loc _,_,_,c,_,_=>by simp [xS,PyData.canLay0] at c | .fn _,_,_,c,_,_=>by simp [xS,PyData.canLay0] at c | .exc _,_,_,c,_,_=>by simp [xS,PyData.canLay0] at c
theorem zu.reads(ok:HOk P w H h):∀ {ds:List D}{vs:List V}{us:List Value},PyData.canLayAll0 (toPys ds)=true->zu mg H Y ds vs->yG vs us->∃ as,ReadsAll h us (toPys ds) as
 | [],_,_,_,dn,r=>by simp only [zu] at dn;subst dn;cases r;exact ⟨_,by simpa [toPys] using ReadsAll.nil⟩ | d::ds,_,_,c,dn,r=>by
  simp only [zu] at dn;obtain ⟨v,vs,rfl,h1,h2⟩:=dn;simp only [toPys,PyData.canLayAll0,Bool.and_eq_true] at c;cases r with | cons r1 r2=>
   obtain ⟨as,q⟩:=Den.reads ok c.1 h1 r1;obtain ⟨bs,q'⟩:=zu.reads ok c.2 h2 r2;rw [toPys];exact ⟨_,ReadsAll.cons q q'⟩
end
end
section
variable {X:Cx}{E:XK}
def zhL(mg:Gm)(neg:Bool):R2:=fun x y H Q=>∃ Y d1 d2,Den mg H Y d1 x/\Den mg H Y d2 y/\z3j d1=true/\z3j d2=true/\Q (.bl (if neg then !eqD d1 d2 else eqD d1 d2)) H
theorem zfw(hu:X.A.units+64<cLine):OpR X (compareOp .Eq) (zhL (gm X) false):=by
 intro pins s O H x y v u Q I rx ry ⟨Y,d1,d2,h1,h2,p1,p2,q⟩;obtain ⟨as,ra⟩:=Den.reads I.hok (SeqAt.canLay_of_shaped p1) h1 rx;obtain ⟨bs,rb⟩:=Den.reads I.hok (SeqAt.canLay_of_shaped p2) h2 ry;exact SeqAt.compareEq_shaped ra rb p1 p2 hu ⟨.bl (eqD d1 d2),H,I,rfl,q⟩
theorem zf8(hu:X.A.units+64<cLine):OpR X (compareOp .NotEq) (zhL (gm X) true):=by
 intro pins s O H x y v u Q I rx ry ⟨Y,d1,d2,h1,h2,p1,p2,q⟩;obtain ⟨as,ra⟩:=Den.reads I.hok (SeqAt.canLay_of_shaped p1) h1 rx;obtain ⟨bs,rb⟩:=Den.reads I.hok (SeqAt.canLay_of_shaped p2) h2 ry;exact SeqAt.compareNe_shaped ra rb p1 p2 hu ⟨.bl (!eqD d1 d2),H,I,rfl,q⟩
theorem z1C(hu:X.A.units+64<cLine):∃ r,OpR X (compareOp .Eq) r/\OpF X E r dEq:=⟨_,zfw hu,fun H Y s d1 d2 v1 v2 Q r h1 h2 h=>by
 unfold dEq at h;split at h
 ·rename_i hc;exact ⟨Y,d1,d2,h1,h2,hc.1,hc.2,h.here r xl⟩
 ·exact h.elim⟩
theorem zaI(hu:X.A.units+64<cLine):∃ r,OpR X (compareOp .NotEq) r/\OpF X E r dNe:=⟨_,zf8 hu,fun H Y s d1 d2 v1 v2 Q r h1 h2 h=>by
 unfold dNe at h;split at h
 ·rename_i hc;exact ⟨Y,d1,d2,h1,h2,hc.1,hc.2,h.here r xl⟩
 ·exact h.elim⟩
def z28:D->Option V
 | .non=>some .non | .bl b=>some (.bl b) | .int i=>some (.int i) | .str x=>some (.str x) | _=>none
theorem z3v{mg:Gm}{H:Hp}{Y:List Addr}{d:D}{v w:V}(h:z28 d=some w)(dn:Den mg H Y d v):v=w/\z1S v=true:=by cases d<;>simp only [z28,Option.some.injEq,reduceCtorEq] at h<;>(simp only [Den] at dn;subst dn;subst h;exact ⟨rfl,rfl⟩)
def qU:List D->Option (List V)
 | []=>some [] | d::ds=>match z28 d,qU ds with | some v,some vs=>some (v::vs) | _,_=>none
theorem z2g{mg:Gm}{H:Hp}{Y:List Addr}:∀ {ds:List D}{vs ws:List V},qU ds=some ws->zu mg H Y ds vs->vs=ws/\vs.all z1S=true
 | [],_,_,h,dn=>by simp only [qU,Option.some.injEq] at h;simp only [zu] at dn;subst dn;subst h;exact ⟨rfl,rfl⟩ | d::ds,_,_,h,dn=>by
  simp only [zu] at dn;obtain ⟨v,vs,rfl,h1,h2⟩:=dn;simp only [qU] at h;split at h
  ·rename_i w ws e1 e2;cases h;obtain ⟨a1,a2⟩:=z3v e1 h1;obtain ⟨b1,b2⟩:=z2g e2 h2;exact ⟨by rw [a1,b1],by rw [List.all_cons,a2,b2];rfl⟩
  ·cases h
def z7J(neg:Bool)(x y:D)(s:Sto):R D:=match z28 x,(zP s y).bind qU with
 | some v,some vs=>.ok (.bl (if neg then !inV v vs else inV v vs)) s | _,_=>.no
theorem zet{neg:Bool}:OpF X E (rIn X.K neg) (z7J neg):=fun H Y s d1 d2 v1 v2 Q r h1 h2 h=>by
 unfold z7J at h;split at h
 ·rename_i v vs e1 e2;cases e3:zP s d2 with
  | none=>rw [e3] at e2;cases e2 | some xs=>
   rw [e3] at e2;obtain ⟨a,ws,rfl,q1,q2⟩:=ug (K:=X.K) r e3 h2;obtain ⟨b1,b2⟩:=z2g e2 q2;obtain ⟨a1,a2⟩:=z3v e1 h1;subst a1 b1;exact ⟨a,ws,rfl,q1,a2,b2,h.here r xl⟩
 ·exact h.elim
theorem zgS:∃ r,OpR X (compareOp .In) r/\OpF X E r (z7J false):=⟨_,z8n,zet⟩
def dIs:D->D->Sto->R D
 | .bl a,.bl b,s=>.ok (.bl (a==b)) s | .non,.non,s=>.ok (.bl true) s | .bl _,.non,s=>.ok (.bl false) s | .int _,.non,s=>.ok (.bl false) s | .str _,.non,s=>.ok (.bl false) s | .tup _,.non,s=>.ok (.bl false) s | .lst _,.non,s=>.ok (.bl false) s | _,_,_=>.no
theorem zej:OpR X (compareOp .Is) (fun x y H Q=>∃ a b,x=.bl a/\y=.bl b/\Q (.bl (a==b)) H):=by
 intro pins s O H x y v u Q I rx ry ⟨a,b,e1,e2,q⟩;subst e1 e2;cases rx;cases ry;exact is_bool ⟨.bl (a==b),H,I,rfl,q⟩
theorem zhO:∃ r,OpR X (compareOp .Is) r/\OpF X E r dIs:=⟨_,zej.or zed,fun H Y s d1 d2 v1 v2 Q r h1 h2 h=>by
 unfold dIs at h;split at h
 ·cases qO h1;cases qO h2;exact .inl ⟨_,_,rfl,rfl,h.here r xl⟩
 ·simp only [Den] at h1 h2;subst h1 h2;exact .inr ⟨rfl,by have:=h.here r xl;simpa using this⟩
 ·simp only [Den] at h1 h2;subst h1 h2;exact .inr ⟨rfl,by have:=h.here r xl;simpa using this⟩
 ·simp only [Den] at h1 h2;subst h1 h2;exact .inr ⟨rfl,by have:=h.here r xl;simpa using this⟩
 ·simp only [Den] at h1 h2;subst h1 h2;exact .inr ⟨rfl,by have:=h.here r xl;simpa using this⟩
 ·simp only [Den] at h1 h2;obtain ⟨a,vs,rfl,_⟩:=h1;subst h2;exact .inr ⟨rfl,by have:=h.here r xl;simpa using this⟩
 ·simp only [Den] at h1 h2;obtain ⟨a,o,vs,rfl,_⟩:=h1;subst h2;exact .inr ⟨rfl,by have:=h.here r xl;simpa using this⟩
 ·exact h.elim⟩
def dIx(x y:D)(s:Sto):R D:=match y,zP s x with
 | .int i,some xs=>match atI xs i with | some d=>.ok d s | none=>.no
 | _,_=>.no
theorem zaH{mg:Gm}{H:Hp}{Y:List Addr}{xs:List D}{vs:List V}{i:Int}{d:D}(h:zu mg H Y xs vs)(e:atI xs i=some d):∃ v,atI vs i=some v/\Den mg H Y d v:=by
 unfold atI at e ⊢;rw [h.length];cases q:ixN xs.length i with
 | none=>rw [q] at e;cases e | some j=>
  rw [q] at e;exact h.get e
theorem zhX:∃ r,IxR X r/\OpF X E r dIx:=⟨_,zc1.or zdQ,fun H Y s d1 d2 v1 v2 Q r h1 h2 h=>by
 unfold dIx at h;split at h
 ·rename_i i xs e;split at h
  ·rename_i d e2;cases zW h2;obtain ⟨a,vs,rfl,q1,q2⟩:=ug (K:=X.K) r e h1;obtain ⟨v,e3,e4⟩:=zaH q2 e2;rcases q1 with q1 | q1;·exact .inl ⟨a,vs,i,v,rfl,rfl,q1,e3,h.here r e4⟩
   ·exact .inr ⟨a,vs,i,v,rfl,rfl,q1,e3,h.here r e4⟩
  ·exact h.elim
 ·exact h.elim⟩
end
section
variable {X:Cx}{E:XK}{e a b c:Expr}{es:List Expr}{pos:Pos}
theorem zY{op:Operator}{fo:D->D->Sto->R D}{fa fb:FE}(ho:∃ r,OpR X (binaryOp op) r/\OpF X E r fo)(ha:RE X E a fa)(hb:RE X E b fb):RE X E (.BinOp a op b pos) (eOp fo fa fb):=let ⟨_,h⟩:=ho;zi1 h ha hb
theorem vT{op:CmpOp}{fo:D->D->Sto->R D}{fa fb:FE}(ho:∃ r,OpR X (compareOp op) r/\OpF X E r fo)(ha:RE X E a fa)(hb:RE X E b fb)(hm:behindInMarks op b=false:=by first | exact zb4 _ | rfl):RE X E (.Compare a [op] [b] pos) (eOp fo fa fb):=let ⟨_,h⟩:=ho;zgc h ha hb hm
def tOf(f:FE):FT:=fun ρ s=>(f ρ s).bind fun d s1=>match d with | .bl k=>.ok k s1 | _=>.no
theorem z2x{f:FE}{O:L2.St}{H:Hp}{Q:Bool->Hp->Prop}(h:tT (gm X) E (tOf f) O H Q):zd1 (tE (gm X) E f) O H Q:=by
 obtain ⟨Y,ρ,s,r,en,h⟩:=h;refine yL (k:=fun ρ d s1=>match d with | .bl k=>.ok k s1 | _=>.no) r en h _ fun v H1 Y1 s1 d r1 en1 dn stp h1=>?_;cases d with
 | bl k=>
  cases qO dn;exact ⟨k,rfl,h1.here (b:=k) r1 rfl⟩ | _=>exact h1.elim
theorem zO{op:CmpOp}{fo:D->D->Sto->R D}{fa fb:FE}(ho:∃ r,OpR X (compareOp op) r/\OpF X E r fo)(ha:RE X E a fa)(hb:RE X E b fb)(hm:behindInMarks op b=false:=by first | exact zb4 _ | rfl):RT X E (.Compare a [op] [b] pos) (tOf (eOp fo fa fb)):=by
 obtain ⟨r,h1,h2⟩:=ho;exact z6p (zdk h1 ha hb hm) fun O H Q h=>by
  have q:=z2x h;exact z66 h2 q
def z2t(fo fo':D->D->Sto->R D)(fa fb fc:FE):FE:=fun ρ s=>(fa ρ s).bind fun x s1=>(fb ρ s1).bind fun y s2=>(fo x y s2).bind fun z s3=>match z with
 | .bl true=>(fc ρ s3).bind fun w s4=>fo' y w s4 | .bl false=>.ok (.bl false) s3 | _=>.no
theorem z4j{r r':R2}{fo fo':D->D->Sto->R D}{fa fb fc:FE}(ho:OpF X E r fo)(ho':OpF X E r' fo'){O:L2.St}{H:Hp}{Q:VK}(h:tE (gm X) E (z2t fo fo' fa fb fc) O H Q):z7Z r r' (tE (gm X) E fa) (tE (gm X) E fb) (tE (gm X) E fc) O H Q:=by
 obtain ⟨Y,ρ,s,rp,en,h⟩:=h;refine yL (k:=fun ρ x s1=>(fb ρ s1).bind fun y s2=>(fo x y s2).bind fun z s3=>match z with
  | .bl true=>(fc ρ s3).bind fun w s4=>fo' y w s4 | .bl false=>.ok (.bl false) s3 | _=>.no) rp en h _ fun v H1 Y1 s1 d r1 en1 dn stp h1=>?_;refine yL (k:=fun ρ y s2=>(fo d y s2).bind fun z s3=>match z with
  | .bl true=>(fc ρ s3).bind fun w s4=>fo' y w s4 | .bl false=>.ok (.bl false) s3 | _=>.no) r1 en1 h1 _ fun v2 H2 Y2 s2 d2 r2 en2 dn2 stp2 h2=>?_;refine ho H2 Y2 s2 d d2 v v2 _ r2 (dn.mono stp2) dn2 ((okR.bind (Dn:=Den (gm X)) h2).imp fun v3 H3 ⟨Y3,s3,d3,stp3,dn3,h3⟩=>?_);cases d3 with
 | bl k=>
  cases qO dn3;refine ⟨k,rfl,?_⟩;cases k with
  | true=>
   rw [if_pos rfl];refine yL (k:=fun ρ w s4=>fo' d2 w s4) stp3.rep (en2.mono stp3) h3 _ fun v4 H4 Y4 s4 d4 r4 en4 dn4 stp4 h4=>?_;exact ho' H4 Y4 s4 d2 d4 v2 v4 Q r4 ((dn2.mono stp3).mono stp4) dn4 h4 | false=>
   rw [if_neg (by decide)];exact okR.here (b:=V.bl false) h3 stp3.rep xl
 | _=>exact h3.elim
theorem zbM{op op':CmpOp}{fo fo':D->D->Sto->R D}{fa fb fc:FE}(ho:∃ r,OpR X (compareOp op) r/\OpF X E r fo)(ho':∃ r,OpR X (compareOp op') r/\OpF X E r fo')(ha:RE X E a fa)(hb:RE X E b fb)(hc:RE X E c fc) (hm:lastMarks [op,op'] [b,c]=false:=by with_unfolding_all rfl):RE X E (.Compare a [op,op'] [b,c] pos) (z2t fo fo' fa fb fc):=by
 obtain ⟨r,h1,h2⟩:=ho;obtain ⟨r',h1',h2'⟩:=ho';exact zX (z9Q h1 h1' ha hb hc hm) fun O H Q h=>z4j h2 h2' h
def z3M(fa fb:FE):FE:=fun ρ s=>(fa ρ s).bind fun x s1=>match x with | .bl true=>fb ρ s1 | .bl false=>.ok (.bl false) s1 | _=>.no
def eOr(fa fb:FE):FE:=fun ρ s=>(fa ρ s).bind fun x s1=>match x with | .bl false=>fb ρ s1 | .bl true=>.ok (.bl true) s1 | _=>.no
def zds(fa:FE):FE:=fun ρ s=>(fa ρ s).bind fun x s1=>match x with | .bl k=>.ok (.bl (!k)) s1 | _=>.no
variable {z08:List Expr}
theorem z0B{op:BoolOp}{f:FE}(h:RE X E a f):RE X E (.BoolOp op [a] pos) f:=zeJ h
theorem z1f{fa fb:FE}(ha:RE X E a fa)(hb:RE X E (.BoolOp .And (b::z08) pos) fb):RE X E (.BoolOp .And (a::b::z08) pos) (z3M fa fb):= zX (zfj ha hb) fun O H Q ⟨Y,ρ,s,r,en,h⟩=>by
  refine yL (k:=fun ρ x s1=>match x with | .bl true=>fb ρ s1 | .bl false=>.ok (.bl false) s1 | _=>.no) r en h _ fun v H1 Y1 s1 d r1 en1 dn stp h1=>?_;cases d with
  | bl k=>
   cases qO dn;refine ⟨k,rfl,?_⟩;cases k with
   | true=>rw [if_pos rfl];exact ⟨Y1,ρ,s1,r1,en1,h1⟩ | false=>rw [if_neg (by decide)];exact okR.here (b:=V.bl false) h1 r1 xl
  | _=>exact h1.elim
theorem zcC{fa:FE}(ha:RE X E a fa):RE X E (.UnaryOp .Not a pos) (zds fa):= zX (zdI ha) fun O H Q ⟨Y,ρ,s,r,en,h⟩=>by
  refine yL (k:=fun ρ x s1=>match x with | .bl k=>R.ok (D.bl (!k)) s1 | _=>.no) r en h _ fun v H1 Y1 s1 d r1 en1 dn stp h1=>?_;cases d with
  | bl k=>
   cases qO dn;exact ⟨k,rfl,okR.here (b:=V.bl (!k)) h1 r1 xl⟩ | _=>exact h1.elim
def zfb(fa fb:FT):FT:=fun ρ s=>(fa ρ s).bind fun x s1=>if x=true then fb ρ s1 else .ok false s1
def fOr(fa fb:FT):FT:=fun ρ s=>(fa ρ s).bind fun x s1=>if x=true then .ok true s1 else fb ρ s1
def z76(fa:FT):FT:=fun ρ s=>(fa ρ s).bind fun x s1=>.ok (!x) s1
def RW(X:Cx)(E:XK)(e:Expr)(f:FT):Prop:=PW X e (tT (gm X) E f)
theorem RW.rt{f:FT}(h:RW X E e f):RT X E e f:=PW.pt h
theorem zaU{t t':TT}(h:PW X e t)(i:∀ O H Q,t' O H Q->t O H Q):PW X e t':=fun wh pins s O H Q I q=>h wh pins s O H Q I (i O H Q q)
theorem zaX{f:FT}(h:RT X E a f):RW X E (.BoolOp .And [a] pos) f:=zcP h
theorem zaT{f:FT}(h:RT X E a f):RW X E (.BoolOp .Or [a] pos) f:=zeC h
theorem w_and{fa fb:FT}(ha:RT X E a fa)(hb:RW X E (.BoolOp .And (b::z08) pos) fb):RW X E (.BoolOp .And (a::b::z08) pos) (zfb fa fb):= zaU (zeH ha hb) fun O H Q ⟨Y,ρ,s,r,en,h⟩=>by
  refine z1c (k:=fun ρ x s1=>if x=true then fb ρ s1 else .ok false s1) r en h _ fun v H1 Y1 s1 r1 en1 stp h1=>?_;cases v with
  | true=>rw [if_pos rfl] at h1 ⊢;exact ⟨Y1,ρ,s1,r1,en1,h1⟩ | false=>rw [if_neg (by decide)] at h1 ⊢;exact h1.here r1 rfl
theorem zfC{fa fb:FT}(ha:RT X E a fa)(hb:RW X E (.BoolOp .Or (b::z08) pos) fb):RW X E (.BoolOp .Or (a::b::z08) pos) (fOr fa fb):= zaU (zgO ha hb) fun O H Q ⟨Y,ρ,s,r,en,h⟩=>by
  refine z1c (k:=fun ρ x s1=>if x=true then .ok true s1 else fb ρ s1) r en h _ fun v H1 Y1 s1 r1 en1 stp h1=>?_;cases v with
  | false=>rw [if_neg (by decide)] at h1 ⊢;exact ⟨Y1,ρ,s1,r1,en1,h1⟩ | true=>rw [if_pos rfl] at h1 ⊢;exact h1.here r1 rfl
theorem z3i{fa:FT}(ha:RT X E a fa):RT X E (.UnaryOp .Not a pos) (z76 fa):= z6p (ze5 ha) fun O H Q ⟨Y,ρ,s,r,en,h⟩=>z1c (k:=fun ρ x s1=>.ok (!x) s1) r en h _ fun v H1 Y1 s1 r1 en1 stp h1=>h1.here r1 rfl
theorem km{f:FE}(h:RE X E a f)(he:∀ whole,isTrue a X.env whole=(do let v <- whole;standAt a.pos;holding [v] (truthy v)):=by intro _;rfl):RT X E a (tOf f):= z6p (zdM h he) fun O H Q h=>z2x h
def eIf(ft:FT)(fa fb:FE):FE:=fun ρ s=>(ft ρ s).bind fun x s1=>if x=true then fa ρ s1 else fb ρ s1
theorem zfu{ft:FT}{fa fb:FE}(hc:RT X E c ft)(ha:RE X E a fa)(hb:RE X E b fb):RE X E (.IfExp c a b pos) (eIf ft fa fb):= zX (z9V hc ha hb) fun O H Q ⟨Y,ρ,s,r,en,h⟩=>z1c (k:=fun ρ x s1=>if x=true then fa ρ s1 else fb ρ s1) r en h _ fun v H1 Y1 s1 r1 en1 stp h1=>by cases v with
  | true=>rw [if_pos rfl] at h1 ⊢;exact ⟨Y1,ρ,s1,r1,en1,h1⟩ | false=>rw [if_neg (by decide)] at h1 ⊢;exact ⟨Y1,ρ,s1,r1,en1,h1⟩
theorem z0q {fa fb:FE} (ha:RE X E a fa) (hb:RE X E b fb) (hs:z5H b:=by intro _ _;rfl):RE X E (.Subscript a b pos) (eOp dIx fa fb):=by
 obtain ⟨r,h1,h2⟩:=zhX (X:=X) (E:=E);exact zX (zdz h1 ha hb hs) fun O H Q h=>z66 h2 h
def zj:FA:=fun _ s=>.ok [] s
def za(fa:FE)(fr:FA):FA:=fun ρ s=>(fa ρ s).bind fun x s1=>(fr ρ s1).bind fun xs s2=>.ok (x::xs) s2
theorem zd:RA X E [] zj:=zbk z3x fun O H Q ⟨Y,ρ,s,r,en,h⟩=>h.here r zu.nil
theorem jL{fa:FE}{fr:FA}(ha:RE X E e fa)(hr:RA X E es fr)(hs:starEach (e::es) X.env=(false,eval e X.env)::starEach es X.env:=by rfl):RA X E (e::es) (za fa fr):= zbk (jZ ha hr hs) fun O H Q ⟨Y,ρ,s,r,en,h⟩=>by
  refine yL (k:=fun ρ x s1=>(fr ρ s1).bind fun xs s2=>.ok (x::xs) s2) r en h _ fun v H1 Y1 s1 d r1 en1 dn stp h1=>?_;refine uj (k:=fun ρ xs s2=>.ok (d::xs) s2) r1 en1 h1 _ fun vs H2 Y2 s2 ds r2 en2 dn2 stp2 h2=>?_;exact h2.here r2 (zu.cons (dn.mono stp2) dn2)
def uN(f:FA):FE:=fun ρ s=>(f ρ s).bind fun xs s1=>if xs.length<=cap then .ok (.tup xs) s1 else .no
theorem ve{f:FA}{x1:Nat}(h:RA X E es f):RE X E (.Tuple es x1 pos) (uN f):= zX (zeO h) fun O H Q ⟨Y,ρ,s,r,en,h⟩=>by
  refine uj (k:=fun ρ xs s1=>if xs.length<=cap then R.ok (D.tup xs) s1 else .no) r en h _ fun vs H2 Y2 s2 ds r2 en2 dn2 stp2 h2=>?_;split at h2
  ·rename_i hl;exact ⟨by rw [dn2.length];exact qM hl,z25 r2 h2 dn2⟩
  ·exact h2.elim
def z0c(f:FA):FE:=fun ρ s=>(f ρ s).bind fun xs s1=>if xs.length<=cap then .ok (.lst xs) s1 else .no
theorem qB{f:FA}(h:RA X E es f):RE X E (.List es pos) (z0c f):= zX (zaW h).freeze fun O H Q ⟨Y,ρ,s,r,en,h⟩=>by
  refine uj (k:=fun ρ xs s1=>if xs.length<=cap then R.ok (D.lst xs) s1 else .no) r en h _ fun vs H2 Y2 s2 ds r2 en2 dn2 stp2 h2=>?_;split at h2
  ·rename_i hl;exact ⟨by rw [dn2.length];exact qM hl,qG r2 h2 dn2⟩
  ·exact h2.elim
def zb9(f:FA):FE:=fun ρ s=>(f ρ s).bind fun xs s1=>if xs.length<=cap/\D.flat.flats xs=true then .ok (.loc s1.length) (s1++[xs]) else .no
theorem zbr{mg:Gm}{H:Hp}{Y:List Addr}{s:Sto}{xs:List D}{vs:List V}{Q:VK}(r:Rep mg H Y s)(h:okR mg E H Y (Den mg) (.ok (.loc s.length) (s++[xs])) Q)(hf:D.flat.flats xs=true)(hd:zu mg H Y xs vs):∀ p,H p=none->Q (.ref p) (upd H p (.lst vs)):=fun p hp=>by
 refine h _ _ _ (xH.layL r hp hd hf) ?_;simp only [Den];exact ⟨p,rfl,by rw [<- r.len];simp,vs,yy⟩
theorem z77{f:FA}(h:RA X E es f):RE X E (.List es pos) (zb9 f):= zX (zaW h) fun O H Q ⟨Y,ρ,s,r,en,h⟩=>by
  refine uj (k:=fun ρ xs s1=>if xs.length<=cap/\D.flat.flats xs=true then R.ok (D.loc s1.length) (s1++[xs]) else .no) r en h _ fun vs H2 Y2 s2 ds r2 en2 dn2 stp2 h2=>?_;split at h2
  ·rename_i hl;exact ⟨by rw [dn2.length];exact qM hl.1,zbr r2 h2 hl.2 dn2⟩
  ·exact h2.elim
def z02(X:Cx)(E:XK)(r:List V->Hp->VK->Prop)(g:List D->Sto->R D):Prop:= ∀ H Y s ds vs (Q:VK),Rep (gm X) H Y s->zu (gm X) H Y ds vs->okR (gm X) E H Y (Den (gm X)) (g ds s) Q->r vs H Q
def zf(g:List D->Sto->R D)(f:FA):FE:=fun ρ s=>(f ρ s).bind fun xs s1=>g xs s1
theorem zD {x:Str} {p:Pos} {id:String} {g:List D->Sto->R D} {f:FA} (hc:∃ r,wu X (.builtin id) r/\z02 X E r g) (hg:Gl X x) (hm:X.mg x=none) (hv:bootBuiltins x=some (.builtin id)) (ha:RA X E (e::es) f) (hn:x≠"__name__":=by decide) (hdb:(x==("__debug__":Str))=false:=by decide) (he:starEach (e::es) X.env=(false,eval e X.env)::starEach es X.env:=by rfl) (hpl:(backTo pos (starEach es X.env)).any (·.1)=false:=by rfl):RE X E (.Call (.Name x p) (e::es) [] pos) (zf g f):=by
 obtain ⟨r,h1,h2⟩:=hc;exact zX (z68 h1 hg hm hv ha hn hdb he hpl) fun O H Q ⟨Y,ρ,s,r,en,h⟩=> uj (k:=fun ρ xs s1=>g xs s1) r en h _ fun vs H2 Y2 s2 ds r2 en2 dn2 stp2 h3=>h2 H2 Y2 s2 ds vs Q r2 dn2 h3
theorem kz {x:Str} {p:Pos} {T:String} {g:List D->Sto->R D} {f:FA} (hc:∃ r,wu X (.type T) r/\z02 X E r g) (hg:Gl X x) (hm:X.mg x=none) (hv:bootBuiltins x=some (.type T)) (ha:RA X E (e::es) f) (hn:x≠"__name__":=by decide) (hdb:(x==("__debug__":Str))=false:=by decide) (he:starEach (e::es) X.env=(false,eval e X.env)::starEach es X.env:=by rfl) (hpl:(backTo pos (starEach es X.env)).any (·.1)=false:=by rfl):RE X E (.Call (.Name x p) (e::es) [] pos) (zf g f):=by
 obtain ⟨r,h1,h2⟩:=hc;exact zX (z7S h1 hg hm hv ha hn hdb he hpl) fun O H Q ⟨Y,ρ,s,r,en,h⟩=> uj (k:=fun ρ xs s1=>g xs s1) r en h _ fun vs H2 Y2 s2 ds r2 en2 dn2 stp2 h3=>h2 H2 Y2 s2 ds vs Q r2 dn2 h3
theorem z0e{mg:Gm}{H:Hp}{Y:List Addr}{d:D}{vs:List V}(h:zu mg H Y [d] vs):∃ v,vs=[v]/\Den mg H Y d v:=by
 simp only [zu] at h;obtain ⟨v,r,rfl,h1,rfl⟩:=h;exact ⟨v,rfl,h1⟩
theorem z4T{mg:Gm}{H:Hp}{Y:List Addr}{d d':D}{vs:List V}(h:zu mg H Y [d,d'] vs):∃ v v',vs=[v,v']/\Den mg H Y d v/\Den mg H Y d' v':=by
 simp only [zu] at h;obtain ⟨v,r,rfl,h1,v',r',rfl,h2,rfl⟩:=h;exact ⟨v,v',rfl,h1,h2⟩
def xI:List D->Sto->R D
 | [d],s=>match zP s d with | some xs=>.ok (.int xs.length) s | none=>.no
 | _,_=>.no
theorem qf:∃ r,wu X (.builtin "len") r/\z02 X E r xI:=⟨_,z3S,fun H Y s ds vs Q r hd h=>by
 unfold xI at h;split at h
 ·split at h
  ·rename_i d xs e;obtain ⟨v,rfl,dn⟩:=z0e hd;obtain ⟨a,ws,rfl,q1,q2⟩:=ug (K:=X.K) r e dn;exact ⟨a,ws,rfl,q1,by rw [q2.length];exact h.here r yk⟩
  ·exact h.elim
 ·exact h.elim⟩
def uK:List D->Sto->R D
 | [d],s=>match zP s d with | some xs=>.ok (.tup xs) s | none=>.no
 | _,_=>.no
theorem z0O:∃ r,wu X (.type "tuple") r/\z02 X E r uK:=⟨_,z2N,fun H Y s ds vs Q r hd h=>by match ds,hd,h with
 | [],_,h=>exact h.elim | _::_::_,_,h=>exact h.elim | [d],hd,h=>
  obtain ⟨v,rfl,dn⟩:=z0e hd;simp only [uK] at h;cases e:zP s d with
  | none=>rw [e] at h;exact h.elim | some xs=>
   rw [e] at h;cases d with
   | tup ys=>
    simp only [zP,Option.some.injEq] at e;subst e;obtain ⟨a,ws,rfl,q1,q2⟩:=qK (K:=X.K) dn;exact ⟨a,ws,rfl,.inr ⟨q1,h.here r dn⟩⟩ | lst ys=>
    obtain ⟨a,ws,rfl,q1,q2⟩:=zS (d:=.lst ys) r e dn;exact ⟨a,ws,rfl,.inl ⟨.inl q1,z25 r h q2⟩⟩ | loc l=>
    obtain ⟨a,ws,rfl,q1,q2⟩:=zS (d:=.loc l) r e dn;exact ⟨a,ws,rfl,.inl ⟨.inl q1,z25 r h q2⟩⟩ | scr ys=>
    simp only [zP,Option.some.injEq] at e;subst e;obtain ⟨a,ws,rfl,q1,q2⟩:=zbb dn;exact ⟨a,ws,rfl,.inl ⟨q1,z25 r h q2⟩⟩ | _=>simp [zP] at e⟩
def zdq:List D->Sto->R D
 | [.int i],s=>.ok (.int i) s | [.bl b],s=>.ok (.int (if b then 1 else 0)) s | _,_=>.no
theorem zgj:∃ r,wu X (.type "int") r/\z02 X E r zdq:=⟨_,z82,fun H Y s ds vs Q r hd h=>by
 unfold zdq at h;split at h
 ·rename_i i;obtain ⟨v,rfl,dn⟩:=z0e hd;cases zW dn;exact .inl ⟨i,rfl,h.here r yk⟩
 ·rename_i b;obtain ⟨v,rfl,dn⟩:=z0e hd;cases qO dn;exact .inr ⟨b,rfl,h.here r yk⟩
 ·exact h.elim⟩
def zaJ:List D->Sto->R D
 | [.int i,.int j],s=>.ok (.int (if j > i then j else i)) s | _,_=>.no
def z53:List D->Sto->R D
 | [.int i,.int j],s=>.ok (.int (if j<i then j else i)) s | _,_=>.no
theorem zeP(hc:X.calm=true):∃ r,wu X (.builtin "max") r/\z02 X E r zaJ:=⟨_,z83 hc,fun H Y s ds vs Q r hd h=>by
 unfold zaJ at h;split at h
 ·rename_i i j;obtain ⟨v,v',rfl,d1,d2⟩:=z4T hd;cases zW d1;cases zW d2;exact ⟨i,j,rfl,h.here r yk⟩
 ·exact h.elim⟩
theorem zb2(hc:X.calm=true):∃ r,wu X (.builtin "min") r/\z02 X E r z53:=⟨_,z9s hc,fun H Y s ds vs Q r hd h=>by
 unfold z53 at h;split at h
 ·rename_i i j;obtain ⟨v,v',rfl,d1,d2⟩:=z4T hd;cases zW d1;cases zW d2;exact ⟨i,j,rfl,h.here r yk⟩
 ·exact h.elim⟩
abbrev FO:=Ev->Sto->R (Option Int)
def oD(_:Hp)(_:List Addr)(a b:Option Int):Prop:=a=b
def tO(mg:Gm)(E:XK)(f:FO):TO:=fun O H Q=>∃ Y ρ s,Rep mg H Y s/\wF mg H Y ρ O/\okR mg E H Y oD (f ρ s) Q
def RO(X:Cx)(E:XK)(e:Option Expr)(f:FO):Prop:=PO X e (tO (gm X) E f)
theorem zbu{o:Option Expr}{t t':TO}(h:PO X o t)(i:∀ O H Q,t' O H Q->t O H Q):PO X o t':=fun pins s O H Q I q=>h pins s O H Q I (i O H Q q)
def zG:FO:=fun _ s=>.ok none s
def xn(f:FE):FO:=fun ρ s=>(f ρ s).bind fun d s1=>match d with | .int i=>.ok (some i) s1 | _=>.no
theorem vy:RO X E none zG:=zbu zcJ fun O H Q ⟨Y,ρ,s,r,en,h⟩=>h.here (b:=none) r rfl
theorem vE{f:FE}(h:RE X E e f):RO X E (some e) (xn f):=zbu (zcM h) fun O H Q ⟨Y,ρ,s,r,en,h⟩=>by
 refine yL (k:=fun ρ d s1=>match d with | .int i=>.ok (some i) s1 | _=>.no) r en h _ fun v H1 Y1 s1 d r1 en1 dn stp h1=>?_;cases d with
 | int i=>cases zW dn;exact ⟨i,rfl,h1.here (b:=some i) r1 rfl⟩ | _=>exact h1.elim
def cutD(xs:List D)(lo hi:Option Int):List D:=(xs.drop (HT.sIx xs.length 0 lo)).take (HT.sIx xs.length xs.length hi-HT.sIx xs.length 0 lo)
theorem z3q{mg:Gm}{H:Hp}{Y:List Addr}{xs:List D}{vs:List V}(h:zu mg H Y xs vs)(lo hi:Option Int):zu mg H Y (cutD xs lo hi) (zaV vs lo hi):=by
 unfold cutD zaV;rw [h.length];exact (h.drop _).take _
def dSl(x:D)(lo hi:Option Int)(s:Sto):R D:=match x with
 | .tup xs=>.ok (.tup (cutD xs lo hi)) s | x=>match listOf s x with | some xs=>.ok (.lst (cutD xs lo hi)) s | none=>.no
def eSl(fe:FE)(fl fh:FO):FE:=fun ρ s=>(fe ρ s).bind fun x s1=>(fl ρ s1).bind fun lo s2=>(fh ρ s2).bind fun hi s3=>dSl x lo hi s3
theorem z8j{α β:Type}{Dn:Hp->List Addr->α->β->Prop}{mg:Gm}{f:FO}{k:Ev->Option Int->Sto->R α}{O:L2.St}{H:Hp}{Q:β->Hp->Prop}{Y:List Addr}{ρ:Ev}{s:Sto}(r:Rep mg H Y s)(en:wF mg H Y ρ O) (h:okR mg E H Y Dn ((f ρ s).bind (k ρ)) Q)(K:Option Int->Hp->Prop) (hK:∀ v H1 Y1 s1,Rep mg H1 Y1 s1->wF mg H1 Y1 ρ O->xH mg H Y H1 Y1 s1->okR mg E H1 Y1 Dn (k ρ v s1) Q->K v H1):tO mg E f O H K:= ⟨Y,ρ,s,r,en,(okR.bind (Dn:=oD) h).imp fun v H1 ⟨Y1,s1,d,stp,dn,q⟩=>hK v H1 Y1 s1 stp.rep (en.mono stp) stp (by cases (show d=v from dn);exact q)⟩
theorem xz{lo hi:Option Expr}{p2:Pos}{fe:FE}{fl fh:FO}(he:RE X E e fe)(hl:RO X E lo fl)(hh:RO X E hi fh):RE X E (.Subscript e (.Slice lo hi none p2) pos) (eSl fe fl fh):= zX (zae ((zft.or zbG).or zd0.freeze) he hl hh) fun O H Q ⟨Y,ρ,s,r,en,h⟩=>by
  refine yL (k:=fun ρ x s1=>(fl ρ s1).bind fun lo s2=>(fh ρ s2).bind fun hi s3=>dSl x lo hi s3) r en h _ fun v H1 Y1 s1 d r1 en1 dn stp h1=>?_;refine z8j (k:=fun ρ lo s2=>(fh ρ s2).bind fun hi s3=>dSl d lo hi s3) r1 en1 h1 _ fun lo H2 Y2 s2 r2 en2 stp2 h2=>?_;refine z8j (k:=fun ρ hi s3=>dSl d lo hi s3) r2 en2 h2 _ fun hi H3 Y3 s3 r3 en3 stp3 h3=>?_;have dn3:=(dn.mono stp2).mono stp3;cases d with
  | tup xs=>
   obtain ⟨a,vs,rfl,q1,q2⟩:=qK (K:=X.K) dn3;have h3':okR (gm X) E H3 Y3 (Den (gm X)) (.ok (.tup (cutD xs lo hi)) s3) Q:=h3;by_cases hw:HT.sIx vs.length 0 lo=0/\HT.sIx vs.length vs.length hi=vs.length
   ·refine .inl (.inr ⟨a,vs,rfl,q1,hw,?_⟩);have e:cutD xs lo hi=xs:=by
     unfold cutD;rw [<- q2.length,hw.1,hw.2];simp [q2.length]
    rw [e] at h3';exact h3'.here r3 dn3
   ·exact .inl (.inl ⟨a,vs,rfl,q1,hw,z25 r3 h3' (z3q q2 lo hi)⟩) | lst xs=>
   obtain ⟨a,vs,rfl,q1,q2⟩:=zS (d:=.lst xs) r3 rfl dn3;exact .inr ⟨a,vs,rfl,.inl q1,qG r3 h3 (z3q q2 lo hi)⟩ | loc l=>
   simp only [dSl] at h3;split at h3
   ·rename_i xs e;obtain ⟨a,vs,rfl,q1,q2⟩:=zS (d:=.loc l) r3 e dn3;exact .inr ⟨a,vs,rfl,.inl q1,qG r3 h3 (z3q q2 lo hi)⟩
   ·exact h3.elim | _=>exact h3.elim
end
abbrev Mir:=List D->Sto->R D
def zc8(mg:Gm)(M:Mir):Sp:=fun vs H Q E=>∃ Y s ds,Rep mg H Y s/\zu mg H Y ds vs/\okR mg E H Y (Den mg) (M ds s) Q
def Has(P:Program)(w:World)(K:W.Frag)(mg:Str->Option Value)(base:Heap)(CX:CXT)(x:Str)(n:Nat)(M:Mir):Prop:= ∃ f fd ps,z2j P w K mg base CX n f fd ps (zc8 ⟨mg,K⟩ M)/\Binds K fd ps []/\W.keepIn K (.ref f)=true/\mg x=some (.ref f)
section
variable {X:Cx}{E:XK}{e a b c:Expr}{es:List Expr}{pos:Pos}{CX:CXT}
theorem zw {x:Str} {p:Pos} {n:Nat} {M:Mir} {f:FA} (F:Has X.prog X.w X.K X.mg X.base CX x n M) (hr:z0n n X.A) (hx:Passes CX X E) (hg:Gl X x) (ha:RA X E (e::es) f) (hdb:(x==("__debug__":Str))=false:=by decide) (he:starEach (e::es) X.env=(false,eval e X.env)::starEach es X.env:=by rfl) (hpl:(backTo pos (starEach es X.env)).any (·.1)=false:=by rfl):RE X E (.Call (.Name x p) (e::es) [] pos) (zf M f):=by
 obtain ⟨fa,fd,ps,F,hb,hk,hm⟩:=F;refine zX (zcY F hr hg hm hk hb .nil hx ha hdb he hpl) fun O H Q ⟨Y,ρ,s,r,en,h⟩=>?_;refine uj (k:=fun ρ xs s1=>M xs s1) r en h _ fun vs H2 Y2 s2 ds r2 en2 dn2 stp2 h3=>?_;rw [List.append_nil];exact ⟨Y2,s2,ds,r2,dn2,h3⟩
def zH(f g:FS):FS:=fun ρ s=>(f ρ s).bind fun fl s1=>match fl with | .nx ρ'=>g ρ' s1 | fl=>.ok fl s1
def yM:FS:=fun ρ s=>.ok (.nx ρ) s
variable {st:Stmt}{rs:List Stmt}
theorem zfe {mg:Gm} {f g:FS} {D:z9O} {O:L2.St} {H:Hp} (h:tS mg E (zH f g) D O H):zhJ (tS mg E f) (tS mg E g) D O H:=by
 obtain ⟨Y,ρ,s,r,en,h⟩:=h;refine ⟨Y,ρ,s,r,en,(okR.bind (Dn:=FlD mg) h).imp fun fv H1 ⟨Y1,s1,fl,stp,dn,q⟩=>?_⟩;cases fl with
 | nx ρ'=> cases fv with
  | nx O'=>exact ⟨Y1,ρ',s1,stp.rep,dn,q⟩ | _=>exact (show False from dn).elim
 | rt d=> cases fv with
  | rt v=>exact okR.here (b:=FlV.rt v) (Q:=z6k D) (s:=s1) (a:=Fl.rt d) q stp.rep dn | _=>exact (show False from dn).elim
 | bk ρ'=> cases fv with
  | bk v=>exact okR.here (b:=FlV.bk v) (Q:=z6k D) (s:=s1) (a:=Fl.bk ρ') q stp.rep dn | _=>exact (show False from dn).elim
 | ct ρ'=> cases fv with
  | ct v=>exact okR.here (b:=FlV.ct v) (Q:=z6k D) (s:=s1) (a:=Fl.ct ρ') q stp.rep dn | _=>exact (show False from dn).elim
theorem yg:RSs X E [] yM:=z5f zbV fun D O H ⟨Y,ρ,s,r,en,h⟩=>okR.here (b:=FlV.nx O) h r en
theorem ze{f g:FS}(h1:RS X E st f)(h2:RSs X E rs g):RSs X E (st::rs) (zH f g):=z5f (z2E h1 h2) fun D O H h=>zfe h
theorem zk{f:FS}(h1:RS X E st f):RSs X E [st] f:=zbS h1
def fNo:FS:=fun _ _=>.no
theorem z0X:RS X E st fNo:=uA za7 fun D O H ⟨_,_,_,_,_,h⟩=>h
def ja(f:FE):FS:=fun ρ s=>(f ρ s).bind fun _ s1=>.ok (.nx ρ) s1
theorem uF {f:FE} (he:RE X E e f) (hs:swapsWith e none pos.line X.env=pure false:=by rfl):RS X E (.Expr e pos) (ja f):= uA (zcL he hs) fun D O H ⟨Y,ρ,s,r,en,h⟩=>yL (k:=fun ρ _ s1=>R.ok (Fl.nx ρ) s1) r en h _ fun v H1 Y1 s1 d r1 en1 dn stp h1=>okR.here (b:=FlV.nx O) (Q:=z6k D) h1 r1 en1
def xF(f:FE):FS:=fun ρ s=>(f ρ s).bind fun d s1=>.ok (.rt d) s1
theorem zU {f:FE} (he:RE X E e f):RS X E (.Return (some e) pos) (xF f):= uA (zdG he) fun D O H ⟨Y,ρ,s,r,en,h⟩=>yL (k:=fun ρ d s1=>R.ok (Fl.rt d) s1) r en h _ fun v H1 Y1 s1 d r1 en1 dn stp h1=>okR.here (b:=FlV.rt v) (Q:=z6k D) h1 r1 dn
def fIf(ft:FT)(f g:FS):FS:=fun ρ s=>(ft ρ s).bind fun x s1=>if x=true then f ρ s1 else g ρ s1
theorem jA{ft:FT}{f g:FS}{as bs:List Stmt}(hc:RT X E c ft)(ha:RSs X E as f)(hb:RSs X E bs g):RS X E (.If c as bs pos) (fIf ft f g):= uA (zgD hc ha hb) fun D O H ⟨Y,ρ,s,r,en,h⟩=>z1c (k:=fun ρ x s1=>if x=true then f ρ s1 else g ρ s1) r en h _ fun v H1 Y1 s1 r1 en1 stp h1=>by cases v with
  | true=>rw [if_pos rfl] at h1 ⊢;exact ⟨Y1,ρ,s1,r1,en1,h1⟩ | false=>rw [if_neg (by decide)] at h1 ⊢;exact ⟨Y1,ρ,s1,r1,en1,h1⟩
abbrev FG:=D->Ev->Sto->R Ev
def tG(mg:Gm)(E:XK)(f:FG):TG:=fun v O H Q=>∃ Y ρ s d,Rep mg H Y s/\wF mg H Y ρ O/\Den mg H Y d v/\okR mg E H Y (wF mg) (f d ρ s) (fun O' H'=>Q O' H')
def RG(X:Cx)(E:XK)(tg:Expr)(f:FG):Prop:=PG X tg (tG (gm X) E f)
theorem zbt{tg:Expr}{t t':TG}(h:PG X tg t)(i:∀ v O H Q,t' v O H Q->t v O H Q):PG X tg t':=fun pins s O H v u Q I r q=>h pins s O H v u Q I r (i v O H Q q)
def wv(i:Nat):FG:=fun d ρ s=>.ok (ρ.set i (some d)) s
theorem kH(i:Nat){x:Str}(hN:X.N.Nodup)(hi:X.N[i]? = some x:=by rfl)(hx:Loc X.env.scope x:=by first | exact Or.inl rfl | exact Or.inr rfl)(hf:X.fn x=true\/X.env.scope.names.lookup x=some .local:=by first | exact .inl rfl | exact .inr rfl | assumption):RG X E (.Name x pos) (wv i):= zbt (zR hN hi hx hf) fun v O H Q ⟨Y,ρ,s,d,r,en,dn,h⟩=>okR.here (b:=O.set i (some v)) h r (en.set dn i)
def xP(i j:Nat):FG:=fun d ρ s=>match d with | .tup [x,y]=>.ok ((ρ.set i (some x)).set j (some y)) s | _=>.no
theorem z2i(i j:Nat){x y:Str}{px py:Pos}{kt:Nat}(hc:X.calm=true)(hN:X.N.Nodup)(hi:X.N[i]? = some x:=by rfl)(hj:X.N[j]? = some y:=by rfl)(hx:Loc X.env.scope x:=by first | exact Or.inl rfl | exact Or.inr rfl)(hy:Loc X.env.scope y:=by first | exact Or.inl rfl | exact Or.inr rfl) (hf:X.fn x=true\/X.env.scope.names.lookup x=some .local:=by first | exact .inl rfl | exact .inr rfl | assumption)(hf':X.fn y=true\/X.env.scope.names.lookup y=some .local:=by first | exact .inl rfl | exact .inr rfl | assumption): RG X E (.Tuple [.Name x px,.Name y py] kt pos) (xP i j):= zbt (zbh hc (z0t (zR hN hi hx hf) (z0t (zR hN hj hy hf') z8p))) fun v O H Q ⟨Y,ρ,s,d,r,en,dn,h⟩=>by
  unfold xP at h;split at h
  ·rename_i d1 d2;obtain ⟨p,vs,rfl,q1,q2⟩:=qK (K:=X.K) dn;obtain ⟨v1,v2,rfl,e1,e2⟩:=z4T q2;exact ⟨p,[v1,v2],rfl,q1,rfl,v1,[v2],rfl,v2,[],rfl,rfl,okR.here h r ((en.set e1 i).set e2 j)⟩
  ·exact h.elim
def vb(i:Nat)(f:FE):FS:=fun ρ s=>(f ρ s).bind fun d s1=>.ok (.nx (ρ.set i (some d))) s1
theorem xC (i:Nat) {x:Str} {pos':Pos} {f:FE} (hN:X.N.Nodup) (he:RE X E e f) (hi:X.N[i]? = some x:=by rfl) (hx:Loc X.env.scope x:=by first | exact Or.inl rfl | exact Or.inr rfl) (hs:swapsWith e (some (.Name x pos')) pos.line X.env=pure false:=by rfl) (hf:X.fn x=true\/X.env.scope.names.lookup x=some .local:=by first | exact .inl rfl | exact .inr rfl | assumption):RS X E (.Assign [.Name x pos'] e pos) (vb i f):= uA (ze3 hN hi hx he hs hf) fun D O H ⟨Y,ρ,s,r,en,h⟩=>yL (k:=fun ρ d s1=>R.ok (Fl.nx (ρ.set i (some d))) s1) r en h _ fun v H1 Y1 s1 d r1 en1 dn stp h1=>okR.here (b:=FlV.nx (O.set i (some v))) (Q:=z6k D) h1 r1 (en1.set dn i)
def zcN(f:FE)(g:FG):FS:=fun ρ s=>(f ρ s).bind fun d s1=>(g d ρ s1).bind fun ρ' s2=>.ok (.nx ρ') s2
theorem z98 {tg:Expr} {f:FE} {g:FG} (he:RE X E e f) (hg:RG X E tg g) (hs:swapsWithSole [tg] e pos.line X.env=pure false:=by rfl) (hw:swappedStores [tg] e X.env=pure none:=by rfl) (h1:(assignEach [tg] X.env).map (·.2)=[assign tg X.env]:=by rfl):RS X E (.Assign [tg] e pos) (zcN f g):= uA (zbf he hg hs hw h1) fun D O H ⟨Y,ρ,s,r,en,h⟩=>yL (k:=fun ρ d s1=>(g d ρ s1).bind fun ρ' s2=>R.ok (Fl.nx ρ') s2) r en h _ fun v H1 Y1 s1 d r1 en1 dn stp h1=> ⟨Y1,ρ,s1,d,r1,en1,dn,(okR.bind (Dn:=wF (gm X)) h1).imp fun O' H' ⟨Y2,s2,ρ',stp2,en2,q⟩=>okR.here (b:=FlV.nx O') (Q:=z6k D) q stp2.rep en2⟩
def zgl(i j:Nat)(f:FA):FS:=fun ρ s=>(f ρ s).bind fun ds s1=>match ds with | [x,y]=>.ok (.nx ((ρ.set i (some x)).set j (some y))) s1 | _=>.no
theorem zfW (i j:Nat) {x y:Str} {px py pt:Pos} {kt k2:Nat} {pt2:Pos} {f:FA} (hc:X.calm=true) (hN:X.N.Nodup) (ha:RA X E [a,b] f) (hi:X.N[i]? = some x:=by rfl) (hj:X.N[j]? = some y:=by rfl) (hij:i≠j:=by decide) (hx:X.env.scope.names.lookup x=some .local:=by rfl) (hy:X.env.scope.names.lookup y=some .local:=by rfl) (hw:swappedStores [.Tuple [.Name x px,.Name y py] kt pt] (.Tuple [a,b] k2 pt2) X.env=pure (some [x,y]):=by rfl) (hs:swapsWithSole [.Tuple [.Name x px,.Name y py] kt pt] (.Tuple [a,b] k2 pt2) pos.line X.env=pure false:=by rfl): RS X E (.Assign [.Tuple [.Name x px,.Name y py] kt pt] (.Tuple [a,b] k2 pt2) pos) (zgl i j f):= uA (zeR hc hN hi hj hij hx hy ha hw hs) fun D O H ⟨Y,ρ,s,r,en,h⟩=>by
  refine uj (k:=fun ρ ds s1=>match ds with | [x,y]=>R.ok (Fl.nx ((ρ.set i (some x)).set j (some y))) s1 | _=>.no) r en h _ fun vs H1 Y1 s1 ds r1 en1 dn stp h1=>?_;match ds,dn,h1 with
  | [],_,h1=>exact h1.elim | [_],_,h1=>exact h1.elim | _::_::_::_,_,h1=>exact h1.elim | [d1,d2],dn,h1=>
   obtain ⟨v1,v2,rfl,e1,e2⟩:=z4T dn;exact ⟨v1,v2,rfl,okR.here (b:=FlV.nx ((O.set i (some v1)).set j (some v2))) (Q:=z6k D) h1 r1 ((en1.set e1 i).set e2 j)⟩
def z38(fo fi fv:FE):FS:=fun ρ s=>(fv ρ s).bind fun d s1=>(fo ρ s1).bind fun o s2=>(fi ρ s2).bind fun i s3=>match o,i with
 | .loc l,.int k=>match s3[l]? with
  | some xs=>match ixN xs.length k with
   | some j=>if d.flat=true then .ok (.nx ρ) (s3.set l (xs.set j d)) else .no | none=>.no
  | none=>.no
 | _,_=>.no
theorem z3J:∀ {xs:List D}{d:D}{j:Nat},D.flat.flats xs=true->d.flat=true->D.flat.flats (xs.set j d)=true
 | [],_,_,_,_=>rfl | x::xs,d,0,h,hd=>by
  simp only [D.flat.flats,Bool.and_eq_true,List.set_cons_zero] at h ⊢;exact ⟨hd,h.2⟩ | x::xs,d,j+1,h,hd=>by
  simp only [D.flat.flats,Bool.and_eq_true,List.set_cons_succ] at h ⊢;exact ⟨h.1,z3J h.2 hd⟩
theorem qq:∀ {xs ys:List D},D.flat.flats xs=true->D.flat.flats ys=true->D.flat.flats (xs++ys)=true
 | [],_,_,h=>h | x::xs,ys,h,h'=>by
  simp only [D.flat.flats,Bool.and_eq_true,List.cons_append] at h ⊢;exact ⟨h.1,qq h.2 h'⟩
theorem z4B {o i:Expr} {p1:Pos} {fo fi fv:FE} (hv:RE X E e fv) (ho:RE X E o fo) (hi:RE X E i fi) (ha:∀ v,assign (.Subscript o i p1) X.env v=(do
   let ov <- holding [v] (eval o X.env) let iv <- holding [v,ov] (eval i X.env)
   standAt p1
   holding [v,ov,iv] (setItem ov iv v)
   release [v,ov,iv] []):=by intro _;rfl) (hs:swapsWithSole [.Subscript o i p1] e pos.line X.env=pure false:=by rfl) (hw:swappedStores [.Subscript o i p1] e X.env=pure none:=by rfl) (h1:(assignEach [.Subscript o i p1] X.env).map (·.2)=[assign (.Subscript o i p1) X.env]:=by rfl):RS X E (.Assign [.Subscript o i p1] e pos) (z38 fo fi fv):= uA (zbf hv (zfn ho hi set_list ha) hs hw h1) fun D O H ⟨Y,ρ,s,r,en,h⟩=>by
  unfold z38 at h;refine ⟨Y,ρ,s,r,en,(okR.bind (Dn:=Den (gm X)) h).imp fun v H1 ⟨Y1,s1,d,stp,dn,h1⟩=>?_⟩;refine ⟨Y1,ρ,s1,stp.rep,en.mono stp,(okR.bind (Dn:=Den (gm X)) h1).imp fun ov H2 ⟨Y2,s2,od,stp2,dn2,h2⟩=>?_⟩;refine ⟨Y2,ρ,s2,stp2.rep,(en.mono stp).mono stp2,(okR.bind (Dn:=Den (gm X)) h2).imp fun iv H3 ⟨Y3,s3,id,stp3,dn3,h3⟩=>?_⟩;have en3:=((en.mono stp).mono stp2).mono stp3;have dv:=(dn.mono stp2).mono stp3;have dov:=dn2.mono stp3;cases od with
  | loc l=> cases id with
   | int k=>
    simp only at h3;split at h3
    ·rename_i xs ex;split at h3
     ·rename_i j ej;split at h3
      ·rename_i hf;cases zW dn3;simp only [Den] at dov;obtain ⟨a,rfl,e1,ka⟩:=dov;obtain ⟨vs,q1,q2⟩:=stp3.rep.at_ ex e1 ka;have stp4:=xH.put (l:=l) (xs:=xs.set j d) stp3.rep e1 ka (q2.set j dv) (z3J (stp3.rep.flat xs (List.mem_of_getElem? ex)) hf);exact ⟨a,vs,k,j,rfl,rfl,q1,by rw [q2.length];exact ej,h3 (.nx O) _ _ stp4 (en3.mono stp4)⟩
      ·exact h3.elim
     ·exact h3.elim
    ·exact h3.elim | _=>exact h3.elim
  | _=>exact h3.elim
def zbc(fo fv:FE):FE:=fun ρ s=>(fo ρ s).bind fun o s1=>match o with
 | .loc l=>(fv ρ s1).bind fun d s2=>match s2[l]? with
  | some xs=>if d.flat=true/\xs.length<cap then .ok .non (s2.set l (xs++[d])) else .no | none=>.no
 | _=>.no
theorem z0o {o:Expr} {apos:Pos} {fo fv:FE} (ho:RE X E o fo) (hv:RE X E e fv) (hbase:attributeBase o "append" X.env (eval o X.env)=eval o X.env:=by rfl) (hfew:((backTo pos (starEach [e] X.env)).all (fun x=>!x.1)&&(backToKw pos (keywordEach [] X.env)).all (fun x=>x.1.isSome) && decide ([e].length+([]:List Keyword).length+(if ([]:List Keyword).isEmpty then 0 else 1)<30))=true:=by rfl) (hline:(apos.endLine==pos.line)=true:=by rfl) (hs:starEach [e] X.env=(false,eval e X.env)::starEach [] X.env:=by rfl) (hplain:(backTo pos (starEach [] X.env)).any (·.1)=false:=by rfl): RE X E (.Call (.Attribute o "append" apos) [e] [] pos) (zbc fo fv):= zX (ze9 PySem.F.plainAttrs_list PySem.F.slot_list_append PySem.F.type_list_append z8V ho (jZ hv z3x hs) hbase hfew hline hs hplain) fun O H Q ⟨Y,ρ,s,r,en,h⟩=>by
  unfold zbc at h;refine ⟨Y,ρ,s,r,en,(okR.bind (Dn:=Den (gm X)) h).imp fun ov H1 ⟨Y1,s1,od,stp,dn,h1⟩=>?_⟩;cases od with
  | loc l=>
   simp only at h1;have hty:tyV X.K "list" ov H1:=by
    simp only [Den] at dn;obtain ⟨a,rfl,e1,vs,e2⟩:=dn;exact .inl ⟨rfl,vs,.inl (.inl e2)⟩
   refine ⟨hty,⟨Y1,ρ,s1,stp.rep,en.mono stp,(okR.bind (Dn:=Den (gm X)) h1).imp fun v H2 ⟨Y2,s2,d,stp2,dn2,h2⟩=>?_⟩⟩;split at h2
   ·rename_i xs ex;split at h2
    ·rename_i hf;have dov:=dn.mono stp2;simp only [Den] at dov;obtain ⟨a,rfl,e1,ka⟩:=dov;obtain ⟨vs,q1,q2⟩:=stp2.rep.at_ ex e1 ka;have stp3:=xH.put (l:=l) (xs:=xs++[d]) stp2.rep e1 ka (q2.append (zu.one dn2)) (qq (stp2.rep.flat xs (List.mem_of_getElem? ex)) (by simp [D.flat.flats,hf.1]));refine ⟨a,vs,v,rfl,rfl,q1,by rw [q2.length];exact zeq hf.2,h2 .non _ _ stp3 (by simp [Den])⟩
    ·exact h2.elim
   ·exact h2.elim | _=>exact h1.elim
end
end Dd
namespace L2
open PySem.Spec
theorem zeD{X:Cx}{tg l:Expr}{tl:TE}(hl:PE X l tl):PI X tg l (fun O H R=>tl O H fun x H1=>∃ a,x=.ref a/\(((∃ xs,SqL X.K H1 a xs)/\R (Itl X.K a) H1)\/((∃ xs,SqT X.K H1 a xs)/\R (Itt X.K a) H1))):=by
 intro pins s O H R I h;refine thn (hl pins s O H _ I h) fun v s1 ⟨x,H1,I1,r1,q1⟩=>?_;obtain ⟨a,e,q⟩:=q1;subst e;cases r1;rcases q with ⟨⟨xs,hq⟩,q⟩ | ⟨⟨xs,hq⟩,q⟩
 ·obtain ⟨its,rv,p,hz⟩:=I1.list hq;refine wpAny_pyIter_list p.isList ?_;refine ⟨s1.heap.objs.size,[s1.heap.objs.size],_,_,H1,rfl,I1.kept (t':=s1.toks) fun b o e=>Heap.get?_push_of_some _ e,z8t a _,⟨_,Heap.get?_push_size _ rfl,rfl,rfl⟩,fun b hb=>?_,q⟩;have e:b=s1.heap.objs.size:=by simpa using hb
  subst e;exact I1.fpOk (Nat.le_refl _) (I1.hok.fresh (Nat.le_refl _))
 ·obtain ⟨its,rv,p,hz⟩:=I1.tuple hq;refine wpAny_pyIter_tuple (show s1.heap.IsTuple a its.toArray from p) ?_;refine ⟨s1.heap.objs.size,[s1.heap.objs.size],_,_,H1,rfl,I1.kept (t':=s1.toks) fun b o e=>Heap.get?_push_of_some _ e,z7q a _,⟨_,Heap.get?_push_size _ rfl,rfl,rfl⟩,fun b hb=>?_,q⟩;have e:b=s1.heap.objs.size:=by simpa using hb
  subst e;exact I1.fpOk (Nat.le_refl _) (I1.hok.fresh (Nat.le_refl _))
theorem jP.freeze{X:Cx}{pins:List (Addr×Obj)}{O:L2.St}{C:Addr}{Q:VK}{acc:Value}{s':Shared}(h:jP X pins O C (z8G Q) acc s'):jP X pins O C Q acc s':=by
 obtain ⟨v,Hf,I,r,⟨a,xs,rfl,ha,q⟩,hm,f⟩:=h;obtain ⟨its,n,rv,e,_⟩:=I.lst ha;refine ⟨_,_,I.freeze ha e (by intro _ z;cases z) (by intro _ _ z;cases z) (by intro _ z;cases z) (by intro _ z;cases z),r,q _,hm,?_,f.2⟩;rw [zC (fun z=>by have:=f.1;rw [z,ha] at this;cases this)];exact f.1
theorem z5O {X:Cx} {tg iter elt:Expr} {ifs:List Expr} {scope:Scope} {pos spos py:Pos} {wi:TI} {g:TG} {ti:TT} {te:TE} {i:Nat} {y:Str} (N':List Str) (mp:List (Option Nat)) (hN:X.N.Nodup) (hy:X.N[i]? = some y) (hyl:Loc X.env.scope y) (hc:X.calm=true) (hi:PI X tg iter wi) (hg:∀ ex s H,PG (zh X N' scope ex s H) tg g) (ht:∀ ex s H,z6E (zh X N' scope ex s H) ifs ti) (he:∀ ex s H,PE (zh X N' scope ex s H) elt te) (hkd:scope.kind=.function) (hnm:∀ y∈scope.names,scope.names.lookup y.1=some y.2) (hfr:∀ y∈scope.names,y.2=.free->X.env.kindOf y.1=some .cell\/X.env.kindOf y.1=some .free) (hmp:z06 X.N scope.names N' mp=true) (hs:∀ x,foldedSetIterable iter X.env x=pure x:=by intro _;rfl) (hsw:swapsWith (.ListComp elt [⟨tg,iter,ifs,0⟩] scope pos) (some (.Name y py)) spos.line X.env=pure true:=by rfl) (hf:X.fn y=true\/X.env.scope.names.lookup y=some .local:=by first | exact .inl rfl | exact .inr rfl | assumption): PS X (.Assign [.Name y py] (.ListComp elt [⟨tg,iter,ifs,0⟩] scope pos) spos) (fun D O H=>z9S wi mp g ti te O H (z8G fun v H'=>D.nx (O.set i (some v)) H')):=by
 intro pins s O H D I h;rw [exec_Assign_Name_used _ _ _ _ hsw];refine wpAny_bind (wpAny_standAt (wpAny_bind ?_));show wpAny _ X.A (do let _ <- comprehension (.ListComp elt [⟨tg,iter,ifs,0⟩] scope pos) scope X.env _ (newList []) false (eval iter X.env) (some (assign (.Name y py) X.env))) _ _ s;refine wpAny_bind (wpAny_mono (wpAny_comprehension_free (use:=some (assign (.Name y py) X.env)) (Q:=fun _ s'=>SP X pins D .next s') rfl hs (xB fun y hy hf=>I.ok.has _ (hfr y hy hf)) hkd (fun y hy hl=>by rw [hnm y hy,hl]) (thn (hi pins s O H _ I h) fun xv s₁ h₁=>thn h₁ fun itv s₂ h₂=>?_)) (fun _ s' hq=>wpAny_pure (wpAny_pure hq)) fun _ _ e=>e);obtain ⟨it,fp,tn,J,H2,e,I2,T,st2,f2,W,w0,turn⟩:=h₂;subst e;refine ku (N':=N') (mp:=mp) (O:=O) (pins:=pins) (Q:=z8G fun v H'=>D.nx (O.set i (some v)) H') (RR:=fun acc C=>compPost (model X.prog X.w) X.A X.xe (some (assign (.Name y py) X.env)) (fun _ s'=>SP X pins D .next s') acc C) hc hg ht he hkd hnm hfr hmp I2 T st2 f2 W w0 turn ?_;intro acc C s' hd;obtain ⟨v,Hf,I3,r,q,⟨m,hm⟩,f⟩:=hd.freeze;refine wpAny_assign_Name (jo I3 hN hy hyl r (fun s'' I4 ⟨a,sb,ha⟩=>?_) hf);have hC:C≠a:=by
  rcases ha with z | z;·rw [z];exact f.2.1
  ·exact Ne.symm (f.2.2.2.2.1 y a z)
 exact ⟨m,hm.sameBut sb hC,fun h' sb'=>⟨_,Hf,vm I4 f sb',q⟩⟩
end L2
namespace Dd
open PySem.Spec L2
abbrev ItD:=List D×List (Nat×List D)
def okG(g:List (Nat×List D))(all:List D)(s:Sto):Prop:=∀ p∈g,s[p.1]? = some p.2
def z9K(mg:Gm)(H0:Hp)(Y0:List Addr)(a:ItD)(J:It):Prop:=∀ H Y s,xH mg H0 Y0 H Y s->okG a.2 a.1 s->∀ i:Nat, (∀ d,a.1[i]? = some d->J.go i H/\∀ x H',J.yld i H x H'->∃ Y',xH mg H Y H' Y' s/\Den mg H' Y' d x)/\(a.1.length<=i->J.stop i H)
abbrev FI:=Ev->Sto->R ItD
def tI(mg:Gm)(E:XK)(f:FI):TI:=fun O H Rr=>∃ Y ρ s,Rep mg H Y s/\wF mg H Y ρ O/\okR mg E H Y (z9K mg) (f ρ s) Rr
def RI(X:Cx)(E:XK)(tg it:Expr)(f:FI):Prop:=PI X tg it (tI (gm X) E f)
section
variable {X:Cx}{E:XK}{e a b c tg:Expr}{es:List Expr}{pos:Pos}{CX:CXT}
theorem z40{it:Expr}{t t':TI}(h:PI X tg it t)(i:∀ O H Q,t' O H Q->t O H Q):PI X tg it t':=fun pins s O H Q I q=>h pins s O H Q I (i O H Q q)
def yn(f:FE):FI:=fun ρ s=>(f ρ s).bind fun d s1=>match d with
 | .tup xs=>.ok (xs,[]) s1 | .lst xs=>.ok (xs,[]) s1 | .loc l=>match s1[l]? with | some xs=>.ok (xs,[(l,xs)]) s1 | none=>.no
 | _=>.no
theorem ui{f:FE}(h:RE X E e f):RI X E tg e (yn f):=z40 (zeD h) fun O H Q ⟨Y,ρ,s,r,en,h⟩=>by
 unfold yn at h;refine ⟨Y,ρ,s,r,en,(okR.bind (Dn:=Den (gm X)) h).imp fun v H1 ⟨Y1,s1,d,stp,dn,h1⟩=>?_⟩;have lst:∀ (a:Addr)(xs:List D)(g:List (Nat×List D)),(∀ H2 Y2 s2,xH (gm X) H1 Y1 H2 Y2 s2->okG g xs s2->∃ ws,SqL X.K H2 a ws/\zu (gm X) H2 Y2 xs ws)->z9K (gm X) H1 Y1 (xs,g) (Itl X.K a):=fun a xs g hq H2 Y2 s2 stp2 hg i=>by
  obtain ⟨ws,q1,q2⟩:=hq H2 Y2 s2 stp2 hg;refine ⟨fun d hd=>?_,fun hl=>⟨ws,q1,by rw [q2.length];exact hl⟩⟩;obtain ⟨v,e1,e2⟩:=q2.get hd;refine ⟨⟨ws,v,q1,e1⟩,fun x H' ⟨e3,y⟩=>?_⟩;subst e3;have e4:=y ws q1;rw [e1] at e4;cases e4;exact ⟨Y2,.refl stp2.rep,e2⟩
 have tup:∀ (a:Addr)(xs:List D),(∀ H2 Y2 s2,xH (gm X) H1 Y1 H2 Y2 s2->∃ ws,SqT X.K H2 a ws/\zu (gm X) H2 Y2 xs ws)->z9K (gm X) H1 Y1 (xs,[]) (Itt X.K a):=fun a xs hq H2 Y2 s2 stp2 hg i=>by
  obtain ⟨ws,q1,q2⟩:=hq H2 Y2 s2 stp2;refine ⟨fun d hd=>?_,fun hl=>⟨ws,q1,by rw [q2.length];exact hl⟩⟩;obtain ⟨v,e1,e2⟩:=q2.get hd;refine ⟨⟨ws,v,q1,e1⟩,fun x H' ⟨e3,y⟩=>?_⟩;subst e3;have e4:=y ws q1;rw [e1] at e4;cases e4;exact ⟨Y2,.refl stp2.rep,e2⟩
 cases d with
 | tup xs=>
  have h1':okR (gm X) E H1 Y1 (z9K (gm X)) (.ok (xs,[]) s1) Q:=h1;obtain ⟨a,vs,rfl,q1,q2⟩:=qK (K:=X.K) dn;refine ⟨a,rfl,.inr ⟨⟨vs,q1⟩,h1'.here stp.rep (tup a xs fun H2 Y2 s2 stp2=>?_)⟩⟩;have dn2:=dn.mono stp2;obtain ⟨a',ws,e,q3,q4⟩:=qK (K:=X.K) dn2;cases e;exact ⟨ws,q3,q4⟩ | lst xs=>
  have h1':okR (gm X) E H1 Y1 (z9K (gm X)) (.ok (xs,[]) s1) Q:=h1;obtain ⟨a,vs,rfl,q1,q2⟩:=zS (d:=.lst xs) stp.rep rfl dn;refine ⟨a,rfl,.inl ⟨⟨vs,.inl q1⟩,h1'.here stp.rep (lst a xs [] fun H2 Y2 s2 stp2 _=>?_)⟩⟩;obtain ⟨a',ws,e,q3,q4⟩:=zS (d:=.lst xs) stp2.rep rfl (dn.mono stp2);cases e;exact ⟨ws,.inl q3,q4⟩ | loc l=>
  simp only at h1;split at h1
  ·rename_i xs ex;obtain ⟨a,vs,rfl,q1,q2⟩:=zS (d:=.loc l) stp.rep ex dn;refine ⟨a,rfl,.inl ⟨⟨vs,.inl q1⟩,h1.here stp.rep (lst a xs [(l,xs)] fun H2 Y2 s2 stp2 hg=>?_)⟩⟩;obtain ⟨a',ws,e,q3,q4⟩:=zS (d:=.loc l) stp2.rep (hg (l,xs) (by simp)) (dn.mono stp2);cases e;exact ⟨ws,.inl q3,q4⟩
  ·exact h1.elim | _=>exact h1.elim
end
section
variable {X:Cx}{E:XK}{e a b c tg:Expr}{es:List Expr}{pos:Pos}{CX:CXT}
def yO(n:Nat):List D:=(List.range n).map fun (k:Nat)=>D.int ((k:Nat):Int)
def z1g(f:FA):FI:=fun ρ s=>(f ρ s).bind fun ds s1=>match ds with
 | [.int j]=>if -(2 ^ 62)<=j/\j<2 ^ 62 then .ok (yO j.toNat,[]) s1 else .no | _=>.no
theorem wV{p:Pos}{f:FA}(hg:Gl X "range")(hm:X.mg "range"=none)(ha:RA X E [a] f)(hs:starEach [a] X.env=[(false,eval a X.env)]:=by rfl):RI X E tg (.Call (.Name "range" p) [a] [] pos) (z1g f):= z40 (z8e hg hm ha hs) fun O H Q ⟨Y,ρ,s,r,en,h⟩=>by
  unfold z1g at h;refine ⟨Y,ρ,s,r,en,(okR.bind (Dn:=zu (gm X)) h).imp fun vs H1 ⟨Y1,s1,ds,stp,dn,h1⟩=>?_⟩;split at h1
  ·rename_i j;split at h1
   ·rename_i hj;obtain ⟨v,rfl,d1⟩:=z0e dn;cases zW d1;refine ⟨j,rfl,hj.1,hj.2,h1.here stp.rep fun H2 Y2 s2 stp2 _ i=>⟨fun d hd=>?_,fun hl=>?_⟩⟩
    ·have hi:i<j.toNat:=by
      have:=(List.getElem?_eq_some_iff.mp hd).1;simpa [yO] using this
     refine ⟨hi,fun x H' ⟨e1,e2⟩=>?_⟩;subst e1 e2;refine ⟨Y2,.refl stp2.rep,?_⟩;have e3:d=D.int i:=by
      simp only [yO,List.getElem?_map,List.getElem?_range hi,Option.map_some,Option.some.injEq] at hd;exact hd.symm
     rw [e3];simp [Den]
    ·have:(yO j.toNat).length=j.toNat:=by simp [yO]
     show j.toNat<=i;rw [<- this];exact hl
   ·exact h1.elim
  ·exact h1.elim
open Classical in
def vX(g:List (Nat×List D))(all:List D)(body:D->Ev->Sto->R Fl):List D->Ev->Sto->R Fl
 | [],ρ,s=>if okG g all s then .ok (.nx ρ) s else .no | x::xs,ρ,s=>if okG g all s then (body x ρ s).bind fun fl s1=>match fl with
   | .nx ρ'=>vX g all body xs ρ' s1 | .ct ρ'=>vX g all body xs ρ' s1 | .bk ρ'=>.ok (.nx ρ') s1 | .rt d=>.ok (.rt d) s1 else .no
def z7I(fi:FI)(fg:FG)(fb:FS):FS:=fun ρ s=>(fi ρ s).bind fun it s1=>vX it.2 it.1 (fun d ρ s=>(fg d ρ s).bind fun ρ' s'=>fb ρ' s') it.1 ρ s1
theorem z2B {iter:Expr} {body:List Stmt} {fi:FI} {fg:FG} {fb:FS} (hp:PassesOwn (model X.prog X.w) X.A X.env X.xe) (hc:X.calm=true) (hi:RI X E tg iter fi) (hg:RG X E tg fg) (hb:RSs X E body fb) (hs:∀ x,foldedSetIterable iter X.env x=pure x:=by intro _;rfl):RS X E (.For tg iter body [] pos) (z7I fi fg fb):= uA (zeV hp hc hi hg hb hs) fun D O H ⟨Y,ρ,s,r,en,h⟩=>by
  unfold z7I at h;refine ⟨Y,ρ,s,r,en,(okR.bind (Dn:=z9K (gm X)) h).imp fun J H1 ⟨Y1,s1,it,stp,ok,h1⟩=>?_⟩;obtain ⟨items,g⟩:=it;simp only at h1;refine ⟨fun i m O H=>∃ Y ρ s,xH (gm X) H1 Y1 H Y s/\wF (gm X) H Y ρ O/\m=items.length-i/\i<=items.length/\ okR (gm X) E H Y (FlD (gm X)) (vX g items (fun d ρ s=>(fg d ρ s).bind fun ρ' s'=>fb ρ' s') (items.drop i) ρ s) (z6k D), ⟨items.length,Y1,ρ,s1,.refl stp.rep,en.mono stp,by simp,Nat.zero_le _,by simpa using h1⟩,?_⟩;rintro i m O H ⟨Y2,ρ2,s2,stp2,en2,rfl,hil,h2⟩;by_cases hlt:i<items.length
  ·right;rw [List.drop_eq_getElem_cons hlt,vX] at h2;split at h2
   ·rename_i hG;obtain ⟨go,yl⟩:=((ok H Y2 s2 stp2 hG i).1 items[i] (List.getElem?_eq_getElem hlt));refine ⟨go,fun O' H'=>∃ Y ρ s,xH (gm X) H1 Y1 H' Y s/\wF (gm X) H' Y ρ O'/\okR (gm X) E H' Y (FlD (gm X)) (vX g items (fun d ρ s=>(fg d ρ s).bind fun ρ' s'=>fb ρ' s') (items.drop (i+1)) ρ s) (z6k D), fun O' H' ⟨Y3,ρ3,s3,q1,q2,q3⟩=>⟨items.length-(i+1),by omega,Y3,ρ3,s3,q1,q2,rfl,hlt,q3⟩,fun x H' y=>?_⟩;obtain ⟨Y3,stp3,dn3⟩:=yl x H' y;have h3:=okR.rebase h2 stp3;have h4:=okR.bind (Dn:=FlD (gm X)) h3;refine ⟨Y3,ρ2,s2,items[i],stp3.rep,en2.mono stp3,dn3,(okR.bind (Dn:=wF (gm X)) h4).imp fun O5 H5 ⟨Y5,s5,ρ5,stp5,en5,h5⟩=>?_⟩;refine ⟨Y5,ρ5,s5,stp5.rep,en5,h5.imp fun fv H6 ⟨Y6,s6,fl,stp6,dn6,q6⟩=>?_⟩;have all6:xH (gm X) H1 Y1 H6 Y6 s6:=(stp2.trans stp3).trans stp6;cases fl with
    | nx ρ'=> cases fv with
     | nx O'=>exact ⟨Y6,ρ',s6,all6,dn6,q6⟩ | _=>exact (show False from dn6).elim
    | ct ρ'=> cases fv with
     | ct O'=>exact ⟨Y6,ρ',s6,all6,dn6,q6⟩ | _=>exact (show False from dn6).elim
    | bk ρ'=> cases fv with
     | bk O'=>exact okR.here (b:=FlV.nx O') (Q:=z6k D) (a:=Fl.nx ρ') (s:=s6) q6 stp6.rep dn6 | _=>exact (show False from dn6).elim
    | rt d=> cases fv with
     | rt v=>exact okR.here (b:=FlV.rt v) (Q:=z6k D) (a:=Fl.rt d) (s:=s6) q6 stp6.rep dn6 | _=>exact (show False from dn6).elim
   ·exact h2.elim
  ·left;have e:i=items.length:=by omega
   subst e;rw [List.drop_length,vX] at h2;split at h2
   ·rename_i hG;exact ⟨(ok H Y2 s2 stp2 hG _).2 (Nat.le_refl _),okR.here (b:=FlV.nx O) (Q:=z6k D) h2 stp2.rep en2⟩
   ·exact h2.elim
end
end Dd
namespace Zz
def Sit(b:Bool)(h:Heap)(it l:Addr)(k:Nat):Prop:=match b with
 | true=>h.IsListIter it l k | false=>h.IsTupleIter it l k
def Sco(b:Bool)(h:Heap)(l:Addr)(xs:Array Value):Prop:=match b with
 | true=>h.IsList l xs | false=>h.IsTuple l xs
theorem Sit.to{b:Bool}{h h':Heap}{it l:Addr}{k:Nat}(x:Sit b h it l k)(e:∀ o,h.get? it=some o->h'.get? it=some o):Sit b h' it l k:=by cases b with
 | true=>obtain ⟨o,ho,r⟩:=x;exact ⟨o,e _ ho,r⟩ | false=>obtain ⟨o,ho,r⟩:=x;exact ⟨o,e _ ho,r⟩
theorem Sco.to{b:Bool}{h h':Heap}{l:Addr}{xs:Array Value}(x:Sco b h l xs)(e:∀ o,h.get? l=some o->h'.get? l=some o):Sco b h' l xs:=by cases b with
 | true=>obtain ⟨o,ho,r⟩:=x;exact ⟨o,e _ ho,r⟩ | false=>obtain ⟨o,ho,r⟩:=x;exact ⟨o,e _ ho,r⟩
theorem Sit.lt{b:Bool}{h:Heap}{it l:Addr}{k:Nat}(x:Sit b h it l k):it<h.objs.size:=by cases b with
 | true=>obtain ⟨o,ho,r⟩:=x;exact Heap.lt_size ho | false=>obtain ⟨o,ho,r⟩:=x;exact Heap.lt_size ho
theorem Sit.ob{b:Bool}{h:Heap}{it l:Addr}{k:Nat}(x:Sit b h it l k):∃ o,h.get? it=some o/\∀ v,o.data≠.cell v:=by cases b with
 | true=>obtain ⟨o,ho,_,d⟩:=x;exact ⟨o,ho,fun v z=>by rw [d] at z;cases z⟩ | false=>obtain ⟨o,ho,_,d⟩:=x;exact ⟨o,ho,fun v z=>by rw [d] at z;cases z⟩
section
variable {P:Program}{w:World}{A:Around}{E:Value->Shared->Prop}{s:Shared}
theorem zfi{it l:Addr}{k:Nat}{xs:Array Value}{x:Value}{R:Value->Shared->Prop}(h1:s.heap.IsTupleIter it l k)(h2:s.heap.IsTuple l xs)(e:xs[k]? = some x) (q:∀ h',h'.IsTupleIter it l (k+1)->Heap.SameBut it s.heap h'->R x {s with heap:=h'}):wpAny (model P w) A (Builtin.SmallTypes.nextOf (.ref it)) R E s:=by
 obtain ⟨o,ho,hc,hd⟩:=id h1;obtain ⟨ol,hol,_,nl,hdl⟩:=h2;unfold Builtin.SmallTypes.nextOf;refine wpAny_bind (wpAny_callSpecial?_slot (name:=Str.ofString "__next__") h1.typeIs F.slot_tuple_iterator_next (wpAny_call_entry F.slot_tuple_iterator_next h1.typeIs F.entry_tuple_iterator_next ?_ (F.args_tuple_iterator_next_1 _)));show wpAny _ _ (field (.ref it) 0 >>= _) _ _ s;refine wpAny_bind (wpAny_field ho hd (x:=.ref l) rfl ?_);show wpAny _ _ (if (Value.ref l==Value.none)=true then _ else _) _ _ s;rw [if_neg (show ¬ ((Value.ref l==Value.none)=true) from Bool.false_ne_true)];show wpAny _ _ (field (.ref it) 1 >>= _) _ _ s;refine wpAny_bind (wpAny_field ho hd (x:=.int k 0) rfl ?_);show wpAny _ _ (seqItems? (.ref l) >>= _) _ _ s;refine wpAny_bind (wpAny_seqItems hol hdl ?_);simp only [Int.toNat_natCast,e];refine wpAny_bind (wpAny_setField ho hd (by simp) (wpAny_pure ⟨x,rfl,wpAny_pure (q _ ?_ (Heap.SameBut.update ..))⟩));exact ⟨_,Heap.get?_update_self _ ho (Obj.isFreed_of_fields (Obj.data_mapFields hd _)),(Obj.cls_mapFields ..).trans hc,by rw [Obj.data_mapFields hd];simp [rawInt]⟩
theorem z7B {it l:Addr} {k:Nat} {xs:Array Value} {R:Value->Shared->Prop} (hh:A.handled=none) (h1:s.heap.IsTupleIter it l k) (h2:s.heap.IsTuple l xs) (e:xs[k]? = none) (q:∀ h' e,Heap.ExtBut it s.heap h'->(∃ o,h'.get? e=some o/\o.cls=.type "StopIteration")->E (.ref e) {s with heap:=h'}):wpAny (model P w) A (Builtin.SmallTypes.nextOf (.ref it)) R E s:=by
 obtain ⟨o,ho,hc,hd⟩:=id h1;obtain ⟨ol,hol,_,nl,hdl⟩:=h2;unfold Builtin.SmallTypes.nextOf;refine wpAny_bind (wpAny_callSpecial?_slot (name:=Str.ofString "__next__") h1.typeIs F.slot_tuple_iterator_next (wpAny_call_entry F.slot_tuple_iterator_next h1.typeIs F.entry_tuple_iterator_next ?_ (F.args_tuple_iterator_next_1 _)));show wpAny _ _ (field (.ref it) 0 >>= _) _ _ s;refine wpAny_bind (wpAny_field ho hd (x:=.ref l) rfl ?_);show wpAny _ _ (if (Value.ref l==Value.none)=true then _ else _) _ _ s;rw [if_neg (show ¬ ((Value.ref l==Value.none)=true) from Bool.false_ne_true)];show wpAny _ _ (field (.ref it) 1 >>= _) _ _ s;refine wpAny_bind (wpAny_field ho hd (x:=.int k 0) rfl ?_);show wpAny _ _ (seqItems? (.ref l) >>= _) _ _ s;refine wpAny_bind (wpAny_seqItems hol hdl ?_);simp only [Int.toNat_natCast,e];refine wpAny_bind (wpAny_rule (wpAny_bind (wpAny_setField ho hd (by simp) ?_)));show wpAny _ _ (newExc (.type "StopIteration") [] >>= _) _ _ _;refine wpAny_bind ?_;simp only [newExc,newTuple];refine wpAny_bind (wpAny_newObj_type ?_ (by size_fits));refine wpAny_bind (m:=firstArgMember _ _) (wpAny_of_eq (a:=Value.none) (by first | rfl | (simp only [firstArgMember];rfl)) ?_);refine wpAny_newObj_type ?_ (by size_fits);simp only [raiseNew];refine wpAny_bind (wpAny_handled ?_);first | rw [show A.in1.handled=none from hh] | rw [hh]
 refine wpAny_bind (wpAny_pure (wpAny_throw ?_));exact q _ _ (((Heap.SameBut.update ..).extBut.push _).push _) ⟨_,Heap.get?_push_size _ rfl,rfl⟩
theorem nx{b:Bool}{it l:Addr}{k:Nat}{xs:Array Value}{x:Value}{R:Value->Shared->Prop}(h1:Sit b s.heap it l k)(h2:Sco b s.heap l xs)(e:xs[k]? = some x) (q:∀ h',Sit b h' it l (k+1)->Heap.SameBut it s.heap h'->R x {s with heap:=h'}):wpAny (model P w) A (Builtin.SmallTypes.nextOf (.ref it)) R E s:=by cases b with
 | true=>exact wpAny_nextOf_list_item h1 h2 e q | false=>exact zfi h1 h2 e q
theorem z9y {b:Bool} {it l:Addr} {k:Nat} {xs:Array Value} {R:Value->Shared->Prop} (hh:A.handled=none) (h1:Sit b s.heap it l k) (h2:Sco b s.heap l xs) (e:xs[k]? = none) (q:∀ h' e,Heap.ExtBut it s.heap h'->(∃ o,h'.get? e=some o/\o.cls=.type "StopIteration")->E (.ref e) {s with heap:=h'}):wpAny (model P w) A (Builtin.SmallTypes.nextOf (.ref it)) R E s:=by cases b with
 | true=>exact wpAny_nextOf_list_end hh h1 h2 e q | false=>exact z7B hh h1 h2 e q
theorem zo{a:Addr}{h h':Heap}(hs:Heap.SameBut a h h'){b:Addr}{o:Obj}(n:b≠a)(e:h.get? b=some o):h'.get? b=some o:=hs.extBut _ _ n e
theorem zda {z TI TO i1 i2 l1 l2:Addr} {b1 b2:Bool} {k:Nat} {xs ys:Array Value} {x y a b:Value} {Q:Option Value->Shared->Prop} (D:ZipApart z TI TO i1 i2 l1 l2) (hz:IsZip s.heap z TI TO .none) (hTI:IsPair s.heap TI (.ref i1) (.ref i2)) (hTO:IsPair s.heap TO a b) (h1:Sit b1 s.heap i1 l1 k) (h2:Sit b2 s.heap i2 l2 k) (c1:Sco b1 s.heap l1 xs) (c2:Sco b2 s.heap l2 ys) (ex:xs[k]? = some x) (ey:ys[k]? = some y) (q:∀ h',IsZip h' z TI TO (rawInt s.heap.objs.size)->IsPair h' TO x y->Sit b1 h' i1 l1 (k+1)->Sit b2 h' i2 l2 (k+1)->IsPair h' s.heap.objs.size x y->h'.objs.size=s.heap.objs.size+1-> (∀ c o,c≠z->c≠TO->c≠i1->c≠i2->s.heap.get? c=some o->h'.get? c=some o)->Q (some (.ref s.heap.objs.size)) {s with heap:=h'}):wpAny (model P w) A (pyNext (.ref z)) Q E s:=by
 have hT:s.TypeIs (.ref z) "zip":=⟨_,hz,rfl⟩;unfold pyNext;refine wpAny_bind (wpAny_attempt (wpAny_callSpecial?_slot (name:=Str.ofString "__next__") hT F.slot_zip_next (wpAny_call_entry F.slot_zip_next hT F.entry_zip_next (Q:=fun v s'=>wpAny (model P w) A (pure (some v)) Q E s') ?_ (F.args_zip_next_1 _))));show wpAny _ _ (field (.ref z) 2 >>= _) _ _ _;refine wpAny_bind (wpAny_field hz rfl (x:=.bool false) rfl ?_);show wpAny _ _ (field (.ref z) 3 >>= _) _ _ _;refine wpAny_bind (wpAny_field hz rfl (x:=.ref TI) rfl ?_);refine wpAny_bind (wpAny_seqItems hTI rfl ?_);show wpAny _ _ (Builtin.SmallTypes.ownedTupleIsFree (.ref z) >>= _) _ _ _;refine wpAny_bind ?_;unfold Builtin.SmallTypes.ownedTupleIsFree;refine wpAny_bind (wpAny_field hz rfl (x:=.none) rfl (wpAny_pure ?_));simp only [if_true];refine wpAny_bind (wpAny_rule ?_);refine wpAny_bind (wpAny_field hz rfl (x:=.ref TO) rfl ?_);refine wpAny_bind (wpAny_setField_rec hz (by simp) fun g1 z1 s1=>?_);replace z1:IsZip g1 z TI TO .ellipsis:=z1;refine wpAny_bind ?_;simp only [List.zipIdx_cons,List.zipIdx_nil,List.forIn_cons,List.forIn_nil];refine wpAny_bind (wpAny_bind (wpAny_onRaise ?_));show wpAny _ _ (Builtin.SmallTypes.nextOf (.ref i1) >>= _) _ _ _;refine wpAny_bind (nx (h1.to fun o e=>zo s1 D.i1z e) (c1.to fun o e=>zo s1 D.l1z e) ex fun g2 t2 s2=>wpAny_pure ?_);have o2:IsPair g2 TO a b:=zo s2 D.TOi1 (zo s1 D.TOz hTO);refine wpAny_bind (wpAny_seqItems o2 rfl ?_);refine wpAny_bind (wpAny_updateSeq_pair o2 fun g3 o3 s3=>?_);replace o3:IsPair g3 TO x b:=o3;refine wpAny_bind (wpAny_letGo (wpAny_pure ?_));refine wpAny_bind (wpAny_bind (wpAny_onRaise ?_));show wpAny _ _ (Builtin.SmallTypes.nextOf (.ref i2) >>= _) _ _ _;refine wpAny_bind (nx (h2.to fun o e=>zo s3 D.TOi2.symm (zo s2 D.i12.symm (zo s1 D.i2z e))) (c2.to fun o e=>zo s3 D.l2TO (zo s2 D.l2i1 (zo s1 D.l2z e))) ey fun g4 t4 s4=>wpAny_pure ?_);have o4:IsPair g4 TO x b:=zo s4 D.TOi2 o3;refine wpAny_bind (wpAny_seqItems o4 rfl ?_);refine wpAny_bind (wpAny_updateSeq_pair o4 fun g5 o5 s5=>?_);replace o5:IsPair g5 TO x y:=o5;refine wpAny_bind (wpAny_letGo (wpAny_pure (wpAny_pure ?_)));refine wpAny_bind (wpAny_seqItems o5 rfl ?_);refine wpAny_bind (wpAny_newTuple ?_);have sz:g5.objs.size=s.heap.objs.size:=by rw [s5.1,s4.1,s3.1,s2.1,s1.1]
 have z5:IsZip g5 z TI TO .ellipsis:=zo s5 D.TOz.symm (zo s4 D.i2z.symm (zo s3 D.TOz.symm (zo s2 D.i1z.symm z1)));have k5:∀ c o,c≠z->c≠TO->c≠i1->c≠i2->s.heap.get? c=some o->g5.get? c=some o:=fun c o n1 n2 n3 n4 e=>zo s5 n2 (zo s4 n4 (zo s3 n2 (zo s2 n3 (zo s1 n1 e))));have t5:Sit b1 g5 i1 l1 (k+1):=t2.to fun o e=>zo s5 D.TOi1.symm (zo s4 D.i12 (zo s3 D.TOi1.symm e));have u5:Sit b2 g5 i2 l2 (k+1):=t4.to fun o e=>zo s5 D.TOi2.symm e;have zl:z<g5.objs.size:=Heap.lt_size z5;show wpAny _ _ (Builtin.SmallTypes.ownedTupleHandOut (.ref z) (.ref g5.objs.size) >>= _) _ _ _;refine wpAny_bind ?_;unfold Builtin.SmallTypes.ownedTupleHandOut;have z6:IsZip (g5.push {cls:=.type "tuple",data:=.seq #[x,y]}) z TI TO .ellipsis:=Heap.get?_push_of_some _ z5;refine wpAny_bind (wpAny_setField_rec z6 (by simp) fun g7 z7 s7=>?_);replace z7:IsZip g7 z TI TO (rawInt g5.objs.size):=z7;refine wpAny_setField_rec z7 (by simp) fun g8 z8 s8=>?_;replace z8:IsZip g8 z TI TO (rawInt g5.objs.size):=z8;have up:∀ c o,c≠z->g5.get? c=some o->g8.get? c=some o:=fun c o n e=>zo s8 n (zo s7 n (Heap.get?_push_of_some _ e));have p8:IsPair g8 g5.objs.size x y:=zo s8 (Nat.ne_of_gt zl) (zo s7 (Nat.ne_of_gt zl) (Heap.get?_push_size _ rfl));have e8:g8.objs.size=g5.objs.size+1:=by rw [s8.1,s7.1,Heap.size_push]
 rw [sz] at z8 p8 e8;refine wpAny_pure ⟨_,rfl,wpAny_pure ?_⟩;show Q (some (.ref g5.objs.size)) _;rw [sz];exact q g8 z8 (up _ _ D.TOz o5) (t5.to fun o e=>up _ o D.i1z e) (u5.to fun o e=>up _ o D.i2z e) p8 e8 fun c o n1 n2 n3 n4 e=>up c o n1 (k5 c o n1 n2 n3 n4 e)
theorem zeN {z TI TO i1 i2 l1 l2:Addr} {b1 b2:Bool} {k:Nat} {xs ys:Array Value} {a b:Value} {Q:Option Value->Shared->Prop} (hh:A.handled=none) (D:ZipApart z TI TO i1 i2 l1 l2) (hz:IsZip s.heap z TI TO .none) (hTI:IsPair s.heap TI (.ref i1) (.ref i2)) (hTO:IsPair s.heap TO a b) (h1:Sit b1 s.heap i1 l1 k) (h2:Sit b2 s.heap i2 l2 k) (c1:Sco b1 s.heap l1 xs) (c2:Sco b2 s.heap l2 ys) (en:xs[k]? = none\/ys[k]? = none) (q:∀ h',(∀ c o,c≠z->c≠TO->c≠i1->c≠i2->s.heap.get? c=some o->h'.get? c=some o)->Q none {s with heap:=h'}):wpAny (model P w) A (pyNext (.ref z)) Q E s:=by
 have hT:s.TypeIs (.ref z) "zip":=⟨_,hz,rfl⟩;have fin:∀ h' e,(∀ c o,c≠z->c≠TO->c≠i1->c≠i2->s.heap.get? c=some o->h'.get? c=some o)->(∃ o,h'.get? e=some o/\o.cls=.type "StopIteration")-> wpAny (model P w) A (isInstance (.ref e) (.type "StopIteration") >>= fun b=>if b=true then (pure none:Sem (Option Value)) else throw (.ref e)) Q E {s with heap:=h'}:=fun h' e hk he=>by
  obtain ⟨o,ho,hc⟩:=he;refine wpAny_bind (wpAny_isInstance (T:="StopIteration") (b:=true) ⟨o,ho,hc⟩ isSubtype_stop ?_);exact wpAny_pure (q _ hk)
 unfold pyNext;refine wpAny_bind (wpAny_attempt (wpAny_callSpecial?_slot (name:=Str.ofString "__next__") hT F.slot_zip_next (wpAny_call_entry F.slot_zip_next hT F.entry_zip_next ?_ (F.args_zip_next_1 _))));show wpAny _ _ (field (.ref z) 2 >>= _) _ _ _;refine wpAny_bind (wpAny_field hz rfl (x:=.bool false) rfl ?_);show wpAny _ _ (field (.ref z) 3 >>= _) _ _ _;refine wpAny_bind (wpAny_field hz rfl (x:=.ref TI) rfl ?_);refine wpAny_bind (wpAny_seqItems hTI rfl ?_);show wpAny _ _ (Builtin.SmallTypes.ownedTupleIsFree (.ref z) >>= _) _ _ _;refine wpAny_bind ?_;unfold Builtin.SmallTypes.ownedTupleIsFree;refine wpAny_bind (wpAny_field hz rfl (x:=.none) rfl (wpAny_pure ?_));simp only [if_true];refine wpAny_bind (wpAny_rule ?_);refine wpAny_bind (wpAny_field hz rfl (x:=.ref TO) rfl ?_);refine wpAny_bind (wpAny_setField_rec hz (by simp) fun g1 z1 s1=>?_);replace z1:IsZip g1 z TI TO .ellipsis:=z1;refine wpAny_bind ?_;simp only [List.zipIdx_cons,List.zipIdx_nil,List.forIn_cons,List.forIn_nil];refine wpAny_bind (wpAny_bind (wpAny_onRaise ?_));show wpAny _ _ (Builtin.SmallTypes.nextOf (.ref i1) >>= _) _ _ _;cases ex:xs[k]? with
 | none=>
  refine wpAny_bind (z9y hh (h1.to fun o e=>zo s1 D.i1z e) (c1.to fun o e=>zo s1 D.l1z e) ex fun g2 e s2 he=>?_);obtain ⟨oe,hoe,hce⟩:=he;have z2:IsZip g2 z TI TO .ellipsis:=s2 _ _ D.i1z.symm z1;have ez:e≠z:=fun t=>by subst t;rw [z2] at hoe;cases hoe;simp at hce
  exact wpAny_setField_rec z2 (by simp) fun g3 _ s3=>fin g3 e (fun c o n1 _ n3 _ t=>zo s3 n1 (s2 _ _ n3 (zo s1 n1 t))) ⟨oe,zo s3 ez hoe,hce⟩ | some x=>
  have ey:ys[k]? = none:=by rcases en with t | t;rw [ex] at t;cases t;exact t
  refine wpAny_bind (nx (h1.to fun o e=>zo s1 D.i1z e) (c1.to fun o e=>zo s1 D.l1z e) ex fun g2 t2 s2=>wpAny_pure ?_);have o2:IsPair g2 TO a b:=zo s2 D.TOi1 (zo s1 D.TOz hTO);refine wpAny_bind (wpAny_seqItems o2 rfl ?_);refine wpAny_bind (wpAny_updateSeq_pair o2 fun g3 o3 s3=>?_);refine wpAny_bind (wpAny_letGo (wpAny_pure ?_));refine wpAny_bind (wpAny_bind (wpAny_onRaise ?_));show wpAny _ _ (Builtin.SmallTypes.nextOf (.ref i2) >>= _) _ _ _;refine wpAny_bind (z9y hh (h2.to fun o e=>zo s3 D.TOi2.symm (zo s2 D.i12.symm (zo s1 D.i2z e))) (c2.to fun o e=>zo s3 D.l2TO (zo s2 D.l2i1 (zo s1 D.l2z e))) ey fun g4 e s4 he=>?_);obtain ⟨oe,hoe,hce⟩:=he;have z4:IsZip g4 z TI TO .ellipsis:=s4 _ _ D.i2z.symm (zo s3 D.TOz.symm (zo s2 D.i1z.symm z1));have ez:e≠z:=fun t=>by subst t;rw [z4] at hoe;cases hoe;simp at hce
  exact wpAny_setField_rec z4 (by simp) fun g5 _ s5=>fin g5 e (fun c o n1 n2 n3 n4 t=>zo s5 n1 (s4 _ _ n4 (zo s3 n2 (zo s2 n3 (zo s1 n1 t))))) ⟨oe,zo s5 ez hoe,hce⟩
end
def itO(b:Bool)(l:Addr):Obj:=match b with
 | true=>{cls:=.type "list_iterator",data:=.fields #[.ref l,.int 0 0]} | false=>{cls:=.type "tuple_iterator",data:=.fields #[.ref l,.int 0 0]}
theorem z41{b:Bool}{h:Heap}{a l:Addr}(e:h.get? a=some (itO b l)):Sit b h a l 0:=by cases b with
 | true=>exact ⟨_,e,rfl,rfl⟩ | false=>exact ⟨_,e,rfl,rfl⟩
theorem z0l(b:Bool)(l:Addr):(itO b l).isFreed=false:=by cases b<;>rfl
section
variable {P:Program}{w:World}{A:Around}{E:Value->Shared->Prop}{s:Shared}
theorem z2d {b:Bool} {l:Addr} {xs:Array Value} {Q:Value->Shared->Prop} (h:Sco b s.heap l xs) (q:Q (.ref s.heap.objs.size) {s with heap:=s.heap.push (itO b l)}):wpAny (model P w) A (pyIter (.ref l)) Q E s:=by cases b with
 | true=>exact wpAny_pyIter_list h q | false=>exact wpAny_pyIter_tuple h q
end
abbrev G1(b1:Bool)(h:Heap)(l1:Addr):Heap:=h.push (itO b1 l1)
abbrev G2(b1 b2:Bool)(h:Heap)(l1 l2:Addr):Heap:=(G1 b1 h l1).push (itO b2 l2)
abbrev G3(b1 b2:Bool)(h:Heap)(l1 l2:Addr):Heap:=(G2 b1 b2 h l1 l2).push {cls:=.type "tuple",data:=.seq #[.ref h.objs.size,.ref (G1 b1 h l1).objs.size]}
abbrev G4(b1 b2:Bool)(h:Heap)(l1 l2:Addr):Heap:=(G3 b1 b2 h l1 l2).push {cls:=.type "tuple",data:=.seq #[.none,.none]}
abbrev G5(b1 b2:Bool)(h:Heap)(l1 l2:Addr):Heap:=(G4 b1 b2 h l1 l2).push {cls:=.type "zip",data:=.fields #[.none,.bool false,.bool false,.ref (G2 b1 b2 h l1 l2).objs.size,.ref (G3 b1 b2 h l1 l2).objs.size]}
theorem z8A (b1 b2:Bool) (l1 l2:Addr) (xs ys:Array Value): Meets (Builtin.«zip.__new__» ⟨[.type "zip",.ref l1,.ref l2],[]⟩) (fun _ R s=>Sco b1 s.heap l1 xs/\Sco b2 s.heap l2 ys/\R (.ok (.ret (.ref (G4 b1 b2 s.heap l1 l2).objs.size))) {s with heap:=G5 b1 b2 s.heap l1 l2}):= .of_wp fun prog w A R s h=>by
  obtain ⟨hp,g,d,tk,os⟩:=s;obtain ⟨c1,c2,h⟩:=h;have hsub:=sub_zip;have q1:Sco b1 (Shared.heap ⟨hp,g,d,tk,os⟩) l1 xs:=c1;have q2:Sco b2 (Shared.heap ⟨hp.push (itO b1 l1),g,d,tk,os⟩) l2 ys:=c2.to fun o e=>Heap.get?_push_of_some _ e;wp_walk using z2d q1,z2d q2;exact ⟨_,rfl,h⟩
section
variable {P:Program}{w:World}{A:Around}{E:Value->Shared->Prop}{s:Shared}
theorem z9M {b1 b2:Bool} {l1 l2:Addr} {xs ys:Array Value} {Q:Value->Shared->Prop} (c1:Sco b1 s.heap l1 xs) (c2:Sco b2 s.heap l2 ys) (h:∀ h',IsZip h' (s.heap.objs.size+4) (s.heap.objs.size+2) (s.heap.objs.size+3) .none->IsPair h' (s.heap.objs.size+2) (.ref s.heap.objs.size) (.ref (s.heap.objs.size+1))-> IsPair h' (s.heap.objs.size+3) .none .none->Sit b1 h' s.heap.objs.size l1 0->Sit b2 h' (s.heap.objs.size+1) l2 0->(∀ c o,s.heap.get? c=some o->h'.get? c=some o)->Q (.ref (s.heap.objs.size+4)) {s with heap:=h'}): wpAny (model P w) A (call (.type "zip") [.ref l1,.ref l2]) Q E s:=by
 refine callType_new F.called_zip (by decide) (F.typeCall_zip_2 _ _) (F.newCall_zip_2 _ _) (fun obj=>F.args_object_init_3 obj _ _) F.entry_zip_new (z8A b1 b2 l1 l2 xs ys) ⟨c1,c2,?_⟩;have z1:(G1 b1 s.heap l1).objs.size=s.heap.objs.size+1:=Heap.size_push ..;have z2:(G2 b1 b2 s.heap l1 l2).objs.size=s.heap.objs.size+2:=by rw [Heap.size_push,z1]
 have z3:(G3 b1 b2 s.heap l1 l2).objs.size=s.heap.objs.size+3:=by rw [Heap.size_push,z2]
 have z4:(G4 b1 b2 s.heap l1 l2).objs.size=s.heap.objs.size+4:=by rw [Heap.size_push,z3]
 have up:∀ {h:Heap} {o:Obj} {c:Addr} {u:Obj},h.get? c=some u->(h.push o).get? c=some u:=fun e=>Heap.get?_push_of_some _ e;have g5:(G5 b1 b2 s.heap l1 l2).get? (G4 b1 b2 s.heap l1 l2).objs.size=some _:=Heap.get?_push_size _ rfl;have g4:(G5 b1 b2 s.heap l1 l2).get? (G3 b1 b2 s.heap l1 l2).objs.size=some _:=up (Heap.get?_push_size _ rfl);have g3:(G5 b1 b2 s.heap l1 l2).get? (G2 b1 b2 s.heap l1 l2).objs.size=some _:=up (up (Heap.get?_push_size _ rfl));have g2:(G5 b1 b2 s.heap l1 l2).get? (G1 b1 s.heap l1).objs.size=some (itO b2 l2):=up (up (up (Heap.get?_push_size _ (z0l b2 l2))));have g1:(G5 b1 b2 s.heap l1 l2).get? s.heap.objs.size=some (itO b1 l1):=up (up (up (up (Heap.get?_push_size _ (z0l b1 l1)))));show _/\_;rw [z2,z3,z4] at g5;rw [z1,z2] at g3;rw [z3] at g4;rw [z1] at g2;rw [z4];exact ⟨⟨_,g5,rfl⟩,h _ g5 g3 g4 (z41 g1) (z41 g2) fun c o e=>up (up (up (up (up e))))⟩
end
end Zz
namespace L2
open PySem.Spec Zz
def Sq(b:Bool)(K:W.Frag)(H:Hp)(a:Addr)(xs:List V):Prop:=match b with
 | true=>SqL K H a xs | false=>SqT K H a xs
section
variable {X:Cx}{pins:List (Addr×Obj)}{O:St}{H:Hp}{s:Shared}{h':Heap}
theorem Inv.sq{b:Bool}{a:Addr}{xs:List V}(I:Inv X pins O H s)(h:Sq b X.K H a xs):∃ its:List Value,yG xs its/\Sco b s.heap a its.toArray:=by cases b with
 | true=>obtain ⟨its,r,p,_⟩:=I.list h;exact ⟨its,r,p.isList⟩ | false=>obtain ⟨its,r,p,_⟩:=I.tuple h;exact ⟨its,r,p⟩
theorem Inv.sq_inj{b:Bool}{a:Addr}{xs ys:List V}(I:Inv X pins O H s)(h:Sq b X.K H a xs)(h':Sq b X.K H a ys):xs=ys:=by cases b with
 | true=>exact I.list_inj h h' | false=>exact I.tuple_inj h h'
theorem Inv.turnedL {t':Nat} {ch:List Addr} (I:Inv X pins O H s) (k:∀ b o,b∉ch->s.heap.get? b=some o->h'.get? b=some o) (f:∀ b∈ch,z1P X pins H b):Inv X pins O H {s with heap:=h',toks:=t'}:=by
 have nit:∀ b u,H b=some u->b∉ch:=fun b u e z=>by rw [(f b z).1] at e;cases e
 refine I.step (g':=s.gens) (d':=s.drawn) (ch:=ch) (fun b hb=>⟨(f b hb).2.2.2.1,(f b hb).2.1,(f b hb).2.2.2.2.1,(f b hb).2.2.2.2.2⟩) (fun b o _ _ hc e _=>k b o hc e) (fun b o _ _ hc e _=>⟨o.slots,k b o hc e⟩) (fun _ _ _ _ n=>n) (fun b o hc e=>⟨o,k b o hc e⟩) (fun _ _ e=>e) (fun _ _ _ e=>e) (fun b ps e=>⟨#[],by rw [e];simp⟩) (fun m hm=>?_) (fun b u e=>?_) I.bare
 ·obtain ⟨o,es,ep,ho,r⟩:=hm;exact ⟨o,es,ep,k _ o (fun z=>(f _ z).2.1 rfl) ho,r⟩
 ·refine (I.hok b u e).stay (fun c v hc q=>k c v ?_ q) (fun _ q=>q) fun _ _ q=>q;rcases hc with z | z;·rw [z];exact nit b u e
  ·exact nit c _ z
end
def Itz(K:W.Frag)(b1 b2:Bool)(l1 l2:Addr):It:= ⟨fun i H=>∃ xs ys x y,Sq b1 K H l1 xs/\Sq b2 K H l2 ys/\xs[i]? = some x/\ys[i]? = some y, fun i H v H'=>∃ T x y,H T=none/\v=.ref T/\H'=upd H T (.tup [x,y])/\(∀ xs,Sq b1 K H l1 xs->xs[i]? = some x)/\∀ ys,Sq b2 K H l2 ys->ys[i]? = some y, fun i H=>∃ xs ys,Sq b1 K H l1 xs/\Sq b2 K H l2 ys/\(xs.length<=i\/ys.length<=i)⟩
theorem zaC {P:Program} {w:World} {K:W.Frag} {elts:List Expr} {kt:Nat} {tp:Pos} {b1 b2:Bool} {z TI TO i1 i2 l1 l2:Addr} (D:ZipApart z TI TO i1 i2 l1 l2): zby P w K (.Tuple elts kt tp) (Itz K b1 b2 l1 l2) [z,TI,TO,i1,i2] z (fun i h=>IsZip h z TI TO .none/\IsPair h TI (.ref i1) (.ref i2)/\(∃ a b,IsPair h TO a b)/\Sit b1 h i1 l1 i/\Sit b2 h i2 l2 i) where
 mem:=by simp
 obj:=fun i h ⟨hz,hTI,⟨a,b,hTO⟩,h1,h2⟩ c hc=>by
  have hc':c=z\/c=TI\/c=TO\/c=i1\/c=i2:=by simpa using hc
  rcases hc' with rfl | rfl | rfl | rfl | rfl;·exact ⟨_,hz,fun v e=>by simp at e⟩
  ·exact ⟨_,hTI,fun v e=>by simp at e⟩
  ·exact ⟨_,hTO,fun v e=>by simp at e⟩
  ·exact h1.ob
  ·exact h2.ob
 keep:=fun i h h' ⟨hz,hTI,⟨a,b,hTO⟩,h1,h2⟩ k=>⟨k z (by simp) _ hz,k TI (by simp) _ hTI,⟨a,b,k TO (by simp) _ hTO⟩,h1.to fun o e=>k i1 (by simp) o e,h2.to fun o e=>k i2 (by simp) o e⟩;item:=by
  intro X hP hw hK hc i pins s O H E I hf ⟨hz,hTI,⟨a,b,hTO⟩,h1,h2⟩ ⟨xs,ys,x,y,qx,qy,ex,ey⟩;subst hP hw hK;obtain ⟨ix,rx,cx⟩:=I.sq qx;obtain ⟨iy,ry,cy⟩:=I.sq qy;obtain ⟨u,hu,ru⟩:=rx.get ex;obtain ⟨v,hv,rv⟩:=ry.get ey;refine zda D hz hTI hTO h1 h2 cx cy (x:=u) (y:=v) (by simpa using hu) (by simpa using hv) fun g a1 a2 a3 a4 a5 a6 hk=>⟨_,rfl,?_⟩;have kk:∀ c o,c∉[z,TO,i1,i2]->s.heap.get? c=some o->g.get? c=some o:=fun c o n e=>hk c o (fun t=>n (by simp [t])) (fun t=>n (by simp [t])) (fun t=>n (by simp [t])) (fun t=>n (by simp [t])) e;have sub:∀ c∈[z,TO,i1,i2],c∈[z,TI,TO,i1,i2]:=fun c hc=>by
   have:c=z\/c=TO\/c=i1\/c=i2:=by simpa using hc
   rcases this with rfl | rfl | rfl | rfl<;>simp
  have I1:Inv X pins O H {s with heap:=g}:=I.turnedL (t':=s.toks) kk fun c hc=>hf c (sub c hc);refine wpAny_letOwnedTupleGo_zip a1 fun g2 z2 s2=>?_;obtain ⟨f0,f1,f2,f3,f4,f5⟩:=hf z (by simp);have I2:Inv X pins O H {s with heap:=g2}:=I1.turned (t':=s.toks) (fun c o n e=>zo s2 n e) f0 f1 f3 f4 f5;have new:z1P X pins H s.heap.objs.size:=I.fpOk (Nat.le_refl _) (I.hok.fresh (Nat.le_refl _));have ne:∀ {c:Addr} {o:Obj},s.heap.get? c=some o->c≠s.heap.objs.size:=fun e=>Nat.ne_of_lt (Heap.lt_size e);have p2:IsPair g2 s.heap.objs.size u v:=zo s2 (ne hz).symm a5;refine ⟨.ref s.heap.objs.size,upd H s.heap.objs.size (.tup [x,y]),I2.track new ⟨?_,[u,v],.cons ru (.cons rv .nil),⟨_,p2,rfl,rfl,_,rfl⟩⟩,rfl,⟨_,x,y,new.1,rfl,rfl,fun zs qz=>?_,fun zs qz=>?_⟩,⟨z2,?_,⟨_,_,zo s2 D.TOz a2⟩,a3.to fun o e=>zo s2 D.i1z e,a4.to fun o e=>zo s2 D.i2z e⟩,fun c hc=>?_⟩;·show 2<=sizeLine;decide
  ·rw [I.sq_inj qz qx];exact ex
  ·rw [I.sq_inj qz qy];exact ey
  ·exact zo s2 D.TIz (hk TI _ D.TIz D.TITO D.TIi1 D.TIi2 hTI)
  ·have hc':c=z\/c=TI\/c=TO\/c=i1\/c=i2:=by simpa using hc
   have:c≠s.heap.objs.size:=by
    rcases hc' with rfl | rfl | rfl | rfl | rfl;·exact ne hz
    ·exact ne hTI
    ·exact ne hTO
    ·exact Nat.ne_of_lt h1.lt
    ·exact Nat.ne_of_lt h2.lt
   rw [zC this];exact (hf c hc).1
 done:=by
  intro X hP hw hK hc i pins s O H E I hf ⟨hz,hTI,⟨a,b,hTO⟩,h1,h2⟩ ⟨xs,ys,qx,qy,hl⟩;subst hP hw hK;obtain ⟨ix,rx,cx⟩:=I.sq qx;obtain ⟨iy,ry,cy⟩:=I.sq qy;have lx:=rx.length;have ly:=ry.length;refine zeN (I.ok.hd hc) D hz hTI hTO h1 h2 cx cy ?_ fun g hk=>⟨rfl,?_⟩
  ·rcases hl with hl | hl;·exact .inl (by simp;omega)
   ·exact .inr (by simp;omega)
  ·exact I.turnedL (t':=s.toks) (ch:=[z,TO,i1,i2]) (fun c o n e=>hk c o (fun t=>n (by simp [t])) (fun t=>n (by simp [t])) (fun t=>n (by simp [t])) (fun t=>n (by simp [t])) e) fun c hc=>hf c (by
    have:c=z\/c=TO\/c=i1\/c=i2:=by simpa using hc
    rcases this with rfl | rfl | rfl | rfl<;>simp)
 self:=fun _ _ _ _ _ st h=>wpAny_pyIter_zip st.1 h
theorem zdE{X:Cx}{elts:List Expr}{kt:Nat}{tp:Pos}{a b:Expr}{ta:TA}{p pos:Pos}(hg:Gl X "zip")(hm:X.mg "zip"=none)(ha:PA X [a,b] ta)(hs:starEach [a,b] X.env=(false,eval a X.env)::starEach [b] X.env:=by rfl)(hpl:(backTo pos (starEach [b] X.env)).any (·.1)=false:=by rfl): PI X (.Tuple elts kt tp) (.Call (.Name "zip" p) [a,b] [] pos) (fun O H R=>ta O H fun vs H1=>∃ l1 l2 b1 b2,vs=[.ref l1,.ref l2]/\(∃ xs,Sq b1 X.K H1 l1 xs)/\(∃ ys,Sq b2 X.K H1 l2 ys)/\R (Itz X.K b1 b2 l1 l2) H1):=by
 intro pins s O H R I h;refine wpAny_Call_Name_kw (qm I hg hm (u:=.type "zip") (by first | exact PySem.boot_zip | rfl | decide +kernel) ?_ (by decide) (by decide));refine PyProof.Rows.callWith_type1 (thn (ha pos pins s O H _ I h) fun us s1 ⟨vs,H1,I1,r1,q1⟩=>?_) hs hpl;obtain ⟨l1,l2,b1,b2,rfl,⟨xs,qx⟩,⟨ys,qy⟩,q⟩:=q1;cases r1 with | cons r1 r2=> cases r2 with | cons r2 r3=>
   cases r3;cases r1;cases r2;obtain ⟨ix,rx,cx⟩:=I1.sq qx;obtain ⟨iy,ry,cy⟩:=I1.sq qy;have lt1:l1<s1.heap.objs.size:=by cases b1 with
    | true=>obtain ⟨o,e,_⟩:=cx;exact Heap.lt_size e | false=>obtain ⟨o,e,_⟩:=cx;exact Heap.lt_size e
   have lt2:l2<s1.heap.objs.size:=by cases b2 with
    | true=>obtain ⟨o,e,_⟩:=cy;exact Heap.lt_size e | false=>obtain ⟨o,e,_⟩:=cy;exact Heap.lt_size e
   have D:ZipApart (s1.heap.objs.size+4) (s1.heap.objs.size+2) (s1.heap.objs.size+3) s1.heap.objs.size (s1.heap.objs.size+1) l1 l2:=by
    have e1:∀ k:Nat,l1≠s1.heap.objs.size+k:=fun k=>Nat.ne_of_lt (Nat.lt_of_lt_of_le lt1 (Nat.le_add_right _ _));have e2:∀ k:Nat,l2≠s1.heap.objs.size+k:=fun k=>Nat.ne_of_lt (Nat.lt_of_lt_of_le lt2 (Nat.le_add_right _ _));have nk:∀ (m j k:Nat),j≠k->m+j≠m+k:=fun m j k h z=>h (Nat.add_left_cancel z);exact ⟨nk _ 2 4 (by decide),nk _ 3 4 (by decide),nk _ 0 4 (by decide),nk _ 1 4 (by decide),nk _ 2 3 (by decide),nk _ 2 0 (by decide),nk _ 2 1 (by decide),nk _ 3 0 (by decide),nk _ 3 1 (by decide),nk _ 0 1 (by decide),e1 4,e1 3,e1 0,e1 1,e2 4,e2 3,e2 0,e2 1⟩
   refine z9M cx cy fun g hz hTI hTO h1 h2 hk=>?_;refine wpAny_pyIter_zip hz ?_;refine ⟨_,_,_,_,H1,rfl,I1.kept (t':=s1.toks) hk,zaC D,⟨hz,hTI,⟨_,_,hTO⟩,h1,h2⟩,fun c hc=>?_,q⟩;have hc':s1.heap.objs.size<=c:=by
    have:c=s1.heap.objs.size+4\/c=s1.heap.objs.size+2\/c=s1.heap.objs.size+3\/c=s1.heap.objs.size\/c=s1.heap.objs.size+1:=by simpa using hc
    rcases this with rfl | rfl | rfl | rfl | rfl<;>first | exact Nat.le_refl _ | exact Nat.le_add_right _ _
   exact I1.fpOk hc' (I1.hok.fresh hc')
end L2
namespace Zz
section
variable {P:Program}{w:World}{A:Around}{E:Value->Shared->Prop}{s:Shared}
theorem z37 {b : Bool} {l : Addr} {its : Array Value} {Q : Value → Shared → Prop} (hh : A.handled = none) (h : Sco b s.heap l its) (k : ∀ s2 : Shared, s2 = { s with heap := s.heap.push (itO b l) } → ∀ St : Nat → Heap → Prop, Walks P w A s.heap.objs.size [s.heap.objs.size, l] [s.heap.objs.size] its.size (fun i v => its[i]? = some v) St → St 0 s2.heap → (∀ c ∈ [s.heap.objs.size, l], c < s2.heap.objs.size) → (∀ h' : Heap, (∀ c o, c ∉ [s.heap.objs.size] → s2.heap.get? c = some o → h'.get? c = some o) → ∀ c o, s.heap.get? c = some o → h'.get? c = some o) → Q (.ref s.heap.objs.size) s2) : wpAny (model P w) A (pyIter (.ref l)) Q E s := by
  have lt : l < s.heap.objs.size := by cases b with
    | true => obtain ⟨o, e, _⟩ := h; exact Heap.lt_size e | false => obtain ⟨o, e, _⟩ := h; exact Heap.lt_size e
  have ne : l ≠ s.heap.objs.size := Nat.ne_of_lt lt;have bd : ∀ c ∈ [s.heap.objs.size, l], c < (s.heap.push (itO b l)).objs.size := fun c hc => by
    have : c = s.heap.objs.size ∨ c = l := by simpa using hc
    rw [Heap.size_push];rcases this with rfl | rfl;· exact Nat.lt_succ_self _
    · exact Nat.lt_succ_of_lt lt
  have old : ∀ h' : Heap, (∀ c o, c ∉ [s.heap.objs.size] → (s.heap.push (itO b l)).get? c = some o → h'.get? c = some o) → ∀ c o, s.heap.get? c = some o → h'.get? c = some o := fun h' hk c o e =>
    hk c o (fun z => by have : c = s.heap.objs.size := by simpa using z
                        exact absurd (this ▸ Heap.lt_size e) (Nat.lt_irrefl _)) (Heap.get?_push_of_some _ e);refine z2d h ?_;have g : (s.heap.push (itO b l)).get? s.heap.objs.size = some (itO b l) := Heap.get?_push_size _ (z0l b l);cases b with
  | true => exact k _ rfl _ (Walks.list hh _ l ne its) ⟨z41 (b := true) g, Sco.to (b := true) h fun o e => Heap.get?_push_of_some _ e⟩ bd old | false => exact k _ rfl _ (Walks.tuple hh _ l ne its) ⟨z41 (b := false) g, Sco.to (b := false) h fun o e => Heap.get?_push_of_some _ e⟩ bd old
end
end Zz
namespace L2
open PySem.Spec Zz
def maxL:List Int->Int
 | []=>0 | x::xs=>xs.foldl max x
def minL:List Int->Int
 | []=>0 | x::xs=>xs.foldl min x
theorem vz:∀ (xs:List Int)(x:Int),x<=xs.foldl max x/\(∀ y∈xs,y<=xs.foldl max x)/\(xs.foldl max x=x\/xs.foldl max x∈xs)
 | [],x=>⟨Int.le_refl _,by simp,.inl rfl⟩ | y::ys,x=>by
  obtain ⟨h1,h2,h3⟩:=vz ys (max x y);refine ⟨by simp only [List.foldl_cons];omega,fun z hz=>?_,?_⟩
  ·simp only [List.foldl_cons];rcases List.mem_cons.mp hz with rfl | hz;·omega
   ·exact h2 z hz
  ·simp only [List.foldl_cons];rcases h3 with h3 | h3
   ·rw [h3];rcases Int.le_total x y with h | h;·exact .inr (by rw [Int.max_eq_right h];simp)
    ·exact .inl (Int.max_eq_left h)
   ·exact .inr (List.mem_cons_of_mem _ h3)
theorem vx:∀ (xs:List Int)(x:Int),xs.foldl min x<=x/\(∀ y∈xs,xs.foldl min x<=y)/\(xs.foldl min x=x\/xs.foldl min x∈xs)
 | [],x=>⟨Int.le_refl _,by simp,.inl rfl⟩ | y::ys,x=>by
  obtain ⟨h1,h2,h3⟩:=vx ys (min x y);refine ⟨by simp only [List.foldl_cons];omega,fun z hz=>?_,?_⟩
  ·simp only [List.foldl_cons];rcases List.mem_cons.mp hz with rfl | hz;·omega
   ·exact h2 z hz
  ·simp only [List.foldl_cons];rcases h3 with h3 | h3
   ·rw [h3];rcases Int.le_total x y with h | h;·exact .inl (Int.min_eq_left h)
    ·exact .inr (by rw [Int.min_eq_right h];simp)
   ·exact .inr (List.mem_cons_of_mem _ h3)
theorem maxL_ge{xs:List Int}:∀ y∈xs,y<=maxL xs:=by cases xs with
 | nil=>simp | cons x xs=>intro y hy;rcases List.mem_cons.mp hy with rfl | hy;exact (vz xs y).1;exact (vz xs x).2.1 y hy
theorem maxL_mem{xs:List Int}(h:xs≠[]):maxL xs∈xs:=by cases xs with
 | nil=>exact absurd rfl h | cons x xs=>rcases (vz xs x).2.2 with e | e;exact (show xs.foldl max x∈x::xs by rw [e];simp);exact List.mem_cons_of_mem _ e
theorem minL_le{xs:List Int}:∀ y∈xs,minL xs<=y:=by cases xs with
 | nil=>simp | cons x xs=>intro y hy;rcases List.mem_cons.mp hy with rfl | hy;exact (vx xs y).1;exact (vx xs x).2.1 y hy
theorem minL_mem{xs:List Int}(h:xs≠[]):minL xs∈xs:=by cases xs with
 | nil=>exact absurd rfl h | cons x xs=>rcases (vx xs x).2.2 with e | e;exact (show xs.foldl min x∈x::xs by rw [e];simp);exact List.mem_cons_of_mem _ e
section
variable {X:Cx}
theorem z2w {ns:List Int} {its:List Value} (r:yG (ns.map V.int) its) {i:Nat} {v:Value} (e:its.toArray[i]? = some v):∃ t,v=.int (ns.getD i 0) t/\i<ns.length:=by
 have e':its[i]? = some v:=by simpa using e
 have hl:=r.length;have hi:i<ns.length:=by
  have:=(List.getElem?_eq_some_iff.mp e').1;simp at hl;omega
 obtain ⟨u,hu,ru⟩:=r.get (i:=i) (x:=V.int ns[i]) (by simp [hi]);rw [e'] at hu;cases hu;obtain ⟨t,rfl⟩:=ru;exact ⟨t,by simp [List.getD,hi],hi⟩
theorem getD_in{ns:List Int}{i:Nat}(h:i<ns.length):ns.getD i 0∈ns:=by
 rw [List.getD,List.getElem?_eq_getElem h];exact List.getElem_mem _
theorem z9j (hc:X.calm=true):wu X (.builtin "max") (fun xs H Q=>∃ b p ns,xs=[.ref p]/\Sq b X.K H p (ns.map V.int)/\ns≠[]/\Q (.int (maxL ns)) H):=by
 intro pins s O H xs us Q I r h;obtain ⟨b,p,ns,rfl,hq,hne,q⟩:=h;obtain ⟨u,rfl,ru⟩:=vals1 r;cases ru;obtain ⟨its,rv,co⟩:=I.sq hq;have hl:its.length=ns.length:=by have:=rv.length;simp at this;omega
 have hn:0<ns.length:=List.length_pos_iff.mpr hne;refine call_max_walk (z37 (I.ok.hd hc) co fun s2 e2 St W st bd old=>?_);subst e2;refine ⟨_,_,_,_,_,_,_,rfl,W,st,bd,by simpa [hl] using hn,CmpOf.ints_gt (fun i=>ns.getD i 0) (fun i v e=>let ⟨t,e1,_⟩:=z2w rv e;⟨t,e1⟩),fun v h' tk e hk=>?_⟩;obtain ⟨t,e1,lt⟩:=z2w rv e;obtain ⟨h1,h2⟩:=argBest_gt (fun i=>ns.getD i 0) (its.toArray.size-1);have em:ns.getD (argBest (fun i j=>decide (ns.getD i 0 > ns.getD j 0)) (its.toArray.size-1)) 0=maxL ns:=by
  refine Int.le_antisymm (maxL_ge _ ?_) ?_;·exact getD_in lt
  ·obtain ⟨j,hj,ej⟩:=List.mem_iff_getElem.mp (maxL_mem hne);have:=h2 j (by simp [hl];omega);simp only [List.getD,List.getElem?_eq_getElem hj,Option.getD_some,ej] at this;simpa [List.getD] using this
 rw [e1,em];exact ⟨.int (maxL ns),H,I.kept (t':=tk) (old h' hk),⟨t,rfl⟩,q⟩
theorem z7U (hc:X.calm=true):wu X (.builtin "min") (fun xs H Q=>∃ b p ns,xs=[.ref p]/\Sq b X.K H p (ns.map V.int)/\ns≠[]/\Q (.int (minL ns)) H):=by
 intro pins s O H xs us Q I r h;obtain ⟨b,p,ns,rfl,hq,hne,q⟩:=h;obtain ⟨u,rfl,ru⟩:=vals1 r;cases ru;obtain ⟨its,rv,co⟩:=I.sq hq;have hl:its.length=ns.length:=by have:=rv.length;simp at this;omega
 have hn:0<ns.length:=List.length_pos_iff.mpr hne;refine call_min_walk (z37 (I.ok.hd hc) co fun s2 e2 St W st bd old=>?_);subst e2;refine ⟨_,_,_,_,_,_,_,rfl,W,st,bd,by simpa [hl] using hn,CmpOf.ints_lt (fun i=>ns.getD i 0) (fun i v e=>let ⟨t,e1,_⟩:=z2w rv e;⟨t,e1⟩),fun v h' tk e hk=>?_⟩;obtain ⟨t,e1,lt⟩:=z2w rv e;obtain ⟨h1,h2⟩:=argBest_lt (fun i=>ns.getD i 0) (its.toArray.size-1);have em:ns.getD (argBest (fun i j=>decide (ns.getD i 0<ns.getD j 0)) (its.toArray.size-1)) 0=minL ns:=by
  refine Int.le_antisymm ?_ (minL_le _ ?_)
  ·obtain ⟨j,hj,ej⟩:=List.mem_iff_getElem.mp (minL_mem hne);have:=h2 j (by simp [hl];omega);simp only [List.getD,List.getElem?_eq_getElem hj,Option.getD_some,ej] at this;simpa [List.getD] using this
  ·exact getD_in lt
 rw [e1,em];exact ⟨.int (minL ns),H,I.kept (t':=tk) (old h' hk),⟨t,rfl⟩,q⟩
theorem all_range{bs:List Bool}:(List.range bs.length).all (fun i=>bs.getD i false)=bs.all id:=by
 rw [Bool.eq_iff_iff];simp only [List.all_eq_true,List.mem_range,id];constructor
 ·intro h x hx;obtain ⟨j,hj,ej⟩:=List.mem_iff_getElem.mp hx;have:=h j hj;simpa [List.getD,hj,ej] using this
 ·intro h i hi;simp only [List.getD,List.getElem?_eq_getElem hi,Option.getD_some];exact h _ (List.getElem_mem _)
theorem z8K (hc:X.calm=true):wu X (.builtin "all") (fun xs H Q=>∃ (b:Bool) (p:Addr) (bs:List Bool),xs=[.ref p]/\Sq b X.K H p (bs.map V.bl)/\Q (.bl (bs.all id)) H):=by
 intro pins s O H xs us Q I r h;obtain ⟨b,p,bs,rfl,hq,q⟩:=h;obtain ⟨u,rfl,ru⟩:=vals1 r;cases ru;obtain ⟨its,rv,co⟩:=I.sq hq;have hl:its.length=bs.length:=by have:=rv.length;simp at this;omega
 refine call_all_walk (z37 (I.ok.hd hc) co fun s2 e2 St W st bd old=>?_);subst e2;refine ⟨_,_,_,_,_,_,fun i=>bs.getD i false,rfl,W,st,fun i v s3 Q3 E3 e q3=>?_,fun h' tk hk=>?_⟩
 ·have e':its[i]? = some v:=by simpa using e
  have hi:i<bs.length:=by have:=(List.getElem?_eq_some_iff.mp e').1;omega
  obtain ⟨u,hu,ru⟩:=rv.get (i:=i) (x:=V.bl bs[i]) (by simp [hi]);rw [e'] at hu;cases hu;cases ru;have:bs.getD i false=bs[i]:=by simp [List.getD,hi]
  have q3:Q3 (bs.getD i false) s3:=q3;rw [this] at q3;exact wpAny_truthy_bool q3
 ·have ez:its.toArray.size=bs.length:=by simp [hl]
  rw [ez,all_range];exact ⟨.bl (bs.all id),H,I.kept (t':=tk) (old h' hk),rfl,q⟩
end
end L2
namespace L2
open PySem.Spec
theorem z5C{X:Cx}:wu X (.builtin "isinstance") (fun xs H Q=>∃ x t T b,xs=[x,.ty T]/\z6d X.K H x t/\W.kitOne X.K t (.type T)=some b/\Q (.bl b) H):=by
 intro pins s O H xs us Q I r h;obtain ⟨x,t,T,b,rfl,ht,hk,q⟩:=h;obtain ⟨u,v,rfl,ru,rv⟩:=vals2 r;cases rv;exact z91 I ru ht hk fun tk=>⟨.bl b,H,I.tok _,rfl,q⟩
end L2
namespace Dd
open PySem.Spec L2
def tyD:D->Option String
 | .non=>some "NoneType" | .bl _=>some "bool" | .int _=>some "int" | .str _=>some "str" | .tup _=>some "tuple" | .lst _=>some "list" | .loc _=>some "list" | .dct=>some "dict" | _=>none
def isT(T t:String):Bool:=t==T||(T=="int"&&t=="bool")
def gIs(T:String):D->Sto->R D:=fun d s=>match tyD d with | some t=>.ok (.bl (isT T t)) s | none=>.no
theorem zcO{K:W.Frag}{t:String}(h:t∈["NoneType","bool","int","str","tuple","list","dict"])(T:String)(hT:T∈["int","bool","str","tuple","list"]):W.kitOne K (.type t) (.type T)=some (isT T t):=by
 have hh:t="NoneType"\/t="bool"\/t="int"\/t="str"\/t="tuple"\/t="list"\/t="dict":=by simpa using h
 have hh':T="int"\/T="bool"\/T="str"\/T="tuple"\/T="list":=by simpa using hT
 rcases hh with rfl | rfl | rfl | rfl | rfl | rfl | rfl<;>rcases hh' with rfl | rfl | rfl | rfl | rfl<;>kernel_rfl
theorem zdZ{mg:Gm}{H:Hp}{Y:List Addr}{s:Sto}{d:D}{v:V}{t:String}(r:Rep mg H Y s)(dn:Den mg H Y d v)(e:tyD d=some t):z6d mg.K H v (.type t)/\t∈["NoneType","bool","int","str","tuple","list","dict"]:=by cases d with
 | non=>simp only [Den] at dn;subst dn;cases e;exact ⟨.non,by simp⟩ | bl b=>cases qO dn;cases e;exact ⟨.bl b,by simp⟩ | int b=>cases zW dn;cases e;exact ⟨.int b,by simp⟩ | str b=>cases z5v dn;cases e;exact ⟨.str b,by simp⟩ | tup b=>
  cases e;simp only [Den] at dn;obtain ⟨a,vs,rfl,h1,_⟩:=dn;exact ⟨.tup h1,by simp⟩ | lst b=>
  cases e;simp only [Den] at dn;obtain ⟨a,o,vs,rfl,h1,_⟩:=dn;exact ⟨.frz h1,by simp⟩ | loc l=>
  cases e;simp only [Den] at dn;obtain ⟨a,rfl,h1,vs,h2⟩:=dn;exact ⟨.lst h2,by simp⟩ | dct=>
  cases e;simp only [Den] at dn;obtain ⟨a,rfl,h1⟩:=dn;exact ⟨.dK h1,by simp⟩ | _=>cases e
section
variable {X:Cx}{E:XK}{e a b c tg:Expr}{es:List Expr}{pos:Pos}{CX:CXT}
def eIs(T:String)(f:FE):FE:=fun ρ s=>(f ρ s).bind fun d s1=>gIs T d s1
theorem z4S{p p2:Pos}{T:String}{tn:Str}{f:FE}(hT:T∈["int","bool","str","tuple","list"])(hv:bootBuiltins tn=some (.type T))(hg:Gl X "isinstance")(hm:X.mg "isinstance"=none)(hg2:Gl X tn)(hm2:X.mg tn=none)(he:RE X E e f) (hn:tn≠"__name__":=by decide)(hd:(tn==("__debug__":Str))=false:=by decide) (hs:starEach [e,.Name tn p2] X.env=(false,eval e X.env)::starEach [.Name tn p2] X.env:=by rfl)(hpl:(backTo pos (starEach [.Name tn p2] X.env)).any (·.1)=false:=by rfl):RE X E (.Call (.Name "isinstance" p) [e,.Name tn p2] [] pos) (eIs T f):= zX (z68 z5C hg hm (by decide +kernel) (jZ he (jZ (zbK hg2 hm2 hv (show xo (.ty T) (.type T) from rfl) hn hd) z3x) hs) (by decide) (by decide) hs hpl) fun O H Q ⟨Y,ρ,s,r,en,h⟩=>by
  refine yL (k:=fun ρ d s1=>gIs T d s1) r en h _ fun v H1 Y1 s1 d r1 en1 dn stp h1=>?_;unfold gIs at h1;split at h1
  ·rename_i t et;obtain ⟨q1,q2⟩:=zdZ r1 dn et;exact ⟨v,.type t,T,isT T t,rfl,q1,zcO q2 T hT,okR.here (b:=V.bl (isT T t)) h1 r1 xl⟩
  ·exact h1.elim
def ziG:List D->Sto->R D
 | [.int i],s=>.ok (.int (if i<0 then -i else i)) s | _,_=>.no
def intsOf:List D->Option (List Int)
 | []=>some [] | .int i::r=>(intsOf r).map (i::·) | _=>none
def bools:List D->Option (List Bool)
 | []=>some [] | .bl i::r=>(bools r).map (i::·) | _=>none
theorem jy:∀ {xs:List D}{ns:List Int},intsOf xs=some ns->xs=ns.map D.int
 | [],ns,h=>by simp [intsOf] at h;subst h;rfl | .int i::r,ns,h=>by
  simp only [intsOf,Option.map_eq_some_iff] at h;obtain ⟨ms,h1,rfl⟩:=h;rw [jy h1];rfl
theorem xN(ns:List Int):intsOf (ns.map D.int)=some ns:=by induction ns with
 | nil=>rfl | cons n ns ih=>simp [intsOf,ih]
theorem z6q:∀ {xs:List D}{ns:List Bool},bools xs=some ns->xs=ns.map D.bl
 | [],ns,h=>by simp [bools] at h;subst h;rfl | .bl i::r,ns,h=>by
  simp only [bools,Option.map_eq_some_iff] at h;obtain ⟨ms,h1,rfl⟩:=h;rw [z6q h1];rfl
theorem z3T(ns:List Bool):bools (ns.map D.bl)=some ns:=by induction ns with
 | nil=>rfl | cons n ns ih=>simp [bools,ih]
theorem jF{mg:Gm}{H:Hp}{Y:List Addr}:∀ {ns:List Int}{vs:List V},zu mg H Y (ns.map D.int) vs->vs=ns.map V.int
 | [],vs,h=>by simpa [zu] using h | n::ns,vs,h=>by
  simp only [List.map_cons,zu] at h;obtain ⟨v,r,rfl,h1,h2⟩:=h;cases zW h1;rw [jF h2];rfl
theorem z6e{mg:Gm}{H:Hp}{Y:List Addr}:∀ {ns:List Bool}{vs:List V},zu mg H Y (ns.map D.bl) vs->vs=ns.map V.bl
 | [],vs,h=>by simpa [zu] using h | n::ns,vs,h=>by
  simp only [List.map_cons,zu] at h;obtain ⟨v,r,rfl,h1,h2⟩:=h;cases qO h1;rw [z6e h2];rfl
def wz:List D->Sto->R D
 | [d],s=>match (zP s d).bind intsOf with | some (n::ns)=>.ok (.int (maxL (n::ns))) s | _=>.no
 | _,_=>.no
def kB:List D->Sto->R D
 | [d],s=>match (zP s d).bind intsOf with | some (n::ns)=>.ok (.int (minL (n::ns))) s | _=>.no
 | _,_=>.no
def z7K:List D->Sto->R D
 | [d],s=>match (zP s d).bind bools with | some ns=>.ok (.bl (ns.all id)) s | none=>.no
 | _,_=>.no
theorem z6v{K:W.Frag}{H:Hp}{a:Addr}{vs:List V}(h:SqL K H a vs\/SqT K H a vs):∃ b,Sq b K H a vs:=h.elim (fun h=>⟨true,h⟩) fun h=>⟨false,h⟩
theorem kT(hc:X.calm=true):∃ r,wu X (.builtin "max") r/\z02 X E r wz:=⟨_,z9j hc,fun H Y s ds vs Q r hd h=>by
 unfold wz at h;split at h
 ·rename_i d;split at h
  ·rename_i n ns e;obtain ⟨xs,e1,e2⟩:=Option.bind_eq_some_iff.mp e;have:=jy e2;subst this;obtain ⟨v,rfl,dn⟩:=z0e hd;obtain ⟨a,ws,rfl,q1,q2⟩:=ug (K:=X.K) r e1 dn;cases jF q2;obtain ⟨b,q⟩:=z6v q1;exact ⟨b,a,n::ns,rfl,q,by simp,h.here r yk⟩
  ·exact h.elim
 ·exact h.elim⟩
theorem z6i(hc:X.calm=true):∃ r,wu X (.builtin "min") r/\z02 X E r kB:=⟨_,z7U hc,fun H Y s ds vs Q r hd h=>by
 unfold kB at h;split at h
 ·rename_i d;split at h
  ·rename_i n ns e;obtain ⟨xs,e1,e2⟩:=Option.bind_eq_some_iff.mp e;have:=jy e2;subst this;obtain ⟨v,rfl,dn⟩:=z0e hd;obtain ⟨a,ws,rfl,q1,q2⟩:=ug (K:=X.K) r e1 dn;cases jF q2;obtain ⟨b,q⟩:=z6v q1;exact ⟨b,a,n::ns,rfl,q,by simp,h.here r yk⟩
  ·exact h.elim
 ·exact h.elim⟩
theorem ze2(hc:X.calm=true):∃ r,wu X (.builtin "all") r/\z02 X E r z7K:=⟨_,z8K hc,fun H Y s ds vs Q r hd h=>by
 unfold z7K at h;split at h
 ·rename_i d;split at h
  ·rename_i ns e;obtain ⟨xs,e1,e2⟩:=Option.bind_eq_some_iff.mp e;have:=z6q e2;subst this;obtain ⟨v,rfl,dn⟩:=z0e hd;obtain ⟨a,ws,rfl,q1,q2⟩:=ug (K:=X.K) r e1 dn;cases z6e q2;obtain ⟨b,q⟩:=z6v q1;exact ⟨b,a,ns,rfl,q,h.here r xl⟩
  ·exact h.elim
 ·exact h.elim⟩
def z2r:List D->List D->List D
 | x::xs,y::ys=>.tup [x,y]::z2r xs ys | _,_=>[]
theorem z0V:∀ (xs ys:List D),(z2r xs ys).length=min xs.length ys.length
 | [],ys=>by simp [z2r] | x::xs,[]=>by simp [z2r] | x::xs,y::ys=>by simp only [z2r,List.length_cons,z0V xs ys];omega
theorem z8w:∀ {xs ys:List D}{i:Nat}{d:D},(z2r xs ys)[i]? = some d->∃ x y,xs[i]? = some x/\ys[i]? = some y/\d=.tup [x,y]
 | [],ys,i,d,h=>by simp [z2r] at h | x::xs,[],i,d,h=>by simp [z2r] at h | x::xs,y::ys,0,d,h=>by simp [z2r] at h;exact ⟨x,y,by simp,by simp,h.symm⟩ | x::xs,y::ys,i+1,d,h=>by
  simp only [z2r,List.getElem?_cons_succ] at h;obtain ⟨a,b,h1,h2,h3⟩:=z8w h;exact ⟨a,b,by simpa using h1,by simpa using h2,h3⟩
def z2Q(s:Sto):D->Option (List D×List (Nat×List D))
 | .tup xs=>some (xs,[]) | .lst xs=>some (xs,[]) | .loc l=>(s[l]?).map fun xs=>(xs,[(l,xs)]) | _=>none
theorem z58{mg:Gm}{H:Hp}{Y:List Addr}{s:Sto}{d:D}{xs:List D}{g:List (Nat×List D)}{v:V}(r:Rep mg H Y s)(h:z2Q s d=some (xs,g))(dn:Den mg H Y d v):okG g [] s/\∃ (b:Bool)(a:Addr),v=.ref a/\ ∀ H2 Y2 s2,xH mg H Y H2 Y2 s2->okG g [] s2->∃ ws,Sq b mg.K H2 a ws/\zu mg H2 Y2 xs ws:=by cases d with
 | tup ys=>
  cases h;obtain ⟨a,vs,rfl,q1,q2⟩:=qK (K:=mg.K) dn;refine ⟨(by intro p hp;simp at hp),false,a,rfl,fun H2 Y2 s2 stp _=>?_⟩;obtain ⟨a',ws,e,q3,q4⟩:=qK (K:=mg.K) (dn.mono stp);cases e;exact ⟨ws,q3,q4⟩ | lst ys=>
  cases h;obtain ⟨a,vs,rfl,q1,q2⟩:=zS (d:=.lst xs) r rfl dn;refine ⟨(by intro p hp;simp at hp),true,a,rfl,fun H2 Y2 s2 stp _=>?_⟩;obtain ⟨a',ws,e,q3,q4⟩:=zS (d:=.lst xs) stp.rep rfl (dn.mono stp);cases e;exact ⟨ws,.inl q3,q4⟩ | loc l=>
  simp only [z2Q,Option.map_eq_some_iff] at h;obtain ⟨ys,ey,e2⟩:=h;cases e2;obtain ⟨a,vs,rfl,q1,q2⟩:=zS (d:=.loc l) r ey dn;have og:okG [(l,xs)] [] s:=fun p hp=>by
   have:p=(l,xs):=by simpa using hp
   subst this;exact ey
  refine ⟨og,true,a,rfl,fun H2 Y2 s2 stp hg=>?_⟩;obtain ⟨a',ws,e,q3,q4⟩:=zS (d:=.loc l) stp.rep (hg (l,xs) (by simp)) (dn.mono stp);cases e;exact ⟨ws,.inl q3,q4⟩ | _=>cases h
def z7H(f:FA):FI:=fun ρ s=>(f ρ s).bind fun ds s1=>match ds with
 | [x,y]=>match z2Q s1 x,z2Q s1 y with
  | some p,some q=>.ok (z2r p.1 q.1,p.2++q.2) s1 | _,_=>.no
 | _=>.no
theorem zec{p tp:Pos}{elts:List Expr}{kt:Nat}{f:FA}(hg:Gl X "zip")(hm:X.mg "zip"=none)(ha:RA X E [a,b] f)(hs:starEach [a,b] X.env=(false,eval a X.env)::starEach [b] X.env:=by rfl)(hpl:(backTo pos (starEach [b] X.env)).any (·.1)=false:=by rfl): RI X E (.Tuple elts kt tp) (.Call (.Name "zip" p) [a,b] [] pos) (z7H f):= z40 (zdE hg hm ha hs hpl) fun O H Q ⟨Y,ρ,s,r,en,h⟩=>by
  unfold z7H at h;refine ⟨Y,ρ,s,r,en,(okR.bind (Dn:=zu (gm X)) h).imp fun vs H1 ⟨Y1,s1,ds,stp,dn,h1⟩=>?_⟩;split at h1
  ·rename_i x y;split at h1
   ·rename_i p q ex ey;obtain ⟨xs,gx⟩:=p;obtain ⟨ys,gy⟩:=q;obtain ⟨v,v',rfl,d1,d2⟩:=z4T dn;obtain ⟨og1,b1,a1,rfl,k1⟩:=z58 stp.rep ex d1;obtain ⟨og2,b2,a2,rfl,k2⟩:=z58 stp.rep ey d2;obtain ⟨w1,q1,_⟩:=k1 H1 Y1 s1 (.refl stp.rep) og1;obtain ⟨w2,q2,_⟩:=k2 H1 Y1 s1 (.refl stp.rep) og2;refine ⟨a1,a2,b1,b2,rfl,⟨w1,q1⟩,⟨w2,q2⟩,h1.here stp.rep fun H2 Y2 s2 stp2 og i=>?_⟩;have h3:okG gx [] s2:=fun p hp=>og p (List.mem_append_left _ hp);have h4:okG gy [] s2:=fun p hp=>og p (List.mem_append_right _ hp);refine ⟨fun d hd=>?_,fun hl=>?_⟩
    ·obtain ⟨x,y,e1,e2,rfl⟩:=z8w hd;obtain ⟨w1,q1,n1⟩:=k1 H2 Y2 s2 stp2 h3;obtain ⟨w2,q2,n2⟩:=k2 H2 Y2 s2 stp2 h4;obtain ⟨u1,g1,m1⟩:=n1.get e1;obtain ⟨u2,g2,m2⟩:=n2.get e2;refine ⟨⟨w1,w2,u1,u2,q1,q2,g1,g2⟩,fun z H' ⟨T,p,q,hT,ez,eH,hp,hq⟩=>?_⟩;subst ez eH;have e3:=hp w1 q1;have e4:=hq w2 q2;rw [g1] at e3;rw [g2] at e4;cases e3;cases e4;have st3:=xH.lay (o:=.tup [u1,u2]) stp2.rep hT (by intro _ z;cases z);refine ⟨Y2,st3,?_⟩;simp only [Den];exact ⟨T,[u1,u2],rfl,yy,(zu.cons m1 (zu.one m2)).mono st3⟩
    ·obtain ⟨w1,q1,n1⟩:=k1 H2 Y2 s2 stp2 h3;obtain ⟨w2,q2,n2⟩:=k2 H2 Y2 s2 stp2 h4;refine ⟨w1,w2,q1,q2,?_⟩;rw [n1.length,n2.length];simp only [z0V] at hl;omega
   ·exact h1.elim
  ·exact h1.elim
end
def zV(mp:List (Option Nat))(ρ:Ev):Ev:=mp.map fun o=>match o with | some j=>(ρ[j]?).getD none | none=>none
theorem wF.inner{mg:Gm}{H:Hp}{Y:List Addr}{ρ:Ev}{O:L2.St}{mp:List (Option Nat)}(en:wF mg H Y ρ O):wF mg H Y (zV mp ρ) (inner mp O):=by
 refine ⟨by simp [zV,L2.inner],fun i d h=>?_⟩;simp only [zV,List.getElem?_map,Option.map_eq_some_iff] at h;obtain ⟨o,h1,h2⟩:=h;cases o with
 | none=>cases h2 | some j=>
  simp only at h2;have h3:ρ[j]? = some (some d):=by cases e:ρ[j]? with
   | none=>rw [e] at h2;cases h2 | some x=>rw [e] at h2;simp at h2;rw [h2]
  obtain ⟨v,h4,h5⟩:=en.at_ j d h3;exact ⟨v,by simp [L2.inner,h1,h4],h5⟩
open Classical in
def we(g:List (Nat×List D))(all:List D)(body:D->Sto->R (Option D)):List D->List D->Sto->R (List D)
 | [],acc,s=>if okG g all s then .ok acc s else .no | x::xs,acc,s=>if okG g all s then (body x s).bind fun o s1=>match o with
   | some d=>if acc.length<cap then we g all body xs (acc++[d]) s1 else .no | none=>we g all body xs acc s1 else .no
def z4H(fi:FI)(mp:List (Option Nat))(fg:FG)(ft:FT)(fe:FE):FA:=fun ρ s=>(fi ρ s).bind fun it s1=>we it.2 it.1 (fun d s=>(fg d (zV mp ρ) s).bind fun ρ' s'=>(ft ρ' s').bind fun b s2=>if b=true then (fe ρ' s2).bind fun d s3=>.ok (some d) s3 else .ok none s2) it.1 [] s1
def z2F(mg:Gm)(E:XK)(mp:List (Option Nat))(g:TG)(fg:FG):Prop:=∀ (O:L2.St) H Y ρ s x d (Q:L2.St->Hp->Prop),Rep mg H Y s->wF mg H Y (zV mp ρ) (inner mp O)->Den mg H Y d x->okR mg E H Y (wF mg) (fg d (zV mp ρ) s) Q-> g x (inner mp O) H (fun O2 H2=>(O2.length=(inner mp O).length/\∀ (i:Nat) v,(inner mp O)[i]? = some (some v)->O2[i]? = some (some v))/\Q O2 H2)
theorem z1e{mp:List (Option Nat)}{i:Nat}(h:mp[i]? = some none)(O:L2.St):(inner mp O)[i]? = some none:=by simp [L2.inner,h]
theorem z36{O:L2.St}{i:Nat}{v:V}(h:O[i]? = some none):(O.set i (some v)).length=O.length/\∀ (j:Nat) u,O[j]? = some (some u)->(O.set i (some v))[j]? = some (some u):=by
 refine ⟨by simp,fun j u e=>?_⟩;have:i≠j:=fun z=>by subst z;rw [h] at e;cases e
 rw [List.getElem?_set_ne this];exact e
section
variable {X:Cx}{E:XK}{e a b c tg iter elt:Expr}{es:List Expr}{pos:Pos}{CX:CXT}{mp:List (Option Nat)}
theorem yf(i:Nat)(h:mp[i]? = some none):z2F (gm X) E mp (qD i) (wv i):=fun O H Y ρ s x d Q r en dn ok=>by
 refine ⟨z36 (z1e h O),?_⟩;exact okR.here (b:=(inner mp O).set i (some x)) ok r (en.set dn i)
theorem z2z{fi:FI}{g:TG}{fg:FG}{ft:FT}{fe:FE}{O:L2.St}{H:Hp}{Q:VK}{Y:List Addr}{ρ:Ev}{s:Sto}{β:Type}{kR:List D->Sto->R β}{β2:Type}{Dn:Hp->List Addr->β->β2->Prop}{Q2:β2->Hp->Prop}(hg:z2F (gm X) E mp g fg)(r:Rep (gm X) H Y s)(en:wF (gm X) H Y ρ O) (h:okR (gm X) E H Y Dn ((z4H fi mp fg ft fe ρ s).bind kR) Q2) (fin:∀ H1 Y1 s1 xs vs,Rep (gm X) H1 Y1 s1->wF (gm X) H1 Y1 ρ O->zu (gm X) H1 Y1 xs vs->okR (gm X) E H1 Y1 Dn (kR xs s1) Q2->xs.length<=cap->∀ p,H1 p=none->Q (.ref p) (upd H1 p (.lst vs))): z9S (tI (gm X) E fi) mp g (tT (gm X) E ft) (tE (gm X) E fe) O H Q:=by
 unfold z4H at h;have assoc:∀ {α γ δ:Type}(x:R α)(f:α->Sto->R γ)(k:γ->Sto->R δ),(x.bind f).bind k=x.bind fun a s=>(f a s).bind k:=fun x f k=>by cases x<;>rfl
 rw [assoc] at h;refine ⟨Y,ρ,s,r,en,(okR.bind (Dn:=z9K (gm X)) h).imp fun J H1 ⟨Y1,s1,it,stp,ok,h1⟩=>?_⟩;obtain ⟨items,gd⟩:=it;simp only at h1;refine ⟨fun i m ys H=>∃ Y s acc,xH (gm X) H1 Y1 H Y s/\zu (gm X) H Y acc ys/\acc.length<=cap/\m=items.length-i/\i<=items.length/\ okR (gm X) E H Y Dn ((we gd items (fun d s=>(fg d (zV mp ρ) s).bind fun ρ' s'=>(ft ρ' s').bind fun b s2=>if b=true then (fe ρ' s2).bind fun d s3=>.ok (some d) s3 else .ok none s2) (items.drop i) acc s).bind kR) Q2, ⟨items.length,Y1,s1,[],.refl stp.rep,zu.nil,Nat.zero_le _,by simp,Nat.zero_le _,by simpa using h1⟩,?_⟩;rintro i m ys H2 ⟨Y2,s2,acc,stp2,dn2,hcap,rfl,hil,h2⟩;have en2:wF (gm X) H2 Y2 ρ O:=(en.mono stp).mono stp2;by_cases hlt:i<items.length
 ·right;rw [List.drop_eq_getElem_cons hlt,we] at h2;split at h2
  ·rename_i hG;obtain ⟨go,yl⟩:=((ok H2 Y2 s2 stp2 hG i).1 items[i] (List.getElem?_eq_getElem hlt));refine ⟨go,fun x H' y=>?_⟩;obtain ⟨Y3,stp3,dn3⟩:=yl x H' y;have h3:=okR.rebase h2 stp3;rw [assoc,assoc] at h3;have h4:=okR.bind (Dn:=wF (gm X)) h3;refine hg O H' Y3 ρ s2 x items[i] _ stp3.rep ((en2.mono stp3).inner) dn3 (h4.imp fun O4 H4 ⟨Y4,s4,ρ4,stp4,en4,h5⟩=>?_);rw [assoc] at h5;refine ⟨Y4,ρ4,s4,stp4.rep,en4,(okR.bind (Dn:=bD) h5).imp fun bb H5 ⟨Y5,s5,b',stp5,eb,h6⟩=>?_⟩;cases (show b'=bb from eb);have all5:xH (gm X) H1 Y1 H5 Y5 s5:=((stp2.trans stp3).trans stp4).trans stp5;cases bb with
   | true=>
    rw [if_pos rfl] at h6 ⊢;rw [assoc] at h6;refine ⟨Y5,ρ4,s5,stp5.rep,en4.mono stp5,(okR.bind (Dn:=Den (gm X)) h6).imp fun y H6 ⟨Y6,s6,d6,stp6,dn6,h7⟩=>?_⟩;simp only [R.bind_ok] at h7;split at h7
    ·rename_i hc;have all6:=all5.trans stp6;have dny:zu (gm X) H6 Y6 acc ys:=(((dn2.mono stp3).mono stp4).mono stp5).mono stp6;refine ⟨by rw [dn2.length];exact qM hcap,items.length-(i+1),by omega,Y6,s6,acc++[d6],all6,dny.append (zu.one dn6),by simp;omega,rfl,hlt,h7⟩
    ·exact h7.elim | false=>
    rw [if_neg (by decide)] at h6 ⊢;simp only [R.bind_ok] at h6;exact ⟨items.length-(i+1),by omega,Y5,s5,acc,all5,((dn2.mono stp3).mono stp4).mono stp5,hcap,rfl,hlt,h6⟩
  ·exact h2.elim
 ·left;have e:i=items.length:=by omega
  subst e;rw [List.drop_length,we] at h2;split at h2
  ·rename_i hG;simp only [R.bind_ok] at h2;exact ⟨(ok H2 Y2 s2 stp2 hG _).2 (Nat.le_refl _),by rw [dn2.length];exact qM hcap,fin H2 Y2 s2 acc ys stp2.rep en2 dn2 h2 hcap⟩
  ·exact h2.elim
def zT(fi:FI)(mp:List (Option Nat))(fg:FG)(ft:FT)(fe:FE):FE:=fun ρ s=>(z4H fi mp fg ft fe ρ s).bind fun xs s1=>.ok (.lst xs) s1
def kG(fi:FI)(mp:List (Option Nat))(fg:FG)(ft:FT)(fe:FE):FE:=fun ρ s=>(z4H fi mp fg ft fe ρ s).bind fun xs s1=>if D.flat.flats xs=true then .ok (.loc s1.length) (s1++[xs]) else .no
def vc:FT:=fun _ s=>.ok true s
theorem vp{Yy:Cx}:z6E Yy [] (tT (gm Yy) E vc):=fun pins s O H Q I ⟨Y,ρ,st,r,en,h⟩=>z9N pins s O H Q I (h.here (b:=true) r rfl)
theorem wP{Yy:Cx}{f:FT}(h:RT Yy E c f):z6E Yy [c] (tT (gm Yy) E f):=zav h
section
variable {scope:Scope}{ifs:List Expr}{fi:FI}{fg:FG}{ft:FT}{fe:FE}{g:TG}{spos py:Pos}
theorem zfo(N':List Str)(mp:List (Option Nat))(hc:X.calm=true)(hi:RI X E tg iter fi)(hg:∀ ex s H,PG (zh X N' scope ex s H) tg g)(hgt:z2F (gm X) E mp g fg)(ht:∀ ex s H,z6E (zh X N' scope ex s H) ifs (tT (gm X) E ft))(he:∀ ex s H,RE (zh X N' scope ex s H) E elt fe) (hkd:scope.kind=.function)(hnm:∀ y∈scope.names,scope.names.lookup y.1=some y.2) (hfr:∀ y∈scope.names,y.2=.free->X.env.kindOf y.1=some .cell\/X.env.kindOf y.1=some .free)(hmp:z06 X.N scope.names N' mp=true) (hs:∀ x,foldedSetIterable iter X.env x=pure x:=by intro _;rfl):RE X E (.ListComp elt [⟨tg,iter,ifs,0⟩] scope pos) (zT fi mp fg ft fe):= zX (zcm (te:=tE (gm X) E fe) N' mp hc hi hg ht (fun ex s H=>he ex s H) hkd hnm hfr hmp hs).freeze fun O H Q ⟨Y,ρ,s,r,en,h⟩=> z2z hgt r en h fun H1 Y1 s1 xs vs r1 en1 dn h1 hcap=>qG r1 h1 dn
theorem z7l {i:Nat} {y:Str} (N':List Str) (mp:List (Option Nat)) (hN:X.N.Nodup) (hc:X.calm=true) (hi:RI X E tg iter fi) (hg:∀ ex s H,PG (zh X N' scope ex s H) tg g) (hgt:z2F (gm X) E mp g fg) (ht:∀ ex s H,z6E (zh X N' scope ex s H) ifs (tT (gm X) E ft)) (he:∀ ex s H,RE (zh X N' scope ex s H) E elt fe) (hkd:scope.kind=.function) (hnm:∀ y∈scope.names,scope.names.lookup y.1=some y.2) (hfr:∀ y∈scope.names,y.2=.free->X.env.kindOf y.1=some .cell\/X.env.kindOf y.1=some .free) (hmp:z06 X.N scope.names N' mp=true) (hy:X.N[i]? = some y:=by rfl) (hyl:Loc X.env.scope y:=by first | exact Or.inl rfl | exact Or.inr rfl) (hs:∀ x,foldedSetIterable iter X.env x=pure x:=by intro _;rfl) (hsw:swapsWith (.ListComp elt [⟨tg,iter,ifs,0⟩] scope pos) (some (.Name y py)) spos.line X.env=pure true:=by rfl) (hf:X.fn y=true\/X.env.scope.names.lookup y=some .local:=by first | exact .inl rfl | exact .inr rfl | assumption): RS X E (.Assign [.Name y py] (.ListComp elt [⟨tg,iter,ifs,0⟩] scope pos) spos) (vb i (zT fi mp fg ft fe)):= uA (z5O (te:=tE (gm X) E fe) N' mp hN hy hyl hc hi hg ht (fun ex s H=>he ex s H) hkd hnm hfr hmp hs hsw hf) fun D O H ⟨Y,ρ,s,r,en,h⟩=>by
  have assoc:∀ {α γ δ:Type} (x:R α) (f:α->Sto->R γ) (k:γ->Sto->R δ),(x.bind f).bind k=x.bind fun a s=>(f a s).bind k:=fun x f k=>by cases x<;>rfl
  unfold vb zT at h;rw [assoc] at h;refine z2z hgt r en h fun H1 Y1 s1 xs vs r1 en1 dn h1 hcap p hp=>?_;refine qG (E:=E) (mg:=gm X) (xs:=xs) r1 (fun v H2 Y2 stp dn2=>?_) dn p hp;exact h1 (.nx (O.set i (some v))) H2 Y2 stp ((en1.mono stp).set dn2 i)
theorem z7c{i:Nat}{y:Str}(N':List Str)(mp:List (Option Nat))(hN:X.N.Nodup)(hc:X.calm=true)(hi:RI X E tg iter fi)(hg:∀ ex s H,PG (zh X N' scope ex s H) tg g)(hgt:z2F (gm X) E mp g fg)(ht:∀ ex s H,z6E (zh X N' scope ex s H) ifs (tT (gm X) E ft))(he:∀ ex s H,RE (zh X N' scope ex s H) E elt fe) (hkd:scope.kind=.function)(hnm:∀ y∈scope.names,scope.names.lookup y.1=some y.2) (hfr:∀ y∈scope.names,y.2=.free->X.env.kindOf y.1=some .cell\/X.env.kindOf y.1=some .free)(hmp:z06 X.N scope.names N' mp=true)(hy:X.N[i]? = some y:=by rfl)(hyl:Loc X.env.scope y:=by first | exact Or.inl rfl | exact Or.inr rfl) (hs:∀ x,foldedSetIterable iter X.env x=pure x:=by intro _;rfl) (hsw:swapsWith (.ListComp elt [⟨tg,iter,ifs,0⟩] scope pos) (some (.Name y py)) spos.line X.env=pure true:=by rfl) (hf:X.fn y=true\/X.env.scope.names.lookup y=some .local:=by first | exact .inl rfl | exact .inr rfl | assumption): RS X E (.Assign [.Name y py] (.ListComp elt [⟨tg,iter,ifs,0⟩] scope pos) spos) (vb i (kG fi mp fg ft fe)):= uA (z6X (te:=tE (gm X) E fe) N' mp hN hy hyl hc hi hg ht (fun ex s H=>he ex s H) hkd hnm hfr hmp hs hsw hf) fun D O H ⟨Y,ρ,s,r,en,h⟩=>by
  have assoc:∀ {α γ δ:Type}(x:R α)(f:α->Sto->R γ)(k:γ->Sto->R δ),(x.bind f).bind k=x.bind fun a s=>(f a s).bind k:=fun x f k=>by cases x<;>rfl
  unfold vb kG at h;rw [assoc] at h;refine z2z hgt r en h fun H1 Y1 s1 xs vs r1 en1 dn h1 hcap p hp=>?_;split at h1
  ·rename_i hf;have stp:=xH.layL (p:=p) r1 hp dn hf;refine h1 (.nx (O.set i (some (.ref p)))) _ _ stp ((en1.mono stp).set ?_ i);simp only [Den];exact ⟨p,rfl,by rw [<- r1.len];simp,vs,yy⟩
  ·exact h1.elim
end
end
section
variable {X:Cx}{E:XK}{e a b c tg iter elt:Expr}{es:List Expr}{pos:Pos}{CX:CXT}{mp:List (Option Nat)}
def zbn(K:W.Frag)(i j:Nat):TG:=zhr K 2 (zd3 (qD i) (zd3 (qD j) zhq))
theorem jJ(i j:Nat){x y:Str}{px py:Pos}{kt:Nat}(hc:X.calm=true)(hN:X.N.Nodup)(hi:X.N[i]? = some x:=by rfl)(hj:X.N[j]? = some y:=by rfl)(hx:Loc X.env.scope x:=by first | exact Or.inl rfl | exact Or.inr rfl)(hy:Loc X.env.scope y:=by first | exact Or.inl rfl | exact Or.inr rfl) (hf:X.fn x=true\/X.env.scope.names.lookup x=some .local:=by first | exact .inl rfl | exact .inr rfl | assumption)(hf':X.fn y=true\/X.env.scope.names.lookup y=some .local:=by first | exact .inl rfl | exact .inr rfl | assumption): PG X (.Tuple [.Name x px,.Name y py] kt pos) (zbn X.K i j):=zbh hc (z0t (zR hN hi hx hf) (z0t (zR hN hj hy hf') z8p))
theorem jq(i j:Nat)(hij:i≠j)(h:mp[i]? = some none)(h':mp[j]? = some none):z2F (gm X) E mp (zbn X.K i j) (xP i j):=fun O H Y ρ s x d Q r en dn ok=>by
 unfold xP at ok;split at ok
 ·rename_i d1 d2;obtain ⟨p,vs,rfl,q1,q2⟩:=qK (K:=X.K) dn;obtain ⟨v1,v2,rfl,e1,e2⟩:=z4T q2;have k1:=z36 (v:=v1) (z1e h O);have own2:((inner mp O).set i (some v1))[j]? = some none:=by rw [List.getElem?_set_ne hij];exact z1e h' O
  have k2:=z36 (v:=v2) own2;exact ⟨p,[v1,v2],rfl,q1,rfl,v1,[v2],rfl,v2,[],rfl,rfl,⟨k2.1.trans k1.1,fun l u e=>k2.2 l u (k1.2 l u e)⟩,okR.here ok r ((en.set e1 i).set e2 j)⟩
 ·exact ok.elim
end
def zx(N:List Str)(ds:List D):Ev:=ds.map some++List.replicate (N.length-ds.length) none
theorem z29{mg:Gm}{H:Hp}{Y:List Addr}{N:List Str}:∀ {ds:List D}{vs:List V},zu mg H Y ds vs->wF mg H Y (zx N ds) (L2.start N vs):=fun {ds vs} h=>by
 have hl:=h.length;refine ⟨by simp [zx,L2.start,hl],fun i d e=>?_⟩;unfold zx at e;have hi:i<ds.length:=by
  by_cases hi:i<ds.length;·exact hi
  ·rw [List.getElem?_append_right (by simpa using hi),List.getElem?_replicate] at e;split at e<;>cases e
 rw [List.getElem?_append_left (by simpa using hi),List.getElem?_map] at e;have e':ds[i]? = some d:=by cases q:ds[i]? with
  | none=>rw [q] at e;cases e | some x=>rw [q] at e;simp at e;rw [e]
 obtain ⟨v,h1,h2⟩:=h.get e';refine ⟨v,?_,h2⟩;unfold L2.start;rw [List.getElem?_append_left (by simpa [hl] using hi),List.getElem?_map,h1];rfl
def Mof(N:List Str)(n:Nat)(fs:FS):Mir:=fun ds s=>if ds.length=n then (match fs (zx N ds) s with
 | .ok (.rt d) s'=>.ok d s' | .ok (.nx _) s'=>.ok .non s' | _=>.no) else .no
section
variable {P:Program}{w:World}{K:W.Frag}{mg:Str->Option Value}{base:Heap}
theorem Has.mono{CX:CXT}{x:Str}{n m:Nat}{M:Mir}(h:Has P w K mg base CX x n M)(hl:n<=m):Has P w K mg base CX x m M:=by
 obtain ⟨f,fd,ps,F,r⟩:=h;exact ⟨f,fd,ps,F.mono hl,r⟩
theorem zM{x qual:Str}{st:Stmt}{f:Addr}{fd:FuncData}{N ps:List Str}{k n:Nat}{fs:FS}(F:Fun K x qual st f fd)(hm:mg x=some (.ref f))(hb:Binds K fd ps [])(S:zv N ps (zg st))(hn:ps.length=n) (body:∀ (cdv:Value)(A:Around)(outer:List Env)(s:Shared)(H:Hp)(E:XK),z0n k (A.deeper (envOfC qual (zg st) s.heap.objs.size f cdv))->(z9B CX0 P w K mg base N qual (zg st) f cdv A outer s H E).nox.calm=true-> RSs (z9B CX0 P w K mg base N qual (zg st) f cdv A outer s H E).nox E0 (uw st) fs):Has P w K mg base CX0 x (k+1) (Mof N n fs):=by
 subst hn;refine ⟨f,fd,ps,F.ok S (fun vs H Q E h=>?_) (fun cdv A outer s H vs Q E hr h=>?_),hb,F.kp,hm⟩
 ·obtain ⟨Y,s,ds,_,dn,h⟩:=h;unfold Mof at h;split at h;·rename_i e;rw [dn.length];exact e
  ·exact h.elim
 ·obtain ⟨Y,st0,ds,r,dn,h⟩:=h;refine ⟨_,body cdv A outer s H E hr (by show A.handled.isNone=true;rw [show A.handled=none from hr.hd];rfl),Y,zx N ds,st0,r,z29 dn,?_⟩;unfold Mof at h;split at h
  ·split at h
   ·rename_i d s' e;rw [e];intro fv H' Y' stp fd;cases fv with
    | rt v=>exact h v H' Y' stp fd | _=>exact (show False from fd).elim
   ·rename_i ρ s' e;rw [e];intro fv H' Y' stp fd;cases fv with
    | nx v=>exact h .non H' Y' stp (by simp [Den]) | _=>exact (show False from fd).elim
   ·exact h.elim
  ·exact h.elim
theorem zfk{x qual:Str}{st:Stmt}{f:Addr}{fd:FuncData}{ps:List Str}(F:Fun K x qual st f fd)(hm:mg x=some (.ref f))(hb:Binds K fd ps []):Has P w K mg base CX0 x 0 (fun _ _=>.no):= ⟨f,fd,ps,⟨fun vs H Q E h=>by obtain ⟨_,_,_,_,_,h⟩:=h;exact h.elim,fun A outer s H args us vs Q E _ _ _ _ h=>by obtain ⟨_,_,_,_,_,h⟩:=h;exact h.elim⟩,hb,F.kp,hm⟩
end
def zcF(K:W.Frag):Sp:=fun vs H Q _=>∃ (a:Addr)(ns:List Int),vs=[.ref a]/\zfD H/\SqL K H a (ns.map V.int)/\ns.length<=63/\∀ H',Q (.bl true) H'
theorem kJ{mg:Gm}{H:Hp}{Y:List Addr}:∀ (ns:List Int),zu mg H Y (ns.map D.int) (ns.map V.int)
 | []=>zu.nil | n::ns=>zu.cons yk (kJ ns)
theorem zfv{P:Program}{w:World}{K:W.Frag}{mg:Str->Option Value}{base:Heap}{x:Str}{n:Nat}{M:Mir}{f:Addr}{fd:FuncData}{ps:List Str}(F:z2j P w K mg base CX0 n f fd ps (zc8 ⟨mg,K⟩ M)) (h:∀ ns:List Int,ns.length<=63->∃ s',M [.scr (ns.map D.int)] []=.ok (.bl true) s'):z2j P w K mg base CX0 n f fd ps (zcF K):= F.imp fun vs H Q E ⟨a,ns,e,ho,hq,hl,q⟩=>by
  subst e;obtain ⟨s',hs⟩:=h ns hl;refine ⟨[],[],[.scr (ns.map D.int)],⟨rfl,List.nodup_nil,fun l xs z=>by simp at z,fun xs z=>by simp at z⟩,zu.one ?_,?_⟩
  ·simp only [Den];refine ⟨a,ns.map V.int,rfl,?_,kJ ns⟩;rcases hq with (z | z) | z
   ·rcases ho a with y | ⟨o,xs,y⟩;·rw [y] at z;cases z
    ·rw [y] at z;cases z
   ·exact .inl z
   ·exact .inr z
  ·rw [hs];intro v H' Y' stp dn;cases qO dn;exact q H'
section
variable {X:Cx}{E:XK}{e a b c tg iter elt:Expr}{es:List Expr}{pos:Pos}{CX:CXT}
def zaS(f:FE):FE:=fun ρ s=>(f ρ s).bind fun d s1=>match d with | .int i=>.ok (.int (-i)) s1 | _=>.no
theorem zez{f:FE}(h:RE X E a f):RE X E (.UnaryOp .USub a pos) (zaS f):= zX (zh5 ze1 h) fun O H Q ⟨Y,ρ,s,r,en,h⟩=>by
  refine yL (k:=fun ρ d s1=>match d with | .int i=>R.ok (D.int (-i)) s1 | _=>.no) r en h _ fun v H1 Y1 s1 d r1 en1 dn stp h1=>?_;cases d with
  | int i=>
   cases zW dn;exact ⟨i,rfl,okR.here (b:=V.int (-i)) h1 r1 yk⟩ | _=>exact h1.elim
theorem zcS{op op':CmpOp}{fo fo':D->D->Sto->R D}{fa fb fc:FE}(ho:∃ r,OpR X (compareOp op) r/\OpF X E r fo)(ho':∃ r,OpR X (compareOp op') r/\OpF X E r fo')(ha:RE X E a fa)(hb:RE X E b fb)(hc:RE X E c fc) (hm:lastMarks [op,op'] [b,c]=false:=by with_unfolding_all rfl):RT X E (.Compare a [op,op'] [b,c] pos) (tOf (z2t fo fo' fa fb fc)):=by
 obtain ⟨r,h1,h2⟩:=ho;obtain ⟨r',h1',h2'⟩:=ho';exact z6p (z9Z h1 h1' ha hb hc hm) fun O H Q h=>by
  have q:=z2x h;exact z4j h2 h2' q
def jW(i:Int)(n:Nat):List D:=(List.range n).map fun (k:Nat)=>D.int (i+((k:Nat):Int))
def z6V(f:FA):FI:=fun ρ s=>(f ρ s).bind fun ds s1=>match ds with
 | [.int i,.int j]=>if -(2 ^ 62)<=i/\i<2 ^ 62/\-(2 ^ 62)<=j/\j<2 ^ 62 then .ok (jW i (j-i).toNat,[]) s1 else .no | _=>.no
theorem zap{p:Pos}{f:FA}(hg:Gl X "range")(hm:X.mg "range"=none)(ha:RA X E [a,b] f)(hs:starEach [a,b] X.env=[(false,eval a X.env),(false,eval b X.env)]:=by rfl)(hs2:starEach [b] X.env=[(false,eval b X.env)]:=by rfl):RI X E tg (.Call (.Name "range" p) [a,b] [] pos) (z6V f):= z40 (z8r hg hm ha hs hs2) fun O H Q ⟨Y,ρ,s,r,en,h⟩=>by
  unfold z6V at h;refine ⟨Y,ρ,s,r,en,(okR.bind (Dn:=zu (gm X)) h).imp fun vs H1 ⟨Y1,s1,ds,stp,dn,h1⟩=>?_⟩;split at h1
  ·rename_i i j;split at h1
   ·rename_i hj;obtain ⟨v,v',rfl,d1,d2⟩:=z4T dn;cases zW d1;cases zW d2;refine ⟨i,j,rfl,hj,h1.here stp.rep fun H2 Y2 s2 stp2 _ k=>⟨fun d hd=>?_,fun hl=>?_⟩⟩
    ·have hi:k<(j-i).toNat:=by
      have:=(List.getElem?_eq_some_iff.mp hd).1;simpa [jW] using this
     refine ⟨hi,fun x H' ⟨e1,e2⟩=>?_⟩;subst e1 e2;refine ⟨Y2,.refl stp2.rep,?_⟩;have e3:d=D.int (i+k):=by
      simp only [jW,List.getElem?_map,List.getElem?_range hi,Option.map_some,Option.some.injEq] at hd;exact hd.symm
     rw [e3];exact yk
    ·have:(jW i (j-i).toNat).length=(j-i).toNat:=by simp [jW]
     show (j-i).toNat<=k;rw [<- this];exact hl
   ·exact h1.elim
  ·exact h1.elim
end
def isK(o:Option NameKind)(k:NameKind):Bool:=match o,k with
 | some .local,.local=>true | some .cell,.cell=>true | some .free,.free=>true | some .globalImplicit,.globalImplicit=>true | _,_=>false
theorem z8v{o:Option NameKind}{k:NameKind}(h:isK o k=true):o=some k:=by cases o with
 | none=>cases k<;>simp [isK] at h | some j=>cases j<;>cases k<;>first | rfl | simp [isK] at h
def isF(k:NameKind):Bool:=match k with | .free=>true | _=>false
theorem zfm{k:NameKind}(h:k=.free):isF k=true:=by subst h;rfl
def z6Z(ko:Str->Option NameKind)(names:List (Str×NameKind)):Bool:=names.all fun y=>!isF y.2||(isK (ko y.1) .cell||isK (ko y.1) .free)
theorem jp{ko:Str->Option NameKind}{names:List (Str×NameKind)}(h:z6Z ko names=true):∀ y∈names,y.2=.free->ko y.1=some .cell\/ko y.1=some .free:=fun y hy hf=>by
 have:=List.all_eq_true.mp h y hy;rw [zfm hf] at this;simp only [Bool.not_true,Bool.false_or,Bool.or_eq_true] at this;exact this.imp z8v z8v
def z74(names:List (Str×NameKind)):Bool:=names.all fun y=>isK (names.lookup y.1) y.2
theorem jT{names:List (Str×NameKind)}(h:z74 names=true):∀ y∈names,names.lookup y.1=some y.2:=fun y hy=>by
 have:=List.all_eq_true.mp h y hy;exact z8v this
section
variable {X:Cx}{E:XK}{e a b c tg iter elt:Expr}{es:List Expr}{pos:Pos}{CX:CXT}
variable {scope:Scope}{ifs:List Expr}{fi:FI}{fg:FG}{ft:FT}{fe:FE}{g:TG}{spos py:Pos}
theorem zfJ{x:Str}{i:Int}(hg:Gl X x)(hm:∃ t,X.mg x=some (.int i t))(hd:(x==("__debug__":Str))=false:=by decide):RE X E (.Name x pos) (eC (.int i)):=let ⟨_,h⟩:=hm;zem hg h hd
theorem xg(N':List Str)(mp:List (Option Nat))(hc:X.calm=true)(hi:RI X E tg iter fi)(hg:∀ ex s H,PG (zh X N' scope ex s H) tg g)(hgt:z2F (gm X) E mp g fg)(ht:∀ ex s H,z6E (zh X N' scope ex s H) ifs (tT (gm X) E ft))(he:∀ ex s H,RE (zh X N' scope ex s H) E elt fe) (hkd:scope.kind=.function:=by rfl)(hnm:z74 scope.names=true:=by rfl)(hfr:z6Z X.env.kindOf scope.names=true:=by rfl)(hmp:z06 X.N scope.names N' mp=true:=by rfl) (hs:∀ x,foldedSetIterable iter X.env x=pure x:=by intro _;rfl):RE X E (.ListComp elt [⟨tg,iter,ifs,0⟩] scope pos) (zT fi mp fg ft fe):= zfo N' mp hc hi hg hgt ht he hkd (jT hnm) (jp hfr) hmp hs
theorem z1v(i:Nat){y:Str}(N':List Str)(mp:List (Option Nat))(hN:X.N.Nodup)(hc:X.calm=true)(hi:RI X E tg iter fi)(hg:∀ ex s H,PG (zh X N' scope ex s H) tg g)(hgt:z2F (gm X) E mp g fg)(ht:∀ ex s H,z6E (zh X N' scope ex s H) ifs (tT (gm X) E ft))(he:∀ ex s H,RE (zh X N' scope ex s H) E elt fe) (hkd:scope.kind=.function:=by rfl)(hnm:z74 scope.names=true:=by rfl)(hfr:z6Z X.env.kindOf scope.names=true:=by rfl)(hmp:z06 X.N scope.names N' mp=true:=by rfl)(hy:X.N[i]? = some y:=by rfl)(hyl:Loc X.env.scope y:=by first | exact Or.inl rfl | exact Or.inr rfl) (hs:∀ x,foldedSetIterable iter X.env x=pure x:=by intro _;rfl) (hsw:swapsWith (.ListComp elt [⟨tg,iter,ifs,0⟩] scope pos) (some (.Name y py)) spos.line X.env=pure true:=by rfl) (hf:X.fn y=true\/X.env.scope.names.lookup y=some .local:=by first | exact .inl rfl | exact .inr rfl | assumption): RS X E (.Assign [.Name y py] (.ListComp elt [⟨tg,iter,ifs,0⟩] scope pos) spos) (vb i (zT fi mp fg ft fe)):= z7l N' mp hN hc hi hg hgt ht he hkd (jT hnm) (jp hfr) hmp hy hyl hs hsw hf
theorem z7P(i:Nat){y:Str}(N':List Str)(mp:List (Option Nat))(hN:X.N.Nodup)(hc:X.calm=true)(hi:RI X E tg iter fi)(hg:∀ ex s H,PG (zh X N' scope ex s H) tg g)(hgt:z2F (gm X) E mp g fg)(ht:∀ ex s H,z6E (zh X N' scope ex s H) ifs (tT (gm X) E ft))(he:∀ ex s H,RE (zh X N' scope ex s H) E elt fe) (hkd:scope.kind=.function:=by rfl)(hnm:z74 scope.names=true:=by rfl)(hfr:z6Z X.env.kindOf scope.names=true:=by rfl)(hmp:z06 X.N scope.names N' mp=true:=by rfl)(hy:X.N[i]? = some y:=by rfl)(hyl:Loc X.env.scope y:=by first | exact Or.inl rfl | exact Or.inr rfl) (hs:∀ x,foldedSetIterable iter X.env x=pure x:=by intro _;rfl) (hsw:swapsWith (.ListComp elt [⟨tg,iter,ifs,0⟩] scope pos) (some (.Name y py)) spos.line X.env=pure true:=by rfl) (hf:X.fn y=true\/X.env.scope.names.lookup y=some .local:=by first | exact .inl rfl | exact .inr rfl | assumption): RS X E (.Assign [.Name y py] (.ListComp elt [⟨tg,iter,ifs,0⟩] scope pos) spos) (vb i (kG fi mp fg ft fe)):= z7c N' mp hN hc hi hg hgt ht he hkd (jT hnm) (jp hfr) hmp hy hyl hs hsw hf
end
theorem zel{P:Program}{w:World}{K:W.Frag}{mg:Str->Option Value}{base:Heap}{x qual:Str}{st:Stmt}{f:Addr}{fd:FuncData}{N ps:List Str}{k n:Nat}{fs:FS}(F:Fun K x qual st f fd)(S:zv N ps (zg st))(hn:ps.length=n) (body:∀ (cdv:Value)(A:Around)(outer:List Env)(s:Shared)(H:Hp)(E:XK),z0n k (A.deeper (envOfC qual (zg st) s.heap.objs.size f cdv))->(z9B CX0 P w K mg base N qual (zg st) f cdv A outer s H E).nox.calm=true-> RSs (z9B CX0 P w K mg base N qual (zg st) f cdv A outer s H E).nox E0 (uw st) fs):z2j P w K mg base CX0 (k+1) f fd ps (zc8 ⟨mg,K⟩ (Mof N n fs)):=by
 subst hn;refine F.ok S (fun vs H Q E h=>?_) (fun cdv A outer s H vs Q E hr h=>?_)
 ·obtain ⟨Y,s,ds,_,dn,h⟩:=h;unfold Mof at h;split at h;·rename_i e;rw [dn.length];exact e
  ·exact h.elim
 ·obtain ⟨Y,st0,ds,r,dn,h⟩:=h;refine ⟨_,body cdv A outer s H E hr (by show A.handled.isNone=true;rw [show A.handled=none from hr.hd];rfl),Y,zx N ds,st0,r,z29 dn,?_⟩;unfold Mof at h;split at h
  ·split at h
   ·rename_i d s' e;rw [e];intro fv H' Y' stp fd;cases fv with
    | rt v=>exact h v H' Y' stp fd | _=>exact (show False from fd).elim
   ·rename_i ρ s' e;rw [e];intro fv H' Y' stp fd;cases fv with
    | nx v=>exact h .non H' Y' stp (by simp [Den]) | _=>exact (show False from fd).elim
   ·exact h.elim
  ·exact h.elim
section
variable {all xs:List D}{ρ:Ev}{s:Sto}
theorem z3e{body:D->Ev->Sto->R Fl}(I:Ev->Sto->Prop):∀ (xs:List D),(∀ x∈xs,∀ ρ s,I ρ s->∃ ρ' s',body x ρ s=.ok (.nx ρ') s'/\I ρ' s')->∀ ρ s,I ρ s->∃ ρ' s',vX [] all body xs ρ s=.ok (.nx ρ') s'/\I ρ' s'
 | [],_,ρ,s,h=>⟨ρ,s,by simp [vX,okG],h⟩ | x::xs,hb,ρ,s,h=>by
  obtain ⟨ρ1,s1,e1,h1⟩:=hb x (by simp) ρ s h;obtain ⟨ρ2,s2,e2,h2⟩:=z3e I xs (fun y hy=>hb y (by simp [hy])) ρ1 s1 h1;exact ⟨ρ2,s2,by simp [vX,okG,e1,e2],h2⟩
theorem z3D{body:D->Sto->R (Option D)}(f:D->D):∀ (xs acc:List D),(∀ x∈xs,body x s=.ok (some (f x)) s)->acc.length+xs.length<=cap->we [] all body xs acc s=.ok (acc++xs.map f) s
 | [],acc,_,_=>by simp [we,okG] | x::xs,acc,hb,hl=>by
  have ih:=z3D f xs (acc++[f x]) (fun y hy=>hb y (by simp [hy])) (by simp at hl ⊢;omega);have hc:acc.length<cap:=by simp at hl;omega
  rw [we];simp [okG,hb x (by simp),hc,ih]
end
section
variable (i j k n:Nat)(ρ:Ev)(s:Sto)(f g fa fb fc:FE)(d x y:D)(ds:List D)(ar:FA)(op op':D->D->Sto->R D)(ft ft':FT)(fs fs':FS)(M:Mir)(T:String)(fl fh fo:FO)(fi:FI)(fg:FG)(mp:List (Option Nat))(N:List Str)
@[simp] theorem yJ:zc i ρ s=(match ρ[i]? with | some (some d)=>.ok d s | _=>.no):=id rfl
@[simp] theorem jU:eC d ρ s=.ok d s:=id rfl
@[simp] theorem xf:eOp op fa fb ρ s=(fa ρ s).bind fun x s1=>(fb ρ s1).bind fun y s2=>op x y s2:=id rfl
@[simp] theorem wm:zf M ar ρ s=(ar ρ s).bind fun xs s1=>M xs s1:=id rfl
@[simp] theorem zB:zj ρ s=.ok [] s:=id rfl
@[simp] theorem zm:za f ar ρ s=(f ρ s).bind fun x s1=>(ar ρ s1).bind fun xs s2=>.ok (x::xs) s2:=id rfl
@[simp] theorem va:uN ar ρ s=(ar ρ s).bind fun xs s1=>if xs.length<=cap then .ok (.tup xs) s1 else .no:=id rfl
@[simp] theorem vS:z0c ar ρ s=(ar ρ s).bind fun xs s1=>if xs.length<=cap then .ok (.lst xs) s1 else .no:=id rfl
@[simp] theorem z63:zb9 ar ρ s=(ar ρ s).bind fun xs s1=>if xs.length<=cap/\D.flat.flats xs=true then .ok (.loc s1.length) (s1++[xs]) else .no:=id rfl
@[simp] theorem zia:eIs T f ρ s=(f ρ s).bind fun d s1=>gIs T d s1:=id rfl
@[simp] theorem zbp:zaS f ρ s=(f ρ s).bind fun d s1=>match d with | .int i=>.ok (.int (-i)) s1 | _=>.no:=id rfl
@[simp] theorem zek:zds f ρ s=(f ρ s).bind fun x s1=>match x with | .bl k=>.ok (.bl (!k)) s1 | _=>.no:=id rfl
@[simp] theorem z4c:z3M fa fb ρ s=(fa ρ s).bind fun x s1=>match x with | .bl true=>fb ρ s1 | .bl false=>.ok (.bl false) s1 | _=>.no:=id rfl
@[simp] theorem zi6:eOr fa fb ρ s=(fa ρ s).bind fun x s1=>match x with | .bl false=>fb ρ s1 | .bl true=>.ok (.bl true) s1 | _=>.no:=id rfl
@[simp] theorem z9a:eIf ft fa fb ρ s=(ft ρ s).bind fun x s1=>if x=true then fa ρ s1 else fb ρ s1:=id rfl
@[simp] theorem z1N:eSl f fl fh ρ s=(f ρ s).bind fun x s1=>(fl ρ s1).bind fun lo s2=>(fh ρ s2).bind fun hi s3=>dSl x lo hi s3:=id rfl
@[simp] theorem yY:zG ρ s=.ok none s:=id rfl
@[simp] theorem vL:xn f ρ s=(f ρ s).bind fun d s1=>match d with | .int i=>.ok (some i) s1 | _=>.no:=id rfl
@[simp] theorem uM:tOf f ρ s=(f ρ s).bind fun d s1=>match d with | .bl k=>.ok k s1 | _=>.no:=id rfl
@[simp] theorem z8C:zfb ft ft' ρ s=(ft ρ s).bind fun x s1=>if x=true then ft' ρ s1 else .ok false s1:=id rfl
@[simp] theorem zgb:fOr ft ft' ρ s=(ft ρ s).bind fun x s1=>if x=true then .ok true s1 else ft' ρ s1:=id rfl
@[simp] theorem z8i:z76 ft ρ s=(ft ρ s).bind fun x s1=>.ok (!x) s1:=id rfl
@[simp] theorem zfT:z2t op op' fa fb fc ρ s=(fa ρ s).bind fun x s1=>(fb ρ s1).bind fun y s2=>(op x y s2).bind fun z s3=>match z with
 | .bl true=>(fc ρ s3).bind fun w s4=>op' y w s4 | .bl false=>.ok (.bl false) s3 | _=>.no:=id rfl
@[simp] theorem zhy:zH fs fs' ρ s=(fs ρ s).bind fun fl s1=>match fl with | .nx ρ'=>fs' ρ' s1 | fl=>.ok fl s1:=id rfl
@[simp] theorem zge:yM ρ s=.ok (.nx ρ) s:=id rfl
@[simp] theorem zhZ:fNo ρ s=.no:=id rfl
@[simp] theorem qS:ja f ρ s=(f ρ s).bind fun _ s1=>.ok (.nx ρ) s1:=id rfl
@[simp] theorem ym:xF f ρ s=(f ρ s).bind fun d s1=>.ok (.rt d) s1:=id rfl
@[simp] theorem z1U:fIf ft fs fs' ρ s=(ft ρ s).bind fun x s1=>if x=true then fs ρ s1 else fs' ρ s1:=id rfl
@[simp] theorem ye:vb i f ρ s=(f ρ s).bind fun d s1=>.ok (.nx (ρ.set i (some d))) s1:=id rfl
@[simp] theorem zb3:zcN f fg ρ s=(f ρ s).bind fun d s1=>(fg d ρ s1).bind fun ρ' s2=>.ok (.nx ρ') s2:=id rfl
@[simp] theorem zfr:zgl i j ar ρ s=(ar ρ s).bind fun ds s1=>match ds with | [x,y]=>.ok (.nx ((ρ.set i (some x)).set j (some y))) s1 | _=>.no:=id rfl
@[simp] theorem zbB:wv i d ρ s=.ok (ρ.set i (some d)) s:=id rfl
@[simp] theorem zcg:xP i j (.tup [x,y]) ρ s=.ok ((ρ.set i (some x)).set j (some y)) s:=id rfl
@[simp] theorem zcl:z38 fa fb fc ρ s=(fc ρ s).bind fun d s1=>(fa ρ s1).bind fun o s2=>(fb ρ s2).bind fun i s3=>match o,i with
 | .loc l,.int k=>match s3[l]? with
  | some xs=>match ixN xs.length k with
   | some j=>if d.flat=true then .ok (.nx ρ) (s3.set l (xs.set j d)) else .no | none=>.no
  | none=>.no
 | _,_=>.no:=id rfl
@[simp] theorem z5G:yn f ρ s=(f ρ s).bind fun d s1=>match d with
 | .tup xs=>.ok (xs,[]) s1 | .lst xs=>.ok (xs,[]) s1 | .loc l=>match s1[l]? with | some xs=>.ok (xs,[(l,xs)]) s1 | none=>.no
 | _=>.no:=id rfl
@[simp] theorem zbm:z1g ar ρ s=(ar ρ s).bind fun ds s1=>match ds with
 | [.int j]=>if -(2 ^ 62)<=j/\j<2 ^ 62 then .ok (yO j.toNat,[]) s1 else .no | _=>.no:=id rfl
@[simp] theorem zcE:z6V ar ρ s=(ar ρ s).bind fun ds s1=>match ds with
 | [.int i,.int j]=>if -(2 ^ 62)<=i/\i<2 ^ 62/\-(2 ^ 62)<=j/\j<2 ^ 62 then .ok (jW i (j-i).toNat,[]) s1 else .no | _=>.no:=id rfl
@[simp] theorem ze6:z7H ar ρ s=(ar ρ s).bind fun ds s1=>match ds with
 | [x,y]=>match z2Q s1 x,z2Q s1 y with
  | some p,some q=>.ok (z2r p.1 q.1,p.2++q.2) s1 | _,_=>.no
 | _=>.no:=id rfl
@[simp] theorem kI:z7I fi fg fs ρ s=(fi ρ s).bind fun it s1=>vX it.2 it.1 (fun d ρ s=>(fg d ρ s).bind fun ρ' s'=>fs ρ' s') it.1 ρ s1:=id rfl
@[simp] theorem z2W:z4H fi mp fg ft f ρ s=(fi ρ s).bind fun it s1=>we it.2 it.1 (fun d s=>(fg d (zV mp ρ) s).bind fun ρ' s'=>(ft ρ' s').bind fun b s2=>if b=true then (f ρ' s2).bind fun d s3=>.ok (some d) s3 else .ok none s2) it.1 [] s1:=id rfl
@[simp] theorem z60:zT fi mp fg ft f ρ s=(z4H fi mp fg ft f ρ s).bind fun xs s1=>.ok (.lst xs) s1:=id rfl
@[simp] theorem z6r:kG fi mp fg ft f ρ s=(z4H fi mp fg ft f ρ s).bind fun xs s1=>if D.flat.flats xs=true then .ok (.loc s1.length) (s1++[xs]) else .no:=id rfl
@[simp] theorem zg0:vc ρ s=.ok true s:=id rfl
@[simp] theorem z5T:zbc fa fb ρ s=(fa ρ s).bind fun o s1=>match o with
 | .loc l=>(fb ρ s1).bind fun d s2=>match s2[l]? with
  | some xs=>if d.flat=true/\xs.length<cap then .ok .non (s2.set l (xs++[d])) else .no | none=>.no
 | _=>.no:=id rfl
@[simp] theorem zbv:zV [] ρ=[]:=id rfl
@[simp] theorem zdm:zV (some i::mp) ρ=(ρ[i]?).getD none::zV mp ρ:=id rfl
@[simp] theorem zdo:zV (none::mp) ρ=none::zV mp ρ:=id rfl
variable (a b:Int)(u v:Bool)(xs ys:List D)
@[simp] theorem kX:wl (.int a) (.int b) s=.ok (.int (a+b)) s:=rfl
@[simp] theorem kO:wl (.tup xs) (.tup ys) s=if xs.length+ys.length<=cap then .ok (.tup (xs++ys)) s else .no:=rfl
@[simp] theorem zeU:wl (.lst xs) (.lst ys) s=if xs.length+ys.length<=cap then .ok (.lst (xs++ys)) s else .no:=rfl
@[simp] theorem zeZ:z9D (.int a) (.int b) s=.ok (.int (a-b)) s:=rfl
theorem zbq:uh (.int a) (.int b) s=if a.natAbs<BIG/\b.natAbs<BIG then .ok (.int (a*b)) s else .no:=by
 simp only [uh,dII,iOk];split<;>(rename_i h;split at h<;>simp_all)
theorem z5i:z4z (.int a) (.int b) s=if 0<b/\b.natAbs<BIG then .ok (.int (a / b)) s else .no:=by
 simp only [z4z,dII,iOk];split<;>(rename_i h;split at h<;>simp_all)
theorem zaZ:z7g (.int a) (.int b) s=if 0<b then .ok (.int (a % b)) s else .no:=by
 simp only [z7g,dII,iOk];split<;>(rename_i h;split at h<;>simp_all)
theorem z8O:z62 (.int a) (.int b) s=if 0<=b/\b<=1000/\a.natAbs<1000 then .ok (.int (a ^ b.toNat)) s else .no:=by
 simp only [z62,dII,iOk];split<;>(rename_i h;split at h<;>simp_all)
@[simp] theorem zeY:dLt (.int a) (.int b) s=.ok (.bl (decide (a<b))) s:=rfl
@[simp] theorem zdF:dLe (.int a) (.int b) s=.ok (.bl (decide (a<=b))) s:=rfl
@[simp] theorem zbT:dGt (.int a) (.int b) s=.ok (.bl (decide (b<a))) s:=rfl
@[simp] theorem zie:dGe (.int a) (.int b) s=.ok (.bl (decide (b<=a))) s:=rfl
@[simp] theorem z2S:dEq (.int a) (.int b) s=.ok (.bl (decide (a=b))) s:=by
 have:eqD (.int a) (.int b)=decide (a=b):=by
  simp only [eqD,xS,PyData.eqv];rw [Bool.eq_iff_iff];simp
 rw [dEq,this];rfl
@[simp] theorem zcU:dNe (.int a) (.int b) s=.ok (.bl (decide (a≠b))) s:=by
 have:eqD (.int a) (.int b)=decide (a=b):=by
  simp only [eqD,xS,PyData.eqv];rw [Bool.eq_iff_iff];simp
 rw [dNe,this,if_pos (by constructor<;>rfl)];simp
@[simp] theorem zgW:dEq (.bl u) (.bl v) s=.ok (.bl (u==v)) s:=by cases u<;>cases v<;>rfl
@[simp] theorem zil:dNe (.bl u) (.bl v) s=.ok (.bl (u != v)) s:=by cases u<;>cases v<;>rfl
end
theorem zi{f g:FS}{ρ ρ':Ev}{s s':Sto}(h:f ρ s=.ok (.nx ρ') s'):zH f g ρ s=g ρ' s':=by simp [h]
theorem kW{f g:FS}{ρ:Ev}{s s':Sto}{d:D}(h:f ρ s=.ok (.rt d) s'):zH f g ρ s=.ok (.rt d) s':=by simp [h]
theorem jr{all:List D}{body:D->Ev->Sto->R Fl}(I:Nat->Ev->Sto->Prop):∀ (xs:List D)(k:Nat),(∀ j x,xs[j]? = some x->∀ ρ s,I (k+j) ρ s->∃ ρ' s',body x ρ s=.ok (.nx ρ') s'/\I (k+j+1) ρ' s')-> ∀ ρ s,I k ρ s->∃ ρ' s',vX [] all body xs ρ s=.ok (.nx ρ') s'/\I (k+xs.length) ρ' s'
 | [],k,_,ρ,s,h=>⟨ρ,s,by simp [vX,okG],h⟩ | x::xs,k,hb,ρ,s,h=>by
  obtain ⟨ρ1,s1,e1,h1⟩:=hb 0 x (by simp) ρ s h;obtain ⟨ρ2,s2,e2,h2⟩:=jr (all:=all) I xs (k+1) (fun j y hy ρ s hi=>by
   have e:k+1+j=k+(j+1):=by omega
   rw [e] at hi ⊢;exact hb (j+1) y (by simpa using hy) ρ s hi) ρ1 s1 h1;refine ⟨ρ2,s2,by simp [vX,okG,e1,e2],?_⟩;have e:k+(x::xs).length=k+1+xs.length:=by simp;omega
  rw [e];exact h2
theorem z4N{n j:Nat}{x:D}(h:(yO n)[j]? = some x):j<n/\x=.int j:=by
 have hj:j<n:=by
  have:=(List.getElem?_eq_some_iff.mp h).1;simpa [yO] using this
 refine ⟨hj,?_⟩;simp only [yO,List.getElem?_map,List.getElem?_range hj,Option.map_some,Option.some.injEq] at h;exact h.symm
theorem z7w {n:Nat} {x:D} (h:x∈yO n):∃ j:Nat,j<n/\x=.int j:=by
 obtain ⟨j,hj,e⟩:=List.mem_iff_getElem.mp h;have:=z4N (n:=n) (j:=j) (x:=x) (by rw [List.getElem?_eq_getElem hj,e]);exact ⟨j,this.1,this.2⟩
theorem yq:∀ (ns:List Int),D.flat.flats (ns.map D.int)=true
 | []=>rfl | n::ns=>by simp [D.flat.flats,D.flat,yq ns]
theorem z0s(i:Int):(D.int i).flat=true:=rfl
theorem vY.flatten{mg:Gm}{H H':Hp}{Y Y':List Addr}{ys:List D}{c:Addr}(k:∀ b o,H b=some o->(∀ vs,o≠.lst vs)->(∀ kvs,o≠.dT kvs)->H' b=some o)(f:D.flat.flats ys=true)(e:H' c=H c)(h:vY mg H Y ys c):vY mg H' Y' ys c:=by
 rcases h with ⟨vs,h1,h2⟩ | ⟨kvs,h1,h2⟩;·exact .inl ⟨vs,e.trans h1,h2.flatten k f⟩
 ·exact .inr ⟨kvs,e.trans h1,h2⟩
section
variable {X:Cx}{E:XK}{e:Expr}
def ziA(f:FE):FE:=fun ρ s=>match f ρ s with
 | .ok (.loc l) s1=>match s1[l]? with
  | some xs=>if s.length<=l/\l+1=s1.length then .ok (.lst xs) (s1.take l) else .no | none=>.no
 | .ok _ _=>.no | .ex c s1=>.ex c s1 | .no=>.no
end
@[simp] theorem zhU (f:FE)(ρ:Ev)(s:Sto):ziA f ρ s=(match f ρ s with
 | .ok (.loc l) s1=>match s1[l]? with
  | some xs=>if s.length<=l/\l+1=s1.length then .ok (.lst xs) (s1.take l) else .no | none=>.no
 | .ok _ _=>.no | .ex c s1=>.ex c s1 | .no=>.no):=id rfl
end Dd
namespace Zz
open PySem.AutoSeq1 (wpAny_loadPart')
section
variable {P:Program}{w:World}{A:Around}{E:Value->Shared->Prop}{s:Shared}
theorem zcT {e it l:Addr} {b:Bool} {k:Nat} {xs:Array Value} {x old:Value} {Q:Option Value->Shared->Prop} (he:IsEnum s.heap e it k old) (h1:Sit b s.heap it l k) (c1:Sco b s.heap l xs) (ex:xs[k]? = some x) (ne:e≠it) (q:∀ h',IsEnumOut h' e it ((k:Int)+1) x s.heap.objs.size->Sit b h' it l (k+1)->h'.get? s.heap.objs.size=some {cls:=.type "tuple",data:=.seq #[.int k s.toks,x]}-> (∀ c o,c≠e->c≠it->s.heap.get? c=some o->h'.get? c=some o)->Q (some (.ref s.heap.objs.size)) {s with heap:=h',toks:=s.toks+1}):wpAny (model P w) A (pyNext (.ref e)) Q E s:=by
 have hT:s.TypeIs (.ref e) "enumerate":=⟨_,he,rfl⟩;unfold pyNext;refine wpAny_bind (wpAny_attempt (wpAny_callSpecial?_slot (name:=Str.ofString "__next__") hT F.slot_enumerate_next (wpAny_call_entry F.slot_enumerate_next hT F.entry_enumerate_next (Q:=fun v s'=>wpAny (model P w) A (pure (some v)) Q E s') ?_ (F.args_enumerate_next_1 _))));obtain ⟨hp,g,d,tk,os⟩:=s;show wpAny _ _ (field (.ref e) 2 >>= _) _ _ _;refine wpAny_bind (wpAny_field he rfl (x:=.ref it) rfl ?_);refine wpAny_bind (nx h1 c1 ex fun g1 t1 s1=>?_);replace s1:Heap.SameBut it hp g1:=s1;have e1:IsEnum g1 e it k old:=(s1.2 e ne).trans he;show wpAny _ _ (field (.ref e) 3 >>= _) _ _ ⟨g1,g,d,tk,os⟩;refine wpAny_bind (wpAny_field e1 rfl (x:=rawInt k) rfl ?_);show wpAny _ _ (field (.ref e) 4 >>= _) _ _ ⟨g1,g,d,tk,os⟩;refine wpAny_bind (wpAny_field e1 rfl (x:=.none) rfl ?_);show wpAny _ _ (mkInt k >>= _) _ _ ⟨g1,g,d,tk,os⟩;refine wpAny_bind (wpAny_mkInt ?_);show wpAny _ _ (setField (.ref e) 3 (rawInt ((k:Int)+1)) >>= _) _ _ ⟨g1,g,d,tk+1,os⟩;refine wpAny_bind (wpAny_setField_rec e1 (by simp) fun g2 e2 s2=>?_);replace s2:Heap.SameBut e g1 g2:=s2;replace e2:IsEnum g2 e it ((k:Int)+1) old:=e2;show wpAny _ _ (setField (.ref e) 4 .none >>= _) _ _ ⟨g2,g,d,tk+1,os⟩;refine wpAny_bind (wpAny_setField_rec e2 (by simp) fun g3 e3 s3=>?_);replace s3:Heap.SameBut e g2 g3:=s3;replace e3:IsEnum g3 e it ((k:Int)+1) old:=e3;show wpAny _ _ (newTuple [.int k tk,x] >>= _) _ _ ⟨g3,g,d,tk+1,os⟩;refine wpAny_bind (wpAny_newTuple ?_);have e4:IsEnum (g3.push {cls:=.type "tuple",data:=.seq #[.int k tk,x]}) e it ((k:Int)+1) old:=Heap.get?_push_of_some _ e3;generalize hg4:g3.push {cls:=.type "tuple",data:=.seq #[.int k tk,x]}=g4 at e4;have sz:g3.objs.size=hp.objs.size:=by rw [s3.1,s2.1,s1.1]
 have el:e<hp.objs.size:=Heap.lt_size he;have t4:g4.get? hp.objs.size=some {cls:=.type "tuple",data:=.seq #[.int k tk,x]}:=by rw [<- hg4,<- sz];exact Heap.get?_push_size _ rfl
 have k4:∀ c o,c≠e->c≠it->hp.get? c=some o->g4.get? c=some o:=fun c o n1 n2 z=>by rw [<- hg4];exact Heap.get?_push_of_some _ (zo s3 n1 (zo s2 n1 (zo s1 n2 z)))
 have i4:Sit b g4 it l (k+1):=t1.to fun o z=>by rw [<- hg4];exact Heap.get?_push_of_some _ (zo s3 ne.symm (zo s2 ne.symm z))
 show wpAny _ _ (Builtin.SmallTypes.ownedTupleIsFree (.ref e) >>= _) _ _ ⟨g4,g,d,tk+1,os⟩;rw [sz];refine wpAny_bind ?_;unfold Builtin.SmallTypes.ownedTupleIsFree;refine wpAny_bind (wpAny_field e4 rfl (x:=.none) rfl (wpAny_pure ?_));simp only [if_true];refine wpAny_bind (wpAny_rule ?_);refine wpAny_bind (wpAny_field e4 rfl (x:=old) rfl ?_);refine wpAny_bind (wpAny_setField_rec e4 (by simp) fun g5 e5 s5=>?_);replace s5:Heap.SameBut e g4 g5:=s5;replace e5:IsEnum g5 e it ((k:Int)+1) x:=e5;show wpAny _ _ (Builtin.SmallTypes.ownedTupleHandOut (.ref e) (.ref hp.objs.size) >>= _) _ _ ⟨g5,g,d,tk+1,os⟩;refine wpAny_bind ?_;unfold Builtin.SmallTypes.ownedTupleHandOut;refine wpAny_bind (wpAny_setField_rec e5 (by simp) fun g6 e6 s6=>?_);replace s6:Heap.SameBut e g5 g6:=s6;replace e6:IsEnumOut g6 e it ((k:Int)+1) x hp.objs.size:=e6;refine wpAny_setField_rec e6 (by simp) fun g7 e7 s7=>?_;replace s7:Heap.SameBut e g6 g7:=s7;replace e7:IsEnumOut g7 e it ((k:Int)+1) x hp.objs.size:=e7;have up:∀ c o,c≠e->g4.get? c=some o->g7.get? c=some o:=fun c o n z=>zo s7 n (zo s6 n (zo s5 n z));refine wpAny_bind (wpAny_letGo (wpAny_pure ⟨_,rfl,wpAny_pure (q g7 e7 (i4.to fun o z=>up _ o ne.symm z) (up _ _ (Nat.ne_of_gt el) t4) fun c o n1 n2 z=>up c o n1 (k4 c o n1 n2 z))⟩))
theorem zdU {e it l:Addr} {b:Bool} {k:Nat} {xs:Array Value} {old:Value} {Q:Option Value->Shared->Prop} (hh:A.handled=none) (he:IsEnum s.heap e it k old) (h1:Sit b s.heap it l k) (c1:Sco b s.heap l xs) (ex:xs[k]? = none) (q:∀ h',Heap.ExtBut it s.heap h'->Q none {s with heap:=h'}):wpAny (model P w) A (pyNext (.ref e)) Q E s:=by
 have hT:s.TypeIs (.ref e) "enumerate":=⟨_,he,rfl⟩;unfold pyNext;refine wpAny_bind (wpAny_attempt (wpAny_callSpecial?_slot (name:=Str.ofString "__next__") hT F.slot_enumerate_next (wpAny_call_entry F.slot_enumerate_next hT F.entry_enumerate_next ?_ (F.args_enumerate_next_1 _))));show wpAny _ _ (field (.ref e) 2 >>= _) _ _ _;refine wpAny_bind (wpAny_field he rfl (x:=.ref it) rfl ?_);refine wpAny_bind (z9y hh h1 c1 ex fun h' x he' hx'=>?_);obtain ⟨o,ho,hc⟩:=hx';refine wpAny_bind (wpAny_isInstance (T:="StopIteration") (b:=true) ⟨o,ho,hc⟩ isSubtype_stop ?_);exact wpAny_pure (q _ he')
end
theorem zaF(b:Bool)(l:Addr)(xs:Array Value): Meets (Builtin.«enumerate.__new__» ⟨[.type "enumerate",.ref l],[]⟩) (fun _ R s=>Sco b s.heap l xs/\R (.ok (.ret (.ref (s.heap.push (itO b l)).objs.size))) {s with heap:=(s.heap.push (itO b l)).push {cls:=.type "enumerate",data:=.fields #[.none,.bool false,.ref s.heap.objs.size,rawInt 0,.none,.none]}}):= .of_wp fun prog w A R s h=>by
  obtain ⟨hp,g,d,tk,os⟩:=s;obtain ⟨c1,h⟩:=h;have hsub:=sub_enumerate;have q1:Sco b (Shared.heap ⟨hp,g,d,tk,os⟩) l xs:=c1;obtain ⟨o,hl⟩:∃ o,hp.get? l=some o:=by cases b with
   | true=>obtain ⟨o,e,_⟩:=c1;exact ⟨o,e⟩ | false=>obtain ⟨o,e,_⟩:=c1;exact ⟨o,e⟩
  wp_walk using wpAny_loadPart' hl;refine wpAny_stack_any fun st=>wpAny_pure ?_;split
  ·rename_i c _ _ _ _ _;cases (c==Value.type "enumerate")
   ·wp_walk using wpAny_loadPart' hl,z2d q1;exact ⟨_,rfl,h⟩
   ·wp_walk using wpAny_loadPart' hl,z2d q1;exact ⟨_,rfl,h⟩
  ·wp_walk using wpAny_loadPart' hl,z2d q1;exact ⟨_,rfl,h⟩
section
variable {P:Program}{w:World}{A:Around}{E:Value->Shared->Prop}{s:Shared}
theorem zbJ {b:Bool} {l:Addr} {xs:Array Value} {Q:Value->Shared->Prop} (c1:Sco b s.heap l xs) (h:∀ h',IsEnum h' (s.heap.objs.size+1) s.heap.objs.size 0 .none->Sit b h' s.heap.objs.size l 0->(∀ c o,s.heap.get? c=some o->h'.get? c=some o)->Q (.ref (s.heap.objs.size+1)) {s with heap:=h'}): wpAny (model P w) A (call (.type "enumerate") [.ref l]) Q E s:=by
 refine callType_new F.called_enumerate (by decide) (F.typeCall_enumerate_1 _) (F.newCall_enumerate_1 _) (fun obj=>F.args_object_init_2 obj _) F.entry_enumerate_new (zaF b l xs) ⟨c1,?_⟩;have z1:(s.heap.push (itO b l)).objs.size=s.heap.objs.size+1:=Heap.size_push ..;have g2:=Heap.get?_push_size (s.heap.push (itO b l)) (o:={cls:=.type "enumerate",data:=.fields #[.none,.bool false,.ref s.heap.objs.size,rawInt 0,.none,.none]}) rfl;have g1:((s.heap.push (itO b l)).push {cls:=.type "enumerate",data:=.fields #[.none,.bool false,.ref s.heap.objs.size,rawInt 0,.none,.none]}).get? s.heap.objs.size=some (itO b l):=Heap.get?_push_of_some _ (Heap.get?_push_size _ (z0l b l));show _/\_;rw [z1] at g2;rw [z1];exact ⟨⟨_,g2,rfl⟩,h _ g2 (z41 g1) fun c o e=>Heap.get?_push_of_some _ (Heap.get?_push_of_some _ e)⟩
end
end Zz
namespace L2
open PySem.Spec Zz
def Ite(K:W.Frag)(b:Bool)(l:Addr):It:= ⟨fun i H=>∃ xs x,Sq b K H l xs/\xs[i]? = some x, fun i H v H'=>∃ T x,H T=none/\v=.ref T/\H'=upd H T (.tup [.int i,x])/\∀ xs,Sq b K H l xs->xs[i]? = some x, fun i H=>∃ xs,Sq b K H l xs/\xs.length<=i⟩
theorem z9k {P:Program} {w:World} {K:W.Frag} {elts:List Expr} {kt:Nat} {tp:Pos} {b:Bool} {e it l:Addr} (ne:e≠it): zby P w K (.Tuple elts kt tp) (Ite K b l) [e,it] e (fun i h=>(∃ old,IsEnum h e it ((i:Nat):Int) old)/\Sit b h it l i) where
 mem:=by simp
 obj:=fun i h ⟨⟨old,he⟩,h1⟩ c hc=>by
  have hc':c=e\/c=it:=by simpa using hc
  rcases hc' with rfl | rfl;·exact ⟨_,he,fun v z=>by simp at z⟩
  ·exact h1.ob
 keep:=fun i h h' ⟨⟨old,he⟩,h1⟩ k=>⟨⟨old,k e (by simp) _ he⟩,h1.to fun o z=>k it (by simp) o z⟩;item:=by
  intro X hP hw hK hc i pins s O H E I hf ⟨⟨old,he⟩,h1⟩ ⟨xs,x,qx,ex⟩;subst hP hw hK;obtain ⟨ix,rx,cx⟩:=I.sq qx;obtain ⟨u,hu,ru⟩:=rx.get ex;refine zcT he h1 cx (x:=u) (by simpa using hu) ne fun g a1 a2 a3 hk=>⟨_,rfl,?_⟩;have I1:Inv X pins O H {s with heap:=g,toks:=s.toks+1}:=I.turnedL (t':=s.toks+1) (ch:=[e,it]) (fun c o n z=>hk c o (fun t=>n (by simp [t])) (fun t=>n (by simp [t])) z) hf;refine wpAny_letOwnedTupleGo_enum a1 fun g2 e2 s2=>?_;obtain ⟨f0,f1,f2,f3,f4,f5⟩:=hf e (by simp);have I2:Inv X pins O H {s with heap:=g2,toks:=s.toks+1}:=I1.turned (t':=s.toks+1) (fun c o n z=>zo s2 n z) f0 f1 f3 f4 f5;have new:z1P X pins H s.heap.objs.size:=I.fpOk (Nat.le_refl _) (I.hok.fresh (Nat.le_refl _));have el:e≠s.heap.objs.size:=Nat.ne_of_lt (Heap.lt_size he);have p2:g2.get? s.heap.objs.size=some {cls:=.type "tuple",data:=.seq #[.int i s.toks,u]}:=zo s2 el.symm a3;refine ⟨.ref s.heap.objs.size,upd H s.heap.objs.size (.tup [.int i,x]),I2.track new ⟨?_,[.int i s.toks,u],.cons ⟨_,rfl⟩ (.cons ru .nil),⟨_,p2,rfl,rfl,_,rfl⟩⟩,rfl,⟨_,x,new.1,rfl,rfl,fun zs qz=>?_⟩,⟨⟨_,by simpa using e2⟩,a2.to fun o z=>zo s2 ne.symm z⟩,fun c hc=>?_⟩;·show 2<=sizeLine;decide
  ·rw [I.sq_inj qz qx];exact ex
  ·have hc':c=e\/c=it:=by simpa using hc
   have:c≠s.heap.objs.size:=by
    rcases hc' with rfl | rfl;·exact el
    ·exact Nat.ne_of_lt h1.lt
   rw [zC this];exact (hf c hc).1
 done:=by
  intro X hP hw hK hc i pins s O H E I hf ⟨⟨old,he⟩,h1⟩ ⟨xs,qx,hl⟩;subst hP hw hK;obtain ⟨ix,rx,cx⟩:=I.sq qx;have lx:=rx.length;obtain ⟨f0,f1,f2,f3,f4,f5⟩:=hf it (by simp);exact zdU (I.ok.hd hc) he h1 cx (by simp;omega) fun g hk=>⟨rfl,I.turned (t':=s.toks) (fun c o n z=>hk c o n z) f0 f1 f3 f4 f5⟩
 self:=fun _ _ _ _ _ ⟨⟨_,he⟩,_⟩ h=>wpAny_pyIter_enum he h
theorem zdc{X:Cx}{elts:List Expr}{kt:Nat}{tp:Pos}{a:Expr}{ta:TA}{p pos:Pos}(hg:Gl X "enumerate")(hm:X.mg "enumerate"=none)(ha:PA X [a] ta)(hs:starEach [a] X.env=(false,eval a X.env)::starEach [] X.env:=by rfl)(hpl:(backTo pos (starEach [] X.env)).any (·.1)=false:=by rfl): PI X (.Tuple elts kt tp) (.Call (.Name "enumerate" p) [a] [] pos) (fun O H R=>ta O H fun vs H1=>∃ l b,vs=[.ref l]/\(∃ xs,Sq b X.K H1 l xs)/\R (Ite X.K b l) H1):=by
 intro pins s O H R I h;refine wpAny_Call_Name_kw (qm I hg hm (u:=.type "enumerate") (by decide +kernel) ?_ (by decide) (by decide));refine PyProof.Rows.callWith_type1 (thn (ha pos pins s O H _ I h) fun us s1 ⟨vs,H1,I1,r1,q1⟩=>?_) hs hpl;obtain ⟨l,b,rfl,⟨xs,qx⟩,q⟩:=q1;obtain ⟨u,rfl,ru⟩:=vals1 r1;cases ru;obtain ⟨ix,rx,cx⟩:=I1.sq qx;refine zbJ cx fun g he h1 hk=>?_;refine wpAny_pyIter_enum he ?_;refine ⟨_,_,_,_,H1,rfl,I1.kept (t':=s1.toks) hk,z9k (Nat.succ_ne_self _),⟨⟨_,he⟩,h1⟩,fun c hc=>?_,q⟩;have hc':s1.heap.objs.size<=c:=by
  have:c=s1.heap.objs.size+1\/c=s1.heap.objs.size:=by simpa using hc
  rcases this with rfl | rfl;·exact Nat.le_succ _
  ·exact Nat.le_refl _
 exact I1.fpOk hc' (I1.hok.fresh hc')
end L2
namespace L2
open PySem.Spec
end L2
namespace Dd
open PySem.Spec L2
section
variable {X:Cx}{E:XK}{e a b c tg iter elt:Expr}{es:List Expr}{pos:Pos}{CX:CXT}
def zhc(i j k:Nat)(f:FA):FS:=fun ρ s=>(f ρ s).bind fun ds s1=>match ds with | [x,y,z]=>.ok (.nx (((ρ.set i (some x)).set j (some y)).set k (some z))) s1 | _=>.no
def z1l:Nat->List D->List D
 | _,[]=>[] | i,x::xs=>.tup [.int i,x]::z1l (i+1) xs
theorem kE:∀ (i:Nat)(xs:List D),(z1l i xs).length=xs.length
 | _,[]=>rfl | i,x::xs=>by simp [z1l,kE (i+1) xs]
theorem z6l:∀ {i k:Nat}{xs:List D}{d:D},(z1l i xs)[k]? = some d->∃ x,xs[k]? = some x/\d=.tup [.int ((i+k:Nat):Int),x]
 | _,_,[],_,h=>by simp [z1l] at h | i,0,x::xs,d,h=>by simp [z1l] at h;exact ⟨x,by simp,by simp [h]⟩ | i,k+1,x::xs,d,h=>by
  simp only [z1l,List.getElem?_cons_succ] at h;obtain ⟨y,h1,h2⟩:=z6l h;refine ⟨y,by simpa using h1,?_⟩;rw [h2,show i+1+k=i+(k+1) by omega]
def z5t(f:FA):FI:=fun ρ s=>(f ρ s).bind fun ds s1=>match ds with
 | [x]=>match z2Q s1 x with
  | some p=>.ok (z1l 0 p.1,p.2) s1 | none=>.no
 | _=>.no
theorem zbd{p tp:Pos}{elts:List Expr}{kt:Nat}{f:FA}(hg:Gl X "enumerate")(hm:X.mg "enumerate"=none)(ha:RA X E [a] f)(hs:starEach [a] X.env=(false,eval a X.env)::starEach [] X.env:=by rfl)(hpl:(backTo pos (starEach [] X.env)).any (·.1)=false:=by rfl): RI X E (.Tuple elts kt tp) (.Call (.Name "enumerate" p) [a] [] pos) (z5t f):= z40 (zdc hg hm ha hs hpl) fun O H Q ⟨Y,ρ,s,r,en,h⟩=>by
  unfold z5t at h;refine ⟨Y,ρ,s,r,en,(okR.bind (Dn:=zu (gm X)) h).imp fun vs H1 ⟨Y1,s1,ds,stp,dn,h1⟩=>?_⟩;split at h1
  ·rename_i x;split at h1
   ·rename_i p ex;obtain ⟨xs,gx⟩:=p;obtain ⟨v,rfl,d1⟩:=z0e dn;obtain ⟨og1,b1,a1,rfl,k1⟩:=z58 stp.rep ex d1;obtain ⟨w1,q1,_⟩:=k1 H1 Y1 s1 (.refl stp.rep) og1;refine ⟨a1,b1,rfl,⟨w1,q1⟩,h1.here stp.rep fun H2 Y2 s2 stp2 og i=>⟨fun d hd=>?_,fun hl=>?_⟩⟩
    ·obtain ⟨x,e1,rfl⟩:=z6l hd;obtain ⟨w1,q1,n1⟩:=k1 H2 Y2 s2 stp2 og;obtain ⟨u1,g1,m1⟩:=n1.get e1;refine ⟨⟨w1,u1,q1,g1⟩,fun z H' ⟨T,p,hT,ez,eH,hp⟩=>?_⟩;subst ez eH;have e3:=hp w1 q1;rw [g1] at e3;cases e3;have st3:=xH.lay (o:=.tup [.int i,u1]) stp2.rep hT (by intro _ z;cases z);refine ⟨Y2,st3,?_⟩;simp only [Den,Nat.zero_add];exact ⟨T,[.int i,u1],rfl,yy,(zu.cons yk (zu.one m1)).mono st3⟩
    ·obtain ⟨w1,q1,n1⟩:=k1 H2 Y2 s2 stp2 og;refine ⟨w1,q1,?_⟩;rw [n1.length];simpa only [kE] using hl
   ·exact h1.elim
  ·exact h1.elim
end
section
variable (i j k:Nat)(ρ:Ev)(s:Sto)(ar:FA)
@[simp] theorem zgU:zhc i j k ar ρ s=(ar ρ s).bind fun ds s1=>match ds with | [x,y,z]=>.ok (.nx (((ρ.set i (some x)).set j (some y)).set k (some z))) s1 | _=>.no:=id rfl
@[simp] theorem zgN:z5t ar ρ s=(ar ρ s).bind fun ds s1=>match ds with
 | [x]=>match z2Q s1 x with
  | some p=>.ok (z1l 0 p.1,p.2) s1 | none=>.no
 | _=>.no:=id rfl
end
end Dd
namespace L2
open PySem.Spec
def zbA(n:Nat):List V:=(List.range n).map fun k=>V.int ((k:Nat):Int)
theorem qV:∀ {xs:List V}{us:List Value},us.length=xs.length->(∀ (j:Nat) u,us[j]? = some u->∃ x,xs[j]? = some x/\xo x u)->yG xs us
 | [],[],_,_=>.nil | [],_::_,h,_=>by simp at h | _::_,[],h,_=>by simp at h | x::xs,u::us,h,k=>by
  obtain ⟨y,e,r⟩:=k 0 u (by simp);have:y=x:=by simpa using e.symm
  subst this;exact .cons r (qV (by simpa using h) fun j v hv=>k (j+1) v (by simpa using hv))
theorem z48 {X:Cx} {a:Expr} {ta:TA} {p p2 pos pos2:Pos} (hc:X.calm=true) (hg:Gl X "list") (hm:X.mg "list"=none) (hg2:Gl X "range") (hm2:X.mg "range"=none) (ha:PA X [a] ta) (hs2:starEach [a] X.env=[(false,eval a X.env)]:=by rfl) (hs:starEach [.Call (.Name "range" p2) [a] [] pos2] X.env=(false,eval (.Call (.Name "range" p2) [a] [] pos2) X.env)::starEach [] X.env:=by rfl) (hpl:(backTo pos (starEach [] X.env)).any (·.1)=false:=by rfl): PE X (.Call (.Name "list" p) [.Call (.Name "range" p2) [a] [] pos2] [] pos) (fun O H Q=>ta O H fun vs H1=>∃ j:Int,vs=[.int j]/\0<=j/\j<=1000/\∀ l,H1 l=none->Q (.ref l) (upd H1 l (.lst (zbA j.toNat)))):=by
 intro pins s O H Q I h;refine wpAny_Call_Name_kw (qm I hg hm (u:=.type "list") (by decide +kernel) ?_ (by decide) (by decide));refine PyProof.Rows.callWith_type1 ?_ hs hpl;rw [hs];show wpAny _ _ (spliced ((false,eval (.Call (.Name "range" p2) [a] [] pos2) X.env)::backTo pos (starEach [] X.env))) _ _ s;refine Calls.spliced_cons (wpAny_Call_Name_kw (qm I hg2 hm2 boot_range (PyProof.Rows.callWith_type1 (thn (ha pos2 pins s O H _ I h) fun us s1 ⟨vs,H1,I1,r1,q1⟩=>?_) hs2 rfl) (by decide) (by decide)));obtain ⟨j,e,q0,q2,q⟩:=q1;subst e;obtain ⟨u,rfl,⟨t,rfl⟩⟩:=vals1 r1;refine call_range_1 (Calls.spliced_nil ?_);have hsz:Builtin.Range.rangeSize 0 j 1=((j.toNat:Nat):Int):=by rw [rangeSize_one];split<;>omega
 refine call_list_range (I.ok.hd hc) (IsRange.new ..) (small_one (by omega) (by omega) (by omega) (by omega)) hsz (by omega) fun h' tk acc c' hk hS hacc=>?_;have I2:Inv X pins O H1 {s1 with heap:=s1.heap.push {cls:=.type "range",data:=.fields #[.int 0 s1.toks,.int j t,.int 1 (s1.toks+1)]},toks:=s1.toks+1+1}:=I1.kept fun b o e=>Heap.get?_push_of_some _ e;have hl:(zbA j.toNat).length=j.toNat:=by simp [zbA]
 have hv:yG (zbA j.toNat) acc.toList:=qV (by simp [hacc.1,hl]) fun i v hv=>by
  obtain ⟨tk2,rfl⟩:=hacc.2 i v (by simpa using hv);have hi:i<j.toNat:=by
   have:=(List.getElem?_eq_some_iff.mp hv).1;simp [hacc.1] at this;omega
  exact ⟨.int i,by simp [zbA,hi],⟨tk2,by simp⟩⟩
 refine ⟨.ref _,upd H1 _ (.lst (zbA j.toNat)),I2.laid (t':=tk) hk (Nat.le_refl _) ?_,rfl,q _ (I2.hok.fresh (Nat.le_refl _))⟩;exact ⟨by rw [hl];exact Nat.le_trans (show j.toNat<=1000 by omega) (by decide),acc.toList,c',hv,by simpa using hS⟩
end L2
namespace Dd
open PySem.Spec L2
section
variable {X:Cx}{E:XK}{a:Expr}{pos:Pos}
theorem za0{mg:Gm}{H:Hp}{Y:List Addr}(n:Nat):zu mg H Y (yO n) (zbA n):=by
 unfold yO zbA;induction (List.range n) with
 | nil=>exact zu.nil | cons k ks ih=>exact zu.cons yk ih
def eLR(f:FA):FE:=fun ρ s=>(f ρ s).bind fun ds s1=>match ds with
 | [.int j]=>if 0<=j/\j<=1000 then .ok (.lst (yO j.toNat)) s1 else .no | _=>.no
theorem z5j{p p2 pos2:Pos}{f:FA}(hc:X.calm=true)(hg:Gl X "list")(hm:X.mg "list"=none)(hg2:Gl X "range")(hm2:X.mg "range"=none)(ha:RA X E [a] f) (hs2:starEach [a] X.env=[(false,eval a X.env)]:=by rfl) (hs:starEach [.Call (.Name "range" p2) [a] [] pos2] X.env=(false,eval (.Call (.Name "range" p2) [a] [] pos2) X.env)::starEach [] X.env:=by rfl)(hpl:(backTo pos (starEach [] X.env)).any (·.1)=false:=by rfl): RE X E (.Call (.Name "list" p) [.Call (.Name "range" p2) [a] [] pos2] [] pos) (eLR f):= zX (z48 hc hg hm hg2 hm2 ha hs2 hs hpl).freeze fun O H Q ⟨Y,ρ,s,r,en,h⟩=>by
  unfold eLR at h;refine ⟨Y,ρ,s,r,en,(okR.bind (Dn:=zu (gm X)) h).imp fun vs H1 ⟨Y1,s1,ds,stp,dn,h1⟩=>?_⟩;split at h1
  ·rename_i j;split at h1
   ·rename_i hj;obtain ⟨v,rfl,d1⟩:=z0e dn;cases zW d1;exact ⟨j,rfl,hj.1,hj.2,qG stp.rep h1 (za0 _)⟩
   ·exact h1.elim
  ·exact h1.elim
@[simp] theorem zhm (f:FA)(ρ:Ev)(s:Sto):eLR f ρ s=(f ρ s).bind fun ds s1=>match ds with
 | [.int j]=>if 0<=j/\j<=1000 then .ok (.lst (yO j.toNat)) s1 else .no | _=>.no:=id rfl
end
end Dd
namespace PySem
open PySem.AutoSeq1 (wpAny_loadPart')
open MeetsSeq MeetsSeq2 SeqAt
theorem z7x{M:Model}{A:Around}{E:Value->Shared->Prop}{s:Shared}{β:Type}(f:Nat->β->Sem (ForInStep β))(I:Nat->β->Shared->Prop)(Q:β->Shared->Prop)(n:Nat) (turn:∀ i b s,i<n->I i b s->wpAny M A (f i b) (fun r s'=>match r with | .yield b'=>I (i+1) b' s' | .done b'=>Q b' s') E s) (fin:∀ b s,I n b s->Q b s)(b:β)(h:I 0 b s):wpAny M A (forIn ([0:n]:Std.Legacy.Range) b f) Q E s:=by
 rw [Std.Legacy.Range.forIn_eq_forIn_range'];simp only [Std.Legacy.Range.size,Nat.sub_zero,Nat.add_sub_cancel,Nat.div_one];refine wpAny_forIn_list f (fun z08 b s'=>∃ i,z08=List.range' i (n-i)/\i<=n/\I i b s') _ ?_ ?_ _ _ ⟨0,by simp,Nat.zero_le _,h⟩
 ·rintro x z08 b s' ⟨i,hr,hi,hI⟩;have hlt:i<n:=by
   rcases Nat.lt_or_ge i n with h | h;·exact h
   ·rw [Nat.sub_eq_zero_of_le h] at hr;simp at hr
  obtain ⟨rfl,hrest⟩:x=i/\z08=List.range' (i+1) (n-(i+1)):=by
   have e:n-i=(n-(i+1))+1:=by omega
   rw [e,List.range'_succ] at hr;injection hr with h1 h2;exact ⟨h1,h2⟩
  refine wpAny_mono (turn x b s' hlt hI) (fun r s2 hr=>?_) fun _ _ h'=>h';cases r with
  | done b'=>exact hr | yield b'=>exact ⟨x+1,hrest,hlt,hr⟩
 ·rintro b s' ⟨i,hr,hi,hI⟩;have:i=n:=by
   have:=congrArg List.length hr;simp at this;omega
  subst this;exact fin _ _ hI
theorem z1J (l:Addr) (items:Array Value) (n:Nat) (dd:Option Addr) (sl:Array (Option Value)) (x:Value) (e:Value->Bool) (j:Nat) (hj:j<items.size) (hit:e items[j]=true) (hno:∀ m (hm:m<items.size),m<j->e items[m]=false): Meets (Builtin.«tuple.index» ⟨[.ref l,x],[]⟩) (fun A R s=>s.heap.get? l=some {cls:=.type "tuple",dict:=dd,data:=.seq items n,slots:=sl}/\(∀ y,y∈items->EqAt A.in1 s y x (e y))/\R (.ok (.ret (.int j s.toks))) {s with toks:=s.toks+1}):= .of_wp fun prog w A R s h=>by
  obtain ⟨hp,g,d,tk,os⟩:=s;obtain ⟨hl,he,h⟩:=h;have hm:min items.size items.size=items.size:=Nat.min_self _;wp_walk using wpAny_loadPart' hl,z7x _ (fun i b s'=>b.1=none/\s'=⟨hp,g,d,tk,os⟩/\i<=j) _ _;case turn=>
   rintro i ⟨b1,b2⟩ s' hi ⟨hb,rfl,hij⟩;simp only at hb;subst hb;rw [hm] at hi;rw [Array.getElem?_eq_getElem hi];refine wpAny_bind (he _ (Array.getElem_mem hi) prog w _ _ ?_);rcases Nat.lt_or_eq_of_le hij with lt | rfl
   ·rw [hno i hi lt];wp_walk;exact ⟨rfl,rfl,lt⟩
   ·rw [hit];wp_walk;exact ⟨_,rfl,h⟩
  case fin=>
   rintro ⟨b1,b2⟩ s' ⟨hb,rfl,hij⟩;rw [hm] at hij;omega
  case h=>exact ⟨rfl,rfl,Nat.zero_le _⟩
end PySem
namespace L2
open PySem.Spec
section
variable {X:Cx}{o e:Expr}{to:TE}{t:TA}{name:Str}{apos cpos:Pos}{id:String}{r:V->List V->Hp->VK->Prop}
theorem zeg(slot:Slot "tuple" name id)(hty:typeOf (.builtin id)=pure (.type "method_descriptor"))(hm:MtR X id r)(ho:PE X o to)(ha:PA X [e] t) (hbase:attributeBase o name X.env (eval o X.env)=eval o X.env:=by rfl) (hfew:((backTo cpos (starEach [e] X.env)).all (fun x=>!x.1)&&(backToKw cpos (keywordEach [] X.env)).all (fun x=>x.1.isSome) && decide ([e].length+([]:List Keyword).length+(if ([]:List Keyword).isEmpty then 0 else 1)<30))=true:=by rfl) (hline:(apos.endLine==cpos.line)=true:=by rfl)(hs:starEach [e] X.env=(false,eval e X.env)::starEach [] X.env:=by rfl)(hplain:(backTo cpos (starEach [] X.env)).any (·.1)=false:=by rfl): PE X (.Call (.Attribute o name apos) [e] [] cpos) (fun O H Q=>to O H fun x H1=>(∃ p vs,x=.ref p/\H1 p=some (.tup vs))/\t O H1 fun xs H2=>r x xs H2 Q):=by
 intro pins s O H Q I h;refine wpAny_Call_method_late hbase hfew hline rfl (thn (ho pins s O H _ I h) fun v s1 ⟨x,H1,I1,r1,ty,q1⟩=>?_);obtain ⟨p,vs,rfl,hp⟩:=ty;cases r1;obtain ⟨_,its,_,ob,e1,c1,d1,n,w1⟩:=I1.hok p _ hp;refine ⟨"tuple",id,PySem.F.plainAttrs_tuple,slot,hty,⟨ob,e1,c1⟩,fun a e=>?_,?_⟩
 ·cases e;exact ⟨ob,e1,d1⟩
 have hA:=ha cpos pins s1 O H1 _ I1 q1;rw [hs] at hA ⊢;refine Calls.callWith_builtin (by show (false||(backTo cpos (starEach [] X.env)).any (·.1))=false;rw [hplain]<;>rfl) (Calls.evalArgs_plain ?_);exact thn hA fun us s2 ⟨vs,H2,I2,r2,q2⟩=>hm pins s2 O H2 (.ref p) vs _ us Q I2 rfl r2 q2
theorem z00:∀ {ns:List Int}{its:List Value},yG (ns.map V.int) its->IntsAre its ns
 | [],_,.nil=>.nil | n::ns,_,.cons r rs=>by
  obtain ⟨t,rfl⟩:=r;exact .cons n t (z00 rs)
def zgJ:V->List V->Hp->VK->Prop:=fun x vs H Q=>∃ (p:Addr)(ns:List Int)(k:Int),x=.ref p/\vs=[.int k]/\H p=some (.tup (ns.map V.int))/\k∈ns/\Q (.int (ns.idxOf k:Nat)) H
theorem z4W:MtR X "tuple.index" zgJ:=by
 intro pins s O H x vs v us Q I rx rv h;obtain ⟨p,ns,k,rfl,rfl,hp,hk,q⟩:=h;cases rx;obtain ⟨u,rfl,⟨t,rfl⟩⟩:=vals1 rv;obtain ⟨_,its,r,ob,e1,c1,d1,n,w1⟩:=I.hok p _ hp;have hi:=z00 r;have hlen:=hi.length;have hj:ns.idxOf k<ns.length:=List.idxOf_lt_length_iff.mpr hk;obtain ⟨cls,dd,data,sl⟩:=ob;simp only at c1 d1 w1;subst c1 d1 w1;refine call_meets PySem.F.slot_tuple_index ⟨_,e1,rfl⟩ PySem.F.entry_tuple_index (PySem.F.args_tuple_index_2 _ _) (z1J p its.toArray n _ sl (.int k t) (isInt k) (ns.idxOf k) (by simpa [hlen] using hj) ?_ ?_) ⟨e1,fun y hy=>(eq_isInt k t hi y (by simpa using hy)).at _ _,?_⟩
 ·show isInt k its[ns.idxOf k]=true;rw [isInt_at k hi _ (by omega) hj];simpa using List.getElem_idxOf hj
 ·intro j hjs hlt;show isInt k its[j]=false;rw [isInt_at k hi j (by simpa using hjs) (by omega)];exact ne_of_lt_idxOf hlt _
 ·exact ⟨.int (ns.idxOf k:Nat),H,I.kept (fun b o e=>e),⟨s.toks,rfl⟩,q⟩
end
end L2
namespace Dd
open PySem.Spec L2
section
variable {X:Cx}{E:XK}{o e:Expr}{pos:Pos}
def z7r(fo fv:FE):FE:=fun ρ s=>(fo ρ s).bind fun o s1=>match o with
 | .tup ds=>(fv ρ s1).bind fun d s2=>match intsOf ds,d with
  | some ns,.int k=>if k∈ns then .ok (.int (ns.idxOf k:Nat)) s2 else .no | _,_=>.no
 | _=>.no
theorem kA{apos:Pos}{fo fv:FE}(ho:RE X E o fo)(hv:RE X E e fv)(hbase:attributeBase o "index" X.env (eval o X.env)=eval o X.env:=by rfl) (hfew:((backTo pos (starEach [e] X.env)).all (fun x=>!x.1)&&(backToKw pos (keywordEach [] X.env)).all (fun x=>x.1.isSome) && decide ([e].length+([]:List Keyword).length+(if ([]:List Keyword).isEmpty then 0 else 1)<30))=true:=by rfl) (hline:(apos.endLine==pos.line)=true:=by rfl)(hs:starEach [e] X.env=(false,eval e X.env)::starEach [] X.env:=by rfl)(hplain:(backTo pos (starEach [] X.env)).any (·.1)=false:=by rfl): RE X E (.Call (.Attribute o "index" apos) [e] [] pos) (z7r fo fv):= zX (zeg PySem.F.slot_tuple_index PySem.F.type_tuple_index z4W ho (jZ hv z3x hs) hbase hfew hline hs hplain) fun O H Q ⟨Y,ρ,s,r,en,h⟩=>by
  unfold z7r at h;refine ⟨Y,ρ,s,r,en,(okR.bind (Dn:=Den (gm X)) h).imp fun ov H1 ⟨Y1,s1,od,stp,dn,h1⟩=>?_⟩;cases od with
  | tup ds=>
   simp only at h1;have hty:∃ p vs,ov=.ref p/\H1 p=some (.tup vs):=by
    simp only [Den] at dn;obtain ⟨a,vs,rfl,e1,_⟩:=dn;exact ⟨a,vs,rfl,e1⟩
   refine ⟨hty,⟨Y1,ρ,s1,stp.rep,en.mono stp,(okR.bind (Dn:=Den (gm X)) h1).imp fun v H2 ⟨Y2,s2,d,stp2,dn2,h2⟩=>?_⟩⟩;split at h2
   ·rename_i ns k ei;split at h2
    ·rename_i hk;have dov:=dn.mono stp2;simp only [Den] at dov;obtain ⟨a,vs,rfl,e1,e2⟩:=dov;rw [jy ei] at e2;cases jF e2;cases zW dn2;exact ⟨a,ns,k,rfl,rfl,e1,hk,okR.here h2 stp2.rep yk⟩
    ·exact h2.elim
   ·exact h2.elim | _=>exact h1.elim
@[simp] theorem zdP (fo fv:FE)(ρ:Ev)(s:Sto):z7r fo fv ρ s=(fo ρ s).bind fun o s1=>match o with
 | .tup ds=>(fv ρ s1).bind fun d s2=>match intsOf ds,d with
  | some ns,.int k=>if k∈ns then .ok (.int (ns.idxOf k:Nat)) s2 else .no | _,_=>.no
 | _=>.no:=id rfl
end
def zcz(P:Program)(w:World)(K:W.Frag)(mg:Str->Option Value)(x:Str)(tb:List (Str×Str)):Prop:= ∃ a o es ep,mg x=some (.ref a)/\(a==sysModules)=false/\K.lookup a=some o/\o.ExactDict/\o.data=.dict es ep/\PySem.KeysOf (yI P w) es/\ (∀ k y,tb.lookup k=some y->∃ f,findBy (yI P w).is es (.inr k)=some (.ref f)/\mg y=some (.ref f))/\∀ k,tb.lookup k=none->findBy (yI P w).is es (.inr k)=none
theorem z3Z{P:Program}{w:World}{k:Str}{u:Value}(r:xo (.str k) u):(yI P w).is (.inr k) u=true:=by
 obtain ⟨t,e⟩:=(show ∃ t,u=Value.str k t from r);subst e;exact z0I k t
section
variable {X:Cx}{E:XK}{e a b c:Expr}{es:List Expr}{pos:Pos}{CX:CXT}
theorem z6A{pins:List (Addr×Obj)}{O:L2.St}{H:Hp}{s:Shared}{o:Obj}{d:Addr}{en:Array DictEntry}{ep:Nat}(I:Inv X pins O H s)(hk:X.K.lookup d=some o)(hx:o.ExactDict)(hd:o.data=.dict en ep)(ks:PySem.KeysOf (yI X.prog X.w) en): s.heap.MapOf (yI X.prog X.w) d (fun k=>findBy (yI X.prog X.w).is en k):=⟨o,en,ep,I.kIn d o hk,hx,hd,ks,fun _=>rfl⟩
def zfF(tb:List (Str×Str))(f:FE):FE:=fun ρ s=>(f ρ s).bind fun d s1=>match d with
 | .str k=>match tb.lookup k with | some y=>.ok (.fn y) s1 | none=>.no
 | _=>.no
theorem zgd{x:Str}{p:Pos}{tb:List (Str×Str)}{f:FE}(hT:zcz X.prog X.w X.K X.mg x tb)(hg:Gl X x)(he:RE X E e f)(hs:z5H e)(hdb:(x==("__debug__":Str))=false:=by decide): RE X E (.Subscript (.Name x p) e pos) (zfF tb f):=by
 obtain ⟨d,o,en,ep,hm,hsm,hk,hx,hd,ks,h1,h2⟩:=hT;refine zX (zdz (r:=fun v y H Q=>v=.ref d/\∃ k g,y=.str k/\findBy (yI X.prog X.w).is en (.inr k)=some (.ref g)/\Q (.ref g) H) ?_ (z5D hg hm (show xo (.ref d) (.ref d) from rfl) hdb) he hs) fun O H Q ⟨Y,ρ,s,r,en',h⟩=>?_
 ·intro value slice pins s O H v y u u2 Q I rx ry h hs2;obtain ⟨rfl,k,g,rfl,hf,q⟩:=h;cases rx;have mp:=z6A I hk hx hd ks;exact subscriptTail_builtinR (x:=.ref g) mp.typeIs PySem.F.slot_dict_getitem.lookup (wpAny_getItem_of (Q:=fun r s'=>r=.ref g/\EP X pins O Q r s') (z3Z ry) mp hf ⟨rfl,.ref g,H,I.tok _,rfl,q⟩) hs2
 ·unfold zfF at h;refine ⟨Y,ρ,s,r,en',(okR.bind (Dn:=Den (gm X)) h).imp fun v H1 ⟨Y1,s1,dd,stp,dn,q⟩=>?_⟩;split at q
  ·rename_i k;split at q
   ·rename_i y hy;obtain ⟨g,e1,e2⟩:=h1 k y hy;cases z5v dn;exact ⟨rfl,k,g,rfl,e1,okR.here (b:=V.ref g) q stp.rep (by simp only [Den];exact ⟨g,rfl,e2⟩)⟩
   ·exact q.elim
  ·exact q.elim
def z6T(tb:List (Str×Str))(neg:Bool)(f:FE):FE:=fun ρ s=>(f ρ s).bind fun d s1=>match d with
 | .str k=>.ok (.bl (xor neg (tb.lookup k).isSome)) s1 | _=>.no
theorem zc4{x:Str}{p:Pos}{tb:List (Str×Str)}{f:FE}(hT:zcz X.prog X.w X.K X.mg x tb)(hg:Gl X x)(he:RE X E e f)(hm':behindInMarks .In (.Name x p)=false:=by rfl)(hdb:(x==("__debug__":Str))=false:=by decide): RE X E (.Compare e [.In] [.Name x p] pos) (z6T tb false f):=by
 obtain ⟨d,o,en,ep,hm,hsm,hk,hx,hd,ks,h1,h2⟩:=hT;refine zX (z7Y (r:=fun y v H Q=>v=.ref d/\∃ k,y=.str k/\Q (.bl (findBy (yI X.prog X.w).is en (.inr k)).isSome) H) ?_ he (z5D hg hm (show xo (.ref d) (.ref d) from rfl) hdb) hm') fun O H Q ⟨Y,ρ,s,r,en',h⟩=>?_
 ·intro pins s O H y v u u2 Q I ry rx h;obtain ⟨rfl,k,rfl,q⟩:=h;cases rx;exact wpAny_in_of (z3Z ry) hsm (z6A I hk hx hd ks) ⟨.bl _,H,I.tok _,rfl,q⟩
 ·unfold z6T at h;refine ⟨Y,ρ,s,r,en',(okR.bind (Dn:=Den (gm X)) h).imp fun v H1 ⟨Y1,s1,dd,stp,dn,q⟩=>?_⟩;split at q
  ·rename_i k;cases z5v dn;have e0:(findBy (yI X.prog X.w).is en (.inr k)).isSome=(tb.lookup k).isSome:=by cases z:tb.lookup k with
    | none=>rw [h2 k z];rfl | some y=>obtain ⟨g,e1,_⟩:=h1 k y z;rw [e1];rfl
   exact ⟨rfl,k,rfl,okR.here (b:=V.bl _) q stp.rep (by simp [Den,e0])⟩
  ·exact q.elim
def z6h(i:Nat)(Ms:List (Str×Mir))(f:FA):FE:=fun ρ s=>match ρ[i]? with
 | some (some (.fn y))=>match Ms.lookup y with
  | some M=>(f ρ s).bind fun xs s1=>M xs s1 | none=>.no
 | _=>.no
theorem zbW (i:Nat) {x:Str} {p:Pos} {n:Nat} {Ms:List (Str×Mir)} {f:FA} (F:∀ y M,Ms.lookup y=some M->Has X.prog X.w X.K X.mg X.base CX y n M) (hr:z0n n X.A) (hxx:Passes CX X E) (ha:RA X E (e::es) f) (hN:X.N[i]? = some x:=by rfl) (hv:Vis X.env.scope x:=by first | exact Or.inl rfl | exact Or.inr (Or.inl rfl) | exact Or.inr (Or.inr rfl)) (hd:(x==("__debug__":Str))=false:=by decide) (hcd:(x==("__classdict__":Str))=false:=by decide) (he:starEach (e::es) X.env=(false,eval e X.env)::starEach es X.env:=by rfl) (hpl:(backTo pos (starEach es X.env)).any (·.1)=false:=by rfl):RE X E (.Call (.Name x p) (e::es) [] pos) (z6h i Ms f):=by
 intro pins s O H Q I ⟨Y,ρ,st,r,en,h⟩;unfold z6h at h;split at h
 ·rename_i y hy;split at h
  ·rename_i M hM;obtain ⟨v,hv1,dv⟩:=en.at_ i (.fn y) hy;simp only [Den] at dv;obtain ⟨g,rfl,hmg⟩:=dv;obtain ⟨fa,fd,ps,Fk,hb,hk,hm⟩:=F y M hM;have e0:g=fa:=by rw [hmg] at hm;cases hm;rfl
   subst e0;refine wpAny_Call_Name_kw (thn (z8x (pos:=p) hN hv hd hcd pins s O H (fun v H1=>v=.ref g/\H1=H) I ⟨.ref g,hv1,rfl,rfl⟩) fun u s1 ⟨v,H1,I1,r1,e1,e2⟩=>?_);subst e1 e2;cases r1;have hA:=ha pos pins s1 O H1 (fun vs H2=>zc8 (gm X) M (vs++[]) H2 Q E) I1 (uj (k:=fun ρ xs s1=>M xs s1) r en h _ fun vs H2 Y2 s2 ds r2 en2 dn2 stp2 h3=>by
    rw [List.append_nil];exact ⟨Y2,s2,ds,r2,dn2,h3⟩);refine W.callWith_K (h₀:=X.base) I1.ok.mod.kin hk (thn hA fun us s2 ⟨vs,H2,I2,r2,q⟩=>⟨I2.kIn,?_⟩) he hpl;exact z8J Fk hr hb .nil hxx I2 r2 q
  ·exact h.elim
 ·exact h.elim
@[simp] theorem zhA (tb:List (Str×Str))(f:FE)(ρ:Ev)(s:Sto):zfF tb f ρ s=(f ρ s).bind fun d s1=>match d with
 | .str k=>match tb.lookup k with | some y=>.ok (.fn y) s1 | none=>.no
 | _=>.no:=id rfl
@[simp] theorem zfO (tb:List (Str×Str))(neg:Bool)(f:FE)(ρ:Ev)(s:Sto):z6T tb neg f ρ s=(f ρ s).bind fun d s1=>match d with
 | .str k=>.ok (.bl (xor neg (tb.lookup k).isSome)) s1 | _=>.no:=id rfl
@[simp] theorem zaG (i:Nat)(Ms:List (Str×Mir))(f:FA)(ρ:Ev)(s:Sto):z6h i Ms f ρ s=match ρ[i]? with
 | some (some (.fn y))=>match Ms.lookup y with
  | some M=>(f ρ s).bind fun xs s1=>M xs s1 | none=>.no
 | _=>.no:=id rfl
end
theorem xH.cut{mg:Gm}{H H1:Hp}{Y Y1:List Addr}{s1:Sto}(stp:xH mg H Y H1 Y1 s1):xH mg H Y H1 (Y1.take Y.length) (s1.take Y.length):=by
 have fl:∀ {ds:List D}{ws:List V},D.flat.flats ds=true->zu mg H1 Y1 ds ws->zu mg H1 (Y1.take Y.length) ds ws:=fun f h=>h.flatten (fun _ _ h _ _=>h) f;refine ⟨⟨by simp [stp.rep.len],stp.rep.nd.sublist (List.take_sublist _ _),fun j ys h=>?_,fun ys h=>stp.rep.flat ys (List.mem_of_mem_take h)⟩,?_,stp.keep,fun c h1 h2=>stp.new c (List.mem_of_mem_take h1) h2,stp.mt⟩
 ·have hj:j<Y.length:=by
   have:=(List.getElem?_eq_some_iff.mp h).1;simp at this;omega
  rw [List.getElem?_take_of_lt hj] at h ⊢;obtain ⟨c,q1,q2⟩:=stp.rep.cell j ys h;exact ⟨c,q1,q2.flatten (fun _ _ h _ _=>h) (stp.rep.flat _ (List.mem_of_getElem? h)) rfl⟩
 ·obtain ⟨t,ht⟩:=stp.pre;exact ⟨[],by rw [<- ht,List.take_append];simp⟩
theorem xH.frzC{mg:Gm}{H H1:Hp}{Y Y1:List Addr}{s1:Sto}{l:Nat}{xs:List D}(stp:xH mg H Y H1 Y1 s1){a:Addr}(hl:Y.length<=l)(hx:s1[l]? = some xs)(e1:Y1[l]? = some a)(ka:IsL H1 a):∃ vs,H1 a=some (.lst vs)/\ ∀ o,xH mg H Y (upd H1 a (.frz o (.lst vs))) (Y1.take Y.length) (s1.take Y.length)/\Den mg (upd H1 a (.frz o (.lst vs))) (Y1.take Y.length) (.lst xs) (.ref a):=by
 obtain ⟨vs,e2,e3⟩:=stp.rep.at_ hx e1 ka;refine ⟨vs,e2,fun o=>?_⟩;have il:l<Y1.length:=(List.getElem?_eq_some_iff.mp e1).1;have an:a∉Y:=fun z=>by
  obtain ⟨j,hj,ej⟩:=List.mem_iff_getElem.mp z;obtain ⟨t,ht⟩:=stp.pre;have:Y1[j]? = some a:=by rw [<- ht,List.getElem?_append_left hj,List.getElem?_eq_getElem hj,ej]
  have:=(List.getElem_inj stp.rep.nd).mp (((List.getElem?_eq_some_iff.mp this).2).trans ((List.getElem?_eq_some_iff.mp e1).2).symm);omega
 have a0:H a=none:=stp.new a (List.mem_of_getElem? e1) an;have k:∀ b u,H1 b=some u->(∀ vs,u≠.lst vs)->(∀ kvs,u≠.dT kvs)->upd H1 a (.frz o (.lst vs)) b=some u:=fun b u h hn _=>by rw [zC (fun z=>by subst z;rw [e2] at h;exact hn vs (Option.some.inj h).symm)];exact h
 have fl:∀ {ds:List D}{ws:List V},D.flat.flats ds=true->zu mg H1 Y1 ds ws->zu mg (upd H1 a (.frz o (.lst vs))) (Y1.take Y.length) ds ws:=fun f h=>h.flatten k f;have mem:∀ {j:Nat}{ys:List D},s1[j]? = some ys->D.flat.flats ys=true:=fun e=>stp.rep.flat _ (List.mem_of_getElem? e);refine ⟨⟨⟨by simp [stp.rep.len],stp.rep.nd.sublist (List.take_sublist _ _),fun j ys h=>?_,fun ys h=>stp.rep.flat ys (List.mem_of_mem_take h)⟩,?_,fun b u h n=>?_,fun c h1 h2=>stp.new c (List.mem_of_mem_take h1) h2,fun b hb=>?_⟩,?_⟩
 ·have hj:j<Y.length:=by
   have:=(List.getElem?_eq_some_iff.mp h).1;simp at this;omega
  rw [List.getElem?_take_of_lt hj] at h ⊢;obtain ⟨c,q1,q2⟩:=stp.rep.cell j ys h;refine ⟨c,q1,q2.flatten k (mem h) (zC fun z=>?_)⟩;subst z;have:=(List.getElem_inj stp.rep.nd).mp (((List.getElem?_eq_some_iff.mp q1).2).trans ((List.getElem?_eq_some_iff.mp e1).2).symm);omega
 ·obtain ⟨t,ht⟩:=stp.pre;exact ⟨[],by rw [<- ht,List.take_append];simp⟩
 ·rw [zC (fun z=>by subst z;rw [a0] at h;cases h)];exact stp.keep b u h n
 ·have ne:b≠a:=fun z=>an (z ▸ hb);rcases stp.mt b hb with ⟨q1,q2⟩ | ⟨q1,q2⟩;·exact .inl ⟨q1,by rw [IsL,zC ne];exact q2⟩
  ·exact .inr ⟨q1,by rw [IsC,zC ne];exact q2⟩
 ·simp only [Den];exact ⟨a,o,vs,rfl,yy,fl (mem hx) e3⟩
def zfy(n:Nat):R D->R D
 | .ok (.loc l) s1=>match s1[l]? with
  | some xs=>if n<=l then .ok (.lst xs) (s1.take n) else .no | none=>.no
 | .ok _ _=>.no | .ex c s1=>.ex c s1 | .no=>.no
def zgm(f:FE):FE:=fun ρ s=>zfy s.length (f ρ s)
@[simp] theorem zgK (f:FE)(ρ:Ev)(s:Sto):zgm f ρ s=zfy s.length (f ρ s):=id rfl
@[simp] theorem zfN {s:Sto}{xs:List D}:zfy s.length (.ok (.loc s.length) (s++[xs]))=.ok (.lst xs) s:=by simp [zfy]
def z52(n:Nat):R D->R D
 | .ok (.loc l) s1=>if l<n then .ok (.loc l) (s1.take n) else .ok (.loc l) s1 | .ok d s1=>if d.flat=true then .ok d (s1.take n) else .ok d s1 | r=>r
def z5k(M:Mir):Mir:=fun ds s=>z52 s.length (M ds s)
theorem zci{mg:Gm}{M:Mir}{vs:List V}{H:Hp}{Q:VK}{E:XK}(h:zc8 mg (z5k M) vs H Q E):zc8 mg M vs H Q E:=by
 obtain ⟨Y,s,ds,r,dn,h⟩:=h;refine ⟨Y,s,ds,r,dn,?_⟩;unfold z5k z52 at h;split at h
 ·rename_i l s1 e;rw [e];split at h
  ·rename_i hl;intro v H1 Y1 stp dv;rw [<- r.len] at h;refine h v H1 _ stp.cut ?_;simp only [Den] at dv ⊢;obtain ⟨a,rfl,e1,ka⟩:=dv;exact ⟨a,rfl,by rw [List.getElem?_take_of_lt (by rw [r.len];exact hl)];exact e1,ka⟩
  ·exact h
 ·rename_i d s1 hn e;rw [e];split at h
  ·rename_i hf;intro v H1 Y1 stp dv;rw [<- r.len] at h;exact h v H1 _ stp.cut (dv.flatten (fun _ _ h _ _=>h) hf)
  ·exact h
 ·exact h
section
variable {P:Program}{w:World}{K:W.Frag}{mg:Str->Option Value}{base:Heap}
theorem Has.tidy{CX:CXT}{x:Str}{n:Nat}{M:Mir}(h:Has P w K mg base CX x n M):Has P w K mg base CX x n (z5k M):=by
 obtain ⟨f,fd,ps,F,r⟩:=h;exact ⟨f,fd,ps,F.imp fun vs H Q E h=>zci h,r⟩
end
@[simp] theorem z5x (M:Mir)(ds:List D)(s:Sto):z5k M ds s=z52 s.length (M ds s):=id rfl
@[simp] theorem kc {d:D}{n:Nat}{s1:Sto}(h:d.flat=true):z52 n (.ok d s1)=.ok d (s1.take n):=by cases d<;>first | (simp [D.flat] at h;done) | simp_all [z52]
section
variable {X:Cx}{E:XK}{e a b c:Expr}{es:List Expr}{pos:Pos}{CX:CXT}
theorem zcB{x:Str}{p:Pos}{n:Nat}{M:Mir}(F:Has X.prog X.w X.K X.mg X.base CX x n M)(hr:z0n n X.A)(hx:Passes CX X E)(hg:Gl X x)(hdb:(x==("__debug__":Str))=false:=by decide):RE X E (.Call (.Name x p) [] [] pos) (zf M zj):=by
 obtain ⟨fa,fd,ps,F,hb,hk,hm⟩:=F;refine zX (zal F hr hg hm hk hb .nil hx hdb) fun O H Q ⟨Y,ρ,s,r,en,h⟩=>?_;exact ⟨Y,s,[],r,zu.nil,h⟩
end
section
variable {P:Program}{w:World}{K:W.Frag}{mg:Str->Option Value}{base:Heap}{CX:CXT}{n:Nat}
def z8h:List DictEntry->List (Str×Value)
 | []=>[] | e::es=>match e.key with
  | .str k _=>(k,e.val)::z8h es | _=>z8h es
theorem jV {P:Program} {w:World} {k:Str}:∀ {es:List DictEntry},findBy (yI P w).is es.toArray (.inr k)=(z8h es).lookup k
 | []=>by simp [findBy,z8h] | e::es=>by
  have ih:=jV (P:=P) (w:=w) (k:=k) (es:=es);simp only [findBy,List.find?_toArray] at ih ⊢;rw [List.find?_cons];cases hk:e.key with
  | str y t=>
   simp only [z8h,hk,List.lookup_cons];by_cases z:k=y
   ·subst z;simp [z5P]
   ·have:(yI P w).is (.inr k) (.str y t)=false:=by
     rw [z2b];cases q:z5J (.inr k) (.str y t) with
     | false=>rfl | true=>
      rcases zZ q with ⟨i,u,h1,h2⟩ | ⟨x,u,h1,h2⟩;·cases h2
      ·cases h1;cases h2;exact absurd rfl z
    rw [this,show (k==y)=false from by simpa using z];exact ih | _=>
   have:(yI P w).is (.inr k) e.key=false:=by
    rw [z2b];cases q:z5J (.inr k) e.key with
    | false=>rfl | true=>
     rcases zZ q with ⟨i,u,h1,h2⟩ | ⟨x,u,h1,h2⟩;·cases h1
     ·rw [hk] at h2;cases h2
   rw [hk] at this;simp only [z8h,hk,this];exact ih
theorem z9P:∀ y M,([]:List (Str×Mir)).lookup y=some M->Has P w K mg base CX y n M:=fun y M h=>by simp at h
theorem jm{x:Str}{M0:Mir}{Ms:List (Str×Mir)}(h:Has P w K mg base CX x n M0)(hs:∀ y M,Ms.lookup y=some M->Has P w K mg base CX y n M):∀ y M,((x,M0)::Ms).lookup y=some M->Has P w K mg base CX y n M:=fun y M e=>by
 rw [List.lookup_cons] at e;split at e
 ·rename_i hb;cases e;have:y=x:=by simpa using hb
  subst this;exact h
 ·exact hs y M e
end
def Sub(K:W.Frag)(h:Heap):Prop:=∀ p∈K,h.get? p.1=some p.2
theorem Sub.in_{K:W.Frag}{h:Heap}(s:Sub K h):K.In h:=fun a o e=>by induction K with
 | nil=>simp at e | cons p K ih=>
  obtain ⟨b,u⟩:=p;rw [List.lookup_cons] at e;split at e
  ·rename_i hb;cases e;have:a=b:=by simpa using hb
   subst this;exact s (a,o) (by simp)
  ·exact ih (fun q hq=>s q (by simp [hq])) e
theorem z2T(h:Heap)(a:Addr):Sub (z5u h a) h:=fun p hp=>by
 unfold z5u at hp;split at hp
 ·rename_i o e;simp at hp;subst hp;exact e
 ·simp at hp
theorem Sub.app{K L:W.Frag}{h:Heap}(a:Sub K h)(b:Sub L h):Sub (K++L) h:=fun p hp=>(List.mem_append.mp hp).elim (a p) (b p)
theorem zd4(h:Heap)(ns:List Str):Sub (gat h ns) h:=by
 refine (z2T h _).app fun p hp=>?_;obtain ⟨x,_,hx⟩:=List.mem_flatMap.mp hp;unfold zhH at hx;split at hx
 ·rcases List.mem_append.mp hx with hx | hx;·exact z2T h _ p hx
  ·split at hx
   ·split at hx;·exact z2T h _ p hx
    ·simp at hx
   ·exact z2T h _ p hx
   ·simp at hx
 ·simp at hx
def zhs(K:W.Frag)(x:Str)(st:Stmt):Prop:=∃ f fd,W.nsIn K mainGlobals x=some (some (.ref f))/\Fun K x x st f fd
theorem dA(s:Stmt):dArgs s=ki s:=by cases s<;>rfl
theorem dB(s:Stmt):zdw s=uw s:=by cases s<;>rfl
theorem dS(s:Stmt):zba s=zg s:=by cases s<;>rfl
theorem zbN{K:W.Frag}{x:Str}{st:Stmt}(h:zcX K x=zgk x st):zhs K x st:=by
 unfold zcX zgk at h;rw [dA,dB,dS] at h;split at h
 ·rename_i f hf;split at h
  ·rename_i oc od fd sl hl;simp only [Option.some.injEq,Prod.mk.injEq] at h;obtain ⟨h1,h2,h3,h4,h5,h6,h7,h8,h9,h10,h11⟩:=h;obtain ⟨a1,a2,a3,a4,a5,a6,a7,a8,a9,a10,a11,a12,a13,a14,a15⟩:=fd;simp only at h1 h2 h3 h4 h5 h6 h7 h8 h9 h10;subst h1 h3 h4 h5 h6 h7 h8 h9;subst h2;exact ⟨f,_,hf,zfp hl h10 h11⟩
  ·cases h
 ·cases h
theorem za2{K:W.Frag}{x:Str}(h:zbO K x=true):W.nsIn K mainGlobals x=some none:=by
 unfold zbO at h;split at h;·rename_i e;exact e
 ·cases h
theorem za3{K:W.Frag}{x:Str}{i:Int}(h:zdb K x=some i):∃ t,W.nsIn K mainGlobals x=some (some (.int i t)):=by
 unfold zdb at h;split at h;·rename_i j t e;cases h;exact ⟨t,e⟩
 ·cases h
theorem z6K{P:Program}{w:World}{K:W.Frag}{h:Heap}{mg:Str->Option Value}(X:K.In h)(G:h.Ns mainGlobals mg):∀ {es:List DictEntry}{tb:List (Str×Str)},z72 K es (tb.map (·.2))=tb.map (fun p=>(PyData.keyHash w.params p.1,some p.1,true))-> PySem.KeysOf (yI P w) es.toArray/\(∀ k y,tb.lookup k=some y->∃ f,(z8h es).lookup k=some (.ref f)/\mg y=some (.ref f))/\∀ k,tb.lookup k=none->(z8h es).lookup k=none
 | [],[],_=>⟨fun e he=>by simp at he,fun k y h=>by simp at h,fun k _=>by simp [z8h]⟩ | [],_::_,h=>by simp [z72] at h | _::_,[],h=>by simp [z72] at h | e::es,(k0,y0)::tb,h=>by
  simp only [List.map_cons,z72,List.cons.injEq,Prod.mk.injEq] at h;obtain ⟨⟨h1,h2,h3⟩,h4⟩:=h;obtain ⟨i1,i2,i3⟩:=z6K (P:=P) X G h4;obtain ⟨hh,kk,vv⟩:=e;simp only at h1 h2 h3;cases kk with
  | str ks t=>
   simp only [z8u,Option.some.injEq] at h2;subst h2;have hv:∃ f,vv=.ref f/\W.nsIn K mainGlobals y0=some (some (.ref f)):=by
    unfold sameRef at h3;split at h3
    ·rename_i f g e1;have:f=g:=by simpa using h3
     subst this;exact ⟨f,rfl,e1⟩
    ·cases h3
   obtain ⟨f,rfl,e1⟩:=hv;refine ⟨fun e he=>?_,fun k y hy=>?_,fun k hy=>?_⟩
   ·simp only [List.mem_toArray,List.mem_cons] at he;rcases he with rfl | he;·exact ⟨.inr ks,z0I ks t,h1⟩
    ·exact i1 e (by simpa using he)
   ·simp only [z8h,List.lookup_cons] at hy ⊢;by_cases z:k=ks
    ·subst z;simp at hy ⊢;subst hy;exact W.mg_of X G e1
    ·rw [show (k==ks)=false from by simpa using z] at hy ⊢;exact i2 k y hy
   ·simp only [z8h,List.lookup_cons] at hy ⊢;by_cases z:k=ks;·subst z;simp at hy
    ·rw [show (k==ks)=false from by simpa using z] at hy ⊢;exact i3 k hy | _=>simp [z8u] at h2
theorem zcj{P:Program}{w:World}{K:W.Frag}{h:Heap}{mg:Str->Option Value}{x:Str}{tb:List (Str×Str)}(X:K.In h)(G:h.Ns mainGlobals mg)(e:zd2 K x (tb.map (·.2))=zgC w tb):zcz P w K mg x tb:=by
 unfold zd2 zgC at e;split at e
 ·rename_i a ha;split at e
  ·rename_i c d es ep sl hl;simp only [Option.some.injEq,Prod.mk.injEq] at e;obtain ⟨e1,e2,e3,e4,e5⟩:=e;obtain ⟨i1,i2,i3⟩:=z6K (P:=P) X G e5;have hc:c=.type "dict":=by
    unfold z4G at e1;split at e1
    ·rename_i n;have:n="dict":=by simpa using e1
     rw [this]
    ·cases e1
   have hd:d=none:=by simpa using e2
   have hs:sl=#[]:=by
    have:sl.size=0:=by simpa using e3
    exact Array.eq_empty_of_size_eq_zero this
   have ea:es.toList.toArray=es:=by simp
   rw [ea] at i1;refine ⟨a,_,es,ep,W.mg_of X G ha,e4,hl,⟨hc,hd,hs⟩,rfl,i1,fun k y hy=>?_,fun k hy=>?_⟩;·rw [<- ea,jV];exact i2 k y hy
   ·rw [<- ea,jV];exact i3 k hy
  ·cases e
 ·cases e
def saysS(q:Ask)(w:World)(h:Heap):Prop:=∃ K:W.Frag,K.In h/\z9F q K=valS q w
theorem zch(q:Ask)(w:World)(s:Shared)(e:obsS q s=valS q w):saysS q w s.heap:=⟨_,(zd4 _ _).in_,e⟩
theorem z70(q:Ask)(w:World)(h h':Heap)(x:saysS q w h)(k:∀ b o,h.get? b=some o->h'.get? b=some o):saysS q w h':=let ⟨K,a,b⟩:=x;⟨K,a.keeps k,b⟩
theorem z65{α β:Type}{f g:α->β}:∀ {l:List α},l.map f=l.map g->∀ x∈l,f x=g x:=fun h x hx=>List.map_inj_left.mp h x hx
theorem zga{q:Ask}{w:World}{K:W.Frag}(e:z9F q K=valS q w)(x:Str)(st:Stmt)(hx:(x,st)∈q.fs):zhs K x st:=zbN (z65 (congrArg Prod.fst e) (x,st) hx)
theorem zg6{q:Ask}{w:World}{K:W.Frag}(e:z9F q K=valS q w)(x:Str)(hx:x∈q.bs):W.nsIn K mainGlobals x=some none:=za2 (z65 (congrArg (fun z=>z.2.1) e) x hx)
theorem zhe{q:Ask}{w:World}{K:W.Frag}(e:z9F q K=valS q w)(x:Str)(i:Int)(hx:(x,i)∈q.cs):∃ t,W.nsIn K mainGlobals x=some (some (.int i t)):=za3 (z65 (congrArg (fun z=>z.2.2.1) e) (x,i) hx)
theorem zh1{P:Program}{q:Ask}{w:World}{K:W.Frag}{h:Heap}{mg:Str->Option Value}(X:K.In h)(G:h.Ns mainGlobals mg)(e:z9F q K=valS q w)(x:Str)(tb:List (Str×Str))(hx:(x,tb)∈q.ts):zcz P w K mg x tb:=zcj X G (z65 (congrArg (fun z=>z.2.2.2.1) e) (x,tb) hx)
theorem z8c{p q:Program}{loose:List Str}{Xt:Shared->Bool}{α:Type}{Yf:Shared->α}{Ya:World->α}{N:Nat}{g0:Bool}(row:String) (bo:∀ w:World,(W.fencedOpening treeTable p w N).map (fun s=>(s.heap,s.gens,s.drawn,s.toks))=some (W.boot_heap w.params,Array.mk [],W.boot_drawn,W.boot_toks)) (hf:∀ (w:World)(os:OsState),(W.topFrom treeTable p (w.withFollow row false) N ⟨W.boot_heap w.params,Array.mk [],W.boot_drawn,W.boot_toks,os⟩).map (fun s=>(W.openSeen q loose (importedModules p.main.body) Xt g0 s,Yf s))=some (W.openGood q loose,Ya (w.withFollow row false))) (ht:∀ (w:World)(os:OsState),(W.topFrom treeTable p (w.withFollow row true) N ⟨W.boot_heap w.params,Array.mk [],W.boot_drawn,W.boot_toks,os⟩).map (fun s=>(W.openSeen q loose (importedModules p.main.body) Xt g0 s,Yf s))=some (W.openGood q loose,Ya (w.withFollow row true))):W.LeftO p q loose Xt Yf Ya N g0:= W.LeftO.of_split row fun w=>by
  obtain ⟨⟨h,gs,d,k,os⟩,e,e'⟩:=Option.map_eq_some_iff.mp (bo w);obtain ⟨rfl,rfl,rfl,rfl⟩:h=W.boot_heap w.params/\gs=Array.mk []/\d=W.boot_drawn/\k=W.boot_toks:=by simpa only [Prod.mk.injEq] using e'
  rw [e,Option.map_some,hf w os,ht w os]
theorem z4g{tb:String->Option Builtin}{p:Program}{w:World}{n₀:Nat}{ann:Option Value}:∀ {n:Nat}{s s':W.SharedT}{t:Thread},z0w tb p w n₀ ann n s t=some s'->W.topRun tb p w n₀ ann n s.abs t=some s'.abs
 | 0,_,_,_,h=>by cases h | n+1,s,s',t,h=>by
  unfold z0w at h;unfold W.topRun;cases he:W.through t with
  | true=>rw [he] at h;cases h;rfl | false=>
   rw [he] at h;cases hk:W.stepOk n₀ ann t with
   | false=>rw [hk] at h;cases h | true=>
    rw [hk] at h;cases hs:W.stepT (denote tb) p w s t with
    | none=>rw [hs] at h;cases h | some r=>obtain ⟨s₂,t₂⟩:=r;rw [hs] at h;rw [W.stepT_spec hs];exact z4g h
theorem z2l{p:Program}{w:World}{N:Nat}{h:Heap}{d:Drawn}{k:Nat}{os:OsState}{t0:W.BT}{m₀:Nat}{ann:Option Value}(ha:W.absHeap t0 m₀ h.life=h) (sz:(h.isNs mainGlobals&&(Array.mk []:Array GenState).size==0,h.objs.size,h.nsMap mainGlobals "__annotations__")=(true,m₀,ann)){α:Type}{f:Shared->α}{v:α} (hr:(z0w treeTable p w m₀ ann N ⟨t0,m₀,h.life,Array.mk [],d,k,os⟩ (W.topStub p)).map (fun sT=>(W.staticsOk (importedModules p.main.body) h sT.abs.heap&&W.namesBound p sT.abs.heap&&W.gensDone sT.abs&&W.laidKept h sT.abs.heap,f sT.abs))=some (true,v)): (W.topFrom treeTable p w N ⟨h,Array.mk [],d,k,os⟩).map f=some v:=by
 obtain ⟨sT,e1,e2⟩:=Option.map_eq_some_iff.mp hr;obtain ⟨e3,e4⟩:=Prod.mk.inj e2;obtain ⟨z1,z2,z3⟩:_/\_/\_:=by simpa only [Prod.mk.injEq] using sz
 have r:=z4g e1;have a0:(⟨t0,m₀,h.life,Array.mk [],d,k,os⟩:W.SharedT).abs=⟨h,Array.mk [],d,k,os⟩:=by
  show (⟨W.absHeap t0 m₀ h.life,Array.mk [],d,k,os⟩:Shared)=_;rw [ha]
 rw [a0] at r;have t:W.topFrom treeTable p w N ⟨h,Array.mk [],d,k,os⟩=some sT.abs:=by
  unfold W.topFrom;dsimp only;rw [z1,z2,z3];dsimp only;rw [r];show (match (W.staticsOk (importedModules p.main.body) h sT.abs.heap&&W.namesBound p sT.abs.heap&&W.gensDone sT.abs&&W.laidKept h sT.abs.heap) with | true=>some sT.abs | false=>none)=_;rw [e3]
 rw [t,Option.map_some,e4]
theorem z4b{α β γ δ:Type}{r:Option α}{f:α->β}{g:α->γ}{k:α->δ}{x:β}{y:γ}{z:δ}(h1:r.map (fun s=>(f s,k s))=some (x,z))(h2:r.map g=some y):r.map (fun s=>(f s,(g s,k s)))=some (x,(y,z)):=by
 obtain ⟨s,e1,e2⟩:=Option.map_eq_some_iff.mp h1;obtain ⟨s',e3,e4⟩:=Option.map_eq_some_iff.mp h2;rw [e1] at e3;cases e3;obtain ⟨e5,e6⟩:=Prod.mk.inj e2;rw [e1,Option.map_some,e4,e5,e6]
theorem walkY{l:W.OpenLaw}{n k:Nat}{q:Program}{loose:List Str}{XP:(Str->Option Value)->Heap->Prop}{YP:World->Heap->Prop}{d:DefRec}{x:Str} (hn:l.most=some n)(hn2:n<=sizeLine)(hn3:n<=63)(hdf:d.params.defaults=[])(hr:z0n k callerA) (F:∀ (w:World)(mg:Str->Option Value)(fa:Addr)(h:Heap),YP w h->h.Ns mainGlobals mg->mg d.name=some (.ref fa)->XP mg h-> ∃ K:W.Frag,K.In h/\∃ fd:FuncData,(∀ (s:Shared)(u:Value),BindsTo s fd ⟨[u],[]⟩ [(x,u)])/\ ∀ base:Heap,K.In base->base.Ns mainGlobals mg->z2j l.prog w K mg base CX0 k fa fd [x] (zcF K)): W.WalkO q loose XP YP l.row.toRowW d [] (fun f vs=>PySem.call f vs):=by
 refine Att.z11 hn hdf fun w s₀ s₁ mg mb fa o pm cd doc a vs ns G Yy ho hd hcd hmg hobj hints hlen hg=>?_;obtain ⟨K,KX,fd,hb,hF⟩:=F w mg fa _ Yy G.T.g hmg G.X;exact z6z KX G.T.g G.T.b G.T.builtins G.T.nolimit hg hobj hints (Nat.le_trans hlen hn2) hr hF hb (fun H hO hS=>⟨a,ns,rfl,hO,hS,Nat.le_trans hlen hn3,fun _=>rfl⟩) fun H e s' z=>z
end Dd
namespace HT
open PySem.Spec
end HT
namespace L2
open PySem.Spec
end L2
namespace Dd
open PySem.Spec L2
section
variable {X:Cx}{E:XK}{e:Expr}{pos p2 p3 p4:Pos}
def ziE(f:FE):FE:=fun ρ s=>(f ρ s).bind fun d s1=>match d with
 | .tup xs=>.ok (.tup xs.reverse) s1 | _=>.no
@[simp] theorem zhF (f:FE)(ρ:Ev)(s:Sto):ziE f ρ s=(f ρ s).bind fun d s1=>match d with
 | .tup xs=>.ok (.tup xs.reverse) s1 | _=>.no:=id rfl
end
section
variable {X:Cx}{E:XK}{e:Expr}{pos:Pos}
def zhW(i j k:Nat):FG:=fun d ρ s=>match d with
 | .tup [x,y,z]=>.ok (((ρ.set i (some x)).set j (some y)).set k (some z)) s | _=>.no
@[simp] theorem zhK (i j k:Nat)(x y z:D)(ρ:Ev)(s:Sto):zhW i j k (.tup [x,y,z]) ρ s=.ok (((ρ.set i (some x)).set j (some y)).set k (some z)) s:=id rfl
end
section
variable {X:Cx}{E:XK}{e a b c:Expr}{es:List Expr}{pos:Pos}
def ze8:D->D->Sto->R D:=dII fun i j=>if 0<=j/\j<=100/\i.natAbs<BIG then iOk (.int (i ^ j.toNat)) else .no
def z9b(x y:D)(s:Sto):R D:=(dIs x y s).bind fun d s1=>match d with | .bl k=>.ok (.bl (!k)) s1 | _=>.no
variable {z08:List Expr}
def zif(fa fb:FE):FE:=fun ρ s=>(fa ρ s).bind fun x s1=>match x with | .int i=>if i=0 then fb ρ s1 else .ok (.int i) s1 | .non=>fb ρ s1 | _=>.no
@[simp] theorem zhM (fa fb:FE)(ρ:Ev)(s:Sto):zif fa fb ρ s=(fa ρ s).bind fun x s1=>match x with | .int i=>if i=0 then fb ρ s1 else .ok (.int i) s1 | .non=>fb ρ s1 | _=>.no:=id rfl
@[simp] theorem zfB (x:Int)(s:Sto):z9b (.int x) .non s=.ok (.bl true) s:=id rfl
@[simp] theorem zdy (s:Sto):z9b .non .non s=.ok (.bl false) s:=id rfl
@[simp] theorem zdW (a b:Bool)(s:Sto):z9b (.bl a) (.bl b) s=.ok (.bl (!(a==b))) s:=id rfl
end
section
variable {X:Cx}{E:XK}{e o a b c:Expr}{es:List Expr}{pos:Pos}
def zio:D->D->Sto->R D
 | x,.int k,s=>match listOf s x with
  | some xs=>if xs.length*k.toNat<=cap/\-(2 ^ 62)<=k/\k<2 ^ 62/\D.flat.flats (List.replicate k.toNat xs).flatten=true then .ok (.loc s.length) (s++[(List.replicate k.toNat xs).flatten]) else .no | none=>.no
 | _,_,_=>.no
def zfa(fo fv:FE):FE:=fun ρ s=>(fo ρ s).bind fun o s1=>match o with
 | .loc l=>(fv ρ s1).bind fun d s2=>match s2[l]?,d with
  | some xs,.int i=>if 0<=i/\i<2 ^ 62 then (match xs[i.toNat]? with | some y=>.ok y (s2.set l (xs.eraseIdx i.toNat)) | none=>.no) else .no | _,_=>.no
 | _=>.no
@[simp] theorem zfP (fo fv:FE)(ρ:Ev)(s:Sto):zfa fo fv ρ s=(fo ρ s).bind fun o s1=>match o with
 | .loc l=>(fv ρ s1).bind fun d s2=>match s2[l]?,d with
  | some xs,.int i=>if 0<=i/\i<2 ^ 62 then (match xs[i.toNat]? with | some y=>.ok y (s2.set l (xs.eraseIdx i.toNat)) | none=>.no) else .no | _,_=>.no
 | _=>.no:=id rfl
def see(s:Sto):D->D
 | .loc l=>match s[l]? with | some xs=>.lst xs | none=>.loc l
 | d=>d
def zad(neg:Bool)(x y:D)(s:Sto):R D:=if z3j (see s x)=true/\z3j (see s y)=true then .ok (.bl (if neg then !eqD (see s x) (see s y) else eqD (see s x) (see s y))) s else .no
theorem Den.readsS{P:Program}{w:World}{mg:Gm}{H:Hp}{Y:List Addr}{h:Heap}{s:Sto}(ok:HOk P w H h)(rp:Rep mg H Y s){d:D}{v:V}{u:Value}(c:PyData.canLay0 (xS (see s d))=true)(dn:Den mg H Y d v)(r:xo v u):∃ as,Reads h u (xS (see s d)) as:=by
 by_cases hl:∃ l xs,d=.loc l/\s[l]? = some xs
 ·obtain ⟨l,xs,rfl,hx⟩:=hl;have e0:see s (.loc l)=.lst xs:=by simp [see,hx]
  rw [e0] at c ⊢;simp only [Den] at dn;obtain ⟨a,rfl,e1,ka⟩:=dn;cases r;obtain ⟨vs,q1,q2⟩:=rp.at_ hx e1 ka;obtain ⟨_,its,n,rv,e⟩:=ok a _ q1;obtain ⟨as,q⟩:=zu.reads ok (by simpa [xS,PyData.canLay0] using c) q2 rv;rw [xS];exact ⟨_,Reads.list e rfl rfl (by simpa using q)⟩
 ·have e0:see s d=d:=by cases d with
   | loc l=>
    simp only [see];split;·rename_i xs hx;exact absurd ⟨l,xs,rfl,hx⟩ hl
    ·rfl | _=>rfl
  rw [e0] at c ⊢;exact Den.reads ok c dn r
def zhz(mg:Gm)(neg:Bool):R2:=fun x y H Q=>∃ Y s d1 d2,Rep mg H Y s/\Den mg H Y d1 x/\Den mg H Y d2 y/\z3j (see s d1)=true/\z3j (see s d2)=true/\Q (.bl (if neg then !eqD (see s d1) (see s d2) else eqD (see s d1) (see s d2))) H
theorem zeA(hu:X.A.units+64<cLine):OpR X (compareOp .Eq) (zhz (gm X) false):=by
 intro pins s O H x y v u Q I rx ry ⟨Y,st,d1,d2,rp,h1,h2,p1,p2,q⟩;obtain ⟨as,ra⟩:=Den.readsS I.hok rp (SeqAt.canLay_of_shaped p1) h1 rx;obtain ⟨bs,rb⟩:=Den.readsS I.hok rp (SeqAt.canLay_of_shaped p2) h2 ry;exact SeqAt.compareEq_shaped ra rb p1 p2 hu ⟨.bl (eqD (see st d1) (see st d2)),H,I,rfl,q⟩
theorem zcH{neg:Bool}:OpF X E (zhz (gm X) neg) (zad neg):=fun H Y s d1 d2 v1 v2 Q r h1 h2 h=>by
 unfold zad at h;split at h
 ·rename_i hc;exact ⟨Y,s,d1,d2,r,h1,h2,hc.1,hc.2,h.here r xl⟩
 ·exact h.elim
theorem ze4(hu:X.A.units+64<cLine):∃ r,OpR X (compareOp .Eq) r/\OpF X E r (zad false):=⟨_,zeA hu,zcH⟩
end
section
variable {X:Cx}{E:XK}{pos:Pos}
def zff(c:Str):FS:=fun _ s=>.ex c s
end
section
variable {P:Program}{w:World}{K:W.Frag}{mg:Str->Option Value}{base:Heap}
def zin(M:Mir):Mir:=fun ds s=>match M ds s with | .ex _ _=>.no | r=>r
end
def zgn(f:FS):FS:=fun ρ s=>match f ρ s with | .ex _ _=>.no | r=>r
@[simp] theorem zgV (f:FS)(ρ:Ev)(s:Sto):zgn f ρ s=(match f ρ s with | .ex _ _=>.no | r=>r):=id rfl
@[simp] theorem zhP (M:Mir)(ds:List D)(s:Sto):zin M ds s=(match M ds s with | .ex _ _=>.no | r=>r):=id rfl
@[simp] theorem zfA (c:Str)(ρ:Ev)(s:Sto):zff c ρ s=.ex c s:=id rfl
end Dd
namespace PySem
open PySem.Sem (wp)
end PySem
namespace Dd
open PySem.Spec L2
end Dd
namespace PySem
open PySem.Sem (wp)
open PySem.W
end PySem
namespace L2
open PySem.Spec
end L2
namespace Dd
open PySem.Spec L2
section
variable {X:Cx}{E:XK}{e a b c tg:Expr}{es:List Expr}{pos:Pos}{CX:CXT}
def zfI(T U:String):D->Sto->R D:=fun d s=>match tyD d with | some t=>.ok (.bl (isT T t||isT U t)) s | none=>.no
def zdT(T U:String)(f:FE):FE:=fun ρ s=>(f ρ s).bind fun d s1=>zfI T U d s1
end
end Dd
namespace L2
open PySem.Spec
open MeetsSeq MeetsSeq2 SeqAt
end L2
namespace Dd
open PySem.Spec L2
end Dd
namespace L2
open PySem.Spec
end L2
namespace Dd
open PySem.Spec L2
end Dd
namespace PySem
open PySem.AutoSeq1 (wpAny_loadPart')
open MeetsSeq MeetsSeq2 SeqAt
end PySem
namespace L2
open PySem.Spec
end L2
namespace Dd
open PySem.Spec L2
section
variable {X:Cx}{E:XK}
def zgx:D->D->Sto->R D
 | .tup xs,.int k,s=>if 1<=k/\xs≠[]/\xs.length*k.toNat<=cap then .ok (.tup (List.replicate k.toNat xs).flatten) s else .no | _,_,_=>.no
@[simp] theorem zgp (xs:List D)(k:Int)(s:Sto):zgx (.tup xs) (.int k) s=if 1<=k/\xs≠[]/\xs.length*k.toNat<=cap then .ok (.tup (List.replicate k.toNat xs).flatten) s else .no:=id rfl
end
end Dd
namespace L2
open PySem.Spec
end L2
namespace Dd
open PySem.Spec L2
section
variable {K:W.Frag}{mg:Str->Option Value}(G:∀ (x:Str)(v:Value),W.nsIn K mainGlobals x=some (some v)->mg x=some v)
include G
end
end Dd
namespace PySem
end PySem
namespace L2
open PySem.Spec
end L2
namespace Dd
open PySem.Spec L2
open PySem.W
def kev{α:Type}(n:Nat)(lt:Nat->Nat->Bool):KasT α->Option α
 | .ret a=>some a | .ask i j k=>if i<n/\j<n then kev n lt (k (lt i j)) else none
theorem z9p{α:Type}{n:Nat}{lt:Nat->Nat->Bool}{cmp:Nat->Nat->(Bool->Shared->Prop)->Shared->Prop}{Q:α->Shared->Prop}{s:Shared}(hc:∀ i j C,i<n->j<n->C (lt i j) s->cmp i j C s): ∀ (t:KasT α)(a:α),kev n lt t=some a->Q a s->t.kasWp cmp Q s
 | .ret a,b,e,h=>by
  simp only [kev,Option.some.injEq] at e;subst e;exact h | .ask i j k,b,e,h=>by
  unfold kev at e;split at e
  ·rename_i hij;exact hc i j _ hij.1 hij.2 (z9p hc (k (lt i j)) b e h)
  ·cases e
def lexLt(p q:Int×Int):Bool:=if p.1=q.1 then (if p.2=q.2 then false else decide (p.2<q.2)) else decide (p.1<q.1)
section
variable {prog:Program}{w:World}{A:Around}{E:Value->Shared->Prop}{s:Shared}
def z7E(vs:List Value)(p:Array Nat):Array Value:=List.toArray (p.toList.map fun i=>vs.getD i Value.none)
end
section
variable {X:Cx}{E:XK}
theorem z4t:∀ {ys:List V}{its:List Value},yG ys its->∀ i,i<ys.length->xo (ys.getD i .non) (its.getD i .none)
 | [],_,.nil,i,hi=>by simp at hi | y::ys,_,.cons r rs,0,_=>by simpa using r | y::ys,_,.cons r rs,i+1,hi=>by simpa using z4t rs i (by simpa using hi)
theorem z6y{ys:List V}{its:List Value}(h:yG ys its):∀ (p:List Nat),(∀ i∈p,i<ys.length)->yG (p.map fun i=>ys.getD i .non) (p.map fun i=>its.getD i .none)
 | [],_=>.nil | i::p,hp=>.cons (z4t h i (hp i (.head _))) (z6y h p fun j hj=>hp j (.tail _ hj))
theorem z4L{mg:Gm}{H:Hp}{Y:List Addr}:∀ {xs:List D}{vs:List V},zu mg H Y xs vs->∀ i,i<xs.length->Den mg H Y (xs.getD i .non) (vs.getD i .non)
 | [],_,_,i,hi=>by simp at hi | x::xs,vs,h,i,hi=>by
  simp only [zu] at h;obtain ⟨v,ws,rfl,h1,h2⟩:=h;cases i with
  | zero=>simpa using h1 | succ i=>simpa using z4L h2 i (by simpa using hi)
theorem z5X{mg:Gm}{H:Hp}{Y:List Addr}{xs:List D}{vs:List V}(h:zu mg H Y xs vs):∀ (p:List Nat),(∀ i∈p,i<xs.length)->zu mg H Y (p.map fun i=>xs.getD i .non) (p.map fun i=>vs.getD i .non)
 | [],_=>by simp [zu] | i::p,hp=>by
  simp only [List.map_cons,zu];exact ⟨_,_,rfl,z4L h i (hp i (.head _)),z5X h p fun j hj=>hp j (.tail _ hj)⟩
end
end Dd
namespace L2
open PySem.Spec
open PySem.Builtin.Str
end L2
namespace Dd
open PySem.Spec L2 PySem.Builtin.Str
end Dd
namespace Dd
open PySem.Spec L2
section
variable {X:Cx}{E:XK}{es:List Expr}{fa:FE}{fr:FA}
theorem aN{x:Str}{p:Pos}(ha:RE X E (.Name x p) fa)(hr:RA X E es fr):RA X E ((.Name x p)::es) (za fa fr):=jL ha hr (zt ..)
theorem aK{c:Const}{j:Nat}{p:Pos}(ha:RE X E (.Constant c j p) fa)(hr:RA X E es fr):RA X E ((.Constant c j p)::es) (za fa fr):=jL ha hr (z2a ..)
theorem aQ{g:Expr}{xs:List Expr}{ks:List Keyword}{p:Pos}(ha:RE X E (.Call g xs ks p) fa)(hr:RA X E es fr):RA X E ((.Call g xs ks p)::es) (za fa fr):=jL ha hr (z0z ..)
theorem aT{xs:List Expr}{k:Nat}{p:Pos}(ha:RE X E (.Tuple xs k p) fa)(hr:RA X E es fr):RA X E ((.Tuple xs k p)::es) (za fa fr):=jL ha hr (zaE ..)
theorem aS{a b:Expr}{p:Pos}(ha:RE X E (.Subscript a b p) fa)(hr:RA X E es fr):RA X E ((.Subscript a b p)::es) (za fa fr):=jL ha hr (z9G ..)
theorem aB{a b:Expr}{o:Operator}{p:Pos}(ha:RE X E (.BinOp a o b p) fa)(hr:RA X E es fr):RA X E ((.BinOp a o b p)::es) (za fa fr):=jL ha hr (z2Z ..)
theorem aL{xs:List Expr}{p:Pos}(ha:RE X E (.List xs p) fa)(hr:RA X E es fr):RA X E ((.List xs p)::es) (za fa fr):=jL ha hr (zah ..)
theorem aO{a:Expr}{g:List Comprehension}{sc:Scope}{p:Pos}(ha:RE X E (.ListComp a g sc p) fa)(hr:RA X E es fr):RA X E ((.ListComp a g sc p)::es) (za fa fr):=jL ha hr (yP ..)
theorem aM{a:Expr}{o:List CmpOp}{b:List Expr}{p:Pos}(ha:RE X E (.Compare a o b p) fa)(hr:RA X E es fr):RA X E ((.Compare a o b p)::es) (za fa fr):=jL ha hr (z6S ..)
end
section
variable {q:Ask}{w:World}{K:W.Frag}{h:Heap}{mg:Str->Option Value}
theorem zK(X:K.In h)(G:h.Ns mainGlobals mg)(e:z9F q K=valS q w)(i:Nat){x:Str}{st:Stmt}(hx:q.fs[i]? = some (x,st)):∃ f fd,mg x=some (.ref f)/\Fun K x x st f fd:=let ⟨f,fd,a,F⟩:=zga e x st (List.mem_of_getElem? hx);⟨f,fd,W.mg_of X G a,F⟩
theorem vA(X:K.In h)(G:h.Ns mainGlobals mg)(e:z9F q K=valS q w)(i:Nat){x:Str}(hx:q.bs[i]? = some x):mg x=none:=W.mg_none_of X G (zg6 e x (List.mem_of_getElem? hx))
theorem z6B(X:K.In h)(G:h.Ns mainGlobals mg)(e:z9F q K=valS q w)(i:Nat){x:Str}{c:Int}(hx:q.cs[i]? = some (x,c)):∃ t,mg x=some (.int c t):=let ⟨t,z⟩:=zhe e x c (List.mem_of_getElem? hx);⟨t,W.mg_of X G z⟩
end
open PySem.W
end Dd
namespace Dd
open PySem.Spec L2
section
variable {X:Cx}{E:XK}{e:Expr}{pos pos':Pos}
def zhR(i:Nat)(f:FE):FS:=fun ρ s=>match ρ[i]? with
 | some (some (.int a))=>(f ρ s).bind fun d s1=>match d with | .int b=>.ok (.nx (ρ.set i (some (.int (a+b))))) s1 | _=>.no
 | _=>.no
@[simp] theorem zhw {i:Nat}{f:FE}{ρ:Ev}{s:Sto}{a b:Int}{s1:Sto}(h:ρ[i]? = some (some (.int a)))(hf:f ρ s=.ok (.int b) s1):zhR i f ρ s=.ok (.nx (ρ.set i (some (.int (a+b))))) s1:=by simp only [zhR,h,hf,R.bind_ok]
end
open PySem.W
end Dd
namespace Dd
open PySem.Spec L2
section
variable {X:Cx}{E:XK}{tg:Expr}{p:Pos}{x:Str}{ks:List Str}
def zgY(ks:List Str):FI:=fun _ s=>.ok (ks.map D.str,[]) s
@[simp] theorem zho (ks:List Str)(ρ:Ev)(s:Sto):zgY ks ρ s=.ok (ks.map D.str,[]) s:=id rfl
end
end Dd
namespace L2
open PySem.Spec
end L2
namespace Dd
open PySem.Spec L2
section
variable {X:Cx}{E:XK}{e:Expr}{pos p2 p3 p4:Pos}
def zh0(f:FE):FE:=fun ρ s=>(f ρ s).bind fun d s1=>match listOf s1 d with
 | some xs=>.ok (.lst xs.reverse) s1 | none=>.no
@[simp] theorem zgQ (f:FE)(ρ:Ev)(s:Sto):zh0 f ρ s=(f ρ s).bind fun d s1=>match listOf s1 d with
 | some xs=>.ok (.lst xs.reverse) s1 | none=>.no:=id rfl
end
def z9E:List D->Option (List Key)
 | []=>some [] | .int i::r=>(z9E r).map (Sum.inl i::·) | .str x::r=>(z9E r).map (Sum.inr x::·) | _=>none
def vV:D->Option V
 | .int i=>some (.int i) | .bl b=>some (.bl b) | _=>none
def vD:V->D
 | .int i=>.int i | .bl b=>.bl b | _=>.non
def z4J(kvs:List (List Key×V)):List D:=kvs.map fun p=>.tup [.tup (p.1.map zdt),vD p.2]
def zb7:List D->Option (List (List Key×V))
 | []=>some [] | .tup [.tup ks,.int i]::r=>(z9E ks).bind fun k=>(zb7 r).map ((k,V.int i)::·) | .tup [.tup ks,.bl b]::r=>(z9E ks).bind fun k=>(zb7 r).map ((k,V.bl b)::·) | _=>none
theorem z0k:∀ k:List Key,z9E (k.map zdt)=some k
 | []=>rfl | .inl i::k=>by simp [zdt,z9E,z0k k] | .inr x::k=>by simp [zdt,z9E,z0k k]
theorem z7O{v:V}{x:D}(h:zcA v=some x):x=vD v:=by cases v<;>simp [zcA] at h<;>simp [vD,h]
def zfL(kvs:List (List Key×V)):Prop:=∀ p∈kvs,(zcA p.2).isSome=true
theorem z96:∀ {xs:List D}{kvs:List (List Key×V)},zdr xs kvs->xs=z4J kvs/\zfL kvs/\zb7 xs=some kvs
 | [],kvs,h=>by simp only [zdr] at h;subst h;exact ⟨rfl,(fun p hp=>by simp at hp),rfl⟩ | d::ds,kvs,h=>by
  simp only [zdr] at h;obtain ⟨k,v,x,r,rfl,h1,rfl,h2⟩:=h;obtain ⟨i1,i2,i3⟩:=z96 h2;refine ⟨?_,fun p hp=>?_,?_⟩
  ·rw [z7O h1];show _::ds=z4J ((k,v)::r);rw [z4J,List.map_cons];congr 1
  ·rcases List.mem_cons.mp hp with rfl | hp;·rw [h1];rfl
   ·exact i2 p hp
  ·cases v with
   | int i=>simp only [zcA,Option.some.injEq] at h1;subst h1;simp [zb7,z0k,i3] | bl b=>simp only [zcA,Option.some.injEq] at h1;subst h1;simp [zb7,z0k,i3] | _=>simp [zcA] at h1
theorem z8B:∀ {kvs:List (List Key×V)},zfL kvs->zdr (z4J kvs) kvs
 | [],_=>rfl | (k,v)::r,h=>by
  obtain ⟨x,hx⟩:=Option.isSome_iff_exists.mp (h (k,v) (by simp));refine ⟨k,v,x,r,rfl,hx,?_,z8B fun p hp=>h p (by simp [hp])⟩;rw [z7O hx]
theorem dec_enc{kvs:List (List Key×V)}(h:zfL kvs):zb7 (z4J kvs)=some kvs:=(z96 (z8B h)).2.2
section
variable {X:Cx}{E:XK}{o i e value:Expr}{pos pos':Pos}
def zbR(fo fk fv:FE):FS:=fun ρ s=>(fv ρ s).bind fun v s1=>(fo ρ s1).bind fun o s2=>(fk ρ s2).bind fun k s3=>match o,k,vV v with
 | .dlo l,.tup ks,some u=>match (s3[l]?).bind zb7,z9E ks with
  | some kvs,some key=>if kvs.length<cap then .ok (.nx ρ) (s3.set l (z4J (zgi kvs key u))) else .no | _,_=>.no
 | _,_,_=>.no
end
variable {X:Cx}{E:XK}
def zbe:List D->Option (List Int)
 | []=>some [] | .int i::r=>(zbe r).map (i::·) | _=>none
def zdn:D->Option (List Int)
 | .tup ds=>zbe ds | _=>none
def z1Q:List D->Option (List (List Int))
 | []=>some [] | d::ds=>match zdn d,z1Q ds with | some n,some ns=>some (n::ns) | _,_=>none
theorem z6M:∀ ns:List Int,zbe (ns.map D.int)=some ns
 | []=>rfl | i::r=>by simp [zbe,z6M r]
theorem z85:∀ {ds:List D}{ns:List Int},zbe ds=some ns->ds=ns.map D.int
 | [],_,e=>by simp [zbe] at e;subst e;rfl | d::r,ns,e=>by cases d with
  | int i=>
   simp only [zbe,Option.map_eq_some_iff] at e;obtain ⟨a,h1,rfl⟩:=e;rw [z85 h1];rfl | _=>simp [zbe] at e
theorem zaA(ns:List Int):zdn (.tup (ns.map D.int))=some ns:=z6M ns
theorem zcW{d:D}{ns:List Int}(e:zdn d=some ns):d=.tup (ns.map D.int):=by cases d with
 | tup ds=>simp only [zdn] at e;rw [z85 e] | _=>simp [zdn] at e
theorem z1t:∀ L:List (List Int),z1Q (L.map fun ns=>.tup (ns.map D.int))=some L
 | []=>rfl | n::L=>by simp only [List.map_cons,z1Q,zaA,z1t L]
def AtN(H:Hp)(v:V)(ns:List Int):Prop:=∃ b,v=.ref b/\H b=some (.tup (ns.map V.int))
theorem za6{mg:Gm}{H:Hp}{Y:List Addr}{d:D}{v:V}{ns:List Int}(h:zdn d=some ns)(dn:Den mg H Y d v):AtN H v ns:=by
 rw [zcW h] at dn;simp only [Den] at dn;obtain ⟨a,vs,rfl,e,dd⟩:=dn;have:∀ {ns:List Int}{vs:List V},zu mg H Y (ns.map D.int) vs->vs=ns.map V.int:=by
  intro ns;induction ns with
  | nil=>intro vs h;simpa [zu] using h | cons i r ih=>
   intro vs h;simp only [List.map_cons,zu] at h;obtain ⟨v,r',rfl,h1,h2⟩:=h;rw [zW h1,ih h2];rfl
 rw [this dd] at e;exact ⟨a,rfl,e⟩
theorem z0Z{mg:Gm}{H:Hp}{Y:List Addr}:∀ {ds:List D}{vs:List V}{L:List (List Int)},z1Q ds=some L->zu mg H Y ds vs->Paired (fun v ns=>AtN H v ns) vs L
 | [],_,_,h,dn=>by simp only [z1Q,Option.some.injEq] at h;simp only [zu] at dn;subst dn;subst h;exact .nil | d::ds,_,_,h,dn=>by
  simp only [zu] at dn;obtain ⟨v,vs,rfl,h1,h2⟩:=dn;simp only [z1Q] at h;split at h
  ·rename_i n ns e1 e2;cases h;exact .cons (za6 e1 h1) (z0Z e2 h2)
  ·cases h
theorem z0p:∀ a b:List Int,PyData.eqvAll (toPys (a.map D.int)) (toPys (b.map D.int))=decide (a=b)
 | [],[]=>by simp [toPys,PyData.eqvAll] | [],_::_=>by simp [toPys,PyData.eqvAll] | _::_,[]=>by simp [toPys,PyData.eqvAll] | x::a,y::b=>by
  simp only [List.map_cons,toPys,xS,PyData.eqvAll,PyData.eqv,z0p a b,List.cons.injEq];by_cases h:x=y<;>by_cases h2:a=b<;>simp [h,h2]
end Dd
namespace L2
open PySem.Spec PySem.Builtin.Str
variable {X:Cx}
end L2
namespace Dd
open PySem.Spec L2 PySem.Builtin.Str
end Dd
namespace Zz
abbrev T1(b1:Bool)(h:Heap)(l1:Addr):Heap:=h.push (itO b1 l1)
abbrev T2(b1 b2:Bool)(h:Heap)(l1 l2:Addr):Heap:=(T1 b1 h l1).push (itO b2 l2)
end Zz
namespace L2
open PySem.Spec Zz
end L2
namespace Dd
open PySem.Spec L2
def zcy:List D->List D->List D->List D
 | x::xs,y::ys,z::zs=>.tup [x,y,z]::zcy xs ys zs | _,_,_=>[]
def zh7(f:FA):FI:=fun ρ s=>(f ρ s).bind fun ds s1=>match ds with
 | [x,y,z]=>match z2Q s1 x,z2Q s1 y,z2Q s1 z with
  | some p,some q,some t=>if p.1.length<=q.1.length/\p.1.length<=t.1.length then .ok (zcy p.1 q.1 t.1,p.2++(q.2++t.2)) s1 else .no | _,_,_=>.no
 | _=>.no
@[simp] theorem zfV (f:FA)(ρ:Ev)(s:Sto):zh7 f ρ s=(f ρ s).bind fun ds s1=>match ds with
 | [x,y,z]=>match z2Q s1 x,z2Q s1 y,z2Q s1 z with
  | some p,some q,some t=>if p.1.length<=q.1.length/\p.1.length<=t.1.length then .ok (zcy p.1 q.1 t.1,p.2++(q.2++t.2)) s1 else .no | _,_,_=>.no
 | _=>.no:=id rfl
def lexN:List Int->List Int->Bool
 | [],[]=>false | [],_::_=>true | _::_,[]=>false | x::a,y::b=>if x=y then lexN a b else decide (x<y)
inductive xD:List Value->List Int->Prop | nil:xD [] [] | cons {i t vs ns}:xD vs ns->xD (.int i t::vs) (i::ns)
theorem xD.of_vals:∀ {ns:List Int}{us:List Value},yG (ns.map V.int) us->xD us ns
 | [],_,.nil=>.nil | _::_,_,.cons ⟨_,rfl⟩ r=>.cons (xD.of_vals r)
theorem xD.length:∀ {us ns},xD us ns->us.length=ns.length
 | _,_,.nil=>rfl | _,_,.cons r=>by simp [r.length]
section
variable {prog:Program}{w:World}{A:Around}{E:Value->Shared->Prop}{s:Shared}
theorem z5Q{a b:Addr}{xs ys:Array Value}{ns ms:List Int}{P:PySem.Fin->Shared->Prop}(ha:s.heap.IsTuple a xs)(hb:s.heap.IsTuple b ys)(hx:xD xs.toList ns)(hy:xD ys.toList ms) (h:P (.done (.ret (.bool (lexN ns ms)))) s):wpAny (model prog w) A (Builtin.«tuple.__lt__» ⟨[.ref a,.ref b],[]⟩) P E s:=by
 obtain ⟨oa,ga,ca,na,da⟩:=ha;obtain ⟨ob,gb,cb,nb,db⟩:=hb;have tb:s.TypeIs (.ref b) "tuple":=⟨ob,gb,cb⟩;show wpAny _ _ (isInstance (.ref b) (.type "tuple") >>= _) _ _ s;refine wpAny_bind (wpAny_isInstance tb isSubtype_tuple_tuple ?_);simp only [Bool.not_true,Bool.false_eq_true,if_false];refine wpAny_bind (wpAny_tupleItemsOf ga da (wpAny_bind (wpAny_tupleItemsOf gb db (wpAny_bind ?_))));refine wpAny_forIn_list _ (fun z08 r s'=>r.1=none/\s'=s/\∃ us vs ns' ms',z08=List.zip us vs/\xD us ns'/\xD vs ms'/\lexN ns' ms'=lexN ns ms/\(decide (us.length<vs.length))=decide (xs.size<ys.size)) _ ?_ ?_ _ _ ⟨rfl,rfl,xs.toList,ys.toList,ns,ms,rfl,hx,hy,rfl,by simp⟩
 ·rintro ⟨u,v⟩ z08 r s' ⟨hr,rfl,us,vs,ns',ms',hz,h1,h2,hl,hs⟩;cases h1 with
  | nil=>simp at hz | @cons i t us' ns'' h1'=>cases h2 with
   | nil=>simp at hz | @cons j t' vs' ms'' h2'=>
    simp only [List.zip_cons_cons,List.cons.injEq,Prod.mk.injEq] at hz;obtain ⟨⟨rfl,rfl⟩,rfl⟩:=hz;refine wpAny_bind (wpAny_eqBool_int ?_);by_cases e:i=j
    ·subst e;simp only [beq_self_eq_true,Bool.not_true,Bool.false_eq_true,if_false];exact wpAny_pure ⟨rfl,rfl,us',vs',ns'',ms'',rfl,h1',h2',by rw [<- hl];simp [lexN],by simpa using hs⟩
    ·rw [show (i==j)=false by simpa using e];simp only [Bool.not_false,if_true];have hf:lexN ns ms=decide (i<j):=by rw [<- hl];simp [lexN,e]
     rw [hf] at h;refine wpAny_bind (wpAny_rule (wpAny_bind (show wpAny _ _ (compareOp .Lt (.int i t) (.int j t')) _ _ _ from PyProof.Rows.lt_int ?_)));exact wpAny_bind (wpAny_pure (wpAny_pure (wpAny_pure h)))
 ·rintro ⟨r1,r2⟩ s' ⟨hr,rfl,us,vs,ns',ms',hz,h1,h2,hl,hs⟩;simp only at hr;subst hr;refine wpAny_pure ?_;have hfin:decide (xs.size<ys.size)=lexN ns ms:=by
   rw [<- hl,<- hs];cases h1 with
   | nil=>cases h2<;>simp [lexN] | cons _=>cases h2 with
    | nil=>simp [lexN] | cons _=>simp at hz
  show P (.done (.ret (.bool (decide (xs.size<ys.size))))) s';rw [hfin];exact h
theorem zeE{a b:Addr}{xs ys:Array Value}{ns ms:List Int}{Q:Value->Shared->Prop}(hu:A.units<cLine)(ha:s.heap.IsTuple a xs)(hb:s.heap.IsTuple b ys)(hx:xD xs.toList ns)(hy:xD ys.toList ms) (h:Q (.bool (lexN ns ms)) s):wpAny (model prog w) A (richCompare .Lt (.ref a) (.ref b)) Q E s:=by
 have ta:s.TypeIs (.ref a) "tuple":=by obtain ⟨o,g,c,_⟩:=ha;exact ⟨o,g,c⟩
 have tb:s.TypeIs (.ref b) "tuple":=by obtain ⟨o,g,c,_⟩:=hb;exact ⟨o,g,c⟩
 refine wpAny_richCompare_same_room ta tb PySem.F.slot_tuple_lt (wpAny_call_entry PySem.F.slot_tuple_lt ta PySem.F.entry_tuple_lt ?_ (PySem.F.args_tuple_lt_2 _ _)) hu;exact z5Q ha hb hx hy ⟨_,rfl,by simp,h⟩
end
section
variable {prog:Program}{w:World}{A:Around}{R:Result->Shared->Prop}{I S:Addr}{fp wr:List Addr}{n:Nat}{P:Nat->Value->Prop}{St:Nat->Heap->Prop}{Kh:Heap->Prop}{bt:Nat->Nat->Bool}
theorem z7e (W:Walks prog w A.in1 I fp wr n P St) (cmp:∀ i j vi vj (s:Shared) (Q:Value->Shared->Prop) (E:Value->Shared->Prop),Kh s.heap->P i vi->P j vj->Q (.bool (bt i j)) s->wpAny (model prog w) A.in1 (richCompare .Lt vi vj) Q E s) (keep:∀ h h':Heap,Kh h->(∀ b o,b∉wr->b≠S->h.get? b=some o->h'.get? b=some o)->Kh h') (out:S∉fp) (k:Nat): ∀ (j:Nat) (s:Shared) (v:Value) (c:Nat),n=j+1+k->St (j+1) s.heap->Kh s.heap->P (argBest bt j) v->s.heap.get? S=some (seqObj "list" #[v,v] c)-> (∀ u h' tk,P (argBest bt (n-1)) u->(∀ b o,b∉wr->b≠S->s.heap.get? b=some o->h'.get? b=some o)->R (.ok (.ret u)) {s with heap:=h',toks:=tk})-> codeAny (model prog w) A (.builtin "min.loop" ⟨[.ref I,.none,.ref S],[]⟩) R s:=by
 have ow:S∉wr:=fun z=>out (W.sub _ z);have nm:(toString "min"++toString ".loop":String)="min.loop":=by decide
 induction k with
 | zero=>
  intro j s v c en st kh pv gS fin;refine codeAny_builtin PySem.F.entry_min_loop ?_;rw [Around.under_plainId PySem.F.plain_min_loop _];show wpAny _ A.in1 (seqItems? (.ref S) >>= _) _ _ s;refine wpAny_bind (wpAny_seqItems gS rfl ?_);show wpAny _ A.in1 (tryCatch (pyNext (.ref I)) _ >>= _) _ _ s;refine wpAny_bind (wpAny_tryCatch (W.done s _ _ (by rw [en];exact st) fun h1 tk k1=>?_));show wpAny _ A.in1 (updateSeq S (fun _=>#[]) >>= _) _ _ _;refine wpAny_bind (wpAny_updateSeq (k1 S _ ow gS) rfl (wpAny_bind (wpAny_letGo (wpAny_pure ?_))));exact fin v _ tk (by rw [show n-1=j by omega];exact pv) fun b o hb hS e=>(Heap.get?_update_other _ _ (Ne.symm hS)).trans (k1 b o hb e) | succ k ih=>
  intro j s v c en st kh pv gS fin;refine codeAny_builtin PySem.F.entry_min_loop ?_;rw [Around.under_plainId PySem.F.plain_min_loop _];show wpAny _ A.in1 (seqItems? (.ref S) >>= _) _ _ s;refine wpAny_bind (wpAny_seqItems gS rfl ?_);show wpAny _ A.in1 (tryCatch (pyNext (.ref I)) _ >>= _) _ _ s;refine wpAny_bind (wpAny_tryCatch (W.item (j+1) s _ _ (by omega) st fun u h1 tk pu st1 k1=>?_));have gS1:=k1 S _ ow gS;show wpAny _ A.in1 (tryCatch (holding [u,u] (richCompare .Lt u v >>= _)) _ >>= _) _ _ _;refine wpAny_bind (wpAny_tryCatch (wpAny_holding (wpAny_bind (cmp (j+1) (argBest bt j) u v _ _ _ (keep _ _ kh fun b o hb _ e=>k1 b o hb e) pu pv ?_))));refine wpAny_bind (wpAny_holding (wpAny_truthy_bool (wpAny_bind (wpAny_letGo (wpAny_pure ?_)))));by_cases q:bt (j+1) (argBest bt j)=true
  ·rw [q];simp only [if_true];refine wpAny_bind (wpAny_updateSeq gS1 rfl (wpAny_bind (wpAny_letGo ?_)));rw [nm];refine wpAny_pure ⟨plainId_quiet PySem.F.plain_min_loop _,ih (j+1) _ u _ (by omega) (W.frame _ _ _ st1 fun b hb o e=>(Heap.get?_update_other _ _ (fun z:S=b=>out (z ▸ hb))).trans e) ?_ (by rw [show argBest bt (j+1)=j+1 by simp [argBest,q]];exact pu) (Heap.get?_update_self _ gS1 rfl) fun u' h2 tk2 p2 k2=>?_⟩;·exact keep _ _ kh fun b o hb hS e=>(Heap.get?_update_other _ _ (Ne.symm hS)).trans (k1 b o hb e)
   ·exact fin u' h2 tk2 p2 fun b o hb hS e=>k2 b o hb hS ((Heap.get?_update_other _ _ (Ne.symm hS)).trans (k1 b o hb e))
  ·rw [show bt (j+1) (argBest bt j)=false by simpa using q];simp only [Bool.false_eq_true,if_false];refine wpAny_bind (wpAny_letGo ?_);rw [nm];refine wpAny_pure ⟨plainId_quiet PySem.F.plain_min_loop _,ih (j+1) _ v c (by omega) st1 (keep _ _ kh fun b o hb _ e=>k1 b o hb e) (by rw [show argBest bt (j+1)=argBest bt j by simp [argBest,q]];exact pv) gS1 fun u' h2 tk2 p2 k2=>?_⟩;exact fin u' h2 tk2 p2 fun b o hb hS e=>k2 b o hb hS (k1 b o hb e)
end
section
variable {prog:Program}{w:World}{A:Around}{E:Value->Shared->Prop}{s:Shared}
theorem z71 {x:Value} {Q:Value->Shared->Prop} (h:wpAny (model prog w) A.in1 (pyIter x) (fun it s2=>∃ I fp wr n P St bt,∃ Kh:Heap->Prop,it=.ref I/\Walks prog w A.in1 I fp wr n P St/\St 0 s2.heap/\(∀ b∈fp,b<s2.heap.objs.size)/\0<n/\Kh s2.heap/\ (∀ i j vi vj (s:Shared) (Q:Value->Shared->Prop) (E:Value->Shared->Prop),Kh s.heap->P i vi->P j vj->Q (.bool (bt i j)) s->wpAny (model prog w) A.in1 (richCompare .Lt vi vj) Q E s)/\ (∀ h h':Heap,Kh h->(∀ b o,b∉wr->b<s2.heap.objs.size->h.get? b=some o->h'.get? b=some o)->Kh h')/\ ∀ v h' tk,P (argBest bt (n-1)) v->(∀ b o,b∉wr->s2.heap.get? b=some o->h'.get? b=some o)->Q v {s2 with heap:=h',toks:=tk}) E s): wpAny (model prog w) A (call (.builtin "min") [x]) Q E s:=by
 have nm:(toString "min"++toString ".loop":String)="min.loop":=by decide
 refine call_function_tree PySem.F.kind_min PySem.F.plain_min PySem.F.entry_min (PySem.F.args_min1 _) ?_;show wpAny _ A.in1 (Builtin.Builtins.bindParams "min" ["key","default"] 0 ⟨[],[]⟩ >>= _) _ _ s;refine wpAny_bind (wpAny_of_eq (show Builtin.Builtins.bindParams "min" ["key","default"] 0 ⟨[],[]⟩=pure [none,none] from rfl) (wpAny_bind (wpAny_pure ?_)));refine wpAny_bind (wpAny_mono h (fun it s2 z=>?_) fun _ _ e=>e);obtain ⟨I,fp,wr,n,P,St,bt,Kh,rfl,W,st,bd,hn,kh,cmp,keep,fin⟩:=z;refine wpAny_bind (wpAny_newObj_type ?_);have out:s2.heap.objs.size∉fp:=fun z=>Nat.lt_irrefl _ (bd _ z);have ow:s2.heap.objs.size∉wr:=fun z=>out (W.sub _ z);have keep':∀ h h':Heap,Kh h->(∀ b o,b∉wr->b≠s2.heap.objs.size->h.get? b=some o->h'.get? b=some o)->Kh h':=fun h h' z k=>keep h h' z fun b o hb lt e=>k b o hb (Nat.ne_of_lt lt) e;rw [nm];refine wpAny_pure ⟨plainId_quiet PySem.F.plain_min_loop _,codeAny_builtin PySem.F.entry_min_loop ?_⟩;have gS:(s2.heap.push (seqObj "list" #[] 0)).get? s2.heap.objs.size=some (seqObj "list" #[] 0):=Heap.get?_push_size _ rfl;rw [Around.under_plainId PySem.F.plain_min_loop _];show wpAny _ A.in1 (seqItems? (.ref s2.heap.objs.size) >>= _) _ _ {s2 with heap:=s2.heap.push (seqObj "list" #[] 0)};refine wpAny_bind (wpAny_seqItems gS rfl ?_);show wpAny _ A.in1 (tryCatch (pyNext (.ref I)) _ >>= _) _ _ _;refine wpAny_bind (wpAny_tryCatch (W.item 0 _ _ _ hn (W.frame _ _ _ st fun b _ o e=>Heap.get?_push_of_some _ e) fun u h1 tk pu st1 k1=>?_));have gS1:=k1 _ _ ow gS;show wpAny _ A.in1 (updateSeq s2.heap.objs.size (fun _=>#[u,u]) >>= _) _ _ _;refine wpAny_bind (wpAny_updateSeq gS1 rfl ?_);rw [nm];have old:∀ b o,b∉wr->b≠s2.heap.objs.size->s2.heap.get? b=some o->(h1.update s2.heap.objs.size (Obj.mapSeq fun _=>#[u,u])).get? b=some o:=fun b o hb hS e=> (Heap.get?_update_other _ _ (Ne.symm hS)).trans (k1 b o hb (Heap.get?_push_of_some _ e));refine wpAny_pure ⟨plainId_quiet PySem.F.plain_min_loop _,z7e W cmp keep' out (n-1) 0 _ u _ (by omega) (W.frame _ _ _ st1 fun b hb o e=>(Heap.get?_update_other _ _ (fun z:s2.heap.objs.size=b=>out (z ▸ hb))).trans e) (keep' _ _ kh old) pu (Heap.get?_update_self _ gS1 rfl) fun u' h2 tk2 p2 k2=>?_⟩;exact fin u' h2 tk2 p2 fun b o hb e=>k2 b o hb (Nat.ne_of_lt (Heap.lt_size e)) (old b o hb (Nat.ne_of_lt (Heap.lt_size e)) e)
end
end Dd
namespace L2
open PySem.Spec
def zc9(D:z9O):z9O:={D with nx:=fun O H=>∃ a xs,H a=some (.lst xs)/\∀ o,D.nx O (upd H a (.frz o (.lst xs)))}
theorem PS.freezeV{X:Cx}{st:Stmt}{t:TS}(h:PS X st t):PS X st (fun D O H=>t (zc9 D) O H):=fun pins s O H D I q=>thn (h pins s O H _ I q) fun f s1 z=>by cases f with
 | next=>
  obtain ⟨O',H',I',a,xs,ha,q⟩:=z;obtain ⟨its,n,rv,e,_⟩:=I'.lst ha;exact ⟨O',_,I'.freeze ha e (by intro _ z;cases z) (by intro _ _ z;cases z) (by intro _ z;cases z) (by intro _ z;cases z),q _⟩ | ret v=>exact z | brk=>exact z | cont=>exact z
end L2
namespace Dd
open PySem.Spec L2
def D.und(n:Nat):D->Bool
 | .loc l=>decide (l<n) | .dlo l=>decide (l<n) | d=>d.flat
def z3y(n i:Nat)(ρ:Ev):Bool:=(List.range ρ.length).all fun j=>j==i||match ρ[j]? with | some (some d)=>d.und n | _=>true
def z5w(i:Nat)(f:FS):FS:=fun ρ s=>match f ρ s with
 | .ok (.nx ρ1) s1=>match ρ1[i]? with
  | some (some (.loc l))=>match s1[l]? with
   | some xs=>if s.length<=l/\z3y s.length i ρ1=true then .ok (.nx (ρ1.set i (some (.lst xs)))) (s1.take s.length) else .no | none=>.no
  | _=>.no
 | _=>.no
theorem Den.cut{mg:Gm}{H1:Hp}{Y1:List Addr}{n:Nat}{a:Addr}{u u0:HO}{d:D}{v:V}(nd:Y1.Nodup){l:Nat}(hl:n<=l)(e1:Y1[l]? = some a)(e2:H1 a=some u0)(hu:(∃ vs,u0=.lst vs))(hb:d.und n=true)(h:Den mg H1 Y1 d v):Den mg (upd H1 a u) (Y1.take n) d v:=by
 have k:∀ b u',H1 b=some u'->(∀ vs,u'≠.lst vs)->(∀ kvs,u'≠.dT kvs)->upd H1 a u b=some u':=fun b u' h hn _=>by
  obtain ⟨vs,rfl⟩:=hu;rw [zC (fun z=>by subst z;rw [e2] at h;exact hn vs (Option.some.inj h).symm)];exact h
 have ne:∀ {j:Nat}{b:Addr},j<n->Y1[j]? = some b->b≠a:=fun {j b} hj hb z=>by
  subst z;have:=(List.getElem_inj nd).mp (((List.getElem?_eq_some_iff.mp hb).2).trans ((List.getElem?_eq_some_iff.mp e1).2).symm);omega
 by_cases hf:d.flat=true;·exact h.flatten k hf
 ·cases d with
  | loc j=>
   have hj:j<n:=by simpa [D.und] using hb
   simp only [Den] at h ⊢;obtain ⟨b,rfl,q1,vs,q2⟩:=h;exact ⟨b,rfl,by rw [List.getElem?_take_of_lt hj];exact q1,vs,by rw [zC (ne hj q1)];exact q2⟩ | dlo j=>
   have hj:j<n:=by simpa [D.und] using hb
   simp only [Den] at h ⊢;obtain ⟨b,rfl,q1,vs,q2⟩:=h;exact ⟨b,rfl,by rw [List.getElem?_take_of_lt hj];exact q1,vs,by rw [zC (ne hj q1)];exact q2⟩ | _=>exact absurd hb hf
theorem wF.cut{mg:Gm}{H1:Hp}{Y1:List Addr}{n i:Nat}{a:Addr}{u u0:HO}{ρ:Ev}{O:L2.St}{xs:List D}(en:wF mg H1 Y1 ρ O)(nd:Y1.Nodup){l:Nat}(hl:n<=l)(e1:Y1[l]? = some a)(e2:H1 a=some u0)(hu:(∃ vs,u0=.lst vs))(hb:z3y n i ρ=true) (hi:ρ[i]? = some (some (.loc l)))(hd:Den mg (upd H1 a u) (Y1.take n) (.lst xs) (.ref a)):wF mg (upd H1 a u) (Y1.take n) (ρ.set i (some (.lst xs))) O:=by
 refine ⟨by simp [en.len],fun j d hj=>?_⟩;by_cases q:i=j
 ·subst q;have hlt:i<ρ.length:=(List.getElem?_eq_some_iff.mp hi).1;rw [List.getElem?_set_self hlt] at hj;cases hj;obtain ⟨v,h1,h2⟩:=en.at_ i _ hi;simp only [Den] at h2;obtain ⟨b,rfl,q1,_⟩:=h2;rw [e1] at q1;cases q1;exact ⟨_,h1,hd⟩
 ·rw [List.getElem?_set_ne q] at hj;obtain ⟨v,h1,h2⟩:=en.at_ j d hj;have hlt:j<ρ.length:=(List.getElem?_eq_some_iff.mp hj).1;have hb':=List.all_eq_true.mp hb j (List.mem_range.mpr hlt);rw [hj] at hb';have hb2:d.und n=true:=by
   rcases Bool.or_eq_true_iff.mp hb' with z | z;·exact absurd (by simpa using z) (Ne.symm q)
   ·exact z
  exact ⟨v,h1,h2.cut nd hl e1 e2 hu hb2⟩
section
variable {X:Cx}{E:XK}
theorem zdj(i:Nat){s1 s2:Stmt}{rs:List Stmt}{f1 f2 f3:FS}(h1:RS X E s1 f1)(h2:RS X E s2 f2)(h3:RSs X E rs f3):RSs X E (s1::s2::rs) (zH (z5w i (zH f1 f2)) f3):= z5f (z2E h1 (z2E (PS.freezeV h2) h3)) fun D O H ⟨Y,ρ,s,r,en,h⟩=>by
  refine ⟨Y,ρ,s,r,en,?_⟩;simp only [zH,z5w] at h;cases e1:f1 ρ s with
  | no=>rw [e1] at h;exact h | ex c s'=>rw [e1] at h;exact (show False from h).elim | ok fl sa=>
   rw [e1] at h;cases fl with
   | nx ρa=>
    simp only [R.bind_ok] at h;intro b H1 Y1 stp1 dn1;cases b with
    | nx O1=>
     refine ⟨Y1,ρa,sa,stp1.rep,dn1,?_⟩;cases e2:f2 ρa sa with
     | no=>rw [e2] at h;exact h | ex c s'=>rw [e2] at h;exact (show False from h).elim | ok fl2 sb=>
      rw [e2] at h;cases fl2 with
      | nx ρb=>
       simp only at h;intro b2 H2 Y2 stp2 dn2;cases b2 with
       | nx O2=>
        have stp:=stp1.trans stp2;have en2:wF (gm X) H2 Y2 ρb O2:=dn2;split at h
        ·rename_i l el;split at h
         ·rename_i xs ex;split at h
          ·rename_i hl;simp only [R.bind_ok] at h;obtain ⟨v,q1,q2⟩:=en2.at_ i _ el;simp only [Den] at q2;obtain ⟨a,rfl,ia,ka⟩:=q2;obtain ⟨vs,ha,k⟩:=stp.frzC (by rw [r.len];exact hl.1) ex ia ka;refine ⟨a,vs,ha,fun o=>?_⟩;obtain ⟨st3,dn3⟩:=k o;rw [r.len] at st3 dn3;have en3:=wF.cut (u:=.frz o (.lst vs)) en2 stp.rep.nd hl.1 ia ha ⟨vs,rfl⟩ hl.2 el dn3;exact ⟨Y2.take s.length,ρb.set i (some (.lst xs)),sb.take s.length,st3.rep,en3,okR.rebase h st3⟩
          ·exact h.elim
         ·exact h.elim
        ·exact h.elim | _=>exact (show False from dn2).elim
      | _=>exact h.elim
    | _=>exact (show False from dn1).elim
   | _=>exact h.elim
@[simp] theorem zbC (i:Nat)(f:FS)(ρ:Ev)(s:Sto):z5w i f ρ s=(match f ρ s with
 | .ok (.nx ρ1) s1=>match ρ1[i]? with
  | some (some (.loc l))=>match s1[l]? with
   | some xs=>if s.length<=l/\z3y s.length i ρ1=true then .ok (.nx (ρ1.set i (some (.lst xs)))) (s1.take s.length) else .no | none=>.no
  | _=>.no
 | _=>.no):=id rfl
end
def z7y:List Int->List (List Int)->List Int
 | b,[]=>b | b,x::r=>z7y (if lexN x b then x else b) r
def z8z:Mir:=fun ds s=>match ds with
 | [d]=>match (zP s d).bind z1Q with
  | some (n::L)=>.ok (.tup ((z7y n L).map D.int)) s | _=>.no
 | _=>.no
theorem z0K{bt:Nat->Nat->Bool}{L:List (List Int)}(hb:∀ i j,bt i j=lexN (L.getD i []) (L.getD j [])):∀ k,k<L.length->∀ n M,L=n::M->L.getD (argBest bt k) []=z7y n (M.take k)
 | 0,_,n,M,e=>by subst e;simp [argBest,z7y] | k+1,hk,n,M,e=>by
  have ih:=z0K hb k (by omega) n M e;have hM:k<M.length:=by subst e;simpa using hk
  have gk:L.getD (k+1) []=M[k]:=by subst e;simp [List.getD,hM]
  have app:∀ (b:List Int)(A:List (List Int))(x:List Int),z7y b (A++[x])=if lexN x (z7y b A) then x else z7y b A:=by
   intro b A;induction A generalizing b with
   | nil=>intro x;rfl | cons y A ih=>intro x;exact ih _ x
  rw [List.take_add_one,List.getElem?_eq_getElem hM,Option.toList_some,app,<- ih];simp only [argBest,hb (k+1) (argBest bt k),gk];split;·exact gk
  ·rfl
section
variable {X:Cx}{E:XK}
def zhf(K:W.Frag):List V->Hp->VK->Prop:=fun xs H Q=>∃ b p ys n L,xs=[.ref p]/\Sq b K H p ys/\Paired (fun v ns=>AtN H v ns) ys (n::L)/\∀ v,AtN H v (z7y n L)->Q v H
theorem z2s{α β:Type}{R:α->β->Prop}:∀ {xs:List α}{ys:List β},Paired R xs ys->∀ (i:Nat)(x:α),xs[i]? = some x->∃ y,ys[i]? = some y/\R x y
 | _,_,.nil,i,x,e=>by simp at e | _,_,.cons h r,0,x,e=>by simp at e;subst e;exact ⟨_,rfl,h⟩ | _,_,.cons h r,i+1,x,e=>by simpa using z2s r i x (by simpa using e)
theorem z2n{α β:Type}{R:α->β->Prop}:∀ {xs:List α}{ys:List β},Paired R xs ys->xs.length=ys.length
 | _,_,.nil=>rfl | _,_,.cons h r=>by simp [z2n r]
theorem AtN.tuple{pins:List (Addr×Obj)}{O:L2.St}{H:Hp}{s:Shared}(I:Inv X pins O H s){v:V}{u:Value}{ns:List Int}(a:AtN H v ns)(r:xo v u):∃ b its,v=.ref b/\u=.ref b/\s.heap.IsTuple b its/\xD its.toList ns:=by
 obtain ⟨b,rfl,e⟩:=a;cases (show u=Value.ref b from r);obtain ⟨its,r,pl,hz⟩:=I.tuple (.inl (.inl e));exact ⟨b,its.toArray,rfl,rfl,pl,xD.of_vals (by simpa using r)⟩
theorem z8y (hc:X.calm=true) (hu:X.A.units+64<cLine):wu X (.builtin "min") (zhf X.K):=by
 intro pins s O H xs us Q I r h;obtain ⟨b,p,ys,n,L,rfl,hq,hp,q⟩:=h;obtain ⟨u,rfl,ru⟩:=vals1 r;cases ru;obtain ⟨its,rv,co⟩:=I.sq hq;have hl:its.length=(n::L).length:=by rw [<- z2n hp,rv.length]
 have at_:∀ i v,its.toArray[i]? = some v->∃ y,ys[i]? = some y/\xo y v/\AtN H y ((n::L).getD i []):=fun i v e=>by
  have e':its[i]? = some v:=by simpa using e
  have hi:i<ys.length:=by have:=(List.getElem?_eq_some_iff.mp e').1;have:=rv.length;omega
  obtain ⟨w,hw,rw_⟩:=rv.get (i:=i) (x:=ys[i]) (List.getElem?_eq_getElem hi);rw [e'] at hw;cases hw;obtain ⟨ns,e1,e2⟩:=z2s hp i _ (List.getElem?_eq_getElem hi);exact ⟨ys[i],List.getElem?_eq_getElem hi,rw_,by rw [List.getD,e1];exact e2⟩
 refine z71 (Zz.z37 (I.ok.hd hc) co fun s2 e2 St W st bd old=>?_);subst e2;refine ⟨_,_,_,_,_,_,fun i j=>lexN ((n::L).getD i []) ((n::L).getD j []),fun h=>∀ c o,s.heap.get? c=some o->h.get? c=some o,rfl,W,st,bd,by simp [hl],fun c o e=>Heap.get?_push_of_some _ e,fun i j vi vj s3 Q3 E3 kh pi pj q3=>?_,fun h h' kh k c o e=>?_,fun v h' tk e hk=>?_⟩
 ·obtain ⟨yi,_,ri,ai⟩:=at_ i vi pi;obtain ⟨yj,_,rj,aj⟩:=at_ j vj pj;obtain ⟨b1,t1,rfl,rfl,x1,z1⟩:=ai.tuple I ri;obtain ⟨b2,t2,rfl,rfl,x2,z2⟩:=aj.tuple I rj;have up:∀ {c:Addr} {its:Array Value},s.heap.IsTuple c its->s3.heap.IsTuple c its:=fun ⟨o,g,w⟩=>⟨o,kh _ _ g,w⟩;exact zeE (by have:X.A.in1.units=X.A.units+1:=rfl;omega) (up x1) (up x2) z1 z2 q3
 ·refine k c o (fun z=>?_) (by rw [Heap.size_push];exact Nat.lt_succ_of_lt (Heap.lt_size e)) (kh c o e);have:c=s.heap.objs.size:=by simpa using z
  exact absurd (this ▸ Heap.lt_size e) (Nat.lt_irrefl _)
 ·obtain ⟨y,_,ry,ay⟩:=at_ _ v e;have em:=z0K (bt:=fun i j=>lexN ((n::L).getD i []) ((n::L).getD j [])) (L:=n::L) (fun i j=>rfl) (its.toArray.size-1) (by simp [hl]) n L rfl;have tk':L.take (its.toArray.size-1)=L:=by simp [hl]
  rw [tk'] at em;rw [em] at ay;exact ⟨y,H,I.kept (t':=tk) (old h' hk),ry,q y ay⟩
theorem zdu(hc:X.calm=true)(hu:X.A.units+64<cLine):∃ r,wu X (.builtin "min") r/\z02 X E r z8z:=⟨_,z8y hc hu,fun H Y s ds vs Q r hd h=>by
 unfold z8z at h;split at h
 ·rename_i d;split at h
  ·rename_i n L e;obtain ⟨xs,e1,e2⟩:=Option.bind_eq_some_iff.mp e;obtain ⟨v,rfl,dn⟩:=z0e hd;obtain ⟨a,ws,rfl,q1,q2⟩:=ug (K:=X.K) r e1 dn;obtain ⟨b,q⟩:=z6v q1;refine ⟨b,a,ws,n,L,rfl,q,z0Z e2 q2,fun v av=>h.here r ?_⟩;obtain ⟨c,rfl,ec⟩:=av;simp only [Den];refine ⟨c,_,rfl,ec,?_⟩;generalize z7y n L=ns;induction ns with
   | nil=>exact zu.nil | cons i r ih=>exact zu.cons yk ih
  ·exact h.elim
 ·exact h.elim⟩
end
end Dd
namespace L2
open PySem.Spec
section
variable {prog:Program}{w:World}{A:Around}{R:Result->Shared->Prop}{s:Shared}{elt t1 i1 t2 i2:Expr}{scope:Scope}{pos:Pos}{it acc:Value}{env:Env}
theorem z8b:compTurn (.ListComp elt [⟨t1,i1,[],0⟩,⟨t2,i2,[],0⟩] scope pos) 0 it acc env=(standAt i1.pos >>= fun _=>pyNext it >>= fun r=>match r with
  | none=>pure (.done .next) | some v=>letOwnedTupleGo t1 it v >>= fun _=>assign t1 env v >>= fun _=>eval i2 env >>= fun x=>standAt i2.pos >>= fun _=>foldedSetIterable i2 env x >>= fun x=>holding [x] (pyIter x) >>= fun jt=> runOwn (.compStart (.ListComp elt [⟨t1,i1,[],0⟩,⟨t2,i2,[],0⟩] scope pos) 1 jt acc env) env >>= fun _=>again (.compLoop (.ListComp elt [⟨t1,i1,[],0⟩,⟨t2,i2,[],0⟩] scope pos) 0 it acc env)):=by rfl
theorem z8F:compTurn (.ListComp elt [⟨t1,i1,[],0⟩,⟨t2,i2,[],0⟩] scope pos) 1 it acc env=(standAt i2.pos >>= fun _=>pyNext it >>= fun r=>match r with
  | none=>pure (.done .next) | some v=>letOwnedTupleGo t2 it v >>= fun _=>assign t2 env v >>= fun _=>(eval elt env >>= fun x=>call (.builtin "list.append") [acc,x] >>= fun _=>pure ()) >>= fun _=> again (.compLoop (.ListComp elt [⟨t1,i1,[],0⟩,⟨t2,i2,[],0⟩] scope pos) 1 it acc env)):=by rfl
theorem z7Q(I:Nat->Shared->Prop) (turn:∀ n s,I n s->wpAny (model prog w) A (pyNext it) (fun r s₁=>match r with
   | none=>R (.ok .next) s₁ | some v=>wpAny (model prog w) A (letOwnedTupleGo t2 it v) (fun _ s₁'=>wpAny (model prog w) A (assign t2 env v) (fun _ s₂=>wpAny (model prog w) A (eval elt env) (fun x s₄=> wpAny (model prog w) A (call (.builtin "list.append") [acc,x]) (fun _ s₅=>∃ m,m<n/\I m s₅) (fun _ _=>False) s₄) (fun _ _=>False) s₂) (fun _ _=>False) s₁') (fun _ _=>False) s₁) (fun _ _=>False) s) (n:Nat)(h:I n s):codeAny (model prog w) A (.compLoop (.ListComp elt [⟨t1,i1,[],0⟩,⟨t2,i2,[],0⟩] scope pos) 1 it acc env) R s:=by
 refine codeAny_loop rfl I (fun n s hI=>?_) n h;show wpAny _ A ((compTurn (.ListComp elt [⟨t1,i1,[],0⟩,⟨t2,i2,[],0⟩] scope pos) 1 it acc env).onRaise (fun x=>do noteFrame x env;theTreesLotGoes x)) _ _ s;refine wpAny_noted ?_;rw [z8F];refine wpAny_bind (wpAny_standAt (wpAny_bind (wpAny_mono (turn n s hI) (fun r s₁ h₁=>?_) fun _ _ h'=>h'.elim)));cases r with
 | none=>exact wpAny_pure h₁ | some v=>
  refine wpAny_bind (wpAny_mono h₁ (fun _ s₁' h₁'=>wpAny_bind (wpAny_mono h₁' (fun _ s₂ h₂=>?_) fun _ _ h'=>h'.elim)) fun _ _ h'=>h'.elim);exact wpAny_bind (wpAny_bind (wpAny_mono h₂ (fun x s₄ h₄=>wpAny_bind (wpAny_mono h₄ (fun _ s₅ h₅=>wpAny_pure (wpAny_pure ⟨rfl,h₅⟩)) fun _ _ h'=>h'.elim)) fun _ _ h'=>h'.elim))
theorem z7a(h0:codeAny (model prog w) A (.compLoop (.ListComp elt [⟨t1,i1,[],0⟩,⟨t2,i2,[],0⟩] scope pos) 1 it acc env) R s) (h:wpAny (model prog w) A (pyIter it) (fun it' s'=>codeAny (model prog w) A (.compLoop (.ListComp elt [⟨t1,i1,[],0⟩,⟨t2,i2,[],0⟩] scope pos) 1 it' acc env) R s') (notedBy (model prog w) A env fun x s'=>R (.error x) s') s): codeAny (model prog w) A (.compStart (.ListComp elt [⟨t1,i1,[],0⟩,⟨t2,i2,[],0⟩] scope pos) 1 it acc env) R s:=by
 refine codeAny_of_tree ?_;show wpAny _ _ ((compStart (.ListComp elt [⟨t1,i1,[],0⟩,⟨t2,i2,[],0⟩] scope pos) 1 it acc env).onRaise (fun x=>do noteFrame x env;standAt theWindowsPlace)) _ _ s;refine wpAny_notedAt ?_;unfold compStart;show wpAny _ _ (ask >>= _) _ _ s;refine wpAny_bind (wpAny_askSetting (wpAny_ite ?_));split;·first
   | exact wpAny_bind (wpAny_pure (wpAny_pure (And.intro rfl h0))) | exact wpAny_pure (And.intro rfl h0)
 ·first
   | exact wpAny_bind (wpAny_rule (wpAny_bind (wpAny_standAt (wpAny_bind (wpAny_mono h (fun it' s' h'=>wpAny_pure (And.intro rfl h')) fun _ _ x=>x))))) | (refine wpAny_bind (wpAny_rule ?_);show wpAny _ _ (standAt i2.pos >>= _) _ _ s;exact wpAny_bind (wpAny_standAt (wpAny_bind (wpAny_mono h (fun it' s' h'=>wpAny_pure (And.intro rfl h')) fun _ _ x=>x))))
theorem z9u(hs2:∀ x,foldedSetIterable i2 env x=pure x)(I:Nat->Shared->Prop) (turn:∀ n s,I n s->wpAny (model prog w) A (pyNext it) (fun r s₁=>match r with
   | none=>R (.ok .next) s₁ | some v=>wpAny (model prog w) A (letOwnedTupleGo t1 it v) (fun _ s₁'=>wpAny (model prog w) A (assign t1 env v) (fun _ s₂=>wpAny (model prog w) A (eval i2 env) (fun x s₃=>wpAny (model prog w) A (pyIter x) (fun jt s₄=> codeAny (model prog w) A (.compStart (.ListComp elt [⟨t1,i1,[],0⟩,⟨t2,i2,[],0⟩] scope pos) 1 jt acc env) (fun r s₅=>match r with | .ok _=>∃ m,m<n/\I m s₅ | .error _=>False) s₄) (fun _ _=>False) s₃) (fun _ _=>False) s₂) (fun _ _=>False) s₁') (fun _ _=>False) s₁) (fun _ _=>False) s) (n:Nat)(h:I n s):codeAny (model prog w) A (.compLoop (.ListComp elt [⟨t1,i1,[],0⟩,⟨t2,i2,[],0⟩] scope pos) 0 it acc env) R s:=by
 refine codeAny_loop rfl I (fun n s hI=>?_) n h;show wpAny _ A ((compTurn (.ListComp elt [⟨t1,i1,[],0⟩,⟨t2,i2,[],0⟩] scope pos) 0 it acc env).onRaise (fun x=>do noteFrame x env;theTreesLotGoes x)) _ _ s;refine wpAny_noted ?_;rw [z8b];refine wpAny_bind (wpAny_standAt (wpAny_bind (wpAny_mono (turn n s hI) (fun r s₁ h₁=>?_) fun _ _ h'=>h'.elim)));cases r with
 | none=>exact wpAny_pure h₁ | some v=>
  refine wpAny_bind (wpAny_mono h₁ (fun _ s₁' h₁'=>wpAny_bind (wpAny_mono h₁' (fun _ s₂ h₂=>?_) fun _ _ h'=>h'.elim)) fun _ _ h'=>h'.elim);refine wpAny_bind (wpAny_mono h₂ (fun x s₃ h₃=>wpAny_bind (wpAny_standAt (wpAny_bind (wpAny_of_eq (hs2 x) ?_)))) fun _ _ h'=>h'.elim);refine wpAny_bind (wpAny_holding (wpAny_mono h₃ (fun jt s₄ h₄=>?_) fun _ _ h'=>h'.elim));refine wpAny_bind (wpAny_runOwn (codeAny_mono h₄ fun r s₅ h₅=>?_));cases r with
  | ok f=>exact wpAny_pure ⟨rfl,h₅⟩ | error e=>exact h₅.elim
end
def z8P(wi:TI)(mp:List (Option Nat))(k1 k2:Nat)(wi2:TI)(te:TE):TE:=fun O H Q=>wi O H fun J H1=>∃ W:Nat->Nat->List V->Hp->Prop,(∃ m,W 0 m [] H1)/\∀ i m ys H,W i m ys H-> (J.stop i H/\ys.length<=sizeLine/\∀ p,H p=none->Q (.ref p) (upd H p (.lst ys)))\/ (J.go i H/\∀ x H',J.yld i H x H'->wi2 ((inner mp O).set k1 (some x)) H' fun J2 H3=>∃ W2:Nat->Nat->List V->Hp->Prop,(∃ m2,W2 0 m2 ys H3)/\∀ j m2 ys2 H4,W2 j m2 ys2 H4-> (J2.stop j H4/\∃ m',m'<m/\W (i+1) m' ys2 H4)\/ (J2.go j H4/\∀ x2 H5,J2.yld j H4 x2 H5->te (((inner mp O).set k1 (some x)).set k2 (some x2)) H5 fun y H6=>ys2.length<=sizeLine/\∃ m',m'<m2/\W2 (j+1) m' (ys2++[y]) H6))
theorem z4F{O:St}{i:Nat}{v:V}(h:O[i]? = some none):(O.set i (some v)).length=O.length/\∀ (j:Nat) u,O[j]? = some (some u)->(O.set i (some v))[j]? = some (some u):=by
 refine ⟨by simp,fun j u e=>?_⟩;have:i≠j:=fun z=>by subst z;rw [h] at e;cases e
 rw [List.getElem?_set_ne this];exact e
theorem z15 {X:Cx} {tg iter tg2 iter2 elt:Expr} {scope:Scope} {pos:Pos} {wi2:TI} {te:TE} {N':List Str} {mp:List (Option Nat)} {k1 k2:Nat} {pins:List (Addr×Obj)} {O:St} {Q:VK} {J:It} {H2:Hp} {s₂:Shared} {it:Addr} {fp:List Addr} {tn:Nat->Heap->Prop} {E:Value->Shared->Prop} {RR:Value->Addr->Result->Shared->Prop} (hc:X.calm=true) (hm1:mp[k1]? = some none) (hm2:mp[k2]? = some none) (hk:k1≠k2) (hg:∀ ex s H,PG (zh X N' scope ex s H) tg (qD k1)) (hg2:∀ ex s H,PG (zh X N' scope ex s H) tg2 (qD k2)) (hi2:∀ ex s H,PI (zh X N' scope ex s H) tg2 iter2 wi2) (he:∀ ex s H,PE (zh X N' scope ex s H) elt te) (hs2:∀ env x,foldedSetIterable iter2 env x=pure x) (hkd:scope.kind=.function) (hnm:∀ y∈scope.names,scope.names.lookup y.1=some y.2) (hfr:∀ y∈scope.names,y.2=.free->X.env.kindOf y.1=some .cell\/X.env.kindOf y.1=some .free) (hmp:z06 X.N scope.names N' mp=true) (I2:Inv X pins O H2 s₂) (T:zby X.prog X.w X.K tg J fp it tn) (st2:tn 0 s₂.heap) (f2:∀ b∈fp,z1P X pins H2 b) (W:Nat->Nat->List V->Hp->Prop) (w0:∃ m,W 0 m [] H2) (turn:∀ i m ys H,W i m ys H-> (J.stop i H/\ys.length<=sizeLine/\∀ p,H p=none->Q (.ref p) (upd H p (.lst ys)))\/ (J.go i H/\∀ x H',J.yld i H x H'->wi2 ((inner mp O).set k1 (some x)) H' fun J2 H3=>∃ W2:Nat->Nat->List V->Hp->Prop,(∃ m2,W2 0 m2 ys H3)/\∀ j m2 ys2 H4,W2 j m2 ys2 H4-> (J2.stop j H4/\∃ m',m'<m/\W (i+1) m' ys2 H4)\/ (J2.go j H4/\∀ x2 H5,J2.yld j H4 x2 H5->te (((inner mp O).set k1 (some x)).set k2 (some x2)) H5 fun y H6=>ys2.length<=sizeLine/\∃ m',m'<m2/\W2 (j+1) m' (ys2++[y]) H6))) (hRR:∀ acc C s',jP X pins O C Q acc s'->RR acc C (.ok .next) s'): wpAny (model X.prog X.w) X.A (newList []) (fun acc s₃=>wpAny (model X.prog X.w) X.A (newFunctionEnv scope X.env.globals (z2H X.env scope.names []) [] X.env.qual none .none (some X.env)) (fun cenv s₄=> codeAny (model X.prog X.w) X.A (.compStart (.ListComp elt [⟨tg,iter,[],0⟩,⟨tg2,iter2,[],0⟩] scope pos) 0 (.ref it) acc {cenv with scope:=relabel scope X.env}) (RR acc cenv.locals) s₄) E s₃) E s₂:=by
 refine wpAny_newObj_type ?_;have hf2:H2 s₂.heap.objs.size=none:=I2.hok.fresh (Nat.le_refl _);have fA:z1P X pins H2 s₂.heap.objs.size:=I2.fpOk (Nat.le_refl _) hf2;generalize hacc:s₂.heap.objs.size=acc at hf2 fA ⊢;have I3:Inv X pins O H2 {s₂ with heap:=s₂.heap.push {cls:=.type "list",data:=.seq ([]:List Value).toArray}}:=I2.kept (t':=s₂.toks) fun b o e=>Heap.get?_push_of_some _ e;have ha3:(s₂.heap.push {cls:=.type "list",data:=.seq ([]:List Value).toArray}).get? acc=some (LCg.lst []):=by rw [<- hacc];exact Heap.get?_push_size _ rfl
 have sz3:(s₂.heap.push {cls:=.type "list",data:=.seq ([]:List Value).toArray}).objs.size=acc+1:=by rw [Heap.size_push,hacc]
 have kp3:∀ b o,s₂.heap.get? b=some o->(s₂.heap.push {cls:=.type "list",data:=.seq ([]:List Value).toArray}).get? b=some o:=fun b o e=>Heap.get?_push_of_some _ e;show wpAny _ _ _ _ _ {s₂ with heap:=s₂.heap.push {cls:=.type "list",data:=.seq ([]:List Value).toArray}};generalize hs3:({s₂ with heap:=s₂.heap.push {cls:=.type "list",data:=.seq ([]:List Value).toArray}}:Shared)=s₃ at I3 ⊢;have ha3':s₃.heap.get? acc=some (LCg.lst []):=by rw [<- hs3];exact ha3
 have sz3':s₃.heap.objs.size=acc+1:=by rw [<- hs3];exact sz3
 have kp3':∀ b o,s₂.heap.get? b=some o->s₃.heap.get? b=some o:=by rw [<- hs3];exact kp3
 have flt:∀ b∈fp,b<acc:=fun b hb=>by
  obtain ⟨o,e,_⟩:=T.obj 0 _ st2 b hb;rw [<- hacc];exact Heap.lt_size e
 have fne:∀ b∈fp,b≠acc:=fun b hb=>Nat.ne_of_lt (flt b hb);have tn3:tn 0 s₃.heap:=T.keep 0 _ _ st2 fun b hb o e=>kp3' b o e;refine z0J ?_;rw [xx];have hex:∀ b∈acc::fp,b<s₃.heap.objs.size/\H2 b=none/\b≠X.env.locals/\b∉X.fs/\(b∈X.ex\/X.s₀.heap.objs.size<=b)/\(∀ x c,X.env.cells.lookup x=some c->c≠b):=fun b hb=>by
  rcases List.mem_cons.mp hb with z | hb
  ·subst z;exact ⟨by rw [sz3'];exact Nat.lt_succ_self _,hf2,fA.2.1,fA.2.2.1,fA.2.2.2.1,fA.2.2.2.2.1⟩
  ·have q:=f2 b hb;exact ⟨by rw [sz3'];exact Nat.lt_succ_of_lt (flt b hb),q.1,q.2.1,q.2.2.1,q.2.2.2.1,q.2.2.2.2.1⟩
 have I4:=z24 (N':=N') (mp:=mp) (ex:=acc::fp) (s1:={s₃ with heap:=pushCells (s₃.heap.push {cls:=.type "dict",data:=.dict #[]}) scope.names}) I3 hkd hnm hfr hmp hex rfl rfl rfl;have kp4:∀ b o,s₃.heap.get? b=some o->(pushCells (s₃.heap.push {cls:=.type "dict",data:=.dict #[]}) scope.names).get? b=some o:=fun b o e=>pushCells_keeps _ _ b o (Heap.get?_push_of_some _ e);generalize hs4:({s₃ with heap:=pushCells (s₃.heap.push {cls:=.type "dict",data:=.dict #[]}) scope.names}:Shared)=s₄ at I4 ⊢;have ha4:s₄.heap.get? acc=some (LCg.lst []):=by rw [<- hs4];exact kp4 _ _ ha3'
 have tn4:tn 0 s₄.heap:=T.keep 0 _ _ tn3 fun b hb o e=>by rw [<- hs4];exact kp4 b o e
 have Cne:acc≠s₃.heap.objs.size:=by rw [sz3'];exact Nat.ne_of_lt (Nat.lt_succ_self _)
 have celln:∀ b∈acc::fp,∀ x c,(z5b X scope s₃.heap.objs.size).cells.lookup x=some c->c≠b:=fun b hb=>(I4.ok.exf b hb).2;have stat:∀ {H':Hp} {o:Obj},(∀ b∈fp,H' b=none)->∀ b∈fp,z1P (zh X N' scope (acc::fp) s₃ H2) [(acc,o)] H' b:=fun {H' o} hn b hb=> ⟨hn b hb,Nat.ne_of_lt (by show b<s₃.heap.objs.size;rw [sz3'];exact Nat.lt_succ_of_lt (flt b hb)),fun hf=>I4.ok.exfs b (List.mem_cons_of_mem _ hb) hf,.inl (List.mem_cons_of_mem _ hb),celln b (List.mem_cons_of_mem _ hb),fun p hp=>by
   have e:p=(acc,o):=by simpa [zh] using hp
   rw [e];exact Ne.symm (fne b hb)⟩;have accP:∀ (its:List Value) (v:Option Value),(LCg.lst its).data≠.cell v:=fun its v z=>by
  have z':Data.seq _ _=Data.cell v:=z;cases z'
 have pinA:∀ {P:List (Addr×Obj)} {O':St} {H':Hp} {s':Shared} {its:List Value},Inv (zh X N' scope (acc::fp) s₃ H2) P O' H' s'->H' acc=none->s'.heap.get? acc=some (LCg.lst its)->Inv (zh X N' scope (acc::fp) s₃ H2) ([(acc,LCg.lst its)]++P) O' H' s':=fun {P O' H' s' its} J' n' e'=> J'.pins_of fun p hp=>by
   rcases List.mem_append.mp hp with hp | hp
   ·have e:p=(acc,LCg.lst its):=by simpa using hp
    subst e;exact ⟨e',n',Cne,fun hf=>I4.ok.exfs acc List.mem_cons_self hf,accP its⟩
   ·exact J'.pin p (List.mem_append_right _ hp)
 obtain ⟨m0,w0⟩:=w0;have loop:codeAny (model X.prog X.w) X.A (.compLoop (.ListComp elt [⟨tg,iter,[],0⟩,⟨tg2,iter2,[],0⟩] scope pos) 0 (.ref it) (.ref acc) (z5b X scope s₃.heap.objs.size)) (RR (.ref acc) s₃.heap.objs.size) s₄:=by
  refine z9u (hs2 _) (fun n s'=>∃ i ys its H',Inv (zh X N' scope (acc::fp) s₃ H2) [] (inner mp O) H' s'/\tn i s'.heap/\(∀ b∈fp,H' b=none)/\H' acc=none/\s'.heap.get? acc=some (LCg.lst its)/\yG ys its/\W i n ys H') ?_ m0 ⟨0,[],[],H2,I4,tn4,fun b hb=>(f2 b hb).1,hf2,ha4,.nil,w0⟩;rintro n s5 ⟨i,ys,its,H5,I5,tn5,n5,na5,ea5,rv5,w5⟩;have I5':Inv (zh X N' scope (acc::fp) s₃ H2) [(acc,LCg.lst its)] (inner mp O) H5 s5:=pinA I5 na5 ea5;rcases turn i n ys H5 w5 with ⟨stop,hz,q⟩ | ⟨go,step⟩
  ·refine wpAny_mono (T.done (zh X N' scope (acc::fp) s₃ H2) rfl rfl rfl hc i _ s5 _ H5 (fun _ _=>False) I5' (stat n5) tn5 stop) (fun r s6 ⟨hr,I6⟩=>?_) fun _ _ z=>z;subst hr;have ea6:=(I6.pin (acc,LCg.lst its) (by simp)).1;have un:Un (frs X.stack) (acc::fp) H2 H5 s₃.heap s6.heap:=I6.base;have I7:Inv X pins O H5 s6:=I3.call' (s':=s6) (I6.os) un I6.hok I6.bare fun b hb=>by
    rcases List.mem_cons.mp hb with z | hb;·subst z;exact ⟨fA.2.2.2.1,fA.2.1,fA.2.2.2.2.1,fA.2.2.2.2.2⟩
    ·exact ⟨(f2 b hb).2.2.2.1,(f2 b hb).2.1,(f2 b hb).2.2.2.2.1,(f2 b hb).2.2.2.2.2⟩
   have C7:z1P X pins H5 s₃.heap.objs.size:=I3.fpOk (Nat.le_refl _) I6.free;refine hRR _ _ s6 ⟨.ref acc,upd H5 acc (.lst ys),I7.track ⟨na5,fA.2⟩ ?_,rfl,q acc na5,?_,?_,C7.2⟩;·exact ⟨hz,its,_,rv5,ea6⟩
   ·obtain ⟨m,hm,_⟩:=I6.loc;exact ⟨m,hm⟩
   ·rw [zC (Ne.symm Cne)];exact I6.free
  ·refine wpAny_mono (T.item (zh X N' scope (acc::fp) s₃ H2) rfl rfl rfl hc i _ s5 _ H5 (fun _ _=>False) I5' (stat n5) tn5 go) (fun r s6 ⟨u,hr,h6⟩=>?_) fun _ _ z=>z;subst hr;refine wpAny_mono h6 (fun _ s7 ⟨x,H7,I7,r7,y7,tn7,n7⟩=>?_) fun _ _ z=>z;have I7':=I7.pinned (stat n7) (T.obj _ _ tn7);generalize hP:z2k fp s7.heap=P7 at I7';have inP:∀ b∈fp,∀ o,s7.heap.get? b=some o->(b,o)∈P7:=fun b hb o e=>by rw [<- hP];exact vW hb e
   have back:∀ {O':St} {H':Hp} {s':Shared} {its':List Value},Inv (zh X N' scope (acc::fp) s₃ H2) ([(acc,LCg.lst its')]++P7) O' H' s'->(∀ b∈fp,H' b=none)/\H' acc=none/\s'.heap.get? acc=some (LCg.lst its')/\tn (i+1) s'.heap:=fun {O' H' s' its'} J'=>by
    have z:=J'.pin (acc,LCg.lst its') (by simp [zh]);have zz:∀ b∈fp,∀ o,s7.heap.get? b=some o->s'.heap.get? b=some o/\H' b=none:=fun b hb o e=>by
     have y:=J'.pin (b,o) (List.mem_append_right _ (List.mem_append_right _ (inP b hb o e)));exact ⟨y.1,y.2.1⟩
    refine ⟨fun b hb=>?_,z.2.1,z.1,T.keep _ _ _ tn7 fun b hb o e=>(zz b hb o e).1⟩;obtain ⟨o,e,_⟩:=T.obj _ _ tn7 b hb;exact (zz b hb o e).2
   have ow1:(inner mp O)[k1]? = some none:=by simp [L2.inner,hm1]
   have kp1:=z4F (v:=x) ow1;have ow2:((inner mp O).set k1 (some x))[k2]? = some none:=by rw [List.getElem?_set_ne hk];simp [L2.inner,hm2]
   refine wpAny_mono (hg _ _ _ _ s7 (inner mp O) H7 x u (fun O8 H8=>O8=(inner mp O).set k1 (some x)/\H8=H7) I7' r7 ⟨rfl,rfl⟩) (fun _ s8 ⟨O8,H8,I8,e8,e8'⟩=>?_) fun _ _ z=>z;subst e8 e8';refine wpAny_mono (hi2 _ _ _ _ s8 _ H8 _ I8 (step x H8 y7)) (fun xv s9 h9=>?_) fun _ _ z=>z;refine wpAny_mono h9 (fun jt s10 h10=>?_) fun _ _ z=>z;obtain ⟨it2,fp2,tn2,J2,H10,e10,I10,T2,st10,f10,W2,⟨m2,v0⟩,turn2⟩:=h10;subst e10;obtain ⟨_,na10,ea10,_⟩:=back I10;have stat2:∀ {H':Hp} {its':List Value},(∀ b∈fp2,H' b=none)->∀ b∈fp2,z1P (zh X N' scope (acc::fp) s₃ H2) ([(acc,LCg.lst its')]++P7) H' b:=fun {H' its'} hn b hb=>by
    obtain ⟨q1,q2,q3,q4,q5,q6⟩:=f10 b hb;refine ⟨hn b hb,q2,q3,q4,q5,fun p hp=>?_⟩;rcases List.mem_append.mp hp with hp | hp;·exact q6 p (List.mem_append_left _ hp)
    ·rcases List.mem_append.mp hp with hp | hp
     ·have e:p=(acc,LCg.lst its'):=by simpa using hp
      rw [e];exact q6 (acc,LCg.lst its) (List.mem_append_right _ (List.mem_append_left _ (by simp)))
     ·exact q6 p (List.mem_append_right _ (List.mem_append_right _ hp))
   have unA:∀ {O':St} {H':Hp} {s':Shared} {its':List Value},Inv (zh X N' scope (acc::fp) s₃ H2) ([(acc,LCg.lst its')]++P7) O' H' s'->Inv (zh X N' scope (acc::fp) s₃ H2) P7 O' H' s':=fun J'=>J'.pins_of fun p hp=>J'.pin p (List.mem_append_right _ (List.mem_append_right _ hp));have loop2:codeAny (model X.prog X.w) X.A (.compLoop (.ListComp elt [⟨tg,iter,[],0⟩,⟨tg2,iter2,[],0⟩] scope pos) 1 (.ref it2) (.ref acc) (z5b X scope s₃.heap.objs.size)) (fun r s'=>match r with | .ok _=>∃ m,m<n/\∃ i ys its H',Inv (zh X N' scope (acc::fp) s₃ H2) [] (inner mp O) H' s'/\tn i s'.heap/\(∀ b∈fp,H' b=none)/\H' acc=none/\s'.heap.get? acc=some (LCg.lst its)/\yG ys its/\W i m ys H' | .error _=>False) s10:=by
    refine z7Q (fun n' s'=>∃ j ys2 its2 H',Inv (zh X N' scope (acc::fp) s₃ H2) P7 ((inner mp O).set k1 (some x)) H' s'/\tn2 j s'.heap/\(∀ b∈fp2,H' b=none)/\H' acc=none/\s'.heap.get? acc=some (LCg.lst its2)/\yG ys2 its2/\W2 j n' ys2 H') ?_ m2 ⟨0,ys,its,H10,unA I10,st10,fun b hb=>(f10 b hb).1,na10,ea10,rv5,v0⟩;rintro n' s11 ⟨j,ys2,its2,H11,I11,tn11,n11,na11,ea11,rv11,v11⟩;have I11':=pinA I11 na11 ea11;rcases turn2 j n' ys2 H11 v11 with ⟨stop2,m',lt,w12⟩ | ⟨go2,step2⟩
    ·refine wpAny_mono (T2.done (zh X N' scope (acc::fp) s₃ H2) rfl rfl rfl hc j _ s11 _ H11 (fun _ _=>False) I11' (stat2 n11) tn11 stop2) (fun r s12 ⟨hr,I12⟩=>?_) fun _ _ z=>z;subst hr;obtain ⟨z1,z2,z3,z4⟩:=back I12;exact ⟨m',lt,i+1,ys2,its2,H11,(I12.pins_of (pins':=[]) (fun p hp=>absurd hp (by simp))).weak kp1.1.symm kp1.2,z4,z1,z2,z3,rv11,w12⟩
    ·refine wpAny_mono (T2.item (zh X N' scope (acc::fp) s₃ H2) rfl rfl rfl hc j _ s11 _ H11 (fun _ _=>False) I11' (stat2 n11) tn11 go2) (fun r s12 ⟨u2,hr,h12⟩=>?_) fun _ _ z=>z;subst hr;refine wpAny_mono h12 (fun _ s13 ⟨x2,H13,I13,r13,y13,tn13,n13⟩=>?_) fun _ _ z=>z;have I13':=I13.pinned (stat2 n13) (T2.obj _ _ tn13);have kp2:=z4F (v:=x2) ow2;refine wpAny_mono (hg2 _ _ _ _ s13 _ H13 x2 u2 (fun O14 H14=>O14=((inner mp O).set k1 (some x)).set k2 (some x2)/\H14=H13) I13' r13 ⟨rfl,rfl⟩) (fun _ s14 ⟨O14,H14,I14,e14,e14'⟩=>?_) fun _ _ z=>z;subst e14 e14';refine wpAny_mono (he _ _ _ _ s14 _ H14 _ I14 (step2 x2 H14 y13)) (fun yv s15 ⟨y,H15,I15,r15,hz,m',lt,v15⟩=>?_) fun _ _ z=>z;have I15u:Inv (zh X N' scope (acc::fp) s₃ H2) ([(acc,LCg.lst its2)]++P7) _ H15 s15:=I15.unpinned;obtain ⟨z1,z2,z3,z4⟩:=back I15u;have zz:∀ b∈fp2,∀ o,s13.heap.get? b=some o->s15.heap.get? b=some o/\H15 b=none:=fun b hb o e=>by
      have y:=I15.pin (b,o) (List.mem_append_right _ (List.mem_append_right _ (vW hb e)));exact ⟨y.1,y.2.1⟩
     have fne2:∀ b∈fp2,b≠acc:=fun b hb=>by
      have:=(f10 b hb).2.2.2.2.2 (acc,LCg.lst its) (List.mem_append_right _ (List.mem_append_left _ (by simp)));exact Ne.symm this
     have zl:its2.toArray.size<=sizeLine:=by rw [List.size_toArray,<- rv11.length];exact hz
     refine append_at (hsz:=zl) z3 fun h16 sb ea16=>?_;have I15w:=(unA I15u).weak kp2.1.symm kp2.2;have aP:∀ p∈(zh X N' scope (acc::fp) s₃ H2).pn++P7,p.1≠acc:=fun p hp=>by
      have hp':p∈P7:=by simpa [zh] using hp
      rw [<- hP] at hp';obtain ⟨b,hb,e⟩:=List.mem_filterMap.mp hp';obtain ⟨o,_,e2⟩:=Option.map_eq_some_iff.mp e;rw [<- e2];exact fne b hb
     have I16:Inv (zh X N' scope (acc::fp) s₃ H2) P7 ((inner mp O).set k1 (some x)) H15 {s15 with heap:=h16}:=I15w.turned (t':=s15.toks) (fun b o hb e=>(sb.2 b hb).trans e) z2 Cne (.inl List.mem_cons_self) (celln acc List.mem_cons_self) aP;refine ⟨m',lt,j+1,ys2++[y],its2++[yv],H15,I16,T2.keep _ _ _ tn13 (fun b hb o e=>(sb.2 b (fne2 b hb)).trans (zz b hb o e).1),fun b hb=>?_,z2,ea16.trans (congrArg some (LCg.lst_snoc its2 yv)),rv11.append (.cons r15 .nil),v15⟩;obtain ⟨o,e,_⟩:=T2.obj _ _ tn13 b hb;exact (zz b hb o e).2
   exact z7a loop2 (T2.self _ 0 _ _ _ st10 loop2)
 exact codeAny_compStart_list loop (T.self _ 0 _ _ _ tn4 loop)
section
variable {X:Cx}{tg iter tg2 iter2 elt:Expr}{scope:Scope}{pos spos py:Pos}{wi wi2:TI}{te:TE}{k1 k2:Nat}
theorem zan (N':List Str) (mp:List (Option Nat)) (hc:X.calm=true) (hm1:mp[k1]? = some none) (hm2:mp[k2]? = some none) (hk:k1≠k2) (hi:PI X tg iter wi) (hg:∀ ex s H,PG (zh X N' scope ex s H) tg (qD k1)) (hg2:∀ ex s H,PG (zh X N' scope ex s H) tg2 (qD k2)) (hi2:∀ ex s H,PI (zh X N' scope ex s H) tg2 iter2 wi2) (he:∀ ex s H,PE (zh X N' scope ex s H) elt te) (hs2:∀ env x,foldedSetIterable iter2 env x=pure x) (hkd:scope.kind=.function) (hnm:∀ y∈scope.names,scope.names.lookup y.1=some y.2) (hfr:∀ y∈scope.names,y.2=.free->X.env.kindOf y.1=some .cell\/X.env.kindOf y.1=some .free) (hmp:z06 X.N scope.names N' mp=true) (hs:∀ x,foldedSetIterable iter X.env x=pure x:=by intro _;rfl):PE X (.ListComp elt [⟨tg,iter,[],0⟩,⟨tg2,iter2,[],0⟩] scope pos) (z8P wi mp k1 k2 wi2 te):=by
 intro pins s O H Q I h;rw [eval_ListComp];refine wpAny_comprehension_free (use:=none) rfl hs (xB fun y hy hf=>I.ok.has _ (hfr y hy hf)) hkd (fun y hy hl=>by rw [hnm y hy,hl]) (thn (hi pins s O H _ I h) fun xv s₁ h₁=>thn h₁ fun itv s₂ h₂=>?_);obtain ⟨it,fp,tn,J,H2,e,I2,T,st2,f2,W,w0,turn⟩:=h₂;subst e;refine z15 (N':=N') (mp:=mp) (O:=O) (pins:=pins) (Q:=Q) (RR:=fun acc C=>compPost (model X.prog X.w) X.A X.xe none (EP X pins O Q) acc C) hc hm1 hm2 hk hg hg2 hi2 he hs2 hkd hnm hfr hmp I2 T st2 f2 W w0 turn ?_;rintro acc C s' ⟨v,Hf,I3,r,q,⟨m,hm⟩,f⟩;exact ⟨m,hm,fun h' sb=>⟨v,Hf,vm I3 f sb,r,q⟩⟩
theorem z56 {i:Nat} {y:Str} (N':List Str) (mp:List (Option Nat)) (hN:X.N.Nodup) (hy:X.N[i]? = some y) (hyl:Loc X.env.scope y) (hc:X.calm=true) (hm1:mp[k1]? = some none) (hm2:mp[k2]? = some none) (hk:k1≠k2) (hi:PI X tg iter wi) (hg:∀ ex s H,PG (zh X N' scope ex s H) tg (qD k1)) (hg2:∀ ex s H,PG (zh X N' scope ex s H) tg2 (qD k2)) (hi2:∀ ex s H,PI (zh X N' scope ex s H) tg2 iter2 wi2) (he:∀ ex s H,PE (zh X N' scope ex s H) elt te) (hs2:∀ env x,foldedSetIterable iter2 env x=pure x) (hkd:scope.kind=.function) (hnm:∀ y∈scope.names,scope.names.lookup y.1=some y.2) (hfr:∀ y∈scope.names,y.2=.free->X.env.kindOf y.1=some .cell\/X.env.kindOf y.1=some .free) (hmp:z06 X.N scope.names N' mp=true) (hs:∀ x,foldedSetIterable iter X.env x=pure x:=by intro _;rfl) (hsw:swapsWith (.ListComp elt [⟨tg,iter,[],0⟩,⟨tg2,iter2,[],0⟩] scope pos) (some (.Name y py)) spos.line X.env=pure true:=by rfl) (hf:X.fn y=true\/X.env.scope.names.lookup y=some .local:=by first | exact .inl rfl | exact .inr rfl | assumption): PS X (.Assign [.Name y py] (.ListComp elt [⟨tg,iter,[],0⟩,⟨tg2,iter2,[],0⟩] scope pos) spos) (fun D O H=>z8P wi mp k1 k2 wi2 te O H (z8G fun v H'=>D.nx (O.set i (some v)) H')):=by
 intro pins s O H D I h;rw [exec_Assign_Name_used _ _ _ _ hsw];refine wpAny_bind (wpAny_standAt (wpAny_bind ?_));show wpAny _ X.A (do let _ <- comprehension (.ListComp elt [⟨tg,iter,[],0⟩,⟨tg2,iter2,[],0⟩] scope pos) scope X.env _ (newList []) false (eval iter X.env) (some (assign (.Name y py) X.env))) _ _ s;refine wpAny_bind (wpAny_mono (wpAny_comprehension_free (use:=some (assign (.Name y py) X.env)) (Q:=fun _ s'=>SP X pins D .next s') rfl hs (xB fun y hy hf=>I.ok.has _ (hfr y hy hf)) hkd (fun y hy hl=>by rw [hnm y hy,hl]) (thn (hi pins s O H _ I h) fun xv s₁ h₁=>thn h₁ fun itv s₂ h₂=>?_)) (fun _ s' hq=>wpAny_pure (wpAny_pure hq)) fun _ _ e=>e);obtain ⟨it,fp,tn,J,H2,e,I2,T,st2,f2,W,w0,turn⟩:=h₂;subst e;refine z15 (N':=N') (mp:=mp) (O:=O) (pins:=pins) (Q:=z8G fun v H'=>D.nx (O.set i (some v)) H') (RR:=fun acc C=>compPost (model X.prog X.w) X.A X.xe (some (assign (.Name y py) X.env)) (fun _ s'=>SP X pins D .next s') acc C) hc hm1 hm2 hk hg hg2 hi2 he hs2 hkd hnm hfr hmp I2 T st2 f2 W w0 turn ?_;intro acc C s' hd;obtain ⟨v,Hf,I3,r,q,⟨m,hm⟩,f⟩:=hd.freeze;refine wpAny_assign_Name (jo I3 hN hy hyl r (fun s'' I4 ⟨a,sb,ha⟩=>?_) hf);have hC:C≠a:=by
  rcases ha with z | z;·rw [z];exact f.2.1
  ·exact Ne.symm (f.2.2.2.2.1 y a z)
 exact ⟨m,hm.sameBut sb hC,fun h' sb'=>⟨_,Hf,vm I4 f sb',q⟩⟩
end
end L2
namespace Dd
open PySem.Spec L2
open Classical in
def z3a(g:List (Nat×List D))(all:List D)(body:D->List D->Sto->R (List D)):List D->List D->Sto->R (List D)
 | [],acc,s=>if okG g all s then .ok acc s else .no | x::xs,acc,s=>if okG g all s then (body x acc s).bind fun acc' s1=>z3a g all body xs acc' s1 else .no
def z3N(fi:FI)(mp:List (Option Nat))(k1 k2:Nat)(fi2:FI)(fe:FE):FA:=fun ρ s=>(fi ρ s).bind fun it s1=>z3a it.2 it.1 (fun d acc s=>(fi2 ((zV mp ρ).set k1 (some d)) s).bind fun it2 s2=>we it2.2 it2.1 (fun d2 s=>(fe (((zV mp ρ).set k1 (some d)).set k2 (some d2)) s).bind fun d s3=>.ok (some d) s3) it2.1 acc s2) it.1 [] s1
section
variable {X:Cx}{E:XK}{tg iter tg2 iter2 elt:Expr}{pos spos py:Pos}{mp:List (Option Nat)}{k1 k2:Nat}{fi fi2:FI}{fe:FE}{scope:Scope}
theorem z46{O:L2.St}{H:Hp}{Q:VK}{Y:List Addr}{ρ:Ev}{s:Sto}{β:Type}{kR:List D->Sto->R β}{β2:Type}{Dn:Hp->List Addr->β->β2->Prop}{Q2:β2->Hp->Prop}(r:Rep (gm X) H Y s)(en:wF (gm X) H Y ρ O) (h:okR (gm X) E H Y Dn ((z3N fi mp k1 k2 fi2 fe ρ s).bind kR) Q2) (fin:∀ H1 Y1 s1 xs vs,Rep (gm X) H1 Y1 s1->wF (gm X) H1 Y1 ρ O->zu (gm X) H1 Y1 xs vs->okR (gm X) E H1 Y1 Dn (kR xs s1) Q2->xs.length<=cap->∀ p,H1 p=none->Q (.ref p) (upd H1 p (.lst vs))): z8P (tI (gm X) E fi) mp k1 k2 (tI (gm X) E fi2) (tE (gm X) E fe) O H Q:=by
 unfold z3N at h;have assoc:∀ {α γ δ:Type}(x:R α)(f:α->Sto->R γ)(k:γ->Sto->R δ),(x.bind f).bind k=x.bind fun a s=>(f a s).bind k:=fun x f k=>by cases x<;>rfl
 rw [assoc] at h;refine ⟨Y,ρ,s,r,en,(okR.bind (Dn:=z9K (gm X)) h).imp fun J H1 ⟨Y1,s1,it,stp,ok,h1⟩=>?_⟩;obtain ⟨items,gd⟩:=it;simp only at h1;generalize hb:(fun (d:D)(acc:List D)(s:Sto)=>(fi2 ((zV mp ρ).set k1 (some d)) s).bind fun it2 s2=>we it2.2 it2.1 (fun d2 s=>(fe (((zV mp ρ).set k1 (some d)).set k2 (some d2)) s).bind fun d s3=>R.ok (some d) s3) it2.1 acc s2)=body at h1;refine ⟨fun i m ys H=>∃ Y s acc,xH (gm X) H1 Y1 H Y s/\zu (gm X) H Y acc ys/\acc.length<=cap/\m=items.length-i/\i<=items.length/\okR (gm X) E H Y Dn ((z3a gd items body (items.drop i) acc s).bind kR) Q2, ⟨items.length,Y1,s1,[],.refl stp.rep,zu.nil,Nat.zero_le _,by simp,Nat.zero_le _,by simpa using h1⟩,?_⟩;rintro i m ys H2 ⟨Y2,s2,acc,stp2,dn2,hcap,rfl,hil,h2⟩;have en2:wF (gm X) H2 Y2 ρ O:=(en.mono stp).mono stp2;by_cases hlt:i<items.length
 ·right;rw [List.drop_eq_getElem_cons hlt,z3a] at h2;split at h2
  ·rename_i hG;obtain ⟨go,yl⟩:=((ok H2 Y2 s2 stp2 hG i).1 items[i] (List.getElem?_eq_getElem hlt));refine ⟨go,fun x H' y=>?_⟩;obtain ⟨Y3,stp3,dn3⟩:=yl x H' y;have h3:=okR.rebase h2 stp3;rw [<- hb] at h3;simp only at h3;rw [hb,assoc,assoc] at h3;have en3:wF (gm X) H' Y3 ((zV mp ρ).set k1 (some items[i])) ((inner mp O).set k1 (some x)):=((en2.mono stp3).inner).set dn3 k1;refine ⟨Y3,(zV mp ρ).set k1 (some items[i]),s2,stp3.rep,en3,(okR.bind (Dn:=z9K (gm X)) h3).imp fun J2 H4 ⟨Y4,s4,it2,stp4,ok2,h4⟩=>?_⟩;obtain ⟨items2,gd2⟩:=it2;simp only at h4;generalize hb2:(fun (d2:D)(s:Sto)=>(fe (((zV mp ρ).set k1 (some items[i])).set k2 (some d2)) s).bind fun d s3=>R.ok (some d) s3)=body2 at h4;have zhQ:xH (gm X) H1 Y1 H4 Y4 s4:=(stp2.trans stp3).trans stp4;refine ⟨fun j m2 ys2 H=>∃ Y s acc2,xH (gm X) H4 Y4 H Y s/\zu (gm X) H Y acc2 ys2/\acc2.length<=cap/\m2=items2.length-j/\j<=items2.length/\okR (gm X) E H Y Dn ((we gd2 items2 body2 (items2.drop j) acc2 s).bind fun acc' s1=>(z3a gd items body (items.drop (i+1)) acc' s1).bind kR) Q2, ⟨items2.length,Y4,s4,acc,.refl stp4.rep,(dn2.mono stp3).mono stp4,hcap,by simp,Nat.zero_le _,by simpa using h4⟩,?_⟩;rintro j m2 ys2 H5 ⟨Y5,s5,acc2,stp5,dn5,hcap2,rfl,hjl,h5⟩;have en5:wF (gm X) H5 Y5 ((zV mp ρ).set k1 (some items[i])) ((inner mp O).set k1 (some x)):=(en3.mono stp4).mono stp5;by_cases hlt2:j<items2.length
   ·right;rw [List.drop_eq_getElem_cons hlt2,we] at h5;split at h5
    ·rename_i hG2;obtain ⟨go2,yl2⟩:=((ok2 H5 Y5 s5 stp5 hG2 j).1 items2[j] (List.getElem?_eq_getElem hlt2));refine ⟨go2,fun x2 H6 y2=>?_⟩;obtain ⟨Y6,stp6,dn6⟩:=yl2 x2 H6 y2;have h6:=okR.rebase h5 stp6;rw [<- hb2] at h6;simp only at h6;rw [hb2,assoc,assoc] at h6;have en6:=(en5.mono stp6).set dn6 k2;refine ⟨Y6,((zV mp ρ).set k1 (some items[i])).set k2 (some items2[j]),s5,stp6.rep,en6,(okR.bind (Dn:=Den (gm X)) h6).imp fun yv H7 ⟨Y7,s7,d7,stp7,dn7,h7⟩=>?_⟩;simp only [R.bind_ok] at h7;split at h7
     ·rename_i hcc;have all7:=(stp5.trans stp6).trans stp7;refine ⟨by rw [dn5.length];exact qM hcap2,items2.length-(j+1),by omega,Y7,s7,acc2++[d7],all7,((dn5.mono stp6).mono stp7).append (zu.one dn7),by simp;omega,rfl,hlt2,h7⟩
     ·exact h7.elim
    ·exact h5.elim
   ·left;have e:j=items2.length:=by omega
    subst e;rw [List.drop_length,we] at h5;split at h5
    ·rename_i hG2;simp only [R.bind_ok] at h5;exact ⟨(ok2 H5 Y5 s5 stp5 hG2 _).2 (Nat.le_refl _),items.length-(i+1),by omega,Y5,s5,acc2,zhQ.trans stp5,dn5,hcap2,rfl,hlt,h5⟩
    ·exact h5.elim
  ·exact h2.elim
 ·left;have e:i=items.length:=by omega
  subst e;rw [List.drop_length,z3a] at h2;split at h2
  ·rename_i hG;simp only [R.bind_ok] at h2;exact ⟨(ok H2 Y2 s2 stp2 hG _).2 (Nat.le_refl _),by rw [dn2.length];exact qM hcap,fin H2 Y2 s2 acc ys stp2.rep en2 dn2 h2 hcap⟩
  ·exact h2.elim
def jn(fi:FI)(mp:List (Option Nat))(k1 k2:Nat)(fi2:FI)(fe:FE):FE:=fun ρ s=>(z3N fi mp k1 k2 fi2 fe ρ s).bind fun xs s1=>.ok (.lst xs) s1
theorem zdh (N':List Str) (mp:List (Option Nat)) (k1 k2:Nat) (hc:X.calm=true) (hi:RI X E tg iter fi) (hg:∀ ex s H,PG (zh X N' scope ex s H) tg (qD k1)) (hg2:∀ ex s H,PG (zh X N' scope ex s H) tg2 (qD k2)) (hi2:∀ ex s H,RI (zh X N' scope ex s H) E tg2 iter2 fi2) (he:∀ ex s H,RE (zh X N' scope ex s H) E elt fe) (hm1:mp[k1]? = some none:=by rfl) (hm2:mp[k2]? = some none:=by rfl) (hk:k1≠k2:=by decide) (hs2:∀ env x,foldedSetIterable iter2 env x=pure x:=by intro _ _;rfl) (hkd:scope.kind=.function:=by rfl) (hnm:z74 scope.names=true:=by rfl) (hfr:z6Z X.env.kindOf scope.names=true:=by rfl) (hmp:z06 X.N scope.names N' mp=true:=by rfl) (hs:∀ x,foldedSetIterable iter X.env x=pure x:=by intro _;rfl):RE X E (.ListComp elt [⟨tg,iter,[],0⟩,⟨tg2,iter2,[],0⟩] scope pos) (jn fi mp k1 k2 fi2 fe):= zX (zan (te:=tE (gm X) E fe) (wi2:=tI (gm X) E fi2) N' mp hc hm1 hm2 hk hi hg hg2 (fun ex s H=>hi2 ex s H) (fun ex s H=>he ex s H) hs2 hkd (jT hnm) (jp hfr) hmp hs).freeze fun O H Q ⟨Y,ρ,s,r,en,h⟩=> z46 r en h fun H1 Y1 s1 xs vs r1 en1 dn h1 hcap=>qG r1 h1 dn
theorem zd7 (i:Nat) {y:Str} (N':List Str) (mp:List (Option Nat)) (k1 k2:Nat) (hN:X.N.Nodup) (hc:X.calm=true) (hi:RI X E tg iter fi) (hg:∀ ex s H,PG (zh X N' scope ex s H) tg (qD k1)) (hg2:∀ ex s H,PG (zh X N' scope ex s H) tg2 (qD k2)) (hi2:∀ ex s H,RI (zh X N' scope ex s H) E tg2 iter2 fi2) (he:∀ ex s H,RE (zh X N' scope ex s H) E elt fe) (hm1:mp[k1]? = some none:=by rfl) (hm2:mp[k2]? = some none:=by rfl) (hk:k1≠k2:=by decide) (hs2:∀ env x,foldedSetIterable iter2 env x=pure x:=by intro _ _;rfl) (hkd:scope.kind=.function:=by rfl) (hnm:z74 scope.names=true:=by rfl) (hfr:z6Z X.env.kindOf scope.names=true:=by rfl) (hmp:z06 X.N scope.names N' mp=true:=by rfl) (hy:X.N[i]? = some y:=by rfl) (hyl:Loc X.env.scope y:=by first | exact Or.inl rfl | exact Or.inr rfl) (hs:∀ x,foldedSetIterable iter X.env x=pure x:=by intro _;rfl) (hsw:swapsWith (.ListComp elt [⟨tg,iter,[],0⟩,⟨tg2,iter2,[],0⟩] scope pos) (some (.Name y py)) spos.line X.env=pure true:=by rfl) (hf:X.fn y=true\/X.env.scope.names.lookup y=some .local:=by first | exact .inl rfl | exact .inr rfl | assumption): RS X E (.Assign [.Name y py] (.ListComp elt [⟨tg,iter,[],0⟩,⟨tg2,iter2,[],0⟩] scope pos) spos) (vb i (jn fi mp k1 k2 fi2 fe)):= uA (z56 (te:=tE (gm X) E fe) (wi2:=tI (gm X) E fi2) N' mp hN hy hyl hc hm1 hm2 hk hi hg hg2 (fun ex s H=>hi2 ex s H) (fun ex s H=>he ex s H) hs2 hkd (jT hnm) (jp hfr) hmp hs hsw hf) fun D O H ⟨Y,ρ,s,r,en,h⟩=>by
  have assoc:∀ {α γ δ:Type} (x:R α) (f:α->Sto->R γ) (k:γ->Sto->R δ),(x.bind f).bind k=x.bind fun a s=>(f a s).bind k:=fun x f k=>by cases x<;>rfl
  unfold vb jn at h;rw [assoc] at h;refine z46 r en h fun H1 Y1 s1 xs vs r1 en1 dn h1 hcap p hp=>?_;refine qG (E:=E) (mg:=gm X) (xs:=xs) r1 (fun v H2 Y2 stp dn2=>?_) dn p hp;exact h1 (.nx (O.set i (some v))) H2 Y2 stp ((en1.mono stp).set dn2 i)
end
@[simp] theorem zfE (fi:FI)(mp:List (Option Nat))(k1 k2:Nat)(fi2:FI)(fe:FE)(ρ:Ev)(s:Sto):jn fi mp k1 k2 fi2 fe ρ s=(z3N fi mp k1 k2 fi2 fe ρ s).bind fun xs s1=>.ok (.lst xs) s1:=id rfl
end Dd
namespace L2
open PySem.Spec
def zac:V->List V->Hp->VK->Prop:=fun x vs H Q=>∃ l b xs zs,x=.ref l/\vs=[.ref b]/\H l=some (.lst xs)/\Rd H b (.lst zs)/\xs.length+zs.length<=sizeLine/\Q .non (upd H l (.lst (xs++zs)))
theorem z78{X:Cx}:MtM X "list.extend" zac:=by
 intro pins s O H x vs v us Q I rx rv h;obtain ⟨l,b,xs,zs,rfl,rfl,hH,hB,hz,q⟩:=h;cases rx;obtain ⟨u,rfl,ru⟩:=rv.one;cases ru;obtain ⟨z,its,n,r,hl,e⟩:=I.lstM hH;obtain ⟨z2,its2,n2,r2,e2⟩:=hB.ok I.hok;have l1:=r.length;have l2:=r2.length;refine call_meets F.slot_list_extend ⟨_,e,rfl⟩ F.entry_list_extend (F.args_list_extend_2 _ _) (AutoSeq1.list_extend_list_list_0 l its.toArray n b its2.toArray n2 ?_ (by rw [List.size_toArray];omega) (by rw [List.size_toArray,List.size_toArray];omega)) ⟨e,e2,?_⟩
 ·intro q';simp only [Bool.and_eq_true] at q';have:=q'.2;simp only [Builtin.List.listTooLong,List.size_toArray,decide_eq_true_eq] at this;omega
 ·refine ⟨.non,_,I.lset (its':=its++its2) hH e (by simp) (r.append r2) ?_,rfl,q⟩;rw [List.length_append];omega
end L2
namespace Dd
open PySem.Spec L2
section
variable {X:Cx}{E:XK}{e:Expr}{pos:Pos}
def zfS(fo fv:FE):FE:=fun ρ s=>(fo ρ s).bind fun o s1=>match o with
 | .loc l=>(fv ρ s1).bind fun d s2=>match d with
  | .lst ys=>match s2[l]? with
   | some xs=>if D.flat.flats ys=true/\xs.length+ys.length<=cap then .ok .non (s2.set l (xs++ys)) else .no | none=>.no
  | _=>.no
 | _=>.no
theorem z9H {o:Expr} {apos:Pos} {fo fv:FE} (ho:RE X E o fo) (hv:RE X E e fv) (hbase:attributeBase o "extend" X.env (eval o X.env)=eval o X.env:=by rfl) (hfew:((backTo pos (starEach [e] X.env)).all (fun x=>!x.1)&&(backToKw pos (keywordEach [] X.env)).all (fun x=>x.1.isSome) && decide ([e].length+([]:List Keyword).length+(if ([]:List Keyword).isEmpty then 0 else 1)<30))=true:=by rfl) (hline:(apos.endLine==pos.line)=true:=by rfl) (hs:starEach [e] X.env=(false,eval e X.env)::starEach [] X.env:=by rfl) (hplain:(backTo pos (starEach [] X.env)).any (·.1)=false:=by rfl): RE X E (.Call (.Attribute o "extend" apos) [e] [] pos) (zfS fo fv):= zX (ze9 PySem.F.plainAttrs_list PySem.F.slot_list_extend PySem.F.type_list_extend z78 ho (jZ hv z3x hs) hbase hfew hline hs hplain) fun O H Q ⟨Y,ρ,s,r,en,h⟩=>by
  unfold zfS at h;refine ⟨Y,ρ,s,r,en,(okR.bind (Dn:=Den (gm X)) h).imp fun ov H1 ⟨Y1,s1,od,stp,dn,h1⟩=>?_⟩;cases od with
  | loc l=>
   simp only at h1;have hty:tyV X.K "list" ov H1:=by
    simp only [Den] at dn;obtain ⟨a,rfl,e1,vs,e2⟩:=dn;exact .inl ⟨rfl,vs,.inl (.inl e2)⟩
   refine ⟨hty,⟨Y1,ρ,s1,stp.rep,en.mono stp,(okR.bind (Dn:=Den (gm X)) h1).imp fun v H2 ⟨Y2,s2,d,stp2,dn2,h2⟩=>?_⟩⟩;cases d with
   | lst ys=>
    simp only at h2;split at h2
    ·rename_i xs ex;split at h2
     ·rename_i hf;have dov:=dn.mono stp2;simp only [Den] at dov dn2;obtain ⟨a,rfl,e1,ka⟩:=dov;obtain ⟨b,o',ws,rfl,eb,dw⟩:=dn2;obtain ⟨vs,q1,q2⟩:=stp2.rep.at_ ex e1 ka;have stp3:=xH.put (l:=l) (xs:=xs++ys) stp2.rep e1 ka (q2.append dw) (qq (stp2.rep.flat xs (List.mem_of_getElem? ex)) hf.1);refine ⟨a,b,vs,ws,rfl,rfl,q1,.inr ⟨o',eb⟩,by rw [q2.length,dw.length];exact qM hf.2,h2 .non _ _ stp3 (by simp [Den])⟩
     ·exact h2.elim
    ·exact h2.elim | _=>exact h2.elim
  | _=>exact h1.elim
@[simp] theorem zeT (fo fv:FE)(ρ:Ev)(s:Sto):zfS fo fv ρ s=(fo ρ s).bind fun o s1=>match o with
 | .loc l=>(fv ρ s1).bind fun d s2=>match d with
  | .lst ys=>match s2[l]? with
   | some xs=>if D.flat.flats ys=true/\xs.length+ys.length<=cap then .ok .non (s2.set l (xs++ys)) else .no | none=>.no
  | _=>.no
 | _=>.no:=id rfl
end
end Dd
namespace L2
open PySem.Spec
def n3(a b c:Int):Nat:=if a<b then ((b-a-1) / c+1).toNat else 0
def z3Q(a c:Int)(n:Nat):List V:=(List.range n).map fun k=>V.int (a+((k:Nat):Int)*c)
theorem zev{a b c:Int}(ha:0<=a)(hb:b<=1000)(hc:1<=c):Builtin.Range.rangeSize a b c=((n3 a b c:Nat):Int)/\n3 a b c<=1000:=by
 unfold Builtin.Range.rangeSize n3;rw [if_pos (by omega:c > 0)];by_cases h:a<b
 ·rw [if_pos h,if_pos h];have h0:0<=(b-a-1) / c:=Int.ediv_nonneg (by omega) (by omega);have h1:(b-a-1) / c<=b-a-1:=Int.ediv_le_self _ (by omega);omega
 ·rw [if_neg h,if_neg h];exact ⟨rfl,by omega⟩
theorem zea{a b c:Int}(ha:0<=a)(ha':a<=1000)(hb:0<=b)(hb':b<=1000)(hc:1<=c)(hc':c<=1000):Builtin.Range.small a b c=true:=by
 obtain ⟨h1,h2⟩:=zev (a:=a) ha hb' hc;unfold Builtin.Range.small;rw [h1];simp only [Builtin.Range.rangeFitsLong,Bool.and_eq_true,Bool.or_eq_true,decide_eq_true_eq,beq_iff_eq];have hm:((n3 a b c:Nat):Int)*c<=1000*1000:=Int.mul_le_mul (by omega) hc' (by omega) (by omega);have hm0:0<=((n3 a b c:Nat):Int)*c:=Int.mul_nonneg (by omega) (by omega);generalize n3 a b c=n at *;refine ⟨by omega,.inr ?_⟩;rw [if_pos (by omega)];simp only [Bool.and_eq_true,decide_eq_true_eq];omega
theorem z2V {X:Cx} {a b c:Expr} {ta:TA} {p p2 pos pos2:Pos} (hc:X.calm=true) (hg:Gl X "list") (hm:X.mg "list"=none) (hg2:Gl X "range") (hm2:X.mg "range"=none) (ha:PA X [a,b,c] ta) (hs2:starEach [a,b,c] X.env=[(false,eval a X.env),(false,eval b X.env),(false,eval c X.env)]:=by rfl) (hs3:starEach [b,c] X.env=[(false,eval b X.env),(false,eval c X.env)]:=by rfl) (hs:starEach [.Call (.Name "range" p2) [a,b,c] [] pos2] X.env=(false,eval (.Call (.Name "range" p2) [a,b,c] [] pos2) X.env)::starEach [] X.env:=by rfl) (hpl:(backTo pos (starEach [] X.env)).any (·.1)=false:=by rfl): PE X (.Call (.Name "list" p) [.Call (.Name "range" p2) [a,b,c] [] pos2] [] pos) (fun O H Q=>ta O H fun vs H1=>∃ i j k:Int,vs=[.int i,.int j,.int k]/\(0<=i/\i<=1000/\0<=j/\j<=1000/\1<=k/\k<=1000)/\∀ l,H1 l=none->Q (.ref l) (upd H1 l (.lst (z3Q i k (n3 i j k))))):=by
 intro pins s O H Q I h;refine wpAny_Call_Name_kw (qm I hg hm (u:=.type "list") (by decide +kernel) ?_ (by decide) (by decide));refine PyProof.Rows.callWith_type1 ?_ hs hpl;rw [hs];show wpAny _ _ (spliced ((false,eval (.Call (.Name "range" p2) [a,b,c] [] pos2) X.env)::backTo pos (starEach [] X.env))) _ _ s;refine Calls.spliced_cons (wpAny_Call_Name_kw (qm I hg2 hm2 boot_range (PyProof.Rows.callWith_type1 (thn (ha pos2 pins s O H _ I h) fun us s1 ⟨vs,H1,I1,r1,q1⟩=>?_) (by rw [hs2,hs3]) (by rw [hs3];rfl)) (by decide) (by decide)));obtain ⟨i,j,k,e,⟨b1,b2,b3,b4,b5,b6⟩,q⟩:=q1;subst e;cases r1 with | cons r r1=>cases r1 with | cons r' r1=>cases r1 with | cons r'' r1=>
    cases r1;obtain ⟨t,rfl⟩:=r;obtain ⟨t',rfl⟩:=r';obtain ⟨t'',rfl⟩:=r'';have pl:Builtin.divisionGoesByPylong (j-i) k=false:=PyProof.noPylong_of_log2 (by
     have:k.natAbs<=1000:=by omega
     have h2:k.natAbs.log2<=1000:=Nat.le_trans (Nat.log2_le_self _) this;omega);refine call_range_3 (by omega) (Calls.spliced_nil ?_) (.inl pl);obtain ⟨hsz,hn⟩:=zev (a:=i) (b:=j) (c:=k) b1 b4 b5;refine call_list_range (I.ok.hd hc) (IsRange.new ..) (zea b1 b2 b3 b4 b5 b6) hsz (by omega) fun h' tk acc c' hk hS hacc=>?_;have I2:Inv X pins O H1 {s1 with heap:=s1.heap.push {cls:=.type "range",data:=.fields #[.int i t,.int j t',.int k t'']},toks:=s1.toks}:=I1.kept (t':=s1.toks) fun b o e=>Heap.get?_push_of_some _ e;have hl:(z3Q i k (n3 i j k)).length=n3 i j k:=by simp [z3Q]
    have hv:yG (z3Q i k (n3 i j k)) acc.toList:=qV (by simp [hacc.1,hl]) fun x v hv=>by
     obtain ⟨tk2,rfl⟩:=hacc.2 x v (by simpa using hv);have hi:x<n3 i j k:=by
      have:=(List.getElem?_eq_some_iff.mp hv).1;simp [hacc.1] at this;omega
     exact ⟨.int (i+((x:Nat):Int)*k),by simp [z3Q,hi],⟨tk2,rfl⟩⟩
    refine ⟨.ref _,upd H1 _ (.lst (z3Q i k (n3 i j k))),I2.laid (t':=tk) hk (Nat.le_refl _) ?_,rfl,q _ (I2.hok.fresh (Nat.le_refl _))⟩;exact ⟨by rw [hl];exact Nat.le_trans hn (by decide),acc.toList,c',hv,by simpa using hS⟩
end L2
namespace Dd
open PySem.Spec L2
section
variable {X:Cx}{E:XK}{a b c:Expr}{pos:Pos}
def z86(a c:Int)(n:Nat):List D:=(List.range n).map fun k=>D.int (a+((k:Nat):Int)*c)
theorem z8l{mg:Gm}{H:Hp}{Y:List Addr}(a c:Int)(n:Nat):zu mg H Y (z86 a c n) (z3Q a c n):=by
 unfold z86 z3Q;induction (List.range n) with
 | nil=>exact zu.nil | cons k ks ih=>exact zu.cons yk ih
def zfK(f:FA):FE:=fun ρ s=>(f ρ s).bind fun ds s1=>match ds with
 | [.int i,.int j,.int k]=>if 0<=i/\i<=1000/\0<=j/\j<=1000/\1<=k/\k<=1000 then .ok (.lst (z86 i k (n3 i j k))) s1 else .no | _=>.no
theorem z47{p p2 pos2:Pos}{f:FA}(hc:X.calm=true)(hg:Gl X "list")(hm:X.mg "list"=none)(hg2:Gl X "range")(hm2:X.mg "range"=none)(ha:RA X E [a,b,c] f) (hs2:starEach [a,b,c] X.env=[(false,eval a X.env),(false,eval b X.env),(false,eval c X.env)]:=by rfl)(hs3:starEach [b,c] X.env=[(false,eval b X.env),(false,eval c X.env)]:=by rfl) (hs:starEach [.Call (.Name "range" p2) [a,b,c] [] pos2] X.env=(false,eval (.Call (.Name "range" p2) [a,b,c] [] pos2) X.env)::starEach [] X.env:=by rfl)(hpl:(backTo pos (starEach [] X.env)).any (·.1)=false:=by rfl): RE X E (.Call (.Name "list" p) [.Call (.Name "range" p2) [a,b,c] [] pos2] [] pos) (zfK f):= zX (z2V hc hg hm hg2 hm2 ha hs2 hs3 hs hpl).freeze fun O H Q ⟨Y,ρ,s,r,en,h⟩=>by
  unfold zfK at h;refine ⟨Y,ρ,s,r,en,(okR.bind (Dn:=zu (gm X)) h).imp fun vs H1 ⟨Y1,s1,ds,stp,dn,h1⟩=>?_⟩;split at h1
  ·rename_i i j k;split at h1
   ·rename_i hb;simp only [zu] at dn;obtain ⟨v1,r1,rfl,d1,v2,r2,rfl,d2,v3,r3,rfl,d3,rfl⟩:=dn;cases zW d1;cases zW d2;cases zW d3;exact ⟨i,j,k,rfl,hb,qG stp.rep h1 (z8l _ _ _)⟩
   ·exact h1.elim
  ·exact h1.elim
@[simp] theorem ze7 (f:FA)(ρ:Ev)(s:Sto):zfK f ρ s=(f ρ s).bind fun ds s1=>match ds with
 | [.int i,.int j,.int k]=>if 0<=i/\i<=1000/\0<=j/\j<=1000/\1<=k/\k<=1000 then .ok (.lst (z86 i k (n3 i j k))) s1 else .no | _=>.no:=id rfl
end
open PySem.W
theorem uv{α β:Type}{n:Nat}{lt:Nat->Nat->Bool}(f:α->KasT β):∀ t:KasT α,kev n lt (t.bind f)=(kev n lt t).bind fun a=>kev n lt (f a)
 | .ret a=>rfl | .ask i j k=>by
  show (if i<n/\j<n then kev n lt ((k (lt i j)).bind f) else none)=(if i<n/\j<n then kev n lt (k (lt i j)) else none).bind _;split;·exact uv f _
  ·rfl
section
variable {N:Nat}{lt:Nat->Nat->Bool}(tot:∀ i j,i<N->j<N->i≠j->lt j i=!lt i j)(tr:∀ i j k,lt i j=true->lt j k=true->lt i k=true)
abbrev at0(p:Array Nat)(i:Nat):Nat:=p.getD i 0
structure PmN(N:Nat)(p:Array Nat):Prop where pm:p.toList.Perm (List.range N)
theorem PmN.size{p:Array Nat}(h:PmN N p):p.size=N:=by have:=h.pm.length_eq;simpa using this
theorem PmN.bd{p:Array Nat}(h:PmN N p){i:Nat}(hi:i<N):at0 p i<N:=by
 have hs:=h.size;have:at0 p i∈p.toList:=by
  rw [at0,Array.getD,dif_pos (by omega)];exact Array.getElem_mem_toList _
 exact List.mem_range.mp (h.pm.mem_iff.mp this)
theorem PmN.ne {p:Array Nat} (h:PmN N p) {i j:Nat} (hi:i<N) (hj:j<N) (hij:i≠j):at0 p i≠at0 p j:=fun z=>by
 have hs:=h.size;have nd:p.toList.Nodup:=h.pm.nodup_iff.mpr List.nodup_range;rw [at0,at0,Array.getD,Array.getD,dif_pos (by omega),dif_pos (by omega)] at z;have:=(List.getElem_inj (i:=i) (j:=j) (h₀:=by simpa using (by omega:i<p.size)) (h₁:=by simpa using (by omega:j<p.size)) nd).mp (by simpa using z);exact hij this
theorem PmN.of{p q:Array Nat}(h:PmN N p)(e:q.Perm p):PmN N q:=⟨(Array.perm_iff_toList_perm.mp e).trans h.pm⟩
def Asc(lt:Nat->Nat->Bool)(p:Array Nat)(k:Nat):Prop:=∀ i j,i<j->j<k->lt (at0 p i) (at0 p j)=true
def Des(lt:Nat->Nat->Bool)(p:Array Nat)(k:Nat):Prop:=∀ i j,i<j->j<k->lt (at0 p j) (at0 p i)=true
include tr
theorem Asc.more{p:Array Nat}{k:Nat}(h:Asc lt p k)(h1:1<=k)(e:lt (at0 p (k-1)) (at0 p k)=true):Asc lt p (k+1):=fun i j hij hj=>by
 by_cases q:j=k
 ·subst q;by_cases q2:i=j-1;·subst q2;exact e
  ·exact tr _ _ _ (h i (j-1) (by omega) (by omega)) e
 ·exact h i j hij (by omega)
theorem Des.more{p:Array Nat}{k:Nat}(h:Des lt p k)(h1:1<=k)(e:lt (at0 p k) (at0 p (k-1))=true):Des lt p (k+1):=fun i j hij hj=>by
 by_cases q:j=k
 ·subst q;by_cases q2:i=j-1;·subst q2;exact e
  ·exact tr _ _ _ e (h i (j-1) (by omega) (by omega))
 ·exact h i j hij (by omega)
include tot
theorem z2v{p:Array Nat}(P:PmN N p):∀ (f n0:Nat),1<=n0->n0+f<=N->Asc lt p n0->∃ m,kev N lt (kas_asc p f n0)=some m/\n0<=m/\m<=n0+f/\Asc lt p m/\(m<n0+f->lt (at0 p m) (at0 p (m-1))=true)
 | 0,n0,h1,hN,ha=>⟨n0,rfl,Nat.le_refl _,Nat.le_refl _,ha,fun z=>absurd z (by omega)⟩ | f+1,n0,h1,hN,ha=>by
  have b1:=P.bd (i:=n0) (by omega);have b2:=P.bd (i:=n0-1) (by omega);by_cases c:lt (at0 p n0) (at0 p (n0-1))=true
  ·refine ⟨n0,?_,Nat.le_refl _,by omega,ha,fun _=>c⟩;show (if at0 p n0<N/\at0 p (n0-1)<N then kev N lt (if lt (at0 p n0) (at0 p (n0-1))=true then KasT.ret n0 else kas_asc p f (n0+1)) else none)=_;rw [if_pos ⟨b1,b2⟩,if_pos c];rfl
  ·have e:lt (at0 p (n0-1)) (at0 p n0)=true:=by
    rw [tot _ _ b1 b2 (P.ne (by omega) (by omega) (by omega))];simpa using c
   obtain ⟨m,e1,e2,e3,e4,e5⟩:=z2v P f (n0+1) (by omega) (by omega) (ha.more tr h1 e);refine ⟨m,?_,by omega,by omega,e4,fun z=>e5 (by omega)⟩;show (if at0 p n0<N/\at0 p (n0-1)<N then kev N lt (if lt (at0 p n0) (at0 p (n0-1))=true then KasT.ret n0 else kas_asc p f (n0+1)) else none)=_;rw [if_pos ⟨b1,b2⟩,if_neg c];exact e1
theorem z67{p:Array Nat}(P:PmN N p):∀ (f n0:Nat),1<=n0->n0+f<=N->Des lt p n0->∃ m,kev N lt (kas_desc f p n0 0)=some (p,m,0)/\n0<=m/\m<=n0+f/\Des lt p m
 | 0,n0,h1,hN,ha=>⟨n0,rfl,Nat.le_refl _,Nat.le_refl _,ha⟩ | f+1,n0,h1,hN,ha=>by
  have b1:=P.bd (i:=n0) (by omega);have b2:=P.bd (i:=n0-1) (by omega);by_cases c:lt (at0 p n0) (at0 p (n0-1))=true
  ·obtain ⟨m,e1,e2,e3,e4⟩:=z67 P f (n0+1) (by omega) (by omega) (ha.more tr h1 c);refine ⟨m,?_,by omega,by omega,e4⟩;show (if at0 p n0<N/\at0 p (n0-1)<N then kev N lt (if lt (at0 p n0) (at0 p (n0-1))=true then (if 0 > 0 then kas_desc f (kas_rev p (n0-(0+1)) n0) (n0+1) 0 else kas_desc f p (n0+1) 0) else _) else none)=_;rw [if_pos ⟨b1,b2⟩,if_pos c,if_neg (by omega)];exact e1
  ·have e:lt (at0 p (n0-1)) (at0 p n0)=true:=by
    rw [tot _ _ b1 b2 (P.ne (by omega) (by omega) (by omega))];simpa using c
   refine ⟨n0,?_,Nat.le_refl _,by omega,ha⟩;show (if at0 p n0<N/\at0 p (n0-1)<N then kev N lt (if lt (at0 p n0) (at0 p (n0-1))=true then _ else KasT.ask (at0 p (n0-1)) (at0 p n0) fun d=>if d=true then .ret (p,n0,0) else kas_desc f p (n0+1) (0+1)) else none)=_;rw [if_pos ⟨b1,b2⟩,if_neg c];show (if at0 p (n0-1)<N/\at0 p n0<N then kev N lt (if lt (at0 p (n0-1)) (at0 p n0)=true then .ret (p,n0,0) else kas_desc f p (n0+1) (0+1)) else none)=_;rw [if_pos ⟨b2,b1⟩,if_pos e];rfl
omit tot tr in
theorem zb5 {p:Array Nat} {m i:Nat} (hm:m<=p.size) (hi:i<m):at0 (kas_rev p 0 m) i=at0 p (m-1-i):=by
 have e:=getElem?_mirror_all (xs:=p) (i:=0) (j:=m) hm i;rw [if_pos ⟨Nat.zero_le _,hi⟩] at e;simp only [at0,Array.getD_eq_getD_getElem?,kas_rev];rw [e];simp
theorem z8q{p:Array Nat}(P:PmN N p)(hN:1<=N):∃ m p',kev N lt (kas_count N p)=some (m,p')/\PmN N p'/\Asc lt p' m/\1<=m/\m<=N:=by
 obtain ⟨m,e1,e2,e3,e4,e5⟩:=z2v tot tr P (N-1) 1 (Nat.le_refl _) (by omega) (fun i j h1 h2=>by omega);unfold kas_count;rw [uv,e1];simp only [Option.bind_some];by_cases q:m=N
 ·rw [if_pos (by simpa using q)];exact ⟨m,p,rfl,P,e4,e2,by omega⟩
 ·rw [if_neg (by simpa using q)];by_cases q1:m > 1
  ·rw [if_pos q1];have b1:=P.bd (i:=0) (by omega);have b2:=P.bd (i:=m-1) (by omega);have c:=e4 0 (m-1) (by omega) (by omega);refine ⟨m,p,?_,P,e4,e2,by omega⟩;show (if at0 p 0<N/\at0 p (m-1)<N then kev N lt (if lt (at0 p 0) (at0 p (m-1))=true then KasT.ret (m,p) else _) else none)=_;rw [if_pos ⟨b1,b2⟩,if_pos c];rfl
  ·rw [if_neg q1];have m1:m=1:=by omega
   subst m1;have c:=e5 (by omega);obtain ⟨k,f1,f2,f3,f4⟩:=z67 tot tr P (N-(1+1)) (1+1) (by omega) (by omega) (fun i j h1 h2=>by
    have:i=0:=by omega
    have:j=1:=by omega
    subst i;subst j;exact c);unfold kas_descPart;rw [uv,f1];simp only [Option.bind_some];rw [if_neg (by omega)];unfold kas_tail3;have P2:PmN N (kas_rev p 0 k):=P.of (mirror_perm _ _ _ _);have sz:=P.size;have as2:Asc lt (kas_rev p 0 k) k:=fun i j h1 h2=>by
    rw [zb5 (by omega) (by omega),zb5 (by omega) (by omega)];exact f4 _ _ (by omega) (by omega)
   obtain ⟨m2,g1,g2,g3,g4,_⟩:=z2v tot tr P2 (N-k) k (by omega) (by omega) as2;rw [uv,g1];exact ⟨m2,kas_rev p 0 k,rfl,P2,g4,by omega,by omega⟩
theorem z10{p:Array Nat}(P:PmN N p){k:Nat}(hk:k<N)(ha:Asc lt p k):∀ (f l r:Nat),l<=r->r<=k->r-l<=f->(∀ i,i<l->lt (at0 p i) (at0 p k)=true)->(∀ i,r<=i->i<k->lt (at0 p k) (at0 p i)=true)-> ∃ m,kev N lt (kas_place p k f l r)=some m/\m<=k/\(∀ i,i<m->lt (at0 p i) (at0 p k)=true)/\∀ i,m<=i->i<k->lt (at0 p k) (at0 p i)=true
 | 0,l,r,h1,h2,h3,hl,hr=>⟨l,rfl,by omega,hl,fun i z1 z2=>hr i (by omega) z2⟩ | f+1,l,r,h1,h2,h3,hl,hr=>by
  by_cases q:l ≥ r
  ·refine ⟨l,?_,by omega,hl,fun i z1 z2=>hr i (by omega) z2⟩;rw [kas_place,if_pos q];rfl
  ·have b1:=P.bd (i:=k) hk;have b2:=P.bd (i:=(l+r) / 2) (by omega);by_cases c:lt (at0 p k) (at0 p ((l+r) / 2))=true
   ·obtain ⟨m,e1,e2,e3,e4⟩:=z10 P hk ha f l ((l+r) / 2) (by omega) (by omega) (by omega) hl (fun i z1 z2=>by
     by_cases z:i=(l+r) / 2;·subst z;exact c
     ·exact tr _ _ _ c (ha _ _ (by omega) z2));refine ⟨m,?_,e2,e3,e4⟩;rw [kas_place,if_neg q];show (if at0 p k<N/\at0 p ((l+r) / 2)<N then kev N lt (if lt (at0 p k) (at0 p ((l+r) / 2))=true then kas_place p k f l ((l+r) / 2) else _) else none)=_;rw [if_pos ⟨b1,b2⟩,if_pos c];exact e1
   ·have e:lt (at0 p ((l+r) / 2)) (at0 p k)=true:=by
     rw [tot _ _ b1 b2 (P.ne hk (by omega) (by omega))];simpa using c
    obtain ⟨m,e1,e2,e3,e4⟩:=z10 P hk ha f ((l+r) / 2+1) r (by omega) h2 (by omega) (fun i z1=>by
     by_cases z:i=(l+r) / 2;·subst z;exact e
     ·exact tr _ _ _ (ha _ _ (by omega) (by omega)) e) hr;refine ⟨m,?_,e2,e3,e4⟩;rw [kas_place,if_neg q];show (if at0 p k<N/\at0 p ((l+r) / 2)<N then kev N lt (if lt (at0 p k) (at0 p ((l+r) / 2))=true then _ else kas_place p k f ((l+r) / 2+1) r) else none)=_;rw [if_pos ⟨b1,b2⟩,if_neg c];exact e1
omit tot tr in
theorem zbi {p:Array Nat} {k l i:Nat} (hk:k<p.size) (hl:l<=k) (hi:i<=k):at0 (bubble p k (k-l)) i=if i=l then at0 p k else if l<i then at0 p (i-1) else at0 p i:=by
 have e:=getElem?_bubble (xs:=p) (src:=k) hk (k-l) (by omega) i;simp only [at0,Array.getD_eq_getD_getElem?];rw [e];by_cases q:i=l;·rw [if_pos (by omega),if_pos q]
 ·rw [if_neg (by omega),if_neg q];by_cases q2:l<i;·rw [if_pos (by omega),if_pos q2]
  ·rw [if_neg (by omega),if_neg q2]
theorem z9z:∀ (f k:Nat)(p:Array Nat),PmN N p->k+f=N->Asc lt p k->∃ p',kev N lt (kas_bin f p k)=some p'/\PmN N p'/\Asc lt p' N
 | 0,k,p,P,hk,ha=>⟨p,rfl,P,by rw [<- hk];exact ha⟩ | f+1,k,p,P,hk,ha=>by
  obtain ⟨l,e1,e2,e3,e4⟩:=z10 tot tr P (k:=k) (by omega) ha k 0 k (Nat.zero_le _) (Nat.le_refl _) (by omega) (fun i z=>absurd z (by omega)) (fun i z1 z2=>absurd z1 (by omega));have sz:=P.size;have P2:PmN N (bubble p k (k-l)):=P.of (bubble_perm _ _ _);have as2:Asc lt (bubble p k (k-l)) (k+1):=fun i j h1 h2=>by
   rw [zbi (by omega) e2 (by omega),zbi (by omega) e2 (by omega)];by_cases qi:i=l
   ·rw [if_pos qi,if_neg (by omega),if_pos (by omega)];exact e4 (j-1) (by omega) (by omega)
   ·rw [if_neg qi];by_cases qj:j=l
    ·rw [if_pos qj,if_neg (by omega)];exact e3 i (by omega)
    ·rw [if_neg qj];by_cases q1:l<i
     ·rw [if_pos q1,if_pos (by omega)];exact ha _ _ (by omega) (by omega)
     ·rw [if_neg q1];by_cases q2:l<j
      ·rw [if_pos q2];by_cases q3:j-1=i;·omega
       ·exact ha _ _ (by omega) (by omega)
      ·rw [if_neg q2];exact ha _ _ h1 (by omega)
  obtain ⟨p',g1,g2,g3⟩:=z9z f (k+1) _ P2 (by omega) as2;refine ⟨p',?_,g2,g3⟩;rw [kas_bin,uv,e1];exact g1
theorem za9(hN:1<=N):∃ p,kev N lt (kas_sort N)=some p/\p.toList.Perm (List.range N)/\p.toList.Pairwise fun i j=>lt i j=true:=by
 have P:PmN N (List.toArray (List.range N)):=⟨by simp⟩;obtain ⟨m,p,e1,e2,e3,e4,e5⟩:=z8q tot tr P hN;have fin:∀ p:Array Nat,PmN N p->Asc lt p N->p.toList.Pairwise fun i j=>lt i j=true:=fun p P ha=>by
  rw [List.pairwise_iff_getElem];intro i j hi hj hij;have sz:=P.size;have hj':j<p.size:=by simpa using hj
  have:=ha i j hij (by omega);rw [at0,at0,Array.getD,Array.getD,dif_pos (by omega),dif_pos hj'] at this;simpa using this
 unfold kas_sort;rw [uv,e1];simp only [Option.bind_some];by_cases q:m<N
 ·rw [if_pos q];have hm:max m 1=m:=by omega
  rw [hm];obtain ⟨p',g1,g2,g3⟩:=z9z tot tr (N-m) m p e2 (by omega) e3;exact ⟨p',g1,g2.pm,fin p' g2 g3⟩
 ·rw [if_neg q];have:m=N:=by omega
  subst this;exact ⟨p,rfl,e2.pm,fin p e2 e3⟩
end
def z8Q(fin:Bool):List Int->List Int->Bool
 | x::a,y::b=>if x=y then z8Q fin a b else decide (x<y) | _,_=>fin
theorem zb6:∀ ns ms:List Int,z8Q (decide (ns.length<ms.length)) ns ms=lexN ns ms
 | [],[]=>by simp [z8Q,lexN] | [],_::_=>by simp [z8Q,lexN] | _::_,[]=>by simp [z8Q,lexN] | x::a,y::b=>by
  have:=zb6 a b;simp only [z8Q,lexN,List.length_cons,Nat.add_lt_add_iff_right,this]
def TupAt(h:Heap)(v:Value)(ns:List Int):Prop:=∃ a o n us,v=.ref a/\h.get? a=some o/\o.cls=.type "tuple"/\o.data=.seq us n/\xD us.toList ns/\ns≠[]
inductive xK (h:Heap):List Value->List (List Int)->Prop | nil:xK h [] [] | cons {v p vs ps}:TupAt h v p->xK h vs ps->xK h (v::vs) (p::ps)
theorem xK.length{h:Heap}:∀ {vs ps},xK h vs ps->vs.length=ps.length
 | _,_,.nil=>rfl | _,_,.cons _ r=>by simp [r.length]
theorem xK.at_{h:Heap}:∀ {vs ps},xK h vs ps->∀ i,i<ps.length->TupAt h (vs.getD i .none) (ps.getD i [])
 | _,_,.nil,i,hi=>by simp at hi | _,_,.cons p r,0,_=>by simpa using p | _,_,.cons p r,i+1,hi=>by simpa using r.at_ i (by simpa using hi)
theorem xK.mono{h h':Heap}(k:∀ b o,h.get? b=some o->h'.get? b=some o):∀ {vs ps},xK h vs ps->xK h' vs ps
 | _,_,.nil=>.nil | _,_,.cons ⟨a,o,n,us,e,g,c,d,i,z⟩ r=>.cons ⟨a,o,n,us,e,k _ _ g,c,d,i,z⟩ (r.mono k)
theorem xK.tups{h:Heap}:∀ {vs ps},xK h vs ps->∃ fs,KatTups h vs fs/\fs.length=ps.length/\∀ v∈fs,∃ i t,v=.int i t
 | _,_,.nil=>⟨[],KatTups.nil,rfl,fun v hv=>by cases hv⟩ | _,_,.cons (p:=p) ⟨a,o,n,us,e,g,c,d,i,z⟩ r=>by
  obtain ⟨fs,k,l,m⟩:=r.tups;subst e;obtain ⟨ul⟩:=us;cases i with
  | nil=>exact absurd rfl z | @cons x t ws ns i'=>
   refine ⟨.int x t::fs,KatTups.cons g c d rfl k,by simp [l],fun v hv=>?_⟩;rcases List.mem_cons.mp hv with rfl | hv;·exact ⟨_,_,rfl⟩
   ·exact m v hv
section
variable {prog:Program}{w:World}{A:Around}{E:Value->Shared->Prop}{s:Shared}
theorem z6f {fin:Bool} {C:Bool->Shared->Prop}:∀ {xs ys:List Value} {ns ms:List Int} (i:Nat),xD xs ns->xD ys ms->C (z8Q fin ns ms) s->KatLex prog w A true fin C (xs.zip ys) i s
 | _,_,_,_,i,.nil,_,h=>by
  simp only [List.zip_nil_left];refine kat_nil ?_;simpa [z8Q] using h | _,_,_,_,i,.cons _,.nil,h=>by
  simp only [List.zip_nil_right];refine kat_nil ?_;simpa [z8Q] using h | _,_,_,_,i,.cons (i:=x) (t:=t) r,.cons (i:=y) (t:=t') r',h=>by
  simp only [List.zip_cons_cons];refine kat_cons (wpAny_eqBool_int (kat_go (fun e=>kat_yes (z6f (i+1) r r' ?_)) fun e=>kat_no ?_))
  ·have e1:x=y:=by simpa using e
   simpa [z8Q,e1] using h
  ·have e1:¬ x=y:=by simpa using e
   have h':C (decide (x<y)) s:=by simpa [z8Q,e1] using h
   cases i with
   | zero=>
    have hb:(true&&((0:Nat)==0))=true:=rfl;rw [hb];exact oneLt_int h' | succ i=>
    have hb:(true&&((i+1:Nat)==0))=false:=by simp
    rw [hb];exact kat_one _ _ (PyProof.Rows.lt_int h')
theorem zcu{v u:Value}{p q:List Int}{C:Bool->Shared->Prop}(hv:TupAt s.heap v p)(hu:TupAt s.heap u q)(h:C (lexN p q) s):wpAny (model prog w) A (keyLt' (tuples' true) v u) C E s:=by
 obtain ⟨a,o,n,us,rfl,g,c,d,i,_⟩:=hv;obtain ⟨b,o',n',us',rfl,g',c',d',i',_⟩:=hu;refine kat_lt g d g' d' (z6f 0 i i' ?_);have e:decide (us.size<us'.size)=decide (p.length<q.length):=by
  have:=i.length;have:=i'.length;simp only [Array.length_toList] at *;simp [*]
 rw [e,zb6];exact h
theorem z7V{vs:List Value}{ps:List (List Int)}{Q:SortKind->Shared->Prop}(hp:xK s.heap vs ps)(h0:0<ps.length)(h:Q (tuples' true) s):wpAny (model prog w) A (keyKind' vs.toArray) Q E s:=by
 obtain ⟨fs,k,l,m⟩:=hp.tups;refine kat_kind (T:=.type "int") k (by rw [l];exact h0) (fun v hv=>?_) rfl h;obtain ⟨i,t,rfl⟩:=m v hv;exact Looks.of_pure rfl
theorem zca{κ:SortKind}{it:Array Keyed}{n:Nat}{Q:Unit->SortSt->Shared->Prop}{G:Array Nat->Shared->Prop}(h2:2<=n) (hG:∀ p' st' s',p'.size=n->arrOf st'=p'.map (kas_item it)->failedOf st'=none->G p' s'->Q () st' s')(h:(kas_count n (List.toArray (List.range n))).kasWp (kas_cmp prog w A κ it) (fun r s'=>r.1=n/\G r.2 s') s): kasC (model prog w) A E sortRuns' Q (kas_st κ it (List.toArray (List.range n))) s:=by
 obtain ⟨r,rfl⟩:∃ r,n=r+2:=⟨n-2,by omega⟩;have hrs:(List.toArray (List.range (r+2))).size=r+2:=by simp
 rw [sortRuns'_eq];refine kasC_bind (kasC_get ?_);dsimp only;have hsz:(arrOf (kas_st κ it (List.toArray (List.range (r+2))))).size=r+2:=by
  show ((List.toArray (List.range (r+2))).map (kas_item it)).size=_;rw [Array.size_map,hrs]
 have hmr:∀ f m c,m+c<=r+2->1<=m->minRun' f m c<=r+2:=by
  intro f;induction f with
  | zero=>intro m c h _;exact h | succ f ih=>
   intro m c h h1;rw [minRun'_succ];split;·exact h
   ·exact ih _ _ (by omega) (by omega)
 have hmr:=hmr (r+2) (r+2) 0 (Nat.le_refl _) (by omega);simp only [hsz];generalize minRun' (r+2) (r+2) 0=mr at hmr;refine kasC_bind (kasC_range ?_);show kasC _ _ _ (forIn (0::1::List.range' 2 r) _ _) _ _ _;refine kasC_cons ?_;dsimp only;rw [if_neg (by omega)];simp only [Nat.sub_zero,Nat.zero_add];refine kasC_bind (kas_count_ (by omega) (by rw [hrs];exact Nat.le_refl _) (fun m p' s' hm1 hm2 hp hg=>?_) h);have hps:p'.size=r+2:=hp.trans hrs;obtain ⟨em,hg'⟩:=hg;have em':m=r+2:=em;subst em';dsimp only;rw [if_neg (by omega)];refine kasC_bind (kasC_get ?_);rw [show (pendingOf (kas_st κ it p')).back? = none from rfl];dsimp only;refine kasC_bind (kasC_modify (kasC_pure ?_));show kasC _ _ _ (forIn (1::List.range' 2 r) _ _) _ _ _;refine kasC_cons ?_;dsimp only;rw [if_pos (Nat.le_refl _)];refine kasC_pure ?_;dsimp only;refine kasC_bind (kasC_range ?_);show kasC _ _ _ (forIn (0::1::List.range' 2 r) _ _) _ _ _;refine kasC_cons ?_;refine kasC_bind (kasC_get ?_);rw [if_pos (show (pendingOf (setPending (kas_st κ it p') ((pendingOf (kas_st κ it p')).push (0,r+2,0)))).size<=1 from Nat.le_refl 1)];refine kasC_pure ?_;dsimp only;exact kasC_pure (hG p' _ _ hps rfl rfl hg')
def zeQ(ps:List (List Int))(p:Array Nat):Prop:= (ps.length<2/\p=List.toArray (List.range ps.length))\/ (2<=ps.length/\ps.length<64/\kev ps.length (fun i j=>lexN (ps.getD i []) (ps.getD j [])) (kas_sort ps.length)=some p)\/ (2<=ps.length/\kev ps.length (fun i j=>lexN (ps.getD i []) (ps.getD j [])) (kas_count ps.length (List.toArray (List.range ps.length)))=some (ps.length,p))
theorem zay {vs:List Value} {ps:List (List Int)} {p:Array Nat} {Q:SortSt->Shared->Prop} (hp:xK s.heap vs ps) (h2:2<=ps.length) (hP:zeQ ps p) (h:∀ st',p.size=vs.length->arrOf st'=p.map (kas_item (vs.toArray.zip vs.toArray))->failedOf st'=none->Q st' s): wpAny (model prog w) A ((sortRuns').run (SortSt.mk' (tuples' true) (vs.toArray.zip vs.toArray) #[] 7 none)) (fun r s'=>Q r.2 s') E s:=by
 have lenP:=hp.length;have cmp:∀ i j (C:Bool->Shared->Prop),i<ps.length->j<ps.length->C (lexN (ps.getD i []) (ps.getD j [])) s->kas_ask prog w A (tuples' true) vs i j C s:=fun i j C hi hj hC=>zcu (hp.at_ i hi) (hp.at_ j hj) hC;rcases hP with ⟨z,_⟩ | ⟨_,h64,e⟩ | ⟨_,e⟩;·omega
 ·refine kat_run (ks:=vs) (vs:=vs) (G:=fun q s'=>q=p/\s'=s) rfl (by omega) (by omega) (fun q st' s' a1 a2 a3 a4=>?_) (z9p (n:=ps.length) cmp _ p (by rw [lenP];exact e) ⟨rfl,rfl⟩);obtain ⟨rfl,rfl⟩:=a4;exact h st' a1 a2 a3
 ·have hc:(kas_count vs.length (List.toArray (List.range vs.length))).kasWp (kas_cmp prog w A (tuples' true) (vs.toArray.zip vs.toArray)) (fun r s'=>r.1=vs.length/\(r.2=p/\s'=s)) s:=by
   rw [<- kat_ask_eq (ks:=vs) (vs:=vs) rfl];refine z9p (n:=ps.length) cmp _ (ps.length,p) (by rw [lenP];exact e) ⟨lenP.symm,rfl,rfl⟩
  have run:=zca (E:=E) (Q:=fun _ st' s'=>Q st' s') (G:=fun q s'=>q=p/\s'=s) (by omega) (fun q st' s' a1 a2 a3 a4=>by obtain ⟨rfl,rfl⟩:=a4;exact h st' a1 a2 a3) hc;have est:SortSt.mk' (tuples' true) (vs.toArray.zip vs.toArray) #[] 7 none=kas_st (tuples' true) (vs.toArray.zip vs.toArray) (List.toArray (List.range vs.length)):=by
   have e:=kas_range (vs.toArray.zip vs.toArray);rw [show (vs.toArray.zip vs.toArray).size=vs.length by simp] at e;show SortSt.mk' (tuples' true) (vs.toArray.zip vs.toArray) #[] 7 none=SortSt.mk' (tuples' true) ((List.toArray (List.range vs.length)).map (kas_item (vs.toArray.zip vs.toArray))) #[] 7 none;rw [e]
  rw [est];exact run
theorem z2D {a:Addr} {vs:List Value} {ps:List (List Int)} {n:Nat} {p:Array Nat} {P:PySem.Fin->Shared->Prop} (ho:s.heap.get? a=some (seqObj "list" vs.toArray n)) (hp:∀ h',(∀ b o,b≠a->s.heap.get? b=some o->h'.get? b=some o)->xK h' vs ps) (hline:vs.length<=sizeLine) (hP:zeQ ps p) (h:P (.done (.ret .none)) {s with heap:=sortedHeap s.heap a vs (z7E vs p)}):wpAny (model prog w) A (Builtin.«list.sort» ⟨[.ref a],[]⟩) P E s:=by
 have ha:a<s.heap.objs.size:=Heap.lt_size ho;have lenP:vs.length=ps.length:=(hp s.heap fun _ _ _ e=>e).length;obtain ⟨e1,g1⟩:∃ e1,(s.heap.update a (Obj.mapSeq fun _=>(#[]:Array Value))).get? a=some (seqObj "list" #[] e1):=⟨_,get?_update_seq ho fun _=>#[]⟩;have g2:(((s.heap.update a (Obj.mapSeq fun _=>(#[]:Array Value))).push (seqObj "tuple" vs.toArray 0)).push (seqObj "list" #[] 0)).get? a=some (seqObj "list" #[] e1):=Heap.get?_push_of_some _ (Heap.get?_push_of_some _ g1);have hp1:xK (((s.heap.update a (Obj.mapSeq fun _=>(#[]:Array Value))).push (seqObj "tuple" vs.toArray 0)).push (seqObj "list" #[] 0)) vs ps:=hp _ fun b o hb e=> Heap.get?_push_of_some _ (Heap.get?_push_of_some _ (((Heap.SameBut.update s.heap a (Obj.mapSeq fun _=>(#[]:Array Value))).2 b hb).trans e));rw [list_sort_plain];refine wpAny_bind (listItems_at ho rfl (wpAny_bind (listUpdate_at ho rfl (wpAny_bind (seqEpoch_at g1 rfl (wpAny_bind (wpAny_newTuple (wpAny_bind (wpAny_newList (wpAny_holding ?_) (Nat.zero_le _))) hline)))) (by rw [List.size_toArray];exact hline) (Nat.zero_le _))));dsimp only;by_cases big:vs.toArray.size<2
 ·rw [if_pos big,if_pos big];have small:vs.length<2:=by simpa using big
  have ep:p=List.toArray (List.range ps.length):=by
   rcases hP with ⟨_,z⟩ | ⟨z,_⟩ | ⟨z,_⟩;·exact z
   ·omega
   ·omega
  have eo:z7E vs p=vs.toArray:=by
   rw [ep,<- lenP];unfold z7E;congr 1;apply List.ext_getElem;·simp
   ·intro i h1 h2;simp [h2]
  refine wpAny_bind (wpAny_pure (wpAny_bind (wpAny_pure ?_)));dsimp only;have out:(arrOf (SortSt.mk' general' (vs.toArray.zip vs.toArray) #[] 7 none)).map (·.2)=vs.toArray:=by
   show ((vs.toArray.zip vs.toArray).map (·.2))=_;apply Array.ext_getElem?;intro i;by_cases hi:i<vs.length<;>simp [hi]
  rw [out];refine wpAny_bind (seqEpoch_at g2 rfl (wpAny_bind (listUpdate_at g2 rfl ?_ (Nat.zero_le _) (by rw [List.size_toArray];exact Nat.le_succ_of_le hline))));simp only [bne_self_eq_false,Bool.false_eq_true,if_false];rw [eo] at h;exact wpAny_pure h
 ·rw [if_neg big,if_neg big];have b2:2<=ps.length:=by rw [<- lenP];simpa using big
  refine wpAny_bind (z7V (s:={s with heap:=((s.heap.update a (Obj.mapSeq fun _=>(#[]:Array Value))).push (seqObj "tuple" vs.toArray 0)).push (seqObj "list" #[] 0)}) hp1 (by omega) ?_);refine wpAny_bind (wpAny_mono (zay (s:={s with heap:=((s.heap.update a (Obj.mapSeq fun _=>(#[]:Array Value))).push (seqObj "tuple" vs.toArray 0)).push (seqObj "list" #[] 0)}) (p:=p) (Q:=fun st' s'=>p.size=vs.length/\arrOf st'=p.map (kas_item (vs.toArray.zip vs.toArray))/\failedOf st'=none/\s'={s with heap:=((s.heap.update a (Obj.mapSeq fun _=>(#[]:Array Value))).push (seqObj "tuple" vs.toArray 0)).push (seqObj "list" #[] 0)}) hp1 b2 hP fun st' a1 a2 a3=>⟨a1,a2,a3,rfl⟩) ?_ fun _ _ z=>z);rintro ⟨⟨⟩,st'⟩ s' ⟨hq,har,hf,rfl⟩;dsimp only;have out:=kat_snds (ks:=vs) (vs:=vs) rfl har;rw [out,hf];refine wpAny_bind (seqEpoch_at g2 rfl (wpAny_bind (listUpdate_at g2 rfl ?_ (Nat.zero_le _) (by rw [List.size_toArray,List.length_map,Array.length_toList,hq];exact Nat.le_succ_of_le hline))));simp only [bne_self_eq_false,Bool.false_eq_true,if_false];exact wpAny_pure h
theorem z79 {l:Addr} {vs:List Value} {ps:List (List Int)} {p:Array Nat} {Q:Value->Shared->Prop} (hl:s.heap.IsList l vs.toArray) (hp:xK s.heap vs ps) (hline:vs.length<=sizeLine) (hP:zeQ ps p) (h:Q (.ref (s.heap.objs.size+1)) {s with heap:=sortedAll s.heap vs (z7E vs p)}): wpAny (model prog w) A (call (.builtin "sorted") [.ref l]) Q E s:=by
 refine Calls.call_function_entry kind_sorted plain_sorted entry_sorted (args_sorted1 _) ?_;unfold Builtin.«sorted»;refine wpAny_bind (m:=checkCount "sorted" 1 1 _) (wpAny_pure (wpAny_bind (collect_list hl (wpAny_bind (wpAny_newList ?_ (by simpa using hline))) (by simpa using hline))));have sz:((s.heap.push (seqObj "list" #[] 0)).update s.heap.objs.size (Obj.mapSeq (· ++ vs.toArray))).objs.size=s.heap.objs.size+1:=by rw [Heap.size_update,size_push']
 have g:(((s.heap.push (seqObj "list" #[] 0)).update s.heap.objs.size (Obj.mapSeq (· ++ vs.toArray))).push (seqObj "list" vs.toArray 0)).get? (s.heap.objs.size+1)=some (seqObj "list" vs.toArray 0):=by
  rw [<- sz];exact Heap.get?_push_size _ rfl
 have keep:∀ b o,s.heap.get? b=some o->(((s.heap.push (seqObj "list" #[] 0)).update s.heap.objs.size (Obj.mapSeq (· ++ vs.toArray))).push (seqObj "list" vs.toArray 0)).get? b=some o/\b≠s.heap.objs.size+1:=fun b o q=>by
  have lt:b<s.heap.objs.size:=Heap.lt_size q;refine ⟨?_,Nat.ne_of_lt (Nat.lt_succ_of_lt lt)⟩;rw [Heap.get?_push_ne _ _ _ (by rw [sz];exact Nat.ne_of_lt (Nat.lt_succ_of_lt lt)),Heap.get?_update_ne _ _ _ _ (Nat.ne_of_lt lt),Heap.get?_push_ne _ _ _ (Nat.ne_of_lt lt)];exact q
 show wpAny (model prog w) _ _ _ _ {s with heap:=((s.heap.push (seqObj "list" #[] 0)).update s.heap.objs.size (Obj.mapSeq (· ++ vs.toArray))).push (seqObj "list" vs.toArray 0)};rw [sz];exact wpAny_bind (wpAny_holding (wpAny_call_entry slot_list_sort ⟨_,g,rfl⟩ entry_list_sort (z2D g (fun h' k=>hp.mono fun b o q=>k b o (keep b o q).2 (keep b o q).1) hline hP ⟨_,rfl,wpAny_pure ⟨_,rfl,h⟩⟩) (args_list_sort _)))
end
section
variable {X:Cx}{E:XK}
def zbo(K:W.Frag):List V->Hp->VK->Prop:=fun xs H Q=>∃ (l:Addr)(ys:List V)(ps:List (List Int))(p:Array Nat),xs=[.ref l]/\SqL K H l ys/\Paired (fun v ns=>AtN H v ns) ys ps/\(∀ n∈ps,n≠[])/\zeQ ps p/\ (∀ i∈p.toList,i<ys.length)/\p.toList.length=ys.length/\∀ r,H r=none->Q (.ref r) (upd H r (.lst (p.toList.map fun i=>ys.getD i .non)))
theorem z8S{pins:List (Addr×Obj)}{O:L2.St}{H:Hp}{s:Shared}(I:Inv X pins O H s):∀ {ys:List V}{its:List Value}{ps:List (List Int)},yG ys its->Paired (fun v ns=>AtN H v ns) ys ps->(∀ n∈ps,n≠[])->xK s.heap its ps
 | [],_,_,.nil,.nil,_=>.nil | y::ys,_,_,.cons r rs,.cons a p,hn=>by
  refine .cons ?_ (z8S I rs p fun n hm=>hn n (.tail _ hm));obtain ⟨b,its,rfl,rfl,⟨o,g,c,k,d⟩,z⟩:=a.tuple I r;exact ⟨b,o,k,its,rfl,g,c,d,z,hn _ (.head _)⟩
theorem z6W:wu X (.builtin "sorted") (zbo X.K):=by
 intro pins s O H xs us Q I r h;obtain ⟨l,ys,ps,p,rfl,hq,hp,hn,hP,hin,hpl,q⟩:=h;obtain ⟨u,rfl,rx⟩:=vals1 r;cases rx;obtain ⟨its,r',pl,hz⟩:=I.list hq;have hlen:=r'.length;refine z79 (ps:=ps) (p:=p) pl.isList (z8S I r' hp hn) (by omega) hP ?_;obtain ⟨c',e⟩:=sortedAll_at s.heap its (z7E its p);refine ⟨.ref (s.heap.objs.size+1),_,I.laid (t':=s.toks) (fun b o z=>sortedAll_old z) (Nat.le_succ _) (show wS X.prog X.w _ (sortedAll s.heap its (z7E its p)) _ (.lst (p.toList.map fun i=>ys.getD i .non)) from ⟨?_,_,c',z6y r' p.toList hin,e⟩),rfl,q _ (I.hok.fresh (Nat.le_succ _))⟩;rw [List.length_map,hpl];exact hz
def zey(L:List (List Int)):Option (Array Nat):= if L.length<2 then some (List.toArray (List.range L.length)) else if L.length<64 then kev L.length (fun i j=>lexN (L.getD i []) (L.getD j [])) (kas_sort L.length) else match kev L.length (fun i j=>lexN (L.getD i []) (L.getD j [])) (kas_count L.length (List.toArray (List.range L.length))) with
  | some (m,p)=>if m=L.length then some p else none | none=>none
theorem z9A{L:List (List Int)}{p:Array Nat}(h:zey L=some p):zeQ L p:=by
 unfold zey at h;split at h;·rename_i q;exact .inl ⟨q,(Option.some.inj h).symm⟩
 ·split at h;·rename_i q1 q2;exact .inr (.inl ⟨by omega,q2,h⟩)
  ·split at h
   ·rename_i m q e;split at h
    ·rename_i em;cases h;subst em;exact .inr (.inr ⟨by omega,e⟩)
    ·cases h
   ·cases h
def z8s(s:Sto)(d:D):Option (List D):=match listOf s d with
 | some xs=>match z1Q xs with
  | some L=>match zey L with
   | some p=>if L.all (fun n=>!n.isEmpty)=true/\p.toList.all (fun i=>decide (i<xs.length))=true/\p.toList.length=xs.length then some (p.toList.map fun i=>xs.getD i .non) else none | none=>none
  | none=>none
 | none=>none
def z1a:Mir:=fun ds s=>match ds with
 | [d]=>match z8s s d with | some ys=>if D.flat.flats ys=true then .ok (.loc s.length) (s++[ys]) else .no | none=>.no
 | _=>.no
theorem zbQ{H:Hp}{Y:List Addr}{s:Sto}{d:D}{v:V}{ys:List D}{Q:VK}(r:Rep (gm X) H Y s)(dn:Den (gm X) H Y d v)(e:z8s s d=some ys)(q:∀ vs,zu (gm X) H Y ys vs->∀ a,H a=none->Q (.ref a) (upd H a (.lst vs))):zbo X.K [v] H Q:=by
 unfold z8s at e;split at e
 ·rename_i xs ex;split at e
  ·rename_i L eL;split at e
   ·rename_i p ep;split at e
    ·rename_i hp;cases e;obtain ⟨a,ws,rfl,q1,q2⟩:=zS r ex dn;have hl:=q2.length;have hin:∀ i∈p.toList,i<xs.length:=fun i hi=>by simpa using List.all_eq_true.mp hp.2.1 i hi
     exact ⟨a,ws,L,p,rfl,.inl q1,z0Z eL q2,(fun n hn z=>by have:=List.all_eq_true.mp hp.1 n hn;rw [z] at this;cases this),z9A ep,fun i hi=>by have:=hin i hi;omega,by rw [hp.2.2];omega,q _ (z5X q2 _ hin)⟩
    ·cases e
   ·cases e
  ·cases e
 ·cases e
theorem zam:∃ r,wu X (.builtin "sorted") r/\z02 X E r z1a:=⟨_,z6W,fun H Y s ds vs Q r hd h=>by
 unfold z1a at h;split at h
 ·rename_i d;split at h
  ·rename_i ys e;split at h
   ·rename_i hf;obtain ⟨v,rfl,dn⟩:=z0e hd;exact zbQ r dn e fun vs dv=>zbr r h hf dv
   ·exact h.elim
  ·exact h.elim
 ·exact h.elim⟩
end
end Dd
namespace Pg
open PySem.Spec L2 Dd
def uk:List (Str×Str):=[("next","by_next"),("least","by_least"),("all","by_all"),("turn","by_turn")]
@[simp] def z4r:FS:=(xF (z3M (eIs "int" (zc 0)) (zds (eIs "bool" (zc 0)))))
def jh:FS:=z4r
def yF:Mir:=Mof ["thing"] 1 jh
@[simp] def z3V:FS:=(xF (z3M (eIs "tuple" (zc 0)) (z2t dLe dLe (eC (.int 2)) (zf xI (za (zc 0) zj)) (eC (.int 4)))))
def z17:FS:=z3V
def wN:Mir:=Mof ["thing"] 1 z17
@[simp] def z1T:FS:=(xF (eC (.bl false)))
@[simp] def z1F:FS:=(fIf (fOr (z76 (tOf (eIs "tuple" (zc 0)))) (tOf (eOp dNe (zf xI (za (zc 0) zj)) (zc 1)))) z1T yM)
@[simp] def z1D:FS:=(xF (zf z7K (za (zT (yn (zc 0)) [none] (wv 0) vc (zf yF (za (zc 0) zj))) zj)))
def jI:FS:=(zH z1F z1D)
def xi:Mir:=Mof ["thing","many"] 2 jI
@[simp] def z0Y:FS:=fNo
@[simp] def qp:FS:=(fIf (fOr (z76 (tOf (zf yF (za (zc 0) zj)))) (z76 (tOf (z2t dLe dLe (zc 1) (zc 0) (zc 2))))) z0Y yM)
def qL:FS:=qp
def xp:Mir:=Mof ["thing","least","most"] 3 qL
@[simp] def z7m:FS:=(xF (eC (.bl false)))
@[simp] def z7s:FS:=(fIf (fOr (z76 (tOf (zf wN (za (zc 0) zj)))) (z76 (tOf (zf xi (za (zc 0) (za (zf xI (za (zc 0) zj)) zj)))))) z7m yM)
@[simp] def z6Y:FS:=(xF (z3M (eOp dGe (zf kB (za (zc 0) zj)) (eC (.int 0))) (eOp dGt (zf wz (za (zc 0) zj)) (eC (.int 0)))))
def z4o:FS:=(zH z7s z6Y)
def uu:Mir:=Mof ["thing"] 1 z4o
@[simp] def z4A:FS:=fNo
@[simp] def z42:FS:=(fIf (z76 (tOf (zf uu (za (zc 0) zj)))) z4A yM)
def z0E:FS:=z42
def yD:Mir:=Mof ["thing"] 1 z0E
@[simp] def z3o:FS:=(ja (zf yD (za (zc 0) zj)))
@[simp] def jQ:FS:=(xF (eOp dEq (zf xI (za (zT (yn (zc 0)) [none] (wv 0) (tOf (eOp dNe (zc 0) (eC (.int 0)))) (zc 0)) zj)) (eC (.int 1))))
def kK:FS:=(zH z3o jQ)
def yx:Mir:=Mof ["lot"] 1 kK
@[simp] def xE:FS:=(vb 1 (z7r (zc 0) (zf wz (za (zc 0) zj))))
@[simp] def xu:FS:=(xF (uN (za (zc 1) (za (eOp wl (eOp wl (eSl (zc 0) zG (xn (zc 1))) (uN (za (eC (.int 0)) zj))) (eSl (zc 0) (xn (eOp wl (zc 1) (eC (.int 1)))) zG)) zj))))
def xM:FS:=(zH xE xu)
def zp:Mir:=Mof ["lot","at"] 1 xM
@[simp] def uW:FS:=(xF (z7r (zc 0) (zf kB (za (zT (yn (zc 0)) [none] (wv 0) (tOf (eOp dNe (zc 0) (eC (.int 0)))) (zc 0)) zj))))
def qF:FS:=uW
def zQ:Mir:=Mof ["lot"] 1 qF
@[simp] def z1A:FS:=(xF (zT (z1g (za (zf xI (za (zc 0) zj)) zj)) [some 1,none] (wv 1) (tOf (eOp dNe (zc 1) (zc 0))) (zc 1)))
def z1Z:FS:=z1A
def xa:Mir:=Mof ["lot","place"] 2 z1Z
@[simp] def z5F:FS:=(xF (z3M (eIs "str" (zc 0)) (z6T uk false (zc 0))))
def z20:FS:=z5F
def qo:Mir:=Mof ["thing"] 1 z20
@[simp] def z4I:FS:=(xF (eIf (tOf (eOp dEq (zc 0) (eC (.str "turn")))) (eOp wl (eSl (zc 1) (xn (eC (.int 1))) zG) (eSl (zc 1) zG (xn (eC (.int 1))))) (zc 1)))
def z6b:FS:=z4I
def jg:Mir:=Mof ["rule","numbers"] 2 z6b
@[simp] def z4Y:FS:=(zcN (zf zp (za (zc 0) zj)) (xP 1 2))
@[simp] def z1s:FS:=(xF (uN (za (z7r (zc 2) (zf wz (za (zc 2) zj))) (za (z0c (za (zc 1) zj)) zj))))
def z2q:FS:=(zH z4Y z1s)
def wd:Mir:=Mof ["lot","greatest","others"] 1 z2q
@[simp] def z4y:FS:=(zcN (zf zp (za (zc 0) zj)) (xP 1 2))
@[simp] def z4v:FS:=(xF (uN (za (zf zQ (za (zc 2) zj)) (za (z0c (za (zc 1) zj)) zj))))
def z0x:FS:=(zH z4y z4v)
def xj:Mir:=Mof ["lot","greatest","others"] 1 z0x
@[simp] def z75:FS:=(vb 1 (zf zQ (za (zc 0) zj)))
@[simp] def z7A:FS:=(xF (uN (za (zc 1) (za (zf xa (za (zc 0) (za (zc 1) zj))) zj))))
def z3H:FS:=(zH z75 z7A)
def vF:Mir:=Mof ["lot","by"] 1 z3H
@[simp] def z4X:FS:=(xF (uN (za (eC (.int 0)) (za (z0c zj) zj))))
@[simp] def z5N:FS:=(fIf (tOf (eOp dEq (eOp dIx (zc 0) (eC (.int 0))) (eC (.int 0)))) z4X yM)
@[simp] def z50:FS:=(xF (uN (za (eC (.int 0)) (za (zf xa (za (zc 0) (za (eC (.int 0)) zj))) zj))))
def z2e:FS:=(zH z5N z50)
def wb:Mir:=Mof ["lot"] 1 z2e
@[simp] def z30:FS:=fNo
@[simp] def z2R:FS:=(fIf (z76 (tOf (zf qo (za (zc 0) zj)))) z30 yM)
def kM:FS:=z2R
def xU:Mir:=Mof ["thing"] 1 kM
@[simp] def z3A:FS:=(vb 2 (zfF uk (zc 0)))
@[simp] def kC:FS:=(zcN (z6h 2 [("by_next",wd),("by_least",xj),("by_all",vF),("by_turn",wb)] (za (zc 1) zj)) (xP 3 4))
@[simp] def kN:FS:=(xF (uN (za (zc 3) (za (zT (z1g (za (zf xI (za (zc 1) zj)) zj)) [some 4,some 1,some 3,none] (wv 3) vc (eIf (tOf (eOp (z7J false) (zc 3) (zc 0))) (eOp z4z (eOp dIx (zc 1) (zc 3)) (eOp dIx (zc 1) (zc 2))) (eC (.int 0)))) zj))))
def z1m:FS:=(zH z3A (zH kC kN))
def xO:Mir:=Mof ["rule","lot","deal","by","divided"] 2 z1m
@[simp] def qc:FS:=(ja (zf xU (za (zc 0) zj)))
@[simp] def qg:FS:=(ja (zf yD (za (zc 1) zj)))
def wE:FS:=(zH qc qg)
def zy:Mir:=Mof ["rule","lot"] 2 wE
@[simp] def z2X:FS:=(ja (zf zy (za (zc 0) (za (zc 1) zj))))
@[simp] def z3h:FS:=fNo
@[simp] def z2P:FS:=(fIf (tOf (zf yx (za (zc 1) zj))) z3h yM)
def kD:FS:=(zH z2X z2P)
def xh:Mir:=Mof ["rule","lot"] 2 kD
@[simp] def z9R:FS:=(ja (zf xh (za (zc 0) (za (zc 1) zj))))
@[simp] def zaz:FS:=(zcN (zf xO (za (zc 0) (za (zc 1) zj))) (xP 2 3))
@[simp] def z6F:FS:=(vb 4 (zf uK (za (zT (z7H (za (zc 1) (za (zc 3) zj))) [some 1,some 2,none,none] (xP 2 3) vc (eOp z9D (zc 2) (eOp uh (zc 3) (eOp dIx (zc 0) (zc 1))))) zj)))
@[simp] def z6R:FS:=(xF (zf jg (za (zc 0) (za (zc 4) zj))))
def z7W:FS:=(zH z9R (zH zaz (zH z6F z6R)))
def M_step:Mir:=Mof ["rule","lot","by","quotients","left"] 2 z7W
@[simp] def z1y:FS:=(zbR (zc 2) (zc 4) (eC (.bl true)))
@[simp] def z0L:FS:=(fIf (tOf (eOp dNe (eOp dIx (zc 4) (zaS (eC (.int 1)))) (eC (.int 0)))) z1y yM)
@[simp] def qe:FS:=(xF (jn (z1g (za (zf xI (za (zc 0) zj)) zj)) [some 0,some 1,none,none] 2 3 (z6V (za (eOp wl (eOp dIx (zc 0) (zc 2)) (eC (.int 1))) (za (eOp wl (zc 1) (eC (.int 1))) zj))) (eOp wl (eOp wl (eSl (zc 0) zG (xn (zc 2))) (uN (za (zc 3) zj))) (eSl (zc 0) (xn (eOp wl (zc 2) (eC (.int 1)))) zG))))
def qH:FS:=qe
def yS:Mir:=Mof ["lot","most"] 2 qH
@[simp] def vq:FS:=(xF (eIf (tOf (eOp dLt (zc 0) (zc 1))) (zfK (za (zc 0) (za (eOp wl (zc 2) (eC (.int 1))) (za (zc 1) zj)))) (z0c zj)))
def vw:FS:=vq
def yp:Mir:=Mof ["left","divider","most"] 3 vw
@[simp] def jM:FS:=(xF (z0c (za (zc 0) zj)))
@[simp] def uo:FS:=(fIf (tOf (eOp dEq (eOp dIx (zc 0) (zc 1)) (eC (.int 0)))) jM yM)
@[simp] def jz:FS:=(vb 3 (z0c (za (uN zj) zj)))
@[simp] def wJ:FS:=(vb 6 (eIf (tOf (eOp dEq (zc 4) (zc 1))) (z0c (za (zc 5) zj)) (zf yp (za (zc 5) (za (eOp dIx (zc 0) (zc 1)) (za (zc 2) zj))))))
@[simp] def wI:FS:=(vb 3 (jn (yn (zc 3)) [some 6,none,none] 1 2 (yn (zc 0)) (eOp wl (zc 1) (uN (za (zc 2) zj)))))
@[simp] def ju:FS:=(z7I (z5t (za (zc 0) zj)) (xP 4 5) (zH wJ wI))
@[simp] def z31:FS:=(xF (zc 3))
def kF:FS:=(zH uo (zH jz (zH ju z31)))
def xT:Mir:=Mof ["lot","by","most","found","at","number","numbers"] 3 kF
@[simp] def qt:FS:=(xF (zf xT (za (eOp wl (eSl (zc 1) (xn (zaS (eC (.int 1)))) zG) (eSl (zc 1) zG (xn (zaS (eC (.int 1)))))) (za (eC (.int 0)) (za (zc 2) zj)))))
@[simp] def vd:FS:=(fIf (tOf (eOp dEq (zc 0) (eC (.str "turn")))) qt yM)
@[simp] def uQ:FS:=(xF (zf xT (za (zc 1) (za (z7r (zc 1) (zf wz (za (zc 1) zj))) (za (zc 2) zj)))))
@[simp] def vh:FS:=(fIf (tOf (eOp dEq (zc 0) (eC (.str "all")))) uQ yM)
@[simp] def qk:FS:=(xF (zf yS (za (zc 1) (za (zc 2) zj))))
def qJ:FS:=(zH vd (zH vh qk))
def xq:Mir:=Mof ["rule","lot","most"] 3 qJ
@[simp] def kU:FS:=(xF (z3M (zds (zf yx (za (zc 1) zj))) (eOp dEq (zf M_step (za (zc 0) (za (zc 1) zj))) (zc 2))))
def z0T:FS:=kU
def wL:Mir:=Mof ["rule","ahead","lot"] 3 z0T
@[simp] def z1w:FS:=(ja (zf zy (za (zc 0) (za (zc 1) zj))))
@[simp] def z13:FS:=(ja (zf xp (za (zc 2) (za (eC (.int 1)) (za (eC (.int 30)) zj)))))
@[simp] def z0D:FS:=(vb 3 (zb9 zj))
@[simp] def z1u:FS:=(ja (zbc (zc 3) (zc 4)))
@[simp] def wU:FS:=(fIf (zfb (tOf (eOp dLe (zf wz (za (zc 4) zj)) (zc 2))) (tOf (zf wL (za (zc 0) (za (zc 4) (za (zc 1) zj)))))) z1u yM)
@[simp] def z5K:FS:=fNo
@[simp] def wZ:FS:=(fIf (tOf (eOp dGt (zf xI (za (zc 3) zj)) (eC (.int 1000)))) z5K yM)
@[simp] def z0M:FS:=(z7I (yn (zf xq (za (zc 0) (za (zc 1) (za (zc 2) zj))))) (wv 4) (zH wU wZ))
@[simp] def z0Q:FS:=(xF (zf z1a (za (zc 3) zj)))
def z2h:FS:=(zH z1w (zH z13 (zH z0D (zH z0M z0Q))))
def yA:Mir:=Mof ["rule","lot","most","found","ahead"] 3 z2h
@[simp] def z0h:FS:=(xF (eOp dIx (zc 0) (zc 1)))
@[simp] def z05:FS:=(fIf (tOf (eOp dLt (zc 1) (zf xI (za (zc 0) zj)))) z0h yM)
@[simp] def z0b:FS:=(xF (eC (.int 0)))
def vk:FS:=(zH z05 z0b)
def yE:Mir:=Mof ["_law_script","_law_k"] 2 vk
@[simp] def wg:FS:=(vb 2 (eLR (za (zf xI (za (zc 1) zj)) zj)))
@[simp] def uH:FS:=(xF (uN (za (eC (.int 0)) (za (zT (yn (eSl (zc 2) (xn (eC (.int 1))) zG)) [some 1,none] (wv 1) (tOf (eOp dGt (eOp dIx (zc 0) (eC (.int 0))) (eC (.int 0)))) (zc 1)) zj))))
@[simp] def yC:FS:=(fIf (tOf (eOp dEq (zc 0) (eC (.str "turn")))) uH yM)
@[simp] def wC:FS:=(vb 3 (z7r (zc 1) (zf kB (za (zT (yn (zc 1)) [none] (wv 0) (tOf (eOp dGt (zc 0) (eC (.int 0)))) (zc 0)) zj))))
@[simp] def uJ:FS:=(xF (uN (za (zc 3) (za (zT (yn (zc 2)) [some 3,none] (wv 1) (tOf (eOp dNe (zc 1) (zc 0))) (zc 1)) zj))))
@[simp] def yB:FS:=(fIf (tOf (eOp dEq (zc 0) (eC (.str "all")))) (zH wC uJ) yM)
@[simp] def wk:FS:=(vb 4 (z7r (zc 1) (zf wz (za (zc 1) zj))))
@[simp] def wf:FS:=(vb 5 (zT (yn (zc 2)) [some 1,some 4,none] (wv 2) (zfb (tOf (eOp dNe (zc 2) (zc 1))) (tOf (eOp dGt (eOp dIx (zc 0) (zc 2)) (eC (.int 0))))) (uN (za (eOp dIx (zc 0) (zc 2)) (za (zc 2) zj)))))
@[simp] def vR:FS:=(xF (uN (za (eOp dIx (zf z8z (za (zc 5) zj)) (eC (.int 1))) (za (z0c (za (zc 4) zj)) zj))))
@[simp] def yz:FS:=(fIf (tOf (eOp dEq (zc 0) (eC (.str "least")))) vR yM)
@[simp] def xQ:FS:=(vb 6 (zf wz (za (zT (yn (zc 5)) [none,none] (xP 0 1) vc (zc 0)) zj)))
@[simp] def vQ:FS:=(xF (uN (za (zf kB (za (zT (yn (zc 5)) [some 6,none,none] (xP 1 2) (tOf (eOp dEq (zc 1) (zc 0))) (zc 2)) zj)) (za (z0c (za (zc 4) zj)) zj))))
def uR:FS:=(zH wg (zH yC (zH yB (zH wk (zH wf (zH yz (zH xQ vQ)))))))
def yh:Mir:=Mof ["_law_rule","_law_lot_here","_law_places","_law_by","_law_top","_law_others","_law_greatest"] 2 uR
@[simp] def vU:FS:=(xF (eOp dLt (zf xI (za (zT (yn (zc 0)) [none] (wv 0) (tOf (eOp dGt (zc 0) (eC (.int 0)))) (zc 0)) zj)) (eC (.int 2))))
def uz:FS:=vU
def ya:Mir:=Mof ["_law_lot_here"] 1 uz
@[simp] def z4E:FS:=(xF (zb9 (za (eOp z9D (zc 0) (eOp z62 (eC (.int 10)) (eC (.int 18)))) zj)))
@[simp] def z3B:FS:=(fIf (tOf (eOp dGe (zc 0) (eOp z62 (eC (.int 10)) (eC (.int 18))))) z4E yM)
@[simp] def z4q:FS:=(vb 1 (eC (.int 0)))
@[simp] def kY:FS:=(vb 3 (eOp z7g (eOp uh (eOp wl (eOp wl (eOp z7g (zc 0) (eC (.int 2147483629))) (eOp uh (eC (.int 7919)) (zc 2))) (eC (.int 1))) (eC (.int 48271))) (eC (.int 2147483647))))
@[simp] def kL:FS:=(vb 3 (eOp z7g (eOp wl (eOp wl (eOp uh (zc 3) (zc 3)) (eOp uh (eC (.int 69621)) (zc 2))) (eC (.int 7))) (eC (.int 2147483587))))
@[simp] def kZ:FS:=(vb 1 (eOp wl (eOp uh (zc 1) (eC (.int 2147483587))) (zc 3)))
@[simp] def kS:FS:=(z7I (z1g (za (eC (.int 64)) zj)) (wv 2) (zH kY (zH kL kZ)))
@[simp] def z4m:FS:=(xF (zb9 (za (zc 1) zj)))
def qX:FS:=(zH z3B (zH z4q (zH kS z4m)))
def wK:Mir:=Mof ["_law_cell","_law_number","_law_j","_law_more"] 1 qX
@[simp] def vZ:FS:=(xF (z0c (za (eC (.str "next")) (za (eC (.str "least")) (za (eC (.str "all")) (za (eC (.str "turn")) zj))))))
def uE:FS:=vZ
def yN:Mir:=Mof [] 0 uE
@[simp] def ww:FS:=(zcN (zf yh (za (zc 0) (za (zc 1) zj))) (xP 2 3))
@[simp] def wn:FS:=(vb 4 (zT (z5t (za (zc 1) zj)) [some 3,some 1,some 2,none,none] (xP 3 4) vc (eIf (tOf (eOp (z7J false) (zc 3) (zc 0))) (eOp z7g (zc 4) (eOp dIx (zc 1) (zc 2))) (zc 4))))
@[simp] def wy:FS:=(vb 5 (zb9 zj))
@[simp] def yb:FS:=(vb 7 (kG (z1g (za (zf xI (za (zc 1) zj)) zj)) [some 6,none] (wv 1) vc (zf zdq (za (eOp dEq (zc 0) (zc 1)) zj))))
@[simp] def uI:FS:=(z38 (zc 7) (zc 2) (eOp z4z (eOp dIx (zc 1) (zc 6)) (eOp dIx (zc 1) (zc 2))))
@[simp] def yd:FS:=(fIf (tOf (eOp (z7J false) (zc 6) (zc 3))) uI yM)
@[simp] def xb:FS:=(ja (zbc (zc 5) (zc 7)))
@[simp] def wo:FS:=(z7I (z1g (za (zf xI (za (zc 1) zj)) zj)) (wv 6) (zH (z5w 7 (zH yb yd)) xb))
@[simp] def xR:FS:=(vb 4 (eOp wl (eSl (zc 4) (xn (eC (.int 1))) zG) (eSl (zc 4) zG (xn (eC (.int 1))))))
@[simp] def ua:FS:=(vb 5 (zT (yn (zc 5)) [none] (wv 0) vc (eOp wl (eSl (zc 0) (xn (eC (.int 1))) zG) (eSl (zc 0) zG (xn (eC (.int 1)))))))
@[simp] def yc:FS:=(fIf (tOf (eOp dEq (zc 0) (eC (.str "turn")))) (zH xR ua) yM)
@[simp] def yR:FS:=(xF (uN (za (zf uK (za (zc 4) zj)) (za (zf uK (za (zT (yn (zc 5)) [none] (wv 0) vc (zf uK (za (zc 0) zj))) zj)) zj))))
def uY:FS:=(zH ww (zH wn (zH wy (zH wo (zH yc yR)))))
def zJ:Mir:=z5k (Mof ["_law_rule","_law_lot_here","_law_by","_law_gone","_law_later","_law_lines","_law_place","_law_line"] 2 uY)
@[simp] def z2y:FS:=(vb 2 (eOp z7g (eOp dIx (zc 0) (eC (.int 0))) (zc 1)))
@[simp] def z2u:FS:=(z38 (zc 0) (eC (.int 0)) (eOp z4z (eOp dIx (zc 0) (eC (.int 0))) (zc 1)))
@[simp] def z3b:FS:=(xF (zc 2))
def z01:FS:=(zH z2y (zH z2u z3b))
def zA:Mir:=Mof ["_law_pot_here","_law_far","_law_found"] 2 z01
@[simp] def z1R:FS:=(xF (z3M (eIs "int" (zc 0)) (zds (eIs "bool" (zc 0)))))
def jv:FS:=z1R
def qh:Mir:=Mof ["_law_thing"] 1 jv
@[simp] def kd:FS:=(xF (z3M (eIs "int" (zc 0)) (zds (eIs "bool" (zc 0)))))
def uy:FS:=kd
def yQ:Mir:=Mof ["_law_found"] 1 uy
@[simp] def vn:FS:=(vb 3 (zf z53 (za (eOp wl (zc 2) (eC (.int 1))) (za (eOp dIx (z0c (za (eC (.int 4)) (za (eC (.int 31)) (za (eC (.int 1001)) (za (eOp z62 (eC (.int 10)) (eC (.int 15))) (za (eOp z62 (eC (.int 10)) (eC (.int 39))) zj)))))) (zf zA (za (zc 0) (za (eC (.int 5)) zj)))) zj))))
@[simp] def wW:FS:=(vb 4 (kG (z1g (za (zc 1) zj)) [some 0,some 3,none] (wv 2) vc (zf zA (za (zc 0) (za (zc 1) zj)))))
@[simp] def wT:FS:=(vb 5 (zf zA (za (zc 0) (za (eC (.int 6)) zj))))
@[simp] def wY:FS:=(zgl 6 7 (za (zf zA (za (zc 0) (za (zc 1) zj))) (za (zf zA (za (zc 0) (za (zc 1) zj))) zj)))
@[simp] def uX:FS:=(z38 (zc 4) (zc 6) (eC (.int 0)))
@[simp] def xy:FS:=(fIf (tOf (eOp dEq (zc 5) (eC (.int 0)))) uX yM)
@[simp] def uU:FS:=(z38 (zc 4) (zc 6) (eOp dIx (zc 4) (zc 7)))
@[simp] def xA:FS:=(fIf (tOf (eOp dEq (zc 5) (eC (.int 1)))) uU yM)
@[simp] def uG:FS:=(z38 (zc 4) (zc 7) (eOp wl (eC (.int 1)) (zf zA (za (zc 0) (za (eOp z9D (zc 3) (eC (.int 1))) zj)))))
@[simp] def xt:FS:=(fIf (tOf (eOp dEq (zf wz (za (zc 4) zj)) (eC (.int 0)))) uG yM)
@[simp] def uD:FS:=(xF (zf uK (za (zc 4) zj)))
def qE:FS:=(zH vn (zH wW (zH wT (zH wY (zH xy (zH xA (zH xt uD)))))))
def yV:Mir:=z5k (Mof ["_law_pot_here","_law_size","_law_most","_law_far","_law_found","_law_way","_law_at","_law_to"] 3 qE)
@[simp] def z3u (Mr:Mir):FS:=(xF (eC (.bl false)))
@[simp] def jk (Mr:Mir):FS:=(fIf (fOr (tOf (eOp dNe (eIs "list" (zc 1)) (eIs "list" (zc 0)))) (tOf (eOp dNe (eIs "tuple" (zc 1)) (eIs "tuple" (zc 0))))) (z3u Mr) yM)
@[simp] def uq (Mr:Mir):FS:=(xF (z3M (eOp dEq (zf xI (za (zc 0) zj)) (zf xI (za (zc 1) zj))) (zf z7K (za (zT (z7H (za (zc 0) (za (zc 1) zj))) [none,none] (xP 0 1) vc (zf Mr (za (zc 0) (za (zc 1) zj)))) zj))))
@[simp] def ut (Mr:Mir):FS:=(fIf (tOf (zdT "list" "tuple" (zc 1))) (zH (jk Mr) (uq Mr)) yM)
@[simp] def z3s (Mr:Mir):FS:=(xF (z3M (eOp dEq (zc 0) (zc 1)) (eOp dEq (eIs "bool" (zc 0)) (eIs "bool" (zc 1)))))
@[simp] def z2A (Mr:Mir):FS:=(fIf (fOr (tOf (eOp dIs (zc 1) (eC .non))) (fOr (tOf (eIs "bool" (zc 1))) (tOf (eIs "str" (zc 1))))) (z3s Mr) yM)
@[simp] def z35 (Mr:Mir):FS:=(xF (z3M (zf qh (za (zc 0) zj)) (eOp dEq (zc 0) (zc 1))))
def vC(Mr:Mir):FS:=(zH (ut Mr) (zH (z2A Mr) (z35 Mr)))
def zL:Nat->Mir
 | 0=>fun _ _=>.no | k+1=>Mof ["_law_found","_law_due"] 2 (vC (zL k))
@[simp] def z09 (Mr:Mir):FS:=(xF (eOp dIs (zc 0) (eC .non)))
@[simp] def wD (Mr:Mir):FS:=(fIf (tOf (eOp dIs (zc 1) (eC .non))) (z09 Mr) yM)
@[simp] def z0f (Mr:Mir):FS:=(xF (z3M (eIs "bool" (zc 0)) (eOp dEq (zc 0) (zc 1))))
@[simp] def wA (Mr:Mir):FS:=(fIf (tOf (eIs "bool" (zc 1))) (z0f Mr) yM)
@[simp] def z04 (Mr:Mir):FS:=(xF (z3M (zf yQ (za (zc 0) zj)) (eOp dEq (zc 0) (zc 1))))
@[simp] def wB (Mr:Mir):FS:=(fIf (tOf (eIs "int" (zc 1))) (z04 Mr) yM)
@[simp] def z03 (Mr:Mir):FS:=(xF (z3M (eIs "str" (zc 0)) (eOp dEq (zc 0) (zc 1))))
@[simp] def wx (Mr:Mir):FS:=(fIf (tOf (eIs "str" (zc 1))) (z03 Mr) yM)
@[simp] def kb (Mr:Mir):FS:=(xF (eC (.bl false)))
@[simp] def wq (Mr:Mir):FS:=(fIf (fOr (tOf (eOp dNe (eIs "tuple" (zc 1)) (eIs "tuple" (zc 0)))) (tOf (eOp dNe (eIs "list" (zc 1)) (eIs "list" (zc 0))))) (kb Mr) yM)
@[simp] def yt (Mr:Mir):FS:=(xF (z3M (eOp dEq (zf xI (za (zc 0) zj)) (zf xI (za (zc 1) zj))) (zf z7K (za (zT (z7H (za (zc 0) (za (zc 1) zj))) [none,none] (xP 0 1) vc (zf Mr (za (zc 0) (za (zc 1) zj)))) zj))))
def zE(Mr:Mir):FS:=(zH (wD Mr) (zH (wA Mr) (zH (wB Mr) (zH (wx Mr) (zH (wq Mr) (yt Mr))))))
def zF:Nat->Mir
 | 0=>fun _ _=>.no | k+1=>Mof ["_law_found","_law_due"] 2 (zE (zF k))
def xY:Mir:=zF 4
end Pg
namespace K71
open PySem.Spec L2 Dd Pg
@[simp] def vP:FS:=(vb 2 (z0c (za (uN zj) zj)))
@[simp] def yZ:FS:=(vb 4 (zb9 zj))
@[simp] def xX:FS:=(ja (zfS (zc 4) (zT (z1g (za (eOp wl (zc 1) (eC (.int 1))) zj)) [some 5,none] (wv 1) vc (eOp wl (zc 0) (uN (za (zc 1) zj))))))
@[simp] def yX:FS:=(z7I (yn (zc 2)) (wv 5) xX)
@[simp] def vG:FS:=(vb 2 (zc 4))
@[simp] def qN:FS:=(z7I (z1g (za (zc 0) zj)) (wv 3) (zH yZ (zH yX vG)))
@[simp] def vH:FS:=(xF (eSl (zc 2) (xn (eC (.int 1))) zG))
def jN:FS:=(zH vP (zH qN vH))
def xk:Mir:=z5k (Mof ["_law_size","_law_most","_law_found","_law_place","_law_longer","_law_begun"] 2 jN)
@[simp] def z0y:FS:=(vb 2 (zf Pg.wK (za (zf Pg.yE (za (zc 0) (za (zc 1) zj))) zj)))
@[simp] def z1d:FS:=(vb 3 (eOp wl (eC (.int 2)) (zf Pg.zA (za (zc 2) (za (eC (.int 3)) zj)))))
@[simp] def z14:FS:=(vb 4 (eOp wl (eC (.int 1)) (zf Pg.zA (za (zc 2) (za (eOp dIx (z0c (za (eC (.int 30)) (za (eC (.int 12)) (za (eC (.int 6)) zj)))) (eOp z9D (zc 3) (eC (.int 2)))) zj)))))
@[simp] def z0F:FS:=(vb 5 (eOp dIx (zf Pg.yN zj) (zf Pg.zA (za (zc 2) (za (eC (.int 4)) zj)))))
@[simp] def z0G:FS:=(vb 6 (zT (yn (zf xk (za (zc 3) (za (zc 4) zj)))) [none] (wv 0) (z76 (tOf (zf Pg.ya (za (zc 0) zj)))) (zc 0)))
@[simp] def z1j:FS:=(vb 7 (zb9 (za (zf Pg.yV (za (zc 2) (za (zc 3) (za (zc 4) zj)))) (za (zf Pg.yV (za (zc 2) (za (zc 3) (za (eOp wl (zc 4) (eC (.int 2))) zj)))) zj))))
@[simp] def z9q:FS:=(ja (zbc (zc 7) (eOp dIx (zf Pg.zJ (za (zc 5) (za (eOp dIx (zc 6) (zf Pg.zA (za (zc 2) (za (zf xI (za (zc 6) zj)) zj)))) zj))) (eC (.int 0)))))
@[simp] def kq:FS:=(fIf (tOf (eOp dNe (zc 6) (z0c zj))) z9q yM)
@[simp] def jS:FS:=(vb 9 (zT (yn (zc 6)) [some 8,some 5,none] (wv 2) (tOf (eOp dEq (eOp dIx (zf Pg.zJ (za (zc 1) (za (zc 2) zj))) (eC (.int 0))) (zc 0))) (zc 2)))
@[simp] def jw:FS:=(vb 11 (zf Pg.yA (za (zc 5) (za (zc 8) (za (zc 4) zj)))))
@[simp] def z9T:FS:=(xF (eC (.bl false)))
@[simp] def jC:FS:=(fIf (z76 (tOf (zf Pg.xY (za (zc 11) (za (zc 9) zj))))) z9T yM)
@[simp] def z0u:FS:=(ja (zbc (zc 11) (uN zj)))
@[simp] def z0i:FS:=(z7I (z1g (za (eC (.int 2)) zj)) (wv 10) (zH jw (zH jC z0u)))
@[simp] def jB:FS:=(z7I (yn (zc 7)) (wv 8) (zH jS z0i))
@[simp] def z5M:FS:=(z7I (z1g (za (zf zaJ (za (eC (.int 1)) (za (zf z53 (za (zf xI (za (zc 0) zj)) (za (eC (.int 3)) zj))) zj))) zj)) (wv 1) (zH z0y (zH z1d (zH z14 (zH z0F (zH z0G (zH z1j (zH kq jB))))))))
@[simp] def z69:FS:=(xF (z3M (eOp (zad false) (zf Pg.yA (za (eC (.str "next")) (za (uN (za (eC (.int 0)) (za (eC (.int 1)) zj))) (za (eC (.int 1)) zj)))) (z0c (za (uN (za (eC (.int 1)) (za (eC (.int 1)) zj))) zj))) (eOp (zad false) (zf Pg.yA (za (eC (.str "turn")) (za (uN (za (eC (.int 1)) (za (eC (.int 1)) zj))) (za (eC (.int 1)) zj)))) (z0c zj))))
def zb0:FS:=(zH z5M z69)
def zd8:Mir:=Mof ["_law_script","_law_at","_law_pot_here","_law_size","_law_most","_law_rule","_law_every_here","_law_goals","_law_goal","_law_due","_law_turn","_law_found"] 1 zb0
end K71
set_option maxHeartbeats 6000000
namespace K71
open PySem.Spec L2 Dd Pg
structure Txt(mg:Str->Option Value):Prop where
 LEAST_SIZE_:∃ t,mg "LEAST_SIZE"=some (.int 2 t)
 MOST_AHEAD_:∃ t,mg "MOST_AHEAD"=some (.int 30 t)
 MOST_LOTS_:∃ t,mg "MOST_LOTS"=some (.int 1000 t)
 MOST_SIZE_:∃ t,mg "MOST_SIZE"=some (.int 4 t)
 all_:mg "all"=none
 bool_:mg "bool"=none
 enumerate_:mg "enumerate"=none
 int_:mg "int"=none
 isinstance_:mg "isinstance"=none
 len_:mg "len"=none
 list_:mg "list"=none
 max_:mg "max"=none
 min_:mg "min"=none
 range_:mg "range"=none
 sorted_:mg "sorted"=none
 str_:mg "str"=none
 tuple_:mg "tuple"=none
 zip_:mg "zip"=none
theorem zbl:bootBuiltins "all"=some (.builtin "all"):=by decide +kernel
theorem z3m:bootBuiltins "bool"=some (.type "bool"):=by decide +kernel
theorem z5Y:bootBuiltins "int"=some (.type "int"):=by decide +kernel
theorem wa:bootBuiltins "len"=some (.builtin "len"):=by decide +kernel
theorem z8M:bootBuiltins "list"=some (.type "list"):=by decide +kernel
theorem jE:bootBuiltins "max"=some (.builtin "max"):=by decide +kernel
theorem z0N:bootBuiltins "min"=some (.builtin "min"):=by decide +kernel
theorem z7T:bootBuiltins "sorted"=some (.builtin "sorted"):=by decide +kernel
theorem z8d:bootBuiltins "str"=some (.type "str"):=by decide +kernel
theorem wG:bootBuiltins "tuple"=some (.type "tuple"):=by decide +kernel
theorem zi8:(["_law_lot_here"]:List Str).Nodup:=by decide +kernel
theorem ziw:(["_law_goal","_law_rule","_law_lot_here"]:List Str).Nodup:=by decide +kernel
theorem zir:(["_law_one","_law_other"]:List Str).Nodup:=by decide +kernel
theorem zi2:(["_law_gone","_law_lot_here","_law_by","_law_place","_law_number"]:List Str).Nodup:=by decide +kernel
theorem zi7:(["_law_place","_law_column"]:List Str).Nodup:=by decide +kernel
theorem zhD:(["_law_line"]:List Str).Nodup:=by decide +kernel
theorem zi4:(["_law_lot_here","_law_place"]:List Str).Nodup:=by decide +kernel
theorem zhC:(["_law_number"]:List Str).Nodup:=by decide +kernel
theorem zik:(["_law_by","_law_place"]:List Str).Nodup:=by decide +kernel
theorem zit:(["_law_lot_here","_law_top","_law_place"]:List Str).Nodup:=by decide +kernel
theorem zg9:(["_law_number","_law_place"]:List Str).Nodup:=by decide +kernel
theorem zgR:(["_law_greatest","_law_number","_law_place"]:List Str).Nodup:=by decide +kernel
theorem zgM:(["part"]:List Str).Nodup:=by decide +kernel
theorem zeX:(["number"]:List Str).Nodup:=by decide +kernel
theorem zgE:(["lot","by","number","quotient"]:List Str).Nodup:=by decide +kernel
theorem zhb:(["divided","lot","by","at"]:List Str).Nodup:=by decide +kernel
theorem zg5:(["place","at"]:List Str).Nodup:=by decide +kernel
theorem zf7:(["lot","most","at","number"]:List Str).Nodup:=by decide +kernel
theorem zee:(["numbers","ahead","greater"]:List Str).Nodup:=by decide +kernel
theorem zgG:(["_law_pot_here","_law_far","_law_place"]:List Str).Nodup:=by decide +kernel
theorem zg7:(["_law_begun","_law_one"]:List Str).Nodup:=by decide +kernel
section
local macro_rules | `(tactic| trivial)=>`(tactic| exact ⟨rfl,rfl,rfl,by decide +kernel,rfl,by decide +kernel,by decide +kernel⟩)
theorem z5e:zv ["thing"] ["thing"] (zg qT):=by trivial
theorem z5g:zv ["thing"] ["thing"] (zg qP):=by trivial
theorem xL:zv ["lot","at"] ["lot"] (zg yH):=by trivial
theorem z1W:zv ["lot"] ["lot"] (zg vJ):=by trivial
theorem z7n:zv ["lot","place"] ["lot","place"] (zg jX):=by trivial
theorem z7D:zv ["thing"] ["thing"] (zg ke):=by trivial
theorem zas:zv ["rule","numbers"] ["rule","numbers"] (zg z33):=by trivial
theorem z1I:zv ["lot","most"] ["lot","most"] (zg vK):=by trivial
theorem jO:zv ["left","divider","most"] ["left","divider","most"] (zg xG):=by trivial
theorem z18:zv ["_law_script","_law_k"] ["_law_script","_law_k"] (zg vo):=by trivial
theorem xV:zv ["_law_cell","_law_number","_law_j","_law_more"] ["_law_cell"] (zg qR):=by trivial
theorem kP:zv ["_law_pot_here","_law_far","_law_found"] ["_law_pot_here","_law_far"] (zg qu):=by trivial
theorem z39:zv ["_law_found"] ["_law_found"] (zg ud):=by trivial
theorem z3f:zv [] [] (zg um):=by trivial
theorem z3l:zv ["_law_lot_here"] ["_law_lot_here"] (zg ux):=by trivial
theorem yr:zv ["_law_rule","_law_lot_here","_law_places","_law_by","_law_top","_law_others","_law_greatest"] ["_law_rule","_law_lot_here"] (zg vf):=by trivial
theorem yT:zv ["_law_size","_law_most","_law_found","_law_place","_law_longer","_law_begun"] ["_law_size","_law_most"] (zg ub):=by trivial
theorem z2Y:zv ["thing","many"] ["thing","many"] (zg uf):=by trivial
theorem z1H:zv ["thing","least","most"] ["thing","least","most"] (zg vI):=by trivial
theorem z26:zv ["lot","greatest","others"] ["lot"] (zg jY):=by trivial
theorem z0R:zv ["lot","greatest","others"] ["lot"] (zg jc):=by trivial
theorem z45:zv ["lot","by"] ["lot"] (zg z0S):=by trivial
theorem z7i:zv ["lot"] ["lot"] (zg kj):=by trivial
theorem z4a:zv ["thing"] ["thing"] (zg ql):=by trivial
theorem xZ:zv ["lot","by","most","found","at","number","numbers"] ["lot","by","most"] (zg uS):=by trivial
theorem z3K:zv ["_law_found","_law_due"] ["_law_found","_law_due"] (zg vB):=by trivial
theorem wQ:zv ["_law_pot_here","_law_size","_law_most","_law_far","_law_found","_law_way","_law_at","_law_to"] ["_law_pot_here","_law_size","_law_most"] (zg jf):=by trivial
theorem yw:zv ["_law_rule","_law_lot_here","_law_by","_law_gone","_law_later","_law_lines","_law_place","_law_line"] ["_law_rule","_law_lot_here"] (zg qr):=by trivial
theorem z8a:zv ["thing"] ["thing"] (zg z0W):=by trivial
theorem qY:zv ["rule","lot","deal","by","divided"] ["rule","lot"] (zg qZ):=by trivial
theorem z1M:zv ["rule","lot","most"] ["rule","lot","most"] (zg vO):=by trivial
theorem z59:zv ["thing"] ["thing"] (zg ji):=by trivial
theorem z43:zv ["lot"] ["lot"] (zg uT):=by trivial
theorem qC:zv ["rule","lot"] ["rule","lot"] (zg yW):=by trivial
theorem z4f:zv ["rule","lot"] ["rule","lot"] (zg uO):=by trivial
theorem z54:zv ["rule","lot","by","quotients","left"] ["rule","lot"] (zg z5R):=by trivial
theorem z5a:zv ["rule","ahead","lot"] ["rule","ahead","lot"] (zg qQ):=by trivial
theorem kw:zv ["rule","lot","most","found","ahead"] ["rule","lot","most"] (zg kn):=by trivial
theorem uB:zv ["_law_script","_law_at","_law_pot_here","_law_size","_law_most","_law_rule","_law_every_here","_law_goals","_law_goal","_law_due","_law_turn","_law_found"] ["_law_script"] (zg z2m):=by trivial
end
section
variable {P:Program}{w:World}{K:W.Frag}{mg:Str->Option Value}{base:Heap}(T:Txt mg){f:Addr}{fd:FuncData}
include T
local macro_rules | `(tactic| trivial)=>`(tactic| first | exact (fun _ _ _ _ _ _ us hl=>match us,hl with | [],_=>rfl) | exact (fun _ _ _ _ _ _ us hl=>match us,hl with | [_],_=>rfl) | exact (fun _ _ _ _ _ _ us hl=>match us,hl with | [_,_],_=>rfl) | exact (fun _ _ _ _ _ _ us hl=>match us,hl with | [_,_,_],_=>rfl))
theorem z4i(F:Fun K "is_whole" "is_whole" qT f fd)(hm:mg "is_whole"=some (.ref f))  : Has P w K mg base CX0 "is_whole" 1 Pg.yF:= (zM F hm (F.binds (ps:=["thing"]) (by trivial)) z5e rfl fun cdv A outer s H E hr hc=> have hu:=hr.units;(zk (zU (z1f (z4S (by decide) z5Y (by rfl) T.isinstance_ (by rfl) T.int_ (zb 0)) (z0B (zcC (z4S (by decide) z3m (by rfl) T.isinstance_ (by rfl) T.bool_ (zb 0))))))))
theorem z3F (F:Fun K "has_size" "has_size" qP f fd) (hm:mg "has_size"=some (.ref f))  : Has P w K mg base CX0 "has_size" 1 Pg.wN:= (zM F hm (F.binds (ps:=["thing"]) (by trivial)) z5g rfl fun cdv A outer s H E hr hc=> have hu:=hr.units;(zk (zU (z1f (z4S (by decide) wG (by rfl) T.isinstance_ (by rfl) T.tuple_ (zb 0)) (z0B (zbM zeL zeL (zfJ (by rfl) T.LEAST_SIZE_) (zD qf (by rfl) T.len_ wa (aN (zb 0) zd) (he:=(zt ..))) (zfJ (by rfl) T.MOST_SIZE_)))))))
theorem ur (F:Fun K "greatest_and_others" "greatest_and_others" yH f fd) (hm:mg "greatest_and_others"=some (.ref f))  : Has P w K mg base CX0 "greatest_and_others" 1 Pg.zp:= (zM F hm (F.binds (ps:=["lot"]) (by trivial)) xL rfl fun cdv A outer s H E hr hc=> have hu:=hr.units;(ze (xC 1 xL.nd (kA (zb 0) (zD (kT (by exact hc)) (by rfl) T.max_ jE (aN (zb 0) zd) (he:=(zt ..))))) (zk (zU (ve (aN (zb 1) (aB (zY wc (zY wc (xz (zb 0) vy (vE (zb 1))) (ve (aK zq zd))) (xz (zb 0) (vE (zY wc (zb 1) zq)) vy)) zd)))))))
theorem z1z (F:Fun K "least_place" "least_place" vJ f fd) (hm:mg "least_place"=some (.ref f))  : Has P w K mg base CX0 "least_place" 1 Pg.zQ:= (zM F hm (F.binds (ps:=["lot"]) (by trivial)) z1W rfl fun cdv A outer s H E hr hc=> have hu:=hr.units;(zk (zU (kA (zb 0) (zD (z6i (by exact hc)) (by rfl) T.min_ z0N (aO (xg ["number"] [none] (by exact hc) (ui (zb 0)) (fun _ _ _=>zR (i:=0) zeX (by rfl) (by first | exact Or.inl rfl | exact Or.inr rfl)) (yf 0 (by rfl)) (fun _ _ _=>wP (zO (zaI hu) (zb 0) zq)) (fun _ _ _=>(zb 0))) zd) (he:=(yP ..)))))))
theorem z5o (F:Fun K "all_but" "all_but" jX f fd) (hm:mg "all_but"=some (.ref f))  : Has P w K mg base CX0 "all_but" 1 Pg.xa:= (zM F hm (F.binds (ps:=["lot","place"]) (by trivial)) z7n rfl fun cdv A outer s H E hr hc=> have hu:=hr.units;(zk (zU (xg ["place","at"] [some 1,none] (by exact hc) (wV (by rfl) T.range_ (aQ (zD qf (by rfl) T.len_ wa (aN (zb 0) zd) (he:=(zt ..))) zd)) (fun _ _ _=>zR (i:=1) zg5 (by rfl) (by first | exact Or.inl rfl | exact Or.inr rfl)) (yf 1 (by rfl)) (fun _ _ _=>wP (zO (zaI hu) (zb 1) (zb 0))) (fun _ _ _=>(zb 1))))))
theorem z5d(F:Fun K "is_rule" "is_rule" ke f fd)(hm:mg "is_rule"=some (.ref f))(T_RULES:zcz P w K mg "RULES" uk):Has P w K mg base CX0 "is_rule" 1 Pg.qo:= (zM F hm (F.binds (ps:=["thing"]) (by trivial)) z7D rfl fun cdv A outer s H E hr hc=> have hu:=hr.units;(zk (zU (z1f (z4S (by decide) z8d (by rfl) T.isinstance_ (by rfl) T.str_ (zb 0)) (z0B (zc4 T_RULES (by rfl) (zb 0)))))))
theorem z9l(F:Fun K "moved" "moved" z33 f fd)(hm:mg "moved"=some (.ref f))  : Has P w K mg base CX0 "moved" 1 Pg.jg:= (zM F hm (F.binds (ps:=["rule","numbers"]) (by trivial)) zas rfl fun cdv A outer s H E hr hc=> have hu:=hr.units;(zk (zU (zfu (zO (z1C hu) (zb 0) kg) (zY wc (xz (zb 1) (vE zq) vy) (xz (zb 1) vy (vE zq))) (zb 1)))))
theorem z1p (F:Fun K "one_greater" "one_greater" vK f fd) (hm:mg "one_greater"=some (.ref f))  : Has P w K mg base CX0 "one_greater" 1 Pg.yS:= (zM F hm (F.binds (ps:=["lot","most"]) (by trivial)) z1I rfl fun cdv A outer s H E hr hc=> have hu:=hr.units;(zk (zU (zdh ["lot","most","at","number"] [some 0,some 1,none,none] 2 3 (by exact hc) (wV (by rfl) T.range_ (aQ (zD qf (by rfl) T.len_ wa (aN (zb 0) zd) (he:=(zt ..))) zd)) (fun _ _ _=>zR (i:=2) zf7 (by rfl) (by first | exact Or.inl rfl | exact Or.inr rfl)) (fun _ _ _=>zR (i:=3) zf7 (by rfl) (by first | exact Or.inl rfl | exact Or.inr rfl)) (fun _ _ _=>(zap (by rfl) T.range_ (aB (zY wc (z0q (zb 0) (zb 2)) zq) (aB (zY wc (zb 1) zq) zd)))) (fun _ _ _=>(zY wc (zY wc (xz (zb 0) vy (vE (zb 2))) (ve (aN (zb 3) zd))) (xz (zb 0) (vE (zY wc (zb 2) zq)) vy)))))))
theorem qW(F:Fun K "numbers_leaving" "numbers_leaving" xG f fd)(hm:mg "numbers_leaving"=some (.ref f))  : Has P w K mg base CX0 "numbers_leaving" 1 Pg.yp:= (zM F hm (F.binds (ps:=["left","divider","most"]) (by trivial)) jO rfl fun cdv A outer s H E hr hc=> have hu:=hr.units;(zk (zU (zfu (zO zgr (zb 0) (zb 1)) (z47 (by exact hc) (by rfl) T.list_ (by rfl) T.range_ (aN (zb 0) (aB (zY wc (zb 2) zq) (aN (zb 1) zd)))) (qB zd)))))
theorem z07 (F:Fun K "_law_cell_at" "_law_cell_at" vo f fd) (hm:mg "_law_cell_at"=some (.ref f))  : Has P w K mg base CX0 "_law_cell_at" 1 Pg.yE:= (zM F hm (F.binds (ps:=["_law_script","_law_k"]) (by trivial)) z18 rfl fun cdv A outer s H E hr hc=> have hu:=hr.units;(ze (jA (zO zgr (zb 1) (zD qf (by rfl) T.len_ wa (aN (zb 0) zd) (he:=(zt ..)))) (zk (zU (z0q (zb 0) (zb 1)))) yg) (zk (zU zq))))
theorem z4h(F:Fun K "_law_pot" "_law_pot" qR f fd)(hm:mg "_law_pot"=some (.ref f))  : Has P w K mg base CX0 "_law_pot" 1 Pg.wK:= (zM F hm (F.binds (ps:=["_law_cell"]) (by trivial)) xV rfl fun cdv A outer s H E hr hc=> have hu:=hr.units;(ze (jA (zO zhI (zb 0) (zY zao zq zq)) (zk (zU (z77 (aB (zY zaM (zb 0) (zY zao zq zq)) zd)))) yg) (ze (xC 1 xV.nd zq) (ze (z2B PassesOwn.never hc (wV (by rfl) T.range_ (aK zq zd)) (kH 2 xV.nd) (ze (xC 3 xV.nd (zY z8E (zY z22 (zY wc (zY wc (zY z8E (zb 0) zq) (zY z22 zq (zb 2))) zq) zq) zq)) (ze (xC 3 xV.nd (zY z8E (zY wc (zY wc (zY z22 (zb 3) (zb 3)) (zY z22 zq (zb 2))) zq) zq)) (zk (xC 1 xV.nd (zY wc (zY z22 (zb 1) zq) (zb 3))))))) (zk (zU (z77 (aN (zb 1) zd))))))))
theorem z2O(F:Fun K "_law_take" "_law_take" qu f fd)(hm:mg "_law_take"=some (.ref f))  : Has P w K mg base CX0 "_law_take" 1 Pg.zA:= (zM F hm (F.binds (ps:=["_law_pot_here","_law_far"]) (by trivial)) kP rfl fun cdv A outer s H E hr hc=> have hu:=hr.units;(ze (xC 2 kP.nd (zY z8E (z0q (zb 0) zq) (zb 1))) (ze (z4B (zY z9n (z0q (zb 0) zq) (zb 1)) (zb 0) zq) (zk (zU (zb 2))))))
theorem z1E(F:Fun K "_law_whole" "_law_whole" ud f fd)(hm:mg "_law_whole"=some (.ref f))  : Has P w K mg base CX0 "_law_whole" 1 Pg.yQ:= (zM F hm (F.binds (ps:=["_law_found"]) (by trivial)) z39 rfl fun cdv A outer s H E hr hc=> have hu:=hr.units;(zk (zU (z1f (z4S (by decide) z5Y (by rfl) T.isinstance_ (by rfl) T.int_ (zb 0)) (z0B (zcC (z4S (by decide) z3m (by rfl) T.isinstance_ (by rfl) T.bool_ (zb 0))))))))
theorem z1L(F:Fun K "_law_rules" "_law_rules" um f fd)(hm:mg "_law_rules"=some (.ref f))  : Has P w K mg base CX0 "_law_rules" 1 Pg.yN:= (zM F hm (F.binds (ps:=[]) (by trivial)) z3f rfl fun cdv A outer s H E hr hc=> have hu:=hr.units;(zk (zU (qB (aK kg (aK kg (aK kg (aK kg zd))))))))
theorem z1V (F:Fun K "_law_ended" "_law_ended" ux f fd) (hm:mg "_law_ended"=some (.ref f))  : Has P w K mg base CX0 "_law_ended" 1 Pg.ya:= (zM F hm (F.binds (ps:=["_law_lot_here"]) (by trivial)) z3l rfl fun cdv A outer s H E hr hc=> have hu:=hr.units;(zk (zU (vT zgr (zD qf (by rfl) T.len_ wa (aO (xg ["_law_number"] [none] (by exact hc) (ui (zb 0)) (fun _ _ _=>zR (i:=0) zhC (by rfl) (by first | exact Or.inl rfl | exact Or.inr rfl)) (yf 0 (by rfl)) (fun _ _ _=>wP (zO zdp (zb 0) zq)) (fun _ _ _=>(zb 0))) zd) (he:=(yP ..))) zq))))
theorem z0g (F:Fun K "_law_divides" "_law_divides" vf f fd) (hm:mg "_law_divides"=some (.ref f))  : Has P w K mg base CX0 "_law_divides" 1 Pg.yh:= (zM F hm (F.binds (ps:=["_law_rule","_law_lot_here"]) (by trivial)) yr rfl fun cdv A outer s H E hr hc=> have hu:=hr.units;(ze (xC 2 yr.nd (z5j (by exact hc) (by rfl) T.list_ (by rfl) T.range_ (aQ (zD qf (by rfl) T.len_ wa (aN (zb 1) zd) (he:=(zt ..))) zd))) (ze (jA (zO (z1C hu) (zb 0) kg) (zk (zU (ve (aK zq (aO (xg ["_law_lot_here","_law_place"] [some 1,none] (by exact hc) (ui (xz (zb 2) (vE zq) vy)) (fun _ _ _=>zR (i:=1) zi4 (by rfl) (by first | exact Or.inl rfl | exact Or.inr rfl)) (yf 1 (by rfl)) (fun _ _ _=>wP (zO zdp (z0q (zb 0) zq) zq)) (fun _ _ _=>(zb 1))) zd))))) yg) (ze (jA (zO (z1C hu) (zb 0) kg) (ze (xC 3 yr.nd (kA (zb 1) (zD (z6i (by exact hc)) (by rfl) T.min_ z0N (aO (xg ["_law_number"] [none] (by exact hc) (ui (zb 1)) (fun _ _ _=>zR (i:=0) zhC (by rfl) (by first | exact Or.inl rfl | exact Or.inr rfl)) (yf 0 (by rfl)) (fun _ _ _=>wP (zO zdp (zb 0) zq)) (fun _ _ _=>(zb 0))) zd) (he:=(yP ..))))) (zk (zU (ve (aN (zb 3) (aO (xg ["_law_by","_law_place"] [some 3,none] (by exact hc) (ui (zb 2)) (fun _ _ _=>zR (i:=1) zik (by rfl) (by first | exact Or.inl rfl | exact Or.inr rfl)) (yf 1 (by rfl)) (fun _ _ _=>wP (zO (zaI hu) (zb 1) (zb 0))) (fun _ _ _=>(zb 1))) zd)))))) yg) (ze (xC 4 yr.nd (kA (zb 1) (zD (kT (by exact hc)) (by rfl) T.max_ jE (aN (zb 1) zd) (he:=(zt ..))))) (ze (z1v 5 ["_law_lot_here","_law_top","_law_place"] [some 1,some 4,none] yr.nd hc (ui (zb 2)) (fun _ _ _=>zR (i:=2) zit (by rfl) (by first | exact Or.inl rfl | exact Or.inr rfl)) (yf 2 (by rfl)) (fun _ _ _=>wP (RW.rt (w_and (zO (zaI hu) (zb 2) (zb 1)) (zaX (zO zdp (z0q (zb 0) (zb 2)) zq))))) (fun _ _ _=>(ve (aS (z0q (zb 0) (zb 2)) (aN (zb 2) zd))))) (ze (jA (zO (z1C hu) (zb 0) kg) (zk (zU (ve (aS (z0q (zD (zdu (by exact hc) hu) (by rfl) T.min_ z0N (aN (zb 5) zd) (he:=(zt ..))) zq) (aL (qB (aN (zb 4) zd)) zd))))) yg) (ze (xC 6 yr.nd (zD (kT (by exact hc)) (by rfl) T.max_ jE (aO (xg ["_law_number","_law_place"] [none,none] (by exact hc) (ui (zb 5)) (fun _ _ _=>jJ 0 1 (by exact hc) zg9) (jq 0 1 (by decide) (by rfl) (by rfl)) (fun _ _ _=>vp) (fun _ _ _=>(zb 0))) zd) (he:=(yP ..)))) (zk (zU (ve (aQ (zD (z6i (by exact hc)) (by rfl) T.min_ z0N (aO (xg ["_law_greatest","_law_number","_law_place"] [some 6,none,none] (by exact hc) (ui (zb 5)) (fun _ _ _=>jJ 1 2 (by exact hc) zgR) (jq 1 2 (by decide) (by rfl) (by rfl)) (fun _ _ _=>wP (zO (z1C hu) (zb 1) (zb 0))) (fun _ _ _=>(zb 2))) zd) (he:=(yP ..))) (aL (qB (aN (zb 4) zd)) zd)))))))))))))
theorem z1K(F:Fun K "_law_every" "_law_every" ub f fd)(hm:mg "_law_every"=some (.ref f))  : Has P w K mg base CX0 "_law_every" 1 xk:= (zM F hm (F.binds (ps:=["_law_size","_law_most"]) (by trivial)) yT rfl fun cdv A outer s H E hr hc=> have hu:=hr.units;(ze (xC 2 yT.nd (qB (aT (ve zd) zd))) (ze (z2B PassesOwn.never hc (wV (by rfl) T.range_ (aN (zb 0) zd)) (kH 3 yT.nd) (ze (xC 4 yT.nd (z77 zd)) (ze (z2B PassesOwn.never hc (ui (zb 2)) (kH 5 yT.nd) (zk (uF (z9H (zb 4) (xg ["_law_begun","_law_one"] [some 5,none] (by exact hc) (wV (by rfl) T.range_ (aB (zY wc (zb 1) zq) zd)) (fun _ _ _=>zR (i:=1) zg7 (by rfl) (by first | exact Or.inl rfl | exact Or.inr rfl)) (yf 1 (by rfl)) (fun _ _ _=>vp) (fun _ _ _=>(zY wc (zb 0) (ve (aN (zb 1) zd))))))))) (zk (xC 2 yT.nd (zb 4)))))) (zk (zU (xz (zb 2) (vE zq) vy)))))).tidy
theorem z1O (F:Fun K "are_wholes" "are_wholes" uf f fd) (hm:mg "are_wholes"=some (.ref f)) (H_is_whole:Has P w K mg base CX0 "is_whole" 1 Pg.yF):Has P w K mg base CX0 "are_wholes" 2 Pg.xi:= (zM F hm (F.binds (ps:=["thing","many"]) (by trivial)) z2Y rfl fun cdv A outer s H E hr hc=> have hu:=hr.units;(ze (jA (RW.rt (zfC (z3i (km (z4S (by decide) wG (by rfl) T.isinstance_ (by rfl) T.tuple_ (zb 0)))) (zaT (zO (zaI hu) (zD qf (by rfl) T.len_ wa (aN (zb 0) zd) (he:=(zt ..))) (zb 1))))) (zk (zU zfH)) yg) (zk (zU (zD (ze2 (by exact hc)) (by rfl) T.all_ zbl (aO (xg ["part"] [none] (by exact hc) (ui (zb 0)) (fun _ _ _=>zR (i:=0) zgM (by rfl) (by first | exact Or.inl rfl | exact Or.inr rfl)) (yf 0 (by rfl)) (fun _ _ _=>vp) (fun _ _ _=>(zw H_is_whole (hr.mono (by decide)) zN (by rfl) (aN (zb 0) zd)))) zd) (he:=(yP ..)))))))
theorem z1h(F:Fun K "want_number" "want_number" vI f fd)(hm:mg "want_number"=some (.ref f))(H_is_whole:Has P w K mg base CX0 "is_whole" 1 Pg.yF):Has P w K mg base CX0 "want_number" 2 Pg.xp:= (zM F hm (F.binds (ps:=["thing","least","most"]) (by trivial)) z1H rfl fun cdv A outer s H E hr hc=> have hu:=hr.units;(zk (jA (RW.rt (zfC (z3i (km (zw H_is_whole (hr.mono (by decide)) zN (by rfl) (aN (zb 0) zd)))) (zaT (z3i (zcS zeL zeL (zb 1) (zb 0) (zb 2)))))) (zk z0X) yg)))
theorem z5S (F:Fun K "by_next" "by_next" jY f fd) (hm:mg "by_next"=some (.ref f)) (H_greatest_and_others:Has P w K mg base CX0 "greatest_and_others" 1 Pg.zp):Has P w K mg base CX0 "by_next" 2 Pg.wd:= (zM F hm (F.binds (ps:=["lot"]) (by trivial)) z26 rfl fun cdv A outer s H E hr hc=> have hu:=hr.units;(ze (z98 (zw H_greatest_and_others (hr.mono (by decide)) zN (by rfl) (aN (zb 0) zd)) (z2i 1 2 hc z26.nd)) (zk (zU (ve (aQ (kA (zb 2) (zD (kT (by exact hc)) (by rfl) T.max_ jE (aN (zb 2) zd) (he:=(zt ..)))) (aL (qB (aN (zb 1) zd)) zd)))))))
theorem z4P(F:Fun K "by_least" "by_least" jc f fd)(hm:mg "by_least"=some (.ref f))(H_greatest_and_others:Has P w K mg base CX0 "greatest_and_others" 1 Pg.zp)(H_least_place:Has P w K mg base CX0 "least_place" 1 Pg.zQ):Has P w K mg base CX0 "by_least" 2 Pg.xj:= (zM F hm (F.binds (ps:=["lot"]) (by trivial)) z0R rfl fun cdv A outer s H E hr hc=> have hu:=hr.units;(ze (z98 (zw H_greatest_and_others (hr.mono (by decide)) zN (by rfl) (aN (zb 0) zd)) (z2i 1 2 hc z0R.nd)) (zk (zU (ve (aQ (zw H_least_place (hr.mono (by decide)) zN (by rfl) (aN (zb 2) zd)) (aL (qB (aN (zb 1) zd)) zd)))))))
theorem z7C(F:Fun K "by_all" "by_all" z0S f fd)(hm:mg "by_all"=some (.ref f))(H_least_place:Has P w K mg base CX0 "least_place" 1 Pg.zQ)(H_all_but:Has P w K mg base CX0 "all_but" 1 Pg.xa):Has P w K mg base CX0 "by_all" 2 Pg.vF:= (zM F hm (F.binds (ps:=["lot"]) (by trivial)) z45 rfl fun cdv A outer s H E hr hc=> have hu:=hr.units;(ze (xC 1 z45.nd (zw H_least_place (hr.mono (by decide)) zN (by rfl) (aN (zb 0) zd))) (zk (zU (ve (aN (zb 1) (aQ (zw H_all_but (hr.mono (by decide)) zN (by rfl) (aN (zb 0) (aN (zb 1) zd))) zd)))))))
theorem z5B(F:Fun K "by_turn" "by_turn" kj f fd)(hm:mg "by_turn"=some (.ref f))(H_all_but:Has P w K mg base CX0 "all_but" 1 Pg.xa):Has P w K mg base CX0 "by_turn" 2 Pg.wb:= (zM F hm (F.binds (ps:=["lot"]) (by trivial)) z7i rfl fun cdv A outer s H E hr hc=> have hu:=hr.units;(ze (jA (zO (z1C hu) (z0q (zb 0) zq) zq) (zk (zU (ve (aK zq (aL (qB zd) zd))))) yg) (zk (zU (ve (aK zq (aQ (zw H_all_but (hr.mono (by decide)) zN (by rfl) (aN (zb 0) (aK zq zd))) zd)))))))
theorem z3t(F:Fun K "want_rule" "want_rule" ql f fd)(hm:mg "want_rule"=some (.ref f))(H_is_rule:Has P w K mg base CX0 "is_rule" 1 Pg.qo):Has P w K mg base CX0 "want_rule" 2 Pg.xU:= (zM F hm (F.binds (ps:=["thing"]) (by trivial)) z4a rfl fun cdv A outer s H E hr hc=> have hu:=hr.units;(zk (jA (z3i (km (zw H_is_rule (hr.mono (by decide)) zN (by rfl) (aN (zb 0) zd)))) (zk z0X) yg)))
theorem z2L(F:Fun K "undivided" "undivided" uS f fd)(hm:mg "undivided"=some (.ref f))(H_numbers_leaving:Has P w K mg base CX0 "numbers_leaving" 1 Pg.yp):Has P w K mg base CX0 "undivided" 2 Pg.xT:= (zM F hm (F.binds (ps:=["lot","by","most"]) (by trivial)) xZ rfl fun cdv A outer s H E hr hc=> have hu:=hr.units;(ze (jA (zO (z1C hu) (z0q (zb 0) (zb 1)) zq) (zk (zU (qB (aN (zb 0) zd)))) yg) (ze (xC 3 xZ.nd (qB (aT (ve zd) zd))) (ze (z2B PassesOwn.never hc (zbd (by rfl) T.enumerate_ (aN (zb 0) zd)) (z2i 4 5 hc xZ.nd) (ze (xC 6 xZ.nd (zfu (zO (z1C hu) (zb 4) (zb 1)) (qB (aN (zb 5) zd)) (zw H_numbers_leaving (hr.mono (by decide)) zN (by rfl) (aN (zb 5) (aS (z0q (zb 0) (zb 1)) (aN (zb 2) zd)))))) (zk (zd7 3 ["numbers","ahead","greater"] [some 6,none,none] 1 2 xZ.nd hc (ui (zb 3)) (fun _ _ _=>zR (i:=1) zee (by rfl) (by first | exact Or.inl rfl | exact Or.inr rfl)) (fun _ _ _=>zR (i:=2) zee (by rfl) (by first | exact Or.inl rfl | exact Or.inr rfl)) (fun _ _ _=>(ui (zb 0))) (fun _ _ _=>(zY wc (zb 1) (ve (aN (zb 2) zd)))))))) (zk (zU (zb 3)))))))
theorem xW (F:Fun K "_law_same" "_law_same" vB f fd) (hm:mg "_law_same"=some (.ref f)) (H__law_whole:Has P w K mg base CX0 "_law_whole" 1 Pg.yQ) (k:Nat) (Hr:Has P w K mg base CX0 "_law_same" (k+1) (Pg.zF k)):Has P w K mg base CX0 "_law_same" (k+1+1) (Pg.zF (k+1)):= (zM F hm (F.binds (ps:=["_law_found","_law_due"]) (by trivial)) z3K rfl fun cdv A outer s H E hr hc=> have hu:=hr.units;(ze (jA (zO zhO (zb 1) zeM) (zk (zU (vT zhO (zb 0) zeM))) yg) (ze (jA (km (z4S (by decide) z3m (by rfl) T.isinstance_ (by rfl) T.bool_ (zb 1))) (zk (zU (z1f (z4S (by decide) z3m (by rfl) T.isinstance_ (by rfl) T.bool_ (zb 0)) (z0B (vT (z1C hu) (zb 0) (zb 1)))))) yg) (ze (jA (km (z4S (by decide) z5Y (by rfl) T.isinstance_ (by rfl) T.int_ (zb 1))) (zk (zU (z1f (zw H__law_whole (hr.mono (by omega)) zN (by rfl) (aN (zb 0) zd)) (z0B (vT (z1C hu) (zb 0) (zb 1)))))) yg) (ze (jA (km (z4S (by decide) z8d (by rfl) T.isinstance_ (by rfl) T.str_ (zb 1))) (zk (zU (z1f (z4S (by decide) z8d (by rfl) T.isinstance_ (by rfl) T.str_ (zb 0)) (z0B (vT (z1C hu) (zb 0) (zb 1)))))) yg) (ze (jA (RW.rt (zfC (zO (zaI hu) (z4S (by decide) wG (by rfl) T.isinstance_ (by rfl) T.tuple_ (zb 1)) (z4S (by decide) wG (by rfl) T.isinstance_ (by rfl) T.tuple_ (zb 0))) (zaT (zO (zaI hu) (z4S (by decide) z8M (by rfl) T.isinstance_ (by rfl) T.list_ (zb 1)) (z4S (by decide) z8M (by rfl) T.isinstance_ (by rfl) T.list_ (zb 0)))))) (zk (zU zfH)) yg) (zk (zU (z1f (vT (z1C hu) (zD qf (by rfl) T.len_ wa (aN (zb 0) zd) (he:=(zt ..))) (zD qf (by rfl) T.len_ wa (aN (zb 1) zd) (he:=(zt ..)))) (z0B (zD (ze2 (by exact hc)) (by rfl) T.all_ zbl (aO (xg ["_law_one","_law_other"] [none,none] (by exact hc) (zec (by rfl) T.zip_ (aN (zb 0) (aN (zb 1) zd))) (fun _ _ _=>jJ 0 1 (by exact hc) zir) (jq 0 1 (by decide) (by rfl) (by rfl)) (fun _ _ _=>vp) (fun _ _ _=>(zw Hr hr zN (by rfl) (aN (zb 0) (aN (zb 1) zd))))) zd) (he:=(yP ..)))))))))))))
theorem z2C(F:Fun K "_law_same" "_law_same" vB f fd)(hm:mg "_law_same"=some (.ref f))(H__law_whole:Has P w K mg base CX0 "_law_whole" 1 Pg.yQ):Has P w K mg base CX0 "_law_same" 5 Pg.xY:= (xW T F hm H__law_whole 3 (xW T F hm H__law_whole 2 (xW T F hm H__law_whole 1 (xW T F hm H__law_whole 0 ((zfk F hm (F.binds (ps:=["_law_found","_law_due"]) (by trivial))).mono (by decide))))))
theorem z4D (F:Fun K "_law_lot" "_law_lot" jf f fd) (hm:mg "_law_lot"=some (.ref f)) (H__law_take:Has P w K mg base CX0 "_law_take" 1 Pg.zA):Has P w K mg base CX0 "_law_lot" 2 Pg.yV:= (zM F hm (F.binds (ps:=["_law_pot_here","_law_size","_law_most"]) (by trivial)) wQ rfl fun cdv A outer s H E hr hc=> have hu:=hr.units;(ze (xC 3 wQ.nd (zD (zb2 (by exact hc)) (by rfl) T.min_ z0N (aB (zY wc (zb 2) zq) (aS (z0q (qB (aK zq (aK zq (aK zq (aB (zY zao zq zq) (aB (zY zao zq zq) zd)))))) (zw H__law_take (hr.mono (by decide)) zN (by rfl) (aN (zb 0) (aK zq zd)))) zd)) (he:=(z2Z ..)))) (ze (z7P 4 ["_law_pot_here","_law_far","_law_place"] [some 0,some 3,none] wQ.nd hc (wV (by rfl) T.range_ (aN (zb 1) zd)) (fun _ _ _=>zR (i:=2) zgG (by rfl) (by first | exact Or.inl rfl | exact Or.inr rfl)) (yf 2 (by rfl)) (fun _ _ _=>vp) (fun _ _ _=>(zw H__law_take (hr.mono (by decide)) zN (by rfl) (aN (zb 0) (aN (zb 1) zd))))) (ze (xC 5 wQ.nd (zw H__law_take (hr.mono (by decide)) zN (by rfl) (aN (zb 0) (aK zq zd)))) (ze (zfW 6 7 hc wQ.nd (aQ (zw H__law_take (hr.mono (by decide)) zN (by rfl) (aN (zb 0) (aN (zb 1) zd))) (aQ (zw H__law_take (hr.mono (by decide)) zN (by rfl) (aN (zb 0) (aN (zb 1) zd))) zd))) (ze (jA (zO (z1C hu) (zb 5) zq) (zk (z4B zq (zb 4) (zb 6))) yg) (ze (jA (zO (z1C hu) (zb 5) zq) (zk (z4B (z0q (zb 4) (zb 7)) (zb 4) (zb 6))) yg) (ze (jA (zO (z1C hu) (zD (kT (by exact hc)) (by rfl) T.max_ jE (aN (zb 4) zd) (he:=(zt ..))) zq) (zk (z4B (zY wc zq (zw H__law_take (hr.mono (by decide)) zN (by rfl) (aN (zb 0) (aB (zY zaM (zb 3) zq) zd)))) (zb 4) (zb 7))) yg) (zk (zU (kz z0O (by rfl) T.tuple_ wG (aN (zb 4) zd) (he:=(zt ..))))))))))))).tidy
theorem z3k (F:Fun K "_law_step" "_law_step" qr f fd) (hm:mg "_law_step"=some (.ref f)) (H__law_divides:Has P w K mg base CX0 "_law_divides" 1 Pg.yh):Has P w K mg base CX0 "_law_step" 2 Pg.zJ:= (zM F hm (F.binds (ps:=["_law_rule","_law_lot_here"]) (by trivial)) yw rfl fun cdv A outer s H E hr hc=> have hu:=hr.units;(ze (z98 (zw H__law_divides (hr.mono (by decide)) zN (by rfl) (aN (zb 0) (aN (zb 1) zd))) (z2i 2 3 hc yw.nd)) (ze (z1v 4 ["_law_gone","_law_lot_here","_law_by","_law_place","_law_number"] [some 3,some 1,some 2,none,none] yw.nd hc (zbd (by rfl) T.enumerate_ (aN (zb 1) zd)) (fun _ _ _=>jJ 3 4 (by exact hc) zi2) (jq 3 4 (by decide) (by rfl) (by rfl)) (fun _ _ _=>vp) (fun _ _ _=>(zfu (zO zgS (zb 3) (zb 0)) (zY z8E (zb 4) (z0q (zb 1) (zb 2))) (zb 4)))) (ze (xC 5 yw.nd (z77 zd)) (ze (z2B PassesOwn.never hc (wV (by rfl) T.range_ (aQ (zD qf (by rfl) T.len_ wa (aN (zb 1) zd) (he:=(zt ..))) zd)) (kH 6 yw.nd) (zdj 7 (z7P 7 ["_law_place","_law_column"] [some 6,none] yw.nd hc (wV (by rfl) T.range_ (aQ (zD qf (by rfl) T.len_ wa (aN (zb 1) zd) (he:=(zt ..))) zd)) (fun _ _ _=>zR (i:=1) zi7 (by rfl) (by first | exact Or.inl rfl | exact Or.inr rfl)) (yf 1 (by rfl)) (fun _ _ _=>vp) (fun _ _ _=>(kz zgj (by rfl) T.int_ z5Y (aM (vT (z1C hu) (zb 0) (zb 1)) zd) (he:=(z6S ..))))) (jA (zO zgS (zb 6) (zb 3)) (zk (z4B (zY z9n (z0q (zb 1) (zb 6)) (z0q (zb 1) (zb 2))) (zb 7) (zb 2))) yg) (zk (uF (z0o (zb 5) (zb 7)))))) (ze (jA (zO (z1C hu) (zb 0) kg) (ze (xC 4 yw.nd (zY wc (xz (zb 4) (vE zq) vy) (xz (zb 4) vy (vE zq)))) (zk (z1v 5 ["_law_line"] [none] yw.nd hc (ui (zb 5)) (fun _ _ _=>zR (i:=0) zhD (by rfl) (by first | exact Or.inl rfl | exact Or.inr rfl)) (yf 0 (by rfl)) (fun _ _ _=>vp) (fun _ _ _=>(zY wc (xz (zb 0) (vE zq) vy) (xz (zb 0) vy (vE zq))))))) yg) (zk (zU (ve (aQ (kz z0O (by rfl) T.tuple_ wG (aN (zb 4) zd) (he:=(zt ..))) (aQ (kz z0O (by rfl) T.tuple_ wG (aO (xg ["_law_line"] [none] (by exact hc) (ui (zb 5)) (fun _ _ _=>zR (i:=0) zhD (by rfl) (by first | exact Or.inl rfl | exact Or.inr rfl)) (yf 0 (by rfl)) (fun _ _ _=>vp) (fun _ _ _=>(kz z0O (by rfl) T.tuple_ wG (aN (zb 0) zd) (he:=(zt ..))))) zd) (he:=(yP ..))) zd))))))))))).tidy
theorem z7j (F:Fun K "is_lot" "is_lot" z0W f fd) (hm:mg "is_lot"=some (.ref f)) (H_has_size:Has P w K mg base CX0 "has_size" 1 Pg.wN) (H_are_wholes:Has P w K mg base CX0 "are_wholes" 2 Pg.xi):Has P w K mg base CX0 "is_lot" 3 Pg.uu:= (zM F hm (F.binds (ps:=["thing"]) (by trivial)) z8a rfl fun cdv A outer s H E hr hc=> have hu:=hr.units;(ze (jA (RW.rt (zfC (z3i (km (zw H_has_size (hr.mono (by decide)) zN (by rfl) (aN (zb 0) zd)))) (zaT (z3i (km (zw H_are_wholes (hr.mono (by decide)) zN (by rfl) (aN (zb 0) (aQ (zD qf (by rfl) T.len_ wa (aN (zb 0) zd) (he:=(zt ..))) zd)))))))) (zk (zU zfH)) yg) (zk (zU (z1f (vT zhI (zD (z6i (by exact hc)) (by rfl) T.min_ z0N (aN (zb 0) zd) (he:=(zt ..))) zq) (z0B (vT zdp (zD (kT (by exact hc)) (by rfl) T.max_ jE (aN (zb 0) zd) (he:=(zt ..))) zq)))))))
theorem z4k (F:Fun K "division" "division" qZ f fd) (hm:mg "division"=some (.ref f)) (T_RULES:zcz P w K mg "RULES" uk) (H_by_next:Has P w K mg base CX0 "by_next" 2 Pg.wd) (H_by_least:Has P w K mg base CX0 "by_least" 2 Pg.xj) (H_by_all:Has P w K mg base CX0 "by_all" 2 Pg.vF) (H_by_turn:Has P w K mg base CX0 "by_turn" 2 Pg.wb):Has P w K mg base CX0 "division" 3 Pg.xO:= (zM F hm (F.binds (ps:=["rule","lot"]) (by trivial)) qY rfl fun cdv A outer s H E hr hc=> have hu:=hr.units;(ze (xC 2 qY.nd (zgd T_RULES (by rfl) (zb 0) (fun _ _=>rfl))) (ze (z98 (zbW (n:=2) 2 (jm (Has.mono H_by_next (by decide)) (jm (Has.mono H_by_least (by decide)) (jm (Has.mono H_by_all (by decide)) (jm (Has.mono H_by_turn (by decide)) z9P)))) (hr.mono (by decide)) zN (aN (zb 1) zd) (he:=(zt ..))) (z2i 3 4 hc qY.nd)) (zk (zU (ve (aN (zb 3) (aO (xg ["divided","lot","by","at"] [some 4,some 1,some 3,none] (by exact hc) (wV (by rfl) T.range_ (aQ (zD qf (by rfl) T.len_ wa (aN (zb 1) zd) (he:=(zt ..))) zd)) (fun _ _ _=>zR (i:=3) zhb (by rfl) (by first | exact Or.inl rfl | exact Or.inr rfl)) (yf 3 (by rfl)) (fun _ _ _=>vp) (fun _ _ _=>(zfu (zO zgS (zb 3) (zb 0)) (zY z9n (z0q (zb 1) (zb 3)) (z0q (zb 1) (zb 2))) zq))) zd))))))))
theorem z16 (F:Fun K "maybe_ahead" "maybe_ahead" vO f fd) (hm:mg "maybe_ahead"=some (.ref f)) (H_one_greater:Has P w K mg base CX0 "one_greater" 1 Pg.yS) (H_undivided:Has P w K mg base CX0 "undivided" 2 Pg.xT):Has P w K mg base CX0 "maybe_ahead" 3 Pg.xq:= (zM F hm (F.binds (ps:=["rule","lot","most"]) (by trivial)) z1M rfl fun cdv A outer s H E hr hc=> have hu:=hr.units;(ze (jA (zO (z1C hu) (zb 0) kg) (zk (zU (zw H_undivided (hr.mono (by decide)) zN (by rfl) (aB (zY wc (xz (zb 1) (vE (zez zq)) vy) (xz (zb 1) vy (vE (zez zq)))) (aK zq (aN (zb 2) zd))) (he:=(z2Z ..))))) yg) (ze (jA (zO (z1C hu) (zb 0) kg) (zk (zU (zw H_undivided (hr.mono (by decide)) zN (by rfl) (aN (zb 1) (aQ (kA (zb 1) (zD (kT (by exact hc)) (by rfl) T.max_ jE (aN (zb 1) zd) (he:=(zt ..)))) (aN (zb 2) zd)))))) yg) (zk (zU (zw H_one_greater (hr.mono (by decide)) zN (by rfl) (aN (zb 1) (aN (zb 2) zd))))))))
theorem z3X(F:Fun K "want_lot" "want_lot" ji f fd)(hm:mg "want_lot"=some (.ref f))(H_is_lot:Has P w K mg base CX0 "is_lot" 3 Pg.uu):Has P w K mg base CX0 "want_lot" 4 Pg.yD:= (zM F hm (F.binds (ps:=["thing"]) (by trivial)) z59 rfl fun cdv A outer s H E hr hc=> have hu:=hr.units;(zk (jA (z3i (km (zw H_is_lot (hr.mono (by decide)) zN (by rfl) (aN (zb 0) zd)))) (zk z0X) yg)))
theorem z2K (F:Fun K "has_ended" "has_ended" uT f fd) (hm:mg "has_ended"=some (.ref f)) (H_want_lot:Has P w K mg base CX0 "want_lot" 4 Pg.yD):Has P w K mg base CX0 "has_ended" 5 Pg.yx:= (zM F hm (F.binds (ps:=["lot"]) (by trivial)) z43 rfl fun cdv A outer s H E hr hc=> have hu:=hr.units;(ze (uF (zw H_want_lot (hr.mono (by decide)) zN (by rfl) (aN (zb 0) zd))) (zk (zU (vT (z1C hu) (zD qf (by rfl) T.len_ wa (aO (xg ["number"] [none] (by exact hc) (ui (zb 0)) (fun _ _ _=>zR (i:=0) zeX (by rfl) (by first | exact Or.inl rfl | exact Or.inr rfl)) (yf 0 (by rfl)) (fun _ _ _=>wP (zO (zaI hu) (zb 0) zq)) (fun _ _ _=>(zb 0))) zd) (he:=(yP ..))) zq)))))
theorem uZ(F:Fun K "want_rule_and_lot" "want_rule_and_lot" yW f fd)(hm:mg "want_rule_and_lot"=some (.ref f))(H_want_rule:Has P w K mg base CX0 "want_rule" 2 Pg.xU)(H_want_lot:Has P w K mg base CX0 "want_lot" 4 Pg.yD):Has P w K mg base CX0 "want_rule_and_lot" 5 Pg.zy:= (zM F hm (F.binds (ps:=["rule","lot"]) (by trivial)) qC rfl fun cdv A outer s H E hr hc=> have hu:=hr.units;(ze (uF (zw H_want_rule (hr.mono (by decide)) zN (by rfl) (aN (zb 0) zd))) (zk (uF (zw H_want_lot (hr.mono (by decide)) zN (by rfl) (aN (zb 1) zd))))))
theorem z3r(F:Fun K "want_step" "want_step" uO f fd)(hm:mg "want_step"=some (.ref f))(H_has_ended:Has P w K mg base CX0 "has_ended" 5 Pg.yx)(H_want_rule_and_lot:Has P w K mg base CX0 "want_rule_and_lot" 5 Pg.zy):Has P w K mg base CX0 "want_step" 6 Pg.xh:= (zM F hm (F.binds (ps:=["rule","lot"]) (by trivial)) z4f rfl fun cdv A outer s H E hr hc=> have hu:=hr.units;(ze (uF (zw H_want_rule_and_lot (hr.mono (by decide)) zN (by rfl) (aN (zb 0) (aN (zb 1) zd)))) (zk (jA (km (zw H_has_ended (hr.mono (by decide)) zN (by rfl) (aN (zb 1) zd))) (zk z0X) yg))))
theorem za1 (F:Fun K "step" "step" z5R f fd) (hm:mg "step"=some (.ref f)) (H_moved:Has P w K mg base CX0 "moved" 1 Pg.jg) (H_division:Has P w K mg base CX0 "division" 3 Pg.xO) (H_want_step:Has P w K mg base CX0 "want_step" 6 Pg.xh):Has P w K mg base CX0 "step" 7 Pg.M_step:= (zM F hm (F.binds (ps:=["rule","lot"]) (by trivial)) z54 rfl fun cdv A outer s H E hr hc=> have hu:=hr.units;(ze (uF (zw H_want_step (hr.mono (by decide)) zN (by rfl) (aN (zb 0) (aN (zb 1) zd)))) (ze (z98 (zw H_division (hr.mono (by decide)) zN (by rfl) (aN (zb 0) (aN (zb 1) zd))) (z2i 2 3 hc z54.nd)) (ze (xC 4 z54.nd (kz z0O (by rfl) T.tuple_ wG (aO (xg ["lot","by","number","quotient"] [some 1,some 2,none,none] (by exact hc) (zec (by rfl) T.zip_ (aN (zb 1) (aN (zb 3) zd))) (fun _ _ _=>jJ 2 3 (by exact hc) zgE) (jq 2 3 (by decide) (by rfl) (by rfl)) (fun _ _ _=>vp) (fun _ _ _=>(zY zaM (zb 2) (zY z22 (zb 3) (z0q (zb 0) (zb 1)))))) zd) (he:=(yP ..)))) (zk (zU (zw H_moved (hr.mono (by decide)) zN (by rfl) (aN (zb 0) (aN (zb 4) zd)))))))))
theorem z3w(F:Fun K "comes_to" "comes_to" qQ f fd)(hm:mg "comes_to"=some (.ref f))(H_has_ended:Has P w K mg base CX0 "has_ended" 5 Pg.yx)(H_step:Has P w K mg base CX0 "step" 7 Pg.M_step):Has P w K mg base CX0 "comes_to" 8 Pg.wL:= (zM F hm (F.binds (ps:=["rule","ahead","lot"]) (by trivial)) z5a rfl fun cdv A outer s H E hr hc=> have hu:=hr.units;(zk (zU (z1f (zcC (zw H_has_ended (hr.mono (by decide)) zN (by rfl) (aN (zb 1) zd))) (z0B (vT (z1C hu) (zw H_step (hr.mono (by decide)) zN (by rfl) (aN (zb 0) (aN (zb 1) zd))) (zb 2)))))))
theorem z4U (F:Fun K "lots_to" "lots_to" kn f fd) (hm:mg "lots_to"=some (.ref f)) (H_want_number:Has P w K mg base CX0 "want_number" 2 Pg.xp) (H_maybe_ahead:Has P w K mg base CX0 "maybe_ahead" 3 Pg.xq) (H_want_rule_and_lot:Has P w K mg base CX0 "want_rule_and_lot" 5 Pg.zy) (H_comes_to:Has P w K mg base CX0 "comes_to" 8 Pg.wL):Has P w K mg base CX0 "lots_to" 9 Pg.yA:= (zM F hm (F.binds (ps:=["rule","lot","most"]) (by trivial)) kw rfl fun cdv A outer s H E hr hc=> have hu:=hr.units;(ze (uF (zw H_want_rule_and_lot (hr.mono (by decide)) zN (by rfl) (aN (zb 0) (aN (zb 1) zd)))) (ze (uF (zw H_want_number (hr.mono (by decide)) zN (by rfl) (aN (zb 2) (aK zq (aN (zfJ (by rfl) T.MOST_AHEAD_) zd))))) (ze (xC 3 kw.nd (z77 zd)) (ze (z2B PassesOwn.never hc (ui (zw H_maybe_ahead (hr.mono (by decide)) zN (by rfl) (aN (zb 0) (aN (zb 1) (aN (zb 2) zd))))) (kH 4 kw.nd) (ze (jA (RW.rt (w_and (zO zeL (zD (kT (by exact hc)) (by rfl) T.max_ jE (aN (zb 4) zd) (he:=(zt ..))) (zb 2)) (zaX (km (zw H_comes_to (hr.mono (by decide)) zN (by rfl) (aN (zb 0) (aN (zb 4) (aN (zb 1) zd)))))))) (zk (uF (z0o (zb 3) (zb 4)))) yg) (zk (jA (zO zdp (zD qf (by rfl) T.len_ wa (aN (zb 3) zd) (he:=(zt ..))) (zfJ (by rfl) T.MOST_LOTS_)) (zk z0X) yg)))) (zk (zU (zD zam (by rfl) T.sorted_ z7T (aN (zb 3) zd) (he:=(zt ..))))))))))
theorem z7k (F:Fun K "law" "law" z2m f fd) (hm:mg "law"=some (.ref f)) (H__law_cell_at:Has P w K mg base CX0 "_law_cell_at" 1 Pg.yE) (H__law_pot:Has P w K mg base CX0 "_law_pot" 1 Pg.wK) (H__law_take:Has P w K mg base CX0 "_law_take" 1 Pg.zA) (H__law_rules:Has P w K mg base CX0 "_law_rules" 1 Pg.yN) (H__law_ended:Has P w K mg base CX0 "_law_ended" 1 Pg.ya) (H__law_every:Has P w K mg base CX0 "_law_every" 1 xk) (H__law_same:Has P w K mg base CX0 "_law_same" 5 Pg.xY) (H__law_lot:Has P w K mg base CX0 "_law_lot" 2 Pg.yV) (H__law_step:Has P w K mg base CX0 "_law_step" 2 Pg.zJ) (H_lots_to:Has P w K mg base CX0 "lots_to" 9 Pg.yA):z2j P w K mg base CX0 10 f fd ["_law_script"] (zc8 ⟨mg,K⟩ zd8):= zel F uB rfl fun cdv A outer s H E hr hc=>by
  have hu:=hr.units;refine ze ?_ ?_
  ·refine z2B PassesOwn.never hc (wV (by rfl) T.range_ (aQ (zD (zeP (by exact hc)) (by rfl) T.max_ jE (aK zq (aQ (zD (zb2 (by exact hc)) (by rfl) T.min_ z0N (aQ (zD qf (by rfl) T.len_ wa (aN (zb 0) zd) (he:=(zt ..))) (aK zq zd)) (he:=(z0z ..))) zd)) (he:=(z2a ..))) zd)) (kH 1 uB.nd) ?_;refine ze ?_ ?_;·exact (xC 2 uB.nd (zw H__law_pot (hr.mono (by decide)) zN (by rfl) (aQ (zw H__law_cell_at (hr.mono (by decide)) zN (by rfl) (aN (zb 0) (aN (zb 1) zd))) zd) (he:=(z0z ..))))
   refine ze ?_ ?_;·exact (xC 3 uB.nd (zY wc zq (zw H__law_take (hr.mono (by decide)) zN (by rfl) (aN (zb 2) (aK zq zd)))))
   refine ze ?_ ?_;·exact (xC 4 uB.nd (zY wc zq (zw H__law_take (hr.mono (by decide)) zN (by rfl) (aN (zb 2) (aS (z0q (qB (aK zq (aK zq (aK zq zd)))) (zY zaM (zb 3) zq)) zd)))))
   refine ze ?_ ?_;·exact (xC 5 uB.nd (z0q (zcB H__law_rules (hr.mono (by decide)) zN (by rfl)) (zw H__law_take (hr.mono (by decide)) zN (by rfl) (aN (zb 2) (aK zq zd)))))
   refine ze ?_ ?_;·exact (z1v 6 ["_law_lot_here"] [none] uB.nd hc (ui (zw H__law_every (hr.mono (by decide)) zN (by rfl) (aN (zb 3) (aN (zb 4) zd)))) (fun _ _ _=>zR (i:=0) zi8 (by rfl) (by first | exact Or.inl rfl | exact Or.inr rfl)) (yf 0 (by rfl)) (fun _ _ _=>wP (z3i (km (zw H__law_ended (hr.mono (by decide)) zN (by rfl) (aN (zb 0) zd))))) (fun _ _ _=>(zb 0)))
   refine ze ?_ ?_;·exact (xC 7 uB.nd (z77 (aQ (zw H__law_lot (hr.mono (by decide)) zN (by rfl) (aN (zb 2) (aN (zb 3) (aN (zb 4) zd)))) (aQ (zw H__law_lot (hr.mono (by decide)) zN (by rfl) (aN (zb 2) (aN (zb 3) (aB (zY wc (zb 4) zq) zd)))) zd))))
   refine ze ?_ ?_
   ·refine jA (zO (zaI hu) (zb 6) (qB zd)) ?_ ?_
    ·refine zk ?_;exact (uF (z0o (zb 7) (z0q (zw H__law_step (hr.mono (by decide)) zN (by rfl) (aN (zb 5) (aS (z0q (zb 6) (zw H__law_take (hr.mono (by decide)) zN (by rfl) (aN (zb 2) (aQ (zD qf (by rfl) T.len_ wa (aN (zb 6) zd) (he:=(zt ..))) zd)))) zd))) zq)))
    ·exact yg
   refine zk ?_;refine z2B PassesOwn.never hc (ui (zb 7)) (kH 8 uB.nd) ?_;refine ze ?_ ?_;·exact (z1v 9 ["_law_goal","_law_rule","_law_lot_here"] [some 8,some 5,none] uB.nd hc (ui (zb 6)) (fun _ _ _=>zR (i:=2) ziw (by rfl) (by first | exact Or.inl rfl | exact Or.inr rfl)) (yf 2 (by rfl)) (fun _ _ _=>wP (zO (z1C hu) (z0q (zw H__law_step (hr.mono (by decide)) zN (by rfl) (aN (zb 1) (aN (zb 2) zd))) zq) (zb 0))) (fun _ _ _=>(zb 2)))
   refine zk ?_;refine z2B PassesOwn.never hc (wV (by rfl) T.range_ (aK zq zd)) (kH 10 uB.nd) ?_;refine ze ?_ ?_;·exact (xC 11 uB.nd (zw H_lots_to (hr.mono (by decide)) zN (by rfl) (aN (zb 5) (aN (zb 8) (aN (zb 4) zd)))))
   refine ze ?_ ?_
   ·refine jA (z3i (km (zw H__law_same (hr.mono (by decide)) zN (by rfl) (aN (zb 11) (aN (zb 9) zd))))) ?_ ?_
    ·refine zk ?_;exact (zU zfH)
    ·exact yg
   refine zk ?_;exact (uF (z0o (zb 11) (ve zd)))
  refine zk ?_;exact (zU (z1f (vT (ze4 hu) (zw H_lots_to (hr.mono (by decide)) zN (by rfl) (aK kg (aT (ve (aK zq (aK zq zd))) (aK zq zd)))) (qB (aT (ve (aK zq (aK zq zd))) zd))) (z0B (vT (ze4 hu) (zw H_lots_to (hr.mono (by decide)) zN (by rfl) (aK kg (aT (ve (aK zq (aK zq zd))) (aK zq zd)))) (qB zd)))))
end
end K71
set_option maxRecDepth 1000000
set_option maxHeartbeats 4000000
namespace Pm
abbrev Tb:=List (List Int)
def dot(r v:List Int):Int:=(List.zipWith (fun a b=>a*b) r v).sum
def mv(T:Tb)(v:List Int):List Int:=T.map fun r=>dot r v
def zbw(T:Tb):Tb:=(List.range T.length).map fun j=>T.map fun r=>r.getD j 0
def zcZ(A B:Tb):Tb:=zbw ((zbw B).map (mv A))
def zhG(T:Tb)(i j:Nat):Tb:=(T.take i++T.drop (i+1)).map fun r=>r.take j++r.drop (j+1)
def sg(i j:Nat):Int:=if (i+j) % 2=0 then 1 else -1
def det:Nat->Tb->Int
 | 0,_=>0 | k+1,T=>if T.length=1 then (T.getD 0 []).getD 0 0 else ((List.range T.length).map fun j=>sg 0 j*(T.getD 0 []).getD j 0*det k (zhG T 0 j)).sum
def back(T:Tb):Tb:=(List.range T.length).map fun i=>(List.range T.length).map fun j=>det 4 T*sg i j*det 4 (zhG T j i)
def one(n:Nat):Tb:=(List.range n).map fun i=>(List.range n).map fun j=>if i=j then 1 else 0
structure Tab(n:Nat)(T:Tb):Prop where
 len:T.length=n
 row:∀ r∈T,r.length=n
theorem zc0{α:Type}{l:List α}(h:l.length=2):∃ a b,l=[a,b]:=by match l,h with | [a,b],_=>exact ⟨a,b,rfl⟩
theorem zaO{α:Type}{l:List α}(h:l.length=3):∃ a b c,l=[a,b,c]:=by match l,h with | [a,b,c],_=>exact ⟨a,b,c,rfl⟩
theorem z7N{α:Type}{l:List α}(h:l.length=4):∃ a b c d,l=[a,b,c,d]:=by match l,h with | [a,b,c,d],_=>exact ⟨a,b,c,d,rfl⟩
theorem zgH{T:Tb}(h:Tab 2 T):∃ a b c d,T=[[a,b],[c,d]]:=by
 obtain ⟨r,q,rfl⟩:=zc0 h.len;obtain ⟨a,b,rfl⟩:=zc0 (h.row r (by simp));obtain ⟨c,d,rfl⟩:=zc0 (h.row q (by simp));exact ⟨a,b,c,d,rfl⟩
theorem zgh{T:Tb}(h:Tab 3 T):∃ a b c d e f g i j,T=[[a,b,c],[d,e,f],[g,i,j]]:=by
 obtain ⟨r,q,p,rfl⟩:=zaO h.len;obtain ⟨a,b,c,rfl⟩:=zaO (h.row r (by simp));obtain ⟨d,e,f,rfl⟩:=zaO (h.row q (by simp));obtain ⟨g,i,j,rfl⟩:=zaO (h.row p (by simp));exact ⟨a,b,c,d,e,f,g,i,j,rfl⟩
theorem zhj{T:Tb}(h:Tab 4 T):∃ a b c d e f g i j k l m n o p q,T=[[a,b,c,d],[e,f,g,i],[j,k,l,m],[n,o,p,q]]:=by
 obtain ⟨r1,r2,r3,r4,rfl⟩:=z7N h.len;obtain ⟨a,b,c,d,rfl⟩:=z7N (h.row r1 (by simp));obtain ⟨e,f,g,i,rfl⟩:=z7N (h.row r2 (by simp));obtain ⟨j,k,l,m,rfl⟩:=z7N (h.row r3 (by simp));obtain ⟨n,o,p,q,rfl⟩:=z7N (h.row r4 (by simp));exact ⟨a,b,c,d,e,f,g,i,j,k,l,m,n,o,p,q,rfl⟩
theorem zgg(a b c d A B C D:Int):zcZ [[a,b],[c,d]] [[A,B],[C,D]]=[[a*A+(b*C+0),a*B+(b*D+0)],[c*A+(d*C+0),c*B+(d*D+0)]]:=rfl
theorem zgI(a b c d e f g i j A B C D E F G I J:Int):zcZ [[a,b,c],[d,e,f],[g,i,j]] [[A,B,C],[D,E,F],[G,I,J]]= [[a*A+(b*D+(c*G+0)),a*B+(b*E+(c*I+0)),a*C+(b*F+(c*J+0))],[d*A+(e*D+(f*G+0)),d*B+(e*E+(f*I+0)),d*C+(e*F+(f*J+0))],[g*A+(i*D+(j*G+0)),g*B+(i*E+(j*I+0)),g*C+(i*F+(j*J+0))]]:=rfl
theorem zh4(a b c d e f g i j k l m n o p q A B C D E F G I J K L M N Oo P Q:Int):zcZ [[a,b,c,d],[e,f,g,i],[j,k,l,m],[n,o,p,q]] [[A,B,C,D],[E,F,G,I],[J,K,L,M],[N,Oo,P,Q]]= [[a*A+(b*E+(c*J+(d*N+0))),a*B+(b*F+(c*K+(d*Oo+0))),a*C+(b*G+(c*L+(d*P+0))),a*D+(b*I+(c*M+(d*Q+0)))], [e*A+(f*E+(g*J+(i*N+0))),e*B+(f*F+(g*K+(i*Oo+0))),e*C+(f*G+(g*L+(i*P+0))),e*D+(f*I+(g*M+(i*Q+0)))], [j*A+(k*E+(l*J+(m*N+0))),j*B+(k*F+(l*K+(m*Oo+0))),j*C+(k*G+(l*L+(m*P+0))),j*D+(k*I+(l*M+(m*Q+0)))], [n*A+(o*E+(p*J+(q*N+0))),n*B+(o*F+(p*K+(q*Oo+0))),n*C+(o*G+(p*L+(q*P+0))),n*D+(o*I+(p*M+(q*Q+0)))]]:=rfl
def d2(a b c d:Int):Int:=a*d-b*c
def d3(a b c d e f g h i:Int):Int:=a*d2 e f h i-b*d2 d f g i+c*d2 d e g h
def d4(a b c d e f g h i j k l m n o p:Int):Int:=a*d3 f g h j k l n o p-b*d3 e g h i k l m o p+c*d3 e f h i j l m n p-d*d3 e f g i j k m n o
theorem assoc{n:Nat}{A B C:Tb}(hn:n=2\/n=3\/n=4)(ha:Tab n A)(hb:Tab n B)(hc:Tab n C):zcZ (zcZ A B) C=zcZ A (zcZ B C):=by
 rcases hn with rfl | rfl | rfl
 ·obtain ⟨a,b,c,d,rfl⟩:=zgH ha;obtain ⟨e,f,g,h,rfl⟩:=zgH hb;obtain ⟨i,j,k,l,rfl⟩:=zgH hc;simp only [zgg,List.cons.injEq,and_true];and_intros<;>grind
 ·obtain ⟨a1,a2,a3,a4,a5,a6,a7,a8,a9,rfl⟩:=zgh ha;obtain ⟨b1,b2,b3,b4,b5,b6,b7,b8,b9,rfl⟩:=zgh hb;obtain ⟨c1,c2,c3,c4,c5,c6,c7,c8,c9,rfl⟩:=zgh hc;simp only [zgI,List.cons.injEq,and_true];and_intros<;>grind
 ·obtain ⟨a1,a2,a3,a4,a5,a6,a7,a8,a9,a10,a11,a12,a13,a14,a15,a16,rfl⟩:=zhj ha;obtain ⟨b1,b2,b3,b4,b5,b6,b7,b8,b9,b10,b11,b12,b13,b14,b15,b16,rfl⟩:=zhj hb;obtain ⟨c1,c2,c3,c4,c5,c6,c7,c8,c9,c10,c11,c12,c13,c14,c15,c16,rfl⟩:=zhj hc;simp only [zh4,List.cons.injEq,and_true];and_intros<;>grind
end Pm
set_option maxRecDepth 1000000
set_option maxHeartbeats 40000000
namespace Pm
end Pm
set_option maxRecDepth 1000000
set_option maxHeartbeats 40000000
namespace Pm
abbrev Sz(n:Nat):Prop:=n=2\/n=3\/n=4
def zhv(A:Tb):Prop:=det 4 A=1\/det 4 A=-1
open L2 (maxL minL maxL_ge maxL_mem minL_le minL_mem)
inductive Rl where | nx | le | al | tu deriving DecidableEq
structure Lot(n:Nat)(v:List Int):Prop where
 sz:Sz n
 len:v.length=n
 nn:∀ x∈v,0<=x
 pos:∃ x∈v,0<x
def nz(v:List Int):List Int:=v.filter fun x=>decide (x≠0)
def ended(v:List Int):Bool:=decide ((nz v).length=1)
def gp(v:List Int):Nat:=v.idxOf (maxL v)
def others(v:List Int):List Int:=v.take (gp v)++[0]++v.drop (gp v+1)
def lp(v:List Int):Nat:=v.idxOf (minL (nz v))
def yK(v:List Int)(p:Nat):List Nat:=(List.range v.length).filter fun i=>decide (i≠p)
def deal:Rl->List Int->Nat×List Nat
 | .nx,v=>((others v).idxOf (maxL (others v)),[gp v]) | .le,v=>(lp (others v),[gp v]) | .al,v=>(lp v,yK v (lp v)) | .tu,v=>(0,if v.getD 0 0=0 then [] else yK v 0)
def zn(v:List Int)(d:Nat×List Nat):List Int:=(List.range v.length).map fun i=>if i∈d.2 then v.getD i 0 / v.getD d.1 0 else 0
def rot{α:Type}(xs:List α):List α:=xs.drop 1++xs.take 1
def mvd{α:Type}(r:Rl)(xs:List α):List α:=if r=.tu then rot xs else xs
def left(v qs:List Int)(b:Nat):List Int:=List.zipWith (fun x q=>x-q*v.getD b 0) v qs
def stp(r:Rl)(v:List Int):List Int:=mvd r (left v (zn v (deal r v)) (deal r v).1)
def yu(b:Nat)(line:List Int)(q:Int):List Int:=line.take b++[line.getD b 0+q]++line.drop (b+1)
def zfQ(r:Rl)(b:Nat)(qs:List Int):Tb:=List.zipWith (fun line q=>mvd r (yu b line q)) (one qs.length) qs
def zcc(r:Rl)(v:List Int):Tb:=zfQ r (deal r v).1 (zn v (deal r v))
@[simp] theorem zhg:dot [] []=0:=rfl
@[simp] theorem dot_cons (a b:Int) (r v:List Int):dot (a::r) (b::v)=a*b+dot r v:=rfl
theorem zck{α:Type}{x:α}{xs:List α}:x∈rot xs ↔ x∈xs:=by cases xs with
 | nil=>simp [rot] | cons a xs=>simp [rot,or_comm]
theorem z5s{α:Type}{x:α}{xs:List α}{l:Rl}:x∈mvd l xs ↔ x∈xs:=by
 unfold mvd;split;·exact zck
 ·rfl
theorem zcb{α:Type}(xs:List α):(rot xs).length=xs.length:=by cases xs<;>simp [rot]
theorem zbZ{α:Type}{l:Rl}(xs:List α):(mvd l xs).length=xs.length:=by
 unfold mvd;split;·exact zcb xs
 ·rfl
structure Qs(v:List Int)(b:Nat)(qs:List Int):Prop where
 lt:b<v.length
 len:qs.length=v.length
 zero:qs[b]? = some 0
 nn:∀ q∈qs,0<=q
 fit:∀ i,0<=v.getD i 0-qs.getD i 0*v.getD b 0
 pos:(∀ q∈qs,q=0)\/0<v.getD b 0
theorem zaQ{α:Type}{v:List α}{b:Nat}(h:b<v.length):∃ v1 z v2,v=v1++z::v2/\v1.length=b:= ⟨v.take b,v[b],v.drop (b+1),by rw [<- List.drop_eq_getElem_cons h,List.take_append_drop],by simp;omega⟩
theorem getD_at{α:Type}{v1 v2:List α}{z d:α}{b:Nat}(h:v1.length=b):(v1++z::v2).getD b d=z:=by
 subst h;simp [List.getD]
theorem qw{v qs:List Int}{b:Nat}(h:qs.length=v.length):(left v qs b).length=v.length:=by simp [left,h]
theorem zdg{v qs:List Int}{b:Nat}(h:Qs v b qs):∀ x∈left v qs b,0<=x:=fun x hx=>by
 obtain ⟨i,hi,e⟩:=List.mem_iff_getElem.mp hx;have:=h.fit i;have hl:=qw (b:=b) h.len;have h1:i<v.length:=by omega
 have h2:i<qs.length:=by rw [h.len];exact h1
 simp only [List.getD,List.getElem?_eq_getElem h1,List.getElem?_eq_getElem h2,Option.getD_some] at this;rw [<- e];simpa [left,List.getD] using this
theorem z6C{α:Type}(xs:List α):mvd .tu xs=rot xs:=by simp [mvd]
theorem z2o{α:Type}{r:Rl}(h:r≠.tu)(xs:List α):mvd r xs=xs:=by simp [mvd,h]
theorem jj{v:List Int}{x:Int}:x∈nz v ↔ x∈v/\x≠0:=by simp [nz]
theorem getD_mem{v:List Int}{i:Nat}(h:i<v.length):v.getD i 0∈v:=by simp [List.getD,List.getElem?_eq_getElem h]
theorem wj{v:List Int}(h:∀ x∈v,0<=x)(i:Nat):0<=v.getD i 0:=by
 by_cases hi:i<v.length;·exact h _ (getD_mem hi)
 ·simp [List.getD,List.getElem?_eq_none (Nat.not_lt.mp hi)]
theorem jD{v:List Int}{x:Int}(h:x∈v):v.idxOf x<v.length/\v.getD (v.idxOf x) 0=x:=by
 have hl:=List.idxOf_lt_length_of_mem h;exact ⟨hl,by simp [List.getD,List.getElem?_eq_getElem hl,List.getElem_idxOf hl]⟩
theorem Lot.ne{n:Nat}{v:List Int}(h:Lot n v):v≠[]:=fun z=>by
 obtain ⟨x,hx,_⟩:=h.pos;rw [z] at hx;simp at hx
theorem Lot.nzne{n:Nat}{v:List Int}(h:Lot n v):nz v≠[]:=fun z=>by
 obtain ⟨x,hx,h0⟩:=h.pos;have:x∈nz v:=jj.mpr ⟨hx,by omega⟩;rw [z] at this;simp at this
theorem z9L{v:List Int}(h:nz v≠[]):lp v<v.length/\v.getD (lp v) 0=minL (nz v)/\minL (nz v)≠0:=by
 have m:=jj.mp (minL_mem h);have:=jD m.1;exact ⟨this.1,this.2,m.2⟩
theorem z8o{v:List Int}(h:v≠[]):gp v<v.length/\v.getD (gp v) 0=maxL v:=jD (maxL_mem h)
theorem others_eq{v:List Int}(h:v≠[]):others v=v.set (gp v) 0:=by
 have:=(z8o h).1;unfold others;rw [List.set_eq_take_append_cons_drop,if_pos this];simp
theorem wX{v:List Int}(h:v≠[])(i:Nat):(others v).getD i 0=if i=gp v then 0 else v.getD i 0:=by
 have hg:=(z8o h).1;rw [others_eq h];by_cases e:i=gp v
 ·subst e;simp [List.getD,hg]
 ·simp [List.getD,e,List.getElem?_set_ne (Ne.symm e)]
theorem xm{v:List Int}(h:v≠[]):(others v).length=v.length:=by rw [others_eq h];simp
theorem zdC:∀ {v:List Int}{p:Nat},(nz v).length≠1->v.getD p 0≠0->∃ j,j≠p/\j<v.length/\v.getD j 0≠0:=by
 intro v p he hp;have hpl:p<v.length:=by
  apply Classical.byContradiction;intro z;exact hp (by simp [List.getD,List.getElem?_eq_none (Nat.not_lt.mp z)])
 apply Classical.byContradiction;intro hn;apply he;obtain ⟨v1,z,v2,rfl,e1⟩:=zaQ hpl;rw [getD_at e1] at hp;have f1:∀ x∈v1,x=0:=fun x hx=>by
  obtain ⟨j,hj,rfl⟩:=List.mem_iff_getElem.mp hx;apply Classical.byContradiction;intro z0;exact hn ⟨j,by omega,by simp;omega,by simpa [List.getD,List.getElem?_append_left hj,List.getElem?_eq_getElem hj] using z0⟩
 have f2:∀ x∈v2,x=0:=fun x hx=>by
  obtain ⟨j,hj,rfl⟩:=List.mem_iff_getElem.mp hx;apply Classical.byContradiction;intro z0;refine hn ⟨v1.length+1+j,by omega,by simp;omega,?_⟩;have:(v1++z::v2)[v1.length+1+j]? = some v2[j]:=by rw [List.getElem?_append_right (by omega),show v1.length+1+j-v1.length=j+1 by omega,List.getElem?_cons_succ,List.getElem?_eq_getElem hj]
  rw [List.getD,this];simpa using z0
 have g1:v1.filter (fun x=>decide (x≠0))=[]:=List.filter_eq_nil_iff.mpr fun x hx=>by simp [f1 x hx]
 have g2:v2.filter (fun x=>decide (x≠0))=[]:=List.filter_eq_nil_iff.mpr fun x hx=>by simp [f2 x hx]
 simp only [nz,List.filter_append,List.filter_cons,g1,g2];simp [hp]
theorem zat{v:List Int}(he:ended v=false):(nz v).length≠1:=by simpa [ended] using he
structure Dl(v:List Int)(b:Nat)(dv:List Nat):Prop where
 lt:b<v.length
 nb:b∉dv
 pos:dv=[]\/0<v.getD b 0
theorem wM{v:List Int}{p i:Nat}:i∈yK v p ↔ i<v.length/\i≠p:=by simp [yK]
theorem z9m{n:Nat}{v:List Int}(h:Lot n v){b:Nat}(hb:b<v.length)(h0:(others v).getD b 0≠0):Dl v b [gp v]/\0<v.getD b 0/\v.getD b 0<=v.getD (gp v) 0:=by
 have hg:=z8o h.ne;rw [wX h.ne] at h0;have ne:b≠gp v:=fun e=>by rw [if_pos e] at h0;exact h0 rfl
 rw [if_neg ne] at h0;have p0:0<v.getD b 0:=by have:=wj h.nn b;omega
 refine ⟨⟨hb,by simpa using ne,.inr p0⟩,p0,?_⟩;rw [hg.2];exact maxL_ge _ (getD_mem hb)
theorem js {n:Nat} {v:List Int} (h:Lot n v) (he:ended v=false):nz (others v)≠[]:=by
 have hg:=z8o h.ne;have mx:0<maxL v:=by
  obtain ⟨x,hx,h0⟩:=h.pos;have:=maxL_ge (xs:=v) x hx;omega
 obtain ⟨j,h1,h2,h3⟩:=zdC (p:=gp v) (zat he) (by rw [hg.2];omega);intro z;have:v.getD j 0∈nz (others v):=jj.mpr ⟨by
  have:=getD_mem (v:=others v) (i:=j) (by rw [xm h.ne];exact h2);rw [wX h.ne,if_neg h1] at this;exact this,h3⟩;rw [z] at this;simp at this
theorem jb{n:Nat}{v:List Int}(r:Rl)(h:Lot n v)(he:ended v=false):Dl v (deal r v).1 (deal r v).2:=by cases r with
 | nx=>
  have ne:others v≠[]:=fun z=>by
   have:=xm h.ne;rw [z] at this;exact h.ne (List.length_eq_zero_iff.mp this.symm)
  have a:=jD (maxL_mem ne);have nn:=js h he;refine (z9m h (by rw [<- xm h.ne];exact a.1) ?_).1;show (others v).getD ((others v).idxOf (maxL (others v))) 0≠0;rw [a.2];have m:=jj.mp (minL_mem nn);have m1:=maxL_ge _ m.1;have m2:0<=minL (nz (others v)):=by
   obtain ⟨i,hi,e⟩:=List.mem_iff_getElem.mp m.1;have:=wX h.ne i;have e2:(others v).getD i 0=minL (nz (others v)):=by simp [List.getD,List.getElem?_eq_getElem hi,e]
   rw [e2] at this;rw [this];split;·omega
   ·exact wj h.nn i
  omega | le=>
  have a:=z9L (js h he);refine (z9m h (by rw [<- xm h.ne];exact a.1) ?_).1;show (others v).getD (lp (others v)) 0≠0;rw [a.2.1];exact a.2.2 | al=>
  have a:=z9L h.nzne;refine ⟨a.1,by simp [deal,wM],.inr ?_⟩;show 0<v.getD (lp v) 0;have:=wj h.nn (lp v);have b:=a.2.1;have c:=a.2.2;omega | tu=>
  have l0:0<v.length:=by have:=h.sz;rw [h.len];omega
  refine ⟨l0,?_,?_⟩
  ·show 0∉(if v.getD 0 0=0 then [] else yK v 0);split<;>simp [wM]
  ·show (if v.getD 0 0=0 then [] else yK v 0)=[]\/0<v.getD 0 0;split;·exact .inl rfl
   ·have:=wj h.nn 0;exact .inr (by omega)
theorem xw(v:List Int)(d:Nat×List Nat):(zn v d).length=v.length:=by simp [zn]
theorem z7d(v:List Int)(d:Nat×List Nat)(i:Nat):(zn v d).getD i 0=if i<v.length/\i∈d.2 then v.getD i 0 / v.getD d.1 0 else 0:=by
 unfold zn;by_cases hi:i<v.length;·simp [List.getD,hi]
 ·simp [List.getD,hi]
theorem z0j{v:List Int}{d:Nat×List Nat}(i:Nat):v.getD i 0-(zn v d).getD i 0*v.getD d.1 0=if i<v.length/\i∈d.2 then v.getD i 0 % v.getD d.1 0 else v.getD i 0:=by
 rw [z7d];split
 ·have:=Int.mul_ediv_add_emod (v.getD i 0) (v.getD d.1 0);have e:=Int.mul_comm (v.getD i 0 / v.getD d.1 0) (v.getD d.1 0);omega
 ·omega
theorem zbH{v:List Int}{d:Nat×List Nat}(hv:∀ x∈v,0<=x)(h:Dl v d.1 d.2):Qs v d.1 (zn v d):=by
 refine ⟨h.lt,xw _ _,?_,fun q hq=>?_,fun i=>?_,?_⟩;·simp [zn,h.lt,h.nb]
 ·obtain ⟨i,hi,rfl⟩:=List.mem_iff_getElem.mp hq;simp only [zn,List.getElem_map,List.getElem_range];split;·exact Int.ediv_nonneg (wj hv _) (wj hv _)
  ·omega
 ·rw [z0j];split
  ·rename_i hi;rcases h.pos with z | z;·rw [z] at hi;simp at hi
   ·exact Int.emod_nonneg _ (by omega)
  ·exact wj hv i
 ·rcases h.pos with z | z
  ·refine .inl fun q hq=>?_;obtain ⟨i,hi,rfl⟩:=List.mem_iff_getElem.mp hq;simp [zn,z]
  ·exact .inr z
def bl(n:Nat):Nat:=if n=0 then 0 else bl (n / 2)+1
termination_by n
decreasing_by omega
def wt(v:List Int):Nat:=(v.map fun x=>bl x.toNat).sum
theorem z1b{v qs:List Int}{b:Nat}(h:qs.length=v.length)(i:Nat):(left v qs b).getD i 0=v.getD i 0-qs.getD i 0*v.getD b 0:=by
 unfold left;by_cases hi:i<v.length
 ·have h2:i<qs.length:=by omega
  simp [List.getD,List.getElem?_zipWith,List.getElem?_eq_getElem hi,List.getElem?_eq_getElem h2]
 ·have h2:¬ i<qs.length:=by omega
  simp [List.getD,List.getElem?_zipWith,List.getElem?_eq_none (Nat.not_lt.mp hi),List.getElem?_eq_none (Nat.not_lt.mp h2)]
theorem za5{u v:List Int}(hl:u.length=v.length)(h:∀ i,u.getD i 0=v.getD i 0):u=v:=by
 refine List.ext_getElem hl fun i h1 h2=>?_;have:=h i;simpa [List.getD,List.getElem?_eq_getElem h1,List.getElem?_eq_getElem h2] using this
theorem zfG{a b:Int}(h0:0<b)(h:b<=a):2*(a % b)<a:=by
 have h1:=Int.mul_ediv_add_emod a b;have h2:=Int.emod_lt_of_pos a h0;have h3:=Int.emod_nonneg a (show b≠0 by omega);have h4:1<=a / b:=by
  have:=Int.ediv_le_ediv h0 h;rwa [Int.ediv_self (by omega)] at this
 have h5:b*1<=b*(a / b):=Int.mul_le_mul_of_nonneg_left h4 (by omega);omega
theorem zbD{a b:Int}(ha:0<=a)(h0:0<b):a % b<=a:=by
 have h1:=Int.mul_ediv_add_emod a b;have h2:0<=a / b:=Int.ediv_nonneg ha (by omega);have h3:0<=b*(a / b):=Int.mul_nonneg (by omega) h2;omega
def mu(r:Rl)(v:List Int):Nat:=5*wt v+(if r=.tu then lp v else 0)
theorem Lot.step{n:Nat}{v:List Int}(r:Rl)(h:Lot n v)(he:ended v=false):Lot n (stp r v):=by
 have dl:=jb r h he;have q:=zbH h.nn dl;refine ⟨h.sz,by rw [stp,zbZ,qw q.len,h.len],fun x hx=>zdg q x (z5s.mp hx),?_⟩;have fin:∀ x∈left v (zn v (deal r v)) (deal r v).1,0<x->∃ x∈stp r v,0<x:=fun x hx h0=>⟨x,z5s.mpr hx,h0⟩;rcases dl.pos with z | z
 ·obtain ⟨x,hx,h0⟩:=h.pos;refine fin x ?_ h0;have:left v (zn v (deal r v)) (deal r v).1=v:=za5 (qw q.len) fun i=>by rw [z1b q.len,z0j,z];simp
  rw [this];exact hx
 ·refine fin (v.getD (deal r v).1 0) ?_ z;have:(left v (zn v (deal r v)) (deal r v).1).getD (deal r v).1 0=v.getD (deal r v).1 0:=by rw [z1b q.len,z0j,if_neg (fun w=>dl.nb w.2)]
  rw [<- this];exact getD_mem (by rw [qw q.len];exact dl.lt)
structure PI(n:Nat)(B:Int)(P:Tb)(c x:List Int):Prop where
 tab:Tab n P
 nn:∀ row∈P,∀ y∈row,0<=y/\y<=B
 eq:mv P c=x
theorem zdH{n:Nat}{v:List Int}{B:Int}(r:Rl)(h:Lot n v)(he:ended v=false)(hb:∀ y∈v,y<=B):∀ y∈stp r v,y<=B:=fun y hy=>by
 have dl:=jb r h he;have q:=zbH h.nn dl;have hy:=z5s.mp hy;obtain ⟨i,hi,rfl⟩:=List.mem_iff_getElem.mp hy;have e:(left v (zn v (deal r v)) (deal r v).1)[i]=(left v (zn v (deal r v)) (deal r v).1).getD i 0:=by simp [List.getD,List.getElem?_eq_getElem hi]
 have hi':i<v.length:=by rw [<- qw (b:=(deal r v).1) q.len];exact hi
 have b:=hb _ (getD_mem hi');rw [e,z1b q.len,z0j];split
 ·rename_i w;rcases dl.pos with z | z;·rw [z] at w;simp at w
  ·have:=zbD (wj h.nn i) z;omega
 ·exact b
section
variable {k:Int}(hk:0<k)
include hk
end
open Dd (lexN)
theorem qA:∀ a:List Int,lexN a a=false
 | []=>rfl | x::a=>by simp [lexN,qA a]
theorem z6m:∀ {a b:List Int},a≠b->lexN b a=!lexN a b
 | [],[],h=>absurd rfl h | [],_::_,_=>rfl | _::_,[],_=>rfl | x::a,y::b,h=>by
  by_cases e:x=y
  ·subst e;have:a≠b:=fun z=>h (by rw [z]);simp only [lexN,if_true];exact z6m this
  ·have e':¬ y=x:=fun z=>e z.symm;simp only [lexN,e,e',if_false];by_cases l:x<y;·simp [l];omega
   ·simp [l];omega
theorem z5z:∀ {a b c:List Int},lexN a b=true->lexN b c=true->lexN a c=true
 | [],[],_,h,_=>by simp [lexN] at h | [],_::_,[],_,h=>by simp [lexN] at h | [],_::_,_::_,_,_=>rfl | _::_,[],_,h,_=>by simp [lexN] at h | _::_,_::_,[],_,h=>by simp [lexN] at h | x::a,y::b,z::c,h1,h2=>by
  simp only [lexN] at h1 h2 ⊢;by_cases e1:x=y
  ·subst e1;by_cases e2:x=z
   ·subst e2;simp only [if_true] at h1 h2 ⊢;exact z5z h1 h2
   ·simp only [e2,if_false] at h2 ⊢;exact h2
  ·simp only [e1,if_false,decide_eq_true_eq] at h1;by_cases e2:y=z
   ·subst e2;simp only [e1,if_false,decide_eq_true_eq];exact h1
   ·simp only [e2,if_false,decide_eq_true_eq] at h2;have e3:¬ x=z:=by omega
    simp only [e3,if_false,decide_eq_true_eq];omega
theorem z1i:∀ {a b:List Int}{x y:Int},a.length=b.length->(lexN a b=true\/(a=b/\x<y))->lexN (a++[x]) (b++[y])=true
 | [],[],x,y,_,h=>by
  rcases h with h | ⟨_,h⟩;·simp [lexN] at h
  ·have:¬ x=y:=by omega
   simp [lexN,this,h] | [],_::_,_,_,h,_=>by simp at h | _::_,[],_,_,h,_=>by simp at h | u::a,w::b,x,y,hl,h=>by
  simp only [List.cons_append,lexN];by_cases e:u=w
  ·subst e;simp only [if_true];refine z1i (by simpa using hl) ?_;rcases h with h | ⟨h1,h2⟩;·exact .inl (by simpa [lexN] using h)
   ·exact .inr ⟨by simpa using h1,h2⟩
  ·simp only [e,if_false,decide_eq_true_eq];rcases h with h | ⟨h1,h2⟩;·simpa [lexN,e] using h
   ·simp at h1;exact absurd h1.1 e
abbrev Up(L:List (List Int)):Prop:=L.Pairwise fun a b=>lexN a b=true
theorem Up.nodup{L:List (List Int)}(h:Up L):L.Nodup:=h.imp fun {a b} q z=>by rw [z,qA] at q;cases q
theorem z9c:∀ {L M:List (List Int)},Up L->Up M->(∀ x,x∈L ↔ x∈M)->L=M
 | [],[],_,_,_=>rfl | [],b::M,_,_,h=>by have:=(h b).mpr (.head _);cases this | a::L,[],_,_,h=>by have:=(h a).mp (.head _);cases this | a::L,b::M,h1,h2,h=>by
  obtain ⟨p1,q1⟩:=List.pairwise_cons.mp h1;obtain ⟨p2,q2⟩:=List.pairwise_cons.mp h2;have e:a=b:=by
   rcases List.mem_cons.mp ((h a).mp (.head _)) with z | z;·exact z
   ·rcases List.mem_cons.mp ((h b).mpr (.head _)) with z' | z';·exact z'.symm
    ·have:=z5z (p2 a z) (p1 b z');rw [qA] at this;cases this
  subst e;refine congrArg (a::·) (z9c q1 q2 fun x=>⟨fun hx=>?_,fun hx=>?_⟩)
  ·rcases List.mem_cons.mp ((h x).mp (.tail _ hx)) with z | z;·have:=p1 x hx;rw [z,qA] at this;cases this
   ·exact z
  ·rcases List.mem_cons.mp ((h x).mpr (.tail _ hx)) with z | z;·have:=p2 x hx;rw [z,qA] at this;cases this
   ·exact z
theorem z6H{α:Type}{a b:List α}{i:Nat}{d:α}(h:i<a.length):(a++b).getD i d=a.getD i d:=by simp [List.getD_eq_getElem?_getD,List.getElem?_append_left h]
theorem z64{α:Type}{a b:List α}{i:Nat}{d:α}(h:a.length<=i):(a++b).getD i d=b.getD (i-a.length) d:=by simp [List.getD_eq_getElem?_getD,List.getElem?_append_right h]
def z1B(F:List (List Int))(c:List Int):List (List Int):=F.flatMap fun a=>c.map fun g=>a++[g]
def yU(cs:List (List Int)):List (List Int):=cs.foldl z1B [[]]
theorem wO(cs:List (List Int))(c:List Int):yU (cs++[c])=z1B (yU cs) c:=by simp [yU]
theorem snoc_ind{α:Type}{P:List α->Prop}(h0:P [])(h1:∀ l x,P l->P (l++[x]))(l:List α):P l:=by
 have:∀ n (l:List α),l.length=n->P l:=by
  intro n;induction n with
  | zero=>intro l hl;rw [List.length_eq_zero_iff.mp hl];exact h0 | succ n ih=>
   intro l hl;have ne:l≠[]:=fun z=>by rw [z] at hl;simp at hl
   rw [<- List.dropLast_concat_getLast ne];exact h1 _ _ (ih _ (by simp [hl]))
 exact this _ l rfl
theorem uP(cs:List (List Int)):∀ v:List Int,v∈yU cs ↔ v.length=cs.length/\∀ i,i<cs.length->v.getD i 0∈cs.getD i []:=by
 refine snoc_ind (P:=fun cs=>∀ v:List Int,v∈yU cs ↔ v.length=cs.length/\∀ i,i<cs.length->v.getD i 0∈cs.getD i []) ?_ ?_ cs
 ·intro v;simp [yU]
 ·intro cs c ih v;rw [wO];simp only [z1B,List.mem_flatMap,List.mem_map];constructor
  ·rintro ⟨a,ha,g,hg,rfl⟩;obtain ⟨l,h⟩:=(ih a).mp ha;refine ⟨by simp [l],fun i hi=>?_⟩;by_cases q:i<cs.length
   ·have:=h i q;rw [z6H (a:=a) (by omega),z6H q];exact this
   ·have e:i=cs.length:=by simp at hi;omega
    subst e;rw [z64 (a:=a) (by omega),z64 (a:=cs) (by omega)];simp [l,hg]
  ·rintro ⟨l,h⟩;have ne:v≠[]:=fun z=>by rw [z] at l;simp at l
   refine ⟨v.dropLast,(ih _).mpr ⟨by simp [l],fun i hi=>?_⟩,v.getLast ne,?_,List.dropLast_concat_getLast ne⟩
   ·have:=h i (by simp;omega);rw [z6H hi] at this;have e:v.dropLast.getD i 0=v.getD i 0:=by
     have l':v.length=cs.length+1:=by simpa using l
     have h1:i<v.length:=by omega
     simp [List.getD_eq_getElem?_getD,List.getElem?_dropLast,l',hi,List.getElem?_eq_getElem h1]
    rw [e];exact this
   ·have:=h cs.length (by simp);rw [z64 (Nat.le_refl _)] at this;have e:v.getD cs.length 0=v.getLast ne:=by
     rw [List.getLast_eq_getElem];simp at l;simp [List.getD_eq_getElem?_getD,l]
    rw [e] at this;simpa using this
theorem z6c(cs:List (List Int)):(∀ c∈cs,c.Pairwise (· < ·))->Up (yU cs):=by
 refine snoc_ind (P:=fun cs=>(∀ c∈cs,c.Pairwise (· < ·))->Up (yU cs)) (fun _=>by simp [yU,Up]) ?_ cs;intro cs c ih h;have ih:=ih fun c hc=>h c (by simp [hc]);have hc:=h c (by simp);have hl:=fun v hv=>((uP cs v).mp hv).1;rw [wO];unfold z1B Up;rw [List.pairwise_flatMap];refine ⟨fun a ha=>?_,?_⟩
 ·rw [List.pairwise_map];exact hc.imp fun {x y} q=>z1i rfl (.inr ⟨rfl,q⟩)
 ·refine List.Pairwise.imp_of_mem (fun {a b} ha hb q=>?_) ih;intro x hx y hy;obtain ⟨g,_,rfl⟩:=List.mem_map.mp hx;obtain ⟨k,_,rfl⟩:=List.mem_map.mp hy;exact z1i (by rw [hl a ha,hl b hb]) (.inl q)
theorem z0A(cs:List (List Int)){k:Nat}:(∀ c∈cs,c.length<=k)->(yU cs).length<=k ^ cs.length:=by
 refine snoc_ind (P:=fun cs=>(∀ c∈cs,c.length<=k)->(yU cs).length<=k ^ cs.length) (fun _=>by simp [yU]) ?_ cs;intro cs c ih h;have ih:=ih fun c hc=>h c (by simp [hc]);have hc:=h c (by simp);rw [wO];have e:(z1B (yU cs) c).length=(yU cs).length*c.length:=by
  unfold z1B;rw [List.length_flatMap];simp;induction (yU cs) with
  | nil=>simp | cons a l ih=>simp [ih,Nat.add_mul,Nat.add_comm]
 rw [e,List.length_append,List.length_singleton,Nat.pow_succ];exact Nat.mul_le_mul ih hc
end Pm
namespace Pg
open PySem.Spec L2 Dd Pm
abbrev iL(ns:List Int):List D:=ns.map D.int
theorem zhx{i:Int}{m:Nat}(h:i.natAbs<2 ^ m)(hm:m<=2000):i.natAbs<BIG:=Nat.lt_of_lt_of_le h (Nat.pow_le_pow_right (by decide) (by omega))
theorem zf0{a b:Int}{m k:Nat}(s:Sto)(ha:a.natAbs<2 ^ m)(hm:m<=2000)(hb:b.natAbs<2 ^ k)(hk:k<=2000):uh (.int a) (.int b) s=.ok (.int (a*b)) s:=by rw [zbq,if_pos ⟨zhx ha hm,zhx hb hk⟩]
theorem z5W{a b:Int}(s:Sto)(hb:0<b):z7g (.int a) (.int b) s=.ok (.int (a % b)) s:=by rw [zaZ,if_pos hb]
theorem z2I{xs:List D}(s:Sto)(h:∀ x∈xs,x=.bl true):z7K [.lst xs] s=.ok (.bl true) s:=by
 have e:xs=(xs.map fun _=>true).map D.bl:=by
  rw [List.map_map];conv=>lhs;rw [<- List.map_id xs]
  exact List.map_congr_left fun x hx=>h x hx
 have b:bools xs=some (xs.map fun _=>true):=by
  conv=>lhs;rw [e]
  exact z3T _
 simp [z7K,zP,b]
theorem z21{ns:List Int}(s:Sto)(h:ns≠[]):wz [.tup (iL ns)] s=.ok (.int (maxL ns)) s:=by cases ns with
 | nil=>exact absurd rfl h | cons n ns=>simp only [wz,zP,Option.bind_some,xN]
theorem zeb{ns:List Int}(s:Sto)(h:ns≠[]):kB [.tup (iL ns)] s=.ok (.int (minL ns)) s:=by cases ns with
 | nil=>exact absurd rfl h | cons n ns=>simp only [kB,zP,Option.bind_some,xN]
theorem zf6{ns:List Int}(s:Sto)(h:ns≠[]):wz [.lst (iL ns)] s=.ok (.int (maxL ns)) s:=by cases ns with
 | nil=>exact absurd rfl h | cons n ns=>simp only [wz,zP,Option.bind_some,xN]
theorem zai{ns:List Int}{l:Nat}{s:Sto}(h:ns≠[])(e:s[l]? = some (iL ns)):wz [.loc l] s=.ok (.int (maxL ns)) s:=by cases ns with
 | nil=>exact absurd rfl h | cons n ns=>simp only [wz,zP,e,Option.bind_some,xN]
theorem zgv(ps:List Int)(q:Int)(s:Sto):dIx (.tup (iL (ps++[q]))) (.int (-1)) s=.ok (.int q) s:=by
 have e:ixN (iL (ps++[q])).length (-1)=some ps.length:=by
  unfold ixN;rw [if_neg (by omega),if_pos (by simp;omega)];congr 1;simp;omega
 simp only [dIx,zP,atI,e,Option.bind_some];simp
theorem zdi(ps:List Int)(q:Int)(s:Sto):dSl (.tup (iL (ps++[q]))) none (some (-1)) s=.ok (.tup (iL ps)) s:=by
 have e:Dd.cutD (iL (ps++[q])) none (some (-1))=iL ps:=by
  have e1:HT.sIx (iL (ps++[q])).length (iL (ps++[q])).length (some (-1))=ps.length:=by
   unfold HT.sIx;simp only;rw [if_pos (by omega)];simp;omega
  unfold Dd.cutD;rw [e1];simp [HT.sIx]
 simp only [dSl,e]
theorem z7b(i:Int)(s:Sto):yF [.int i] s=.ok (.bl true) s:=by simp [yF,Mof,jh,zx,gIs,tyD,isT]
theorem z7f(xs:List D)(s:Sto)(h:2<=xs.length/\xs.length<=4):wN [.tup xs] s=.ok (.bl true) s:=by
 have h1:(2:Int)<=xs.length:=by omega
 have h2:(xs.length:Int)<=4:=by omega
 simp [wN,Mof,z17,zx,gIs,tyD,isT,xI,zP,h1,h2]
theorem z3R (ns:List Int) (s:Sto) (h:ns.length<=1000):xi [.tup (iL ns),.int ns.length] s=.ok (.bl true) s:=by
 simp [xi,Mof,jI,zx,gIs,tyD,isT,xI,zP];rw [z3D (fun _=>D.bl true) (iL ns) [] (by intro x hx;obtain ⟨n,_,rfl⟩:=List.mem_map.mp hx;simp [z7b]) (by simp [cap];omega)];simp only [R.bind_ok,List.nil_append];rw [z2I s (by intro x hx;obtain ⟨_,_,rfl⟩:=List.mem_map.mp hx;rfl)];simp
abbrev rD(r:List Int):D:=.tup (iL r)
abbrev tD(T:Tb):D:=.tup (T.map rD)
theorem zeS{xs:List D}{j:Nat}{d:D}(s:Sto)(h:xs[j]? = some d):dIx (.tup xs) (.int j) s=.ok d s:=by
 have hj:j<xs.length:=(List.getElem?_eq_some_iff.mp h).1;have e:ixN xs.length (j:Int)=some j:=by
  unfold ixN;rw [if_pos (by omega),if_pos (by omega)];simp
 simp only [dIx,zP,atI,e,Option.bind_some,h]
theorem z9h{n:Nat}{ar:FA}{ρ:Ev}{s s1:Sto}(hn:n<=1000)(h:ar ρ s=.ok [.int n] s1):z1g ar ρ s=.ok (yO n,[]) s1:=by
 have c62:-(2 ^ 62)<=(n:Int)/\(n:Int)<2 ^ 62:=by omega
 rw [zbm,h,R.bind_ok];simp only;rw [if_pos c62,Int.toNat_natCast]
theorem z34(xs:List D)(i:Nat)(s:Sto):dSl (.tup xs) none (some (i:Int)) s=.ok (.tup (xs.take i)) s:=by
 have e:Dd.cutD xs none (some (i:Int))=xs.take i:=by
  unfold Dd.cutD;rw [HT.z6x,HT.z97];simp [List.take_eq_take_min]
 simp only [dSl,e]
theorem kr(xs:List D)(i:Nat)(s:Sto):dSl (.tup xs) (some (i:Int)) none s=.ok (.tup (xs.drop i)) s:=by
 have e:Dd.cutD xs (some (i:Int)) none=xs.drop i:=by
  unfold Dd.cutD;rw [HT.z6x,HT.z97];by_cases h:i<=xs.length
  ·rw [Nat.min_eq_left h];exact List.take_of_length_le (by simp)
  ·rw [Nat.min_eq_right (by omega)];simp [List.drop_of_length_le (show xs.length<=i by omega)]
 simp only [dSl,e]
theorem z12 {r:List Int} {j:Nat} (s:Sto) (h:j<r.length):dIx (rD r) (.int (j:Int)) s=.ok (.int (r.getD j 0)) s:=zeS (xs:=iL r) (j:=j) (d:=.int (r.getD j 0)) s (by simp [List.getElem?_map,List.getElem?_eq_getElem h,List.getD])
theorem qd{α:Type}{all:List D}{s:Sto}{body:D->Sto->R (Option D)}(g f:α->D)(p:α->Bool):∀ (l:List α)(acc:List D),(∀ a∈l,body (g a) s=.ok (if p a=true then some (f a) else none) s)->acc.length+l.length<=cap->we [] all body (l.map g) acc s=.ok (acc++(l.filter p).map f) s
 | [],acc,_,_=>by simp [we,okG] | x::xs,acc,hb,hl=>by
  have og:okG [] all s:=by intro p hp;simp at hp
  rw [List.map_cons,we,if_pos og,hb x (by simp)];cases hp:p x with
  | true=>
   have ih:=qd (all:=all) g f p xs (acc++[f x]) (fun y hy=>hb y (by simp [hy])) (by simp at hl ⊢;omega);have hc:acc.length<cap:=by simp at hl;omega
   simp [hc,ih,hp] | false=>
   have ih:=qd (all:=all) g f p xs acc (fun y hy=>hb y (by simp [hy])) (by simp at hl ⊢;omega);simp [ih,hp]
theorem xr{α:Type}{fi:FI}{mp:List (Option Nat)}{fg:FG}{ft:FT}{fe:FE}{ρ:Ev}{s:Sto}(g f:α->D)(p:α->Bool)(ev:α->Ev)(l:List α) (hi:fi ρ s=.ok (l.map g,[]) s)(hg:∀ a∈l,fg (g a) (zV mp ρ) s=.ok (ev a) s)(ht:∀ a∈l,ft (ev a) s=.ok (p a) s)(he:∀ a∈l,p a=true->fe (ev a) s=.ok (f a) s)(hl:l.length<=cap): zT fi mp fg ft fe ρ s=.ok (.lst ((l.filter p).map f)) s:=by
 rw [z60,z2W,hi,R.bind_ok];rw [qd g f p l [] (by
  intro a ha;simp only [hg a ha,ht a ha,R.bind_ok];cases hp:p a with
  | true=>simp [he a ha hp] | false=>simp) (by simpa using hl)];rfl
theorem comp_map{α:Type}{fi:FI}{mp:List (Option Nat)}{fg:FG}{fe:FE}{ρ:Ev}{s:Sto}(g f:α->D)(ev:α->Ev)(l:List α) (hi:fi ρ s=.ok (l.map g,[]) s)(hg:∀ a∈l,fg (g a) (zV mp ρ) s=.ok (ev a) s)(he:∀ a∈l,fe (ev a) s=.ok (f a) s)(hl:l.length<=cap): zT fi mp fg vc fe ρ s=.ok (.lst (l.map f)) s:=by
 have:=xr (ft:=vc) g f (fun _=>true) ev l hi hg (fun a _=>rfl) (fun a ha _=>he a ha) hl;rw [show l.filter (fun _=>true)=l from List.filter_eq_self.mpr (by simp)] at this;exact this
theorem z2M{f:FE}{ρ:Ev}{s:Sto}{xs:List D}(h:f ρ s=.ok (.tup xs) s):yn f ρ s=.ok (xs,[]) s:=by simp [h]
theorem xc{f:FE}{ρ:Ev}{s:Sto}{xs:List D}(h:f ρ s=.ok (.lst xs) s):yn f ρ s=.ok (xs,[]) s:=by simp [h]
structure z4R(n m:Nat)(v:List Int):Prop extends Lot n v where bd:∀ x∈v,x<2 ^ m
theorem z4R.abs{n m:Nat}{v:List Int}(h:z4R n m v):∀ x∈v,x.natAbs<2 ^ m:=fun x hx=>by
 have h1:=h.bd x hx;have h2:=h.nn x hx;have e:((x.natAbs:Nat):Int)=x:=Int.natAbs_of_nonneg h2;have:((x.natAbs:Nat):Int)<((2 ^ m:Nat):Int):=by rw [e];simpa using h1
 omega
theorem _root_.Pm.Lot.le4{n:Nat}{v:List Int}(h:Lot n v):v.length<=4/\2<=v.length:=by have:=h.len;have:=h.sz;omega
theorem zaN{n:Nat}{v:List Int}(h:Lot n v)(s:Sto):uu [rD v] s=.ok (.bl true) s:=by
 have l4:=h.le4;have h1:=z7f (iL v) s (by simp;omega);have h2:=z3R v s (by omega);have g1:=z21 s h.ne;have g2:=zeb s h.ne;have mn:0<=minL v:=h.nn _ (minL_mem h.ne);have mx:0<maxL v:=by obtain ⟨x,hx,h0⟩:=h.pos;have:=maxL_ge (xs:=v) x hx;omega
 have gl:xI [rD v] s=.ok (.int v.length) s:=by simp [xI,zP]
 have key:∀ d:D,wN [d] s=.ok (.bl true) s->xI [d] s=.ok (.int v.length) s->xi [d,.int v.length] s=.ok (.bl true) s->wz [d] s=.ok (.int (maxL v)) s->kB [d] s=.ok (.int (minL v)) s->uu [d] s=.ok (.bl true) s:=fun d a1 a2 a3 a4 a5=>by simp [uu,Mof,z4o,zx,a1,a2,a3,a4,a5,mn,mx]
 exact key _ h1 gl h2 g1 g2
theorem z2f{n:Nat}{v:List Int}(h:Lot n v)(s:Sto):yD [rD v] s=.ok .non s:=by
 have h1:=zaN h s;have key:∀ d:D,uu [d] s=.ok (.bl true) s->yD [d] s=.ok .non s:=fun d a1=>by simp [yD,Mof,z0E,zx,a1]
 exact key _ h1
theorem nzC{v:List Int}{f:FE}{ρ:Ev}{s:Sto}{mp:List (Option Nat)}(hf:f ρ s=.ok (rD v) s)(hl:v.length<=4):zT (yn f) [none] (wv 0) (tOf (eOp dNe (zc 0) (eC (.int 0)))) (zc 0) ρ s=.ok (.lst (iL (nz v))) s:=by
 rw [xr D.int D.int (fun x=>decide (x≠0)) (fun x=>[some (.int x)]) v (z2M hf) (fun a _=>by simp) (fun a _=>by simp) (fun a _ _=>by simp) (by simp [cap];omega)];rfl
theorem z1k {n:Nat} {v:List Int} (h:Lot n v) (s:Sto):yx [rD v] s=.ok (.bl (ended v)) s:=by
 have h1:=z2f h s;have key:∀ d:D,yD [d] s=.ok .non s->zT (yn (zc 0)) [none] (wv 0) (tOf (eOp dNe (zc 0) (eC (.int 0)))) (zc 0) [some d] s=.ok (.lst (iL (nz v))) s->yx [d] s=.ok (.bl (ended v)) s:=fun d a1 a2=>by
  have st:zx ["lot"] [d]=[some d]:=rfl;simp only [yx,Mof,kK,st,List.length_cons,List.length_nil,if_true];rw [zi (ρ':=[some d]) (s':=s) (by simp [a1])];simp only [jQ,ym,xf,wm,zm,zB,jU,a2,R.bind_ok];simp only [xI,zP,R.bind_ok,z2S,List.length_map];have:decide (((nz v).length:Int)=1)=ended v:=by
   unfold ended;by_cases e:(nz v).length=1;·simp [e]
   ·have:¬ ((nz v).length:Int)=1:=by omega
    simp [e,this]
  rw [this]
 exact key _ h1 (nzC (mp:=[]) (by simp) h.le4.1)
end Pg
namespace Pm
open L2 (maxL minL maxL_ge maxL_mem minL_le minL_mem n3)
theorem z9x{l k:List Int}(h:l.length=k.length)(e:∀ i,i<l.length->l.getD i 0=k.getD i 0):l=k:=by
 apply List.ext_getElem h;intro i h1 h2;have:=e i h1;rw [List.getD_eq_getElem?_getD,List.getD_eq_getElem?_getD,List.getElem?_eq_getElem h1,List.getElem?_eq_getElem h2] at this;simpa using this
def z0d(left d most:Int):List Int:=if left<d then (List.range (n3 left (most+1) d)).map fun k=>left+((k:Nat):Int)*d else []
theorem zab{x d most:Int}(h0:0<=x)(hm:x<=most)(hd:0<d):x∈z0d (x % d) d most:=by
 have l1:=Int.emod_nonneg x (by omega:d≠0);have l2:=Int.emod_lt_of_pos x hd;have e:=Int.mul_ediv_add_emod x d;have q0:0<=x / d:=Int.ediv_nonneg h0 (by omega);have l3:x % d<=x:=by have:=Int.mul_nonneg (show 0<=d by omega) q0;omega
 unfold z0d;rw [if_pos l2,List.mem_map];refine ⟨(x / d).toNat,?_,by rw [Int.toNat_of_nonneg q0,Int.mul_comm];omega⟩;rw [List.mem_range];unfold n3;rw [if_pos (by omega)];have h1:x / d<=(most-x % d) / d:=by
  refine (Int.le_ediv_iff_mul_le hd).mpr ?_;rw [Int.mul_comm];omega
 rw [show most+1-x % d-1=most-x % d by omega];omega
theorem z9X{left d most x:Int}(h0:0<=left)(h:x∈z0d left d most):0<=x:=by
 unfold z0d at h;split at h
 ·rename_i q;obtain ⟨k,_,rfl⟩:=List.mem_map.mp h;have:=Int.mul_nonneg (show (0:Int)<=((k:Nat):Int) by omega) (show 0<=d by omega);omega
 ·cases h
theorem za8{left d most:Int}(h0:0<=left):(z0d left d most).Pairwise (· < ·):=by
 unfold z0d;split
 ·rename_i q;rw [List.pairwise_map];refine List.pairwise_lt_range.imp fun {a b} h=>?_;have:((a:Nat):Int)*d<((b:Nat):Int)*d:=Int.mul_lt_mul_of_pos_right (by omega) (by omega);omega
 ·exact List.Pairwise.nil
theorem z8Y{left d most:Int}(h0:0<=left)(hm:0<=most):((z0d left d most).length:Int)<=most+1:=by
 unfold z0d;split
 ·rename_i q;rw [List.length_map,List.length_range];unfold n3;split
  ·rename_i q2;have h1:(most+1-left-1) / d<=most+1-left-1:=Int.ediv_le_self _ (by omega);omega
  ·omega
 ·simp;omega
def zI(w:List Int)(b:Nat)(most:Int):List (List Int):=w.zipIdx.map fun p=>if p.2=b then [p.1] else z0d p.1 (w.getD b 0) most
theorem wR{w:List Int}{b:Nat}{most:Int}{i:Nat}(hi:i<w.length):(zI w b most).getD i []=if i=b then [w.getD i 0] else z0d (w.getD i 0) (w.getD b 0) most:=by simp [zI,List.getD_eq_getElem?_getD,hi]
theorem vt(w:List Int)(b:Nat)(most:Int):(zI w b most).length=w.length:=by simp [zI]
def jd(w:List Int)(b:Nat)(most:Int):List (List Int):=if w.getD b 0=0 then [w] else yU (zI w b most)
theorem z6L {v w:List Int} {b:Nat} {most:Int} (hl:w.length=v.length) (hb:b<v.length) (e1:w.getD b 0=v.getD b 0) (hp:0<v.getD b 0) (e2:∀ i,i<v.length->i≠b->w.getD i 0=v.getD i 0 % v.getD b 0) (h0:∀ x∈v,0<=x) (hm:∀ x∈v,x<=most):v∈jd w b most:=by
 unfold jd;rw [if_neg (by omega),uP,vt];refine ⟨hl.symm,fun i hi=>?_⟩;rw [wR hi];have m:=getD_mem (v:=v) (i:=i) (by omega);by_cases q:i=b;·rw [if_pos q,q,e1];simp
 ·rw [if_neg q,e2 i (by omega) q,e1];exact zab (h0 _ m) (hm _ m) hp
theorem z73{w:List Int}{b:Nat}{most:Int}(h:∀ x∈w,0<=x):∀ c∈zI w b most,c.Pairwise (· < ·):=fun c hc=>by
 unfold zI at hc;obtain ⟨p,hp,rfl⟩:=List.mem_map.mp hc;have hx:p.1∈w:=by
  have:=List.mem_zipIdx_iff_getElem?.mp (show (p.1,p.2)∈w.zipIdx from hp);exact List.mem_of_getElem? this
 split;·simp
 ·exact za8 (h _ hx)
theorem z61{w:List Int}{b:Nat}{most:Int}(h:∀ x∈w,0<=x):Up (jd w b most):=by
 unfold jd;split;·simp [Up]
 ·exact z6c _ (z73 h)
theorem z3C {n:Nat} {w:List Int} {b:Nat} {most:Int} (h:Lot n w) (hb:b<w.length):∀ a∈jd w b most,Lot n a:=fun a ha=>by
 unfold jd at ha;split at ha
 ·have:a=w:=by simpa using ha
  rw [this];exact h
 ·rename_i q;obtain ⟨l,k⟩:=(uP _ a).mp ha;rw [vt] at l k;have nn:∀ x∈a,0<=x:=fun x hx=>by
   obtain ⟨i,hi,rfl⟩:=List.mem_iff_getElem.mp hx;have:=k i (by omega);rw [wR (by omega)] at this;have e:a.getD i 0=a[i]:=by simp [List.getD_eq_getElem?_getD,hi]
   rw [e] at this;have w0:=h.nn _ (getD_mem (v:=w) (i:=i) (by omega));split at this;·rw [List.mem_singleton.mp this];exact w0
   ·exact z9X w0 this
  refine ⟨h.sz,by rw [l,h.len],nn,⟨a.getD b 0,getD_mem (by omega),?_⟩⟩;have:=k b hb;rw [wR hb,if_pos rfl] at this;have w0:=h.nn _ (getD_mem (v:=w) (i:=b) hb);rw [List.mem_singleton.mp this];omega
def z44(g:List Int)(most:Int):List (List Int):=(List.range g.length).flatMap fun i=>(List.range (most-g.getD i 0).toNat).map fun k=>g.take i++[g.getD i 0+1+((k:Nat):Int)]++g.drop (i+1)
theorem z3g{g:List Int}{i j:Nat}{x:Int}(hi:i<g.length):(g.take i++[x]++g.drop (i+1)).getD j 0=if j=i then x else g.getD j 0:=by
 have e:g.take i++[x]++g.drop (i+1)=g.set i x:=by rw [List.set_eq_take_append_cons_drop,if_pos hi];simp
 rw [e];by_cases q:j=i;·subst q;simp [List.getD_eq_getElem?_getD,hi]
 ·have:¬ i=j:=fun z=>q z.symm;simp [List.getD_eq_getElem?_getD,q,List.getElem?_set,this]
theorem z5q{g:List Int}{i:Nat}{x:Int}(hi:i<g.length):(g.take i++[x]++g.drop (i+1)).length=g.length:=by simp;omega
theorem z8H{g:List Int}{most:Int}:(z44 g most).Nodup:=by
 unfold z44 List.Nodup;rw [List.pairwise_flatMap];refine ⟨fun i hi=>?_,?_⟩
 ·have hi':i<g.length:=by simpa using hi
  rw [List.pairwise_map];refine List.nodup_range.imp fun {a b} h z=>h ?_;have:=congrArg (fun l:List Int=>l.getD i 0) z;simp only [z3g hi',if_true] at this;omega
 ·refine List.Pairwise.imp_of_mem (fun {i j} hi hj q=>?_) List.pairwise_lt_range;intro x hx y hy z;have hi':i<g.length:=by simpa using hi
  have hj':j<g.length:=by simpa using hj
  obtain ⟨k,_,rfl⟩:=List.mem_map.mp hx;obtain ⟨m,_,rfl⟩:=List.mem_map.mp hy;have:=congrArg (fun l:List Int=>l.getD i 0) z;simp only [z3g hi',z3g hj',if_true] at this;rw [if_neg (by omega)] at this;omega
theorem z6D{n:Nat}{g:List Int}{most:Int}(h:Lot n g):∀ a∈z44 g most,Lot n a:=fun a ha=>by
 unfold z44 at ha;obtain ⟨i,hi,ha⟩:=List.mem_flatMap.mp ha;obtain ⟨k,_,rfl⟩:=List.mem_map.mp ha;have hi':i<g.length:=by simpa using hi
 have g0:=h.nn _ (getD_mem hi');refine ⟨h.sz,by rw [z5q hi',h.len],fun x hx=>?_,⟨g.getD i 0+1+((k:Nat):Int),List.mem_append_left _ (List.mem_append_right _ (List.mem_singleton.mpr rfl)),by omega⟩⟩
 ·rcases List.mem_append.mp hx with hx | hx
  ·rcases List.mem_append.mp hx with hx | hx;·exact h.nn x (List.mem_of_mem_take hx)
   ·rw [List.mem_singleton.mp hx];omega
  ·exact h.nn x (List.mem_of_mem_drop hx)
theorem jR {g:List Int} {most:Int} {m:Nat} (h0:∀ x∈g,0<=x) (hm:most<=m):(z44 g most).length<=g.length*m:=by
 unfold z44;rw [List.length_flatMap];have:∀ l:List Nat,(∀ i∈l,i<g.length)->(l.map fun i=>((List.range (most-g.getD i 0).toNat).map fun k=>g.take i++[g.getD i 0+1+((k:Nat):Int)]++g.drop (i+1)).length).sum<=l.length*m:=by
  intro l;induction l with
  | nil=>simp | cons i l ih=>
   intro h;have ih:=ih fun j hj=>h j (.tail _ hj);have:=h0 _ (getD_mem (v:=g) (i:=i) (h i (.head _)));simp only [List.map_cons,List.sum_cons,List.length_map,List.length_range,List.length_cons,Nat.succ_mul] at ih ⊢;omega
 have:=this (List.range g.length) (fun i hi=>by simpa using hi);simpa using this
def ahead(r:Rl)(g:List Int)(most:Int):List (List Int):=match r with
 | .tu=>jd (g.drop (g.length-1)++g.take (g.length-1)) 0 most | .al=>jd g (g.idxOf (maxL g)) most | _=>z44 g most
theorem ue{v:List Int}{b:Nat}{gone:List Nat}{i:Nat}(hi:i<v.length):(left v (zn v (b,gone)) b).getD i 0=if i∈gone then v.getD i 0 % v.getD b 0 else v.getD i 0:=by
 have hq:(zn v (b,gone)).getD i 0=if i∈gone then v.getD i 0 / v.getD b 0 else 0:=by simp [zn,List.getD_eq_getElem?_getD,hi]
 have hl:(zn v (b,gone)).length=v.length:=xw _ _;have e:(left v (zn v (b,gone)) b).getD i 0=v.getD i 0-(zn v (b,gone)).getD i 0*v.getD b 0:=by simp [left,List.getD_eq_getElem?_getD,hi,hl]
 rw [e,hq];split;·rw [Int.emod_def,Int.mul_comm]
 ·simp
theorem zgt{w:List Int}(h:w≠[]):(rot w).drop ((rot w).length-1)++(rot w).take ((rot w).length-1)=w:=by cases w with
 | nil=>exact absurd rfl h | cons x w=>simp [rot]
theorem z92 {n:Nat} {v g:List Int} {r:Rl} {most:Int} (h:Lot n v) (he:ended v=false) (hm:∀ x∈v,x<=most) (e:stp r v=g):v∈ahead r g most:=by
 have dl:=jb r h he;have lw:(left v (zn v (deal r v)) (deal r v).1).length=v.length:=by simp [left,xw]
 cases r with
 | tu=>
  have e1:rot (left v (zn v (deal .tu v)) (deal .tu v).1)=g:=by rw [<- e];unfold stp;rw [z6C]
  have ne:left v (zn v (deal .tu v)) (deal .tu v).1≠[]:=fun z=>by rw [z] at lw;exact h.ne (List.length_eq_zero_iff.mp lw.symm)
  show v∈jd (g.drop (g.length-1)++g.take (g.length-1)) 0 most;rw [<- e1,zgt ne];have hl0:0<v.length:=List.length_pos_iff.mpr h.ne;by_cases q:v.getD 0 0=0
  ·have e2:deal .tu v=(0,[]):=by show (0,if v.getD 0 0=0 then [] else yK v 0)=_;rw [if_pos q]
   have ev:left v (zn v (0,[])) 0=v:=by
    apply List.ext_getElem;·simp [left,xw]
    ·intro i h1 h2;have:=ue (v:=v) (b:=0) (gone:=[]) (i:=i) h2;simpa [List.getD_eq_getElem?_getD,h1,h2] using this
   rw [e2,ev];unfold jd;rw [if_pos q];simp
  ·have e2:deal .tu v=(0,yK v 0):=by show (0,if v.getD 0 0=0 then [] else yK v 0)=_;rw [if_neg q]
   have p0:0<v.getD 0 0:=by have:=wj h.nn 0;omega
   rw [e2] at lw ⊢;refine z6L lw hl0 ?_ p0 (fun i hi hib=>?_) h.nn hm;·rw [ue hl0,if_neg (by rw [wM];omega)]
   ·rw [ue hi,if_pos (wM.mpr ⟨hi,hib⟩)] | al=>
  have e1:left v (zn v (lp v,yK v (lp v))) (lp v)=g:=by rw [<- e];unfold stp;rw [z2o (by decide)];rfl
  obtain ⟨l1,l2,l3⟩:=z9L h.nzne;have p0:0<v.getD (lp v) 0:=by have:=wj h.nn (lp v);omega
  have gl:g.length=v.length:=by rw [<- e1];simp [left,xw]
  have gb:g.getD (lp v) 0=v.getD (lp v) 0:=by rw [<- e1,ue l1,if_neg (by rw [wM];omega)]
  have go:∀ i,i<v.length->i≠lp v->g.getD i 0=v.getD i 0 % v.getD (lp v) 0:=fun i hi hib=>by rw [<- e1,ue hi,if_pos (wM.mpr ⟨hi,hib⟩)]
  have gne:g≠[]:=fun z=>by rw [z] at gl;exact h.ne (List.length_eq_zero_iff.mp gl.symm)
  have ix:g.idxOf (maxL g)=lp v:=by
   obtain ⟨i1,i2⟩:=jD (maxL_mem gne);by_cases q:g.idxOf (maxL g)=lp v;·exact q
   ·exfalso;have h1:=go _ (by omega) q;have h2:=maxL_ge (xs:=g) _ (getD_mem (v:=g) (i:=lp v) (by omega));have h3:=Int.emod_lt_of_pos (v.getD (g.idxOf (maxL g)) 0) p0;omega
  show v∈jd g (g.idxOf (maxL g)) most;rw [ix];exact z6L gl l1 gb p0 go h.nn hm | nx=>
  have e1:left v (zn v ((deal .nx v).1,[gp v])) (deal .nx v).1=g:=by rw [<- e];unfold stp;rw [z2o (by decide)];rfl
  exact one_in h hm dl.lt (fun z=>dl.nb (by rw [z];simp [deal])) (dl.pos.resolve_left (by simp [deal])) e1 | le=>
  have e1:left v (zn v ((deal .le v).1,[gp v])) (deal .le v).1=g:=by rw [<- e];unfold stp;rw [z2o (by decide)];rfl
  exact one_in h hm dl.lt (fun z=>dl.nb (by rw [z];simp [deal])) (dl.pos.resolve_left (by simp [deal])) e1
where
 one_in {n:Nat} {v g:List Int} {most:Int} {b:Nat} (h:Lot n v) (hm:∀ x∈v,x<=most) (hb:b<v.length) (nb:b≠gp v) (hp:0<v.getD b 0) (e1:left v (zn v (b,[gp v])) b=g):v∈z44 g most:=by
  obtain ⟨g1,g2⟩:=z8o h.ne;have gl:g.length=v.length:=by rw [<- e1];simp [left,xw]
  have gg:g.getD (gp v) 0=v.getD (gp v) 0 % v.getD b 0:=by rw [<- e1,ue g1,if_pos (by simp)]
  have go:∀ i,i<v.length->i≠gp v->g.getD i 0=v.getD i 0:=fun i hi hib=>by rw [<- e1,ue hi,if_neg (by simpa using hib)]
  have l1:=Int.emod_lt_of_pos (v.getD (gp v) 0) hp;have l2:=Int.emod_nonneg (v.getD (gp v) 0) (by omega:v.getD b 0≠0);have l3:=maxL_ge (xs:=v) _ (getD_mem (v:=v) (i:=b) hb);have l4:=hm _ (getD_mem (v:=v) (i:=gp v) g1);unfold z44;refine List.mem_flatMap.mpr ⟨gp v,by simpa using (by omega:gp v<g.length),List.mem_map.mpr ⟨(v.getD (gp v) 0-g.getD (gp v) 0-1).toNat,?_,?_⟩⟩;·rw [List.mem_range];omega
  ·have hk:g.getD (gp v) 0+1+(((v.getD (gp v) 0-g.getD (gp v) 0-1).toNat:Nat):Int)=v.getD (gp v) 0:=by omega
   rw [hk];refine z9x (by rw [z5q (by omega),gl]) fun i hi=>?_;rw [z5q (by omega),gl] at hi;rw [z3g (by omega)];split;·rename_i q;rw [q]
   ·rename_i q;exact go i hi q
end Pm
namespace Pg
open PySem.Spec L2 Dd Pm
def nmR:Rl->Str | .nx=>"next" | .le=>"least" | .al=>"all" | .tu=>"turn"
theorem z1Y{fo fv:FE}{ρ:Ev}{s:Sto}{v:List Int}{k:Int}(h1:fo ρ s=.ok (rD v) s)(h2:fv ρ s=.ok (.int k) s)(hk:k∈v):z7r fo fv ρ s=.ok (.int (v.idxOf k:Nat)) s:=by simp only [zdP,h1,h2,R.bind_ok,xN,if_pos hk]
theorem z23 {n:Nat} {v:List Int} (h:Lot n v) (s:Sto):zp [rD v] s=.ok (.tup [.int (gp v:Nat),rD (others v)]) s:=by
 have l4:=h.le4;have g1:=z21 s h.ne;have key:∀ d:D,d=rD v->zp [d] s=.ok (.tup [.int (gp v:Nat),rD (others v)]) s:=fun d hd=>by
  have st:zx ["lot","at"] [d]=[some d,none]:=rfl;have gm:wz [d] s=.ok (.int (maxL v)) s:=by rw [hd];exact g1
  have i1:z7r (zc 0) (zf wz (za (zc 0) zj)) [some d,none] s=.ok (.int (gp v:Nat)) s:=z1Y (by simp [hd]) (by simp [gm]) (maxL_mem h.ne);simp only [zp,Mof,xM,st,List.length_cons,List.length_nil,if_true];rw [zi (ρ':=[some d,some (.int (gp v:Nat))]) (s':=s) (by rw [xE,ye,i1];simp)];have e1:=z34 (iL v) (gp v) s;have e2:=kr (iL v) (gp v+1) s;rw [show (((gp v+1:Nat):Int))=((gp v:Nat):Int)+1 from rfl] at e2;simp only [xu,ym,va,zm,zB,yJ,xf,z1N,yY,vL,jU,List.getElem?_cons_zero,List.getElem?_cons_succ,R.bind_ok,kX,hd,e1,e2];rw [if_pos (by simp [cap]),R.bind_ok,kO,if_pos (by simp [cap];omega),R.bind_ok,e2,R.bind_ok,kO,if_pos (by simp [cap];omega),R.bind_ok,R.bind_ok,R.bind_ok,if_pos (by simp [cap])];simp [others,List.map_take,List.map_drop]
 exact key _ rfl
theorem jG {v:List Int} (h:nz v≠[]) (hl:v.length<=4) (s:Sto):zQ [rD v] s=.ok (.int (lp v:Nat)) s:=by
 have key:∀ d:D,d=rD v->zQ [d] s=.ok (.int (lp v:Nat)) s:=fun d hd=>by
  have st:zx ["lot"] [d]=[some d]:=rfl;have c:=nzC (mp:=[]) (f:=zc 0) (ρ:=[some d]) (s:=s) (v:=v) (by simp [hd]) hl;have gm:kB [.lst (iL (nz v))] s=.ok (.int (minL (nz v))) s:=by
   obtain ⟨a,t,e⟩:=List.exists_cons_of_ne_nil h;rw [e];simp only [kB,zP,Option.bind_some,iL];rw [xN]
  simp only [zQ,Mof,qF,st,List.length_cons,List.length_nil,if_true,uW,ym];rw [z1Y (v:=v) (k:=minL (nz v)) (by simp [hd]) (by rw [wm,zm,c];simp only [R.bind_ok,zB,gm]) (jj.mp (minL_mem h)).1];rfl
 exact key _ rfl
abbrev nL(l:List Nat):List D:=l.map fun i=>D.int ((i:Nat):Int)
theorem z49 {v:List Int} (p:Nat) (hl:v.length<=4) (s:Sto):xa [rD v,.int (p:Nat)] s=.ok (.lst (nL (yK v p))) s:=by
 have key:∀ d:D,xI [d] s=.ok (.int v.length) s->xa [d,.int (p:Nat)] s=.ok (.lst (nL (yK v p))) s:=fun d hd=>by
  have st:zx ["lot","place"] [d,.int (p:Nat)]=[some d,some (.int (p:Nat))]:=rfl;have ir:z1g (za (zf xI (za (zc 0) zj)) zj) [some d,some (.int (p:Nat))] s=.ok ((List.range v.length).map fun i=>D.int ((i:Nat):Int),[]) s:=by
   rw [z9h (n:=v.length) (s1:=s) (by omega) (by simp [hd])];rfl
  simp only [xa,Mof,z1Z,st,List.length_cons,List.length_nil,if_true,z1A,ym];rw [xr (fun i:Nat=>D.int ((i:Nat):Int)) (fun i:Nat=>D.int ((i:Nat):Int)) (fun i=>decide (i≠p)) (fun i=>[some (.int (p:Nat)),some (.int (i:Nat))]) (List.range v.length) ir (fun a _=>by simp) (fun a _=>by
   have:decide (((a:Nat):Int)≠(p:Nat))=decide (a≠p):=by
    by_cases e:a=p;·simp [e]
    ·have:¬ ((a:Nat):Int)=(p:Nat):=by omega
     simp [e,this]
   simp only [uM,xf,yJ,List.getElem?_cons_succ,List.getElem?_cons_zero,R.bind_ok,zcU,this]) (fun a _ _=>by simp) (by simp [cap];omega)];rfl
 exact key _ (by simp [xI,zP])
abbrev uL(d:Nat×List Nat):D:=.tup [.int ((d.1:Nat):Int),.lst (nL d.2)]
theorem z8T {n:Nat} {v:List Int} (h:Lot n v) (s:Sto):wd [rD v] s=.ok (uL (deal .nx v)) s:=by
 have ne:others v≠[]:=fun z=>by
  have:=xm h.ne;rw [z] at this;exact h.ne (List.length_eq_zero_iff.mp this.symm)
 have g:=z23 h s;have g1:=z21 (ns:=others v) s ne;have key:∀ d e:D,e=rD (others v)->zp [d] s=.ok (.tup [.int (gp v:Nat),e]) s->wd [d] s=.ok (uL (deal .nx v)) s:=fun d e he hg=>by
  have st:zx ["lot","greatest","others"] [d]=[some d,none,none]:=rfl;have gm:wz [e] s=.ok (.int (maxL (others v))) s:=by rw [he];exact g1
  simp only [wd,Mof,z2q,st,List.length_cons,List.length_nil,if_true];rw [zi (ρ':=[some d,some (.int (gp v:Nat)),some e]) (s':=s) (by simp [hg])];have ix:z7r (zc 2) (zf wz (za (zc 2) zj)) [some d,some (.int (gp v:Nat)),some e] s=.ok (.int ((others v).idxOf (maxL (others v)):Nat)) s:=z1Y (v:=others v) (by simp [he]) (by simp [gm]) (maxL_mem ne);simp only [z1s,ym,va,zm,ix,R.bind_ok,zB,vS,yJ,List.getElem?_cons_zero,List.getElem?_cons_succ];simp [cap,deal]
 exact key _ _ rfl g
theorem z7h {n:Nat} {v:List Int} (h:Lot n v) (he:ended v=false) (s:Sto):xj [rD v] s=.ok (uL (deal .le v)) s:=by
 have g:=z23 h s;have lpo:=jG (js h he) (by rw [xm h.ne];exact h.le4.1) s;have key:∀ d e:D,zQ [e] s=.ok (.int (lp (others v):Nat)) s->zp [d] s=.ok (.tup [.int (gp v:Nat),e]) s->xj [d] s=.ok (uL (deal .le v)) s:=fun d e he hg=>by
  have st:zx ["lot","greatest","others"] [d]=[some d,none,none]:=rfl;simp only [xj,Mof,z0x,st,List.length_cons,List.length_nil,if_true];rw [zi (ρ':=[some d,some (.int (gp v:Nat)),some e]) (s':=s) (by simp [hg])];simp [he,cap,deal]
 exact key _ _ lpo g
theorem za4 {n:Nat} {v:List Int} (h:Lot n v) (s:Sto):vF [rD v] s=.ok (uL (deal .al v)) s:=by
 have lpo:=jG h.nzne h.le4.1 s;have ab:=z49 (v:=v) (lp v) h.le4.1 s;have key:∀ d:D,zQ [d] s=.ok (.int (lp v:Nat)) s->xa [d,.int (lp v:Nat)] s=.ok (.lst (nL (yK v (lp v)))) s->vF [d] s=.ok (uL (deal .al v)) s:=fun d h1 h2=>by
  have st:zx ["lot","by"] [d]=[some d,none]:=rfl;simp only [vF,Mof,z3H,st,List.length_cons,List.length_nil,if_true];rw [zi (ρ':=[some d,some (.int (lp v:Nat))]) (s':=s) (by simp [h1])];simp [h2,cap,deal]
 exact key _ lpo ab
theorem z8D {n:Nat} {v:List Int} (h:Lot n v) (s:Sto):wb [rD v] s=.ok (uL (deal .tu v)) s:=by
 have ab:=z49 (v:=v) 0 h.le4.1 s;have i0:dIx (rD v) (.int 0) s=.ok (.int (v.getD 0 0)) s:=z12 (j:=0) s (by have:=h.le4.2;omega);have key:∀ d:D,dIx d (.int 0) s=.ok (.int (v.getD 0 0)) s->xa [d,.int 0] s=.ok (.lst (nL (yK v 0))) s->wb [d] s=.ok (uL (deal .tu v)) s:=fun d h1 h2=>by
  have st:zx ["lot"] [d]=[some d]:=rfl;simp only [wb,Mof,z2e,st,List.length_cons,List.length_nil,if_true];by_cases z:v.getD 0 0=0;·rw [kW (d:=uL (deal .tu v)) (s':=s) (by
    rw [z] at h1;have e:deal .tu v=(0,[]):=by show (0,if v.getD 0 0=0 then [] else yK v 0)=_;rw [if_pos z]
    rw [e];simp [h1,cap])]
  ·rw [zi (ρ':=[some d]) (s':=s) (by
    have:¬ v.getD 0 0=0:=z;generalize v.getD 0 0=y at *;simp [h1,this])];have e:deal .tu v=(0,yK v 0):=by show (0,if v.getD 0 0=0 then [] else yK v 0)=_;rw [if_neg z]
   rw [e];simp [h2,cap]
 exact key _ i0 ab
theorem z8N(r:Rl)(s:Sto):qo [.str (nmR r)] s=.ok (.bl true) s:=by
 have l:∀ r,(uk.lookup (nmR r)).isSome=true:=fun r=>by cases r<;>decide
 have l:=l r;obtain ⟨y,l⟩:=Option.isSome_iff_exists.mp l;generalize nmR r=x at *;simp [qo,Mof,z20,zx,gIs,tyD,isT,l]
theorem z55(r:Rl)(s:Sto):xU [.str (nmR r)] s=.ok .non s:=by
 have l:=z8N r s;generalize nmR r=x at *;simp [xU,Mof,kM,zx,l]
theorem z4M{n:Nat}{v:List Int}(r:Rl)(h:Lot n v)(s:Sto):zy [.str (nmR r),rD v] s=.ok .non s:=by
 have h1:=z55 r s;have h2:=z2f h s;have key:∀ d e:D,xU [d] s=.ok .non s->yD [e] s=.ok .non s->zy [d,e] s=.ok .non s:=fun d e a1 a2=>by simp [zy,Mof,wE,zx,a1,a2]
 exact key _ _ h1 h2
theorem z5h{n:Nat}{v:List Int}(r:Rl)(h:Lot n v)(he:ended v=false)(s:Sto):xh [.str (nmR r),rD v] s=.ok .non s:=by
 have h1:=z4M r h s;have h2:=z1k h s;rw [he] at h2;have key:∀ d e:D,zy [d,e] s=.ok .non s->yx [e] s=.ok (.bl false) s->xh [d,e] s=.ok .non s:=fun d e a1 a2=>by simp [xh,Mof,kD,zx,a1,a2]
 exact key _ _ h1 h2
def dfR:Rl->Str | .nx=>"by_next" | .le=>"by_least" | .al=>"by_all" | .tu=>"by_turn"
def MR:Rl->Mir | .nx=>wd | .le=>xj | .al=>vF | .tu=>wb
theorem zhY{n:Nat}{v:List Int}(r:Rl)(h:Lot n v)(he:ended v=false)(s:Sto):MR r [rD v] s=.ok (uL (deal r v)) s:=by cases r with
 | nx=>exact z8T h s | le=>exact z7h h he s | al=>exact za4 h s | tu=>exact z8D h s
theorem zhh(r:Rl):uk.lookup (nmR r)=some (dfR r):=by cases r<;>decide
theorem ziD(r:Rl):([("by_next",wd),("by_least",xj),("by_all",vF),("by_turn",wb)]:List (Str×Mir)).lookup (dfR r)=some (MR r):=by
 cases r;·rfl
 ·rfl
 ·rfl
 ·rfl
theorem zdl(i:Nat)(l:List Nat)(s:Sto):z7J false (.int ((i:Nat):Int)) (.lst (nL l)) s=.ok (.bl (decide (i∈l))) s:=by
 have e:∀ l:List Nat,qU (nL l)=some (l.map fun j=>V.int ((j:Nat):Int)):=by
  intro l;induction l with
  | nil=>rfl | cons a l ih=>simp only [nL] at ih;simp [nL,qU,z28,ih]
 have e2:∀ l:List Nat,inV (.int ((i:Nat):Int)) (l.map fun j=>V.int ((j:Nat):Int))=decide (i∈l):=by
  intro l;induction l with
  | nil=>rfl | cons a l ih=>
   simp only [inV,List.map_cons,List.any_cons] at ih ⊢;rw [ih];by_cases q:i=a;·subst q;simp [eqV]
   ·have q':¬ ((a:Nat):Int)=i:=by omega
    simp [eqV,q,q']
 simp only [z7J,z28,zP,Option.bind_some,e,e2];rfl
theorem z6O(x:List D)(s:Sto):uK [.lst x] s=.ok (.tup x) s:=by simp [uK,zP]
theorem z7G {n m:Nat} {v:List Int} (r:Rl) (h:z4R n m v) (he:ended v=false) (hm:m<=1999) (s:Sto):xO [.str (nmR r),rD v] s=.ok (.tup [.int ((deal r v).1:Nat),.lst (iL (zn v (deal r v)))]) s:=by
 have dl:=jb r h.toLot he;have l4:=h.toLot.le4;have by_:=zhY r h.toLot he s;have ixs:∀ i,i<v.length->dIx (rD v) (.int ((i:Nat):Int)) s=.ok (.int (v.getD i 0)) s:=fun i hi=>z12 s hi;have gl:xI [rD v] s=.ok (.int v.length) s:=by simp [xI,zP]
 have key:∀ d e:D,e=.str (nmR r)->MR r [d] s=.ok (uL (deal r v)) s->xI [d] s=.ok (.int v.length) s->(∀ i,i<v.length->dIx d (.int ((i:Nat):Int)) s=.ok (.int (v.getD i 0)) s)->xO [e,d] s=.ok (.tup [.int ((deal r v).1:Nat),.lst (iL (zn v (deal r v)))]) s:=fun d e he' h1 h2 h3=>by
  have st:zx ["rule","lot","deal","by","divided"] [e,d]=[some e,some d,none,none,none]:=rfl;simp only [xO,Mof,z1m,st,List.length_cons,List.length_nil,if_true];have lk:=zhh r;have lm:=ziD r;rw [zi (ρ':=[some e,some d,some (.fn (dfR r)),none,none]) (s':=s) (by
   generalize dfR r=y at *;simp [he',lk])];rw [zi (ρ':=[some e,some d,some (.fn (dfR r)),some (.int ((deal r v).1:Nat)),some (.lst (nL (deal r v).2))]) (s':=s) (by
   rw [kC,zb3,zaG];simp only [List.getElem?_cons_zero,List.getElem?_cons_succ];rw [lm];simp only [zm,zB,yJ,List.getElem?_cons_zero,List.getElem?_cons_succ,R.bind_ok,h1,zcg,List.set_cons_succ,List.set_cons_zero])];have ir:z1g (za (zf xI (za (zc 1) zj)) zj) [some e,some d,some (.fn (dfR r)),some (.int ((deal r v).1:Nat)),some (.lst (nL (deal r v).2))] s=.ok ((List.range v.length).map fun i=>D.int ((i:Nat):Int),[]) s:=by
   rw [z9h (n:=v.length) (s1:=s) (by omega) (by simp [h2])];rfl
  have c:=comp_map (mp:=[some 4,some 1,some 3,none]) (fg:=wv 3) (fe:=eIf (tOf (eOp (z7J false) (zc 3) (zc 0))) (eOp z4z (eOp dIx (zc 1) (zc 3)) (eOp dIx (zc 1) (zc 2))) (eC (.int 0))) (fun i:Nat=>D.int ((i:Nat):Int)) (fun i:Nat=>D.int (if i∈(deal r v).2 then v.getD i 0 / v.getD (deal r v).1 0 else 0)) (fun i=>[some (.lst (nL (deal r v).2)),some d,some (.int ((deal r v).1:Nat)),some (.int (i:Nat))]) (List.range v.length) ir (fun a _=>by simp) (fun i hi=>by
    have hi':i<v.length:=by simpa using hi
    have i1:=zdl i (deal r v).2 s;have e1:=h3 i hi';have e2:=h3 _ dl.lt;simp only [z9a,uM,xf,yJ,jU,List.getElem?_cons_zero,List.getElem?_cons_succ,R.bind_ok,i1,e1,e2];by_cases q:i∈(deal r v).2
    ·have p0:0<v.getD (deal r v).1 0:=by
      rcases dl.pos with z | z;·rw [z] at q;simp at q
      ·exact z
     have p1:v.getD (deal r v).1 0<2 ^ 2000:=Int.lt_of_lt_of_le (h.bd _ (Pm.getD_mem dl.lt)) (by
      have:(2:Nat) ^ m<=2 ^ 2000:=Nat.pow_le_pow_right (by decide) (by omega);have:=Int.ofNat_le.mpr this;simpa using this);have big:(v.getD (deal r v).1 0).natAbs<BIG:=Nat.lt_of_lt_of_le (h.abs _ (Pm.getD_mem dl.lt)) (Nat.pow_le_pow_right (by decide) (by omega));simp only [q,decide_true,if_true];rw [z5i,if_pos ⟨p0,big⟩]
    ·simp only [q,decide_false,if_false];rfl) (by simp [cap];omega);simp only [kN,ym,va,zm,c,R.bind_ok,zB,yJ,List.getElem?_cons_zero,List.getElem?_cons_succ];rw [if_pos (by simp [cap])];simp [zn,Function.comp_def]
 exact key _ _ rfl by_ gl ixs
theorem eq_str{a b:Str}(ha:PyData.strOk a=true)(hb:PyData.strOk b=true)(s:Sto):dEq (.str a) (.str b) s=.ok (.bl (a==b)) s:=by simp [dEq,z3j,eqD,xS,PyData.eqv,SeqAt.shaped,PyData.canLay0,PyData.depth,ha,hb]
theorem z6u(r:Rl):PyData.strOk (nmR r)=true:=by cases r<;>decide +kernel
theorem z5l(r:Rl)(s:Sto):dEq (.str (nmR r)) (.str "turn") s=.ok (.bl (decide (r=.tu))) s:=by
 rw [eq_str (z6u r) (by decide +kernel)];congr 2;cases r<;>decide +kernel
theorem zd9(r:Rl)(xs:List D)(hl:xs.length<=4)(s:Sto):jg [.str (nmR r),.tup xs] s=.ok (.tup (mvd r xs)) s:=by
 have e1:=z34 xs 1 s;have e2:=kr xs 1 s;have cp:(xs.drop 1).length+(xs.take 1).length<=cap:=by simp [cap];omega
 have key:∀ d e:D,d=.str (nmR r)->e=.tup xs->jg [d,e] s=.ok (.tup (mvd r xs)) s:=fun d e hd he=>by
  have st:zx ["rule","numbers"] [d,e]=[some d,some e]:=rfl;have t:tOf (eOp dEq (zc 0) (eC (.str "turn"))) [some d,some e] s=.ok (decide (r=.tu)) s:=by simp only [uM,xf,yJ,jU,List.getElem?_cons_zero,R.bind_ok,hd,z5l]
  simp only [jg,Mof,z6b,st,List.length_cons,List.length_nil,if_true,z4I,ym,z9a,t,R.bind_ok];by_cases q:r=.tu
  ·simp only [q,decide_true,if_true];subst q;rw [z6C];simp only [xf,z1N,yJ,yY,vL,jU,List.getElem?_cons_zero,List.getElem?_cons_succ,R.bind_ok,he];rw [show (1:Int)=((1:Nat):Int) from rfl,e2,R.bind_ok,e1,R.bind_ok,kO,if_pos cp];rfl
  ·simp only [q,decide_false];rw [z2o q];simp [he]
 exact key _ _ rfl rfl
theorem z6J{α β:Type}(f:α->D)(g:β->D):∀ (l:List α)(k:List β),z2r (l.map f) (k.map g)=(l.zip k).map fun p=>D.tup [f p.1,g p.2]
 | [],_=>by simp [z2r] | _::_,[]=>by simp [z2r] | a::l,b::k=>by simp [z2r,z6J f g l k]
theorem zc3{α β:Type}(r:Rl)(f:α->β)(xs:List α):mvd r (xs.map f)=(mvd r xs).map f:=by unfold mvd rot;split<;>simp [List.map_take,List.map_drop]
theorem z4R.q{n m:Nat}{v:List Int}(r:Rl)(h:z4R n m v)(he:ended v=false):Qs v (deal r v).1 (zn v (deal r v)):=zbH h.nn (jb r h.toLot he)
theorem zgf{n m:Nat}{v:List Int}(r:Rl)(h:z4R n m v)(he:ended v=false):∀ q∈zn v (deal r v),0<=q/\q<2 ^ m:=fun q hq=>by
 have Q:=h.q r he;refine ⟨Q.nn q hq,?_⟩;obtain ⟨i,hi,rfl⟩:=List.mem_iff_getElem.mp hq;have hi':i<v.length:=by rw [<- Q.len];exact hi
 simp only [zn,List.getElem_map,List.getElem_range];have b:=h.bd _ (Pm.getD_mem hi');have n0:=wj h.nn i;split
 ·have:=Int.ediv_le_self (v.getD (deal r v).1 0) n0;omega
 ·omega
theorem zdL {n m:Nat} {v:List Int} (r:Rl) (h:z4R n m v) (he:ended v=false) (hm:m<=1999) (s:Sto):M_step [.str (nmR r),rD v] s=.ok (rD (stp r v)) s:=by
 have l4:=h.toLot.le4;have w:=z5h r h.toLot he s;have dv:=z7G r h he hm s;have Q:=h.q r he;have dl:=jb r h.toLot he;have ix:dIx (rD v) (.int ((deal r v).1:Nat)) s=.ok (.int (v.getD (deal r v).1 0)) s:=z12 s dl.lt;have mo:=zd9 r (iL (left v (zn v (deal r v)) (deal r v).1)) (by simp [qw Q.len];omega) s;have key:∀ d e:D,e=rD v->xh [d,e] s=.ok .non s->xO [d,e] s=.ok (.tup [.int ((deal r v).1:Nat),.lst (iL (zn v (deal r v)))]) s->jg [d,.tup (iL (left v (zn v (deal r v)) (deal r v).1))] s=.ok (.tup (mvd r (iL (left v (zn v (deal r v)) (deal r v).1)))) s-> M_step [d,e] s=.ok (rD (stp r v)) s:=fun d e hd h1 h2 h3=>by
  have st:zx ["rule","lot","by","quotients","left"] [d,e]=[some d,some e,none,none,none]:=rfl;have ixe:dIx e (.int ((deal r v).1:Nat)) s=.ok (.int (v.getD (deal r v).1 0)) s:=by rw [hd];exact ix
  simp only [M_step,Mof,z7W,st,List.length_cons,List.length_nil,if_true];rw [zi (ρ':=[some d,some e,none,none,none]) (s':=s) (by simp [h1])];rw [zi (ρ':=[some d,some e,some (.int ((deal r v).1:Nat)),some (.lst (iL (zn v (deal r v)))),none]) (s':=s) (by simp [h2])];have ir:z7H (za (zc 1) (za (zc 3) zj)) [some d,some e,some (.int ((deal r v).1:Nat)),some (.lst (iL (zn v (deal r v)))),none] s=.ok ((v.zip (zn v (deal r v))).map fun p=>D.tup [.int p.1,.int p.2],[]) s:=by simp only [ze6,zm,zB,yJ,List.getElem?_cons_zero,List.getElem?_cons_succ,R.bind_ok,hd,z2Q,z6J,List.append_nil]
  have c:=comp_map (mp:=[some 1,some 2,none,none]) (fg:=xP 2 3) (fe:=eOp z9D (zc 2) (eOp uh (zc 3) (eOp dIx (zc 0) (zc 1)))) (fun p:Int×Int=>D.tup [.int p.1,.int p.2]) (fun p:Int×Int=>D.int (p.1-p.2*v.getD (deal r v).1 0)) (fun p=>[some e,some (.int ((deal r v).1:Nat)),some (.int p.1),some (.int p.2)]) _ ir (fun p _=>by simp) (fun p hp=>by
    have hq:=zgf r h he p.2 (List.of_mem_zip hp).2;have ab:p.2.natAbs<2 ^ m:=by
     have e1:((p.2.natAbs:Nat):Int)=p.2:=Int.natAbs_of_nonneg hq.1;have:((p.2.natAbs:Nat):Int)<((2 ^ m:Nat):Int):=by rw [e1];simpa using hq.2
     omega
    have mu:=zf0 (a:=p.2) (b:=v.getD (deal r v).1 0) s ab (by omega) (h.abs _ (Pm.getD_mem dl.lt)) (by omega);simp only [xf,yJ,List.getElem?_cons_zero,List.getElem?_cons_succ,R.bind_ok,ixe,mu,zeZ]) (by simp [cap];omega);have el:(v.zip (zn v (deal r v))).map (fun p:Int×Int=>D.int (p.1-p.2*v.getD (deal r v).1 0))=iL (left v (zn v (deal r v)) (deal r v).1):=by
   unfold left;show _=List.map D.int _;rw [List.zip,List.map_zipWith,List.map_zipWith]
  rw [el] at c;rw [zi (ρ':=[some d,some e,some (.int ((deal r v).1:Nat)),some (.lst (iL (zn v (deal r v)))),some (.tup (iL (left v (zn v (deal r v)) (deal r v).1)))]) (s':=s) (by
   rw [z6F,ye,wm,zm,c];simp only [R.bind_ok,zB,z6O,List.set_cons_succ,List.set_cons_zero])];simp only [z6R,ym,wm,zm,zB,yJ,List.getElem?_cons_zero,List.getElem?_cons_succ,R.bind_ok,h3];rw [zc3];rfl
 exact key _ _ rfl w dv mo
theorem xJ{M:Mir}{f:FE}{ρ:Ev}{s:Sto}{x:D}(h:f ρ s=.ok x s):zf M (za f zj) ρ s=M [x] s:=by simp only [wm,zm,zB,h,R.bind_ok]
theorem call2{M:Mir}{f g:FE}{ρ:Ev}{s:Sto}{x y:D}(h:f ρ s=.ok x s)(h2:g ρ s=.ok y s):zf M (za f (za g zj)) ρ s=M [x,y] s:=by simp only [wm,zm,zB,h,h2,R.bind_ok]
theorem z0a{M:Mir}{f g k:FE}{ρ:Ev}{s:Sto}{x y z:D}(h:f ρ s=.ok x s)(h2:g ρ s=.ok y s)(h3:k ρ s=.ok z s):zf M (za f (za g (za k zj))) ρ s=M [x,y,z] s:=by simp only [wm,zm,zB,h,h2,h3,R.bind_ok]
theorem op2{o:D->D->Sto->R D}{f g:FE}{ρ:Ev}{s:Sto}{x y:D}(h:f ρ s=.ok x s)(h2:g ρ s=.ok y s):eOp o f g ρ s=o x y s:=by simp only [xf,h,h2,R.bind_ok]
theorem zc7{x d:D}{xs:List D}{s:Sto}(h:zP s x=some (xs++[d])):dIx x (.int (-1)) s=.ok d s:=by
 have e:ixN (xs++[d]).length (-1)=some xs.length:=by
  unfold ixN;rw [if_neg (by omega),if_pos (by simp;omega)];congr 1;simp;omega
 simp only [dIx,h,atI,e,Option.bind_some];simp
theorem z6o{i:Int}(h0:0<=i)(h:i<2 ^ 2000):i.natAbs<BIG:=by
 have e:(i.natAbs:Int)=i:=Int.natAbs_of_nonneg h0;have k:(2:Int) ^ 2000<=((BIG:Nat):Int):=by decide +kernel
 exact Int.ofNat_lt.mp (Int.lt_of_lt_of_le (by rw [e];exact h) k)
theorem z1n{a b:Int}(s:Sto)(ha:0<=a)(ha':a<2 ^ 2000)(hb:0<=b)(hb':b<2 ^ 2000):uh (.int a) (.int b) s=.ok (.int (a*b)) s:=by rw [zbq,if_pos ⟨z6o ha ha',z6o hb hb'⟩]
theorem zcK{a b:Int}(s:Sto)(hb:0<b)(hb':b<2 ^ 2000):z4z (.int a) (.int b) s=.ok (.int (a / b)) s:=by rw [z5i,if_pos ⟨hb,z6o (by omega) hb'⟩]
theorem zf9(ns:List Int)(k:Nat)(s:Sto):∃ c,yE [.scr (iL ns),.int k] s=.ok (.int c) s:=by
 by_cases h:k<ns.length
 ·have hk:(k:Int)<ns.length:=by omega
  refine ⟨ns[k],?_⟩;have e:ixN (iL ns).length (k:Int)=some k:=by
   unfold ixN;rw [if_pos (by omega),if_pos (by simpa using hk)];simp
  have ix:dIx (.scr (iL ns)) (.int k) s=.ok (.int ns[k]) s:=by
   simp only [dIx,zP,atI,e,Option.bind_some];simp [h]
  simp only [iL] at ix;simp [yE,Mof,vk,zx,xI,zP,hk,ix]
 ·have hk:¬ (k:Int)<ns.length:=by omega
  exact ⟨0,by simp [yE,Mof,vk,zx,xI,zP,hk]⟩
def Pot(s:Sto)(l:Nat):Prop:=∃ p:Int,s[l]? = some [.int p]
theorem Pot.lt{s:Sto}{l:Nat}(h:Pot s l):l<s.length:=by
 obtain ⟨p,e⟩:=h;exact (List.getElem?_eq_some_iff.mp e).1
theorem Pot.app{s:Sto}{l:Nat}(h:Pot s l)(t:Sto):Pot (s++t) l:=by
 obtain ⟨p,e⟩:=h;exact ⟨p,by rw [List.getElem?_append_left (List.getElem?_eq_some_iff.mp e).1];exact e⟩
structure qb(s s':Sto)(l:Nat):Prop where
 pot:Pot s' l
 len:s'.length=s.length
 oth:∀ m,m≠l->s'[m]? = s[m]?
theorem zbj{s:Sto}{l:Nat}{far:Int}(h:Pot s l)(h0:0<far)(h1:far<2 ^ 2000):∃ r s',zA [.loc l,.int far] s=.ok (.int r) s'/\0<=r/\r<far/\qb s s' l:=by
 obtain ⟨p,e⟩:=h;have hl:l<s.length:=(List.getElem?_eq_some_iff.mp e).1;refine ⟨p % far,s.set l [.int (p / far)],?_,Int.emod_nonneg _ (by omega),Int.emod_lt_of_pos _ h0,⟨p / far,by rw [List.getElem?_set_self hl]⟩,by simp,fun m hm=>List.getElem?_set_ne (Ne.symm hm)⟩;have ix:dIx (.loc l) (.int 0) s=.ok (.int p) s:=by simp [dIx,zP,e,atI,ixN]
 simp [zA,Mof,z01,zx,ix,z5W s h0,zcK s h0 h1,e,ixN,z0s,List.replicate]
theorem zeh(s:Sto):z62 (.int 10) (.int 18) s=.ok (.int 1000000000000000000) s:=by rw [z8O];rfl
theorem zg3(s:Sto):z62 (.int 10) (.int 15) s=.ok (.int 1000000000000000) s:=by rw [z8O];rfl
theorem zha(s:Sto):z62 (.int 10) (.int 39) s=.ok (.int 1000000000000000000000000000000000000000) s:=by rw [z8O];rfl
theorem pow_step{m r j:Nat}(h:m<2147483648 ^ j)(hr:r<2147483587):m*2147483587+r<2147483648 ^ (j+1):=by
 rw [Nat.pow_succ];generalize 2147483648 ^ j=B at h;omega
theorem zfq{m j:Nat}(h:m<2147483648 ^ j)(hj:j<=64):((m:Nat):Int)<2 ^ 2000:=by
 have h1:2147483648 ^ j<=2147483648 ^ 64:=Nat.pow_le_pow_right (by decide) hj;have h2:2147483648 ^ 64<=2 ^ 2000:=by decide +kernel
 have h3:m<2 ^ 2000:=Nat.lt_of_lt_of_le h (Nat.le_trans h1 h2);have h4:((2 ^ 2000:Nat):Int)=2 ^ 2000:=by decide +kernel
 rw [<- h4];exact Int.ofNat_lt.mpr h3
theorem zhd (c:Int) (s:Sto):∃ p:Int,wK [.int c] s=.ok (.loc s.length) (s++[[.int p]]):=by
 by_cases h:1000000000000000000<=c;·exact ⟨c-1000000000000000000,by simp [wK,Mof,qX,zx,zeh,h,D.flat.flats,z0s,cap,List.replicate]⟩
 ·have lp:∃ ρ' s',kS [some (.int c),some (.int 0),none,none] s=.ok (.nx ρ') s'/\∃ (m:Nat) (a b:Option D),ρ'=[some (.int c),some (.int m),a,b]/\s'=s:=by
   obtain ⟨ρ',s',e,m,a,b,e1,e2,_⟩:=jr (all:=yO 64) (body:=fun d ρ s=>(wv 2 d ρ s).bind fun ρ' s'=>(zH kY (zH kL kZ)) ρ' s') (fun j ρ s'=>∃ (m:Nat) (a b:Option D),ρ=[some (.int c),some (.int m),a,b]/\s'=s/\m<2147483648 ^ j) (yO 64) 0 (fun j x hx ρ s' hi=>by
    obtain ⟨m,a,b,rfl,rfl,hm⟩:=hi;obtain ⟨hj,rfl⟩:=z4N hx;rw [Nat.zero_add] at hm;have r0:=Int.emod_nonneg c (show (2147483629:Int)≠0 by decide);have r1:=Int.emod_lt_of_pos c (show (0:Int)<2147483629 by decide);have a1:z7g (.int c) (.int 2147483629) s'=.ok (.int (c % 2147483629)) s':=z5W s' (by decide);have a2:uh (.int 7919) (.int j) s'=.ok (.int (7919*j)) s':=z1n s' (by decide) (by decide +kernel) (by omega) (by omega);have a3:uh (.int (c % 2147483629+7919*j+1)) (.int 48271) s'=.ok (.int ((c % 2147483629+7919*j+1)*48271)) s':=z1n s' (by omega) (by omega) (by decide) (by decide +kernel);generalize hx1:(c % 2147483629+7919*(j:Int)+1)*48271 % 2147483647=x1;have b0:0<=x1:=by rw [<- hx1];exact Int.emod_nonneg _ (by decide)
    have b1:x1<2147483647:=by rw [<- hx1];exact Int.emod_lt_of_pos _ (by decide)
    have a4:z7g (.int ((c % 2147483629+7919*j+1)*48271)) (.int 2147483647) s'=.ok (.int x1) s':=by rw [<- hx1];exact z5W s' (by decide)
    have a5:uh (.int x1) (.int x1) s'=.ok (.int (x1*x1)) s':=z1n s' b0 (by omega) b0 (by omega);have a6:uh (.int 69621) (.int j) s'=.ok (.int (69621*j)) s':=z1n s' (by decide) (by decide +kernel) (by omega) (by omega);generalize hx2:(x1*x1+69621*(j:Int)+7) % 2147483587=x2;have c0:0<=x2:=by rw [<- hx2];exact Int.emod_nonneg _ (by decide)
    have c1:x2<2147483587:=by rw [<- hx2];exact Int.emod_lt_of_pos _ (by decide)
    have a7:z7g (.int (x1*x1+69621*j+7)) (.int 2147483587) s'=.ok (.int x2) s':=by rw [<- hx2];exact z5W s' (by decide)
    have a8:uh (.int m) (.int 2147483587) s'=.ok (.int (m*2147483587)) s':=z1n s' (by omega) (zfq hm (by omega)) (by decide) (by decide +kernel);obtain ⟨y,rfl⟩:=Int.eq_ofNat_of_zero_le c0;refine ⟨[some (.int c),some (.int ((m*2147483587+y:Nat):Int)),some (.int j),some (.int y)],s',?_,m*2147483587+y,_,_,rfl,rfl,?_⟩;·simp [a1,a2,a3,a4,a5,a6,a7,a8]
    ·rw [Nat.zero_add];exact pow_step hm (by omega)) [some (.int c),some (.int 0),none,none] s ⟨0,none,none,rfl,rfl,by decide⟩;exact ⟨ρ',s',by simpa using e,m,a,b,e1,e2⟩
  obtain ⟨ρ',s',e,m,a,b,rfl,rfl⟩:=lp;refine ⟨m,?_⟩;have st:zx ["_law_cell","_law_number","_law_j","_law_more"] [.int c]=[some (.int c),none,none,none]:=rfl;simp only [wK,Mof,qX,st,List.length_cons,List.length_nil,if_true];rw [zi (ρ':=[some (.int c),none,none,none]) (s':=s') (by simp [zeh,h])];rw [zi (ρ':=[some (.int c),some (.int 0),none,none]) (s':=s') (by simp)];rw [zi e];simp [D.flat.flats,z0s,cap]
structure LS(s0:Sto)(l:Nat)(s:Sto)(xs:List Int):Prop where
 pot:Pot s l
 len:s.length=s0.length+1
 at_:s[s0.length]? = some (iL xs)
 oth:∀ m,m≠l->m<s0.length->s[m]? = s0[m]?
theorem LS.drawn{s0 s s':Sto}{l:Nat}{xs:List Int}(h:LS s0 l s xs)(hl:l<s0.length)(d:qb s s' l):LS s0 l s' xs:= ⟨d.pot,by rw [d.len,h.len],by rw [d.oth _ (by omega)];exact h.at_,fun m h1 h2=>by rw [d.oth m h1];exact h.oth m h1 h2⟩
theorem LS.set{s0 s:Sto}{l:Nat}{xs:List Int}(h:LS s0 l s xs)(hl:l<s0.length)(ys:List Int):LS s0 l (s.set s0.length (iL ys)) ys:=by
 refine ⟨?_,by simp [h.len],List.getElem?_set_self (by rw [h.len];omega),fun m h1 h2=>?_⟩
 ·obtain ⟨p,e⟩:=h.pot;exact ⟨p,by rw [List.getElem?_set_ne (by omega)];exact e⟩
 ·rw [List.getElem?_set_ne (by omega)];exact h.oth m h1 h2
theorem LS.fin{s0 s:Sto}{l:Nat}{xs:List Int}(h:LS s0 l s xs)(hl:l<s0.length):qb s0 (s.take s0.length) l:=by
 obtain ⟨p,e⟩:=h.pot;refine ⟨⟨p,by rw [List.getElem?_take_of_lt hl];exact e⟩,by simp [h.len],fun m h1=>?_⟩;by_cases h2:m<s0.length;·rw [List.getElem?_take_of_lt h2];exact h.oth m h1 h2
 ·rw [List.getElem?_eq_none (by simp [h.len];omega),List.getElem?_eq_none (by omega)]
theorem LS.start{s0 s:Sto}{l:Nat}(d:qb s0 s l)(h:Pot s0 l)(xs:List Int):LS s0 l (s++[iL xs]) xs:= ⟨d.pot.app _,by simp [d.len],by rw [<- d.len];simp,fun m h1 h2=>by rw [List.getElem?_append_left (by rw [d.len];exact h2)];exact d.oth m h1⟩
theorem qb.trans{s s1 s2:Sto}{l:Nat}(a:qb s s1 l)(b:qb s1 s2 l):qb s s2 l:=⟨b.pot,by rw [b.len,a.len],fun m h=>by rw [b.oth m h,a.oth m h]⟩
theorem jl{s:Sto}{l:Nat}{far:Int}{f g:FE}{ρ:Ev}(h:Pot s l)(h0:0<far)(h1:far<2 ^ 2000)(hf:f ρ s=.ok (.loc l) s)(hg:g ρ s=.ok (.int far) s):∃ r s',zf zA (za f (za g zj)) ρ s=.ok (.int r) s'/\0<=r/\r<far/\qb s s' l:=by
 obtain ⟨r,s',e,a,b,c⟩:=zbj h h0 h1;exact ⟨r,s',by rw [call2 hf hg,e],a,b,c⟩
theorem zf4{xs:List D}{i:Int}{d:D}{s:Sto}(h0:0<=i)(h:xs[i.toNat]? = some d):dIx (.lst xs) (.int i) s=.ok d s:=by
 have hj:i.toNat<xs.length:=(List.getElem?_eq_some_iff.mp h).1;have e:ixN xs.length i=some i.toNat:=by
  unfold ixN;rw [if_pos h0,if_pos (by omega)]
 simp only [dIx,zP,atI,e,Option.bind_some,h]
theorem zdK{xs:List D}{l:Nat}{i:Int}{d:D}{s:Sto}(hl:s[l]? = some xs)(h0:0<=i)(h:xs[i.toNat]? = some d):dIx (.loc l) (.int i) s=.ok d s:=by
 have hj:i.toNat<xs.length:=(List.getElem?_eq_some_iff.mp h).1;have e:ixN xs.length i=some i.toNat:=by
  unfold ixN;rw [if_pos h0,if_pos (by omega)]
 simp only [dIx,zP,hl,atI,e,Option.bind_some,h]
theorem z32{fa fb fc:FE}{ρ:Ev}{s s1 s2:Sto}{L:Nat}{xs:List Int}{i x:Int}(hc:fc ρ s=.ok (.int x) s1)(ha:fa ρ s1=.ok (.loc L) s1)(hb:fb ρ s1=.ok (.int i) s2)(at_:s2[L]? = some (iL xs))(h0:0<=i)(h1:i<xs.length):z38 fa fb fc ρ s=.ok (.nx ρ) (s2.set L (iL (xs.set i.toNat x))):=by
 have e:ixN (iL xs).length i=some i.toNat:=by
  unfold ixN;rw [if_pos h0,if_pos (by simp;omega)]
 rw [zcl,hc,R.bind_ok,ha,R.bind_ok,hb,R.bind_ok];simp only [at_,e,z0s,if_true,iL,List.map_set]
theorem z8I{xs:List Int}{i:Nat}{x B:Int}(h:∀ y∈xs,0<=y/\y<=B)(hx:0<=x/\x<=B):∀ y∈xs.set i x,0<=y/\y<=B:=fun y hy=>by
 rcases List.mem_or_eq_of_mem_set hy with h2 | h2;·exact h y h2
 ·rw [h2];exact hx
theorem z4V{x:Int}(h:x<=1000):x<2 ^ 2000:=Int.lt_of_le_of_lt h (by decide +kernel)
theorem zaa{v:List Int}{n:Nat}{s:Sto}:z52 n (.ok (rD v) s)=.ok (rD v) (s.take n):=kc (yq v)
theorem zcQ{ns:List Int}{L:Nat}{s:Sto}{f:FE}{ρ:Ev}(h:ns≠[])(e:s[L]? = some (iL ns))(hf:f ρ s=.ok (.loc L) s):tOf (eOp dEq (zf wz (za f zj)) (eC (.int 0))) ρ s=.ok (decide (maxL ns=0)) s:=by
 rw [uM,xf,xJ hf,zai h e];simp
theorem z7p{ns:List Int}(h:ns≠[])(hn:∀ y∈ns,0<=y)(hm:maxL ns≠0):∃ x∈ns,0<x:=⟨maxL ns,maxL_mem h,by have:=hn _ (maxL_mem h);omega⟩
instance (A:Tb):Decidable (zhv A):=by unfold zhv;infer_instance
def okD:Nat->D->Bool
 | _,.non=>true | _,.bl _=>true | _,.int _=>true | _,.str x=>PyData.strOk x | k+1,.tup xs=>xs.all (okD k) | k+1,.lst xs=>xs.all (okD k) | _,_=>false
theorem zgq{k:Nat}:∀ (xs:List D),(∀ x∈xs,PyData.canLay0 (xS x)=true/\PyData.depth (xS x)<=2*k+3/\PyData.eqv (xS x) (xS x)=true)->PyData.canLayAll0 (toPys xs)=true/\PyData.depthAll (toPys xs)<=2*k+4/\PyData.eqvAll (toPys xs) (toPys xs)=true
 | [],_=>⟨rfl,by simp [toPys,PyData.depthAll],by simp [toPys,PyData.eqvAll]⟩ | x::xs,h=>by
  have h1:=h x (by simp);have h2:=zgq xs fun y hy=>h y (by simp [hy]);refine ⟨by simp [toPys,PyData.canLayAll0,h1.1,h2.1],?_,by simp [toPys,PyData.eqvAll,h1.2.2,h2.2.2]⟩;simp only [toPys,PyData.depthAll];omega
theorem zew:∀ (k:Nat)(d:D),okD k d=true->PyData.canLay0 (xS d)=true/\PyData.depth (xS d)<=2*k+3/\PyData.eqv (xS d) (xS d)=true:=by
 intro k;induction k with
 | zero=>
  intro d h;cases d with
  | str x=>simp only [okD] at h;simp [xS,PyData.canLay0,PyData.depth,PyData.eqv,h] | non=>simp [xS,PyData.canLay0,PyData.depth,PyData.eqv] | bl b=>simp [xS,PyData.canLay0,PyData.depth,PyData.eqv] | int i=>simp [xS,PyData.canLay0,PyData.depth,PyData.eqv] | _=>simp [okD] at h
 | succ k ih=>
  intro d h;cases d with
  | str x=>simp only [okD] at h;simp [xS,PyData.canLay0,PyData.depth,PyData.eqv,h] | non=>simp [xS,PyData.canLay0,PyData.depth,PyData.eqv] | bl b=>simp [xS,PyData.canLay0,PyData.depth,PyData.eqv] | int i=>simp [xS,PyData.canLay0,PyData.depth,PyData.eqv] | tup xs=>
   simp only [okD,List.all_eq_true] at h;have q:=zgq (k:=k) xs fun x hx=>ih x (h x hx);refine ⟨by simp only [xS,PyData.canLay0,q.1],?_,by simp only [xS,PyData.eqv,q.2.2]⟩;simp only [xS,PyData.depth];omega | lst xs=>
   simp only [okD,List.all_eq_true] at h;have q:=zgq (k:=k) xs fun x hx=>ih x (h x hx);refine ⟨by simp only [xS,PyData.canLay0,q.1],?_,by simp only [xS,PyData.eqv,q.2.2]⟩;simp only [xS,PyData.depth];omega | _=>simp [okD] at h
theorem z1X{k:Nat}{d:D}(h:okD k d=true)(hk:k<=10):z3j d=true:=by
 have q:=zew k d h;simp only [z3j,SeqAt.shaped,q.1];simp;omega
theorem zbL(k:Nat)(ns:List Int):(iL ns).all (okD k)=true:=by
 rw [List.all_eq_true];intro x hx;obtain ⟨n,_,rfl⟩:=List.mem_map.mp hx;cases k<;>rfl
theorem z9o(k:Nat)(ns:List Int):okD (k+1) (rD ns)=true:=zbL k ns
theorem zeI(k:Nat)(T:Tb):okD (k+2) (tD T)=true:=by
 show (T.map rD).all (okD (k+1))=true;rw [List.all_eq_true];intro x hx;obtain ⟨n,_,rfl⟩:=List.mem_map.mp hx;exact z9o k n
theorem zbY(k:Nat)(T:Tb):okD (k+2) (.lst (T.map rD))=true:=zeI k T
theorem ne_nil{k:Nat}{xs:List D}(h:okD k (.lst xs)=true)(hk:k<=10)(s:Sto):dNe (.lst xs) (.lst []) s=.ok (.bl (!xs.isEmpty)) s:=by
 have o:=z1X h hk;have o2:z3j (.lst [])=true:=z1X (k:=1) rfl (by decide);rw [dNe,if_pos ⟨o,o2⟩];cases xs with
 | nil=>simp [eqD,xS,toPys,PyData.eqv,PyData.eqvAll] | cons x xs=>simp [eqD,xS,toPys,PyData.eqv,PyData.eqvAll]
end Pg
namespace Pn
open PySem.Spec L2 Dd Pm Pg
def isI:D->Bool
 | .int _=>true | _=>false
theorem z5L{d:D}(h:(tyD d).isSome=true)(s:Sto):yF [d] s=.ok (.bl (isI d)) s:=by cases d<;>simp [tyD] at h<;>simp [yF,Mof,jh,zx,gIs,tyD,isT,isI]
theorem z4l{d:D}(h:(tyD d).isSome=true)(s:Sto):qh [d] s=.ok (.bl (isI d)) s:=by cases d<;>simp [tyD] at h<;>simp [qh,Mof,jv,zx,gIs,tyD,isT,isI]
theorem z9U{α:Type}(l:List α)(p:α->Bool)(s:Sto):z7K [.lst (l.map fun x=>D.bl (p x))] s=.ok (.bl (l.all p)) s:=by
 have b:bools (l.map fun x=>D.bl (p x))=some (l.map p):=by
  rw [show (l.map fun x=>D.bl (p x))=(l.map p).map D.bl by rw [List.map_map];rfl];exact z3T _
 simp [z7K,zP,b]
theorem z9d(k:Nat)(b:Bool)(s:Sto):zL (k+1) [.bl b,.bl b] s=.ok (.bl true) s:=by
 have e:dEq (.bl b) (.bl b) s=.ok (.bl true) s:=by rw [zgW];simp
 have d1:dIs (.bl b) .non s=.ok (.bl false) s:=rfl;simp [zL,Mof,vC,zx,zfI,zdT,gIs,tyD,isT,d1]
theorem same_int(k:Nat)(i:Int)(s:Sto):zL (k+1) [.int i,.int i] s=.ok (.bl true) s:=by
 have d1:dIs (.int i) .non s=.ok (.bl false) s:=rfl;have w:=z4l (d:=.int i) rfl s;simp [zL,Mof,vC,zx,zfI,zdT,gIs,tyD,isT,d1,w,isI]
theorem z3U:∀ xs:List D,z2r xs xs=xs.map fun x=>D.tup [x,x]
 | []=>rfl | x::xs=>by rw [z2r,z3U xs];rfl
theorem z3c {k:Nat} {xs:List D} {s:Sto} (hl:xs.length<=cap) (h:∀ x∈xs,zL k [x,x] s=.ok (.bl true) s) (d:D) (hd:d=.tup xs\/d=.lst xs):zL (k+1) [d,d] s=.ok (.bl true) s:=by
 have st:zx ["_law_found","_law_due"] [d,d]=[some d,some d]:=rfl;have g:z2Q s d=some (xs,[]):=by rcases hd with rfl | rfl<;>rfl
 have c:=comp_map (fi:=z7H (za (zc 0) (za (zc 1) zj))) (mp:=[none,none]) (fg:=xP 0 1) (fe:=zf (zL k) (za (zc 0) (za (zc 1) zj))) (ρ:=[some d,some d]) (s:=s) (fun x=>D.tup [x,x]) (fun x=>D.bl true) (fun x=>[some x,some x]) xs (by simp [g,z3U]) (fun a _=>by simp) (fun a ha=>by simp [h a ha]) hl;have ga:=z9U xs (fun _=>true) s;have ga:z7K [.lst (xs.map fun _=>D.bl true)] s=.ok (.bl true) s:=by rw [ga];simp
 have gl:xI [d] s=.ok (.int xs.length) s:=by rcases hd with rfl | rfl<;>simp [xI,zP]
 have q4:uq (zL k) [some d,some d] s=.ok (.rt (.bl true)) s:=by simp only [uq,ym,z4c,xf,wm,zm,zB,c,R.bind_ok,ga,yJ,List.getElem?_cons_zero,List.getElem?_cons_succ,gl,z2S,decide_true]
 have q2:jk (zL k) [some d,some d] s=.ok (.nx [some d,some d]) s:=by rcases hd with rfl | rfl<;>simp [gIs,tyD,isT]
 have q1:ut (zL k) [some d,some d] s=.ok (.rt (.bl true)) s:=by
  rw [ut,z1U];have t:tOf (zdT "list" "tuple" (zc 1)) [some d,some d] s=.ok true s:=by rcases hd with rfl | rfl<;>simp [zdT,zfI,tyD,isT]
  rw [t,R.bind_ok,if_pos rfl,zi q2,q4]
 simp only [zL,Mof,vC,st,List.length_cons,List.length_nil,if_true];rw [kW q1]
end Pn
namespace Pm
end Pm
namespace Pg
open PySem.Spec L2 Dd Pm
theorem vr{i:Nat}{ρ:Ev}{s:Sto}{d:D}(h:ρ[i]? = some (some d)):zc i ρ s=.ok d s:=by rw [yJ,h]
theorem z7o{f g:FS}{t:FT}{ρ:Ev}{s:Sto}(h:t ρ s=.ok false s):fIf t f g ρ s=g ρ s:=by rw [z1U,h,R.bind_ok,if_neg (by decide)]
theorem zg1{t u:FT}{ρ:Ev}{s:Sto}(h:t ρ s=.ok false s)(h2:u ρ s=.ok false s):fOr t u ρ s=.ok false s:=by rw [zgb,h,R.bind_ok,if_neg (by decide),h2]
theorem vM{f:FE}{ρ:Ev}{s:Sto}{b:Bool}(h:f ρ s=.ok (.bl b) s):tOf f ρ s=.ok b s:=by rw [uM,h];rfl
theorem zeG{t:FT}{ρ:Ev}{s:Sto}(h:t ρ s=.ok true s):z76 t ρ s=.ok false s:=by rw [z8i,h];rfl
end Pg
namespace Pm
def Pr(p:Int):Prop:=∀ x y:Int,p ∣ x*y->p ∣ x\/p ∣ y
def nrm(r a b c:Int):Int:=a*a*a+r*(b*b*b)+r*r*(c*c*c)-3*r*(a*b*c)
end Pm
namespace Pg
open PySem.Spec L2 Dd Pm
variable (Mr:Mir)
abbrev w1:FT:=tOf (eOp dLe (eOp ze8 (zc 1) (eC (.int 3))) (zc 0))
abbrev w2:FT:=tOf (eOp dGt (eOp ze8 (zc 1) (eC (.int 3))) (zc 0))
end Pg
namespace Pm
section
variable {r F G:Int}
structure A3(N:Nat)(a b c:Int):Prop where
 a:a.natAbs<=N
 b:b.natAbs<=N
 c:c.natAbs<=N
end
end Pm
namespace Pg
open PySem.Spec L2 Dd Pm
abbrev cD(a b c:Int):D:=.tup [.int a,.int b,.int c]
theorem z3d:∀ xs:List D,z2r xs xs=xs.map fun x=>D.tup [x,x]
 | []=>rfl | x::xs=>by simp [z2r,z3d xs]
section
variable (Mr:Mir)
theorem same_int(i:Int)(s:Sto):Mof ["_law_found","_law_due"] 2 (zE Mr) [.int i,.int i] s=.ok (.bl true) s:=by simp [Mof,zE,zx,gIs,tyD,isT,dIs,yQ,uy]
theorem z9d(i:Bool)(s:Sto):Mof ["_law_found","_law_due"] 2 (zE Mr) [.bl i,.bl i] s=.ok (.bl true) s:=by simp [Mof,zE,zx,gIs,tyD,isT,dIs]
theorem zak(s:Sto):Mof ["_law_found","_law_due"] 2 (zE Mr) [.non,.non] s=.ok (.bl true) s:=by simp [Mof,zE,zx,dIs]
theorem z3c {xs:List D} {d:D} (hd:d=.tup xs\/d=.lst xs) (hl:xs.length<=cap) (s:Sto) (h:∀ x∈xs,Mr [x,x] s=.ok (.bl true) s):Mof ["_law_found","_law_due"] 2 (zE Mr) [d,d] s=.ok (.bl true) s:=by
 have st:zx ["_law_found","_law_due"] [d,d]=[some d,some d]:=rfl;have cp:=comp_map (fi:=z7H (za (zc 0) (za (zc 1) zj))) (mp:=[none,none]) (fg:=xP 0 1) (fe:=zf Mr (za (zc 0) (za (zc 1) zj))) (ρ:=[some d,some d]) (s:=s) (fun x=>D.tup [x,x]) (fun _=>D.bl true) (fun x=>[some x,some x]) xs (by rcases hd with rfl | rfl<;>simp [z2Q,z3d]) (fun x _=>by simp) (fun x hx=>by rw [call2 (x:=x) (y:=x) (by simp) (by simp)];exact h x hx) hl;have ga:zf z7K (za (zT (z7H (za (zc 0) (za (zc 1) zj))) [none,none] (xP 0 1) vc (zf Mr (za (zc 0) (za (zc 1) zj)))) zj) [some d,some d] s=.ok (.bl true) s:=by
  rw [xJ cp];exact z2I s (by intro x hx;obtain ⟨_,_,rfl⟩:=List.mem_map.mp hx;rfl)
 simp only [Mof,zE,st,List.length_cons,List.length_nil,if_true];have e1:zf xI (za (zc 0) zj) [some d,some d] s=.ok (.int xs.length) s:=by rcases hd with rfl | rfl<;>simp [xI,zP]
 have e2:zf xI (za (zc 1) zj) [some d,some d] s=.ok (.int xs.length) s:=by rcases hd with rfl | rfl<;>simp [xI,zP]
 have f1:wD Mr [some d,some d] s=.ok (.nx [some d,some d]) s:=by rcases hd with rfl | rfl<;>simp [dIs]
 have f3:wA Mr [some d,some d] s=.ok (.nx [some d,some d]) s:=by rcases hd with rfl | rfl<;>simp [gIs,tyD,isT]
 have f5:wB Mr [some d,some d] s=.ok (.nx [some d,some d]) s:=by rcases hd with rfl | rfl<;>simp [gIs,tyD,isT]
 have f7:wx Mr [some d,some d] s=.ok (.nx [some d,some d]) s:=by rcases hd with rfl | rfl<;>simp [gIs,tyD,isT]
 have f9:wq Mr [some d,some d] s=.ok (.nx [some d,some d]) s:=by rcases hd with rfl | rfl<;>simp [gIs,tyD,isT]
 have f11:yt Mr [some d,some d] s=.ok (.rt (.bl true)) s:=by
  rw [yt,ym,z4c,op2 e1 e2,z2S];simp only [R.bind_ok,decide_true];rw [ga];rfl
 rw [zi f1,zi f3,zi f5,zi f7,zi f9,f11]
end
def smD:Nat->D->Bool
 | _,.int _=>true | _,.bl _=>true | _,.non=>true | k+1,.tup xs=>xs.all (smD k)&&decide (xs.length<=cap) | k+1,.lst xs=>xs.all (smD k)&&decide (xs.length<=cap) | _,_=>false
theorem z5y:∀ (k:Nat)(d:D)(s:Sto),smD k d=true->zF (k+1) [d,d] s=.ok (.bl true) s
 | k,.int i,s,_=>same_int _ i s | k,.bl i,s,_=>z9d _ i s | k,.non,s,_=>zak _ s | k+1,.tup xs,s,h=>by
  simp only [smD,Bool.and_eq_true,List.all_eq_true,decide_eq_true_eq] at h;exact z3c _ (.inl rfl) h.2 s fun x hx=>z5y k x s (h.1 x hx) | k+1,.lst xs,s,h=>by
  simp only [smD,Bool.and_eq_true,List.all_eq_true,decide_eq_true_eq] at h;exact z3c _ (.inr rfl) h.2 s fun x hx=>z5y k x s (h.1 x hx) | 0,.tup xs,s,h=>by simp [smD] at h | 0,.lst xs,s,h=>by simp [smD] at h | 0,.str xs,s,h=>by simp [smD] at h | k+1,.str xs,s,h=>by simp [smD] at h | 0,.dct,s,h=>by simp [smD] at h | k+1,.dct,s,h=>by simp [smD] at h | 0,.loc l,s,h=>by simp [smD] at h | 0,.dlo l,s,h=>by simp [smD] at h | k+1,.loc l,s,h=>by simp [smD] at h | k+1,.dlo l,s,h=>by simp [smD] at h | 0,.fn l,s,h=>by simp [smD] at h | k+1,.fn l,s,h=>by simp [smD] at h | 0,.exc l,s,h=>by simp [smD] at h | k+1,.exc l,s,h=>by simp [smD] at h | 0,.scr l,s,h=>by simp [smD] at h | k+1,.scr l,s,h=>by simp [smD] at h
abbrev v1:FT:=tOf (eOp dLe (eOp uh (eOp uh (zc 2) (zc 2)) (zc 2)) (zc 0))
abbrev v2:FT:=tOf (eOp dGt (eOp z9D (zc 2) (zc 1)) (eC (.int 1)))
theorem qa{ar:FA}{ρ:Ev}{s s1:Sto}{n:Nat}(hn:n<=1000)(h:ar ρ s=.ok [.int n] s1):z1g ar ρ s=.ok ((List.range n).map fun k:Nat=>D.int ((k:Nat):Int),[]) s1:=by
 rw [zbm,h,Dd.R.bind_ok];simp only;rw [if_pos ⟨by omega,by omega⟩];simp [yO]
theorem three{ys:List D}{Q:D->Prop}(h:ys.length=3)(hq:∀ y∈ys,Q y):∃ a b c,ys=[a,b,c]/\Q a/\Q b/\Q c:=by match ys,h with | [a,b,c],_=>exact ⟨a,b,c,rfl,hq a (by simp),hq b (by simp),hq c (by simp)⟩
end Pg
namespace Pn
open PySem.Spec L2 Dd Pm Pg
theorem uV{n:Nat}{ar:FA}{ρ:Ev}{s s1:Sto}{z:Int}(hz:z=n)(hn:n<=1000)(h:ar ρ s=.ok [.int z] s1):z1g ar ρ s=.ok (yO n,[]) s1:=by
 subst hz;exact z9h hn h
def mt(a b c d e f:Bool):Nat->Nat->Bool
 | 0,1=>a | 0,2=>b | 0,3=>c | 1,2=>d | 1,3=>e | 2,3=>f | 1,0=>!a | 2,0=>!b | 3,0=>!c | 2,1=>!d | 3,1=>!e | 3,2=>!f | _,_=>false
def trn(n:Nat)(lt:Nat->Nat->Bool):Bool:=(List.range n).all fun i=>(List.range n).all fun j=>(List.range n).all fun k=>!(lt i j&&lt j k)||lt i k
def gud(n:Nat)(lt:Nat->Nat->Bool):Bool:=match kev n lt (W.kas_sort n) with
 | none=>false | some p=>decide (p.toList.Perm (List.range n))&&decide (p.toList.Pairwise fun i j=>lt i j=true)
theorem zhQ:∀ a b c d e f:Bool,trn 4 (mt a b c d e f)=true->gud 4 (mt a b c d e f)=true:=by decide +kernel
theorem zbP(p:Int×Int):lexLt p p=false:=by simp [Dd.lexLt]
theorem z80{p q:Int×Int}(h:p≠q):lexLt q p=!lexLt p q:=by
 obtain ⟨a,b⟩:=p;obtain ⟨c,d⟩:=q;simp only [Dd.lexLt];by_cases e:a=c
 ·subst e;have:b≠d:=fun z=>h (by rw [z]);simp only [if_true,this,this.symm,if_false];by_cases l:b<d;·simp [l];omega
  ·simp [l];omega
 ·have e':¬ c=a:=fun z=>e z.symm;simp only [e,e',if_false];by_cases l:a<c;·simp [l];omega
  ·simp [l];omega
theorem z8g{p q:Int×Int}:Dd.lexLt p q=true ↔ p.1<q.1\/(p.1=q.1/\p.2<q.2):=by
 obtain ⟨a,b⟩:=p;obtain ⟨c,d⟩:=q;simp only [Dd.lexLt];by_cases e:a=c
 ·subst e;by_cases e2:b=d
  ·subst e2;simp
  ·simp [e2]
 ·simp [e]
theorem zaY{p q r:Int×Int}(h:Dd.lexLt p q=true)(h':Dd.lexLt q r=true):Dd.lexLt p r=true:=by
 rw [z8g] at *;omega
abbrev pD(p:Int×Int):D:=.tup [.int p.1,.int p.2]
end Pn
namespace Pm
open L2 (maxL minL maxL_ge maxL_mem minL_le minL_mem)
abbrev enP(v:List Int):List (Int×Nat):=v.zipIdx
def zax(v:List Int):List (Int×Int):=((enP v).filter fun p=>decide (0<p.1)).map fun p=>(p.1,(p.2:Int))
theorem z5p{v:List Int}{p:Int×Nat}:p∈enP v ↔ v[p.2]? = some p.1:=by
 obtain ⟨x,i⟩:=p;exact List.mem_zipIdx_iff_getElem?
theorem wH{v:List Int}{a:Int×Int}:a∈zax v ↔ ∃ i:Nat,a.2=i/\v[i]? = some a.1/\0<a.1:=by
 unfold zax;simp only [List.mem_map,List.mem_filter,decide_eq_true_eq];constructor
 ·rintro ⟨p,⟨hp,h0⟩,rfl⟩;exact ⟨p.2,rfl,z5p.mp hp,h0⟩
 ·rintro ⟨i,e,g,h0⟩;exact ⟨(a.1,i),⟨z5p.mpr g,h0⟩,by rw [<- e]⟩
theorem z9w{x:Int}:∀ {v:List Int}{i:Nat},v[i]? = some x->v.idxOf x<=i
 | [],i,h=>by simp at h | y::v,0,h=>by
  simp only [List.getElem?_cons_zero,Option.some.injEq] at h;subst h;simp | y::v,i+1,h=>by
  simp only [List.getElem?_cons_succ] at h;have:=z9w h;rw [List.idxOf_cons];cases y==x<;>simp<;>omega
theorem getD_get{v:List Int}{i:Nat}(h:i<v.length):v[i]? = some (v.getD i 0):=by simp [List.getD_eq_getElem?_getD,h]
theorem z5c{n:Nat}{v:List Int}(h:Lot n v)(a:Int×Int):a∈zax (others v) ↔ a∈zax v/\a.2≠((gp v:Nat):Int):=by
 have ne:=h.ne;rw [wH,wH];constructor
 ·rintro ⟨i,e,g,h0⟩;have hi:i<(others v).length:=by
   have:=(List.getElem?_eq_some_iff.mp g).1;exact this
  have g2:=wX ne i;rw [getD_get hi,Option.some.injEq,g2] at g;split at g;·omega
  ·rename_i q;rw [xm ne] at hi;exact ⟨⟨i,e,by rw [getD_get hi,g],h0⟩,by omega⟩
 ·rintro ⟨⟨i,e,g,h0⟩,hg⟩;have hi:i<v.length:=(List.getElem?_eq_some_iff.mp g).1;rw [getD_get hi,Option.some.injEq] at g;refine ⟨i,e,?_,h0⟩;rw [getD_get (by rw [xm ne];exact hi),wX ne i,if_neg (by omega),g]
theorem z84{n:Nat}{v:List Int}(h:Lot n v):∀ x∈others v,0<=x:=fun x hx=>by
 rw [others_eq h.ne] at hx;rcases List.mem_or_eq_of_mem_set hx with q | q;·exact h.nn x q
 ·omega
theorem z90{w:List Int}{qs:List (Int×Int)}(hw:∀ x∈w,0<=x)(hn:nz w≠[])(hm:∀ a,a∈qs ↔ a∈zax w):qs.map Prod.fst≠[]/\maxL (qs.map Prod.fst)=maxL w/\0<maxL w:=by
 have wne:w≠[]:=fun z=>hn (by rw [z];rfl);obtain ⟨y,hy⟩:=List.exists_mem_of_ne_nil _ hn;obtain ⟨y1,y2⟩:=jj.mp hy;have p0:0<maxL w:=by
  have:=hw y y1;have:=maxL_ge (xs:=w) y y1;omega
 have mw:=maxL_mem wne;obtain ⟨i1,i2⟩:=jD mw;have hin:(maxL w,((w.idxOf (maxL w):Nat):Int))∈qs:=(hm _).mpr (wH.mpr ⟨_,rfl,by rw [getD_get i1,i2],p0⟩);have hin':maxL w∈qs.map Prod.fst:=List.mem_map.mpr ⟨_,hin,rfl⟩;have ne:qs.map Prod.fst≠[]:=List.ne_nil_of_mem hin';refine ⟨ne,?_,p0⟩;have h1:=maxL_ge _ hin';have h2:=maxL_mem ne;obtain ⟨a,ha,e⟩:=List.mem_map.mp h2;obtain ⟨i,_,g,_⟩:=wH.mp ((hm a).mp ha);have h3:=maxL_ge (xs:=w) a.1 (List.mem_of_getElem? g);omega
abbrev P3:=Int×Int×Int
def nP(r:Int)(p:P3):Int:=nrm r p.1 p.2.1 p.2.2
def aP(N:Nat)(p:P3):Prop:=A3 N p.1 p.2.1 p.2.2
end Pm
namespace Pg
open PySem.Spec L2 Dd Pm
abbrev cP(p:P3):D:=cD p.1 p.2.1 p.2.2
theorem z6I{α:Type}{all:List D}{body:D->Sto->R (Option D)}(g:α->D)(P:Nat->Sto->Prop)(Q:D->Prop):∀ (l:List α)(j:Nat)(acc:List D)(s:Sto),(∀ i a,l[i]? = some a->∀ s,P (j+i) s->∃ y s',body (g a) s=.ok (some y) s'/\Q y/\P (j+i+1) s')->acc.length+l.length<=cap->P j s->(∀ y∈acc,Q y)->∃ ys s',we [] all body (l.map g) acc s=.ok ys s'/\ys.length=acc.length+l.length/\(∀ y∈ys,Q y)/\P (j+l.length) s'
 | [],j,acc,s,_,_,hP,hQ=>⟨acc,s,by simp [we,okG],by simp,hQ,hP⟩ | x::xs,j,acc,s,hb,hl,hP,hQ=>by
  obtain ⟨y,s1,e,hy,hP1⟩:=hb 0 x (by simp) s hP;obtain ⟨ys,s2,e2,h1,h2,h3⟩:=z6I (all:=all) g P Q xs (j+1) (acc++[y]) s1 (fun i a ha s h=>by
   have:=hb (i+1) a (by simpa using ha) s (by rw [show j+(i+1)=j+1+i by omega];exact h);rw [show j+(i+1)+1=j+1+i+1 by omega] at this;exact this) (by simp at hl ⊢;omega) hP1 (by
   intro z hz;rcases List.mem_append.mp hz with hz | hz;·exact hQ z hz
   ·simp at hz;rw [hz];exact hy);refine ⟨ys,s2,?_,by simp at h1 ⊢;omega,h2,by rw [List.length_cons,show j+(xs.length+1)=j+1+xs.length by omega];exact h3⟩;rw [List.map_cons,we,if_pos (by intro p hp;simp at hp),e];have hc:acc.length<cap:=by simp at hl;omega
  simp [hc,e2]
theorem zau {α:Type} {fi:FI} {mp:List (Option Nat)} {fg:FG} {fe:FE} {ρ:Ev} {s s0:Sto} (g:α->D) (ev:α->Ev) (P:Nat->Sto->Prop) (Q:D->Prop) (l:List α) (hi:fi ρ s=.ok (l.map g,[]) s0) (hg:∀ a∈l,∀ s,fg (g a) (zV mp ρ) s=.ok (ev a) s) (he:∀ i a,l[i]? = some a->∀ s,P i s->∃ y s',fe (ev a) s=.ok y s'/\Q y/\P (i+1) s') (hl:l.length<=cap) (hP:P 0 s0): ∃ ys s',z4H fi mp fg vc fe ρ s=.ok ys s'/\ys.length=l.length/\(∀ y∈ys,Q y)/\P l.length s':=by
 obtain ⟨ys,s',e,h1,h2,h3⟩:=z6I (all:=l.map g) (body:=fun d s=>(fg d (zV mp ρ) s).bind fun ρ' s1=>(vc ρ' s1).bind fun t s2=>if t=true then (fe ρ' s2).bind fun y s3=>.ok (some y) s3 else .ok none s2) g P Q l 0 [] s0 (fun i a ha s hP=>by
  rw [Nat.zero_add] at hP ⊢;obtain ⟨y,s',e,hq,hp⟩:=he i a ha s hP;exact ⟨y,s',by simp [hg a (List.mem_of_getElem? ha) s,e],hq,hp⟩) (by simpa using hl) hP (by simp);refine ⟨ys,s',?_,by simpa using h1,h2,by simpa using h3⟩;rw [z2W,hi,Dd.R.bind_ok];exact e
theorem zaP{α:Type}{fi:FI}{mp:List (Option Nat)}{fg:FG}{fe:FE}{ρ:Ev}{s s0:Sto}(g:α->D)(ev:α->Ev)(P:Nat->Sto->Prop)(Q:D->Prop)(l:List α) (hi:fi ρ s=.ok (l.map g,[]) s0)(hg:∀ a∈l,∀ s,fg (g a) (zV mp ρ) s=.ok (ev a) s)(he:∀ i a,l[i]? = some a->∀ s,P i s->∃ y s',fe (ev a) s=.ok y s'/\Q y/\P (i+1) s')(hl:l.length<=cap)(hP:P 0 s0)(hf:∀ y,Q y->y.flat=true): ∃ ys s',kG fi mp fg vc fe ρ s=.ok (.loc s'.length) (s'++[ys])/\ys.length=l.length/\(∀ y∈ys,Q y)/\P l.length s':=by
 obtain ⟨ys,s',e,h1,h2,h3⟩:=zau g ev P Q l hi hg he hl hP;have fl:∀ zs:List D,(∀ y∈zs,Q y)->D.flat.flats zs=true:=fun zs=>by induction zs with
  | nil=>intro _;rfl | cons z zs ih=>intro hz;simp only [D.flat.flats,Bool.and_eq_true];exact ⟨hf z (hz z (by simp)),ih fun y hy=>hz y (by simp [hy])⟩
 exact ⟨ys,s',by rw [z6r,e,Dd.R.bind_ok,if_pos (fl ys h2)],h1,h2,h3⟩
def IsC(r:Int)(N:Nat)(y:D):Prop:=∃ p:P3,y=cP p/\aP N p/\0<=nP r p
end Pg
namespace Po
open PySem.Spec L2 Dd Pm Pg Pn
theorem z3W:∀ (v:List Int)(k:Nat),z1l k (iL v)=(v.zipIdx k).map fun p=>D.tup [.int ((p.2:Nat):Int),.int p.1]
 | [],k=>rfl | x::v,k=>by simp [z1l,z3W v (k+1)]
theorem z6n{v:List Int}{f:FE}{ρ:Ev}{s:Sto}(hf:f ρ s=.ok (rD v) s):z5t (za f zj) ρ s=.ok ((enP v).map fun p=>D.tup [.int ((p.2:Nat):Int),.int p.1],[]) s:=by simp only [z5t,zm,hf,R.bind_ok,zB,z2Q,z3W]
structure LD(d:D)(v:List Int):Prop where
 eq:d=rD v
 ix:∀ (s:Sto)(i:Nat),i<v.length->dIx d (.int ((i:Nat):Int)) s=.ok (.int (v.getD i 0)) s
 mx:∀ s:Sto,wz [d] s=.ok (.int (maxL v)) s
 len:∀ s:Sto,xI [d] s=.ok (.int v.length) s
theorem LD.of{n:Nat}{v:List Int}(h:Lot n v):LD (rD v) v:=⟨rfl,fun s i hi=>z12 s hi,fun s=>z21 s h.ne,fun s=>by simp [xI,zP]⟩
section
variable {n:Nat}{v:List Int}{d e:D}(h:Lot n v)(D:LD d v)(he:ended v=false){a0 a1 a2 a3 a4 a5 a6 a7 a8 a9 a10 a11 a12:Option Dd.D}(s:Sto)
include h D
end
theorem zgu(r:Rl)(s:Sto):dEq (.str (nmR r)) (.str "least") s=.ok (.bl (decide (r=.le))) s:=by
 rw [Pg.eq_str (z6u r) (by decide +kernel)];congr 2;cases r<;>decide +kernel
theorem zfZ(r:Rl)(s:Sto):dEq (.str (nmR r)) (.str "next") s=.ok (.bl (decide (r=.nx))) s:=by
 rw [Pg.eq_str (z6u r) (by decide +kernel)];congr 2;cases r<;>decide +kernel
structure RD(e:D)(r:Rl):Prop where
 eq:e=.str (nmR r)
 le:∀ s:Sto,dEq e (.str "least") s=.ok (.bl (decide (r=.le))) s
 nx:∀ s:Sto,dEq e (.str "next") s=.ok (.bl (decide (r=.nx))) s
 tu:∀ s:Sto,dEq e (.str "turn") s=.ok (.bl (decide (r=.tu))) s
 in_:∀ s:Sto,z7J false e (.tup [.str "next",.str "least"]) s=.ok (.bl (decide (r=.nx\/r=.le))) s
theorem RD.of(r:Rl):RD (.str (nmR r)) r:=⟨rfl,zgu r,zfZ r,z5l r,fun s=>by cases r<;>rfl⟩
section
variable {n:Nat}{v:List Int}{d e:D}(h:Lot n v){a0 a1 a2 a3 a4 a5 a6 a7 a8 a9 a10 a11 a12:Option Dd.D}(s:Sto){qs:List (Int×Int)}
variable (he:ended v=false)(hm:∀ a,a∈qs ↔ a∈zax v)(pw:qs.Pairwise fun a b=>Dd.lexLt a b=true)(hl:qs.length<=4)
include h he hm pw
include hl
omit pw hl hm
omit he
end
theorem zcr{fa fb:FE}{ρ:Ev}{s s2:Sto}{L:Nat}{xs:List D}{x:D}(ha:fa ρ s=.ok (.loc L) s)(hb:fb ρ s=.ok x s2)(at_:s2[L]? = some xs)(hl:xs.length<1000)(hx:x.flat=true):ja (zbc fa fb) ρ s=.ok (.nx ρ) (s2.set L (xs++[x])):=by
 rw [qS,z5T,ha,R.bind_ok];simp only;rw [hb,R.bind_ok];simp only [at_];rw [if_pos ⟨hx,by simp [cap];omega⟩];rfl
theorem z1G{f g:FS}{t:FT}{ρ:Ev}{s:Sto}(h:t ρ s=.ok true s):fIf t f g ρ s=f ρ s:=by rw [z1U,h,R.bind_ok,if_pos rfl]
section
variable {n m:Nat}{v:List Int}{d e:D}(h:z4R n m v)(D:LD d v)(hm:m<=1999){a0 a1 a2 a3 a4 a5 a6 a7 a8 a9 a10 a11 a12:Option Dd.D}(s:Sto){b:Nat}(hb:b<v.length)
include h hm in
theorem zfs{i:Nat}(hi:i<v.length):0<=v.getD i 0/\v.getD i 0<2 ^ 2000:=by
 refine ⟨h.nn _ (Pm.getD_mem hi),Int.lt_of_lt_of_le (h.bd _ (Pm.getD_mem hi)) ?_⟩;have:(2:Nat) ^ m<=2 ^ 2000:=Nat.pow_le_pow_right (by decide) (by omega);have:=Int.ofNat_le.mpr this;simpa using this
include h D hm hb
omit h D hm
theorem z9g(Q:List Int)(hQ:Q.length=v.length)(z:Int):((enP v).map fun p:Int×Nat=>Dd.D.int (p.1-Q.getD p.2 0*z))=iL (List.zipWith (fun x q=>x-q*z) v Q):=by
 apply List.ext_getElem;·simp [enP,hQ]
 ·intro i h1 h2;have hi:i<v.length:=by simpa [enP] using h1
  simp [enP,List.getD_eq_getElem?_getD,hQ,hi]
include h D hm
end
theorem z9e{α:Type}{fi:FI}{mp:List (Option Nat)}{fg:FG}{fe:FE}{ρ:Ev}{s:Sto}(g f:α->D)(ev:α->Ev)(l:List α) (hi:fi ρ s=.ok (l.map g,[]) s)(hg:∀ a∈l,fg (g a) (zV mp ρ) s=.ok (ev a) s)(he:∀ a∈l,fe (ev a) s=.ok (f a) s)(hl:l.length<=cap)(hf:D.flat.flats (l.map f)=true): kG fi mp fg vc fe ρ s=.ok (.loc s.length) (s++[l.map f]):=by
 rw [z6r,z2W,hi,R.bind_ok];rw [qd g f (fun _=>true) l [] (by
  intro a ha;simp only [hg a ha,R.bind_ok];simp [he a ha]) (by simpa using hl)];rw [show l.filter (fun _=>true)=l from List.filter_eq_self.mpr (by simp)];simp only [List.nil_append,R.bind_ok];rw [if_pos hf]
theorem z6t(xs:List D)(k:Nat):cutD xs none (some ((k:Nat):Int))=xs.take k:=by
 have:=z34 xs k [];simpa [dSl] using this
theorem z0m(xs:List D)(k:Nat):cutD xs (some ((k:Nat):Int)) none=xs.drop k:=by
 have:=kr xs k [];simpa [dSl] using this
theorem z0C{line:List Int}{b:Nat}(hb:b<line.length)(q:Int):yu b line q=line.set b (line.getD b 0+q):=by
 unfold yu;rw [List.set_eq_take_append_cons_drop,if_pos hb];simp
def zr(n i:Nat):List Int:=(List.range n).map fun c=>if i=c then 1 else 0
theorem zbs{x:D}{xs:List D}{k:Nat}{ρ:Ev}{s:Sto}(hx:ρ[k]? = some (some x))(hl:Dd.listOf s x=some xs)(h:x=.lst xs\/∃ l,x=.loc l)(hc:xs.length<=4):eOp wl (eSl (zc k) (xn (eC (.int 1))) zG) (eSl (zc k) zG (xn (eC (.int 1)))) ρ s=.ok (.lst (rot xs)) s:=by
 have d1:dSl x (some 1) none s=.ok (.lst (xs.drop 1)) s:=by
  rcases h with rfl | ⟨l,rfl⟩
  ·have:=z0m xs 1;simp only [dSl,hl];exact congrArg (fun z=>R.ok (D.lst z) s) this
  ·have:=z0m xs 1;simp only [dSl,hl];exact congrArg (fun z=>R.ok (D.lst z) s) this
 have d2:dSl x none (some 1) s=.ok (.lst (xs.take 1)) s:=by
  rcases h with rfl | ⟨l,rfl⟩
  ·have:=z6t xs 1;simp only [dSl,hl];exact congrArg (fun z=>R.ok (D.lst z) s) this
  ·have:=z6t xs 1;simp only [dSl,hl];exact congrArg (fun z=>R.ok (D.lst z) s) this
 rw [xf,z1N,vr hx,R.bind_ok,vL,jU,R.bind_ok];simp only [R.bind_ok,yY];rw [d1,R.bind_ok,z1N,vr hx,R.bind_ok];simp only [R.bind_ok,yY,vL,jU];rw [d2,R.bind_ok,zeU,if_pos (by simp [cap];omega)];rfl
section
variable {n m:Nat}{v:List Int}{d e:D}{r:Rl}(h:z4R n m v)(E:RD e r){a0 a1 a2 a3 a4 a5 a6 a7 a8 a9 a10 a11 a12:Option Dd.D}{b:Nat}(hb:b<v.length){Q:List Int}(hQ:Q.length=v.length)
include h E hb hQ
end
def zht(r:Rl)(b n:Nat)(Q:List Int)(i:Nat):D:=rD (mvd r (yu b (zr n i) (Q.getD i 0)))
theorem z7M(r:Rl)(b:Nat)(Q:List Int):tD (zfQ r b Q)=.tup ((List.range Q.length).map (zht r b Q.length Q)):=by
 show D.tup _=D.tup _;congr 1;apply List.ext_getElem;·simp [zfQ,one]
 ·intro i h1 h2;have hi:i<Q.length:=by simpa using h2
  simp [zfQ,one,zht,zr,hi]
section
variable {n m:Nat}{v:List Int}{d e:D}{r:Rl}(h:z4R n m v)(E:RD e r){a0 a1 a2 a3 a4 a5 a6 a7 a8 a9 a10 a11 a12:Option Dd.D}{b:Nat}(hb:b<v.length){Q:List Int}(hQ:Q.length=v.length)
include h E hb hQ
end
theorem zaB(w:List Int)(T:Tb):(D.tup [rD w,tD T]).flat=true:=by
 have h1:(rD w).flat=true:=yq _;have h2:(tD T).flat=true:=by
  show D.flat.flats (T.map rD)=true;induction T with
  | nil=>rfl | cons r T ih=>
   show ((rD r).flat&&D.flat.flats (T.map rD))=true;rw [ih,Bool.and_true];exact yq r
 show ((rD w).flat&&((tD T).flat&&D.flat.flats []))=true;rw [h1,h2];rfl
section
variable {n m:Nat}{v:List Int}(r:Rl)(h:z4R n m v)(he:ended v=false)(hm:m<=1999)
include h he hm
end
end Po
namespace Pr
open PySem.Spec L2 Dd Pm Pg Pn Po
theorem z4w(x q:Int×Int):lexN [x.1,x.2] [q.1,q.2]=Dd.lexLt x q:=by simp only [lexN,Dd.lexLt]
theorem z1x:∀ (qs:List (Int×Int))(q:Int×Int),∃ m,(m=q\/m∈qs)/\z7y [q.1,q.2] (qs.map fun p=>[p.1,p.2])=[m.1,m.2]/\Dd.lexLt q m=false/\∀ x∈qs,Dd.lexLt x m=false
 | [],q=>⟨q,.inl rfl,rfl,zbP q,by simp⟩ | x::qs,q=>by
  by_cases c:Dd.lexLt x q=true
  ·obtain ⟨m,h1,h2,h3,h4⟩:=z1x qs x;refine ⟨m,.inr ?_,?_,?_,fun y hy=>?_⟩
   ·rcases h1 with rfl | h1;·exact .head _
    ·exact .tail _ h1
   ·rw [List.map_cons,z7y,z4w,c,if_pos rfl];exact h2
   ·cases z:Dd.lexLt q m with
    | false=>rfl | true=>rw [zaY c z] at h3;cases h3
   ·rcases List.mem_cons.mp hy with rfl | hy;·exact h3
    ·exact h4 y hy
  ·have c':Dd.lexLt x q=false:=by simpa using c
   obtain ⟨m,h1,h2,h3,h4⟩:=z1x qs q;refine ⟨m,h1.imp id fun h=>.tail _ h,?_,h3,fun y hy=>?_⟩;·rw [List.map_cons,z7y,z4w,c',if_neg (by decide)];exact h2
   ·rcases List.mem_cons.mp hy with rfl | hy;·cases z:Dd.lexLt y m with
     | false=>rfl | true=>
      exfalso;by_cases e:q=m;·rw [<- e] at z;rw [z] at c';cases c'
      ·have t:=z80 e;rw [h3] at t;rw [zaY z t] at c';cases c'
    ·exact h4 y hy
theorem z5I(qs:List (Int×Int)):z1Q (qs.map pD)=some (qs.map fun p=>[p.1,p.2]):=by
 have:=z1t (qs.map fun p=>[p.1,p.2]);rw [List.map_map] at this;exact this
theorem z57{qs:List (Int×Int)}(hne:qs≠[])(s:Sto):∃ m∈qs,z8z [.lst (qs.map pD)] s=.ok (pD m) s/\∀ x∈qs,Dd.lexLt x m=false:=by cases qs with
 | nil=>exact absurd rfl hne | cons q qs=>
  obtain ⟨m,h1,h2,h3,h4⟩:=z1x qs q;refine ⟨m,?_,?_,fun x hx=>?_⟩
  ·rcases h1 with rfl | h1;·exact .head _
   ·exact .tail _ h1
  ·have tp:=z5I (q::qs);simp only [z8z,zP,Option.bind_some];rw [tp];show R.ok (D.tup ((z7y [q.1,q.2] (qs.map fun p=>[p.1,p.2])).map D.int)) s=_;rw [h2];rfl
  ·rcases List.mem_cons.mp hx with rfl | hx;·exact h3
   ·exact h4 x hx
theorem z81{w:List Int}{qs:List (Int×Int)}{m:Int×Int}(hw:∀ x∈w,0<=x)(hn:nz w≠[])(hm:∀ a,a∈qs ↔ a∈zax w)(mq:m∈qs)(ml:∀ x∈qs,Dd.lexLt x m=false):m=(minL (nz w),((lp w:Nat):Int)):=by
 obtain ⟨l1,l2,l3⟩:=z9L hn;have mem:=minL_mem hn;have m0:0<minL (nz w):=by
  have:=hw _ (jj.mp mem).1;omega
 have hin:(minL (nz w),((lp w:Nat):Int))∈zax w:=wH.mpr ⟨lp w,rfl,by rw [getD_get l1,l2],m0⟩;have lx:=ml _ ((hm _).mpr hin);by_cases e:(minL (nz w),((lp w:Nat):Int))=m;·exact e.symm
 ·exfalso;have t:=z80 e;rw [lx] at t;have t:=z8g.mp t;obtain ⟨i,ei,g,h0⟩:=wH.mp ((hm m).mp mq);have an:m.1∈nz w:=jj.mpr ⟨List.mem_of_getElem? g,by omega⟩;have le1:=minL_le _ an;simp only at t;rcases t with q | ⟨q,q2⟩;·omega
  ·have:w.idxOf m.1<=i:=z9w g;rw [q] at this;have e2:lp w=w.idxOf (minL (nz w)):=rfl;omega
def kQ(v:List Int):List (Int×Int):=((List.range v.length).filter fun i=>decide (i≠gp v)&&decide (0<v.getD i 0)).map fun i=>(v.getD i 0,((i:Nat):Int))
theorem zar{n:Nat}{v:List Int}(h:Lot n v)(a:Int×Int):a∈kQ v ↔ a∈zax (others v):=by
 rw [z5c h,wH];unfold kQ;simp only [List.mem_map,List.mem_filter,List.mem_range,Bool.and_eq_true,decide_eq_true_eq];constructor
 ·rintro ⟨i,⟨hi,h1,h2⟩,rfl⟩;exact ⟨⟨i,rfl,getD_get hi,h2⟩,by simp only;omega⟩
 ·rintro ⟨⟨i,e,g,h0⟩,hg⟩;have hi:i<v.length:=(List.getElem?_eq_some_iff.mp g).1;have e1:v.getD i 0=a.1:=by have:=getD_get hi;rw [g] at this;exact (Option.some.inj this).symm
  exact ⟨i,⟨hi,by omega,by omega⟩,Prod.ext e1 e.symm⟩
theorem zbx{ns:List Int}(s:Sto)(h:ns≠[]):kB [.lst (iL ns)] s=.ok (.int (minL ns)) s:=by
 obtain ⟨a,t,e⟩:=List.exists_cons_of_ne_nil h;rw [e];simp only [kB,zP,Option.bind_some,iL];rw [xN]
theorem zef(r:Rl)(s:Sto):dEq (.str (nmR r)) (.str "all") s=.ok (.bl (decide (r=.al))) s:=by
 rw [Pg.eq_str (z6u r) (by decide +kernel)];congr 2;cases r<;>decide +kernel
theorem zbz{v:List Int}(h:∀ x∈v,0<=x):(v.filter fun x=>decide (0<x))=nz v:=by
 unfold nz;refine List.filter_congr fun x hx=>?_;have:=h x hx;by_cases q:x=0;·simp [q]
 ·have:0<x:=by omega
  simp [q,this]
theorem zdf(v:List Int):(List.range v.length).drop 1=yK v 0:=by
 unfold yK;cases hn:v.length with
 | zero=>rfl | succ k=>
  rw [List.range_succ_eq_map];simp [List.filter_map];congr 1;symm;exact List.filter_eq_self.mpr fun a _=>by simp
abbrev E7(a0 a1 a2 a3 a4 a5 a6:Option D):Ev:=[a0,a1,a2,a3,a4,a5,a6]
section
variable {n:Nat}{v:List Int}(r:Rl)(h:Lot n v)(he:ended v=false)
include h he
theorem zfg (s:Sto):yh [.str (nmR r),rD v] s=.ok (uL (deal r v)) s:=by
 have l4:=h.le4;have key:∀ d e:D,LD d v->RD e r->(dEq e (.str "all") s=.ok (.bl (decide (r=.al))) s)->yh [e,d] s=.ok (uL (deal r v)) s:=fun d e D E al=>by
  have st:zx ["_law_rule","_law_lot_here","_law_places","_law_by","_law_top","_law_others","_law_greatest"] [e,d]=E7 (some e) (some d) none none none none none:=rfl;have f1:wg (E7 (some e) (some d) none none none none none) s=.ok (.nx (E7 (some e) (some d) (some (.lst (nL (List.range v.length)))) none none none none)) s:=by
   rw [wg,ye,zhm,zm,xJ (x:=d) (vr rfl),D.len,R.bind_ok,zB];simp only [R.bind_ok];rw [if_pos ⟨by omega,by omega⟩];rfl
  have ot:=E.tu s;have ol:=E.le s;simp only [yh,Mof,uR,st,List.length_cons,List.length_nil,if_true];rw [zi f1];have no2:r≠.tu->yC (E7 (some e) (some d) (some (.lst (nL (List.range v.length)))) none none none none) s=.ok (.nx (E7 (some e) (some d) (some (.lst (nL (List.range v.length)))) none none none none)) s:=fun q=>by
   rw [yC,z7o (by rw [uM,op2 (x:=e) (y:=.str "turn") (vr rfl) rfl,ot];simp [q])];rfl
  have no4:r≠.al->yB (E7 (some e) (some d) (some (.lst (nL (List.range v.length)))) none none none none) s=.ok (.nx (E7 (some e) (some d) (some (.lst (nL (List.range v.length)))) none none none none)) s:=fun q=>by
   rw [yB,z7o (by rw [uM,op2 (x:=e) (y:=.str "all") (vr rfl) rfl,al];simp [q])];rfl
  have f7:wk (E7 (some e) (some d) (some (.lst (nL (List.range v.length)))) none none none none) s=.ok (.nx (E7 (some e) (some d) (some (.lst (nL (List.range v.length)))) none (some (.int ((gp v:Nat):Int))) none none)) s:=by
   rw [wk,ye,z1Y (v:=v) (k:=maxL v) (by rw [vr (d:=d) rfl,D.eq]) (by rw [xJ (x:=d) (vr rfl),D.mx]) (maxL_mem h.ne)];rfl
  have f8:wf (E7 (some e) (some d) (some (.lst (nL (List.range v.length)))) none (some (.int ((gp v:Nat):Int))) none none) s=.ok (.nx (E7 (some e) (some d) (some (.lst (nL (List.range v.length)))) none (some (.int ((gp v:Nat):Int))) (some (.lst ((kQ v).map pD))) none)) s:=by
   have c:=xr (s:=s) (mp:=[some 1,some 4,none]) (fg:=wv 2) (ft:=zfb (tOf (eOp dNe (zc 2) (zc 1))) (tOf (eOp dGt (eOp dIx (zc 0) (zc 2)) (eC (.int 0))))) (fe:=uN (za (eOp dIx (zc 0) (zc 2)) (za (zc 2) zj))) (fun i:Nat=>Dd.D.int ((i:Nat):Int)) (fun i:Nat=>pD (v.getD i 0,((i:Nat):Int))) (fun i=>decide (i≠gp v)&&decide (0<v.getD i 0)) (fun i=>[some d,some (.int ((gp v:Nat):Int)),some (.int ((i:Nat):Int))]) (List.range v.length) (xc (vr (ρ:=E7 (some e) (some d) (some (.lst (nL (List.range v.length)))) none (some (.int ((gp v:Nat):Int))) none none) (i:=2) rfl)) (fun i _=>by simp) (fun i hi=>by
     have hi':i<v.length:=by simpa using hi
     have e1:=D.ix s i hi';have e3:decide (((i:Nat):Int)≠((gp v:Nat):Int))=decide (i≠gp v):=by
      by_cases q:i=gp v;·simp [q]
      ·have:¬ ((i:Nat):Int)=((gp v:Nat):Int):=by omega
       simp [q,this]
     simp only [z8C,uM,xf,yJ,jU,List.getElem?_cons_zero,List.getElem?_cons_succ,R.bind_ok,e1,zbT,zcU,e3];cases decide (i≠gp v)<;>simp) (fun i hi _=>by
     have hi':i<v.length:=by simpa using hi
     have e1:=D.ix s i hi';simp only [va,zm,zB,xf,yJ,List.getElem?_cons_zero,List.getElem?_cons_succ,R.bind_ok,e1];rw [if_pos (by simp [cap])]) (by simp [cap];omega);rw [wf,ye,c,show (List.map (fun i:Nat=>pD (v.getD i 0,((i:Nat):Int))) ((List.range v.length).filter fun i=>decide (i≠gp v)&&decide (0<v.getD i 0)))=(kQ v).map pD by simp [kQ,Function.comp_def]];rfl
  have on:=js h he;have onn:=z84 h;have mo:=zar h;have one:kQ v≠[]:=fun z=>by
   have:=(z90 onn on mo).1;rw [z] at this;exact this rfl
  have ol4:(kQ v).length<=4:=by
   unfold kQ;rw [List.length_map];have:=List.length_filter_le (fun i=>decide (i≠gp v)&&decide (0<v.getD i 0)) (List.range v.length);rw [List.length_range] at this;omega
  have ret:∀ (b:Nat) (f:FE) (a6:Option Dd.D),f (E7 (some e) (some d) (some (.lst (nL (List.range v.length)))) none (some (.int ((gp v:Nat):Int))) (some (.lst ((kQ v).map pD))) a6) s=.ok (.int ((b:Nat):Int)) s-> xF (uN (za f (za (z0c (za (zc 4) zj)) zj))) (E7 (some e) (some d) (some (.lst (nL (List.range v.length)))) none (some (.int ((gp v:Nat):Int))) (some (.lst ((kQ v).map pD))) a6) s=.ok (.rt (uL (b,[gp v]))) s:=fun b f a6 hf=>by
   rw [ym,va,zm,hf,R.bind_ok,zm,vS,zm,vr (d:=.int ((gp v:Nat):Int)) rfl,R.bind_ok,zB];simp only [R.bind_ok];rw [if_pos (by simp [cap])];simp only [R.bind_ok,zB];rw [if_pos (by simp [cap])];rfl
  cases hr:r with
  | tu=>
   subst hr;have c:=xr (s:=s) (mp:=[some 1,none]) (fg:=wv 1) (ft:=tOf (eOp dGt (eOp dIx (zc 0) (eC (.int 0))) (eC (.int 0)))) (fe:=zc 1) (fun i:Nat=>Dd.D.int ((i:Nat):Int)) (fun i:Nat=>Dd.D.int ((i:Nat):Int)) (fun i=>decide (0<v.getD 0 0)) (fun i=>[some d,some (.int ((i:Nat):Int))]) (yK v 0) (fi:=yn (eSl (zc 2) (xn (eC (.int 1))) zG)) (ρ:=E7 (some e) (some d) (some (.lst (nL (List.range v.length)))) none none none none) (xc (by
     have e2:dSl (.lst (nL (List.range v.length))) (some 1) none s=.ok (.lst ((nL (List.range v.length)).drop 1)) s:=by
      have:=z0m (nL (List.range v.length)) 1;simp only [dSl,Dd.listOf];exact congrArg (fun z=>R.ok (Dd.D.lst z) s) this
     rw [z1N,vr (d:=.lst (nL (List.range v.length))) rfl,R.bind_ok,vL,jU];simp only [R.bind_ok,yY];rw [e2,<- zdf,<- List.map_drop])) (fun i _=>by simp) (fun i hi=>by
     have e1:=D.ix s 0 (by omega);rw [show ((0:Nat):Int)=0 from rfl] at e1;simp only [uM,xf,yJ,jU,List.getElem?_cons_zero,List.getElem?_cons_succ,R.bind_ok,e1,zbT]) (fun i hi _=>by simp) (by
     have:(yK v 0).length<=v.length:=by unfold yK;exact Nat.le_trans (List.length_filter_le _ _) (by simp)
     simp [cap];omega);have ee:(List.map (fun i:Nat=>Dd.D.int ((i:Nat):Int)) ((yK v 0).filter fun i=>decide (0<v.getD 0 0)))=nL (deal .tu v).2:=by
    show _=nL (if v.getD 0 0=0 then [] else yK v 0);have:=Pm.wj h.nn 0;by_cases q:v.getD 0 0=0;·rw [if_pos q,List.filter_eq_nil_iff.mpr (fun _ _=>by rw [q];decide)]
    ·have q0:0<v.getD 0 0:=by omega
     rw [if_neg q,List.filter_eq_self.mpr (fun _ _=>decide_eq_true q0)]
   rw [ee] at c;have g2:yC (E7 (some e) (some d) (some (.lst (nL (List.range v.length)))) none none none none) s=.ok (.rt (uL (deal .tu v))) s:=by
    rw [yC,z1G (by rw [uM,op2 (x:=e) (y:=.str "turn") (vr rfl) rfl,ot];simp),uH,ym,va,zm,jU,R.bind_ok,zm,c];simp only [R.bind_ok,zB];rw [if_pos (by simp [cap])];rfl
   rw [kW g2] | al=>
   subst hr;have c:=xr (s:=s) (mp:=[none]) (fg:=wv 0) (ft:=tOf (eOp dGt (zc 0) (eC (.int 0)))) (fe:=zc 0) (fun x:Int=>Dd.D.int x) (fun x:Int=>Dd.D.int x) (fun x=>decide (0<x)) (fun x=>[some (.int x)]) v (fi:=yn (zc 1)) (ρ:=E7 (some e) (some d) (some (.lst (nL (List.range v.length)))) none none none none) (z2M (by rw [vr (d:=d) rfl,D.eq])) (fun i _=>by simp) (fun x _=>by simp only [uM,xf,yJ,jU,List.getElem?_cons_zero,R.bind_ok,zbT]) (fun i hi _=>by simp) (by simp [cap];omega);rw [zbz h.nn] at c;have g5:wC (E7 (some e) (some d) (some (.lst (nL (List.range v.length)))) none none none none) s=.ok (.nx (E7 (some e) (some d) (some (.lst (nL (List.range v.length)))) (some (.int ((lp v:Nat):Int))) none none none)) s:=by
    rw [wC,ye,z1Y (v:=v) (k:=minL (nz v)) (by rw [vr (d:=d) rfl,D.eq]) (by rw [xJ c];exact zbx s h.nzne) (jj.mp (minL_mem h.nzne)).1];rfl
   have c6:=xr (s:=s) (mp:=[some 3,none]) (fg:=wv 1) (ft:=tOf (eOp dNe (zc 1) (zc 0))) (fe:=zc 1) (fun i:Nat=>Dd.D.int ((i:Nat):Int)) (fun i:Nat=>Dd.D.int ((i:Nat):Int)) (fun i=>decide (i≠lp v)) (fun i=>[some (.int ((lp v:Nat):Int)),some (.int ((i:Nat):Int))]) (List.range v.length) (fi:=yn (zc 2)) (ρ:=E7 (some e) (some d) (some (.lst (nL (List.range v.length)))) (some (.int ((lp v:Nat):Int))) none none none) (xc (vr rfl)) (fun i _=>by simp) (fun i hi=>by
     have e3:decide (((i:Nat):Int)≠((lp v:Nat):Int))=decide (i≠lp v):=by
      by_cases q:i=lp v;·simp [q]
      ·have:¬ ((i:Nat):Int)=((lp v:Nat):Int):=by omega
       simp [q,this]
     simp only [uM,xf,yJ,jU,List.getElem?_cons_zero,List.getElem?_cons_succ,R.bind_ok,zcU,e3]) (fun i hi _=>by simp) (by simp [cap];omega);have g4:yB (E7 (some e) (some d) (some (.lst (nL (List.range v.length)))) none none none none) s=.ok (.rt (uL (deal .al v))) s:=by
    rw [yB,z1G (by rw [uM,op2 (x:=e) (y:=.str "all") (vr rfl) rfl,al];simp),zi g5,uJ,ym,va,zm,vr (d:=.int ((lp v:Nat):Int)) rfl,R.bind_ok,zm,c6];simp only [R.bind_ok,zB];rw [if_pos (by simp [cap])];rfl
   rw [zi (no2 (by decide)),kW g4] | le=>
   subst hr;obtain ⟨m,m1,m2,m3⟩:=z57 one s;have em:=z81 onn on mo m1 m3;have g9:yz (E7 (some e) (some d) (some (.lst (nL (List.range v.length)))) none (some (.int ((gp v:Nat):Int))) (some (.lst ((kQ v).map pD))) none) s=.ok (.rt (uL (deal .le v))) s:=by
    rw [yz,z1G (by rw [uM,op2 (x:=e) (y:=.str "least") (vr rfl) rfl,ol];simp),vR];refine ret (lp (others v)) _ none ?_;rw [op2 (x:=pD m) (y:=.int 1) (by rw [xJ (x:=.lst ((kQ v).map pD)) (vr rfl)];exact m2) rfl,em];exact z12 (r:=[minL (nz (others v)),((lp (others v):Nat):Int)]) (j:=1) s (by simp)
   rw [zi (no2 (by decide)),zi (no4 (by decide)),zi f7,zi f8,kW g9] | nx=>
   subst hr;obtain ⟨ne,emx,pos⟩:=z90 onn on mo;have no9:yz (E7 (some e) (some d) (some (.lst (nL (List.range v.length)))) none (some (.int ((gp v:Nat):Int))) (some (.lst ((kQ v).map pD))) none) s=.ok (.nx (E7 (some e) (some d) (some (.lst (nL (List.range v.length)))) none (some (.int ((gp v:Nat):Int))) (some (.lst ((kQ v).map pD))) none)) s:=by
    rw [yz,z7o (by rw [uM,op2 (x:=e) (y:=.str "least") (vr rfl) rfl,ol];simp)];rfl
   have c11:=comp_map (s:=s) (mp:=[none,none]) (fg:=xP 0 1) (fe:=zc 0) pD (fun a:Int×Int=>Dd.D.int a.1) (fun a=>[some (.int a.1),some (.int a.2)]) (kQ v) (fi:=yn (zc 5)) (ρ:=E7 (some e) (some d) (some (.lst (nL (List.range v.length)))) none (some (.int ((gp v:Nat):Int))) (some (.lst ((kQ v).map pD))) none) (xc (vr rfl)) (fun a _=>by simp) (fun a _=>by simp) (by simp [cap];omega);have em1:((kQ v).map fun a=>Dd.D.int a.1)=iL ((kQ v).map Prod.fst):=by simp [Function.comp_def]
   rw [em1] at c11;have g11:xQ (E7 (some e) (some d) (some (.lst (nL (List.range v.length)))) none (some (.int ((gp v:Nat):Int))) (some (.lst ((kQ v).map pD))) none) s=.ok (.nx (E7 (some e) (some d) (some (.lst (nL (List.range v.length)))) none (some (.int ((gp v:Nat):Int))) (some (.lst ((kQ v).map pD))) (some (.int (maxL (others v)))))) s:=by
    rw [xQ,ye,xJ c11,zf6 s ne,emx];rfl
   have c12:=xr (s:=s) (mp:=[some 6,none,none]) (fg:=xP 1 2) (ft:=tOf (eOp dEq (zc 1) (zc 0))) (fe:=zc 2) pD (fun a:Int×Int=>Dd.D.int a.2) (fun a=>decide (a.1=maxL (others v))) (fun a=>[some (.int (maxL (others v))),some (.int a.1),some (.int a.2)]) (kQ v) (fi:=yn (zc 5)) (ρ:=E7 (some e) (some d) (some (.lst (nL (List.range v.length)))) none (some (.int ((gp v:Nat):Int))) (some (.lst ((kQ v).map pD))) (some (.int (maxL (others v))))) (xc (vr rfl)) (fun a _=>by simp) (fun a _=>by simp only [uM,xf,yJ,jU,List.getElem?_cons_zero,List.getElem?_cons_succ,R.bind_ok,z2S]) (fun a _ _=>by simp) (by simp [cap];omega);have em2:(((kQ v).filter fun a=>decide (a.1=maxL (others v))).map fun a=>Dd.D.int a.2)=iL (((kQ v).filter fun a=>decide (a.1=maxL (others v))).map Prod.snd):=by simp [Function.comp_def]
   rw [em2] at c12;have wne:others v≠[]:=fun z=>on (by rw [z];rfl);have mw:=maxL_mem wne;obtain ⟨i1,i2⟩:=jD mw;have hin:(((others v).idxOf (maxL (others v)):Nat):Int)∈((kQ v).filter fun a=>decide (a.1=maxL (others v))).map Prod.snd:= List.mem_map.mpr ⟨(maxL (others v),(((others v).idxOf (maxL (others v)):Nat):Int)),List.mem_filter.mpr ⟨(mo _).mpr (wH.mpr ⟨_,rfl,by rw [getD_get i1,i2],pos⟩),by simp⟩,rfl⟩;have ne2:=List.ne_nil_of_mem hin;have emn:minL (((kQ v).filter fun a=>decide (a.1=maxL (others v))).map Prod.snd)=(((others v).idxOf (maxL (others v)):Nat):Int):=by
    have h1:=minL_le _ hin;obtain ⟨a,ha,ea⟩:=List.mem_map.mp (minL_mem ne2);obtain ⟨ha1,ha2⟩:=List.mem_filter.mp ha;obtain ⟨i,ei,g,_⟩:=wH.mp ((mo a).mp ha1);have:=z9w g;rw [show a.1=maxL (others v) by simpa using ha2] at this;omega
   rw [zi (no2 (by decide)),zi (no4 (by decide)),zi f7,zi f8,zi no9,zi g11,vQ,ret ((others v).idxOf (maxL (others v))) _ _ (by rw [xJ c12,zbx s ne2,emn])];rfl
 exact key _ _ (LD.of h) (RD.of r) (zef r s)
end
end Pr
namespace Pn
open PySem.Spec L2 Dd Pm Pg
end Pn
namespace Po
open PySem.Spec L2 Dd Pm Pg Pn
def only(v:List Int)(k:Nat):List Int:=(enP v).map fun p=>p.1*(if p.2=k then 1 else 0)
open PySem.Builtin.Str
end Po
namespace Po
open PySem.Spec L2 Dd Pm Pg Pn
theorem z8f{α:Type}{G:List (Nat×List D)}{all:List D}{body:D->Sto->R (Option D)}{s:Sto}(og:okG G all s)(g f:α->D):∀ (l:List α)(acc:List D),(∀ x∈l,body (g x) s=.ok (some (f x)) s)->acc.length+l.length<=cap->we G all body (l.map g) acc s=.ok (acc++l.map f) s
 | [],acc,_,_=>by simp [we,og] | x::xs,acc,hb,hl=>by
  have ih:=z8f (all:=all) og g f xs (acc++[f x]) (fun y hy=>hb y (by simp [hy])) (by simp at hl ⊢;omega);have hc:acc.length<cap:=by simp at hl;omega
  rw [List.map_cons,we,if_pos og,hb x (by simp),R.bind_ok];simp only [if_pos hc,ih];simp
theorem z0H{α:Type}{G:List (Nat×List D)}{fi:FI}{mp:List (Option Nat)}{fg:FG}{fe:FE}{ρ:Ev}{s:Sto}(g f:α->D)(ev:α->Ev)(l:List α) (hi:fi ρ s=.ok (l.map g,G) s)(og:okG G (l.map g) s)(hg:∀ a∈l,fg (g a) (zV mp ρ) s=.ok (ev a) s)(he:∀ a∈l,fe (ev a) s=.ok (f a) s)(hl:l.length<=cap): zT fi mp fg vc fe ρ s=.ok (.lst (l.map f)) s:=by
 rw [z60,z2W,hi,R.bind_ok];rw [z8f og g f l [] (by
  intro a ha;simp only [hg a ha,R.bind_ok];show (R.ok true s).bind _=_;simp [he a ha]) (by simpa using hl)];rfl
end Po
namespace Pr
open PySem.Spec L2 Dd Pm Pg Pn Po
abbrev E8(a0 a1 a2 a3 a4 a5 a6 a7:Option D):Ev:=[a0,a1,a2,a3,a4,a5,a6,a7]
theorem zfd{k j:Nat}{e d:D}{b p:Int}{g l:List D}{x:Option D}(he:e.und k=true)(hd:d.und k=true)(hg:D.flat.flats g=true)(hl:D.flat.flats l=true)(hj:j<k): z3y k 7 (E8 (some e) (some d) (some (.int b)) (some (.lst g)) (some (.lst l)) (some (.loc j)) (some (.int p)) x)=true:=by
 have h1:(D.lst g).und k=true:=hg;have h2:(D.lst l).und k=true:=hl;have h3:(D.loc j).und k=true:=by simpa [D.und] using hj
 have h4:∀ i:Int,(D.int i).und k=true:=fun i=>rfl;simp [z3y,List.range,List.range.loop,he,hd,h1,h2,h3,h4]
theorem z6a:∀ l:List Nat,D.flat.flats (nL l)=true
 | []=>rfl | a::l=>by
  have:=z6a l;simp only [nL] at this;simp [nL,D.flat.flats,D.flat,this]
section
variable {n m:Nat}{v:List Int}{d e:D}{r:Rl}(h:z4R n m v)(E:RD e r)(D:LD d v){b:Nat}{g:List Nat}(hb:b<v.length)(hg:b∉g)(hp:g=[]\/0<v.getD b 0)(hm:m<=1999)
include h D hb hg hp
theorem z8k (s:Sto) {a0 a4 a5 a6 a7:Option Dd.D}:wn (E8 a0 (some d) (some (.int ((b:Nat):Int))) (some (.lst (nL g))) a4 a5 a6 a7) s=.ok (.nx (E8 a0 (some d) (some (.int ((b:Nat):Int))) (some (.lst (nL g))) (some (.lst (iL (left v (zn v (b,g)) b)))) a5 a6 a7)) s:=by
 have l4:=h.toLot.le4;have ixb:=D.ix s b hb;have c:=comp_map (s:=s) (mp:=[some 3,some 1,some 2,none,none]) (fg:=xP 3 4) (fe:=eIf (tOf (eOp (z7J false) (zc 3) (zc 0))) (eOp z7g (zc 4) (eOp dIx (zc 1) (zc 2))) (zc 4)) (fun p:Int×Nat=>Dd.D.tup [.int ((p.2:Nat):Int),.int p.1]) (fun p=>Dd.D.int (p.1-(zn v (b,g)).getD p.2 0*v.getD b 0)) (fun p=>[some (.lst (nL g)),some d,some (.int ((b:Nat):Int)),some (.int ((p.2:Nat):Int)),some (.int p.1)]) (enP v) (z6n (f:=zc 1) (ρ:=E8 a0 (some d) (some (.int ((b:Nat):Int))) (some (.lst (nL g))) a4 a5 a6 a7) (by rw [<- D.eq];exact vr rfl)) (fun p _=>by simp) (fun p hpp=>by
   have gt:=z5p.mp hpp;have hi:p.2<v.length:=(List.getElem?_eq_some_iff.mp gt).1;have e0:v.getD p.2 0=p.1:=by have:=getD_get hi;rw [gt] at this;exact (Option.some.inj this).symm
   have eq:(zn v (b,g)).getD p.2 0=if p.2∈g then v.getD p.2 0 / v.getD b 0 else 0:=by simp [zn,List.getD_eq_getElem?_getD,hi]
   rw [z9a,vM (by rw [op2 (x:=.int ((p.2:Nat):Int)) (y:=.lst (nL g)) (vr rfl) (vr rfl)];exact zdl p.2 g s),R.bind_ok];by_cases q:p.2∈g
   ·have p0:0<v.getD b 0:=hp.resolve_left fun z=>by rw [z] at q;cases q
    rw [decide_eq_true q,if_pos rfl,xf,vr (d:=.int p.1) rfl,R.bind_ok,op2 (x:=d) (y:=.int ((b:Nat):Int)) (vr rfl) (vr rfl),ixb,R.bind_ok,zaZ,if_pos p0,eq,if_pos q,e0,Int.emod_def,Int.mul_comm]
   ·rw [decide_eq_false q,if_neg (by decide),vr (d:=.int p.1) rfl,eq,if_neg q,Int.zero_mul,Int.sub_zero]) (by simp [enP,cap];omega);rw [z9g hb (zn v (b,g)) (xw _ _)] at c;rw [wn,ye,c];rfl
theorem zh9{i:Nat}(hi:i<v.length):yu b (zr v.length i) ((zn v (b,g)).getD i 0)=if i∈g then (zr v.length i).set b (v.getD i 0 / v.getD b 0) else zr v.length i:=by
 have ln:(zr v.length i).length=v.length:=by simp [zr]
 rw [z0C (by rw [ln];exact hb)];have eq:(zn v (b,g)).getD i 0=if i∈g then v.getD i 0 / v.getD b 0 else 0:=by simp [zn,List.getD_eq_getElem?_getD,hi]
 rw [eq];by_cases q:i∈g
 ·have ne:i≠b:=fun z=>hg (z ▸ q);have z:(zr v.length i).getD b 0=0:=by simp [zr,List.getD_eq_getElem?_getD,hb,ne]
  rw [if_pos q,if_pos q,z,Int.zero_add]
 ·rw [if_neg q,if_neg q,Int.add_zero];have:(zr v.length i).getD b 0=(zr v.length i)[b]'(by rw [ln];exact hb):=by simp [List.getD_eq_getElem?_getD,ln,hb]
  rw [this,List.set_getElem_self]
include hm E
theorem zdD (S:Sto) {i:Nat} (hi:i<v.length) (A:List Dd.D) (hA:A.length<1000) (w:List Int) (p7:Option Dd.D): (zH (z5w 7 (zH yb yd)) xb) (E8 (some e) (some d) (some (.int ((b:Nat):Int))) (some (.lst (nL g))) (some (.lst (iL w))) (some (.loc S.length)) (some (.int ((i:Nat):Int))) p7) (S++[A]) = .ok (.nx (E8 (some e) (some d) (some (.int ((b:Nat):Int))) (some (.lst (nL g))) (some (.lst (iL w))) (some (.loc S.length)) (some (.int ((i:Nat):Int))) (some (.lst (iL (yu b (zr v.length i) ((zn v (b,g)).getD i 0))))))) (S++[A++[.lst (iL (yu b (zr v.length i) ((zn v (b,g)).getD i 0)))]]):=by
 have l4:=h.toLot.le4;have ln:(zr v.length i).length=v.length:=by simp [zr]
 have em:((List.range v.length).map fun c:Nat=>Dd.D.int (if i=c then 1 else 0))=iL (zr v.length i):=by simp [zr,Function.comp_def]
 have c:=z9e (s:=S++[A]) (mp:=[some 6,none]) (fg:=wv 1) (fe:=zf zdq (za (eOp dEq (zc 0) (zc 1)) zj)) (fun c:Nat=>Dd.D.int ((c:Nat):Int)) (fun c:Nat=>Dd.D.int (if i=c then 1 else 0)) (fun c=>[some (.int ((i:Nat):Int)),some (.int ((c:Nat):Int))]) (List.range v.length) (qa (n:=v.length) (ρ:=E8 (some e) (some d) (some (.int ((b:Nat):Int))) (some (.lst (nL g))) (some (.lst (iL w))) (some (.loc S.length)) (some (.int ((i:Nat):Int))) p7) (ar:=za (zf xI (za (zc 1) zj)) zj) (by omega) (by rw [zm,xJ (x:=d) (vr rfl),D.len,R.bind_ok,zB,R.bind_ok])) (fun c _=>by simp) (fun c _=>by
   rw [xJ (x:=.bl (decide (((i:Nat):Int)=((c:Nat):Int)))) (by simp)];by_cases q:i=c;·simp [zdq,q]
   ·have:¬ ((i:Nat):Int)=((c:Nat):Int):=by omega
    simp [zdq,q,this]) (by simp [cap];omega) (by rw [em];exact yq _);rw [em] at c;have f5:yb (E8 (some e) (some d) (some (.int ((b:Nat):Int))) (some (.lst (nL g))) (some (.lst (iL w))) (some (.loc S.length)) (some (.int ((i:Nat):Int))) p7) (S++[A]) = .ok (.nx (E8 (some e) (some d) (some (.int ((b:Nat):Int))) (some (.lst (nL g))) (some (.lst (iL w))) (some (.loc S.length)) (some (.int ((i:Nat):Int))) (some (.loc (S++[A]).length)))) ((S++[A])++[iL (zr v.length i)]):=by
  rw [yb,ye,c];rfl
 have aT:((S++[A])++[iL (zr v.length i)])[(S++[A]).length]? = some (iL (zr v.length i)):=by simp
 have B:=zfs h hm hb;have f6:yd (E8 (some e) (some d) (some (.int ((b:Nat):Int))) (some (.lst (nL g))) (some (.lst (iL w))) (some (.loc S.length)) (some (.int ((i:Nat):Int))) (some (.loc (S++[A]).length))) ((S++[A])++[iL (zr v.length i)]) = .ok (.nx (E8 (some e) (some d) (some (.int ((b:Nat):Int))) (some (.lst (nL g))) (some (.lst (iL w))) (some (.loc S.length)) (some (.int ((i:Nat):Int))) (some (.loc (S++[A]).length)))) ((S++[A])++[iL (yu b (zr v.length i) ((zn v (b,g)).getD i 0))]):=by
  rw [zh9 h D hb hg hp hi,yd];have ti:tOf (eOp (z7J false) (zc 6) (zc 3)) (E8 (some e) (some d) (some (.int ((b:Nat):Int))) (some (.lst (nL g))) (some (.lst (iL w))) (some (.loc S.length)) (some (.int ((i:Nat):Int))) (some (.loc (S++[A]).length))) ((S++[A])++[iL (zr v.length i)])=.ok (decide (i∈g)) ((S++[A])++[iL (zr v.length i)]):= vM (by rw [op2 (x:=.int ((i:Nat):Int)) (y:=.lst (nL g)) (vr rfl) (vr rfl)];exact zdl i g _);by_cases q:i∈g
  ·have p0:0<v.getD b 0:=hp.resolve_left fun z=>by rw [z] at q;cases q
   rw [decide_eq_true q] at ti;have hB:(v.getD b 0).natAbs<BIG:=by
    have:(v.getD b 0).natAbs<2 ^ 2000:=by have:=B.1;have:=B.2;omega
    exact Nat.lt_of_lt_of_le this (Nat.pow_le_pow_right (by decide) (by decide))
   have i1:=D.ix ((S++[A])++[iL (zr v.length i)]) i hi;have i2:=D.ix ((S++[A])++[iL (zr v.length i)]) b hb;rw [z1G ti,if_pos q,uI,z32 (s1:=(S++[A])++[iL (zr v.length i)]) (s2:=(S++[A])++[iL (zr v.length i)]) (L:=(S++[A]).length) (xs:=zr v.length i) (i:=((b:Nat):Int)) (x:=v.getD i 0 / v.getD b 0) (by rw [xf,op2 (x:=d) (y:=.int ((i:Nat):Int)) (vr rfl) (vr rfl),i1,R.bind_ok,op2 (x:=d) (y:=.int ((b:Nat):Int)) (vr rfl) (vr rfl),i2,R.bind_ok,z5i,if_pos ⟨p0,hB⟩]) (vr rfl) (vr rfl) aT (by omega) (by rw [ln];omega)];rw [List.set_append_right _ _ (by omega)];simp
  ·rw [decide_eq_false q] at ti;rw [z7o ti,if_neg q];rfl
 have lt:(yu b (zr v.length i) ((zn v (b,g)).getD i 0)).length=v.length:=by rw [z0C (by rw [ln];exact hb)];simp [ln]
 generalize hW:yu b (zr v.length i) ((zn v (b,g)).getD i 0)=W at *;have de:d.und (S++[A]).length=true:=by rw [D.eq];exact yq _
 have ee:e.und (S++[A]).length=true:=by rw [E.eq];rfl
 have bl:=zfd (k:=(S++[A]).length) (j:=S.length) (b:=((b:Nat):Int)) (p:=((i:Nat):Int)) (g:=nL g) (l:=iL w) (x:=some (.loc (S++[A]).length)) ee de (z6a g) (yq w) (by simp);have fz:z5w 7 (zH yb yd) (E8 (some e) (some d) (some (.int ((b:Nat):Int))) (some (.lst (nL g))) (some (.lst (iL w))) (some (.loc S.length)) (some (.int ((i:Nat):Int))) p7) (S++[A]) = .ok (.nx (E8 (some e) (some d) (some (.int ((b:Nat):Int))) (some (.lst (nL g))) (some (.lst (iL w))) (some (.loc S.length)) (some (.int ((i:Nat):Int))) (some (.lst (iL W))))) (S++[A]):=by
  have ex:((S++[A])++[iL W])[(S++[A]).length]? = some (iL W):=by simp
  rw [zbC,zi f5,f6];generalize S++[A]=T at *;show (match ((T++[iL W])[T.length]? : Option (List Dd.D)) with | some xs=>if T.length<=T.length/\_=true then _ else _ | none=>_)=_;rw [ex];simp only;rw [if_pos ⟨Nat.le_refl _,bl⟩,List.take_left'];·rfl
  ·rfl
 rw [zi fz,xb,zcr (s2:=S++[A]) (L:=S.length) (xs:=A) (x:=.lst (iL W)) (vr rfl) (vr rfl) (by simp) hA (yq _)];rw [List.set_append_right _ _ (by omega)];simp
theorem zb8{all:List Dd.D}(S:Sto)(w:List Int):∀ (k j:Nat)(p6 p7:Option Dd.D),j+k=v.length-> ∃ p6' p7',vX [] all (fun d ρ s=>(wv 6 d ρ s).bind fun ρ' s'=>(zH (z5w 7 (zH yb yd)) xb) ρ' s') ((List.range' j k).map fun i=>Dd.D.int ((i:Nat):Int)) (E8 (some e) (some d) (some (.int ((b:Nat):Int))) (some (.lst (nL g))) (some (.lst (iL w))) (some (.loc S.length)) p6 p7) (S++[(List.range j).map fun i=>Dd.D.lst (iL (yu b (zr v.length i) ((zn v (b,g)).getD i 0)))]) = .ok (.nx (E8 (some e) (some d) (some (.int ((b:Nat):Int))) (some (.lst (nL g))) (some (.lst (iL w))) (some (.loc S.length)) p6' p7')) (S++[(List.range (j+k)).map fun i=>Dd.D.lst (iL (yu b (zr v.length i) ((zn v (b,g)).getD i 0)))])
 | 0,j,p6,p7,_=>⟨p6,p7,by simp [vX,okG]⟩ | k+1,j,p6,p7,hj=>by
  have l4:=h.toLot.le4;have e1:=zdD h E D hb hg hp hm S (i:=j) (by omega) ((List.range j).map fun i=>Dd.D.lst (iL (yu b (zr v.length i) ((zn v (b,g)).getD i 0)))) (by simp;omega) w p7;obtain ⟨q6,q7,e2⟩:=zb8 S w k (j+1) (some (.int ((j:Nat):Int))) (some (.lst (iL (yu b (zr v.length j) ((zn v (b,g)).getD j 0))))) (by omega);refine ⟨q6,q7,?_⟩;have es:((List.range j).map fun i=>Dd.D.lst (iL (yu b (zr v.length i) ((zn v (b,g)).getD i 0))))++[.lst (iL (yu b (zr v.length j) ((zn v (b,g)).getD j 0)))]=(List.range (j+1)).map fun i=>Dd.D.lst (iL (yu b (zr v.length i) ((zn v (b,g)).getD i 0))):=by
   rw [List.range_succ,List.map_append];rfl
  rw [es] at e1;rw [List.range'_succ,List.map_cons,vX,if_pos (by intro p hp;simp at hp),zbB,R.bind_ok];simp only [List.set_cons_succ,List.set_cons_zero];rw [e1,R.bind_ok];simp only;rw [e2,show j+1+k=j+(k+1) by omega]
end
section
variable {n m:Nat}{v:List Int}(r:Rl)(h:z4R n m v)(he:ended v=false)(hm:m<=1999)
include h he hm
theorem z6j (s:Sto):zJ [.str (nmR r),rD v] s=.ok (.tup [rD (stp r v),tD (zcc r v)]) s:=by
 have l4:=h.toLot.le4;have dl:=jb r h.toLot he;have dv:=zfg r h.toLot he s;have key:∀ d e:D,LD d v->RD e r->yh [e,d] s=.ok (uL (deal r v)) s->zJ [e,d] s=.ok (.tup [rD (stp r v),tD (zcc r v)]) s:=fun d e D E dv=>by
  generalize hdl:deal r v=bg at *;obtain ⟨b,g⟩:=bg;have st:zx ["_law_rule","_law_lot_here","_law_by","_law_gone","_law_later","_law_lines","_law_place","_law_line"] [e,d]=E8 (some e) (some d) none none none none none none:=rfl;have f1:ww (E8 (some e) (some d) none none none none none none) s=.ok (.nx (E8 (some e) (some d) (some (.int ((b:Nat):Int))) (some (.lst (nL g))) none none none none)) s:=by
   rw [ww,zb3,call2 (x:=e) (y:=d) (vr rfl) (vr rfl),dv,R.bind_ok];simp
  have f2:=z8k (a0:=some e) (a4:=none) (a5:=none) (a6:=none) (a7:=none) h D dl.lt dl.nb dl.pos s;have f3:wy (E8 (some e) (some d) (some (.int ((b:Nat):Int))) (some (.lst (nL g))) (some (.lst (iL (left v (zn v (b,g)) b)))) none none none) s = .ok (.nx (E8 (some e) (some d) (some (.int ((b:Nat):Int))) (some (.lst (nL g))) (some (.lst (iL (left v (zn v (b,g)) b)))) (some (.loc s.length)) none none)) (s++[(List.range 0).map fun i=>Dd.D.lst (iL (yu b (zr v.length i) ((zn v (b,g)).getD i 0)))]):=by
   rw [wy,ye,z63,zB,R.bind_ok,if_pos ⟨by simp,rfl⟩];rfl
  obtain ⟨q6,q7,f4⟩:=zb8 (all:=(List.range v.length).map fun i:Nat=>Dd.D.int ((i:Nat):Int)) h E D dl.lt dl.nb dl.pos hm s (left v (zn v (b,g)) b) v.length 0 none none (by omega);have g4:wo (E8 (some e) (some d) (some (.int ((b:Nat):Int))) (some (.lst (nL g))) (some (.lst (iL (left v (zn v (b,g)) b)))) (some (.loc s.length)) none none) (s++[(List.range 0).map fun i=>Dd.D.lst (iL (yu b (zr v.length i) ((zn v (b,g)).getD i 0)))]) = .ok (.nx (E8 (some e) (some d) (some (.int ((b:Nat):Int))) (some (.lst (nL g))) (some (.lst (iL (left v (zn v (b,g)) b)))) (some (.loc s.length)) q6 q7)) (s++[(List.range (0+v.length)).map fun i=>Dd.D.lst (iL (yu b (zr v.length i) ((zn v (b,g)).getD i 0)))]):=by
   rw [wo,kI,qa (n:=v.length) (s1:=s++[(List.range 0).map fun i=>Dd.D.lst (iL (yu b (zr v.length i) ((zn v (b,g)).getD i 0)))]) (by omega) (by rw [zm,xJ (x:=d) (vr rfl),D.len,R.bind_ok,zB,R.bind_ok]),R.bind_ok];rw [List.range_eq_range'] at f4 ⊢;exact f4
  rw [Nat.zero_add] at g4;have lw:(left v (zn v (b,g)) b).length=v.length:=by simp [left,xw]
  have lr:∀ i,(yu b (zr v.length i) ((zn v (b,g)).getD i 0)).length=v.length:=fun i=>by rw [z0C (by simp [zr];exact dl.lt)];simp [zr]
  have fin:∀ (w:List Int) (W:Nat->List Int) (x5:Dd.D) (T:Sto) (G:List (Nat×List Dd.D)),(∀ ρ:Ev,ρ[5]? = some (some x5)->yn (zc 5) ρ T=.ok ((List.range v.length).map (fun i=>Dd.D.lst (iL (W i))),G) T)->okG G ((List.range v.length).map (fun i=>Dd.D.lst (iL (W i)))) T-> yR (E8 (some e) (some d) (some (.int ((b:Nat):Int))) (some (.lst (nL g))) (some (.lst (iL w))) (some x5) q6 q7) T=.ok (.rt (.tup [rD w,.tup ((List.range v.length).map fun i=>rD (W i))])) T:=fun w W x5 T G hG og=>by
   have c:=z0H (G:=G) (s:=T) (mp:=[none]) (fg:=wv 0) (fe:=zf uK (za (zc 0) zj)) (fi:=yn (zc 5)) (ρ:=E8 (some e) (some d) (some (.int ((b:Nat):Int))) (some (.lst (nL g))) (some (.lst (iL w))) (some x5) q6 q7) (fun i:Nat=>Dd.D.lst (iL (W i))) (fun i=>rD (W i)) (fun i=>[some (.lst (iL (W i)))]) (List.range v.length) (hG _ rfl) og (fun i _=>by simp) (fun i _=>by rw [xJ (x:=.lst (iL (W i))) (vr rfl)];exact z6O _ _) (by simp [cap];omega);rw [yR,ym,va,zm,xJ (x:=.lst (iL w)) (vr rfl),z6O,R.bind_ok,zm,xJ c,z6O,R.bind_ok,zB];simp only [R.bind_ok];rw [if_pos (by simp [cap])];rfl
  have ot:=E.tu (s++[(List.range v.length).map fun i=>Dd.D.lst (iL (yu b (zr v.length i) ((zn v (b,g)).getD i 0)))]);have res:∀ s',(zH yc yR) (E8 (some e) (some d) (some (.int ((b:Nat):Int))) (some (.lst (nL g))) (some (.lst (iL (left v (zn v (b,g)) b)))) (some (.loc s.length)) q6 q7) (s++[(List.range v.length).map fun i=>Dd.D.lst (iL (yu b (zr v.length i) ((zn v (b,g)).getD i 0)))])=.ok (.rt (.tup [rD (stp r v),tD (zcc r v)])) s'->s'.take s.length=s->zJ [e,d] s=.ok (.tup [rD (stp r v),tD (zcc r v)]) s:=fun s' hs ht=>by
   simp only [zJ,z5x,Mof,uY,st,List.length_cons,List.length_nil,if_true];rw [zi f1,zi f2,zi f3,zi g4,hs];simp only;rw [kc (zaB _ _),ht]
  have eT:∀ W:Nat->List Int,(∀ i,W i=mvd r (yu b (zr v.length i) ((zn v (b,g)).getD i 0)))->Dd.D.tup ((List.range v.length).map fun i=>rD (W i))=tD (zcc r v):=fun W hR=>by
   unfold zcc;rw [hdl,z7M,xw];congr 2;funext i;rw [hR i];rfl
  have eS:rD (stp r v)=rD (mvd r (left v (zn v (b,g)) b)):=by unfold stp;rw [hdl]
  generalize hT:(s++[(List.range v.length).map fun i=>Dd.D.lst (iL (yu b (zr v.length i) ((zn v (b,g)).getD i 0)))])=T at *;have aT:T[s.length]? = some ((List.range v.length).map fun i=>Dd.D.lst (iL (yu b (zr v.length i) ((zn v (b,g)).getD i 0)))):=by rw [<- hT];simp
  have tk:T.take s.length=s:=by rw [<- hT];simp
  have sg:∀ ρ:Ev,ρ[5]? = some (some (.loc s.length))->yn (zc 5) ρ T=.ok ((List.range v.length).map (fun i=>Dd.D.lst (iL (yu b (zr v.length i) ((zn v (b,g)).getD i 0)))),[(s.length,(List.range v.length).map fun i=>Dd.D.lst (iL (yu b (zr v.length i) ((zn v (b,g)).getD i 0))))]) T:=fun ρ hρ=>by
   rw [z5G,vr hρ,R.bind_ok];simp only [aT]
  have og:okG [(s.length,(List.range v.length).map fun i=>Dd.D.lst (iL (yu b (zr v.length i) ((zn v (b,g)).getD i 0))))] ((List.range v.length).map fun i=>Dd.D.lst (iL (yu b (zr v.length i) ((zn v (b,g)).getD i 0)))) T:=by
   intro p hp;simp only [List.mem_singleton] at hp;subst hp;exact aT
  refine res T ?_ tk;by_cases q:r=.tu
  ·have rt4:∀ w:List Int,rot (iL w)=iL (rot w):=fun w=>by simp [rot,List.map_take,List.map_drop]
   have c11:=z0H (G:=[(s.length,(List.range v.length).map fun i=>Dd.D.lst (iL (yu b (zr v.length i) ((zn v (b,g)).getD i 0))))]) (s:=T) (mp:=[none]) (fg:=wv 0) (fe:=eOp wl (eSl (zc 0) (xn (eC (.int 1))) zG) (eSl (zc 0) zG (xn (eC (.int 1))))) (fi:=yn (zc 5)) (ρ:=E8 (some e) (some d) (some (.int ((b:Nat):Int))) (some (.lst (nL g))) (some (.lst (iL (rot (left v (zn v (b,g)) b))))) (some (.loc s.length)) q6 q7) (fun i:Nat=>Dd.D.lst (iL (yu b (zr v.length i) ((zn v (b,g)).getD i 0)))) (fun i=>Dd.D.lst (iL (rot (yu b (zr v.length i) ((zn v (b,g)).getD i 0))))) (fun i=>[some (.lst (iL (yu b (zr v.length i) ((zn v (b,g)).getD i 0))))]) (List.range v.length) (sg _ rfl) og (fun i _=>by simp) (fun i _=>by rw [zbs (x:=.lst (iL (yu b (zr v.length i) ((zn v (b,g)).getD i 0)))) (xs:=iL (yu b (zr v.length i) ((zn v (b,g)).getD i 0))) (k:=0) rfl (by simp [Dd.listOf]) (.inl rfl) (by have:=lr i;rw [List.length_map];omega),rt4]) (by simp [cap];omega);have f9:yc (E8 (some e) (some d) (some (.int ((b:Nat):Int))) (some (.lst (nL g))) (some (.lst (iL (left v (zn v (b,g)) b)))) (some (.loc s.length)) q6 q7) T = .ok (.nx (E8 (some e) (some d) (some (.int ((b:Nat):Int))) (some (.lst (nL g))) (some (.lst (iL (rot (left v (zn v (b,g)) b))))) (some (.lst ((List.range v.length).map fun i=>Dd.D.lst (iL (rot (yu b (zr v.length i) ((zn v (b,g)).getD i 0))))))) q6 q7)) T:=by
    have f10:xR (E8 (some e) (some d) (some (.int ((b:Nat):Int))) (some (.lst (nL g))) (some (.lst (iL (left v (zn v (b,g)) b)))) (some (.loc s.length)) q6 q7) T = .ok (.nx (E8 (some e) (some d) (some (.int ((b:Nat):Int))) (some (.lst (nL g))) (some (.lst (iL (rot (left v (zn v (b,g)) b))))) (some (.loc s.length)) q6 q7)) T:=by
     rw [xR,ye,zbs (x:=.lst (iL (left v (zn v (b,g)) b))) (xs:=iL (left v (zn v (b,g)) b)) (k:=4) rfl (by simp [Dd.listOf]) (.inl rfl) (by simp [lw];omega),rt4];rfl
    rw [yc,z1G (by rw [uM,op2 (x:=e) (y:=.str "turn") (vr rfl) rfl,ot];simp [q]),zi f10,ua,ye,c11];rfl
   rw [zi f9,fin (rot (left v (zn v (b,g)) b)) (fun i=>rot (yu b (zr v.length i) ((zn v (b,g)).getD i 0))) _ T [] (fun ρ hρ=>xc (vr hρ)) (by intro p hp;simp at hp),eT _ (fun i=>by rw [q,z6C]),eS,q,z6C]
  ·have f9:yc (E8 (some e) (some d) (some (.int ((b:Nat):Int))) (some (.lst (nL g))) (some (.lst (iL (left v (zn v (b,g)) b)))) (some (.loc s.length)) q6 q7) T = .ok (.nx (E8 (some e) (some d) (some (.int ((b:Nat):Int))) (some (.lst (nL g))) (some (.lst (iL (left v (zn v (b,g)) b)))) (some (.loc s.length)) q6 q7)) T:=by
    rw [yc,z7o (by rw [uM,op2 (x:=e) (y:=.str "turn") (vr rfl) rfl,ot];simp [q])];rfl
   rw [zi f9,fin (left v (zn v (b,g)) b) (fun i=>yu b (zr v.length i) ((zn v (b,g)).getD i 0)) _ T _ sg og,eT _ (fun i=>by rw [z2o q]),eS,z2o q]
 exact key _ _ (LD.of h.toLot) (RD.of r) dv
end
open PySem.W
theorem zdY{N:Nat}{lt:Nat->Nat->Bool}(tot:∀ i j,i<N->j<N->i≠j->lt j i=!lt i j)(tr:∀ i j k,lt i j=true->lt j k=true->lt i k=true)(hN:1<=N)(h:∀ i j,i<j->j<N->lt i j=true): kev N lt (kas_count N (List.toArray (List.range N)))=some (N,List.toArray (List.range N)):=by
 have P:PmN N (List.toArray (List.range N)):=⟨by simp⟩;have at_:∀ i,i<N->at0 (List.toArray (List.range N)) i=i:=fun i hi=>by simp [at0,hi]
 obtain ⟨m,e1,e2,e3,e4,e5⟩:=z2v tot tr P (N-1) 1 (Nat.le_refl _) (by omega) (fun i j h1 h2=>by omega);have em:m=N:=by
  by_cases q:m<N
  ·exfalso;have z:=e5 (by omega);rw [at_ m q,at_ (m-1) (by omega),tot (m-1) m (by omega) q (by omega),h (m-1) m (by omega) q] at z;cases z
  ·omega
 unfold kas_count;rw [uv,e1];simp only [Option.bind_some];rw [if_pos (by simpa using em),em];rfl
theorem range_getD{L:List (List Int)}:(List.range L.length).map (fun i=>L.getD i [])=L:=by
 apply List.ext_getElem;·simp
 ·intro i h1 h2;simp [List.getD_eq_getElem?_getD,h2]
theorem zd5 {L:List (List Int)} (nd:L.Nodup) (h:L.length<64\/Up L):∃ p,zey L=some p/\p.toList.Perm (List.range L.length)/\Up (p.toList.map fun i=>L.getD i []):=by
 have tot:∀ i j,i<L.length->j<L.length->i≠j->lexN (L.getD j []) (L.getD i [])=!lexN (L.getD i []) (L.getD j []):=fun i j hi hj hij=>by
  refine z6m fun z=>hij ?_;simp only [List.getD_eq_getElem?_getD,List.getElem?_eq_getElem hi,List.getElem?_eq_getElem hj,Option.getD_some] at z;exact (List.getElem_inj nd).mp z
 have tr:∀ i j k,lexN (L.getD i []) (L.getD j [])=true->lexN (L.getD j []) (L.getD k [])=true->lexN (L.getD i []) (L.getD k [])=true:=fun i j k=>z5z;unfold zey;by_cases q:L.length<2
 ·rw [if_pos q];refine ⟨_,rfl,by simp,?_⟩;rw [show (List.toArray (List.range L.length)).toList=List.range L.length by simp,range_getD];match L,q with
  | [],_=>exact List.Pairwise.nil | [a],_=>exact List.pairwise_singleton _ _
 ·rw [if_neg q];by_cases q2:L.length<64
  ·rw [if_pos q2];obtain ⟨p,e,h1,h2⟩:=za9 (N:=L.length) (lt:=fun i j=>lexN (L.getD i []) (L.getD j [])) tot tr (by omega);exact ⟨p,e,h1,by rw [Up,List.pairwise_map];exact h2⟩
  ·rw [if_neg q2];have hu:=h.resolve_left q2;rw [zdY tot tr (by omega) (fun i j hij hj=>by
    have:=List.pairwise_iff_getElem.mp hu i j (by omega) hj hij;simpa [List.getD_eq_getElem?_getD,show i<L.length by omega,hj] using this)];simp only;rw [if_pos trivial];refine ⟨_,rfl,by simp,?_⟩;rw [show (List.toArray (List.range L.length)).toList=List.range L.length by simp,range_getD];exact hu
theorem zaD{F:List (List Int)}{s:Sto}{d:D}(hd:listOf s d=some (F.map rD))(nd:F.Nodup)(h:F.length<64\/Up F)(ne:∀ v∈F,v≠[]):∃ G:List (List Int),z8s s d=some (G.map rD)/\Up G/\(∀ x,x∈G ↔ x∈F)/\G.length=F.length:=by
 obtain ⟨p,e,pm,up⟩:=zd5 nd h;have mem:∀ i,i∈p.toList ↔ i<F.length:=fun i=>by rw [pm.mem_iff,List.mem_range]
 have ln:p.toList.length=F.length:=by have:=pm.length_eq;simpa using this
 refine ⟨p.toList.map fun i=>F.getD i [],?_,up,fun x=>?_,by simpa using ln⟩
 ·have t:z1Q (F.map rD)=some F:=z1t F;unfold z8s;rw [hd];simp only [t,e];rw [if_pos]
  ·congr 1;rw [List.map_map];refine List.map_congr_left fun i hi=>?_;have:=(mem i).mp hi;simp [List.getD_eq_getElem?_getD,this]
  ·refine ⟨?_,?_,by simpa using ln⟩
   ·rw [List.all_eq_true];intro v hv;have:=ne v hv;cases v with
    | nil=>exact absurd rfl this | cons a b=>rfl
   ·rw [List.all_eq_true];intro i hi;simpa using (mem i).mp hi
 ·have:(p.toList.map fun i=>F.getD i []).Perm F:=by
   have:=pm.map (fun i=>F.getD i []);rwa [range_getD] at this
  exact this.mem_iff
theorem z3O {α β:Type} {all:List D} {s:Sto} {fi2:D->Sto->R ItD} {fb:D->D->Sto->R D} (g:α->D) (g2:α->β->D) (l2:α->List β) (f:α->β->D):∀ (l:List α) (acc:List D),(∀ a∈l,fi2 (g a) s=.ok ((l2 a).map (g2 a),[]) s)->(∀ a∈l,∀ b∈l2 a,fb (g a) (g2 a b) s=.ok (f a b) s)->acc.length+(l.flatMap fun a=>(l2 a).map (f a)).length<=cap-> z3a [] all (fun d acc s=>(fi2 d s).bind fun it2 s2=>we it2.2 it2.1 (fun d2 s=>(fb d d2 s).bind fun d s3=>.ok (some d) s3) it2.1 acc s2) (l.map g) acc s=.ok (acc++l.flatMap fun a=>(l2 a).map (f a)) s
 | [],acc,_,_,_=>by simp [z3a,okG] | x::xs,acc,h1,h2,hl=>by
  have og:okG [] all s:=by intro p hp;simp at hp
  rw [List.flatMap_cons,List.length_append,List.length_map] at hl;rw [List.map_cons,z3a,if_pos og,h1 x (by simp),R.bind_ok];have c:=qd (s:=s) (all:=(l2 x).map (g2 x)) (body:=fun d2 s=>(fb (g x) d2 s).bind fun d s3=>.ok (some d) s3) (g2 x) (f x) (fun _=>true) (l2 x) acc (fun b hb=>by simp [h2 x (by simp) b hb]) (by omega);rw [c,R.bind_ok,List.filter_eq_self.mpr (by simp)];rw [z3O g g2 l2 f xs _ (fun a ha=>h1 a (by simp [ha])) (fun a ha=>h2 a (by simp [ha])) (by simp only [List.length_append,List.length_map];omega)];simp
theorem z4s {α β:Type} {fi:FI} {mp:List (Option Nat)} {k1 k2:Nat} {fi2:FI} {fe:FE} {ρ:Ev} {s:Sto} (g:α->D) (g2:α->β->D) (l:List α) (l2:α->List β) (f:α->β->D) (hi:fi ρ s=.ok (l.map g,[]) s) (hi2:∀ a∈l,fi2 ((zV mp ρ).set k1 (some (g a))) s=.ok ((l2 a).map (g2 a),[]) s) (he:∀ a∈l,∀ b∈l2 a,fe (((zV mp ρ).set k1 (some (g a))).set k2 (some (g2 a b))) s=.ok (f a b) s) (hl:(l.flatMap fun a=>(l2 a).map (f a)).length<=cap):jn fi mp k1 k2 fi2 fe ρ s=.ok (.lst (l.flatMap fun a=>(l2 a).map (f a))) s:=by
 unfold jn z3N;rw [hi,R.bind_ok,z3O (fi2:=fun d s=>fi2 ((zV mp ρ).set k1 (some d)) s) (fb:=fun d d2 s=>fe (((zV mp ρ).set k1 (some d)).set k2 (some d2)) s) g g2 l2 f l [] hi2 he (by simpa using hl)];rfl
theorem zeK {x d:Int} {m:Nat} (s:Sto) (h0:0<=x) (h1:x<=1000) (d0:0<=d) (d1:d<=1000) (hm:m<=99):yp [.int x,.int d,.int m] s=.ok (.lst (iL (z0d x d m))) s:=by
 have st:zx ["left","divider","most"] [.int x,.int d,.int m]=[some (.int x),some (.int d),some (.int m)]:=rfl;unfold yp Mof vw;rw [if_pos (by rfl),st,vq,ym,z9a,vM (b:=decide (x<d)) (by rw [op2 (x:=.int x) (y:=.int d) (vr rfl) (vr rfl),zeY]),R.bind_ok];unfold z0d;by_cases q:x<d
 ·rw [if_pos (by simpa using q),if_pos q,ze7,zm,vr (d:=.int x) rfl,R.bind_ok,zm,op2 (x:=.int m) (y:=.int 1) (vr rfl) rfl,kX,R.bind_ok,zm,vr (d:=.int d) rfl,R.bind_ok,zB];simp only [R.bind_ok];rw [if_pos ⟨h0,h1,by omega,by omega,by omega,d1⟩];simp [z86,Function.comp_def]
 ·rw [if_neg (by simpa using q),if_neg q,vS,zB];simp [cap]
end Pr
namespace Pr
open PySem.Spec L2 Dd Pm Pg Pn Po
theorem z0p:∀ a b:List Int,PyData.eqvAll (toPys (iL a)) (toPys (iL b))=decide (a=b)
 | [],[]=>by simp [toPys,PyData.eqvAll] | [],_::_=>by simp [toPys,PyData.eqvAll] | _::_,[]=>by simp [toPys,PyData.eqvAll] | x::a,y::b=>by
  have ih:=z0p a b;simp only [iL] at ih;simp [toPys,xS,PyData.eqvAll,PyData.eqv,ih];rfl
theorem zaR(a b:List Int):eqD (rD a) (rD b)=decide (a=b):=by
 have:=z0p a b;simp only [eqD,xS,PyData.eqv,this]
theorem z9t(a b:List Int)(s:Sto):dEq (rD a) (rD b) s=.ok (.bl (decide (a=b))) s:=by rw [dEq,if_pos ⟨z1X (k:=1) (z9o 0 a) (by decide),z1X (k:=1) (z9o 0 b) (by decide)⟩,zaR]
theorem jH:∀ (F:List (List Int)),D.flat.flats (F.map rD)=true
 | []=>rfl | r::T=>by
  have:=jH T;simp [D.flat.flats,D.flat,this,yq]
structure Sm(n m:Nat):Prop where
 pw:(m+1) ^ n<=2401
 pw1:(m+1) ^ (n-1)<=343
 one:n*m<=60
 lo:1<=m
 hi:m<=30
theorem z27 {w:List Int} {b m:Nat} (h0:∀ x∈w,0<=x):∀ c∈zI w b m,c.length<=m+1:=fun c hc=>by
 unfold zI at hc;obtain ⟨p,hp,rfl⟩:=List.mem_map.mp hc;have hx:p.1∈w:=List.mem_of_getElem? (List.mem_zipIdx_iff_getElem?.mp (show (p.1,p.2)∈w.zipIdx from hp));split;·simp
 ·have:=z8Y (d:=w.getD b 0) (most:=m) (h0 _ hx) (by omega);omega
theorem z99{k:Nat}(hk:1<=k)(cs:List (List Int)):(∀ c∈cs,c.length<=k)->∀ b,b<cs.length->(cs.getD b []).length<=1->(yU cs).length<=k ^ (cs.length-1):=by
 refine snoc_ind (P:=fun cs=>(∀ c∈cs,c.length<=k)->∀ b,b<cs.length->(cs.getD b []).length<=1->(yU cs).length<=k ^ (cs.length-1)) (fun _ b hb=>by simp at hb) ?_ cs;intro cs c ih h b hb h1;have hc:=h c (by simp);have e:(z1B (yU cs) c).length=(yU cs).length*c.length:=by
  unfold z1B;rw [List.length_flatMap];simp;induction (yU cs) with
  | nil=>simp | cons a l ih=>simp [ih,Nat.add_mul,Nat.add_comm]
 rw [wO,e];have hcs:∀ c∈cs,c.length<=k:=fun c hc=>h c (by simp [hc]);simp only [List.length_append,List.length_singleton] at hb ⊢;rw [show cs.length+1-1=cs.length by omega];by_cases q:b=cs.length
 ·rw [q,z64 (Nat.le_refl _)] at h1;simp at h1;have:=Nat.mul_le_mul (z0A cs hcs) h1;omega
 ·rw [z6H (by omega)] at h1;have:=Nat.mul_le_mul (ih hcs b (by omega) h1) hc;rw [<- Nat.pow_succ] at this;rwa [show (cs.length-1).succ=cs.length by omega] at this
theorem z4n{w:List Int}{b m:Nat}(hb:b<w.length)(h0:∀ x∈w,0<=x)(S:Sm w.length m):(jd w b m).length<=343:=by
 unfold jd;split;·simp
 ·have:=z99 (k:=m+1) (by omega) (zI w b m) (z27 h0) b (by rw [vt];exact hb) (by rw [wR hb,if_pos rfl];simp);rw [vt] at this;have:=S.pw1;omega
theorem take_snoc{α:Type}{l:List α}{i:Nat}{d:α}(h:i<l.length):l.take (i+1)=l.take i++[l.getD i d]:=by
 rw [List.take_add_one,List.getElem?_eq_getElem h];simp [List.getD_eq_getElem?_getD,h]
theorem z8m {m:Nat} {w:List Int} {b:Nat} (S:Sm w.length m) (h4:w.length<=4) (hb:b<w.length) (h0:∀ x∈w,0<=x) (h1:∀ x∈w,x<=1000) (s:Sto):xT [rD w,.int ((b:Nat):Int),.int ((m:Nat):Int)] s=.ok (.lst ((jd w b m).map rD)) s:=by
 have ixb:dIx (rD w) (.int ((b:Nat):Int)) s=.ok (.int (w.getD b 0)) s:=z12 s hb;have wb0:=h0 _ (Pm.getD_mem hb);have wb1:=h1 _ (Pm.getD_mem hb);have en:=fun ρ=>z6n (v:=w) (f:=zc 0) (ρ:=ρ) (s:=s);generalize hd:rD w=d at ixb en;have st:zx ["lot","by","most","found","at","number","numbers"] [d,.int ((b:Nat):Int),.int ((m:Nat):Int)]=[some d,some (.int ((b:Nat):Int)),some (.int ((m:Nat):Int)),none,none,none,none]:=rfl;unfold xT Mof kF;rw [if_pos (by rfl),st];have t1:tOf (eOp dEq (eOp dIx (zc 0) (zc 1)) (eC (.int 0))) [some d,some (.int ((b:Nat):Int)),some (.int ((m:Nat):Int)),none,none,none,none] s=.ok (decide (w.getD b 0=0)) s:=by
  refine vM ?_;rw [op2 (x:=.int (w.getD b 0)) (y:=.int 0) (by rw [op2 (x:=d) (y:=.int ((b:Nat):Int)) (vr rfl) (vr rfl)];exact ixb) rfl,z2S]
 unfold jd;by_cases q:w.getD b 0=0
 ·rw [if_pos q,kW (d:=.lst [d]) (s':=s) (by
   rw [uo,z1G (by rw [t1,decide_eq_true q]),jM,ym,vS,zm,vr (d:=d) rfl,R.bind_ok,zB];simp [cap])];rw [<- hd];rfl
 ·rw [if_neg q,zi (ρ':=[some d,some (.int ((b:Nat):Int)),some (.int ((m:Nat):Int)),none,none,none,none]) (s':=s) (by rw [uo,z7o (by rw [t1,decide_eq_false q])];rfl)];rw [zi (ρ':=[some d,some (.int ((b:Nat):Int)),some (.int ((m:Nat):Int)),some (.lst ((yU []).map rD)),none,none,none]) (s':=s) (by
   rw [jz,ye,vS,zm,va,zB];simp [cap,yU])];have clen:=vt w b m;have cle:=z27 (b:=b) (m:=m) h0;obtain ⟨ρ',s',lp,a4,a5,a6,hρ,rfl⟩:=jr (all:=(enP w).map fun p=>D.tup [.int ((p.2:Nat):Int),.int p.1]) (body:=fun x ρ s=>(xP 4 5 x ρ s).bind fun ρ' s'=>zH wJ wI ρ' s') (fun i ρ S=>∃ a4 a5 a6,ρ=[some d,some (.int ((b:Nat):Int)),some (.int ((m:Nat):Int)),some (.lst ((yU ((zI w b m).take i)).map rD)),a4,a5,a6]/\S=s) ((enP w).map fun p=>D.tup [.int ((p.2:Nat):Int),.int p.1]) 0 (by
   intro i x hx ρ S' ⟨a4,a5,a6,hρ,hS⟩;subst hρ hS;rw [Nat.zero_add];rw [List.getElem?_map,Option.map_eq_some_iff] at hx;obtain ⟨p,hp,rfl⟩:=hx;have hi:i<w.length:=by have:=(List.getElem?_eq_some_iff.mp hp).1;simpa using this
   have ep:p=(w.getD i 0,i):=by
    have:=(List.getElem?_eq_some_iff.mp hp).2;rw [<- this];simp [List.getD_eq_getElem?_getD,hi]
   subst ep;have x0:=h0 _ (Pm.getD_mem hi);have x1:=h1 _ (Pm.getD_mem hi);have ci:=wR (b:=b) (most:=m) hi;have ts:=take_snoc (l:=zI w b m) (i:=i) (d:=[]) (by omega);have f5:wJ [some d,some (.int ((b:Nat):Int)),some (.int ((m:Nat):Int)),some (.lst ((yU ((zI w b m).take i)).map rD)),some (.int ((i:Nat):Int)),some (.int (w.getD i 0)),a6] S'=.ok (.nx [some d,some (.int ((b:Nat):Int)),some (.int ((m:Nat):Int)),some (.lst ((yU ((zI w b m).take i)).map rD)),some (.int ((i:Nat):Int)),some (.int (w.getD i 0)),some (.lst (iL ((zI w b m).getD i [])))]) S':=by
    rw [wJ,ye,z9a,vM (b:=decide (i=b)) (by rw [op2 (x:=.int ((i:Nat):Int)) (y:=.int ((b:Nat):Int)) (vr rfl) (vr rfl),z2S];congr 2;exact decide_eq_decide.mpr (by omega)),R.bind_ok,ci];by_cases z:i=b
    ·rw [if_pos (by simpa using z),if_pos z,vS,zm,vr (d:=.int (w.getD i 0)) rfl,R.bind_ok,zB];simp [cap]
    ·rw [if_neg (by simpa using z),if_neg z,z0a (x:=.int (w.getD i 0)) (y:=.int (w.getD b 0)) (z:=.int ((m:Nat):Int)) (vr rfl) (by rw [op2 (x:=d) (y:=.int ((b:Nat):Int)) (vr rfl) (vr rfl)];exact ixb) (vr rfl),zeK _ x0 x1 wb0 wb1 (by have:=S.hi;omega)];rfl
   have f6:wI [some d,some (.int ((b:Nat):Int)),some (.int ((m:Nat):Int)),some (.lst ((yU ((zI w b m).take i)).map rD)),some (.int ((i:Nat):Int)),some (.int (w.getD i 0)),some (.lst (iL ((zI w b m).getD i [])))] S'=.ok (.nx [some d,some (.int ((b:Nat):Int)),some (.int ((m:Nat):Int)),some (.lst ((yU ((zI w b m).take (i+1))).map rD)),some (.int ((i:Nat):Int)),some (.int (w.getD i 0)),some (.lst (iL ((zI w b m).getD i [])))]) S':=by
    have eg:((yU ((zI w b m).take i)).flatMap fun a=>((zI w b m).getD i []).map fun z=>rD (a++[z]))=(yU ((zI w b m).take (i+1))).map rD:=by
     rw [ts,wO,z1B,List.map_flatMap];simp [Function.comp_def]
    have c:=z4s (fi:=yn (zc 3)) (mp:=[some 6,none,none]) (k1:=1) (k2:=2) (fi2:=yn (zc 0)) (fe:=eOp wl (zc 1) (uN (za (zc 2) zj))) (ρ:=[some d,some (.int ((b:Nat):Int)),some (.int ((m:Nat):Int)),some (.lst ((yU ((zI w b m).take i)).map rD)),some (.int ((i:Nat):Int)),some (.int (w.getD i 0)),some (.lst (iL ((zI w b m).getD i [])))]) (s:=S') rD (fun _ z=>D.int z) (yU ((zI w b m).take i)) (fun _=>(zI w b m).getD i []) (fun a z=>rD (a++[z])) (xc (vr rfl)) (fun a ha=>xc (vr rfl)) (fun a ha z hz=>by
      have al:=((uP _ a).mp ha).1;rw [List.length_take] at al;rw [op2 (x:=rD a) (y:=rD [z]) (vr rfl) (by
       rw [va,zm,vr (d:=.int z) rfl,R.bind_ok,zB];simp [cap]),kO,if_pos (by simp [cap];omega)];simp) (by
      rw [eg,List.length_map];have h2:=z0A ((zI w b m).take (i+1)) (k:=m+1) fun c hc=>cle c (List.mem_of_mem_take hc);have h3:(m+1) ^ ((zI w b m).take (i+1)).length<=(m+1) ^ w.length:=Nat.pow_le_pow_right (by omega) (by simp;omega);have h4:=S.pw;have:(2401:Nat)<=cap:=by decide
      omega);rw [eg] at c;rw [wI,ye,c];rfl
   exact ⟨_,_,(zi f5).trans f6,_,_,_,rfl,rfl⟩) [some d,some (.int ((b:Nat):Int)),some (.int ((m:Nat):Int)),some (.lst ((yU []).map rD)),none,none,none] s ⟨none,none,none,by simp,rfl⟩;have ef:(zI w b m).take (0+((enP w).map fun p=>D.tup [.int ((p.2:Nat):Int),.int p.1]).length)=zI w b m:=List.take_of_length_le (by simp [clen]);rw [ef] at hρ;rw [zi (ρ':=ρ') (s':=s') (by
   rw [ju,kI,en _ (vr rfl),R.bind_ok];exact lp),hρ];rfl
end Pr
namespace Pp
open PySem.Spec L2 Dd
def ky(c:List Int):List Key:=c.map Sum.inl
def kvC(F:List (List Int)):List (List Key×V):=F.map fun c=>(ky c,V.bl true)
def zfz(F:List (List Int))(c:List Int):List (List Int):=if c∈F then F else F++[c]
theorem zb1:∀ {a b:List Int},ky a=ky b->a=b
 | [],[],_=>rfl | [],_::_,h=>by simp [ky] at h | _::_,[],h=>by simp [ky] at h | x::a,y::b,h=>by
  simp only [ky,List.map_cons,List.cons.injEq,Sum.inl.injEq] at h;rw [h.1,zb1 (a:=a) (b:=b) h.2]
theorem zcp(F:List (List Int))(c:List Int):((kvC F).any fun kv=>decide (kv.1=ky c))=decide (c∈F):=by induction F with
 | nil=>simp [kvC] | cons a F ih=>
  have e:kvC (a::F)=(ky a,V.bl true)::kvC F:=rfl;rw [e,List.any_cons,ih];by_cases h:a=c;·subst h;simp
  ·have:¬ ky a=ky c:=fun z=>h (zb1 z);have h':¬ c=a:=fun z=>h z.symm;simp [this,h']
theorem zcG(F:List (List Int))(c:List Int):zgi (kvC F) (ky c) (V.bl true)=kvC (zfz F c):=by
 unfold zgi zfz;rw [zcp];by_cases h:c∈F
 ·simp only [h,decide_true,if_true];clear h;induction F with
  | nil=>rfl | cons a F ih=>
   have e:kvC (a::F)=(ky a,V.bl true)::kvC F:=rfl;rw [e,List.map_cons,ih];split<;>rfl
 ·simp only [h,decide_false,Bool.false_eq_true,if_false];simp [kvC]
theorem zaq(F:List (List Int)):zfL (kvC F):=fun p hp=>by
 obtain ⟨c,_,rfl⟩:=List.mem_map.mp hp;rfl
theorem zbE(F:List (List Int)):zb7 (z4J (kvC F))=some (kvC F):=dec_enc (zaq F)
theorem z4C:∀ c:List Int,z9E (c.map D.int)=some (ky c)
 | []=>rfl | i::c=>by simp [z9E,z4C c,ky]
theorem zce(F:List (List Int)):(kvC F).length=F.length:=by simp [kvC]
theorem zaw{ρ:Ev}{S:Sto}{i j l:Nat}{F:List (List Int)}{c:List Int}(hi:ρ[i]? = some (some (.dlo l)))(hj:ρ[j]? = some (some (.tup (c.map D.int))))(hS:S[l]? = some (z4J (kvC F)))(hl:F.length<cap): zbR (zc i) (zc j) (eC (.bl true)) ρ S=.ok (.nx ρ) (S.set l (z4J (kvC (zfz F c)))):=by
 have e1:zc i ρ S=.ok (.dlo l) S:=by rw [yJ,hi]
 have e2:zc j ρ S=.ok (.tup (c.map D.int)) S:=by rw [yJ,hj]
 have e3:eC (.bl true) ρ S=.ok (.bl true) S:=by simp
 unfold zbR;rw [e3,R.bind_ok,e1,R.bind_ok,e2,R.bind_ok];simp only [vV];rw [hS];simp only [Option.bind_some,zbE,z4C];rw [if_pos (by rw [zce];exact hl),zcG]
open Pm Pg
def zgT(F:List (List Int))(c:List Int):List (List Int):=if c.getLast? = some 0 then F else zfz F c
abbrev evC(d e p z:Option D)(l:Nat):Ev:=[d,e,some (.dlo l),p,z]
theorem z5E(s:Sto)(a b:List D):(s++[a]).set s.length b=s++[b]:=by rw [List.set_append_right _ _ (by omega)];simp
theorem zhE (d e p:Option D) {s:Sto} {F:List (List Int)} {c:List Int} (hc:c≠[]) (hl:F.length<cap): z0L (evC d e p (some (rD c)) s.length) (s++[z4J (kvC F)])=.ok (.nx (evC d e p (some (rD c)) s.length)) (s++[z4J (kvC (zgT F c))]):=by
 obtain ⟨pre,x,rfl⟩:∃ pre x,c=pre++[x]:=⟨c.dropLast,c.getLast hc,(List.dropLast_concat_getLast hc).symm⟩;have put:=zaw (ρ:=evC d e p (some (rD (pre++[x]))) s.length) (S:=s++[z4J (kvC F)]) (i:=2) (j:=4) (l:=s.length) (F:=F) (c:=pre++[x]) rfl rfl (by simp) hl;rw [z5E] at put;have ix:=zc7 (x:=rD (pre++[x])) (d:=.int x) (xs:=iL pre) (s:=s++[z4J (kvC F)]) (by simp [zP,iL]);have ee:eOp dIx (zc 4) (zaS (eC (.int 1))) (evC d e p (some (rD (pre++[x]))) s.length) (s++[z4J (kvC F)])=.ok (.int x) (s++[z4J (kvC F)]):=by rw [op2 (x:=rD (pre++[x])) (y:=.int (-1)) (by simp) (by simp)];exact ix
 have tt:tOf (eOp dNe (eOp dIx (zc 4) (zaS (eC (.int 1)))) (eC (.int 0))) (evC d e p (some (rD (pre++[x]))) s.length) (s++[z4J (kvC F)])=.ok (!decide (x=0)) (s++[z4J (kvC F)]):=by
  refine vM ?_;rw [op2 ee (y:=.int 0) (by simp)];simp [dNe,z3j,SeqAt.shaped,xS,PyData.canLay0,PyData.depth,eqD,PyData.eqv];by_cases hx:x=0<;>simp [hx]
 unfold z0L;rw [z1U,tt,R.bind_ok];by_cases hx:x=0
 ·subst hx;simp [zgT]
 ·rw [if_pos (by simp [hx])];unfold z1y;rw [put,zgT,if_neg (by simp [hx])]
theorem z0m(xs:List D)(i:Nat):Dd.cutD xs (some (i:Int)) none=xs.drop i:=by
 have:=kr xs i [];simpa [dSl] using this
open Pn
theorem z7z{x a b:Int}(h1:a<=x)(h2:x<=b)(s:Sto):xp [.int x,.int a,.int b] s=.ok .non s:=by
 have w:yF [.int x] s=.ok (.bl true) s:=z5L (by rfl) s;have st:zx ["thing","least","most"] [.int x,.int a,.int b]=[some (.int x),some (.int a),some (.int b)]:=rfl;simp only [xp,Mof,qL,st,List.length_cons,List.length_nil,if_true];rw [qp,z7o];·rfl
 ·refine zg1 (zeG (vM ?_)) (zeG (vM ?_));·rw [xJ (x:=.int x) (by simp)];exact w
  ·simp [h1,h2]
theorem z6o{m:Nat}{x:Int}(h0:0<=x)(h:x<2 ^ m)(hm:m<=4000):x.natAbs<BIG:=by
 have h1:x.natAbs<2 ^ m:=by
  have:((x.natAbs:Nat):Int)<((2 ^ m:Nat):Int):=by rw [Int.natAbs_of_nonneg h0];push_cast;exact h
  exact_mod_cast this
 have h2:(2:Nat) ^ m<=2 ^ 4000:=Nat.pow_le_pow_right (by decide) hm;have h3:(2:Nat) ^ 4000<BIG:=by decide +kernel
 exact Nat.lt_of_lt_of_le h1 (Nat.le_trans h2 (Nat.le_of_lt h3))
end Pp
namespace Pr
open PySem.Spec L2 Dd Pm Pg Pn Po Pp
theorem zcx(ps:List Int)(q:Int)(s:Sto):dSl (rD (ps++[q])) (some (-1)) none s=.ok (rD [q]) s:=by
 have e:Dd.cutD (iL (ps++[q])) (some (-1)) none=iL [q]:=by
  have e1:HT.sIx (iL (ps++[q])).length 0 (some (-1))=ps.length:=by
   unfold HT.sIx;simp only;rw [if_pos (by omega)];simp;omega
  unfold Dd.cutD;rw [e1];simp [HT.sIx]
 exact congrArg (fun x=>R.ok (Dd.D.tup x) s) e
theorem zg2 {m:Nat} {g:List Int} (h4:g.length<=4) (S:Sm g.length m) (h0:∀ x∈g,0<=x) (h1:∀ x∈g,x<=1000) (s:Sto):yS [rD g,.int ((m:Nat):Int)] s=.ok (.lst ((z44 g m).map rD)) s:=by
  have eg:((List.range g.length).flatMap fun i=>(List.range (((m:Nat):Int)-g.getD i 0).toNat).map fun k=>rD (g.take i++[g.getD i 0+1+((k:Nat):Int)]++g.drop (i+1)))=(z44 g m).map rD:=by
    rw [z44,List.map_flatMap];simp [Function.comp_def]
  have ol:=jR (g:=g) (most:=m) (m:=m) h0 (Int.le_refl _);have c:=z4s (fi:=z1g (za (zf xI (za (zc 0) zj)) zj)) (mp:=[some 0,some 1,none,none]) (k1:=2) (k2:=3) (fi2:=z6V (za (eOp wl (eOp dIx (zc 0) (zc 2)) (eC (.int 1))) (za (eOp wl (zc 1) (eC (.int 1))) zj))) (fe:=eOp wl (eOp wl (eSl (zc 0) zG (xn (zc 2))) (uN (za (zc 3) zj))) (eSl (zc 0) (xn (eOp wl (zc 2) (eC (.int 1)))) zG)) (ρ:=[some (rD g),some (.int ((m:Nat):Int))]) (s:=s) (fun i:Nat=>D.int ((i:Nat):Int)) (fun i k=>D.int (g.getD i 0+1+((k:Nat):Int))) (List.range g.length) (fun i=>List.range (((m:Nat):Int)-g.getD i 0).toNat) (fun i k=>rD (g.take i++[g.getD i 0+1+((k:Nat):Int)]++g.drop (i+1))) (qa (n:=g.length) (s1:=s) (by omega) (by rw [zm,xJ (x:=rD g) (vr rfl)];simp [xI,zP])) (fun i hi=>by
      have hi':i<g.length:=by simpa using hi
      have x0:=h0 _ (Pm.getD_mem hi');have x1:=h1 _ (Pm.getD_mem hi');have:=S.hi;rw [zcE,zm,op2 (x:=.int (g.getD i 0)) (y:=.int 1) (by rw [op2 (x:=rD g) (y:=.int ((i:Nat):Int)) (vr rfl) (vr rfl)];exact z12 s hi') rfl,kX,R.bind_ok,zm,op2 (x:=.int ((m:Nat):Int)) (y:=.int 1) (vr rfl) rfl,kX,R.bind_ok,zB];simp only [R.bind_ok];rw [if_pos (by omega),show (((m:Nat):Int)+1-(g.getD i 0+1)).toNat=(((m:Nat):Int)-g.getD i 0).toNat by omega];rfl) (fun i hi k hk=>by
      have hi':i<g.length:=by simpa using hi
      have a1:eSl (zc 0) zG (xn (zc 2)) [some (rD g),some (.int ((m:Nat):Int)),some (.int ((i:Nat):Int)),some (.int (g.getD i 0+1+((k:Nat):Int)))] s=.ok (rD (g.take i)) s:=by
        have:=z34 (iL g) i s;simp only [z1N,vr (d:=rD g) (i:=0) (ρ:=[some (rD g),some (.int ((m:Nat):Int)),some (.int ((i:Nat):Int)),some (.int (g.getD i 0+1+((k:Nat):Int)))]) rfl,R.bind_ok,yY,vL,yJ,List.getElem?_cons_zero,List.getElem?_cons_succ];rw [this,<- List.map_take]
      have a2:eSl (zc 0) (xn (eOp wl (zc 2) (eC (.int 1)))) zG [some (rD g),some (.int ((m:Nat):Int)),some (.int ((i:Nat):Int)),some (.int (g.getD i 0+1+((k:Nat):Int)))] s=.ok (rD (g.drop (i+1))) s:=by
        have:=kr (iL g) (i+1) s;rw [show (((i+1:Nat):Nat):Int)=(i:Int)+1 by simp] at this;simp only [z1N,vr (d:=rD g) (i:=0) (ρ:=[some (rD g),some (.int ((m:Nat):Int)),some (.int ((i:Nat):Int)),some (.int (g.getD i 0+1+((k:Nat):Int)))]) rfl,R.bind_ok,yY,vL,yJ,xf,jU,kX,List.getElem?_cons_zero,List.getElem?_cons_succ];rw [this,<- List.map_drop]
      have a3:uN (za (zc 3) zj) [some (rD g),some (.int ((m:Nat):Int)),some (.int ((i:Nat):Int)),some (.int (g.getD i 0+1+((k:Nat):Int)))] s=.ok (rD [g.getD i 0+1+((k:Nat):Int)]) s:=by
        rw [va,zm,vr (d:=.int (g.getD i 0+1+((k:Nat):Int))) rfl,R.bind_ok,zB];simp [cap]
      have a4:eOp wl (eSl (zc 0) zG (xn (zc 2))) (uN (za (zc 3) zj)) [some (rD g),some (.int ((m:Nat):Int)),some (.int ((i:Nat):Int)),some (.int (g.getD i 0+1+((k:Nat):Int)))] s=.ok (rD (g.take i++[g.getD i 0+1+((k:Nat):Int)])) s:=by rw [op2 a1 a3,kO,if_pos (by simp [cap];omega),<- List.map_append]
      have a5:=op2 (o:=wl) a4 a2;rw [kO,if_pos (by simp [cap];omega),<- List.map_append] at a5;exact a5)
    (by rw [eg,List.length_map];have:=S.one;have:(60:Nat)<=cap:=by decide
        omega);rw [eg] at c;have key:∀ (d e X:D),jn (z1g (za (zf xI (za (zc 0) zj)) zj)) [some 0,some 1,none,none] 2 3 (z6V (za (eOp wl (eOp dIx (zc 0) (zc 2)) (eC (.int 1))) (za (eOp wl (zc 1) (eC (.int 1))) zj))) (eOp wl (eOp wl (eSl (zc 0) zG (xn (zc 2))) (uN (za (zc 3) zj))) (eSl (zc 0) (xn (eOp wl (zc 2) (eC (.int 1)))) zG)) [some d,some e] s=.ok X s->yS [d,e] s=.ok X s:=fun d e X hX=>by
    have st:zx ["lot","most"] [d,e]=[some d,some e]:=rfl;simp only [yS,Mof,qH,st,List.length_cons,List.length_nil,if_true];rw [qe,ym,hX];rfl
  exact key _ _ _ c
theorem vg{g:List Int}:(g.drop (g.length-1)++g.take (g.length-1)).length=g.length:=by simp
theorem z1o{g:List Int}{x:Int}:x∈g.drop (g.length-1)++g.take (g.length-1) ↔ x∈g:=by
 have e:=List.take_append_drop (g.length-1) g;rw [List.mem_append,or_comm,<- List.mem_append,e]
theorem jK{n:Nat}{g:List Int}(h:Lot n g):Lot n (g.drop (g.length-1)++g.take (g.length-1)):=by
 obtain ⟨x,hx,p⟩:=h.pos;exact ⟨h.sz,by rw [vg,h.len],fun x hx=>h.nn x (z1o.mp hx),⟨x,z1o.mpr hx,p⟩⟩
section
variable {n m:Nat}{g:List Int}(h:Lot n g)(S:Sm n m)(hg:∀ x∈g,x<=1000)(r:Rl)
include h S
theorem z7X:∀ a∈ahead r g m,Lot n a:=fun a ha=>by
 have l4:=h.le4;cases r with
 | tu=>exact z3C (jK h) (by rw [vg];omega) a ha | al=>exact z3C h (jD (maxL_mem h.ne)).1 a ha | nx=>exact z6D h a ha | le=>exact z6D h a ha
theorem z8R:(ahead r g m).length<=343:=by
 have l4:=h.le4;have hl:=h.len;cases r with
 | tu=>exact z4n (by rw [vg];omega) (jK h).nn (by rw [vg,hl];exact S) | al=>exact z4n (jD (maxL_mem h.ne)).1 h.nn (by rw [hl];exact S) | nx=>have:=jR (g:=g) (most:=m) (m:=m) h.nn (Int.le_refl _);rw [hl] at this;have:=S.one;show (z44 g m).length<=343;omega | le=>have:=jR (g:=g) (most:=m) (m:=m) h.nn (Int.le_refl _);rw [hl] at this;have:=S.one;show (z44 g m).length<=343;omega
theorem z93:(ahead r g m).Nodup/\((ahead r g m).length<64\/Up (ahead r g m)):=by
 have hl:=h.len;cases r with
 | tu=>have u:Up (ahead .tu g m):=z61 (jK h).nn;exact ⟨u.nodup,.inr u⟩ | al=>have u:Up (ahead .al g m):=z61 h.nn;exact ⟨u.nodup,.inr u⟩ | nx=>refine ⟨z8H,.inl ?_⟩;have:=jR (g:=g) (most:=m) (m:=m) h.nn (Int.le_refl _);rw [hl] at this;have:=S.one;show (z44 g m).length<64;omega | le=>refine ⟨z8H,.inl ?_⟩;have:=jR (g:=g) (most:=m) (m:=m) h.nn (Int.le_refl _);rw [hl] at this;have:=S.one;show (z44 g m).length<64;omega
include hg
theorem zcv (s:Sto):xq [.str (nmR r),rD g,.int ((m:Nat):Int)] s=.ok (.lst ((ahead r g m).map rD)) s:=by
 have l4:=h.le4;have hl:=h.len;have e1:=z5l r s;have e2:=zef r s;have mx:=z21 s h.ne;have S':Sm g.length m:=by rw [hl];exact S
 have u1:=z8m (w:=g.drop (g.length-1)++g.take (g.length-1)) (b:=0) (by rw [vg];exact S') (by rw [vg];omega) (by rw [vg];omega) (jK h).nn (fun x hx=>hg x (z1o.mp hx)) s;have u2:=z8m (w:=g) (b:=g.idxOf (maxL g)) S' (by omega) (jD (maxL_mem h.ne)).1 h.nn hg s;have u3:=zg2 (by omega) S' h.nn hg s;have s1:eOp wl (eSl (zc 1) (xn (zaS (eC (.int 1)))) zG) (eSl (zc 1) zG (xn (zaS (eC (.int 1))))) [some (.str (nmR r)),some (rD g),some (.int ((m:Nat):Int))] s=.ok (rD (g.drop (g.length-1)++g.take (g.length-1))) s:=by
  have ne:=h.ne;obtain ⟨ps,q,rfl⟩:∃ pre x,g=pre++[x]:=⟨g.dropLast,g.getLast ne,(List.dropLast_concat_getLast ne).symm⟩;have k1:=zcx ps q s;have k2:=zdi ps q s;rw [op2 (x:=rD [q]) (y:=rD ps) (by
   simp only [z1N,vr (d:=rD (ps++[q])) (i:=1) (ρ:=[some (.str (nmR r)),some (rD (ps++[q])),some (.int ((m:Nat):Int))]) rfl,R.bind_ok,yY,vL,zbp,jU];exact k1) (by
   simp only [z1N,vr (d:=rD (ps++[q])) (i:=1) (ρ:=[some (.str (nmR r)),some (rD (ps++[q])),some (.int ((m:Nat):Int))]) rfl,R.bind_ok,yY,vL,zbp,jU];exact k2),kO,if_pos (by simp [cap] at *;omega)];simp
 have s2:z7r (zc 1) (zf wz (za (zc 1) zj)) [some (.str (nmR r)),some (rD g),some (.int ((m:Nat):Int))] s=.ok (.int ((g.idxOf (maxL g):Nat):Int)) s:=z1Y (vr rfl) (by rw [xJ (x:=rD g) (vr rfl)];exact mx) (maxL_mem h.ne);have st:zx ["rule","lot","most"] [.str (nmR r),rD g,.int ((m:Nat):Int)]=[some (.str (nmR r)),some (rD g),some (.int ((m:Nat):Int))]:=rfl;unfold xq Mof qJ;rw [if_pos (by rfl),st];have t1:tOf (eOp dEq (zc 0) (eC (.str "turn"))) [some (.str (nmR r)),some (rD g),some (.int ((m:Nat):Int))] s=.ok (decide (r=.tu)) s:=vM (by rw [op2 (x:=.str (nmR r)) (y:=.str "turn") (vr rfl) rfl];exact e1);have t2:tOf (eOp dEq (zc 0) (eC (.str "all"))) [some (.str (nmR r)),some (rD g),some (.int ((m:Nat):Int))] s=.ok (decide (r=.al)) s:=vM (by rw [op2 (x:=.str (nmR r)) (y:=.str "all") (vr rfl) rfl];exact e2);have last:r≠.tu->r≠.al->ahead r g m=z44 g m:=fun a b=>by cases r<;>first | rfl | exact absurd rfl a | exact absurd rfl b
 by_cases z1:r=.tu;·rw [kW (d:=.lst ((ahead r g m).map rD)) (s':=s) (by
   rw [vd,z1G (by rw [t1,decide_eq_true z1]),qt,ym,z0a (x:=rD (g.drop (g.length-1)++g.take (g.length-1))) (y:=.int ((0:Nat):Int)) (z:=.int ((m:Nat):Int)) s1 rfl (vr rfl),u1,z1];rfl)]
 ·rw [zi (ρ':=[some (.str (nmR r)),some (rD g),some (.int ((m:Nat):Int))]) (s':=s) (by rw [vd,z7o (by rw [t1,decide_eq_false z1])];rfl)];by_cases z2:r=.al;·rw [kW (d:=.lst ((ahead r g m).map rD)) (s':=s) (by
    rw [vh,z1G (by rw [t2,decide_eq_true z2]),uQ,ym,z0a (x:=rD g) (y:=.int ((g.idxOf (maxL g):Nat):Int)) (z:=.int ((m:Nat):Int)) (vr rfl) s2 (vr rfl),u2,z2];rfl)]
  ·rw [zi (ρ':=[some (.str (nmR r)),some (rD g),some (.int ((m:Nat):Int))]) (s':=s) (by rw [vh,z7o (by rw [t2,decide_eq_false z2])];rfl),last z1 z2,qk,ym,call2 (x:=rD g) (y:=.int ((m:Nat):Int)) (vr rfl) (vr rfl),u3];rfl
end
theorem zc6 {n:Nat} {v g:List Int} (r:Rl) (h:z4R n 10 v) (s:Sto):wL [.str (nmR r),rD v,rD g] s=.ok (.bl (!ended v&&decide (stp r v=g))) s:=by
 have st:zx ["rule","ahead","lot"] [.str (nmR r),rD v,rD g]=[some (.str (nmR r)),some (rD v),some (rD g)]:=rfl;unfold wL Mof z0T;rw [if_pos (by rfl),st,kU,ym,z4c,zek,xJ (x:=rD v) (vr rfl),z1k h.toLot,R.bind_ok];cases he:ended v with
 | true=>rfl | false=>
  simp only [R.bind_ok,Bool.not_false,Bool.true_and];rw [op2 (x:=rD (stp r v)) (y:=rD g) (by rw [call2 (x:=.str (nmR r)) (y:=rD v) (vr rfl) (vr rfl)];exact zdL r h he (by decide) s) (vr rfl),z9t];rfl
abbrev E5(a0 a1 a2 a3 a4:Option D):Ev:=[a0,a1,a2,a3,a4]
def cms(r:Rl)(g:List Int)(m:Nat)(v:List Int):Bool:=decide (maxL v<=((m:Nat):Int))&&(!ended v&&decide (stp r v=g))
theorem Lot.small{n m:Nat}{v:List Int}(h:Lot n v)(hm:m<=900)(hv:maxL v<=((m:Nat):Int)):z4R n 10 v:=⟨h,fun x hx=>by
 have:=maxL_ge (xs:=v) x hx;have e:(2:Int) ^ 10=1024:=by decide
 omega⟩
section
variable {n m:Nat}{g:List Int}(h:Lot n g)(S:Sm n m)(hg:∀ x∈g,x<=1000)(r:Rl)
include h S
theorem zcI {v:List Int} (hv:Lot n v) {F:List (List Int)} (hF:F.length<1000) (s:Sto) (a4:Option D): (zH wU wZ) (E5 (some (.str (nmR r))) (some (rD g)) (some (.int ((m:Nat):Int))) (some (.loc s.length)) (some (rD v))) (s++[F.map rD]) = .ok (.nx (E5 (some (.str (nmR r))) (some (rD g)) (some (.int ((m:Nat):Int))) (some (.loc s.length)) (some (rD v)))) (s++[(F++[v].filter (cms r g m)).map rD]):=by
 have mx:wz [rD v] (s++[F.map rD])=.ok (.int (maxL v)) (s++[F.map rD]):=z21 (s++[F.map rD]) hv.ne;have cm:maxL v<=((m:Nat):Int)->wL [.str (nmR r),rD v,rD g] (s++[F.map rD])=.ok (.bl (!ended v&&decide (stp r v=g))) (s++[F.map rD]):=fun q=>zc6 r (Lot.small hv (by have:=S.hi;omega) q) _;have fl:(rD v).flat=true:=by simp [D.flat,yq]
 have t7:∀ (G:List D) (d e f:D),G.length<=1000->wZ (E5 (some d) (some e) (some (.int ((m:Nat):Int))) (some (.loc s.length)) (some f)) (s++[G])=.ok (.nx (E5 (some d) (some e) (some (.int ((m:Nat):Int))) (some (.loc s.length)) (some f))) (s++[G]):=fun G d e f hG=>by
  rw [wZ,z7o (vM (b:=false) (by
   rw [op2 (x:=.int (G.length:Int)) (y:=.int 1000) (by rw [xJ (x:=.loc s.length) (vr rfl)];simp [xI,zP]) rfl];simp;omega))];rfl
 have hl:(F.map rD).length=F.length:=by simp
 have ap:(F++[v]).map rD=F.map rD++[rD v]:=by simp
 by_cases q:cms r g m v=true
 ·have e1:[v].filter (cms r g m)=[v]:=by simp [q]
  rw [e1,ap];simp only [cms,Bool.and_eq_true,decide_eq_true_eq] at q;have cm:=cm q.1;have hc:(!ended v&&decide (stp r v=g))=true:=by simp [q.2.1,q.2.2]
  rw [hc] at cm;generalize F.map rD=X at *;generalize rD v=d at *;generalize rD g=gd at *;rw [zi (ρ':=E5 (some (.str (nmR r))) (some gd) (some (.int ((m:Nat):Int))) (some (.loc s.length)) (some d)) (s':=s++[X++[d]]) (by
   rw [wU,z1G (by
    rw [z8C,vM (b:=true) (by rw [op2 (x:=.int (maxL v)) (y:=.int ((m:Nat):Int)) (by rw [xJ (x:=d) (vr rfl)];exact mx) (vr rfl),zdF,decide_eq_true q.1]),R.bind_ok,if_pos rfl];exact vM (by rw [z0a (x:=.str (nmR r)) (y:=d) (z:=gd) (vr rfl) (vr rfl) (vr rfl)];exact cm))];rw [z1u,qS,z5T,vr (d:=.loc s.length) rfl,R.bind_ok];simp only;rw [vr (d:=d) rfl,R.bind_ok];have gt:(s++[X])[s.length]? = some X:=by simp
   rw [gt];simp only;rw [if_pos ⟨fl,by simp [cap];omega⟩,z5E];rfl)];exact t7 _ _ _ _ (by simp;omega)
 ·have e1:[v].filter (cms r g m)=[]:=by simp [q]
  rw [e1,List.append_nil];simp only [cms,Bool.and_eq_true,decide_eq_true_eq] at q;have k:maxL v<=((m:Nat):Int)->(!ended v&&decide (stp r v=g))=false:=fun z=>by cases hc:(!ended v&&decide (stp r v=g)) with
   | false=>rfl | true=>exact absurd ⟨z,by simpa using hc⟩ q
  generalize (!ended v&&decide (stp r v=g))=bb at *;generalize F.map rD=X at *;generalize rD v=d at *;generalize rD g=gd at *;rw [zi (ρ':=E5 (some (.str (nmR r))) (some gd) (some (.int ((m:Nat):Int))) (some (.loc s.length)) (some d)) (s':=s++[X]) (by
   rw [wU,z7o (by
    rw [z8C,vM (b:=decide (maxL v<=((m:Nat):Int))) (by rw [op2 (x:=.int (maxL v)) (y:=.int ((m:Nat):Int)) (by rw [xJ (x:=d) (vr rfl)];exact mx) (vr rfl),zdF]),R.bind_ok];by_cases z:maxL v<=((m:Nat):Int)
    ·rw [if_pos (by simpa using z)];exact vM (by rw [z0a (x:=.str (nmR r)) (y:=d) (z:=gd) (vr rfl) (vr rfl) (vr rfl),cm z,k z])
    ·rw [if_neg (by simpa using z)])];rfl)];exact t7 _ _ _ _ (by omega)
include hg
theorem z3G (s:Sto):∃ t G,yA [.str (nmR r),rD g,.int ((m:Nat):Int)] s=.ok (.loc (s.length+1)) (s++[t]++[G.map rD])/\Up G/\(∀ v,v∈G ↔ Lot n v/\(∀ x∈v,x<=((m:Nat):Int))/\ended v=false/\stp r v=g)/\G.length<=343:=by
 have w1:=z4M r h s;have w2:=z7z (x:=((m:Nat):Int)) (a:=1) (b:=30) (by have:=S.lo;omega) (by have:=S.hi;omega) s;have ah:=fun s=>zcv h S hg r s;have al:=z7X h S r;have an:=z8R h S r;obtain ⟨nd,srt⟩:=z93 h S r;have tn:=fun (v:List Int) (hv:Lot n v) (F:List (List Int)) (hF:F.length<1000) (a4:Option D)=>zcI h S r hv hF s a4;have all:∀ v,Lot n v->(∀ x∈v,x<=((m:Nat):Int))->ended v=false->stp r v=g->v∈ahead r g m:=fun v h1 h2 h3 h4=>z92 h1 h3 h2 h4;have fsrt:((ahead r g m).filter (cms r g m)).length<64\/Up ((ahead r g m).filter (cms r g m)):=by
  rcases srt with q | q;·exact .inl (Nat.lt_of_le_of_lt (List.length_filter_le _ _) q)
  ·exact .inr (q.filter _)
 obtain ⟨G,e,up,mem,gl⟩:=zaD (s:=s++[((ahead r g m).filter (cms r g m)).map rD]) (d:=.loc s.length) (by simp [Dd.listOf]) (nd.filter _) fsrt (fun v hv=>(al v (List.mem_filter.mp hv).1).ne);have fl2:=List.length_filter_le (cms r g m) (ahead r g m);refine ⟨((ahead r g m).filter (cms r g m)).map rD,G,?_,up,fun v=>?_,by omega⟩
 ·have flG:=jH G;have gs:z1a [.loc s.length] (s++[((ahead r g m).filter (cms r g m)).map rD])=.ok (.loc (s.length+1)) (s++[((ahead r g m).filter (cms r g m)).map rD]++[G.map rD]):=by
   simp only [z1a,e];rw [if_pos flG];simp
  obtain ⟨ρ',s',lp,a4,hρ,hs⟩:=jr (all:=(ahead r g m).map rD) (body:=fun x ρ s=>(wv 4 x ρ s).bind fun ρ' s'=>zH wU wZ ρ' s') (fun i ρ S=>∃ a4,ρ=E5 (some (.str (nmR r))) (some (rD g)) (some (.int ((m:Nat):Int))) (some (.loc s.length)) a4/\S=s++[(((ahead r g m).take i).filter (cms r g m)).map rD]) ((ahead r g m).map rD) 0 (by
   intro i x hx ρ S' ⟨a4,hρ,hS⟩;subst hρ hS;rw [Nat.zero_add];rw [List.getElem?_map,Option.map_eq_some_iff] at hx;obtain ⟨v,hv,rfl⟩:=hx;have hl1:(((ahead r g m).take i).filter (cms r g m)).length<1000:=by
    have:=List.length_filter_le (cms r g m) ((ahead r g m).take i);simp at this;omega
   have t:=tn v (al v (List.mem_of_getElem? hv)) _ hl1 a4;have ts:(ahead r g m).take (i+1)=(ahead r g m).take i++[v]:=by rw [List.take_add_one,hv];rfl
   rw [<- List.filter_append,<- ts] at t;exact ⟨_,_,t,_,rfl,rfl⟩) (E5 (some (.str (nmR r))) (some (rD g)) (some (.int ((m:Nat):Int))) (some (.loc s.length)) none) (s++[[]]) ⟨none,rfl,by simp⟩;rw [Nat.zero_add,List.length_map,List.take_length] at hs;have ah:=ah (s++[[]]);generalize ((ahead r g m).filter (cms r g m)).map rD=X at *;generalize (ahead r g m).map rD=A at *;generalize G.map rD=Yy at *;generalize rD g=gd at *;have st:zx ["rule","lot","most","found","ahead"] [.str (nmR r),gd,.int ((m:Nat):Int)]=E5 (some (.str (nmR r))) (some gd) (some (.int ((m:Nat):Int))) none none:=rfl;simp only [yA,Mof,z2h,st,List.length_cons,List.length_nil,if_true];rw [zi (ρ':=E5 (some (.str (nmR r))) (some gd) (some (.int ((m:Nat):Int))) none none) (s':=s) (by rw [z1w,qS,call2 (x:=.str (nmR r)) (y:=gd) (vr rfl) (vr rfl),w1];rfl)];rw [zi (ρ':=E5 (some (.str (nmR r))) (some gd) (some (.int ((m:Nat):Int))) none none) (s':=s) (by rw [z13,qS,z0a (x:=.int ((m:Nat):Int)) (y:=.int 1) (z:=.int 30) (vr rfl) rfl rfl,w2];rfl)];rw [zi (ρ':=E5 (some (.str (nmR r))) (some gd) (some (.int ((m:Nat):Int))) (some (.loc s.length)) none) (s':=s++[[]]) (by
   rw [z0D,ye,z63,zB];simp only [R.bind_ok];rw [if_pos ⟨by simp [cap],rfl⟩];rfl)];rw [zi (ρ':=ρ') (s':=s') (by
   rw [z0M,kI,xc (xs:=A) (by rw [z0a (x:=.str (nmR r)) (y:=gd) (z:=.int ((m:Nat):Int)) (vr rfl) (vr rfl) (vr rfl)];exact ah),R.bind_ok];exact lp),hρ,hs,z0Q,ym,xJ (x:=.loc s.length) (vr rfl),gs];rfl
 ·rw [mem,List.mem_filter];simp only [cms,Bool.and_eq_true,decide_eq_true_eq];constructor
  ·rintro ⟨h1,h2,h3,h4⟩;exact ⟨al v h1,fun x hx=>Int.le_trans (maxL_ge x hx) h2,by simpa using h3,h4⟩
  ·rintro ⟨h1,h2,h3,h4⟩;exact ⟨all v h1 h2 h3 h4,h2 _ (maxL_mem h1.ne),by simpa using h3,h4⟩
end
end Pr
namespace Pp
open PySem.Spec L2 Dd Pm Pg Pn
abbrev T39:Int:=1000000000000000000000000000000000000000
theorem t39:T39<2 ^ 2000:=by decide +kernel
theorem zid{r:Int}(s:Sto)(h0:0<=r)(h1:r<5):∃ far:Int,dIx (.lst [.int 4,.int 31,.int 1001,.int 1000000000000000,.int T39]) (.int r) s=.ok (.int far) s/\4<=far/\far<=T39:=by
 obtain ⟨k,rfl⟩:=Int.eq_ofNat_of_zero_le h0;have:k=0\/k=1\/k=2\/k=3\/k=4:=by omega
 rcases this with rfl | rfl | rfl | rfl | rfl;·exact ⟨4,rfl,by decide,by decide⟩
 ·exact ⟨31,rfl,by decide,by decide⟩
 ·exact ⟨1001,rfl,by decide,by decide⟩
 ·exact ⟨1000000000000000,rfl,by decide,by decide⟩
 ·exact ⟨T39,rfl,by decide,by decide⟩
theorem z5U{M:Int}:∀ ys:List D,(∀ y∈ys,∃ x:Int,y=.int x/\0<=x/\x<=M)->∃ xs:List Int,ys=iL xs/\∀ x∈xs,0<=x/\x<=M
 | [],_=>⟨[],rfl,by simp⟩ | y::ys,h=>by
  obtain ⟨x,rfl,hx⟩:=h y (by simp);obtain ⟨xs,rfl,hs⟩:=z5U ys fun z hz=>h z (by simp [hz]);exact ⟨x::xs,rfl,fun z hz=>by rcases List.mem_cons.mp hz with rfl | hz;exact hx;exact hs z hz⟩
abbrev EvM(M:Int)(l:Nat)(n:Nat)(a3 a4 a5 a6 a7:Option D):Ev:=[some (.loc l),some (.int n),some (.int M),a3,a4,a5,a6,a7]
theorem z87 {s:Sto} {l n:Nat} {M:Int} (h:Pot s l) (hsz:Sz n) (hM0:1<=M) (hM1:M<T39):∃ v s',yV [.loc l,.int n,.int M] s=.ok (rD v) s'/\Lot n v/\(∀ x∈v,x<=M)/\qb s s' l:=by
 have hl:=h.lt;have hn:2<=n/\n<=4:=by unfold Sz at hsz;omega
 have st:zx ["_law_pot_here","_law_size","_law_most","_law_far","_law_found","_law_way","_law_at","_law_to"] [.loc l,.int n,.int M]=EvM M l n none none none none none:=rfl;obtain ⟨r1,s1,e1,a1,b1,d1⟩:=jl (ρ:=EvM M l n none none none none none) (f:=zc 0) (g:=eC (.int 5)) (far:=5) h (by decide) (z4V (by decide)) (by simp) (by simp);obtain ⟨fr,ef,f0',f1'⟩:=zid s1 a1 b1;obtain ⟨far,hfar,f0,f1,f2⟩:∃ far:Int,far=(if fr<M+1 then fr else M+1)/\2<=far/\far<=T39/\far<=M+1:=⟨_,rfl,by split<;>omega,by split<;>omega,by split<;>omega⟩;have p1:vn (EvM M l n none none none none none) s=.ok (.nx (EvM M l n (some (.int far)) none none none none)) s1:=by
  have x1:eOp wl (zc 2) (eC (.int 1)) (EvM M l n none none none none none) s=.ok (.int (M+1)) s:=by simp
  have x2:eOp dIx (z0c (za (eC (.int 4)) (za (eC (.int 31)) (za (eC (.int 1001)) (za (eOp z62 (eC (.int 10)) (eC (.int 15))) (za (eOp z62 (eC (.int 10)) (eC (.int 39))) zj)))))) (zf zA (za (zc 0) (za (eC (.int 5)) zj))) (EvM M l n none none none none none) s=.ok (.int fr) s1:=by
   rw [xf];have:z0c (za (eC (.int 4)) (za (eC (.int 31)) (za (eC (.int 1001)) (za (eOp z62 (eC (.int 10)) (eC (.int 15))) (za (eOp z62 (eC (.int 10)) (eC (.int 39))) zj))))) (EvM M l n none none none none none) s=.ok (.lst [.int 4,.int 31,.int 1001,.int 1000000000000000,.int T39]) s:=by
    simp only [vS,zm,zB,jU,xf,R.bind_ok,zg3,zha];rw [if_pos (by simp [cap])]
   rw [this,R.bind_ok,e1,R.bind_ok,ef]
  have x3:z53 [.int (M+1),.int fr] s1=.ok (.int far) s1:=by
   simp only [z53];rw [hfar]
  rw [vn,ye,wm,zm,x1,R.bind_ok,zm,x2];simp only [R.bind_ok,zB,x3];rfl
 obtain ⟨ys,s2,e2,y1,y2,d2⟩:=zaP (fi:=z1g (za (zc 1) zj)) (mp:=[some 0,some 3,none]) (fg:=wv 2) (fe:=zf zA (za (zc 0) (za (zc 1) zj))) (ρ:=EvM M l n (some (.int far)) none none none none) (s:=s1) (s0:=s1) (fun k:Nat=>D.int ((k:Nat):Int)) (fun k=>[some (.loc l),some (.int far),some (.int ((k:Nat):Int))]) (fun _ s'=>qb s s' l) (fun y=>∃ x:Int,y=.int x/\0<=x/\x<=M) (List.range n) (qa (n:=n) (by omega) (by simp)) (fun k _ s=>by simp) (fun i k _ s' hd=>by
   obtain ⟨x,s'',e,x0,x1,d⟩:=zbj hd.pot (far:=far) (by omega) (Int.lt_of_le_of_lt f1 t39);exact ⟨.int x,s'',by rw [call2 (x:=.loc l) (y:=.int far) (vr rfl) (vr rfl)];exact e,⟨x,rfl,x0,by omega⟩,hd.trans d⟩) (by simp [cap];omega) d1 (fun y ⟨x,hx,_⟩=>by subst hx;rfl);obtain ⟨xs,rfl,x2⟩:=z5U ys y2;have n2:xs.length=n:=by simpa using y1
 have p2:wW (EvM M l n (some (.int far)) none none none none) s1=.ok (.nx (EvM M l n (some (.int far)) (some (.loc s.length)) none none none)) (s2++[iL xs]):=by
  rw [wW,ye,e2,R.bind_ok,d2.len];rfl
 have L2:=LS.start d2 h xs;obtain ⟨way,s3,e3,a3,b3,d3⟩:=jl (ρ:=EvM M l n (some (.int far)) (some (.loc s.length)) none none none) (f:=zc 0) (g:=eC (.int 6)) (far:=6) L2.pot (by decide) (z4V (by decide)) (by simp) (by simp);have L3:=L2.drawn hl d3;have p3:wT (EvM M l n (some (.int far)) (some (.loc s.length)) none none none) (s2++[iL xs])=.ok (.nx (EvM M l n (some (.int far)) (some (.loc s.length)) (some (.int way)) none none)) s3:=by rw [wT,ye,e3];rfl
 obtain ⟨at_,s4,e4,a4,b4,d4⟩:=jl (ρ:=EvM M l n (some (.int far)) (some (.loc s.length)) (some (.int way)) none none) (f:=zc 0) (g:=zc 1) (far:=n) L3.pot (by omega) (z4V (by omega)) (by simp) (by simp);have L4:=L3.drawn hl d4;obtain ⟨to,s5,e5,a5,b5,d5⟩:=jl (ρ:=EvM M l n (some (.int far)) (some (.loc s.length)) (some (.int way)) none none) (f:=zc 0) (g:=zc 1) (far:=n) L4.pot (by omega) (z4V (by omega)) (by simp) (by simp);have L5:=L4.drawn hl d5;have p4:wY (EvM M l n (some (.int far)) (some (.loc s.length)) (some (.int way)) none none) s3=.ok (.nx (EvM M l n (some (.int far)) (some (.loc s.length)) (some (.int way)) (some (.int at_)) (some (.int to)))) s5:=by
  rw [wY,zfr,zm,e4,R.bind_ok,zm,e5];rfl
 let E:=EvM M l n (some (.int far)) (some (.loc s.length)) (some (.int way)) (some (.int at_)) (some (.int to));have s5':∃ s6 ys,xy E s5=.ok (.nx E) s6/\LS s l s6 ys/\(∀ y∈ys,0<=y/\y<=M)/\ys.length=n:=by
  have t:tOf (eOp dEq (zc 5) (eC (.int 0))) E s5=.ok (decide (way=0)) s5:=vM (by rw [op2 (x:=.int way) (y:=.int 0) (vr rfl) rfl,z2S]);by_cases z:way=0
  ·refine ⟨_,_,?_,L5.set hl (xs.set at_.toNat 0),z8I x2 (by omega),by simp [n2]⟩;rw [xy,z1U,t,R.bind_ok,if_pos (by simpa using z),uX];exact z32 (s1:=s5) (s2:=s5) (x:=0) rfl (vr rfl) (vr rfl) L5.at_ a4 (by omega)
  ·refine ⟨s5,xs,?_,L5,x2,n2⟩;rw [xy,z1U,t,R.bind_ok,if_neg (by simpa using z)];rfl
 obtain ⟨s6,ys,p5,L6,x6,n6⟩:=s5';have s7':∃ s7 zs,xA E s6=.ok (.nx E) s7/\LS s l s7 zs/\(∀ y∈zs,0<=y/\y<=M)/\zs.length=n:=by
  have t:tOf (eOp dEq (zc 5) (eC (.int 1))) E s6=.ok (decide (way=1)) s6:=vM (by rw [op2 (x:=.int way) (y:=.int 1) (vr rfl) rfl,z2S]);by_cases z:way=1
  ·have hra:to.toNat<ys.length:=by omega
   have ix:=zdK (d:=.int ys[to.toNat]) L6.at_ a5 (by simp [hra]);have my:=x6 ys[to.toNat] (List.getElem_mem hra);refine ⟨_,_,?_,L6.set hl (ys.set at_.toNat ys[to.toNat]),z8I x6 my,by simp [n6]⟩;rw [xA,z1U,t,R.bind_ok,if_pos (by simpa using z),uU];exact z32 (s1:=s6) (s2:=s6) (x:=ys[to.toNat]) (by rw [op2 (x:=.loc s.length) (y:=.int to) (vr rfl) (vr rfl)];exact ix) (vr rfl) (vr rfl) L6.at_ a4 (by omega)
  ·refine ⟨s6,ys,?_,L6,x6,n6⟩;rw [xA,z1U,t,R.bind_ok,if_neg (by simpa using z)];rfl
 obtain ⟨s7,zs,p7,L7,x7,n7⟩:=s7';have ne7:zs≠[]:=fun z=>by rw [z] at n7;simp at n7;omega
 have s9':∃ s9 ws,xt E s7=.ok (.nx E) s9/\LS s l s9 ws/\(∀ y∈ws,0<=y/\y<=M)/\ws.length=n/\∃ x∈ws,0<x:=by
  have t:=zcQ (f:=zc 4) (ρ:=E) ne7 L7.at_ (vr rfl);by_cases z:maxL zs=0
  ·obtain ⟨ra,sa,ea,aa,ba,da⟩:=jl (ρ:=E) (f:=zc 0) (g:=eOp z9D (zc 3) (eC (.int 1))) (far:=far-1) L7.pot (by omega) (Int.lt_trans (by omega:far-1<T39) t39) (vr rfl) (by rw [op2 (x:=.int far) (y:=.int 1) (vr rfl) rfl];rfl);have La:=L7.drawn hl da;refine ⟨_,_,?_,La.set hl (zs.set to.toNat (1+ra)),z8I x7 (by omega),by simp [n7],1+ra,List.mem_set (by omega) _,by omega⟩;rw [xt,z1U,t,R.bind_ok,if_pos (by simpa using z),uG];exact z32 (s1:=sa) (s2:=sa) (x:=1+ra) (by rw [xf,jU,R.bind_ok,ea];rfl) (vr rfl) (vr rfl) La.at_ a5 (by omega)
  ·refine ⟨s7,zs,?_,L7,x7,n7,z7p ne7 (fun y hy=>(x7 y hy).1) z⟩;rw [xt,z1U,t,R.bind_ok,if_neg (by simpa using z)];rfl
 obtain ⟨s9,ws,p9,L9,x9,n9,w9⟩:=s9';refine ⟨ws,s9.take s.length,?_,⟨hsz,n9,fun x hx=>(x9 x hx).1,w9⟩,fun x hx=>(x9 x hx).2,L9.fin hl⟩
 ·simp only [yV,z5x,Mof,qE,st,List.length_cons,List.length_nil,if_true];rw [zi p1,zi p2,zi p3,zi p4,zi p5,zi p7,zi p9];have c:uK [.loc s.length] s9=.ok (rD ws) s9:=by simp only [uK,zP,L9.at_]
  rw [uD,ym,xJ (x:=.loc s.length) (vr rfl),c];simp only [R.bind_ok];exact zaa
end Pp
namespace Pr
open PySem.Spec L2 Dd Pm Pg Pn Po Pp
theorem z9v {n:Nat} {v:List Int} (h:Lot n v) (s:Sto):ya [rD v] s=.ok (.bl (ended v)) s:=by
 have l4:=h.le4;have key:∀ d:D,d=rD v->ya [d] s=.ok (.bl (ended v)) s:=fun d hd=>by
  have st:zx ["_law_lot_here"] [d]=[some d]:=rfl;have c:=xr (s:=s) (ρ:=[some d]) (fi:=yn (zc 0)) (mp:=[none]) (fg:=wv 0) (ft:=tOf (eOp dGt (zc 0) (eC (.int 0)))) (fe:=zc 0) D.int D.int (fun x=>decide (0<x)) (fun x=>[some (.int x)]) v (z2M (by rw [vr (d:=d) rfl,hd])) (fun a _=>by simp) (fun a _=>by simp) (fun a _ _=>by simp) (by simp [cap];omega);rw [zbz h.nn] at c;have h2:(nz v).length≠0:=fun z=>h.nzne (List.length_eq_zero_iff.mp z);have lb:decide (((nz v).length:Int)<2)=ended v:=by
   unfold ended;by_cases e:(nz v).length=1;·simp [e]
   ·have:¬ ((nz v).length:Int)<2:=by omega
    simp [e,this]
  simp only [ya,Mof,uz,st,List.length_cons,List.length_nil,if_true,vU,ym,xf,xJ c,xI,zP,R.bind_ok,jU,zeY,List.length_map,lb]
 exact key _ rfl
theorem zei(v:List Int)(h:v.length<=cap):smD 2 (rD v)=true:=by
 simp only [smD,Bool.and_eq_true,List.all_eq_true,decide_eq_true_eq];refine ⟨fun x hx=>?_,by simpa using h⟩;obtain ⟨i,_,rfl⟩:=List.mem_map.mp hx;rfl
theorem z8L {F:List (List Int)} {l:Nat} {s:Sto} (hs:s[l]? = some (F.map rD)) (hl:F.length<=cap) (h:∀ v∈F,v.length<=cap):xY [.loc l,.lst (F.map rD)] s=.ok (.bl true) s:=by
 have hm:∀ x∈F.map rD,zF 3 [x,x] s=.ok (.bl true) s:=fun x hx=>by
  obtain ⟨v,hv,rfl⟩:=List.mem_map.mp hx;exact z5y 2 _ s (zei v (h v hv))
 have key:∀ (xs:List D),s[l]? = some xs->xs.length<=cap->(∀ x∈xs,zF 3 [x,x] s=.ok (.bl true) s)->zF 4 [.loc l,.lst xs] s=.ok (.bl true) s:=fun xs hs hl hm=>by
  generalize hMr:zF 3=Mr at hm;have e4:zF 4=Mof ["_law_found","_law_due"] 2 (zE Mr):=by rw [<- hMr];rfl
  rw [e4];have st:zx ["_law_found","_law_due"] [D.loc l,D.lst xs]=[some (.loc l),some (.lst xs)]:=rfl;have cp:=z0H (G:=[(l,xs)]) (fi:=z7H (za (zc 0) (za (zc 1) zj))) (mp:=[none,none]) (fg:=xP 0 1) (fe:=zf Mr (za (zc 0) (za (zc 1) zj))) (ρ:=[some (.loc l),some (.lst xs)]) (s:=s) (fun x=>D.tup [x,x]) (fun _=>D.bl true) (fun x=>[some x,some x]) xs (by simp [z2Q,hs,z3d]) (by
    intro p hp;simp only [List.mem_singleton] at hp;subst hp;exact hs) (fun x _=>by simp) (fun x hx=>by rw [call2 (x:=x) (y:=x) (by simp) (by simp)];exact hm x hx) hl;have ga:zf z7K (za (zT (z7H (za (zc 0) (za (zc 1) zj))) [none,none] (xP 0 1) vc (zf Mr (za (zc 0) (za (zc 1) zj)))) zj) [some (.loc l),some (.lst xs)] s=.ok (.bl true) s:=by
   rw [xJ cp];exact z2I s (by intro x hx;obtain ⟨_,_,rfl⟩:=List.mem_map.mp hx;rfl)
  simp only [Mof,zE,st,List.length_cons,List.length_nil,if_true];have e1:zf xI (za (zc 0) zj) [some (.loc l),some (.lst xs)] s=.ok (.int xs.length) s:=by simp [xI,zP,hs]
  have e2:zf xI (za (zc 1) zj) [some (.loc l),some (.lst xs)] s=.ok (.int xs.length) s:=by simp [xI,zP]
  have f1:wD Mr [some (.loc l),some (.lst xs)] s=.ok (.nx [some (.loc l),some (.lst xs)]) s:=by simp [dIs]
  have f3:wA Mr [some (.loc l),some (.lst xs)] s=.ok (.nx [some (.loc l),some (.lst xs)]) s:=by simp [gIs,tyD,isT]
  have f5:wB Mr [some (.loc l),some (.lst xs)] s=.ok (.nx [some (.loc l),some (.lst xs)]) s:=by simp [gIs,tyD,isT]
  have f7:wx Mr [some (.loc l),some (.lst xs)] s=.ok (.nx [some (.loc l),some (.lst xs)]) s:=by simp [gIs,tyD,isT]
  have f9:wq Mr [some (.loc l),some (.lst xs)] s=.ok (.nx [some (.loc l),some (.lst xs)]) s:=by simp [gIs,tyD,isT]
  have f11:yt Mr [some (.loc l),some (.lst xs)] s=.ok (.rt (.bl true)) s:=by
   rw [yt,ym,z4c,op2 e1 e2,z2S];simp only [R.bind_ok,decide_true];rw [ga];rfl
  rw [zi f1,zi f3,zi f5,zi f7,zi f9,f11]
 exact key _ hs (by simpa using hl) hm
def zhS:List Rl:=[.nx,.le,.al,.tu]
theorem z9J(s:Sto):yN [] s=.ok (.lst (zhS.map fun r=>D.str (nmR r))) s:=by
 have c4:(4:Nat)<=cap:=by decide
 have st:zx [] []=[]:=rfl;simp only [yN,Mof,uE,st,List.length_nil,if_true,vZ,ym,vS,zm,zB,jU,R.bind_ok,List.length_cons,Nat.zero_add,Nat.reduceAdd,if_pos c4];rfl
theorem zfc(n:Nat)(b:Nat):∃ k:Nat,(if (if ((b:Nat):Int)<(n:Int) then ((b:Nat):Int) else n) > 1 then (if ((b:Nat):Int)<(n:Int) then ((b:Nat):Int) else n) else 1)=(k:Int)/\k<=b+1:=by
 by_cases h:((b:Nat):Int)<n
 ·rw [if_pos h];by_cases h2:((b:Nat):Int) > 1;·exact ⟨b,by rw [if_pos h2],by omega⟩
  ·exact ⟨1,by rw [if_neg h2];rfl,by omega⟩
 ·rw [if_neg h];by_cases h2:((n:Nat):Int) > 1;·exact ⟨n,by rw [if_pos h2],by omega⟩
  ·exact ⟨1,by rw [if_neg h2];rfl,by omega⟩
end Pr
namespace K71
open PySem.Spec L2 Dd Pm Pg Pn Po Pr Pp
def uV(m:Nat):List Int:=(List.range (m+1)).map fun k:Nat=>((k:Nat):Int)
theorem z6G{m:Nat}{x:Int}:x∈uV m ↔ 0<=x/\x<=m:=by
 unfold uV;rw [List.mem_map];constructor
 ·rintro ⟨k,hk,rfl⟩;rw [List.mem_range] at hk;omega
 ·rintro ⟨h0,h1⟩;exact ⟨x.toNat,by rw [List.mem_range];omega,by omega⟩
theorem zde(m:Nat):(uV m).Pairwise (· < ·):=by
 unfold uV;rw [List.pairwise_map];exact List.pairwise_lt_range.imp fun {a b} h=>by omega
def je(n m:Nat):List (List Int):=yU (List.replicate n (uV m))
theorem z4O(n m:Nat):je (n+1) m=z1B (je n m) (uV m):=by
 unfold je;rw [List.replicate_succ',wO]
theorem z6w {n m:Nat}:(je n m).length<=(m+1) ^ n:=by
 have:=z0A (List.replicate n (uV m)) (k:=m+1) fun c hc=>by rw [List.eq_of_mem_replicate hc];simp [uV]
 simpa [je] using this
theorem z8U(n m:Nat):Up (je n m):=z6c _ fun c hc=>by rw [List.eq_of_mem_replicate hc];exact zde m
theorem z2G{n m:Nat}{v:List Int}:v∈je n m ↔ v.length=n/\∀ x∈v,0<=x/\x<=m:=by
 unfold je;rw [uP,List.length_replicate];constructor
 ·rintro ⟨h1,h2⟩;refine ⟨h1,fun x hx=>?_⟩;obtain ⟨i,hi,rfl⟩:=List.mem_iff_getElem.mp hx;have:=h2 i (by omega);rw [show v.getD i 0=v[i] by simp [List.getD_eq_getElem?_getD,hi],show (List.replicate n (uV m)).getD i []=uV m by simp [List.getD_eq_getElem?_getD,show i<n by omega]] at this;exact z6G.mp this
 ·rintro ⟨h1,h2⟩;refine ⟨h1,fun i hi=>?_⟩;rw [show (List.replicate n (uV m)).getD i []=uV m by simp [List.getD_eq_getElem?_getD,hi]];exact z6G.mpr (h2 _ (Pm.getD_mem (by omega)))
theorem z4e(m:Nat):∀ n,∃ t,je n m=List.replicate n 0::t
 | 0=>⟨[],rfl⟩ | n+1=>by
  obtain ⟨t,e⟩:=z4e m n;rw [z4O,e,z1B,List.flatMap_cons];have:uV m=0::(uV m).tail:=by unfold uV;rw [List.range_succ_eq_map];rfl
  rw [this,List.map_cons,List.cons_append,List.replicate_succ'];exact ⟨_,rfl⟩
def every(n m:Nat):List (List Int):=(je n m).drop 1
theorem z5V(n m:Nat):Up (every n m):=(z8U n m).sublist (List.drop_sublist _ _)
theorem z4x{n m:Nat}(hn:Sz n){v:List Int}:v∈every n m ↔ Lot n v/\∀ x∈v,x<=m:=by
 obtain ⟨t,e⟩:=z4e m n;have up:=(List.pairwise_cons.mp (e ▸ z8U n m)).1;have et:every n m=t:=by unfold every;rw [e];rfl
 rw [et];constructor
 ·intro h;have h1:v∈je n m:=by rw [e];exact .tail _ h
  obtain ⟨l,b⟩:=z2G.mp h1;refine ⟨⟨hn,l,fun x hx=>(b x hx).1,?_⟩,fun x hx=>(b x hx).2⟩;refine Classical.byContradiction fun z=>?_;have ez:v=List.replicate n 0:=by
   rw [List.eq_replicate_iff];refine ⟨l,fun x hx=>?_⟩;have:=(b x hx).1;refine Classical.byContradiction fun q=>z ⟨x,hx,by omega⟩
  have:=up v h;rw [ez,qA] at this;cases this
 ·rintro ⟨h,b⟩;have h1:v∈je n m:=z2G.mpr ⟨h.len,fun x hx=>⟨h.nn x hx,b x hx⟩⟩;rw [e] at h1;rcases List.mem_cons.mp h1 with z | z
  ·obtain ⟨x,hx,p⟩:=h.pos;rw [z] at hx;rw [List.eq_of_mem_replicate hx] at p;omega
  ·exact z
theorem z5n{G:List (Nat×List D)}{all:List D}{body:D->Ev->Sto->R Fl}(I:Nat->Ev->Sto->Prop)(og:∀ k ρ s,I k ρ s->okG G all s):∀ (xs:List D)(k:Nat),(∀ j x,xs[j]? = some x->∀ ρ s,I (k+j) ρ s->∃ ρ' s',body x ρ s=.ok (.nx ρ') s'/\I (k+j+1) ρ' s')-> ∀ ρ s,I k ρ s->∃ ρ' s',vX G all body xs ρ s=.ok (.nx ρ') s'/\I (k+xs.length) ρ' s'
 | [],k,_,ρ,s,h=>⟨ρ,s,by simp [vX,og k ρ s h],h⟩ | x::xs,k,hb,ρ,s,h=>by
  obtain ⟨ρ1,s1,e1,h1⟩:=hb 0 x (by simp) ρ s h;obtain ⟨ρ2,s2,e2,h2⟩:=z5n (all:=all) I og xs (k+1) (fun j y hy ρ s hi=>by
   have e:k+1+j=k+(j+1):=by omega
   rw [e] at hi ⊢;exact hb (j+1) y (by simpa using hy) ρ s hi) ρ1 s1 h1;refine ⟨ρ2,s2,by rw [vX,if_pos (og k ρ s h),e1,R.bind_ok];exact e2,?_⟩;have e:k+(x::xs).length=k+1+xs.length:=by simp;omega
  rw [e];exact h2
abbrev E6(a0 a1 a2 a3 a4 a5:Option D):Ev:=[a0,a1,a2,a3,a4,a5]
theorem zf3 {n m:Nat} {a:List Int} (ha:a.length<=4) (hm:m<=30) {acc:List (List Int)} (hl:acc.length+(m+1)<=2401) (S:Sto) (a0 a2 a3:Option D): xX (E6 a0 (some (.int ((m:Nat):Int))) a2 a3 (some (.loc S.length)) (some (rD a))) (S++[acc.map rD])=.ok (.nx (E6 a0 (some (.int ((m:Nat):Int))) a2 a3 (some (.loc S.length)) (some (rD a)))) (S++[(acc++(uV m).map fun g=>a++[g]).map rD]):=by
 have c:=comp_map (s:=S++[acc.map rD]) (ρ:=E6 a0 (some (.int ((m:Nat):Int))) a2 a3 (some (.loc S.length)) (some (rD a))) (fi:=z1g (za (eOp wl (zc 1) (eC (.int 1))) zj)) (mp:=[some 5,none]) (fg:=wv 1) (fe:=eOp wl (zc 0) (uN (za (zc 1) zj))) (fun k:Nat=>D.int ((k:Nat):Int)) (fun k=>rD (a++[((k:Nat):Int)])) (fun k=>[some (rD a),some (.int ((k:Nat):Int))]) (List.range (m+1)) (qa (n:=m+1) (by omega) (by rw [zm,op2 (x:=.int ((m:Nat):Int)) (y:=.int 1) (vr rfl) rfl,kX,R.bind_ok,zB];simp)) (fun k _=>rfl) (fun k _=>by
   rw [op2 (x:=rD a) (y:=rD [((k:Nat):Int)]) (vr rfl) (by
    rw [va,zm,vr (d:=.int ((k:Nat):Int)) rfl,R.bind_ok,zB];simp [cap]),kO,if_pos (by simp [cap];omega)];simp) (by simp [cap];omega);have ec:(List.range (m+1)).map (fun k:Nat=>rD (a++[((k:Nat):Int)]))=((uV m).map fun g=>a++[g]).map rD:=by simp [uV,Function.comp_def]
 have ln:((uV m).map fun g=>a++[g]).length=m+1:=by simp [uV]
 have fl:=jH ((uV m).map fun g=>a++[g]);rw [ec] at c;rw [List.map_append];have ln2:(((uV m).map fun g=>a++[g]).map rD).length=m+1:=by simpa using ln
 have ln3:(acc.map rD).length=acc.length:=by simp
 generalize ((uV m).map fun g=>a++[g]).map rD=Yy at *;generalize acc.map rD=X at *;generalize rD a=d at *;rw [xX,qS,zeT,vr (d:=.loc S.length) rfl,R.bind_ok];simp only;rw [c,R.bind_ok];simp only;have gt:(S++[X])[S.length]? = some X:=by simp
 rw [gt];simp only;rw [if_pos ⟨fl,by simp [cap];omega⟩,z5E];rfl
theorem zbF {n m:Nat} (S:Sm n m) (hn:Sz n) (s:Sto):xk [.int ((n:Nat):Int),.int ((m:Nat):Int)] s=.ok (.lst ((every n m).map rD)) s:=by
 have hm:=S.hi;have flE:(D.lst ((every n m).map rD)).flat=true:=by
  have:=jH (every n m);generalize (every n m).map rD=X at this;exact this
 have st:zx ["_law_size","_law_most","_law_found","_law_place","_law_longer","_law_begun"] [.int ((n:Nat):Int),.int ((m:Nat):Int)]=E6 (some (.int ((n:Nat):Int))) (some (.int ((m:Nat):Int))) none none none none:=rfl;have f1:vP (E6 (some (.int ((n:Nat):Int))) (some (.int ((m:Nat):Int))) none none none none) s=.ok (.nx (E6 (some (.int ((n:Nat):Int))) (some (.int ((m:Nat):Int))) (some (.lst [rD []])) none none none)) s:=by
  rw [vP,ye,vS,zm,va,zB];simp [cap]
 obtain ⟨ρ',S',lp,fd,a3,a4,a5,hρ,h1,h2,h3⟩:=jr (all:=(List.range n).map fun k:Nat=>D.int ((k:Nat):Int)) (body:=fun x ρ s=>(wv 3 x ρ s).bind fun ρ' s'=>(zH yZ (zH yX vG)) ρ' s') (fun i ρ S'=>∃ fd a3 a4 a5,ρ=E6 (some (.int ((n:Nat):Int))) (some (.int ((m:Nat):Int))) (some fd) a3 a4 a5/\S'.take s.length=s/\s.length<=S'.length/\((i=0/\fd=.lst [rD []])\/∃ j,fd=.loc j/\j<S'.length/\S'[j]? = some ((je i m).map rD))) ((List.range n).map fun k:Nat=>D.int ((k:Nat):Int)) 0 (by
   intro i x hx ρ S1 ⟨fd,a3,a4,a5,hρ,h1,h2,h3⟩;subst hρ;rw [Nat.zero_add] at h3 ⊢;have hi:i<n:=by have:=(List.getElem?_eq_some_iff.mp hx).1;simpa using this
   have g3:yZ (E6 (some (.int ((n:Nat):Int))) (some (.int ((m:Nat):Int))) (some fd) (some x) a4 a5) S1=.ok (.nx (E6 (some (.int ((n:Nat):Int))) (some (.int ((m:Nat):Int))) (some fd) (some x) (some (.loc S1.length)) a5)) (S1++[(z1B [] (uV m)).map rD]):=by
    rw [yZ,ye,z63,zB,R.bind_ok,if_pos ⟨by simp,rfl⟩];rfl
   obtain ⟨GG,hI,hG⟩:∃ GG,(∀ (T:Sto) (ρ:Ev),ρ[2]? = some (some fd)->yn (zc 2) ρ (S1++T)=.ok ((je i m).map rD,GG) (S1++T))/\∀ T:Sto,okG GG ((je i m).map rD) (S1++T):=by
    rcases h3 with ⟨rfl,rfl⟩ | ⟨j,rfl,hj,gj⟩;·exact ⟨[],fun T ρ hρ=>xc (by rw [vr hρ];rfl),fun T p hp=>by simp at hp⟩
    ·have gT:∀ T:Sto,(S1++T)[j]? = some ((je i m).map rD):=fun T=>by rw [List.getElem?_append_left hj];exact gj
     refine ⟨[(j,(je i m).map rD)],fun T ρ hρ=>?_,fun T p hp=>?_⟩
     ·rw [z5G,vr hρ,R.bind_ok];simp only [gT]
     ·simp only [List.mem_singleton] at hp;subst hp;exact gT T
   have al:=z6w (n:=i) (m:=m);have gl:∀ L:List (List Int),(z1B L (uV m)).length=L.length*(m+1):=fun L=>by
    unfold z1B;rw [List.length_flatMap];simp [uV];induction L with
    | nil=>simp | cons a l ih=>simp [ih,Nat.add_mul,Nat.add_comm]
   have tot:(je i m).length*(m+1)<=2401:=by
    have h5:(m+1) ^ i*(m+1)<=(m+1) ^ n:=by rw [<- Nat.pow_succ];exact Nat.pow_le_pow_right (by omega) (by omega)
    have:=Nat.mul_le_mul_right (m+1) al;have:=S.pw;omega
   obtain ⟨ρ2,S2,lp2,b5,hρ2,hS2⟩:=z5n (G:=GG) (all:=(je i m).map rD) (body:=fun x ρ s=>(wv 5 x ρ s).bind fun ρ' s'=>xX ρ' s') (fun k ρ S2=>∃ b5,ρ=E6 (some (.int ((n:Nat):Int))) (some (.int ((m:Nat):Int))) (some fd) (some x) (some (.loc S1.length)) b5/\S2=S1++[(z1B ((je i m).take k) (uV m)).map rD]) (fun k ρ S2 hk=>by
    obtain ⟨b5,_,rfl⟩:=hk;exact hG _) ((je i m).map rD) 0 (by
    intro k y hy ρ S2 ⟨b5,hρ,hS⟩;subst hρ hS;rw [Nat.zero_add];rw [List.getElem?_map,Option.map_eq_some_iff] at hy;obtain ⟨a,ha,rfl⟩:=hy;have hk:k<(je i m).length:=(List.getElem?_eq_some_iff.mp ha).1;have la:=(z2G.mp (List.mem_of_getElem? ha)).1;have ts:(je i m).take (k+1)=(je i m).take k++[a]:=by rw [List.take_add_one,ha];rfl
    have eg:z1B ((je i m).take (k+1)) (uV m)=z1B ((je i m).take k) (uV m)++(uV m).map fun g=>a++[g]:=by rw [ts];simp [z1B]
    have lk:(z1B ((je i m).take k) (uV m)).length+(m+1)<=2401:=by
     rw [gl,List.length_take,Nat.min_eq_left (by omega),<- Nat.succ_mul];exact Nat.le_trans (Nat.mul_le_mul_right _ hk) tot
    have t:=zf3 (n:=n) (a:=a) (by have:=hn;unfold Sz at this;omega) hm lk S1 (some (.int ((n:Nat):Int))) (some fd) (some x);rw [<- eg] at t;refine ⟨E6 (some (.int ((n:Nat):Int))) (some (.int ((m:Nat):Int))) (some fd) (some x) (some (.loc S1.length)) (some (rD a)),S1++[(z1B ((je i m).take (k+1)) (uV m)).map rD],?_,some (rD a),rfl,rfl⟩;rw [zbB,R.bind_ok];exact t) (E6 (some (.int ((n:Nat):Int))) (some (.int ((m:Nat):Int))) (some fd) (some x) (some (.loc S1.length)) a5) (S1++[(z1B [] (uV m)).map rD]) ⟨_,rfl,by simp⟩;rw [Nat.zero_add,List.length_map,List.take_length,<- z4O] at hS2;refine ⟨E6 (some (.int ((n:Nat):Int))) (some (.int ((m:Nat):Int))) (some (.loc S1.length)) (some x) (some (.loc S1.length)) b5,S2,?_,_,_,_,_,rfl,?_,?_,.inr ⟨S1.length,rfl,by rw [hS2];simp,by rw [hS2];simp⟩⟩
   ·have g4:yX (E6 (some (.int ((n:Nat):Int))) (some (.int ((m:Nat):Int))) (some fd) (some x) (some (.loc S1.length)) a5) (S1++[(z1B [] (uV m)).map rD])=.ok (.nx ρ2) S2:=by
     rw [yX,kI,hI _ _ rfl,R.bind_ok];exact lp2
    show (zH yZ (zH yX vG)) (E6 (some (.int ((n:Nat):Int))) (some (.int ((m:Nat):Int))) (some fd) (some x) a4 a5) S1=_;rw [zi g3,zi g4,hρ2];rfl
   ·rw [hS2,List.take_append_of_le_length h2,h1]
   ·rw [hS2];simp;omega) (E6 (some (.int ((n:Nat):Int))) (some (.int ((m:Nat):Int))) (some (.lst [rD []])) none none none) s ⟨_,_,_,_,rfl,by simp,by omega,.inl ⟨rfl,rfl⟩⟩;rw [Nat.zero_add,List.length_map,List.length_range] at h3;have n1:n≠0:=by unfold Sz at hn;omega
 obtain ⟨j,rfl,hj,gj⟩:=h3.resolve_left fun z=>n1 z.1;have f7:vH ρ' S'=.ok (.rt (.lst ((every n m).map rD))) S':=by
  have sl:dSl (.loc j) (some ((1:Nat):Int)) none S'=.ok (.lst ((every n m).map rD)) S':=by
   have e:=kr ((je n m).map rD) 1 S';have e2:Dd.cutD ((je n m).map rD) (some ((1:Nat):Int)) none=((je n m).map rD).drop 1:=by simpa [dSl] using e
   simp only [dSl,Dd.listOf,gj,e2];rw [every,List.map_drop]
  rw [hρ,vH,ym,z1N,vr (d:=.loc j) rfl,R.bind_ok];simp only [vL,jU,yY,R.bind_ok];rw [show (1:Int)=((1:Nat):Int) from rfl,sl];rfl
 simp only [xk,z5x,Mof,jN,st,List.length_cons,List.length_nil,if_true];rw [zi f1,zi (ρ':=ρ') (s':=S') (by
  rw [qN,kI,qa (n:=n) (s1:=s) (by unfold Sz at hn;omega) (by rw [zm,vr (d:=.int ((n:Nat):Int)) rfl,R.bind_ok,zB];rfl),R.bind_ok];exact lp),f7];have fin:∀ d:D,d.flat=true->z52 s.length (.ok d S')=.ok d s:=fun d hd=>by rw [kc hd,h1]
 exact fin _ flE
abbrev Z(a0 a1 a2 a3 a4 a5 a6 a7 a8 a9 a10 a11:Option D):Ev:=[a0,a1,a2,a3,a4,a5,a6,a7,a8,a9,a10,a11]
def evs(n m:Nat):List (List Int):=(every n m).filter fun v=>!ended v
def due(n m:Nat)(r:Rl)(g:List Int):List (List Int):=(evs n m).filter fun v=>decide (stp r v=g)
theorem z3Y {n m:Nat} (S:Sm n m):(every n m).length<=2401:=by
 have h1:=z6w (n:=n) (m:=m);have h2:=S.pw;unfold every;rw [List.length_drop];omega
theorem z7R{n m:Nat}(S:Sm n m):(evs n m).length<=2401:=Nat.le_trans (List.length_filter_le _ _) (z3Y S)
theorem z0U{n m:Nat}(hn:Sz n){v:List Int}:v∈evs n m ↔ Lot n v/\(∀ x∈v,x<=((m:Nat):Int))/\ended v=false:=by
 unfold evs;rw [List.mem_filter,z4x hn];simp [and_assoc]
theorem z6Q {n m:Nat} (S:Sm n m) (hn:Sz n) {v:List Int} (h:v∈evs n m):z4R n 10 v/\ended v=false:=by
 obtain ⟨h1,h2,h3⟩:=(z0U hn).mp h;exact ⟨Lot.small h1 (m:=m) (by have:=S.hi;omega) (h2 _ (maxL_mem h1.ne)),h3⟩
structure Gl1(n:Nat)(g:List Int):Prop where
 lot:Lot n g
 le:∀ x∈g,x<=1000
abbrev zdv:D->Ev->Sto->R Fl:=fun d ρ s=>(wv 10 d ρ s).bind fun ρ' s'=>(zH jw (zH jC z0u)) ρ' s'
abbrev zen:D->Ev->Sto->R Fl:=fun d ρ s=>(wv 8 d ρ s).bind fun ρ' s'=>(zH jS z0i) ρ' s'
abbrev zcV:D->Ev->Sto->R Fl:=fun d ρ s=>(wv 1 d ρ s).bind fun ρ' s'=>(zH z0y (zH z1d (zH z14 (zH z0F (zH z0G (zH z1j (zH kq jB))))))) ρ' s'
section
variable {n m:Nat}(S:Sm n m)(hn:Sz n)(r:Rl){a0 a1 a2 a3 a6 a7:Option D}
include S hn
theorem zcf {g:List Int} (hg:Gl1 n g) (x:D) (a10 a11:Option D) (s:Sto):∃ a11' s',zdv x (Z a0 a1 a2 a3 (some (.int ((m:Nat):Int))) (some (.str (nmR r))) a6 a7 (some (rD g)) (some (.lst ((due n m r g).map rD))) a10 a11) s=.ok (.nx (Z a0 a1 a2 a3 (some (.int ((m:Nat):Int))) (some (.str (nmR r))) a6 a7 (some (rD g)) (some (.lst ((due n m r g).map rD))) (some x) a11')) s'/\s.length<=s'.length/\∀ k,k<s.length->s'[k]? = s[k]? := by
 obtain ⟨t,G,e,up,mem,gl⟩:=z3G hg.lot S hg.le r s;have eG:G=due n m r g:=by
  refine z9c up ?_ fun v=>?_;·exact ((z5V n m).filter _).filter _
  ·rw [mem,due,List.mem_filter,z0U hn];simp only [decide_eq_true_eq,and_assoc]
 rw [eG] at e gl;have hrow:∀ v∈due n m r g,v.length<=cap:=fun v hv=>by
  have l4:=(((z0U hn).mp (List.mem_filter.mp hv).1).1).le4;simp [cap];omega
 have gS:(s++[t]++[(due n m r g).map rD])[s.length+1]? = some ((due n m r g).map rD):=by rw [List.getElem?_append_right (by simp)];simp
 have sm:=z8L gS (by simp [cap];omega) hrow;have ln:((due n m r g).map rD).length<cap:=by simp [cap];omega
 have old:∀ k,k<s.length->(s++[t]++[(due n m r g).map rD])[k]? = s[k]? := fun k hk=>by rw [List.append_assoc,List.getElem?_append_left hk]
 have len:(s++[t]++[(due n m r g).map rD]).length=s.length+2:=by simp
 generalize (due n m r g).map rD=X at *;generalize s++[t]++[X]=S2 at *;generalize rD g=gd at *;have f13:jw (Z a0 a1 a2 a3 (some (.int ((m:Nat):Int))) (some (.str (nmR r))) a6 a7 (some gd) (some (.lst X)) (some x) a11) s=.ok (.nx (Z a0 a1 a2 a3 (some (.int ((m:Nat):Int))) (some (.str (nmR r))) a6 a7 (some gd) (some (.lst X)) (some x) (some (.loc (s.length+1))))) S2:=by
  rw [jw,ye,z0a (x:=.str (nmR r)) (y:=gd) (z:=.int ((m:Nat):Int)) (vr rfl) (vr rfl) (vr rfl),e];rfl
 have f14:jC (Z a0 a1 a2 a3 (some (.int ((m:Nat):Int))) (some (.str (nmR r))) a6 a7 (some gd) (some (.lst X)) (some x) (some (.loc (s.length+1)))) S2=.ok (.nx (Z a0 a1 a2 a3 (some (.int ((m:Nat):Int))) (some (.str (nmR r))) a6 a7 (some gd) (some (.lst X)) (some x) (some (.loc (s.length+1))))) S2:=by
  rw [jC,z7o (by rw [z8i,vM (b:=true) (by rw [call2 (x:=.loc (s.length+1)) (y:=.lst X) (vr rfl) (vr rfl)];exact sm),R.bind_ok];rfl)];rfl
 refine ⟨some (.loc (s.length+1)),S2.set (s.length+1) (X++[.tup []]),?_,by rw [List.length_set];omega,fun k hk=>by rw [List.getElem?_set_ne (by omega)];exact old k hk⟩;show (zH jw (zH jC z0u)) (Z a0 a1 a2 a3 (some (.int ((m:Nat):Int))) (some (.str (nmR r))) a6 a7 (some gd) (some (.lst X)) (some x) a11) s=_;rw [zi f13,zi f14,z0u,qS,z5T,vr (d:=.loc (s.length+1)) rfl,R.bind_ok,va,zB];simp only [R.bind_ok];rw [if_pos (by simp [cap])];simp only [R.bind_ok];rw [gS];simp only;rw [if_pos ⟨rfl,ln⟩];rfl
theorem zbI {g:List Int} (hg:Gl1 n g) (a8 a9 a10 a11:Option D) (s:Sto):∃ a9' a10' a11' s',zen (rD g) (Z a0 a1 a2 a3 (some (.int ((m:Nat):Int))) (some (.str (nmR r))) (some (.lst ((evs n m).map rD))) a7 a8 a9 a10 a11) s=.ok (.nx (Z a0 a1 a2 a3 (some (.int ((m:Nat):Int))) (some (.str (nmR r))) (some (.lst ((evs n m).map rD))) a7 (some (rD g)) a9' a10' a11')) s'/\s.length<=s'.length/\∀ k,k<s.length->s'[k]? = s[k]? := by
 have el:=z7R S;have c:=xr (s:=s) (ρ:=Z a0 a1 a2 a3 (some (.int ((m:Nat):Int))) (some (.str (nmR r))) (some (.lst ((evs n m).map rD))) a7 (some (rD g)) a9 a10 a11) (fi:=yn (zc 6)) (mp:=[some 8,some 5,none]) (fg:=wv 2) (ft:=tOf (eOp dEq (eOp dIx (zf Pg.zJ (za (zc 1) (za (zc 2) zj))) (eC (.int 0))) (zc 0))) (fe:=zc 2) rD rD (fun v=>decide (stp r v=g)) (fun v=>[some (rD g),some (.str (nmR r)),some (rD v)]) (evs n m) (xc (vr rfl)) (fun v _=>rfl) (fun v hv=>by
   obtain ⟨lb,he⟩:=z6Q S hn hv;refine vM ?_;rw [op2 (x:=rD (stp r v)) (y:=rD g) (by
    rw [op2 (x:=.tup [rD (stp r v),tD (zcc r v)]) (y:=.int 0) (by rw [call2 (x:=.str (nmR r)) (y:=rD v) (vr rfl) (vr rfl)];exact z6j r lb he (by decide) s) rfl];rfl) (vr rfl),z9t]) (fun v _ _=>vr rfl) (by simp [cap];omega);have f11:jS (Z a0 a1 a2 a3 (some (.int ((m:Nat):Int))) (some (.str (nmR r))) (some (.lst ((evs n m).map rD))) a7 (some (rD g)) a9 a10 a11) s=.ok (.nx (Z a0 a1 a2 a3 (some (.int ((m:Nat):Int))) (some (.str (nmR r))) (some (.lst ((evs n m).map rD))) a7 (some (rD g)) (some (.lst ((due n m r g).map rD))) a10 a11)) s:=by
  rw [jS,ye,c];rfl
 obtain ⟨ρ',s',e,b10,b11,hρ,h1,h2⟩:=z3e (all:=yO 2) (body:=zdv) (fun ρ s'=>∃ a10 a11,ρ=Z a0 a1 a2 a3 (some (.int ((m:Nat):Int))) (some (.str (nmR r))) (some (.lst ((evs n m).map rD))) a7 (some (rD g)) (some (.lst ((due n m r g).map rD))) a10 a11/\s.length<=s'.length/\∀ k,k<s.length->s'[k]? = s[k]?) (yO 2) (fun x hx ρ S1 hI=>by
  obtain ⟨a10,a11,rfl,h1,h2⟩:=hI;obtain ⟨a11',s',e,h3,h4⟩:=zcf (a0:=a0) (a1:=a1) (a2:=a2) (a3:=a3) (a6:=some (.lst ((evs n m).map rD))) (a7:=a7) S hn r hg x a10 a11 S1;exact ⟨_,s',e,_,_,rfl,by omega,fun k hk=>by rw [h4 k (by omega),h2 k hk]⟩) (Z a0 a1 a2 a3 (some (.int ((m:Nat):Int))) (some (.str (nmR r))) (some (.lst ((evs n m).map rD))) a7 (some (rD g)) (some (.lst ((due n m r g).map rD))) a10 a11) s ⟨_,_,rfl,Nat.le_refl _,fun _ _=>rfl⟩;refine ⟨some (.lst ((due n m r g).map rD)),b10,b11,s',?_,h1,h2⟩;show (zH jS z0i) (Z a0 a1 a2 a3 (some (.int ((m:Nat):Int))) (some (.str (nmR r))) (some (.lst ((evs n m).map rD))) a7 (some (rD g)) a9 a10 a11) s=_;rw [zi f11,<- hρ];unfold z0i;rw [kI,qa (n:=2) (s1:=s) (by omega) (by rfl),R.bind_ok];exact e
theorem zc2 {gs:List (List Int)} (hgs:∀ g∈gs,Gl1 n g) {l:Nat} {s:Sto} (hl:s[l]? = some (gs.map rD)) (a8 a9 a10 a11:Option D):∃ b8 b9 b10 b11 s',jB (Z a0 a1 a2 a3 (some (.int ((m:Nat):Int))) (some (.str (nmR r))) (some (.lst ((evs n m).map rD))) (some (.loc l)) a8 a9 a10 a11) s=.ok (.nx (Z a0 a1 a2 a3 (some (.int ((m:Nat):Int))) (some (.str (nmR r))) (some (.lst ((evs n m).map rD))) (some (.loc l)) b8 b9 b10 b11)) s':=by
 have hls:l<s.length:=(List.getElem?_eq_some_iff.mp hl).1;obtain ⟨ρ',s',e,b8,b9,b10,b11,hρ,h1,h2⟩:=z5n (G:=[(l,gs.map rD)]) (all:=gs.map rD) (body:=zen) (fun _ ρ s'=>∃ a8 a9 a10 a11,ρ=Z a0 a1 a2 a3 (some (.int ((m:Nat):Int))) (some (.str (nmR r))) (some (.lst ((evs n m).map rD))) (some (.loc l)) a8 a9 a10 a11/\s.length<=s'.length/\∀ k,k<s.length->s'[k]? = s[k]?) (fun k ρ s' hk p hp=>by
  obtain ⟨_,_,_,_,_,h1,h2⟩:=hk;simp only [List.mem_singleton] at hp;subst hp;rw [h2 l hls,hl]) (gs.map rD) 0 (fun j x hx ρ S1 hI=>by
  obtain ⟨a8,a9,a10,a11,rfl,h1,h2⟩:=hI;rw [List.getElem?_map,Option.map_eq_some_iff] at hx;obtain ⟨g,hg,rfl⟩:=hx;obtain ⟨b9,b10,b11,s',e,h3,h4⟩:=zbI (a0:=a0) (a1:=a1) (a2:=a2) (a3:=a3) (a7:=some (.loc l)) S hn r (hgs g (List.mem_of_getElem? hg)) a8 a9 a10 a11 S1;exact ⟨_,s',e,_,_,_,_,rfl,by omega,fun k hk=>by rw [h4 k (by omega),h2 k hk]⟩) (Z a0 a1 a2 a3 (some (.int ((m:Nat):Int))) (some (.str (nmR r))) (some (.lst ((evs n m).map rD))) (some (.loc l)) a8 a9 a10 a11) s ⟨_,_,_,_,rfl,Nat.le_refl _,fun _ _=>rfl⟩;refine ⟨b8,b9,b10,b11,s',?_⟩;rw [<- hρ];unfold jB;rw [kI,z5G,vr (d:=.loc l) rfl,R.bind_ok];simp only [hl,R.bind_ok];exact e
end
theorem sizes{k:Int}(h0:0<=k)(h3:k<3)(s:Sto):∃ (n:Nat)(b:Int),2+k=((n:Nat):Int)/\Sz n/\dIx (.lst [.int 30,.int 12,.int 6]) (.int (((n:Nat):Int)-2)) s=.ok (.int b) s/\1<=b/\b<=30/\∀ m:Nat,1<=m->((m:Nat):Int)<=b->Sm n m:=by
 obtain ⟨j,rfl⟩:=Int.eq_ofNat_of_zero_le h0;have:j=0\/j=1\/j=2:=by omega
 rcases this with rfl | rfl | rfl
 ·refine ⟨2,30,rfl,.inl rfl,rfl,by decide,by decide,fun m h1 h2=>?_⟩;have hm:m<=30:=by omega
  exact ⟨Nat.le_trans (Nat.pow_le_pow_left (by omega:m+1<=31) 2) (by decide),Nat.le_trans (Nat.pow_le_pow_left (by omega:m+1<=31) 1) (by decide),by omega,h1,by omega⟩
 ·refine ⟨3,12,rfl,.inr (.inl rfl),rfl,by decide,by decide,fun m h1 h2=>?_⟩;have hm:m<=12:=by omega
  exact ⟨Nat.le_trans (Nat.pow_le_pow_left (by omega:m+1<=13) 3) (by decide),Nat.le_trans (Nat.pow_le_pow_left (by omega:m+1<=13) 2) (by decide),by omega,h1,by omega⟩
 ·refine ⟨4,6,rfl,.inr (.inr rfl),rfl,by decide,by decide,fun m h1 h2=>?_⟩;have hm:m<=6:=by omega
  exact ⟨Nat.le_trans (Nat.pow_le_pow_left (by omega:m+1<=7) 4) (by decide),Nat.le_trans (Nat.pow_le_pow_left (by omega:m+1<=7) 3) (by decide),by omega,h1,by omega⟩
theorem zbX{k:Int}(h0:0<=k)(h3:k<4)(s:Sto):∃ r,dIx (.lst (zhS.map fun r=>D.str (nmR r))) (.int k) s=.ok (.str (nmR r)) s:=by
 obtain ⟨j,rfl⟩:=Int.eq_ofNat_of_zero_le h0;have:j=0\/j=1\/j=2\/j=3:=by omega
 rcases this with rfl | rfl | rfl | rfl;·exact ⟨.nx,rfl⟩
 ·exact ⟨.le,rfl⟩
 ·exact ⟨.al,rfl⟩
 ·exact ⟨.tu,rfl⟩
theorem ne_nil(F:List (List Int))(s:Sto):dNe (.lst (F.map rD)) (.lst []) s=.ok (.bl (decide (F≠[]))) s:=by
 have o1:z3j (.lst (F.map rD))=true:=z1X (k:=2) (zbY 0 F) (by decide);have o2:z3j (.lst [])=true:=z1X (k:=1) rfl (by decide);rw [dNe,if_pos ⟨o1,o2⟩];cases F with
 | nil=>simp [eqD,xS,toPys,PyData.eqv,PyData.eqvAll] | cons a l=>simp [eqD,xS,toPys,PyData.eqv,PyData.eqvAll]
def ShL(ns:List Int)(ρ:Ev):Prop:=∃ a1 a2 a3 a4 a5 a6 a7 a8 a9 a10 a11,ρ=Z (some (.scr (iL ns))) a1 a2 a3 a4 a5 a6 a7 a8 a9 a10 a11
theorem zhE {n m:Nat} (S:Sm n m) (hn:Sz n) (a0 a1 a2 a5 a6 a7 a8 a9 a10 a11:Option D) (s:Sto):z0G (Z a0 a1 a2 (some (.int ((n:Nat):Int))) (some (.int ((m:Nat):Int))) a5 a6 a7 a8 a9 a10 a11) s=.ok (.nx (Z a0 a1 a2 (some (.int ((n:Nat):Int))) (some (.int ((m:Nat):Int))) a5 (some (.lst ((evs n m).map rD))) a7 a8 a9 a10 a11)) s:=by
 have el:=z3Y S;have c:=xr (s:=s) (ρ:=Z a0 a1 a2 (some (.int ((n:Nat):Int))) (some (.int ((m:Nat):Int))) a5 a6 a7 a8 a9 a10 a11) (fi:=yn (zf xk (za (zc 3) (za (zc 4) zj)))) (mp:=[none]) (fg:=wv 0) (ft:=z76 (tOf (zf Pg.ya (za (zc 0) zj)))) (fe:=zc 0) rD rD (fun v=>!ended v) (fun v=>[some (rD v)]) (every n m) (xc (by rw [call2 (x:=.int ((n:Nat):Int)) (y:=.int ((m:Nat):Int)) (vr rfl) (vr rfl)];exact zbF S hn s)) (fun v _=>rfl) (fun v hv=>by
   have lv:=((z4x hn).mp hv).1;rw [z8i,vM (b:=ended v) (by rw [xJ (x:=rD v) (vr rfl)];exact z9v lv s),R.bind_ok]) (fun v _ _=>vr rfl) (by simp [cap];omega);rw [z0G,ye,c];rfl
theorem ziv {n m:Nat} (S:Sm n m) (hn:Sz n) {s:Sto} {l:Nat} (hp:Pot s l) (a0 a1 a5 a6 a7 a8 a9 a10 a11:Option D):∃ g1 g2 s1,z1j (Z a0 a1 (some (.loc l)) (some (.int ((n:Nat):Int))) (some (.int ((m:Nat):Int))) a5 a6 a7 a8 a9 a10 a11) s=.ok (.nx (Z a0 a1 (some (.loc l)) (some (.int ((n:Nat):Int))) (some (.int ((m:Nat):Int))) a5 a6 (some (.loc s1.length)) a8 a9 a10 a11)) (s1++[[g1,g2].map rD])/\Gl1 n g1/\Gl1 n g2/\Pot s1 l:=by
 have hm:=S.hi;have ht:(1000:Int)<T39:=by decide
 obtain ⟨v1,s1,e1,l1,b1,d1⟩:=z87 (M:=((m:Nat):Int)) hp hn (by have:=S.lo;omega) (by omega);obtain ⟨v2,s2,e2,l2,b2,d2⟩:=z87 (M:=((m:Nat):Int)+2) d1.pot hn (by omega) (by omega);refine ⟨v1,v2,s2,?_,⟨l1,fun x hx=>by have:=b1 x hx;omega⟩,⟨l2,fun x hx=>by have:=b2 x hx;omega⟩,d2.pot⟩;have fl:=jH [v1,v2];simp only [List.map_cons,List.map_nil] at fl ⊢;generalize rD v1=x1 at *;generalize rD v2=x2 at *;rw [z1j,ye,z63,zm,z0a (x:=.loc l) (y:=.int ((n:Nat):Int)) (z:=.int ((m:Nat):Int)) (vr rfl) (vr rfl) (vr rfl),e1,R.bind_ok,zm,z0a (x:=.loc l) (y:=.int ((n:Nat):Int)) (z:=.int (((m:Nat):Int)+2)) (vr rfl) (vr rfl) (by rw [op2 (x:=.int ((m:Nat):Int)) (y:=.int 2) (vr rfl) rfl];rfl),e2,R.bind_ok,zB];simp only [R.bind_ok];rw [if_pos ⟨by simp [cap],fl⟩];rfl
theorem zi9 {n m:Nat} (S:Sm n m) (hn:Sz n) (r:Rl) {s:Sto} {l:Nat} (hp:Pot s l) {g1 g2:List Int} (h1:Gl1 n g1) (h2:Gl1 n g2) (a0 a1 a3 a4 a8 a9 a10 a11:Option D):∃ (gs:List (List Int)) (s':Sto),kq (Z a0 a1 (some (.loc l)) a3 a4 (some (.str (nmR r))) (some (.lst ((evs n m).map rD))) (some (.loc s.length)) a8 a9 a10 a11) (s++[[g1,g2].map rD])=.ok (.nx (Z a0 a1 (some (.loc l)) a3 a4 (some (.str (nmR r))) (some (.lst ((evs n m).map rD))) (some (.loc s.length)) a8 a9 a10 a11)) s'/\(∀ g∈gs,Gl1 n g)/\s'[s.length]? = some (gs.map rD):=by
 have el:=z7R S;have t:tOf (eOp dNe (zc 6) (z0c zj)) (Z a0 a1 (some (.loc l)) a3 a4 (some (.str (nmR r))) (some (.lst ((evs n m).map rD))) (some (.loc s.length)) a8 a9 a10 a11) (s++[[g1,g2].map rD])=.ok (decide (evs n m≠[])) (s++[[g1,g2].map rD]):=by
  refine vM ?_;rw [op2 (x:=.lst ((evs n m).map rD)) (y:=.lst []) (vr rfl) (by rw [vS,zB];simp [cap])];exact ne_nil _ _
 by_cases q:evs n m=[]
 ·refine ⟨[g1,g2],s++[[g1,g2].map rD],?_,fun g hg=>?_,by simp⟩
  ·rw [kq,z7o (by rw [t,q];rfl)];rfl
  ·rcases List.mem_cons.mp hg with rfl | hg;·exact h1
   ·rw [List.mem_singleton.mp hg];exact h2
 ·have n0:0<(evs n m).length:=List.length_pos_iff.mpr q;have hp2:Pot (s++[[g1,g2].map rD]) l:=hp.app _;have hls:=hp.lt;obtain ⟨k,s2,e2,k0,k1,d2⟩:=jl (ρ:=Z a0 a1 (some (.loc l)) a3 a4 (some (.str (nmR r))) (some (.lst ((evs n m).map rD))) (some (.loc s.length)) a8 a9 a10 a11) (f:=zc 2) (g:=zf xI (za (zc 6) zj)) (far:=(((evs n m).length:Nat):Int)) hp2 (by omega) (Int.lt_of_le_of_lt (by omega:(((evs n m).length:Nat):Int)<=2401) (by decide +kernel)) (vr rfl) (by rw [xJ (x:=.lst ((evs n m).map rD)) (vr rfl)];simp [xI,zP]);have hk:k.toNat<(evs n m).length:=by omega
  have mv:(evs n m)[k.toNat]∈evs n m:=List.getElem_mem hk;obtain ⟨lb,he⟩:=z6Q S hn mv;have gv:=(z0U hn).mp mv;generalize hv:(evs n m)[k.toNat]=v at *;have ix:dIx (.lst ((evs n m).map rD)) (.int k) s2=.ok (rD v) s2:=zf4 k0 (by rw [List.getElem?_map,List.getElem?_eq_getElem hk,hv];rfl);have st4:=z6j r lb he (by decide) s2;have at2:s2[s.length]? = some ([g1,g2].map rD):=by rw [d2.oth _ (by omega)];simp
  have g3:Gl1 n (stp r v):=⟨gv.1.step r he,fun x hx=>by have:=zdH r gv.1 he gv.2.1 x hx;have:=S.hi;omega⟩;have fl3:(rD (stp r v)).flat=true:=yq _;refine ⟨[g1,g2,stp r v],s2.set s.length ([g1,g2,stp r v].map rD),?_,fun g hg=>?_,List.getElem?_set_self (by rw [d2.len];simp)⟩
  ·have e9:eOp dIx (zf Pg.zJ (za (zc 5) (za (eOp dIx (zc 6) (zf Pg.zA (za (zc 2) (za (zf xI (za (zc 6) zj)) zj)))) zj))) (eC (.int 0)) (Z a0 a1 (some (.loc l)) a3 a4 (some (.str (nmR r))) (some (.lst ((evs n m).map rD))) (some (.loc s.length)) a8 a9 a10 a11) (s++[[g1,g2].map rD])=.ok (rD (stp r v)) s2:=by
    rw [xf,wm,zm,vr (d:=.str (nmR r)) rfl,R.bind_ok,zm,xf,vr (d:=.lst ((evs n m).map rD)) rfl,R.bind_ok,e2,R.bind_ok,ix,R.bind_ok,zB];simp only [R.bind_ok];rw [st4,R.bind_ok];rfl
   rw [kq,z1G (by rw [t,decide_eq_true q]),z9q,qS,z5T,vr (d:=.loc s.length) rfl,R.bind_ok];simp only;rw [e9,R.bind_ok,at2];simp only;rw [if_pos ⟨fl3,by simp [cap]⟩];rfl
  ·rcases List.mem_cons.mp hg with rfl | hg;·exact h1
   ·rcases List.mem_cons.mp hg with rfl | hg;·exact h2
    ·rw [List.mem_singleton.mp hg];exact g3
theorem zcR (ns:List Int) (j:Nat) (ρ:Ev) (s:Sto) (h:ShL ns ρ):∃ ρ' s',zcV (.int j) ρ s=.ok (.nx ρ') s'/\ShL ns ρ':=by
 obtain ⟨a1,a2,a3,a4,a5,a6,a7,a8,a9,a10,a11,rfl⟩:=h;rw [show zcV (.int j) (Z (some (.scr (iL ns))) a1 a2 a3 a4 a5 a6 a7 a8 a9 a10 a11) s=(zH z0y (zH z1d (zH z14 (zH z0F (zH z0G (zH z1j (zH kq jB))))))) (Z (some (.scr (iL ns))) (some (.int j)) a2 a3 a4 a5 a6 a7 a8 a9 a10 a11) s from rfl];obtain ⟨c,e1⟩:=zf9 ns j s;obtain ⟨q0,e2⟩:=zhd c s;have p0:Pot (s++[[.int q0]]) s.length:=⟨q0,by simp⟩;have g2:z0y (Z (some (.scr (iL ns))) (some (.int j)) a2 a3 a4 a5 a6 a7 a8 a9 a10 a11) s=.ok (.nx (Z (some (.scr (iL ns))) (some (.int j)) (some (.loc s.length)) a3 a4 a5 a6 a7 a8 a9 a10 a11)) (s++[[.int q0]]):=by rw [z0y,ye,xJ (x:=.int c) (by rw [call2 (x:=.scr (iL ns)) (y:=.int j) (vr rfl) (vr rfl),e1]),e2];rfl
 generalize s.length=l at p0 g2;generalize s++[[D.int q0]]=s0 at p0 g2;generalize hsc:D.scr (iL ns)=sc at g2;obtain ⟨r1,s1,t1,x0,x1,d1⟩:=jl (ρ:=Z (some sc) (some (.int j)) (some (.loc l)) a3 a4 a5 a6 a7 a8 a9 a10 a11) (f:=zc 2) (g:=eC (.int 3)) (far:=3) p0 (by decide) (z4V (by decide)) (vr rfl) rfl;obtain ⟨n,b,hn2,hn,ixb,b0,b1,sm⟩:=sizes x0 x1 s1;have g3:z1d (Z (some sc) (some (.int j)) (some (.loc l)) a3 a4 a5 a6 a7 a8 a9 a10 a11) s0=.ok (.nx (Z (some sc) (some (.int j)) (some (.loc l)) (some (.int ((n:Nat):Int))) a4 a5 a6 a7 a8 a9 a10 a11)) s1:=by rw [z1d,ye,xf,jU,R.bind_ok,t1,R.bind_ok,kX,hn2];rfl
 obtain ⟨r2,s2,t2,y0,y1,d2⟩:=jl (ρ:=Z (some sc) (some (.int j)) (some (.loc l)) (some (.int ((n:Nat):Int))) a4 a5 a6 a7 a8 a9 a10 a11) (f:=zc 2) (g:=eOp dIx (z0c (za (eC (.int 30)) (za (eC (.int 12)) (za (eC (.int 6)) zj)))) (eOp z9D (zc 3) (eC (.int 2)))) (far:=b) d1.pot (by omega) (z4V (by omega)) (vr rfl) (by
  rw [op2 (x:=.lst [.int 30,.int 12,.int 6]) (y:=.int (((n:Nat):Int)-2)) (by
   simp only [vS,zm,zB,jU,R.bind_ok];rw [if_pos (by simp [cap])]) (by rw [op2 (x:=.int ((n:Nat):Int)) (y:=.int 2) (vr rfl) rfl];rfl)];exact ixb);obtain ⟨m,hm⟩:∃ m:Nat,1+r2=((m:Nat):Int):=⟨(1+r2).toNat,by omega⟩;have S:=sm m (by omega) (by omega);have g4:z14 (Z (some sc) (some (.int j)) (some (.loc l)) (some (.int ((n:Nat):Int))) a4 a5 a6 a7 a8 a9 a10 a11) s1=.ok (.nx (Z (some sc) (some (.int j)) (some (.loc l)) (some (.int ((n:Nat):Int))) (some (.int ((m:Nat):Int))) a5 a6 a7 a8 a9 a10 a11)) s2:=by rw [z14,ye,xf,jU,R.bind_ok,t2,R.bind_ok,kX,hm];rfl
 obtain ⟨r3,s3,t3,z0,z1,d3⟩:=jl (ρ:=Z (some sc) (some (.int j)) (some (.loc l)) (some (.int ((n:Nat):Int))) (some (.int ((m:Nat):Int))) a5 a6 a7 a8 a9 a10 a11) (f:=zc 2) (g:=eC (.int 4)) (far:=4) d2.pot (by decide) (z4V (by decide)) (vr rfl) rfl;obtain ⟨r,er⟩:=zbX z0 z1 s3;have g5:z0F (Z (some sc) (some (.int j)) (some (.loc l)) (some (.int ((n:Nat):Int))) (some (.int ((m:Nat):Int))) a5 a6 a7 a8 a9 a10 a11) s2=.ok (.nx (Z (some sc) (some (.int j)) (some (.loc l)) (some (.int ((n:Nat):Int))) (some (.int ((m:Nat):Int))) (some (.str (nmR r))) a6 a7 a8 a9 a10 a11)) s3:=by rw [z0F,ye,xf,wm,zB,R.bind_ok,z9J,R.bind_ok,t3,R.bind_ok,er];rfl
 have g6:=zhE S hn (some sc) (some (.int j)) (some (.loc l)) (some (.str (nmR r))) a6 a7 a8 a9 a10 a11 s3;obtain ⟨v1,v2,s4,g7,L1,L2,p4⟩:=ziv S hn d3.pot (some sc) (some (.int j)) (some (.str (nmR r))) (some (.lst ((evs n m).map rD))) a7 a8 a9 a10 a11;obtain ⟨gs,s5,g8,hgs,at5⟩:=zi9 S hn r p4 L1 L2 (some sc) (some (.int j)) (some (.int ((n:Nat):Int))) (some (.int ((m:Nat):Int))) a8 a9 a10 a11;obtain ⟨b8,b9,b10,b11,s6,g10⟩:=zc2 (a0:=some sc) (a1:=some (.int j)) (a2:=some (.loc l)) (a3:=some (.int ((n:Nat):Int))) S hn r hgs at5 a8 a9 a10 a11;refine ⟨Z (some sc) (some (.int j)) (some (.loc l)) (some (.int ((n:Nat):Int))) (some (.int ((m:Nat):Int))) (some (.str (nmR r))) (some (.lst ((evs n m).map rD))) (some (.loc s4.length)) b8 b9 b10 b11,s6,?_,?_⟩;·rw [zi g2,zi g3,zi g4,zi g5,zi g6,zi g7,zi g8,g10]
 ·rw [<- hsc];exact ⟨_,_,_,_,_,_,_,_,_,_,_,rfl⟩
theorem zf5 (ns:List Int):∃ ρ' s',z5M (Z (some (.scr (iL ns))) none none none none none none none none none none none) []=.ok (.nx ρ') s':=by
 obtain ⟨k,ek,hk⟩:=zfc ns.length 3;rw [show ((3:Nat):Int)=3 from rfl] at ek;obtain ⟨ρ',s',e,_⟩:=z3e (all:=yO k) (body:=zcV) (fun ρ _=>ShL ns ρ) (yO k) (fun x hx ρ s hI=>by
  obtain ⟨j,_,rfl⟩:=z7w hx;exact zcR ns j ρ s hI) (Z (some (.scr (iL ns))) none none none none none none none none none none none) [] ⟨_,_,_,_,_,_,_,_,_,_,_,rfl⟩;refine ⟨ρ',s',?_⟩;unfold z5M;rw [kI,qa (n:=k) (s1:=[]) (by omega) (by simp only [wm,zm,zB,jU,yJ,List.getElem?_cons_zero,R.bind_ok,xI,zP,List.length_map,z53,zaJ,ek]),R.bind_ok];exact e
theorem zi0:Sm 2 1:=⟨by decide,by decide,by decide,by decide,by decide⟩
theorem z95{g:List Int}(hg:Gl1 2 g)(r:Rl)(s:Sto):∃ t,yA [.str (nmR r),rD g,.int 1] s=.ok (.loc (s.length+1)) (s++[t]++[(due 2 1 r g).map rD]):=by
 obtain ⟨t,G,e,up,mem,_⟩:=z3G hg.lot zi0 hg.le r s;have eG:G=due 2 1 r g:=by
  refine z9c up ?_ fun v=>?_;·exact ((z5V 2 1).filter _).filter _
  ·rw [mem,due,List.mem_filter,z0U (.inl rfl)];simp only [decide_eq_true_eq,and_assoc]
 rw [eG] at e;exact ⟨t,e⟩
theorem zdA:due 2 1 .nx [0,1]=[[1,1]]:=by decide +kernel
theorem zf2:due 2 1 .tu [1,1]=[]:=by decide +kernel
theorem zaf:∀ ns:List Int,ns.length<=63->∃ s',zd8 [.scr (ns.map D.int)] []=.ok (.bl true) s':=fun ns hn=>by
 obtain ⟨ρ',s',e⟩:=zf5 ns;obtain ⟨t,e1⟩:=z95 (g:=[0,1]) ⟨⟨.inl rfl,rfl,by decide,⟨1,by decide,by decide⟩⟩,by decide⟩ .nx s';obtain ⟨t2,e2⟩:=z95 (g:=[1,1]) ⟨⟨.inl rfl,rfl,by decide,⟨1,by decide,by decide⟩⟩,by decide⟩ .tu (s'++[t]++[(due 2 1 .nx [0,1]).map rD]);rw [zdA] at e1 e2;rw [zf2] at e2;refine ⟨s'++[t]++[[[1,1]].map rD]++[t2]++[([]:List (List Int)).map rD],?_⟩;have st:zx ["_law_script","_law_at","_law_pot_here","_law_size","_law_most","_law_rule","_law_every_here","_law_goals","_law_goal","_law_due","_law_turn","_law_found"] [.scr (ns.map D.int)]=Z (some (.scr (iL ns))) none none none none none none none none none none none:=rfl;have tup2:∀ (a b:Int) (ρ:Ev) (s:Sto),uN (za (eC (.int a)) (za (eC (.int b)) zj)) ρ s=.ok (rD [a,b]) s:=fun a b ρ s=>by
  rw [va,zm,jU,R.bind_ok,zm,jU,R.bind_ok,zB];simp only [R.bind_ok];rw [if_pos (by simp [cap])];rfl
 unfold zd8 Mof zb0;rw [if_pos (by rfl),st,zi e];have g1:(s'++[t]++[[[1,1]].map rD])[s'.length+1]? = some ([[1,1]].map rD):=by rw [List.getElem?_append_right (by simp)];simp
 generalize s'++[t]++[[[1,1]].map rD]=S1 at *;have g2:(S1++[t2]++[([]:List (List Int)).map rD])[S1.length+1]? = some (([]:List (List Int)).map rD):=by rw [List.getElem?_append_right (by simp)];simp
 generalize S1++[t2]++[([]:List (List Int)).map rD]=S2 at *;have k1:eOp (zad false) (zf Pg.yA (za (eC (.str "next")) (za (uN (za (eC (.int 0)) (za (eC (.int 1)) zj))) (za (eC (.int 1)) zj)))) (z0c (za (uN (za (eC (.int 1)) (za (eC (.int 1)) zj))) zj)) ρ' s'=.ok (.bl true) S1:=by
  rw [xf,z0a (x:=.str "next") (y:=rD [0,1]) (z:=.int 1) rfl (tup2 0 1 _ _) rfl];rw [show yA [.str "next",rD [0,1],.int 1] s'=_ from e1,R.bind_ok,vS,zm,tup2,R.bind_ok,zB];simp only [R.bind_ok];rw [if_pos (by simp [cap])];have p0:z3j (.lst [rD [1,1]])=true:=by decide +kernel
  have p1:eqD (.lst [rD [1,1]]) (.lst [rD [1,1]])=true:=by decide +kernel
  simp only [R.bind_ok,zad,see,g1,List.map_cons,List.map_nil];rw [if_pos ⟨p0,p0⟩];simp only [p1];rfl
 have k2:eOp (zad false) (zf Pg.yA (za (eC (.str "turn")) (za (uN (za (eC (.int 1)) (za (eC (.int 1)) zj))) (za (eC (.int 1)) zj)))) (z0c zj) ρ' S1=.ok (.bl true) S2:=by
  rw [xf,z0a (x:=.str "turn") (y:=rD [1,1]) (z:=.int 1) rfl (tup2 1 1 _ _) rfl];rw [show yA [.str "turn",rD [1,1],.int 1] S1=_ from e2,R.bind_ok,vS,zB];simp only [R.bind_ok];rw [if_pos (by simp [cap])];have p0:z3j (.lst [])=true:=by decide +kernel
  have p1:eqD (.lst []) (.lst [])=true:=by decide +kernel
  simp only [R.bind_ok,zad,see,g2,List.map_nil];rw [if_pos ⟨p0,p0⟩,p1];rfl
 rw [z69,ym,z4c,k1];simp only [R.bind_ok];rw [k2];rfl
end K71
namespace K71
open PySem.Spec L2 Dd Pg
theorem all_mk {P:Program} {w:World} {K:W.Frag} {h:Heap} {mg:Str->Option Value} {fa:Addr} (X:K.In h) (G:h.Ns mainGlobals mg) (hfa:mg "law"=some (.ref fa)) (e:z9F askQ K=valS askQ w) : ∃ fd:FuncData,(∀ (s:Shared) (v:Value),BindsTo s fd ⟨[v],[]⟩ [("_law_script",v)])/\∀ base:Heap,K.In base->base.Ns mainGlobals mg->z2j P w K mg base CX0 10 fa fd ["_law_script"] (zcF K):=by
 obtain ⟨f0,d0,a0,F0⟩:=zK X G e 0 rfl;obtain ⟨f1,d1,a1,F1⟩:=zK X G e 1 rfl;obtain ⟨f2,d2,a2,F2⟩:=zK X G e 2 rfl;obtain ⟨f3,d3,a3,F3⟩:=zK X G e 3 rfl;obtain ⟨f4,d4,a4,F4⟩:=zK X G e 4 rfl;obtain ⟨f5,d5,a5,F5⟩:=zK X G e 5 rfl;obtain ⟨f6,d6,a6,F6⟩:=zK X G e 6 rfl;obtain ⟨f7,d7,a7,F7⟩:=zK X G e 7 rfl;obtain ⟨f8,d8,a8,F8⟩:=zK X G e 8 rfl;obtain ⟨f9,d9,a9,F9⟩:=zK X G e 9 rfl;obtain ⟨f10,d10,a10,F10⟩:=zK X G e 10 rfl;obtain ⟨f11,d11,a11,F11⟩:=zK X G e 11 rfl;obtain ⟨f12,d12,a12,F12⟩:=zK X G e 12 rfl;obtain ⟨f13,d13,a13,F13⟩:=zK X G e 13 rfl;obtain ⟨f14,d14,a14,F14⟩:=zK X G e 14 rfl;obtain ⟨f15,d15,a15,F15⟩:=zK X G e 15 rfl;obtain ⟨f16,d16,a16,F16⟩:=zK X G e 16 rfl;obtain ⟨f17,d17,a17,F17⟩:=zK X G e 17 rfl;obtain ⟨f18,d18,a18,F18⟩:=zK X G e 18 rfl;obtain ⟨f19,d19,a19,F19⟩:=zK X G e 19 rfl;obtain ⟨f20,d20,a20,F20⟩:=zK X G e 20 rfl;obtain ⟨f21,d21,a21,F21⟩:=zK X G e 21 rfl;obtain ⟨f22,d22,a22,F22⟩:=zK X G e 22 rfl;obtain ⟨f23,d23,a23,F23⟩:=zK X G e 23 rfl;obtain ⟨f24,d24,a24,F24⟩:=zK X G e 24 rfl;obtain ⟨f25,d25,a25,F25⟩:=zK X G e 25 rfl;obtain ⟨f26,d26,a26,F26⟩:=zK X G e 26 rfl;obtain ⟨f27,d27,a27,F27⟩:=zK X G e 27 rfl;obtain ⟨f28,d28,a28,F28⟩:=zK X G e 28 rfl;obtain ⟨f29,d29,a29,F29⟩:=zK X G e 29 rfl;obtain ⟨f30,d30,a30,F30⟩:=zK X G e 30 rfl;obtain ⟨f31,d31,a31,F31⟩:=zK X G e 31 rfl;obtain ⟨f32,d32,a32,F32⟩:=zK X G e 32 rfl;obtain ⟨f33,d33,a33,F33⟩:=zK X G e 33 rfl;obtain ⟨f34,d34,a34,F34⟩:=zK X G e 34 rfl;obtain ⟨f35,d35,a35,F35⟩:=zK X G e 35 rfl;obtain ⟨f36,d36,a36,F36⟩:=zK X G e 36 rfl;obtain ⟨f37,d37,a37,F37⟩:=zK X G e 37 rfl;obtain ⟨f38,d38,a38,F38⟩:=zK X G e 38 rfl;have e0:=hfa.symm.trans a38;cases e0;obtain ⟨oc,od,kV,doc,pm,an,cdv,ct,osl,rfl,hl,hc⟩:=F38.ex;have T:Txt mg:=⟨z6B X G e 0 rfl,z6B X G e 1 rfl,z6B X G e 2 rfl,z6B X G e 3 rfl,vA X G e 0 rfl,vA X G e 1 rfl,vA X G e 2 rfl,vA X G e 3 rfl,vA X G e 4 rfl,vA X G e 5 rfl,vA X G e 6 rfl,vA X G e 7 rfl,vA X G e 8 rfl,vA X G e 9 rfl,vA X G e 10 rfl,vA X G e 11 rfl,vA X G e 12 rfl,vA X G e 13 rfl⟩;have T_RULES:zcz P w K mg "RULES" uk:=zh1 X G e "RULES" z6g (List.mem_of_getElem? (i:=0) rfl);refine ⟨W.fnOf "law" "law" (ki z2m) (uw z2m) (zg z2m) .none kV doc pm an cdv ct,fun s v=>.of_eq rfl,fun base _ _=>?_⟩;have H0:=z4i (P:=P) (w:=w) (base:=base) T F0 a0;have H1:=z3F (P:=P) (w:=w) (base:=base) T F1 a1;have H2:=ur (P:=P) (w:=w) (base:=base) T F2 a2;have H3:=z1z (P:=P) (w:=w) (base:=base) T F3 a3;have H4:=z5o (P:=P) (w:=w) (base:=base) T F4 a4;have H5:=z5d (P:=P) (w:=w) (base:=base) T F5 a5 T_RULES;have H6:=z9l (P:=P) (w:=w) (base:=base) T F6 a6;have H7:=z1p (P:=P) (w:=w) (base:=base) T F7 a7;have H8:=qW (P:=P) (w:=w) (base:=base) T F8 a8;have H9:=z07 (P:=P) (w:=w) (base:=base) T F9 a9;have H10:=z4h (P:=P) (w:=w) (base:=base) T F10 a10;have H11:=z2O (P:=P) (w:=w) (base:=base) T F11 a11;have H12:=z1E (P:=P) (w:=w) (base:=base) T F12 a12;have H13:=z1L (P:=P) (w:=w) (base:=base) T F13 a13;have H14:=z1V (P:=P) (w:=w) (base:=base) T F14 a14;have H15:=z0g (P:=P) (w:=w) (base:=base) T F15 a15;have H16:=z1K (P:=P) (w:=w) (base:=base) T F16 a16;have H17:=z1O (P:=P) (w:=w) (base:=base) T F17 a17 H0;have H18:=z1h (P:=P) (w:=w) (base:=base) T F18 a18 H0;have H19:=z5S (P:=P) (w:=w) (base:=base) T F19 a19 H2;have H20:=z4P (P:=P) (w:=w) (base:=base) T F20 a20 H2 H3;have H21:=z7C (P:=P) (w:=w) (base:=base) T F21 a21 H3 H4;have H22:=z5B (P:=P) (w:=w) (base:=base) T F22 a22 H4;have H23:=z3t (P:=P) (w:=w) (base:=base) T F23 a23 H5;have H24:=z2L (P:=P) (w:=w) (base:=base) T F24 a24 H8;have H25:=z2C (P:=P) (w:=w) (base:=base) T F25 a25 H12;have H26:=z4D (P:=P) (w:=w) (base:=base) T F26 a26 H11;have H27:=z3k (P:=P) (w:=w) (base:=base) T F27 a27 H15;have H28:=z7j (P:=P) (w:=w) (base:=base) T F28 a28 H1 H17;have H29:=z4k (P:=P) (w:=w) (base:=base) T F29 a29 T_RULES H19 H20 H21 H22;have H30:=z16 (P:=P) (w:=w) (base:=base) T F30 a30 H7 H24;have H31:=z3X (P:=P) (w:=w) (base:=base) T F31 a31 H28;have H32:=z2K (P:=P) (w:=w) (base:=base) T F32 a32 H31;have H33:=uZ (P:=P) (w:=w) (base:=base) T F33 a33 H23 H31;have H34:=z3r (P:=P) (w:=w) (base:=base) T F34 a34 H32 H33;have H35:=za1 (P:=P) (w:=w) (base:=base) T F35 a35 H6 H29 H34;have H36:=z3w (P:=P) (w:=w) (base:=base) T F36 a36 H32 H35;have H37:=z4U (P:=P) (w:=w) (base:=base) T F37 a37 H18 H30 H33 H36;have H38:=z7k (P:=P) (w:=w) (base:=base) T F38 a38 H9 H10 H11 H13 H14 H16 H25 H26 H27 H37;exact zfv (x:="law") H38 zaf
theorem boot_:∀ w:World,(W.fencedOpening treeTable PySem.Challenge.pw_drawndown_k71_lots_that_come_by_a_step w 5180).map (fun s=>(s.heap,s.gens,s.drawn,s.toks))=some (W.boot_heap w.params,Array.mk [],W.boot_drawn,W.boot_toks):= W.boot_open (by kernel_rfl) (by decide) (fun s=>by kernel_rfl)
theorem left_:W.LeftO PySem.Challenge.pw_drawndown_k71_lots_that_come_by_a_step qv looseQ xtQ (obsS askQ) (valS askQ) 5180:=z8c "special-get-raises" boot_ (fun w os=>z2l (f:=fun s=>(seenQ s,obsS askQ s)) (zhV w) (bsz w) (z4b (z4K w os) (z4Q w os))) (fun w os=>z2l (f:=fun s=>(seenQ s,obsS askQ s)) (zhV w) (bsz w) (z4b (z51 w os) (z4Z w os)))
end K71
open PySem.W
set_option maxRecDepth 100000 in
set_option maxHeartbeats 0 in
theorem PySem.Challenge.cw_drawndown_k71_lots_that_come_by_a_step_holds : PySem.Challenge.rw_drawndown_k71_lots_that_come_by_a_step.Holds := by
  w_on; o_law
  refine holds_open (q := K71.qv) (loose := K71.looseQ) (Xt := K71.xtQ) (XP := XL K71.qv K71.lvQ) (Yf := Dd.obsS K71.askQ) (Ya := Dd.valS K71.askQ) (YP := Dd.saysS K71.askQ) (N := 5180) K71.left_ (Dd.zch K71.askQ) (Dd.z70 K71.askQ) (fun s e => xl_of s (Bool.and_eq_true_iff.mp e).1) XL.keeps (by rfl) (by rfl) (by rfl) (fun s e => recFacts_of (Bool.and_eq_true_iff.mp e).2) (by rfl) (by first | assumption | decide +kernel) (by decide +kernel) ⟨rfl, rfl, rfl, rfl, rfl, by decide +kernel⟩ ?hw ?hc
  (case hw => w_witness2)
  refine Dd.walkY (l := PySem.Challenge.rw_drawndown_k71_lots_that_come_by_a_step) (n := 63) (k := 10) (x := "_law_script") rfl (by decide) (by decide) rfl ⟨rfl, by decide, by decide, rfl⟩ ?F
  case F =>
    intro w mg fa h Yy G hmg XP
    obtain ⟨K, KX, e⟩ := Yy
    exact ⟨K, KX, K71.all_mk KX G hmg e ⟩
