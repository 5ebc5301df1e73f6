import PyProof.Rows.All
import Wide.All
import OpenK.AllK
import Wide.FinOn
import Lean
import PyProof.EqAt
import PyProof.EqKinds
import PyProof.TupleCall
import PyProof.ExcArgsOwn
import PyProof.ExcAttrAll.ValueError
import PyProof.ListMulRoad
import PyProof.Rows.Range3
import PySem.Challenge.RW_drawndown_k93_truths_are_no_weights
set_option Elab.async false
set_option linter.all false
set_option maxRecDepth 100000
set_option maxHeartbeats 1000000
set_option exponentiation.threshold 5000
open PySem PySem.Spec PyProof.Rows
abbrev _a:=@wpAny_bind
abbrev _b:=@List.getElem?_eq_some_iff
abbrev _c:=@Heap.get?_push_of_some
abbrev _d:=@List.getElem?_eq_getElem
abbrev _e:=@List.zipWith_cons_cons
abbrev _f:=@List.getElem?_set_ne
abbrev _g:=@List.zipWith_nil_left
abbrev _h:=@Nat.lt_of_lt_of_le
abbrev _i:=@List.mem_append
abbrev _j:=@List.size_toArray
abbrev _k:=@wpAny_pure
abbrev _l:=@Heap.lt_size
abbrev _m:=@Bool.and_eq_true
abbrev _n:=@Nat.le_refl
abbrev _o:=@if_pos
abbrev _p:=@List.mem_cons
abbrev _q:=@List.length_cons
abbrev _r:=@List.mem_map
abbrev _s:=@List.mem_of_getElem?
abbrev _t:=@List.sum_cons
abbrev _u:=@Heap.get?_push_size
abbrev _v:=@List.getElem?_set_self
abbrev _w:=@List.eq_nil_of_length_eq_zero
abbrev _x:=@List.getElem?_append_left
abbrev _y:=@List.all_eq_true
abbrev _z:=@List.mem_cons_of_mem
abbrev _A:=@List.sum_nil
abbrev _B:=@Nat.le_trans
abbrev _C:=@List.nil_append
abbrev _D:=@List.getElem?_map
abbrev _E:=@List.not_mem_nil
abbrev _F:=@Nat.ne_of_lt
abbrev _G:=@Option.some.inj
abbrev _H:=@List.length_nil
abbrev _I:=@if_neg
abbrev _J:=@List.mem_of_mem_take
abbrev _K:=@wpAny_field
abbrev _L:=@List.map_cons
abbrev _M:=@decide_eq_true_eq
abbrev _N:=@List.mem_cons_self
abbrev _O:=@wpAny_setField_rec
abbrev _P:=@PyProof.Rows.slot_tuple_getitem
abbrev _Q:=@List.mem_append_right
abbrev _R:=@PySem.mem_of_lookup
abbrev _S:=@wpAny_callSpecial?_slot
abbrev _T:=@List.lookup_cons
abbrev _U:=@List.mem_iff_getElem
abbrev _V:=@Nat.pow_le_pow_right
abbrev _W:=@SeqAt.canLay_of_shaped
abbrev _X:=@Option.map_eq_some_iff
abbrev _Y:=@List.length_map
abbrev _Z:=@if_true
abbrev _aa:=@Option.some.injEq
abbrev _ab:=@List.mem_of_mem_drop
abbrev _ac:=@wpAny_loadPart'
abbrev _ad:=@List.getElem_mem
abbrev _ae:=@wpAny_mono
abbrev _af:=@List.replicate_succ
abbrev _ag:=@Function.comp_def
abbrev _ah:=@List.getElem?_take_of_lt
abbrev _ai:=@Heap.size_push
abbrev _aj:=@wpAny_newObj_type
abbrev _ak:=@decide_eq_false
abbrev _al:=@PassesOwn.never
abbrev _am:=@List.length_append
abbrev _an:=@wpAny_call_entry
abbrev _ao:=@List.cons_append
abbrev _ap:=@Option.getD_some
abbrev _aq:=@Option.bind_some
abbrev _ar:=@Nat.lt_irrefl
abbrev _as:=@wpAny_truthy_bool
abbrev _at:=@Int.toNat_natCast
abbrev _au:=@List.getElem?_cons_succ
abbrev _av:=@decide_eq_false_iff_not
abbrev _aw:=@PyProof.Rows.callWith_type1
abbrev _ax:=@Bool.false_ne_true
abbrev _ay:=@F.slot_tuple_iterator_next
abbrev _az:=@wpAny_seqItems
abbrev _aA:=@Int.mul_nonneg_of_nonpos_of_nonpos
abbrev _aB:=@or_false
abbrev _aC:=@List.getD_eq_getElem?_getD
abbrev _aD:=@List.getElem?_eq_none
abbrev _aE:=@wpAny_passesOwn
abbrev _aF:=@List.foldl_cons
abbrev _aG:=@Option.map_some
abbrev _aH:=@Ne.symm
abbrev _aI:=@List.flatten_cons
abbrev _aJ:=@Option.bind_eq_some_iff
abbrev _aK:=@List.getElem?_cons_zero
abbrev _aL:=@wpAny_Call_Name_kw
abbrev _aM:=@List.set_cons_zero
abbrev _aN:=@List.set_cons_succ
abbrev _aO:=@Int.emod_lt_of_pos
abbrev _aP:=@List.mem_singleton
abbrev _aQ:=@F.slot_int_rmul
abbrev _aR:=@W.kia_one
abbrev _aS:=@F.slot_enumerate_next
abbrev _aT:=@List.dropLast_sublist
abbrev _aU:=@Bool.and_eq_false_iff
abbrev _aV:=@List.append_assoc
abbrev _aW:=@List.map_nil
abbrev _aX:=@wpAny_binaryOp_repeat_ref
abbrev _aY:=@List.mem_or_eq_of_mem_set
abbrev _aZ:=@List.drop_eq_getElem_cons
abbrev _a0:=@List.length_pos_iff
abbrev _a1:=@Option.isSome_iff_exists
abbrev _a2:=@PySem.F.args_tuple_add_2
abbrev _a3:=@wpAny_comprehension_free
abbrev _a4:=@List.of_mem_zip
abbrev _a5:=@Int.emod_nonneg
abbrev _a6:=@call_meets
abbrev _a7:=@beq_iff_eq
abbrev _a8:=@List.lookup_append
abbrev _a9:=@PySem.F.entry_tuple_add
abbrev _ba:=@PySem.F.slot_tuple_add
abbrev _bb:=@Int.natAbs_mul
abbrev _bc:=@Int.mul_nonneg
abbrev _bd:=@List.getElem_inj
abbrev _be:=@typeIs_int
abbrev _bf:=@Nat.lt_succ_self
abbrev _bg:=@F.slot_tuple_mul
abbrev _bh:=@wpAny_holding
abbrev _bi:=@wpAny_standAt
abbrev _bj:=@List.mem_append_left
abbrev _bk:=@congrArg
abbrev _bl:=@wpAny_updateSeq_pair
abbrev _bm:=@Nat.mul_le_mul_right
abbrev _bn:=@wpAny_execs_nil
abbrev _bo:=@List.append_nil
abbrev _bp:=@List.nodup_cons
abbrev _br:=@F.slot_zip_next
abbrev _bs:=@List.filterMap_cons
abbrev _bt:=@Array.length_toList
abbrev _bu:=@Nat.ne_of_gt
abbrev _bw:=@Int.le_total
abbrev _bx:=@Nat.zero_add
abbrev _bz:=@assignInOrder_cons
abbrev _bA:=@wpAny_rule
abbrev _bC:=@Int.lt_of_le_of_lt
abbrev _bD:=@wpAny_assign_Name
abbrev _bE:=@List.take_sublist
abbrev _bF:=@F.args_int_rmul_2
abbrev _bG:=@Nat.le_of_succ_le
abbrev _bH:=@Nat.lt_succ_of_lt
abbrev _bI:=@Int.gcd_dvd_right
abbrev _bJ:=@Int.dvd_mul_right
abbrev _bK:=@wpAny_attempt
abbrev _bL:=@wpAny_onRaise
abbrev _bM:=@Int.dvd_trans
abbrev _bN:=@List.length_take
abbrev _bP:=@noFill_tuple_add
abbrev _bQ:=@F.slot_int_index
abbrev _bR:=@F.entry_int_rmul
abbrev _bS:=@List.prefix_refl
abbrev _bV:=@Nat.le_add_right
abbrev _bY:=@Int.gcd_dvd_left
abbrev _bZ:=@Nat.le_of_lt
noncomputable section
namespace Dd
def dArgs(s:Stmt):Arguments:=match s with
 | .FunctionDef _ a _ _ _ _ _ _ _ _=>a | _=>{posonlyargs:=[],args:=[],vararg:=none,kwonlyargs:=[],kw_defaults:=[],kwarg:=none,defaults:=[]}
def z9K(s:Stmt):List Stmt:=match s with
 | .FunctionDef _ _ b _ _ _ _ _ _ _=>b | _=>[]
def z7a(s:Stmt):Scope:=match s with
 | .FunctionDef _ _ _ _ _ _ sc _ _ _=>sc | _=>{kind:=.function,names:=[],isGenerator:=false,isCoroutine:=false}
def z2b(h:Heap)(a:Addr):W.Frag:=match h.get? a with | some o=>[(a,o)] | none=>[]
def zcd(h:Heap)(g:W.Frag)(x:Str):W.Frag:=match W.nsIn g mainGlobals x with
 | some (some (.ref f))=>z2b h f++(match h.get? f with
   | some ⟨_,_,.func fd,_⟩=>(match fd.code with | .ref c=>z2b h c | _=>[]) | some ⟨_,_,.cls cd,_⟩=>z2b h cd.ns | _=>[]) | _=>[]
def gat(h:Heap)(ns:List Str):W.Frag:=z2b h mainGlobals++ns.flatMap (zcd h (z2b h mainGlobals))
abbrev FV:=Str×Str×Arguments×FuncBody×Scope×Addr×List (Str×Addr)×Value×Addr×Bool×Bool
def z8v(K:W.Frag)(x:Str):Option FV:=match W.nsIn K mainGlobals x with
 | some (some (.ref f))=>(match K.lookup f with
   | some ⟨_,_,.func fd,_⟩=>some (fd.name,fd.qualname,fd.params,fd.body,fd.scope,fd.globals,fd.closure,fd.defaults,fd.builtins,W.codeIn K fd.code fd.qualname,W.keepIn K (.ref f)) | _=>none) | _=>none
def zbb(x:Str)(st:Stmt):Option FV:=some (x,x,dArgs st,.stmts (z9K st),z7a st,mainGlobals,[],.none,builtinsNs,true,true)
def z82(K:W.Frag)(x:Str):Bool:=match W.nsIn K mainGlobals x with | some none=>true | _=>false
def z8O(K:W.Frag)(x:Str):Option Int:=match W.nsIn K mainGlobals x with | some (some (.int i _))=>some i | _=>none
def sameRef:Value->Option (Option Value)->Bool
 | .ref f,some (some (.ref g))=>f==g | _,_=>false
def zav:Value->Option Str
 | .str k _=>some k | _=>none
def z4H:Value->Bool
 | .type c=>c=="dict" | _=>false
def z96(K:W.Frag):List DictEntry->List Str->List (Int×Option Str×Bool)
 | e::es,y::ys=>(e.hash,zav e.key,sameRef e.val (W.nsIn K mainGlobals y))::z96 K es ys | [],[]=>[] | _,_=>[(0,none,false)]
def zbA(K:W.Frag)(x:Str)(ys:List Str):Option (Bool×Bool×Bool×Bool×List (Int×Option Str×Bool)):=match W.nsIn K mainGlobals x with
 | some (some (.ref a))=>(match K.lookup a with
   | some ⟨c,d,.dict es _,sl⟩=>some (z4H c,d.isNone,sl.size==0,a==sysModules,z96 K es.toList ys) | _=>none) | _=>none
def zcD(w:World)(tb:List (Str×Str)):Option (Bool×Bool×Bool×Bool×List (Int×Option Str×Bool)):=some (true,true,true,false,tb.map λp=>(PyData.keyHash w.params p.1,some p.1,true))
def zaj:List Value->Option (List Int)
 | []=>some [] | .int i _::r=>(zaj r).map (i::·) | _=>none
def z5Y:Value->Bool
 | .type c=>c=="tuple" | _=>false
def zb3(K:W.Frag)(x:Str):Option (Bool×Option (List Int)):=match W.nsIn K mainGlobals x with
 | some (some (.ref a))=>(match K.lookup a with
   | some ⟨c,_,.seq its _,_⟩=>some (z5Y c,zaj its.toList) | _=>none) | _=>none
def bmV:List Value:=[.type "ValueError",.type "Exception",.type "BaseException",.type "object"]
def z5a(K:W.Frag)(C:Addr):Bool:=match K.lookup C with | some ⟨.type t,_,.cls _,_⟩=>t=="type" | _=>false
def zb2(K:W.Frag)(x:Str):Bool:=match W.nsIn K mainGlobals x with
 | some (some (.ref C))=>W.excIn K C bmV "ValueError.__new__"&&(W.findIn K (.ref C) "__getattribute__"==some (some (.builtin "BaseException.__getattribute__"))&&(W.findIn K (.ref C) "__getattr__"==some none && (W.findIn K (.ref C) "__class__"==some (some (.builtin "object.__class__"))&&(W.mroIn K C (.type "object")==some true&&(W.mroIn K C (.type "BaseException")==some true&&(z5a K C&&W.kitOne K (.ref C) (.type "ValueError")==some true)))))) | _=>false
def z9k(K:W.Frag)(x y:Str):Option (Option Bool×Option Bool):=match W.nsIn K mainGlobals x,W.nsIn K mainGlobals y with
 | some (some (.ref C)),some (some (.ref D))=>some (W.mroIn K C (.ref D),W.kitOne K (.ref C) (.ref D)) | _,_=>none
abbrev Obs:=List (Option FV)×List Bool×List (Option Int)×List (Option (Bool×Bool×Bool×Bool×List (Int×Option Str×Bool)))×List (Option (Bool×Option (List Int)))×List Bool×List (Option (Option Bool×Option Bool))
structure Ask where
 fs:List (Str×Stmt)
 bs:List Str
 cs:List (Str×Int)
 ts:List (Str×List (Str×Str))
 us:List (Str×List Int)
 xs:List Str
 ps:List ((Str×Str)×Bool)
def z69(q:Ask)(K:W.Frag):Obs:=(q.fs.map λp=>z8v K p.1,q.bs.map (z82 K),q.cs.map λp=>z8O K p.1,q.ts.map (λp=>zbA K p.1 (p.2.map (·.2))),q.us.map (λp=>zb3 K p.1),q.xs.map (zb2 K),q.ps.map λp=>z9k K p.1.1 p.1.2)
def obsS(q:Ask)(s:Shared):Obs:=z69 q (gat s.heap (q.fs.map (·.1)++q.ts.map (·.1)++q.us.map (·.1)++q.xs))
def valS(q:Ask)(w:World):Obs:=(q.fs.map λp=>zbb p.1 p.2,q.bs.map λ_=>true,q.cs.map λp=>some p.2,q.ts.map (λp=>zcD w p.2),q.us.map (λp=>some (true,some p.2)),q.xs.map λ_=>true,q.ps.map λp=>some (some p.2,some p.2))
def jU(tb:String->Option Builtin)(p:Program)(w:World)(n₀:Nat)(ann:Option Value):Nat->W.SharedT->Thread->Option W.SharedT
 | 0,_,_=>none | n+1,s,t=>match W.through t with
  | true=>some s | false=>match W.stepOk n₀ ann t with
   | false=>none | true=>match W.stepT (denote tb) p w s t with
    | some (s',t')=>jU tb p w n₀ ann n s' t' | none=>none
def z9u(l:List Obj):W.BT×Nat:=l.foldl (λa o=>(a.1.ins a.2 o,a.2+1)) (W.BT.nil,0)
def z9c(P:Params):W.BT:=(z9u (W.boot_heap P).objs.toList).1
end Dd
namespace K93
open Dd
def top(i:Nat):Stmt:=PySem.Challenge.pw_drawndown_k93_truths_are_no_weights.main.body.getD i (.Pass ⟨0,0,0,0⟩)
abbrev vY:Stmt:=top 6
abbrev vW:Stmt:=top 8
abbrev xN:Stmt:=top 13
abbrev vS:Stmt:=top 15
abbrev uV:Stmt:=top 17
abbrev uU:Stmt:=top 18
abbrev xZ:Stmt:=top 26
abbrev uc:Stmt:=top 27
abbrev vD:Stmt:=top 28
abbrev wx:Stmt:=top 29
abbrev wT:Stmt:=top 7
abbrev wt:Stmt:=top 16
abbrev vv:Stmt:=top 30
abbrev wk:Stmt:=top 32
abbrev kg:Stmt:=top 10
abbrev uH:Stmt:=top 22
abbrev vT:Stmt:=top 11
abbrev jq:Stmt:=top 12
abbrev wI:Stmt:=top 21
abbrev vb:Stmt:=top 24
abbrev wy:Stmt:=top 20
abbrev uA:Stmt:=top 23
abbrev wc:Stmt:=top 31
abbrev xh:Stmt:=top 33
abbrev kJ:Stmt:=top 34
def askQ:Ask:=⟨[(("is_whole":Str),vY), (("has_size":Str),vW), (("common_of_two":Str),xN), (("together":Str),vS), (("without":Str),uV), (("sign_at":Str),uU), (("_law_cell_at":Str),xZ), (("_law_pot":Str),uc), (("_law_take":Str),vD), (("_law_truths":Str),wx), (("are_wholes":Str),wT), (("number_of":Str),wt), (("_law_none":Str),vv), (("_law_ordered":Str),wk), (("is_lot":Str),kg), (("come_to":Str),uH), (("want_lot":Str),vT), (("common":Str),jq), (("is_relation":Str),wI), (("is_showing":Str),vb), (("are_weights":Str),wy), (("is_base":Str),uA), (("_law_refused":Str),wc), (("_law_bases_right":Str),xh), (("law":Str),kJ)], [("abs":Str),("all":Str),("bool":Str),("enumerate":Str),("int":Str),("isinstance":Str),("len":Str),("list":Str),("max":Str),("min":Str),("range":Str),("repr":Str),("sum":Str),("tuple":Str),("zip":Str)], [(("LEAST_SIZE":Str),(2:Int)),(("MOST_SIZE":Str),(4:Int))], [], [], [], []⟩
def qv:Program:=W.view PySem.Challenge.pw_drawndown_k93_truths_are_no_weights [34]
def looseQ:List Str:=[("DrawError":Str),("NoLot":Str),("LEAST_SIZE":Str),("MOST_SIZE":Str),("is_whole":Str),("are_wholes":Str),("has_size":Str),("is_lot":Str),("want_lot":Str),("common":Str),("common_of_two":Str),("together":Str),("number_of":Str),("without":Str),("sign_at":Str),("are_weights":Str),("is_relation":Str),("come_to":Str),("is_base":Str),("is_showing":Str),("_law_cell_at":Str),("_law_pot":Str),("_law_take":Str),("_law_truths":Str),("_law_none":Str),("_law_refused":Str),("_law_ordered":Str),("_law_bases_right":Str)]
def lvQ:List (Str×W.WData):=[]
def xtQ:Shared->Bool:=λs=>W.xlAt qv lvQ s&&W.recOk (W.RowW.records (W.OpenRow.toRowW (W.OpenLaw.row PySem.Challenge.rw_drawndown_k93_truths_are_no_weights))) s
theorem zcI:∀w:World,W.absHeap (z9c w.params) 11 (W.boot_heap w.params).life=W.boot_heap w.params:=by
 intro w;kernel_rfl
theorem bsz:∀w:World,((W.boot_heap w.params).isNs mainGlobals&&(Array.mk []:Array GenState).size==0,(W.boot_heap w.params).objs.size,(W.boot_heap w.params).nsMap mainGlobals "__annotations__")=(true,11,(some (.ref 6))):=by
 intro w;kernel_rfl
def zc5(w v:World)(os:OsState):Option W.SharedT:=jU treeTable PySem.Challenge.pw_drawndown_k93_truths_are_no_weights v 11 (some (.ref 6)) 2496 ⟨z9c w.params,11,(W.boot_heap w.params).life,Array.mk [],W.boot_drawn,W.boot_toks,os⟩ (W.topStub PySem.Challenge.pw_drawndown_k93_truths_are_no_weights)
def zbI(w:World)(s:W.SharedT):Bool:=W.staticsOk (importedModules PySem.Challenge.pw_drawndown_k93_truths_are_no_weights.main.body) (W.boot_heap w.params) s.abs.heap&&W.namesBound PySem.Challenge.pw_drawndown_k93_truths_are_no_weights s.abs.heap&&W.gensDone s.abs&&W.laidKept (W.boot_heap w.params) s.abs.heap
def seenQ(s:Shared):=W.openSeen qv looseQ (importedModules PySem.Challenge.pw_drawndown_k93_truths_are_no_weights.main.body) xtQ true s
set_option maxRecDepth 1000000 in
theorem z65:∀(w:World)(os:OsState),(zc5 w w os).map (λs=>(zbI w s,obsS askQ s.abs))=some (true,valS askQ w):=by
 intro w os;kernel_rfl
set_option maxRecDepth 1000000 in
theorem z6l:∀(w:World)(os:OsState),(zc5 w w os).map (λs=>seenQ s.abs)=some (W.openGood qv looseQ):=by
 intro w os;kernel_rfl
end K93
namespace L2
abbrev Key:=Sum Int Str
def za3:Key->Value->Bool
 | .inl k,v=>Value.isInt k v | .inr x,v=>Value.isStrOf x v
def zdh(w:World):Key->Int
 | .inl k=>hashInt k | .inr x=>hashStr w x
theorem yq:∀{k:Key} {v:Value},za3 k v=true->(∃i t,k=Sum.inl i/\v=Value.int i t)\/(∃x t,k=Sum.inr x/\v=Value.str x t)
 | .inl i,v,h=>by
  obtain⟨t,e⟩:=Value.isInt_shape (k:=i) (v:=v) h;exact .inl ⟨i,t,rfl,e⟩ | .inr x,v,h=>by
  obtain⟨t,e⟩:=Value.isStrOf_shape (x:=x) (v:=v) h;exact .inr ⟨x,t,rfl,e⟩
theorem zau(a b:Int):decide ((Sum.inl a:Key)=Sum.inl b)=(a==b):=by
 by_cases e:a=b;·subst e;simp
 ·have h:¬ (Sum.inl a:Key)=Sum.inl b:=λq=>e (Sum.inl.inj q);rw[_ak h];exact (beq_eq_false_iff_ne.mpr e).symm
theorem zaA(a b:Str):decide ((Sum.inr a:Key)=Sum.inr b)=decide (a=b):=by
 by_cases e:a=b;·subst e;simp
 ·have h:¬ (Sum.inr a:Key)=Sum.inr b:=λq=>e (Sum.inr.inj q);rw[_ak h,_ak e]
theorem z9p(a:Int)(b:Str):decide ((Sum.inl a:Key)=Sum.inr b)=false:=_ak (λq=>nomatch q)
theorem z9v(a:Str)(b:Int):decide ((Sum.inr a:Key)=Sum.inl b)=false:=_ak (λq=>nomatch q)
def z4Q(prog:Program)(w:World):PySem.KeyKind prog w Key where
 is:=za3;hash:=zdh w;inj:=λv a b ha hb=>by
  rcases yq ha with⟨i,t,rfl,rfl⟩ | ⟨x,t,rfl,rfl⟩
  ·rcases yq hb with⟨j,u,rfl,e⟩ | ⟨y,u,rfl,e⟩;·injection e with e1 _;rw[e1]
   ·exact nomatch e
  ·rcases yq hb with⟨j,u,rfl,e⟩ | ⟨y,u,rfl,e⟩;·exact nomatch e
   ·injection e with e1 _;rw[e1]
 byValue:=λk v h=>by rcases yq h with⟨i,t,rfl,rfl⟩ | ⟨x,t,rfl,rfl⟩<;>rfl
 pyHash:=λhv h=>by
  rcases yq hv with⟨i,t,rfl,rfl⟩ | ⟨x,t,rfl,rfl⟩;·exact wpAny_pyHash_int h
  ·exact wpAny_pyHash_str h
 eqBool:=λhu hv h=>by
  rcases yq hu with⟨i,t,rfl,rfl⟩ | ⟨x,t,rfl,rfl⟩
  ·rcases yq hv with⟨j,u,rfl,rfl⟩ | ⟨y,u,rfl,rfl⟩;·rw[zau]at h;exact wpAny_eqBool_int h
   ·rw[z9p]at h;exact SeqAt.EqAt.int_str i t y u _ _ _ _ h
  ·rcases yq hv with⟨j,u,rfl,rfl⟩ | ⟨y,u,rfl,rfl⟩;·rw[z9v]at h;exact SeqAt.EqAt.str_int x t j u _ _ _ _ h
   ·rw[zaA]at h;exact wpAny_eqBool_str h
 «strs» := λk x t v h=>by
  rcases yq h with⟨i,u,rfl,e⟩ | ⟨y,u,rfl,e⟩;·exact nomatch e
  ·injection e with e1 _;subst e1;cases v<;>rfl
inductive V where | non | bl (b:Bool) | int (i:Int) | str (x:Str) | byt (b:Array UInt8) | flt (b:UInt64) | ref (a:Addr) | ty (n:String) deriving DecidableEq
def xL:V->Value->Prop
 | .non,u=>u=Value.none | .bl b,u=>u=Value.bool b | .int i,u=>∃t,u=Value.int i t | .str x,u=>∃t,u=Value.str x t | .byt b,u=>∃t,u=Value.bytes b t | .flt b,u=>∃t,u=Value.float b t | .ref a,u=>u=Value.ref a | .ty n,u=>u=Value.type n
abbrev yC:List V->List Value->Prop:=Paired xL
theorem yC.length{xs:List V}{us:List Value}(r:yC xs us):xs.length=us.length:=Paired.length r
theorem yC.get:∀{xs:List V} {us:List Value} {i:Nat} {x:V},yC xs us->xs[i]? = some x->∃u,us[i]? = some u/\xL x u
 | _,_,_,_,.nil,e=>by simp at e | _,_,0,_,.cons r _,e=>by simp at e;subst e;exact⟨_,rfl,r⟩ | _,_,i+1,x,.cons _ t,e=>by
  obtain⟨u,h1,h2⟩:=yC.get (i:=i) (x:=x) t (by simpa using e);exact⟨u,by simpa using h1,h2⟩
theorem yC.set{x:V}{u:Value}(r:xL x u):∀{xs:List V}{us:List Value}(i:Nat),yC xs us->yC (xs.set i x) (us.set i u)
 | _,_,_,.nil=>.nil | _,_,0,.cons _ t=>.cons r t | _,_,i+1,.cons q t=>.cons q (yC.set r i t)
theorem yC.append:∀{xs ys:List V}{us ws:List Value},yC xs us->yC ys ws->yC (xs++ys) (us++ws)
 | _,_,_,_,.nil,s=>s | _,_,_,_,.cons r t,s=>.cons r (yC.append t s)
theorem yC.take:∀{xs:List V}{us:List Value}(n:Nat),yC xs us->yC (xs.take n) (us.take n)
 | _,_,0,_=>.nil | _,_,_+1,.nil=>.nil | _,_,n+1,.cons r t=>.cons r (yC.take n t)
theorem yC.drop:∀{xs:List V}{us:List Value}(n:Nat),yC xs us->yC (xs.drop n) (us.drop n)
 | _,_,0,r=>r | _,_,_+1,.nil=>.nil | _,_,n+1,.cons _ t=>yC.drop n t
def zc0:Option V->Option Value->Prop
 | some v,some u=>xL v u | none,none=>True | _,_=>False
def KV{κ:Type}:List (κ×V)->List (κ×Value)->Prop:=Paired λ(p:κ×V)(q:κ×Value)=>p.1=q.1/\xL p.2 q.2
def kV:Key->V
 | .inl i=>.int i | .inr x=>.str x
inductive HO where | lst (xs:List V) | tup (xs:List V) | dK (kvs:List (Key×V)) | dT (kvs:List (List Key×V)) | set (S:Int->Bool)(n:Nat) | ins (C dx:Addr)(fs:List (Str×V)) | own (x:Addr) | xd (fs:List (Str×V)) | met (f x:Addr) | rng (lo hi:Int) | frz (o:Obj)(u:HO) | tbl (ps:Array Value) | ext (φ:Heap->Prop)
abbrev Hp:=Addr->Option HO
def upd(H:Hp)(a:Addr)(o:HO):Hp:=λb=>if b=a then some o else H b
theorem yi{H:Hp}{a:Addr}{o:HO}:upd H a o a=some o:=by unfold upd;rw[_o rfl]
theorem zC{H:Hp}{a b:Addr}{o:HO}(h:b≠a):upd H a o b=H b:=by unfold upd;rw[_I h]
theorem z7M{H:Hp}{a:Addr}{o u:HO}:upd (upd H a o) a u=upd H a u:=by funext b;unfold upd;split<;>rfl
theorem yj{H:Hp}{a b:Addr}{o:HO}(h:H a=some o)(h':H b=none):a≠b:=by intro e;subst e;rw[h]at h';cases h'
def z4j(h:Heap)(a:Addr)(items:Array Value):Prop:=∃o,h.get? a=some o/\o.cls=.type "tuple"/\o.dict=none/\∃n,o.data=.seq items n
theorem z4j.tup{h:Heap}{a:Addr}{items:Array Value}(x:z4j h a items):IsTup h a items:=let ⟨o,e,c,_,r⟩:=x;⟨o,e,c,r⟩
theorem z4j.new(h:Heap)(items:Array Value):z4j (h.push {cls:=.type "tuple",data:=.seq items}) h.objs.size items:=⟨_,_u _ rfl,rfl,rfl,_,rfl⟩
theorem z4j.lt{h:Heap}{a:Addr}{items:Array Value}(x:z4j h a items):a<h.objs.size:=x.tup.lt
section
variable (P:Program)(w:World)
def xQ(H:Hp)(h:Heap)(a:Addr):HO->Prop
 | .lst xs=>xs.length<=sizeLine/\∃(its:List Value)(n:Nat),yC xs its/\h.get? a=some {cls:=.type "list",data:=.seq its.toArray n} | .tup xs=>xs.length<=sizeLine/\∃its:List Value,yC xs its/\z4j h a its.toArray | .dK kvs=>kvs.length<=sizeLine/\(a==sysModules)=false/\∃vs,KV kvs vs/\h.DictOf (z4Q P w) a vs | .dT kvs=>kvs.length<=sizeLine/\(a==sysModules)=false/\∃xs:List (List Key×Addr×Value), Paired (λ(p:List Key×V)(q:List Key×Addr×Value)=>p.1=q.1/\H q.2.1=some (.tup (p.1.map kV))/\xL p.2 q.2.2) kvs xs/\ ∃o es ep,h.get? a=some o/\o.ExactDict/\o.data=.dict es ep/\es.toList=xs.map (entryOfKey (tupleKind (z4Q P w)))/\(xs.map (·.1)).Nodup | .set S n=>h.SetOf (intKind P w) a S n | .ins C dx fs=>H dx=some (.own a)/\fs.length<=1000/\dx≠a/\h.get? a=some (W.instObj C dx)/\ ∃mA,h.Ns1 dx mA/\(∀f,zc0 (fs.lookup f) (mA f))/\PySem.Within mA (fs.map (·.1)) | .own _=>∃o,h.get? a=some o | .xd fs=>∃mA,h.Ns1 a mA/\∀f,zc0 (fs.lookup f) (mA f) | .rng lo hi=>∃t u v,h.get? a=some {cls:=.type "range",data:=.fields #[.int lo t,.int hi u,.int 1 v]} | .frz o u=>h.get? a=some o/\xQ H h a u | .tbl ps=>h.get? a=some {cls:=.none,data:=.fields ps} | .met f x=>h.get? a=some (W.methodObj (.ref f) (.ref x)) | .ext φ=>φ h/\(∃o,h.get? a=some o)/\∀h1 h2:Heap,φ h1->(∀o,h1.get? a=some o->h2.get? a=some o)->φ h2
def HOk(H:Hp)(h:Heap):Prop:=∀a o,H a=some o->xQ P w H h a o
end
section
variable {P:Program}{w:World}{H H':Hp}{h h':Heap}{a:Addr}{o:HO}
theorem xQ.lt(x:xQ P w H h a o):a<h.objs.size:=by cases o with
 | lst xs=>obtain⟨_,_,_,_,e⟩:=x;exact _l e | tup xs=>obtain⟨_,_,_,p⟩:=x;exact p.lt | dK kvs=>obtain⟨_,_,_,_,o,_,_,e,_⟩:=x;exact _l e | dT kvs=>obtain⟨_,_,_,_,o,_,_,e,_⟩:=x;exact _l e | set S n=>obtain⟨o,_,_,_,e,_⟩:=x;exact _l e | ins C dx fs=>obtain⟨_,_,_,e,_⟩:=x;exact _l e | own y=>obtain⟨_,e⟩:=x;exact _l e | xd fs=>obtain⟨_,⟨_,_,_,e,_⟩,_⟩:=x;exact _l e | rng lo hi=>obtain⟨_,_,_,e⟩:=x;exact _l e | frz ob u=>obtain⟨e,_⟩:=x;exact _l e | tbl ps=>exact _l (show h.get? a=some _ from x) | met f y=>exact _l (show h.get? a=some _ from x) | ext φ=>obtain⟨_,⟨_,e⟩,_⟩:=x;exact _l e
theorem Paired.mapP{α β:Type}{F G:α->β->Prop}:∀{l₁:List α}{l₂:List β},Paired F l₁ l₂->(∀a b,F a b->G a b)->Paired G l₁ l₂
 | _,_,.nil,_=>.nil | _,_,.cons r t,f=>.cons (f _ _ r) (Paired.mapP t f)
theorem xQ.stay(x:xQ P w H h a o)(k:∀b u,(b=a\/H b=some (.own a))->h.get? b=some u->h'.get? b=some u) (ho:∀b,H b=some (.own a)->H' b=some (.own a))(ht:∀b xs,H b=some (.tup xs)->H' b=some (.tup xs)):xQ P w H' h' a o:=by induction o with
 | lst xs=>obtain⟨z,its,n,r,e⟩:=x;exact⟨z,its,n,r,k _ _ (.inl rfl) e⟩ | tup xs=>obtain⟨z,its,r,ob,e,c⟩:=x;exact⟨z,its,r,ob,k _ _ (.inl rfl) e,c⟩ | dK kvs=>obtain⟨z,y,vs,r,ob,es,ep,e,c⟩:=x;exact⟨z,y,vs,r,ob,es,ep,k _ _ (.inl rfl) e,c⟩ | dT kvs=>
  obtain⟨z,y,xs,r,ob,es,ep,e,c⟩:=x;exact⟨z,y,xs,Paired.mapP r λp q z=>⟨z.1,ht _ _ z.2.1,z.2.2⟩,ob,es,ep,k _ _ (.inl rfl) e,c⟩ | set S n=>obtain⟨ob,es,ep,t,e,c⟩:=x;exact⟨ob,es,ep,t,k _ _ (.inl rfl) e,c⟩ | ins C dx fs=>
  obtain⟨d,z,ne,e,mA,⟨od,es,ep,e2,c⟩,r⟩:=x;exact⟨ho _ d,z,ne,k _ _ (.inl rfl) e,mA,⟨od,es,ep,k _ _ (.inr d) e2,c⟩,r⟩ | own y=>obtain⟨ob,e⟩:=x;exact⟨ob,k _ _ (.inl rfl) e⟩ | xd fs=>obtain⟨mA,⟨od,es,ep,e,c⟩,r⟩:=x;exact⟨mA,⟨od,es,ep,k _ _ (.inl rfl) e,c⟩,r⟩ | rng lo hi=>obtain⟨t,u,v,e⟩:=x;exact⟨t,u,v,k _ _ (.inl rfl) e⟩ | frz ob u ih=>obtain⟨e,q⟩:=x;exact⟨k _ _ (.inl rfl) e,ih q⟩ | tbl ps=>
  have e:h.get? a=some {cls:=.none,data:=.fields ps}:=x;show h'.get? a=some {cls:=.none,data:=.fields ps};exact k a _ (.inl rfl) e | met f y=>
  have e:h.get? a=some (W.methodObj (.ref f) (.ref y)):=x;show h'.get? a=some (W.methodObj (.ref f) (.ref y));exact k a _ (.inl rfl) e | ext φ=>obtain⟨p,⟨o,e⟩,st⟩:=x;exact⟨st _ _ p λo q=>k _ _ (.inl rfl) q,⟨o,k _ _ (.inl rfl) e⟩,st⟩
theorem HOk.lt(x:HOk P w H h)(e:H a=some o):a<h.objs.size:=(x a o e).lt
theorem HOk.fresh(x:HOk P w H h)(e:h.objs.size<=a):H a=none:=by cases q:H a with
 | none=>rfl | some u=>exact absurd (_h (x.lt q) e) (_ar _)
theorem HOk.kept(x:HOk P w H h)(k:∀b u,h.get? b=some u->h'.get? b=some u):HOk P w H h':=λa o e=> (x a o e).stay (λb u _ q=>k b u q) (λ_ q=>q) λ_ _ q=>q
theorem HOk.laid(x:HOk P w H h)(k:∀b u,h.get? b=some u->h'.get? b=some u)(hp:h.objs.size<=a)(new:xQ P w (upd H a o) h' a o):HOk P w (upd H a o) h':=λb u e=>by
 have hn:=x.fresh hp;by_cases hb:b=a;·subst hb;rw[yi]at e;cases e;exact new
 ·rw[zC hb]at e;exact (x b u e).stay (λc v _ q=>k c v q) (λc q=>by rw[zC (yj q hn)];exact q) λc xs q=>by rw[zC (yj q hn)];exact q
end
def Rd(H:Hp)(a:Addr)(u:HO):Prop:=H a=some u\/∃o,H a=some (.frz o u)
theorem Rd.ok{P:Program}{w:World}{H:Hp}{h:Heap}{a:Addr}{u:HO}(r:Rd H a u)(x:HOk P w H h):xQ P w H h a u:=by
 rcases r with r | ⟨o,r⟩;·exact x a u r
 ·obtain⟨_,q⟩:=x a _ r;exact q
def Mut:Option HO->Prop
 | some (.lst _)=>True | some (.dK _)=>True | some (.dT _)=>True | some (.set _ _)=>True | some (.ins _ _ _)=>True | some (.ext _)=>True | _=>False
section
variable {P:Program}{w:World}{H:Hp}{h h':Heap}{x e:Addr}{o':HO}
theorem HOk.write(ok:HOk P w H h)(mu:Mut (H x))(he:e=x\/H e=some (.own x))(k:∀b u,b≠e->h.get? b=some u->h'.get? b=some u)(heo:∃u,h'.get? e=some u) (new:xQ P w (upd H x o') h' x o'):HOk P w (upd H x o') h':=λb u q=>by
 have nown:∀c y,H c=some (.own y)->c≠x:=λc y r z=>by subst z;rw[r]at mu;exact mu
 have ntup:∀c xs,H c=some (.tup xs)->c≠x:=λc xs r z=>by subst z;rw[r]at mu;exact mu
 by_cases hb:b=x;·subst hb;rw[yi]at q;cases q;exact new
 ·rw[zC hb]at q;by_cases hbe:b=e
  ·have q':H b=some (.own x):=by
    rcases he with z | z;·exact absurd (hbe.trans z) hb
    ·rw[hbe];exact z
   rw[q]at q';cases q';obtain⟨v,hv⟩:=heo;exact⟨v,by rw[hbe];exact hv⟩
  ·refine (ok b u q).stay (λc v hc r=>k c v ?_ r) (λc r=>by rw[zC (nown c b r)];exact r) λc xs r=>by rw[zC (ntup c xs r)];exact r
   rcases hc with rfl | hc;·exact hbe
   ·rintro rfl;rcases he with z | z;·exact nown c b hc z
    ·rw[hc]at z;cases z;exact hb rfl
end
structure Un(fs ex:List Addr)(H H':Hp)(h h':Heap):Prop where
 keep:∀b o,h.get? b=some o->H b=none->b∉fs->b∉ex->h'.get? b=some o
 slot:∀b o,h.get? b=some o->H b=none->b∈fs->b∉ex->∃sl,h'.get? b=some {o with slots:=sl}
 free:∀b o,h.get? b=some o->H b=none->b∉ex->H' b=none
 there:∀b o,h.get? b=some o->b∉ex->∃o',h'.get? b=some o'
 tups:∀b xs,H b=some (.tup xs)->H' b=some (.tup xs)
 frzs:∀b o u,H b=some (.frz o u)->H' b=some (.frz o u)
 tbls:∀b ps,H b=some (.tbl ps)->∃more,H' b=some (.tbl (ps++more))
section
variable {fs fs' ex ex':List Addr}{H H1 H2:Hp}{h h1 h2 h':Heap}{a x e:Addr}{o:HO}
theorem Un.any(u:Un fs ex H H1 h h1){b:Addr}{ob:Obj}(q:h.get? b=some ob)(n:H b=none)(hx:b∉ex):∃sl,h1.get? b=some {ob with slots:=sl}:=by
 by_cases hb:b∈fs;·exact u.slot b ob q n hb hx
 ·exact⟨ob.slots,u.keep b ob q n hb hx⟩
theorem Un.kept(k:∀b u,h.get? b=some u->h'.get? b=some u):Un fs ex H H h h':= ⟨λb ob q _ _ _=>k b ob q,λb ob q _ _ _=>⟨ob.slots,k b ob q⟩,λ_ _ _ n _=>n,λb ob q _=>⟨ob,k b ob q⟩,λ_ _ q=>q,λ_ _ _ q=>q,λ_ ps q=>⟨#[],by rw[q];simp⟩⟩
theorem Un.refl:Un fs ex H H h h:=Un.kept λ_ _ q=>q
theorem Un.laid(k:∀b u,h.get? b=some u->h'.get? b=some u)(hp:h.objs.size<=a)(hn:H a=none):Un fs ex H (upd H a o) h h' where
 keep:=λb u q _ _ _=>k b u q;slot:=λb u q _ _ _=>⟨u.slots,k b u q⟩;free:=λb u q n _=>by rw[zC (_F (_h (_l q) hp))];exact n
 there:=λb u q _=>⟨u,k b u q⟩;tups:=λb xs q=>by rw[zC (yj q hn)];exact q
 frzs:=λb u xs q=>by rw[zC (yj q hn)];exact q
 tbls:=λb ps q=>⟨#[],by rw[zC (yj q hn),q];simp⟩
theorem Un.write(mu:Mut (H x))(he:e=x\/H e=some (.own x))(k:∀b u,b≠e->h.get? b=some u->h'.get? b=some u)(heo:∃u,h'.get? e=some u):Un fs ex H (upd H x o) h h':=by
 have hx:∀b,H b=none->b≠x:=λb n z=>by subst z;rw[n]at mu;exact mu
 have hb:∀b,H b=none->b≠e:=λb n z=>by
  subst z;rcases he with r | r;·exact hx b n r
  ·rw[n]at r;cases r
 have hm:∀b u,H b=some u->¬ Mut (some u)->b≠x:=λb u q nm z=>by subst z;rw[q]at mu;exact nm mu
 refine⟨λb u q n _ _=>k b u (hb b n) q,λb u q n _ _=>⟨u.slots,k b u (hb b n) q⟩,λb u q n _=>by rw[zC (hx b n)];exact n,λb u q _=>?_, λb xs q=>by rw[zC (hm b _ q λz=>z)];exact q,λb u xs q=>by rw[zC (hm b _ q λz=>z)];exact q,λb ps q=>⟨#[],by rw[zC (hm b _ q λz=>z),q];simp⟩⟩;by_cases hbe:b=e;·subst hbe;exact heo
 ·exact⟨u,k b u hbe q⟩
end
def trk(h:Heap)(H:Hp):List Addr:=(List.range h.objs.size).filter λa=>(H a).isSome
def z6c(h:Heap)(H:Hp):Heap:=W.hideAll h (trk h H)
theorem z4f(h:Heap)(H:Hp):(z6c h H).objs.size=h.objs.size:=W.hideAll_size _ _
theorem z6b{h:Heap}{H:Hp}{b:Addr}{o:Obj}(e:h.get? b=some o)(n:H b=none):(z6c h H).get? b=some o:= W.hideAll_get _ e λhm=>by
  have q:(H b).isSome=true:=(List.mem_filter.mp hm).2;rw[n]at q;simp at q
theorem z8Q{h:Heap}{H:Hp}{b:Addr}{o:Obj}(e:(z6c h H).get? b=some o):h.get? b=some o/\H b=none:=by
 have e':h.get? b=some o:=W.of_hideAll (trk h H) e;refine⟨e',?_⟩;cases q:H b with
 | none=>rfl | some x=>
  have hm:b∈trk h H:=List.mem_filter.mpr ⟨List.mem_range.mpr (_l e'),by simp[q]⟩;have z:(z6c h H).get? b=none:=W.hideAll_none (trk h H) hm;rw[z]at e;cases e
def z8w(g h:Heap)(L:Addr):List (Addr×Obj):=(List.range h.objs.size).filterMap λa=>if a=L\/(g.get? a).isSome=true then none else (h.get? a).map λo=>(a,o)
def z3q(g h:Heap)(L d:Addr):List (Addr×Obj):=(z8w g h L).filter λp=>decide (p.1≠d)
structure Mod(K:W.Frag)(mg:Str->Option Value)(base:Heap):Prop where
 kin:K.In base
 glob:base.Ns mainGlobals mg
 blt:∃mb,base.Ns builtinsNs mb/\∀x:Str,x≠"__name__"->mb x=bootBuiltins x
 nolimit:base.NoLimit
structure Cx where
 prog:Program
 w:World
 K:W.Frag
 mg:Str->Option Value
 base:Heap
 A:Around
 N:List Str
 s₀:Shared
 H₀:Hp
 env:Env
 outer:List Env
 stack:List Env
 ex:List Addr
 fn:Str->Bool
 calm:Bool
 pn:List (Addr×Obj)
 xe:Value->Shared->Prop
def frs(l:List Env):List Addr:=l.filterMap (·.frame)
abbrev Cx.fs(X:Cx):List Addr:=frs X.outer
def Vis(sc:Scope)(x:Str):Prop:=sc.names.lookup x=some .local\/sc.names.lookup x=some .cell\/sc.names.lookup x=some .free
def Loc(sc:Scope)(x:Str):Prop:=sc.names.lookup x=some .local\/sc.names.lookup x=some .cell
def zcV(env:Env)(h:Heap)(m:Str->Option Value)(x:Str)(u:Value):Prop:= (env.kindOf x=some .local/\m x=some u)\/((env.kindOf x=some .cell\/env.kindOf x=some .free)/\∃c,env.cells.lookup x=some c/\h.IsCell c (some u))
structure Cx.Ok(X:Cx):Prop where
 mod:Mod X.K X.mg X.base
 kind:X.env.scope.kind=.function
 glob:X.env.globals=mainGlobals
 blt:X.env.builtins=builtinsNs
 above:X.s₀.heap.objs.size<=X.env.locals
 inj:∀x y c,X.env.cells.lookup x=some c->X.env.cells.lookup y=some c->x=y
 has:∀x,(X.env.kindOf x=some .cell\/X.env.kindOf x=some .free)->∃c,X.env.cells.lookup x=some c
 cab:∀x c,X.fn x=true->X.env.cells.lookup x=some c->X.s₀.heap.objs.size<=c
 hd:X.calm=true->X.A.handled=none
 frames:X.A.frames=some X.stack
 stk:X.stack=X.outer\/(X.stack=X.env::X.outer/\X.env.frame=some X.env.locals)
 exf:∀b∈X.ex,b≠X.env.locals/\∀x c,X.env.cells.lookup x=some c->c≠b
 bs:∀b o,X.base.get? b=some o->X.s₀.heap.get? b=some o/\X.H₀ b=none
 bsz:X.base.objs.size<=X.s₀.heap.objs.size
 noex:∀b o,X.base.get? b=some o->b∉X.ex
 exfs:∀b∈X.ex,b∉X.fs
 funs:X.s₀.heap.FunFrames X.base X.outer
 frf:∀b∈X.fs,X.H₀ b=none
structure Inv(X:Cx)(pins:List (Addr×Obj))(O:List (Option V))(H:Hp)(s:Shared):Prop where
 ok:X.Ok
 os:s.os=X.s₀.os
 bare:AllBare s.gens
 base:Un X.fs X.ex X.H₀ H X.s₀.heap s.heap
 loc:∃m,s.heap.Ns X.env.locals m/\∀(i:Nat)(x:Str)(v:V),X.N[i]? = some x->O[i]? = some (some v)->Vis X.env.scope x->∃u,xL v u/\zcV X.env s.heap m x u
 cell:∀x c,X.env.cells.lookup x=some c->∃v,s.heap.IsCell c v
 free:H X.env.locals=none
 freeC:∀x c,X.env.cells.lookup x=some c->H c=none
 pin:∀p∈X.pn++pins,s.heap.get? p.1=some p.2/\H p.1=none/\p.1≠X.env.locals/\p.1∉X.fs/\∀v,p.2.data≠.cell v
 hok:HOk X.prog X.w H s.heap
 len:O.length=X.N.length
section
variable {X:Cx}{pins:List (Addr×Obj)}{O:List (Option V)}{H H':Hp}{s:Shared}{h':Heap}
theorem Cx.Ok.nofr(ok:X.Ok){b:Addr}{o:Obj}(e:X.base.get? b=some o):b∉X.fs:=λhb=>by
 have:=(ok.funs.mem hb).1;rw[e]at this;cases this
theorem Inv.bs(I:Inv X pins O H s):∀b o,X.base.get? b=some o->s.heap.get? b=some o/\H b=none:=λb o e=> ⟨I.base.keep b o (I.ok.bs b o e).1 (I.ok.bs b o e).2 (I.ok.nofr e) (I.ok.noex b o e),I.base.free b o (I.ok.bs b o e).1 (I.ok.bs b o e).2 (I.ok.noex b o e)⟩
theorem Inv.bk(I:Inv X pins O H s):∀b o,X.base.get? b=some o->s.heap.get? b=some o:=λb o e=>(I.bs b o e).1
theorem Inv.mod(I:Inv X pins O H s):Mod X.K X.mg X.base:=I.ok.mod
theorem Inv.kIn(I:Inv X pins O H s):X.K.In s.heap:=I.ok.mod.kin.keeps I.bk
theorem Inv.fr(I:Inv X pins O H s):∃m,Fr X.base X.env.locals s.heap m:= let ⟨m,hn,_⟩:=I.loc;⟨m,hn,I.bk,_B I.ok.bsz I.ok.above⟩
theorem Inv.lt(I:Inv X pins O H s):X.env.locals<s.heap.objs.size:=let ⟨_,hn,_⟩:=I.loc;hn.lt
theorem Inv.sz(I:Inv X pins O H s):X.s₀.heap.objs.size<=s.heap.objs.size:=_B I.ok.above (_bZ I.lt)
theorem Inv.nofs(I:Inv X pins O H s){a:Addr}(h:s.heap.objs.size<=a):a∉X.fs:=λhb=>by
 obtain⟨_,o,ho,_⟩:=I.ok.funs.mem hb;exact absurd (_h (_l ho) (_B I.sz h)) (_ar _)
theorem Inv.cne(I:Inv X pins O H s):∀x c,X.env.cells.lookup x=some c->c≠X.env.locals:=λx c e z=>by
 obtain⟨v,o,ho,hd⟩:=I.cell x c e;obtain⟨m,⟨o',es,ep,ho',hd',_⟩,_⟩:=I.loc;rw[z,ho']at ho;cases ho;rw[hd']at hd;cases hd
theorem Inv.funs(I:Inv X pins O H s):s.heap.FunFrames X.base X.outer:=by
 have all:∀(l:List Env),(∀b∈frs l,b∈X.fs)->X.s₀.heap.FunFrames X.base l->s.heap.FunFrames X.base l:=by
  intro l;induction l with
  | nil=>intro _ _;trivial | cons env r ih=>
   intro hs hl;obtain⟨hk,⟨L,o,hf,hn,ho,hd⟩,hr⟩:=hl;have hL:L∈X.fs:=hs L (by unfold frs;rw[_bs,hf];exact _N);obtain⟨sl,e⟩:=I.base.slot L o ho (I.ok.frf L hL) hL λz=>I.ok.exfs L z hL;exact⟨hk,⟨L,_,hf,hn,e,hd⟩,ih (λb hb=>hs b (by unfold frs;rw[_bs,hf];exact _z _ hb)) hr⟩
 exact all X.outer (λ_ hb=>hb) I.ok.funs
theorem Inv.stack(I:Inv X pins O H s):s.heap.FunFrames X.base X.stack:=by
 rcases I.ok.stk with e | ⟨e,hf⟩;·rw[e];exact I.funs
 ·rw[e];obtain⟨m,hn,_⟩:=I.loc;refine .cons (by rw[I.ok.kind];decide) hf hn ?_ I.funs;exact Heap.get?_none_of_le (_B I.ok.bsz I.ok.above)
theorem Inv.stkSub(I:Inv X pins O H s):∀b∈frs X.stack,b∈X.env.locals::X.fs:=λb hb=>by
 rcases I.ok.stk with e | ⟨e,hf⟩;·rw[e]at hb;exact _z _ hb
 ·rw[e]at hb;unfold frs at hb;rw[_bs,hf]at hb;exact hb
theorem Inv.stkFree(I:Inv X pins O H s):∀b∈frs X.stack,H b=none:=λb hb=>by
 rcases _p.mp (I.stkSub b hb) with e | hb;·rw[e];exact I.free
 ·obtain⟨_,o,ho,_⟩:=I.ok.funs.mem hb;exact I.base.free b o ho (I.ok.frf b hb) λz=>I.ok.exfs b z hb
theorem Inv.step{g':Array GenState}{t':Nat}{d':Drawn}{ch:List Addr}(I:Inv X pins O H s) (hch:∀b∈ch,(b∈X.ex\/X.s₀.heap.objs.size<=b)/\b≠X.env.locals/\(∀x c,X.env.cells.lookup x=some c->c≠b)/\∀p∈X.pn++pins,p.1≠b) (keep:∀b o,b≠X.env.locals->b∉X.fs->b∉ch->s.heap.get? b=some o->H b=none->h'.get? b=some o) (slot:∀b o,b≠X.env.locals->b∈X.fs->b∉ch->s.heap.get? b=some o->H b=none->∃sl,h'.get? b=some {o with slots:=sl})(free:∀b o,b∉ch->s.heap.get? b=some o->H b=none->H' b=none) (there:∀b o,b∉ch->s.heap.get? b=some o->∃o',h'.get? b=some o') (tups:∀b xs,H b=some (.tup xs)->H' b=some (.tup xs))(frzs:∀b o u,H b=some (.frz o u)->H' b=some (.frz o u))(tbls:∀b ps,H b=some (.tbl ps)->∃more,H' b=some (.tbl (ps++more))) (ns:∀m,s.heap.Ns X.env.locals m->h'.Ns X.env.locals m)(hok:HOk X.prog X.w H' h')(hg:AllBare g'): Inv X pins O H' {s with heap:=h',gens:=g',drawn:=d',toks:=t'}:=by
 have neL:∀b o,X.s₀.heap.get? b=some o->b≠X.env.locals:=λb o e=>_F (_h (_l e) I.ok.above);have neC:∀b o,X.s₀.heap.get? b=some o->b∉X.ex->b∉ch:=λb o e hx hb=>by
  rcases (hch b hb).1 with z | z;·exact hx z
  ·exact absurd (_h (_l e) z) (_ar _)
 have cellK:∀x c,X.env.cells.lookup x=some c->∀v,s.heap.IsCell c v->h'.IsCell c v:=λx c e v ⟨o,ho,hd⟩=>by
  have nch:c∉ch:=λz=>(hch c z).2.2.1 x c e rfl;by_cases hc:c∈X.fs
  ·obtain⟨sl,q⟩:=slot c o (I.cne x c e) hc nch ho (I.freeC x c e);exact⟨_,q,hd⟩
  ·exact⟨o,keep c o (I.cne x c e) hc nch ho (I.freeC x c e),hd⟩
 refine⟨I.ok,I.os,hg,⟨λb o e n hb hx=>?_,λb o e n hb hx=>?_,λb o e n hx=>?_,λb o e hx=>?_,λb xs e=>tups b xs (I.base.tups b xs e),λb o xs e=>frzs b o xs (I.base.frzs b o xs e),λb ps e=>?_⟩,?_,λx c e=>?_,?_,λx c e=>?_,λp hp=>?_,hok,I.len⟩;·exact keep b o (neL b o e) hb (neC b o e hx) (I.base.keep b o e n hb hx) (I.base.free b o e n hx)
 ·obtain⟨sl,e1⟩:=I.base.slot b o e n hb hx;obtain⟨sl',e2⟩:=slot b _ (neL b o e) hb (neC b o e hx) e1 (I.base.free b o e n hx);exact⟨sl',e2⟩
 ·obtain⟨o',e1⟩:=I.base.there b o e hx;exact free b o' (neC b o e hx) e1 (I.base.free b o e n hx)
 ·obtain⟨o',e1⟩:=I.base.there b o e hx;exact there b o' (neC b o e hx) e1
 ·obtain⟨m1,e1⟩:=I.base.tbls b ps e;obtain⟨m2,e2⟩:=tbls b _ e1;exact⟨m1++m2,by rw[e2,Array.append_assoc]⟩
 ·obtain⟨m,hn,hl⟩:=I.loc;refine⟨m,ns m hn,λi x v e1 e2 e3=>?_⟩;obtain⟨u,r,l⟩:=hl i x v e1 e2 e3;refine⟨u,r,?_⟩;rcases l with l | ⟨k,c,e,z⟩;·exact .inl l
  ·exact .inr ⟨k,c,e,cellK x c e _ z⟩
 ·obtain⟨v,z⟩:=I.cell x c e;exact⟨v,cellK x c e v z⟩
 ·obtain⟨m,⟨o,_,_,ho,_⟩,_⟩:=I.loc;exact free _ o (λz=>(hch _ z).2.1 rfl) ho I.free
 ·obtain⟨v,o,ho,hd⟩:=I.cell x c e;exact free c o (λz=>(hch c z).2.2.1 x c e rfl) ho (I.freeC x c e)
 ·obtain⟨e,n,ne,nf,d⟩:=I.pin p hp;have nch:p.1∉ch:=λz=>(hch p.1 z).2.2.2 p hp rfl;exact⟨keep p.1 p.2 ne nf nch e n,free p.1 p.2 nch e n,ne,nf,d⟩
theorem Inv.un {t':Nat} (I:Inv X pins O H s) (u:Un X.fs [] H H' s.heap h') (hok:HOk X.prog X.w H' h'):Inv X pins O H' {s with heap:=h',toks:=t'}:=by
 obtain⟨m,⟨o,es,ep,ho,r⟩,_⟩:=id I.loc;obtain⟨sl,hL⟩:=u.any ho I.free (by simp);exact I.step (g':=s.gens) (d':=s.drawn) (ch:=[]) (λ_ z=>nomatch z) (λb o _ hb _ e n=>u.keep b o e n hb (by simp)) (λb o _ hb _ e n=>u.slot b o e n hb (by simp)) (λb o _ e n=>u.free b o e n (by simp)) (λb o _ e=>u.there b o e (by simp)) u.tups u.frzs u.tbls (λm' hm=>by
  obtain⟨o',es',ep',ho',r'⟩:=hm;rw[ho]at ho';cases ho';exact⟨_,es',ep',hL,r'⟩) hok I.bare
theorem Inv.call{g':Array GenState}{t':Nat}{d':Drawn}{ch:List Addr}(I:Inv X pins O H s)(u:Un (frs X.stack) ch H H' s.heap h')(hok:HOk X.prog X.w H' h')(hg:AllBare g') (hch:∀b∈ch,(b∈X.ex\/X.s₀.heap.objs.size<=b)/\b≠X.env.locals/\(∀x c,X.env.cells.lookup x=some c->c≠b)/\∀p∈X.pn++pins,p.1≠b): Inv X pins O H' {s with heap:=h',gens:=g',drawn:=d',toks:=t'}:=by
 obtain⟨m,⟨o,es,ep,ho,r⟩,_⟩:=id I.loc;obtain⟨sl,hL⟩:=u.any ho I.free λz=>(hch _ z).2.1 rfl;exact I.step (ch:=ch) hch (λb o hL hb hc e n=>u.keep b o e n (λz=>(_p.mp (I.stkSub b z)).elim hL hb) hc) (λb o _ _ hc e n=>u.any e n hc) (λb o hc e n=>u.free b o e n hc) (λb o hc e=>u.there b o e hc) u.tups u.frzs u.tbls (λm' hm=>by
  obtain⟨o',es',ep',ho',r'⟩:=hm;rw[ho]at ho';cases ho';exact⟨_,es',ep',hL,r'⟩) hok hg
theorem Inv.turned {t':Nat} {it:Addr} (I:Inv X pins O H s) (k:∀b o,b≠it->s.heap.get? b=some o->h'.get? b=some o) (hn:H it=none) (hL:it≠X.env.locals) (h1:it∈X.ex\/X.s₀.heap.objs.size<=it) (h2:∀x c,X.env.cells.lookup x=some c->c≠it) (h3:∀p∈X.pn++pins,p.1≠it):Inv X pins O H {s with heap:=h',toks:=t'}:=by
 have nit:∀b u,H b=some u->b≠it:=λb u e z=>by rw[z,hn]at e;cases e
 refine I.step (g':=s.gens) (d':=s.drawn) (ch:=[it]) (λb hb=>?_) (λb o _ _ hc e _=>k b o (λz=>hc (by simp[z])) e) (λb o _ _ hc e _=>⟨o.slots,k b o (λz=>hc (by simp[z])) e⟩) (λ_ _ _ _ n=>n) (λb o hc e=>⟨o,k b o (λz=>hc (by simp[z])) e⟩) (λ_ _ e=>e) (λ_ _ _ e=>e) (λb ps e=>⟨#[],by rw[e];simp⟩) (λm hm=>?_) (λb u e=>?_) I.bare
 ·have e:b=it:=by simpa using hb
  subst e;exact⟨h1,hL,h2,h3⟩
 ·obtain⟨o,es,ep,ho,r⟩:=hm;exact⟨o,es,ep,k _ o (_aH hL) ho,r⟩
 ·refine (I.hok b u e).stay (λc v hc q=>k c v ?_ q) (λ_ q=>q) λ_ _ q=>q;rcases hc with z | z;·rw[z];exact nit b u e
  ·exact nit c _ z
theorem Inv.tok (I:Inv X pins O H s) (t:Nat):Inv X pins O H {s with toks:=t}:=I.un (h':=s.heap) (t':=t) Un.refl I.hok
theorem Inv.kept{t':Nat}(I:Inv X pins O H s)(k:∀b u,s.heap.get? b=some u->h'.get? b=some u):Inv X pins O H {s with heap:=h',toks:=t'}:=I.un (Un.kept k) (I.hok.kept k)
theorem Inv.laid {a:Addr} {o:HO} {t':Nat} (I:Inv X pins O H s) (k:∀b u,s.heap.get? b=some u->h'.get? b=some u) (hp:s.heap.objs.size<=a) (new:xQ X.prog X.w (upd H a o) h' a o): Inv X pins O (upd H a o) {s with heap:=h',toks:=t'}:=I.un (Un.laid k hp (I.hok.fresh hp)) (I.hok.laid k hp new)
theorem Inv.write {x e:Addr} {o:HO} {t':Nat} (I:Inv X pins O H s) (mu:Mut (H x)) (he:e=x\/H e=some (.own x)) (k:∀b u,b≠e->s.heap.get? b=some u->h'.get? b=some u) (heo:∃u,h'.get? e=some u) (new:xQ X.prog X.w (upd H x o) h' x o):Inv X pins O (upd H x o) {s with heap:=h',toks:=t'}:=I.un (Un.write mu he k heo) (I.hok.write mu he k heo new)
theorem Inv.weak{O':List (Option V)}(I:Inv X pins O H s)(hl:O'.length=O.length)(w:∀(i:Nat) v,O'[i]? = some (some v)->O[i]? = some (some v)):Inv X pins O' H s:= ⟨I.ok,I.os,I.bare,I.base,let ⟨m,hn,hl'⟩:=I.loc;⟨m,hn,λi x v e1 e2 e3=>hl' i x v e1 (w i v e2) e3⟩,I.cell,I.free,I.freeC,I.pin,I.hok,hl.trans I.len⟩
theorem Inv.pins_of{pins':List (Addr×Obj)}(I:Inv X pins O H s)(h:∀p∈pins',s.heap.get? p.1=some p.2/\H p.1=none/\p.1≠X.env.locals/\p.1∉X.fs/\∀v,p.2.data≠.cell v):Inv X pins' O H s:= ⟨I.ok,I.os,I.bare,I.base,I.loc,I.cell,I.free,I.freeC,λp hp=>(_i.mp hp).elim (λz=>I.pin p (_bj _ z)) (h p),I.hok,I.len⟩
theorem z2L{N:List Str}(hN:N.Nodup){i j:Nat}{x:Str}(a:N[i]? = some x)(b:N[j]? = some x):i=j:=by
 obtain⟨h1,e1⟩:=_b.mp a;obtain⟨h2,e2⟩:=_b.mp b;exact (_bd hN).mp (e1.trans e2.symm)
theorem jV{M:Model}{A:Around}{E:Value->Shared->Prop}{i:Nat}{x:Str}{v:V}{u:Value}{Q:Unit->Shared->Prop}(I:Inv X pins O H s)(hN:X.N.Nodup)(hi:X.N[i]? = some x)(hx:Loc X.env.scope x)(r:xL v u) (h:∀s',Inv X pins (O.set i (some v)) H s'->(∃a,Heap.SameBut a s.heap s'.heap/\(a=X.env.locals\/X.env.cells.lookup x=some a))->Q () s')(hf:X.fn x=true\/X.env.scope.names.lookup x=some .local:=by first | exact .inl rfl | exact .inr rfl | assumption):wpAny M A (storeName X.env x u) Q E s:=by
 obtain⟨m,hn,hl⟩:=id I.loc;have hcls:(X.env.scope.kind==.class||(X.env.scope.kind==.module&&X.env.locals != X.env.globals))=false:=by rw[I.ok.kind];rfl
 have hiO:i<O.length:=by rw[I.len];exact (_b.mp hi).1
 have cne:=I.cne;have tracked:∀{a:Addr}{h':Heap},(∃o,s.heap.get? a=some o/\H a=none)->Heap.SameBut a s.heap h'->HOk X.prog X.w H h':=λ{a h'} ha hs b ob e=>by
  obtain⟨_,_,hfree⟩:=ha;refine (I.hok b ob e).stay (λc w' hc q=>(hs.2 c ?_).trans q) (λ_ q=>q) λ_ _ q=>q;rintro rfl;rcases hc with rfl | hc;·rw[hfree]at e;cases e
  ·rw[hfree]at hc;cases hc
 rcases hx with hk | hk
 ·refine wpAny_storeName_local hk hn (λh' hn' hs=>?_) hcls;obtain⟨oL,_,_,hoL,_⟩:=id hn;refine h _ ⟨I.ok,I.os,I.bare,⟨λb o e n hb hx=>?_,λb o e n hb hx=>?_,I.base.free,λb o e hx=>?_,I.base.tups,I.base.frzs,I.base.tbls⟩,⟨_,hn',λj y v' e1 e2 e3=>?_⟩,λy c e=>?_,I.free,I.freeC,λp hp=>?_,tracked ⟨oL,hoL,I.free⟩ hs,by simpa using I.len⟩ ⟨_,hs,.inl rfl⟩;·exact (hs.2 b (_F (_h (_l e) I.ok.above))).trans (I.base.keep b o e n hb hx)
  ·obtain⟨sl,e1⟩:=I.base.slot b o e n hb hx;exact⟨sl,(hs.2 b (_F (_h (_l e) I.ok.above))).trans e1⟩
  ·obtain⟨o',e1⟩:=I.base.there b o e hx;exact⟨o',(hs.2 b (_F (_h (_l e) I.ok.above))).trans e1⟩
  ·by_cases hj:j=i
   ·subst hj;rw[hi]at e1;cases e1;rw[_v hiO]at e2;cases e2;exact⟨u,r,.inl ⟨hk,by simp⟩⟩
   ·rw[_f (_aH hj)]at e2;obtain⟨u',r',q⟩:=hl j y v' e1 e2 e3;refine⟨u',r',?_⟩;rcases q with⟨k,e⟩ | ⟨k,c,e,z⟩
    ·refine .inl ⟨k,?_⟩;have:y≠x:=λe=>hj (z2L hN e1 (e ▸ hi));simp[this,e]
    ·exact .inr ⟨k,c,e,z.sameBut hs (cne y c e)⟩
  ·obtain⟨w',z⟩:=I.cell y c e;exact⟨w',z.sameBut hs (cne y c e)⟩
  ·obtain⟨e,n,ne,nf,d⟩:=I.pin p hp;exact⟨(hs.2 p.1 ne).trans e,n,ne,nf,d⟩
 ·have hfn:X.fn x=true:=by
   rcases hf with z | z;·exact z
   ·rw[z]at hk;cases hk
  obtain⟨c,hc⟩:=I.ok.has x (.inl hk);obtain⟨w',z⟩:=I.cell x c hc;refine wpAny_storeName_cell I.ok.kind hk hc z (λh' hc' hs=>?_);obtain⟨oc,hoc,hocd⟩:=id z;refine h {s with heap:=h'} ⟨I.ok,I.os,I.bare,⟨λb o e n hb hx=>?_,λb o e n hb hx=>?_,I.base.free,λb o e hx=>?_,I.base.tups,I.base.frzs,I.base.tbls⟩,⟨m,hn.sameBut hs (_aH (cne x c hc)),λj y v' e1 e2 e3=>?_⟩,λy c' e=>?_,I.free,I.freeC,λp hp=>?_,tracked ⟨oc,hoc,I.freeC x c hc⟩ hs,by simpa using I.len⟩ ⟨c,hs,.inr hc⟩;·exact (hs.2 b (_F (_h (_l e) (I.ok.cab x c hfn hc)))).trans (I.base.keep b o e n hb hx)
  ·obtain⟨sl,e1⟩:=I.base.slot b o e n hb hx;exact⟨sl,(hs.2 b (_F (_h (_l e) (I.ok.cab x c hfn hc)))).trans e1⟩
  ·obtain⟨o',e1⟩:=I.base.there b o e hx;exact⟨o',(hs.2 b (_F (_h (_l e) (I.ok.cab x c hfn hc)))).trans e1⟩
  ·by_cases hj:j=i
   ·subst hj;rw[hi]at e1;cases e1;rw[_v hiO]at e2;cases e2;exact⟨u,r,.inr ⟨.inl hk,c,hc,hc'⟩⟩
   ·rw[_f (_aH hj)]at e2;obtain⟨u',r',q⟩:=hl j y v' e1 e2 e3;refine⟨u',r',?_⟩;rcases q with q | ⟨k,c',e,z'⟩;·exact .inl q
    ·refine .inr ⟨k,c',e,z'.sameBut hs ?_⟩;rintro rfl;exact hj (z2L hN e1 (I.ok.inj _ _ _ e hc ▸ hi))
  ·by_cases hcc:c'=c;·subst hcc;exact⟨_,hc'⟩
   ·obtain⟨w2,z2⟩:=I.cell y c' e;exact⟨w2,z2.sameBut hs hcc⟩
  ·obtain⟨e,n,ne,nf,d⟩:=I.pin p hp;refine⟨(hs.2 p.1 ?_).trans e,n,ne,nf,d⟩;intro q;rw[q,hoc]at e;have q':oc=p.2:=_G e;exact d w' (by rw[<- q'];exact hocd)
theorem qX{M:Model}{A:Around}{E:Value->Shared->Prop}{i:Nat}{x:Str}{v:V}{u:Value}{Q:Unit->Shared->Prop}(I:Inv X pins O H s)(hN:X.N.Nodup)(hi:X.N[i]? = some x)(hx:Loc X.env.scope x)(r:xL v u) (h:∀s',Inv X pins (O.set i (some v)) H s'->Q () s')(hf:X.fn x=true\/X.env.scope.names.lookup x=some .local:=by first | exact .inl rfl | exact .inr rfl | assumption):wpAny M A (storeName X.env x u) Q E s:= jV I hN hi hx r (λs' I' _=>h s' I') hf
theorem Inv.call' {s':Shared} {ch:List Addr} (I:Inv X pins O H s) (ho:s'.os=s.os) (u:Un (frs X.stack) ch H H' s.heap s'.heap) (hok:HOk X.prog X.w H' s'.heap) (hg:AllBare s'.gens) (hch:∀b∈ch,(b∈X.ex\/X.s₀.heap.objs.size<=b)/\b≠X.env.locals/\(∀x c,X.env.cells.lookup x=some c->c≠b)/\∀p∈X.pn++pins,p.1≠b):Inv X pins O H' s':=by
 obtain⟨h',g',d',t',o'⟩:=s';have e:o'=s.os:=ho;subst e;exact I.call (g':=g') (t':=t') (d':=d') u hok hg hch
end
abbrev XK:=Value->Option Addr->Hp->Prop
abbrev St:=List (Option V)
abbrev VK:=V->Hp->Prop
abbrev TE:=St->Hp->VK->Prop
abbrev TT:=St->Hp->(Bool->Hp->Prop)->Prop
abbrev TA:=St->Hp->(List V->Hp->Prop)->Prop
structure z8b where
 nx:St->Hp->Prop
 rt:VK
 bk:St->Hp->Prop:=λ_ _=>False
 ct:St->Hp->Prop:=λ_ _=>False
abbrev TS:=z8b->St->Hp->Prop
def EP(X:Cx)(pins:List (Addr×Obj))(O:St)(Q:VK)(u:Value)(s':Shared):Prop:=∃v H',Inv X pins O H' s'/\xL v u/\Q v H'
def TP(X:Cx)(pins:List (Addr×Obj))(O:St)(Q:Bool->Hp->Prop)(b:Bool)(s':Shared):Prop:=∃H',Inv X pins O H' s'/\Q b H'
def AP(X:Cx)(pins:List (Addr×Obj))(O:St)(Q:List V->Hp->Prop)(us:List Value)(s':Shared):Prop:=∃vs H',Inv X pins O H' s'/\yC vs us/\Q vs H'
def SP(X:Cx)(pins:List (Addr×Obj))(D:z8b)(f:Flow)(s':Shared):Prop:= match f with
 | .next=>∃O' H',Inv X pins O' H' s'/\D.nx O' H' | .brk=>∃O' H',Inv X pins O' H' s'/\D.bk O' H' | .cont=>∃O' H',Inv X pins O' H' s'/\D.ct O' H' | .ret u=>∃v O' H',Inv X pins O' H' s'/\xL v u/\D.rt v H'
def PE(X:Cx)(e:Expr)(t:TE):Prop:= ∀(pins:List (Addr×Obj))(s:Shared)(O:St)(H:Hp)(Q:VK),Inv X pins O H s->t O H Q->wpAny (model X.prog X.w) X.A (eval e X.env) (EP X pins O Q) X.xe s
def PT(X:Cx)(e:Expr)(t:TT):Prop:= ∀(pins:List (Addr×Obj))(s:Shared)(O:St)(H:Hp)(Q:Bool->Hp->Prop),Inv X pins O H s->t O H Q->wpAny (model X.prog X.w) X.A (isTrue e X.env (eval e X.env)) (TP X pins O Q) X.xe s
def PW(X:Cx)(e:Expr)(t:TT):Prop:= ∀(whole:Sem Value)(pins:List (Addr×Obj))(s:Shared)(O:St)(H:Hp)(Q:Bool->Hp->Prop),Inv X pins O H s->t O H Q->wpAny (model X.prog X.w) X.A (isTrue e X.env whole) (TP X pins O Q) X.xe s
theorem PW.pt{X:Cx}{e:Expr}{t:TT}(h:PW X e t):PT X e t:=h _
def PA(X:Cx)(es:List Expr)(t:TA):Prop:= ∀(pos:Pos)(pins:List (Addr×Obj))(s:Shared)(O:St)(H:Hp)(Q:List V->Hp->Prop),Inv X pins O H s->t O H Q->wpAny (model X.prog X.w) X.A (spliced (backTo pos (starEach es X.env))) (AP X pins O Q) X.xe s
def PS(X:Cx)(st:Stmt)(t:TS):Prop:= ∀(pins:List (Addr×Obj))(s:Shared)(O:St)(H:Hp)(D:z8b),Inv X pins O H s->t D O H->wpAny (model X.prog X.w) X.A (exec st X.env) (SP X pins D) X.xe s
def PSs(X:Cx)(st:List Stmt)(t:TS):Prop:= ∀(pins:List (Addr×Obj))(s:Shared)(O:St)(H:Hp)(D:z8b),Inv X pins O H s->t D O H->wpAny (model X.prog X.w) X.A (execs st X.env) (SP X pins D) X.xe s
theorem thn{α:Type}{t:Sem α}{Q Q':α->Shared->Prop}{M:Model}{A:Around}{E:Value->Shared->Prop}{s:Shared}(h:wpAny M A t Q E s)(hQ:∀a s,Q a s->Q' a s):wpAny M A t Q' E s:=_ae h hQ λ_ _ x=>x
section
variable {X:Cx}
theorem bin{a b:Expr}{ta tb:TE}(ha:PE X a ta)(hb:PE X b tb){pins:List (Addr×Obj)}{s:Shared}{O:St}{H:Hp}{R:V->V->Hp->Prop}(I:Inv X pins O H s)(h:ta O H λx H1=>tb O H1 λy H2=>R x y H2) {α:Type}{Q:α->Shared->Prop}{f:Value->Value->Sem α} (hf:∀v u s2 x y H2,Inv X pins O H2 s2->xL x v->xL y u->R x y H2->wpAny (model X.prog X.w) X.A (f v u) Q X.xe s2): wpAny (model X.prog X.w) X.A (eval a X.env) (λv s₁=>wpAny (model X.prog X.w) X.A (eval b X.env) (λu s₂=>wpAny (model X.prog X.w) X.A (f v u) Q X.xe s₂) X.xe s₁) X.xe s:=by
 refine thn (ha pins s O H _ I h) λv s1 ⟨x,H1,I1,r1,q1⟩=>?_;refine thn (hb pins s1 O H1 _ I1 q1) λu s2 ⟨y,H2,I2,r2,q2⟩=>?_;exact hf v u s2 x y H2 I2 r1 r2 q2
def zdb(i:Nat):TE:=λO H Q=>∃v,O[i]? = some (some v)/\Q v H
def tC(v:V):TE:=λ_ H Q=>Q v H
theorem z9L{i:Nat}{x:Str}{pos:Pos}(hN:X.N[i]? = some x)(hv:Vis X.env.scope x)(hd:(x==("__debug__":Str))=false:=by decide)(hcd:(x==("__classdict__":Str))=false:=by decide):PE X (.Name x pos) (zdb i):=by
 intro pins s O H Q I h;obtain⟨v,e,h⟩:=h;obtain⟨m,hn,hl⟩:=I.loc;obtain⟨u,r,l⟩:=hl i x v hN e hv;have fin:EP X pins O Q u s:=⟨v,H,I,r,h⟩;rcases l with⟨hk,hm⟩ | ⟨hk,c,hc,hcell⟩;·exact wpAny_Name (wpAny_loadName_local I.ok.kind hk hn hm fin) hd
 ·rcases hk with hk | hk;·exact wpAny_Name (wpAny_loadName_cell I.ok.kind hk hc hcell fin) hd
  ·exact wpAny_Name (wpAny_loadName_free I.ok.kind hk hc hcell fin hcd) hd
theorem zaB{i j pos}:PE X (.Constant (.int i) j pos) (tC (.int i)):=λ_ _ _ H _ I h=>wpAny_Constant_int ⟨.int i,H,I.tok _,⟨_,rfl⟩,h⟩
theorem zbB{b j pos}:PE X (.Constant (.bool b) j pos) (tC (.bl b)):=λ_ _ _ H _ I h=>Constant_bool ⟨.bl b,H,I,rfl,h⟩
theorem za4{j pos}:PE X (.Constant .none j pos) (tC .non):=λ_ _ _ H _ I h=>Constant_none ⟨.non,H,I,rfl,h⟩
theorem z9Q{x j pos}:PE X (.Constant (.str x) j pos) (tC (.str x)):=λ_ _ _ H _ I h=>Calls.Constant_str ⟨.str x,H,I.tok _,⟨_,rfl⟩,h⟩
def Gl(X:Cx)(x:Str):Prop:=X.env.kindOf x=some .globalImplicit
theorem z5A{E:Value->Shared->Prop}{pins:List (Addr×Obj)}{s:Shared}{O:St}{H:Hp}{x:Str}{u:Value}{pos:Pos}{Q:Value->Shared->Prop}(I:Inv X pins O H s)(hg:Gl X x)(hm:X.mg x=some u)(h:Q u s) (hd:(x==("__debug__":Str))=false:=by decide):wpAny (model X.prog X.w) X.A (eval (.Name x pos) X.env) Q E s:= Calls.Name_function_global I.ok.kind hg (Calls.loadGlobal_global (by rw[I.ok.glob];exact I.mod.glob.keeps I.bk) hm h) hd
theorem z05{E:Value->Shared->Prop}{pins:List (Addr×Obj)}{s:Shared}{O:St}{H:Hp}{x:Str}{u:Value}{pos:Pos}{Q:Value->Shared->Prop}(I:Inv X pins O H s)(hg:Gl X x)(hm:X.mg x=none)(hv:bootBuiltins x=some u)(h:Q u s) (hn:x≠"__name__":=by decide)(hd:(x==("__debug__":Str))=false:=by decide):wpAny (model X.prog X.w) X.A (eval (.Name x pos) X.env) Q E s:=by
 obtain⟨mb,h1,h2⟩:=I.mod.blt;exact Calls.Name_function_global I.ok.kind hg (Calls.loadGlobal_builtin (by rw[I.ok.glob];exact I.mod.glob.keeps I.bk) hm (by rw[I.ok.blt];exact h1.keeps I.bk) ((h2 x hn).trans hv) h) hd
theorem z57{x:Str}{v:V}{u:Value}{pos:Pos}(hg:Gl X x)(hm:X.mg x=some u)(r:xL v u)(hd:(x==("__debug__":Str))=false:=by decide):PE X (.Name x pos) (tC v):= λ_ _ _ H _ I h=>z5A I hg hm ⟨v,H,I,r,h⟩ hd
theorem z83{x:Str}{v:V}{u:Value}{pos:Pos}(hg:Gl X x)(hm:X.mg x=none)(hv:bootBuiltins x=some u)(r:xL v u)(hn:x≠"__name__":=by decide)(hd:(x==("__debug__":Str))=false:=by decide):PE X (.Name x pos) (tC v):= λ_ _ _ H _ I h=>z05 I hg hm hv ⟨v,H,I,r,h⟩ hn hd
variable {a b:Expr}{ta tb:TE}{pos:Pos}
def PC(X:Cx)(op:CmpOp)(a b:Expr)(t:TE):Prop:= ∀(pins:List (Addr×Obj))(s:Shared)(O:St)(H:Hp)(Q:VK),Inv X pins O H s->t O H Q-> wpAny (model X.prog X.w) X.A (eval a X.env) (λv s₁=>wpAny (model X.prog X.w) X.A (eval b X.env) (λu s₂=>wpAny (model X.prog X.w) X.A (compareOp op v u) (EP X pins O Q) X.xe s₂) X.xe s₁) X.xe s
def tB(t:TE):TT:=λO H Q=>t O H λx H1=>∃c,x=.bl c/\Q c H1
theorem zcn{op:CmpOp}{t:TE}(h:PC X op a b t)(h1:behindInMarks op b=false:=by first | exact nobehind _ (by decide) (by decide) | rfl):PT X (.Compare a [op] [b] pos) (tB t):=by
 intro pins s O H Q I hw;refine wpAny_isTrue_Compare1 (thn (h pins s O H _ I hw) λv s1 h1=>thn h1 λu s2 h2=>thn h2 λc s3 ⟨x,H1,I1,r1,q1⟩=>?_) h1;obtain⟨d,rfl,q⟩:=q1;cases r1;exact _as ⟨H1,I1,q⟩
theorem zag{e:Expr}{t:TE}(h:PE X e t)(he:∀whole,isTrue e X.env whole=(do let v <- whole;standAt e.pos;holding [v] (truthy v)):=by intro _;rfl):PT X e (tB t):=by
 intro pins s O H Q I hw;refine isTrue_plain (thn (h pins s O H _ I hw) λv s1 ⟨x,H1,I1,r1,q1⟩=>?_) (he _);obtain⟨d,rfl,q⟩:=q1;cases r1;exact _as ⟨H1,I1,q⟩
variable {tA tB':TT}{z3q:List Expr}
def tOr(t u:TT):TT:=λO H Q=>t O H λc H1=>if c=true then Q true H1 else u O H1 Q
def zdd(t:TT):TT:=λO H Q=>t O H λc H1=>Q (!c) H1
theorem z9O(ha:PT X a tA):PW X (.BoolOp .Or [a] pos) tA:=by
 intro wh pins s O H Q I h;refine isTrue_or (thn (ha pins s O H Q I h) λc s1 e=>?_);cases c with
 | false=>exact isTrue_or_nil e | true=>exact e
theorem zbC(ha:PT X a tA)(hb:PW X (.BoolOp .Or (b::z3q) pos) tB'):PW X (.BoolOp .Or (a::b::z3q) pos) (tOr tA tB'):=by
 intro wh pins s O H Q I h;refine isTrue_or (thn (ha pins s O H _ I h) λc s1 ⟨H1,I1,q1⟩=>?_);cases c with
 | true=>exact⟨H1,I1,q1⟩ | false=>exact hb wh pins s1 O H1 Q I1 q1
theorem z9m(ha:PT X a tA):PT X (.UnaryOp .Not a pos) (zdd tA):=by
 intro pins s O H Q I h;exact isTrue_not (ha pins s O H (λc H1=>Q (!c) H1) I h)
def zb7(ta tb:TE):TE:=λO H Q=>ta O H λx H1=>∃c,x=.bl c/\if c=true then tb O H1 Q else Q (.bl false) H1
def zbu(ta:TE):TE:=λO H Q=>ta O H λx H1=>∃c,x=.bl c/\Q (.bl (!c)) H1
theorem z9C{op}{t:TE}(h:PE X a t):PE X (.BoolOp op [a] pos) t:=λpins s O H Q I hw=>BoolOp_one (h pins s O H Q I hw)
theorem z8Z(ha:PE X a ta)(hb:PE X (.BoolOp .And (b::z3q) pos) tb):PE X (.BoolOp .And (a::b::z3q) pos) (zb7 ta tb):=by
 intro pins s O H Q I h;refine BoolOp_and (thn (ha pins s O H _ I h) λv s1 ⟨x,H1,I1,r1,q1⟩=>?_);obtain⟨c,rfl,q1⟩:=q1;cases r1;refine _as ?_;cases c with
 | true=>exact hb pins s1 O H1 Q I1 q1 | false=>exact⟨.bl false,H1,I1,rfl,q1⟩
theorem zan(ha:PE X a ta):PE X (.UnaryOp .Not a pos) (zbu ta):=by
 intro pins s O H Q I h;refine UnaryOp_ (thn (ha pins s O H _ I h) λv s1 ⟨x,H1,I1,r1,q1⟩=>?_);obtain⟨c,rfl,q1⟩:=q1;cases r1;exact not_of (_as ⟨.bl (!c),H1,I1,rfl,q1⟩)
def tIf(t:TT)(ta tb:TE):TE:=λO H Q=>t O H λc H1=>if c=true then ta O H1 Q else tb O H1 Q
theorem z6a{c:Expr}(hc:PT X c tA)(ha:PE X a ta)(hb:PE X b tb):PE X (.IfExp c a b pos) (tIf tA ta tb):=by
 intro pins s O H Q I h;refine wpAny_IfExp (thn (hc pins s O H _ I h) λd s1 ⟨H1,I1,q1⟩=>?_);cases d with
 | true=>exact ha pins s1 O H1 Q I1 q1 | false=>exact hb pins s1 O H1 Q I1 q1
end
def SqL(K:W.Frag)(H:Hp)(a:Addr)(xs:List V):Prop:= Rd H a (.lst xs)\/ ∃(o:Obj)(its:Array Value)(n:Nat),K.lookup a=some o/\o.cls=.type "list"/\o.dict=none/\o.data=.seq its n/\its.size<=sizeLine/\yC xs its.toList
def SqT(K:W.Frag)(H:Hp)(a:Addr)(xs:List V):Prop:= Rd H a (.tup xs)\/ ∃(o:Obj)(its:Array Value)(n:Nat),K.lookup a=some o/\o.cls=.type "tuple"/\o.data=.seq its n/\its.size<=sizeLine/\yC xs its.toList
def zdj:Value->Option V
 | .none=>some .non | .bool b=>some (.bl b) | .int i _=>some (.int i) | .str x _=>some (.str x) | .bytes b _=>some (.byt b) | .float b _=>some (.flt b) | .ref a=>some (.ref a) | .type n=>some (.ty n) | _=>none
theorem xL.abs{x:V}{u:Value}(r:xL x u):zdj u=some x:=by cases x with
 | non=>cases r;rfl | bl _=>cases r;rfl | int _=>obtain⟨t,rfl⟩:=r;rfl | str _=>obtain⟨t,rfl⟩:=r;rfl | byt _=>obtain⟨t,rfl⟩:=r;rfl | flt _=>obtain⟨t,rfl⟩:=r;rfl | ref _=>cases r;rfl | ty _=>cases r;rfl
theorem xL.inj{x y:V}{u:Value}(r:xL x u)(q:xL y u):x=y:=_G (r.abs.symm.trans q.abs)
theorem yC.inj:∀{xs ys:List V}{us:List Value},yC xs us->yC ys us->xs=ys
 | _,_,_,.nil,.nil=>rfl | _,_,_,.cons r t,.cons r' t'=>by rw[r.inj r',yC.inj t t']
section
variable {X:Cx}{pins:List (Addr×Obj)}{O:St}{H:Hp}{s:Shared}{a:Addr}{xs ys:List V}
theorem Inv.list(I:Inv X pins O H s)(h:SqL X.K H a xs):∃its:List Value,yC xs its/\PlainL s.heap a its.toArray/\xs.length<=sizeLine:=by
 rcases h with h | ⟨o,its,n,hk,hc,hd,hs,hz,r⟩
 ·obtain⟨z,its,n,r,e⟩:=h.ok I.hok;exact⟨its,r,⟨_,n,e,rfl,rfl,rfl⟩,z⟩
 ·refine⟨its.toList,r,⟨o,n,I.kIn a o hk,hc,hd,by simpa using hs⟩,?_⟩;have e:=r.length;simp only[_bt]at e;omega
theorem Inv.tuple(I:Inv X pins O H s)(h:SqT X.K H a xs):∃its:List Value,yC xs its/\IsTup s.heap a its.toArray/\xs.length<=sizeLine:=by
 rcases h with h | ⟨o,its,n,hk,hc,hs,hz,r⟩
 ·obtain⟨z,its,r,p⟩:=h.ok I.hok;exact⟨its,r,p.tup,z⟩
 ·refine⟨its.toList,r,⟨o,I.kIn a o hk,hc,n,by simpa using hs⟩,?_⟩;have e:=r.length;simp only[_bt]at e;omega
theorem Inv.list_inj(I:Inv X pins O H s)(h:SqL X.K H a xs)(h':SqL X.K H a ys):xs=ys:=by
 obtain⟨its,r,⟨o,n,e,_,_,d⟩,_⟩:=I.list h;obtain⟨its',r',⟨o',n',e',_,_,d'⟩,_⟩:=I.list h';rw[e]at e';cases e';rw[d]at d';injection d' with d1 _;have:its=its':=by simpa using _bk Array.toList d1
 subst this;exact r.inj r'
theorem Inv.tuple_inj(I:Inv X pins O H s)(h:SqT X.K H a xs)(h':SqT X.K H a ys):xs=ys:=by
 obtain⟨its,r,⟨o,e,_,n,d⟩,_⟩:=I.tuple h;obtain⟨its',r',⟨o',e',_,n',d'⟩,_⟩:=I.tuple h';rw[e]at e';cases e';rw[d]at d';injection d' with d1 _;have:its=its':=by simpa using _bk Array.toList d1
 subst this;exact r.inj r'
end
abbrev Cx.wish(X:Cx)(E:Value->Shared->Prop):Cx:={X with xe:=E}
abbrev Cx.nox(X:Cx):Cx:=X.wish λ_ _=>False
theorem Cx.Ok.wish{X:Cx}(ok:X.Ok)(E:Value->Shared->Prop):(X.wish E).Ok:= ⟨ok.mod,ok.kind,ok.glob,ok.blt,ok.above,ok.inj,ok.has,ok.cab,ok.hd,ok.frames,ok.stk,ok.exf,ok.bs,ok.bsz,ok.noex,ok.exfs,ok.funs,ok.frf⟩
theorem Cx.Ok.unwish{X:Cx}{E:Value->Shared->Prop}(ok:(X.wish E).Ok):X.Ok:= ⟨ok.mod,ok.kind,ok.glob,ok.blt,ok.above,ok.inj,ok.has,ok.cab,ok.hd,ok.frames,ok.stk,ok.exf,ok.bs,ok.bsz,ok.noex,ok.exfs,ok.funs,ok.frf⟩
section
variable {X:Cx}{pins:List (Addr×Obj)}{O:St}{H:Hp}{s:Shared}{E:Value->Shared->Prop}
theorem Inv.wish(I:Inv X pins O H s)(E:Value->Shared->Prop):Inv (X.wish E) pins O H s:=⟨I.ok.wish E,I.os,I.bare,I.base,I.loc,I.cell,I.free,I.freeC,I.pin,I.hok,I.len⟩
theorem Inv.unwish(I:Inv (X.wish E) pins O H s):Inv X pins O H s:=⟨I.ok.unwish,I.os,I.bare,I.base,I.loc,I.cell,I.free,I.freeC,I.pin,I.hok,I.len⟩
theorem SP.unwish{D:z8b}{f:Flow}{s':Shared}(h:SP (X.wish E) pins D f s'):SP X pins D f s':=by cases f with
 | next=>obtain⟨O',H',I,q⟩:=h;exact⟨O',H',I.unwish,q⟩ | brk=>obtain⟨O',H',I,q⟩:=h;exact⟨O',H',I.unwish,q⟩ | cont=>obtain⟨O',H',I,q⟩:=h;exact⟨O',H',I.unwish,q⟩ | ret u=>obtain⟨v,O',H',I,r,q⟩:=h;exact⟨v,O',H',I.unwish,r,q⟩
theorem PSs.nox{st:List Stmt}{t:TS}(h:PSs X.nox st t):PSs X st t:=λpins s O H D I hw=> _ae (h pins s O H D (I.wish _) hw) (λ_ _ q=>q.unwish) λ_ _ z=>False.elim z
end
section
variable {X:Cx}{st:Stmt}{z3q:List Stmt}{t u:TS}{e:Expr}{te:TE}{pos:Pos}
def zbj:TS:=λD O H=>D.nx O H
def zc9(t u:TS):TS:=λD O H=>t {D with nx:=u D} O H
theorem z7H:PSs X [] zbj:=λ_ _ O H _ I h=>_bn ⟨O,H,I,h⟩
theorem z5M(h1:PS X st t)(h2:PSs X z3q u):PSs X (st::z3q) (zc9 t u):=by
 intro pins s O H D I h;refine wpAny_execs_cons (thn (h1 pins s O H {D with nx:=u D} I h) λf s1 q=>?_);cases f with
 | next=>
  obtain⟨O',H',I',q⟩:=q;exact h2 pins s1 O' H' D I' q | ret v=>exact q | brk=>exact q | cont=>exact q
theorem z7G(h1:PS X st t):PSs X [st] t:=by
 intro pins s O H D I h;refine wpAny_execs_cons (thn (h1 pins s O H D I h) λf s1 q=>?_);cases f with
 | next=>exact _bn q | ret v=>exact q | brk=>exact q | cont=>exact q
theorem Inv.quiet{pins:List (Addr×Obj)}{O:St}{H:Hp}{s:Shared}(I:Inv X pins O H s):interactive X.env=false:=by simp[interactive,I.ok.kind]
def zby(te:TE):TS:=λD O H=>te O H λ_ H1=>D.nx O H1
theorem z8k(he:PE X e te)(hs:swapsWith e none pos.line X.env=pure false:=by rfl):PS X (.Expr e pos) (zby te):=by
 intro pins s O H D I h;exact wpAny_Expr_any (thn (he pins s O H _ I h) λv s1 ⟨x,H1,I1,r1,q1⟩=>⟨O,H1,I1,q1⟩) I.quiet hs
def zcW(te:TE):TS:=λD O H=>te O H D.rt
theorem z9n(he:PE X e te):PS X (.Return (some e) pos) (zcW te):=by
 intro pins s O H D I h;exact wpAny_Return_some (thn (he pins s O H _ I h) λv s1 ⟨x,H1,I1,r1,q1⟩=>⟨x,O,H1,I1,r1,q1⟩)
def zdf(c:TT)(t u:TS):TS:=λD O H=>c O H λb H1=>if b=true then t D O H1 else u D O H1
theorem zbT{c:Expr}{a b:List Stmt}{tc:TT}(hc:PT X c tc)(ha:PSs X a t)(hb:PSs X b u):PS X (.If c a b pos) (zdf tc t u):=by
 intro pins s O H D I h;refine wpAny_If (thn (hc pins s O H _ I h) λd s1 ⟨H1,I1,q1⟩=>?_);cases d with
 | true=>exact ha pins s1 O H1 D I1 q1 | false=>exact hb pins s1 O H1 D I1 q1
def z99:TS:=λ_ _ _=>False
theorem z5S:PS X st z99:=λ_ _ _ _ _ _ h=>h.elim
end
abbrev TG:=V->St->Hp->(St->Hp->Prop)->Prop
abbrev TGs:=List V->St->Hp->(St->Hp->Prop)->Prop
def PG(X:Cx)(target:Expr)(t:TG):Prop:= ∀(pins:List (Addr×Obj))(s:Shared)(O:St)(H:Hp)(v:V)(u:Value)(Q:St->Hp->Prop),Inv X pins O H s->xL v u->t v O H Q-> wpAny (model X.prog X.w) X.A (assign target X.env u) (λ_ s'=>∃O' H',Inv X pins O' H' s'/\Q O' H') X.xe s
def PGs(X:Cx)(ts:List Expr)(t:TGs):Prop:= ∀(pins:List (Addr×Obj))(s:Shared)(O:St)(H:Hp)(vs:List V)(us:List Value)(Q:St->Hp->Prop),Inv X pins O H s->yC vs us->t vs O H Q-> wpAny (model X.prog X.w) X.A (assignInOrder ((assignEach ts X.env).map (·.2)) us) (λ_ s'=>∃O' H',Inv X pins O' H' s'/\Q O' H') X.xe s
abbrev zbF:=V->V->V->Hp->(Hp->Prop)->Prop
def zcj(X:Cx)(t:zbF):Prop:= ∀(pins:List (Addr×Obj))(s:Shared)(O:St)(H:Hp)(o i v:V)(ov iv u:Value)(Q:Hp->Prop),Inv X pins O H s->xL o ov->xL i iv->xL v u->t o i v H Q-> wpAny (model X.prog X.w) X.A (setItem ov iv u) (λ_ s'=>∃H',Inv X pins O H' s'/\Q H') X.xe s
section
variable {X:Cx}{pos:Pos}
def z3r(i:Nat):TG:=λv O H Q=>Q (O.set i (some v)) H
theorem zU{i:Nat}{x:Str}(hN:X.N.Nodup)(hi:X.N[i]? = some x)(hx:Loc X.env.scope x)(hf:X.fn x=true\/X.env.scope.names.lookup x=some .local:=by first | exact .inl rfl | exact .inr rfl | assumption):PG X (.Name x pos) (z3r i):=by
 intro pins s O H v u Q I r h;exact _bD (qX I hN hi hx r (λs' I'=>⟨_,H,I',h⟩) hf)
def zca:TGs:=λvs O H Q=>vs=[]/\Q O H
def z8a(t:TG)(u:TGs):TGs:=λvs O H Q=>∃v r,vs=v::r/\t v O H λO' H'=>u r O' H' Q
theorem z2s:PGs X [] zca:=by
 intro pins s O H vs us Q I r h;obtain⟨e,h⟩:=h;subst e;cases r;exact assignInOrder_nil ⟨O,H,I,h⟩
theorem vf{e:Expr}{es:List Expr}{t:TG}{u:TGs}(h1:PG X e t)(h2:PGs X es u) (hs:(assignEach (e::es) X.env).map (·.2)=assign e X.env::(assignEach es X.env).map (·.2):=by rfl):PGs X (e::es) (z8a t u):=by
 intro pins s O H vs us Q I r h;obtain⟨v,vr,e1,h⟩:=h;subst e1;cases r with | cons r rr=>
  rw[hs];refine _bz (thn (h1 pins s O H _ _ _ I r h) λ_ s1 ⟨O1,H1,I1,q1⟩=>?_);exact h2 pins s1 O1 H1 _ _ Q I1 rr q1
def zck(K:W.Frag)(n:Nat)(t:TGs):TG:=λv O H Q=>∃a xs,v=.ref a/\SqT K H a xs/\xs.length=n/\t xs O H Q
theorem z5g{es:List Expr}{k:Nat}{t:TGs}{n:Nat}(hc:X.calm=true)(h:PGs X es t) (hn:(assignEach es X.env).length=n:=by rfl)(hst:(assignEach es X.env).findIdx? (·.1)=none:=by rfl):PG X (.Tuple es k pos) (zck X.K n t):=by
 intro pins s O H v u Q I r hw;obtain⟨a,xs,e1,hq,hl,hw⟩:=hw;subst e1;cases r;obtain⟨its,rv,ht,hz⟩:=I.tuple hq;refine assign_Tuple_tuple (I.ok.hd hc) ht (by simp[hn,<- hl,rv.length]) hst λh' hx=>?_;have I1:Inv X pins O H {s with heap:=h'}:=I.kept (t':=s.toks) λb o e=>hx b o (_F (_l e)) e;exact h pins _ O H xs _ Q I1 (by simpa using rv) hw
def zd8(to ti:TE)(t:zbF):TG:=λv O H Q=>to O H λo H1=>ti O H1 λi H2=>t o i v H2 λH3=>Q O H3
theorem z8X{o i:Expr}{to ti:TE}{t:zbF}(ho:PE X o to)(hi:PE X i ti)(hs:zcj X t) (ha:∀v,assign (.Subscript o i pos) X.env v=(do
   let ov <- holding [v] (eval o X.env) let iv <- holding [v,ov] (eval i X.env)
   standAt pos
   holding [v,ov,iv] (setItem ov iv v)
   release [v,ov,iv] []):=by intro _;rfl):PG X (.Subscript o i pos) (zd8 to ti t):=by
 intro pins s O H v u Q I r h;rw[ha];refine _a (_bh (thn (ho pins s O H _ I h) λov s1 ⟨x,H1,I1,r1,q1⟩=>?_));refine _a (_bh (thn (hi pins s1 O H1 _ I1 q1) λiv s2 ⟨y,H2,I2,r2,q2⟩=>?_));refine _a (_bi (_a (_bh (thn (hs pins s2 O H2 x y v ov iv u _ I2 r1 r2 r q2) λ_ s3 ⟨H3,I3,q3⟩=>?_))));exact wpAny_release ⟨O,H3,I3,q3⟩
def zb6(te:TE)(g:TG):TS:=λD O H=>te O H λx H1=>g x O H1 D.nx
theorem z7d{tg e:Expr}{te:TE}{g:TG}(he:PE X e te)(hg:PG X tg g)(hs:swapsWithSole [tg] e pos.line X.env=pure false:=by rfl)(hw:swappedStores [tg] e X.env=pure none:=by rfl) (h1:(assignEach [tg] X.env).map (·.2)=[assign tg X.env]:=by rfl):PS X (.Assign [tg] e pos) (zb6 te g):=by
 intro pins s O H D I h;refine wpAny_Assign_stores (thn (he pins s O H _ I h) λv s1 ⟨x,H1,I1,r1,q1⟩=>?_) hs hw;rw[h1];exact thn (hg pins s1 O H1 x v _ I1 r1 q1) λ_ s2 q=>q
theorem zay{i:Nat}{x:Str}{e:Expr}{te:TE}{pos':Pos}(hN:X.N.Nodup)(hi:X.N[i]? = some x)(hx:Loc X.env.scope x)(he:PE X e te)(hs:swapsWith e (some (.Name x pos')) pos.line X.env=pure false:=by rfl)(hf:X.fn x=true\/X.env.scope.names.lookup x=some .local:=by first | exact .inl rfl | exact .inr rfl | assumption): PS X (.Assign [.Name x pos'] e pos) (zb6 te (z3r i)):=by
 intro pins s O H D I h;refine wpAny_Assign_Name (thn (he pins s O H _ I h) λv s1 ⟨y,H1,I1,r1,q1⟩=>?_) hs;exact qX I1 hN hi hx r1 (λs2 I2=>⟨_,H1,I2,q1⟩) hf
def zcH(i j:Nat)(ta:TA):TS:=λD O H=>ta O H λvs H1=>∃v w,vs=[v,w]/\D.nx ((O.set i (some v)).set j (some w)) H1
theorem z9P {i j:Nat} {x y:Str} {a b:Expr} {ta:TA} {px py pt:Pos} {kt k2 pt2} (hc:X.calm=true) (hN:X.N.Nodup) (hi:X.N[i]? = some x) (hj:X.N[j]? = some y) (hij:i≠j) (hx:X.env.scope.names.lookup x=some .local) (hy:X.env.scope.names.lookup y=some .local) (ha:PA X [a,b] ta) (hw:swappedStores [.Tuple [.Name x px,.Name y py] kt pt] (.Tuple [a,b] k2 pt2) X.env=pure (some [x,y])) (hs:swapsWithSole [.Tuple [.Name x px,.Name y py] kt pt] (.Tuple [a,b] k2 pt2) pos.line X.env=pure false:=by rfl): PS X (.Assign [.Tuple [.Name x px,.Name y py] kt pt] (.Tuple [a,b] k2 pt2) pos) (zcH i j ta):=by
 intro pins s O H D I h;rw[exec_Assign_arm];refine _a (_bi ?_);rw[hs];refine _a (_k ?_);rw[_I (by decide)];refine _a (Tuple_ (thn (ha _ pins s O H _ I h) λus s1 ⟨vs,H1,I1,r1,q1⟩=>?_));obtain⟨v,w,e1,q1⟩:=q1;subst e1;obtain⟨u1,u2,rfl,rv,rw'⟩:∃u1 u2,us=[u1,u2]/\xL v u1/\xL w u2:=by cases r1 with | cons p q=> cases q with | cons p' q'=>
    cases q';exact⟨_,_,rfl,p,p'⟩
 refine _aj ?_ (by show 2<=sizeLine;decide);have I2:Inv X pins O H1 {s1 with heap:=s1.heap.push {cls:=.type "tuple",data:=.seq [u1,u2].toArray}}:=I1.kept (t':=s1.toks) λb o e=>_c _ e;rw[hw];refine _a (_k ?_);show wpAny (model X.prog X.w) X.A (do rule "assign.swapped-stores";let items <- unpackItems (.ref s1.heap.objs.size) 2 none;assignInOrder [λv=>bindName X.env y v,λv=>bindName X.env x v] items.reverse;pure Flow.next) _ _ _;refine _a (_bA (_a (unpackItems_tuple (items:=#[u1,u2]) (I.ok.hd hc) (IsTup.new s1.heap _) λh' hx'=>?_)));have I3:=I2.kept (h':=h') (t':=s1.toks) λb o e=>hx' b o (_F (_l e)) e;show wpAny _ _ (assignInOrder [λv=>bindName X.env y v,λv=>bindName X.env x v] [u2,u1] >>= λ_=>pure Flow.next) _ _ _;refine _a (_bz (wpAny_bindName (qX I3 hN hj (.inl hy) rw' (λs2 I4=>?_) (.inr hy))));refine _bz (wpAny_bindName (qX I4 hN hi (.inl hx) rv (λs3 I5=>assignInOrder_nil (_k ?_)) (.inr hx)));rw[List.set_comm _ _ (_aH hij)]at I5;exact⟨_,H1,I5,q1⟩
end
section
variable {X:Cx}{pos:Pos}
def z9t(c:TT)(tb:TS):TS:=λD O H=>∃W:Nat->St->Hp->Prop,(∃m,W m O H)/\∀m O H,W m O H-> c O H λb H1=>if b=true then ∃N:St->Hp->Prop,(∀O' H',N O' H'->∃m',m'<m/\W m' O' H')/\tb {D with nx:=N,ct:=N,bk:=D.nx} O H1 else D.nx O H1
theorem z6I{c:Expr}{body:List Stmt}{tc:TT}{tb:TS}(hp:PassesOwn (model X.prog X.w) X.A X.env X.xe)(hc:PT X c tc)(hb:PSs X body tb):PS X (.While c body [] pos) (z9t tc tb):=by
 intro pins s O H D I h;obtain⟨W,⟨m0,w0⟩,z1Z⟩:=h;refine wpAny_While (codeAny_whileLoop (λn s'=>∃O' H',Inv X pins O' H' s'/\W n O' H') ?_ m0 ⟨O,H,I,w0⟩);rintro n s1 ⟨O1,H1,I1,w1⟩;refine _aE hp (thn (hc pins s1 O1 H1 _ I1 (z1Z n O1 H1 w1)) λb s2 ⟨H2,I2,q2⟩=>?_);cases b with
 | true=>
  obtain⟨N,hN,q2⟩:=q2;rw[_o rfl];refine _aE hp (thn (hb pins s2 O1 H2 _ I2 q2) λf s3 q3=>?_);cases f with
  | next=>
   obtain⟨O3,H3,I3,n3⟩:=q3;obtain⟨m',hm,w3⟩:=hN O3 H3 n3;exact⟨m',hm,O3,H3,I3,w3⟩ | cont=>
   obtain⟨O3,H3,I3,n3⟩:=q3;obtain⟨m',hm,w3⟩:=hN O3 H3 n3;exact⟨m',hm,O3,H3,I3,w3⟩ | brk=>exact q3 | ret v=>exact q3
 | false=>
  rw[_I _ax];exact _bn ⟨O1,H2,I2,q2⟩
end
structure It where
 go:Nat->Hp->Prop
 yld:Nat->Hp->V->Hp->Prop
 stop:Nat->Hp->Prop
def z1V(X:Cx)(pins:List (Addr×Obj))(H:Hp)(b:Addr):Prop:= H b=none/\b≠X.env.locals/\b∉X.fs/\(b∈X.ex\/X.s₀.heap.objs.size<=b)/\(∀x c,X.env.cells.lookup x=some c->c≠b)/\∀p∈X.pn++pins,p.1≠b
theorem Inv.fpOk{X:Cx}{pins:List (Addr×Obj)}{O:St}{H H':Hp}{s:Shared}{b:Addr}(I:Inv X pins O H s)(hb:s.heap.objs.size<=b)(hn:H' b=none):z1V X pins H' b:=by
 refine⟨hn,_bu (_h I.lt hb),I.nofs hb,.inr (_B I.sz hb),λx c e z=>?_,λp hp z=>?_⟩
 ·obtain⟨v,q⟩:=I.cell x c e;exact absurd (_h q.lt (by rw[z];exact hb)) (_ar _)
 ·exact absurd (_h (_l (I.pin p hp).1) (by rw[z];exact hb)) (_ar _)
structure z7X(P:Program)(w:World)(K:W.Frag)(tg:Expr)(J:It)(fp:List Addr)(it:Addr)(tn:Nat->Heap->Prop):Prop where
 mem:it∈fp
 obj:∀i h,tn i h->∀b∈fp,∃o,h.get? b=some o/\∀v,o.data≠.cell v
 keep:∀i h h',tn i h->(∀b∈fp,∀o,h.get? b=some o->h'.get? b=some o)->tn i h'
 item:∀(X:Cx),X.prog=P->X.w=w->X.K=K->X.calm=true->∀(i:Nat)(pins:List (Addr×Obj))(s:Shared)(O:St)(H:Hp)(E:Value->Shared->Prop),Inv X pins O H s->(∀b∈fp,z1V X pins H b)->tn i s.heap->J.go i H-> wpAny (model P w) X.A (pyNext (.ref it)) (λr s1=>∃u,r=some u/\ wpAny (model P w) X.A (letOwnedTupleGo tg (.ref it) u) (λ_ s2=>∃x H',Inv X pins O H' s2/\xL x u/\J.yld i H x H'/\tn (i+1) s2.heap/\∀b∈fp,H' b=none) E s1) E s
 done:∀(X:Cx),X.prog=P->X.w=w->X.K=K->X.calm=true->∀(i:Nat)(pins:List (Addr×Obj))(s:Shared)(O:St)(H:Hp)(E:Value->Shared->Prop),Inv X pins O H s->(∀b∈fp,z1V X pins H b)->tn i s.heap->J.stop i H-> wpAny (model P w) X.A (pyNext (.ref it)) (λr s1=>r=none/\Inv X pins O H s1) E s
 self:∀(A:Around)(i:Nat)(s:Shared)(Q:Value->Shared->Prop)(E:Value->Shared->Prop),tn i s.heap->Q (.ref it) s->wpAny (model P w) A (pyIter (.ref it)) Q E s
abbrev TI:=St->Hp->(It->Hp->Prop)->Prop
def PIE(X:Cx)(pins:List (Addr×Obj))(O:St)(tg:Expr)(R:It->Hp->Prop)(itv:Value)(s2:Shared):Prop:= ∃(it:Addr)(fp:List Addr)(tn:Nat->Heap->Prop)(J:It)(H':Hp),itv=.ref it/\Inv X pins O H' s2/\z7X X.prog X.w X.K tg J fp it tn/\tn 0 s2.heap/\(∀b∈fp,z1V X pins H' b)/\R J H'
def PI(X:Cx)(tg iter:Expr)(wi:TI):Prop:= ∀(pins:List (Addr×Obj))(s:Shared)(O:St)(H:Hp)(R:It->Hp->Prop),Inv X pins O H s->wi O H R-> wpAny (model X.prog X.w) X.A (eval iter X.env) (λv s1=>wpAny (model X.prog X.w) X.A (pyIter v) (PIE X pins O tg R) X.xe s1) X.xe s
theorem z7A{M:Model}{A:Around}{E:Value->Shared->Prop}{s:Shared}{tg:Expr}{it:Addr}{u:Value}{o:Obj}{n:String}{vs:Array Value}{Q:Unit->Shared->Prop}(ho:s.heap.get? it=some o)(hc:o.cls=.type n)(hd:o.data=.fields vs) (hn:["enumerate","zip","dict_itemiterator","dict_reverseitemiterator","odict_iterator","itertools.zip_longest","itertools.pairwise"].contains n=false)(hQ:Q () s):wpAny M A (letOwnedTupleGo tg (.ref it) u) Q E s:=by
  unfold letOwnedTupleGo;cases tg<;>first
    | exact _k hQ | (cases u<;>first
        | exact _k hQ
        | (refine _a (wpAny_load ho ?_);rw[hc,hd];show wpAny M A (if (["enumerate","zip","dict_itemiterator","dict_reverseitemiterator","odict_iterator","itertools.zip_longest","itertools.pairwise"].contains n&&vs[0]? == some (rawInt _))=true then _ else _) Q E s;rw[_I (by intro h;rw[hn,Bool.false_and]at h;cases h)];exact _k hQ))
def Itl(K:W.Frag)(a:Addr):It:= ⟨λi H=>∃xs x,SqL K H a xs/\xs[i]? = some x,λi H x H'=>H'=H/\∀xs,SqL K H a xs->xs[i]? = some x,λi H=>∃xs,SqL K H a xs/\xs.length<=i⟩
def Itt(K:W.Frag)(a:Addr):It:= ⟨λi H=>∃xs x,SqT K H a xs/\xs[i]? = some x,λi H x H'=>H'=H/\∀xs,SqT K H a xs->xs[i]? = some x,λi H=>∃xs,SqT K H a xs/\xs.length<=i⟩
def Itr(lo:Int)(n:Nat):It:=⟨λi _=>i<n,λi H x H'=>H'=H/\x=.int (lo+i),λi _=>n<=i⟩
theorem z4V{P:Program}{w:World}{K:W.Frag}{tg:Expr}(a it:Addr):z7X P w K tg (Itl K a) [it] it (λi h=>h.IsListIter it a i) where
 mem:=by simp
 obj:=λi h st b hb=>by
  have e:b=it:=by simpa using hb
  subst e;obtain⟨o,e,c,d⟩:=st;exact⟨o,e,λv z=>by rw[d]at z;cases z⟩
 keep:=λi h h' st k=>st.at λo e=>k it (by simp) o e;item:=by
  intro X hP hw hK hc i pins s O H E I hf st hg;subst hP hw hK;obtain⟨xs,x,hq,hx⟩:=hg;obtain⟨its,rv,p,hz⟩:=I.list hq;obtain⟨u,hu,ru⟩:=rv.get hx;obtain⟨f0,f1,f2,f3,f4,f5⟩:=hf it (by simp);refine wpAny_pyNext_list_item st p.isList (x:=u) (by simpa using hu) λh' st' sb=>?_;have I1:Inv X pins O H {s with heap:=h'}:=I.turned (t':=s.toks) (λb o hb e=>(sb.2 b hb).trans e) f0 f1 f3 f4 f5;obtain⟨o,e,c,d⟩:=id st';exact⟨u,rfl,z7A (s:={s with heap:=h'}) e c d (by decide) ⟨x,H,I1,ru,⟨rfl,λys hy=>by rw[I.list_inj hy hq];exact hx⟩,st',λb hb=>(hf b hb).1⟩⟩
 done:=by
  intro X hP hw hK hc i pins s O H E I hf st hg;subst hP hw hK;obtain⟨xs,hq,hx⟩:=hg;obtain⟨its,rv,p,hz⟩:=I.list hq;obtain⟨f0,f1,f2,f3,f4,f5⟩:=hf it (by simp);have hl:=rv.length;exact wpAny_pyNext_list_end (I.ok.hd hc) st p.isList (by simp;omega) λh' eb=>⟨rfl,I.turned (t':=s.toks) (λb o hb e=>eb b o hb e) f0 f1 f3 f4 f5⟩
 self:=λ_ _ _ _ _ st h=>wpAny_pyIter_listiter st h
theorem z46 {P:Program} {w:World} {K:W.Frag} {tg:Expr} (a it:Addr):z7X P w K tg (Itt K a) [it] it (λi h=>h.IsTupleIter it a i) where
 mem:=by simp
 obj:=λi h st b hb=>by
  have e:b=it:=by simpa using hb
  subst e;obtain⟨o,e,c,d⟩:=st;exact⟨o,e,λv z=>by rw[d]at z;cases z⟩
 keep:=λi h h' st k=>st.at λo e=>k it (by simp) o e;item:=by
  intro X hP hw hK hc i pins s O H E I hf st hg;subst hP hw hK;obtain⟨xs,x,hq,hx⟩:=hg;obtain⟨its,rv,p,hz⟩:=I.tuple hq;obtain⟨u,hu,ru⟩:=rv.get hx;obtain⟨f0,f1,f2,f3,f4,f5⟩:=hf it (by simp);refine wpAny_pyNext_tuple_item st (show s.heap.IsTuple a its.toArray from p) (x:=u) (by simpa using hu) λh' st' sb=>?_;have I1:Inv X pins O H {s with heap:=h'}:=I.turned (t':=s.toks) (λb o hb e=>(sb.2 b hb).trans e) f0 f1 f3 f4 f5;obtain⟨o,e,c,d⟩:=id st';exact⟨u,rfl,z7A (s:={s with heap:=h'}) e c d (by decide) ⟨x,H,I1,ru,⟨rfl,λys hy=>by rw[I.tuple_inj hy hq];exact hx⟩,st',λb hb=>(hf b hb).1⟩⟩
 done:=by
  intro X hP hw hK hc i pins s O H E I hf st hg;subst hP hw hK;obtain⟨xs,hq,hx⟩:=hg;obtain⟨its,rv,p,hz⟩:=I.tuple hq;obtain⟨f0,f1,f2,f3,f4,f5⟩:=hf it (by simp);have hl:=rv.length;exact wpAny_pyNext_tuple_end (I.ok.hd hc) st (show s.heap.IsTuple a its.toArray from p) (by simp;omega) λh' eb=>⟨rfl,I.turned (t':=s.toks) (λb o hb e=>eb b o hb e) f0 f1 f3 f4 f5⟩
 self:=λ_ _ _ _ _ st h=>wpAny_pyIter_tupleiter st h
theorem z3F {P:Program} {w:World} {K:W.Frag} {tg:Expr} (it:Addr) (lo:Int) (n:Nat):z7X P w K tg (Itr lo n) [it] it (λi h=>IsRangeIter h it (lo+(i:Nat)*1) ((n:Int)-(i:Nat)) 1) where
 mem:=by simp
 obj:=λi h st b hb=>by
  have e:b=it:=by simpa using hb
  subst e;exact⟨_,st,λv z=>by
   have z':Data.fields _=Data.cell v:=z;cases z'⟩
 keep:=λi h h' st k=>k it (by simp) _ st;item:=by
  intro X hP hw hK hc i pins s O H E I hf st hg;subst hP hw hK;obtain⟨f0,f1,f2,f3,f4,f5⟩:=hf it (by simp);have W:=Walks.range (prog:=X.prog) (w:=X.w) (I.ok.hd hc) it lo 1 n;refine W.item i s _ _ hg st λv h' tk hv st' kk=>?_;obtain⟨t,rfl⟩:=hv;have I1:Inv X pins O H {s with heap:=h',toks:=tk}:=I.turned (λb o hb e=>kk b o (by simpa using hb) e) f0 f1 f3 f4 f5;refine⟨_,rfl,z7A (s:={s with heap:=h',toks:=tk}) (n:="range_iterator") st' rfl rfl (by decide) ⟨.int (lo+i),H,I1,⟨t,?_⟩,⟨rfl,rfl⟩,st',λb hb=>(hf b hb).1⟩⟩;rw[Int.mul_one]
 done:=by
  intro X hP hw hK hc i pins s O H E I hf st hg;subst hP hw hK;obtain⟨f0,f1,f2,f3,f4,f5⟩:=hf it (by simp);exact wpAny_pyNext_range_end (I.ok.hd hc) st (by have:n<=i:=hg;omega) λh' eb=>⟨rfl,I.turned (t':=s.toks) (λb o hb e=>eb b o hb e) f0 f1 f3 f4 f5⟩
 self:=λ_ _ _ _ _ st h=>wpAny_pyIter_rangeiter st h
section
variable {X:Cx}{tg:Expr}
theorem z5N{pins:List (Addr×Obj)}{O:St}{H:Hp}{s:Shared}{R:It->Hp->Prop}{E:Value->Shared->Prop}{lo hi:Int}{t u v:Tok}{tk:Nat}(I:Inv X pins O H s)(h1:-(2 ^ 62)<=lo)(h2:lo<2 ^ 62)(h3:-(2 ^ 62)<=hi)(h4:hi<2 ^ 62) (q:R (Itr lo (hi-lo).toNat) H):wpAny (model X.prog X.w) X.A (pyIter (.ref s.heap.objs.size)) (PIE X pins O tg R) E {s with heap:=s.heap.push {cls:=.type "range",data:=.fields #[.int lo t,.int hi u,.int 1 v]},toks:=tk}:=by
 refine wpAny_pyIter_range (IsRange.new ..) (small_one h1 h2 h3 h4) ?_;have I1:Inv X pins O H {s with heap:=s.heap.push {cls:=.type "range",data:=.fields #[.int lo t,.int hi u,.int 1 v]},toks:=tk}:=I.kept λb o e=>_c _ e;refine⟨(s.heap.push {cls:=.type "range",data:=.fields #[.int lo t,.int hi u,.int 1 v]}).objs.size,[(s.heap.push {cls:=.type "range",data:=.fields #[.int lo t,.int hi u,.int 1 v]}).objs.size],_,_,H,rfl, I1.kept (t':=tk) λb o e=>_c _ e,z3F _ lo (hi-lo).toNat,?_,λb hb=>?_,q⟩
 ·have e1:lo+((0:Nat):Int)*1=lo:=by simp
  have e2:(((hi-lo).toNat:Nat):Int)-((0:Nat):Int)=Builtin.Range.rangeSize lo hi 1:=by rw[rangeSize_one];split<;>omega
  show IsRangeIter _ _ (lo+((0:Nat):Int)*1) ((((hi-lo).toNat:Nat):Int)-((0:Nat):Int)) 1;rw[e1,e2];exact _u _ rfl
 ·have e:b=(s.heap.push {cls:=.type "range",data:=.fields #[.int lo t,.int hi u,.int 1 v]}).objs.size:=by simpa using hb
  subst e;exact I1.fpOk (_n _) (I1.hok.fresh (_n _))
def zb4(ta:TA):TI:=λO H R=>ta O H λvs H1=>∃j:Int,vs=[.int j]/\-(2 ^ 62)<=j/\j<2 ^ 62/\R (Itr 0 j.toNat) H1
theorem z5y{a:Expr}{ta:TA}{p pos:Pos}(hg:Gl X "range")(hm:X.mg "range"=none)(ha:PA X [a] ta)(hs:starEach [a] X.env=[(false,eval a X.env)]:=by rfl):PI X tg (.Call (.Name "range" p) [a] [] pos) (zb4 ta):=by
 intro pins s O H R I h;refine Call_ (z05 I hg hm boot_range (_aw (thn (ha pos pins s O H _ I h) λus s1 ⟨vs,H1,I1,r1,q1⟩=>?_) hs rfl));obtain⟨j,e,q1,q2,q⟩:=q1;subst e;cases r1 with | cons r rr=>
  cases rr;obtain⟨t,rfl⟩:=r;exact call_range_1 (z5N I1 (by omega) (by omega) q1 q2 (by simpa using q))
def zd6(wi:TI)(g:TG)(tb:TS):TS:=λD O H=>wi O H λJ H1=>∃W:Nat->Nat->St->Hp->Prop,(∃m,W 0 m O H1)/\∀i m O H,W i m O H-> (J.stop i H/\D.nx O H)\/(J.go i H/\∃N:St->Hp->Prop,(∀O' H',N O' H'->∃m',m'<m/\W (i+1) m' O' H')/\∀x H',J.yld i H x H'->g x O H' λO2 H2=>tb {D with nx:=N,ct:=N,bk:=D.nx} O2 H2)
def z1C(fp:List Addr)(h:Heap):List (Addr×Obj):=fp.filterMap λb=>(h.get? b).map λo=>(b,o)
theorem uT{fp:List Addr}{h:Heap}{b:Addr}{o:Obj}(hb:b∈fp)(e:h.get? b=some o):(b,o)∈z1C fp h:=List.mem_filterMap.mpr ⟨b,hb,by rw[e];rfl⟩
theorem z4J{fp:List Addr}{h:Heap}{p:Addr×Obj}(hp:p∈z1C fp h):p.1∈fp/\h.get? p.1=some p.2:=by
 obtain⟨b,hb,e⟩:=List.mem_filterMap.mp hp;cases q:h.get? b with
 | none=>rw[q]at e;cases e | some o=>
  rw[q]at e;have e':(b,o)=p:=_G e;subst e';exact⟨hb,q⟩
theorem Inv.pinned{pins:List (Addr×Obj)}{O:St}{H:Hp}{s:Shared}{fp:List Addr}(I:Inv X pins O H s)(hf:∀b∈fp,z1V X pins H b)(ho:∀b∈fp,∃o,s.heap.get? b=some o/\∀v,o.data≠.cell v):Inv X (pins++z1C fp s.heap) O H s:= I.pins_of λp hp=>(_i.mp hp).elim (λz=>I.pin p (_Q _ z)) λz=>by
  obtain⟨hb,e⟩:=z4J z;obtain⟨f0,f1,f2,_⟩:=hf p.1 hb;obtain⟨o,e',d⟩:=ho p.1 hb;rw[e]at e';cases e';exact⟨e,f0,f1,f2,d⟩
theorem Inv.unpinned{pins pl:List (Addr×Obj)}{O:St}{H:Hp}{s:Shared}(I:Inv X (pins++pl) O H s):Inv X pins O H s:=I.pins_of λp hp=>I.pin p (_Q _ (_bj _ hp))
theorem z9U{iter:Expr}{body:List Stmt}{wi:TI}{g:TG}{tb:TS}{pos:Pos}(hp:PassesOwn (model X.prog X.w) X.A X.env X.xe)(hc:X.calm=true)(hi:PI X tg iter wi)(hg:PG X tg g)(hb:PSs X body tb) (hs:∀x,foldedSetIterable iter X.env x=pure x:=by intro _;rfl):PS X (.For tg iter body [] pos) (zd6 wi g tb):=by
 intro pins s O H D I h;refine wpAny_For (thn (hi pins s O H _ I h) λv s1 h1=>thn h1 λitv s2 h2=>?_) hs;obtain⟨it,fp,tn,J,H2,e,I2,T,st2,f2,W,⟨m0,w0⟩,z1Z⟩:=h2;subst e;have stat:∀{H':Hp},(∀b∈fp,H' b=none)->∀b∈fp,z1V X pins H' b:=λhn b hb=>⟨hn b hb,(f2 b hb).2⟩;refine codeAny_forLoop_any (λn s'=>∃i O' H',Inv X pins O' H' s'/\tn i s'.heap/\(∀b∈fp,H' b=none)/\W i n O' H') ?_ m0 ⟨0,O,H2,I2,st2,λb hb=>(f2 b hb).1,w0⟩;rintro n s3 ⟨i,O3,H3,I3,st3,fr3,w3⟩;rcases z1Z i n O3 H3 w3 with⟨stop,qn⟩ | ⟨go,N,hN,step⟩
 ·refine _aE hp (thn (T.done X rfl rfl rfl hc i pins s3 O3 H3 X.xe I3 (stat fr3) st3 stop) λr s4 ⟨hr,I4⟩=>?_);subst hr;exact _bn ⟨O3,H3,I4,qn⟩
 ·refine _aE hp (thn (T.item X rfl rfl rfl hc i pins s3 O3 H3 X.xe I3 (stat fr3) st3 go) λr s4 ⟨u,hr,h4⟩=>?_);subst hr;refine _aE hp (thn h4 λ_ s5 ⟨x,H5,I5,r5,y5,st5,fr5⟩=>?_);have I5':=I5.pinned (stat fr5) (T.obj _ _ st5);refine _aE hp (thn (hg _ s5 O3 H5 x u _ I5' r5 (step x H5 y5)) λ_ s6 ⟨O6,H6,I6,q6⟩=>?_);refine _aE hp (thn (hb _ s6 O6 H6 _ I6 q6) λf s7 q7=>?_);have again:∀{O7:St}{H7:Hp},Inv X (pins++z1C fp s5.heap) O7 H7 s7->N O7 H7->∃m,m<n/\∃i O' H',Inv X pins O' H' s7/\tn i s7.heap/\(∀b∈fp,H' b=none)/\W i m O' H':=λ{O7 H7} I7 n7=>by
   obtain⟨m',hm,w7⟩:=hN O7 H7 n7;refine⟨m',hm,i+1,O7,H7,I7.unpinned,T.keep _ _ _ st5 λb hb o e=>(I7.pin (b,o) (_Q _ (_Q _ (uT hb e)))).1,λb hb=>?_,w7⟩;obtain⟨o,e,d⟩:=T.obj _ _ st5 b hb;exact (I7.pin (b,o) (_Q _ (_Q _ (uT hb e)))).2.1
  cases f with
  | next=>obtain⟨O7,H7,I7,n7⟩:=q7;exact again I7 n7 | cont=>obtain⟨O7,H7,I7,n7⟩:=q7;exact again I7 n7 | brk=>obtain⟨O7,H7,I7,q7⟩:=q7;exact⟨O7,H7,I7.unpinned,q7⟩ | ret v=>obtain⟨x7,O7,H7,I7,r7,q7⟩:=q7;exact⟨x7,O7,H7,I7.unpinned,r7,q7⟩
end
abbrev R2:=V->V->Hp->VK->Prop
def OpR(X:Cx)(f:Value->Value->Sem Value)(r:R2):Prop:= ∀(pins:List (Addr×Obj))(s:Shared)(O:St)(H:Hp)(x y:V)(v u:Value)(Q:VK),Inv X pins O H s->xL x v->xL y u->r x y H Q-> wpAny (model X.prog X.w) X.A (f v u) (EP X pins O Q) X.xe s
def UnR(X:Cx)(f:Value->Sem Value)(r:V->Hp->VK->Prop):Prop:= ∀(pins:List (Addr×Obj))(s:Shared)(O:St)(H:Hp)(x:V)(v:Value)(Q:VK),Inv X pins O H s->xL x v->r x H Q-> wpAny (model X.prog X.w) X.A (f v) (EP X pins O Q) X.xe s
def yM(X:Cx)(f:Value)(r:List V->Hp->VK->Prop):Prop:= ∀(pins:List (Addr×Obj))(s:Shared)(O:St)(H:Hp)(xs:List V)(us:List Value)(Q:VK),Inv X pins O H s->yC xs us->r xs H Q-> wpAny (model X.prog X.w) X.A (call f us) (EP X pins O Q) X.xe s
def tOp(r:R2)(ta tb:TE):TE:=λO H Q=>ta O H λx H1=>tb O H1 λy H2=>r x y H2 Q
def tUn(r:V->Hp->VK->Prop)(ta:TE):TE:=λO H Q=>ta O H λx H1=>r x H1 Q
def rI(C:Int->Int->Prop)(g:Int->Int->V):R2:=λx y H Q=>∃i j,x=.int i/\y=.int j/\C i j/\Q (g i j) H
def rI0(g:Int->Int->V):R2:=λx y H Q=>∃i j,x=.int i/\y=.int j/\Q (g i j) H
def rU(g:Int->V):V->Hp->VK->Prop:=λx H Q=>∃i,x=.int i/\Q (g i) H
section
variable {X:Cx}{a b c:Expr}{ta tb tc:TE}{pos:Pos}
theorem zbS(ha:PE X a ta)(hb:PE X b tb){pins:List (Addr×Obj)}{s:Shared}{O:St}{H:Hp}{R:V->V->Hp->Prop}(I:Inv X pins O H s) (h:ta O H λx H1=>tb O H1 λy H2=>R x y H2){Q:Value->Shared->Prop}{f:Value->Value->Sem Value} (hf:∀v u s2 x y H2,Inv X pins O H2 s2->xL x v->xL y u->R x y H2->wpAny (model X.prog X.w) X.A (f v u) Q X.xe s2): wpAny (model X.prog X.w) X.A (eval a X.env) (λv s₁=>wpAny (model X.prog X.w) X.A (eval b X.env) (λu s₂=>wpAny (model X.prog X.w) X.A (f v u) Q X.xe s₂) X.xe s₁) X.xe s:=by
 refine thn (ha pins s O H _ I h) λv s1 ⟨x,H1,I1,r1,q1⟩=>?_;refine thn (hb pins s1 O H1 _ I1 q1) λu s2 ⟨y,H2,I2,r2,q2⟩=>?_;exact hf v u s2 x y H2 I2 r1 r2 q2
theorem zaS{op:Operator}{r:R2}(ho:OpR X (binaryOp op) r)(ha:PE X a ta)(hb:PE X b tb):PE X (.BinOp a op b pos) (tOp r ta tb):=by
 intro pins s O H Q I h;exact wpAny_BinOp (zbS ha hb I h λv u s2 x y H2 I2 rx ry q=>ho pins s2 O H2 x y v u Q I2 rx ry q)
theorem zbO{op:UnaryOp}{r:V->Hp->VK->Prop}(ho:UnR X (unaryOp op) r)(ha:PE X a ta):PE X (.UnaryOp op a pos) (tUn r ta):=by
 intro pins s O H Q I h;exact UnaryOp_ (thn (ha pins s O H _ I h) λv s1 ⟨x,H1,I1,r1,q1⟩=>ho pins s1 O H1 x v Q I1 r1 q1)
theorem opI {f:Value->Value->Sem Value} {C:Int->Int->Prop} {g:Int->Int->Int} (rule:∀(i j:Int) (t u:Tok) (s:Shared) (Q:Value->Shared->Prop) (E:Value->Shared->Prop),C i j->Q (.int (g i j) s.toks) {s with toks:=s.toks+1}->wpAny (model X.prog X.w) X.A (f (.int i t) (.int j u)) Q E s): OpR X f (rI C λi j=>.int (g i j)):=by
 intro pins s O H x y v u Q I rx ry h;obtain⟨i,j,rfl,rfl,hc,q⟩:=h;obtain⟨t,rfl⟩:=rx;obtain⟨t',rfl⟩:=ry;exact rule i j t t' s _ _ hc ⟨.int (g i j),H,I.tok _,⟨_,rfl⟩,q⟩
theorem zcg {f:Value->Value->Sem Value} {g:Int->Int->Int} (rule:∀(i j:Int) (t u:Tok) (s:Shared) (Q:Value->Shared->Prop) (E:Value->Shared->Prop),Q (.int (g i j) s.toks) {s with toks:=s.toks+1}->wpAny (model X.prog X.w) X.A (f (.int i t) (.int j u)) Q E s): OpR X f (rI0 λi j=>.int (g i j)):=by
 intro pins s O H x y v u Q I rx ry h;obtain⟨i,j,rfl,rfl,q⟩:=h;obtain⟨t,rfl⟩:=rx;obtain⟨t',rfl⟩:=ry;exact rule i j t t' s _ _ ⟨.int (g i j),H,I.tok _,⟨_,rfl⟩,q⟩
theorem zaQ{f:Value->Value->Sem Value}{g:Int->Int->Bool} (rule:∀(i j:Int)(t u:Tok)(s:Shared)(Q:Value->Shared->Prop)(E:Value->Shared->Prop),Q (.bool (g i j)) s->wpAny (model X.prog X.w) X.A (f (.int i t) (.int j u)) Q E s): OpR X f (rI0 λi j=>.bl (g i j)):=by
 intro pins s O H x y v u Q I rx ry h;obtain⟨i,j,rfl,rfl,q⟩:=h;obtain⟨t,rfl⟩:=rx;obtain⟨t',rfl⟩:=ry;exact rule i j t t' s _ _ ⟨.bl (g i j),H,I,rfl,q⟩
def zcM(i j:Int):Prop:=0<=j/\j<=1000000/\i.natAbs<2 ^ 64
theorem z9S:OpR X (binaryOp .Add) (rI0 λi j=>.int (i+j)):=zcg λ_ _ _ _ _ _ _ q=>add_int q
theorem z94:OpR X (binaryOp .Sub) (rI0 λi j=>.int (i-j)):=zcg λ_ _ _ _ _ _ _ q=>sub_int q
theorem z9e:OpR X (binaryOp .Mod) (rI (λ_ j=>0<j) λi j=>.int (i % j)):=opI λi j _ _ _ _ _ hc q=>by
 have h1:(0:Int)<j:=hc;exact mod_int' (by omega) (by rw[Int.fmod_eq_emod_of_nonneg i (by omega)];exact q)
theorem zak:OpR X (binaryOp .Pow) (rI zcM λi j=>.int (i ^ j.toNat)):=opI λ_ _ _ _ _ _ _ hc q=>pow_int_small hc.1 hc.2.1 hc.2.2 q
theorem unI {f:Value->Sem Value} {g:Int->Int} (rule:∀(i:Int) (t:Tok) (s:Shared) (Q:Value->Shared->Prop) (E:Value->Shared->Prop),Q (.int (g i) s.toks) {s with toks:=s.toks+1}->wpAny (model X.prog X.w) X.A (f (.int i t)) Q E s): UnR X f (rU λi=>.int (g i)):=by
 intro pins s O H x v Q I rx h;obtain⟨i,rfl,q⟩:=h;obtain⟨t,rfl⟩:=rx;exact rule i t s _ _ ⟨.int (g i),H,I.tok _,⟨_,rfl⟩,q⟩
theorem z9D:UnR X (unaryOp .USub) (rU λi=>.int (-i)):=unI λ_ _ _ _ _ q=>neg_int q
end
section
variable {X:Cx}{a b c:Expr}{ta tb tc:TE}{pos:Pos}
theorem z9z{pins:List (Addr×Obj)}{O:St}{H:Hp}{s:Shared}{Q:VK}{k k':Bool}(I:Inv X pins O H s)(q:Q (.bl k) H)(e:k=k'):EP X pins O Q (.bool k') s:=by
 subst e;exact⟨.bl k,H,I,rfl,q⟩
theorem zbQ:OpR X (compareOp .Lt) (rI0 λi j=>.bl (decide (i<j))):=zaQ λ_ _ _ _ _ _ _ q=>lt_int q
theorem zaU:OpR X (compareOp .LtE) (rI0 λi j=>.bl (decide (i<=j))):=zaQ λ_ _ _ _ _ _ _ q=>le_int q
theorem zbm:OpR X (compareOp .Gt) (rI0 λi j=>.bl (decide (j<i))):=zaQ λ_ _ _ _ _ _ _ q=>gt_int q
theorem zbs:OpR X (compareOp .GtE) (rI0 λi j=>.bl (decide (j<=i))):=zaQ λ_ _ _ _ _ _ _ q=>ge_int q
theorem z7V:OpR X (compareOp .IsNot) (λx y H Q=>y=.non/\Q (.bl (!decide (x=.non))) H):=by
 intro pins s O H x y v u Q I rx ry h;obtain⟨rfl,q⟩:=h;cases ry;refine isnot_none_gen (z9z I q ?_);cases x<;>first
  | (cases rx;rfl) | (obtain⟨t,rfl⟩:=rx;rfl)
theorem OpR.or{f:Value->Value->Sem Value}{r r':R2}(h:OpR X f r)(h':OpR X f r'):OpR X f (λx y H Q=>r x y H Q\/r' x y H Q):=by
 intro pins s O H x y v u Q I rx ry q;rcases q with q | q;·exact h pins s O H x y v u Q I rx ry q
 ·exact h' pins s O H x y v u Q I rx ry q
theorem z7r(b:Expr){op:CmpOp}(h:op≠.In:=by decide)(h2:op≠.NotIn:=by decide):behindInMarks op b=false:=by
 have e1:(op==CmpOp.In)=false:=by cases op<;>first | rfl | exact absurd rfl h
 have e2:(op==CmpOp.NotIn)=false:=by cases op<;>first | rfl | exact absurd rfl h2
 cases b<;>simp[behindInMarks,e1,e2]
theorem z8C{op:CmpOp}{r:R2}(ho:OpR X (compareOp op) r)(ha:PE X a ta)(hb:PE X b tb)(hm:behindInMarks op b=false):PE X (.Compare a [op] [b] pos) (tOp r ta tb):=by
 intro pins s O H Q I h;exact wpAny_Compare1 (zbS ha hb I h λv u s2 x y H2 I2 rx ry q=>ho pins s2 O H2 x y v u Q I2 rx ry q) hm
def z9N(t:TE):TT:=λO H Q=>t O H λx H'=>∃k,x=.bl k/\Q k H'
theorem z7U{op:CmpOp}{r:R2}(ho:OpR X (compareOp op) r)(ha:PE X a ta)(hb:PE X b tb)(hm:behindInMarks op b=false):PT X (.Compare a [op] [b] pos) (z9N (tOp r ta tb)):=by
 intro pins s O H Q I h;refine wpAny_isTrue_Compare1 (thn (ha pins s O H _ I h) λv s1 ⟨x,H1,I1,r1,q1⟩=>thn (hb pins s1 O H1 _ I1 q1) λu s2 ⟨y,H2,I2,r2,q2⟩=> thn (ho pins s2 O H2 x y v u _ I2 r1 r2 q2) λc s3 ⟨z,H3,I3,r3,k,e,q3⟩=>?_) hm;subst e;cases r3;exact _as ⟨H3,I3,q3⟩
def z73(r r':R2)(ta tb tc:TE):TE:=λO H Q=>ta O H λx H1=>tb O H1 λy H2=>r x y H2 λz H3=>∃k,z=.bl k/\ (if k=true then tc O H3 λw' H4=>r' y w' H4 Q else Q (.bl false) H3)
theorem z6p{op op':CmpOp}{r r':R2}(ho:OpR X (compareOp op) r)(ho':OpR X (compareOp op') r')(ha:PE X a ta)(hb:PE X b tb)(hc:PE X c tc) (hm:lastMarks [op,op'] [b,c]=false:=by with_unfolding_all rfl):PE X (.Compare a [op,op'] [b,c] pos) (z73 r r' ta tb tc):=by
 intro pins s O H Q I h;refine Compare_chain (thn (ha pins s O H _ I h) λv s1 ⟨x,H1,I1,r1,q1⟩=>chain_link (thn (hb pins s1 O H1 _ I1 q1) λu s2 ⟨y,H2,I2,r2,q2⟩=> thn (ho pins s2 O H2 x y v u _ I2 r1 r2 q2) λd s3 ⟨z,H3,I3,r3,k,e,q3⟩=>?_)) hm;subst e;cases r3;refine _as ?_;cases k with
 | false=>exact ite_ff ⟨.bl false,H3,I3,rfl,q3⟩ | true=>exact ite_tt (chain_last (thn (hc pins s3 O H3 _ I3 q3) λw' s4 ⟨z',H4,I4,r4,q4⟩=>ho' pins s4 O H4 y z' u w' Q I4 r2 r4 q4))
theorem z2V:(sizeLine:Nat)<2 ^ 63:=by rw[sizeLine_eq];decide
theorem vals1{x:V}{us:List Value}(r:yC [x] us):∃u,us=[u]/\xL x u:=by cases r with | cons r1 r2=>cases r2;exact⟨_,rfl,r1⟩
theorem vals2{x y:V}{us:List Value}(r:yC [x,y] us):∃u w',us=[u,w']/\xL x u/\xL y w':=by cases r with | cons r1 r2=> cases r2 with | cons r3 r4=>cases r4;exact⟨_,_,rfl,r1,r3⟩
theorem z61:yM X (.builtin "abs") (λxs H Q=>∃i,xs=[.int i]/\Q (.int (if i<0 then -i else i)) H):=by
 intro pins s O H xs us Q I r h;obtain⟨i,rfl,q⟩:=h;obtain⟨u,rfl,t,rfl⟩:=vals1 r;exact call_abs_int λu tk=>⟨.int (if i<0 then -i else i),H,I.tok _,⟨_,rfl⟩,q⟩
theorem z4W(hc:X.calm=true):yM X (.builtin "max") (λxs H Q=>∃i j,xs=[.int i,.int j]/\Q (.int (if j > i then j else i)) H):=by
 intro pins s O H xs us Q I r h;obtain⟨i,j,rfl,q⟩:=h;obtain⟨u,w',rfl,⟨t,rfl⟩,⟨t',rfl⟩⟩:=vals2 r;refine max_two_ints (I.ok.hd hc) λh' tk k=>⟨_,H,I.kept k,?_,q⟩;by_cases hj:j > i;·rw[_o hj,_o hj];exact⟨_,rfl⟩
 ·rw[_I hj,_I hj];exact⟨_,rfl⟩
theorem z4n(hc:X.calm=true):yM X (.builtin "min") (λxs H Q=>∃i j,xs=[.int i,.int j]/\Q (.int (if j<i then j else i)) H):=by
 intro pins s O H xs us Q I r h;obtain⟨i,j,rfl,q⟩:=h;obtain⟨u,w',rfl,⟨t,rfl⟩,⟨t',rfl⟩⟩:=vals2 r;refine min_two_ints (I.ok.hd hc) λh' tk k=>⟨_,H,I.kept k,?_,q⟩;by_cases hj:j<i;·rw[_o hj,_o hj];exact⟨_,rfl⟩
 ·rw[_I hj,_I hj];exact⟨_,rfl⟩
theorem z52:yM X (.type "int") (λxs H Q=>(∃i,xs=[.int i]/\Q (.int i) H)\/∃k,xs=[.bl k]/\Q (.int (if k then 1 else 0)) H):=by
 intro pins s O H xs us Q I r h;rcases h with⟨i,rfl,q⟩ | ⟨k,rfl,q⟩
 ·obtain⟨u,rfl,t,rfl⟩:=vals1 r;exact call_int_int ⟨.int i,H,I,⟨_,rfl⟩,q⟩
 ·obtain⟨u,rfl,r1⟩:=vals1 r;cases r1;exact call_int_bool ⟨.int (if k then 1 else 0),H,I.tok _,⟨_,rfl⟩,q⟩
end
structure zbW(h:Heap)(x dx C:Addr)(mA:Str->Option Value):Prop where
 obj:h.get? x=some (W.instObj C dx)
 ns:h.Ns1 dx mA
 ne:dx≠x
theorem z5f{h:Heap}{dx:Addr}{mA:Str->Option Value}(n:h.Ns1 dx mA):∃od,h.get? dx=some od/\∀name,W.lookIn name od=some (mA name):=by
 obtain⟨o,es,ep,ho,hd,hk,_,hm⟩:=n;refine⟨o,ho,λname=>?_⟩;have e:=hm name;unfold nsFind findBy at e;rw[<- Array.find?_toList]at e;unfold W.lookIn;rw[hd];dsimp only;split
 ·rename_i y q;rw[q]at e;exact _bk some e
 ·rename_i q;rw[q]at e;have a:es.toList.any (·.refKey)=false:=by
   rw[List.any_eq_false];intro y hy;obtain⟨z,t,hkey⟩:=hk y (Array.mem_toList_iff.mp hy);simp[DictEntry.refKey,hkey]
  have a':¬ es.toList.any (·.refKey)=true:=by rw[a];exact _ax
  rw[_I a'];exact _bk some e
theorem zbW.look{h:Heap}{x dx C:Addr}{mA:Str->Option Value}(I:zbW h x dx C mA):∃od,W.InstAt h x (W.instObj C dx) C (some od)/\∀name,W.lookIn name od=some (mA name):= let ⟨od,ho,hl⟩:=z5f I.ns;⟨od,⟨I.obj,rfl,rfl,ho⟩,hl⟩
section
variable {P:Program}{w:World}{H H':Hp}{h h':Heap}{a C dx:Addr}{fs fs':List (Str×V)}
theorem z89(hok:HOk P w H h)(e:H a=some (.ins C dx fs)):∃mA,zbW h a dx C mA/\(∀f,zc0 (fs.lookup f) (mA f))/\PySem.Within mA (fs.map (·.1))/\fs.length<=1000/\H dx=some (.own a):=by
 obtain⟨d,z,ne,ob,mA,n,r,q⟩:=(show xQ P w H h a (.ins C dx fs) from hok a _ e);exact⟨mA,⟨ob,n,ne⟩,r,q,z,d⟩
end
structure Cls(K:W.Frag)(C:Addr):Prop where
 pg:W.plainGet K C Str.empty=true
 hd:W.hasDictIn K C=true
 po:W.plainOver K C=true
 sa:W.findIn K (.ref C) "__setattr__"=some (some (.builtin "object.__setattr__"))
theorem Cls.get{K:W.Frag}{C:Addr}(c:Cls K C)(f:Str):W.plainGet K C f=true:=c.pg
section
variable {X:Cx}{pins:List (Addr×Obj)}{O:St}{H:Hp}{s:Shared}{A:Around}{E:Value->Shared->Prop}{Q:Value->Shared->Prop}{c:Value}{b:Bool}
inductive z3j(K:W.Frag)(H:Hp):V->Value->Prop where | non:z3j K H .non (.type "NoneType") | bl (x:Bool):z3j K H (.bl x) (.type "bool") | int (i:Int):z3j K H (.int i) (.type "int") | str (x:Str):z3j K H (.str x) (.type "str") | flt (x:UInt64):z3j K H (.flt x) (.type "float") | lst {a:Addr}{xs:List V}(e:H a=some (.lst xs)):z3j K H (.ref a) (.type "list") | frz {a:Addr}{o:Obj}{xs:List V}(e:H a=some (.frz o (.lst xs))):z3j K H (.ref a) (.type "list") | tup {a:Addr}{xs:List V}(e:H a=some (.tup xs)):z3j K H (.ref a) (.type "tuple") | dK {a:Addr}{kvs:List (Key×V)}(e:H a=some (.dK kvs)):z3j K H (.ref a) (.type "dict") | dT {a:Addr}{kvs:List (List Key×V)}(e:H a=some (.dT kvs)):z3j K H (.ref a) (.type "dict") | ins {a C dx:Addr}{fs:List (Str×V)}(e:H a=some (.ins C dx fs))(cl:Cls K C)(ha:W.findIn K (.ref C) "__class__"=some (some (.builtin "object.__class__"))) (hn:W.specialIn K (.builtin "object.__class__") "__get__"=some (some (.builtin "getset_descriptor.__get__")))(htk:W.takesIn K (.builtin "object.__class__")=some true) (hm:W.mroIn K C (.type "object")=some true):z3j K H (.ref a) (.ref C)
theorem z4A {x:V} {u t:Value} (I:Inv X pins O H s) (rx:xL x u) (ty:z3j X.K H x t) (e:W.kitOne X.K t c=some b) (h:∀tk,Q (.bool b) {s with toks:=tk}): wpAny (model X.prog X.w) A (call (.builtin "isinstance") [u,c]) Q E s:=by cases ty with
 | non=>cases (show u=Value.none from rx);exact _aR W.kitx_none I.kIn True.intro e (λz=>nomatch z) h | bl y=>cases (show u=Value.bool y from rx);exact _aR W.kitx_bool I.kIn True.intro e (λz=>nomatch z) h | int i=>obtain⟨t,q⟩:=(show ∃t,u=Value.int i t from rx);cases q;exact _aR W.kitx_int I.kIn True.intro e (λz=>nomatch z) h | str y=>obtain⟨t,q⟩:=(show ∃t,u=Value.str y t from rx);cases q;exact _aR W.kitx_str I.kIn True.intro e (λz=>nomatch z) h | flt y=>obtain⟨t,q⟩:=(show ∃t,u=Value.float y t from rx);cases q;exact _aR W.kitx_float I.kIn True.intro e (λz=>nomatch z) h | @lst a xs ea=>
  cases (show u=Value.ref a from rx);obtain⟨_,_,n,_,h1⟩:=(show xQ X.prog X.w H s.heap a (.lst xs) from I.hok a _ ea);exact _aR W.kitx_list I.kIn ⟨_,h1,rfl⟩ e (λz=>nomatch z) h | @frz a ob xs ea=>
  cases (show u=Value.ref a from rx);obtain⟨_,_,_,n,_,h1⟩:=(show xQ X.prog X.w H s.heap a (.frz ob (.lst xs)) from I.hok a _ ea);exact _aR W.kitx_list I.kIn ⟨_,h1,rfl⟩ e (λz=>nomatch z) h | @tup a xs ea=>
  cases (show u=Value.ref a from rx);obtain⟨_,_,_,p⟩:=(show xQ X.prog X.w H s.heap a (.tup xs) from I.hok a _ ea);obtain⟨o,h1,h2,_⟩:=p;exact _aR W.kitx_tuple I.kIn ⟨o,h1,h2⟩ e (λz=>nomatch z) h | @dK a kvs ea=>
  cases (show u=Value.ref a from rx);obtain⟨_,_,vs,_,p⟩:=(show xQ X.prog X.w H s.heap a (.dK kvs) from I.hok a _ ea);obtain⟨o,es,ep,h1,h2,_⟩:=p;exact _aR W.kitx_dict I.kIn ⟨o,h1,h2.1⟩ e (λz=>nomatch z) h | @dT a kvs ea=>
  cases (show u=Value.ref a from rx);obtain⟨_,_,xs,_,o,es,ep,h1,h2,_⟩:=(show xQ X.prog X.w H s.heap a (.dT kvs) from I.hok a _ ea);exact _aR W.kitx_dict I.kIn ⟨o,h1,h2.1⟩ e (λz=>nomatch z) h | @ins a C dx fs ea cl ha hn htk hm=>
  cases (show u=Value.ref a from rx);obtain⟨mA,Oo,_⟩:=z89 I.hok ea;obtain⟨od,J,_⟩:=Oo.look;exact _aR (W.kitx_own (cl.get _) cl.hd ha hn htk hm) I.kIn J e (λz=>nomatch z) h
end
structure kq(k:Nat)(A:Around):Prop where
 hd:A.handled=none
 dp:A.depth+3*k+5<recursionLimit
 un:A.units+16*k+200<cLine
 gd:A.guards=some []
theorem kq.mono{j k:Nat}{A:Around}(r:kq k A)(h:j<=k):kq j A:=⟨r.hd,by have:=r.dp;omega,by have:=r.un;omega,r.gd⟩
theorem kq.deeper{k:Nat}{A:Around}(r:kq (k+1) A)(env:Env):kq k (A.deeper env):= ⟨r.hd,by have:=r.dp;show A.depth+1+3*k+5<_;omega,by have:=r.un;show A.units+3+16*k+200<_;omega,r.gd⟩
theorem kq.depth{k:Nat}{A:Around}(r:kq k A):A.depth<recursionLimit:=by have:=r.dp;omega
theorem kq.units{k:Nat}{A:Around}(r:kq k A):A.units+64<cLine:=by have:=r.un;omega
def zcL:TA:=λ_ H Q=>Q [] H
def zbg(ta:TE)(tr:TA):TA:=λO H Q=>ta O H λx H1=>tr O H1 λxs H2=>Q (x::xs) H2
section
variable {X:Cx}{e:Expr}{es:List Expr}{te:TE}{t:TA}{pos:Pos}
theorem z32:PA X [] zcL:=λ_ _ _ _ H Q I h=>Calls.spliced_nil ⟨[],H,I,.nil,h⟩
theorem jM(ha:PE X e te)(hr:PA X es t)(hs:starEach (e::es) X.env=(false,eval e X.env)::starEach es X.env:=by rfl):PA X (e::es) (zbg te t):=by
 intro pos pins s O H Q I h;rw[hs];show wpAny _ _ (spliced ((false,eval e X.env)::backTo pos (starEach es X.env))) _ _ s;refine Calls.spliced_cons (thn (ha pins s O H _ I h) λu s1 ⟨x,H1,I1,r1,q1⟩=>?_);exact thn (hr pos pins s1 O H1 _ I1 q1) λus s2 ⟨xs,H2,I2,r2,q2⟩=>⟨x::xs,H2,I2,.cons r1 r2,q2⟩
def zcX(t:TA):TE:=λO H Q=>t O H λxs H1=>xs.length<=sizeLine/\∀p,H1 p=none->Q (.ref p) (upd H1 p (.tup xs))
def zcA(t:TA):TE:=λO H Q=>t O H λxs H1=>xs.length<=sizeLine/\∀p,H1 p=none->Q (.ref p) (upd H1 p (.lst xs))
theorem z9l{x1}(h:PA X es t):PE X (.Tuple es x1 pos) (zcX t):=by
 intro pins s O H Q I hq;refine wpAny_Tuple_spliced (thn (h pos pins s O H _ I hq) λus s1 ⟨xs,H1,I1,r,z,q⟩=>⟨by rw[<- r.length];exact z,?_⟩);have hf:H1 s1.heap.objs.size=none:=I1.hok.fresh (_n _);refine⟨.ref s1.heap.objs.size,upd H1 s1.heap.objs.size (.tup xs),I1.laid (t':=s1.toks) (λb u e=>_c _ e) (_n _) ?_,rfl,q _ hf⟩;exact⟨z,us,r,⟨_,_u _ rfl,rfl,rfl,_,rfl⟩⟩
theorem z7s(h:PA X es t):PE X (.List es pos) (zcA t):=by
 intro pins s O H Q I hq;refine wpAny_List_spliced (thn (h pos pins s O H _ I hq) λus s1 ⟨xs,H1,I1,r,z,q⟩=>⟨by rw[<- r.length];exact z,?_⟩);have hf:H1 s1.heap.objs.size=none:=I1.hok.fresh (_n _);refine⟨.ref s1.heap.objs.size,upd H1 s1.heap.objs.size (.lst xs),I1.laid (t':=s1.toks) (λb u e=>_c _ e) (_n _) ?_,rfl,q _ hf⟩;exact⟨z,us,0,r,_u _ rfl⟩
end
abbrev Sp:=List V->Hp->VK->XK->Prop
abbrev CXT:=List Env->Hp->Shared->XK->Value->Shared->Prop
structure zaL(P:Program)(w:World)(K:W.Frag)(mg:Str->Option Value)(base:Heap)(A:Around)(outer:List Env)(s:Shared)(H:Hp):Prop where
 frames:A.frames=some outer
 mod:Mod K mg base
 bs:∀b o,base.get? b=some o->s.heap.get? b=some o/\H b=none
 bsz:base.objs.size<=s.heap.objs.size
 funs:s.heap.FunFrames base outer
 frf:∀b∈frs outer,H b=none
 hok:HOk P w H s.heap
 bare:AllBare s.gens
def CE(outer:List Env)(P:Program)(w:World)(H:Hp)(s:Shared)(Q:VK)(u:Value)(s':Shared):Prop:= ∃v H',s'.os=s.os/\AllBare s'.gens/\Un (frs outer) [] H H' s.heap s'.heap/\HOk P w H' s'.heap/\xL v u/\Q v H'
def CR(CX:CXT)(outer:List Env)(P:Program)(w:World)(H:Hp)(s:Shared)(Q:VK)(E:XK)(r:Result)(s':Shared):Prop:= match r with
 | .ok (.ret u)=>CE outer P w H s Q u s' | .ok _=>False | .error e=>CX outer H s E e s'
structure z0Z(P:Program)(w:World)(K:W.Frag)(mg:Str->Option Value)(base:Heap)(CX:CXT)(k:Nat)(f:Addr)(fd:FuncData)(ps:List Str)(sp:Sp):Prop where
 len:∀vs H Q E,sp vs H Q E->vs.length=ps.length
 run:∀(A:Around)(outer:List Env)(s:Shared)(H:Hp)(args:Args)(us:List Value)(vs:List V)(Q:VK)(E:XK),kq k A->zaL P w K mg base A outer s H->BindsTo s fd args (ps.zip us)->yC vs us->sp vs H Q E-> codeAny (model P w) A (.call (.ref f) args) (CR CX outer P w H s Q E) s
theorem z0Z.mono{P:Program}{w:World}{K:W.Frag}{mg:Str->Option Value}{base:Heap}{CX:CXT}{j k:Nat}{f:Addr}{fd:FuncData}{ps:List Str}{sp:Sp}(F:z0Z P w K mg base CX j f fd ps sp)(h:j<=k): z0Z P w K mg base CX k f fd ps sp:=⟨F.len,λA outer s H args us vs Q E hr=>F.run A outer s H args us vs Q E (hr.mono h)⟩
theorem z0Z.imp{P:Program}{w:World}{K:W.Frag}{mg:Str->Option Value}{base:Heap}{CX:CXT}{k:Nat}{f:Addr}{fd:FuncData}{ps:List Str}{sp sp':Sp}(F:z0Z P w K mg base CX k f fd ps sp) (h:∀vs H Q E,sp' vs H Q E->sp vs H Q E):z0Z P w K mg base CX k f fd ps sp':= ⟨λvs H Q E q=>F.len vs H Q E (h _ _ _ _ q),λA outer s H args us vs Q E hr he hb hv hs=>F.run A outer s H args us vs Q E hr he hb hv (h _ _ _ _ hs)⟩
section
variable {X:Cx}{pins:List (Addr×Obj)}{O:St}{H:Hp}{s s':Shared}
theorem Inv.env0(I:Inv X pins O H s):zaL X.prog X.w X.K X.mg X.base X.A X.stack s H:= ⟨I.ok.frames,I.ok.mod,I.bs,_B I.ok.bsz I.sz,I.stack,I.stkFree,I.hok,I.bare⟩
theorem Inv.after {Q:VK} {u:Value} (I:Inv X pins O H s) (h:CE X.stack X.prog X.w H s Q u s'):EP X pins O Q u s':=by
 obtain⟨v,H',os,bare,un,hok,r,q⟩:=h;obtain⟨hh,g,d,t,os'⟩:=s';obtain rfl:os'=s.os:=os;exact⟨v,H',I.call (h':=hh) (g':=g) (d':=d) (t':=t) (ch:=[]) un hok bare (λb z=>absurd z (by simp)),r,q⟩
end
def zb8(sp:Sp)(dvs:List V)(E:XK)(t:TA):TE:=λO H Q=>t O H λvs H1=>sp (vs++dvs) H1 Q E
def Binds(K:W.Frag)(fd:FuncData)(ps:List Str)(ds:List Value):Prop:= ∀(s:Shared)(us:List Value),K.In s.heap->(us++ds).length=ps.length->BindsTo s fd ⟨us,[]⟩ (ps.zip (us++ds))
theorem Binds.all{K:W.Frag}{fd:FuncData}{ps:List Str}(h:∀us:List Value,us.length=ps.length->bindArgs fd ⟨us,[]⟩=pure (ps.zip us)):Binds K fd ps []:=λs us _ hl=>by
 rw[_bo]at hl ⊢;exact .of_eq (h us hl)
def Passes(CX:CXT)(X:Cx)(E:XK):Prop:=∀(pins:List (Addr×Obj))(O:St)(H:Hp)(s:Shared)(e:Value)(s':Shared),Inv X pins O H s->CX X.stack H s E e s'->X.xe e s'
section
variable {X:Cx}{CX:CXT}{k:Nat}{f C:Addr}{fd:FuncData}{ps:List Str}{sp:Sp}{dvs:List V}{ds:List Value}{E:XK}{x m:Str}{p pos apos:Pos}{e o:Expr}{es:List Expr}{ta:TE}{t:TA}
theorem z7v{pins:List (Addr×Obj)}{O:St}{H:Hp}{s:Shared}{Q:VK}{us:List Value}{vs:List V}(F:z0Z X.prog X.w X.K X.mg X.base CX k f fd ps sp)(hr:kq k X.A)(hb:Binds X.K fd ps ds)(hd:yC dvs ds)(hx:Passes CX X E) (I:Inv X pins O H s)(r:yC vs us)(h:sp (vs++dvs) H Q E):wpAny (model X.prog X.w) X.A (call (.ref f) us) (EP X pins O Q) X.xe s:=by
 have r2:yC (vs++dvs) (us++ds):=r.append hd;have hl:(us++ds).length=ps.length:=by rw[<- r2.length];exact F.len _ _ _ _ h
 refine wpAny_call (codeAny_mono (F.run X.A X.stack s H ⟨us,[]⟩ (us++ds) (vs++dvs) Q E hr I.env0 (hb s us I.kIn hl) r2 h) λr s' hq=>?_);cases r with
 | error e=>exact hx pins O H s e s' I hq | ok fl=> cases fl with
  | ret u=>exact I.after hq | next=>exact False.elim hq | brk=>exact False.elim hq | cont=>exact False.elim hq
theorem z7R (F:z0Z X.prog X.w X.K X.mg X.base CX k f fd ps sp) (hr:kq k X.A) (hg:Gl X x) (hm:X.mg x=some (.ref f)) (hk:W.keepIn X.K (.ref f)=true) (hb:Binds X.K fd ps ds) (hd:yC dvs ds) (hx:Passes CX X E) (ha:PA X (e::es) t) (hdb:(x==("__debug__":Str))=false:=by decide) (he:starEach (e::es) X.env=(false,eval e X.env)::starEach es X.env:=by rfl) (hpl:(backTo pos (starEach es X.env)).any (·.1)=false:=by rfl): PE X (.Call (.Name x p) (e::es) [] pos) (zb8 sp dvs E t):=by
 intro pins s O H Q I h;refine _aL (z5A I hg hm ?_ hdb);refine W.callWith_K (h₀:=X.base) I.ok.mod.kin hk (thn (ha pos pins s O H _ I h) λus s1 ⟨vs,H1,I1,r,q⟩=>⟨I1.kIn,?_⟩) he hpl;exact z7v F hr hb hd hx I1 r q
end
structure zJ(N P:List Str)(sc:Scope):Prop where
 kind:sc.kind=.function
 co:sc.isCoroutine=false
 gen:sc.isGenerator=false
 nd:N.Nodup
 pre:N.take P.length=P
 par:∀x∈P,sc.names.lookup x=some .local\/sc.names.lookup x=some .cell
 nofree:∀y∈sc.names,y.2≠.free
theorem z1r{kindOf:Str->Option NameKind}{x:Str}:∀{binds:List (Str×Value)}{m:Str->Option Value},(∀v,(x,v)∉binds)->bindL kindOf binds m x=m x
 | [],_,_=>rfl | (n,v)::r,m,h=>by
  unfold bindL;rw[z1r λw hw=>h w (_z _ hw)];split
  ·have:x≠n:=by rintro rfl;exact h v _N
   simp[this]
  ·rfl
theorem z1T{kindOf:Str->Option NameKind}{x:Str}:∀{binds:List (Str×Value)}{m:Str->Option Value},(∀v,(x,v)∉binds)->bindC kindOf binds m x=m x
 | [],_,_=>rfl | (n,v)::r,m,h=>by
  unfold bindC;rw[z1T λw hw=>h w (_z _ hw)];split;·rfl
  ·have:x≠n:=by rintro rfl;exact h v _N
   simp[this]
theorem z1e{kindOf:Str->Option NameKind}{x:Str}{v:Value}:∀{P:List Str}{vs:List Value}{i:Nat}{m:Str->Option Value},P.Nodup->P[i]? = some x->vs[i]? = some v->kindOf x=some .local-> bindL kindOf (P.zip vs) m x=some v
 | [],_,_,_,_,h,_,_=>by simp at h | _::_,[],_,_,_,_,h,_=>by simp at h | p::P,w::vs,0,m,nd,h1,h2,hk=>by
  simp at h1 h2;subst h1;subst h2;show bindL kindOf ((p,w)::P.zip vs) m p=_;unfold bindL;rw[z1r λv hv=>(_bp.mp nd).1 (_a4 hv).1,_o hk];simp | p::P,w::vs,i+1,m,nd,h1,h2,hk=>by
  show bindL kindOf ((p,w)::P.zip vs) m x=_;unfold bindL;exact z1e (i:=i) (_bp.mp nd).2 (by simpa using h1) (by simpa using h2) hk
theorem z1Q{kindOf:Str->Option NameKind}{x:Str}{v:Value}:∀{P:List Str}{vs:List Value}{i:Nat}{m:Str->Option Value},P.Nodup->P[i]? = some x->vs[i]? = some v->kindOf x≠some .local-> bindC kindOf (P.zip vs) m x=some v
 | [],_,_,_,_,h,_,_=>by simp at h | _::_,[],_,_,_,_,h,_=>by simp at h | p::P,w::vs,0,m,nd,h1,h2,hk=>by
  simp at h1 h2;subst h1;subst h2;show bindC kindOf ((p,w)::P.zip vs) m p=_;unfold bindC;rw[z1T λv hv=>(_bp.mp nd).1 (_a4 hv).1,_I hk];simp | p::P,w::vs,i+1,m,nd,h1,h2,hk=>by
  show bindC kindOf ((p,w)::P.zip vs) m x=_;unfold bindC;exact z1Q (i:=i) (_bp.mp nd).2 (by simpa using h1) (by simpa using h2) hk
def start(N:List Str)(vs:List V):St:=vs.map some++List.replicate (N.length-vs.length) none
def z5K(CX:CXT)(P:Program)(w:World)(K:W.Frag)(mg:Str->Option Value)(base:Heap)(N:List Str)(qual:Str)(scope:Scope)(f:Addr)(cd:Value)(A:Around)(outer:List Env)(s:Shared)(H:Hp)(E:XK):Cx where
 prog:=P;w:=w;K:=K;mg:=mg;base:=base;A:=A.deeper (envOfC qual scope s.heap.objs.size f cd);N:=N;s₀:=s;H₀:=H;env:=envOfC qual scope s.heap.objs.size f cd;outer:=outer;stack:=envOfC qual scope s.heap.objs.size f cd::outer;ex:=[];calm:=A.handled.isNone;fn:=λ_=>true;pn:=[];xe:=λe s'=>wpAny (model P w) (A.deeper (envOfC qual scope s.heap.objs.size f cd)) (leaving (envOfC qual scope s.heap.objs.size f cd) e) (λ_ s''=>CX outer H s E e s'') (λe' s''=>CX outer H s E e' s'') s'
theorem qM{sc:Scope}{n:Nat}{x:Str}(h:sc.names.lookup x=some .cell):∃c,(cellsFrom n sc.names []).lookup x=some c:=by
 have q:=W.cellsFrom_some sc.names n [] (.inl h);exact _a1.mp q
theorem z4O{CX:CXT}{P:Program}{w:World}{K:W.Frag}{mg:Str->Option Value}{base:Heap}{N ps:List Str}{qual:Str}{scope:Scope}{f:Addr}{cd:Value}{A:Around}{outer:List Env}{s s1:Shared}{H:Hp}{E:XK}{us:List Value}{vs:List V} (S:zJ N ps scope)(e0:zaL P w K mg base A outer s H)(hl:vs.length=ps.length)(r:yC vs us) (x:InCallC s s.heap.objs.size (bindL (envOfC qual scope s.heap.objs.size f cd).kindOf (ps.zip us) λ_=>none) (cellsFrom (s.heap.objs.size+1) scope.names []) (bindC (envOfC qual scope s.heap.objs.size f cd).kindOf (ps.zip us) λ_=>none) s1): Inv (z5K CX P w K mg base N qual scope f cd A outer s H E) [] (start N vs) H s1:=by
 have hpl:ps.length<=N.length:=by have:=_bk List.length S.pre;rw[_bN]at this;omega
 obtain⟨h1,tk,rfl,hk⟩:=x.done;have noA:∀b:Addr,b∉(z5K CX P w K mg base N qual scope f cd A outer s H E).ex:=λb z=>absurd (show b∈([]:List Addr) from z) (by simp);refine⟨⟨e0.mod,S.kind,rfl,rfl,_n _,λy z c h1 h2=>?_,λy hy=>?_,λy c _ h=>?_,λh=>Option.isNone_iff_eq_none.mp h,Around.frames_deeper e0.frames,.inr ⟨rfl,rfl⟩,λb z=>absurd z (noA b),e0.bs,e0.bsz,λb _ _=>noA b,λb z=>absurd z (noA b),e0.funs,e0.frf⟩, rfl,e0.bare,Un.kept hk,⟨_,x.toInCall.ns,λi y v h1 h2 h3=>?_⟩,λy c h=>⟨_,x.cell y c h⟩,e0.hok.fresh (_n _),λy c h=>?_,λp hp=>absurd (show p∈([]:List (Addr×Obj)) from hp) (by simp),e0.hok.kept hk,?_⟩;·exact name_of_addr x.apart (_R h1) (_R h2)
 ·have hy:scope.names.lookup y=some .cell\/scope.names.lookup y=some .free:=hy;rcases hy with hy | hy;·exact qM hy
  ·exact absurd rfl (S.nofree _ (_R hy))
 ·exact _bZ (x.above y c (_R h))
 ·have hi:i<vs.length:=by
   unfold start at h2;by_cases hi:i<vs.length;·exact hi
   ·rw[List.getElem?_append_right (by simpa using hi)]at h2;rw[List.getElem?_replicate]at h2;split at h2<;>cases h2
  have ha:vs[i]? = some v:=by
   unfold start at h2;rw[_x (by simpa using hi),_D]at h2;cases e:vs[i]? with
   | none=>rw[e]at h2;cases h2 | some a=>rw[e]at h2;cases h2;rfl
  obtain⟨u,hu,rv⟩:=r.get ha;have hp:ps[i]? = some y:=by rw[<- S.pre,_ah (by omega)];exact h1
  have ndP:ps.Nodup:=by rw[<- S.pre];exact S.nd.sublist (_bE _ _)
  refine⟨u,rv,?_⟩;rcases S.par y (_s hp) with k | k;·exact .inl ⟨k,z1e ndP hp hu k⟩
  ·obtain⟨c,e⟩:=qM (n:=s.heap.objs.size+1) k;refine .inr ⟨.inl k,c,e,?_⟩;have q:=x.cell y c e;rw[z1Q ndP hp hu (by show scope.names.lookup y≠_;rw[k];decide)]at q;exact q
 ·exact e0.hok.fresh (_bZ (x.above y c (_R h)))
 ·unfold start;show _=N.length;rw[_am,_Y,List.length_replicate];omega
theorem zaX {CX:CXT} {P:Program} {w:World} {K:W.Frag} {mg:Str->Option Value} {base:Heap} {k:Nat} {f:Addr} {name qual:Str} {params:Arguments} {body:List Stmt} {scope:Scope} {dV kV doc pm cdv ct oc:Value} {an od:Option Addr} {osl:Array (Option Value)} {N ps:List Str} {sp:Sp} (lk:K.lookup f=some ⟨oc,od,.func (W.fnOf name qual params body scope dV kV doc pm an cdv ct),osl⟩) (hcd:W.codeIn K cdv qual=true) (S:zJ N ps scope) (len:∀vs H Q E,sp vs H Q E->vs.length=ps.length) (hbody:∀(A:Around) (outer:List Env) (s:Shared) (H:Hp) (vs:List V) (Q:VK) (E:XK),kq k (A.deeper (envOfC qual scope s.heap.objs.size f cdv))->sp vs H Q E-> ∃t,PSs (z5K CX P w K mg base N qual scope f cdv A outer s H E) body t/\t {nx:=λ_ H'=>Q .non H',rt:=Q} (start N vs) H): z0Z P w K mg base CX (k+1) f (W.fnOf name qual params body scope dV kV doc pm an cdv ct) ps sp:=by
 refine⟨len,λA outer s H args us vs Q E hr e0 hb r hsp=>?_⟩;have hl:=len _ _ _ _ hsp;have KX:K.In s.heap:=e0.mod.kin.keeps λb o e=>(e0.bs b o e).1;have lim:s.heap.NoLimit:=e0.mod.nolimit.keeps λb o e=>(e0.bs b o e).1;have hkind:∀y∈ps.zip us,scope.names.lookup y.1=some .local\/(scope.names.lookup y.1=some .cell/\((cellsFrom (s.heap.objs.size+1) scope.names []).lookup y.1).isSome=true):=λ⟨n,v⟩ hy=>by
  rcases S.par n (_a4 hy).1 with q | q;·exact .inl q
  ·exact .inr ⟨q,W.cellsFrom_some _ _ _ (.inl q)⟩
 refine codeAny_call_function hr.depth (KX _ _ lk) rfl S.co S.gen rfl (W.codeRec_of KX hcd) (hb _ _ _ _ ?_);refine wpAny_newFunctionEnv_cells S.kind hkind λenv he s1 x=>?_;subst he;refine⟨lim.keeps x.toInCall.keep,codeAny_func ?_⟩;obtain⟨t,ht,hq⟩:=hbody A outer s H vs Q E (hr.deeper _) hsp;have I:Inv (z5K CX P w K mg base N qual scope f cdv A outer s H E) [] (start N vs) H s1:=z4O S e0 hl r x;refine _ae (ht [] s1 (start N vs) H _ I hq) (λfl s' hs=>?_) λe s' hs=>hs;have fin:∀{O':St} {H':Hp} {v:V} {u:Value},Inv (z5K CX P w K mg base N qual scope f cdv A outer s H E) [] O' H' s'->xL v u->Q v H'->CE outer P w H s Q u s':= λ{O' H' v u} J rv q=>⟨v,H',J.os,J.bare,J.base,J.hok,rv,q⟩;cases fl with
 | ret u=>
  obtain⟨v,O',H',J,rv,q⟩:=hs;exact fin J rv q | next=>
  obtain⟨O',H',J,q⟩:=hs;exact fin (v:=V.non) (u:=Value.none) J rfl q | brk=>
  obtain⟨_,_,_,q⟩:=hs;exact False.elim q | cont=>
  obtain⟨_,_,_,q⟩:=hs;exact False.elim q
section
variable {X:Cx}{x:Str}{p pos:Pos}{e:Expr}{es:List Expr}{t:TA}{id T:String}{r:List V->Hp->VK->Prop}
def tCB(r:List V->Hp->VK->Prop)(t:TA):TE:=λO H Q=>t O H λvs H1=>r vs H1 Q
theorem z3f (hc:yM X (.builtin id) r) (hg:Gl X x) (hm:X.mg x=none) (hv:bootBuiltins x=some (.builtin id)) (ha:PA X (e::es) t) (hn:x≠"__name__":=by decide) (hdb:(x==("__debug__":Str))=false:=by decide) (he:starEach (e::es) X.env=(false,eval e X.env)::starEach es X.env:=by rfl) (hpl:(backTo pos (starEach es X.env)).any (·.1)=false:=by rfl):PE X (.Call (.Name x p) (e::es) [] pos) (tCB r t):=by
 intro pins s O H Q I h;refine _aL (z05 I hg hm hv ?_ hn hdb);exact PyProof.Rows.callWith_builtin1 (thn (ha pos pins s O H _ I h) λus s1 ⟨vs,H1,I1,r1,q1⟩=>hc pins s1 O H1 vs us Q I1 r1 q1) he hpl
theorem z5j (hc:yM X (.type T) r) (hg:Gl X x) (hm:X.mg x=none) (hv:bootBuiltins x=some (.type T)) (ha:PA X (e::es) t) (hn:x≠"__name__":=by decide) (hdb:(x==("__debug__":Str))=false:=by decide) (he:starEach (e::es) X.env=(false,eval e X.env)::starEach es X.env:=by rfl) (hpl:(backTo pos (starEach es X.env)).any (·.1)=false:=by rfl):PE X (.Call (.Name x p) (e::es) [] pos) (tCB r t):=by
 intro pins s O H Q I h;refine _aL (z05 I hg hm hv ?_ hn hdb);exact _aw (thn (ha pos pins s O H _ I h) λus s1 ⟨vs,H1,I1,r1,q1⟩=>hc pins s1 O H1 vs us Q I1 r1 q1) he hpl
end
end L2
namespace HT
section
open PySem.SeqAt
open PySem.AutoSeq1 (wpAny_loadPart')
open PySem.MeetsSeq PySem.MeetsSeq2 PySem.MeetsSeq3
end
section
variable {prog:Program}{w:World}{A:Around}{E:Value->Shared->Prop}{s:Shared}
theorem z8o {t b:Addr} {vs ws:List Value} {Q:Value->Shared->Prop} (ht:IsTup s.heap t vs.toArray) (hb:IsTup s.heap b ws.toArray) (hv:vs≠[]) (h1:ws=[]->Q (.ref t) s) (h2:ws≠[]->Q (.ref s.heap.objs.size) {s with heap:=s.heap.push {cls:=.type "tuple",data:=.seq (vs++ws).toArray}}) (hsz:vs.length+ws.length<=sizeLine):wpAny (model prog w) A (binaryOp .Add (.ref t) (.ref b)) Q E s:=by
 obtain⟨⟨cls,dd,data,sl⟩,ho,hc,n,hd⟩:=id ht;obtain⟨⟨cls2,dd2,data2,sl2⟩,ho2,hc2,n2,hd2⟩:=id hb;simp only at hc hd hc2 hd2;subst hc hd hc2 hd2;have e:vs.toArray++ws.toArray=(vs++ws).toArray:=by simp
 by_cases hw:ws=[]
 ·exact concat_meets ⟨_,ho,rfl⟩ ⟨_,ho2,rfl⟩ _bP seq_tuple_add _ba _a9 (_a2 _ _) (tuple_addW1 t b vs.toArray ws.toArray n n2 dd dd2 sl sl2 (by simpa using hv) (by simp[hw])) ⟨ho,ho2,h1 hw⟩
 ·refine concat_meets ⟨_,ho,rfl⟩ ⟨_,ho2,rfl⟩ _bP seq_tuple_add _ba _a9 (_a2 _ _) (tuple_addW2 t b vs.toArray ws.toArray n n2 dd dd2 sl sl2 (by simpa using hv) (by simpa using hw) (by rw[_j,_j];exact hsz)) ⟨ho,ho2,?_⟩;rw[e];exact h2 hw
def sIx(n d:Nat):Option Int->Nat
 | none=>d | some v=>if v<0 then (v+(n:Int)).toNat else min v.toNat n
theorem z2Q(n d:Nat):sIx n d none=d:=rfl
theorem z4K(n d k:Nat):sIx n d (some (k:Int))=min k n:=by
 show (if (k:Int)<0 then ((k:Int)+(n:Int)).toNat else min (k:Int).toNat n)=min k n;rw[_I (by omega),_at]
theorem z9M(n d:Nat)(hd:d<=n)(o:Option Int):sIx n d o<=n:=by cases o with
 | none=>exact hd | some v=>
  show (if v<0 then (v+(n:Int)).toNat else min v.toNat n)<=n;by_cases hv:v<0;·rw[_o hv];omega
  ·rw[_I hv];exact Nat.min_le_right _ _
theorem z4s(v:Int)(n d:Nat):(if v<0 then max (v+(n:Int)) 0 else min v (n:Int))=((sIx n d (some v):Nat):Int):=by
 show (if v<0 then max (v+(n:Int)) 0 else min v (n:Int))=(((if v<0 then (v+(n:Int)).toNat else min v.toNat n):Nat):Int);by_cases hv:v<0;·simp only[_o hv];omega
 ·simp only[_I hv];omega
theorem z3A(lo hi:Option Int)(n:Nat):Builtin.Slice.sliceAdjust lo hi 1 (n:Int)=(((sIx n 0 lo:Nat):Int),(sIx n n hi:Int)):=by
 have h1:¬ ((1:Int)<0):=by omega
 unfold Builtin.Slice.sliceAdjust;simp only[h1,if_false];refine Prod.ext ?_ ?_;·cases lo with
  | none=>rfl | some v=>exact z4s v n 0
 ·cases hi with
  | none=>rfl | some v=>exact z4s v n n
theorem z3T (i j:Nat):Builtin.Slice.slicePlaces (i:Int) (j:Int) 1=j-i:=by
 unfold Builtin.Slice.slicePlaces;have h1:(1:Int) > 0:=by omega
 simp only[h1,_Z,Int.ediv_one];split<;>omega
theorem z07{v:Value}{o:Option Int}{Q:Option Int->Shared->Prop}(p:IsPart v o)(h:Q o s):wpAny (model prog w) A (Builtin.Slice.slicePartIndex v) Q E s:=by cases p with
 | none=>exact slicePart_none h | int i t=>exact slicePart_int h
theorem vm{sl:Addr}{vl vu:Value}{lo hi:Option Int}{n:Nat}{Q:Int×Int×Nat->Shared->Prop}(hs:s.heap.IsSliceOf sl vl vu .none)(pl:IsPart vl lo)(pu:IsPart vu hi) (h:Q (((sIx n 0 lo:Nat):Int),1,sIx n n hi-sIx n 0 lo) s):wpAny (model prog w) A (Builtin.Slice.sliceApplied (.ref sl) (pure (n:Int))) Q E s:=by
 obtain⟨os,hos,hcs,hds⟩:=id hs;unfold Builtin.Slice.sliceApplied Builtin.Slice.sliceFields;refine _a (_a (_K hos hds (x:=vl) rfl (_a (_K hos hds (x:=vu) rfl (_a (_K hos hds (x:=.none) rfl (_k ?_)))))));refine _a (slicePart_none ?_);show wpAny _ _ (if ((1:Int)==0)=true then _ else _) _ _ s;rw[_I (by decide)];refine _a (z07 pl (_a (z07 pu (_a (_k ?_)))));show wpAny _ _ (match Builtin.Slice.sliceAdjust lo hi 1 (n:Int) with | (lo,hi)=>pure (lo,(1:Int),Builtin.Slice.slicePlaces lo hi 1)) _ _ s;rw[z3A lo hi n];show wpAny _ _ (pure (((sIx n 0 lo:Nat):Int),(1:Int),Builtin.Slice.slicePlaces ((sIx n 0 lo:Nat):Int) (sIx n n hi:Int) 1)) _ _ s;rw[z3T];exact _k h
theorem z6m(xs:Array Value)(i k:Nat):((List.range k).filterMap λ(m:Nat)=>xs[((i:Int)+(m:Int)*1).toNat]?).toArray=((xs.toList.drop i).take k).toArray:=by
 have e:(λ(m:Nat)=>xs[((i:Int)+(m:Int)*1).toNat]?)=λm=>xs[i+m]? := by
  funext m;have:((i:Int)+(m:Int)*1).toNat=i+m:=by omega
  rw[this]
 rw[e];have:=pick_run xs i k;rw[List.filterMap_map]at this;have e2:((λx=>xs[x]?) ∘ λx=>i+x)=λm=>xs[i+m]? := rfl;rw[e2]at this;rw[this]
theorem uK {t sl:Addr} {items:Array Value} {vl vu:Value} {lo hi:Option Int} {Q:Value->Shared->Prop} (ht:IsTup s.heap t items) (hs:s.heap.IsSliceOf sl vl vu .none) (pl:IsPart vl lo) (pu:IsPart vu hi) (hw:¬ (sIx items.size 0 lo=0/\sIx items.size items.size hi=items.size)) (h:Q (.ref s.heap.objs.size) {s with heap:=s.heap.push {cls:=.type "tuple",data:=.seq ((items.toList.drop (sIx items.size 0 lo)).take (sIx items.size items.size hi-sIx items.size 0 lo)).toArray}}) (hsz:items.size<=sizeLine):wpAny (model prog w) A (getItem (.ref t) (.ref sl)) Q E s:=by
 have htake:sizeOk (.seq ((items.toList.drop (sIx items.size 0 lo)).take (sIx items.size items.size hi-sIx items.size 0 lo)).toArray):=by
  show ((items.toList.drop (sIx items.size 0 lo)).take (sIx items.size items.size hi-sIx items.size 0 lo)).toArray.size<=sizeLine;rw[_j,_bN,List.length_drop,_bt];omega
 have hj:sIx items.size items.size hi<=items.size:=z9M _ _ (_n _) hi;obtain⟨os,hos,hcs,hds⟩:=id hs;have hTs:s.TypeIs (.ref sl) "slice":=⟨os,hos,hcs⟩;unfold getItem;try with_reducible refine _bh ?_
 first | refine _a (_k ?_) | skip
 refine _a (wpAny_sequenceKey ht.typeIs (by decide) ?_);refine _a (_S (name:=Str.ofString "__getitem__") ht.typeIs _P (_an _P ht.typeIs entry_tuple_getitem ?_ (args_tuple_getitem _ _)));show wpAny _ _ (Builtin.Tuple.tupleItemsOf (.ref t) >>= _) _ _ s;refine _a (tupleItemsOf_ ht ?_);refine _a (wpAny_typeOf hTs ?_);rw[_o (by decide)];refine _a (vm hs pl pu ?_);have hno:¬ ((((sIx items.size 0 lo:Nat):Int)==0&&(1:Int)==1&&(sIx items.size items.size hi-sIx items.size 0 lo)==items.size)=true):=by
  intro q;rw[_m,_m]at q;have q1:((sIx items.size 0 lo:Nat):Int)=0:=eq_of_beq q.1.1;have q2:sIx items.size items.size hi-sIx items.size 0 lo=items.size:=eq_of_beq q.2;exact hw ⟨by omega,by omega⟩
 show wpAny _ _ (if (((sIx items.size 0 lo:Nat):Int)==0&&(1:Int)==1&&(sIx items.size items.size hi-sIx items.size 0 lo)==items.size)=true then _ else _) _ _ s;rw[_I hno,z6m];first
  | exact _a (m:=Builtin.Tuple.tupleExact _) (_aj (_k ⟨_,rfl,_k h⟩) htake) | exact _a (m:=Builtin.Tuple.tupleExact _) (_aj (_a (_k (_k ⟨_,rfl,_k h⟩))) htake) | exact _a (_a (m:=Builtin.Tuple.tupleExact _) (_aj (_k (_k ⟨_,rfl,_k h⟩)) htake)) | exact _a (_a (m:=Builtin.Tuple.tupleExact _) (_aj (_k ⟨_,rfl,_k h⟩) htake))
end
end HT
namespace L2
abbrev TO:=St->Hp->(Option Int->Hp->Prop)->Prop
def PO(X:Cx)(e:Option Expr)(t:TO):Prop:= ∀(pins:List (Addr×Obj))(s:Shared)(O:St)(H:Hp)(Q:Option Int->Hp->Prop),Inv X pins O H s->t O H Q-> wpAny (model X.prog X.w) X.A (evalPart e X.env) (λu s'=>∃o H',Inv X pins O H' s'/\IsPart u o/\Q o H') X.xe s
def z8H:TO:=λ_ H Q=>Q none H
def zb9(t:TE):TO:=λO H Q=>t O H λx H1=>∃i,x=.int i/\Q (some i) H1
section
variable {X:Cx}{e:Expr}{te:TE}{lo hi:Option Expr}{tl th:TO}{pos p2:Pos}
theorem z7Y:PO X none z8H:=by
 intro pins s O H Q I h;rw[evalPart_none];exact _k ⟨none,H,I,.none,h⟩
theorem z8n(h:PE X e te):PO X (some e) (zb9 te):=by
 intro pins s O H Q I hw;rw[evalPart_some];refine thn (h pins s O H _ I hw) λu s1 ⟨x,H1,I1,r1,q1⟩=>?_;obtain⟨i,rfl,q⟩:=q1;obtain⟨t,rfl⟩:=r1;exact⟨some i,H1,I1,.int i t,q⟩
def SlR(X:Cx)(r:V->Option Int->Option Int->Hp->VK->Prop):Prop:= ∀(pins:List (Addr×Obj))(s:Shared)(O:St)(H:Hp)(x:V)(v vl vu:Value)(lo hi:Option Int)(sl:Addr)(Q:VK),Inv X pins O H s->xL x v->s.heap.IsSliceOf sl vl vu .none->IsPart vl lo->IsPart vu hi->r x lo hi H Q-> ∃T id,typeLookup (.type T) "__getitem__"=pure (some (.builtin id))/\s.TypeIs v T/\wpAny (model X.prog X.w) X.A (getItem v (.ref sl)) (EP X pins O Q) X.xe s
theorem SlR.or{r r':V->Option Int->Option Int->Hp->VK->Prop}(h:SlR X r)(h':SlR X r'):SlR X (λx lo hi H Q=>r x lo hi H Q\/r' x lo hi H Q):=by
 intro pins s O H x v vl vu lo hi sl Q I rx hs pl pu q;rcases q with q | q;·exact h pins s O H x v vl vu lo hi sl Q I rx hs pl pu q
 ·exact h' pins s O H x v vl vu lo hi sl Q I rx hs pl pu q
def tSl(r:V->Option Int->Option Int->Hp->VK->Prop)(te:TE)(tl th:TO):TE:=λO H Q=>te O H λx H1=>tl O H1 λl H2=>th O H2 λu H3=>r x l u H3 Q
theorem z6f{r:V->Option Int->Option Int->Hp->VK->Prop}(hr:SlR X r)(he:PE X e te)(hl:PO X lo tl)(hu:PO X hi th):PE X (.Subscript e (.Slice lo hi none p2) pos) (tSl r te tl th):=by
 intro pins s O H Q I h;refine Subscript_ (thn (he pins s O H _ I h) λv s1 ⟨x,H1,I1,r1,q1⟩=>?_);refine wpAny_Slice (thn (hl pins s1 O H1 _ I1 q1) λvl s2 ⟨l,H2,I2,pl,q2⟩=>thn (hu pins s2 O H2 _ I2 q2) λvu s3 ⟨u,H3,I3,pu,q3⟩=>?_);rw[evalPart_none];refine _k ?_;have I4:Inv X pins O H3 {s3 with heap:=s3.heap.push {cls:=.type "slice",data:=.fields #[vl,vu,.none]}}:=I3.kept (t':=s3.toks) λb ob q=>_c _ q;obtain⟨T,id,hT,ht,hg⟩:=hr pins {s3 with heap:=s3.heap.push {cls:=.type "slice",data:=.fields #[vl,vu,.none]}} O H3 x v vl vu l u s3.heap.objs.size Q I4 r1 (Heap.IsSliceOf.new ..) pl pu q3;show wpAny (model X.prog X.w) X.A (subscriptTail e (.Slice lo hi none p2) v (.ref s3.heap.objs.size)) (EP X pins O Q) X.xe {s3 with heap:=s3.heap.push {cls:=.type "slice",data:=.fields #[vl,vu,.none]}};exact tail_any (ops:=[.ref s3.heap.objs.size,v]) ht hT hg (by with_unfolding_all rfl)
def z72(xs:List V)(lo hi:Option Int):List V:=(xs.drop (HT.sIx xs.length 0 lo)).take (HT.sIx xs.length xs.length hi-HT.sIx xs.length 0 lo)
theorem jo(xs:List V)(lo hi:Option Int):(z72 xs lo hi).length<=xs.length:=by
 unfold z72;rw[_bN,List.length_drop];omega
def zd5(K:W.Frag):V->Option Int->Option Int->Hp->VK->Prop:=λx lo hi H Q=>∃a xs,x=.ref a/\SqT K H a xs/\ ¬ (HT.sIx xs.length 0 lo=0/\HT.sIx xs.length xs.length hi=xs.length)/\∀p,H p=none->Q (.ref p) (upd H p (.tup (z72 xs lo hi)))
theorem z9G:SlR X (zd5 X.K):=by
 intro pins s O H x v vl vu lo hi sl Q I rx hs pl pu h;obtain⟨a,xs,rfl,hx,hw,q⟩:=h;cases rx;obtain⟨its,r,ht,hz⟩:=I.tuple hx;have hlen:its.toArray.size=xs.length:=by rw[_j];exact r.length.symm
 refine⟨"tuple",_,_P.lookup,ht.typeIs,?_⟩;refine HT.uK ht hs pl pu (by rw[hlen];exact hw) ?_ (by rw[hlen];exact hz);rw[hlen];refine⟨.ref s.heap.objs.size,_,I.laid (t':=s.toks) (o:=.tup (z72 xs lo hi)) (λb ob q=>_c _ q) (_n _) ?_,rfl,q _ (I.hok.fresh (_n _))⟩;exact⟨_B (jo xs lo hi) hz,_,(r.drop (HT.sIx xs.length 0 lo)).take (HT.sIx xs.length xs.length hi-HT.sIx xs.length 0 lo),z4j.new _ _⟩
def zbc(K:W.Frag):R2:=λx y H Q=>∃a b xs ys,x=.ref a/\y=.ref b/\SqT K H a xs/\SqT K H b ys/\xs≠[]/\xs.length+ys.length<=sizeLine/\ (ys=[]->Q (.ref a) H)/\(ys≠[]->∀p,H p=none->Q (.ref p) (upd H p (.tup (xs++ys))))
theorem yC.nil_iff{xs:List V}{us:List Value}(r:yC xs us):us=[] ↔ xs=[]:=by cases r with
 | nil=>simp | cons _ _=>simp
theorem z7T:OpR X (binaryOp .Add) (zbc X.K):=by
 intro pins s O H x y v u Q I rx ry h;obtain⟨a,b,xs,ys,rfl,rfl,ha,hb,hx,hz,q1,q2⟩:=h;cases rx;cases ry;obtain⟨its,r1,p1,_⟩:=I.tuple ha;obtain⟨its2,r2,p2,_⟩:=I.tuple hb;refine HT.z8o p1 p2 (λz=>hx (r1.nil_iff.mp z)) (λz=>⟨.ref a,H,I,rfl,q1 (r2.nil_iff.mp z)⟩) (λz=>?_) (by rw[<- r1.length,<- r2.length];exact hz);refine⟨.ref s.heap.objs.size,_,I.laid (t':=s.toks) (o:=.tup (xs++ys)) (λb ob q=>_c _ q) (_n _) ?_,rfl,q2 (λw=>z (r2.nil_iff.mpr w)) _ (I.hok.fresh (_n _))⟩;exact⟨by rw[_am];exact hz,_,r1.append r2,z4j.new _ _⟩
end
def ixN(n:Nat)(i:Int):Option Nat:=if 0<=i then (if i<n then some i.toNat else none) else if -(n:Int)<=i then some (i+n).toNat else none
def atI{α:Type}(xs:List α)(i:Int):Option α:=(ixN xs.length i).bind λj=>xs[j]?
theorem z2c{n:Nat}{i:Int}{j:Nat}(h:ixN n i=some j):seqIndex? i n=some j/\j<n/\-(n:Int)<=i/\i<n:=by
 unfold ixN at h;by_cases h0:0<=i
 ·rw[_o h0]at h;by_cases h1:i<n
  ·rw[_o h1]at h;have e:i.toNat=j:=_G h;exact⟨by rw[seqIndex_of h0 h1,e],by omega,by omega,h1⟩
  ·rw[_I h1]at h;cases h
 ·rw[_I h0]at h;by_cases h1:-(n:Int)<=i
  ·rw[_o h1]at h;have e:(i+n).toNat=j:=_G h;exact⟨by rw[seqIndex_neg (by omega) h1,e],by omega,h1,by omega⟩
  ·rw[_I h1]at h;cases h
theorem z4v{α:Type}{xs:List α}{i:Int}{v:α}(h:atI xs i=some v):∃j,seqIndex? i xs.length=some j/\xs[j]? = some v/\j<xs.length/\-(xs.length:Int)<=i/\i<xs.length:=by
 unfold atI at h;cases e:ixN xs.length i with
 | none=>rw[e]at h;cases h | some j=>
  rw[e]at h;obtain⟨h1,h2,h3,h4⟩:=z2c e;exact⟨j,h1,h,h2,h3,h4⟩
def z50(b:Expr):Prop:=∀o i,subscripted b false o i=operate [o,i] (getItem o i)
def IxR(X:Cx)(r:R2):Prop:= ∀(value slice:Expr)(pins:List (Addr×Obj))(s:Shared)(O:St)(H:Hp)(x y:V)(v u:Value)(Q:VK),Inv X pins O H s->xL x v->xL y u->r x y H Q-> subscripted slice false v u=operate [v,u] (getItem v u)->wpAny (model X.prog X.w) X.A (subscriptTail value slice v u) (EP X pins O Q) X.xe s
def MtR (X:Cx) (id:String) (r:V->List V->Hp->VK->Prop):Prop:= ∀(pins:List (Addr×Obj)) (s:Shared) (O:St) (H:Hp) (x:V) (xs:List V) (v:Value) (us:List Value) (Q:VK),Inv X pins O H s->xL x v->yC xs us->r x xs H Q-> wpAny (model X.prog X.w) X.A (call (.builtin id) (v::us)) (EP X pins O Q) X.xe s
section
variable {X:Cx}{a b:Expr}{ta tb:TE}{pos:Pos}
theorem IxR.or{r r':R2}(h:IxR X r)(h':IxR X r'):IxR X (λx y H Q=>r x y H Q\/r' x y H Q):=by
 intro value slice pins s O H x y v u Q I rx ry q hs;rcases q with q | q;·exact h value slice pins s O H x y v u Q I rx ry q hs
 ·exact h' value slice pins s O H x y v u Q I rx ry q hs
theorem zbo{r:R2}(hr:IxR X r)(ha:PE X a ta)(hb:PE X b tb)(hs:z50 b):PE X (.Subscript a b pos) (tOp r ta tb):=by
 intro pins s O H Q I h;exact Subscript_ (zbS ha hb I h λv u s2 x y H2 I2 rx ry q=>hr a b pins s2 O H2 x y v u Q I2 rx ry q (hs _ _))
def zd3(K:W.Frag):R2:=λx y H Q=>∃p xs i v,x=.ref p/\y=.int i/\SqL K H p xs/\atI xs i=some v/\Q v H
def zcu(K:W.Frag):R2:=λx y H Q=>∃p xs i v,x=.ref p/\y=.int i/\SqT K H p xs/\atI xs i=some v/\Q v H
theorem z7Z:IxR X (zd3 X.K):=by
 intro value slice pins s O H x y v u Q I rx ry h hs;obtain⟨p,xs,i,z,rfl,rfl,hq,he,q⟩:=h;cases rx;obtain⟨t,rfl⟩:=ry;obtain⟨its,r,pl,hz⟩:=I.list hq;obtain⟨j,h1,h2,h3,h4,h5⟩:=z4v he;obtain⟨w,ew,rw'⟩:=r.get h2;have hl:=r.length;have hn:=z2V;have fin:EP X pins O Q w s:=⟨z,H,I,rw',q⟩;by_cases h0:0<=i
 ·have hj:i.toNat=j:=by
   rw[seqIndex_of h0 h5]at h1;exact _G h1
  exact item_listR pl.isList h0 (by omega) (by rw[hj];simpa using ew) fin hs
 ·have hj:(i+(its.toArray.size:Int)).toNat=j:=by
   rw[seqIndex_neg (by omega) h4]at h1;rw[_j,<- hl];exact _G h1
  exact subscriptTail_builtinR (x:=w) pl.isList.typeIs slot_list_getitem.lookup (wpAny_getItem_list_neg (Q:=λr s'=>r=w/\EP X pins O Q r s') pl.isList (by omega) (by rw[_j]<;>omega) (by omega) (by rw[hj];simpa using ew) ⟨rfl,fin⟩) hs
theorem za1:IxR X (zcu X.K):=by
 intro value slice pins s O H x y v u Q I rx ry h hs;obtain⟨p,xs,i,z,rfl,rfl,hq,he,q⟩:=h;cases rx;obtain⟨t,rfl⟩:=ry;obtain⟨its,r,pl,hz⟩:=I.tuple hq;obtain⟨j,h1,h2,h3,h4,h5⟩:=z4v he;obtain⟨w,ew,rw'⟩:=r.get h2;have hl:=r.length;have hn:=z2V;have fin:EP X pins O Q w s:=⟨z,H,I,rw',q⟩;exact subscriptTail_builtinR (x:=w) pl.typeIs slot_tuple_getitem.lookup (getItem_tuple (j:=j) (Q:=λr s'=>r=w/\EP X pins O Q r s') pl (by omega) (by omega) (by rw[_j,<- hl];exact h1) (by simpa using ew) ⟨rfl,fin⟩) hs
theorem z3x (its:List Value) (n j:Nat) (u:Value):Obj.mapSeq (·.setIfInBounds j u) {cls:=.type "list",data:=.seq its.toArray n}={cls:=.type "list",data:=.seq (its.set j u).toArray n}:=by simp[Obj.mapSeq]
theorem Inv.lst{pins:List (Addr×Obj)}{O:St}{H:Hp}{s:Shared}{p:Addr}{xs:List V}(I:Inv X pins O H s)(h:H p=some (.lst xs)): ∃(its:List Value)(n:Nat),yC xs its/\s.heap.get? p=some {cls:=.type "list",data:=.seq its.toArray n}/\xs.length<=sizeLine:=by
 obtain⟨z,its,n,r,e⟩:=I.hok p _ h;exact⟨its,n,r,e,z⟩
theorem Inv.lstUpd {pins:List (Addr×Obj)} {O:St} {H:Hp} {s:Shared} {p:Addr} {xs ys:List V} {its its':List Value} {n n':Nat} {f:Obj->Obj} (I:Inv X pins O H s) (h:H p=some (.lst xs)) (ho:s.heap.get? p=some {cls:=.type "list",data:=.seq its.toArray n}) (hf:f {cls:=.type "list",data:=.seq its.toArray n}={cls:=.type "list",data:=.seq its'.toArray n'}) (r:yC ys its') (hz:ys.length<=sizeLine) (t:Nat): Inv X pins O (upd H p (.lst ys)) {s with heap:=s.heap.update p f,toks:=t}:=by
 have e:(s.heap.update p f).get? p=some {cls:=.type "list",data:=.seq its'.toArray n'}:=by rw[Heap.get?_update_self f ho (by rw[hf]<;>rfl),hf]
 refine I.write (x:=p) (e:=p) (by rw[h];trivial) (.inl rfl) (λb u hb q=>(Heap.get?_update_other _ _ (_aH hb)).trans q) ⟨_,e⟩ ?_;exact⟨hz,its',n',r,e⟩
def zb5:V->V->V->Hp->(Hp->Prop)->Prop:=λo i v H Q=>∃p xs k j,o=.ref p/\i=.int k/\H p=some (.lst xs)/\ixN xs.length k=some j/\Q (upd H p (.lst (xs.set j v)))
theorem set_list:zcj X zb5:=by
 intro pins s O H o i v ov iv u Q I ro ri rv h;obtain⟨p,xs,k,j,rfl,rfl,hp,hj,q⟩:=h;cases ro;obtain⟨t,rfl⟩:=ri;obtain⟨its,n,r,ho,hz⟩:=I.lst hp;obtain⟨h1,h2,h3,h4⟩:=z2c hj;have hl:=r.length;have hn:=z2V;have I':Inv X pins O (upd H p (.lst (xs.set j v))) {s with heap:=s.heap.update p (Obj.mapSeq (·.setIfInBounds j u))}:= I.lstUpd hp ho (z3x its n j u) (r.set rv j) (by rw[List.length_set];exact hz) s.toks;by_cases h0:0<=k
 ·have hk:k.toNat=j:=by
   rw[seqIndex_of h0 h4]at h1;exact _G h1
  exact W.ki_setAt ho h0 (by omega) (by rw[_j,<- hl];exact h4) (by rw[hk];exact⟨_,I',q⟩)
 ·have hk:(k+(its.toArray.size:Int)).toNat=j:=by
   rw[seqIndex_neg (by omega) h3]at h1;rw[_j,<- hl];exact _G h1
  exact W.ki_setBack ho (by omega) (by rw[_j,<- hl];exact h3) (by omega) (by rw[hk];exact⟨_,I',q⟩)
theorem z1t(lo hi:Option Int)(n:Nat):(sliceBounds lo hi none n).1=((HT.sIx n 0 lo:Nat):Int)/\(sliceBounds lo hi none n).2.1=(HT.sIx n n hi:Int)/\(sliceBounds lo hi none n).2.2=1:=by
 refine⟨?_,?_,rfl⟩;·cases lo with
  | none=>simp[sliceBounds,HT.sIx] | some i=>
   simp only[sliceBounds,HT.sIx,Option.getD_none,show (1:Int) > 0 by decide,_Z];by_cases h:i<0;·simp only[h,_Z]<;>omega
   ·simp only[h,if_false]<;>omega
 ·cases hi with
  | none=>simp[sliceBounds,HT.sIx] | some i=>
   simp only[sliceBounds,HT.sIx,Option.getD_none,show (1:Int) > 0 by decide,_Z];by_cases h:i<0;·simp only[h,_Z]<;>omega
   ·simp only[h,if_false]<;>omega
theorem z0p(its:List Value)(lo hi:Option Int):slicePick its.toArray lo hi none=((its.drop (HT.sIx its.length 0 lo)).take (HT.sIx its.length its.length hi-HT.sIx its.length 0 lo)).toArray:=by
 obtain⟨h1,h2,h3⟩:=z1t lo hi its.toArray.size;unfold slicePick;rw[h1,h2,h3];simp only[sliceRange_one,pick_run,_j]<;>rfl
def zcR(K:W.Frag):V->Option Int->Option Int->Hp->VK->Prop:=λx lo hi H Q=>∃a xs,x=.ref a/\SqL K H a xs/\∀p,H p=none->Q (.ref p) (upd H p (.lst (z72 xs lo hi)))
theorem z7D:SlR X (zcR X.K):=by
 intro pins s O H x v vl vu lo hi sl Q I rx hs pl pu h;obtain⟨a,xs,rfl,hx,q⟩:=h;cases rx;obtain⟨its,r,ht,hz⟩:=I.list hx;have hlen:=r.length;refine⟨"list",_,slot_list_getitem.lookup,ht.isList.typeIs,?_⟩;refine wpAny_getItem_list_slice ht.isList hs pl pu .none (by simp) ?_ (by rw[_j]<;>omega);rw[z0p,<- hlen];refine⟨.ref s.heap.objs.size,_,I.laid (t':=s.toks) (o:=.lst (z72 xs lo hi)) (λb ob q=>_c _ q) (_n _) ?_,rfl,q _ (I.hok.fresh (_n _))⟩;exact⟨_B (jo xs lo hi) hz,_,0,(r.drop (HT.sIx xs.length 0 lo)).take (HT.sIx xs.length xs.length hi-HT.sIx xs.length 0 lo),_u _ rfl⟩
theorem z1l:yM X (.builtin "len") (λxs H Q=>∃p ys,xs=[.ref p]/\(SqL X.K H p ys\/SqT X.K H p ys)/\Q (.int ys.length) H):=by
 intro pins s O H xs us Q I r h;obtain⟨p,ys,rfl,hq,q⟩:=h;obtain⟨u,rfl,rx⟩:=vals1 r;cases rx;have hn:=z2V;rcases hq with hq | hq
 ·obtain⟨its,r',pl,hz⟩:=I.list hq;have hlen:=r'.length;exact Calls.call_len_list pl.isList (by simp only[_j]<;>omega) ⟨.int ys.length,H,I.tok _,⟨s.toks+1,by rw[_j,hlen]⟩,q⟩
 ·obtain⟨its,r',pl,hz⟩:=I.tuple hq;have hlen:=r'.length;exact len_tuple pl (by simp only[_j]<;>omega) ⟨.int ys.length,H,I.tok _,⟨s.toks+1,by rw[_j,hlen]⟩,q⟩
theorem qu:yM X (.type "list") (λxs H Q=>∃p ys,xs=[.ref p]/\(SqL X.K H p ys\/SqT X.K H p ys)/\∀l,H l=none->Q (.ref l) (upd H l (.lst ys))):=by
 intro pins s O H xs us Q I r h;obtain⟨p,ys,rfl,hq,q⟩:=h;obtain⟨u,rfl,rx⟩:=vals1 r;cases rx;have fin:∀(its:List Value),yC ys its->ys.length<=sizeLine->∀(h':Heap) (c':Nat),(∀b o',s.heap.get? b=some o'->h'.get? b=some o')-> h'.get? s.heap.objs.size=some {cls:=.type "list",dict:=none,data:=.seq its.toArray c',slots:=#[]}->EP X pins O Q (.ref s.heap.objs.size) {s with heap:=h'}:=λits r' hz h' c' kp e=> ⟨.ref s.heap.objs.size,_,I.laid (t':=s.toks) kp (_n _) (show xQ X.prog X.w _ h' _ (.lst ys) from⟨hz,its,c',r',e⟩),rfl,q _ (I.hok.fresh (_n _))⟩;rcases hq with hq | hq
 ·obtain⟨its,r',pl,hz⟩:=I.list hq;have hlen:=r'.length;obtain⟨o,ho,hc,n,hd⟩:=pl.isList;exact call_list_seq p (.inl rfl) ho hc hd (λh' c' kp e=>fin its r' hz h' c' kp e) (by simp only[_j]<;>omega)
 ·obtain⟨its,r',pl,hz⟩:=I.tuple hq;have hlen:=r'.length;obtain⟨o,ho,hc,n,hd⟩:=pl;exact call_list_seq p (.inr rfl) ho hc hd (λh' c' kp e=>fin its r' hz h' c' kp e) (by simp only[_j]<;>omega)
theorem z0R:yM X (.type "tuple") (λxs H Q=>∃p ys,xs=[.ref p]/\((SqL X.K H p ys/\∀l,H l=none->Q (.ref l) (upd H l (.tup ys)))\/(SqT X.K H p ys/\Q (.ref p) H))):=by
 intro pins s O H xs us Q I r h;obtain⟨p,ys,rfl,h⟩:=h;obtain⟨u,rfl,rx⟩:=vals1 r;cases rx;rcases h with⟨hq,q⟩ | ⟨hq,q⟩
 ·obtain⟨its,r',pl,hz⟩:=I.list hq;have hlen:=r'.length;refine call_tuple_list pl.isList (λh' kp=>?_) (by simp only[_j]<;>omega);have I1:Inv X pins O H {s with heap:=h'}:=I.kept (t':=s.toks) kp;have I2:Inv X pins O (upd H h'.objs.size (.tup ys)) {s with heap:=h'.push {cls:=.type "tuple",data:=.seq its.toArray}}:= I1.laid (t':=s.toks) (λb o e=>_c _ e) (_n _) (show xQ X.prog X.w _ _ _ (.tup ys) from⟨hz,its,r',z4j.new _ _⟩);exact⟨.ref h'.objs.size,_,I2,rfl,q _ (I1.hok.fresh (_n _))⟩
 ·obtain⟨its,r',pl,hz⟩:=I.tuple hq;exact call_tuple_same pl ⟨.ref p,H,I,rfl,q⟩
def tyV(K:W.Frag)(T:String)(x:V)(H:Hp):Prop:=match x with
 | .str _=>T="str" | .int _=>T="int" | .ref p=>(T="list"/\∃xs,SqL K H p xs)\/(T="tuple"/\∃o,K.lookup p=some o/\o.cls=.type "tuple"/\o.dict=none)\/ (T="dict"/\((∃kvs,H p=some (.dK kvs))\/∃kvs,H p=some (.dT kvs)))\/(T="set"/\∃S n,H p=some (.set S n)) | _=>False
theorem z9w{pins:List (Addr×Obj)}{O:St}{H:Hp}{s:Shared}{T:String}{x:V}{v:Value}(I:Inv X pins O H s)(r:xL x v)(ty:tyV X.K T x H): s.TypeIs v T/\∀a,v=.ref a->∃ob,s.heap.get? a=some ob/\ob.dict=none:=by cases x with
 | str z=>
  obtain⟨t,rfl⟩:=r;cases (show T="str" from ty);exact⟨typeIs_str s z t,λ_ e=>nomatch e⟩ | int i=>
  obtain⟨t,rfl⟩:=r;cases (show T="int" from ty);exact⟨_be s i t,λ_ e=>nomatch e⟩ | ref p=>
  cases r;rcases ty with⟨rfl,xs,hq⟩ | ⟨rfl,o,hk,hc,hd⟩ | ⟨rfl,hk⟩ | ⟨rfl,S,n,hk⟩
  ·obtain⟨its,_,pl,_⟩:=I.list hq;refine⟨pl.isList.typeIs,λa e=>?_⟩;cases e;obtain⟨o,n,e,c,hd,_⟩:=pl;exact⟨o,e,hd⟩
  ·refine⟨⟨o,I.kIn p o hk,hc⟩,λa e=>?_⟩;cases e;exact⟨o,I.kIn _ o hk,hd⟩
  ·have z:∃o,s.heap.get? p=some o/\o.ExactDict:=by
    rcases hk with⟨kvs,hk⟩ | ⟨kvs,hk⟩
    ·obtain⟨_,_,_,_,o,_,_,e,ex,_⟩:=I.hok p _ hk;exact⟨o,e,ex⟩
    ·obtain⟨_,_,_,_,o,_,_,e,ex,_⟩:=I.hok p _ hk;exact⟨o,e,ex⟩
   obtain⟨o,e,ex⟩:=z;refine⟨⟨o,e,ex.1⟩,λa e2=>?_⟩;cases e2;exact⟨o,e,ex.2.1⟩
  ·obtain⟨o,_,_,_,e,ex,_⟩:=I.hok p _ hk;refine⟨⟨o,e,ex.1⟩,λa e2=>?_⟩;cases e2;exact⟨o,e,ex.2.1⟩ | _=>exact False.elim ty
def tBM(K:W.Frag)(T:String)(r:V->List V->Hp->VK->Prop)(to:TE)(t:TA):TE:=λO H Q=>to O H λx H1=>tyV K T x H1/\t O H1 λxs H2=>r x xs H2 Q
variable {o e:Expr}{es:List Expr}{to:TE}{t:TA}{name:Str}{apos cpos:Pos}{T id:String}{r:V->List V->Hp->VK->Prop}
theorem zam (pa:PlainAttrs T) (slot:Slot T name id) (hty:typeOf (.builtin id)=pure (.type "method_descriptor")) (hm:MtR X id r) (ho:PE X o to) (ha:PA X (e::es) t) (hbase:attributeBase o name X.env (eval o X.env)=eval o X.env:=by rfl) (hfew:((backTo cpos (starEach (e::es) X.env)).all (λx=>!x.1)&&(backToKw cpos (keywordEach [] X.env)).all (λx=>x.1.isSome) && decide ((e::es).length+([]:List Keyword).length+(if ([]:List Keyword).isEmpty then 0 else 1)<30))=true:=by rfl) (hline:(apos.endLine==cpos.line)=true:=by rfl) (hs:starEach (e::es) X.env=(false,eval e X.env)::starEach es X.env:=by rfl) (hplain:(backTo cpos (starEach es X.env)).any (·.1)=false:=by rfl): PE X (.Call (.Attribute o name apos) (e::es) [] cpos) (tBM X.K T r to t):=by
 intro pins s O H Q I h;refine wpAny_Call_method_late hbase hfew hline rfl (thn (ho pins s O H _ I h) λv s1 ⟨x,H1,I1,r1,ty,q1⟩=>?_);obtain⟨h1,h2⟩:=z9w I1 r1 ty;refine⟨T,id,pa,slot,hty,h1,h2,?_⟩;have hA:=ha cpos pins s1 O H1 _ I1 q1;rw[hs]at hA ⊢;refine Calls.callWith_builtin (by show (false||(backTo cpos (starEach es X.env)).any (·.1))=false;rw[hplain]<;>rfl) (Calls.evalArgs_plain ?_);exact thn hA λus s2 ⟨vs,H2,I2,r2,q2⟩=>hm pins s2 O H2 x vs v us Q I2 r1 r2 q2
end
def MtM (X:Cx) (id:String) (r:V->List V->Hp->VK->Prop):Prop:= ∀(pins:List (Addr×Obj)) (s:Shared) (O:St) (H:Hp) (x:V) (xs:List V) (v:Value) (us:List Value) (Q:VK),Inv X pins O H s->xL x v->yC xs us->r x xs H Q-> wpAny (model X.prog X.w) X.A (call (.builtin id) (v::us)) (EP X pins O Q) X.xe s
theorem yC.one:∀{x:V}{us:List Value},yC [x] us->∃u,us=[u]/\xL x u | _,_,.cons r .nil=>⟨_,rfl,r⟩
theorem yC.eraseIdx:∀{xs:List V}{us:List Value}(i:Nat),yC xs us->yC (xs.eraseIdx i) (us.eraseIdx i)
 | _,_,_,.nil=>.nil | _,_,0,.cons _ t=>t | _,_,i+1,.cons r t=>.cons r (yC.eraseIdx i t)
theorem yC.rep{xs:List V}{us:List Value}(h:yC xs us):∀k:Nat,yC (List.replicate k xs).flatten (List.replicate k us).flatten
 | 0=>.nil | k+1=>by
  rw[_af,_af,_aI,_aI];exact yC.append h (yC.rep h k)
theorem z19{α:Type}:∀(l:List α)(i:Nat),(l.eraseIdx i).length<=l.length
 | [],_=>_n _ | _::_,0=>Nat.le_succ _ | _::r,i+1=>Nat.succ_le_succ (z19 r i)
theorem foldl_rep(its:List Value):∀(k:Nat)(acc:List Value), List.foldl (λx1 x2=>x1++x2) acc.toArray (List.replicate k its.toArray)=(acc++(List.replicate k its).flatten).toArray
 | 0,acc=>by simp | k+1,acc=>by
  have e:acc.toArray++its.toArray=(acc++its).toArray:=by simp
  have e2:(acc++its)++(List.replicate k its).flatten=acc++(List.replicate (k+1) its).flatten:=by rw[_af,_aI,_aV]
  rw[<- e2,<- foldl_rep its k (acc++its),<- e,_af,_aF]
section
variable {X:Cx}{pins:List (Addr×Obj)}{O:St}{H:Hp}{s:Shared}{l b:Addr}{xs ys zs:List V}
theorem Inv.lset {its its':List Value} {n:Nat} {f:Array Value->Array Value} {t':Nat} (I:Inv X pins O H s) (hH:H l=some (.lst xs)) (e:s.heap.get? l=some {cls:=.type "list",data:=.seq its.toArray n}) (hf:f its.toArray=its'.toArray) (hv:yC ys its') (hz:ys.length<=sizeLine): Inv X pins O (upd H l (.lst ys)) {s with heap:=s.heap.update l (Obj.mapSeq f),toks:=t'}:=by
 have q:=PySem.IsL.update e f;rw[hf]at q;refine I.write (x:=l) (e:=l) (by rw[hH];exact trivial) (.inl rfl) (λb' u hb hu=>(Heap.get?_update_other s.heap (Obj.mapSeq f) (_aH hb)).trans hu) ⟨_,q⟩ ?_;exact⟨hz,its',_,hv,q⟩
theorem Inv.lnew {its:List Value} {t':Nat} (I:Inv X pins O H s) (hv:yC ys its) (hz:ys.length<=sizeLine): Inv X pins O (upd H s.heap.objs.size (.lst ys)) {s with heap:=s.heap.push {cls:=.type "list",data:=.seq its.toArray},toks:=t'}:= I.laid (λ_ _ q=>_c _ q) (_n _) ⟨hz,its,0,hv,_u _ rfl⟩
theorem Inv.fresh(I:Inv X pins O H s):H s.heap.objs.size=none:=I.hok.fresh (_n _)
theorem Inv.lstM(I:Inv X pins O H s)(hH:H l=some (.lst xs)):xs.length<=sizeLine/\∃(its:List Value)(n:Nat),yC xs its/\xs.length=its.length/\s.heap.get? l=some {cls:=.type "list",data:=.seq its.toArray n}:=by
 obtain⟨z,its,n,r,e⟩:=I.hok l _ hH;exact⟨z,its,n,r,r.length,e⟩
theorem z6D{n:Nat}(h:n<=sizeLine):Builtin.List.listTooLong n=false:=by
 unfold Builtin.List.listTooLong;exact _ak (by omega)
end
section
variable {X:Cx}
def z8g:V->List V->Hp->VK->Prop:=λx vs H Q=>∃l xs y,x=.ref l/\vs=[y]/\H l=some (.lst xs)/\xs.length<sizeLine/\Q .non (upd H l (.lst (xs++[y])))
theorem z4X:MtM X "list.append" z8g:=by
 intro pins s O H x vs v us Q I rx rv h;obtain⟨l,xs,y,rfl,rfl,hH,hz,q⟩:=h;cases rx;obtain⟨u,rfl,ru⟩:=rv.one;obtain⟨z,its,n,r,hl,e⟩:=I.lstM hH;refine _a6 F.slot_list_append ⟨_,e,rfl⟩ F.entry_list_append (F.args_list_append_2 _ _) (PySem.list_append l its.toArray n u (by rw[_j];omega)) ⟨e,?_⟩;refine⟨.non,_,I.lset (its':=its++[u]) hH e (by simp) (r.append (.cons ru .nil)) ?_,rfl,q⟩;rw[_am,List.length_singleton];omega
def za0:V->List V->Hp->VK->Prop:=λx vs H Q=>∃l xs i k y,x=.ref l/\vs=[.int i]/\H l=some (.lst xs)/\-(2 ^ 63)<=i/\i<2 ^ 63/\seqIndex? i xs.length=some k/\xs[k]? = some y/\Q y (upd H l (.lst (xs.eraseIdx k)))
theorem z63:MtM X "list.pop" za0:=by
 intro pins s O H x vs v us Q I rx rv h;obtain⟨l,xs,i,k,y,rfl,rfl,hH,h1,h2,hk,hy,q⟩:=h;cases rx;obtain⟨u,rfl,ru⟩:=rv.one;obtain⟨t,rfl⟩:=ru;obtain⟨z,its,n,r,hl,e⟩:=I.lstM hH;obtain⟨w,hw,rw'⟩:=r.get hy;refine _a6 F.slot_list_pop ⟨_,e,rfl⟩ F.entry_list_pop (F.args_list_pop_2 _ _) (MeetsSeq.list_pop_at l its.toArray n i t k w (fitsIndex_both h1 h2) (by rw[_j,<- hl];exact hk) (by rw[<- Array.getElem?_toList];exact hw) (by rw[_j];omega)) ⟨e,?_⟩;refine⟨y,_,I.lset (its':=its.eraseIdx k) hH e ?_ (r.eraseIdx k) ?_,rw',q⟩
 ·show its.toArray.eraseIdxIfInBounds k=(its.eraseIdx k).toArray;rw[List.eraseIdxIfInBounds_toArray]
 ·have:=z19 xs k;omega
def zcK:R2:=λx y H Q=>∃l k xs,x=.ref l/\y=.int k/\Rd H l (.lst xs)/\-(2 ^ 63)<=k/\k<2 ^ 63/\xs.length*k.toNat<=sizeLine/\ ∀p,H p=none->Q (.ref p) (upd H p (.lst (List.replicate k.toNat xs).flatten))
theorem len_rep{α:Type}(xs:List α)(k:Nat):(List.replicate k xs).flatten.length=k*xs.length:=by induction k with
 | zero=>simp | succ k ih=>rw[_af,_aI,_am,ih,Nat.succ_mul,Nat.add_comm]
theorem z9o:OpR X (binaryOp .Mult) zcK:=by
 intro pins s O H x y v u Q I rx ry h;obtain⟨l,k,xs,rfl,rfl,hH,h1,h2,hz,q⟩:=h;cases rx;obtain⟨t,rfl⟩:=ry;obtain⟨z,its,n,r,e⟩:=hH.ok I.hok;have hl:xs.length=its.length:=by have:=r.length;omega
 have hlen:its.toArray.size*k.toNat<=sizeLine:=by rw[_j,<- hl];exact hz
 have hcap:¬ its.toArray.size*k.toNat > (2 ^ 63-1) / 8:=by
  have:(sizeLine:Nat)<=(2 ^ 63-1) / 8:=by decide
  omega
 have hfit:¬ (!Builtin.List.listFitsIndex k)=true:=by
  rw[fitsIndex_both h1 h2];exact _ax
 have hlong:¬ Builtin.List.listTooLong (its.toArray.size*k.toNat)=true:=by
  rw[z6D hlen];exact _ax
 have hnew:List.foldl (λx1 x2=>x1++x2) #[] (List.replicate (if its.toArray.isEmpty=true then 0 else k.toNat) its.toArray)=(List.replicate k.toNat its).flatten.toArray:=by
  have f0:∀m:Nat,List.foldl (λx1 x2=>x1++x2) #[] (List.replicate m its.toArray)=(List.replicate m its).flatten.toArray:=λm=>by
   have:=foldl_rep its m [];rw[_C]at this;exact this
  rw[f0];cases its with
  | nil=>simp | cons a r'=>rw[_I (by simp)]
 refine _aX (T:="list") (U:="int") (by decide) ⟨_,e,rfl⟩ (λs'=>_be s' k t) noFill_list_mul F.fills_int_mul _aQ repeat_list _bQ.lookup (_a6 _aQ (_be s k t) _bR (_bF _ _) (int___rmul___int_list k t l its.toArray n) ⟨e,rfl,⟨_,e,rfl⟩,_a6 F.slot_list_mul ⟨_,e,rfl⟩ F.entry_list_mul (F.args_list_mul_2 _ _) (AutoListH.list___mul___list_int_3 l its.toArray n k t hfit hcap hlong) ⟨e,?_⟩⟩);rw[hnew];exact⟨.ref _,_,I.lnew (t':=s.toks) (r.rep k.toNat) (by rw[len_rep,Nat.mul_comm];exact hz),rfl,q _ I.fresh⟩
end
end L2
namespace Att
open PySem.W PySem.Calls
theorem jX{P:Params}{h:Heap}:∀(ns:List Int)(vs:List Value),WellAll P h vs (ns.map WData.int)->IntsAre vs ns:=by
 intro ns;induction ns with
 | nil=>
  intro vs w;rw[_aW]at w;cases w;exact .nil | cons n ns ih=>
  intro vs w;rw[_L]at w;cases w with | cons a b=>
   cases a;exact .cons _ _ (ih _ b)
theorem z5x {l:OpenLaw} {n:Nat} (hn:l.most=some n) {P:Params} {h:Heap} {args:List WData} {vals:List Value} (hpre:l.row.toRowW.claim.pre args=true) (hwl:WellAll P h vals args): ∃a vs ns,vals=[Value.ref a]/\args=[WData.list (ns.map WData.int)]/\h.get? a=some {cls:=.type "list",data:=.seq vs.toArray}/\IntsAre vs ns/\ns.length<=n:=by
 have hsh:WShape.hasAll [] args [.list .int]=true:=(pre_splitW hpre).1;have hc:l.pre.holds [] {args:=args}=true:=(pre_splitW hpre).2;obtain⟨d,r,rfl,h1,h2⟩:=hasAllW_cons hsh;obtain rfl:=hasAllW_nil h2;obtain⟨xs,rfl,h3⟩:=hasW_list h1;obtain⟨ns,rfl⟩:=items_int h3;have hlen:ns.length<=n:=by
  unfold OpenLaw.pre at hc;have h4:(WTm.not (.lt (.lit (.int (n:Int))) (.len (.arg 0)))).holds [] {args:=[.list (ns.map .int)]}=true:=by
   have h4:=(holds_andW hc).1;rw[hn]at h4;exact h4
  have h5:=condW_of h4 (w_not (w_lt w_lit (w_len_list (w_arg rfl))));rw[_Y]at h5;refine Nat.le_of_not_lt λq=>?_;have q':(n:Int)<(ns.length:Int):=by omega
  first
   | (rw[decide_eq_true q']at h5;exact absurd h5 (by decide)) | (simp at h5;omega)
 cases hwl with | cons w1 w2=>
  cases w2;cases w1 with | list ho hall=>exact⟨_,_,ns,rfl,rfl,ho,jX ns _ hall,hlen⟩
theorem z4Z (l:OpenLaw) (args:List WData):l.row.toRowW.claim.post args (.bool true) args=true:= postW_of (r:=l.row.toRowW) (X:=(true==true)) (show WShape.has [] (.bool true) .bool=true by first | rfl | decide | simp[WShape.has,WShape.arms,WShape.armsAll]) (show (WTm.eq .res (.lit (.bool true))).value [] {args:=args,res:=some (.bool true),after:=args}=some (.bool (true==true)) from w_eq_bool (w_res rfl) w_lit) rfl
theorem z2h{l:OpenLaw}{n:Nat}{q:Program}{loose:List Str}{XP:(Str->Option Value)->Heap->Prop}{YP:World->Heap->Prop}{d:DefRec} (hn:l.most=some n)(hdf:d.params.defaults=[]) (call:∀(w:World)(s₀ s₁:Shared)(mg mb:Str->Option Value)(fa:Addr)(o:Obj)(pm cd doc:Value)(a:Addr)(vs:List Value)(ns:List Int), Ground q loose [] XP w s₀ mg mb s₁.heap->YP w s₁.heap-> s₁.heap.get? fa=some o->o.data=.func (docDef d.name d.params d.body d.scope pm cd doc)->s₁.heap.CodeRec cd d.name->mg d.name=some (.ref fa)-> s₁.heap.get? a=some {cls:=.type "list",data:=.seq vs.toArray}->IntsAre vs ns->ns.length<=n->s₁.gens=#[]-> codeAny (model l.prog w) callerA (.call (.ref fa) ⟨[.ref a],[]⟩) (λr s'=>r=.ok (.ret (.bool true))/\OldK s₁.heap s'.heap/\s'.os=s₁.os/\AllBare s'.gens) s₁): WalkO q loose XP YP l.row.toRowW d [] (λf vs=>PySem.call f vs):=by
 intro w s₀ s₁ mg mb G Yy fa o pm cd doc dV kV ho hd hcd hD hmg hg args vals as hpre hlay hrd hwl hlo;obtain rfl:dV=.none:=Dflts.none hD hdf;obtain rfl:kV=.none:=Dflts.noKw hD;obtain⟨a,vs,ns,rfl,rfl,hobj,hints,hlen⟩:=z5x hn hpre hwl;refine enter_call (codeAny_mono (call w s₀ s₁ mg mb fa o pm cd doc a vs ns G Yy ho (fd_plain hd) hcd hmg hobj hints hlen hg) λr s' hq=>?_);obtain⟨rfl,h2,h3,h4⟩:=hq;exact⟨.inl ⟨.bool true,.bool true,[],rfl,λ_=>rfl,.bool true,z4Z l _,λ_=>⟨List.Pairwise.nil,λ_ hm=>(nomatch hm)⟩⟩,h2,h3,h4⟩
section
variable {prog:Program}{w:World}{A:Around}{E:Value->Shared->Prop}{s:Shared}{K:Frag}
def ledger(h:Heap)(L d:Addr):List (Addr×Obj):=(List.range h.objs.size).filterMap λa=>if a=L\/a=d then none else (h.get? a).map λo=>(a,o)
end
end Att
namespace L2
theorem z15:∀{vs:List Value}{ns:List Int},IntsAre vs ns->yC (ns.map V.int) vs
 | _,_,.nil=>.nil | _,_,.cons n t h=>.cons ⟨t,rfl⟩ (z15 h)
def zbN(H:Hp):Prop:=∀b,H b=none\/∃o xs,H b=some (.frz o (.lst xs))
theorem z6i {P:Program} {w:World} {K:W.Frag} {mg mb:Str->Option Value} {CX:CXT} {k:Nat} {fa a:Addr} {fd:FuncData} {x:Str} {sp:Sp} {s₁:Shared} {vs:List Value} {ns:List Int} (KX:K.In s₁.heap) (hns:s₁.heap.Ns mainGlobals mg) (hb:s₁.heap.Ns builtinsNs mb) (hbb:∀x:Str,x≠"__name__"->mb x=bootBuiltins x) (hlim:s₁.heap.NoLimit) (hg:s₁.gens=#[]) (ha:s₁.heap.get? a=some {cls:=.type "list",data:=.seq vs.toArray}) (hi:IntsAre vs ns) (hl:ns.length<=sizeLine) (hr:kq k callerA) (F:∀base:Heap,K.In base->base.Ns mainGlobals mg->z0Z P w K mg base CX k fa fd [x] sp) (hbind:∀(s:Shared) (u:Value),BindsTo s fd ⟨[u],[]⟩ [(x,u)]) (hsp:∀H:Hp,zbN H->SqL K H a (ns.map V.int)->sp [.ref a] H (λv _=>v=.bl true) λ_ _ _=>False) (hCX:∀H e s',CX [] H s₁ (λ_ _ _=>False) e s'->False): codeAny (model P w) callerA (.call (.ref fa) ⟨[.ref a],[]⟩) (λr s'=>r=.ok (.ret (.bool true))/\OldK s₁.heap s'.heap/\s'.os=s₁.os/\AllBare s'.gens) s₁:=by
 have rv:=z15 hi;have lenV:=hi.length;have core:∀H:Hp,zbN H->SqL K H a (ns.map V.int)->HOk P w H s₁.heap->(∀b,H b≠none->b=a)->(H a≠none->K.lookup a=none)-> codeAny (model P w) callerA (.call (.ref fa) ⟨[.ref a],[]⟩) (λr s'=>r=.ok (.ret (.bool true))/\OldK s₁.heap s'.heap/\s'.os=s₁.os/\AllBare s'.gens) s₁:=by
  intro H hO hS hok hA hK;have base_of:∀{b:Addr} {o:Obj},s₁.heap.get? b=some o->H b=none->(z6c s₁.heap H).get? b=some o:=λe n=>z6b e n;have noA:∀{b:Addr} {o:Obj} {es:Array DictEntry} {ep:Nat},s₁.heap.get? b=some o->o.data=.dict es ep->H b=none:=λ{b o es ep} e d=>by cases q:H b with
   | none=>rfl | some u=>
    have e':b=a:=hA b (by rw[q];simp);subst e';rw[ha]at e;cases e;have d':Data.seq vs.toArray _=Data.dict es ep:=d;cases d'
  have nsK:∀{b:Addr} {m:Str->Option Value},s₁.heap.Ns b m->(z6c s₁.heap H).Ns b m:=λ{b m} ⟨o,es,ep,e,d,r⟩=>⟨o,es,ep,base_of e (noA e d),d,r⟩;have hKb:K.In (z6c s₁.heap H):=λb o e=>base_of (KX b o e) (by cases q:H b with
   | none=>rfl | some u=>
    have e':b=a:=hA b (by rw[q];simp);subst e';rw[hK (by rw[q];simp)]at e;cases e);have hM:Mod K mg (z6c s₁.heap H):=⟨hKb,nsK hns,⟨mb,nsK hb,hbb⟩,let ⟨mc,h1,h2⟩:=hlim;⟨mc,nsK h1,h2⟩⟩;have e0:zaL P w K mg (z6c s₁.heap H) callerA [] s₁ H:=⟨rfl,hM,λb o e=>z8Q e,Nat.le_of_eq (z4f _ _),trivial,λb hb=>absurd (show b∈([]:List Addr) from hb) (by simp),hok,.of_eq hg⟩;refine codeAny_mono ((F _ hKb (nsK hns)).run callerA [] s₁ H ⟨[.ref a],[]⟩ [.ref a] [.ref a] _ _ hr e0 (hbind s₁ (.ref a)) (.cons rfl .nil) (hsp H hO hS)) λr s' h=>?_;cases r with
  | error e=>exact (hCX H e s' h).elim | ok fl=> cases fl with
   | next=>exact False.elim h | brk=>exact False.elim h | cont=>exact False.elim h | ret u=>
    obtain⟨v,H',os,bare,un,hok',r',q⟩:=h;have q':v=.bl true:=q;subst q';obtain rfl:u=Value.bool true:=r';refine⟨rfl,OldK.of_keep λb o e=>?_,os,bare⟩;cases q:H b with
    | none=>exact un.keep b o e q (by intro z;exact absurd (show b∈([]:List Addr) from z) (by simp)) (by simp) | some u=>
     rcases hO b with z | ⟨ob,xs,z⟩;·rw[q]at z;cases z
     ·have z2:=un.frzs b ob _ z;obtain⟨e1,_⟩:=hok b _ z;obtain⟨e2,_⟩:=hok' b _ z2;rw[e]at e1;cases e1;exact e2
 cases hk:K.lookup a with
 | some o=>
  have e:=KX a o hk;rw[ha]at e;cases e;refine core (λ_=>none) (λ_=>.inl rfl) (.inr ⟨_,vs.toArray,_,hk,rfl,rfl,rfl,by rw[_j,lenV];exact hl,by simpa using rv⟩) (λb u z=>by have z':(none:Option HO)=some u:=z;cases z') (λb z=>absurd rfl z) λz=>absurd rfl z | none=>
  refine core (λb=>if b=a then some (.frz {cls:=.type "list",data:=.seq vs.toArray} (.lst (ns.map V.int))) else none) (λb=>?_) (.inl (.inr ⟨{cls:=.type "list",data:=.seq vs.toArray},_o rfl⟩)) (λb u z=>?_) (λb z=>?_) λ_=>hk
  ·by_cases hb:b=a;·exact .inr ⟨_,_,_o hb⟩
   ·exact .inl (_I hb)
  ·by_cases hb:b=a
   ·have z':=(_o hb).symm.trans z;cases z';subst hb;exact⟨ha,by rw[_Y];exact hl,vs,_,rv,ha⟩
   ·have z':=(_I hb).symm.trans z;cases z'
  ·by_cases hb:b=a;·exact hb
   ·exact absurd (_I hb) z
abbrev KOf{K:W.Frag}{h:Heap}(_:K.In h):W.Frag:=K
def uL(s:Stmt):Arguments:=match s with
 | .FunctionDef _ a _ _ _ _ _ _ _ _=>a | _=>{posonlyargs:=[],args:=[],vararg:=none,kwonlyargs:=[],kw_defaults:=[],kwarg:=none,defaults:=[]}
def vd(s:Stmt):List Stmt:=match s with
 | .FunctionDef _ _ b _ _ _ _ _ _ _=>b | _=>[]
def zk(s:Stmt):Scope:=match s with
 | .FunctionDef _ _ _ _ _ _ sc _ _ _=>sc | _=>{kind:=.function,names:=[],isGenerator:=false,isCoroutine:=false}
abbrev CX0:CXT:=λ_ _ _ _ _ _=>False
abbrev E0:XK:=λ_ _ _=>False
theorem zR{X:Cx}:Passes CX0 X E0:=λ_ _ _ _ _ _ _ h=>h.elim
structure Fun(K:W.Frag)(x qual:Str)(st:Stmt)(f:Addr)(fd:FuncData):Prop where
 ex:∃(oc:Value)(od:Option Addr)(kV doc pm:Value)(an:Option Addr)(cdv ct:Value)(osl:Array (Option Value)), fd=W.fnOf x qual (uL st) (vd st) (zk st) .none kV doc pm an cdv ct/\K.lookup f=some ⟨oc,od,.func fd,osl⟩/\W.codeIn K cdv qual=true
 kp:W.keepIn K (.ref f)=true
section
variable {P:Program}{w:World}{K:W.Frag}{mg:Str->Option Value}{base:Heap}
theorem Fun.ok{x qual:Str}{st:Stmt}{f:Addr}{fd:FuncData}{N ps:List Str}{k:Nat}{sp:Sp}(F:Fun K x qual st f fd)(S:zJ N ps (zk st))(len:∀vs H Q E,sp vs H Q E->vs.length=ps.length) (hbody:∀(cdv:Value)(A:Around)(outer:List Env)(s:Shared)(H:Hp)(vs:List V)(Q:VK)(E:XK),kq k (A.deeper (envOfC qual (zk st) s.heap.objs.size f cdv))->sp vs H Q E-> ∃t,PSs (z5K CX0 P w K mg base N qual (zk st) f cdv A outer s H E).nox (vd st) t/\t {nx:=λ_ H'=>Q .non H',rt:=Q} (start N vs) H):z0Z P w K mg base CX0 (k+1) f fd ps sp:=by
 obtain⟨oc,od,kV,doc,pm,an,cdv,ct,osl,rfl,lk,hcd⟩:=F.ex;refine zaX lk hcd S len λA outer s H vs Q E hr hsp=>?_;obtain⟨t,h,q⟩:=hbody cdv A outer s H vs Q E hr hsp;exact⟨t,h.nox,q⟩
theorem Fun.binds{x qual:Str}{st:Stmt}{f:Addr}{fd:FuncData}{ps:List Str}(F:Fun K x qual st f fd) (h:∀(kV doc pm:Value)(an:Option Addr)(cdv ct:Value)(us:List Value),us.length=ps.length->bindArgs (W.fnOf x qual (uL st) (vd st) (zk st) .none kV doc pm an cdv ct) ⟨us,[]⟩=pure (ps.zip us)):Binds K fd ps []:=by
 obtain⟨oc,od,kV,doc,pm,an,cdv,ct,osl,rfl,lk,hcd⟩:=F.ex;exact .all (h kV doc pm an cdv ct)
theorem zae{x qual:Str}{st:Stmt}{f:Addr}{oc:Value}{od an:Option Addr}{osl:Array (Option Value)}{kV doc pm cdv ct:Value}(l:K.lookup f=some ⟨oc,od,.func (W.fnOf x qual (uL st) (vd st) (zk st) .none kV doc pm an cdv ct),osl⟩) (c:W.codeIn K cdv qual=true)(k:W.keepIn K (.ref f)=true):Fun K x qual st f (W.fnOf x qual (uL st) (vd st) (zk st) .none kV doc pm an cdv ct):=⟨⟨oc,od,kV,doc,pm,an,cdv,ct,osl,rfl,l,c⟩,k⟩
end
end L2
set_option maxHeartbeats 4000000
namespace L2
def z10(env:Env):List (Str×NameKind)->List (Str×Addr)->List (Str×Addr)
 | [],acc=>acc | (n,k)::r,acc=>z10 env r (if k==.free then (match env.cells.lookup n with | some c=>(n,c)::acc | none=>acc) else acc)
theorem jZ{env:Env}:∀(names:List (Str×NameKind))(acc:List (Str×Addr)),(∀x c,acc.lookup x=some c->env.cells.lookup x=some c)->∀x c,(z10 env names acc).lookup x=some c->env.cells.lookup x=some c
 | [],acc,ha=>ha | (n,k)::r,acc,ha=>by
  unfold z10;refine jZ r _ λx c=>?_;split
  ·split
   ·rename_i c' hc;intro h;rw[_T]at h;split at h
    ·rename_i hb;cases h;rw[_a7.mp hb];exact hc
    ·exact ha x c h
   ·exact ha x c
  ·exact ha x c
theorem z1s{env:Env}{x:Str}:∀(names:List (Str×NameKind))(acc:List (Str×Addr)),(acc.lookup x).isSome=true->((z10 env names acc).lookup x).isSome=true
 | [],acc,ha=>ha | (n,k)::r,acc,ha=>by
  unfold z10;refine z1s r _ ?_;split
  ·split
   ·rw[_T];split;·rfl
    ·exact ha
   ·exact ha
  ·exact ha
theorem z0e{env:Env}{x:Str}:∀(names:List (Str×NameKind))(acc:List (Str×Addr)),(x,NameKind.free)∈names->(∃c,env.cells.lookup x=some c)->∃c,(z10 env names acc).lookup x=some c
 | [],acc,h,_=>nomatch h | (n,k)::r,acc,h,hc=>by
  rcases _p.mp h with e | h
  ·cases e;obtain⟨c,hc⟩:=hc;unfold z10;have q:((z10 env r ((x,c)::acc)).lookup x).isSome=true:=z1s r _ (by simp);rw[_o (by rfl),hc];exact _a1.mp q
  ·unfold z10;exact z0e r _ h hc
theorem kK{env:Env}(f:Str×NameKind->List (Str×Addr)->Sem (ForInStep (List (Str×Addr)))) (hf:∀n k cs,f (n,k) cs=if k==.free then (do let a <- cellOf env n;pure (.yield ((n,a)::cs))) else pure (.yield cs)): ∀(names:List (Str×NameKind))(acc:List (Str×Addr)),(∀y∈names,y.2=.free->∃c,env.cells.lookup y.1=some c)->forIn names acc f=pure (z10 env names acc)
 | [],acc,_=>rfl | (n,k)::r,acc,h=>by
  rw[List.forIn_cons,hf];have ih:=λacc'=>kK f hf r acc' λy hy=>h y (_z _ hy);unfold z10;by_cases hk:k=.free
  ·subst hk;obtain⟨c,hc⟩:=h (n,.free) _N rfl;have hc':env.cells.lookup n=some c:=hc;have e:cellOf env n=pure c:=by unfold cellOf;rw[hc']
   rw[_o (by rfl),_o (by rfl),e,hc',pure_bind,pure_bind];exact ih _
  ·have hb:(k==NameKind.free)=false:=by simpa using hk
   rw[hb,_I (by decide),_I (by decide),pure_bind];exact ih _
theorem ve{scope:Scope}{env:Env}(h:∀y∈scope.names,y.2=.free->∃c,env.cells.lookup y.1=some c):closureFor scope env=pure (z10 env scope.names []):=by
 simp only[closureFor];rw[kK (env:=env) _ (λn k cs=>by cases hk:k==NameKind.free<;>simp[hk]) scope.names [] h];simp
theorem xR:∀(names:List (Str×NameKind))(n:Nat)(acc:List (Str×Addr)),cellsFrom n names acc=cellsFrom n names []++acc
 | [],_,_=>rfl | (x,k)::r,n,acc=>by
  unfold cellsFrom;split
  ·rw[xR r (n+1) ((x,n)::acc),xR r (n+1) [(x,n)]];simp
  ·exact xR r n acc
theorem wW{x:Str}{c:Addr}:∀(names:List (Str×NameKind))(n:Nat)(acc:List (Str×Addr)),(x,c)∈cellsFrom n names acc->(x,c)∈acc\/(x,NameKind.cell)∈names
 | [],_,_,h=>.inl h | (y,k)::r,n,acc,h=>by
  unfold cellsFrom at h;split at h
  ·rename_i hk;rcases wW r _ _ h with q | q
   ·rcases _p.mp q with e | q
    ·cases e;refine .inr ?_;rw[show k=NameKind.cell from _a7.mp hk];exact _N
    ·exact .inl q
   ·exact .inr (_z _ q)
  ·rcases wW r _ _ h with q | q;·exact .inl q
   ·exact .inr (_z _ q)
def z6Q(X:Cx)(scope:Scope)(C:Addr):Env:= {scope:=relabel scope X.env,locals:=C,globals:=X.env.globals,cells:=cellsFrom (C+1) scope.names []++z10 X.env scope.names [],qual:=X.env.qual,func:=none,code:=X.env.code,frame:=X.env.frame,builtins:=X.env.builtins}
def zF(X:Cx)(N':List Str)(scope:Scope)(ex:List Addr)(s:Shared)(H:Hp):Cx where
 prog:=X.prog;w:=X.w;K:=X.K;mg:=X.mg;base:=X.base;A:=X.A;N:=N';s₀:=s;H₀:=H;env:=z6Q X scope s.heap.objs.size;outer:=X.stack;stack:=X.stack;ex:=ex;fn:=λx=>scope.names.lookup x==some .cell;calm:=X.calm;pn:=[];xe:=λ_ _=>False
theorem vO{env:Env}{x:Str}{k:NameKind}:∀{names:List (Str×NameKind)},names.lookup x=some k-> (names.map λ(n,k)=>if (k==NameKind.free&&env.scope.kind==.function&&env.kindOf n==some .cell) then (n,NameKind.cell) else (n,k)).lookup x=some k\/ (k=.free/\(names.map λ(n,k)=>if (k==NameKind.free&&env.scope.kind==.function&&env.kindOf n==some .cell) then (n,NameKind.cell) else (n,k)).lookup x=some .cell)
 | [],h=>by simp at h | (n,k')::r,h=>by
  have ih:=@vO env x k r;show List.lookup x ((if (k'==NameKind.free&&env.scope.kind==.function&&env.kindOf n==some .cell)=true then (n,NameKind.cell) else (n,k'))::_)=_\/(_/\List.lookup x ((if (k'==NameKind.free&&env.scope.kind==.function&&env.kindOf n==some .cell)=true then (n,NameKind.cell) else (n,k'))::_)=_);cases hx:x==n with
  | true=>
   simp only[_T,hx]at h;cases h;by_cases hc:(k==NameKind.free&&env.scope.kind==.function&&env.kindOf n==some .cell)=true
   ·rw[_o hc];simp only[_m,_a7]at hc;exact .inr ⟨hc.1.1,by simp[_T,hx]⟩
   ·rw[_I hc];exact .inl (by simp[_T,hx]) | false=>
   simp only[_T,hx]at h;by_cases hc:(k'==NameKind.free&&env.scope.kind==.function&&env.kindOf n==some .cell)=true;·rw[_o hc];simp only[_T,hx];exact ih h
   ·rw[_I hc];simp only[_T,hx];exact ih h
theorem wA{env:Env}{x:Str}{k:NameKind}:∀{names:List (Str×NameKind)}, (names.map λ(n,k)=>if (k==NameKind.free&&env.scope.kind==.function&&env.kindOf n==some .cell) then (n,NameKind.cell) else (n,k)).lookup x=some k->(k=.cell\/k=.free)->(x,NameKind.cell)∈names\/(x,NameKind.free)∈names
 | [],h,_=>by simp at h | (n,k')::r,h,hk=>by
  have ih:=@wA env x k r;change List.lookup x ((if (k'==NameKind.free&&env.scope.kind==.function&&env.kindOf n==some .cell)=true then (n,NameKind.cell) else (n,k'))::_)=_ at h;have step:(List.lookup x (r.map λ(n,k)=>if (k==NameKind.free&&env.scope.kind==.function&&env.kindOf n==some .cell) then (n,NameKind.cell) else (n,k))=some k)->(x,NameKind.cell)∈(n,k')::r\/(x,NameKind.free)∈(n,k')::r:=λq=> (ih q hk).elim (λz=>.inl (_z _ z)) λz=>.inr (_z _ z);by_cases hc:(k'==NameKind.free&&env.scope.kind==.function&&env.kindOf n==some .cell)=true
  ·rw[_o hc,_T]at h;split at h
   ·rename_i hb;simp only[_m,_a7]at hc;rw[_a7.mp hb,hc.1.1];exact .inr _N
   ·exact step h
  ·rw[_I hc,_T]at h;split at h
   ·rename_i hb;cases h;rw[_a7.mp hb];rcases hk with rfl | rfl;·exact .inl _N
    ·exact .inr _N
   ·exact step h
def inner(mp:List (Option Nat))(O:St):St:=mp.map λo=>match o with | some j=>(O[j]?).getD none | none=>none
def kr(N:List Str)(names:List (Str×NameKind)):List Str->List (Option Nat)->Bool
 | [],[]=>true | _::r,none::mp=>kr N names r mp | x::r,some j::mp=>N[j]? == some x&&names.lookup x==some .free&&kr N names r mp | _,_=>false
theorem z0j{N:List Str}{names:List (Str×NameKind)}:∀{N':List Str}{mp:List (Option Nat)},kr N names N' mp=true->mp.length=N'.length
 | [],[],_=>rfl | _::_,none::_,h=>by
  simp only[kr]at h;simp only[_q];rw[z0j h] | _::_,some _::_,h=>by
  simp only[kr,_m]at h;simp only[_q];rw[z0j h.2] | [],none::_,h=>by cases h | [],some _::_,h=>by cases h | _::_,[],h=>by cases h
theorem z2B{N:List Str}{names:List (Str×NameKind)}:∀{N':List Str}{mp:List (Option Nat)}{i j:Nat}{x:Str},kr N names N' mp=true->N'[i]? = some x->mp[i]? = some (some j)->N[j]? = some x/\names.lookup x=some .free
 | [],_,_,_,_,_,h,_=>by simp at h | _::_,[],_,_,_,_,_,h=>by simp at h | _::_,none::_,0,_,_,_,_,h=>by simp at h | _::_,some _::_,0,_,_,h,h1,h2=>by
  simp only[kr,_m,_a7]at h;simp at h1 h2;subst h1 h2;exact h.1 | _::_,none::_,i+1,_,_,h,h1,h2=>by
  simp only[kr]at h;exact z2B (i:=i) h (by simpa using h1) (by simpa using h2) | _::_,some _::_,i+1,_,_,h,h1,h2=>by
  simp only[kr,_m]at h;exact z2B (i:=i) h.2 (by simpa using h1) (by simpa using h2)
section
variable {X:Cx}{pins:List (Addr×Obj)}{O:St}{H:Hp}{s s1:Shared}{scope:Scope}{N':List Str}{ex:List Addr}{mp:List (Option Nat)}
theorem z45{α:Type}{x:Str}{l1 l2:List (Str×α)}{c:α}(h:(l1++l2).lookup x=some c):l1.lookup x=some c\/(l1.lookup x=none/\l2.lookup x=some c):=by
 rw[_a8]at h;cases e:l1.lookup x with
 | some d=>rw[e]at h;exact .inl h | none=>rw[e]at h;exact .inr ⟨rfl,h⟩
theorem z48 (I:Inv X pins O H s) (hkd:scope.kind=.function) (hnm:∀y∈scope.names,scope.names.lookup y.1=some y.2) (hfr:∀y∈scope.names,y.2=.free->X.env.kindOf y.1=some .cell\/X.env.kindOf y.1=some .free) (hmp:kr X.N scope.names N' mp=true) (hex:∀b∈ex,b<s.heap.objs.size/\H b=none/\b≠X.env.locals/\b∉X.fs/\(b∈X.ex\/X.s₀.heap.objs.size<=b)/\(∀x c,X.env.cells.lookup x=some c->c≠b)) (e1:s1.heap=pushCells (s.heap.push {cls:=.type "dict",data:=.dict #[]}) scope.names) (e2:s1.os=s.os) (e3:s1.gens=s.gens): Inv (zF X N' scope ex s H) [] (inner mp O) H s1:=by
 have keep:∀b o,s.heap.get? b=some o->s1.heap.get? b=some o:=λb o e=>by rw[e1];exact pushCells_keeps _ _ b o (_c _ e)
 have ok:=cellsFrom_ok scope.names (s.heap.push {cls:=.type "dict",data:=.dict #[]}) (s.heap.objs.size+1) [] ⟨λ_ _ hm=>(nomatch hm),List.Pairwise.nil⟩ (by rw[_ai];exact _n _);rw[_ai,<- e1]at ok;have hclo:∀x c,(z10 X.env scope.names []).lookup x=some c->X.env.cells.lookup x=some c:=jZ scope.names [] (λx c h=>by simp at h);have clt:∀x c,X.env.cells.lookup x=some c->c<s.heap.objs.size:=λx c h=>by obtain⟨v,q⟩:=I.cell x c h;exact q.lt
 have own:∀x c,(cellsFrom (s.heap.objs.size+1) scope.names []).lookup x=some c->s1.heap.IsCell c none/\s.heap.objs.size+1<=c:=λx c h=>ok.empty x c (_R h);have both:∀x c,(z6Q X scope s.heap.objs.size).cells.lookup x=some c->((cellsFrom (s.heap.objs.size+1) scope.names []).lookup x=some c/\s1.heap.IsCell c none/\s.heap.objs.size+1<=c)\/(X.env.cells.lookup x=some c):=λx c h=>by
  rcases z45 h with q | ⟨_,q⟩;·exact .inl ⟨q,own x c q⟩
  ·exact .inr (hclo x c q)
 refine⟨⟨I.ok.mod,hkd,I.ok.glob,I.ok.blt,_n _,λx y c h1 h2=>?_,λx hx=>?_,λx c hf h=>?_,I.ok.hd,I.ok.frames,.inl rfl,λb hb=>⟨_F (hex b hb).1,λx c h=>?_⟩,λb o e=>I.bs b o e,_B I.ok.bsz I.sz,λb o e hb=>?_,λb hb hf=>?_,I.stack,I.stkFree⟩, e2,by rw[e3];exact I.bare,Un.kept keep,?_,λx c h=>?_,I.hok.fresh (_n _),λx c h=>?_,λp hp=>absurd (show p∈([]:List (Addr×Obj)) from hp) (by simp),I.hok.kept keep,?_⟩
 ·rcases both x c h1 with⟨q1,_,l1⟩ | q1<;>rcases both y c h2 with⟨q2,_,l2⟩ | q2;·exact name_of_addr ok.apart (_R q1) (_R q2)
  ·exact absurd (_h (clt y c q2) (_bG l1)) (_ar _)
  ·exact absurd (_h (clt x c q1) (_bG l2)) (_ar _)
  ·exact I.ok.inj x y c q1 q2
 ·have hx':(x,NameKind.cell)∈scope.names\/(x,NameKind.free)∈scope.names:=by
   rcases hx with hx | hx;·exact wA (env:=X.env) hx (.inl rfl)
   ·exact wA (env:=X.env) hx (.inr rfl)
  show ∃c,(cellsFrom (s.heap.objs.size+1) scope.names []++z10 X.env scope.names []).lookup x=some c;rw[_a8];cases e:(cellsFrom (s.heap.objs.size+1) scope.names []).lookup x with
  | some c=>exact⟨c,rfl⟩ | none=>
   rcases hx' with hx' | hx'
   ·obtain⟨c,q⟩:=qM (sc:=scope) (n:=s.heap.objs.size+1) (hnm (x,.cell) hx');rw[q]at e;cases e
   ·obtain⟨c,q⟩:=z0e (env:=X.env) scope.names [] hx' (I.ok.has x (hfr (x,.free) hx' rfl));exact⟨c,by simpa using q⟩
 ·have hf':scope.names.lookup x=some .cell:=_a7.mp hf;obtain⟨c',q⟩:=qM (sc:=scope) (n:=s.heap.objs.size+1) hf';have h':(cellsFrom (s.heap.objs.size+1) scope.names []++z10 X.env scope.names []).lookup x=some c:=h;rw[_a8,q]at h';have e:c'=c:=_G h';subst e;exact _bZ (Nat.lt_of_succ_le (own x c' q).2)
 ·rcases both x c h with⟨_,_,l⟩ | q
  ·intro z;rw[z]at l;exact absurd (_h (hex b hb).1 (_bG l)) (_ar _)
  ·exact (hex b hb).2.2.2.2.2 x c q
 ·rcases (hex b hb).2.2.2.2.1 with z | z;·exact I.ok.noex b o e z
  ·exact absurd (_h (_h (_l e) I.ok.bsz) z) (_ar _)
 ·have q:=I.stkSub b hf;rcases _p.mp q with z | z;·exact (hex b hb).2.2.1 z
  ·exact (hex b hb).2.2.2.1 z
 ·refine⟨λ_=>none,?_,λi x v h1 h2 h3=>?_⟩
  ·rw[e1];exact (Heap.Ns.new s.heap (.type "dict")).keeps (pushCells_keeps _ _)
  ·have h2':(inner mp O)[i]? = some (some v):=h2;unfold inner at h2';rw[_D]at h2';cases em:mp[i]? with
   | none=>rw[em]at h2';cases h2' | some o=>
    rw[em]at h2';cases o with
    | none=>cases h2' | some j=>
     obtain⟨hj,hl⟩:=z2B hmp h1 em;have hmem:(x,NameKind.free)∈scope.names:=_R hl;have hv:O[j]? = some (some v):=by
      simp only[_aG]at h2';cases eO:O[j]? with
      | none=>rw[eO]at h2';cases h2' | some o=>rw[eO]at h2';exact h2'
     obtain⟨m,hn,hlook⟩:=I.loc;have kx:X.env.kindOf x=some .cell\/X.env.kindOf x=some .free:=hfr _ hmem rfl;obtain⟨u,r,L⟩:=hlook j x v hj hv (by rcases kx with k | k;exact .inr (.inl k);exact .inr (.inr k));refine⟨u,r,.inr ?_⟩;rcases L with⟨k,_⟩ | ⟨_,c,hc,hcell⟩;·rcases kx with k' | k'<;>(rw[k]at k';cases k')
     ·have ncell:(x,NameKind.cell)∉scope.names:=λz=>by
       have a:=hnm _ z;rw[hl]at a;cases a
      refine⟨?_,c,?_,hcell.keeps keep⟩
      ·rcases vO (env:=X.env) hl with q | ⟨_,q⟩;·exact .inr q
       ·exact .inl q
      ·show (cellsFrom (s.heap.objs.size+1) scope.names []++z10 X.env scope.names []).lookup x=some c;rw[_a8];cases e:(cellsFrom (s.heap.objs.size+1) scope.names []).lookup x with
       | some c'=> exact absurd ((wW _ _ _ (_R e)).resolve_left (by simp)) ncell | none=>
        obtain⟨c2,q⟩:=z0e (env:=X.env) scope.names [] hmem ⟨c,hc⟩;have q2:=hclo x c2 q;rw[hc]at q2;cases q2;simpa using q
 ·rcases both x c h with⟨_,q,_⟩ | q;·exact⟨_,q⟩
  ·obtain⟨v,z⟩:=I.cell x c q;exact⟨v,z.keeps keep⟩
 ·rcases both x c h with⟨_,_,l⟩ | q;·exact I.hok.fresh (by omega)
  ·exact I.freeC x c q
 ·unfold inner;rw[_Y];exact z0j hmp
end
section
variable {M:Model}{A:Around}{E:Value->Shared->Prop}{s:Shared}
theorem z2z{scope:Scope}{env:Env}{cl:List (Str×Addr)}{Q:Env->Shared->Prop} (h:Q {scope:=scope,locals:=s.heap.objs.size,globals:=env.globals,cells:=cellsFrom (s.heap.objs.size+1) scope.names cl,qual:=env.qual,func:=none,code:=env.code,frame:=env.frame,builtins:=env.builtins} {s with heap:=pushCells (s.heap.push {cls:=.type "dict",data:=.dict #[]}) scope.names}): wpAny M A (newFunctionEnv scope env.globals cl [] env.qual none .none (some env)) Q E s:=by
 simp only[newFunctionEnv,Option.isSome_some,_Z];refine _a (wpAny_alloc ?_);refine _a (wpAny_layCells _ (λname kind cells=>by cases hkc:kind==NameKind.cell<;>simp[hkc]) _ _ _ _ ?_);rw[show ({s with heap:=s.heap.push {cls:=.type "dict",data:=.dict #[]}}:Shared).heap.objs.size=s.heap.objs.size+1 from _ai ..];refine _a ?_;rw[List.forIn_nil];exact _k (_k h)
end
section
variable {prog:Program}{w:World}{A:Around}{E:Value->Shared->Prop}{R:Result->Shared->Prop}{s:Shared}
theorem z1g{elt target iter:Expr}{ifs:List Expr}{scope:Scope}{pos:Pos}{it acc:Value}{env:Env}(I:Nat->Shared->Prop) (z1Z:∀n s,I n s->wpAny (model prog w) A (pyNext it) (λr s₁=>match r with
   | none=>R (.ok .next) s₁ | some v=>wpAny (model prog w) A (letOwnedTupleGo target it v) (λ_ s₁'=>wpAny (model prog w) A (assign target env v) (λ_ s₂=> wpAny (model prog w) A (forIn ifs true λc r=>if r=true then do let ok <- isTrue c env (eval c env);pure (ForInStep.yield ok) else pure (ForInStep.yield r)) (λok s₃=> if ok=true then wpAny (model prog w) A (eval elt env) (λx s₄=> wpAny (model prog w) A (call (.builtin "list.append") [acc,x]) (λ_ s₅=>∃m,m<n/\I m s₅) (λ_ _=>False) s₄) (λ_ _=>False) s₃ else ∃m,m<n/\I m s₃) (λ_ _=>False) s₂) (λ_ _=>False) s₁') (λ_ _=>False) s₁) (λ_ _=>False) s) (n:Nat)(h:I n s): codeAny (model prog w) A (.compLoop (.ListComp elt [⟨target,iter,ifs,0⟩] scope pos) 0 it acc env) R s:=by
 refine codeAny_loop rfl I (λn s hI=>?_) n h;show wpAny _ A ((compTurn (.ListComp elt [⟨target,iter,ifs,0⟩] scope pos) 0 it acc env).onRaise (λx=>do noteFrame x env;theTreesLotGoes x)) _ _ s;refine wpAny_noted ?_;rw[compTurn_list];refine _a (_bi (_a (_ae (z1Z n s hI) (λr s₁ h₁=>?_) λ_ _ h'=>h'.elim)));cases r with
 | none=>exact _k h₁ | some v=>
  refine _a (_ae h₁ (λ_ s₁' h₁'=>?_) λ_ _ h'=>h'.elim);refine _a (_ae h₁' (λ_ s₂ h₂=>_a (_ae h₂ (λok s₃ h₃=>?_) λ_ _ h'=>h'.elim)) λ_ _ h'=>h'.elim);cases ok with
  | false=>exact _k ⟨rfl,h₃⟩ | true=> exact _a (_a (_ae h₃ (λx s₄ h₄=>_a (_ae h₄ (λ_ s₅ h₅=>_k (_k ⟨rfl,h₅⟩)) λ_ _ h'=>h'.elim)) λ_ _ h'=>h'.elim))
end
def z3s(X:Cx)(ifs:List Expr)(t:TT):Prop:= ∀(pins:List (Addr×Obj))(s:Shared)(O:St)(H:Hp)(Q:Bool->Hp->Prop),Inv X pins O H s->t O H Q-> wpAny (model X.prog X.w) X.A (forIn ifs true λc r=>if r=true then do let ok <- isTrue c X.env (eval c X.env);pure (ForInStep.yield ok) else pure (ForInStep.yield r)) (TP X pins O Q) X.xe s
theorem z6E{X:Cx}:z3s X [] (λ_ H Q=>Q true H):=λ_ _ _ H _ I h=>wpAny_tests_nil ⟨H,I,h⟩
theorem Inv.track {X:Cx} {pins:List (Addr×Obj)} {O:St} {H:Hp} {s:Shared} {a:Addr} {o:HO} (I:Inv X pins O H s) (f:z1V X pins H a) (new:xQ X.prog X.w (upd H a o) s.heap a o):Inv X pins O (upd H a o) s:=by
 obtain⟨f0,f1,f2,f3,f4,f5⟩:=f;have hs:HOk X.prog X.w (upd H a o) s.heap:=λb u e=>by
  by_cases hb:b=a;·subst hb;rw[yi]at e;cases e;exact new
  ·rw[zC hb]at e;exact (I.hok b u e).stay (λ_ _ _ q=>q) (λc q=>by rw[zC (yj q f0)];exact q) λc xs q=>by rw[zC (yj q f0)];exact q
 exact I.step (h':=s.heap) (g':=s.gens) (d':=s.drawn) (t':=s.toks) (ch:=[a]) (λb hb=>by
  have e:b=a:=by simpa using hb
  subst e;exact⟨f3,f1,f4,f5⟩) (λb o _ _ _ e _=>e) (λb o _ _ _ e _=>⟨o.slots,e⟩) (λb o hb _ n=>by rw[zC (λz=>hb (by simp[z]))];exact n) (λb o _ e=>⟨o,e⟩) (λb xs q=>by rw[zC (yj q f0)];exact q) (λb u xs q=>by rw[zC (yj q f0)];exact q) (λb ps q=>⟨#[],by rw[zC (yj q f0),q];simp⟩) (λ_ q=>q) hs I.bare
def z6P(wi:TI)(mp:List (Option Nat))(g:TG)(ti:TT)(te:TE):TE:=λO H Q=>wi O H λJ H1=>∃W:Nat->Nat->List V->Hp->Prop,(∃m,W 0 m [] H1)/\∀i m ys H,W i m ys H-> (J.stop i H/\ys.length<=sizeLine/\∀p,H p=none->Q (.ref p) (upd H p (.lst ys)))\/ (J.go i H/\∀x H',J.yld i H x H'->g x (inner mp O) H' λO2 H2=>(O2.length=(inner mp O).length/\∀(i:Nat) v,(inner mp O)[i]? = some (some v)->O2[i]? = some (some v))/\ ti O2 H2 λb H3=>if b=true then te O2 H3 λy H4=>ys.length<=sizeLine/\∃m',m'<m/\W (i+1) m' (ys++[y]) H4 else ∃m',m'<m/\W (i+1) m' ys H3)
def qL(X:Cx)(pins:List (Addr×Obj))(O:St)(C:Addr)(Q:VK)(acc:Value)(s':Shared):Prop:= ∃v Hf,Inv X pins O Hf s'/\xL v acc/\Q v Hf/\(∃m,s'.heap.Ns C m)/\z1V X pins Hf C
theorem uJ {X:Cx} {tg iter elt:Expr} {ifs:List Expr} {scope:Scope} {pos:Pos} {g:TG} {ti:TT} {te:TE} {N':List Str} {mp:List (Option Nat)} {pins:List (Addr×Obj)} {O:St} {Q:VK} {J:It} {H2:Hp} {s₂:Shared} {it:Addr} {fp:List Addr} {tn:Nat->Heap->Prop} {E:Value->Shared->Prop} {RR:Value->Addr->Result->Shared->Prop} (hc:X.calm=true) (hg:∀ex s H,PG (zF X N' scope ex s H) tg g) (ht:∀ex s H,z3s (zF X N' scope ex s H) ifs ti) (he:∀ex s H,PE (zF X N' scope ex s H) elt te) (hkd:scope.kind=.function) (hnm:∀y∈scope.names,scope.names.lookup y.1=some y.2) (hfr:∀y∈scope.names,y.2=.free->X.env.kindOf y.1=some .cell\/X.env.kindOf y.1=some .free) (hmp:kr X.N scope.names N' mp=true) (I2:Inv X pins O H2 s₂) (T:z7X X.prog X.w X.K tg J fp it tn) (st2:tn 0 s₂.heap) (f2:∀b∈fp,z1V X pins H2 b) (W:Nat->Nat->List V->Hp->Prop) (w0:∃m,W 0 m [] H2) (z1Z:∀i m ys H,W i m ys H-> (J.stop i H/\ys.length<=sizeLine/\∀p,H p=none->Q (.ref p) (upd H p (.lst ys)))\/ (J.go i H/\∀x H',J.yld i H x H'->g x (inner mp O) H' λO2 H2=>(O2.length=(inner mp O).length/\∀(i:Nat) v,(inner mp O)[i]? = some (some v)->O2[i]? = some (some v))/\ ti O2 H2 λb H3=>if b=true then te O2 H3 λy H4=>ys.length<=sizeLine/\∃m',m'<m/\W (i+1) m' (ys++[y]) H4 else ∃m',m'<m/\W (i+1) m' ys H3)) (hRR:∀acc C s',qL X pins O C Q acc s'->RR acc C (.ok .next) s'): wpAny (model X.prog X.w) X.A (newList []) (λacc s₃=>wpAny (model X.prog X.w) X.A (newFunctionEnv scope X.env.globals (z10 X.env scope.names []) [] X.env.qual none .none (some X.env)) (λcenv s₄=> codeAny (model X.prog X.w) X.A (.compStart (.ListComp elt [⟨tg,iter,ifs,0⟩] scope pos) 0 (.ref it) acc {cenv with scope:=relabel scope X.env}) (RR acc cenv.locals) s₄) E s₃) E s₂:=by
 refine _aj ?_;have hf2:H2 s₂.heap.objs.size=none:=I2.hok.fresh (_n _);have fA:z1V X pins H2 s₂.heap.objs.size:=I2.fpOk (_n _) hf2;generalize hacc:s₂.heap.objs.size=acc at hf2 fA ⊢;have I3:Inv X pins O H2 {s₂ with heap:=s₂.heap.push {cls:=.type "list",data:=.seq ([]:List Value).toArray}}:=I2.kept (t':=s₂.toks) λb o e=>_c _ e;have ha3:(s₂.heap.push {cls:=.type "list",data:=.seq ([]:List Value).toArray}).get? acc=some (LCg.lst []):=by rw[<- hacc];exact _u _ rfl
 have sz3:(s₂.heap.push {cls:=.type "list",data:=.seq ([]:List Value).toArray}).objs.size=acc+1:=by rw[_ai,hacc]
 have kp3:∀b o,s₂.heap.get? b=some o->(s₂.heap.push {cls:=.type "list",data:=.seq ([]:List Value).toArray}).get? b=some o:=λb o e=>_c _ e;show wpAny _ _ _ _ _ {s₂ with heap:=s₂.heap.push {cls:=.type "list",data:=.seq ([]:List Value).toArray}};generalize hs3:({s₂ with heap:=s₂.heap.push {cls:=.type "list",data:=.seq ([]:List Value).toArray}}:Shared)=s₃ at I3 ⊢;have ha3':s₃.heap.get? acc=some (LCg.lst []):=by rw[<- hs3];exact ha3
 have sz3':s₃.heap.objs.size=acc+1:=by rw[<- hs3];exact sz3
 have kp3':∀b o,s₂.heap.get? b=some o->s₃.heap.get? b=some o:=by rw[<- hs3];exact kp3
 have flt:∀b∈fp,b<acc:=λb hb=>by
  obtain⟨o,e,_⟩:=T.obj 0 _ st2 b hb;rw[<- hacc];exact _l e
 have fne:∀b∈fp,b≠acc:=λb hb=>_F (flt b hb);have tn3:tn 0 s₃.heap:=T.keep 0 _ _ st2 λb hb o e=>kp3' b o e;refine z2z ?_;rw[xR];have hex:∀b∈acc::fp,b<s₃.heap.objs.size/\H2 b=none/\b≠X.env.locals/\b∉X.fs/\(b∈X.ex\/X.s₀.heap.objs.size<=b)/\(∀x c,X.env.cells.lookup x=some c->c≠b):=λb hb=>by
  rcases _p.mp hb with z | hb
  ·subst z;exact⟨by rw[sz3'];exact _bf _,hf2,fA.2.1,fA.2.2.1,fA.2.2.2.1,fA.2.2.2.2.1⟩
  ·have q:=f2 b hb;exact⟨by rw[sz3'];exact _bH (flt b hb),q.1,q.2.1,q.2.2.1,q.2.2.2.1,q.2.2.2.2.1⟩
 have I4:=z48 (N':=N') (mp:=mp) (ex:=acc::fp) (s1:={s₃ with heap:=pushCells (s₃.heap.push {cls:=.type "dict",data:=.dict #[]}) scope.names}) I3 hkd hnm hfr hmp hex rfl rfl rfl;have kp4:∀b o,s₃.heap.get? b=some o->(pushCells (s₃.heap.push {cls:=.type "dict",data:=.dict #[]}) scope.names).get? b=some o:=λb o e=>pushCells_keeps _ _ b o (_c _ e);generalize hs4:({s₃ with heap:=pushCells (s₃.heap.push {cls:=.type "dict",data:=.dict #[]}) scope.names}:Shared)=s₄ at I4 ⊢;have ha4:s₄.heap.get? acc=some (LCg.lst []):=by rw[<- hs4];exact kp4 _ _ ha3'
 have tn4:tn 0 s₄.heap:=T.keep 0 _ _ tn3 λb hb o e=>by rw[<- hs4];exact kp4 b o e
 have Cne:acc≠s₃.heap.objs.size:=by rw[sz3'];exact _F (_bf _)
 have celln:∀b∈acc::fp,∀x c,(z6Q X scope s₃.heap.objs.size).cells.lookup x=some c->c≠b:=λb hb=>(I4.ok.exf b hb).2;have stat:∀{H':Hp} {o:Obj},(∀b∈fp,H' b=none)->∀b∈fp,z1V (zF X N' scope (acc::fp) s₃ H2) [(acc,o)] H' b:=λ{H' o} hn b hb=> ⟨hn b hb,_F (by show b<s₃.heap.objs.size;rw[sz3'];exact _bH (flt b hb)),λhf=>I4.ok.exfs b (_z _ hb) hf,.inl (_z _ hb),celln b (_z _ hb),λp hp=>by
   have e:p=(acc,o):=by simpa[zF] using hp
   rw[e];exact _aH (fne b hb)⟩;have pinA:∀{O':St} {H':Hp} {s':Shared} {its:List Value},Inv (zF X N' scope (acc::fp) s₃ H2) [] O' H' s'->H' acc=none->s'.heap.get? acc=some (LCg.lst its)->Inv (zF X N' scope (acc::fp) s₃ H2) [(acc,LCg.lst its)] O' H' s':=λ{O' H' s' its} J' n' e'=> J'.pins_of λp hp=>by
   have e:p=(acc,LCg.lst its):=by simpa using hp
   subst e;refine⟨e',n',Cne,λhf=>I4.ok.exfs acc _N hf,λv z=>?_⟩;have z':Data.seq _ _=Data.cell v:=z;cases z'
 obtain⟨m0,w0⟩:=w0;have loop:codeAny (model X.prog X.w) X.A (.compLoop (.ListComp elt [⟨tg,iter,ifs,0⟩] scope pos) 0 (.ref it) (.ref acc) (z6Q X scope s₃.heap.objs.size)) (RR (.ref acc) s₃.heap.objs.size) s₄:=by
  refine z1g (λn s'=>∃i ys its H',Inv (zF X N' scope (acc::fp) s₃ H2) [] (inner mp O) H' s'/\tn i s'.heap/\(∀b∈fp,H' b=none)/\H' acc=none/\s'.heap.get? acc=some (LCg.lst its)/\yC ys its/\W i n ys H') ?_ m0 ⟨0,[],[],H2,I4,tn4,λb hb=>(f2 b hb).1,hf2,ha4,.nil,w0⟩;rintro n s5 ⟨i,ys,its,H5,I5,tn5,n5,na5,ea5,rv5,w5⟩;have I5':=pinA I5 na5 ea5;rcases z1Z i n ys H5 w5 with⟨stop,hz,q⟩ | ⟨go,step⟩
  ·refine _ae (T.done (zF X N' scope (acc::fp) s₃ H2) rfl rfl rfl hc i _ s5 _ H5 (λ_ _=>False) I5' (stat n5) tn5 stop) (λr s6 ⟨hr,I6⟩=>?_) λ_ _ z=>z;subst hr;have ea6:=(I6.pin (acc,LCg.lst its) (by simp)).1;have un:Un (frs X.stack) (acc::fp) H2 H5 s₃.heap s6.heap:=I6.base;have I7:Inv X pins O H5 s6:=I3.call' (s':=s6) (I6.os) un I6.hok I6.bare λb hb=>by
    rcases _p.mp hb with z | hb;·subst z;exact⟨fA.2.2.2.1,fA.2.1,fA.2.2.2.2.1,fA.2.2.2.2.2⟩
    ·exact⟨(f2 b hb).2.2.2.1,(f2 b hb).2.1,(f2 b hb).2.2.2.2.1,(f2 b hb).2.2.2.2.2⟩
   have C7:z1V X pins H5 s₃.heap.objs.size:=I3.fpOk (_n _) I6.free;refine hRR _ _ s6 ⟨.ref acc,upd H5 acc (.lst ys),I7.track ⟨na5,fA.2⟩ ?_,rfl,q acc na5,?_,?_,C7.2⟩;·exact⟨hz,its,_,rv5,ea6⟩
   ·obtain⟨m,hm,_⟩:=I6.loc;exact⟨m,hm⟩
   ·rw[zC (_aH Cne)];exact I6.free
  ·refine _ae (T.item (zF X N' scope (acc::fp) s₃ H2) rfl rfl rfl hc i _ s5 _ H5 (λ_ _=>False) I5' (stat n5) tn5 go) (λr s6 ⟨u,hr,h6⟩=>?_) λ_ _ z=>z;subst hr;refine _ae h6 (λ_ s7 ⟨x,H7,I7,r7,y7,tn7,n7⟩=>?_) λ_ _ z=>z;have I7':=I7.pinned (stat n7) (T.obj _ _ tn7);refine _ae (hg _ _ _ _ s7 (inner mp O) H7 x u _ I7' r7 (step x H7 y7)) (λ_ s8 ⟨O8,H8,I8,⟨kl,kv⟩,q8⟩=>?_) λ_ _ z=>z;refine _ae (ht _ _ _ _ s8 O8 H8 _ I8 q8) (λb s9 ⟨H9,I9,q9⟩=>?_) λ_ _ z=>z;have pinB:∀{O':St} {H':Hp} {s':Shared},Inv (zF X N' scope (acc::fp) s₃ H2) ([(acc,LCg.lst its)]++z1C fp s7.heap) O' H' s'->(∀b∈fp,H' b=none)/\H' acc=none/\s'.heap.get? acc=some (LCg.lst its)/\tn (i+1) s'.heap/\∀b∈fp,∀o,s7.heap.get? b=some o->s'.heap.get? b=some o:=λ{O' H' s'} J'=>by
    have z:=J'.pin (acc,LCg.lst its) (by simp[zF]);have zz:∀b∈fp,∀o,s7.heap.get? b=some o->s'.heap.get? b=some o/\H' b=none:=λb hb o e=>by
     have y:=J'.pin (b,o) (_Q _ (_Q _ (uT hb e)));exact⟨y.1,y.2.1⟩
    refine⟨λb hb=>?_,z.2.1,z.1,T.keep _ _ _ tn7 λb hb o e=>(zz b hb o e).1,λb hb o e=>(zz b hb o e).1⟩;obtain⟨o,e,_⟩:=T.obj _ _ tn7 b hb;exact (zz b hb o e).2
   cases b with
   | false=>
    rw[_I (by decide)]at q9 ⊢;obtain⟨m',lt,w9⟩:=q9;obtain⟨z1,z2,z3,z4,_⟩:=pinB I9;exact⟨m',lt,i+1,ys,its,H9,(I9.pins_of (pins':=[]) (λp hp=>absurd hp (by simp))).weak kl.symm kv,z4,z1,z2,z3,rv5,w9⟩ | true=>
    rw[_o rfl]at q9 ⊢;refine _ae (he _ _ _ _ s9 O8 H9 _ I9 q9) (λyv s10 ⟨y,H10,I10,r10,hz,m',lt,w10⟩=>?_) λ_ _ z=>z;obtain⟨z1,z2,z3,z4,_⟩:=pinB I10;have zl:its.toArray.size<=sizeLine:=by rw[_j,<- rv5.length];exact hz
    refine append_at (hsz:=zl) z3 λh11 sb ea11=>?_;have I10':=(I10.pins_of (pins':=[]) (λp hp=>absurd hp (by simp))).weak kl.symm kv;have I11:Inv (zF X N' scope (acc::fp) s₃ H2) [] (inner mp O) H10 {s10 with heap:=h11}:=I10'.turned (t':=s10.toks) (λb o hb e=>(sb.2 b hb).trans e) z2 Cne (.inl _N) (celln acc _N) (λp hp=>absurd hp (by simp[zF]));exact⟨m',lt,i+1,ys++[y],its++[yv],H10,I11,T.keep _ _ _ z4 (λb hb o e=>(sb.2 b (fne b hb)).trans e),z1,z2,ea11.trans (_bk some (LCg.lst_snoc its yv)),rv5.append (.cons r10 .nil),w10⟩
 exact codeAny_compStart_list loop (T.self _ 0 _ _ _ tn4 loop)
section
variable {X:Cx}{tg iter elt:Expr}{ifs:List Expr}{scope:Scope}{pos spos py:Pos}{wi:TI}{g:TG}{ti:TT}{te:TE}{N':List Str}{mp:List (Option Nat)}
theorem ub{pins:List (Addr×Obj)}{O:St}{H:Hp}{s:Shared}{h':Heap}{C:Addr}(I:Inv X pins O H s)(f:z1V X pins H C)(sb:Heap.SameBut C s.heap h'):Inv X pins O H {s with heap:=h'}:= I.turned (t':=s.toks) (λb o hb e=>(sb.2 b hb).trans e) f.1 f.2.1 f.2.2.2.1 f.2.2.2.2.1 f.2.2.2.2.2
theorem z4M (N':List Str) (mp:List (Option Nat)) (hc:X.calm=true) (hi:PI X tg iter wi) (hg:∀ex s H,PG (zF X N' scope ex s H) tg g) (ht:∀ex s H,z3s (zF X N' scope ex s H) ifs ti) (he:∀ex s H,PE (zF X N' scope ex s H) elt te) (hkd:scope.kind=.function) (hnm:∀y∈scope.names,scope.names.lookup y.1=some y.2) (hfr:∀y∈scope.names,y.2=.free->X.env.kindOf y.1=some .cell\/X.env.kindOf y.1=some .free) (hmp:kr X.N scope.names N' mp=true) (hs:∀x,foldedSetIterable iter X.env x=pure x:=by intro _;rfl):PE X (.ListComp elt [⟨tg,iter,ifs,0⟩] scope pos) (z6P wi mp g ti te):=by
 intro pins s O H Q I h;rw[eval_ListComp];refine _a3 (use:=none) rfl hs (ve λy hy hf=>I.ok.has _ (hfr y hy hf)) hkd (λy hy hl=>by rw[hnm y hy,hl]) (thn (hi pins s O H _ I h) λxv s₁ h₁=>thn h₁ λitv s₂ h₂=>?_);obtain⟨it,fp,tn,J,H2,e,I2,T,st2,f2,W,w0,z1Z⟩:=h₂;subst e;refine uJ (N':=N') (mp:=mp) (O:=O) (pins:=pins) (Q:=Q) (RR:=λacc C=>compPost (model X.prog X.w) X.A X.xe none (EP X pins O Q) acc C) hc hg ht he hkd hnm hfr hmp I2 T st2 f2 W w0 z1Z ?_;rintro acc C s' ⟨v,Hf,I3,r,q,⟨m,hm⟩,f⟩;exact⟨m,hm,λh' sb=>⟨v,Hf,ub I3 f sb,r,q⟩⟩
theorem z3S {i:Nat} {y:Str} (N':List Str) (mp:List (Option Nat)) (hN:X.N.Nodup) (hy:X.N[i]? = some y) (hyl:Loc X.env.scope y) (hc:X.calm=true) (hi:PI X tg iter wi) (hg:∀ex s H,PG (zF X N' scope ex s H) tg g) (ht:∀ex s H,z3s (zF X N' scope ex s H) ifs ti) (he:∀ex s H,PE (zF X N' scope ex s H) elt te) (hkd:scope.kind=.function) (hnm:∀y∈scope.names,scope.names.lookup y.1=some y.2) (hfr:∀y∈scope.names,y.2=.free->X.env.kindOf y.1=some .cell\/X.env.kindOf y.1=some .free) (hmp:kr X.N scope.names N' mp=true) (hs:∀x,foldedSetIterable iter X.env x=pure x:=by intro _;rfl) (hsw:swapsWith (.ListComp elt [⟨tg,iter,ifs,0⟩] scope pos) (some (.Name y py)) spos.line X.env=pure true:=by rfl) (hf:X.fn y=true\/X.env.scope.names.lookup y=some .local:=by first | exact .inl rfl | exact .inr rfl | assumption): PS X (.Assign [.Name y py] (.ListComp elt [⟨tg,iter,ifs,0⟩] scope pos) spos) (zb6 (z6P wi mp g ti te) (z3r i)):=by
 intro pins s O H D I h;rw[exec_Assign_Name_used _ _ _ _ hsw];refine _a (_bi (_a ?_));show wpAny _ X.A (do let _ <- comprehension (.ListComp elt [⟨tg,iter,ifs,0⟩] scope pos) scope X.env _ (newList []) false (eval iter X.env) (some (assign (.Name y py) X.env))) _ _ s;refine _a (_ae (_a3 (use:=some (assign (.Name y py) X.env)) (Q:=λ_ s'=>SP X pins D .next s') rfl hs (ve λy hy hf=>I.ok.has _ (hfr y hy hf)) hkd (λy hy hl=>by rw[hnm y hy,hl]) (thn (hi pins s O H _ I h) λxv s₁ h₁=>thn h₁ λitv s₂ h₂=>?_)) (λ_ s' hq=>_k (_k hq)) λ_ _ e=>e);obtain⟨it,fp,tn,J,H2,e,I2,T,st2,f2,W,w0,z1Z⟩:=h₂;subst e;refine uJ (N':=N') (mp:=mp) (O:=O) (pins:=pins) (Q:=λv H'=>D.nx (O.set i (some v)) H') (RR:=λacc C=>compPost (model X.prog X.w) X.A X.xe (some (assign (.Name y py) X.env)) (λ_ s'=>SP X pins D .next s') acc C) hc hg ht he hkd hnm hfr hmp I2 T st2 f2 W w0 z1Z ?_;rintro acc C s' ⟨v,Hf,I3,r,q,⟨m,hm⟩,f⟩;refine _bD (jV I3 hN hy hyl r (λs'' I4 ⟨a,sb,ha⟩=>?_) hf);have hC:C≠a:=by
  rcases ha with z | z;·rw[z];exact f.2.1
  ·exact _aH (f.2.2.2.2.1 y a z)
 exact⟨m,hm.sameBut sb hC,λh' sb'=>⟨_,Hf,ub I4 f sb',q⟩⟩
end
end L2
set_option maxHeartbeats 4000000
namespace Dd
open L2
theorem z68(xs:List Expr)(k:Nat)(p:Pos)(es:List Expr)(env:Env):starEach (.Tuple xs k p::es) env=(false,eval (.Tuple xs k p) env)::starEach es env:=rfl
theorem z6t(xs:List Expr)(p:Pos)(es:List Expr)(env:Env):starEach (.List xs p::es) env=(false,eval (.List xs p) env)::starEach es env:=rfl
theorem wJ(f:Expr)(xs:List Expr)(ks:List Keyword)(p:Pos)(es:List Expr)(env:Env):starEach (.Call f xs ks p::es) env=(false,eval (.Call f xs ks p) env)::starEach es env:=rfl
theorem z2R(a:Expr)(o:Operator)(b:Expr)(p:Pos)(es:List Expr)(env:Env):starEach (.BinOp a o b p::es) env=(false,eval (.BinOp a o b p) env)::starEach es env:=rfl
theorem z2X(a b:Expr)(p:Pos)(es:List Expr)(env:Env):starEach (.Subscript a b p::es) env=(false,eval (.Subscript a b p) env)::starEach es env:=rfl
theorem yk(a:Expr)(g:List Comprehension)(sc:Scope)(p:Pos)(es:List Expr)(env:Env):starEach (.ListComp a g sc p::es) env=(false,eval (.ListComp a g sc p) env)::starEach es env:=rfl
theorem z0i(a:Expr)(o:List CmpOp)(b:List Expr)(p:Pos)(es:List Expr)(env:Env):starEach (.Compare a o b p::es) env=(false,eval (.Compare a o b p) env)::starEach es env:=rfl
theorem z04(c:Const)(j:Nat)(p:Pos)(es:List Expr)(env:Env):starEach (.Constant c j p::es) env=(false,eval (.Constant c j p) env)::starEach es env:=rfl
theorem zm(x:Str)(p:Pos)(es:List Expr)(env:Env):starEach (.Name x p::es) env=(false,eval (.Name x p) env)::starEach es env:=rfl
theorem z8q(o:UnaryOp)(a:Expr)(p:Pos)(es:List Expr)(env:Env):starEach (.UnaryOp o a p::es) env=(false,eval (.UnaryOp o a p) env)::starEach es env:=rfl
theorem z1K(o:BoolOp)(a:List Expr)(p:Pos)(es:List Expr)(env:Env):starEach (.BoolOp o a p::es) env=(false,eval (.BoolOp o a p) env)::starEach es env:=rfl
inductive D where | non | bl (b:Bool) | int (i:Int) | str (x:Str) | tup (xs:List D) | lst (xs:List D) | dct | loc (l:Nat) | dlo (l:Nat) | fn (x:Str) | exc (x:Str) | scr (xs:List D)
abbrev Sto:=List (List D)
abbrev Ev:=List (Option D)
inductive R(α:Type) where | ok (a:α)(s:Sto) | ex (c:Str)(s:Sto) | no
def R.bind{α β:Type}(r:R α)(k:α->Sto->R β):R β:=match r with
 | .ok a s=>k a s | .ex c s=>.ex c s | .no=>.no
@[simp] theorem R.bind_ok {α β:Type}(a:α)(s:Sto)(k:α->Sto->R β):(R.ok a s).bind k=k a s:=id rfl
abbrev Rb:=@R.bind_ok
@[simp] theorem R.bind_ex {α β:Type}(c:Str)(s:Sto)(k:α->Sto->R β):(R.ex c s:R α).bind k=.ex c s:=id rfl
@[simp] theorem R.bind_no {α β:Type}(k:α->Sto->R β):(R.no:R α).bind k=.no:=id rfl
def D.flat:D->Bool
 | .tup xs=>flats xs | .lst xs=>flats xs | .scr xs=>flats xs | .loc _=>false | .dlo _=>false | _=>true
where flats:List D->Bool
 | []=>true | x::xs=>x.flat&&flats xs
def zcN(C a:Addr):HO:=.ext λh=>∃o vs,h.get? a=some o/\o.cls=.ref C/\o.data=.fields vs
structure Gm where
 m:Str->Option Value
 K:W.Frag
abbrev gm(X:Cx):Gm:=⟨X.mg,X.K⟩
def IsL(H:Hp)(a:Addr):Prop:=∃vs,H a=some (.lst vs)
def IsC(H:Hp)(a:Addr):Prop:=(∃kvs,H a=some (.dT kvs))\/∃o kvs,H a=some (.frz o (.dT kvs))
theorem IsL.notC{H:Hp}{a:Addr}(h:IsL H a)(h':IsC H a):False:=by obtain⟨_,e⟩:=h;rcases h' with⟨_,e'⟩ | ⟨_,_,e'⟩<;>rw[e]at e'<;>cases e'
def zd7:Key->D
 | .inl i=>.int i | .inr x=>.str x
def zd9:V->Option D
 | .int i=>some (.int i) | .bl b=>some (.bl b) | _=>none
def zbY:List D->List (List Key×V)->Prop
 | [],kvs=>kvs=[] | d::ds,kvs=>∃k v x r,kvs=(k,v)::r/\zd9 v=some x/\d=.tup [.tup (k.map zd7),x]/\zbY ds r
def KL(K:W.Frag)(a:Addr)(xs:List V):Prop:=∃(o:Obj)(its:Array Value)(n:Nat),K.lookup a=some o/\o.cls=.type "list"/\o.dict=none/\o.data=.seq its n/\its.size<=sizeLine/\yC xs its.toList
section
variable (mg:Gm)
mutual
def Den(H:Hp)(Y:List Addr):D->V->Prop
 | .non,v=>v=.non | .bl b,v=>v=.bl b | .int i,v=>v=.int i | .str x,v=>v=.str x | .tup ds,v=>∃a vs,v=.ref a/\H a=some (.tup vs)/\zv H Y ds vs | .lst ds,v=>∃a o vs,v=.ref a/\H a=some (.frz o (.lst vs))/\zv H Y ds vs | .dct,v=>∃a,v=.ref a/\H a=some (.dK []) | .loc l,v=>∃a,v=.ref a/\Y[l]? = some a/\IsL H a | .dlo l,v=>∃a,v=.ref a/\Y[l]? = some a/\IsC H a | .fn x,v=>∃a,v=.ref a/\mg.m x=some (.ref a) | .exc x,v=>∃a C,v=.ref a/\mg.m x=some (.ref C)/\H a=some (zcN C a) | .scr ds,v=>∃a vs,v=.ref a/\((∃o,H a=some (.frz o (.lst vs)))\/KL mg.K a vs)/\zv H Y ds vs
def zv(H:Hp)(Y:List Addr):List D->List V->Prop
 | [],vs=>vs=[] | d::ds,vs=>∃v r,vs=v::r/\Den H Y d v/\zv H Y ds r
end
def wR(H:Hp)(Y:List Addr)(xs:List D)(a:Addr):Prop:=(∃vs,H a=some (.lst vs)/\zv mg H Y xs vs)\/(∃kvs,H a=some (.dT kvs)/\zbY xs kvs)\/∃o kvs ys,H a=some (.frz o (.dT kvs))/\xs=.non::ys/\zbY ys kvs
structure Rep(H:Hp)(Y:List Addr)(s:Sto):Prop where
 len:Y.length=s.length
 nd:Y.Nodup
 cell:∀(l:Nat)(xs:List D),s[l]? = some xs->∃a,Y[l]? = some a/\wR mg H Y xs a
 flat:∀xs∈s,D.flat.flats xs=true
structure xr(H:Hp)(Y:List Addr)(H':Hp)(Y':List Addr)(s':Sto):Prop where
 rep:Rep mg H' Y' s'
 pre:Y <+: Y'
 keep:∀b o,H b=some o->b∉Y->H' b=some o
 new:∀a∈Y',a∉Y->H a=none
 mt:∀a∈Y,(IsL H a/\IsL H' a)\/(IsC H a/\IsC H' a/\∀o u,H a=some (.frz o u)->H' a=some (.frz o u))
end
section
variable {mg:Gm}{H H' H1 H2:Hp}{Y Y' Y1 Y2:List Addr}{s s' s1 s2:Sto}
theorem wR.kind{xs:List D}{a:Addr}(h:wR mg H Y xs a):IsL H a\/IsC H a:=h.imp (λ⟨vs,e,_⟩=>⟨vs,e⟩) λh=>h.imp (λ⟨k,e,_⟩=>⟨k,e⟩) λ⟨o,k,_,e,_⟩=>⟨o,k,e⟩
theorem Rep.mt(r:Rep mg H Y s):∀a∈Y,IsL H a\/IsC H a:=λa ha=>by
 obtain⟨l,hl,e⟩:=_U.mp ha;have hl':l<s.length:=by rw[<- r.len];exact hl
 obtain⟨b,e1,c⟩:=r.cell l s[l] (_d hl');rw[_d hl]at e1;have:Y[l]=b:=_G e1;rw[<- e,this];exact c.kind
theorem Rep.at_(r:Rep mg H Y s){l:Nat}{xs:List D}{a:Addr}(h:s[l]? = some xs)(ha:Y[l]? = some a)(k:IsL H a):∃vs,H a=some (.lst vs)/\zv mg H Y xs vs:=by
 obtain⟨b,e1,c⟩:=r.cell l xs h;rw[ha]at e1;cases e1;rcases c with c | ⟨kvs,e,_⟩ | ⟨o,kvs,_,e,_⟩;·exact c
 ·exact (k.notC (.inl ⟨kvs,e⟩)).elim
 ·exact (k.notC (.inr ⟨o,kvs,e⟩)).elim
theorem xr.refl(r:Rep mg H Y s):xr mg H Y H Y s:=⟨r,_bS _,λ_ _ h _=>h,λa h1 h2=>absurd h1 h2,λa ha=>(r.mt a ha).imp (λh=>⟨h,h⟩) λh=>⟨h,h,λ_ _ q=>q⟩⟩
theorem xr.trans(a:xr mg H Y H1 Y1 s1)(b:xr mg H1 Y1 H2 Y2 s2):xr mg H Y H2 Y2 s2:=by
 refine⟨b.rep,a.pre.trans b.pre,λc o h n=>?_,λc h1 h2=>?_,λc hc=>?_⟩
 ·refine b.keep c o (a.keep c o h n) λz=>?_;rw[a.new c z n]at h;cases h
 ·by_cases h3:c∈Y1;·exact a.new c h3 h2
  ·cases e:H c with
   | none=>rfl | some o=>rw[<- b.new c h1 h3,a.keep c o e h2]
 ·have hc1:c∈Y1:=a.pre.subset hc;rcases a.mt c hc with⟨k1,k2⟩ | ⟨k1,k2,k3⟩
  ·rcases b.mt c hc1 with⟨_,q⟩ | ⟨q,_,_⟩;·exact .inl ⟨k1,q⟩
   ·exact (k2.notC q).elim
  ·rcases b.mt c hc1 with⟨q,_⟩ | ⟨_,q,q3⟩;·exact (q.notC k2).elim
   ·exact .inr ⟨k1,q,λo u z=>q3 o u (k3 o u z)⟩
theorem xr.stay(stp:xr mg H Y H' Y' s'){b:Addr}{o:HO}(h:H b=some o)(hn:∀vs,o≠.lst vs)(hn2:∀kvs,o≠.dT kvs:=by intro vs z;cases z):H' b=some o:=by
 by_cases hb:b∈Y
 ·rcases stp.mt b hb with⟨⟨vs,e⟩,_⟩ | ⟨⟨vs,e⟩ | ⟨p,vs,e⟩,_,q⟩
  ·rw[h]at e;exact absurd (_G e) (hn vs)
  ·rw[h]at e;exact absurd (_G e) (hn2 vs)
  ·rw[h]at e;cases e;exact q _ _ h
 ·exact stp.keep b o h hb
mutual
theorem Den.mono(stp:xr mg H Y H' Y' s'):∀{d:D}{v:V},Den mg H Y d v->Den mg H' Y' d v
 | .non,_,h=>by simpa[Den] using h | .bl _,_,h=>by simpa[Den] using h | .int _,_,h=>by simpa[Den] using h | .str _,_,h=>by simpa[Den] using h | .tup ds,v,h=>by
  simp only[Den]at h ⊢;obtain⟨a,vs,e,h1,h2⟩:=h;exact⟨a,vs,e,stp.stay h1 (by intro vs z;cases z),zv.mono stp h2⟩ | .lst ds,v,h=>by
  simp only[Den]at h ⊢;obtain⟨a,o,vs,e,h1,h2⟩:=h;exact⟨a,o,vs,e,stp.stay h1 (by intro vs z;cases z),zv.mono stp h2⟩ | .dct,v,h=>by
  simp only[Den]at h ⊢;obtain⟨a,e,h1⟩:=h;exact⟨a,e,stp.stay h1 (by intro vs z;cases z)⟩ | .loc l,v,h=>by
  simp only[Den]at h ⊢;obtain⟨a,e,h1,k⟩:=h;obtain⟨t,ht⟩:=stp.pre;refine⟨a,e,?_,?_⟩
  ·rw[<- ht,_x (_b.mp h1).1];exact h1
  ·rcases stp.mt a (_s h1) with⟨_,q⟩ | ⟨q,_,_⟩;·exact q
   ·exact (k.notC q).elim | .dlo l,v,h=>by
  simp only[Den]at h ⊢;obtain⟨a,e,h1,k⟩:=h;obtain⟨t,ht⟩:=stp.pre;refine⟨a,e,?_,?_⟩
  ·rw[<- ht,_x (_b.mp h1).1];exact h1
  ·rcases stp.mt a (_s h1) with⟨q,_⟩ | ⟨_,q,_⟩;·exact (q.notC k).elim
   ·exact q | .fn _,_,h=>by simpa[Den] using h | .exc x,v,h=>by
  simp only[Den]at h ⊢;obtain⟨a,C,e,h1,h2⟩:=h;exact⟨a,C,e,h1,stp.stay h2 (by intro vs z;cases z)⟩ | .scr ds,v,h=>by
  simp only[Den]at h ⊢;obtain⟨a,vs,e,h1,h2⟩:=h;exact⟨a,vs,e,h1.imp (λ⟨o,h1⟩=>⟨o,stp.stay h1 (by intro vs z;cases z)⟩) id,zv.mono stp h2⟩
theorem zv.mono(stp:xr mg H Y H' Y' s'):∀{ds:List D}{vs:List V},zv mg H Y ds vs->zv mg H' Y' ds vs
 | [],_,h=>by simpa[zv] using h | d::ds,vs,h=>by
  simp only[zv]at h ⊢;obtain⟨v,r,e,h1,h2⟩:=h;exact⟨v,r,e,Den.mono stp h1,zv.mono stp h2⟩
end
theorem zv.length:∀{ds:List D}{vs:List V},zv mg H Y ds vs->vs.length=ds.length
 | [],_,h=>by simp only[zv]at h;rw[h];rfl | d::ds,vs,h=>by
  simp only[zv]at h;obtain⟨v,r,rfl,_,h2⟩:=h;simp[zv.length h2]
theorem zv.get:∀{ds:List D}{vs:List V}{i:Nat}{d:D},zv mg H Y ds vs->ds[i]? = some d->∃v,vs[i]? = some v/\Den mg H Y d v
 | [],_,_,_,_,e=>by simp at e | d::ds,vs,0,d',h,e=>by
  simp only[zv]at h;obtain⟨v,r,rfl,h1,_⟩:=h;simp at e;subst e;exact⟨v,by simp,h1⟩ | d::ds,vs,i+1,d',h,e=>by
  simp only[zv]at h;obtain⟨v,r,rfl,_,h2⟩:=h;obtain⟨u,h3,h4⟩:=zv.get (i:=i) h2 (by simpa using e);exact⟨u,by simpa using h3,h4⟩
theorem zv.append:∀{ds es:List D}{vs us:List V},zv mg H Y ds vs->zv mg H Y es us->zv mg H Y (ds++es) (vs++us)
 | [],_,_,_,h,h'=>by simp only[zv]at h;subst h;simpa using h' | d::ds,_,_,_,h,h'=>by
  simp only[zv]at h;obtain⟨v,r,rfl,h1,h2⟩:=h;simp only[_ao,zv];exact⟨v,_,rfl,h1,zv.append h2 h'⟩
theorem zv.nil:zv mg H Y [] []:=by simp[zv]
theorem zv.cons {d:D} {ds:List D} {v:V} {vs:List V} (h:Den mg H Y d v) (h':zv mg H Y ds vs):zv mg H Y (d::ds) (v::vs):=by
 simp only[zv];exact⟨v,vs,rfl,h,h'⟩
theorem zv.one{d:D}{v:V}(h:Den mg H Y d v):zv mg H Y [d] [v]:=.cons h .nil
theorem zv.take:∀{ds:List D}{vs:List V}(n:Nat),zv mg H Y ds vs->zv mg H Y (ds.take n) (vs.take n)
 | ds,vs,0,h=>by simp[zv] | [],vs,n+1,h=>by simp only[zv]at h;subst h;simp[zv] | d::ds,vs,n+1,h=>by
  simp only[zv]at h;obtain⟨v,r,rfl,h1,h2⟩:=h;simp only[List.take_succ_cons];exact .cons h1 (zv.take n h2)
theorem zv.drop:∀{ds:List D}{vs:List V}(n:Nat),zv mg H Y ds vs->zv mg H Y (ds.drop n) (vs.drop n)
 | ds,vs,0,h=>by simpa using h | [],vs,n+1,h=>by simp only[zv]at h;subst h;simp[zv] | d::ds,vs,n+1,h=>by
  simp only[zv]at h;obtain⟨v,r,rfl,h1,h2⟩:=h;simpa using zv.drop n h2
theorem zv.set:∀{ds:List D}{vs:List V}{d:D}{v:V}(n:Nat),zv mg H Y ds vs->Den mg H Y d v->zv mg H Y (ds.set n d) (vs.set n v)
 | [],vs,_,_,n,h,_=>by simp only[zv]at h;subst h;simp[zv] | d::ds,vs,_,_,0,h,h'=>by
  simp only[zv]at h;obtain⟨v,r,rfl,h1,h2⟩:=h;simpa using zv.cons h' h2 | d::ds,vs,_,_,n+1,h,h'=>by
  simp only[zv]at h;obtain⟨v,r,rfl,h1,h2⟩:=h;simpa using zv.cons h1 (zv.set n h2 h')
mutual
theorem Den.flatten(k:∀b o,H b=some o->(∀vs,o≠.lst vs)->(∀kvs,o≠.dT kvs)->H' b=some o):∀{d:D}{v:V},d.flat=true->Den mg H Y d v->Den mg H' Y' d v
 | .non,_,_,h=>by simpa[Den] using h | .bl _,_,_,h=>by simpa[Den] using h | .int _,_,_,h=>by simpa[Den] using h | .str _,_,_,h=>by simpa[Den] using h | .tup ds,v,f,h=>by
  simp only[Den]at h ⊢;obtain⟨a,vs,e,h1,h2⟩:=h;exact⟨a,vs,e,k a _ h1 (by intro vs z;cases z) (by intro vs z;cases z),zv.flatten k (by simpa[D.flat] using f) h2⟩ | .lst ds,v,f,h=>by
  simp only[Den]at h ⊢;obtain⟨a,o,vs,e,h1,h2⟩:=h;exact⟨a,o,vs,e,k a _ h1 (by intro vs z;cases z) (by intro vs z;cases z),zv.flatten k (by simpa[D.flat] using f) h2⟩ | .dct,v,_,h=>by
  simp only[Den]at h ⊢;obtain⟨a,e,h1⟩:=h;exact⟨a,e,k a _ h1 (by intro vs z;cases z) (by intro vs z;cases z)⟩ | .loc l,v,f,h=>by simp[D.flat]at f | .dlo l,v,f,h=>by simp[D.flat]at f | .fn _,_,_,h=>by simpa[Den] using h | .exc x,v,_,h=>by
  simp only[Den]at h ⊢;obtain⟨a,C,e,h1,h2⟩:=h;exact⟨a,C,e,h1,k a _ h2 (by intro vs z;cases z) (by intro vs z;cases z)⟩ | .scr ds,v,f,h=>by
  simp only[Den]at h ⊢;obtain⟨a,vs,e,h1,h2⟩:=h;exact⟨a,vs,e,h1.imp (λ⟨o,h1⟩=>⟨o,k a _ h1 (by intro vs z;cases z) (by intro vs z;cases z)⟩) id,zv.flatten k (by simpa[D.flat] using f) h2⟩
theorem zv.flatten(k:∀b o,H b=some o->(∀vs,o≠.lst vs)->(∀kvs,o≠.dT kvs)->H' b=some o):∀{ds:List D}{vs:List V},D.flat.flats ds=true->zv mg H Y ds vs->zv mg H' Y' ds vs
 | [],_,_,h=>by simpa[zv] using h | d::ds,vs,f,h=>by
  simp only[zv]at h ⊢;simp only[D.flat.flats,_m]at f;obtain⟨v,r,e,h1,h2⟩:=h;exact⟨v,r,e,Den.flatten k f.1 h1,zv.flatten k f.2 h2⟩
end
end
def okR{α β:Type}(mg:Gm)(E:XK)(H:Hp)(Y:List Addr)(Dn:Hp->List Addr->α->β->Prop)(r:R α)(Q:β->Hp->Prop):Prop:=match r with
 | .ok a s'=>∀b H' Y',xr mg H Y H' Y' s'->Dn H' Y' a b->Q b H' | .ex c s'=>∀H' Y' C,xr mg H Y H' Y' s'->mg.m c=some (.ref C)->E (.ref C) none H' | .no=>False
section
variable {α β α2 β2:Type}{mg:Gm}{E:XK}{H H' H1 H2:Hp}{Y Y' Y1 Y2:List Addr}{s s' s1 s2:Sto}{Dn:Hp->List Addr->α->β->Prop}{Dn2:Hp->List Addr->α2->β2->Prop}
theorem okR.rebase{r:R α}{Q:β->Hp->Prop}(h:okR mg E H Y Dn r Q)(stp:xr mg H Y H1 Y1 s1):okR mg E H1 Y1 Dn r Q:=by cases r with
 | ok a s'=>exact λb H' Y' stp'=>h b H' Y' (stp.trans stp') | ex c s'=>exact λH' Y' C stp'=>h H' Y' C (stp.trans stp') | no=>exact h
theorem okR.bind{r:R α}{k:α->Sto->R α2}{Q:β2->Hp->Prop}(h:okR mg E H Y Dn2 (r.bind k) Q): okR mg E H Y Dn r (λb H1=>∃Y1 s1 a,xr mg H Y H1 Y1 s1/\Dn H1 Y1 a b/\okR mg E H1 Y1 Dn2 (k a s1) Q):=by cases r with
 | ok a s'=>exact λb H' Y' stp dn=>⟨Y',s',a,stp,dn,okR.rebase h stp⟩ | ex c s'=>exact h | no=>exact h
theorem okR.imp{r:R α}{Q Q':β->Hp->Prop}(h:okR mg E H Y Dn r Q)(i:∀b H',Q b H'->Q' b H'):okR mg E H Y Dn r Q':=by cases r with
 | ok a s'=>exact λb H' Y' stp dn=>i b H' (h b H' Y' stp dn) | ex c s'=>exact h | no=>exact h
theorem okR.here{a:α}{Q:β->Hp->Prop}{b:β}(h:okR mg E H Y Dn (.ok a s) Q)(r:Rep mg H Y s)(d:Dn H Y a b):Q b H:=h b H Y (.refl r) d
end
structure wS(mg:Gm)(H:Hp)(Y:List Addr)(Z:Ev)(O:L2.St):Prop where
 len:Z.length=O.length
 at_:∀(i:Nat)(d:D),Z[i]? = some (some d)->∃v,O[i]? = some (some v)/\Den mg H Y d v
theorem wS.mono{mg:Gm}{H H':Hp}{Y Y':List Addr}{s':Sto}{Z:Ev}{O:L2.St}(e:wS mg H Y Z O)(stp:xr mg H Y H' Y' s'):wS mg H' Y' Z O:= ⟨e.len,λi d h=>let ⟨v,h1,h2⟩:=e.at_ i d h;⟨v,h1,h2.mono stp⟩⟩
theorem wS.set{mg:Gm}{H:Hp}{Y:List Addr}{Z:Ev}{O:L2.St}{d:D}{v:V}(e:wS mg H Y Z O)(h:Den mg H Y d v)(i:Nat):wS mg H Y (Z.set i (some d)) (O.set i (some v)):=by
 refine⟨by simp[e.len],λj d' hj=>?_⟩;by_cases hij:i=j
 ·subst hij;have hi:i<Z.length:=by
   have:=(_b.mp hj).1;simpa using this
  rw[_v hi]at hj;cases hj;exact⟨v,by rw[_v (by rw[<- e.len];exact hi)],h⟩
 ·rw[_f hij]at hj ⊢;exact e.at_ j d' hj
abbrev FE:=Ev->Sto->R D
abbrev FT:=Ev->Sto->R Bool
abbrev FA:=Ev->Sto->R (List D)
inductive Fl where | nx (Z:Ev) | rt (d:D) | bk (Z:Ev) | ct (Z:Ev)
inductive FlV where | nx (O:L2.St) | rt (v:V) | bk (O:L2.St) | ct (O:L2.St)
abbrev FS:=Ev->Sto->R Fl
def FlD(mg:Gm)(H:Hp)(Y:List Addr):Fl->FlV->Prop
 | .nx Z,.nx O=>wS mg H Y Z O | .rt d,.rt v=>Den mg H Y d v | .bk Z,.bk O=>wS mg H Y Z O | .ct Z,.ct O=>wS mg H Y Z O | _,_=>False
def z0H(D:z8b):FlV->Hp->Prop
 | .nx O,H=>D.nx O H | .rt v,H=>D.rt v H | .bk O,H=>D.bk O H | .ct O,H=>D.ct O H
def bD(_:Hp)(_:List Addr)(a b:Bool):Prop:=a=b
def tE(mg:Gm)(E:XK)(f:FE):TE:=λO H Q=>∃Y Z s,Rep mg H Y s/\wS mg H Y Z O/\okR mg E H Y (Den mg) (f Z s) Q
def tT(mg:Gm)(E:XK)(f:FT):TT:=λO H Q=>∃Y Z s,Rep mg H Y s/\wS mg H Y Z O/\okR mg E H Y bD (f Z s) Q
def tA(mg:Gm)(E:XK)(f:FA):TA:=λO H Q=>∃Y Z s,Rep mg H Y s/\wS mg H Y Z O/\okR mg E H Y (zv mg) (f Z s) Q
def tS(mg:Gm)(E:XK)(f:FS):TS:=λD O H=>∃Y Z s,Rep mg H Y s/\wS mg H Y Z O/\okR mg E H Y (FlD mg) (f Z s) (z0H D)
def RE(X:Cx)(E:XK)(e:Expr)(f:FE):Prop:=PE X e (tE (gm X) E f)
def RT(X:Cx)(E:XK)(e:Expr)(f:FT):Prop:=PT X e (tT (gm X) E f)
def RA(X:Cx)(E:XK)(es:List Expr)(f:FA):Prop:=PA X es (tA (gm X) E f)
def RS(X:Cx)(E:XK)(st:Stmt)(f:FS):Prop:=PS X st (tS (gm X) E f)
def RSs(X:Cx)(E:XK)(st:List Stmt)(f:FS):Prop:=PSs X st (tS (gm X) E f)
section
variable {X:Cx}{E:XK}{e a b c:Expr}{es:List Expr}{pos:Pos}
theorem ye{t t':TE}(h:PE X e t)(i:∀O H Q,t' O H Q->t O H Q):PE X e t':=λpins s O H Q I q=>h pins s O H Q I (i O H Q q)
theorem z5n{t t':TT}(h:PT X e t)(i:∀O H Q,t' O H Q->t O H Q):PT X e t':=λpins s O H Q I q=>h pins s O H Q I (i O H Q q)
theorem z77{t t':TA}(h:PA X es t)(i:∀O H Q,t' O H Q->t O H Q):PA X es t':=λpos pins s O H Q I q=>h pos pins s O H Q I (i O H Q q)
theorem vi{st:Stmt}{t t':TS}(h:PS X st t)(i:∀D O H,t' D O H->t D O H):PS X st t':=λpins s O H D I q=>h pins s O H D I (i D O H q)
theorem z53{st:List Stmt}{t t':TS}(h:PSs X st t)(i:∀D O H,t' D O H->t D O H):PSs X st t':=λpins s O H D I q=>h pins s O H D I (i D O H q)
theorem yE{α β:Type}{Dn:Hp->List Addr->α->β->Prop}{mg:Gm}{f:FE}{k:Ev->D->Sto->R α}{O:L2.St}{H:Hp}{Q:β->Hp->Prop}{Y:List Addr}{Z:Ev}{s:Sto}(r:Rep mg H Y s)(en:wS mg H Y Z O) (h:okR mg E H Y Dn ((f Z s).bind (k Z)) Q)(K:V->Hp->Prop) (hK:∀v H1 Y1 s1 d,Rep mg H1 Y1 s1->wS mg H1 Y1 Z O->Den mg H1 Y1 d v->xr mg H Y H1 Y1 s1->okR mg E H1 Y1 Dn (k Z d s1) Q->K v H1):tE mg E f O H K:= ⟨Y,Z,s,r,en,(okR.bind (Dn:=Den mg) h).imp λv H1 ⟨Y1,s1,d,stp,dn,q⟩=>hK v H1 Y1 s1 d stp.rep (en.mono stp) dn stp q⟩
theorem z0E{α β:Type}{Dn:Hp->List Addr->α->β->Prop}{mg:Gm}{f:FT}{k:Ev->Bool->Sto->R α}{O:L2.St}{H:Hp}{Q:β->Hp->Prop}{Y:List Addr}{Z:Ev}{s:Sto}(r:Rep mg H Y s)(en:wS mg H Y Z O) (h:okR mg E H Y Dn ((f Z s).bind (k Z)) Q)(K:Bool->Hp->Prop) (hK:∀v H1 Y1 s1,Rep mg H1 Y1 s1->wS mg H1 Y1 Z O->xr mg H Y H1 Y1 s1->okR mg E H1 Y1 Dn (k Z v s1) Q->K v H1):tT mg E f O H K:= ⟨Y,Z,s,r,en,(okR.bind (Dn:=bD) h).imp λv H1 ⟨Y1,s1,d,stp,dn,q⟩=>hK v H1 Y1 s1 stp.rep (en.mono stp) stp (by cases (show d=v from dn);exact q)⟩
theorem wV{α β:Type}{Dn:Hp->List Addr->α->β->Prop}{mg:Gm}{f:FA}{k:Ev->List D->Sto->R α}{O:L2.St}{H:Hp}{Q:β->Hp->Prop}{Y:List Addr}{Z:Ev}{s:Sto}(r:Rep mg H Y s)(en:wS mg H Y Z O) (h:okR mg E H Y Dn ((f Z s).bind (k Z)) Q)(K:List V->Hp->Prop) (hK:∀v H1 Y1 s1 d,Rep mg H1 Y1 s1->wS mg H1 Y1 Z O->zv mg H1 Y1 d v->xr mg H Y H1 Y1 s1->okR mg E H1 Y1 Dn (k Z d s1) Q->K v H1):tA mg E f O H K:= ⟨Y,Z,s,r,en,(okR.bind (Dn:=zv mg) h).imp λv H1 ⟨Y1,s1,d,stp,dn,q⟩=>hK v H1 Y1 s1 d stp.rep (en.mono stp) dn stp q⟩
def zc(i:Nat):FE:=λZ s=>match Z[i]? with | some (some d)=>.ok d s | _=>.no
theorem zb(i:Nat){x:Str}(hN:X.N[i]? = some x:=by rfl)(hv:Vis X.env.scope x:=by first | exact Or.inl rfl | exact Or.inr (Or.inl rfl) | exact Or.inr (Or.inr rfl))(hd:(x==("__debug__":Str))=false:=by decide) (hcd:(x==("__classdict__":Str))=false:=by decide):RE X E (.Name x pos) (zc i):= ye (z9L hN hv hd hcd) λO H Q ⟨Y,Z,s,r,en,h⟩=>by
  unfold zc at h;split at h
  ·rename_i d hd;obtain⟨v,h1,h2⟩:=en.at_ i d hd;exact⟨v,h1,h.here r h2⟩
  ·exact h.elim
def eC(d:D):FE:=λ_ s=>.ok d s
theorem zq{i:Int}{j:Nat}:RE X E (.Constant (.int i) j pos) (eC (.int i)):=ye zaB λO H Q ⟨Y,Z,s,r,en,h⟩=>okR.here (b:=V.int i) h r (by simp[Den])
theorem z01{i:Bool}{j:Nat}:RE X E (.Constant (.bool i) j pos) (eC (.bl i)):=ye zbB λO H Q ⟨Y,Z,s,r,en,h⟩=>okR.here (b:=V.bl i) h r (by simp[Den])
theorem z8G{j:Nat}:RE X E (.Constant .none j pos) (eC .non):=ye za4 λO H Q ⟨Y,Z,s,r,en,h⟩=>okR.here (b:=V.non) h r (by simp[Den])
theorem zap{i:Str}{j:Nat}:RE X E (.Constant (.str i) j pos) (eC (.str i)):=ye z9Q λO H Q ⟨Y,Z,s,r,en,h⟩=>okR.here (b:=V.str i) h r (by simp[Den])
theorem za5{x:Str}{i:Int}{t:Tok}(hg:Gl X x)(hm:X.mg x=some (.int i t))(hd:(x==("__debug__":Str))=false:=by decide):RE X E (.Name x pos) (eC (.int i)):= ye (z57 hg hm (show xL (.int i) (.int i t) from⟨t,rfl⟩) hd) λO H Q ⟨Y,Z,s,r,en,h⟩=>okR.here (b:=V.int i) h r (by simp[Den])
def OpF(X:Cx)(E:XK)(r:R2)(op:D->D->Sto->R D):Prop:= ∀H Y s d1 d2 v1 v2 (Q:VK),Rep (gm X) H Y s->Den (gm X) H Y d1 v1->Den (gm X) H Y d2 v2->okR (gm X) E H Y (Den (gm X)) (op d1 d2 s) Q->r v1 v2 H Q
def eOp(op:D->D->Sto->R D)(fa fb:FE):FE:=λZ s=>(fa Z s).bind λx s1=>(fb Z s1).bind λy s2=>op x y s2
theorem z3c{r:R2}{op:D->D->Sto->R D}{fa fb:FE}(ho:OpF X E r op){O:L2.St}{H:Hp}{Q:VK}(h:tE (gm X) E (eOp op fa fb) O H Q):tOp r (tE (gm X) E fa) (tE (gm X) E fb) O H Q:=by
 obtain⟨Y,Z,s,r',en,h⟩:=h;refine yE (k:=λZ x s1=>(fb Z s1).bind λy s2=>op x y s2) r' en h _ λv H1 Y1 s1 d r1 en1 dn stp h1=>?_;refine yE (k:=λZ y s2=>op d y s2) r1 en1 h1 _ λv2 H2 Y2 s2 d2 r2 en2 dn2 St2 h2=>?_;exact ho H2 Y2 s2 d d2 v v2 Q r2 (dn.mono St2) dn2 h2
theorem zcO{op:Operator}{r:R2}{fo:D->D->Sto->R D}{fa fb:FE}(ho:OpR X (binaryOp op) r/\OpF X E r fo)(ha:RE X E a fa)(hb:RE X E b fb):RE X E (.BinOp a op b pos) (eOp fo fa fb):= ye (zaS ho.1 ha hb) λO H Q h=>z3c ho.2 h
theorem zaT{op:CmpOp}{r:R2}{fo:D->D->Sto->R D}{fa fb:FE}(ho:OpR X (compareOp op) r/\OpF X E r fo)(ha:RE X E a fa)(hb:RE X E b fb)(hm:behindInMarks op b=false):RE X E (.Compare a [op] [b] pos) (eOp fo fa fb):= ye (z8C ho.1 ha hb hm) λO H Q h=>z3c ho.2 h
end
end Dd
namespace L2
theorem Inv.freeze {X:Cx} {pins:List (Addr×Obj)} {O:L2.St} {H:Hp} {s:Shared} {a:Addr} {u:HO} {o:Obj} (I:Inv X pins O H s) (h:H a=some u) (e:s.heap.get? a=some o) (hu:∀xs,u≠.tup xs) (hf:∀o v,u≠.frz o v) (ht:∀ps,u≠.tbl ps) (ho:∀y,u≠.own y): Inv X pins O (upd H a (.frz o u)) s:=by
 have ne:∀{b:Addr} {v:HO},H b=some v->v≠u->b≠a:=λ{b v} hb hv z=>by subst z;rw[h]at hb;exact hv (_G hb).symm
 have stay:∀b v,xQ X.prog X.w H s.heap b v->xQ X.prog X.w (upd H a (.frz o u)) s.heap b v:=λb v q=> q.stay (λ_ _ _ q=>q) (λc q=>by rw[zC (ne q (λz=>ho b z.symm))];exact q) λc xs q=>by rw[zC (ne q (λz=>hu xs z.symm))];exact q
 have hok:HOk X.prog X.w (upd H a (.frz o u)) s.heap:=λb v q=>by
  by_cases hb:b=a
  ·subst hb;rw[yi]at q;cases q;exact⟨e,stay b u (I.hok b u h)⟩
  ·rw[zC hb]at q;exact stay b v (I.hok b v q)
 exact I.step (h':=s.heap) (g':=s.gens) (d':=s.drawn) (t':=s.toks) (ch:=[]) (λb hb=>absurd hb (by simp)) (λb o _ _ _ e _=>e) (λb o _ _ _ e _=>⟨o.slots,e⟩) (λb v _ _ n=>by rw[zC (λz=>by subst z;rw[h]at n;cases n)];exact n) (λb o _ e=>⟨o,e⟩) (λb xs q=>by rw[zC (ne q (λz=>hu xs z.symm))];exact q) (λb o' v q=>by rw[zC (ne q (λz=>hf o' v z.symm))];exact q) (λb ps q=>⟨#[],by rw[zC (ne q (λz=>ht ps z.symm)),q];simp⟩) (λ_ q=>q) hok I.bare
def z5J(Q:VK):VK:=λv H=>∃a xs,v=.ref a/\H a=some (.lst xs)/\∀o,Q v (upd H a (.frz o (.lst xs)))
theorem EP.freeze{X:Cx}{pins:List (Addr×Obj)}{O:L2.St}{Q:VK}{u:Value}{s:Shared}(h:EP X pins O (z5J Q) u s):EP X pins O Q u s:=by
 obtain⟨v,H',I,r,a,xs,rfl,ha,q⟩:=h;obtain⟨its,n,rv,e,_⟩:=I.lst ha;exact⟨_,_,I.freeze ha e (by intro _ z;cases z) (by intro _ _ z;cases z) (by intro _ z;cases z) (by intro _ z;cases z),r,q _⟩
theorem OpR.freeze{X:Cx}{f:Value->Value->Sem Value}{r:R2}(h:OpR X f r):OpR X f (λx y H Q=>r x y H (z5J Q)):=λpins s O H x y v u Q I rx ry q=>thn (h pins s O H x y v u _ I rx ry q) λ_ _ z=>z.freeze
theorem yM.freeze{X:Cx}{f:Value}{r:List V->Hp->VK->Prop}(h:yM X f r):yM X f (λxs H Q=>r xs H (z5J Q)):=λpins s O H xs us Q I rs q=>thn (h pins s O H xs us _ I rs q) λ_ _ z=>z.freeze
theorem PE.freeze{X:Cx}{e:Expr}{t:TE}(h:PE X e t):PE X e (λO H Q=>t O H (z5J Q)):=λpins s O H Q I q=>thn (h pins s O H _ I q) λ_ _ z=>z.freeze
theorem SlR.freeze{X:Cx}{r:V->Option Int->Option Int->Hp->VK->Prop}(h:SlR X r):SlR X (λx lo hi H Q=>r x lo hi H (z5J Q)):=λpins s O H x v vl vu lo hi sl Q I rx hs pl pu q=>by
 obtain⟨T,id,h1,h2,h3⟩:=h pins s O H x v vl vu lo hi sl _ I rx hs pl pu q;exact⟨T,id,h1,h2,thn h3 λ_ _ z=>z.freeze⟩
section
variable {X:Cx}
theorem z4g:OpR X (binaryOp .Add) (λx y H Q=>∃l b xs zs,x=.ref l/\y=.ref b/\Rd H l (.lst xs)/\Rd H b (.lst zs)/\xs.length+zs.length<=sizeLine/\∀p,H p=none->Q (.ref p) (upd H p (.lst (xs++zs)))):=by
 intro pins s O H x y v u Q I rx ry h;obtain⟨l,b,xs,zs,rfl,rfl,hH,hB,hz,q⟩:=h;cases rx;cases ry;obtain⟨z,its,n,r,e⟩:=hH.ok I.hok;obtain⟨z2,its2,n2,r2,e2⟩:=hB.ok I.hok;have hl:=r.length;have hl2:=r2.length;refine PySem.P.add_list e e2 ?_ (by rw[_j,_j];omega);have ea:its.toArray++its2.toArray=(its++its2).toArray:=by simp
 rw[ea];exact⟨.ref _,_,I.lnew (t':=s.toks) (r.append r2) (by rw[_am];omega),rfl,q _ I.fresh⟩
end
section
variable {X:Cx}
theorem z6r:OpR X (binaryOp .Add) (λx y H Q=>∃a b ys,x=.ref a/\y=.ref b/\SqT X.K H a []/\SqT X.K H b ys/\Q (.ref b) H):=by
 intro pins s O H x y v u Q I rx ry h;obtain⟨a,b,ys,rfl,rfl,ha,hb,q⟩:=h;cases rx;cases ry;obtain⟨its,r1,p1,_⟩:=I.tuple ha;obtain⟨its2,r2,p2,_⟩:=I.tuple hb;cases r1;obtain⟨⟨cls,dd,data,sl⟩,ho,hc,n,hd⟩:=id p1;obtain⟨⟨cls2,dd2,data2,sl2⟩,ho2,hc2,n2,hd2⟩:=id p2;simp only at hc hd hc2 hd2;subst hc hd hc2 hd2;exact concat_meets ⟨_,ho,rfl⟩ ⟨_,ho2,rfl⟩ _bP seq_tuple_add _ba _a9 (_a2 _ _) (tuple_addW0 a b _ _ n n2 dd dd2 sl sl2 (by simp)) ⟨ho,ho2,⟨.ref b,H,I,rfl,q⟩⟩
theorem z8K:SlR X (λx lo hi H Q=>∃a xs,x=.ref a/\SqT X.K H a xs/\(HT.sIx xs.length 0 lo=0/\HT.sIx xs.length xs.length hi=xs.length)/\Q (.ref a) H):=by
 intro pins s O H x v vl vu lo hi sl Q I rx hs pl pu h;obtain⟨a,xs,rfl,hx,hw,q⟩:=h;cases rx;obtain⟨its,r,ht,hz⟩:=I.tuple hx;have hlen:its.toArray.size=xs.length:=by rw[_j];exact r.length.symm
 refine⟨"tuple",_,_P.lookup,ht.typeIs,?_⟩;obtain⟨os,hos,hcs,hds⟩:=id hs;have hTs:s.TypeIs (.ref sl) "slice":=⟨os,hos,hcs⟩;obtain⟨oa,hoa,hca,na,hda⟩:=id ht;unfold getItem;try with_reducible refine _bh ?_
 first | refine _a (_k ?_) | skip
 refine _a (wpAny_sequenceKey ht.typeIs (by decide) ?_);refine _a (_S (name:=Str.ofString "__getitem__") ht.typeIs _P (_an _P ht.typeIs entry_tuple_getitem ?_ (args_tuple_getitem _ _)));show wpAny _ _ (Builtin.Tuple.tupleItemsOf (.ref a) >>= _) _ _ s;refine _a (tupleItemsOf_ ht ?_);refine _a (wpAny_typeOf hTs ?_);rw[_o (by decide)];refine _a (HT.vm hs pl pu ?_);rw[hlen,hw.1,hw.2];show wpAny _ _ (if (((0:Nat):Int)==0&&(1:Int)==1&&(xs.length-0)==xs.length)=true then _ else _) _ _ s;rw[_o (by simp)];have hTa:s.TypeIs (.ref a) "tuple":=ht.typeIs;have fin:EP X pins O Q (.ref a) s:=⟨.ref a,H,I,rfl,q⟩;unfold Builtin.Tuple.tupleIsExact;refine _a (_a (wpAny_typeOf hTa (_k ?_)));rw[_o (by decide)];exact _a (_bA (_k ⟨_,rfl,_k fin⟩))
end
end L2
namespace Dd
open L2
section
variable {mg:Gm}{H H' H1 H2:Hp}{Y Y' Y1 Y2:List Addr}{s s' s1 s2:Sto}
structure Kp(H H':Hp):Prop where
 k:∀b o,H b=some o->(∀vs,o≠.lst vs)->(∀kvs,o≠.dT kvs)->H' b=some o
 l:∀a,IsL H a->IsL H' a
 c:∀a,IsC H a->IsC H' a
mutual
theorem Den.gen(k:Kp H H')(hi:∀(l:Nat) a,Y[l]? = some a->Y'[l]? = some a):∀{d:D}{v:V},Den mg H Y d v->Den mg H' Y' d v
 | .non,_,h=>by simpa[Den] using h | .bl _,_,h=>by simpa[Den] using h | .int _,_,h=>by simpa[Den] using h | .str _,_,h=>by simpa[Den] using h | .tup ds,v,h=>by
  simp only[Den]at h ⊢;obtain⟨a,vs,e,h1,h2⟩:=h;exact⟨a,vs,e,k.k a _ h1 (by intro vs z;cases z) (by intro vs z;cases z),zv.gen k hi h2⟩ | .lst ds,v,h=>by
  simp only[Den]at h ⊢;obtain⟨a,o,vs,e,h1,h2⟩:=h;exact⟨a,o,vs,e,k.k a _ h1 (by intro vs z;cases z) (by intro vs z;cases z),zv.gen k hi h2⟩ | .dct,v,h=>by
  simp only[Den]at h ⊢;obtain⟨a,e,h1⟩:=h;exact⟨a,e,k.k a _ h1 (by intro vs z;cases z) (by intro vs z;cases z)⟩ | .loc l,v,h=>by
  simp only[Den]at h ⊢;obtain⟨a,e,h1,q⟩:=h;exact⟨a,e,hi l a h1,k.l a q⟩ | .dlo l,v,h=>by
  simp only[Den]at h ⊢;obtain⟨a,e,h1,q⟩:=h;exact⟨a,e,hi l a h1,k.c a q⟩ | .fn _,_,h=>by simpa[Den] using h | .exc x,v,h=>by
  simp only[Den]at h ⊢;obtain⟨a,C,e,h1,h2⟩:=h;exact⟨a,C,e,h1,k.k a _ h2 (by intro vs z;cases z) (by intro vs z;cases z)⟩ | .scr ds,v,h=>by
  simp only[Den]at h ⊢;obtain⟨a,vs,e,h1,h2⟩:=h;exact⟨a,vs,e,h1.imp (λ⟨o,h1⟩=>⟨o,k.k a _ h1 (by intro vs z;cases z) (by intro vs z;cases z)⟩) id,zv.gen k hi h2⟩
theorem zv.gen(k:Kp H H')(hi:∀(l:Nat) a,Y[l]? = some a->Y'[l]? = some a):∀{ds:List D}{vs:List V},zv mg H Y ds vs->zv mg H' Y' ds vs
 | [],_,h=>by simpa[zv] using h | d::ds,vs,h=>by
  simp only[zv]at h ⊢;obtain⟨v,r,e,h1,h2⟩:=h;exact⟨v,r,e,Den.gen k hi h1,zv.gen k hi h2⟩
end
theorem vA{p:Addr}{o:HO}(hp:H p=none):∀b u,H b=some u->upd H p o b=some u:=λb u h=>by rw[zC (yj h hp)];exact h
theorem Kp.new{p:Addr}{o:HO}(hp:H p=none):Kp H (upd H p o):=⟨λb u h _ _=>vA hp b u h,λa ⟨vs,e⟩=>⟨vs,vA hp a _ e⟩,λa h=>h.imp (λ⟨vs,e⟩=>⟨vs,vA hp a _ e⟩) λ⟨o,vs,e⟩=>⟨o,vs,vA hp a _ e⟩⟩
theorem Kp.putL{a:Addr}{vs:List V}(h:IsL H a):Kp H (upd H a (.lst vs)):=by
 obtain⟨ws,e⟩:=h;have ne:∀{b u},H b=some u->(∀vs,u≠.lst vs)->b≠a:=λ{b u} q n z=>by subst z;rw[e]at q;exact n ws (_G q).symm
 refine⟨λb o q n1 n2=>by rw[zC (ne q n1)];exact q,λb ⟨us,q⟩=>?_,λb h=>?_⟩
 ·by_cases z:b=a;·subst z;exact⟨vs,yi⟩
  ·exact⟨us,by rw[zC z];exact q⟩
 ·rcases h with⟨us,q⟩ | ⟨o,us,q⟩;·exact .inl ⟨us,by rw[zC (ne q (by intro _ z;cases z))];exact q⟩
  ·exact .inr ⟨o,us,by rw[zC (ne q (by intro _ z;cases z))];exact q⟩
theorem wR.gen{xs:List D}{a:Addr}(k:Kp H H')(hi:∀(l:Nat) a,Y[l]? = some a->Y'[l]? = some a)(e:H' a=H a)(h:wR mg H Y xs a):wR mg H' Y' xs a:=by
 rcases h with⟨vs,h1,h2⟩ | ⟨kvs,h1,h2⟩ | ⟨o,kvs,ys,h1,h2⟩;·exact .inl ⟨vs,e.trans h1,h2.gen k hi⟩
 ·exact .inr (.inl ⟨kvs,e.trans h1,h2⟩)
 ·exact .inr (.inr ⟨o,kvs,ys,e.trans h1,h2⟩)
theorem wR.ne{xs:List D}{a p:Addr}(h:wR mg H Y xs a)(hp:H p=none):a≠p:=by
 rintro rfl;rcases h.kind with⟨_,e⟩ | ⟨_,e⟩ | ⟨_,_,e⟩<;>rw[hp]at e<;>cases e
theorem Rep.notin{p:Addr}(r:Rep mg H Y s)(hp:H p=none):p∉Y:=λz=>by rcases r.mt p z with⟨_,e⟩ | ⟨_,e⟩ | ⟨_,_,e⟩<;>rw[hp]at e<;>cases e
theorem xr.lay{p:Addr}{o:HO}(r:Rep mg H Y s)(hp:H p=none)(ho:∀vs,o≠.lst vs):xr mg H Y (upd H p o) Y s:= ⟨⟨r.len,r.nd,λl xs h=>let ⟨a,h1,h2⟩:=r.cell l xs h;⟨a,h1,h2.gen (.new hp) (λ_ _ q=>q) (zC (h2.ne hp))⟩,r.flat⟩,_bS _,λb u h _=>vA hp b u h,λa h1 h2=>absurd h1 h2,λa ha=>(r.mt a ha).imp (λh=>⟨h,(Kp.new hp).l a h⟩) λh=>⟨h,(Kp.new hp).c a h,λ_ _ e=>vA hp a _ e⟩⟩
theorem xr.layC{p:Addr}{o:HO}{xs:List D}(r:Rep mg H Y s)(hp:H p=none)(hc:wR mg (upd H p o) (Y++[p]) xs p)(hf:D.flat.flats xs=true):xr mg H Y (upd H p o) (Y++[p]) (s++[xs]):=by
 have pn:p∉Y:=r.notin hp;have hi:∀(l:Nat) a,Y[l]? = some a->(Y++[p])[l]? = some a:=λl a h=>by rw[_x (_b.mp h).1];exact h
 refine⟨⟨by simp[r.len],?_,λl ys h=>?_,λys h=>?_⟩,List.prefix_append _ _,λb u h _=>vA hp b u h,λa h1 h2=>?_,λa ha=>(r.mt a ha).imp (λh=>⟨h,(Kp.new hp).l a h⟩) λh=>⟨h,(Kp.new hp).c a h,λ_ _ e=>vA hp a _ e⟩⟩
 ·rw[List.nodup_append];exact⟨r.nd,by simp,λa ha b hb=>by
   have:b=p:=by simpa using hb
   subst this;exact λz=>pn (z ▸ ha)⟩
 ·by_cases hl:l<s.length
  ·rw[_x hl]at h;obtain⟨a,h1,h2⟩:=r.cell l ys h;exact⟨a,hi l a h1,h2.gen (.new hp) hi (zC (h2.ne hp))⟩
  ·have h0:l=s.length:=by
    have:=(_b.mp h).1;simp at this;omega
   subst h0;simp at h;subst h;exact⟨p,by rw[<- r.len];simp,hc⟩
 ·rcases _i.mp h with h | h;·exact r.flat ys h
  ·have:ys=xs:=by simpa using h
   rw[this];exact hf
 ·rcases _i.mp h1 with h | h;·exact absurd h h2
  ·have:a=p:=by simpa using h
   rw[this];exact hp
theorem xr.layL{p:Addr}{xs:List D}{vs:List V}(r:Rep mg H Y s)(hp:H p=none)(hd:zv mg H Y xs vs)(hf:D.flat.flats xs=true):xr mg H Y (upd H p (.lst vs)) (Y++[p]) (s++[xs]):= xr.layC r hp (.inl ⟨vs,yi,hd.gen (.new hp) λl a h=>by rw[_x (_b.mp h).1];exact h⟩) hf
theorem xr.putC{l:Nat}{a:Addr}{o:HO}{xs:List D}(r:Rep mg H Y s)(ha:Y[l]? = some a)(k:Kp H (upd H a o))(hc:wR mg (upd H a o) Y xs a)(hf:D.flat.flats xs=true):xr mg H Y (upd H a o) Y (s.set l xs):=by
 have hai:a∈Y:=_s ha;have hll:l<s.length:=by rw[<- r.len];exact (_b.mp ha).1
 refine⟨⟨by simp[r.len],r.nd,λj ys h=>?_,λys h=>?_⟩,_bS _,λb u h hn=>?_,λa h1 h2=>absurd h1 h2,λb hb=>(r.mt b hb).imp (λh=>⟨h,k.l b h⟩) λh=>⟨h,k.c b h,λ_ _ e=>k.k b _ e (by intro _ z;cases z) (by intro _ z;cases z)⟩⟩
 ·by_cases hj:l=j
  ·subst hj;rw[_v hll]at h;cases h;exact⟨a,ha,hc⟩
  ·rw[_f hj]at h;obtain⟨b,h1,h2⟩:=r.cell j ys h;refine⟨b,h1,h2.gen k (λ_ _ q=>q) (zC ?_)⟩;rintro rfl;have il:l<Y.length:=(_b.mp ha).1;have ij:j<Y.length:=(_b.mp h1).1;exact hj ((_bd r.nd).mp (((_b.mp ha).2).trans ((_b.mp h1).2).symm))
 ·rcases _aY h with h | h;·exact r.flat ys h
  ·rw[h];exact hf
 ·rw[zC (λz=>by subst z;exact hn hai)];exact h
theorem xr.put{l:Nat}{a:Addr}{xs:List D}{vs:List V}(r:Rep mg H Y s)(ha:Y[l]? = some a)(ka:IsL H a)(hd:zv mg H Y xs vs)(hf:D.flat.flats xs=true):xr mg H Y (upd H a (.lst vs)) Y (s.set l xs):= xr.putC r ha (.putL ka) (.inl ⟨vs,yi,hd.gen (.putL ka) λ_ _ q=>q⟩) hf
def listOf(s:Sto):D->Option (List D)
 | .lst xs=>some xs | .loc l=>s[l]? | _=>none
def zI(s:Sto):D->Option (List D)
 | .tup xs=>some xs | .lst xs=>some xs | .scr xs=>some xs | .loc l=>s[l]? | _=>none
theorem zL{d:D}{xs:List D}{v:V}(r:Rep mg H Y s)(h:listOf s d=some xs)(dn:Den mg H Y d v):∃a vs,v=.ref a/\Rd H a (.lst vs)/\zv mg H Y xs vs:=by cases d with
 | lst ys=>
  simp only[listOf,_aa]at h;subst h;simp only[Den]at dn;obtain⟨a,o,vs,e,h1,h2⟩:=dn;exact⟨a,vs,e,.inr ⟨o,h1⟩,h2⟩ | loc l=>
  simp only[Den]at dn;obtain⟨a,e,h1,k⟩:=dn;obtain⟨vs,h3,h4⟩:=r.at_ h h1 k;exact⟨a,vs,e,.inl h3,h4⟩ | _=>simp[listOf]at h
theorem z7i{xs:List D}{v:V}(dn:Den mg H Y (.scr xs) v):∃a vs,v=.ref a/\SqL mg.K H a vs/\zv mg H Y xs vs:=by
 simp only[Den]at dn;obtain⟨a,vs,e,h1,h2⟩:=dn;exact⟨a,vs,e,h1.elim (λ⟨o,h⟩=>.inl (.inr ⟨o,h⟩)) .inr,h2⟩
theorem xT{K:W.Frag}{d:D}{xs:List D}{v:V}(r:Rep mg H Y s)(h:zI s d=some xs)(dn:Den mg H Y d v)(hK:mg.K=K:=by rfl):∃a vs,v=.ref a/\(SqL K H a vs\/SqT K H a vs)/\zv mg H Y xs vs:=by cases d with
 | tup ys=>
  simp only[zI,_aa]at h;subst h;simp only[Den]at dn;obtain⟨a,vs,e,h1,h2⟩:=dn;exact⟨a,vs,e,.inr (.inl (.inl h1)),h2⟩ | lst ys=>
  obtain⟨a,vs,e,h1,h2⟩:=zL (d:=.lst ys) r h dn;exact⟨a,vs,e,.inl (.inl h1),h2⟩ | scr ys=>
  simp only[zI,_aa]at h;subst h;subst hK;obtain⟨a,vs,e,h1,h2⟩:=z7i dn;exact⟨a,vs,e,.inl h1,h2⟩ | loc l=>
  obtain⟨a,vs,e,h1,h2⟩:=zL (d:=.loc l) r h dn;exact⟨a,vs,e,.inl (.inl h1),h2⟩ | _=>simp[zI]at h
theorem vC{K:W.Frag}{xs:List D}{v:V}(dn:Den mg H Y (.tup xs) v):∃a vs,v=.ref a/\SqT K H a vs/\zv mg H Y xs vs:=by
 simp only[Den]at dn;obtain⟨a,vs,e,h1,h2⟩:=dn;exact⟨a,vs,e,.inl (.inl h1),h2⟩
end
def cap:Nat:=100000
theorem vL{n:Nat}(h:n<=cap):n<=sizeLine:=_B h (by decide)
theorem zaw{n:Nat}(h:n<cap):n<sizeLine:=_h h (by decide)
def BIG:Nat:=2 ^ 4096
def yL:D->D->Sto->R D
 | .int i,.int j,s=>.ok (.int (i+j)) s | .tup a,.tup b,s=>if a.length+b.length<=cap then .ok (.tup (a++b)) s else .no | x,y,s=>match listOf s x,listOf s y with
  | some a,some b=>if a.length+b.length<=cap then .ok (.lst (a++b)) s else .no | _,_=>.no
section
variable {X:Cx}{E:XK}
theorem yf{mg:Gm}{H:Hp}{Y:List Addr}{i:Int}{v:V}(h:Den mg H Y (.int i) v):v=.int i:=by simpa[Den] using h
theorem vN{mg:Gm}{H:Hp}{Y:List Addr}{i:Bool}{v:V}(h:Den mg H Y (.bl i) v):v=.bl i:=by simpa[Den] using h
theorem z1Y{mg:Gm}{H:Hp}{Y:List Addr}{i:Str}{v:V}(h:Den mg H Y (.str i) v):v=.str i:=by simpa[Den] using h
theorem yz{mg:Gm}{H:Hp}{Y:List Addr}{i:Int}:Den mg H Y (.int i) (.int i):=by simp[Den]
theorem yY{mg:Gm}{H:Hp}{Y:List Addr}{i:Bool}:Den mg H Y (.bl i) (.bl i):=by simp[Den]
theorem uZ{mg:Gm}{H:Hp}{Y:List Addr}{s:Sto}{xs:List D}{vs:List V}{Q:VK}(r:Rep mg H Y s)(h:okR mg E H Y (Den mg) (.ok (.lst xs) s) Q)(hd:zv mg H Y xs vs):∀p,H p=none->z5J Q (.ref p) (upd H p (.lst vs)):=λp hp=>by
 refine⟨p,vs,rfl,yi,λo=>?_⟩;rw[z7M];have stp:=xr.lay (o:=.frz o (.lst vs)) r hp (by intro _ z;cases z);refine h _ _ _ stp ?_;simp only[Den];exact⟨p,o,vs,rfl,yi,hd.mono stp⟩
theorem jK{mg:Gm}{H:Hp}{Y:List Addr}{s:Sto}{xs:List D}{vs:List V}{Q:VK}(r:Rep mg H Y s)(h:okR mg E H Y (Den mg) (.ok (.tup xs) s) Q)(hd:zv mg H Y xs vs):∀p,H p=none->Q (.ref p) (upd H p (.tup vs)):=λp hp=>by
 have stp:=xr.lay (o:=.tup vs) r hp (by intro _ z;cases z);refine h _ _ _ stp ?_;simp only[Den];exact⟨p,vs,rfl,yi,hd.mono stp⟩
theorem yI:∃r,OpR X (binaryOp .Add) r/\OpF X E r yL:=by
 refine⟨_,z9S.or ((z6r).or ((z7T).or (z4g.freeze))),?_⟩;intro H Y s d1 d2 v1 v2 Q r h1 h2 h;have lists:∀a b,listOf s d1=some a->listOf s d2=some b->okR (gm X) E H Y (Den (gm X)) (if a.length+b.length<=cap then R.ok (D.lst (a++b)) s else .no) Q-> ∃l b xs zs,v1=.ref l/\v2=.ref b/\Rd H l (.lst xs)/\Rd H b (.lst zs)/\xs.length+zs.length<=sizeLine/\∀p,H p=none->z5J Q (.ref p) (upd H p (.lst (xs++zs))):=λa b ha hb hq=>by
  obtain⟨l,vs,e,q1,q2⟩:=zL r ha h1;obtain⟨l',vs',e',q1',q2'⟩:=zL r hb h2;split at hq
  ·rename_i hl;exact⟨l,l',vs,vs',e,e',q1,q1',by rw[q2.length,q2'.length];exact vL hl,uZ r hq (q2.append q2')⟩
  ·exact hq.elim
 unfold yL at h;split at h
 ·rename_i i j;cases yf h1;cases yf h2;exact .inl ⟨i,j,rfl,rfl,h.here r yz⟩
 ·rename_i a b;obtain⟨l,vs,rfl,q1,q2⟩:=vC (K:=X.K) h1;obtain⟨l',vs',rfl,q1',q2'⟩:=vC (K:=X.K) h2;split at h
  ·rename_i hl;cases a with
   | nil=>
    simp only[zv]at q2;subst q2;exact .inr (.inl ⟨l,l',vs',rfl,rfl,q1,q1',h.here r h2⟩) | cons x a=>
    have ne:vs≠[]:=λz=>by have:=q2.length;rw[z]at this;simp at this
    refine .inr (.inr (.inl ⟨l,l',vs,vs',rfl,rfl,q1,q1',ne,by rw[q2.length,q2'.length];exact vL hl,λz=>?_,λz=>jK r h (q2.append q2')⟩));have eb:b=[]:=by
     have:=q2'.length;rw[z]at this;exact List.length_eq_zero_iff.mp this.symm
    subst eb;rw[_bo]at h;exact h.here r h1
  ·exact h.elim
 ·split at h
  ·rename_i a b ha hb;exact .inr (.inr (.inr (lists a b ha hb h)))
  ·exact h.elim
end
def dII(g:Int->Int->R D):D->D->Sto->R D
 | .int i,.int j,s=>match g i j with | .ok d _=>.ok d s | _=>.no
 | _,_,_=>.no
def iOk(d:D):R D:=.ok d []
def z25:D->D->Sto->R D:=dII λi j=>iOk (.int (i-j))
def yP:D->D->Sto->R D:=dII λi j=>if i.natAbs<BIG/\j.natAbs<BIG then iOk (.int (i*j)) else .no
def z4G:D->D->Sto->R D:=dII λi j=>if 0<j/\j.natAbs<BIG then iOk (.int (i / j)) else .no
def z3K:D->D->Sto->R D:=dII λi j=>if 0<j then iOk (.int (i % j)) else .no
def z3L:D->D->Sto->R D:=dII λi j=>if 0<=j/\j<=1000/\i.natAbs<1000 then iOk (.int (i ^ j.toNat)) else .no
def dLt:D->D->Sto->R D:=dII λi j=>iOk (.bl (decide (i<j)))
def dLe:D->D->Sto->R D:=dII λi j=>iOk (.bl (decide (i<=j)))
def dGt:D->D->Sto->R D:=dII λi j=>iOk (.bl (decide (j<i)))
def dGe:D->D->Sto->R D:=dII λi j=>iOk (.bl (decide (j<=i)))
section
variable {X:Cx}{E:XK}
theorem uv{g:Int->Int->R D}{r:R2}(h:∀i j d t H Q,g i j=.ok d t->(∀v,(∀H Y,Den (gm X) H Y d v)->Q v H)->r (.int i) (.int j) H Q):OpF X E r (dII g):=by
 intro H Y s d1 d2 v1 v2 Q rp h1 h2 hq;unfold dII at hq;split at hq
 ·rename_i i j;cases yf h1;cases yf h2;split at hq
  ·rename_i d t e;exact h i j d t H Q e λv hv=>hq.here rp (hv H Y)
  ·exact hq.elim
 ·exact hq.elim
theorem z3P:∃r,OpR X (binaryOp .Sub) r/\OpF X E r z25:=⟨_,z94,uv λi j d t H Q e q=>by
 simp only[iOk,R.ok.injEq]at e;exact⟨i,j,rfl,rfl,q _ (by intro H Y;rw[<- e.1];exact yz)⟩⟩
theorem z36{i:Int}(h:i.natAbs<BIG):Builtin.Int.intBits i<=2 ^ 20:=by
 have q:Builtin.Int.intBits i<=4096:=(PySem.intBits_le_iff (m:=4096)).mpr h;omega
theorem z8E:OpR X (binaryOp .Mult) (rI (λi j=>i.natAbs<BIG/\j.natAbs<BIG) λi j=>.int (i*j)):=opI λ_ _ _ _ _ _ _ hc q=>mul_int q (IntMulOk.of_bits (z36 hc.1) (z36 hc.2))
theorem wQ:∃r,OpR X (binaryOp .Mult) r/\OpF X E r yP:=⟨_,z8E,uv λi j d t H Q e q=>by
 split at e
 ·rename_i hc;simp only[iOk,R.ok.injEq]at e;exact⟨i,j,rfl,rfl,hc,q _ (by intro H Y;rw[<- e.1];exact yz)⟩
 ·cases e⟩
theorem z7Q{j:Int}(h:j.natAbs<BIG):j.natAbs.log2<9000:=by
 by_cases h0:j.natAbs=0;·rw[h0];decide +kernel
 ·have:j.natAbs.log2<4096:=(Nat.log2_lt h0).mpr h;omega
theorem z6B:OpR X (binaryOp .FloorDiv) (rI (λ_ j=>0<j/\j.natAbs<BIG) λi j=>.int (i / j)):=opI λi j _ _ _ _ _ hc q=>by
 refine floordiv_int (by omega) ?_ (.inl (PyProof.noPylong_of_log2 (z7Q hc.2)));rw[Int.fdiv_eq_ediv_of_nonneg _ (by omega)];exact q
theorem za6:∃r,OpR X (binaryOp .FloorDiv) r/\OpF X E r z4G:=⟨_,z6B,uv λi j d t H Q e q=>by
 split at e
 ·rename_i hc;simp only[iOk,R.ok.injEq]at e;exact⟨i,j,rfl,rfl,hc,q _ (by intro H Y;rw[<- e.1];exact yz)⟩
 ·cases e⟩
theorem z3H:∃r,OpR X (binaryOp .Mod) r/\OpF X E r z3K:=⟨_,z9e,uv λi j d t H Q e q=>by
 split at e
 ·rename_i hc;simp only[iOk,R.ok.injEq]at e;exact⟨i,j,rfl,rfl,hc,q _ (by intro H Y;rw[<- e.1];exact yz)⟩
 ·cases e⟩
theorem z6k:∃r,OpR X (binaryOp .Pow) r/\OpF X E r z3L:=⟨_,zak,uv λi j d t H Q e q=>by
 split at e
 ·rename_i hc;simp only[iOk,R.ok.injEq]at e;exact⟨i,j,rfl,rfl,⟨hc.1,by omega,by omega⟩,q _ (by intro H Y;rw[<- e.1];exact yz)⟩
 ·cases e⟩
theorem zda:∃r,OpR X (compareOp .Lt) r/\OpF X E r dLt:=⟨_,zbQ,uv λi j d t H Q e q=>by
 simp only[iOk,R.ok.injEq]at e;exact⟨i,j,rfl,rfl,q _ (by intro H Y;rw[<- e.1];exact yY)⟩⟩
theorem zaY:∃r,OpR X (compareOp .LtE) r/\OpF X E r dLe:=⟨_,zaU,uv λi j d t H Q e q=>by
 simp only[iOk,R.ok.injEq]at e;exact⟨i,j,rfl,rfl,q _ (by intro H Y;rw[<- e.1];exact yY)⟩⟩
theorem zde:∃r,OpR X (compareOp .Gt) r/\OpF X E r dGt:=⟨_,zbm,uv λi j d t H Q e q=>by
 simp only[iOk,R.ok.injEq]at e;exact⟨i,j,rfl,rfl,q _ (by intro H Y;rw[<- e.1];exact yY)⟩⟩
theorem zcm:∃r,OpR X (compareOp .GtE) r/\OpF X E r dGe:=⟨_,zbs,uv λi j d t H Q e q=>by
 simp only[iOk,R.ok.injEq]at e;exact⟨i,j,rfl,rfl,q _ (by intro H Y;rw[<- e.1];exact yY)⟩⟩
end
mutual
def zS:D->PyData
 | .non=>.none | .bl b=>.bool b | .int i=>.int i | .str x=>.str x | .tup xs=>.tuple (toPys xs) | .lst xs=>.list (toPys xs) | _=>.dict []
def toPys:List D->List PyData
 | []=>[] | d::ds=>zS d::toPys ds
end
def eqD(a b:D):Bool:=PyData.eqv (zS a) (zS b)
def uS(d:D):Bool:=SeqAt.shaped (zS d)
def dEq(x y:D)(s:Sto):R D:=if uS x=true/\uS y=true then .ok (.bl (eqD x y)) s else .no
def dNe(x y:D)(s:Sto):R D:=if uS x=true/\uS y=true then .ok (.bl (!eqD x y)) s else .no
section
variable {P:Program}{w:World}{mg:Gm}{H:Hp}{Y:List Addr}{h:Heap}
mutual
theorem Den.reads(ok:HOk P w H h):∀{d:D}{v:V}{u:Value},PyData.canLay0 (zS d)=true->Den mg H Y d v->xL v u->∃as,Reads h u (zS d) as
 | .non,_,_,_,dn,r=>by simp only[Den]at dn;subst dn;cases r;exact⟨_,by simpa[zS] using Reads.none⟩ | .bl b,_,_,_,dn,r=>by simp only[Den]at dn;subst dn;cases r;exact⟨_,by simpa[zS] using Reads.bool b⟩ | .int i,_,_,_,dn,r=>by simp only[Den]at dn;subst dn;obtain⟨t,rfl⟩:=r;exact⟨_,by simpa[zS] using Reads.int i t⟩ | .str x,_,_,_,dn,r=>by simp only[Den]at dn;subst dn;obtain⟨t,rfl⟩:=r;exact⟨_,by simpa[zS] using Reads.str x t⟩ | .tup ds,_,_,c,dn,r=>by
  simp only[Den]at dn;obtain⟨a,vs,rfl,h1,h2⟩:=dn;cases r;obtain⟨_,its,rv,o,e,hc,_,n,hd⟩:=ok a _ h1;obtain⟨as,q⟩:=zv.reads ok (by simpa[zS,PyData.canLay0] using c) h2 rv;rw[zS];exact⟨as,Reads.tuple e hc hd (by simpa using q)⟩ | .lst ds,_,_,c,dn,r=>by
  simp only[Den]at dn;obtain⟨a,o,vs,rfl,h1,h2⟩:=dn;cases r;obtain⟨_,_,its,n,rv,e⟩:=ok a _ h1;obtain⟨as,q⟩:=zv.reads ok (by simpa[zS,PyData.canLay0] using c) h2 rv;rw[zS];exact⟨_,Reads.list e rfl rfl (by simpa using q)⟩ | .dct,_,_,c,_,_=>by simp[zS,PyData.canLay0]at c | .loc _,_,_,c,_,_=>by simp[zS,PyData.canLay0]at c | .fn _,_,_,c,_,_=>by simp[zS,PyData.canLay0]at c | .exc _,_,_,c,_,_=>by simp[zS,PyData.canLay0]at c
theorem zv.reads(ok:HOk P w H h):∀{ds:List D}{vs:List V}{us:List Value},PyData.canLayAll0 (toPys ds)=true->zv mg H Y ds vs->yC vs us->∃as,ReadsAll h us (toPys ds) as
 | [],_,_,_,dn,r=>by simp only[zv]at dn;subst dn;cases r;exact⟨_,by simpa[toPys] using ReadsAll.nil⟩ | d::ds,_,_,c,dn,r=>by
  simp only[zv]at dn;obtain⟨v,vs,rfl,h1,h2⟩:=dn;simp only[toPys,PyData.canLayAll0,_m]at c;cases r with | cons r1 r2=>
   obtain⟨as,q⟩:=Den.reads ok c.1 h1 r1;obtain⟨bs,q'⟩:=zv.reads ok c.2 h2 r2;rw[toPys];exact⟨_,ReadsAll.cons q q'⟩
end
end
section
variable {X:Cx}{E:XK}
def zci(mg:Gm)(neg:Bool):R2:=λx y H Q=>∃Y d1 d2,Den mg H Y d1 x/\Den mg H Y d2 y/\uS d1=true/\uS d2=true/\Q (.bl (if neg then !eqD d1 d2 else eqD d1 d2)) H
theorem za7(hu:X.A.units+64<cLine):OpR X (compareOp .Eq) (zci (gm X) false):=by
 intro pins s O H x y v u Q I rx ry ⟨Y,d1,d2,h1,h2,p1,p2,q⟩;obtain⟨as,ra⟩:=Den.reads I.hok (_W p1) h1 rx;obtain⟨bs,rb⟩:=Den.reads I.hok (_W p2) h2 ry;exact SeqAt.compareEq_shaped ra rb p1 p2 hu ⟨.bl (eqD d1 d2),H,I,rfl,q⟩
theorem zaF(hu:X.A.units+64<cLine):OpR X (compareOp .NotEq) (zci (gm X) true):=by
 intro pins s O H x y v u Q I rx ry ⟨Y,d1,d2,h1,h2,p1,p2,q⟩;obtain⟨as,ra⟩:=Den.reads I.hok (_W p1) h1 rx;obtain⟨bs,rb⟩:=Den.reads I.hok (_W p2) h2 ry;exact SeqAt.compareNe_shaped ra rb p1 p2 hu ⟨.bl (!eqD d1 d2),H,I,rfl,q⟩
theorem z5G(hu:X.A.units+64<cLine):∃r,OpR X (compareOp .Eq) r/\OpF X E r dEq:=⟨_,za7 hu,λH Y s d1 d2 v1 v2 Q r h1 h2 h=>by
 unfold dEq at h;split at h
 ·rename_i hc;exact⟨Y,d1,d2,h1,h2,hc.1,hc.2,h.here r yY⟩
 ·exact h.elim⟩
theorem z8S(hu:X.A.units+64<cLine):∃r,OpR X (compareOp .NotEq) r/\OpF X E r dNe:=⟨_,zaF hu,λH Y s d1 d2 v1 v2 Q r h1 h2 h=>by
 unfold dNe at h;split at h
 ·rename_i hc;exact⟨Y,d1,d2,h1,h2,hc.1,hc.2,h.here r yY⟩
 ·exact h.elim⟩
def z9F:D->Option V
 | .non=>some .non | .bl b=>some (.bl b) | .int i=>some (.int i) | .str x=>some (.str x) | _=>none
def z8h:List D->Option (List V)
 | []=>some [] | d::ds=>match z9F d,z8h ds with | some v,some vs=>some (v::vs) | _,_=>none
def dIs:D->D->Sto->R D
 | .bl a,.bl b,s=>.ok (.bl (a==b)) s | .non,.non,s=>.ok (.bl true) s | .bl _,.non,s=>.ok (.bl false) s | .int _,.non,s=>.ok (.bl false) s | .str _,.non,s=>.ok (.bl false) s | .tup _,.non,s=>.ok (.bl false) s | .lst _,.non,s=>.ok (.bl false) s | _,_,_=>.no
def dIx(x y:D)(s:Sto):R D:=match y,zI s x with
 | .int i,some xs=>match atI xs i with | some d=>.ok d s | none=>.no
 | _,_=>.no
theorem z62{mg:Gm}{H:Hp}{Y:List Addr}{xs:List D}{vs:List V}{i:Int}{d:D}(h:zv mg H Y xs vs)(e:atI xs i=some d):∃v,atI vs i=some v/\Den mg H Y d v:=by
 unfold atI at e ⊢;rw[h.length];cases q:ixN xs.length i with
 | none=>rw[q]at e;cases e | some j=>
  rw[q]at e;exact h.get e
theorem zdc:∃r,IxR X r/\OpF X E r dIx:=⟨_,z7Z.or za1,λH Y s d1 d2 v1 v2 Q r h1 h2 h=>by
 unfold dIx at h;split at h
 ·rename_i i xs e;split at h
  ·rename_i d e2;cases yf h2;obtain⟨a,vs,rfl,q1,q2⟩:=xT (K:=X.K) r e h1;obtain⟨v,e3,e4⟩:=z62 q2 e2;rcases q1 with q1 | q1;·exact .inl ⟨a,vs,i,v,rfl,rfl,q1,e3,h.here r e4⟩
   ·exact .inr ⟨a,vs,i,v,rfl,rfl,q1,e3,h.here r e4⟩
  ·exact h.elim
 ·exact h.elim⟩
end
section
variable {X:Cx}{E:XK}{e a b c:Expr}{es:List Expr}{pos:Pos}
theorem zE{op:Operator}{fo:D->D->Sto->R D}{fa fb:FE}(ho:∃r,OpR X (binaryOp op) r/\OpF X E r fo)(ha:RE X E a fa)(hb:RE X E b fb):RE X E (.BinOp a op b pos) (eOp fo fa fb):=let ⟨_,h⟩:=ho;zcO h ha hb
theorem vj{op:CmpOp}{fo:D->D->Sto->R D}{fa fb:FE}(ho:∃r,OpR X (compareOp op) r/\OpF X E r fo)(ha:RE X E a fa)(hb:RE X E b fb)(hm:behindInMarks op b=false:=by first | exact z7r _ | rfl):RE X E (.Compare a [op] [b] pos) (eOp fo fa fb):=let ⟨_,h⟩:=ho;zaT h ha hb hm
def tOf(f:FE):FT:=λZ s=>(f Z s).bind λd s1=>match d with | .bl k=>.ok k s1 | _=>.no
theorem z2F{f:FE}{O:L2.St}{H:Hp}{Q:Bool->Hp->Prop}(h:tT (gm X) E (tOf f) O H Q):z9N (tE (gm X) E f) O H Q:=by
 obtain⟨Y,Z,s,r,en,h⟩:=h;refine yE (k:=λZ d s1=>match d with | .bl k=>.ok k s1 | _=>.no) r en h _ λv H1 Y1 s1 d r1 en1 dn stp h1=>?_;cases d with
 | bl k=>
  cases vN dn;exact⟨k,rfl,h1.here (b:=k) r1 rfl⟩ | _=>exact h1.elim
theorem xi{op:CmpOp}{fo:D->D->Sto->R D}{fa fb:FE}(ho:∃r,OpR X (compareOp op) r/\OpF X E r fo)(ha:RE X E a fa)(hb:RE X E b fb)(hm:behindInMarks op b=false:=by first | exact z7r _ | rfl):RT X E (.Compare a [op] [b] pos) (tOf (eOp fo fa fb)):=by
 obtain⟨r,h1,h2⟩:=ho;exact z5n (z7U h1 ha hb hm) λO H Q h=>by
  have q:=z2F h;exact z3c h2 q
def z3k(fo fo':D->D->Sto->R D)(fa fb fc:FE):FE:=λZ s=>(fa Z s).bind λx s1=>(fb Z s1).bind λy s2=>(fo x y s2).bind λz s3=>match z with
 | .bl true=>(fc Z s3).bind λw s4=>fo' y w s4 | .bl false=>.ok (.bl false) s3 | _=>.no
theorem z4U{r r':R2}{fo fo':D->D->Sto->R D}{fa fb fc:FE}(ho:OpF X E r fo)(ho':OpF X E r' fo'){O:L2.St}{H:Hp}{Q:VK}(h:tE (gm X) E (z3k fo fo' fa fb fc) O H Q):z73 r r' (tE (gm X) E fa) (tE (gm X) E fb) (tE (gm X) E fc) O H Q:=by
 obtain⟨Y,Z,s,rp,en,h⟩:=h;refine yE (k:=λZ x s1=>(fb Z s1).bind λy s2=>(fo x y s2).bind λz s3=>match z with
  | .bl true=>(fc Z s3).bind λw s4=>fo' y w s4 | .bl false=>.ok (.bl false) s3 | _=>.no) rp en h _ λv H1 Y1 s1 d r1 en1 dn stp h1=>?_;refine yE (k:=λZ y s2=>(fo d y s2).bind λz s3=>match z with
  | .bl true=>(fc Z s3).bind λw s4=>fo' y w s4 | .bl false=>.ok (.bl false) s3 | _=>.no) r1 en1 h1 _ λv2 H2 Y2 s2 d2 r2 en2 dn2 stp2 h2=>?_;refine ho H2 Y2 s2 d d2 v v2 _ r2 (dn.mono stp2) dn2 ((okR.bind (Dn:=Den (gm X)) h2).imp λv3 H3 ⟨Y3,s3,d3,stp3,dn3,h3⟩=>?_);cases d3 with
 | bl k=>
  cases vN dn3;refine⟨k,rfl,?_⟩;cases k with
  | true=>
   rw[_o rfl];refine yE (k:=λZ w s4=>fo' d2 w s4) stp3.rep (en2.mono stp3) h3 _ λv4 H4 Y4 s4 d4 r4 en4 dn4 stp4 h4=>?_;exact ho' H4 Y4 s4 d2 d4 v2 v4 Q r4 ((dn2.mono stp3).mono stp4) dn4 h4 | false=>
   rw[_I (by decide)];exact okR.here (b:=V.bl false) h3 stp3.rep yY
 | _=>exact h3.elim
theorem z8d{op op':CmpOp}{fo fo':D->D->Sto->R D}{fa fb fc:FE}(ho:∃r,OpR X (compareOp op) r/\OpF X E r fo)(ho':∃r,OpR X (compareOp op') r/\OpF X E r fo')(ha:RE X E a fa)(hb:RE X E b fb)(hc:RE X E c fc) (hm:lastMarks [op,op'] [b,c]=false:=by with_unfolding_all rfl):RE X E (.Compare a [op,op'] [b,c] pos) (z3k fo fo' fa fb fc):=by
 obtain⟨r,h1,h2⟩:=ho;obtain⟨r',h1',h2'⟩:=ho';exact ye (z6p h1 h1' ha hb hc hm) λO H Q h=>z4U h2 h2' h
def z4F(fa fb:FE):FE:=λZ s=>(fa Z s).bind λx s1=>match x with | .bl true=>fb Z s1 | .bl false=>.ok (.bl false) s1 | _=>.no
def zbZ(fa:FE):FE:=λZ s=>(fa Z s).bind λx s1=>match x with | .bl k=>.ok (.bl (!k)) s1 | _=>.no
variable {z3q:List Expr}
theorem z3N{op:BoolOp}{f:FE}(h:RE X E a f):RE X E (.BoolOp op [a] pos) f:=z9C h
theorem z40{fa fb:FE}(ha:RE X E a fa)(hb:RE X E (.BoolOp .And (b::z3q) pos) fb):RE X E (.BoolOp .And (a::b::z3q) pos) (z4F fa fb):= ye (z8Z ha hb) λO H Q ⟨Y,Z,s,r,en,h⟩=>by
  refine yE (k:=λZ x s1=>match x with | .bl true=>fb Z s1 | .bl false=>.ok (.bl false) s1 | _=>.no) r en h _ λv H1 Y1 s1 d r1 en1 dn stp h1=>?_;cases d with
  | bl k=>
   cases vN dn;refine⟨k,rfl,?_⟩;cases k with
   | true=>rw[_o rfl];exact⟨Y1,Z,s1,r1,en1,h1⟩ | false=>rw[_I (by decide)];exact okR.here (b:=V.bl false) h1 r1 yY
  | _=>exact h1.elim
theorem zbi{fa:FE}(ha:RE X E a fa):RE X E (.UnaryOp .Not a pos) (zbZ fa):= ye (zan ha) λO H Q ⟨Y,Z,s,r,en,h⟩=>by
  refine yE (k:=λZ x s1=>match x with | .bl k=>R.ok (D.bl (!k)) s1 | _=>.no) r en h _ λv H1 Y1 s1 d r1 en1 dn stp h1=>?_;cases d with
  | bl k=>
   cases vN dn;exact⟨k,rfl,okR.here (b:=V.bl (!k)) h1 r1 yY⟩ | _=>exact h1.elim
def fOr(fa fb:FT):FT:=λZ s=>(fa Z s).bind λx s1=>if x=true then .ok true s1 else fb Z s1
def kW(fa:FT):FT:=λZ s=>(fa Z s).bind λx s1=>.ok (!x) s1
def RW(X:Cx)(E:XK)(e:Expr)(f:FT):Prop:=PW X e (tT (gm X) E f)
theorem RW.rt{f:FT}(h:RW X E e f):RT X E e f:=PW.pt h
theorem z9J{t t':TT}(h:PW X e t)(i:∀O H Q,t' O H Q->t O H Q):PW X e t':=λwh pins s O H Q I q=>h wh pins s O H Q I (i O H Q q)
theorem kB{f:FT}(h:RT X E a f):RW X E (.BoolOp .Or [a] pos) f:=z9O h
theorem z5o{fa fb:FT}(ha:RT X E a fa)(hb:RW X E (.BoolOp .Or (b::z3q) pos) fb):RW X E (.BoolOp .Or (a::b::z3q) pos) (fOr fa fb):= z9J (zbC ha hb) λO H Q ⟨Y,Z,s,r,en,h⟩=>by
  refine z0E (k:=λZ x s1=>if x=true then .ok true s1 else fb Z s1) r en h _ λv H1 Y1 s1 r1 en1 stp h1=>?_;cases v with
  | false=>rw[_I (by decide)]at h1 ⊢;exact⟨Y1,Z,s1,r1,en1,h1⟩ | true=>rw[_o rfl]at h1 ⊢;exact h1.here r1 rfl
theorem uN{fa:FT}(ha:RT X E a fa):RT X E (.UnaryOp .Not a pos) (kW fa):= z5n (z9m ha) λO H Q ⟨Y,Z,s,r,en,h⟩=>z0E (k:=λZ x s1=>.ok (!x) s1) r en h _ λv H1 Y1 s1 r1 en1 stp h1=>h1.here r1 rfl
theorem uI{f:FE}(h:RE X E a f)(he:∀whole,isTrue a X.env whole=(do let v <- whole;standAt a.pos;holding [v] (truthy v)):=by intro _;rfl):RT X E a (tOf f):= z5n (zag h he) λO H Q h=>z2F h
def eIf(ft:FT)(fa fb:FE):FE:=λZ s=>(ft Z s).bind λx s1=>if x=true then fa Z s1 else fb Z s1
theorem zc7{ft:FT}{fa fb:FE}(hc:RT X E c ft)(ha:RE X E a fa)(hb:RE X E b fb):RE X E (.IfExp c a b pos) (eIf ft fa fb):= ye (z6a hc ha hb) λO H Q ⟨Y,Z,s,r,en,h⟩=>z0E (k:=λZ x s1=>if x=true then fa Z s1 else fb Z s1) r en h _ λv H1 Y1 s1 r1 en1 stp h1=>by cases v with
  | true=>rw[_o rfl]at h1 ⊢;exact⟨Y1,Z,s1,r1,en1,h1⟩ | false=>rw[_I (by decide)]at h1 ⊢;exact⟨Y1,Z,s1,r1,en1,h1⟩
theorem z2C {fa fb:FE} (ha:RE X E a fa) (hb:RE X E b fb) (hs:z50 b:=by intro _ _;rfl):RE X E (.Subscript a b pos) (eOp dIx fa fb):=by
 obtain⟨r,h1,h2⟩:=zdc (X:=X) (E:=E);exact ye (zbo h1 ha hb hs) λO H Q h=>z3c h2 h
def zg:FA:=λ_ s=>.ok [] s
def za(fa:FE)(fr:FA):FA:=λZ s=>(fa Z s).bind λx s1=>(fr Z s1).bind λxs s2=>.ok (x::xs) s2
theorem zf:RA X E [] zg:=z77 z32 λO H Q ⟨Y,Z,s,r,en,h⟩=>h.here r zv.nil
theorem xG{fa:FE}{fr:FA}(ha:RE X E e fa)(hr:RA X E es fr)(hs:starEach (e::es) X.env=(false,eval e X.env)::starEach es X.env:=by rfl):RA X E (e::es) (za fa fr):= z77 (jM ha hr hs) λO H Q ⟨Y,Z,s,r,en,h⟩=>by
  refine yE (k:=λZ x s1=>(fr Z s1).bind λxs s2=>.ok (x::xs) s2) r en h _ λv H1 Y1 s1 d r1 en1 dn stp h1=>?_;refine wV (k:=λZ xs s2=>.ok (d::xs) s2) r1 en1 h1 _ λvs H2 Y2 s2 ds r2 en2 dn2 stp2 h2=>?_;exact h2.here r2 (zv.cons (dn.mono stp2) dn2)
def wq(f:FA):FE:=λZ s=>(f Z s).bind λxs s1=>if xs.length<=cap then .ok (.tup xs) s1 else .no
theorem ww{f:FA}{x1:Nat}(h:RA X E es f):RE X E (.Tuple es x1 pos) (wq f):= ye (z9l h) λO H Q ⟨Y,Z,s,r,en,h⟩=>by
  refine wV (k:=λZ xs s1=>if xs.length<=cap then R.ok (D.tup xs) s1 else .no) r en h _ λvs H2 Y2 s2 ds r2 en2 dn2 stp2 h2=>?_;split at h2
  ·rename_i hl;exact⟨by rw[dn2.length];exact vL hl,jK r2 h2 dn2⟩
  ·exact h2.elim
def wz(f:FA):FE:=λZ s=>(f Z s).bind λxs s1=>if xs.length<=cap then .ok (.lst xs) s1 else .no
theorem vq{f:FA}(h:RA X E es f):RE X E (.List es pos) (wz f):= ye (z7s h).freeze λO H Q ⟨Y,Z,s,r,en,h⟩=>by
  refine wV (k:=λZ xs s1=>if xs.length<=cap then R.ok (D.lst xs) s1 else .no) r en h _ λvs H2 Y2 s2 ds r2 en2 dn2 stp2 h2=>?_;split at h2
  ·rename_i hl;exact⟨by rw[dn2.length];exact vL hl,uZ r2 h2 dn2⟩
  ·exact h2.elim
def z8f(f:FA):FE:=λZ s=>(f Z s).bind λxs s1=>if xs.length<=cap/\D.flat.flats xs=true then .ok (.loc s1.length) (s1++[xs]) else .no
theorem z2H{mg:Gm}{H:Hp}{Y:List Addr}{s:Sto}{xs:List D}{vs:List V}{Q:VK}(r:Rep mg H Y s)(h:okR mg E H Y (Den mg) (.ok (.loc s.length) (s++[xs])) Q)(hf:D.flat.flats xs=true)(hd:zv mg H Y xs vs):∀p,H p=none->Q (.ref p) (upd H p (.lst vs)):=λp hp=>by
 refine h _ _ _ (xr.layL r hp hd hf) ?_;simp only[Den];exact⟨p,rfl,by rw[<- r.len];simp,vs,yi⟩
theorem z5k{f:FA}(h:RA X E es f):RE X E (.List es pos) (z8f f):= ye (z7s h) λO H Q ⟨Y,Z,s,r,en,h⟩=>by
  refine wV (k:=λZ xs s1=>if xs.length<=cap/\D.flat.flats xs=true then R.ok (D.loc s1.length) (s1++[xs]) else .no) r en h _ λvs H2 Y2 s2 ds r2 en2 dn2 stp2 h2=>?_;split at h2
  ·rename_i hl;exact⟨by rw[dn2.length];exact vL hl.1,z2H r2 h2 hl.2 dn2⟩
  ·exact h2.elim
def vZ(X:Cx)(E:XK)(r:List V->Hp->VK->Prop)(g:List D->Sto->R D):Prop:= ∀H Y s ds vs (Q:VK),Rep (gm X) H Y s->zv (gm X) H Y ds vs->okR (gm X) E H Y (Den (gm X)) (g ds s) Q->r vs H Q
def zd(g:List D->Sto->R D)(f:FA):FE:=λZ s=>(f Z s).bind λxs s1=>g xs s1
theorem zV {x:Str} {p:Pos} {id:String} {g:List D->Sto->R D} {f:FA} (hc:∃r,yM X (.builtin id) r/\vZ X E r g) (hg:Gl X x) (hm:X.mg x=none) (hv:bootBuiltins x=some (.builtin id)) (ha:RA X E (e::es) f) (hn:x≠"__name__":=by decide) (hdb:(x==("__debug__":Str))=false:=by decide) (he:starEach (e::es) X.env=(false,eval e X.env)::starEach es X.env:=by rfl) (hpl:(backTo pos (starEach es X.env)).any (·.1)=false:=by rfl):RE X E (.Call (.Name x p) (e::es) [] pos) (zd g f):=by
 obtain⟨r,h1,h2⟩:=hc;exact ye (z3f h1 hg hm hv ha hn hdb he hpl) λO H Q ⟨Y,Z,s,r,en,h⟩=> wV (k:=λZ xs s1=>g xs s1) r en h _ λvs H2 Y2 s2 ds r2 en2 dn2 stp2 h3=>h2 H2 Y2 s2 ds vs Q r2 dn2 h3
theorem zZ {x:Str} {p:Pos} {T:String} {g:List D->Sto->R D} {f:FA} (hc:∃r,yM X (.type T) r/\vZ X E r g) (hg:Gl X x) (hm:X.mg x=none) (hv:bootBuiltins x=some (.type T)) (ha:RA X E (e::es) f) (hn:x≠"__name__":=by decide) (hdb:(x==("__debug__":Str))=false:=by decide) (he:starEach (e::es) X.env=(false,eval e X.env)::starEach es X.env:=by rfl) (hpl:(backTo pos (starEach es X.env)).any (·.1)=false:=by rfl):RE X E (.Call (.Name x p) (e::es) [] pos) (zd g f):=by
 obtain⟨r,h1,h2⟩:=hc;exact ye (z5j h1 hg hm hv ha hn hdb he hpl) λO H Q ⟨Y,Z,s,r,en,h⟩=> wV (k:=λZ xs s1=>g xs s1) r en h _ λvs H2 Y2 s2 ds r2 en2 dn2 stp2 h3=>h2 H2 Y2 s2 ds vs Q r2 dn2 h3
theorem uj{mg:Gm}{H:Hp}{Y:List Addr}{d:D}{vs:List V}(h:zv mg H Y [d] vs):∃v,vs=[v]/\Den mg H Y d v:=by
 simp only[zv]at h;obtain⟨v,r,rfl,h1,rfl⟩:=h;exact⟨v,rfl,h1⟩
theorem z3o{mg:Gm}{H:Hp}{Y:List Addr}{d d':D}{vs:List V}(h:zv mg H Y [d,d'] vs):∃v v',vs=[v,v']/\Den mg H Y d v/\Den mg H Y d' v':=by
 simp only[zv]at h;obtain⟨v,r,rfl,h1,v',r',rfl,h2,rfl⟩:=h;exact⟨v,v',rfl,h1,h2⟩
def yH:List D->Sto->R D
 | [d],s=>match zI s d with | some xs=>.ok (.int xs.length) s | none=>.no
 | _,_=>.no
theorem uC:∃r,yM X (.builtin "len") r/\vZ X E r yH:=⟨_,z1l,λH Y s ds vs Q r hd h=>by
 unfold yH at h;split at h
 ·split at h
  ·rename_i d xs e;obtain⟨v,rfl,dn⟩:=uj hd;obtain⟨a,ws,rfl,q1,q2⟩:=xT (K:=X.K) r e dn;exact⟨a,ws,rfl,q1,by rw[q2.length];exact h.here r yz⟩
  ·exact h.elim
 ·exact h.elim⟩
def zM:List D->Sto->R D
 | [d],s=>match zI s d with | some xs=>.ok (.tup xs) s | none=>.no
 | _,_=>.no
theorem yW:∃r,yM X (.type "tuple") r/\vZ X E r zM:=⟨_,z0R,λH Y s ds vs Q r hd h=>by match ds,hd,h with
 | [],_,h=>exact h.elim | _::_::_,_,h=>exact h.elim | [d],hd,h=>
  obtain⟨v,rfl,dn⟩:=uj hd;simp only[zM]at h;cases e:zI s d with
  | none=>rw[e]at h;exact h.elim | some xs=>
   rw[e]at h;cases d with
   | tup ys=>
    simp only[zI,_aa]at e;subst e;obtain⟨a,ws,rfl,q1,q2⟩:=vC (K:=X.K) dn;exact⟨a,ws,rfl,.inr ⟨q1,h.here r dn⟩⟩ | lst ys=>
    obtain⟨a,ws,rfl,q1,q2⟩:=zL (d:=.lst ys) r e dn;exact⟨a,ws,rfl,.inl ⟨.inl q1,jK r h q2⟩⟩ | loc l=>
    obtain⟨a,ws,rfl,q1,q2⟩:=zL (d:=.loc l) r e dn;exact⟨a,ws,rfl,.inl ⟨.inl q1,jK r h q2⟩⟩ | scr ys=>
    simp only[zI,_aa]at e;subst e;obtain⟨a,ws,rfl,q1,q2⟩:=z7i dn;exact⟨a,ws,rfl,.inl ⟨q1,jK r h q2⟩⟩ | _=>simp[zI]at e⟩
def z1G:List D->Sto->R D
 | [d],s=>match zI s d with | some xs=>.ok (.lst xs) s | none=>.no
 | _,_=>.no
theorem z75:∃r,yM X (.type "list") r/\vZ X E r z1G:=⟨_,qu.freeze,λH Y s ds vs Q r hd h=>by
 unfold z1G at h;split at h
 ·split at h
  ·rename_i d xs e;obtain⟨v,rfl,dn⟩:=uj hd;obtain⟨a,ws,rfl,q1,q2⟩:=xT (K:=X.K) r e dn;exact⟨a,ws,rfl,q1,uZ r h q2⟩
  ·exact h.elim
 ·exact h.elim⟩
def z4c:List D->Sto->R D
 | [.int i],s=>.ok (.int i) s | [.bl b],s=>.ok (.int (if b then 1 else 0)) s | _,_=>.no
theorem z81:∃r,yM X (.type "int") r/\vZ X E r z4c:=⟨_,z52,λH Y s ds vs Q r hd h=>by
 unfold z4c at h;split at h
 ·rename_i i;obtain⟨v,rfl,dn⟩:=uj hd;cases yf dn;exact .inl ⟨i,rfl,h.here r yz⟩
 ·rename_i b;obtain⟨v,rfl,dn⟩:=uj hd;cases vN dn;exact .inr ⟨b,rfl,h.here r yz⟩
 ·exact h.elim⟩
def z6v:List D->Sto->R D
 | [.int i,.int j],s=>.ok (.int (if j > i then j else i)) s | _,_=>.no
def z6M:List D->Sto->R D
 | [.int i,.int j],s=>.ok (.int (if j<i then j else i)) s | _,_=>.no
theorem zaI(hc:X.calm=true):∃r,yM X (.builtin "max") r/\vZ X E r z6v:=⟨_,z4W hc,λH Y s ds vs Q r hd h=>by
 unfold z6v at h;split at h
 ·rename_i i j;obtain⟨v,v',rfl,d1,d2⟩:=z3o hd;cases yf d1;cases yf d2;exact⟨i,j,rfl,h.here r yz⟩
 ·exact h.elim⟩
theorem za2(hc:X.calm=true):∃r,yM X (.builtin "min") r/\vZ X E r z6M:=⟨_,z4n hc,λH Y s ds vs Q r hd h=>by
 unfold z6M at h;split at h
 ·rename_i i j;obtain⟨v,v',rfl,d1,d2⟩:=z3o hd;cases yf d1;cases yf d2;exact⟨i,j,rfl,h.here r yz⟩
 ·exact h.elim⟩
abbrev FO:=Ev->Sto->R (Option Int)
def oD(_:Hp)(_:List Addr)(a b:Option Int):Prop:=a=b
def tO(mg:Gm)(E:XK)(f:FO):TO:=λO H Q=>∃Y Z s,Rep mg H Y s/\wS mg H Y Z O/\okR mg E H Y oD (f Z s) Q
def RO(X:Cx)(E:XK)(e:Option Expr)(f:FO):Prop:=PO X e (tO (gm X) E f)
theorem z74{o:Option Expr}{t t':TO}(h:PO X o t)(i:∀O H Q,t' O H Q->t O H Q):PO X o t':=λpins s O H Q I q=>h pins s O H Q I (i O H Q q)
def zt:FO:=λ_ s=>.ok none s
def yg(f:FE):FO:=λZ s=>(f Z s).bind λd s1=>match d with | .int i=>.ok (some i) s1 | _=>.no
theorem xI:RO X E none zt:=z74 z7Y λO H Q ⟨Y,Z,s,r,en,h⟩=>h.here (b:=none) r rfl
theorem xK{f:FE}(h:RE X E e f):RO X E (some e) (yg f):=z74 (z8n h) λO H Q ⟨Y,Z,s,r,en,h⟩=>by
 refine yE (k:=λZ d s1=>match d with | .int i=>.ok (some i) s1 | _=>.no) r en h _ λv H1 Y1 s1 d r1 en1 dn stp h1=>?_;cases d with
 | int i=>cases yf dn;exact⟨i,rfl,h1.here (b:=some i) r1 rfl⟩ | _=>exact h1.elim
def cutD(xs:List D)(lo hi:Option Int):List D:=(xs.drop (HT.sIx xs.length 0 lo)).take (HT.sIx xs.length xs.length hi-HT.sIx xs.length 0 lo)
theorem z0t{mg:Gm}{H:Hp}{Y:List Addr}{xs:List D}{vs:List V}(h:zv mg H Y xs vs)(lo hi:Option Int):zv mg H Y (cutD xs lo hi) (z72 vs lo hi):=by
 unfold cutD z72;rw[h.length];exact (h.drop _).take _
def dSl(x:D)(lo hi:Option Int)(s:Sto):R D:=match x with
 | .tup xs=>.ok (.tup (cutD xs lo hi)) s | x=>match listOf s x with | some xs=>.ok (.lst (cutD xs lo hi)) s | none=>.no
def eSl(fe:FE)(fl fh:FO):FE:=λZ s=>(fe Z s).bind λx s1=>(fl Z s1).bind λlo s2=>(fh Z s2).bind λhi s3=>dSl x lo hi s3
theorem z5c{α β:Type}{Dn:Hp->List Addr->α->β->Prop}{mg:Gm}{f:FO}{k:Ev->Option Int->Sto->R α}{O:L2.St}{H:Hp}{Q:β->Hp->Prop}{Y:List Addr}{Z:Ev}{s:Sto}(r:Rep mg H Y s)(en:wS mg H Y Z O) (h:okR mg E H Y Dn ((f Z s).bind (k Z)) Q)(K:Option Int->Hp->Prop) (hK:∀v H1 Y1 s1,Rep mg H1 Y1 s1->wS mg H1 Y1 Z O->xr mg H Y H1 Y1 s1->okR mg E H1 Y1 Dn (k Z v s1) Q->K v H1):tO mg E f O H K:= ⟨Y,Z,s,r,en,(okR.bind (Dn:=oD) h).imp λv H1 ⟨Y1,s1,d,stp,dn,q⟩=>hK v H1 Y1 s1 stp.rep (en.mono stp) stp (by cases (show d=v from dn);exact q)⟩
theorem yG{lo hi:Option Expr}{p2:Pos}{fe:FE}{fl fh:FO}(he:RE X E e fe)(hl:RO X E lo fl)(hh:RO X E hi fh):RE X E (.Subscript e (.Slice lo hi none p2) pos) (eSl fe fl fh):= ye (z6f ((z9G.or z8K).or z7D.freeze) he hl hh) λO H Q ⟨Y,Z,s,r,en,h⟩=>by
  refine yE (k:=λZ x s1=>(fl Z s1).bind λlo s2=>(fh Z s2).bind λhi s3=>dSl x lo hi s3) r en h _ λv H1 Y1 s1 d r1 en1 dn stp h1=>?_;refine z5c (k:=λZ lo s2=>(fh Z s2).bind λhi s3=>dSl d lo hi s3) r1 en1 h1 _ λlo H2 Y2 s2 r2 en2 stp2 h2=>?_;refine z5c (k:=λZ hi s3=>dSl d lo hi s3) r2 en2 h2 _ λhi H3 Y3 s3 r3 en3 stp3 h3=>?_;have dn3:=(dn.mono stp2).mono stp3;cases d with
  | tup xs=>
   obtain⟨a,vs,rfl,q1,q2⟩:=vC (K:=X.K) dn3;have h3':okR (gm X) E H3 Y3 (Den (gm X)) (.ok (.tup (cutD xs lo hi)) s3) Q:=h3;by_cases hw:HT.sIx vs.length 0 lo=0/\HT.sIx vs.length vs.length hi=vs.length
   ·refine .inl (.inr ⟨a,vs,rfl,q1,hw,?_⟩);have e:cutD xs lo hi=xs:=by
     unfold cutD;rw[<- q2.length,hw.1,hw.2];simp[q2.length]
    rw[e]at h3';exact h3'.here r3 dn3
   ·exact .inl (.inl ⟨a,vs,rfl,q1,hw,jK r3 h3' (z0t q2 lo hi)⟩) | lst xs=>
   obtain⟨a,vs,rfl,q1,q2⟩:=zL (d:=.lst xs) r3 rfl dn3;exact .inr ⟨a,vs,rfl,.inl q1,uZ r3 h3 (z0t q2 lo hi)⟩ | loc l=>
   simp only[dSl]at h3;split at h3
   ·rename_i xs e;obtain⟨a,vs,rfl,q1,q2⟩:=zL (d:=.loc l) r3 e dn3;exact .inr ⟨a,vs,rfl,.inl q1,uZ r3 h3 (z0t q2 lo hi)⟩
   ·exact h3.elim | _=>exact h3.elim
end
abbrev Mir:=List D->Sto->R D
def z7F(mg:Gm)(M:Mir):Sp:=λvs H Q E=>∃Y s ds,Rep mg H Y s/\zv mg H Y ds vs/\okR mg E H Y (Den mg) (M ds s) Q
def Has(P:Program)(w:World)(K:W.Frag)(mg:Str->Option Value)(base:Heap)(CX:CXT)(x:Str)(n:Nat)(M:Mir):Prop:= ∃f fd ps,z0Z P w K mg base CX n f fd ps (z7F ⟨mg,K⟩ M)/\Binds K fd ps []/\W.keepIn K (.ref f)=true/\mg x=some (.ref f)
section
variable {X:Cx}{E:XK}{e a b c:Expr}{es:List Expr}{pos:Pos}{CX:CXT}
theorem z3g {x:Str} {p:Pos} {n:Nat} {M:Mir} {f:FA} (F:Has X.prog X.w X.K X.mg X.base CX x n M) (hr:kq n X.A) (hx:Passes CX X E) (hg:Gl X x) (ha:RA X E (e::es) f) (hdb:(x==("__debug__":Str))=false:=by decide) (he:starEach (e::es) X.env=(false,eval e X.env)::starEach es X.env:=by rfl) (hpl:(backTo pos (starEach es X.env)).any (·.1)=false:=by rfl):RE X E (.Call (.Name x p) (e::es) [] pos) (zd M f):=by
 obtain⟨fa,fd,ps,F,hb,hk,hm⟩:=F;refine ye (z7R F hr hg hm hk hb .nil hx ha hdb he hpl) λO H Q ⟨Y,Z,s,r,en,h⟩=>?_;refine wV (k:=λZ xs s1=>M xs s1) r en h _ λvs H2 Y2 s2 ds r2 en2 dn2 stp2 h3=>?_;rw[_bo];exact⟨Y2,s2,ds,r2,dn2,h3⟩
def zX(f g:FS):FS:=λZ s=>(f Z s).bind λfl s1=>match fl with | .nx Z'=>g Z' s1 | fl=>.ok fl s1
def wM:FS:=λZ s=>.ok (.nx Z) s
variable {st:Stmt}{rs:List Stmt}
theorem z9Z {mg:Gm} {f g:FS} {D:z8b} {O:L2.St} {H:Hp} (h:tS mg E (zX f g) D O H):zc9 (tS mg E f) (tS mg E g) D O H:=by
 obtain⟨Y,Z,s,r,en,h⟩:=h;refine⟨Y,Z,s,r,en,(okR.bind (Dn:=FlD mg) h).imp λfv H1 ⟨Y1,s1,fl,stp,dn,q⟩=>?_⟩;cases fl with
 | nx Z'=> cases fv with
  | nx O'=>exact⟨Y1,Z',s1,stp.rep,dn,q⟩ | _=>exact (show False from dn).elim
 | rt d=> cases fv with
  | rt v=>exact okR.here (b:=FlV.rt v) (Q:=z0H D) (s:=s1) (a:=Fl.rt d) q stp.rep dn | _=>exact (show False from dn).elim
 | bk Z'=> cases fv with
  | bk v=>exact okR.here (b:=FlV.bk v) (Q:=z0H D) (s:=s1) (a:=Fl.bk Z') q stp.rep dn | _=>exact (show False from dn).elim
 | ct Z'=> cases fv with
  | ct v=>exact okR.here (b:=FlV.ct v) (Q:=z0H D) (s:=s1) (a:=Fl.ct Z') q stp.rep dn | _=>exact (show False from dn).elim
theorem xx:RSs X E [] wM:=z53 z7H λD O H ⟨Y,Z,s,r,en,h⟩=>okR.here (b:=FlV.nx O) h r en
theorem zi{f g:FS}(h1:RS X E st f)(h2:RSs X E rs g):RSs X E (st::rs) (zX f g):=z53 (z5M h1 h2) λD O H h=>z9Z h
theorem zy{f:FS}(h1:RS X E st f):RSs X E [st] f:=z7G h1
def fNo:FS:=λ_ _=>.no
theorem z7C:RS X E st fNo:=vi z5S λD O H ⟨_,_,_,_,_,h⟩=>h
def qG(f:FE):FS:=λZ s=>(f Z s).bind λ_ s1=>.ok (.nx Z) s1
theorem vQ {f:FE} (he:RE X E e f) (hs:swapsWith e none pos.line X.env=pure false:=by rfl):RS X E (.Expr e pos) (qG f):= vi (z8k he hs) λD O H ⟨Y,Z,s,r,en,h⟩=>yE (k:=λZ _ s1=>R.ok (Fl.nx Z) s1) r en h _ λv H1 Y1 s1 d r1 en1 dn stp h1=>okR.here (b:=FlV.nx O) (Q:=z0H D) h1 r1 en1
def wO(f:FE):FS:=λZ s=>(f Z s).bind λd s1=>.ok (.rt d) s1
theorem ym {f:FE} (he:RE X E e f):RS X E (.Return (some e) pos) (wO f):= vi (z9n he) λD O H ⟨Y,Z,s,r,en,h⟩=>yE (k:=λZ d s1=>R.ok (Fl.rt d) s1) r en h _ λv H1 Y1 s1 d r1 en1 dn stp h1=>okR.here (b:=FlV.rt v) (Q:=z0H D) h1 r1 dn
def fIf(ft:FT)(f g:FS):FS:=λZ s=>(ft Z s).bind λx s1=>if x=true then f Z s1 else g Z s1
theorem z0Y{ft:FT}{f g:FS}{as bs:List Stmt}(hc:RT X E c ft)(ha:RSs X E as f)(hb:RSs X E bs g):RS X E (.If c as bs pos) (fIf ft f g):= vi (zbT hc ha hb) λD O H ⟨Y,Z,s,r,en,h⟩=>z0E (k:=λZ x s1=>if x=true then f Z s1 else g Z s1) r en h _ λv H1 Y1 s1 r1 en1 stp h1=>by cases v with
  | true=>rw[_o rfl]at h1 ⊢;exact⟨Y1,Z,s1,r1,en1,h1⟩ | false=>rw[_I (by decide)]at h1 ⊢;exact⟨Y1,Z,s1,r1,en1,h1⟩
abbrev FG:=D->Ev->Sto->R Ev
def tG(mg:Gm)(E:XK)(f:FG):TG:=λv O H Q=>∃Y Z s d,Rep mg H Y s/\wS mg H Y Z O/\Den mg H Y d v/\okR mg E H Y (wS mg) (f d Z s) (λO' H'=>Q O' H')
def RG(X:Cx)(E:XK)(tg:Expr)(f:FG):Prop:=PG X tg (tG (gm X) E f)
theorem z4e{tg:Expr}{t t':TG}(h:PG X tg t)(i:∀v O H Q,t' v O H Q->t v O H Q):PG X tg t':=λpins s O H v u Q I r q=>h pins s O H v u Q I r (i v O H Q q)
def xC(i:Nat):FG:=λd Z s=>.ok (Z.set i (some d)) s
theorem z0a(i:Nat){x:Str}(hN:X.N.Nodup)(hi:X.N[i]? = some x:=by rfl)(hx:Loc X.env.scope x:=by first | exact Or.inl rfl | exact Or.inr rfl)(hf:X.fn x=true\/X.env.scope.names.lookup x=some .local:=by first | exact .inl rfl | exact .inr rfl | assumption):RG X E (.Name x pos) (xC i):= z4e (zU hN hi hx hf) λv O H Q ⟨Y,Z,s,d,r,en,dn,h⟩=>okR.here (b:=O.set i (some v)) h r (en.set dn i)
def jQ(i j:Nat):FG:=λd Z s=>match d with | .tup [x,y]=>.ok ((Z.set i (some x)).set j (some y)) s | _=>.no
theorem z71(i j:Nat){x y:Str}{px py:Pos}{kt:Nat}(hc:X.calm=true)(hN:X.N.Nodup)(hi:X.N[i]? = some x:=by rfl)(hj:X.N[j]? = some y:=by rfl)(hx:Loc X.env.scope x:=by first | exact Or.inl rfl | exact Or.inr rfl)(hy:Loc X.env.scope y:=by first | exact Or.inl rfl | exact Or.inr rfl) (hf:X.fn x=true\/X.env.scope.names.lookup x=some .local:=by first | exact .inl rfl | exact .inr rfl | assumption)(hf':X.fn y=true\/X.env.scope.names.lookup y=some .local:=by first | exact .inl rfl | exact .inr rfl | assumption): RG X E (.Tuple [.Name x px,.Name y py] kt pos) (jQ i j):= z4e (z5g hc (vf (zU hN hi hx hf) (vf (zU hN hj hy hf') z2s))) λv O H Q ⟨Y,Z,s,d,r,en,dn,h⟩=>by
  unfold jQ at h;split at h
  ·rename_i d1 d2;obtain⟨p,vs,rfl,q1,q2⟩:=vC (K:=X.K) dn;obtain⟨v1,v2,rfl,e1,e2⟩:=z3o q2;exact⟨p,[v1,v2],rfl,q1,rfl,v1,[v2],rfl,v2,[],rfl,rfl,okR.here h r ((en.set e1 i).set e2 j)⟩
  ·exact h.elim
def va(i:Nat)(f:FE):FS:=λZ s=>(f Z s).bind λd s1=>.ok (.nx (Z.set i (some d))) s1
theorem xB (i:Nat) {x:Str} {pos':Pos} {f:FE} (hN:X.N.Nodup) (he:RE X E e f) (hi:X.N[i]? = some x:=by rfl) (hx:Loc X.env.scope x:=by first | exact Or.inl rfl | exact Or.inr rfl) (hs:swapsWith e (some (.Name x pos')) pos.line X.env=pure false:=by rfl) (hf:X.fn x=true\/X.env.scope.names.lookup x=some .local:=by first | exact .inl rfl | exact .inr rfl | assumption):RS X E (.Assign [.Name x pos'] e pos) (va i f):= vi (zay hN hi hx he hs hf) λD O H ⟨Y,Z,s,r,en,h⟩=>yE (k:=λZ d s1=>R.ok (Fl.nx (Z.set i (some d))) s1) r en h _ λv H1 Y1 s1 d r1 en1 dn stp h1=>okR.here (b:=FlV.nx (O.set i (some v))) (Q:=z0H D) h1 r1 (en1.set dn i)
def zaR(f:FE)(g:FG):FS:=λZ s=>(f Z s).bind λd s1=>(g d Z s1).bind λZ' s2=>.ok (.nx Z') s2
theorem z90 {tg:Expr} {f:FE} {g:FG} (he:RE X E e f) (hg:RG X E tg g) (hs:swapsWithSole [tg] e pos.line X.env=pure false:=by rfl) (hw:swappedStores [tg] e X.env=pure none:=by rfl) (h1:(assignEach [tg] X.env).map (·.2)=[assign tg X.env]:=by rfl):RS X E (.Assign [tg] e pos) (zaR f g):= vi (z7d he hg hs hw h1) λD O H ⟨Y,Z,s,r,en,h⟩=>yE (k:=λZ d s1=>(g d Z s1).bind λZ' s2=>R.ok (Fl.nx Z') s2) r en h _ λv H1 Y1 s1 d r1 en1 dn stp h1=> ⟨Y1,Z,s1,d,r1,en1,dn,(okR.bind (Dn:=wS (gm X)) h1).imp λO' H' ⟨Y2,s2,Z',stp2,en2,q⟩=>okR.here (b:=FlV.nx O') (Q:=z0H D) q stp2.rep en2⟩
def zaO(i j:Nat)(f:FA):FS:=λZ s=>(f Z s).bind λds s1=>match ds with | [x,y]=>.ok (.nx ((Z.set i (some x)).set j (some y))) s1 | _=>.no
theorem zar (i j:Nat) {x y:Str} {px py pt:Pos} {kt k2:Nat} {pt2:Pos} {f:FA} (hc:X.calm=true) (hN:X.N.Nodup) (ha:RA X E [a,b] f) (hi:X.N[i]? = some x:=by rfl) (hj:X.N[j]? = some y:=by rfl) (hij:i≠j:=by decide) (hx:X.env.scope.names.lookup x=some .local:=by rfl) (hy:X.env.scope.names.lookup y=some .local:=by rfl) (hw:swappedStores [.Tuple [.Name x px,.Name y py] kt pt] (.Tuple [a,b] k2 pt2) X.env=pure (some [x,y]):=by rfl) (hs:swapsWithSole [.Tuple [.Name x px,.Name y py] kt pt] (.Tuple [a,b] k2 pt2) pos.line X.env=pure false:=by rfl): RS X E (.Assign [.Tuple [.Name x px,.Name y py] kt pt] (.Tuple [a,b] k2 pt2) pos) (zaO i j f):= vi (z9P hc hN hi hj hij hx hy ha hw hs) λD O H ⟨Y,Z,s,r,en,h⟩=>by
  refine wV (k:=λZ ds s1=>match ds with | [x,y]=>R.ok (Fl.nx ((Z.set i (some x)).set j (some y))) s1 | _=>.no) r en h _ λvs H1 Y1 s1 ds r1 en1 dn stp h1=>?_;match ds,dn,h1 with
  | [],_,h1=>exact h1.elim | [_],_,h1=>exact h1.elim | _::_::_::_,_,h1=>exact h1.elim | [d1,d2],dn,h1=>
   obtain⟨v1,v2,rfl,e1,e2⟩:=z3o dn;exact⟨v1,v2,rfl,okR.here (b:=FlV.nx ((O.set i (some v1)).set j (some v2))) (Q:=z0H D) h1 r1 ((en1.set e1 i).set e2 j)⟩
def z2n(fo fi fv:FE):FS:=λZ s=>(fv Z s).bind λd s1=>(fo Z s1).bind λo s2=>(fi Z s2).bind λi s3=>match o,i with
 | .loc l,.int k=>match s3[l]? with
  | some xs=>match ixN xs.length k with
   | some j=>if d.flat=true then .ok (.nx Z) (s3.set l (xs.set j d)) else .no | none=>.no
  | none=>.no
 | _,_=>.no
theorem jl:∀{xs:List D}{d:D}{j:Nat},D.flat.flats xs=true->d.flat=true->D.flat.flats (xs.set j d)=true
 | [],_,_,_,_=>rfl | x::xs,d,0,h,hd=>by
  simp only[D.flat.flats,_m,_aM]at h ⊢;exact⟨hd,h.2⟩ | x::xs,d,j+1,h,hd=>by
  simp only[D.flat.flats,_m,_aN]at h ⊢;exact⟨h.1,jl h.2 hd⟩
theorem qr:∀{xs ys:List D},D.flat.flats xs=true->D.flat.flats ys=true->D.flat.flats (xs++ys)=true
 | [],_,_,h=>h | x::xs,ys,h,h'=>by
  simp only[D.flat.flats,_m,_ao]at h ⊢;exact⟨h.1,qr h.2 h'⟩
theorem z54 {o i:Expr} {p1:Pos} {fo fi fv:FE} (hv:RE X E e fv) (ho:RE X E o fo) (hi:RE X E i fi) (ha:∀v,assign (.Subscript o i p1) X.env v=(do
   let ov <- holding [v] (eval o X.env) let iv <- holding [v,ov] (eval i X.env)
   standAt p1
   holding [v,ov,iv] (setItem ov iv v)
   release [v,ov,iv] []):=by intro _;rfl) (hs:swapsWithSole [.Subscript o i p1] e pos.line X.env=pure false:=by rfl) (hw:swappedStores [.Subscript o i p1] e X.env=pure none:=by rfl) (h1:(assignEach [.Subscript o i p1] X.env).map (·.2)=[assign (.Subscript o i p1) X.env]:=by rfl):RS X E (.Assign [.Subscript o i p1] e pos) (z2n fo fi fv):= vi (z7d hv (z8X ho hi set_list ha) hs hw h1) λD O H ⟨Y,Z,s,r,en,h⟩=>by
  unfold z2n at h;refine⟨Y,Z,s,r,en,(okR.bind (Dn:=Den (gm X)) h).imp λv H1 ⟨Y1,s1,d,stp,dn,h1⟩=>?_⟩;refine⟨Y1,Z,s1,stp.rep,en.mono stp,(okR.bind (Dn:=Den (gm X)) h1).imp λov H2 ⟨Y2,s2,od,stp2,dn2,h2⟩=>?_⟩;refine⟨Y2,Z,s2,stp2.rep,(en.mono stp).mono stp2,(okR.bind (Dn:=Den (gm X)) h2).imp λiv H3 ⟨Y3,s3,id,stp3,dn3,h3⟩=>?_⟩;have en3:=((en.mono stp).mono stp2).mono stp3;have dv:=(dn.mono stp2).mono stp3;have dov:=dn2.mono stp3;cases od with
  | loc l=> cases id with
   | int k=>
    simp only at h3;split at h3
    ·rename_i xs ex;split at h3
     ·rename_i j ej;split at h3
      ·rename_i hf;cases yf dn3;simp only[Den]at dov;obtain⟨a,rfl,e1,ka⟩:=dov;obtain⟨vs,q1,q2⟩:=stp3.rep.at_ ex e1 ka;have stp4:=xr.put (l:=l) (xs:=xs.set j d) stp3.rep e1 ka (q2.set j dv) (jl (stp3.rep.flat xs (_s ex)) hf);exact⟨a,vs,k,j,rfl,rfl,q1,by rw[q2.length];exact ej,h3 (.nx O) _ _ stp4 (en3.mono stp4)⟩
      ·exact h3.elim
     ·exact h3.elim
    ·exact h3.elim | _=>exact h3.elim
  | _=>exact h3.elim
def z7h(fo fv:FE):FE:=λZ s=>(fo Z s).bind λo s1=>match o with
 | .loc l=>(fv Z s1).bind λd s2=>match s2[l]? with
  | some xs=>if d.flat=true/\xs.length<cap then .ok .non (s2.set l (xs++[d])) else .no | none=>.no
 | _=>.no
theorem uw {o:Expr} {apos:Pos} {fo fv:FE} (ho:RE X E o fo) (hv:RE X E e fv) (hbase:attributeBase o "append" X.env (eval o X.env)=eval o X.env:=by rfl) (hfew:((backTo pos (starEach [e] X.env)).all (λx=>!x.1)&&(backToKw pos (keywordEach [] X.env)).all (λx=>x.1.isSome) && decide ([e].length+([]:List Keyword).length+(if ([]:List Keyword).isEmpty then 0 else 1)<30))=true:=by rfl) (hline:(apos.endLine==pos.line)=true:=by rfl) (hs:starEach [e] X.env=(false,eval e X.env)::starEach [] X.env:=by rfl) (hplain:(backTo pos (starEach [] X.env)).any (·.1)=false:=by rfl): RE X E (.Call (.Attribute o "append" apos) [e] [] pos) (z7h fo fv):= ye (zam PySem.F.plainAttrs_list PySem.F.slot_list_append PySem.F.type_list_append z4X ho (jM hv z32 hs) hbase hfew hline hs hplain) λO H Q ⟨Y,Z,s,r,en,h⟩=>by
  unfold z7h at h;refine⟨Y,Z,s,r,en,(okR.bind (Dn:=Den (gm X)) h).imp λov H1 ⟨Y1,s1,od,stp,dn,h1⟩=>?_⟩;cases od with
  | loc l=>
   simp only at h1;have hty:tyV X.K "list" ov H1:=by
    simp only[Den]at dn;obtain⟨a,rfl,e1,vs,e2⟩:=dn;exact .inl ⟨rfl,vs,.inl (.inl e2)⟩
   refine⟨hty,⟨Y1,Z,s1,stp.rep,en.mono stp,(okR.bind (Dn:=Den (gm X)) h1).imp λv H2 ⟨Y2,s2,d,stp2,dn2,h2⟩=>?_⟩⟩;split at h2
   ·rename_i xs ex;split at h2
    ·rename_i hf;have dov:=dn.mono stp2;simp only[Den]at dov;obtain⟨a,rfl,e1,ka⟩:=dov;obtain⟨vs,q1,q2⟩:=stp2.rep.at_ ex e1 ka;have stp3:=xr.put (l:=l) (xs:=xs++[d]) stp2.rep e1 ka (q2.append (zv.one dn2)) (qr (stp2.rep.flat xs (_s ex)) (by simp[D.flat.flats,hf.1]));refine⟨a,vs,v,rfl,rfl,q1,by rw[q2.length];exact zaw hf.2,h2 .non _ _ stp3 (by simp[Den])⟩
    ·exact h2.elim
   ·exact h2.elim | _=>exact h1.elim
end
end Dd
namespace L2
theorem zab{X:Cx}{tg l:Expr}{tl:TE}(hl:PE X l tl):PI X tg l (λO H R=>tl O H λx H1=>∃a,x=.ref a/\(((∃xs,SqL X.K H1 a xs)/\R (Itl X.K a) H1)\/((∃xs,SqT X.K H1 a xs)/\R (Itt X.K a) H1))):=by
 intro pins s O H R I h;refine thn (hl pins s O H _ I h) λv s1 ⟨x,H1,I1,r1,q1⟩=>?_;obtain⟨a,e,q⟩:=q1;subst e;cases r1;rcases q with⟨⟨xs,hq⟩,q⟩ | ⟨⟨xs,hq⟩,q⟩
 ·obtain⟨its,rv,p,hz⟩:=I1.list hq;refine wpAny_pyIter_list p.isList ?_;refine⟨s1.heap.objs.size,[s1.heap.objs.size],_,_,H1,rfl,I1.kept (t':=s1.toks) λb o e=>_c _ e,z4V a _,⟨_,_u _ rfl,rfl,rfl⟩,λb hb=>?_,q⟩;have e:b=s1.heap.objs.size:=by simpa using hb
  subst e;exact I1.fpOk (_n _) (I1.hok.fresh (_n _))
 ·obtain⟨its,rv,p,hz⟩:=I1.tuple hq;refine wpAny_pyIter_tuple (show s1.heap.IsTuple a its.toArray from p) ?_;refine⟨s1.heap.objs.size,[s1.heap.objs.size],_,_,H1,rfl,I1.kept (t':=s1.toks) λb o e=>_c _ e,z46 a _,⟨_,_u _ rfl,rfl,rfl⟩,λb hb=>?_,q⟩;have e:b=s1.heap.objs.size:=by simpa using hb
  subst e;exact I1.fpOk (_n _) (I1.hok.fresh (_n _))
theorem qL.freeze{X:Cx}{pins:List (Addr×Obj)}{O:L2.St}{C:Addr}{Q:VK}{acc:Value}{s':Shared}(h:qL X pins O C (z5J Q) acc s'):qL X pins O C Q acc s':=by
 obtain⟨v,Hf,I,r,⟨a,xs,rfl,ha,q⟩,hm,f⟩:=h;obtain⟨its,n,rv,e,_⟩:=I.lst ha;refine⟨_,_,I.freeze ha e (by intro _ z;cases z) (by intro _ _ z;cases z) (by intro _ z;cases z) (by intro _ z;cases z),r,q _,hm,?_,f.2⟩;rw[zC (λz=>by have:=f.1;rw[z,ha]at this;cases this)];exact f.1
theorem z29 {X:Cx} {tg iter elt:Expr} {ifs:List Expr} {scope:Scope} {pos spos py:Pos} {wi:TI} {g:TG} {ti:TT} {te:TE} {i:Nat} {y:Str} (N':List Str) (mp:List (Option Nat)) (hN:X.N.Nodup) (hy:X.N[i]? = some y) (hyl:Loc X.env.scope y) (hc:X.calm=true) (hi:PI X tg iter wi) (hg:∀ex s H,PG (zF X N' scope ex s H) tg g) (ht:∀ex s H,z3s (zF X N' scope ex s H) ifs ti) (he:∀ex s H,PE (zF X N' scope ex s H) elt te) (hkd:scope.kind=.function) (hnm:∀y∈scope.names,scope.names.lookup y.1=some y.2) (hfr:∀y∈scope.names,y.2=.free->X.env.kindOf y.1=some .cell\/X.env.kindOf y.1=some .free) (hmp:kr X.N scope.names N' mp=true) (hs:∀x,foldedSetIterable iter X.env x=pure x:=by intro _;rfl) (hsw:swapsWith (.ListComp elt [⟨tg,iter,ifs,0⟩] scope pos) (some (.Name y py)) spos.line X.env=pure true:=by rfl) (hf:X.fn y=true\/X.env.scope.names.lookup y=some .local:=by first | exact .inl rfl | exact .inr rfl | assumption): PS X (.Assign [.Name y py] (.ListComp elt [⟨tg,iter,ifs,0⟩] scope pos) spos) (λD O H=>z6P wi mp g ti te O H (z5J λv H'=>D.nx (O.set i (some v)) H')):=by
 intro pins s O H D I h;rw[exec_Assign_Name_used _ _ _ _ hsw];refine _a (_bi (_a ?_));show wpAny _ X.A (do let _ <- comprehension (.ListComp elt [⟨tg,iter,ifs,0⟩] scope pos) scope X.env _ (newList []) false (eval iter X.env) (some (assign (.Name y py) X.env))) _ _ s;refine _a (_ae (_a3 (use:=some (assign (.Name y py) X.env)) (Q:=λ_ s'=>SP X pins D .next s') rfl hs (ve λy hy hf=>I.ok.has _ (hfr y hy hf)) hkd (λy hy hl=>by rw[hnm y hy,hl]) (thn (hi pins s O H _ I h) λxv s₁ h₁=>thn h₁ λitv s₂ h₂=>?_)) (λ_ s' hq=>_k (_k hq)) λ_ _ e=>e);obtain⟨it,fp,tn,J,H2,e,I2,T,st2,f2,W,w0,z1Z⟩:=h₂;subst e;refine uJ (N':=N') (mp:=mp) (O:=O) (pins:=pins) (Q:=z5J λv H'=>D.nx (O.set i (some v)) H') (RR:=λacc C=>compPost (model X.prog X.w) X.A X.xe (some (assign (.Name y py) X.env)) (λ_ s'=>SP X pins D .next s') acc C) hc hg ht he hkd hnm hfr hmp I2 T st2 f2 W w0 z1Z ?_;intro acc C s' hd;obtain⟨v,Hf,I3,r,q,⟨m,hm⟩,f⟩:=hd.freeze;refine _bD (jV I3 hN hy hyl r (λs'' I4 ⟨a,sb,ha⟩=>?_) hf);have hC:C≠a:=by
  rcases ha with z | z;·rw[z];exact f.2.1
  ·exact _aH (f.2.2.2.2.1 y a z)
 exact⟨m,hm.sameBut sb hC,λh' sb'=>⟨_,Hf,ub I4 f sb',q⟩⟩
end L2
namespace Dd
open L2
abbrev ItD:=List D×List (Nat×List D)
def okG(g:List (Nat×List D))(all:List D)(s:Sto):Prop:=∀p∈g,s[p.1]? = some p.2
def z8y(mg:Gm)(H0:Hp)(Y0:List Addr)(a:ItD)(J:It):Prop:=∀H Y s,xr mg H0 Y0 H Y s->okG a.2 a.1 s->∀i:Nat, (∀d,a.1[i]? = some d->J.go i H/\∀x H',J.yld i H x H'->∃Y',xr mg H Y H' Y' s/\Den mg H' Y' d x)/\(a.1.length<=i->J.stop i H)
abbrev FI:=Ev->Sto->R ItD
def tI(mg:Gm)(E:XK)(f:FI):TI:=λO H Rr=>∃Y Z s,Rep mg H Y s/\wS mg H Y Z O/\okR mg E H Y (z8y mg) (f Z s) Rr
def RI(X:Cx)(E:XK)(tg it:Expr)(f:FI):Prop:=PI X tg it (tI (gm X) E f)
section
variable {X:Cx}{E:XK}{e a b c tg:Expr}{es:List Expr}{pos:Pos}{CX:CXT}
theorem z2J{it:Expr}{t t':TI}(h:PI X tg it t)(i:∀O H Q,t' O H Q->t O H Q):PI X tg it t':=λpins s O H Q I q=>h pins s O H Q I (i O H Q q)
def zY(f:FE):FI:=λZ s=>(f Z s).bind λd s1=>match d with
 | .tup xs=>.ok (xs,[]) s1 | .lst xs=>.ok (xs,[]) s1 | .loc l=>match s1[l]? with | some xs=>.ok (xs,[(l,xs)]) s1 | none=>.no
 | _=>.no
theorem vB{f:FE}(h:RE X E e f):RI X E tg e (zY f):=z2J (zab h) λO H Q ⟨Y,Z,s,r,en,h⟩=>by
 unfold zY at h;refine⟨Y,Z,s,r,en,(okR.bind (Dn:=Den (gm X)) h).imp λv H1 ⟨Y1,s1,d,stp,dn,h1⟩=>?_⟩;have lst:∀(a:Addr)(xs:List D)(g:List (Nat×List D)),(∀H2 Y2 s2,xr (gm X) H1 Y1 H2 Y2 s2->okG g xs s2->∃ws,SqL X.K H2 a ws/\zv (gm X) H2 Y2 xs ws)->z8y (gm X) H1 Y1 (xs,g) (Itl X.K a):=λa xs g hq H2 Y2 s2 stp2 hg i=>by
  obtain⟨ws,q1,q2⟩:=hq H2 Y2 s2 stp2 hg;refine⟨λd hd=>?_,λhl=>⟨ws,q1,by rw[q2.length];exact hl⟩⟩;obtain⟨v,e1,e2⟩:=q2.get hd;refine⟨⟨ws,v,q1,e1⟩,λx H' ⟨e3,y⟩=>?_⟩;subst e3;have e4:=y ws q1;rw[e1]at e4;cases e4;exact⟨Y2,.refl stp2.rep,e2⟩
 have tup:∀(a:Addr)(xs:List D),(∀H2 Y2 s2,xr (gm X) H1 Y1 H2 Y2 s2->∃ws,SqT X.K H2 a ws/\zv (gm X) H2 Y2 xs ws)->z8y (gm X) H1 Y1 (xs,[]) (Itt X.K a):=λa xs hq H2 Y2 s2 stp2 hg i=>by
  obtain⟨ws,q1,q2⟩:=hq H2 Y2 s2 stp2;refine⟨λd hd=>?_,λhl=>⟨ws,q1,by rw[q2.length];exact hl⟩⟩;obtain⟨v,e1,e2⟩:=q2.get hd;refine⟨⟨ws,v,q1,e1⟩,λx H' ⟨e3,y⟩=>?_⟩;subst e3;have e4:=y ws q1;rw[e1]at e4;cases e4;exact⟨Y2,.refl stp2.rep,e2⟩
 cases d with
 | tup xs=>
  have h1':okR (gm X) E H1 Y1 (z8y (gm X)) (.ok (xs,[]) s1) Q:=h1;obtain⟨a,vs,rfl,q1,q2⟩:=vC (K:=X.K) dn;refine⟨a,rfl,.inr ⟨⟨vs,q1⟩,h1'.here stp.rep (tup a xs λH2 Y2 s2 stp2=>?_)⟩⟩;have dn2:=dn.mono stp2;obtain⟨a',ws,e,q3,q4⟩:=vC (K:=X.K) dn2;cases e;exact⟨ws,q3,q4⟩ | lst xs=>
  have h1':okR (gm X) E H1 Y1 (z8y (gm X)) (.ok (xs,[]) s1) Q:=h1;obtain⟨a,vs,rfl,q1,q2⟩:=zL (d:=.lst xs) stp.rep rfl dn;refine⟨a,rfl,.inl ⟨⟨vs,.inl q1⟩,h1'.here stp.rep (lst a xs [] λH2 Y2 s2 stp2 _=>?_)⟩⟩;obtain⟨a',ws,e,q3,q4⟩:=zL (d:=.lst xs) stp2.rep rfl (dn.mono stp2);cases e;exact⟨ws,.inl q3,q4⟩ | loc l=>
  simp only at h1;split at h1
  ·rename_i xs ex;obtain⟨a,vs,rfl,q1,q2⟩:=zL (d:=.loc l) stp.rep ex dn;refine⟨a,rfl,.inl ⟨⟨vs,.inl q1⟩,h1.here stp.rep (lst a xs [(l,xs)] λH2 Y2 s2 stp2 hg=>?_)⟩⟩;obtain⟨a',ws,e,q3,q4⟩:=zL (d:=.loc l) stp2.rep (hg (l,xs) (by simp)) (dn.mono stp2);cases e;exact⟨ws,.inl q3,q4⟩
  ·exact h1.elim | _=>exact h1.elim
end
section
variable {X:Cx}{E:XK}{e a b c tg:Expr}{es:List Expr}{pos:Pos}{CX:CXT}
def yK(n:Nat):List D:=(List.range n).map λ(k:Nat)=>D.int ((k:Nat):Int)
def z2K(f:FA):FI:=λZ s=>(f Z s).bind λds s1=>match ds with
 | [.int j]=>if -(2 ^ 62)<=j/\j<2 ^ 62 then .ok (yK j.toNat,[]) s1 else .no | _=>.no
theorem uF{p:Pos}{f:FA}(hg:Gl X "range")(hm:X.mg "range"=none)(ha:RA X E [a] f)(hs:starEach [a] X.env=[(false,eval a X.env)]:=by rfl):RI X E tg (.Call (.Name "range" p) [a] [] pos) (z2K f):= z2J (z5y hg hm ha hs) λO H Q ⟨Y,Z,s,r,en,h⟩=>by
  unfold z2K at h;refine⟨Y,Z,s,r,en,(okR.bind (Dn:=zv (gm X)) h).imp λvs H1 ⟨Y1,s1,ds,stp,dn,h1⟩=>?_⟩;split at h1
  ·rename_i j;split at h1
   ·rename_i hj;obtain⟨v,rfl,d1⟩:=uj dn;cases yf d1;refine⟨j,rfl,hj.1,hj.2,h1.here stp.rep λH2 Y2 s2 stp2 _ i=>⟨λd hd=>?_,λhl=>?_⟩⟩
    ·have hi:i<j.toNat:=by
      have:=(_b.mp hd).1;simpa[yK] using this
     refine⟨hi,λx H' ⟨e1,e2⟩=>?_⟩;subst e1 e2;refine⟨Y2,.refl stp2.rep,?_⟩;have e3:d=D.int i:=by
      simp only[yK,_D,List.getElem?_range hi,_aG,_aa]at hd;exact hd.symm
     rw[e3];simp[Den]
    ·have:(yK j.toNat).length=j.toNat:=by simp[yK]
     show j.toNat<=i;rw[<- this];exact hl
   ·exact h1.elim
  ·exact h1.elim
open Classical in
def wF(g:List (Nat×List D))(all:List D)(body:D->Ev->Sto->R Fl):List D->Ev->Sto->R Fl
 | [],Z,s=>if okG g all s then .ok (.nx Z) s else .no | x::xs,Z,s=>if okG g all s then (body x Z s).bind λfl s1=>match fl with
   | .nx Z'=>wF g all body xs Z' s1 | .ct Z'=>wF g all body xs Z' s1 | .bk Z'=>.ok (.nx Z') s1 | .rt d=>.ok (.rt d) s1 else .no
def z5I(fi:FI)(fg:FG)(fb:FS):FS:=λZ s=>(fi Z s).bind λit s1=>wF it.2 it.1 (λd Z s=>(fg d Z s).bind λZ' s'=>fb Z' s') it.1 Z s1
theorem z2p {iter:Expr} {body:List Stmt} {fi:FI} {fg:FG} {fb:FS} (hp:PassesOwn (model X.prog X.w) X.A X.env X.xe) (hc:X.calm=true) (hi:RI X E tg iter fi) (hg:RG X E tg fg) (hb:RSs X E body fb) (hs:∀x,foldedSetIterable iter X.env x=pure x:=by intro _;rfl):RS X E (.For tg iter body [] pos) (z5I fi fg fb):= vi (z9U hp hc hi hg hb hs) λD O H ⟨Y,Z,s,r,en,h⟩=>by
  unfold z5I at h;refine⟨Y,Z,s,r,en,(okR.bind (Dn:=z8y (gm X)) h).imp λJ H1 ⟨Y1,s1,it,stp,ok,h1⟩=>?_⟩;obtain⟨items,g⟩:=it;simp only at h1;refine⟨λi m O H=>∃Y Z s,xr (gm X) H1 Y1 H Y s/\wS (gm X) H Y Z O/\m=items.length-i/\i<=items.length/\ okR (gm X) E H Y (FlD (gm X)) (wF g items (λd Z s=>(fg d Z s).bind λZ' s'=>fb Z' s') (items.drop i) Z s) (z0H D), ⟨items.length,Y1,Z,s1,.refl stp.rep,en.mono stp,by simp,Nat.zero_le _,by simpa using h1⟩,?_⟩;rintro i m O H ⟨Y2,Z2,s2,stp2,en2,rfl,hil,h2⟩;by_cases hlt:i<items.length
  ·right;rw[_aZ hlt,wF]at h2;split at h2
   ·rename_i hG;obtain⟨go,yl⟩:=((ok H Y2 s2 stp2 hG i).1 items[i] (_d hlt));refine⟨go,λO' H'=>∃Y Z s,xr (gm X) H1 Y1 H' Y s/\wS (gm X) H' Y Z O'/\okR (gm X) E H' Y (FlD (gm X)) (wF g items (λd Z s=>(fg d Z s).bind λZ' s'=>fb Z' s') (items.drop (i+1)) Z s) (z0H D), λO' H' ⟨Y3,Z3,s3,q1,q2,q3⟩=>⟨items.length-(i+1),by omega,Y3,Z3,s3,q1,q2,rfl,hlt,q3⟩,λx H' y=>?_⟩;obtain⟨Y3,stp3,dn3⟩:=yl x H' y;have h3:=okR.rebase h2 stp3;have h4:=okR.bind (Dn:=FlD (gm X)) h3;refine⟨Y3,Z2,s2,items[i],stp3.rep,en2.mono stp3,dn3,(okR.bind (Dn:=wS (gm X)) h4).imp λO5 H5 ⟨Y5,s5,Z5,stp5,en5,h5⟩=>?_⟩;refine⟨Y5,Z5,s5,stp5.rep,en5,h5.imp λfv H6 ⟨Y6,s6,fl,stp6,dn6,q6⟩=>?_⟩;have all6:xr (gm X) H1 Y1 H6 Y6 s6:=(stp2.trans stp3).trans stp6;cases fl with
    | nx Z'=> cases fv with
     | nx O'=>exact⟨Y6,Z',s6,all6,dn6,q6⟩ | _=>exact (show False from dn6).elim
    | ct Z'=> cases fv with
     | ct O'=>exact⟨Y6,Z',s6,all6,dn6,q6⟩ | _=>exact (show False from dn6).elim
    | bk Z'=> cases fv with
     | bk O'=>exact okR.here (b:=FlV.nx O') (Q:=z0H D) (a:=Fl.nx Z') (s:=s6) q6 stp6.rep dn6 | _=>exact (show False from dn6).elim
    | rt d=> cases fv with
     | rt v=>exact okR.here (b:=FlV.rt v) (Q:=z0H D) (a:=Fl.rt d) (s:=s6) q6 stp6.rep dn6 | _=>exact (show False from dn6).elim
   ·exact h2.elim
  ·left;have e:i=items.length:=by omega
   subst e;rw[List.drop_length,wF]at h2;split at h2
   ·rename_i hG;exact⟨(ok H Y2 s2 stp2 hG _).2 (_n _),okR.here (b:=FlV.nx O) (Q:=z0H D) h2 stp2.rep en2⟩
   ·exact h2.elim
end
end Dd
namespace Zz
def Sit(b:Bool)(h:Heap)(it l:Addr)(k:Nat):Prop:=match b with
 | true=>h.IsListIter it l k | false=>h.IsTupleIter it l k
def Sco(b:Bool)(h:Heap)(l:Addr)(xs:Array Value):Prop:=match b with
 | true=>h.IsList l xs | false=>h.IsTuple l xs
theorem Sit.to{b:Bool}{h h':Heap}{it l:Addr}{k:Nat}(x:Sit b h it l k)(e:∀o,h.get? it=some o->h'.get? it=some o):Sit b h' it l k:=by cases b with
 | true=>obtain⟨o,ho,r⟩:=x;exact⟨o,e _ ho,r⟩ | false=>obtain⟨o,ho,r⟩:=x;exact⟨o,e _ ho,r⟩
theorem Sco.to{b:Bool}{h h':Heap}{l:Addr}{xs:Array Value}(x:Sco b h l xs)(e:∀o,h.get? l=some o->h'.get? l=some o):Sco b h' l xs:=by cases b with
 | true=>obtain⟨o,ho,r⟩:=x;exact⟨o,e _ ho,r⟩ | false=>obtain⟨o,ho,r⟩:=x;exact⟨o,e _ ho,r⟩
theorem Sit.lt{b:Bool}{h:Heap}{it l:Addr}{k:Nat}(x:Sit b h it l k):it<h.objs.size:=by cases b with
 | true=>obtain⟨o,ho,r⟩:=x;exact _l ho | false=>obtain⟨o,ho,r⟩:=x;exact _l ho
theorem Sit.ob{b:Bool}{h:Heap}{it l:Addr}{k:Nat}(x:Sit b h it l k):∃o,h.get? it=some o/\∀v,o.data≠.cell v:=by cases b with
 | true=>obtain⟨o,ho,_,d⟩:=x;exact⟨o,ho,λv z=>by rw[d]at z;cases z⟩ | false=>obtain⟨o,ho,_,d⟩:=x;exact⟨o,ho,λv z=>by rw[d]at z;cases z⟩
section
variable {P:Program}{w:World}{A:Around}{E:Value->Shared->Prop}{s:Shared}
theorem z9d{it l:Addr}{k:Nat}{xs:Array Value}{x:Value}{R:Value->Shared->Prop}(h1:s.heap.IsTupleIter it l k)(h2:s.heap.IsTuple l xs)(e:xs[k]? = some x) (q:∀h',h'.IsTupleIter it l (k+1)->Heap.SameBut it s.heap h'->R x {s with heap:=h'}):wpAny (model P w) A (Builtin.SmallTypes.nextOf (.ref it)) R E s:=by
 obtain⟨o,ho,hc,hd⟩:=id h1;obtain⟨ol,hol,_,nl,hdl⟩:=h2;unfold Builtin.SmallTypes.nextOf;refine _a (_S (name:=Str.ofString "__next__") h1.typeIs _ay (_an _ay h1.typeIs F.entry_tuple_iterator_next ?_ (F.args_tuple_iterator_next_1 _)));show wpAny _ _ (field (.ref it) 0 >>= _) _ _ s;refine _a (_K ho hd (x:=.ref l) rfl ?_);show wpAny _ _ (if (Value.ref l==Value.none)=true then _ else _) _ _ s;rw[_I (show ¬ ((Value.ref l==Value.none)=true) from _ax)];show wpAny _ _ (field (.ref it) 1 >>= _) _ _ s;refine _a (_K ho hd (x:=.int k 0) rfl ?_);show wpAny _ _ (seqItems? (.ref l) >>= _) _ _ s;refine _a (_az hol hdl ?_);simp only[_at,e];refine _a (wpAny_setField ho hd (by simp) (_k ⟨x,rfl,_k (q _ ?_ (Heap.SameBut.update ..))⟩));exact⟨_,Heap.get?_update_self _ ho (Obj.isFreed_of_fields (Obj.data_mapFields hd _)),(Obj.cls_mapFields ..).trans hc,by rw[Obj.data_mapFields hd];simp[rawInt]⟩
theorem z3G {it l:Addr} {k:Nat} {xs:Array Value} {R:Value->Shared->Prop} (hh:A.handled=none) (h1:s.heap.IsTupleIter it l k) (h2:s.heap.IsTuple l xs) (e:xs[k]? = none) (q:∀h' e,Heap.ExtBut it s.heap h'->(∃o,h'.get? e=some o/\o.cls=.type "StopIteration")->E (.ref e) {s with heap:=h'}):wpAny (model P w) A (Builtin.SmallTypes.nextOf (.ref it)) R E s:=by
 obtain⟨o,ho,hc,hd⟩:=id h1;obtain⟨ol,hol,_,nl,hdl⟩:=h2;unfold Builtin.SmallTypes.nextOf;refine _a (_S (name:=Str.ofString "__next__") h1.typeIs _ay (_an _ay h1.typeIs F.entry_tuple_iterator_next ?_ (F.args_tuple_iterator_next_1 _)));show wpAny _ _ (field (.ref it) 0 >>= _) _ _ s;refine _a (_K ho hd (x:=.ref l) rfl ?_);show wpAny _ _ (if (Value.ref l==Value.none)=true then _ else _) _ _ s;rw[_I (show ¬ ((Value.ref l==Value.none)=true) from _ax)];show wpAny _ _ (field (.ref it) 1 >>= _) _ _ s;refine _a (_K ho hd (x:=.int k 0) rfl ?_);show wpAny _ _ (seqItems? (.ref l) >>= _) _ _ s;refine _a (_az hol hdl ?_);simp only[_at,e];refine _a (_bA (_a (wpAny_setField ho hd (by simp) ?_)));show wpAny _ _ (newExc (.type "StopIteration") [] >>= _) _ _ _;refine _a ?_;simp only[newExc,newTuple];refine _a (_aj ?_ (by size_fits));refine _a (m:=firstArgMember _ _) (wpAny_of_eq (a:=Value.none) (by first | rfl | (simp only[firstArgMember];rfl)) ?_);refine _aj ?_ (by size_fits);simp only[raiseNew];refine _a (wpAny_handled ?_);first | rw[show A.in1.handled=none from hh] | rw[hh]
 refine _a (_k (wpAny_throw ?_));exact q _ _ (((Heap.SameBut.update ..).extBut.push _).push _) ⟨_,_u _ rfl,rfl⟩
theorem nx{b:Bool}{it l:Addr}{k:Nat}{xs:Array Value}{x:Value}{R:Value->Shared->Prop}(h1:Sit b s.heap it l k)(h2:Sco b s.heap l xs)(e:xs[k]? = some x) (q:∀h',Sit b h' it l (k+1)->Heap.SameBut it s.heap h'->R x {s with heap:=h'}):wpAny (model P w) A (Builtin.SmallTypes.nextOf (.ref it)) R E s:=by cases b with
 | true=>exact wpAny_nextOf_list_item h1 h2 e q | false=>exact z9d h1 h2 e q
theorem z4y {b:Bool} {it l:Addr} {k:Nat} {xs:Array Value} {R:Value->Shared->Prop} (hh:A.handled=none) (h1:Sit b s.heap it l k) (h2:Sco b s.heap l xs) (e:xs[k]? = none) (q:∀h' e,Heap.ExtBut it s.heap h'->(∃o,h'.get? e=some o/\o.cls=.type "StopIteration")->E (.ref e) {s with heap:=h'}):wpAny (model P w) A (Builtin.SmallTypes.nextOf (.ref it)) R E s:=by cases b with
 | true=>exact wpAny_nextOf_list_end hh h1 h2 e q | false=>exact z3G hh h1 h2 e q
theorem zn{a:Addr}{h h':Heap}(hs:Heap.SameBut a h h'){b:Addr}{o:Obj}(n:b≠a)(e:h.get? b=some o):h'.get? b=some o:=hs.extBut _ _ n e
theorem z7L {z TI TO i1 i2 l1 l2:Addr} {b1 b2:Bool} {k:Nat} {xs ys:Array Value} {x y a b:Value} {Q:Option Value->Shared->Prop} (D:ZipApart z TI TO i1 i2 l1 l2) (hz:IsZip s.heap z TI TO .none) (hTI:IsPair s.heap TI (.ref i1) (.ref i2)) (hTO:IsPair s.heap TO a b) (h1:Sit b1 s.heap i1 l1 k) (h2:Sit b2 s.heap i2 l2 k) (c1:Sco b1 s.heap l1 xs) (c2:Sco b2 s.heap l2 ys) (ex:xs[k]? = some x) (ey:ys[k]? = some y) (q:∀h',IsZip h' z TI TO (rawInt s.heap.objs.size)->IsPair h' TO x y->Sit b1 h' i1 l1 (k+1)->Sit b2 h' i2 l2 (k+1)->IsPair h' s.heap.objs.size x y->h'.objs.size=s.heap.objs.size+1-> (∀c o,c≠z->c≠TO->c≠i1->c≠i2->s.heap.get? c=some o->h'.get? c=some o)->Q (some (.ref s.heap.objs.size)) {s with heap:=h'}):wpAny (model P w) A (pyNext (.ref z)) Q E s:=by
 have hT:s.TypeIs (.ref z) "zip":=⟨_,hz,rfl⟩;unfold pyNext;refine _a (_bK (_S (name:=Str.ofString "__next__") hT _br (_an _br hT F.entry_zip_next (Q:=λv s'=>wpAny (model P w) A (pure (some v)) Q E s') ?_ (F.args_zip_next_1 _))));show wpAny _ _ (field (.ref z) 2 >>= _) _ _ _;refine _a (_K hz rfl (x:=.bool false) rfl ?_);show wpAny _ _ (field (.ref z) 3 >>= _) _ _ _;refine _a (_K hz rfl (x:=.ref TI) rfl ?_);refine _a (_az hTI rfl ?_);show wpAny _ _ (Builtin.SmallTypes.ownedTupleIsFree (.ref z) >>= _) _ _ _;refine _a ?_;unfold Builtin.SmallTypes.ownedTupleIsFree;refine _a (_K hz rfl (x:=.none) rfl (_k ?_));simp only[_Z];refine _a (_bA ?_);refine _a (_K hz rfl (x:=.ref TO) rfl ?_);refine _a (_O hz (by simp) λg1 z1 s1=>?_);replace z1:IsZip g1 z TI TO .ellipsis:=z1;refine _a ?_;simp only[List.zipIdx_cons,List.zipIdx_nil,List.forIn_cons,List.forIn_nil];refine _a (_a (_bL ?_));show wpAny _ _ (Builtin.SmallTypes.nextOf (.ref i1) >>= _) _ _ _;refine _a (nx (h1.to λo e=>zn s1 D.i1z e) (c1.to λo e=>zn s1 D.l1z e) ex λg2 t2 s2=>_k ?_);have o2:IsPair g2 TO a b:=zn s2 D.TOi1 (zn s1 D.TOz hTO);refine _a (_az o2 rfl ?_);refine _a (_bl o2 λg3 o3 s3=>?_);replace o3:IsPair g3 TO x b:=o3;refine _a (wpAny_letGo (_k ?_));refine _a (_a (_bL ?_));show wpAny _ _ (Builtin.SmallTypes.nextOf (.ref i2) >>= _) _ _ _;refine _a (nx (h2.to λo e=>zn s3 D.TOi2.symm (zn s2 D.i12.symm (zn s1 D.i2z e))) (c2.to λo e=>zn s3 D.l2TO (zn s2 D.l2i1 (zn s1 D.l2z e))) ey λg4 t4 s4=>_k ?_);have o4:IsPair g4 TO x b:=zn s4 D.TOi2 o3;refine _a (_az o4 rfl ?_);refine _a (_bl o4 λg5 o5 s5=>?_);replace o5:IsPair g5 TO x y:=o5;refine _a (wpAny_letGo (_k (_k ?_)));refine _a (_az o5 rfl ?_);refine _a (wpAny_newTuple ?_);have sz:g5.objs.size=s.heap.objs.size:=by rw[s5.1,s4.1,s3.1,s2.1,s1.1]
 have z5:IsZip g5 z TI TO .ellipsis:=zn s5 D.TOz.symm (zn s4 D.i2z.symm (zn s3 D.TOz.symm (zn s2 D.i1z.symm z1)));have k5:∀c o,c≠z->c≠TO->c≠i1->c≠i2->s.heap.get? c=some o->g5.get? c=some o:=λc o n1 n2 n3 n4 e=>zn s5 n2 (zn s4 n4 (zn s3 n2 (zn s2 n3 (zn s1 n1 e))));have t5:Sit b1 g5 i1 l1 (k+1):=t2.to λo e=>zn s5 D.TOi1.symm (zn s4 D.i12 (zn s3 D.TOi1.symm e));have u5:Sit b2 g5 i2 l2 (k+1):=t4.to λo e=>zn s5 D.TOi2.symm e;have zl:z<g5.objs.size:=_l z5;show wpAny _ _ (Builtin.SmallTypes.ownedTupleHandOut (.ref z) (.ref g5.objs.size) >>= _) _ _ _;refine _a ?_;unfold Builtin.SmallTypes.ownedTupleHandOut;have z6:IsZip (g5.push {cls:=.type "tuple",data:=.seq #[x,y]}) z TI TO .ellipsis:=_c _ z5;refine _a (_O z6 (by simp) λg7 z7 s7=>?_);replace z7:IsZip g7 z TI TO (rawInt g5.objs.size):=z7;refine _O z7 (by simp) λg8 z8 s8=>?_;replace z8:IsZip g8 z TI TO (rawInt g5.objs.size):=z8;have up:∀c o,c≠z->g5.get? c=some o->g8.get? c=some o:=λc o n e=>zn s8 n (zn s7 n (_c _ e));have p8:IsPair g8 g5.objs.size x y:=zn s8 (_bu zl) (zn s7 (_bu zl) (_u _ rfl));have e8:g8.objs.size=g5.objs.size+1:=by rw[s8.1,s7.1,_ai]
 rw[sz]at z8 p8 e8;refine _k ⟨_,rfl,_k ?_⟩;show Q (some (.ref g5.objs.size)) _;rw[sz];exact q g8 z8 (up _ _ D.TOz o5) (t5.to λo e=>up _ o D.i1z e) (u5.to λo e=>up _ o D.i2z e) p8 e8 λc o n1 n2 n3 n4 e=>up c o n1 (k5 c o n1 n2 n3 n4 e)
theorem zal {z TI TO i1 i2 l1 l2:Addr} {b1 b2:Bool} {k:Nat} {xs ys:Array Value} {a b:Value} {Q:Option Value->Shared->Prop} (hh:A.handled=none) (D:ZipApart z TI TO i1 i2 l1 l2) (hz:IsZip s.heap z TI TO .none) (hTI:IsPair s.heap TI (.ref i1) (.ref i2)) (hTO:IsPair s.heap TO a b) (h1:Sit b1 s.heap i1 l1 k) (h2:Sit b2 s.heap i2 l2 k) (c1:Sco b1 s.heap l1 xs) (c2:Sco b2 s.heap l2 ys) (en:xs[k]? = none\/ys[k]? = none) (q:∀h',(∀c o,c≠z->c≠TO->c≠i1->c≠i2->s.heap.get? c=some o->h'.get? c=some o)->Q none {s with heap:=h'}):wpAny (model P w) A (pyNext (.ref z)) Q E s:=by
 have hT:s.TypeIs (.ref z) "zip":=⟨_,hz,rfl⟩;have fin:∀h' e,(∀c o,c≠z->c≠TO->c≠i1->c≠i2->s.heap.get? c=some o->h'.get? c=some o)->(∃o,h'.get? e=some o/\o.cls=.type "StopIteration")-> wpAny (model P w) A (isInstance (.ref e) (.type "StopIteration") >>= λb=>if b=true then (pure none:Sem (Option Value)) else throw (.ref e)) Q E {s with heap:=h'}:=λh' e hk he=>by
  obtain⟨o,ho,hc⟩:=he;refine _a (wpAny_isInstance (T:="StopIteration") (b:=true) ⟨o,ho,hc⟩ isSubtype_stop ?_);exact _k (q _ hk)
 unfold pyNext;refine _a (_bK (_S (name:=Str.ofString "__next__") hT _br (_an _br hT F.entry_zip_next ?_ (F.args_zip_next_1 _))));show wpAny _ _ (field (.ref z) 2 >>= _) _ _ _;refine _a (_K hz rfl (x:=.bool false) rfl ?_);show wpAny _ _ (field (.ref z) 3 >>= _) _ _ _;refine _a (_K hz rfl (x:=.ref TI) rfl ?_);refine _a (_az hTI rfl ?_);show wpAny _ _ (Builtin.SmallTypes.ownedTupleIsFree (.ref z) >>= _) _ _ _;refine _a ?_;unfold Builtin.SmallTypes.ownedTupleIsFree;refine _a (_K hz rfl (x:=.none) rfl (_k ?_));simp only[_Z];refine _a (_bA ?_);refine _a (_K hz rfl (x:=.ref TO) rfl ?_);refine _a (_O hz (by simp) λg1 z1 s1=>?_);replace z1:IsZip g1 z TI TO .ellipsis:=z1;refine _a ?_;simp only[List.zipIdx_cons,List.zipIdx_nil,List.forIn_cons,List.forIn_nil];refine _a (_a (_bL ?_));show wpAny _ _ (Builtin.SmallTypes.nextOf (.ref i1) >>= _) _ _ _;cases ex:xs[k]? with
 | none=>
  refine _a (z4y hh (h1.to λo e=>zn s1 D.i1z e) (c1.to λo e=>zn s1 D.l1z e) ex λg2 e s2 he=>?_);obtain⟨oe,hoe,hce⟩:=he;have z2:IsZip g2 z TI TO .ellipsis:=s2 _ _ D.i1z.symm z1;have ez:e≠z:=λt=>by subst t;rw[z2]at hoe;cases hoe;simp at hce
  exact _O z2 (by simp) λg3 _ s3=>fin g3 e (λc o n1 _ n3 _ t=>zn s3 n1 (s2 _ _ n3 (zn s1 n1 t))) ⟨oe,zn s3 ez hoe,hce⟩ | some x=>
  have ey:ys[k]? = none:=by rcases en with t | t;rw[ex]at t;cases t;exact t
  refine _a (nx (h1.to λo e=>zn s1 D.i1z e) (c1.to λo e=>zn s1 D.l1z e) ex λg2 t2 s2=>_k ?_);have o2:IsPair g2 TO a b:=zn s2 D.TOi1 (zn s1 D.TOz hTO);refine _a (_az o2 rfl ?_);refine _a (_bl o2 λg3 o3 s3=>?_);refine _a (wpAny_letGo (_k ?_));refine _a (_a (_bL ?_));show wpAny _ _ (Builtin.SmallTypes.nextOf (.ref i2) >>= _) _ _ _;refine _a (z4y hh (h2.to λo e=>zn s3 D.TOi2.symm (zn s2 D.i12.symm (zn s1 D.i2z e))) (c2.to λo e=>zn s3 D.l2TO (zn s2 D.l2i1 (zn s1 D.l2z e))) ey λg4 e s4 he=>?_);obtain⟨oe,hoe,hce⟩:=he;have z4:IsZip g4 z TI TO .ellipsis:=s4 _ _ D.i2z.symm (zn s3 D.TOz.symm (zn s2 D.i1z.symm z1));have ez:e≠z:=λt=>by subst t;rw[z4]at hoe;cases hoe;simp at hce
  exact _O z4 (by simp) λg5 _ s5=>fin g5 e (λc o n1 n2 n3 n4 t=>zn s5 n1 (s4 _ _ n4 (zn s3 n2 (zn s2 n3 (zn s1 n1 t))))) ⟨oe,zn s5 ez hoe,hce⟩
end
def itO(b:Bool)(l:Addr):Obj:=match b with
 | true=>{cls:=.type "list_iterator",data:=.fields #[.ref l,.int 0 0]} | false=>{cls:=.type "tuple_iterator",data:=.fields #[.ref l,.int 0 0]}
theorem z1i{b:Bool}{h:Heap}{a l:Addr}(e:h.get? a=some (itO b l)):Sit b h a l 0:=by cases b with
 | true=>exact⟨_,e,rfl,rfl⟩ | false=>exact⟨_,e,rfl,rfl⟩
theorem ja(b:Bool)(l:Addr):(itO b l).isFreed=false:=by cases b<;>rfl
section
variable {P:Program}{w:World}{A:Around}{E:Value->Shared->Prop}{s:Shared}
theorem kO {b:Bool} {l:Addr} {xs:Array Value} {Q:Value->Shared->Prop} (h:Sco b s.heap l xs) (q:Q (.ref s.heap.objs.size) {s with heap:=s.heap.push (itO b l)}):wpAny (model P w) A (pyIter (.ref l)) Q E s:=by cases b with
 | true=>exact wpAny_pyIter_list h q | false=>exact wpAny_pyIter_tuple h q
end
abbrev G1(b1:Bool)(h:Heap)(l1:Addr):Heap:=h.push (itO b1 l1)
abbrev G2(b1 b2:Bool)(h:Heap)(l1 l2:Addr):Heap:=(G1 b1 h l1).push (itO b2 l2)
abbrev G3(b1 b2:Bool)(h:Heap)(l1 l2:Addr):Heap:=(G2 b1 b2 h l1 l2).push {cls:=.type "tuple",data:=.seq #[.ref h.objs.size,.ref (G1 b1 h l1).objs.size]}
abbrev G4(b1 b2:Bool)(h:Heap)(l1 l2:Addr):Heap:=(G3 b1 b2 h l1 l2).push {cls:=.type "tuple",data:=.seq #[.none,.none]}
abbrev G5(b1 b2:Bool)(h:Heap)(l1 l2:Addr):Heap:=(G4 b1 b2 h l1 l2).push {cls:=.type "zip",data:=.fields #[.none,.bool false,.bool false,.ref (G2 b1 b2 h l1 l2).objs.size,.ref (G3 b1 b2 h l1 l2).objs.size]}
theorem z5z (b1 b2:Bool) (l1 l2:Addr) (xs ys:Array Value): Meets (Builtin.«zip.__new__» ⟨[.type "zip",.ref l1,.ref l2],[]⟩) (λ_ R s=>Sco b1 s.heap l1 xs/\Sco b2 s.heap l2 ys/\R (.ok (.ret (.ref (G4 b1 b2 s.heap l1 l2).objs.size))) {s with heap:=G5 b1 b2 s.heap l1 l2}):= .of_wp λprog w A R s h=>by
  obtain⟨hp,g,d,tk,os⟩:=s;obtain⟨c1,c2,h⟩:=h;have hsub:=sub_zip;have q1:Sco b1 (Shared.heap ⟨hp,g,d,tk,os⟩) l1 xs:=c1;have q2:Sco b2 (Shared.heap ⟨hp.push (itO b1 l1),g,d,tk,os⟩) l2 ys:=c2.to λo e=>_c _ e;wp_walk using kO q1,kO q2;exact⟨_,rfl,h⟩
section
variable {P:Program}{w:World}{A:Around}{E:Value->Shared->Prop}{s:Shared}
theorem z6z {b1 b2:Bool} {l1 l2:Addr} {xs ys:Array Value} {Q:Value->Shared->Prop} (c1:Sco b1 s.heap l1 xs) (c2:Sco b2 s.heap l2 ys) (h:∀h',IsZip h' (s.heap.objs.size+4) (s.heap.objs.size+2) (s.heap.objs.size+3) .none->IsPair h' (s.heap.objs.size+2) (.ref s.heap.objs.size) (.ref (s.heap.objs.size+1))-> IsPair h' (s.heap.objs.size+3) .none .none->Sit b1 h' s.heap.objs.size l1 0->Sit b2 h' (s.heap.objs.size+1) l2 0->(∀c o,s.heap.get? c=some o->h'.get? c=some o)->Q (.ref (s.heap.objs.size+4)) {s with heap:=h'}): wpAny (model P w) A (call (.type "zip") [.ref l1,.ref l2]) Q E s:=by
 refine callType_new F.called_zip (by decide) (F.typeCall_zip_2 _ _) (F.newCall_zip_2 _ _) (λobj=>F.args_object_init_3 obj _ _) F.entry_zip_new (z5z b1 b2 l1 l2 xs ys) ⟨c1,c2,?_⟩;have z1:(G1 b1 s.heap l1).objs.size=s.heap.objs.size+1:=_ai ..;have z2:(G2 b1 b2 s.heap l1 l2).objs.size=s.heap.objs.size+2:=by rw[_ai,z1]
 have z3:(G3 b1 b2 s.heap l1 l2).objs.size=s.heap.objs.size+3:=by rw[_ai,z2]
 have z4:(G4 b1 b2 s.heap l1 l2).objs.size=s.heap.objs.size+4:=by rw[_ai,z3]
 have up:∀{h:Heap} {o:Obj} {c:Addr} {u:Obj},h.get? c=some u->(h.push o).get? c=some u:=λe=>_c _ e;have g5:(G5 b1 b2 s.heap l1 l2).get? (G4 b1 b2 s.heap l1 l2).objs.size=some _:=_u _ rfl;have g4:(G5 b1 b2 s.heap l1 l2).get? (G3 b1 b2 s.heap l1 l2).objs.size=some _:=up (_u _ rfl);have g3:(G5 b1 b2 s.heap l1 l2).get? (G2 b1 b2 s.heap l1 l2).objs.size=some _:=up (up (_u _ rfl));have g2:(G5 b1 b2 s.heap l1 l2).get? (G1 b1 s.heap l1).objs.size=some (itO b2 l2):=up (up (up (_u _ (ja b2 l2))));have g1:(G5 b1 b2 s.heap l1 l2).get? s.heap.objs.size=some (itO b1 l1):=up (up (up (up (_u _ (ja b1 l1)))));show _/\_;rw[z2,z3,z4]at g5;rw[z1,z2]at g3;rw[z3]at g4;rw[z1]at g2;rw[z4];exact⟨⟨_,g5,rfl⟩,h _ g5 g3 g4 (z1i g1) (z1i g2) λc o e=>up (up (up (up (up e))))⟩
end
end Zz
namespace L2
open Zz
def Sq(b:Bool)(K:W.Frag)(H:Hp)(a:Addr)(xs:List V):Prop:=match b with
 | true=>SqL K H a xs | false=>SqT K H a xs
section
variable {X:Cx}{pins:List (Addr×Obj)}{O:St}{H:Hp}{s:Shared}{h':Heap}
theorem Inv.sq{b:Bool}{a:Addr}{xs:List V}(I:Inv X pins O H s)(h:Sq b X.K H a xs):∃its:List Value,yC xs its/\Sco b s.heap a its.toArray:=by cases b with
 | true=>obtain⟨its,r,p,_⟩:=I.list h;exact⟨its,r,p.isList⟩ | false=>obtain⟨its,r,p,_⟩:=I.tuple h;exact⟨its,r,p⟩
theorem Inv.sq_inj{b:Bool}{a:Addr}{xs ys:List V}(I:Inv X pins O H s)(h:Sq b X.K H a xs)(h':Sq b X.K H a ys):xs=ys:=by cases b with
 | true=>exact I.list_inj h h' | false=>exact I.tuple_inj h h'
theorem Inv.turnedL {t':Nat} {ch:List Addr} (I:Inv X pins O H s) (k:∀b o,b∉ch->s.heap.get? b=some o->h'.get? b=some o) (f:∀b∈ch,z1V X pins H b):Inv X pins O H {s with heap:=h',toks:=t'}:=by
 have nit:∀b u,H b=some u->b∉ch:=λb u e z=>by rw[(f b z).1]at e;cases e
 refine I.step (g':=s.gens) (d':=s.drawn) (ch:=ch) (λb hb=>⟨(f b hb).2.2.2.1,(f b hb).2.1,(f b hb).2.2.2.2.1,(f b hb).2.2.2.2.2⟩) (λb o _ _ hc e _=>k b o hc e) (λb o _ _ hc e _=>⟨o.slots,k b o hc e⟩) (λ_ _ _ _ n=>n) (λb o hc e=>⟨o,k b o hc e⟩) (λ_ _ e=>e) (λ_ _ _ e=>e) (λb ps e=>⟨#[],by rw[e];simp⟩) (λm hm=>?_) (λb u e=>?_) I.bare
 ·obtain⟨o,es,ep,ho,r⟩:=hm;exact⟨o,es,ep,k _ o (λz=>(f _ z).2.1 rfl) ho,r⟩
 ·refine (I.hok b u e).stay (λc v hc q=>k c v ?_ q) (λ_ q=>q) λ_ _ q=>q;rcases hc with z | z;·rw[z];exact nit b u e
  ·exact nit c _ z
end
def Itz(K:W.Frag)(b1 b2:Bool)(l1 l2:Addr):It:= ⟨λi H=>∃xs ys x y,Sq b1 K H l1 xs/\Sq b2 K H l2 ys/\xs[i]? = some x/\ys[i]? = some y, λi H v H'=>∃T x y,H T=none/\v=.ref T/\H'=upd H T (.tup [x,y])/\(∀xs,Sq b1 K H l1 xs->xs[i]? = some x)/\∀ys,Sq b2 K H l2 ys->ys[i]? = some y, λi H=>∃xs ys,Sq b1 K H l1 xs/\Sq b2 K H l2 ys/\(xs.length<=i\/ys.length<=i)⟩
theorem z6x {P:Program} {w:World} {K:W.Frag} {elts:List Expr} {kt:Nat} {tp:Pos} {b1 b2:Bool} {z TI TO i1 i2 l1 l2:Addr} (D:ZipApart z TI TO i1 i2 l1 l2): z7X P w K (.Tuple elts kt tp) (Itz K b1 b2 l1 l2) [z,TI,TO,i1,i2] z (λi h=>IsZip h z TI TO .none/\IsPair h TI (.ref i1) (.ref i2)/\(∃a b,IsPair h TO a b)/\Sit b1 h i1 l1 i/\Sit b2 h i2 l2 i) where
 mem:=by simp
 obj:=λi h ⟨hz,hTI,⟨a,b,hTO⟩,h1,h2⟩ c hc=>by
  have hc':c=z\/c=TI\/c=TO\/c=i1\/c=i2:=by simpa using hc
  rcases hc' with rfl | rfl | rfl | rfl | rfl;·exact⟨_,hz,λv e=>by simp at e⟩
  ·exact⟨_,hTI,λv e=>by simp at e⟩
  ·exact⟨_,hTO,λv e=>by simp at e⟩
  ·exact h1.ob
  ·exact h2.ob
 keep:=λi h h' ⟨hz,hTI,⟨a,b,hTO⟩,h1,h2⟩ k=>⟨k z (by simp) _ hz,k TI (by simp) _ hTI,⟨a,b,k TO (by simp) _ hTO⟩,h1.to λo e=>k i1 (by simp) o e,h2.to λo e=>k i2 (by simp) o e⟩;item:=by
  intro X hP hw hK hc i pins s O H E I hf ⟨hz,hTI,⟨a,b,hTO⟩,h1,h2⟩ ⟨xs,ys,x,y,qx,qy,ex,ey⟩;subst hP hw hK;obtain⟨ix,rx,cx⟩:=I.sq qx;obtain⟨iy,ry,cy⟩:=I.sq qy;obtain⟨u,hu,ru⟩:=rx.get ex;obtain⟨v,hv,rv⟩:=ry.get ey;refine z7L D hz hTI hTO h1 h2 cx cy (x:=u) (y:=v) (by simpa using hu) (by simpa using hv) λg a1 a2 a3 a4 a5 a6 hk=>⟨_,rfl,?_⟩;have kk:∀c o,c∉[z,TO,i1,i2]->s.heap.get? c=some o->g.get? c=some o:=λc o n e=>hk c o (λt=>n (by simp[t])) (λt=>n (by simp[t])) (λt=>n (by simp[t])) (λt=>n (by simp[t])) e;have sub:∀c∈[z,TO,i1,i2],c∈[z,TI,TO,i1,i2]:=λc hc=>by
   have:c=z\/c=TO\/c=i1\/c=i2:=by simpa using hc
   rcases this with rfl | rfl | rfl | rfl<;>simp
  have I1:Inv X pins O H {s with heap:=g}:=I.turnedL (t':=s.toks) kk λc hc=>hf c (sub c hc);refine wpAny_letOwnedTupleGo_zip a1 λg2 z2 s2=>?_;obtain⟨f0,f1,f2,f3,f4,f5⟩:=hf z (by simp);have I2:Inv X pins O H {s with heap:=g2}:=I1.turned (t':=s.toks) (λc o n e=>zn s2 n e) f0 f1 f3 f4 f5;have new:z1V X pins H s.heap.objs.size:=I.fpOk (_n _) (I.hok.fresh (_n _));have ne:∀{c:Addr} {o:Obj},s.heap.get? c=some o->c≠s.heap.objs.size:=λe=>_F (_l e);have p2:IsPair g2 s.heap.objs.size u v:=zn s2 (ne hz).symm a5;refine⟨.ref s.heap.objs.size,upd H s.heap.objs.size (.tup [x,y]),I2.track new ⟨?_,[u,v],.cons ru (.cons rv .nil),⟨_,p2,rfl,rfl,_,rfl⟩⟩,rfl,⟨_,x,y,new.1,rfl,rfl,λzs qz=>?_,λzs qz=>?_⟩,⟨z2,?_,⟨_,_,zn s2 D.TOz a2⟩,a3.to λo e=>zn s2 D.i1z e,a4.to λo e=>zn s2 D.i2z e⟩,λc hc=>?_⟩;·show 2<=sizeLine;decide
  ·rw[I.sq_inj qz qx];exact ex
  ·rw[I.sq_inj qz qy];exact ey
  ·exact zn s2 D.TIz (hk TI _ D.TIz D.TITO D.TIi1 D.TIi2 hTI)
  ·have hc':c=z\/c=TI\/c=TO\/c=i1\/c=i2:=by simpa using hc
   have:c≠s.heap.objs.size:=by
    rcases hc' with rfl | rfl | rfl | rfl | rfl;·exact ne hz
    ·exact ne hTI
    ·exact ne hTO
    ·exact _F h1.lt
    ·exact _F h2.lt
   rw[zC this];exact (hf c hc).1
 done:=by
  intro X hP hw hK hc i pins s O H E I hf ⟨hz,hTI,⟨a,b,hTO⟩,h1,h2⟩ ⟨xs,ys,qx,qy,hl⟩;subst hP hw hK;obtain⟨ix,rx,cx⟩:=I.sq qx;obtain⟨iy,ry,cy⟩:=I.sq qy;have lx:=rx.length;have ly:=ry.length;refine zal (I.ok.hd hc) D hz hTI hTO h1 h2 cx cy ?_ λg hk=>⟨rfl,?_⟩
  ·rcases hl with hl | hl;·exact .inl (by simp;omega)
   ·exact .inr (by simp;omega)
  ·exact I.turnedL (t':=s.toks) (ch:=[z,TO,i1,i2]) (λc o n e=>hk c o (λt=>n (by simp[t])) (λt=>n (by simp[t])) (λt=>n (by simp[t])) (λt=>n (by simp[t])) e) λc hc=>hf c (by
    have:c=z\/c=TO\/c=i1\/c=i2:=by simpa using hc
    rcases this with rfl | rfl | rfl | rfl<;>simp)
 self:=λ_ _ _ _ _ st h=>wpAny_pyIter_zip st.1 h
theorem zax{X:Cx}{elts:List Expr}{kt:Nat}{tp:Pos}{a b:Expr}{ta:TA}{p pos:Pos}(hg:Gl X "zip")(hm:X.mg "zip"=none)(ha:PA X [a,b] ta)(hs:starEach [a,b] X.env=(false,eval a X.env)::starEach [b] X.env:=by rfl)(hpl:(backTo pos (starEach [b] X.env)).any (·.1)=false:=by rfl): PI X (.Tuple elts kt tp) (.Call (.Name "zip" p) [a,b] [] pos) (λO H R=>ta O H λvs H1=>∃l1 l2 b1 b2,vs=[.ref l1,.ref l2]/\(∃xs,Sq b1 X.K H1 l1 xs)/\(∃ys,Sq b2 X.K H1 l2 ys)/\R (Itz X.K b1 b2 l1 l2) H1):=by
 intro pins s O H R I h;refine _aL (z05 I hg hm (u:=.type "zip") (by first | exact PySem.boot_zip | rfl | decide +kernel) ?_ (by decide) (by decide));refine _aw (thn (ha pos pins s O H _ I h) λus s1 ⟨vs,H1,I1,r1,q1⟩=>?_) hs hpl;obtain⟨l1,l2,b1,b2,rfl,⟨xs,qx⟩,⟨ys,qy⟩,q⟩:=q1;cases r1 with | cons r1 r2=> cases r2 with | cons r2 r3=>
   cases r3;cases r1;cases r2;obtain⟨ix,rx,cx⟩:=I1.sq qx;obtain⟨iy,ry,cy⟩:=I1.sq qy;have lt1:l1<s1.heap.objs.size:=by cases b1 with
    | true=>obtain⟨o,e,_⟩:=cx;exact _l e | false=>obtain⟨o,e,_⟩:=cx;exact _l e
   have lt2:l2<s1.heap.objs.size:=by cases b2 with
    | true=>obtain⟨o,e,_⟩:=cy;exact _l e | false=>obtain⟨o,e,_⟩:=cy;exact _l e
   have D:ZipApart (s1.heap.objs.size+4) (s1.heap.objs.size+2) (s1.heap.objs.size+3) s1.heap.objs.size (s1.heap.objs.size+1) l1 l2:=by
    have e1:∀k:Nat,l1≠s1.heap.objs.size+k:=λk=>_F (_h lt1 (_bV _ _));have e2:∀k:Nat,l2≠s1.heap.objs.size+k:=λk=>_F (_h lt2 (_bV _ _));have nk:∀(m j k:Nat),j≠k->m+j≠m+k:=λm j k h z=>h (Nat.add_left_cancel z);exact⟨nk _ 2 4 (by decide),nk _ 3 4 (by decide),nk _ 0 4 (by decide),nk _ 1 4 (by decide),nk _ 2 3 (by decide),nk _ 2 0 (by decide),nk _ 2 1 (by decide),nk _ 3 0 (by decide),nk _ 3 1 (by decide),nk _ 0 1 (by decide),e1 4,e1 3,e1 0,e1 1,e2 4,e2 3,e2 0,e2 1⟩
   refine z6z cx cy λg hz hTI hTO h1 h2 hk=>?_;refine wpAny_pyIter_zip hz ?_;refine⟨_,_,_,_,H1,rfl,I1.kept (t':=s1.toks) hk,z6x D,⟨hz,hTI,⟨_,_,hTO⟩,h1,h2⟩,λc hc=>?_,q⟩;have hc':s1.heap.objs.size<=c:=by
    have:c=s1.heap.objs.size+4\/c=s1.heap.objs.size+2\/c=s1.heap.objs.size+3\/c=s1.heap.objs.size\/c=s1.heap.objs.size+1:=by simpa using hc
    rcases this with rfl | rfl | rfl | rfl | rfl<;>first | exact _n _ | exact _bV _ _
   exact I1.fpOk hc' (I1.hok.fresh hc')
end L2
namespace Zz
section
variable {P:Program}{w:World}{A:Around}{E:Value->Shared->Prop}{s:Shared}
theorem z0W {b : Bool} {l : Addr} {its : Array Value} {Q : Value → Shared → Prop} (hh : A.handled = none) (h : Sco b s.heap l its) (k : ∀s2 : Shared, s2 = { s with heap := s.heap.push (itO b l) } → ∀St : Nat → Heap → Prop, Walks P w A s.heap.objs.size [s.heap.objs.size, l] [s.heap.objs.size] its.size (λi v => its[i]? = some v) St → St 0 s2.heap → (∀c ∈ [s.heap.objs.size, l], c < s2.heap.objs.size) → (∀h' : Heap, (∀c o, c ∉ [s.heap.objs.size] → s2.heap.get? c = some o → h'.get? c = some o) → ∀c o, s.heap.get? c = some o → h'.get? c = some o) → Q (.ref s.heap.objs.size) s2) : wpAny (model P w) A (pyIter (.ref l)) Q E s := by
  have lt : l < s.heap.objs.size := by cases b with
    | true => obtain⟨o, e, _⟩ := h; exact _l e | false => obtain⟨o, e, _⟩ := h; exact _l e
  have ne : l ≠ s.heap.objs.size := _F lt;have bd : ∀c ∈ [s.heap.objs.size, l], c < (s.heap.push (itO b l)).objs.size := λc hc => by
    have : c = s.heap.objs.size ∨ c = l := by simpa using hc
    rw[_ai];rcases this with rfl | rfl;· exact _bf _
    · exact _bH lt
  have old : ∀h' : Heap, (∀c o, c ∉ [s.heap.objs.size] → (s.heap.push (itO b l)).get? c = some o → h'.get? c = some o) → ∀c o, s.heap.get? c = some o → h'.get? c = some o := λh' hk c o e =>
    hk c o (fun z => by have : c = s.heap.objs.size := by simpa using z
                        exact absurd (this ▸ _l e) (_ar _)) (_c _ e);refine kO h ?_;have g : (s.heap.push (itO b l)).get? s.heap.objs.size = some (itO b l) := _u _ (ja b l);cases b with
  | true => exact k _ rfl _ (Walks.list hh _ l ne its) ⟨z1i (b := true) g, Sco.to (b := true) h λo e => _c _ e⟩ bd old | false => exact k _ rfl _ (Walks.tuple hh _ l ne its) ⟨z1i (b := false) g, Sco.to (b := false) h λo e => _c _ e⟩ bd old
end
end Zz
namespace L2
open Zz
def maxL:List Int->Int
 | []=>0 | x::xs=>xs.foldl max x
def minL:List Int->Int
 | []=>0 | x::xs=>xs.foldl min x
theorem wu:∀(xs:List Int)(x:Int),x<=xs.foldl max x/\(∀y∈xs,y<=xs.foldl max x)/\(xs.foldl max x=x\/xs.foldl max x∈xs)
 | [],x=>⟨Int.le_refl _,by simp,.inl rfl⟩ | y::ys,x=>by
  obtain⟨h1,h2,h3⟩:=wu ys (max x y);refine⟨by simp only[_aF];omega,λz hz=>?_,?_⟩
  ·simp only[_aF];rcases _p.mp hz with rfl | hz;·omega
   ·exact h2 z hz
  ·simp only[_aF];rcases h3 with h3 | h3
   ·rw[h3];rcases _bw x y with h | h;·exact .inr (by rw[Int.max_eq_right h];simp)
    ·exact .inl (Int.max_eq_left h)
   ·exact .inr (_z _ h3)
theorem wv:∀(xs:List Int)(x:Int),xs.foldl min x<=x/\(∀y∈xs,xs.foldl min x<=y)/\(xs.foldl min x=x\/xs.foldl min x∈xs)
 | [],x=>⟨Int.le_refl _,by simp,.inl rfl⟩ | y::ys,x=>by
  obtain⟨h1,h2,h3⟩:=wv ys (min x y);refine⟨by simp only[_aF];omega,λz hz=>?_,?_⟩
  ·simp only[_aF];rcases _p.mp hz with rfl | hz;·omega
   ·exact h2 z hz
  ·simp only[_aF];rcases h3 with h3 | h3
   ·rw[h3];rcases _bw x y with h | h;·exact .inl (Int.min_eq_left h)
    ·exact .inr (by rw[Int.min_eq_right h];simp)
   ·exact .inr (_z _ h3)
theorem maxL_ge{xs:List Int}:∀y∈xs,y<=maxL xs:=by cases xs with
 | nil=>simp | cons x xs=>intro y hy;rcases _p.mp hy with rfl | hy;exact (wu xs y).1;exact (wu xs x).2.1 y hy
theorem maxL_mem{xs:List Int}(h:xs≠[]):maxL xs∈xs:=by cases xs with
 | nil=>exact absurd rfl h | cons x xs=>rcases (wu xs x).2.2 with e | e;exact (show xs.foldl max x∈x::xs by rw[e];simp);exact _z _ e
theorem minL_le{xs:List Int}:∀y∈xs,minL xs<=y:=by cases xs with
 | nil=>simp | cons x xs=>intro y hy;rcases _p.mp hy with rfl | hy;exact (wv xs y).1;exact (wv xs x).2.1 y hy
theorem minL_mem{xs:List Int}(h:xs≠[]):minL xs∈xs:=by cases xs with
 | nil=>exact absurd rfl h | cons x xs=>rcases (wv xs x).2.2 with e | e;exact (show xs.foldl min x∈x::xs by rw[e];simp);exact _z _ e
section
variable {X:Cx}
theorem kh {ns:List Int} {its:List Value} (r:yC (ns.map V.int) its) {i:Nat} {v:Value} (e:its.toArray[i]? = some v):∃t,v=.int (ns.getD i 0) t/\i<ns.length:=by
 have e':its[i]? = some v:=by simpa using e
 have hl:=r.length;have hi:i<ns.length:=by
  have:=(_b.mp e').1;simp at hl;omega
 obtain⟨u,hu,ru⟩:=r.get (i:=i) (x:=V.int ns[i]) (by simp[hi]);rw[e']at hu;cases hu;obtain⟨t,rfl⟩:=ru;exact⟨t,by simp[List.getD,hi],hi⟩
theorem getD_in{ns:List Int}{i:Nat}(h:i<ns.length):ns.getD i 0∈ns:=by
 rw[List.getD,_d h];exact _ad _
theorem z5w (hc:X.calm=true):yM X (.builtin "max") (λxs H Q=>∃b p ns,xs=[.ref p]/\Sq b X.K H p (ns.map V.int)/\ns≠[]/\Q (.int (maxL ns)) H):=by
 intro pins s O H xs us Q I r h;obtain⟨b,p,ns,rfl,hq,hne,q⟩:=h;obtain⟨u,rfl,ru⟩:=vals1 r;cases ru;obtain⟨its,rv,co⟩:=I.sq hq;have hl:its.length=ns.length:=by have:=rv.length;simp at this;omega
 have hn:0<ns.length:=_a0.mpr hne;refine call_max_walk (z0W (I.ok.hd hc) co λs2 e2 St W st bd old=>?_);subst e2;refine⟨_,_,_,_,_,_,_,rfl,W,st,bd,by simpa[hl] using hn,CmpOf.ints_gt (λi=>ns.getD i 0) (λi v e=>let ⟨t,e1,_⟩:=kh rv e;⟨t,e1⟩),λv h' tk e hk=>?_⟩;obtain⟨t,e1,lt⟩:=kh rv e;obtain⟨h1,h2⟩:=argBest_gt (λi=>ns.getD i 0) (its.toArray.size-1);have em:ns.getD (argBest (λi j=>decide (ns.getD i 0 > ns.getD j 0)) (its.toArray.size-1)) 0=maxL ns:=by
  refine Int.le_antisymm (maxL_ge _ ?_) ?_;·exact getD_in lt
  ·obtain⟨j,hj,ej⟩:=_U.mp (maxL_mem hne);have:=h2 j (by simp[hl];omega);simp only[List.getD,_d hj,_ap,ej]at this;simpa[List.getD] using this
 rw[e1,em];exact⟨.int (maxL ns),H,I.kept (t':=tk) (old h' hk),⟨t,rfl⟩,q⟩
theorem z4t (hc:X.calm=true):yM X (.builtin "min") (λxs H Q=>∃b p ns,xs=[.ref p]/\Sq b X.K H p (ns.map V.int)/\ns≠[]/\Q (.int (minL ns)) H):=by
 intro pins s O H xs us Q I r h;obtain⟨b,p,ns,rfl,hq,hne,q⟩:=h;obtain⟨u,rfl,ru⟩:=vals1 r;cases ru;obtain⟨its,rv,co⟩:=I.sq hq;have hl:its.length=ns.length:=by have:=rv.length;simp at this;omega
 have hn:0<ns.length:=_a0.mpr hne;refine call_min_walk (z0W (I.ok.hd hc) co λs2 e2 St W st bd old=>?_);subst e2;refine⟨_,_,_,_,_,_,_,rfl,W,st,bd,by simpa[hl] using hn,CmpOf.ints_lt (λi=>ns.getD i 0) (λi v e=>let ⟨t,e1,_⟩:=kh rv e;⟨t,e1⟩),λv h' tk e hk=>?_⟩;obtain⟨t,e1,lt⟩:=kh rv e;obtain⟨h1,h2⟩:=argBest_lt (λi=>ns.getD i 0) (its.toArray.size-1);have em:ns.getD (argBest (λi j=>decide (ns.getD i 0<ns.getD j 0)) (its.toArray.size-1)) 0=minL ns:=by
  refine Int.le_antisymm ?_ (minL_le _ ?_)
  ·obtain⟨j,hj,ej⟩:=_U.mp (minL_mem hne);have:=h2 j (by simp[hl];omega);simp only[List.getD,_d hj,_ap,ej]at this;simpa[List.getD] using this
  ·exact getD_in lt
 rw[e1,em];exact⟨.int (minL ns),H,I.kept (t':=tk) (old h' hk),⟨t,rfl⟩,q⟩
theorem all_range{bs:List Bool}:(List.range bs.length).all (λi=>bs.getD i false)=bs.all id:=by
 rw[Bool.eq_iff_iff];simp only[_y,List.mem_range,id];constructor
 ·intro h x hx;obtain⟨j,hj,ej⟩:=_U.mp hx;have:=h j hj;simpa[List.getD,hj,ej] using this
 ·intro h i hi;simp only[List.getD,_d hi,_ap];exact h _ (_ad _)
theorem z4P (hc:X.calm=true):yM X (.builtin "all") (λxs H Q=>∃(b:Bool) (p:Addr) (bs:List Bool),xs=[.ref p]/\Sq b X.K H p (bs.map V.bl)/\Q (.bl (bs.all id)) H):=by
 intro pins s O H xs us Q I r h;obtain⟨b,p,bs,rfl,hq,q⟩:=h;obtain⟨u,rfl,ru⟩:=vals1 r;cases ru;obtain⟨its,rv,co⟩:=I.sq hq;have hl:its.length=bs.length:=by have:=rv.length;simp at this;omega
 refine call_all_walk (z0W (I.ok.hd hc) co λs2 e2 St W st bd old=>?_);subst e2;refine⟨_,_,_,_,_,_,λi=>bs.getD i false,rfl,W,st,λi v s3 Q3 E3 e q3=>?_,λh' tk hk=>?_⟩
 ·have e':its[i]? = some v:=by simpa using e
  have hi:i<bs.length:=by have:=(_b.mp e').1;omega
  obtain⟨u,hu,ru⟩:=rv.get (i:=i) (x:=V.bl bs[i]) (by simp[hi]);rw[e']at hu;cases hu;cases ru;have:bs.getD i false=bs[i]:=by simp[List.getD,hi]
  have q3:Q3 (bs.getD i false) s3:=q3;rw[this]at q3;exact _as q3
 ·have ez:its.toArray.size=bs.length:=by simp[hl]
  rw[ez,all_range];exact⟨.bl (bs.all id),H,I.kept (t':=tk) (old h' hk),rfl,q⟩
end
end L2
namespace L2
theorem z2r{X:Cx}:yM X (.builtin "isinstance") (λxs H Q=>∃x t T b,xs=[x,.ty T]/\z3j X.K H x t/\W.kitOne X.K t (.type T)=some b/\Q (.bl b) H):=by
 intro pins s O H xs us Q I r h;obtain⟨x,t,T,b,rfl,ht,hk,q⟩:=h;obtain⟨u,v,rfl,ru,rv⟩:=vals2 r;cases rv;exact z4A I ru ht hk λtk=>⟨.bl b,H,I.tok _,rfl,q⟩
end L2
namespace Dd
open L2
def tyD:D->Option String
 | .non=>some "NoneType" | .bl _=>some "bool" | .int _=>some "int" | .str _=>some "str" | .tup _=>some "tuple" | .lst _=>some "list" | .loc _=>some "list" | .dct=>some "dict" | _=>none
def isT(T t:String):Bool:=t==T||(T=="int"&&t=="bool")
def gIs(T:String):D->Sto->R D:=λd s=>match tyD d with | some t=>.ok (.bl (isT T t)) s | none=>.no
theorem z8L{K:W.Frag}{t:String}(h:t∈["NoneType","bool","int","str","tuple","list","dict"])(T:String)(hT:T∈["int","bool","str","tuple","list"]):W.kitOne K (.type t) (.type T)=some (isT T t):=by
 have hh:t="NoneType"\/t="bool"\/t="int"\/t="str"\/t="tuple"\/t="list"\/t="dict":=by simpa using h
 have hh':T="int"\/T="bool"\/T="str"\/T="tuple"\/T="list":=by simpa using hT
 rcases hh with rfl | rfl | rfl | rfl | rfl | rfl | rfl<;>rcases hh' with rfl | rfl | rfl | rfl | rfl<;>kernel_rfl
theorem z9W{mg:Gm}{H:Hp}{Y:List Addr}{s:Sto}{d:D}{v:V}{t:String}(r:Rep mg H Y s)(dn:Den mg H Y d v)(e:tyD d=some t):z3j mg.K H v (.type t)/\t∈["NoneType","bool","int","str","tuple","list","dict"]:=by cases d with
 | non=>simp only[Den]at dn;subst dn;cases e;exact⟨.non,by simp⟩ | bl b=>cases vN dn;cases e;exact⟨.bl b,by simp⟩ | int b=>cases yf dn;cases e;exact⟨.int b,by simp⟩ | str b=>cases z1Y dn;cases e;exact⟨.str b,by simp⟩ | tup b=>
  cases e;simp only[Den]at dn;obtain⟨a,vs,rfl,h1,_⟩:=dn;exact⟨.tup h1,by simp⟩ | lst b=>
  cases e;simp only[Den]at dn;obtain⟨a,o,vs,rfl,h1,_⟩:=dn;exact⟨.frz h1,by simp⟩ | loc l=>
  cases e;simp only[Den]at dn;obtain⟨a,rfl,h1,vs,h2⟩:=dn;exact⟨.lst h2,by simp⟩ | dct=>
  cases e;simp only[Den]at dn;obtain⟨a,rfl,h1⟩:=dn;exact⟨.dK h1,by simp⟩ | _=>cases e
section
variable {X:Cx}{E:XK}{e a b c tg:Expr}{es:List Expr}{pos:Pos}{CX:CXT}
def eIs(T:String)(f:FE):FE:=λZ s=>(f Z s).bind λd s1=>gIs T d s1
theorem z8U{p p2:Pos}{T:String}{tn:Str}{f:FE}(hT:T∈["int","bool","str","tuple","list"])(hv:bootBuiltins tn=some (.type T))(hg:Gl X "isinstance")(hm:X.mg "isinstance"=none)(hg2:Gl X tn)(hm2:X.mg tn=none)(he:RE X E e f) (hn:tn≠"__name__":=by decide)(hd:(tn==("__debug__":Str))=false:=by decide) (hs:starEach [e,.Name tn p2] X.env=(false,eval e X.env)::starEach [.Name tn p2] X.env:=by rfl)(hpl:(backTo pos (starEach [.Name tn p2] X.env)).any (·.1)=false:=by rfl):RE X E (.Call (.Name "isinstance" p) [e,.Name tn p2] [] pos) (eIs T f):= ye (z3f z2r hg hm (by decide +kernel) (jM he (jM (z83 hg2 hm2 hv (show xL (.ty T) (.type T) from rfl) hn hd) z32) hs) (by decide) (by decide) hs hpl) λO H Q ⟨Y,Z,s,r,en,h⟩=>by
  refine yE (k:=λZ d s1=>gIs T d s1) r en h _ λv H1 Y1 s1 d r1 en1 dn stp h1=>?_;unfold gIs at h1;split at h1
  ·rename_i t et;obtain⟨q1,q2⟩:=z9W r1 dn et;exact⟨v,.type t,T,isT T t,rfl,q1,z8L q2 T hT,okR.here (b:=V.bl (isT T t)) h1 r1 yY⟩
  ·exact h1.elim
def z8R:List D->Sto->R D
 | [.int i],s=>.ok (.int (if i<0 then -i else i)) s | _,_=>.no
theorem zbV:∃r,yM X (.builtin "abs") r/\vZ X E r z8R:=⟨_,z61,λH Y s ds vs Q r hd h=>by
 unfold z8R at h;split at h
 ·rename_i i;obtain⟨v,rfl,dn⟩:=uj hd;cases yf dn;exact⟨i,rfl,h.here r yz⟩
 ·exact h.elim⟩
def intsOf:List D->Option (List Int)
 | []=>some [] | .int i::r=>(intsOf r).map (i::·) | _=>none
def bools:List D->Option (List Bool)
 | []=>some [] | .bl i::r=>(bools r).map (i::·) | _=>none
theorem ue:∀{xs:List D}{ns:List Int},intsOf xs=some ns->xs=ns.map D.int
 | [],ns,h=>by simp[intsOf]at h;subst h;rfl | .int i::r,ns,h=>by
  simp only[intsOf,_X]at h;obtain⟨ms,h1,rfl⟩:=h;rw[ue h1];rfl
theorem uR(ns:List Int):intsOf (ns.map D.int)=some ns:=by induction ns with
 | nil=>rfl | cons n ns ih=>simp[intsOf,ih]
theorem z2O:∀{xs:List D}{ns:List Bool},bools xs=some ns->xs=ns.map D.bl
 | [],ns,h=>by simp[bools]at h;subst h;rfl | .bl i::r,ns,h=>by
  simp only[bools,_X]at h;obtain⟨ms,h1,rfl⟩:=h;rw[z2O h1];rfl
theorem z1d(ns:List Bool):bools (ns.map D.bl)=some ns:=by induction ns with
 | nil=>rfl | cons n ns ih=>simp[bools,ih]
theorem uf{mg:Gm}{H:Hp}{Y:List Addr}:∀{ns:List Int}{vs:List V},zv mg H Y (ns.map D.int) vs->vs=ns.map V.int
 | [],vs,h=>by simpa[zv] using h | n::ns,vs,h=>by
  simp only[_L,zv]at h;obtain⟨v,r,rfl,h1,h2⟩:=h;cases yf h1;rw[uf h2];rfl
theorem z2E{mg:Gm}{H:Hp}{Y:List Addr}:∀{ns:List Bool}{vs:List V},zv mg H Y (ns.map D.bl) vs->vs=ns.map V.bl
 | [],vs,h=>by simpa[zv] using h | n::ns,vs,h=>by
  simp only[_L,zv]at h;obtain⟨v,r,rfl,h1,h2⟩:=h;cases vN h1;rw[z2E h2];rfl
def z47:List D->Sto->R D
 | [d],s=>match (zI s d).bind intsOf with | some (n::ns)=>.ok (.int (maxL (n::ns))) s | _=>.no
 | _,_=>.no
def z3t:List D->Sto->R D
 | [d],s=>match (zI s d).bind intsOf with | some (n::ns)=>.ok (.int (minL (n::ns))) s | _=>.no
 | _,_=>.no
def z66:List D->Sto->R D
 | [d],s=>match (zI s d).bind bools with | some ns=>.ok (.bl (ns.all id)) s | none=>.no
 | _,_=>.no
theorem z2W{K:W.Frag}{H:Hp}{a:Addr}{vs:List V}(h:SqL K H a vs\/SqT K H a vs):∃b,Sq b K H a vs:=h.elim (λh=>⟨true,h⟩) λh=>⟨false,h⟩
theorem z9A(hc:X.calm=true):∃r,yM X (.builtin "max") r/\vZ X E r z47:=⟨_,z5w hc,λH Y s ds vs Q r hd h=>by
 unfold z47 at h;split at h
 ·rename_i d;split at h
  ·rename_i n ns e;obtain⟨xs,e1,e2⟩:=_aJ.mp e;have:=ue e2;subst this;obtain⟨v,rfl,dn⟩:=uj hd;obtain⟨a,ws,rfl,q1,q2⟩:=xT (K:=X.K) r e1 dn;cases uf q2;obtain⟨b,q⟩:=z2W q1;exact⟨b,a,n::ns,rfl,q,by simp,h.here r yz⟩
  ·exact h.elim
 ·exact h.elim⟩
theorem z9i(hc:X.calm=true):∃r,yM X (.builtin "min") r/\vZ X E r z3t:=⟨_,z4t hc,λH Y s ds vs Q r hd h=>by
 unfold z3t at h;split at h
 ·rename_i d;split at h
  ·rename_i n ns e;obtain⟨xs,e1,e2⟩:=_aJ.mp e;have:=ue e2;subst this;obtain⟨v,rfl,dn⟩:=uj hd;obtain⟨a,ws,rfl,q1,q2⟩:=xT (K:=X.K) r e1 dn;cases uf q2;obtain⟨b,q⟩:=z2W q1;exact⟨b,a,n::ns,rfl,q,by simp,h.here r yz⟩
  ·exact h.elim
 ·exact h.elim⟩
theorem z9R(hc:X.calm=true):∃r,yM X (.builtin "all") r/\vZ X E r z66:=⟨_,z4P hc,λH Y s ds vs Q r hd h=>by
 unfold z66 at h;split at h
 ·rename_i d;split at h
  ·rename_i ns e;obtain⟨xs,e1,e2⟩:=_aJ.mp e;have:=z2O e2;subst this;obtain⟨v,rfl,dn⟩:=uj hd;obtain⟨a,ws,rfl,q1,q2⟩:=xT (K:=X.K) r e1 dn;cases z2E q2;obtain⟨b,q⟩:=z2W q1;exact⟨b,a,ns,rfl,q,h.here r yY⟩
  ·exact h.elim
 ·exact h.elim⟩
def z1U:List D->List D->List D
 | x::xs,y::ys=>.tup [x,y]::z1U xs ys | _,_=>[]
theorem jS:∀(xs ys:List D),(z1U xs ys).length=min xs.length ys.length
 | [],ys=>by simp[z1U] | x::xs,[]=>by simp[z1U] | x::xs,y::ys=>by simp only[z1U,_q,jS xs ys];omega
theorem z4h:∀{xs ys:List D}{i:Nat}{d:D},(z1U xs ys)[i]? = some d->∃x y,xs[i]? = some x/\ys[i]? = some y/\d=.tup [x,y]
 | [],ys,i,d,h=>by simp[z1U]at h | x::xs,[],i,d,h=>by simp[z1U]at h | x::xs,y::ys,0,d,h=>by simp[z1U]at h;exact⟨x,y,by simp,by simp,h.symm⟩ | x::xs,y::ys,i+1,d,h=>by
  simp only[z1U,_au]at h;obtain⟨a,b,h1,h2,h3⟩:=z4h h;exact⟨a,b,by simpa using h1,by simpa using h2,h3⟩
def z51(s:Sto):D->Option (List D×List (Nat×List D))
 | .tup xs=>some (xs,[]) | .lst xs=>some (xs,[]) | .loc l=>(s[l]?).map λxs=>(xs,[(l,xs)]) | _=>none
theorem z2j{mg:Gm}{H:Hp}{Y:List Addr}{s:Sto}{d:D}{xs:List D}{g:List (Nat×List D)}{v:V}(r:Rep mg H Y s)(h:z51 s d=some (xs,g))(dn:Den mg H Y d v):okG g [] s/\∃(b:Bool)(a:Addr),v=.ref a/\ ∀H2 Y2 s2,xr mg H Y H2 Y2 s2->okG g [] s2->∃ws,Sq b mg.K H2 a ws/\zv mg H2 Y2 xs ws:=by cases d with
 | tup ys=>
  cases h;obtain⟨a,vs,rfl,q1,q2⟩:=vC (K:=mg.K) dn;refine⟨(by intro p hp;simp at hp),false,a,rfl,λH2 Y2 s2 stp _=>?_⟩;obtain⟨a',ws,e,q3,q4⟩:=vC (K:=mg.K) (dn.mono stp);cases e;exact⟨ws,q3,q4⟩ | lst ys=>
  cases h;obtain⟨a,vs,rfl,q1,q2⟩:=zL (d:=.lst xs) r rfl dn;refine⟨(by intro p hp;simp at hp),true,a,rfl,λH2 Y2 s2 stp _=>?_⟩;obtain⟨a',ws,e,q3,q4⟩:=zL (d:=.lst xs) stp.rep rfl (dn.mono stp);cases e;exact⟨ws,.inl q3,q4⟩ | loc l=>
  simp only[z51,_X]at h;obtain⟨ys,ey,e2⟩:=h;cases e2;obtain⟨a,vs,rfl,q1,q2⟩:=zL (d:=.loc l) r ey dn;have og:okG [(l,xs)] [] s:=λp hp=>by
   have:p=(l,xs):=by simpa using hp
   subst this;exact ey
  refine⟨og,true,a,rfl,λH2 Y2 s2 stp hg=>?_⟩;obtain⟨a',ws,e,q3,q4⟩:=zL (d:=.loc l) stp.rep (hg (l,xs) (by simp)) (dn.mono stp);cases e;exact⟨ws,.inl q3,q4⟩ | _=>cases h
def zaN(f:FA):FI:=λZ s=>(f Z s).bind λds s1=>match ds with
 | [x,y]=>match z51 s1 x,z51 s1 y with
  | some p,some q=>.ok (z1U p.1 q.1,p.2++q.2) s1 | _,_=>.no
 | _=>.no
theorem zb1{p tp:Pos}{elts:List Expr}{kt:Nat}{f:FA}(hg:Gl X "zip")(hm:X.mg "zip"=none)(ha:RA X E [a,b] f)(hs:starEach [a,b] X.env=(false,eval a X.env)::starEach [b] X.env:=by rfl)(hpl:(backTo pos (starEach [b] X.env)).any (·.1)=false:=by rfl): RI X E (.Tuple elts kt tp) (.Call (.Name "zip" p) [a,b] [] pos) (zaN f):= z2J (zax hg hm ha hs hpl) λO H Q ⟨Y,Z,s,r,en,h⟩=>by
  unfold zaN at h;refine⟨Y,Z,s,r,en,(okR.bind (Dn:=zv (gm X)) h).imp λvs H1 ⟨Y1,s1,ds,stp,dn,h1⟩=>?_⟩;split at h1
  ·rename_i x y;split at h1
   ·rename_i p q ex ey;obtain⟨xs,gx⟩:=p;obtain⟨ys,gy⟩:=q;obtain⟨v,v',rfl,d1,d2⟩:=z3o dn;obtain⟨og1,b1,a1,rfl,k1⟩:=z2j stp.rep ex d1;obtain⟨og2,b2,a2,rfl,k2⟩:=z2j stp.rep ey d2;obtain⟨w1,q1,_⟩:=k1 H1 Y1 s1 (.refl stp.rep) og1;obtain⟨w2,q2,_⟩:=k2 H1 Y1 s1 (.refl stp.rep) og2;refine⟨a1,a2,b1,b2,rfl,⟨w1,q1⟩,⟨w2,q2⟩,h1.here stp.rep λH2 Y2 s2 stp2 og i=>?_⟩;have h3:okG gx [] s2:=λp hp=>og p (_bj _ hp);have h4:okG gy [] s2:=λp hp=>og p (_Q _ hp);refine⟨λd hd=>?_,λhl=>?_⟩
    ·obtain⟨x,y,e1,e2,rfl⟩:=z4h hd;obtain⟨w1,q1,n1⟩:=k1 H2 Y2 s2 stp2 h3;obtain⟨w2,q2,n2⟩:=k2 H2 Y2 s2 stp2 h4;obtain⟨u1,g1,m1⟩:=n1.get e1;obtain⟨u2,g2,m2⟩:=n2.get e2;refine⟨⟨w1,w2,u1,u2,q1,q2,g1,g2⟩,λz H' ⟨T,p,q,hT,ez,eH,hp,hq⟩=>?_⟩;subst ez eH;have e3:=hp w1 q1;have e4:=hq w2 q2;rw[g1]at e3;rw[g2]at e4;cases e3;cases e4;have st3:=xr.lay (o:=.tup [u1,u2]) stp2.rep hT (by intro _ z;cases z);refine⟨Y2,st3,?_⟩;simp only[Den];exact⟨T,[u1,u2],rfl,yi,(zv.cons m1 (zv.one m2)).mono st3⟩
    ·obtain⟨w1,q1,n1⟩:=k1 H2 Y2 s2 stp2 h3;obtain⟨w2,q2,n2⟩:=k2 H2 Y2 s2 stp2 h4;refine⟨w1,w2,q1,q2,?_⟩;rw[n1.length,n2.length];simp only[jS]at hl;omega
   ·exact h1.elim
  ·exact h1.elim
end
def xy(mp:List (Option Nat))(Z:Ev):Ev:=mp.map λo=>match o with | some j=>(Z[j]?).getD none | none=>none
theorem wS.inner{mg:Gm}{H:Hp}{Y:List Addr}{Z:Ev}{O:L2.St}{mp:List (Option Nat)}(en:wS mg H Y Z O):wS mg H Y (xy mp Z) (inner mp O):=by
 refine⟨by simp[xy,L2.inner],λi d h=>?_⟩;simp only[xy,_D,_X]at h;obtain⟨o,h1,h2⟩:=h;cases o with
 | none=>cases h2 | some j=>
  simp only at h2;have h3:Z[j]? = some (some d):=by cases e:Z[j]? with
   | none=>rw[e]at h2;cases h2 | some x=>rw[e]at h2;simp at h2;rw[h2]
  obtain⟨v,h4,h5⟩:=en.at_ j d h3;exact⟨v,by simp[L2.inner,h1,h4],h5⟩
open Classical in
def wo(g:List (Nat×List D))(all:List D)(body:D->Sto->R (Option D)):List D->List D->Sto->R (List D)
 | [],acc,s=>if okG g all s then .ok acc s else .no | x::xs,acc,s=>if okG g all s then (body x s).bind λo s1=>match o with
   | some d=>if acc.length<cap then wo g all body xs (acc++[d]) s1 else .no | none=>wo g all body xs acc s1 else .no
def z14(fi:FI)(mp:List (Option Nat))(fg:FG)(ft:FT)(fe:FE):FA:=λZ s=>(fi Z s).bind λit s1=>wo it.2 it.1 (λd s=>(fg d (xy mp Z) s).bind λZ' s'=>(ft Z' s').bind λb s2=>if b=true then (fe Z' s2).bind λd s3=>.ok (some d) s3 else .ok none s2) it.1 [] s1
def kz(mg:Gm)(E:XK)(mp:List (Option Nat))(g:TG)(fg:FG):Prop:=∀(O:L2.St) H Y Z s x d (Q:L2.St->Hp->Prop),Rep mg H Y s->wS mg H Y (xy mp Z) (inner mp O)->Den mg H Y d x->okR mg E H Y (wS mg) (fg d (xy mp Z) s) Q-> g x (inner mp O) H (λO2 H2=>(O2.length=(inner mp O).length/\∀(i:Nat) v,(inner mp O)[i]? = some (some v)->O2[i]? = some (some v))/\Q O2 H2)
theorem jL{mp:List (Option Nat)}{i:Nat}(h:mp[i]? = some none)(O:L2.St):(inner mp O)[i]? = some none:=by simp[L2.inner,h]
theorem z0h{O:L2.St}{i:Nat}{v:V}(h:O[i]? = some none):(O.set i (some v)).length=O.length/\∀(j:Nat) u,O[j]? = some (some u)->(O.set i (some v))[j]? = some (some u):=by
 refine⟨by simp,λj u e=>?_⟩;have:i≠j:=λz=>by subst z;rw[h]at e;cases e
 rw[_f this];exact e
section
variable {X:Cx}{E:XK}{e a b c tg iter elt:Expr}{es:List Expr}{pos:Pos}{CX:CXT}{mp:List (Option Nat)}
theorem yd(i:Nat)(h:mp[i]? = some none):kz (gm X) E mp (z3r i) (xC i):=λO H Y Z s x d Q r en dn ok=>by
 refine⟨z0h (jL h O),?_⟩;exact okR.here (b:=(inner mp O).set i (some x)) ok r (en.set dn i)
theorem jf{fi:FI}{g:TG}{fg:FG}{ft:FT}{fe:FE}{O:L2.St}{H:Hp}{Q:VK}{Y:List Addr}{Z:Ev}{s:Sto}{β:Type}{kR:List D->Sto->R β}{β2:Type}{Dn:Hp->List Addr->β->β2->Prop}{Q2:β2->Hp->Prop}(hg:kz (gm X) E mp g fg)(r:Rep (gm X) H Y s)(en:wS (gm X) H Y Z O) (h:okR (gm X) E H Y Dn ((z14 fi mp fg ft fe Z s).bind kR) Q2) (fin:∀H1 Y1 s1 xs vs,Rep (gm X) H1 Y1 s1->wS (gm X) H1 Y1 Z O->zv (gm X) H1 Y1 xs vs->okR (gm X) E H1 Y1 Dn (kR xs s1) Q2->xs.length<=cap->∀p,H1 p=none->Q (.ref p) (upd H1 p (.lst vs))): z6P (tI (gm X) E fi) mp g (tT (gm X) E ft) (tE (gm X) E fe) O H Q:=by
 unfold z14 at h;have assoc:∀{α γ δ:Type}(x:R α)(f:α->Sto->R γ)(k:γ->Sto->R δ),(x.bind f).bind k=x.bind λa s=>(f a s).bind k:=λx f k=>by cases x<;>rfl
 rw[assoc]at h;refine⟨Y,Z,s,r,en,(okR.bind (Dn:=z8y (gm X)) h).imp λJ H1 ⟨Y1,s1,it,stp,ok,h1⟩=>?_⟩;obtain⟨items,gd⟩:=it;simp only at h1;refine⟨λi m ys H=>∃Y s acc,xr (gm X) H1 Y1 H Y s/\zv (gm X) H Y acc ys/\acc.length<=cap/\m=items.length-i/\i<=items.length/\ okR (gm X) E H Y Dn ((wo gd items (λd s=>(fg d (xy mp Z) s).bind λZ' s'=>(ft Z' s').bind λb s2=>if b=true then (fe Z' s2).bind λd s3=>.ok (some d) s3 else .ok none s2) (items.drop i) acc s).bind kR) Q2, ⟨items.length,Y1,s1,[],.refl stp.rep,zv.nil,Nat.zero_le _,by simp,Nat.zero_le _,by simpa using h1⟩,?_⟩;rintro i m ys H2 ⟨Y2,s2,acc,stp2,dn2,hcap,rfl,hil,h2⟩;have en2:wS (gm X) H2 Y2 Z O:=(en.mono stp).mono stp2;by_cases hlt:i<items.length
 ·right;rw[_aZ hlt,wo]at h2;split at h2
  ·rename_i hG;obtain⟨go,yl⟩:=((ok H2 Y2 s2 stp2 hG i).1 items[i] (_d hlt));refine⟨go,λx H' y=>?_⟩;obtain⟨Y3,stp3,dn3⟩:=yl x H' y;have h3:=okR.rebase h2 stp3;rw[assoc,assoc]at h3;have h4:=okR.bind (Dn:=wS (gm X)) h3;refine hg O H' Y3 Z s2 x items[i] _ stp3.rep ((en2.mono stp3).inner) dn3 (h4.imp λO4 H4 ⟨Y4,s4,Z4,stp4,en4,h5⟩=>?_);rw[assoc]at h5;refine⟨Y4,Z4,s4,stp4.rep,en4,(okR.bind (Dn:=bD) h5).imp λbb H5 ⟨Y5,s5,b',stp5,eb,h6⟩=>?_⟩;cases (show b'=bb from eb);have all5:xr (gm X) H1 Y1 H5 Y5 s5:=((stp2.trans stp3).trans stp4).trans stp5;cases bb with
   | true=>
    rw[_o rfl]at h6 ⊢;rw[assoc]at h6;refine⟨Y5,Z4,s5,stp5.rep,en4.mono stp5,(okR.bind (Dn:=Den (gm X)) h6).imp λy H6 ⟨Y6,s6,d6,stp6,dn6,h7⟩=>?_⟩;simp only[Rb]at h7;split at h7
    ·rename_i hc;have all6:=all5.trans stp6;have dny:zv (gm X) H6 Y6 acc ys:=(((dn2.mono stp3).mono stp4).mono stp5).mono stp6;refine⟨by rw[dn2.length];exact vL hcap,items.length-(i+1),by omega,Y6,s6,acc++[d6],all6,dny.append (zv.one dn6),by simp;omega,rfl,hlt,h7⟩
    ·exact h7.elim | false=>
    rw[_I (by decide)]at h6 ⊢;simp only[Rb]at h6;exact⟨items.length-(i+1),by omega,Y5,s5,acc,all5,((dn2.mono stp3).mono stp4).mono stp5,hcap,rfl,hlt,h6⟩
  ·exact h2.elim
 ·left;have e:i=items.length:=by omega
  subst e;rw[List.drop_length,wo]at h2;split at h2
  ·rename_i hG;simp only[Rb]at h2;exact⟨(ok H2 Y2 s2 stp2 hG _).2 (_n _),by rw[dn2.length];exact vL hcap,fin H2 Y2 s2 acc ys stp2.rep en2 dn2 h2 hcap⟩
  ·exact h2.elim
def zQ(fi:FI)(mp:List (Option Nat))(fg:FG)(ft:FT)(fe:FE):FE:=λZ s=>(z14 fi mp fg ft fe Z s).bind λxs s1=>.ok (.lst xs) s1
def qe(fi:FI)(mp:List (Option Nat))(fg:FG)(ft:FT)(fe:FE):FE:=λZ s=>(z14 fi mp fg ft fe Z s).bind λxs s1=>if D.flat.flats xs=true then .ok (.loc s1.length) (s1++[xs]) else .no
def yJ:FT:=λ_ s=>.ok true s
theorem yn{Yy:Cx}:z3s Yy [] (tT (gm Yy) E yJ):=λpins s O H Q I ⟨Y,Z,st,r,en,h⟩=>z6E pins s O H Q I (h.here (b:=true) r rfl)
section
variable {scope:Scope}{ifs:List Expr}{fi:FI}{fg:FG}{ft:FT}{fe:FE}{g:TG}{spos py:Pos}
theorem z92(N':List Str)(mp:List (Option Nat))(hc:X.calm=true)(hi:RI X E tg iter fi)(hg:∀ex s H,PG (zF X N' scope ex s H) tg g)(hgt:kz (gm X) E mp g fg)(ht:∀ex s H,z3s (zF X N' scope ex s H) ifs (tT (gm X) E ft))(he:∀ex s H,RE (zF X N' scope ex s H) E elt fe) (hkd:scope.kind=.function)(hnm:∀y∈scope.names,scope.names.lookup y.1=some y.2) (hfr:∀y∈scope.names,y.2=.free->X.env.kindOf y.1=some .cell\/X.env.kindOf y.1=some .free)(hmp:kr X.N scope.names N' mp=true) (hs:∀x,foldedSetIterable iter X.env x=pure x:=by intro _;rfl):RE X E (.ListComp elt [⟨tg,iter,ifs,0⟩] scope pos) (zQ fi mp fg ft fe):= ye (z4M (te:=tE (gm X) E fe) N' mp hc hi hg ht (λex s H=>he ex s H) hkd hnm hfr hmp hs).freeze λO H Q ⟨Y,Z,s,r,en,h⟩=> jf hgt r en h λH1 Y1 s1 xs vs r1 en1 dn h1 hcap=>uZ r1 h1 dn
theorem z3v {i:Nat} {y:Str} (N':List Str) (mp:List (Option Nat)) (hN:X.N.Nodup) (hc:X.calm=true) (hi:RI X E tg iter fi) (hg:∀ex s H,PG (zF X N' scope ex s H) tg g) (hgt:kz (gm X) E mp g fg) (ht:∀ex s H,z3s (zF X N' scope ex s H) ifs (tT (gm X) E ft)) (he:∀ex s H,RE (zF X N' scope ex s H) E elt fe) (hkd:scope.kind=.function) (hnm:∀y∈scope.names,scope.names.lookup y.1=some y.2) (hfr:∀y∈scope.names,y.2=.free->X.env.kindOf y.1=some .cell\/X.env.kindOf y.1=some .free) (hmp:kr X.N scope.names N' mp=true) (hy:X.N[i]? = some y:=by rfl) (hyl:Loc X.env.scope y:=by first | exact Or.inl rfl | exact Or.inr rfl) (hs:∀x,foldedSetIterable iter X.env x=pure x:=by intro _;rfl) (hsw:swapsWith (.ListComp elt [⟨tg,iter,ifs,0⟩] scope pos) (some (.Name y py)) spos.line X.env=pure true:=by rfl) (hf:X.fn y=true\/X.env.scope.names.lookup y=some .local:=by first | exact .inl rfl | exact .inr rfl | assumption): RS X E (.Assign [.Name y py] (.ListComp elt [⟨tg,iter,ifs,0⟩] scope pos) spos) (va i (zQ fi mp fg ft fe)):= vi (z29 (te:=tE (gm X) E fe) N' mp hN hy hyl hc hi hg ht (λex s H=>he ex s H) hkd hnm hfr hmp hs hsw hf) λD O H ⟨Y,Z,s,r,en,h⟩=>by
  have assoc:∀{α γ δ:Type} (x:R α) (f:α->Sto->R γ) (k:γ->Sto->R δ),(x.bind f).bind k=x.bind λa s=>(f a s).bind k:=λx f k=>by cases x<;>rfl
  unfold va zQ at h;rw[assoc]at h;refine jf hgt r en h λH1 Y1 s1 xs vs r1 en1 dn h1 hcap p hp=>?_;refine uZ (E:=E) (mg:=gm X) (xs:=xs) r1 (λv H2 Y2 stp dn2=>?_) dn p hp;exact h1 (.nx (O.set i (some v))) H2 Y2 stp ((en1.mono stp).set dn2 i)
theorem z3X{i:Nat}{y:Str}(N':List Str)(mp:List (Option Nat))(hN:X.N.Nodup)(hc:X.calm=true)(hi:RI X E tg iter fi)(hg:∀ex s H,PG (zF X N' scope ex s H) tg g)(hgt:kz (gm X) E mp g fg)(ht:∀ex s H,z3s (zF X N' scope ex s H) ifs (tT (gm X) E ft))(he:∀ex s H,RE (zF X N' scope ex s H) E elt fe) (hkd:scope.kind=.function)(hnm:∀y∈scope.names,scope.names.lookup y.1=some y.2) (hfr:∀y∈scope.names,y.2=.free->X.env.kindOf y.1=some .cell\/X.env.kindOf y.1=some .free)(hmp:kr X.N scope.names N' mp=true)(hy:X.N[i]? = some y:=by rfl)(hyl:Loc X.env.scope y:=by first | exact Or.inl rfl | exact Or.inr rfl) (hs:∀x,foldedSetIterable iter X.env x=pure x:=by intro _;rfl) (hsw:swapsWith (.ListComp elt [⟨tg,iter,ifs,0⟩] scope pos) (some (.Name y py)) spos.line X.env=pure true:=by rfl) (hf:X.fn y=true\/X.env.scope.names.lookup y=some .local:=by first | exact .inl rfl | exact .inr rfl | assumption): RS X E (.Assign [.Name y py] (.ListComp elt [⟨tg,iter,ifs,0⟩] scope pos) spos) (va i (qe fi mp fg ft fe)):= vi (z3S (te:=tE (gm X) E fe) N' mp hN hy hyl hc hi hg ht (λex s H=>he ex s H) hkd hnm hfr hmp hs hsw hf) λD O H ⟨Y,Z,s,r,en,h⟩=>by
  have assoc:∀{α γ δ:Type}(x:R α)(f:α->Sto->R γ)(k:γ->Sto->R δ),(x.bind f).bind k=x.bind λa s=>(f a s).bind k:=λx f k=>by cases x<;>rfl
  unfold va qe at h;rw[assoc]at h;refine jf hgt r en h λH1 Y1 s1 xs vs r1 en1 dn h1 hcap p hp=>?_;split at h1
  ·rename_i hf;have stp:=xr.layL (p:=p) r1 hp dn hf;refine h1 (.nx (O.set i (some (.ref p)))) _ _ stp ((en1.mono stp).set ?_ i);simp only[Den];exact⟨p,rfl,by rw[<- r1.len];simp,vs,yi⟩
  ·exact h1.elim
end
end
section
variable {X:Cx}{E:XK}{e a b c tg iter elt:Expr}{es:List Expr}{pos:Pos}{CX:CXT}{mp:List (Option Nat)}
def z7t(K:W.Frag)(i j:Nat):TG:=zck K 2 (z8a (z3r i) (z8a (z3r j) zca))
theorem z35(i j:Nat){x y:Str}{px py:Pos}{kt:Nat}(hc:X.calm=true)(hN:X.N.Nodup)(hi:X.N[i]? = some x:=by rfl)(hj:X.N[j]? = some y:=by rfl)(hx:Loc X.env.scope x:=by first | exact Or.inl rfl | exact Or.inr rfl)(hy:Loc X.env.scope y:=by first | exact Or.inl rfl | exact Or.inr rfl) (hf:X.fn x=true\/X.env.scope.names.lookup x=some .local:=by first | exact .inl rfl | exact .inr rfl | assumption)(hf':X.fn y=true\/X.env.scope.names.lookup y=some .local:=by first | exact .inl rfl | exact .inr rfl | assumption): PG X (.Tuple [.Name x px,.Name y py] kt pos) (z7t X.K i j):=z5g hc (vf (zU hN hi hx hf) (vf (zU hN hj hy hf') z2s))
theorem z2G(i j:Nat)(hij:i≠j)(h:mp[i]? = some none)(h':mp[j]? = some none):kz (gm X) E mp (z7t X.K i j) (jQ i j):=λO H Y Z s x d Q r en dn ok=>by
 unfold jQ at ok;split at ok
 ·rename_i d1 d2;obtain⟨p,vs,rfl,q1,q2⟩:=vC (K:=X.K) dn;obtain⟨v1,v2,rfl,e1,e2⟩:=z3o q2;have k1:=z0h (v:=v1) (jL h O);have own2:((inner mp O).set i (some v1))[j]? = some none:=by rw[_f hij];exact jL h' O
  have k2:=z0h (v:=v2) own2;exact⟨p,[v1,v2],rfl,q1,rfl,v1,[v2],rfl,v2,[],rfl,rfl,⟨k2.1.trans k1.1,λl u e=>k2.2 l u (k1.2 l u e)⟩,okR.here ok r ((en.set e1 i).set e2 j)⟩
 ·exact ok.elim
end
def zD(N:List Str)(ds:List D):Ev:=ds.map some++List.replicate (N.length-ds.length) none
theorem z06{mg:Gm}{H:Hp}{Y:List Addr}{N:List Str}:∀{ds:List D}{vs:List V},zv mg H Y ds vs->wS mg H Y (zD N ds) (L2.start N vs):=λ{ds vs} h=>by
 have hl:=h.length;refine⟨by simp[zD,L2.start,hl],λi d e=>?_⟩;unfold zD at e;have hi:i<ds.length:=by
  by_cases hi:i<ds.length;·exact hi
  ·rw[List.getElem?_append_right (by simpa using hi),List.getElem?_replicate]at e;split at e<;>cases e
 rw[_x (by simpa using hi),_D]at e;have e':ds[i]? = some d:=by cases q:ds[i]? with
  | none=>rw[q]at e;cases e | some x=>rw[q]at e;simp at e;rw[e]
 obtain⟨v,h1,h2⟩:=h.get e';refine⟨v,?_,h2⟩;unfold L2.start;rw[_x (by simpa[hl] using hi),_D,h1];rfl
def Mof(N:List Str)(n:Nat)(fs:FS):Mir:=λds s=>if ds.length=n then (match fs (zD N ds) s with
 | .ok (.rt d) s'=>.ok d s' | .ok (.nx _) s'=>.ok .non s' | _=>.no) else .no
section
variable {P:Program}{w:World}{K:W.Frag}{mg:Str->Option Value}{base:Heap}
theorem Has.mono{CX:CXT}{x:Str}{n m:Nat}{M:Mir}(h:Has P w K mg base CX x n M)(hl:n<=m):Has P w K mg base CX x m M:=by
 obtain⟨f,fd,ps,F,r⟩:=h;exact⟨f,fd,ps,F.mono hl,r⟩
theorem yA{x qual:Str}{st:Stmt}{f:Addr}{fd:FuncData}{N ps:List Str}{k n:Nat}{fs:FS}(F:Fun K x qual st f fd)(hm:mg x=some (.ref f))(hb:Binds K fd ps [])(S:zJ N ps (zk st))(hn:ps.length=n) (body:∀(cdv:Value)(A:Around)(outer:List Env)(s:Shared)(H:Hp)(E:XK),kq k (A.deeper (envOfC qual (zk st) s.heap.objs.size f cdv))->(z5K CX0 P w K mg base N qual (zk st) f cdv A outer s H E).nox.calm=true-> RSs (z5K CX0 P w K mg base N qual (zk st) f cdv A outer s H E).nox E0 (vd st) fs):Has P w K mg base CX0 x (k+1) (Mof N n fs):=by
 subst hn;refine⟨f,fd,ps,F.ok S (λvs H Q E h=>?_) (λcdv A outer s H vs Q E hr h=>?_),hb,F.kp,hm⟩
 ·obtain⟨Y,s,ds,_,dn,h⟩:=h;unfold Mof at h;split at h;·rename_i e;rw[dn.length];exact e
  ·exact h.elim
 ·obtain⟨Y,st0,ds,r,dn,h⟩:=h;refine⟨_,body cdv A outer s H E hr (by show A.handled.isNone=true;rw[show A.handled=none from hr.hd];rfl),Y,zD N ds,st0,r,z06 dn,?_⟩;unfold Mof at h;split at h
  ·split at h
   ·rename_i d s' e;rw[e];intro fv H' Y' stp fd;cases fv with
    | rt v=>exact h v H' Y' stp fd | _=>exact (show False from fd).elim
   ·rename_i Z s' e;rw[e];intro fv H' Y' stp fd;cases fv with
    | nx v=>exact h .non H' Y' stp (by simp[Den]) | _=>exact (show False from fd).elim
   ·exact h.elim
  ·exact h.elim
theorem zao{x qual:Str}{st:Stmt}{f:Addr}{fd:FuncData}{ps:List Str}(F:Fun K x qual st f fd)(hm:mg x=some (.ref f))(hb:Binds K fd ps []):Has P w K mg base CX0 x 0 (λ_ _=>.no):= ⟨f,fd,ps,⟨λvs H Q E h=>by obtain⟨_,_,_,_,_,h⟩:=h;exact h.elim,λA outer s H args us vs Q E _ _ _ _ h=>by obtain⟨_,_,_,_,_,h⟩:=h;exact h.elim⟩,hb,F.kp,hm⟩
end
def z8i(K:W.Frag):Sp:=λvs H Q _=>∃(a:Addr)(ns:List Int),vs=[.ref a]/\zbN H/\SqL K H a (ns.map V.int)/\ns.length<=63/\∀H',Q (.bl true) H'
theorem qp{mg:Gm}{H:Hp}{Y:List Addr}:∀(ns:List Int),zv mg H Y (ns.map D.int) (ns.map V.int)
 | []=>zv.nil | n::ns=>zv.cons yz (qp ns)
theorem zaz{P:Program}{w:World}{K:W.Frag}{mg:Str->Option Value}{base:Heap}{x:Str}{n:Nat}{M:Mir}{f:Addr}{fd:FuncData}{ps:List Str}(F:z0Z P w K mg base CX0 n f fd ps (z7F ⟨mg,K⟩ M)) (h:∀ns:List Int,ns.length<=63->∃s',M [.scr (ns.map D.int)] []=.ok (.bl true) s'):z0Z P w K mg base CX0 n f fd ps (z8i K):= F.imp λvs H Q E ⟨a,ns,e,ho,hq,hl,q⟩=>by
  subst e;obtain⟨s',hs⟩:=h ns hl;refine⟨[],[],[.scr (ns.map D.int)],⟨rfl,List.nodup_nil,λl xs z=>by simp at z,λxs z=>by simp at z⟩,zv.one ?_,?_⟩
  ·simp only[Den];refine⟨a,ns.map V.int,rfl,?_,qp ns⟩;rcases hq with (z | z) | z
   ·rcases ho a with y | ⟨o,xs,y⟩;·rw[y]at z;cases z
    ·rw[y]at z;cases z
   ·exact .inl z
   ·exact .inr z
  ·rw[hs];intro v H' Y' stp dn;cases vN dn;exact q H'
section
variable {X:Cx}{E:XK}{e a b c tg iter elt:Expr}{es:List Expr}{pos:Pos}{CX:CXT}
def z3d(f:FE):FE:=λZ s=>(f Z s).bind λd s1=>match d with | .int i=>.ok (.int (-i)) s1 | _=>.no
theorem z2d{f:FE}(h:RE X E a f):RE X E (.UnaryOp .USub a pos) (z3d f):= ye (zbO z9D h) λO H Q ⟨Y,Z,s,r,en,h⟩=>by
  refine yE (k:=λZ d s1=>match d with | .int i=>R.ok (D.int (-i)) s1 | _=>.no) r en h _ λv H1 Y1 s1 d r1 en1 dn stp h1=>?_;cases d with
  | int i=>
   cases yf dn;exact⟨i,rfl,okR.here (b:=V.int (-i)) h1 r1 yz⟩ | _=>exact h1.elim
end
def isK(o:Option NameKind)(k:NameKind):Bool:=match o,k with
 | some .local,.local=>true | some .cell,.cell=>true | some .free,.free=>true | some .globalImplicit,.globalImplicit=>true | _,_=>false
theorem z4T{o:Option NameKind}{k:NameKind}(h:isK o k=true):o=some k:=by cases o with
 | none=>cases k<;>simp[isK]at h | some j=>cases j<;>cases k<;>first | rfl | simp[isK]at h
def isF(k:NameKind):Bool:=match k with | .free=>true | _=>false
theorem z9q{k:NameKind}(h:k=.free):isF k=true:=by subst h;rfl
def z5l(ko:Str->Option NameKind)(names:List (Str×NameKind)):Bool:=names.all λy=>!isF y.2||(isK (ko y.1) .cell||isK (ko y.1) .free)
theorem qK{ko:Str->Option NameKind}{names:List (Str×NameKind)}(h:z5l ko names=true):∀y∈names,y.2=.free->ko y.1=some .cell\/ko y.1=some .free:=λy hy hf=>by
 have:=_y.mp h y hy;rw[z9q hf]at this;simp only[Bool.not_true,Bool.false_or,Bool.or_eq_true]at this;exact this.imp z4T z4T
def z4q(names:List (Str×NameKind)):Bool:=names.all λy=>isK (names.lookup y.1) y.2
theorem qW{names:List (Str×NameKind)}(h:z4q names=true):∀y∈names,names.lookup y.1=some y.2:=λy hy=>by
 have:=_y.mp h y hy;exact z4T this
section
variable {X:Cx}{E:XK}{e a b c tg iter elt:Expr}{es:List Expr}{pos:Pos}{CX:CXT}
variable {scope:Scope}{ifs:List Expr}{fi:FI}{fg:FG}{ft:FT}{fe:FE}{g:TG}{spos py:Pos}
theorem zcr{x:Str}{i:Int}(hg:Gl X x)(hm:∃t,X.mg x=some (.int i t))(hd:(x==("__debug__":Str))=false:=by decide):RE X E (.Name x pos) (eC (.int i)):=let ⟨_,h⟩:=hm;za5 hg h hd
theorem xq(N':List Str)(mp:List (Option Nat))(hc:X.calm=true)(hi:RI X E tg iter fi)(hg:∀ex s H,PG (zF X N' scope ex s H) tg g)(hgt:kz (gm X) E mp g fg)(ht:∀ex s H,z3s (zF X N' scope ex s H) ifs (tT (gm X) E ft))(he:∀ex s H,RE (zF X N' scope ex s H) E elt fe) (hkd:scope.kind=.function:=by rfl)(hnm:z4q scope.names=true:=by rfl)(hfr:z5l X.env.kindOf scope.names=true:=by rfl)(hmp:kr X.N scope.names N' mp=true:=by rfl) (hs:∀x,foldedSetIterable iter X.env x=pure x:=by intro _;rfl):RE X E (.ListComp elt [⟨tg,iter,ifs,0⟩] scope pos) (zQ fi mp fg ft fe):= z92 N' mp hc hi hg hgt ht he hkd (qW hnm) (qK hfr) hmp hs
theorem z2a(i:Nat){y:Str}(N':List Str)(mp:List (Option Nat))(hN:X.N.Nodup)(hc:X.calm=true)(hi:RI X E tg iter fi)(hg:∀ex s H,PG (zF X N' scope ex s H) tg g)(hgt:kz (gm X) E mp g fg)(ht:∀ex s H,z3s (zF X N' scope ex s H) ifs (tT (gm X) E ft))(he:∀ex s H,RE (zF X N' scope ex s H) E elt fe) (hkd:scope.kind=.function:=by rfl)(hnm:z4q scope.names=true:=by rfl)(hfr:z5l X.env.kindOf scope.names=true:=by rfl)(hmp:kr X.N scope.names N' mp=true:=by rfl)(hy:X.N[i]? = some y:=by rfl)(hyl:Loc X.env.scope y:=by first | exact Or.inl rfl | exact Or.inr rfl) (hs:∀x,foldedSetIterable iter X.env x=pure x:=by intro _;rfl) (hsw:swapsWith (.ListComp elt [⟨tg,iter,ifs,0⟩] scope pos) (some (.Name y py)) spos.line X.env=pure true:=by rfl) (hf:X.fn y=true\/X.env.scope.names.lookup y=some .local:=by first | exact .inl rfl | exact .inr rfl | assumption): RS X E (.Assign [.Name y py] (.ListComp elt [⟨tg,iter,ifs,0⟩] scope pos) spos) (va i (zQ fi mp fg ft fe)):= z3v N' mp hN hc hi hg hgt ht he hkd (qW hnm) (qK hfr) hmp hy hyl hs hsw hf
theorem z8x(i:Nat){y:Str}(N':List Str)(mp:List (Option Nat))(hN:X.N.Nodup)(hc:X.calm=true)(hi:RI X E tg iter fi)(hg:∀ex s H,PG (zF X N' scope ex s H) tg g)(hgt:kz (gm X) E mp g fg)(ht:∀ex s H,z3s (zF X N' scope ex s H) ifs (tT (gm X) E ft))(he:∀ex s H,RE (zF X N' scope ex s H) E elt fe) (hkd:scope.kind=.function:=by rfl)(hnm:z4q scope.names=true:=by rfl)(hfr:z5l X.env.kindOf scope.names=true:=by rfl)(hmp:kr X.N scope.names N' mp=true:=by rfl)(hy:X.N[i]? = some y:=by rfl)(hyl:Loc X.env.scope y:=by first | exact Or.inl rfl | exact Or.inr rfl) (hs:∀x,foldedSetIterable iter X.env x=pure x:=by intro _;rfl) (hsw:swapsWith (.ListComp elt [⟨tg,iter,ifs,0⟩] scope pos) (some (.Name y py)) spos.line X.env=pure true:=by rfl) (hf:X.fn y=true\/X.env.scope.names.lookup y=some .local:=by first | exact .inl rfl | exact .inr rfl | assumption): RS X E (.Assign [.Name y py] (.ListComp elt [⟨tg,iter,ifs,0⟩] scope pos) spos) (va i (qe fi mp fg ft fe)):= z3X N' mp hN hc hi hg hgt ht he hkd (qW hnm) (qK hfr) hmp hy hyl hs hsw hf
end
theorem z9x{P:Program}{w:World}{K:W.Frag}{mg:Str->Option Value}{base:Heap}{x qual:Str}{st:Stmt}{f:Addr}{fd:FuncData}{N ps:List Str}{k n:Nat}{fs:FS}(F:Fun K x qual st f fd)(S:zJ N ps (zk st))(hn:ps.length=n) (body:∀(cdv:Value)(A:Around)(outer:List Env)(s:Shared)(H:Hp)(E:XK),kq k (A.deeper (envOfC qual (zk st) s.heap.objs.size f cdv))->(z5K CX0 P w K mg base N qual (zk st) f cdv A outer s H E).nox.calm=true-> RSs (z5K CX0 P w K mg base N qual (zk st) f cdv A outer s H E).nox E0 (vd st) fs):z0Z P w K mg base CX0 (k+1) f fd ps (z7F ⟨mg,K⟩ (Mof N n fs)):=by
 subst hn;refine F.ok S (λvs H Q E h=>?_) (λcdv A outer s H vs Q E hr h=>?_)
 ·obtain⟨Y,s,ds,_,dn,h⟩:=h;unfold Mof at h;split at h;·rename_i e;rw[dn.length];exact e
  ·exact h.elim
 ·obtain⟨Y,st0,ds,r,dn,h⟩:=h;refine⟨_,body cdv A outer s H E hr (by show A.handled.isNone=true;rw[show A.handled=none from hr.hd];rfl),Y,zD N ds,st0,r,z06 dn,?_⟩;unfold Mof at h;split at h
  ·split at h
   ·rename_i d s' e;rw[e];intro fv H' Y' stp fd;cases fv with
    | rt v=>exact h v H' Y' stp fd | _=>exact (show False from fd).elim
   ·rename_i Z s' e;rw[e];intro fv H' Y' stp fd;cases fv with
    | nx v=>exact h .non H' Y' stp (by simp[Den]) | _=>exact (show False from fd).elim
   ·exact h.elim
  ·exact h.elim
section
variable {all xs:List D}{Z:Ev}{s:Sto}
theorem z2Y{body:D->Ev->Sto->R Fl}(I:Ev->Sto->Prop):∀(xs:List D),(∀x∈xs,∀Z s,I Z s->∃Z' s',body x Z s=.ok (.nx Z') s'/\I Z' s')->∀Z s,I Z s->∃Z' s',wF [] all body xs Z s=.ok (.nx Z') s'/\I Z' s'
 | [],_,Z,s,h=>⟨Z,s,by simp[wF,okG],h⟩ | x::xs,hb,Z,s,h=>by
  obtain⟨Z1,s1,e1,h1⟩:=hb x (by simp) Z s h;obtain⟨Z2,s2,e2,h2⟩:=z2Y I xs (λy hy=>hb y (by simp[hy])) Z1 s1 h1;exact⟨Z2,s2,by simp[wF,okG,e1,e2],h2⟩
theorem z1f{body:D->Sto->R (Option D)}(f:D->D):∀(xs acc:List D),(∀x∈xs,body x s=.ok (some (f x)) s)->acc.length+xs.length<=cap->wo [] all body xs acc s=.ok (acc++xs.map f) s
 | [],acc,_,_=>by simp[wo,okG] | x::xs,acc,hb,hl=>by
  have ih:=z1f f xs (acc++[f x]) (λy hy=>hb y (by simp[hy])) (by simp at hl ⊢;omega);have hc:acc.length<cap:=by simp at hl;omega
  rw[wo];simp[okG,hb x (by simp),hc,ih]
end
section
variable (i j k n:Nat)(Z:Ev)(s:Sto)(f g fa fb fc:FE)(d x y:D)(ds:List D)(ar:FA)(op op':D->D->Sto->R D)(ft ft':FT)(fs fs':FS)(M:Mir)(T:String)(fl fh fo:FO)(fi:FI)(fg:FG)(mp:List (Option Nat))(N:List Str)
@[simp] theorem z31:zc i Z s=(match Z[i]? with | some (some d)=>.ok d s | _=>.no):=id rfl
@[simp] theorem z5H:eC d Z s=.ok d s:=id rfl
@[simp] theorem ki:eOp op fa fb Z s=(fa Z s).bind λx s1=>(fb Z s1).bind λy s2=>op x y s2:=id rfl
@[simp] theorem wG:zd M ar Z s=(ar Z s).bind λxs s1=>M xs s1:=id rfl
@[simp] theorem xc:zg Z s=.ok [] s:=id rfl
@[simp] theorem zj:za f ar Z s=(f Z s).bind λx s1=>(ar Z s1).bind λxs s2=>.ok (x::xs) s2:=id rfl
@[simp] theorem jm:wq ar Z s=(ar Z s).bind λxs s1=>if xs.length<=cap then .ok (.tup xs) s1 else .no:=id rfl
@[simp] theorem jN:wz ar Z s=(ar Z s).bind λxs s1=>if xs.length<=cap then .ok (.lst xs) s1 else .no:=id rfl
@[simp] theorem zco:z8f ar Z s=(ar Z s).bind λxs s1=>if xs.length<=cap/\D.flat.flats xs=true then .ok (.loc s1.length) (s1++[xs]) else .no:=id rfl
@[simp] theorem z6q:eIs T f Z s=(f Z s).bind λd s1=>gIs T d s1:=id rfl
@[simp] theorem zc8:z3d f Z s=(f Z s).bind λd s1=>match d with | .int i=>.ok (.int (-i)) s1 | _=>.no:=id rfl
@[simp] theorem zc3:zbZ f Z s=(f Z s).bind λx s1=>match x with | .bl k=>.ok (.bl (!k)) s1 | _=>.no:=id rfl
@[simp] theorem z7p:z4F fa fb Z s=(fa Z s).bind λx s1=>match x with | .bl true=>fb Z s1 | .bl false=>.ok (.bl false) s1 | _=>.no:=id rfl
@[simp] theorem zbJ:eIf ft fa fb Z s=(ft Z s).bind λx s1=>if x=true then fa Z s1 else fb Z s1:=id rfl
@[simp] theorem z49:eSl f fl fh Z s=(f Z s).bind λx s1=>(fl Z s1).bind λlo s2=>(fh Z s2).bind λhi s3=>dSl x lo hi s3:=id rfl
@[simp] theorem vy:zt Z s=.ok none s:=id rfl
@[simp] theorem jO:yg f Z s=(f Z s).bind λd s1=>match d with | .int i=>.ok (some i) s1 | _=>.no:=id rfl
@[simp] theorem zaC:tOf f Z s=(f Z s).bind λd s1=>match d with | .bl k=>.ok k s1 | _=>.no:=id rfl
@[simp] theorem z6h:fOr ft ft' Z s=(ft Z s).bind λx s1=>if x=true then .ok true s1 else ft' Z s1:=id rfl
@[simp] theorem z3m:kW ft Z s=(ft Z s).bind λx s1=>.ok (!x) s1:=id rfl
@[simp] theorem zaK:z3k op op' fa fb fc Z s=(fa Z s).bind λx s1=>(fb Z s1).bind λy s2=>(op x y s2).bind λz s3=>match z with
 | .bl true=>(fc Z s3).bind λw s4=>op' y w s4 | .bl false=>.ok (.bl false) s3 | _=>.no:=id rfl
@[simp] theorem z6V:zX fs fs' Z s=(fs Z s).bind λfl s1=>match fl with | .nx Z'=>fs' Z' s1 | fl=>.ok fl s1:=id rfl
@[simp] theorem zbp:wM Z s=.ok (.nx Z) s:=id rfl
@[simp] theorem zcZ:fNo Z s=.no:=id rfl
@[simp] theorem jY:qG f Z s=(f Z s).bind λ_ s1=>.ok (.nx Z) s1:=id rfl
@[simp] theorem qq:wO f Z s=(f Z s).bind λd s1=>.ok (.rt d) s1:=id rfl
@[simp] theorem z4C:fIf ft fs fs' Z s=(ft Z s).bind λx s1=>if x=true then fs Z s1 else fs' Z s1:=id rfl
@[simp] theorem yD:va i f Z s=(f Z s).bind λd s1=>.ok (.nx (Z.set i (some d))) s1:=id rfl
@[simp] theorem z5p:zaR f fg Z s=(f Z s).bind λd s1=>(fg d Z s1).bind λZ' s2=>.ok (.nx Z') s2:=id rfl
@[simp] theorem z9b:zaO i j ar Z s=(ar Z s).bind λds s1=>match ds with | [x,y]=>.ok (.nx ((Z.set i (some x)).set j (some y))) s1 | _=>.no:=id rfl
@[simp] theorem z03:xC i d Z s=.ok (Z.set i (some d)) s:=id rfl
@[simp] theorem z1W:jQ i j (.tup [x,y]) Z s=.ok ((Z.set i (some x)).set j (some y)) s:=id rfl
@[simp] theorem z8z:z2n fa fb fc Z s=(fc Z s).bind λd s1=>(fa Z s1).bind λo s2=>(fb Z s2).bind λi s3=>match o,i with
 | .loc l,.int k=>match s3[l]? with
  | some xs=>match ixN xs.length k with
   | some j=>if d.flat=true then .ok (.nx Z) (s3.set l (xs.set j d)) else .no | none=>.no
  | none=>.no
 | _,_=>.no:=id rfl
@[simp] theorem z7P:zY f Z s=(f Z s).bind λd s1=>match d with
 | .tup xs=>.ok (xs,[]) s1 | .lst xs=>.ok (xs,[]) s1 | .loc l=>match s1[l]? with | some xs=>.ok (xs,[(l,xs)]) s1 | none=>.no
 | _=>.no:=id rfl
@[simp] theorem z7j:z2K ar Z s=(ar Z s).bind λds s1=>match ds with
 | [.int j]=>if -(2 ^ 62)<=j/\j<2 ^ 62 then .ok (yK j.toNat,[]) s1 else .no | _=>.no:=id rfl
@[simp] theorem zcc:zaN ar Z s=(ar Z s).bind λds s1=>match ds with
 | [x,y]=>match z51 s1 x,z51 s1 y with
  | some p,some q=>.ok (z1U p.1 q.1,p.2++q.2) s1 | _,_=>.no
 | _=>.no:=id rfl
@[simp] theorem z0b:z5I fi fg fs Z s=(fi Z s).bind λit s1=>wF it.2 it.1 (λd Z s=>(fg d Z s).bind λZ' s'=>fs Z' s') it.1 Z s1:=id rfl
@[simp] theorem kc:z14 fi mp fg ft f Z s=(fi Z s).bind λit s1=>wo it.2 it.1 (λd s=>(fg d (xy mp Z) s).bind λZ' s'=>(ft Z' s').bind λb s2=>if b=true then (f Z' s2).bind λd s3=>.ok (some d) s3 else .ok none s2) it.1 [] s1:=id rfl
@[simp] theorem vF:zQ fi mp fg ft f Z s=(z14 fi mp fg ft f Z s).bind λxs s1=>.ok (.lst xs) s1:=id rfl
@[simp] theorem z5O:qe fi mp fg ft f Z s=(z14 fi mp fg ft f Z s).bind λxs s1=>if D.flat.flats xs=true then .ok (.loc s1.length) (s1++[xs]) else .no:=id rfl
@[simp] theorem z5e:yJ Z s=.ok true s:=id rfl
@[simp] theorem z1O:z7h fa fb Z s=(fa Z s).bind λo s1=>match o with
 | .loc l=>(fb Z s1).bind λd s2=>match s2[l]? with
  | some xs=>if d.flat=true/\xs.length<cap then .ok .non (s2.set l (xs++[d])) else .no | none=>.no
 | _=>.no:=id rfl
@[simp] theorem qc:xy [] Z=[]:=id rfl
@[simp] theorem kI:xy (some i::mp) Z=(Z[i]?).getD none::xy mp Z:=id rfl
@[simp] theorem kM:xy (none::mp) Z=none::xy mp Z:=id rfl
variable (a b:Int)(u v:Bool)(xs ys:List D)
@[simp] theorem z2P:yL (.int a) (.int b) s=.ok (.int (a+b)) s:=rfl
@[simp] theorem kQ:yL (.tup xs) (.tup ys) s=if xs.length+ys.length<=cap then .ok (.tup (xs++ys)) s else .no:=rfl
@[simp] theorem jF:yL (.lst xs) (.lst ys) s=if xs.length+ys.length<=cap then .ok (.lst (xs++ys)) s else .no:=rfl
@[simp] theorem z2I:z25 (.int a) (.int b) s=.ok (.int (a-b)) s:=rfl
theorem z6X:yP (.int a) (.int b) s=if a.natAbs<BIG/\b.natAbs<BIG then .ok (.int (a*b)) s else .no:=by
 simp only[yP,dII,iOk];split<;>(rename_i h;split at h<;>simp_all)
theorem z8e:z4G (.int a) (.int b) s=if 0<b/\b.natAbs<BIG then .ok (.int (a / b)) s else .no:=by
 simp only[z4G,dII,iOk];split<;>(rename_i h;split at h<;>simp_all)
theorem z95:z3K (.int a) (.int b) s=if 0<b then .ok (.int (a % b)) s else .no:=by
 simp only[z3K,dII,iOk];split<;>(rename_i h;split at h<;>simp_all)
theorem z5d:z3L (.int a) (.int b) s=if 0<=b/\b<=1000/\a.natAbs<1000 then .ok (.int (a ^ b.toNat)) s else .no:=by
 simp only[z3L,dII,iOk];split<;>(rename_i h;split at h<;>simp_all)
@[simp] theorem zcG:dLt (.int a) (.int b) s=.ok (.bl (decide (a<b))) s:=rfl
@[simp] theorem zbv:dLe (.int a) (.int b) s=.ok (.bl (decide (a<=b))) s:=rfl
@[simp] theorem zcE:dGt (.int a) (.int b) s=.ok (.bl (decide (b<a))) s:=rfl
@[simp] theorem zcP:dGe (.int a) (.int b) s=.ok (.bl (decide (b<=a))) s:=rfl
@[simp] theorem z67:dEq (.int a) (.int b) s=.ok (.bl (decide (a=b))) s:=by
 have:eqD (.int a) (.int b)=decide (a=b):=by
  simp only[eqD,zS,PyData.eqv];rw[Bool.eq_iff_iff];simp
 rw[dEq,this];rfl
@[simp] theorem z3B:dNe (.int a) (.int b) s=.ok (.bl (decide (a≠b))) s:=by
 have:eqD (.int a) (.int b)=decide (a=b):=by
  simp only[eqD,zS,PyData.eqv];rw[Bool.eq_iff_iff];simp
 rw[dNe,this,_o (by constructor<;>rfl)];simp
@[simp] theorem zcT:dEq (.bl u) (.bl v) s=.ok (.bl (u==v)) s:=by cases u<;>cases v<;>rfl
@[simp] theorem zcQ:dNe (.bl u) (.bl v) s=.ok (.bl (u != v)) s:=by cases u<;>cases v<;>rfl
end
theorem zr{f g:FS}{Z Z':Ev}{s s':Sto}(h:f Z s=.ok (.nx Z') s'):zX f g Z s=g Z' s':=by simp[h]
theorem zaa{f g:FS}{Z:Ev}{s s':Sto}{d:D}(h:f Z s=.ok (.rt d) s'):zX f g Z s=.ok (.rt d) s':=by simp[h]
theorem jb{all:List D}{body:D->Ev->Sto->R Fl}(I:Nat->Ev->Sto->Prop):∀(xs:List D)(k:Nat),(∀j x,xs[j]? = some x->∀Z s,I (k+j) Z s->∃Z' s',body x Z s=.ok (.nx Z') s'/\I (k+j+1) Z' s')-> ∀Z s,I k Z s->∃Z' s',wF [] all body xs Z s=.ok (.nx Z') s'/\I (k+xs.length) Z' s'
 | [],k,_,Z,s,h=>⟨Z,s,by simp[wF,okG],h⟩ | x::xs,k,hb,Z,s,h=>by
  obtain⟨Z1,s1,e1,h1⟩:=hb 0 x (by simp) Z s h;obtain⟨Z2,s2,e2,h2⟩:=jb (all:=all) I xs (k+1) (λj y hy Z s hi=>by
   have e:k+1+j=k+(j+1):=by omega
   rw[e]at hi ⊢;exact hb (j+1) y (by simpa using hy) Z s hi) Z1 s1 h1;refine⟨Z2,s2,by simp[wF,okG,e1,e2],?_⟩;have e:k+(x::xs).length=k+1+xs.length:=by simp;omega
  rw[e];exact h2
theorem jW{n j:Nat}{x:D}(h:(yK n)[j]? = some x):j<n/\x=.int j:=by
 have hj:j<n:=by
  have:=(_b.mp h).1;simpa[yK] using this
 refine⟨hj,?_⟩;simp only[yK,_D,List.getElem?_range hj,_aG,_aa]at h;exact h.symm
theorem z42 {n:Nat} {x:D} (h:x∈yK n):∃j:Nat,j<n/\x=.int j:=by
 obtain⟨j,hj,e⟩:=_U.mp h;have:=jW (n:=n) (j:=j) (x:=x) (by rw[_d hj,e]);exact⟨j,this.1,this.2⟩
theorem uW:∀(ns:List Int),D.flat.flats (ns.map D.int)=true
 | []=>rfl | n::ns=>by simp[D.flat.flats,D.flat,uW ns]
theorem qQ(i:Int):(D.int i).flat=true:=rfl
theorem wR.flatten{mg:Gm}{H H':Hp}{Y Y':List Addr}{ys:List D}{c:Addr}(k:∀b o,H b=some o->(∀vs,o≠.lst vs)->(∀kvs,o≠.dT kvs)->H' b=some o)(f:D.flat.flats ys=true)(e:H' c=H c)(h:wR mg H Y ys c):wR mg H' Y' ys c:=by
 rcases h with⟨vs,h1,h2⟩ | ⟨kvs,h1,h2⟩ | ⟨o,kvs,ys,h1,h2⟩;·exact .inl ⟨vs,e.trans h1,h2.flatten k f⟩
 ·exact .inr (.inl ⟨kvs,e.trans h1,h2⟩)
 ·exact .inr (.inr ⟨o,kvs,ys,e.trans h1,h2⟩)
end Dd
namespace Zz
open PySem.AutoSeq1 (wpAny_loadPart')
section
variable {P:Program}{w:World}{A:Around}{E:Value->Shared->Prop}{s:Shared}
theorem z8D {e it l:Addr} {b:Bool} {k:Nat} {xs:Array Value} {x old:Value} {Q:Option Value->Shared->Prop} (he:IsEnum s.heap e it k old) (h1:Sit b s.heap it l k) (c1:Sco b s.heap l xs) (ex:xs[k]? = some x) (ne:e≠it) (q:∀h',IsEnumOut h' e it ((k:Int)+1) x s.heap.objs.size->Sit b h' it l (k+1)->h'.get? s.heap.objs.size=some {cls:=.type "tuple",data:=.seq #[.int k s.toks,x]}-> (∀c o,c≠e->c≠it->s.heap.get? c=some o->h'.get? c=some o)->Q (some (.ref s.heap.objs.size)) {s with heap:=h',toks:=s.toks+1}):wpAny (model P w) A (pyNext (.ref e)) Q E s:=by
 have hT:s.TypeIs (.ref e) "enumerate":=⟨_,he,rfl⟩;unfold pyNext;refine _a (_bK (_S (name:=Str.ofString "__next__") hT _aS (_an _aS hT F.entry_enumerate_next (Q:=λv s'=>wpAny (model P w) A (pure (some v)) Q E s') ?_ (F.args_enumerate_next_1 _))));obtain⟨hp,g,d,tk,os⟩:=s;show wpAny _ _ (field (.ref e) 2 >>= _) _ _ _;refine _a (_K he rfl (x:=.ref it) rfl ?_);refine _a (nx h1 c1 ex λg1 t1 s1=>?_);replace s1:Heap.SameBut it hp g1:=s1;have e1:IsEnum g1 e it k old:=(s1.2 e ne).trans he;show wpAny _ _ (field (.ref e) 3 >>= _) _ _ ⟨g1,g,d,tk,os⟩;refine _a (_K e1 rfl (x:=rawInt k) rfl ?_);show wpAny _ _ (field (.ref e) 4 >>= _) _ _ ⟨g1,g,d,tk,os⟩;refine _a (_K e1 rfl (x:=.none) rfl ?_);show wpAny _ _ (mkInt k >>= _) _ _ ⟨g1,g,d,tk,os⟩;refine _a (wpAny_mkInt ?_);show wpAny _ _ (setField (.ref e) 3 (rawInt ((k:Int)+1)) >>= _) _ _ ⟨g1,g,d,tk+1,os⟩;refine _a (_O e1 (by simp) λg2 e2 s2=>?_);replace s2:Heap.SameBut e g1 g2:=s2;replace e2:IsEnum g2 e it ((k:Int)+1) old:=e2;show wpAny _ _ (setField (.ref e) 4 .none >>= _) _ _ ⟨g2,g,d,tk+1,os⟩;refine _a (_O e2 (by simp) λg3 e3 s3=>?_);replace s3:Heap.SameBut e g2 g3:=s3;replace e3:IsEnum g3 e it ((k:Int)+1) old:=e3;show wpAny _ _ (newTuple [.int k tk,x] >>= _) _ _ ⟨g3,g,d,tk+1,os⟩;refine _a (wpAny_newTuple ?_);have e4:IsEnum (g3.push {cls:=.type "tuple",data:=.seq #[.int k tk,x]}) e it ((k:Int)+1) old:=_c _ e3;generalize hg4:g3.push {cls:=.type "tuple",data:=.seq #[.int k tk,x]}=g4 at e4;have sz:g3.objs.size=hp.objs.size:=by rw[s3.1,s2.1,s1.1]
 have el:e<hp.objs.size:=_l he;have t4:g4.get? hp.objs.size=some {cls:=.type "tuple",data:=.seq #[.int k tk,x]}:=by rw[<- hg4,<- sz];exact _u _ rfl
 have k4:∀c o,c≠e->c≠it->hp.get? c=some o->g4.get? c=some o:=λc o n1 n2 z=>by rw[<- hg4];exact _c _ (zn s3 n1 (zn s2 n1 (zn s1 n2 z)))
 have i4:Sit b g4 it l (k+1):=t1.to λo z=>by rw[<- hg4];exact _c _ (zn s3 ne.symm (zn s2 ne.symm z))
 show wpAny _ _ (Builtin.SmallTypes.ownedTupleIsFree (.ref e) >>= _) _ _ ⟨g4,g,d,tk+1,os⟩;rw[sz];refine _a ?_;unfold Builtin.SmallTypes.ownedTupleIsFree;refine _a (_K e4 rfl (x:=.none) rfl (_k ?_));simp only[_Z];refine _a (_bA ?_);refine _a (_K e4 rfl (x:=old) rfl ?_);refine _a (_O e4 (by simp) λg5 e5 s5=>?_);replace s5:Heap.SameBut e g4 g5:=s5;replace e5:IsEnum g5 e it ((k:Int)+1) x:=e5;show wpAny _ _ (Builtin.SmallTypes.ownedTupleHandOut (.ref e) (.ref hp.objs.size) >>= _) _ _ ⟨g5,g,d,tk+1,os⟩;refine _a ?_;unfold Builtin.SmallTypes.ownedTupleHandOut;refine _a (_O e5 (by simp) λg6 e6 s6=>?_);replace s6:Heap.SameBut e g5 g6:=s6;replace e6:IsEnumOut g6 e it ((k:Int)+1) x hp.objs.size:=e6;refine _O e6 (by simp) λg7 e7 s7=>?_;replace s7:Heap.SameBut e g6 g7:=s7;replace e7:IsEnumOut g7 e it ((k:Int)+1) x hp.objs.size:=e7;have up:∀c o,c≠e->g4.get? c=some o->g7.get? c=some o:=λc o n z=>zn s7 n (zn s6 n (zn s5 n z));refine _a (wpAny_letGo (_k ⟨_,rfl,_k (q g7 e7 (i4.to λo z=>up _ o ne.symm z) (up _ _ (_bu el) t4) λc o n1 n2 z=>up c o n1 (k4 c o n1 n2 z))⟩))
theorem zaG {e it l:Addr} {b:Bool} {k:Nat} {xs:Array Value} {old:Value} {Q:Option Value->Shared->Prop} (hh:A.handled=none) (he:IsEnum s.heap e it k old) (h1:Sit b s.heap it l k) (c1:Sco b s.heap l xs) (ex:xs[k]? = none) (q:∀h',Heap.ExtBut it s.heap h'->Q none {s with heap:=h'}):wpAny (model P w) A (pyNext (.ref e)) Q E s:=by
 have hT:s.TypeIs (.ref e) "enumerate":=⟨_,he,rfl⟩;unfold pyNext;refine _a (_bK (_S (name:=Str.ofString "__next__") hT _aS (_an _aS hT F.entry_enumerate_next ?_ (F.args_enumerate_next_1 _))));show wpAny _ _ (field (.ref e) 2 >>= _) _ _ _;refine _a (_K he rfl (x:=.ref it) rfl ?_);refine _a (z4y hh h1 c1 ex λh' x he' hx'=>?_);obtain⟨o,ho,hc⟩:=hx';refine _a (wpAny_isInstance (T:="StopIteration") (b:=true) ⟨o,ho,hc⟩ isSubtype_stop ?_);exact _k (q _ he')
end
theorem z6R(b:Bool)(l:Addr)(xs:Array Value): Meets (Builtin.«enumerate.__new__» ⟨[.type "enumerate",.ref l],[]⟩) (λ_ R s=>Sco b s.heap l xs/\R (.ok (.ret (.ref (s.heap.push (itO b l)).objs.size))) {s with heap:=(s.heap.push (itO b l)).push {cls:=.type "enumerate",data:=.fields #[.none,.bool false,.ref s.heap.objs.size,rawInt 0,.none,.none]}}):= .of_wp λprog w A R s h=>by
  obtain⟨hp,g,d,tk,os⟩:=s;obtain⟨c1,h⟩:=h;have hsub:=sub_enumerate;have q1:Sco b (Shared.heap ⟨hp,g,d,tk,os⟩) l xs:=c1;obtain⟨o,hl⟩:∃o,hp.get? l=some o:=by cases b with
   | true=>obtain⟨o,e,_⟩:=c1;exact⟨o,e⟩ | false=>obtain⟨o,e,_⟩:=c1;exact⟨o,e⟩
  wp_walk using _ac hl;refine wpAny_stack_any λst=>_k ?_;split
  ·rename_i c _ _ _ _ _;cases (c==Value.type "enumerate")
   ·wp_walk using _ac hl,kO q1;exact⟨_,rfl,h⟩
   ·wp_walk using _ac hl,kO q1;exact⟨_,rfl,h⟩
  ·wp_walk using _ac hl,kO q1;exact⟨_,rfl,h⟩
section
variable {P:Program}{w:World}{A:Around}{E:Value->Shared->Prop}{s:Shared}
theorem z8c {b:Bool} {l:Addr} {xs:Array Value} {Q:Value->Shared->Prop} (c1:Sco b s.heap l xs) (h:∀h',IsEnum h' (s.heap.objs.size+1) s.heap.objs.size 0 .none->Sit b h' s.heap.objs.size l 0->(∀c o,s.heap.get? c=some o->h'.get? c=some o)->Q (.ref (s.heap.objs.size+1)) {s with heap:=h'}): wpAny (model P w) A (call (.type "enumerate") [.ref l]) Q E s:=by
 refine callType_new F.called_enumerate (by decide) (F.typeCall_enumerate_1 _) (F.newCall_enumerate_1 _) (λobj=>F.args_object_init_2 obj _) F.entry_enumerate_new (z6R b l xs) ⟨c1,?_⟩;have z1:(s.heap.push (itO b l)).objs.size=s.heap.objs.size+1:=_ai ..;have g2:=_u (s.heap.push (itO b l)) (o:={cls:=.type "enumerate",data:=.fields #[.none,.bool false,.ref s.heap.objs.size,rawInt 0,.none,.none]}) rfl;have g1:((s.heap.push (itO b l)).push {cls:=.type "enumerate",data:=.fields #[.none,.bool false,.ref s.heap.objs.size,rawInt 0,.none,.none]}).get? s.heap.objs.size=some (itO b l):=_c _ (_u _ (ja b l));show _/\_;rw[z1]at g2;rw[z1];exact⟨⟨_,g2,rfl⟩,h _ g2 (z1i g1) λc o e=>_c _ (_c _ e)⟩
end
end Zz
namespace L2
open Zz
def Ite(K:W.Frag)(b:Bool)(l:Addr):It:= ⟨λi H=>∃xs x,Sq b K H l xs/\xs[i]? = some x, λi H v H'=>∃T x,H T=none/\v=.ref T/\H'=upd H T (.tup [.int i,x])/\∀xs,Sq b K H l xs->xs[i]? = some x, λi H=>∃xs,Sq b K H l xs/\xs.length<=i⟩
theorem z56 {P:Program} {w:World} {K:W.Frag} {elts:List Expr} {kt:Nat} {tp:Pos} {b:Bool} {e it l:Addr} (ne:e≠it): z7X P w K (.Tuple elts kt tp) (Ite K b l) [e,it] e (λi h=>(∃old,IsEnum h e it ((i:Nat):Int) old)/\Sit b h it l i) where
 mem:=by simp
 obj:=λi h ⟨⟨old,he⟩,h1⟩ c hc=>by
  have hc':c=e\/c=it:=by simpa using hc
  rcases hc' with rfl | rfl;·exact⟨_,he,λv z=>by simp at z⟩
  ·exact h1.ob
 keep:=λi h h' ⟨⟨old,he⟩,h1⟩ k=>⟨⟨old,k e (by simp) _ he⟩,h1.to λo z=>k it (by simp) o z⟩;item:=by
  intro X hP hw hK hc i pins s O H E I hf ⟨⟨old,he⟩,h1⟩ ⟨xs,x,qx,ex⟩;subst hP hw hK;obtain⟨ix,rx,cx⟩:=I.sq qx;obtain⟨u,hu,ru⟩:=rx.get ex;refine z8D he h1 cx (x:=u) (by simpa using hu) ne λg a1 a2 a3 hk=>⟨_,rfl,?_⟩;have I1:Inv X pins O H {s with heap:=g,toks:=s.toks+1}:=I.turnedL (t':=s.toks+1) (ch:=[e,it]) (λc o n z=>hk c o (λt=>n (by simp[t])) (λt=>n (by simp[t])) z) hf;refine wpAny_letOwnedTupleGo_enum a1 λg2 e2 s2=>?_;obtain⟨f0,f1,f2,f3,f4,f5⟩:=hf e (by simp);have I2:Inv X pins O H {s with heap:=g2,toks:=s.toks+1}:=I1.turned (t':=s.toks+1) (λc o n z=>zn s2 n z) f0 f1 f3 f4 f5;have new:z1V X pins H s.heap.objs.size:=I.fpOk (_n _) (I.hok.fresh (_n _));have el:e≠s.heap.objs.size:=_F (_l he);have p2:g2.get? s.heap.objs.size=some {cls:=.type "tuple",data:=.seq #[.int i s.toks,u]}:=zn s2 el.symm a3;refine⟨.ref s.heap.objs.size,upd H s.heap.objs.size (.tup [.int i,x]),I2.track new ⟨?_,[.int i s.toks,u],.cons ⟨_,rfl⟩ (.cons ru .nil),⟨_,p2,rfl,rfl,_,rfl⟩⟩,rfl,⟨_,x,new.1,rfl,rfl,λzs qz=>?_⟩,⟨⟨_,by simpa using e2⟩,a2.to λo z=>zn s2 ne.symm z⟩,λc hc=>?_⟩;·show 2<=sizeLine;decide
  ·rw[I.sq_inj qz qx];exact ex
  ·have hc':c=e\/c=it:=by simpa using hc
   have:c≠s.heap.objs.size:=by
    rcases hc' with rfl | rfl;·exact el
    ·exact _F h1.lt
   rw[zC this];exact (hf c hc).1
 done:=by
  intro X hP hw hK hc i pins s O H E I hf ⟨⟨old,he⟩,h1⟩ ⟨xs,qx,hl⟩;subst hP hw hK;obtain⟨ix,rx,cx⟩:=I.sq qx;have lx:=rx.length;obtain⟨f0,f1,f2,f3,f4,f5⟩:=hf it (by simp);exact zaG (I.ok.hd hc) he h1 cx (by simp;omega) λg hk=>⟨rfl,I.turned (t':=s.toks) (λc o n z=>hk c o n z) f0 f1 f3 f4 f5⟩
 self:=λ_ _ _ _ _ ⟨⟨_,he⟩,_⟩ h=>wpAny_pyIter_enum he h
theorem z7W{X:Cx}{elts:List Expr}{kt:Nat}{tp:Pos}{a:Expr}{ta:TA}{p pos:Pos}(hg:Gl X "enumerate")(hm:X.mg "enumerate"=none)(ha:PA X [a] ta)(hs:starEach [a] X.env=(false,eval a X.env)::starEach [] X.env:=by rfl)(hpl:(backTo pos (starEach [] X.env)).any (·.1)=false:=by rfl): PI X (.Tuple elts kt tp) (.Call (.Name "enumerate" p) [a] [] pos) (λO H R=>ta O H λvs H1=>∃l b,vs=[.ref l]/\(∃xs,Sq b X.K H1 l xs)/\R (Ite X.K b l) H1):=by
 intro pins s O H R I h;refine _aL (z05 I hg hm (u:=.type "enumerate") (by decide +kernel) ?_ (by decide) (by decide));refine _aw (thn (ha pos pins s O H _ I h) λus s1 ⟨vs,H1,I1,r1,q1⟩=>?_) hs hpl;obtain⟨l,b,rfl,⟨xs,qx⟩,q⟩:=q1;obtain⟨u,rfl,ru⟩:=vals1 r1;cases ru;obtain⟨ix,rx,cx⟩:=I1.sq qx;refine z8c cx λg he h1 hk=>?_;refine wpAny_pyIter_enum he ?_;refine⟨_,_,_,_,H1,rfl,I1.kept (t':=s1.toks) hk,z56 (Nat.succ_ne_self _),⟨⟨_,he⟩,h1⟩,λc hc=>?_,q⟩;have hc':s1.heap.objs.size<=c:=by
  have:c=s1.heap.objs.size+1\/c=s1.heap.objs.size:=by simpa using hc
  rcases this with rfl | rfl;·exact Nat.le_succ _
  ·exact _n _
 exact I1.fpOk hc' (I1.hok.fresh hc')
theorem jE(ns:List Int):∀n,n<=ns.length->preSum (λi=>ns.getD i 0) n=(ns.take n).sum
 | 0,_=>by simp[preSum] | n+1,h=>by
  rw[preSum,jE ns n (by omega),<- List.take_append_getElem (show n<ns.length by omega),List.sum_append];have e:ns.getD n 0=ns[n]:=by simp[List.getD,_d (show n<ns.length by omega)]
  rw[e];simp only[_t,_A,Int.add_zero]
theorem z5v{X:Cx}(hc:X.calm=true):yM X (.builtin "sum") (λxs H Q=>∃(b:Bool)(p:Addr)(ns:List Int),xs=[.ref p]/\Sq b X.K H p (ns.map V.int)/\Q (.int ns.sum) H):=by
 intro pins s O H xs us Q I r h;obtain⟨b,p,ns,rfl,hq,q⟩:=h;obtain⟨u,rfl,ru⟩:=vals1 r;cases ru;obtain⟨its,rv,co⟩:=I.sq hq;have hl:its.length=ns.length:=by have:=rv.length;simp at this;omega
 refine call_sum_walkG (z0W (I.ok.hd hc) co λs2 e2 St W st bd old=>?_);subst e2;refine⟨_,_,_,_,_,_,(λi=>ns.getD i 0),rfl,W,st,bd,(λi v e=>let ⟨t,e1,_⟩:=kh rv e;⟨t,e1⟩),λh' tk t' hk=>?_⟩;have ez:its.toArray.size=ns.length:=by simp[hl]
 rw[ez,jE ns _ (_n _),List.take_length];exact⟨.int ns.sum,H,I.kept (t':=tk) (old h' hk),⟨t',rfl⟩,q⟩
end L2
namespace L2
end L2
namespace Dd
open L2
section
variable {X:Cx}{E:XK}{e a b c tg iter elt:Expr}{es:List Expr}{pos:Pos}{CX:CXT}
theorem zbG{mg:Gm}{H:Hp}{Y:List Addr}{d d' d2:D}{vs:List V}(h:zv mg H Y [d,d',d2] vs):∃v v' v2,vs=[v,v',v2]/\Den mg H Y d v/\Den mg H Y d' v'/\Den mg H Y d2 v2:=by
 simp only[zv]at h;obtain⟨v,r,rfl,h1,v',r',rfl,h2,v2,r2,rfl,h3,rfl⟩:=h;exact⟨v,v',v2,rfl,h1,h2,h3⟩
def zcU(i j k:Nat)(f:FA):FS:=λZ s=>(f Z s).bind λds s1=>match ds with | [x,y,z]=>.ok (.nx (((Z.set i (some x)).set j (some y)).set k (some z))) s1 | _=>.no
def z7I:List D->Sto->R D
 | [d],s=>match (zI s d).bind intsOf with | some ns=>.ok (.int ns.sum) s | none=>.no
 | _,_=>.no
theorem zad(hc:X.calm=true):∃r,yM X (.builtin "sum") r/\vZ X E r z7I:=⟨_,z5v hc,λH Y s ds vs Q r hd h=>by
 unfold z7I at h;split at h
 ·rename_i d;split at h
  ·rename_i ns e;obtain⟨xs,e1,e2⟩:=_aJ.mp e;have:=ue e2;subst this;obtain⟨v,rfl,dn⟩:=uj hd;obtain⟨a,ws,rfl,q1,q2⟩:=xT (K:=X.K) r e1 dn;cases uf q2;obtain⟨b,q⟩:=z2W q1;exact⟨b,a,ns,rfl,q,h.here r yz⟩
  ·exact h.elim
 ·exact h.elim⟩
def vG:Nat->List D->List D
 | _,[]=>[] | i,x::xs=>.tup [.int i,x]::vG (i+1) xs
theorem xH:∀(i:Nat)(xs:List D),(vG i xs).length=xs.length
 | _,[]=>rfl | i,x::xs=>by simp[vG,xH (i+1) xs]
theorem qV:∀{i k:Nat}{xs:List D}{d:D},(vG i xs)[k]? = some d->∃x,xs[k]? = some x/\d=.tup [.int ((i+k:Nat):Int),x]
 | _,_,[],_,h=>by simp[vG]at h | i,0,x::xs,d,h=>by simp[vG]at h;exact⟨x,by simp,by simp[h]⟩ | i,k+1,x::xs,d,h=>by
  simp only[vG,_au]at h;obtain⟨y,h1,h2⟩:=qV h;refine⟨y,by simpa using h1,?_⟩;rw[h2,show i+1+k=i+(k+1) by omega]
def z22(f:FA):FI:=λZ s=>(f Z s).bind λds s1=>match ds with
 | [x]=>match z51 s1 x with
  | some p=>.ok (vG 0 p.1,p.2) s1 | none=>.no
 | _=>.no
theorem z7o{p tp:Pos}{elts:List Expr}{kt:Nat}{f:FA}(hg:Gl X "enumerate")(hm:X.mg "enumerate"=none)(ha:RA X E [a] f)(hs:starEach [a] X.env=(false,eval a X.env)::starEach [] X.env:=by rfl)(hpl:(backTo pos (starEach [] X.env)).any (·.1)=false:=by rfl): RI X E (.Tuple elts kt tp) (.Call (.Name "enumerate" p) [a] [] pos) (z22 f):= z2J (z7W hg hm ha hs hpl) λO H Q ⟨Y,Z,s,r,en,h⟩=>by
  unfold z22 at h;refine⟨Y,Z,s,r,en,(okR.bind (Dn:=zv (gm X)) h).imp λvs H1 ⟨Y1,s1,ds,stp,dn,h1⟩=>?_⟩;split at h1
  ·rename_i x;split at h1
   ·rename_i p ex;obtain⟨xs,gx⟩:=p;obtain⟨v,rfl,d1⟩:=uj dn;obtain⟨og1,b1,a1,rfl,k1⟩:=z2j stp.rep ex d1;obtain⟨w1,q1,_⟩:=k1 H1 Y1 s1 (.refl stp.rep) og1;refine⟨a1,b1,rfl,⟨w1,q1⟩,h1.here stp.rep λH2 Y2 s2 stp2 og i=>⟨λd hd=>?_,λhl=>?_⟩⟩
    ·obtain⟨x,e1,rfl⟩:=qV hd;obtain⟨w1,q1,n1⟩:=k1 H2 Y2 s2 stp2 og;obtain⟨u1,g1,m1⟩:=n1.get e1;refine⟨⟨w1,u1,q1,g1⟩,λz H' ⟨T,p,hT,ez,eH,hp⟩=>?_⟩;subst ez eH;have e3:=hp w1 q1;rw[g1]at e3;cases e3;have st3:=xr.lay (o:=.tup [.int i,u1]) stp2.rep hT (by intro _ z;cases z);refine⟨Y2,st3,?_⟩;simp only[Den,_bx];exact⟨T,[.int i,u1],rfl,yi,(zv.cons yz (zv.one m1)).mono st3⟩
    ·obtain⟨w1,q1,n1⟩:=k1 H2 Y2 s2 stp2 og;refine⟨w1,q1,?_⟩;rw[n1.length];simpa only [xH] using hl
   ·exact h1.elim
  ·exact h1.elim
def z3M(x y:D)(s:Sto):R D:=match listOf s x,listOf s y with
 | some a,some b=>if a.length+b.length<=cap/\D.flat.flats (a++b)=true then .ok (.loc s.length) (s++[a++b]) else .no | _,_=>.no
theorem z7q:∃r,OpR X (binaryOp .Add) r/\OpF X E r z3M:=⟨_,z4g,λH Y s d1 d2 v1 v2 Q r h1 h2 h=>by
 unfold z3M at h;split at h
 ·rename_i xs ys ex ey;split at h
  ·rename_i hc;obtain⟨l,vs,e,q1,q2⟩:=zL r ex h1;obtain⟨l',vs',e',q1',q2'⟩:=zL r ey h2;exact⟨l,l',vs,vs',e,e',q1,q1',by rw[q2.length,q2'.length];exact vL hc.1,z2H r h hc.2 (q2.append q2')⟩
  ·exact h.elim
 ·exact h.elim⟩
end
section
variable (i j k:Nat)(Z:Ev)(s:Sto)(ar:FA)
@[simp] theorem z8t:z22 ar Z s=(ar Z s).bind λds s1=>match ds with
 | [x]=>match z51 s1 x with
  | some p=>.ok (vG 0 p.1,p.2) s1 | none=>.no
 | _=>.no:=id rfl
end
end Dd
namespace L2
end L2
namespace Dd
open L2
def xY(ft:FT)(fb:FS):Nat->Ev->Sto->R Fl
 | 0,_,_=>.no | k+1,Z,s=>(ft Z s).bind λb s1=>if b=true then (fb Z s1).bind λfl s2=>match fl with
   | .nx Z'=>xY ft fb k Z' s2 | .ct Z'=>xY ft fb k Z' s2 | .bk Z'=>.ok (.nx Z') s2 | .rt d=>.ok (.rt d) s2 else .ok (.nx Z) s1
theorem uQ{ft:FT}{fb:FS}:∀{k:Nat}{Z:Ev}{s:Sto},xY ft fb k Z s≠.no->xY ft fb (k+1) Z s=xY ft fb k Z s
 | 0,Z,s,h=>absurd rfl h | k+1,Z,s,h=>by
  rw[xY]at h ⊢;conv=>rhs;rw[xY]
  cases e:ft Z s with
  | no=>rfl | ex c t=>rfl | ok b s1=>
   rw[e]at h;simp only[Rb]at h ⊢;cases b with
   | false=>rfl | true=>
    rw[_o rfl]at h ⊢;rw[_o rfl];cases e2:fb Z s1 with
    | no=>rfl | ex c t=>rfl | ok fl s2=>
     rw[e2]at h;simp only[Rb]at h ⊢;cases fl with
     | nx Z'=>exact uQ h | ct Z'=>exact uQ h | bk Z'=>rfl | rt d=>rfl
theorem z30{ft:FT}{fb:FS}{k m:Nat}{Z:Ev}{s:Sto}(h:xY ft fb k Z s≠.no)(hm:k<=m):xY ft fb m Z s=xY ft fb k Z s:=by induction hm with
 | refl=>rfl | step _ ih=>rw[uQ (by rw[ih];exact h),ih]
open Classical in
def z02(ft:FT)(fb:FS):FS:=λZ s=>if h:∃k,xY ft fb k Z s≠.no then xY ft fb h.choose Z s else .no
theorem z38{ft:FT}{fb:FS}{k:Nat}{Z:Ev}{s:Sto}{r:R Fl}(h:xY ft fb k Z s=r)(hr:r≠.no):z02 ft fb Z s=r:=by
 subst h;have hx:∃k,xY ft fb k Z s≠.no:=⟨k,hr⟩;unfold z02;rw[dif_pos hx];rcases Nat.le_total k hx.choose with z | z;·exact z30 hr z
 ·exact (z30 hx.choose_spec z).symm
theorem z4B {X:Cx} {E:XK} {c:Expr} {body:List Stmt} {pos:Pos} {ft:FT} {fb:FS} (hp:PassesOwn (model X.prog X.w) X.A X.env X.xe) (hc:RT X E c ft) (hb:RSs X E body fb):RS X E (.While c body [] pos) (z02 ft fb):= vi (z6I hp hc hb) λD O H ⟨Y,Z,s,r,en,h⟩=>by
  unfold z02 at h;split at h
  ·rename_i hx;refine⟨λm O H=>∃Y Z s,Rep (gm X) H Y s/\wS (gm X) H Y Z O/\okR (gm X) E H Y (FlD (gm X)) (xY ft fb m Z s) (z0H D),⟨_,Y,Z,s,r,en,h⟩,?_⟩;rintro m O H ⟨Y,Z,s,r,en,h⟩;cases m with
   | zero=>exact h.elim | succ m=>
    rw[xY]at h;refine⟨Y,Z,s,r,en,(okR.bind (Dn:=bD) h).imp λb H1 ⟨Y1,s1,b',stp,eb,h1⟩=>?_⟩;cases (show b'=b from eb);cases b with
    | false=>
     rw[_I (by decide)]at h1 ⊢;exact okR.here (b:=FlV.nx O) (Q:=z0H D) h1 stp.rep (en.mono stp) | true=>
     rw[_o rfl]at h1 ⊢;refine⟨λO' H'=>∃Y Z s,Rep (gm X) H' Y s/\wS (gm X) H' Y Z O'/\okR (gm X) E H' Y (FlD (gm X)) (xY ft fb m Z s) (z0H D),λO' H' q=>⟨m,_bf _,q⟩,Y1,Z,s1,stp.rep,en.mono stp,(okR.bind (Dn:=FlD (gm X)) h1).imp λfv H2 ⟨Y2,s2,fl,stp2,dn,h2⟩=>?_⟩;cases fl with
     | nx Z'=> cases fv with
      | nx O'=>exact⟨Y2,Z',s2,stp2.rep,dn,h2⟩ | _=>exact (show False from dn).elim
     | ct Z'=> cases fv with
      | ct O'=>exact⟨Y2,Z',s2,stp2.rep,dn,h2⟩ | _=>exact (show False from dn).elim
     | bk Z'=> cases fv with
      | bk O'=>exact okR.here (b:=FlV.nx O') (Q:=z0H D) (a:=Fl.nx Z') (s:=s2) h2 stp2.rep dn | _=>exact (show False from dn).elim
     | rt d=> cases fv with
      | rt v=>exact okR.here (b:=FlV.rt v) (Q:=z0H D) (a:=Fl.rt d) (s:=s2) h2 stp2.rep dn | _=>exact (show False from dn).elim
  ·exact h.elim
end Dd
namespace PySem
open PySem.AutoSeq1 (wpAny_loadPart')
open MeetsSeq MeetsSeq2 SeqAt
end PySem
namespace L2
end L2
namespace Dd
open L2
theorem xr.cut{mg:Gm}{H H1:Hp}{Y Y1:List Addr}{s1:Sto}(stp:xr mg H Y H1 Y1 s1):xr mg H Y H1 (Y1.take Y.length) (s1.take Y.length):=by
 have fl:∀{ds:List D}{ws:List V},D.flat.flats ds=true->zv mg H1 Y1 ds ws->zv mg H1 (Y1.take Y.length) ds ws:=λf h=>h.flatten (λ_ _ h _ _=>h) f;refine⟨⟨by simp[stp.rep.len],stp.rep.nd.sublist (_bE _ _),λj ys h=>?_,λys h=>stp.rep.flat ys (_J h)⟩,?_,stp.keep,λc h1 h2=>stp.new c (_J h1) h2,stp.mt⟩
 ·have hj:j<Y.length:=by
   have:=(_b.mp h).1;simp at this;omega
  rw[_ah hj]at h ⊢;obtain⟨c,q1,q2⟩:=stp.rep.cell j ys h;exact⟨c,q1,q2.flatten (λ_ _ h _ _=>h) (stp.rep.flat _ (_s h)) rfl⟩
 ·obtain⟨t,ht⟩:=stp.pre;exact⟨[],by rw[<- ht,List.take_append];simp⟩
theorem xr.frzC{mg:Gm}{H H1:Hp}{Y Y1:List Addr}{s1:Sto}{l:Nat}{xs:List D}(stp:xr mg H Y H1 Y1 s1){a:Addr}(hl:Y.length<=l)(hx:s1[l]? = some xs)(e1:Y1[l]? = some a)(ka:IsL H1 a):∃vs,H1 a=some (.lst vs)/\ ∀o,xr mg H Y (upd H1 a (.frz o (.lst vs))) (Y1.take Y.length) (s1.take Y.length)/\Den mg (upd H1 a (.frz o (.lst vs))) (Y1.take Y.length) (.lst xs) (.ref a):=by
 obtain⟨vs,e2,e3⟩:=stp.rep.at_ hx e1 ka;refine⟨vs,e2,λo=>?_⟩;have il:l<Y1.length:=(_b.mp e1).1;have an:a∉Y:=λz=>by
  obtain⟨j,hj,ej⟩:=_U.mp z;obtain⟨t,ht⟩:=stp.pre;have:Y1[j]? = some a:=by rw[<- ht,_x hj,_d hj,ej]
  have:=(_bd stp.rep.nd).mp (((_b.mp this).2).trans ((_b.mp e1).2).symm);omega
 have a0:H a=none:=stp.new a (_s e1) an;have k:∀b u,H1 b=some u->(∀vs,u≠.lst vs)->(∀kvs,u≠.dT kvs)->upd H1 a (.frz o (.lst vs)) b=some u:=λb u h hn _=>by rw[zC (λz=>by subst z;rw[e2]at h;exact hn vs (_G h).symm)];exact h
 have fl:∀{ds:List D}{ws:List V},D.flat.flats ds=true->zv mg H1 Y1 ds ws->zv mg (upd H1 a (.frz o (.lst vs))) (Y1.take Y.length) ds ws:=λf h=>h.flatten k f;have mem:∀{j:Nat}{ys:List D},s1[j]? = some ys->D.flat.flats ys=true:=λe=>stp.rep.flat _ (_s e);refine⟨⟨⟨by simp[stp.rep.len],stp.rep.nd.sublist (_bE _ _),λj ys h=>?_,λys h=>stp.rep.flat ys (_J h)⟩,?_,λb u h n=>?_,λc h1 h2=>stp.new c (_J h1) h2,λb hb=>?_⟩,?_⟩
 ·have hj:j<Y.length:=by
   have:=(_b.mp h).1;simp at this;omega
  rw[_ah hj]at h ⊢;obtain⟨c,q1,q2⟩:=stp.rep.cell j ys h;refine⟨c,q1,q2.flatten k (mem h) (zC λz=>?_)⟩;subst z;have:=(_bd stp.rep.nd).mp (((_b.mp q1).2).trans ((_b.mp e1).2).symm);omega
 ·obtain⟨t,ht⟩:=stp.pre;exact⟨[],by rw[<- ht,List.take_append];simp⟩
 ·rw[zC (λz=>by subst z;rw[a0]at h;cases h)];exact stp.keep b u h n
 ·have ne:b≠a:=λz=>an (z ▸ hb);rcases stp.mt b hb with⟨q1,q2⟩ | ⟨q1,q2,q3⟩;·exact .inl ⟨q1,by rw[IsL,zC ne];exact q2⟩
  ·exact .inr ⟨q1,by rw[IsC,zC ne];exact q2,λo u z=>by rw[zC ne];exact q3 o u z⟩
 ·simp only[Den];exact⟨a,o,vs,rfl,yi,fl (mem hx) e3⟩
def z8V(n:Nat):R D->R D
 | .ok (.loc l) s1=>match s1[l]? with
  | some xs=>if n<=l then .ok (.lst xs) (s1.take n) else .no | none=>.no
 | .ok _ _=>.no | .ex c s1=>.ex c s1 | .no=>.no
def z64(f:FE):FE:=λZ s=>z8V s.length (f Z s)
section
variable {X:Cx}{E:XK}{e:Expr}
theorem zaq{f:FE}(h:RE X E e f):RE X E e (z64 f):= ye (PE.freeze h) λO H Q ⟨Y,Z,s,r,en,h⟩=>by
  refine⟨Y,Z,s,r,en,?_⟩;unfold z64 z8V at h;split at h
  ·rename_i l s1 e1;rw[e1];split at h
   ·rename_i xs ex;split at h
    ·rename_i hl;intro v H1 Y1 stp dn;simp only[Den]at dn;obtain⟨a,rfl,q1,ka⟩:=dn;obtain⟨vs,q2,q3⟩:=stp.frzC (by rw[r.len];exact hl) ex q1 ka;rw[<- r.len]at h;exact⟨a,vs,rfl,q2,λo=>h _ _ _ (q3 o).1 (q3 o).2⟩
    ·exact h.elim
   ·exact h.elim
  ·exact h.elim
  ·rename_i e1;rw[e1];exact h
  ·exact h.elim
end
@[simp] theorem z7w (f:FE)(Z:Ev)(s:Sto):z64 f Z s=z8V s.length (f Z s):=id rfl
@[simp] theorem zaP {s:Sto}{xs:List D}:z8V s.length (.ok (.loc s.length) (s++[xs]))=.ok (.lst xs) s:=by simp[z8V]
def z4p(n:Nat):R D->R D
 | .ok (.loc l) s1=>if l<n then .ok (.loc l) (s1.take n) else .ok (.loc l) s1 | .ok d s1=>if d.flat=true then .ok d (s1.take n) else .ok d s1 | r=>r
def z44(M:Mir):Mir:=λds s=>z4p s.length (M ds s)
theorem z7N{mg:Gm}{M:Mir}{vs:List V}{H:Hp}{Q:VK}{E:XK}(h:z7F mg (z44 M) vs H Q E):z7F mg M vs H Q E:=by
 obtain⟨Y,s,ds,r,dn,h⟩:=h;refine⟨Y,s,ds,r,dn,?_⟩;unfold z44 z4p at h;split at h
 ·rename_i l s1 e;rw[e];split at h
  ·rename_i hl;intro v H1 Y1 stp dv;rw[<- r.len]at h;refine h v H1 _ stp.cut ?_;simp only[Den]at dv ⊢;obtain⟨a,rfl,e1,ka⟩:=dv;exact⟨a,rfl,by rw[_ah (by rw[r.len];exact hl)];exact e1,ka⟩
  ·exact h
 ·rename_i d s1 hn e;rw[e];split at h
  ·rename_i hf;intro v H1 Y1 stp dv;rw[<- r.len]at h;exact h v H1 _ stp.cut (dv.flatten (λ_ _ h _ _=>h) hf)
  ·exact h
 ·exact h
section
variable {P:Program}{w:World}{K:W.Frag}{mg:Str->Option Value}{base:Heap}
theorem Has.tidy{CX:CXT}{x:Str}{n:Nat}{M:Mir}(h:Has P w K mg base CX x n M):Has P w K mg base CX x n (z44 M):=by
 obtain⟨f,fd,ps,F,r⟩:=h;exact⟨f,fd,ps,F.imp λvs H Q E h=>z7N h,r⟩
end
@[simp] theorem z4D (M:Mir)(ds:List D)(s:Sto):z44 M ds s=z4p s.length (M ds s):=id rfl
@[simp] theorem kS {d:D}{n:Nat}{s1:Sto}(h:d.flat=true):z4p n (.ok d s1)=.ok d (s1.take n):=by cases d<;>first | (simp[D.flat]at h;done) | simp_all[z4p]
def z8T:D->D->Sto->R D
 | x,.int k,s=>match listOf s x with
  | some xs=>if xs.length*k.toNat<=cap/\-(2 ^ 62)<=k/\k<2 ^ 62 then .ok (.lst (List.replicate k.toNat xs).flatten) s else .no | none=>.no
 | _,_,_=>.no
theorem zv.flat_rep{mg:Gm}{H:Hp}{Y:List Addr}{xs:List D}{vs:List V}(h:zv mg H Y xs vs):∀k:Nat,zv mg H Y (List.replicate k xs).flatten (List.replicate k vs).flatten
 | 0=>by simpa using zv.nil | k+1=>by
  rw[_af,_af,_aI,_aI];exact h.append (h.flat_rep k)
section
variable {X:Cx}{E:XK}
theorem zbD:∃r,OpR X (binaryOp .Mult) r/\OpF X E r z8T:=by
 refine⟨_,z9o.freeze,?_⟩;intro H Y s d1 d2 v1 v2 Q r h1 h2 h;unfold z8T at h;split at h
 ·rename_i k;cases yf h2;split at h
  ·rename_i xs hx;split at h
   ·rename_i hl;obtain⟨l,vs,e,q1,q2⟩:=zL r hx h1;exact⟨l,k,vs,e,rfl,q1,by omega,by omega,by rw[q2.length];exact vL hl.1,uZ r h (q2.flat_rep _)⟩
   ·exact h.elim
  ·exact h.elim
 ·exact h.elim
end
section
variable {P:Program}{w:World}{K:W.Frag}{mg:Str->Option Value}{base:Heap}{CX:CXT}{n:Nat}
theorem z5Q:∀y M,([]:List (Str×Mir)).lookup y=some M->Has P w K mg base CX y n M:=λy M h=>by simp at h
theorem ur{x:Str}{M0:Mir}{Ms:List (Str×Mir)}(h:Has P w K mg base CX x n M0)(hs:∀y M,Ms.lookup y=some M->Has P w K mg base CX y n M):∀y M,((x,M0)::Ms).lookup y=some M->Has P w K mg base CX y n M:=λy M e=>by
 rw[_T]at e;split at e
 ·rename_i hb;cases e;have:y=x:=by simpa using hb
  subst this;exact h
 ·exact hs y M e
end
def Sub(K:W.Frag)(h:Heap):Prop:=∀p∈K,h.get? p.1=some p.2
theorem Sub.in_{K:W.Frag}{h:Heap}(s:Sub K h):K.In h:=λa o e=>by induction K with
 | nil=>simp at e | cons p K ih=>
  obtain⟨b,u⟩:=p;rw[_T]at e;split at e
  ·rename_i hb;cases e;have:a=b:=by simpa using hb
   subst this;exact s (a,o) (by simp)
  ·exact ih (λq hq=>s q (by simp[hq])) e
theorem z0v(h:Heap)(a:Addr):Sub (z2b h a) h:=λp hp=>by
 unfold z2b at hp;split at hp
 ·rename_i o e;simp at hp;subst hp;exact e
 ·simp at hp
theorem Sub.app{K L:W.Frag}{h:Heap}(a:Sub K h)(b:Sub L h):Sub (K++L) h:=λp hp=>(_i.mp hp).elim (a p) (b p)
theorem z7B(h:Heap)(ns:List Str):Sub (gat h ns) h:=by
 refine (z0v h _).app λp hp=>?_;obtain⟨x,_,hx⟩:=List.mem_flatMap.mp hp;unfold zcd at hx;split at hx
 ·rcases _i.mp hx with hx | hx;·exact z0v h _ p hx
  ·split at hx
   ·split at hx;·exact z0v h _ p hx
    ·simp at hx
   ·exact z0v h _ p hx
   ·simp at hx
 ·simp at hx
def zc6(K:W.Frag)(x:Str)(st:Stmt):Prop:=∃f fd,W.nsIn K mainGlobals x=some (some (.ref f))/\Fun K x x st f fd
theorem dA(s:Stmt):dArgs s=uL s:=by cases s<;>rfl
theorem dB(s:Stmt):z9K s=vd s:=by cases s<;>rfl
theorem dS(s:Stmt):z7a s=zk s:=by cases s<;>rfl
theorem z84{K:W.Frag}{x:Str}{st:Stmt}(h:z8v K x=zbb x st):zc6 K x st:=by
 unfold z8v zbb at h;rw[dA,dB,dS]at h;split at h
 ·rename_i f hf;split at h
  ·rename_i oc od fd sl hl;simp only[_aa,Prod.mk.injEq]at h;obtain⟨h1,h2,h3,h4,h5,h6,h7,h8,h9,h10,h11⟩:=h;obtain⟨a1,a2,a3,a4,a5,a6,a7,a8,a9,a10,a11,a12,a13,a14,a15⟩:=fd;simp only at h1 h2 h3 h4 h5 h6 h7 h8 h9 h10;subst h1 h3 h4 h5 h6 h7 h8 h9;subst h2;exact⟨f,_,hf,zae hl h10 h11⟩
  ·cases h
 ·cases h
theorem z5P{K:W.Frag}{x:Str}(h:z82 K x=true):W.nsIn K mainGlobals x=some none:=by
 unfold z82 at h;split at h;·rename_i e;exact e
 ·cases h
theorem z6L{K:W.Frag}{x:Str}{i:Int}(h:z8O K x=some i):∃t,W.nsIn K mainGlobals x=some (some (.int i t)):=by
 unfold z8O at h;split at h;·rename_i j t e;cases h;exact⟨t,e⟩
 ·cases h
def saysS(q:Ask)(w:World)(h:Heap):Prop:=∃K:W.Frag,K.In h/\z69 q K=valS q w
theorem z7y(q:Ask)(w:World)(s:Shared)(e:obsS q s=valS q w):saysS q w s.heap:=⟨_,(z7B _ _).in_,e⟩
theorem z3R(q:Ask)(w:World)(h h':Heap)(x:saysS q w h)(k:∀b o,h.get? b=some o->h'.get? b=some o):saysS q w h':=let ⟨K,a,b⟩:=x;⟨K,a.keeps k,b⟩
theorem z5s{α β:Type}{f g:α->β}:∀{l:List α},l.map f=l.map g->∀x∈l,f x=g x:=λh x hx=>List.map_inj_left.mp h x hx
theorem zbR{q:Ask}{w:World}{K:W.Frag}(e:z69 q K=valS q w)(x:Str)(st:Stmt)(hx:(x,st)∈q.fs):zc6 K x st:=z84 (z5s (_bk Prod.fst e) (x,st) hx)
theorem zbe{q:Ask}{w:World}{K:W.Frag}(e:z69 q K=valS q w)(x:Str)(hx:x∈q.bs):W.nsIn K mainGlobals x=some none:=z5P (z5s (_bk (λz=>z.2.1) e) x hx)
theorem zbU{q:Ask}{w:World}{K:W.Frag}(e:z69 q K=valS q w)(x:Str)(i:Int)(hx:(x,i)∈q.cs):∃t,W.nsIn K mainGlobals x=some (some (.int i t)):=z6L (z5s (_bk (λz=>z.2.2.1) e) (x,i) hx)
theorem z3Q{p q:Program}{loose:List Str}{Xt:Shared->Bool}{α:Type}{Yf:Shared->α}{Ya:World->α}{N:Nat}{g0:Bool} (bo:∀w:World,(W.fencedOpening treeTable p w N).map (λs=>(s.heap,s.gens,s.drawn,s.toks))=some (W.boot_heap w.params,Array.mk [],W.boot_drawn,W.boot_toks)) (hf:∀(w:World)(os:OsState),(W.topFrom treeTable p w N ⟨W.boot_heap w.params,Array.mk [],W.boot_drawn,W.boot_toks,os⟩).map (λs=>(W.openSeen q loose (importedModules p.main.body) Xt g0 s,Yf s))=some (W.openGood q loose,Ya w)):W.LeftO p q loose Xt Yf Ya N g0:=λw=>by
 obtain⟨⟨h,gs,d,k,os⟩,e,e'⟩:=_X.mp (bo w);obtain⟨rfl,rfl,rfl,rfl⟩:h=W.boot_heap w.params/\gs=Array.mk []/\d=W.boot_drawn/\k=W.boot_toks:=by simpa only [Prod.mk.injEq] using e'
 unfold W.openEnds;rw[e,_aq];exact hf w os
theorem z1m{tb:String->Option Builtin}{p:Program}{w:World}{n₀:Nat}{ann:Option Value}:∀{n:Nat}{s s':W.SharedT}{t:Thread},jU tb p w n₀ ann n s t=some s'->W.topRun tb p w n₀ ann n s.abs t=some s'.abs
 | 0,_,_,_,h=>by cases h | n+1,s,s',t,h=>by
  unfold jU at h;unfold W.topRun;cases he:W.through t with
  | true=>rw[he]at h;cases h;rfl | false=>
   rw[he]at h;cases hk:W.stepOk n₀ ann t with
   | false=>rw[hk]at h;cases h | true=>
    rw[hk]at h;cases hs:W.stepT (denote tb) p w s t with
    | none=>rw[hs]at h;cases h | some r=>obtain⟨s₂,t₂⟩:=r;rw[hs]at h;rw[W.stepT_spec hs];exact z1m h
theorem z3p{p:Program}{w:World}{N:Nat}{h:Heap}{d:Drawn}{k:Nat}{os:OsState}{t0:W.BT}{m₀:Nat}{ann:Option Value}(ha:W.absHeap t0 m₀ h.life=h) (sz:(h.isNs mainGlobals&&(Array.mk []:Array GenState).size==0,h.objs.size,h.nsMap mainGlobals "__annotations__")=(true,m₀,ann)){α:Type}{f:Shared->α}{v:α} (hr:(jU treeTable p w m₀ ann N ⟨t0,m₀,h.life,Array.mk [],d,k,os⟩ (W.topStub p)).map (λsT=>(W.staticsOk (importedModules p.main.body) h sT.abs.heap&&W.namesBound p sT.abs.heap&&W.gensDone sT.abs&&W.laidKept h sT.abs.heap,f sT.abs))=some (true,v)): (W.topFrom treeTable p w N ⟨h,Array.mk [],d,k,os⟩).map f=some v:=by
 obtain⟨sT,e1,e2⟩:=_X.mp hr;obtain⟨e3,e4⟩:=Prod.mk.inj e2;obtain⟨z1,z2,z3⟩:_/\_/\_:=by simpa only [Prod.mk.injEq] using sz
 have r:=z1m e1;have a0:(⟨t0,m₀,h.life,Array.mk [],d,k,os⟩:W.SharedT).abs=⟨h,Array.mk [],d,k,os⟩:=by
  show (⟨W.absHeap t0 m₀ h.life,Array.mk [],d,k,os⟩:Shared)=_;rw[ha]
 rw[a0]at r;have t:W.topFrom treeTable p w N ⟨h,Array.mk [],d,k,os⟩=some sT.abs:=by
  unfold W.topFrom;dsimp only;rw[z1,z2,z3];dsimp only;rw[r];show (match (W.staticsOk (importedModules p.main.body) h sT.abs.heap&&W.namesBound p sT.abs.heap&&W.gensDone sT.abs&&W.laidKept h sT.abs.heap) with | true=>some sT.abs | false=>none)=_;rw[e3]
 rw[t,_aG,e4]
theorem z5C{α β γ δ:Type}{r:Option α}{f:α->β}{g:α->γ}{k:α->δ}{x:β}{y:γ}{z:δ}(h1:r.map (λs=>(f s,k s))=some (x,z))(h2:r.map g=some y):r.map (λs=>(f s,(g s,k s)))=some (x,(y,z)):=by
 obtain⟨s,e1,e2⟩:=_X.mp h1;obtain⟨s',e3,e4⟩:=_X.mp h2;rw[e1]at e3;cases e3;obtain⟨e5,e6⟩:=Prod.mk.inj e2;rw[e1,_aG,e4,e5,e6]
theorem walkY{l:W.OpenLaw}{n k:Nat}{q:Program}{loose:List Str}{XP:(Str->Option Value)->Heap->Prop}{YP:World->Heap->Prop}{d:DefRec}{x:Str} (hn:l.most=some n)(hn2:n<=sizeLine)(hn3:n<=63)(hdf:d.params.defaults=[])(hr:kq k callerA) (F:∀(w:World)(mg:Str->Option Value)(fa:Addr)(h:Heap),YP w h->h.Ns mainGlobals mg->mg d.name=some (.ref fa)->XP mg h-> ∃K:W.Frag,K.In h/\∃fd:FuncData,(∀(s:Shared)(u:Value),BindsTo s fd ⟨[u],[]⟩ [(x,u)])/\ ∀base:Heap,K.In base->base.Ns mainGlobals mg->z0Z l.prog w K mg base CX0 k fa fd [x] (z8i K)): W.WalkO q loose XP YP l.row.toRowW d [] (λf vs=>PySem.call f vs):=by
 refine Att.z2h hn hdf λw s₀ s₁ mg mb fa o pm cd doc a vs ns G Yy ho hd hcd hmg hobj hints hlen hg=>?_;obtain⟨K,KX,fd,hb,hF⟩:=F w mg fa _ Yy G.T.g hmg G.X;exact z6i KX G.T.g G.T.b G.T.builtins G.T.nolimit hg hobj hints (_B hlen hn2) hr hF hb (λH hO hS=>⟨a,ns,rfl,hO,hS,_B hlen hn3,λ_=>rfl⟩) λH e s' z=>z
end Dd
namespace HT
end HT
namespace L2
end L2
namespace Dd
open L2
section
variable {X:Cx}{E:XK}{e:Expr}{pos:Pos}
def zaJ(i j k:Nat):FG:=λd Z s=>match d with
 | .tup [x,y,z]=>.ok (((Z.set i (some x)).set j (some y)).set k (some z)) s | _=>.no
theorem zbq(i j k:Nat){x y z:Str}{px py pz:Pos}{kt:Nat}(hc:X.calm=true)(hN:X.N.Nodup)(hi:X.N[i]? = some x:=by rfl)(hj:X.N[j]? = some y:=by rfl)(hk:X.N[k]? = some z:=by rfl)(hx:Loc X.env.scope x:=by first | exact Or.inl rfl | exact Or.inr rfl)(hy:Loc X.env.scope y:=by first | exact Or.inl rfl | exact Or.inr rfl)(hz:Loc X.env.scope z:=by first | exact Or.inl rfl | exact Or.inr rfl) (hf:X.fn x=true\/X.env.scope.names.lookup x=some .local:=by first | exact .inl rfl | exact .inr rfl | assumption)(hf':X.fn y=true\/X.env.scope.names.lookup y=some .local:=by first | exact .inl rfl | exact .inr rfl | assumption)(hf2:X.fn z=true\/X.env.scope.names.lookup z=some .local:=by first | exact .inl rfl | exact .inr rfl | assumption): RG X E (.Tuple [.Name x px,.Name y py,.Name z pz] kt pos) (zaJ i j k):= z4e (z5g hc (vf (zU hN hi hx hf) (vf (zU hN hj hy hf') (vf (zU hN hk hz hf2) z2s)))) λv O H Q ⟨Y,Z,s,d,r,en,dn,h⟩=>by
  unfold zaJ at h;split at h
  ·rename_i d1 d2 d3;obtain⟨p,vs,rfl,q1,q2⟩:=vC (K:=X.K) dn;obtain⟨v1,v2,v3,rfl,e1,e2,e3⟩:=zbG q2;exact⟨p,[v1,v2,v3],rfl,q1,rfl,v1,[v2,v3],rfl,v2,[v3],rfl,v3,[],rfl,rfl,okR.here h r (((en.set e1 i).set e2 j).set e3 k)⟩
  ·exact h.elim
@[simp] theorem zcf (i j k:Nat)(x y z:D)(Z:Ev)(s:Sto):zaJ i j k (.tup [x,y,z]) Z s=.ok (((Z.set i (some x)).set j (some y)).set k (some z)) s:=id rfl
end
section
variable {X:Cx}{E:XK}{e a b c:Expr}{es:List Expr}{pos:Pos}
def qt(x y:D)(s:Sto):R D:=(dIs x y s).bind λd s1=>match d with | .bl k=>.ok (.bl (!k)) s1 | _=>.no
theorem z5i:OpR X (compareOp .IsNot) (λx y H Q=>∃a b,x=.bl a/\y=.bl b/\Q (.bl (a != b)) H):=by
 intro pins s O H x y v u Q I rx ry ⟨a,b,e1,e2,q⟩;subst e1 e2;cases rx;cases ry;exact isnot_bool ⟨.bl (a != b),H,I,rfl,q⟩
theorem ke:∃r,OpR X (compareOp .IsNot) r/\OpF X E r qt:=⟨_,z5i.or z7V,λH Y s d1 d2 v1 v2 Q r h1 h2 h=>by
 unfold qt dIs at h;split at h
 ·cases vN h1;cases vN h2;exact .inl ⟨_,_,rfl,rfl,h.here r yY⟩
 ·simp only[Den]at h1 h2;subst h1 h2;exact .inr ⟨rfl,by have:=h.here r yY;simpa using this⟩
 ·simp only[Den]at h1 h2;subst h1 h2;exact .inr ⟨rfl,by have:=h.here r yY;simpa using this⟩
 ·simp only[Den]at h1 h2;subst h1 h2;exact .inr ⟨rfl,by have:=h.here r yY;simpa using this⟩
 ·simp only[Den]at h1 h2;subst h1 h2;exact .inr ⟨rfl,by have:=h.here r yY;simpa using this⟩
 ·simp only[Den]at h1 h2;obtain⟨a,vs,rfl,_⟩:=h1;subst h2;exact .inr ⟨rfl,by have:=h.here r yY;simpa using this⟩
 ·simp only[Den]at h1 h2;obtain⟨a,o,vs,rfl,_⟩:=h1;subst h2;exact .inr ⟨rfl,by have:=h.here r yY;simpa using this⟩
 ·exact h.elim⟩
end
section
variable {X:Cx}{E:XK}{e o a b c:Expr}{es:List Expr}{pos:Pos}
def zcv:D->D->Sto->R D
 | x,.int k,s=>match listOf s x with
  | some xs=>if xs.length*k.toNat<=cap/\-(2 ^ 62)<=k/\k<2 ^ 62/\D.flat.flats (List.replicate k.toNat xs).flatten=true then .ok (.loc s.length) (s++[(List.replicate k.toNat xs).flatten]) else .no | none=>.no
 | _,_,_=>.no
theorem zv.erase{mg:Gm}{H:Hp}{Y:List Addr}:∀{ds:List D}{vs:List V}(n:Nat),zv mg H Y ds vs->zv mg H Y (ds.eraseIdx n) (vs.eraseIdx n)
 | [],vs,n,h=>by simp only[zv]at h;subst h;simp[zv] | d::ds,vs,0,h=>by
  simp only[zv]at h;obtain⟨v,r,rfl,h1,h2⟩:=h;simpa using h2 | d::ds,vs,n+1,h=>by
  simp only[zv]at h;obtain⟨v,r,rfl,h1,h2⟩:=h;simpa using zv.cons h1 (zv.erase n h2)
theorem jI:∀{xs:List D}(n:Nat),D.flat.flats xs=true->D.flat.flats (xs.eraseIdx n)=true
 | [],n,h=>by simpa using h | x::xs,0,h=>by simp only[D.flat.flats,_m]at h;simpa using h.2 | x::xs,n+1,h=>by
  simp only[D.flat.flats,_m]at h;simp only[List.eraseIdx_cons_succ,D.flat.flats,_m];exact⟨h.1,jI n h.2⟩
def z3b(fo fv:FE):FE:=λZ s=>(fo Z s).bind λo s1=>match o with
 | .loc l=>(fv Z s1).bind λd s2=>match s2[l]?,d with
  | some xs,.int i=>if 0<=i/\i<2 ^ 62 then (match xs[i.toNat]? with | some y=>.ok y (s2.set l (xs.eraseIdx i.toNat)) | none=>.no) else .no | _,_=>.no
 | _=>.no
theorem z8I {apos:Pos} {fo fv:FE} (ho:RE X E o fo) (hv:RE X E e fv) (hbase:attributeBase o "pop" X.env (eval o X.env)=eval o X.env:=by rfl) (hfew:((backTo pos (starEach [e] X.env)).all (λx=>!x.1)&&(backToKw pos (keywordEach [] X.env)).all (λx=>x.1.isSome) && decide ([e].length+([]:List Keyword).length+(if ([]:List Keyword).isEmpty then 0 else 1)<30))=true:=by rfl) (hline:(apos.endLine==pos.line)=true:=by rfl) (hs:starEach [e] X.env=(false,eval e X.env)::starEach [] X.env:=by rfl) (hplain:(backTo pos (starEach [] X.env)).any (·.1)=false:=by rfl): RE X E (.Call (.Attribute o "pop" apos) [e] [] pos) (z3b fo fv):= ye (zam PySem.F.plainAttrs_list PySem.F.slot_list_pop PySem.F.type_list_pop z63 ho (jM hv z32 hs) hbase hfew hline hs hplain) λO H Q ⟨Y,Z,s,r,en,h⟩=>by
  unfold z3b at h;refine⟨Y,Z,s,r,en,(okR.bind (Dn:=Den (gm X)) h).imp λov H1 ⟨Y1,s1,od,stp,dn,h1⟩=>?_⟩;cases od with
  | loc l=>
   simp only at h1;have hty:tyV X.K "list" ov H1:=by
    simp only[Den]at dn;obtain⟨a,rfl,e1,vs,e2⟩:=dn;exact .inl ⟨rfl,vs,.inl (.inl e2)⟩
   refine⟨hty,⟨Y1,Z,s1,stp.rep,en.mono stp,(okR.bind (Dn:=Den (gm X)) h1).imp λv H2 ⟨Y2,s2,d,stp2,dn2,h2⟩=>?_⟩⟩;split at h2
   ·rename_i xs i ex;cases yf dn2;split at h2
    ·rename_i hf;split at h2
     ·rename_i y hy;have dov:=dn.mono stp2;simp only[Den]at dov;obtain⟨a,rfl,e1,ka⟩:=dov;obtain⟨vs,q1,q2⟩:=stp2.rep.at_ ex e1 ka;obtain⟨yv,hyv,dy⟩:=q2.get hy;have fx:=stp2.rep.flat xs (_s ex);have stp3:=xr.put (l:=l) (xs:=xs.eraseIdx i.toNat) stp2.rep e1 ka (q2.erase i.toNat) (jI _ fx);have hlt:=(_b.mp hyv).1;refine⟨a,vs,i,i.toNat,yv,rfl,rfl,q1,by omega,by omega,?_,hyv,h2 yv _ _ stp3 (dy.mono stp3)⟩;exact (z2c (j:=i.toNat) (by unfold ixN;rw[_o hf.1,_o (by omega)])).1
     ·exact h2.elim
    ·exact h2.elim
   ·exact h2.elim | _=>exact h1.elim
@[simp] theorem z6K (fo fv:FE)(Z:Ev)(s:Sto):z3b fo fv Z s=(fo Z s).bind λo s1=>match o with
 | .loc l=>(fv Z s1).bind λd s2=>match s2[l]?,d with
  | some xs,.int i=>if 0<=i/\i<2 ^ 62 then (match xs[i.toNat]? with | some y=>.ok y (s2.set l (xs.eraseIdx i.toNat)) | none=>.no) else .no | _,_=>.no
 | _=>.no:=id rfl
def see(s:Sto):D->D
 | .loc l=>match s[l]? with | some xs=>.lst xs | none=>.loc l
 | d=>d
def z0w(neg:Bool)(x y:D)(s:Sto):R D:=if uS (see s x)=true/\uS (see s y)=true then .ok (.bl (if neg then !eqD (see s x) (see s y) else eqD (see s x) (see s y))) s else .no
theorem Den.readsS{P:Program}{w:World}{mg:Gm}{H:Hp}{Y:List Addr}{h:Heap}{s:Sto}(ok:HOk P w H h)(rp:Rep mg H Y s){d:D}{v:V}{u:Value}(c:PyData.canLay0 (zS (see s d))=true)(dn:Den mg H Y d v)(r:xL v u):∃as,Reads h u (zS (see s d)) as:=by
 by_cases hl:∃l xs,d=.loc l/\s[l]? = some xs
 ·obtain⟨l,xs,rfl,hx⟩:=hl;have e0:see s (.loc l)=.lst xs:=by simp[see,hx]
  rw[e0]at c ⊢;simp only[Den]at dn;obtain⟨a,rfl,e1,ka⟩:=dn;cases r;obtain⟨vs,q1,q2⟩:=rp.at_ hx e1 ka;obtain⟨_,its,n,rv,e⟩:=ok a _ q1;obtain⟨as,q⟩:=zv.reads ok (by simpa[zS,PyData.canLay0] using c) q2 rv;rw[zS];exact⟨_,Reads.list e rfl rfl (by simpa using q)⟩
 ·have e0:see s d=d:=by cases d with
   | loc l=>
    simp only[see];split;·rename_i xs hx;exact absurd ⟨l,xs,rfl,hx⟩ hl
    ·rfl | _=>rfl
  rw[e0]at c ⊢;exact Den.reads ok c dn r
def zcq(mg:Gm)(neg:Bool):R2:=λx y H Q=>∃Y s d1 d2,Rep mg H Y s/\Den mg H Y d1 x/\Den mg H Y d2 y/\uS (see s d1)=true/\uS (see s d2)=true/\Q (.bl (if neg then !eqD (see s d1) (see s d2) else eqD (see s d1) (see s d2))) H
theorem za8(hu:X.A.units+64<cLine):OpR X (compareOp .NotEq) (zcq (gm X) true):=by
 intro pins s O H x y v u Q I rx ry ⟨Y,st,d1,d2,rp,h1,h2,p1,p2,q⟩;obtain⟨as,ra⟩:=Den.readsS I.hok rp (_W p1) h1 rx;obtain⟨bs,rb⟩:=Den.readsS I.hok rp (_W p2) h2 ry;exact SeqAt.compareNe_shaped ra rb p1 p2 hu ⟨.bl (!eqD (see st d1) (see st d2)),H,I,rfl,q⟩
theorem z85{neg:Bool}:OpF X E (zcq (gm X) neg) (z0w neg):=λH Y s d1 d2 v1 v2 Q r h1 h2 h=>by
 unfold z0w at h;split at h
 ·rename_i hc;exact⟨Y,s,d1,d2,r,h1,h2,hc.1,hc.2,h.here r yY⟩
 ·exact h.elim
theorem z8s(hu:X.A.units+64<cLine):∃r,OpR X (compareOp .NotEq) r/\OpF X E r (z0w true):=⟨_,za8 hu,z85⟩
end
end Dd
namespace PySem
open PySem.Sem (wp)
end PySem
namespace Dd
open L2
end Dd
namespace PySem
open PySem.Sem (wp)
open PySem.W
end PySem
namespace L2
end L2
namespace Dd
open L2
end Dd
namespace L2
open MeetsSeq MeetsSeq2 SeqAt
end L2
namespace Dd
open L2
end Dd
namespace L2
end L2
namespace Dd
open L2
section
variable {X:Cx}{E:XK}{e a b:Expr}{es:List Expr}{pos:Pos}{CX:CXT}
theorem zbn{x:Str}{g:Addr}{p:Pos}(hg:Gl X x)(hm:X.mg x=some (.ref g))(hd:(x==("__debug__":Str))=false:=by decide):RE X E (.Name x p) (eC (.fn x)):= ye (z57 hg hm (show xL (.ref g) (.ref g) from rfl) hd) λO H Q ⟨Y,Z,s,r,en,h⟩=>okR.here h r (by simp only[Den];exact⟨g,rfl,hm⟩)
theorem z6G{x:Str}{p:Pos}{n:Nat}{M:Mir}(F:Has X.prog X.w X.K X.mg X.base CX x n M)(hg:Gl X x)(hd:(x==("__debug__":Str))=false:=by decide):RE X E (.Name x p) (eC (.fn x)):=by
 obtain⟨f,_,_,_,_,_,hm⟩:=F;exact zbn hg hm hd
def z1I(g:FE)(Ms:List (Str×Mir))(f:FA):FE:=λZ s=>(g Z s).bind λd s1=>match d with
 | .fn y=>match Ms.lookup y with
  | some M=>(f Z s1).bind λxs s2=>M xs s2 | none=>.no
 | _=>.no
theorem z6H(args:List Expr)(sp:Pos)(env:Env):eval (.Call (.Subscript a b sp) args [] pos) env=(do callWith pos (<- eval (.Subscript a b sp) env) [] (backTo pos (starEach args env)) (backToKw pos (keywordEach [] env))):=rfl
theorem z8P {sp:Pos} {n:Nat} {Ms:List (Str×Mir)} {g:FE} {f:FA} (F:∀y M,Ms.lookup y=some M->Has X.prog X.w X.K X.mg X.base CX y n M) (hr:kq n X.A) (hxx:Passes CX X E) (hg:RE X E (.Subscript a b sp) g) (ha:RA X E (e::es) f) (he:starEach (e::es) X.env=(false,eval e X.env)::starEach es X.env:=by rfl) (hpl:(backTo pos (starEach es X.env)).any (·.1)=false:=by rfl):RE X E (.Call (.Subscript a b sp) (e::es) [] pos) (z1I g Ms f):=by
 intro pins s O H Q I ⟨Y,Z,st,r,en,h⟩;unfold z1I at h;rw[z6H];refine _a (thn (hg pins s O H (λv H1=>∃Y1 s1 d,xr (gm X) H Y H1 Y1 s1/\Den (gm X) H1 Y1 d v/\okR (gm X) E H1 Y1 (Den (gm X)) (match d with
  | .fn y=>match Ms.lookup y with
   | some M=>(f Z s1).bind λxs s2=>M xs s2 | none=>.no
  | _=>.no) Q) I ⟨Y,Z,st,r,en,(okR.bind (Dn:=Den (gm X)) h).imp λv H1 q=>q⟩) λu s1 ⟨v,H1,I1,r1,Y1,st1,d,stp,dn,h1⟩=>?_);split at h1
 ·rename_i y;split at h1
  ·rename_i M hM;simp only[Den]at dn;obtain⟨gg,rfl,hmg⟩:=dn;cases r1;obtain⟨fa,fd,ps,Fk,hb,hk,hm⟩:=F y M hM;have e0:gg=fa:=by
    have hmg':X.mg y=some (.ref gg):=hmg;rw[hmg']at hm;cases hm;rfl
   subst e0;have hA:=ha pos pins s1 O H1 (λvs H2=>z7F (gm X) M (vs++[]) H2 Q E) I1 (wV (k:=λZ xs s1=>M xs s1) stp.rep (en.mono stp) h1 _ λvs H2 Y2 s2 ds r2 en2 dn2 stp2 h3=>by
    rw[_bo];exact⟨Y2,s2,ds,r2,dn2,h3⟩);refine W.callWith_K (h₀:=X.base) I1.ok.mod.kin hk (thn hA λus s2 ⟨vs,H2,I2,r2,q⟩=>⟨I2.kIn,?_⟩) he hpl;exact z7v Fk hr hb .nil hxx I2 r2 q
  ·exact h1.elim
 ·exact h1.elim
end
end Dd
namespace PySem
open PySem.AutoSeq1 (wpAny_loadPart')
open MeetsSeq MeetsSeq2 SeqAt
theorem z18 (l:Addr) (items:Array Value) (n:Nat) (dd:Option Addr) (sl:Array (Option Value)) (x:Int) (u:Tok) (h2:2<=x) (hx:x<2 ^ 63) (hne:items.isEmpty=false) (hc:¬ (items.size:Int)*x > (2 ^ 63-1) / 8) (ht:Builtin.Tuple.tupleTooMany ((items.size:Int)*x)=false) (hs:((List.replicate x.toNat items).foldl (· ++ ·) #[]).size<=sizeLine): Meets (Builtin.«tuple.__mul__» ⟨[.ref l,.int x u],[]⟩) (λA R s=>s.heap.get? l=some {cls:=.type "tuple",dict:=dd,data:=.seq items n,slots:=sl}/\R (.ok (.ret (.ref s.heap.objs.size))) {s with heap:=s.heap.push {cls:=.type "tuple",data:=.seq ((List.replicate x.toNat items).foldl (· ++ ·) #[])}}):= .of_wp λprog w A R s h=>by
  obtain⟨hp,g,d,tk,os⟩:=s;obtain⟨hl,h⟩:=h;have e1:(x==1)=false:=by simp;omega
  have e2:decide (x<=0)=false:=by simp;omega
  have e3:decide (x < -(2 ^ 63))=false:=by simp;omega
  have e4:decide (x ≥ 2 ^ 63)=false:=by simp;omega
  wp_walk using _ac hl;rw[_I (by simp;omega)];wp_walk using _ac hl;rw[_I hc];wp_walk;exact⟨_,rfl,h⟩
theorem z0m(l:Addr)(items:Array Value)(n:Nat)(dd:Option Addr)(sl:Array (Option Value))(u:Tok): Meets (Builtin.«tuple.__mul__» ⟨[.ref l,.int 1 u],[]⟩) (λA R s=>s.heap.get? l=some {cls:=.type "tuple",dict:=dd,data:=.seq items n,slots:=sl}/\R (.ok (.ret (.ref l))) s):= .of_wp λprog w A R s h=>by
  obtain⟨hp,g,d,tk,os⟩:=s;obtain⟨hl,h⟩:=h;wp_walk using _ac hl;exact⟨_,rfl,h⟩
theorem vp:fillsNumberSlot (.type "tuple") "mul"=pure false:= fillsNumberSlot_seq (id:="tuple.__mul__") (r:=some (.builtin "tuple.__rmul__")) _bg.lookup (by decide +kernel) F.slot_tuple_rmul.lookup (by decide +kernel)
theorem qm:seqRepeat? (.type "tuple")=pure (some (.builtin "tuple.__mul__")):=by
 unfold seqRepeat?;rw[seqSlot_of (T:="tuple") (name:="__mul__") (id:="tuple.__mul__") _bg.lookup (by decide +kernel),seqSlot_of (T:="tuple") (name:="__rmul__") (id:="tuple.__rmul__") F.slot_tuple_rmul.lookup (by decide +kernel)];rfl
theorem wK(a:Int)(t:Tok)(l:Addr)(items:Array Value)(n:Nat)(dd:Option Addr)(sl:Array (Option Value)): Meets (Builtin.«int.__rmul__» ⟨[.int a t,.ref l],[]⟩) (λ_ R s=>s.heap.get? l=some {cls:=.type "tuple",dict:=dd,data:=.seq items n,slots:=sl}/\R (.ok (.ret Value.notImplemented)) s):= .of_wp λprog w A R s h=>by obtain⟨hp,g,d,tk,os⟩:=s;obtain⟨hl,h⟩:=h;wp_walk;exact⟨_,rfl,h⟩
end PySem
namespace L2
section
variable {X:Cx}
def zbH:R2:=λx y H Q=>∃l k xs,x=.ref l/\y=.int k/\H l=some (.tup xs)/\1<=k/\xs≠[]/\xs.length*k.toNat<=sizeLine/\ ((k=1->Q (.ref l) H)/\∀p,H p=none->Q (.ref p) (upd H p (.tup (List.replicate k.toNat xs).flatten)))
theorem z8N:OpR X (binaryOp .Mult) zbH:=by
 intro pins s O H x y v u Q I rx ry h;obtain⟨l,k,xs,rfl,rfl,hH,h1,hne,hz,q1,q⟩:=h;cases rx;obtain⟨t,rfl⟩:=ry;obtain⟨z,its,r,o,e,c1,d1,n,w1⟩:=(show xQ X.prog X.w H s.heap l (.tup xs) from I.hok l _ hH);obtain⟨cls,dd,data,sl⟩:=o;simp only at c1 d1 w1;subst c1 d1 w1;have hl:xs.length=its.length:=by have:=r.length;omega
 have hp:0<its.length:=by rw[<- hl];exact _a0.mpr hne
 have hk:(k.toNat:Int)=k:=by omega
 have hlen:its.length*k.toNat<=sizeLine:=by rw[<- hl];exact hz
 have hkle:k.toNat<=sizeLine:=_B (Nat.le_mul_of_pos_left _ hp) hlen;have hS:(sizeLine:Nat)<=(2 ^ 63-1) / 8:=by decide
 have hkb:k<2 ^ 63:=by
  have:k.toNat<=(2 ^ 63-1) / 8:=_B hkle hS;omega
 have hm:(its.toArray.size:Int)*k=((its.length*k.toNat:Nat):Int):=by rw[_j,Int.natCast_mul,hk]
 by_cases ho:k=1
 ·subst ho;refine _aX (T:="tuple") (U:="int") (by decide) ⟨_,e,rfl⟩ (λs'=>_be s' 1 t) vp F.fills_int_mul _aQ qm _bQ.lookup (_a6 _aQ (_be s 1 t) _bR (_bF _ _) (wK 1 t l its.toArray n _ sl) ⟨e,rfl,⟨_,e,rfl⟩,_a6 _bg ⟨_,e,rfl⟩ F.entry_tuple_mul (F.args_tuple_mul_2 _ _) (z0m l its.toArray n _ sl t) ⟨e,?_⟩⟩);exact⟨.ref l,H,I,rfl,q1 rfl⟩
 ·have hnew:List.foldl (λx1 x2=>x1++x2) #[] (List.replicate k.toNat its.toArray)=(List.replicate k.toNat its).flatten.toArray:=by
   have:=foldl_rep its k.toNat [];rw[_C]at this;exact this
  refine _aX (T:="tuple") (U:="int") (by decide) ⟨_,e,rfl⟩ (λs'=>_be s' k t) vp F.fills_int_mul _aQ qm _bQ.lookup (_a6 _aQ (_be s k t) _bR (_bF _ _) (wK k t l its.toArray n _ sl) ⟨e,rfl,⟨_,e,rfl⟩,_a6 _bg ⟨_,e,rfl⟩ F.entry_tuple_mul (F.args_tuple_mul_2 _ _) (z18 l its.toArray n _ sl k t (by omega) hkb (by cases its with | nil=>simp at hp | cons a b=>rfl) (by rw[hm];have:=_B hlen hS;omega) (by rw[hm];unfold Builtin.Tuple.tupleTooMany;exact _ak (by omega)) (by rw[hnew,_j,len_rep,Nat.mul_comm];exact hlen)) ⟨e,?_⟩⟩);rw[hnew];have hlz:(List.replicate k.toNat xs).flatten.length<=sizeLine:=by rw[len_rep,Nat.mul_comm];exact hz
  exact⟨.ref _,_,I.laid (o:=.tup (List.replicate k.toNat xs).flatten) (t':=s.toks) (λb u q=>_c _ q) (_n _) ⟨hlz,_,r.rep k.toNat,z4j.new _ _⟩,rfl,q _ I.fresh⟩
end
end L2
namespace Dd
open L2
section
variable {X:Cx}{E:XK}
def z4x:D->D->Sto->R D
 | .tup xs,.int k,s=>if 1<=k/\xs≠[]/\xs.length*k.toNat<=cap then .ok (.tup (List.replicate k.toNat xs).flatten) s else .no | _,_,_=>.no
theorem zat:∃r,OpR X (binaryOp .Mult) r/\OpF X E r z4x:=by
 refine⟨_,z8N,?_⟩;intro H Y s d1 d2 v1 v2 Q r h1 h2 h;unfold z4x at h;split at h
 ·rename_i xs k;cases yf h2;split at h
  ·rename_i hl;have hden:=h1;simp only[Den]at h1;obtain⟨a,vs,rfl,e1,e2⟩:=h1;refine⟨a,k,vs,rfl,rfl,e1,hl.1,λz=>?_,by rw[e2.length];exact vL hl.2.2,λhk=>?_,jK r h (e2.flat_rep _)⟩
   ·subst z;have:=e2.length;exact hl.2.1 (List.length_eq_zero_iff.mp (by simpa using this.symm))
   ·subst hk;have e:(List.replicate (1:Int).toNat xs).flatten=xs:=by simp
    rw[e]at h;exact h.here r hden
  ·exact h.elim
 ·exact h.elim
end
end Dd
namespace L2
section
variable {X:Cx}{pos:Pos}
theorem Inv.far{pins:List (Addr×Obj)}{O:St}{H:Hp}{s:Shared}(I:Inv X pins O H s):(s.heap.objs.size==sysModules)=false:=by
 obtain⟨o,es,ep,h,_⟩:=I.mod.glob.keeps I.bk;have h1:(mainGlobals:Nat)<s.heap.objs.size:=_l h;have e1:(1:Nat)<=(mainGlobals:Nat):=by decide
 have h2:(1:Nat)<s.heap.objs.size:=Nat.lt_of_le_of_lt e1 h1;have h3:s.heap.objs.size≠(1:Nat):=_bu h2;exact beq_false_of_ne h3
def zbf:TE:=λ_ H Q=>∀p,H p=none->Q (.ref p) (upd H p (.dK []))
theorem z86:PE X (.Dict [] [] pos) zbf:=by
 intro pins s O H Q I hq;refine wpAny_Dict_empty ?_;refine⟨.ref s.heap.objs.size,upd H s.heap.objs.size (.dK []),I.laid (o:=.dK []) (t':=s.toks) (λb u e=>_c _ e) (_n _) ⟨Nat.zero_le _,I.far,[],?_,Heap.DictOf.new _⟩,rfl,hq _ (I.hok.fresh (_n _))⟩;constructor
end
end L2
namespace Dd
open L2
section
variable {X:Cx}{E:XK}{pos:Pos}
theorem z91:RE X E (.Dict [] [] pos) (eC .dct):= ye z86 λO H Q ⟨Y,Z,s,r,en,h⟩=>λp hp=>by
  have stp:=xr.lay (o:=.dK []) r hp (by intro _ z;cases z);exact h _ _ _ stp (by simp only[Den];exact⟨p,rfl,yi⟩)
end
end Dd
namespace PySem
end PySem
namespace L2
end L2
namespace Dd
open L2
open PySem.W
end Dd
namespace L2
open PySem.Builtin.Str
end L2
namespace Dd
open L2 PySem.Builtin.Str
end Dd
namespace Dd
open L2
section
variable {X:Cx}{E:XK}{e a b c tg iter elt:Expr}{es:List Expr}{pos:Pos}{CX:CXT}
variable {scope:Scope}{ifs:List Expr}{fi:FI}{fg:FG}{ft:FT}{fe:FE}{g:TG}{spos py:Pos}
theorem z6O(N':List Str)(mp:List (Option Nat))(hc:X.calm=true)(hi:RI X E tg iter fi)(hg:∀ex s H,PG (zF X N' scope ex s H) tg g)(hgt:kz (gm X) E mp g fg)(ht:∀ex s H,z3s (zF X N' scope ex s H) ifs (tT (gm X) E ft))(he:∀ex s H,RE (zF X N' scope ex s H) E elt fe) (hkd:scope.kind=.function:=by rfl)(hnm:z4q scope.names=true:=by rfl)(hfr:z5l X.env.kindOf scope.names=true:=by rfl)(hmp:kr X.N scope.names N' mp=true:=by rfl) (hs:∀x,foldedSetIterable iter X.env x=pure x:=by intro _;rfl):RE X E (.ListComp elt [⟨tg,iter,ifs,0⟩] scope pos) (qe fi mp fg ft fe):= ye (z4M (te:=tE (gm X) E fe) N' mp hc hi hg ht (λex s H=>he ex s H) hkd (qW hnm) (qK hfr) hmp hs) λO H Q ⟨Y,Z,s,r,en,h⟩=>by
  refine jf hgt r en h λH1 Y1 s1 xs vs r1 en1 dn h1 hcap=>?_;split at h1
  ·rename_i hf;exact z2H r1 h1 hf dn
  ·exact h1.elim
end
section
variable {X:Cx}{E:XK}{es:List Expr}{fa:FE}{fr:FA}
theorem aN{x:Str}{p:Pos}(ha:RE X E (.Name x p) fa)(hr:RA X E es fr):RA X E ((.Name x p)::es) (za fa fr):=xG ha hr (zm ..)
theorem aK{c:Const}{j:Nat}{p:Pos}(ha:RE X E (.Constant c j p) fa)(hr:RA X E es fr):RA X E ((.Constant c j p)::es) (za fa fr):=xG ha hr (z04 ..)
theorem aQ{g:Expr}{xs:List Expr}{ks:List Keyword}{p:Pos}(ha:RE X E (.Call g xs ks p) fa)(hr:RA X E es fr):RA X E ((.Call g xs ks p)::es) (za fa fr):=xG ha hr (wJ ..)
theorem aT{xs:List Expr}{k:Nat}{p:Pos}(ha:RE X E (.Tuple xs k p) fa)(hr:RA X E es fr):RA X E ((.Tuple xs k p)::es) (za fa fr):=xG ha hr (z68 ..)
theorem aS{a b:Expr}{p:Pos}(ha:RE X E (.Subscript a b p) fa)(hr:RA X E es fr):RA X E ((.Subscript a b p)::es) (za fa fr):=xG ha hr (z2X ..)
theorem aB{a b:Expr}{o:Operator}{p:Pos}(ha:RE X E (.BinOp a o b p) fa)(hr:RA X E es fr):RA X E ((.BinOp a o b p)::es) (za fa fr):=xG ha hr (z2R ..)
theorem aL{xs:List Expr}{p:Pos}(ha:RE X E (.List xs p) fa)(hr:RA X E es fr):RA X E ((.List xs p)::es) (za fa fr):=xG ha hr (z6t ..)
theorem aO{a:Expr}{g:List Comprehension}{sc:Scope}{p:Pos}(ha:RE X E (.ListComp a g sc p) fa)(hr:RA X E es fr):RA X E ((.ListComp a g sc p)::es) (za fa fr):=xG ha hr (yk ..)
theorem aM{a:Expr}{o:List CmpOp}{b:List Expr}{p:Pos}(ha:RE X E (.Compare a o b p) fa)(hr:RA X E es fr):RA X E ((.Compare a o b p)::es) (za fa fr):=xG ha hr (z0i ..)
theorem aU{o:UnaryOp}{a:Expr}{p:Pos}(ha:RE X E (.UnaryOp o a p) fa)(hr:RA X E es fr):RA X E ((.UnaryOp o a p)::es) (za fa fr):=xG ha hr (z8q ..)
theorem aV{o:BoolOp}{a:List Expr}{p:Pos}(ha:RE X E (.BoolOp o a p) fa)(hr:RA X E es fr):RA X E ((.BoolOp o a p)::es) (za fa fr):=xG ha hr (z1K ..)
theorem xP {e:Expr} {pos:Pos} {CX:CXT} {x:Str} {p:Pos} {n k:Nat} {M:Mir} {f:FA} (F:Has X.prog X.w X.K X.mg X.base CX x n M) (hr:kq k X.A) (hx:Passes CX X E) (ha:RA X E (e::es) f) (hk:n<=k:=by decide) (hg:Gl X x:=by rfl) (hdb:(x==("__debug__":Str))=false:=by decide) (he:starEach (e::es) X.env=(false,eval e X.env)::starEach es X.env:=by rfl) (hpl:(backTo pos (starEach es X.env)).any (·.1)=false:=by rfl):RE X E (.Call (.Name x p) (e::es) [] pos) (zd M f):=z3g F (hr.mono hk) hx hg ha hdb he hpl
end
section
variable {q:Ask}{w:World}{K:W.Frag}{h:Heap}{mg:Str->Option Value}
theorem yt(X:K.In h)(G:h.Ns mainGlobals mg)(e:z69 q K=valS q w)(i:Nat){x:Str}{st:Stmt}(hx:q.fs[i]? = some (x,st)):∃f fd,mg x=some (.ref f)/\Fun K x x st f fd:=let ⟨f,fd,a,F⟩:=zbR e x st (_s hx);⟨f,fd,W.mg_of X G a,F⟩
theorem wb(X:K.In h)(G:h.Ns mainGlobals mg)(e:z69 q K=valS q w)(i:Nat){x:Str}(hx:q.bs[i]? = some x):mg x=none:=W.mg_none_of X G (zbe e x (_s hx))
theorem z79(X:K.In h)(G:h.Ns mainGlobals mg)(e:z69 q K=valS q w)(i:Nat){x:Str}{c:Int}(hx:q.cs[i]? = some (x,c)):∃t,mg x=some (.int c t):=let ⟨t,z⟩:=zbU e x c (_s hx);⟨t,W.mg_of X G z⟩
end
open PySem.W
end Dd
namespace Dd
open L2
section
variable {X:Cx}{E:XK}{e:Expr}{pos pos':Pos}
def zc4(i:Nat)(f:FE):FS:=λZ s=>match Z[i]? with
 | some (some (.int a))=>(f Z s).bind λd s1=>match d with | .int b=>.ok (.nx (Z.set i (some (.int (a+b))))) s1 | _=>.no
 | _=>.no
@[simp] theorem zce {i:Nat}{f:FE}{Z:Ev}{s:Sto}{a b:Int}{s1:Sto}(h:Z[i]? = some (some (.int a)))(hf:f Z s=.ok (.int b) s1):zc4 i f Z s=.ok (.nx (Z.set i (some (.int (a+b))))) s1:=by simp only[zc4,h,hf,Rb]
end
open PySem.W
section
variable {X:Cx}{E:XK}
def z1k:List D->Option (List Int)
 | []=>some [] | .int a::r=>(z1k r).map (a::·) | _=>none
theorem z3e:∀{xs:List D}{ns:List Int},z1k xs=some ns->xs=ns.map D.int
 | [],_,e=>by simp[z1k]at e;subst e;rfl | x::xs,ns,e=>by
  unfold z1k at e;split at e;·rename_i h;cases h
  ·rename_i a r h;cases h;cases q:z1k xs with
   | none=>rw[q]at e;simp at e | some t=>
    rw[q]at e;simp only[_aG,_aa]at e;subst e;rw[z3e q];rfl
  ·cases e
end
end Dd
namespace Dd
open L2
end Dd
namespace L2
end L2
namespace Dd
open L2
end Dd
namespace L2
open PySem.Builtin.Str
end L2
namespace Dd
open L2 PySem.Builtin.Str
end Dd
namespace Zz
end Zz
namespace L2
open Zz
end L2
namespace Dd
open L2
def lexN:List Int->List Int->Bool
 | [],[]=>false | [],_::_=>true | _::_,[]=>false | x::a,y::b=>if x=y then lexN a b else decide (x<y)
end Dd
namespace L2
end L2
namespace Dd
open L2
end Dd
namespace L2
end L2
namespace Dd
open L2
end Dd
namespace L2
end L2
namespace Dd
open L2
end Dd
namespace L2
def n3(a b c:Int):Nat:=if a<b then ((b-a-1) / c+1).toNat else 0
end L2
namespace Dd
open L2
open PySem.W
section
end
end Dd
namespace Dd
open L2
end Dd
namespace L2
open Dd
end L2
namespace Dd
open L2
end Dd
namespace Pg
open L2 Dd
@[simp] def z1A:FS:=(wO (z4F (eIs "int" (zc 0)) (zbZ (eIs "bool" (zc 0)))))
def vV:FS:=z1A
def yc:Mir:=Mof ["thing"] 1 vV
@[simp] def z1R:FS:=(wO (z4F (eIs "tuple" (zc 0)) (z3k dLe dLe (eC (.int 2)) (zd yH (za (zc 0) zg)) (eC (.int 4)))))
def jC:FS:=z1R
def xU:Mir:=Mof ["thing"] 1 jC
@[simp] def ky:FS:=(wO (eC (.bl false)))
@[simp] def kC:FS:=(fIf (fOr (kW (tOf (eIs "tuple" (zc 0)))) (tOf (eOp dNe (zd yH (za (zc 0) zg)) (zc 1)))) ky wM)
@[simp] def vR:FS:=(wO (zd z66 (za (zQ (zY (zc 0)) [none] (xC 0) yJ (zd yc (za (zc 0) zg))) zg)))
def xk:FS:=(zX kC vR)
def zu:Mir:=Mof ["thing","many"] 2 xk
@[simp] def xz:FS:=(zaO 0 1 (za (zc 1) (za (eOp z3K (zc 0) (zc 1)) zg)))
@[simp] def wL:FS:=(z02 (tOf (eOp dNe (zc 1) (eC (.int 0)))) xz)
@[simp] def uO:FS:=(wO (zc 0))
def vk:FS:=(zX wL uO)
def yF:Mir:=Mof ["one","other"] 2 vk
@[simp] def z4b:FS:=(wO (eC (.bl false)))
@[simp] def z4a:FS:=(fIf (fOr (kW (tOf (zd xU (za (zc 0) zg)))) (kW (tOf (zd zu (za (zc 0) (za (zd yH (za (zc 0) zg)) zg)))))) z4b wM)
@[simp] def z3D:FS:=(wO (z4F (eOp dGe (zd z3t (za (zc 0) zg)) (eC (.int 0))) (eOp dGt (zd z47 (za (zc 0) zg)) (eC (.int 0)))))
def z1b:FS:=(zX z4a z3D)
def wX:Mir:=Mof ["thing"] 1 z1b
@[simp] def z17:FS:=fNo
@[simp] def z1q:FS:=(fIf (kW (tOf (zd wX (za (zc 0) zg)))) z17 wM)
def jR:FS:=z1q
def zp:Mir:=Mof ["thing"] 1 jR
@[simp] def z3J:FS:=(qG (zd zp (za (zc 0) zg)))
@[simp] def z41:FS:=(va 1 (eC (.int 0)))
@[simp] def uB:FS:=(va 1 (zd yF (za (zc 1) (za (zc 2) zg))))
@[simp] def kZ:FS:=(z5I (zY (zc 0)) (xC 2) uB)
@[simp] def z3C:FS:=(wO (zc 1))
def z1w:FS:=(zX z3J (zX z41 (zX kZ z3C)))
def xE:Mir:=Mof ["lot","divisor","number"] 1 z1w
@[simp] def z1p:FS:=(wO (zd z7I (za (zQ (zaN (za (zc 0) (za (zc 1) zg))) [none,none] (jQ 0 1) yJ (eOp yP (zc 0) (zc 1))) zg)))
def jk:FS:=z1p
def yy:Mir:=Mof ["line","numbers"] 2 jk
@[simp] def jA:FS:=(va 3 (eOp yL (eSl (zc 0) zt (yg (zc 1))) (eSl (zc 0) (yg (eOp yL (zc 1) (eC (.int 1)))) zt)))
@[simp] def jH:FS:=(wO (zd zM (za (zQ (zY (zc 3)) [some 2,none] (xC 1) yJ (eOp yL (eSl (zc 1) zt (yg (zc 0))) (eSl (zc 1) (yg (eOp yL (zc 0) (eC (.int 1)))) zt))) zg)))
def z09:FS:=(zX jA jH)
def yZ:Mir:=Mof ["lines","at_line","at_column","kept"] 3 z09
@[simp] def z20:FS:=(wO (eIf (tOf (eOp dEq (eOp z3K (eOp yL (zc 0) (zc 1)) (eC (.int 2))) (eC (.int 0)))) (eC (.int 1)) (z3d (eC (.int 1)))))
def kT:FS:=z20
def xp:Mir:=Mof ["line","column"] 2 kT
@[simp] def z0S (Mr:Mir):FS:=(wO (eOp dIx (eOp dIx (zc 0) (eC (.int 0))) (eC (.int 0))))
@[simp] def z0d (Mr:Mir):FS:=(fIf (tOf (eOp dEq (zd yH (za (zc 0) zg)) (eC (.int 1)))) (z0S Mr) wM)
@[simp] def ul (Mr:Mir):FS:=(wO (zd z7I (za (zQ (z22 (za (eOp dIx (zc 0) (eC (.int 0))) zg)) [some 0,none,none] (jQ 1 2) yJ (eOp yP (eOp yP (zd xp (za (eC (.int 0)) (za (zc 1) zg))) (zc 2)) (zd Mr (za (zd yZ (za (zc 0) (za (eC (.int 0)) (za (zc 1) zg)))) zg)))) zg)))
def vz(Mr:Mir):FS:=(zX (z0d Mr) (ul Mr))
def zT:Nat->Mir
 | 0=>λ_ _=>.no | k+1=>Mof ["lines"] 1 (vz (zT k))
def wf:Mir:=zT 4
@[simp] def z2k:FS:=(wO (z4F (zd zu (za (zc 1) (za (zd yH (za (zc 0) zg)) zg))) (eOp dEq (zd yy (za (zc 1) (za (zc 0) zg))) (zc 2))))
def uD:FS:=z2k
def zH:Mir:=Mof ["lot","thing","number"] 3 uD
@[simp] def jw:FS:=(qG (zd zp (za (zc 0) zg)))
@[simp] def jT:FS:=(wO (zd zH (za (zc 0) (za (zc 1) (za (eC (.int 0)) zg)))))
def wH:FS:=(zX jw jT)
def zh:Mir:=Mof ["lot","thing"] 2 wH
@[simp] def kE:FS:=(qG (zd zp (za (zc 0) zg)))
@[simp] def kD:FS:=(wO (eC (.bl false)))
@[simp] def wC:FS:=(fIf (fOr (kW (tOf (eIs "tuple" (zc 1)))) (tOf (eOp dNe (zd yH (za (zc 1) zg)) (eC (.int 3))))) kD wM)
@[simp] def wB:FS:=(zaR (zc 1) (zaJ 2 3 4))
@[simp] def kH:FS:=(wO (eC (.bl false)))
@[simp] def wD:FS:=(fIf (fOr (kW (tOf (zd yc (za (zc 2) zg)))) (fOr (tOf (eOp dLe (zc 2) (eC (.int 0)))) (kW (tOf (zd zu (za (zc 3) (za (zd yH (za (zc 0) zg)) zg))))))) kH wM)
@[simp] def vM:FS:=(wO (z4F (eOp dEq (zd zM (za (zQ (zY (zc 3)) [some 2,none] (xC 1) yJ (eOp yP (zc 0) (zc 1))) zg)) (zc 0)) (zd zH (za (zc 0) (za (zc 4) (za (zc 2) zg))))))
def xm:FS:=(zX kE (zX wC (zX wB (zX wD vM))))
def zo:Mir:=Mof ["lot","thing","divisor","quotients","line"] 2 xm
@[simp] def jz:FS:=(qG (zd zp (za (zc 0) zg)))
@[simp] def kf:FS:=(wO (zd zH (za (zc 0) (za (zc 1) (za (zd xE (za (zc 0) zg)) zg)))))
def wE:FS:=(zX jz kf)
def zA:Mir:=Mof ["lot","thing"] 2 wE
@[simp] def z2o:FS:=(qG (zd zp (za (zc 0) zg)))
@[simp] def z2A:FS:=(wO (eC (.bl false)))
@[simp] def ud:FS:=(fIf (fOr (kW (tOf (eIs "list" (zc 1)))) (tOf (eOp dNe (zd yH (za (zc 1) zg)) (eOp z25 (zd yH (za (zc 0) zg)) (eC (.int 1)))))) z2A wM)
@[simp] def z26:FS:=(wO (eC (.bl false)))
@[simp] def wZ:FS:=(fIf (kW (tOf (zd z66 (za (zQ (zY (zc 1)) [some 0,none] (xC 1) yJ (zd zh (za (zc 0) (za (zc 1) zg)))) zg)))) z26 wM)
@[simp] def jj:FS:=(wO (eOp dEq (eOp yP (zd z8R (za (zd wf (za (eOp yL (wq (za (zc 0) zg)) (zd zM (za (zc 1) zg))) zg)) zg)) (zd xE (za (zc 0) zg))) (zd yy (za (zc 0) (za (zc 0) zg)))))
def wP:FS:=(zX z2o (zX ud (zX wZ jj)))
def zG:Mir:=Mof ["lot","thing"] 2 wP
@[simp] def qA:FS:=(wO (eOp dIx (zc 0) (zc 1)))
@[simp] def qF:FS:=(fIf (tOf (eOp dLt (zc 1) (zd yH (za (zc 0) zg)))) qA wM)
@[simp] def qB:FS:=(wO (eC (.int 0)))
def wa:FS:=(zX qF qB)
def yx:Mir:=Mof ["_law_script","_law_k"] 2 wa
@[simp] def z1u:FS:=(wO (z8f (za (eOp z25 (zc 0) (eOp z3L (eC (.int 10)) (eC (.int 18)))) zg)))
@[simp] def z1y:FS:=(fIf (tOf (eOp dGe (zc 0) (eOp z3L (eC (.int 10)) (eC (.int 18))))) z1u wM)
@[simp] def z1M:FS:=(va 1 (eC (.int 0)))
@[simp] def qi:FS:=(va 3 (eOp z3K (eOp yP (eOp yL (eOp yL (eOp z3K (zc 0) (eC (.int 2147483629))) (eOp yP (eC (.int 7919)) (zc 2))) (eC (.int 1))) (eC (.int 48271))) (eC (.int 2147483647))))
@[simp] def qf:FS:=(va 3 (eOp z3K (eOp yL (eOp yL (eOp yP (zc 3) (zc 3)) (eOp yP (eC (.int 69621)) (zc 2))) (eC (.int 7))) (eC (.int 2147483587))))
@[simp] def qk:FS:=(va 1 (eOp yL (eOp yP (zc 1) (eC (.int 2147483587))) (zc 3)))
@[simp] def qh:FS:=(z5I (z2K (za (eC (.int 64)) zg)) (xC 2) (zX qi (zX qf qk)))
@[simp] def z1x:FS:=(wO (z8f (za (zc 1) zg)))
def vX:FS:=(zX z1y (zX z1M (zX qh z1x)))
def xV:Mir:=Mof ["_law_cell","_law_number","_law_j","_law_more"] 1 vX
@[simp] def z0T:FS:=(va 2 (eOp z3K (eOp dIx (zc 0) (eC (.int 0))) (zc 1)))
@[simp] def z0k:FS:=(z2n (zc 0) (eC (.int 0)) (eOp z4G (eOp dIx (zc 0) (eC (.int 0))) (zc 1)))
@[simp] def z0o:FS:=(wO (zc 2))
def ql:FS:=(zX z0T (zX z0k z0o))
def zx:Mir:=Mof ["_law_pot_here","_law_far","_law_found"] 2 ql
end Pg
namespace Dd
open L2
end Dd
namespace L2
open Dd Zz
end L2
namespace Dd
open L2
end Dd
set_option maxRecDepth 1000000
set_option maxHeartbeats 4000000
namespace Pm
abbrev Tb:=List (List Int)
def dot(r v:List Int):Int:=(List.zipWith (λa b=>a*b) r v).sum
def qd(T:Tb)(i j:Nat):Tb:=(T.take i++T.drop (i+1)).map λr=>r.take j++r.drop (j+1)
def sg(i j:Nat):Int:=if (i+j) % 2=0 then 1 else -1
def det:Nat->Tb->Int
 | 0,_=>0 | k+1,T=>if T.length=1 then (T.getD 0 []).getD 0 0 else ((List.range T.length).map λj=>sg 0 j*(T.getD 0 []).getD j 0*det k (qd T 0 j)).sum
structure Tab(n:Nat)(T:Tb):Prop where
 len:T.length=n
 row:∀r∈T,r.length=n
theorem z4o{α:Type}{l:List α}(h:l.length=2):∃a b,l=[a,b]:=by match l,h with | [a,b],_=>exact⟨a,b,rfl⟩
theorem z0q{α:Type}{l:List α}(h:l.length=3):∃a b c,l=[a,b,c]:=by match l,h with | [a,b,c],_=>exact⟨a,b,c,rfl⟩
theorem um{α:Type}{l:List α}(h:l.length=4):∃a b c d,l=[a,b,c,d]:=by match l,h with | [a,b,c,d],_=>exact⟨a,b,c,d,rfl⟩
def d2(a b c d:Int):Int:=a*d-b*c
def d3(a b c d e f g h i:Int):Int:=a*d2 e f h i-b*d2 d f g i+c*d2 d e g h
def d4(a b c d e f g h i j k l m n o p:Int):Int:=a*d3 f g h j k l n o p-b*d3 e g h i k l m o p+c*d3 e f h i j l m n p-d*d3 e f g i j k m n o
theorem z93(k:Nat)(a b c d:Int):det (k+2) [[a,b],[c,d]]=d2 a b c d:=by
 show (1*a*d+(-1*b*c+0):Int)=_;unfold d2;grind
theorem z5F(k:Nat)(a b c d e f g h i:Int):det (k+3) [[a,b,c],[d,e,f],[g,h,i]]=d3 a b c d e f g h i:=by
 rw[det];simp[List.range,List.range.loop,qd,sg,z93,d3];grind
theorem z3a(k:Nat)(a b c d e f g h i j l m n o p q:Int):det (k+4) [[a,b,c,d],[e,f,g,h],[i,j,l,m],[n,o,p,q]]=d4 a b c d e f g h i j l m n o p q:=by
 rw[det];simp[List.range,List.range.loop,qd,sg,z5F,d4];grind
end Pm
set_option maxRecDepth 1000000
set_option maxHeartbeats 40000000
namespace Pm
end Pm
set_option maxRecDepth 1000000
set_option maxHeartbeats 40000000
namespace Pm
abbrev Sz(n:Nat):Prop:=n=2\/n=3\/n=4
def Bd(m:Nat)(T:Tb):Prop:=∀r∈T,∀x∈r,x.natAbs<2 ^ m
theorem z7O{a b:Int}{m k:Nat}(ha:a.natAbs<2 ^ m)(hb:b.natAbs<2 ^ k):(a*b).natAbs<2 ^ (m+k):=by
 rw[_bb,Nat.pow_add];exact Nat.mul_lt_mul'' ha hb
theorem z80{m:Nat}:∀{xs:List Int},(∀x∈xs,x.natAbs<2 ^ m)->xs.length<=4->xs.sum.natAbs<2 ^ (m+2):=by
 intro xs h hl;have key:∀ys:List Int,(∀x∈ys,x.natAbs<2 ^ m)->ys.sum.natAbs<=ys.length*2 ^ m:=by
  intro ys;induction ys with
  | nil=>intro _;simp | cons y ys ih=>
   intro h;have h1:=h y (by simp);have h2:=ih λx hx=>h x (by simp[hx]);have h3:=Int.natAbs_add_le y ys.sum;simp only[_t,_q,Nat.add_mul];omega
 cases xs with
 | nil=>exact Nat.two_pow_pos _ | cons x xs=>
  have h1:=h x (by simp);have h2:=key xs λy hy=>h y (by simp[hy]);have h3:=Int.natAbs_add_le x xs.sum;simp only[_q]at hl;have h4:xs.length*2 ^ m<=3*2 ^ m:=_bm _ (by omega);simp only[_t,Nat.pow_add];omega
theorem zero_lt_two(m:Nat):(0:Int).natAbs<2 ^ m:=Nat.two_pow_pos _
theorem z27{m:Nat}{r:List Int}(hr:∀x∈r,x.natAbs<2 ^ m)(j:Nat):(r.getD j 0).natAbs<2 ^ m:=by
 by_cases h:j<r.length
 ·rw[List.getD,_d h];exact hr _ (_ad _)
 ·rw[List.getD,_aD (by omega)];exact zero_lt_two m
theorem z2t{m:Nat}{T:Tb}(h:Bd m T)(i j:Nat):Bd m (qd T i j):=λr hr x hx=>by
 simp only[qd]at hr;obtain⟨q,hq,rfl⟩:=_r.mp hr;have hq':q∈T:=(_i.mp hq).elim _J _ab;exact h q hq' x ((_i.mp hx).elim _J _ab)
theorem z39{T:Tb}{i j:Nat}(hi:i<T.length):(qd T i j).length=T.length-1:=by simp[qd];omega
theorem z78(i j:Nat):(sg i j).natAbs=1:=by unfold sg;split<;>rfl
theorem z4L {m:Nat}:∀(k:Nat) (T:Tb),Bd m T->1<=T.length->T.length<=4->(det k T).natAbs<2 ^ (T.length*m+2*T.length)
 | 0,T,_,_,_=>by rw[det];exact zero_lt_two _ | k+1,T,h,h1,h4=>by
  rw[det];split
  ·rename_i e;rw[e];have:∀x∈T.getD 0 [],x.natAbs<2 ^ m:=by
    rw[List.getD,_d (by omega)];exact h _ (_ad _)
   exact _h (z27 this 0) (_V (by decide) (by omega))
  ·rename_i e;have e2:T.length*m+2*T.length=(T.length*m+2*T.length-2)+2:=by omega
   rw[e2];refine z80 (λx hx=>?_) (by simp;exact h4);obtain⟨j,hj,rfl⟩:=_r.mp hx;have b1:((T.getD 0 []).getD j 0).natAbs<2 ^ m:=by
    refine z27 ?_ j;rw[List.getD,_d (by omega)];exact h _ (_ad _)
   have hw:=z39 (T:=T) (i:=0) (j:=j) (by omega);have b2:=z4L k (qd T 0 j) (z2t h 0 j) (by omega) (by omega);rw[hw]at b2;rw[_bb,_bb,z78,Nat.one_mul];have b3:=Nat.mul_lt_mul'' b1 b2;rw[<- Nat.pow_add]at b3;refine _h b3 (_V (by decide) ?_);have:(T.length-1)*m=T.length*m-m:=by rw[Nat.sub_mul];omega
   have h5:m<=T.length*m:=Nat.le_mul_of_pos_left m h1;omega
open L2 (maxL minL maxL_ge maxL_mem minL_le minL_mem)
structure Lot(n:Nat)(v:List Int):Prop where
 sz:Sz n
 len:v.length=n
 nn:∀x∈v,0<=x
 pos:∃x∈v,0<x
@[simp] theorem dot_cons (a b:Int) (r v:List Int):dot (a::r) (b::v)=a*b+dot r v:=rfl
theorem Lot.ne{n:Nat}{v:List Int}(h:Lot n v):v≠[]:=λz=>by
 obtain⟨x,hx,_⟩:=h.pos;rw[z]at hx;simp at hx
def cg(a b:Int):Int:=(Int.gcd a b:Int)
def qD(v:List Int):Int:=v.foldl cg 0
theorem qS:∀(v:List Int)(a:Int),0<=a->0<=v.foldl cg a/\(v.foldl cg a ∣ a/\∀x∈v,v.foldl cg a ∣ x)/\∀d,d ∣ a->(∀x∈v,d ∣ x)->d ∣ v.foldl cg a
 | [],a,h=>⟨h,⟨Int.dvd_refl _,by simp⟩,λd hd _=>hd⟩ | x::v,a,h=>by
  have ih:=qS v (cg a x) (by simp[cg]);have g1:cg a x ∣ a:=_bY ..;have g2:cg a x ∣ x:=_bI ..;refine⟨ih.1,⟨_bM ih.2.1.1 g1,λy hy=>?_⟩,λd hd hx=>?_⟩
  ·rcases _p.mp hy with rfl | hy;·exact _bM ih.2.1.1 g2
   ·exact ih.2.1.2 y hy
  ·exact ih.2.2 d (Int.dvd_coe_gcd hd (hx x (by simp))) λy hy=>hx y (by simp[hy])
theorem z4R(v:List Int):0<=qD v:=(qS v 0 (by omega)).1
theorem z34{v:List Int}:∀x∈v,qD v ∣ x:=(qS v 0 (by omega)).2.1.2
theorem z5Z{v:List Int}{d:Int}(h:∀x∈v,d ∣ x):d ∣ qD v:=(qS v 0 (by omega)).2.2 d (Int.dvd_zero d) h
open Dd (lexN)
end Pm
namespace Pg
open L2 Dd Pm
abbrev iL(ns:List Int):List D:=ns.map D.int
theorem zcb{i:Int}{m:Nat}(h:i.natAbs<2 ^ m)(hm:m<=2000):i.natAbs<BIG:=_h h (_V (by decide) (by omega))
theorem qb{a b:Int}{m k:Nat}(s:Sto)(ha:a.natAbs<2 ^ m)(hm:m<=2000)(hb:b.natAbs<2 ^ k)(hk:k<=2000):yP (.int a) (.int b) s=.ok (.int (a*b)) s:=by rw[z6X,_o ⟨zcb ha hm,zcb hb hk⟩]
theorem kP{a b:Int}(s:Sto)(hb:0<b):z3K (.int a) (.int b) s=.ok (.int (a % b)) s:=by rw[z95,_o hb]
theorem z2S{xs:List D}(s:Sto)(h:∀x∈xs,x=.bl true):z66 [.lst xs] s=.ok (.bl true) s:=by
 have e:xs=(xs.map λ_=>true).map D.bl:=by
  rw[List.map_map];conv=>lhs;rw[<- List.map_id xs]
  exact List.map_congr_left λx hx=>h x hx
 have b:bools xs=some (xs.map λ_=>true):=by
  conv=>lhs;rw[e]
  exact z1d _
 simp[z66,zI,b]
theorem z9X{ns:List Int}(s:Sto)(h:ns≠[]):z47 [.tup (iL ns)] s=.ok (.int (maxL ns)) s:=by cases ns with
 | nil=>exact absurd rfl h | cons n ns=>simp only[z47,zI,_aq,uR]
theorem z9I{ns:List Int}(s:Sto)(h:ns≠[]):z3t [.tup (iL ns)] s=.ok (.int (minL ns)) s:=by cases ns with
 | nil=>exact absurd rfl h | cons n ns=>simp only[z3t,zI,_aq,uR]
theorem z43(i:Int)(s:Sto):yc [.int i] s=.ok (.bl true) s:=by simp[yc,Mof,vV,zD,gIs,tyD,isT]
theorem z3V(xs:List D)(s:Sto)(h:2<=xs.length/\xs.length<=4):xU [.tup xs] s=.ok (.bl true) s:=by
 have h1:(2:Int)<=xs.length:=by omega
 have h2:(xs.length:Int)<=4:=by omega
 simp[xU,Mof,jC,zD,gIs,tyD,isT,yH,zI,h1,h2]
theorem qa (ns:List Int) (s:Sto) (h:ns.length<=1000):zu [.tup (iL ns),.int ns.length] s=.ok (.bl true) s:=by
 simp[zu,Mof,xk,zD,gIs,tyD,isT,yH,zI];rw[z1f (λ_=>D.bl true) (iL ns) [] (by intro x hx;obtain⟨n,_,rfl⟩:=_r.mp hx;simp[z43]) (by simp[cap];omega)];simp only[Rb,_C];rw[z2S s (by intro x hx;obtain⟨_,_,rfl⟩:=_r.mp hx;rfl)];simp
theorem je{α:Type}{all:List D}{s:Sto}{body:D->Sto->R (Option D)}(g f:α->D):∀(l:List α)(acc:List D),(∀a∈l,body (g a) s=.ok (some (f a)) s)->acc.length+l.length<=cap->wo [] all body (l.map g) acc s=.ok (acc++l.map f) s
 | [],acc,_,_=>by simp[wo,okG] | x::xs,acc,hb,hl=>by
  have ih:=je (all:=all) g f xs (acc++[f x]) (λy hy=>hb y (by simp[hy])) (by simp at hl ⊢;omega);have hc:acc.length<cap:=by simp at hl;omega
  rw[_L,wo];simp[okG,hb x (by simp),hc,ih]
theorem z7f(ns:List Int)(s:Sto):z7I [.lst (iL ns)] s=.ok (.int ns.sum) s:=by simp only[z7I,zI,_aq,uR]
theorem zw:∀(r v:List Int),List.zipWith (λa b=>a*b) r v=(List.zip r v).map λp=>p.1*p.2
 | [],_=>by simp | _::_,[]=>by simp | a::r,b::v=>by simp[zw r v]
theorem z2N:∀(r v:List Int),z1U (iL r) (iL v)=(List.zip r v).map λp=>D.tup [.int p.1,.int p.2]
 | [],_=>by simp[z1U] | _::_,[]=>by simp[z1U] | a::r,b::v=>by
  have:=z2N r v;simp only[iL]at this;simp[z1U,this]
theorem z5t(i j:Nat)(s:Sto):xp [.int i,.int j] s=.ok (.int (sg i j)) s:=by
 have e:((i:Int)+j) % 2=(((i+j) % 2:Nat):Int):=by omega
 simp[xp,Mof,kT,zD,kP s (show (0:Int)<2 by decide)];unfold sg;by_cases h:(i+j) % 2=0
 ·have h2:((i:Int)+j) % 2=0:=by omega
  simp[h,h2]
 ·have h2:¬ ((i:Int)+j) % 2=0:=by omega
  simp[h,h2]
theorem z08{r v:List Int}{m k:Nat}(s:Sto)(hr:∀x∈r,x.natAbs<2 ^ m)(hv:∀x∈v,x.natAbs<2 ^ k)(hm:m<=2000)(hk:k<=2000)(hl:r.length<=4):yy [.tup (iL r),.tup (iL v)] s=.ok (.int (dot r v)) s:=by
 have ez:=z2N r v;simp only[iL]at ez;simp[yy,Mof,jk,zD,z51,ez,-List.map_map];rw[je _ (λp:Int×Int=>D.int (p.1*p.2)) _ [] (by
  intro p hp;have h1:=hr p.1 (_a4 hp).1;have h2:=hv p.2 (_a4 hp).2;simp[qb s h1 hm h2 hk]) (by simp[cap];omega)];simp only[Rb,_C];have e:(List.zip r v).map (λp:Int×Int=>D.int (p.1*p.2))=iL ((List.zip r v).map λp=>p.1*p.2):=by simp[_ag]
 rw[e,z7f];simp[dot,zw]
abbrev rD(r:List Int):D:=.tup (iL r)
abbrev tD(T:Tb):D:=.tup (T.map rD)
theorem z7e{xs:List D}{j:Nat}{d:D}(s:Sto)(h:xs[j]? = some d):dIx (.tup xs) (.int j) s=.ok d s:=by
 have hj:j<xs.length:=(_b.mp h).1;have e:ixN xs.length (j:Int)=some j:=by
  unfold ixN;rw[_o (by omega),_o (by omega)];simp
 simp only[dIx,zI,atI,e,_aq,h]
theorem z76{n:Nat}{ar:FA}{Z:Ev}{s s1:Sto}(hn:n<=1000)(h:ar Z s=.ok [.int n] s1):z2K ar Z s=.ok (yK n,[]) s1:=by
 have c62:-(2 ^ 62)<=(n:Int)/\(n:Int)<2 ^ 62:=by omega
 rw[z7j,h,Rb];simp only;rw[_o c62,_at]
theorem z7J(xs:List D)(i:Nat)(s:Sto):dSl (.tup xs) none (some (i:Int)) s=.ok (.tup (xs.take i)) s:=by
 have e:Dd.cutD xs none (some (i:Int))=xs.take i:=by
  unfold Dd.cutD;rw[HT.z2Q,HT.z4K];simp[List.take_eq_take_min]
 simp only[dSl,e]
theorem z8F(xs:List D)(i:Nat)(s:Sto):dSl (.tup xs) (some (i:Int)) none s=.ok (.tup (xs.drop i)) s:=by
 have e:Dd.cutD xs (some (i:Int)) none=xs.drop i:=by
  unfold Dd.cutD;rw[HT.z2Q,HT.z4K];by_cases h:i<=xs.length
  ·rw[Nat.min_eq_left h];exact List.take_of_length_le (by simp)
  ·rw[Nat.min_eq_right (by omega)];simp[List.drop_of_length_le (show xs.length<=i by omega)]
 simp only[dSl,e]
theorem z6Z{f g h:FE}{Z:Ev}{s:Sto}{xs:List D}{j:Nat}(hf:f Z s=.ok (.tup xs) s)(hg:g Z s=.ok (.int j) s)(hl:xs.length<=1000): eOp yL (eSl f zt (yg g)) (eSl f (yg (eOp yL g (eC (.int 1)))) zt) Z s=.ok (.tup (xs.take j++xs.drop (j+1))) s:=by
 have e1:=z7J xs j s;have e2:=z8F xs (j+1) s;rw[show (((j+1:Nat):Int))=(j:Int)+1 from rfl]at e2;have e3:(xs.take j).length+(xs.drop (j+1)).length<=cap:=by simp[cap];omega
 simp only[ki,z49,vy,jO,z5H,hf,hg,Rb,z2P,e1,e2,kQ,_o e3]
theorem z4N {T:Tb} (i j:Nat) (s:Sto) (hT:T.length<=4) (hr:∀r∈T,r.length<=4):yZ [tD T,.int i,.int j] s=.ok (tD (qd T i j)) s:=by
 have key:∀(d:D) (K:Tb),(eOp yL (eSl (zc 0) zt (yg (zc 1))) (eSl (zc 0) (yg (eOp yL (zc 1) (eC (.int 1)))) zt)) [some d,some (.int i),some (.int j),none] s=.ok (.tup (K.map rD)) s->K.length<=4->(∀r∈K,r.length<=4)-> yZ [d,.int i,.int j] s=.ok (.tup (K.map λr=>rD (r.take j++r.drop (j+1)))) s:=λd K h hK hKr=>by
  have st:zD ["lines","at_line","at_column","kept"] [d,.int i,.int j]=[some d,some (.int i),some (.int j),none]:=rfl;simp only[yZ,Mof,z09,st,_q,_H,_Z];rw[zr (Z':=[some d,some (.int i),some (.int j),some (.tup (K.map rD))]) (s':=s) (by rw[jA,yD,h];simp)];have c:zQ (zY (zc 3)) [some 2,none] (xC 1) yJ (eOp yL (eSl (zc 1) zt (yg (zc 0))) (eSl (zc 1) (yg (eOp yL (zc 0) (eC (.int 1)))) zt)) [some d,some (.int i),some (.int j),some (.tup (K.map rD))] s=.ok (.lst (K.map λr=>rD (r.take j++r.drop (j+1)))) s:=by
   rw[vF,kc];simp only[z7P,z31,_aK,_au,Rb];rw[je rD (λr=>rD (r.take j++r.drop (j+1))) K [] (by
    intro r hrr;have q:=z6Z (f:=zc 1) (g:=zc 0) (h:=zc 0) (Z:=[some (.int j),some (rD r)]) (s:=s) (xs:=iL r) (j:=j) (by simp) (by simp) (by have:=hKr r hrr;simp;omega);simp only[z03,Rb,z5e,_Z,kI,kM,qc,_aK,_au,_ap,_aN,_aM];rw[q,Rb];simp[List.map_take,List.map_drop]) (by simp[cap];omega)];rw[Rb,_C]
  have g:zM [.lst (K.map λr=>rD (r.take j++r.drop (j+1)))] s=.ok (.tup (K.map λr=>rD (r.take j++r.drop (j+1)))) s:=by simp[zM,zI]
  rw[jH,qq,wG,zj,c,Rb,xc,Rb,Rb,g,Rb]
 have h0:=z6Z (f:=zc 0) (g:=zc 1) (h:=zc 0) (Z:=[some (tD T),some (.int i),some (.int j),none]) (s:=s) (xs:=T.map rD) (j:=i) (by simp) (by simp) (by simp;omega);have hmem:∀r∈T.take i++T.drop (i+1),r∈T:=λr hr=>(_i.mp hr).elim _J _ab;have:=key (tD T) (T.take i++T.drop (i+1)) (by rw[h0];simp[List.map_take,List.map_drop]) (by simp;omega) (λr hrr=>hr r (hmem r hrr));rw[this];simp[qd,_ag]
theorem z2l(r:List Int):vG 0 (iL r)=(List.range r.length).map λ(j:Nat)=>D.tup [.int (j:Int),.int (r.getD j 0)]:=by
 apply List.ext_getElem?;intro k;by_cases h:k<r.length
 ·have h1:k<(vG 0 (iL r)).length:=by rw[xH];simpa using h
  obtain⟨x,e1,e2⟩:=qV (_d h1);rw[_d h1,e2];simp only[iL,_D,_d h,_aG,_aa]at e1;rw[<- e1];simp[h,List.getD]
 ·rw[_aD (by rw[xH];simp;omega),_aD (by simp;omega)]
theorem z9y {r:List Int} {j:Nat} (s:Sto) (h:j<r.length):dIx (rD r) (.int (j:Int)) s=.ok (.int (r.getD j 0)) s:=z7e (xs:=iL r) (j:=j) (d:=.int (r.getD j 0)) s (by simp[_D,_d h,List.getD])
theorem zah(i j:Nat):(sg i j).natAbs<2 ^ 1:=by rw[z78];decide
theorem js {m:Nat} (hm:m<=400):∀(k:Nat) (T:Tb) (s:Sto),T.length<=k->1<=T.length->T.length<=4->(∀r∈T,r.length=T.length)->Bd m T->zT k [tD T] s=.ok (.int (det k T)) s
 | 0,T,s,h0,h1,_,_,_=>by omega | k+1,T,s,h0,h1,h4,hr,hb=>by
  have ih:=λ(U:Tb) (hU0:U.length<=k) hU1 hU4 hUr hUb=>js hm k U s hU0 hU1 hU4 hUr hUb;have hr0:T.getD 0 []∈T:=by rw[List.getD,_d (by omega)];exact _ad _
  have l0:=hr _ hr0;have b0:=hb _ hr0;have gl:yH [tD T] s=.ok (.int T.length) s:=by simp[yH,zI]
  have i0:dIx (tD T) (.int 0) s=.ok (rD (T.getD 0 [])) s:=by
   have:=z7e (xs:=T.map rD) (j:=0) (d:=rD (T.getD 0 [])) s (by simp[_D,_d (show 0<T.length by omega),List.getD]);simpa using this
  have st:∀d:D,zD ["lines"] [d]=[some d]:=λ_=>rfl;by_cases he:T.length=1
  ·have i1:dIx (rD (T.getD 0 [])) (.int 0) s=.ok (.int ((T.getD 0 []).getD 0 0)) s:=z9y (j:=0) s (by omega);have key:∀(d e:D) (x:Int),yH [d] s=.ok (.int 1) s->dIx d (.int 0) s=.ok e s->dIx e (.int 0) s=.ok (.int x) s->zT (k+1) [d] s=.ok (.int x) s:=λd e x a1 a2 a3=>by
    rw[zT];simp only[Mof,vz,st,_q,_H,_Z];rw[zaa (d:=.int x) (s':=s) (by simp[a1,a2,a3])]
   rw[key (tD T) _ _ (by rw[gl,he];rfl) i0 i1,det,_o he]
  ·have en:=z2l (T.getD 0 []);rw[l0]at en;have wl:∀j,(qd T 0 j).length=T.length-1:=λj=>z39 (by omega);have wr:∀j,j<T.length->∀r∈qd T 0 j,r.length=(qd T 0 j).length:=λj hj r hrr=>by
    rw[wl];simp only[qd]at hrr;obtain⟨q,hq,rfl⟩:=_r.mp hrr;have hq':q∈T:=(_i.mp hq).elim _J _ab;have:=hr q hq';simp;omega
   have facts:∀j∈List.range T.length,xp [.int 0,.int (j:Int)] s=.ok (.int (sg 0 j)) s/\yZ [tD T,.int 0,.int (j:Int)] s=.ok (tD (qd T 0 j)) s/\zT k [tD (qd T 0 j)] s=.ok (.int (det k (qd T 0 j))) s/\ yP (.int (sg 0 j)) (.int ((T.getD 0 []).getD j 0)) s=.ok (.int (sg 0 j*(T.getD 0 []).getD j 0)) s/\yP (.int (sg 0 j*(T.getD 0 []).getD j 0)) (.int (det k (qd T 0 j))) s=.ok (.int (sg 0 j*(T.getD 0 []).getD j 0*det k (qd T 0 j))) s:=λj hj=>by
    have hj':j<T.length:=by simpa using hj
    have s1:xp [.int 0,.int (j:Int)] s=.ok (.int (sg 0 j)) s:=z5t 0 j s;have s2:yZ [tD T,.int 0,.int (j:Int)] s=.ok (tD (qd T 0 j)) s:=z4N 0 j s h4 (λr hrr=>by rw[hr r hrr];exact h4);have s3:=ih (qd T 0 j) (by rw[wl];omega) (by rw[wl];omega) (by rw[wl];omega) (wr j hj') (z2t hb 0 j);have b1:=z27 b0 j;have b2:=z4L k (qd T 0 j) (z2t hb 0 j) (by rw[wl];omega) (by rw[wl];omega);have b3:(det k (qd T 0 j)).natAbs<2 ^ 2000:=_h b2 (_V (by decide) (by
     rw[wl];have:(T.length-1)*m<=3*m:=_bm _ (by omega);omega));have m1:=qb s (zah 0 j) (by decide) b1 (by omega);have m2:=qb s (z7O (zah 0 j) b1) (by omega) b3 (_n _);exact⟨s1,s2,s3,m1,m2⟩
   have key:∀(d e:D) (n:Int),yH [d] s=.ok (.int n) s->n≠1->(zQ (z22 (za (eOp dIx (zc 0) (eC (.int 0))) zg)) [some 0,none,none] (jQ 1 2) yJ (eOp yP (eOp yP (zd xp (za (eC (.int 0)) (za (zc 1) zg))) (zc 2)) (zd (zT k) (za (zd yZ (za (zc 0) (za (eC (.int 0)) (za (zc 1) zg)))) zg)))) [some d] s=.ok e s-> ∀x,z7I [e] s=.ok (.int x) s->zT (k+1) [d] s=.ok (.int x) s:=λd e n a1 a2 a3 x a4=>by
    rw[zT];simp only[Mof,vz,st,_q,_H,_Z];rw[zr (Z':=[some d]) (s':=s) (by simp[a1,a2])];rw[ul,qq,wG,zj,a3,Rb,xc,Rb,Rb,a4,Rb]
   have xs:=(List.range T.length).map λj=>sg 0 j*(T.getD 0 []).getD j 0*det k (qd T 0 j);rw[det,_I he];refine key (tD T) (.lst (iL ((List.range T.length).map λj=>sg 0 j*(T.getD 0 []).getD j 0*det k (qd T 0 j)))) T.length gl (by omega) ?_ _ (z7f _ s);rw[vF,kc];simp only[z8t,zj,xc,ki,z31,z5H,_aK,Rb,i0,z51];rw[en];rw[je (λj:Nat=>D.tup [.int (j:Int),.int ((T.getD 0 []).getD j 0)]) (λj:Nat=>D.int (sg 0 j*(T.getD 0 []).getD j 0*det k (qd T 0 j))) (List.range T.length) [] (by
    intro j hj;obtain⟨s1,s2,s3,m1,m2⟩:=facts j hj;simp only[z1W,Rb,z5e,_Z,kI,kM,qc,_aK,_au,_ap,_aN,_aM,ki,wG,zj,xc,z5H,z31,s1,s2,s3,m1,m2]) (by simp[cap];omega)];rw[Rb,_C];simp[_ag]
theorem z6w{n m:Nat}{T:Tb}(s:Sto)(hn:n=1\/Sz n)(h:Tab n T)(hb:Bd m T)(hm:m<=400):wf [tD T] s=.ok (.int (det 4 T)) s:=by
 have hl:=h.len;exact js hm 4 T s (by omega) (by omega) (by omega) (λr hr=>by rw[h.row r hr,hl]) hb
theorem jx{α:Type}{all:List D}{s:Sto}{body:D->Sto->R (Option D)}(g f:α->D)(p:α->Bool):∀(l:List α)(acc:List D),(∀a∈l,body (g a) s=.ok (if p a=true then some (f a) else none) s)->acc.length+l.length<=cap->wo [] all body (l.map g) acc s=.ok (acc++(l.filter p).map f) s
 | [],acc,_,_=>by simp[wo,okG] | x::xs,acc,hb,hl=>by
  have og:okG [] all s:=by intro p hp;simp at hp
  rw[_L,wo,_o og,hb x (by simp)];cases hp:p x with
  | true=>
   have ih:=jx (all:=all) g f p xs (acc++[f x]) (λy hy=>hb y (by simp[hy])) (by simp at hl ⊢;omega);have hc:acc.length<cap:=by simp at hl;omega
   simp[hc,ih,hp] | false=>
   have ih:=jx (all:=all) g f p xs acc (λy hy=>hb y (by simp[hy])) (by simp at hl ⊢;omega);simp[ih,hp]
theorem z6e{α:Type}{fi:FI}{mp:List (Option Nat)}{fg:FG}{ft:FT}{fe:FE}{Z:Ev}{s:Sto}(g f:α->D)(p:α->Bool)(ev:α->Ev)(l:List α) (hi:fi Z s=.ok (l.map g,[]) s)(hg:∀a∈l,fg (g a) (xy mp Z) s=.ok (ev a) s)(ht:∀a∈l,ft (ev a) s=.ok (p a) s)(he:∀a∈l,p a=true->fe (ev a) s=.ok (f a) s)(hl:l.length<=cap): zQ fi mp fg ft fe Z s=.ok (.lst ((l.filter p).map f)) s:=by
 rw[vF,kc,hi,Rb];rw[jx g f p l [] (by
  intro a ha;simp only[hg a ha,ht a ha,Rb];cases hp:p a with
  | true=>simp[he a ha hp] | false=>simp) (by simpa using hl)];rfl
theorem comp_map{α:Type}{fi:FI}{mp:List (Option Nat)}{fg:FG}{fe:FE}{Z:Ev}{s:Sto}(g f:α->D)(ev:α->Ev)(l:List α) (hi:fi Z s=.ok (l.map g,[]) s)(hg:∀a∈l,fg (g a) (xy mp Z) s=.ok (ev a) s)(he:∀a∈l,fe (ev a) s=.ok (f a) s)(hl:l.length<=cap): zQ fi mp fg yJ fe Z s=.ok (.lst (l.map f)) s:=by
 have:=z6e (ft:=yJ) g f (λ_=>true) ev l hi hg (λa _=>rfl) (λa ha _=>he a ha) hl;rw[show l.filter (λ_=>true)=l from List.filter_eq_self.mpr (by simp)]at this;exact this
theorem uy{f:FE}{Z:Ev}{s:Sto}{xs:List D}(h:f Z s=.ok (.tup xs) s):zY f Z s=.ok (xs,[]) s:=by simp[h]
theorem wY{f:FE}{Z:Ev}{s:Sto}{xs:List D}(h:f Z s=.ok (.lst xs) s):zY f Z s=.ok (xs,[]) s:=by simp[h]
structure z1D(n m:Nat)(v:List Int):Prop extends Lot n v where bd:∀x∈v,x<2 ^ m
theorem z1D.abs{n m:Nat}{v:List Int}(h:z1D n m v):∀x∈v,x.natAbs<2 ^ m:=λx hx=>by
 have h1:=h.bd x hx;have h2:=h.nn x hx;have e:(x.natAbs:Int)=x:=Int.natAbs_of_nonneg h2;have:(x.natAbs:Int)<((2 ^ m:Nat):Int):=by rw[e];simpa using h1
 omega
theorem _root_.Pm.Lot.le4{n:Nat}{v:List Int}(h:Lot n v):v.length<=4/\2<=v.length:=by have:=h.len;have:=h.sz;omega
theorem z6o{n:Nat}{v:List Int}(h:Lot n v)(s:Sto):wX [rD v] s=.ok (.bl true) s:=by
 have l4:=h.le4;have h1:=z3V (iL v) s (by simp;omega);have h2:=qa v s (by omega);have g1:=z9X s h.ne;have g2:=z9I s h.ne;have mn:0<=minL v:=h.nn _ (minL_mem h.ne);have mx:0<maxL v:=by obtain⟨x,hx,h0⟩:=h.pos;have:=maxL_ge (xs:=v) x hx;omega
 have gl:yH [rD v] s=.ok (.int v.length) s:=by simp[yH,zI]
 have key:∀d:D,xU [d] s=.ok (.bl true) s->yH [d] s=.ok (.int v.length) s->zu [d,.int v.length] s=.ok (.bl true) s->z47 [d] s=.ok (.int (maxL v)) s->z3t [d] s=.ok (.int (minL v)) s->wX [d] s=.ok (.bl true) s:=λd a1 a2 a3 a4 a5=>by simp[wX,Mof,z1b,zD,a1,a2,a3,a4,a5,mn,mx]
 exact key _ h1 gl h2 g1 g2
theorem ya{n:Nat}{v:List Int}(h:Lot n v)(s:Sto):zp [rD v] s=.ok .non s:=by
 have h1:=z6o h s;have key:∀d:D,wX [d] s=.ok (.bl true) s->zp [d] s=.ok .non s:=λd a1=>by simp[zp,Mof,jR,zD,a1]
 exact key _ h1
theorem z88{a b:Int}(hb:0<b):cg b (a % b)=cg a b:=by
 have e:=Int.mul_ediv_add_emod a b;refine Int.dvd_antisymm (by simp[cg]) (by simp[cg]) ?_ ?_
 ·have h1:cg b (a % b) ∣ b:=_bY ..;have h2:cg b (a % b) ∣ a % b:=_bI ..;refine Int.dvd_coe_gcd ?_ h1;have h3:=Int.dvd_add (_bM h1 (_bJ b (a / b))) h2;rwa [e]at h3
 ·have h1:cg a b ∣ a:=_bY ..;have h2:cg a b ∣ b:=_bI ..;refine Int.dvd_coe_gcd h2 ?_;have:a % b=a-b*(a / b):=by omega
  rw[this];exact Int.dvd_sub h1 (_bM h2 (_bJ ..))
theorem z8A{a:Int}(h:0<=a):cg a 0=a:=by
 unfold cg;rw[Int.gcd_zero_right];omega
theorem z3i(s:Sto):∀(k:Nat)(a b:Int),0<=a->0<=b->b.toNat<k-> xY (tOf (eOp dNe (zc 1) (eC (.int 0)))) xz k [some (.int a),some (.int b)] s=.ok (.nx [some (.int (cg a b)),some (.int 0)]) s
 | 0,a,b,_,_,h=>by omega | k+1,a,b,ha,hb,h=>by
  rw[xY];by_cases e:b=0
  ·subst e;simp[z8A ha]
  ·have b0:0<b:=by omega
   have m:=kP (a:=a) s b0;have h1:=_a5 a (show b≠0 by omega);have h2:=_aO a b0;have ih:=z3i s k b (a % b) hb h1 (by omega);have e1:tOf (eOp dNe (zc 1) (eC (.int 0))) [some (.int a),some (.int b)] s=.ok true s:=by simp[e]
   have e2:xz [some (.int a),some (.int b)] s=.ok (.nx [some (.int b),some (.int (a % b))]) s:=by simp[m]
   rw[e1,Rb,_o rfl,e2,Rb];show xY _ _ k _ s=_;rw[ih,z88 b0]
theorem jp {a b:Int} (ha:0<=a) (hb:0<=b) (s:Sto):yF [.int a,.int b] s=.ok (.int (cg a b)) s:=by
 have st:zD ["one","other"] [.int a,.int b]=[some (.int a),some (.int b)]:=rfl;simp only[yF,Mof,vk,st,_q,_H,_Z];rw[zr (Z':=[some (.int (cg a b)),some (.int 0)]) (s':=s) (by rw[wL];exact z38 (z3i s (b.toNat+1) a b ha hb (by omega)) (by simp))];simp
theorem jr(s:Sto)(x y:Option D):∀(v:List Int)(a:Int)(all:List D)(z:Option D),0<=a->(∀x∈v,0<=x)->∃z',wF [] all (λd Z s=>(xC 2 d Z s).bind λZ' s'=>uB Z' s') (iL v) [x,some (.int a),z] s=.ok (.nx [x,some (.int (v.foldl cg a)),z']) s
 | [],a,all,z,_,_=>⟨z,by simp[wF,okG]⟩ | b::v,a,all,z,ha,hv=>by
  have hb:=hv b (by simp);obtain⟨z',ih⟩:=jr s x y v (cg a b) all (some (.int b)) (by simp[cg]) λw hw=>hv w (by simp[hw]);refine⟨z',?_⟩;have c2:=jp ha hb s;simp only[iL,_L,wF];rw[_o (by intro p hp;simp at hp)];simp only[iL]at ih;have e2:uB [x,some (.int a),some (.int b)] s=.ok (.nx [x,some (.int (cg a b)),some (.int b)]) s:=by simp[c2]
  rw[z03,Rb];simp only[_aN,_aM];rw[e2,Rb];exact ih
theorem z0I {n:Nat} {v:List Int} (h:Lot n v) (s:Sto):xE [rD v] s=.ok (.int (qD v)) s:=by
 have h1:=ya h s;have key:∀d:D,zp [d] s=.ok .non s->(∀z,zY (zc 0) [some d,some (.int 0),z] s=.ok (iL v,[]) s)->xE [d] s=.ok (.int (qD v)) s:=λd a1 a2=>by
  have st:zD ["lot","divisor","number"] [d]=[some d,none,none]:=rfl;simp only[xE,Mof,z1w,st,_q,_H,_Z];rw[zr (Z':=[some d,none,none]) (s':=s) (by simp[a1])];rw[zr (Z':=[some d,some (.int 0),none]) (s':=s) (by simp)];obtain⟨z',e⟩:=jr s (some d) none v 0 (iL v) none (by omega) h.nn;rw[zr (Z':=[some d,some (.int (v.foldl cg 0)),z']) (s':=s) (by rw[kZ,z0b,a2,Rb];exact e)];simp[qD]
 exact key _ h1 λz=>uy (by simp)
end Pg
namespace Pm
open L2 (maxL minL maxL_ge maxL_mem minL_le minL_mem n3)
end Pm
namespace Pg
open L2 Dd Pm
theorem uq(x:List D)(s:Sto):zM [.lst x] s=.ok (.tup x) s:=by simp[zM,zI]
theorem yo{M:Mir}{f:FE}{Z:Ev}{s:Sto}{x:D}(h:f Z s=.ok x s):zd M (za f zg) Z s=M [x] s:=by simp only[wG,zj,xc,h,Rb]
theorem call2{M:Mir}{f g:FE}{Z:Ev}{s:Sto}{x y:D}(h:f Z s=.ok x s)(h2:g Z s=.ok y s):zd M (za f (za g zg)) Z s=M [x,y] s:=by simp only[wG,zj,xc,h,h2,Rb]
theorem z55{M:Mir}{f g k:FE}{Z:Ev}{s:Sto}{x y z:D}(h:f Z s=.ok x s)(h2:g Z s=.ok y s)(h3:k Z s=.ok z s):zd M (za f (za g (za k zg))) Z s=M [x,y,z] s:=by simp only[wG,zj,xc,h,h2,h3,Rb]
theorem op2{o:D->D->Sto->R D}{f g:FE}{Z:Ev}{s:Sto}{x y:D}(h:f Z s=.ok x s)(h2:g Z s=.ok y s):eOp o f g Z s=o x y s:=by simp only[ki,h,h2,Rb]
theorem z5u{i:Int}(h0:0<=i)(h:i<2 ^ 2000):i.natAbs<BIG:=by
 have e:(i.natAbs:Int)=i:=Int.natAbs_of_nonneg h0;have k:(2:Int) ^ 2000<=(BIG:Int):=by decide +kernel
 exact Int.ofNat_lt.mp (Int.lt_of_lt_of_le (by rw[e];exact h) k)
theorem kb{a b:Int}(s:Sto)(ha:0<=a)(ha':a<2 ^ 2000)(hb:0<=b)(hb':b<2 ^ 2000):yP (.int a) (.int b) s=.ok (.int (a*b)) s:=by rw[z6X,_o ⟨z5u ha ha',z5u hb hb'⟩]
theorem z87{a b:Int}(s:Sto)(hb:0<b)(hb':b<2 ^ 2000):z4G (.int a) (.int b) s=.ok (.int (a / b)) s:=by rw[z8e,_o ⟨hb,z5u (by omega) hb'⟩]
theorem z9r(ns:List Int)(k:Nat)(s:Sto):∃c,yx [.scr (iL ns),.int k] s=.ok (.int c) s:=by
 by_cases h:k<ns.length
 ·have hk:(k:Int)<ns.length:=by omega
  refine⟨ns[k],?_⟩;have e:ixN (iL ns).length (k:Int)=some k:=by
   unfold ixN;rw[_o (by omega),_o (by simpa using hk)];simp
  have ix:dIx (.scr (iL ns)) (.int k) s=.ok (.int ns[k]) s:=by
   simp only[dIx,zI,atI,e,_aq];simp[h]
  simp only[iL]at ix;simp[yx,Mof,wa,zD,yH,zI,hk,ix]
 ·have hk:¬ (k:Int)<ns.length:=by omega
  exact⟨0,by simp[yx,Mof,wa,zD,yH,zI,hk]⟩
def Pot(s:Sto)(l:Nat):Prop:=∃p:Int,s[l]? = some [.int p]
theorem Pot.lt{s:Sto}{l:Nat}(h:Pot s l):l<s.length:=by
 obtain⟨p,e⟩:=h;exact (_b.mp e).1
theorem Pot.app{s:Sto}{l:Nat}(h:Pot s l)(t:Sto):Pot (s++t) l:=by
 obtain⟨p,e⟩:=h;exact⟨p,by rw[_x (_b.mp e).1];exact e⟩
structure xj(s s':Sto)(l:Nat):Prop where
 pot:Pot s' l
 len:s'.length=s.length
 oth:∀m,m≠l->s'[m]? = s[m]?
theorem z5m{s:Sto}{l:Nat}{far:Int}(h:Pot s l)(h0:0<far)(h1:far<2 ^ 2000):∃r s',zx [.loc l,.int far] s=.ok (.int r) s'/\0<=r/\r<far/\xj s s' l:=by
 obtain⟨p,e⟩:=h;have hl:l<s.length:=(_b.mp e).1;refine⟨p % far,s.set l [.int (p / far)],?_,_a5 _ (by omega),_aO _ h0,⟨p / far,by rw[_v hl]⟩,by simp,λm hm=>_f (_aH hm)⟩;have ix:dIx (.loc l) (.int 0) s=.ok (.int p) s:=by simp[dIx,zI,e,atI,ixN]
 simp[zx,Mof,ql,zD,ix,kP s h0,z87 s h0 h1,e,ixN,qQ,List.replicate]
theorem z9B(s:Sto):z3L (.int 10) (.int 18) s=.ok (.int 1000000000000000000) s:=by rw[z5d];rfl
theorem zaV(s:Sto):z3L (.int 10) (.int 15) s=.ok (.int 1000000000000000) s:=by rw[z5d];rfl
theorem pow_step{m r j:Nat}(h:m<2147483648 ^ j)(hr:r<2147483587):m*2147483587+r<2147483648 ^ (j+1):=by
 rw[Nat.pow_succ];generalize 2147483648 ^ j=B at h;omega
theorem zaf{m j:Nat}(h:m<2147483648 ^ j)(hj:j<=64):(m:Int)<2 ^ 2000:=by
 have h1:2147483648 ^ j<=2147483648 ^ 64:=_V (by decide) hj;have h2:2147483648 ^ 64<=2 ^ 2000:=by decide +kernel
 have h3:m<2 ^ 2000:=_h h (_B h1 h2);have h4:((2 ^ 2000:Nat):Int)=2 ^ 2000:=by decide +kernel
 rw[<- h4];exact Int.ofNat_lt.mpr h3
theorem zbz (c:Int) (s:Sto):∃p:Int,xV [.int c] s=.ok (.loc s.length) (s++[[.int p]]):=by
 by_cases h:1000000000000000000<=c;·exact⟨c-1000000000000000000,by simp[xV,Mof,vX,zD,z9B,h,D.flat.flats,qQ,cap,List.replicate]⟩
 ·have lp:∃Z' s',qh [some (.int c),some (.int 0),none,none] s=.ok (.nx Z') s'/\∃(m:Nat) (a b:Option D),Z'=[some (.int c),some (.int m),a,b]/\s'=s:=by
   obtain⟨Z',s',e,m,a,b,e1,e2,_⟩:=jb (all:=yK 64) (body:=λd Z s=>(xC 2 d Z s).bind λZ' s'=>(zX qi (zX qf qk)) Z' s') (λj Z s'=>∃(m:Nat) (a b:Option D),Z=[some (.int c),some (.int m),a,b]/\s'=s/\m<2147483648 ^ j) (yK 64) 0 (λj x hx Z s' hi=>by
    obtain⟨m,a,b,rfl,rfl,hm⟩:=hi;obtain⟨hj,rfl⟩:=jW hx;rw[_bx]at hm;have r0:=_a5 c (show (2147483629:Int)≠0 by decide);have r1:=_aO c (show (0:Int)<2147483629 by decide);have a1:z3K (.int c) (.int 2147483629) s'=.ok (.int (c % 2147483629)) s':=kP s' (by decide);have a2:yP (.int 7919) (.int j) s'=.ok (.int (7919*j)) s':=kb s' (by decide) (by decide +kernel) (by omega) (by omega);have a3:yP (.int (c % 2147483629+7919*j+1)) (.int 48271) s'=.ok (.int ((c % 2147483629+7919*j+1)*48271)) s':=kb s' (by omega) (by omega) (by decide) (by decide +kernel);generalize hx1:(c % 2147483629+7919*(j:Int)+1)*48271 % 2147483647=x1;have b0:0<=x1:=by rw[<- hx1];exact _a5 _ (by decide)
    have b1:x1<2147483647:=by rw[<- hx1];exact _aO _ (by decide)
    have a4:z3K (.int ((c % 2147483629+7919*j+1)*48271)) (.int 2147483647) s'=.ok (.int x1) s':=by rw[<- hx1];exact kP s' (by decide)
    have a5:yP (.int x1) (.int x1) s'=.ok (.int (x1*x1)) s':=kb s' b0 (by omega) b0 (by omega);have a6:yP (.int 69621) (.int j) s'=.ok (.int (69621*j)) s':=kb s' (by decide) (by decide +kernel) (by omega) (by omega);generalize hx2:(x1*x1+69621*(j:Int)+7) % 2147483587=x2;have c0:0<=x2:=by rw[<- hx2];exact _a5 _ (by decide)
    have c1:x2<2147483587:=by rw[<- hx2];exact _aO _ (by decide)
    have a7:z3K (.int (x1*x1+69621*j+7)) (.int 2147483587) s'=.ok (.int x2) s':=by rw[<- hx2];exact kP s' (by decide)
    have a8:yP (.int m) (.int 2147483587) s'=.ok (.int (m*2147483587)) s':=kb s' (by omega) (zaf hm (by omega)) (by decide) (by decide +kernel);obtain⟨y,rfl⟩:=Int.eq_ofNat_of_zero_le c0;refine⟨[some (.int c),some (.int ((m*2147483587+y:Nat):Int)),some (.int j),some (.int y)],s',?_,m*2147483587+y,_,_,rfl,rfl,?_⟩;·simp[a1,a2,a3,a4,a5,a6,a7,a8]
    ·rw[_bx];exact pow_step hm (by omega)) [some (.int c),some (.int 0),none,none] s ⟨0,none,none,rfl,rfl,by decide⟩;exact⟨Z',s',by simpa using e,m,a,b,e1,e2⟩
  obtain⟨Z',s',e,m,a,b,rfl,rfl⟩:=lp;refine⟨m,?_⟩;have st:zD ["_law_cell","_law_number","_law_j","_law_more"] [.int c]=[some (.int c),none,none,none]:=rfl;simp only[xV,Mof,vX,st,_q,_H,_Z];rw[zr (Z':=[some (.int c),none,none,none]) (s':=s') (by simp[z9B,h])];rw[zr (Z':=[some (.int c),some (.int 0),none,none]) (s':=s') (by simp)];rw[zr e];simp[D.flat.flats,qQ,cap]
theorem xj.refl{s:Sto}{l:Nat}(h:Pot s l):xj s s l:=⟨h,rfl,λ_ _=>rfl⟩
theorem xj.trans{s s1 s2:Sto}{l:Nat}(a:xj s s1 l)(b:xj s1 s2 l):xj s s2 l:=⟨b.pot,by rw[b.len,a.len],λm h=>by rw[b.oth m h,a.oth m h]⟩
theorem kX{s:Sto}{l:Nat}{far:Int}{f g:FE}{Z:Ev}(h:Pot s l)(h0:0<far)(h1:far<2 ^ 2000)(hf:f Z s=.ok (.loc l) s)(hg:g Z s=.ok (.int far) s):∃r s',zd zx (za f (za g zg)) Z s=.ok (.int r) s'/\0<=r/\r<far/\xj s s' l:=by
 obtain⟨r,s',e,a,b,c⟩:=z5m h h0 h1;exact⟨r,s',by rw[call2 hf hg,e],a,b,c⟩
theorem uk{xs:List D}{i:Int}{d:D}{s:Sto}(h0:0<=i)(h:xs[i.toNat]? = some d):dIx (.lst xs) (.int i) s=.ok d s:=by
 have hj:i.toNat<xs.length:=(_b.mp h).1;have e:ixN xs.length i=some i.toNat:=by
  unfold ixN;rw[_o h0,_o (by omega)]
 simp only[dIx,zI,atI,e,_aq,h]
theorem z9f{xs:List D}{l:Nat}{i:Int}{d:D}{s:Sto}(hl:s[l]? = some xs)(h0:0<=i)(h:xs[i.toNat]? = some d):dIx (.loc l) (.int i) s=.ok d s:=by
 have hj:i.toNat<xs.length:=(_b.mp h).1;have e:ixN xs.length i=some i.toNat:=by
  unfold ixN;rw[_o h0,_o (by omega)]
 simp only[dIx,zI,hl,atI,e,_aq,h]
theorem z4l{fa fb fc:FE}{Z:Ev}{s s1 s2:Sto}{L:Nat}{xs:List Int}{i x:Int}(hc:fc Z s=.ok (.int x) s1)(ha:fa Z s1=.ok (.loc L) s1)(hb:fb Z s1=.ok (.int i) s2)(at_:s2[L]? = some (iL xs))(h0:0<=i)(h1:i<xs.length):z2n fa fb fc Z s=.ok (.nx Z) (s2.set L (iL (xs.set i.toNat x))):=by
 have e:ixN (iL xs).length i=some i.toNat:=by
  unfold ixN;rw[_o h0,_o (by simp;omega)]
 rw[z8z,hc,Rb,ha,Rb,hb,Rb];simp only[at_,e,qQ,_Z,iL,List.map_set]
def okD:Nat->D->Bool
 | _,.non=>true | _,.bl _=>true | _,.int _=>true | _,.str x=>PyData.strOk x | k+1,.tup xs=>xs.all (okD k) | k+1,.lst xs=>xs.all (okD k) | _,_=>false
theorem zbt{k:Nat}:∀(xs:List D),(∀x∈xs,PyData.canLay0 (zS x)=true/\PyData.depth (zS x)<=2*k+3/\PyData.eqv (zS x) (zS x)=true)->PyData.canLayAll0 (toPys xs)=true/\PyData.depthAll (toPys xs)<=2*k+4/\PyData.eqvAll (toPys xs) (toPys xs)=true
 | [],_=>⟨rfl,by simp[toPys,PyData.depthAll],by simp[toPys,PyData.eqvAll]⟩ | x::xs,h=>by
  have h1:=h x (by simp);have h2:=zbt xs λy hy=>h y (by simp[hy]);refine⟨by simp[toPys,PyData.canLayAll0,h1.1,h2.1],?_,by simp[toPys,PyData.eqvAll,h1.2.2,h2.2.2]⟩;simp only[toPys,PyData.depthAll];omega
theorem z58:∀(k:Nat)(d:D),okD k d=true->PyData.canLay0 (zS d)=true/\PyData.depth (zS d)<=2*k+3/\PyData.eqv (zS d) (zS d)=true:=by
 intro k;induction k with
 | zero=>
  intro d h;cases d with
  | str x=>simp only[okD]at h;simp[zS,PyData.canLay0,PyData.depth,PyData.eqv,h] | non=>simp[zS,PyData.canLay0,PyData.depth,PyData.eqv] | bl b=>simp[zS,PyData.canLay0,PyData.depth,PyData.eqv] | int i=>simp[zS,PyData.canLay0,PyData.depth,PyData.eqv] | _=>simp[okD]at h
 | succ k ih=>
  intro d h;cases d with
  | str x=>simp only[okD]at h;simp[zS,PyData.canLay0,PyData.depth,PyData.eqv,h] | non=>simp[zS,PyData.canLay0,PyData.depth,PyData.eqv] | bl b=>simp[zS,PyData.canLay0,PyData.depth,PyData.eqv] | int i=>simp[zS,PyData.canLay0,PyData.depth,PyData.eqv] | tup xs=>
   simp only[okD,_y]at h;have q:=zbt (k:=k) xs λx hx=>ih x (h x hx);refine⟨by simp only[zS,PyData.canLay0,q.1],?_,by simp only[zS,PyData.eqv,q.2.2]⟩;simp only[zS,PyData.depth];omega | lst xs=>
   simp only[okD,_y]at h;have q:=zbt (k:=k) xs λx hx=>ih x (h x hx);refine⟨by simp only[zS,PyData.canLay0,q.1],?_,by simp only[zS,PyData.eqv,q.2.2]⟩;simp only[zS,PyData.depth];omega | _=>simp[okD]at h
theorem z6S{k:Nat}{d:D}(h:okD k d=true)(hk:k<=10):uS d=true:=by
 have q:=z58 k d h;simp only[uS,SeqAt.shaped,q.1];simp;omega
theorem eq_self{k:Nat}{d:D}(h:okD k d=true)(hk:k<=10)(s:Sto):dEq d d s=.ok (.bl true) s:=by
 have q:=z58 k d h;have o:=z6S h hk;rw[dEq,_o ⟨o,o⟩];simp only[eqD,q.2.2]
theorem ne_self{k:Nat}{d:D}(h:okD k d=true)(hk:k<=10)(s:Sto):dNe d d s=.ok (.bl false) s:=by
 have q:=z58 k d h;have o:=z6S h hk;rw[dNe,_o ⟨o,o⟩];simp only[eqD,q.2.2];rfl
theorem z7S(k:Nat)(ns:List Int):(iL ns).all (okD k)=true:=by
 rw[_y];intro x hx;obtain⟨n,_,rfl⟩:=_r.mp hx;cases k<;>rfl
theorem z7m(k:Nat)(ns:List Int):okD (k+1) (rD ns)=true:=z7S k ns
theorem z9E(k:Nat)(T:Tb):okD (k+2) (tD T)=true:=by
 show (T.map rD).all (okD (k+1))=true;rw[_y];intro x hx;obtain⟨n,_,rfl⟩:=_r.mp hx;exact z7m k n
theorem z7x(k:Nat)(T:Tb):okD (k+2) (.lst (T.map rD))=true:=z9E k T
end Pg
namespace Pn
open L2 Dd Pm Pg
def isI:D->Bool
 | .int _=>true | _=>false
theorem kj{d:D}(h:(tyD d).isSome=true)(s:Sto):yc [d] s=.ok (.bl (isI d)) s:=by cases d<;>simp[tyD]at h<;>simp[yc,Mof,vV,zD,gIs,tyD,isT,isI]
def Kd:D->Prop
 | .tup xs=>∀x∈xs,(tyD x).isSome=true | .scr _=>False | d=>(tyD d).isSome=true
theorem Kd.ty{d:D}(h:Kd d):(tyD d).isSome=true:=by cases d<;>first | rfl | exact h | exact (show False from h).elim
theorem z2T{α:Type}(l:List α)(p:α->Bool)(s:Sto):z66 [.lst (l.map λx=>D.bl (p x))] s=.ok (.bl (l.all p)) s:=by
 have b:bools (l.map λx=>D.bl (p x))=some (l.map p):=by
  rw[show (l.map λx=>D.bl (p x))=(l.map p).map D.bl by rw[List.map_map];rfl];exact z1d _
 simp[z66,zI,b]
theorem z0C {xs:List D} (hk:∀x∈xs,(tyD x).isSome=true) (s:Sto) (h:xs.length<=1000):zu [.tup xs,.int xs.length] s=.ok (.bl (xs.all isI)) s:=by
 have st:zD ["thing","many"] [.tup xs,.int xs.length]=[some (.tup xs),some (.int xs.length)]:=rfl;simp only[zu,Mof,xk,st,_q,_H,_Z];rw[zr (Z':=[some (.tup xs),some (.int xs.length)]) (s':=s) (by simp[gIs,tyD,isT,yH,zI])];have c:=comp_map (fi:=zY (zc 0)) (mp:=[none]) (fg:=xC 0) (fe:=zd yc (za (zc 0) zg)) (Z:=[some (.tup xs),some (.int xs.length)]) (s:=s) (λx=>x) (λx=>D.bl (isI x)) (λx=>[some x]) xs (by simp) (λa _=>by simp) (λa ha=>by simp[kj (hk a ha)]) (by simp[cap];omega);simp only[vR,qq,wG,zj,xc,c,Rb,z2T]
end Pn
namespace Pm
theorem z1X{α:Type}{l:List α}{n:Nat}(hn:Sz n)(h:l.length=n):(n=2/\∃a b,l=[a,b])\/(n=3/\∃a b c,l=[a,b,c])\/(n=4/\∃a b c d,l=[a,b,c,d]):=by
 rcases hn with rfl | rfl | rfl;·obtain⟨a,b,rfl⟩:=z4o h;exact .inl ⟨rfl,a,b,rfl⟩
 ·obtain⟨a,b,c,rfl⟩:=z0q h;exact .inr (.inl ⟨rfl,a,b,c,rfl⟩)
 ·obtain⟨a,b,c,d,rfl⟩:=um h;exact .inr (.inr ⟨rfl,a,b,c,d,rfl⟩)
theorem jD:∀v:List Int,0<=dot v v
 | []=>by simp[dot] | a::v=>by
  have:=jD v;have h:0<=a*a:=by
   rcases _bw 0 a with q | q;·exact _bc q q
   ·exact _aA q q
  rw[dot_cons];omega
theorem z16{α β:Type}(f:α->β):∀(l:List α)(k:Nat),(l.eraseIdx k).map f=(l.map f).eraseIdx k
 | [],_=>by simp | a::l,0=>by simp | a::l,k+1=>by simp[z16 f l k]
end Pm
namespace Pg
open L2 Dd Pm
theorem vr{i:Nat}{Z:Ev}{s:Sto}{d:D}(h:Z[i]? = some (some d)):zc i Z s=.ok d s:=by rw[z31,h]
theorem z4d{f g:FS}{t:FT}{Z:Ev}{s:Sto}(h:t Z s=.ok false s):fIf t f g Z s=g Z s:=by rw[z4C,h,Rb,_I (by decide)]
theorem z1J{t u:FT}{Z:Ev}{s:Sto}(h:t Z s=.ok false s)(h2:u Z s=.ok false s):fOr t u Z s=.ok false s:=by rw[z6h,h,Rb,_I (by decide),h2]
theorem xu{f:FE}{Z:Ev}{s:Sto}{b:Bool}(h:f Z s=.ok (.bl b) s):tOf f Z s=.ok b s:=by rw[zaC,h];rfl
theorem z0L{t:FT}{Z:Ev}{s:Sto}(h:t Z s=.ok true s):kW t Z s=.ok false s:=by rw[z3m,h];rfl
theorem jB{n m k:Nat}{v u:List Int}{x:Int}(hv:z1D n m v)(hu:u.length=n)(hb:∀y∈u,y.natAbs<2 ^ k)(hm:m<=2000)(hk:k<=2000)(s:Sto):zH [rD v,rD u,.int x] s=.ok (.bl (decide (dot u v=x))) s:=by
 have w1:zu [rD u,.int n] s=.ok (.bl true) s:=by
  have:=qa u s (by have:=hv.sz;omega);rw[hu]at this;exact this
 have w2:yy [rD u,rD v] s=.ok (.int (dot u v)) s:=z08 s hb hv.abs hk hm (by have:=hv.sz;omega);have gl:yH [rD v] s=.ok (.int n) s:=by simp[yH,zI,hv.len]
 have key:∀d e:D,zu [e,.int n] s=.ok (.bl true) s->yy [e,d] s=.ok (.int (dot u v)) s->yH [d] s=.ok (.int n) s->zH [d,e,.int x] s=.ok (.bl (decide (dot u v=x))) s:=λd e a1 a2 a3=>by simp[zH,Mof,uD,zD,a1,a2,a3]
 exact key _ _ w1 w2 gl
theorem z0P{n m k:Nat}{v u:List Int}(hv:z1D n m v)(hu:u.length=n)(hb:∀y∈u,y.natAbs<2 ^ k)(hm:m<=2000)(hk:k<=2000)(s:Sto):zA [rD v,rD u] s=.ok (.bl (decide (dot u v=qD v))) s:=by
 have w1:=ya hv.toLot s;have w2:=z0I hv.toLot s;have w3:=jB (x:=qD v) hv hu hb hm hk s;have key:∀d e:D,zp [d] s=.ok .non s->xE [d] s=.ok (.int (qD v)) s->zH [d,e,.int (qD v)] s=.ok (.bl (decide (dot u v=qD v))) s->zA [d,e] s=.ok (.bl (decide (dot u v=qD v))) s:=λd e a1 a2 a3=>by simp[zA,Mof,wE,zD,a1,a2,a3]
 exact key _ _ w1 w2 w3
theorem vc{n m k:Nat}{v u:List Int}(hv:z1D n m v)(hu:u.length=n)(hb:∀y∈u,y.natAbs<2 ^ k)(hm:m<=2000)(hk:k<=2000)(s:Sto):zh [rD v,rD u] s=.ok (.bl (decide (dot u v=0))) s:=by
 have w1:=ya hv.toLot s;have w3:=jB (x:=0) hv hu hb hm hk s;have key:∀d e:D,zp [d] s=.ok .non s->zH [d,e,.int 0] s=.ok (.bl (decide (dot u v=0))) s->zh [d,e] s=.ok (.bl (decide (dot u v=0))) s:=λd e a1 a3=>by simp[zh,Mof,wH,zD,a1,a3]
 exact key _ _ w1 w3
end Pg
namespace Pm
end Pm
namespace Pg
open L2 Dd Pm
end Pg
namespace Pm
end Pm
namespace Pg
open L2 Dd Pm
theorem z3h{α:Type}{all:List D}{body:D->Sto->R (Option D)}(g:α->D)(P:Sto->Prop)(Q:D->Prop):∀(l:List α)(acc:List D)(s:Sto),(∀a∈l,∀s,P s->∃y s',body (g a) s=.ok (some y) s'/\Q y/\P s')->acc.length+l.length<=cap->P s->(∀y∈acc,Q y)->∃ys s',wo [] all body (l.map g) acc s=.ok ys s'/\ys.length=acc.length+l.length/\(∀y∈ys,Q y)/\P s'
 | [],acc,s,_,_,hP,hQ=>⟨acc,s,by simp[wo,okG],by simp,hQ,hP⟩ | x::xs,acc,s,hb,hl,hP,hQ=>by
  obtain⟨y,s1,e,hy,hP1⟩:=hb x (by simp) s hP;obtain⟨ys,s2,e2,h1,h2,h3⟩:=z3h (all:=all) g P Q xs (acc++[y]) s1 (λa ha=>hb a (by simp[ha])) (by simp at hl ⊢;omega) hP1 (by
   intro z hz;rcases _i.mp hz with hz | hz;·exact hQ z hz
   ·simp at hz;rw[hz];exact hy);refine⟨ys,s2,?_,by simp at h1 ⊢;omega,h2,h3⟩;rw[_L,wo,_o (by intro p hp;simp at hp),e];have hc:acc.length<cap:=by simp at hl;omega
  simp[hc,e2]
theorem z7K {α:Type} {fi:FI} {mp:List (Option Nat)} {fg:FG} {fe:FE} {Z:Ev} {s s0:Sto} (g:α->D) (ev:α->Ev) (P:Sto->Prop) (Q:D->Prop) (l:List α) (hi:fi Z s=.ok (l.map g,[]) s0) (hg:∀a∈l,∀s,fg (g a) (xy mp Z) s=.ok (ev a) s) (he:∀a∈l,∀s,P s->∃y s',fe (ev a) s=.ok y s'/\Q y/\P s') (hl:l.length<=cap) (hP:P s0): ∃ys s',zQ fi mp fg yJ fe Z s=.ok (.lst ys) s'/\ys.length=l.length/\(∀y∈ys,Q y)/\P s':=by
 obtain⟨ys,s',e,h1,h2,h3⟩:=z3h (all:=l.map g) (body:=λd s=>(fg d (xy mp Z) s).bind λZ' s1=>(yJ Z' s1).bind λt s2=>if t=true then (fe Z' s2).bind λy s3=>.ok (some y) s3 else .ok none s2) g P Q l [] s0 (λa ha s hP=>by
  obtain⟨y,s',e,hq,hp⟩:=he a ha s hP;exact⟨y,s',by simp[hg a ha s,e],hq,hp⟩) (by simpa using hl) hP (by simp);refine⟨ys,s',?_,by simpa using h1,h2,h3⟩;rw[vF,kc,hi,Dd.R.bind_ok];rw[e];rfl
theorem z4i{ar:FA}{Z:Ev}{s s1:Sto}{n:Nat}(hn:n<=1000)(h:ar Z s=.ok [.int n] s1):z2K ar Z s=.ok ((List.range n).map λk:Nat=>D.int ((k:Nat):Int),[]) s1:=by
 rw[z7j,h,Dd.R.bind_ok];simp only;rw[_o ⟨by omega,by omega⟩];simp[yK]
end Pg
namespace Pn
open L2 Dd Pm Pg
def yB(n:Nat):D->Bool
 | .tup ys=>decide (ys.length=n)&&ys.all isI | _=>false
theorem uh{x:D}{n:Nat}(hk:Kd x)(hn:n<=1000)(s:Sto):zu [x,.int n] s=.ok (.bl (yB n x)) s:=by cases x with
 | tup ys=>
  by_cases h:ys.length=n
  ·subst h;rw[z0C hk s hn];simp[yB]
  ·have h':¬ ((ys.length:Int)=n):=by omega
   simp[zu,Mof,xk,zD,gIs,tyD,isT,yH,zI,h',yB,h] | scr _=>exact hk.elim | _=>
  have hd:=hk.ty;first
  | (exfalso;simp[tyD]at hd;done) | simp[zu,Mof,xk,zD,gIs,tyD,isT,yB]
end Pn
namespace Pm
open L2 (maxL minL maxL_ge maxL_mem minL_le minL_mem)
end Pm
namespace Pg
open L2 Dd Pm
end Pg
namespace Po
open L2 Dd Pm Pg Pn
section
end
end Po
namespace Pr
open L2 Dd Pm Pg Pn Po
end Pr
namespace Pn
open L2 Dd Pm Pg
end Pn
namespace Po
open L2 Dd Pm Pg Pn
open PySem.Builtin.Str
end Po
namespace Po
open L2 Dd Pm Pg Pn
theorem z5E{α:Type}{G:List (Nat×List D)}{all:List D}{body:D->Sto->R (Option D)}{s:Sto}(og:okG G all s)(g f:α->D):∀(l:List α)(acc:List D),(∀x∈l,body (g x) s=.ok (some (f x)) s)->acc.length+l.length<=cap->wo G all body (l.map g) acc s=.ok (acc++l.map f) s
 | [],acc,_,_=>by simp[wo,og] | x::xs,acc,hb,hl=>by
  have ih:=z5E (all:=all) og g f xs (acc++[f x]) (λy hy=>hb y (by simp[hy])) (by simp at hl ⊢;omega);have hc:acc.length<cap:=by simp at hl;omega
  rw[_L,wo,_o og,hb x (by simp),Rb];simp only[_o hc,ih];simp
theorem z1h{α:Type}{G:List (Nat×List D)}{fi:FI}{mp:List (Option Nat)}{fg:FG}{fe:FE}{Z:Ev}{s:Sto}(g f:α->D)(ev:α->Ev)(l:List α) (hi:fi Z s=.ok (l.map g,G) s)(og:okG G (l.map g) s)(hg:∀a∈l,fg (g a) (xy mp Z) s=.ok (ev a) s)(he:∀a∈l,fe (ev a) s=.ok (f a) s)(hl:l.length<=cap): zQ fi mp fg yJ fe Z s=.ok (.lst (l.map f)) s:=by
 rw[vF,kc,hi,Rb];rw[z5E og g f l [] (by
  intro a ha;simp only[hg a ha,Rb];show (R.ok true s).bind _=_;simp[he a ha]) (by simpa using hl)];rfl
end Po
namespace Pr
open L2 Dd Pm Pg Pn Po
open PySem.W
end Pr
namespace Dd
open L2 PySem.W Pm Pr
end Dd
namespace Pg
open L2 Dd
end Pg
namespace Dd
open L2
end Dd
namespace L2
open LCg
end L2
namespace Dd
open L2
def z1o:List D->Sto->R D
 | [d],s=>match zI s d with
  | some xs=>if D.flat.flats xs=true then .ok (.loc s.length) (s++[xs]) else .no | none=>.no
 | _,_=>.no
def noL:D->Bool
 | .non=>true | .bl _=>true | .int _=>true | .str _=>true | .tup xs=>noLs xs | .dct=>true | _=>false
where noLs:List D->Bool
 | []=>true | x::xs=>noL x&&noLs xs
def uG(d:D):Bool:=PyData.showable (zS d)&&decide ((zS d).depth<=30)&&decide ((zS d).shown.length<=sizeLine)&&(PyData.canLay0 (zS d)||noL d||(match d with | .lst xs=>noL.noLs xs | _=>false))
def z3I:List D->Sto->R D
 | [d],s=>if uG d=true then .ok (.str (zS d).shown) s else .no | _,_=>.no
def z7l(x y:D)(s:Sto):R D:=match (zI s y).bind z1k with
 | some l=>if uS x=true then .ok (.bl (l.any λi=>eqD (.int i) x)) s else .no | none=>.no
section
variable {P:Program}{w:World}{mg:Gm}{H:Hp}{Y:List Addr}{h:Heap}
mutual
theorem z1L(ok:HOk P w H h):∀{d:D}{v:V}{u:Value},noL d=true->Den mg H Y d v->xL v u->∃as,Reads h u (zS d) as/\sysModules∉as
 | .non,_,_,_,dn,r=>by simp only[Den]at dn;subst dn;cases r;exact⟨[],by simpa[zS] using Reads.none,by simp⟩ | .bl b,_,_,_,dn,r=>by simp only[Den]at dn;subst dn;cases r;exact⟨[],by simpa[zS] using Reads.bool b,by simp⟩ | .int i,_,_,_,dn,r=>by simp only[Den]at dn;subst dn;obtain⟨t,rfl⟩:=r;exact⟨[],by simpa[zS] using Reads.int i t,by simp⟩ | .str x,_,_,_,dn,r=>by simp only[Den]at dn;subst dn;obtain⟨t,rfl⟩:=r;exact⟨[],by simpa[zS] using Reads.str x t,by simp⟩ | .tup ds,_,_,c,dn,r=>by
  simp only[Den]at dn;obtain⟨a,vs,rfl,h1,h2⟩:=dn;cases r;obtain⟨_,its,rv,o,e,hc,_,n,hd⟩:=ok a _ h1;obtain⟨as,q,nm⟩:=uE ok (by simpa[noL] using c) h2 rv;rw[zS];exact⟨as,Reads.tuple e hc hd (by simpa using q),nm⟩ | .dct,_,_,c,dn,r=>by
  simp only[Den]at dn;obtain⟨a,rfl,h1⟩:=dn;cases r;obtain⟨_,ns,vs,kv,o,es,ep,e,ex,hd,he⟩:=ok a _ h1;cases kv;have z:es.toList=[]:=by
   obtain⟨_,pr,_⟩:=he;exact _w (by rw[pr.length];rfl)
  have hne:sysModules≠a:=λq=>by rw[<- q]at ns;simp at ns
  refine⟨[a]++[],?_,by simpa using hne⟩;show Reads h (.ref a) (.dict []) _;exact Reads.dict e ex.1 hd (by rw[z];exact ReadsAll.nil) (by rw[z];exact ReadsAll.nil) | .lst _,_,_,c,_,_=>by simp[noL]at c | .loc _,_,_,c,_,_=>by simp[noL]at c | .dlo _,_,_,c,_,_=>by simp[noL]at c | .fn _,_,_,c,_,_=>by simp[noL]at c | .exc _,_,_,c,_,_=>by simp[noL]at c | .scr _,_,_,c,_,_=>by simp[noL]at c
theorem uE(ok:HOk P w H h):∀{ds:List D}{vs:List V}{us:List Value},noL.noLs ds=true->zv mg H Y ds vs->yC vs us->∃as,ReadsAll h us (toPys ds) as/\sysModules∉as
 | [],_,_,_,dn,r=>by simp only[zv]at dn;subst dn;cases r;exact⟨[],by simpa[toPys] using ReadsAll.nil,by simp⟩ | d::ds,_,_,c,dn,r=>by
  simp only[zv]at dn;obtain⟨v,vs,rfl,h1,h2⟩:=dn;simp only[noL.noLs,_m]at c;cases r with | cons r1 r2=>
   obtain⟨as,q,n1⟩:=z1L ok c.1 h1 r1;obtain⟨bs,q',n2⟩:=uE ok c.2 h2 r2;rw[toPys];exact⟨_,ReadsAll.cons q q',by simp only[_i,not_or];exact⟨n1,n2⟩⟩
end
end
section
variable {X:Cx}{E:XK}
theorem z8M:∃r,yM X (.type "list") r/\vZ X E r z1o:=⟨_,qu,λH Y s ds vs Q r hd h=>by
 unfold z1o at h;split at h
 ·split at h
  ·rename_i d xs e;split at h
   ·rename_i hf;obtain⟨v,rfl,dn⟩:=uj hd;obtain⟨a,ws,rfl,q1,q2⟩:=xT (K:=X.K) r e dn;exact⟨a,ws,rfl,q1,z2H r h hf q2⟩
   ·exact h.elim
  ·exact h.elim
 ·exact h.elim⟩
theorem z2M {A:Around} {P:Program} {w:World} {E:Value->Shared->Prop} {s:Shared} {u:Value} {p:PyData} {as:List Addr} {Q:Value->Shared->Prop} (hg:A.guards=some []) (hu:A.units+64<cLine) (rd:Reads s.heap u p as) (hs:p.showable=true) (hdp:p.depth<=30) (hz:p.shown.length<=sizeLine) (hsm:p.hasDict=true->sysModules∉as) (fin:∀h' t tk,(∀b o,s.heap.get? b=some o->h'.get? b=some o)->Q (.str p.shown t) {s with heap:=h',toks:=tk}):wpAny (model P w) A (call (.builtin "repr") [u]) Q E s:=by cases u with
 | ref a=>exact repr_of_reads' rd hs hsm hg (by omega) (λ_ _ e=>e) fin hz | none=>cases rd;exact PySem.P.repr_of_none (by simpa only [PyData.shown] using fin s.heap s.toks _ λ_ _ e=>e) | bool b=>cases rd;exact PySem.P.repr_of_bool (by simpa only [PyData.shown] using fin s.heap s.toks _ λ_ _ e=>e) | int i t=>cases rd;exact PySem.P.repr_of_int (by simpa[PyData.showable] using hs) (by simpa only [PyData.shown] using fin s.heap s.toks _ λ_ _ e=>e) | str x t=>cases rd;exact PySem.P.repr_of_str (by simpa only [PyData.shown] using fin s.heap s.toks _ λ_ _ e=>e) (by simpa only [PyData.shown] using hz) | _=>cases rd
theorem z6g {A:Around} {P:Program} {w:World} {E:Value->Shared->Prop} {s:Shared} {a:Addr} {o:Obj} {n:Nat} {its:List Value} {ps:List PyData} {as:List Addr} {Q:Value->Shared->Prop} (hg:A.guards=some []) (hu:A.units+64<cLine) (e:s.heap.get? a=some o) (oc:o.cls=.type "list") (od:o.data=.seq its.toArray n) (rd:ReadsAll s.heap its ps as) (hs:PyData.showableAll ps=true) (hdp:(PyData.list ps).depth<=30) (hz:(PyData.list ps).shown.length<=sizeLine) (hsm:sysModules∉as) (fin:∀h' t tk,(∀b o,s.heap.get? b=some o->h'.get? b=some o)->Q (.str (PyData.list ps).shown t) {s with heap:=h',toks:=tk}):wpAny (model P w) A (call (.builtin "repr") [.ref a]) Q E s:=by
 have hz':(listText (PyData.shownAll ps)).length<=sizeLine:=by simpa only [PyData.shown] using hz
 have whole:Reads s.heap (.ref a) (.list ps) (a::as):=.list e oc od (by simpa using rd);obtain⟨bs,hb,hk⟩:=ReprAllK.of_readsAll (prog:=P) (w:=w) rd hs (λ_=>hsm) (λt ht=>_B (listText_mem_le ht) hz');have away:a∉bs:=not_mem_of_deeper whole (by simp only[PyData.depth];omega) hb;simp only[PyData.depth]at hdp;have hu1:A.in1.units+(PyData.depthAll ps+1)<cLine:=by show A.units+1+(PyData.depthAll ps+1)<cLine;omega
 refine call_repr_slot (by omega) ⟨o,e,oc⟩ F.slot_list_repr.toG ?_;simp only[PyData.shown]at fin;cases its with
 | nil=>
  cases rd;refine call_list_repr_empty ⟨o,e,oc⟩ e od ⟨_,_,rfl,?_⟩;have:=fin s.heap s.toks (s.toks+1) λ_ _ e=>e;simpa only [PyData.shownAll,listText_nil] using this | cons x l=> exact call_list_reprK e oc od away (by simpa using hk.length_eq) (λi y q=>hk.item i y (by simpa using q)) hg (λb _=>Clear.nil b) hu1 (λ_ _ q=>q) (λh' t tk k=>⟨_,_,rfl,fin h' t tk k⟩) hz'
theorem z3O (hg:X.A.guards=some []) (hu:X.A.units+64<cLine):yM X (.builtin "repr") (λxs H Q=>∃Y d v,xs=[v]/\Den (gm X) H Y d v/\uG d=true/\Q (.str (zS d).shown) H):=by
 intro pins s O H xs us Q I r h;obtain⟨Y,d,v,rfl,dn,ok,q⟩:=h;obtain⟨u,rfl,ru⟩:=vals1 r;simp only[uG,_m,Bool.or_eq_true,_M]at ok;obtain⟨⟨⟨hs,hdp⟩,hz⟩,hk⟩:=ok;have fin:∀h' t tk,(∀b o,s.heap.get? b=some o->h'.get? b=some o)->EP X pins O Q (.str (zS d).shown t) {s with heap:=h',toks:=tk}:=λh' t tk k=> ⟨.str (zS d).shown,H,I.kept k,⟨t,rfl⟩,q⟩;rcases hk with (hk | hk) | hk
 ·obtain⟨as,rd⟩:=Den.reads I.hok hk dn ru;exact z2M hg hu rd hs hdp hz (PyData.noDict_hsm (PyData.hasDict_of_canLay _ hk)) fin
 ·obtain⟨as,rd,nm⟩:=z1L I.hok hk dn ru;exact z2M hg hu rd hs hdp hz (λ_=>nm) fin
 ·split at hk
  ·rename_i xs;simp only[Den]at dn;obtain⟨a,o,vs,rfl,h1,h2⟩:=dn;cases ru;obtain⟨_,_,its,n,rv,e⟩:=I.hok a _ h1;obtain⟨as,rd,nm⟩:=uE I.hok hk h2 rv;rw[zS]at hs hdp hz fin;exact z6g hg hu e rfl rfl rd (by simpa[PyData.showable] using hs) hdp hz nm fin
  ·cases hk
theorem z6U(hg:X.A.guards=some [])(hu:X.A.units+64<cLine):∃r,yM X (.builtin "repr") r/\vZ X E r z3I:=⟨_,z3O hg hu,λH Y s ds vs Q r hd h=>by
 unfold z3I at h;split at h
 ·split at h
  ·rename_i d hok;obtain⟨v,rfl,dn⟩:=uj hd;exact⟨Y,d,v,rfl,dn,hok,h.here r (by simp[Den])⟩
  ·exact h.elim
 ·exact h.elim⟩
theorem z5h:bootBuiltins "repr"=some (.builtin "repr"):=by decide +kernel
def z7n(x:D):Value->Bool
 | .int i _=>eqD (.int i) x | _=>false
theorem z2y{x:D}:∀{l:List Int}{us:List Value},yC (l.map V.int) us->us.any (z7n x)=l.any λi=>eqD (.int i) x
 | [],_,r=>by cases r;rfl | i::l,us,r=>by cases r with | cons r1 r2=>
   obtain⟨t,rfl⟩:=r1;rw[List.any_cons,List.any_cons,z2y r2];rfl
theorem z28 {A:Around} {s:Shared} {x:D} {v:Value} {bs:List Addr} (rb:Reads s.heap v (zS x) bs) (hx:uS x=true) (hu:A.units+2<cLine):∀{l:List Int} {us:List Value},yC (l.map V.int) us->∀u∈us,SeqAt.EqAt A s u v (z7n x u)
 | [],_,r=>λu hu=>by cases r;cases hu | i::l,us,r=>λu hm=>by cases r with | cons r1 r2=>
   obtain⟨t,rfl⟩:=r1;rcases _p.mp hm with rfl | hm;·exact SeqAt.eqAt_reads (.int i) (zS x) A s _ _ _ _ (Reads.int i t) rb rfl (_W hx) (by have:min (PyData.int i).depth (zS x).depth<=(PyData.int i).depth:=Nat.min_le_left _ _;simp only[PyData.depth]at this;simp only[PyData.depth];omega)
   ·exact z28 rb hx hu r2 u hm
theorem z9a (hu:X.A.units+64<cLine):OpR X (compareOp .In) (λx y H Q=>∃Y d p,∃l:List Int,Den (gm X) H Y d x/\uS d=true/\y=.ref p/\(SqL X.K H p (l.map V.int)\/SqT X.K H p (l.map V.int))/\Q (.bl (l.any λi=>eqD (.int i) d)) H):=by
 intro pins s O H x y v u Q I rx ry h;obtain⟨Y,d,p,l,dn,ok,rfl,hq,q⟩:=h;cases ry;obtain⟨bs,rb⟩:=Den.reads I.hok (_W ok) dn rx;have hu':X.A.in1.units+2<cLine:=by have:X.A.in1.units=X.A.units+1:=rfl;omega
 rcases hq with hq | hq
 ·obtain⟨its,r,pl,hz⟩:=I.list hq;refine SeqAt.in_listAt (z7n d) pl.isList (λw hw=>z28 rb ok hu' r w (by simpa using hw)) ⟨.bl _,H,I,rfl,?_⟩;rw[show its.toArray.any (z7n d)=its.any (z7n d) by simp,z2y r];exact q
 ·obtain⟨its,r,pl,hz⟩:=I.tuple hq;refine SeqAt.in_tupleAt (z7n d) pl (λw hw=>z28 rb ok hu' r w (by simpa using hw)) ⟨.bl _,H,I,rfl,?_⟩;rw[show its.toArray.any (z7n d)=its.any (z7n d) by simp,z2y r];exact q
theorem z1a{mg:Gm}{H:Hp}{Y:List Addr}:∀{l:List Int}{vs:List V},zv mg H Y (l.map D.int) vs->vs=l.map V.int
 | [],_,h=>by simpa[zv] using h | i::l,_,h=>by
  simp only[_L,zv]at h;obtain⟨v,r,rfl,h1,h2⟩:=h;rw[yf h1,z1a h2];rfl
theorem zas(hu:X.A.units+64<cLine):∃r,OpR X (compareOp .In) r/\OpF X E r z7l:=⟨_,z9a hu,λH Y s d1 d2 v1 v2 Q r h1 h2 h=>by
 unfold z7l at h;split at h
 ·rename_i l e1;split at h
  ·rename_i ok;cases e3:zI s d2 with
   | none=>rw[e3]at e1;cases e1 | some xs=>
    rw[e3]at e1;obtain⟨a,ws,rfl,q1,q2⟩:=xT (K:=X.K) r e3 h2;have e4:z1k xs=some l:=e1;rw[z3e e4]at q2;cases z1a q2;exact⟨Y,d1,a,l,h1,ok,rfl,q1,h.here r yY⟩
  ·exact h.elim
 ·exact h.elim⟩
theorem zaD:OpR X (compareOp .NotEq) (λx y H Q=>∃a b:Str,x=.str a/\y=.str b/\Q (.bl (a.cps.toList != b.cps.toList)) H):=by
 intro pins s O H x y v u Q I rx ry ⟨a,b,e1,e2,q⟩;subst e1 e2;obtain⟨t,rfl⟩:=rx;obtain⟨t',rfl⟩:=ry;exact P.ne_str ⟨.bl _,H,I,rfl,q⟩
def zaM:D->D->Sto->R D
 | .str a,.str b,s=>.ok (.bl (a.cps.toList != b.cps.toList)) s | _,_,_=>.no
theorem zbw:∃r,OpR X (compareOp .NotEq) r/\OpF X E r zaM:=⟨_,zaD,λH Y s d1 d2 v1 v2 Q r h1 h2 h=>by
 unfold zaM at h;split at h
 ·cases z1Y h1;cases z1Y h2;exact⟨_,_,rfl,rfl,h.here r yY⟩
 ·exact h.elim⟩
end
end Dd
namespace K93
open L2 Dd Pg
@[simp] def vx:FS:=(va 1 (z8f zg))
@[simp] def xX:FS:=(qG (z7h (zc 1) (eOp yL (eOp yL (eSl (zc 0) zt (yg (zc 2))) (wq (za (eOp dEq (zc 3) (eC (.int 1))) zg))) (eSl (zc 0) (yg (eOp yL (zc 2) (eC (.int 1)))) zt))))
@[simp] def xl:FS:=(fIf (tOf (eOp z7l (zc 3) (wq (za (eC (.int 0)) (za (eC (.int 1)) zg))))) xX wM)
@[simp] def wm:FS:=(z5I (z22 (za (zc 0) zg)) (jQ 2 3) xl)
@[simp] def wn:FS:=(va 4 (zd zM (za (zQ (zY (zc 0)) [none] (xC 0) yJ (eIf (tOf (eOp z7l (zc 0) (wq (za (eC (.int 0)) (za (eC (.int 1)) zg))))) (eOp dEq (zc 0) (eC (.int 1))) (zc 0))) zg)))
@[simp] def we:FS:=(wO (eOp yL (zc 1) (eOp z8T (wz (za (zc 4) zg)) (zd z4c (za (z4F (eOp (z0w true) (zc 4) (wq zg)) (eOp (z0w true) (zc 1) (wz zg))) zg)))))
def vP:FS:=(zX vx (zX wm (zX wn we)))
def yp:Mir:=z44 (Mof ["_law_row","_law_found","_law_at","_law_one","_law_whole"] 1 vP)
@[simp] def vg:FS:=(va 1 (eOp yL (zd yp (za (zc 0) zg)) (wz (za (zd z1G (za (zc 0) zg)) (za (eOp yL (zc 0) (wq (za (eC (.int 0)) zg))) (za (eSl (zc 0) zt (yg (z3d (eC (.int 1))))) (za (wq zg) (za (eC .non) (za (eC .dct) (za (eC (.int 0)) (za (eC (.bl true)) (za (eC (.str "0")) zg))))))))))))
@[simp] def wU:FS:=(wO (eOp yL (zc 1) (wz (za (eOp yL (eSl (zc 0) zt (yg (z3d (eC (.int 1))))) (wq (za (eC .non) zg))) (za (eOp yL (eSl (zc 0) zt (yg (z3d (eC (.int 1))))) (wq (za (eC (.str "0")) zg))) (za (eOp yL (eSl (zc 0) zt (yg (z3d (eC (.int 1))))) (wq (za (wq (za (eC (.int 0)) zg)) zg))) (za (eOp yL (eSl (zc 0) zt (yg (z3d (eC (.int 1))))) (wq (za (wz (za (eC (.int 0)) zg)) zg))) (za (wz (za (zc 0) zg)) zg))))))))
def qj:FS:=(zX vg wU)
def zB:Mir:=Mof ["_law_row","_law_found"] 1 qj
@[simp] def xO:FS:=(zaO 2 3 (za (zd z1o (za (zc 1) zg)) (za (z8f zg) zg)))
@[simp] def yw:FS:=(va 4 (z3b (zc 2) (zd Pg.zx (za (zc 0) (za (zd yH (za (zc 2) zg)) zg)))))
@[simp] def yr:FS:=(va 5 (eOp dIx (wz (za (eC (.int 1)) (za (z3d (eC (.int 1))) zg))) (zd Pg.zx (za (zc 0) (za (eC (.int 2)) zg)))))
@[simp] def yu:FS:=(qG (z7h (zc 3) (zd zM (za (zQ (zY (zc 4)) [some 5,none] (xC 1) yJ (eOp yP (zc 0) (zc 1))) zg))))
@[simp] def vo:FS:=(z02 (tOf (eOp (z0w true) (zc 2) (wz zg))) (zX yw (zX yr yu)))
@[simp] def qI:FS:=(wO (zc 3))
def vw:FS:=(zX xO (zX vo qI))
def xb:Mir:=Mof ["_law_pot_here","_law_rows","_law_left","_law_found","_law_row","_law_sign"] 2 vw
@[simp] def xg:FS:=(va 4 (zd z3I (za (zc 3) zg)))
@[simp] def qC:FS:=(wO (eC (.bl false)))
@[simp] def xf:FS:=(fIf (fOr (tOf (eOp qt (z1I (eOp dIx (wz (za (eC (.fn "are_weights")) (za (eC (.fn "is_relation")) (za (eC (.fn "is_base")) (za (eC (.fn "is_showing")) zg))))) (zc 0)) [("are_weights",Pg.zA),("is_relation",Pg.zh),("is_base",Pg.zG),("is_showing",Pg.zo)] (za (zc 1) (za (zc 3) zg))) (eC (.bl false)))) (tOf (eOp zaM (zd z3I (za (zc 3) zg)) (zc 4)))) qC wM)
@[simp] def vn:FS:=(z5I (zY (zc 2)) (xC 3) (zX xg xf))
@[simp] def qH:FS:=(wO (eC (.bl true)))
def vt:FS:=(zX vn qH)
def zK:Mir:=Mof ["_law_kind","_law_lot","_law_things","_law_thing","_law_kept"] 3 vt
@[simp] def yO:FS:=(va 3 (z64 (zd xb (za (zc 0) (za (zc 2) zg)))))
@[simp] def yT:FS:=(va 4 (zd z1G (za (zc 3) zg)))
@[simp] def vJ:FS:=(wO (eC (.bl false)))
@[simp] def yQ:FS:=(fIf (fOr (tOf (eOp qt (zd Pg.zG (za (zc 1) (za (zc 3) zg))) (eC (.bl true)))) (tOf (eOp dNe (zc 3) (zc 4)))) vJ wM)
@[simp] def yU:FS:=(va 5 (zd Pg.zx (za (zc 0) (za (zd yH (za (zc 2) zg)) zg))))
@[simp] def yN:FS:=(va 6 (zQ (zY (zd zB (za (eOp dIx (zc 3) (zc 5)) zg))) [some 3,some 5,none] (xC 2) yJ (eOp yL (eOp yL (eSl (zc 0) zt (yg (zc 1))) (wz (za (zc 2) zg))) (eSl (zc 0) (yg (eOp yL (zc 1) (eC (.int 1)))) zt))))
@[simp] def yV:FS:=(va 6 (eOp z3M (zc 6) (wz (za (zd zM (za (zc 3) zg)) (za (eOp yL (zc 3) (eSl (zc 3) zt (yg (eC (.int 1))))) (za (eSl (zc 3) (yg (eC (.int 1))) zt) (za (wz zg) (za (eC .non) (za (eC .dct) (za (zQ (zY (zc 3)) [none] (xC 0) yJ (wz (za (zc 0) zg))) zg))))))))))
@[simp] def yS:FS:=(qG (z7h (zc 6) (eOp yL (eOp yL (eSl (zc 3) zt (yg (zc 5))) (wz (za (zd zM (za (zQ (zY (eOp dIx (zc 3) (zc 5))) [none] (xC 0) yJ (eOp yP (eC (.int 2)) (zc 0))) zg)) zg))) (eSl (zc 3) (yg (eOp yL (zc 5) (eC (.int 1)))) zt))))
@[simp] def yR:FS:=(wO (zd zK (za (eC (.int 2)) (za (zc 1) (za (zc 6) zg)))))
def wj:FS:=(zX yO (zX yT (zX yQ (zX yU (zX yN (zX yV (zX yS yR)))))))
def zN:Mir:=z44 (Mof ["_law_pot_here","_law_lot","_law_rows","_law_some","_law_kept","_law_at","_law_things"] 3 wj)
@[simp] def z0g:FS:=(va 2 (zd Pg.xV (za (zd Pg.yx (za (zc 0) (za (zc 1) zg))) zg)))
@[simp] def z0V:FS:=(va 3 (eOp yL (eC (.int 2)) (zd Pg.zx (za (zc 2) (za (eC (.int 3)) zg)))))
@[simp] def z0J:FS:=(zaR (wq (za (zd Pg.zx (za (zc 2) (za (zc 3) zg))) (za (eOp yL (eC (.int 1)) (zd Pg.zx (za (zc 2) (za (eOp dIx (wz (za (eC (.int 1)) (za (eC (.int 9)) (za (eOp z3L (eC (.int 10)) (eC (.int 15))) zg)))) (zd Pg.zx (za (zc 2) (za (eC (.int 3)) zg)))) zg)))) zg))) (jQ 4 5))
@[simp] def z0s:FS:=(va 6 (qe (z2K (za (zc 3) zg)) [some 2,none] (xC 1) yJ (zd Pg.zx (za (zc 0) (za (eOp dIx (wz (za (eC (.int 2)) (za (eC (.int 4)) (za (eOp z3L (eC (.int 10)) (eC (.int 14))) zg)))) (zd Pg.zx (za (zc 0) (za (eC (.int 3)) zg)))) zg)))))
@[simp] def z0x:FS:=(z2n (zc 6) (zc 4) (eC (.int 1)))
@[simp] def z0G:FS:=(va 7 (zd zM (za (zQ (zY (zc 6)) [some 5,none] (xC 1) yJ (eOp yP (zc 0) (zc 1))) zg)))
@[simp] def z0D:FS:=(va 8 (zd zM (za (zQ (z2K (za (zc 3) zg)) [some 4,none] (xC 1) yJ (zd z4c (za (eOp dEq (zc 1) (zc 0)) zg))) zg)))
@[simp] def z0B:FS:=(va 9 (z8f zg))
@[simp] def z0K:FS:=(va 11 (qe (z2K (za (zc 3) zg)) [some 10,none] (xC 1) yJ (zd z4c (za (eOp dEq (zc 1) (zc 0)) zg))))
@[simp] def z0U:FS:=(z2n (zc 11) (zc 4) (eOp z25 (eC (.int 0)) (eOp dIx (zc 6) (zc 10))))
@[simp] def z0O:FS:=(qG (z7h (zc 9) (zd zM (za (zc 11) zg))))
@[simp] def vE:FS:=(fIf (tOf (eOp dNe (zc 10) (zc 4))) (zX z0K (zX z0U z0O)) wM)
@[simp] def qP:FS:=(z5I (z2K (za (zc 3) zg)) (xC 10) vE)
@[simp] def z6N:FS:=(wO (eC (.bl false)))
@[simp] def qZ:FS:=(fIf (fOr (tOf (eOp qt (zd Pg.zA (za (zc 7) (za (zc 8) zg))) (eC (.bl true)))) (kW (tOf (zd zK (za (eC (.int 0)) (za (zc 7) (za (zd zB (za (zc 8) zg)) zg))))))) z6N wM)
@[simp] def z6s:FS:=(wO (eC (.bl false)))
@[simp] def z0r:FS:=(fIf (fOr (tOf (eOp qt (zd Pg.zh (za (zc 7) (za (zc 11) zg))) (eC (.bl true)))) (kW (tOf (zd zK (za (eC (.int 1)) (za (zc 7) (za (zd zB (za (zc 11) zg)) zg))))))) z6s wM)
@[simp] def qT:FS:=(z5I (zY (eOp yL (zc 9) (wz (za (eOp z4x (wq (za (eC (.int 0)) zg)) (zc 3)) zg)))) (xC 11) z0r)
@[simp] def qY:FS:=(va 12 (wq (za (zc 5) (za (zd zM (za (zc 6) zg)) (za (zc 8) zg)))))
@[simp] def z6A:FS:=(wO (eC (.bl false)))
@[simp] def jg:FS:=(fIf (fOr (tOf (eOp qt (zd Pg.zo (za (zc 7) (za (zc 12) zg))) (eC (.bl true)))) (kW (tOf (zd zN (za (zc 2) (za (zc 7) (za (zc 9) zg))))))) z6A wM)
@[simp] def qU:FS:=(va 13 (zQ (zY (zd zB (za (zd zM (za (zc 6) zg)) zg))) [some 5,some 8,none] (xC 2) yJ (wq (za (zc 0) (za (zc 2) (za (zc 1) zg))))))
@[simp] def jh:FS:=(va 13 (eOp yL (eOp yL (zc 13) (zQ (zY (zd zB (za (zc 8) zg))) [some 5,some 6,none] (xC 2) yJ (wq (za (zc 0) (za (zd zM (za (zc 1) zg)) (za (zc 2) zg)))))) (zd zB (za (zc 12) zg))))
@[simp] def jd:FS:=(va 13 (eOp z3M (zc 13) (wz (za (wq (za (eOp dEq (zc 5) (eC (.int 1))) (za (zd zM (za (zc 6) zg)) (za (zc 8) zg)))) (za (wq (za (eOp z25 (eC (.int 0)) (zc 5)) (za (zd zM (za (zc 6) zg)) (za (zc 8) zg)))) zg)))))
@[simp] def qR:FS:=(va 14 (zQ (zY (wq (za (zc 6) (za (zc 8) zg)))) [none] (xC 0) yJ (zd zM (za (zQ (zY (zc 0)) [none] (xC 0) yJ (eOp z25 (eC (.int 0)) (zc 0))) zg))))
@[simp] def qO:FS:=(qG (z7h (zc 13) (wq (za (eOp z25 (eC (.int 0)) (zc 5)) (za (eOp dIx (zc 14) (eC (.int 0))) (za (eOp dIx (zc 14) (eC (.int 1))) zg))))))
@[simp] def z6C:FS:=(wO (eC (.bl false)))
@[simp] def qN:FS:=(fIf (kW (tOf (zd zK (za (eC (.int 3)) (za (zc 7) (za (zc 13) zg)))))) z6C wM)
@[simp] def z2g:FS:=(z5I (z2K (za (zd z6v (za (eC (.int 1)) (za (zd z6M (za (zd yH (za (zc 0) zg)) (za (eC (.int 6)) zg))) zg))) zg)) (xC 1) (zX z0g (zX z0V (zX z0J (zX z0s (zX z0x (zX z0G (zX z0D (zX z0B (zX qP (zX qZ (zX qT (zX qY (zX jg (zX qU (zX jh (zX jd (zX qR (zX qO qN)))))))))))))))))))
@[simp] def z2Z:FS:=(wO (eC (.bl true)))
def z6W:FS:=(zX z2g z2Z)
def z8p:Mir:=Mof ["_law_script","_law_k","_law_pot_here","_law_size","_law_at","_law_least","_law_often","_law_lot","_law_ones","_law_rows","_law_other","_law_row","_law_shown","_law_things","_law_minus"] 1 z6W
end K93
set_option maxHeartbeats 6000000
namespace K93
open L2 Dd Pg
structure Txt(mg:Str->Option Value):Prop where
 f0:∃t,mg "LEAST_SIZE"=some (.int 2 t)
 f1:∃t,mg "MOST_SIZE"=some (.int 4 t)
 f2:mg "abs"=none
 f3:mg "all"=none
 f4:mg "bool"=none
 f5:mg "enumerate"=none
 f6:mg "int"=none
 f7:mg "isinstance"=none
 f8:mg "len"=none
 f9:mg "list"=none
 f10:mg "max"=none
 f11:mg "min"=none
 f12:mg "range"=none
 f13:mg "repr"=none
 f14:mg "sum"=none
 f15:mg "tuple"=none
 f16:mg "zip"=none
theorem z98:bootBuiltins "abs"=some (.builtin "abs"):=by decide +kernel
theorem z6T:bootBuiltins "all"=some (.builtin "all"):=by decide +kernel
theorem z8r:bootBuiltins "bool"=some (.type "bool"):=by decide +kernel
theorem z37:bootBuiltins "int"=some (.type "int"):=by decide +kernel
theorem wN:bootBuiltins "len"=some (.builtin "len"):=by decide +kernel
theorem z0u:bootBuiltins "list"=some (.type "list"):=by decide +kernel
theorem z70:bootBuiltins "max"=some (.builtin "max"):=by decide +kernel
theorem z7k:bootBuiltins "min"=some (.builtin "min"):=by decide +kernel
theorem z7b:bootBuiltins "sum"=some (.builtin "sum"):=by decide +kernel
theorem zW:bootBuiltins "tuple"=some (.type "tuple"):=by decide +kernel
theorem zd4:(["_law_pot_here","_law_place"]:List Str).Nodup:=by decide +kernel
theorem zcx:(["_law_least","_law_number"]:List Str).Nodup:=by decide +kernel
theorem zd0:(["_law_at","_law_place"]:List Str).Nodup:=by decide +kernel
theorem zdg:(["_law_other","_law_place"]:List Str).Nodup:=by decide +kernel
theorem zcz:(["_law_least","_law_ones","_law_bad"]:List Str).Nodup:=by decide +kernel
theorem zcJ:(["_law_least","_law_often","_law_bad"]:List Str).Nodup:=by decide +kernel
theorem zch:(["_law_row"]:List Str).Nodup:=by decide +kernel
theorem zbh:(["_law_one"]:List Str).Nodup:=by decide +kernel
theorem zd2:(["one","other"]:List Str).Nodup:=by decide +kernel
theorem zd1:(["part"]:List Str).Nodup:=by decide +kernel
theorem zb0:(["_law_some","_law_at","_law_bad"]:List Str).Nodup:=by decide +kernel
theorem zc1:(["divisor","quotient"]:List Str).Nodup:=by decide +kernel
theorem zbM:(["lot","line"]:List Str).Nodup:=by decide +kernel
theorem zaW:(["lines","column","number"]:List Str).Nodup:=by decide +kernel
theorem zbd:(["at_column","line"]:List Str).Nodup:=by decide +kernel
theorem zc2:(["_law_sign","_law_one"]:List Str).Nodup:=by decide +kernel
section
local macro_rules | `(tactic| trivial)=>`(tactic| exact⟨rfl,rfl,rfl,by decide +kernel,rfl,by decide +kernel,by decide +kernel⟩)
theorem z2q:zJ ["thing"] ["thing"] (zk vY):=by trivial
theorem z2v:zJ ["thing"] ["thing"] (zk vW):=by trivial
theorem vh:zJ ["one","other"] ["one","other"] (zk xN):=by trivial
theorem z2e:zJ ["line","numbers"] ["line","numbers"] (zk vS):=by trivial
theorem kU:zJ ["lines","at_line","at_column","kept"] ["lines","at_line","at_column"] (zk uV):=by trivial
theorem z3w:zJ ["line","column"] ["line","column"] (zk uU):=by trivial
theorem jv:zJ ["_law_script","_law_k"] ["_law_script","_law_k"] (zk xZ):=by trivial
theorem xA:zJ ["_law_cell","_law_number","_law_j","_law_more"] ["_law_cell"] (zk uc):=by trivial
theorem qg:zJ ["_law_pot_here","_law_far","_law_found"] ["_law_pot_here","_law_far"] (zk vD):=by trivial
theorem xF:zJ ["_law_row","_law_found","_law_at","_law_one","_law_whole"] ["_law_row"] (zk wx):=by trivial
theorem z0z:zJ ["thing","many"] ["thing","many"] (zk wT):=by trivial
theorem z1S:zJ ["lines"] ["lines"] (zk wt):=by trivial
theorem qo:zJ ["_law_row","_law_found"] ["_law_row"] (zk vv):=by trivial
theorem xo:zJ ["_law_pot_here","_law_rows","_law_left","_law_found","_law_row","_law_sign"] ["_law_pot_here","_law_rows"] (zk wk):=by trivial
theorem z4u:zJ ["thing"] ["thing"] (zk kg):=by trivial
theorem z3E:zJ ["lot","thing","number"] ["lot","thing","number"] (zk uH):=by trivial
theorem z23:zJ ["thing"] ["thing"] (zk vT):=by trivial
theorem ui:zJ ["lot","divisor","number"] ["lot"] (zk jq):=by trivial
theorem kF:zJ ["lot","thing"] ["lot","thing"] (zk wI):=by trivial
theorem ug:zJ ["lot","thing","divisor","quotients","line"] ["lot","thing"] (zk vb):=by trivial
theorem kw:zJ ["lot","thing"] ["lot","thing"] (zk wy):=by trivial
theorem z3U:zJ ["lot","thing"] ["lot","thing"] (zk uA):=by trivial
theorem wg:zJ ["_law_kind","_law_lot","_law_things","_law_thing","_law_kept"] ["_law_kind","_law_lot","_law_things"] (zk wc):=by trivial
theorem zP:zJ ["_law_pot_here","_law_lot","_law_rows","_law_some","_law_kept","_law_at","_law_things"] ["_law_pot_here","_law_lot","_law_rows"] (zk xh):=by trivial
theorem xJ:zJ ["_law_script","_law_k","_law_pot_here","_law_size","_law_at","_law_least","_law_often","_law_lot","_law_ones","_law_rows","_law_other","_law_row","_law_shown","_law_things","_law_minus"] ["_law_script"] (zk kJ):=by trivial
end
section
variable {P:Program}{w:World}{K:W.Frag}{mg:Str->Option Value}{base:Heap}(T:Txt mg){f:Addr}{fd:FuncData}
include T
local macro_rules | `(tactic| trivial)=>`(tactic| first | exact (λ_ _ _ _ _ _ us hl=>match us,hl with | [_],_=>rfl) | exact (λ_ _ _ _ _ _ us hl=>match us,hl with | [_,_],_=>rfl) | exact (λ_ _ _ _ _ _ us hl=>match us,hl with | [_,_,_],_=>rfl))
theorem z1B(F:Fun K "is_whole" "is_whole" vY f fd)(hm:mg "is_whole"=some (.ref f))  : Has P w K mg base CX0 "is_whole" 1 Pg.yc:= (yA F hm (F.binds (ps:=["thing"]) (by trivial)) z2q rfl λcdv A outer s H E hr hc=> have hu:=hr.units;(zy (ym (z40 (z8U (by decide) z37 (by rfl) T.f7 (by rfl) T.f6 (zb 0)) (z3N (zbi (z8U (by decide) z8r (by rfl) T.f7 (by rfl) T.f4 (zb 0))))))))
theorem z1v (F:Fun K "has_size" "has_size" vW f fd) (hm:mg "has_size"=some (.ref f))  : Has P w K mg base CX0 "has_size" 1 Pg.xU:= (yA F hm (F.binds (ps:=["thing"]) (by trivial)) z2v rfl λcdv A outer s H E hr hc=> have hu:=hr.units;(zy (ym (z40 (z8U (by decide) zW (by rfl) T.f7 (by rfl) T.f15 (zb 0)) (z3N (z8d zaY zaY (zcr (by rfl) T.f0) (zV uC (by rfl) T.f8 wN (aN (zb 0) zf) (he:=(zm ..))) (zcr (by rfl) T.f1)))))))
theorem uX(F:Fun K "common_of_two" "common_of_two" xN f fd)(hm:mg "common_of_two"=some (.ref f))  : Has P w K mg base CX0 "common_of_two" 1 Pg.yF:= (yA F hm (F.binds (ps:=["one","other"]) (by trivial)) vh rfl λcdv A outer s H E hr hc=> have hu:=hr.units;(zi (z4B _al (xi (z8S hu) (zb 1) zq) (zy (zar 0 1 hc vh.nd (aN (zb 1) (aB (zE z3H (zb 0) (zb 1)) zf))))) (zy (ym (zb 0)))))
theorem z1N (F:Fun K "together" "together" vS f fd) (hm:mg "together"=some (.ref f))  : Has P w K mg base CX0 "together" 1 Pg.yy:= (yA F hm (F.binds (ps:=["line","numbers"]) (by trivial)) z2e rfl λcdv A outer s H E hr hc=> have hu:=hr.units;(zy (ym (zV (zad (by exact hc)) (by rfl) T.f14 z7b (aO (xq ["one","other"] [none,none] (by exact hc) (zb1 (by rfl) T.f16 (aN (zb 0) (aN (zb 1) zf))) (λ_ _ _=>z35 0 1 (by exact hc) zd2) (z2G 0 1 (by decide) (by rfl) (by rfl)) (λ_ _ _=>yn) (λ_ _ _=>(zE wQ (zb 0) (zb 1)))) zf) (he:=(yk ..))))))
theorem z24 (F:Fun K "without" "without" uV f fd) (hm:mg "without"=some (.ref f))  : Has P w K mg base CX0 "without" 1 Pg.yZ:= (yA F hm (F.binds (ps:=["lines","at_line","at_column"]) (by trivial)) kU rfl λcdv A outer s H E hr hc=> have hu:=hr.units;(zi (xB 3 kU.nd (zE yI (yG (zb 0) xI (xK (zb 1))) (yG (zb 0) (xK (zE yI (zb 1) zq)) xI))) (zy (ym (zZ yW (by rfl) T.f15 zW (aO (xq ["at_column","line"] [some 2,none] (by exact hc) (vB (zb 3)) (λ_ _ _=>zU (i:=1) zbd (by rfl) (by first | exact Or.inl rfl | exact Or.inr rfl)) (yd 1 (by rfl)) (λ_ _ _=>yn) (λ_ _ _=>(zE yI (yG (zb 1) xI (xK (zb 0))) (yG (zb 1) (xK (zE yI (zb 0) zq)) xI)))) zf) (he:=(yk ..)))))))
theorem z2m(F:Fun K "sign_at" "sign_at" uU f fd)(hm:mg "sign_at"=some (.ref f))  : Has P w K mg base CX0 "sign_at" 1 Pg.xp:= (yA F hm (F.binds (ps:=["line","column"]) (by trivial)) z3w rfl λcdv A outer s H E hr hc=> have hu:=hr.units;(zy (ym (zc7 (xi (z5G hu) (zE z3H (zE yI (zb 0) (zb 1)) zq) zq) zq (z2d zq)))))
theorem qJ (F:Fun K "_law_cell_at" "_law_cell_at" xZ f fd) (hm:mg "_law_cell_at"=some (.ref f))  : Has P w K mg base CX0 "_law_cell_at" 1 Pg.yx:= (yA F hm (F.binds (ps:=["_law_script","_law_k"]) (by trivial)) jv rfl λcdv A outer s H E hr hc=> have hu:=hr.units;(zi (z0Y (xi zda (zb 1) (zV uC (by rfl) T.f8 wN (aN (zb 0) zf) (he:=(zm ..)))) (zy (ym (z2C (zb 0) (zb 1)))) xx) (zy (ym zq))))
theorem z1H(F:Fun K "_law_pot" "_law_pot" uc f fd)(hm:mg "_law_pot"=some (.ref f))  : Has P w K mg base CX0 "_law_pot" 1 Pg.xV:= (yA F hm (F.binds (ps:=["_law_cell"]) (by trivial)) xA rfl λcdv A outer s H E hr hc=> have hu:=hr.units;(zi (z0Y (xi zcm (zb 0) (zE z6k zq zq)) (zy (ym (z5k (aB (zE z3P (zb 0) (zE z6k zq zq)) zf)))) xx) (zi (xB 1 xA.nd zq) (zi (z2p _al hc (uF (by rfl) T.f12 (aK zq zf)) (z0a 2 xA.nd) (zi (xB 3 xA.nd (zE z3H (zE wQ (zE yI (zE yI (zE z3H (zb 0) zq) (zE wQ zq (zb 2))) zq) zq) zq)) (zi (xB 3 xA.nd (zE z3H (zE yI (zE yI (zE wQ (zb 3) (zb 3)) (zE wQ zq (zb 2))) zq) zq)) (zy (xB 1 xA.nd (zE yI (zE wQ (zb 1) zq) (zb 3))))))) (zy (ym (z5k (aN (zb 1) zf))))))))
theorem z0f(F:Fun K "_law_take" "_law_take" vD f fd)(hm:mg "_law_take"=some (.ref f))  : Has P w K mg base CX0 "_law_take" 1 Pg.zx:= (yA F hm (F.binds (ps:=["_law_pot_here","_law_far"]) (by trivial)) qg rfl λcdv A outer s H E hr hc=> have hu:=hr.units;(zi (xB 2 qg.nd (zE z3H (z2C (zb 0) zq) (zb 1))) (zi (z54 (zE za6 (z2C (zb 0) zq) (zb 1)) (zb 0) zq) (zy (ym (zb 2))))))
theorem km (F:Fun K "_law_truths" "_law_truths" wx f fd) (hm:mg "_law_truths"=some (.ref f))  : Has P w K mg base CX0 "_law_truths" 1 yp:= (yA F hm (F.binds (ps:=["_law_row"]) (by trivial)) xF rfl λcdv A outer s H E hr hc=> have hu:=hr.units;(zi (xB 1 xF.nd (z5k zf)) (zi (z2p _al hc (z7o (by rfl) T.f5 (aN (zb 0) zf)) (z71 2 3 hc xF.nd) (zy (z0Y (xi (zas hu) (zb 3) (ww (aK zq (aK zq zf)))) (zy (vQ (uw (zb 1) (zE yI (zE yI (yG (zb 0) xI (xK (zb 2))) (ww (aM (vj (z5G hu) (zb 3) zq) zf))) (yG (zb 0) (xK (zE yI (zb 2) zq)) xI))))) xx))) (zi (xB 4 xF.nd (zZ yW (by rfl) T.f15 zW (aO (xq ["_law_one"] [none] (by exact hc) (vB (zb 0)) (λ_ _ _=>zU (i:=0) zbh (by rfl) (by first | exact Or.inl rfl | exact Or.inr rfl)) (yd 0 (by rfl)) (λ_ _ _=>yn) (λ_ _ _=>(zc7 (xi (zas hu) (zb 0) (ww (aK zq (aK zq zf)))) (vj (z5G hu) (zb 0) zq) (zb 0)))) zf) (he:=(yk ..)))) (zy (ym (zE yI (zb 1) (zE zbD (vq (aN (zb 4) zf)) (zZ z81 (by rfl) T.f6 z37 (aV (z40 (vj (z8s hu) (zb 4) (ww zf)) (z3N (vj (z8s hu) (zb 1) (vq zf)))) zf) (he:=(z1K ..))))))))))).tidy
theorem kA (F:Fun K "are_wholes" "are_wholes" wT f fd) (hm:mg "are_wholes"=some (.ref f)) (H_is_whole:Has P w K mg base CX0 "is_whole" 1 Pg.yc):Has P w K mg base CX0 "are_wholes" 2 Pg.zu:= (yA F hm (F.binds (ps:=["thing","many"]) (by trivial)) z0z rfl λcdv A outer s H E hr hc=> have hu:=hr.units;(zi (z0Y (RW.rt (z5o (uN (uI (z8U (by decide) zW (by rfl) T.f7 (by rfl) T.f15 (zb 0)))) (kB (xi (z8S hu) (zV uC (by rfl) T.f8 wN (aN (zb 0) zf) (he:=(zm ..))) (zb 1))))) (zy (ym z01)) xx) (zy (ym (zV (z9R (by exact hc)) (by rfl) T.f3 z6T (aO (xq ["part"] [none] (by exact hc) (vB (zb 0)) (λ_ _ _=>zU (i:=0) zd1 (by rfl) (by first | exact Or.inl rfl | exact Or.inr rfl)) (yd 0 (by rfl)) (λ_ _ _=>yn) (λ_ _ _=>(xP H_is_whole hr zR (aN (zb 0) zf)))) zf) (he:=(yk ..)))))))
theorem xD (F:Fun K "number_of" "number_of" wt f fd) (hm:mg "number_of"=some (.ref f)) (H_without:Has P w K mg base CX0 "without" 1 Pg.yZ) (H_sign_at:Has P w K mg base CX0 "sign_at" 1 Pg.xp) (k:Nat) (Hr:Has P w K mg base CX0 "number_of" (k+1) (Pg.zT k)):Has P w K mg base CX0 "number_of" (k+1+1) (Pg.zT (k+1)):= (yA F hm (F.binds (ps:=["lines"]) (by trivial)) z1S rfl λcdv A outer s H E hr hc=> have hu:=hr.units;(zi (z0Y (xi (z5G hu) (zV uC (by rfl) T.f8 wN (aN (zb 0) zf) (he:=(zm ..))) zq) (zy (ym (z2C (z2C (zb 0) zq) zq))) xx) (zy (ym (zV (zad (by exact hc)) (by rfl) T.f14 z7b (aO (xq ["lines","column","number"] [some 0,none,none] (by exact hc) (z7o (by rfl) T.f5 (aS (z2C (zb 0) zq) zf)) (λ_ _ _=>z35 1 2 (by exact hc) zaW) (z2G 1 2 (by decide) (by rfl) (by rfl)) (λ_ _ _=>yn) (λ_ _ _=>(zE wQ (zE wQ (z3g H_sign_at (hr.mono (by omega)) zR (by rfl) (aK zq (aN (zb 1) zf))) (zb 2)) (z3g Hr hr zR (by rfl) (aQ (z3g H_without (hr.mono (by omega)) zR (by rfl) (aN (zb 0) (aK zq (aN (zb 1) zf)))) zf) (he:=(wJ ..)))))) zf) (he:=(yk ..)))))))
theorem z0y(F:Fun K "number_of" "number_of" wt f fd)(hm:mg "number_of"=some (.ref f))(H_without:Has P w K mg base CX0 "without" 1 Pg.yZ)(H_sign_at:Has P w K mg base CX0 "sign_at" 1 Pg.xp):Has P w K mg base CX0 "number_of" 5 Pg.wf:= (xD T F hm H_without H_sign_at 3 (xD T F hm H_without H_sign_at 2 (xD T F hm H_without H_sign_at 1 (xD T F hm H_without H_sign_at 0 ((zao F hm (F.binds (ps:=["lines"]) (by trivial))).mono (by decide))))))
theorem z0Q (F:Fun K "_law_none" "_law_none" vv f fd) (hm:mg "_law_none"=some (.ref f)) (H__law_truths:Has P w K mg base CX0 "_law_truths" 1 yp):Has P w K mg base CX0 "_law_none" 2 zB:= (yA F hm (F.binds (ps:=["_law_row"]) (by trivial)) qo rfl λcdv A outer s H E hr hc=> have hu:=hr.units;(zi (xB 1 qo.nd (zE yI (xP H__law_truths hr zR (aN (zb 0) zf)) (vq (aQ (zZ z75 (by rfl) T.f9 z0u (aN (zb 0) zf) (he:=(zm ..))) (aB (zE yI (zb 0) (ww (aK zq zf))) (aS (yG (zb 0) xI (xK (z2d zq))) (aT (ww zf) (aK z8G (xG z91 (aK zq (aK z01 (aK zap zf))) (by rfl)))))))))) (zy (ym (zE yI (zb 1) (vq (aB (zE yI (yG (zb 0) xI (xK (z2d zq))) (ww (aK z8G zf))) (aB (zE yI (yG (zb 0) xI (xK (z2d zq))) (ww (aK zap zf))) (aB (zE yI (yG (zb 0) xI (xK (z2d zq))) (ww (aT (ww (aK zq zf)) zf))) (aB (zE yI (yG (zb 0) xI (xK (z2d zq))) (ww (aL (vq (aK zq zf)) zf))) (aL (vq (aN (zb 0) zf)) zf)))))))))))
theorem qE (F:Fun K "_law_ordered" "_law_ordered" wk f fd) (hm:mg "_law_ordered"=some (.ref f)) (H__law_take:Has P w K mg base CX0 "_law_take" 1 Pg.zx):Has P w K mg base CX0 "_law_ordered" 2 xb:= (yA F hm (F.binds (ps:=["_law_pot_here","_law_rows"]) (by trivial)) xo rfl λcdv A outer s H E hr hc=> have hu:=hr.units;(zi (zar 2 3 hc xo.nd (aQ (zZ z8M (by rfl) T.f9 z0u (aN (zb 1) zf) (he:=(zm ..))) (aL (z5k zf) zf))) (zi (z4B _al (xi (z8s hu) (zb 2) (vq zf)) (zi (xB 4 xo.nd (z8I (zb 2) (xP H__law_take hr zR (aN (zb 0) (aQ (zV uC (by rfl) T.f8 wN (aN (zb 2) zf) (he:=(zm ..))) zf))))) (zi (xB 5 xo.nd (z2C (vq (aK zq (aU (z2d zq) zf))) (xP H__law_take hr zR (aN (zb 0) (aK zq zf))))) (zy (vQ (uw (zb 3) (zZ yW (by rfl) T.f15 zW (aO (xq ["_law_sign","_law_one"] [some 5,none] (by exact hc) (vB (zb 4)) (λ_ _ _=>zU (i:=1) zc2 (by rfl) (by first | exact Or.inl rfl | exact Or.inr rfl)) (yd 1 (by rfl)) (λ_ _ _=>yn) (λ_ _ _=>(zE wQ (zb 0) (zb 1)))) zf) (he:=(yk ..))))))))) (zy (ym (zb 3))))))
theorem z3u (F:Fun K "is_lot" "is_lot" kg f fd) (hm:mg "is_lot"=some (.ref f)) (H_has_size:Has P w K mg base CX0 "has_size" 1 Pg.xU) (H_are_wholes:Has P w K mg base CX0 "are_wholes" 2 Pg.zu):Has P w K mg base CX0 "is_lot" 3 Pg.wX:= (yA F hm (F.binds (ps:=["thing"]) (by trivial)) z4u rfl λcdv A outer s H E hr hc=> have hu:=hr.units;(zi (z0Y (RW.rt (z5o (uN (uI (xP H_has_size hr zR (aN (zb 0) zf)))) (kB (uN (uI (xP H_are_wholes hr zR (aN (zb 0) (aQ (zV uC (by rfl) T.f8 wN (aN (zb 0) zf) (he:=(zm ..))) zf)))))))) (zy (ym z01)) xx) (zy (ym (z40 (vj zcm (zV (z9i (by exact hc)) (by rfl) T.f11 z7k (aN (zb 0) zf) (he:=(zm ..))) zq) (z3N (vj zde (zV (z9A (by exact hc)) (by rfl) T.f10 z70 (aN (zb 0) zf) (he:=(zm ..))) zq)))))))
theorem z21 (F:Fun K "come_to" "come_to" uH f fd) (hm:mg "come_to"=some (.ref f)) (H_together:Has P w K mg base CX0 "together" 1 Pg.yy) (H_are_wholes:Has P w K mg base CX0 "are_wholes" 2 Pg.zu):Has P w K mg base CX0 "come_to" 3 Pg.zH:= (yA F hm (F.binds (ps:=["lot","thing","number"]) (by trivial)) z3E rfl λcdv A outer s H E hr hc=> have hu:=hr.units;(zy (ym (z40 (xP H_are_wholes hr zR (aN (zb 1) (aQ (zV uC (by rfl) T.f8 wN (aN (zb 0) zf) (he:=(zm ..))) zf))) (z3N (vj (z5G hu) (xP H_together hr zR (aN (zb 1) (aN (zb 0) zf))) (zb 2)))))))
theorem z1P(F:Fun K "want_lot" "want_lot" vT f fd)(hm:mg "want_lot"=some (.ref f))(H_is_lot:Has P w K mg base CX0 "is_lot" 3 Pg.wX):Has P w K mg base CX0 "want_lot" 4 Pg.zp:= (yA F hm (F.binds (ps:=["thing"]) (by trivial)) z23 rfl λcdv A outer s H E hr hc=> have hu:=hr.units;(zy (z0Y (uN (uI (xP H_is_lot hr zR (aN (zb 0) zf)))) (zy z7C) xx)))
theorem z3Z(F:Fun K "common" "common" jq f fd)(hm:mg "common"=some (.ref f))(H_common_of_two:Has P w K mg base CX0 "common_of_two" 1 Pg.yF)(H_want_lot:Has P w K mg base CX0 "want_lot" 4 Pg.zp):Has P w K mg base CX0 "common" 5 Pg.xE:= (yA F hm (F.binds (ps:=["lot"]) (by trivial)) ui rfl λcdv A outer s H E hr hc=> have hu:=hr.units;(zi (vQ (xP H_want_lot hr zR (aN (zb 0) zf))) (zi (xB 1 ui.nd zq) (zi (z2p _al hc (vB (zb 0)) (z0a 2 ui.nd) (zy (xB 1 ui.nd (xP H_common_of_two hr zR (aN (zb 1) (aN (zb 2) zf)))))) (zy (ym (zb 1)))))))
theorem jP(F:Fun K "is_relation" "is_relation" wI f fd)(hm:mg "is_relation"=some (.ref f))(H_come_to:Has P w K mg base CX0 "come_to" 3 Pg.zH)(H_want_lot:Has P w K mg base CX0 "want_lot" 4 Pg.zp):Has P w K mg base CX0 "is_relation" 5 Pg.zh:= (yA F hm (F.binds (ps:=["lot","thing"]) (by trivial)) kF rfl λcdv A outer s H E hr hc=> have hu:=hr.units;(zi (vQ (xP H_want_lot hr zR (aN (zb 0) zf))) (zy (ym (xP H_come_to hr zR (aN (zb 0) (aN (zb 1) (aK zq zf))))))))
theorem ku (F:Fun K "is_showing" "is_showing" vb f fd) (hm:mg "is_showing"=some (.ref f)) (H_is_whole:Has P w K mg base CX0 "is_whole" 1 Pg.yc) (H_are_wholes:Has P w K mg base CX0 "are_wholes" 2 Pg.zu) (H_come_to:Has P w K mg base CX0 "come_to" 3 Pg.zH) (H_want_lot:Has P w K mg base CX0 "want_lot" 4 Pg.zp):Has P w K mg base CX0 "is_showing" 5 Pg.zo:= (yA F hm (F.binds (ps:=["lot","thing"]) (by trivial)) ug rfl λcdv A outer s H E hr hc=> have hu:=hr.units;(zi (vQ (xP H_want_lot hr zR (aN (zb 0) zf))) (zi (z0Y (RW.rt (z5o (uN (uI (z8U (by decide) zW (by rfl) T.f7 (by rfl) T.f15 (zb 1)))) (kB (xi (z8S hu) (zV uC (by rfl) T.f8 wN (aN (zb 1) zf) (he:=(zm ..))) zq)))) (zy (ym z01)) xx) (zi (z90 (zb 1) (zbq 2 3 4 hc ug.nd)) (zi (z0Y (RW.rt (z5o (uN (uI (xP H_is_whole hr zR (aN (zb 2) zf)))) (z5o (xi zaY (zb 2) zq) (kB (uN (uI (xP H_are_wholes hr zR (aN (zb 3) (aQ (zV uC (by rfl) T.f8 wN (aN (zb 0) zf) (he:=(zm ..))) zf))))))))) (zy (ym z01)) xx) (zy (ym (z40 (vj (z5G hu) (zZ yW (by rfl) T.f15 zW (aO (xq ["divisor","quotient"] [some 2,none] (by exact hc) (vB (zb 3)) (λ_ _ _=>zU (i:=1) zc1 (by rfl) (by first | exact Or.inl rfl | exact Or.inr rfl)) (yd 1 (by rfl)) (λ_ _ _=>yn) (λ_ _ _=>(zE wQ (zb 0) (zb 1)))) zf) (he:=(yk ..))) (zb 0)) (z3N (xP H_come_to hr zR (aN (zb 0) (aN (zb 4) (aN (zb 2) zf)))))))))))))
theorem jJ(F:Fun K "are_weights" "are_weights" wy f fd)(hm:mg "are_weights"=some (.ref f))(H_come_to:Has P w K mg base CX0 "come_to" 3 Pg.zH)(H_want_lot:Has P w K mg base CX0 "want_lot" 4 Pg.zp)(H_common:Has P w K mg base CX0 "common" 5 Pg.xE):Has P w K mg base CX0 "are_weights" 6 Pg.zA:= (yA F hm (F.binds (ps:=["lot","thing"]) (by trivial)) kw rfl λcdv A outer s H E hr hc=> have hu:=hr.units;(zi (vQ (xP H_want_lot hr zR (aN (zb 0) zf))) (zy (ym (xP H_come_to hr zR (aN (zb 0) (aN (zb 1) (aQ (xP H_common hr zR (aN (zb 0) zf)) zf))))))))
theorem z2u (F:Fun K "is_base" "is_base" uA f fd) (hm:mg "is_base"=some (.ref f)) (H_together:Has P w K mg base CX0 "together" 1 Pg.yy) (H_number_of:Has P w K mg base CX0 "number_of" 5 Pg.wf) (H_want_lot:Has P w K mg base CX0 "want_lot" 4 Pg.zp) (H_common:Has P w K mg base CX0 "common" 5 Pg.xE) (H_is_relation:Has P w K mg base CX0 "is_relation" 5 Pg.zh):Has P w K mg base CX0 "is_base" 6 Pg.zG:= (yA F hm (F.binds (ps:=["lot","thing"]) (by trivial)) z3U rfl λcdv A outer s H E hr hc=> have hu:=hr.units;(zi (vQ (xP H_want_lot hr zR (aN (zb 0) zf))) (zi (z0Y (RW.rt (z5o (uN (uI (z8U (by decide) z0u (by rfl) T.f7 (by rfl) T.f9 (zb 1)))) (kB (xi (z8S hu) (zV uC (by rfl) T.f8 wN (aN (zb 1) zf) (he:=(zm ..))) (zE z3P (zV uC (by rfl) T.f8 wN (aN (zb 0) zf) (he:=(zm ..))) zq))))) (zy (ym z01)) xx) (zi (z0Y (uN (uI (zV (z9R (by exact hc)) (by rfl) T.f3 z6T (aO (xq ["lot","line"] [some 0,none] (by exact hc) (vB (zb 1)) (λ_ _ _=>zU (i:=1) zbM (by rfl) (by first | exact Or.inl rfl | exact Or.inr rfl)) (yd 1 (by rfl)) (λ_ _ _=>yn) (λ_ _ _=>(xP H_is_relation hr zR (aN (zb 0) (aN (zb 1) zf))))) zf) (he:=(yk ..))))) (zy (ym z01)) xx) (zy (ym (vj (z5G hu) (zE wQ (zV zbV (by rfl) T.f2 z98 (aQ (xP H_number_of hr zR (aB (zE yI (ww (aN (zb 0) zf)) (zZ yW (by rfl) T.f15 zW (aN (zb 1) zf) (he:=(zm ..)))) zf) (he:=(z2R ..))) zf) (he:=(wJ ..))) (xP H_common hr zR (aN (zb 0) zf))) (xP H_together hr zR (aN (zb 0) (aN (zb 0) zf))))))))))
theorem qw (F:Fun K "_law_refused" "_law_refused" wc f fd) (hm:mg "_law_refused"=some (.ref f)) (H_is_relation:Has P w K mg base CX0 "is_relation" 5 Pg.zh) (H_is_showing:Has P w K mg base CX0 "is_showing" 5 Pg.zo) (H_are_weights:Has P w K mg base CX0 "are_weights" 6 Pg.zA) (H_is_base:Has P w K mg base CX0 "is_base" 6 Pg.zG):Has P w K mg base CX0 "_law_refused" 7 zK:= (yA F hm (F.binds (ps:=["_law_kind","_law_lot","_law_things"]) (by trivial)) wg rfl λcdv A outer s H E hr hc=> have hu:=hr.units;(zi (z2p _al hc (vB (zb 2)) (z0a 3 wg.nd) (zi (xB 4 wg.nd (zV (z6U hr.gd hu) (by rfl) T.f13 z5h (aN (zb 3) zf) (he:=(zm ..)))) (zy (z0Y (RW.rt (z5o (xi ke (z8P (n:=6) (ur (Has.mono H_are_weights (by decide)) (ur (Has.mono H_is_relation (by decide)) (ur (Has.mono H_is_base (by decide)) (ur (Has.mono H_is_showing (by decide)) z5Q)))) (hr.mono (by decide)) zR (z2C (vq (xG (z6G H_are_weights (by rfl)) (xG (z6G H_is_relation (by rfl)) (xG (z6G H_is_base (by rfl)) (xG (z6G H_is_showing (by rfl)) zf (zm ..)) (zm ..)) (zm ..)) (zm ..))) (zb 0)) (aN (zb 1) (aN (zb 3) zf)) (he:=(zm ..))) z01) (kB (xi zbw (zV (z6U hr.gd hu) (by rfl) T.f13 z5h (aN (zb 3) zf) (he:=(zm ..))) (zb 4))))) (zy (ym z01)) xx)))) (zy (ym z01))))
theorem vI (F:Fun K "_law_bases_right" "_law_bases_right" xh f fd) (hm:mg "_law_bases_right"=some (.ref f)) (H__law_take:Has P w K mg base CX0 "_law_take" 1 Pg.zx) (H__law_none:Has P w K mg base CX0 "_law_none" 2 zB) (H__law_ordered:Has P w K mg base CX0 "_law_ordered" 2 xb) (H_is_base:Has P w K mg base CX0 "is_base" 6 Pg.zG) (H__law_refused:Has P w K mg base CX0 "_law_refused" 7 zK):Has P w K mg base CX0 "_law_bases_right" 8 zN:= (yA F hm (F.binds (ps:=["_law_pot_here","_law_lot","_law_rows"]) (by trivial)) zP rfl λcdv A outer s H E hr hc=> have hu:=hr.units;(zi (xB 3 zP.nd (zaq (xP H__law_ordered hr zR (aN (zb 0) (aN (zb 2) zf))))) (zi (xB 4 zP.nd (zZ z75 (by rfl) T.f9 z0u (aN (zb 3) zf) (he:=(zm ..)))) (zi (z0Y (RW.rt (z5o (xi ke (xP H_is_base hr zR (aN (zb 1) (aN (zb 3) zf))) z01) (kB (xi (z8S hu) (zb 3) (zb 4))))) (zy (ym z01)) xx) (zi (xB 5 zP.nd (xP H__law_take hr zR (aN (zb 0) (aQ (zV uC (by rfl) T.f8 wN (aN (zb 2) zf) (he:=(zm ..))) zf)))) (zi (z2a 6 ["_law_some","_law_at","_law_bad"] [some 3,some 5,none] zP.nd hc (vB (xP H__law_none hr zR (aS (z2C (zb 3) (zb 5)) zf) (he:=(z2X ..)))) (λ_ _ _=>zU (i:=2) zb0 (by rfl) (by first | exact Or.inl rfl | exact Or.inr rfl)) (yd 2 (by rfl)) (λ_ _ _=>yn) (λ_ _ _=>(zE yI (zE yI (yG (zb 0) xI (xK (zb 1))) (vq (aN (zb 2) zf))) (yG (zb 0) (xK (zE yI (zb 1) zq)) xI)))) (zi (xB 6 zP.nd (zE z7q (zb 6) (vq (aQ (zZ yW (by rfl) T.f15 zW (aN (zb 3) zf) (he:=(zm ..))) (aB (zE yI (zb 3) (yG (zb 3) xI (xK zq))) (aS (yG (zb 3) (xK zq) xI) (aL (vq zf) (aK z8G (xG z91 (aO (xq ["_law_row"] [none] (by exact hc) (vB (zb 3)) (λ_ _ _=>zU (i:=0) zch (by rfl) (by first | exact Or.inl rfl | exact Or.inr rfl)) (yd 0 (by rfl)) (λ_ _ _=>yn) (λ_ _ _=>(vq (aN (zb 0) zf)))) zf) (by rfl)))))))))) (zi (vQ (uw (zb 6) (zE yI (zE yI (yG (zb 3) xI (xK (zb 5))) (vq (aQ (zZ yW (by rfl) T.f15 zW (aO (xq ["_law_one"] [none] (by exact hc) (vB (z2C (zb 3) (zb 5))) (λ_ _ _=>zU (i:=0) zbh (by rfl) (by first | exact Or.inl rfl | exact Or.inr rfl)) (yd 0 (by rfl)) (λ_ _ _=>yn) (λ_ _ _=>(zE wQ zq (zb 0)))) zf) (he:=(yk ..))) zf))) (yG (zb 3) (xK (zE yI (zb 5) zq)) xI)))) (zy (ym (xP H__law_refused hr zR (aK zq (aN (zb 1) (aN (zb 6) zf)))))))))))))).tidy
theorem z3n (F:Fun K "law" "law" kJ f fd) (hm:mg "law"=some (.ref f)) (H__law_cell_at:Has P w K mg base CX0 "_law_cell_at" 1 Pg.yx) (H__law_pot:Has P w K mg base CX0 "_law_pot" 1 Pg.xV) (H__law_take:Has P w K mg base CX0 "_law_take" 1 Pg.zx) (H__law_none:Has P w K mg base CX0 "_law_none" 2 zB) (H_is_relation:Has P w K mg base CX0 "is_relation" 5 Pg.zh) (H_is_showing:Has P w K mg base CX0 "is_showing" 5 Pg.zo) (H_are_weights:Has P w K mg base CX0 "are_weights" 6 Pg.zA) (H__law_refused:Has P w K mg base CX0 "_law_refused" 7 zK) (H__law_bases_right:Has P w K mg base CX0 "_law_bases_right" 8 zN):z0Z P w K mg base CX0 9 f fd ["_law_script"] (z7F ⟨mg,K⟩ z8p):= z9x F xJ rfl λcdv A outer s H E hr hc=>by
  have hu:=hr.units;refine zi ?_ ?_
  ·refine z2p _al hc (uF (by rfl) T.f12 (aQ (zV (zaI (by exact hc)) (by rfl) T.f10 z70 (aK zq (aQ (zV (za2 (by exact hc)) (by rfl) T.f11 z7k (aQ (zV uC (by rfl) T.f8 wN (aN (zb 0) zf) (he:=(zm ..))) (aK zq zf)) (he:=(wJ ..))) zf)) (he:=(z04 ..))) zf)) (z0a 1 xJ.nd) ?_;refine zi ?_ ?_;·exact (xB 2 xJ.nd (xP H__law_pot hr zR (aQ (xP H__law_cell_at hr zR (aN (zb 0) (aN (zb 1) zf))) zf) (he:=(wJ ..))))
   refine zi ?_ ?_;·exact (xB 3 xJ.nd (zE yI zq (xP H__law_take hr zR (aN (zb 2) (aK zq zf)))))
   refine zi ?_ ?_;·exact (z90 (ww (aQ (xP H__law_take hr zR (aN (zb 2) (aN (zb 3) zf))) (aB (zE yI zq (xP H__law_take hr zR (aN (zb 2) (aS (z2C (vq (aK zq (aK zq (aB (zE z6k zq zq) zf)))) (xP H__law_take hr zR (aN (zb 2) (aK zq zf)))) zf)))) zf))) (z71 4 5 hc xJ.nd))
   refine zi ?_ ?_;·exact (xB 6 xJ.nd (z6O ["_law_pot_here","_law_place"] [some 2,none] (by exact hc) (uF (by rfl) T.f12 (aN (zb 3) zf)) (λ_ _ _=>zU (i:=1) zd4 (by rfl) (by first | exact Or.inl rfl | exact Or.inr rfl)) (yd 1 (by rfl)) (λ_ _ _=>yn) (λ_ _ _=>(xP H__law_take hr zR (aN (zb 0) (aS (z2C (vq (aK zq (aK zq (aB (zE z6k zq zq) zf)))) (xP H__law_take hr zR (aN (zb 0) (aK zq zf)))) zf))))))
   refine zi ?_ ?_;·exact (z54 zq (zb 6) (zb 4))
   refine zi ?_ ?_;·exact (xB 7 xJ.nd (zZ yW (by rfl) T.f15 zW (aO (xq ["_law_least","_law_number"] [some 5,none] (by exact hc) (vB (zb 6)) (λ_ _ _=>zU (i:=1) zcx (by rfl) (by first | exact Or.inl rfl | exact Or.inr rfl)) (yd 1 (by rfl)) (λ_ _ _=>yn) (λ_ _ _=>(zE wQ (zb 0) (zb 1)))) zf) (he:=(yk ..))))
   refine zi ?_ ?_;·exact (xB 8 xJ.nd (zZ yW (by rfl) T.f15 zW (aO (xq ["_law_at","_law_place"] [some 4,none] (by exact hc) (uF (by rfl) T.f12 (aN (zb 3) zf)) (λ_ _ _=>zU (i:=1) zd0 (by rfl) (by first | exact Or.inl rfl | exact Or.inr rfl)) (yd 1 (by rfl)) (λ_ _ _=>yn) (λ_ _ _=>(zZ z81 (by rfl) T.f6 z37 (aM (vj (z5G hu) (zb 1) (zb 0)) zf) (he:=(z0i ..))))) zf) (he:=(yk ..))))
   refine zi ?_ ?_;·exact (xB 9 xJ.nd (z5k zf))
   refine zi ?_ ?_
   ·refine z2p _al hc (uF (by rfl) T.f12 (aN (zb 3) zf)) (z0a 10 xJ.nd) ?_;refine zy ?_;refine z0Y (xi (z8S hu) (zb 10) (zb 4)) ?_ ?_
    ·refine zi ?_ ?_;·exact (z8x 11 ["_law_other","_law_place"] [some 10,none] xJ.nd hc (uF (by rfl) T.f12 (aN (zb 3) zf)) (λ_ _ _=>zU (i:=1) zdg (by rfl) (by first | exact Or.inl rfl | exact Or.inr rfl)) (yd 1 (by rfl)) (λ_ _ _=>yn) (λ_ _ _=>(zZ z81 (by rfl) T.f6 z37 (aM (vj (z5G hu) (zb 1) (zb 0)) zf) (he:=(z0i ..)))))
     refine zi ?_ ?_;·exact (z54 (zE z3P zq (z2C (zb 6) (zb 10))) (zb 11) (zb 4))
     refine zy ?_;exact (vQ (uw (zb 9) (zZ yW (by rfl) T.f15 zW (aN (zb 11) zf) (he:=(zm ..)))))
    ·exact xx
   refine zi ?_ ?_
   ·refine z0Y (RW.rt (z5o (xi ke (xP H_are_weights hr zR (aN (zb 7) (aN (zb 8) zf))) z01) (kB (uN (uI (xP H__law_refused hr zR (aK zq (aN (zb 7) (aQ (xP H__law_none hr zR (aN (zb 8) zf)) zf))))))))) ?_ ?_
    ·refine zy ?_;exact (ym z01)
    ·exact xx
   refine zi ?_ ?_
   ·refine z2p _al hc (vB (zE yI (zb 9) (vq (aB (zE zat (ww (aK zq zf)) (zb 3)) zf)))) (z0a 11 xJ.nd) ?_;refine zy ?_;refine z0Y (RW.rt (z5o (xi ke (xP H_is_relation hr zR (aN (zb 7) (aN (zb 11) zf))) z01) (kB (uN (uI (xP H__law_refused hr zR (aK zq (aN (zb 7) (aQ (xP H__law_none hr zR (aN (zb 11) zf)) zf))))))))) ?_ ?_
    ·refine zy ?_;exact (ym z01)
    ·exact xx
   refine zi ?_ ?_;·exact (xB 12 xJ.nd (ww (aN (zb 5) (aQ (zZ yW (by rfl) T.f15 zW (aN (zb 6) zf) (he:=(zm ..))) (aN (zb 8) zf)))))
   refine zi ?_ ?_
   ·refine z0Y (RW.rt (z5o (xi ke (xP H_is_showing hr zR (aN (zb 7) (aN (zb 12) zf))) z01) (kB (uN (uI (xP H__law_bases_right hr zR (aN (zb 2) (aN (zb 7) (aN (zb 9) zf))))))))) ?_ ?_
    ·refine zy ?_;exact (ym z01)
    ·exact xx
   refine zi ?_ ?_;·exact (z2a 13 ["_law_least","_law_ones","_law_bad"] [some 5,some 8,none] xJ.nd hc (vB (xP H__law_none hr zR (aQ (zZ yW (by rfl) T.f15 zW (aN (zb 6) zf) (he:=(zm ..))) zf) (he:=(wJ ..)))) (λ_ _ _=>zU (i:=2) zcz (by rfl) (by first | exact Or.inl rfl | exact Or.inr rfl)) (yd 2 (by rfl)) (λ_ _ _=>yn) (λ_ _ _=>(ww (aN (zb 0) (aN (zb 2) (aN (zb 1) zf))))))
   refine zi ?_ ?_;·exact (xB 13 xJ.nd (zE yI (zE yI (zb 13) (xq ["_law_least","_law_often","_law_bad"] [some 5,some 6,none] (by exact hc) (vB (xP H__law_none hr zR (aN (zb 8) zf))) (λ_ _ _=>zU (i:=2) zcJ (by rfl) (by first | exact Or.inl rfl | exact Or.inr rfl)) (yd 2 (by rfl)) (λ_ _ _=>yn) (λ_ _ _=>(ww (aN (zb 0) (aQ (zZ yW (by rfl) T.f15 zW (aN (zb 1) zf) (he:=(zm ..))) (aN (zb 2) zf))))))) (xP H__law_none hr zR (aN (zb 12) zf))))
   refine zi ?_ ?_;·exact (xB 13 xJ.nd (zE z7q (zb 13) (vq (aT (ww (aM (vj (z5G hu) (zb 5) zq) (aQ (zZ yW (by rfl) T.f15 zW (aN (zb 6) zf) (he:=(zm ..))) (aN (zb 8) zf)))) (aT (ww (aB (zE z3P zq (zb 5)) (aQ (zZ yW (by rfl) T.f15 zW (aN (zb 6) zf) (he:=(zm ..))) (aN (zb 8) zf)))) zf)))))
   refine zi ?_ ?_;·exact (z2a 14 ["_law_row"] [none] xJ.nd hc (vB (ww (aN (zb 6) (aN (zb 8) zf)))) (λ_ _ _=>zU (i:=0) zch (by rfl) (by first | exact Or.inl rfl | exact Or.inr rfl)) (yd 0 (by rfl)) (λ_ _ _=>yn) (λ_ _ _=>(zZ yW (by rfl) T.f15 zW (aO (xq ["_law_one"] [none] (by exact hc) (vB (zb 0)) (λ_ _ _=>zU (i:=0) zbh (by rfl) (by first | exact Or.inl rfl | exact Or.inr rfl)) (yd 0 (by rfl)) (λ_ _ _=>yn) (λ_ _ _=>(zE z3P zq (zb 0)))) zf) (he:=(yk ..)))))
   refine zi ?_ ?_;·exact (vQ (uw (zb 13) (ww (aB (zE z3P zq (zb 5)) (aS (z2C (zb 14) zq) (aS (z2C (zb 14) zq) zf))))))
   refine zy ?_;refine z0Y (uN (uI (xP H__law_refused hr zR (aK zq (aN (zb 7) (aN (zb 13) zf)))))) ?_ ?_
   ·refine zy ?_;exact (ym z01)
   ·exact xx
  refine zy ?_;exact (ym z01)
end
end K93
namespace Pg
open L2 Dd Pm
theorem z7E{n m:Nat}{v:List Int}(h:z1D n m v):(qD v).natAbs<2 ^ m/\0<qD v:=by
 obtain⟨x,hx,x0⟩:=h.pos;have d:=z34 x hx;have le:=Int.le_of_dvd x0 d;have nn:=z4R v;have a:=h.abs x hx;have p:qD v≠0:=λq=>by rw[q]at d;have:=Int.zero_dvd.mp d;omega
 omega
theorem zbP(i:Int)(s:Sto):z8R [.int i] s=.ok (.int (i.natAbs:Int)) s:=by
 simp only[z8R];congr 2;split<;>omega
end Pg
namespace K93
open L2 Dd Pm Pg Pn
def gd:Nat->D->Bool
 | _,.non=>true | _,.bl _=>true | _,.dct=>true | _,.int i=>decide (i.natAbs<2 ^ 104) | _,.str x=>decide (x="0") | k+1,.tup xs=>decide (xs.length<=8)&&xs.all (gd k) | k+1,.lst xs=>decide (xs.length<=8)&&xs.all (gd k) | _,_=>false
def bnd:Nat->Nat
 | 0=>110 | k+1=>8*bnd k+19
theorem uP:∀k,110<=bnd k
 | 0=>_n _ | k+1=>by have:=uP k;simp only[bnd];omega
abbrev cl(d:D):Bool:=PyData.canLay0 (zS d)
theorem z2x:∀xs:List D,PyData.canLayAll0 (toPys xs)=xs.all cl
 | []=>rfl | x::xs=>by rw[toPys,PyData.canLayAll0,z2x xs,List.all_cons]
theorem z0M:∀xs:List D,noL.noLs xs=xs.all noL
 | []=>rfl | x::xs=>by rw[noL.noLs,z0M xs,List.all_cons]
structure Sm(k:Nat)(p:PyData):Prop where
 sh:p.showable=true
 dp:p.depth<=k+1
 ln:p.shown.length<=bnd k
theorem z4k{k:Nat}:∀{xs:List D},(∀x∈xs,Sm k (zS x))->PyData.showableAll (toPys xs)=true/\PyData.depthAll (toPys xs)<=k+1/\((PyData.shownAll (toPys xs)).map (·.length)).sum<=xs.length*bnd k/\(PyData.shownAll (toPys xs)).length=xs.length
 | [],_=>by simp[toPys,PyData.showableAll,PyData.depthAll,PyData.shownAll] | x::xs,h=>by
  obtain⟨a,b,c,d⟩:=z4k (xs:=xs) λy hy=>h y (by simp[hy]);have hx:=h x (by simp);refine⟨?_,?_,?_,?_⟩;·rw[toPys,PyData.showableAll,hx.sh,a];rfl
  ·rw[toPys,PyData.depthAll];exact Nat.max_le.mpr ⟨hx.dp,b⟩
  ·rw[toPys,PyData.shownAll,_L,_t,_q,Nat.add_mul,Nat.one_mul];have:=hx.ln;omega
  ·rw[toPys,PyData.shownAll,_q,_q,d]
theorem eight{n k:Nat}(h:n<=8):n*bnd k<=8*bnd k:=_bm _ h
theorem z60:∀{k:Nat} {d:D},gd k d=true->Sm k (zS d)
 | k,.non,_=>⟨by simp[zS,PyData.showable],by simp[zS,PyData.depth],by have:=uP k;simp only[zS,PyData.shown];exact _B (by decide) this⟩ | k,.bl b,_=>⟨by simp[zS,PyData.showable],by simp[zS,PyData.depth],by have:=uP k;simp only[zS,PyData.shown];cases b<;>exact _B (by decide) this⟩ | k,.dct,_=>⟨by simp[zS,PyData.showable,PyData.showableKv],by simp[zS,PyData.depth,PyData.depthKv],by have:=uP k;simp only[zS,PyData.shown,PyData.shownKv];exact _B (by decide) this⟩ | k,.str x,h=>by
  have e:x="0":=by cases k<;>simpa[gd] using h
  subst e;exact⟨by simp[zS,PyData.showable],by simp[zS,PyData.depth],by have:=uP k;simp only[zS,PyData.shown];exact _B (by decide +kernel) this⟩ | k,.int i,h=>by
  have e:i.natAbs<2 ^ 104:=by cases k<;>simpa[gd] using h
  have lg:i.natAbs.log2<104:=by
   by_cases z:i.natAbs=0;·rw[z];decide
   ·exact (Nat.log2_lt z).mpr e
  refine⟨?_,by simp[zS,PyData.depth],?_⟩;·simp only[zS,PyData.showable,_M];omega
  ·have:=uP k;have l:=int_text_length_le (a:=i) (k:=104) (by decide) lg;simp only[zS,PyData.shown];show (Str.ofString (toString i)).length<=bnd k;rw[PySem.ofString_length];omega | k+1,.tup xs,h=>by
  simp only[gd,_m,_M,_y]at h;obtain⟨a,b,c,d⟩:=z4k λx hx=>z60 (h.2 x hx);have e8:=eight (k:=k) h.1;refine⟨by simpa[zS,PyData.showable] using a,by simp only[zS,PyData.depth];omega,?_⟩;simp only[zS,PyData.shown,bnd];have:=tupleText_len_le (PyData.shownAll (toPys xs));omega | k+1,.lst xs,h=>by
  simp only[gd,_m,_M,_y]at h;obtain⟨a,b,c,d⟩:=z4k λx hx=>z60 (h.2 x hx);have e8:=eight (k:=k) h.1;refine⟨by simpa[zS,PyData.showable] using a,by simp only[zS,PyData.depth];omega,?_⟩;simp only[zS,PyData.shown,bnd];have:=listText_len_le (PyData.shownAll (toPys xs));omega | 0,.tup _,h=>by simp[gd]at h | 0,.lst _,h=>by simp[gd]at h | k,.loc _,h=>by cases k<;>simp[gd]at h | k,.dlo _,h=>by cases k<;>simp[gd]at h | k,.fn _,h=>by cases k<;>simp[gd]at h | k,.exc _,h=>by cases k<;>simp[gd]at h | k,.scr _,h=>by cases k<;>simp[gd]at h
theorem kY{d:D}(h:gd 5 d=true)(hs:cl d=true\/noL d=true\/∃xs,d=.lst xs/\xs.all noL=true):uG d=true:=by
 have s:=z60 h;have l:(zS d).shown.length<=sizeLine:=_B s.ln (by decide);have l2:(zS d).depth<=30:=_B s.dp (by decide);simp only[uG,s.sh,l,l2,decide_true,Bool.true_and,Bool.and_true];rcases hs with hs | hs | ⟨xs,rfl,hs⟩;·rw[show PyData.canLay0 (zS d)=true from hs];rfl
 ·rw[hs];simp
 ·simp only[z0M,hs,Bool.or_true]
theorem xS:∀{xs:List D},(∀x∈xs,x.flat=true)->D.flat.flats xs=true
 | [],_=>rfl | x::xs,h=>by rw[D.flat.flats,h x (by simp),xS λy hy=>h y (by simp[hy])];rfl
theorem jn:∀{k:Nat}{d:D},gd k d=true->d.flat=true
 | k+1,.tup xs,h=>by
  simp only[gd,_m,_M,_y]at h;exact xS λx hx=>jn (h.2 x hx) | k+1,.lst xs,h=>by
  simp only[gd,_m,_M,_y]at h;exact xS λx hx=>jn (h.2 x hx) | k,.non,_=>rfl | k,.bl b,_=>rfl | k,.dct,_=>rfl | k,.str x,_=>rfl | k,.int i,_=>rfl | 0,.tup _,h=>by simp[gd]at h | 0,.lst _,h=>by simp[gd]at h | k,.loc _,h=>by cases k<;>simp[gd]at h | k,.dlo _,h=>by cases k<;>simp[gd]at h | k,.fn _,h=>rfl | k,.exc _,h=>rfl | k,.scr _,h=>by cases k<;>simp[gd]at h
def t01(x:D):Bool:=eqD (.int 0) x||eqD (.int 1) x
structure It(x:D):Prop where
 py:uS x=true
 gd:gd 2 x=true
 cl:cl x=true
 nl:noL x=true
structure Tr(xs ys:List D):Prop where
 len:ys.length=xs.length
 pt:∀(j:Nat) x y,xs[j]? = some x->ys[j]? = some y->y=x\/(t01 x=true/\∃b,y=.bl b)
 bl:∃(j:Nat)(b:Bool),ys[j]? = some (.bl b)
theorem zbl{x:D}(h:uS x=true)(s:Sto):z7l x (.tup [.int 0,.int 1]) s=.ok (.bl (t01 x)) s:=by simp[z7l,zI,z1k,h,t01]
theorem zct {x:D} {i:Nat} {Z:Ev} (h:uS x=true) (hi:Z[i]? = some (some x)) (s:Sto):tOf (eOp z7l (zc i) (wq (za (eC (.int 0)) (za (eC (.int 1)) zg)))) Z s=.ok (t01 x) s:=by
 refine xu ?_;rw[op2 (x:=x) (y:=.tup [.int 0,.int 1]) (vr hi) (by simp[cap]),zbl h]
theorem eq1{x:D}(h:uS x=true)(s:Sto):dEq x (.int 1) s=.ok (.bl (eqD x (.int 1))) s:=by
 have:uS (.int 1)=true:=by decide
 simp[dEq,h,this]
theorem z7c(xs:List D)(j:Nat)(h:j<=xs.length):Dd.cutD xs none (some (j:Int))=xs.take j:=by
 have e:HT.sIx xs.length xs.length (some (j:Int))=j:=by
  unfold HT.sIx;simp only;rw[_I (by omega)];omega
 unfold Dd.cutD;rw[e];simp[HT.sIx]
theorem z33(xs:List D)(j:Nat)(h:j<=xs.length):Dd.cutD xs (some (j:Int)) none=xs.drop j:=by
 have e:HT.sIx xs.length 0 (some (j:Int))=j:=by
  unfold HT.sIx;simp only;rw[_I (by omega)];omega
 unfold Dd.cutD;rw[e];simp[HT.sIx];exact List.take_of_length_le (by simp)
theorem z6J(xs:List D):Dd.cutD xs none (some (-1))=xs.dropLast:=by
 have e:HT.sIx xs.length xs.length (some (-1))=xs.length-1:=by
  unfold HT.sIx;simp only;rw[_o (by omega)];omega
 unfold Dd.cutD;rw[e];simp[HT.sIx,List.dropLast_eq_take]
theorem zac(xs:List D)(j:Nat)(b:D)(h:j<xs.length):xs.take j++[b]++xs.drop (j+1)=xs.set j b:=by rw[List.set_eq_take_append_cons_drop,_o h];simp
theorem q4 {xs fd:List D} {j:Nat} {x:D} {a:Option D} {s:Sto} (hx:xs[j]? = some x) (hl:xs.length<=5) (hf:fd.length<=10) (hi:∀x∈xs,It x): xX [some (.tup xs),some (.loc s.length),some (.int (j:Int)),some x,a] (s++[fd])=.ok (.nx [some (.tup xs),some (.loc s.length),some (.int (j:Int)),some x,a]) (s++[fd++[.tup (xs.set j (.bl (eqD x (.int 1))))]]):=by
 have hj:j<xs.length:=(_b.mp hx).1;have ix:=hi x (_s hx);have fl:(D.tup (xs.set j (.bl (eqD x (.int 1))))).flat=true:=jl (xS λy hy=>jn (hi y hy).gd) rfl;have sl1:dSl (.tup xs) none (some (j:Int)) (s++[fd])=.ok (.tup (xs.take j)) (s++[fd]):=by simp only[dSl,z7c xs j (by omega)]
 have sl2:dSl (.tup xs) (some ((j:Int)+1)) none (s++[fd])=.ok (.tup (xs.drop (j+1))) (s++[fd]):=by
  have:=z33 xs (j+1) (by omega);rw[show ((j:Int)+1)=((j+1:Nat):Int) by omega];simp only[dSl,this]
 have e1:=eq1 ix.py (s++[fd]);have pe:=zac xs j (.bl (eqD x (.int 1))) hj;have val:(eOp yL (eOp yL (eSl (zc 0) zt (yg (zc 2))) (wq (za (eOp dEq (zc 3) (eC (.int 1))) zg))) (eSl (zc 0) (yg (eOp yL (zc 2) (eC (.int 1)))) zt)) [some (.tup xs),some (.loc s.length),some (.int (j:Int)),some x,a] (s++[fd])=.ok (.tup (xs.set j (.bl (eqD x (.int 1))))) (s++[fd]):=by
  have a1:eOp yL (eSl (zc 0) zt (yg (zc 2))) (wq (za (eOp dEq (zc 3) (eC (.int 1))) zg)) [some (.tup xs),some (.loc s.length),some (.int (j:Int)),some x,a] (s++[fd])=.ok (.tup (xs.take j++[.bl (eqD x (.int 1))])) (s++[fd]):=by
   rw[op2 (x:=.tup (xs.take j)) (y:=.tup [.bl (eqD x (.int 1))])];·rw[kQ,_o (by simp[cap];omega)]
   ·simp[sl1]
   ·simp[e1,cap]
  rw[op2 (x:=.tup (xs.take j++[.bl (eqD x (.int 1))])) (y:=.tup (xs.drop (j+1))) a1 (by simp[sl2]),kQ,_o (by simp[cap];omega),pe]
 rw[xX,jY,z1O,vr (d:=.loc s.length) rfl,Rb];simp only;rw[val,Rb];have g1:(s++[fd])[s.length]? = some fd:=by simp
 rw[g1];simp only;rw[_o ⟨fl,by unfold cap;omega⟩];simp
theorem q3{xs fd:List D}{j:Nat}{x:D}{a:Option D}{s:Sto}(hx:xs[j]? = some x)(hl:xs.length<=5)(hf:fd.length<=10)(hi:∀x∈xs,It x): xl [some (.tup xs),some (.loc s.length),some (.int (j:Int)),some x,a] (s++[fd])=.ok (.nx [some (.tup xs),some (.loc s.length),some (.int (j:Int)),some x,a]) (s++[if t01 x=true then fd++[.tup (xs.set j (.bl (eqD x (.int 1))))] else fd]):=by
 have ix:=hi x (_s hx);rw[xl,z4C,zct ix.py rfl,Rb];cases h:t01 x with
 | true=>simp only[_Z];exact q4 hx hl hf hi | false=>simp
theorem zaH{xs:List D}{j:Nat}{x:D}{b:Bool}(hx:xs[j]? = some x)(ht:t01 x=true):Tr xs (xs.set j (.bl b)):=by
 have hj:j<xs.length:=(_b.mp hx).1;refine⟨by simp,λi y z h1 h2=>?_,j,b,by rw[_v hj]⟩;by_cases e:j=i
 ·subst e;rw[_v hj]at h2;rw[h1]at hx;cases hx;cases h2;exact .inr ⟨ht,b,rfl⟩
 ·rw[_f e,h1]at h2;cases h2;exact .inl rfl
theorem q2 {xs:List D} {a b c:Option D} {s:Sto} (hl:xs.length<=5) (hi:∀x∈xs,It x): ∃fd a' b',wm [some (.tup xs),some (.loc s.length),a,b,c] (s++[[]])=.ok (.nx [some (.tup xs),some (.loc s.length),a',b',c]) (s++[fd])/\fd.length<=xs.length/\(∀d∈fd,∃ys,d=.tup ys/\Tr xs ys)/\((∃x∈xs,t01 x=true)->fd≠[])/\(fd≠[]->∃x∈xs,t01 x=true):=by
 have en:∀(j:Nat) d,(vG 0 xs)[j]? = some d->∃x,xs[j]? = some x/\d=.tup [.int (j:Int),x]:=λj d h=>by
  obtain⟨x,h1,h2⟩:=qV h;exact⟨x,h1,by rw[h2];simp⟩
 obtain⟨Z',s',e,fd,a',b',rfl,rfl,h1,h2,h3,h4⟩:=jb (all:=vG 0 xs) (body:=λd Z s=>(jQ 2 3 d Z s).bind λZ' s'=>xl Z' s') (λj Z s'=>∃fd a' b',Z=[some (.tup xs),some (.loc s.length),a',b',c]/\s'=s++[fd]/\fd.length<=j/\(∀d∈fd,∃ys,d=.tup ys/\Tr xs ys)/\((∃i x,i<j/\xs[i]? = some x/\t01 x=true)->fd≠[])/\(fd≠[]->∃x∈xs,t01 x=true)) (vG 0 xs) 0 (λj d hd Z s' h=>by
  obtain⟨fd,a',b',rfl,rfl,h1,h2,h3,h4⟩:=h;obtain⟨x,hx,rfl⟩:=en j d hd;have hj:j<xs.length:=(_b.mp hx).1;have st:=q3 (a:=c) (s:=s) (fd:=fd) hx hl (by omega) hi;refine⟨_,_,by simp only[z1W,Rb,_aN,_aM];exact st,_,_,_,rfl,rfl,?_,?_,?_,?_⟩;·split<;>simp<;>omega
  ·intro d hd;split at hd
   ·rename_i ht;rcases _i.mp hd with hd | hd;·exact h2 d hd
    ·simp at hd;exact⟨_,hd,zaH hx ht⟩
   ·exact h2 d hd
  ·rintro⟨i,y,hi',hy,ht⟩;by_cases e:i<j
   ·have:=h3 ⟨i,y,by omega,hy,ht⟩;split<;>simp[this]
   ·have:i=j:=by omega
    subst this;rw[hx]at hy;cases hy;rw[_o ht];simp
  ·intro hne;split at hne
   ·rename_i ht;exact⟨x,_s hx,ht⟩
   ·exact h4 hne) _ _ ⟨[],a,b,rfl,rfl,by simp,by simp,by rintro⟨i,x,hi,_⟩;omega,by simp⟩;have le:(vG 0 xs).length=xs.length:=by simp[xH]
 refine⟨fd,a',b',?_,by omega,h2,λ⟨x,hx,ht⟩=>?_,h4⟩
 ·rw[wm,z0b];rw[show z22 (za (zc 0) zg) [some (.tup xs),some (.loc s.length),a,b,c] (s++[[]])=.ok (vG 0 xs,[]) (s++[[]]) by simp[z51]];rw[Rb];exact e
 ·obtain⟨i,hi',e'⟩:=_U.mp hx;exact h3 ⟨i,x,by omega,by rw[_d hi',e'],ht⟩
def whl(x:D):D:=if t01 x=true then .bl (eqD x (.int 1)) else x
theorem z0n{xs:List D}(h:∃x∈xs,t01 x=true):Tr xs (xs.map whl):=by
 refine⟨by simp,λj x y h1 h2=>?_,?_⟩
 ·rw[_D,h1]at h2;cases h2;unfold whl;split;·rename_i ht;exact .inr ⟨ht,_,rfl⟩
  ·exact .inl rfl
 ·obtain⟨x,hx,ht⟩:=h;obtain⟨i,hi,e⟩:=_U.mp hx;refine⟨i,eqD x (.int 1),?_⟩;rw[_D,_d hi,e];simp[whl,ht]
structure Rw(xs:List D):Prop where
 l5:xs.length<=5
 l1:1<=xs.length
 it:∀x∈xs,It x
theorem q5 {xs:List D} (h:Rw xs) {L:D} {a b:Option D} (s:Sto):wn [some (.tup xs),some L,a,b,none] s=.ok (.nx [some (.tup xs),some L,a,b,some (.tup (xs.map whl))]) s:=by
 have c:=comp_map (fi:=zY (zc 0)) (mp:=[none]) (fg:=xC 0) (fe:=eIf (tOf (eOp z7l (zc 0) (wq (za (eC (.int 0)) (za (eC (.int 1)) zg))))) (eOp dEq (zc 0) (eC (.int 1))) (zc 0)) (Z:=[some (.tup xs),some L,a,b,none]) (s:=s) (λx=>x) whl (λx=>[some x]) xs (by simp) (λx _=>by simp) (λx hx=>by
  have py:=(h.it x hx).py;rw[zbJ,zct py rfl,Rb];unfold whl;cases ht:t01 x with
  | true=>simp[eq1 py] | false=>simp) (by have:=h.l5;simp[cap];omega);rw[wn,yD,yo c,uq,Rb];rfl
theorem ne_nil{d:D}{s:Sto}{xs:List D}(hs:see s d=.tup xs\/see s d=.lst xs)(hp:uS (see s d)=true)(n:D)(hn:(n=.tup []/\see s d=.tup xs)\/(n=.lst []/\see s d=.lst xs)):z0w true d n s=.ok (.bl (!xs.isEmpty)) s:=by
 have p2:uS (see s n)=true:=by rcases hn with⟨rfl,_⟩ | ⟨rfl,_⟩<;>(simp only[see];decide)
 simp only[z0w,hp,p2,and_self,_Z];rcases hn with⟨rfl,e⟩ | ⟨rfl,e⟩
 ·rw[e];cases xs<;>simp[see,eqD,zS,toPys,PyData.eqv,PyData.eqvAll]
 ·rw[e];cases xs<;>simp[see,eqD,zS,toPys,PyData.eqv,PyData.eqvAll]
theorem z3W{k:Nat}{d:D}(h:gd k d=true)(hk:k<=60)(hc:cl d=true):uS d=true:=by
 have s:=z60 h;have:=s.dp;simp only[uS,SeqAt.shaped,_m,_M];exact⟨hc,by omega⟩
theorem z8u{xs ys:List D}(h:Rw xs)(t:Tr xs ys):∀y∈ys,gd 2 y=true/\cl y=true/\noL y=true:=λy hy=>by
 obtain⟨i,hi,e⟩:=_U.mp hy;have hi':i<xs.length:=by rw[<- t.len];exact hi
 rcases t.pt i xs[i] y (_d hi') (by rw[_d hi,e]) with rfl | ⟨_,b,rfl⟩
 ·have:=h.it _ (_ad hi');exact⟨this.gd,this.cl,this.nl⟩
 ·exact⟨rfl,rfl,rfl⟩
theorem vK{k:Nat}{ys:List D}(hl:ys.length<=8)(h:∀y∈ys,gd k y=true):gd (k+1) (.tup ys)=true:=by simp only[gd,_m,_M,_y];exact⟨hl,h⟩
theorem ju{k:Nat}{ys:List D}(hl:ys.length<=8)(h:∀y∈ys,gd k y=true):gd (k+1) (.lst ys)=true:=by simp only[gd,_m,_M,_y];exact⟨hl,h⟩
theorem uz{ys:List D}(h:∀y∈ys,cl y=true):cl (.tup ys)=true:=by simp only[cl,zS,PyData.canLay0,z2x,_y];exact h
theorem kL{ys:List D}(h:∀y∈ys,cl y=true):cl (.lst ys)=true:=by simp only[cl,zS,PyData.canLay0,z2x,_y];exact h
theorem z7g{ys:List D}(h:∀y∈ys,noL y=true):noL (.tup ys)=true:=by simp only[Dd.noL,z0M,_y];exact h
theorem kN{xs ys:List D}(h:Rw xs)(t:Tr xs ys):gd 3 (.tup ys)=true/\cl (.tup ys)=true:=by
 have i:=z8u h t;have:=h.l5;exact⟨vK (by rw[t.len];omega) λy hy=>(i y hy).1,uz λy hy=>(i y hy).2.1⟩
theorem z6j {xs:List D} (h:Rw xs) (s:Sto):∃L,yp [.tup xs] s=.ok (.lst L) s/\L.length<=6/\∀d∈L,∃ys,d=.tup ys/\Tr xs ys:=by
 obtain⟨fd,a',b',e2,h1,h2,h3,h4⟩:=q2 (a:=none) (b:=none) (c:=none) (s:=s) h.l5 h.it;have h5:=h.l5;have hl1:=h.l1;have st:zD ["_law_row","_law_found","_law_at","_law_one","_law_whole"] [.tup xs]=[some (.tup xs),none,none,none,none]:=rfl;have e1:vx [some (.tup xs),none,none,none,none] s=.ok (.nx [some (.tup xs),some (.loc s.length),none,none,none]) (s++[[]]):=by simp[D.flat.flats,cap]
 have e5:=q5 h (L:=.loc s.length) (a:=a') (b:=b') (s++[fd]);have pw:uS (.tup (xs.map whl))=true:=by
  by_cases hh:∃x∈xs,t01 x=true
  ·have t:=kN h (z0n hh);exact z3W t.1 (by decide) t.2
  ·have e:xs.map whl=xs:=by
    conv=>rhs;rw[<- List.map_id xs]
    refine List.map_congr_left λx hx=>?_;have:t01 x≠true:=λz=>hh ⟨x,hx,z⟩;simp[whl,this]
   rw[e];exact z3W (k:=3) (vK (by omega) λy hy=>(h.it y hy).gd) (by decide) (uz λy hy=>(h.it y hy).cl)
 have pf:uS (.lst fd)=true:=z3W (k:=4) (ju (by omega) λd hd=>by obtain⟨ys,rfl,t⟩:=h2 d hd;exact (kN h t).1) (by decide) (kL λd hd=>by obtain⟨ys,rfl,t⟩:=h2 d hd;exact (kN h t).2);have se:see (s++[fd]) (.loc s.length)=.lst fd:=by simp[see]
 have n1:z0w true (.tup (xs.map whl)) (.tup []) (s++[fd])=.ok (.bl true) (s++[fd]):=by
  rw[ne_nil (xs:=xs.map whl) (s:=s++[fd]) (d:=.tup (xs.map whl)) (.inl rfl) pw (.tup []) (.inl ⟨rfl,rfl⟩)];cases xs with
  | nil=>simp at hl1 | cons x r=>rfl
 have n2:z0w true (.loc s.length) (.lst []) (s++[fd])=.ok (.bl (!fd.isEmpty)) (s++[fd]):=ne_nil (.inr se) (by rw[se];exact pf) (.lst []) (.inr ⟨rfl,se⟩);have e6:we [some (.tup xs),some (.loc s.length),a',b',some (.tup (xs.map whl))] (s++[fd])=.ok (.rt (.lst (fd++(if fd=[] then [] else [.tup (xs.map whl)])))) (s++[fd]):=by
  have b1:z4F (eOp (z0w true) (zc 4) (wq zg)) (eOp (z0w true) (zc 1) (wz zg)) [some (.tup xs),some (.loc s.length),a',b',some (.tup (xs.map whl))] (s++[fd])=.ok (.bl (!fd.isEmpty)) (s++[fd]):=by
   rw[z7p,op2 (x:=.tup (xs.map whl)) (y:=.tup []) (vr rfl) (by simp[cap]),n1,Rb];simp only;rw[op2 (x:=.loc s.length) (y:=.lst []) (vr rfl) (by simp[cap]),n2]
  have b2:zd z4c (za (z4F (eOp (z0w true) (zc 4) (wq zg)) (eOp (z0w true) (zc 1) (wz zg))) zg) [some (.tup xs),some (.loc s.length),a',b',some (.tup (xs.map whl))] (s++[fd])=.ok (.int (if (!fd.isEmpty)=true then 1 else 0)) (s++[fd]):=by rw[yo b1];rfl
  have b3:eOp z8T (wz (za (zc 4) zg)) (zd z4c (za (z4F (eOp (z0w true) (zc 4) (wq zg)) (eOp (z0w true) (zc 1) (wz zg))) zg)) [some (.tup xs),some (.loc s.length),a',b',some (.tup (xs.map whl))] (s++[fd])=.ok (.lst (if fd=[] then [] else [.tup (xs.map whl)])) (s++[fd]):=by
   rw[op2 (x:=.lst [.tup (xs.map whl)]) (y:=.int (if (!fd.isEmpty)=true then 1 else 0)) (by simp[cap]) b2];cases fd with
   | nil=>simp[z8T,Dd.listOf,cap] | cons d r=>simp[z8T,Dd.listOf,cap,List.replicate]
  rw[we,qq,op2 (x:=.loc s.length) (y:=.lst (if fd=[] then [] else [.tup (xs.map whl)])) (vr rfl) b3];have gl:(s++[fd])[s.length]? = some fd:=by simp
  have:yL (.loc s.length) (.lst (if fd=[] then [] else [.tup (xs.map whl)])) (s++[fd])=.ok (.lst (fd++(if fd=[] then [] else [.tup (xs.map whl)]))) (s++[fd]):=by
   simp only[yL,Dd.listOf,gl];rw[_o (by split<;>simp[cap]<;>omega)]
  rw[this];rfl
 refine⟨fd++(if fd=[] then [] else [.tup (xs.map whl)]),?_,by split<;>simp<;>omega,λd hd=>?_⟩
 ·rw[yp,z4D];simp only[Mof,vP,st,_q,_H,_Z];rw[zr e1,zr e2,zr e5,e6];have fl:(D.lst (fd++(if fd=[] then [] else [.tup (xs.map whl)]))).flat=true:=by
   refine xS λd hd=>?_;rcases _i.mp hd with hd | hd;·obtain⟨ys,rfl,t⟩:=h2 d hd;exact jn (kN h t).1
   ·split at hd;·simp at hd
    ·rename_i hne;simp at hd;rw[hd];exact jn (kN h (z0n (h4 hne))).1
  simp only;rw[kS fl];simp
 ·rcases _i.mp hd with hd | hd;·exact h2 d hd
  ·split at hd;·simp at hd
   ·rename_i hne;simp at hd;exact⟨_,hd,z0n (h4 hne)⟩
def z0c(xs:List D):List D:=[.lst xs,.tup (xs++[.int 0]),.tup xs.dropLast,.tup [],.non,.dct,.int 0,.bl true,.str "0"]
def z4E(xs:List D):List D:=[.tup (xs.dropLast++[.non]),.tup (xs.dropLast++[.str "0"]),.tup (xs.dropLast++[.tup [.int 0]]),.tup (xs.dropLast++[.lst [.int 0]]),.lst [.tup xs]]
theorem za9 {xs:List D} (h:Rw xs) (s:Sto):∃L,zB [.tup xs] s=.ok (.lst (L++z0c xs++z4E xs)) s/\L.length<=6/\∀d∈L,∃ys,d=.tup ys/\Tr xs ys:=by
 obtain⟨L,e,l6,hL⟩:=z6j h s;refine⟨L,?_,l6,hL⟩;have h5:=h.l5;have sl:dSl (.tup xs) none (some (-1)) s=.ok (.tup xs.dropLast) s:=by simp only[dSl,z6J]
 have key:∀d:D,d=.tup xs->yp [d] s=.ok (.lst L) s->zB [d] s=.ok (.lst (L++z0c xs++z4E xs)) s:=λd hd e=>by
  have st:zD ["_law_row","_law_found"] [d]=[some d,none]:=rfl;have v0:∀f,zc 0 [some d,f] s=.ok (.tup xs) s:=λf=>by rw[vr (d:=d) rfl,hd]
  have g:z1G [.tup xs] s=.ok (.lst xs) s:=by simp[z1G,zI]
  have ad:∀y:D,yL (.tup xs) (.tup [y]) s=.ok (.tup (xs++[y])) s:=λy=>by rw[kQ,_o (by simp[cap];omega)]
  have ad2:∀y:D,yL (.tup xs.dropLast) (.tup [y]) s=.ok (.tup (xs.dropLast++[y])) s:=λy=>by rw[kQ,_o (by simp[cap];omega)]
  have s0:∀f,eSl (zc 0) zt (yg (z3d (eC (.int 1)))) [some d,f] s=.ok (.tup xs.dropLast) s:=λf=>by
   rw[z49,v0,Rb];simp[sl]
  have f1:vg [some d,none] s=.ok (.nx [some d,some (.lst (L++z0c xs))]) s:=by
   have t:zd yp (za (zc 0) zg) [some d,none] s=.ok (.lst L) s:=by rw[yo (x:=d) (vr rfl),e]
   have r:wz (za (zd z1G (za (zc 0) zg)) (za (eOp yL (zc 0) (wq (za (eC (.int 0)) zg))) (za (eSl (zc 0) zt (yg (z3d (eC (.int 1))))) (za (wq zg) (za (eC .non) (za (eC .dct) (za (eC (.int 0)) (za (eC (.bl true)) (za (eC (.str "0")) zg))))))))) [some d,none] s=.ok (.lst (z0c xs)) s:=by
    rw[jN,zj,yo (v0 none),g,Rb,zj,op2 (x:=.tup xs) (y:=.tup [.int 0]) (v0 none) (by simp[cap]),ad,Rb,zj,s0,Rb];simp[cap,z0c]
   rw[vg,yD,op2 t r,jF,_o (by simp[z0c,cap];omega)];rfl
  have v1:zc 1 [some d,some (.lst (L++z0c xs))] s=.ok (.lst (L++z0c xs)) s:=vr rfl;have f2:wU [some d,some (.lst (L++z0c xs))] s=.ok (.rt (.lst (L++z0c xs++z4E xs))) s:=by
   have p:∀(y:D) (f:FE),f [some d,some (.lst (L++z0c xs))] s=.ok y s->eOp yL (eSl (zc 0) zt (yg (z3d (eC (.int 1))))) (wq (za f zg)) [some d,some (.lst (L++z0c xs))] s=.ok (.tup (xs.dropLast++[y])) s:=λy f hf=>by rw[op2 (x:=.tup xs.dropLast) (y:=.tup [y]) (s0 _) (by simp[hf,cap]),ad2]
   rw[wU,qq,op2 (x:=.lst (L++z0c xs)) (y:=.lst (z4E xs)) v1,jF,_o (by simp[z0c,z4E,cap];omega)];·rfl
   ·rw[jN,zj,p .non _ rfl,Rb,zj,p (.str "0") _ rfl,Rb,zj,p (.tup [.int 0]) _ (by simp[cap]),Rb,zj,p (.lst [.int 0]) _ (by simp[cap]),Rb];rw[zj,jN,zj,v0,Rb];simp[cap,z4E]
  simp only[zB,Mof,qj,st,_q,_H,_Z];rw[zr f1,f2]
 exact key _ rfl e
inductive xW(xs:List D):D->Prop | tr {ys:List D}(t:Tr xs ys):xW xs (.tup ys) | fx {d:D}(h:d∈z0c xs++z4E xs):xW xs d
theorem ji{xs:List D}(h:Rw xs)(s:Sto):∃L,zB [.tup xs] s=.ok (.lst L) s/\L.length<=20/\∀d∈L,xW xs d:=by
 obtain⟨L,e,l6,hL⟩:=za9 h s;refine⟨_,e,by simp[z0c,z4E];omega,λd hd=>?_⟩;rw[_aV]at hd;rcases _i.mp hd with hd | hd;·obtain⟨ys,rfl,t⟩:=hL d hd;exact .tr t
 ·exact .fx hd
structure Th(d:D):Prop where
 gd:gd 4 d=true
 sp:cl d=true\/noL d=true
theorem vH:∀{k:Nat}{d:D},gd k d=true->gd (k+1) d=true
 | k+1,.tup xs,h=>by
  simp only[gd,_m,_M,_y]at h;exact vK h.1 λx hx=>vH (h.2 x hx) | k+1,.lst xs,h=>by
  simp only[gd,_m,_M,_y]at h;exact ju h.1 λx hx=>vH (h.2 x hx) | k,.non,_=>rfl | k,.bl b,_=>rfl | k,.dct,_=>rfl | k,.str x,h=>by cases k<;>exact h | k,.int i,h=>by cases k<;>exact h | 0,.tup _,h=>by simp[gd]at h | 0,.lst _,h=>by simp[gd]at h | k,.loc _,h=>by cases k<;>simp[gd]at h | k,.dlo _,h=>by cases k<;>simp[gd]at h | k,.fn _,h=>by cases k<;>simp[gd]at h | k,.exc _,h=>by cases k<;>simp[gd]at h | k,.scr _,h=>by cases k<;>simp[gd]at h
theorem xW.th{xs:List D}(h:Rw xs){d:D}(n:xW xs d):Th d:=by
 have l5:=h.l5;have g2:∀x∈xs,gd 2 x=true:=λx hx=>(h.it x hx).gd;have c2:∀x∈xs,cl x=true:=λx hx=>(h.it x hx).cl;have up:∀{k:Nat}{d:D},gd k d=true->gd (k+1) d=true:=vH;cases n with
 | tr t=>have q:=kN h t;exact⟨up q.1,.inl q.2⟩ | fx hd=>
  have dl:∀y,gd 2 y=true->cl y=true->Th (.tup (xs.dropLast++[y])):=λy hy hc=>⟨up (vK (by simp;omega) λz hz=>by
    rcases _i.mp hz with hz | hz;·exact g2 z ((_aT xs).subset hz)
    ·simp at hz;rw[hz];exact hy),.inl (uz λz hz=>by
    rcases _i.mp hz with hz | hz;·exact c2 z ((_aT xs).subset hz)
    ·simp at hz;rw[hz];exact hc)⟩;simp only[z0c,z4E,_i,_p,_E,_aB]at hd;rcases hd with (rfl | rfl | rfl | rfl | rfl | rfl | rfl | rfl | rfl) | (rfl | rfl | rfl | rfl | rfl);·exact⟨up (ju (by omega) g2),.inl (kL c2)⟩
  ·exact⟨up (vK (by simp;omega) λz hz=>by
    rcases _i.mp hz with hz | hz;·exact g2 z hz
    ·simp at hz;rw[hz];decide),.inl (uz λz hz=>by
    rcases _i.mp hz with hz | hz;·exact c2 z hz
    ·simp at hz;rw[hz];decide)⟩
  ·exact⟨up (vK (by simp;omega) λz hz=>g2 z ((_aT xs).subset hz)),.inl (uz λz hz=>c2 z ((_aT xs).subset hz))⟩
  ·exact⟨by decide,.inl (by decide +kernel)⟩
  ·exact⟨by decide,.inl (by decide +kernel)⟩
  ·exact⟨by decide,.inr (by decide)⟩
  ·exact⟨by decide,.inl (by decide +kernel)⟩
  ·exact⟨by decide,.inl (by decide +kernel)⟩
  ·exact⟨by decide,.inl (by decide +kernel)⟩
  ·exact dl _ (by decide) (by decide +kernel)
  ·exact dl _ (by decide) (by decide +kernel)
  ·exact dl _ (by decide) (by decide +kernel)
  ·exact dl _ (by decide) (by decide +kernel)
  ·exact⟨ju (by simp) λy hy=>by simp at hy;rw[hy];exact vK (by omega) g2,.inl (kL λy hy=>by simp at hy;rw[hy];exact uz c2)⟩
def fnk:Nat->Mir
 | 0=>zA | 1=>zh | 2=>zG | _=>zo
theorem uY{G:List (Nat×List D)}{all:List D}{s:Sto}{body:D->Ev->Sto->R Fl}(og:okG G all s)(I:Ev->Prop):∀(xs:List D)(Z:Ev),(∀x∈xs,∀Z,I Z->∃Z',body x Z s=.ok (.nx Z') s/\I Z')->I Z->∃Z',wF G all body xs Z s=.ok (.nx Z') s/\I Z'
 | [],Z,_,h=>⟨Z,by simp[wF,og],h⟩ | x::xs,Z,hb,h=>by
  obtain⟨Z1,e,h1⟩:=hb x (by simp) Z h;obtain⟨Z2,e2,h2⟩:=uY og I xs Z1 (λy hy=>hb y (by simp[hy])) h1;exact⟨Z2,by rw[wF,_o og,e];exact e2,h2⟩
theorem zbK{k:Nat}(hk:k<4){v t th kp r:D}{s:Sto}(h:fnk k [v,th] s=.ok r s):z1I (eOp dIx (wz (za (eC (.fn "are_weights")) (za (eC (.fn "is_relation")) (za (eC (.fn "is_base")) (za (eC (.fn "is_showing")) zg))))) (zc 0)) [("are_weights",Pg.zA),("is_relation",Pg.zh),("is_base",Pg.zG),("is_showing",Pg.zo)] (za (zc 1) (za (zc 3) zg)) [some (.int (k:Int)),some v,some t,some th,some kp] s=.ok r s:=by
 have hh:k=0\/k=1\/k=2\/k=3:=by omega
 have l1:∀A B C E:Mir,List.lookup ("is_relation":Str) [("are_weights",A),("is_relation",B),("is_base",C),("is_showing",E)]=some B:=λ_ _ _ _=>rfl;have l2:∀A B C E:Mir,List.lookup ("is_base":Str) [("are_weights",A),("is_relation",B),("is_base",C),("is_showing",E)]=some C:=λ_ _ _ _=>rfl;have l3:∀A B C E:Mir,List.lookup ("is_showing":Str) [("are_weights",A),("is_relation",B),("is_base",C),("is_showing",E)]=some E:=λ_ _ _ _=>rfl;rcases hh with rfl | rfl | rfl | rfl<;>(simp only[fnk]at h;simp[z1I,dIx,zI,atI,ixN,cap,h,l1,l2,l3])
theorem jG {k:Nat} (hk:k<4) {v t:D} {L:List D} {s:Sto} (ht:t=.lst L\/∃l,t=.loc l/\s[l]? = some L) (h:∀d∈L,uG d=true/\fnk k [v,d] s=.ok (.bl false) s):zK [.int (k:Int),v,t] s=.ok (.bl true) s:=by
 have st:zD ["_law_kind","_law_lot","_law_things","_law_thing","_law_kept"] [.int (k:Int),v,t]=[some (.int (k:Int)),some v,some t,none,none]:=rfl;have it:∃G,zY (zc 2) [some (.int (k:Int)),some v,some t,none,none] s=.ok (L,G) s/\okG G L s:=by
  rcases ht with rfl | ⟨l,rfl,e⟩;·exact⟨[],by simp,by intro p hp;simp at hp⟩
  ·exact⟨[(l,L)],by simp[e],by intro p hp;simp at hp;rw[hp];exact e⟩
 obtain⟨G,e1,og⟩:=it;obtain⟨Z',e2,x,y,rfl⟩:=uY (all:=L) (body:=λd Z s=>(xC 3 d Z s).bind λZ' s'=>(zX xg xf) Z' s') og (λZ=>∃x y,Z=[some (.int (k:Int)),some v,some t,x,y]) L [some (.int (k:Int)),some v,some t,none,none] (λd hd Z hZ=>by
  obtain⟨x,y,rfl⟩:=hZ;obtain⟨hr,hf⟩:=h d hd;have r1:z3I [d] s=.ok (.str (zS d).shown) s:=by simp[z3I,hr]
  refine⟨[some (.int (k:Int)),some v,some t,some d,some (.str (zS d).shown)],?_,_,_,rfl⟩;rw[z03,Rb];show zX xg xf [some (.int (k:Int)),some v,some t,some d,y] s=_;rw[zr (Z':=[some (.int (k:Int)),some v,some t,some d,some (.str (zS d).shown)]) (s':=s) (by rw[xg,yD,yo (x:=d) (vr rfl),r1];rfl)];rw[xf,z4d];·rfl
  ·refine z1J (xu ?_) (xu ?_);·rw[op2 (x:=.bl false) (y:=.bl false) (zbK hk hf) rfl];rfl
   ·rw[op2 (x:=.str (zS d).shown) (y:=.str (zS d).shown) (by rw[yo (x:=d) (vr rfl),r1]) (vr rfl)];simp[zaM]) ⟨none,none,rfl⟩;simp only[zK,Mof,vt,st,_q,_H,_Z];rw[zr (by rw[vn,z0b,e1,Rb];exact e2)];rfl
structure Nw(n:Nat)(d:D):Prop where
 kd:Kd d
 no:yB n d=false
theorem z9j{k:Nat}{d:D}(h:gd k d=true):(tyD d).isSome=true:=by cases d<;>first | rfl | (cases k<;>simp[gd]at h)
theorem z5T{k:Nat}{d:D}(h:gd k d=true):Kd d:=by cases d with
 | tup xs=> cases k with
  | zero=>simp[gd]at h | succ k=>
   simp only[gd,_m,_M,_y]at h;exact λx hx=>z9j (h.2 x hx)
 | scr _=>cases k<;>simp[gd]at h | _=>exact z9j h
theorem z7u{i:Int}(h:i.natAbs<2 ^ 104):It (.int i):=⟨z3W (k:=2) (by simp[gd,h]) (by decide) rfl,by simp[gd,h],rfl,rfl⟩
structure Row(n:Nat)(r:List Int):Prop where
 sz:Sz n
 len:r.length=n
 bd:∀x∈r,x.natAbs<2 ^ 104
theorem Row.rw{n:Nat}{r:List Int}(h:Row n r):Rw (iL r):=by
 have:=h.sz;have:=h.len;refine⟨by simp;omega,by simp;omega,λx hx=>?_⟩;obtain⟨i,hi,rfl⟩:=_r.mp hx;exact z7u (h.bd i hi)
theorem xW.nw{n:Nat}{r:List Int}(h:Row n r){d:D}(m:xW (iL r) d):Nw n d:=by
 refine⟨z5T (m.th h.rw).gd,?_⟩;have hs:=h.sz;have hl:=h.len;cases m with
 | tr t=>
  obtain⟨j,b,e⟩:=t.bl;have:¬ (∀x∈_,isI x=true):=λq=>by
   have:=q _ (_s e);simp[isI]at this
  simp only[yB];rw[show List.all _ isI=false by rw[<- Bool.not_eq_true,_y];exact this];simp | fx hd=>
  simp only[z0c,z4E,_i,_p,_E,_aB]at hd;rcases hd with (rfl | rfl | rfl | rfl | rfl | rfl | rfl | rfl | rfl) | (rfl | rfl | rfl | rfl | rfl);·rfl
  ·simp only[yB,_aU,_av];left;simp;omega
  ·simp only[yB,_aU,_av];left;simp;omega
  ·simp only[yB,_aU,_av];left;simp;omega
  ·rfl
  ·rfl
  ·rfl
  ·rfl
  ·rfl
  ·simp[yB,isI]
  ·simp[yB,isI]
  ·simp[yB,isI]
  ·simp[yB,isI]
  ·rfl
section
variable {n m:Nat}{v:List Int}{s:Sto}{d x:D}
theorem z2f(h:z1D n m v)(w:Nw n d):zH [rD v,d,x] s=.ok (.bl false) s:=by
 have a1:=uh (n:=n) w.kd (by have:=h.sz;omega) s;rw[w.no]at a1;have gl:yH [rD v] s=.ok (.int n) s:=by simp[yH,zI,h.len]
 have key:∀e:D,yH [e] s=.ok (.int n) s->zH [e,d,x] s=.ok (.bl false) s:=λe g=>by simp[zH,Mof,uD,zD,a1,g]
 exact key _ gl
theorem z3y(h:z1D n m v)(w:Nw n d):zA [rD v,d] s=.ok (.bl false) s:=by
 have w1:=ya h.toLot s;have w2:=z0I h.toLot s;have w3:∀x,zH [rD v,d,x] s=.ok (.bl false) s:=λx=>z2f h w;have key:∀e:D,zp [e] s=.ok .non s->xE [e] s=.ok (.int (qD v)) s->(∀x,zH [e,d,x] s=.ok (.bl false) s)->zA [e,d] s=.ok (.bl false) s:=λe a1 a2 a3=>by simp[zA,Mof,wE,zD,a1,a2,a3]
 exact key _ w1 w2 w3
theorem ua(h:z1D n m v)(w:Nw n d):zh [rD v,d] s=.ok (.bl false) s:=by
 have w1:=ya h.toLot s;have w3:∀x,zH [rD v,d,x] s=.ok (.bl false) s:=λx=>z2f h w;have key:∀e:D,zp [e] s=.ok .non s->(∀x,zH [e,d,x] s=.ok (.bl false) s)->zh [e,d] s=.ok (.bl false) s:=λe a1 a3=>by simp[zh,Mof,wH,zD,a1,a3]
 exact key _ w1 w3
theorem jt(h:z1D n m v)(hd:(tyD d).isSome=true)(hn:tyD d≠some "list"):zG [rD v,d] s=.ok (.bl false) s:=by
 have w1:=ya h.toLot s;have key:∀e:D,zp [e] s=.ok .non s->zG [e,d] s=.ok (.bl false) s:=λe a1=>by
  obtain⟨t,ht⟩:=_a1.mp hd;have g:gIs "list" d s=.ok (.bl false) s:=by
   simp only[gIs,ht,isT];have:¬ t="list":=λz=>hn (by rw[ht,z]);simp[this]
  simp[zG,Mof,wP,zD,a1,g]
 exact key _ w1
theorem z0N(h:z1D n m v){ds:List D}(hn:ds.length+1≠n):zG [rD v,.lst ds] s=.ok (.bl false) s:=by
 have w1:=ya h.toLot s;have gl:yH [rD v] s=.ok (.int n) s:=by simp[yH,zI,h.len]
 have key:∀e:D,zp [e] s=.ok .non s->yH [e] s=.ok (.int n) s->zG [e,.lst ds] s=.ok (.bl false) s:=λe a1 g=>by
  have g2:yH [.lst ds] s=.ok (.int ds.length) s:=by simp[yH,zI]
  have:¬ ((ds.length:Int)=(n:Int)-1):=by omega
  simp[zG,Mof,wP,zD,a1,g,g2,gIs,tyD,isT,this]
 exact key _ w1 gl
theorem z1F (h:z1D n m v) {ds:List D} (hn:ds.length+1=n) (rel:D->Bool) (hr:∀d∈ds,zh [rD v,d] s=.ok (.bl (rel d)) s) (hx:ds.all rel=false):zG [rD v,.lst ds] s=.ok (.bl false) s:=by
 have w1:=ya h.toLot s;have hsz:=h.sz;have gl:yH [rD v] s=.ok (.int n) s:=by simp[yH,zI,h.len]
 have key:∀e f:D,f=.lst ds->zp [e] s=.ok .non s->yH [e] s=.ok (.int n) s->(∀d∈ds,zh [e,d] s=.ok (.bl (rel d)) s)->zG [e,f] s=.ok (.bl false) s:=λe f hf a1 g hr=>by
  have g2:yH [.lst ds] s=.ok (.int ds.length) s:=by simp[yH,zI]
  have:((ds.length:Int)=(n:Int)-1):=by omega
  have st:zD ["lot","thing"] [e,f]=[some e,some f]:=rfl;simp only[zG,Mof,wP,st,_q,_H,_Z];rw[zr (Z':=[some e,some f]) (s':=s) (by simp[a1])];rw[zr (Z':=[some e,some f]) (s':=s) (by
   rw[ud,z4d];·rfl
   ·refine z1J (z0L (xu ?_)) (xu ?_);·rw[z6q,vr (d:=f) rfl,Rb,hf];simp[gIs,tyD,isT]
    ·rw[op2 (x:=.int (ds.length:Int)) (y:=.int ((n:Int)-1)) (by rw[yo (x:=f) (vr rfl),hf];exact g2) (by rw[op2 (x:=.int (n:Int)) (y:=.int 1) (by rw[yo (x:=e) (vr rfl)];exact g) rfl];rfl),z3B];simp[this])];have c:=comp_map (fi:=zY (zc 1)) (mp:=[some 0,none]) (fg:=xC 1) (fe:=zd zh (za (zc 0) (za (zc 1) zg))) (Z:=[some e,some f]) (s:=s) (λx=>x) (λd=>D.bl (rel d)) (λx=>[some e,some x]) ds (wY (by rw[vr (d:=f) rfl,hf];simp)) (λx _=>by simp) (λx hx=>by rw[call2 (x:=e) (y:=x) (vr rfl) (vr rfl)];exact hr x hx) (by unfold Sz at hsz;simp[cap];omega);have t:tOf (zd z66 (za (zQ (zY (zc 1)) [some 0,none] (xC 1) yJ (zd zh (za (zc 0) (za (zc 1) zg)))) zg)) [some e,some f] s=.ok false s:=by
   refine xu ?_;rw[yo c,z2T,hx]
  have r4:wZ [some e,some f] s=.ok (.rt (.bl false)) s:=by rw[wZ,z4C,z3m,t];rfl
  simp only[z6V,r4,Rb]
 exact key _ _ rfl w1 gl hr
end
theorem zcs{t u:FT}{Z:Ev}{s:Sto}(h:t Z s=.ok true s):fOr t u Z s=.ok true s:=by rw[z6h,h,Rb,_o rfl]
theorem z5b{t u:FT}{Z:Ev}{s:Sto}{b:Bool}(h:t Z s=.ok false s)(h2:u Z s=.ok b s):fOr t u Z s=.ok b s:=by rw[z6h,h,Rb,_I (by decide),h2]
theorem z9T{t:FT}{Z:Ev}{s:Sto}{b:Bool}(h:t Z s=.ok b s):kW t Z s=.ok (!b) s:=by rw[z3m,h];rfl
theorem z5U{f g:FS}{t:FT}{Z:Ev}{s:Sto}(h:t Z s=.ok true s):fIf t f g Z s=f Z s:=by rw[z4C,h,Rb,_o rfl]
section
variable {n m:Nat}{v:List Int}{s:Sto}{d x y z:D}
theorem xa(h:z1D n m v)(hd:(tyD d).isSome=true)(hn:∀xs,d=.tup xs->xs.length≠3):zo [rD v,d] s=.ok (.bl false) s:=by
 have w1:=ya h.toLot s;have key:∀e:D,zp [e] s=.ok .non s->zo [e,d] s=.ok (.bl false) s:=λe a1=>by cases d with
  | tup xs=>
   have g2:yH [.tup xs] s=.ok (.int xs.length) s:=by simp[yH,zI]
   have:¬ ((xs.length:Int)=3):=by have:=hn xs rfl;omega
   simp[zo,Mof,xm,zD,a1,g2,gIs,tyD,isT,this] | _=>first | (exfalso;simp[tyD]at hd;done) | simp[zo,Mof,xm,zD,a1,gIs,tyD,isT]
 exact key _ w1
def kG(n:Nat)(x y:D):Bool:=match x with
 | .int i=>decide (0<i)&&yB n y | _=>false
theorem sh5 {e f:D} (g:yH [e] s=.ok (.int n) s) (hn:n<=1000) (hx:(tyD x).isSome=true) (hy:Kd y): wD [some e,some f,some x,some y,some z] s=if kG n x y=true then .ok (.nx [some e,some f,some x,some y,some z]) s else .ok (.rt (.bl false)) s:=by
 have w:=kj hx s;have a:=uh (n:=n) hy hn s;have t1:tOf (zd yc (za (zc 2) zg)) [some e,some f,some x,some y,some z] s=.ok (isI x) s:=xu (by rw[yo (x:=x) (vr rfl),w]);have t3:kW (tOf (zd zu (za (zc 3) (za (zd yH (za (zc 0) zg)) zg)))) [some e,some f,some x,some y,some z] s=.ok (!yB n y) s:= z9T (xu (by rw[call2 (x:=y) (y:=.int (n:Int)) (vr rfl) (by rw[yo (x:=e) (vr rfl),g]),a]));rw[wD];cases x with
 | int i=>
  have t2:tOf (eOp dLe (zc 2) (eC (.int 0))) [some e,some f,some (.int i),some y,some z] s=.ok (decide (i<=0)) s:=xu (by rw[op2 (x:=.int i) (y:=.int 0) (vr rfl) rfl,zbv]);have t1':kW (tOf (zd yc (za (zc 2) zg))) [some e,some f,some (.int i),some y,some z] s=.ok false s:=z0L t1;by_cases hi:i<=0
  ·have h2:¬ 0<i:=by omega
   rw[z5U (z5b t1' (zcs (by rw[t2,decide_eq_true hi])))];simp[kG,h2]
  ·have h2:0<i:=by omega
   have t2':tOf (eOp dLe (zc 2) (eC (.int 0))) [some e,some f,some (.int i),some y,some z] s=.ok false s:=by rw[t2,_ak hi]
   cases hl:yB n y with
   | true=>
    rw[hl]at t3;rw[z4d (z5b t1' (z5b t2' t3))];simp[kG,h2,hl] | false=>
    rw[hl]at t3;rw[z5U (z5b t1' (z5b t2' t3))];simp[kG,h2,hl]
 | _=>
  rw[z5U (zcs (z9T t1))];simp[kG]
theorem uu (h:z1D n m v) (hx:(tyD x).isSome=true) (hy:Kd y) (hp:kG n x y=false):zo [rD v,.tup [x,y,z]] s=.ok (.bl false) s:=by
 have w1:=ya h.toLot s;have gl:yH [rD v] s=.ok (.int n) s:=by simp[yH,zI,h.len]
 have key:∀e f:D,f=.tup [x,y,z]->zp [e] s=.ok .non s->yH [e] s=.ok (.int n) s->zo [e,f] s=.ok (.bl false) s:=λe f hf a1 g=>by
  have st:zD ["lot","thing","divisor","quotients","line"] [e,f]=[some e,some f,none,none,none]:=rfl;have q5:=sh5 (f:=f) (z:=z) g (by have:=h.sz;omega) hx hy;rw[hp]at q5;simp only[zo,Mof,xm,st,_q,_H,_Z];rw[zr (Z':=[some e,some f,none,none,none]) (s':=s) (by simp[a1])];rw[zr (Z':=[some e,some f,none,none,none]) (s':=s) (by
   rw[wC,z4d];·rfl
   ·refine z1J (z0L (xu ?_)) (xu ?_);·rw[z6q,vr (d:=f) rfl,Rb,hf];simp[gIs,tyD,isT]
    ·rw[op2 (x:=.int 3) (y:=.int 3) (by rw[yo (x:=f) (vr rfl),hf];simp[yH,zI]) rfl,z3B];simp)];rw[zr (Z':=[some e,some f,some x,some y,some z]) (s':=s) (by rw[wB,z5p,vr (d:=f) rfl,Rb,hf];simp)];simp only[z6V,q5,Rb,Bool.false_eq_true,if_false]
 exact key _ _ rfl w1 gl
theorem z1c {g:Int} {o:List Int} {b:Bool} (h:z1D n m v) (hm:m<=2000) (g0:0<g) (gb:g.natAbs<2 ^ 104) (ho:o.length=n) (ob:∀x∈o,x.natAbs<2 ^ 104) (hv:v=o.map λx=>g*x) (hz:zH [rD v,z,.int g] s=.ok (.bl b) s):zo [rD v,.tup [.int g,rD o,z]] s=.ok (.bl b) s:=by
 have w1:=ya h.toLot s;have hs:=h.sz;have n4:n<=4:=by unfold Sz at hs;omega
 have gl:yH [rD v] s=.ok (.int n) s:=by simp[yH,zI,h.len]
 have lo:yB n (rD o)=true:=by simp[yB,ho,isI]
 have kd:Kd (rD o):=λx hx=>by obtain⟨i,_,rfl⟩:=_r.mp hx;rfl
 have key:∀e f q:D,q=rD o->e=rD v->f=.tup [.int g,q,z]->zp [e] s=.ok .non s->yH [e] s=.ok (.int n) s->zH [e,z,.int g] s=.ok (.bl b) s->Kd q->yB n q=true->zo [e,f] s=.ok (.bl b) s:=λe f q hq he hf a1 gg a4 kd lo=>by
  have st:zD ["lot","thing","divisor","quotients","line"] [e,f]=[some e,some f,none,none,none]:=rfl;have q5:=sh5 (f:=f) (x:=.int g) (y:=q) (z:=z) gg (by omega) rfl kd;have p5:kG n (.int g) q=true:=by simp[kG,g0,lo]
  rw[p5,_o rfl]at q5;simp only[zo,Mof,xm,st,_q,_H,_Z];rw[zr (Z':=[some e,some f,none,none,none]) (s':=s) (by simp[a1])];rw[zr (Z':=[some e,some f,none,none,none]) (s':=s) (by
   rw[wC,z4d];·rfl
   ·refine z1J (z0L (xu ?_)) (xu ?_);·rw[z6q,vr (d:=f) rfl,Rb,hf];simp[gIs,tyD,isT]
    ·rw[op2 (x:=.int 3) (y:=.int 3) (by rw[yo (x:=f) (vr rfl),hf];simp[yH,zI]) rfl,z3B];simp)];rw[zr (Z':=[some e,some f,some (.int g),some q,some z]) (s':=s) (by rw[wB,z5p,vr (d:=f) rfl,Rb,hf];simp)];rw[zr q5];have c:=comp_map (fi:=zY (zc 3)) (mp:=[some 2,none]) (fg:=xC 1) (fe:=eOp yP (zc 0) (zc 1)) (Z:=[some e,some f,some (.int g),some q,some z]) (s:=s) D.int (λx=>D.int (g*x)) (λx=>[some (.int g),some (.int x)]) o (uy (by rw[vr (d:=q) rfl,hq])) (λx _=>by simp) (λx hx=>by
   rw[op2 (x:=.int g) (y:=.int x) (vr rfl) (vr rfl)];exact qb s gb (by decide) (ob x hx) (by decide)) (by simp[cap];omega);have c2:o.map (λx=>D.int (g*x))=iL v:=by rw[hv];simp[iL,_ag]
  rw[c2]at c;simp only[vM,qq,z7p];rw[op2 (x:=rD v) (y:=rD v) (by rw[yo c];exact uq _ s) (by rw[vr (d:=e) rfl,he]),eq_self (z7m 0 v) (by decide) s,Rb];simp only;rw[z55 (x:=e) (y:=z) (z:=.int g) (vr rfl) (vr rfl) (vr rfl),a4];rfl
 exact key _ _ _ rfl rfl rfl w1 gl hz kd lo
end
end K93
set_option maxRecDepth 1000000
set_option maxHeartbeats 4000000
namespace K93
open Pm
theorem zcw(a b c d e f g h i:Int):d3 a b c d e f g h i=-d3 a b c g h i d e f:=by unfold d3 d2;grind
theorem zdi(a b c d e f g h i j k l m n o p:Int):d4 a b c d e f g h i j k l m n o p=-d4 a b c d i j k l e f g h m n o p:=by unfold d4 d3 d2;grind
theorem zbr(a b c d e f g h i j k l m n o p:Int):d4 a b c d e f g h i j k l m n o p=-d4 a b c d e f g h m n o p i j k l:=by unfold d4 d3 d2;grind
theorem zcC(t a b c d:Int):d2 a b (t*c) (t*d)=t*d2 a b c d:=by unfold d2;grind
theorem zcS(t a b c d e f g h i:Int):d3 a b c (t*d) (t*e) (t*f) g h i=t*d3 a b c d e f g h i:=by unfold d3 d2;grind
theorem zbx(t a b c d e f g h i:Int):d3 a b c d e f (t*g) (t*h) (t*i)=t*d3 a b c d e f g h i:=by unfold d3 d2;grind
theorem zcY(t a b c d e f g h i j k l m n o p:Int):d4 a b c d (t*e) (t*f) (t*g) (t*h) i j k l m n o p=t*d4 a b c d e f g h i j k l m n o p:=by unfold d4 d3 d2;grind
theorem zbL(t a b c d e f g h i j k l m n o p:Int):d4 a b c d e f g h (t*i) (t*j) (t*k) (t*l) m n o p=t*d4 a b c d e f g h i j k l m n o p:=by unfold d4 d3 d2;grind
theorem z9h(t a b c d e f g h i j k l m n o p:Int):d4 a b c d e f g h i j k l (t*m) (t*n) (t*o) (t*p)=t*d4 a b c d e f g h i j k l m n o p:=by unfold d4 d3 d2;grind
theorem z8W{α:Type}{l:List α}(h:l.length=1):∃a,l=[a]:=by match l,h with | [a],_=>exact⟨a,rfl⟩
theorem z5X{n:Nat}(hn:Sz n){v x y:List Int}{A B:Tb}(h:Tab n (v::(A++x::y::B))):det 4 (v::(A++x::y::B))=-det 4 (v::(A++y::x::B)):=by
 have hl:=h.len;simp only[_q,_am]at hl;have hv:=h.row v (by simp);have hx:=h.row x (by simp);have hy:=h.row y (by simp);rcases hn with rfl | rfl | rfl;·omega
 ·have hA:A=[]:=_w (by omega);have hB:B=[]:=_w (by omega);subst hA hB;obtain⟨a,b,c,rfl⟩:=z0q hv;obtain⟨d,e,f,rfl⟩:=z0q hx;obtain⟨g,i,j,rfl⟩:=z0q hy;simp only[_C];rw[z5F 1,z5F 1,zcw]
 ·obtain⟨a,b,c,d,rfl⟩:=um hv;obtain⟨e,f,g,i,rfl⟩:=um hx;obtain⟨j,k,l,m,rfl⟩:=um hy;have hc:(A.length=0/\B.length=1)\/(A.length=1/\B.length=0):=by omega
  rcases hc with⟨h1,h2⟩ | ⟨h1,h2⟩
  ·have hA:A=[]:=_w h1;subst hA;obtain⟨z,rfl⟩:=z8W h2;obtain⟨p,q,r,t,rfl⟩:=um (h.row z (by simp));simp only[_C];rw[z3a 0,z3a 0,zdi]
  ·have hB:B=[]:=_w h2;subst hB;obtain⟨z,rfl⟩:=z8W h1;obtain⟨p,q,r,t,rfl⟩:=um (h.row z (by simp));simp only[_ao,_C];rw[z3a 0,z3a 0,zbr]
theorem z1z{n:Nat}(hn:Sz n){v x:List Int}{A B:Tb}(t:Int)(h:Tab n (v::(A++x::B))):det 4 (v::(A++(x.map λy=>t*y)::B))=t*det 4 (v::(A++x::B)):=by
 have hl:=h.len;simp only[_q,_am]at hl;have hv:=h.row v (by simp);have hx:=h.row x (by simp);rcases hn with rfl | rfl | rfl
 ·have hA:A=[]:=_w (by omega);have hB:B=[]:=_w (by omega);subst hA hB;obtain⟨a,b,rfl⟩:=z4o hv;obtain⟨d,e,rfl⟩:=z4o hx;simp only[_C,_L,_aW];rw[z93 2,z93 2,zcC]
 ·obtain⟨a,b,c,rfl⟩:=z0q hv;obtain⟨d,e,f,rfl⟩:=z0q hx;have hc:(A.length=0/\B.length=1)\/(A.length=1/\B.length=0):=by omega
  rcases hc with⟨h1,h2⟩ | ⟨h1,h2⟩
  ·have hA:A=[]:=_w h1;subst hA;obtain⟨z,rfl⟩:=z8W h2;obtain⟨p,q,r,rfl⟩:=z0q (h.row z (by simp));simp only[_C,_L,_aW];rw[z5F 1,z5F 1,zcS]
  ·have hB:B=[]:=_w h2;subst hB;obtain⟨z,rfl⟩:=z8W h1;obtain⟨p,q,r,rfl⟩:=z0q (h.row z (by simp));simp only[_ao,_C,_L,_aW];rw[z5F 1,z5F 1,zbx]
 ·obtain⟨a,b,c,d,rfl⟩:=um hv;obtain⟨e,f,g,i,rfl⟩:=um hx;have hc:(A.length=0/\B.length=2)\/(A.length=1/\B.length=1)\/(A.length=2/\B.length=0):=by omega
  rcases hc with⟨h1,h2⟩ | ⟨h1,h2⟩ | ⟨h1,h2⟩
  ·have hA:A=[]:=_w h1;subst hA;obtain⟨z,w,rfl⟩:=z4o h2;obtain⟨p,q,r,t,rfl⟩:=um (h.row z (by simp));obtain⟨p',q',r',t',rfl⟩:=um (h.row w (by simp));simp only[_C,_L,_aW];rw[z3a 0,z3a 0,zcY]
  ·obtain⟨z,rfl⟩:=z8W h1;obtain⟨w,rfl⟩:=z8W h2;obtain⟨p,q,r,t,rfl⟩:=um (h.row z (by simp));obtain⟨p',q',r',t',rfl⟩:=um (h.row w (by simp));simp only[_ao,_C,_L,_aW];rw[z3a 0,z3a 0,zbL]
  ·have hB:B=[]:=_w h2;subst hB;obtain⟨z,w,rfl⟩:=z4o h1;obtain⟨p,q,r,t,rfl⟩:=um (h.row z (by simp));obtain⟨p',q',r',t',rfl⟩:=um (h.row w (by simp));simp only[_ao,_C,_L,_aW];rw[z3a 0,z3a 0,z9h]
theorem Tab.perm{n:Nat}{v:List Int}{A l1 l2:Tb}(p:l1.Perm l2)(h:Tab n (v::(A++l1))):Tab n (v::(A++l2)):=by
 have q:(v::(A++l1)).Perm (v::(A++l2)):=(p.append_left A).cons v;exact⟨by rw[<- q.length_eq];exact h.len,λr hr=>h.row r (q.mem_iff.mpr hr)⟩
theorem z5R{n:Nat}(hn:Sz n){v:List Int}{l1 l2:Tb}(p:l1.Perm l2):∀A,Tab n (v::(A++l1))->(det 4 (v::(A++l1))).natAbs=(det 4 (v::(A++l2))).natAbs:=by induction p with
 | nil=>intro A _;rfl | cons x p ih=>
  intro A h;have:=ih (A++[x]) (by simpa using h);simpa using this | swap x y l=>intro A h;rw[z5X hn h,Int.natAbs_neg] | trans p q ih1 ih2=>intro A h;rw[ih1 A h,ih2 A (Tab.perm p h)]
inductive Sg:Tb->Tb->Prop | nil:Sg [] [] | cons {x:List Int}{P R:Tb}{c:Int}(hc:c=1\/c=-1)(h:Sg P R):Sg (x::P) ((x.map λy=>c*y)::R)
theorem Sg.snoc{x:List Int}{c:Int}(hc:c=1\/c=-1):∀{P R:Tb},Sg P R->Sg (P++[x]) (R++[x.map λy=>c*y])
 | _,_,.nil=>.cons hc .nil | _,_,.cons hd h=>.cons hd (h.snoc hc)
theorem Sg.tab{n:Nat}{v:List Int}{P R:Tb}(g:Sg P R):∀A,Tab n (v::(A++P))->Tab n (v::(A++R)):=by induction g with
 | nil=>intro A h;exact h | @cons x P R c hc g ih=>
  intro A h;have h1:Tab n (v::(A++(x.map λy=>c*y)::P)):=by
   refine⟨by have:=h.len;simpa using this,λr hr=>?_⟩;simp only[_p,_i]at hr;rcases hr with rfl | hr | rfl | hr;·exact h.row r (by simp)
   ·exact h.row r (by simp[hr])
   ·rw[_Y];exact h.row x (by simp)
   ·exact h.row r (by simp[hr])
  have:=ih (A++[x.map λy=>c*y]) (by simpa using h1);simpa using this
theorem z6F{n:Nat}(hn:Sz n){v:List Int}{P R:Tb}(g:Sg P R):∀A,Tab n (v::(A++P))->(det 4 (v::(A++R))).natAbs=(det 4 (v::(A++P))).natAbs:=by induction g with
 | nil=>intro A _;rfl | @cons x P R c hc g ih=>
  intro A h;have h1:Tab n (v::(A++(x.map λy=>c*y)::P)):=by
   refine⟨by have:=h.len;simpa using this,λr hr=>?_⟩;simp only[_p,_i]at hr;rcases hr with rfl | hr | rfl | hr;·exact h.row r (by simp)
   ·exact h.row r (by simp[hr])
   ·rw[_Y];exact h.row x (by simp)
   ·exact h.row r (by simp[hr])
  have e1:=ih (A++[x.map λy=>c*y]) (by simpa using h1);simp only[_aV,_ao,_C]at e1;rw[e1,z1z hn c h,_bb];rcases hc with rfl | rfl<;>simp
def rowOf(n k:Nat)(o:List Int)(j:Nat):List Int:=((List.range n).map λp=>if p=j then (1:Int) else 0).set k (0-o.getD j 0)
def xw(n k:Nat)(o:List Int):Tb:=((List.range n).filter λj=>decide (j≠k)).map (rowOf n k o)
structure Lo(n:Nat)(g:Int)(o:List Int)(k:Nat):Prop where
 sz:Sz n
 len:o.length=n
 kn:k<n
 at_:o.getD k 0=1
 bd:∀x∈o,0<=x/\x<100000000000000
 g1:1<=g
 g2:g<=1000000000000000
def yX(g:Int)(o:List Int):List Int:=o.map λx=>g*x
theorem z5W{d S g:Int}(hg:1<=g)(hS:0<=S)(e:d=g*S\/d=-(g*S)):(d.natAbs:Int)=g*S:=by
 have p:0<=g*S:=_bc (by omega) hS;omega
theorem jc{n:Nat}{g:Int}{o:List Int}{k:Nat}(h:Lo n g o k): ((det 4 (yX g o::xw n k o)).natAbs:Int)*g=dot (yX g o) (yX g o)/\(∀r∈xw n k o,dot r (yX g o)=0)/\dot (((List.range n).map λp=>if p=k then (1:Int) else 0)) (yX g o)=g:=by
 have sq:∀x:Int,0<=x*x:=λx=>by
  rcases _bw 0 x with q | q;·exact _bc q q
  ·exact _aA q q
 have kn:=h.kn;rcases z1X h.sz h.len with⟨rfl,a,b,rfl⟩ | ⟨rfl,a,b,c,rfl⟩ | ⟨rfl,a,b,c,d,rfl⟩
 ·have hk:k=0\/k=1:=by omega
  rcases hk with rfl | rfl
  ·have e1:a=1:=h.at_;subst e1;have er:xw 2 0 [1,b]=[[0-b,1]]:=rfl;have el:yX g [1,b]=[g*1,g*b]:=rfl;rw[er,el];have S0:(0:Int)<=1*1+b*b:=by have:=sq b;omega
   refine⟨?_,?_,?_⟩
   ·have e:d2 (g*1) (g*b) (0-b) 1=g*(1*1+b*b)\/d2 (g*1) (g*b) (0-b) 1=-(g*(1*1+b*b)):=by first | (left;unfold d2;grind) | (right;unfold d2;grind)
    rw[z93 2,z5W h.g1 S0 e];simp only[dot,_e,_g,_t,_A];grind
   ·intro r hr;simp only[_p,_E,_aB]at hr;subst hr;simp only[dot,_e,_g,_t,_A];grind
   ·show dot [1,0] _=g;simp only[dot,_e,_g,_t,_A];grind
  ·have e1:b=1:=h.at_;subst e1;have er:xw 2 1 [a,1]=[[1,0-a]]:=rfl;have el:yX g [a,1]=[g*a,g*1]:=rfl;rw[er,el];have S0:(0:Int)<=a*a+1*1:=by have:=sq a;omega
   refine⟨?_,?_,?_⟩
   ·have e:d2 (g*a) (g*1) 1 (0-a)=g*(a*a+1*1)\/d2 (g*a) (g*1) 1 (0-a)=-(g*(a*a+1*1)):=by first | (left;unfold d2;grind) | (right;unfold d2;grind)
    rw[z93 2,z5W h.g1 S0 e];simp only[dot,_e,_g,_t,_A];grind
   ·intro r hr;simp only[_p,_E,_aB]at hr;subst hr;simp only[dot,_e,_g,_t,_A];grind
   ·show dot [0,1] _=g;simp only[dot,_e,_g,_t,_A];grind
 ·have hk:k=0\/k=1\/k=2:=by omega
  rcases hk with rfl | rfl | rfl
  ·have e1:a=1:=h.at_;subst e1;have er:xw 3 0 [1,b,c]=[[0-b,1,0],[0-c,0,1]]:=rfl;have el:yX g [1,b,c]=[g*1,g*b,g*c]:=rfl;rw[er,el];have S0:(0:Int)<=1*1+b*b+c*c:=by have:=sq b;have:=sq c;omega
   refine⟨?_,?_,?_⟩
   ·have e:d3 (g*1) (g*b) (g*c) (0-b) 1 0 (0-c) 0 1=g*(1*1+b*b+c*c)\/d3 (g*1) (g*b) (g*c) (0-b) 1 0 (0-c) 0 1=-(g*(1*1+b*b+c*c)):=by first | (left;unfold d3 d2;grind) | (right;unfold d3 d2;grind)
    rw[z5F 1,z5W h.g1 S0 e];simp only[dot,_e,_g,_t,_A];grind
   ·intro r hr;simp only[_p,_E,_aB]at hr;rcases hr with rfl | rfl<;>(simp only[dot,_e,_g,_t,_A];grind)
   ·show dot [1,0,0] _=g;simp only[dot,_e,_g,_t,_A];grind
  ·have e1:b=1:=h.at_;subst e1;have er:xw 3 1 [a,1,c]=[[1,0-a,0],[0,0-c,1]]:=rfl;have el:yX g [a,1,c]=[g*a,g*1,g*c]:=rfl;rw[er,el];have S0:(0:Int)<=a*a+1*1+c*c:=by have:=sq a;have:=sq c;omega
   refine⟨?_,?_,?_⟩
   ·have e:d3 (g*a) (g*1) (g*c) 1 (0-a) 0 0 (0-c) 1=g*(a*a+1*1+c*c)\/d3 (g*a) (g*1) (g*c) 1 (0-a) 0 0 (0-c) 1=-(g*(a*a+1*1+c*c)):=by first | (left;unfold d3 d2;grind) | (right;unfold d3 d2;grind)
    rw[z5F 1,z5W h.g1 S0 e];simp only[dot,_e,_g,_t,_A];grind
   ·intro r hr;simp only[_p,_E,_aB]at hr;rcases hr with rfl | rfl<;>(simp only[dot,_e,_g,_t,_A];grind)
   ·show dot [0,1,0] _=g;simp only[dot,_e,_g,_t,_A];grind
  ·have e1:c=1:=h.at_;subst e1;have er:xw 3 2 [a,b,1]=[[1,0,0-a],[0,1,0-b]]:=rfl;have el:yX g [a,b,1]=[g*a,g*b,g*1]:=rfl;rw[er,el];have S0:(0:Int)<=a*a+b*b+1*1:=by have:=sq a;have:=sq b;omega
   refine⟨?_,?_,?_⟩
   ·have e:d3 (g*a) (g*b) (g*1) 1 0 (0-a) 0 1 (0-b)=g*(a*a+b*b+1*1)\/d3 (g*a) (g*b) (g*1) 1 0 (0-a) 0 1 (0-b)=-(g*(a*a+b*b+1*1)):=by first | (left;unfold d3 d2;grind) | (right;unfold d3 d2;grind)
    rw[z5F 1,z5W h.g1 S0 e];simp only[dot,_e,_g,_t,_A];grind
   ·intro r hr;simp only[_p,_E,_aB]at hr;rcases hr with rfl | rfl<;>(simp only[dot,_e,_g,_t,_A];grind)
   ·show dot [0,0,1] _=g;simp only[dot,_e,_g,_t,_A];grind
 ·have hk:k=0\/k=1\/k=2\/k=3:=by omega
  rcases hk with rfl | rfl | rfl | rfl
  ·have e1:a=1:=h.at_;subst e1;have er:xw 4 0 [1,b,c,d]=[[0-b,1,0,0],[0-c,0,1,0],[0-d,0,0,1]]:=rfl;have el:yX g [1,b,c,d]=[g*1,g*b,g*c,g*d]:=rfl;rw[er,el];have S0:(0:Int)<=1*1+b*b+c*c+d*d:=by have:=sq b;have:=sq c;have:=sq d;omega
   refine⟨?_,?_,?_⟩
   ·have e:d4 (g*1) (g*b) (g*c) (g*d) (0-b) 1 0 0 (0-c) 0 1 0 (0-d) 0 0 1=g*(1*1+b*b+c*c+d*d)\/d4 (g*1) (g*b) (g*c) (g*d) (0-b) 1 0 0 (0-c) 0 1 0 (0-d) 0 0 1=-(g*(1*1+b*b+c*c+d*d)):=by first | (left;unfold d4 d3 d2;grind) | (right;unfold d4 d3 d2;grind)
    rw[z3a 0,z5W h.g1 S0 e];simp only[dot,_e,_g,_t,_A];grind
   ·intro r hr;simp only[_p,_E,_aB]at hr;rcases hr with rfl | rfl | rfl<;>(simp only[dot,_e,_g,_t,_A];grind)
   ·show dot [1,0,0,0] _=g;simp only[dot,_e,_g,_t,_A];grind
  ·have e1:b=1:=h.at_;subst e1;have er:xw 4 1 [a,1,c,d]=[[1,0-a,0,0],[0,0-c,1,0],[0,0-d,0,1]]:=rfl;have el:yX g [a,1,c,d]=[g*a,g*1,g*c,g*d]:=rfl;rw[er,el];have S0:(0:Int)<=a*a+1*1+c*c+d*d:=by have:=sq a;have:=sq c;have:=sq d;omega
   refine⟨?_,?_,?_⟩
   ·have e:d4 (g*a) (g*1) (g*c) (g*d) 1 (0-a) 0 0 0 (0-c) 1 0 0 (0-d) 0 1=g*(a*a+1*1+c*c+d*d)\/d4 (g*a) (g*1) (g*c) (g*d) 1 (0-a) 0 0 0 (0-c) 1 0 0 (0-d) 0 1=-(g*(a*a+1*1+c*c+d*d)):=by first | (left;unfold d4 d3 d2;grind) | (right;unfold d4 d3 d2;grind)
    rw[z3a 0,z5W h.g1 S0 e];simp only[dot,_e,_g,_t,_A];grind
   ·intro r hr;simp only[_p,_E,_aB]at hr;rcases hr with rfl | rfl | rfl<;>(simp only[dot,_e,_g,_t,_A];grind)
   ·show dot [0,1,0,0] _=g;simp only[dot,_e,_g,_t,_A];grind
  ·have e1:c=1:=h.at_;subst e1;have er:xw 4 2 [a,b,1,d]=[[1,0,0-a,0],[0,1,0-b,0],[0,0,0-d,1]]:=rfl;have el:yX g [a,b,1,d]=[g*a,g*b,g*1,g*d]:=rfl;rw[er,el];have S0:(0:Int)<=a*a+b*b+1*1+d*d:=by have:=sq a;have:=sq b;have:=sq d;omega
   refine⟨?_,?_,?_⟩
   ·have e:d4 (g*a) (g*b) (g*1) (g*d) 1 0 (0-a) 0 0 1 (0-b) 0 0 0 (0-d) 1=g*(a*a+b*b+1*1+d*d)\/d4 (g*a) (g*b) (g*1) (g*d) 1 0 (0-a) 0 0 1 (0-b) 0 0 0 (0-d) 1=-(g*(a*a+b*b+1*1+d*d)):=by first | (left;unfold d4 d3 d2;grind) | (right;unfold d4 d3 d2;grind)
    rw[z3a 0,z5W h.g1 S0 e];simp only[dot,_e,_g,_t,_A];grind
   ·intro r hr;simp only[_p,_E,_aB]at hr;rcases hr with rfl | rfl | rfl<;>(simp only[dot,_e,_g,_t,_A];grind)
   ·show dot [0,0,1,0] _=g;simp only[dot,_e,_g,_t,_A];grind
  ·have e1:d=1:=h.at_;subst e1;have er:xw 4 3 [a,b,c,1]=[[1,0,0,0-a],[0,1,0,0-b],[0,0,1,0-c]]:=rfl;have el:yX g [a,b,c,1]=[g*a,g*b,g*c,g*1]:=rfl;rw[er,el];have S0:(0:Int)<=a*a+b*b+c*c+1*1:=by have:=sq a;have:=sq b;have:=sq c;omega
   refine⟨?_,?_,?_⟩
   ·have e:d4 (g*a) (g*b) (g*c) (g*1) 1 0 0 (0-a) 0 1 0 (0-b) 0 0 1 (0-c)=g*(a*a+b*b+c*c+1*1)\/d4 (g*a) (g*b) (g*c) (g*1) 1 0 0 (0-a) 0 1 0 (0-b) 0 0 1 (0-c)=-(g*(a*a+b*b+c*c+1*1)):=by first | (left;unfold d4 d3 d2;grind) | (right;unfold d4 d3 d2;grind)
    rw[z3a 0,z5W h.g1 S0 e];simp only[dot,_e,_g,_t,_A];grind
   ·intro r hr;simp only[_p,_E,_aB]at hr;rcases hr with rfl | rfl | rfl<;>(simp only[dot,_e,_g,_t,_A];grind)
   ·show dot [0,0,0,1] _=g;simp only[dot,_e,_g,_t,_A];grind
open L2 Dd Pg Pn
theorem z4I {n m k:Nat} {v:List Int} {Rw:Tb} (h:z1D n m v) (hl:Rw.length+1=n) (hr:∀x∈Rw,x.length=n) (hb:Bd k Rw) (hm:m<=330) (hk:k<=330) (h0:∀x∈Rw,dot x v=0) (s:Sto):zG [rD v,.lst (Rw.map rD)] s=.ok (.bl (decide (((det 4 (v::Rw)).natAbs:Int)*qD v=dot v v))) s:=by
 have w1:=ya h.toLot s;have n4:n<=4:=by have:=h.sz;unfold Sz at this;omega
 have rel:∀x∈Rw,zh [rD v,rD x] s=.ok (.bl true) s:=λx hx=>by
  have:=vc h (hr x hx) (hb x hx) (by omega) (by omega) s;rw[h0 x hx]at this;simpa using this
 have g1:yH [.lst (Rw.map rD)] s=.ok (.int (Rw.length:Nat)) s:=by simp[yH,zI]
 have g2:yH [rD v] s=.ok (.int (n:Nat)) s:=by simp[yH,zI,h.len]
 have tM:Tab n (v::Rw):=⟨by rw[_q,hl],λx hx=>by
  rcases _p.mp hx with rfl | hx;·exact h.len
  ·exact hr x hx⟩;have bM:Bd 330 (v::Rw):=λx hx y hy=>by
  rcases _p.mp hx with rfl | hx;·exact _h (h.abs y hy) (_V (by decide) hm)
  ·exact _h (hb x hx y hy) (_V (by decide) hk)
 have nu:=z6w s (.inr h.sz) tM bM (by decide);have db:=z4L 4 (v::Rw) bM (by simp) (by rw[tM.len];exact n4);have gb:=z7E h;have c1:=z0I h.toLot s;have tg:yy [rD v,rD v] s=.ok (.int (dot v v)) s:=z08 s h.abs h.abs (by omega) (by omega) (by rw[h.len];exact n4);have mu:yP (.int ((det 4 (v::Rw)).natAbs:Int)) (.int (qD v)) s=.ok (.int (((det 4 (v::Rw)).natAbs:Int)*qD v)) s:=by
  refine qb (m:=1328) (k:=330) s ?_ (by decide) (_h gb.1 (_V (by decide) hm)) (by decide);rw[Int.natAbs_natCast];exact _h db (_V (by decide) (by rw[tM.len];omega))
 have key:∀d e:D,d=rD v->e=.lst (Rw.map rD)->zG [d,e] s=.ok (.bl (decide (((det 4 (v::Rw)).natAbs:Int)*qD v=dot v v))) s:=λd e hd' he=>by
  have st:zD ["lot","thing"] [d,e]=[some d,some e]:=rfl;have a1:zp [d] s=.ok .non s:=by rw[hd'];exact w1
  have b1:yH [e] s=.ok (.int (Rw.length:Nat)) s:=by rw[he];exact g1
  have b2:yH [d] s=.ok (.int (n:Nat)) s:=by rw[hd'];exact g2
  have rl:∀x∈Rw,zh [d,rD x] s=.ok (.bl true) s:=by rw[hd'];exact rel
  simp only[zG,Mof,wP,st,_q,_H,_Z];rw[zr (Z':=[some d,some e]) (s':=s) (by simp[a1])];rw[zr (Z':=[some d,some e]) (s':=s) (by
   rw[ud,z4d];·rfl
   ·refine z1J (z0L (xu ?_)) (xu ?_);·rw[z6q,vr (d:=e) rfl,Rb,he];simp[gIs,tyD,isT]
    ·rw[op2 (x:=.int (Rw.length:Nat)) (y:=.int ((n:Nat)-1)) (by rw[yo (x:=e) (vr rfl)];exact b1) (by rw[op2 (x:=.int (n:Nat)) (y:=.int 1) (by rw[yo (x:=d) (vr rfl)];exact b2) rfl];rfl),z3B];have:(Rw.length:Int)=(n:Nat)-1:=by omega
     simp[this])];rw[zr (Z':=[some d,some e]) (s':=s) (by
   have c:=comp_map (fi:=zY (zc 1)) (mp:=[some 0,none]) (fg:=xC 1) (fe:=zd zh (za (zc 0) (za (zc 1) zg))) (Z:=[some d,some e]) (s:=s) rD (λ_=>D.bl true) (λx=>[some d,some (rD x)]) Rw (wY (by rw[vr (d:=e) rfl,he])) (λx _=>by simp) (λx hx=>by rw[call2 (x:=d) (y:=rD x) (vr rfl) (vr rfl)];exact rl x hx) (by simp[cap];omega);rw[wZ,z4d];·rfl
   ·refine z0L (xu ?_);rw[yo c];exact z2S s (by intro x hx;obtain⟨_,_,rfl⟩:=_r.mp hx;rfl))];have t1:eOp yL (wq (za (zc 0) zg)) (zd zM (za (zc 1) zg)) [some d,some e] s=.ok (tD (v::Rw)) s:=by
   rw[op2 (x:=.tup [d]) (y:=.tup (Rw.map rD)) (by simp[cap]) (by rw[yo (x:=e) (vr rfl),he];exact uq _ s),kQ,_o (by simp[cap];omega),hd'];rfl
  have t2:zd z8R (za (zd wf (za (eOp yL (wq (za (zc 0) zg)) (zd zM (za (zc 1) zg))) zg)) zg) [some d,some e] s=.ok (.int ((det 4 (v::Rw)).natAbs:Int)) s:=by
   rw[yo (x:=.int (det 4 (v::Rw))) (by rw[yo t1];exact nu)];exact zbP _ s
  simp only[jj,qq];rw[op2 (x:=.int (((det 4 (v::Rw)).natAbs:Int)*qD v)) (y:=.int (dot v v)) (by rw[op2 t2 (y:=.int (qD v)) (by rw[yo (x:=d) (vr rfl),hd'];exact c1)];exact mu) (by rw[call2 (x:=d) (y:=d) (vr rfl) (vr rfl),hd'];exact tg),z67];rfl
 exact key _ _ rfl rfl
section
variable {n k:Nat}{g:Int}{o:List Int}
theorem Lo.mem_at(h:Lo n g o k):(1:Int)∈o:=by
 have hk:k<o.length:=by rw[h.len];exact h.kn
 have e:=h.at_;rw[_aC,_d hk,_ap]at e;rw[<- e];exact _ad hk
theorem Lo.lot(h:Lo n g o k):z1D n 104 (yX g o):=by
 refine⟨⟨h.sz,by simp[yX,h.len],λx hx=>?_,g,?_,by have:=h.g1;omega⟩,λx hx=>?_⟩
 ·obtain⟨y,hy,rfl⟩:=_r.mp hx;exact _bc (by have:=h.g1;omega) (h.bd y hy).1
 ·exact _r.mpr ⟨1,h.mem_at,by simp⟩
 ·obtain⟨y,hy,rfl⟩:=_r.mp hx;have b:=h.bd y hy;have h1:g*y<=1000000000000000*y:=Int.mul_le_mul_of_nonneg_right h.g2 b.1;have h2:(1000000000000000*100000000000000:Int)<2 ^ 104:=by decide +kernel
  omega
theorem Lo.gcd(h:Lo n g o k):qD (yX g o)=g:=by
 have d1:g ∣ qD (yX g o):=z5Z λx hx=>by
  obtain⟨y,hy,rfl⟩:=_r.mp hx;exact _bJ g y
 have d2:qD (yX g o) ∣ g:=z34 g (_r.mpr ⟨1,h.mem_at,by simp⟩);have nn:=z4R (yX g o);have g1:=h.g1;exact Int.dvd_antisymm nn (by omega) d2 d1
theorem Lo.obd(h:Lo n g o k):∀x∈o,x.natAbs<2 ^ 100:=λx hx=>by
 have b:=h.bd x hx;have:(100000000000000:Nat)<2 ^ 100:=by decide +kernel
 omega
theorem Lo.gbd(h:Lo n g o k):g.natAbs<2 ^ 100:=by
 have:=h.g1;have:=h.g2;have:(1000000000000000:Nat)<2 ^ 100:=by decide +kernel
 omega
theorem ux(h:Lo n g o k):(xw n k o).length+1=n:=by
 have kn:=h.kn;rcases h.sz with rfl | rfl | rfl
 ·have hk:k=0\/k=1:=by omega
  rcases hk with rfl | rfl<;>rfl
 ·have hk:k=0\/k=1\/k=2:=by omega
  rcases hk with rfl | rfl | rfl<;>rfl
 ·have hk:k=0\/k=1\/k=2\/k=3:=by omega
  rcases hk with rfl | rfl | rfl | rfl<;>rfl
theorem z3l(h:Lo n g o k)(j:Nat):(rowOf n k o j).length=n/\∀x∈rowOf n k o j,x.natAbs<2 ^ 100:=by
 refine⟨by simp[rowOf],λx hx=>?_⟩;rcases _aY hx with hx | hx
 ·obtain⟨p,_,rfl⟩:=_r.mp hx;split<;>decide
 ·subst hx;rw[_aC];cases e:o[j]? with
  | none=>decide | some y=>
   have:=h.obd y (_s e);rw[_ap];omega
theorem uo(h:Lo n g o k):∀r∈xw n k o,r.length=n/\(∀x∈r,x.natAbs<2 ^ 100)/\dot r (yX g o)=0:=λr hr=>by
 have z:=(jc h).2.1 r hr;obtain⟨j,_,rfl⟩:=_r.mp hr;exact⟨(z3l h j).1,(z3l h j).2,z⟩
theorem z5D(h:Lo n g o k):Tab n (yX g o::xw n k o):=by
 refine⟨by rw[_q,ux h],λr hr=>?_⟩;rcases _p.mp hr with rfl | hr;·simp[yX,h.len]
 ·exact (uo h r hr).1
theorem jy(c:Int):∀(x v:List Int),dot (x.map λy=>c*y) v=c*dot x v
 | [],_=>by simp[dot] | _::_,[]=>by simp[dot] | a::x,b::v=>by
  have:=jy c x v;simp only[dot]at this;simp only[dot,_L,_e,_t,this];grind
theorem Sg.ok{v:List Int}{m:Nat}{P R:Tb}(g:Sg P R):(∀r∈P,r.length=n/\(∀x∈r,x.natAbs<2 ^ m)/\dot r v=0)->∀r∈R,r.length=n/\(∀x∈r,x.natAbs<2 ^ m)/\dot r v=0:=by induction g with
 | nil=>intro h;exact h | @cons x P R c hc g ih=>
  intro h r hr;rcases _p.mp hr with rfl | hr
  ·obtain⟨a,b,z⟩:=h x (by simp);refine⟨by rw[_Y];exact a,λy hy=>?_,by rw[jy,z];simp⟩;obtain⟨w,hw,rfl⟩:=_r.mp hy;have:=b w hw;rcases hc with rfl | rfl<;>simpa using this
  ·exact ih (λr hr=>h r (by simp[hr])) r hr
theorem Sg.len{P R:Tb}(g:Sg P R):R.length=P.length:=by induction g with
 | nil=>rfl | cons hc g ih=>simp[ih]
structure Or(n k:Nat)(o:List Int)(R:Tb):Prop where ex:∃P,P.Perm (xw n k o)/\Sg P R
theorem Or.ok(h:Lo n g o k){R:Tb}(w:Or n k o R):R.length+1=n/\(∀r∈R,r.length=n/\(∀x∈r,x.natAbs<2 ^ 100)/\dot r (yX g o)=0)/\((det 4 (yX g o::R)).natAbs:Int)*g=dot (yX g o) (yX g o)/\Tab n (yX g o::R):=by
 obtain⟨P,p,sg⟩:=w.ex;have t:=z5D h;have tp:Tab n (yX g o::([]++P)):=Tab.perm (A:=[]) p.symm (by simpa using t);have tr:=sg.tab [] tp;have d1:=z6F h.sz sg [] tp;have d2:=z5R h.sz p [] tp;simp only[_C]at d1 d2 tr;refine⟨by rw[sg.len,p.length_eq];exact ux h,sg.ok λr hr=>uo h r (p.mem_iff.mp hr),?_,tr⟩;rw[d1,d2];exact (jc h).1
theorem Or.base(h:Lo n g o k){R:Tb}(w:Or n k o R)(s:Sto):zG [rD (yX g o),.lst (R.map rD)] s=.ok (.bl true) s:=by
 obtain⟨a,b,c,t⟩:=w.ok h;have:=z4I h.lot a (λr hr=>(b r hr).1) (λr hr=>(b r hr).2.1) (by decide) (by decide) (λr hr=>(b r hr).2.2) s;rw[h.gcd,c]at this;simpa using this
theorem z8j (h:Lo n g o k):0<dot (yX g o) (yX g o):=by
 have t:∀v:List Int,g∈v->g*g<=dot v v:=by
  intro v;induction v with
  | nil=>intro hm;simp at hm | cons a v ih=>
   intro hm;have e:dot (a::v) (a::v)=a*a+dot v v:=by simp[dot]
   rw[e];have nn:=jD v;rcases _p.mp hm with rfl | hm;·omega
   ·have:=ih hm;have:0<=a*a:=by
     rcases _bw 0 a with q | q;·exact _bc q q
     ·exact _aA q q
    omega
 have:=t (yX g o) (_r.mpr ⟨1,h.mem_at,by simp⟩);have g1:=h.g1;have:0<g*g:=Int.mul_pos (by omega) (by omega);omega
theorem Or.double (h:Lo n g o k) {A B:Tb} {r:List Int} (w:Or n k o (A++r::B)) (s:Sto):zG [rD (yX g o),.lst ((A++(r.map λy=>2*y)::B).map rD)] s=.ok (.bl false) s:=by
 obtain⟨a,b,c,t⟩:=w.ok h;have ok:∀q∈A++(r.map λy=>2*y)::B,q.length=n/\(∀x∈q,x.natAbs<2 ^ 101)/\dot q (yX g o)=0:=λq hq=>by
  have up:∀q∈A++r::B,q.length=n/\(∀x∈q,x.natAbs<2 ^ 101)/\dot q (yX g o)=0:=λq hq=>by
   obtain⟨x1,x2,x3⟩:=b q hq;exact⟨x1,λx hx=>by have:=x2 x hx;omega,x3⟩
  rcases _i.mp hq with hq | hq;·exact up q (by simp[hq])
  ·rcases _p.mp hq with rfl | hq
   ·obtain⟨x1,x2,x3⟩:=b r (by simp);refine⟨by rw[_Y];exact x1,λx hx=>?_,by rw[jy,x3];simp⟩;obtain⟨y,hy,rfl⟩:=_r.mp hx;have:=x2 y hy;omega
   ·exact up q (by simp[hq])
 have:=z4I h.lot (Rw:=A++(r.map λy=>2*y)::B) (k:=101) (by simpa using a) (λr hr=>(ok r hr).1) (λr hr=>(ok r hr).2.1) (by decide) (by decide) (λr hr=>(ok r hr).2.2) s;rw[this,h.gcd,z1z h.sz 2 t,_bb];have p:=z8j h;rw[<- c]at p ⊢;generalize ((det 4 (yX g o::(A++r::B))).natAbs)=z at *;congr 2;rw[_av];intro q;have e2:((((2:Int).natAbs*z:Nat)):Int)*g=2*((z:Int)*g):=by
  rw[show (2:Int).natAbs=2 from rfl];push_cast;grind
 rw[e2]at q;omega
end
structure OS(s0:Sto)(l:Nat)(s:Sto)(L R:Tb):Prop where
 pot:Pot s l
 len:s.length=s0.length+2
 lf:s[s0.length]? = some (L.map rD)
 fd:s[s0.length+1]? = some (R.map rD)
 oth:∀m,m≠l->m<s0.length->s[m]? = s0[m]?
theorem OS.drawn{s0 s s':Sto}{l:Nat}{L R:Tb}(h:OS s0 l s L R)(hl:l<s0.length)(d:xj s s' l):OS s0 l s' L R:= ⟨d.pot,by rw[d.len,h.len],by rw[d.oth _ (by omega)];exact h.lf,by rw[d.oth _ (by omega)];exact h.fd,λm h1 h2=>by rw[d.oth m h1];exact h.oth m h1 h2⟩
theorem OS.popped{s0 s:Sto}{l:Nat}{L R:Tb}(h:OS s0 l s L R)(hl:l<s0.length)(L':Tb):OS s0 l (s.set s0.length (L'.map rD)) L' R:=by
 have hn:=h.len;refine⟨?_,by simp[hn],_v (by omega),by rw[_f (by omega)];exact h.fd,λm h1 h2=>by rw[_f (by omega)];exact h.oth m h1 h2⟩;obtain⟨p,e⟩:=h.pot;exact⟨p,by rw[_f (by omega)];exact e⟩
theorem OS.put{s0 s:Sto}{l:Nat}{L R:Tb}(h:OS s0 l s L R)(hl:l<s0.length)(R':Tb):OS s0 l (s.set (s0.length+1) (R'.map rD)) L R':=by
 have hn:=h.len;refine⟨?_,by simp[hn],by rw[_f (by omega)];exact h.lf,_v (by omega),λm h1 h2=>by rw[_f (by omega)];exact h.oth m h1 h2⟩;obtain⟨p,e⟩:=h.pot;exact⟨p,by rw[_f (by omega)];exact e⟩
theorem OS.fin{s0 s:Sto}{l:Nat}{L R:Tb}(h:OS s0 l s L R)(hl:l<s0.length):xj s0 (s.take s0.length) l:=by
 obtain⟨p,e⟩:=h.pot;refine⟨⟨p,by rw[_ah hl];exact e⟩,by simp[h.len],λm h1=>?_⟩;by_cases h2:m<s0.length;·rw[_ah h2];exact h.oth m h1 h2
 ·rw[_aD (by simp[h.len];omega),_aD (by omega)]
def z97(n:Nat)(T:Tb):Prop:=T.length<=3/\∀r∈T,r.length=n/\∀x∈r,x.natAbs<2 ^ 100
theorem vU{x:Int}(h:x.natAbs<2 ^ 100):x.natAbs<2 ^ 104:=_h h (by decide +kernel)
theorem z1j{n:Nat}{r:List Int}(hn:Sz n)(hl:r.length=n)(hb:∀x∈r,x.natAbs<2 ^ 104):gd 1 (rD r)=true/\cl (rD r)=true/\Dd.noL (rD r)=true:=by
 have:r.length<=8:=by unfold Sz at hn;omega
 refine⟨vK (by simpa using this) λy hy=>?_,uz λy hy=>?_,z7g λy hy=>?_⟩;all_goals (obtain⟨i,hi,rfl⟩:=_r.mp hy)
 ·simp[gd,hb i hi]
 ·rfl
 ·rfl
theorem z8J{n:Nat}(hn:Sz n){T:Tb}(h:z97 n T):uS (.lst (T.map rD))=true:=by
 refine z3W (k:=2) (ju (by have:=h.1;simp;omega) λy hy=>?_) (by decide) (kL λy hy=>?_);all_goals (obtain⟨r,hr,rfl⟩:=_r.mp hy;have q:=z1j hn (h.2 r hr).1 λx hx=>vU ((h.2 r hr).2 x hx))
 ·exact q.1
 ·exact q.2.1
theorem z2i(r:List Int):(rD r).flat=true:=xS λx hx=>by obtain⟨i,_,rfl⟩:=_r.mp hx;rfl
theorem z5r {l:Nat} {Z:Ev} {s:Sto} (h:Pot s l) (h0:Z[0]? = some (some (.loc l))):∃(c:Int) (s':Sto),eOp dIx (wz (za (eC (.int 1)) (za (z3d (eC (.int 1))) zg))) (zd Pg.zx (za (zc 0) (za (eC (.int 2)) zg))) Z s=.ok (.int c) s'/\(c=1\/c=-1)/\xj s s' l:=by
 obtain⟨r,s',e,r0,r1,d⟩:=kX (far:=2) (f:=zc 0) (g:=eC (.int 2)) (Z:=Z) h (by decide) (by decide +kernel) (vr h0) rfl;have hh:r=0\/r=1:=by omega
 have e1:wz (za (eC (.int 1)) (za (z3d (eC (.int 1))) zg)) Z s=.ok (.lst [.int 1,.int (-1)]) s:=by simp[cap]
 rcases hh with rfl | rfl;·exact⟨1,s',by rw[ki,e1,Dd.R.bind_ok,e,Dd.R.bind_ok];exact uk (by decide) rfl,.inl rfl,d⟩
 ·exact⟨-1,s',by rw[ki,e1,Dd.R.bind_ok,e,Dd.R.bind_ok];exact uk (by decide) rfl,.inr rfl,d⟩
theorem z00:∀{L:Tb} {i:Nat} {x:List Int},L[i]? = some x->(x::L.eraseIdx i).Perm L
 | [],i,x,h=>by simp at h | y::L,0,x,h=>by simp at h;subst h;simp | y::L,i+1,x,h=>by
  have ih:=z00 (L:=L) (i:=i) (x:=x) (by simpa using h);rw[List.eraseIdx_cons_succ];exact (List.Perm.swap y x _).trans (ih.cons y)
section
variable {n:Nat}{s0:Sto}{l:Nat}{lr:D}{rows:Tb}
theorem z5L (hn:Sz n) (hl:l<s0.length) {L R:Tb} {s:Sto} {a b:Option D} (h:OS s0 l s L R) (hf:z97 n L) (hne:L≠[]) (hR:R.length<=10): ∃(i:Nat) (x:List Int) (c:Int) (s':Sto),L[i]? = some x/\(c=1\/c=-1)/\(zX yw (zX yr yu)) [some (.loc l),some lr,some (.loc s0.length),some (.loc (s0.length+1)),a,b] s=.ok (.nx [some (.loc l),some lr,some (.loc s0.length),some (.loc (s0.length+1)),some (rD x),some (.int c)]) s'/\OS s0 l s' (L.eraseIdx i) (R++[x.map λy=>c*y]):=by
 have lp:0<L.length:=_a0.mpr hne;have l3:=hf.1;have g1:yH [.loc s0.length] s=.ok (.int (L.length:Nat)) s:=by simp[yH,zI,h.lf]
 obtain⟨r,s1,e1,r0,r1,d1⟩:=kX (far:=(L.length:Int)) (f:=zc 0) (g:=zd yH (za (zc 2) zg)) (Z:=[some (.loc l),some lr,some (.loc s0.length),some (.loc (s0.length+1)),a,b]) h.pot (by omega) (_bC (b:=3) (by omega) (by decide +kernel)) (vr rfl) (by rw[yo (x:=.loc s0.length) (vr rfl),g1]);have h1:=h.drawn hl d1;have hr:r.toNat<L.length:=by omega
 have ex:L[r.toNat]? = some L[r.toNat]:=_d hr;have ex2:(L.map rD)[r.toNat]? = some (rD L[r.toNat]):=by rw[_D,ex];rfl
 have f3:yw [some (.loc l),some lr,some (.loc s0.length),some (.loc (s0.length+1)),a,b] s=.ok (.nx [some (.loc l),some lr,some (.loc s0.length),some (.loc (s0.length+1)),some (rD L[r.toNat]),b]) (s1.set s0.length ((L.eraseIdx r.toNat).map rD)):=by
  rw[yw,yD,z6K,vr (d:=.loc s0.length) rfl,Dd.R.bind_ok];simp only;rw[e1,Dd.R.bind_ok,h1.lf];simp only;rw[_o ⟨r0,by omega⟩,ex2];simp only[Dd.R.bind_ok];rw[z16];rfl
 have h2:=h1.popped hl (L.eraseIdx r.toNat);obtain⟨c,s3,e3,hc,d3⟩:=z5r (Z:=[some (.loc l),some lr,some (.loc s0.length),some (.loc (s0.length+1)),some (rD L[r.toNat]),b]) h2.pot rfl;have h3:=h2.drawn hl d3;have f4:yr [some (.loc l),some lr,some (.loc s0.length),some (.loc (s0.length+1)),some (rD L[r.toNat]),b] (s1.set s0.length ((L.eraseIdx r.toNat).map rD))=.ok (.nx [some (.loc l),some lr,some (.loc s0.length),some (.loc (s0.length+1)),some (rD L[r.toNat]),some (.int c)]) s3:=by rw[yr,yD,e3];rfl
 have mem:=hf.2 L[r.toNat] (_ad hr);have f5:yu [some (.loc l),some lr,some (.loc s0.length),some (.loc (s0.length+1)),some (rD L[r.toNat]),some (.int c)] s3=.ok (.nx [some (.loc l),some lr,some (.loc s0.length),some (.loc (s0.length+1)),some (rD L[r.toNat]),some (.int c)]) (s3.set (s0.length+1) ((R++[L[r.toNat].map λy=>c*y]).map rD)):=by
  generalize L[r.toNat]=x at *;have cp:=comp_map (fi:=zY (zc 4)) (mp:=[some 5,none]) (fg:=xC 1) (fe:=eOp yP (zc 0) (zc 1)) (Z:=[some (.loc l),some lr,some (.loc s0.length),some (.loc (s0.length+1)),some (rD x),some (.int c)]) (s:=s3) D.int (λy=>D.int (c*y)) (λy=>[some (.int c),some (.int y)]) x (uy (vr rfl)) (λy _=>by simp) (λy hy=>by
   rw[op2 (x:=.int c) (y:=.int y) (vr rfl) (vr rfl)];exact qb (m:=104) s3 (by rcases hc with rfl | rfl<;>decide +kernel) (by decide) (mem.2 y hy) (by decide)) (by have:=mem.1;unfold Sz at hn;simp[cap];omega);have c2:x.map (λy=>D.int (c*y))=iL (x.map λy=>c*y):=by simp[iL,_ag]
  rw[c2]at cp;rw[yu,jY,z1O,vr (d:=.loc (s0.length+1)) rfl,Dd.R.bind_ok];simp only;rw[yo cp,uq,Dd.R.bind_ok,h3.fd];simp only;rw[_o ⟨z2i _,by simp[cap];omega⟩,Dd.R.bind_ok,List.map_append];rfl
 refine⟨r.toNat,L[r.toNat],c,_,ex,hc,?_,h3.put hl _⟩;rw[zr f3,zr f4,f5]
theorem z4m (hn:Sz n) (hl:l<s0.length):∀(c:Nat) (L P R:Tb) (s:Sto) (a b:Option D),L.length=c->OS s0 l s L R->z97 n L->(P++L).Perm rows->Sg P R->P.length+L.length<=3-> ∃(P' R':Tb) (s':Sto) (a' b':Option D),xY (tOf (eOp (z0w true) (zc 2) (wz zg))) (zX yw (zX yr yu)) (c+1) [some (.loc l),some lr,some (.loc s0.length),some (.loc (s0.length+1)),a,b] s=.ok (.nx [some (.loc l),some lr,some (.loc s0.length),some (.loc (s0.length+1)),a',b']) s'/\OS s0 l s' [] R'/\P'.Perm rows/\Sg P' R':=by
 intro c;induction c with
 | zero=>
  intro L P R s a b hc h hf pm sg h3;have e:L=[]:=_w hc;subst e;have se:see s (.loc s0.length)=.lst []:=by simp[see,h.lf]
  have t:tOf (eOp (z0w true) (zc 2) (wz zg)) [some (.loc l),some lr,some (.loc s0.length),some (.loc (s0.length+1)),a,b] s=.ok false s:=by
   refine xu ?_;rw[op2 (x:=.loc s0.length) (y:=.lst []) (vr rfl) (by simp[cap]),ne_nil (xs:=[]) (.inr se) (by rw[se];decide) (.lst []) (.inr ⟨rfl,se⟩)];rfl
  exact⟨P,R,s,a,b,by rw[xY,t];rfl,h,by simpa using pm,sg⟩ | succ c ih=>
  intro L P R s a b hc h hf pm sg h3;have hne:L≠[]:=λz=>by rw[z]at hc;simp at hc
  have se:see s (.loc s0.length)=.lst (L.map rD):=by simp[see,h.lf]
  have t:tOf (eOp (z0w true) (zc 2) (wz zg)) [some (.loc l),some lr,some (.loc s0.length),some (.loc (s0.length+1)),a,b] s=.ok true s:=by
   refine xu ?_;rw[op2 (x:=.loc s0.length) (y:=.lst []) (vr rfl) (by simp[cap]),ne_nil (xs:=L.map rD) (.inr se) (by rw[se];exact z8J hn hf) (.lst []) (.inr ⟨rfl,se⟩)];cases L with
   | nil=>exact absurd rfl hne | cons x r=>rfl
  obtain⟨i,x,cc,s',hx,hcc,e,h'⟩:=z5L (lr:=lr) (a:=a) (b:=b) hn hl h hf hne (by rw[sg.len];omega);have hi:i<L.length:=(_b.mp hx).1;have le:(L.eraseIdx i).length=c:=by rw[List.length_eraseIdx_of_lt hi,hc];rfl
  have hp:(P++[x]++L.eraseIdx i).Perm rows:=by
   refine List.Perm.trans ?_ pm;rw[_aV];refine List.Perm.append_left P ?_;exact z00 hx
  obtain⟨P',R',s2,a',b',e2,r1,r2,r3⟩:=ih (L.eraseIdx i) (P++[x]) (R++[x.map λy=>cc*y]) s' (some (rD x)) (some (.int cc)) le h' ⟨by omega,λr hr=>hf.2 r (List.mem_of_mem_eraseIdx hr)⟩ hp (sg.snoc hcc) (by simp;omega);refine⟨P',R',s2,a',b',?_,r1,r2,r3⟩;rw[xY,t,Dd.R.bind_ok,_o rfl,e];exact e2
theorem z4Y (hn:Sz n) (hl:Pot s0 l) {lr:Nat} (hr:s0[lr]? = some (rows.map rD)) (hf:z97 n rows): ∃(P R:Tb) (s:Sto),xb [.loc l,.loc lr] s0=.ok (.loc (s0.length+1)) s/\OS s0 l s [] R/\P.Perm rows/\Sg P R:=by
 have st:zD ["_law_pot_here","_law_rows","_law_left","_law_found","_law_row","_law_sign"] [.loc l,.loc lr]=[some (.loc l),some (.loc lr),none,none,none,none]:=rfl;have fl:D.flat.flats (rows.map rD)=true:=xS λx hx=>by obtain⟨r,_,rfl⟩:=_r.mp hx;exact z2i r
 have g:z1o [.loc lr] s0=.ok (.loc s0.length) (s0++[rows.map rD]):=by simp[z1o,zI,hr,fl]
 have f1:xO [some (.loc l),some (.loc lr),none,none,none,none] s0=.ok (.nx [some (.loc l),some (.loc lr),some (.loc s0.length),some (.loc (s0.length+1)),none,none]) (s0++[rows.map rD]++[[]]):=by
  rw[xO,z9b,zj,yo (x:=.loc lr) (vr rfl),g,Dd.R.bind_ok];simp[cap,D.flat.flats]
 have os:OS s0 l (s0++[rows.map rD]++[[]]) rows []:=⟨(hl.app _).app _,by simp,by simp,by simp,λm _ h2=>by rw[_aV,_x h2]⟩;obtain⟨P',R',s',a',b',e,r1,r2,r3⟩:=z4m (lr:=.loc lr) (rows:=rows) hn hl.lt rows.length rows [] [] _ none none rfl os hf (by simp) .nil (by have:=hf.1;simp;omega);refine⟨P',R',s',?_,r1,r2,r3⟩;simp only[xb,Mof,vw,st,_q,_H,_Z];rw[zr f1,zr (by rw[vo];exact z38 e (by simp))];rfl
end
section
variable {n k:Nat}{g:Int}{o:List Int}{s:Sto}
structure Bad(j:Nat)(v:List Int)(s:Sto)(d:D):Prop where
 rep:uG d=true
 no:fnk j [rD v,d] s=.ok (.bl false) s
theorem uM{ys:List D}(hl:ys.length<=8)(hg:∀y∈ys,gd 4 y=true)(hc:(∀y∈ys,cl y=true)\/(∀y∈ys,Dd.noL y=true)):uG (.lst ys)=true:=by
 refine kY (ju hl hg) ?_;rcases hc with hc | hc;·exact .inl (kL hc)
 ·exact .inr (.inr ⟨ys,rfl,_y.mpr hc⟩)
theorem z2w{R:Tb}(h:Lo n g o k)(w:Or n k o R):∀d∈R.map rD,(gd 4 d=true/\cl d=true/\Dd.noL d=true)/\yB n d=true/\zh [rD (yX g o),d] s=.ok (.bl true) s:=λd hd=>by
 obtain⟨r,hr,rfl⟩:=_r.mp hd;obtain⟨x1,x2,x3⟩:=(w.ok h).2.1 r hr;have q:=z1j h.sz x1 λx hx=>vU (x2 x hx);have rel:=vc h.lot x1 x2 (by decide) (by decide) s;rw[x3]at rel;exact⟨⟨vH (vH (vH q.1)),q.2.1,q.2.2⟩,by simp[yB,x1,isI],by simpa using rel⟩
theorem Or.l3{R:Tb}(h:Lo n g o k)(w:Or n k o R):R.length<=3/\1<=R.length:=by
 have:=(w.ok h).1;have:=h.sz;unfold Sz at this;omega
theorem z5V{R:Tb}(h:Lo n g o k)(w:Or n k o R){i:Nat}{r:List Int}(hi:R[i]? = some r){d:D}(hd:xW (iL r) d):Bad 2 (yX g o) s (.lst ((R.map rD).take i++[d]++(R.map rD).drop (i+1))):=by
 have l3:=w.l3 h;have hlt:i<R.length:=(_b.mp hi).1;obtain⟨x1,x2,x3⟩:=(w.ok h).2.1 r (_s hi);have row:Row n r:=⟨h.sz,x1,λx hx=>vU (x2 x hx)⟩;have th:=hd.th row.rw;have nw:=hd.nw row;have mem:∀y∈(R.map rD).take i++[d]++(R.map rD).drop (i+1),y∈R.map rD\/y=d:=λy hy=>by
  simp only[_i,_aP]at hy;rcases hy with (hy | hy) | hy;·exact .inl (_J hy)
  ·exact .inr hy
  ·exact .inl (_ab hy)
 have len:((R.map rD).take i++[d]++(R.map rD).drop (i+1)).length=R.length:=by simp;omega
 refine⟨uM (by omega) (λy hy=>?_) ?_,z1F h.lot (by rw[len];exact (w.ok h).1) (yB n) (λy hy=>?_) ?_⟩
 ·rcases mem y hy with q | rfl;·exact (z2w (s:=s) h w y q).1.1
  ·exact th.gd
 ·rcases th.sp with c | c
  ·exact .inl λy hy=>by
    rcases mem y hy with q | rfl;·exact (z2w (s:=s) h w y q).1.2.1
    ·exact c
  ·exact .inr λy hy=>by
    rcases mem y hy with q | rfl;·exact (z2w (s:=s) h w y q).1.2.2
    ·exact c
 ·rcases mem y hy with q | rfl;·rw[(z2w (s:=s) h w y q).2.1];exact (z2w h w y q).2.2
  ·rw[nw.no];exact ua h.lot nw
 ·rw[<- Bool.not_eq_true,_y];intro q;have:=q d (by simp);rw[nw.no]at this;cases this
def z11(R:Tb):List D:=[.tup (R.map rD),.lst (R.map rD++(R.map rD).take 1),.lst ((R.map rD).drop 1),.lst [],.non,.dct,.lst ((R.map rD).map λr=>.lst [r])]
theorem z4r{R:Tb}(h:Lo n g o k)(w:Or n k o R):∀d∈z11 R,Bad 2 (yX g o) s d:=λd hd=>by
 have l3:=w.l3 h;have ok:=w.ok h;have rd:=z2w (s:=s) h w;simp only[z11,_p,_E,_aB]at hd;rcases hd with rfl | rfl | rfl | rfl | rfl | rfl | rfl;·exact⟨kY (vK (by simp;omega) λy hy=>(rd y hy).1.1) (.inl (uz λy hy=>(rd y hy).1.2.1)),jt h.lot rfl (by simp[tyD])⟩
 ·have mem:∀y∈R.map rD++(R.map rD).take 1,y∈R.map rD:=λy hy=>by
   rcases _i.mp hy with q | q;·exact q
   ·exact _J q
  exact⟨uM (by simp;omega) (λy hy=>(rd y (mem y hy)).1.1) (.inl λy hy=>(rd y (mem y hy)).1.2.1),z0N h.lot (by simp;omega)⟩
 ·exact⟨uM (by simp;omega) (λy hy=>(rd y (_ab hy)).1.1) (.inl λy hy=>(rd y (_ab hy)).1.2.1),z0N h.lot (by simp;omega)⟩
 ·exact⟨uM (by simp) (by simp) (.inl (by simp)),z0N h.lot (by simp;omega)⟩
 ·exact⟨kY (by decide) (.inl rfl),jt h.lot rfl (by simp[tyD])⟩
 ·exact⟨kY (by decide) (.inr (.inl rfl)),jt h.lot rfl (by simp[tyD])⟩
 ·refine⟨uM (by simp;omega) (λy hy=>?_) (.inl λy hy=>?_),z1F h.lot (by simp;omega) (yB n) (λy hy=>?_) ?_⟩
  ·obtain⟨r,hr,rfl⟩:=_r.mp hy;obtain⟨z,hz,rfl⟩:=_r.mp hr;have q:=z1j h.sz (ok.2.1 z hz).1 λx hx=>vU ((ok.2.1 z hz).2.1 x hx);exact vH (vH (ju (by simp) λy hy=>by simp at hy;rw[hy];exact q.1))
  ·obtain⟨r,hr,rfl⟩:=_r.mp hy;exact kL λy hy=>by simp at hy;rw[hy];exact (rd r hr).1.2.1
  ·obtain⟨r,hr,rfl⟩:=_r.mp hy;exact ua h.lot ⟨rfl,rfl⟩
  ·cases R with
   | nil=>simp at l3 | cons r R=>rfl
theorem z8m{R:Tb}(h:Lo n g o k)(w:Or n k o R){i:Nat}{r:List Int}(hi:R[i]? = some r):Bad 2 (yX g o) s (.lst ((R.map rD).take i++[rD (r.map λy=>2*y)]++(R.map rD).drop (i+1))):=by
 have hlt:i<R.length:=(_b.mp hi).1;have l3:=w.l3 h;have rd:=z2w (s:=s) h w;obtain⟨x1,x2,x3⟩:=(w.ok h).2.1 r (_s hi);have e:R=R.take i++r::R.drop (i+1):=by
  conv=>lhs;rw[<- List.take_append_drop i R]
  rw[_aZ hlt];rw[(_b.mp hi).2]
 have e2:(R.map rD).take i++[rD (r.map λy=>2*y)]++(R.map rD).drop (i+1)=(R.take i++(r.map λy=>2*y)::R.drop (i+1)).map rD:=by simp[List.map_take,List.map_drop]
 have w':Or n k o (R.take i++r::R.drop (i+1)):=by rw[<- e];exact w
 have q:=z1j h.sz (r:=r.map λy=>2*y) (by rw[_Y];exact x1) λx hx=>by
  obtain⟨y,hy,rfl⟩:=_r.mp hx;have:=x2 y hy;have:(2:Nat) ^ 101<=2 ^ 104:=by decide +kernel
  omega
 have mem:∀y∈(R.map rD).take i++[rD (r.map λy=>2*y)]++(R.map rD).drop (i+1),y∈R.map rD\/y=rD (r.map λy=>2*y):=λy hy=>by
  simp only[_i,_aP]at hy;rcases hy with (hy | hy) | hy;·exact .inl (_J hy)
  ·exact .inr hy
  ·exact .inl (_ab hy)
 refine⟨uM (by simp;omega) (λy hy=>?_) (.inl λy hy=>?_),?_⟩
 ·rcases mem y hy with z | rfl;·exact (rd y z).1.1
  ·exact vH (vH (vH q.1))
 ·rcases mem y hy with z | rfl;·exact (rd y z).1.2.1
  ·exact q.2.1
 ·rw[e2];exact w'.double h s
end
section
variable {n k:Nat}{g:Int}{o:List Int}
theorem z9Y{xs:List D}{i:Nat}(h:i<=xs.length)(s:Sto):dSl (.lst xs) none (some (i:Int)) s=.ok (.lst (xs.take i)) s:=by simp only[dSl,Dd.listOf,z7c xs i h]
theorem z59{xs:List D}{i:Nat}(h:i<=xs.length)(s:Sto):dSl (.lst xs) (some (i:Int)) none s=.ok (.lst (xs.drop i)) s:=by simp only[dSl,Dd.listOf,z33 xs i h]
theorem z9s {xs:List D} {i a b:Nat} {y:D} {f:FE} {Z:Ev} {s:Sto} (hi:i<xs.length) (h8:xs.length<=8) (ha:Z[a]? = some (some (.lst xs))) (hb:Z[b]? = some (some (.int (i:Int)))) (hf:f Z s=.ok y s): eOp yL (eOp yL (eSl (zc a) zt (yg (zc b))) (wz (za f zg))) (eSl (zc a) (yg (eOp yL (zc b) (eC (.int 1)))) zt) Z s=.ok (.lst (xs.take i++[y]++xs.drop (i+1))) s:=by
 have a1:eSl (zc a) zt (yg (zc b)) Z s=.ok (.lst (xs.take i)) s:=by
  rw[z49,vr ha,Dd.R.bind_ok];simp only[vy,jO,Dd.R.bind_ok,vr hb];exact z9Y (by omega) s
 have a2:eSl (zc a) (yg (eOp yL (zc b) (eC (.int 1)))) zt Z s=.ok (.lst (xs.drop (i+1))) s:=by
  rw[z49,vr ha,Dd.R.bind_ok];simp only[vy,jO,Dd.R.bind_ok,op2 (vr hb) (show eC (.int 1) Z s=.ok (.int 1) s from rfl),z2P];rw[show ((i:Int)+1)=((i+1:Nat):Int) by omega];exact z59 (by omega) s
 have a3:wz (za f zg) Z s=.ok (.lst [y]) s:=by simp[hf,cap]
 rw[op2 (x:=.lst (xs.take i++[y])) (y:=.lst (xs.drop (i+1))) (by rw[op2 a1 a3,jF,_o (by simp[cap];omega)]) a2,jF,_o (by simp[cap];omega)]
mutual
theorem z4z:∀{d:D},PyData.canLay0 (zS d)=true->d.flat=true
 | .tup xs,h=>z0A (xs:=xs) (by simpa only [zS,PyData.canLay0] using h) | .lst xs,h=>z0A (xs:=xs) (by simpa only [zS,PyData.canLay0] using h) | .non,_=>rfl | .bl _,_=>rfl | .int _,_=>rfl | .str _,_=>rfl | .dct,_=>rfl | .fn _,_=>rfl | .exc _,_=>rfl | .loc _,h=>by simp[zS,PyData.canLay0]at h | .dlo _,h=>by simp[zS,PyData.canLay0]at h | .scr _,h=>by simp[zS,PyData.canLay0]at h
theorem z0A:∀{xs:List D},PyData.canLayAll0 (toPys xs)=true->D.flat.flats xs=true
 | [],_=>rfl | x::xs,h=>by
  simp only[toPys,PyData.canLayAll0,_m]at h;rw[D.flat.flats,z4z h.1,z0A h.2];rfl
end
mutual
theorem z4w:∀{d:D},Dd.noL d=true->d.flat=true
 | .tup xs,h=>z0X (xs:=xs) (by simpa only [Dd.noL] using h) | .non,_=>rfl | .bl _,_=>rfl | .int _,_=>rfl | .str _,_=>rfl | .dct,_=>rfl | .lst _,h=>by simp[Dd.noL]at h | .fn _,_=>rfl | .exc _,_=>rfl | .loc _,h=>by simp[Dd.noL]at h | .dlo _,h=>by simp[Dd.noL]at h | .scr _,h=>by simp[Dd.noL]at h
theorem z0X:∀{xs:List D},Dd.noL.noLs xs=true->D.flat.flats xs=true
 | [],_=>rfl | x::xs,h=>by
  simp only[Dd.noL.noLs,_m]at h;rw[D.flat.flats,z4w h.1,z0X h.2];rfl
end
theorem ut{d:D}(h:uG d=true):d.flat=true:=by
 simp only[uG,_m,Bool.or_eq_true]at h;rcases h.2 with (q | q) | q;·exact z4z q
 ·exact z4w q
 ·split at q;·exact z0X q
  ·cases q
theorem z0l (h:Lo n g o k) {s0:Sto} {l lr:Nat} (hl:Pot s0 l) (hr:s0[lr]? = some ((xw n k o).map rD)) (ne:lr≠l):∃s',zN [.loc l,rD (yX g o),.loc lr] s0=.ok (.bl true) s'/\xj s0 s' l:=by
 have l1:=ux h;have hsz:=h.sz;have fin:z97 n (xw n k o):=⟨by unfold Sz at hsz;omega,λr hr=>⟨(uo h r hr).1,(uo h r hr).2.1⟩⟩;obtain⟨P,R,s1,e1,os,pm,sg⟩:=z4Y h.sz hl hr fin;have w:Or n k o R:=⟨P,pm,sg⟩;have ok:=w.ok h;have l3:=w.l3 h;have d1:=os.fin hl.lt;generalize hs2:s1.take s0.length=s2 at d1;have hlr:lr<s0.length:=(_b.mp hr).1;have hr2:s2[lr]? = some ((xw n k o).map rD):=by rw[d1.oth lr ne];exact hr
 have gl:yH [.loc lr] s2=.ok (.int ((xw n k o).length:Nat)) s2:=by simp[yH,zI,hr2]
 have key:∀v:D,v=rD (yX g o)->∃s',zN [.loc l,v,.loc lr] s0=.ok (.bl true) s'/\xj s0 s' l:=λv hv=>by
  have st:zD ["_law_pot_here","_law_lot","_law_rows","_law_some","_law_kept","_law_at","_law_things"] [.loc l,v,.loc lr]=[some (.loc l),some v,some (.loc lr),none,none,none,none]:=rfl;have f1:yO [some (.loc l),some v,some (.loc lr),none,none,none,none] s0=.ok (.nx [some (.loc l),some v,some (.loc lr),some (.lst (R.map rD)),none,none,none]) s2:=by
   rw[yO,yD,z7w,call2 (x:=.loc l) (y:=.loc lr) (vr rfl) (vr rfl),e1];simp only[z8V,os.fd];rw[_o (by omega),hs2];rfl
  have f2:yT [some (.loc l),some v,some (.loc lr),some (.lst (R.map rD)),none,none,none] s2=.ok (.nx [some (.loc l),some v,some (.loc lr),some (.lst (R.map rD)),some (.lst (R.map rD)),none,none]) s2:=by
   rw[yT,yD,yo (x:=.lst (R.map rD)) (vr rfl)];simp[z1G,zI]
  have f3:yQ [some (.loc l),some v,some (.loc lr),some (.lst (R.map rD)),some (.lst (R.map rD)),none,none] s2=.ok (.nx [some (.loc l),some v,some (.loc lr),some (.lst (R.map rD)),some (.lst (R.map rD)),none,none]) s2:=by
   rw[yQ,z4d];·rfl
   ·refine z1J (xu ?_) (xu ?_);·rw[op2 (x:=.bl true) (y:=.bl true) (by rw[call2 (x:=v) (y:=.lst (R.map rD)) (vr rfl) (vr rfl),hv];exact w.base h s2) rfl];rfl
    ·rw[op2 (x:=.lst (R.map rD)) (y:=.lst (R.map rD)) (vr rfl) (vr rfl)];exact ne_self (z7x 0 R) (by decide) s2
  obtain⟨r,s3,e5,r0,r1,d3⟩:=kX (far:=(((xw n k o).length:Nat):Int)) (f:=zc 0) (g:=zd yH (za (zc 2) zg)) (Z:=[some (.loc l),some v,some (.loc lr),some (.lst (R.map rD)),some (.lst (R.map rD)),none,none]) d1.pot (by unfold Sz at hsz;omega) (_bC (b:=3) (by unfold Sz at hsz;omega) (by decide +kernel)) (vr rfl) (by rw[yo (x:=.loc lr) (vr rfl),gl]);have hri:r.toNat<R.length:=by omega
  generalize hi:r.toNat=i at hri;have er:r=(i:Int):=by omega
  subst er;have f5:yU [some (.loc l),some v,some (.loc lr),some (.lst (R.map rD)),some (.lst (R.map rD)),none,none] s2=.ok (.nx [some (.loc l),some v,some (.loc lr),some (.lst (R.map rD)),some (.lst (R.map rD)),some (.int (i:Int)),none]) s3:=by rw[yU,yD,e5];rfl
  have hR:R[i]? = some R[i]:=_d hri;have hRD:(R.map rD)[i]? = some (rD R[i]):=by rw[_D,hR];rfl
  obtain⟨x1,x2,x3⟩:=ok.2.1 R[i] (_ad hri);have row:Row n R[i]:=⟨h.sz,x1,λx hx=>vU (x2 x hx)⟩;obtain⟨L,eL,l20,hL⟩:=ji row.rw s3;have bl:=λd (hd:xW (iL R[i]) d) (s:Sto)=>z5V (s:=s) h w hR hd;have bd:=λ(s:Sto)=>z8m (s:=s) h w hR;have ix:∀f,eOp dIx (zc 3) (zc 5) [some (.loc l),some v,some (.loc lr),some (.lst (R.map rD)),some (.lst (R.map rD)),some (.int (i:Int)),f] s3=.ok (rD R[i]) s3:=λf=>by
   rw[op2 (x:=.lst (R.map rD)) (y:=.int (i:Int)) (vr rfl) (vr rfl)];exact uk (by omega) (by simpa using hRD)
  generalize hx:R[i]=x at *;have f6:yN [some (.loc l),some v,some (.loc lr),some (.lst (R.map rD)),some (.lst (R.map rD)),some (.int (i:Int)),none] s3=.ok (.nx [some (.loc l),some v,some (.loc lr),some (.lst (R.map rD)),some (.lst (R.map rD)),some (.int (i:Int)),some (.lst (L.map λd=>.lst ((R.map rD).take i++[d]++(R.map rD).drop (i+1))))]) s3:=by
   have c:=comp_map (fi:=zY (zd zB (za (eOp dIx (zc 3) (zc 5)) zg))) (mp:=[some 3,some 5,none]) (fg:=xC 2) (fe:=eOp yL (eOp yL (eSl (zc 0) zt (yg (zc 1))) (wz (za (zc 2) zg))) (eSl (zc 0) (yg (eOp yL (zc 1) (eC (.int 1)))) zt)) (Z:=[some (.loc l),some v,some (.loc lr),some (.lst (R.map rD)),some (.lst (R.map rD)),some (.int (i:Int)),none]) (s:=s3) (λd=>d) (λd=>D.lst ((R.map rD).take i++[d]++(R.map rD).drop (i+1))) (λd=>[some (.lst (R.map rD)),some (.int (i:Int)),some d]) L (wY (by rw[yo (ix none),eL];simp)) (λd _=>by simp) (λd hd=>z9s (by simpa using hri) (by simp;omega) rfl rfl (vr rfl)) (by simp[cap];omega);rw[yN,yD,c];rfl
  have fl7:D.flat.flats ((L.map λd=>D.lst ((R.map rD).take i++[d]++(R.map rD).drop (i+1)))++z11 R)=true:=xS λd hd=>by
   rcases _i.mp hd with hd | hd
   ·obtain⟨z,hz,rfl⟩:=_r.mp hd;exact ut (bl z (hL z hz) s3).rep
   ·exact ut (z4r (s:=s3) h w d hd).rep
  have f7:yV [some (.loc l),some v,some (.loc lr),some (.lst (R.map rD)),some (.lst (R.map rD)),some (.int (i:Int)),some (.lst (L.map λd=>.lst ((R.map rD).take i++[d]++(R.map rD).drop (i+1))))] s3=.ok (.nx [some (.loc l),some v,some (.loc lr),some (.lst (R.map rD)),some (.lst (R.map rD)),some (.int (i:Int)),some (.loc s3.length)]) (s3++[(L.map λd=>D.lst ((R.map rD).take i++[d]++(R.map rD).drop (i+1)))++z11 R]):=by
   generalize hT:(L.map λd=>D.lst ((R.map rD).take i++[d]++(R.map rD).drop (i+1)))=T at *;have lT:T.length<=20:=by rw[<- hT];simpa using l20
   have v3:∀j f,j=3->zc j [some (.loc l),some v,some (.loc lr),some (.lst (R.map rD)),some (.lst (R.map rD)),some (.int (i:Int)),f] s3=.ok (.lst (R.map rD)) s3:=λj f hj=>by subst hj;exact vr rfl
   have b1:eSl (zc 3) zt (yg (eC (.int 1))) [some (.loc l),some v,some (.loc lr),some (.lst (R.map rD)),some (.lst (R.map rD)),some (.int (i:Int)),some (.lst T)] s3=.ok (.lst ((R.map rD).take 1)) s3:=by
    rw[z49,v3 3 _ rfl,Dd.R.bind_ok];simp only[vy,jO,Dd.R.bind_ok,z5H];exact z9Y (i:=1) (by simp;omega) s3
   have b2:eSl (zc 3) (yg (eC (.int 1))) zt [some (.loc l),some v,some (.loc lr),some (.lst (R.map rD)),some (.lst (R.map rD)),some (.int (i:Int)),some (.lst T)] s3=.ok (.lst ((R.map rD).drop 1)) s3:=by
    rw[z49,v3 3 _ rfl,Dd.R.bind_ok];simp only[vy,jO,Dd.R.bind_ok,z5H];exact z59 (i:=1) (by simp;omega) s3
   have b3:eOp yL (zc 3) (eSl (zc 3) zt (yg (eC (.int 1)))) [some (.loc l),some v,some (.loc lr),some (.lst (R.map rD)),some (.lst (R.map rD)),some (.int (i:Int)),some (.lst T)] s3=.ok (.lst (R.map rD++(R.map rD).take 1)) s3:=by rw[op2 (v3 3 _ rfl) b1,jF,_o (by simp[cap];omega)]
   have c:=comp_map (fi:=zY (zc 3)) (mp:=[none]) (fg:=xC 0) (fe:=wz (za (zc 0) zg)) (Z:=[some (.loc l),some v,some (.loc lr),some (.lst (R.map rD)),some (.lst (R.map rD)),some (.int (i:Int)),some (.lst T)]) (s:=s3) (λd=>d) (λd=>D.lst [d]) (λd=>[some d]) (R.map rD) (wY (by rw[v3 3 _ rfl];simp)) (λd _=>by simp) (λd hd=>by simp[cap]) (by simp[cap];omega);have b0:zd zM (za (zc 3) zg) [some (.loc l),some v,some (.loc lr),some (.lst (R.map rD)),some (.lst (R.map rD)),some (.int (i:Int)),some (.lst T)] s3=.ok (.tup (R.map rD)) s3:=by rw[yo (v3 3 _ rfl),uq]
   have bb:wz (za (zd zM (za (zc 3) zg)) (za (eOp yL (zc 3) (eSl (zc 3) zt (yg (eC (.int 1))))) (za (eSl (zc 3) (yg (eC (.int 1))) zt) (za (wz zg) (za (eC .non) (za (eC .dct) (za (zQ (zY (zc 3)) [none] (xC 0) yJ (wz (za (zc 0) zg))) zg))))))) [some (.loc l),some v,some (.loc lr),some (.lst (R.map rD)),some (.lst (R.map rD)),some (.int (i:Int)),some (.lst T)] s3=.ok (.lst (z11 R)) s3:=by
    rw[jN,zj,b0,Dd.R.bind_ok,zj,b3,Dd.R.bind_ok,zj,b2,Dd.R.bind_ok,zj,jN,xc,Dd.R.bind_ok,_o (by simp[cap]),Dd.R.bind_ok,zj,z5H,Dd.R.bind_ok,zj,z5H,Dd.R.bind_ok,zj,c,Dd.R.bind_ok,xc];simp[cap,z11]
   rw[yV,yD,op2 (x:=.lst T) (y:=.lst (z11 R)) (vr rfl) bb];simp only[z3M,Dd.listOf];rw[_o ⟨by simp[z11,cap];omega,fl7⟩];rfl
  have dx:=bd s3;have f8:yS [some (.loc l),some v,some (.loc lr),some (.lst (R.map rD)),some (.lst (R.map rD)),some (.int (i:Int)),some (.loc s3.length)] (s3++[(L.map λd=>D.lst ((R.map rD).take i++[d]++(R.map rD).drop (i+1)))++z11 R])=.ok (.nx [some (.loc l),some v,some (.loc lr),some (.lst (R.map rD)),some (.lst (R.map rD)),some (.int (i:Int)),some (.loc s3.length)]) (s3++[(L.map λd=>D.lst ((R.map rD).take i++[d]++(R.map rD).drop (i+1)))++z11 R++[.lst ((R.map rD).take i++[rD (x.map λy=>2*y)]++(R.map rD).drop (i+1))]]):=by
   generalize hT:(L.map λd=>D.lst ((R.map rD).take i++[d]++(R.map rD).drop (i+1)))++z11 R=T at *;have lT:T.length<=40:=by rw[<- hT];simp[z11];omega
   have ix':eOp dIx (zc 3) (zc 5) [some (.loc l),some v,some (.loc lr),some (.lst (R.map rD)),some (.lst (R.map rD)),some (.int (i:Int)),some (.loc s3.length)] (s3++[T])=.ok (rD x) (s3++[T]):=by
    rw[op2 (x:=.lst (R.map rD)) (y:=.int (i:Int)) (vr rfl) (vr rfl)];exact uk (by omega) (by simpa using hRD)
   have c:=comp_map (fi:=zY (eOp dIx (zc 3) (zc 5))) (mp:=[none]) (fg:=xC 0) (fe:=eOp yP (eC (.int 2)) (zc 0)) (Z:=[some (.loc l),some v,some (.loc lr),some (.lst (R.map rD)),some (.lst (R.map rD)),some (.int (i:Int)),some (.loc s3.length)]) (s:=s3++[T]) D.int (λy=>D.int (2*y)) (λy=>[some (.int y)]) x (uy ix') (λd _=>by simp) (λy hy=>by
    rw[op2 (x:=.int 2) (y:=.int y) rfl (vr rfl)];exact qb (m:=104) _ (by decide +kernel) (by decide) (x2 y hy) (by decide)) (by unfold Sz at hsz;simp[cap];omega);have c2:x.map (λy=>D.int (2*y))=iL (x.map λy=>2*y):=by simp[iL,_ag]
   rw[c2]at c;have pe:=z9s (xs:=R.map rD) (i:=i) (a:=3) (b:=5) (y:=rD (x.map λy=>2*y)) (f:=zd zM (za (zQ (zY (eOp dIx (zc 3) (zc 5))) [none] (xC 0) yJ (eOp yP (eC (.int 2)) (zc 0))) zg)) (Z:=[some (.loc l),some v,some (.loc lr),some (.lst (R.map rD)),some (.lst (R.map rD)),some (.int (i:Int)),some (.loc s3.length)]) (s:=s3++[T]) (by simpa using hri) (by simp;omega) rfl rfl (by rw[yo c,uq]);rw[yS,jY,z1O,vr (d:=.loc s3.length) rfl,Dd.R.bind_ok];simp only;rw[pe,Dd.R.bind_ok];have gT:(s3++[T])[s3.length]? = some T:=by simp
   rw[gT];simp only;rw[_o ⟨ut dx.rep,by simp[cap];omega⟩];simp
  have f9:yR [some (.loc l),some v,some (.loc lr),some (.lst (R.map rD)),some (.lst (R.map rD)),some (.int (i:Int)),some (.loc s3.length)] (s3++[(L.map λd=>D.lst ((R.map rD).take i++[d]++(R.map rD).drop (i+1)))++z11 R++[.lst ((R.map rD).take i++[rD (x.map λy=>2*y)]++(R.map rD).drop (i+1))]])=.ok (.rt (.bl true)) (s3++[(L.map λd=>D.lst ((R.map rD).take i++[d]++(R.map rD).drop (i+1)))++z11 R++[.lst ((R.map rD).take i++[rD (x.map λy=>2*y)]++(R.map rD).drop (i+1))]]):=by
   rw[yR,qq,z55 (x:=.int 2) (y:=v) (z:=.loc s3.length) rfl (vr rfl) (vr rfl)];rw[show (D.int 2)=D.int ((2:Nat):Int) from rfl,jG (by decide) (L:=(L.map λd=>D.lst ((R.map rD).take i++[d]++(R.map rD).drop (i+1)))++z11 R++[.lst ((R.map rD).take i++[rD (x.map λy=>2*y)]++(R.map rD).drop (i+1))]) (.inr ⟨s3.length,rfl,by simp⟩) (λd hd=>by
    rw[hv];rcases _i.mp hd with hd | hd
    ·rcases _i.mp hd with hd | hd
     ·obtain⟨z,hz,rfl⟩:=_r.mp hd;have q:=bl z (hL z hz) (s3++[(L.map λd=>D.lst ((R.map rD).take i++[d]++(R.map rD).drop (i+1)))++z11 R++[.lst ((R.map rD).take i++[rD (x.map λy=>2*y)]++(R.map rD).drop (i+1))]]);exact⟨q.rep,q.no⟩
     ·have q:=z4r (s:=s3++[(L.map λd=>D.lst ((R.map rD).take i++[d]++(R.map rD).drop (i+1)))++z11 R++[.lst ((R.map rD).take i++[rD (x.map λy=>2*y)]++(R.map rD).drop (i+1))]]) h w d hd;exact⟨q.rep,q.no⟩
    ·simp only[_aP]at hd;subst hd;have q:=bd (s3++[(L.map λd=>D.lst ((R.map rD).take i++[d]++(R.map rD).drop (i+1)))++z11 R++[.lst ((R.map rD).take i++[rD (x.map λy=>2*y)]++(R.map rD).drop (i+1))]]);exact⟨q.rep,q.no⟩)];rfl
  have d13:=d1.trans d3;refine⟨s3,?_,d13⟩;rw[zN,z4D];simp only[Mof,wj,st,_q,_H,_Z];rw[zr f1,zr f2,zr f3,zr f5,zr f6,zr f7,zr f8,f9];simp only;rw[kS rfl,<- d13.len];simp
 exact key _ rfl
end
theorem z6Y{M:Mir}{f g:FE}{Z:Ev}{s s1:Sto}{x y:D}(h:f Z s=.ok x s)(h2:g Z s=.ok y s1):zd M (za f (za g zg)) Z s=M [x,y] s1:=by rw[wG,zj,h,Rb,zj,h2,Rb,xc];rfl
theorem z9H {l i:Nat} {Z:Ev} {s:Sto} {a b c:Int} {fa fb fc:FE} (h:Pot s l) (hi:Z[i]? = some (some (.loc l))) (ha:fa Z s=.ok (.int a) s) (hb:fb Z s=.ok (.int b) s) (hc:fc Z s=.ok (.int c) s): ∃(x:Int) (s':Sto),eOp dIx (wz (za fa (za fb (za fc zg)))) (zd Pg.zx (za (zc i) (za (eC (.int 3)) zg))) Z s=.ok (.int x) s'/\(x=a\/x=b\/x=c)/\xj s s' l:=by
 obtain⟨r,s',e,r0,r1,d⟩:=kX (far:=3) (f:=zc i) (g:=eC (.int 3)) (Z:=Z) h (by decide) (by decide +kernel) (vr hi) rfl;have e1:wz (za fa (za fb (za fc zg))) Z s=.ok (.lst [.int a,.int b,.int c]) s:=by simp[cap,ha,hb,hc]
 have hh:r=0\/r=1\/r=2:=by omega
 rcases hh with rfl | rfl | rfl;·exact⟨a,s',by rw[ki,e1,Rb,e,Rb];exact uk (by decide) rfl,.inl rfl,d⟩
 ·exact⟨b,s',by rw[ki,e1,Rb,e,Rb];exact uk (by decide) rfl,.inr (.inl rfl),d⟩
 ·exact⟨c,s',by rw[ki,e1,Rb,e,Rb];exact uk (by decide) rfl,.inr (.inr rfl),d⟩
theorem zba(s:Sto):z3L (.int 10) (.int 14) s=.ok (.int 100000000000000) s:=by rw[z5d];rfl
theorem z8l{x:Int}(h:x<=1000000000000000):x<2 ^ 2000:=_bC h (by decide +kernel)
theorem z2D{fi:FI}{mp:List (Option Nat)}{fg:FG}{ft:FT}{fe:FE}{Z:Ev}{s s':Sto}{ys:List D}(h:zQ fi mp fg ft fe Z s=.ok (.lst ys) s')(hf:D.flat.flats ys=true):qe fi mp fg ft fe Z s=.ok (.loc s'.length) (s'++[ys]):=by
 rw[vF]at h;rw[z5O];cases e:z14 fi mp fg ft fe Z s with
 | ok xs t=>
  rw[e]at h;simp only[Rb,R.ok.injEq,D.lst.injEq]at h;rw[Rb,h.1,h.2,_o hf] | ex c t=>rw[e]at h;simp at h | no=>rw[e]at h;simp at h
theorem ints_of{Q:Int->Prop}:∀{ys:List D},(∀y∈ys,∃x:Int,y=.int x/\Q x)->∃xs:List Int,ys=iL xs/\∀x∈xs,Q x
 | [],_=>⟨[],rfl,by simp⟩ | y::ys,h=>by
  obtain⟨x,rfl,q⟩:=h y (by simp);obtain⟨xs,rfl,qs⟩:=ints_of (ys:=ys) λz hz=>h z (by simp[hz]);exact⟨x::xs,rfl,by simpa using ⟨q,qs⟩⟩
def zO(n k:Nat):List Int:=(List.range n).map λp=>if p=k then (1:Int) else 0
theorem b2i(p j:Nat)(s:Sto):(dEq (.int (p:Int)) (.int (j:Int)) s).bind (λx s1=>z4c [x] s1)=.ok (.int (if p=j then 1 else 0)) s:=by
 rw[z67,Rb];by_cases h:p=j;·simp[h,z4c]
 ·have:¬ ((p:Int)=(j:Int)):=by omega
  simp[h,this,z4c]
theorem zai {n j a b:Nat} (hn:n<=4) {Z:Ev} {s:Sto} (h3:Z[a]? = some (some (.int (n:Int)))) (hj:Z[b]? = some (some (.int (j:Int)))):zQ (z2K (za (zc a) zg)) [some b,none] (xC 1) yJ (zd z4c (za (eOp dEq (zc 1) (zc 0)) zg)) Z s=.ok (.lst (iL (zO n j))) s:=by
 have hr:=z4i (n:=n) (by omega) (show za (zc a) zg Z s=.ok [.int n] s by rw[zj,vr h3,Rb];rfl);have c:=comp_map (fi:=z2K (za (zc a) zg)) (mp:=[some b,none]) (fg:=xC 1) (fe:=zd z4c (za (eOp dEq (zc 1) (zc 0)) zg)) (Z:=Z) (s:=s) (λp:Nat=>D.int ((p:Nat):Int)) (λp:Nat=>D.int (if p=j then 1 else 0)) (λp=>[some (.int (j:Int)),some (.int (p:Int))]) (List.range n) hr (λp _=>by simp[hj]) (λp _=>by
  rw[wG,zj,op2 (x:=.int (p:Int)) (y:=.int (j:Int)) (vr rfl) (vr rfl)];have:=b2i p j s;rw[z67,Rb]at this ⊢;exact this) (by simp[cap];omega);rw[c];simp[zO,iL,_ag]
structure St(s:Sto)(l a b:Nat)(o:List Int)(T:Tb):Prop where
 pot:Pot s l
 fo:s[a]? = some (iL o)
 fw:s[b]? = some (T.map rD)
 la:l≠a
 lb:l≠b
 ab:a≠b
theorem St.drawn{s s':Sto}{l a b:Nat}{o:List Int}{T:Tb}(h:St s l a b o T)(d:xj s s' l):St s' l a b o T:= ⟨d.pot,by rw[d.oth a (_aH h.la)];exact h.fo,by rw[d.oth b (_aH h.lb)];exact h.fw,h.la,h.lb,h.ab⟩
theorem St.lt{s:Sto}{l a b:Nat}{o:List Int}{T:Tb}(h:St s l a b o T):l<s.length/\a<s.length/\b<s.length:=⟨h.pot.lt,(_b.mp h.fo).1,(_b.mp h.fw).1⟩
theorem St.app{s:Sto}{l a b:Nat}{o:List Int}{T:Tb}(h:St s l a b o T)(t:Sto):St (s++t) l a b o T:= ⟨h.pot.app t,by rw[_x h.lt.2.1];exact h.fo,by rw[_x h.lt.2.2];exact h.fw,h.la,h.lb,h.ab⟩
theorem St.put{s:Sto}{l a b:Nat}{o:List Int}{T:Tb}(h:St s l a b o T)(U:Tb):St (s.set b (U.map rD)) l a b o U:=by
 obtain⟨p,e⟩:=h.pot;exact⟨⟨p,by rw[_f (_aH h.lb)];exact e⟩,by rw[_f (_aH h.ab)];exact h.fo,by rw[_v h.lt.2.2],h.la,h.lb,h.ab⟩
theorem St.else{s:Sto}{l a b j:Nat}{xs:List D}{o:List Int}{T:Tb}(h:St s l a b o T)(hj:j≠l/\j≠a/\j≠b):St (s.set j xs) l a b o T:=by
 obtain⟨p,e⟩:=h.pot;exact⟨⟨p,by rw[_f hj.1];exact e⟩,by rw[_f hj.2.1];exact h.fo,by rw[_f hj.2.2];exact h.fw,h.la,h.lb,h.ab⟩
section
variable {n k:Nat}{g:Int}{o:List Int}{s:Sto}
theorem Th.rep{d:D}(h:Th d):uG d=true:=kY (vH h.gd) (h.sp.elim .inl λq=>.inr (.inl q))
theorem zcp(h:Lo n g o k){r:List Int}(hr:Row n r){d:D}(hd:xW (iL r) d):Bad 0 (yX g o) s d:=⟨(hd.th hr.rw).rep,z3y h.lot (hd.nw hr)⟩
theorem zcl(h:Lo n g o k){r:List Int}(hr:Row n r){d:D}(hd:xW (iL r) d):Bad 1 (yX g o) s d:=⟨(hd.th hr.rw).rep,ua h.lot (hd.nw hr)⟩
theorem Lo.row(h:Lo n g o k):Row n o:=⟨h.sz,h.len,λx hx=>vU (h.obd x hx)⟩
theorem yh(h:Lo n g o k):Row n (zO n k):=⟨h.sz,by simp[zO],λx hx=>by
 obtain⟨p,_,rfl⟩:=_r.mp hx;split<;>decide +kernel⟩
theorem Row.gd{r:List Int}(h:Row n r):gd 1 (rD r)=true/\cl (rD r)=true/\Dd.noL (rD r)=true:=z1j h.sz h.len h.bd
theorem z0F{x y z:D}(hg:gd 4 x=true/\gd 4 y=true/\gd 4 z=true)(hs:(cl x=true/\cl y=true/\cl z=true)\/(Dd.noL x=true/\Dd.noL y=true/\Dd.noL z=true)):uG (.tup [x,y,z])=true:=by
 refine kY (vK (by simp) (by simpa using hg)) ?_;rcases hs with hs | hs;·exact .inl (uz (by simpa using hs))
 ·exact .inr (.inl (z7g (by simpa using hs)))
theorem Lo.gi(h:Lo n g o k):gd 4 (.int g)=true:=by simp[K93.gd,vU h.gbd]
theorem gi'{i:Int}(h:i.natAbs<2 ^ 104):gd 4 (.int i)=true:=by simp[K93.gd,h]
theorem up3{d:D}(h:gd 1 d=true):gd 4 d=true:=vH (vH (vH h))
theorem zbk(h:Lo n g o k){d:D}(hd:xW (iL o) d):Bad 3 (yX g o) s (.tup [.int g,d,rD (zO n k)]):=by
 have th:=hd.th h.row.rw;have nw:=hd.nw h.row;have q:=(yh h).gd;refine⟨z0F ⟨h.gi,th.gd,up3 q.1⟩ (th.sp.imp (λc=>⟨rfl,c,q.2.1⟩) λc=>⟨rfl,c,q.2.2⟩),uu h.lot rfl nw.kd ?_⟩;simp[kG,nw.no]
theorem z1E (h:Lo n g o k) {d:D} (nw:Nw n d):zo [rD (yX g o),.tup [.int g,rD o,d]] s=.ok (.bl false) s:= z1c h.lot (by decide) (by have:=h.g1;omega) (vU h.gbd) h.len (λx hx=>vU (h.obd x hx)) rfl (z2f h.lot nw)
theorem zbX(h:Lo n g o k){d:D}(hd:xW (iL (zO n k)) d):Bad 3 (yX g o) s (.tup [.int g,rD o,d]):=by
 have th:=hd.th (yh h).rw;have q:=h.row.gd;exact⟨z0F ⟨h.gi,up3 q.1,th.gd⟩ (th.sp.imp (λc=>⟨rfl,q.2.1,c⟩) λc=>⟨rfl,q.2.2,c⟩),z1E h (hd.nw (yh h))⟩
def shO(n k:Nat)(g:Int)(o:List Int):List D:=[.int g,rD o,rD (zO n k)]
theorem z5q{r:List Int}(h:Row n r):It (rD r):=by
 have q:=h.gd;exact⟨z3W q.1 (by decide) q.2.1,vH q.1,q.2.1,q.2.2⟩
theorem z9V(h:Lo n g o k):Rw (shO n k g o):=⟨by simp[shO],by simp[shO],λx hx=>by
 simp only[shO,_p,_E,_aB]at hx;rcases hx with rfl | rfl | rfl;·exact z7u (vU h.gbd)
 ·exact z5q h.row
 ·exact z5q (yh h)⟩
theorem z4S(xs:List D):t01 (.tup xs)=false:=by simp[t01,eqD,zS,PyData.eqv]
theorem z6d{d:D}(h:Kd d)(hl:yB n d=false):Nw n d:=⟨h,hl⟩
theorem zaZ(h:Lo n g o k){d:D}(hd:xW (shO n k g o) d):Bad 3 (yX g o) s d:=by
 refine⟨(hd.th (z9V h)).rep,?_⟩;show zo [rD (yX g o),d] s=.ok (.bl false) s;have hsz:=h.sz;have n1:n≠1:=by unfold Sz at hsz;omega
 cases hd with
 | @tr ys t=>
  have l3:ys.length=3:=by rw[t.len];rfl
  obtain⟨a,b,c,rfl⟩:=z0q l3;have hb:=t.pt 1 (rD o) b rfl rfl;have hc:=t.pt 2 (rD (zO n k)) c rfl rfl;have hb:b=rD o:=by
   rcases hb with q | q;·exact q
   ·rw[z4S]at q;cases q.1
  have hc:c=rD (zO n k):=by
   rcases hc with q | q;·exact q
   ·rw[z4S]at q;cases q.1
  subst hb hc;obtain⟨j,bb,e⟩:=t.bl;have ha:a=.bl bb:=by match j,e with
   | 0,e=>simpa using e | 1,e=>simp at e | 2,e=>simp at e | j+3,e=>simp at e
  subst ha;exact uu h.lot rfl (z5q h.row |>.gd |> z5T) rfl | fx hd=>
  simp only[z0c,z4E,shO,_i,_p,_E,_aB,List.dropLast,_ao,_C]at hd;rcases hd with rfl | rfl | rfl | rfl | rfl | rfl | rfl | rfl | rfl | rfl | rfl | rfl | rfl | rfl;·exact xa h.lot rfl (by intro xs e;cases e)
  ·exact xa h.lot rfl (by intro xs e;cases e;simp)
  ·exact xa h.lot rfl (by intro xs e;cases e;simp)
  ·exact xa h.lot rfl (by intro xs e;cases e;simp)
  ·exact xa h.lot rfl (by intro xs e;cases e)
  ·exact xa h.lot rfl (by intro xs e;cases e)
  ·exact xa h.lot rfl (by intro xs e;cases e)
  ·exact xa h.lot rfl (by intro xs e;cases e)
  ·exact xa h.lot rfl (by intro xs e;cases e)
  ·exact z1E h (z6d rfl rfl)
  ·exact z1E h (z6d rfl rfl)
  ·exact z1E h (z6d (by intro x hx;simp at hx;rw[hx];rfl) (by simp only[yB,_aU,_av];left;simp;omega))
  ·exact z1E h (z6d rfl rfl)
  ·exact xa h.lot rfl (by intro xs e;cases e)
theorem zbE(h:Lo n g o k)(b:Bool):Bad 3 (yX g o) s (.tup [.bl b,rD o,rD (zO n k)]):=by
 have q:=h.row.gd;have q2:=(yh h).gd;exact⟨z0F ⟨rfl,up3 q.1,up3 q2.1⟩ (.inl ⟨rfl,q.2.1,q2.2.1⟩),uu h.lot rfl (z5T q.1) rfl⟩
theorem zaE(h:Lo n g o k){a b:List Int}(ha:Row n a)(hb:Row n b):Bad 3 (yX g o) s (.tup [.int (0-g),rD a,rD b]):=by
 have q:=ha.gd;have q2:=hb.gd;have g1:=h.g1;have gb:=vU h.gbd;refine⟨z0F ⟨gi' (by omega),up3 q.1,up3 q2.1⟩ (.inl ⟨rfl,q.2.1,q2.2.1⟩),uu h.lot rfl (z5T q.1) ?_⟩;have:¬ 0<0-g:=by omega
 simp only[kG,_ak this,Bool.false_and]
theorem z5B{r:List Int}(h:Row n r):Row n (r.map λx=>0-x):=⟨h.sz,by rw[_Y];exact h.len,λx hx=>by
 obtain⟨y,hy,rfl⟩:=_r.mp hx;have:=h.bd y hy;omega⟩
theorem z3z(h:Lo n g o k):zA [rD (yX g o),rD (zO n k)] s=.ok (.bl true) s:=by
 have:=z0P h.lot (yh h).len (yh h).bd (by decide) (by decide) s;rw[h.gcd,show dot (zO n k) (yX g o)=g from (jc h).2.2]at this;simpa using this
theorem z3Y (h:Lo n g o k):zo [rD (yX g o),.tup (shO n k g o)] s=.ok (.bl true) s:=by
 refine z1c h.lot (by decide) (by have:=h.g1;omega) (vU h.gbd) h.len (λx hx=>vU (h.obd x hx)) rfl ?_;have:=jB (x:=g) h.lot (yh h).len (yh h).bd (by decide) (by decide) s;rw[show dot (zO n k) (yX g o)=g from (jc h).2.2]at this;simpa using this
theorem z7z(h:Lo n g o k):∀r∈xw n k o++[List.replicate n 0],Row n r/\zh [rD (yX g o),rD r] s=.ok (.bl true) s:=λr hr=>by
 have key:∀r,Row n r->dot r (yX g o)=0->Row n r/\zh [rD (yX g o),rD r] s=.ok (.bl true) s:=λr row z=>by
  have:=vc h.lot row.len row.bd (by decide) (by decide) s;rw[z]at this;exact⟨row,by simpa using this⟩
 rcases _i.mp hr with hr | hr
 ·obtain⟨a,b,c⟩:=uo h r hr;exact key r ⟨h.sz,a,λx hx=>vU (b x hx)⟩ c
 ·simp only[_aP]at hr;subst hr;refine key _ ⟨h.sz,by simp,λx hx=>by rw[List.eq_of_mem_replicate hx];decide +kernel⟩ ?_;have:∀(n:Nat)(v:List Int),dot (List.replicate n 0) v=0:=by
   intro n;induction n with
   | zero=>intro v;simp[dot] | succ n ih=>
    intro v;cases v with
    | nil=>simp[dot] | cons a v=>have:=ih v;simp only[dot]at this;simp[dot,_af,this]
  exact this n _
end
section
variable {Z:Ev}{s:Sto}{l:Nat}
theorem l3 (hp:Pot s l) (h2:Z[2]? = some (some (.loc l))):∃(n:Nat) (s':Sto),Sz n/\xj s s' l/\z0V Z s=.ok (.nx (Z.set 3 (some (.int (n:Int))))) s':=by
 obtain⟨r,s',e,r0,r1,d⟩:=kX (far:=3) (f:=zc 2) (g:=eC (.int 3)) (Z:=Z) hp (by decide) (by decide +kernel) (vr h2) rfl;refine⟨2+r.toNat,s',by unfold Sz;omega,d,?_⟩;rw[z0V,yD,ki,z5H,Rb,e,Rb,z2P,Rb];rw[show (2:Int)+r=((2+r.toNat:Nat):Int) by omega]
theorem l4 {n:Nat} (hn:Sz n) (hp:Pot s l) (h2:Z[2]? = some (some (.loc l))) (h3:Z[3]? = some (some (.int (n:Int)))):∃(k:Nat) (g:Int) (s':Sto),k<n/\1<=g/\g<=1000000000000000/\xj s s' l/\z0J Z s=.ok (.nx ((Z.set 4 (some (.int (k:Int)))).set 5 (some (.int g)))) s':=by
 obtain⟨r,s1,e1,r0,r1,d1⟩:=kX (far:=(n:Int)) (f:=zc 2) (g:=zc 3) (Z:=Z) hp (by unfold Sz at hn;omega) (z8l (by unfold Sz at hn;omega)) (vr h2) (vr h3);obtain⟨x,s2,e2,hx,d2⟩:=z9H (i:=2) (Z:=Z) (a:=1) (b:=9) (c:=1000000000000000) (fa:=eC (.int 1)) (fb:=eC (.int 9)) (fc:=eOp z3L (eC (.int 10)) (eC (.int 15))) d1.pot h2 rfl rfl (by rw[op2 (x:=.int 10) (y:=.int 15) rfl rfl,zaV]);obtain⟨y,s3,e3,y0,y1,d3⟩:=z5m (far:=x) d2.pot (by omega) (z8l (by omega));refine⟨r.toNat,1+y,s3,by omega,by omega,by omega,(d1.trans d2).trans d3,?_⟩;rw[z0J,z5p,jm,zj,e1,Rb,zj,ki,z5H,Rb,z6Y (x:=.loc l) (y:=.int x) (vr h2) e2,e3,Rb,z2P,Rb,xc];simp only[Rb];rw[_o (by simp[cap]),Rb,z1W];simp only[Rb];rw[show r=(r.toNat:Int) by omega];simp
theorem l5 {n:Nat} (hn:Sz n) (hp:Pot s l) (h2:Z[2]? = some (some (.loc l))) (h3:Z[3]? = some (some (.int (n:Int)))):∃(ys:List Int) (s':Sto),ys.length=n/\(∀x∈ys,0<=x/\x<100000000000000)/\xj s s' l/\z0s Z s=.ok (.nx (Z.set 6 (some (.loc s'.length)))) (s'++[iL ys]):=by
 have n4:n<=4:=by unfold Sz at hn;omega
 have hr:=z4i (n:=n) (by omega) (show za (zc 3) zg Z s=.ok [.int n] s by rw[zj,vr h3,Rb];rfl);obtain⟨ys,s',e,hl,hq,hd⟩:=z7K (fi:=z2K (za (zc 3) zg)) (mp:=[some 2,none]) (fg:=xC 1) (fe:=zd Pg.zx (za (zc 0) (za (eOp dIx (wz (za (eC (.int 2)) (za (eC (.int 4)) (za (eOp z3L (eC (.int 10)) (eC (.int 14))) zg)))) (zd Pg.zx (za (zc 0) (za (eC (.int 3)) zg)))) zg))) (Z:=Z) (s:=s) (λp:Nat=>D.int ((p:Nat):Int)) (λp=>[some (.loc l),some (.int (p:Int))]) (λt=>xj s t l) (λy=>∃x:Int,y=.int x/\0<=x/\x<100000000000000) (List.range n) hr (λp _ t=>by simp[h2]) (λp _ t ht=>by
  obtain⟨x,s2,e2,hx,d2⟩:=z9H (i:=0) (Z:=[some (.loc l),some (.int (p:Int))]) (a:=2) (b:=4) (c:=100000000000000) (fa:=eC (.int 2)) (fb:=eC (.int 4)) (fc:=eOp z3L (eC (.int 10)) (eC (.int 14))) ht.pot rfl rfl rfl (by rw[op2 (x:=.int 10) (y:=.int 14) rfl rfl,zba]);obtain⟨y,s3,e3,y0,y1,d3⟩:=z5m (far:=x) d2.pot (by omega) (z8l (by omega));exact⟨.int y,s3,by rw[z6Y (x:=.loc l) (y:=.int x) (vr rfl) e2,e3],⟨y,rfl,y0,by omega⟩,(ht.trans d2).trans d3⟩) (by simp[cap];omega) (xj.refl hp);obtain⟨xs,rfl,hx⟩:=ints_of (Q:=λx=>0<=x/\x<100000000000000) hq;refine⟨xs,s',by simpa using hl,hx,hd,?_⟩;rw[z0s,yD,z2D e (uW xs),Rb]
theorem l7 {a:Nat} {g:Int} {o:List Int} (ho:o.length<=4) (ob:∀x∈o,x.natAbs<2 ^ 104) (gb:g.natAbs<2 ^ 104) (h5:Z[5]? = some (some (.int g))) (h6:Z[6]? = some (some (.loc a))) (fo:s[a]? = some (iL o)):z0G Z s=.ok (.nx (Z.set 7 (some (rD (yX g o))))) s:=by
 have c:=Po.z1h (G:=[(a,iL o)]) (fi:=zY (zc 6)) (mp:=[some 5,none]) (fg:=xC 1) (fe:=eOp yP (zc 0) (zc 1)) (Z:=Z) (s:=s) D.int (λx=>D.int (g*x)) (λx=>[some (.int g),some (.int x)]) o (by simp[h6,fo]) (by intro p hp;simp at hp;rw[hp];exact fo) (λx _=>by simp[h5]) (λx hx=>by
  rw[op2 (x:=.int g) (y:=.int x) (vr rfl) (vr rfl)];exact qb s gb (by decide) (ob x hx) (by decide)) (by simp[cap];omega);have c2:o.map (λx=>D.int (g*x))=iL (yX g o):=by simp[iL,yX,_ag]
 rw[c2]at c;rw[z0G,yD,yo c,uq,Rb]
theorem l8{n k:Nat}(hn:n<=4)(h3:Z[3]? = some (some (.int (n:Int))))(h4:Z[4]? = some (some (.int (k:Int)))):z0D Z s=.ok (.nx (Z.set 8 (some (rD (zO n k))))) s:=by rw[z0D,yD,yo (zai hn h3 h4),uq,Rb]
theorem l9:z0B Z s=.ok (.nx (Z.set 9 (some (.loc s.length)))) (s++[[]]):=by
 rw[z0B,yD];simp[cap,D.flat.flats]
theorem l11 {n k j a b:Nat} {g:Int} {o:List Int} {T:Tb} (h:Lo n g o k) (hj:j<n) (hne:j≠k) (hT:T.length<=4) (S:St s l a b o T) (h3:Z[3]? = some (some (.int (n:Int)))) (h4:Z[4]? = some (some (.int (k:Int)))) (h6:Z[6]? = some (some (.loc a))) (h9:Z[9]? = some (some (.loc b))) (h10:Z[10]? = some (some (.int (j:Int)))) (hlen:Z.length=15): ∃s',vE Z s=.ok (.nx (Z.set 11 (some (.loc s.length)))) s'/\St s' l a b o (T++[rowOf n k o j]):=by
 have n4:n<=4:=by have:=h.sz;unfold Sz at this;omega
 have f12:z0K Z s=.ok (.nx (Z.set 11 (some (.loc s.length)))) (s++[iL (zO n j)]):=by rw[z0K,yD,z2D (zai n4 h3 h10) (uW _),Rb]
 have S1:=S.app [iL (zO n j)];have lt:=S.lt;have kn:=h.kn;have ol:(zO n j).length=n:=by simp[zO]
 have oj:o[j]? = some (o.getD j 0):=by rw[_aC,_d (by rw[h.len];exact hj),_ap]
 have v:∀i d,i≠11->Z[i]? = some (some d)->(Z.set 11 (some (.loc s.length)))[i]? = some (some d):=λi d hi e=>by rw[_f (_aH hi)];exact e
 have v11:(Z.set 11 (some (.loc s.length)))[11]? = some (some (.loc s.length)):=by rw[_v (by omega)]
 have f13:z0U (Z.set 11 (some (.loc s.length))) (s++[iL (zO n j)])=.ok (.nx (Z.set 11 (some (.loc s.length)))) ((s++[iL (zO n j)]).set s.length (iL (rowOf n k o j))):=by
  have:=z4l (fa:=zc 11) (fb:=zc 4) (fc:=eOp z25 (eC (.int 0)) (eOp dIx (zc 6) (zc 10))) (Z:=Z.set 11 (some (.loc s.length))) (s:=s++[iL (zO n j)]) (s1:=s++[iL (zO n j)]) (s2:=s++[iL (zO n j)]) (L:=s.length) (xs:=zO n j) (i:=(k:Int)) (x:=0-o.getD j 0) (by rw[op2 (x:=.int 0) (y:=.int (o.getD j 0)) rfl (by
    rw[op2 (x:=.loc a) (y:=.int (j:Int)) (vr (v 6 _ (by decide) h6)) (vr (v 10 _ (by decide) h10))];exact z9f S1.fo (by omega) (by rw[_D,_at,oj];rfl)),z2I]) (vr v11) (vr (v 4 _ (by decide) h4)) (by simp) (by omega) (by rw[ol];omega);rw[z0U,this];rw[_at];rfl
 have S2:St ((s++[iL (zO n j)]).set s.length (iL (rowOf n k o j))) l a b o T:=S1.else ⟨by omega,by omega,by omega⟩;have f14:z0O (Z.set 11 (some (.loc s.length))) ((s++[iL (zO n j)]).set s.length (iL (rowOf n k o j)))=.ok (.nx (Z.set 11 (some (.loc s.length)))) (((s++[iL (zO n j)]).set s.length (iL (rowOf n k o j))).set b ((T++[rowOf n k o j]).map rD)):=by
  have at_:((s++[iL (zO n j)]).set s.length (iL (rowOf n k o j)))[s.length]? = some (iL (rowOf n k o j)):=by rw[_v (by simp)]
  rw[z0O,jY,z1O,vr (v 9 _ (by decide) h9),Rb];simp only;rw[yo (x:=.loc s.length) (vr v11)];rw[show zM [.loc s.length] ((s++[iL (zO n j)]).set s.length (iL (rowOf n k o j)))=.ok (rD (rowOf n k o j)) ((s++[iL (zO n j)]).set s.length (iL (rowOf n k o j))) by simp only[zM,zI,at_]];rw[Rb,S2.fw];simp only;rw[_o ⟨z2i _,by simp[cap];omega⟩,Rb,List.map_append];rfl
 refine⟨_,?_,S2.put _⟩;have t:tOf (eOp dNe (zc 10) (zc 4)) Z s=.ok true s:=xu (by
  rw[op2 (x:=.int (j:Int)) (y:=.int (k:Int)) (vr h10) (vr h4),z3B];have:¬ ((j:Int)=(k:Int)):=by omega
  simp[this]);rw[vE,z5U t,zr f12,zr f13,f14]
theorem zcF {k:Nat} (h4:Z[4]? = some (some (.int (k:Int)))) (h10:Z[10]? = some (some (.int (k:Int)))):vE Z s=.ok (.nx Z) s:=by
 rw[vE,z4d (xu (by rw[op2 (x:=.int (k:Int)) (y:=.int (k:Int)) (vr h10) (vr h4),z3B];simp))];rfl
end
structure En(ns:List Int)(l n k:Nat)(g:Int)(a:Nat)(o:List Int)(b:Nat)(Z:Ev):Prop where
 len:Z.length=15
 e0:Z[0]? = some (some (.scr (ns.map D.int)))
 e2:Z[2]? = some (some (.loc l))
 e3:Z[3]? = some (some (.int (n:Int)))
 e4:Z[4]? = some (some (.int (k:Int)))
 e5:Z[5]? = some (some (.int g))
 e6:Z[6]? = some (some (.loc a))
 e7:Z[7]? = some (some (rD (yX g o)))
 e8:Z[8]? = some (some (rD (zO n k)))
 e9:Z[9]? = some (some (.loc b))
section
variable {ns:List Int}{Z:Ev}{s:Sto}{l n k a b:Nat}{g:Int}{o:List Int}
theorem En.set(e:En ns l n k g a o b Z){i:Nat}{d:D}(hi:10<=i):En ns l n k g a o b (Z.set i (some d)):=by
 refine⟨by rw[List.length_set];exact e.len,?_,?_,?_,?_,?_,?_,?_,?_,?_⟩;·rw[_f (by omega)];exact e.e0
 ·rw[_f (by omega)];exact e.e2
 ·rw[_f (by omega)];exact e.e3
 ·rw[_f (by omega)];exact e.e4
 ·rw[_f (by omega)];exact e.e5
 ·rw[_f (by omega)];exact e.e6
 ·rw[_f (by omega)];exact e.e7
 ·rw[_f (by omega)];exact e.e8
 ·rw[_f (by omega)];exact e.e9
theorem En.at_(e:En ns l n k g a o b Z){i:Nat}{d:D}(hi:i<15):(Z.set i (some d))[i]? = some (some d):=by rw[_v (by rw[e.len];exact hi)]
def z8B(n k:Nat)(o:List Int)(j:Nat):Tb:=((List.range j).filter λi=>decide (i≠k)).map (rowOf n k o)
theorem z1n(j:Nat):z8B n k o (j+1)=if j=k then z8B n k o j else z8B n k o j++[rowOf n k o j]:=by
 unfold z8B;rw[List.range_succ,List.filter_append];by_cases h:j=k;·simp[h]
 ·simp[h]
theorem z6u(j:Nat)(hj:j<=4):(z8B n k o j).length<=4:=by
 unfold z8B;rw[_Y];exact _B (List.length_filter_le _ _) (by simpa using hj)
theorem l10 (h:Lo n g o k) (e:En ns l n k g a o b Z) (S:St s l a b o []):∃Z' s',qP Z s=.ok (.nx Z') s'/\En ns l n k g a o b Z'/\St s' l a b o (xw n k o):=by
 have n4:n<=4:=by have:=h.sz;unfold Sz at this;omega
 obtain⟨Z',s',q,e',S'⟩:=jb (all:=yK n) (body:=λd Z s=>(xC 10 d Z s).bind λZ' s'=>vE Z' s') (λj Z s=>En ns l n k g a o b Z/\St s l a b o (z8B n k o j)) (yK n) 0 (λj x hx Z s hI=>by
  obtain⟨e,S⟩:=hI;obtain⟨hj,rfl⟩:=jW hx;rw[_bx]at S ⊢;rw[z03,Rb];have e1:=e.set (i:=10) (d:=.int (j:Int)) (by decide);have at10:=e.at_ (i:=10) (d:=.int (j:Int)) (by decide);by_cases hk:j=k
  ·subst hk;refine⟨_,s,zcF e1.e4 at10,e1,?_⟩;rw[z1n,_o rfl];exact S
  ·obtain⟨s',q,S'⟩:=l11 h hj hk (z6u j (by omega)) S e1.e3 e1.e4 e1.e6 e1.e9 at10 e1.len;refine⟨_,s',q,e1.set (by decide),?_⟩;rw[z1n,_I hk];exact S') Z s ⟨e,S⟩;refine⟨Z',s',?_,e',?_⟩
 ·rw[qP,z0b,z76 (n:=n) (by omega) (show za (zc 3) zg Z s=.ok [.int n] s by rw[zj,vr e.e3,Rb];rfl),Rb];exact q
 ·rw[_bx,show (yK n).length=n by simp[yK]]at S';exact S'
theorem z2U {j:Nat} (hj:j<4) {v:D} {r:List D} (hr:Rw r) (hb:∀d,xW r d->uG d=true/\fnk j [v,d] s=.ok (.bl false) s) {fk fv fr:FE} (hk:fk Z s=.ok (.int (j:Int)) s) (hv:fv Z s=.ok v s) (hf:fr Z s=.ok (.tup r) s): zd zK (za fk (za fv (za (zd zB (za fr zg)) zg))) Z s=.ok (.bl true) s:=by
 obtain⟨L,e,l20,hL⟩:=ji hr s;rw[z55 (x:=.int (j:Int)) (y:=v) (z:=.lst L) hk hv (by rw[yo hf,e])];exact jG hj (.inl rfl) λd hd=>hb d (hL d hd)
theorem l15 (h:Lo n g o k) (e:En ns l n k g a o b Z):qZ Z s=.ok (.nx Z) s:=by
 rw[qZ,z4d];·rfl
 ·refine z1J (xu ?_) (z0L (xu ?_));·rw[op2 (x:=.bl true) (y:=.bl true) (by rw[call2 (vr e.e7) (vr e.e8)];exact z3z h) rfl];rfl
  ·exact z2U (j:=0) (by decide) (yh h).rw (λd hd=>⟨(zcp (s:=s) h (yh h) hd).rep,(zcp h (yh h) hd).no⟩) rfl (vr e.e7) (vr e.e8)
theorem zcy(n:Nat)(hn:Sz n)(s:Sto):z4x (.tup [.int 0]) (.int (n:Int)) s=.ok (rD (List.replicate n 0)) s:=by rcases hn with rfl | rfl | rfl<;>rfl
theorem l17 (h:Lo n g o k) (e:En ns l n k g a o b Z) (S:St s l a b o (xw n k o)):∃Z',qT Z s=.ok (.nx Z') s/\En ns l n k g a o b Z':=by
 have n4:n<=4:=by have:=h.sz;unfold Sz at this;omega
 have l1:=ux h;have it:zY (eOp yL (zc 9) (wz (za (eOp z4x (wq (za (eC (.int 0)) zg)) (zc 3)) zg))) Z s=.ok ((xw n k o++[List.replicate n 0]).map rD,[]) s:=by
  refine wY ?_;rw[op2 (x:=.loc b) (y:=.lst [rD (List.replicate n 0)]) (vr e.e9) (by
   rw[jN,zj,op2 (x:=.tup [.int 0]) (y:=.int (n:Int)) (by simp[cap]) (vr e.e3),zcy n h.sz,Rb,xc];simp[cap])];simp only[yL,Dd.listOf,S.fw];rw[_o (by simp[cap];omega)];simp
 obtain⟨Z',q,e'⟩:=uY (G:=[]) (all:=(xw n k o++[List.replicate n 0]).map rD) (s:=s) (body:=λd Z s=>(xC 11 d Z s).bind λZ' s'=>z0r Z' s') (by intro p hp;simp at hp) (λZ=>En ns l n k g a o b Z) ((xw n k o++[List.replicate n 0]).map rD) Z (λx hx Z e=>by
  obtain⟨r,hr,rfl⟩:=_r.mp hx;obtain⟨row,rel⟩:=z7z (s:=s) h r hr;have e1:=e.set (i:=11) (d:=rD r) (by decide);have at11:=e.at_ (i:=11) (d:=rD r) (by decide);refine⟨_,?_,e1⟩;rw[z03,Rb,z0r,z4d];·rfl
  ·refine z1J (xu ?_) (z0L (xu ?_));·rw[op2 (x:=.bl true) (y:=.bl true) (by rw[call2 (vr e1.e7) (vr at11)];exact rel) rfl];rfl
   ·exact z2U (j:=1) (by decide) row.rw (λd hd=>⟨(zcl (s:=s) h row hd).rep,(zcl h row hd).no⟩) rfl (vr e1.e7) (vr at11)) e;exact⟨Z',by rw[qT,z0b,it,Rb];exact q,e'⟩
theorem z9g{i:Nat}(fo:s[a]? = some (iL o))(hi:Z[i]? = some (some (.loc a))):zd zM (za (zc i) zg) Z s=.ok (rD o) s:=by
 rw[yo (vr hi)];simp only[zM,zI,fo]
theorem l20(e:En ns l n k g a o b Z)(fo:s[a]? = some (iL o)):qY Z s=.ok (.nx (Z.set 12 (some (.tup (shO n k g o))))) s:=by
 rw[qY,yD,jm,zj,vr e.e5,Rb,zj,z9g fo e.e6,Rb,zj,vr e.e8,Rb,xc];simp[cap,shO]
theorem l21 (h:Lo n g o k) (e:En ns l n k g a o b Z) (S:St s l a b o (xw n k o)) (h12:Z[12]? = some (some (.tup (shO n k g o)))):∃s',jg Z s=.ok (.nx Z) s'/\St s' l a b o (xw n k o):=by
 obtain⟨s',q,d⟩:=z0l h S.pot S.fw (_aH S.lb);refine⟨s',?_,S.drawn d⟩;have t1:tOf (eOp qt (zd Pg.zo (za (zc 7) (za (zc 12) zg))) (eC (.bl true))) Z s=.ok false s:=xu (by rw[op2 (x:=.bl true) (y:=.bl true) (by rw[call2 (vr e.e7) (vr h12)];exact z3Y h) rfl];rfl);have t2:kW (tOf (zd zN (za (zc 2) (za (zc 7) (za (zc 9) zg))))) Z s=.ok false s':=by rw[z3m,zaC,z55 (vr e.e2) (vr e.e7) (vr e.e9),q];rfl
 rw[jg,z4C,z6h,t1,Rb,_I (by decide),t2,Rb,_I (by decide)];rfl
end
section
variable {ns:List Int}{Z:Ev}{s:Sto}{l n k a b:Nat}{g:Int}{o:List Int}
def B3(g:Int)(o:List Int)(d:D):Prop:=∀s,Bad 3 (yX g o) s d
theorem l23 (h:Lo n g o k) (e:En ns l n k g a o b Z) (fo:s[a]? = some (iL o)):∃T,qU Z s=.ok (.nx (Z.set 13 (some (.lst T)))) s/\T.length<=20/\∀d∈T,B3 g o d:=by
 obtain⟨L,eL,l20,hL⟩:=ji h.row.rw s;have c:=comp_map (fi:=zY (zd zB (za (zd zM (za (zc 6) zg)) zg))) (mp:=[some 5,some 8,none]) (fg:=xC 2) (fe:=wq (za (zc 0) (za (zc 2) (za (zc 1) zg)))) (Z:=Z) (s:=s) (λd=>d) (λd=>D.tup [.int g,d,rD (zO n k)]) (λd=>[some (.int g),some (rD (zO n k)),some d]) L (wY (by rw[yo (z9g fo e.e6),eL];simp)) (λd _=>by simp[e.e5,e.e8]) (λd _=>by simp[cap]) (by simp[cap];omega);refine⟨L.map λd=>D.tup [.int g,d,rD (zO n k)],by rw[qU,yD,c,Rb],by simpa using l20,λd hd s=>?_⟩;obtain⟨z,hz,rfl⟩:=_r.mp hd;exact zbk h (hL z hz)
theorem l24 (h:Lo n g o k) (e:En ns l n k g a o b Z) (fo:s[a]? = some (iL o)) {T:List D} (hT:T.length<=20) (bT:∀d∈T,B3 g o d) (h12:Z[12]? = some (some (.tup (shO n k g o)))) (h13:Z[13]? = some (some (.lst T))):∃U,jh Z s=.ok (.nx (Z.set 13 (some (.lst U)))) s/\U.length<=60/\∀d∈U,B3 g o d:=by
 obtain⟨L,eL,l20,hL⟩:=ji (yh h).rw s;obtain⟨N,eN,n20,hN⟩:=ji (z9V h) s;have c:=comp_map (fi:=zY (zd zB (za (zc 8) zg))) (mp:=[some 5,some 6,none]) (fg:=xC 2) (fe:=wq (za (zc 0) (za (zd zM (za (zc 1) zg)) (za (zc 2) zg)))) (Z:=Z) (s:=s) (λd=>d) (λd=>D.tup [.int g,rD o,d]) (λd=>[some (.int g),some (.loc a),some d]) L (wY (by rw[yo (vr e.e8),eL];simp)) (λd _=>by simp[e.e5,e.e6]) (λd _=>by
  rw[jm,zj,vr (d:=.int g) rfl,Rb,zj,z9g fo rfl,Rb,zj,vr (d:=d) rfl,Rb,xc];simp[cap]) (by simp[cap];omega);refine⟨T++(L.map λd=>D.tup [.int g,rD o,d])++N,?_,by simp;omega,λd hd s=>?_⟩;·rw[jh,yD,op2 (x:=.lst (T++L.map λd=>D.tup [.int g,rD o,d])) (y:=.lst N) (by rw[op2 (vr h13) c,jF,_o (by simp[cap];omega)]) (by rw[yo (vr h12),eN]),jF,_o (by simp[cap];omega),Rb]
 ·rcases _i.mp hd with hd | hd
  ·rcases _i.mp hd with hd | hd;·exact bT d hd s
   ·obtain⟨z,hz,rfl⟩:=_r.mp hd;exact zbX h (hL z hz)
  ·exact zaZ h (hN d hd)
theorem l25 (h:Lo n g o k) (e:En ns l n k g a o b Z) (fo:s[a]? = some (iL o)) {T:List D} (hT:T.length<=60) (bT:∀d∈T,B3 g o d) (h13:Z[13]? = some (some (.lst T))):∃U,jd Z s=.ok (.nx (Z.set 13 (some (.loc s.length)))) (s++[U])/\U.length<=62/\∀d∈U,B3 g o d:=by
 have t:wz (za (wq (za (eOp dEq (zc 5) (eC (.int 1))) (za (zd zM (za (zc 6) zg)) (za (zc 8) zg)))) (za (wq (za (eOp z25 (eC (.int 0)) (zc 5)) (za (zd zM (za (zc 6) zg)) (za (zc 8) zg)))) zg)) Z s=.ok (.lst [.tup [.bl (decide (g=1)),rD o,rD (zO n k)],.tup [.int (0-g),rD o,rD (zO n k)]]) s:=by
  have t1:wq (za (eOp dEq (zc 5) (eC (.int 1))) (za (zd zM (za (zc 6) zg)) (za (zc 8) zg))) Z s=.ok (.tup [.bl (decide (g=1)),rD o,rD (zO n k)]) s:=by
   rw[jm,zj,op2 (x:=.int g) (y:=.int 1) (vr e.e5) rfl,z67,Rb,zj,z9g fo e.e6,Rb,zj,vr e.e8,Rb,xc];simp[cap]
  have t2:wq (za (eOp z25 (eC (.int 0)) (zc 5)) (za (zd zM (za (zc 6) zg)) (za (zc 8) zg))) Z s=.ok (.tup [.int (0-g),rD o,rD (zO n k)]) s:=by
   rw[jm,zj,op2 (x:=.int 0) (y:=.int g) rfl (vr e.e5),z2I,Rb,zj,z9g fo e.e6,Rb,zj,vr e.e8,Rb,xc];simp[cap]
  rw[jN,zj,t1,Rb,zj,t2,Rb,xc];simp[cap]
 have bU:∀d∈T++[.tup [.bl (decide (g=1)),rD o,rD (zO n k)],.tup [.int (0-g),rD o,rD (zO n k)]],B3 g o d:=λd hd s=>by
  rcases _i.mp hd with hd | hd;·exact bT d hd s
  ·simp only[_p,_E,_aB]at hd;rcases hd with rfl | rfl;·exact zbE h _
   ·exact zaE h h.row (yh h)
 refine⟨T++[.tup [.bl (decide (g=1)),rD o,rD (zO n k)],.tup [.int (0-g),rD o,rD (zO n k)]],?_,by simp;omega,bU⟩;rw[jd,yD,op2 (vr h13) t];simp only[z3M,Dd.listOf];rw[_o ⟨by simp[cap];omega,xS λd hd=>ut (bU d hd s).rep⟩,Rb]
theorem l26 (h:Lo n g o k) (e:En ns l n k g a o b Z) (fo:s[a]? = some (iL o)):qR Z s=.ok (.nx (Z.set 14 (some (.lst [rD (o.map λx=>0-x),rD ((zO n k).map λx=>0-x)])))) s:=by
 have n4:n<=4:=by have:=h.sz;unfold Sz at this;omega
 have inner:∀(d:D) (G:List (Nat×List D)) (r:List Int),r.length<=4->zY (zc 0) [some d] s=.ok (iL r,G) s->okG G (iL r) s->zd zM (za (zQ (zY (zc 0)) [none] (xC 0) yJ (eOp z25 (eC (.int 0)) (zc 0))) zg) [some d] s=.ok (rD (r.map λx=>0-x)) s:=λd G r hr hi og=>by
  have c:=Po.z1h (G:=G) (fi:=zY (zc 0)) (mp:=[none]) (fg:=xC 0) (fe:=eOp z25 (eC (.int 0)) (zc 0)) (Z:=[some d]) (s:=s) D.int (λx=>D.int (0-x)) (λx=>[some (.int x)]) r hi og (λx _=>by simp) (λx _=>by rw[op2 (x:=.int 0) (y:=.int x) rfl (vr rfl),z2I]) (by simp[cap];omega);have c2:r.map (λx=>D.int (0-x))=iL (r.map λx=>0-x):=by simp[iL,_ag]
  rw[c2]at c;rw[yo c,uq]
 have c:=comp_map (fi:=zY (wq (za (zc 6) (za (zc 8) zg)))) (mp:=[none]) (fg:=xC 0) (fe:=zd zM (za (zQ (zY (zc 0)) [none] (xC 0) yJ (eOp z25 (eC (.int 0)) (zc 0))) zg)) (Z:=Z) (s:=s) (λp:D×List Int=>p.1) (λp=>rD (p.2.map λx=>0-x)) (λp=>[some p.1]) [(.loc a,o),(rD (zO n k),zO n k)] (uy (by
   rw[jm,zj,vr e.e6,Rb,zj,vr e.e8,Rb,xc];simp[cap])) (λp _=>by simp) (λp hp=>by
  simp only[_p,_E,_aB]at hp;rcases hp with rfl | rfl;·exact inner _ [(a,iL o)] o (by rw[h.len];exact n4) (by simp[fo]) (by intro p hp;simp at hp;rw[hp];exact fo)
  ·exact inner _ [] (zO n k) (by rw[(yh h).len];exact n4) (by simp) (by intro p hp;simp at hp)) (by simp[cap]);rw[qR,yD,c,Rb];rfl
theorem l27 (h:Lo n g o k) (e:En ns l n k g a o b Z) {U:List D} (hU:U.length<=62) (bU:∀d∈U,B3 g o d) (h13:Z[13]? = some (some (.loc s.length))) (h14:Z[14]? = some (some (.lst [rD (o.map λx=>0-x),rD ((zO n k).map λx=>0-x)]))): ∃V,qO Z (s++[U])=.ok (.nx Z) (s++[V])/\∀d∈V,B3 g o d:=by
 have bN:B3 g o (.tup [.int (0-g),rD (o.map λx=>0-x),rD ((zO n k).map λx=>0-x)]):=λs=>zaE h (z5B h.row) (z5B (yh h));have t:wq (za (eOp z25 (eC (.int 0)) (zc 5)) (za (eOp dIx (zc 14) (eC (.int 0))) (za (eOp dIx (zc 14) (eC (.int 1))) zg))) Z (s++[U])=.ok (.tup [.int (0-g),rD (o.map λx=>0-x),rD ((zO n k).map λx=>0-x)]) (s++[U]):=by
  rw[jm,zj,op2 (x:=.int 0) (y:=.int g) rfl (vr e.e5),z2I,Rb,zj,op2 (y:=.int 0) (vr h14) rfl,uk (by decide) rfl,Rb,zj,op2 (y:=.int 1) (vr h14) rfl,uk (by decide) rfl,Rb,xc];simp[cap]
 refine⟨U++[.tup [.int (0-g),rD (o.map λx=>0-x),rD ((zO n k).map λx=>0-x)]],?_,λd hd=>?_⟩
 ·rw[qO,jY,z1O,vr h13,Rb];simp only;rw[t,Rb];have gT:(s++[U])[s.length]? = some U:=by simp
  rw[gT];simp only;rw[_o ⟨ut (bN s).rep,by simp[cap];omega⟩,Rb];simp
 ·rcases _i.mp hd with hd | hd;·exact bU d hd
  ·simp only[_aP]at hd;rw[hd];exact bN
theorem l28 (e:En ns l n k g a o b Z) {V:List D} (bV:∀d∈V,B3 g o d) (h13:Z[13]? = some (some (.loc s.length))):qN Z (s++[V])=.ok (.nx Z) (s++[V]):=by
 rw[qN,z4d];·rfl
 ·refine z0L (xu ?_);rw[z55 (x:=.int ((3:Nat):Int)) (y:=rD (yX g o)) (z:=.loc s.length) rfl (vr e.e7) (vr h13)];exact jG (by decide) (L:=V) (.inr ⟨s.length,rfl,by simp⟩) λd hd=>⟨(bV d hd (s++[V])).rep,(bV d hd (s++[V])).no⟩
end
def ShL(ns:List Int)(Z:Ev):Prop:=Z.length=15/\Z[0]? = some (some (.scr (ns.map D.int)))
theorem gs{Z:Ev}{i j:Nat}{x:Option D}{d:Option D}(h:i≠j)(e:Z[j]? = some d):(Z.set i x)[j]? = some d:=by rw[_f h];exact e
theorem ga{Z:Ev}{i:Nat}{x:Option D}(h:i<Z.length):(Z.set i x)[i]? = some x:=_v h
def z6n:D->Ev->Sto->R Fl:=λd Z s=>(xC 1 d Z s).bind λZ' s'=>(zX z0g (zX z0V (zX z0J (zX z0s (zX z0x (zX z0G (zX z0D (zX z0B (zX qP (zX qZ (zX qT (zX qY (zX jg (zX qU (zX jh (zX jd (zX qR (zX qO qN)))))))))))))))))) Z' s'
theorem z1Z (ns:List Int) (j:Nat) (Z:Ev) (s:Sto) (h:ShL ns Z):∃Z' s',z6n (.int (j:Int)) Z s=.ok (.nx Z') s'/\ShL ns Z':=by
 obtain⟨h15,h0⟩:=h;obtain⟨c,e1⟩:=z9r ns j s;obtain⟨p,e2⟩:=zbz c s;generalize hl:s.length=l at e2;have pt:Pot (s++[[.int p]]) l:=⟨p,by rw[<- hl];simp⟩;have f2:z0g (Z.set 1 (some (.int (j:Int)))) s=.ok (.nx ((Z.set 1 (some (.int (j:Int)))).set 2 (some (.loc l)))) (s++[[.int p]]):=by rw[z0g,yD,yo (x:=.int c) (by rw[call2 (x:=.scr (ns.map D.int)) (y:=.int (j:Int)) (vr (gs (by decide) h0)) (vr (ga (by omega)))];exact e1),e2,Rb]
 generalize hZ2:(Z.set 1 (some (.int (j:Int)))).set 2 (some (.loc l))=Z2 at f2;have L2':Z2.length=15:=by rw[<- hZ2];simp[h15]
 have a0:Z2[0]? = some (some (.scr (ns.map D.int))):=by rw[<- hZ2];exact gs (by decide) (gs (by decide) h0)
 have a2:Z2[2]? = some (some (.loc l)):=by rw[<- hZ2];exact ga (by simp[h15])
 obtain⟨n,s3,hn,d3,f3⟩:=l3 pt a2;generalize hZ3:Z2.set 3 (some (.int (n:Int)))=Z3 at f3;have L3:Z3.length=15:=by rw[<- hZ3];simp[L2']
 have b0:Z3[0]? = some (some (.scr (ns.map D.int))):=by rw[<- hZ3];exact gs (by decide) a0
 have b2:Z3[2]? = some (some (.loc l)):=by rw[<- hZ3];exact gs (by decide) a2
 have b3:Z3[3]? = some (some (.int (n:Int))):=by rw[<- hZ3];exact ga (by simp[L2'])
 obtain⟨k,g,s4,hk,g1,g2,d4,f4⟩:=l4 hn d3.pot b2 b3;generalize hZ4:(Z3.set 4 (some (.int (k:Int)))).set 5 (some (.int g))=Z4 at f4;have L4:Z4.length=15:=by rw[<- hZ4];simp[L3]
 have c0:Z4[0]? = some (some (.scr (ns.map D.int))):=by rw[<- hZ4];exact gs (by decide) (gs (by decide) b0)
 have c2:Z4[2]? = some (some (.loc l)):=by rw[<- hZ4];exact gs (by decide) (gs (by decide) b2)
 have c3:Z4[3]? = some (some (.int (n:Int))):=by rw[<- hZ4];exact gs (by decide) (gs (by decide) b3)
 have c4:Z4[4]? = some (some (.int (k:Int))):=by rw[<- hZ4];exact gs (by decide) (ga (by omega))
 have c5:Z4[5]? = some (some (.int g)):=by rw[<- hZ4];exact ga (by simp[L3])
 obtain⟨ys,s5,hy,yb,d5,f5⟩:=l5 hn d4.pot c2 c3;generalize ha:s5.length=a at f5;generalize hZ5:Z4.set 6 (some (.loc a))=Z5 at f5;have L5:Z5.length=15:=by rw[<- hZ5];simp[L4]
 have x0:Z5[0]? = some (some (.scr (ns.map D.int))):=by rw[<- hZ5];exact gs (by decide) c0
 have x2:Z5[2]? = some (some (.loc l)):=by rw[<- hZ5];exact gs (by decide) c2
 have x3:Z5[3]? = some (some (.int (n:Int))):=by rw[<- hZ5];exact gs (by decide) c3
 have x4:Z5[4]? = some (some (.int (k:Int))):=by rw[<- hZ5];exact gs (by decide) c4
 have x5:Z5[5]? = some (some (.int g)):=by rw[<- hZ5];exact gs (by decide) c5
 have x6:Z5[6]? = some (some (.loc a)):=by rw[<- hZ5];exact ga (by omega)
 have at5:(s5++[iL ys])[a]? = some (iL ys):=by rw[<- ha];simp
 have f6:z0x Z5 (s5++[iL ys])=.ok (.nx Z5) ((s5++[iL ys]).set a (iL (ys.set k 1))):=by
  have:=z4l (fa:=zc 6) (fb:=zc 4) (fc:=eC (.int 1)) (Z:=Z5) (s:=s5++[iL ys]) (xs:=ys) (i:=(k:Int)) (x:=1) rfl (vr x6) (vr x4) at5 (by omega) (by rw[hy];omega);rw[z0x,this,_at]
 have lo:Lo n g (ys.set k 1) k:=⟨hn,by simp[hy],hk,by rw[_aC,_v (by omega)];rfl,λx hx=>by
  rcases _aY hx with q | q;·exact yb x q
  ·rw[q];decide,g1,g2⟩;generalize hoe:ys.set k 1=o at f6 lo;have n4:n<=4:=by unfold Sz at hn;omega
 have al:l<a:=by rw[<- ha,d5.len];exact d4.pot.lt
 have fo6:((s5++[iL ys]).set a (iL o))[a]? = some (iL o):=by rw[_v (by simp[<- ha])]
 have pot6:Pot ((s5++[iL ys]).set a (iL o)) l:=by
  obtain⟨q,eq⟩:=d5.pot.app [iL ys];exact⟨q,by rw[_f (by omega)];exact eq⟩
 have len6:((s5++[iL ys]).set a (iL o)).length=a+1:=by simp[<- ha]
 generalize (s5++[iL ys]).set a (iL o)=s6 at f6 fo6 pot6 len6;have f7:=l7 (s:=s6) (by rw[lo.len];exact n4) lo.row.bd (vU lo.gbd) x5 x6 fo6;generalize hZ7:Z5.set 7 (some (rD (yX g o)))=Z7 at f7;have L7:Z7.length=15:=by rw[<- hZ7];simp[L5]
 have y3:Z7[3]? = some (some (.int (n:Int))):=by rw[<- hZ7];exact gs (by decide) x3
 have y4:Z7[4]? = some (some (.int (k:Int))):=by rw[<- hZ7];exact gs (by decide) x4
 have f8:=l8 (s:=s6) n4 y3 y4;have f9:=l9 (Z:=Z7.set 8 (some (rD (zO n k)))) (s:=s6);rw[len6]at f9;have en:En ns l n k g a o (a+1) ((Z7.set 8 (some (rD (zO n k)))).set 9 (some (.loc (a+1)))):=by
  refine⟨by simp[L7],?_,?_,?_,?_,?_,?_,?_,?_,?_⟩;·exact gs (by decide) (gs (by decide) (by rw[<- hZ7];exact gs (by decide) x0))
  ·exact gs (by decide) (gs (by decide) (by rw[<- hZ7];exact gs (by decide) x2))
  ·exact gs (by decide) (gs (by decide) y3)
  ·exact gs (by decide) (gs (by decide) y4)
  ·exact gs (by decide) (gs (by decide) (by rw[<- hZ7];exact gs (by decide) x5))
  ·exact gs (by decide) (gs (by decide) (by rw[<- hZ7];exact gs (by decide) x6))
  ·exact gs (by decide) (gs (by decide) (by rw[<- hZ7];exact ga (by omega)))
  ·exact gs (by decide) (ga (by omega))
  ·exact ga (by simp[L7])
 generalize (Z7.set 8 (some (rD (zO n k)))).set 9 (some (.loc (a+1)))=Z9 at f9 en;have S9:St (s6++[[]]) l a (a+1) o []:=⟨pot6.app _,by rw[_x (by omega)];exact fo6,by rw[<- len6];simp,by omega,by omega,by omega⟩;obtain⟨Z10,s10,f10,en10,S10⟩:=l10 lo en S9;have f15:=l15 (s:=s10) lo en10;obtain⟨Z17,f17,en17⟩:=l17 lo en10 S10;have f20:=l20 (s:=s10) en17 S10.fo;have en20:=en17.set (i:=12) (d:=.tup (shO n k g o)) (by decide);have z12:=en17.at_ (i:=12) (d:=.tup (shO n k g o)) (by decide);generalize Z17.set 12 (some (.tup (shO n k g o)))=Z20 at f20 en20 z12;obtain⟨s21,f21,S21⟩:=l21 lo en20 S10 z12;obtain⟨T,f23,lT,bT⟩:=l23 lo en20 S21.fo;have en23:=en20.set (i:=13) (d:=.lst T) (by decide);have z13:=en20.at_ (i:=13) (d:=.lst T) (by decide);have z12':(Z20.set 13 (some (.lst T)))[12]? = some (some (.tup (shO n k g o))):=gs (by decide) z12;generalize Z20.set 13 (some (.lst T))=Z23 at f23 en23 z13 z12';obtain⟨U,f24,lU,bU⟩:=l24 lo en23 S21.fo lT bT z12' z13;have en24:=en23.set (i:=13) (d:=.lst U) (by decide);have w13:=en23.at_ (i:=13) (d:=.lst U) (by decide);generalize Z23.set 13 (some (.lst U))=Z24 at f24 en24 w13;obtain⟨V,f25,lV,bV⟩:=l25 lo en24 S21.fo lU bU w13;have en25:=en24.set (i:=13) (d:=.loc s21.length) (by decide);have v13:=en24.at_ (i:=13) (d:=.loc s21.length) (by decide);generalize Z24.set 13 (some (.loc s21.length))=Z25 at f25 en25 v13;have f26:=l26 (s:=s21++[V]) lo en25 (S21.app [V]).fo;have en26:=en25.set (i:=14) (d:=.lst [rD (o.map λx=>0-x),rD ((zO n k).map λx=>0-x)]) (by decide);have u14:=en25.at_ (i:=14) (d:=.lst [rD (o.map λx=>0-x),rD ((zO n k).map λx=>0-x)]) (by decide);have u13:(Z25.set 14 (some (.lst [rD (o.map λx=>0-x),rD ((zO n k).map λx=>0-x)])))[13]? = some (some (.loc s21.length)):=gs (by decide) v13;generalize Z25.set 14 (some (.lst [rD (o.map λx=>0-x),rD ((zO n k).map λx=>0-x)]))=Z26 at f26 en26 u14 u13;obtain⟨W,f27,bW⟩:=l27 lo en26 lV bV u13 u14;have f28:=l28 en26 bW u13;refine⟨Z26,s21++[W],?_,en26.len,en26.e0⟩;rw[z6n,z03,Rb];rw[zr f2,zr f3,zr f4,zr f5,zr f6,zr f7,zr f8,zr f9,zr f10,zr f15,zr f17,zr f20,zr f21,zr f23,zr f24,zr f25,zr f26,zr f27];exact f28
theorem z8Y(n:Nat)(b:Nat):∃k:Nat,(if (if (b:Int)<(n:Int) then (b:Int) else n) > 1 then (if (b:Int)<(n:Int) then (b:Int) else n) else 1)=(k:Int)/\k<=b+1:=by
 by_cases h:(b:Int)<n
 ·rw[_o h];by_cases h2:(b:Int) > 1;·exact⟨b,by rw[_o h2],by omega⟩
  ·exact⟨1,by rw[_I h2];rfl,by omega⟩
 ·rw[_I h];by_cases h2:(n:Int) > 1;·exact⟨n,by rw[_o h2],by omega⟩
  ·exact⟨1,by rw[_I h2];rfl,by omega⟩
theorem zcB (ns:List Int) (k:Nat) (Z:Ev) (s:Sto) (h:ShL ns Z):∃Z' s',wF [] (yK k) z6n (yK k) Z s=.ok (.nx Z') s':=by
 obtain⟨Z',s',e,_⟩:=z2Y (all:=yK k) (body:=z6n) (λZ _=>ShL ns Z) (yK k) (λx hx Z s hI=>by
  obtain⟨j,_,rfl⟩:=z42 hx;exact z1Z ns j Z s hI) Z s h;exact⟨Z',s',e⟩
theorem z6y:∀ns:List Int,ns.length<=63->∃s',z8p [.scr (ns.map D.int)] []=.ok (.bl true) s':=λns hn=>by
 obtain⟨k,ek,hk⟩:=z8Y ns.length 6;rw[show ((6:Nat):Int)=6 from rfl]at ek;have key:∀Z:Ev,ShL ns Z->∃Z' s',z2g Z []=.ok (.nx Z') s':=λZ h=>by
  obtain⟨Z',s',e⟩:=zcB ns k Z [] h;refine⟨Z',s',?_⟩;rw[z2g,z0b,z76 (n:=k) (s1:=[]) (by omega) (by simp only[wG,zj,xc,z5H,vr h.2,Rb,yH,zI,_Y,z6M,z6v,ek]),Rb];exact e
 have st:zD ["_law_script","_law_k","_law_pot_here","_law_size","_law_at","_law_least","_law_often","_law_lot","_law_ones","_law_rows","_law_other","_law_row","_law_shown","_law_things","_law_minus"] [.scr (ns.map D.int)]=[some (.scr (ns.map D.int)),none,none,none,none,none,none,none,none,none,none,none,none,none,none]:=rfl;obtain⟨Z',s',e⟩:=key [some (.scr (ns.map D.int)),none,none,none,none,none,none,none,none,none,none,none,none,none,none] ⟨rfl,rfl⟩;refine⟨s',?_⟩;have la:z2Z Z' s'=.ok (.rt (.bl true)) s':=by simp
 unfold z8p Mof z6W;rw[_o (by rfl),st,zr e,la]
end K93
namespace K93
open L2 Dd Pg
theorem all_mk {P:Program} {w:World} {K:W.Frag} {h:Heap} {mg:Str->Option Value} {fa:Addr} (X:K.In h) (G:h.Ns mainGlobals mg) (hfa:mg "law"=some (.ref fa)) (e:z69 askQ K=valS askQ w) : ∃fd:FuncData,(∀(s:Shared) (v:Value),BindsTo s fd ⟨[v],[]⟩ [("_law_script",v)])/\∀base:Heap,K.In base->base.Ns mainGlobals mg->z0Z P w K mg base CX0 9 fa fd ["_law_script"] (z8i K):=by
 obtain⟨f0,d0,a0,F0⟩:=yt X G e 0 rfl;obtain⟨f1,d1,a1,F1⟩:=yt X G e 1 rfl;obtain⟨f2,d2,a2,F2⟩:=yt X G e 2 rfl;obtain⟨f3,d3,a3,F3⟩:=yt X G e 3 rfl;obtain⟨f4,d4,a4,F4⟩:=yt X G e 4 rfl;obtain⟨f5,d5,a5,F5⟩:=yt X G e 5 rfl;obtain⟨f6,d6,a6,F6⟩:=yt X G e 6 rfl;obtain⟨f7,d7,a7,F7⟩:=yt X G e 7 rfl;obtain⟨f8,d8,a8,F8⟩:=yt X G e 8 rfl;obtain⟨f9,d9,a9,F9⟩:=yt X G e 9 rfl;obtain⟨f10,d10,a10,F10⟩:=yt X G e 10 rfl;obtain⟨f11,d11,a11,F11⟩:=yt X G e 11 rfl;obtain⟨f12,d12,a12,F12⟩:=yt X G e 12 rfl;obtain⟨f13,d13,a13,F13⟩:=yt X G e 13 rfl;obtain⟨f14,d14,a14,F14⟩:=yt X G e 14 rfl;obtain⟨f15,d15,a15,F15⟩:=yt X G e 15 rfl;obtain⟨f16,d16,a16,F16⟩:=yt X G e 16 rfl;obtain⟨f17,d17,a17,F17⟩:=yt X G e 17 rfl;obtain⟨f18,d18,a18,F18⟩:=yt X G e 18 rfl;obtain⟨f19,d19,a19,F19⟩:=yt X G e 19 rfl;obtain⟨f20,d20,a20,F20⟩:=yt X G e 20 rfl;obtain⟨f21,d21,a21,F21⟩:=yt X G e 21 rfl;obtain⟨f22,d22,a22,F22⟩:=yt X G e 22 rfl;obtain⟨f23,d23,a23,F23⟩:=yt X G e 23 rfl;obtain⟨f24,d24,a24,F24⟩:=yt X G e 24 rfl;have e0:=hfa.symm.trans a24;cases e0;obtain⟨oc,od,kV,doc,pm,an,cdv,ct,osl,rfl,hl,hc⟩:=F24.ex;have T:Txt mg:=⟨z79 X G e 0 rfl,z79 X G e 1 rfl,wb X G e 0 rfl,wb X G e 1 rfl,wb X G e 2 rfl,wb X G e 3 rfl,wb X G e 4 rfl,wb X G e 5 rfl,wb X G e 6 rfl,wb X G e 7 rfl,wb X G e 8 rfl,wb X G e 9 rfl,wb X G e 10 rfl,wb X G e 11 rfl,wb X G e 12 rfl,wb X G e 13 rfl,wb X G e 14 rfl⟩;refine⟨W.fnOf "law" "law" (uL kJ) (vd kJ) (zk kJ) .none kV doc pm an cdv ct,λs v=>.of_eq rfl,λbase _ _=>?_⟩;have H0:=z1B (P:=P) (w:=w) (base:=base) T F0 a0;have H1:=z1v (P:=P) (w:=w) (base:=base) T F1 a1;have H2:=uX (P:=P) (w:=w) (base:=base) T F2 a2;have H3:=z1N (P:=P) (w:=w) (base:=base) T F3 a3;have H4:=z24 (P:=P) (w:=w) (base:=base) T F4 a4;have H5:=z2m (P:=P) (w:=w) (base:=base) T F5 a5;have H6:=qJ (P:=P) (w:=w) (base:=base) T F6 a6;have H7:=z1H (P:=P) (w:=w) (base:=base) T F7 a7;have H8:=z0f (P:=P) (w:=w) (base:=base) T F8 a8;have H9:=km (P:=P) (w:=w) (base:=base) T F9 a9;have H10:=kA (P:=P) (w:=w) (base:=base) T F10 a10 H0;have H11:=z0y (P:=P) (w:=w) (base:=base) T F11 a11 H4 H5;have H12:=z0Q (P:=P) (w:=w) (base:=base) T F12 a12 H9;have H13:=qE (P:=P) (w:=w) (base:=base) T F13 a13 H8;have H14:=z3u (P:=P) (w:=w) (base:=base) T F14 a14 H1 H10;have H15:=z21 (P:=P) (w:=w) (base:=base) T F15 a15 H3 H10;have H16:=z1P (P:=P) (w:=w) (base:=base) T F16 a16 H14;have H17:=z3Z (P:=P) (w:=w) (base:=base) T F17 a17 H2 H16;have H18:=jP (P:=P) (w:=w) (base:=base) T F18 a18 H15 H16;have H19:=ku (P:=P) (w:=w) (base:=base) T F19 a19 H0 H10 H15 H16;have H20:=jJ (P:=P) (w:=w) (base:=base) T F20 a20 H15 H16 H17;have H21:=z2u (P:=P) (w:=w) (base:=base) T F21 a21 H3 H11 H16 H17 H18;have H22:=qw (P:=P) (w:=w) (base:=base) T F22 a22 H18 H19 H20 H21;have H23:=vI (P:=P) (w:=w) (base:=base) T F23 a23 H8 H12 H13 H21 H22;have H24:=z3n (P:=P) (w:=w) (base:=base) T F24 a24 H6 H7 H8 H12 H18 H19 H20 H22 H23;exact zaz (x:="law") H24 z6y
theorem boot_:∀w:World,(W.fencedOpening treeTable PySem.Challenge.pw_drawndown_k93_truths_are_no_weights w 2496).map (λs=>(s.heap,s.gens,s.drawn,s.toks))=some (W.boot_heap w.params,Array.mk [],W.boot_drawn,W.boot_toks):= W.boot_open (by kernel_rfl) (by decide) (λs=>by kernel_rfl)
theorem left_:W.LeftO PySem.Challenge.pw_drawndown_k93_truths_are_no_weights qv looseQ xtQ (obsS askQ) (valS askQ) 2496:=z3Q boot_ (λw os=>z3p (f:=λs=>(seenQ s,obsS askQ s)) (zcI w) (bsz w) (z5C (z65 w os) (z6l w os)))
end K93
open PySem.W
set_option maxRecDepth 100000 in
set_option maxHeartbeats 0 in
theorem PySem.Challenge.cw_drawndown_k93_truths_are_no_weights_holds : PySem.Challenge.rw_drawndown_k93_truths_are_no_weights.Holds := by
  w_on; o_law
  refine holds_open (q := K93.qv) (loose := K93.looseQ) (Xt := K93.xtQ) (XP := XL K93.qv K93.lvQ) (Yf := Dd.obsS K93.askQ) (Ya := Dd.valS K93.askQ) (YP := Dd.saysS K93.askQ) (N := 2496) K93.left_ (Dd.z7y K93.askQ) (Dd.z3R K93.askQ) (λs e => xl_of s (Bool.and_eq_true_iff.mp e).1) XL.keeps (by rfl) (by rfl) (by rfl) (λs e => recFacts_of (Bool.and_eq_true_iff.mp e).2) (by rfl) (by first | assumption | decide +kernel) (by decide +kernel) ⟨rfl, rfl, rfl, rfl, rfl, by decide +kernel⟩ ?hw ?hc
  (case hw => w_witness2)
  refine Dd.walkY (l := PySem.Challenge.rw_drawndown_k93_truths_are_no_weights) (n := 63) (k := 9) (x := "_law_script") rfl (by decide) (by decide) rfl ⟨rfl, by decide, by decide, rfl⟩ ?F
  case F =>
    intro w mg fa h Yy G hmg XP
    obtain⟨K, KX, e⟩ := Yy
    exact⟨K, KX, K93.all_mk KX G hmg e ⟩
